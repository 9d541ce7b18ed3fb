import PyProof.Rows.All
import Wide.All
import OpenK.AllK
import Wide.FinOn
import Lean
import PyProof.EqAt
import PyProof.EqKinds
import PyProof.TupleCall
import PyProof.NeData
import PyProof.P3Eq
import PyProof.StrLawsIn
import PySem.Challenge.RW_beaconvale_k77_roads_walked
set_option Elab.async false
set_option linter.all false
set_option maxRecDepth 100000
set_option maxHeartbeats 4000000
set_option Elab.async false
set_option linter.all false
set_option maxRecDepth 100000
namespace L2
open PySem PySem.Spec PyProof.Rows
abbrev Key:=Sum Int Str
def zhg:Key->Value->Bool
 | .inl k,v=>Value.isInt k v
 | .inr x,v=>Value.isStrOf x v
def zvc (w:World):Key->Int
 | .inl k=>hashInt k
 | .inr x=>hashStr w x
theorem za1:∀ {k:Key} {v:Value},zhg k v=true->(∃ i t,k=Sum.inl i/\v=Value.int i t)\/(∃ x t,k=Sum.inr x/\v=Value.str x t)
 | .inl i,v,h=>by
  obtain⟨t,e⟩:=Value.isInt_shape (k:=i) (v:=v) h
  exact .inl ⟨i,t,rfl,e⟩
 | .inr x,v,h=>by
  obtain⟨t,e⟩:=Value.isStrOf_shape (x:=x) (v:=v) h
  exact .inr ⟨x,t,rfl,e⟩
theorem zoq (i:Int)(t:Tok):zhg (.inl i) (.int i t)=true:=by simp [zhg,Value.isInt]
theorem zom (x:Str)(t:Tok):zhg (.inr x) (.str x t)=true:=by simp [zhg,Value.isStrOf]
theorem zr5 (a b:Int):decide ((Sum.inl a:Key)=Sum.inl b)=(a==b):=by
 by_cases e:a=b
 ·subst e;simp
 ·have h:¬ (Sum.inl a:Key)=Sum.inl b:=fun q=>e (Sum.inl.inj q)
  rw [decide_eq_false h]
  exact (beq_eq_false_iff_ne.mpr e).symm
theorem zrI (a b:Str):decide ((Sum.inr a:Key)=Sum.inr b)=decide (a=b):=by
 by_cases e:a=b
 ·subst e;simp
 ·have h:¬ (Sum.inr a:Key)=Sum.inr b:=fun q=>e (Sum.inr.inj q)
  rw [decide_eq_false h,decide_eq_false e]
theorem zs4 (a:Int)(b:Str):decide ((Sum.inl a:Key)=Sum.inr b)=false:=decide_eq_false (fun q=>nomatch q)
theorem zsX (a:Str)(b:Int):decide ((Sum.inr a:Key)=Sum.inl b)=false:=decide_eq_false (fun q=>nomatch q)
def zbn (prog:Program)(w:World):PySem.KeyKind prog w Key where
  is:=zhg
  hash:=zvc w
  inj:=fun v a b ha hb=>by
    rcases za1 ha with ⟨i,t,rfl,rfl⟩ | ⟨x,t,rfl,rfl⟩
    · rcases za1 hb with ⟨j,u,rfl,e⟩ | ⟨y,u,rfl,e⟩
      · injection e with e1 _;rw [e1]
      · exact nomatch e
    · rcases za1 hb with ⟨j,u,rfl,e⟩ | ⟨y,u,rfl,e⟩
      · exact nomatch e
      · injection e with e1 _;rw [e1]
  byValue:=fun k v h=>by
    rcases za1 h with ⟨i,t,rfl,rfl⟩ | ⟨x,t,rfl,rfl⟩<;>rfl
  pyHash:=fun hv h=>by
    rcases za1 hv with ⟨i,t,rfl,rfl⟩ | ⟨x,t,rfl,rfl⟩
    · exact wpAny_pyHash_int h
    · exact wpAny_pyHash_str h
  eqBool:=fun hu hv h=>by
    rcases za1 hu with ⟨i,t,rfl,rfl⟩ | ⟨x,t,rfl,rfl⟩
    · rcases za1 hv with ⟨j,u,rfl,rfl⟩ | ⟨y,u,rfl,rfl⟩
      · rw [zr5] at h;exact wpAny_eqBool_int h
      · rw [zs4] at h;exact SeqAt.EqAt.int_str i t y u _ _ _ _ h
    · rcases za1 hv with ⟨j,u,rfl,rfl⟩ | ⟨y,u,rfl,rfl⟩
      · rw [zsX] at h;exact SeqAt.EqAt.str_int x t j u _ _ _ _ h
      · rw [zrI] at h;exact wpAny_eqBool_str h
  «strs»:=fun k x t v h=>by
    rcases za1 h with ⟨i,u,rfl,e⟩ | ⟨y,u,rfl,e⟩
    · exact nomatch e
    · injection e with e1 _
      subst e1
      cases v<;>rfl
theorem zll (prog:Program)(w:World)(i:Int)(t:Tok):(zbn prog w).is (.inl i) (.int i t)=true:=zoq i t
theorem zln (prog:Program)(w:World)(x:Str)(t:Tok):(zbn prog w).is (.inr x) (.str x t)=true:=zom x t
inductive V where
 | non | bl (b:Bool) | int (i:Int) | str (x:Str) | byt (b:Array UInt8) | flt (b:UInt64) | ref (a:Addr) | ty (n:String)
 deriving DecidableEq
def RelV:V->Value->Prop
 | .non,u=>u=Value.none
 | .bl b,u=>u=Value.bool b
 | .int i,u=>∃ t,u=Value.int i t
 | .str x,u=>∃ t,u=Value.str x t
 | .byt b,u=>∃ t,u=Value.bytes b t
 | .flt b,u=>∃ t,u=Value.float b t
 | .ref a,u=>u=Value.ref a
 | .ty n,u=>u=Value.type n
abbrev Vals:List V->List Value->Prop:=Paired RelV
theorem Vals.length {xs:List V}{us:List Value}(r:Vals xs us):xs.length=us.length:=Paired.length r
theorem Vals.get:∀ {xs:List V} {us:List Value} {i:Nat} {x:V},Vals xs us->xs[i]?=some x->∃ u,us[i]?=some u/\RelV x u
 | _,_,_,_,.nil,e=>by simp at e
 | _,_,0,_,.cons r _,e=>by simp at e;subst e;exact⟨_,rfl,r⟩
 | _,_,i+1,x,.cons _ t,e=>by
  obtain⟨u,h1,h2⟩:=Vals.get (i:=i) (x:=x) t (by simpa using e)
  exact⟨u,by simpa using h1,h2⟩
theorem Vals.set {x:V}{u:Value}(r:RelV x u):∀ {xs:List V} {us:List Value} (i:Nat),Vals xs us->Vals (xs.set i x) (us.set i u)
 | _,_,_,.nil=>.nil
 | _,_,0,.cons _ t=>.cons r t
 | _,_,i+1,.cons q t=>.cons q (Vals.set r i t)
theorem Vals.append:∀ {xs ys:List V} {us ws:List Value},Vals xs us->Vals ys ws->Vals (xs++ys) (us++ws)
 | _,_,_,_,.nil,s=>s
 | _,_,_,_,.cons r t,s=>.cons r (Vals.append t s)
theorem Vals.take:∀ {xs:List V} {us:List Value} (n:Nat),Vals xs us->Vals (xs.take n) (us.take n)
 | _,_,0,_=>.nil
 | _,_,_+1,.nil=>.nil
 | _,_,n+1,.cons r t=>.cons r (Vals.take n t)
theorem Vals.drop:∀ {xs:List V} {us:List Value} (n:Nat),Vals xs us->Vals (xs.drop n) (us.drop n)
 | _,_,0,r=>r
 | _,_,_+1,.nil=>.nil
 | _,_,n+1,.cons _ t=>Vals.drop n t
def zdF:Option V->Option Value->Prop
 | some v,some u=>RelV v u
 | none,none=>True
 | _,_=>False
def KV {κ:Type}:List (κ×V)->List (κ×Value)->Prop:=Paired fun (p:κ×V) (q:κ×Value)=>p.1=q.1/\RelV p.2 q.2
def kV:Key->V
 | .inl i=>.int i
 | .inr x=>.str x
inductive HO where
 | lst (xs:List V)
 | tup (xs:List V)
 | dK (kvs:List (Key×V)) | dT (kvs:List (List Key×V))
 | set (S:Int->Bool) (n:Nat)
 | ins (C dx:Addr) (fs:List (Str×V))
 | own (x:Addr)
 | xd (fs:List (Str×V))
 | met (f x:Addr)
 | rng (lo hi:Int)
 | frz (o:Obj) (u:HO)
 | tbl (ps:Array Value)
 | ext (φ:Heap->Prop)
abbrev Hp:=Addr->Option HO
def upd (H:Hp)(a:Addr)(o:HO):Hp:=fun b=>if b=a then some o else H b
theorem zaq {H:Hp}{a:Addr}{o:HO}:upd H a o a=some o:=by unfold upd;rw [if_pos rfl]
theorem zT {H:Hp}{a b:Addr}{o:HO}(h:b≠a):upd H a o b=H b:=by unfold upd;rw [if_neg h]
theorem zeg {H:Hp}{a b:Addr}{o u:HO}(h:H a=some o)(h':H b=some u)(d:o≠u):a≠b:=by
 intro e;subst e;rw [h] at h';exact d (Option.some.inj h')
theorem zbg {H:Hp}{a b:Addr}{o:HO}(h:H a=some o)(h':H b=none):a≠b:=by
 intro e;subst e;rw [h] at h';cases h'
section
variable (P:Program)(w:World)
def zay (H:Hp)(h:Heap)(a:Addr):HO->Prop
 | .lst xs=>xs.length<=sizeLine/\∃ (its:List Value) (n:Nat),Vals xs its/\h.get? a=some { cls:=.type "list",data:=.seq its.toArray n }
 | .tup xs=>xs.length<=sizeLine/\∃ its:List Value,Vals xs its/\IsTup h a its.toArray
 | .dK kvs=>kvs.length<=sizeLine/\(a==sysModules)=false/\∃ vs,KV kvs vs/\h.DictOf (zbn P w) a vs
 | .dT kvs=>kvs.length<=sizeLine/\(a==sysModules)=false/\∃ xs:List (List Key×Addr×Value),
   Paired (fun (p:List Key×V) (q:List Key×Addr×Value)=>p.1=q.1/\H q.2.1=some (.tup (p.1.map kV))/\RelV p.2 q.2.2) kvs xs /\
   ∃ o es ep,h.get? a=some o/\o.ExactDict/\o.data=.dict es ep/\es.toList=xs.map (entryOfKey (tupleKind (zbn P w)))/\(xs.map (·.1)).Nodup
 | .set S n=>h.SetOf (intKind P w) a S n
 | .ins C dx fs=>H dx=some (.own a)/\fs.length<=1000/\dx≠a/\h.get? a=some (PySem.W.instObj C dx) /\
   ∃ mA,h.Ns1 dx mA/\(∀ f,zdF (fs.lookup f) (mA f))/\PySem.Within mA (fs.map (·.1))
 | .own _=>∃ o,h.get? a=some o
 | .xd fs=>∃ mA,h.Ns1 a mA/\∀ f,zdF (fs.lookup f) (mA f)
 | .rng lo hi=>∃ t u v,h.get? a=some { cls:=.type "range",data:=.fields #[.int lo t,.int hi u,.int 1 v] }
 | .frz o u=>h.get? a=some o/\zay H h a u
 | .tbl ps=>h.get? a=some { cls:=.none,data:=.fields ps }
 | .met f x=>h.get? a=some (PySem.W.methodObj (.ref f) (.ref x))
 | .ext φ=>φ h/\(∃ o,h.get? a=some o)/\∀ h1 h2:Heap,φ h1->(∀ o,h1.get? a=some o->h2.get? a=some o)->φ h2
def HOk (H:Hp)(h:Heap):Prop:=∀ a o,H a=some o->zay P w H h a o
end
section
variable {P:Program}{w:World}{H H':Hp}{h h':Heap}{a:Addr}{o:HO}
theorem zay.lt (x:zay P w H h a o):a<h.objs.size:=by
 cases o with
 | lst xs=>obtain⟨_,_,_,_,e⟩:=x;exact Heap.lt_size e
 | tup xs=>obtain⟨_,_,_,p⟩:=x;exact p.lt
 | dK kvs=>obtain⟨_,_,_,_,o,_,_,e,_⟩:=x;exact Heap.lt_size e
 | dT kvs=>obtain⟨_,_,_,_,o,_,_,e,_⟩:=x;exact Heap.lt_size e
 | set S n=>obtain⟨o,_,_,_,e,_⟩:=x;exact Heap.lt_size e
 | ins C dx fs=>obtain⟨_,_,_,e,_⟩:=x;exact Heap.lt_size e
 | own y=>obtain⟨_,e⟩:=x;exact Heap.lt_size e
 | xd fs=>obtain⟨_,⟨_,_,_,e,_⟩,_⟩:=x;exact Heap.lt_size e
 | rng lo hi=>obtain⟨_,_,_,e⟩:=x;exact Heap.lt_size e
 | frz ob u=>obtain⟨e,_⟩:=x;exact Heap.lt_size e
 | tbl ps=>exact Heap.lt_size (show h.get? a=some _ from x)
 | met f y=>exact Heap.lt_size (show h.get? a=some _ from x)
 | ext φ=>obtain⟨_,⟨_,e⟩,_⟩:=x;exact Heap.lt_size e
theorem Paired.mapP {α β:Type}{F G:α->β->Prop}:∀ {l₁:List α} {l₂:List β},Paired F l₁ l₂->(∀ a b,F a b->G a b)->Paired G l₁ l₂
 | _,_,.nil,_=>.nil
 | _,_,.cons r t,f=>.cons (f _ _ r) (Paired.mapP t f)
theorem zay.stay (x:zay P w H h a o)(k:∀ b u,(b=a\/H b=some (.own a))->h.get? b=some u->h'.get? b=some u)
  (ho:∀ b,H b=some (.own a)->H' b=some (.own a)) (ht:∀ b xs,H b=some (.tup xs)->H' b=some (.tup xs)):zay P w H' h' a o:=by
 induction o with
 | lst xs=>obtain⟨z,its,n,r,e⟩:=x;exact⟨z,its,n,r,k _ _ (.inl rfl) e⟩
 | tup xs=>obtain⟨z,its,r,ob,e,c⟩:=x;exact⟨z,its,r,ob,k _ _ (.inl rfl) e,c⟩
 | dK kvs=>obtain⟨z,y,vs,r,ob,es,ep,e,c⟩:=x;exact⟨z,y,vs,r,ob,es,ep,k _ _ (.inl rfl) e,c⟩
 | dT kvs =>
  obtain⟨z,y,xs,r,ob,es,ep,e,c⟩:=x
  exact⟨z,y,xs,Paired.mapP r fun p q z=>⟨z.1,ht _ _ z.2.1,z.2.2⟩,ob,es,ep,k _ _ (.inl rfl) e,c⟩
 | set S n=>obtain⟨ob,es,ep,t,e,c⟩:=x;exact⟨ob,es,ep,t,k _ _ (.inl rfl) e,c⟩
 | ins C dx fs =>
  obtain⟨d,z,ne,e,mA,⟨od,es,ep,e2,c⟩,r⟩:=x
  exact⟨ho _ d,z,ne,k _ _ (.inl rfl) e,mA,⟨od,es,ep,k _ _ (.inr d) e2,c⟩,r⟩
 | own y=>obtain⟨ob,e⟩:=x;exact⟨ob,k _ _ (.inl rfl) e⟩
 | xd fs=>obtain⟨mA,⟨od,es,ep,e,c⟩,r⟩:=x;exact⟨mA,⟨od,es,ep,k _ _ (.inl rfl) e,c⟩,r⟩
 | rng lo hi=>obtain⟨t,u,v,e⟩:=x;exact⟨t,u,v,k _ _ (.inl rfl) e⟩
 | frz ob u ih=>obtain⟨e,q⟩:=x;exact⟨k _ _ (.inl rfl) e,ih q⟩
 | tbl ps =>
  have e:h.get? a=some { cls:=.none,data:=.fields ps }:=x
  show h'.get? a=some { cls:=.none,data:=.fields ps }
  exact k a _ (.inl rfl) e
 | met f y =>
  have e:h.get? a=some (PySem.W.methodObj (.ref f) (.ref y)):=x
  show h'.get? a=some (PySem.W.methodObj (.ref f) (.ref y))
  exact k a _ (.inl rfl) e
 | ext φ=>obtain⟨p,⟨o,e⟩,st⟩:=x;exact⟨st _ _ p fun o q=>k _ _ (.inl rfl) q,⟨o,k _ _ (.inl rfl) e⟩,st⟩
theorem HOk.lt (x:HOk P w H h)(e:H a=some o):a<h.objs.size:=(x a o e).lt
theorem HOk.fresh (x:HOk P w H h)(e:h.objs.size<=a):H a=none:=by
 cases q:H a with
 | none=>rfl
 | some u=>exact absurd (Nat.lt_of_lt_of_le (x.lt q) e) (Nat.lt_irrefl _)
theorem HOk.kept (x:HOk P w H h)(k:∀ b u,h.get? b=some u->h'.get? b=some u):HOk P w H h':=fun a o e =>
 (x a o e).stay (fun b u _ q=>k b u q) (fun _ q=>q) fun _ _ q=>q
theorem HOk.laid (x:HOk P w H h)(k:∀ b u,h.get? b=some u->h'.get? b=some u)(hp:h.objs.size<=a)(new:zay P w (upd H a o) h' a o):HOk P w (upd H a o) h':=fun b u e=>by
 have hn:=x.fresh hp
 by_cases hb:b=a
 ·subst hb;rw [zaq] at e;cases e;exact new
 ·rw [zT hb] at e
  exact (x b u e).stay (fun c v _ q=>k c v q) (fun c q=>by rw [zT (zbg q hn)];exact q) fun c xs q=>by rw [zT (zbg q hn)];exact q
end
def Rd (H:Hp)(a:Addr)(u:HO):Prop:=H a=some u\/∃ o,H a=some (.frz o u)
theorem Rd.ok {P:Program}{w:World}{H:Hp}{h:Heap}{a:Addr}{u:HO}(r:Rd H a u)(x:HOk P w H h):zay P w H h a u:=by
 rcases r with r | ⟨o,r⟩
 ·exact x a u r
 ·obtain⟨_,q⟩:=x a _ r
  exact q
def Mut:Option HO->Prop
 | some (.lst _)=>True
 | some (.dK _)=>True
 | some (.dT _)=>True
 | some (.set _ _)=>True
 | some (.ins _ _ _)=>True
 | some (.ext _)=>True
 | _=>False
section
variable {P:Program}{w:World}{H:Hp}{h h':Heap}{x e:Addr}{o':HO}
theorem HOk.write (ok:HOk P w H h)(mu:Mut (H x))(he:e=x\/H e=some (.own x))(k:∀ b u,b≠e->h.get? b=some u->h'.get? b=some u)(heo:∃ u,h'.get? e=some u)
  (new:zay P w (upd H x o') h' x o'):HOk P w (upd H x o') h':=fun b u q=>by
 have nown:∀ c y,H c=some (.own y)->c≠x:=fun c y r z=>by subst z;rw [r] at mu;exact mu
 have ntup:∀ c xs,H c=some (.tup xs)->c≠x:=fun c xs r z=>by subst z;rw [r] at mu;exact mu
 by_cases hb:b=x
 ·subst hb;rw [zaq] at q;cases q;exact new
 ·rw [zT hb] at q
  by_cases hbe:b=e
  ·have q':H b=some (.own x):=by
    rcases he with z | z
    ·exact absurd (hbe.trans z) hb
    ·rw [hbe];exact z
   rw [q] at q';cases q'
   obtain⟨v,hv⟩:=heo
   exact⟨v,by rw [hbe];exact hv⟩
  ·refine (ok b u q).stay (fun c v hc r=>k c v ?_ r) (fun c r=>by rw [zT (nown c b r)];exact r) fun c xs r=>by rw [zT (ntup c xs r)];exact r
   rcases hc with rfl | hc
   ·exact hbe
   ·rintro rfl
    rcases he with z | z
    ·exact nown c b hc z
    ·rw [hc] at z;cases z;exact hb rfl
end
structure Un (fs ex:List Addr)(H H':Hp)(h h':Heap):Prop where
 keep:∀ b o,h.get? b=some o->H b=none->b∉fs->b∉ex->h'.get? b=some o
 slot:∀ b o,h.get? b=some o->H b=none->b∈fs->b∉ex->∃ sl,h'.get? b=some { o with slots:=sl }
 free:∀ b o,h.get? b=some o->H b=none->b∉ex->H' b=none
 there:∀ b o,h.get? b=some o->b∉ex->∃ o',h'.get? b=some o'
 tups:∀ b xs,H b=some (.tup xs)->H' b=some (.tup xs)
 frzs:∀ b o u,H b=some (.frz o u)->H' b=some (.frz o u)
 tbls:∀ b ps,H b=some (.tbl ps)->∃ more,H' b=some (.tbl (ps++more))
section
variable {fs fs' ex ex':List Addr}{H H1 H2:Hp}{h h1 h2 h':Heap}{a x e:Addr}{o:HO}
theorem Un.any (u:Un fs ex H H1 h h1){b:Addr}{ob:Obj}(q:h.get? b=some ob)(n:H b=none)(hx:b∉ex):∃ sl,h1.get? b=some { ob with slots:=sl }:=by
 by_cases hb:b∈fs
 ·exact u.slot b ob q n hb hx
 ·exact⟨ob.slots,u.keep b ob q n hb hx⟩
theorem Un.kept (k:∀ b u,h.get? b=some u->h'.get? b=some u):Un fs ex H H h h' :=
 ⟨fun b ob q _ _ _=>k b ob q,fun b ob q _ _ _=>⟨ob.slots,k b ob q⟩,fun _ _ _ n _=>n,fun b ob q _=>⟨ob,k b ob q⟩,fun _ _ q=>q,fun _ _ _ q=>q,fun _ ps q=>⟨#[],by rw [q];simp⟩⟩
theorem Un.refl:Un fs ex H H h h:=Un.kept fun _ _ q=>q
theorem Un.laid (k:∀ b u,h.get? b=some u->h'.get? b=some u)(hp:h.objs.size<=a)(hn:H a=none):Un fs ex H (upd H a o) h h' where
 keep:=fun b u q _ _ _=>k b u q
 slot:=fun b u q _ _ _=>⟨u.slots,k b u q⟩
 free:=fun b u q n _=>by rw [zT (Nat.ne_of_lt (Nat.lt_of_lt_of_le (Heap.lt_size q) hp))];exact n
 there:=fun b u q _=>⟨u,k b u q⟩
 tups:=fun b xs q=>by rw [zT (zbg q hn)];exact q
 frzs:=fun b u xs q=>by rw [zT (zbg q hn)];exact q
 tbls:=fun b ps q=>⟨#[],by rw [zT (zbg q hn),q];simp⟩
theorem Un.write (mu:Mut (H x))(he:e=x\/H e=some (.own x))(k:∀ b u,b≠e->h.get? b=some u->h'.get? b=some u)(heo:∃ u,h'.get? e=some u):Un fs ex H (upd H x o) h h':=by
 have hx:∀ b,H b=none->b≠x:=fun b n z=>by subst z;rw [n] at mu;exact mu
 have hb:∀ b,H b=none->b≠e:=fun b n z=>by
  subst z
  rcases he with r | r
  ·exact hx b n r
  ·rw [n] at r;cases r
 have hm:∀ b u,H b=some u->¬ Mut (some u)->b≠x:=fun b u q nm z=>by subst z;rw [q] at mu;exact nm mu
 refine⟨fun b u q n _ _=>k b u (hb b n) q,fun b u q n _ _=>⟨u.slots,k b u (hb b n) q⟩,fun b u q n _=>by rw [zT (hx b n)];exact n,fun b u q _=>?_,
  fun b xs q=>by rw [zT (hm b _ q fun z=>z)];exact q,fun b u xs q=>by rw [zT (hm b _ q fun z=>z)];exact q,fun b ps q=>⟨#[],by rw [zT (hm b _ q fun z=>z),q];simp⟩⟩
 by_cases hbe:b=e
 ·subst hbe;exact heo
 ·exact⟨u,k b u hbe q⟩
end
def trk (h:Heap)(H:Hp):List Addr:=(List.range h.objs.size).filter fun a=>(H a).isSome
def zfO (h:Heap)(H:Hp):Heap:=PySem.W.hideAll h (trk h H)
theorem znv (h:Heap)(H:Hp):(zfO h H).objs.size=h.objs.size:=PySem.W.hideAll_size _ _
theorem zpp {h:Heap}{H:Hp}{b:Addr}{o:Obj}(e:h.get? b=some o)(n:H b=none):(zfO h H).get? b=some o :=
 PySem.W.hideAll_get _ e fun hm=>by
  have q:(H b).isSome=true:=(List.mem_filter.mp hm).2
  rw [n] at q;simp at q
theorem zq4 {h:Heap}{H:Hp}{b:Addr}{o:Obj}(e:(zfO h H).get? b=some o):h.get? b=some o/\H b=none:=by
 have e':h.get? b=some o:=PySem.W.of_hideAll (trk h H) e
 refine⟨e',?_⟩
 cases q:H b with
 | none=>rfl
 | some x =>
  have hm:b∈trk h H:=List.mem_filter.mpr ⟨List.mem_range.mpr (Heap.lt_size e'),by simp [q]⟩
  have z:(zfO h H).get? b=none:=PySem.W.hideAll_none (trk h H) hm
  rw [z] at e;cases e
def zqM (g h:Heap)(L:Addr):List (Addr×Obj):=(List.range h.objs.size).filterMap fun a=>if a=L\/(g.get? a).isSome=true then none else (h.get? a).map fun o=>(a,o)
def rest (g h:Heap)(L d:Addr):List (Addr×Obj):=(zqM g h L).filter fun p=>decide (p.1≠d)
structure Mod (K:PySem.W.Frag)(mg:Str->Option Value)(base:Heap):Prop where
 kin:K.In base
 glob:base.Ns mainGlobals mg
 blt:∃ mb,base.Ns builtinsNs mb/\∀ x:Str,x≠"__name__"->mb x=bootBuiltins x
 nolimit:base.NoLimit
/-- the context: a def's body (or a comprehension's block) running. base: fixed through the whole law; s₀, H₀: the entry; outer: the frames whose slots others may change (a def's callers); stack: all frames that run;
   ex: iterators that were made ahead of the entry and are walked here (a comprehension's);fn: the names whose cells were made at the entry (a def: all;a comprehension's block: its own);calm: not within an except suite;pn: pins that every state bears;xe: what is wanted of an exception that leaves the code -/
structure Cx where
 prog:Program
 w:World
 K:PySem.W.Frag
 mg:Str->Option Value
 base:Heap
 A:Around
 N:List Str
 s₀:Shared
 H₀:Hp
 env:Env
 outer:List Env
 stack:List Env
 ex:List Addr
 fn:Str->Bool
 calm:Bool
 pn:List (Addr×Obj)
 xe:Value->Shared->Prop
def frs (l:List Env):List Addr:=l.filterMap (·.frame)
abbrev Cx.fs (X:Cx):List Addr:=frs X.outer
def Vis (sc:Scope)(x:Str):Prop:=sc.names.lookup x=some .local\/sc.names.lookup x=some .cell\/sc.names.lookup x=some .free
def Loc (sc:Scope)(x:Str):Prop:=sc.names.lookup x=some .local\/sc.names.lookup x=some .cell
def Look (env:Env)(h:Heap)(m:Str->Option Value)(x:Str)(u:Value):Prop :=
 (env.kindOf x=some .local/\m x=some u)\/((env.kindOf x=some .cell\/env.kindOf x=some .free)/\∃ c,env.cells.lookup x=some c/\h.IsCell c (some u))
structure Cx.Ok (X:Cx):Prop where
 mod:Mod X.K X.mg X.base
 kind:X.env.scope.kind=.function
 glob:X.env.globals=mainGlobals
 blt:X.env.builtins=builtinsNs
 above:X.s₀.heap.objs.size<=X.env.locals
 inj:∀ x y c,X.env.cells.lookup x=some c->X.env.cells.lookup y=some c->x=y
 has:∀ x,(X.env.kindOf x=some .cell\/X.env.kindOf x=some .free)->∃ c,X.env.cells.lookup x=some c
 cab:∀ x c,X.fn x=true->X.env.cells.lookup x=some c->X.s₀.heap.objs.size<=c
 hd:X.calm=true->X.A.handled=none
 frames:X.A.frames=some X.stack
 stk:X.stack=X.outer\/(X.stack=X.env::X.outer/\X.env.frame=some X.env.locals)
 exf:∀ b∈X.ex,b≠X.env.locals/\∀ x c,X.env.cells.lookup x=some c->c≠b
 bs:∀ b o,X.base.get? b=some o->X.s₀.heap.get? b=some o/\X.H₀ b=none
 bsz:X.base.objs.size<=X.s₀.heap.objs.size
 noex:∀ b o,X.base.get? b=some o->b∉X.ex
 exfs:∀ b∈X.ex,b∉X.fs
 funs:X.s₀.heap.FunFrames X.base X.outer
 frf:∀ b∈X.fs,X.H₀ b=none
structure Inv (X:Cx)(pins:List (Addr×Obj))(σ:List (Option V))(H:Hp)(s:Shared):Prop where
 ok:X.Ok
 os:s.os=X.s₀.os
 bare:AllBare s.gens
 base:Un X.fs X.ex X.H₀ H X.s₀.heap s.heap
 loc:∃ m,s.heap.Ns X.env.locals m/\∀ (i:Nat) (x:Str) (v:V),X.N[i]?=some x->σ[i]?=some (some v)->Vis X.env.scope x->∃ u,RelV v u/\Look X.env s.heap m x u
 cell:∀ x c,X.env.cells.lookup x=some c->∃ v,s.heap.IsCell c v
 free:H X.env.locals=none
 freeC:∀ x c,X.env.cells.lookup x=some c->H c=none
 pin:∀ p∈X.pn++pins,s.heap.get? p.1=some p.2/\H p.1=none/\p.1≠X.env.locals/\p.1∉X.fs/\∀ v,p.2.data≠.cell v
 hok:HOk X.prog X.w H s.heap
 len:σ.length=X.N.length
section
variable {X:Cx}{pins:List (Addr×Obj)}{σ:List (Option V)}{H H':Hp}{s:Shared}{h':Heap}
theorem Cx.Ok.nofr (ok:X.Ok){b:Addr}{o:Obj}(e:X.base.get? b=some o):b∉X.fs:=fun hb=>by
 have:=(ok.funs.mem hb).1
 rw [e] at this;cases this
theorem Inv.bs (I:Inv X pins σ H s):∀ b o,X.base.get? b=some o->s.heap.get? b=some o/\H b=none:=fun b o e =>
 ⟨I.base.keep b o (I.ok.bs b o e).1 (I.ok.bs b o e).2 (I.ok.nofr e) (I.ok.noex b o e),I.base.free b o (I.ok.bs b o e).1 (I.ok.bs b o e).2 (I.ok.noex b o e)⟩
theorem Inv.bk (I:Inv X pins σ H s):∀ b o,X.base.get? b=some o->s.heap.get? b=some o:=fun b o e=>(I.bs b o e).1
theorem Inv.mod (I:Inv X pins σ H s):Mod X.K X.mg X.base:=I.ok.mod
theorem Inv.kIn (I:Inv X pins σ H s):X.K.In s.heap:=I.ok.mod.kin.keeps I.bk
theorem Inv.lt (I:Inv X pins σ H s):X.env.locals<s.heap.objs.size:=let ⟨_,hn,_⟩:=I.loc;hn.lt
theorem Inv.sz (I:Inv X pins σ H s):X.s₀.heap.objs.size<=s.heap.objs.size:=Nat.le_trans I.ok.above (Nat.le_of_lt I.lt)
theorem Inv.nofs (I:Inv X pins σ H s){a:Addr}(h:s.heap.objs.size<=a):a∉X.fs:=fun hb=>by
 obtain⟨_,o,ho,_⟩:=I.ok.funs.mem hb
 exact absurd (Nat.lt_of_lt_of_le (Heap.lt_size ho) (Nat.le_trans I.sz h)) (Nat.lt_irrefl _)
theorem Inv.cne (I:Inv X pins σ H s):∀ x c,X.env.cells.lookup x=some c->c≠X.env.locals:=fun x c e z=>by
 obtain⟨v,o,ho,hd⟩:=I.cell x c e
 obtain⟨m,⟨o',es,ep,ho',hd',_⟩,_⟩:=I.loc
 rw [z,ho'] at ho;cases ho;rw [hd'] at hd;cases hd
theorem Inv.funs (I:Inv X pins σ H s):s.heap.FunFrames X.base X.outer:=by
 have all:∀ (l:List Env),(∀ b∈frs l,b∈X.fs)->X.s₀.heap.FunFrames X.base l->s.heap.FunFrames X.base l:=by
  intro l
  induction l with
  | nil=>intro _ _;trivial
  | cons env r ih =>
   intro hs hl
   obtain⟨hk,⟨L,o,hf,hn,ho,hd⟩,hr⟩:=hl
   have hL:L∈X.fs:=hs L (by unfold frs;rw [List.filterMap_cons,hf];exact List.mem_cons_self)
   obtain⟨sl,e⟩:=I.base.slot L o ho (I.ok.frf L hL) hL fun z=>I.ok.exfs L z hL
   exact⟨hk,⟨L,_,hf,hn,e,hd⟩,ih (fun b hb=>hs b (by unfold frs;rw [List.filterMap_cons,hf];exact List.mem_cons_of_mem _ hb)) hr⟩
 exact all X.outer (fun _ hb=>hb) I.ok.funs
theorem Inv.stack (I:Inv X pins σ H s):s.heap.FunFrames X.base X.stack:=by
 rcases I.ok.stk with e | ⟨e,hf⟩
 ·rw [e];exact I.funs
 ·rw [e]
  obtain⟨m,hn,_⟩:=I.loc
  refine .cons (by rw [I.ok.kind];decide) hf hn ?_ I.funs
  exact Heap.get?_none_of_le (Nat.le_trans I.ok.bsz I.ok.above)
theorem Inv.stkSub (I:Inv X pins σ H s):∀ b∈frs X.stack,b∈X.env.locals::X.fs:=fun b hb=>by
 rcases I.ok.stk with e | ⟨e,hf⟩
 ·rw [e] at hb;exact List.mem_cons_of_mem _ hb
 ·rw [e] at hb
  unfold frs at hb
  rw [List.filterMap_cons,hf] at hb
  exact hb
theorem Inv.stkFree (I:Inv X pins σ H s):∀ b∈frs X.stack,H b=none:=fun b hb=>by
 rcases List.mem_cons.mp (I.stkSub b hb) with e | hb
 ·rw [e];exact I.free
 ·obtain⟨_,o,ho,_⟩:=I.ok.funs.mem hb
  exact I.base.free b o ho (I.ok.frf b hb) fun z=>I.ok.exfs b z hb
theorem Inv.step {g':Array GenState}{t':Nat}{d':Drawn}{ch:List Addr}(I:Inv X pins σ H s)
  (hch:∀ b∈ch,(b∈X.ex\/X.s₀.heap.objs.size<=b)/\b≠X.env.locals/\(∀ x c,X.env.cells.lookup x=some c->c≠b)/\∀ p∈X.pn++pins,p.1≠b)
  (keep:∀ b o,b≠X.env.locals->b∉X.fs->b∉ch->s.heap.get? b=some o->H b=none->h'.get? b=some o)
  (slot:∀ b o,b≠X.env.locals->b∈X.fs->b∉ch->s.heap.get? b=some o->H b=none->∃ sl,h'.get? b=some { o with slots:=sl }) (free:∀ b o,b∉ch->s.heap.get? b=some o->H b=none->H' b=none)
  (there:∀ b o,b∉ch->s.heap.get? b=some o->∃ o',h'.get? b=some o')
  (tups:∀ b xs,H b=some (.tup xs)->H' b=some (.tup xs)) (frzs:∀ b o u,H b=some (.frz o u)->H' b=some (.frz o u)) (tbls:∀ b ps,H b=some (.tbl ps)->∃ more,H' b=some (.tbl (ps++more)))
  (ns:∀ m,s.heap.Ns X.env.locals m->h'.Ns X.env.locals m) (hok:HOk X.prog X.w H' h') (hg:AllBare g') :
  Inv X pins σ H' { s with heap:=h',gens:=g',drawn:=d',toks:=t' }:=by
 have neL:∀ b o,X.s₀.heap.get? b=some o->b≠X.env.locals:=fun b o e=>Nat.ne_of_lt (Nat.lt_of_lt_of_le (Heap.lt_size e) I.ok.above)
 have neC:∀ b o,X.s₀.heap.get? b=some o->b∉X.ex->b∉ch:=fun b o e hx hb=>by
  rcases (hch b hb).1 with z | z
  ·exact hx z
  ·exact absurd (Nat.lt_of_lt_of_le (Heap.lt_size e) z) (Nat.lt_irrefl _)
 have cellK:∀ x c,X.env.cells.lookup x=some c->∀ v,s.heap.IsCell c v->h'.IsCell c v:=fun x c e v ⟨o,ho,hd⟩=>by
  have nch:c∉ch:=fun z=>(hch c z).2.2.1 x c e rfl
  by_cases hc:c∈X.fs
  ·obtain⟨sl,q⟩:=slot c o (I.cne x c e) hc nch ho (I.freeC x c e)
   exact⟨_,q,hd⟩
  ·exact⟨o,keep c o (I.cne x c e) hc nch ho (I.freeC x c e),hd⟩
 refine⟨I.ok,I.os,hg,⟨fun b o e n hb hx=>?_,fun b o e n hb hx=>?_,fun b o e n hx=>?_,fun b o e hx=>?_,fun b xs e=>tups b xs (I.base.tups b xs e),fun b o xs e=>frzs b o xs (I.base.frzs b o xs e),fun b ps e=>?_⟩,?_,fun x c e=>?_,?_,fun x c e=>?_,fun p hp=>?_,hok,I.len⟩
 ·exact keep b o (neL b o e) hb (neC b o e hx) (I.base.keep b o e n hb hx) (I.base.free b o e n hx)
 ·obtain⟨sl,e1⟩:=I.base.slot b o e n hb hx
  obtain⟨sl',e2⟩:=slot b _ (neL b o e) hb (neC b o e hx) e1 (I.base.free b o e n hx)
  exact⟨sl',e2⟩
 ·obtain⟨o',e1⟩:=I.base.there b o e hx
  exact free b o' (neC b o e hx) e1 (I.base.free b o e n hx)
 ·obtain⟨o',e1⟩:=I.base.there b o e hx
  exact there b o' (neC b o e hx) e1
 ·obtain⟨m1,e1⟩:=I.base.tbls b ps e
  obtain⟨m2,e2⟩:=tbls b _ e1
  exact⟨m1++m2,by rw [e2,Array.append_assoc]⟩
 ·obtain⟨m,hn,hl⟩:=I.loc
  refine⟨m,ns m hn,fun i x v e1 e2 e3=>?_⟩
  obtain⟨u,r,l⟩:=hl i x v e1 e2 e3
  refine⟨u,r,?_⟩
  rcases l with l | ⟨k,c,e,z⟩
  ·exact .inl l
  ·exact .inr ⟨k,c,e,cellK x c e _ z⟩
 ·obtain⟨v,z⟩:=I.cell x c e
  exact⟨v,cellK x c e v z⟩
 ·obtain⟨m,⟨o,_,_,ho,_⟩,_⟩:=I.loc
  exact free _ o (fun z=>(hch _ z).2.1 rfl) ho I.free
 ·obtain⟨v,o,ho,hd⟩:=I.cell x c e
  exact free c o (fun z=>(hch c z).2.2.1 x c e rfl) ho (I.freeC x c e)
 ·obtain⟨e,n,ne,nf,d⟩:=I.pin p hp
  have nch:p.1∉ch:=fun z=>(hch p.1 z).2.2.2 p hp rfl
  exact⟨keep p.1 p.2 ne nf nch e n,free p.1 p.2 nch e n,ne,nf,d⟩
theorem Inv.un {t':Nat}(I:Inv X pins σ H s)(u:Un X.fs [] H H' s.heap h')(hok:HOk X.prog X.w H' h'):Inv X pins σ H' { s with heap:=h',toks:=t' }:=by
 obtain⟨m,⟨o,es,ep,ho,r⟩,_⟩:=id I.loc
 obtain⟨sl,hL⟩:=u.any ho I.free (by simp)
 exact I.step (g':=s.gens) (d':=s.drawn) (ch:=[]) (fun _ z=>nomatch z) (fun b o _ hb _ e n=>u.keep b o e n hb (by simp)) (fun b o _ hb _ e n=>u.slot b o e n hb (by simp)) (fun b o _ e n=>u.free b o e n (by simp)) (fun b o _ e=>u.there b o e (by simp)) u.tups u.frzs u.tbls (fun m' hm=>by
  obtain⟨o',es',ep',ho',r'⟩:=hm
  rw [ho] at ho';cases ho'
  exact⟨_,es',ep',hL,r'⟩) hok I.bare
theorem Inv.call {g':Array GenState}{t':Nat}{d':Drawn}{ch:List Addr}(I:Inv X pins σ H s)(u:Un (frs X.stack) ch H H' s.heap h')(hok:HOk X.prog X.w H' h')(hg:AllBare g')
  (hch:∀ b∈ch,(b∈X.ex\/X.s₀.heap.objs.size<=b)/\b≠X.env.locals/\(∀ x c,X.env.cells.lookup x=some c->c≠b)/\∀ p∈X.pn++pins,p.1≠b) :
  Inv X pins σ H' { s with heap:=h',gens:=g',drawn:=d',toks:=t' }:=by
 obtain⟨m,⟨o,es,ep,ho,r⟩,_⟩:=id I.loc
 obtain⟨sl,hL⟩:=u.any ho I.free fun z=>(hch _ z).2.1 rfl
 exact I.step (ch:=ch) hch (fun b o hL hb hc e n=>u.keep b o e n (fun z=>(List.mem_cons.mp (I.stkSub b z)).elim hL hb) hc) (fun b o _ _ hc e n=>u.any e n hc) (fun b o hc e n=>u.free b o e n hc) (fun b o hc e=>u.there b o e hc) u.tups u.frzs u.tbls (fun m' hm=>by
  obtain⟨o',es',ep',ho',r'⟩:=hm
  rw [ho] at ho';cases ho'
  exact⟨_,es',ep',hL,r'⟩) hok hg
theorem Inv.turned {t':Nat}{it:Addr}(I:Inv X pins σ H s)(k:∀ b o,b≠it->s.heap.get? b=some o->h'.get? b=some o)(hn:H it=none)(hL:it≠X.env.locals)
  (h1:it∈X.ex\/X.s₀.heap.objs.size<=it) (h2:∀ x c,X.env.cells.lookup x=some c->c≠it) (h3:∀ p∈X.pn++pins,p.1≠it):Inv X pins σ H { s with heap:=h',toks:=t' }:=by
 have nit:∀ b u,H b=some u->b≠it:=fun b u e z=>by rw [z,hn] at e;cases e
 refine I.step (g':=s.gens) (d':=s.drawn) (ch:=[it]) (fun b hb=>?_) (fun b o _ _ hc e _=>k b o (fun z=>hc (by simp [z])) e) (fun b o _ _ hc e _=>⟨o.slots,k b o (fun z=>hc (by simp [z])) e⟩) (fun _ _ _ _ n=>n)
  (fun b o hc e=>⟨o,k b o (fun z=>hc (by simp [z])) e⟩) (fun _ _ e=>e) (fun _ _ _ e=>e) (fun b ps e=>⟨#[],by rw [e];simp⟩) (fun m hm=>?_) (fun b u e=>?_) I.bare
 ·have e:b=it:=by simpa using hb
  subst e
  exact⟨h1,hL,h2,h3⟩
 ·obtain⟨o,es,ep,ho,r⟩:=hm
  exact⟨o,es,ep,k _ o (Ne.symm hL) ho,r⟩
 ·refine (I.hok b u e).stay (fun c v hc q=>k c v ?_ q) (fun _ q=>q) fun _ _ q=>q
  rcases hc with z | z
  ·rw [z];exact nit b u e
  ·exact nit c _ z
theorem Inv.tok (I:Inv X pins σ H s)(t:Nat):Inv X pins σ H { s with toks:=t }:=I.un (h':=s.heap) (t':=t) Un.refl I.hok
theorem Inv.kept {t':Nat}(I:Inv X pins σ H s)(k:∀ b u,s.heap.get? b=some u->h'.get? b=some u):Inv X pins σ H { s with heap:=h',toks:=t' }:=I.un (Un.kept k) (I.hok.kept k)
theorem Inv.laid {a:Addr}{o:HO}{t':Nat}(I:Inv X pins σ H s)(k:∀ b u,s.heap.get? b=some u->h'.get? b=some u)(hp:s.heap.objs.size<=a)(new:zay X.prog X.w (upd H a o) h' a o) :
  Inv X pins σ (upd H a o) { s with heap:=h',toks:=t' }:=I.un (Un.laid k hp (I.hok.fresh hp)) (I.hok.laid k hp new)
theorem Inv.write {x e:Addr}{o:HO}{t':Nat}(I:Inv X pins σ H s)(mu:Mut (H x))(he:e=x\/H e=some (.own x))(k:∀ b u,b≠e->s.heap.get? b=some u->h'.get? b=some u)(heo:∃ u,h'.get? e=some u)
  (new:zay X.prog X.w (upd H x o) h' x o):Inv X pins σ (upd H x o) { s with heap:=h',toks:=t' }:=I.un (Un.write mu he k heo) (I.hok.write mu he k heo new)
theorem Inv.weak {σ':List (Option V)}(I:Inv X pins σ H s)(hl:σ'.length=σ.length)(w:∀ (i:Nat) v,σ'[i]?=some (some v)->σ[i]?=some (some v)):Inv X pins σ' H s :=
 ⟨I.ok,I.os,I.bare,I.base,let ⟨m,hn,hl'⟩:=I.loc;⟨m,hn,fun i x v e1 e2 e3=>hl' i x v e1 (w i v e2) e3⟩,I.cell,I.free,I.freeC,I.pin,I.hok,hl.trans I.len⟩
theorem Inv.pins_of {pins':List (Addr×Obj)}(I:Inv X pins σ H s)(h:∀ p∈pins',s.heap.get? p.1=some p.2/\H p.1=none/\p.1≠X.env.locals/\p.1∉X.fs/\∀ v,p.2.data≠.cell v):Inv X pins' σ H s :=
 ⟨I.ok,I.os,I.bare,I.base,I.loc,I.cell,I.free,I.freeC,fun p hp=>(List.mem_append.mp hp).elim (fun z=>I.pin p (List.mem_append_left _ z)) (h p),I.hok,I.len⟩
theorem zks {N:List Str}(hN:N.Nodup){i j:Nat}{x:Str}(a:N[i]?=some x)(b:N[j]?=some x):i=j:=by
 obtain⟨h1,e1⟩:=List.getElem?_eq_some_iff.mp a
 obtain⟨h2,e2⟩:=List.getElem?_eq_some_iff.mp b
 exact (List.getElem_inj hN).mp (e1.trans e2.symm)
theorem zjD {M:Model}{A:Around}{E:Value->Shared->Prop}{i:Nat}{x:Str}{v:V}{u:Value}{Q:Unit->Shared->Prop}(I:Inv X pins σ H s)(hN:X.N.Nodup)(hi:X.N[i]?=some x)(hx:Loc X.env.scope x)(r:RelV v u)
  (h:∀ s',Inv X pins (σ.set i (some v)) H s'->(∃ a,Heap.SameBut a s.heap s'.heap/\(a=X.env.locals\/X.env.cells.lookup x=some a))->Q () s') (hf:X.fn x=true\/X.env.scope.names.lookup x=some .local:=by first | exact .inl rfl | exact .inr rfl | assumption):wpAny M A (storeName X.env x u) Q E s:=by
 obtain⟨m,hn,hl⟩:=id I.loc
 have hcls:(X.env.scope.kind==.class||(X.env.scope.kind==.module&&X.env.locals != X.env.globals))=false:=by rw [I.ok.kind];rfl
 have hiσ:i<σ.length:=by rw [I.len];exact (List.getElem?_eq_some_iff.mp hi).1
 have cne:=I.cne
 have tracked:∀ {a:Addr} {h':Heap},(∃ o,s.heap.get? a=some o/\H a=none)->Heap.SameBut a s.heap h'->HOk X.prog X.w H h':=fun {a h'} ha hs b ob e=>by
  obtain⟨_,_,hfree⟩:=ha
  refine (I.hok b ob e).stay (fun c w' hc q=>(hs.2 c ?_).trans q) (fun _ q=>q) fun _ _ q=>q
  rintro rfl
  rcases hc with rfl | hc
  ·rw [hfree] at e;cases e
  ·rw [hfree] at hc;cases hc
 rcases hx with hk | hk
 ·refine wpAny_storeName_local hk hn (fun h' hn' hs=>?_) hcls
  obtain⟨oL,_,_,hoL,_⟩:=id hn
  refine h _ ⟨I.ok,I.os,I.bare,⟨fun b o e n hb hx=>?_,fun b o e n hb hx=>?_,I.base.free,fun b o e hx=>?_,I.base.tups,I.base.frzs,I.base.tbls⟩,⟨_,hn',fun j y v' e1 e2 e3=>?_⟩,fun y c e=>?_,I.free,I.freeC,fun p hp=>?_,tracked ⟨oL,hoL,I.free⟩ hs,by simpa using I.len⟩ ⟨_,hs,.inl rfl⟩
  ·exact (hs.2 b (Nat.ne_of_lt (Nat.lt_of_lt_of_le (Heap.lt_size e) I.ok.above))).trans (I.base.keep b o e n hb hx)
  ·obtain⟨sl,e1⟩:=I.base.slot b o e n hb hx
   exact⟨sl,(hs.2 b (Nat.ne_of_lt (Nat.lt_of_lt_of_le (Heap.lt_size e) I.ok.above))).trans e1⟩
  ·obtain⟨o',e1⟩:=I.base.there b o e hx
   exact⟨o',(hs.2 b (Nat.ne_of_lt (Nat.lt_of_lt_of_le (Heap.lt_size e) I.ok.above))).trans e1⟩
  ·by_cases hj:j=i
   ·subst hj
    rw [hi] at e1;cases e1
    rw [List.getElem?_set_self hiσ] at e2
    cases e2
    exact⟨u,r,.inl ⟨hk,by simp⟩⟩
   ·rw [List.getElem?_set_ne (Ne.symm hj)] at e2
    obtain⟨u',r',q⟩:=hl j y v' e1 e2 e3
    refine⟨u',r',?_⟩
    rcases q with ⟨k,e⟩ | ⟨k,c,e,z⟩
    ·refine .inl ⟨k,?_⟩
     have:y≠x:=fun e=>hj (zks hN e1 (e▸hi))
     simp [this,e]
    ·exact .inr ⟨k,c,e,z.sameBut hs (cne y c e)⟩
  ·obtain⟨w',z⟩:=I.cell y c e
   exact⟨w',z.sameBut hs (cne y c e)⟩
  ·obtain⟨e,n,ne,nf,d⟩:=I.pin p hp
   exact⟨(hs.2 p.1 ne).trans e,n,ne,nf,d⟩
 ·have hfn:X.fn x=true:=by
   rcases hf with z | z
   ·exact z
   ·rw [z] at hk;cases hk
  obtain⟨c,hc⟩:=I.ok.has x (.inl hk)
  obtain⟨w',z⟩:=I.cell x c hc
  refine wpAny_storeName_cell I.ok.kind hk hc z (fun h' hc' hs=>?_)
  obtain⟨oc,hoc,hocd⟩:=id z
  refine h { s with heap:=h' } ⟨I.ok,I.os,I.bare,⟨fun b o e n hb hx=>?_,fun b o e n hb hx=>?_,I.base.free,fun b o e hx=>?_,I.base.tups,I.base.frzs,I.base.tbls⟩,⟨m,hn.sameBut hs (Ne.symm (cne x c hc)),fun j y v' e1 e2 e3=>?_⟩,fun y c' e=>?_,I.free,I.freeC,fun p hp=>?_,tracked ⟨oc,hoc,I.freeC x c hc⟩ hs,by simpa using I.len⟩ ⟨c,hs,.inr hc⟩
  ·exact (hs.2 b (Nat.ne_of_lt (Nat.lt_of_lt_of_le (Heap.lt_size e) (I.ok.cab x c hfn hc)))).trans (I.base.keep b o e n hb hx)
  ·obtain⟨sl,e1⟩:=I.base.slot b o e n hb hx
   exact⟨sl,(hs.2 b (Nat.ne_of_lt (Nat.lt_of_lt_of_le (Heap.lt_size e) (I.ok.cab x c hfn hc)))).trans e1⟩
  ·obtain⟨o',e1⟩:=I.base.there b o e hx
   exact⟨o',(hs.2 b (Nat.ne_of_lt (Nat.lt_of_lt_of_le (Heap.lt_size e) (I.ok.cab x c hfn hc)))).trans e1⟩
  ·by_cases hj:j=i
   ·subst hj
    rw [hi] at e1;cases e1
    rw [List.getElem?_set_self hiσ] at e2
    cases e2
    exact⟨u,r,.inr ⟨.inl hk,c,hc,hc'⟩⟩
   ·rw [List.getElem?_set_ne (Ne.symm hj)] at e2
    obtain⟨u',r',q⟩:=hl j y v' e1 e2 e3
    refine⟨u',r',?_⟩
    rcases q with q | ⟨k,c',e,z'⟩
    ·exact .inl q
    ·refine .inr ⟨k,c',e,z'.sameBut hs ?_⟩
     rintro rfl
     exact hj (zks hN e1 (I.ok.inj _ _ _ e hc▸hi))
  ·by_cases hcc:c'=c
   ·subst hcc;exact⟨_,hc'⟩
   ·obtain⟨w2,z2⟩:=I.cell y c' e
    exact⟨w2,z2.sameBut hs hcc⟩
  ·obtain⟨e,n,ne,nf,d⟩:=I.pin p hp
   refine⟨(hs.2 p.1 ?_).trans e,n,ne,nf,d⟩
   intro q
   rw [q,hoc] at e
   have q':oc=p.2:=Option.some.inj e
   exact d w' (by rw [<- q'];exact hocd)
theorem zh7 {M:Model}{A:Around}{E:Value->Shared->Prop}{i:Nat}{x:Str}{v:V}{u:Value}{Q:Unit->Shared->Prop}(I:Inv X pins σ H s)(hN:X.N.Nodup)(hi:X.N[i]?=some x)(hx:Loc X.env.scope x)(r:RelV v u)
  (h:∀ s',Inv X pins (σ.set i (some v)) H s'->Q () s') (hf:X.fn x=true\/X.env.scope.names.lookup x=some .local:=by first | exact .inl rfl | exact .inr rfl | assumption):wpAny M A (storeName X.env x u) Q E s :=
 zjD I hN hi hx r (fun s' I' _=>h s' I') hf
theorem Inv.call' {s':Shared}{ch:List Addr}(I:Inv X pins σ H s)(ho:s'.os=s.os)(u:Un (frs X.stack) ch H H' s.heap s'.heap)(hok:HOk X.prog X.w H' s'.heap)(hg:AllBare s'.gens)
  (hch:∀ b∈ch,(b∈X.ex\/X.s₀.heap.objs.size<=b)/\b≠X.env.locals/\(∀ x c,X.env.cells.lookup x=some c->c≠b)/\∀ p∈X.pn++pins,p.1≠b):Inv X pins σ H' s':=by
 obtain⟨h',g',d',t',o'⟩:=s'
 have e:o'=s.os:=ho
 subst e
 exact I.call (g':=g') (t':=t') (d':=d') u hok hg hch
end
abbrev XK:=Value->Option Addr->Hp->Prop
abbrev St:=List (Option V)
abbrev VK:=V->Hp->Prop
abbrev TE:=St->Hp->VK->Prop
abbrev TT:=St->Hp->(Bool->Hp->Prop)->Prop
abbrev TA:=St->Hp->(List V->Hp->Prop)->Prop
structure Ends where
 nx:St->Hp->Prop
 rt:VK
 bk:St->Hp->Prop:=fun _ _=>False
 ct:St->Hp->Prop:=fun _ _=>False
abbrev TS:=Ends->St->Hp->Prop
def EP (X:Cx)(pins:List (Addr×Obj))(σ:St)(Q:VK)(u:Value)(s':Shared):Prop:=∃ v H',Inv X pins σ H' s'/\RelV v u/\Q v H'
def TP (X:Cx)(pins:List (Addr×Obj))(σ:St)(Q:Bool->Hp->Prop)(b:Bool)(s':Shared):Prop:=∃ H',Inv X pins σ H' s'/\Q b H'
def AP (X:Cx)(pins:List (Addr×Obj))(σ:St)(Q:List V->Hp->Prop)(us:List Value)(s':Shared):Prop:=∃ vs H',Inv X pins σ H' s'/\Vals vs us/\Q vs H'
def SP (X:Cx)(pins:List (Addr×Obj))(D:Ends)(f:Flow)(s':Shared):Prop :=
 match f with
 | .next=>∃ σ' H',Inv X pins σ' H' s'/\D.nx σ' H'
 | .brk=>∃ σ' H',Inv X pins σ' H' s'/\D.bk σ' H'
 | .cont=>∃ σ' H',Inv X pins σ' H' s'/\D.ct σ' H'
 | .ret u=>∃ v σ' H',Inv X pins σ' H' s'/\RelV v u/\D.rt v H'
def PE (X:Cx)(e:Expr)(t:TE):Prop :=
 ∀ (pins:List (Addr×Obj)) (s:Shared) (σ:St) (H:Hp) (Q:VK),Inv X pins σ H s->t σ H Q->wpAny (model X.prog X.w) X.A (eval e X.env) (EP X pins σ Q) X.xe s
def PT (X:Cx)(e:Expr)(t:TT):Prop :=
 ∀ (pins:List (Addr×Obj)) (s:Shared) (σ:St) (H:Hp) (Q:Bool->Hp->Prop),Inv X pins σ H s->t σ H Q->wpAny (model X.prog X.w) X.A (isTrue e X.env (eval e X.env)) (TP X pins σ Q) X.xe s
def PW (X:Cx)(e:Expr)(t:TT):Prop :=
 ∀ (whole:Sem Value) (pins:List (Addr×Obj)) (s:Shared) (σ:St) (H:Hp) (Q:Bool->Hp->Prop),Inv X pins σ H s->t σ H Q->wpAny (model X.prog X.w) X.A (isTrue e X.env whole) (TP X pins σ Q) X.xe s
def PA (X:Cx)(es:List Expr)(t:TA):Prop :=
 ∀ (pos:Pos) (pins:List (Addr×Obj)) (s:Shared) (σ:St) (H:Hp) (Q:List V->Hp->Prop),Inv X pins σ H s->t σ H Q->wpAny (model X.prog X.w) X.A (spliced (backTo pos (starEach es X.env))) (AP X pins σ Q) X.xe s
def PS (X:Cx)(st:Stmt)(t:TS):Prop :=
 ∀ (pins:List (Addr×Obj)) (s:Shared) (σ:St) (H:Hp) (D:Ends),Inv X pins σ H s->t D σ H->wpAny (model X.prog X.w) X.A (exec st X.env) (SP X pins D) X.xe s
def PSs (X:Cx)(st:List Stmt)(t:TS):Prop :=
 ∀ (pins:List (Addr×Obj)) (s:Shared) (σ:St) (H:Hp) (D:Ends),Inv X pins σ H s->t D σ H->wpAny (model X.prog X.w) X.A (execs st X.env) (SP X pins D) X.xe s
theorem thn {α:Type}{t:Sem α}{Q Q':α->Shared->Prop}{M:Model}{A:Around}{E:Value->Shared->Prop}{s:Shared}(h:wpAny M A t Q E s)(hQ:∀ a s,Q a s->Q' a s):wpAny M A t Q' E s:=wpAny_mono h hQ fun _ _ x=>x
section
variable {X:Cx}
def zsr (i:Nat):TE:=fun σ H Q=>∃ v,σ[i]?=some (some v)/\Q v H
def tC (v:V):TE:=fun _ H Q=>Q v H
theorem zsf {i:Nat}{x:Str}{pos:Pos}(hN:X.N[i]?=some x)(hv:Vis X.env.scope x)(hd:(x==("__debug__":Str))=false:=by decide)(hcd:(x==("__classdict__":Str))=false:=by decide):PE X (.Name x pos) (zsr i):=by
 intro pins s σ H Q I h
 obtain⟨v,e,h⟩:=h
 obtain⟨m,hn,hl⟩:=I.loc
 obtain⟨u,r,l⟩:=hl i x v hN e hv
 have fin:EP X pins σ Q u s:=⟨v,H,I,r,h⟩
 rcases l with ⟨hk,hm⟩ | ⟨hk,c,hc,hcell⟩
 ·exact wpAny_Name (wpAny_loadName_local I.ok.kind hk hn hm fin) hd
 ·rcases hk with hk | hk
  ·exact wpAny_Name (wpAny_loadName_cell I.ok.kind hk hc hcell fin) hd
  ·exact wpAny_Name (wpAny_loadName_free I.ok.kind hk hc hcell fin hcd) hd
theorem zky {i j pos}:PE X (.Constant (.int i) j pos) (tC (.int i)):=fun _ _ _ H _ I h=>wpAny_Constant_int ⟨.int i,H,I.tok _,⟨_,rfl⟩,h⟩
theorem zt5 {b j pos}:PE X (.Constant (.bool b) j pos) (tC (.bl b)):=fun _ _ _ H _ I h=>Constant_bool ⟨.bl b,H,I,rfl,h⟩
theorem zsu {j pos}:PE X (.Constant .none j pos) (tC .non):=fun _ _ _ H _ I h=>Constant_none ⟨.non,H,I,rfl,h⟩
theorem zrq {x j pos}:PE X (.Constant (.str x) j pos) (tC (.str x)):=fun _ _ _ H _ I h=>Calls.Constant_str ⟨.str x,H,I.tok _,⟨_,rfl⟩,h⟩
def Gl (X:Cx)(x:Str):Prop:=X.env.kindOf x=some .globalImplicit
theorem zfk {E:Value->Shared->Prop}{pins:List (Addr×Obj)}{s:Shared}{σ:St}{H:Hp}{x:Str}{u:Value}{pos:Pos}{Q:Value->Shared->Prop}(I:Inv X pins σ H s)(hg:Gl X x)(hm:X.mg x=some u)(h:Q u s)
  (hd:(x==("__debug__":Str))=false:=by decide):wpAny (model X.prog X.w) X.A (eval (.Name x pos) X.env) Q E s :=
 Calls.Name_function_global I.ok.kind hg (Calls.loadGlobal_global (by rw [I.ok.glob];exact I.mod.glob.keeps I.bk) hm h) hd
theorem zdm {E:Value->Shared->Prop}{pins:List (Addr×Obj)}{s:Shared}{σ:St}{H:Hp}{x:Str}{u:Value}{pos:Pos}{Q:Value->Shared->Prop}(I:Inv X pins σ H s)(hg:Gl X x)(hm:X.mg x=none)(hv:bootBuiltins x=some u)(h:Q u s)
  (hn:x≠"__name__":=by decide) (hd:(x==("__debug__":Str))=false:=by decide):wpAny (model X.prog X.w) X.A (eval (.Name x pos) X.env) Q E s:=by
 obtain⟨mb,h1,h2⟩:=I.mod.blt
 exact Calls.Name_function_global I.ok.kind hg (Calls.loadGlobal_builtin (by rw [I.ok.glob];exact I.mod.glob.keeps I.bk) hm (by rw [I.ok.blt];exact h1.keeps I.bk) ((h2 x hn).trans hv) h) hd
theorem zlH {x:Str}{v:V}{u:Value}{pos:Pos}(hg:Gl X x)(hm:X.mg x=some u)(r:RelV v u)(hd:(x==("__debug__":Str))=false:=by decide):PE X (.Name x pos) (tC v) :=
 fun _ _ _ H _ I h=>zfk I hg hm ⟨v,H,I,r,h⟩ hd
theorem zqf {x:Str}{v:V}{u:Value}{pos:Pos}(hg:Gl X x)(hm:X.mg x=none)(hv:bootBuiltins x=some u)(r:RelV v u)(hn:x≠"__name__":=by decide)(hd:(x==("__debug__":Str))=false:=by decide):PE X (.Name x pos) (tC v) :=
 fun _ _ _ H _ I h=>zdm I hg hm hv ⟨v,H,I,r,h⟩ hn hd
variable {a b:Expr}{ta tb:TE}{pos:Pos}
def tB (t:TE):TT:=fun σ H Q=>t σ H fun x H1=>∃ c,x=.bl c/\Q c H1
theorem zsp {e:Expr}{t:TE}(h:PE X e t)(he:∀ whole,isTrue e X.env whole=(do let v <- whole;standAt e.pos;holding [v] (truthy v)):=by intro _;rfl):PT X e (tB t):=by
 intro pins s σ H Q I hw
 refine isTrue_plain (thn (h pins s σ H _ I hw) fun v s1 ⟨x,H1,I1,r1,q1⟩=>?_) (he _)
 obtain⟨d,rfl,q⟩:=q1
 cases r1
 exact wpAny_truthy_bool ⟨H1,I1,q⟩
variable {tA tB':TT}{rest:List Expr}
def zuZ (t u:TT):TT:=fun σ H Q=>t σ H fun c H1=>if c=true then u σ H1 Q else Q false H1
def tOr (t u:TT):TT:=fun σ H Q=>t σ H fun c H1=>if c=true then Q true H1 else u σ H1 Q
def zuQ (t:TT):TT:=fun σ H Q=>t σ H fun c H1=>Q (!c) H1
theorem zqW (ha:PT X a tA):PW X (.BoolOp .And [a] pos) tA:=by
 intro wh pins s σ H Q I h
 refine isTrue_and (thn (ha pins s σ H Q I h) fun c s1 e=>?_)
 cases c with
 | true=>exact isTrue_and_nil e
 | false=>exact e
theorem zrd (ha:PT X a tA):PW X (.BoolOp .Or [a] pos) tA:=by
 intro wh pins s σ H Q I h
 refine isTrue_or (thn (ha pins s σ H Q I h) fun c s1 e=>?_)
 cases c with
 | false=>exact isTrue_or_nil e
 | true=>exact e
theorem zrR (ha:PT X a tA)(hb:PW X (.BoolOp .And (b::rest) pos) tB'):PW X (.BoolOp .And (a::b::rest) pos) (zuZ tA tB'):=by
 intro wh pins s σ H Q I h
 refine isTrue_and (thn (ha pins s σ H _ I h) fun c s1 ⟨H1,I1,q1⟩=>?_)
 cases c with
 | true=>exact hb wh pins s1 σ H1 Q I1 q1
 | false=>exact⟨H1,I1,q1⟩
theorem ztC (ha:PT X a tA)(hb:PW X (.BoolOp .Or (b::rest) pos) tB'):PW X (.BoolOp .Or (a::b::rest) pos) (tOr tA tB'):=by
 intro wh pins s σ H Q I h
 refine isTrue_or (thn (ha pins s σ H _ I h) fun c s1 ⟨H1,I1,q1⟩=>?_)
 cases c with
 | true=>exact⟨H1,I1,q1⟩
 | false=>exact hb wh pins s1 σ H1 Q I1 q1
theorem zrH (ha:PT X a tA):PT X (.UnaryOp .Not a pos) (zuQ tA):=by
 intro pins s σ H Q I h
 exact isTrue_not (ha pins s σ H (fun c H1=>Q (!c) H1) I h)
def ztE (ta tb:TE):TE:=fun σ H Q=>ta σ H fun x H1=>∃ c,x=.bl c/\if c=true then tb σ H1 Q else Q (.bl false) H1
def zt2 (ta:TE):TE:=fun σ H Q=>ta σ H fun x H1=>∃ c,x=.bl c/\Q (.bl (!c)) H1
theorem zta {op}{t:TE}(h:PE X a t):PE X (.BoolOp op [a] pos) t:=fun pins s σ H Q I hw=>BoolOp_one (h pins s σ H Q I hw)
theorem zs3 (ha:PE X a ta)(hb:PE X (.BoolOp .And (b::rest) pos) tb):PE X (.BoolOp .And (a::b::rest) pos) (ztE ta tb):=by
 intro pins s σ H Q I h
 refine BoolOp_and (thn (ha pins s σ H _ I h) fun v s1 ⟨x,H1,I1,r1,q1⟩=>?_)
 obtain⟨c,rfl,q1⟩:=q1
 cases r1
 refine wpAny_truthy_bool ?_
 cases c with
 | true=>exact hb pins s1 σ H1 Q I1 q1
 | false=>exact⟨.bl false,H1,I1,rfl,q1⟩
theorem zsP (ha:PE X a ta):PE X (.UnaryOp .Not a pos) (zt2 ta):=by
 intro pins s σ H Q I h
 refine UnaryOp_ (thn (ha pins s σ H _ I h) fun v s1 ⟨x,H1,I1,r1,q1⟩=>?_)
 obtain⟨c,rfl,q1⟩:=q1
 cases r1
 exact not_of (wpAny_truthy_bool ⟨.bl (!c),H1,I1,rfl,q1⟩)
end
def SqL (K:PySem.W.Frag)(H:Hp)(a:Addr)(xs:List V):Prop :=
 Rd H a (.lst xs) \/
  ∃ (o:Obj) (its:Array Value) (n:Nat),K.lookup a=some o/\o.cls=.type "list"/\o.dict=none/\o.data=.seq its n/\its.size<=sizeLine/\Vals xs its.toList
def SqT (K:PySem.W.Frag)(H:Hp)(a:Addr)(xs:List V):Prop :=
 Rd H a (.tup xs) \/
  ∃ (o:Obj) (its:Array Value) (n:Nat),K.lookup a=some o/\o.cls=.type "tuple"/\o.data=.seq its n/\its.size<=sizeLine/\Vals xs its.toList
def zu4:Value->Option V
 | .none=>some .non
 | .bool b=>some (.bl b)
 | .int i _=>some (.int i)
 | .str x _=>some (.str x)
 | .bytes b _=>some (.byt b)
 | .float b _=>some (.flt b)
 | .ref a=>some (.ref a)
 | .type n=>some (.ty n)
 | _=>none
theorem RelV.abs {x:V}{u:Value}(r:RelV x u):zu4 u=some x:=by
 cases x with
 | non=>cases r;rfl
 | bl _=>cases r;rfl
 | int _=>obtain⟨t,rfl⟩:=r;rfl
 | str _=>obtain⟨t,rfl⟩:=r;rfl
 | byt _=>obtain⟨t,rfl⟩:=r;rfl
 | flt _=>obtain⟨t,rfl⟩:=r;rfl
 | ref _=>cases r;rfl
 | ty _=>cases r;rfl
theorem RelV.inj {x y:V}{u:Value}(r:RelV x u)(q:RelV y u):x=y:=Option.some.inj (r.abs.symm.trans q.abs)
theorem Vals.inj:∀ {xs ys:List V} {us:List Value},Vals xs us->Vals ys us->xs=ys
 | _,_,_,.nil,.nil=>rfl
 | _,_,_,.cons r t,.cons r' t'=>by rw [r.inj r',Vals.inj t t']
section
variable {X:Cx}{pins:List (Addr×Obj)}{σ:St}{H:Hp}{s:Shared}{a:Addr}{xs ys:List V}
theorem SqL.of {K:PySem.W.Frag}(h:H a=some (.lst xs)):SqL K H a xs:=.inl (.inl h)
theorem SqT.of {K:PySem.W.Frag}(h:H a=some (.tup xs)):SqT K H a xs:=.inl (.inl h)
theorem Inv.list (I:Inv X pins σ H s)(h:SqL X.K H a xs):∃ its:List Value,Vals xs its/\PlainL s.heap a its.toArray/\xs.length<=sizeLine:=by
 rcases h with h | ⟨o,its,n,hk,hc,hd,hs,hz,r⟩
 ·obtain⟨z,its,n,r,e⟩:=h.ok I.hok
  exact⟨its,r,⟨_,n,e,rfl,rfl,rfl⟩,z⟩
 ·refine⟨its.toList,r,⟨o,n,I.kIn a o hk,hc,hd,by simpa using hs⟩,?_⟩
  have e:=r.length
  simp only [Array.length_toList] at e
  omega
theorem Inv.tuple (I:Inv X pins σ H s)(h:SqT X.K H a xs):∃ its:List Value,Vals xs its/\IsTup s.heap a its.toArray/\xs.length<=sizeLine:=by
 rcases h with h | ⟨o,its,n,hk,hc,hs,hz,r⟩
 ·obtain⟨z,its,r,p⟩:=h.ok I.hok
  exact⟨its,r,p,z⟩
 ·refine⟨its.toList,r,⟨o,I.kIn a o hk,hc,n,by simpa using hs⟩,?_⟩
  have e:=r.length
  simp only [Array.length_toList] at e
  omega
theorem Inv.list_inj (I:Inv X pins σ H s)(h:SqL X.K H a xs)(h':SqL X.K H a ys):xs=ys:=by
 obtain⟨its,r,⟨o,n,e,_,_,d⟩,_⟩:=I.list h
 obtain⟨its',r',⟨o',n',e',_,_,d'⟩,_⟩:=I.list h'
 rw [e] at e';cases e'
 rw [d] at d'
 injection d' with d1 _
 have:its=its':=by simpa using congrArg Array.toList d1
 subst this
 exact r.inj r'
theorem Inv.tuple_inj (I:Inv X pins σ H s)(h:SqT X.K H a xs)(h':SqT X.K H a ys):xs=ys:=by
 obtain⟨its,r,⟨o,e,_,n,d⟩,_⟩:=I.tuple h
 obtain⟨its',r',⟨o',e',_,n',d'⟩,_⟩:=I.tuple h'
 rw [e] at e';cases e'
 rw [d] at d'
 injection d' with d1 _
 have:its=its':=by simpa using congrArg Array.toList d1
 subst this
 exact r.inj r'
end
abbrev Cx.wish (X:Cx)(E:Value->Shared->Prop):Cx:={ X with xe:=E }
abbrev Cx.nox (X:Cx):Cx:=X.wish fun _ _=>False
theorem Cx.Ok.wish {X:Cx}(ok:X.Ok)(E:Value->Shared->Prop):(X.wish E).Ok :=
 ⟨ok.mod,ok.kind,ok.glob,ok.blt,ok.above,ok.inj,ok.has,ok.cab,ok.hd,ok.frames,ok.stk,ok.exf,ok.bs,ok.bsz,ok.noex,ok.exfs,ok.funs,ok.frf⟩
theorem Cx.Ok.unwish {X:Cx}{E:Value->Shared->Prop}(ok:(X.wish E).Ok):X.Ok :=
 ⟨ok.mod,ok.kind,ok.glob,ok.blt,ok.above,ok.inj,ok.has,ok.cab,ok.hd,ok.frames,ok.stk,ok.exf,ok.bs,ok.bsz,ok.noex,ok.exfs,ok.funs,ok.frf⟩
section
variable {X:Cx}{pins:List (Addr×Obj)}{σ:St}{H:Hp}{s:Shared}{E:Value->Shared->Prop}
theorem Inv.wish (I:Inv X pins σ H s)(E:Value->Shared->Prop):Inv (X.wish E) pins σ H s:=⟨I.ok.wish E,I.os,I.bare,I.base,I.loc,I.cell,I.free,I.freeC,I.pin,I.hok,I.len⟩
theorem Inv.unwish (I:Inv (X.wish E) pins σ H s):Inv X pins σ H s:=⟨I.ok.unwish,I.os,I.bare,I.base,I.loc,I.cell,I.free,I.freeC,I.pin,I.hok,I.len⟩
theorem SP.unwish {D:Ends}{f:Flow}{s':Shared}(h:SP (X.wish E) pins D f s'):SP X pins D f s':=by
 cases f with
 | next=>obtain⟨σ',H',I,q⟩:=h;exact⟨σ',H',I.unwish,q⟩
 | brk=>obtain⟨σ',H',I,q⟩:=h;exact⟨σ',H',I.unwish,q⟩
 | cont=>obtain⟨σ',H',I,q⟩:=h;exact⟨σ',H',I.unwish,q⟩
 | ret u=>obtain⟨v,σ',H',I,r,q⟩:=h;exact⟨v,σ',H',I.unwish,r,q⟩
theorem PSs.nox {st:List Stmt}{t:TS}(h:PSs X.nox st t):PSs X st t:=fun pins s σ H D I hw =>
 wpAny_mono (h pins s σ H D (I.wish _) hw) (fun _ _ q=>q.unwish) fun _ _ z=>False.elim z
end
section
variable {X:Cx}{st:Stmt}{rest:List Stmt}{t u:TS}{e:Expr}{te:TE}{pos:Pos}
def ztN:TS:=fun D σ H=>D.nx σ H
def zuV (t u:TS):TS:=fun D σ H=>t { D with nx:=u D } σ H
theorem zqC:PSs X [] ztN:=fun _ _ σ H _ I h=>wpAny_execs_nil ⟨σ,H,I,h⟩
theorem zoX (h1:PS X st t)(h2:PSs X rest u):PSs X (st::rest) (zuV t u):=by
 intro pins s σ H D I h
 refine wpAny_execs_cons (thn (h1 pins s σ H { D with nx:=u D } I h) fun f s1 q=>?_)
 cases f with
 | next =>
  obtain⟨σ',H',I',q⟩:=q
  exact h2 pins s1 σ' H' D I' q
 | ret v=>exact q
 | brk=>exact q
 | cont=>exact q
theorem zqw (h1:PS X st t):PSs X [st] t:=by
 intro pins s σ H D I h
 refine wpAny_execs_cons (thn (h1 pins s σ H D I h) fun f s1 q=>?_)
 cases f with
 | next=>exact wpAny_execs_nil q
 | ret v=>exact q
 | brk=>exact q
 | cont=>exact q
theorem Inv.quiet {pins:List (Addr×Obj)}{σ:St}{H:Hp}{s:Shared}(I:Inv X pins σ H s):interactive X.env=false:=by simp [interactive,I.ok.kind]
def ztw (te:TE):TS:=fun D σ H=>te σ H fun _ H1=>D.nx σ H1
theorem zqI (he:PE X e te)(hs:swapsWith e none pos.line X.env=pure false:=by rfl):PS X (.Expr e pos) (ztw te):=by
 intro pins s σ H D I h
 exact wpAny_Expr_any (thn (he pins s σ H _ I h) fun v s1 ⟨x,H1,I1,r1,q1⟩=>⟨σ,H1,I1,q1⟩) I.quiet hs
def zvd (te:TE):TS:=fun D σ H=>te σ H D.rt
theorem ztb (he:PE X e te):PS X (.Return (some e) pos) (zvd te):=by
 intro pins s σ H D I h
 exact wpAny_Return_some (thn (he pins s σ H _ I h) fun v s1 ⟨x,H1,I1,r1,q1⟩=>⟨x,σ,H1,I1,r1,q1⟩)
def zu9 (c:TT)(t u:TS):TS:=fun D σ H=>c σ H fun b H1=>if b=true then t D σ H1 else u D σ H1
theorem ztW {c:Expr}{a b:List Stmt}{tc:TT}(hc:PT X c tc)(ha:PSs X a t)(hb:PSs X b u):PS X (.If c a b pos) (zu9 tc t u):=by
 intro pins s σ H D I h
 refine wpAny_If (thn (hc pins s σ H _ I h) fun d s1 ⟨H1,I1,q1⟩=>?_)
 cases d with
 | true=>exact ha pins s1 σ H1 D I1 q1
 | false=>exact hb pins s1 σ H1 D I1 q1
def zsB:TS:=fun _ _ _=>False
theorem zpl:PS X st zsB:=fun _ _ _ _ _ _ h=>h.elim
end
abbrev TG:=V->St->Hp->(St->Hp->Prop)->Prop
abbrev TGs:=List V->St->Hp->(St->Hp->Prop)->Prop
def PG (X:Cx)(target:Expr)(t:TG):Prop :=
 ∀ (pins:List (Addr×Obj)) (s:Shared) (σ:St) (H:Hp) (v:V) (u:Value) (Q:St->Hp->Prop),Inv X pins σ H s->RelV v u->t v σ H Q ->
  wpAny (model X.prog X.w) X.A (assign target X.env u) (fun _ s'=>∃ σ' H',Inv X pins σ' H' s'/\Q σ' H') X.xe s
def PGs (X:Cx)(ts:List Expr)(t:TGs):Prop :=
 ∀ (pins:List (Addr×Obj)) (s:Shared) (σ:St) (H:Hp) (vs:List V) (us:List Value) (Q:St->Hp->Prop),Inv X pins σ H s->Vals vs us->t vs σ H Q ->
  wpAny (model X.prog X.w) X.A (assignInOrder ((assignEach ts X.env).map (·.2)) us) (fun _ s'=>∃ σ' H',Inv X pins σ' H' s'/\Q σ' H') X.xe s
abbrev zpi:=V->V->V->Hp->(Hp->Prop)->Prop
def zsq (X:Cx)(t:zpi):Prop :=
 ∀ (pins:List (Addr×Obj)) (s:Shared) (σ:St) (H:Hp) (o i v:V) (ov iv u:Value) (Q:Hp->Prop),Inv X pins σ H s->RelV o ov->RelV i iv->RelV v u->t o i v H Q ->
  wpAny (model X.prog X.w) X.A (setItem ov iv u) (fun _ s'=>∃ H',Inv X pins σ H' s'/\Q H') X.xe s
abbrev TIp:=V->V->Hp->VK->Prop
def PIp (X:Cx)(op:Operator)(t:TIp):Prop :=
 ∀ (pins:List (Addr×Obj)) (s:Shared) (σ:St) (H:Hp) (x y:V) (v u:Value) (Q:VK),Inv X pins σ H s->RelV x v->RelV y u->t x y H Q ->
  wpAny (model X.prog X.w) X.A (inplaceOp op v u) (EP X pins σ Q) X.xe s
section
variable {X:Cx}{pos:Pos}
def zB (i:Nat):TG:=fun v σ H Q=>Q (σ.set i (some v)) H
theorem zaf {i:Nat}{x:Str}(hN:X.N.Nodup)(hi:X.N[i]?=some x)(hx:Loc X.env.scope x)(hf:X.fn x=true\/X.env.scope.names.lookup x=some .local:=by first | exact .inl rfl | exact .inr rfl | assumption):PG X (.Name x pos) (zB i):=by
 intro pins s σ H v u Q I r h
 exact wpAny_assign_Name (zh7 I hN hi hx r (fun s' I'=>⟨_,H,I',h⟩) hf)
def zcc:TGs:=fun vs σ H Q=>vs=[]/\Q σ H
def zag (t:TG)(u:TGs):TGs:=fun vs σ H Q=>∃ v r,vs=v::r/\t v σ H fun σ' H'=>u r σ' H' Q
theorem zem:PGs X [] zcc:=by
 intro pins s σ H vs us Q I r h
 obtain⟨e,h⟩:=h
 subst e
 cases r
 exact assignInOrder_nil ⟨σ,H,I,h⟩
theorem za8 {e:Expr}{es:List Expr}{t:TG}{u:TGs}(h1:PG X e t)(h2:PGs X es u)
  (hs:(assignEach (e::es) X.env).map (·.2)=assign e X.env::(assignEach es X.env).map (·.2):=by rfl):PGs X (e::es) (zag t u):=by
 intro pins s σ H vs us Q I r h
 obtain⟨v,vr,e1,h⟩:=h
 subst e1
 cases r with
 | cons r rr =>
  rw [hs]
  refine assignInOrder_cons (thn (h1 pins s σ H _ _ _ I r h) fun _ s1 ⟨σ1,H1,I1,q1⟩=>?_)
  exact h2 pins s1 σ1 H1 _ _ Q I1 rr q1
def zcf (K:PySem.W.Frag)(n:Nat)(t:TGs):TG:=fun v σ H Q=>∃ a xs,v=.ref a/\SqT K H a xs/\xs.length=n/\t xs σ H Q
theorem zfh {es:List Expr}{k:Nat}{t:TGs}{n:Nat}(hc:X.calm=true)(h:PGs X es t)
  (hn:(assignEach es X.env).length=n:=by rfl) (hst:(assignEach es X.env).findIdx? (·.1)=none:=by rfl):PG X (.Tuple es k pos) (zcf X.K n t):=by
 intro pins s σ H v u Q I r hw
 obtain⟨a,xs,e1,hq,hl,hw⟩:=hw
 subst e1
 cases r
 obtain⟨its,rv,ht,hz⟩:=I.tuple hq
 refine assign_Tuple_tuple (I.ok.hd hc) ht (by simp [hn,<- hl,rv.length]) hst fun h' hx=>?_
 have I1:Inv X pins σ H { s with heap:=h' }:=I.kept (t':=s.toks) fun b o e=>hx b o (Nat.ne_of_lt (Heap.lt_size e)) e
 exact h pins _ σ H xs _ Q I1 (by simpa using rv) hw
def ziT (to ti:TE)(t:zpi):TG:=fun v σ H Q=>to σ H fun o H1=>ti σ H1 fun i H2=>t o i v H2 fun H3=>Q σ H3
theorem zsL {o i:Expr}{to ti:TE}{t:zpi}(ho:PE X o to)(hi:PE X i ti)(hs:zsq X t)
  (ha:∀ v,assign (.Subscript o i pos) X.env v=(do
   let ov <- holding [v] (eval o X.env)
   let iv <- holding [v,ov] (eval i X.env)
   standAt pos
   holding [v,ov,iv] (setItem ov iv v)
   release [v,ov,iv] []):=by intro _;rfl):PG X (.Subscript o i pos) (ziT to ti t):=by
 intro pins s σ H v u Q I r h
 rw [ha]
 refine wpAny_bind (wpAny_holding (thn (ho pins s σ H _ I h) fun ov s1 ⟨x,H1,I1,r1,q1⟩=>?_))
 refine wpAny_bind (wpAny_holding (thn (hi pins s1 σ H1 _ I1 q1) fun iv s2 ⟨y,H2,I2,r2,q2⟩=>?_))
 refine wpAny_bind (wpAny_standAt (wpAny_bind (wpAny_holding (thn (hs pins s2 σ H2 x y v ov iv u _ I2 r1 r2 r q2) fun _ s3 ⟨H3,I3,q3⟩=>?_))))
 exact wpAny_release ⟨σ,H3,I3,q3⟩
def zoA (te:TE)(g:TG):TS:=fun D σ H=>te σ H fun x H1=>g x σ H1 D.nx
theorem zrk {tg e:Expr}{te:TE}{g:TG}(he:PE X e te)(hg:PG X tg g)(hs:swapsWithSole [tg] e pos.line X.env=pure false:=by rfl)(hw:swappedStores [tg] e X.env=pure none:=by rfl)
  (h1:(assignEach [tg] X.env).map (·.2)=[assign tg X.env]:=by rfl):PS X (.Assign [tg] e pos) (zoA te g):=by
 intro pins s σ H D I h
 refine wpAny_Assign_stores (thn (he pins s σ H _ I h) fun v s1 ⟨x,H1,I1,r1,q1⟩=>?_) hs hw
 rw [h1]
 exact thn (hg pins s1 σ H1 x v _ I1 r1 q1) fun _ s2 q=>q
theorem zsD {i:Nat}{x:Str}{e:Expr}{te:TE}{pos':Pos}(hN:X.N.Nodup)(hi:X.N[i]?=some x)(hx:Loc X.env.scope x)(he:PE X e te)(hs:swapsWith e (some (.Name x pos')) pos.line X.env=pure false:=by rfl)(hf:X.fn x=true\/X.env.scope.names.lookup x=some .local:=by first | exact .inl rfl | exact .inr rfl | assumption) :
  PS X (.Assign [.Name x pos'] e pos) (zoA te (zB i)):=by
 intro pins s σ H D I h
 refine wpAny_Assign_Name (thn (he pins s σ H _ I h) fun v s1 ⟨y,H1,I1,r1,q1⟩=>?_) hs
 exact zh7 I1 hN hi hx r1 (fun s2 I2=>⟨_,H1,I2,q1⟩) hf
def zuL (i:Nat)(te:TE)(ti:TIp):TS:=fun D σ H=>∃ x,σ[i]?=some (some x)/\te σ H fun y H1=>ti x y H1 fun z H2=>D.nx (σ.set i (some z)) H2
theorem zsc {i:Nat}{x:Str}{e:Expr}{te:TE}{op:Operator}{ti:TIp}{pos':Pos}(hN:X.N.Nodup)(hi:X.N[i]?=some x)(hx:Loc X.env.scope x)(he:PE X e te)(ho:PIp X op ti)(hf:X.fn x=true\/X.env.scope.names.lookup x=some .local:=by first | exact .inl rfl | exact .inr rfl | assumption) :
  PS X (.AugAssign (.Name x pos') op e pos) (zuL i te ti):=by
 intro pins s σ H D I h
 obtain⟨v,e1,h⟩:=h
 obtain⟨m,hn,hl⟩:=I.loc
 have vis:Vis X.env.scope x:=by rcases hx with k | k;exact .inl k;exact .inr (.inl k)
 obtain⟨u,r,l⟩:=hl i x v hi e1 vis
 refine wpAny_AugAssign_Name ?_
 have go:wpAny (model X.prog X.w) X.A (eval e X.env) (fun w s₂=>wpAny (model X.prog X.w) X.A (inplaceOp op u w) (fun r s₃=>wpAny (model X.prog X.w) X.A (storeName X.env x r) (fun _=>SP X pins D .next) X.xe s₃) X.xe s₂) X.xe s:=by
  refine thn (he pins s σ H _ I h) fun w s1 ⟨y,H1,I1,r1,q1⟩=>?_
  refine thn (ho pins s1 σ H1 v y u w _ I1 r r1 q1) fun z s2 ⟨zv,H2,I2,r2,q2⟩=>?_
  exact zh7 I2 hN hi hx r2 (fun s3 I3=>⟨_,H2,I3,q2⟩) hf
 rcases l with ⟨hk,hm⟩ | ⟨hk,c,hc,hcell⟩
 ·exact wpAny_loadName_local I.ok.kind hk hn hm go
 ·rcases hk with hk | hk
  ·exact wpAny_loadName_cell I.ok.kind hk hc hcell go
  ·rcases hx with k | k
   ·have:X.env.scope.names.lookup x=some .free:=hk
    rw [k] at this;cases this
   ·have:X.env.scope.names.lookup x=some .free:=hk
    rw [k] at this;cases this
def ipI (f:Int->Int->Int):TIp:=fun x y H Q=>∃ i j,x=.int i/\y=.int j/\Q (.int (f i j)) H
theorem zsN:PIp X .Add (ipI fun i j=>i+j):=by
 intro pins s σ H x y v u Q I r1 r2 h
 obtain⟨i,j,e1,e2,q⟩:=h
 subst e1;subst e2
 obtain⟨t,rfl⟩:=r1
 obtain⟨t',rfl⟩:=r2
 exact iadd_int ⟨.int _,H,I.tok _,⟨_,rfl⟩,q⟩
end
section
variable {X:Cx}{pos:Pos}
def zr3 (c:TT)(tb:TS):TS:=fun D σ H=>∃ W:Nat->St->Hp->Prop,(∃ m,W m σ H)/\∀ m σ H,W m σ H ->
 c σ H fun b H1=>if b=true then ∃ N:St->Hp->Prop,(∀ σ' H',N σ' H'->∃ m',m'<m/\W m' σ' H')/\tb { D with nx:=N,ct:=N,bk:=D.nx } σ H1 else D.nx σ H1
theorem zph {c:Expr}{body:List Stmt}{tc:TT}{tb:TS}(hp:PassesOwn (model X.prog X.w) X.A X.env X.xe)(hc:PT X c tc)(hb:PSs X body tb):PS X (.While c body [] pos) (zr3 tc tb):=by
 intro pins s σ H D I h
 obtain⟨W,⟨m0,w0⟩,turn⟩:=h
 refine wpAny_While (codeAny_whileLoop (fun n s'=>∃ σ' H',Inv X pins σ' H' s'/\W n σ' H') ?_ m0 ⟨σ,H,I,w0⟩)
 rintro n s1 ⟨σ1,H1,I1,w1⟩
 refine wpAny_passesOwn hp (thn (hc pins s1 σ1 H1 _ I1 (turn n σ1 H1 w1)) fun b s2 ⟨H2,I2,q2⟩=>?_)
 cases b with
 | true =>
  obtain⟨N,hN,q2⟩:=q2
  rw [if_pos rfl]
  refine wpAny_passesOwn hp (thn (hb pins s2 σ1 H2 _ I2 q2) fun f s3 q3=>?_)
  cases f with
  | next =>
   obtain⟨σ3,H3,I3,n3⟩:=q3
   obtain⟨m',hm,w3⟩:=hN σ3 H3 n3
   exact⟨m',hm,σ3,H3,I3,w3⟩
  | cont =>
   obtain⟨σ3,H3,I3,n3⟩:=q3
   obtain⟨m',hm,w3⟩:=hN σ3 H3 n3
   exact⟨m',hm,σ3,H3,I3,w3⟩
  | brk=>exact q3
  | ret v=>exact q3
 | false =>
  rw [if_neg Bool.false_ne_true]
  exact wpAny_execs_nil ⟨σ1,H2,I2,q2⟩
end
structure It where
 go:Nat->Hp->Prop
 yld:Nat->Hp->V->Hp->Prop
 stop:Nat->Hp->Prop
def zes (X:Cx)(pins:List (Addr×Obj))(H:Hp)(b:Addr):Prop :=
 H b=none/\b≠X.env.locals/\b∉X.fs/\(b∈X.ex\/X.s₀.heap.objs.size<=b)/\(∀ x c,X.env.cells.lookup x=some c->c≠b)/\∀ p∈X.pn++pins,p.1≠b
theorem Inv.fpOk {X:Cx}{pins:List (Addr×Obj)}{σ:St}{H H':Hp}{s:Shared}{b:Addr}(I:Inv X pins σ H s)(hb:s.heap.objs.size<=b)(hn:H' b=none):zes X pins H' b:=by
 refine⟨hn,Nat.ne_of_gt (Nat.lt_of_lt_of_le I.lt hb),I.nofs hb,.inr (Nat.le_trans I.sz hb),fun x c e z=>?_,fun p hp z=>?_⟩
 ·obtain⟨v,q⟩:=I.cell x c e
  exact absurd (Nat.lt_of_lt_of_le q.lt (by rw [z];exact hb)) (Nat.lt_irrefl _)
 ·exact absurd (Nat.lt_of_lt_of_le (Heap.lt_size (I.pin p hp).1) (by rw [z];exact hb)) (Nat.lt_irrefl _)
structure Turn (P:Program)(w:World)(K:PySem.W.Frag)(tg:Expr)(J:It)(fp:List Addr)(it:Addr)(tn:Nat->Heap->Prop):Prop where
 mem:it∈fp
 obj:∀ i h,tn i h->∀ b∈fp,∃ o,h.get? b=some o/\∀ v,o.data≠.cell v
 keep:∀ i h h',tn i h->(∀ b∈fp,∀ o,h.get? b=some o->h'.get? b=some o)->tn i h'
 item:∀ (X:Cx),X.prog=P->X.w=w->X.K=K->X.calm=true->∀ (i:Nat) (pins:List (Addr×Obj)) (s:Shared) (σ:St) (H:Hp) (E:Value->Shared->Prop),Inv X pins σ H s->(∀ b∈fp,zes X pins H b)->tn i s.heap->J.go i H ->
  wpAny (model P w) X.A (pyNext (.ref it)) (fun r s1=>∃ u,r=some u /\
   wpAny (model P w) X.A (letOwnedTupleGo tg (.ref it) u) (fun _ s2=>∃ x H',Inv X pins σ H' s2/\RelV x u/\J.yld i H x H'/\tn (i+1) s2.heap/\∀ b∈fp,H' b=none) E s1) E s
 done:∀ (X:Cx),X.prog=P->X.w=w->X.K=K->X.calm=true->∀ (i:Nat) (pins:List (Addr×Obj)) (s:Shared) (σ:St) (H:Hp) (E:Value->Shared->Prop),Inv X pins σ H s->(∀ b∈fp,zes X pins H b)->tn i s.heap->J.stop i H ->
  wpAny (model P w) X.A (pyNext (.ref it)) (fun r s1=>r=none/\Inv X pins σ H s1) E s
 self:∀ (A:Around) (i:Nat) (s:Shared) (Q:Value->Shared->Prop) (E:Value->Shared->Prop),tn i s.heap->Q (.ref it) s->wpAny (model P w) A (pyIter (.ref it)) Q E s
abbrev TI:=St->Hp->(It->Hp->Prop)->Prop
def PIE (X:Cx)(pins:List (Addr×Obj))(σ:St)(tg:Expr)(R:It->Hp->Prop)(itv:Value)(s2:Shared):Prop :=
 ∃ (it:Addr) (fp:List Addr) (tn:Nat->Heap->Prop) (J:It) (H':Hp),itv=.ref it/\Inv X pins σ H' s2/\Turn X.prog X.w X.K tg J fp it tn/\tn 0 s2.heap/\(∀ b∈fp,zes X pins H' b)/\R J H'
def PI (X:Cx)(tg iter:Expr)(wi:TI):Prop :=
 ∀ (pins:List (Addr×Obj)) (s:Shared) (σ:St) (H:Hp) (R:It->Hp->Prop),Inv X pins σ H s->wi σ H R ->
  wpAny (model X.prog X.w) X.A (eval iter X.env) (fun v s1=>wpAny (model X.prog X.w) X.A (pyIter v) (PIE X pins σ tg R) X.xe s1) X.xe s
theorem zha {M:Model}{A:Around}{E:Value->Shared->Prop}{s:Shared}{tg:Expr}{it:Addr}{u:Value}{o:Obj}{n:String}{vs:Array Value}{Q:Unit->Shared->Prop}(ho:s.heap.get? it=some o)(hc:o.cls=.type n)(hd:o.data=.fields vs)
    (hn:["enumerate","zip","dict_itemiterator","dict_reverseitemiterator","odict_iterator","itertools.zip_longest","itertools.pairwise"].contains n=false) (hQ:Q () s):wpAny M A (letOwnedTupleGo tg (.ref it) u) Q E s:=by
  unfold letOwnedTupleGo
  cases tg<;>first
    | exact wpAny_pure hQ
    | (cases u <;> first
        | exact wpAny_pure hQ
        | (refine wpAny_bind (wpAny_load ho ?_)
           rw [hc,hd]
           show wpAny M A (if (["enumerate","zip","dict_itemiterator","dict_reverseitemiterator","odict_iterator","itertools.zip_longest","itertools.pairwise"].contains n&&vs[0]?==some (rawInt _))=true then _ else _) Q E s
           rw [if_neg (by intro h;rw [hn,Bool.false_and] at h;cases h)]
           exact wpAny_pure hQ))
def Itl (K:PySem.W.Frag)(a:Addr):It :=
 ⟨fun i H=>∃ xs x,SqL K H a xs/\xs[i]?=some x,fun i H x H'=>H'=H/\∀ xs,SqL K H a xs->xs[i]?=some x,fun i H=>∃ xs,SqL K H a xs/\xs.length<=i⟩
def Itt (K:PySem.W.Frag)(a:Addr):It :=
 ⟨fun i H=>∃ xs x,SqT K H a xs/\xs[i]?=some x,fun i H x H'=>H'=H/\∀ xs,SqT K H a xs->xs[i]?=some x,fun i H=>∃ xs,SqT K H a xs/\xs.length<=i⟩
def Itr (lo:Int)(n:Nat):It:=⟨fun i _=>i<n,fun i H x H'=>H'=H/\x=.int (lo+i),fun i _=>n<=i⟩
theorem znG {P:Program}{w:World}{K:PySem.W.Frag}{tg:Expr}(a it:Addr):Turn P w K tg (Itl K a) [it] it (fun i h=>h.IsListIter it a i) where
 mem:=by simp
 obj:=fun i h st b hb=>by
  have e:b=it:=by simpa using hb
  subst e
  obtain⟨o,e,c,d⟩:=st
  exact⟨o,e,fun v z=>by rw [d] at z;cases z⟩
 keep:=fun i h h' st k=>st.at fun o e=>k it (by simp) o e
 item:=by
  intro X hP hw hK hc i pins s σ H E I hf st hg
  subst hP hw hK
  obtain⟨xs,x,hq,hx⟩:=hg
  obtain⟨its,rv,p,hz⟩:=I.list hq
  obtain⟨u,hu,ru⟩:=rv.get hx
  obtain⟨f0,f1,f2,f3,f4,f5⟩:=hf it (by simp)
  refine wpAny_pyNext_list_item st p.isList (x:=u) (by simpa using hu) fun h' st' sb=>?_
  have I1:Inv X pins σ H { s with heap:=h' }:=I.turned (t':=s.toks) (fun b o hb e=>(sb.2 b hb).trans e) f0 f1 f3 f4 f5
  obtain⟨o,e,c,d⟩:=id st'
  exact⟨u,rfl,zha (s:={ s with heap:=h' }) e c d (by decide) ⟨x,H,I1,ru,⟨rfl,fun ys hy=>by rw [I.list_inj hy hq];exact hx⟩,st',fun b hb=>(hf b hb).1⟩⟩
 done:=by
  intro X hP hw hK hc i pins s σ H E I hf st hg
  subst hP hw hK
  obtain⟨xs,hq,hx⟩:=hg
  obtain⟨its,rv,p,hz⟩:=I.list hq
  obtain⟨f0,f1,f2,f3,f4,f5⟩:=hf it (by simp)
  have hl:=rv.length
  exact wpAny_pyNext_list_end (I.ok.hd hc) st p.isList (by simp;omega) fun h' eb=>⟨rfl,I.turned (t':=s.toks) (fun b o hb e=>eb b o hb e) f0 f1 f3 f4 f5⟩
 self:=fun _ _ _ _ _ st h=>wpAny_pyIter_listiter st h
theorem zl9 {P:Program}{w:World}{K:PySem.W.Frag}{tg:Expr}(a it:Addr):Turn P w K tg (Itt K a) [it] it (fun i h=>h.IsTupleIter it a i) where
 mem:=by simp
 obj:=fun i h st b hb=>by
  have e:b=it:=by simpa using hb
  subst e
  obtain⟨o,e,c,d⟩:=st
  exact⟨o,e,fun v z=>by rw [d] at z;cases z⟩
 keep:=fun i h h' st k=>st.at fun o e=>k it (by simp) o e
 item:=by
  intro X hP hw hK hc i pins s σ H E I hf st hg
  subst hP hw hK
  obtain⟨xs,x,hq,hx⟩:=hg
  obtain⟨its,rv,p,hz⟩:=I.tuple hq
  obtain⟨u,hu,ru⟩:=rv.get hx
  obtain⟨f0,f1,f2,f3,f4,f5⟩:=hf it (by simp)
  refine wpAny_pyNext_tuple_item st (show s.heap.IsTuple a its.toArray from p) (x:=u) (by simpa using hu) fun h' st' sb=>?_
  have I1:Inv X pins σ H { s with heap:=h' }:=I.turned (t':=s.toks) (fun b o hb e=>(sb.2 b hb).trans e) f0 f1 f3 f4 f5
  obtain⟨o,e,c,d⟩:=id st'
  exact⟨u,rfl,zha (s:={ s with heap:=h' }) e c d (by decide) ⟨x,H,I1,ru,⟨rfl,fun ys hy=>by rw [I.tuple_inj hy hq];exact hx⟩,st',fun b hb=>(hf b hb).1⟩⟩
 done:=by
  intro X hP hw hK hc i pins s σ H E I hf st hg
  subst hP hw hK
  obtain⟨xs,hq,hx⟩:=hg
  obtain⟨its,rv,p,hz⟩:=I.tuple hq
  obtain⟨f0,f1,f2,f3,f4,f5⟩:=hf it (by simp)
  have hl:=rv.length
  exact wpAny_pyNext_tuple_end (I.ok.hd hc) st (show s.heap.IsTuple a its.toArray from p) (by simp;omega) fun h' eb=>⟨rfl,I.turned (t':=s.toks) (fun b o hb e=>eb b o hb e) f0 f1 f3 f4 f5⟩
 self:=fun _ _ _ _ _ st h=>wpAny_pyIter_tupleiter st h
theorem ziH {P:Program}{w:World}{K:PySem.W.Frag}{tg:Expr}(it:Addr)(lo:Int)(n:Nat):Turn P w K tg (Itr lo n) [it] it (fun i h=>IsRangeIter h it (lo+(i:Nat)*1) ((n:Int)-(i:Nat)) 1) where
 mem:=by simp
 obj:=fun i h st b hb=>by
  have e:b=it:=by simpa using hb
  subst e
  exact⟨_,st,fun v z=>by
   have z':Data.fields _=Data.cell v:=z
   cases z'⟩
 keep:=fun i h h' st k=>k it (by simp) _ st
 item:=by
  intro X hP hw hK hc i pins s σ H E I hf st hg
  subst hP hw hK
  obtain⟨f0,f1,f2,f3,f4,f5⟩:=hf it (by simp)
  have W:=Walks.range (prog:=X.prog) (w:=X.w) (I.ok.hd hc) it lo 1 n
  refine W.item i s _ _ hg st fun v h' tk hv st' kk=>?_
  obtain⟨t,rfl⟩:=hv
  have I1:Inv X pins σ H { s with heap:=h',toks:=tk }:=I.turned (fun b o hb e=>kk b o (by simpa using hb) e) f0 f1 f3 f4 f5
  refine⟨_,rfl,zha (s:={ s with heap:=h',toks:=tk }) (n:="range_iterator") st' rfl rfl (by decide) ⟨.int (lo+i),H,I1,⟨t,?_⟩,⟨rfl,rfl⟩,st',fun b hb=>(hf b hb).1⟩⟩
  rw [Int.mul_one]
 done:=by
  intro X hP hw hK hc i pins s σ H E I hf st hg
  subst hP hw hK
  obtain⟨f0,f1,f2,f3,f4,f5⟩:=hf it (by simp)
  exact wpAny_pyNext_range_end (I.ok.hd hc) st (by have:n<=i:=hg;omega) fun h' eb=>⟨rfl,I.turned (t':=s.toks) (fun b o hb e=>eb b o hb e) f0 f1 f3 f4 f5⟩
 self:=fun _ _ _ _ _ st h=>wpAny_pyIter_rangeiter st h
section
variable {X:Cx}{tg:Expr}
theorem zps {pins:List (Addr×Obj)}{σ:St}{H:Hp}{s:Shared}{R:It->Hp->Prop}{E:Value->Shared->Prop}{lo hi:Int}{t u v:Tok}{tk:Nat}(I:Inv X pins σ H s)(h1:-(2 ^ 62)<=lo)(h2:lo<2 ^ 62)(h3:-(2 ^ 62)<=hi)(h4:hi<2 ^ 62)
    (q:R (Itr lo (hi-lo).toNat) H):wpAny (model X.prog X.w) X.A (pyIter (.ref s.heap.objs.size)) (PIE X pins σ tg R) E { s with heap:=s.heap.push { cls:=.type "range",data:=.fields #[.int lo t,.int hi u,.int 1 v] },toks:=tk }:=by
  refine wpAny_pyIter_range (IsRange.new ..) (small_one h1 h2 h3 h4) ?_
  have I1:Inv X pins σ H { s with heap:=s.heap.push { cls:=.type "range",data:=.fields #[.int lo t,.int hi u,.int 1 v] },toks:=tk }:=I.kept fun b o e=>Heap.get?_push_of_some _ e
  refine⟨(s.heap.push { cls:=.type "range",data:=.fields #[.int lo t,.int hi u,.int 1 v] }).objs.size,[(s.heap.push { cls:=.type "range",data:=.fields #[.int lo t,.int hi u,.int 1 v] }).objs.size],_,_,H,rfl,
    I1.kept (t':=tk) fun b o e=>Heap.get?_push_of_some _ e,ziH _ lo (hi-lo).toNat,?_,fun b hb=>?_,q⟩
  · have e1:lo+((0:Nat):Int)*1=lo:=by simp
    have e2:(((hi-lo).toNat:Nat):Int)-((0:Nat):Int)=Builtin.Range.rangeSize lo hi 1:=by rw [rangeSize_one];split<;>omega
    show IsRangeIter _ _ (lo+((0:Nat):Int)*1) ((((hi-lo).toNat:Nat):Int)-((0:Nat):Int)) 1
    rw [e1,e2]
    exact Heap.get?_push_size _ rfl
  · have e:b=(s.heap.push { cls:=.type "range",data:=.fields #[.int lo t,.int hi u,.int 1 v] }).objs.size:=by simpa using hb
    subst e
    exact I1.fpOk (Nat.le_refl _) (I1.hok.fresh (Nat.le_refl _))
def zeS (ta:TA):TI:=fun σ H R=>ta σ H fun vs H1=>∃ j:Int,vs=[.int j]/\-(2 ^ 62)<=j/\j<2 ^ 62/\R (Itr 0 j.toNat) H1
theorem znd {a:Expr}{ta:TA}{p pos:Pos}(hg:Gl X "range")(hm:X.mg "range"=none)(ha:PA X [a] ta)(hs:starEach [a] X.env=[(false,eval a X.env)]:=by rfl):PI X tg (.Call (.Name "range" p) [a] [] pos) (zeS ta):=by
 intro pins s σ H R I h
 refine Call_ (zdm I hg hm boot_range (PyProof.Rows.callWith_type1 (thn (ha pos pins s σ H _ I h) fun us s1 ⟨vs,H1,I1,r1,q1⟩=>?_) hs rfl))
 obtain⟨j,e,q1,q2,q⟩:=q1
 subst e
 cases r1 with
 | cons r rr =>
  cases rr
  obtain⟨t,rfl⟩:=r
  exact call_range_1 (zps I1 (by omega) (by omega) q1 q2 (by simpa using q))
def zu1 (wi:TI)(g:TG)(tb:TS):TS:=fun D σ H=>wi σ H fun J H1=>∃ W:Nat->Nat->St->Hp->Prop,(∃ m,W 0 m σ H1)/\∀ i m σ H,W i m σ H ->
 (J.stop i H/\D.nx σ H)\/(J.go i H/\∃ N:St->Hp->Prop,(∀ σ' H',N σ' H'->∃ m',m'<m/\W (i+1) m' σ' H')/\∀ x H',J.yld i H x H'->g x σ H' fun σ2 H2=>tb { D with nx:=N,ct:=N,bk:=D.nx } σ2 H2)
def zgC (fp:List Addr)(h:Heap):List (Addr×Obj):=fp.filterMap fun b=>(h.get? b).map fun o=>(b,o)
theorem zec {fp:List Addr}{h:Heap}{b:Addr}{o:Obj}(hb:b∈fp)(e:h.get? b=some o):(b,o)∈zgC fp h:=List.mem_filterMap.mpr ⟨b,hb,by rw [e];rfl⟩
theorem znD {fp:List Addr}{h:Heap}{p:Addr×Obj}(hp:p∈zgC fp h):p.1∈fp/\h.get? p.1=some p.2:=by
 obtain⟨b,hb,e⟩:=List.mem_filterMap.mp hp
 cases q:h.get? b with
 | none=>rw [q] at e;cases e
 | some o =>
  rw [q] at e
  have e':(b,o)=p:=Option.some.inj e
  subst e'
  exact⟨hb,q⟩
theorem Inv.pinned {pins:List (Addr×Obj)}{σ:St}{H:Hp}{s:Shared}{fp:List Addr}(I:Inv X pins σ H s)(hf:∀ b∈fp,zes X pins H b)(ho:∀ b∈fp,∃ o,s.heap.get? b=some o/\∀ v,o.data≠.cell v):Inv X (pins++zgC fp s.heap) σ H s :=
 I.pins_of fun p hp=>(List.mem_append.mp hp).elim (fun z=>I.pin p (List.mem_append_right _ z)) fun z=>by
  obtain⟨hb,e⟩:=znD z
  obtain⟨f0,f1,f2,_⟩:=hf p.1 hb
  obtain⟨o,e',d⟩:=ho p.1 hb
  rw [e] at e';cases e'
  exact⟨e,f0,f1,f2,d⟩
theorem Inv.unpinned {pins pl:List (Addr×Obj)}{σ:St}{H:Hp}{s:Shared}(I:Inv X (pins++pl) σ H s):Inv X pins σ H s:=I.pins_of fun p hp=>I.pin p (List.mem_append_right _ (List.mem_append_left _ hp))
theorem zsw {iter:Expr}{body:List Stmt}{wi:TI}{g:TG}{tb:TS}{pos:Pos}(hp:PassesOwn (model X.prog X.w) X.A X.env X.xe)(hc:X.calm=true)(hi:PI X tg iter wi)(hg:PG X tg g)(hb:PSs X body tb)
  (hs:∀ x,foldedSetIterable iter X.env x=pure x:=by intro _;rfl):PS X (.For tg iter body [] pos) (zu1 wi g tb):=by
 intro pins s σ H D I h
 refine wpAny_For (thn (hi pins s σ H _ I h) fun v s1 h1=>thn h1 fun itv s2 h2=>?_) hs
 obtain⟨it,fp,tn,J,H2,e,I2,T,st2,f2,W,⟨m0,w0⟩,turn⟩:=h2
 subst e
 have stat:∀ {H':Hp},(∀ b∈fp,H' b=none)->∀ b∈fp,zes X pins H' b:=fun hn b hb=>⟨hn b hb,(f2 b hb).2⟩
 refine codeAny_forLoop_any (fun n s'=>∃ i σ' H',Inv X pins σ' H' s'/\tn i s'.heap/\(∀ b∈fp,H' b=none)/\W i n σ' H') ?_ m0 ⟨0,σ,H2,I2,st2,fun b hb=>(f2 b hb).1,w0⟩
 rintro n s3 ⟨i,σ3,H3,I3,st3,fr3,w3⟩
 rcases turn i n σ3 H3 w3 with ⟨stop,qn⟩ | ⟨go,N,hN,step⟩
 ·refine wpAny_passesOwn hp (thn (T.done X rfl rfl rfl hc i pins s3 σ3 H3 X.xe I3 (stat fr3) st3 stop) fun r s4 ⟨hr,I4⟩=>?_)
  subst hr
  exact wpAny_execs_nil ⟨σ3,H3,I4,qn⟩
 ·refine wpAny_passesOwn hp (thn (T.item X rfl rfl rfl hc i pins s3 σ3 H3 X.xe I3 (stat fr3) st3 go) fun r s4 ⟨u,hr,h4⟩=>?_)
  subst hr
  refine wpAny_passesOwn hp (thn h4 fun _ s5 ⟨x,H5,I5,r5,y5,st5,fr5⟩=>?_)
  have I5':=I5.pinned (stat fr5) (T.obj _ _ st5)
  refine wpAny_passesOwn hp (thn (hg _ s5 σ3 H5 x u _ I5' r5 (step x H5 y5)) fun _ s6 ⟨σ6,H6,I6,q6⟩=>?_)
  refine wpAny_passesOwn hp (thn (hb _ s6 σ6 H6 _ I6 q6) fun f s7 q7=>?_)
  have again:∀ {σ7:St} {H7:Hp},Inv X (pins++zgC fp s5.heap) σ7 H7 s7->N σ7 H7->∃ m,m<n/\∃ i σ' H',Inv X pins σ' H' s7/\tn i s7.heap/\(∀ b∈fp,H' b=none)/\W i m σ' H':=fun {σ7 H7} I7 n7=>by
   obtain⟨m',hm,w7⟩:=hN σ7 H7 n7
   refine⟨m',hm,i+1,σ7,H7,I7.unpinned,T.keep _ _ _ st5 fun b hb o e=>(I7.pin (b,o) (List.mem_append_right _ (List.mem_append_right _ (zec hb e)))).1,fun b hb=>?_,w7⟩
   obtain⟨o,e,d⟩:=T.obj _ _ st5 b hb
   exact (I7.pin (b,o) (List.mem_append_right _ (List.mem_append_right _ (zec hb e)))).2.1
  cases f with
  | next=>obtain⟨σ7,H7,I7,n7⟩:=q7;exact again I7 n7
  | cont=>obtain⟨σ7,H7,I7,n7⟩:=q7;exact again I7 n7
  | brk=>obtain⟨σ7,H7,I7,q7⟩:=q7;exact⟨σ7,H7,I7.unpinned,q7⟩
  | ret v=>obtain⟨x7,σ7,H7,I7,r7,q7⟩:=q7;exact⟨x7,σ7,H7,I7.unpinned,r7,q7⟩
end
abbrev R2:=V->V->Hp->VK->Prop
def OpR (X:Cx)(f:Value->Value->Sem Value)(r:R2):Prop :=
 ∀ (pins:List (Addr×Obj)) (s:Shared) (σ:St) (H:Hp) (x y:V) (v u:Value) (Q:VK),Inv X pins σ H s->RelV x v->RelV y u->r x y H Q ->
  wpAny (model X.prog X.w) X.A (f v u) (EP X pins σ Q) X.xe s
def UnR (X:Cx)(f:Value->Sem Value)(r:V->Hp->VK->Prop):Prop :=
 ∀ (pins:List (Addr×Obj)) (s:Shared) (σ:St) (H:Hp) (x:V) (v:Value) (Q:VK),Inv X pins σ H s->RelV x v->r x H Q ->
  wpAny (model X.prog X.w) X.A (f v) (EP X pins σ Q) X.xe s
def zaT (X:Cx)(f:Value)(r:List V->Hp->VK->Prop):Prop :=
 ∀ (pins:List (Addr×Obj)) (s:Shared) (σ:St) (H:Hp) (xs:List V) (us:List Value) (Q:VK),Inv X pins σ H s->Vals xs us->r xs H Q ->
  wpAny (model X.prog X.w) X.A (call f us) (EP X pins σ Q) X.xe s
def tOp (r:R2)(ta tb:TE):TE:=fun σ H Q=>ta σ H fun x H1=>tb σ H1 fun y H2=>r x y H2 Q
def tUn (r:V->Hp->VK->Prop)(ta:TE):TE:=fun σ H Q=>ta σ H fun x H1=>r x H1 Q
def rI (C:Int->Int->Prop)(g:Int->Int->V):R2:=fun x y H Q=>∃ i j,x=.int i/\y=.int j/\C i j/\Q (g i j) H
def rI0 (g:Int->Int->V):R2:=fun x y H Q=>∃ i j,x=.int i/\y=.int j/\Q (g i j) H
def rU (g:Int->V):V->Hp->VK->Prop:=fun x H Q=>∃ i,x=.int i/\Q (g i) H
section
variable {X:Cx}{a b c:Expr}{ta tb tc:TE}{pos:Pos}
theorem zoG (ha:PE X a ta)(hb:PE X b tb){pins:List (Addr×Obj)}{s:Shared}{σ:St}{H:Hp}{R:V->V->Hp->Prop}(I:Inv X pins σ H s)
  (h:ta σ H fun x H1=>tb σ H1 fun y H2=>R x y H2) {Q:Value->Shared->Prop} {f:Value->Value->Sem Value}
  (hf:∀ v u s2 x y H2,Inv X pins σ H2 s2->RelV x v->RelV y u->R x y H2->wpAny (model X.prog X.w) X.A (f v u) Q X.xe s2) :
  wpAny (model X.prog X.w) X.A (eval a X.env) (fun v s₁=>wpAny (model X.prog X.w) X.A (eval b X.env) (fun u s₂=>wpAny (model X.prog X.w) X.A (f v u) Q X.xe s₂) X.xe s₁) X.xe s:=by
 refine thn (ha pins s σ H _ I h) fun v s1 ⟨x,H1,I1,r1,q1⟩=>?_
 refine thn (hb pins s1 σ H1 _ I1 q1) fun u s2 ⟨y,H2,I2,r2,q2⟩=>?_
 exact hf v u s2 x y H2 I2 r1 r2 q2
theorem zpF {op:Operator}{r:R2}(ho:OpR X (binaryOp op) r)(ha:PE X a ta)(hb:PE X b tb):PE X (.BinOp a op b pos) (tOp r ta tb):=by
 intro pins s σ H Q I h
 exact wpAny_BinOp (zoG ha hb I h fun v u s2 x y H2 I2 rx ry q=>ho pins s2 σ H2 x y v u Q I2 rx ry q)
theorem zuk {op:UnaryOp}{r:V->Hp->VK->Prop}(ho:UnR X (unaryOp op) r)(ha:PE X a ta):PE X (.UnaryOp op a pos) (tUn r ta):=by
 intro pins s σ H Q I h
 exact UnaryOp_ (thn (ha pins s σ H _ I h) fun v s1 ⟨x,H1,I1,r1,q1⟩=>ho pins s1 σ H1 x v Q I1 r1 q1)
theorem opI {f:Value->Value->Sem Value}{C:Int->Int->Prop}{g:Int->Int->Int}
  (rule:∀ (i j:Int) (t u:Tok) (s:Shared) (Q:Value->Shared->Prop) (E:Value->Shared->Prop),C i j->Q (.int (g i j) s.toks) { s with toks:=s.toks+1 }->wpAny (model X.prog X.w) X.A (f (.int i t) (.int j u)) Q E s) :
  OpR X f (rI C fun i j=>.int (g i j)):=by
 intro pins s σ H x y v u Q I rx ry h
 obtain⟨i,j,rfl,rfl,hc,q⟩:=h
 obtain⟨t,rfl⟩:=rx
 obtain⟨t',rfl⟩:=ry
 exact rule i j t t' s _ _ hc ⟨.int (g i j),H,I.tok _,⟨_,rfl⟩,q⟩
theorem zsS {f:Value->Value->Sem Value}{g:Int->Int->Int}
  (rule:∀ (i j:Int) (t u:Tok) (s:Shared) (Q:Value->Shared->Prop) (E:Value->Shared->Prop),Q (.int (g i j) s.toks) { s with toks:=s.toks+1 }->wpAny (model X.prog X.w) X.A (f (.int i t) (.int j u)) Q E s) :
  OpR X f (rI0 fun i j=>.int (g i j)):=by
 intro pins s σ H x y v u Q I rx ry h
 obtain⟨i,j,rfl,rfl,q⟩:=h
 obtain⟨t,rfl⟩:=rx
 obtain⟨t',rfl⟩:=ry
 exact rule i j t t' s _ _ ⟨.int (g i j),H,I.tok _,⟨_,rfl⟩,q⟩
theorem zmB {f:Value->Value->Sem Value}{g:Int->Int->Bool}
  (rule:∀ (i j:Int) (t u:Tok) (s:Shared) (Q:Value->Shared->Prop) (E:Value->Shared->Prop),Q (.bool (g i j)) s->wpAny (model X.prog X.w) X.A (f (.int i t) (.int j u)) Q E s) :
  OpR X f (rI0 fun i j=>.bl (g i j)):=by
 intro pins s σ H x y v u Q I rx ry h
 obtain⟨i,j,rfl,rfl,q⟩:=h
 obtain⟨t,rfl⟩:=rx
 obtain⟨t',rfl⟩:=ry
 exact rule i j t t' s _ _ ⟨.bl (g i j),H,I,rfl,q⟩
def zve (i j:Int):Prop:=0<=j/\j<=1000000/\i.natAbs<2 ^ 64
def zmA (i j:Int):Prop:=(-(2 ^ 64)<i/\i<2 ^ 64)\/(-(2 ^ 64)<j/\j<2 ^ 64)
theorem zmA.ok {i j:Int}(h:zmA i j):IntMulOk i j:=by
 rcases h with ⟨h1,h2⟩ | ⟨h1,h2⟩
 ·exact .of_left (intBits_le_64 h1 h2)
 ·exact .of_right (intBits_le_64 h1 h2)
theorem zsI:OpR X (binaryOp .Add) (rI0 fun i j=>.int (i+j)):=zsS fun _ _ _ _ _ _ _ q=>add_int q
theorem zrS:OpR X (binaryOp .Sub) (rI0 fun i j=>.int (i-j)):=zsS fun _ _ _ _ _ _ _ q=>sub_int q
theorem zqy:OpR X (binaryOp .Mod) (rI (fun _ j=>j≠0) fun i j=>.int (i.fmod j)):=opI fun _ _ _ _ _ _ _ hc q=>mod_int' hc q
theorem zsA:OpR X (binaryOp .Pow) (rI zve fun i j=>.int (i ^ j.toNat)):=opI fun _ _ _ _ _ _ _ hc q=>pow_int_small hc.1 hc.2.1 hc.2.2 q
theorem unI {f:Value->Sem Value}{g:Int->Int}
  (rule:∀ (i:Int) (t:Tok) (s:Shared) (Q:Value->Shared->Prop) (E:Value->Shared->Prop),Q (.int (g i) s.toks) { s with toks:=s.toks+1 }->wpAny (model X.prog X.w) X.A (f (.int i t)) Q E s) :
  UnR X f (rU fun i=>.int (g i)):=by
 intro pins s σ H x v Q I rx h
 obtain⟨i,rfl,q⟩:=h
 obtain⟨t,rfl⟩:=rx
 exact rule i t s _ _ ⟨.int (g i),H,I.tok _,⟨_,rfl⟩,q⟩
theorem zrC:UnR X (unaryOp .USub) (rU fun i=>.int (-i)):=unI fun _ _ _ _ _ q=>neg_int q
end
section
variable {X:Cx}{a b c:Expr}{ta tb tc:TE}{pos:Pos}
theorem zic {pins:List (Addr×Obj)}{σ:St}{H:Hp}{s:Shared}{Q:VK}{k k':Bool}(I:Inv X pins σ H s)(q:Q (.bl k) H)(e:k=k'):EP X pins σ Q (.bool k') s:=by
 subst e
 exact⟨.bl k,H,I,rfl,q⟩
theorem zt0:OpR X (compareOp .Lt) (rI0 fun i j=>.bl (decide (i<j))):=zmB fun _ _ _ _ _ _ _ q=>lt_int q
theorem zuf:OpR X (compareOp .LtE) (rI0 fun i j=>.bl (decide (i<=j))):=zmB fun _ _ _ _ _ _ _ q=>le_int q
theorem zut:OpR X (compareOp .Gt) (rI0 fun i j=>.bl (decide (j<i))):=zmB fun _ _ _ _ _ _ _ q=>gt_int q
theorem zuh:OpR X (compareOp .GtE) (rI0 fun i j=>.bl (decide (j<=i))):=zmB fun _ _ _ _ _ _ _ q=>ge_int q
theorem zoe:OpR X (compareOp .In) (fun x y H Q=>∃ i j,x=.str i/\y=.str j/\Q (.bl (!(Builtin.Str.occurrences j i 0 j.length 1).isEmpty)) H):=by
 intro pins s σ H x y v u Q I rx ry h
 obtain⟨i,j,rfl,rfl,q⟩:=h
 obtain⟨t,rfl⟩:=rx
 obtain⟨t',rfl⟩:=ry
 exact in_str (zic I q rfl)
theorem zr4:OpR X (compareOp .Is) (fun x y H Q=>y=.non/\Q (.bl (decide (x=.non))) H):=by
  intro pins s σ H x y v u Q I rx ry h
  obtain⟨rfl,q⟩:=h
  cases ry
  refine is_none_gen (zic I q ?_)
  cases x<;>first
    | (cases rx;rfl)
    | (obtain⟨t,rfl⟩:=rx;rfl)
theorem zqk:OpR X (compareOp .IsNot) (fun x y H Q=>y=.non/\Q (.bl (!decide (x=.non))) H):=by
  intro pins s σ H x y v u Q I rx ry h
  obtain⟨rfl,q⟩:=h
  cases ry
  refine isnot_none_gen (zic I q ?_)
  cases x<;>first
    | (cases rx;rfl)
    | (obtain⟨t,rfl⟩:=rx;rfl)
theorem zk0:OpR X (compareOp .NotIn) (fun x y H Q=>∃ i j,x=.str i/\y=.str j/\Q (.bl (!(!(Builtin.Str.occurrences j i 0 j.length 1).isEmpty))) H):=by
 intro pins s σ H x y v u Q I rx ry h
 obtain⟨i,j,rfl,rfl,q⟩:=h
 obtain⟨t,rfl⟩:=rx
 obtain⟨t',rfl⟩:=ry
 exact notIn_str (zic I q rfl)
theorem OpR.or {f:Value->Value->Sem Value}{r r':R2}(h:OpR X f r)(h':OpR X f r'):OpR X f (fun x y H Q=>r x y H Q\/r' x y H Q):=by
 intro pins s σ H x y v u Q I rx ry q
 rcases q with q | q
 ·exact h pins s σ H x y v u Q I rx ry q
 ·exact h' pins s σ H x y v u Q I rx ry q
theorem znP (b:Expr){op:CmpOp}(h:op≠.In:=by decide)(h2:op≠.NotIn:=by decide):behindInMarks op b=false:=by
  have e1:(op==CmpOp.In)=false:=by cases op<;>first | rfl | exact absurd rfl h
  have e2:(op==CmpOp.NotIn)=false:=by cases op<;>first | rfl | exact absurd rfl h2
  cases b<;>simp [behindInMarks,e1,e2]
theorem zl1 {op:CmpOp}{r:R2}(ho:OpR X (compareOp op) r)(ha:PE X a ta)(hb:PE X b tb)(hm:behindInMarks op b=false):PE X (.Compare a [op] [b] pos) (tOp r ta tb):=by
 intro pins s σ H Q I h
 exact wpAny_Compare1 (zoG ha hb I h fun v u s2 x y H2 I2 rx ry q=>ho pins s2 σ H2 x y v u Q I2 rx ry q) hm
def zpO (t:TE):TT:=fun σ H Q=>t σ H fun x H'=>∃ k,x=.bl k/\Q k H'
theorem zlP {op:CmpOp}{r:R2}(ho:OpR X (compareOp op) r)(ha:PE X a ta)(hb:PE X b tb)(hm:behindInMarks op b=false):PT X (.Compare a [op] [b] pos) (zpO (tOp r ta tb)):=by
 intro pins s σ H Q I h
 refine wpAny_isTrue_Compare1 (thn (ha pins s σ H _ I h) fun v s1 ⟨x,H1,I1,r1,q1⟩=>thn (hb pins s1 σ H1 _ I1 q1) fun u s2 ⟨y,H2,I2,r2,q2⟩ =>
  thn (ho pins s2 σ H2 x y v u _ I2 r1 r2 q2) fun c s3 ⟨z,H3,I3,r3,k,e,q3⟩=>?_) hm
 subst e
 cases r3
 exact wpAny_truthy_bool ⟨H3,I3,q3⟩
def znk (r r':R2)(ta tb tc:TE):TE:=fun σ H Q=>ta σ H fun x H1=>tb σ H1 fun y H2=>r x y H2 fun z H3=>∃ k,z=.bl k /\
 (if k=true then tc σ H3 fun w' H4=>r' y w' H4 Q else Q (.bl false) H3)
theorem zpu {op op':CmpOp}{r r':R2}(ho:OpR X (compareOp op) r)(ho':OpR X (compareOp op') r')(ha:PE X a ta)(hb:PE X b tb)(hc:PE X c tc)
  (hm:lastMarks [op,op'] [b,c]=false:=by with_unfolding_all rfl):PT X (.Compare a [op,op'] [b,c] pos) (zpO (znk r r' ta tb tc)):=by
 intro pins s σ H Q I h
 refine isTrue_chain (thn (ha pins s σ H _ I h) fun v s1 ⟨x,H1,I1,r1,q1⟩=>test_link (thn (hb pins s1 σ H1 _ I1 q1) fun u s2 ⟨y,H2,I2,r2,q2⟩ =>
  thn (ho pins s2 σ H2 x y v u _ I2 r1 r2 q2) fun d s3 ⟨z,H3,I3,r3,k,e,q3⟩=>?_)) hm
 subst e
 cases r3
 refine wpAny_truthy_bool ?_
 cases k with
 | false =>
  obtain⟨k',e',q'⟩:=q3
  cases e'
  exact ite_ff ⟨H3,I3,q'⟩
 | true =>
  refine ite_tt (test_last (thn (hc pins s3 σ H3 _ I3 q3) fun w' s4 ⟨z',H4,I4,r4,q4⟩=>thn (ho' pins s4 σ H4 y z' u w' _ I4 r2 r4 q4) fun d' s5 ⟨z2,H5,I5,r5,k2,e2,q5⟩=>?_))
  subst e2
  cases r5
  exact wpAny_truthy_bool ⟨H5,I5,q5⟩
theorem zfs:(sizeLine:Nat)<2 ^ 63:=by rw [sizeLine_eq];decide
theorem zmy:OpR X (binaryOp .Add) (fun x y H Q=>∃ i j,x=.str i/\y=.str j/\i.length+j.length<=sizeLine/\Q (.str (i++j)) H):=by
 intro pins s σ H x y v u Q I rx ry h
 obtain⟨i,j,rfl,rfl,hz,q⟩:=h
 obtain⟨t,rfl⟩:=rx
 obtain⟨t',rfl⟩:=ry
 exact add_str (fun t' tk=>⟨.str (i++j),H,I.tok _,⟨_,rfl⟩,q⟩) hz
theorem vals1 {x:V}{us:List Value}(r:Vals [x] us):∃ u,us=[u]/\RelV x u:=by
 cases r with
 | cons r1 r2=>cases r2;exact⟨_,rfl,r1⟩
theorem vals2 {x y:V}{us:List Value}(r:Vals [x,y] us):∃ u w',us=[u,w']/\RelV x u/\RelV y w':=by
 cases r with
 | cons r1 r2 =>
  cases r2 with
  | cons r3 r4=>cases r4;exact⟨_,_,rfl,r1,r3⟩
theorem zoL:zaT X (.builtin "abs") (fun xs H Q=>∃ i,xs=[.int i]/\Q (.int (if i<0 then -i else i)) H):=by
 intro pins s σ H xs us Q I r h
 obtain⟨i,rfl,q⟩:=h
 obtain⟨u,rfl,t,rfl⟩:=vals1 r
 exact call_abs_int fun u tk=>⟨.int (if i<0 then -i else i),H,I.tok _,⟨_,rfl⟩,q⟩
theorem zot (hc:X.calm=true):zaT X (.builtin "max") (fun xs H Q=>∃ i j,xs=[.int i,.int j]/\Q (.int (if j > i then j else i)) H):=by
 intro pins s σ H xs us Q I r h
 obtain⟨i,j,rfl,q⟩:=h
 obtain⟨u,w',rfl,⟨t,rfl⟩,⟨t',rfl⟩⟩:=vals2 r
 refine max_two_ints (I.ok.hd hc) fun h' tk k=>⟨_,H,I.kept k,?_,q⟩
 by_cases hj:j > i
 ·rw [if_pos hj,if_pos hj];exact⟨_,rfl⟩
 ·rw [if_neg hj,if_neg hj];exact⟨_,rfl⟩
theorem zm5 (hc:X.calm=true):zaT X (.builtin "min") (fun xs H Q=>∃ i j,xs=[.int i,.int j]/\Q (.int (if j<i then j else i)) H):=by
 intro pins s σ H xs us Q I r h
 obtain⟨i,j,rfl,q⟩:=h
 obtain⟨u,w',rfl,⟨t,rfl⟩,⟨t',rfl⟩⟩:=vals2 r
 refine min_two_ints (I.ok.hd hc) fun h' tk k=>⟨_,H,I.kept k,?_,q⟩
 by_cases hj:j<i
 ·rw [if_pos hj,if_pos hj];exact⟨_,rfl⟩
 ·rw [if_neg hj,if_neg hj];exact⟨_,rfl⟩
end
structure ziZ (h:Heap)(x dx C:Addr)(mA:Str->Option Value):Prop where
 obj:h.get? x=some (PySem.W.instObj C dx)
 ns:h.Ns1 dx mA
 ne:dx≠x
theorem zor {h:Heap}{dx:Addr}{mA:Str->Option Value}(n:h.Ns1 dx mA):∃ od,h.get? dx=some od/\∀ name,PySem.W.lookIn name od=some (mA name):=by
 obtain⟨o,es,ep,ho,hd,hk,_,hm⟩:=n
 refine⟨o,ho,fun name=>?_⟩
 have e:=hm name
 unfold nsFind findBy at e
 rw [<- Array.find?_toList] at e
 unfold PySem.W.lookIn
 rw [hd]
 dsimp only
 split
 ·rename_i y q
  rw [q] at e
  exact congrArg some e
 ·rename_i q
  rw [q] at e
  have a:es.toList.any (·.refKey)=false:=by
   rw [List.any_eq_false]
   intro y hy
   obtain⟨z,t,hkey⟩:=hk y (Array.mem_toList_iff.mp hy)
   simp [DictEntry.refKey,hkey]
  have a':¬ es.toList.any (·.refKey)=true:=by rw [a];exact Bool.false_ne_true
  rw [if_neg a']
  exact congrArg some e
theorem ziZ.look {h:Heap}{x dx C:Addr}{mA:Str->Option Value}(I:ziZ h x dx C mA):∃ od,PySem.W.InstAt h x (PySem.W.instObj C dx) C (some od)/\∀ name,PySem.W.lookIn name od=some (mA name) :=
 let ⟨od,ho,hl⟩:=zor I.ns
 ⟨od,⟨I.obj,rfl,rfl,ho⟩,hl⟩
section
variable {prog:Program}{w:World}{A:Around}{E:Value->Shared->Prop}{s:Shared}{K:PySem.W.Frag}{x dx C f:Addr}{mA:Str->Option Value}{name:Str}{v:Value}
theorem get_map {expr:Bool}{Q:Value->Shared->Prop}(X:K.In s.heap)(I:ziZ s.heap x dx C mA)(hg:PySem.W.plainGet K C name=true)(hh:PySem.W.hasDictIn K C=true)
  (ha:PySem.W.findIn K (.ref C) name=some none) (hv:mA name=some v) (hv':PySem.W.handedIn v=true) (h:Q v { s with toks:=s.toks+1 }) :
  wpAny (model prog w) A (getAttr (.ref x) name expr) Q E s:=by
 obtain⟨od,J,hl⟩:=I.look
 exact PySem.W.get_value X J (PySem.W.plainGet_of hg).1 (PySem.W.findObj_own hh ha rfl (by rw [hl,hv])) hv' h
theorem zqL {ns:List Str}{Q:Unit->Shared->Prop}(X:K.In s.heap)(I:ziZ s.heap x dx C mA)
  (hs:PySem.W.findIn K (.ref C) "__setattr__"=some (some (.builtin "object.__setattr__"))) (hp:PySem.W.plainOver K C=true) (ht:PySem.W.takerIn K C name=some none) (hh:PySem.W.hasDictIn K C=true)
  (hw:PySem.Within mA ns) (hsz:ns.length<=sizeLine)
  (h:∀ h',ziZ h' x dx C (fun y=>if y=name then some v else mA y)->Heap.SameBut dx s.heap h'->Q () { s with heap:=h',toks:=s.toks+2 }) :
  wpAny (model prog w) A (setAttr (.ref x) name v) Q E s:=by
 obtain⟨od,J,hl⟩:=I.look
 refine PySem.W.set_plain X J hs (PySem.W.osa_open (s:={ s with toks:=s.toks+1 }) (r:=none) X J hp ht fun b=>?_)
 obtain⟨cd,hc,hd'⟩:=PySem.W.any_some hh
 have hx:s.heap.get? x=some ⟨.ref C,some dx,.plain,#[]⟩:=I.obj
 refine wpAny_bind (wpAny_pure (wpAny_bind (wpAny_bind (wpAny_loadPart hx (wpAny_bind (PySem.W.Looks.here (s:={ s with toks:=s.toks+1 }) (PySem.W.looks_clsIn X hc) ?_))))))
 rw [hd']
 refine wpAny_pure (a:=some dx) (wpAny_bind (wpAny_pure (wpAny_bind ?_)))
 refine wpAny_nsSet1 (s:={ s with toks:=s.toks+1 }) I.ns fun h' hn2 hs2=>?_
 obtain⟨oD,esD,epD,hoD,hdD,hcD⟩:=hn2.count (PySem.Within.cons name v hw)
 refine wpAny_bind (wpAny_lookBehind hoD (by rw [hdD];exact pastItsLine_dict (Nat.le_trans hcD (by rw [List.length_cons];omega))) ?_)
 exact wpAny_pure (h _ ⟨(hs2.2 _ (Ne.symm I.ne)).trans I.obj,hn2,I.ne⟩ hs2)
theorem zpD {R:Result->Shared->Prop}{vs:List Value}{kw:List (Str×Value)}(X:K.In s.heap)(hm:PySem.W.makesIn K C=true)
    (hi:PySem.W.findIn K (.ref C) "__init__"=some (some (.ref f))) (hf:PySem.W.typeIn K (.ref f)=some (.type "function"))
    (h:codeAny (model prog w) (A.under (.builtin "type.__call__" ⟨.ref C::vs,kw⟩)) (.call (.ref f) ⟨.ref (s.heap.objs.size+1)::vs,kw⟩) (PySem.W.InitBack (s.heap.objs.size+1) R)
      { s with heap:=(s.heap.push PySem.W.emptyDict).push (PySem.W.instObj C s.heap.objs.size) }) :
    codeAny (model prog w) A (.call (.ref C) ⟨vs,kw⟩) R s:=by
  obtain⟨hh,g,d,t,os⟩:=s
  exact PySem.W.make_core (PySem.W.makes_of X hm) (PySem.W.looks_findIn X hi) (fun self=>PySem.W.bind_fn X self hf) (.inl rfl) h
end
def zbL (f:Str)(v:V):List (Str×V)->List (Str×V)
 | []=>[(f,v)]
 | (g,x)::r=>if g=f then (g,v)::r else (g,x)::zbL f v r
theorem zhx (f g:Str)(v:V):∀ fs:List (Str×V),(zbL f v fs).lookup g=if g=f then some v else fs.lookup g
 | []=>by
  show List.lookup g [(f,v)]=_
  by_cases h:g=f
  ·have hb:(g==f)=true:=beq_iff_eq.mpr h
   simp only [List.lookup,hb,if_pos h]
  ·have hb:(g==f)=false:=beq_eq_false_iff_ne.mpr h
   simp only [List.lookup,hb,if_neg h]
 | (k,x)::r=>by
  have ih:=zhx f g v r
  rw [show zbL f v ((k,x)::r)=(if k=f then (k,v)::r else (k,x)::zbL f v r) from rfl]
  by_cases hk:k=f
  ·rw [if_pos hk]
   by_cases h:g=k
   ·have hb:(g==k)=true:=beq_iff_eq.mpr h
    simp only [List.lookup,hb,if_pos (h.trans hk)]
   ·have hb:(g==k)=false:=beq_eq_false_iff_ne.mpr h
    simp only [List.lookup,hb,if_neg (fun e:g=f=>h (e.trans hk.symm))]
  ·rw [if_neg hk]
   by_cases h:g=k
   ·have hb:(g==k)=true:=beq_iff_eq.mpr h
    simp only [List.lookup,hb,if_neg (fun e:g=f=>hk (h.symm.trans e))]
   ·have hb:(g==k)=false:=beq_eq_false_iff_ne.mpr h
    simp only [List.lookup,hb]
    exact ih
theorem zgx (f:Str)(v:V):∀ fs:List (Str×V),f∈(zbL f v fs).map (·.1)/\∀ g,g∈fs.map (·.1)->g∈(zbL f v fs).map (·.1)
 | []=>⟨by simp [zbL],fun g h=>by simp at h⟩
 | (k,x)::r=>by
  obtain⟨i1,i2⟩:=zgx f v r
  rw [show zbL f v ((k,x)::r)=(if k=f then (k,v)::r else (k,x)::zbL f v r) from rfl]
  by_cases hk:k=f
  ·rw [if_pos hk]
   subst hk
   exact⟨by simp,fun g h=>by simpa using h⟩
  ·rw [if_neg hk]
   refine⟨?_,fun g h=>?_⟩
   ·rw [List.map_cons]
    exact List.mem_cons_of_mem _ i1
   ·rw [List.map_cons] at h ⊢
    rcases List.mem_cons.mp h with e | e
    ·exact List.mem_cons.mpr (.inl e)
    ·exact List.mem_cons_of_mem _ (i2 g e)
theorem zhw (f:Str)(v:V):∀ fs:List (Str×V),(zbL f v fs).length<=fs.length+1
 | []=>by simp [zbL]
 | (k,x)::r=>by
  have ih:=zhw f v r
  rw [show zbL f v ((k,x)::r)=(if k=f then (k,v)::r else (k,x)::zbL f v r) from rfl]
  by_cases hk:k=f
  ·rw [if_pos hk,List.length_cons,List.length_cons];omega
  ·rw [if_neg hk,List.length_cons,List.length_cons];omega
theorem zdF.some_of {v:V}{o:Option Value}(r:zdF (some v) o):∃ u,o=some u/\RelV v u:=by
 cases o with
 | none=>exact (show False from r).elim
 | some u=>exact⟨u,rfl,r⟩
theorem zn4 {v:V}{u:Value}(r:RelV v u):PySem.W.handedIn u=true:=by
 cases v with
 | non=>cases (show u=Value.none from r);rfl
 | bl b=>cases (show u=Value.bool b from r);rfl
 | int i=>obtain⟨t,e⟩:=(show ∃ t,u=Value.int i t from r);cases e;rfl
 | str x=>obtain⟨t,e⟩:=(show ∃ t,u=Value.str x t from r);cases e;rfl
 | byt b=>obtain⟨t,e⟩:=(show ∃ t,u=Value.bytes b t from r);cases e;rfl
 | flt b=>obtain⟨t,e⟩:=(show ∃ t,u=Value.float b t from r);cases e;rfl
 | ref a=>cases (show u=Value.ref a from r);rfl
 | ty n=>cases (show u=Value.type n from r);rfl
section
variable {P:Program}{w:World}{H H':Hp}{h h':Heap}{a C dx:Addr}{fs fs':List (Str×V)}
theorem zi6 (hok:HOk P w H h)(e:H a=some (.ins C dx fs)):∃ mA,ziZ h a dx C mA/\(∀ f,zdF (fs.lookup f) (mA f))/\PySem.Within mA (fs.map (·.1))/\fs.length<=1000/\H dx=some (.own a):=by
 obtain⟨d,z,ne,ob,mA,n,r,q⟩:=(show zay P w H h a (.ins C dx fs) from hok a _ e)
 exact⟨mA,⟨ob,n,ne⟩,r,q,z,d⟩
end
structure Cls (K:PySem.W.Frag)(C:Addr):Prop where
 pg:PySem.W.plainGet K C Str.empty=true
 hd:PySem.W.hasDictIn K C=true
 po:PySem.W.plainOver K C=true
 sa:PySem.W.findIn K (.ref C) "__setattr__"=some (some (.builtin "object.__setattr__"))
theorem Cls.get {K:PySem.W.Frag}{C:Addr}(c:Cls K C)(f:Str):PySem.W.plainGet K C f=true:=c.pg
def zaj (K:PySem.W.Frag)(C:Addr)(f:Str):Prop:=PySem.W.findIn K (.ref C) f=some none
theorem zaj.taker {K:PySem.W.Frag}{C:Addr}{f:Str}(n:zaj K C f):PySem.W.takerIn K C f=some none:=by
 unfold PySem.W.takerIn
 rw [show PySem.W.findIn K (.ref C) f=some none from n]
 rfl
section
variable {X:Cx}{pins:List (Addr×Obj)}{σ:St}{H:Hp}{s:Shared}{a C dx:Addr}{fs:List (Str×V)}{f:Str}{v:V}{A:Around}{E:Value->Shared->Prop}
theorem zmj {b:Bool}{Q:Value->Shared->Prop}(I:Inv X pins σ H s)(e:H a=some (.ins C dx fs))(c:Cls X.K C)(n:zaj X.K C f)(l:fs.lookup f=some v)
  (h:∀ u s',Inv X pins σ H s'->RelV v u->Q u s'):wpAny (model X.prog X.w) A (getAttr (.ref a) f b) Q E s:=by
 obtain⟨mA,O,r,_,_,_⟩:=zi6 I.hok e
 obtain⟨u,hu,ru⟩:=zdF.some_of (v:=v) (o:=mA f) (by rw [<- l];exact r f)
 exact get_map I.kIn O (c.get f) c.hd n hu (zn4 ru) (h u _ (I.tok _) ru)
theorem zmz {y:V}{u:Value}{Q:Unit->Shared->Prop}(I:Inv X pins σ H s)(e:H a=some (.ins C dx fs))(c:Cls X.K C)(n:zaj X.K C f)(hl:fs.length<1000)(ry:RelV y u)
  (h:∀ s',Inv X pins σ (upd H a (.ins C dx (zbL f y fs))) s'->Q () s'):wpAny (model X.prog X.w) A (setAttr (.ref a) f u) Q E s:=by
 obtain⟨mA,O,r,wi,_,ho⟩:=zi6 I.hok e
 have hz:(fs.map (·.1)).length<=sizeLine:=by rw [List.length_map,sizeLine_eq];omega
 refine zqL I.kIn O c.sa c.po n.taker c.hd wi hz fun h' O' sb=>h _ ?_
 have hd:∃ o,h'.get? dx=some o:=let ⟨o,_,_,e',_⟩:=O'.ns;⟨o,e'⟩
 refine I.write (x:=a) (e:=dx) (by rw [e];exact True.intro) (.inr ho) (fun b q hb z=>(sb.2 b hb).trans z) hd ?_
 refine⟨by rw [zT O.ne];exact ho,?_,O.ne,O'.obj,_,O'.ns,fun g=>?_,fun g hg=>?_⟩
 ·have:=zhw f y fs;omega
 ·show zdF ((zbL f y fs).lookup g) (if g=f then some u else mA g)
  rw [zhx]
  by_cases q:g=f
  ·rw [if_pos q,if_pos q];exact ry
  ·rw [if_neg q,if_neg q];exact r g
 ·by_cases q:g=f
  ·rw [q];exact (zgx f y fs).1
  ·refine (zgx f y fs).2 g (wi g fun z=>hg ?_)
   show (if g=f then some u else mA g)=none
   rw [if_neg q];exact z
theorem Inv.made (I:Inv X pins σ H s):Inv X pins σ (upd (upd H s.heap.objs.size (.own (s.heap.objs.size+1))) (s.heap.objs.size+1) (.ins C s.heap.objs.size []))
    { s with heap:=(s.heap.push PySem.W.emptyDict).push (PySem.W.instObj C s.heap.objs.size) }:=by
  have e1:(s.heap.push PySem.W.emptyDict).get? s.heap.objs.size=some PySem.W.emptyDict:=Heap.get?_push_size s.heap rfl
  have e2:((s.heap.push PySem.W.emptyDict).push (PySem.W.instObj C s.heap.objs.size)).get? (s.heap.objs.size+1)=some (PySem.W.instObj C s.heap.objs.size):=by
    have:=Heap.get?_push_size (s.heap.push PySem.W.emptyDict) (o:=PySem.W.instObj C s.heap.objs.size) rfl
    rwa [Heap.size_push] at this
  have e3:(s.heap.push PySem.W.emptyDict).Ns s.heap.objs.size (fun _=>none):=⟨PySem.W.emptyDict,#[],_,e1,rfl,(fun e he=>absurd he (by simp)),fun _=>rfl⟩
  have I1:=I.laid (a:=s.heap.objs.size) (o:=.own (s.heap.objs.size+1)) (h':=s.heap.push PySem.W.emptyDict) (t':=s.toks) (fun b u q=>Heap.get?_push_of_some _ q) (Nat.le_refl _) ⟨_,e1⟩
  refine I1.laid (a:=s.heap.objs.size+1) (o:=.ins C s.heap.objs.size []) (t':=s.toks) (fun b u q=>Heap.get?_push_of_some _ q) (Nat.le_of_eq (Heap.size_push _ _)) ?_
  have ne:s.heap.objs.size≠s.heap.objs.size+1:=Nat.ne_of_lt (Nat.lt_succ_self _)
  refine⟨by rw [zT ne,zaq],Nat.zero_le _,ne,e2,fun _=>none,(Heap.Ns1.of_empty e3).at fun o q=>Heap.get?_push_of_some _ q,fun _=>True.intro,fun y hy=>absurd rfl hy⟩
theorem zq1 {prog:Program}{w:World}{env:Env}{e:Expr}{f:Str}{pos:Pos}{s:Shared}{Q:Value->Shared->Prop}(hb:attributeBase e f env (eval e env)=eval e env)
  (h:wpAny (model prog w) A (eval e env) (fun o s₁=>wpAny (model prog w) A (getAttr o f true) Q E s₁) E s):wpAny (model prog w) A (eval (.Attribute e f pos) env) Q E s :=
 Attribute_any_ h (by rw [arm_eval_Attribute,hb])
end
def zuP (K:PySem.W.Frag)(ta:TE)(f:Str):TE:=fun σ H Q=>ta σ H fun x H1=>∃ a C dx fs v,x=.ref a/\H1 a=some (.ins C dx fs)/\Cls K C/\zaj K C f/\fs.lookup f=some v/\Q v H1
def zuT (K:PySem.W.Frag)(ta tv:TE)(f:Str):TS:=fun D σ H=>tv σ H fun y H1=>ta σ H1 fun x H2=>∃ a C dx fs,x=.ref a/\H2 a=some (.ins C dx fs)/\Cls K C/\zaj K C f/\fs.length<1000 /\
 D.nx σ (upd H2 a (.ins C dx (zbL f y fs)))
section
variable {X:Cx}{o e value:Expr}{f:Str}{pos pos' tpos:Pos}{ta tv:TE}
theorem zrD (he:PE X e ta)(hb:attributeBase e f X.env (eval e X.env)=eval e X.env):PE X (.Attribute e f pos) (zuP X.K ta f):=by
 intro pins s σ H Q I h
 refine zq1 hb (thn (he pins s σ H _ I h) fun u s1 ⟨x,H1,I1,rx,a,C,dx,fs,v,ex,ea,c,n,l,q⟩=>?_)
 subst ex
 obtain rfl:u=Value.ref a:=rx
 exact zmj I1 ea c n l fun u' s2 I2 ru=>⟨v,H1,I2,ru,q⟩
theorem zrM (ha:PE X o ta)(hv:PE X value tv)(hs:swapsWith value (some (.Attribute o f pos')) pos.line X.env=pure false):PS X (.Assign [.Attribute o f pos'] value pos) (zuT X.K ta tv f):=by
 intro pins s σ H D I h
 refine plainObj_wpAny_Assign_Attribute (thn (hv pins s σ H _ I h) fun u s1 ⟨y,H1,I1,ry,q⟩=>thn (ha pins s1 σ H1 _ I1 q) fun ov s2 ⟨x,H2,I2,rx,a,C,dx,fs,ex,ea,c,n,l,q2⟩=>?_) hs
 subst ex
 obtain rfl:ov=Value.ref a:=rx
 exact zmz I2 ea c n l ry fun s3 I3=>⟨σ,_,I3,q2⟩
end
section
variable {X:Cx}{pins:List (Addr×Obj)}{σ:St}{H:Hp}{s:Shared}{A:Around}{E:Value->Shared->Prop}{Q:Value->Shared->Prop}{c:Value}{b:Bool}
inductive zdD (K:PySem.W.Frag)(H:Hp):V->Value->Prop where
 | non:zdD K H .non (.type "NoneType")
 | bl (x:Bool):zdD K H (.bl x) (.type "bool")
 | int (i:Int):zdD K H (.int i) (.type "int")
 | str (x:Str):zdD K H (.str x) (.type "str")
 | flt (x:UInt64):zdD K H (.flt x) (.type "float")
 | lst {a:Addr} {xs:List V} (e:H a=some (.lst xs)):zdD K H (.ref a) (.type "list")
 | frz {a:Addr} {o:Obj} {xs:List V} (e:H a=some (.frz o (.lst xs))):zdD K H (.ref a) (.type "list")
 | tup {a:Addr} {xs:List V} (e:H a=some (.tup xs)):zdD K H (.ref a) (.type "tuple")
 | dK {a:Addr} {kvs:List (Key×V)} (e:H a=some (.dK kvs)):zdD K H (.ref a) (.type "dict")
 | dT {a:Addr} {kvs:List (List Key×V)} (e:H a=some (.dT kvs)):zdD K H (.ref a) (.type "dict")
 | ins {a C dx:Addr} {fs:List (Str×V)} (e:H a=some (.ins C dx fs)) (cl:Cls K C) (ha:PySem.W.findIn K (.ref C) "__class__"=some (some (.builtin "object.__class__")))
   (hn:PySem.W.specialIn K (.builtin "object.__class__") "__get__"=some (some (.builtin "getset_descriptor.__get__"))) (htk:PySem.W.takesIn K (.builtin "object.__class__")=some true)
   (hm:PySem.W.mroIn K C (.type "object")=some true):zdD K H (.ref a) (.ref C)
theorem zok {x:V}{u t:Value}(I:Inv X pins σ H s)(rx:RelV x u)(ty:zdD X.K H x t)(e:PySem.W.kitOne X.K t c=some b)(h:∀ tk,Q (.bool b) { s with toks:=tk }) :
  wpAny (model X.prog X.w) A (call (.builtin "isinstance") [u,c]) Q E s:=by
 cases ty with
 | non=>cases (show u=Value.none from rx);exact PySem.W.kia_one PySem.W.kitx_none I.kIn True.intro e (fun z=>nomatch z) h
 | bl y=>cases (show u=Value.bool y from rx);exact PySem.W.kia_one PySem.W.kitx_bool I.kIn True.intro e (fun z=>nomatch z) h
 | int i=>obtain⟨t,q⟩:=(show ∃ t,u=Value.int i t from rx);cases q;exact PySem.W.kia_one PySem.W.kitx_int I.kIn True.intro e (fun z=>nomatch z) h
 | str y=>obtain⟨t,q⟩:=(show ∃ t,u=Value.str y t from rx);cases q;exact PySem.W.kia_one PySem.W.kitx_str I.kIn True.intro e (fun z=>nomatch z) h
 | flt y=>obtain⟨t,q⟩:=(show ∃ t,u=Value.float y t from rx);cases q;exact PySem.W.kia_one PySem.W.kitx_float I.kIn True.intro e (fun z=>nomatch z) h
 | @lst a xs ea =>
  cases (show u=Value.ref a from rx)
  obtain⟨_,_,n,_,h1⟩:=(show zay X.prog X.w H s.heap a (.lst xs) from I.hok a _ ea)
  exact PySem.W.kia_one PySem.W.kitx_list I.kIn ⟨_,h1,rfl⟩ e (fun z=>nomatch z) h
 | @frz a ob xs ea =>
  cases (show u=Value.ref a from rx)
  obtain⟨_,_,_,n,_,h1⟩:=(show zay X.prog X.w H s.heap a (.frz ob (.lst xs)) from I.hok a _ ea)
  exact PySem.W.kia_one PySem.W.kitx_list I.kIn ⟨_,h1,rfl⟩ e (fun z=>nomatch z) h
 | @tup a xs ea =>
  cases (show u=Value.ref a from rx)
  obtain⟨_,_,_,p⟩:=(show zay X.prog X.w H s.heap a (.tup xs) from I.hok a _ ea)
  obtain⟨o,h1,h2,_⟩:=p
  exact PySem.W.kia_one PySem.W.kitx_tuple I.kIn ⟨o,h1,h2⟩ e (fun z=>nomatch z) h
 | @dK a kvs ea =>
  cases (show u=Value.ref a from rx)
  obtain⟨_,_,vs,_,p⟩:=(show zay X.prog X.w H s.heap a (.dK kvs) from I.hok a _ ea)
  obtain⟨o,es,ep,h1,h2,_⟩:=p
  exact PySem.W.kia_one PySem.W.kitx_dict I.kIn ⟨o,h1,h2.1⟩ e (fun z=>nomatch z) h
 | @dT a kvs ea =>
  cases (show u=Value.ref a from rx)
  obtain⟨_,_,xs,_,o,es,ep,h1,h2,_⟩:=(show zay X.prog X.w H s.heap a (.dT kvs) from I.hok a _ ea)
  exact PySem.W.kia_one PySem.W.kitx_dict I.kIn ⟨o,h1,h2.1⟩ e (fun z=>nomatch z) h
 | @ins a C dx fs ea cl ha hn htk hm =>
  cases (show u=Value.ref a from rx)
  obtain⟨mA,O,_⟩:=zi6 I.hok ea
  obtain⟨od,J,_⟩:=O.look
  exact PySem.W.kia_one (PySem.W.kitx_own (cl.get _) cl.hd ha hn htk hm) I.kIn J e (fun z=>nomatch z) h
end
structure zax (k:Nat)(A:Around):Prop where
 hd:A.handled=none
 dp:A.depth+3*k+5<recursionLimit
 un:A.units+16*k+200<cLine
theorem zax.mono {j k:Nat}{A:Around}(r:zax k A)(h:j<=k):zax j A:=⟨r.hd,by have:=r.dp;omega,by have:=r.un;omega⟩
theorem zax.deeper {k:Nat}{A:Around}(r:zax (k+1) A)(env:Env):zax k (A.deeper env) :=
 ⟨r.hd,by have:=r.dp;show A.depth+1+3*k+5<_;omega,by have:=r.un;show A.units+3+16*k+200<_;omega⟩
theorem zm1 {A:Around}{C:Addr}{us:List Value}{kw:List (Str×Value)}:(A.under (.builtin "type.__call__" ⟨.ref C::us,kw⟩)).depth=A.depth+1:=by
 first | rfl | simp [Around.under,Code.weight,Code.isCreation,Code.isGuard,Code.isCaller,Code.frames,Code.isFrame,guardIds]
theorem zmH {A:Around}{C:Addr}{us:List Value}{kw:List (Str×Value)}:(A.under (.builtin "type.__call__" ⟨.ref C::us,kw⟩)).units=A.units+1:=by
 first | rfl | simp [Around.under,Code.cUnits,Code.frames,Code.isFrame]
theorem zax.make {k:Nat}{A:Around}(r:zax (k+1) A)(C:Addr)(us:List Value)(kw:List (Str×Value)):zax k (A.under (.builtin "type.__call__" ⟨.ref C::us,kw⟩)) :=
 ⟨r.hd,by have:=r.dp;rw [zm1];omega,by have:=r.un;rw [zmH];omega⟩
theorem zax.depth {k:Nat}{A:Around}(r:zax k A):A.depth<recursionLimit:=by have:=r.dp;omega
theorem zax.units {k:Nat}{A:Around}(r:zax k A):A.units+64<cLine:=by have:=r.un;omega
def zuS:TA:=fun _ H Q=>Q [] H
def zto (ta:TE)(tr:TA):TA:=fun σ H Q=>ta σ H fun x H1=>tr σ H1 fun xs H2=>Q (x::xs) H2
section
variable {X:Cx}{e:Expr}{es:List Expr}{te:TE}{t:TA}{pos:Pos}
theorem zsk:PA X [] zuS:=fun _ _ _ _ H Q I h=>Calls.spliced_nil ⟨[],H,I,.nil,h⟩
theorem zqj (ha:PE X e te)(hr:PA X es t)(hs:starEach (e::es) X.env=(false,eval e X.env)::starEach es X.env:=by rfl):PA X (e::es) (zto te t):=by
 intro pos pins s σ H Q I h
 rw [hs]
 show wpAny _ _ (spliced ((false,eval e X.env)::backTo pos (starEach es X.env))) _ _ s
 refine Calls.spliced_cons (thn (ha pins s σ H _ I h) fun u s1 ⟨x,H1,I1,r1,q1⟩=>?_)
 exact thn (hr pos pins s1 σ H1 _ I1 q1) fun us s2 ⟨xs,H2,I2,r2,q2⟩=>⟨x::xs,H2,I2,.cons r1 r2,q2⟩
def zvi (t:TA):TE:=fun σ H Q=>t σ H fun xs H1=>xs.length<=sizeLine/\∀ p,H1 p=none->Q (.ref p) (upd H1 p (.tup xs))
def zuW (t:TA):TE:=fun σ H Q=>t σ H fun xs H1=>xs.length<=sizeLine/\∀ p,H1 p=none->Q (.ref p) (upd H1 p (.lst xs))
theorem zrT {x1}(h:PA X es t):PE X (.Tuple es x1 pos) (zvi t):=by
 intro pins s σ H Q I hq
 refine wpAny_Tuple_spliced (thn (h pos pins s σ H _ I hq) fun us s1 ⟨xs,H1,I1,r,z,q⟩=>⟨by rw [<- r.length];exact z,?_⟩)
 have hf:H1 s1.heap.objs.size=none:=I1.hok.fresh (Nat.le_refl _)
 refine⟨.ref s1.heap.objs.size,upd H1 s1.heap.objs.size (.tup xs),I1.laid (t':=s1.toks) (fun b u e=>Heap.get?_push_of_some _ e) (Nat.le_refl _) ?_,rfl,q _ hf⟩
 exact⟨z,us,r,⟨_,Heap.get?_push_size _ rfl,rfl,_,rfl⟩⟩
theorem zsx (h:PA X es t):PE X (.List es pos) (zuW t):=by
 intro pins s σ H Q I hq
 refine wpAny_List_spliced (thn (h pos pins s σ H _ I hq) fun us s1 ⟨xs,H1,I1,r,z,q⟩=>⟨by rw [<- r.length];exact z,?_⟩)
 have hf:H1 s1.heap.objs.size=none:=I1.hok.fresh (Nat.le_refl _)
 refine⟨.ref s1.heap.objs.size,upd H1 s1.heap.objs.size (.lst xs),I1.laid (t':=s1.toks) (fun b u e=>Heap.get?_push_of_some _ e) (Nat.le_refl _) ?_,rfl,q _ hf⟩
 exact⟨z,us,0,r,Heap.get?_push_size _ rfl⟩
end
abbrev Sp:=List V->Hp->VK->XK->Prop
abbrev CXT:=List Env->Hp->Shared->XK->Value->Shared->Prop
structure zhO (P:Program)(w:World)(K:PySem.W.Frag)(mg:Str->Option Value)(base:Heap)(A:Around)(outer:List Env)(s:Shared)(H:Hp):Prop where
 frames:A.frames=some outer
 mod:Mod K mg base
 bs:∀ b o,base.get? b=some o->s.heap.get? b=some o/\H b=none
 bsz:base.objs.size<=s.heap.objs.size
 funs:s.heap.FunFrames base outer
 frf:∀ b∈frs outer,H b=none
 hok:HOk P w H s.heap
 bare:AllBare s.gens
def CE (outer:List Env)(P:Program)(w:World)(H:Hp)(s:Shared)(Q:VK)(u:Value)(s':Shared):Prop :=
 ∃ v H',s'.os=s.os/\AllBare s'.gens/\Un (frs outer) [] H H' s.heap s'.heap/\HOk P w H' s'.heap/\RelV v u/\Q v H'
def CR (CX:CXT)(outer:List Env)(P:Program)(w:World)(H:Hp)(s:Shared)(Q:VK)(E:XK)(r:Result)(s':Shared):Prop :=
 match r with
 | .ok (.ret u)=>CE outer P w H s Q u s'
 | .ok _=>False
 | .error e=>CX outer H s E e s'
structure zW (P:Program)(w:World)(K:PySem.W.Frag)(mg:Str->Option Value)(base:Heap)(CX:CXT)(k:Nat)(f:Addr)(fd:FuncData)(ps:List Str)(sp:Sp):Prop where
 len:∀ vs H Q E,sp vs H Q E->vs.length=ps.length
 run:∀ (A:Around) (outer:List Env) (s:Shared) (H:Hp) (args:Args) (us:List Value) (vs:List V) (Q:VK) (E:XK),zax k A->zhO P w K mg base A outer s H->BindsTo s fd args (ps.zip us)->Vals vs us->sp vs H Q E ->
  codeAny (model P w) A (.call (.ref f) args) (CR CX outer P w H s Q E) s
theorem zW.mono {P:Program}{w:World}{K:PySem.W.Frag}{mg:Str->Option Value}{base:Heap}{CX:CXT}{j k:Nat}{f:Addr}{fd:FuncData}{ps:List Str}{sp:Sp}(F:zW P w K mg base CX j f fd ps sp)(h:j<=k) :
  zW P w K mg base CX k f fd ps sp:=⟨F.len,fun A outer s H args us vs Q E hr=>F.run A outer s H args us vs Q E (hr.mono h)⟩
theorem zhO.make {P:Program}{w:World}{K:PySem.W.Frag}{mg:Str->Option Value}{base:Heap}{A:Around}{outer:List Env}{s:Shared}{H:Hp}(e:zhO P w K mg base A outer s H)(C:Addr)(us:List Value)(kw:List (Str×Value)) :
  zhO P w K mg base (A.under (.builtin "type.__call__" ⟨.ref C::us,kw⟩)) outer s H:=⟨by first | exact e.frames | (simpa [Around.under,Code.envs,Code.isFrame,pushEnvs] using e.frames),e.mod,e.bs,e.bsz,e.funs,e.frf,e.hok,e.bare⟩
section
variable {X:Cx}{pins:List (Addr×Obj)}{σ:St}{H:Hp}{s s':Shared}
theorem Inv.env0 (I:Inv X pins σ H s):zhO X.prog X.w X.K X.mg X.base X.A X.stack s H :=
 ⟨I.ok.frames,I.ok.mod,I.bs,Nat.le_trans I.ok.bsz I.sz,I.stack,I.stkFree,I.hok,I.bare⟩
theorem Inv.after {Q:VK}{u:Value}(I:Inv X pins σ H s)(h:CE X.stack X.prog X.w H s Q u s'):EP X pins σ Q u s':=by
 obtain⟨v,H',os,bare,un,hok,r,q⟩:=h
 obtain⟨hh,g,d,t,os'⟩:=s'
 obtain rfl:os'=s.os:=os
 exact⟨v,H',I.call (h':=hh) (g':=g) (d':=d) (t':=t) (ch:=[]) un hok bare (fun b z=>absurd z (by simp)),r,q⟩
end
def zmT (sp:Sp)(dvs:List V)(E:XK)(t:TA):TE:=fun σ H Q=>t σ H fun vs H1=>sp (vs++dvs) H1 Q E
def Binds (K:PySem.W.Frag)(fd:FuncData)(ps:List Str)(ds:List Value):Prop :=
 ∀ (s:Shared) (us:List Value),K.In s.heap->(us++ds).length=ps.length->BindsTo s fd ⟨us,[]⟩ (ps.zip (us++ds))
theorem Binds.all {K:PySem.W.Frag}{fd:FuncData}{ps:List Str}(h:∀ us:List Value,us.length=ps.length->bindArgs fd ⟨us,[]⟩=pure (ps.zip us)):Binds K fd ps []:=fun s us _ hl=>by
 rw [List.append_nil] at hl ⊢
 exact .of_eq (h us hl)
def Passes (CX:CXT)(X:Cx)(E:XK):Prop:=∀ (pins:List (Addr×Obj)) (σ:St) (H:Hp) (s:Shared) (e:Value) (s':Shared),Inv X pins σ H s->CX X.stack H s E e s'->X.xe e s'
section
variable {X:Cx}{CX:CXT}{k:Nat}{f C:Addr}{fd:FuncData}{ps:List Str}{sp:Sp}{dvs:List V}{ds:List Value}{E:XK}{x m:Str}{p pos apos:Pos}{e o:Expr}{es:List Expr}{ta:TE}{t:TA}
theorem zrW {pins:List (Addr×Obj)}{σ:St}{H:Hp}{s:Shared}{Q:VK}{us:List Value}{vs:List V}(F:zW X.prog X.w X.K X.mg X.base CX k f fd ps sp)(hr:zax k X.A)(hb:Binds X.K fd ps ds)(hd:Vals dvs ds)(hx:Passes CX X E)
  (I:Inv X pins σ H s) (r:Vals vs us) (h:sp (vs++dvs) H Q E):wpAny (model X.prog X.w) X.A (call (.ref f) us) (EP X pins σ Q) X.xe s:=by
 have r2:Vals (vs++dvs) (us++ds):=r.append hd
 have hl:(us++ds).length=ps.length:=by rw [<- r2.length];exact F.len _ _ _ _ h
 refine wpAny_call (codeAny_mono (F.run X.A X.stack s H ⟨us,[]⟩ (us++ds) (vs++dvs) Q E hr I.env0 (hb s us I.kIn hl) r2 h) fun r s' hq=>?_)
 cases r with
 | error e=>exact hx pins σ H s e s' I hq
 | ok fl =>
  cases fl with
  | ret u=>exact I.after hq
  | next=>exact False.elim hq
  | brk=>exact False.elim hq
  | cont=>exact False.elim hq
theorem zqg (F:zW X.prog X.w X.K X.mg X.base CX k f fd ps sp)(hr:zax k X.A)(hg:Gl X x)(hm:X.mg x=some (.ref f))(hk:PySem.W.keepIn X.K (.ref f)=true)(hb:Binds X.K fd ps ds)(hd:Vals dvs ds)(hx:Passes CX X E)
  (ha:PA X (e::es) t) (hdb:(x==("__debug__":Str))=false:=by decide) (he:starEach (e::es) X.env=(false,eval e X.env)::starEach es X.env:=by rfl) (hpl:(backTo pos (starEach es X.env)).any (·.1)=false:=by rfl) :
  PE X (.Call (.Name x p) (e::es) [] pos) (zmT sp dvs E t):=by
 intro pins s σ H Q I h
 refine wpAny_Call_Name_kw (zfk I hg hm ?_ hdb)
 refine PySem.W.callWith_K (h₀:=X.base) I.ok.mod.kin hk (thn (ha pos pins s σ H _ I h) fun us s1 ⟨vs,H1,I1,r,q⟩=>⟨I1.kIn,?_⟩) he hpl
 exact zrW F hr hb hd hx I1 r q
structure Mk (K:PySem.W.Frag)(C f:Addr):Prop where
 makes:PySem.W.makesIn K C=true
 init:PySem.W.findIn K (.ref C) "__init__"=some (some (.ref f))
 fn:PySem.W.isFn K (.ref f)=true
 kp:PySem.W.keepIn K (.ref C)=true
theorem zo3 {pins:List (Addr×Obj)}{σ:St}{H:Hp}{s:Shared}{Q:VK}{us:List Value}{vs:List V}(M:Mk X.K C f)(F:zW X.prog X.w X.K X.mg X.base CX k f fd ps sp)(hr:zax (k+1) X.A)(hb:Binds X.K fd ps ds)(hd:Vals dvs ds)
  (hx:Passes CX X E) (I:Inv X pins σ H s) (r:Vals vs us)
  (h:∀ x dx,H x=none->H dx=none->dx≠x->sp (.ref x::(vs++dvs)) (upd (upd H dx (.own x)) x (.ins C dx [])) (fun v H2=>v=.non/\Q (.ref x) H2) E) :
  wpAny (model X.prog X.w) X.A (call (.ref C) us) (EP X pins σ Q) X.xe s:=by
 have hq:=h (s.heap.objs.size+1) s.heap.objs.size (I.hok.fresh (Nat.le_succ _)) (I.hok.fresh (Nat.le_refl _)) (Nat.ne_of_lt (Nat.lt_succ_self _))
 have I2:=Inv.made (C:=C) I
 have r2:Vals (V.ref (s.heap.objs.size+1)::(vs++dvs)) (Value.ref (s.heap.objs.size+1)::(us++ds)):=.cons rfl (r.append hd)
 have hl:(Value.ref (s.heap.objs.size+1)::us++ds).length=ps.length:=by
  have e:=r2.length
  rw [F.len _ _ _ _ hq] at e
  exact e.symm
 refine wpAny_call (zpD (f:=f) I.kIn M.makes M.init (beq_iff_eq.mp M.fn) (codeAny_mono (F.run _ X.stack _ _ ⟨Value.ref (s.heap.objs.size+1)::us,[]⟩ (Value.ref (s.heap.objs.size+1)::(us++ds)) _ _ E (hr.make C us [])
  (I2.env0.make C us []) (hb _ (Value.ref (s.heap.objs.size+1)::us) I2.kIn hl) r2 hq) fun r s' hq'=>?_))
 cases r with
 | error e=>exact hx pins σ _ _ e s' I2 hq'
 | ok fl =>
  cases fl with
  | ret u =>
   obtain⟨v,H',I3,rv,ev,q3⟩:=I2.after hq'
   subst ev
   exact⟨rv,⟨V.ref (s.heap.objs.size+1),H',I3,rfl,q3⟩⟩
  | next=>exact False.elim hq'
  | brk=>exact False.elim hq'
  | cont=>exact False.elim hq'
end
section
variable {X:Cx}{CX:CXT}{k:Nat}{f C:Addr}{fd:FuncData}{ps ks:List Str}{sp:Sp}{E:XK}{x m:Str}{p pos apos kpos:Pos}{e o:Expr}{es:List Expr}{kws:List Keyword}{te ta:TE}{t tk:TA}{nm:Option Str}
variable {g:List Value->List Value->List Value}{gV:List V->List V->List V}
end
structure zM (N P:List Str)(sc:Scope):Prop where
 kind:sc.kind=.function
 co:sc.isCoroutine=false
 gen:sc.isGenerator=false
 nd:N.Nodup
 pre:N.take P.length=P
 par:∀ x∈P,sc.names.lookup x=some .local\/sc.names.lookup x=some .cell
 nofree:∀ y∈sc.names,y.2≠.free
theorem zjB {kindOf:Str->Option NameKind}{x:Str}:∀ {binds:List (Str×Value)} {m:Str->Option Value},(∀ v,(x,v)∉binds)->bindL kindOf binds m x=m x
 | [],_,_=>rfl
 | (n,v)::r,m,h=>by
  unfold bindL
  rw [zjB fun w hw=>h w (List.mem_cons_of_mem _ hw)]
  split
  ·have:x≠n:=by rintro rfl;exact h v List.mem_cons_self
   simp [this]
  ·rfl
theorem zjy {kindOf:Str->Option NameKind}{x:Str}:∀ {binds:List (Str×Value)} {m:Str->Option Value},(∀ v,(x,v)∉binds)->bindC kindOf binds m x=m x
 | [],_,_=>rfl
 | (n,v)::r,m,h=>by
  unfold bindC
  rw [zjy fun w hw=>h w (List.mem_cons_of_mem _ hw)]
  split
  ·rfl
  ·have:x≠n:=by rintro rfl;exact h v List.mem_cons_self
   simp [this]
theorem zjt {kindOf:Str->Option NameKind}{x:Str}{v:Value}:∀ {P:List Str} {vs:List Value} {i:Nat} {m:Str->Option Value},P.Nodup->P[i]?=some x->vs[i]?=some v->kindOf x=some .local ->
  bindL kindOf (P.zip vs) m x=some v
 | [],_,_,_,_,h,_,_=>by simp at h
 | _::_,[],_,_,_,_,h,_=>by simp at h
 | p::P,w::vs,0,m,nd,h1,h2,hk=>by
  simp at h1 h2;subst h1;subst h2
  show bindL kindOf ((p,w)::P.zip vs) m p=_
  unfold bindL
  rw [zjB fun v hv=>(List.nodup_cons.mp nd).1 (List.of_mem_zip hv).1,if_pos hk]
  simp
 | p::P,w::vs,i+1,m,nd,h1,h2,hk=>by
  show bindL kindOf ((p,w)::P.zip vs) m x=_
  unfold bindL
  exact zjt (i:=i) (List.nodup_cons.mp nd).2 (by simpa using h1) (by simpa using h2) hk
theorem zjJ {kindOf:Str->Option NameKind}{x:Str}{v:Value}:∀ {P:List Str} {vs:List Value} {i:Nat} {m:Str->Option Value},P.Nodup->P[i]?=some x->vs[i]?=some v->kindOf x≠some .local ->
  bindC kindOf (P.zip vs) m x=some v
 | [],_,_,_,_,h,_,_=>by simp at h
 | _::_,[],_,_,_,_,h,_=>by simp at h
 | p::P,w::vs,0,m,nd,h1,h2,hk=>by
  simp at h1 h2;subst h1;subst h2
  show bindC kindOf ((p,w)::P.zip vs) m p=_
  unfold bindC
  rw [zjy fun v hv=>(List.nodup_cons.mp nd).1 (List.of_mem_zip hv).1,if_neg hk]
  simp
 | p::P,w::vs,i+1,m,nd,h1,h2,hk=>by
  show bindC kindOf ((p,w)::P.zip vs) m x=_
  unfold bindC
  exact zjJ (i:=i) (List.nodup_cons.mp nd).2 (by simpa using h1) (by simpa using h2) hk
def start (N:List Str)(vs:List V):St:=vs.map some++List.replicate (N.length-vs.length) none
def ze2 (CX:CXT)(P:Program)(w:World)(K:PySem.W.Frag)(mg:Str->Option Value)(base:Heap)(N:List Str)(qual:Str)(scope:Scope)(f:Addr)(cd:Value)(A:Around)(outer:List Env)(s:Shared)(H:Hp)(E:XK):Cx where
 prog:=P
 w:=w
 K:=K
 mg:=mg
 base:=base
 A:=A.deeper (envOfC qual scope s.heap.objs.size f cd)
 N:=N
 s₀:=s
 H₀:=H
 env:=envOfC qual scope s.heap.objs.size f cd
 outer:=outer
 stack:=envOfC qual scope s.heap.objs.size f cd::outer
 ex:=[]
 calm:=true
 fn:=fun _=>true
 pn:=[]
 xe:=fun e s'=>wpAny (model P w) (A.deeper (envOfC qual scope s.heap.objs.size f cd)) (leaving (envOfC qual scope s.heap.objs.size f cd) e) (fun _ s''=>CX outer H s E e s'') (fun e' s''=>CX outer H s E e' s'') s'
theorem zkr {sc:Scope}{n:Nat}{x:Str}(h:sc.names.lookup x=some .cell):∃ c,(cellsFrom n sc.names []).lookup x=some c:=by
 have q:=PySem.W.cellsFrom_some sc.names n [] (.inl h)
 exact Option.isSome_iff_exists.mp q
theorem znN {CX:CXT}{P:Program}{w:World}{K:PySem.W.Frag}{mg:Str->Option Value}{base:Heap}{N ps:List Str}{qual:Str}{scope:Scope}{f:Addr}{cd:Value}{A:Around}{outer:List Env}{s s1:Shared}{H:Hp}{E:XK}{us:List Value}{vs:List V}
    (S:zM N ps scope) (hd:A.handled=none) (e0:zhO P w K mg base A outer s H) (hl:vs.length=ps.length) (r:Vals vs us)
    (x:InCallC s s.heap.objs.size (bindL (envOfC qual scope s.heap.objs.size f cd).kindOf (ps.zip us) fun _=>none) (cellsFrom (s.heap.objs.size+1) scope.names []) (bindC (envOfC qual scope s.heap.objs.size f cd).kindOf (ps.zip us) fun _=>none) s1) :
    Inv (ze2 CX P w K mg base N qual scope f cd A outer s H E) [] (start N vs) H s1:=by
  have hpl:ps.length<=N.length:=by have:=congrArg List.length S.pre;rw [List.length_take] at this;omega
  obtain⟨h1,tk,rfl,hk⟩:=x.done
  have noA:∀ b:Addr,b∉(ze2 CX P w K mg base N qual scope f cd A outer s H E).ex:=fun b z=>absurd (show b∈([]:List Addr) from z) (by simp)
  refine⟨⟨e0.mod,S.kind,rfl,rfl,Nat.le_refl _,fun y z c h1 h2=>?_,fun y hy=>?_,fun y c _ h=>?_,fun _=>hd,Around.frames_deeper e0.frames,.inr ⟨rfl,rfl⟩,fun b z=>absurd z (noA b),e0.bs,e0.bsz,fun b _ _=>noA b,fun b z=>absurd z (noA b),e0.funs,e0.frf⟩,
    rfl,e0.bare,Un.kept hk,⟨_,x.toInCall.ns,fun i y v h1 h2 h3=>?_⟩,fun y c h=>⟨_,x.cell y c h⟩,e0.hok.fresh (Nat.le_refl _),fun y c h=>?_,fun p hp=>absurd (show p∈([]:List (Addr×Obj)) from hp) (by simp),e0.hok.kept hk,?_⟩
  · exact name_of_addr x.apart (PySem.mem_of_lookup h1) (PySem.mem_of_lookup h2)
  · have hy:scope.names.lookup y=some .cell\/scope.names.lookup y=some .free:=hy
    rcases hy with hy | hy
    · exact zkr hy
    · exact absurd rfl (S.nofree _ (PySem.mem_of_lookup hy))
  · exact Nat.le_of_lt (x.above y c (PySem.mem_of_lookup h))
  · have hi : i < vs.length := by
      unfold start at h2
      by_cases hi:i<vs.length
      · exact hi
      · rw [List.getElem?_append_right (by simpa using hi)] at h2
        rw [List.getElem?_replicate] at h2
        split at h2<;>cases h2
    have ha:vs[i]?=some v:=by
      unfold start at h2
      rw [List.getElem?_append_left (by simpa using hi),List.getElem?_map] at h2
      cases e:vs[i]? with
      | none=>rw [e] at h2;cases h2
      | some a=>rw [e] at h2;cases h2;rfl
    obtain⟨u,hu,rv⟩:=r.get ha
    have hp:ps[i]?=some y:=by
      rw [<- S.pre,List.getElem?_take_of_lt (by omega)];exact h1
    have ndP:ps.Nodup:=by rw [<- S.pre];exact S.nd.sublist (List.take_sublist _ _)
    refine⟨u,rv,?_⟩
    rcases S.par y (List.mem_of_getElem? hp) with k | k
    · exact .inl ⟨k,zjt ndP hp hu k⟩
    · obtain⟨c,e⟩:=zkr (n:=s.heap.objs.size+1) k
      refine .inr ⟨.inl k,c,e,?_⟩
      have q:=x.cell y c e
      rw [zjJ ndP hp hu (by show scope.names.lookup y≠_;rw [k];decide)] at q
      exact q
  · exact e0.hok.fresh (Nat.le_of_lt (x.above y c (PySem.mem_of_lookup h)))
  · unfold start
    show _=N.length
    rw [List.length_append,List.length_map,List.length_replicate]
    omega
theorem zpI {CX:CXT}{P:Program}{w:World}{K:PySem.W.Frag}{mg:Str->Option Value}{base:Heap}{k:Nat}{f:Addr}{name qual:Str}{params:Arguments}{body:List Stmt}{scope:Scope}{dV kV doc pm cdv ct oc:Value}{an od:Option Addr}
  {osl:Array (Option Value)} {N ps:List Str} {sp:Sp} (lk:K.lookup f=some ⟨oc,od,.func (PySem.W.fnOf name qual params body scope dV kV doc pm an cdv ct),osl⟩) (hcd:PySem.W.codeIn K cdv qual=true) (S:zM N ps scope)
  (len:∀ vs H Q E,sp vs H Q E->vs.length=ps.length)
  (hbody:∀ (A:Around) (outer:List Env) (s:Shared) (H:Hp) (vs:List V) (Q:VK) (E:XK),zax k (A.deeper (envOfC qual scope s.heap.objs.size f cdv))->sp vs H Q E ->
   ∃ t,PSs (ze2 CX P w K mg base N qual scope f cdv A outer s H E) body t/\t { nx:=fun _ H'=>Q .non H',rt:=Q } (start N vs) H) :
  zW P w K mg base CX (k+1) f (PySem.W.fnOf name qual params body scope dV kV doc pm an cdv ct) ps sp:=by
 refine⟨len,fun A outer s H args us vs Q E hr e0 hb r hsp=>?_⟩
 have hl:=len _ _ _ _ hsp
 have KX:K.In s.heap:=e0.mod.kin.keeps fun b o e=>(e0.bs b o e).1
 have lim:s.heap.NoLimit:=e0.mod.nolimit.keeps fun b o e=>(e0.bs b o e).1
 have hkind:∀ y∈ps.zip us,scope.names.lookup y.1=some .local\/(scope.names.lookup y.1=some .cell/\((cellsFrom (s.heap.objs.size+1) scope.names []).lookup y.1).isSome=true):=fun⟨n,v⟩ hy=>by
  rcases S.par n (List.of_mem_zip hy).1 with q | q
  ·exact .inl q
  ·exact .inr ⟨q,PySem.W.cellsFrom_some _ _ _ (.inl q)⟩
 refine codeAny_call_function hr.depth (KX _ _ lk) rfl S.co S.gen rfl (PySem.W.codeRec_of KX hcd) (hb _ _ _ _ ?_)
 refine wpAny_newFunctionEnv_cells S.kind hkind fun env he s1 x=>?_
 subst he
 refine⟨lim.keeps x.toInCall.keep,codeAny_func ?_⟩
 obtain⟨t,ht,hq⟩:=hbody A outer s H vs Q E (hr.deeper _) hsp
 have I:Inv (ze2 CX P w K mg base N qual scope f cdv A outer s H E) [] (start N vs) H s1:=znN S hr.hd e0 hl r x
 refine wpAny_mono (ht [] s1 (start N vs) H _ I hq) (fun fl s' hs=>?_) fun e s' hs=>hs
 have fin:∀ {σ':St} {H':Hp} {v:V} {u:Value},Inv (ze2 CX P w K mg base N qual scope f cdv A outer s H E) [] σ' H' s'->RelV v u->Q v H'->CE outer P w H s Q u s' :=
  fun {σ' H' v u} J rv q=>⟨v,H',J.os,J.bare,J.base,J.hok,rv,q⟩
 cases fl with
 | ret u =>
  obtain⟨v,σ',H',J,rv,q⟩:=hs
  exact fin J rv q
 | next =>
  obtain⟨σ',H',J,q⟩:=hs
  exact fin (v:=V.non) (u:=Value.none) J rfl q
 | brk =>
  obtain⟨_,_,_,q⟩:=hs
  exact False.elim q
 | cont =>
  obtain⟨_,_,_,q⟩:=hs
  exact False.elim q
section
variable {X:Cx}{x:Str}{p pos:Pos}{e:Expr}{es:List Expr}{t:TA}{id T:String}{r:List V->Hp->VK->Prop}
def tCB (r:List V->Hp->VK->Prop)(t:TA):TE:=fun σ H Q=>t σ H fun vs H1=>r vs H1 Q
theorem zoY (hc:zaT X (.builtin id) r)(hg:Gl X x)(hm:X.mg x=none)(hv:bootBuiltins x=some (.builtin id))(ha:PA X (e::es) t)(hn:x≠"__name__":=by decide)(hdb:(x==("__debug__":Str))=false:=by decide)
  (he:starEach (e::es) X.env=(false,eval e X.env)::starEach es X.env:=by rfl) (hpl:(backTo pos (starEach es X.env)).any (·.1)=false:=by rfl):PE X (.Call (.Name x p) (e::es) [] pos) (tCB r t):=by
 intro pins s σ H Q I h
 refine wpAny_Call_Name_kw (zdm I hg hm hv ?_ hn hdb)
 exact PyProof.Rows.callWith_builtin1 (thn (ha pos pins s σ H _ I h) fun us s1 ⟨vs,H1,I1,r1,q1⟩=>hc pins s1 σ H1 vs us Q I1 r1 q1) he hpl
theorem zoj (hc:zaT X (.type T) r)(hg:Gl X x)(hm:X.mg x=none)(hv:bootBuiltins x=some (.type T))(ha:PA X (e::es) t)(hn:x≠"__name__":=by decide)(hdb:(x==("__debug__":Str))=false:=by decide)
  (he:starEach (e::es) X.env=(false,eval e X.env)::starEach es X.env:=by rfl) (hpl:(backTo pos (starEach es X.env)).any (·.1)=false:=by rfl):PE X (.Call (.Name x p) (e::es) [] pos) (tCB r t):=by
 intro pins s σ H Q I h
 refine wpAny_Call_Name_kw (zdm I hg hm hv ?_ hn hdb)
 exact PyProof.Rows.callWith_type1 (thn (ha pos pins s σ H _ I h) fun us s1 ⟨vs,H1,I1,r1,q1⟩=>hc pins s1 σ H1 vs us Q I1 r1 q1) he hpl
end
end L2
namespace HT
open PySem PyProof.Rows
section
open PySem.SeqAt
open PySem.AutoSeq1 (wpAny_loadPart')
open PySem.MeetsSeq PySem.MeetsSeq2 PySem.MeetsSeq3
end
section
variable {prog:Program}{w:World}{A:Around}{E:Value->Shared->Prop}{s:Shared}
theorem zq6 {t b:Addr}{vs ws:List Value}{Q:Value->Shared->Prop}(ht:IsTup s.heap t vs.toArray)(hb:IsTup s.heap b ws.toArray)(hv:vs≠[])
  (h1:ws=[]->Q (.ref t) s) (h2:ws≠[]->Q (.ref s.heap.objs.size) { s with heap:=s.heap.push { cls:=.type "tuple",data:=.seq (vs++ws).toArray } })
  (hsz:vs.length+ws.length<=sizeLine):wpAny (model prog w) A (binaryOp .Add (.ref t) (.ref b)) Q E s:=by
 obtain⟨⟨cls,dd,data,sl⟩,ho,hc,n,hd⟩:=id ht
 obtain⟨⟨cls2,dd2,data2,sl2⟩,ho2,hc2,n2,hd2⟩:=id hb
 simp only at hc hd hc2 hd2
 subst hc hd hc2 hd2
 have e:vs.toArray++ws.toArray=(vs++ws).toArray:=by simp
 by_cases hw:ws=[]
 ·exact concat_meets ⟨_,ho,rfl⟩ ⟨_,ho2,rfl⟩ noFill_tuple_add seq_tuple_add PySem.F.slot_tuple_add PySem.F.entry_tuple_add (PySem.F.args_tuple_add_2 _ _)
   (tuple_addW1 t b vs.toArray ws.toArray n n2 dd dd2 sl sl2 (by simpa using hv) (by simp [hw])) ⟨ho,ho2,h1 hw⟩
 ·refine concat_meets ⟨_,ho,rfl⟩ ⟨_,ho2,rfl⟩ noFill_tuple_add seq_tuple_add PySem.F.slot_tuple_add PySem.F.entry_tuple_add (PySem.F.args_tuple_add_2 _ _)
   (tuple_addW2 t b vs.toArray ws.toArray n n2 dd dd2 sl sl2 (by simpa using hv) (by simpa using hw) (by rw [List.size_toArray,List.size_toArray];exact hsz)) ⟨ho,ho2,?_⟩
  rw [e]
  exact h2 hw
def sIx (n d:Nat):Option Int->Nat
 | none=>d
 | some v=>if v<0 then (v+(n:Int)).toNat else min v.toNat n
theorem ziF (n d:Nat)(hd:d<=n)(o:Option Int):sIx n d o<=n:=by
 cases o with
 | none=>exact hd
 | some v =>
  show (if v<0 then (v+(n:Int)).toNat else min v.toNat n)<=n
  by_cases hv:v<0
  ·rw [if_pos hv];omega
  ·rw [if_neg hv];exact Nat.min_le_right _ _
theorem zlS (v:Int)(n d:Nat):(if v<0 then max (v+(n:Int)) 0 else min v (n:Int))=((sIx n d (some v):Nat):Int):=by
 show (if v<0 then max (v+(n:Int)) 0 else min v (n:Int))=(((if v<0 then (v+(n:Int)).toNat else min v.toNat n):Nat):Int)
 by_cases hv:v<0
 ·simp only [if_pos hv];omega
 ·simp only [if_neg hv];omega
theorem zme (lo hi:Option Int)(n:Nat):Builtin.Slice.sliceAdjust lo hi 1 (n:Int)=(((sIx n 0 lo:Nat):Int),((sIx n n hi:Nat):Int)):=by
 have h1:¬ ((1:Int)<0):=by omega
 unfold Builtin.Slice.sliceAdjust
 simp only [h1,if_false]
 refine Prod.ext ?_ ?_
 ·cases lo with
  | none=>rfl
  | some v=>exact zlS v n 0
 ·cases hi with
  | none=>rfl
  | some v=>exact zlS v n n
theorem zmN (i j:Nat):Builtin.Slice.slicePlaces (i:Int) (j:Int) 1=j-i:=by
  unfold Builtin.Slice.slicePlaces
  have h1:(1:Int) > 0:=by omega
  simp only [h1,if_true,Int.ediv_one]
  split<;>omega
theorem zih {v:Value}{o:Option Int}{Q:Option Int->Shared->Prop}(p:IsPart v o)(h:Q o s):wpAny (model prog w) A (Builtin.Slice.slicePartIndex v) Q E s:=by
 cases p with
 | none=>exact slicePart_none h
 | int i t=>exact slicePart_int h
theorem zeC {sl:Addr}{vl vu:Value}{lo hi:Option Int}{n:Nat}{Q:Int×Int×Nat->Shared->Prop}(hs:s.heap.IsSliceOf sl vl vu .none)(pl:IsPart vl lo)(pu:IsPart vu hi)
  (h:Q (((sIx n 0 lo:Nat):Int),1,sIx n n hi-sIx n 0 lo) s):wpAny (model prog w) A (Builtin.Slice.sliceApplied (.ref sl) (pure (n:Int))) Q E s:=by
 obtain⟨os,hos,hcs,hds⟩:=id hs
 unfold Builtin.Slice.sliceApplied Builtin.Slice.sliceFields
 refine wpAny_bind (wpAny_bind (wpAny_field hos hds (x:=vl) rfl (wpAny_bind (wpAny_field hos hds (x:=vu) rfl (wpAny_bind (wpAny_field hos hds (x:=.none) rfl (wpAny_pure ?_)))))))
 refine wpAny_bind (slicePart_none ?_)
 show wpAny _ _ (if ((1:Int)==0)=true then _ else _) _ _ s
 rw [if_neg (by decide)]
 refine wpAny_bind (zih pl (wpAny_bind (zih pu (wpAny_bind (wpAny_pure ?_)))))
 show wpAny _ _ (match Builtin.Slice.sliceAdjust lo hi 1 (n:Int) with | (lo,hi)=>pure (lo,(1:Int),Builtin.Slice.slicePlaces lo hi 1)) _ _ s
 rw [zme lo hi n]
 show wpAny _ _ (pure (((sIx n 0 lo:Nat):Int),(1:Int),Builtin.Slice.slicePlaces ((sIx n 0 lo:Nat):Int) ((sIx n n hi:Nat):Int) 1)) _ _ s
 rw [zmN]
 exact wpAny_pure h
theorem zo4 (xs:Array Value)(i k:Nat):((List.range k).filterMap fun (m:Nat)=>xs[((i:Int)+(m:Int)*1).toNat]?).toArray=((xs.toList.drop i).take k).toArray:=by
 have e:(fun (m:Nat)=>xs[((i:Int)+(m:Int)*1).toNat]?)=fun m=>xs[i+m]?:=by
  funext m
  have:((i:Int)+(m:Int)*1).toNat=i+m:=by omega
  rw [this]
 rw [e]
 have:=pick_run xs i k
 rw [List.filterMap_map] at this
 have e2:((fun x=>xs[x]?) ∘ fun x=>i+x)=fun m=>xs[i+m]?:=rfl
 rw [e2] at this
 rw [this]
theorem zhs {t sl:Addr}{items:Array Value}{vl vu:Value}{lo hi:Option Int}{Q:Value->Shared->Prop}(ht:IsTup s.heap t items)(hs:s.heap.IsSliceOf sl vl vu .none)(pl:IsPart vl lo)(pu:IsPart vu hi)
  (hw:¬ (sIx items.size 0 lo=0/\sIx items.size items.size hi=items.size))
  (h:Q (.ref s.heap.objs.size) { s with heap:=s.heap.push { cls:=.type "tuple",data:=.seq ((items.toList.drop (sIx items.size 0 lo)).take (sIx items.size items.size hi-sIx items.size 0 lo)).toArray } })
  (hsz:items.size<=sizeLine):wpAny (model prog w) A (getItem (.ref t) (.ref sl)) Q E s:=by
 have htake:sizeOk (.seq ((items.toList.drop (sIx items.size 0 lo)).take (sIx items.size items.size hi-sIx items.size 0 lo)).toArray):=by
  show ((items.toList.drop (sIx items.size 0 lo)).take (sIx items.size items.size hi-sIx items.size 0 lo)).toArray.size<=sizeLine
  rw [List.size_toArray,List.length_take,List.length_drop,Array.length_toList]
  omega
 have hj:sIx items.size items.size hi<=items.size:=ziF _ _ (Nat.le_refl _) hi
 obtain⟨os,hos,hcs,hds⟩:=id hs
 have hTs:s.TypeIs (.ref sl) "slice":=⟨os,hos,hcs⟩
 unfold getItem
 try with_reducible refine wpAny_holding ?_
 first | refine wpAny_bind (wpAny_pure ?_) | skip
 refine wpAny_bind (wpAny_sequenceKey ht.typeIs (by decide) ?_)
 refine wpAny_bind (wpAny_callSpecial?_slot (name:=Str.ofString "__getitem__") ht.typeIs PyProof.Rows.slot_tuple_getitem
  (wpAny_call_entry PyProof.Rows.slot_tuple_getitem ht.typeIs entry_tuple_getitem ?_ (args_tuple_getitem _ _)))
 show wpAny _ _ (Builtin.Tuple.tupleItemsOf (.ref t) >>= _) _ _ s
 refine wpAny_bind (tupleItemsOf_ ht ?_)
 refine wpAny_bind (wpAny_typeOf hTs ?_)
 rw [if_pos (by decide)]
 refine wpAny_bind (zeC hs pl pu ?_)
 have hno:¬ ((((sIx items.size 0 lo:Nat):Int)==0&&(1:Int)==1&&(sIx items.size items.size hi-sIx items.size 0 lo)==items.size)=true):=by
  intro q
  rw [Bool.and_eq_true,Bool.and_eq_true] at q
  have q1:((sIx items.size 0 lo:Nat):Int)=0:=eq_of_beq q.1.1
  have q2:sIx items.size items.size hi-sIx items.size 0 lo=items.size:=eq_of_beq q.2
  exact hw ⟨by omega,by omega⟩
 show wpAny _ _ (if (((sIx items.size 0 lo:Nat):Int)==0&&(1:Int)==1&&(sIx items.size items.size hi-sIx items.size 0 lo)==items.size)=true then _ else _) _ _ s
 rw [if_neg hno,zo4]
 first
  | exact wpAny_bind (m:=Builtin.Tuple.tupleExact _) (wpAny_newObj_type (wpAny_pure ⟨_,rfl,wpAny_pure h⟩) htake)
  | exact wpAny_bind (m:=Builtin.Tuple.tupleExact _) (wpAny_newObj_type (wpAny_bind (wpAny_pure (wpAny_pure ⟨_,rfl,wpAny_pure h⟩))) htake)
  | exact wpAny_bind (wpAny_bind (m:=Builtin.Tuple.tupleExact _) (wpAny_newObj_type (wpAny_pure (wpAny_pure ⟨_,rfl,wpAny_pure h⟩)) htake))
  | exact wpAny_bind (wpAny_bind (m:=Builtin.Tuple.tupleExact _) (wpAny_newObj_type (wpAny_pure ⟨_,rfl,wpAny_pure h⟩) htake))
end
end HT
namespace L2
open PySem PySem.Spec PyProof.Rows
abbrev TO:=St->Hp->(Option Int->Hp->Prop)->Prop
def PO (X:Cx)(e:Option Expr)(t:TO):Prop :=
 ∀ (pins:List (Addr×Obj)) (s:Shared) (σ:St) (H:Hp) (Q:Option Int->Hp->Prop),Inv X pins σ H s->t σ H Q ->
  wpAny (model X.prog X.w) X.A (evalPart e X.env) (fun u s'=>∃ o H',Inv X pins σ H' s'/\IsPart u o/\Q o H') X.xe s
def zq3:TO:=fun _ H Q=>Q none H
def ztr (t:TE):TO:=fun σ H Q=>t σ H fun x H1=>∃ i,x=.int i/\Q (some i) H1
section
variable {X:Cx}{e:Expr}{te:TE}{lo hi:Option Expr}{tl th:TO}{pos p2:Pos}
theorem zqD:PO X none zq3:=by
 intro pins s σ H Q I h
 rw [evalPart_none]
 exact wpAny_pure ⟨none,H,I,.none,h⟩
theorem zqc (h:PE X e te):PO X (some e) (ztr te):=by
 intro pins s σ H Q I hw
 rw [evalPart_some]
 refine thn (h pins s σ H _ I hw) fun u s1 ⟨x,H1,I1,r1,q1⟩=>?_
 obtain⟨i,rfl,q⟩:=q1
 obtain⟨t,rfl⟩:=r1
 exact⟨some i,H1,I1,.int i t,q⟩
def SlR (X:Cx)(r:V->Option Int->Option Int->Hp->VK->Prop):Prop :=
 ∀ (pins:List (Addr×Obj)) (s:Shared) (σ:St) (H:Hp) (x:V) (v vl vu:Value) (lo hi:Option Int) (sl:Addr) (Q:VK),Inv X pins σ H s->RelV x v->s.heap.IsSliceOf sl vl vu .none->IsPart vl lo->IsPart vu hi->r x lo hi H Q ->
  ∃ T id,typeLookup (.type T) "__getitem__"=pure (some (.builtin id))/\s.TypeIs v T/\wpAny (model X.prog X.w) X.A (getItem v (.ref sl)) (EP X pins σ Q) X.xe s
theorem SlR.or {r r':V->Option Int->Option Int->Hp->VK->Prop}(h:SlR X r)(h':SlR X r'):SlR X (fun x lo hi H Q=>r x lo hi H Q\/r' x lo hi H Q):=by
 intro pins s σ H x v vl vu lo hi sl Q I rx hs pl pu q
 rcases q with q | q
 ·exact h pins s σ H x v vl vu lo hi sl Q I rx hs pl pu q
 ·exact h' pins s σ H x v vl vu lo hi sl Q I rx hs pl pu q
def tSl (r:V->Option Int->Option Int->Hp->VK->Prop)(te:TE)(tl th:TO):TE:=fun σ H Q=>te σ H fun x H1=>tl σ H1 fun l H2=>th σ H2 fun u H3=>r x l u H3 Q
theorem zoK {r:V->Option Int->Option Int->Hp->VK->Prop}(hr:SlR X r)(he:PE X e te)(hl:PO X lo tl)(hu:PO X hi th):PE X (.Subscript e (.Slice lo hi none p2) pos) (tSl r te tl th):=by
 intro pins s σ H Q I h
 refine Subscript_ (thn (he pins s σ H _ I h) fun v s1 ⟨x,H1,I1,r1,q1⟩=>?_)
 refine wpAny_Slice (thn (hl pins s1 σ H1 _ I1 q1) fun vl s2 ⟨l,H2,I2,pl,q2⟩=>thn (hu pins s2 σ H2 _ I2 q2) fun vu s3 ⟨u,H3,I3,pu,q3⟩=>?_)
 rw [evalPart_none]
 refine wpAny_pure ?_
 have I4:Inv X pins σ H3 { s3 with heap:=s3.heap.push { cls:=.type "slice",data:=.fields #[vl,vu,.none] } }:=I3.kept (t':=s3.toks) fun b ob q=>Heap.get?_push_of_some _ q
 obtain⟨T,id,hT,ht,hg⟩:=hr pins { s3 with heap:=s3.heap.push { cls:=.type "slice",data:=.fields #[vl,vu,.none] } } σ H3 x v vl vu l u s3.heap.objs.size Q I4 r1 (Heap.IsSliceOf.new ..) pl pu q3
 show wpAny (model X.prog X.w) X.A (subscriptTail e (.Slice lo hi none p2) v (.ref s3.heap.objs.size)) (EP X pins σ Q) X.xe { s3 with heap:=s3.heap.push { cls:=.type "slice",data:=.fields #[vl,vu,.none] } }
 exact tail_any (ops:=[.ref s3.heap.objs.size,v]) ht hT hg (by with_unfolding_all rfl)
def zf3 (xs:List V)(lo hi:Option Int):List V:=(xs.drop (HT.sIx xs.length 0 lo)).take (HT.sIx xs.length xs.length hi-HT.sIx xs.length 0 lo)
theorem zhz (xs:List V)(lo hi:Option Int):(zf3 xs lo hi).length<=xs.length:=by
 unfold zf3
 rw [List.length_take,List.length_drop]
 omega
def zvh (K:PySem.W.Frag):V->Option Int->Option Int->Hp->VK->Prop:=fun x lo hi H Q=>∃ a xs,x=.ref a/\SqT K H a xs /\
 ¬ (HT.sIx xs.length 0 lo=0/\HT.sIx xs.length xs.length hi=xs.length)/\∀ p,H p=none->Q (.ref p) (upd H p (.tup (zf3 xs lo hi)))
theorem zrv:SlR X (zvh X.K):=by
 intro pins s σ H x v vl vu lo hi sl Q I rx hs pl pu h
 obtain⟨a,xs,rfl,hx,hw,q⟩:=h
 cases rx
 obtain⟨its,r,ht,hz⟩:=I.tuple hx
 have hlen:its.toArray.size=xs.length:=by rw [List.size_toArray];exact r.length.symm
 refine⟨"tuple",_,PyProof.Rows.slot_tuple_getitem.lookup,ht.typeIs,?_⟩
 refine HT.zhs ht hs pl pu (by rw [hlen];exact hw) ?_ (by rw [hlen];exact hz)
 rw [hlen]
 refine⟨.ref s.heap.objs.size,_,I.laid (t':=s.toks) (o:=.tup (zf3 xs lo hi)) (fun b ob q=>Heap.get?_push_of_some _ q) (Nat.le_refl _) ?_,rfl,q _ (I.hok.fresh (Nat.le_refl _))⟩
 exact⟨Nat.le_trans (zhz xs lo hi) hz,_,(r.drop (HT.sIx xs.length 0 lo)).take (HT.sIx xs.length xs.length hi-HT.sIx xs.length 0 lo),IsTup.new _ _⟩
def zua (K:PySem.W.Frag):R2:=fun x y H Q=>∃ a b xs ys,x=.ref a/\y=.ref b/\SqT K H a xs/\SqT K H b ys/\xs≠[]/\xs.length+ys.length<=sizeLine /\
 (ys=[]->Q (.ref a) H)/\(ys≠[]->∀ p,H p=none->Q (.ref p) (upd H p (.tup (xs++ys))))
theorem Vals.nil_iff {xs:List V}{us:List Value}(r:Vals xs us):us=[]↔xs=[]:=by
 cases r with
 | nil=>simp
 | cons _ _=>simp
theorem zp4:OpR X (binaryOp .Add) (zua X.K):=by
 intro pins s σ H x y v u Q I rx ry h
 obtain⟨a,b,xs,ys,rfl,rfl,ha,hb,hx,hz,q1,q2⟩:=h
 cases rx
 cases ry
 obtain⟨its,r1,p1,_⟩:=I.tuple ha
 obtain⟨its2,r2,p2,_⟩:=I.tuple hb
 refine HT.zq6 p1 p2 (fun z=>hx (r1.nil_iff.mp z)) (fun z=>⟨.ref a,H,I,rfl,q1 (r2.nil_iff.mp z)⟩) (fun z=>?_) (by rw [<- r1.length,<- r2.length];exact hz)
 refine⟨.ref s.heap.objs.size,_,I.laid (t':=s.toks) (o:=.tup (xs++ys)) (fun b ob q=>Heap.get?_push_of_some _ q) (Nat.le_refl _) ?_,rfl,q2 (fun w=>z (r2.nil_iff.mpr w)) _ (I.hok.fresh (Nat.le_refl _))⟩
 exact⟨by rw [List.length_append];exact hz,_,r1.append r2,IsTup.new _ _⟩
end
def ixN (n:Nat)(i:Int):Option Nat:=if 0<=i then (if i<n then some i.toNat else none) else if -(n:Int)<=i then some (i+n).toNat else none
def atI {α:Type}(xs:List α)(i:Int):Option α:=(ixN xs.length i).bind fun j=>xs[j]?
theorem zlL {n:Nat}{i:Int}{j:Nat}(h:ixN n i=some j):seqIndex? i n=some j/\j<n/\-(n:Int)<=i/\i<n:=by
 unfold ixN at h
 by_cases h0:0<=i
 ·rw [if_pos h0] at h
  by_cases h1:i<n
  ·rw [if_pos h1] at h
   have e:i.toNat=j:=Option.some.inj h
   exact⟨by rw [seqIndex_of h0 h1,e],by omega,by omega,h1⟩
  ·rw [if_neg h1] at h;cases h
 ·rw [if_neg h0] at h
  by_cases h1:-(n:Int)<=i
  ·rw [if_pos h1] at h
   have e:(i+n).toNat=j:=Option.some.inj h
   exact⟨by rw [seqIndex_neg (by omega) h1,e],by omega,h1,by omega⟩
  ·rw [if_neg h1] at h;cases h
theorem zjq {α:Type}{xs:List α}{i:Int}{v:α}(h:atI xs i=some v):∃ j,seqIndex? i xs.length=some j/\xs[j]?=some v/\j<xs.length/\-(xs.length:Int)<=i/\i<xs.length:=by
 unfold atI at h
 cases e:ixN xs.length i with
 | none=>rw [e] at h;cases h
 | some j =>
  rw [e] at h
  obtain⟨h1,h2,h3,h4⟩:=zlL e
  exact⟨j,h1,h,h2,h3,h4⟩
def zl4 (b:Expr):Prop:=∀ o i,subscripted b false o i=operate [o,i] (getItem o i)
def IxR (X:Cx)(r:R2):Prop :=
 ∀ (value slice:Expr) (pins:List (Addr×Obj)) (s:Shared) (σ:St) (H:Hp) (x y:V) (v u:Value) (Q:VK),Inv X pins σ H s->RelV x v->RelV y u->r x y H Q ->
  subscripted slice false v u=operate [v,u] (getItem v u)->wpAny (model X.prog X.w) X.A (subscriptTail value slice v u) (EP X pins σ Q) X.xe s
def MtR (X:Cx)(id:String)(r:V->List V->Hp->VK->Prop):Prop :=
 ∀ (pins:List (Addr×Obj)) (s:Shared) (σ:St) (H:Hp) (x:V) (xs:List V) (v:Value) (us:List Value) (Q:VK),Inv X pins σ H s->RelV x v->Vals xs us->r x xs H Q ->
  wpAny (model X.prog X.w) X.A (call (.builtin id) (v::us)) (EP X pins σ Q) X.xe s
section
variable {X:Cx}{a b:Expr}{ta tb:TE}{pos:Pos}
theorem IxR.or {r r':R2}(h:IxR X r)(h':IxR X r'):IxR X (fun x y H Q=>r x y H Q\/r' x y H Q):=by
 intro value slice pins s σ H x y v u Q I rx ry q hs
 rcases q with q | q
 ·exact h value slice pins s σ H x y v u Q I rx ry q hs
 ·exact h' value slice pins s σ H x y v u Q I rx ry q hs
theorem ztx {r:R2}(hr:IxR X r)(ha:PE X a ta)(hb:PE X b tb)(hs:zl4 b):PE X (.Subscript a b pos) (tOp r ta tb):=by
 intro pins s σ H Q I h
 exact Subscript_ (zoG ha hb I h fun v u s2 x y H2 I2 rx ry q=>hr a b pins s2 σ H2 x y v u Q I2 rx ry q (hs _ _))
def zuF (K:PySem.W.Frag):R2:=fun x y H Q=>∃ p xs i v,x=.ref p/\y=.int i/\SqL K H p xs/\atI xs i=some v/\Q v H
def zuN (K:PySem.W.Frag):R2:=fun x y H Q=>∃ p xs i v,x=.ref p/\y=.int i/\SqT K H p xs/\atI xs i=some v/\Q v H
def zuI:R2:=fun x y H Q=>∃ z i c,x=.str z/\y=.int i/\z.length<=sizeLine/\atI z.cps.toList i=some c/\Q (.str ⟨#[c]⟩) H
theorem zqT:IxR X (zuF X.K):=by
  intro value slice pins s σ H x y v u Q I rx ry h hs
  obtain⟨p,xs,i,z,rfl,rfl,hq,he,q⟩:=h
  cases rx
  obtain⟨t,rfl⟩:=ry
  obtain⟨its,r,pl,hz⟩:=I.list hq
  obtain⟨j,h1,h2,h3,h4,h5⟩:=zjq he
  obtain⟨w,ew,rw'⟩:=r.get h2
  have hl:=r.length
  have hn:=zfs
  have fin:EP X pins σ Q w s:=⟨z,H,I,rw',q⟩
  by_cases h0:0<=i
  · have hj : i.toNat = j := by
      rw [seqIndex_of h0 h5] at h1
      exact Option.some.inj h1
    exact item_listR pl.isList h0 (by omega) (by rw [hj];simpa using ew) fin hs
  · have hj : (i + (its.toArray.size : Int)).toNat = j := by
      rw [seqIndex_neg (by omega) h4] at h1
      rw [List.size_toArray,<- hl]
      exact Option.some.inj h1
    exact subscriptTail_builtinR (x:=w) pl.isList.typeIs slot_list_getitem.lookup
      (wpAny_getItem_list_neg (Q:=fun r s'=>r=w/\EP X pins σ Q r s') pl.isList (by omega) (by rw [List.size_toArray]<;>omega) (by omega) (by rw [hj];simpa using ew) ⟨rfl,fin⟩) hs
theorem zs7:IxR X (zuN X.K):=by
 intro value slice pins s σ H x y v u Q I rx ry h hs
 obtain⟨p,xs,i,z,rfl,rfl,hq,he,q⟩:=h
 cases rx
 obtain⟨t,rfl⟩:=ry
 obtain⟨its,r,pl,hz⟩:=I.tuple hq
 obtain⟨j,h1,h2,h3,h4,h5⟩:=zjq he
 obtain⟨w,ew,rw'⟩:=r.get h2
 have hl:=r.length
 have hn:=zfs
 have fin:EP X pins σ Q w s:=⟨z,H,I,rw',q⟩
 exact subscriptTail_builtinR (x:=w) pl.typeIs slot_tuple_getitem.lookup
  (getItem_tuple (j:=j) (Q:=fun r s'=>r=w/\EP X pins σ Q r s') pl (by omega) (by omega) (by rw [List.size_toArray,<- hl];exact h1) (by simpa using ew) ⟨rfl,fin⟩) hs
theorem zs6:IxR X zuI:=by
 intro value slice pins s σ H x y v u Q I rx ry h hs
 obtain⟨z,i,c,rfl,rfl,hz,he,q⟩:=h
 obtain⟨t,rfl⟩:=rx
 obtain⟨t',rfl⟩:=ry
 obtain⟨j,h1,h2,h3,h4,h5⟩:=zjq he
 have hl:z.cps.toList.length=z.length:=by simp [Str.length]
 rw [hl] at h1 h4 h5
 have hn:=zfs
 exact tail_any (typeIs_str s z t) slot_str_getitem.lookup (getItem_str (c:=c) (by
  have e1:decide (i < -(2 ^ 63:Int))=false:=decide_eq_false (by omega)
  have e2:decide (i ≥ 2 ^ 63)=false:=decide_eq_false (by omega)
  rw [e1,e2,Bool.or_false]) (by rw [h1];simpa using h2) ⟨.str ⟨#[c]⟩,H,I.tok _,⟨_,rfl⟩,q⟩) hs
theorem zmF (its:List Value)(n j:Nat)(u:Value):Obj.mapSeq (·.setIfInBounds j u) { cls:=.type "list",data:=.seq its.toArray n }={ cls:=.type "list",data:=.seq (its.set j u).toArray n }:=by
 simp [Obj.mapSeq]
theorem Inv.lst {pins:List (Addr×Obj)}{σ:St}{H:Hp}{s:Shared}{p:Addr}{xs:List V}(I:Inv X pins σ H s)(h:H p=some (.lst xs)) :
  ∃ (its:List Value) (n:Nat),Vals xs its/\s.heap.get? p=some { cls:=.type "list",data:=.seq its.toArray n }/\xs.length<=sizeLine:=by
 obtain⟨z,its,n,r,e⟩:=I.hok p _ h
 exact⟨its,n,r,e,z⟩
theorem Inv.lstUpd {pins:List (Addr×Obj)}{σ:St}{H:Hp}{s:Shared}{p:Addr}{xs ys:List V}{its its':List Value}{n n':Nat}{f:Obj->Obj}(I:Inv X pins σ H s)(h:H p=some (.lst xs))
    (ho:s.heap.get? p=some { cls:=.type "list",data:=.seq its.toArray n }) (hf:f { cls:=.type "list",data:=.seq its.toArray n }={ cls:=.type "list",data:=.seq its'.toArray n' }) (r:Vals ys its') (hz:ys.length<=sizeLine) (t:Nat) :
    Inv X pins σ (upd H p (.lst ys)) { s with heap:=s.heap.update p f,toks:=t }:=by
  have e:(s.heap.update p f).get? p=some { cls:=.type "list",data:=.seq its'.toArray n' }:=by
    rw [Heap.get?_update_self f ho (by rw [hf]<;>rfl),hf]
  refine I.write (x:=p) (e:=p) (by rw [h];trivial) (.inl rfl) (fun b u hb q=>(Heap.get?_update_other _ _ (Ne.symm hb)).trans q) ⟨_,e⟩ ?_
  exact⟨hz,its',n',r,e⟩
def zuz:V->V->V->Hp->(Hp->Prop)->Prop:=fun o i v H Q=>∃ p xs k j,o=.ref p/\i=.int k/\H p=some (.lst xs)/\ixN xs.length k=some j/\Q (upd H p (.lst (xs.set j v)))
theorem set_list:zsq X zuz:=by
 intro pins s σ H o i v ov iv u Q I ro ri rv h
 obtain⟨p,xs,k,j,rfl,rfl,hp,hj,q⟩:=h
 cases ro
 obtain⟨t,rfl⟩:=ri
 obtain⟨its,n,r,ho,hz⟩:=I.lst hp
 obtain⟨h1,h2,h3,h4⟩:=zlL hj
 have hl:=r.length
 have hn:=zfs
 have I':Inv X pins σ (upd H p (.lst (xs.set j v))) { s with heap:=s.heap.update p (Obj.mapSeq (·.setIfInBounds j u)) } :=
  I.lstUpd hp ho (zmF its n j u) (r.set rv j) (by rw [List.length_set];exact hz) s.toks
 by_cases h0:0<=k
 ·have hk:k.toNat=j:=by
   rw [seqIndex_of h0 h4] at h1
   exact Option.some.inj h1
  exact PySem.W.ki_setAt ho h0 (by omega) (by rw [List.size_toArray,<- hl];exact h4) (by rw [hk];exact⟨_,I',q⟩)
 ·have hk:(k+(its.toArray.size:Int)).toNat=j:=by
   rw [seqIndex_neg (by omega) h3] at h1
   rw [List.size_toArray,<- hl]
   exact Option.some.inj h1
  exact PySem.W.ki_setBack ho (by omega) (by rw [List.size_toArray,<- hl];exact h3) (by omega) (by rw [hk];exact⟨_,I',q⟩)
theorem zj9 (lo hi:Option Int)(n:Nat):(sliceBounds lo hi none n).1=((HT.sIx n 0 lo:Nat):Int)/\(sliceBounds lo hi none n).2.1=((HT.sIx n n hi:Nat):Int)/\(sliceBounds lo hi none n).2.2=1:=by
  refine⟨?_,?_,rfl⟩
  · cases lo with
    | none=>simp [sliceBounds,HT.sIx]
    | some i =>
      simp only [sliceBounds,HT.sIx,Option.getD_none,show (1:Int) > 0 by decide,if_true]
      by_cases h:i<0
      · simp only [h,if_true]<;>omega
      · simp only [h,if_false]<;>omega
  · cases hi with
    | none=>simp [sliceBounds,HT.sIx]
    | some i =>
      simp only [sliceBounds,HT.sIx,Option.getD_none,show (1:Int) > 0 by decide,if_true]
      by_cases h:i<0
      · simp only [h,if_true]<;>omega
      · simp only [h,if_false]<;>omega
theorem zjO (its:List Value)(lo hi:Option Int):slicePick its.toArray lo hi none=((its.drop (HT.sIx its.length 0 lo)).take (HT.sIx its.length its.length hi-HT.sIx its.length 0 lo)).toArray:=by
  obtain⟨h1,h2,h3⟩:=zj9 lo hi its.toArray.size
  unfold slicePick
  rw [h1,h2,h3]
  simp only [sliceRange_one,pick_run,List.size_toArray]<;>rfl
def zuR (K:PySem.W.Frag):V->Option Int->Option Int->Hp->VK->Prop:=fun x lo hi H Q=>∃ a xs,x=.ref a/\SqL K H a xs/\∀ p,H p=none->Q (.ref p) (upd H p (.lst (zf3 xs lo hi)))
theorem zp9:SlR X (zuR X.K):=by
  intro pins s σ H x v vl vu lo hi sl Q I rx hs pl pu h
  obtain⟨a,xs,rfl,hx,q⟩:=h
  cases rx
  obtain⟨its,r,ht,hz⟩:=I.list hx
  have hlen:=r.length
  refine⟨"list",_,slot_list_getitem.lookup,ht.isList.typeIs,?_⟩
  refine wpAny_getItem_list_slice ht.isList hs pl pu .none (by simp) ?_ (by rw [List.size_toArray]<;>omega)
  rw [zjO,<- hlen]
  refine⟨.ref s.heap.objs.size,_,I.laid (t':=s.toks) (o:=.lst (zf3 xs lo hi)) (fun b ob q=>Heap.get?_push_of_some _ q) (Nat.le_refl _) ?_,rfl,q _ (I.hok.fresh (Nat.le_refl _))⟩
  exact⟨Nat.le_trans (zhz xs lo hi) hz,_,0,(r.drop (HT.sIx xs.length 0 lo)).take (HT.sIx xs.length xs.length hi-HT.sIx xs.length 0 lo),Heap.get?_push_size _ rfl⟩
theorem zk3:zaT X (.builtin "len") (fun xs H Q=>∃ p ys,xs=[.ref p]/\(SqL X.K H p ys\/SqT X.K H p ys)/\Q (.int ys.length) H):=by
  intro pins s σ H xs us Q I r h
  obtain⟨p,ys,rfl,hq,q⟩:=h
  obtain⟨u,rfl,rx⟩:=vals1 r
  cases rx
  have hn:=zfs
  rcases hq with hq | hq
  · obtain⟨its,r',pl,hz⟩:=I.list hq
    have hlen:=r'.length
    exact Calls.call_len_list pl.isList (by simp only [List.size_toArray]<;>omega) ⟨.int ys.length,H,I.tok _,⟨s.toks+1,by rw [List.size_toArray,hlen]⟩,q⟩
  · obtain⟨its,r',pl,hz⟩:=I.tuple hq
    have hlen:=r'.length
    exact len_tuple pl (by simp only [List.size_toArray]<;>omega) ⟨.int ys.length,H,I.tok _,⟨s.toks+1,by rw [List.size_toArray,hlen]⟩,q⟩
theorem zj8:zaT X (.builtin "len") (fun xs H Q=>∃ z,xs=[.str z]/\z.length<=sizeLine/\Q (.int z.length) H):=by
 intro pins s σ H xs us Q I r h
 obtain⟨z,rfl,hz,q⟩:=h
 obtain⟨u,rfl,t,rfl⟩:=vals1 r
 have hn:=zfs
 exact len_str (by omega) ⟨.int z.length,H,I.tok _,⟨_,rfl⟩,q⟩
theorem zaT.or {f:Value}{r r':List V->Hp->VK->Prop}(h:zaT X f r)(h':zaT X f r'):zaT X f (fun xs H Q=>r xs H Q\/r' xs H Q):=by
 intro pins s σ H xs us Q I rs q
 rcases q with q | q
 ·exact h pins s σ H xs us Q I rs q
 ·exact h' pins s σ H xs us Q I rs q
theorem zkF:zaT X (.type "list") (fun xs H Q=>∃ p ys,xs=[.ref p]/\(SqL X.K H p ys\/SqT X.K H p ys)/\∀ l,H l=none->Q (.ref l) (upd H l (.lst ys))):=by
  intro pins s σ H xs us Q I r h
  obtain⟨p,ys,rfl,hq,q⟩:=h
  obtain⟨u,rfl,rx⟩:=vals1 r
  cases rx
  have fin : ∀ (its : List Value), Vals ys its → ys.length ≤ sizeLine → ∀ (h' : Heap) (c' : Nat), (∀ b o', s.heap.get? b = some o' → h'.get? b = some o') →
      h'.get? s.heap.objs.size=some { cls:=.type "list",dict:=none,data:=.seq its.toArray c',slots:=#[] }->EP X pins σ Q (.ref s.heap.objs.size) { s with heap:=h' }:=fun its r' hz h' c' kp e =>
    ⟨.ref s.heap.objs.size,_,I.laid (t':=s.toks) kp (Nat.le_refl _) (show zay X.prog X.w _ h' _ (.lst ys) from ⟨hz,its,c',r',e⟩),rfl,q _ (I.hok.fresh (Nat.le_refl _))⟩
  rcases hq with hq | hq
  · obtain⟨its,r',pl,hz⟩:=I.list hq
    have hlen:=r'.length
    obtain⟨o,ho,hc,n,hd⟩:=pl.isList
    exact call_list_seq p (.inl rfl) ho hc hd (fun h' c' kp e=>fin its r' hz h' c' kp e) (by simp only [List.size_toArray]<;>omega)
  · obtain⟨its,r',pl,hz⟩:=I.tuple hq
    have hlen:=r'.length
    obtain⟨o,ho,hc,n,hd⟩:=pl
    exact call_list_seq p (.inr rfl) ho hc hd (fun h' c' kp e=>fin its r' hz h' c' kp e) (by simp only [List.size_toArray]<;>omega)
def tyV (K:PySem.W.Frag)(T:String)(x:V)(H:Hp):Prop:=match x with
 | .str _=>T="str"
 | .int _=>T="int"
 | .ref p=>(T="list"/\∃ xs,SqL K H p xs)\/(T="tuple"/\∃ o,K.lookup p=some o/\o.cls=.type "tuple"/\o.dict=none) \/
   (T="dict"/\((∃ kvs,H p=some (.dK kvs))\/∃ kvs,H p=some (.dT kvs)))\/(T="set"/\∃ S n,H p=some (.set S n))
 | _=>False
theorem znW {pins:List (Addr×Obj)}{σ:St}{H:Hp}{s:Shared}{T:String}{x:V}{v:Value}(I:Inv X pins σ H s)(r:RelV x v)(ty:tyV X.K T x H) :
  s.TypeIs v T/\∀ a,v=.ref a->∃ ob,s.heap.get? a=some ob/\ob.dict=none:=by
 cases x with
 | str z =>
  obtain⟨t,rfl⟩:=r
  cases (show T="str" from ty)
  exact⟨typeIs_str s z t,fun _ e=>nomatch e⟩
 | int i =>
  obtain⟨t,rfl⟩:=r
  cases (show T="int" from ty)
  exact⟨typeIs_int s i t,fun _ e=>nomatch e⟩
 | ref p =>
  cases r
  rcases ty with ⟨rfl,xs,hq⟩ | ⟨rfl,o,hk,hc,hd⟩ | ⟨rfl,hk⟩ | ⟨rfl,S,n,hk⟩
  ·obtain⟨its,_,pl,_⟩:=I.list hq
   refine⟨pl.isList.typeIs,fun a e=>?_⟩
   cases e
   obtain⟨o,n,e,c,hd,_⟩:=pl
   exact⟨o,e,hd⟩
  ·refine⟨⟨o,I.kIn p o hk,hc⟩,fun a e=>?_⟩
   cases e
   exact⟨o,I.kIn _ o hk,hd⟩
  ·have z:∃ o,s.heap.get? p=some o/\o.ExactDict:=by
    rcases hk with ⟨kvs,hk⟩ | ⟨kvs,hk⟩
    ·obtain⟨_,_,_,_,o,_,_,e,ex,_⟩:=I.hok p _ hk
     exact⟨o,e,ex⟩
    ·obtain⟨_,_,_,_,o,_,_,e,ex,_⟩:=I.hok p _ hk
     exact⟨o,e,ex⟩
   obtain⟨o,e,ex⟩:=z
   refine⟨⟨o,e,ex.1⟩,fun a e2=>?_⟩
   cases e2
   exact⟨o,e,ex.2.1⟩
  ·obtain⟨o,_,_,_,e,ex,_⟩:=I.hok p _ hk
   refine⟨⟨o,e,ex.1⟩,fun a e2=>?_⟩
   cases e2
   exact⟨o,e,ex.2.1⟩
 | _=>exact False.elim ty
def zuJ (K:PySem.W.Frag)(T:String)(r:V->List V->Hp->VK->Prop)(to:TE):TE:=fun σ H Q=>to σ H fun x H1=>tyV K T x H1/\r x [] H1 Q
def tBM (K:PySem.W.Frag)(T:String)(r:V->List V->Hp->VK->Prop)(to:TE)(t:TA):TE:=fun σ H Q=>to σ H fun x H1=>tyV K T x H1/\t σ H1 fun xs H2=>r x xs H2 Q
variable {o e:Expr}{es:List Expr}{to:TE}{t:TA}{name:Str}{apos cpos:Pos}{T id:String}{r:V->List V->Hp->VK->Prop}
theorem zsV (pa:PlainAttrs T)(slot:Slot T name id)(hty:typeOf (.builtin id)=pure (.type "method_descriptor"))(hm:MtR X id r)(ho:PE X o to)
  (hbase:attributeBase o name X.env (eval o X.env)=eval o X.env:=by rfl) (hline:(apos.endLine==cpos.line)=true:=by rfl):PE X (.Call (.Attribute o name apos) [] [] cpos) (zuJ X.K T r to):=by
 intro pins s σ H Q I h
 refine wpAny_Call_method0_late hbase hline (thn (ho pins s σ H _ I h) fun v s1 ⟨x,H1,I1,r1,ty,q1⟩=>?_)
 obtain⟨h1,h2⟩:=znW I1 r1 ty
 exact⟨T,id,pa,slot,hty,h1,h2,Calls.callWith_builtin rfl (PySem.evalArgs_none (hm pins s1 σ H1 x [] v [] Q I1 r1 .nil q1))⟩
theorem zt1 (pa:PlainAttrs T)(slot:Slot T name id)(hty:typeOf (.builtin id)=pure (.type "method_descriptor"))(hm:MtR X id r)(ho:PE X o to)(ha:PA X (e::es) t)
    (hbase:attributeBase o name X.env (eval o X.env)=eval o X.env:=by rfl)
    (hfew:((backTo cpos (starEach (e::es) X.env)).all (fun x=>!x.1)&&(backToKw cpos (keywordEach [] X.env)).all (fun x=>x.1.isSome)
     &&decide ((e::es).length+([]:List Keyword).length+(if ([]:List Keyword).isEmpty then 0 else 1)<30))=true:=by rfl)
    (hline:(apos.endLine==cpos.line)=true:=by rfl) (hs:starEach (e::es) X.env=(false,eval e X.env)::starEach es X.env:=by rfl) (hplain:(backTo cpos (starEach es X.env)).any (·.1)=false:=by rfl) :
    PE X (.Call (.Attribute o name apos) (e::es) [] cpos) (tBM X.K T r to t):=by
  intro pins s σ H Q I h
  refine wpAny_Call_method_late hbase hfew hline rfl (thn (ho pins s σ H _ I h) fun v s1 ⟨x,H1,I1,r1,ty,q1⟩=>?_)
  obtain⟨h1,h2⟩:=znW I1 r1 ty
  refine⟨T,id,pa,slot,hty,h1,h2,?_⟩
  have hA:=ha cpos pins s1 σ H1 _ I1 q1
  rw [hs] at hA ⊢
  refine Calls.callWith_builtin (by show (false||(backTo cpos (starEach es X.env)).any (·.1))=false;rw [hplain]<;>rfl) (Calls.evalArgs_plain ?_)
  exact thn hA fun us s2 ⟨vs,H2,I2,r2,q2⟩=>hm pins s2 σ H2 x vs v us Q I2 r1 r2 q2
/- xs.append(e),list.index on a module's tuple .. are MtR facts of 06m -/
end
def MtM (X:Cx)(id:String)(r:V->List V->Hp->VK->Prop):Prop :=
 ∀ (pins:List (Addr×Obj)) (s:Shared) (σ:St) (H:Hp) (x:V) (xs:List V) (v:Value) (us:List Value) (Q:VK),Inv X pins σ H s->RelV x v->Vals xs us->r x xs H Q ->
  wpAny (model X.prog X.w) X.A (call (.builtin id) (v::us)) (EP X pins σ Q) X.xe s
theorem Vals.one:∀ {x:V} {us:List Value},Vals [x] us->∃ u,us=[u]/\RelV x u
 | _,_,.cons r .nil=>⟨_,rfl,r⟩
theorem Vals.zero:∀ {us:List Value},Vals [] us->us=[]
 | _,.nil=>rfl
theorem Vals.eraseIdx:∀ {xs:List V} {us:List Value} (i:Nat),Vals xs us->Vals (xs.eraseIdx i) (us.eraseIdx i)
 | _,_,_,.nil=>.nil
 | _,_,0,.cons _ t=>t
 | _,_,i+1,.cons r t=>.cons r (Vals.eraseIdx i t)
theorem Vals.reverse {xs:List V}{us:List Value}(h:Vals xs us):Vals xs.reverse us.reverse:=by
 induction h with
 | nil=>exact .nil
 | cons r t ih=>rw [List.reverse_cons,List.reverse_cons];exact Vals.append ih (.cons r .nil)
theorem zjI {α:Type}:∀ (l:List α) (i:Nat),(l.eraseIdx i).length<=l.length
 | [],_=>Nat.le_refl _
 | _::_,0=>Nat.le_succ _
 | _::r,i+1=>Nat.succ_le_succ (zjI r i)
section
variable {X:Cx}{pins:List (Addr×Obj)}{σ:St}{H:Hp}{s:Shared}{l b:Addr}{xs ys zs:List V}
theorem Inv.lset {its its':List Value}{n:Nat}{f:Array Value->Array Value}{t':Nat}(I:Inv X pins σ H s)(hH:H l=some (.lst xs))
  (e:s.heap.get? l=some { cls:=.type "list",data:=.seq its.toArray n }) (hf:f its.toArray=its'.toArray) (hv:Vals ys its') (hz:ys.length<=sizeLine) :
  Inv X pins σ (upd H l (.lst ys)) { s with heap:=s.heap.update l (Obj.mapSeq f),toks:=t' }:=by
 have q:=PySem.IsL.update e f
 rw [hf] at q
 refine I.write (x:=l) (e:=l) (by rw [hH];exact trivial) (.inl rfl) (fun b' u hb hu=>(Heap.get?_update_other s.heap (Obj.mapSeq f) (Ne.symm hb)).trans hu) ⟨_,q⟩ ?_
 exact⟨hz,its',_,hv,q⟩
theorem Inv.lnew {its:List Value}{t':Nat}(I:Inv X pins σ H s)(hv:Vals ys its)(hz:ys.length<=sizeLine) :
  Inv X pins σ (upd H s.heap.objs.size (.lst ys)) { s with heap:=s.heap.push { cls:=.type "list",data:=.seq its.toArray },toks:=t' } :=
 I.laid (fun _ _ q=>Heap.get?_push_of_some _ q) (Nat.le_refl _) ⟨hz,its,0,hv,Heap.get?_push_size _ rfl⟩
theorem Inv.fresh (I:Inv X pins σ H s):H s.heap.objs.size=none:=I.hok.fresh (Nat.le_refl _)
theorem Inv.lstM (I:Inv X pins σ H s)(hH:H l=some (.lst xs)):xs.length<=sizeLine/\∃ (its:List Value) (n:Nat),Vals xs its/\xs.length=its.length/\s.heap.get? l=some { cls:=.type "list",data:=.seq its.toArray n }:=by
 obtain⟨z,its,n,r,e⟩:=I.hok l _ hH
 exact⟨z,its,n,r,r.length,e⟩
theorem zkZ {n:Nat}(h:n<=sizeLine):Builtin.List.listTooLong n=false:=by
 unfold Builtin.List.listTooLong
 exact decide_eq_false (by omega)
end
section
variable {X:Cx}
def zl5:V->List V->Hp->VK->Prop:=fun x vs H Q=>∃ l xs y,x=.ref l/\vs=[y]/\H l=some (.lst xs)/\xs.length<sizeLine/\Q .non (upd H l (.lst (xs++[y])))
theorem zjF:MtM X "list.append" zl5:=by
 intro pins s σ H x vs v us Q I rx rv h
 obtain⟨l,xs,y,rfl,rfl,hH,hz,q⟩:=h
 cases rx
 obtain⟨u,rfl,ru⟩:=rv.one
 obtain⟨z,its,n,r,hl,e⟩:=I.lstM hH
 refine call_meets F.slot_list_append ⟨_,e,rfl⟩ F.entry_list_append (F.args_list_append_2 _ _) (PySem.list_append l its.toArray n u (by rw [List.size_toArray];omega)) ⟨e,?_⟩
 refine⟨.non,_,I.lset (its':=its++[u]) hH e (by simp) (r.append (.cons ru .nil)) ?_,rfl,q⟩
 rw [List.length_append,List.length_singleton]
 omega
def zlJ:V->List V->Hp->VK->Prop:=fun x vs H Q=>∃ l b xs zs,x=.ref l/\vs=[.ref b]/\H l=some (.lst xs)/\H b=some (.lst zs)/\xs.length+zs.length<=sizeLine/\Q .non (upd H l (.lst (xs++zs)))
theorem znL:MtM X "list.extend" zlJ:=by
 intro pins s σ H x vs v us Q I rx rv h
 obtain⟨l,b,xs,zs,rfl,rfl,hH,hB,hz,q⟩:=h
 cases rx
 obtain⟨u,rfl,ru⟩:=rv.one
 cases ru
 obtain⟨z,its,n,r,hl,e⟩:=I.lstM hH
 obtain⟨z2,its2,n2,r2,hl2,e2⟩:=I.lstM hB
 have hsz:its.toArray.size+its2.toArray.size<=sizeLine:=by rw [List.size_toArray,List.size_toArray];omega
 have hlong:¬ (!its.toArray.isEmpty&&Builtin.List.listTooLong (its.toArray.size+its2.toArray.size))=true:=by
  rw [zkZ hsz,Bool.and_false]
  exact Bool.false_ne_true
 refine call_meets F.slot_list_extend ⟨_,e,rfl⟩ F.entry_list_extend (F.args_list_extend_2 _ _)
  (AutoSeq1.list_extend_list_list_0 l its.toArray n b its2.toArray n2 hlong (by rw [List.size_toArray];omega) (by omega)) ⟨e,e2,?_⟩
 refine⟨.non,_,I.lset (its':=its++its2) hH e (by simp) (r.append r2) ?_,rfl,q⟩
 rw [List.length_append]
 omega
def zsW:V->List V->Hp->VK->Prop:=fun x vs H Q=>∃ l xs i k y,x=.ref l/\vs=[.int i]/\H l=some (.lst xs)/\-(2 ^ 63)<=i/\i<2 ^ 63/\seqIndex? i xs.length=some k/\xs[k]?=some y/\Q y (upd H l (.lst (xs.eraseIdx k)))
theorem zpA:MtM X "list.pop" zsW:=by
 intro pins s σ H x vs v us Q I rx rv h
 obtain⟨l,xs,i,k,y,rfl,rfl,hH,h1,h2,hk,hy,q⟩:=h
 cases rx
 obtain⟨u,rfl,ru⟩:=rv.one
 obtain⟨t,rfl⟩:=ru
 obtain⟨z,its,n,r,hl,e⟩:=I.lstM hH
 obtain⟨w,hw,rw'⟩:=r.get hy
 refine call_meets F.slot_list_pop ⟨_,e,rfl⟩ F.entry_list_pop (F.args_list_pop_2 _ _)
  (MeetsSeq.list_pop_at l its.toArray n i t k w (fitsIndex_both h1 h2) (by rw [List.size_toArray,<- hl];exact hk) (by rw [<- Array.getElem?_toList];exact hw) (by rw [List.size_toArray];omega)) ⟨e,?_⟩
 refine⟨y,_,I.lset (its':=its.eraseIdx k) hH e ?_ (r.eraseIdx k) ?_,rw',q⟩
 ·show its.toArray.eraseIdxIfInBounds k=(its.eraseIdx k).toArray
  rw [List.eraseIdxIfInBounds_toArray]
 ·have:=zjI xs k
  omega
def zoR:V->List V->Hp->VK->Prop:=fun x vs H Q=>∃ l xs,x=.ref l/\vs=[]/\H l=some (.lst xs)/\Q .non (upd H l (.lst xs.reverse))
theorem zmO:MtM X "list.reverse" zoR:=by
 intro pins s σ H x vs v us Q I rx rv h
 obtain⟨l,xs,rfl,rfl,hH,q⟩:=h
 cases rx
 have hus:=rv.zero
 subst hus
 obtain⟨z,its,n,r,hl,e⟩:=I.lstM hH
 refine call_meets F.slot_list_reverse ⟨_,e,rfl⟩ F.entry_list_reverse (F.args_list_reverse_1 _) (AutoSeq1.list_reverse_list_0 l its.toArray n (by rw [List.size_toArray];omega)) ⟨e,?_⟩
 refine⟨.non,_,I.lset (its':=its.reverse) hH e (by simp) r.reverse ?_,rfl,q⟩
 rw [List.length_reverse]
 omega
end
section
variable {prog:Program}{w:World}{A:Around}{E:Value->Shared->Prop}{s:Shared}
end
section
variable {X:Cx}
end
end L2
namespace Att
open PySem PySem.W PySem.Calls PyProof.Rows
theorem ziJ {P:Params}{h:Heap}:∀ (ns:List Int) (vs:List Value),WellAll P h vs (ns.map WData.int)->IntsAre vs ns:=by
 intro ns
 induction ns with
 | nil =>
  intro vs w
  rw [List.map_nil] at w
  cases w
  exact .nil
 | cons n ns ih =>
  intro vs w
  rw [List.map_cons] at w
  cases w with
  | cons a b =>
   cases a
   exact .cons _ _ (ih _ b)
theorem znO {l:OpenLaw}{n:Nat}(hn:l.most=some n){P:Params}{h:Heap}{args:List WData}{vals:List Value}
  (hpre:l.row.toRowW.claim.pre args=true) (hwl:WellAll P h vals args) :
  ∃ a vs ns,vals=[Value.ref a]/\args=[WData.list (ns.map WData.int)]/\h.get? a=some { cls:=.type "list",data:=.seq vs.toArray }/\IntsAre vs ns/\ns.length<=n:=by
 have hsh:WShape.hasAll [] args [.list .int]=true:=(pre_splitW hpre).1
 have hc:l.pre.holds [] { args:=args }=true:=(pre_splitW hpre).2
 obtain⟨d,r,rfl,h1,h2⟩:=hasAllW_cons hsh
 obtain rfl:=hasAllW_nil h2
 obtain⟨xs,rfl,h3⟩:=hasW_list h1
 obtain⟨ns,rfl⟩:=items_int h3
 have hlen:ns.length<=n:=by
  unfold OpenLaw.pre at hc
  have h4:(WTm.not (.lt (.lit (.int (n:Int))) (.len (.arg 0)))).holds [] { args:=[.list (ns.map .int)] }=true:=by
   have h4:=(holds_andW hc).1
   rw [hn] at h4
   exact h4
  have h5:=condW_of h4 (w_not (w_lt w_lit (w_len_list (w_arg rfl))))
  rw [List.length_map] at h5
  refine Nat.le_of_not_lt fun q=>?_
  have q':(n:Int)<((ns.length:Nat):Int):=by omega
  first
   | (rw [decide_eq_true q'] at h5;exact absurd h5 (by decide))
   | (simp at h5;omega)
 cases hwl with
 | cons w1 w2 =>
  cases w2
  cases w1 with
  | list ho hall=>exact⟨_,_,ns,rfl,rfl,ho,ziJ ns _ hall,hlen⟩
theorem zne (l:OpenLaw)(args:List WData):l.row.toRowW.claim.post args (.bool true) args=true :=
 postW_of (r:=l.row.toRowW) (X:=(true==true))
  (show WShape.has [] (.bool true) .bool=true by first | rfl | decide | simp [WShape.has,WShape.arms,WShape.armsAll])
  (show (WTm.eq .res (.lit (.bool true))).value [] { args:=args,res:=some (.bool true),after:=args }=some (.bool (true==true)) from w_eq_bool (w_res rfl) w_lit) rfl
section
variable {prog:Program}{w:World}{A:Around}{E:Value->Shared->Prop}{s:Shared}{K:Frag}
end
end Att
namespace L2
open PySem PySem.Spec PyProof.Rows
theorem zjL:∀ {vs:List Value} {ns:List Int},IntsAre vs ns->Vals (ns.map V.int) vs
 | _,_,.nil=>.nil
 | _,_,.cons n t h=>.cons ⟨t,rfl⟩ (zjL h)
def Only (H:Hp):Prop:=∀ b,H b=none\/∃ o xs,H b=some (.frz o (.lst xs))
theorem zoU {P:Program}{w:World}{K:PySem.W.Frag}{mg mb:Str->Option Value}{CX:CXT}{k:Nat}{fa a:Addr}{fd:FuncData}{x:Str}{sp:Sp}{s₁:Shared}{vs:List Value}{ns:List Int}
  (KX:K.In s₁.heap) (hns:s₁.heap.Ns mainGlobals mg) (hb:s₁.heap.Ns builtinsNs mb) (hbb:∀ x:Str,x≠"__name__"->mb x=bootBuiltins x) (hlim:s₁.heap.NoLimit) (hg:s₁.gens=#[])
  (ha:s₁.heap.get? a=some { cls:=.type "list",data:=.seq vs.toArray }) (hi:IntsAre vs ns) (hl:ns.length<=sizeLine) (hr:zax k callerA)
  (F:∀ base:Heap,K.In base->base.Ns mainGlobals mg->zW P w K mg base CX k fa fd [x] sp) (hbind:∀ (s:Shared) (u:Value),BindsTo s fd ⟨[u],[]⟩ [(x,u)])
  (hsp:∀ H:Hp,Only H->SqL K H a (ns.map V.int)->sp [.ref a] H (fun v _=>v=.bl true) fun _ _ _=>False)
  (hCX:∀ H e s',CX [] H s₁ (fun _ _ _=>False) e s'->False) :
  codeAny (model P w) callerA (.call (.ref fa) ⟨[.ref a],[]⟩) (fun r s'=>r=.ok (.ret (.bool true))/\OldK s₁.heap s'.heap/\s'.os=s₁.os/\AllBare s'.gens) s₁:=by
 have rv:=zjL hi
 have lenV:=hi.length
 have core:∀ H:Hp,Only H->SqL K H a (ns.map V.int)->HOk P w H s₁.heap->(∀ b,H b≠none->b=a)->(H a≠none->K.lookup a=none) ->
   codeAny (model P w) callerA (.call (.ref fa) ⟨[.ref a],[]⟩) (fun r s'=>r=.ok (.ret (.bool true))/\OldK s₁.heap s'.heap/\s'.os=s₁.os/\AllBare s'.gens) s₁:=by
  intro H hO hS hok hA hK
  have base_of:∀ {b:Addr} {o:Obj},s₁.heap.get? b=some o->H b=none->(zfO s₁.heap H).get? b=some o:=fun e n=>zpp e n
  have noA:∀ {b:Addr} {o:Obj} {es:Array DictEntry} {ep:Nat},s₁.heap.get? b=some o->o.data=.dict es ep->H b=none:=fun {b o es ep} e d=>by
   cases q:H b with
   | none=>rfl
   | some u =>
    have e':b=a:=hA b (by rw [q];simp)
    subst e'
    rw [ha] at e;cases e
    have d':Data.seq vs.toArray _=Data.dict es ep:=d
    cases d'
  have nsK:∀ {b:Addr} {m:Str->Option Value},s₁.heap.Ns b m->(zfO s₁.heap H).Ns b m:=fun {b m} ⟨o,es,ep,e,d,r⟩=>⟨o,es,ep,base_of e (noA e d),d,r⟩
  have hKb:K.In (zfO s₁.heap H):=fun b o e=>base_of (KX b o e) (by
   cases q:H b with
   | none=>rfl
   | some u =>
    have e':b=a:=hA b (by rw [q];simp)
    subst e'
    rw [hK (by rw [q];simp)] at e;cases e)
  have hM:Mod K mg (zfO s₁.heap H):=⟨hKb,nsK hns,⟨mb,nsK hb,hbb⟩,let ⟨mc,h1,h2⟩:=hlim;⟨mc,nsK h1,h2⟩⟩
  have e0:zhO P w K mg (zfO s₁.heap H) callerA [] s₁ H:=⟨rfl,hM,fun b o e=>zq4 e,Nat.le_of_eq (znv _ _),trivial,fun b hb=>absurd (show b∈([]:List Addr) from hb) (by simp),hok,.of_eq hg⟩
  refine codeAny_mono ((F _ hKb (nsK hns)).run callerA [] s₁ H ⟨[.ref a],[]⟩ [.ref a] [.ref a] _ _ hr e0 (hbind s₁ (.ref a)) (.cons rfl .nil) (hsp H hO hS)) fun r s' h=>?_
  cases r with
  | error e=>exact (hCX H e s' h).elim
  | ok fl =>
   cases fl with
   | next=>exact False.elim h
   | brk=>exact False.elim h
   | cont=>exact False.elim h
   | ret u =>
    obtain⟨v,H',os,bare,un,hok',r',q⟩:=h
    have q':v=.bl true:=q
    subst q'
    obtain rfl:u=Value.bool true:=r'
    refine⟨rfl,OldK.of_keep fun b o e=>?_,os,bare⟩
    cases q:H b with
    | none=>exact un.keep b o e q (by intro z;exact absurd (show b∈([]:List Addr) from z) (by simp)) (by simp)
    | some u =>
     rcases hO b with z | ⟨ob,xs,z⟩
     ·rw [q] at z;cases z
     ·have z2:=un.frzs b ob _ z
      obtain⟨e1,_⟩:=hok b _ z
      obtain⟨e2,_⟩:=hok' b _ z2
      rw [e] at e1;cases e1
      exact e2
 cases hk:K.lookup a with
 | some o =>
  have e:=KX a o hk
  rw [ha] at e
  cases e
  refine core (fun _=>none) (fun _=>.inl rfl) (.inr ⟨_,vs.toArray,_,hk,rfl,rfl,rfl,by rw [List.size_toArray,lenV];exact hl,by simpa using rv⟩) (fun b u z=>by have z':(none:Option HO)=some u:=z;cases z') (fun b z=>absurd rfl z) fun z=>absurd rfl z
 | none =>
  refine core (fun b=>if b=a then some (.frz { cls:=.type "list",data:=.seq vs.toArray } (.lst (ns.map V.int))) else none) (fun b=>?_) (.inl (.inr ⟨{ cls:=.type "list",data:=.seq vs.toArray },if_pos rfl⟩)) (fun b u z=>?_) (fun b z=>?_) fun _=>hk
  ·by_cases hb:b=a
   ·exact .inr ⟨_,_,if_pos hb⟩
   ·exact .inl (if_neg hb)
  ·by_cases hb:b=a
   ·have z':=(if_pos hb).symm.trans z
    cases z'
    subst hb
    exact⟨ha,by rw [List.length_map];exact hl,vs,_,rv,ha⟩
   ·have z':=(if_neg hb).symm.trans z
    cases z'
  ·by_cases hb:b=a
   ·exact hb
   ·exact absurd (if_neg hb) z
def inClass (s:Stmt)(j:Nat):Stmt:=match s with
 | .ClassDef _ _ _ body _ _ _ _ _ _ _=>body.getD j (.Pass ⟨0,0,0,0⟩)
 | _=>.Pass ⟨0,0,0,0⟩
def zbw (s:Stmt):Arguments:=match s with
 | .FunctionDef _ a _ _ _ _ _ _ _ _=>a
 | _=>{ posonlyargs:=[],args:=[],vararg:=none,kwonlyargs:=[],kw_defaults:=[],kwarg:=none,defaults:=[] }
def zaZ (s:Stmt):List Stmt:=match s with
 | .FunctionDef _ _ b _ _ _ _ _ _ _=>b
 | _=>[]
def zF (s:Stmt):Scope:=match s with
 | .FunctionDef _ _ _ _ _ _ sc _ _ _=>sc
 | _=>{ kind:=.function,names:=[],isGenerator:=false,isCoroutine:=false }
abbrev CX0:CXT:=fun _ _ _ _ _ _=>False
abbrev E0:XK:=fun _ _ _=>False
theorem zpT {X:Cx}:Passes CX0 X E0:=fun _ _ _ _ _ _ _ h=>h.elim
structure Fun (K:PySem.W.Frag)(x qual:Str)(st:Stmt)(f:Addr)(fd:FuncData):Prop where
 ex:∃ (oc:Value) (od:Option Addr) (kV doc pm:Value) (an:Option Addr) (cdv ct:Value) (osl:Array (Option Value)),
  fd=PySem.W.fnOf x qual (zbw st) (zaZ st) (zF st) .none kV doc pm an cdv ct/\K.lookup f=some ⟨oc,od,.func fd,osl⟩/\PySem.W.codeIn K cdv qual=true
 kp:PySem.W.keepIn K (.ref f)=true
section
variable {P:Program}{w:World}{K:PySem.W.Frag}{mg:Str->Option Value}{base:Heap}
theorem Fun.ok {x qual:Str}{st:Stmt}{f:Addr}{fd:FuncData}{N ps:List Str}{k:Nat}{sp:Sp}(F:Fun K x qual st f fd)(S:zM N ps (zF st))(len:∀ vs H Q E,sp vs H Q E->vs.length=ps.length)
  (hbody:∀ (cdv:Value) (A:Around) (outer:List Env) (s:Shared) (H:Hp) (vs:List V) (Q:VK) (E:XK),zax k (A.deeper (envOfC qual (zF st) s.heap.objs.size f cdv))->sp vs H Q E ->
   ∃ t,PSs (ze2 CX0 P w K mg base N qual (zF st) f cdv A outer s H E).nox (zaZ st) t/\t { nx:=fun _ H'=>Q .non H',rt:=Q } (start N vs) H):zW P w K mg base CX0 (k+1) f fd ps sp:=by
 obtain⟨oc,od,kV,doc,pm,an,cdv,ct,osl,rfl,lk,hcd⟩:=F.ex
 refine zpI lk hcd S len fun A outer s H vs Q E hr hsp=>?_
 obtain⟨t,h,q⟩:=hbody cdv A outer s H vs Q E hr hsp
 exact⟨t,h.nox,q⟩
theorem Fun.binds {x qual:Str}{st:Stmt}{f:Addr}{fd:FuncData}{ps:List Str}(F:Fun K x qual st f fd)
  (h:∀ (kV doc pm:Value) (an:Option Addr) (cdv ct:Value) (us:List Value),us.length=ps.length->bindArgs (PySem.W.fnOf x qual (zbw st) (zaZ st) (zF st) .none kV doc pm an cdv ct) ⟨us,[]⟩=pure (ps.zip us)):Binds K fd ps []:=by
 obtain⟨oc,od,kV,doc,pm,an,cdv,ct,osl,rfl,lk,hcd⟩:=F.ex
 exact .all (h kV doc pm an cdv ct)
theorem zis {x qual:Str}{st:Stmt}{f:Addr}{oc:Value}{od an:Option Addr}{osl:Array (Option Value)}{kV doc pm cdv ct:Value}(l:K.lookup f=some ⟨oc,od,.func (PySem.W.fnOf x qual (zbw st) (zaZ st) (zF st) .none kV doc pm an cdv ct),osl⟩)
  (c:PySem.W.codeIn K cdv qual=true) (k:PySem.W.keepIn K (.ref f)=true):Fun K x qual st f (PySem.W.fnOf x qual (zbw st) (zaZ st) (zF st) .none kV doc pm an cdv ct):=⟨⟨oc,od,kV,doc,pm,an,cdv,ct,osl,rfl,l,c⟩,k⟩
end
theorem zpG {A:Around}{k:Nat}(hr:zax k A):A.units+1<cLine:=Nat.lt_of_le_of_lt (Nat.add_le_add_left (by decide:1<=64) _) hr.units
section
variable {X:Cx}
end
section
variable {κ:Type}[DecidableEq κ]
def zcv (kvs:List (κ×V))(k:κ):Option V:=(kvs.find? fun kv=>decide (kv.1=k)).map (·.2)
def putK (kvs:List (κ×V))(k:κ)(v:V):List (κ×V) :=
 if (kvs.any fun kv=>decide (kv.1=k))=true then kvs.map (fun kv=>if kv.1=k then (kv.1,v) else kv) else kvs++[(k,v)]
theorem zj6 {k:κ}:zcv ([]:List (κ×V)) k=none:=rfl
theorem zey {p:κ×V}{r:List (κ×V)}{k:κ}(e:p.1=k):zcv (p::r) k=some p.2:=by simp [zcv,List.find?_cons,e]
theorem zeB {p:κ×V}{r:List (κ×V)}{k:κ}(e:¬ p.1=k):zcv (p::r) k=zcv r k:=by simp [zcv,List.find?_cons,e]
theorem zfC (k:κ):∀ kvs:List (κ×V),(kvs.any fun kv=>decide (kv.1=k))=(zcv kvs k).isSome
 | []=>rfl
 | p::r=>by
  rw [List.any_cons]
  by_cases e:p.1=k
  ·simp only [zey e,decide_eq_true e,Bool.true_or,Option.isSome_some]
  ·rw [zeB e,decide_eq_false e,Bool.false_or];exact zfC k r
theorem zhy (kvs:List (κ×V))(k:κ)(v:V):(putK kvs k v).length<=kvs.length+1:=by
 unfold putK
 split
 ·rw [List.length_map];omega
 ·rw [List.length_append,List.length_cons,List.length_nil];omega
theorem zdF.isSome_eq {o:Option V}{u:Option Value}(r:zdF o u):o.isSome=u.isSome:=by
 cases o with
 | none=>cases u with
  | none=>rfl
  | some _=>exact (show False from r).elim
 | some _=>cases u with
  | none=>exact (show False from r).elim
  | some _=>rfl
theorem KV.val {kvs:List (κ×V)}{vs:List (κ×Value)}(r:KV kvs vs)(k:κ):zdF (zcv kvs k) (valueAt vs k):=by
 unfold KV at r
 induction r with
 | nil=>exact True.intro
 | @cons p q ps qs h t ih =>
  obtain⟨h1,h2⟩:=h
  by_cases e:p.1=k
  ·have e':q.1=k:=h1.symm.trans e
   have b:valueAt (q::qs) k=some q.2:=by simp [valueAt,List.find?_cons,e']
   rw [zey e,b];exact h2
  ·have e':¬ q.1=k:=fun z=>e (h1.trans z)
   have b:valueAt (q::qs) k=valueAt qs k:=by simp [valueAt,List.find?_cons,e']
   rw [zeB e,b];exact ih
theorem KV.any {kvs:List (κ×V)}{vs:List (κ×Value)}(r:KV kvs vs)(k:κ):(kvs.any fun kv=>decide (kv.1=k))=vs.any fun kv=>decide (kv.1=k):=by
 unfold KV at r
 induction r with
 | nil=>rfl
 | cons h t ih=>rw [List.any_cons,List.any_cons,ih,h.1]
theorem KV.repl {kvs:List (κ×V)}{vs:List (κ×Value)}(r:KV kvs vs)(k:κ){y:V}{u:Value}(ry:RelV y u) :
  KV (kvs.map fun kv=>if kv.1=k then (kv.1,y) else kv) (vs.map fun kv=>if kv.1=k then (kv.1,u) else kv):=by
 unfold KV at r ⊢
 induction r with
 | nil=>exact .nil
 | @cons p q ps qs h t ih =>
  rw [List.map_cons,List.map_cons]
  refine .cons ?_ ih
  obtain⟨h1,h2⟩:=h
  by_cases e:p.1=k
  ·rw [if_pos e,if_pos (h1.symm.trans e)];exact⟨h1,ry⟩
  ·rw [if_neg e,if_neg (fun z=>e (h1.trans z))];exact⟨h1,h2⟩
theorem KV.put {kvs:List (κ×V)}{vs:List (κ×Value)}(r:KV kvs vs)(k:κ){y:V}{u:Value}(ry:RelV y u):KV (putK kvs k y) (stored vs k u):=by
 unfold putK stored
 rw [r.any k]
 by_cases e:(vs.any fun kv=>decide (kv.1=k))=true
 ·rw [if_pos e,if_pos e];exact r.repl k ry
 ·rw [if_neg e,if_neg e];exact Paired.snoc r ⟨rfl,ry⟩
theorem KV.length {kvs:List (κ×V)}{vs:List (κ×Value)}(r:KV kvs vs):kvs.length=vs.length:=Paired.length r
end
theorem zmE {P:Program}{w:World}{k:Key}{u:Value}(r:RelV (kV k) u):(zbn P w).is k u=true:=by
 cases k with
 | inl i=>obtain⟨t,e⟩:=(show ∃ t,u=Value.int i t from r);subst e;exact zll P w i t
 | inr x=>obtain⟨t,e⟩:=(show ∃ t,u=Value.str x t from r);subst e;exact zln P w x t
theorem zjA {P:Program}{w:World}:∀ {ks:List Key} {us:List Value},Vals (ks.map kV) us->ItemsAre (zbn P w) ks us
 | [],_,r=>by rw [List.map_nil] at r;cases r;exact .nil
 | k::ks,_,r=>by
  rw [List.map_cons] at r
  cases r with
  | cons h t=>exact .cons (zmE h) (zjA t)
abbrev KT (H:Hp):List (List Key×V)->List (List Key×Addr×Value)->Prop:=Paired fun p q=>p.1=q.1/\H q.2.1=some (.tup (p.1.map kV))/\RelV p.2 q.2.2
theorem KT.val {H:Hp}{kvs:List (List Key×V)}{xs:List (List Key×Addr×Value)}(r:KT H kvs xs)(k:List Key):zdF (zcv kvs k) ((atKey xs k).map (·.2)):=by
 induction r with
 | nil=>exact True.intro
 | @cons p q ps qs h t ih =>
  obtain⟨h1,_,h2⟩:=h
  by_cases e:p.1=k
  ·have e':q.1=k:=h1.symm.trans e
   have b:atKey (q::qs) k=some q.2:=by simp [atKey,List.find?_cons,e']
   rw [zey e,b];exact h2
  ·have e':¬ q.1=k:=fun z=>e (h1.trans z)
   have b:atKey (q::qs) k=atKey qs k:=by simp [atKey,List.find?_cons,e']
   rw [zeB e,b];exact ih
theorem KT.repl {H:Hp}{kvs:List (List Key×V)}{xs:List (List Key×Addr×Value)}(r:KT H kvs xs)(k:List Key){y:V}{u:Value}(ry:RelV y u) :
  KT H (kvs.map fun kv=>if kv.1=k then (kv.1,y) else kv) (xs.map (putAt k u)):=by
 induction r with
 | nil=>exact .nil
 | @cons p q ps qs h t ih =>
  rw [List.map_cons,List.map_cons]
  refine .cons ?_ ih
  obtain⟨h1,h2,h3⟩:=h
  unfold putAt
  by_cases e:p.1=k
  ·rw [if_pos e,if_pos (h1.symm.trans e)];exact⟨h1,h2,ry⟩
  ·rw [if_neg e,if_neg (fun z=>e (h1.trans z))];exact⟨h1,h2,h3⟩
theorem KT.put {H:Hp}{kvs:List (List Key×V)}{xs:List (List Key×Addr×Value)}(r:KT H kvs xs)(k:List Key){b:Addr}{y:V}{u:Value}(hb:H b=some (.tup (k.map kV)))(ry:RelV y u) :
  KT H (putK kvs k y) (storedH xs k b u):=by
 have e:(kvs.any fun kv=>decide (kv.1=k))=(atKey xs k).isSome:=by
  rw [zfC,(r.val k).isSome_eq,Option.isSome_map]
 unfold putK storedH
 rw [e]
 by_cases q:(atKey xs k).isSome=true
 ·rw [if_pos q,if_pos q];exact r.repl k ry
 ·rw [if_neg q,if_neg q];exact Paired.snoc r ⟨rfl,hb,ry⟩
theorem KT.keeps {H H':Hp}{kvs:List (List Key×V)}{xs:List (List Key×Addr×Value)}(r:KT H kvs xs)(ht:∀ b ys,H b=some (.tup ys)->H' b=some (.tup ys)):KT H' kvs xs :=
 Paired.mapP r fun _ _ z=>⟨z.1,ht _ _ z.2.1,z.2.2⟩
section
variable {P:Program}{w:World}{H:Hp}{h:Heap}{a:Addr}
theorem zpS {u:HO}(ok:HOk P w H h)(e:Rd H a u):zay P w H h a u:=e.ok ok
theorem zmC {kvs:List (Key×V)}(ok:HOk P w H h)(e:Rd H a (.dK kvs)):kvs.length<=sizeLine/\(a==sysModules)=false/\∃ vs,KV kvs vs/\h.DictOf (zbn P w) a vs :=
 show zay P w H h a (.dK kvs) from zpS ok e
theorem zuc {kvs:List (Key×V)}(ok:HOk P w H h)(e:H a=some (.dK kvs)):kvs.length<=sizeLine/\(a==sysModules)=false/\∃ vs,KV kvs vs/\h.DictOf (zbn P w) a vs:=zmC ok (.inl e)
theorem zkx {ks:List Key}(ok:HOk P w H h)(e:H a=some (.tup (ks.map kV))):(tupleKind (zbn P w)).is h ks a:=by
 obtain⟨_,its,r,o,h1,h2,n,h3⟩:=(show zay P w H h a (.tup (ks.map kV)) from ok a _ e)
 exact⟨o,its.toArray,n,h1,h2,h3,by simpa using zjA r⟩
theorem zmw {kvs:List (List Key×V)}(ok:HOk P w H h)(e:Rd H a (.dT kvs)):kvs.length<=sizeLine/\(a==sysModules)=false /\
  ∃ xs,KT H kvs xs/\h.DictOfH (tupleKind (zbn P w)) a xs:=by
 obtain⟨z,y,xs,r,o,es,ep,h1,h2,h3,h4,h5⟩:=(show zay P w H h a (.dT kvs) from zpS ok e)
 refine⟨z,y,xs,r,o,es,ep,h1,h2,h3,h4,fun x hx=>?_,h5⟩
 have all:∀ {l:List (List Key×V)} {m:List (List Key×Addr×Value)},KT H l m->∀ x∈m,(tupleKind (zbn P w)).is h x.1 x.2.1:=by
  intro l m q
  induction q with
  | nil=>intro x hx;exact nomatch hx
  | @cons p q ps qs hq t ih =>
   intro x hx
   rcases List.mem_cons.mp hx with e | hx
   ·subst e
    exact zkx ok (by rw [<- hq.1];exact hq.2.1)
   ·exact ih x hx
 exact all r x hx
theorem ztl {kvs:List (List Key×V)}(ok:HOk P w H h)(e:H a=some (.dT kvs)):kvs.length<=sizeLine/\(a==sysModules)=false /\
  ∃ xs,KT H kvs xs/\h.DictOfH (tupleKind (zbn P w)) a xs:=zmw ok (.inl e)
end
def zfd (H:Hp)(a:Addr)(y:V)(r:Option V):Prop :=
 (∃ kvs k,Rd H a (.dK kvs)/\y=kV k/\r=zcv kvs k)\/∃ kvs k b,Rd H a (.dT kvs)/\y=.ref b/\H b=some (.tup (k.map kV))/\r=zcv kvs k
def zgr (H:Hp)(a:Addr)(y v:V)(H':Hp):Prop :=
 (∃ kvs k,H a=some (.dK kvs)/\y=kV k/\kvs.length<sizeLine/\H'=upd H a (.dK (putK kvs k v))) \/
 ∃ kvs k b,H a=some (.dT kvs)/\y=.ref b/\H b=some (.tup (k.map kV))/\kvs.length<sizeLine/\H'=upd H a (.dT (putK kvs k v))
theorem zfd.k {H:Hp}{a:Addr}{kvs:List (Key×V)}{k:Key}(e:H a=some (.dK kvs)):zfd H a (kV k) (zcv kvs k):=.inl ⟨kvs,k,.inl e,rfl,rfl⟩
theorem zfd.t {H:Hp}{a b:Addr}{kvs:List (List Key×V)}{k:List Key}(e:H a=some (.dT kvs))(eb:H b=some (.tup (k.map kV))):zfd H a (.ref b) (zcv kvs k):=.inr ⟨kvs,k,b,.inl e,rfl,eb,rfl⟩
theorem zgr.k {H:Hp}{a:Addr}{kvs:List (Key×V)}{k:Key}{v:V}(e:H a=some (.dK kvs))(hl:kvs.length<sizeLine):zgr H a (kV k) v (upd H a (.dK (putK kvs k v))):=.inl ⟨kvs,k,e,rfl,hl,rfl⟩
theorem zgr.t {H:Hp}{a b:Addr}{kvs:List (List Key×V)}{k:List Key}{v:V}(e:H a=some (.dT kvs))(eb:H b=some (.tup (k.map kV)))(hl:kvs.length<sizeLine) :
  zgr H a (.ref b) v (upd H a (.dT (putK kvs k v))):=.inr ⟨kvs,k,b,e,rfl,eb,hl,rfl⟩
section
variable {X:Cx}{pins:List (Addr×Obj)}{σ:St}{H:Hp}{s:Shared}{a:Addr}{y v:V}{u r:Value}{o:Option V}{A:Around}{E:Value->Shared->Prop}
theorem Inv.big (I:Inv X pins σ H s):sysModules<s.heap.objs.size:=by
 have h:mainGlobals<s.heap.objs.size:=(I.mod.glob.keeps I.bk).lt
 exact Nat.lt_trans (by decide) h
theorem zop {Q:Value->Shared->Prop}(hu:A.units+1<cLine)(I:Inv X pins σ H s)(g:zfd H a y (some v))(ry:RelV y u)(h:∀ w' s',Inv X pins σ H s'->RelV v w'->Q w' s') :
  wpAny (model X.prog X.w) A (getItem (.ref a) u) Q E s:=by
 rcases g with ⟨kvs,k,e,ey,l⟩ | ⟨kvs,k,b,e,ey,eb,l⟩
 ·subst ey
  obtain⟨z,hd,vs,rel,dd⟩:=zmC I.hok e
  obtain⟨w',hw,rw'⟩:=zdF.some_of (v:=v) (o:=valueAt vs k) (by rw [l];exact rel.val k)
  exact wpAny_getItem_of (zmE ry) dd.mapOf hw (h w' _ (I.tok _) rw')
 ·subst ey
  cases (show u=Value.ref b from ry)
  obtain⟨z,hd,xs,rel,dd⟩:=zmw I.hok e
  obtain⟨w',hw,rw'⟩:=zdF.some_of (v:=v) (o:=(atKey xs k).map (·.2)) (by rw [l];exact rel.val k)
  obtain⟨p,hp,hp2⟩:=Option.map_eq_some_iff.mp hw
  refine wpAny_getItem_heap (tupleKind_room_in1 hu) (zkx I.hok eb) dd hp ?_
  rw [hp2]
  exact h w' _ (I.tok _) rw'
theorem zlN {h':Heap}{t':Nat}{ob:HO}(I:Inv X pins σ H s)(mu:Mut (H a))(hs:Heap.SameBut a s.heap h')(he:∃ q,h'.get? a=some q)(new:zay X.prog X.w (upd H a ob) h' a ob) :
  Inv X pins σ (upd H a ob) { s with heap:=h',toks:=t' } :=
 I.write (x:=a) (e:=a) mu (.inl rfl) (fun b q hb z=>(hs.2 b hb).trans z) he new
theorem zsF {P:Program}{w:World}{H':Hp}{h':Heap}{kvs:List (Key×V)}{vs:List (Key×Value)}(z:kvs.length<=sizeLine)(hd:(a==sysModules)=false)(rel:KV kvs vs)(dd:h'.DictOf (zbn P w) a vs) :
  zay P w H' h' a (.dK kvs):=⟨z,hd,vs,rel,dd⟩
theorem zm8 {H':Hp}{Q:Unit->Shared->Prop}(hu:A.units+1<cLine)(I:Inv X pins σ H s)(g:zgr H a y v H')(ry:RelV y u)(rv:RelV v r)(h:∀ s',Inv X pins σ H' s'->Q () s') :
  wpAny (model X.prog X.w) A (setItem (.ref a) u r) Q E s:=by
 rcases g with ⟨kvs,k,e,ey,l,eH⟩ | ⟨kvs,k,b,e,ey,eb,l,eH⟩
 ·subst ey eH
  obtain⟨z,hd,vs,rel,dd⟩:=zuc I.hok e
  have hz:vs.length<=sizeLine:=by rw [<- rel.length];exact z
  have hl:(putK kvs k v).length<=sizeLine:=by have:=zhy kvs k v;omega
  refine wpAny_setItem_pairs (hsz:=hz) (zmE ry) dd fun h' dd' hs=>h _ ?_
  have he:∃ q,h'.get? a=some q:=let ⟨q,_,_,hq,_⟩:=dd';⟨q,hq⟩
  exact zlN I (by rw [e];exact True.intro) hs he (zsF hl hd (rel.put k rv) dd')
 ·subst ey eH
  cases (show u=Value.ref b from ry)
  obtain⟨z,hd,xs,rel,dd⟩:=ztl I.hok e
  have hz:xs.length<=sizeLine:=by rw [<- Paired.length rel];exact z
  have hl:(putK kvs k v).length<=sizeLine:=by have:=zhy kvs k v;omega
  refine wpAny_setItem_heap (hsz:=hz) (tupleKind_room_in1 hu) (zkx I.hok eb) dd fun h' dd' hs=>h _ ?_
  obtain⟨q,es,ep,hq,h2,h3,h4,_,h5⟩:=dd'
  refine zlN I (by rw [e];exact True.intro) hs ⟨q,hq⟩ ⟨hl,hd,_,(rel.put k eb rv).keeps fun c ys ec=>?_,q,es,ep,hq,h2,h3,h4,h5⟩
  rw [zT (zeg ec e (fun z=>nomatch z))]
  exact ec
end
section
variable {X:Cx}{pins:List (Addr×Obj)}{σ:St}{H:Hp}{s:Shared}{a:Addr}{kvs:List (Key×V)}{k:Key}{u:Value}{A:Around}{E:Value->Shared->Prop}
end
def zow (i:Expr):Prop:=∀ ov iv,subscripted i false ov iv=operate [ov,iv] (getItem ov iv)
theorem zqb {prog:Program}{w:World}{A:Around}{E:Value->Shared->Prop}{s:Shared}{env:Env}{value slice:Expr}{pos:Pos}{T id:String}{Q:Value->Shared->Prop}
  (hl:typeLookup (.type T) "__getitem__"=pure (some (.builtin id))) (hs:zow slice)
  (h:wpAny (model prog w) A (eval value env) (fun o s₁=>wpAny (model prog w) A (eval slice env) (fun i s₂=>s₂.TypeIs o T/\wpAny (model prog w) A (getItem o i) Q E s₂) E s₁) E s) :
  wpAny (model prog w) A (eval (.Subscript value slice pos) env) Q E s:=by
 refine Subscript_ (wpAny_mono h (fun o s₁ h₁=>wpAny_mono h₁ (fun i s₂ h₂=>?_) fun _ _ x=>x) fun _ _ x=>x)
 obtain⟨hT,h₂⟩:=h₂
 unfold subscriptTail
 refine wpAny_bind ?_
 rw [getitemInPython_of_ne hT.not_modules]
 refine wpAny_bind (wpAny_specialOf hT hl ?_)
 have fin:wpAny (model prog w) A (subscripted slice false o i) (fun r s₃=>wpAny (model prog w) A (letTemporaryGo value o r >>= fun _=>pure r) Q E s₃) E s₂:=by
  rw [hs o i]
  exact wpAny_operating (wpAny_mono h₂ (fun r s₃ h₃=>wpAny_bind (wpAny_letTemporaryGo (wpAny_pure h₃))) fun _ _ x=>x)
 first
  | exact wpAny_pure (wpAny_bind fin)
  | exact wpAny_bind (wpAny_pure (wpAny_bind fin))
  | exact wpAny_bind fin
theorem zlh {X:Cx}{pins:List (Addr×Obj)}{σ:St}{H:Hp}{s:Shared}{a:Addr}{y:V}{o:Option V}(I:Inv X pins σ H s)(g:zfd H a y o):s.TypeIs (.ref a) "dict":=by
 rcases g with ⟨kvs,k,e,_,_⟩ | ⟨kvs,k,b,e,_,_,_⟩
 ·obtain⟨_,_,vs,_,dd⟩:=zmC I.hok e
  exact dd.typeIs
 ·obtain⟨_,_,xs,_,dd⟩:=zmw I.hok e
  exact dd.typeIs
def zug (td ty:TE):TE:=fun σ H Q=>td σ H fun x H1=>ty σ H1 fun y H2=>∃ a v,x=.ref a/\zfd H2 a y (some v)/\Q v H2
def zum (td ty tv:TE):TS:=fun D σ H=>tv σ H fun v H1=>td σ H1 fun x H2=>ty σ H2 fun y H3=>∃ a H4,x=.ref a/\zgr H3 a y v H4/\D.nx σ H4
section
variable {X:Cx}{o i e value:Expr}{pos pos' tpos:Pos}{td ty tv:TE}
theorem zqq (hu:X.A.units+1<cLine)(ho:PE X o td)(hi:PE X i ty)(hs:zow i):PE X (.Subscript o i pos) (zug td ty):=by
 intro pins s σ H Q I h
 refine zqb PySem.F.slot_dict_getitem.lookup hs (thn (ho pins s σ H _ I h) fun u s1 ⟨x,H1,I1,rx,q1⟩=>thn (hi pins s1 σ H1 _ I1 q1) fun iv s2 ⟨y,H2,I2,ry,a,v,ex,g,q2⟩=>?_)
 subst ex
 obtain rfl:u=Value.ref a:=rx
 exact⟨zlh I2 g,zop hu I2 g ry fun w' s3 I3 rw'=>⟨v,H2,I3,rw',q2⟩⟩
theorem zql (hu:X.A.units+1<cLine)(ho:PE X o td)(hi:PE X i ty)(hv:PE X value tv)(hs:swapsWith value (some (.Subscript o i pos')) pos.line X.env=pure false) :
  PS X (.Assign [.Subscript o i pos'] value pos) (zum td ty tv):=by
 intro pins s σ H D I h
 refine wpAny_Assign_Subscript (thn (hv pins s σ H _ I h) fun r s1 ⟨v,H1,I1,rv,q1⟩=>thn (ho pins s1 σ H1 _ I1 q1) fun u s2 ⟨x,H2,I2,rx,q2⟩=>thn (hi pins s2 σ H2 _ I2 q2) fun iv s3 ⟨y,H3,I3,ry,a,H4,ex,g,q3⟩=>?_) hs
 subst ex
 obtain rfl:u=Value.ref a:=rx
 exact zm8 hu I3 g ry rv fun s4 I4=>⟨σ,H4,I4,q3⟩
end
theorem zpb {P:Program}{w:World}{H:Hp}(h:Heap)(hb:sysModules<h.objs.size):zay P w H (h.push { cls:=.type "dict",data:=.dict #[] }) h.objs.size (.dK []) :=
 ⟨Nat.zero_le _,beq_eq_false_iff_ne.mpr (Ne.symm (Nat.ne_of_lt hb)),[],.nil,Heap.DictOf.new h⟩
def zry:TE:=fun _ H Q=>∀ p,H p=none->Q (.ref p) (upd H p (.dK []))
section
variable {X:Cx}{pos:Pos}
theorem zoP:PE X (.Dict [] [] pos) zry:=fun pins s σ H Q I h =>
 wpAny_Dict_empty ⟨.ref s.heap.objs.size,_,I.laid (a:=s.heap.objs.size) (o:=.dK []) (t':=s.toks) (fun _ _ q=>Heap.get?_push_of_some _ q) (Nat.le_refl _) (zpb s.heap I.big),rfl,h _ (I.hok.fresh (Nat.le_refl _))⟩
end
section
variable {X:Cx}{pins:List (Addr×Obj)}{σ:St}{H:Hp}{s:Shared}{a:Addr}{y d:V}{u r:Value}{o:Option V}{A:Around}{E:Value->Shared->Prop}
end
section
variable {X:Cx}{o e f:Expr}{apos cpos:Pos}{td ty tx:TE}
end
section
variable {X:Cx}{pins:List (Addr×Obj)}{σ:St}{H:Hp}{s:Shared}{a:Addr}{kvs:List (Key×V)}{A:Around}{E:Value->Shared->Prop}
end
section
variable {X:Cx}{pins:List (Addr×Obj)}{σ:St}{H:Hp}{s:Shared}{a:Addr}{y:V}{u:Value}{A:Around}{E:Value->Shared->Prop}
end
end L2
namespace My
def Bd (n:Nat)(x:Int):Prop:=x.natAbs<2 ^ n
theorem Bd.mono {m n:Nat}{x:Int}(h:Bd m x)(hmn:m<=n):Bd n x:=Nat.lt_of_lt_of_le h (Nat.pow_le_pow_right (by decide) hmn)
theorem Bd.add {n:Nat}{x y:Int}(h:Bd n x)(h':Bd n y):Bd (n+1) (x+y):=by
 unfold Bd at *;rw [Nat.pow_succ];omega
theorem Bd.sub {n:Nat}{x y:Int}(h:Bd n x)(h':Bd n y):Bd (n+1) (x-y):=by
 unfold Bd at *;rw [Nat.pow_succ];omega
theorem Bd.mul {m n:Nat}{x y:Int}(h:Bd m x)(h':Bd n y):Bd (m+n) (x*y):=by
 unfold Bd at *;rw [Int.natAbs_mul,Nat.pow_add];exact Nat.mul_lt_mul'' h h'
theorem Bd.of_le {n:Nat}{x y:Int}(h:Bd n y)(h':x.natAbs<=y.natAbs):Bd n x:=Nat.lt_of_le_of_lt h' h
theorem Bd.dvd {n:Nat}{x y:Int}(h:Bd n y)(h0:y≠0)(d:x ∣ y):Bd n x :=
 h.of_le (Nat.le_of_dvd (by omega) (Int.natAbs_dvd_natAbs.mpr d))
theorem Bd.fdiv {n:Nat}{x y:Int}(h:Bd n x):Bd n (x.fdiv y):=h.of_le (Int.natAbs_fdiv_le_natAbs x y)
theorem Bd.lit {n:Nat}{x:Int}(h:x.natAbs<2 ^ 200)(hn:200<=n):Bd n x:=Bd.mono (m:=200) h hn
theorem zpk (a b:Int):Int.gcd b (a.fmod b)=Int.gcd a b:=by
 have e:a.fmod b=a-b*a.fdiv b:=by have:=Int.mul_fdiv_add_fmod a b;omega
 rw [e,Int.gcd_sub_mul_left_right,Int.gcd_comm]
theorem zlx {a b:Int}(h:b≠0):(a.fmod b).natAbs<b.natAbs:=by
 rcases Int.lt_or_gt_of_ne h with h1 | h1
 ·have e:(-(-a)).fmod (-(-b))=-((-a).fmod (-b)):=Int.neg_fmod_neg (-a) (-b)
  rw [Int.neg_neg,Int.neg_neg] at e
  have h2:=Int.fmod_nonneg_of_pos (-a) (b:=-b) (by omega)
  have h3:=Int.fmod_lt_of_pos (-a) (b:=-b) (by omega)
  omega
 ·have:=Int.fmod_nonneg_of_pos a h1
  have:=Int.fmod_lt_of_pos a h1
  omega
def gd (t b:Int):Int:=if b<0 then -((Int.gcd t b:Nat):Int) else ((Int.gcd t b:Nat):Int)
def frT (t b:Int):Int:=t.fdiv (gd t b)
def frB (t b:Int):Int:=b.fdiv (gd t b)
theorem zp0 {t b:Int}(h:b≠0):gd t b≠0:=by
  have:Int.gcd t b≠0:=fun e=>h (Int.gcd_eq_zero_iff.mp e).2
  unfold gd;split<;>omega
theorem zle (t b:Int):gd t b ∣ t:=by
 unfold gd;split
 ·exact Int.neg_dvd.mpr (Int.gcd_dvd_left ..)
 ·exact Int.gcd_dvd_left ..
theorem zgu (t b:Int):gd t b ∣ b:=by
 unfold gd;split
 ·exact Int.neg_dvd.mpr (Int.gcd_dvd_right ..)
 ·exact Int.gcd_dvd_right ..
theorem zlM (t b:Int):frT t b*gd t b=t:=Int.fdiv_mul_cancel (zle t b)
theorem zjr (t b:Int):frB t b*gd t b=b:=Int.fdiv_mul_cancel (zgu t b)
theorem zpB (t b:Int):frT t b*b=frB t b*t:=by
 have h1:=zlM t b
 have h2:=zjr t b
 generalize frT t b=x at *
 generalize frB t b=y at *
 generalize gd t b=g at *
 subst h1 h2
 rw [Int.mul_comm y g,<- Int.mul_assoc,Int.mul_comm (x*g) y]
theorem zqm {t b:Int}(h:b≠0):1<=frB t b:=by
  have h2:=zjr t b
  have h3:gd t b≠0:=zp0 h
  have h4:0<b->0<gd t b:=by
    intro hb;unfold gd at *;split<;>omega
  have h5:b<0->gd t b<0:=by
    intro hb;unfold gd at *;split<;>omega
  generalize frB t b=y at *
  generalize gd t b=g at *
  rcases Int.lt_or_gt_of_ne h with hb | hb
  · have hg:=h5 hb
    rcases Int.lt_or_le y 1 with hy | hy
    · have:0<=y*g:=Int.mul_nonneg_of_nonpos_of_nonpos (by omega) (by omega)
      omega
    · exact hy
  · have hg:=h4 hb
    rcases Int.lt_or_le y 1 with hy | hy
    · have:y*g<=0:=Int.mul_nonpos_of_nonpos_of_nonneg (by omega) (by omega)
      omega
    · exact hy
theorem zs5 {t b:Int}(h:b≠0):Int.gcd (frT t b) (frB t b)=1:=by
  have h0:0<Int.gcd t b:=Nat.pos_of_ne_zero fun e=>h (Int.gcd_eq_zero_iff.mp e).2
  have h1:=zlM t b
  have h2:=zjr t b
  have e:Int.gcd (frT t b*gd t b) (frB t b*gd t b)=Int.gcd (frT t b) (frB t b)*(gd t b).natAbs:=Int.gcd_mul_right ..
  rw [h1,h2] at e
  have e2:(gd t b).natAbs=Int.gcd t b:=by unfold gd;split<;>omega
  rw [e2] at e
  exact Nat.eq_of_mul_eq_mul_right h0 (by omega)
theorem ztM {n:Nat}{t b:Int}(h:b≠0)(hb:Bd n b):Bd n (gd t b):=hb.dvd h (zgu t b)
theorem zsE {n:Nat}{t b:Int}(hb:Bd n b):Bd n (frB t b):=hb.fdiv
theorem zrP {n:Nat}{t b:Int}(hb:Bd n t):Bd n (frT t b):=hb.fdiv
open PySem PySem.Spec PyProof.Rows L2
def zti (_ j:Int):Prop:=j≠0/\Bd 8000 j
def zte (_ j:Int):Prop:=j≠0
theorem ziI {j:Int}(h:Bd 8000 j):j.natAbs.log2<9000:=by
 rcases Nat.eq_zero_or_pos j.natAbs with e | e
 ·rw [e];decide
 ·have:j.natAbs.log2<8000:=(Nat.log2_lt (Nat.ne_of_gt e)).mpr h
  omega
theorem zik {j:Int}(h:Bd 8000 j):Builtin.Int.intBits j<=2 ^ 20:=by
 unfold Builtin.Int.intBits
 split
 ·exact Nat.zero_le _
 ·have:=ziI h
  omega
section
variable {X:Cx}
theorem zpa:OpR X (binaryOp .FloorDiv) (rI zti fun i j=>.int (i.fdiv j)):=opI fun _ _ _ _ _ _ _ hc q=>floordiv_int hc.1 q (.inl (PyProof.noPylong_of_log2 (ziI hc.2)))
theorem zqr:OpR X (binaryOp .Mod) (rI zte fun i j=>.int (i.fmod j)):=zqy
def rB0 (g:Bool->Bool->V):R2:=fun x y H Q=>∃ i j,x=.bl i/\y=.bl j/\Q (g i j) H
theorem zq8 {i j:Int}{a b:Nat}{p1 p2 pos:Pos}(c:Int)(h:i ^ j.toNat=c)(h0:0<=j/\j<=1000000/\i.natAbs<2 ^ 64):PE X (.BinOp (.Constant (.int i) a p1) .Pow (.Constant (.int j) b p2) pos) (tC (.int c)):=by
 intro pins s σ H Q I q
 have q':Q (.int c) H:=q
 rw [<- h] at q'
 exact zpF zsA zky zky pins s σ H Q I ⟨i,j,rfl,rfl,h0,q'⟩
def zu7:List V->Hp->VK->Prop:=fun xs H Q=>∃ i,xs=[.int i]/\Q (.int (i.natAbs:Int)) H
theorem znS:zaT X (.builtin "abs") zu7:=fun pins s σ H xs us Q I r h=>by
  obtain⟨i,e,q⟩:=h
  refine zoL pins s σ H xs us Q I r ⟨i,e,?_⟩
  have:(if i<0 then -i else i)=(i.natAbs:Int):=by split<;>omega
  rw [this];exact q
def zuD (K:PySem.W.Frag):List V->Hp->VK->Prop:=fun xs H Q=>∃ p ys,xs=[.ref p]/\(SqL K H p ys\/SqT K H p ys)/\Q (.int ys.length) H
theorem zn1:zaT X (.builtin "len") (zuD X.K):=zk3
def ztV (K:PySem.W.Frag):List V->Hp->VK->Prop:=fun xs H Q=>∃ p ys,xs=[.ref p]/\(SqL K H p ys\/SqT K H p ys)/\∀ l,H l=none->Q (.ref l) (upd H l (.lst ys))
theorem zmt:zaT X (.type "list") (ztV X.K):=zkF
def zvj:List V->Hp->VK->Prop:=fun xs H Q=>∃ i j,xs=[.int i,.int j]/\Q (.int (if j > i then j else i)) H
theorem znt (hc:X.calm=true):zaT X (.builtin "max") zvj:=zot hc
def zuB:List V->Hp->VK->Prop:=fun xs H Q=>∃ i j,xs=[.int i,.int j]/\Q (.int (if j<i then j else i)) H
theorem znX (hc:X.calm=true):zaT X (.builtin "min") zuB:=zm5 hc
theorem ztJ {x:Str}{T:String}{pos:Pos}(hg:Gl X x)(hm:X.mg x=none)(hv:bootBuiltins x=some (.type T))(hn:x≠"__name__":=by decide)(hd:(x==("__debug__":Str))=false:=by decide):PE X (.Name x pos) (tC (.ty T)):=zqf (v:=.ty T) hg hm hv rfl hn hd
def zuC (K:PySem.W.Frag):List V->Hp->VK->Prop:=fun xs H Q=>∃ x c t b,xs=[x,.ty c]/\zdD K H x t/\PySem.W.kitOne K t (.type c)=some b/\Q (.bl b) H
theorem zo1:zaT X (.builtin "isinstance") (zuC X.K):=fun pins s σ H xs us Q I r h=>by
 obtain⟨x,c,t,b,rfl,ty,e,q⟩:=h
 obtain⟨u,w',rfl,ru,rw'⟩:=vals2 r
 cases rw'
 exact zok I ru ty e fun tk=>⟨.bl b,H,I.tok _,rfl,q⟩
end
section
variable {X:Cx}{K:PySem.W.Frag}
end
structure Got (P:Program)(w:World)(K:PySem.W.Frag)(mg:Str->Option Value)(base:Heap)(k:Nat)(x:Str)(ps:List Str)(sp:Sp):Prop where
 ex:∃ f fd,zW P w K mg base CX0 k f fd ps sp/\Binds K fd ps []/\PySem.W.keepIn K (.ref f)=true/\mg x=some (.ref f)
theorem zsH {X:Cx}{k j:Nat}{x:Str}{ps:List Str}{sp:Sp}{p pos:Pos}{e:Expr}{es:List Expr}{t:TA}(G:Got X.prog X.w X.K X.mg X.base k x ps sp)(hr:zax j X.A)(hk:k<=j)(hg:Gl X x)
  (ha:PA X (e::es) t) (hdb:(x==("__debug__":Str))=false:=by decide) (he:starEach (e::es) X.env=(false,eval e X.env)::starEach es X.env:=by rfl) (hpl:(backTo pos (starEach es X.env)).any (·.1)=false:=by rfl) :
  PE X (.Call (.Name x p) (e::es) [] pos) (zmT sp [] E0 t):=by
 intro pins s σ H Q I h
 obtain⟨f,fd,F,b,kp,m⟩:=G.ex
 exact zqg (F.mono hk) hr hg m kp b .nil zpT ha hdb he hpl pins s σ H Q I h
section
variable {nx:L2.St->Hp->Prop}{rt:VK}{bk ct:L2.St->Hp->Prop}{σ:L2.St}{H:Hp}{K:PySem.W.Frag}
end
section
variable {σ:L2.St}{H:Hp}{K:PySem.W.Frag}
def zuG:R2:=fun x y H Q=>y=.non/\Q (.bl (decide (x=.non))) H
def ztm:R2:=fun x y H Q=>y=.non/\Q (.bl (!decide (x=.non))) H
theorem zul {X:Cx}:OpR X (compareOp .Is) zuG:=zr4
theorem zrZ {X:Cx}:OpR X (compareOp .IsNot) ztm:=zqk
end
theorem zdO {H:Hp}{p b:Addr}{o u:HO}(hp:H p=none)(h:H b=some u):upd H p o b=some u:=by
 rw [zT (zbg h hp)];exact h
theorem zlp {prog:Program}{w:World}{A:Around}{R:Result->Shared->Prop}{s:Shared}{elt target iter:Expr}{ifs:List Expr}{scope:Scope}{pos:Pos}{it acc:Value}{env:Env}(I:Nat->Shared->Prop)
  (turn:∀ n s,I n s->wpAny (model prog w) A (pyNext it) (fun r s₁=>match r with
   | none=>R (.ok .next) s₁
   | some v=>wpAny (model prog w) A (letOwnedTupleGo target it v) (fun _ s₁'=>wpAny (model prog w) A (assign target env v) (fun _ s₂ =>
     wpAny (model prog w) A (forIn ifs true fun c r=>if r=true then do let ok <- isTrue c env (eval c env);pure (ForInStep.yield ok) else pure (ForInStep.yield r)) (fun ok s₃ =>
      if ok=true then wpAny (model prog w) A (eval elt env) (fun x s₄ =>
       wpAny (model prog w) A (call (.builtin "list.append") [acc,x]) (fun _ s₅=>∃ m,m<n/\I m s₅) (fun _ _=>False) s₄) (fun _ _=>False) s₃
      else ∃ m,m<n/\I m s₃) (fun _ _=>False) s₂) (fun _ _=>False) s₁') (fun _ _=>False) s₁) (fun _ _=>False) s)
  (n:Nat) (h:I n s):codeAny (model prog w) A (.compLoop (.ListComp elt [⟨target,iter,ifs,0⟩] scope pos) 0 it acc env) R s:=by
 refine codeAny_loop rfl I (fun n s hI=>?_) n h
 show wpAny _ A ((compTurn (.ListComp elt [⟨target,iter,ifs,0⟩] scope pos) 0 it acc env).onRaise (fun x=>do noteFrame x env;theTreesLotGoes x)) _ _ s
 refine wpAny_noted ?_
 rw [compTurn_list]
 refine wpAny_bind (wpAny_standAt (wpAny_bind (wpAny_mono (turn n s hI) (fun r s₁ h₁=>?_) fun _ _ h'=>h'.elim)))
 cases r with
 | none=>exact wpAny_pure h₁
 | some v =>
  refine wpAny_bind (wpAny_mono h₁ (fun _ s₁' h₁'=>?_) fun _ _ h'=>h'.elim)
  refine wpAny_bind (wpAny_mono h₁' (fun _ s₂ h₂=>wpAny_bind (wpAny_mono h₂ (fun ok s₃ h₃=>?_) fun _ _ h'=>h'.elim)) fun _ _ h'=>h'.elim)
  cases ok with
  | false=>exact wpAny_pure ⟨rfl,h₃⟩
  | true =>
   exact wpAny_bind (wpAny_bind (wpAny_mono h₃ (fun x s₄ h₄=>wpAny_bind (wpAny_mono h₄ (fun _ s₅ h₅=>wpAny_pure (wpAny_pure ⟨rfl,h₅⟩)) fun _ _ h'=>h'.elim)) fun _ _ h'=>h'.elim))
def inner (X:Cx)(sc:Scope)(N:List Str)(cl:List (Str×Addr))(C:Addr)(s₀:Shared)(H₀:Hp)(ex:List Addr):Cx :=
  { X with N:=N,s₀:=s₀,H₀:=H₀,env:=compEnvC sc cl C X.env,outer:=X.stack,ex:=ex,fn:=fun _=>false,pn:=[] }
def PFs (X:Cx)(ifs:List Expr)(t:TT):Prop :=
 ∀ (pins:List (Addr×Obj)) (s:Shared) (σ:L2.St) (H:Hp) (Q:Bool->Hp->Prop),Inv X pins σ H s->t σ H Q ->
  wpAny (model X.prog X.w) X.A (forIn ifs true fun c r=>if r=true then do let ok <- isTrue c X.env (eval c X.env);pure (ForInStep.yield ok) else pure (ForInStep.yield r)) (TP X pins σ Q) X.xe s
def ztG:TT:=fun _ H Q=>Q true H
theorem zsi {X:Cx}:PFs X [] ztG:=fun _ _ _ H _ I h=>wpAny_tests_nil ⟨H,I,h⟩
theorem zrN {X:Cx}{c:Expr}{t:TT}(h:PT X c t):PFs X [c] t:=fun pins s σ H Q I q=>wpAny_tests_one (h pins s σ H Q I q)
def zgN (X:Cx)(sc:Scope):List Str->List Nat->Prop
 | [],[]=>True
 | x::xs,j::js=>X.N[j]?=some x/\sc.names.lookup x=some .free/\X.env.kindOf x=some .cell/\zgN X sc xs js
 | _,_=>False
def zdR (P:Str->Prop):List (Str×NameKind)->Prop
 | []=>True
 | (n,.free)::r=>P n/\zdR P r
 | _::r=>zdR P r
theorem zdR.of {P:Str->Prop}:∀ {l:List (Str×NameKind)},zdR P l->∀ y∈l,y.2=.free->P y.1
  | (n,k)::r,h,y,hy,e=>by
    rcases List.mem_cons.mp hy with rfl | hy
    · dsimp only at e;subst e;exact h.1
    · refine zdR.of (l:=r) ?_ y hy e
      cases k<;>first | exact h.2 | exact h
def cst (own:List Str)(fv:List Nat)(σ:L2.St):L2.St:=List.replicate own.length none++fv.map fun j=>(σ[j]?).join
def Agr:L2.St->L2.St->Prop
 | [],[]=>True
 | none::r,_::s=>Agr r s
 | some v::r,some w::s=>v=w/\Agr r s
 | _,_=>False
theorem Agr.len:∀ {a b:L2.St},Agr a b->b.length=a.length
  | [],[],_=>rfl
  | none::r,_::s,h=>congrArg (· + 1) (Agr.len (a:=r) (b:=s) h)
  | some v::r,some w::s,h=>congrArg (· + 1) (Agr.len (a:=r) (b:=s) h.2)
theorem Agr.get:∀ {a b:L2.St},Agr a b->∀ (i:Nat) (v:V),a[i]?=some (some v)->b[i]?=some (some v)
 | none::r,_::s,h,i,v,e=>by
  cases i with
  | zero=>simp at e
  | succ i=>simpa using Agr.get (a:=r) (b:=s) h i v (by simpa using e)
 | some v'::r,some w::s,h,i,v,e=>by
  cases i with
  | zero=>simp at e;subst e;simp [h.1]
  | succ i=>simpa using Agr.get (a:=r) (b:=s) h.2 i v (by simpa using e)
def tLC (own:List Str)(fv:List Nat)(wi:TI)(g:TG)(tc:TT)(te:TE):TE:=fun σ H Q=>wi σ H fun J H1=>∀ p,H1 p=none ->
 ∃ W:Nat->Nat->Hp->Prop,(∃ m,W 0 m (upd H1 p (.lst [])))/\∀ i m H2,W i m H2 ->
  (J.stop i H2/\Q (.ref p) H2)\/(J.go i H2/\∀ x H',J.yld i H2 x H'->g x (cst own fv σ) H' fun σ2 H3=>Agr (cst own fv σ) σ2/\tc σ2 H3 fun b H4 =>
   if b=true then te σ2 H4 fun y H5=>∃ ys,H5 p=some (.lst ys)/\ys.length<sizeLine/\∃ m',m'<m/\W (i+1) m' (upd H5 p (.lst (ys++[y])))
   else ∃ m',m'<m/\W (i+1) m' H4)
theorem zlu {env:Env}{n:Str}{c:Addr}(h:env.cells.lookup n=some c):cellOf env n=pure c:=by
 unfold cellOf;rw [h]
theorem zfU {env:Env}:∀ (names:List (Str×NameKind)) (cs:List (Str×Addr)),(∀ y∈names,y.2=.free->∃ c,env.cells.lookup y.1=some c)->(∀ x c,cs.lookup x=some c->env.cells.lookup x=some c) ->
    ∃ cl,(forIn names cs fun (x:Str×NameKind) (r:List (Str×Addr))=>if (x.2==NameKind.free)=true then do let a <- cellOf env x.1;pure (ForInStep.yield ((x.1,a)::r)) else pure (ForInStep.yield r))=(pure cl:Sem (List (Str×Addr))) /\
      (∀ x c,cl.lookup x=some c->env.cells.lookup x=some c)/\(∀ x,(cs.lookup x).isSome=true->(cl.lookup x).isSome=true)/\∀ y∈names,y.2=.free->(cl.lookup y.1).isSome=true
  | [],cs,_,h2=>⟨cs,rfl,h2,fun _ h=>h,fun _ h=>nomatch h⟩
  | (n,k)::r,cs,h1,h2=>by
    rw [List.forIn_cons]
    by_cases hk:k=.free
    · subst hk
      obtain⟨c,hc⟩:=h1 (n,.free) List.mem_cons_self rfl
      obtain⟨cl,e,a1,a2,a3⟩:=zfU (env:=env) r ((n,c)::cs) (fun y hy=>h1 y (List.mem_cons_of_mem _ hy)) (fun x d hx=>by
        rw [List.lookup_cons] at hx
        by_cases hxn:x=n
        · subst hxn;simp at hx;subst hx;exact hc
        · have:(x==n)=false:=by simpa using hxn
          rw [this] at hx;exact h2 x d hx)
      refine⟨cl,?_,a1,fun x hx=>a2 x ?_,fun y hy e'=>?_⟩
      · simp only [beq_self_eq_true,if_true,zlu hc]
        simpa using e
      · rw [List.lookup_cons];split<;>simp_all
      · rcases List.mem_cons.mp hy with rfl | hy
        · exact a2 _ (by simp [List.lookup_cons])
        · exact a3 y hy e'
    · have hb:(k==NameKind.free)=false:=by simpa using hk
      obtain⟨cl,e,a1,a2,a3⟩:=zfU (env:=env) r cs (fun y hy=>h1 y (List.mem_cons_of_mem _ hy)) h2
      refine⟨cl,?_,a1,a2,fun y hy e'=>?_⟩
      · simp only [hb,Bool.false_eq_true,if_false]
        simpa using e
      · rcases List.mem_cons.mp hy with rfl | hy
        · exact absurd e' hk
        · exact a3 y hy e'
theorem ziO {env:Env}{sc:Scope}(h:∀ y∈sc.names,y.2=.free->∃ c,env.cells.lookup y.1=some c) :
  ∃ cl,closureFor sc env=pure cl/\(∀ x c,cl.lookup x=some c->env.cells.lookup x=some c)/\∀ y∈sc.names,y.2=.free->(cl.lookup y.1).isSome=true:=by
 obtain⟨cl,e,a1,_,a3⟩:=zfU (env:=env) sc.names [] h (fun x c hx=>by simp at hx)
 refine⟨cl,?_,a1,a3⟩
 unfold closureFor
 have e2:=e
 first
  | exact e2
  | (show (do let cs <- forIn sc.names [] _;pure cs)=_;rw [show (forIn sc.names [] _:Sem (List (Str×Addr)))=pure cl from e2];rfl)
  | simpa using e2
theorem zdL {env:Env}{x:Str}:∀ {names:List (Str×NameKind)},(names.map fun (n,k)=>if (k==NameKind.free&&env.scope.kind==.function&&env.kindOf n==some .cell) then (n,NameKind.cell) else (n,k)).lookup x =
    (names.lookup x).map fun k=>if (k==NameKind.free&&env.scope.kind==.function&&env.kindOf x==some .cell) then NameKind.cell else k
  | []=>rfl
  | (n,k)::r=>by
    have ih:=zdL (env:=env) (x:=x) (names:=r)
    rw [List.map_cons]
    by_cases hx:x=n
    · subst hx
      dsimp only
      split<;>simp_all [List.lookup_cons]
    · have hb:(x==n)=false:=by simpa using hx
      dsimp only
      split<;>(rw [List.lookup_cons,List.lookup_cons,hb];exact ih)
theorem mem_of_lookup {β:Type}{x:Str}{k:β}:∀ {l:List (Str×β)},l.lookup x=some k->(x,k)∈l
 | (n,b)::r,h=>by
  rw [List.lookup_cons] at h
  by_cases hx:x=n
  ·subst hx;simp at h;subst h;exact List.mem_cons_self
  ·have hb:(x==n)=false:=by simpa using hx
   rw [hb] at h
   exact List.mem_cons_of_mem _ (mem_of_lookup h)
section
variable {X:Cx}{sc:Scope}{tg iter elt:Expr}{ifs:List Expr}{own free:List Str}{fv:List Nat}{wi:TI}{g:TG}{tc:TT}{te:TE}{pos:Pos}
theorem zpR {σ:L2.St}:∀ {free:List Str} {fv:List Nat},zgN X sc free fv->∀ (k:Nat) (x:Str) (v:V),free[k]?=some x->(fv.map fun j=>(σ[j]?).join)[k]?=some (some v) ->
  ∃ j:Nat,X.N[j]?=some x/\σ[j]?=some (some v)/\sc.names.lookup x=some .free/\X.env.kindOf x=some .cell
 | x'::xs,j::js,h,k,x,v,e1,e2=>by
  cases k with
  | zero =>
   simp at e1 e2
   subst e1
   refine⟨j,h.1,?_,h.2.1,h.2.2.1⟩
   cases q:σ[j]? with
   | none=>rw [q] at e2;simp at e2
   | some o=>rw [q] at e2;simp at e2;rw [e2]
  | succ k=>exact zpR (free:=xs) (fv:=js) h.2.2.2 k x v (by simpa using e1) (by simpa using e2)
 | [],[],_,k,x,v,e1,_=>by simp at e1
theorem znn:∀ {free:List Str} {fv:List Nat},zgN X sc free fv->fv.length=free.length
  | [],[],_=>rfl
  | _::_,_::_,h=>congrArg (· + 1) (znn h.2.2.2)
theorem ziE {RR:Value->Addr->Result->Shared->Prop}(hcalm:X.calm=true)(hxe:X.xe=fun _ _=>False)(hkind:sc.kind=.function)(hcell:∀ y∈sc.names,y.2≠.cell)
    (hfr:zdR (fun x=>X.env.kindOf x=some .cell) sc.names) (hfv:zgN X sc free fv)
    (hg:∀ cl C s₀ H₀ ex,PG (inner X sc (own++free) cl C s₀ H₀ ex) tg g) (ht:∀ cl C s₀ H₀ ex,PFs (inner X sc (own++free) cl C s₀ H₀ ex) ifs tc) (he:∀ cl C s₀ H₀ ex,PE (inner X sc (own++free) cl C s₀ H₀ ex) elt te)
    {pins:List (Addr×Obj)} {s2:Shared} {σ:L2.St} {H2:Hp} {it:Addr} {fp:List Addr} {tn:Nat->Heap->Prop} {J:It} {Q:VK} (I2:Inv X pins σ H2 s2) (T:Turn X.prog X.w X.K tg J fp it tn) (st2:tn 0 s2.heap) (f2:∀ b∈fp,zes X pins H2 b)
    (h:∀ p,H2 p=none->∃ W:Nat->Nat->Hp->Prop,(∃ m,W 0 m (upd H2 p (.lst [])))/\∀ i m H2,W i m H2 ->
      (J.stop i H2/\Q (.ref p) H2)\/(J.go i H2/\∀ x H',J.yld i H2 x H'->g x (cst own fv σ) H' fun σ2 H3=>Agr (cst own fv σ) σ2/\tc σ2 H3 fun b H4 =>
        if b=true then te σ2 H4 fun y H5=>∃ ys,H5 p=some (.lst ys)/\ys.length<sizeLine/\∃ m',m'<m/\W (i+1) m' (upd H5 p (.lst (ys++[y])))
        else ∃ m',m'<m/\W (i+1) m' H4))
    {cl:List (Str×Addr)} (hcl1:∀ x c,cl.lookup x=some c->X.env.cells.lookup x=some c) (hcl2:∀ y∈sc.names,y.2=.free->(cl.lookup y.1).isSome=true)
    (hRR:∀ (p C:Addr) (m:Str->Option Value) (H':Hp) (s':Shared),s'.heap.Ns C m->Inv X pins σ H' s'->H' C=none->C≠X.env.locals->X.s₀.heap.objs.size<=C->(∀ x c,X.env.cells.lookup x=some c->c≠C)->(∀ q∈X.pn++pins,q.1≠C)->Q (.ref p) H' ->
      RR (.ref p) C (.ok .next) s') :
    wpAny (model X.prog X.w) X.A (newList []) (fun acc s3=>wpAny (model X.prog X.w) X.A (newFunctionEnv sc X.env.globals cl [] X.env.qual none .none (some X.env)) (fun cenv s4 =>
      codeAny (model X.prog X.w) X.A (.compStart (.ListComp elt [⟨tg,iter,ifs,0⟩] sc pos) 0 (.ref it) acc { cenv with scope:=relabel sc X.env }) (RR acc cenv.locals) s4) X.xe s3) X.xe s2:=by
  rw [hxe]
  refine wpAny_newObj_type ?_
  have I3:Inv X pins σ (upd H2 s2.heap.objs.size (.lst [])) { s2 with heap:=s2.heap.push { cls:=.type "list",data:=.seq ([]:List Value).toArray } }:=I2.lnew (t':=s2.toks) .nil (Nat.zero_le _)
  generalize hs3:({ s2 with heap:=s2.heap.push { cls:=.type "list",data:=.seq ([]:List Value).toArray } }:Shared)=s3 at I3 ⊢
  have hp:H2 s2.heap.objs.size=none:=I2.fresh
  obtain⟨W,⟨m0,w0⟩,turn⟩:=h s2.heap.objs.size hp
  generalize hH3:upd H2 s2.heap.objs.size (.lst [])=H3 at I3 w0 ⊢
  have hk3:∀ b o,s2.heap.get? b=some o->s3.heap.get? b=some o:=fun b o e=>by rw [<- hs3];exact Heap.get?_push_of_some _ e
  have hz3:s3.heap.objs.size=s2.heap.objs.size+1:=by rw [<- hs3];exact Heap.size_push ..
  have st3:tn 0 s3.heap:=T.keep _ _ _ st2 fun b _ o e=>hk3 b o e
  have hfpo:∀ b∈fp,∃ o,s3.heap.get? b=some o:=fun b hb=>let ⟨o,e,_⟩:=T.obj _ _ st3 b hb;⟨o,e⟩
  have hfpn:∀ b∈fp,b≠s2.heap.objs.size:=fun b hb e=>by
    obtain⟨o,e',_⟩:=T.obj _ _ st2 b hb
    have:=Heap.lt_size e'
    rw [e] at this;exact Nat.lt_irrefl _ this
  have f3:∀ b∈fp,H3 b=none:=fun b hb=>by rw [<- hH3,zT (hfpn b hb)];exact (f2 b hb).1
  refine wpAny_newFunctionEnv hcell (by intro y hy;simp at hy) (fun h1 hns1 hsb1=>?_) hkind
  have hC0:H3 s3.heap.objs.size=none:=I3.fresh
  have old:∀ b o,s3.heap.get? b=some o->h1.get? b=some o:=fun b o e=>hsb1.extBut b o (Nat.ne_of_lt (Heap.lt_size e)) (Heap.get?_push_of_some _ e)
  have hlow:X.s₀.heap.objs.size<=s3.heap.objs.size:=I3.sz
  have hloc:X.env.locals<s3.heap.objs.size:=I3.lt
  have hcells:∀ x c,X.env.cells.lookup x=some c->c<s3.heap.objs.size:=fun x c e=>by
    obtain⟨v,o,ho,_⟩:=I3.cell x c e
    exact Heap.lt_size ho
  have YOk:(inner X sc (own++free) cl s3.heap.objs.size s3 H3 fp).Ok:={
    mod:=I3.ok.mod
    kind:=by show (relabel sc X.env).kind=.function;exact hkind
    glob:=I3.ok.glob
    blt:=I3.ok.blt
    above:=Nat.le_refl _
    inj:=fun x y c hx hy=>I3.ok.inj x y c (hcl1 x c hx) (hcl1 y c hy)
    has:=fun x hx=>by
      have e : (sc.names.lookup x).map (fun k => if (k == NameKind.free && X.env.scope.kind == .function && X.env.kindOf x == some .cell) then NameKind.cell else k) = some .cell ∨
          (sc.names.lookup x).map (fun k=>if (k==NameKind.free&&X.env.scope.kind==.function&&X.env.kindOf x==some .cell) then NameKind.cell else k)=some .free:=by
        have:=@zdL X.env x sc.names
        rcases hx with hx | hx
        · exact .inl (this.symm.trans hx)
        · exact .inr (this.symm.trans hx)
      cases q:sc.names.lookup x with
      | none=>rw [q] at e;simp at e
      | some k =>
        have hm:=mem_of_lookup q
        by_cases hkf:k=.free
        · subst hkf
          exact Option.isSome_iff_exists.mp (hcl2 (x,.free) hm rfl)
        · have hkc:k≠.cell:=hcell (x,k) hm
          rw [q] at e
          have hb:(k==NameKind.free)=false:=by simpa using hkf
          simp only [Option.map_some,hb,Bool.false_and,Bool.false_eq_true,if_false,Option.some.injEq] at e
          rcases e with e | e
          · exact absurd e hkc
          · exact absurd e hkf
    cab:=fun x c hx=>by cases hx
    hd:=I3.ok.hd
    frames:=I3.ok.frames
    stk:=.inl rfl
    exf:=fun b hb=>⟨fun e=>by obtain⟨o,e'⟩:=hfpo b hb;have:=Heap.lt_size e';rw [e] at this;exact Nat.lt_irrefl _ this,fun x c hx=>(f2 b hb).2.2.2.2.1 x c (hcl1 x c hx)⟩
    bs:=I3.bs
    bsz:=Nat.le_trans I3.ok.bsz I3.sz
    noex:=fun b o hb hm=>by
      rcases (f2 b hm).2.2.2.1 with hx | hx
      · exact I3.ok.noex b o hb hx
      · exact Nat.lt_irrefl _ (Nat.lt_of_lt_of_le (Nat.lt_of_lt_of_le (Heap.lt_size hb) I3.ok.bsz) hx)
    exfs:=fun b hb hm=>by
      rcases List.mem_cons.mp (I3.stkSub b hm) with e | e
      · exact (f2 b hb).2.1 e
      · exact (f2 b hb).2.2.1 e
    funs:=I3.stack
    frf:=I3.stkFree }
  have hlen0:(cst own fv σ).length=(own++free).length:=by
    unfold cst;rw [List.length_append,List.length_append,List.length_replicate,List.length_map,znn hfv]
  have I4:∀ tk,Inv (inner X sc (own++free) cl s3.heap.objs.size s3 H3 fp) [] (cst own fv σ) H3 { s3 with heap:=h1,toks:=tk }:=fun tk=>{
    ok:=YOk
    os:=rfl
    bare:=I3.bare
    base:=Un.kept old
    loc:=by
      refine⟨_,hns1,fun i x v hN hσ _=>?_⟩
      have hN':(own++free)[i]?=some x:=hN
      have hσ':(List.replicate own.length none++fv.map fun j=>(σ[j]?).join)[i]?=some (some v):=hσ
      by_cases hi:i<own.length
      · rw [List.getElem?_append_left (by rw [List.length_replicate];exact hi)] at hσ'
        rw [List.getElem?_replicate] at hσ'
        split at hσ'<;>simp at hσ'
      · rw [List.getElem?_append_right (by omega)] at hN'
        rw [List.getElem?_append_right (by rw [List.length_replicate];omega),List.length_replicate] at hσ'
        obtain⟨j,hj,hσj,hsx,hkx⟩:=zpR hfv _ x v hN' hσ'
        obtain⟨m,_,hall⟩:=I3.loc
        obtain⟨u,ru,lk⟩:=hall j x v hj hσj (.inr (.inl hkx))
        refine⟨u,ru,.inr ⟨?_,?_⟩⟩
        · have:=@zdL X.env x sc.names
          rw [hsx] at this
          have e2:Env.kindOf (inner X sc (own++free) cl s3.heap.objs.size s3 H3 fp).env x=(sc.names.map fun (n,k)=>if (k==NameKind.free&&X.env.scope.kind==.function&&X.env.kindOf n==some .cell) then (n,NameKind.cell) else (n,k)).lookup x:=rfl
          rw [e2,this]
          simp only [Option.map_some]
          split
          · exact .inl rfl
          · exact .inr rfl
        · rcases lk with ⟨hl,_⟩ | ⟨_,c,hc,hcell'⟩
          · rw [hkx] at hl;cases hl
          · obtain⟨c',hc'⟩:=Option.isSome_iff_exists.mp (hcl2 (x,.free) (mem_of_lookup hsx) rfl)
            have:=hcl1 x c' hc'
            rw [hc] at this
            cases this
            refine⟨c,hc',?_⟩
            obtain⟨o,ho,hd⟩:=hcell'
            exact⟨o,old _ _ ho,hd⟩
    cell:=fun x c hx=>by
      obtain⟨v,o,ho,hd⟩:=I3.cell x c (hcl1 x c hx)
      exact⟨v,o,old _ _ ho,hd⟩
    free:=hC0
    freeC:=fun x c hx=>I3.freeC x c (hcl1 x c hx)
    pin:=fun q hq=>nomatch hq
    hok:=I3.hok.kept old
    len:=hlen0 }
  have back:∀ (m:Str->Option Value) (H':Hp) (s':Shared),s'.heap.Ns s3.heap.objs.size m->Inv (inner X sc (own++free) cl s3.heap.objs.size s3 H3 fp) [] (cst own fv σ) H' s'->Q (.ref s2.heap.objs.size) H'->RR (.ref s2.heap.objs.size) s3.heap.objs.size (.ok .next) s':=fun m H' s' hm IY q=>by
    have u1:Un (frs X.stack) fp H3 H' s3.heap s'.heap:=IY.base
    have IX:Inv X pins σ H' s':=I3.call' (ch:=fp) (IY.os) u1 IY.hok IY.bare fun b hb=>⟨(f2 b hb).2.2.2.1,(f2 b hb).2.1,(f2 b hb).2.2.2.2.1,(f2 b hb).2.2.2.2.2⟩
    refine hRR _ _ m H' s' hm IX IY.free (Nat.ne_of_gt hloc) hlow (fun x c hx=>Nat.ne_of_lt (hcells x c hx)) (fun q' hq=>?_) q
    have:=(I3.pin q' hq).1
    exact Nat.ne_of_lt (Heap.lt_size this)
  have stat:∀ {H':Hp},(∀ b∈fp,H' b=none)->∀ b∈fp,zes (inner X sc (own++free) cl s3.heap.objs.size s3 H3 fp) [] H' b:=fun hn b hb =>
    ⟨hn b hb,(YOk.exf b hb).1,YOk.exfs b hb,.inl hb,(YOk.exf b hb).2,fun q hq=>nomatch hq⟩
  have hYxe:(inner X sc (own++free) cl s3.heap.objs.size s3 H3 fp).xe=fun _ _=>False:=hxe
  have loop:∀ tk,codeAny (model X.prog X.w) X.A (.compLoop (.ListComp elt [⟨tg,iter,ifs,0⟩] sc pos) 0 (.ref it) (.ref s2.heap.objs.size) (compEnvC sc cl s3.heap.objs.size X.env)) (RR (.ref s2.heap.objs.size) s3.heap.objs.size) { s3 with heap:=h1,toks:=tk }:=fun tk=>by
    refine zlp (fun n s'=>∃ i H',Inv (inner X sc (own++free) cl s3.heap.objs.size s3 H3 fp) [] (cst own fv σ) H' s'/\tn i s'.heap/\(∀ b∈fp,H' b=none)/\W i n H') ?_ m0 ⟨0,H3,I4 tk,T.keep _ _ _ st3 (fun b _ o e=>old b o e),f3,w0⟩
    rintro n s5 ⟨i,H5,I5,st5,fr5,w5⟩
    rcases turn i n H5 w5 with ⟨stop,q⟩ | ⟨go,step⟩
    · refine thn (T.done (inner X sc (own++free) cl s3.heap.objs.size s3 H3 fp) rfl rfl rfl hcalm i [] s5 _ H5 _ I5 (stat fr5) st5 stop) fun r s6 ⟨hr,I6⟩=>?_
      subst hr
      obtain⟨m,hm,_⟩:=I6.loc
      exact back m H5 s6 hm I6 q
    · refine thn (T.item (inner X sc (own++free) cl s3.heap.objs.size s3 H3 fp) rfl rfl rfl hcalm i [] s5 _ H5 _ I5 (stat fr5) st5 go) fun r s6 ⟨u,hr,h6⟩=>?_
      subst hr
      refine thn h6 fun _ s7 ⟨x,H7,I7,r7,y7,st7,fr7⟩=>?_
      have I7':=I7.pinned (stat fr7) (T.obj _ _ st7)
      have hg':=hg cl s3.heap.objs.size s3 H3 fp _ s7 _ H7 x u _ I7' r7 (step x H7 y7)
      have ht':=ht cl s3.heap.objs.size s3 H3 fp
      have he':=he cl s3.heap.objs.size s3 H3 fp
      have ap:MtM (inner X sc (own++free) cl s3.heap.objs.size s3 H3 fp) "list.append" zl5:=zjF
      unfold PFs at ht'
      unfold PE at he'
      unfold MtM at ap
      rw [hYxe] at hg' ht' he' ap
      have again : ∀ {pl : List (Addr × Obj)} {σ8 : L2.St} {H8 : Hp} {s8 : Shared}, pl = zgC fp s7.heap → Inv (inner X sc (own ++ free) cl s3.heap.objs.size s3 H3 fp) ([] ++ pl) σ8 H8 s8 → Agr (cst own fv σ) σ8 → (∃ m', m' < n ∧ W (i + 1) m' H8) →
          ∃ m,m<n/\∃ i H',Inv (inner X sc (own++free) cl s3.heap.objs.size s3 H3 fp) [] (cst own fv σ) H' s8/\tn i s8.heap/\(∀ b∈fp,H' b=none)/\W i m H':=fun {pl σ8 H8 s8} hpl I8 ag ⟨m',hm,w8⟩=>by
        subst hpl
        refine⟨m',hm,i+1,H8,(I8.unpinned).weak ag.len.symm (fun j v e=>ag.get j v e),T.keep _ _ _ st7 fun b hb o e=>(I8.pin (b,o) (List.mem_append_right _ (List.mem_append_right _ (zec hb e)))).1,fun b hb=>?_,w8⟩
        obtain⟨o,e,d⟩:=T.obj _ _ st7 b hb
        exact (I8.pin (b,o) (List.mem_append_right _ (List.mem_append_right _ (zec hb e)))).2.1
      refine thn hg' fun _ s8 ⟨σ8,H8,I8,ag,q8⟩=>?_
      refine thn (ht' _ s8 σ8 H8 _ I8 q8) fun b s9 ⟨H9,I9,q9⟩=>?_
      cases b with
      | false =>
        rw [if_neg Bool.false_ne_true] at q9 ⊢
        exact again rfl I9 ag q9
      | true =>
        rw [if_pos rfl] at q9 ⊢
        refine thn (he' _ s9 σ8 H9 _ I9 q9) fun y s10 ⟨yv,H10,I10,ry,ys,hy,hlt,q10⟩=>?_
        refine thn (ap _ s10 σ8 H10 (.ref s2.heap.objs.size) [yv] (.ref s2.heap.objs.size) [y] (fun v H'=>v=.non/\H'=upd H10 s2.heap.objs.size (.lst (ys++[yv]))) I10 rfl (.cons ry .nil) ⟨_,ys,yv,rfl,rfl,hy,hlt,rfl,rfl⟩) fun z s11 ⟨v11,H11,I11,_,_,e11⟩=>?_
        subst e11
        exact again rfl I11 ag q10
  refine codeAny_compStart_list (loop _) (T.self _ 0 _ _ _ (T.keep _ _ _ st3 fun b _ o e=>old b o e) (loop _))
theorem zuj (hcalm:X.calm=true)(hxe:X.xe=fun _ _=>False)(hkind:sc.kind=.function)(hcell:∀ y∈sc.names,y.2≠.cell)(hnames:∀ y∈sc.names,y.2=.local->sc.names.lookup y.1=some .local)
  (hfr:zdR (fun x=>X.env.kindOf x=some .cell) sc.names) (hfv:zgN X sc free fv) (hi:PI X tg iter wi)
  (hg:∀ cl C s₀ H₀ ex,PG (inner X sc (own++free) cl C s₀ H₀ ex) tg g) (ht:∀ cl C s₀ H₀ ex,PFs (inner X sc (own++free) cl C s₀ H₀ ex) ifs tc) (he:∀ cl C s₀ H₀ ex,PE (inner X sc (own++free) cl C s₀ H₀ ex) elt te)
  (hs:∀ x,foldedSetIterable iter X.env x=pure x:=by intro _;rfl):PE X (.ListComp elt [⟨tg,iter,ifs,0⟩] sc pos) (tLC own fv wi g tc te):=by
 intro pins s σ H Q I q
 obtain⟨cl,hclos,hcl1,hcl2⟩:=ziO (env:=X.env) (sc:=sc) fun y hy e=>I.ok.has y.1 (.inl (hfr.of y hy e))
 rw [eval_ListComp]
 refine wpAny_comprehension_free (use:=none) rfl hs hclos hkind hnames (thn (hi pins s σ H _ I q) fun v s1 h1=>thn h1 fun itv s2 h2=>?_)
 obtain⟨it,fp,tn,J,H2,e,I2,T,st2,f2,q2⟩:=h2
 subst e
 refine ziE (RR:=fun acc C=>compPost (model X.prog X.w) X.A X.xe none (EP X pins σ Q) acc C) hcalm hxe hkind hcell hfr hfv hg ht he I2 T st2 f2 q2 hcl1 hcl2 ?_
 intro p C m H' s' hm I' hC hCl hC0 hCc hCp q'
 exact⟨m,hm,fun h' hs'=>⟨.ref p,H',I'.turned (t':=s'.toks) (fun b o hb e=>hs'.extBut b o hb e) hC hCl (.inr hC0) hCc hCp,rfl,q'⟩⟩
theorem zqA {i:Nat}{y:Str}{py spos:Pos}(hN:X.N.Nodup)(hy:X.N[i]?=some y)(hyl:X.env.scope.names.lookup y=some .local)(hcalm:X.calm=true)(hxe:X.xe=fun _ _=>False)(hkind:sc.kind=.function)(hcell:∀ y∈sc.names,y.2≠.cell)(hnames:∀ y∈sc.names,y.2=.local->sc.names.lookup y.1=some .local)
  (hfr:zdR (fun x=>X.env.kindOf x=some .cell) sc.names) (hfv:zgN X sc free fv) (hi:PI X tg iter wi)
  (hg:∀ cl C s₀ H₀ ex,PG (inner X sc (own++free) cl C s₀ H₀ ex) tg g) (ht:∀ cl C s₀ H₀ ex,PFs (inner X sc (own++free) cl C s₀ H₀ ex) ifs tc) (he:∀ cl C s₀ H₀ ex,PE (inner X sc (own++free) cl C s₀ H₀ ex) elt te)
  (hsw:swapsWith (.ListComp elt [⟨tg,iter,ifs,0⟩] sc pos) (some (.Name y py)) spos.line X.env=pure true:=by rfl)
  (hs:∀ x,foldedSetIterable iter X.env x=pure x:=by intro _;rfl):PS X (.Assign [.Name y py] (.ListComp elt [⟨tg,iter,ifs,0⟩] sc pos) spos) (zoA (tLC own fv wi g tc te) (zB i)):=by
 intro pins s σ H D I q
 obtain⟨cl,hclos,hcl1,hcl2⟩:=ziO (env:=X.env) (sc:=sc) fun y hy e=>I.ok.has y.1 (.inl (hfr.of y hy e))
 rw [exec_Assign_Name_used _ _ _ _ hsw]
 refine wpAny_bind (wpAny_standAt (wpAny_bind ?_))
 show wpAny _ X.A (do let _ <- comprehension (.ListComp elt [⟨tg,iter,ifs,0⟩] sc pos) sc X.env _ (newList []) false (eval iter X.env) (some (assign (.Name y py) X.env))) _ _ s
 refine wpAny_bind (wpAny_mono (wpAny_comprehension_free (use:=some (assign (.Name y py) X.env)) (Q:=fun _ s'=>SP X pins D .next s') rfl hs hclos hkind hnames
  (thn (hi pins s σ H _ I q) fun v s1 h1=>thn h1 fun itv s2 h2=>?_)) (fun _ s' hq=>wpAny_pure (wpAny_pure hq)) fun _ _ e=>e)
 obtain⟨it,fp,tn,J,H2,e,I2,T,st2,f2,q2⟩:=h2
 subst e
 refine ziE (RR:=fun acc C=>compPost (model X.prog X.w) X.A X.xe (some (assign (.Name y py) X.env)) (fun _ s'=>SP X pins D .next s') acc C) (Q:=fun x H1=>zB i x σ H1 D.nx) hcalm hxe hkind hcell hfr hfv hg ht he I2 T st2 f2 q2 hcl1 hcl2 ?_
 intro p C m H' s' hm I' hC hCl hC0 hCc hCp q'
 show wpAny _ X.A (assign (.Name y py) X.env (.ref p)) _ _ _
 refine wpAny_assign_Name (zjD (v:=.ref p) I' hN hy (.inl hyl) rfl (fun s'' I'' hsb=>?_) (.inr hyl))
 obtain⟨a,hsb,ha⟩:=hsb
 have hCa:C≠a:=by
  rcases ha with rfl | ha
  ·exact hCl
  ·exact fun e=>hCc _ _ ha e.symm
 refine⟨m,hm.sameBut hsb hCa,fun h' hs'=>⟨_,H',I''.turned (t':=s''.toks) (fun b o hb e=>hs'.extBut b o hb e) hC hCl (.inr hC0) hCc hCp,q'⟩⟩
end
section
variable {σ:L2.St}{H:Hp}{K:PySem.W.Frag}
end
section
variable {X:Cx}{tg:Expr}
end
mutual
inductive Dt (K:PySem.W.Frag)(H:Hp):V->PyData->Prop
 | non:Dt K H .non .none
 | bl (b:Bool):Dt K H (.bl b) (.bool b)
 | int (i:Int):Dt K H (.int i) (.int i)
 | tup {a:Addr} {xs:List V} {ds:List PyData}:SqT K H a xs->ziu K H xs ds->Dt K H (.ref a) (.tuple ds)
 | lst {a:Addr} {xs:List V} {ds:List PyData}:SqL K H a xs->ziu K H xs ds->Dt K H (.ref a) (.list ds)
inductive ziu (K:PySem.W.Frag)(H:Hp):List V->List PyData->Prop
 | nil:ziu K H [] []
 | cons {x:V} {xs:List V} {d:PyData} {ds:List PyData}:Dt K H x d->ziu K H xs ds->ziu K H (x::xs) (d::ds)
end
section
variable {X:Cx}{pins:List (Addr×Obj)}{σ:L2.St}{H:Hp}{s:Shared}
end
section
variable {X:Cx}{pins:List (Addr×Obj)}{σ:L2.St}{H:Hp}{s:Shared}
theorem _root_.L2.Inv.turnNew {h':Heap}{ch:List Addr}{a:Addr}{o:HO}{t':Nat}(I:Inv X pins σ H s)(hf:∀ b∈ch,zes X pins H b)(k:∀ b u,b∉ch->s.heap.get? b=some u->h'.get? b=some u)(ha:s.heap.objs.size<=a)
  (new:zay X.prog X.w (upd H a o) h' a o):Inv X pins σ (upd H a o) { s with heap:=h',toks:=t' }:=by
 have lt:∀ b u,s.heap.get? b=some u->b≠a:=fun b u e z=>by
  have:=Heap.lt_size e
  rw [z] at this;exact Nat.lt_irrefl _ (Nat.lt_of_lt_of_le this ha)
 have ltH:∀ b u,H b=some u->b≠a:=fun b u e z=>by
  have:=I.hok.lt e
  rw [z] at this;exact Nat.lt_irrefl _ (Nat.lt_of_lt_of_le this ha)
 have nch:∀ b u,H b=some u->b∉ch:=fun b u e z=>by rw [(hf b z).1] at e;cases e
 refine I.step (g':=s.gens) (d':=s.drawn) (ch:=ch) (fun b hb=>⟨(hf b hb).2.2.2.1,(hf b hb).2.1,(hf b hb).2.2.2.2.1,(hf b hb).2.2.2.2.2⟩) (fun b u _ _ hc e _=>k b u hc e) (fun b u _ _ hc e _=>⟨u.slots,k b u hc e⟩)
  (fun b u _ e n=>by rw [zT (lt b u e)];exact n) (fun b u hc e=>⟨u,k b u hc e⟩) (fun b xs e=>by rw [zT (ltH b _ e)];exact e) (fun b u v e=>by rw [zT (ltH b _ e)];exact e)
  (fun b ps e=>⟨#[],by rw [zT (ltH b _ e),e];simp⟩) (fun m hm=>?_) (fun b u e=>?_) I.bare
 ·obtain⟨ob,es,ep,ho,r⟩:=hm
  exact⟨ob,es,ep,k _ ob (fun z=>(hf _ z).2.1 rfl) ho,r⟩
 ·by_cases hb:b=a
  ·subst hb
   rw [zaq] at e
   cases e
   exact new
  ·rw [zT hb] at e
   refine (I.hok b u e).stay (fun c v hc q=>k c v ?_ q) (fun c q=>by rw [zT (ltH c _ q)];exact q) fun c ys q=>by rw [zT (ltH c _ q)];exact q
   rcases hc with z | z
   ·rw [z];exact nch b u e
   ·exact nch c _ z
theorem _root_.L2.Inv.turnedL {h':Heap}{ch:List Addr}{t':Nat}(I:Inv X pins σ H s)(hf:∀ b∈ch,zes X pins H b)(k:∀ b u,b∉ch->s.heap.get? b=some u->h'.get? b=some u):Inv X pins σ H { s with heap:=h',toks:=t' }:=by
 have nch:∀ b u,H b=some u->b∉ch:=fun b u e z=>by rw [(hf b z).1] at e;cases e
 refine I.step (g':=s.gens) (d':=s.drawn) (ch:=ch) (fun b hb=>⟨(hf b hb).2.2.2.1,(hf b hb).2.1,(hf b hb).2.2.2.2.1,(hf b hb).2.2.2.2.2⟩) (fun b u _ _ hc e _=>k b u hc e) (fun b u _ _ hc e _=>⟨u.slots,k b u hc e⟩)
  (fun b u _ e n=>n) (fun b u hc e=>⟨u,k b u hc e⟩) (fun b xs e=>e) (fun b u v e=>e) (fun b ps e=>⟨#[],by rw [e];simp⟩) (fun m hm=>?_) (fun b u e=>?_) I.bare
 ·obtain⟨ob,es,ep,ho,r⟩:=hm
  exact⟨ob,es,ep,k _ ob (fun z=>(hf _ z).2.1 rfl) ho,r⟩
 ·refine (I.hok b u e).stay (fun c v hc q=>k c v ?_ q) (fun c q=>q) fun c ys q=>q
  rcases hc with z | z
  ·rw [z];exact nch b u e
  ·exact nch c _ z
end
section
variable {X:Cx}
end
def Ite (K:PySem.W.Frag)(l:Addr):It :=
  ⟨fun i H=>∃ xs x,SqL K H l xs/\xs[i]?=some x,
   fun i H v H'=>∃ p,v=.ref p/\H p=none/\∀ xs x,SqL K H l xs->xs[i]?=some x->H'=upd H p (.tup [.int i,x]),
   fun i H=>∃ xs,SqL K H l xs/\xs.length<=i⟩
theorem zna {P:Program}{w:World}{K:PySem.W.Frag}{es:List Expr}{kk:Nat}{pos:Pos}{e it l:Addr}(hne:e≠it) :
  Turn P w K (.Tuple es kk pos) (Ite K l) [e,it] e (fun i h=>(∃ old,IsEnum h e it i old)/\h.IsListIter it l i) where
 mem:=by simp
 obj:=fun i h st b hb=>by
  obtain⟨⟨old,he⟩,⟨o1,h1,_,h1d⟩⟩:=st
  simp only [List.mem_cons,List.not_mem_nil,or_false] at hb
  rcases hb with rfl | rfl
  ·exact⟨_,he,fun v q=>by cases (show Data.fields _=Data.cell v from q)⟩
  ·exact⟨_,h1,fun v q=>by rw [h1d] at q;cases q⟩
 keep:=fun i h h' st k=>by
  obtain⟨⟨old,he⟩,h1⟩:=st
  exact⟨⟨old,k e (by simp) _ he⟩,h1.at fun o q=>k it (by simp) o q⟩
 item:=by
  intro X hP hw hK hc i pins s σ H E I hf st hg
  subst hP hw hK
  obtain⟨⟨old,he⟩,h1⟩:=st
  obtain⟨xs,x,hx1,hx⟩:=hg
  obtain⟨its,rx,px,zx⟩:=I.list hx1
  obtain⟨u,hu,ru⟩:=Vals.get rx hx
  refine wpAny_pyNext_enum_item he h1 px.isList (by simpa using hu) hne fun h' a1 a2 a3 a4 hk=>?_
  refine⟨_,rfl,wpAny_letOwnedTupleGo_enum (s:={ s with heap:=h',toks:=s.toks+1 }) a1 fun h'' he'' hs''=>?_⟩
  have lt:∀ {c o},s.heap.get? c=some o->s.heap.objs.size≠c:=fun q=>Nat.ne_of_gt (Heap.lt_size q)
  have k2:∀ b u,b∉[e,it]->s.heap.get? b=some u->h''.get? b=some u:=fun b u hb q=>by
   simp only [List.mem_cons,List.not_mem_nil,or_false,not_or] at hb
   exact hs''.extBut b u hb.1 (hk b u hb.1 hb.2 q)
  have new:h''.get? s.heap.objs.size=some { cls:=.type "tuple",data:=.seq #[.int i s.toks,u] }:=hs''.extBut _ _ (lt he) a3
  refine⟨.ref s.heap.objs.size,upd H s.heap.objs.size (.tup [.int i,x]),I.turnNew (t':=s.toks+1) hf k2 (Nat.le_refl _) ⟨by show 2<=sizeLine;decide,[.int i s.toks,u],.cons ⟨_,rfl⟩ (.cons ru .nil),_,new,rfl,_,rfl⟩,rfl,⟨_,rfl,I.fresh,?_⟩,?_,fun b hb=>?_⟩
  ·intro xs' x' hx1' hx'
   cases I.list_inj hx1 hx1'
   rw [hx] at hx'
   cases hx'
   rfl
  ·exact⟨⟨_,he''⟩,a2.extBut hs''.extBut (Ne.symm hne)⟩
  ·have:∃ o,s.heap.get? b=some o:=by
    simp only [List.mem_cons,List.not_mem_nil,or_false] at hb
    obtain⟨o1,e1,_⟩:=h1
    rcases hb with rfl | rfl
    ·exact⟨_,he⟩
    ·exact⟨_,e1⟩
   obtain⟨o,q⟩:=this
   rw [zT (lt q).symm]
   exact (hf b hb).1
 done:=by
  intro X hP hw hK hc i pins s σ H E I hf st hg
  subst hP hw hK
  obtain⟨⟨old,he⟩,h1⟩:=st
  obtain⟨xs,hx1,hl⟩:=hg
  obtain⟨its,rx,px,zx⟩:=I.list hx1
  have n1:=rx.length
  refine wpAny_pyNext_enum_end (I.ok.hd hc) he h1 px.isList (by rw [List.getElem?_toArray];exact List.getElem?_eq_none (by omega)) fun h' hk=>⟨rfl,I.turnedL (t':=s.toks) hf fun b u hb q=>?_⟩
  simp only [List.mem_cons,List.not_mem_nil,or_false,not_or] at hb
  exact hk b u hb.2 q
 self:=fun _ _ _ _ _ st h=>by
  obtain⟨⟨old,he⟩,_⟩:=st
  exact wpAny_pyIter_enum he h
section
variable {X:Cx}
end
def hT (x1 z1 x2 z2 a b:Int):Int:=z1*(x2-x1)*b+(z2-z1)*(a-x1*b)
def hB (x1 x2 b:Int):Int:=(x2-x1)*b
section
variable {σ:L2.St}{H:Hp}
end
structure zjl (P:Program)(w:World)(K:PySem.W.Frag)(mg:Str->Option Value)(base:Heap)(k:Nat)(x:Str)(sp:Sp):Prop where
 ex:∃ (C f:Addr) (fd:FuncData) (ps:List Str) (sp0:Sp),Mk K C f/\zW P w K mg base CX0 k f fd ps sp0/\Binds K fd ps []/\mg x=some (.ref C) /\
  ∀ vs H Q,sp vs H Q E0->∀ x dx,H x=none->H dx=none->dx≠x->sp0 (.ref x::vs) (upd (upd H dx (.own x)) x (.ins C dx [])) (fun v H2=>v=.non/\Q (.ref x) H2) E0
theorem zuu {X:Cx}{k j:Nat}{x:Str}{sp:Sp}{p pos:Pos}{e:Expr}{es:List Expr}{t:TA}(G:zjl X.prog X.w X.K X.mg X.base k x sp)(hr:zax j X.A)(hk:k+1<=j)(hg:Gl X x)
  (ha:PA X (e::es) t) (hdb:(x==("__debug__":Str))=false:=by decide) (he:starEach (e::es) X.env=(false,eval e X.env)::starEach es X.env:=by rfl) (hpl:(backTo pos (starEach es X.env)).any (·.1)=false:=by rfl) :
  PE X (.Call (.Name x p) (e::es) [] pos) (zmT sp [] E0 t):=by
 intro pins s σ H Q I h
 obtain⟨C,f,fd,ps,sp0,M,F,b,hm,imp⟩:=G.ex
 refine wpAny_Call_Name_kw (zfk I hg hm ?_ hdb)
 refine PySem.W.callWith_K (h₀:=X.base) I.ok.mod.kin M.kp (thn (ha pos pins s σ H _ I h) fun us s1 ⟨vs,H1,I1,r,q⟩=>⟨I1.kIn,?_⟩) he hpl
 have q':sp (vs++[]) H1 Q E0:=q
 rw [List.append_nil] at q'
 exact zo3 (dvs:=[]) (ds:=[]) M F (hr.mono hk) b .nil zpT I1 r fun x dx h1 h2 h3=>by rw [List.append_nil];exact imp vs H1 Q q' x dx h1 h2 h3
theorem zqP {X:Cx}{x:Str}{n:Int}{pos:Pos}(hg:Gl X x)(hm:∃ t,X.mg x=some (.int n t))(hd:(x==("__debug__":Str))=false:=by decide):PE X (.Name x pos) (tC (.int n)):=by
 obtain⟨t,ht⟩:=hm
 exact zlH (v:=.int n) hg ht ⟨t,rfl⟩ hd
section
variable {σ:L2.St}{H:Hp}{K:PySem.W.Frag}
end
section
variable {X:Cx}{K:PySem.W.Frag}
theorem zrs {pins:List (Addr×Obj)}{σ:L2.St}{H:Hp}{s:Shared}{p:Addr}{its:List Value}(_:Inv X pins σ H s)(pl:PlainL s.heap p its.toArray) :
  p<s.heap.objs.size/\(s.heap.push { cls:=.type "list_iterator",data:=.fields #[.ref p,.int 0 0] }).IsListIter s.heap.objs.size p 0:=by
 obtain⟨o,ho,_⟩:=pl.isList
 exact⟨Heap.lt_size ho,_,Heap.get?_push_size _ rfl,rfl,rfl⟩
theorem zrp {H:Hp}{pins:List (Addr×Obj)}{σ:L2.St}{s:Shared}{h':Heap}{tk:Nat}(I:Inv X pins σ H s){o:Obj}(hk:∀ b u,b∉[s.heap.objs.size]->(s.heap.push o).get? b=some u->h'.get? b=some u) :
  Inv X pins σ H { s with heap:=h',toks:=tk }:=I.kept (t':=tk) fun d u e=>hk d u (fun hm=>by
   have h1:d=s.heap.objs.size:=by simpa using hm
   have h2:=Heap.lt_size e
   rw [h1] at h2
   exact Nat.lt_irrefl _ h2) (Heap.get?_push_of_some _ e)
def zu2 (K:PySem.W.Frag):List V->Hp->VK->Prop:=fun xs H Q=>∃ (p:Addr) (bs:List Bool),xs=[.ref p]/\SqL K H p (bs.map V.bl)/\Q (.bl (bs.all id)) H
theorem zox {bs:List Bool}{its:List Value}(rv:Vals (bs.map V.bl) its){i:Nat}{v:Value}(h:its.toArray[i]?=some v):v=.bool (bs.getD i false):=by
 rw [<- Array.getElem?_toList] at h
 have hi:i<its.length:=by
  rcases Nat.lt_or_ge i its.length with g | g
  ·exact g
  ·rw [List.getElem?_eq_none (by simpa using g)] at h;cases h
 have hl:=rv.length
 rw [List.length_map] at hl
 have e:(bs.map V.bl)[i]?=some (.bl (bs.getD i false)):=by
  rw [List.getElem?_map,List.getElem?_eq_getElem (by omega)]
  simp [List.getD_eq_getElem?_getD,List.getElem?_eq_getElem (show i<bs.length by omega)]
 obtain⟨u,hu,ru⟩:=rv.get e
 rw [show its.toArray.toList=its from rfl,hu] at h
 cases h
 exact ru
theorem all_range (bs:List Bool):(List.range bs.length).all (fun i=>bs.getD i false)=bs.all id:=by
 rw [Bool.eq_iff_iff,List.all_eq_true,List.all_eq_true]
 constructor
 ·intro h b hb
  obtain⟨i,hi,rfl⟩:=List.mem_iff_getElem.mp hb
  simpa [List.getD_eq_getElem?_getD,List.getElem?_eq_getElem hi] using h i (List.mem_range.mpr hi)
 ·intro h i hi
  rw [List.mem_range] at hi
  have:=h bs[i] (List.getElem_mem hi)
  simpa [List.getD_eq_getElem?_getD,List.getElem?_eq_getElem hi] using this
theorem zn7 (hK:X.K=K)(hc:X.calm=true):zaT X (.builtin "all") (zu2 K):=fun pins s σ H xs us Q I r h=>by
 subst hK
 obtain⟨p,bs,rfl,hS,q⟩:=h
 obtain⟨u,rfl,ru⟩:=vals1 r
 cases ru
 obtain⟨its,rv,pl,hz⟩:=I.list hS
 obtain⟨lt,st⟩:=zrs I pl
 have hl:=rv.length
 rw [List.length_map] at hl
 have W:=Walks.list (prog:=X.prog) (w:=X.w) (A:=X.A.in1) (I.ok.hd hc) s.heap.objs.size p (Nat.ne_of_lt lt) its.toArray
 refine call_all_walk (wpAny_pyIter_list pl.isList ⟨s.heap.objs.size,[s.heap.objs.size,p],[s.heap.objs.size],_,_,_,fun i=>bs.getD i false,rfl,W,⟨st,pl.isList.push _⟩,?_,?_⟩)
 ·intro i v s' Q' E' hv hq
  rw [zox rv hv]
  exact wpAny_truthy_bool hq
 ·intro h' tk hk
  rw [List.size_toArray,<- hl,all_range]
  exact⟨.bl _,H,zrp (s:=s) I hk,rfl,q⟩
def ztp (K:PySem.W.Frag):List V->Hp->VK->Prop:=fun xs H Q=>∃ (p:Addr) (ns:List Int),xs=[.ref p]/\SqL K H p (ns.map V.int)/\0<ns.length/\∀ m:Int,m∈ns->(∀ a∈ns,a<=m)->Q (.int m) H
def ztq (K:PySem.W.Frag):List V->Hp->VK->Prop:=fun xs H Q=>∃ (p:Addr) (ns:List Int),xs=[.ref p]/\SqL K H p (ns.map V.int)/\0<ns.length/\∀ m:Int,m∈ns->(∀ a∈ns,m<=a)->Q (.int m) H
theorem zfK:∀ {ns:List Int} {its:List Value},Vals (ns.map V.int) its->∃ xs:Array (Int×Tok),its.toArray=intItems xs/\xs.toList.map (·.1)=ns
 | [],_,h=>by cases h;exact⟨#[],by simp [intItems],rfl⟩
 | n::ns,_,h=>by
  cases h with
  | cons r t =>
   obtain⟨tk,rfl⟩:=r
   obtain⟨xs,e1,e2⟩:=zfK t
   refine⟨#[(n,tk)]++xs,?_,?_⟩
   ·apply Array.toList_inj.mp
    have:=congrArg Array.toList e1
    simp [intItems] at this ⊢
    exact this
   ·simp [e2]
theorem zol (hK:X.K=K)(hc:X.calm=true):zaT X (.builtin "max") (ztp K):=fun pins s σ H xs us Q I r h=>by
 subst hK
 obtain⟨p,ns,rfl,hS,hne,q⟩:=h
 obtain⟨u,rfl,ru⟩:=vals1 r
 cases ru
 obtain⟨its,rv,pl,hz⟩:=I.list hS
 obtain⟨xs,e1,e2⟩:=zfK rv
 have hsz:0<xs.size:=by rw [<- Array.length_toList,<- List.length_map (f:=(·.1)),e2];exact hne
 refine max_intList (I.ok.hd hc) (e1▸pl.isList) hsz fun v h' tk hv hk=>?_
 obtain⟨t,rfl⟩:=intItems_at hv
 obtain⟨h1,h2⟩:=argBest_gt (numAt xs) (xs.size-1)
 refine⟨.int _,H,I.kept (t':=tk) hk,⟨t,rfl⟩,q _ ?_ fun a ha=>?_⟩
 ·rw [<- e2,numAt_eq];exact getD_mem (by rw [List.length_map,Array.length_toList];omega)
 ·rw [<- e2] at ha
  obtain⟨j,hj,rfl⟩:=mem_getD ha
  rw [List.length_map,Array.length_toList] at hj
  rw [<- numAt_eq];exact h2 j (by omega)
theorem znl (hK:X.K=K)(hc:X.calm=true):zaT X (.builtin "min") (ztq K):=fun pins s σ H xs us Q I r h=>by
 subst hK
 obtain⟨p,ns,rfl,hS,hne,q⟩:=h
 obtain⟨u,rfl,ru⟩:=vals1 r
 cases ru
 obtain⟨its,rv,pl,hz⟩:=I.list hS
 obtain⟨xs,e1,e2⟩:=zfK rv
 have hsz:0<xs.size:=by rw [<- Array.length_toList,<- List.length_map (f:=(·.1)),e2];exact hne
 refine min_intList (I.ok.hd hc) (e1▸pl.isList) hsz fun v h' tk hv hk=>?_
 obtain⟨t,rfl⟩:=intItems_at hv
 obtain⟨h1,h2⟩:=argBest_lt (numAt xs) (xs.size-1)
 refine⟨.int _,H,I.kept (t':=tk) hk,⟨t,rfl⟩,q _ ?_ fun a ha=>?_⟩
 ·rw [<- e2,numAt_eq];exact getD_mem (by rw [List.length_map,Array.length_toList];omega)
 ·rw [<- e2] at ha
  obtain⟨j,hj,rfl⟩:=mem_getD ha
  rw [List.length_map,Array.length_toList] at hj
  rw [<- numAt_eq];exact h2 j (by omega)
end
section
variable {X:Cx}{K:PySem.W.Frag}
def zus (K:PySem.W.Frag):R2:=fun x y H Q=>∃ l b xs zs,x=.ref l/\y=.ref b/\SqL K H l xs/\SqL K H b zs/\xs.length+zs.length<=sizeLine/\∀ p,H p=none->Q (.ref p) (upd H p (.lst (xs++zs)))
theorem zqJ (hK:X.K=K):OpR X (binaryOp .Add) (zus K):=by
 subst hK
 intro pins s σ H x y v u Q I rx ry h
 obtain⟨l,b,xs,zs,rfl,rfl,hH,hB,hz,q⟩:=h
 cases rx
 cases ry
 obtain⟨its,r,pl,_⟩:=I.list hH
 obtain⟨its2,r2,pl2,_⟩:=I.list hB
 obtain⟨⟨cls,dd,data,sl⟩,ho,hc,n,hd⟩:=pl.isList
 obtain⟨⟨cls2,dd2,data2,sl2⟩,ho2,hc2,n2,hd2⟩:=pl2.isList
 simp only at hc hd hc2 hd2
 subst hc hd hc2 hd2
 have e1:=r.length
 have e2:=r2.length
 refine concat_meets ⟨_,ho,rfl⟩ ⟨_,ho2,rfl⟩ noFill_list_add seq_list_add PySem.F.slot_list_add PySem.F.entry_list_add (PySem.F.args_list_add_2 _ _) (list_addW l b its.toArray its2.toArray n n2 dd dd2 sl sl2 (by rw [List.size_toArray,List.size_toArray];omega)) ⟨ho,ho2,?_⟩
 have ea:its.toArray++its2.toArray=(its++its2).toArray:=by simp
 rw [ea]
 exact⟨.ref _,_,I.lnew (t':=s.toks) (r.append r2) (by rw [List.length_append];omega),rfl,q _ I.fresh⟩
end
section
variable {σ:L2.St}{K:PySem.W.Frag}{own:List Str}{fv:List Nat}{g:TG}{tc:TT}{te:TE}{R:Hp->Prop}{H1:Hp}{p a:Addr}{xs:List V}
end
theorem zaE {α:Type}{xs:List α}{i:Nat}{x:α}(h:xs[i]?=some x):i<xs.length:=by
 rcases Nat.lt_or_ge i xs.length with g | g
 ·exact g
 ·rw [List.getElem?_eq_none g] at h;cases h
open PySem PySem.W PyProof.Rows
section
variable {lt:Nat->Nat->Bool}
abbrev ga (p:Array Nat)(i:Nat):Nat:=p.getD i 0
end
open PySem PySem.Spec PySem.W PyProof.Rows L2
section
variable {prog:Program}{w:World}{A:Around}{E:Value->Shared->Prop}{s:Shared}
end
section
variable {K:PySem.W.Frag}{H:Hp}
end
def zsY (K:PySem.W.Frag):R2:=fun x y H Q=>∃ a b xs ys,x=.ref a/\y=.ref b/\SqT K H a xs/\SqT K H b ys/\xs.length+ys.length<=sizeLine/\(xs=[]->Q (.ref b) H)/\(xs≠[]->ys=[]->Q (.ref a) H)/\(xs≠[]->ys≠[]->∀ p,H p=none->Q (.ref p) (upd H p (.tup (xs++ys))))
theorem zpe {X:Cx}{K:PySem.W.Frag}(hK:X.K=K):OpR X (binaryOp .Add) (zsY K):=by
 subst hK
 intro pins s σ H x y v u Q I rx ry h
 obtain⟨a,b,xs,ys,rfl,rfl,ha,hb,hz,q0,q1,q2⟩:=h
 by_cases hx:xs=[]
 ·subst hx
  cases rx
  cases ry
  obtain⟨its,r1,p1,_⟩:=I.tuple ha
  obtain⟨its2,r2,p2,_⟩:=I.tuple hb
  cases r1
  obtain⟨⟨cls,dd,data,sl⟩,ho,hc,n,hd⟩:=id p1
  obtain⟨⟨cls2,dd2,data2,sl2⟩,ho2,hc2,n2,hd2⟩:=id p2
  simp only at hc hd hc2 hd2
  subst hc hd hc2 hd2
  exact concat_meets ⟨_,ho,rfl⟩ ⟨_,ho2,rfl⟩ noFill_tuple_add seq_tuple_add PySem.F.slot_tuple_add PySem.F.entry_tuple_add (PySem.F.args_tuple_add_2 _ _)
   (tuple_addW0 a b _ its2.toArray n n2 dd dd2 sl sl2 (by simp)) ⟨ho,ho2,⟨.ref b,H,I,rfl,q0 rfl⟩⟩
 ·exact zp4 pins s σ H _ _ v u Q I rx ry ⟨a,b,xs,ys,rfl,rfl,ha,hb,hx,hz,q1 hx,q2 hx⟩
end My
namespace Dp
open PySem
inductive D where
 | non | bl (b:Bool) | int (i:Int) | str (x:Str) | tup (xs:List D) | ref (n:Nat) | ty (n:String) | rl (xs:List D) | exn (c:Str)
 deriving Inhabited
inductive Cell where
 | lst (xs:List D) | ins (c:Str) (fs:List (Str×D))
 | dk (kvs:List (Str×D)) | dt (kvs:List (List (Sum Int Str)×D))
 deriving Inhabited
abbrev Sto:=List Cell
abbrev Rho:=List (Option D)
abbrev DK:=D->Sto->Prop
abbrev DE:=Rho->Sto->DK->Prop
abbrev DT:=Rho->Sto->(Bool->Sto->Prop)->Prop
abbrev DA:=Rho->Sto->(List D->Sto->Prop)->Prop
abbrev DG:=D->Rho->Sto->(Rho->Sto->Prop)->Prop
abbrev DGs:=List D->Rho->Sto->(Rho->Sto->Prop)->Prop
structure zmP where
 nx:Rho->Sto->Prop
 rt:DK
 bk:Rho->Sto->Prop:=fun _ _=>False
 ct:Rho->Sto->Prop:=fun _ _=>False
abbrev DS:=zmP->Rho->Sto->Prop
structure DIt where
 items:List D
 ok:Sto->Prop
abbrev DI:=Rho->Sto->(DIt->Sto->Prop)->Prop
abbrev DSp:=List D->Sto->DK->Prop
def big:Nat:=1000000
def fl:Nat->D->Bool
  | _,.ref _=>false
  | _,.ty _=>false
  | _,.rl _=>false
  | _,.exn _=>false
  | 0,.tup _=>false
  | k+1,.tup xs=>xs.all (fl k)
  | _,.non=>true
  | _,.bl _=>true
  | _,.int _=>true
  | _,.str x=>x.cps.all (· < 0x110000)
mutual
def eqv:D->D->Bool
 | .non,.non=>true
 | .bl a,.bl b=>a==b
 | .bl a,.int j=>(if a then 1 else 0)==j
 | .int i,.bl b=>i==(if b then 1 else 0)
 | .int i,.int j=>decide (i=j)
 | .str x,.str y=>x==y
 | .tup xs,.tup ys=>eqvAll xs ys
 | _,_=>false
def eqvAll:List D->List D->Bool
 | [],[]=>true
 | x::xs,y::ys=>eqv x y&&eqvAll xs ys
 | _,_=>false
end
def Lst (S:Sto)(x:D)(xs:List D):Prop:=x=.rl xs\/∃ n,x=.ref n/\S[n]?=some (.lst xs)
def zgF (S:Sto)(x:D)(xs:List D):Prop:=x=.tup xs\/Lst S x xs
def ixD (n:Nat)(k:Int):Option Nat:=if 0<=k then (if k<n then some k.toNat else none) else if -(n:Int)<=k then some (k+n).toNat else none
def atD (xs:List D)(k:Int):Option D:=(ixD xs.length k).bind fun j=>xs[j]?
def atS (z:Str)(k:Int):Option Nat:=(ixD z.cps.toList.length k).bind fun j=>z.cps.toList[j]?
def slD (n:Nat)(d:Nat):Option Int->Nat
 | none=>d
 | some k=>if k<0 then (k+n).toNat else min k.toNat n
def cutD {α:Type}(xs:List α)(lo hi:Option Int):List α:=(xs.drop (slD xs.length 0 lo)).take (slD xs.length xs.length hi-slD xs.length 0 lo)
def zf (i:Nat):DE:=fun ρ S Q=>∃ d,ρ[i]?=some (some d)/\Q d S
def dC (d:D):DE:=fun _ S Q=>Q d S
abbrev DR2:=D->D->Sto->DK->Prop
def dOp (r:DR2)(ta tb:DE):DE:=fun ρ S Q=>ta ρ S fun x S1=>tb ρ S1 fun y S2=>r x y S2 Q
def dUn (r:D->Sto->DK->Prop)(ta:DE):DE:=fun ρ S Q=>ta ρ S fun x S1=>r x S1 Q
def zA:DA:=fun _ S Q=>Q [] S
def zm (ta:DE)(tr:DA):DA:=fun ρ S Q=>ta ρ S fun x S1=>tr ρ S1 fun xs S2=>Q (x::xs) S2
def dTup (t:DA):DE:=fun ρ S Q=>t ρ S fun xs S1=>xs.length<=big/\Q (.tup xs) S1
def zcM (t:DA):DE:=fun ρ S Q=>t ρ S fun xs S1=>xs.length<=big/\Q (.ref S1.length) (S1++[.lst xs])
def dCall (f:DSp)(t:DA):DE:=fun ρ S Q=>t ρ S fun xs S1=>f xs S1 Q
abbrev DB:=List D->Sto->DK->Prop
def dB (r:DB)(t:DA):DE:=fun ρ S Q=>t ρ S fun xs S1=>r xs S1 Q
def dT (t:DE):DT:=fun ρ S Q=>t ρ S fun x S1=>∃ b,x=.bl b/\Q b S1
def zhB (t u:DT):DT:=fun ρ S Q=>t ρ S fun c S1=>if c=true then u ρ S1 Q else Q false S1
def dOr (t u:DT):DT:=fun ρ S Q=>t ρ S fun c S1=>if c=true then Q true S1 else u ρ S1 Q
def zdp (t:DT):DT:=fun ρ S Q=>t ρ S fun c S1=>Q (!c) S1
def zfB (t u:DE):DE:=fun ρ S Q=>t ρ S fun x S1=>∃ c,x=.bl c/\if c=true then u ρ S1 Q else Q (.bl false) S1
def zhj (t:DE):DE:=fun ρ S Q=>t ρ S fun x S1=>∃ c,x=.bl c/\Q (.bl (!c)) S1
def ziK (r r':DR2)(ta tb tc:DE):DE:=fun ρ S Q=>ta ρ S fun x S1=>tb ρ S1 fun y S2=>r x y S2 fun z S3=>∃ c,z=.bl c/\if c=true then tc ρ S3 fun w S4=>r' y w S4 Q else Q (.bl false) S3
def zhN:Option DE->Rho->Sto->(Option Int->Sto->Prop)->Prop
 | none=>fun _ S Q=>Q none S
 | some t=>fun ρ S Q=>t ρ S fun x S1=>∃ i,x=.int i/\Q (some i) S1
def dSl (r:D->Option Int->Option Int->Sto->DK->Prop)(ta:DE)(lo hi:Option DE):DE:=fun ρ S Q=>ta ρ S fun x S1=>zhN lo ρ S1 fun l S2=>zhN hi ρ S2 fun h S3=>r x l h S3 Q
def zcy (f:Str)(ta:DE):DE:=fun ρ S Q=>ta ρ S fun x S1=>∃ n c fs d,x=.ref n/\S1[n]?=some (.ins c fs)/\fs.lookup f=some d/\Q d S1
def putD (f:Str)(v:D):List (Str×D)->List (Str×D)
 | []=>[(f,v)]
 | (g,x)::r=>if g=f then (g,v)::r else (g,x)::putD f v r
def zmV (c:Str)(init:DSp):DSp:=fun ds S Q=>init (.ref S.length::ds) (S++[.ins c []]) fun d S2=>d=.non/\Q (.ref S.length) S2
abbrev DM:=D->List D->Sto->DK->Prop
def dM (r:DM)(ta:DE)(t:DA):DE:=fun ρ S Q=>ta ρ S fun x S1=>(∃ n ys,x=.ref n/\S1[n]?=some (.lst ys))/\t ρ S1 fun xs S2=>r x xs S2 Q
def oI (C:Int->Int->Prop)(g:Int->Int->D):DR2:=fun x y S Q=>∃ i j,x=.int i/\y=.int j/\C i j/\Q (g i j) S
def oI0 (g:Int->Int->D):DR2:=fun x y S Q=>∃ i j,x=.int i/\y=.int j/\Q (g i j) S
def oU (g:Int->D):D->Sto->DK->Prop:=fun x S Q=>∃ i,x=.int i/\Q (g i) S
def zaH (i j:Int):Prop:=(My.Bd 8000 i/\My.Bd 8000 j)\/i.natAbs<2 ^ 64\/j.natAbs<2 ^ 64
def zp1 (_ j:Int):Prop:=j≠0/\My.Bd 8000 j
def zth (_ j:Int):Prop:=j≠0
def zaD:DR2:=fun x y S Q=>(∃ i j,x=.int i/\y=.int j/\Q (.int (i+j)) S)\/(∃ xs ys,x=.tup xs/\y=.tup ys/\xs.length+ys.length<=big/\Q (.tup (xs++ys)) S) \/
 (∃ xs ys,Lst S x xs/\Lst S y ys/\xs.length+ys.length<=big/\Q (.ref S.length) (S++[.lst (xs++ys)])) \/
 (∃ i j:Str,x=.str i/\y=.str j/\i.length+j.length<=big/\Q (.str (i++j)) S)
def zaS:DR2:=oI0 fun i j=>.int (i-j)
def zvb (z:Str)(n:Int):Str:=if n<1 then Str.empty else if (n==1||z.length==0)=true then z else ⟨(List.replicate n.toNat z.cps).foldl (·++·) #[]⟩
@[irreducible] def Hg (x:Int):Prop:=x.natAbs<2 ^ 1048576
def zbt:DR2:=fun x y S Q=>oI zaH (fun i j=>.int (i*j)) x y S Q\/(∃ (z:Str) (n:Int),x=.str z/\y=.int n/\z.length<=1000/\-1000<=n/\n<=1000/\Q (.str (zvb z n)) S)\/oI (fun i j=>Hg i/\Hg j) (fun i j=>.int (i*j)) x y S Q
def oDiv:DR2:=oI zp1 fun i j=>.int (i.fdiv j)
def oMod:DR2:=oI zth fun i j=>.int (i.fmod j)
def zd6:D->Sto->DK->Prop:=oU fun i=>.int (-i)
def oLt:DR2:=oI0 fun i j=>.bl (decide (i<j))
def oLe:DR2:=oI0 fun i j=>.bl (decide (i<=j))
def oGt:DR2:=oI0 fun i j=>.bl (decide (j<i))
def oGe:DR2:=oI0 fun i j=>.bl (decide (j<=i))
def zii (S:Sto):List D->List (List D)->Prop
 | [],[]=>True
 | x::xs,z::zs=>Lst S x z/\zii S xs zs
 | _,_=>False
def zfP (xss:List (List D)):Bool:=xss.all fun zs=>zs.all (fl 20)
def EqD (S:Sto)(x y:D)(b:Bool):Prop:=(fl 20 x=true/\fl 20 y=true/\b=eqv x y)\/(∃ xs ys,Lst S x xs/\Lst S y ys/\xs.all (fl 20)=true/\ys.all (fl 20)=true/\b=eqvAll xs ys) \/
 (∃ xs ys xss yss,Lst S x xs/\Lst S y ys/\zii S xs xss/\zii S ys yss/\zfP xss=true/\zfP yss=true/\b=eqvAll (xss.map D.tup) (yss.map D.tup))
def oEq:DR2:=fun x y S Q=>∃ b,EqD S x y b/\Q (.bl b) S
def oNe:DR2:=fun x y S Q=>∃ b,EqD S x y b/\Q (.bl (!b)) S
def InD (S:Sto)(x y:D)(b:Bool):Prop:=∃ ys,zgF S y ys/\fl 20 x=true/\ys.all (fl 20)=true/\b=ys.any fun z=>eqv z x
def oIn:DR2:=fun x y S Q=>(∃ b,InD S x y b/\Q (.bl b) S)\/(∃ (c:Nat) (z:Str),x=.str ⟨#[c]⟩/\y=.str z/\Q (.bl (decide (c∈z.cps.toList))) S)
def zgs:DR2:=fun x y S Q=>(∃ b,InD S x y b/\Q (.bl (!b)) S)\/(∃ (c:Nat) (z:Str),x=.str ⟨#[c]⟩/\y=.str z/\Q (.bl (!decide (c∈z.cps.toList))) S)
def zbf:D->Bool
 | .non=>true
 | _=>false
def oIs:DR2:=fun x y S Q=>(y=.non/\Q (.bl (zbf x)) S)\/(∃ a b,x=.bl a/\y=.bl b/\Q (.bl (a==b)) S)
def zfe:DR2:=fun x y S Q=>(y=.non/\Q (.bl (!zbf x)) S)\/(∃ a b,x=.bl a/\y=.bl b/\Q (.bl (!(a==b))) S)
def oIx:DR2:=fun x y S Q=>(∃ i xs d,y=.int i/\zgF S x xs/\atD xs i=some d/\Q d S)\/(∃ (z:Str) (i:Int) (c:Nat),x=.str z/\y=.int i/\z.length<=big/\atS z i=some c/\Q (.str ⟨#[c]⟩) S)
def zoD (z:Str)(lo hi:Option Int):Str:=⟨(cutD z.cps.toList lo hi).toArray⟩
def zgS:D->Option Int->Option Int->Sto->DK->Prop:=fun x lo hi S Q=>(∃ xs,x=.tup xs/\Q (.tup (cutD xs lo hi)) S)\/(∃ xs,Lst S x xs/\Q (.ref S.length) (S++[.lst (cutD xs lo hi)]))\/(∃ z:Str,x=.str z/\z.length<=big/\Q (.str (zoD z lo hi)) S)
def za0:DB:=fun vs S Q=>(∃ x xs,vs=[x]/\zgF S x xs/\Q (.int xs.length) S)\/(∃ z:Str,vs=[.str z]/\z.length<=big/\Q (.int z.length) S)
def zpn:DB:=fun vs S Q=>∃ i,vs=[.int i]/\Q (.int (i.natAbs:Int)) S
def zio:DB:=fun vs S Q=>∃ i j,vs=[.int i,.int j]/\Q (.int (max i j)) S
def zhf:DB:=fun vs S Q=>∃ i j,vs=[.int i,.int j]/\Q (.int (min i j)) S
def zmL:DB:=fun vs S Q=>∃ x ns,vs=[x]/\Lst S x (List.map D.int ns)/\0<ns.length/\∀ m:Int,m∈ns->(∀ a∈ns,a<=m)->Q (.int m) S
def zj1:DB:=fun vs S Q=>∃ x ns,vs=[x]/\Lst S x (List.map D.int ns)/\0<ns.length/\∀ m:Int,m∈ns->(∀ a∈ns,m<=a)->Q (.int m) S
def zet:DB:=fun vs S Q=>∃ x bs,vs=[x]/\Lst S x (List.map D.bl bs)/\Q (.bl (bs.all id)) S
def zga:DB:=fun vs S Q=>∃ x xs,vs=[x]/\zgF S x xs/\Q (.ref S.length) (S++[.lst xs])
def ziW (t:String):Bool:=t=="int"||t=="bool"||t=="tuple"||t=="list"||t=="str"
def zoS (S:Sto)(t:String)(d:D):Option Bool:=if (!ziW t)=true then none else match d with
 | .non=>some false
 | .bl _=>some (t=="bool"||t=="int")
 | .int _=>some (t=="int")
 | .str _=>some (t=="str")
 | .tup _=>some (t=="tuple")
 | .ref n=>match S[n]? with
  | some (.lst _)=>some (t=="list")
  | _=>none
 | .ty _=>none
 | .rl _=>none
 | .exn _=>none
def zdM:DB:=fun vs S Q=>∃ x t b,vs=[x,.ty t]/\zoS S t x=some b/\Q (.bl b) S
abbrev p2 (c:Int×Int):D:=.tup [.int c.1,.int c.2]
def zdB:DM:=fun x vs S Q=>∃ n xs y,x=.ref n/\vs=[y]/\S[n]?=some (.lst xs)/\xs.length<big/\Q .non (S.set n (.lst (xs++[y])))
def zqu:DM:=fun x vs S Q=>∃ n xs m ys,x=.ref n/\vs=[.ref m]/\S[n]?=some (.lst xs)/\S[m]?=some (.lst ys)/\m≠n/\xs.length+ys.length<=big/\Q .non (S.set n (.lst (xs++ys)))
def zhV:DM:=fun x vs S Q=>zqu x vs S Q\/∃ n xs ys,x=.ref n/\vs=[.tup ys]/\S[n]?=some (.lst xs)/\xs.length+ys.length<=big/\Q .non (S.set n (.lst (xs++ys)))
def zgX:DM:=fun x vs S Q=>∃ n xs k y,x=.ref n/\vs=[.int k,y]/\S[n]?=some (.lst xs)/\0<=k/\k<2 ^ 40/\xs.length<big/\Q .non (S.set n (.lst (xs.take k.toNat++y::xs.drop k.toNat)))
def zmD:DM:=fun x vs S Q=>∃ n xs k y,x=.ref n/\vs=[.int ((k:Nat):Int)]/\S[n]?=some (.lst xs)/\k<1000/\xs[k]?=some y/\Q y (S.set n (.lst (xs.eraseIdx k)))
def zhR:DM:=fun x vs S Q=>∃ n xs,x=.ref n/\vs=[]/\S[n]?=some (.lst xs)/\Q .non (S.set n (.lst xs.reverse))
def zB (i:Nat):DG:=fun d ρ S Q=>Q (ρ.set i (some d)) S
def zcc:DGs:=fun ds ρ S Q=>ds=[]/\Q ρ S
def zag (t:DG)(u:DGs):DGs:=fun ds ρ S Q=>∃ d r,ds=d::r/\t d ρ S fun ρ' S'=>u r ρ' S' Q
def zcf (n:Nat)(t:DGs):DG:=fun d ρ S Q=>∃ xs,d=.tup xs/\xs.length=n/\t xs ρ S Q
def ziT (to ti:DE):DG:=fun d ρ S Q=>to ρ S fun o S1=>ti ρ S1 fun i S2=>∃ n xs k j,o=.ref n/\i=.int k/\S2[n]?=some (.lst xs)/\ixD xs.length k=some j/\Q ρ (S2.set n (.lst (xs.set j d)))
def zH (t u:DS):DS:=fun E ρ S=>t { E with nx:=u E } ρ S
def zZ:DS:=fun E ρ S=>E.nx ρ S
def zY (t:DE):DS:=fun E ρ S=>t ρ S E.rt
def zaJ (t:DE):DS:=fun E ρ S=>t ρ S fun _ S1=>E.nx ρ S1
def zQ (t:DE)(g:DG):DS:=fun E ρ S=>t ρ S fun x S1=>g x ρ S1 E.nx
def sIf (c:DT)(t u:DS):DS:=fun E ρ S=>c ρ S fun b S1=>if b=true then t E ρ S1 else u E ρ S1
def sJ (t:DS):DS:=fun E ρ S=>∃ J:Rho->Sto->Prop,(∀ ρ S,J ρ S->E.nx ρ S)/\t { E with nx:=J } ρ S
def zbR:DS:=fun _ _ _=>False
def zdS (c f:Str)(to tv:DE):DS:=fun E ρ S=>tv ρ S fun y S1=>to ρ S1 fun x S2=>∃ n fs,x=.ref n/\S2[n]?=some (.ins c fs)/\fs.length<100/\E.nx ρ (S2.set n (.ins c (putD f y fs)))
def zpC (i:Nat)(t:DE):DS:=fun E ρ S=>∃ a,ρ[i]?=some (some (.int a))/\t ρ S fun y S1=>∃ b,y=.int b/\E.nx (ρ.set i (some (.int (a+b)))) S1
def zib (c:DT)(t:DS):DS:=fun E ρ S=>∃ W:Nat->Rho->Sto->Prop,(∃ m,W m ρ S)/\∀ m ρ S,W m ρ S ->
 c ρ S fun b S1=>if b=true then ∃ N:Rho->Sto->Prop,(∀ ρ' S',N ρ' S'->∃ m',m'<m/\W m' ρ' S')/\t { E with nx:=N,ct:=N,bk:=E.nx } ρ S1 else E.nx ρ S1
def zcs (wi:DI)(g:DG)(t:DS):DS:=fun E ρ S=>wi ρ S fun J S1=>∃ W:Nat->Rho->Sto->Prop,W 0 ρ S1/\(∀ i ρ S,W i ρ S->J.ok S) /\
 (∀ i d ρ S,J.items[i]?=some d->W i ρ S->g d ρ S fun ρ2 S2=>t { E with nx:=W (i+1),ct:=W (i+1),bk:=E.nx } ρ2 S2)/\∀ ρ S,W J.items.length ρ S->E.nx ρ S
def signs (z:Str):List D:=z.cps.toList.map fun c=>.str ⟨#[c]⟩
def zig (x:D)(S1:Sto)(R:DIt->Sto->Prop):Prop:=(∃ xs,x=.tup xs/\R ⟨xs,fun _=>True⟩ S1)\/(∃ xs,Lst S1 x xs/\R ⟨xs,fun S=>Lst S x xs⟩ S1)\/(∃ z:Str,x=.str z/\R ⟨signs z,fun _=>True⟩ S1)
def zbi (t:DE):DI:=fun ρ S R=>t ρ S fun x S1=>zig x S1 R
def upto (lo:Int)(n:Nat):List D:=(List.range n).map fun k:Nat=>D.int (lo+(k:Int))
def zeS (t:DA):DI:=fun ρ S R=>t ρ S fun vs S1=>∃ j:Int,vs=[.int j]/\-(2 ^ 62)<=j/\j<2 ^ 62/\R ⟨upto 0 j.toNat,fun _=>True⟩ S1
def zj0 (t:DA):DI:=fun ρ S R=>t ρ S fun vs S1=>∃ i j:Int,vs=[.int i,.int j]/\R ⟨upto i (j-i).toNat,fun _=>True⟩ S1
def zcG:Nat->List D->List D
 | _,[]=>[]
 | k,x::xs=>.tup [.int (k:Nat),x]::zcG (k+1) xs
def zb0:List D->List D->List D
 | x::xs,y::ys=>.tup [x,y]::zb0 xs ys
 | _,_=>[]
def zfN (c:List Str)(z:Str):List Str:=if c.any (·==z)=true then c else c++[z]
def zb2 (f:Nat->Str):Nat->List Str
 | 0=>[]
 | i+1=>zfN (zb2 f i) (f i)
def zkg (zs:List Str):Nat:=(zb2 (fun i=>zs.getD i Str.empty) zs.length).length
def zjZ:DB:=fun vs S Q=>∃ x,∃ zs:List Str,vs=[x]/\Lst S x (zs.map D.str)/\zs.length<=4000/\Q (.int (zkg zs)) S
def zkk (R:DIt->Sto->Prop)(vs:List D)(S1:Sto):Prop:=(∃ x xs,vs=[x]/\Lst S1 x xs/\R ⟨zcG 0 xs,fun S=>Lst S x xs⟩ S1)\/(∃ xs,vs=[.tup xs]/\R ⟨zcG 0 xs,fun _=>True⟩ S1)
def zeL (t:DA):DI:=fun ρ S R=>t ρ S (zkk R)
def zl7 (R:DIt->Sto->Prop)(vs:List D)(S1:Sto):Prop:=(∃ x y xs ys,vs=[x,y]/\Lst S1 x xs/\Lst S1 y ys/\R ⟨zb0 xs ys,fun S=>Lst S x xs/\Lst S y ys⟩ S1)\/(∃ xs ys,vs=[.tup xs,.tup ys]/\R ⟨zb0 xs ys,fun _=>True⟩ S1)
def zoM (t:DA):DI:=fun ρ S R=>t ρ S (zl7 R)
def zhZ (own:Nat)(fv:List Nat)(ρ:Rho):Rho:=List.replicate own none++fv.map fun j=>(ρ[j]?).join
def zbv:DT:=fun _ S Q=>Q true S
def dLC (own:Nat)(fv:List Nat)(wi:DI)(g:DG)(tc:DT)(te:DE):DE:=fun ρ S Q=>wi ρ S fun J S1=>J.items.length<=big/\∃ W:Nat->List D->Sto->Prop,W 0 [] S1/\(∀ i ys S,W i ys S->J.ok S) /\
 (∀ i d ys S,J.items[i]?=some d->W i ys S->g d (zhZ own fv ρ) S fun ρ2 S2=>tc ρ2 S2 fun b S3=>if b=true then te ρ2 S3 fun y S4=>W (i+1) (ys++[y]) S4 else W (i+1) ys S3) /\
 ∀ ys S,W J.items.length ys S->Q (.ref S.length) (S++[.lst ys])
def kD:Sum Int Str->D
 | .inl i=>.int i
 | .inr x=>.str x
section
variable {κ:Type}[DecidableEq κ]
def dval (kvs:List (κ×D))(k:κ):Option D:=(kvs.find? fun kv=>decide (kv.1=k)).map (·.2)
def dput (kvs:List (κ×D))(k:κ)(v:D):List (κ×D):=if (kvs.any fun kv=>decide (kv.1=k))=true then kvs.map (fun kv=>if kv.1=k then (kv.1,v) else kv) else kvs++[(k,v)]
end
def DGt (S:Sto)(x y:D)(o:Option D):Prop:=(∃ n kvs z,x=.ref n/\y=.str z/\S[n]?=some (.dk kvs)/\o=dval kvs z)\/(∃ n kvs ks,x=.ref n/\y=.tup (ks.map kD)/\S[n]?=some (.dt kvs)/\o=dval kvs ks)
def zmJ:DE:=fun _ S Q=>Q (.ref S.length) (S++[.dk []])
def zhE (td ti:DE):DE:=fun ρ S Q=>td ρ S fun x S1=>ti ρ S1 fun y S2=>∃ d,DGt S2 x y (some d)/\Q d S2
def zil (S:Sto)(x y v:D)(Q:Sto->Prop):Prop:=(∃ n kvs z,x=.ref n/\y=.str z/\S[n]?=some (.dk kvs)/\kvs.length<big/\Q (S.set n (.dk (dput kvs z v))))\/(∃ n kvs ks,x=.ref n/\y=.tup (ks.map kD)/\S[n]?=some (.dt kvs)/\kvs.length<big/\Q (S.set n (.dt (dput kvs ks v))))
def zmp (td ti tv:DE):DS:=fun E ρ S=>tv ρ S fun v S1=>td ρ S1 fun x S2=>ti ρ S2 fun y S3=>zil S3 x y v (E.nx ρ)
def fc:Cell->Bool
 | .lst xs=>xs.all (fl 20)
 | .ins _ _=>false
 | .dk _=>false
 | .dt _=>false
def Fin (S:Sto)(Q:DK):DK:=fun d S'=>Q d S'\/∃ S1,S1 <+: S'/\S.length<=S1.length/\(fl 20 d=true\/∃ n,d=.ref n/\n<S1.length)/\(∀ (n:Nat) c,S1[n]?=some c->S[n]?=some c\/fc c=true)/\Q d S1
def zd3 (n:Nat)(ds:List D):Rho:=ds.map some++List.replicate (n-ds.length) none
def BodyOk (n:Nat)(b:DS)(f:DSp):Prop:=∀ ds S Q,f ds S Q->b ⟨fun _ S'=>Fin S Q .non S',Fin S Q,fun _ _=>False,fun _ _=>False⟩ (zd3 n ds) S
abbrev XD:=Str->Sto->Prop
abbrev XR:=Rho->Str->Sto->Prop
abbrev zdC:=List D->Sto->DK->XD->Prop
def zbF (f:zdC)(ex:XR)(t:DA):DE:=fun ρ S Q=>t ρ S fun xs S1=>f xs S1 Q (ex ρ)
def xF:XR:=fun _ _ _=>False
def zfz (ex:XR)(c:Str):DS:=fun _ ρ S=>ex ρ c S
def zdj (n:Nat)(b:XR->DS)(f:zdC):Prop:=∀ ds S Q ex,f ds S Q ex->b (fun _=>ex) ⟨fun _ S'=>Fin S Q .non S',Fin S Q,fun _ _=>False,fun _ _=>False⟩ (zd3 n ds) S
def New (Q:DK)(S:Sto)(xs:List D):Prop:=Q (.ref S.length) (S++[.lst xs])
def Put (Q:Sto->Prop)(S:Sto)(n:Nat)(c:Cell):Prop:=Q (S.set n c)
def zoy (own:Nat)(fv:List Nat)(g:DG)(tc:DT)(te:DE)(ρ:Rho)(Q:DK)(J:DIt)(S:Sto):Prop:=J.items.length<=big/\∃ W:Nat->List D->Sto->Prop,W 0 [] S/\(∀ i ys S,W i ys S->J.ok S) /\
 (∀ i d ys S,J.items[i]?=some d->W i ys S->g d (zhZ own fv ρ) S fun ρ2 S2=>tc ρ2 S2 fun b S3=>if b=true then te ρ2 S3 fun y S4=>W (i+1) (ys++[y]) S4 else W (i+1) ys S3) /\
 ∀ ys S,W J.items.length ys S->New Q S ys
def zpN (d:D)(ρ:Rho)(Q:Rho->Sto->Prop)(o i:D)(S2:Sto):Prop:=∃ n xs k j,o=.ref n/\i=.int k/\S2[n]?=some (.lst xs)/\ixD xs.length k=some j/\Q ρ (S2.set n (.lst (xs.set j d)))
def zpP (nx:Rho->Sto->Prop)(rt:DK)(g:DG)(t:DS)(ρ:Rho)(J:DIt)(S:Sto):Prop:=∃ W:Nat->Rho->Sto->Prop,W 0 ρ S/\(∀ i ρ S,W i ρ S->J.ok S) /\
 (∀ i d ρ S,J.items[i]?=some d->W i ρ S->g d ρ S fun ρ2 S2=>t ⟨W (i+1),rt,nx,W (i+1)⟩ ρ2 S2)/\∀ ρ S,W J.items.length ρ S->nx ρ S
def zpZ (W:Nat->Rho->Sto->Prop)(m:Nat)(t:DS)(rt:DK)(nx:Rho->Sto->Prop)(ρ:Rho)(S:Sto):Prop:=∃ N:Rho->Sto->Prop,(∀ ρ' S',N ρ' S'->∃ m',m'<m/\W m' ρ' S')/\t ⟨N,rt,nx,N⟩ ρ S
theorem zbq {nx:Rho->Sto->Prop}{rt:DK}{g:DG}{t:DS}{ρ:Rho}{xs:List D}{ok:Sto->Prop}{S:Sto}(W:Nat->Rho->Sto->Prop)(h0:W 0 ρ S)(hok:∀ i ρ S,W i ρ S->ok S)
  (step:∀ i d ρ S,xs[i]?=some d->W i ρ S->g d ρ S fun ρ2 S2=>t ⟨W (i+1),rt,nx,W (i+1)⟩ ρ2 S2) (fin:∀ ρ S,W xs.length ρ S->nx ρ S):zpP nx rt g t ρ ⟨xs,ok⟩ S:=⟨W,h0,hok,step,fin⟩
theorem zty {S:Sto}{Q:DK}{xs:List D}(h:Q (.ref S.length) (S++[.lst xs])):New Q S xs:=h
theorem zc5 {S T:Sto}{Q:DK}{xs:List D}(h:Q (.ref (S.length+T.length)) (S++(T++[.lst xs]))):New Q (S++T) xs:=by
 unfold New;rw [List.length_append,List.append_assoc];exact h
section
variable {S:Sto}{Q:DK}{xs:List D}{a b c d e f:Cell}
theorem ztt (h:Q (.ref (S.length+1)) (S++[a,.lst xs])):New Q (S++[a]) xs:=zc5 h
theorem ztX (h:Q (.ref (S.length+2)) (S++[a,b,.lst xs])):New Q (S++[a,b]) xs:=zc5 h
theorem zur (h:Q (.ref (S.length+3)) (S++[a,b,c,.lst xs])):New Q (S++[a,b,c]) xs:=zc5 h
theorem zts (h:Q (.ref (S.length+4)) (S++[a,b,c,d,.lst xs])):New Q (S++[a,b,c,d]) xs:=zc5 h
theorem zt4 (h:Q (.ref (S.length+5)) (S++[a,b,c,d,e,.lst xs])):New Q (S++[a,b,c,d,e]) xs:=zc5 h
end
theorem zko {S:Sto}{a:Cell}{T:Sto}{Q:Sto->Prop}{c:Cell}(h:Q (S++c::T)):Put Q (S++a::T) S.length c:=by
 unfold Put;rw [List.set_append_right _ _ (Nat.le_refl _),Nat.sub_self];exact h
theorem zrX {S:Sto}{a:Cell}{G T:Sto}{Q:Sto->Prop}{c:Cell}(h:Q (S++c::(G++T))):Put Q (S++(a::G++T)) S.length c:=zko h
theorem zeJ {S:Sto}{Q:Sto->Prop}{n:Nat}{c:Cell}(h:Q (S.set n c)):Put Q S n c:=h
theorem zux {S T:Sto}{Q:Sto->Prop}{k:Nat}{c:Cell}(h:Q (S++T.set k c)):Put Q (S++T) (S.length+k) c:=by
 unfold Put;rw [List.set_append_right _ _ (Nat.le_add_right _ _),Nat.add_sub_cancel_left];exact h
section
variable {nx:Rho->Sto->Prop}{rt:DK}{bk ct:Rho->Sto->Prop}{ρ:Rho}{S:Sto}
theorem zmM {t u:DS}(h:t ⟨u ⟨nx,rt,bk,ct⟩,rt,bk,ct⟩ ρ S):zH t u ⟨nx,rt,bk,ct⟩ ρ S:=h
theorem r_J {t:DS}(J:Rho->Sto->Prop)(h:t ⟨J,rt,bk,ct⟩ ρ S)(hJ:∀ ρ S,J ρ S->nx ρ S):sJ t ⟨nx,rt,bk,ct⟩ ρ S:=⟨J,hJ,h⟩
theorem zsG (h:nx ρ S):zZ ⟨nx,rt,bk,ct⟩ ρ S:=h
theorem zpU {t:DE}(h:t ρ S rt):zY t ⟨nx,rt,bk,ct⟩ ρ S:=h
theorem zsR {t:DE}(h:t ρ S fun _ S1=>nx ρ S1):zaJ t ⟨nx,rt,bk,ct⟩ ρ S:=h
theorem zpY {t:DE}{g:DG}(h:t ρ S fun x S1=>g x ρ S1 nx):zQ t g ⟨nx,rt,bk,ct⟩ ρ S:=h
theorem zuU {c:DT}{t u:DS}(h:c ρ S fun b S1=>if b=true then t ⟨nx,rt,bk,ct⟩ ρ S1 else u ⟨nx,rt,bk,ct⟩ ρ S1):sIf c t u ⟨nx,rt,bk,ct⟩ ρ S:=h
theorem zr9 {c f:Str}{to tv:DE}(h:tv ρ S fun y S1=>to ρ S1 fun x S2=>∃ n fs,x=.ref n/\S2[n]?=some (.ins c fs)/\fs.length<100/\nx ρ (S2.set n (.ins c (putD f y fs)))):zdS c f to tv ⟨nx,rt,bk,ct⟩ ρ S:=h
theorem ztn {i:Nat}{t:DE}{a:Int}(e:ρ[i]?=some (some (.int a)))(h:t ρ S fun y S1=>∃ b,y=.int b/\nx (ρ.set i (some (.int (a+b)))) S1):zpC i t ⟨nx,rt,bk,ct⟩ ρ S:=⟨a,e,h⟩
theorem zuo {wi:DI}{g:DG}{t:DS}(h:wi ρ S fun J S1=>zpP nx rt g t ρ J S1):zcs wi g t ⟨nx,rt,bk,ct⟩ ρ S:=h
theorem zso {c:DT}{t:DS}(W:Nat->Rho->Sto->Prop)(m:Nat)(h0:W m ρ S)(h:∀ m ρ S,W m ρ S->c ρ S fun b S1=>if b=true then zpZ W m t rt nx ρ S1 else nx ρ S1):zib c t ⟨nx,rt,bk,ct⟩ ρ S:=⟨W,⟨m,h0⟩,h⟩
theorem zn6 {t:DS}{W:Nat->Rho->Sto->Prop}{m:Nat}(h:t ⟨fun ρ' S'=>∃ m',m'<m/\W m' ρ' S',rt,nx,fun ρ' S'=>∃ m',m'<m/\W m' ρ' S'⟩ ρ S):zpZ W m t rt nx ρ S:=⟨_,fun _ _ z=>z,h⟩
theorem zqX {i:Nat}{d:D}{Q:Rho->Sto->Prop}(h:Q (ρ.set i (some d)) S):zB i d ρ S Q:=h
theorem zrO {Q:Rho->Sto->Prop}(h:Q ρ S):zcc [] ρ S Q:=⟨rfl,h⟩
theorem zqz {t:DG}{u:DGs}{d:D}{r:List D}{Q:Rho->Sto->Prop}(h:t d ρ S fun ρ' S'=>u r ρ' S' Q):zag t u (d::r) ρ S Q:=⟨d,r,rfl,h⟩
theorem zro {n:Nat}{t:DGs}{xs:List D}{Q:Rho->Sto->Prop}(e:xs.length=n)(h:t xs ρ S Q):zcf n t (.tup xs) ρ S Q:=⟨xs,rfl,e,h⟩
theorem zsQ {to ti:DE}{d:D}{Q:Rho->Sto->Prop}(h:to ρ S fun o S1=>ti ρ S1 fun i S2=>zpN d ρ Q o i S2):ziT to ti d ρ S Q:=h
theorem zf2 {i:Nat}{d:D}{Q:DK}(h:ρ[i]?=some (some d))(q:Q d S):zf i ρ S Q:=⟨d,h,q⟩
theorem r_c {d:D}{Q:DK}(q:Q d S):dC d ρ S Q:=q
theorem zmv {r:DR2}{ta tb:DE}{Q:DK}(h:ta ρ S fun x S1=>tb ρ S1 fun y S2=>r x y S2 Q):dOp r ta tb ρ S Q:=h
theorem zuK {r:D->Sto->DK->Prop}{ta:DE}{Q:DK}(h:ta ρ S fun x S1=>r x S1 Q):dUn r ta ρ S Q:=h
theorem ztv {Q:List D->Sto->Prop}(h:Q [] S):zA ρ S Q:=h
theorem zkO {ta:DE}{tr:DA}{Q:List D->Sto->Prop}(h:ta ρ S fun x S1=>tr ρ S1 fun xs S2=>Q (x::xs) S2):zm ta tr ρ S Q:=h
theorem zpL {t:DA}{Q:DK}(h:t ρ S fun xs S1=>xs.length<=big/\Q (.tup xs) S1):dTup t ρ S Q:=h
theorem zt7 {t:DA}{Q:DK}(h:t ρ S fun xs S1=>xs.length<=big/\New Q S1 xs):zcM t ρ S Q:=h
theorem zuA {xs:List D}{P:Prop}(h:Nat.ble xs.length big=true)(q:P):xs.length<=big/\P:=⟨Nat.le_of_ble_eq_true h,q⟩
theorem zsd {f:DSp}{t:DA}{Q:DK}(h:t ρ S fun xs S1=>f xs S1 Q):dCall f t ρ S Q:=h
theorem r_b {r:DB}{t:DA}{Q:DK}(h:t ρ S fun xs S1=>r xs S1 Q):dB r t ρ S Q:=h
theorem r_m {r:DM}{ta:DE}{t:DA}{Q:DK}(h:ta ρ S fun x S1=>(∃ n ys,x=.ref n/\S1[n]?=some (.lst ys))/\t ρ S1 fun xs S2=>r x xs S2 Q):dM r ta t ρ S Q:=h
theorem zmu {n:Nat}{ys:List D}{P:Prop}(h:S[n]?=some (.lst ys))(q:P):(∃ m ys,D.ref n=.ref m/\S[m]?=some (.lst ys))/\P:=⟨⟨n,ys,rfl,h⟩,q⟩
theorem r_t {t:DE}{Q:Bool->Sto->Prop}(h:t ρ S fun x S1=>∃ b,x=.bl b/\Q b S1):dT t ρ S Q:=h
theorem zu3 {c:Bool}{P:Bool->Prop}(h:P c):∃ b,D.bl c=D.bl b/\P b:=⟨c,rfl,h⟩
theorem ztQ {c:Int}{P:Int->Prop}(h:P c):∃ b,D.int c=D.int b/\P b:=⟨c,rfl,h⟩
theorem ztj {t u:DT}{Q:Bool->Sto->Prop}(h:t ρ S fun c S1=>if c=true then u ρ S1 Q else Q false S1):zhB t u ρ S Q:=h
theorem zvf {t u:DT}{Q:Bool->Sto->Prop}(h:t ρ S fun c S1=>if c=true then Q true S1 else u ρ S1 Q):dOr t u ρ S Q:=h
theorem ztT {t:DT}{Q:Bool->Sto->Prop}(h:t ρ S fun c S1=>Q (!c) S1):zdp t ρ S Q:=h
theorem zsa {t u:DE}{Q:DK}(h:t ρ S fun x S1=>∃ c,x=.bl c/\if c=true then u ρ S1 Q else Q (.bl false) S1):zfB t u ρ S Q:=h
theorem zrG {t:DE}{Q:DK}(h:t ρ S fun x S1=>∃ c,x=.bl c/\Q (.bl (!c)) S1):zhj t ρ S Q:=h
theorem zqn {r r':DR2}{ta tb tc:DE}{Q:DK}(h:ta ρ S fun x S1=>tb ρ S1 fun y S2=>r x y S2 fun z S3=>∃ c,z=.bl c/\if c=true then tc ρ S3 fun w S4=>r' y w S4 Q else Q (.bl false) S3):ziK r r' ta tb tc ρ S Q:=h
theorem zue {f:Str}{ta:DE}{Q:DK}(h:ta ρ S fun x S1=>∃ n c fs d,x=.ref n/\S1[n]?=some (.ins c fs)/\fs.lookup f=some d/\Q d S1):zcy f ta ρ S Q:=h
theorem zuM {r:D->Option Int->Option Int->Sto->DK->Prop}{ta:DE}{lo hi:Option DE}{Q:DK}(h:ta ρ S fun x S1=>zhN lo ρ S1 fun l S2=>zhN hi ρ S2 fun h S3=>r x l h S3 Q):dSl r ta lo hi ρ S Q:=h
theorem zrw {Q:Option Int->Sto->Prop}(h:Q none S):zhN none ρ S Q:=h
theorem zrA {t:DE}{Q:Option Int->Sto->Prop}(h:t ρ S fun x S1=>∃ i,x=.int i/\Q (some i) S1):zhN (some t) ρ S Q:=h
theorem zrJ {Q:Bool->Sto->Prop}(h:Q true S):zbv ρ S Q:=h
end
section
variable {S:Sto}{Q:DK}
theorem zud {i j:Int}(q:Q (.int (i+j)) S):zaD (.int i) (.int j) S Q:=.inl ⟨i,j,rfl,rfl,q⟩
theorem zre {xs ys:List D}(h:xs.length+ys.length<=big)(q:Q (.tup (xs++ys)) S):zaD (.tup xs) (.tup ys) S Q:=.inr (.inl ⟨xs,ys,rfl,rfl,h,q⟩)
theorem zn0 {x y:D}{xs ys:List D}(hx:Lst S x xs)(hy:Lst S y ys)(h:xs.length+ys.length<=big)(q:New Q S (xs++ys)):zaD x y S Q:=.inr (.inr (.inl ⟨xs,ys,hx,hy,h,q⟩))
theorem zsv {i j:Str}(h:i.length+j.length<=big)(q:Q (.str (i++j)) S):zaD (.str i) (.str j) S Q:=.inr (.inr (.inr ⟨i,j,rfl,rfl,h,q⟩))
theorem zt8 {i j:Int}(q:Q (.int (i-j)) S):zaS (.int i) (.int j) S Q:=⟨i,j,rfl,rfl,q⟩
theorem zui {i j:Int}(c:zaH i j)(q:Q (.int (i*j)) S):zbt (.int i) (.int j) S Q:=.inl ⟨i,j,rfl,rfl,c,q⟩
theorem ztD {c:Nat}{z:Str}(q:Q (.bl (decide (c∈z.cps.toList))) S):oIn (.str ⟨#[c]⟩) (.str z) S Q:=.inr ⟨c,z,rfl,rfl,q⟩
theorem ztf {i j:Int}(c:0<j/\My.Bd 8000 j)(q:Q (.int (i/j)) S):oDiv (.int i) (.int j) S Q:=⟨i,j,rfl,rfl,⟨by omega,c.2⟩,by show Q (.int (i.fdiv j)) S;rw [Int.fdiv_eq_ediv_of_nonneg i (by omega)];exact q⟩
theorem ztY {i j:Int}(c:0<j)(q:Q (.int (i%j)) S):oMod (.int i) (.int j) S Q:=⟨i,j,rfl,rfl,(by show j≠0;omega),by show Q (.int (i.fmod j)) S;rw [Int.fmod_eq_emod_of_nonneg i (by omega)];exact q⟩
theorem zm4 {i j:Int}(c:zp1 i j)(q:Q (.int (i.fdiv j)) S):oDiv (.int i) (.int j) S Q:=⟨i,j,rfl,rfl,c,q⟩
theorem zrm {i j:Int}(c:j≠0)(q:Q (.int (i.fmod j)) S):oMod (.int i) (.int j) S Q:=⟨i,j,rfl,rfl,c,q⟩
theorem ztS {i:Int}(q:Q (.int (-i)) S):zd6 (.int i) S Q:=⟨i,rfl,q⟩
theorem zu6 {i j:Int}(q:Q (.bl (decide (i<j))) S):oLt (.int i) (.int j) S Q:=⟨i,j,rfl,rfl,q⟩
theorem zu8 {i j:Int}(q:Q (.bl (decide (i<=j))) S):oLe (.int i) (.int j) S Q:=⟨i,j,rfl,rfl,q⟩
theorem zu0 {i j:Int}(q:Q (.bl (decide (j<i))) S):oGt (.int i) (.int j) S Q:=⟨i,j,rfl,rfl,q⟩
theorem zuY {i j:Int}(q:Q (.bl (decide (j<=i))) S):oGe (.int i) (.int j) S Q:=⟨i,j,rfl,rfl,q⟩
theorem ztz {i j:Int}(q:Q (.bl (decide (i=j))) S):oEq (.int i) (.int j) S Q:=⟨_,.inl ⟨rfl,rfl,rfl⟩,q⟩
theorem zuv {i j:Int}(q:Q (.bl (!decide (i=j))) S):oNe (.int i) (.int j) S Q:=⟨_,.inl ⟨rfl,rfl,rfl⟩,q⟩
theorem zup {i j:Bool}(q:Q (.bl (!(i==j))) S):oNe (.bl i) (.bl j) S Q:=⟨_,.inl ⟨rfl,rfl,rfl⟩,q⟩
theorem zuE {x:D}(q:Q (.bl (zbf x)) S):oIs x .non S Q:=.inl ⟨rfl,q⟩
theorem zs9 (q:Q (.bl false) S):zfe .non .non S Q:=.inl ⟨rfl,q⟩
theorem zsz {i:Int}(q:Q (.bl true) S):zfe (.int i) .non S Q:=.inl ⟨rfl,q⟩
theorem zsm {xs:List D}(q:Q (.bl true) S):zfe (.tup xs) .non S Q:=.inl ⟨rfl,q⟩
theorem ztF {x:D}(q:Q (.bl (!zbf x)) S):zfe x .non S Q:=.inl ⟨rfl,q⟩
theorem ztg {xs:List D}{i:Int}{d:D}(e:atD xs i=some d)(q:Q d S):oIx (.tup xs) (.int i) S Q:=.inl ⟨i,xs,d,rfl,.inl rfl,e,q⟩
theorem ztR {x:D}{xs:List D}{i:Int}{d:D}(h:Lst S x xs)(e:atD xs i=some d)(q:Q d S):oIx x (.int i) S Q:=.inl ⟨i,xs,d,rfl,.inr h,e,q⟩
theorem ztK {z:Str}{i:Int}{c:Nat}(hz:z.length<=big)(e:atS z i=some c)(q:Q (.str ⟨#[c]⟩) S):oIx (.str z) (.int i) S Q:=.inr ⟨z,i,c,rfl,rfl,hz,e,q⟩
theorem zrj {x:D}{xs:List D}{lo hi:Option Int}(h:Lst S x xs)(q:New Q S (cutD xs lo hi)):zgS x lo hi S Q:=.inr (.inl ⟨xs,h,q⟩)
theorem zsC {xs:List D}(q:Q (.int xs.length) S):za0 [.tup xs] S Q:=.inl ⟨_,xs,rfl,.inl rfl,q⟩
theorem zsZ {x:D}{xs:List D}(h:Lst S x xs)(q:Q (.int xs.length) S):za0 [x] S Q:=.inl ⟨_,xs,rfl,.inr h,q⟩
theorem znE {z:Str}(hz:z.length<=big)(q:Q (.int z.length) S):za0 [.str z] S Q:=.inr ⟨z,rfl,hz,q⟩
theorem ztc {i:Int}(q:Q (.int (i.natAbs:Int)) S):zpn [.int i] S Q:=⟨i,rfl,q⟩
theorem zsg {i j:Int}(q:Q (.int (max i j)) S):zio [.int i,.int j] S Q:=⟨i,j,rfl,q⟩
theorem zsO {i j:Int}(q:Q (.int (min i j)) S):zhf [.int i,.int j] S Q:=⟨i,j,rfl,q⟩
theorem zrz {x:D}{ns:List Int}(h:Lst S x (ns.map D.int))(h0:0<ns.length)(q:∀ m:Int,m∈ns->(∀ a∈ns,a<=m)->Q (.int m) S):zmL [x] S Q:=⟨x,ns,rfl,h,h0,q⟩
theorem zm9 {x:D}{ns:List Int}(h:Lst S x (ns.map D.int))(h0:0<ns.length)(q:∀ m:Int,m∈ns->(∀ a∈ns,m<=a)->Q (.int m) S):zj1 [x] S Q:=⟨x,ns,rfl,h,h0,q⟩
theorem zj5 {x:D}{bs:List Bool}(h:Lst S x (bs.map D.bl))(q:Q (.bl (bs.all id)) S):zet [x] S Q:=⟨x,bs,rfl,h,q⟩
theorem zp2 {x:D}{xs:List D}(h:Lst S x xs)(q:New Q S xs):zga [x] S Q:=⟨_,xs,rfl,.inr h,q⟩
theorem zh6 {n:Nat}{xs:List D}{y:D}(h:S[n]?=some (.lst xs))(hl:xs.length<big)(q:Put (Q .non) S n (.lst (xs++[y]))):zdB (.ref n) [y] S Q:=⟨n,xs,y,rfl,rfl,h,hl,q⟩
theorem znx {n m:Nat}{xs ys:List D}(h:S[n]?=some (.lst xs))(hy:S[m]?=some (.lst ys))(hn:m≠n)(hl:xs.length+ys.length<=big)(q:Put (Q .non) S n (.lst (xs++ys))):zhV (.ref n) [.ref m] S Q:=.inl ⟨n,xs,m,ys,rfl,rfl,h,hy,hn,hl,q⟩
theorem zkj {n:Nat}{xs:List D}{k:Int}{y:D}(h:S[n]?=some (.lst xs))(h0:0<=k)(h1:k<=xs.length)(hl:xs.length<big)(q:Put (Q .non) S n (.lst (xs.take k.toNat++y::xs.drop k.toNat))):zgX (.ref n) [.int k,y] S Q:=⟨n,xs,k,y,rfl,rfl,h,h0,by unfold big at hl;omega,hl,q⟩
theorem zsl {n k:Nat}{xs:List D}{y:D}(h:S[n]?=some (.lst xs))(hk:k<1000)(hy:xs[k]?=some y)(q:Put (Q y) S n (.lst (xs.eraseIdx k))):zmD (.ref n) [.int ((k:Nat):Int)] S Q:=⟨n,xs,k,y,rfl,rfl,h,hk,hy,q⟩
theorem zng {n:Nat}{xs:List D}(h:S[n]?=some (.lst xs))(q:Put (Q .non) S n (.lst xs.reverse)):zhR (.ref n) [] S Q:=⟨n,xs,rfl,rfl,h,q⟩
theorem zpX {n:Nat}{xs:List D}{k:Int}{j:Nat}{d:D}{ρ:Rho}{Q:Rho->Sto->Prop}(h:S[n]?=some (.lst xs))(e:ixD xs.length k=some j)(q:Put (Q ρ) S n (.lst (xs.set j d))):zpN d ρ Q (.ref n) (.int k) S:=⟨n,xs,k,j,rfl,rfl,h,e,q⟩
end
section
variable {ρ:Rho}{S:Sto}{R:DIt->Sto->Prop}
theorem zrx {t:DE}(h:t ρ S fun x S1=>zig x S1 R):zbi t ρ S R:=h
theorem ztu {xs:List D}(q:R ⟨xs,fun _=>True⟩ S):zig (.tup xs) S R:=.inl ⟨xs,rfl,q⟩
theorem zt3 {x:D}{xs:List D}(h:Lst S x xs)(q:R ⟨xs,fun S=>Lst S x xs⟩ S):zig x S R:=.inr (.inl ⟨xs,h,q⟩)
theorem ztL {z:Str}(q:R ⟨signs z,fun _=>True⟩ S):zig (.str z) S R:=.inr (.inr ⟨z,rfl,q⟩)
theorem zrY {t:DA}(h:t ρ S fun vs S1=>∃ j:Int,vs=[.int j]/\-(2 ^ 62)<=j/\j<2 ^ 62/\R ⟨upto 0 j.toNat,fun _=>True⟩ S1):zeS t ρ S R:=h
theorem zr8 {t:DA}(h:t ρ S fun vs S1=>∃ i j:Int,vs=[.int i,.int j]/\R ⟨upto i (j-i).toNat,fun _=>True⟩ S1):zj0 t ρ S R:=h
theorem zrB {t:DA}(h:t ρ S (zkk R)):zeL t ρ S R:=h
theorem zi0 {x:D}{xs:List D}(h:Lst S x xs)(q:R ⟨zcG 0 xs,fun S=>Lst S x xs⟩ S):zkk R [x] S:=.inl ⟨x,xs,rfl,h,q⟩
theorem zny {Q:DK}{x:D}{zs:List Str}(hx:Lst S x (zs.map D.str))(hl:zs.length<=4000)(q:Q (.int (zkg zs)) S):zjZ [x] S Q:=⟨x,zs,rfl,hx,hl,q⟩
theorem zuw {t:DA}(h:t ρ S (zl7 R)):zoM t ρ S R:=h
theorem zvk {x y:D}{xs ys:List D}(hx:Lst S x xs)(hy:Lst S y ys)(q:R ⟨zb0 xs ys,fun S=>Lst S x xs/\Lst S y ys⟩ S):zl7 R [x,y] S:=.inl ⟨x,y,xs,ys,rfl,hx,hy,q⟩
theorem zvg {own:Nat}{fv:List Nat}{wi:DI}{g:DG}{tc:DT}{te:DE}{Q:DK}(h:wi ρ S fun J S1=>zoy own fv g tc te ρ Q J S1):dLC own fv wi g tc te ρ S Q:=h
end
theorem zo7 {A B:Prop}(h:B):if false=true then A else B:=by rw [if_neg Bool.false_ne_true];exact h
theorem zoT {A B:Prop}(h:A):if true=true then A else B:=by rw [if_pos rfl];exact h
theorem r_d {c A B:Prop}[Decidable c](h1:c->A)(h2:¬ c->B):if decide c=true then A else B:=by
 by_cases h:c
 ·rw [decide_eq_true h,if_pos rfl];exact h1 h
 ·rw [decide_eq_false h,if_neg Bool.false_ne_true];exact h2 h
theorem zeY {c A B:Prop}[Decidable c](h1:¬ c->A)(h2:c->B):if (!decide c)=true then A else B:=by
 by_cases h:c
 ·rw [decide_eq_true h];exact h2 h
 ·rw [decide_eq_false h];exact h1 h
theorem zaU (S T:Sto)(k:Nat):(S++T)[S.length+k]?=T[k]?:=by
 rw [List.getElem?_append_right (Nat.le_add_right _ _),Nat.add_sub_cancel_left]
theorem zq2 (S T:Sto):(S++T)[S.length]?=T[0]?:=zaU S T 0
theorem zaz {S T:Sto}{c:Cell}:(S++c::T)[S.length]?=some c:=(zaU S (c::T) 0).trans rfl
theorem zfq {S T:Sto}{c:Cell}:(S++(T++[c]))[S.length+T.length]?=some c:=by rw [zaU,List.getElem?_append_right (Nat.le_refl _),Nat.sub_self];rfl
theorem zqR (S T:Sto)(k:Nat)(c:Cell):(S++T).set (S.length+k) c=S++T.set k c:=by
 rw [List.set_append_right _ _ (Nat.le_add_right _ _),Nat.add_sub_cancel_left]
theorem zcl (S T:Sto)(a c:Cell):(S++a::T).set S.length c=S++c::T:=zqR S (a::T) 0 c
theorem zan {S T:Sto}{n:Nat}{c:Cell}(h:S[n]?=some c):(S++T)[n]?=some c:=by
 have:n<S.length:=by
  rcases Nat.lt_or_ge n S.length with g | g
  ·exact g
  ·rw [List.getElem?_eq_none g] at h;cases h
 rw [List.getElem?_append_left this];exact h
theorem Lst.old {S T:Sto}{x:D}{xs:List D}(h:Lst S x xs):Lst (S++T) x xs:=h.imp id fun⟨n,e,h⟩=>⟨n,e,zan h⟩
theorem Lst.at {S T:Sto}{k:Nat}{xs:List D}(h:T[k]?=some (.lst xs)):Lst (S++T) (.ref (S.length+k)) xs:=.inr ⟨_,rfl,by rw [zaU];exact h⟩
theorem Lst.at0 {S T:Sto}{xs:List D}:Lst (S++.lst xs::T) (.ref S.length) xs:=.inr ⟨_,rfl,by rw [zq2];rfl⟩
theorem Lst.new {S T:Sto}{xs:List D}:Lst (S++(T++[.lst xs])) (.ref (S.length+T.length)) xs:=.inr ⟨_,rfl,zfq⟩
theorem Lst.rl {S:Sto}{xs:List D}:Lst S (.rl xs) xs:=.inl rfl
theorem Lst.here {S:Sto}{n:Nat}{xs:List D}(h:S[n]?=some (.lst xs)):Lst S (.ref n) xs:=.inr ⟨n,rfl,h⟩
theorem zco {S T:Sto}{Q:DK}{d:D}(h:fl 20 d=true)(q:Q d S):Fin S Q d (S++T):=.inr ⟨S,List.prefix_append _ _,Nat.le_refl _,.inl h,fun _ _ e=>.inl e,q⟩
theorem fin_same {S S':Sto}{Q:DK}{d:D}(q:Q d S'):Fin S Q d S':=.inl q
section
variable {S:Sto}{Q:DK}
theorem zjP {i:Int}(q:Q (.bl true) S):zdM [.int i,.ty "int"] S Q:=⟨_,_,true,rfl,by rfl,q⟩
theorem ziV {i:Int}(q:Q (.bl false) S):zdM [.int i,.ty "bool"] S Q:=⟨_,_,false,rfl,by rfl,q⟩
theorem zjS {i:Bool}(q:Q (.bl true) S):zdM [.bl i,.ty "bool"] S Q:=⟨_,_,true,rfl,by rfl,q⟩
theorem ziB {xs:List D}(q:Q (.bl true) S):zdM [.tup xs,.ty "tuple"] S Q:=⟨_,_,true,rfl,by rfl,q⟩
theorem zjV {x:Str}(q:Q (.bl true) S):zdM [.str x,.ty "str"] S Q:=⟨_,_,true,rfl,by rfl,q⟩
theorem zjd {n:Nat}{xs:List D}(h:S[n]?=some (.lst xs))(q:Q (.bl true) S):zdM [.ref n,.ty "list"] S Q:=⟨_,_,true,rfl,by unfold zoS;rw [if_neg (by decide)];simp only [h];rfl,q⟩
end
theorem zt9 {A B:Prop}(h:B):if (!true)=true then A else B:=zo7 h
theorem ztP {A B:Prop}(h:A):if (!false)=true then A else B:=zoT h
theorem zgD {S:Sto}{Q:DK}{x:D}{bs:List Bool}{b:Bool}(h:Lst S x (bs.map D.bl))(e:bs.all id=b)(q:Q (.bl b) S):zet [x] S Q:=zj5 h (by rw [e];exact q)
def LcW (S:Sto)(items:List D)(p:D->Bool)(f:D->D)(i:Nat)(ys:List D)(S':Sto):Prop:=S'=S/\ys=((items.take i).filter p).map f
theorem zbe {α:Type}{xs:List α}{i:Nat}{x:α}(h:xs[i]?=some x):xs.take (i+1)=xs.take i++[x]:=by rw [List.take_succ,h];rfl
theorem zcH {S:Sto}{items:List D}{p:D->Bool}{f:D->D}{i:Nat}{ys:List D}{d y:D}(hd:items[i]?=some d)(hw:LcW S items p f i ys S)(hp:p d=true)(hy:y=f d):LcW S items p f (i+1) (ys++[y]) S :=
 ⟨rfl,by rw [zbe hd,List.filter_append,List.map_append,<- hw.2,List.filter_cons_of_pos hp,hy];rfl⟩
theorem zmi {S:Sto}{items:List D}{p:D->Bool}{f:D->D}{i:Nat}{ys:List D}{d:D}(hd:items[i]?=some d)(hw:LcW S items p f i ys S)(hp:p d=false):LcW S items p f (i+1) ys S :=
 ⟨rfl,by rw [zbe hd,List.filter_append,List.map_append,<- hw.2,List.filter_cons_of_neg (by rw [hp];exact Bool.false_ne_true)];simp⟩
theorem zbk {own:Nat}{fv:List Nat}{xs:List D}{ok:Sto->Prop}{g:DG}{tc:DT}{te:DE}{ρ:Rho}{S:Sto}{Q:DK}(p:D->Bool)(f:D->D)(hok:ok S)(hbig:xs.length<=big)
  (step:∀ i d ys,xs[i]?=some d->LcW S xs p f i ys S->g d (zhZ own fv ρ) S fun ρ2 S2=>tc ρ2 S2 fun b S3=>if b=true then te ρ2 S3 fun y S4=>LcW S xs p f (i+1) (ys++[y]) S4 else LcW S xs p f (i+1) ys S3)
  (q:New Q S ((xs.filter p).map f)):zoy own fv g tc te ρ Q ⟨xs,ok⟩ S:=by
 refine⟨hbig,LcW S xs p f,⟨rfl,by simp⟩,fun i ys S' h=>by rw [h.1];exact hok,fun i d ys S' hd h=>?_,fun ys S' h=>?_⟩
 ·obtain⟨rfl,_⟩:=id h
  exact step i d ys hd h
 ·obtain⟨rfl,rfl⟩:=h
  rw [List.take_length];exact q
theorem filter_true {α:Type}(xs:List α):xs.filter (fun _=>true)=xs:=List.filter_eq_self.mpr fun _ _=>rfl
theorem zbQ {ds:List D}{i:Nat}{d:D}(h:ds[i]?=some d):atD ds (i:Int)=some d:=by
 have hl:i<ds.length:=by
  rcases Nat.lt_or_ge i ds.length with g | g
  ·exact g
  ·rw [List.getElem?_eq_none g] at h;cases h
 unfold atD ixD
 rw [if_pos (by omega),if_pos (by omega)]
 simpa using h
theorem zen {lo:Int}{n i:Nat}{d:D}(h:(upto lo n)[i]?=some d):i<n/\d=.int (lo+i):=by
 unfold upto at h
 rw [List.getElem?_map] at h
 by_cases hi:i<n
 ·rw [List.getElem?_range hi] at h
  exact⟨hi,by simpa using h.symm⟩
 ·rw [List.getElem?_eq_none (by simpa using hi)] at h;cases h
theorem zcb (lo:Int)(n:Nat):(upto lo n).length=n:=by unfold upto;simp
theorem znH {zs:List Int}{k:Int}(h0:0<=k)(h:k<zs.length):∃ z,z∈zs/\atD (zs.map D.int) k=some (.int z):=by
 refine⟨zs[k.toNat]'(by omega),List.getElem_mem _,?_⟩
 unfold atD ixD
 rw [List.length_map,if_pos h0,if_pos h]
 simp only [Option.bind_some]
 rw [List.getElem?_map,List.getElem?_eq_getElem (by omega)];rfl
theorem zsM {zs:List Int}{k:Int}(h0:0<=k)(h:k<zs.length):ixD (zs.map D.int).length k=some k.toNat:=by
 unfold ixD
 rw [List.length_map,if_pos h0,if_pos h]
theorem zpy {zs:List Int}{i:Nat}{v z:Int}(h:z∈zs.set i v):z∈zs\/z=v:=by
 rcases List.mem_or_eq_of_mem_set h with h | h
 ·exact .inl h
 ·exact .inr h
theorem zel {zs:List Int}{i:Nat}{d:D}(h:(zs.map D.int)[i]?=some d):∃ z,zs[i]?=some z/\d=.int z:=by
 rw [List.getElem?_map] at h
 cases e:zs[i]? with
 | none=>rw [e] at h;cases h
 | some p=>rw [e] at h;cases h;exact⟨p,rfl,rfl⟩
theorem zk6 {cs:List (Int×Int)}{i:Nat}{d:D}(h:(cs.map p2)[i]?=some d):∃ c,cs[i]?=some c/\d=p2 c:=by
 rw [List.getElem?_map] at h
 cases e:cs[i]? with
 | none=>rw [e] at h;cases h
 | some p=>rw [e] at h;cases h;exact⟨p,rfl,rfl⟩
theorem zai {α:Type}{xs:List α}{i:Nat}{x:α}(h:xs[i]?=some x):i<xs.length:=by
 rcases Nat.lt_or_ge i xs.length with g | g
 ·exact g
 ·rw [List.getElem?_eq_none g] at h;cases h
def ze6:Option Int->D
 | none=>.non
 | some v=>.int v
theorem zbH:∀ {xs:List D} {k i:Nat} {d:D},(zcG k xs)[i]?=some d->∃ x,xs[i]?=some x/\d=.tup [.int ((k+i:Nat):Int),x]
 | [],k,i,d,h=>by simp [zcG] at h
 | x::xs,k,0,d,h=>⟨x,rfl,by simpa [zcG] using h.symm⟩
 | x::xs,k,i+1,d,h=>by
  obtain⟨y,e1,e2⟩:=zbH (xs:=xs) (k:=k+1) (i:=i) (d:=d) (by simpa [zcG] using h)
  exact⟨y,by simpa using e1,by rw [e2,show k+1+i=k+(i+1) by omega]⟩
theorem zaQ:∀ (k:Nat) (xs:List D),(zcG k xs).length=xs.length
  | _,[]=>rfl
  | k,x::xs=>congrArg (· + 1) (zaQ (k+1) xs)
theorem zf9:∀ {xs ys:List D} {i:Nat} {d:D},(zb0 xs ys)[i]?=some d->∃ x y,xs[i]?=some x/\ys[i]?=some y/\d=.tup [x,y]
 | [],ys,i,d,h=>by simp [zb0] at h
 | x::xs,[],i,d,h=>by simp [zb0] at h
 | x::xs,y::ys,0,d,h=>⟨x,y,rfl,rfl,by simpa [zb0] using h.symm⟩
 | x::xs,y::ys,i+1,d,h=>by
  obtain⟨a,b,e1,e2,e3⟩:=zf9 (xs:=xs) (ys:=ys) (i:=i) (d:=d) (by simpa [zb0] using h)
  exact⟨a,b,by simpa using e1,by simpa using e2,e3⟩
theorem zc7:∀ (xs ys:List D),(zb0 xs ys).length=min xs.length ys.length
 | [],ys=>by simp [zb0]
 | x::xs,[]=>by simp [zb0]
 | x::xs,y::ys=>by
  show (zb0 xs ys).length+1=min (xs.length+1) (ys.length+1)
  rw [zc7 xs ys];omega
def zez:DSp:=fun ds S Q=>∃ ns:List Int,ds=[.rl (ns.map D.int)]/\(S=[]/\∀ n∈ns,Hg n)/\ns.length<=63/\∀ S',Q (.bl true) S'
theorem zq7:∀ ds So Q,zez ds So Q->ds.length=1:=fun ds So Q ⟨ns,e,_⟩=>by rw [e];rfl
theorem zep {α β:Type}(f:α->β)(xs:List α)(lo hi:Option Int):cutD (xs.map f) lo hi=(cutD xs lo hi).map f:=by
 unfold cutD
 rw [List.length_map,List.map_take,List.map_drop]
theorem zqp {α:Type}(xs:List α)(lo hi:Option Int):(cutD xs lo hi).length<=slD xs.length xs.length hi-slD xs.length 0 lo:=by
 unfold cutD
 rw [List.length_take];omega
def onI (f:Int->D):D->D
 | .int h=>f h
 | d=>d
theorem zqS (f:Int->D)(hs:List Int):(hs.map D.int).map (onI f)=hs.map f:=by rw [List.map_map];rfl
section
variable {nx:Rho->Sto->Prop}{rt:DK}{bk ct:Rho->Sto->Prop}{ρ:Rho}{S:Sto}
theorem zqs {f:zdC}{ex:XR}{t:DA}{Q:DK}(h:t ρ S fun xs S1=>f xs S1 Q (ex ρ)):zbF f ex t ρ S Q:=h
theorem zp6 {ex:XR}{c:Str}(h:ex ρ c S):zfz ex c ⟨nx,rt,bk,ct⟩ ρ S:=h
end
theorem zqd {S:Sto}{Q:DK}{x y:Str}{b:Bool}(fx:fl 20 (.str x)=true)(fy:fl 20 (.str y)=true)(e:(x==y)=b)(q:Q (.bl b) S):oEq (.str x) (.str y) S Q:=⟨_,.inl ⟨fx,fy,rfl⟩,by show Q (.bl (x==y)) S;rw [e];exact q⟩
theorem zp8 {S:Sto}{Q:DK}{x y:Str}{b:Bool}(fx:fl 20 (.str x)=true)(fy:fl 20 (.str y)=true)(e:(x==y)=b)(q:Q (.bl (!b)) S):oNe (.str x) (.str y) S Q:=⟨_,.inl ⟨fx,fy,rfl⟩,by show Q (.bl (!(x==y))) S;rw [e];exact q⟩
section
variable {nx:Rho->Sto->Prop}{rt:DK}{bk ct:Rho->Sto->Prop}{ρ:Rho}{S:Sto}{Q:DK}{td ti tz tv:DE}
theorem zrE (h:Q (.ref S.length) (S++[.dk []])):zmJ ρ S Q:=h
theorem ztZ (h:td ρ S fun x S1=>ti ρ S1 fun y S2=>∃ d,DGt S2 x y (some d)/\Q d S2):zhE td ti ρ S Q:=h
theorem zsj (h:tv ρ S fun v S1=>td ρ S1 fun x S2=>ti ρ S2 fun y S3=>zil S3 x y v (nx ρ)):zmp td ti tv ⟨nx,rt,bk,ct⟩ ρ S:=h
theorem DGt.k {n:Nat}{kvs:List (Str×D)}{z:Str}{o:Option D}(h:S[n]?=some (.dk kvs))(e:dval kvs z=o):DGt S (.ref n) (.str z) o:=.inl ⟨n,kvs,z,rfl,rfl,h,e.symm⟩
theorem zil.k {n:Nat}{kvs:List (Str×D)}{z:Str}{v:D}{P:Sto->Prop}(h:S[n]?=some (.dk kvs))(hl:kvs.length<big)(q:Put P S n (.dk (dput kvs z v))):zil S (.ref n) (.str z) v P:=.inl ⟨n,kvs,z,rfl,rfl,h,hl,q⟩
end
section
variable {κ:Type}[DecidableEq κ]
theorem zoZ {k:κ}:dval ([]:List (κ×D)) k=none:=rfl
theorem zbY {p:κ×D}{kvs:List (κ×D)}{k:κ}:dval (p::kvs) k=if p.1=k then some p.2 else dval kvs k:=by
 unfold dval
 rw [List.find?_cons]
 by_cases h:p.1=k
 ·rw [if_pos h,decide_eq_true h];rfl
 ·rw [if_neg h,decide_eq_false h]
theorem zhU (kvs:List (κ×D))(k:κ):(kvs.any fun kv=>decide (kv.1=k))=(dval kvs k).isSome:=by
 induction kvs with
 | nil=>rfl
 | cons p kvs ih =>
  rw [List.any_cons,zbY,ih]
  by_cases h:p.1=k
  ·rw [if_pos h,decide_eq_true h];rfl
  ·rw [if_neg h,decide_eq_false h];rfl
theorem zog (kvs:List (κ×D))(k j:κ)(v:D):dval (kvs++[(k,v)]) j=(dval kvs j).or (if k=j then some v else none):=by
 induction kvs with
 | nil=>rw [List.nil_append,zbY,zoZ];simp
 | cons p kvs ih =>
  rw [List.cons_append,zbY,zbY,ih]
  by_cases h:p.1=j
  ·rw [if_pos h,if_pos h];rfl
  ·rw [if_neg h,if_neg h]
end
theorem zfM (c:List Str)(z:Str):(zfN c z).length=if c.any (·==z) then c.length else c.length+1:=by
  unfold zfN;split<;>simp
theorem zk7 (c:List Str)(z y:Str):(zfN c z).any (·==y)=(c.any (·==y)||decide (y=z)):=by
  unfold zfN
  by_cases h:c.any (·==z)=true
  · rw [if_pos h]
    by_cases e:y=z
    · subst e;rw [h];rfl
    · rw [decide_eq_false e,Bool.or_false]
  · rw [if_neg h,List.any_append]
    congr 1
    by_cases e:y=z
    · subst e;simp
    · rw [decide_eq_false e]
      have:(z==y)=false:=beq_eq_false_iff_ne.mpr fun q=>e q.symm
      simp [this]
theorem zg7 (f:Nat->Str):∀ i,(zb2 f i).length<=i
  | 0=>Nat.le_refl _
  | i+1=>by
    have:=zg7 f i
    show (zfN (zb2 f i) (f i)).length<=i+1
    rw [zfM];split<;>omega
theorem zhH (f:Nat->Str)(y:Str):∀ i,((zb2 f i).any (·==y)=true↔∃ j,j<i/\f j=y)
  | 0=>⟨fun h=>(by simp [zb2] at h),fun⟨j,hj,_⟩=>(by omega)⟩
  | i+1=>by
    show ((zfN (zb2 f i) (f i)).any (·==y)=true)↔_
    rw [zk7,Bool.or_eq_true,zhH f y i,decide_eq_true_eq]
    constructor
    · rintro (⟨j,hj,e⟩ | e)
      · exact⟨j,by omega,e⟩
      · exact⟨i,by omega,e.symm⟩
    · rintro⟨j,hj,e⟩
      rcases Nat.lt_or_ge j i with h | h
      · exact .inl ⟨j,h,e⟩
      · have:j=i:=by omega
        subst this;exact .inr e.symm
theorem zk8 (f:Nat->Str):∀ i,(∀ a b,a<b->b<i->f a≠f b)->(zb2 f i).length=i
 | 0,_=>rfl
 | i+1,h=>by
  show (zfN (zb2 f i) (f i)).length=i+1
  rw [zfM,zk8 f i fun a b x y=>h a b x (by omega)]
  rw [if_neg]
  intro z
  obtain⟨j,hj,e⟩:=(zhH f (f i) i).mp z
  exact h j i hj (by omega) e
theorem zkV (f:Nat->Str){a b:Nat}(hab:a<b)(e:f a=f b):∀ i,b<i->(zb2 f i).length<i
  | 0,h=>by omega
  | i+1,h=>by
    show (zfN (zb2 f i) (f i)).length<i+1
    rw [zfM]
    rcases Nat.lt_or_ge b i with g | g
    · have:=zkV f hab e i g
      split<;>omega
    · have eb:b=i:=by omega
      subst eb
      rw [if_pos ((zhH f (f b) b).mpr ⟨a,hab,e⟩)]
      have:=zg7 f b
      omega
theorem ziA {zs:List Str}(h:zs.Nodup):zkg zs=zs.length:=zk8 _ _ fun a b hab hb=>by
 show zs.getD a Str.empty≠zs.getD b Str.empty
 rw [List.getD_eq_getElem?_getD,List.getD_eq_getElem?_getD,List.getElem?_eq_getElem hb,List.getElem?_eq_getElem (show a<zs.length by omega)]
 exact List.pairwise_iff_getElem.mp h a b (by omega) hb hab
theorem zoW {zs:List Str}{a b:Nat}{z:Str}(hab:a<b)(ha:zs[a]?=some z)(hb:zs[b]?=some z):zkg zs<zs.length :=
 zkV _ hab (by show zs.getD a Str.empty=zs.getD b Str.empty;rw [List.getD_eq_getElem?_getD,List.getD_eq_getElem?_getD,ha,hb]) _ (by
  rcases Nat.lt_or_ge b zs.length with g | g
  ·exact g
  ·rw [List.getElem?_eq_none g] at hb;cases hb)
end Dp
namespace Rm
structure Pc where
 lo:Int
 hi:Int
 to:Int
 st:Int
instance:DecidableEq Pc:=fun p q=>if h:p.lo=q.lo/\p.hi=q.hi/\p.to=q.to/\p.st=q.st then isTrue (by cases p;cases q;obtain⟨h1,h2,h3,h4⟩:=h;cases h1;cases h2;cases h3;cases h4;rfl) else isFalse (fun e=>h (by subst e;exact⟨rfl,rfl,rfl,rfl⟩))
def Pc.led (p:Pc)(h:Int):Int:=p.to+p.st*(h-p.lo)
def Pc.fin (p:Pc):Int:=p.led p.hi
def inP (p:Pc)(h:Int):Prop:=p.lo<=h/\h<=p.hi
instance (p:Pc) (h:Int):Decidable (inP p h):=by unfold inP;infer_instance
def at':List Pc->Int->Option Int
 | [],_=>none
 | p::r,h=>if inP p h then some (p.led h) else at' r h
end Rm
namespace Dp
open PySem Rm
open PySem Rm My
theorem zpq {xs:List D}{x:D}:ixD (xs++[x]).length (-1)=some xs.length:=by
 have hl:((xs++[x]).length:Int)=xs.length+1:=by simp
 unfold ixD
 rw [if_neg (by omega),if_pos (by omega)]
 congr 1;omega
theorem zoJ {xs:List D}{x:D}:atD (xs++[x]) (-1)=some x:=by
 unfold atD
 rw [zpq]
 simp
end Dp
namespace Rm
open My Dp
end Rm
namespace Dp
open PySem Rm My
def on2 (f:Int×Int->D):D->D
 | .tup [.int a,.int b]=>f (a,b)
 | d=>d
end Dp
namespace Rm
open My Dp
def acr (L R B T x1 z1 x2 z2:Int):List Int :=
 [(x2-x1)*(B-z1)-(z2-z1)*(L-x1),(x2-x1)*(T-z1)-(z2-z1)*(L-x1),(x2-x1)*(B-z1)-(z2-z1)*(R-x1),(x2-x1)*(T-z1)-(z2-z1)*(R-x1)]
def zkv (L R B T x1 z1 x2 z2:Int):Prop :=
 L<=(max x1 x2)/\(min x1 x2)<=R/\B<=(max z1 z2)/\(min z1 z2)<=T/\(∃ a∈acr L R B T x1 z1 x2 z2,0<=a)/\∃ a∈acr L R B T x1 z1 x2 z2,a<=0
def zg0 (lo hi st sp e1 e2 x1 x2:Int):Prop :=
 (sp=0/\lo<=st/\st<=hi/\e1=0/\e2=1/\x1=1/\x2=1)\/(sp=0/\(st<lo\/hi<st)/\e1=1/\e2=1/\x1=0/\x2=1) \/
 (0<sp/\e1=lo-st/\e2=sp/\x1=hi-st/\x2=sp)\/(sp<0/\e1=st-hi/\e2=-sp/\x1=st-lo/\x2=-sp)
def zmk (ea1 ea2 xa1 xa2 eu1 eu2 xu1 xu2:Int):Prop:=∀ e∈[((0:Int),(1:Int)),(ea1,ea2),(eu1,eu2)],∀ x∈[((1:Int),(1:Int)),(xa1,xa2),(xu1,xu2)],e.1*x.2<=x.1*e.2
theorem zcm {u a b:Int}(h:0<=u)(h':a<=b):u*a<=u*b:=Int.mul_le_mul_of_nonneg_left h' h
theorem zcC {u a b:Int}(h:u<=0)(h':a<=b):u*b<=u*a:=Int.mul_le_mul_of_nonpos_left h h'
theorem zpv {p r P R:Int}{L x:Int}:(∃ a∈[P-L,R-L,P-x,R-x],p<=a)↔(p<=P-L\/p<=R-L\/p<=P-x\/p<=R-x):=by simp
theorem zou {p P R:Int}{L x:Int}:(∃ a∈[P-L,R-L,P-x,R-x],a<=p)↔(P-L<=p\/R-L<=p\/P-x<=p\/R-x<=p):=by simp
theorem zoi {ea1 ea2 xa1 xa2 eu1 eu2 xu1 xu2:Int}:zmk ea1 ea2 xa1 xa2 eu1 eu2 xu1 xu2 ↔
  (0<=xa1/\0<=xu1)/\(ea1<=ea2/\ea1*xa2<=xa1*ea2/\ea1*xu2<=xu1*ea2)/\(eu1<=eu2/\eu1*xa2<=xa1*eu2/\eu1*xu2<=xu1*eu2):=by
 unfold zmk
 simp
theorem zpc {L R B T x1 z1 x2 z2 ea1 ea2 xa1 xa2 eu1 eu2 xu1 xu2:Int}(hx:L<=R)(hz:B<=T)(pa:zg0 L R x1 (x2-x1) ea1 ea2 xa1 xa2)(pu:zg0 B T z1 (z2-z1) eu1 eu2 xu1 xu2) :
    zmk ea1 ea2 xa1 xa2 eu1 eu2 xu1 xu2↔zkv L R B T x1 z1 x2 z2:=by
  rw [zoi]
  unfold zkv acr
  rw [zpv (r:=0),zou]
  have mX:(max x1 x2)=x1+(max 0 (x2-x1)):=by omega
  have nX:(min x1 x2)=x1+(min 0 (x2-x1)):=by omega
  have mZ:(max z1 z2)=z1+(max 0 (z2-z1)):=by omega
  have nZ:(min z1 z2)=z1+(min 0 (z2-z1)):=by omega
  rw [mX,nX,mZ,nZ]
  clear mX nX mZ nZ
  generalize x2-x1=u at *
  generalize z2-z1=v at *
  have c1:∀ s t:Int,(s-x1)*t=t*(s-x1):=fun s t=>Int.mul_comm _ _
  have c2:∀ s t:Int,(x1-s)*t=-(t*(s-x1)):=fun s t=>by grind
  have c3:∀ s t:Int,(s-z1)*t=t*(s-z1):=fun s t=>Int.mul_comm _ _
  have c4:∀ s t:Int,(z1-s)*t=-(t*(s-z1)):=fun s t=>by grind
  have n1:∀ s t:Int,-t*(s-x1)=-(t*(s-x1)):=fun s t=>by grind
  have n2:∀ s t:Int,-t*(s-z1)=-(t*(s-z1)):=fun s t=>by grind
  rcases pa with ⟨hu,h1,h2,rfl,rfl,rfl,rfl⟩ | ⟨hu,h1,rfl,rfl,rfl,rfl⟩ | ⟨hu,rfl,rfl,rfl,rfl⟩ | ⟨hu,rfl,rfl,rfl,rfl⟩ <;>
  rcases pu with ⟨hv,g1,g2,rfl,rfl,rfl,rfl⟩ | ⟨hv,g1,rfl,rfl,rfl,rfl⟩ | ⟨hv,rfl,rfl,rfl,rfl⟩ | ⟨hv,rfl,rfl,rfl,rfl⟩ <;>
  simp only [c1,c2,c3,c4,n1,n2,Int.zero_mul,Int.mul_zero,Int.one_mul,Int.mul_one] <;>
  (first
    | (have k1:=zcm (Int.le_of_lt hu) (show B-z1<=T-z1 by omega);have k1':=zcm (Int.le_of_lt hu) (show L-x1<=R-x1 by omega);skip)
    | (have k1:=zcC (Int.le_of_lt hu) (show B-z1<=T-z1 by omega);have k1':=zcC (Int.le_of_lt hu) (show L-x1<=R-x1 by omega);skip)
    | skip) <;>
  (first
    | (have k2:=zcm (Int.le_of_lt hv) (show L-x1<=R-x1 by omega);have k2':=zcm (Int.le_of_lt hv) (show B-z1<=T-z1 by omega);skip)
    | (have k2:=zcC (Int.le_of_lt hv) (show L-x1<=R-x1 by omega);have k2':=zcC (Int.le_of_lt hv) (show B-z1<=T-z1 by omega);skip)
    | skip) <;>
  (first
    | (have k3:=zcm (Int.le_of_lt hu) (show B-z1<=0 by omega);have k3':=zcm (Int.le_of_lt hu) (show 0<=T-z1 by omega);skip)
    | (have k3:=zcC (Int.le_of_lt hu) (show B-z1<=0 by omega);have k3':=zcC (Int.le_of_lt hu) (show 0<=T-z1 by omega);skip)
    | skip) <;>
  (first
    | (have k4:=zcm (Int.le_of_lt hv) (show L-x1<=0 by omega);have k4':=zcm (Int.le_of_lt hv) (show 0<=R-x1 by omega);skip)
    | (have k4:=zcC (Int.le_of_lt hv) (show L-x1<=0 by omega);have k4':=zcC (Int.le_of_lt hv) (show 0<=R-x1 by omega);skip)
    | skip) <;>
  (try simp only [Int.mul_zero] at *) <;>
  (first | (subst hu;subst hv) | subst hu | subst hv | skip) <;>
  (try simp only [Int.zero_mul,Int.mul_zero,Int.one_mul,Int.mul_one,Int.neg_zero]) <;>
  omega
theorem zpE {L R B T x1 z1 x2 z2 mx mn m:Int}(m1:mx∈acr L R B T x1 z1 x2 z2)(m2:∀ a∈acr L R B T x1 z1 x2 z2,a<=mx)(n1:mn∈acr L R B T x1 z1 x2 z2)(n2:∀ a∈acr L R B T x1 z1 x2 z2,mn<=a)
  (h1:m∈[(max x1 x2)-L,R-(min x1 x2),(max z1 z2)-B,T-(min z1 z2),mx,-mn])
  (h2:∀ a∈[(max x1 x2)-L,R-(min x1 x2),(max z1 z2)-B,T-(min z1 z2),mx,-mn],m<=a):0<=m↔zkv L R B T x1 z1 x2 z2:=by
 unfold zkv
 have e1:(∃ a∈acr L R B T x1 z1 x2 z2,0<=a)↔0<=mx:=⟨fun⟨a,ha,h⟩=>Int.le_trans h (m2 a ha),fun h=>⟨mx,m1,h⟩⟩
 have e2:(∃ a∈acr L R B T x1 z1 x2 z2,a<=0)↔mn<=0:=⟨fun⟨a,ha,h⟩=>Int.le_trans (n2 a ha) h,fun h=>⟨mn,n1,h⟩⟩
 rw [e1,e2]
 generalize (max x1 x2)=q1 at *
 generalize (min x1 x2)=q2 at *
 generalize (max z1 z2)=q3 at *
 generalize (min z1 z2)=q4 at *
 have g1:=h2 (q1-L) (by simp)
 have g2:=h2 (R-q2) (by simp)
 have g3:=h2 (q3-B) (by simp)
 have g4:=h2 (T-q4) (by simp)
 have g5:=h2 mx (by simp)
 have g6:=h2 (-mn) (by simp)
 simp only [List.mem_cons,List.not_mem_nil,or_false] at h1
 omega
def six (L R B T x1 z1 x2 z2 mx mn:Int):List Int:=[(max x1 x2)-L,R-(min x1 x2),(max z1 z2)-B,T-(min z1 z2),mx,-mn]
def Hit (L R B T x1 z1 x2 z2:Int):Prop:=∃ p q:Int,0<q/\0<=p/\p<=q/\L*q<=x1*q+p*(x2-x1)/\x1*q+p*(x2-x1)<=R*q/\B*q<=z1*q+p*(z2-z1)/\z1*q+p*(z2-z1)<=T*q
theorem mulL {k a b:Int}(h:0<=k)(g:a<=b):k*a<=k*b:=Int.mul_le_mul_of_nonneg_left g h
theorem zoz {k a b:Int}(h:0<k)(g:k*a<=k*b):a<=b:=Int.le_of_mul_le_mul_left g h
theorem ftr {a b c d e f:Int}(hb:0<=b)(hf:0<=f)(hd:0<d)(h1:a*d<=c*b)(h2:c*f<=e*d):a*f<=e*b:=by
 refine zoz hd ?_
 have k1:=mulL hf h1
 have k2:=mulL hb h2
 have e1:d*(a*f)=f*(a*d):=by grind
 have e2:f*(c*b)=b*(c*f):=by grind
 have e3:b*(e*d)=d*(e*b):=by grind
 omega
theorem fmax:∀ {l:List (Int×Int)},l≠[]->(∀ e∈l,0<e.2)->∃ e∈l,∀ f∈l,f.1*e.2<=e.1*f.2
 | [],h,_=>absurd rfl h
 | [x],_,_=>⟨x,by simp,fun f hf=>by simp at hf;subst hf;exact Int.le_refl _⟩
 | x::y::l,_,h=>by
  obtain⟨m,hm,g⟩:=fmax (l:=y::l) (by simp) fun e he=>h e (by simp [he])
  have hx:=h x (by simp)
  have hm2:=h m (by simp [hm])
  rcases Int.le_total (x.1*m.2) (m.1*x.2) with c | c
  ·refine⟨m,by simp [hm],fun f hf=>?_⟩
   rcases List.mem_cons.mp hf with rfl | hf
   ·exact c
   ·exact g f hf
  ·refine⟨x,by simp,fun f hf=>?_⟩
   rcases List.mem_cons.mp hf with rfl | hf
   ·exact Int.le_refl _
   ·exact ftr (Int.le_of_lt (h f (by simp [hf]))) (Int.le_of_lt hx) hm2 (g f hf) c
theorem zlW (lo hi st sp:Int):∃ e1 e2 x1 x2,zg0 lo hi st sp e1 e2 x1 x2/\0<e2/\0<x2:=by
 unfold zg0
 rcases Int.lt_trichotomy sp 0 with h | h | h
 ·exact⟨st-hi,-sp,st-lo,-sp,.inr (.inr (.inr ⟨h,rfl,rfl,rfl,rfl⟩)),by omega,by omega⟩
 ·by_cases g:lo<=st/\st<=hi
  ·exact⟨0,1,1,1,.inl ⟨h,g.1,g.2,rfl,rfl,rfl,rfl⟩,by omega,by omega⟩
  ·exact⟨1,1,0,1,.inr (.inl ⟨h,by omega,rfl,rfl,rfl,rfl⟩),by omega,by omega⟩
 ·exact⟨lo-st,sp,hi-st,sp,.inr (.inr (.inl ⟨h,rfl,rfl,rfl,rfl⟩)),h,h⟩
theorem zlT {lo hi st sp e1 e2 x1 x2 p q:Int}(P:zg0 lo hi st sp e1 e2 x1 x2)(hq:0<q)(h0:0<=p)(h1:p<=q)(h2:e1*q<=p*e2)(h3:p*x2<=x1*q):lo*q<=st*q+p*sp/\st*q+p*sp<=hi*q:=by
 rcases P with ⟨hu,g1,g2,rfl,rfl,rfl,rfl⟩ | ⟨hu,g1,rfl,rfl,rfl,rfl⟩ | ⟨hu,rfl,rfl,rfl,rfl⟩ | ⟨hu,rfl,rfl,rfl,rfl⟩
 ·subst hu
  have k1:=mulL (Int.le_of_lt hq) g1
  have k2:=mulL (Int.le_of_lt hq) g2
  rw [Int.mul_comm q,Int.mul_comm q] at k1 k2
  rw [Int.mul_zero];omega
 ·omega
 ·rw [Int.sub_mul] at h2 h3;omega
 ·rw [Int.sub_mul,Int.mul_neg] at h2 h3;omega
theorem zkq {lo hi st sp e1 e2 x1 x2 p q:Int}(P:zg0 lo hi st sp e1 e2 x1 x2)(hq:0<q)(h0:0<=p)(h1:p<=q)(h2:lo*q<=st*q+p*sp)(h3:st*q+p*sp<=hi*q):e1*q<=p*e2/\p*x2<=x1*q:=by
 rcases P with ⟨hu,g1,g2,rfl,rfl,rfl,rfl⟩ | ⟨hu,g1,rfl,rfl,rfl,rfl⟩ | ⟨hu,rfl,rfl,rfl,rfl⟩ | ⟨hu,rfl,rfl,rfl,rfl⟩
 ·omega
 ·subst hu
  rw [Int.mul_zero,Int.add_zero,Int.mul_comm lo,Int.mul_comm st] at h2
  rw [Int.mul_zero,Int.add_zero,Int.mul_comm hi,Int.mul_comm st] at h3
  have k1:=zoz hq h2
  have k2:=zoz hq h3
  omega
 ·rw [Int.sub_mul,Int.sub_mul];omega
 ·rw [Int.sub_mul,Int.sub_mul,Int.mul_neg];omega
theorem zqZ {L R B T x1 z1 x2 z2:Int}(hx:L<=R)(hz:B<=T):zkv L R B T x1 z1 x2 z2↔Hit L R B T x1 z1 x2 z2:=by
  obtain⟨a1,a2,a3,a4,pa,ha2,ha4⟩:=zlW L R x1 (x2-x1)
  obtain⟨u1,u2,u3,u4,pu,hu2,hu4⟩:=zlW B T z1 (z2-z1)
  rw [<- zpc hx hz pa pu]
  constructor
  · intro h
    obtain⟨⟨p,q⟩,he,mx⟩:=fmax (l:=[((0:Int),(1:Int)),(a1,a2),(u1,u2)]) (by simp) (by
      intro e he
      simp only [List.mem_cons,List.not_mem_nil,or_false] at he
      rcases he with rfl | rfl | rfl
      · exact Int.one_pos
      · exact ha2
      · exact hu2)
    have hq:0<q:=by
      simp only [List.mem_cons,List.not_mem_nil,or_false,Prod.mk.injEq] at he
      rcases he with he | he | he<;>omega
    have m0:=mx (0,1) (by simp)
    have m1:=mx (a1,a2) (by simp)
    have m2:=mx (u1,u2) (by simp)
    have n0:=h _ he (1,1) (by simp)
    have n1:=h _ he (a3,a4) (by simp)
    have n2:=h _ he (u3,u4) (by simp)
    dsimp only at m0 m1 m2 n0 n1 n2
    have h0:0<=p:=by omega
    have h1:p<=q:=by omega
    obtain⟨k1,k2⟩:=zlT pa hq h0 h1 m1 n1
    obtain⟨k3,k4⟩:=zlT pu hq h0 h1 m2 n2
    exact⟨p,q,hq,h0,h1,k1,k2,k3,k4⟩
  · rintro⟨p,q,hq,h0,h1,k1,k2,k3,k4⟩
    obtain⟨g1,g2⟩:=zkq pa hq h0 h1 k1 k2
    obtain⟨g3,g4⟩:=zkq pu hq h0 h1 k3 k4
    intro e he x hx
    have ee:0<e.2/\e.1*q<=p*e.2:=by
      simp only [List.mem_cons,List.not_mem_nil,or_false] at he
      rcases he with rfl | rfl | rfl
      · exact⟨Int.one_pos,by omega⟩
      · exact⟨ha2,g1⟩
      · exact⟨hu2,g3⟩
    have xx:0<x.2/\p*x.2<=x.1*q:=by
      simp only [List.mem_cons,List.not_mem_nil,or_false] at hx
      rcases hx with rfl | rfl | rfl
      · exact⟨Int.one_pos,by omega⟩
      · exact⟨ha4,g2⟩
      · exact⟨hu4,g4⟩
    exact ftr (Int.le_of_lt ee.1) (Int.le_of_lt xx.1) hq ee.2 xx.2
end Rm
namespace Dp
open PySem Rm My
structure Fg where
 x0:Int
 x1:Int
 z0:Int
 z1:Int
 f:Int
 l:Int
 g:Int
 s:Int
abbrev fgD (F:Fg):D:=.tup [.int F.x0,.int F.x1,.int F.z0,.int F.z1,.int F.f,.int F.l,.int F.g,.int F.s]
structure FgB (F:Fg):Prop where
 x:F.x0<=F.x1
 z:F.z0<=F.z1
 b0:Bd 600 F.x0
 b1:Bd 600 F.x1
 b2:Bd 600 F.z0
 b3:Bd 600 F.z1
 bg:Bd 200 F.g
 bs:Bd 200 F.s
def zb8 (F:Fg)(px pz qx qz h:Int):Prop:=F.f<=h/\h<=F.l/\Hit (F.x0+F.g*(h-F.f)) (F.x1+F.g*(h-F.f)) (F.z0+F.s*(h-F.f)) (F.z1+F.s*(h-F.f)) px pz qx qz
theorem zod {fs:List Fg}{i:Nat}{d:D}(h:(fs.map fgD)[i]?=some d):∃ F,fs[i]?=some F/\d=fgD F:=by
 rw [List.getElem?_map] at h
 cases e:fs[i]? with
 | none=>rw [e] at h;cases h
 | some p=>rw [e] at h;cases h;exact⟨p,rfl,rfl⟩
theorem Bd.btw {n:Nat}{a b x:Int}(ha:Bd n a)(hb:Bd n b)(h1:a<=x)(h2:x<=b):Bd n x:=by
 unfold Bd at *;omega
def flt (a b:Int×Int):Bool:=decide (a.1*b.2<b.1*a.2)
theorem zj3 {cs:List (Int×Int)}{k:Int}(h0:0<=k)(h:k<cs.length):∃ c,cs[k.toNat]?=some c/\atD (cs.map p2) k=some (p2 c):=by
 have hk:k.toNat<cs.length:=by omega
 refine⟨cs[k.toNat],List.getElem?_eq_getElem hk,?_⟩
 have:=zbQ (ds:=cs.map p2) (i:=k.toNat) (d:=p2 (cs[k.toNat])) (by rw [List.getElem?_map,List.getElem?_eq_getElem hk];rfl)
 rwa [show ((k.toNat:Nat):Int)=k by omega] at this
def lenV (ms:List (Int×Int)):Int:=(ms.map fun m=>m.2-m.1).sum
def Sv (c:Int×Int)(t b:Int):Prop:=0<c.2/\c.1*b=t*c.2
def hvT (a b p:Int×Int):Int:=if 0<b.1-a.1 then a.2*(b.1-a.1)*p.2+(b.2-a.2)*(p.1-a.1*p.2) else -(a.2*(b.1-a.1)*p.2+(b.2-a.2)*(p.1-a.1*p.2))
def hvB (a b p:Int×Int):Int:=if 0<b.1-a.1 then (b.1-a.1)*p.2 else -((b.1-a.1)*p.2)
theorem zqF {a b p:Int×Int}(h:b.1≠a.1)(hp:0<p.2):0<hvB a b p:=by
 unfold hvB
 split
 ·exact Int.mul_pos (by omega) hp
 ·have:=Int.mul_pos (show 0 < -(b.1-a.1) by omega) hp
  rw [Int.neg_mul] at this
  exact this
theorem zsh {c d:Int×Int}{t b u e:Int}(hb:0<b)(he:0<e)(hc:Sv c t b)(hd:Sv d u e):flt c d=decide (t*e<u*b):=by
 obtain⟨c0,c1⟩:=hc
 obtain⟨d0,d1⟩:=hd
 unfold flt
 refine decide_eq_decide.mpr ?_
 have hbe:0<b*e:=Int.mul_pos hb he
 have hcd:0<c.2*d.2:=Int.mul_pos c0 d0
 rw [<- Int.mul_lt_mul_right hbe,<- Int.mul_lt_mul_right (b:=t*e) (c:=u*b) hcd]
 have e1:c.1*d.2*(b*e)=t*e*(c.2*d.2):=by
  have:c.1*d.2*(b*e)=c.1*b*(d.2*e):=by grind
  rw [this,c1];grind
 have e2:d.1*c.2*(b*e)=u*b*(c.2*d.2):=by
  have:d.1*c.2*(b*e)=d.1*e*(c.2*b):=by grind
  rw [this,d1];grind
 rw [e1,e2]
structure Grd (cs:List (Int×Int)):Prop where
 two:2<=cs.length
 most:cs.length<=40
 asc:cs.Pairwise fun a b=>a.1<b.1
 bd:∀ c∈cs,Bd 170 c.1/\Bd 190 c.2
def zi9 (cs:List (Int×Int)):Int:=(cs.getD 0 (0,0)).1
def zhJ (cs:List (Int×Int)):Int:=(cs.getD (cs.length-1) (0,0)).1
def OnG (cs:List (Int×Int))(p:Int×Int):Prop:=zi9 cs*p.2<=p.1/\p.1<=zhJ cs*p.2
def zgz:List (Int×Int)->Int×Int->Option ((Int×Int)×(Int×Int))
 | a::b::r,p=>if p.1<=b.1*p.2 then some (a,b) else zgz (b::r) p
 | _,_=>none
theorem seg_at:∀ {cs:List (Int×Int)} {p:Int×Int} {k:Nat} {a b:Int×Int},cs[k]?=some a->cs[k+1]?=some b->p.1<=b.1*p.2->(∀ j c,1<=j->j<=k->cs[j]?=some c->c.1*p.2<p.1)->zgz cs p=some (a,b)
 | [],p,k,a,b,h,_,_,_=>by simp at h
 | [x],p,0,a,b,_,h,_,_=>by simp at h
 | [x],p,k+1,a,b,h,_,_,_=>by simp at h
 | x::y::r,p,0,a,b,h1,h2,h3,_=>by
  simp at h1 h2
  subst h1 h2
  unfold zgz
  rw [if_pos h3]
 | x::y::r,p,k+1,a,b,h1,h2,h3,h4=>by
  have:=h4 1 y (by omega) (by omega) rfl
  unfold zgz
  rw [if_neg (by omega)]
  exact seg_at (by simpa using h1) (by simpa using h2) h3 fun j c j1 j2 hc=>h4 (j+1) c (by omega) (by omega) (by simpa using hc)
theorem znQ:∀ {cs:List (Int×Int)} {p:Int×Int},2<=cs.length->p.1<=zhJ cs*p.2->∃ k a b,cs[k]?=some a/\cs[k+1]?=some b/\p.1<=b.1*p.2/\∀ j c,1<=j->j<=k->cs[j]?=some c->c.1*p.2<p.1
 | [],p,h,_=>by simp at h
 | [x],p,h,_=>by simp at h
 | [x,y],p,_,h=>⟨0,x,y,rfl,rfl,h,fun j c j1 j2=>by omega⟩
 | x::y::z::r,p,_,h=>by
  by_cases g:p.1<=y.1*p.2
  ·exact⟨0,x,y,rfl,rfl,g,fun j c j1 j2=>by omega⟩
  ·obtain⟨k,a,b,h1,h2,h3,h4⟩:=znQ (cs:=y::z::r) (p:=p) (by simp) h
   refine⟨k+1,a,b,by simpa using h1,by simpa using h2,h3,fun j c j1 j2 hc=>?_⟩
   cases j with
   | zero=>omega
   | succ j =>
    cases j with
    | zero=>simp at hc;subst hc;omega
    | succ j=>exact h4 (j+1) c (by omega) (by omega) (by simpa using hc)
theorem znc {cs:List (Int×Int)}(g:Grd cs){i j:Nat}{a b:Int×Int}(hij:i<j)(ha:cs[i]?=some a)(hb:cs[j]?=some b):a.1<b.1:=by
 have h1:=zai ha
 have h2:=zai hb
 rw [List.getElem?_eq_getElem h1] at ha
 rw [List.getElem?_eq_getElem h2] at hb
 cases ha;cases hb
 exact List.pairwise_iff_getElem.mp g.asc i j h1 h2 hij
theorem znw {cs:List (Int×Int)}(g:Grd cs):∃ a,cs[0]?=some a/\zi9 cs=a.1:=by
 have:=g.two
 obtain⟨a,h⟩:∃ a,cs[0]?=some a:=⟨cs[0],List.getElem?_eq_getElem (by omega)⟩
 exact⟨a,h,by unfold zi9;rw [List.getD_eq_getElem?_getD,h];rfl⟩
theorem zpo {cs:List (Int×Int)}(g:Grd cs):∃ a,cs[cs.length-1]?=some a/\zhJ cs=a.1:=by
 have:=g.two
 obtain⟨a,h⟩:∃ a,cs[cs.length-1]?=some a:=⟨cs[cs.length-1],List.getElem?_eq_getElem (by omega)⟩
 exact⟨a,h,by unfold zhJ;rw [List.getD_eq_getElem?_getD,h];rfl⟩
def GAt (S:Sto)(g:D)(cs:List (Int×Int)):Prop:=∃ n l,g=.ref n/\S[n]?=some (.ins "Ground" [("corners",.ref l)])/\S[l]?=some (.lst (cs.map p2))
theorem GAt.old {S T:Sto}{g:D}{cs:List (Int×Int)}(h:GAt S g cs):GAt (S++T) g cs:=let ⟨n,l,e,h1,h2⟩:=h;⟨n,l,e,zan h1,zan h2⟩
theorem ztB {S:Sto}{P:D->Prop}{n l:Nat}(h:S[n]?=some (.ins "Ground" [("corners",.ref l)]))(q:P (.ref l)):∃ m c fs d,D.ref n=.ref m/\S[m]?=some (.ins c fs)/\fs.lookup ("corners":Str)=some d/\P d:=⟨n,_,_,_,rfl,h,by simp [List.lookup_cons],q⟩
def sdO (a b c:Int×Int):Int:=(c.2-a.2)*(b.1-a.1)-(c.1-a.1)*(b.2-a.2)
def sdI (a b c:Int×Int):Int:=if 0<(if b.1-a.1<0 then -sdO a b c else sdO a b c) then 1 else if (if b.1-a.1<0 then -sdO a b c else sdO a b c)<0 then -1 else 0
def Std (cs:List (Int×Int))(s:Int×Int):Prop:=Bd 180 s.1/\Bd 200 s.2/\OnG cs (s.1,1)/\∀ a b,zgz cs (s.1,1)=some (a,b)->hvT a b (s.1,1)<=s.2*hvB a b (s.1,1)
theorem ziL {own:Nat}{fv:List Nat}{xs:List D}{ok:Sto->Prop}{g:DG}{tc:DT}{te:DE}{ρ:Rho}{S:Sto}{Q:DK}(W:Nat->List D->Sto->Prop)(h0:W 0 [] S)(hok:∀ i ys S,W i ys S->ok S)(hbig:xs.length<=big)
  (step:∀ i d ys S,xs[i]?=some d->W i ys S->g d (zhZ own fv ρ) S fun ρ2 S2=>tc ρ2 S2 fun b S3=>if b=true then te ρ2 S3 fun y S4=>W (i+1) (ys++[y]) S4 else W (i+1) ys S3)
  (fin:∀ ys S,W xs.length ys S->New Q S ys):zoy own fv g tc te ρ Q ⟨xs,ok⟩ S:=⟨hbig,W,h0,hok,step,fin⟩
theorem zqH {a b d:Int×Int}(h:a.1≠b.1):sdI a b d=sdI b a d:=by
 have e:(if b.1-a.1<0 then -sdO a b d else sdO a b d)=(if a.1-b.1<0 then -sdO b a d else sdO b a d):=by
  by_cases z:b.1-a.1<0
  ·rw [if_pos z,if_neg (by omega)]
   unfold sdO;grind
  ·rw [if_neg z,if_pos (by omega)]
   unfold sdO;grind
 unfold sdI
 rw [e]
def zdH (cs:List (Int×Int))(s:Int×Int):Prop:=OnG cs (s.1,1)/\∀ a b,zgz cs (s.1,1)=some (a,b)->hvT a b (s.1,1)<=s.2*hvB a b (s.1,1)
theorem Std.of {cs:List (Int×Int)}{s:Int×Int}(b1:Bd 180 s.1)(b2:Bd 200 s.2)(h:zdH cs s):Std cs s:=⟨b1,b2,h.1,h.2⟩
def nbP (cs:List (Int×Int))(x y:Int)(k:Nat):Bool:=decide (min x y<(cs.getD k (0,0)).1)&&decide ((cs.getD k (0,0)).1<max x y)
def nbK (cs:List (Int×Int))(x y:Int)(n:Nat):List Int:=((List.range n).filter (nbP cs x y)).map fun k:Nat=>(k:Int)
theorem zub {cs:List (Int×Int)}{x y:Int}{i:Nat}(h:nbP cs x y i=true):(nbK cs x y (i+1)).map D.int=(nbK cs x y i).map D.int++[.int (i:Int)]:=by
 unfold nbK
 rw [List.range_succ,List.filter_append,List.filter_cons_of_pos h]
 simp
theorem zpV {cs:List (Int×Int)}{x y:Int}{i:Nat}(h:nbP cs x y i=false):nbK cs x y (i+1)=nbK cs x y i:=by
 unfold nbK
 rw [List.range_succ,List.filter_append,List.filter_cons_of_neg (by rw [h];exact Bool.false_ne_true)]
 simp
def zkt (cs:List (Int×Int))(a b:Int×Int)(k:Int):Bool:=decide (0<sdI a b (cs.getD k.toNat (0,0)))
def ze0 (cs:List (Int×Int))(a b:Int×Int):Option Int:=(nbK cs a.1 b.1 cs.length).find? (zkt cs a b)
theorem zlR {p:Int->Bool}:∀ {ks:List Int} {i:Nat} {k:Int},ks[i]?=some k->(∀ x∈ks.take i,p x=false)->p k=true->ks.find? p=some k
 | [],i,k,h,_,_=>by simp at h
 | x::ks,0,k,h,_,hp=>by
  have e:x=k:=by simpa using h
  rw [List.find?_cons,e,hp]
 | x::ks,i+1,k,h,hn,hp=>by
  rw [List.find?_cons,hn x (by simp)]
  exact zlR (by simpa using h) (fun y hy=>hn y (by rw [List.take_succ_cons];exact List.mem_cons_of_mem _ hy)) hp
theorem zq0 {p:Int->Bool}{ks:List Int}(hn:∀ x∈ks,p x=false):ks.find? p=none:=List.find?_eq_none.mpr fun x hx=>by rw [hn x hx];exact Bool.false_ne_true
theorem zr1 {cs:List (Int×Int)}{x y k:Int}{n:Nat}(h:k∈nbK cs x y n):0<=k/\k<n:=by
 unfold nbK at h
 obtain⟨j,hj,rfl⟩:=List.mem_map.mp h
 have:=List.mem_range.mp (List.mem_filter.mp hj).1
 omega
theorem zoH {cs:List (Int×Int)}{a b:Int×Int}:ze0 cs a b=ze0 cs b a:=by
 by_cases h:a.1=b.1
 ·have e:∀ x:Int×Int,x.1=x.1->nbK cs a.1 b.1 cs.length=[]:=fun _ _=>by
   unfold nbK
   rw [List.filter_eq_nil_iff.mpr fun k _=>?_]
   ·rfl
   ·unfold nbP
    rw [h]
    simp only [Bool.and_eq_true,decide_eq_true_eq]
    omega
  have e1:=e a rfl
  have e2:nbK cs b.1 a.1 cs.length=[]:=by rw [h] at e1 ⊢;exact e1
  unfold ze0
  rw [e1,e2];rfl
 ·have en:nbK cs a.1 b.1 cs.length=nbK cs b.1 a.1 cs.length:=by
   unfold nbK nbP
   rw [Int.min_comm,Int.max_comm]
  unfold ze0
  rw [en]
  congr 1
  funext k
  unfold zkt
  rw [zqH h]
def gx (g:Int)(p:Int×Int):Int:=g*p.1
section
variable {g:Int}{p q r s d t u v:Int×Int}
end
section
variable {cs:List (Int×Int)}{a b:Int×Int}{rp:List (Int×Int)}
end
section
variable {w h t m:Int}{cs:List (Int×Int)}
end
abbrev bcD (b:Str×(Int×Int)):D:=.tup [.str b.1,.int b.2.1,.int b.2.2]
def abc:List Nat:=List.range' 97 26
theorem zrl:("abcdefghijklmnopqrstuvwxyz":Str).cps.toList=abc:=by decide +kernel
theorem zlO {c:Nat}:c∈abc↔97<=c/\c<=122:=by unfold abc;rw [List.mem_range'_1];omega
def nmB (z:Str):Bool:=decide (1<=z.length)&&(decide (z.length<=8)&&z.cps.toList.all fun c=>decide (c∈abc))
theorem zjj {z:Str}:nmB z=true↔1<=z.length/\z.length<=8/\∀ c∈z.cps.toList,c∈abc:=by
 unfold nmB
 rw [Bool.and_eq_true,Bool.and_eq_true,decide_eq_true_eq,decide_eq_true_eq,List.all_eq_true]
 simp only [decide_eq_true_eq]
theorem zno {z:Str}(h:nmB z=true)(k:Nat):fl k (.str z)=true:=by
  have h3:=(zjj.mp h).2.2
  have:z.cps.all (· < 0x110000)=true:=by
    rw [Array.all_eq_true']
    intro x hx
    have:=zlO.mp (h3 x (Array.mem_toList_iff.mpr hx))
    simp;omega
  cases k<;>exact this
structure Vl where
 cs:List (Int×Int)
 bs:List (Str×(Int×Int))
 fs:List Fg
 hz:Option Int
 h0:Int
 h1:Int
 dl:Int
structure FgV (F:Fg):Prop where
 b:FgB F
 o:F.f<=F.l
 f:Bd 300 F.f
 l:Bd 300 F.l
structure zcd (V:Vl):Prop where
 gr:Grd V.cs
 b1:1<=V.bs.length
 b12:V.bs.length<=12
 nm:∀ b∈V.bs,nmB b.1=true
 nd:(V.bs.map (·.1)).Nodup
 st:∀ b∈V.bs,zdH V.cs b.2
 bd:∀ b∈V.bs,Bd 180 b.2.1/\Bd 200 b.2.2
 f12:V.fs.length<=12
 fg:∀ F∈V.fs,FgV F
 hz:∀ z,V.hz=some z->0<=z
 hh:V.h0<=V.h1
 b0:Bd 250 V.h0
 bl:Bd 250 V.h1
 dl:0<=V.dl
abbrev vF (g b f h a l d:D):List (Str×D):=[("ground",g),("beacons",b),("fogs",f),("haze",h),("first",a),("last",l),("delay",d)]
def VAt (S:Sto)(v:D)(V:Vl):Prop:=∃ n g b f,v=.ref n/\S[n]?=some (.ins "Valley" (vF (.ref g) (.ref b) (.ref f) (ze6 V.hz) (.int V.h0) (.int V.h1) (.int V.dl)))/\GAt S (.ref g) V.cs/\S[b]?=some (.lst (V.bs.map bcD))/\S[f]?=some (.lst (V.fs.map fgD))
theorem VAt.old {S T:Sto}{v:D}{V:Vl}(h:VAt S v V):VAt (S++T) v V:=let ⟨n,g,b,f,e,h1,h2,h3,h4⟩:=h;⟨n,g,b,f,e,zan h1,h2.old,zan h3,zan h4⟩
section
variable {S:Sto}{P:D->Prop}{n:Nat}{g b f h a l d:D}
theorem zpm (k:S[n]?=some (.ins "Valley" (vF g b f h a l d)))(q:P g):∃ m c fs x,D.ref n=.ref m/\S[m]?=some (.ins c fs)/\fs.lookup ("ground":Str)=some x/\P x:=⟨n,_,_,g,rfl,k,by simp [List.lookup_cons],q⟩
theorem zov (k:S[n]?=some (.ins "Valley" (vF g b f h a l d)))(q:P b):∃ m c fs x,D.ref n=.ref m/\S[m]?=some (.ins c fs)/\fs.lookup ("beacons":Str)=some x/\P x:=⟨n,_,_,b,rfl,k,by rw [List.lookup_cons,show ((("beacons":Str)=="ground")=false) by decide +kernel];simp [List.lookup_cons],q⟩
theorem zrF (k:S[n]?=some (.ins "Valley" (vF g b f h a l d)))(q:P f):∃ m c fs x,D.ref n=.ref m/\S[m]?=some (.ins c fs)/\fs.lookup ("fogs":Str)=some x/\P x:=⟨n,_,_,f,rfl,k,by rw [List.lookup_cons,show ((("fogs":Str)=="ground")=false) by decide +kernel];dsimp only;rw [List.lookup_cons,show ((("fogs":Str)=="beacons")=false) by decide +kernel];simp [List.lookup_cons],q⟩
theorem zrL (k:S[n]?=some (.ins "Valley" (vF g b f h a l d)))(q:P h):∃ m c fs x,D.ref n=.ref m/\S[m]?=some (.ins c fs)/\fs.lookup ("haze":Str)=some x/\P x:=⟨n,_,_,h,rfl,k,by rw [List.lookup_cons,show ((("haze":Str)=="ground")=false) by decide +kernel];dsimp only;rw [List.lookup_cons,show ((("haze":Str)=="beacons")=false) by decide +kernel];dsimp only;rw [List.lookup_cons,show ((("haze":Str)=="fogs")=false) by decide +kernel];simp [List.lookup_cons],q⟩
theorem zqB (k:S[n]?=some (.ins "Valley" (vF g b f h a l d)))(q:P a):∃ m c fs x,D.ref n=.ref m/\S[m]?=some (.ins c fs)/\fs.lookup ("first":Str)=some x/\P x:=⟨n,_,_,a,rfl,k,by rw [List.lookup_cons,show ((("first":Str)=="ground")=false) by decide +kernel];dsimp only;rw [List.lookup_cons,show ((("first":Str)=="beacons")=false) by decide +kernel];dsimp only;rw [List.lookup_cons,show ((("first":Str)=="fogs")=false) by decide +kernel];dsimp only;rw [List.lookup_cons,show ((("first":Str)=="haze")=false) by decide +kernel];simp [List.lookup_cons],q⟩
theorem zrV (k:S[n]?=some (.ins "Valley" (vF g b f h a l d)))(q:P l):∃ m c fs x,D.ref n=.ref m/\S[m]?=some (.ins c fs)/\fs.lookup ("last":Str)=some x/\P x:=⟨n,_,_,l,rfl,k,by rw [List.lookup_cons,show ((("last":Str)=="ground")=false) by decide +kernel];dsimp only;rw [List.lookup_cons,show ((("last":Str)=="beacons")=false) by decide +kernel];dsimp only;rw [List.lookup_cons,show ((("last":Str)=="fogs")=false) by decide +kernel];dsimp only;rw [List.lookup_cons,show ((("last":Str)=="haze")=false) by decide +kernel];dsimp only;rw [List.lookup_cons,show ((("last":Str)=="first")=false) by decide +kernel];simp [List.lookup_cons],q⟩
end
theorem zia {bs:List (Str×(Int×Int))}{i:Nat}{d:D}(h:(bs.map bcD)[i]?=some d):∃ b,bs[i]?=some b/\d=bcD b:=by
 rw [List.getElem?_map] at h
 cases e:bs[i]? with
 | none=>rw [e] at h;cases h
 | some p=>rw [e] at h;cases h;exact⟨p,rfl,rfl⟩
def zmU (f:Str×(Int×Int)->D):D->D
 | .tup [.str z,.int a,.int b]=>f (z,a,b)
 | d=>d
theorem zhQ (f:Str×(Int×Int)->D)(bs:List (Str×(Int×Int))):(bs.map bcD).map (zmU f)=bs.map f:=by rw [List.map_map];rfl
def sqr (a b:Int×Int):Int:=(b.1-a.1)*(b.1-a.1)+(b.2-a.2)*(b.2-a.2)
theorem zo8 (a b:Int×Int):sqr a b=sqr b a:=by unfold sqr;grind
def hzy (z:Option Int)(q:Int):Bool:=match z with
 | some z=>decide (z<q)
 | none=>false
def zfE (V:Vl)(a b:Int×Int):D:=match ze0 V.cs a b with
 | some k=>.tup [.str "ground",.int k]
 | none=>if hzy V.hz (sqr a b)=true then .tup [.str "haze",.int (sqr a b)] else .non
def Alw (V:Vl)(a b:Int×Int):Prop:=ze0 V.cs a b=none/\hzy V.hz (sqr a b)=false
theorem zgJ {V:Vl}{a b:Int×Int}:zfE V a b=.non↔Alw V a b:=by
 unfold zfE Alw
 cases ze0 V.cs a b with
 | some k=>simp
 | none =>
  cases h:hzy V.hz (sqr a b) with
  | true=>simp
  | false=>simp
def zgE (V:Vl)(a b:Int×Int)(h:Int):Prop:=Alw V a b/\¬ ∃ F∈V.fs,zb8 F a.1 a.2 b.1 b.2 h
theorem zfw {V:Vl}(ok:zcd V){b c:Str×(Int×Int)}(hb:b∈V.bs)(hc:c∈V.bs)(e:b.1=c.1):b=c:=by
 obtain⟨i,hi,rfl⟩:=List.mem_iff_getElem.mp hb
 obtain⟨j,hj,rfl⟩:=List.mem_iff_getElem.mp hc
 have nd:=List.pairwise_iff_getElem.mp ok.nd
 rcases Nat.lt_trichotomy i j with h | h | h
 ·exact absurd (by rw [List.getElem_map,List.getElem_map];exact e) (nd i j (by simpa using hi) (by simpa using hj) h)
 ·subst h;rfl
 ·exact absurd (by rw [List.getElem_map,List.getElem_map];exact e.symm) (nd j i (by simpa using hj) (by simpa using hi) h)
theorem zjf {S A B X:Sto}(h:∃ T,A=S++T)(e:B=A++X):∃ T,B=S++T:=let ⟨T,h⟩:=h;⟨T++X,by rw [e,h,List.append_assoc]⟩
theorem zpz {f:Str}{v:D}:putD f v []=[(f,v)]:=rfl
theorem zao {f g:Str}{v x:D}{r:List (Str×D)}(h:g≠f):putD f v ((g,x)::r)=(g,x)::putD f v r:=by
 show (if g=f then _ else _)=_
 rw [if_neg h]
section
variable {g b f h a l d:D}
theorem vp2:putD "beacons" b ([("ground",g)]:List (Str×D))=([("ground",g),("beacons",b)]:List (Str×D)):=by rw [zao (by decide +kernel)];rfl
theorem vp3:putD "fogs" f ([("ground",g),("beacons",b)]:List (Str×D))=([("ground",g),("beacons",b),("fogs",f)]:List (Str×D)):=by rw [zao (by decide +kernel),zao (by decide +kernel)];rfl
theorem vp4:putD "haze" h ([("ground",g),("beacons",b),("fogs",f)]:List (Str×D))=([("ground",g),("beacons",b),("fogs",f),("haze",h)]:List (Str×D)):=by rw [zao (by decide +kernel),zao (by decide +kernel),zao (by decide +kernel)];rfl
theorem vp5:putD "first" a ([("ground",g),("beacons",b),("fogs",f),("haze",h)]:List (Str×D))=([("ground",g),("beacons",b),("fogs",f),("haze",h),("first",a)]:List (Str×D)):=by rw [zao (by decide +kernel),zao (by decide +kernel),zao (by decide +kernel),zao (by decide +kernel)];rfl
theorem vp6:putD "last" l ([("ground",g),("beacons",b),("fogs",f),("haze",h),("first",a)]:List (Str×D))=([("ground",g),("beacons",b),("fogs",f),("haze",h),("first",a),("last",l)]:List (Str×D)):=by rw [zao (by decide +kernel),zao (by decide +kernel),zao (by decide +kernel),zao (by decide +kernel),zao (by decide +kernel)];rfl
theorem vp7:putD "delay" d ([("ground",g),("beacons",b),("fogs",f),("haze",h),("first",a),("last",l)]:List (Str×D))=vF g b f h a l d:=by rw [zao (by decide +kernel),zao (by decide +kernel),zao (by decide +kernel),zao (by decide +kernel),zao (by decide +kernel),zao (by decide +kernel)];rfl
end
theorem zo0 {L R B T x1 z1 x2 z2:Int}:Hit L R B T x2 z2 x1 z1↔Hit L R B T x1 z1 x2 z2:=by
 have one:∀ {x1 z1 x2 z2:Int},Hit L R B T x1 z1 x2 z2->Hit L R B T x2 z2 x1 z1:=fun {x1 z1 x2 z2} ⟨p,q,h1,h2,h3,h4,h5,h6,h7⟩=>by
  have e1:x2*q+(q-p)*(x1-x2)=x1*q+p*(x2-x1):=by grind
  have e2:z2*q+(q-p)*(z1-z2)=z1*q+p*(z2-z1):=by grind
  exact⟨q-p,q,h1,by omega,by omega,by rw [e1];exact h4,by rw [e1];exact h5,by rw [e2];exact h6,by rw [e2];exact h7⟩
 exact⟨one,one⟩
theorem zmK {F:Fg}{a b:Int×Int}{h:Int}:zb8 F b.1 b.2 a.1 a.2 h↔zb8 F a.1 a.2 b.1 b.2 h:=by
 unfold zb8
 rw [zo0]
theorem znC {V:Vl}{a b:Int×Int}{h:Int}:zgE V b a h↔zgE V a b h:=by
 unfold zgE Alw
 rw [zoH,zo8 b a]
 simp only [zmK]
theorem zf8 {α:Type}(xs:List α){k:Int}(h0:0<=k)(h1:k<=xs.length):cutD xs none (some k)=xs.take k.toNat:=by
 unfold cutD slD
 dsimp only
 rw [if_neg (by omega),List.drop_zero,Nat.sub_zero,Nat.min_eq_left (by omega)]
theorem zpr {α:Type}(xs:List α){k:Int}(h0:0<=k)(h1:k<=xs.length):cutD xs (some k) none=xs.drop k.toNat:=by
 unfold cutD slD
 dsimp only
 rw [if_neg (by omega),Nat.min_eq_left (by omega)]
 exact List.take_of_length_le (by rw [List.length_drop];exact Nat.le_refl _)
def zuX (fs:List Fg)(s t:Int×Int)(h:Int)(d:D):Prop:=(∃ (k:Nat) (F:Fg),fs[k]?=some F/\zb8 F s.1 s.2 t.1 t.2 h/\(∀ (j:Nat) G,j<k->fs[j]?=some G->¬ zb8 G s.1 s.2 t.1 t.2 h)/\d=.tup [.str "fog",.int k])\/((∀ F∈fs,¬ zb8 F s.1 s.2 t.1 t.2 h)/\d=.non)
def zpx (V:Vl)(n m:Str)(s t:Int×Int)(h:Int)(d:D):Prop:=(n=m/\d=.non)\/(n≠m/\((¬ Alw V s t/\d=zfE V s t)\/(Alw V s t/\zuX V.fs s t h d)))
theorem zpx.non {V:Vl}{n m:Str}{s t:Int×Int}{h:Int}{d:D}(a:zpx V n m s t h d):d=.non↔n=m\/zgE V s t h:=by
 rcases a with ⟨a1,rfl⟩ | ⟨a1,⟨a2,rfl⟩ | ⟨a2,⟨k,F,hk,hF,hn,rfl⟩ | ⟨hn,rfl⟩⟩⟩
 ·exact⟨fun _=>.inl a1,fun _=>rfl⟩
 ·rw [zgJ]
  exact⟨fun z=>absurd z a2,fun z=>z.elim (fun z=>absurd z a1) fun z=>absurd z.1 a2⟩
 ·exact⟨fun z=>(by cases z),fun z=>z.elim (fun z=>absurd z a1) fun z=>absurd ⟨F,List.mem_of_getElem? hk,hF⟩ z.2⟩
 ·exact⟨fun _=>.inr ⟨a2,fun⟨F,hF,g⟩=>hn F hF g⟩,fun _=>rfl⟩
theorem zjc (n:Str):∀ zs:List Str,((zs.map D.str).any fun z=>eqv z (.str n))=decide (n∈zs)
 | []=>by simp
 | z::zs=>by
  rw [List.map_cons,List.any_cons,zjc n zs]
  show ((z==n)||decide (n∈zs))=decide (n∈z::zs)
  rw [Bool.eq_iff_iff,Bool.or_eq_true,beq_iff_eq,decide_eq_true_eq,decide_eq_true_eq,List.mem_cons]
  exact⟨fun h=>h.imp (·.symm) id,fun h=>h.imp (·.symm) id⟩
theorem zlG {zs:List Str}(h:∀ z∈zs,fl 20 (.str z)=true):(zs.map D.str).all (fl 20)=true:=by
 rw [List.all_map,List.all_eq_true];exact h
theorem ziD {S:Sto}{Q:DK}{x:D}{zs:List Str}{n:Str}(hx:zgF S x (zs.map D.str))(hn:fl 20 (.str n)=true)(h:∀ z∈zs,fl 20 (.str z)=true)(q:Q (.bl (decide (n∈zs))) S):oIn (.str n) x S Q:=.inl ⟨_,⟨_,hx,hn,zlG h,rfl⟩,by rw [zjc];exact q⟩
theorem zgl {S:Sto}{Q:DK}{x:D}{zs:List Str}{n:Str}(hx:zgF S x (zs.map D.str))(hn:fl 20 (.str n)=true)(h:∀ z∈zs,fl 20 (.str z)=true)(q:Q (.bl (!decide (n∈zs))) S):zgs (.str n) x S Q:=.inl ⟨_,⟨_,hx,hn,zlG h,rfl⟩,by rw [zjc];exact q⟩
theorem zcd.flN {V:Vl}(ok:zcd V):∀ z∈V.bs.map (·.1),fl 20 (.str z)=true:=fun z hz=>by
 obtain⟨b,hb,rfl⟩:=List.mem_map.mp hz
 exact zno (ok.nm b hb) 20
theorem zm2 {S T:Sto}{n:Nat}{c:Cell}(h:S.length<=n):(S++T).set n c=S++T.set (n-S.length) c:=List.set_append_right _ _ h
def onS (p:Str->D):D->D
 | .str z=>p z
 | d=>d
theorem zbS {zs:List Str}{i:Nat}{d:D}(h:(zs.map D.str)[i]?=some d):∃ z,zs[i]?=some z/\d=.str z:=by
 rw [List.getElem?_map] at h
 cases e:zs[i]? with
 | none=>rw [e] at h;cases h
 | some p=>rw [e] at h;cases h;exact⟨p,rfl,rfl⟩
theorem zjb (f:Str->D)(zs:List Str):(zs.map D.str).map (onS f)=zs.map f:=by rw [List.map_map];rfl
theorem zon {S:Sto}{Q:DK}{x y:Str}(fx:fl 20 (.str x)=true)(fy:fl 20 (.str y)=true)(q:Q (.bl (decide (x=y))) S):oEq (.str x) (.str y) S Q:=zqd fx fy (by
 by_cases h:x=y
 ·subst h;rw [decide_eq_true rfl];exact beq_self_eq_true x
 ·rw [decide_eq_false h];exact beq_eq_false_iff_ne.mpr h) q
def prs:List Str->List (Str×Str)
 | []=>[]
 | z::zs=>zs.map (fun y=>(z,y))++prs zs
abbrev p2s (c:Str×Str):D:=.tup [.str c.1,.str c.2]
theorem zgV:∀ zs:List Str,(prs zs).length<=zs.length*zs.length
 | []=>Nat.le_refl _
 | z::zs=>by
  have:=zgV zs
  show (zs.map (fun y=>(z,y))++prs zs).length<=(zs.length+1)*(zs.length+1)
  rw [List.length_append,List.length_map,Nat.add_mul,Nat.mul_add]
  omega
theorem zkX:∀ {zs:List Str} {i:Nat} {z:Str},zs[i]?=some z->∃ A,prs zs=A++(zs.drop (i+1)).map (fun y=>(z,y))++prs (zs.drop (i+1))/\prs zs=A++prs (zs.drop i)
 | [],i,z,h=>by simp at h
 | y::zs,0,z,h=>by
  have:y=z:=by simpa using h
  subst this
  exact⟨[],by simp [prs],by simp⟩
 | y::zs,i+1,z,h=>by
  obtain⟨A,h1,h2⟩:=zkX (zs:=zs) (i:=i) (z:=z) (by simpa using h)
  exact⟨zs.map (fun x=>(y,x))++A,by simp [prs,h1],by simp only [prs,List.drop_succ_cons];rw [h2,List.append_assoc]⟩
def zke (V:Vl)(h:Int)(ps qs:List (Str×Str)):Prop:=∃ f:Str×Str->Bool,qs=ps.filter f/\∀ p∈ps,∀ s t,(p.1,s)∈V.bs->(p.2,t)∈V.bs->(f p=true↔p.1=p.2\/zgE V s t h)
theorem zcD:∀ {zs:List Str} {p:Str×Str},p∈prs zs->p.1∈zs/\p.2∈zs
 | [],p,h=>by simp [prs] at h
 | z::zs,p,h=>by
  rcases List.mem_append.mp h with h | h
  ·obtain⟨y,hy,rfl⟩:=List.mem_map.mp h
   exact⟨by simp,List.mem_cons_of_mem _ hy⟩
  ·obtain⟨h1,h2⟩:=zcD h
   exact⟨List.mem_cons_of_mem _ h1,List.mem_cons_of_mem _ h2⟩
theorem ziX {cs:List (Str×Str)}{i:Nat}{d:D}(h:(cs.map p2s)[i]?=some d):∃ c,cs[i]?=some c/\d=p2s c:=by
 rw [List.getElem?_map] at h
 cases e:cs[i]? with
 | none=>rw [e] at h;cases h
 | some p=>rw [e] at h;cases h;exact⟨p,rfl,rfl⟩
theorem zkn {V:Vl}{h:Int}{ps qs qs':List (Str×Str)}{i:Nat}{p:Str×Str}{g:Bool}{s t:Int×Int}(hp:ps[i]?=some p)(hs:(p.1,s)∈V.bs)(ht:(p.2,t)∈V.bs)(hw:zke V h (ps.take i) qs)(hg:∀ s t,(p.1,s)∈V.bs->(p.2,t)∈V.bs->(g=true↔p.1=p.2\/zgE V s t h))(e:qs'=if g=true then qs++[p] else qs):zke V h (ps.take (i+1)) qs':=by
 obtain⟨f,hf,hfp⟩:=hw
 rw [zbe hp]
 have efg:p∈ps.take i->f p=g:=fun z=>by rw [Bool.eq_iff_iff,hfp p z s t hs ht,hg s t hs ht]
 have e1:(ps.take i).filter (fun x=>if x∈ps.take i then f x else g)=qs:=by
  rw [hf]
  exact List.filter_congr fun x hx=>by rw [if_pos hx]
 have e2:(if p∈ps.take i then f p else g)=g:=by
  split
  ·rename_i z;exact efg z
  ·rfl
 refine⟨fun x=>if x∈ps.take i then f x else g,?_,fun x hx s' t' hs' ht'=>?_⟩
 ·rw [List.filter_append,e1,e]
  cases g with
  | true=>rw [if_pos rfl,List.filter_cons_of_pos (by exact e2)];rfl
  | false=>rw [if_neg (by decide),List.filter_cons_of_neg (by rw [e2];decide)];simp
 ·dsimp only
  by_cases z:x∈ps.take i
  ·rw [if_pos z];exact hfp x z s' t' hs' ht'
  ·rcases List.mem_append.mp hx with hx | hx
   ·exact absurd hx z
   ·have:x=p:=by simpa using hx
    subst this
    rw [if_neg z];exact hg s' t' hs' ht'
def zce (V:Vl)(h:Int)(a b:Str):Prop:=∃ s t,(a,s)∈V.bs/\(b,t)∈V.bs/\(a=b\/zgE V s t h)
theorem zeU:∀ {F N:List Str},F.Nodup->(∀ x∈F,x∈N)->F.length<=N.length
 | [],_,_,_=>Nat.zero_le _
 | x::F,N,nd,h=>by
  obtain⟨n1,n2⟩:=List.nodup_cons.mp nd
  have hx:=h x (by simp)
  have:=zeU (F:=F) (N:=N.erase x) n2 fun y hy=>(List.mem_erase_of_ne (fun e:y=x=>n1 (e▸hy))).mpr (h y (List.mem_cons_of_mem _ hy))
  rw [List.length_erase_of_mem hx] at this
  have:=List.length_pos_of_mem hx
  rw [List.length_cons];omega
open Classical in
noncomputable def zmb (V:Vl) (h:Int) (p:Str×Str):Bool:=decide (zce V h p.1 p.2)
theorem zhK {V:Vl}{h:Int}{p:Str×Str}:zmb V h p=true↔zce V h p.1 p.2:=by unfold zmb;exact @decide_eq_true_iff _ (Classical.propDecidable _)
theorem zk5 {V:Vl}{h:Int}{a b:Str}(w:zce V h a b):zce V h b a:=let ⟨s,t,hs,ht,e⟩:=w;⟨t,s,ht,hs,e.imp (·.symm) znC.mpr⟩
theorem zsJ {V:Vl}(ok:zcd V){h:Int}{ps qs:List (Str×Str)}(hp:∀ p∈ps,p.1∈V.bs.map (·.1)/\p.2∈V.bs.map (·.1))(w:zke V h ps qs):qs=ps.filter (zmb V h):=by
 obtain⟨f,rfl,hf⟩:=w
 refine List.filter_congr fun p hpm=>?_
 obtain⟨m1,m2⟩:=hp p hpm
 obtain⟨b,hb,eb⟩:=List.mem_map.mp m1
 obtain⟨c,hc,ec⟩:=List.mem_map.mp m2
 have hb':(p.1,b.2)∈V.bs:=by rw [<- eb];exact hb
 have hc':(p.2,c.2)∈V.bs:=by rw [<- ec];exact hc
 rw [Bool.eq_iff_iff,hf p hpm b.2 c.2 hb' hc',zhK]
 constructor
 ·intro z;exact⟨_,_,hb',hc',z⟩
 ·rintro⟨s,t,hs,ht,z⟩
  have es:s=b.2:=congrArg Prod.snd (zfw ok hs hb' rfl)
  have et:t=c.2:=congrArg Prod.snd (zfw ok ht hc' rfl)
  subst es et;exact z
theorem zgB {S:Sto}{Q:DK}{x y:Str}(fx:fl 20 (.str x)=true)(fy:fl 20 (.str y)=true)(q:Q (.bl (!decide (x=y))) S):oNe (.str x) (.str y) S Q:=zp8 fx fy (by
 by_cases h:x=y
 ·subst h;rw [decide_eq_true rfl];exact beq_self_eq_true x
 ·rw [decide_eq_false h];exact beq_eq_false_iff_ne.mpr h) q
theorem zfp:∀ {zs:List Str} {p:Str×Str},p∈prs zs↔∃ i j:Nat,i<j/\zs[i]?=some p.1/\zs[j]?=some p.2
 | [],p=>by simp [prs]
 | z::zs,p=>by
  show p∈zs.map (fun y=>(z,y))++prs zs↔_
  rw [List.mem_append,zfp (zs:=zs)]
  constructor
  ·rintro (h | ⟨i,j,h,h1,h2⟩)
   ·obtain⟨y,hy,rfl⟩:=List.mem_map.mp h
    obtain⟨j,hj,e⟩:=List.mem_iff_getElem.mp hy
    exact⟨0,j+1,by omega,rfl,by rw [List.getElem?_cons_succ,List.getElem?_eq_getElem hj,e]⟩
   ·exact⟨i+1,j+1,by omega,by rw [List.getElem?_cons_succ];exact h1,by rw [List.getElem?_cons_succ];exact h2⟩
  ·rintro⟨i,j,h,h1,h2⟩
   obtain⟨j,rfl⟩:∃ k,j=k+1:=⟨j-1,by omega⟩
   rw [List.getElem?_cons_succ] at h2
   cases i with
   | zero =>
    left
    have e:z=p.1:=by simpa using h1
    exact List.mem_map.mpr ⟨p.2,List.mem_of_getElem? h2,by rw [e]⟩
   | succ i =>
    rw [List.getElem?_cons_succ] at h1
    exact .inr ⟨i,j,by omega,h1,h2⟩
theorem zew {zs:List Str}(nd:zs.Nodup){i j:Nat}{z:Str}(hi:zs[i]?=some z)(hj:zs[j]?=some z):i=j:=by
 have li:=zai hi
 have lj:=zai hj
 rw [List.getElem?_eq_getElem li] at hi
 rw [List.getElem?_eq_getElem lj] at hj
 have e:zs[i]=zs[j]:=Option.some.inj (hi.trans hj.symm)
 have:=List.pairwise_iff_getElem.mp nd
 rcases Nat.lt_trichotomy i j with g | g | g
 ·exact absurd e (this i j li lj g)
 ·exact g
 ·exact absurd e.symm (this j i lj li g)
theorem zkz {zs:List Str}(nd:zs.Nodup){a b:Str}(h:(a,b)∈prs zs):(b,a)∉prs zs:=fun k=>by
 obtain⟨i,j,l,h1,h2⟩:=zfp.mp h
 obtain⟨i',j',l',h1',h2'⟩:=zfp.mp k
 have e1:=zew nd h1 h2'
 have e2:=zew nd h2 h1'
 omega
theorem zka {zs:List Str}(nd:zs.Nodup){a b:Str}(h:(a,b)∈prs zs):a≠b:=fun e=>by
 subst e
 exact zkz nd h h
theorem zpg {zs:List Str}{a b:Str}(ha:a∈zs)(hb:b∈zs)(h:a≠b):(a,b)∈prs zs\/(b,a)∈prs zs:=by
 obtain⟨i,hi,ei⟩:=List.mem_iff_getElem.mp ha
 obtain⟨j,hj,ej⟩:=List.mem_iff_getElem.mp hb
 have gi:zs[i]?=some a:=by rw [List.getElem?_eq_getElem hi,ei]
 have gj:zs[j]?=some b:=by rw [List.getElem?_eq_getElem hj,ej]
 rcases Nat.lt_trichotomy i j with g | g | g
 ·exact .inl (zfp.mpr ⟨i,j,g,gi,gj⟩)
 ·subst g;rw [gi] at gj;exact absurd (Option.some.inj gj) h
 ·exact .inr (zfp.mpr ⟨j,i,g,gj,gi⟩)
theorem zjK:∀ {zs:List Str},zs.Nodup->(prs zs).Nodup
 | [],_=>by simp [prs]
 | z::zs,nd=>by
  obtain⟨n1,n2⟩:=List.nodup_cons.mp nd
  show (zs.map (fun y=>(z,y))++prs zs).Nodup
  rw [List.nodup_append]
  refine⟨?_,zjK n2,fun a ha b hb e=>?_⟩
  ·refine List.pairwise_map.mpr (n2.imp fun h e=>h (congrArg Prod.snd e))
  ·subst e
   obtain⟨y,hy,rfl⟩:=List.mem_map.mp ha
   exact n1 (zcD hb).1
theorem zgY {V:Vl}{h:Int}{a b:Str}(w:zce V h a b):a∈V.bs.map (·.1)/\b∈V.bs.map (·.1):=by
 obtain⟨s,t,hs,ht,_⟩:=w
 exact⟨List.mem_map.mpr ⟨_,hs,rfl⟩,List.mem_map.mpr ⟨_,ht,rfl⟩⟩
def zbu (S:Sto)(x:D)(V:Vl)(h:Int):Prop:=∃ (n:Nat) (kvs:List (Str×D)),x=.ref n/\S[n]?=some (.dk kvs)/\∀ z∈V.bs.map (·.1),∃ (m:Nat) (ys:List Str),dval kvs z=some (.ref m)/\S[m]?=some (.lst (ys.map D.str))/\ys.Nodup/\∀ y,y∈ys↔y≠z/\zce V h z y
theorem zbu.old {S T:Sto}{x:D}{V:Vl}{h:Int}(w:zbu S x V h):zbu (S++T) x V h:=by
 obtain⟨n,kvs,e,hn,hk⟩:=w
 refine⟨n,kvs,e,zan hn,fun z hz=>?_⟩
 obtain⟨m,ys,h1,h2,h3,h4⟩:=hk z hz
 exact⟨m,ys,h1,zan h2,h3,h4⟩
theorem zbu.get {S:Sto}{x:D}{V:Vl}{h:Int}(w:zbu S x V h){z:Str}(hz:z∈V.bs.map (·.1)):∃ (m:Nat) (ys:List Str),DGt S x (.str z) (some (.ref m))/\S[m]?=some (.lst (ys.map D.str))/\ys.Nodup/\∀ y,y∈ys↔y≠z/\zce V h z y:=by
 obtain⟨n,kvs,rfl,hn,hk⟩:=w
 obtain⟨m,ys,h1,h2,h3,h4⟩:=hk z hz
 exact⟨m,ys,DGt.k hn h1,h2,h3,h4⟩
structure WbP (zs:List Str)(ps:List (Int×Int))(fs:List Fg)(hz f:Int):Prop where
 l2:2<=zs.length
 l8:zs.length<=8
 nm:∀ z∈zs,nmB z=true
 hd:∀ (i:Nat) z,zs[i]?=some z->z.cps.toList.head?=some (97+i)
 lp:ps.length=zs.length
 sp:∀ p∈ps,0<=p.1/\p.1<=4/\0<=p.2/\p.2<=3
 lf:fs.length<=4
 fg:∀ F∈fs,FgV F
 h0:0<=hz
 h1:hz<=10
 f0:-4<=f
 f1:f<=4
theorem WbP.nd {zs:List Str}{ps:List (Int×Int)}{fs:List Fg}{hz f:Int}(w:WbP zs ps fs hz f):zs.Nodup:=by
 refine List.pairwise_iff_getElem.mpr fun i j hi hj hij e=>?_
 have h1:=w.hd i _ (List.getElem?_eq_getElem hi)
 have h2:=w.hd j _ (List.getElem?_eq_getElem hj)
 rw [e,h2] at h1
 have:=Option.some.inj h1
 omega
def onP (p:Str->Bool):D->Bool
 | .str z=>p z
 | _=>false
def zkh (V:Vl)(h:Int)(a b:Str)(us:List Str):Prop:=us[0]?=some a/\us[us.length-1]?=some b/\us.Nodup/\(∀ u∈us,u∈V.bs.map (·.1))/\∀ (k:Nat) x y,us[k]?=some x->us[k+1]?=some y->zce V h x y
theorem zlV {us:List Str}:zkg us<us.length↔¬ us.Nodup:=by
 constructor
 ·intro h nd
  rw [ziA nd] at h
  exact Nat.lt_irrefl _ h
 ·intro h
  have:∃ i j,∃ (hi:i<us.length) (hj:j<us.length),i<j/\us[i]=us[j]:=by
   apply Classical.byContradiction
   intro no
   exact h (List.pairwise_iff_getElem.mpr fun i j hi hj hij e=>no ⟨i,j,hi,hj,hij,e⟩)
  obtain⟨i,j,hi,hj,hij,e⟩:=this
  exact zoW hij (List.getElem?_eq_getElem hi) (by rw [List.getElem?_eq_getElem hj,e])
theorem zhD {ds:List D}{d:D}(h:ds[ds.length-1]?=some d):atD ds (-1)=some d:=by
 have hl:=zai h
 unfold atD ixD
 rw [if_neg (by decide),if_pos (by omega)]
 show ds[((-1:Int)+(ds.length:Int)).toNat]?=some d
 rw [show ((-1:Int)+(ds.length:Int)).toNat=ds.length-1 by omega];exact h
section
variable {see:Nat->Nat->Int->Prop}{dl:Int}{s:Nat}{h0:Int}
inductive Lt (see:Nat->Nat->Int->Prop)(dl:Int)(s:Nat)(h0:Int):Nat->Int->Prop
 | base:Lt see dl s h0 s h0
 | step {k j:Nat} {h u:Int}:Lt see dl s h0 k h->h<=u->see k j u->Lt see dl s h0 j (u+dl)
end
def hrs (V:Vl):List Int:=(List.range (V.h1-V.h0+1).toNat).map fun i:Nat=>V.h0+(i:Int)
end Dp
namespace My
open PySem PySem.Spec PyProof.Rows L2
section
variable {prog:Program}{w:World}{A:Around}{E:Value->Shared->Prop}{s:Shared}
end
theorem zkJ {α:Type}(xs:List α)(a:Nat):∀ m,a+m<=xs.length->((List.range m).map (a+·)).filterMap (xs[·]?)=(xs.drop a).take m
 | 0,_=>by simp
 | m+1,h=>by
  rw [List.range_succ,List.map_append,List.filterMap_append,zkJ xs a m (by omega),List.take_succ,List.getElem?_drop]
  simp only [List.map_cons,List.map_nil,List.filterMap_cons,List.filterMap_nil]
  rw [List.getElem?_eq_getElem (by omega)];rfl
theorem zuH (n:Nat)(lo hi:Option Int):Builtin.Str.strSliceIndices lo hi 1 n=(List.range (HT.sIx n n hi-HT.sIx n 0 lo)).map (HT.sIx n 0 lo+·):=by
 rw [<- sliceRange_one]
 unfold Builtin.Str.strSliceIndices
 have cl:∀ (o:Option Int) (d:Nat),(match o with | none=>(d:Int) | some i=>if (1:Int) > 0 then max 0 (min (if i<0 then i+(n:Int) else i) n) else max (-1) (min (if i<0 then i+(n:Int) else i) ((n:Int)-1)))=((HT.sIx n d o:Nat):Int):=fun o d=>by
  cases o with
  | none=>rfl
  | some i =>
   show (if (1:Int) > 0 then _ else _)=(((if i<0 then (i+n).toNat else min i.toNat n):Nat):Int)
   rw [if_pos (by decide)]
   by_cases h:i<0
   ·rw [if_pos h,if_pos h];omega
   ·rw [if_neg h,if_neg h];omega
 have h1:=cl lo 0
 have h2:=cl hi n
 simp only [show ((1:Int) > 0)=True by simp,if_true] at h1 h2 ⊢
 rw [<- h1,<- h2]
 rfl
theorem ziF (n:Nat)(o:Option Int)(d:Nat)(hd:d<=n):HT.sIx n d o<=n:=by
  cases o with
  | none=>exact hd
  | some i =>
    show (if i<0 then (i+n).toNat else min i.toNat n)<=n
    split<;>omega
theorem zoo (x:Str)(lo hi:Option Int):Txt.slice x lo hi=⟨((x.cps.toList.drop (HT.sIx x.length 0 lo)).take (HT.sIx x.length x.length hi-HT.sIx x.length 0 lo)).toArray⟩:=by
 have hl:x.cps.toList.length=x.length:=Array.length_toList
 have b1:=ziF x.length lo 0 (Nat.zero_le _)
 have b2:=ziF x.length hi x.length (Nat.le_refl _)
 unfold Txt.slice
 rw [zuH]
 have fm:((List.range (HT.sIx x.length x.length hi-HT.sIx x.length 0 lo)).map (HT.sIx x.length 0 lo+·)).filterMap (x.cps[·]?)=(x.cps.toList.drop (HT.sIx x.length 0 lo)).take (HT.sIx x.length x.length hi-HT.sIx x.length 0 lo):=by
  rcases Nat.lt_or_ge (HT.sIx x.length x.length hi) (HT.sIx x.length 0 lo) with g | g
  ·rw [show HT.sIx x.length x.length hi-HT.sIx x.length 0 lo=0 by omega];simp
  ·rw [<- zkJ x.cps.toList _ _ (by rw [hl];omega)]
   congr 1
   funext i
   rw [Array.getElem?_toList]
 split
 ·rename_i h
  rw [Bool.and_eq_true] at h
  have h2:=eq_of_beq h.2
  rw [List.length_map,List.length_range] at h2
  have z1:HT.sIx x.length 0 lo=0:=by omega
  rw [h2,z1,List.drop_zero,List.take_of_length_le (by omega)]
 ·rw [fm]
def zuO:V->Option Int->Option Int->Hp->VK->Prop:=fun x lo hi H Q=>∃ z:Str,x=.str z/\z.length<=sizeLine/\Q (.str ⟨((z.cps.toList.drop (HT.sIx z.length 0 lo)).take (HT.sIx z.length z.length hi-HT.sIx z.length 0 lo)).toArray⟩) H
theorem zss {X:Cx}:SlR X zuO:=by
 intro pins s σ H x v vl vu lo hi sl Q I rx hs pl pu h
 obtain⟨z,rfl,hz,q⟩:=h
 obtain⟨t,rfl⟩:=rx
 refine⟨"str",_,F.slot_str_getitem.lookup,typeIs_str _ _ _,?_⟩
 have go:∀ (l u:Option (Int×Tok)),l.map (·.1)=lo->u.map (·.1)=hi->s.heap.IsSlice sl l u none->wpAny (model X.prog X.w) X.A (getItem (.str z t) (.ref sl)) (EP X pins σ Q) X.xe s:=fun l u el eu is=>by
  refine wpAny_getItem_str_slice is rfl ?_
  unfold sliceMade slicePicked
  rw [el,eu]
  refine post_val_or_str ⟨Nat.le_trans (Txt.slice_le z lo hi) hz,fun t' k=>?_⟩
  show EP X pins σ Q (.str (Txt.slice z lo hi) t') _
  rw [zoo]
  exact⟨.str _,H,I.tok _,⟨t',rfl⟩,q⟩
 obtain⟨o,ho,hc,hd⟩:=hs
 cases pl with
 | none =>
  cases pu with
  | none=>exact go none none rfl rfl ⟨o,ho,hc,hd⟩
  | int j tj=>exact go none (some (j,tj)) rfl rfl ⟨o,ho,hc,hd⟩
 | int i ti =>
  cases pu with
  | none=>exact go (some (i,ti)) none rfl rfl ⟨o,ho,hc,hd⟩
  | int j tj=>exact go (some (i,ti)) (some (j,tj)) rfl rfl ⟨o,ho,hc,hd⟩
section
open AutoSeq1 (wpAny_loadPart')
variable {prog:Program}{w:World}{A:Around}{E:Value->Shared->Prop}{s:Shared}
theorem ziM {it t:Addr}{i:Nat}{items:Array Value}{x:Value}{Q:Value->Shared->Prop}(hit:s.heap.IsTupleIter it t i)(ht:s.heap.IsTuple t items)(hx:items[i]?=some x)
  (hQ:∀ h',h'.IsTupleIter it t (i+1)->Heap.SameBut it s.heap h'->Q x { s with heap:=h' }):wpAny (model prog w) A (Builtin.SmallTypes.nextOf (.ref it)) Q E s:=by
 obtain⟨o,ho,hc,hd⟩:=id hit
 obtain⟨ol,hol,_,nl,hdl⟩:=ht
 unfold Builtin.SmallTypes.nextOf
 refine wpAny_bind (wpAny_callSpecial?_slot (name:=Str.ofString "__next__") hit.typeIs F.slot_tuple_iterator_next (wpAny_call_entry F.slot_tuple_iterator_next hit.typeIs F.entry_tuple_iterator_next ?_ (F.args_tuple_iterator_next_1 _)))
 show wpAny _ _ (field (.ref it) 0 >>= _) _ _ s
 refine wpAny_bind (wpAny_field ho hd (x:=.ref t) rfl ?_)
 show wpAny _ _ (if (Value.ref t==Value.none)=true then _ else _) _ _ s
 rw [if_neg (show ¬ ((Value.ref t==Value.none)=true) from Bool.false_ne_true)]
 show wpAny _ _ (field (.ref it) 1 >>= _) _ _ s
 refine wpAny_bind (wpAny_field ho hd (x:=.int i 0) rfl ?_)
 show wpAny _ _ (seqItems? (.ref t) >>= _) _ _ s
 refine wpAny_bind (wpAny_seqItems hol hdl ?_)
 simp only [Int.toNat_natCast,hx]
 refine wpAny_bind (wpAny_setField ho hd (by simp) (wpAny_pure ⟨x,rfl,wpAny_pure (hQ _ ?_ (Heap.SameBut.update ..))⟩))
 exact⟨_,Heap.get?_update_self _ ho (Obj.isFreed_of_fields (Obj.data_mapFields hd _)),(Obj.cls_mapFields ..).trans hc,by rw [Obj.data_mapFields hd];simp [rawInt]⟩
theorem zgR {it t:Addr}{i:Nat}{items:Array Value}{Q:Value->Shared->Prop}(hh:A.handled=none)(hit:s.heap.IsTupleIter it t i)(ht:s.heap.IsTuple t items)(hx:items[i]?=none)
  (hE:∀ h' e,Heap.ExtBut it s.heap h'->(∃ o,h'.get? e=some o/\o.cls=.type "StopIteration")->E (.ref e) { s with heap:=h' }):wpAny (model prog w) A (Builtin.SmallTypes.nextOf (.ref it)) Q E s:=by
 obtain⟨o,ho,hc,hd⟩:=id hit
 obtain⟨ol,hol,_,nl,hdl⟩:=ht
 unfold Builtin.SmallTypes.nextOf
 refine wpAny_bind (wpAny_callSpecial?_slot (name:=Str.ofString "__next__") hit.typeIs F.slot_tuple_iterator_next (wpAny_call_entry F.slot_tuple_iterator_next hit.typeIs F.entry_tuple_iterator_next ?_ (F.args_tuple_iterator_next_1 _)))
 show wpAny _ _ (field (.ref it) 0 >>= _) _ _ s
 refine wpAny_bind (wpAny_field ho hd (x:=.ref t) rfl ?_)
 show wpAny _ _ (if (Value.ref t==Value.none)=true then _ else _) _ _ s
 rw [if_neg (show ¬ ((Value.ref t==Value.none)=true) from Bool.false_ne_true)]
 show wpAny _ _ (field (.ref it) 1 >>= _) _ _ s
 refine wpAny_bind (wpAny_field ho hd (x:=.int i 0) rfl ?_)
 show wpAny _ _ (seqItems? (.ref t) >>= _) _ _ s
 refine wpAny_bind (wpAny_seqItems hol hdl ?_)
 simp only [Int.toNat_natCast,hx]
 refine wpAny_bind (wpAny_rule (wpAny_bind (wpAny_setField ho hd (by simp) ?_)))
 show wpAny _ _ (newExc (.type "StopIteration") [] >>= _) _ _ _
 refine wpAny_bind ?_
 simp only [newExc,newTuple]
 refine wpAny_bind (wpAny_newObj_type ?_ (by size_fits))
 refine wpAny_bind (m:=firstArgMember _ _) (wpAny_of_eq (a:=Value.none) (by first | rfl | (simp only [firstArgMember];rfl)) ?_)
 refine wpAny_newObj_type ?_ (by size_fits)
 simp only [raiseNew]
 refine wpAny_bind (wpAny_handled ?_)
 first | rw [show A.in1.handled=none from hh] | rw [hh]
 refine wpAny_bind (wpAny_pure (wpAny_throw ?_))
 exact hE _ _ (((Heap.SameBut.update ..).extBut.push _).push _) ⟨_,Heap.get?_push_size _ rfl,rfl⟩
theorem zsy (hh:A.handled=none)(it t:Addr)(hne:t≠it)(items:Array Value) :
  Draws prog w A it [it,t] items.size (fun i v=>items[i]?=some v) (fun i h=>h.IsTupleIter it t i/\h.IsTuple t items) where
 live:=fun _ _ st=>let ⟨o,ho,_⟩:=st.1;⟨o,ho⟩
 frame:=fun _ _ _ st hk=>⟨let ⟨o,ho,r⟩:=st.1;⟨o,hk it (by simp) o ho,r⟩,let ⟨o,ho,r⟩:=st.2;⟨o,hk t (by simp) o ho,r⟩⟩
 item:=fun i s Q E hi st hQ=>ziM st.1 st.2 (x:=items[i]) (by simp [hi]) fun h' hit' hs'=>hQ _ h' s.toks (by simp [hi]) ⟨hit',st.2.extBut hs'.extBut hne⟩ hs'
 done:=fun s Q E st hE=>zgR hh st.1 st.2 (by simp) hE
theorem zrh (hh:A.handled=none)(it t:Addr)(items:Array Value)(i:Nat)(hx:items[i]?=none) :
  Draws prog w A it [it,t] 0 (fun _ _=>True) (fun _ h=>h.IsTupleIter it t i/\h.IsTuple t items) where
 live:=fun _ _ st=>let ⟨o,ho,_⟩:=st.1;⟨o,ho⟩
 frame:=fun _ _ _ st hk=>⟨let ⟨o,ho,r⟩:=st.1;⟨o,hk it (by simp) o ho,r⟩,let ⟨o,ho,r⟩:=st.2;⟨o,hk t (by simp) o ho,r⟩⟩
 item:=fun i s Q E hi=>absurd hi (Nat.not_lt_zero _)
 done:=fun s Q E st hE=>zgR hh st.1 st.2 hx hE
theorem newT (l:Addr)(items:Array Value)(n:Nat)(dct:Option Addr)(sl:Array (Option Value)) :
    Meets (Builtin.«enumerate.__new__» ⟨[.type "enumerate",.ref l],[]⟩) (fun _ R s=>s.heap.get? l=some { cls:=.type "tuple",dict:=dct,data:=.seq items n,slots:=sl } /\
      R (.ok (.ret (.ref (s.heap.push { cls:=.type "tuple_iterator",data:=.fields #[.ref l,.int 0 0] }).objs.size)))
        { s with heap:=(s.heap.push { cls:=.type "tuple_iterator",data:=.fields #[.ref l,.int 0 0] }).push { cls:=.type "enumerate",data:=.fields #[.none,.bool false,.ref s.heap.objs.size,rawInt 0,.none,.none] } }) :=
  .of_wp fun prog w A R s h=>by
    obtain⟨hp,g,d,tk,os⟩:=s
    obtain⟨hl,h⟩:=h
    have hsub:=sub_enumerate
    have hL:Heap.IsTuple (Shared.heap ⟨hp,g,d,tk,os⟩) l items:=⟨_,hl,rfl,n,rfl⟩
    wp_walk using wpAny_loadPart' hl
    refine wpAny_stack_any fun st=>wpAny_pure ?_
    split
    · rename_i c _ _ _ _ _
      cases (c==Value.type "enumerate")
      · wp_walk using wpAny_loadPart' hl,wpAny_pyIter_tuple hL
        exact⟨_,rfl,h⟩
      · wp_walk using wpAny_loadPart' hl,wpAny_pyIter_tuple hL
        exact⟨_,rfl,h⟩
    · wp_walk using wpAny_loadPart' hl,wpAny_pyIter_tuple hL
      exact⟨_,rfl,h⟩
theorem zuq {l:Addr}{items:Array Value}{Q:Value->Shared->Prop}(hL:s.heap.IsTuple l items)
    (h:∀ h',IsEnum h' (s.heap.objs.size+1) s.heap.objs.size 0 .none->h'.IsTupleIter s.heap.objs.size l 0->h'.objs.size=s.heap.objs.size+2 ->
      (∀ b o,s.heap.get? b=some o->h'.get? b=some o)->Q (.ref (s.heap.objs.size+1)) { s with heap:=h' }):wpAny (model prog w) A (call (.type "enumerate") [.ref l]) Q E s:=by
  obtain⟨⟨c,dct,dt,sl⟩,hl,hc,n,hd⟩:=hL
  replace hc:c=.type "tuple":=hc
  replace hd:dt=.seq items n:=hd
  subst hc hd
  refine callType_new F.called_enumerate (by decide) (F.typeCall_enumerate_1 _) (F.newCall_enumerate_1 _) (fun obj=>F.args_object_init_2 obj _) F.entry_enumerate_new (newT l items n dct sl) ⟨hl,?_⟩
  have hz:(s.heap.push { cls:=.type "tuple_iterator",data:=.fields #[.ref l,.int 0 0] }).objs.size=s.heap.objs.size+1:=Heap.size_push ..
  show _/\_
  rw [hz]
  have he : IsEnum ((s.heap.push { cls := .type "tuple_iterator", data := .fields #[.ref l, .int 0 0] }).push
      { cls:=.type "enumerate",data:=.fields #[.none,.bool false,.ref s.heap.objs.size,rawInt 0,.none,.none] }) (s.heap.objs.size+1) s.heap.objs.size 0 .none:=by
    have:=Heap.get?_push_size (s.heap.push { cls:=.type "tuple_iterator",data:=.fields #[.ref l,.int 0 0] })
      (o:={ cls:=.type "enumerate",data:=.fields #[.none,.bool false,.ref s.heap.objs.size,rawInt 0,.none,.none] }) rfl
    rw [hz] at this;exact this
  exact⟨⟨_,he,rfl⟩,h _ he ⟨_,Heap.get?_push_of_some _ (Heap.get?_push_size _ rfl),rfl,rfl⟩ (by rw [Heap.size_push,hz]) fun b o x=>Heap.get?_push_of_some _ (Heap.get?_push_of_some _ x)⟩
end
def zpt (K:PySem.W.Frag)(l:Addr):It :=
  ⟨fun i H=>∃ xs x,SqT K H l xs/\xs[i]?=some x,
   fun i H v H'=>∃ p,v=.ref p/\H p=none/\∀ xs x,SqT K H l xs->xs[i]?=some x->H'=upd H p (.tup [.int i,x]),
   fun i H=>∃ xs,SqT K H l xs/\xs.length<=i⟩
theorem znj {h:Heap}{a b:Addr}{o u:Obj}(ha:h.get? a=some o)(hb:h.get? b=some u)(hc:o.cls≠u.cls):a≠b:=fun e=>by
 subst e
 rw [ha] at hb
 cases hb
 exact hc rfl
theorem zmQ {P:Program}{w:World}{K:PySem.W.Frag}{es:List Expr}{kk:Nat}{pos:Pos}{e it l:Addr}(hne:e≠it) :
  Turn P w K (.Tuple es kk pos) (zpt K l) [e,it] e (fun i h=>(∃ old,IsEnum h e it i old)/\h.IsTupleIter it l i) where
 mem:=by simp
 obj:=fun i h st b hb=>by
  obtain⟨⟨old,he⟩,⟨o1,h1,_,h1d⟩⟩:=st
  simp only [List.mem_cons,List.not_mem_nil,or_false] at hb
  rcases hb with rfl | rfl
  ·exact⟨_,he,fun v q=>by cases (show Data.fields _=Data.cell v from q)⟩
  ·exact⟨_,h1,fun v q=>by rw [h1d] at q;cases q⟩
 keep:=fun i h h' st k=>by
  obtain⟨⟨old,he⟩,⟨o,ho,r⟩⟩:=st
  exact⟨⟨old,k e (by simp) _ he⟩,⟨o,k it (by simp) o ho,r⟩⟩
 item:=by
  intro X hP hw hK hc i pins s σ H E I hf st hg
  subst hP hw hK
  obtain⟨⟨old,he⟩,h1⟩:=st
  obtain⟨xs,x,hx1,hx⟩:=hg
  obtain⟨its,rx,px,zx⟩:=I.tuple hx1
  obtain⟨u,hu,ru⟩:=Vals.get rx hx
  have pt:s.heap.IsTuple l its.toArray:=px
  obtain⟨oi,ei,ci,_⟩:=id h1
  obtain⟨ol,el,cl,_⟩:=id pt
  have n1:l≠it:=znj el ei (by rw [cl,ci];decide)
  have n2:e≠l:=znj he el (by rw [cl];show Value.type "enumerate"≠Value.type "tuple";decide)
  have hlt:i<its.toArray.size:=by
   have:=(List.getElem?_eq_some_iff.mp hu).1
   simpa using this
  refine wpAny_pyNext_enum_itemD (zsy (A:=X.A.in1) (show X.A.in1.handled=none from I.ok.hd hc) it l n1 its.toArray) he ⟨h1,pt⟩ hlt hne (by simp [hne,n2]) fun u' h' tk hP a1 a2 a3 a4 hk=>?_
  have eu:u'=u:=by
   have hP':its.toArray[i]?=some u':=hP
   rw [List.getElem?_toArray,hu] at hP'
   cases hP';rfl
  subst eu
  refine⟨_,rfl,wpAny_letOwnedTupleGo_enum (s:={ s with heap:=h',toks:=tk+1 }) a1 fun h'' he'' hs''=>?_⟩
  have lt:∀ {c o},s.heap.get? c=some o->s.heap.objs.size≠c:=fun q=>Nat.ne_of_gt (Heap.lt_size q)
  have k2:∀ b u,b∉[e,it]->s.heap.get? b=some u->h''.get? b=some u:=fun b u hb q=>by
   simp only [List.mem_cons,List.not_mem_nil,or_false,not_or] at hb
   exact hs''.extBut b u hb.1 (hk b u hb.1 hb.2 q)
  have new:h''.get? s.heap.objs.size=some { cls:=.type "tuple",data:=.seq #[.int i tk,u'] }:=hs''.extBut _ _ (lt he) a3
  refine⟨.ref s.heap.objs.size,upd H s.heap.objs.size (.tup [.int i,x]),I.turnNew (t':=tk+1) hf k2 (Nat.le_refl _) ⟨by show 2<=sizeLine;decide,[.int i tk,u'],.cons ⟨_,rfl⟩ (.cons ru .nil),_,new,rfl,_,rfl⟩,rfl,⟨_,rfl,I.fresh,?_⟩,?_,fun b hb=>?_⟩
  ·intro xs' x' hx1' hx'
   cases I.tuple_inj hx1 hx1'
   rw [hx] at hx'
   cases hx'
   rfl
  ·exact⟨⟨_,he''⟩,a2.1.extBut hs''.extBut (Ne.symm hne)⟩
  ·have:∃ o,s.heap.get? b=some o:=by
    simp only [List.mem_cons,List.not_mem_nil,or_false] at hb
    rcases hb with rfl | rfl
    ·exact⟨_,he⟩
    ·exact⟨_,ei⟩
   obtain⟨o,q⟩:=this
   rw [zT (lt q).symm]
   exact (hf b hb).1
 done:=by
  intro X hP hw hK hc i pins s σ H E I hf st hg
  subst hP hw hK
  obtain⟨⟨old,he⟩,h1⟩:=st
  obtain⟨xs,hx1,hl⟩:=hg
  obtain⟨its,rx,px,zx⟩:=I.tuple hx1
  have n1:=rx.length
  have pt:s.heap.IsTuple l its.toArray:=px
  have hnone:its.toArray[i]?=none:=by rw [List.getElem?_toArray];exact List.getElem?_eq_none (by omega)
  refine wpAny_pyNext_enum_endD (zrh (A:=X.A.in1) (show X.A.in1.handled=none from I.ok.hd hc) it l its.toArray i hnone) he ⟨h1,pt⟩ fun h' hk=>⟨rfl,I.turnedL (t':=s.toks) hf fun b u hb q=>?_⟩
  simp only [List.mem_cons,List.not_mem_nil,or_false,not_or] at hb
  exact hk b u hb.2 q
 self:=fun _ _ _ _ _ st h=>by
  obtain⟨⟨old,he⟩,_⟩:=st
  exact wpAny_pyIter_enum he h
section
variable {X:Cx}
def zst (K:PySem.W.Frag)(ta:TA):TI:=fun σ H R=>ta σ H fun vs H1=>∃ l,vs=[.ref l]/\(((∃ xs,SqL K H1 l xs)/\R (Ite K l) H1)\/((∃ xs,SqT K H1 l xs)/\R (zpt K l) H1))
theorem zoF {es:List Expr}{kk:Nat}{tpos:Pos}{a:Expr}{ta:TA}{p pos:Pos}(hg:Gl X "enumerate")(hm:X.mg "enumerate"=none)(ha:PA X [a] ta)(hs:starEach [a] X.env=[(false,eval a X.env)]:=by rfl) :
    PI X (.Tuple es kk tpos) (.Call (.Name "enumerate" p) [a] [] pos) (zst X.K ta):=by
  intro pins s σ H R I h
  refine Call_ (zdm I hg hm boot_enumerate (PyProof.Rows.callWith_type1 (thn (ha pos pins s σ H _ I h) fun us s1 ⟨vs,H1,I1,r1,q1⟩=>?_) hs rfl))
  obtain⟨l,e,q⟩:=q1
  subst e
  obtain⟨u,rfl,ru⟩:=vals1 r1
  cases ru
  rcases q with ⟨⟨xs,hx⟩,q⟩ | ⟨⟨xs,hx⟩,q⟩
  · obtain⟨its,rx,px,zx⟩:=I1.list hx
    refine call_enumerate_list px.isList fun h' he hit hsz hk=>?_
    have I2:Inv X pins σ H1 { s1 with heap:=h' }:=I1.kept (t':=s1.toks) hk
    refine wpAny_pyIter_enum (s:={ s1 with heap:=h' }) he ?_
    refine⟨_,_,_,_,H1,rfl,I2,zna (Nat.ne_of_gt (Nat.lt_succ_self _)),⟨⟨_,he⟩,hit⟩,fun b hb=>?_,q⟩
    have hb':s1.heap.objs.size<=b:=by
      simp only [List.mem_cons,List.not_mem_nil,or_false] at hb
      rcases hb with rfl | rfl<;>first | exact Nat.le_add_right _ _ | exact Nat.le_refl _
    exact I1.fpOk hb' (I1.hok.fresh hb')
  · obtain⟨its,rx,px,zx⟩:=I1.tuple hx
    have pt:s1.heap.IsTuple l its.toArray:=px
    refine zuq pt fun h' he hit hsz hk=>?_
    have I2:Inv X pins σ H1 { s1 with heap:=h' }:=I1.kept (t':=s1.toks) hk
    refine wpAny_pyIter_enum (s:={ s1 with heap:=h' }) he ?_
    refine⟨_,_,_,_,H1,rfl,I2,zmQ (Nat.ne_of_gt (Nat.lt_succ_self _)),⟨⟨_,he⟩,hit⟩,fun b hb=>?_,q⟩
    have hb':s1.heap.objs.size<=b:=by
      simp only [List.mem_cons,List.not_mem_nil,or_false] at hb
      rcases hb with rfl | rfl<;>first | exact Nat.le_add_right _ _ | exact Nat.le_refl _
    exact I1.fpOk hb' (I1.hok.fresh hb')
end
def zbc:Bool->Heap->Addr->Addr->Nat->Prop
 | true,h,it,l,k=>h.IsListIter it l k
 | false,h,it,l,k=>h.IsTupleIter it l k
def zbW:Bool->Heap->Addr->Array Value->Prop
 | true,h,l,xs=>h.IsList l xs
 | false,h,l,xs=>h.IsTuple l xs
theorem zbc.grow {b:Bool}{h h':Heap}{c it l:Addr}{k:Nat}(x:zbc b h it l k)(e:Heap.ExtBut c h h')(n:it≠c):zbc b h' it l k:=by
 cases b
 ·exact Heap.IsTupleIter.extBut (show h.IsTupleIter it l k from x) e n
 ·exact Heap.IsListIter.extBut (show h.IsListIter it l k from x) e n
theorem zbW.grow {b:Bool}{h h':Heap}{c l:Addr}{xs:Array Value}(x:zbW b h l xs)(e:Heap.ExtBut c h h')(n:l≠c):zbW b h' l xs:=by
 cases b
 ·exact Heap.IsTuple.extBut (show h.IsTuple l xs from x) e n
 ·exact Heap.IsList.extBut (show h.IsList l xs from x) e n
theorem zbc.obj {b:Bool}{h:Heap}{it l:Addr}{k:Nat}(x:zbc b h it l k):∃ o,h.get? it=some o/\(o.cls=.type "list_iterator"\/o.cls=.type "tuple_iterator")/\∃ vs,o.data=.fields vs:=by
 cases b
 ·obtain⟨o,ho,hc,hd⟩:h.IsTupleIter it l k:=x
  exact⟨o,ho,.inr hc,_,hd⟩
 ·obtain⟨o,ho,hc,hd⟩:h.IsListIter it l k:=x
  exact⟨o,ho,.inl hc,_,hd⟩
theorem zbc.at {b:Bool}{h h':Heap}{it l:Addr}{k:Nat}(x:zbc b h it l k)(e:∀ o,h.get? it=some o->h'.get? it=some o):zbc b h' it l k:=by
 cases b
 ·obtain⟨o,ho,hc,hd⟩:h.IsTupleIter it l k:=x
  exact (⟨o,e o ho,hc,hd⟩:h'.IsTupleIter it l k)
 ·obtain⟨o,ho,hc,hd⟩:h.IsListIter it l k:=x
  exact (⟨o,e o ho,hc,hd⟩:h'.IsListIter it l k)
theorem zbW.lt {b:Bool}{h:Heap}{l:Addr}{xs:Array Value}(x:zbW b h l xs):l<h.objs.size:=by
 cases b
 ·obtain⟨o,ho,_⟩:h.IsTuple l xs:=x
  exact Heap.lt_size ho
 ·obtain⟨o,ho,_⟩:h.IsList l xs:=x
  exact Heap.lt_size ho
section
variable {prog:Program}{w:World}{A:Around}{E:Value->Shared->Prop}{s:Shared}
theorem zfZ {b:Bool}{it t:Addr}{i:Nat}{items:Array Value}{x:Value}{Q:Value->Shared->Prop}(hit:zbc b s.heap it t i)(ht:zbW b s.heap t items)(hx:items[i]?=some x)
  (hQ:∀ h',zbc b h' it t (i+1)->Heap.SameBut it s.heap h'->Q x { s with heap:=h' }):wpAny (model prog w) A (Builtin.SmallTypes.nextOf (.ref it)) Q E s:=by
 cases b
 ·exact ziM hit ht hx hQ
 ·exact wpAny_nextOf_list_item hit ht hx hQ
theorem zju {b:Bool}{it t:Addr}{i:Nat}{items:Array Value}{Q:Value->Shared->Prop}(hh:A.handled=none)(hit:zbc b s.heap it t i)(ht:zbW b s.heap t items)(hx:items[i]?=none)
  (hE:∀ h' e,Heap.ExtBut it s.heap h'->(∃ o,h'.get? e=some o/\o.cls=.type "StopIteration")->E (.ref e) { s with heap:=h' }):wpAny (model prog w) A (Builtin.SmallTypes.nextOf (.ref it)) Q E s:=by
 cases b
 ·exact zgR hh hit ht hx hE
 ·exact wpAny_nextOf_list_end hh hit ht hx hE
theorem zmY {b1 b2:Bool}{z TI TO i1 i2 l1 l2:Addr}{k:Nat}{xs ys:Array Value}{x y a b:Value}{Q:Option Value->Shared->Prop}(D:ZipApart z TI TO i1 i2 l1 l2)
  (hz:IsZip s.heap z TI TO .none) (hTI:IsPair s.heap TI (.ref i1) (.ref i2)) (hTO:IsPair s.heap TO a b) (h1:zbc b1 s.heap i1 l1 k) (h2:zbc b2 s.heap i2 l2 k) (hl1:zbW b1 s.heap l1 xs) (hl2:zbW b2 s.heap l2 ys) (hx:xs[k]?=some x) (hy:ys[k]?=some y)
  (hQ:∀ h',IsZip h' z TI TO (rawInt s.heap.objs.size)->IsPair h' TO x y->zbc b1 h' i1 l1 (k+1)->zbc b2 h' i2 l2 (k+1)->IsPair h' s.heap.objs.size x y ->
   (∀ c o,c≠z->c≠TO->c≠i1->c≠i2->s.heap.get? c=some o->h'.get? c=some o)->Q (some (.ref s.heap.objs.size)) { s with heap:=h' }):wpAny (model prog w) A (pyNext (.ref z)) Q E s:=by
 have hT:s.TypeIs (.ref z) "zip":=⟨_,hz,rfl⟩
 unfold pyNext
 refine wpAny_bind (wpAny_attempt (wpAny_callSpecial?_slot (name:=Str.ofString "__next__") hT F.slot_zip_next (wpAny_call_entry F.slot_zip_next hT F.entry_zip_next ?_ (F.args_zip_next_1 _))))
 show wpAny _ _ (field (.ref z) 2 >>= _) _ _ _
 refine wpAny_bind (wpAny_field hz rfl (x:=.bool false) rfl ?_);show wpAny _ _ (field (.ref z) 3 >>= _) _ _ _
 refine wpAny_bind (wpAny_field hz rfl (x:=.ref TI) rfl (wpAny_bind (wpAny_seqItems hTI rfl ?_)));show wpAny _ _ (Builtin.SmallTypes.ownedTupleIsFree (.ref z) >>= _) _ _ _
 refine wpAny_bind ?_;unfold Builtin.SmallTypes.ownedTupleIsFree
 refine wpAny_bind (wpAny_field hz rfl (x:=.none) rfl (wpAny_pure ?_));simp only [if_true]
 refine wpAny_bind (wpAny_rule (wpAny_bind (wpAny_field hz rfl (x:=.ref TO) rfl (wpAny_bind (wpAny_setField_rec hz (by simp) fun g1 z1 e1=>?_)))))
 replace z1:IsZip g1 z TI TO .ellipsis:=z1
 refine wpAny_bind ?_;simp only [List.zipIdx_cons,List.zipIdx_nil,List.forIn_cons,List.forIn_nil]
 refine wpAny_bind (wpAny_bind (wpAny_onRaise ?_));show wpAny _ _ (Builtin.SmallTypes.nextOf (.ref i1) >>= _) _ _ _
 refine wpAny_bind (zfZ (h1.grow e1.extBut D.i1z) (hl1.grow e1.extBut D.l1z) hx fun g2 t1 e2=>wpAny_pure ?_)
 have p2:IsPair g2 TO a b:=e2.extBut _ _ D.TOi1 (e1.extBut _ _ D.TOz hTO)
 refine wpAny_bind (wpAny_seqItems p2 rfl (wpAny_bind (wpAny_updateSeq_pair p2 fun g3 p3 e3=>wpAny_bind (wpAny_letGo (wpAny_pure ?_)))))
 replace p3:IsPair g3 TO x b:=p3
 refine wpAny_bind (wpAny_bind (wpAny_onRaise ?_));show wpAny _ _ (Builtin.SmallTypes.nextOf (.ref i2) >>= _) _ _ _
 refine wpAny_bind (zfZ (((h2.grow e1.extBut D.i2z).grow e2.extBut D.i12.symm).grow e3.extBut D.TOi2.symm) (((hl2.grow e1.extBut D.l2z).grow e2.extBut D.l2i1).grow e3.extBut D.l2TO) hy fun g4 t2 e4=>wpAny_pure ?_)
 have p4:IsPair g4 TO x b:=e4.extBut _ _ D.TOi2 p3
 refine wpAny_bind (wpAny_seqItems p4 rfl (wpAny_bind (wpAny_updateSeq_pair p4 fun g5 p5 e5=>wpAny_bind (wpAny_letGo (wpAny_pure (wpAny_pure ?_))))))
 replace p5:IsPair g5 TO x y:=p5
 refine wpAny_bind (wpAny_seqItems p5 rfl (wpAny_bind (wpAny_newTuple ?_)))
 have sz:g5.objs.size=s.heap.objs.size:=by rw [e5.1,e4.1,e3.1,e2.1,e1.1]
 have z5:IsZip g5 z TI TO .ellipsis:=e5.extBut _ _ D.TOz.symm (e4.extBut _ _ D.i2z.symm (e3.extBut _ _ D.TOz.symm (e2.extBut _ _ D.i1z.symm z1)))
 have k5:∀ c o,c≠z->c≠TO->c≠i1->c≠i2->s.heap.get? c=some o->g5.get? c=some o:=fun c o c1 c2 c3 c4 e=>e5.extBut _ _ c2 (e4.extBut _ _ c4 (e3.extBut _ _ c2 (e2.extBut _ _ c3 (e1.extBut _ _ c1 e))))
 have u1:zbc b1 g5 i1 l1 (k+1):=((t1.grow e3.extBut D.TOi1.symm).grow e4.extBut D.i12).grow e5.extBut D.TOi1.symm
 have u2:zbc b2 g5 i2 l2 (k+1):=t2.grow e5.extBut D.TOi2.symm
 have zl:z<g5.objs.size:=Heap.lt_size z5
 show wpAny _ _ (Builtin.SmallTypes.ownedTupleHandOut (.ref z) (.ref g5.objs.size) >>= _) _ _ _
 refine wpAny_bind ?_;unfold Builtin.SmallTypes.ownedTupleHandOut
 have z6:IsZip (g5.push { cls:=.type "tuple",data:=.seq #[x,y] }) z TI TO .ellipsis:=Heap.get?_push_of_some _ z5
 refine wpAny_bind (wpAny_setField_rec z6 (by simp) fun g7 z7 e7=>?_)
 replace z7:IsZip g7 z TI TO (rawInt g5.objs.size):=z7
 refine wpAny_setField_rec z7 (by simp) fun g8 z8 e8=>?_
 replace z8:IsZip g8 z TI TO (rawInt g5.objs.size):=z8
 have up:∀ c o,c≠z->g5.get? c=some o->g8.get? c=some o:=fun c o c1 e=>e8.extBut _ _ c1 (e7.extBut _ _ c1 (Heap.get?_push_of_some _ e))
 have t8:IsPair g8 g5.objs.size x y:=e8.extBut _ _ (Nat.ne_of_gt zl) (e7.extBut _ _ (Nat.ne_of_gt zl) (Heap.get?_push_size _ rfl))
 rw [sz] at z8 t8
 refine wpAny_pure ⟨_,rfl,wpAny_pure ?_⟩
 show Q (some (.ref g5.objs.size)) _
 rw [sz]
 exact hQ g8 z8 (up _ _ D.TOz p5) (u1.at fun o e=>up _ o D.i1z e) (u2.at fun o e=>up _ o D.i2z e) t8 fun c o c1 c2 c3 c4 e=>up c o c1 (k5 c o c1 c2 c3 c4 e)
theorem znr {b1 b2:Bool}{z TI TO i1 i2 l1 l2:Addr}{k:Nat}{xs ys:Array Value}{a b:Value}{Q:Option Value->Shared->Prop}(hh:A.handled=none)(D:ZipApart z TI TO i1 i2 l1 l2)
  (hz:IsZip s.heap z TI TO .none) (hTI:IsPair s.heap TI (.ref i1) (.ref i2)) (hTO:IsPair s.heap TO a b) (h1:zbc b1 s.heap i1 l1 k) (h2:zbc b2 s.heap i2 l2 k) (hl1:zbW b1 s.heap l1 xs) (hl2:zbW b2 s.heap l2 ys) (hend:xs[k]?=none\/ys[k]?=none)
  (hQ:∀ h',(∀ c o,c≠z->c≠TO->c≠i1->c≠i2->s.heap.get? c=some o->h'.get? c=some o)->Q none { s with heap:=h' }):wpAny (model prog w) A (pyNext (.ref z)) Q E s:=by
 have hT:s.TypeIs (.ref z) "zip":=⟨_,hz,rfl⟩
 unfold pyNext
 refine wpAny_bind (wpAny_attempt (wpAny_callSpecial?_slot (name:=Str.ofString "__next__") hT F.slot_zip_next (wpAny_call_entry F.slot_zip_next hT F.entry_zip_next ?_ (F.args_zip_next_1 _))))
 have out:∀ h' e,(∀ c o,c≠z->c≠TO->c≠i1->c≠i2->s.heap.get? c=some o->h'.get? c=some o)->(∃ o,h'.get? e=some o/\o.cls=.type "StopIteration") ->
   wpAny (model prog w) A ((isInstance (.ref e) (.type "StopIteration")) >>= fun b=>if b=true then pure none else throw (.ref e)) Q E { s with heap:=h' }:=fun h' e hk he=>by
  obtain⟨o,ho,hc⟩:=he
  exact wpAny_bind (wpAny_isInstance (T:="StopIteration") (b:=true) ⟨o,ho,hc⟩ isSubtype_stop (wpAny_pure (hQ _ hk)))
 show wpAny _ _ (field (.ref z) 2 >>= _) _ _ _
 refine wpAny_bind (wpAny_field hz rfl (x:=.bool false) rfl ?_);show wpAny _ _ (field (.ref z) 3 >>= _) _ _ _
 refine wpAny_bind (wpAny_field hz rfl (x:=.ref TI) rfl (wpAny_bind (wpAny_seqItems hTI rfl ?_)));show wpAny _ _ (Builtin.SmallTypes.ownedTupleIsFree (.ref z) >>= _) _ _ _
 refine wpAny_bind ?_;unfold Builtin.SmallTypes.ownedTupleIsFree
 refine wpAny_bind (wpAny_field hz rfl (x:=.none) rfl (wpAny_pure ?_));simp only [if_true]
 refine wpAny_bind (wpAny_rule (wpAny_bind (wpAny_field hz rfl (x:=.ref TO) rfl (wpAny_bind (wpAny_setField_rec hz (by simp) fun g1 z1 e1=>?_)))))
 replace z1:IsZip g1 z TI TO .ellipsis:=z1
 refine wpAny_bind ?_;simp only [List.zipIdx_cons,List.zipIdx_nil,List.forIn_cons,List.forIn_nil]
 refine wpAny_bind (wpAny_bind (wpAny_onRaise ?_));show wpAny _ _ (Builtin.SmallTypes.nextOf (.ref i1) >>= _) _ _ _
 cases hx:xs[k]? with
 | none =>
  refine wpAny_bind (zju hh (h1.grow e1.extBut D.i1z) (hl1.grow e1.extBut D.l1z) hx fun g2 e e2 ⟨oe,hoe,hce⟩=>?_)
  have z2:IsZip g2 z TI TO .ellipsis:=e2 _ _ D.i1z.symm z1
  have ne:e≠z:=fun q=>by subst q;rw [z2] at hoe;cases hoe;simp at hce
  exact wpAny_setField_rec z2 (by simp) fun g3 _ e3=>out g3 e (fun c o c1 _ c3 _ q=>e3.extBut _ _ c1 (e2 _ _ c3 (e1.extBut _ _ c1 q))) ⟨oe,e3.extBut _ _ ne hoe,hce⟩
 | some x =>
  have hy:ys[k]?=none:=by rcases hend with h | h;rw [hx] at h;cases h;exact h
  refine wpAny_bind (zfZ (h1.grow e1.extBut D.i1z) (hl1.grow e1.extBut D.l1z) hx fun g2 t1 e2=>wpAny_pure ?_)
  have p2:IsPair g2 TO a b:=e2.extBut _ _ D.TOi1 (e1.extBut _ _ D.TOz hTO)
  refine wpAny_bind (wpAny_seqItems p2 rfl (wpAny_bind (wpAny_updateSeq_pair p2 fun g3 p3 e3=>wpAny_bind (wpAny_letGo (wpAny_pure ?_)))))
  refine wpAny_bind (wpAny_bind (wpAny_onRaise ?_));show wpAny _ _ (Builtin.SmallTypes.nextOf (.ref i2) >>= _) _ _ _
  refine wpAny_bind (zju hh (((h2.grow e1.extBut D.i2z).grow e2.extBut D.i12.symm).grow e3.extBut D.TOi2.symm) (((hl2.grow e1.extBut D.l2z).grow e2.extBut D.l2i1).grow e3.extBut D.l2TO) hy fun g4 e e4 ⟨oe,hoe,hce⟩=>?_)
  have z4:IsZip g4 z TI TO .ellipsis:=e4 _ _ D.i2z.symm (e3.extBut _ _ D.TOz.symm (e2.extBut _ _ D.i1z.symm z1))
  have ne:e≠z:=fun q=>by subst q;rw [z4] at hoe;cases hoe;simp at hce
  exact wpAny_setField_rec z4 (by simp) fun g5 _ e5=>out g5 e (fun c o c1 c2 c3 c4 q=>e5.extBut _ _ c1 (e4 _ _ c4 (e3.extBut _ _ c2 (e2.extBut _ _ c3 (e1.extBut _ _ c1 q))))) ⟨oe,e5.extBut _ _ ne hoe,hce⟩
end
abbrev itN (b:Bool):String:=if b=true then "list_iterator" else "tuple_iterator"
abbrev zg1 (b:Bool)(h:Heap)(l:Addr):Heap:=h.push { cls:=.type (itN b),data:=.fields #[.ref l,.int 0 0] }
abbrev zg2 (b1 b2:Bool)(h:Heap)(l1 l2:Addr):Heap:=zg1 b2 (zg1 b1 h l1) l2
abbrev zg3 (b1 b2:Bool)(h:Heap)(l1 l2:Addr):Heap:=(zg2 b1 b2 h l1 l2).push { cls:=.type "tuple",data:=.seq #[.ref h.objs.size,.ref (zg1 b1 h l1).objs.size] }
abbrev zg4 (b1 b2:Bool)(h:Heap)(l1 l2:Addr):Heap:=(zg3 b1 b2 h l1 l2).push { cls:=.type "tuple",data:=.seq #[.none,.none] }
abbrev zg5 (b1 b2:Bool)(h:Heap)(l1 l2:Addr):Heap:=(zg4 b1 b2 h l1 l2).push { cls:=.type "zip",data:=.fields #[.none,.bool false,.bool false,.ref (zg2 b1 b2 h l1 l2).objs.size,.ref (zg3 b1 b2 h l1 l2).objs.size] }
theorem zbW.push {b:Bool}{h:Heap}{l:Addr}{xs:Array Value}(x:zbW b h l xs)(o:Obj):zbW b (h.push o) l xs:=by
 cases b
 ·obtain⟨u,hu,r⟩:h.IsTuple l xs:=x
  exact (⟨u,Heap.get?_push_of_some _ hu,r⟩:(h.push o).IsTuple l xs)
 ·obtain⟨u,hu,r⟩:h.IsList l xs:=x
  exact (⟨u,Heap.get?_push_of_some _ hu,r⟩:(h.push o).IsList l xs)
theorem zva (b:Bool)(l1 l2:Addr)(xs ys:Array Value) :
  Meets (Builtin.«zip.__new__» ⟨[.type "zip",.ref l1,.ref l2],[]⟩) (fun _ R s=>zbW b s.heap l1 xs/\zbW b s.heap l2 ys/\R (.ok (.ret (.ref (zg4 b b s.heap l1 l2).objs.size))) { s with heap:=zg5 b b s.heap l1 l2 }):=by
 cases b
 ·exact .of_wp fun prog w A R s h=>by
   obtain⟨hp,g,d,tk,os⟩:=s
   obtain⟨h1,h2,h⟩:=h
   have hsub:=sub_zip
   have q1:Heap.IsTuple (Shared.heap ⟨hp,g,d,tk,os⟩) l1 xs:=h1
   have q2:Heap.IsTuple (Shared.heap ⟨hp.push { cls:=.type "tuple_iterator",data:=.fields #[.ref l1,.int 0 0] },g,d,tk,os⟩) l2 ys:=zbW.push (b:=false) h2 _
   wp_walk using wpAny_pyIter_tuple q1,wpAny_pyIter_tuple q2
   exact⟨_,rfl,h⟩
 ·exact meets_zip_new l1 l2 xs ys
theorem zpK {b:Bool}{h:Heap}{it l:Addr}(e:h.get? it=some { cls:=.type (itN b),data:=.fields #[.ref l,.int 0 0] }):zbc b h it l 0:=by
 cases b
 ·exact (⟨_,e,rfl,rfl⟩:h.IsTupleIter it l 0)
 ·exact (⟨_,e,rfl,rfl⟩:h.IsListIter it l 0)
section
variable {prog:Program}{w:World}{A:Around}{E:Value->Shared->Prop}{s:Shared}
theorem ztA {b:Bool}{l1 l2:Addr}{xs ys:Array Value}{Q:Value->Shared->Prop}(hl1:zbW b s.heap l1 xs)(hl2:zbW b s.heap l2 ys)
  (h:∀ h',IsZip h' (s.heap.objs.size+4) (s.heap.objs.size+2) (s.heap.objs.size+3) .none->IsPair h' (s.heap.objs.size+2) (.ref s.heap.objs.size) (.ref (s.heap.objs.size+1))->IsPair h' (s.heap.objs.size+3) .none .none->zbc b h' s.heap.objs.size l1 0->zbc b h' (s.heap.objs.size+1) l2 0 ->
   (∀ c o,s.heap.get? c=some o->h'.get? c=some o)->Q (.ref (s.heap.objs.size+4)) { s with heap:=h' }):wpAny (model prog w) A (call (.type "zip") [.ref l1,.ref l2]) Q E s:=by
 refine callType_new F.called_zip (by decide) (F.typeCall_zip_2 _ _) (F.newCall_zip_2 _ _) (fun obj=>F.args_object_init_3 obj _ _) F.entry_zip_new (zva b l1 l2 xs ys) ⟨hl1,hl2,?_⟩
 have s1:(zg1 b s.heap l1).objs.size=s.heap.objs.size+1:=Heap.size_push ..
 have s2:(zg2 b b s.heap l1 l2).objs.size=s.heap.objs.size+2:=by rw [Heap.size_push,s1]
 have s3:(zg3 b b s.heap l1 l2).objs.size=s.heap.objs.size+3:=by rw [Heap.size_push,s2]
 have s4:(zg4 b b s.heap l1 l2).objs.size=s.heap.objs.size+4:=by rw [Heap.size_push,s3]
 have v1:(zg5 b b s.heap l1 l2).get? s.heap.objs.size=some _:=(fun c o q=>Heap.get?_push_of_some _ (Heap.get?_push_of_some _ (Heap.get?_push_of_some _ (Heap.get?_push_of_some _ q))):∀ c o,(zg1 b s.heap l1).get? c=some o->(zg5 b b s.heap l1 l2).get? c=some o) _ _ (Heap.get?_push_size _ rfl)
 have v2:(zg5 b b s.heap l1 l2).get? (zg1 b s.heap l1).objs.size=some _:=(fun c o q=>Heap.get?_push_of_some _ (Heap.get?_push_of_some _ (Heap.get?_push_of_some _ q)):∀ c o,(zg2 b b s.heap l1 l2).get? c=some o->(zg5 b b s.heap l1 l2).get? c=some o) _ _ (Heap.get?_push_size _ rfl)
 have v3:(zg5 b b s.heap l1 l2).get? (zg2 b b s.heap l1 l2).objs.size=some _:=(fun c o q=>Heap.get?_push_of_some _ (Heap.get?_push_of_some _ q):∀ c o,(zg3 b b s.heap l1 l2).get? c=some o->(zg5 b b s.heap l1 l2).get? c=some o) _ _ (Heap.get?_push_size _ rfl)
 have v4:(zg5 b b s.heap l1 l2).get? (zg3 b b s.heap l1 l2).objs.size=some _:=Heap.get?_push_of_some _ (Heap.get?_push_size _ rfl)
 have v5:(zg5 b b s.heap l1 l2).get? (zg4 b b s.heap l1 l2).objs.size=some _:=Heap.get?_push_size _ rfl
 show _/\_
 rw [s2,s3,s4] at v5
 rw [s1,s2] at v3
 rw [s3] at v4
 rw [s1] at v2
 rw [s4]
 exact⟨⟨_,v5,rfl⟩,h _ v5 v3 v4 (zpK v1) (zpK v2) fun c o x=>Heap.get?_push_of_some _ (Heap.get?_push_of_some _ (Heap.get?_push_of_some _ (Heap.get?_push_of_some _ (Heap.get?_push_of_some _ x))))⟩
end
def SqB (K:PySem.W.Frag)(b:Bool)(H:Hp)(l:Addr)(xs:List V):Prop:=match b with
 | true=>SqL K H l xs
 | false=>SqT K H l xs
theorem SqB.items {X:Cx}{pins:List (Addr×Obj)}{σ:L2.St}{H:Hp}{s:Shared}{b:Bool}{l:Addr}{xs:List V}(I:Inv X pins σ H s)(h:SqB X.K b H l xs):∃ its:List Value,Vals xs its/\zbW b s.heap l its.toArray:=by
 cases b
 ·obtain⟨its,r,p,_⟩:=I.tuple (show SqT X.K H l xs from h)
  exact⟨its,r,p⟩
 ·obtain⟨its,r,p,_⟩:=I.list (show SqL X.K H l xs from h)
  exact⟨its,r,p.isList⟩
theorem SqB.inj {X:Cx}{pins:List (Addr×Obj)}{σ:L2.St}{H:Hp}{s:Shared}{b:Bool}{l:Addr}{xs ys:List V}(I:Inv X pins σ H s)(h:SqB X.K b H l xs)(h':SqB X.K b H l ys):xs=ys:=by
 cases b
 ·exact I.tuple_inj (show SqT X.K H l xs from h) h'
 ·exact I.list_inj (show SqL X.K H l xs from h) h'
def zmr (K:PySem.W.Frag)(b1 b2:Bool)(l1 l2:Addr):It :=
  ⟨fun i H=>∃ xs ys x y,SqB K b1 H l1 xs/\SqB K b2 H l2 ys/\xs[i]?=some x/\ys[i]?=some y,
   fun i H v H'=>∃ p,v=.ref p/\H p=none/\∀ xs ys x y,SqB K b1 H l1 xs->SqB K b2 H l2 ys->xs[i]?=some x->ys[i]?=some y->H'=upd H p (.tup [x,y]),
   fun i H=>∃ xs ys,SqB K b1 H l1 xs/\SqB K b2 H l2 ys/\(xs.length<=i\/ys.length<=i)⟩
theorem znm {P:Program}{w:World}{K:PySem.W.Frag}{es:List Expr}{kk:Nat}{pos:Pos}{b1 b2:Bool}{z TI TO i1 i2 l1 l2:Addr}(D:ZipApart z TI TO i1 i2 l1 l2) :
  Turn P w K (.Tuple es kk pos) (zmr K b1 b2 l1 l2) [z,TI,TO,i1,i2] z (fun i h=>IsZip h z TI TO .none/\IsPair h TI (.ref i1) (.ref i2)/\(∃ a b,IsPair h TO a b)/\zbc b1 h i1 l1 i/\zbc b2 h i2 l2 i) where
 mem:=by simp
 obj:=fun i h st b hb=>by
  obtain⟨hz,hTI,⟨a,c,hTO⟩,q1,q2⟩:=st
  obtain⟨o1,g1,_,_,d1⟩:=q1.obj
  obtain⟨o2,g2,_,_,d2⟩:=q2.obj
  simp only [List.mem_cons,List.not_mem_nil,or_false] at hb
  rcases hb with rfl | rfl | rfl | rfl | rfl
  ·exact⟨_,hz,fun v q=>by cases (show Data.fields _=Data.cell v from q)⟩
  ·exact⟨_,hTI,fun v q=>by cases (show Data.seq _ _=Data.cell v from q)⟩
  ·exact⟨_,hTO,fun v q=>by cases (show Data.seq _ _=Data.cell v from q)⟩
  ·exact⟨_,g1,fun v q=>by rw [d1] at q;cases q⟩
  ·exact⟨_,g2,fun v q=>by rw [d2] at q;cases q⟩
 keep:=fun i h h' st k=>by
  obtain⟨hz,hTI,⟨a,c,hTO⟩,q1,q2⟩:=st
  exact⟨k z (by simp) _ hz,k TI (by simp) _ hTI,⟨a,c,k TO (by simp) _ hTO⟩,q1.at fun o e=>k i1 (by simp) o e,q2.at fun o e=>k i2 (by simp) o e⟩
 item:=by
  intro X hP hw hK hc i pins s σ H E I hf st hg
  subst hP hw hK
  obtain⟨hz,hTI,⟨a,c,hTO⟩,q1,q2⟩:=st
  obtain⟨xs,ys,x,y,hx1,hy1,hx,hy⟩:=hg
  obtain⟨its,rx,px⟩:=hx1.items I
  obtain⟨jts,ry,py⟩:=hy1.items I
  obtain⟨u,hu,ru⟩:=Vals.get rx hx
  obtain⟨v,hv,rv⟩:=Vals.get ry hy
  refine zmY D hz hTI hTO q1 q2 px py (by simpa using hu) (by simpa using hv) fun h' a1 a2 a3 a4 a5 hk=>?_
  refine⟨_,rfl,wpAny_letOwnedTupleGo_zip a1 fun h'' hz'' hs''=>?_⟩
  have lt:∀ {c o},s.heap.get? c=some o->s.heap.objs.size≠c:=fun e=>Nat.ne_of_gt (Heap.lt_size e)
  have k2:∀ b u,b∉[z,TI,TO,i1,i2]->s.heap.get? b=some u->h''.get? b=some u:=fun b u hb e=>by
   simp only [List.mem_cons,List.not_mem_nil,or_false,not_or] at hb
   exact hs''.extBut b u hb.1 (hk b u hb.1 hb.2.2.1 hb.2.2.2.1 hb.2.2.2.2 e)
  have new:h''.get? s.heap.objs.size=some { cls:=.type "tuple",data:=.seq #[u,v] }:=hs''.extBut _ _ (lt hz) a5
  refine⟨.ref s.heap.objs.size,upd H s.heap.objs.size (.tup [x,y]),I.turnNew (t':=s.toks) hf k2 (Nat.le_refl _) ⟨by show 2<=sizeLine;decide,[u,v],.cons ru (.cons rv .nil),_,new,rfl,_,rfl⟩,rfl,⟨_,rfl,I.fresh,?_⟩,?_,fun b hb=>?_⟩
  ·intro xs' ys' x' y' hx1' hy1' hx' hy'
   cases hx1.inj I hx1'
   cases hy1.inj I hy1'
   rw [hx] at hx';rw [hy] at hy'
   cases hx';cases hy'
   rfl
  ·exact⟨hz'',hs''.extBut _ _ D.TIz (hk _ _ D.TIz D.TITO D.TIi1 D.TIi2 hTI),⟨_,_,hs''.extBut _ _ D.TOz a2⟩,a3.grow hs''.extBut D.i1z,a4.grow hs''.extBut D.i2z⟩
  ·have:∃ o,s.heap.get? b=some o:=by
    simp only [List.mem_cons,List.not_mem_nil,or_false] at hb
    obtain⟨o1,e1,_⟩:=q1.obj
    obtain⟨o2,e2,_⟩:=q2.obj
    rcases hb with rfl | rfl | rfl | rfl | rfl
    ·exact⟨_,hz⟩
    ·exact⟨_,hTI⟩
    ·exact⟨_,hTO⟩
    ·exact⟨_,e1⟩
    ·exact⟨_,e2⟩
   obtain⟨o,e⟩:=this
   rw [zT (lt e).symm]
   exact (hf b hb).1
 done:=by
  intro X hP hw hK hc i pins s σ H E I hf st hg
  subst hP hw hK
  obtain⟨hz,hTI,⟨a,c,hTO⟩,q1,q2⟩:=st
  obtain⟨xs,ys,hx1,hy1,hl⟩:=hg
  obtain⟨its,rx,px⟩:=hx1.items I
  obtain⟨jts,ry,py⟩:=hy1.items I
  have n1:=rx.length
  have n2:=ry.length
  refine znr (I.ok.hd hc) D hz hTI hTO q1 q2 px py ?_ fun h' hk=>⟨rfl,I.turnedL (t':=s.toks) hf fun b u hb e=>?_⟩
  ·rcases hl with hl | hl
   ·exact .inl (by rw [List.getElem?_toArray];exact List.getElem?_eq_none (by omega))
   ·exact .inr (by rw [List.getElem?_toArray];exact List.getElem?_eq_none (by omega))
  ·simp only [List.mem_cons,List.not_mem_nil,or_false,not_or] at hb
   exact hk b u hb.1 hb.2.2.1 hb.2.2.2.1 hb.2.2.2.2 e
 self:=fun _ _ _ _ _ st h=>wpAny_pyIter_zip st.1 h
section
variable {X:Cx}
def ztU (K:PySem.W.Frag)(ta:TA):TI:=fun σ H R=>ta σ H fun vs H1=>∃ b l1 l2,vs=[.ref l1,.ref l2]/\(∃ xs,SqB K b H1 l1 xs)/\(∃ ys,SqB K b H1 l2 ys)/\R (zmr K b b l1 l2) H1
theorem zra {es:List Expr}{kk:Nat}{tpos:Pos}{a b:Expr}{ta:TA}{p pos:Pos}(hg:Gl X "zip")(hm:X.mg "zip"=none)(ha:PA X [a,b] ta)(hs:starEach [a,b] X.env=[(false,eval a X.env),(false,eval b X.env)]:=by rfl)(hs2:starEach [b] X.env=[(false,eval b X.env)]:=by rfl) :
    PI X (.Tuple es kk tpos) (.Call (.Name "zip" p) [a,b] [] pos) (ztU X.K ta):=by
  intro pins s σ H R I h
  refine Call_ (zdm I hg hm boot_zip (PyProof.Rows.callWith_type1 (thn (ha pos pins s σ H _ I h) fun us s1 ⟨vs,H1,I1,r1,q1⟩=>?_) (by rw [hs,hs2]) (by rw [hs2];rfl)))
  obtain⟨b',l1,l2,e,⟨xs,hx⟩,⟨ys,hy⟩,q⟩:=q1
  subst e
  obtain⟨u,v,rfl,ru,rv⟩:=vals2 r1
  cases ru
  cases rv
  obtain⟨its,rx,px⟩:=hx.items I1
  obtain⟨jts,ry,py⟩:=hy.items I1
  refine ztA px py fun h' hz hTI hTO h1 h2 hk=>?_
  have I2:Inv X pins σ H1 { s1 with heap:=h' }:=I1.kept (t':=s1.toks) hk
  refine wpAny_pyIter_zip (s:={ s1 with heap:=h' }) hz ⟨_,_,_,_,H1,rfl,I2,znm (PyProof.Rows.zipApart_new px.lt py.lt),⟨hz,hTI,⟨_,_,hTO⟩,h1,h2⟩,fun b hb=>?_,q⟩
  have hb':s1.heap.objs.size<=b:=by
    simp only [List.mem_cons,List.not_mem_nil,or_false] at hb
    rcases hb with rfl | rfl | rfl | rfl | rfl<;>first | exact Nat.le_add_right _ _ | exact Nat.le_refl _
  exact I1.fpOk hb' (I1.hok.fresh hb')
end
theorem zoN:sizeLine<2 ^ 62:=by decide
section
theorem zu5 (l:Addr)(items:Array Value)(n:Nat)(b:Addr)(items2:Array Value)(n2:Nat)(dct:Option Addr)(sl:Array (Option Value))(hs0:¬(!items.isEmpty&&Builtin.List.listTooLong (items.size+items2.size))=true)(hs1:items.size<=sizeLine)(hs2:items.size+items2.size<=sizeLine+1) :
  Meets (Builtin.«list.extend» ⟨[.ref l,.ref b],[]⟩) (fun _ R s=>s.heap.get? l=some { cls:=.type "list",dict:=none,data:=.seq items n,slots:=#[] }/\s.heap.get? b=some { cls:=.type "tuple",dict:=dct,data:=.seq items2 n2,slots:=sl }/\R (.ok (.ret Value.none)) { s with heap:=s.heap.update l (Obj.mapSeq fun x=>x++items2),toks:=s.toks }) :=
 .of_wp fun prog w A R s h=>by
  obtain⟨hp,g,d,tk,os⟩:=s
  obtain⟨hl,hb,h⟩:=h
  have f1:=AutoSeq1.idx_int
  have f2:=AutoSeq1.sub_tuple_tuple
  have f3:=AutoSeq1.sub_list_list
  have f4:=AutoSeq1.sub_tuple_list
  have f5:=AutoSeq1.sub_list_tuple
  have hz':(items++items2).size<=sizeLine+1:=by rw [Array.size_append];exact hs2
  wp_walk using (wpAny_updateSeq hl rfl (hz:=hs1) (_hz':=hz')),wpAny_loadPart' hl,wpAny_loadPart' hb
  exact⟨_,rfl,h⟩
end
section
variable {X:Cx}
def zo6 (K:PySem.W.Frag):V->List V->Hp->VK->Prop:=fun x vs H Q=>zlJ x vs H Q\/∃ l b xs zs,x=.ref l/\vs=[.ref b]/\H l=some (.lst xs)/\SqT K H b zs/\xs.length+zs.length<=sizeLine/\Q .non (upd H l (.lst (xs++zs)))
theorem zmZ:MtM X "list.extend" (zo6 X.K):=by
 intro pins s σ H x vs v us Q I rx rv h
 rcases h with h | ⟨l,b,xs,zs,rfl,rfl,hH,hB,hz,q⟩
 ·exact znL pins s σ H x vs v us Q I rx rv h
 cases rx
 obtain⟨u,rfl,ru⟩:=rv.one
 cases ru
 obtain⟨z,its,n,r,hl,e⟩:=I.lstM hH
 obtain⟨its2,r2,⟨⟨c,dct,dt,sl⟩,e2,hc,n2,hd⟩,z2⟩:=I.tuple hB
 replace hc:c=.type "tuple":=hc
 replace hd:dt=.seq its2.toArray n2:=hd
 subst hc hd
 have hl2:=r2.length
 have hsz:its.toArray.size+its2.toArray.size<=sizeLine:=by rw [List.size_toArray,List.size_toArray];omega
 have hlong:¬ (!its.toArray.isEmpty&&Builtin.List.listTooLong (its.toArray.size+its2.toArray.size))=true:=by
  rw [zkZ hsz,Bool.and_false]
  exact Bool.false_ne_true
 refine call_meets F.slot_list_extend ⟨_,e,rfl⟩ F.entry_list_extend (F.args_list_extend_2 _ _)
  (zu5 l its.toArray n b its2.toArray n2 dct sl hlong (by rw [List.size_toArray];omega) (by omega)) ⟨e,e2,?_⟩
 refine⟨.non,_,I.lset (its':=its++its2) hH e (by simp) (r.append r2) ?_,rfl,q⟩
 rw [List.length_append]
 omega
def zqt:V->List V->Hp->VK->Prop:=fun x vs H Q=>∃ l xs k y,x=.ref l/\vs=[.int k,y]/\H l=some (.lst xs)/\0<=k/\k<2 ^ 40/\xs.length<sizeLine/\Q .non (upd H l (.lst (xs.take k.toNat++y::xs.drop k.toNat)))
theorem Vals.take':∀ {xs:List V} {us:List Value} (n:Nat),Vals xs us->Vals (xs.take n) (us.take n)
 | _,_,0,_=>.nil
 | _,_,_+1,.nil=>.nil
 | _,_,n+1,.cons r t=>.cons r (Vals.take' n t)
theorem Vals.drop':∀ {xs:List V} {us:List Value} (n:Nat),Vals xs us->Vals (xs.drop n) (us.drop n)
 | _,_,0,r=>r
 | _,_,_+1,.nil=>.nil
 | _,_,n+1,.cons _ t=>Vals.drop' n t
theorem znu:MtM X "list.insert" zqt:=by
 intro pins s σ H x vs v us Q I rx rv h
 obtain⟨l,xs,k,y,rfl,rfl,hH,h0,h1,hz,q⟩:=h
 cases rx
 cases rv with
 | cons r1 r2 =>
  cases r2 with
  | cons r3 r4 =>
   cases r4
   obtain⟨tk,rfl⟩:=r1
   obtain⟨z,its,n,r,hl,e⟩:=I.lstM hH
   have hfit:¬ (!Builtin.List.listFitsIndex k)=true:=by
    have:=zoN
    unfold Builtin.List.listFitsIndex
    simp only [Bool.not_eq_true',Bool.not_eq_false',Bool.not_eq_true,Bool.not_eq_false]
    rw [Bool.and_eq_true,decide_eq_true_eq,decide_eq_true_eq]
    omega
   refine call_meets F.slot_list_insert ⟨_,e,rfl⟩ F.entry_list_insert (F.args_list_insert_3 _ _ _)
    (AutoSeq1.list_insert_list_int_val_1 l its.toArray n k tk _ hfit (by rw [List.size_toArray];omega)) ⟨e,?_⟩
   refine⟨.non,_,I.lset (its':=its.take k.toNat++_::its.drop k.toNat) hH e ?_ ((Vals.take' k.toNat r).append (.cons r3 (Vals.drop' k.toNat r))) ?_,rfl,q⟩
   ·rw [if_neg (by omega)]
    apply Array.toList_inj.mp
    rcases Nat.lt_or_ge its.length k.toNat with g | g
    ·have:min k.toNat its.toArray.size=its.length:=by rw [List.size_toArray];omega
     rw [this,List.take_of_length_le (Nat.le_of_lt g),List.drop_of_length_le (Nat.le_of_lt g)]
     simp
    ·have:min k.toNat its.toArray.size=k.toNat:=by rw [List.size_toArray];omega
     rw [this]
     simp
     exact List.take_of_length_le (by rw [List.length_drop];exact Nat.le_refl _)
   ·rw [List.length_append,List.length_cons,List.length_take,List.length_drop]
    omega
end
section
variable {prog:Program}{w:World}{A:Around}{E:Value->Shared->Prop}{s:Shared}
end
section
variable {X:Cx}
end
section
variable {X:Cx}
end
section
variable {X:Cx}
end
section
variable {prog:Program}{w:World}{A:Around}{E:Value->Shared->Prop}{s:Shared}
end
section
variable {prog:Program}{w:World}{A:Around}{E:Value->Shared->Prop}{s:Shared}
end
section
variable {prog:Program}{w:World}{A:Around}{E:Value->Shared->Prop}{s:Shared}
end
section
variable {prog:Program}{w:World}{A:Around}{s:Shared}
abbrev zfH (prog:Program)(w:World)(h:Heap)(a:Addr)(c:List Str):Prop:=h.SetOf (PySem.strKind prog w) a (fun y=>c.any (·==y)) c.length
theorem zfH.at {h h':Heap}{a:Addr}{c:List Str}(x:zfH prog w h a c)(k:∀ o,h.get? a=some o->h'.get? a=some o):zfH prog w h' a c :=
 let ⟨o,es,ep,t,ho,r⟩:=x;⟨o,es,ep,t,k o ho,r⟩
theorem loopS {R:Result->Shared->Prop}{it a:Addr}{fp wr:List Addr}{G:Array GenState->Array GenState->Prop}{n:Nat}{P:Nat->Value->Prop}{St:Nat->Shared->Prop}
  (W:WalksS prog w A.in1 it fp wr G n P St) (na:a∉fp) (f:Nat->Str) (hf:∀ i v,P i v->∃ t,v=.str (f i) t) (hb:n+1<scanBound) :
  ∀ (k i:Nat) (s:Shared),n-i=k->i<=n->St i s->zfH prog w s.heap a (Dp.zb2 f i) ->
   (∀ s',Moved (a::wr) G s s'->zfH prog w s'.heap a (Dp.zb2 f n)->R (.ok (.ret .none)) s') ->
   codeAny (model prog w) A (.builtin "set.update.loop" ⟨[.ref a,.ref it],[]⟩) R s
 | 0,i,s,hk,hi,st,hS,hR=>by
  have e:i=n:=by omega
  subst e
  refine codeAny_builtin PyProof.Rows.F.entry_set_update_loop ?_
  rw [Around.under_plainId PyProof.Rows.F.plain_set_update_loop]
  show wpAny _ A.in1 (pyNext (.ref it) >>= _) _ _ _
  refine wpAny_bind (W.done s _ _ st fun s' m=>wpAny_pure (hR s' (m.mono fun b q=>List.mem_cons_of_mem _ q) ?_))
  exact hS.at fun o q=>m.heap a o (fun z=>na (W.sub _ z)) q
 | k+1,i,s,hk,hi,st,hS,hR=>by
  refine codeAny_builtin PyProof.Rows.F.entry_set_update_loop ?_
  rw [Around.under_plainId PyProof.Rows.F.plain_set_update_loop]
  show wpAny _ A.in1 (pyNext (.ref it) >>= _) _ _ _
  refine wpAny_bind (W.item i s _ _ (by omega) st fun v s1 pv st1 m=>?_)
  obtain⟨t,rfl⟩:=hf i v pv
  have h1:zfH prog w s1.heap a (Dp.zb2 f i):=hS.at fun o q=>m.heap a o (fun z=>na (W.sub _ z)) q
  show wpAny _ A.in1 (holding [Value.str (f i) t] (setAdd a (Value.str (f i) t)) >>= _) _ _ _
  refine wpAny_bind (wpAny_holding ?_)
  unfold setAdd
  refine wpAny_holding (wpAny_bind ((PySem.strKind prog w).pyHash (k:=f i) (strKind_is _ _ _ _) ?_))
  have room:(Dp.zb2 f i).length+1<scanBound:=by have:=Dp.zg7 f i;omega
  refine wpAny_setAddHashed_of (knd:=PySem.strKind prog w) (s:={ s1 with toks:=s1.toks+1 }) (strKind_is _ _ _ _) rfl h1 room fun h2 sb hS2=>?_
  have h3:zfH prog w h2 a (Dp.zb2 f (i+1)):=SetOf_congr hS2 (fun y=>(Dp.zk7 _ _ _).symm) (Dp.zfM _ _).symm
  refine wpAny_pure ⟨plainId_quiet PyProof.Rows.F.plain_set_update_loop _,loopS W na f hf hb k (i+1) _ (by omega) (by omega) (W.frame _ s1 _ _ st1 (Nat.le_succ _) fun b q o e=>?_) h3 fun s' m' hS'=>?_⟩
  ·exact (sb.2 b fun z=>na (z▸q)).trans e
  ·refine hR s' (Moved.trans W.gtrans ((m.mono fun b q=>List.mem_cons_of_mem _ q).then_heap (Nat.le_succ _) fun b o q e=>?_) m') hS'
   exact (sb.2 b fun z=>q (z▸List.mem_cons_self)).trans e
end
section
variable {prog:Program}{w:World}{A:Around}{E:Value->Shared->Prop}{s:Shared}
abbrev zgo (led:Bool):Obj:={ cls:=.type "set",dict:=none,data:=.set #[] 0 (.fresh 0 0 led) }
theorem zoa {l:Addr}{its:Array Value}(f:Nat->Str){Q:Value->Shared->Prop}(hh:A.handled=none)(hl:s.heap.IsList l its)(hf:∀ (i:Nat) v,its[i]?=some v->∃ t,v=.str (f i) t)(hb:its.size+1<scanBound)
    (h:∀ (h':Heap) (tk:Nat),zfH prog w h' s.heap.objs.size (Dp.zb2 f its.size)->(∀ b o,b<s.heap.objs.size->s.heap.get? b=some o->h'.get? b=some o)->Q (.ref s.heap.objs.size) { s with heap:=h',toks:=tk }) :
    wpAny (model prog w) A (call (.type "set") [.ref l]) Q E s:=by
  have ft:=F.called_set
  obtain⟨c,tl,hmro⟩:=ft.mro
  have hmade:=ft.made
  have hsub:=ft.sub
  have h1:=ft.notType
  have h2:=ft.canCreate
  have hct:=F.typeCall_set_1 (.ref l)
  refine wpAny_call (codeAny_of_tree ?_)
  show wpAny _ _ (callAny (.type "set") _) _ _ s
  refine wpAny_pure ⟨Code.quiet_builtin _ (by decide +kernel),codeAny_builtin F.entry_type_call ?_⟩
  rw [Around.under_plain (weight_type_call_type "set" [Value.ref l] []) rfl]
  repeat (any_goals (first | assumption | wp_step))
  refine codeAny_mono (code_set_new_1 (.ref l) (E:=E) (Q₁:=fun v s1=>∃ led:Bool,v=.ref s.heap.objs.size/\s1={ s with heap:=s.heap.push (zgo led) }) fun led=>⟨led,rfl,rfl⟩) fun r s1 hr=>?_
  cases r with
  | error e=>exact hr
  | ok fl =>
    cases fl with
    | ret v =>
      obtain⟨led,rfl,rfl⟩:=hr
      have e0:(s.heap.push (zgo led)).get? s.heap.objs.size=some (zgo led):=Heap.get?_push_size _ rfl
      have hT:Shared.TypeIs { s with heap:=s.heap.push (zgo led) } (.ref s.heap.objs.size) "set":=⟨_,e0,rfl⟩
      have hli:=ft.init.lookup
      have hbi:=ft.init.bind (.ref s.heap.objs.size)
      repeat (any_goals (first | assumption | wp_step))
      refine codeAny_mono (codeAny_call_builtin (R:=wants (fun r s2=>r=.none/\∃ h' tk,s2={ s with heap:=h',toks:=tk }/\zfH prog w h' s.heap.objs.size (Dp.zb2 f its.size)/\∀ b o,b<s.heap.objs.size->s.heap.get? b=some o->h'.get? b=some o) E) ft.init.plain F.entry_set_init (check_set_init_1 hT ?_)) fun r2 s2 hr2=>?_
      · obtain⟨ol,hol,hcl,nl,hdl⟩:=hl
        obtain⟨ocl,odi,oda,osl⟩:=ol
        simp only at hcl hdl
        subst hcl hdl
        have hol2:(s.heap.push (zgo led)).get? l=some { cls:=.type "list",dict:=odi,data:=.seq its nl,slots:=osl }:=Heap.get?_push_of_some _ hol
        have k1:=F.sub_list_set
        have k2:=F.sub_list_frozenset
        have k3:(Value.type "list"==Value.type "dict")=false:=by decide
        have hl1:(s.heap.push (zgo led)).IsList l its:=⟨_,hol2,rfl,nl,rfl⟩
        unfold Builtin.«set.__init__» noKeywords Builtin.Frozenset.updateFrom
        generalize hPI:pyIter=PI
        wp_walk
        subst hPI
        refine wpAny_pyIter_list hl1 (wpAny_bind (wpAny_runValue ?_))
        have ll:l<s.heap.objs.size:=Heap.lt_size hol
        have n1:l≠(s.heap.push (zgo led)).objs.size:=by rw [Heap.size_push];exact Nat.ne_of_lt (Nat.lt_succ_of_lt ll)
        have n2:s.heap.objs.size∉[(s.heap.push (zgo led)).objs.size,l]:=by
          rw [Heap.size_push]
          intro z
          rcases List.mem_cons.mp z with z | z
          · exact Nat.ne_of_lt (Nat.lt_succ_self _) z
          · exact Nat.ne_of_gt ll (List.mem_singleton.mp z)
        refine loopS ((Walks.list (show _=none by simp [hh]) _ l n1 its).toS) n2 f hf hb (its.size-0) 0 _ (by omega) (Nat.zero_le _) ⟨⟨_,Heap.get?_push_size _ rfl,rfl,rfl⟩,hl1.push _⟩ ?_ fun s' m hS'=>?_
        · exact SetOf_congr ((setObjOf_fresh (knd:=PySem.strKind prog w) led).setOf (Heap.get?_push_of_some _ e0) (by unfold scanBound;omega)) (fun _=>rfl) rfl
        · obtain⟨h',g',d',tk',os'⟩:=s'
          cases (show g'=s.gens from m.gens)
          cases (show d'=s.drawn from m.drawn)
          cases (show os'=s.os from m.os)
          show wpAny _ _ _ _ _ _
          refine wpAny_pure (wpAny_pure ⟨rfl,h',tk',rfl,hS',fun b o q e=>?_⟩)
          refine m.heap b o (fun z=>?_) (Heap.get?_push_of_some _ (Heap.get?_push_of_some _ e))
          rcases List.mem_cons.mp z with z | z
          · exact Nat.ne_of_lt q z
          · have z':=List.mem_singleton.mp z
            rw [Heap.size_push] at z'
            exact Nat.ne_of_lt (Nat.lt_succ_of_lt q) z'
      · cases r2 with
        | error e=>exact hr2
        | ok fl2 =>
          cases fl2 with
          | ret r =>
            obtain⟨rfl,h',tk,rfl,hS',kp⟩:=hr2
            repeat (any_goals (first | assumption | wp_step))
            exact h _ _ hS' kp
          | _=>exact hr2.elim
    | _=>exact hr.elim
end
def zt6 (K:PySem.W.Frag)(ta:TA):TE:=fun σ H Q=>ta σ H fun vs H1=>∃ l,∃ zs:List Str,vs=[.ref l]/\SqL K H1 l (zs.map V.str)/\zs.length<=4000/\Q (.int (Dp.zb2 (fun i=>zs.getD i Str.empty) zs.length).length) H1
theorem zkp:∀ {zs:List Str} {us:List Value},Vals (zs.map V.str) us->∀ (i:Nat) v,us[i]?=some v->∃ t,v=.str (zs.getD i Str.empty) t
 | [],_,.nil,i,v,e=>by simp at e
 | z::zs,_,.cons r t,0,v,e=>by
  obtain⟨t,rfl⟩:=r
  simp at e
  exact⟨t,e.symm⟩
 | z::zs,_,.cons r t,i+1,v,e=>by
  obtain⟨t,h⟩:=zkp t i v (by simpa using e)
  exact⟨t,by rw [h];simp⟩
theorem zp7 {X:Cx}{a:Expr}{ta:TA}{p1 p2 pos1 pos2:Pos}(hc:X.calm=true)(hgl:Gl X "len")(hml:X.mg "len"=none)(hgr:Gl X "set")(hmr:X.mg "set"=none)(ha:PA X [a] ta)
  (hs:starEach [a] X.env=[(false,eval a X.env)]:=by rfl)
  (hs3:starEach [.Call (.Name "set" p2) [a] [] pos2] X.env=[(false,eval (.Call (.Name "set" p2) [a] [] pos2) X.env)]:=by rfl) :
  PE X (.Call (.Name "len" p1) [.Call (.Name "set" p2) [a] [] pos2] [] pos1) (zt6 X.K ta):=by
 intro pins s σ H Q I h
 refine Call_ (zdm I hgl hml boot_len (PyProof.Rows.callWith_builtin1 ?_ (by rw [hs3];rfl) (by rfl)))
 rw [hs3]
 show wpAny _ _ (spliced ((false,eval (.Call (.Name "set" p2) [a] [] pos2) X.env)::backTo pos1 [])) _ _ s
 refine Calls.spliced_cons (Call_ (zdm I hgr hmr boot_set (PyProof.Rows.callWith_type1 (thn (ha pos2 pins s σ H _ I h) fun us s1 ⟨vs,H1,I1,r1,q1⟩=>?_) hs rfl)))
 obtain⟨l,zs,e,hx,h4,q⟩:=q1
 subst e
 obtain⟨u,rfl,ru⟩:=vals1 r1
 cases ru
 obtain⟨its,rx,px,zx⟩:=I1.list hx
 have sz:its.toArray.size=zs.length:=by rw [List.size_toArray,<- rx.length,List.length_map]
 refine zoa (fun i=>zs.getD i Str.empty) (show _=none from I1.ok.hd hc) px.isList (fun i v e=>zkp rx i v (by simpa using e)) (by rw [sz];unfold scanBound;omega) fun h' tk hS kp=>Calls.spliced_nil ?_
 rw [sz] at hS
 have le:=Dp.zg7 (fun i=>zs.getD i Str.empty) zs.length
 obtain⟨o,es,ep,t,ho,hex,hd,_,_,_,hf,hn⟩:=hS
 refine call_len_set ho hex hd hf (by omega) ?_
 rw [hn]
 exact⟨.int _,H1,I1.kept (t':=tk+1+1) (fun b o q=>kp b o (Heap.lt_size q) q),⟨_,rfl⟩,q⟩
end My
namespace Dp
open PySem PySem.Spec PyProof.Rows L2 My
def isStar:Expr->Bool
 | .Starred _ _=>true
 | _=>false
theorem zbj {e:Expr}{es:List Expr}{env:Env}(h:isStar e=false):starEach (e::es) env=(false,eval e env)::starEach es env:=by
  cases e<;>first | rfl | cases h
theorem zc8 {pos:Pos}{env:Env}:∀ {es:List Expr},es.all (fun e=>!isStar e)=true->(backTo pos (starEach es env)).any (·.1)=false
 | [],_=>rfl
 | e::es,h=>by
  rw [List.all_cons,Bool.and_eq_true] at h
  rw [zbj (by simpa using h.1)]
  show (false||(backTo pos (starEach es env)).any (·.1))=false
  rw [zc8 h.2];rfl
theorem zdA {e:Expr}{env:Env}(h:isStar e=false):starEach [e] env=[(false,eval e env)]:=zbj h
theorem zki {e g:Expr}{env:Env}(h:isStar e=false)(k:isStar g=false):starEach [e,g] env=[(false,eval e env),(false,eval g env)]:=by rw [zbj h,zdA k]
def zhI (K:PySem.W.Frag)(H:Hp)(a:Addr)(xs:List V):Prop :=
 (∃ o,H a=some (.frz o (.lst xs)))\/∃ (o:Obj) (its:Array Value) (n:Nat),K.lookup a=some o/\o.cls=.type "list"/\o.dict=none/\o.data=.seq its n/\its.size<=sizeLine/\Vals xs its.toList
theorem zhI.sq {K:PySem.W.Frag}{H:Hp}{a:Addr}{xs:List V}(h:zhI K H a xs):SqL K H a xs:=h.imp (fun h=>.inr h) id
mutual
inductive Rel (K:PySem.W.Frag)(ad:List Addr)(H:Hp):D->V->Prop
 | non:Rel K ad H .non .non
 | bl (b:Bool):Rel K ad H (.bl b) (.bl b)
 | int (i:Int):Rel K ad H (.int i) (.int i)
 | str (x:Str):Rel K ad H (.str x) (.str x)
 | ty (n:String):Rel K ad H (.ty n) (.ty n)
 | tup {a:Addr} {vs:List V} {ds:List D}:H a=some (.tup vs)->zE K ad H ds vs->Rel K ad H (.tup ds) (.ref a)
 | rl {a:Addr} {vs:List V} {ds:List D}:zhI K H a vs->zE K ad H ds vs->Rel K ad H (.rl ds) (.ref a)
 | ref {n:Nat} {a:Addr}:ad[n]?=some a->Rel K ad H (.ref n) (.ref a)
 | exn {c:Str} {a C:Addr} {o:Obj} {u:HO}:H a=some (.frz o u)->o.cls=.ref C->PySem.W.nsIn K mainGlobals c=some (some (.ref C))->Rel K ad H (.exn c) (.ref a)
inductive zE (K:PySem.W.Frag)(ad:List Addr)(H:Hp):List D->List V->Prop
 | nil:zE K ad H [] []
 | cons {d:D} {v:V} {ds:List D} {vs:List V}:Rel K ad H d v->zE K ad H ds vs->zE K ad H (d::ds) (v::vs)
end
structure Wd (ad:List Addr)(H:Hp)(ad':List Addr)(H':Hp):Prop where
 pre:ad <+: ad'
 keep:∀ b o,b∉ad->H b=some o->H' b=some o
 tup:∀ b xs,H b=some (.tup xs)->H' b=some (.tup xs)
 frz:∀ b o u,H b=some (.frz o u)->H' b=some (.frz o u)
 new:∀ b,b∈ad'->b∉ad->H b=none
theorem Wd.refl {ad:List Addr}{H:Hp}:Wd ad H ad H:=⟨List.prefix_refl _,fun _ _ _ h=>h,fun _ _ h=>h,fun _ _ _ h=>h,fun _ h n=>absurd h n⟩
theorem Wd.trans {ad ad1 ad2:List Addr}{H H1 H2:Hp}(a:Wd ad H ad1 H1)(b:Wd ad1 H1 ad2 H2):Wd ad H ad2 H2 where
 pre:=a.pre.trans b.pre
 keep:=fun c o hc h=>b.keep c o (fun h1=>by rw [a.new c h1 hc] at h;cases h) (a.keep c o hc h)
 tup:=fun c xs h=>b.tup c xs (a.tup c xs h)
 frz:=fun c o u h=>b.frz c o u (a.frz c o u h)
 new:=fun c h2 hc=>by
  by_cases h1:c∈ad1
  ·exact a.new c h1 hc
  ·have n1:=b.new c h2 h1
   cases e:H c with
   | none=>rfl
   | some o=>rw [a.keep c o hc e] at n1;cases n1
theorem zi3 {α:Type}{l l':List α}(h:l <+: l'){n:Nat}{a:α}(e:l[n]?=some a):l'[n]?=some a:=by
 obtain⟨t,rfl⟩:=h
 rw [List.getElem?_append_left (My.zaE e)];exact e
structure Wr (ad:List Addr)(H:Hp)(ad':List Addr)(H':Hp):Prop where
 pre:ad <+: ad'
 tup:∀ b xs,H b=some (.tup xs)->H' b=some (.tup xs)
 frz:∀ b o u,H b=some (.frz o u)->H' b=some (.frz o u)
theorem Wd.wr {ad ad':List Addr}{H H':Hp}(w:Wd ad H ad' H'):Wr ad H ad' H':=⟨w.pre,w.tup,w.frz⟩
theorem zhI.wr {K:PySem.W.Frag}{ad ad':List Addr}{H H':Hp}{a:Addr}{xs:List V}(w:Wr ad H ad' H')(h:zhI K H a xs):zhI K H' a xs:=h.imp (fun⟨o,e⟩=>⟨o,w.frz _ _ _ e⟩) id
mutual
theorem Rel.wr {K:PySem.W.Frag}{ad ad':List Addr}{H H':Hp}(w:Wr ad H ad' H'):∀ {d:D} {v:V},Rel K ad H d v->Rel K ad' H' d v
 | _,_,.non=>.non
 | _,_,.bl b=>.bl b
 | _,_,.int i=>.int i
 | _,_,.str x=>.str x
 | _,_,.ty n=>.ty n
 | _,_,.tup h r=>.tup (w.tup _ _ h) (zE.wr w r)
 | _,_,.rl h r=>.rl (h.wr w) (zE.wr w r)
 | _,_,.ref h=>.ref (zi3 w.pre h)
 | _,_,.exn h e n=>.exn (w.frz _ _ _ h) e n
theorem zE.wr {K:PySem.W.Frag}{ad ad':List Addr}{H H':Hp}(w:Wr ad H ad' H'):∀ {ds:List D} {vs:List V},zE K ad H ds vs->zE K ad' H' ds vs
 | _,_,.nil=>.nil
 | _,_,.cons r t=>.cons (Rel.wr w r) (zE.wr w t)
end
theorem Rel.wd {K:PySem.W.Frag}{ad ad':List Addr}{H H':Hp}{d:D}{v:V}(r:Rel K ad H d v)(w:Wd ad H ad' H'):Rel K ad' H' d v:=Rel.wr w.wr r
theorem zE.wd {K:PySem.W.Frag}{ad ad':List Addr}{H H':Hp}{ds:List D}{vs:List V}(r:zE K ad H ds vs)(w:Wd ad H ad' H'):zE K ad' H' ds vs:=zE.wr w.wr r
section
variable {K:PySem.W.Frag}{ad:List Addr}{H:Hp}
theorem zE.length:∀ {ds:List D} {vs:List V},zE K ad H ds vs->ds.length=vs.length
  | _,_,.nil=>rfl
  | _,_,.cons _ t=>congrArg (· + 1) (zE.length t)
theorem zE.get:∀ {ds:List D} {vs:List V} {i:Nat} {d:D},zE K ad H ds vs->ds[i]?=some d->∃ v,vs[i]?=some v/\Rel K ad H d v
 | _,_,_,_,.nil,e=>by simp at e
 | _,_,0,_,.cons r _,e=>by simp at e;subst e;exact⟨_,rfl,r⟩
 | _,_,i+1,d,.cons _ t,e=>by
  obtain⟨v,h1,h2⟩:=zE.get (i:=i) (d:=d) t (by simpa using e)
  exact⟨v,by simpa using h1,h2⟩
theorem zE.append:∀ {ds es:List D} {vs us:List V},zE K ad H ds vs->zE K ad H es us->zE K ad H (ds++es) (vs++us)
 | _,_,_,_,.nil,s=>s
 | _,_,_,_,.cons r t,s=>.cons r (zE.append t s)
theorem zE.take:∀ {ds:List D} {vs:List V} (n:Nat),zE K ad H ds vs->zE K ad H (ds.take n) (vs.take n)
 | _,_,0,_=>.nil
 | _,_,_+1,.nil=>.nil
 | _,_,n+1,.cons r t=>.cons r (zE.take n t)
theorem zE.drop:∀ {ds:List D} {vs:List V} (n:Nat),zE K ad H ds vs->zE K ad H (ds.drop n) (vs.drop n)
 | _,_,0,r=>r
 | _,_,_+1,.nil=>.nil
 | _,_,n+1,.cons _ t=>zE.drop n t
theorem zE.set {d:D}{v:V}(r:Rel K ad H d v):∀ {ds:List D} {vs:List V} (i:Nat),zE K ad H ds vs->zE K ad H (ds.set i d) (vs.set i v)
 | _,_,_,.nil=>.nil
 | _,_,0,.cons _ t=>.cons r t
 | _,_,i+1,.cons q t=>.cons q (zE.set r i t)
theorem zE.reverse:∀ {ds:List D} {vs:List V},zE K ad H ds vs->zE K ad H ds.reverse vs.reverse
 | _,_,.nil=>.nil
 | _,_,.cons r t=>by rw [List.reverse_cons,List.reverse_cons];exact (zE.reverse t).append (.cons r .nil)
theorem zE.ints:∀ {ns:List Int} {vs:List V},zE K ad H (ns.map D.int) vs->vs=ns.map V.int
 | [],_,.nil=>rfl
 | n::ns,_,.cons r t=>by cases r;rw [zE.ints t];rfl
theorem zE.bls:∀ {ns:List Bool} {vs:List V},zE K ad H (ns.map D.bl) vs->vs=ns.map V.bl
 | [],_,.nil=>rfl
 | n::ns,_,.cons r t=>by cases r;rw [zE.bls t];rfl
theorem zE.mk_ints:∀ (ns:List Int),zE K ad H (ns.map D.int) (ns.map V.int)
 | []=>.nil
 | n::ns=>.cons (.int n) (zE.mk_ints ns)
end
inductive zaC (K:PySem.W.Frag)(ad:List Addr)(H:Hp):List (Str×D)->List (Str×V)->Prop
 | nil:zaC K ad H [] []
 | cons {f:Str} {d:D} {v:V} {fs:List (Str×D)} {vs:List (Str×V)}:Rel K ad H d v->zaC K ad H fs vs->zaC K ad H ((f,d)::fs) ((f,v)::vs)
theorem zaC.wr {K:PySem.W.Frag}{ad ad':List Addr}{H H':Hp}(w:Wr ad H ad' H'):∀ {fs:List (Str×D)} {vs:List (Str×V)},zaC K ad H fs vs->zaC K ad' H' fs vs
 | _,_,.nil=>.nil
 | _,_,.cons r t=>.cons (Rel.wr w r) (zaC.wr w t)
theorem zaC.look {K:PySem.W.Frag}{ad:List Addr}{H:Hp}{f:Str}:∀ {fs:List (Str×D)} {vs:List (Str×V)} {d:D},zaC K ad H fs vs->fs.lookup f=some d->∃ v,vs.lookup f=some v/\Rel K ad H d v
 | _,_,d,.nil,e=>by simp at e
 | _,_,d,@zaC.cons _ _ _ g x v fs vs r t,e=>by
  rw [List.lookup_cons] at e ⊢
  cases h:f==g with
  | true=>rw [h] at e;cases e;exact⟨v,rfl,r⟩
  | false=>rw [h] at e;exact zaC.look t e
theorem zaC.put {K:PySem.W.Frag}{ad:List Addr}{H:Hp}{f:Str}{d:D}{v:V}(rd:Rel K ad H d v):∀ {fs:List (Str×D)} {vs:List (Str×V)},zaC K ad H fs vs->zaC K ad H (putD f d fs) (zbL f v vs)
 | _,_,.nil=>.cons rd .nil
 | _,_,@zaC.cons _ _ _ g x u fs vs r t=>by
  show zaC K ad H (if g=f then (g,d)::fs else (g,x)::putD f d fs) (if g=f then (g,v)::vs else (g,u)::zbL f v vs)
  by_cases h:g=f
  ·rw [if_pos h,if_pos h];exact .cons rd t
  ·rw [if_neg h,if_neg h];exact .cons r (zaC.put rd t)
theorem zaC.length {K:PySem.W.Frag}{ad:List Addr}{H:Hp}:∀ {fs:List (Str×D)} {vs:List (Str×V)},zaC K ad H fs vs->fs.length=vs.length
  | _,_,.nil=>rfl
  | _,_,.cons _ t=>congrArg (· + 1) (zaC.length t)
theorem zkl {f:Str}{d:D}{q:Str×D}:∀ {fs:List (Str×D)},q∈putD f d fs->q.1=f\/q∈fs
 | [],h=>by
  have:q=(f,d):=by simpa [putD] using h
  subst this;exact .inl rfl
 | (g,x)::fs,h=>by
  have h:q∈if g=f then (g,d)::fs else (g,x)::putD f d fs:=h
  by_cases e:g=f
  ·rw [if_pos e] at h
   rcases List.mem_cons.mp h with rfl | h
   ·exact .inl e
   ·exact .inr (List.mem_cons_of_mem _ h)
  ·rw [if_neg e] at h
   rcases List.mem_cons.mp h with rfl | h
   ·exact .inr (by simp)
   ·exact (zkl h).imp id (List.mem_cons_of_mem _)
theorem zkH {f:Str}{d:D}:∀ {fs:List (Str×D)},fs.lookup f=some d->∃ q∈fs,q.1=f
 | [],e=>by simp at e
 | (g,x)::fs,e=>by
  rw [List.lookup_cons] at e
  cases h:f==g with
  | true=>exact⟨(g,x),by simp,(eq_of_beq h).symm⟩
  | false =>
   rw [h] at e
   obtain⟨q,hq,e'⟩:=zkH e
   exact⟨q,List.mem_cons_of_mem _ hq,e'⟩
inductive RelK (K:PySem.W.Frag)(ad:List Addr)(H:Hp):List (Str×D)->List (Key×V)->Prop
 | nil:RelK K ad H [] []
 | cons {x:Str} {d:D} {v:V} {fs:List (Str×D)} {vs:List (Key×V)}:Rel K ad H d v->RelK K ad H fs vs->RelK K ad H ((x,d)::fs) ((.inr x,v)::vs)
inductive zau (K:PySem.W.Frag)(ad:List Addr)(H:Hp):List (List Key×D)->List (List Key×V)->Prop
 | nil:zau K ad H [] []
 | cons {x:List Key} {d:D} {v:V} {fs:List (List Key×D)} {vs:List (List Key×V)}:Rel K ad H d v->zau K ad H fs vs->zau K ad H ((x,d)::fs) ((x,v)::vs)
theorem RelK.wr {K:PySem.W.Frag}{ad ad':List Addr}{H H':Hp}(w:Wr ad H ad' H'):∀ {fs:List (Str×D)} {vs:List (Key×V)},RelK K ad H fs vs->RelK K ad' H' fs vs
 | _,_,.nil=>.nil
 | _,_,.cons r t=>.cons (Rel.wr w r) (RelK.wr w t)
theorem zau.wr {K:PySem.W.Frag}{ad ad':List Addr}{H H':Hp}(w:Wr ad H ad' H'):∀ {fs:List (List Key×D)} {vs:List (List Key×V)},zau K ad H fs vs->zau K ad' H' fs vs
 | _,_,.nil=>.nil
 | _,_,.cons r t=>.cons (Rel.wr w r) (zau.wr w t)
def zb6 (K:PySem.W.Frag)(ad:List Addr)(H:Hp)(a:Addr):Cell->Prop
 | .lst ds=>∃ vs,H a=some (.lst vs)/\zE K ad H ds vs
 | .ins c fs=>∃ C dx vs,H a=some (.ins C dx vs)/\Cls K C/\PySem.W.nsIn K mainGlobals c=some (some (.ref C))/\zaC K ad H fs vs/\∀ q∈fs,zaj K C q.1
 | .dk kvs=>∃ vs,H a=some (.dK vs)/\RelK K ad H kvs vs
 | .dt kvs=>∃ vs,H a=some (.dT vs)/\zau K ad H kvs vs
class Bs where
 ad:List Addr
 H:Hp
structure zK [B:Bs](K:PySem.W.Frag)(ad:List Addr)(H:Hp)(S:Sto):Prop where
 wd:Wd B.ad B.H ad H
 len:ad.length=S.length
 nd:ad.Nodup
 cell:∀ (n:Nat) (a:Addr) (c:Cell),ad[n]?=some a->S[n]?=some c->zb6 K ad H a c
structure zav (K:PySem.W.Frag)(ad:List Addr)(H:Hp)(ρ:Rho)(σ:L2.St):Prop where
 len:ρ.length=σ.length
 val:∀ (i:Nat) (d:D),ρ[i]?=some (some d)->∃ v,σ[i]?=some (some v)/\Rel K ad H d v
theorem zav.wd {K:PySem.W.Frag}{ad ad':List Addr}{H H':Hp}{ρ:Rho}{σ:L2.St}(h:zav K ad H ρ σ)(w:Wd ad H ad' H'):zav K ad' H' ρ σ :=
 ⟨h.len,fun i d e=>let ⟨v,e',r⟩:=h.val i d e;⟨v,e',r.wd w⟩⟩
variable [B:Bs]
section
variable {K:PySem.W.Frag}{ad:List Addr}{H:Hp}{S:Sto}
theorem zK.get (st:zK K ad H S){n:Nat}{c:Cell}(h:S[n]?=some c):∃ a,ad[n]?=some a/\zb6 K ad H a c:=by
 have hn:n<ad.length:=by rw [st.len];exact My.zaE h
 exact⟨ad[n],List.getElem?_eq_getElem hn,st.cell n _ c (List.getElem?_eq_getElem hn) h⟩
theorem zb6.some {a:Addr}{c:Cell}(h:zb6 K ad H a c):∃ o,H a=some o:=by
 cases c with
 | lst ds=>obtain⟨vs,e,_⟩:=h;exact⟨_,e⟩
 | ins c fs=>obtain⟨C,dx,vs,e,_⟩:=h;exact⟨_,e⟩
 | dk kvs=>obtain⟨vs,e,_⟩:=h;exact⟨_,e⟩
 | dt kvs=>obtain⟨vs,e,_⟩:=h;exact⟨_,e⟩
theorem zK.there (st:zK K ad H S){a:Addr}(h:a∈ad):∃ o,H a=some o:=by
 obtain⟨n,hn,e⟩:=List.mem_iff_getElem.mp h
 have e':ad[n]?=some a:=by rw [List.getElem?_eq_getElem hn,e]
 have hs:n<S.length:=by rw [<- st.len];exact hn
 exact (st.cell n a S[n] e' (List.getElem?_eq_getElem hs)).some
theorem zK.fresh (st:zK K ad H S){l:Addr}(h:H l=none):l∉ad:=fun m=>by
 obtain⟨o,e⟩:=st.there m
 rw [h] at e;cases e
theorem zb6.wr {ad':List Addr}{H':Hp}{a:Addr}{c:Cell}(h:zb6 K ad H a c)(w:Wr ad H ad' H')(same:H' a=H a):zb6 K ad' H' a c:=by
 cases c with
 | lst ds=>obtain⟨vs,e,r⟩:=h;exact⟨vs,same.trans e,zE.wr w r⟩
 | ins c fs=>obtain⟨C,dx,vs,e,c1,c2,r,n⟩:=h;exact⟨C,dx,vs,same.trans e,c1,c2,zaC.wr w r,n⟩
 | dk kvs=>obtain⟨vs,e,r⟩:=h;exact⟨vs,same.trans e,RelK.wr w r⟩
 | dt kvs=>obtain⟨vs,e,r⟩:=h;exact⟨vs,same.trans e,zau.wr w r⟩
theorem zb6.wd {ad':List Addr}{H':Hp}{a:Addr}{c:Cell}(h:zb6 K ad H a c)(w:Wd ad H ad' H')(same:H' a=H a):zb6 K ad' H' a c:=h.wr w.wr same
theorem Wd.laid {l:Addr}{o:HO}(h:H l=none):Wd ad H ad (upd H l o) :=
 ⟨List.prefix_refl _,fun b u _ e=>zdO h e,fun b u e=>zdO h e,fun b u w e=>zdO h e,fun _ m n=>absurd m n⟩
theorem zK.bfree (st:zK K ad H S){p:Addr}(h:H p=none):B.H p=none:=by
 cases e:B.H p with
 | none=>rfl
 | some o =>
  by_cases m:p∈B.ad
  ·obtain⟨u,hu⟩:=st.there (st.wd.pre.subset m)
   rw [h] at hu;cases hu
  ·rw [st.wd.keep p o m e] at h;cases h
theorem zK.laid (st:zK K ad H S){l:Addr}{o:HO}(h:H l=none):zK K ad (upd H l o) S :=
 ⟨st.wd.trans (Wd.laid h),st.len,st.nd,fun n a c e1 e2=>(st.cell n a c e1 e2).wd (Wd.laid h) (by
  obtain⟨u,e⟩:=(st.cell n a c e1 e2).some
  rw [zdO h e,e])⟩
theorem Wd.newL (st:zK K ad H S){l:Addr}{o:HO}(h:H l=none):Wd ad H (ad++[l]) (upd H l o) :=
 ⟨List.prefix_append _ _,fun b u _ e=>zdO h e,fun b u e=>zdO h e,fun b u w e=>zdO h e,fun b m n=>by
  rcases List.mem_append.mp m with m | m
  ·exact absurd m n
  ·have:b=l:=by simpa using m
   subst this;exact h⟩
theorem zK.newL (st:zK K ad H S){l:Addr}{vs:List V}{ds:List D}(h:H l=none)(r:zE K ad H ds vs):zK K (ad++[l]) (upd H l (.lst vs)) (S++[.lst ds]) where
 wd:=st.wd.trans (Wd.newL st h)
 len:=by rw [List.length_append,List.length_append,st.len];rfl
 nd:=by
  rw [List.nodup_append]
  refine⟨st.nd,by simp,fun a ha b hb e=>?_⟩
  have:b=l:=by simpa using hb
  subst this;subst e
  exact st.fresh h ha
 cell:=fun n a c e1 e2=>by
  by_cases hn:n<ad.length
  ·rw [List.getElem?_append_left hn] at e1
   rw [List.getElem?_append_left (by rw [<- st.len];exact hn)] at e2
   have ok:=st.cell n a c e1 e2
   obtain⟨u,e⟩:=ok.some
   exact ok.wd (Wd.newL st h) (by rw [zdO h e,e])
  ·have hn':ad.length<=n:=Nat.le_of_not_lt hn
   rw [List.getElem?_append_right hn'] at e1
   rw [List.getElem?_append_right (by rw [<- st.len];exact hn'),<- st.len] at e2
   cases hk:n-ad.length with
   | zero =>
    rw [hk] at e1 e2
    have e1':l=a:=by simpa using e1
    have e2':Cell.lst ds=c:=by simpa using e2
    subst e1' e2'
    exact⟨vs,zaq,r.wd (Wd.newL st h)⟩
   | succ k=>rw [hk] at e1;simp at e1
theorem zK.newRef (st:zK K ad H S){l:Addr}{o:HO}:Rel K (ad++[l]) (upd H l o) (.ref S.length) (.ref l):=.ref (by rw [<- st.len,List.getElem?_append_right (Nat.le_refl _),Nat.sub_self];rfl)
theorem Wd.put {n:Nat}{a:Addr}{vs ws:List V}(e:ad[n]?=some a)(h:H a=some (.lst vs)):Wd ad H ad (upd H a (.lst ws)) :=
 ⟨List.prefix_refl _,fun b u hb q=>by
   have:b≠a:=fun z=>hb (by rw [z];exact List.mem_of_getElem? e)
   rw [zT this];exact q,
  fun b xs q=>by rw [zT (zeg q h (by intro z;cases z))];exact q,fun b o u q=>by rw [zT (zeg q h (by intro z;cases z))];exact q,fun _ m n=>absurd m n⟩
theorem zK.put (st:zK K ad H S){n:Nat}{a:Addr}{vs ws:List V}{ds:List D}(e:ad[n]?=some a)(h:H a=some (.lst vs))(r:zE K ad H ds ws):zK K ad (upd H a (.lst ws)) (S.set n (.lst ds)) where
 wd:=st.wd.trans (Wd.put e h)
 len:=by rw [List.length_set];exact st.len
 nd:=st.nd
 cell:=fun m b c e1 e2=>by
  have w:=Wd.put (ws:=ws) e h
  by_cases hm:m=n
  ·subst hm
   rw [e] at e1;cases e1
   rw [List.getElem?_set_self (by rw [<- st.len];exact My.zaE e)] at e2
   cases e2
   exact⟨ws,zaq,r.wd w⟩
  ·rw [List.getElem?_set_ne (Ne.symm hm)] at e2
   have ne:b≠a:=fun z=>by
    subst z
    have h1:=My.zaE e1
    have h2:=My.zaE e
    have q1:=(List.getElem?_eq_some_iff.mp e1).2
    have q2:=(List.getElem?_eq_some_iff.mp e).2
    exact hm ((List.getElem_inj st.nd).mp (q1.trans q2.symm))
   exact (st.cell m b c e1 e2).wd w (zT ne)
theorem zK.newI (st:zK K ad H S){x dx C:Addr}{c:Str}(h:H x=none)(h2:H dx=none)(hne:dx≠x)(hc:Cls K C)(hn:PySem.W.nsIn K mainGlobals c=some (some (.ref C))) :
  Wd ad H (ad++[x]) (upd (upd H dx (.own x)) x (.ins C dx []))/\zK K (ad++[x]) (upd (upd H dx (.own x)) x (.ins C dx [])) (S++[.ins c []]):=by
 have st1:=st.laid (o:=.own x) h2
 have hx:upd H dx (.own x) x=none:=by rw [zT (Ne.symm hne)];exact h
 have w1:Wd ad H ad (upd H dx (.own x)):=Wd.laid h2
 have w2:Wd ad (upd H dx (.own x)) (ad++[x]) (upd (upd H dx (.own x)) x (.ins C dx [])):=Wd.newL st1 hx
 refine⟨w1.trans w2,st.wd.trans (w1.trans w2),?_,?_,fun n a c' e1 e2=>?_⟩
 ·rw [List.length_append,List.length_append,st.len];rfl
 ·rw [List.nodup_append]
  refine⟨st.nd,by simp,fun a ha b hb e=>?_⟩
  have:b=x:=by simpa using hb
  subst this;subst e
  exact st.fresh h ha
 ·by_cases hn':n<ad.length
  ·rw [List.getElem?_append_left hn'] at e1
   rw [List.getElem?_append_left (by rw [<- st.len];exact hn')] at e2
   have ok:=st1.cell n a c' e1 e2
   obtain⟨u,e⟩:=ok.some
   exact ok.wd w2 (by rw [zdO hx e,e])
  ·have hn':ad.length<=n:=Nat.le_of_not_lt hn'
   rw [List.getElem?_append_right hn'] at e1
   rw [List.getElem?_append_right (by rw [<- st.len];exact hn'),<- st.len] at e2
   cases hk:n-ad.length with
   | zero =>
    rw [hk] at e1 e2
    have e1':x=a:=by simpa using e1
    have e2':Cell.ins c []=c':=by simpa using e2
    subst e1' e2'
    exact⟨C,dx,[],zaq,hc,hn,.nil,fun q hq=>by cases hq⟩
   | succ k=>rw [hk] at e1;simp at e1
theorem Wd.putI {n:Nat}{a C dx C' dx':Addr}{vs ws:List (Str×V)}(e:ad[n]?=some a)(h:H a=some (.ins C dx vs)):Wd ad H ad (upd H a (.ins C' dx' ws)) :=
 ⟨List.prefix_refl _,fun b u hb q=>by
   have:b≠a:=fun z=>hb (by rw [z];exact List.mem_of_getElem? e)
   rw [zT this];exact q,
  fun b xs q=>by rw [zT (zeg q h (by intro z;cases z))];exact q,fun b o u q=>by rw [zT (zeg q h (by intro z;cases z))];exact q,fun _ m n=>absurd m n⟩
theorem zK.putI (st:zK K ad H S){n:Nat}{a C dx:Addr}{c f:Str}{vs:List (Str×V)}{fs:List (Str×D)}{d:D}{v:V}(e:ad[n]?=some a)(h:H a=some (.ins C dx vs))(hc:Cls K C)(hn:PySem.W.nsIn K mainGlobals c=some (some (.ref C)))(rf:zaC K ad H fs vs)(hna:∀ q∈fs,zaj K C q.1)(hf:zaj K C f)(r:Rel K ad H d v) :
  zK K ad (upd H a (.ins C dx (zbL f v vs))) (S.set n (.ins c (putD f d fs))) where
 wd:=st.wd.trans (Wd.putI e h)
 len:=by rw [List.length_set];exact st.len
 nd:=st.nd
 cell:=fun m b c' e1 e2=>by
  have w:Wd ad H ad (upd H a (.ins C dx (zbL f v vs))):=Wd.putI e h
  by_cases hm:m=n
  ·subst hm
   rw [e] at e1;cases e1
   rw [List.getElem?_set_self (by rw [<- st.len];exact My.zaE e)] at e2
   cases e2
   refine⟨C,dx,_,zaq,hc,hn,zaC.wr w.wr (zaC.put r rf),fun q hq=>?_⟩
   rcases zkl hq with h1 | h1
   ·rw [h1];exact hf
   ·exact hna q h1
  ·rw [List.getElem?_set_ne (Ne.symm hm)] at e2
   have ne:b≠a:=fun z=>by
    subst z
    have q1:=(List.getElem?_eq_some_iff.mp e1).2
    have q2:=(List.getElem?_eq_some_iff.mp e).2
    exact hm ((List.getElem_inj st.nd).mp (q1.trans q2.symm))
   exact (st.cell m b c' e1 e2).wd w (zT ne)
theorem Wd.hid {ad':List Addr}{H':Hp}{p:Addr}{o:HO}(w:Wd ad H ad' H')(hp:H p=none):Wd ad H ad' (upd H' p o) :=
 ⟨w.pre,fun b u hb q=>by rw [zT (zbg q hp)];exact w.keep b u hb q,fun b u q=>by rw [zT (zbg q hp)];exact w.tup b u q,fun b u v q=>by rw [zT (zbg q hp)];exact w.frz b u v q,w.new⟩
theorem Wr.hid {p:Addr}{vs ws:List V}(h:H p=some (.lst vs)):Wr ad H ad (upd H p (.lst ws)) :=
 ⟨List.prefix_refl _,fun b xs q=>by rw [zT (zeg q h (by intro z;cases z))];exact q,fun b o u q=>by rw [zT (zeg q h (by intro z;cases z))];exact q⟩
theorem zK.hid (st:zK K ad H S){p:Addr}{vs ws:List V}(h:H p=some (.lst vs))(hp:p∉ad)(hb:B.H p=none):zK K ad (upd H p (.lst ws)) S :=
 ⟨st.wd.hid hb,st.len,st.nd,fun n a c e1 e2=>(st.cell n a c e1 e2).wr (Wr.hid h) (zT fun z=>hp (by rw [<- z];exact List.mem_of_getElem? e1))⟩
theorem Wd.add {ad':List Addr}{H':Hp}{p:Addr}(w:Wd ad H ad' H')(hp:H p=none):Wd ad H (ad'++[p]) H' :=
 ⟨w.pre.trans (List.prefix_append _ _),w.keep,w.tup,w.frz,fun b m n=>by
  rcases List.mem_append.mp m with m | m
  ·exact w.new b m n
  ·have:b=p:=by simpa using m
   subst this;exact hp⟩
theorem zK.add (st:zK K ad H S){p:Addr}{vs:List V}{ds:List D}(h:H p=some (.lst vs))(hp:p∉ad)(r:zE K ad H ds vs)(hb:B.H p=none):zK K (ad++[p]) H (S++[.lst ds]) where
 wd:=st.wd.add hb
 len:=by rw [List.length_append,List.length_append,st.len];rfl
 nd:=by
  rw [List.nodup_append]
  refine⟨st.nd,by simp,fun a ha b hb e=>?_⟩
  have:b=p:=by simpa using hb
  subst this;subst e
  exact hp ha
 cell:=fun n a c e1 e2=>by
  have w:Wr ad H (ad++[p]) H:=⟨List.prefix_append _ _,fun _ _ q=>q,fun _ _ _ q=>q⟩
  by_cases hn:n<ad.length
  ·rw [List.getElem?_append_left hn] at e1
   rw [List.getElem?_append_left (by rw [<- st.len];exact hn)] at e2
   exact (st.cell n a c e1 e2).wr w rfl
  ·have hn':ad.length<=n:=Nat.le_of_not_lt hn
   rw [List.getElem?_append_right hn'] at e1
   rw [List.getElem?_append_right (by rw [<- st.len];exact hn'),<- st.len] at e2
   cases hk:n-ad.length with
   | zero =>
    rw [hk] at e1 e2
    have e1':p=a:=by simpa using e1
    have e2':Cell.lst ds=c:=by simpa using e2
    subst e1' e2'
    exact⟨vs,h,zE.wr w r⟩
   | succ k=>rw [hk] at e1;simp at e1
theorem Lst.sq (st:zK K ad H S){x:D}{xs:List D}{v:V}(h:Lst S x xs)(r:Rel K ad H x v):∃ a vs,v=.ref a/\SqL K H a vs/\zE K ad H xs vs:=by
 rcases h with rfl | ⟨n,rfl,h⟩
 ·cases r with
  | rl h r=>exact⟨_,_,rfl,h.sq,r⟩
 ·cases r with
  | ref e =>
   obtain⟨vs,e2,r⟩:=st.cell n _ _ e h
   exact⟨_,vs,rfl,SqL.of e2,r⟩
theorem zgF.sq (st:zK K ad H S){x:D}{xs:List D}{v:V}(h:zgF S x xs)(r:Rel K ad H x v):∃ a vs,v=.ref a/\(SqL K H a vs\/SqT K H a vs)/\zE K ad H xs vs:=by
 rcases h with rfl | h
 ·cases r with
  | tup h r=>exact⟨_,_,rfl,.inr (SqT.of h),r⟩
 ·obtain⟨a,vs,e,s,r⟩:=Lst.sq st h r
  exact⟨a,vs,e,.inl s,r⟩
end
omit B in
theorem el8 {a b c d:Type}{p1 p2 p3 p4:a->b->c->d->Prop}{R:Prop}(h:∃ (x:a) (y:b) (z:c) (w:d),p1 x y z w/\p2 x y z w/\p3 x y z w/\p4 x y z w)(f:∀ (x:a) (y:b) (z:c) (w:d),p1 x y z w->p2 x y z w->p3 x y z w->p4 x y z w->R):R :=
 Exists.elim h fun x h=>Exists.elim h fun y h=>Exists.elim h fun z h=>Exists.elim h fun w h=>f x y z w h.1 h.2.1 h.2.2.1 h.2.2.2
def KK (K:PySem.W.Frag)(ad:List Addr)(H:Hp)(Q0:DK)(Q:VK):Prop:=∀ d S' v H' ad',Q0 d S'->Wd ad H ad' H'->zK K ad' H' S'->Rel K ad' H' d v->Q v H'
theorem KK.wd {K:PySem.W.Frag}{ad ad':List Addr}{H H':Hp}{Q0:DK}{Q:VK}(k:KK K ad H Q0 Q)(w:Wd ad H ad' H'):KK K ad' H' Q0 Q:=fun d S' v H' ad' q w'=>k d S' v H' ad' q (w.trans w')
def up (K:PySem.W.Frag)(t:DE):TE:=fun σ H Q=>∃ ad ρ S Q0,zK K ad H S/\zav K ad H ρ σ/\t ρ S Q0/\KK K ad H Q0 Q
def upT (K:PySem.W.Frag)(t:DT):TT:=fun σ H Q=>∃ ad ρ S Q0,zK K ad H S/\zav K ad H ρ σ/\t ρ S Q0/\∀ b S' H' ad',Q0 b S'->Wd ad H ad' H'->zK K ad' H' S'->Q b H'
def upA (K:PySem.W.Frag)(t:DA):TA:=fun σ H Q=>∃ ad ρ S Q0,zK K ad H S/\zav K ad H ρ σ/\t ρ S Q0/\∀ ds S' vs H' ad',Q0 ds S'->Wd ad H ad' H'->zK K ad' H' S'->zE K ad' H' ds vs->Q vs H'
theorem zK.base {K:PySem.W.Frag}{ad:List Addr}{H:Hp}{S:Sto}(st:zK K ad H S):@zK ⟨ad,H⟩ K ad H S:=@zK.mk ⟨ad,H⟩ _ _ _ _ Wd.refl st.len st.nd st.cell
theorem zK.back {K:PySem.W.Frag}{ad ad':List Addr}{H H':Hp}{S S':Sto}(st:zK K ad H S)(st':@zK ⟨ad,H⟩ K ad' H' S'):zK K ad' H' S' :=
 ⟨st.wd.trans (@zK.wd ⟨ad,H⟩ _ _ _ _ st'),@zK.len ⟨ad,H⟩ _ _ _ _ st',@zK.nd ⟨ad,H⟩ _ _ _ _ st',@zK.cell ⟨ad,H⟩ _ _ _ _ st'⟩
theorem KK.base {K:PySem.W.Frag}{ad:List Addr}{H:Hp}{S:Sto}{Q0:DK}{Q:VK}(st:zK K ad H S)(k:KK K ad H Q0 Q):@KK ⟨ad,H⟩ K ad H Q0 Q:=fun d S' v H' ad' q w st' r=>k d S' v H' ad' q w (st.back st') r
def upF (K:PySem.W.Frag)(f:DSp):Sp:=fun vs H Q _=>∃ ad S ds Q0,@zK ⟨ad,H⟩ K ad H S/\zE K ad H ds vs/\f ds S Q0/\@KK ⟨ad,H⟩ K ad H Q0 Q
structure zif (K:PySem.W.Frag)(ad:List Addr)(H:Hp)(E0:zmP)(E:Ends):Prop where
 nx:∀ ρ S σ H' ad',E0.nx ρ S->Wd ad H ad' H'->zK K ad' H' S->zav K ad' H' ρ σ->E.nx σ H'
 rt:KK K ad H E0.rt E.rt
 bk:∀ ρ S σ H' ad',E0.bk ρ S->Wd ad H ad' H'->zK K ad' H' S->zav K ad' H' ρ σ->E.bk σ H'
 ct:∀ ρ S σ H' ad',E0.ct ρ S->Wd ad H ad' H'->zK K ad' H' S->zav K ad' H' ρ σ->E.ct σ H'
theorem zif.wd {K:PySem.W.Frag}{ad ad':List Addr}{H H':Hp}{E0:zmP}{E:Ends}(k:zif K ad H E0 E)(w:Wd ad H ad' H'):zif K ad' H' E0 E :=
 ⟨fun ρ S σ H' ad' q w'=>k.nx ρ S σ H' ad' q (w.trans w'),k.rt.wd w,fun ρ S σ H' ad' q w'=>k.bk ρ S σ H' ad' q (w.trans w'),fun ρ S σ H' ad' q w'=>k.ct ρ S σ H' ad' q (w.trans w')⟩
def upS (K:PySem.W.Frag)(t:DS):TS:=fun E σ H=>∃ ad ρ S E0,zK K ad H S/\zav K ad H ρ σ/\t E0 ρ S/\zif K ad H E0 E
@[irreducible] def PD (X:Cx)(e:Expr)(t:DE):Prop:=PE X e (up X.K t)
@[irreducible] def PTD (X:Cx)(e:Expr)(t:DT):Prop:=PT X e (upT X.K t)
@[irreducible] def PWD (X:Cx)(e:Expr)(t:DT):Prop:=PW X e (upT X.K t)
@[irreducible] def PAD (X:Cx)(es:List Expr)(t:DA):Prop:=PA X es (upA X.K t)
@[irreducible] def PSD (X:Cx)(st:Stmt)(t:DS):Prop:=PS X st (upS X.K t)
@[irreducible] def zeZ (X:Cx)(st:List Stmt)(t:DS):Prop:=PSs X st (upS X.K t)
theorem zp3 {X:Cx}{e:Expr}{t t':TE}(h:PE X e t)(m:∀ σ H Q,t' σ H Q->t σ H Q):PE X e t':=fun pins s σ H Q I q=>h pins s σ H Q I (m σ H Q q)
theorem zfi {X:Cx}{e:Expr}{t t':TT}(h:PT X e t)(m:∀ σ H Q,t' σ H Q->t σ H Q):PT X e t':=fun pins s σ H Q I q=>h pins s σ H Q I (m σ H Q q)
theorem zl0 {X:Cx}{e:Expr}{t t':TT}(h:PW X e t)(m:∀ σ H Q,t' σ H Q->t σ H Q):PW X e t':=fun wh pins s σ H Q I q=>h wh pins s σ H Q I (m σ H Q q)
theorem zlI {X:Cx}{e:List Expr}{t t':TA}(h:PA X e t)(m:∀ σ H Q,t' σ H Q->t σ H Q):PA X e t':=fun pos pins s σ H Q I q=>h pos pins s σ H Q I (m σ H Q q)
theorem zbm {X:Cx}{st:Stmt}{t t':TS}(h:PS X st t)(m:∀ D σ H,t' D σ H->t D σ H):PS X st t':=fun pins s σ H D I q=>h pins s σ H D I (m D σ H q)
theorem zkD {X:Cx}{st:List Stmt}{t t':TS}(h:PSs X st t)(m:∀ D σ H,t' D σ H->t D σ H):PSs X st t':=fun pins s σ H D I q=>h pins s σ H D I (m D σ H q)
section
variable {X:Cx}{a b c:Expr}{ta tb tc:DE}{pos:Pos}
theorem zaL {e:Expr}{t:TE}{d:DE}(h:PE X e t)(m:∀ σ H Q,up X.K d σ H Q->t σ H Q):PD X e d:=by with_unfolding_all exact (zp3 h m)
theorem zri {e:Expr}{i:Nat}(h:PE X e (zsr i)):PD X e (zf i):=by with_unfolding_all exact (zaL h fun σ H Q ⟨ad,ρ,S,Q0,st,rh,⟨d,e,q⟩,k⟩=>by
 obtain⟨v,ev,r⟩:=rh.val i d e
 exact⟨v,ev,k d S v H ad q Wd.refl st r⟩)
theorem zgH {e:Expr}{v:V}{d:D}(h:PE X e (tC v))(r:∀ ad H,Rel X.K ad H d v):PD X e (dC d):=by with_unfolding_all exact (zaL h fun σ H Q hh=>el8 hh fun ad ρ S Q0 st rh q k=>k d S v H ad q Wd.refl st (r _ _))
theorem zu {i j}:PD X (.Constant (.int i) j pos) (dC (.int i)):=by with_unfolding_all exact (zgH zky fun _ _=>.int i)
theorem zc6 {b j}:PD X (.Constant (.bool b) j pos) (dC (.bl b)):=by with_unfolding_all exact (zgH zt5 fun _ _=>.bl b)
theorem zbU {j}:PD X (.Constant .none j pos) (dC .non):=by with_unfolding_all exact (zgH zsu fun _ _=>.non)
theorem zbG {x j}:PD X (.Constant (.str x) j pos) (dC (.str x)):=by with_unfolding_all exact (zgH zrq fun _ _=>.str x)
theorem zhh {x:Str}{T:String}(hg:Gl X x)(hm:X.mg x=none)(hv:bootBuiltins x=some (.type T))(hn:x≠"__name__":=by decide)(hd:(x==("__debug__":Str))=false:=by decide):PD X (.Name x pos) (dC (.ty T)):=by with_unfolding_all exact (zgH (ztJ hg hm hv hn hd) fun _ _=>.ty T)
theorem z9 {x:Str}{n:Int}(hg:Gl X x)(hm:∃ t,X.mg x=some (.int n t))(hd:(x==("__debug__":Str))=false:=by decide):PD X (.Name x pos) (dC (.int n)):=by with_unfolding_all exact (zgH (zqP hg hm hd) fun _ _=>.int n)
theorem zqe {x z:Str}(hg:Gl X x)(hm:∃ t,X.mg x=some (.str z t))(hd:(x==("__debug__":Str))=false:=by decide):PD X (.Name x pos) (dC (.str z)):=by with_unfolding_all exact (zgH (by obtain⟨t,hm⟩:=hm;exact zlH (v:=.str z) hg hm ⟨t,rfl⟩ hd) fun _ _=>.str z)
theorem zeo {i j:Int}{m n:Nat}{p1 p2:Pos}(c:Int)(h:i ^ j.toNat=c)(h0:0<=j/\j<=1000000/\i.natAbs<2 ^ 64):PD X (.BinOp (.Constant (.int i) m p1) .Pow (.Constant (.int j) n p2) pos) (dC (.int c)):=by with_unfolding_all exact (zgH (zq8 c h h0) fun _ _=>.int c)
def OD (K:PySem.W.Frag)(r':DR2)(r:R2):Prop:=∀ ad H S x y v u Q0 Q,zK K ad H S->Rel K ad H x v->Rel K ad H y u->r' x y S Q0->KK K ad H Q0 Q->r v u H Q
theorem zg6 {K:PySem.W.Frag}{r':DR2}{r:R2}(o:OD K r' r){σ:L2.St}{H:Hp}{Q:VK}(h:up K (dOp r' ta tb) σ H Q):tOp r (up K ta) (up K tb) σ H Q:=by
 obtain⟨ad,ρ,S,Q0,st,rh,q,k⟩:=h
 refine⟨ad,ρ,S,_,st,rh,q,fun x S1 v H1 ad1 q1 w1 st1 r1=>?_⟩
 refine⟨ad1,ρ,S1,_,st1,rh.wd w1,q1,fun y S2 u H2 ad2 q2 w2 st2 r2=>?_⟩
 exact o ad2 H2 S2 x y v u Q0 Q st2 (r1.wd w2) r2 q2 (k.wd (w1.trans w2))
theorem ziG {op:Operator}{r':DR2}{r:R2}(ho:OpR X (binaryOp op) r)(o:OD X.K r' r)(ha:PD X a ta)(hb:PD X b tb):PD X (.BinOp a op b pos) (dOp r' ta tb):=by with_unfolding_all exact (zaL (zpF ho ha hb) fun _ _ _=>zg6 o)
theorem zmG {K:PySem.W.Frag}{C C':Int->Int->Prop}{g:Int->Int->D}{g':Int->Int->V}(hc:∀ i j,C i j->C' i j)(hg:∀ ad H i j,Rel K ad H (g i j) (g' i j)):OD K (oI C g) (rI C' g'):=fun ad H S x y v u Q0 Q st rx ry ⟨i,j,ex,ey,c,q⟩ k=>by
 subst ex ey
 cases rx
 cases ry
 exact⟨i,j,rfl,rfl,hc i j c,k _ S _ H ad q Wd.refl st (hg ad H i j)⟩
theorem zix {K:PySem.W.Frag}{g:Int->Int->D}{g':Int->Int->V}(hg:∀ ad H i j,Rel K ad H (g i j) (g' i j)):OD K (oI0 g) (rI0 g'):=fun ad H S x y v u Q0 Q st rx ry ⟨i,j,ex,ey,q⟩ k=>by
 subst ex ey
 cases rx
 cases ry
 exact⟨i,j,rfl,rfl,k _ S _ H ad q Wd.refl st (hg ad H i j)⟩
theorem zn8 {i:Int}(h:i.natAbs<2 ^ 64):-(2 ^ 64)<i/\i<2 ^ 64:=⟨by omega,by omega⟩
def ztI (i j:Int):Prop:=zaH i j
theorem zqh:OpR X (binaryOp .Mult) (rI ztI fun i j=>.int (i*j)):=opI fun i j _ _ _ _ _ hc q=>by
 rcases hc with h | h | h
 ·exact mul_int q (IntMulOk.of_bits (zik h.1) (zik h.2))
 ·exact mul_int q (zmA.ok (.inl (zn8 h)))
 ·exact mul_int q (zmA.ok (.inr (zn8 h)))
theorem zak (ha:PD X a ta)(hb:PD X b tb):PD X (.BinOp a .Sub b pos) (dOp zaS ta tb):=by with_unfolding_all exact (ziG zrS (zix fun _ _ i j=>.int (i-j)) ha hb)
theorem zrf {z:Str}{n:Int}(hz:z.length<=1000)(h0:-1000<=n)(h1:n<=1000):MulOk z n:=by
 refine⟨?_,fun _ _=>?_,fun h _=>?_⟩
 ·rw [decide_eq_false (by omega),decide_eq_false (by omega)];rfl
 ·have:(1000:Int)<=(2 ^ 63-1)/n\/n<1:=by
   rcases Int.lt_or_le n 1 with g | g
   ·exact .inr g
   ·exact .inl ((Int.le_ediv_iff_mul_le (by omega)).mpr (by omega))
  omega
 ·have:z.length*n.toNat<=1000*1000:=Nat.mul_le_mul hz (by omega)
  have hs:z.length*n.toNat<=sizeLine:=Nat.le_trans this (by decide)
  first
   | exact decide_eq_false (by omega)
   | (unfold tooLong;exact decide_eq_false (by omega))
   | simp [tooLong];omega
theorem zrb:OpR X (binaryOp .Mult) (fun x y H Q=>∃ z n,x=.str z/\y=.int n/\MulOk z n/\Q (.str (Txt.mul z n)) H):=by
 intro pins s σ H x y v u Q I rx ry h
 obtain⟨z,n,rfl,rfl,ok,q⟩:=h
 obtain⟨t,rfl⟩:=rx
 obtain⟨t',rfl⟩:=ry
 exact SB.mul ok fun t' k=>⟨.str (Txt.mul z n),H,I.tok _,⟨_,rfl⟩,q⟩
omit B in
theorem zlF {i:Int}(h:Hg i):Builtin.Int.intBits i<=2 ^ 20:=by
 unfold Hg at h
 exact intBits_le h
omit B in
theorem zqa {i:Int}(h:Builtin.Int.intBits i<=2 ^ 20):Hg i:=by
 unfold Hg
 exact Nat.lt_of_lt_of_le (natAbs_lt_pow_bits i) (Nat.pow_le_pow_right (by decide) h)
theorem zqv:OpR X (binaryOp .Mult) (rI (fun i j=>Hg i/\Hg j) fun i j=>.int (i*j)):=opI fun i j _ _ _ _ _ hc q=>mul_int q (IntMulOk.of_bits (zlF hc.1) (zlF hc.2))
theorem zaB (ha:PD X a ta)(hb:PD X b tb):PD X (.BinOp a .Mult b pos) (dOp zbt ta tb):=by with_unfolding_all exact (ziG (zqh.or (zrb.or zqv)) (fun ad H S x y v u Q0 Q st rx ry h k=>by
 rcases h with h | ⟨z,n,rfl,rfl,hz,h0,h1,q⟩ | h
 ·exact .inl (zmG (fun _ _ h=>h) (fun _ _ i j=>.int (i*j)) ad H S x y v u Q0 Q st rx ry h k)
 ·cases rx
  cases ry
  exact .inr (.inl ⟨z,n,rfl,rfl,zrf hz h0 h1,k _ S _ H ad q Wd.refl st (.str _)⟩)
 ·exact .inr (.inr (zmG (fun _ _ h=>h) (fun _ _ i j=>.int (i*j)) ad H S x y v u Q0 Q st rx ry h k))) ha hb)
theorem zas (ha:PD X a ta)(hb:PD X b tb):PD X (.BinOp a .FloorDiv b pos) (dOp oDiv ta tb):=by with_unfolding_all exact (ziG zpa (zmG (fun _ _ h=>h) fun _ _ i j=>.int (i.fdiv j)) ha hb)
theorem zad (ha:PD X a ta)(hb:PD X b tb):PD X (.BinOp a .Mod b pos) (dOp oMod ta tb):=by with_unfolding_all exact (ziG zqr (zmG (fun _ _ h=>h) fun _ _ i j=>.int (i.fmod j)) ha hb)
theorem zcQ {n:Nat}(h:n<=big):n<=sizeLine:=Nat.le_trans h (by decide)
theorem zgQ {n:Nat}(h:n<big):n<sizeLine:=Nat.lt_of_lt_of_le h (by decide)
theorem zid {K:PySem.W.Frag}{ad:List Addr}{H:Hp}{S:Sto}{Q0:DK}{Q:VK}{ds:List D}{vs:List V}(st:zK K ad H S)(k:KK K ad H Q0 Q)(r:zE K ad H ds vs)(q:Q0 (.ref S.length) (S++[.lst ds]))(l:Addr)(h:H l=none):Q (.ref l) (upd H l (.lst vs)) :=
 k _ _ _ _ _ q (Wd.newL st h) (st.newL h r) st.newRef
theorem zkG {K:PySem.W.Frag}{ad:List Addr}{H:Hp}{S:Sto}{Q0:DK}{Q:VK}{ds:List D}{vs:List V}(st:zK K ad H S)(k:KK K ad H Q0 Q)(r:zE K ad H ds vs)(q:Q0 (.tup ds) S)(l:Addr)(h:H l=none):Q (.ref l) (upd H l (.tup vs)) :=
 k _ _ _ _ _ q (Wd.laid h) (st.laid h) (.tup zaq (r.wd (Wd.laid h)))
theorem zal (ha:PD X a ta)(hb:PD X b tb):PD X (.BinOp a .Add b pos) (dOp zaD ta tb):=by with_unfolding_all exact (ziG (zsI.or ((zpe rfl).or ((zqJ rfl).or zmy))) (fun ad H S x y v u Q0 Q st rx ry h k=>by
  rcases h with ⟨i,j,rfl,rfl,q⟩ | ⟨xs,ys,rfl,rfl,hz,q⟩ | ⟨xs,ys,hx,hy,hz,q⟩ | ⟨i,j,rfl,rfl,hz,q⟩
  ·cases rx
   cases ry
   exact .inl ⟨i,j,rfl,rfl,k _ S _ H ad q Wd.refl st (.int _)⟩
  ·cases rx with
   | tup h1 r1 =>
    cases ry with
    | tup h2 r2 =>
     have l1:=r1.length
     have l2:=r2.length
     refine .inr (.inl ⟨_,_,_,_,rfl,rfl,SqT.of h1,SqT.of h2,by rw [<- l1,<- l2];exact zcQ hz,fun e=>?_,fun _ e=>?_,fun _ _ p hp=>zkG st k (r1.append r2) q p hp⟩)
     ·have e':xs=[]:=List.length_eq_zero_iff.mp (by rw [l1,e];rfl)
      subst e'
      exact k _ S _ H ad q Wd.refl st (.tup h2 r2)
     ·have e':ys=[]:=List.length_eq_zero_iff.mp (by rw [l2,e];rfl)
      subst e'
      rw [List.append_nil] at q
      exact k _ S _ H ad q Wd.refl st (.tup h1 r1)
  ·obtain⟨a1,vs1,rfl,s1,r1⟩:=hx.sq st rx
   obtain⟨a2,vs2,rfl,s2,r2⟩:=hy.sq st ry
   exact .inr (.inr (.inl ⟨_,_,_,_,rfl,rfl,s1,s2,by rw [<- r1.length,<- r2.length];exact zcQ hz,fun p hp=>zid st k (r1.append r2) q p hp⟩))
  ·cases rx
   cases ry
   exact .inr (.inr (.inr ⟨i,j,rfl,rfl,zcQ hz,k _ S _ H ad q Wd.refl st (.str _)⟩))) ha hb)
theorem zc0 (ha:PD X a ta):PD X (.UnaryOp .USub a pos) (dUn zd6 ta):=by with_unfolding_all exact (zaL (zuk zrC ha) fun σ H Q hh=>el8 hh fun ad ρ S Q0 st rh q k=>by
 refine⟨ad,ρ,S,_,st,rh,q,fun x S1 v H1 ad1 q1 w1 st1 r1=>?_⟩
 obtain⟨i,rfl,q1⟩:=q1
 cases r1
 exact⟨i,rfl,k _ _ _ _ _ q1 w1 st1 (.int _)⟩)
def OC (X:Cx)(op:CmpOp)(r':DR2):Prop:=∃ r,OpR X (compareOp op) r/\OD X.K r' r
theorem zbD:OC X .Lt oLt:=⟨_,zt0,zix fun _ _ _ _=>.bl _⟩
theorem zj4:OC X .LtE oLe:=⟨_,zuf,zix fun _ _ _ _=>.bl _⟩
theorem zc4:OC X .Gt oGt:=⟨_,zut,zix fun _ _ _ _=>.bl _⟩
theorem zuy:OC X .GtE oGe:=⟨_,zuh,zix fun _ _ _ _=>.bl _⟩
mutual
def pyD:D->PyData
 | .non=>.none
 | .bl b=>.bool b
 | .int i=>.int i
 | .str x=>.str x
 | .tup xs=>.tuple (zat xs)
 | .ref _=>.none
 | .ty _=>.none
 | .rl _=>.none
 | .exn _=>.none
def zat:List D->List PyData
 | []=>[]
 | x::xs=>pyD x::zat xs
end
section
variable {pins:List (Addr×Obj)}{σ:L2.St}{H:Hp}{s:Shared}{ad:List Addr}
theorem zer (I:Inv X pins σ H s)(k:Nat)(h1:∀ d v u,fl k d=true->Rel X.K ad H d v->RelV v u->∃ as,Reads s.heap u (pyD d) as):∀ ds vs us,ds.all (fl k)=true->zE X.K ad H ds vs->Vals vs us->∃ as,ReadsAll s.heap us (zat ds) as:=by
 intro ds
 induction ds with
 | nil=>intro vs us _ r rv;cases r;cases rv;exact⟨_,.nil⟩
 | cons d ds ih =>
  intro vs us hf r rv
  rw [List.all_cons,Bool.and_eq_true] at hf
  cases r with
  | cons r t =>
   cases rv with
   | cons q qt =>
    obtain⟨as,ra⟩:=h1 d _ _ hf.1 r q
    obtain⟨bs,rb⟩:=ih _ _ hf.2 t qt
    exact⟨_,.cons ra rb⟩
theorem zcn (I:Inv X pins σ H s):∀ (k:Nat) (d:D) (v:V) (u:Value),fl k d=true->Rel X.K ad H d v->RelV v u->∃ as,Reads s.heap u (pyD d) as:=by
 intro k
 induction k with
 | zero =>
  intro d v u hf r q
  cases r with
  | non=>cases q;exact⟨_,.none⟩
  | bl b=>cases q;exact⟨_,.bool b⟩
  | int i=>obtain⟨t,rfl⟩:=q;exact⟨_,.int i t⟩
  | str x=>obtain⟨t,rfl⟩:=q;exact⟨_,.str x t⟩
  | ty n=>cases hf
  | tup h r=>cases hf
  | rl h r=>cases hf
  | ref h=>cases hf
  | exn _ _ _=>cases hf
 | succ k ih =>
  intro d v u hf r q
  cases r with
  | non=>cases q;exact⟨_,.none⟩
  | bl b=>cases q;exact⟨_,.bool b⟩
  | int i=>obtain⟨t,rfl⟩:=q;exact⟨_,.int i t⟩
  | str x=>obtain⟨t,rfl⟩:=q;exact⟨_,.str x t⟩
  | ty n=>cases hf
  | tup h r =>
   cases q
   obtain⟨its,rv,ht,hz⟩:=I.tuple (SqT.of h)
   obtain⟨o,ho,hc,n,hd⟩:=ht
   obtain⟨as,ra⟩:=zer I k ih _ _ _ hf r rv
   exact⟨_,.tuple ho hc hd (by simpa using ra)⟩
  | rl h r=>cases hf
  | ref h=>cases hf
  | exn _ _ _=>cases hf
end
theorem zf5:∀ (k:Nat) (d:D),fl k d=true->(pyD d).canLay0=true/\(pyD d).depth<=k:=by
 have all:∀ k,(∀ d,fl k d=true->(pyD d).canLay0=true/\(pyD d).depth<=k)->∀ ds:List D,ds.all (fl k)=true->PyData.canLayAll0 (zat ds)=true/\PyData.depthAll (zat ds)<=k:=by
  intro k h ds
  induction ds with
  | nil=>intro _;exact⟨rfl,Nat.zero_le _⟩
  | cons d ds ih =>
   intro hf
   rw [List.all_cons,Bool.and_eq_true] at hf
   obtain⟨a1,a2⟩:=h d hf.1
   obtain⟨b1,b2⟩:=ih hf.2
   refine⟨?_,?_⟩
   ·show (PyData.canLay0 (pyD d)&&PyData.canLayAll0 (zat ds))=true
    rw [a1,b1];rfl
   ·show max (PyData.depth (pyD d)) (PyData.depthAll (zat ds))<=k
    exact Nat.max_le.mpr ⟨a2,b2⟩
 intro k
 induction k with
 | zero =>
  intro d hf
  cases d with
  | non=>exact⟨rfl,Nat.zero_le _⟩
  | bl b=>exact⟨rfl,Nat.zero_le _⟩
  | int i=>exact⟨rfl,Nat.zero_le _⟩
  | str x=>exact⟨hf,Nat.zero_le _⟩
  | tup xs=>cases hf
  | ref n=>cases hf
  | exn _=>cases hf
  | ty n=>cases hf
  | rl xs=>cases hf
 | succ k ih =>
  intro d hf
  cases d with
  | non=>exact⟨rfl,Nat.zero_le _⟩
  | bl b=>exact⟨rfl,Nat.zero_le _⟩
  | int i=>exact⟨rfl,Nat.zero_le _⟩
  | str x=>exact⟨hf,Nat.zero_le _⟩
  | tup xs =>
   obtain⟨h1,h2⟩:=all k ih xs hf
   refine⟨h1,?_⟩
   show PyData.depthAll (zat xs)+1<=k+1
   omega
  | ref n=>cases hf
  | exn _=>cases hf
  | ty n=>cases hf
  | rl xs=>cases hf
theorem zdU (k:Nat):∀ ds:List D,ds.all (fl k)=true->PyData.canLayAll0 (zat ds)=true/\PyData.depthAll (zat ds)<=k:=by
 intro ds
 induction ds with
 | nil=>intro _;exact⟨rfl,Nat.zero_le _⟩
 | cons d ds ih =>
  intro hf
  rw [List.all_cons,Bool.and_eq_true] at hf
  obtain⟨a1,a2⟩:=zf5 k d hf.1
  obtain⟨b1,b2⟩:=ih hf.2
  refine⟨?_,?_⟩
  ·show (PyData.canLay0 (pyD d)&&PyData.canLayAll0 (zat ds))=true
   rw [a1,b1];rfl
  ·show max (PyData.depth (pyD d)) (PyData.depthAll (zat ds))<=k
   exact Nat.max_le.mpr ⟨a2,b2⟩
mutual
theorem zkm:∀ (k:Nat) (x y:D),fl k x=true->fl k y=true->PyData.eqv (pyD x) (pyD y)=eqv x y
  | k,.non,y,_,hy=>by cases y<;>first | rfl | (cases k<;>cases hy)
  | k,.bl a,y,_,hy=>by cases y<;>first | rfl | (cases k<;>cases hy)
  | k,.int i,y,_,hy=>by
    cases y with
    | int j=>show (i==j)=decide (i=j);rw [Bool.beq_eq_decide_eq]
    | ref n=>cases k<;>cases hy
    | exn n=>cases k<;>cases hy
    | ty n=>cases k<;>cases hy
    | rl n=>cases k<;>cases hy
    | _=>rfl
  | k,.str a,y,_,hy=>by cases y<;>first | rfl | (cases k<;>cases hy)
  | 0,.tup xs,y,hx,_=>by cases hx
  | k+1,.tup xs,y,hx,hy=>by
    cases y with
    | tup ys=>exact zeK k xs ys hx hy
    | ref n=>cases hy
    | ty n=>cases hy
    | rl n=>cases hy
    | _=>rfl
  | k,.ref n,y,hx,_=>by cases k<;>cases hx
  | k,.ty n,y,hx,_=>by cases k<;>cases hx
  | k,.rl n,y,hx,_=>by cases k<;>cases hx
  | k,.exn n,y,hx,_=>by cases k<;>cases hx
theorem zeK:∀ (k:Nat) (xs ys:List D),xs.all (fl k)=true->ys.all (fl k)=true->PyData.eqvAll (zat xs) (zat ys)=eqvAll xs ys
  | k,[],[],_,_=>rfl
  | k,[],y::ys,_,_=>rfl
  | k,x::xs,[],_,_=>rfl
  | k,x::xs,y::ys,hx,hy=>by
    rw [List.all_cons,Bool.and_eq_true] at hx hy
    show (PyData.eqv (pyD x) (pyD y)&&PyData.eqvAll (zat xs) (zat ys))=(eqv x y&&eqvAll xs ys)
    rw [zkm k x y hx.1 hy.1,zeK k xs ys hx.2 hy.2]
end
def zdz (xss:List (List D)):List PyData:=xss.map fun zs=>.list (zat zs)
theorem zj7:∀ xss:List (List D),zfP xss=true->PyData.canLayAll0 (zdz xss)=true/\PyData.depthAll (zdz xss)<=21
 | [],_=>⟨rfl,Nat.zero_le _⟩
 | zs::xss,h=>by
  unfold zfP at h
  rw [List.all_cons,Bool.and_eq_true] at h
  obtain⟨a1,a2⟩:=zdU 20 zs h.1
  obtain⟨b1,b2⟩:=zj7 xss h.2
  refine⟨?_,?_⟩
  ·show (PyData.canLayAll0 (zat zs)&&PyData.canLayAll0 (zdz xss))=true
   rw [a1,b1];rfl
  ·show max (PyData.depthAll (zat zs)+1) (PyData.depthAll (zdz xss))<=21
   exact Nat.max_le.mpr ⟨by omega,b2⟩
theorem znf:∀ xss yss:List (List D),zfP xss=true->zfP yss=true->PyData.eqvAll (zdz xss) (zdz yss)=eqvAll (xss.map D.tup) (yss.map D.tup)
 | [],[],_,_=>rfl
 | [],_::_,_,_=>rfl
 | _::_,[],_,_=>rfl
 | zs::xss,ws::yss,h,k=>by
  unfold zfP at h k
  rw [List.all_cons,Bool.and_eq_true] at h k
  show (PyData.eqvAll (zat zs) (zat ws)&&PyData.eqvAll (zdz xss) (zdz yss))=(eqvAll zs ws&&eqvAll (xss.map D.tup) (yss.map D.tup))
  rw [zeK 20 zs ws h.1 k.1,znf xss yss h.2 k.2]
theorem zh8 {pins:List (Addr×Obj)}{σ:L2.St}{H:Hp}{s:Shared}{ad:List Addr}{S:Sto}(I:Inv X pins σ H s)(st:zK X.K ad H S):∀ (xs:List D) (xss:List (List D)) (vs:List V) (us:List Value),zii S xs xss->zfP xss=true->zE X.K ad H xs vs->Vals vs us->∃ as,ReadsAll s.heap us (zdz xss) as
 | [],[],_,_,_,_,r,rv=>by cases r;cases rv;exact⟨_,.nil⟩
 | [],_::_,_,_,h,_,_,_=>h.elim
 | _::_,[],_,_,h,_,_,_=>h.elim
 | x::xs,zs::xss,_,_,h,f,r,rv=>by
  unfold zfP at f
  rw [List.all_cons,Bool.and_eq_true] at f
  cases r with
  | cons r t =>
   obtain⟨a1,vs1,rfl,s1,r1⟩:=h.1.sq st r
   cases rv with
   | cons q qt =>
    cases q
    obtain⟨its,rv1,ht,hz⟩:=I.list s1
    obtain⟨o,ho,hc,n,hd⟩:=ht.isList
    obtain⟨as,ra⟩:=zer I 20 (zcn I 20) _ _ _ f.1 r1 rv1
    obtain⟨bs,rb⟩:=zh8 I st xs xss _ _ h.2 f.2 t qt
    exact⟨_,.cons (.list ho hc hd (by simpa using ra)) rb⟩
def zsU (X:Cx)(g:Bool->Bool):R2:=fun x y H Q=>∃ ad S dx dy b,zK X.K ad H S/\Rel X.K ad H dx x/\Rel X.K ad H dy y/\EqD S dx dy b/\Q (.bl (g b)) H
theorem zjv {pins:List (Addr×Obj)}{σ:L2.St}{H:Hp}{s:Shared}{ad:List Addr}{S:Sto}{dx dy:D}{x y:V}{v u:Value}{b:Bool}(I:Inv X pins σ H s)(st:zK X.K ad H S)(rx:Rel X.K ad H dx x)(ry:Rel X.K ad H dy y)(qx:RelV x v)(qy:RelV y u)(h:EqD S dx dy b) :
  ∃ px py as bs,Reads s.heap v px as/\Reads s.heap u py bs/\px.canLay0=true/\py.canLay0=true/\min px.depth py.depth<=60/\PyData.eqv px py=b:=by
 rcases h with ⟨fx,fy,rfl⟩ | ⟨xs,ys,hx,hy,fx,fy,rfl⟩ | ⟨xs,ys,xss,yss,hx,hy,lx,ly,fx,fy,rfl⟩
 ·obtain⟨as,ra⟩:=zcn I 20 dx x v fx rx qx
  obtain⟨bs,rb⟩:=zcn I 20 dy y u fy ry qy
  obtain⟨c1,d1⟩:=zf5 20 dx fx
  obtain⟨c2,d2⟩:=zf5 20 dy fy
  exact⟨_,_,as,bs,ra,rb,c1,c2,by omega,zkm 20 dx dy fx fy⟩
 ·obtain⟨a1,vs1,rfl,s1,r1⟩:=hx.sq st rx
  obtain⟨a2,vs2,rfl,s2,r2⟩:=hy.sq st ry
  cases qx
  cases qy
  obtain⟨its,rv,ht,hz⟩:=I.list s1
  obtain⟨its2,rv2,ht2,hz2⟩:=I.list s2
  obtain⟨o,ho,hc,n,hd⟩:=ht.isList
  obtain⟨o2,ho2,hc2,n2,hd2⟩:=ht2.isList
  obtain⟨as,ra⟩:=zer I 20 (zcn I 20) _ _ _ fx r1 rv
  obtain⟨bs,rb⟩:=zer I 20 (zcn I 20) _ _ _ fy r2 rv2
  obtain⟨c1,d1⟩:=zdU 20 xs fx
  obtain⟨c2,d2⟩:=zdU 20 ys fy
  refine⟨.list (zat xs),.list (zat ys),_,_,.list ho hc hd (by simpa using ra),.list ho2 hc2 hd2 (by simpa using rb),c1,c2,?_,zeK 20 xs ys fx fy⟩
  show min (PyData.depthAll (zat xs)+1) (PyData.depthAll (zat ys)+1)<=60
  omega
 ·obtain⟨a1,vs1,rfl,s1,r1⟩:=hx.sq st rx
  obtain⟨a2,vs2,rfl,s2,r2⟩:=hy.sq st ry
  cases qx
  cases qy
  obtain⟨its,rv,ht,hz⟩:=I.list s1
  obtain⟨its2,rv2,ht2,hz2⟩:=I.list s2
  obtain⟨o,ho,hc,n,hd⟩:=ht.isList
  obtain⟨o2,ho2,hc2,n2,hd2⟩:=ht2.isList
  obtain⟨as,ra⟩:=zh8 I st xs xss _ _ lx fx r1 rv
  obtain⟨bs,rb⟩:=zh8 I st ys yss _ _ ly fy r2 rv2
  obtain⟨c1,d1⟩:=zj7 xss fx
  obtain⟨c2,d2⟩:=zj7 yss fy
  refine⟨.list (zdz xss),.list (zdz yss),_,_,.list ho hc hd (by simpa using ra),.list ho2 hc2 hd2 (by simpa using rb),c1,c2,?_,znf xss yss fx fy⟩
  show min (PyData.depthAll (zdz xss)+1) (PyData.depthAll (zdz yss)+1)<=60
  omega
theorem zeM {k:Nat}(hr:zax k X.A):OC X .Eq oEq:=⟨zsU X id,fun pins s σ H x y v u Q I qx qy ⟨ad,S,dx,dy,b,st,rx,ry,h,q⟩=>by
  obtain⟨px,py,as,bs,ra,rb,c1,c2,hd,e⟩:=zjv I st rx ry qx qy h
  have hu:=hr.units
  exact PySem.SeqAt.rcAt_reads ra rb c1 c2 (by omega) X.prog X.w X.xe _ ⟨.bl _,H,I,by rw [e];rfl,q⟩,
 fun ad H S x y v u Q0 Q st rx ry ⟨b,h,q⟩ k=>⟨ad,S,x,y,b,st,rx,ry,h,k _ S _ H ad q Wd.refl st (.bl _)⟩⟩
theorem zeO {k:Nat}(hr:zax k X.A):OC X .NotEq oNe:=⟨zsU X (!·),fun pins s σ H x y v u Q I qx qy ⟨ad,S,dx,dy,b,st,rx,ry,h,q⟩=>by
  obtain⟨px,py,as,bs,ra,rb,c1,c2,hd,e⟩:=zjv I st rx ry qx qy h
  have hu:=hr.units
  exact PySem.SeqAt.rcNeAt_reads ra rb c1 c2 (by omega) X.prog X.w X.xe _ ⟨.bl _,H,I,by rw [e];rfl,q⟩,
 fun ad H S x y v u Q0 Q st rx ry ⟨b,h,q⟩ k=>⟨ad,S,x,y,b,st,rx,ry,h,k _ S _ H ad q Wd.refl st (.bl _)⟩⟩
theorem zjE {K:PySem.W.Frag}{ad:List Addr}{H:Hp}{d:D}{v:V}(r:Rel K ad H d v):decide (v=.non)=zbf d:=by
  cases r<;>rfl
theorem zr7:OpR X (compareOp .Is) (rB0 fun i j=>.bl (i==j)):=fun pins s σ H x y v u Q I rx ry ⟨i,j,ex,ey,q⟩=>by
 subst ex ey
 cases rx
 cases ry
 exact is_bool ⟨.bl _,H,I,rfl,q⟩
theorem zqV:OpR X (compareOp .IsNot) (rB0 fun i j=>.bl (!(i==j))):=fun pins s σ H x y v u Q I rx ry ⟨i,j,ex,ey,q⟩=>by
 subst ex ey
 cases rx
 cases ry
 exact isnot_bool ⟨.bl _,H,I,rfl,q⟩
theorem zmd:OC X .Is oIs:=⟨_,zul.or zr7,fun ad H S x y v u Q0 Q st rx ry h k=>by
 rcases h with ⟨rfl,q⟩ | ⟨a,b,rfl,rfl,q⟩
 ·cases ry
  exact .inl ⟨rfl,by rw [zjE rx];exact k _ S _ H ad q Wd.refl st (.bl _)⟩
 ·cases rx
  cases ry
  exact .inr ⟨a,b,rfl,rfl,k _ S _ H ad q Wd.refl st (.bl _)⟩⟩
theorem zgG:OC X .IsNot zfe:=⟨_,zrZ.or zqV,fun ad H S x y v u Q0 Q st rx ry h k=>by
 rcases h with ⟨rfl,q⟩ | ⟨a,b,rfl,rfl,q⟩
 ·cases ry
  exact .inl ⟨rfl,by rw [zjE rx];exact k _ S _ H ad q Wd.refl st (.bl _)⟩
 ·cases rx
  cases ry
  exact .inr ⟨a,b,rfl,rfl,k _ S _ H ad q Wd.refl st (.bl _)⟩⟩
theorem zfA {op:CmpOp}{r':DR2}(o:OC X op r')(ha:PD X a ta)(hb:PD X b tb)(h:op≠.In:=by decide)(h2:op≠.NotIn:=by decide):PD X (.Compare a [op] [b] pos) (dOp r' ta tb):=by
 with_unfolding_all
  obtain⟨r,ho,od⟩:=o
  exact zaL (zl1 ho ha hb (znP _ h h2)) fun _ _ _=>zg6 od
theorem zP {op:CmpOp}{r':DR2}(o:OC X op r')(ha:PD X a ta)(hb:PD X b tb)(h:op≠.In:=by decide)(h2:op≠.NotIn:=by decide):PTD X (.Compare a [op] [b] pos) (dT (dOp r' ta tb)):=by
 with_unfolding_all
  obtain⟨r,ho,od⟩:=o
  refine zfi (zlP ho ha hb (znP _ h h2)) fun σ H Q hh=>el8 hh fun ad ρ S Q0 st rh q k=>?_
  refine zg6 (Q:=fun x H'=>∃ k,x=.bl k/\Q k H') od ⟨ad,ρ,S,_,st,rh,q,fun d S' v H' ad' ⟨b,e,q'⟩ w st' r=>?_⟩
  subst e
  cases r
  exact⟨b,rfl,k b S' H' ad' q' w st'⟩
theorem zpj {K:PySem.W.Frag}{r1' r2':DR2}{r1 r2:R2}(o1:OD K r1' r1)(o2:OD K r2' r2){σ:L2.St}{H:Hp}{Q:VK}(h:up K (ziK r1' r2' ta tb tc) σ H Q):znk r1 r2 (up K ta) (up K tb) (up K tc) σ H Q:=by
 obtain⟨ad,ρ,S,Q0,st,rh,q,k⟩:=h
 refine⟨ad,ρ,S,_,st,rh,q,fun x S1 v H1 ad1 q1 w1 st1 rx=>?_⟩
 refine⟨ad1,ρ,S1,_,st1,rh.wd w1,q1,fun y S2 u H2 ad2 q2 w2 st2 ry=>?_⟩
 refine o1 ad2 H2 S2 x y v u _ _ st2 (rx.wd w2) ry q2 fun z S3 z' H3 ad3 ⟨c,e,q3⟩ w3 st3 rz=>?_
 subst e
 cases rz
 refine⟨c,rfl,?_⟩
 cases c with
 | true =>
  rw [if_pos rfl] at q3 ⊢
  refine⟨ad3,ρ,S3,_,st3,rh.wd ((w1.trans w2).trans w3),q3,fun z S4 z' H4 ad4 q4 w4 st4 rz=>?_⟩
  exact o2 ad4 H4 S4 y z u z' Q0 Q st4 (ry.wd (w3.trans w4)) rz q4 (k.wd (((w1.trans w2).trans w3).trans w4))
 | false =>
  rw [if_neg Bool.false_ne_true] at q3 ⊢
  exact k _ S3 _ H3 ad3 q3 ((w1.trans w2).trans w3) st3 (.bl _)
theorem zaM {e:Expr}{t:DE}(h:PD X e t)(he:∀ whole,isTrue e X.env whole=(do let v <- whole;standAt e.pos;holding [v] (truthy v)):=by intro _;rfl):PTD X e (dT t):=by with_unfolding_all exact (zfi (zsp h he) fun σ H Q hh=>el8 hh fun ad ρ S Q0 st rh q k =>
 ⟨ad,ρ,S,_,st,rh,q,fun d S' v H' ad' ⟨b,e,q'⟩ w st' r=>by
  subst e
  cases r
  exact⟨b,rfl,k b S' H' ad' q' w st'⟩⟩)
theorem znZ {op op':CmpOp}{r1 r2:DR2}(o1:OC X op r1)(o2:OC X op' r2)(ha:PD X a ta)(hb:PD X b tb)(hc:PD X c tc)(hm:lastMarks [op,op'] [b,c]=false:=by with_unfolding_all rfl):PTD X (.Compare a [op,op'] [b,c] pos) (dT (ziK r1 r2 ta tb tc)):=by
 with_unfolding_all
  obtain⟨s1,h1,d1⟩:=o1
  obtain⟨s2,h2,d2⟩:=o2
  refine zfi (zpu h1 h2 ha hb hc hm) fun σ H Q hh=>el8 hh fun ad ρ S Q0 st rh q k=>?_
  refine zpj (Q:=fun x H'=>∃ k,x=.bl k/\Q k H') d1 d2 ⟨ad,ρ,S,_,st,rh,q,fun d S' v H' ad' ⟨b,e,q'⟩ w st' r=>?_⟩
  subst e
  cases r
  exact⟨b,rfl,k b S' H' ad' q' w st'⟩
variable {tA tB':DT}{rest:List Expr}
theorem zby (h:PTD X a tA):PTD X (.UnaryOp .Not a pos) (zdp tA):=by with_unfolding_all exact (zfi (zrH h) fun σ H Q hh=>el8 hh fun ad ρ S Q0 st rh q k=>⟨ad,ρ,S,_,st,rh,q,fun b S' H' ad' q' w st'=>k _ S' H' ad' q' w st'⟩)
theorem za2 {e:Expr}{t:DT}(h:PWD X e t):PTD X e t:=by with_unfolding_all exact (h _)
theorem zeA (ha:PTD X a tA):PWD X (.BoolOp .And [a] pos) tA:=by with_unfolding_all exact (zqW ha)
theorem zbA (ha:PTD X a tA):PWD X (.BoolOp .Or [a] pos) tA:=by with_unfolding_all exact (zrd ha)
theorem zfm (ha:PTD X a tA)(hb:PWD X (.BoolOp .And (b::rest) pos) tB'):PWD X (.BoolOp .And (a::b::rest) pos) (zhB tA tB'):=by with_unfolding_all exact (zl0 (zrR ha hb) fun σ H Q hh=>el8 hh fun ad ρ S Q0 st rh q k =>
 ⟨ad,ρ,S,_,st,rh,q,fun b S' H' ad' q' w st'=>by
  cases b with
  | true=>rw [if_pos rfl] at q' ⊢;exact⟨ad',ρ,S',Q0,st',rh.wd w,q',fun b S' H' ad' q w'=>k b S' H' ad' q (w.trans w')⟩
  | false=>rw [if_neg Bool.false_ne_true] at q' ⊢;exact k _ S' H' ad' q' w st'⟩)
theorem zbb (ha:PTD X a tA)(hb:PWD X (.BoolOp .Or (b::rest) pos) tB'):PWD X (.BoolOp .Or (a::b::rest) pos) (dOr tA tB'):=by with_unfolding_all exact (zl0 (ztC ha hb) fun σ H Q hh=>el8 hh fun ad ρ S Q0 st rh q k =>
 ⟨ad,ρ,S,_,st,rh,q,fun b S' H' ad' q' w st'=>by
  cases b with
  | false=>rw [if_neg Bool.false_ne_true] at q' ⊢;exact⟨ad',ρ,S',Q0,st',rh.wd w,q',fun b S' H' ad' q w'=>k b S' H' ad' q (w.trans w')⟩
  | true=>rw [if_pos rfl] at q' ⊢;exact k _ S' H' ad' q' w st'⟩)
theorem ziN {op}{t:DE}(h:PD X a t):PD X (.BoolOp op [a] pos) t:=by with_unfolding_all exact (zta h)
theorem zfx (ha:PD X a ta)(hb:PD X (.BoolOp .And (b::rest) pos) tb):PD X (.BoolOp .And (a::b::rest) pos) (zfB ta tb):=by with_unfolding_all exact (zaL (zs3 ha hb) fun σ H Q hh=>el8 hh fun ad ρ S Q0 st rh q k =>
 ⟨ad,ρ,S,_,st,rh,q,fun d S' v H' ad' ⟨c,e,q'⟩ w st' r=>by
  subst e
  cases r
  refine⟨c,rfl,?_⟩
  cases c with
  | true=>rw [if_pos rfl] at q' ⊢;exact⟨ad',ρ,S',Q0,st',rh.wd w,q',k.wd w⟩
  | false=>rw [if_neg Bool.false_ne_true] at q' ⊢;exact k _ S' _ H' ad' q' w st' (.bl _)⟩)
theorem zhc (ha:PD X a ta):PD X (.UnaryOp .Not a pos) (zhj ta):=by with_unfolding_all exact (zaL (zsP ha) fun σ H Q hh=>el8 hh fun ad ρ S Q0 st rh q k =>
 ⟨ad,ρ,S,_,st,rh,q,fun d S' v H' ad' ⟨c,e,q'⟩ w st' r=>by
  subst e
  cases r
  exact⟨c,rfl,k _ S' _ H' ad' q' w st' (.bl _)⟩⟩)
end
section
variable {X:Cx}{a b e:Expr}{es:List Expr}{ta tb te:DE}{t:DA}{pos:Pos}
theorem zq:PAD X [] zA:=by with_unfolding_all exact (zlI zsk fun σ H Q hh=>el8 hh fun ad ρ S Q0 st rh q k=>k [] S [] H ad q Wd.refl st .nil)
theorem zc (ha:PD X e te)(hr:PAD X es t)(hs:starEach (e::es) X.env=(false,eval e X.env)::starEach es X.env:=by exact zbj rfl):PAD X (e::es) (zm te t):=by with_unfolding_all exact (zlI (zqj ha hr hs) fun σ H Q hh=>el8 hh fun ad ρ S Q0 st rh q k =>
 ⟨ad,ρ,S,_,st,rh,q,fun d S1 v H1 ad1 q1 w1 st1 r1=>⟨ad1,ρ,S1,_,st1,rh.wd w1,q1,fun ds S2 vs H2 ad2 q2 w2 st2 r2=>k _ S2 _ H2 ad2 q2 (w1.trans w2) st2 (.cons (r1.wd w2) r2)⟩⟩)
theorem zam {x1}(h:PAD X es t):PD X (.Tuple es x1 pos) (dTup t):=by with_unfolding_all exact (zaL (zrT h) fun σ H Q hh=>el8 hh fun ad ρ S Q0 st rh q k =>
 ⟨ad,ρ,S,_,st,rh,q,fun ds S1 vs H1 ad1 ⟨hz,q1⟩ w1 st1 r1=>⟨by rw [<- r1.length];exact zcQ hz,fun p hp=>zkG st1 (k.wd w1) r1 q1 p hp⟩⟩)
theorem zbI (h:PAD X es t):PD X (.List es pos) (zcM t):=by with_unfolding_all exact (zaL (zsx h) fun σ H Q hh=>el8 hh fun ad ρ S Q0 st rh q k =>
 ⟨ad,ρ,S,_,st,rh,q,fun ds S1 vs H1 ad1 ⟨hz,q1⟩ w1 st1 r1=>⟨by rw [<- r1.length];exact zcQ hz,fun p hp=>zid st1 (k.wd w1) r1 q1 p hp⟩⟩)
theorem zsT {xs:List D}{i:Int}{d:D}(h:atD xs i=some d){K:PySem.W.Frag}{ad:List Addr}{H:Hp}{vs:List V}(r:zE K ad H xs vs):∃ v,atI vs i=some v/\Rel K ad H d v:=by
 have e:ixN vs.length i=ixD xs.length i:=by rw [r.length];rfl
 unfold atD at h
 unfold atI
 rw [e]
 cases q:ixD xs.length i with
 | none=>rw [q] at h;cases h
 | some j =>
  rw [q] at h
  exact r.get h
theorem zG (ha:PD X a ta)(hb:PD X b tb)(hs:zl4 b:=by intro _ _;rfl):PD X (.Subscript a b pos) (dOp oIx ta tb):=by with_unfolding_all exact (zaL (ztx (zqT.or (zs7.or zs6)) ha hb hs) fun _ _ _=>zg6 fun ad H S x y v u Q0 Q st rx ry h k=>by
 rcases h with ⟨i,xs,d,ey,hx,e,q⟩ | ⟨z,i,c,rfl,rfl,hz,e,q⟩
 case inr =>
  cases rx
  cases ry
  exact .inr (.inr ⟨z,i,c,rfl,rfl,zcQ hz,e,k _ S _ H ad q Wd.refl st (.str _)⟩)
 subst ey
 cases ry
 obtain⟨p,vs,rfl,hs,r⟩:=hx.sq st rx
 obtain⟨z,ez,rz⟩:=zsT e r
 rcases hs with hs | hs
 ·exact .inl ⟨p,vs,i,z,rfl,rfl,hs,ez,k _ S _ H ad q Wd.refl st rz⟩
 ·exact .inr (.inl ⟨p,vs,i,z,rfl,rfl,hs,ez,k _ S _ H ad q Wd.refl st rz⟩))
def upO (K:PySem.W.Frag)(t:Option DE):TO:=fun σ H Q=>∃ ad ρ S Q0,zK K ad H S/\zav K ad H ρ σ/\zhN t ρ S Q0/\∀ o S' H' ad',Q0 o S'->Wd ad H ad' H'->zK K ad' H' S'->Q o H'
theorem zeq:PO X none (upO X.K none):=fun pins s σ H Q I hh=>el8 hh fun ad ρ S Q0 st rh q k=>zqD pins s σ H Q I (k none S H ad q Wd.refl st)
theorem zek {t:DE}(h:PD X e t):PO X (some e) (upO X.K (some t)):=by with_unfolding_all exact (fun pins s σ H Q I hh=>el8 hh fun ad ρ S Q0 st rh q k=>zqc h pins s σ H Q I ⟨ad,ρ,S,_,st,rh,q,fun d S' v H' ad' ⟨i,e,q'⟩ w st' r=>by
 subst e
 cases r
 exact⟨i,rfl,k _ S' H' ad' q' w st'⟩⟩)
theorem zlQ {K:PySem.W.Frag}{ad:List Addr}{H:Hp}{xs:List D}{vs:List V}(lo hi:Option Int)(r:zE K ad H xs vs):zE K ad H (cutD xs lo hi) (zf3 vs lo hi):=by
  have e1:HT.sIx vs.length 0 lo=slD xs.length 0 lo:=by
    rw [r.length];cases lo with
    | none=>rfl
    | some k=>show HT.sIx _ _ (some k)=_;unfold HT.sIx slD;first | rfl | (simp only [];split<;>omega)
  have e2:HT.sIx vs.length vs.length hi=slD xs.length xs.length hi:=by
    rw [r.length];cases hi with
    | none=>rfl
    | some k=>show HT.sIx _ _ (some k)=_;unfold HT.sIx slD;first | rfl | (simp only [];split<;>omega)
  unfold cutD zf3
  rw [e1,e2]
  exact (r.drop _).take _
def ztO (K:PySem.W.Frag):V->Option Int->Option Int->Hp->VK->Prop:=fun x lo hi H Q=>∃ a xs,x=.ref a/\SqT K H a xs /\
 ((HT.sIx xs.length 0 lo=0/\HT.sIx xs.length xs.length hi=xs.length)->Q (.ref a) H)/\(¬ (HT.sIx xs.length 0 lo=0/\HT.sIx xs.length xs.length hi=xs.length)->∀ p,H p=none->Q (.ref p) (upd H p (.tup (zf3 xs lo hi))))
theorem zjW {prog:Program}{w:World}{A:Around}{E:Value->Shared->Prop}{s:Shared}{t sl:Addr}{items:Array Value}{vl vu:Value}{lo hi:Option Int}{Q:Value->Shared->Prop}(ht:IsTup s.heap t items)(hs:s.heap.IsSliceOf sl vl vu .none)(pl:IsPart vl lo)(pu:IsPart vu hi)
  (hw:HT.sIx items.size 0 lo=0/\HT.sIx items.size items.size hi=items.size) (h:Q (.ref t) s):wpAny (model prog w) A (getItem (.ref t) (.ref sl)) Q E s:=by
 obtain⟨os,hos,hcs,hds⟩:=id hs
 have hTs:s.TypeIs (.ref sl) "slice":=⟨os,hos,hcs⟩
 unfold getItem
 try with_reducible refine wpAny_holding ?_
 first | refine wpAny_bind (wpAny_pure ?_) | skip
 refine wpAny_bind (wpAny_sequenceKey ht.typeIs (by decide) ?_)
 refine wpAny_bind (wpAny_callSpecial?_slot (name:=Str.ofString "__getitem__") ht.typeIs PyProof.Rows.slot_tuple_getitem
  (wpAny_call_entry PyProof.Rows.slot_tuple_getitem ht.typeIs PyProof.Rows.entry_tuple_getitem ?_ (PyProof.Rows.args_tuple_getitem _ _)))
 show wpAny _ _ (Builtin.Tuple.tupleItemsOf (.ref t) >>= _) _ _ s
 refine wpAny_bind (tupleItemsOf_ ht ?_)
 refine wpAny_bind (wpAny_typeOf hTs ?_)
 rw [if_pos (by decide)]
 refine wpAny_bind (HT.zeC hs pl pu ?_)
 show wpAny _ _ (if (((HT.sIx items.size 0 lo:Nat):Int)==0&&(1:Int)==1&&(HT.sIx items.size items.size hi-HT.sIx items.size 0 lo)==items.size)=true then _ else _) _ _ s
 rw [if_pos (by rw [hw.1,hw.2];simp)]
 unfold Builtin.Tuple.tupleIsExact
 refine wpAny_bind (wpAny_bind (wpAny_typeOf ht.typeIs (wpAny_pure ?_)))
 rw [if_pos (by decide)]
 refine wpAny_bind (wpAny_rule ?_)
 first
  | exact wpAny_pure ⟨_,rfl,wpAny_pure h⟩
  | exact wpAny_bind (wpAny_pure ⟨_,rfl,wpAny_pure h⟩)
  | exact wpAny_bind (wpAny_pure (wpAny_pure ⟨_,rfl,wpAny_pure h⟩))
  | trace_state
theorem zq5:SlR X (ztO X.K):=by
 intro pins s σ H x v vl vu lo hi sl Q I rx hs pl pu h
 obtain⟨a,xs,rfl,hx,q1,q2⟩:=h
 by_cases hw:HT.sIx xs.length 0 lo=0/\HT.sIx xs.length xs.length hi=xs.length
 ·cases rx
  obtain⟨its,r,ht,hz⟩:=I.tuple hx
  have hlen:its.toArray.size=xs.length:=by rw [List.size_toArray];exact r.length.symm
  refine⟨"tuple",_,PyProof.Rows.slot_tuple_getitem.lookup,ht.typeIs,?_⟩
  exact zjW ht hs pl pu (by rw [hlen];exact hw) ⟨.ref a,H,I,rfl,q1 hw⟩
 ·exact zrv pins s σ H (.ref a) v vl vu lo hi sl Q I rx hs pl pu ⟨a,xs,rfl,hx,hw,q2 hw⟩
theorem znz {α:Type}(xs:List α)(lo hi:Option Int)(h1:slD xs.length 0 lo=0)(h2:slD xs.length xs.length hi=xs.length):cutD xs lo hi=xs:=by
 unfold cutD;rw [h1,h2];simp
theorem zi8 (n d:Nat)(o:Option Int):HT.sIx n d o=slD n d o:=by
 cases o with
 | none=>rfl
 | some k=>rfl
theorem zgZ {lo hi:Option Expr}{tl th:Option DE}{p2:Pos}(ha:PD X a ta)(hl:PO X lo (upO X.K tl))(hh:PO X hi (upO X.K th)):PD X (.Subscript a (.Slice lo hi none p2) pos) (dSl zgS ta tl th):=by with_unfolding_all exact (zaL (zoK (zp9.or (zq5.or zss)) ha hl hh) fun σ H Q hh=>el8 hh fun ad ρ S Q0 st rh q k =>
 ⟨ad,ρ,S,_,st,rh,q,fun x S1 v H1 ad1 q1 w1 st1 r1=>⟨ad1,ρ,S1,_,st1,rh.wd w1,q1,fun l S2 H2 ad2 q2 w2 st2=>⟨ad2,ρ,S2,_,st2,rh.wd (w1.trans w2),q2,fun h S3 H3 ad3 q3 w3 st3=>by
  have r3:=r1.wd (w2.trans w3)
  have k3:=k.wd ((w1.trans w2).trans w3)
  rcases q3 with ⟨xs,rfl,q3⟩ | ⟨xs,hx,q3⟩ | ⟨z,rfl,hz,q3⟩
  ·cases r3 with
   | tup h1 r =>
    refine .inr (.inl ⟨_,_,rfl,SqT.of h1,fun⟨z1,z2⟩=>?_,fun _ p hp=>zkG st3 k3 (zlQ _ _ r) q3 p hp⟩)
    rw [zi8,<- r.length] at z1 z2
    rw [znz xs _ _ z1 z2] at q3
    exact k3 _ S3 _ H3 ad3 q3 Wd.refl st3 (.tup h1 r)
  ·obtain⟨p,vs,rfl,hs,r⟩:=hx.sq st3 r3
   exact .inl ⟨p,vs,rfl,hs,fun l hl=>zid st3 k3 (zlQ _ _ r) q3 l hl⟩
  ·cases r3
   refine .inr (.inr ⟨z,rfl,zcQ hz,?_⟩)
   have e:(⟨((z.cps.toList.drop (HT.sIx z.length 0 l)).take (HT.sIx z.length z.length h-HT.sIx z.length 0 l)).toArray⟩:Str)=zoD z l h:=by
    unfold zoD cutD
    rw [zi8,zi8,show z.length=z.cps.toList.length from Array.length_toList.symm]
   rw [e]
   exact k3 _ S3 _ H3 ad3 q3 Wd.refl st3 (.str _)⟩⟩⟩)
end
end Dp
namespace Dp
open PySem PySem.Spec PyProof.Rows L2 My
variable [B:Bs]
section
variable {X:Cx}{a e:Expr}{es:List Expr}{ta te:DE}{t:DA}{pos p:Pos}
theorem zO {k j:Nat}{x:Str}{ps:List Str}{f:DSp}(G:Got X.prog X.w X.K X.mg X.base k x ps (upF X.K f))(hr:zax j X.A)
  (ha:PAD X (e::es) t) (hk:k<=j:=by decide) (hg:Gl X x:=by rfl) (hdb:(x==("__debug__":Str))=false:=by decide) (he:starEach (e::es) X.env=(false,eval e X.env)::starEach es X.env:=by exact zbj rfl) (hpl:(backTo pos (starEach es X.env)).any (·.1)=false:=by exact zc8 rfl) :
  PD X (.Call (.Name x p) (e::es) [] pos) (dCall f t):=by with_unfolding_all exact (zaL (zsH G hr hk hg ha hdb he hpl) fun σ H Q hh=>el8 hh fun ad ρ S Q0 st rh q k =>
 ⟨ad,ρ,S,_,st,rh,q,fun ds S1 vs H1 ad1 q1 w1 st1 r1=>by
  show upF X.K f (vs++[]) H1 Q E0
  rw [List.append_nil];exact⟨ad1,S1,ds,Q0,st1.base,r1,q1,(k.wd w1).base st1⟩⟩)
def BD (K:PySem.W.Frag)(r':DB)(r:List V->Hp->VK->Prop):Prop:=∀ ad H S ds vs Q0 Q,zK K ad H S->zE K ad H ds vs->r' ds S Q0->KK K ad H Q0 Q->r vs H Q
def BC (X:Cx)(f:Value)(r':DB):Prop:=∃ r,zaT X f r/\BD X.K r' r
theorem zae {x:Str}{id:String}{r':DB}(o:BC X (.builtin id) r')(hm:X.mg x=none)(hv:bootBuiltins x=some (.builtin id))(ha:PAD X (e::es) t)(hg:Gl X x:=by rfl)(hn:x≠"__name__":=by decide)(hdb:(x==("__debug__":Str))=false:=by decide)
  (he:starEach (e::es) X.env=(false,eval e X.env)::starEach es X.env:=by exact zbj rfl) (hpl:(backTo pos (starEach es X.env)).any (·.1)=false:=by exact zc8 rfl):PD X (.Call (.Name x p) (e::es) [] pos) (dB r' t):=by
 with_unfolding_all
  obtain⟨r,ho,od⟩:=o
  exact zaL (zoY ho hg hm hv ha hn hdb he hpl) fun σ H Q hh=>el8 hh fun ad ρ S Q0 st rh q k =>
   ⟨ad,ρ,S,_,st,rh,q,fun ds S1 vs H1 ad1 q1 w1 st1 r1=>od ad1 H1 S1 ds vs Q0 Q st1 r1 q1 (k.wd w1)⟩
theorem zin {x:Str}{T:String}{r':DB}(o:BC X (.type T) r')(hm:X.mg x=none)(hv:bootBuiltins x=some (.type T))(ha:PAD X (e::es) t)(hg:Gl X x:=by rfl)(hn:x≠"__name__":=by decide)(hdb:(x==("__debug__":Str))=false:=by decide)
  (he:starEach (e::es) X.env=(false,eval e X.env)::starEach es X.env:=by exact zbj rfl) (hpl:(backTo pos (starEach es X.env)).any (·.1)=false:=by exact zc8 rfl):PD X (.Call (.Name x p) (e::es) [] pos) (dB r' t):=by
 with_unfolding_all
  obtain⟨r,ho,od⟩:=o
  exact zaL (zoj ho hg hm hv ha hn hdb he hpl) fun σ H Q hh=>el8 hh fun ad ρ S Q0 st rh q k =>
   ⟨ad,ρ,S,_,st,rh,q,fun ds S1 vs H1 ad1 q1 w1 st1 r1=>od ad1 H1 S1 ds vs Q0 Q st1 r1 q1 (k.wd w1)⟩
theorem zcO {K:PySem.W.Frag}{ad:List Addr}{H:Hp}{d:D}{vs:List V}(r:zE K ad H [d] vs):∃ v,vs=[v]/\Rel K ad H d v:=by
 cases r with
 | cons r t=>cases t;exact⟨_,rfl,r⟩
theorem zhC {K:PySem.W.Frag}{ad:List Addr}{H:Hp}{d e:D}{vs:List V}(r:zE K ad H [d,e] vs):∃ v u,vs=[v,u]/\Rel K ad H d v/\Rel K ad H e u:=by
 cases r with
 | cons r t =>
  obtain⟨u,rfl,r2⟩:=zcO t
  exact⟨_,_,rfl,r,r2⟩
theorem zaw:BC X (.builtin "len") za0:=⟨_,zn1.or zj8,fun ad H S ds vs Q0 Q st r h k=>by
 rcases h with ⟨x,xs,e,hx,q⟩ | ⟨z,e,hz,q⟩
 case inr =>
  subst e
  obtain⟨v,rfl,rv⟩:=zcO r
  cases rv
  exact .inr ⟨z,rfl,zcQ hz,k _ S _ H ad q Wd.refl st (.int _)⟩
 subst e
 obtain⟨v,rfl,rv⟩:=zcO r
 obtain⟨a,ws,rfl,hs,rs⟩:=hx.sq st rv
 exact .inl ⟨a,ws,rfl,hs,k _ S _ H ad (by rw [rs.length] at q;exact q) Wd.refl st (.int _)⟩⟩
theorem zrr:BC X (.builtin "abs") zpn:=⟨_,znS,fun ad H S ds vs Q0 Q st r ⟨i,e,q⟩ k=>by
 subst e
 obtain⟨v,rfl,rv⟩:=zcO r
 cases rv
 exact⟨i,rfl,k _ S _ H ad q Wd.refl st (.int _)⟩⟩
theorem zrK (i j:Int):(if j > i then j else i)=max i j:=by
  rw [Int.max_def];split<;>split<;>omega
theorem zrQ (i j:Int):(if j<i then j else i)=min i j:=by
  rw [Int.min_def];split<;>split<;>omega
theorem ziQ (hc:X.calm=true:=by rfl):BC X (.builtin "max") zio:=⟨_,znt hc,fun ad H S ds vs Q0 Q st r ⟨i,j,e,q⟩ k=>by
 subst e
 obtain⟨v,u,rfl,rv,ru⟩:=zhC r
 cases rv
 cases ru
 exact⟨i,j,rfl,by rw [zrK];exact k _ S _ H ad q Wd.refl st (.int _)⟩⟩
theorem zg8 (hc:X.calm=true:=by rfl):BC X (.builtin "min") zhf:=⟨_,znX hc,fun ad H S ds vs Q0 Q st r ⟨i,j,e,q⟩ k=>by
 subst e
 obtain⟨v,u,rfl,rv,ru⟩:=zhC r
 cases rv
 cases ru
 exact⟨i,j,rfl,by rw [zrQ];exact k _ S _ H ad q Wd.refl st (.int _)⟩⟩
theorem zq9 (hc:X.calm=true:=by rfl):BC X (.builtin "max") zmL:=⟨_,zol rfl hc,fun ad H S ds vs Q0 Q st r ⟨x,ns,e,hx,h0,q⟩ k=>by
 subst e
 obtain⟨v,rfl,rv⟩:=zcO r
 obtain⟨a,ws,rfl,hs,rs⟩:=hx.sq st rv
 cases rs.ints
 exact⟨a,ns,rfl,hs,h0,fun m h1 h2=>k _ S _ H ad (q m h1 h2) Wd.refl st (.int _)⟩⟩
theorem zlX (hc:X.calm=true:=by rfl):BC X (.builtin "min") zj1:=⟨_,znl rfl hc,fun ad H S ds vs Q0 Q st r ⟨x,ns,e,hx,h0,q⟩ k=>by
 subst e
 obtain⟨v,rfl,rv⟩:=zcO r
 obtain⟨a,ws,rfl,hs,rs⟩:=hx.sq st rv
 cases rs.ints
 exact⟨a,ns,rfl,hs,h0,fun m h1 h2=>k _ S _ H ad (q m h1 h2) Wd.refl st (.int _)⟩⟩
theorem zdY (hc:X.calm=true:=by rfl):BC X (.builtin "all") zet:=⟨_,zn7 rfl hc,fun ad H S ds vs Q0 Q st r ⟨x,ns,e,hx,q⟩ k=>by
 subst e
 obtain⟨v,rfl,rv⟩:=zcO r
 obtain⟨a,ws,rfl,hs,rs⟩:=hx.sq st rv
 cases rs.bls
 exact⟨a,ns,rfl,hs,k _ S _ H ad q Wd.refl st (.bl _)⟩⟩
theorem zfy:BC X (.type "list") zga:=⟨_,zmt,fun ad H S ds vs Q0 Q st r ⟨x,xs,e,hx,q⟩ k=>by
 subst e
 obtain⟨v,rfl,rv⟩:=zcO r
 obtain⟨a,ws,rfl,hs,rs⟩:=hx.sq st rv
 exact⟨a,ws,rfl,hs,fun l hl=>zid st k rs q l hl⟩⟩
section
variable {K:PySem.W.Frag}
theorem zqo (t:String)(h:ziW t=true):PySem.W.kitOne K (.type "NoneType") (.type t)=some false/\PySem.W.kitOne K (.type "bool") (.type t)=some (t=="bool"||t=="int")/\PySem.W.kitOne K (.type "int") (.type t)=some (t=="int") /\
  PySem.W.kitOne K (.type "str") (.type t)=some (t=="str")/\PySem.W.kitOne K (.type "tuple") (.type t)=some (t=="tuple")/\PySem.W.kitOne K (.type "list") (.type t)=some (t=="list"):=by
 unfold ziW at h
 simp only [Bool.or_eq_true,beq_iff_eq] at h
 rcases h with (((rfl | rfl) | rfl) | rfl) | rfl
 ·exact⟨by kernel_rfl,by kernel_rfl,by kernel_rfl,by kernel_rfl,by kernel_rfl,by kernel_rfl⟩
 ·exact⟨by kernel_rfl,by kernel_rfl,by kernel_rfl,by kernel_rfl,by kernel_rfl,by kernel_rfl⟩
 ·exact⟨by kernel_rfl,by kernel_rfl,by kernel_rfl,by kernel_rfl,by kernel_rfl,by kernel_rfl⟩
 ·exact⟨by kernel_rfl,by kernel_rfl,by kernel_rfl,by kernel_rfl,by kernel_rfl,by kernel_rfl⟩
 ·exact⟨by kernel_rfl,by kernel_rfl,by kernel_rfl,by kernel_rfl,by kernel_rfl,by kernel_rfl⟩
end
theorem zfv:BC X (.builtin "isinstance") zdM:=⟨_,zo1,fun ad H S ds vs Q0 Q st r ⟨x,t,b,e,h,q⟩ k=>by
 subst e
 obtain⟨v,u,rfl,rv,ru⟩:=zhC r
 cases ru
 have fin:=k _ S _ H ad q Wd.refl st (.bl b)
 unfold zoS at h
 split at h
 ·cases h
 rename_i hty
 have hty':ziW t=true:=by
  cases hh:ziW t
  ·exact absurd (by show (!ziW t)=true;rw [hh];rfl) hty
  ·rfl
 obtain⟨k1,k2,k3,k4,k5,k6⟩:=zqo (K:=X.K) t hty'
 cases rv with
 | non=>cases h;exact⟨_,_,_,_,rfl,.non,k1,fin⟩
 | bl c=>cases h;exact⟨_,_,_,_,rfl,.bl c,k2,fin⟩
 | int i=>cases h;exact⟨_,_,_,_,rfl,.int i,k3,fin⟩
 | str y=>cases h;exact⟨_,_,_,_,rfl,.str y,k4,fin⟩
 | ty n=>cases h
 | exn _ _ _=>cases h
 | tup ht rt=>cases h;exact⟨_,_,_,_,rfl,.tup ht,k5,fin⟩
 | rl hl rl=>cases h
 | @ref n a hn =>
  have h:(match S[n]? with | some (.lst _)=>some (t=="list") | _=>none)=some b:=h
  cases hS:S[n]? with
  | none=>rw [hS] at h;cases h
  | some c =>
   rw [hS] at h
   cases c with
   | ins c fs=>cases h
   | dk _=>cases h
   | dt _=>cases h
   | lst xs =>
    cases h
    obtain⟨vs,hv,_⟩:=st.cell n a _ hn hS
    exact⟨_,_,_,_,rfl,.lst hv,k6,fin⟩⟩
def MD (X:Cx)(id:String)(r':DM):Prop:=∃ r,MtR X id r/\∀ ad H S x ds v vs Q0 Q,zK X.K ad H S->Rel X.K ad H x v->zE X.K ad H ds vs->r' x ds S Q0->KK X.K ad H Q0 Q->r v vs H Q
theorem znp {K:PySem.W.Frag}{ad:List Addr}{H:Hp}{S:Sto}{x:D}{v:V}(st:zK K ad H S)(h:∃ n ys,x=.ref n/\S[n]?=some (.lst ys))(r:Rel K ad H x v):tyV K "list" v H:=by
 obtain⟨n,ys,rfl,h⟩:=h
 cases r with
 | ref e =>
  obtain⟨vs,hv,_⟩:=st.cell n _ _ e h
  exact .inl ⟨rfl,vs,SqL.of hv⟩
theorem zfG {o:Expr}{to:DE}{name:Str}{id:String}{apos cpos:Pos}{r':DM}(slot:Slot "list" name id)(hty:typeOf (.builtin id)=pure (.type "method_descriptor"))(hm:MD X id r')(ho:PD X o to)(ha:PAD X (e::es) t)
  (hbase:attributeBase o name X.env (eval o X.env)=eval o X.env:=by rfl)
  (hfew:((backTo cpos (starEach (e::es) X.env)).all (fun x=>!x.1)&&(backToKw cpos (keywordEach [] X.env)).all (fun x=>x.1.isSome)
  &&decide ((e::es).length+([]:List Keyword).length+(if ([]:List Keyword).isEmpty then 0 else 1)<30))=true:=by rfl)
  (hline:(apos.endLine==cpos.line)=true:=by rfl) (hs:starEach (e::es) X.env=(false,eval e X.env)::starEach es X.env:=by exact zbj rfl) (hplain:(backTo cpos (starEach es X.env)).any (·.1)=false:=by exact zc8 rfl) :
  PD X (.Call (.Attribute o name apos) (e::es) [] cpos) (dM r' to t):=by
 with_unfolding_all
  obtain⟨r,hr,od⟩:=hm
  exact zaL (zt1 PySem.F.plainAttrs_list slot hty hr ho ha hbase hfew hline hs hplain) fun σ H Q hh=>el8 hh fun ad ρ S Q0 st rh q k =>
   ⟨ad,ρ,S,_,st,rh,q,fun x S1 v H1 ad1 ⟨hl,q1⟩ w1 st1 r1=>⟨znp st1 hl r1,ad1,ρ,S1,_,st1,rh.wd w1,q1,fun ds S2 vs H2 ad2 q2 w2 st2 r2 =>
    od ad2 H2 S2 x ds v vs Q0 Q st2 (r1.wd w2) r2 q2 (k.wd (w1.trans w2))⟩⟩
theorem ztk {o:Expr}{to:DE}{name:Str}{id:String}{apos cpos:Pos}{r':DM}(slot:Slot "list" name id)(hty:typeOf (.builtin id)=pure (.type "method_descriptor"))(hm:MD X id r')(ho:PD X o to)
  (hbase:attributeBase o name X.env (eval o X.env)=eval o X.env:=by rfl) (hline:(apos.endLine==cpos.line)=true:=by rfl):PD X (.Call (.Attribute o name apos) [] [] cpos) (dM r' to zA):=by
 with_unfolding_all
  obtain⟨r,hr,od⟩:=hm
  exact zaL (zsV PySem.F.plainAttrs_list slot hty hr ho hbase hline) fun σ H Q hh=>el8 hh fun ad ρ S Q0 st rh q k =>
   ⟨ad,ρ,S,_,st,rh,q,fun x S1 v H1 ad1 ⟨hl,q1⟩ w1 st1 r1=>⟨znp st1 hl r1,od ad1 H1 S1 x [] v [] Q0 Q st1 r1 .nil q1 (k.wd w1)⟩⟩
theorem zd0:MD X "list.append" zdB:=⟨_,zjF,fun ad H S x ds v vs Q0 Q st rx r ⟨n,xs,y,ex,ey,hn,hl,q⟩ k=>by
 subst ex ey
 obtain⟨u,rfl,ru⟩:=zcO r
 cases rx with
 | ref e =>
  obtain⟨ws,hw,rw⟩:=st.cell n _ _ e hn
  exact⟨_,ws,u,rfl,rfl,hw,by rw [<- rw.length];exact zgQ hl,k _ _ _ _ ad q (Wd.put e hw) (st.put e hw (rw.append (.cons ru .nil))) .non⟩⟩
theorem zmS:MD X "list.extend" zhV:=⟨_,zmZ,fun ad H S x ds v vs Q0 Q st rx r h k=>by
 rcases h with ⟨n,xs,m,ys,ex,ey,hn,hm,hne,hl,q⟩ | ⟨n,xs,ys,ex,ey,hn,hl,q⟩
 ·subst ex ey
  obtain⟨u,rfl,ru⟩:=zcO r
  cases rx with
  | ref e =>
   cases ru with
   | ref e2 =>
    obtain⟨ws,hw,rw⟩:=st.cell n _ _ e hn
    obtain⟨ws2,hw2,rw2⟩:=st.cell m _ _ e2 hm
    exact .inl ⟨_,_,ws,ws2,rfl,rfl,hw,hw2,by rw [<- rw.length,<- rw2.length];exact zcQ hl,k _ _ _ _ ad q (Wd.put e hw) (st.put e hw (rw.append rw2)) .non⟩
 ·subst ex ey
  obtain⟨u,rfl,ru⟩:=zcO r
  cases rx with
  | ref e =>
   cases ru with
   | tup h2 rw2 =>
    obtain⟨ws,hw,rw⟩:=st.cell n _ _ e hn
    exact .inr ⟨_,_,ws,_,rfl,rfl,hw,SqT.of h2,by rw [<- rw.length,<- rw2.length];exact zcQ hl,k _ _ _ _ ad q (Wd.put e hw) (st.put e hw (rw.append rw2)) .non⟩⟩
theorem zjC:MD X "list.insert" zgX:=⟨_,znu,fun ad H S x ds v vs Q0 Q st rx r ⟨n,xs,k,y,ex,ey,hn,h0,h1,hl,q⟩ kk=>by
 subst ex ey
 obtain⟨u,w,rfl,ru,rw'⟩:=zhC r
 cases ru
 cases rx with
 | ref e =>
  obtain⟨ws,hw,rw⟩:=st.cell n _ _ e hn
  exact⟨_,ws,k,w,rfl,rfl,hw,h0,h1,by rw [<- rw.length];exact zgQ hl,kk _ _ _ _ ad q (Wd.put e hw) (st.put e hw ((rw.take k.toNat).append (.cons rw' (rw.drop k.toNat)))) .non⟩⟩
theorem zmx:MD X "list.reverse" zhR:=⟨_,zmO,fun ad H S x ds v vs Q0 Q st rx r ⟨n,xs,ex,ey,hn,q⟩ k=>by
 subst ex ey
 cases r
 cases rx with
 | ref e =>
  obtain⟨ws,hw,rw⟩:=st.cell n _ _ e hn
  exact⟨_,ws,rfl,rfl,hw,k _ _ _ _ ad q (Wd.put e hw) (st.put e hw rw.reverse) .non⟩⟩
end
end Dp
namespace Dp
open PySem PySem.Spec PyProof.Rows L2 My
variable [B:Bs]
def zhA (K:PySem.W.Frag)(b:Nat)(g':DG)(g:TG):Prop:=∀ ad H S ρ σ d v Q0 Q,zK K ad H S->zav K ad H ρ σ->Rel K ad H d v->g' d ρ S Q0 ->
 (∀ ρ' S' σ' H' ad',Q0 ρ' S'->Wd ad H ad' H'->zK K ad' H' S'->zav K ad' H' ρ' σ'->σ'.length=σ.length->(∀ j,b<=j->σ'[j]?=σ[j]?)->Q σ' H')->g v σ H Q
def zij (K:PySem.W.Frag)(b:Nat)(g':DGs)(g:TGs):Prop:=∀ ad H S ρ σ ds vs Q0 Q,zK K ad H S->zav K ad H ρ σ->zE K ad H ds vs->g' ds ρ S Q0 ->
 (∀ ρ' S' σ' H' ad',Q0 ρ' S'->Wd ad H ad' H'->zK K ad' H' S'->zav K ad' H' ρ' σ'->σ'.length=σ.length->(∀ j,b<=j->σ'[j]?=σ[j]?)->Q σ' H')->g vs σ H Q
def PGD (X:Cx)(b:Nat)(tg:Expr)(g':DG):Prop:=∃ g,PG X tg g/\zhA X.K b g' g
def zma (X:Cx)(b:Nat)(tgs:List Expr)(g':DGs):Prop:=∃ g,PGs X tgs g/\zij X.K b g' g
theorem zav.set {K:PySem.W.Frag}{ad:List Addr}{H:Hp}{ρ:Rho}{σ:L2.St}{d:D}{v:V}(h:zav K ad H ρ σ)(r:Rel K ad H d v)(i:Nat):zav K ad H (ρ.set i (some d)) (σ.set i (some v)) where
 len:=by rw [List.length_set,List.length_set];exact h.len
 val:=fun j e q=>by
  by_cases hj:j=i
  ·subst hj
   have hl:j<ρ.length:=by have:=My.zaE q;rw [List.length_set] at this;exact this
   rw [List.getElem?_set_self hl] at q
   cases q
   exact⟨v,List.getElem?_set_self (by rw [<- h.len];exact hl),r⟩
  ·rw [List.getElem?_set_ne (Ne.symm hj)] at q
   obtain⟨u,e1,r1⟩:=h.val j e q
   exact⟨u,by rw [List.getElem?_set_ne (Ne.symm hj)];exact e1,r1⟩
section
variable {X:Cx}{pos:Pos}{b:Nat}
theorem zX {K:PySem.W.Frag}(i:Nat)(hb:i<b):zhA K b (zB i) (L2.zB i):=fun ad H S ρ σ d v Q0 Q st rh r q k =>
 k _ S _ H ad q Wd.refl st (rh.set r i) (List.length_set ..) fun j hj=>List.getElem?_set_ne (by omega)
theorem zab {i:Nat}{x:Str}(hN:X.N.Nodup)(hi:X.N[i]?=some x:=by rfl)(hx:Loc X.env.scope x:=by first | exact Or.inl rfl | exact Or.inr rfl)(hf:X.fn x=true\/X.env.scope.names.lookup x=some .local:=by first | exact .inl rfl | exact .inr rfl | assumption)(hb:i<b:=by decide):PGD X b (.Name x pos) (zB i) :=
 ⟨_,zaf hN hi hx hf,zX i hb⟩
theorem zdG:zma X b [] zcc:=⟨_,zem,fun ad H S ρ σ ds vs Q0 Q st rh r ⟨e,q⟩ k=>by
 subst e
 cases r
 exact⟨rfl,k ρ S σ H ad q Wd.refl st rh rfl fun _ _=>rfl⟩⟩
theorem zar {e:Expr}{es:List Expr}{t:DG}{u:DGs}(h1:PGD X b e t)(h2:zma X b es u)(hs:(assignEach (e::es) X.env).map (·.2)=assign e X.env::(assignEach es X.env).map (·.2):=by rfl):zma X b (e::es) (zag t u):=by
 obtain⟨g1,p1,r1⟩:=h1
 obtain⟨g2,p2,r2⟩:=h2
 refine⟨_,za8 p1 p2 hs,fun ad H S ρ σ ds vs Q0 Q st rh r ⟨d,rs,ed,q⟩ k=>?_⟩
 subst ed
 cases r with
 | cons r t =>
  refine⟨_,_,rfl,r1 ad H S ρ σ d _ _ _ st rh r q fun ρ1 S1 σ1 H1 ad1 q1 w1 st1 rh1 l1 a1=>?_⟩
  exact r2 ad1 H1 S1 ρ1 σ1 _ _ _ _ st1 rh1 (t.wd w1) q1 fun ρ2 S2 σ2 H2 ad2 q2 w2 st2 rh2 l2 a2=>k ρ2 S2 σ2 H2 ad2 q2 (w1.trans w2) st2 rh2 (l2.trans l1) fun j hj=>(a2 j hj).trans (a1 j hj)
theorem zdE {es:List Expr}{k n:Nat}{t:DGs}(hc:X.calm=true)(h:zma X b es t)(hn:(assignEach es X.env).length=n:=by rfl)(hst:(assignEach es X.env).findIdx? (·.1)=none:=by rfl):PGD X b (.Tuple es k pos) (zcf n t):=by
 obtain⟨g,p,r⟩:=h
 refine⟨_,zfh hc p hn hst,fun ad H S ρ σ d v Q0 Q st rh rv ⟨xs,ed,hl,q⟩ k=>?_⟩
 subst ed
 cases rv with
 | tup h1 rs=>exact⟨_,_,rfl,SqT.of h1,by rw [<- rs.length];exact hl,r ad H S ρ σ xs _ _ _ st rh rs q k⟩
theorem zl2 {o i:Expr}{to ti:DE}(ho:PD X o to)(hi:PD X i ti)
  (ha:∀ v,assign (.Subscript o i pos) X.env v=(do
   let ov <- holding [v] (eval o X.env)
   let iv <- holding [v,ov] (eval i X.env)
   standAt pos
   holding [v,ov,iv] (setItem ov iv v)
   release [v,ov,iv] []):=by intro _;rfl):PGD X b (.Subscript o i pos) (ziT to ti):=by with_unfolding_all exact (⟨_,zsL ho hi set_list ha,fun ad H S ρ σ d v Q0 Q st rh r q k=>⟨ad,ρ,S,_,st,rh,q,fun x S1 u H1 ad1 q1 w1 st1 r1=>⟨ad1,ρ,S1,_,st1,rh.wd w1,q1,fun y S2 z H2 ad2 q2 w2 st2 r2=>by
  obtain⟨n,xs,kk,j,ex,ey,hn,hj,q3⟩:=q2
  subst ex ey
  cases r2
  cases r1 with
  | ref e =>
   have e2:=zi3 w2.pre e
   obtain⟨ws,hw,rw⟩:=st2.cell n _ _ e2 hn
   have rd:=r.wd (w1.trans w2)
   exact⟨_,ws,kk,j,rfl,rfl,hw,by rw [<- rw.length];exact hj,k ρ _ σ _ ad2 q3 ((w1.trans w2).trans (Wd.put e2 hw)) (st2.put e2 hw (rw.set rd j)) (rh.wd ((w1.trans w2).trans (Wd.put e2 hw))) rfl fun _ _=>rfl⟩⟩⟩⟩)
variable {st:Stmt}{sts:List Stmt}{t u:DS}{e:Expr}{te:DE}
theorem zN:zeZ X [] zZ:=by with_unfolding_all exact (zkD zqC fun E σ H hh=>el8 hh fun ad ρ S E0 so rh q k=>k.nx ρ S σ H ad q Wd.refl so rh)
theorem zy (h:PSD X st t):zeZ X [st] t:=by with_unfolding_all exact (zqw h)
theorem zp (h1:PSD X st t)(h2:zeZ X sts u):zeZ X (st::sts) (zH t u):=by with_unfolding_all exact (zkD (zoX h1 h2) fun E σ H hh=>el8 hh fun ad ρ S E0 so rh q k =>
 ⟨ad,ρ,S,{ E0 with nx:=u E0 },so,rh,q,⟨fun ρ' S' σ' H' ad' q' w st' rh'=>⟨ad',ρ',S',E0,st',rh',q',k.wd w⟩,k.rt,k.bk,k.ct⟩⟩)
theorem zaR:PSD X st zbR:=by with_unfolding_all exact (zbm zpl fun E σ H hh=>el8 hh fun ad ρ S E0 so rh q k=>q)
theorem zah (he:PD X e te)(hs:swapsWith e none pos.line X.env=pure false:=by rfl):PSD X (.Expr e pos) (zaJ te):=by with_unfolding_all exact (zbm (zqI he hs) fun E σ H hh=>el8 hh fun ad ρ S E0 so rh q k =>
 ⟨ad,ρ,S,_,so,rh,q,fun d S' v H' ad' q' w st' r=>k.nx ρ S' σ H' ad' q' w st' (rh.wd w)⟩)
theorem zL (he:PD X e te):PSD X (.Return (some e) pos) (zY te):=by with_unfolding_all exact (zbm (ztb he) fun E σ H hh=>el8 hh fun ad ρ S E0 so rh q k=>⟨ad,ρ,S,_,so,rh,q,k.rt⟩)
theorem zeN (h:PSD X st t):PSD X st (sJ t):=by with_unfolding_all exact (zbm h fun E σ H ⟨ad,ρ,S,E0,so,rh,⟨J,hJ,q⟩,k⟩ =>
 ⟨ad,ρ,S,{ E0 with nx:=J },so,rh,q,⟨fun ρ' S' σ' H' ad' q' w st' rh'=>k.nx ρ' S' σ' H' ad' (hJ _ _ q') w st' rh',k.rt,k.bk,k.ct⟩⟩)
theorem zV {c:Expr}{a b:List Stmt}{tc:DT}(hc:PTD X c tc)(ha:zeZ X a t)(hb:zeZ X b u):PSD X (.If c a b pos) (sIf tc t u):=by with_unfolding_all exact (zbm (ztW hc ha hb) fun E σ H hh=>el8 hh fun ad ρ S E0 so rh q k =>
 ⟨ad,ρ,S,_,so,rh,q,fun b S' H' ad' q' w st'=>by
  cases b with
  | true=>rw [if_pos rfl] at q' ⊢;exact⟨ad',ρ,S',E0,st',rh.wd w,q',k.wd w⟩
  | false=>rw [if_neg Bool.false_ne_true] at q' ⊢;exact⟨ad',ρ,S',E0,st',rh.wd w,q',k.wd w⟩⟩)
theorem zJ {i:Nat}{x:Str}{pos':Pos}(hN:X.N.Nodup)(he:PD X e te)(hi:X.N[i]?=some x:=by rfl)(hx:Loc X.env.scope x:=by first | exact Or.inl rfl | exact Or.inr rfl)(hs:swapsWith e (some (.Name x pos')) pos.line X.env=pure false:=by rfl)(hf:X.fn x=true\/X.env.scope.names.lookup x=some .local:=by first | exact .inl rfl | exact .inr rfl | assumption) :
  PSD X (.Assign [.Name x pos'] e pos) (zQ te (zB i)):=by with_unfolding_all exact (zbm (zsD hN hi hx he hs hf) fun E σ H hh=>el8 hh fun ad ρ S E0 so rh q k =>
 ⟨ad,ρ,S,_,so,rh,q,fun d S' v H' ad' q' w st' r=>k.nx _ S' _ H' ad' q' w st' ((rh.wd w).set r i)⟩)
theorem zi2 {tg:Expr}{g:DG}(he:PD X e te)(hg:PGD X 1000 tg g)(hs:swapsWithSole [tg] e pos.line X.env=pure false:=by rfl)(hw:swappedStores [tg] e X.env=pure none:=by rfl)
  (h1:(assignEach [tg] X.env).map (·.2)=[assign tg X.env]:=by rfl):PSD X (.Assign [tg] e pos) (zQ te g):=by
 with_unfolding_all
  obtain⟨g',p,r⟩:=hg
  exact zbm (zrk he p hs hw h1) fun E σ H hh=>el8 hh fun ad ρ S E0 so rh q k =>
   ⟨ad,ρ,S,_,so,rh,q,fun d S' v H' ad' q' w st' rv=>r ad' H' S' ρ σ d v _ _ st' (rh.wd w) rv q' fun ρ2 S2 σ2 H2 ad2 q2 w2 st2 rh2 _ _=>k.nx ρ2 S2 σ2 H2 ad2 q2 (w.trans w2) st2 rh2⟩
theorem zp5 {i:Nat}{x:Str}{pos':Pos}(hN:X.N.Nodup)(he:PD X e te)(hi:X.N[i]?=some x:=by rfl)(hx:Loc X.env.scope x:=by first | exact Or.inl rfl | exact Or.inr rfl)(hf:X.fn x=true\/X.env.scope.names.lookup x=some .local:=by first | exact .inl rfl | exact .inr rfl | assumption) :
  PSD X (.AugAssign (.Name x pos') .Add e pos) (zpC i te):=by with_unfolding_all exact (zbm (zsc hN hi hx he zsN hf) fun E σ H ⟨ad,ρ,S,E0,so,rh,⟨a,ea,q⟩,k⟩=>by
 obtain⟨v,ev,rv⟩:=rh.val i _ ea
 cases rv
 refine⟨_,ev,ad,ρ,S,_,so,rh,q,fun d S' v H' ad' ⟨b,eb,q'⟩ w st' r=>?_⟩
 subst eb
 cases r
 exact⟨a,b,rfl,rfl,k.nx _ S' _ H' ad' q' w st' ((rh.wd w).set (.int _) i)⟩)
theorem zjw {c:Expr}{body:List Stmt}{tc:DT}(hc:PTD X c tc)(hb:zeZ X body t)(hp:PassesOwn (model X.prog X.w) X.A X.env X.xe:=by first | exact PassesOwn.never | exact PassesOwn.leaving):PSD X (.While c body [] pos) (zib tc t):=by with_unfolding_all exact (zbm (zph hp hc hb) fun E σ H ⟨ad,ρ,S,E0,so,rh,⟨W,⟨m0,w0⟩,turn⟩,k⟩=>by
 refine⟨fun m σ' H'=>∃ ad' ρ' S',W m ρ' S'/\Wd ad H ad' H'/\zK X.K ad' H' S'/\zav X.K ad' H' ρ' σ',⟨m0,ad,ρ,S,w0,Wd.refl,so,rh⟩,?_⟩
 rintro m σ1 H1 ⟨ad1,ρ1,S1,w1,d1,st1,rh1⟩
 refine⟨ad1,ρ1,S1,_,st1,rh1,turn m ρ1 S1 w1,fun b S2 H2 ad2 q2 d2 st2=>?_⟩
 cases b with
 | true =>
  rw [if_pos rfl] at q2 ⊢
  obtain⟨N,hN,q2⟩:=q2
  refine⟨fun σ' H'=>∃ ad' ρ' S',N ρ' S'/\Wd ad H ad' H'/\zK X.K ad' H' S'/\zav X.K ad' H' ρ' σ',?_,ad2,ρ1,S2,{ E0 with nx:=N,ct:=N,bk:=E0.nx },st2,rh1.wd d2,q2,?_⟩
  ·rintro σ' H' ⟨ad',ρ',S',n',d',st',rh'⟩
   obtain⟨m',hm,w'⟩:=hN ρ' S' n'
   exact⟨m',hm,ad',ρ',S',w',d',st',rh'⟩
  ·have d12:=d1.trans d2
   exact⟨fun ρ' S' σ' H' ad' q' w' st' rh'=>⟨ad',ρ',S',q',d12.trans w',st',rh'⟩,k.rt.wd d12,fun ρ' S' σ' H' ad' q' w' st' rh'=>k.nx ρ' S' σ' H' ad' q' (d12.trans w') st' rh',fun ρ' S' σ' H' ad' q' w' st' rh'=>⟨ad',ρ',S',q',d12.trans w',st',rh'⟩⟩
 | false =>
  rw [if_neg Bool.false_ne_true] at q2 ⊢
  exact k.nx ρ1 S2 σ1 H2 ad2 q2 (d1.trans d2) st2 (rh1.wd d2))
end
structure zf7 (K:PySem.W.Frag)(ad0:List Addr)(H0:Hp)(J0:DIt)(J:It):Prop where
 go:∀ ad H S i,Wd ad0 H0 ad H->zK K ad H S->J0.ok S->i<J0.items.length->J.go i H
 yld:∀ ad H S i d x H',Wd ad0 H0 ad H->zK K ad H S->J0.ok S->J0.items[i]?=some d->J.yld i H x H'->Wd ad H ad H'/\zK K ad H' S/\Rel K ad H' d x
 stop:∀ ad H S,Wd ad0 H0 ad H->zK K ad H S->J0.ok S->J.stop J0.items.length H
def upI (K:PySem.W.Frag)(wi:DI):TI:=fun σ H R=>∃ ad ρ S R0,zK K ad H S/\zav K ad H ρ σ/\wi ρ S R0/\∀ J0 S' J H' ad',R0 J0 S'->Wd ad H ad' H'->zK K ad' H' S'->zf7 K ad' H' J0 J->R J H'
@[irreducible] def PID (X:Cx)(tg iter:Expr)(wi:DI):Prop:=PI X tg iter (upI X.K wi)
theorem zgW {X:Cx}{tg iter:Expr}{w w':TI}(h:PI X tg iter w)(m:∀ σ H R,w' σ H R->w σ H R):PI X tg iter w':=fun pins s σ H R I q=>h pins s σ H R I (m σ H R q)
section
variable {X:Cx}{tg e:Expr}
def Its (z:Str):It:=⟨fun i _=>i<z.cps.size,fun i H x H'=>H'=H/\∃ c,z.cps[i]?=some c/\x=.str ⟨#[c]⟩,fun i _=>z.cps.size<=i⟩
theorem zob {P:Program}{w:World}{K:PySem.W.Frag}{tg:Expr}(z:Str)(t:Tok)(it:Addr):Turn P w K tg (Its z) [it] it (fun i h=>h.IsStrIter it "str_ascii_iterator" z t i) where
 mem:=by simp
 obj:=fun i h st b hb=>by
  have e:b=it:=by simpa using hb
  subst e
  obtain⟨o,e,c,d⟩:=st
  exact⟨o,e,fun v y=>by rw [d] at y;cases y⟩
 keep:=fun i h h' st k=>let ⟨o,e,r⟩:=st;⟨o,k it (by simp) o e,r⟩
 item:=by
  intro X hP hw hK hc i pins s σ H E I hf st hg
  subst hP hw hK
  have hg:i<z.cps.size:=hg
  obtain⟨f0,f1,f2,f3,f4,f5⟩:=hf it (by simp)
  refine wpAny_pyNext_ascii_item st (c:=z.cps[i]) (by simp [hg]) fun h' st' sb=>?_
  have I1:Inv X pins σ H { s with heap:=h',toks:=s.toks+1 }:=I.turned (t':=s.toks+1) (fun b o hb e=>(sb.2 b hb).trans e) f0 f1 f3 f4 f5
  obtain⟨o,e,c,d⟩:=id st'
  exact⟨_,rfl,zha (s:={ s with heap:=h',toks:=s.toks+1 }) e c d (by decide) ⟨.str ⟨#[z.cps[i]]⟩,H,I1,⟨_,rfl⟩,⟨rfl,z.cps[i],by simp [hg],rfl⟩,st',fun b hb=>(hf b hb).1⟩⟩
 done:=by
  intro X hP hw hK hc i pins s σ H E I hf st hg
  subst hP hw hK
  have hg:z.cps.size<=i:=hg
  obtain⟨f0,f1,f2,f3,f4,f5⟩:=hf it (by simp)
  exact wpAny_pyNext_ascii_end (I.ok.hd hc) st (by simp [hg]) fun h' eb=>⟨rfl,I.turned (t':=s.toks) (fun b o hb e=>eb b o hb e) f0 f1 f3 f4 f5⟩
 self:=fun _ _ _ _ _ st hQ=>wpAny_pyIter_striter_ascii st hQ
theorem zn2 {P:Program}{w:World}{K:PySem.W.Frag}{tg:Expr}(z:Str)(t:Tok)(it:Addr):Turn P w K tg (Its z) [it] it (fun i h=>h.IsStrIter it "str_iterator" z t i) where
 mem:=by simp
 obj:=fun i h st b hb=>by
  have e:b=it:=by simpa using hb
  subst e
  obtain⟨o,e,c,d⟩:=st
  exact⟨o,e,fun v y=>by rw [d] at y;cases y⟩
 keep:=fun i h h' st k=>let ⟨o,e,r⟩:=st;⟨o,k it (by simp) o e,r⟩
 item:=by
  intro X hP hw hK hc i pins s σ H E I hf st hg
  subst hP hw hK
  have hg:i<z.cps.size:=hg
  obtain⟨f0,f1,f2,f3,f4,f5⟩:=hf it (by simp)
  refine wpAny_pyNext_wide_item st (c:=z.cps[i]) (by simp [hg]) fun h' st' sb=>?_
  have I1:Inv X pins σ H { s with heap:=h',toks:=s.toks+1 }:=I.turned (t':=s.toks+1) (fun b o hb e=>(sb.2 b hb).trans e) f0 f1 f3 f4 f5
  obtain⟨o,e,c,d⟩:=id st'
  exact⟨_,rfl,zha (s:={ s with heap:=h',toks:=s.toks+1 }) e c d (by decide) ⟨.str ⟨#[z.cps[i]]⟩,H,I1,⟨_,rfl⟩,⟨rfl,z.cps[i],by simp [hg],rfl⟩,st',fun b hb=>(hf b hb).1⟩⟩
 done:=by
  intro X hP hw hK hc i pins s σ H E I hf st hg
  subst hP hw hK
  have hg:z.cps.size<=i:=hg
  obtain⟨f0,f1,f2,f3,f4,f5⟩:=hf it (by simp)
  exact wpAny_pyNext_wide_end (I.ok.hd hc) st (by simp [hg]) fun h' eb=>⟨rfl,I.turned (t':=s.toks) (fun b o hb e=>eb b o hb e) f0 f1 f3 f4 f5⟩
 self:=fun _ _ _ _ _ st hQ=>wpAny_pyIter_striter_wide st hQ
def zqE (K:PySem.W.Frag)(tl:TE):TI:=fun σ H R=>tl σ H fun x H1=>(∃ a,x=.ref a/\(((∃ xs,SqL K H1 a xs)/\R (Itl K a) H1)\/((∃ xs,SqT K H1 a xs)/\R (Itt K a) H1)))\/(∃ z,x=.str z/\R (Its z) H1)
theorem zoc {l:Expr}{tl:TE}(hl:PE X l tl):PI X tg l (zqE X.K tl):=by
  intro pins s σ H R I h
  refine thn (hl pins s σ H _ I h) fun v s1 ⟨x,H1,I1,r1,q1⟩=>?_
  rcases q1 with ⟨a,e,q1⟩ | ⟨z,e,q⟩
  case inr =>
    subst e
    obtain⟨t,rfl⟩:=r1
    have fp:∀ b∈[s1.heap.objs.size],zes X pins H1 b:=fun b hb=>by
      have e:b=s1.heap.objs.size:=by simpa using hb
      subst e
      exact I1.fpOk (Nat.le_refl _) (I1.hok.fresh (Nat.le_refl _))
    cases ha:z.cps.all (· < 128) with
    | true=>exact wpAny_pyIter_ascii ha ⟨s1.heap.objs.size,[s1.heap.objs.size],_,_,H1,rfl,I1.kept (t':=s1.toks) fun b o e=>Heap.get?_push_of_some _ e,zob z t _,⟨_,Heap.get?_push_size _ rfl,rfl,rfl⟩,fp,q⟩
    | false=>exact wpAny_pyIter_wide ha ⟨s1.heap.objs.size,[s1.heap.objs.size],_,_,H1,rfl,I1.kept (t':=s1.toks) fun b o e=>Heap.get?_push_of_some _ e,zn2 z t _,⟨_,Heap.get?_push_size _ rfl,rfl,rfl⟩,fp,q⟩
  subst e
  cases r1
  rcases q1 with ⟨⟨xs,hq⟩,q⟩ | ⟨⟨xs,hq⟩,q⟩
  · obtain⟨its,rv,p,hz⟩:=I1.list hq
    refine wpAny_pyIter_list p.isList ?_
    refine⟨s1.heap.objs.size,[s1.heap.objs.size],_,_,H1,rfl,I1.kept (t':=s1.toks) fun b o e=>Heap.get?_push_of_some _ e,znG a _,⟨_,Heap.get?_push_size _ rfl,rfl,rfl⟩,fun b hb=>?_,q⟩
    have e:b=s1.heap.objs.size:=by simpa using hb
    subst e
    exact I1.fpOk (Nat.le_refl _) (I1.hok.fresh (Nat.le_refl _))
  · obtain⟨its,rv,p,hz⟩:=I1.tuple hq
    refine wpAny_pyIter_tuple (show s1.heap.IsTuple a its.toArray from p) ?_
    refine⟨s1.heap.objs.size,[s1.heap.objs.size],_,_,H1,rfl,I1.kept (t':=s1.toks) fun b o e=>Heap.get?_push_of_some _ e,zl9 a _,⟨_,Heap.get?_push_size _ rfl,rfl,rfl⟩,fun b hb=>?_,q⟩
    have e:b=s1.heap.objs.size:=by simpa using hb
    subst e
    exact I1.fpOk (Nat.le_refl _) (I1.hok.fresh (Nat.le_refl _))
theorem zrt {K:PySem.W.Frag}{ad:List Addr}{H:Hp}(z:Str):zf7 K ad H ⟨signs z,fun _=>True⟩ (Its z) where
 go:=fun ad1 H1 S i w st _ hi=>by
  show i<z.cps.size
  have:i<(signs z).length:=hi
  unfold signs at this
  rw [List.length_map] at this
  simpa using this
 yld:=fun ad1 H1 S i d x H' w st _ hd ⟨e,c,hc,hx⟩=>by
  subst e hx
  have hd:(signs z)[i]?=some d:=hd
  unfold signs at hd
  rw [List.getElem?_map,Array.getElem?_toList,hc] at hd
  cases hd
  exact⟨Wd.refl,st,.str _⟩
 stop:=fun ad1 H1 S w st _=>by
  show z.cps.size<=(signs z).length
  unfold signs
  rw [List.length_map];simp
theorem zsb {K:PySem.W.Frag}{ad:List Addr}{H:Hp}{a:Addr}{vs:List V}{ds:List D}(h:H a=some (.tup vs))(r:zE K ad H ds vs):zf7 K ad H ⟨ds,fun _=>True⟩ (Itt K a) where
 go:=fun ad1 H1 S i w st _ hi=>⟨vs,vs[i]'(by rw [<- r.length];exact hi),SqT.of (w.tup _ _ h),List.getElem?_eq_getElem _⟩
 yld:=fun ad1 H1 S i d x H' w st _ hd ⟨e,hx⟩=>by
  subst e
  obtain⟨v,ev,rv⟩:=r.get hd
  rw [hx vs (SqT.of (w.tup _ _ h))] at ev
  cases ev
  exact⟨Wd.refl,st,rv.wd w⟩
 stop:=fun ad1 H1 S w st _=>⟨vs,SqT.of (w.tup _ _ h),by rw [<- r.length];exact Nat.le_refl _⟩
theorem zru {K:PySem.W.Frag}{ad:List Addr}{H:Hp}{a:Addr}{x:D}{ds:List D}(r:Rel K ad H x (.ref a)):zf7 K ad H ⟨ds,fun S=>Lst S x ds⟩ (Itl K a) where
 go:=fun ad1 H1 S i w st ok hi=>by
  obtain⟨a',vs,e,s,rs⟩:=Lst.sq st ok (r.wd w)
  cases e
  exact⟨vs,vs[i]'(by rw [<- rs.length];exact hi),s,List.getElem?_eq_getElem _⟩
 yld:=fun ad1 H1 S i d y H' w st ok hd ⟨e,hx⟩=>by
  subst e
  obtain⟨a',vs,e,s,rs⟩:=Lst.sq st ok (r.wd w)
  cases e
  obtain⟨v,ev,rv⟩:=rs.get hd
  rw [hx vs s] at ev
  cases ev
  exact⟨Wd.refl,st,rv⟩
 stop:=fun ad1 H1 S w st ok=>by
  obtain⟨a',vs,e,s,rs⟩:=Lst.sq st ok (r.wd w)
  cases e
  exact⟨vs,s,by rw [<- rs.length];exact Nat.le_refl _⟩
theorem zaA {t:DE}(h:PD X e t):PID X tg e (zbi t):=by with_unfolding_all exact (zgW (zoc h) fun σ H R hh=>el8 hh fun ad ρ S R0 st rh q k =>
 ⟨ad,ρ,S,_,st,rh,q,fun x S1 v H1 ad1 q1 w1 st1 r1=>by
  rcases q1 with ⟨xs,rfl,q1⟩ | ⟨xs,hx,q1⟩ | ⟨z,rfl,q1⟩
  ·cases r1 with
   | tup h1 rs=>exact .inl ⟨_,rfl,.inr ⟨⟨_,SqT.of h1⟩,k _ S1 _ H1 ad1 q1 w1 st1 (zsb h1 rs)⟩⟩
  ·obtain⟨a,vs,rfl,s,rs⟩:=hx.sq st1 r1
   exact .inl ⟨a,rfl,.inl ⟨⟨vs,s⟩,k _ S1 _ H1 ad1 q1 w1 st1 (zru r1)⟩⟩
  ·cases r1
   exact .inr ⟨z,rfl,k _ S1 _ H1 ad1 q1 w1 st1 (zrt z)⟩⟩)
theorem zoO {lo:Int}{n i:Nat}{d:D}(h:(upto lo n)[i]?=some d):i<n/\d=.int (lo+i):=by
 unfold upto at h
 rw [List.getElem?_map] at h
 have hi:=My.zaE (xs:=List.range n) (i:=i) (x:=i)
 cases hr:(List.range n)[i]? with
 | none=>rw [hr] at h;cases h
 | some k =>
  rw [hr] at h
  have h1:=My.zaE hr
  rw [List.length_range] at h1
  have h2:(List.range n)[i]?=some i:=List.getElem?_range h1
  rw [hr] at h2
  cases h2
  cases h
  exact⟨h1,rfl⟩
theorem zku (lo:Int)(n:Nat):(upto lo n).length=n:=by unfold upto;rw [List.length_map,List.length_range]
theorem znA {K:PySem.W.Frag}{ad:List Addr}{H:Hp}(lo:Int)(n:Nat):zf7 K ad H ⟨upto lo n,fun _=>True⟩ (Itr lo n) where
 go:=fun ad1 H1 S i w st _ hi=>by rw [zku] at hi;exact hi
 yld:=fun ad1 H1 S i d x H' w st _ hd ⟨e,hx⟩=>by
  subst e
  obtain⟨_,rfl⟩:=zoO hd
  rw [hx]
  exact⟨Wd.refl,st,.int _⟩
 stop:=fun ad1 H1 S w st _=>by rw [zku];exact Nat.le_refl _
theorem znq {P:Program}{w:World}{K:PySem.W.Frag}{tg:Expr}(it:Addr)(lo:Int)(n:Nat):Turn P w K tg (Itr lo n) [it] it (fun i h=>IsLongIter h it (lo+(i:Nat)*1) ((n:Int)-(i:Nat)) 1) where
 mem:=by simp
 obj:=fun i h st b hb=>by
  have e:b=it:=by simpa using hb
  subst e
  exact⟨_,st,fun v z=>by
   have z':Data.fields _=Data.cell v:=z
   cases z'⟩
 keep:=fun i h h' st k=>k it (by simp) _ st
 item:=by
  intro X hP hw hK hc i pins s σ H E I hf st' hg
  subst hP hw hK
  obtain⟨f0,f1,f2,f3,f4,f5⟩:=hf it (by simp)
  have W:=Walks.longrange (prog:=X.prog) (w:=X.w) (I.ok.hd hc) it lo 1 n
  refine W.item i s _ _ hg st' fun v h' tk hv st'' kk=>?_
  obtain⟨t,rfl⟩:=hv
  have I1:Inv X pins σ H { s with heap:=h',toks:=tk }:=I.turned (fun b o hb e=>kk b o (by simpa using hb) e) f0 f1 f3 f4 f5
  rw [Int.mul_one]
  exact⟨_,rfl,zha (s:={ s with heap:=h',toks:=tk }) (n:="longrange_iterator") st'' rfl rfl (by decide) ⟨.int (lo+i),H,I1,⟨t,rfl⟩,⟨rfl,rfl⟩,st'',fun b hb=>(hf b hb).1⟩⟩
 done:=by
  intro X hP hw hK hc i pins s σ H E I hf st' hg
  subst hP hw hK
  obtain⟨f0,f1,f2,f3,f4,f5⟩:=hf it (by simp)
  exact wpAny_pyNext_long_end (I.ok.hd hc) st' (by have:n<=i:=hg;omega) fun h' eb=>⟨rfl,I.turned (t':=s.toks) (fun b o hb e=>eb b o hb e) f0 f1 f3 f4 f5⟩
 self:=fun _ _ _ _ _ st h=>wpAny_pyIter_longiter st h
theorem range_any {pins:List (Addr×Obj)}{σ:L2.St}{H:Hp}{s:Shared}{R:It->Hp->Prop}{E:Value->Shared->Prop}{lo hi:Int}{t u v:Tok}{tk:Nat}(I:Inv X pins σ H s)
    (q:R (Itr lo (hi-lo).toNat) H):wpAny (model X.prog X.w) X.A (pyIter (.ref s.heap.objs.size)) (PIE X pins σ tg R) E { s with heap:=s.heap.push { cls:=.type "range",data:=.fields #[.int lo t,.int hi u,.int 1 v] },toks:=tk }:=by
  have I1:Inv X pins σ H { s with heap:=s.heap.push { cls:=.type "range",data:=.fields #[.int lo t,.int hi u,.int 1 v] },toks:=tk }:=I.kept fun b o e=>Heap.get?_push_of_some _ e
  have e1:lo+((0:Nat):Int)*1=lo:=by simp
  have e2:(((hi-lo).toNat:Nat):Int)-((0:Nat):Int)=Builtin.Range.rangeSize lo hi 1:=by rw [rangeSize_one];split<;>omega
  cases hsm:Builtin.Range.small lo hi 1 with
  | true =>
    refine wpAny_pyIter_range (IsRange.new ..) hsm ?_
    refine⟨(s.heap.push { cls:=.type "range",data:=.fields #[.int lo t,.int hi u,.int 1 v] }).objs.size,[(s.heap.push { cls:=.type "range",data:=.fields #[.int lo t,.int hi u,.int 1 v] }).objs.size],_,_,H,rfl,
      I1.kept (t':=tk) fun b o e=>Heap.get?_push_of_some _ e,ziH _ lo (hi-lo).toNat,?_,fun b hb=>?_,q⟩
    · show IsRangeIter _ _ (lo+((0:Nat):Int)*1) ((((hi-lo).toNat:Nat):Int)-((0:Nat):Int)) 1
      rw [e1,e2]
      exact Heap.get?_push_size _ rfl
    · have e:b=(s.heap.push { cls:=.type "range",data:=.fields #[.int lo t,.int hi u,.int 1 v] }).objs.size:=by simpa using hb
      subst e
      exact I1.fpOk (Nat.le_refl _) (I1.hok.fresh (Nat.le_refl _))
  | false =>
    refine wpAny_pyIter_longrange (IsRange.new ..) hsm ?_
    refine⟨(s.heap.push { cls:=.type "range",data:=.fields #[.int lo t,.int hi u,.int 1 v] }).objs.size,[(s.heap.push { cls:=.type "range",data:=.fields #[.int lo t,.int hi u,.int 1 v] }).objs.size],_,_,H,rfl,
      I1.kept (t':=tk) fun b o e=>Heap.get?_push_of_some _ e,znq _ lo (hi-lo).toNat,?_,fun b hb=>?_,q⟩
    · show IsLongIter _ _ (lo+((0:Nat):Int)*1) ((((hi-lo).toNat:Nat):Int)-((0:Nat):Int)) 1
      rw [e1,e2]
      exact Heap.get?_push_size _ rfl
    · have e:b=(s.heap.push { cls:=.type "range",data:=.fields #[.int lo t,.int hi u,.int 1 v] }).objs.size:=by simpa using hb
      subst e
      exact I1.fpOk (Nat.le_refl _) (I1.hok.fresh (Nat.le_refl _))
theorem zhk {a:Expr}{t:DA}{p pos:Pos}(hm:X.mg "range"=none)(ha:PAD X [a] t)(hg:Gl X "range":=by rfl)(hs:starEach [a] X.env=[(false,eval a X.env)]:=by exact zdA rfl):PID X tg (.Call (.Name "range" p) [a] [] pos) (zeS t):=by with_unfolding_all exact (zgW (znd hg hm ha hs) fun σ H R hh=>el8 hh fun ad ρ S R0 st rh q k =>
 ⟨ad,ρ,S,_,st,rh,q,fun ds S1 vs H1 ad1 ⟨j,ed,b1,b2,q1⟩ w1 st1 r1=>by
  subst ed
  obtain⟨v,rfl,rv⟩:=zcO r1
  cases rv
  exact⟨j,rfl,b1,b2,k _ S1 _ H1 ad1 q1 w1 st1 (znA 0 j.toNat)⟩⟩)
theorem zlY {a b:Expr}{t:DA}{p pos:Pos}(hm:X.mg "range"=none)(ha:PAD X [a,b] t)(hg:Gl X "range":=by rfl)(hs:starEach [a,b] X.env=[(false,eval a X.env),(false,eval b X.env)]:=by exact zki rfl rfl)(hs2:starEach [b] X.env=[(false,eval b X.env)]:=by exact zdA rfl) :
  PID X tg (.Call (.Name "range" p) [a,b] [] pos) (zj0 t):=by
 with_unfolding_all
  rintro pins s σ H R I ⟨ad,ρ,S,R0,st,rh,q,k⟩
  refine Call_ (zdm I hg hm boot_range (PyProof.Rows.callWith_type1 (thn (ha pos pins s σ H (fun vs H1=>∃ i j:Int,vs=[.int i,.int j]/\R (Itr i (j-i).toNat) H1) I ⟨ad,ρ,S,_,st,rh,q,fun ds S1 vs H1 ad1 ⟨i,j,ed,q1⟩ w1 st1 r1=>by
   subst ed
   obtain⟨v,u,rfl,rv,ru⟩:=zhC r1
   cases rv
   cases ru
   exact⟨i,j,rfl,k _ S1 _ H1 ad1 q1 w1 st1 (znA i _)⟩⟩) fun us s1 ⟨vs,H1,I1,r1,q1⟩=>?_) (by rw [hs,hs2]) (by rw [hs2];rfl)))
  obtain⟨i,j,e,q⟩:=q1
  subst e
  cases r1 with
  | cons r rr =>
   cases rr with
   | cons r' rr =>
    cases rr
    obtain⟨t,rfl⟩:=r
    obtain⟨t',rfl⟩:=r'
    exact call_range_2 (range_any I1 q)
theorem zaX {iter:Expr}{body:List Stmt}{wi:DI}{g:DG}{t:DS}{pos:Pos}(hi:PID X tg iter wi)(hg:PGD X 1000 tg g)(hb:zeZ X body t)(hp:PassesOwn (model X.prog X.w) X.A X.env X.xe:=by first | exact PassesOwn.never | exact PassesOwn.leaving)(hc:X.calm=true:=by rfl)(hs:∀ x,foldedSetIterable iter X.env x=pure x:=by intro _;rfl):PSD X (.For tg iter body [] pos) (zcs wi g t):=by
 with_unfolding_all
  obtain⟨g',pg,rg⟩:=hg
  refine zbm (zsw hp hc hi pg hb hs) fun E σ H hh=>el8 hh fun ad ρ S E0 so rh q k=>?_
  refine⟨ad,ρ,S,_,so,rh,q,fun J0 S1 J H1 ad1 ⟨W,w0,hok,step,fin⟩ d1 st1 it=>?_⟩
  refine⟨fun i m σ' H'=>m=J0.items.length-i/\i<=J0.items.length/\∃ ad' ρ' S',W i ρ' S'/\Wd ad1 H1 ad' H'/\zK X.K ad' H' S'/\zav X.K ad' H' ρ' σ',⟨J0.items.length,rfl,Nat.zero_le _,ad1,ρ,S1,w0,Wd.refl,st1,rh.wd d1⟩,?_⟩
  rintro i m σ2 H2 ⟨rfl,hi2,ad2,ρ2,S2,w2,d2,st2,rh2⟩
  by_cases hlt:i<J0.items.length
  ·have ed:J0.items[i]?=some J0.items[i]:=List.getElem?_eq_getElem hlt
   refine .inr ⟨it.go ad2 H2 S2 i d2 st2 (hok _ _ _ w2) hlt,fun σ' H'=>∃ ad' ρ' S',W (i+1) ρ' S'/\Wd ad1 H1 ad' H'/\zK X.K ad' H' S'/\zav X.K ad' H' ρ' σ',?_,fun x H' hy=>?_⟩
   ·rintro σ' H' ⟨ad',ρ',S',w',d',st',rh'⟩
    exact⟨J0.items.length-(i+1),by omega,rfl,hlt,ad',ρ',S',w',d',st',rh'⟩
   ·obtain⟨d3,st3,r3⟩:=it.yld ad2 H2 S2 i _ x H' d2 st2 (hok _ _ _ w2) ed hy
    refine rg ad2 H' S2 ρ2 σ2 _ x _ _ st3 (rh2.wd d3) r3 (step i _ ρ2 S2 ed w2) fun ρ4 S4 σ4 H4 ad4 q4 d4 st4 rh4 _ _=>?_
    have d14:=(d2.trans d3).trans d4
    have d04:=d1.trans d14
    exact⟨ad4,ρ4,S4,{ E0 with nx:=W (i+1),ct:=W (i+1),bk:=E0.nx },st4,rh4,q4,⟨fun ρ' S' σ' H' ad' q' w' st' rh'=>⟨ad',ρ',S',q',d14.trans w',st',rh'⟩,k.rt.wd d04,fun ρ' S' σ' H' ad' q' w' st' rh'=>k.nx ρ' S' σ' H' ad' q' (d04.trans w') st' rh',fun ρ' S' σ' H' ad' q' w' st' rh'=>⟨ad',ρ',S',q',d14.trans w',st',rh'⟩⟩⟩
  ·have e:i=J0.items.length:=by omega
   subst e
   exact .inl ⟨it.stop ad2 H2 S2 d2 st2 (hok _ _ _ w2),k.nx ρ2 S2 σ2 H2 ad2 (fin ρ2 S2 w2) (d1.trans d2) st2 rh2⟩
end
theorem zkT:∀ {a b:L2.St} (n:Nat),(∀ j,j<n->a[j]?=some none\/a.length<=j)->b.length=a.length->(∀ j,n<=j->b[j]?=a[j]?)->Agr a b
 | [],[],_,_,_,_=>True.intro
 | [],_::_,_,_,h,_=>by simp at h
 | _::_,[],_,_,h,_=>by simp at h
 | x::a,y::b,n,h0,hl,h=>by
  have hl':b.length=a.length:=by simpa using hl
  cases n with
  | zero =>
   have e:=h 0 (Nat.le_refl _)
   have e':y=x:=by simpa using e
   subst e'
   have rest:Agr a b:=zkT 0 (fun j hj=>absurd hj (Nat.not_lt_zero _)) hl' fun j _=>by simpa using h (j+1) (Nat.zero_le _)
   cases y with
   | none=>exact rest
   | some v=>exact⟨rfl,rest⟩
  | succ n =>
   have rest:Agr a b:=zkT n (fun j hj=>by
    rcases h0 (j+1) (by omega) with e | e
    ·exact .inl (by simpa using e)
    ·exact .inr (by simpa using e)) hl' fun j hj=>by simpa using h (j+1) (by omega)
   rcases h0 0 (Nat.succ_pos _) with e | e
   ·have e':x=none:=by simpa using e
    subst e'
    exact rest
   ·simp at e
theorem zqO {K:PySem.W.Frag}{ad:List Addr}{H:Hp}{ρ:Rho}{σ:L2.St}(h:zav K ad H ρ σ)(own:List Str)(fv:List Nat):zav K ad H (zhZ own.length fv ρ) (cst own fv σ) where
  len:=by unfold zhZ cst;rw [List.length_append,List.length_append,List.length_replicate,List.length_replicate,List.length_map,List.length_map]
  val:=fun i d e=>by
    unfold zhZ at e
    unfold cst
    by_cases hi:i<own.length
    · rw [List.getElem?_append_left (by rw [List.length_replicate];exact hi),List.getElem?_replicate] at e
      split at e<;>cases e
    · have hi':own.length<=i:=Nat.le_of_not_lt hi
      rw [List.getElem?_append_right (by rw [List.length_replicate];exact hi'),List.length_replicate,List.getElem?_map] at e
      rw [List.getElem?_append_right (by rw [List.length_replicate];exact hi'),List.length_replicate,List.getElem?_map]
      cases hf:fv[i-own.length]? with
      | none=>rw [hf] at e;cases e
      | some j =>
        rw [hf] at e
        simp only [Option.map_some,Option.some.injEq] at e ⊢
        cases hr:ρ[j]? with
        | none=>rw [hr] at e;cases e
        | some o =>
          rw [hr] at e
          have e':o=some d:=e
          subst e'
          obtain⟨v,ev,rv⟩:=h.val j d hr
          exact⟨v,by rw [ev];rfl,rv⟩
@[irreducible] def zmg (X:Cx)(ifs:List Expr)(t:DT):Prop:=PFs X ifs (upT X.K t)
theorem zaO {X:Cx}:zmg X [] zbv:=by with_unfolding_all exact (fun pins s σ H Q I hh=>el8 hh fun ad ρ S Q0 st rh q k=>zsi pins s σ H Q I (k true S H ad q Wd.refl st))
theorem zhe {X:Cx}{c:Expr}{t:DT}(h:PTD X c t):zmg X [c] t:=by with_unfolding_all exact (zrN h)
theorem ofT {A B:Prop}(h:if true=true then A else B):A:=by rw [if_pos rfl] at h;exact h
theorem ofF {A B:Prop}(h:if false=true then A else B):B:=by rw [if_neg Bool.false_ne_true] at h;exact h
theorem zpQ {K:PySem.W.Frag}{own:List Str}{fv:List Nat}{wi:DI}{g:DG}{g':TG}{tc:DT}{te:DE}(rg:zhA K own.length g g'){σ:L2.St}{H:Hp}{Q:VK}(h:up K (dLC own.length fv wi g tc te) σ H Q):tLC own fv (upI K wi) g' (upT K tc) (up K te) σ H Q:=by
 obtain⟨ad,ρ,S,Q0,so,rh,q,k⟩:=h
 refine⟨ad,ρ,S,_,so,rh,q,fun J0 S1 J H1 ad1 ⟨hbig,W,w0,hok,step,fin⟩ d1 st1 it=>?_⟩
 intro p hp
 refine⟨fun i m H'=>m=J0.items.length-i/\i<=J0.items.length/\∃ ad' S' ys vs,W i ys S'/\Wd ad1 H1 ad' H'/\zK K ad' H' S'/\p∉ad'/\H' p=some (.lst vs)/\zE K ad' H' ys vs/\vs.length<=i,
  ⟨J0.items.length,rfl,Nat.zero_le _,ad1,S1,[],[],w0,Wd.laid hp,st1.laid hp,st1.fresh hp,zaq,.nil,Nat.le_refl _⟩,?_⟩
 rintro i m H2 ⟨rfl,hi2,ad2,S2,ys,vs,w2,d2,st2,hp2,hv2,r2,hl2⟩
 by_cases hlt:i<J0.items.length
 ·have ed:J0.items[i]?=some J0.items[i]:=List.getElem?_eq_getElem hlt
  refine .inr ⟨it.go ad2 H2 S2 i d2 st2 (hok _ _ _ w2) hlt,fun x H' hy=>?_⟩
  obtain⟨d3,st3,r3⟩:=it.yld ad2 H2 S2 i _ x H' d2 st2 (hok _ _ _ w2) ed hy
  have rh3:=zqO (rh.wd ((d1.trans d2).trans d3)) own fv
  refine rg ad2 H' S2 _ _ _ x _ _ st3 rh3 r3 (step i _ ys S2 ed w2) fun ρ4 S4 σ4 H4 ad4 q4 d4 st4 rh4 l4 a4=>?_
  refine⟨zkT own.length (fun j hj=>.inl ?_) l4 a4,ad4,ρ4,S4,_,st4,rh4,q4,fun b S5 H5 ad5 q5 d5 st5=>?_⟩
  ·unfold cst
   rw [List.getElem?_append_left (by rw [List.length_replicate];exact hj),List.getElem?_replicate,if_pos hj]
  have fwd:∀ {ad9:List Addr} {H9:Hp},Wd ad2 H2 ad9 H9->p∉ad9/\H9 p=some (.lst vs):=fun {ad9 H9} w=>⟨(fun m=>by
   have z:=w.new p m hp2
   rw [hv2] at z;cases z),w.keep p _ hp2 hv2⟩
  have d25:=(d3.trans d4).trans d5
  cases b with
  | true =>
   refine zoT ?_
   have q5:=Dp.ofT q5
   refine⟨ad5,ρ4,S5,_,st5,rh4.wd d5,q5,fun y S6 v H6 ad6 q6 d6 st6 r6=>?_⟩
   have d26:=d25.trans d6
   obtain⟨n6,e6⟩:=fwd d26
   have hw:Wr ad6 H6 ad6 (upd H6 p (.lst (vs++[v]))):=Wr.hid e6
   have hvl:vs.length<sizeLine:=zgQ (by omega)
   exact⟨vs,e6,hvl,J0.items.length-(i+1),by omega,rfl,hlt,ad6,S6,ys++[y],vs++[v],q6,(d2.trans d26).hid hp,st6.hid e6 n6 (st1.bfree hp),n6,zaq,zE.wr hw ((r2.wd d26).append (.cons r6 .nil)),by rw [List.length_append];exact Nat.succ_le_succ hl2⟩
  | false =>
   refine zo7 ?_
   have q5:=Dp.ofF q5
   obtain⟨n5,e5⟩:=fwd d25
   exact⟨J0.items.length-(i+1),by omega,rfl,hlt,ad5,S5,ys,vs,q5,d2.trans d25,st5,n5,e5,r2.wd d25,by omega⟩
 ·have e:i=J0.items.length:=by omega
  subst e
  refine .inl ⟨it.stop ad2 H2 S2 d2 st2 (hok _ _ _ w2),?_⟩
  exact k _ _ _ _ (ad2++[p]) (fin ys S2 w2) (d1.trans (d2.add hp)) (st2.add hv2 hp2 r2 (st1.bfree hp)) (.ref (by rw [<- st2.len,List.getElem?_append_right (Nat.le_refl _),Nat.sub_self];rfl))
section
variable {X:Cx}{sc:Scope}{tg iter elt:Expr}{ifs:List Expr}{own free:List Str}{fv:List Nat}{wi:DI}{g:DG}{tc:DT}{te:DE}{pos:Pos}
theorem zci {g':TG}(hfr:zdR (fun x=>X.env.kindOf x=some .cell) sc.names)(hfv:zgN X sc free fv)(hi:PID X tg iter wi)
  (hg:zhA X.K own.length g g'/\∀ cl C s₀ H₀ ex,PG (inner X sc (own++free) cl C s₀ H₀ ex) tg g') (ht:∀ cl C s₀ H₀ ex,zmg (inner X sc (own++free) cl C s₀ H₀ ex) ifs tc) (he:∀ cl C s₀ H₀ ex,PD (inner X sc (own++free) cl C s₀ H₀ ex) elt te) (hcalm:X.calm=true:=by rfl) (hxe:(X.xe=fun _ _=>False):=by rfl) (hkind:sc.kind=.function:=by rfl) (hcell:∀ y∈sc.names,y.2≠.cell:=by decide +kernel) (hnames:∀ y∈sc.names,y.2=.local->sc.names.lookup y.1=some .local:=by decide +kernel)
  (hs:∀ x,foldedSetIterable iter X.env x=pure x:=by intro _;rfl):PD X (.ListComp elt [⟨tg,iter,ifs,0⟩] sc pos) (dLC own.length fv wi g tc te):=by with_unfolding_all exact (zaL (zuj (tc:=upT X.K tc) (te:=up X.K te) hcalm hxe hkind hcell hnames hfr hfv hi hg.2 ht he hs) fun _ _ _=>zpQ hg.1)
theorem zdK {g':TG}{i:Nat}{y:Str}{py spos:Pos}(hN:X.N.Nodup)(hfr:zdR (fun x=>X.env.kindOf x=some .cell) sc.names)(hfv:zgN X sc free fv)(hi:PID X tg iter wi)
  (hg:zhA X.K own.length g g'/\∀ cl C s₀ H₀ ex,PG (inner X sc (own++free) cl C s₀ H₀ ex) tg g') (ht:∀ cl C s₀ H₀ ex,zmg (inner X sc (own++free) cl C s₀ H₀ ex) ifs tc) (he:∀ cl C s₀ H₀ ex,PD (inner X sc (own++free) cl C s₀ H₀ ex) elt te) (hy:X.N[i]?=some y:=by rfl) (hyl:X.env.scope.names.lookup y=some .local:=by rfl) (hcalm:X.calm=true:=by rfl) (hxe:(X.xe=fun _ _=>False):=by rfl) (hkind:sc.kind=.function:=by rfl) (hcell:∀ y∈sc.names,y.2≠.cell:=by decide +kernel) (hnames:∀ y∈sc.names,y.2=.local->sc.names.lookup y.1=some .local:=by decide +kernel)
  (hsw:swapsWith (.ListComp elt [⟨tg,iter,ifs,0⟩] sc pos) (some (.Name y py)) spos.line X.env=pure true:=by rfl)
  (hs:∀ x,foldedSetIterable iter X.env x=pure x:=by intro _;rfl):PSD X (.Assign [.Name y py] (.ListComp elt [⟨tg,iter,ifs,0⟩] sc pos) spos) (zQ (dLC own.length fv wi g tc te) (zB i)):=by with_unfolding_all exact (zbm (zqA (tc:=upT X.K tc) (te:=up X.K te) hN hy hyl hcalm hxe hkind hcell hnames hfr hfv hi hg.2 ht he hsw hs) fun E σ H hh=>el8 hh fun ad ρ S E0 so rh q k =>
  zpQ (Q:=fun x H1=>L2.zB i x σ H1 E.nx) hg.1 ⟨ad,ρ,S,_,so,rh,q,fun d S' v H' ad' q' w st' r=>k.nx _ S' _ H' ad' q' w st' ((rh.wd w).set r i)⟩)
theorem zd1 {K:PySem.W.Frag}{b:Nat}:zij K b zcc L2.zcc:=fun ad H S ρ σ ds vs Q0 Q st rh r ⟨e,q⟩ k=>by
 subst e
 cases r
 exact⟨rfl,k ρ S σ H ad q Wd.refl st rh rfl fun _ _=>rfl⟩
theorem zaI {K:PySem.W.Frag}{b:Nat}{t:DG}{u:DGs}{t':TG}{u':TGs}(r1:zhA K b t t')(r2:zij K b u u'):zij K b (zag t u) (L2.zag t' u'):=fun ad H S ρ σ ds vs Q0 Q st rh r ⟨d,rs,ed,q⟩ k=>by
 subst ed
 cases r with
 | cons r t =>
  refine⟨_,_,rfl,r1 ad H S ρ σ d _ _ _ st rh r q fun ρ1 S1 σ1 H1 ad1 q1 w1 st1 rh1 l1 a1=>?_⟩
  exact r2 ad1 H1 S1 ρ1 σ1 _ _ _ _ st1 rh1 (t.wd w1) q1 fun ρ2 S2 σ2 H2 ad2 q2 w2 st2 rh2 l2 a2=>k ρ2 S2 σ2 H2 ad2 q2 (w1.trans w2) st2 rh2 (l2.trans l1) fun j hj=>(a2 j hj).trans (a1 j hj)
theorem zex {K:PySem.W.Frag}{b n:Nat}{t:DGs}{t':TGs}(r:zij K b t t'):zhA K b (zcf n t) (L2.zcf K n t'):=fun ad H S ρ σ d v Q0 Q st rh rv ⟨xs,ed,hl,q⟩ k=>by
 subst ed
 cases rv with
 | tup h1 rs=>exact⟨_,_,rfl,SqT.of h1,by rw [<- rs.length];exact hl,r ad H S ρ σ xs _ _ _ st rh rs q k⟩
end
theorem zkW {K:PySem.W.Frag}{ad:List Addr}{H:Hp}{ds:List D}{vs:List V}(N:List Str)(r:zE K ad H ds vs):zav K ad H (zd3 N.length ds) (L2.start N vs) where
  len:=by unfold zd3 L2.start;rw [List.length_append,List.length_append,List.length_map,List.length_map,List.length_replicate,List.length_replicate,r.length]
  val:=fun i d e=>by
    unfold zd3 at e
    unfold L2.start
    by_cases hi:i<ds.length
    · rw [List.getElem?_append_left (by rw [List.length_map];exact hi),List.getElem?_map] at e
      rw [List.getElem?_append_left (by rw [List.length_map,<- r.length];exact hi),List.getElem?_map]
      cases hd:ds[i]? with
      | none=>rw [hd] at e;cases e
      | some d' =>
        rw [hd] at e
        cases e
        obtain⟨v,ev,rv⟩:=r.get hd
        exact⟨v,by rw [ev];rfl,rv⟩
    · rw [List.getElem?_append_right (by rw [List.length_map];exact Nat.le_of_not_lt hi),List.getElem?_replicate] at e
      split at e<;>cases e
theorem zE.cut1 {K:PySem.W.Frag}{ad ad':List Addr}{H:Hp}(k:Nat)(h1:∀ d v,fl k d=true->Rel K ad H d v->Rel K ad' H d v):∀ ds vs,ds.all (fl k)=true->zE K ad H ds vs->zE K ad' H ds vs:=by
 intro ds
 induction ds with
 | nil=>intro vs _ r;cases r;exact .nil
 | cons d ds ih =>
  intro vs hf r
  rw [List.all_cons,Bool.and_eq_true] at hf
  cases r with
  | cons r t=>exact .cons (h1 d _ hf.1 r) (ih _ hf.2 t)
theorem Rel.cut {K:PySem.W.Frag}{ad ad':List Addr}{H:Hp}:∀ (k:Nat) (d:D) (v:V),fl k d=true->Rel K ad H d v->Rel K ad' H d v:=by
 intro k
 induction k with
 | zero =>
  intro d v hf r
  cases r with
  | non=>exact .non
  | bl b=>exact .bl b
  | int i=>exact .int i
  | str x=>exact .str x
  | ty n=>cases hf
  | tup h r=>cases hf
  | rl h r=>cases hf
  | ref h=>cases hf
  | exn _ _ _=>cases hf
 | succ k ih =>
  intro d v hf r
  cases r with
  | non=>exact .non
  | bl b=>exact .bl b
  | int i=>exact .int i
  | str x=>exact .str x
  | ty n=>cases hf
  | tup h r=>exact .tup h (zE.cut1 k ih _ _ hf r)
  | rl h r=>cases hf
  | ref h=>cases hf
  | exn _ _ _=>cases hf
theorem zE.cut {K:PySem.W.Frag}{ad ad':List Addr}{H:Hp}(k:Nat)(ds:List D)(vs:List V)(hf:ds.all (fl k)=true)(r:zE K ad H ds vs):zE K ad' H ds vs:=zE.cut1 k (Rel.cut k) ds vs hf r
end Dp
namespace Dp
open PySem PySem.Spec PyProof.Rows L2 My
variable [B:Bs]
mutual
theorem Rel.low {K:PySem.W.Frag}{ad ad':List Addr}{H H':Hp}{m:Nat}(hm:ad.length<=m):∀ {d:D} {u v:V},Rel K ad H d u->Rel K ad' H' d v->Rel K (ad'.take m) H' d v
 | _,_,_,.non,.non=>.non
 | _,_,_,.bl b,.bl _=>.bl b
 | _,_,_,.int i,.int _=>.int i
 | _,_,_,.str x,.str _=>.str x
 | _,_,_,.ty n,.ty _=>.ty n
 | _,_,_,.tup _ r,.tup h r'=>.tup h (zE.low hm r r')
 | _,_,_,.rl _ r,.rl h r'=>.rl h (zE.low hm r r')
 | _,_,_,.exn _ _ _,.exn h e n=>.exn h e n
 | _,_,_,.ref h,.ref h'=>.ref (by rw [List.getElem?_take_of_lt (Nat.lt_of_lt_of_le (My.zaE h) hm)];exact h')
theorem zE.low {K:PySem.W.Frag}{ad ad':List Addr}{H H':Hp}{m:Nat}(hm:ad.length<=m):∀ {ds:List D} {us vs:List V},zE K ad H ds us->zE K ad' H' ds vs->zE K (ad'.take m) H' ds vs
 | _,_,_,.nil,.nil=>.nil
 | _,_,_,.cons r t,.cons r' t'=>.cons (Rel.low hm r r') (zE.low hm t t')
end
theorem zaC.low {K:PySem.W.Frag}{ad ad':List Addr}{H H':Hp}{m:Nat}(hm:ad.length<=m):∀ {fs:List (Str×D)} {us vs:List (Str×V)},zaC K ad H fs us->zaC K ad' H' fs vs->zaC K (ad'.take m) H' fs vs
 | _,_,_,.nil,.nil=>.nil
 | _,_,_,.cons r t,.cons r' t'=>.cons (Rel.low hm r r') (zaC.low hm t t')
theorem RelK.low {K:PySem.W.Frag}{ad ad':List Addr}{H H':Hp}{m:Nat}(hm:ad.length<=m):∀ {fs:List (Str×D)} {us vs:List (Key×V)},RelK K ad H fs us->RelK K ad' H' fs vs->RelK K (ad'.take m) H' fs vs
 | _,_,_,.nil,.nil=>.nil
 | _,_,_,.cons r t,.cons r' t'=>.cons (Rel.low hm r r') (RelK.low hm t t')
theorem zau.low {K:PySem.W.Frag}{ad ad':List Addr}{H H':Hp}{m:Nat}(hm:ad.length<=m):∀ {fs:List (List Key×D)} {us vs:List (List Key×V)},zau K ad H fs us->zau K ad' H' fs vs->zau K (ad'.take m) H' fs vs
 | _,_,_,.nil,.nil=>.nil
 | _,_,_,.cons r t,.cons r' t'=>.cons (Rel.low hm r r') (zau.low hm t t')
theorem zit {K:PySem.W.Frag}{ad:List Addr}{H:Hp}{S:Sto}{Q0:DK}{Q:VK}(st:zK K ad H S)(k:KK K ad H Q0 Q):KK K ad H (Fin S Q0) Q:=by
 intro d S' v H' ad' hf w st' r
 rcases hf with q | ⟨S1,pre,hlen,hd,hc,q⟩
 ·exact k d S' v H' ad' q w st' r
 have hS:S1.length<=S'.length:=pre.length_le
 have had:ad.length<=S1.length:=by rw [st.len];exact hlen
 have htk:∀ {n:Nat} {a:Addr},(ad'.take S1.length)[n]?=some a->ad'[n]?=some a:=fun {n a} e=>by
  have hn:=My.zaE e
  rw [List.length_take] at hn
  rw [List.getElem?_take_of_lt (by omega)] at e
  exact e
 have w1:Wd ad H (ad'.take S1.length) H':=by
  refine⟨?_,w.keep,w.tup,w.frz,fun b m n=>w.new b (List.mem_of_mem_take m) n⟩
  obtain⟨t,rfl⟩:=w.pre
  rw [List.take_append,List.take_of_length_le had]
  exact List.prefix_append _ _
 refine k d S1 v H' _ q w1 ⟨st.wd.trans w1,by rw [List.length_take,st'.len];omega,st'.nd.sublist (List.take_sublist _ _),fun n a c e1 e2=>?_⟩ ?_
 ·have e1':=htk e1
  have ok:=st'.cell n a c e1' (zi3 pre e2)
  rcases hc n c e2 with h | h
  ·obtain⟨a0,ea,ok0⟩:=st.get h
   cases c with
   | ins c fs =>
    obtain⟨C,dx,vs,hv,c1,c2,rv,hn⟩:=ok
    obtain⟨_,_,us,_,_,_,ru,_⟩:=ok0
    exact⟨C,dx,vs,hv,c1,c2,zaC.low had ru rv,hn⟩
   | dk kvs =>
    obtain⟨vs,hv,rv⟩:=ok
    obtain⟨us,hu,ru⟩:=ok0
    exact⟨vs,hv,RelK.low had ru rv⟩
   | dt kvs =>
    obtain⟨vs,hv,rv⟩:=ok
    obtain⟨us,hu,ru⟩:=ok0
    exact⟨vs,hv,zau.low had ru rv⟩
   | lst xs =>
    obtain⟨vs,hv,rv⟩:=ok
    obtain⟨us,hu,ru⟩:=ok0
    exact⟨vs,hv,zE.low had ru rv⟩
  ·cases c with
   | ins c fs=>cases h
   | dk _=>cases h
   | dt _=>cases h
   | lst xs =>
    obtain⟨vs,hv,rv⟩:=ok
    exact⟨vs,hv,zE.cut 20 _ _ h rv⟩
 ·rcases hd with h | ⟨n,rfl,hn⟩
  ·exact Rel.cut 20 _ _ h r
  ·cases r with
   | ref e=>exact .ref (by rw [List.getElem?_take_of_lt hn];exact e)
omit B in
theorem zU {P:Program}{w:World}{K:PySem.W.Frag}{mg:Str->Option Value}{base:Heap}{x qual:Str}{st:Stmt}{f:Addr}{fd:FuncData}{N ps:List Str}{k:Nat}{sp:DSp}{b:DS}(F:Fun K x qual st f fd)(S:zM N ps (zF st))
  (len:∀ ds So Q,sp ds So Q->ds.length=ps.length) (body:BodyOk N.length b sp)
  (term:∀ (cdv:Value) (A:Around) (outer:List Env) (s:Shared) (H:Hp) (E:XK),zax k (A.deeper (envOfC qual (zF st) s.heap.objs.size f cdv))->∀ [Bs],zeZ (ze2 CX0 P w K mg base N qual (zF st) f cdv A outer s H E).nox (zaZ st) b) :
  zW P w K mg base CX0 (k+1) f fd ps (upF K sp):=by
 with_unfolding_all
  refine F.ok S (fun vs H Q E ⟨ad,So,ds,Q0,so,r,hf,kk⟩=>by rw [<- r.length];exact len ds So Q0 hf) fun cdv A outer s H vs Q E hr ⟨ad,So,ds,Q0,so,r,hf,kk⟩=>?_
  letI:Bs:=⟨ad,H⟩
  refine⟨_,term cdv A outer s H E hr,ad,zd3 N.length ds,So,_,so,zkW N r,body ds So Q0 hf,⟨fun ρ S' σ H' ad' q w' st' rh=>zit so kk .non S' .non H' ad' q w' st' .non,zit so kk,fun _ _ _ _ _ q=>q.elim,fun _ _ _ _ _ q=>q.elim⟩⟩
omit B in
theorem zsn {K:PySem.W.Frag}{H:Hp}{a:Addr}{ns:List Int}(hl:ns.length<=63)(hg:∀ n∈ns,Hg n)(hO:Only H)(hS:SqL K H a (ns.map V.int)):upF K zez [.ref a] H (fun v _=>v=.bl true) fun _ _ _=>False:=by
 have hr:zhI K H a (ns.map V.int):=by
  rcases hS with (h | h) | h
  ·rcases hO a with e | ⟨o,xs,e⟩
   ·rw [h] at e;cases e
   ·rw [h] at e;cases e
  ·exact .inl h
  ·exact .inr h
 refine⟨[],[],[.rl (ns.map D.int)],fun d _=>d=.bl true,@zK.mk ⟨[],H⟩ _ _ _ _ Wd.refl rfl List.nodup_nil (fun n a c e=>by simp at e),.cons (.rl hr (zE.mk_ints ns)) .nil,⟨ns,rfl,⟨rfl,hg⟩,hl,fun _=>rfl⟩,fun d S' v H' ad' q w st' r=>?_⟩
 have q':d=.bl true:=q
 subst q'
 cases r
 rfl
omit B in
theorem zk4:∀ {ns:List Int} {n:Int},n∈ns->PySem.W.WData.weight (.int n)<=PySem.W.WData.weightAll (ns.map PySem.W.WData.int)
 | m::ns,n,h=>by
  rw [List.map_cons,PySem.W.WData.weightAll]
  rcases List.mem_cons.mp h with rfl | h
  ·omega
  ·have:=zk4 h;omega
omit B in
theorem zpd {l:PySem.W.OpenLaw}{n k:Nat}{q:Program}{loose:List Str}{XP:(Str->Option Value)->Heap->Prop}{YP:World->Heap->Prop}{d:DefRec}{K:Params->PySem.W.Frag}{sp:World->Sp}{x:Str}
  (hn:l.most=some n) (hn2:n<=sizeLine) (hdf:d.params.defaults=[]) (hr:zax k callerA) (hY:∀ (w:World) (h:Heap),YP w h->(K w.params).In h)
  (F:∀ (w:World) (mg:Str->Option Value) (fa:Addr) (h:Heap),(K w.params).In h->h.Ns mainGlobals mg->mg d.name=some (.ref fa) ->
   ∃ fd:FuncData,(∀ (s:Shared) (u:Value),BindsTo s fd ⟨[u],[]⟩ [(x,u)])/\∀ base:Heap,(K w.params).In base->base.Ns mainGlobals mg->zW l.prog w (K w.params) mg base CX0 k fa fd [x] (sp w))
  (hsp:∀ (w:World) (H:Hp) (a:Addr) (ns:List Int),ns.length<=n->(∀ m∈ns,Hg m)->Only H->SqL (K w.params) H a (ns.map V.int)->sp w [.ref a] H (fun v _=>v=.bl true) fun _ _ _=>False) :
  PySem.W.WalkO q loose XP YP l.row.toRowW d [] (fun f vs=>PySem.call f vs):=by
 intro w s₀ s₁ mg mb G Y fa o pm cd doc dV kV ho hd hcd hD hmg hg args vals as hpre hlay hrd hwl hlo
 obtain rfl:dV=.none:=PySem.W.Dflts.none hD hdf
 obtain rfl:kV=.none:=PySem.W.Dflts.noKw hD
 obtain⟨a,vs,ns,rfl,rfl,hobj,hints,hlen⟩:=Att.znO hn hpre hwl
 have hbits:∀ m∈ns,Hg m:=fun m hm=>by
  have h1:PySem.W.WData.layable (.list (ns.map .int))=true:=by simpa [PySem.W.WData.layableAll] using hlay
  have h2:PySem.W.WData.weight (.list (ns.map PySem.W.WData.int))<=2 ^ 20:=by
   unfold PySem.W.WData.layable at h1
   rw [Bool.and_eq_true,decide_eq_true_eq] at h1
   exact h1.2
  have h3:=Nat.le_trans (zk4 hm) (by simpa only [PySem.W.WData.weight] using h2)
  exact zqa (by simpa only [PySem.W.WData.weight,Builtin.Int.intBits] using h3)
 have KX:=hY w _ Y
 obtain⟨fd,hb,hF⟩:=F w mg fa _ KX G.T.g hmg
 refine PySem.W.enter_call (codeAny_mono (zoU KX G.T.g G.T.b G.T.builtins G.T.nolimit hg hobj hints (Nat.le_trans hlen hn2) hr hF hb (fun H hO hS=>hsp w H a ns hlen hbits hO hS) fun _ _ _ z=>z) fun r s' hq=>?_)
 obtain⟨rfl,h2,h3,h4⟩:=hq
 exact⟨.inl ⟨.bool true,.bool true,[],rfl,fun _=>rfl,.bool true,Att.zne l _,fun _=>⟨List.Pairwise.nil,fun _ hm=>(nomatch hm)⟩⟩,h2,h3,h4⟩
omit B in
theorem zpJ {us:List Value}(hl:us.length=1):∃ a0,us=[a0]:=by
  cases us with
  | nil=>simp at hl
  | cons a0 us =>
  cases us with
  | nil=>exact⟨a0,rfl⟩
  | cons b us=>simp at hl
omit B in
theorem zl8 {us:List Value}(hl:us.length=2):∃ a0 a1,us=[a0,a1]:=by
  cases us with
  | nil=>simp at hl
  | cons a0 us =>
  cases us with
  | nil=>simp at hl
  | cons a1 us =>
  cases us with
  | nil=>exact⟨a0,a1,rfl⟩
  | cons b us=>simp at hl
omit B in
theorem zpH {us:List Value}(hl:us.length=3):∃ a0 a1 a2,us=[a0,a1,a2]:=by
  cases us with
  | nil=>simp at hl
  | cons a0 us =>
  cases us with
  | nil=>simp at hl
  | cons a1 us =>
  cases us with
  | nil=>simp at hl
  | cons a2 us =>
  cases us with
  | nil=>exact⟨a0,a1,a2,rfl⟩
  | cons b us=>simp at hl
omit B in
theorem zpM {us:List Value}(hl:us.length=4):∃ a0 a1 a2 a3,us=[a0,a1,a2,a3]:=by
  cases us with
  | nil=>simp at hl
  | cons a0 us =>
  cases us with
  | nil=>simp at hl
  | cons a1 us =>
  cases us with
  | nil=>simp at hl
  | cons a2 us =>
  cases us with
  | nil=>simp at hl
  | cons a3 us =>
  cases us with
  | nil=>exact⟨a0,a1,a2,a3,rfl⟩
  | cons b us=>simp at hl
omit B in
theorem zpW {us:List Value}(hl:us.length=5):∃ a0 a1 a2 a3 a4,us=[a0,a1,a2,a3,a4]:=by
  cases us with
  | nil=>simp at hl
  | cons a0 us =>
  cases us with
  | nil=>simp at hl
  | cons a1 us =>
  cases us with
  | nil=>simp at hl
  | cons a2 us =>
  cases us with
  | nil=>simp at hl
  | cons a3 us =>
  cases us with
  | nil=>simp at hl
  | cons a4 us =>
  cases us with
  | nil=>exact⟨a0,a1,a2,a3,a4,rfl⟩
  | cons b us=>simp at hl
omit B in
theorem ztH {us:List Value}(hl:us.length=8):∃ a0 a1 a2 a3 a4 a5 a6 a7,us=[a0,a1,a2,a3,a4,a5,a6,a7]:=by
  cases us with
  | nil=>simp at hl
  | cons a0 us =>
  cases us with
  | nil=>simp at hl
  | cons a1 us =>
  cases us with
  | nil=>simp at hl
  | cons a2 us =>
  cases us with
  | nil=>simp at hl
  | cons a3 us =>
  cases us with
  | nil=>simp at hl
  | cons a4 us =>
  cases us with
  | nil=>simp at hl
  | cons a5 us =>
  cases us with
  | nil=>simp at hl
  | cons a6 us =>
  cases us with
  | nil=>simp at hl
  | cons a7 us =>
  cases us with
  | nil=>exact⟨a0,a1,a2,a3,a4,a5,a6,a7,rfl⟩
  | cons b us=>simp at hl
end Dp
namespace Dp
open PySem PySem.Spec PyProof.Rows L2 My
variable [B:Bs]
section
variable {X:Cx}
theorem zqG {K:PySem.W.Frag}{ad:List Addr}{H:Hp}{a:Addr}{x:D}{ds:List D}(r:Rel K ad H x (.ref a)):zf7 K ad H ⟨zcG 0 ds,fun S=>Lst S x ds⟩ (Ite K a) where
 go:=fun ad1 H1 S i w st ok hi=>by
  obtain⟨a',vs,e,s,rs⟩:=Lst.sq st ok (r.wd w)
  cases e
  have hi':i<ds.length:=by rw [<- zaQ 0 ds];exact hi
  exact⟨vs,vs[i]'(by rw [<- rs.length];exact hi'),s,List.getElem?_eq_getElem _⟩
 yld:=fun ad1 H1 S i d y H' w st ok hd ⟨p,ey,hp,he⟩=>by
  obtain⟨a',vs,e,s,rs⟩:=Lst.sq st ok (r.wd w)
  cases e
  obtain⟨z,hz,rfl⟩:=zbH hd
  obtain⟨v,ev,rv⟩:=rs.get hz
  rw [he vs v s ev,ey]
  refine⟨Wd.laid hp,st.laid hp,.tup zaq (.cons ?_ (.cons (rv.wd (Wd.laid hp)) .nil))⟩
  rw [Nat.zero_add];exact .int _
 stop:=fun ad1 H1 S w st ok=>by
  obtain⟨a',vs,e,s,rs⟩:=Lst.sq st ok (r.wd w)
  cases e
  exact⟨vs,s,by show _<=(zcG 0 ds).length;rw [zaQ,rs.length];exact Nat.le_refl _⟩
theorem zoI {K:PySem.W.Frag}{ad:List Addr}{H:Hp}{a:Addr}{vs:List V}{ds:List D}(h:H a=some (.tup vs))(r:zE K ad H ds vs):zf7 K ad H ⟨zcG 0 ds,fun _=>True⟩ (zpt K a) where
 go:=fun ad1 H1 S i w st _ hi=>by
  have hi':i<ds.length:=by rw [<- zaQ 0 ds];exact hi
  exact⟨vs,vs[i]'(by rw [<- r.length];exact hi'),SqT.of (w.tup _ _ h),List.getElem?_eq_getElem _⟩
 yld:=fun ad1 H1 S i d y H' w st _ hd ⟨p,ey,hp,he⟩=>by
  obtain⟨z,hz,rfl⟩:=zbH hd
  obtain⟨v,ev,rv⟩:=r.get hz
  rw [he vs v (SqT.of (w.tup _ _ h)) ev,ey]
  refine⟨Wd.laid hp,st.laid hp,.tup zaq (.cons ?_ (.cons ((rv.wd w).wd (Wd.laid hp)) .nil))⟩
  rw [Nat.zero_add];exact .int _
 stop:=fun ad1 H1 S w st _=>⟨vs,SqT.of (w.tup _ _ h),by show _<=(zcG 0 ds).length;rw [zaQ,r.length];exact Nat.le_refl _⟩
theorem zbT {es:List Expr}{kk:Nat}{tpos:Pos}{a:Expr}{t:DA}{p pos:Pos}(hg:Gl X "enumerate")(hm:X.mg "enumerate"=none)(ha:PAD X [a] t)(hs:starEach [a] X.env=[(false,eval a X.env)]:=by exact zdA rfl) :
  PID X (.Tuple es kk tpos) (.Call (.Name "enumerate" p) [a] [] pos) (Dp.zeL t):=by with_unfolding_all exact (zgW (zoF hg hm ha hs) fun σ H R hh=>el8 hh fun ad ρ S R0 st rh q k =>
 ⟨ad,ρ,S,_,st,rh,q,fun ds S1 vs H1 ad1 q0 w1 st1 r1=>by
  rcases q0 with ⟨x,xs,ed,hx,q1⟩ | ⟨xs,ed,q1⟩
  ·subst ed
   obtain⟨v,rfl,rv⟩:=zcO r1
   obtain⟨b,ws,rfl,s,rs⟩:=hx.sq st1 rv
   exact⟨b,rfl,.inl ⟨⟨ws,s⟩,k _ S1 _ H1 ad1 q1 w1 st1 (zqG rv)⟩⟩
  ·subst ed
   obtain⟨v,rfl,rv⟩:=zcO r1
   cases rv with
   | tup h r=>exact⟨_,rfl,.inr ⟨⟨_,SqT.of h⟩,k _ S1 _ H1 ad1 q1 w1 st1 (zoI h r)⟩⟩⟩)
theorem zs8 {K:PySem.W.Frag}{ad:List Addr}{H:Hp}{a b:Addr}{x y:D}{ds es:List D}(r:Rel K ad H x (.ref a))(r2:Rel K ad H y (.ref b)):zf7 K ad H ⟨zb0 ds es,fun S=>Lst S x ds/\Lst S y es⟩ (zmr K true true a b) where
 go:=fun ad1 H1 S i w st ok hi=>by
  obtain⟨a',vs,e,s,rs⟩:=Lst.sq st ok.1 (r.wd w)
  obtain⟨b',us,e',s',rs'⟩:=Lst.sq st ok.2 (r2.wd w)
  cases e
  cases e'
  have hi':i<min ds.length es.length:=by rw [<- zc7 ds es];exact hi
  exact⟨vs,us,vs[i]'(by rw [<- rs.length];omega),us[i]'(by rw [<- rs'.length];omega),s,s',List.getElem?_eq_getElem _,List.getElem?_eq_getElem _⟩
 yld:=fun ad1 H1 S i d z H' w st ok hd ⟨p,ey,hp,he⟩=>by
  obtain⟨a',vs,e,s,rs⟩:=Lst.sq st ok.1 (r.wd w)
  obtain⟨b',us,e',s',rs'⟩:=Lst.sq st ok.2 (r2.wd w)
  cases e
  cases e'
  obtain⟨u1,u2,h1,h2,rfl⟩:=zf9 hd
  obtain⟨v,ev,rv⟩:=rs.get h1
  obtain⟨u,eu,ru⟩:=rs'.get h2
  rw [he vs us v u s s' ev eu,ey]
  exact⟨Wd.laid hp,st.laid hp,.tup zaq (.cons (rv.wd (Wd.laid hp)) (.cons (ru.wd (Wd.laid hp)) .nil))⟩
 stop:=fun ad1 H1 S w st ok=>by
  obtain⟨a',vs,e,s,rs⟩:=Lst.sq st ok.1 (r.wd w)
  obtain⟨b',us,e',s',rs'⟩:=Lst.sq st ok.2 (r2.wd w)
  cases e
  cases e'
  refine⟨vs,us,s,s',?_⟩
  show vs.length<=(zb0 ds es).length\/us.length<=(zb0 ds es).length
  rw [zc7,rs.length,rs'.length];omega
theorem zqi {K:PySem.W.Frag}{ad:List Addr}{H:Hp}{a b:Addr}{vs us:List V}{ds es:List D}(h:H a=some (.tup vs))(r:zE K ad H ds vs)(h2:H b=some (.tup us))(r2:zE K ad H es us):zf7 K ad H ⟨zb0 ds es,fun _=>True⟩ (zmr K false false a b) where
 go:=fun ad1 H1 S i w st _ hi=>by
  have hi':i<min ds.length es.length:=by rw [<- zc7 ds es];exact hi
  exact⟨vs,us,vs[i]'(by rw [<- r.length];omega),us[i]'(by rw [<- r2.length];omega),SqT.of (w.tup _ _ h),SqT.of (w.tup _ _ h2),List.getElem?_eq_getElem _,List.getElem?_eq_getElem _⟩
 yld:=fun ad1 H1 S i d z H' w st _ hd ⟨p,ey,hp,he⟩=>by
  obtain⟨u1,u2,h1,h2',rfl⟩:=zf9 hd
  obtain⟨v,ev,rv⟩:=r.get h1
  obtain⟨u,eu,ru⟩:=r2.get h2'
  rw [he vs us v u (SqT.of (w.tup _ _ h)) (SqT.of (w.tup _ _ h2)) ev eu,ey]
  exact⟨Wd.laid hp,st.laid hp,.tup zaq (.cons ((rv.wd w).wd (Wd.laid hp)) (.cons ((ru.wd w).wd (Wd.laid hp)) .nil))⟩
 stop:=fun ad1 H1 S w st _=>by
  refine⟨vs,us,SqT.of (w.tup _ _ h),SqT.of (w.tup _ _ h2),?_⟩
  show vs.length<=(zb0 ds es).length\/us.length<=(zb0 ds es).length
  rw [zc7,r.length,r2.length];omega
theorem zrg {es:List Expr}{kk:Nat}{tpos:Pos}{a b:Expr}{t:DA}{p pos:Pos}(hg:Gl X "zip")(hm:X.mg "zip"=none)(ha:PAD X [a,b] t)(hs:starEach [a,b] X.env=[(false,eval a X.env),(false,eval b X.env)]:=by exact zki rfl rfl)(hs2:starEach [b] X.env=[(false,eval b X.env)]:=by exact zdA rfl) :
  PID X (.Tuple es kk tpos) (.Call (.Name "zip" p) [a,b] [] pos) (Dp.zoM t):=by with_unfolding_all exact (zgW (zra hg hm ha hs hs2) fun σ H R hh=>el8 hh fun ad ρ S R0 st rh q k =>
 ⟨ad,ρ,S,_,st,rh,q,fun ds S1 vs H1 ad1 q0 w1 st1 r1=>by
  rcases q0 with ⟨x,y,xs,ys,ed,hx,hy,q1⟩ | ⟨xs,ys,ed,q1⟩
  ·subst ed
   obtain⟨v,u,rfl,rv,ru⟩:=zhC r1
   obtain⟨b1,ws,rfl,s,rs⟩:=hx.sq st1 rv
   obtain⟨b2,ws2,rfl,s2,rs2⟩:=hy.sq st1 ru
   exact⟨true,b1,b2,rfl,⟨ws,s⟩,⟨ws2,s2⟩,k _ S1 _ H1 ad1 q1 w1 st1 (zs8 rv ru)⟩
  ·subst ed
   obtain⟨v,u,rfl,rv,ru⟩:=zhC r1
   cases rv with
   | tup h r =>
    cases ru with
    | tup h2 r2=>exact⟨false,_,_,rfl,⟨_,SqT.of h⟩,⟨_,SqT.of h2⟩,k _ S1 _ H1 ad1 q1 w1 st1 (zqi h r h2 r2)⟩⟩)
end
section
variable {X:Cx}{a b:Expr}{ta tb:DE}{pos:Pos}
theorem zkR (x:D)(hx:fl 20 x=true):∀ ys:List D,ys.all (fl 20)=true->((zat ys).any fun z=>PyData.eqv z (pyD x))=ys.any fun z=>eqv z x
 | [],_=>rfl
 | y::ys,h=>by
  rw [List.all_cons,Bool.and_eq_true] at h
  show (PyData.eqv (pyD y) (pyD x)||(zat ys).any fun z=>PyData.eqv z (pyD x))=_
  rw [zkm 20 y x h.1 hx,zkR x hx ys h.2]
  rfl
def zrn (X:Cx)(g:Bool->Bool):R2:=fun x y H Q=>∃ ad S dx dy b,zK X.K ad H S/\Rel X.K ad H dx x/\Rel X.K ad H dy y/\InD S dx dy b/\Q (.bl (g b)) H
theorem zjx {pins:List (Addr×Obj)}{σ:L2.St}{H:Hp}{s:Shared}{ad:List Addr}{S:Sto}{dx dy:D}{x y:V}{v u:Value}{b:Bool}(I:Inv X pins σ H s)(st:zK X.K ad H S)(rx:Rel X.K ad H dx x)(ry:Rel X.K ad H dy y)(qx:RelV x v)(qy:RelV y u)(h:InD S dx dy b) :
  ∃ pd ps as bs,Reads s.heap v pd as/\(Reads s.heap u (.list ps) bs\/Reads s.heap u (.tuple ps) bs)/\pd.canLay0=true/\PyData.canLayAll0 ps=true/\min (PyData.depthAll ps) pd.depth<=60/\(ps.any fun z=>PyData.eqv z pd)=b:=by
 obtain⟨ys,hy,fx,fy,rfl⟩:=h
 obtain⟨as,ra⟩:=zcn I 20 dx x v fx rx qx
 obtain⟨c1,d1⟩:=zf5 20 dx fx
 obtain⟨c2,d2⟩:=zdU 20 ys fy
 rcases hy with rfl | hy
 ·obtain⟨bs,rb⟩:=zcn I 21 (.tup ys) y u fy ry qy
  exact⟨pyD dx,zat ys,as,bs,ra,.inr rb,c1,c2,by omega,zkR dx fx ys fy⟩
 ·obtain⟨a2,vs2,rfl,s2,r2⟩:=hy.sq st ry
  cases qy
  obtain⟨its2,rv2,ht2,hz2⟩:=I.list s2
  obtain⟨o2,ho2,hc2,n2,hd2⟩:=ht2.isList
  obtain⟨bs,rb⟩:=zer I 20 (zcn I 20) _ _ _ fy r2 rv2
  exact⟨pyD dx,zat ys,as,_,ra,.inl (.list ho2 hc2 hd2 (by simpa using rb)),c1,c2,by omega,zkR dx fx ys fy⟩
theorem ziy {k:Nat}(hr:zax k X.A):OC X .In oIn:=⟨_,(OpR.or (r:=zrn X id) (fun pins s σ H x y v u Q I qx qy ⟨ad,S,dx,dy,b,st,rx,ry,h,q⟩=>by
  obtain⟨pd,ps,as,bs,ra,rb,c1,c2,hd,e⟩:=zjx I st rx ry qx qy h
  have hu:=hr.units
  rcases rb with rb | rb
  ·exact PySem.SeqAt.in_list_reads rb ra c2 c1 (by omega) ⟨.bl _,H,I,by rw [e];rfl,q⟩
  ·exact PySem.SeqAt.in_tuple_reads rb ra c2 c1 (by omega) ⟨.bl _,H,I,by rw [e];rfl,q⟩) zoe),
 fun ad H S x y v u Q0 Q st rx ry h k=>by
  rcases h with ⟨b,h,q⟩ | ⟨c,z,rfl,rfl,q⟩
  ·exact .inl ⟨ad,S,x,y,b,st,rx,ry,h,k _ S _ H ad q Wd.refl st (.bl _)⟩
  ·cases rx
   cases ry
   exact .inr ⟨_,z,rfl,rfl,by rw [PySem.StrLaws.found_one];exact k _ S _ H ad q Wd.refl st (.bl _)⟩⟩
theorem zh5 {k:Nat}(hr:zax k X.A):OC X .NotIn zgs:=⟨_,(OpR.or (r:=zrn X (!·)) (fun pins s σ H x y v u Q I qx qy ⟨ad,S,dx,dy,b,st,rx,ry,h,q⟩=>by
  obtain⟨pd,ps,as,bs,ra,rb,c1,c2,hd,e⟩:=zjx I st rx ry qx qy h
  have hu:=hr.units
  rcases rb with rb | rb
  ·exact PySem.SeqAt.notIn_list_reads rb ra c2 c1 (by omega) ⟨.bl _,H,I,by rw [e];rfl,q⟩
  ·exact PySem.SeqAt.notIn_tuple_reads rb ra c2 c1 (by omega) ⟨.bl _,H,I,by rw [e];rfl,q⟩) zk0),
 fun ad H S x y v u Q0 Q st rx ry h k=>by
  rcases h with ⟨b,h,q⟩ | ⟨c,z,rfl,rfl,q⟩
  ·exact .inl ⟨ad,S,x,y,b,st,rx,ry,h,k _ S _ H ad q Wd.refl st (.bl _)⟩
  ·cases rx
   cases ry
   exact .inr ⟨_,z,rfl,rfl,by rw [PySem.StrLaws.found_one];exact k _ S _ H ad q Wd.refl st (.bl _)⟩⟩
theorem zja {op:CmpOp}{r':DR2}(o:OC X op r')(ha:PD X a ta)(hb:PD X b tb)(hm:behindInMarks op b=false:=by with_unfolding_all rfl):PD X (.Compare a [op] [b] pos) (dOp r' ta tb):=by
 with_unfolding_all
  obtain⟨r,ho,od⟩:=o
  exact zaL (zl1 ho ha hb hm) fun _ _ _=>zg6 od
theorem zfu {op:CmpOp}{r':DR2}(o:OC X op r')(ha:PD X a ta)(hb:PD X b tb)(hm:behindInMarks op b=false:=by with_unfolding_all rfl):PTD X (.Compare a [op] [b] pos) (dT (dOp r' ta tb)):=by
 with_unfolding_all
  obtain⟨r,ho,od⟩:=o
  refine zfi (zlP ho ha hb hm) fun σ H Q hh=>el8 hh fun ad ρ S Q0 st rh q k=>?_
  refine zg6 (Q:=fun x H'=>∃ k,x=.bl k/\Q k H') od ⟨ad,ρ,S,_,st,rh,q,fun d S' v H' ad' ⟨b,e,q'⟩ w st' r=>?_⟩
  subst e
  cases r
  exact⟨b,rfl,k b S' H' ad' q' w st'⟩
end
section
variable {X:Cx}
end
section
variable {X:Cx}{e:Expr}{pos p2 p3:Pos}{lo:Option Expr}
end
theorem zkM {K:PySem.W.Frag}{ad:List Addr}{H:Hp}:∀ {zs:List Str} {vs:List V},zE K ad H (zs.map D.str) vs->vs=zs.map V.str
 | [],_,.nil=>rfl
 | z::zs,_,.cons r t=>by cases r;rw [zkM t];rfl
theorem zlZ {X:Cx}{a:Expr}{t:DA}{p1 p2 pos1 pos2:Pos}(hgl:Gl X "len")(hml:X.mg "len"=none)(hgr:Gl X "set")(hmr:X.mg "set"=none)(ha:PAD X [a] t)(hc:X.calm=true:=by rfl)
  (hs:starEach [a] X.env=[(false,eval a X.env)]:=by exact zdA rfl)
  (hs3:starEach [.Call (.Name "set" p2) [a] [] pos2] X.env=[(false,eval (.Call (.Name "set" p2) [a] [] pos2) X.env)]:=by rfl) :
  PD X (.Call (.Name "len" p1) [.Call (.Name "set" p2) [a] [] pos2] [] pos1) (dB zjZ t):=by with_unfolding_all exact (zaL (zp7 hc hgl hml hgr hmr ha hs hs3) fun σ H Q hh=>el8 hh fun ad ρ S Q0 st rh q k =>
  ⟨ad,ρ,S,_,st,rh,q,fun ds S1 vs H1 ad1 ⟨x,zs,ed,hx,hl,q1⟩ w1 st1 r1=>by
   subst ed
   obtain⟨v,rfl,rv⟩:=zcO r1
   obtain⟨a1,ws,rfl,hs,rs⟩:=hx.sq st1 rv
   cases zkM rs
   exact⟨a1,zs,rfl,hs,hl,k _ S1 _ H1 ad1 q1 w1 st1 (.int _)⟩⟩)
section
variable {X:Cx}{e:Expr}{t:DA}{p pos kp cp:Pos}{j:Nat}
end
section
variable {X:Cx}{e o value:Expr}{te to tv:DE}{f c:Str}{pos pos':Pos}
theorem zbo (he:PD X e te)(hb:attributeBase e f X.env (eval e X.env)=eval e X.env):PD X (.Attribute e f pos) (zcy f te):=by with_unfolding_all exact (zaL (zrD he hb) fun σ H Q hh=>el8 hh fun ad ρ S Q0 st rh q k =>
  ⟨ad,ρ,S,_,st,rh,q,fun x S1 v H1 ad1 ⟨n,c,fs,d,ex,hn,hl,q1⟩ w1 st1 r1=>by
   subst ex
   cases r1 with
   | ref en =>
    obtain⟨C,dx,vs,h1,hc,hns,rf,hna⟩:=st1.cell n _ _ en hn
    obtain⟨v,hv,rv⟩:=rf.look hl
    obtain⟨q2,hq2,e2⟩:=zkH hl
    exact⟨_,C,dx,vs,v,rfl,h1,hc,e2▸hna q2 hq2,hv,k d S1 v H1 ad1 q1 w1 st1 rv⟩⟩)
theorem zdf (hna:∀ C,PySem.W.nsIn X.K mainGlobals c=some (some (.ref C))->zaj X.K C f)(ho:PD X o to)(hv:PD X value tv)(hs:swapsWith value (some (.Attribute o f pos')) pos.line X.env=pure false:=by rfl) :
  PSD X (.Assign [.Attribute o f pos'] value pos) (zdS c f to tv):=by with_unfolding_all exact (zbm (zrM ho hv hs) fun E σ H hh=>el8 hh fun ad ρ S E0 so rh q k =>
 ⟨ad,ρ,S,_,so,rh,q,fun y S1 vy H1 ad1 q1 w1 st1 r1=>⟨ad1,ρ,S1,_,st1,rh.wd w1,q1,fun x S2 vx H2 ad2 ⟨n,fs,ex,hn,hl,q2⟩ w2 st2 r2=>by
  subst ex
  cases r2 with
  | ref en =>
   obtain⟨C,dx,vs,h1,hc,hns,rf,hna'⟩:=st2.cell n _ _ en hn
   have w3:Wd ad2 H2 ad2 (upd H2 _ (.ins C dx (zbL f vy vs))):=Wd.putI en h1
   exact⟨_,C,dx,vs,rfl,h1,hc,hna C hns,by rw [<- rf.length];omega,k.nx ρ _ σ _ ad2 q2 ((w1.trans w2).trans w3) (st2.putI en h1 hc hns rf hna' (hna C hns) (r1.wd w2)) (((rh.wd w1).wd w2).wd w3)⟩⟩⟩)
omit B in
theorem zl3 {K:PySem.W.Frag}{C:Addr}{c:Str}{init:DSp}(hc:Cls K C)(hn:PySem.W.nsIn K mainGlobals c=some (some (.ref C))):∀ vs H Q,upF K (zmV c init) vs H Q E0->∀ x dx,H x=none->H dx=none->dx≠x ->
  upF K init (.ref x::vs) (upd (upd H dx (.own x)) x (.ins C dx [])) (fun v H2=>v=.non/\Q (.ref x) H2) E0:=by
 rintro vs H Q ⟨ad,S,ds,Q0,st,r,hf,k⟩ x dx hx hdx hne
 letI:Bs:=⟨ad,H⟩
 obtain⟨w,st'⟩:=st.newI (c:=c) hx hdx hne hc hn
 have rx:Rel K (ad++[x]) (upd (upd H dx (.own x)) x (.ins C dx [])) (.ref S.length) (.ref x):=.ref (by rw [<- st.len,List.getElem?_append_right (Nat.le_refl _),Nat.sub_self];rfl)
 have hf':init (.ref S.length::ds) (S++[.ins c []]) (fun d S2=>d=.non/\Q0 (.ref S.length) S2):=hf
 refine⟨ad++[x],S++[.ins c []],.ref S.length::ds,_,st'.base,.cons rx (r.wd w),hf',fun d S' v H' ad' q w' st2 rv=>?_⟩
 obtain⟨rfl,q⟩:=q
 cases rv
 exact⟨rfl,k _ S' _ H' ad' q (w.trans w') (st'.back st2) (rx.wd w')⟩
theorem zkI {k j:Nat}{x:Str}{e:Expr}{es:List Expr}{t:DA}{p:Pos}{f:DSp}(G:zjl X.prog X.w X.K X.mg X.base k x (upF X.K f))(hr:zax j X.A)
  (ha:PAD X (e::es) t) (hk:k+1<=j:=by decide) (hg:Gl X x:=by rfl) (hdb:(x==("__debug__":Str))=false:=by decide) (he:starEach (e::es) X.env=(false,eval e X.env)::starEach es X.env:=by exact zbj rfl) (hpl:(backTo pos (starEach es X.env)).any (·.1)=false:=by exact zc8 rfl) :
  PD X (.Call (.Name x p) (e::es) [] pos) (dCall f t):=by with_unfolding_all exact (zaL (zuu G hr hk hg ha hdb he hpl) fun σ H Q hh=>el8 hh fun ad ρ S Q0 st rh q k =>
 ⟨ad,ρ,S,_,st,rh,q,fun ds S1 vs H1 ad1 q1 w1 st1 r1=>by
  show upF X.K f (vs++[]) H1 Q E0
  rw [List.append_nil];exact⟨ad1,S1,ds,Q0,st1.base,r1,q1,(k.wd w1).base st1⟩⟩)
end
end Dp
namespace Dp
open PySem PySem.Spec PyProof.Rows L2 My
def Fly (h0 h:Heap)(e:Addr)(cls:Value)(H:Hp):Prop:=h0.get? e=none/\H e=none/\∃ (a0:Value) (oe:Obj) (vs:Array Value) (T:Addr) (oT:Obj) (ts:Array Value),h.get? e=some oe/\(oe.cls=cls/\vs[0]?=some a0)/\oe.data=.fields vs/\vs[1]?=some (.ref T)/\h0.get? T=none/\T≠e/\h.get? T=some oT/\oT.data=.fields ts/\ts[3]?=some .none/\H T=none
def CXd (P:Program)(w:World):CXT:=fun outer H s E e s'=>∃ (a C:Addr) (H':Hp),e=.ref a/\s'.os=s.os/\AllBare s'.gens/\Un (frs outer) [] H H' s.heap s'.heap/\HOk P w H' s'.heap/\Fly s.heap s'.heap a (.ref C) H'/\E (.ref C) none H'
def zdx (h:Heap)(p:Addr->Bool):Heap:={ h with objs:=h.objs.mapIdx fun i o=>if p i=true then o else { cls:=.none,data:=.freed } }
theorem zeu (h:Heap)(p:Addr->Bool)(b:Addr):(zdx h p).get? b=if p b=true then h.get? b else none:=by
  unfold zdx Heap.get?
  dsimp only
  rw [Array.getElem?_mapIdx]
  cases h.objs[b]? with
  | none=>cases p b<;>rfl
  | some o=>cases p b<;>rfl
theorem ziz (h:Heap)(p:Addr->Bool):(zdx h p).StaysIn h:=fun b o e=>by
 rw [zeu] at e
 split at e
 ·exact e
 ·cases e
theorem zi7 {h base base':Heap}:∀ {l:List Env},h.FunFrames base l->(∀ L∈frs l,base'.get? L=none)->h.FunFrames base' l
 | [],_,_=>True.intro
 | env::l,⟨h1,⟨L,o,h2,h3,h4,h5⟩,h6⟩,hb=>⟨h1,⟨L,o,h2,hb L (List.mem_filterMap.mpr ⟨env,by simp,h2⟩),h4,h5⟩,zi7 h6 fun L' hL=>hb L' (by
   obtain⟨e',he,e2⟩:=List.mem_filterMap.mp hL
   exact List.mem_filterMap.mpr ⟨e',List.mem_cons_of_mem _ he,e2⟩)⟩
section
variable {X:Cx}{pins:List (Addr×Obj)}{σ:L2.St}{H:Hp}{s:Shared}
theorem zoh (I:Inv X pins σ H s)(hex:X.ex=[]){b:Addr}{o:Obj}(e:X.s₀.heap.get? b=some o):∃ o',s.heap.get? b=some o':=I.base.there b o e (by rw [hex];simp)
theorem zd2 (I:Inv X pins σ H s)(hex:X.ex=[]){b:Addr}(e:s.heap.get? b=none):X.s₀.heap.get? b=none:=by
 cases q:X.s₀.heap.get? b with
 | none=>rfl
 | some o=>obtain⟨o',h⟩:=zoh I hex q;rw [e] at h;cases h
theorem zhF (I:Inv X pins σ H s){b:Addr}(e:s.heap.get? b=none):H b=none:=by
 cases q:H b with
 | none=>rfl
 | some o =>
  have:=(I.hok b o q).lt
  exfalso
  cases o with
  | lst xs=>obtain⟨_,_,_,_,h⟩:=I.hok b _ q;rw [e] at h;cases h
  | tup xs=>obtain⟨_,_,_,ob,h,_⟩:=I.hok b _ q;rw [e] at h;cases h
  | dK kvs=>obtain⟨_,_,_,_,ob,_,_,h,_⟩:=I.hok b _ q;rw [e] at h;cases h
  | dT kvs=>obtain⟨_,_,_,_,ob,_,_,h,_⟩:=I.hok b _ q;rw [e] at h;cases h
  | set S n=>obtain⟨ob,_,_,_,h,_⟩:=I.hok b _ q;rw [e] at h;cases h
  | ins C dx fs=>obtain⟨_,_,_,h,_⟩:=I.hok b _ q;rw [e] at h;cases h
  | own y=>obtain⟨_,h⟩:=I.hok b _ q;rw [e] at h;cases h
  | xd fs=>obtain⟨_,⟨_,_,_,h,_⟩,_⟩:=I.hok b _ q;rw [e] at h;cases h
  | rng lo hi=>obtain⟨_,_,_,h⟩:=I.hok b _ q;rw [e] at h;cases h
  | frz ob u=>obtain⟨h,_⟩:=I.hok b _ q;rw [e] at h;cases h
  | tbl ps=>have h:s.heap.get? b=some _:=I.hok b _ q;rw [e] at h;cases h
  | met f y=>have h:s.heap.get? b=some _:=I.hok b _ q;rw [e] at h;cases h
  | ext φ=>obtain⟨_,⟨_,h⟩,_⟩:=I.hok b _ q;rw [e] at h;cases h
theorem zjM (I:Inv X pins σ H s)(hex:X.ex=[])(hst:X.stack=X.env::X.outer)(hfr:X.env.frame=some X.env.locals){e T0:Addr}{h':Heap}(he:X.s₀.heap.get? e=none)(hT:X.s₀.heap.get? T0=none)(He:H e=none)(HT:H T0=none)
  (hk:∀ b o,s.heap.get? b=some o->b≠e->b≠T0->b∉frs X.stack->h'.get? b=some o) (hs:∀ b∈frs X.stack,∀ o,s.heap.get? b=some o->∃ sl,h'.get? b=some { o with slots:=sl }) :
  Un X.fs [] X.H₀ H X.s₀.heap h'/\HOk X.prog X.w H h':=by
 have nfr:∀ {b:Addr} {o:Obj},X.s₀.heap.get? b=some o->b∉X.fs->b∉frs X.stack:=fun {b o} q n m=>by
  rw [hst] at m
  obtain⟨e',h1,h2⟩:=List.mem_filterMap.mp m
  rcases List.mem_cons.mp h1 with rfl | h1
  ·rw [hfr] at h2
   cases h2
   exact absurd (Heap.lt_size q) (Nat.not_lt.mpr I.ok.above)
  ·exact n (List.mem_filterMap.mpr ⟨e',h1,h2⟩)
 have sub:∀ {b:Addr},b∈X.fs->b∈frs X.stack:=fun {b} m=>by
  obtain⟨e',h1,h2⟩:=List.mem_filterMap.mp m
  rw [hst]
  exact List.mem_filterMap.mpr ⟨e',List.mem_cons_of_mem _ h1,h2⟩
 have nex:∀ b:Addr,b∉X.ex:=fun b=>by rw [hex];simp
 have ne:∀ {b:Addr} {o:Obj},X.s₀.heap.get? b=some o->b≠e/\b≠T0:=fun {b o} q=>⟨fun z=>(by rw [z,he] at q;cases q),fun z=>(by rw [z,hT] at q;cases q)⟩
 have ub:=I.base
 refine⟨⟨fun b o q n m _=>?_,fun b o q n m _=>?_,fun b o q n _=>ub.free b o q n (nex b),fun b o q _=>?_,ub.tups,ub.frzs,ub.tbls⟩,fun a o q=>?_⟩
 ·exact hk b o (ub.keep b o q n m (nex b)) (ne q).1 (ne q).2 (nfr q m)
 ·obtain⟨sl,h1⟩:=ub.slot b o q n m (nex b)
  obtain⟨sl',h2⟩:=hs b (sub m) _ h1
  exact⟨sl',h2⟩
 ·obtain⟨o',h1⟩:=ub.there b o q (nex b)
  by_cases m:b∈frs X.stack
  ·obtain⟨sl,h2⟩:=hs b m o' h1
   exact⟨_,h2⟩
  ·exact⟨o',hk b o' h1 (ne q).1 (ne q).2 m⟩
 ·have inn:∀ {b:Addr},H b≠none->b≠e/\b≠T0/\b∉frs X.stack:=fun {b} n=>⟨fun z=>n (by rw [z];exact He),fun z=>n (by rw [z];exact HT),fun z=>n (I.stkFree b z)⟩
  refine (I.hok a o q).stay (fun b u hb r=>?_) (fun _ r=>r) fun _ _ r=>r
  have n:H b≠none:=by
   rcases hb with rfl | hb
   ·rw [q];exact Option.some_ne_none _
   ·rw [hb];exact Option.some_ne_none _
  obtain⟨n1,n2,n3⟩:=inn n
  exact hk b u r n1 n2 n3
theorem zns (I:Inv X pins σ H s)(hex:X.ex=[])(hst:X.stack=X.env::X.outer)(hfr:X.env.frame=some X.env.locals){e C:Addr}{E:Value->Shared->Prop}{Q:Unit->Shared->Prop}(F:Fly X.s₀.heap s.heap e (.ref C) H)
  (hQ:∀ s':Shared,s'.os=X.s₀.os->AllBare s'.gens->Un X.fs [] X.H₀ H X.s₀.heap s'.heap->HOk X.prog X.w H s'.heap->Fly X.s₀.heap s'.heap e (.ref C) H->Q () s'):wpAny (model X.prog X.w) X.A (leaving X.env (.ref e)) Q E s:=by
 obtain⟨he,He,a0,oe,vs,T,oT,ts,f1,f2,f3,f4,f5,f6,f7,f8,f9,HT⟩:=F
 have ff:s.heap.FunFrames X.base X.stack:=I.stack
 obtain⟨p,hp⟩:∃ p:Addr->Bool,∀ b,p b=true↔b≠e/\b≠T/\b∉frs X.stack:=⟨fun b=>decide (b≠e/\b≠T/\b∉frs X.stack),fun b=>decide_eq_true_iff⟩
 have mno:∀ {b:Addr},¬ (b≠e/\b≠T/\b∉frs X.stack)->(zdx s.heap p).get? b=none:=fun {b} n=>by
  rw [zeu,if_neg (fun z=>n ((hp b).mp z))]
 have myes:∀ {b:Addr} {o:Obj},s.heap.get? b=some o->b≠e->b≠T->b∉frs X.stack->(zdx s.heap p).get? b=some o:=fun {b o} q n1 n2 n3=>by
  rw [zeu,if_pos ((hp b).mpr ⟨n1,n2,n3⟩)];exact q
 have fb:s.heap.FunFrames (zdx s.heap p) X.stack:=zi7 ff fun L hL=>mno fun z=>z.2.2 hL
 have fl:Heap.FlyingW (zdx s.heap p) X.stack e (.ref C) a0 s.heap:=⟨ziz _ _,mno fun z=>z.1 rfl,fb,oe,vs,T,oT,ts,f1,f2,f3,f4,mno fun z=>z.2.1 rfl,f6,f7,f8,f9⟩
 have fr:=I.ok.frames
 rw [hst] at fr
 rw [hst] at fl
 refine wpAny_leaves_onW fr hfr fl fun h' ⟨k1,k2,k3,oe',vs',T',oT',ts',g1,g2,g3,g4,g5,g6,g7,g8,g9⟩ us=>?_
 have hs:∀ b∈frs X.stack,∀ o,s.heap.get? b=some o->∃ sl,h'.get? b=some { o with slots:=sl }:=fun b hb o q=>by
  obtain⟨_,o',h1,h2⟩:=ff.mem hb
  rw [q] at h1;cases h1
  exact us b o q h2
 have hk:∀ b o,s.heap.get? b=some o->b≠e->b≠T->b∉frs X.stack->h'.get? b=some o:=fun b o q n1 n2 n3=>k1 b o (myes q n1 n2 n3)
 obtain⟨u1,u2⟩:=zjM I hex hst hfr he f5 He HT hk hs
 have nT:X.s₀.heap.get? T'=none/\H T'=none:=by
  by_cases z1:T'=T
  ·rw [z1];exact⟨f5,HT⟩
  ·by_cases z2:T'∈frs X.stack
   ·exfalso
    obtain⟨_,o',h1,h2⟩:=ff.mem z2
    obtain⟨sl,h3⟩:=hs T' z2 o' h1
    rw [g7] at h3;cases h3
    exact h2 ts' g8
   ·have:s.heap.get? T'=none:=by
     cases q:s.heap.get? T' with
     | none=>rfl
     | some o=>rw [myes q g6 z1 z2] at g5;cases g5
    exact⟨zd2 I hex this,zhF I this⟩
 exact hQ _ I.os I.bare u1 u2 ⟨he,He,a0,oe',vs',T',oT',ts',g1,g2,g3,g4,nT.1,g6,g7,g8,g9,nT.2⟩
theorem zmn (I:Inv X pins σ H s)(hex:X.ex=[])(hst:X.stack=X.env::X.outer)(hfr:X.env.frame=some X.env.locals){e C:Addr}{args:List Value}{h1:Heap}{E:Value->Shared->Prop}{Q:Unit->Shared->Prop}(hx:s.heap.MadeExcOf h1 e (.ref C) args)
  (hQ:∀ s':Shared,s'.os=X.s₀.os->AllBare s'.gens->Un X.fs [] X.H₀ H X.s₀.heap s'.heap->HOk X.prog X.w H s'.heap->Fly X.s₀.heap s'.heap e (.ref C) H->Q () s'):wpAny (model X.prog X.w) X.A (leaving X.env (.ref e)) Q E { s with heap:=h1 }:=by
 have ff:s.heap.FunFrames X.base X.stack:=I.stack
 obtain⟨p,hp⟩:∃ p:Addr->Bool,∀ b,p b=true↔b∉frs X.stack:=⟨fun b=>decide (b∉frs X.stack),fun b=>decide_eq_true_iff⟩
 have mno:∀ {b:Addr},b∈frs X.stack->(zdx s.heap p).get? b=none:=fun {b} n=>by
  rw [zeu,if_neg (fun z=>(hp b).mp z n)]
 have myes:∀ {b:Addr} {o:Obj},s.heap.get? b=some o->b∉frs X.stack->(zdx s.heap p).get? b=some o:=fun {b o} q n3=>by
  rw [zeu,if_pos ((hp b).mpr n3)];exact q
 have fb:s.heap.FunFrames (zdx s.heap p) X.stack:=zi7 ff fun L hL=>mno hL
 have fr:=I.ok.frames
 rw [hst] at fr
 rw [hst] at fb
 refine wpAny_leaves_madeW (base:=zdx s.heap p) (h:=s.heap) fr hfr (ziz _ _) fb hx fun h' t ⟨k1,k2,k3,oe',vs',T',oT',ts',g1,g2,g3,g4,g5,g6,g7,g8,g9⟩ _ _ us=>?_
 have us':s.heap.UpToSlots h':=fun b o q n=>us b o (hx.keeps b o q) n
 have hs:∀ b∈frs X.stack,∀ o,s.heap.get? b=some o->∃ sl,h'.get? b=some { o with slots:=sl }:=fun b hb o q=>by
  obtain⟨_,o',h1,h2⟩:=ff.mem hb
  rw [q] at h1;cases h1
  exact us' b o q h2
 have hk:∀ b o,s.heap.get? b=some o->b≠e->b≠e->b∉frs X.stack->h'.get? b=some o:=fun b o q _ _ n3=>k1 b o (myes q n3)
 have he:=zd2 I hex hx.new
 have He:=zhF I hx.new
 obtain⟨u1,u2⟩:=zjM I hex hst hfr he he He He hk hs
 have nT:X.s₀.heap.get? T'=none/\H T'=none:=by
  by_cases z2:T'∈frs X.stack
  ·exfalso
   obtain⟨_,o',h1,h2⟩:=ff.mem z2
   obtain⟨sl,h3⟩:=hs T' z2 o' h1
   rw [g7] at h3;cases h3
   exact h2 ts' g8
  ·have:s.heap.get? T'=none:=by
    cases q:s.heap.get? T' with
    | none=>rfl
    | some o=>rw [myes q z2] at g5;cases g5
   exact⟨zd2 I hex this,zhF I this⟩
 exact hQ _ I.os I.bare u1 u2 ⟨he,He,_,oe',vs',T',oT',ts',g1,g2,g3,g4,nT.1,g6,g7,g8,g9,nT.2⟩
end
def zcA (K:PySem.W.Frag)(f:zdC):Sp:=fun vs H Q E=>∃ ad S ds Q0 X0,@zK ⟨ad,H⟩ K ad H S/\zE K ad H ds vs/\f ds S Q0 X0/\@KK ⟨ad,H⟩ K ad H Q0 Q /\
 ∀ (c:Str) (C:Addr) (S':Sto) (ad':List Addr) (H':Hp),X0 c S'->@zK ⟨ad,H⟩ K ad' H' S'->PySem.W.nsIn K mainGlobals c=some (some (.ref C))->E (.ref C) none H'
structure zfI (P:Program)(w:World)(K:PySem.W.Frag)(mg:Str->Option Value)(base:Heap)(k:Nat)(x:Str)(ps:List Str)(sp:Sp):Prop where
 ex:∃ f fd,zW P w K mg base (CXd P w) k f fd ps sp/\Binds K fd ps []/\PySem.W.keepIn K (.ref f)=true/\mg x=some (.ref f)
def XOk [B:Bs](X:Cx)(ex:XR):Prop:=∀ (pins:List (Addr×Obj)) (σ:L2.St) (H:Hp) (s s':Shared) (ad ad':List Addr) (ρ:Rho) (S S':Sto) (c:Str) (C a:Addr) (H':Hp),Inv X pins σ H s->zK X.K ad H S->zav X.K ad H ρ σ->ex ρ c S'->zK X.K ad' H' S'->Wd ad H ad' H' ->
 PySem.W.nsIn X.K mainGlobals c=some (some (.ref C))->s'.os=s.os->AllBare s'.gens->Un (frs X.stack) [] H H' s.heap s'.heap->HOk X.prog X.w H' s'.heap->Fly s.heap s'.heap a (.ref C) H'->X.xe (.ref a) s'
def XMk [B:Bs](X:Cx)(ex:XR):Prop:=∀ (pins:List (Addr×Obj)) (σ:L2.St) (H:Hp) (s:Shared) (ad:List Addr) (ρ:Rho) (S:Sto) (c:Str) (C e:Addr) (args:List Value) (h1:Heap),Inv X pins σ H s->zK X.K ad H S->zav X.K ad H ρ σ->ex ρ c S ->
 PySem.W.nsIn X.K mainGlobals c=some (some (.ref C))->s.heap.MadeExcOf h1 e (.ref C) args->X.xe (.ref e) { s with heap:=h1 }
section
variable [B:Bs]{X:Cx}
theorem za7 {k j:Nat}{x:Str}{ps:List Str}{f:zdC}{ex:XR}{p pos:Pos}{e:Expr}{es:List Expr}{t:DA}(G:zfI X.prog X.w X.K X.mg X.base k x ps (zcA X.K f))(hX:XOk X ex)(hr:zax j X.A)
  (ha:PAD X (e::es) t) (hk:k<=j:=by decide) (hg:Gl X x:=by rfl) (hdb:(x==("__debug__":Str))=false:=by decide) (he:starEach (e::es) X.env=(false,eval e X.env)::starEach es X.env:=by exact zbj rfl) (hpl:(backTo pos (starEach es X.env)).any (·.1)=false:=by exact zc8 rfl) :
  PD X (.Call (.Name x p) (e::es) [] pos) (zbF f ex t):=by
 with_unfolding_all
  intro pins s σ H Q I h
  obtain⟨ad,ρ,S,Q0,st,rh,q,kk⟩:=h
  obtain⟨fa,fd,F,b,kp,m⟩:=G.ex
  have F:=F.mono hk
  refine wpAny_Call_Name_kw (zfk I hg m ?_ hdb)
  have hA:=ha pos pins s σ H (fun vs H1=>∃ ds S1 ad1,f ds S1 Q0 (ex ρ)/\Wd ad H ad1 H1/\zK X.K ad1 H1 S1/\zE X.K ad1 H1 ds vs) I ⟨ad,ρ,S,_,st,rh,q,fun ds S1 vs H1 ad1 q1 w1 st1 r1=>⟨ds,S1,ad1,q1,w1,st1,r1⟩⟩
  refine PySem.W.callWith_K (h₀:=X.base) I.ok.mod.kin kp (thn hA fun us s1 ⟨vs,H1,I1,r,q1⟩=>⟨I1.kIn,?_⟩) he hpl
  obtain⟨ds,S1,ad1,q1,w1,st1,r1⟩:=q1
  have hsp:zcA X.K f vs H1 Q (fun cls _ H'=>∃ c C S' ad',cls=Value.ref C/\ex ρ c S'/\zK X.K ad' H' S'/\Wd ad1 H1 ad' H'/\PySem.W.nsIn X.K mainGlobals c=some (some (.ref C))) :=
   ⟨ad1,S1,ds,Q0,ex ρ,st1.base,r1,q1,(kk.wd w1).base st1,fun c C S' ad' H' hx st' hn=>⟨c,C,S',ad',rfl,hx,st1.back st',@zK.wd ⟨ad1,H1⟩ _ _ _ _ st',hn⟩⟩
  have hl:us.length=ps.length:=by rw [<- r.length];exact F.len _ _ _ _ hsp
  refine wpAny_call (codeAny_mono (F.run X.A X.stack s1 H1 ⟨us,[]⟩ us vs Q _ hr I1.env0 (by have:=b s1 us I1.kIn (by rw [List.append_nil];exact hl);rwa [List.append_nil] at this) r hsp) fun res s' hq=>?_)
  cases res with
  | error e =>
   obtain⟨a,C,H',rfl,os,bare,un,hok,fly,c,C',S',ad',hC,hx,st',wd',hn⟩:=hq
   cases hC
   exact hX pins σ H1 s1 s' ad1 ad' ρ S1 S' c C a H' I1 st1 (rh.wd w1) hx st' wd' hn os bare un hok fly
  | ok fl =>
   cases fl with
   | ret u=>exact I1.after hq
   | next=>exact False.elim hq
   | brk=>exact False.elim hq
   | cont=>exact False.elim hq
theorem zhb:XOk X xF:=fun _ _ _ _ _ _ _ _ _ _ _ _ _ _ _ _ _ h=>h.elim
structure ExC (K:PySem.W.Frag)(C:Addr):Prop where
 ex:∃ nm q N bs bm hdct sn sub ab col dd k0 k1 k2 k3 k5,K.lookup C=some (excClassObj nm q C N bs bm hdct sn sub ab col dd k0 k1 k2 k3 k5 "ValueError.__new__")/\PySem.W.nsOkIn K N=true/\PySem.W.nsIn K N "__init__"=some none /\
  PySem.W.tailIn K [.type "ValueError",.type "Exception",.type "BaseException",.type "object"] bm=true
theorem zeW {x:Str}{ex:XR}{np cpos pos:Pos}{e:Expr}{t:DA}(hX:XMk X ex)(hc:X.calm=true)(hC:∀ C,PySem.W.nsIn X.K mainGlobals x=some (some (.ref C))->ExC X.K C)(hx:∃ C,PySem.W.nsIn X.K mainGlobals x=some (some (.ref C))/\X.mg x=some (.ref C))(hg:Gl X x)
  (ha:PAD X [e] t) (ht:∀ ρ S Q,(∀ d,Q [d] S)->t ρ S Q) (hdb:(x==("__debug__":Str))=false:=by decide) (he:starEach [e] X.env=(false,eval e X.env)::starEach [] X.env:=by rfl) :
  PSD X (.Raise (some (.Call (.Name x np) [e] [] cpos)) none pos) (zfz ex x):=by
 with_unfolding_all
  intro pins s σ H D I h
  obtain⟨ad,ρ,S,E0,st,rh,q,k⟩:=h
  obtain⟨C,hn,hm⟩:=hx
  obtain⟨nm,qn,N,bs,bm,hdct,sn,sub,ab,col,dd,k0,k1,k2,k3,k5,lk,no,ni,tl⟩:=(hC C hn).ex
  have kin:=I.kIn
  have T:=PySem.W.tail_of_in kin tl
  have hv:=ha cpos pins s σ H (fun vs H1=>vs.length=1/\∃ ad1,Wd ad H ad1 H1/\zK X.K ad1 H1 S) I ⟨ad,ρ,S,fun ds S'=>ds.length=1/\S'=S,st,rh,ht _ _ _ (fun d=>⟨rfl,rfl⟩),fun ds S' vs H' ad' e' w' st' r'=>⟨by rw [<- r'.length];exact e'.1,ad',w',e'.2▸st'⟩⟩
  refine wpAny_Raise_call_subT (C:=C) (nm:=nm) (q:=qn) (N:=N) (bs:=bs) (bm:=bm) (hdct:=hdct) (sn:=sn) (sub:=sub) (ab:=ab) (col:=col) (dd:=dd) (k0:=k0) (k1:=k1) (k2:=k2) (k3:=k3) (k5:=k5) PySem.F.excBase_ValueError (T.hasType PySem.F.excBase_ValueError.hasBase) (I.ok.hd hc) (by rw [he];rfl) (PySem.W.nsMap_none_of_in I.ok.mod.kin no ni) (zfk I hg hm ⟨rfl,?_⟩ hdb)
  rw [he] at hv ⊢
  refine Calls.evalArgs_plain (wpAny_mono hv (fun us s1 hq=>?_) fun _ _ y=>y)
  obtain⟨vs,H1,I1,r,hl,ad1,w1,st1⟩:=hq
  have k1':=I1.kIn
  have hlen:us.length<=sizeLine:=by rw [<- r.length,hl];decide
  exact⟨rfl,hlen,k1' _ _ lk,(Heap.Ns.of_isNs (PySem.W.isNs_of_in I.ok.mod.kin no)).keeps I1.bk,PySem.W.tail_of_in k1' tl,fun h' e' hx=>hX pins σ H1 s1 ad1 ρ S x C e' us h' I1 st1 (rh.wd w1) q hn hx⟩
abbrev nxX (X:Cx):Cx:={ X with xe:=fun _ _=>False }
omit B in
theorem zr2 {pins:List (Addr×Obj)}{σ:L2.St}{H:Hp}{s:Shared}(I:Inv X pins σ H s):Inv (nxX X) pins σ H s :=
 ⟨⟨I.ok.mod,I.ok.kind,I.ok.glob,I.ok.blt,I.ok.above,I.ok.inj,I.ok.has,I.ok.cab,I.ok.hd,I.ok.frames,I.ok.stk,I.ok.exf,I.ok.bs,I.ok.bsz,I.ok.noex,I.ok.exfs,I.ok.funs,I.ok.frf⟩,I.os,I.bare,I.base,I.loc,I.cell,I.free,I.freeC,I.pin,I.hok,I.len⟩
omit B in
theorem zoE {pins:List (Addr×Obj)}{σ:L2.St}{H:Hp}{s:Shared}(I:Inv (nxX X) pins σ H s):Inv X pins σ H s :=
 ⟨⟨I.ok.mod,I.ok.kind,I.ok.glob,I.ok.blt,I.ok.above,I.ok.inj,I.ok.has,I.ok.cab,I.ok.hd,I.ok.frames,I.ok.stk,I.ok.exf,I.ok.bs,I.ok.bsz,I.ok.noex,I.ok.exfs,I.ok.funs,I.ok.frf⟩,I.os,I.bare,I.base,I.loc,I.cell,I.free,I.freeC,I.pin,I.hok,I.len⟩
theorem zqY {e:Expr}{t:DE}(h:PD (nxX X) e t):PD X e t:=by with_unfolding_all exact (fun pins s σ H Q I q =>
 wpAny_mono (h pins s σ H Q (zr2 I) q) (fun v s1 ⟨x,H1,I1,r⟩=>⟨x,H1,zoE I1,r⟩) fun _ _ z=>z.elim)
omit B in
theorem zde {P:Program}{w:World}{K:PySem.W.Frag}{mg:Str->Option Value}{base:Heap}{x qual:Str}{st:Stmt}{f:Addr}{fd:FuncData}{N ps:List Str}{k:Nat}{sp:zdC}{b:XR->DS}(F:Fun K x qual st f fd)(S:zM N ps (zF st))
  (len:∀ ds So Q ex,sp ds So Q ex->ds.length=ps.length) (body:zdj N.length b sp)
  (term:∀ (cdv:Value) (A:Around) (outer:List Env) (s:Shared) (H:Hp) (E:XK),zax k (A.deeper (envOfC qual (zF st) s.heap.objs.size f cdv))->∀ [Bs] (ex:XR),XOk (ze2 (CXd P w) P w K mg base N qual (zF st) f cdv A outer s H E) ex->XMk (ze2 (CXd P w) P w K mg base N qual (zF st) f cdv A outer s H E) ex->zeZ (ze2 (CXd P w) P w K mg base N qual (zF st) f cdv A outer s H E) (zaZ st) (b ex)) :
  zW P w K mg base (CXd P w) (k+1) f fd ps (zcA K sp):=by
 with_unfolding_all
  obtain⟨oc,od,kV,doc,pm,an,cdv,ct,osl,rfl,lk,hcd⟩:=F.ex
  refine zpI lk hcd S (fun vs H Q E ⟨ad,So,ds,Q0,X0,so,r,hf,kk,kx⟩=>by rw [<- r.length];exact len ds So Q0 X0 hf) fun A outer s H vs Q E hr ⟨ad,So,ds,Q0,X0,so,r,hf,kk,kx⟩=>?_
  letI:Bs:=⟨ad,H⟩
  have end1:∀ (c:Str) (C a:Addr) (S':Sto) (ad':List Addr) (H':Hp) (s':Shared),X0 c S'->zK K ad' H' S'->PySem.W.nsIn K mainGlobals c=some (some (.ref C))->s'.os=s.os->AllBare s'.gens->Un (frs outer) [] H H' s.heap s'.heap->HOk P w H' s'.heap->Fly s.heap s'.heap a (.ref C) H'->CXd P w outer H s E (.ref a) s' :=
   fun c C a S' ad' H' s' hx st' hn o1 o2 o3 o4 o5=>⟨a,C,H',rfl,o1,o2,o3,o4,o5,kx c C S' ad' H' hx st' hn⟩
  refine⟨_,term cdv A outer s H E hr (fun _=>X0) ?_ ?_,ad,zd3 N.length ds,So,_,so,zkW N r,body ds So Q0 X0 hf,⟨fun ρ S' σ H' ad' q w' st' rh=>zit so kk .non S' .non H' ad' q w' st' .non,zit so kk,fun _ _ _ _ _ q=>q.elim,fun _ _ _ _ _ q=>q.elim⟩⟩
  ·intro pins σ H1 s1 s' ad1 ad' ρ S1 S' c C a H' I st1 rh hx st' wd' hn os bare un hok fly
   have I':=I.call' (ch:=[]) os un hok bare (fun b z=>absurd z (by simp))
   have f0:Fly s.heap s'.heap a (.ref C) H':=by
    obtain⟨g1,g2,a0,oe,vs,T,oT,ts,h1,h2,h3,h4,h5,h6⟩:=fly
    exact⟨zd2 I rfl g1,g2,a0,oe,vs,T,oT,ts,h1,h2,h3,h4,zd2 I rfl h5,h6⟩
   exact zns I' rfl rfl rfl f0 fun s'' o1 o2 o3 o4 o5=>end1 c C a S' ad' H' s'' hx st' hn o1 o2 o3 o4 o5
  ·intro pins σ H1 s1 ad1 ρ S1 c C e args h1 I st1 rh hx hn hmade
   exact zmn I rfl rfl rfl hmade fun s'' o1 o2 o3 o4 o5=>end1 c C e S1 ad1 H1 s'' hx st1 hn o1 o2 o3 o4 o5
end
section
variable {X:Cx}{pins:List (Addr×Obj)}{σ:L2.St}{H H':Hp}{s s':Shared}
variable [B:Bs]
end
section
open PySem.W PySem.Builtin PySem.Builtin.ObjectAttr PySem.Builtin.Getset_descriptor
variable {prog:Program}{w:World}{A:Around}{E:Value->Shared->Prop}{s:Shared}{K:Frag}{x C:Addr}{o:Obj}
end
section
variable [B:Bs]{X:Cx}
end
def zkc (K:PySem.W.Frag)(C:Addr):Bool:=match K.lookup C with
 | some ⟨.type "type",_,.cls cd,sl⟩=>(match cd.mro,sl.toList with
  | .ref C'::bm,[_,_,_,_,some (.builtin n),_]=>C'==C&&!cd.hasDel&&n=="ValueError.__new__"&&PySem.W.nsOkIn K cd.ns&&PySem.W.nsIn K cd.ns "__init__"==some none&&PySem.W.tailIn K [.type "ValueError",.type "Exception",.type "BaseException",.type "object"] bm
  | _,_=>false)
 | _=>false
theorem ExC.of {K:PySem.W.Frag}{C:Addr}(q:zkc K C=true):ExC K C:=by
 unfold zkc at q
 split at q
 ·rename_i dd cd sl ho
  split at q
  ·rename_i C' bm k0 k1 k2 k3 n k5 hm hs
   simp only [Bool.and_eq_true,beq_iff_eq,Bool.not_eq_true'] at q
   obtain⟨⟨⟨⟨⟨rfl,hdel⟩,rfl⟩,h1⟩,h2⟩,h3⟩:=q
   obtain⟨nm,bs,mro,ns,qn,hd,sn,sub,ab,col,del⟩:=cd
   dsimp only at hm hdel
   subst hm hdel
   have hsl:sl=#[k0,k1,k2,k3,some (.builtin "ValueError.__new__"),k5]:=by
    obtain⟨l⟩:=sl
    simp only at hs
    rw [hs]
   subst hsl
   exact⟨nm,qn,ns,bs,bm,hd,sn,sub,ab,col,dd,k0,k1,k2,k3,k5,ho,h1,h2,h3⟩
  ·cases q
 ·cases q
section
variable {X:Cx}[B:Bs]
end
section
variable {K:PySem.W.Frag}{ad:List Addr}{H:Hp}{S:Sto}[B:Bs]
omit B in
theorem RelK.val:∀ {fs:List (Str×D)} {vs:List (Key×V)} (z:Str),RelK K ad H fs vs->(dval fs z=none/\L2.zcv vs (Sum.inr z:Key)=none)\/∃ d v,dval fs z=some d/\L2.zcv vs (Sum.inr z:Key)=some v/\Rel K ad H d v
 | _,_,z,.nil=>.inl ⟨rfl,L2.zj6⟩
 | _,_,z,@RelK.cons _ _ _ x d v fs vs r t=>by
  by_cases h:x=z
  ·exact .inr ⟨d,v,by rw [zbY,if_pos h],by rw [L2.zey (by rw [h])],r⟩
  ·have h':¬ (Sum.inr x:Key)=Sum.inr z:=fun e=>h (Sum.inr.inj e)
   rw [zbY,if_neg h,L2.zeB h']
   exact RelK.val z t
omit B in
theorem zau.val:∀ {fs:List (List Key×D)} {vs:List (List Key×V)} (z:List Key),zau K ad H fs vs->(dval fs z=none/\L2.zcv vs z=none)\/∃ d v,dval fs z=some d/\L2.zcv vs z=some v/\Rel K ad H d v
 | _,_,z,.nil=>.inl ⟨rfl,L2.zj6⟩
 | _,_,z,@zau.cons _ _ _ x d v fs vs r t=>by
  by_cases h:x=z
  ·exact .inr ⟨d,v,by rw [zbY,if_pos h],by rw [L2.zey h],r⟩
  ·rw [zbY,if_neg h,L2.zeB h]
   exact zau.val z t
omit B in
theorem RelK.snoc {x:Str}{d:D}{v:V}(rd:Rel K ad H d v):∀ {fs:List (Str×D)} {vs:List (Key×V)},RelK K ad H fs vs->RelK K ad H (fs++[(x,d)]) (vs++[(.inr x,v)])
 | _,_,.nil=>.cons rd .nil
 | _,_,.cons r t=>.cons r (RelK.snoc rd t)
omit B in
theorem zau.snoc {x:List Key}{d:D}{v:V}(rd:Rel K ad H d v):∀ {fs:List (List Key×D)} {vs:List (List Key×V)},zau K ad H fs vs->zau K ad H (fs++[(x,d)]) (vs++[(x,v)])
 | _,_,.nil=>.cons rd .nil
 | _,_,.cons r t=>.cons r (zau.snoc rd t)
omit B in
theorem RelK.repl {z:Str}{d:D}{v:V}(rd:Rel K ad H d v):∀ {fs:List (Str×D)} {vs:List (Key×V)},RelK K ad H fs vs->RelK K ad H (fs.map fun kv=>if kv.1=z then (kv.1,d) else kv) (vs.map fun kv=>if kv.1=(Sum.inr z:Key) then (kv.1,v) else kv)
 | _,_,.nil=>.nil
 | _,_,@RelK.cons _ _ _ x d' v' fs vs r t=>by
  rw [List.map_cons,List.map_cons]
  by_cases h:x=z
  ·rw [if_pos h,if_pos (by rw [h])];exact .cons rd (RelK.repl rd t)
  ·rw [if_neg h,if_neg (fun e=>h (Sum.inr.inj e))];exact .cons r (RelK.repl rd t)
omit B in
theorem zau.repl {z:List Key}{d:D}{v:V}(rd:Rel K ad H d v):∀ {fs:List (List Key×D)} {vs:List (List Key×V)},zau K ad H fs vs->zau K ad H (fs.map fun kv=>if kv.1=z then (kv.1,d) else kv) (vs.map fun kv=>if kv.1=z then (kv.1,v) else kv)
 | _,_,.nil=>.nil
 | _,_,@zau.cons _ _ _ x d' v' fs vs r t=>by
  rw [List.map_cons,List.map_cons]
  by_cases h:x=z
  ·rw [if_pos h,if_pos h];exact .cons rd (zau.repl rd t)
  ·rw [if_neg h,if_neg h];exact .cons r (zau.repl rd t)
omit B in
theorem RelK.put {z:Str}{d:D}{v:V}(rd:Rel K ad H d v){fs:List (Str×D)}{vs:List (Key×V)}(r:RelK K ad H fs vs):RelK K ad H (dput fs z d) (putK vs (Sum.inr z:Key) v):=by
 unfold dput putK
 rw [zhU,L2.zfC]
 rcases r.val z with ⟨e1,e2⟩ | ⟨d',v',e1,e2,_⟩
 ·rw [e1,e2]
  rw [if_neg (by simp),if_neg (by simp)];exact r.snoc rd
 ·rw [e1,e2]
  rw [if_pos (by simp),if_pos (by simp)];exact r.repl rd
omit B in
theorem zau.put {z:List Key}{d:D}{v:V}(rd:Rel K ad H d v){fs:List (List Key×D)}{vs:List (List Key×V)}(r:zau K ad H fs vs):zau K ad H (dput fs z d) (putK vs z v):=by
 unfold dput putK
 rw [zhU,L2.zfC]
 rcases r.val z with ⟨e1,e2⟩ | ⟨d',v',e1,e2,_⟩
 ·rw [e1,e2]
  rw [if_neg (by simp),if_neg (by simp)];exact r.snoc rd
 ·rw [e1,e2]
  rw [if_pos (by simp),if_pos (by simp)];exact r.repl rd
omit B in
theorem RelK.length:∀ {fs:List (Str×D)} {vs:List (Key×V)},RelK K ad H fs vs->fs.length=vs.length
  | _,_,.nil=>rfl
  | _,_,.cons _ t=>congrArg (· + 1) (RelK.length t)
omit B in
theorem zau.length:∀ {fs:List (List Key×D)} {vs:List (List Key×V)},zau K ad H fs vs->fs.length=vs.length
  | _,_,.nil=>rfl
  | _,_,.cons _ t=>congrArg (· + 1) (zau.length t)
omit B in
theorem zf4:∀ {ks:List Key} {vs:List V},zE K ad H (ks.map kD) vs->vs=ks.map kV
 | [],_,.nil=>rfl
 | .inl i::ks,_,.cons r t=>by
  have e:∀ {d:D} {v:V},d=.int i->Rel K ad H d v->v=.int i:=fun e r=>by subst e;cases r;rfl
  rw [e rfl r,zf4 t];rfl
 | .inr x::ks,_,.cons r t=>by
  have e:∀ {d:D} {v:V},d=.str x->Rel K ad H d v->v=.str x:=fun e r=>by subst e;cases r;rfl
  rw [e rfl r,zf4 t];rfl
theorem zK.newC (st:zK K ad H S){l:Addr}{o:HO}{c:Cell}(h:H l=none)(hc:zb6 K (ad++[l]) (upd H l o) l c):zK K (ad++[l]) (upd H l o) (S++[c]) where
 wd:=st.wd.trans (Wd.newL st h)
 len:=by rw [List.length_append,List.length_append,st.len];rfl
 nd:=by
  rw [List.nodup_append]
  refine⟨st.nd,by simp,fun a ha b hb e=>?_⟩
  have:b=l:=by simpa using hb
  subst this;subst e
  exact st.fresh h ha
 cell:=fun n a c' e1 e2=>by
  by_cases hn:n<ad.length
  ·rw [List.getElem?_append_left hn] at e1
   rw [List.getElem?_append_left (by rw [<- st.len];exact hn)] at e2
   have ok:=st.cell n a c' e1 e2
   obtain⟨u,e⟩:=ok.some
   exact ok.wd (Wd.newL st h) (by rw [zdO h e,e])
  ·have hn':ad.length<=n:=Nat.le_of_not_lt hn
   rw [List.getElem?_append_right hn'] at e1
   rw [List.getElem?_append_right (by rw [<- st.len];exact hn'),<- st.len] at e2
   cases hk:n-ad.length with
   | zero =>
    rw [hk] at e1 e2
    have e1':l=a:=by simpa using e1
    have e2':c=c':=by simpa using e2
    subst e1' e2'
    exact hc
   | succ k=>rw [hk] at e1;simp at e1
omit B in
theorem Wd.putC {n:Nat}{a:Addr}{o o':HO}(e:ad[n]?=some a)(h:H a=some o)(h1:∀ xs,o≠.tup xs)(h2:∀ q u,o≠.frz q u):Wd ad H ad (upd H a o') :=
 ⟨List.prefix_refl _,fun b u hb q=>by
   have:b≠a:=fun z=>hb (by rw [z];exact List.mem_of_getElem? e)
   rw [zT this];exact q,
  fun b xs q=>by rw [zT (zeg q h (fun z=>h1 xs z.symm))];exact q,fun b o u q=>by rw [zT (zeg q h (fun z=>h2 o u z.symm))];exact q,fun _ m n=>absurd m n⟩
theorem zK.putC (st:zK K ad H S){n:Nat}{a:Addr}{o o':HO}{c:Cell}(e:ad[n]?=some a)(h:H a=some o)(h1:∀ xs,o≠.tup xs)(h2:∀ q u,o≠.frz q u)(hc:zb6 K ad (upd H a o') a c):zK K ad (upd H a o') (S.set n c) where
 wd:=st.wd.trans (Wd.putC e h h1 h2)
 len:=by rw [List.length_set];exact st.len
 nd:=st.nd
 cell:=fun m b c' e1 e2=>by
  have w:Wd ad H ad (upd H a o'):=Wd.putC e h h1 h2
  by_cases hm:m=n
  ·subst hm
   rw [e] at e1;cases e1
   rw [List.getElem?_set_self (by rw [<- st.len];exact My.zaE e)] at e2
   cases e2
   exact hc
  ·rw [List.getElem?_set_ne (Ne.symm hm)] at e2
   have ne:b≠a:=fun z=>by
    subst z
    have q1:=(List.getElem?_eq_some_iff.mp e1).2
    have q2:=(List.getElem?_eq_some_iff.mp e).2
    exact hm ((List.getElem_inj st.nd).mp (q1.trans q2.symm))
   exact (st.cell m b c' e1 e2).wd w (zT ne)
theorem zqN (st:zK K ad H S){x y:D}{v u:V}{o:Option D}(rx:Rel K ad H x v)(ry:Rel K ad H y u)(g:DGt S x y o):∃ a o',v=.ref a/\zfd H a u o'/\((o=none/\o'=none)\/∃ d w,o=some d/\o'=some w/\Rel K ad H d w):=by
 rcases g with ⟨n,kvs,z,rfl,rfl,hn,rfl⟩ | ⟨n,kvs,ks,rfl,rfl,hn,rfl⟩
 ·cases ry
  cases rx with
  | ref e =>
   obtain⟨vs,hv,r⟩:=st.cell n _ _ e hn
   exact⟨_,_,rfl,zfd.k (k:=Sum.inr z) hv,r.val z⟩
 ·cases rx with
  | ref e =>
   obtain⟨vs,hv,r⟩:=st.cell n _ _ e hn
   cases ry with
   | tup hb rb =>
    have e2:=zf4 rb
    subst e2
    exact⟨_,_,rfl,zfd.t hv hb,r.val ks⟩
end
section
variable {X:Cx}{a b c:Expr}{td ti tz tv:DE}{pos apos cpos:Pos}[B:Bs]
theorem zqQ:PD X (.Dict [] [] pos) zmJ:=by with_unfolding_all exact (zaL zoP fun σ H Q hh=>el8 hh fun ad ρ S Q0 st rh q k p hp =>
 k _ _ _ _ _ q (Wd.newL st hp) (st.newC hp ⟨[],zaq,.nil⟩) st.newRef)
theorem zgU {j:Nat}(hr:zax j X.A)(ho:PD X a td)(hi:PD X b ti)(hs:zow b:=by intro _ _;rfl):PD X (.Subscript a b pos) (zhE td ti):=by with_unfolding_all exact (zaL (zqq (zpG hr) ho hi hs) fun σ H Q hh=>el8 hh fun ad ρ S Q0 st rh q k =>
 ⟨ad,ρ,S,_,st,rh,q,fun x S1 v H1 ad1 q1 w1 st1 r1=>⟨ad1,ρ,S1,_,st1,rh.wd w1,q1,fun y S2 u H2 ad2 ⟨d,g,q2⟩ w2 st2 r2=>by
  obtain⟨p,o',rfl,g',h⟩:=zqN st2 (r1.wd w2) r2 g
  rcases h with ⟨e,_⟩ | ⟨d',w,e,rfl,rw'⟩
  ·cases e
  ·cases e
   exact⟨p,w,rfl,g',k _ S2 _ H2 ad2 q2 (w1.trans w2) st2 rw'⟩⟩⟩)
theorem zpf {j:Nat}(hr:zax j X.A)(ho:PD X a td)(hi:PD X b ti)(hv:PD X c tv)(hs:swapsWith c (some (.Subscript a b apos)) pos.line X.env=pure false:=by rfl):PSD X (.Assign [.Subscript a b apos] c pos) (zmp td ti tv):=by with_unfolding_all exact (zbm (zql (zpG hr) ho hi hv hs) fun E σ H hh=>el8 hh fun ad ρ S E0 so rh q k =>
 ⟨ad,ρ,S,_,so,rh,q,fun v S1 vv H1 ad1 q1 w1 st1 r1=>⟨ad1,ρ,S1,_,st1,rh.wd w1,q1,fun x S2 vx H2 ad2 q2 w2 st2 r2=>⟨ad2,ρ,S2,_,st2,rh.wd (w1.trans w2),q2,fun y S3 vy H3 ad3 q3 w3 st3 r3=>by
  have rx:=r2.wd w3
  have rv:=r1.wd (w2.trans w3)
  have w13:=(w1.trans w2).trans w3
  rcases q3 with ⟨n,kvs,z,rfl,rfl,hn,hl,q3⟩ | ⟨n,kvs,ks,rfl,rfl,hn,hl,q3⟩
  ·cases r3
   cases rx with
   | ref e =>
    obtain⟨vs,hv',r⟩:=st3.cell n _ _ e hn
    have h1:∀ xs,HO.dK vs≠.tup xs:=fun _ z=>by cases z
    have h2:∀ q u,HO.dK vs≠.frz q u:=fun _ _ z=>by cases z
    have w:=Wd.putC (o':=.dK (putK vs (Sum.inr z:Key) vv)) e hv' h1 h2
    refine⟨_,_,rfl,zgr.k (k:=Sum.inr z) hv' (by rw [<- r.length];exact zgQ hl),?_⟩
    exact k.nx _ _ _ _ _ q3 (w13.trans w) (st3.putC e hv' h1 h2 ⟨_,zaq,RelK.wr w.wr (r.put rv)⟩) (rh.wd (w13.trans w))
  ·cases rx with
   | ref e =>
    obtain⟨vs,hv',r⟩:=st3.cell n _ _ e hn
    cases r3 with
    | tup hb rb =>
     have e2:=zf4 rb
     subst e2
     have h1:∀ xs,HO.dT vs≠.tup xs:=fun _ z=>by cases z
     have h2:∀ q u,HO.dT vs≠.frz q u:=fun _ _ z=>by cases z
     have w:=Wd.putC (o':=.dT (putK vs ks vv)) e hv' h1 h2
     refine⟨_,_,rfl,zgr.t hv' hb (by rw [<- r.length];exact zgQ hl),?_⟩
     exact k.nx _ _ _ _ _ q3 (w13.trans w) (st3.putC e hv' h1 h2 ⟨_,zaq,zau.wr w.wr (r.put rv)⟩) (rh.wd (w13.trans w))⟩⟩⟩)
end
structure FH (K:PySem.W.Frag)(n:Str)(st:Stmt)(f:Addr)(fd:FuncData):Prop where
 a:PySem.W.nsIn K mainGlobals n=some (some (.ref f))
 F:Fun K n n st f fd
section
variable {K:PySem.W.Frag}{n:Str}{st:Stmt}{f:Addr}{fd:FuncData}{mg:Str->Option Value}{k:Nat}{h:Heap}{ps:List Str}{sp:Sp}
theorem ztd {oc:Value}{od an:Option Addr}{osl:Array (Option Value)}{kV doc pm cdv ct:Value}(a:PySem.W.nsIn K mainGlobals n=some (some (.ref f)))
  (l:K.lookup f=some ⟨oc,od,.func (PySem.W.fnOf n n (zbw st) (zaZ st) (zF st) .none kV doc pm an cdv ct),osl⟩) (c:PySem.W.codeIn K cdv n=true) (k:PySem.W.keepIn K (.ref f)=true) :
  FH K n st f (PySem.W.fnOf n n (zbw st) (zaZ st) (zF st) .none kV doc pm an cdv ct):=⟨a,zis l c k⟩
theorem zaa (P:Program)(w:World)(base:Heap)(X:K.In h)(G:h.Ns mainGlobals mg)(H:FH K n st f fd)(ok:zW P w K mg base CX0 k f fd ps sp)
  (b:∀ (kV doc pm:Value) (an:Option Addr) (cdv ct:Value) (us:List Value),us.length=ps.length->bindArgs (PySem.W.fnOf n n (zbw st) (zaZ st) (zF st) .none kV doc pm an cdv ct) ⟨us,[]⟩=pure (ps.zip us):=by intro _ _ _ _ _ _ us hl;first | (obtain⟨_,e⟩:=zpJ hl;subst e;rfl) | (obtain⟨_,_,e⟩:=zl8 hl;subst e;rfl) | (obtain⟨_,_,_,e⟩:=zpH hl;subst e;rfl) | (obtain⟨_,_,_,_,e⟩:=zpM hl;subst e;rfl) | (obtain⟨_,_,_,_,_,e⟩:=zpW hl;subst e;rfl) | (obtain⟨_,_,_,_,_,_,e⟩:=len_6 hl;subst e;rfl) | (obtain⟨_,_,_,_,_,_,_,e⟩:=len_7 hl;subst e;rfl)):Got P w K mg base k n ps sp:=⟨⟨f,fd,ok,H.F.binds b,H.F.kp,PySem.W.mg_of X G H.a⟩⟩
theorem zdI (P:Program)(w:World)(base:Heap)(X:K.In h)(G:h.Ns mainGlobals mg)(H:FH K n st f fd)(ok:zW P w K mg base (CXd P w) k f fd ps sp)
  (b:∀ (kV doc pm:Value) (an:Option Addr) (cdv ct:Value) (us:List Value),us.length=ps.length->bindArgs (PySem.W.fnOf n n (zbw st) (zaZ st) (zF st) .none kV doc pm an cdv ct) ⟨us,[]⟩=pure (ps.zip us):=by intro _ _ _ _ _ _ us hl;first | (obtain⟨_,e⟩:=zpJ hl;subst e;rfl) | (obtain⟨_,_,e⟩:=zl8 hl;subst e;rfl) | (obtain⟨_,_,_,e⟩:=zpH hl;subst e;rfl) | (obtain⟨_,_,_,_,e⟩:=zpM hl;subst e;rfl) | (obtain⟨_,_,_,_,_,e⟩:=zpW hl;subst e;rfl) | (obtain⟨_,_,_,_,_,_,e⟩:=len_6 hl;subst e;rfl) | (obtain⟨_,_,_,_,_,_,_,e⟩:=len_7 hl;subst e;rfl)):zfI P w K mg base k n ps sp:=⟨⟨f,fd,ok,H.F.binds b,H.F.kp,PySem.W.mg_of X G H.a⟩⟩
end
section
variable {X:Cx}
theorem zj [B:Bs](i:Nat){x:Str}{pos:Pos}(hN:X.N[i]?=some x:=by rfl)(hv:L2.Vis X.env.scope x:=by first | exact Or.inl rfl | exact Or.inr (Or.inl rfl) | exact Or.inr (Or.inr rfl))(hd:(x==("__debug__":Str))=false:=by decide)(hcd:(x==("__classdict__":Str))=false:=by decide):PD X (.Name x pos) (zf i):=by with_unfolding_all exact (zri (zsf hN hv hd hcd))
theorem zR {N P:List Str}{sc:Scope}(h1:sc.kind=.function:=by rfl)(h2:sc.isCoroutine=false:=by rfl)(h3:sc.isGenerator=false:=by rfl)(h4:N.Nodup:=by decide +kernel)(h5:N.take P.length=P:=by rfl)(h6:∀ x∈P,sc.names.lookup x=some .local\/sc.names.lookup x=some .cell:=by decide +kernel)(h7:∀ y∈sc.names,y.2≠.free:=by decide +kernel):zM N P sc:=⟨h1,h2,h3,h4,h5,h6,h7⟩
end
section
variable {X:Cx}{a b c:Expr}{ta tb:DE}{td ti tz tv:DE}{pos apos cpos:Pos}[B:Bs]
theorem zE.eraseIdx {K:PySem.W.Frag}{ad:List Addr}{H:Hp}:∀ {ds:List D} {vs:List V} (k:Nat),zE K ad H ds vs->zE K ad H (ds.eraseIdx k) (vs.eraseIdx k)
 | _,_,_,.nil=>.nil
 | _,_,0,.cons _ t=>t
 | _,_,k+1,.cons r t=>.cons r (zE.eraseIdx k t)
theorem zqx:MD X "list.pop" zmD:=⟨_,zpA,fun ad H S x ds v vs Q0 Q st rx r ⟨n,xs,j,y,ex,ey,hn,hj,hy,q⟩ k=>by
 subst ex ey
 obtain⟨u,rfl,ru⟩:=zcO r
 cases ru
 cases rx with
 | ref e =>
  obtain⟨ws,hw,rw⟩:=st.cell n _ _ e hn
  obtain⟨w,hw',rw'⟩:=rw.get hy
  have w':=Wd.put (ws:=ws.eraseIdx j) e hw
  have lj:=My.zaE hw'
  exact⟨_,ws,j,j,w,rfl,rfl,hw,by omega,by omega,by unfold seqIndex?;simp;omega,hw',k _ _ _ _ ad q w' (st.put e hw (rw.eraseIdx j)) (rw'.wd w')⟩⟩
end
end Dp
open PySem Dp
local macro_rules | `(tactic| walk_at "dat")=>`(tactic| first | assumption | exact zaz | exact zfq | (refine (zaU _ _ _).trans ?_;exact rfl) | exact zan (by assumption))
local macro_rules | `(tactic| walk_at "dlat")=>`(tactic| first | assumption | exact Lst.rl | exact Lst.at0 | exact Lst.new | (refine Lst.at ?_;exact rfl) | exact Lst.old (by assumption) | exact Lst.here (by assumption) | exact Lst.here (zan (by assumption)))
local macro_rules | `(tactic| walk_at "dseq")=>`(tactic| first | exact Or.inl rfl | (refine Or.inr ?_;walk_at "dlat"))
local macro_rules | `(tactic| walk_at "dbd")=>`(tactic| first | assumption | exact My.Bd.mono (by assumption) (by decide) | exact My.Bd.lit (by decide) (by decide) | (refine My.Bd.add ?_ ?_<;>walk_at "dbd") | (refine My.Bd.sub ?_ ?_<;>walk_at "dbd") | (refine My.Bd.neg ?_;walk_at "dbd") | (refine My.Bd.mulH ?_ ?_<;>walk_at "dbd") | (refine My.Bd.emod (by omega) ?_;walk_at "dbd") | (refine My.Bd.ediv ?_;walk_at "dbd"))
local macro_rules | `(tactic| walk_at "dmul")=>`(tactic| first | assumption | exact Or.inr (Or.inl (by omega)) | exact Or.inr (Or.inr (by omega)) | exact Or.inl ⟨by walk_at "dbd",by walk_at "dbd"⟩)
local macro_rules | `(tactic| walk_at "ddiv")=>`(tactic| first | assumption | exact⟨by omega,by walk_at "dbd"⟩)
local macro_rules | `(tactic| walk_at "dr1")=>`(tactic| with_reducible first|refine zrY ?_|refine zr8 ?_|refine zrB ?_|refine zuw ?_|refine zvg ?_|refine zrE ?_|refine ztZ ?_|refine zsj ?_)
local macro_rules | `(tactic| walk_at "dr1")=>`(tactic| first|((with_reducible refine zt3 (xs:=?rvx) ?rvl ?_);(case rvl=>walk_at "dlat")))
local macro_rules | `(tactic| walk_at "dr1")=>`(tactic| with_reducible first|refine zoT ?_|refine zo7 ?_|refine zt9 ?_|refine ztP ?_|refine zuo ?_|refine zn6 ?_|refine zrx ?_|refine ztu ?_|refine ztL ?_)
local macro_rules | `(tactic| walk_at "dr1")=>`(tactic| first|((with_reducible refine zrj (xs:=?rvx) ?rvl ?_);(case rvl=>walk_at "dlat"))|((with_reducible refine ztn (a:=?rvv) ?rvk ?_);(case rvk=>exact rfl))|((with_reducible refine zh6 (xs:=?rvx) ?rvk ?rvl ?_);(case rvk=>walk_at "dat");(case rvl=>first | exact Nat.lt_of_ble_eq_true rfl | assumption | (simp only [big,List.length_append,List.length_cons,List.length_nil,List.length_map] at *;omega))))
local macro_rules | `(tactic| walk_at "dr1")=>`(tactic| with_reducible first|refine zsQ ?_|refine zrJ ?_|refine zs9 ?_|refine zsz ?_|refine zsm ?_|refine zuE ?_|refine ztF ?_|refine zuM ?_|refine zrw ?_|refine zrA ?_)
local macro_rules | `(tactic| walk_at "dr1")=>`(tactic| first|((with_reducible refine zro ?rvk ?_);(case rvk=>exact rfl)))
local macro_rules | `(tactic| walk_at "dr1")=>`(tactic| with_reducible first|refine zrO ?_|refine zqz ?_)
local macro_rules | `(tactic| walk_at "dr1")=>`(tactic| first|((with_reducible refine zjd (xs:=?rvx) ?rvl ?_);(case rvl=>walk_at "dat")))
local macro_rules | `(tactic| walk_at "dr1")=>`(tactic| with_reducible first|refine zjP ?_|refine ziV ?_|refine zjS ?_|refine ziB ?_|refine zjV ?_)
local macro_rules | `(tactic| walk_at "dr1")=>`(tactic| first|((with_reducible refine zsZ (xs:=?rvx) ?rvl ?_);(case rvl=>walk_at "dlat"))|((with_reducible refine zp2 (xs:=?rvx) ?rvl ?_);(case rvl=>walk_at "dlat")))
local macro_rules | `(tactic| walk_at "dr1")=>`(tactic| with_reducible first|refine zsg ?_|refine zsO ?_|refine zsC ?_)
local macro_rules | `(tactic| walk_at "dr1")=>`(tactic| with_reducible first|refine ztt ?_|refine ztX ?_|refine zur ?_|refine zts ?_|refine zt4 ?_|refine zc5 ?_|refine zty ?_|refine zko ?_|refine zrX ?_|refine zux ?_|refine zeJ ?_|refine ztc ?_)
local macro_rules | `(tactic| walk_at "dr1")=>`(tactic| first|((with_reducible refine zmu (ys:=?rvx) ?rvk ?_);(case rvk=>walk_at "dat")))
local macro_rules | `(tactic| walk_at "dr1")=>`(tactic| with_reducible first|refine zsd ?_|refine zqs ?_|refine r_b ?_|refine r_m ?_)
local macro_rules | `(tactic| walk_at "dr1")=>`(tactic| first|((with_reducible refine zuA ?rvk ?_);(case rvk=>exact rfl)))
local macro_rules | `(tactic| walk_at "dr1")=>`(tactic| with_reducible first|refine zt7 ?_)
local macro_rules | `(tactic| walk_at "dr1")=>`(tactic| with_reducible first|refine r_t ?_|refine zu3 ?_|refine ztQ ?_|refine ztT ?_|refine zvf ?_|refine ztj ?_|refine zsa ?_|refine zrG ?_|refine zqn ?_|refine ztv ?_|refine zkO ?_|refine zpL ?_)
local macro_rules | `(tactic| walk_at "dr1")=>`(tactic| first|((with_reducible refine zui ?rvk ?_);(case rvk=>walk_at "dmul"))|((with_reducible refine ztf ?rvk ?_);(case rvk=>walk_at "ddiv"))|((with_reducible refine ztY ?rvk ?_);(case rvk=>first | omega | assumption))|((with_reducible refine ztg (d:=?rvv) ?rvk ?_);(case rvk=>first | assumption | exact rfl))|((with_reducible refine ztR (xs:=?rvx) (d:=?rvv) ?rvl ?rvk ?_);(case rvl=>walk_at "dlat");(case rvk=>first | assumption | exact rfl)))
local macro_rules | `(tactic| walk_at "dr1")=>`(tactic| with_reducible first|refine zup ?_|refine ztS ?_)
local macro_rules | `(tactic| walk_at "dr1")=>`(tactic| with_reducible first|refine r_c ?_|refine zmv ?_|refine zuK ?_|refine zud ?_|refine ztD ?_|refine zt8 ?_|refine zu6 ?_|refine zu8 ?_|refine zu0 ?_|refine zuY ?_|refine ztz ?_|refine zuv ?_)
local macro_rules | `(tactic| walk_at "dr1")=>`(tactic| first|((with_reducible refine zf2 (d:=?rvv) ?rvk ?_);(case rvk=>exact rfl)))
local macro_rules | `(tactic| walk_at "dr1")=>`(tactic| with_reducible first|refine zuU ?_|refine zqX ?_)
local macro_rules | `(tactic| walk_at "dr1")=>`(tactic| first|((with_reducible refine zqB (g:=?rv1) (b:=?rv2) (f:=?rv3) (h:=?rv4) (a:=?rv5) (l:=?rv6) (d:=?rv7) ?rvk ?_);(case rvk=>walk_at "dat"))|((with_reducible refine zrV (g:=?rv1) (b:=?rv2) (f:=?rv3) (h:=?rv4) (a:=?rv5) (l:=?rv6) (d:=?rv7) ?rvk ?_);(case rvk=>walk_at "dat")))
local macro_rules | `(tactic| walk_at "dr1")=>`(tactic| first|((with_reducible refine ztB (l:=?rvx) ?rvk ?_);(case rvk=>walk_at "dat"))|((with_reducible refine zpm (g:=?rv1) (b:=?rv2) (f:=?rv3) (h:=?rv4) (a:=?rv5) (l:=?rv6) (d:=?rv7) ?rvk ?_);(case rvk=>walk_at "dat"))|((with_reducible refine zov (g:=?rv1) (b:=?rv2) (f:=?rv3) (h:=?rv4) (a:=?rv5) (l:=?rv6) (d:=?rv7) ?rvk ?_);(case rvk=>walk_at "dat"))|((with_reducible refine zrF (g:=?rv1) (b:=?rv2) (f:=?rv3) (h:=?rv4) (a:=?rv5) (l:=?rv6) (d:=?rv7) ?rvk ?_);(case rvk=>walk_at "dat"))|((with_reducible refine zrL (g:=?rv1) (b:=?rv2) (f:=?rv3) (h:=?rv4) (a:=?rv5) (l:=?rv6) (d:=?rv7) ?rvk ?_);(case rvk=>walk_at "dat")))
local macro_rules | `(tactic| walk_at "dr1")=>`(tactic| with_reducible first|refine zmM ?_|refine zsG ?_|refine zpU ?_|refine zp6 ?_|refine zsR ?_|refine zpY ?_|refine zr9 ?_|refine zue ?_)
local macro_rules | `(tactic| walk_at "g")=>`(tactic| repeat walk_at "dr1")
local macro_rules | `(tactic| walk_at "drho")=>`(tactic| simp only [zd3,List.map_cons,List.map_nil,List.length_cons,List.length_nil,Nat.reduceSub,Nat.reduceAdd,List.replicate,List.cons_append,List.nil_append,List.set_cons_zero,List.set_cons_succ])
local macro_rules | `(tactic| walk_at "drho2")=>`(tactic| simp only [List.set_cons_zero,List.set_cons_succ])
namespace Dp
open PySem Rm My
def zbl:DSp:=fun ds S Q=>∃ (ns:List Int) (k:Int),ds=[.rl (ns.map D.int),.int k]/\0<=k/\∀ v,Q (.int v) S
def zc3:DS :=
    (zH (sIf (dT (dOp oLt (zf 1) (dB za0 (zm (zf 0) zA)))) (zY (dOp oIx (zf 0) (zf 1))) zZ)
 (zY (dC (.int 0))))
theorem zim:∀ ds So Q,zbl ds So Q->ds.length=2:=by rintro ds So Q ⟨_,_,rfl,_⟩;rfl
theorem ziP:BodyOk 2 zc3 zbl:=by
 rintro ds S Q ⟨ns,k,rfl,h0,q⟩
 unfold zc3
 walk_at "g"
 rw [List.length_map]
 refine r_d (fun g=>?_) (fun g=>?_)
 ·obtain⟨v,_,av⟩:=znH (zs:=ns) h0 (by omega)
  walk_at "g"
  exact fin_same (q _)
 ·walk_at "g"
  exact fin_same (q _)
def zaK:DSp:=fun ds S Q=>∃ (c k:Int),ds=[.int c,.int k]/\0<=k/\k<3000/\∀ v,0<=v->v<1000000000000000000000000000000000000000000000000000000000033->Q (.int v) S
def zdV:DS :=
    (zH (zQ (dOp zbt (dOp zaD (dOp oMod (zf 0) (dC (.int 1000000000000000000000000000000000000000000000000000000000000))) (dC (.int 3))) (dOp zaD (dC (.int 16180339887498948482045868343656381177203)) (dOp zbt (dOp zbt (dC (.int 2)) (zf 1)) (zf 1)))) (zB 2))
 (zH (zQ (dOp zaD (zf 2) (dOp zbt (dC (.int 6151)) (zf 1))) (zB 2))
 (zY (dOp oMod (dOp zbt (zf 2) (zf 2)) (dOp zaD (dC (.int 1000000000000000000000000000000000000000000000000000000000000)) (dC (.int 33)))))))
theorem zjU:∀ ds So Q,zaK ds So Q->ds.length=2:=by rintro ds So Q ⟨_,_,rfl,_⟩;rfl
theorem zkb:BodyOk 3 zdV zaK:=by
 rintro ds S Q ⟨c,k,rfl,h0,hk,q⟩
 unfold zdV
 have b1:My.Bd 300 (c%1000000000000000000000000000000000000000000000000000000000000+3):=by
  have h1:=Int.emod_nonneg c (b:=1000000000000000000000000000000000000000000000000000000000000) (by decide)
  have h2:=Int.emod_lt_of_pos c (b:=1000000000000000000000000000000000000000000000000000000000000) (by decide)
  show _<2 ^ 300
  omega
 have hk2:0<=2*k*k/\2*k*k<=18000000:=⟨Int.mul_nonneg (by omega) h0,Int.le_trans (Int.mul_le_mul (show 2*k<=6000 by omega) (show k<=3000 by omega) h0 (by decide)) (by decide)⟩
 have b2:My.Bd 300 (16180339887498948482045868343656381177203+2*k*k):=by
  show _<2 ^ 300
  omega
 have cm1:zaH (c%1000000000000000000000000000000000000000000000000000000000000+3) (16180339887498948482045868343656381177203+2*k*k):=.inl ⟨b1.mono (by decide),b2.mono (by decide)⟩
 have b3:My.Bd 700 ((c%1000000000000000000000000000000000000000000000000000000000000+3)*(16180339887498948482045868343656381177203+2*k*k)+6151*k):=(My.Bd.add (n:=600) (My.Bd.mul b1 b2) (by
  show _<2 ^ 600
  omega)).mono (by decide)
 have cm2:zaH ((c%1000000000000000000000000000000000000000000000000000000000000+3)*(16180339887498948482045868343656381177203+2*k*k)+6151*k) ((c%1000000000000000000000000000000000000000000000000000000000000+3)*(16180339887498948482045868343656381177203+2*k*k)+6151*k):=.inl ⟨b3.mono (by decide),b3.mono (by decide)⟩
 walk_at "g"
 exact fin_same (q _ (Int.emod_nonneg _ (by decide)) (Int.emod_lt_of_pos _ (by decide)))
def zct:DSp:=fun ds S Q=>∃ (x:D) (ns:List Int) (most:Int),ds=[x,.int most]/\Lst S x (ns.map D.int)/\ns.length<=63/\1<=most/\most<=60/\∀ zs:List Int,(zs.length:Int)=most->(∀ z∈zs,0<=z/\z<1000000000000000000000000000000000000000000000000000000000033)->New Q S (zs.map D.int)
def zdQ:DS :=
    (zH (zQ (dLC 1 [] (zeS (zm (zf 1) zA)) (zB 0) zbv (dCall zaK (zm (zf 0) (zm (dC (.int 40)) zA)))) (zB 2))
 (zH (zcs (zeL (zm (zf 0) zA)) (zcf 2 (zag (zB 3) (zag (zB 4) zcc))) (zH (zQ (dOp oMod (zf 3) (zf 1)) (zB 5))
 (zQ (dCall zaK (zm (dOp zaD (dOp oIx (zf 2) (zf 5)) (dOp oMod (zf 4) (dC (.int 1000000000000000000000000000000000000000000000000000000000000)))) (zm (dOp oMod (zf 3) (dC (.int 37))) zA))) (ziT (zf 2) (zf 5)))))
 (zY (zf 2))))
theorem zjT:∀ ds So Q,zct ds So Q->ds.length=2:=by rintro ds So Q ⟨_,_,_,rfl,_⟩;rfl
theorem zkB:BodyOk 6 zdQ zct:=by
 rintro ds S Q ⟨x,ns,most,rfl,hx,hl,h1,h2,q⟩
 unfold zdQ
 walk_at "g"
 refine⟨_,rfl,by omega,by omega,?_⟩
 refine⟨by rw [zcb];unfold big;omega,fun i ys S'=>S'=S/\∃ zs:List Int,ys=zs.map D.int/\zs.length=i/\∀ z∈zs,0<=z/\z<1000000000000000000000000000000000000000000000000000000000033,⟨rfl,[],rfl,rfl,by simp⟩,fun _ _ _ _=>True.intro,?_,?_⟩
 ·rintro i d ys S' hd ⟨rfl,zs,rfl,hz,hb⟩
  obtain⟨hi,rfl⟩:=zen hd
  walk_at "g"
  refine⟨_,_,rfl,by decide,by decide,fun v v0 v1=>?_⟩
  refine⟨rfl,zs++[v],by rw [List.map_append];rfl,by simp [hz],fun z hz'=>?_⟩
  rcases List.mem_append.mp hz' with h | h
  ·exact hb z h
  ·have:z=v:=by simpa using h
   subst this;exact⟨v0,v1⟩
 rintro ys S' ⟨rfl,zs,rfl,hz,hb⟩
 rw [zcb] at hz
 have hz:(zs.length:Int)=most:=by omega
 walk_at "g"
 refine zi0 (xs:=ns.map D.int) hx.old ?_
 refine zbq (fun i ρ S''=>∃ (zs:List Int) (w1 w2 w3:Option D),ρ=[some x,some (.int most),some (.ref S'.length),w1,w2,w3]/\S''=S'++[.lst (zs.map D.int)]/\(zs.length:Int)=most/\∀ z∈zs,0<=z/\z<1000000000000000000000000000000000000000000000000000000000033)
  ⟨zs,_,_,_,rfl,rfl,hz,hb⟩ (fun i ρ S'' ⟨zs,w1,w2,w3,_,e,_⟩=>e▸hx.old) ?_ ?_
 ·rintro i d ρ S'' hd ⟨zs,w1,w2,w3,rfl,rfl,hz,hb⟩
  obtain⟨y,hy,rfl⟩:=zbH hd
  obtain⟨n,_,rfl⟩:=zel hy
  have m1:=Int.emod_nonneg ((0+i:Nat):Int) (show most≠0 by omega)
  have m2:=Int.emod_lt_of_pos ((0+i:Nat):Int) (show 0<most by omega)
  obtain⟨u,hu,au⟩:=znH (zs:=zs) (k:=((0+i:Nat):Int)%most) m1 (by omega)
  have iu:=zsM (zs:=zs) (k:=((0+i:Nat):Int)%most) m1 (by omega)
  have k1:=Int.emod_nonneg ((0+i:Nat):Int) (show (37:Int)≠0 by decide)
  have k2:=Int.emod_lt_of_pos ((0+i:Nat):Int) (show (0:Int)<37 by decide)
  walk_at "g"
  refine⟨_,_,rfl,k1,by omega,fun v v0 v1=>?_⟩
  walk_at "g"
  refine zpX zaz iu ?_
  walk_at "g"
  refine⟨zs.set _ v,_,_,_,rfl,by rw [List.map_set],by simpa using hz,fun z hz'=>?_⟩
  rcases zpy hz' with h | h
  ·exact hb z h
  ·subst h;exact⟨v0,v1⟩
 ·rintro ρ S'' ⟨zs,w1,w2,w3,rfl,rfl,hz,hb⟩
  walk_at "g"
  exact fin_same (q zs hz hb)
def zfa (j:Int):Str:=if j=0 then "" else if j=1 then "b" else if j=2 then "xx" else "light"
def nmN (k:Nat)(j:Int):Str:=(⟨#[97+k]⟩:Str)++zfa j
theorem zse (j:Int)(h0:0<=j)(h1:j<4):atD [.str "",.str "b",.str "xx",.str "light"] j=some (.str (zfa j)):=by
  have:j=0\/j=1\/j=2\/j=3:=by omega
  rcases this with rfl | rfl | rfl | rfl<;>rfl
theorem zlK (j:Int):(zfa j).length<=5/\∀ c∈(zfa j).cps.toList,c∈abc:=by
  unfold zfa
  split
  · decide +kernel
  · split
    · decide +kernel
    · split<;>decide +kernel
theorem zkA (k:Nat)(j:Int):(nmN k j).cps.toList=(97+k)::(zfa j).cps.toList:=by
 show ((#[97+k]:Array Nat)++(zfa j).cps).toList=_
 simp
theorem zs0 {k:Nat}{j:Int}(hk:k<9):nmB (nmN k j)=true:=by
 obtain⟨h1,h2⟩:=zlK j
 have hl:(nmN k j).length=(zfa j).length+1:=by
  show ((#[97+k]:Array Nat)++(zfa j).cps).size=(zfa j).cps.size+1
  simp;omega
 rw [zjj,hl]
 refine⟨by omega,by omega,fun c hc=>?_⟩
 rw [zkA] at hc
 rcases List.mem_cons.mp hc with rfl | hc
 ·exact zlO.mpr (by omega)
 ·exact h2 c hc
theorem zrU (i:Nat)(h1:i<9):atS "abcdefghi" (i:Int)=some (97+i):=by
 have:∀ j:_root_.Fin 9,atS "abcdefghi" ((j.val:Nat):Int)=some (97+j.val):=by decide +kernel
 exact this ⟨i,h1⟩
def zbp:DSp:=fun ds S Q=>∃ (ns:List Int),ds=[.rl (ns.map D.int)]/\ns.length<=63/\∀ (T:Sto) (a b c:D) (zs:List Str) (ps:List (Int×Int)) (fs:List Fg) (hz f:Int),WbP zs ps fs hz f->Lst (S++T) a (zs.map D.str)->Lst (S++T) b (ps.map p2)->Lst (S++T) c (fs.map fgD)->Q (.tup [a,b,c,.int hz,.int f,.int (f+5)]) (S++T)
def zcj:DS :=
    (zH (zQ (dOp oMod (dCall zbl (zm (zf 0) (zm (dC (.int 0)) zA))) (dC (.int 1000000000000000000000000000000))) (zB 1))
 (zH (zQ (dOp zaD (dC (.int 2)) (dOp oMod (zf 1) (dC (.int 7)))) (zB 2))
 (zH (zQ (dCall zct (zm (dSl zgS (zf 0) (some (dC (.int 2))) none) (zm (dC (.int 9)) zA))) (zB 3))
 (zH (zQ (dLC 1 [] (zbi (dSl zgS (zf 3) none (some (zf 2)))) (zB 0) zbv (dTup (zm (dOp oMod (dOp oDiv (zf 0) (dC (.int 5))) (dC (.int 5))) (zm (dOp oMod (dOp oDiv (zf 0) (dC (.int 40))) (dC (.int 4))) zA)))) (zB 4))
 (zH (zQ (dLC 2 [] (zeL (zm (dSl zgS (zf 3) none (some (zf 2))) zA)) (zcf 2 (zag (zB 0) (zag (zB 1) zcc))) zbv (dOp zaD (dOp oIx (dC (.str "abcdefghi")) (zf 0)) (dOp oIx (zcM (zm (dC (.str "")) (zm (dC (.str "b")) (zm (dC (.str "xx")) (zm (dC (.str "light")) zA))))) (dOp oMod (dOp oDiv (zf 1) (dC (.int 400))) (dC (.int 4)))))) (zB 5))
 (zH (zQ (dOp oIx (zcM (zm (dC (.int 1)) (zm (dC (.int 2)) (zm (dC (.int 4)) (zm (dC (.int 5)) (zm (dC (.int 8)) (zm (dC (.int 10)) zA))))))) (dOp oMod (dOp oDiv (zf 1) (dC (.int 7))) (dC (.int 6)))) (zB 6))
 (zH (zQ (dOp zaS (dOp oMod (dOp oDiv (zf 1) (dC (.int 42))) (dC (.int 9))) (dC (.int 4))) (zB 7))
 (zH (zQ (zcM zA) (zB 8))
 (zH (zcs (zbi (dSl zgS (zf 3) none (some (dOp oMod (dOp oDiv (zf 1) (dC (.int 378))) (dC (.int 4)))))) (zB 9) (zH (zQ (dCall zaK (zm (zf 9) (zm (dC (.int 72)) zA))) (zB 10))
 (zH (zQ (dOp zaD (zf 7) (dOp oMod (dOp oDiv (zf 10) (dC (.int 4))) (dC (.int 6)))) (zB 11))
 (zH (zQ (dTup (zm (dOp oMod (dOp oDiv (zf 10) (dC (.int 24))) (dC (.int 5))) (zm (dOp zaD (dOp oMod (dOp oDiv (zf 10) (dC (.int 24))) (dC (.int 5))) (dOp oMod (dOp oDiv (zf 10) (dC (.int 120))) (dC (.int 2)))) (zm (dOp oMod (dOp oDiv (zf 10) (dC (.int 240))) (dC (.int 4))) (zm (dOp zaD (dOp oMod (dOp oDiv (zf 10) (dC (.int 240))) (dC (.int 4))) (dOp oMod (dOp oDiv (zf 10) (dC (.int 960))) (dC (.int 2)))) zA))))) (zB 12))
 (zaJ (dM zdB (zf 8) (zm (dOp zaD (zf 12) (dTup (zm (zf 11) (zm (dOp zaD (zf 11) (dOp oMod (dOp oDiv (zf 10) (dC (.int 1920))) (dC (.int 6)))) (zm (dOp zaS (dOp oMod (dOp oDiv (zf 10) (dC (.int 11520))) (dC (.int 3))) (dC (.int 1))) (zm (dC (.int 0)) zA)))))) zA)))))))
 (zY (dTup (zm (zf 5) (zm (zf 4) (zm (zf 8) (zm (zf 6) (zm (zf 7) (zm (dOp zaD (zf 7) (dC (.int 5))) zA)))))))))))))))))
theorem zhr:∀ ds So Q,zbp ds So Q->ds.length=1:=by rintro ds So Q ⟨_,rfl,_⟩;rfl
theorem zhY:BodyOk 13 zcj zbp:=by
  rintro ds S Q ⟨ns,rfl,hl,q⟩
  unfold zcj
  walk_at "g"
  refine⟨ns,0,rfl,by decide,fun c0=>?_⟩
  have e0:=Int.emod_nonneg c0 (b:=1000000000000000000000000000000) (by decide)
  have e1:=Int.emod_lt_of_pos c0 (b:=1000000000000000000000000000000) (by decide)
  walk_at "g"
  generalize c0%1000000000000000000000000000000=hd at e0 e1
  rw [zep]
  have cl:(cutD ns (some 2) none).length<=63:=Nat.le_trans (zqp _ _ _) (by unfold slD;dsimp only;omega)
  generalize cutD ns (some 2) none=cn at cl
  walk_at "g"
  refine⟨_,cn,9,rfl,Lst.at0,cl,by decide,by decide,fun sd sl sb=>?_⟩
  walk_at "g"
  have n1:0<=hd%7/\hd%7<7:=by omega
  rw [zep,zf8 _ (by omega) (by omega)]
  have tl:(sd.take (2+hd%7).toNat).length=(2+hd%7).toNat:=by rw [List.length_take];omega
  obtain⟨sc,hsc⟩:∃ sc,sc=sd.take (2+hd%7).toNat:=⟨_,rfl⟩
  rw [<- hsc] at tl ⊢
  walk_at "g"
  refine zbk (fun _=>true) (onI fun k=>p2 (k/5%5,k/40%4)) (by exact Lst.at (k:=2) rfl) (by rw [List.length_map];unfold big;omega) (fun i d ys hd' hw=>?_) ?_
  · obtain⟨z,_,rfl⟩:=zel hd'
    walk_at "g"
    exact zcH hd' hw rfl rfl
  rw [filter_true,zqS]
  walk_at "g"
  rw [zep,zf8 _ (by omega) (by omega),<- hsc]
  walk_at "g"
  refine zi0 (xs:=sc.map D.int) (Lst.at (k:=4) rfl) ?_
  obtain⟨S5,hS5⟩:∃ S5:Sto,S5=S++[Cell.lst (cn.map D.int),.lst (sd.map D.int),.lst (sc.map D.int),.lst (sc.map fun k=>p2 (k/5%5,k/40%4)),.lst (sc.map D.int)]:=⟨_,rfl⟩
  rw [<- hS5]
  have k5:Lst S5 (.ref (S.length+4)) (sc.map D.int):=hS5▸Lst.at (k:=4) rfl
  have ksd:S5[S.length+1]?=some (.lst (sd.map D.int)):=hS5▸(zaU _ _ 1).trans rfl
  have ksp:S5[S.length+3]?=some (.lst (sc.map fun k=>p2 (k/5%5,k/40%4))):=hS5▸(zaU _ _ 3).trans rfl
  have eS5:∃ T,S5=S++T:=⟨_,hS5⟩
  clear hS5
  refine ziL (fun i ys S'=>∃ (G:Sto) (zs:List Str),S'=S5++G/\ys=zs.map D.str/\zs.length=i/\(∀ z∈zs,nmB z=true)/\∀ (j:Nat) z,zs[j]?=some z->z.cps.toList.head?=some (97+j)) ⟨[],[],by simp,rfl,rfl,by simp,fun j z h=>by simp at h⟩ (fun i ys S' ⟨G,zs,e,_⟩=>e▸k5.old) (by rw [zaQ,List.length_map];unfold big;omega) ?_ ?_
  · rintro i d ys S' hd' ⟨G,zs,rfl,rfl,hz,hn,hh⟩
    obtain⟨y,hy,rfl⟩:=zbH hd'
    have hi:=zai hy
    rw [List.length_map] at hi
    obtain⟨z,_,rfl⟩:=zel hy
    rw [Nat.zero_add]
    walk_at "g"
    refine ztK (c:=97+i) (by decide +kernel) (zrU i (by omega)) ?_
    have sa:=zse (z/400%4) (by omega) (by omega)
    walk_at "g"
    obtain⟨s1,_⟩:=zlK (z/400%4)
    refine zsv (by show 1+_<=big;unfold big;omega) ?_
    refine⟨G++[_],zs++[nmN i (z/400%4)],rfl,by rw [List.map_append];rfl,by simp [hz],fun x hx=>?_,fun j x hx=>?_⟩
    · rcases List.mem_append.mp hx with hx | hx
      · exact hn x hx
      · have:x=nmN i (z/400%4):=by simpa using hx
        rw [this];exact zs0 (by omega)
    · rcases Nat.lt_or_ge j zs.length with g | g
      · rw [List.getElem?_append_left g] at hx
        exact hh j x hx
      · have lj:=zai hx
        rw [List.length_append] at lj
        have:j=zs.length:=by simp at lj;omega
        subst this
        rw [List.getElem?_append_right (Nat.le_refl _),Nat.sub_self] at hx
        have:nmN i (z/400%4)=x:=by simpa using hx
        subst this
        rw [zkA,hz];rfl
  rintro ys S' ⟨G,zs,rfl,rfl,hz,hn,hh⟩
  rw [zaQ,List.length_map,tl] at hz
  obtain⟨S6,hS6⟩:∃ S6:Sto,S6=S5++G:=⟨_,rfl⟩
  rw [<- hS6]
  have ksd6:S6[S.length+1]?=some (.lst (sd.map D.int)):=hS6▸zan ksd
  have ksp6:S6[S.length+3]?=some (.lst (sc.map fun k=>p2 (k/5%5,k/40%4))):=hS6▸zan ksp
  have eS6:∃ T,S6=S++T:=zjf eS5 hS6
  clear hS6 ksd ksp k5 eS5
  walk_at "g"
  have ah:∃ w,0<=w/\w<=10/\atD [.int 1,.int 2,.int 4,.int 5,.int 8,.int 10] (hd/7%6)=some (.int w):=by
    have:hd/7%6=0\/hd/7%6=1\/hd/7%6=2\/hd/7%6=3\/hd/7%6=4\/hd/7%6=5:=by omega
    rcases this with e | e | e | e | e | e<;>rw [e]
    · exact⟨1,by decide,by decide,rfl⟩
    · exact⟨2,by decide,by decide,rfl⟩
    · exact⟨4,by decide,by decide,rfl⟩
    · exact⟨5,by decide,by decide,rfl⟩
    · exact⟨8,by decide,by decide,rfl⟩
    · exact⟨10,by decide,by decide,rfl⟩
  obtain⟨hw,hw0,hw1,aw⟩:=ah
  walk_at "g"
  rw [zep,zf8 _ (by omega) (by omega)]
  have tl2:(sd.take (hd/378%4).toNat).length<=4:=by rw [List.length_take];omega
  generalize sd.take (hd/378%4).toNat=se at tl2
  have f0:-4<=hd/42%9-4/\hd/42%9-4<=4:=by omega
  generalize hd/42%9-4=f at f0
  obtain⟨S7,hS7⟩:∃ S7:Sto,S7=S6++[Cell.lst (zs.map D.str),.lst [.int 1,.int 2,.int 4,.int 5,.int 8,.int 10]]:=⟨_,rfl⟩
  have kz:S7[S6.length]?=some (.lst (zs.map D.str)):=hS7▸zaz
  have ksd7:S7[S.length+1]?=some (.lst (sd.map D.int)):=hS7▸zan ksd6
  have ksp7:S7[S.length+3]?=some (.lst (sc.map fun k=>p2 (k/5%5,k/40%4))):=hS7▸zan ksp6
  have eS7:∃ T,S7=S++T:=zjf eS6 hS7
  rw [show S6++[Cell.lst (zs.map D.str),.lst [.int 1,.int 2,.int 4,.int 5,.int 8,.int 10],.lst [],.lst (se.map D.int)]=S7++[.lst [],.lst (se.map D.int)] by rw [hS7];simp,show S6.length+2=S7.length by rw [hS7];simp,show S6.length+3=S7.length+1 by rw [hS7];simp]
  generalize S6.length=nz at kz
  clear hS7 ksd6 ksp6 eS6
  walk_at "drho"
  refine zbq (fun i ρ S'=>∃ (fs:List Fg) (w9 w10 w11 w12:Option D),S'=S7++[.lst (fs.map fgD),.lst (se.map D.int)]/\ρ=[some (.rl (ns.map D.int)),some (.int hd),some (.int (2+hd%7)),some (.ref (S.length+1)),some (.ref (S.length+3)),some (.ref nz),some (.int hw),some (.int f),some (.ref S7.length),w9,w10,w11,w12]/\fs.length=i/\∀ F∈fs,FgV F) ⟨[],_,_,_,_,rfl,rfl,rfl,by simp⟩ (fun i ρ S' ⟨fs,_,_,_,_,e,_⟩=>e▸Lst.at (k:=1) rfl) ?_ ?_
  · rintro i d ρ S' hd' ⟨fs,w9,w10,w11,w12,rfl,rfl,hi,hf⟩
    have li:=zai hd'
    rw [List.length_map] at li
    obtain⟨z,_,rfl⟩:=zel hd'
    walk_at "g"
    refine⟨z,72,rfl,by decide,by decide,fun m m0 m1=>?_⟩
    walk_at "g"
    refine zre (by show 4+4<=big;decide) ?_
    have hlim:(fs.map fgD).length<big:=by rw [List.length_map];unfold big;omega
    walk_at "g"
    have sm:∀ {n:Nat} {x:Int},200<=n->-100<=x->x<=100->Bd n x:=fun {n x} hn h1 h2=>(show Bd 7 x by show _<2 ^ 7;omega).mono (by omega)
    refine⟨fs++[⟨m/24%5,m/24%5+m/120%2,m/240%4,m/240%4+m/960%2,f+m/4%6,f+m/4%6+m/1920%6,m/11520%3-1,0⟩],_,_,_,_,by rw [List.map_append];rfl,rfl,by simp [hi],fun F hF=>?_⟩
    rcases List.mem_append.mp hF with hF | hF
    · exact hf F hF
    · have e:=List.mem_singleton.mp hF
      subst e
      exact⟨⟨by dsimp only;omega,by dsimp only;omega,sm (by decide) (by dsimp only;omega) (by dsimp only;omega),sm (by decide) (by dsimp only;omega) (by dsimp only;omega),sm (by decide) (by dsimp only;omega) (by dsimp only;omega),sm (by decide) (by dsimp only;omega) (by dsimp only;omega),sm (by decide) (by dsimp only;omega) (by dsimp only;omega),sm (by decide) (by dsimp only;omega) (by dsimp only;omega)⟩,by dsimp only;omega,sm (by decide) (by dsimp only;omega) (by dsimp only;omega),sm (by decide) (by dsimp only;omega) (by dsimp only;omega)⟩
  · rintro ρ S' ⟨fs,w9,w10,w11,w12,rfl,rfl,hi,hf⟩
    rw [List.length_map] at hi
    walk_at "g"
    obtain⟨T7,rfl⟩:=eS7
    rw [List.append_assoc]
    have w:WbP zs (sc.map fun k=>(k/5%5,k/40%4)) fs hw f:=⟨by omega,by omega,hn,hh,by rw [List.length_map];omega,fun p hp=>by
      obtain⟨k,_,rfl⟩:=List.mem_map.mp hp
      dsimp only;omega,by omega,hf,hw0,hw1,f0.1,f0.2⟩
    refine fin_same (q _ _ _ _ zs _ fs hw f w ?_ ?_ ?_)
    · rw [<- List.append_assoc];exact Lst.here (zan kz)
    · rw [<- List.append_assoc,List.map_map];exact Lst.here (zan ksp7)
    · rw [<- List.append_assoc];exact Lst.at0
def zaG:DSp:=fun ds S Q=>∃ (x:D) (cs:List (Int×Int)),ds=[x]/\Lst S x (cs.map p2)/\Grd cs/\Q .non S
def zbh:DS :=
    (zH (sIf (dOr (dT (dOp oLt (dB za0 (zm (zf 0) zA)) (dC (.int 2)))) (dT (dOp oGt (dB za0 (zm (zf 0) zA)) (dC (.int 40))))) zbR zZ)
 (zcs (zj0 (zm (dC (.int 1)) (zm (dB za0 (zm (zf 0) zA)) zA))) (zB 1) (sIf (dT (dOp oLe (dOp oIx (dOp oIx (zf 0) (zf 1)) (dC (.int 0))) (dOp oIx (dOp oIx (zf 0) (dOp zaS (zf 1) (dC (.int 1)))) (dC (.int 0))))) zbR zZ)))
theorem ze1:∀ ds So Q,zaG ds So Q->ds.length=1:=by rintro ds So Q ⟨_,_,rfl,_⟩;rfl
theorem zfl:BodyOk 2 zbh zaG:=by
 rintro ds S Q ⟨x,cs,rfl,hx,g,q⟩
 unfold zbh
 have g1:=g.two
 have g2:=g.most
 walk_at "g"
 rw [List.length_map]
 refine r_d (fun z=>absurd z (by omega)) (fun _=>?_)
 walk_at "g"
 rw [List.length_map]
 refine r_d (fun z=>absurd z (by omega)) (fun _=>?_)
 walk_at "g"
 rw [List.length_map]
 refine⟨_,_,rfl,?_⟩
 refine zbq (fun i ρ S'=>S'=S/\∃ w:Option D,ρ=[some x,w]) ⟨rfl,none,rfl⟩ (fun _ _ _ _=>True.intro) ?_ ?_
 ·rintro i d ρ S' hd ⟨rfl,w,rfl⟩
  obtain⟨hi,rfl⟩:=zen hd
  obtain⟨a,ha,aa⟩:=zj3 (cs:=cs) (k:=1+(i:Int)) (by omega) (by omega)
  obtain⟨b,hb,ab⟩:=zj3 (cs:=cs) (k:=1+(i:Int)-1) (by omega) (by omega)
  have hlt:=znc g (show (1+(i:Int)-1).toNat<(1+(i:Int)).toNat by omega) hb ha
  walk_at "g"
  refine r_d (fun z=>absurd z (by omega)) (fun _=>?_)
  walk_at "g"
  exact⟨rfl,_,rfl⟩
 ·rintro ρ S' ⟨rfl,w,rfl⟩
  exact fin_same q
def zcF:DSp:=fun ds S Q=>∃ (S0:Sto) (x:D) (cs:List (Int×Int)),ds=[.ref S0.length,x]/\S=S0++[.ins "Ground" []]/\Lst S0 x (cs.map p2)/\Grd cs/\Q .non (S0++[.ins "Ground" [("corners",.ref (S0.length+1))],.lst (cs.map p2)])
def zbB:DS :=
    (zH (zaJ (dCall zaG (zm (zf 1) zA)))
 (zdS "Ground" "corners" (zf 0) (dB zga (zm (zf 1) zA))))
theorem zir:∀ ds So Q,zcF ds So Q->ds.length=2:=by rintro ds So Q ⟨_,_,_,rfl,_⟩;rfl
theorem zjh:BodyOk 2 zbB zcF:=by
 rintro ds S Q ⟨S0,x,cs,rfl,rfl,hx,g,q⟩
 unfold zbB
 have hx':Lst (S0++[.ins "Ground" []]) x (cs.map p2):=hx.old
 walk_at "g"
 refine⟨x,cs,rfl,hx',g,?_⟩
 walk_at "g"
 refine⟨S0.length,[],rfl,zaz,by decide,?_⟩
 rw [zcl]
 exact fin_same q
def zeR:DSp:=zmV "Ground" zcF
def zaF:DSp:=fun ds S Q=>∃ (x y:D) (xs ys:List D),ds=[x,y]/\Lst S x xs/\Lst S y ys/\1<=xs.length/\xs.length<=12/\ys.length<=12/\Q .non S
def zbd:DS :=
    (zH (sIf (dOr (dT (dOp oLt (dB za0 (zm (zf 0) zA)) (dC (.int 1)))) (dT (dOp oGt (dB za0 (zm (zf 0) zA)) (dC (.int 12))))) zbR zZ)
 (sIf (dT (dOp oGt (dB za0 (zm (zf 1) zA)) (dC (.int 12)))) zbR zZ))
theorem zff:∀ ds So Q,zaF ds So Q->ds.length=2:=by rintro ds So Q ⟨_,_,_,_,rfl,_⟩;rfl
theorem zft:BodyOk 2 zbd zaF:=by
 rintro ds S Q ⟨x,y,xs,ys,rfl,hx,hy,h1,h2,h3,q⟩
 unfold zbd
 walk_at "g"
 rw [decide_eq_false (show ¬ ((xs.length:Int)<1) by omega)]
 walk_at "g"
 rw [decide_eq_false (show ¬ ((12:Int)<xs.length) by omega)]
 walk_at "g"
 rw [decide_eq_false (show ¬ ((12:Int)<ys.length) by omega)]
 walk_at "g"
 exact fin_same q
def onC (p:Nat->Bool):D->D
 | .str z=>.bl (p (z.cps.toList.headD 0))
 | d=>d
theorem zn9 {z:Str}{i:Nat}{d:D}(h:(signs z)[i]?=some d):∃ c,z.cps.toList[i]?=some c/\d=.str ⟨#[c]⟩:=by
 unfold signs at h
 rw [List.getElem?_map] at h
 cases e:z.cps.toList[i]? with
 | none=>rw [e] at h;cases h
 | some p=>rw [e] at h;cases h;exact⟨p,rfl,rfl⟩
theorem znK (p:Nat->Bool)(z:Str):(signs z).map (onC p)=(z.cps.toList.map p).map D.bl:=by
 unfold signs
 rw [List.map_map,List.map_map];rfl
theorem znM (z:Str):(signs z).length=z.length:=by
 unfold signs
 rw [List.length_map];exact Array.length_toList
def zdv:DSp:=fun ds S Q=>∃ z:Str,ds=[.str z]/\z.length<=1000/\Q (.bl (nmB z)) S
def zeP:DS :=
    (zH (sIf (dOr (dT (dOp oLt (dB za0 (zm (zf 0) zA)) (dC (.int 1)))) (dT (dOp oGt (dB za0 (zm (zf 0) zA)) (dC (.int 8))))) (zY (dC (.bl false))) zZ)
 (zY (dB zet (zm (dLC 1 [] (zbi (zf 0)) (zB 0) zbv (dOp oIn (zf 0) (dC (.str "abcdefghijklmnopqrstuvwxyz")))) zA))))
theorem zlb:∀ ds So Q,zdv ds So Q->ds.length=1:=by rintro ds So Q ⟨_,rfl,_⟩;rfl
theorem zmc:BodyOk 1 zeP zdv:=by
 rintro ds S Q ⟨z,rfl,hz,q⟩
 unfold zeP
 have hb:z.length<=big:=by unfold big;omega
 walk_at "g"
 refine znE hb ?_
 walk_at "g"
 unfold nmB at q
 refine r_d (fun h=>?_) (fun h=>?_)
 ·walk_at "g"
  rw [decide_eq_false (show ¬ 1<=z.length by omega)] at q
  exact fin_same q
 rw [decide_eq_true (show 1<=z.length by omega)] at q
 walk_at "g"
 refine znE hb ?_
 walk_at "g"
 refine r_d (fun h=>?_) (fun h=>?_)
 ·walk_at "g"
  rw [decide_eq_false (show ¬ z.length<=8 by omega)] at q
  exact fin_same q
 rw [decide_eq_true (show z.length<=8 by omega)] at q
 walk_at "g"
 refine zbk (fun _=>true) (onC fun c=>decide (c∈abc)) True.intro (by rw [znM];exact hb) (fun i d ys hd hw=>?_) ?_
 ·obtain⟨c,_,rfl⟩:=zn9 hd
  walk_at "g"
  rw [zrl]
  exact zcH hd hw rfl rfl
 rw [filter_true,znK]
 walk_at "g"
 refine zgD Lst.at0 rfl ?_
 refine zco rfl ?_
 rw [List.all_map]
 exact q
def zaV:DSp:=fun ds S Q=>∃ (x:D) (zs:List Str),ds=[x]/\Lst S x (zs.map D.str)/\zs.length<=100/\(∀ z∈zs,nmB z=true)/\zs.Nodup/\Q .non S
def zbJ:DS :=
    (zH (sIf (zdp (dT (dB zet (zm (dLC 1 [] (zbi (zf 0)) (zB 0) zbv (dCall zdv (zm (zf 0) zA))) zA)))) zbR zZ)
 (sIf (dT (dOp oLt (dB zjZ (zm (zf 0) zA)) (dB za0 (zm (zf 0) zA)))) zbR zZ))
theorem zfR:∀ ds So Q,zaV ds So Q->ds.length=1:=by rintro ds So Q ⟨_,_,rfl,_⟩;rfl
theorem zgi:BodyOk 1 zbJ zaV:=by
 rintro ds S Q ⟨x,zs,rfl,hx,hl,hn,nd,q⟩
 unfold zbJ
 walk_at "g"
 refine zbk (fun _=>true) (onS fun z=>.bl (nmB z)) hx (by rw [List.length_map];unfold big;omega) (fun i d ys hd hw=>?_) ?_
 ·obtain⟨z,hz,rfl⟩:=zbS hd
  walk_at "g"
  refine⟨z,rfl,by have:=(zjj.mp (hn z (List.mem_of_getElem? hz))).2.1;omega,?_⟩
  exact zcH hd hw rfl rfl
 rw [filter_true,zjb,show zs.map (fun z=>D.bl (nmB z))=(zs.map nmB).map D.bl by rw [List.map_map];rfl]
 walk_at "g"
 refine zgD (b:=true) Lst.at0 (by rw [List.all_map,List.all_eq_true];exact hn) ?_
 walk_at "g"
 refine zny (zs:=zs) hx.old (by omega) ?_
 rw [ziA nd]
 have hx1:Lst (S++[Cell.lst ((zs.map nmB).map D.bl)]) x (zs.map D.str):=hx.old
 walk_at "g"
 rw [List.length_map,decide_eq_false (show ¬ ((zs.length:Int)<zs.length) by omega)]
 walk_at "g"
 exact zco rfl q
def zdg:DSp:=fun ds S Q=>∃ (a b:Int×Int),ds=[p2 a,p2 b]/\zaH a.1 b.2/\zaH b.1 a.2/\Q (.bl (flt a b)) S
def ziw:DS :=
  (zY (dOp oLt (dOp zbt (dOp oIx (zf 0) (dC (.int 0))) (dOp oIx (zf 1) (dC (.int 1)))) (dOp zbt (dOp oIx (zf 1) (dC (.int 0))) (dOp oIx (zf 0) (dC (.int 1))))))
theorem zoC:∀ ds So Q,zdg ds So Q->ds.length=2:=by rintro ds So Q ⟨_,_,rfl,_⟩;rfl
theorem zrc:BodyOk 2 ziw zdg:=by
 rintro ds S Q ⟨a,b,rfl,c1,c2,q⟩
 unfold ziw
 walk_at "g"
 exact fin_same q
def zdJ:DSp:=fun ds S Q=>∃ (g:D) (cs:List (Int×Int)) (p:Int×Int),ds=[g,p2 p]/\GAt S g cs/\Grd cs/\Bd 1000 p.1/\Bd 1000 p.2/\Q (.bl (decide (zi9 cs*p.2<=p.1)&&decide (p.1<=zhJ cs*p.2))) S
def zhd:DS :=
    (zH (zQ (dTup (zm (dOp oIx (dOp oIx (zcy "corners" (zf 0)) (dC (.int 0))) (dC (.int 0))) (zm (dC (.int 1)) zA))) (zB 2))
 (zH (zQ (dTup (zm (dOp oIx (dOp oIx (zcy "corners" (zf 0)) (dUn zd6 (dC (.int 1)))) (dC (.int 0))) (zm (dC (.int 1)) zA))) (zB 3))
 (zY (zfB (zhj (dCall zdg (zm (zf 1) (zm (zf 2) zA)))) (zhj (dCall zdg (zm (zf 3) (zm (zf 1) zA))))))))
theorem znI:∀ ds So Q,zdJ ds So Q->ds.length=2:=by rintro ds So Q ⟨_,_,_,rfl,_⟩;rfl
theorem zpw:BodyOk 4 zhd zdJ:=by
 rintro ds S Q ⟨g,cs,p,rfl,⟨n,l,rfl,hn,hl⟩,gr,b1,b2,q⟩
 unfold zhd
 have g1:=gr.two
 obtain⟨a,ha,ea⟩:=znw gr
 obtain⟨z,hz,ez⟩:=zpo gr
 have aa:atD (cs.map p2) 0=some (p2 a):=zbQ (i:=0) (by rw [List.getElem?_map,ha];rfl)
 have az:atD (cs.map p2) (-1)=some (p2 z):=by
  have hne:cs≠[]:=fun e=>by rw [e] at g1;simp at g1
  have en:cs=cs.dropLast++[z]:=by
   have h2:=List.dropLast_concat_getLast hne
   have h3:cs.getLast hne=z:=by
    rw [List.getLast_eq_getElem]
    have hl':=zai hz
    rw [List.getElem?_eq_getElem hl'] at hz
    cases hz;rfl
   rw [h3] at h2
   exact h2.symm
  rw [en,List.map_append];exact zoJ
 obtain⟨ba,_⟩:=gr.bd a (List.mem_of_getElem? ha)
 obtain⟨bz,_⟩:=gr.bd z (List.mem_of_getElem? hz)
 rw [ea,ez] at q
 have e1:flt p (a.1,1)=decide (p.1<a.1*p.2):=by unfold flt;dsimp only;rw [Int.mul_one]
 have e2:flt (z.1,1) p=decide (z.1*p.2<p.1):=by unfold flt;dsimp only;rw [Int.mul_one]
 have c1:zaH a.1 p.2:=.inl ⟨ba.mono (by decide),b2.mono (by decide)⟩
 have c2:zaH z.1 p.2:=.inl ⟨bz.mono (by decide),b2.mono (by decide)⟩
 have c3:∀ u:Int,zaH u 1:=fun u=>.inr (.inr (by decide))
 walk_at "g"
 refine⟨p,(a.1,1),rfl,c3 _,c1,?_⟩
 rw [e1]
 walk_at "g"
 refine zeY (fun g=>?_) (fun g=>?_)
 ·walk_at "g"
  refine⟨(z.1,1),p,rfl,c2,c3 _,?_⟩
  rw [e2]
  walk_at "g"
  rw [decide_eq_true (show a.1*p.2<=p.1 by omega),Bool.true_and] at q
  rw [show (!decide (z.1*p.2<p.1))=decide (p.1<=z.1*p.2) by rw [<- decide_not];exact decide_eq_decide.mpr (by omega)]
  exact fin_same q
 ·rw [decide_eq_false (show ¬ a.1*p.2<=p.1 by omega),Bool.false_and] at q
  exact fin_same q
def zba:DSp:=fun ds S Q=>∃ (t b:Int),ds=[.int t,.int b]/\Q (.int ((Int.gcd t b:Nat):Int)) S
def zb5:DS :=
    (zH (zib (dT (dOp oNe (zf 1) (dC (.int 0)))) (zH (zQ (dOp oMod (zf 0) (zf 1)) (zB 2))
 (zH (zQ (zf 1) (zB 0))
 (zQ (zf 2) (zB 1)))))
 (zY (dB zpn (zm (zf 0) zA))))
theorem zgL:∀ ds So Q,zba ds So Q->ds.length=2:=by rintro ds So Q ⟨_,_,rfl,_⟩;rfl
theorem zhq:BodyOk 3 zb5 zba:=by
 rintro ds S Q ⟨t,b,rfl,q⟩
 unfold zb5
 refine Dp.zmM ?_
 refine zso (fun m ρ S'=>S'=S/\∃ (x y:Int) (w:Option D),ρ=[some (.int x),some (.int y),w]/\m=y.natAbs/\Int.gcd x y=Int.gcd t b) b.natAbs ⟨rfl,_,_,none,rfl,rfl,rfl⟩ ?_
 rintro m ρ S' ⟨rfl,x,y,w,rfl,rfl,e⟩
 walk_at "g"
 refine zeY (fun h0=>?_) (fun h0=>?_)
 ·refine zn6 ?_
  refine Dp.zmM ?_
  refine Dp.zpY ?_
  refine Dp.zmv ?_
  refine Dp.zf2 rfl ?_
  refine Dp.zf2 rfl ?_
  refine zrm h0 ?_
  walk_at "g"
  exact⟨_,zlx h0,rfl,_,_,_,rfl,rfl,(zpk x y).trans e⟩
 ·subst h0
  rw [Int.gcd_zero] at e
  walk_at "g"
  rw [<- e] at q
  exact fin_same q
def zcS:DSp:=fun ds S Q=>∃ (t b:Int),ds=[.int t,.int b]/\b≠0/\Bd 8000 b/\Q (p2 (frT t b,frB t b)) S
def zed:DS :=
    (zH (zQ (dCall zba (zm (zf 0) (zm (zf 1) zA))) (zB 2))
 (zH (sJ (sIf (dT (dOp oLt (zf 1) (dC (.int 0)))) (zQ (dUn zd6 (zf 2)) (zB 2)) zZ))
 (zY (dTup (zm (dOp oDiv (zf 0) (zf 2)) (zm (dOp oDiv (zf 1) (zf 2)) zA))))))
theorem zkN:∀ ds So Q,zcS ds So Q->ds.length=2:=by rintro ds So Q ⟨_,_,rfl,_⟩;rfl
theorem zlz:BodyOk 3 zed zcS:=by
 rintro ds S Q ⟨t,b,rfl,hb,bb,q⟩
 unfold zed
 have hgn:=zp0 (t:=t) (b:=b) hb
 have hgb:=ztM (t:=t) (b:=b) hb bb
 walk_at "g"
 refine⟨t,b,rfl,?_⟩
 walk_at "g"
 refine r_J (fun ρ S'=>S'=S/\ρ=[some (.int t),some (.int b),some (.int (gd t b))]) ?_ ?_
 ·walk_at "g"
  refine r_d (fun g=>?_) (fun g=>?_)
  ·have hg:gd t b=-((Int.gcd t b:Nat):Int):=if_pos g
   walk_at "g"
   exact⟨rfl,by rw [hg];rfl⟩
  ·have hg:gd t b=((Int.gcd t b:Nat):Int):=if_neg g
   walk_at "g"
   exact⟨rfl,by rw [hg];rfl⟩
 rintro ρ S' ⟨rfl,rfl⟩
 refine Dp.zpU ?_
 refine Dp.zpL ?_
 refine Dp.zkO ?_
 refine Dp.zmv ?_
 refine Dp.zf2 rfl ?_
 refine Dp.zf2 rfl ?_
 refine zm4 ⟨hgn,hgb⟩ ?_
 refine Dp.zkO ?_
 refine Dp.zmv ?_
 refine Dp.zf2 rfl ?_
 refine Dp.zf2 rfl ?_
 refine zm4 ⟨hgn,hgb⟩ ?_
 walk_at "g"
 exact fin_same q
def zcB:DSp:=fun ds S Q=>∃ (a b p:Int×Int),ds=[p2 a,p2 b,p2 p]/\b.1≠a.1/\0<p.2/\Bd 180 a.1/\Bd 200 a.2/\Bd 180 b.1/\Bd 200 b.2/\Bd 1000 p.1/\Bd 1000 p.2/\∀ c:Int×Int,Sv c (hvT a b p) (hvB a b p)->Int.gcd c.1 c.2=1->Bd 1400 c.1->Bd 1400 c.2->Q (p2 c) S
theorem zun {t b:Int}(hb:b≠0):Sv (frT t b,frB t b) (if 0<b then t else -t) (if 0<b then b else -b):=by
 have h1:=zpB t b
 have h2:=zqm (t:=t) hb
 refine⟨by show 0<frB t b;omega,?_⟩
 show frT t b*_=_*frB t b
 split
 ·rw [h1,Int.mul_comm]
 ·rw [Int.mul_neg,h1,Int.neg_mul,Int.mul_comm]
def zdT:DS :=
    (zH (zQ (dOp zaS (dOp oIx (zf 1) (dC (.int 0))) (dOp oIx (zf 0) (dC (.int 0)))) (zB 3))
 (zH (zQ (dOp zaS (dOp oIx (zf 1) (dC (.int 1))) (dOp oIx (zf 0) (dC (.int 1)))) (zB 4))
 (zH (zQ (dOp zaD (dOp zbt (dOp zbt (dOp oIx (zf 0) (dC (.int 1))) (zf 3)) (dOp oIx (zf 2) (dC (.int 1)))) (dOp zbt (zf 4) (dOp zaS (dOp oIx (zf 2) (dC (.int 0))) (dOp zbt (dOp oIx (zf 0) (dC (.int 0))) (dOp oIx (zf 2) (dC (.int 1))))))) (zB 5))
 (zY (dCall zcS (zm (zf 5) (zm (dOp zbt (zf 3) (dOp oIx (zf 2) (dC (.int 1)))) zA)))))))
theorem zjN:∀ ds So Q,zcB ds So Q->ds.length=3:=by rintro ds So Q ⟨_,_,_,rfl,_⟩;rfl
theorem zkK:BodyOk 6 zdT zcB:=by
 rintro ds S Q ⟨a,b,p,rfl,hne,hp,b1,b2,b3,b4,b5,b6,q⟩
 unfold zdT
 have r1:Bd 181 (b.1-a.1):=Bd.sub b3 b1
 have r2:Bd 201 (b.2-a.2):=Bd.sub b4 b2
 have m1:Bd 381 (a.2*(b.1-a.1)):=Bd.mul b2 r1
 have m2:Bd 1381 (a.2*(b.1-a.1)*p.2):=Bd.mul m1 b6
 have m3:Bd 1180 (a.1*p.2):=Bd.mul b1 b6
 have m4:Bd 1181 (p.1-a.1*p.2):=Bd.sub (b5.mono (by decide)) m3
 have m5:Bd 1382 ((b.2-a.2)*(p.1-a.1*p.2)):=Bd.mul r2 m4
 have m6:Bd 1181 ((b.1-a.1)*p.2):=Bd.mul r1 b6
 have bT:Bd 1400 (a.2*(b.1-a.1)*p.2+(b.2-a.2)*(p.1-a.1*p.2)):=(Bd.add (n:=1382) (m2.mono (by decide)) m5).mono (by decide)
 have c1:zaH a.2 (b.1-a.1):=.inl ⟨b2.mono (by decide),r1.mono (by decide)⟩
 have c2:zaH (a.2*(b.1-a.1)) p.2:=.inl ⟨m1.mono (by decide),b6.mono (by decide)⟩
 have c3:zaH a.1 p.2:=.inl ⟨b1.mono (by decide),b6.mono (by decide)⟩
 have c4:zaH (b.2-a.2) (p.1-a.1*p.2):=.inl ⟨r2.mono (by decide),m4.mono (by decide)⟩
 have c5:zaH (b.1-a.1) p.2:=.inl ⟨r1.mono (by decide),b6.mono (by decide)⟩
 walk_at "g"
 have hr:(b.1-a.1)*p.2≠0:=Int.mul_ne_zero (by omega) (by omega)
 refine⟨_,_,rfl,hr,m6.mono (by decide),?_⟩
 refine fin_same (q _ ?_ (zs5 hr) (zrP bT) ((zsE m6).mono (by decide)))
 have hs:=zun (t:=a.2*(b.1-a.1)*p.2+(b.2-a.2)*(p.1-a.1*p.2)) hr
 unfold hvT hvB
 by_cases g:0<b.1-a.1
 ·have:0<(b.1-a.1)*p.2:=Int.mul_pos g hp
  rw [if_pos this,if_pos this] at hs
  rw [if_pos g,if_pos g];exact hs
 ·have:¬ 0<(b.1-a.1)*p.2:=fun z=>by
   have:=Int.mul_pos (show 0 < -(b.1-a.1) by omega) hp
   rw [Int.neg_mul] at this
   omega
  rw [if_neg this,if_neg this] at hs
  rw [if_neg g,if_neg g];exact hs
def zcz:zdC:=fun ds S Q ex=>∃ (g:D) (cs:List (Int×Int)) (p:Int×Int),ds=[g,p2 p]/\GAt S g cs/\Grd cs/\0<p.2/\Bd 1000 p.1/\Bd 1000 p.2/\(¬ OnG cs p->ex "OffGround" S)/\(OnG cs p->∀ a b c:Int×Int,zgz cs p=some (a,b)->Sv c (hvT a b p) (hvB a b p)->0<hvB a b p->Int.gcd c.1 c.2=1->Bd 1400 c.1->Bd 1400 c.2->Q (p2 c) S)
def zdN (ex : XR) : DS :=
    (zH (sIf (zdp (dT (dCall zdJ (zm (zf 0) (zm (zf 1) zA))))) (zfz ex "OffGround") zZ)
 (zH (zQ (zcy "corners" (zf 0)) (zB 2))
 (zH (zQ (dC (.int 1)) (zB 3))
 (zH (zib (dT (dCall zdg (zm (dTup (zm (dOp oIx (dOp oIx (zf 2) (zf 3)) (dC (.int 0))) (zm (dC (.int 1)) zA))) (zm (zf 1) zA)))) (zpC 3 (dC (.int 1))))
 (zY (dCall zcB (zm (dOp oIx (zf 2) (dOp zaS (zf 3) (dC (.int 1)))) (zm (dOp oIx (zf 2) (zf 3)) (zm (zf 1) zA)))))))))
theorem zjX:∀ ds So Q ex,zcz ds So Q ex->ds.length=2:=by rintro ds So Q ex ⟨_,_,_,rfl,_⟩;rfl
theorem zkL:zdj 4 zdN zcz:=by
 rintro ds S Q ex ⟨g,cs,p,rfl,hg,gr,hp,b1,b2,hx,q⟩
 unfold zdN
 obtain⟨n,l,rfl,hn,hl⟩:=id hg
 walk_at "g"
 refine⟨_,cs,p,rfl,hg,gr,b1,b2,?_⟩
 by_cases on:OnG cs p
 case neg =>
  have e:(decide (zi9 cs*p.2<=p.1)&&decide (p.1<=zhJ cs*p.2))=false:=Bool.eq_false_iff.mpr fun z=>on (by rw [Bool.and_eq_true,decide_eq_true_eq,decide_eq_true_eq] at z;exact z)
  rw [e]
  walk_at "g"
  exact hx on
 have q:=q on
 obtain⟨kk,a,b,ha,hb,hle,hlt⟩:=znQ gr.two on.2
 have seg:=seg_at ha hb hle hlt
 have hk:=zai hb
 rw [decide_eq_true on.1,decide_eq_true on.2,show (true&&true)=true from rfl]
 walk_at "g"
 refine zso (fun m ρ S'=>S'=S/\∃ j:Nat,ρ=[some (.ref n),some (p2 p),some (.ref l),some (.int ((j:Int)+1))]/\m=kk-j/\j<=kk) kk ⟨rfl,0,rfl,rfl,by omega⟩ ?_
 rintro m ρ S' ⟨rfl,j,rfl,rfl,hj⟩
 obtain⟨c,hc,ac⟩:=zj3 (cs:=cs) (k:=(j:Int)+1) (by omega) (by omega)
 have hc':cs[j+1]?=some c:=by rwa [show ((j:Int)+1).toNat=j+1 by omega] at hc
 obtain⟨bc,bc2⟩:=gr.bd c (List.mem_of_getElem? hc)
 have e1:flt (c.1,1) p=decide (c.1*p.2<p.1):=by unfold flt;dsimp only;rw [Int.mul_one]
 walk_at "g"
 refine⟨(c.1,1),p,rfl,.inl ⟨bc.mono (by decide),b2.mono (by decide)⟩,.inr (.inr (show (1:Int).natAbs<2 ^ 64 by decide)),?_⟩
 rw [e1]
 walk_at "g"
 refine r_d (fun h=>?_) (fun h=>?_)
 ·walk_at "g"
  have hjk:j<kk:=by
   rcases Nat.lt_or_ge j kk with z | z
   ·exact z
   ·have:j=kk:=by omega
    subst this
    rw [hb] at hc'
    cases hc'
    omega
  exact⟨kk-(j+1),by omega,rfl,j+1,by simp,rfl,by omega⟩
 ·have hjk:j=kk:=by
   rcases Nat.lt_or_ge j kk with z | z
   ·have:=hlt (j+1) c (by omega) (by omega) hc'
    omega
   ·omega
  subst hjk
  rw [hb] at hc'
  cases hc'
  have aa:atD (cs.map p2) ((j:Int)+1-1)=some (p2 a):=by
   rw [show (j:Int)+1-1=(j:Int) by omega]
   exact zbQ (by rw [List.getElem?_map,ha];rfl)
  obtain⟨ba1,ba2⟩:=gr.bd a (List.mem_of_getElem? ha)
  have hab:=znc gr (show j<j+1 by omega) ha hb
  walk_at "g"
  refine⟨a,b,p,rfl,by omega,hp,ba1.mono (by decide),ba2.mono (by decide),bc.mono (by decide),bc2.mono (by decide),b1,b2,fun c hs hg d1 d2=>?_⟩
  exact fin_same (q a b c seg hs (zqF (by omega) hp) hg d1 d2)
def zdh:DSp:=fun ds S Q=>∃ (g:D) (cs:List (Int×Int)) (s:Int×Int),ds=[g,p2 s]/\GAt S g cs/\Grd cs/\Bd 180 s.1/\Bd 200 s.2/\∀ b:Bool,(b=true↔zdH cs s)->Q (.bl b) S
def zf6:DS :=
    (zH (zQ (dTup (zm (dOp oIx (zf 1) (dC (.int 0))) (zm (dC (.int 1)) zA))) (zB 2))
 (zH (sIf (zdp (dT (dCall zdJ (zm (zf 0) (zm (zf 2) zA))))) (zY (dC (.bl false))) zZ)
 (zY (zhj (dCall zdg (zm (dTup (zm (dOp oIx (zf 1) (dC (.int 1))) (zm (dC (.int 1)) zA))) (zm (zbF zcz xF (zm (zf 0) (zm (zf 2) zA))) zA)))))))
theorem zmh:∀ ds So Q,zdh ds So Q->ds.length=2:=by rintro ds So Q ⟨_,_,_,rfl,_⟩;rfl
theorem znR:BodyOk 3 zf6 zdh:=by
 rintro ds S Q ⟨g,cs,s,rfl,hg,gr,b1,b2,q⟩
 unfold zf6
 have bo:Bd 1000 (1:Int):=Bd.lit (by decide) (by decide)
 walk_at "g"
 refine⟨g,cs,(s.1,1),rfl,hg,gr,b1.mono (by decide),bo,?_⟩
 by_cases on:OnG cs (s.1,1)
 case neg =>
  have e:(decide (zi9 cs*(s.1,(1:Int)).2<=(s.1,(1:Int)).1)&&decide ((s.1,(1:Int)).1<=zhJ cs*(s.1,(1:Int)).2))=false:=Bool.eq_false_iff.mpr fun z=>on (by rw [Bool.and_eq_true,decide_eq_true_eq,decide_eq_true_eq] at z;exact z)
  rw [e]
  walk_at "g"
  exact fin_same (q false ⟨fun z=>(by cases z),fun z=>absurd z.1 on⟩)
 rw [decide_eq_true on.1,decide_eq_true on.2,show (true&&true)=true from rfl]
 walk_at "g"
 refine⟨g,cs,(s.1,1),rfl,hg,gr,(show (0:Int)<1 by decide),b1.mono (by decide),bo,fun off=>absurd on off,fun _ a b c seg sv hb hgcd d1 d2=>?_⟩
 walk_at "g"
 refine⟨(s.2,1),c,rfl,.inl ⟨b2.mono (by decide),d2.mono (by decide)⟩,.inr (.inr (show (1:Int).natAbs<2 ^ 64 by decide)),?_⟩
 rw [zsh (t:=s.2) (b:=1) (by decide) hb ⟨(show (0:Int)<1 by decide),rfl⟩ sv]
 walk_at "g"
 refine fin_same (q _ ?_)
 rw [Bool.not_eq_true',decide_eq_false_iff_not]
 constructor
 ·intro h
  refine⟨on,fun a' b' seg'=>?_⟩
  rw [seg] at seg';cases seg';omega
 ·intro h
  have:=h.2 a b seg
  omega
def za4:DSp:=fun ds S Q=>∃ (g y:D) (cs:List (Int×Int)) (bs:List (Str×(Int×Int))),ds=[g,y]/\GAt S g cs/\Grd cs/\Lst S y (bs.map bcD)/\bs.length<=100/\(∀ b∈bs,zdH cs b.2/\Bd 180 b.2.1/\Bd 200 b.2.2)/\Q .non S
def zbO:DS :=
  (sIf (zdp (dT (dB zet (zm (dLC 3 [0] (zbi (zf 1)) (zcf 3 (zag (zB 0) (zag (zB 1) (zag (zB 2) zcc)))) zbv (dCall zdh (zm (zf 3) (zm (dTup (zm (zf 1) (zm (zf 2) zA))) zA)))) zA)))) zbR zZ)
theorem zgc:∀ ds So Q,za4 ds So Q->ds.length=2:=by rintro ds So Q ⟨_,_,_,_,rfl,_⟩;rfl
theorem zgw:BodyOk 2 zbO za4:=by
 rintro ds S Q ⟨g,y,cs,bs,rfl,hg,gr,hy,hl,hb,q⟩
 unfold zbO
 walk_at "g"
 refine zbk (fun _=>true) (zmU fun _=>.bl true) hy (by rw [List.length_map];unfold big;omega) (fun i d ys hd hw=>?_) ?_
 ·obtain⟨b,hbi,rfl⟩:=zia hd
  obtain⟨s1,s2,s3⟩:=hb b (List.mem_of_getElem? hbi)
  walk_at "g"
  refine⟨g,cs,b.2,rfl,hg,gr,s2,s3,fun r hr=>?_⟩
  rw [hr.mpr s1]
  exact zcH hd hw rfl rfl
 rw [filter_true,zhQ,show bs.map (fun _=>D.bl true)=(bs.map fun _=>true).map D.bl by rw [List.map_map];rfl]
 walk_at "g"
 refine zgD (b:=true) Lst.at0 (by rw [List.all_map,List.all_eq_true];intro _ _;rfl) ?_
 walk_at "g"
 exact zco rfl q
def zcR:DSp:=fun ds S Q=>∃ i:Int,ds=[.int i]/\Q (.bl true) S
def zef:DS :=
  (zY (zfB (dB zdM (zm (zf 0) (zm (dC (.ty "int")) zA))) (zhj (dB zdM (zm (zf 0) (zm (dC (.ty "bool")) zA))))))
theorem zkf:∀ ds So Q,zcR ds So Q->ds.length=1:=by rintro ds So Q ⟨_,rfl,_⟩;rfl
theorem zlt:BodyOk 1 zef zcR:=by
 rintro ds S Q ⟨i,rfl,q⟩
 unfold zef
 walk_at "g"
 exact fin_same q
def zdZ:DSp:=fun ds S Q=>∃ F:Fg,ds=[fgD F]/\F.x0<=F.x1/\F.z0<=F.z1/\F.f<=F.l/\Q (.bl true) S
def zfV:DS :=
    (zH (sIf (dOr (zdp (dT (dB zdM (zm (zf 0) (zm (dC (.ty "tuple")) zA))))) (dT (dOp oNe (dB za0 (zm (zf 0) zA)) (dC (.int 8))))) (zY (dC (.bl false))) zZ)
 (zH (sIf (zdp (dT (dB zet (zm (dLC 1 [] (zbi (zf 0)) (zB 0) zbv (dCall zcR (zm (zf 0) zA))) zA)))) (zY (dC (.bl false))) zZ)
 (zY (zfB (dOp oLe (dOp oIx (zf 0) (dC (.int 0))) (dOp oIx (zf 0) (dC (.int 1)))) (zfB (dOp oLe (dOp oIx (zf 0) (dC (.int 2))) (dOp oIx (zf 0) (dC (.int 3)))) (dOp oLe (dOp oIx (zf 0) (dC (.int 4))) (dOp oIx (zf 0) (dC (.int 5)))))))))
theorem zmm:∀ ds So Q,zdZ ds So Q->ds.length=1:=by rintro ds So Q ⟨_,rfl,_⟩;rfl
theorem zn3:BodyOk 1 zfV zdZ:=by
 rintro ds S Q ⟨F,rfl,h1,h2,h3,q⟩
 unfold zfV
 walk_at "g"
 rw [show (!decide ((([D.int F.x0,D.int F.x1,D.int F.z0,D.int F.z1,D.int F.f,D.int F.l,D.int F.g,D.int F.s]:List D).length:Int)=8))=false by rfl]
 walk_at "g"
 refine zbk (fun _=>true) (fun _=>.bl true) True.intro (by show 8<=big;unfold big;decide) (fun i d ys hd hw=>?_) ?_
 ·obtain⟨z,_,rfl⟩:=zel (zs:=[F.x0,F.x1,F.z0,F.z1,F.f,F.l,F.g,F.s]) hd
  walk_at "g"
  refine⟨z,rfl,?_⟩
  exact zcH hd hw rfl rfl
 walk_at "g"
 refine zgD (bs:=List.replicate 8 true) (b:=true) Lst.at0 rfl ?_
 walk_at "g"
 rw [decide_eq_true h1]
 walk_at "g"
 rw [decide_eq_true h2]
 walk_at "g"
 rw [decide_eq_true h3]
 exact zco rfl q
theorem zr6 {α:Type}(xs:List α)(f:α->D):(xs.map f).map (fun _=>D.bl true)=(xs.map fun _=>true).map D.bl:=by rw [List.map_map,List.map_map];rfl
def za5:DSp:=fun ds S Q=>∃ (z:D) (fs:List Fg),ds=[z]/\Lst S z (fs.map fgD)/\fs.length<=100/\(∀ F∈fs,FgV F)/\Q .non S
def zbN:DS :=
  (sIf (zdp (dT (dB zet (zm (dLC 1 [] (zbi (zf 0)) (zB 0) zbv (dCall zdZ (zm (zf 0) zA))) zA)))) zbR zZ)
theorem zgh:∀ ds So Q,za5 ds So Q->ds.length=1:=by rintro ds So Q ⟨_,_,rfl,_⟩;rfl
theorem zgp:BodyOk 1 zbN za5:=by
 rintro ds S Q ⟨z,fs,rfl,hz,hl,hf,q⟩
 unfold zbN
 walk_at "g"
 refine zbk (fun _=>true) (fun _=>.bl true) hz (by rw [List.length_map];unfold big;omega) (fun i d ys hd hw=>?_) ?_
 ·obtain⟨F,hF,rfl⟩:=zod hd
  have k:=hf F (List.mem_of_getElem? hF)
  walk_at "g"
  refine⟨F,rfl,k.b.x,k.b.z,k.o,?_⟩
  exact zcH hd hw rfl rfl
 rw [filter_true,zr6]
 walk_at "g"
 refine zgD (b:=true) Lst.at0 (by rw [List.all_map,List.all_eq_true];intro _ _;rfl) ?_
 walk_at "g"
 exact zco rfl q
def zaW:DSp:=fun ds S Q=>∃ (hz:Option Int) (a b d:Int),ds=[ze6 hz,.int a,.int b,.int d]/\a<=b/\0<=d/\(∀ z,hz=some z->0<=z)/\Q .non S
def zbE:DS :=
    (zH (sIf (dT (dOp oGt (zf 1) (zf 2))) zbR zZ)
 (zH (sIf (dT (dOp oLt (zf 3) (dC (.int 0)))) zbR zZ)
 (sIf (zhB (dT (dOp zfe (zf 0) (dC .non))) (dT (dOp oLt (zf 0) (dC (.int 0))))) zbR zZ)))
theorem zf1:∀ ds So Q,zaW ds So Q->ds.length=4:=by rintro ds So Q ⟨_,_,_,_,rfl,_⟩;rfl
theorem zgd:BodyOk 4 zbE zaW:=by
 rintro ds S Q ⟨hz,a,b,d,rfl,hab,hd,hh,q⟩
 unfold zbE
 walk_at "g"
 rw [decide_eq_false (show ¬ b<a by omega)]
 walk_at "g"
 rw [decide_eq_false (show ¬ d<0 by omega)]
 cases hz with
 | none =>
  walk_at "g"
  exact fin_same q
 | some z =>
  have:=hh z rfl
  unfold ze6
  walk_at "g"
  rw [decide_eq_false (show ¬ z<0 by omega)]
  walk_at "g"
  exact fin_same q
def zcI:DSp:=fun ds S Q=>∃ (S0:Sto) (g y z:D) (V:Vl),ds=[.ref S0.length,g,y,z,ze6 V.hz,.int V.h0,.int V.h1,.int V.dl]/\S=S0++[.ins "Valley" []]/\GAt S0 g V.cs/\Lst S0 y (V.bs.map bcD)/\Lst S0 z (V.fs.map fgD)/\zcd V/\∀ T,VAt (S0++T) (.ref S0.length) V->Q .non (S0++T)
def zbx:DS :=
    (zH (zaJ (dCall zaF (zm (zf 2) (zm (zf 3) zA))))
 (zH (zaJ (dCall zaV (zm (dLC 1 [] (zbi (zf 2)) (zB 0) zbv (dOp oIx (zf 0) (dC (.int 0)))) zA)))
 (zH (zaJ (dCall za4 (zm (zf 1) (zm (zf 2) zA))))
 (zH (zaJ (dCall za5 (zm (zf 3) zA)))
 (zH (zaJ (dCall zaW (zm (zf 4) (zm (zf 5) (zm (zf 6) (zm (zf 7) zA))))))
 (zH (zdS "Valley" "ground" (zf 0) (dCall zeR (zm (zcy "corners" (zf 1)) zA)))
 (zH (zdS "Valley" "beacons" (zf 0) (dB zga (zm (zf 2) zA)))
 (zH (zdS "Valley" "fogs" (zf 0) (dB zga (zm (zf 3) zA)))
 (zH (zdS "Valley" "haze" (zf 0) (zf 4))
 (zH (zdS "Valley" "first" (zf 0) (zf 5))
 (zH (zdS "Valley" "last" (zf 0) (zf 6))
 (zdS "Valley" "delay" (zf 0) (zf 7)))))))))))))
theorem ziv:∀ ds So Q,zcI ds So Q->ds.length=8:=by rintro ds So Q ⟨_,_,_,_,_,rfl,_⟩;rfl
theorem zje:BodyOk 8 zbx zcI:=by
 rintro ds S Q ⟨S0,g,y,z,V,rfl,rfl,hg,hy,hz,ok,q⟩
 unfold zbx
 obtain⟨Sa,hSa⟩:∃ Sa:Sto,Sa=S0++[.ins "Valley" []]:=⟨_,rfl⟩
 have hya:Lst Sa y (V.bs.map bcD):=hSa▸hy.old
 have hza:Lst Sa z (V.fs.map fgD):=hSa▸hz.old
 rw [<- hSa]
 walk_at "g"
 refine⟨y,z,_,_,rfl,hya,hza,by rw [List.length_map];exact ok.b1,by rw [List.length_map];exact ok.b12,by rw [List.length_map];exact ok.f12,?_⟩
 walk_at "g"
 have b12:=ok.b12
 have f12:=ok.f12
 refine zbk (fun _=>true) (zmU fun b=>.str b.1) hya (by rw [List.length_map];unfold big;omega) (fun i d ys hd hw=>?_) ?_
 ·obtain⟨b,_,rfl⟩:=zia hd
  walk_at "g"
  exact zcH hd hw rfl rfl
 rw [filter_true,zhQ,show V.bs.map (fun b=>D.str b.1)=(V.bs.map (·.1)).map D.str by rw [List.map_map];rfl,hSa]
 walk_at "g"
 refine⟨_,V.bs.map (·.1),rfl,Lst.at rfl,by rw [List.length_map];omega,fun n hn=>?_,ok.nd,?_⟩
 ·obtain⟨b,hb,rfl⟩:=List.mem_map.mp hn
  exact ok.nm b hb
 walk_at "g"
 generalize (V.bs.map (·.1)).map D.str=nms
 refine⟨g,y,V.cs,V.bs,rfl,hg.old,ok.gr,hy.old,by omega,fun b hb=>⟨ok.st b hb,ok.bd b hb⟩,?_⟩
 walk_at "g"
 refine⟨z,V.fs,rfl,hz.old,by omega,ok.fg,?_⟩
 walk_at "g"
 refine⟨V.hz,_,_,_,rfl,ok.hh,ok.dl,ok.hz,?_⟩
 obtain⟨gn,gl,rfl,hgn,hgl⟩:=hg
 have hgn1:(S0++[.ins "Valley" [],.lst nms])[gn]?=some (.ins "Ground" [("corners",.ref gl)]):=zan hgn
 walk_at "g"
 refine⟨_,_,V.cs,rfl,rfl,.inr ⟨gl,rfl,zan hgl⟩,ok.gr,⟨rfl,?_⟩⟩
 rw [List.append_assoc,show (S0++[Cell.ins "Valley" [],.lst nms]).length=S0.length+2 by simp,show ([Cell.ins "Valley" [],.lst nms]:Sto)++[.ins "Ground" [("corners",.ref (S0.length+2+1))],.lst (V.cs.map p2)]=[.ins "Valley" [],.lst nms,.ins "Ground" [("corners",.ref (S0.length+3))],.lst (V.cs.map p2)] from rfl]
 walk_at "g"
 refine⟨S0.length,[],rfl,zaz,by decide,?_⟩
 rw [zcl,zpz]
 have hy2:∀ T,Lst (S0++T) y (V.bs.map bcD):=fun T=>hy.old
 have hz2:∀ T,Lst (S0++T) z (V.fs.map fgD):=fun T=>hz.old
 walk_at "g"
 refine⟨S0.length,_,rfl,zaz,by simp,?_⟩
 rw [zcl,vp2]
 walk_at "g"
 refine⟨S0.length,_,rfl,zaz,by simp,?_⟩
 rw [zcl,vp3]
 walk_at "g"
 refine⟨S0.length,_,rfl,zaz,by simp,?_⟩
 rw [zcl,vp4]
 walk_at "g"
 refine⟨S0.length,_,rfl,zaz,by simp,?_⟩
 rw [zcl,vp5]
 walk_at "g"
 refine⟨S0.length,_,rfl,zaz,by simp,?_⟩
 rw [zcl,vp6]
 walk_at "g"
 refine⟨S0.length,_,rfl,zaz,by simp,?_⟩
 rw [zcl,vp7]
 refine fin_same (q _ ⟨S0.length,_,_,_,rfl,zaz,⟨_,_,rfl,(zaU _ _ 2).trans rfl,(zaU _ _ 3).trans rfl⟩,(zaU _ _ 4).trans rfl,(zaU _ _ 5).trans rfl⟩)
def zgM:DSp:=zmV "Valley" zcI
def zc9:List (Int×Int):=[(-3,-1),(8,0)]
theorem grN:Grd zc9 where
  two:=by decide
  most:=by decide
  asc:=by unfold zc9;simp
  bd:=fun c hc=>by
    have:c=(-3,-1)\/c=(8,0):=by simpa [zc9] using hc
    rcases this with rfl | rfl<;>exact⟨(by show _<2 ^ 170;decide),(by show _<2 ^ 190;decide)⟩
theorem stN {s:Int×Int}(h0:0<=s.1)(h1:s.1<=4)(h2:0<=s.2):zdH zc9 s:=by
 refine⟨⟨?_,?_⟩,fun a b h=>?_⟩
 ·show (-3:Int)*1<=s.1;omega
 ·show s.1<=(8:Int)*1;omega
 ·have e:zgz zc9 (s.1,1)=some ((-3,-1),(8,0)):=by
   show (if s.1<=(8:Int)*1 then _ else _)=_
   rw [if_pos (by omega)]
  rw [e] at h
  cases h
  unfold hvT hvB
  simp
  omega
def zb7:DSp:=fun ds S Q=>∃ (a b c:D) (zs:List Str) (ps:List (Int×Int)) (fs:List Fg) (hz f:Int),ds=[.tup [a,b,c,.int hz,.int f,.int (f+5)]]/\WbP zs ps fs hz f/\Lst S a (zs.map D.str)/\Lst S b (ps.map p2)/\Lst S c (fs.map fgD)/\∀ (T:Sto) (v:D) (V:Vl),VAt (S++T) v V->zcd V->V.bs.map (·.1)=zs->V.h0=f->V.h1=f+5->Q v (S++T)
def zds:DS :=
    (zH (zQ (zf 0) (zcf 6 (zag (zB 1) (zag (zB 2) (zag (zB 3) (zag (zB 4) (zag (zB 5) (zag (zB 6) zcc))))))))
 (zH (zQ (dLC 2 [] (zoM (zm (zf 1) (zm (zf 2) zA))) (zcf 2 (zag (zB 0) (zag (zB 1) zcc))) zbv (dTup (zm (zf 0) (zm (dOp oIx (zf 1) (dC (.int 0))) (zm (dOp oIx (zf 1) (dC (.int 1))) zA))))) (zB 7))
 (zY (dCall zgM (zm (dCall zeR (zm (zcM (zm (dTup (zm (dUn zd6 (dC (.int 3))) (zm (dUn zd6 (dC (.int 1))) zA))) (zm (dTup (zm (dC (.int 8)) (zm (dC (.int 0)) zA))) zA))) zA)) (zm (zf 7) (zm (zf 3) (zm (zf 4) (zm (zf 5) (zm (zf 6) (zm (dC (.int 1)) zA)))))))))))
theorem ziR:∀ ds So Q,zb7 ds So Q->ds.length=1:=by rintro ds So Q ⟨_,_,_,_,_,_,_,_,rfl,_⟩;rfl
theorem zjY:BodyOk 8 zds zb7:=by
  rintro ds S Q ⟨a,b,c,zs,ps,fs,hz,f,rfl,w,ha,hb,hc,q⟩
  unfold zds
  have l8:=w.l8
  have l2:=w.l2
  have lp:=w.lp
  walk_at "g"
  refine zvk ha hb ?_
  refine ziL (fun i ys S'=>S'=S/\ys=((zs.zip ps).take i).map bcD) ⟨rfl,rfl⟩ (fun i ys S' e=>e.1▸⟨ha,hb⟩) (by rw [zc7,List.length_map,List.length_map];unfold big;omega) ?_ ?_
  · rintro i d ys S' hd ⟨rfl,rfl⟩
    obtain⟨x,y,hx,hy,rfl⟩:=zf9 hd
    obtain⟨z,hz',rfl⟩:=zbS hx
    obtain⟨p,hp,rfl⟩:=zk6 hy
    walk_at "g"
    refine⟨rfl,?_⟩
    rw [zbe (x:=(z,p)) (by rw [List.getElem?_zip_eq_some];exact⟨hz',hp⟩),List.map_append];rfl
  rintro ys S' ⟨rfl,rfl⟩
  rw [zc7,List.length_map,List.length_map,lp,Nat.min_self,List.take_of_length_le (by rw [List.length_zip];omega)]
  obtain⟨bs,hbs⟩:∃ bs:List (Str×(Int×Int)),bs=zs.zip ps:=⟨_,rfl⟩
  have bn:bs.map (·.1)=zs:=by rw [hbs];exact List.map_fst_zip (by omega)
  have bl:bs.length=zs.length:=by rw [<- bn,List.length_map]
  have bsp:∀ b∈bs,b.1∈zs/\b.2∈ps:=fun b hb=>by
    rw [hbs] at hb
    exact⟨(List.of_mem_zip hb).1,(List.of_mem_zip hb).2⟩
  rw [<- hbs]
  clear hbs
  have sm:∀ {n:Nat} {x:Int},170<=n->-100<=x->x<=100->Bd n x:=fun {n x} hn h1 h2=>(show Bd 7 x by show _<2 ^ 7;omega).mono (by omega)
  have f0:=w.f0
  have f1:=w.f1
  have ok:zcd ⟨zc9,bs,fs,some hz,f,f+5,1⟩ :=
    { gr:=grN,b1:=(by show 1<=bs.length;omega),b12:=(by show bs.length<=12;omega),nm:=fun b hb=>w.nm _ (bsp b hb).1,nd:=(by show (bs.map (·.1)).Nodup;rw [bn];exact w.nd)
      st:=fun b hb=>by have:=w.sp _ (bsp b hb).2;exact stN (by omega) (by omega) (by omega)
      bd:=fun b hb=>by have:=w.sp _ (bsp b hb).2;exact⟨sm (by decide) (by omega) (by omega),sm (by decide) (by omega) (by omega)⟩
      f12:=(by have:=w.lf;show fs.length<=12;omega),fg:=w.fg,hz:=(fun z e=>by have e':hz=z:=Option.some.inj e;subst e';exact w.h0),hh:=(by show f<=f+5;omega),b0:=sm (by decide) (by show -100<=f;omega) (by show f<=100;omega),bl:=sm (by decide) (by show -100<=f+5;omega) (by show f+5<=100;omega),dl:=(by show (0:Int)<=1;decide) }
  walk_at "g"
  refine⟨S'++[.lst (bs.map bcD),.lst (zc9.map p2)],_,zc9,by simp,by simp;rfl,Lst.at (k:=1) rfl,grN,⟨rfl,?_⟩⟩
  obtain⟨Sb,hSb⟩:∃ Sb:Sto,Sb=S'++[.lst (bs.map bcD),.lst (zc9.map p2)]++[.ins "Ground" [("corners",.ref ((S'++[Cell.lst (bs.map bcD),.lst (zc9.map p2)]).length+1))],.lst (zc9.map p2)]:=⟨_,rfl⟩
  have hg:GAt Sb (.ref ((S'++[Cell.lst (bs.map bcD),.lst (zc9.map p2)]).length)) zc9:=hSb▸⟨_,_,rfl,zaz,(zaU _ _ 1).trans rfl⟩
  have hbb:Lst Sb (.ref S'.length) (bs.map bcD):=hSb▸Lst.old Lst.at0
  have e1:∃ T,Sb=S'++T:=zjf ⟨_,rfl⟩ hSb
  have hcc:Lst Sb c (fs.map fgD):=by obtain⟨T,rfl⟩:=e1;exact hc.old
  rw [<- hSb]
  have eg:(S'++[Cell.lst (bs.map bcD),Cell.lst [p2 (-3,-1),p2 (8,0)]]).length=(S'++[Cell.lst (bs.map bcD),.lst (zc9.map p2)]).length:=rfl
  clear hSb
  walk_at "g"
  refine⟨Sb,_,_,_,⟨zc9,bs,fs,some hz,f,f+5,1⟩,rfl,rfl,hg,hbb,hcc,ok,fun T hv=>⟨rfl,?_⟩⟩
  obtain⟨T1,rfl⟩:=e1
  rw [List.append_assoc] at hv ⊢
  exact fin_same (q _ _ _ hv ok bn rfl rfl)
def zaN:zdC:=fun ds S Q ex=>∃ (v:D) (V:Vl) (h:Int),ds=[v,.int h]/\VAt S v V/\(¬ (V.h0<=h/\h<=V.h1)->ex "BadHour" S)/\(V.h0<=h->h<=V.h1->Q .non S)
def zb1 (ex:XR):DS :=
  (sIf (dOr (dT (dOp oLt (zf 1) (zcy "first" (zf 0)))) (dT (dOp oGt (zf 1) (zcy "last" (zf 0))))) (zfz ex "BadHour") zZ)
theorem zgT:∀ ds So Q ex,zaN ds So Q ex->ds.length=2:=by rintro ds So Q ex ⟨_,_,_,rfl,_⟩;rfl
theorem zhn:zdj 2 zb1 zaN:=by
 rintro ds S Q ex ⟨v,V,h,rfl,hv,hx,q⟩
 unfold zb1
 obtain⟨m,g,b',f,rfl,hm,hg,hb,_⟩:=hv
 walk_at "g"
 refine r_d (fun h1=>?_) (fun h1=>?_)
 ·walk_at "g"
  exact hx (by omega)
 walk_at "g"
 refine r_d (fun h2=>?_) (fun h2=>?_)
 ·walk_at "g"
  exact hx (by omega)
 walk_at "g"
 exact fin_same (q (by omega) (by omega))
def zb9:DSp:=fun ds S Q=>∃ (v:D) (V:Vl),ds=[v]/\VAt S v V/\V.bs.length<=100/\New Q S ((V.bs.map (·.1)).map D.str)
def zee:DS :=
  (zY (dLC 1 [] (zbi (zcy "beacons" (zf 0))) (zB 0) zbv (dOp oIx (zf 0) (dC (.int 0)))))
theorem zkQ:∀ ds So Q,zb9 ds So Q->ds.length=1:=by rintro ds So Q ⟨_,_,rfl,_⟩;rfl
theorem zls:BodyOk 1 zee zb9:=by
 rintro ds S Q ⟨v,V,rfl,hv,hl,q⟩
 unfold zee
 obtain⟨m,g,b',f,rfl,hm,hg,hb,_⟩:=hv
 walk_at "g"
 refine zbk (fun _=>true) (zmU fun b=>.str b.1) (Lst.here hb) (by rw [List.length_map];unfold big;omega) (fun i d ys hd hw=>?_) ?_
 ·obtain⟨b,_,rfl⟩:=zia hd
  walk_at "g"
  exact zcH hd hw rfl rfl
 rw [filter_true,zhQ,show V.bs.map (fun b=>D.str b.1)=(V.bs.map (·.1)).map D.str by rw [List.map_map];rfl]
 exact fin_same q
def zcY:DSp:=fun ds S Q=>∃ (v:D) (V:Vl),ds=[v]/\VAt S v V/\zcd V/\∀ (T:Sto) (n:Nat),(S++T)[n]?=some (.lst ((prs (V.bs.map (·.1))).map p2s))->Q (.ref n) (S++T)
def zei:DS :=
    (zH (zQ (dCall zb9 (zm (zf 0) zA)) (zB 1))
 (zH (zQ (zcM zA) (zB 2))
 (zH (zcs (zeL (zm (zf 1) zA)) (zcf 2 (zag (zB 3) (zag (zB 4) zcc))) (zcs (zbi (dSl zgS (zf 1) (some (dOp zaD (zf 3) (dC (.int 1)))) none)) (zB 5) (zaJ (dM zdB (zf 2) (zm (dTup (zm (zf 4) (zm (zf 5) zA))) zA)))))
 (zY (zf 2)))))
theorem zla:∀ ds So Q,zcY ds So Q->ds.length=1:=by rintro ds So Q ⟨_,_,rfl,_⟩;rfl
theorem zlq:BodyOk 6 zei zcY:=by
 rintro ds S Q ⟨v,V,rfl,hv,ok,q⟩
 unfold zei
 have b12:=ok.b12
 walk_at "g"
 refine⟨v,V,rfl,hv,by omega,?_⟩
 have hz:∀ z∈V.bs.map (·.1),fl 20 (.str z)=true:=ok.flN
 have zl:(V.bs.map (·.1)).length<=12:=by rw [List.length_map];exact b12
 generalize V.bs.map (·.1)=zs at q hz zl
 walk_at "g"
 refine zi0 Lst.at0 ?_
 refine zbq (fun i ρ S'=>∃ (G:Sto) (w3 w4 w5:Option D) (A:List (Str×Str)),S'=S++Cell.lst (zs.map D.str)::Cell.lst (A.map p2s)::G/\ρ=[some v,some (.ref S.length),some (.ref (S.length+1)),w3,w4,w5]/\prs zs=A++prs (zs.drop i)) ⟨[],_,_,_,[],rfl,rfl,by simp⟩ (fun i ρ S' ⟨G,_,_,_,A,e,_⟩=>e▸Lst.at0) ?_ ?_
 ·rintro i d ρ S' hd ⟨G,w3,w4,w5,A,rfl,rfl,hA⟩
  obtain⟨y,hy,rfl⟩:=zbH hd
  obtain⟨z,hzi,rfl⟩:=zbS hy
  have hi:=zai hzi
  obtain⟨A',h1,h2⟩:=zkX hzi
  have eA:A=A':=List.append_cancel_right (hA.symm.trans h2)
  subst eA
  have kz:Lst (S++Cell.lst (zs.map D.str)::Cell.lst (A.map p2s)::G) (.ref S.length) (zs.map D.str):=Lst.at0
  walk_at "g"
  rw [Nat.zero_add,zep,zpr _ (by omega) (by omega),show ((i:Int)+1).toNat=i+1 by omega]
  have lA:A.length<=144:=by
   have:=zgV zs
   have h3:=congrArg List.length hA
   rw [List.length_append] at h3
   have:zs.length*zs.length<=12*12:=Nat.mul_le_mul zl zl
   omega
  have ll:(zs.drop (i+1)).length<=12:=by rw [List.length_drop];omega
  generalize zs.drop (i+1)=rs at h1 ll
  refine zbq (fun j ρ S'=>∃ (w5:Option D),S'=S++Cell.lst (zs.map D.str)::Cell.lst ((A++(rs.take j).map fun y=>(z,y)).map p2s)::(G++[.lst (rs.map D.str)])/\ρ=[some v,some (.ref S.length),some (.ref (S.length+1)),some (.int (i:Int)),some (.str z),w5]) ⟨w5,by simp,by rfl⟩ (fun j ρ S' ⟨w5,e,_⟩=>by rw [e];exact .inr ⟨_,rfl,by show (S++([_,_]++(G++_)))[S.length+([Cell.lst (zs.map D.str),Cell.lst (A.map p2s)]++G).length]?=_;rw [zaU,<- List.append_assoc,List.getElem?_append_right (by simp)];simp⟩) ?_ ?_
  ·rintro j d ρ S' hd' ⟨w5,rfl,rfl⟩
   obtain⟨x,hx,rfl⟩:=zbS hd'
   have hj:=zai hx
   have hlim:((A++(rs.take j).map fun y=>(z,y)).map p2s).length<big:=by
    rw [List.length_map,List.length_append,List.length_map,List.length_take];unfold big;omega
   walk_at "g"
   refine⟨_,?_,rfl⟩
   rw [zbe hx]
   simp only [List.set_cons_succ,List.set_cons_zero,List.map_append,List.append_assoc,List.map_cons,List.map_nil]
  ·rintro ρ S' ⟨w5,rfl,rfl⟩
   rw [List.length_map,List.take_length]
   refine⟨_,_,_,_,_,rfl,rfl,h1⟩
 ·rintro ρ S' ⟨G,w3,w4,w5,A,rfl,rfl,hA⟩
  rw [zaQ,List.length_map,List.drop_of_length_le (Nat.le_refl _)] at hA
  have eA:prs zs=A:=by rw [hA];simp [prs]
  walk_at "g"
  subst eA
  exact fin_same (q _ _ ((zaU _ _ 1).trans rfl))
def zcJ:zdC:=fun ds S Q ex=>∃ (v:D) (V:Vl) (n:Str),ds=[v,.str n]/\VAt S v V/\zcd V/\fl 20 (.str n)=true/\((∀ b∈V.bs,b.1≠n)->ex "NoBeacon" S)/\∀ s,(n,s)∈V.bs->Q (p2 s) S
def zeT (ex : XR) : DS :=
    (zH (zcs (zbi (zcy "beacons" (zf 0))) (zB 2) (sIf (dT (dOp oEq (dOp oIx (zf 2) (dC (.int 0))) (zf 1))) (zY (dTup (zm (dOp oIx (zf 2) (dC (.int 1))) (zm (dOp oIx (zf 2) (dC (.int 2))) zA)))) zZ))
 (zfz ex "NoBeacon"))
theorem zlr:∀ ds So Q ex,zcJ ds So Q ex->ds.length=2:=by rintro ds So Q ex ⟨_,_,_,rfl,_⟩;rfl
theorem zmW:zdj 3 zeT zcJ:=by
 rintro ds S Q ex ⟨v,V,n,rfl,hv,ok,hn,hx,q⟩
 unfold zeT
 obtain⟨m,g,b',f,rfl,hm,hg,hb,_⟩:=hv
 walk_at "g"
 refine zbq (fun i ρ S'=>S'=S/\(∃ w,ρ=[some (.ref m),some (.str n),w])/\∀ b∈V.bs.take i,b.1≠n) ⟨rfl,⟨none,rfl⟩,by simp⟩ (fun i ρ S' h=>h.1▸Lst.here hb) ?_ ?_
 ·rintro i d ρ S' hd ⟨rfl,⟨w,rfl⟩,hno⟩
  obtain⟨b,hbi,rfl⟩:=zia hd
  have mb:=List.mem_of_getElem? hbi
  walk_at "g"
  refine zon (zno (ok.nm b mb) 20) hn ?_
  walk_at "g"
  refine r_d (fun h=>?_) (fun h=>?_)
  ·walk_at "g"
   exact fin_same (q b.2 (by rw [<- h];exact mb))
  ·walk_at "g"
   refine⟨rfl,⟨_,rfl⟩,fun c hc=>?_⟩
   rw [zbe hbi] at hc
   rcases List.mem_append.mp hc with hc | hc
   ·exact hno c hc
   ·have:c=b:=by simpa using hc
    subst this;exact h
 ·rintro ρ S' ⟨rfl,⟨w,rfl⟩,hno⟩
  rw [List.length_map,List.take_length] at hno
  walk_at "g"
  exact hx hno
def zap:zdC:=fun ds S Q ex=>∃ (g:D) (cs:List (Int×Int)) (s:Int×Int),ds=[g,p2 s]/\GAt S g cs/\Grd cs/\Bd 180 s.1/\Bd 200 s.2/\(¬ zdH cs s->ex "OffGround" S)/\(zdH cs s->Q .non S)
def za6 (ex:XR):DS :=
  (sIf (zdp (dT (dCall zdh (zm (zf 0) (zm (zf 1) zA))))) (zfz ex "OffGround") zZ)
theorem zeI:∀ ds So Q ex,zap ds So Q ex->ds.length=2:=by rintro ds So Q ex ⟨_,_,_,rfl,_⟩;rfl
theorem ze7:zdj 2 za6 zap:=by
 rintro ds S Q ex ⟨g,cs,s,rfl,hg,gr,b1,b2,hx,q⟩
 unfold za6
 walk_at "g"
 refine⟨g,cs,s,rfl,hg,gr,b1,b2,fun b hb=>?_⟩
 cases b with
 | true=>walk_at "g";exact fin_same (q (hb.mp rfl))
 | false=>walk_at "g";exact hx fun z=>(by have:=hb.mpr z;cases this)
def za3:DSp:=fun ds S Q=>∃ (g:D) (cs:List (Int×Int)) (x y:Int),ds=[g,.int x,.int y]/\GAt S g cs/\cs.length<=40/\New Q S ((nbK cs x y cs.length).map D.int)
def zbP:DS :=
    (zH (zQ (dB zhf (zm (zf 1) (zm (zf 2) zA))) (zB 3))
 (zH (zQ (dB zio (zm (zf 1) (zm (zf 2) zA))) (zB 4))
 (zY (dLC 2 [3,4] (zeL (zm (zcy "corners" (zf 0)) zA)) (zcf 2 (zag (zB 0) (zag (zB 1) zcc))) (dT (ziK oLt oLt (zf 2) (dOp oIx (zf 1) (dC (.int 0))) (zf 3))) (zf 0)))))
theorem zgj:∀ ds So Q,za3 ds So Q->ds.length=3:=by rintro ds So Q ⟨_,_,_,_,rfl,_⟩;rfl
theorem zgv:BodyOk 5 zbP za3:=by
 rintro ds S Q ⟨g,cs,x,y,rfl,⟨n,l,rfl,hn,hl⟩,h40,q⟩
 unfold zbP
 walk_at "g"
 refine zi0 (xs:=cs.map p2) (Lst.here hl) ?_
 refine⟨by rw [zaQ,List.length_map];unfold big;omega,fun i ys S'=>S'=S/\ys=(nbK cs x y i).map D.int,⟨rfl,rfl⟩,fun i ys S' ⟨e,_⟩=>e▸Lst.here hl,?_,?_⟩
 ·rintro i d ys S' hd ⟨rfl,rfl⟩
  obtain⟨u,hu,rfl⟩:=zbH hd
  obtain⟨c,hc,rfl⟩:=zk6 hu
  have e0:((0+i:Nat):Int)=(i:Int):=by omega
  have eg:cs.getD i (0,0)=c:=by rw [List.getD_eq_getElem?_getD,hc];rfl
  rw [e0]
  walk_at "g"
  refine r_d (fun g1=>?_) (fun g1=>?_)
  ·walk_at "g"
   refine r_d (fun g2=>?_) (fun g2=>?_)
   ·walk_at "g"
    exact⟨rfl,(zub (by unfold nbP;rw [eg,decide_eq_true g1,decide_eq_true g2];rfl)).symm⟩
   ·walk_at "g"
    exact⟨rfl,by rw [zpV (by unfold nbP;rw [eg,decide_eq_false g2,Bool.and_false])]⟩
  ·walk_at "g"
   exact⟨rfl,by rw [zpV (by unfold nbP;rw [eg,decide_eq_false g1,Bool.false_and])]⟩
 ·rintro ys S' ⟨rfl,rfl⟩
  rw [zaQ,List.length_map]
  exact fin_same q
def zdl:DSp:=fun ds S Q=>∃ (a b c:Int×Int),ds=[p2 a,p2 b,p2 c]/\zaH (c.2-a.2) (b.1-a.1)/\zaH (c.1-a.1) (b.2-a.2)/\Q (.int (sdI a b c)) S
def zeQ:DS :=
    (zH (zQ (dOp zaS (dOp oIx (zf 1) (dC (.int 0))) (dOp oIx (zf 0) (dC (.int 0)))) (zB 3))
 (zH (zQ (dOp zaS (dOp oIx (zf 1) (dC (.int 1))) (dOp oIx (zf 0) (dC (.int 1)))) (zB 4))
 (zH (zQ (dOp zaS (dOp zbt (dOp zaS (dOp oIx (zf 2) (dC (.int 1))) (dOp oIx (zf 0) (dC (.int 1)))) (zf 3)) (dOp zbt (dOp zaS (dOp oIx (zf 2) (dC (.int 0))) (dOp oIx (zf 0) (dC (.int 0)))) (zf 4))) (zB 5))
 (zH (sJ (sIf (dT (dOp oLt (zf 3) (dC (.int 0)))) (zQ (dUn zd6 (zf 5)) (zB 5)) zZ))
 (zH (sIf (dT (dOp oGt (zf 5) (dC (.int 0)))) (zY (dC (.int 1))) zZ)
 (zH (sIf (dT (dOp oLt (zf 5) (dC (.int 0)))) (zY (dUn zd6 (dC (.int 1)))) zZ)
 (zY (dC (.int 0)))))))))
theorem zlC:∀ ds So Q,zdl ds So Q->ds.length=3:=by rintro ds So Q ⟨_,_,_,rfl,_⟩;rfl
theorem zms:BodyOk 6 zeQ zdl:=by
 rintro ds S Q ⟨a,b,c,rfl,c1,c2,q⟩
 unfold zeQ
 walk_at "g"
 unfold sdI at q
 have key:∀ o:Int,o=(if b.1-a.1<0 then -sdO a b c else sdO a b c)->(if 0<o then Q (.int 1) S else if o<0 then Q (.int (-1)) S else Q (.int 0) S):=fun o e=>by
  rw [<- e] at q
  by_cases h:0<o
  ·rw [if_pos h] at q ⊢;exact q
  ·rw [if_neg h] at q ⊢
   by_cases h2:o<0
   ·rw [if_pos h2] at q ⊢;exact q
   ·rw [if_neg h2] at q ⊢;exact q
 refine r_J (fun ρ S'=>S'=S/\ρ=[some (p2 a),some (p2 b),some (p2 c),some (.int (b.1-a.1)),some (.int (b.2-a.2)),some (.int (if b.1-a.1<0 then -sdO a b c else sdO a b c))]) ?_ ?_
 ·walk_at "g"
  refine r_d (fun g=>?_) (fun g=>?_)
  ·walk_at "g"
   exact⟨rfl,by rw [if_pos g];rfl⟩
  ·walk_at "g"
   exact⟨rfl,by rw [if_neg g];rfl⟩
 rintro ρ S' ⟨rfl,rfl⟩
 have k:=key _ rfl
 generalize (if b.1-a.1<0 then -sdO a b c else sdO a b c)=o at k
 walk_at "g"
 refine r_d (fun g=>?_) (fun g=>?_)
 ·rw [if_pos g] at k
  walk_at "g"
  exact fin_same k
 ·rw [if_neg g] at k
  walk_at "g"
  refine r_d (fun g2=>?_) (fun g2=>?_)
  ·rw [if_pos g2] at k
   walk_at "g"
   exact fin_same k
  ·rw [if_neg g2] at k
   walk_at "g"
   exact fin_same k
def zdW:zdC:=fun ds S Q ex=>∃ (g:D) (cs:List (Int×Int)) (a b:Int×Int),ds=[g,p2 a,p2 b]/\GAt S g cs/\Grd cs/\(Bd 180 a.1/\Bd 200 a.2)/\(Bd 180 b.1/\Bd 200 b.2)/\(¬ (zdH cs a/\zdH cs b)->ex "OffGround" S)/\(zdH cs a->zdH cs b->Q (ze6 (ze0 cs a b)) S)
def zfJ (ex : XR) : DS :=
    (zH (zaJ (zbF zap ex (zm (zf 0) (zm (zf 1) zA))))
 (zH (zaJ (zbF zap ex (zm (zf 0) (zm (zf 2) zA))))
 (zH (zcs (zbi (dCall za3 (zm (zf 0) (zm (dOp oIx (zf 1) (dC (.int 0))) (zm (dOp oIx (zf 2) (dC (.int 0))) zA))))) (zB 3) (sIf (dT (dOp oGt (dCall zdl (zm (zf 1) (zm (zf 2) (zm (dOp oIx (zcy "corners" (zf 0)) (zf 3)) zA)))) (dC (.int 0)))) (zY (zf 3)) zZ))
 (zY (dC .non)))))
theorem zmI:∀ ds So Q ex,zdW ds So Q ex->ds.length=3:=by rintro ds So Q ex ⟨_,_,_,_,rfl,_⟩;rfl
theorem znT:zdj 4 zfJ zdW:=by
 rintro ds S Q ex ⟨g,cs,a,b,rfl,hg,gr,ba,bb,hx,q⟩
 unfold zfJ
 walk_at "g"
 refine⟨g,cs,a,rfl,hg,gr,ba.1,ba.2,fun z=>hx fun y=>z y.1,fun za=>?_⟩
 walk_at "g"
 refine⟨g,cs,b,rfl,hg,gr,bb.1,bb.2,fun z=>hx fun y=>z y.2,fun zb=>?_⟩
 have sa:=Std.of ba.1 ba.2 za
 have sb:=Std.of bb.1 bb.2 zb
 have q:=q za zb
 walk_at "g"
 refine⟨g,cs,_,_,rfl,hg,gr.most,?_⟩
 have kl:∀ k∈nbK cs a.1 b.1 cs.length,0<=k/\k<cs.length:=fun k hk=>zr1 hk
 unfold ze0 at q
 generalize nbK cs a.1 b.1 cs.length=ks at q kl
 unfold New
 walk_at "g"
 refine zbq (fun i ρ S'=>∃ w1,ρ=[some g,some (p2 a),some (p2 b),w1]/\S'=S++[.lst (ks.map D.int)]/\∀ x∈ks.take i,zkt cs a b x=false) ⟨none,rfl,rfl,by simp⟩ (fun i ρ S' ⟨w1,_,e,_⟩=>e▸Lst.at0) ?_ ?_
 ·rintro i d ρ S' hd ⟨w1,rfl,rfl,hn⟩
  obtain⟨k,hk,rfl⟩:=zel hd
  obtain⟨k0,k1⟩:=kl k (List.mem_of_getElem? hk)
  obtain⟨c,hc,ac⟩:=zj3 (cs:=cs) k0 k1
  have eg:cs.getD k.toNat (0,0)=c:=by rw [List.getD_eq_getElem?_getD,hc];rfl
  obtain⟨bc1,bc2⟩:=gr.bd c (List.mem_of_getElem? hc)
  obtain⟨n,l,rfl,hgn,hgl⟩:=hg.old (T:=[.lst (ks.map D.int)])
  walk_at "g"
  refine⟨a,b,c,rfl,.inl ⟨(Bd.sub (bc2.mono (by decide:(190:Nat)<=200)) sa.2.1).mono (by decide),(Bd.sub sb.1 sa.1).mono (by decide)⟩,.inl ⟨(Bd.sub (bc1.mono (by decide:(170:Nat)<=180)) sa.1).mono (by decide),(Bd.sub sb.2.1 sa.2.1).mono (by decide)⟩,?_⟩
  walk_at "g"
  refine r_d (fun g1=>?_) (fun g1=>?_)
  ·walk_at "g"
   rw [zlR hk hn (by unfold zkt;rw [eg];exact decide_eq_true g1)] at q
   exact zco rfl q
  ·walk_at "g"
   refine⟨_,rfl,rfl,fun x hx=>?_⟩
   rw [zbe hk] at hx
   rcases List.mem_append.mp hx with hx | hx
   ·exact hn x hx
   ·have:x=k:=by simpa using hx
    subst this
    unfold zkt;rw [eg];exact decide_eq_false g1
 ·rintro ρ S' ⟨w1,rfl,rfl,hn⟩
  rw [List.length_map,List.take_length] at hn
  rw [zq0 hn] at q
  walk_at "g"
  exact zco rfl q
def za9:DSp:=fun ds S Q=>∃ (a b:Int×Int),ds=[p2 a,p2 b]/\(Bd 180 a.1/\Bd 200 a.2)/\(Bd 180 b.1/\Bd 200 b.2)/\Q (.int (sqr a b)) S
def zb4:DS :=
    (zH (zQ (dOp zaS (dOp oIx (zf 1) (dC (.int 0))) (dOp oIx (zf 0) (dC (.int 0)))) (zB 2))
 (zH (zQ (dOp zaS (dOp oIx (zf 1) (dC (.int 1))) (dOp oIx (zf 0) (dC (.int 1)))) (zB 3))
 (zY (dOp zaD (dOp zbt (zf 2) (zf 2)) (dOp zbt (zf 3) (zf 3))))))
theorem zgt:∀ ds So Q,za9 ds So Q->ds.length=2:=by rintro ds So Q ⟨_,_,rfl,_⟩;rfl
theorem zhu:BodyOk 4 zb4 za9:=by
 rintro ds S Q ⟨a,b,rfl,⟨a1,a2⟩,⟨b1,b2⟩,q⟩
 unfold zb4
 have c1:Bd 8000 (b.1-a.1):=(Bd.sub b1 a1).mono (by decide)
 have c2:Bd 8000 (b.2-a.2):=(Bd.sub b2 a2).mono (by decide)
 have m1:zaH (b.1-a.1) (b.1-a.1):=.inl ⟨c1,c1⟩
 have m2:zaH (b.2-a.2) (b.2-a.2):=.inl ⟨c2,c2⟩
 walk_at "g"
 exact fin_same q
def zbr:DSp:=fun ds S Q=>∃ (v:D) (V:Vl) (a b:Int×Int),ds=[v,p2 a,p2 b]/\VAt S v V/\zcd V/\((Bd 180 a.1/\Bd 200 a.2)/\zdH V.cs a)/\((Bd 180 b.1/\Bd 200 b.2)/\zdH V.cs b)/\Q (zfE V a b) S
def zch:DS :=
    (zH (zQ (zbF zdW xF (zm (zcy "ground" (zf 0)) (zm (zf 1) (zm (zf 2) zA)))) (zB 3))
 (zH (sIf (dT (dOp zfe (zf 3) (dC .non))) (zY (dTup (zm (dC (.str "ground")) (zm (zf 3) zA)))) zZ)
 (zH (zQ (dCall za9 (zm (zf 1) (zm (zf 2) zA))) (zB 4))
 (zH (sIf (zhB (dT (dOp zfe (zcy "haze" (zf 0)) (dC .non))) (dT (dOp oGt (zf 4) (zcy "haze" (zf 0))))) (zY (dTup (zm (dC (.str "haze")) (zm (zf 4) zA)))) zZ)
 (zY (dC .non))))))
theorem zhm:∀ ds So Q,zbr ds So Q->ds.length=3:=by rintro ds So Q ⟨_,_,_,_,rfl,_⟩;rfl
theorem zh0:BodyOk 5 zch zbr:=by
 rintro ds S Q ⟨v,V,a,b,rfl,hv,ok,⟨ba,sa⟩,⟨bb,sb⟩,q⟩
 unfold zch
 obtain⟨n,g,bb',f,rfl,hn,hg,_,_⟩:=hv
 walk_at "g"
 refine⟨_,V.cs,a,b,rfl,hg,ok.gr,ba,bb,fun no=>(no ⟨sa,sb⟩).elim,fun _ _=>?_⟩
 unfold zfE at q
 cases e:ze0 V.cs a b with
 | some k =>
  rw [e] at q
  unfold ze6
  walk_at "g"
  exact fin_same q
 | none =>
  rw [e] at q
  unfold ze6
  walk_at "g"
  refine⟨a,b,rfl,ba,bb,?_⟩
  dsimp only at q
  have hn':S[n]?=some (.ins "Valley" (vF (.ref g) (.ref bb') (.ref f) (ze6 V.hz) (.int V.h0) (.int V.h1) (.int V.dl))):=hn
  generalize sqr a b=sq at q
  generalize V.hz=hz at q hn'
  cases hz with
  | none =>
   have q2:Q .non S:=q
   unfold ze6 at hn'
   walk_at "g"
   exact fin_same q2
  | some z =>
   have q2:Q (if decide (z<sq)=true then .tup [.str "haze",.int sq] else .non) S:=q
   unfold ze6 at hn'
   walk_at "g"
   refine r_d (fun h=>?_) (fun h=>?_)
   ·rw [if_pos (decide_eq_true h)] at q2
    walk_at "g"
    exact fin_same q2
   ·rw [if_neg (by rw [decide_eq_false h];decide)] at q2
    walk_at "g"
    exact fin_same q2
def zeG:DSp:=fun ds S Q=>∃ (F:Fg) (h:Int),ds=[fgD F,.int h]/\zaH F.g h/\zaH F.s h/\Q (.tup [.int (F.x0+F.g*h),.int (F.x1+F.g*h),.int (F.z0+F.s*h),.int (F.z1+F.s*h)]) S
def zhi:DS :=
    (zH (zQ (dOp zbt (dOp oIx (zf 0) (dC (.int 6))) (zf 1)) (zB 2))
 (zH (zQ (dOp zbt (dOp oIx (zf 0) (dC (.int 7))) (zf 1)) (zB 3))
 (zY (dTup (zm (dOp zaD (dOp oIx (zf 0) (dC (.int 0))) (zf 2)) (zm (dOp zaD (dOp oIx (zf 0) (dC (.int 1))) (zf 2)) (zm (dOp zaD (dOp oIx (zf 0) (dC (.int 2))) (zf 3)) (zm (dOp zaD (dOp oIx (zf 0) (dC (.int 3))) (zf 3)) zA))))))))
theorem znB:∀ ds So Q,zeG ds So Q->ds.length=2:=by rintro ds So Q ⟨_,_,rfl,_⟩;rfl
theorem zo5:BodyOk 4 zhi zeG:=by
 rintro ds S Q ⟨F,h,rfl,c1,c2,q⟩
 unfold zhi
 walk_at "g"
 exact fin_same q
def zd4:DSp:=fun ds S Q=>∃ (F:Fg) (h:Int),ds=[fgD F,.int h]/\FgV F/\Bd 300 h/\(¬ (F.f<=h/\h<=F.l)->Q .non S)/\(F.f<=h->h<=F.l->Q (.tup [.int (F.x0+F.g*(h-F.f)),.int (F.x1+F.g*(h-F.f)),.int (F.z0+F.s*(h-F.f)),.int (F.z1+F.s*(h-F.f))]) S)
def zfL:DS :=
    (zH (sIf (dOr (dT (dOp oLt (zf 1) (dOp oIx (zf 0) (dC (.int 4))))) (dT (dOp oGt (zf 1) (dOp oIx (zf 0) (dC (.int 5)))))) (zY (dC .non)) zZ)
 (zY (dCall zeG (zm (zf 0) (zm (dOp zaS (zf 1) (dOp oIx (zf 0) (dC (.int 4)))) zA)))))
theorem zl6:∀ ds So Q,zd4 ds So Q->ds.length=2:=by rintro ds So Q ⟨_,_,rfl,_⟩;rfl
theorem znU:BodyOk 2 zfL zd4:=by
 rintro ds S Q ⟨F,h,rfl,ok,bh,q0,q⟩
 unfold zfL
 walk_at "g"
 refine r_d (fun h1=>?_) (fun h1=>?_)
 ·walk_at "g"
  exact fin_same (q0 (by omega))
 walk_at "g"
 refine r_d (fun h2=>?_) (fun h2=>?_)
 ·walk_at "g"
  exact fin_same (q0 (by omega))
 walk_at "g"
 have bk:Bd 301 (h-F.f):=Bd.sub bh ok.f
 refine⟨F,_,rfl,.inl ⟨ok.b.bg.mono (by decide),bk.mono (by decide)⟩,.inl ⟨ok.b.bs.mono (by decide),bk.mono (by decide)⟩,?_⟩
 exact fin_same (q (by omega) (by omega))
def zdu:DSp:=fun ds S Q=>∃ (L R B T x1 z1 x2 z2:Int),ds=[.tup [.int L,.int R,.int B,.int T],.tup [.int x1,.int z1],.tup [.int x2,.int z2]]/\Bd 1000 L/\Bd 1000 R/\Bd 1000 B/\Bd 1000 T/\Bd 1000 x1/\Bd 1000 z1/\Bd 1000 x2/\Bd 1000 z2 /\
 ∀ (ca cb:Cell) (mx mn:Int),mx∈acr L R B T x1 z1 x2 z2->(∀ a∈acr L R B T x1 z1 x2 z2,a<=mx)->mn∈acr L R B T x1 z1 x2 z2->(∀ a∈acr L R B T x1 z1 x2 z2,mn<=a)->Q (.ref (S.length+2)) (S++[ca,cb,.lst ((six L R B T x1 z1 x2 z2 mx mn).map D.int)])
def zeV:DS :=
    (zH (zQ (dOp zaS (dOp oIx (zf 2) (dC (.int 0))) (dOp oIx (zf 1) (dC (.int 0)))) (zB 3))
 (zH (zQ (dOp zaS (dOp oIx (zf 2) (dC (.int 1))) (dOp oIx (zf 1) (dC (.int 1)))) (zB 4))
 (zH (zQ (zcM (zm (dTup (zm (dOp oIx (zf 0) (dC (.int 0))) (zm (dOp oIx (zf 0) (dC (.int 2))) zA))) (zm (dTup (zm (dOp oIx (zf 0) (dC (.int 0))) (zm (dOp oIx (zf 0) (dC (.int 3))) zA))) (zm (dTup (zm (dOp oIx (zf 0) (dC (.int 1))) (zm (dOp oIx (zf 0) (dC (.int 2))) zA))) (zm (dTup (zm (dOp oIx (zf 0) (dC (.int 1))) (zm (dOp oIx (zf 0) (dC (.int 3))) zA))) zA))))) (zB 5))
 (zH (zQ (dLC 2 [3,1,4] (zbi (zf 5)) (zcf 2 (zag (zB 0) (zag (zB 1) zcc))) zbv (dOp zaS (dOp zbt (zf 2) (dOp zaS (zf 1) (dOp oIx (zf 3) (dC (.int 1))))) (dOp zbt (zf 4) (dOp zaS (zf 0) (dOp oIx (zf 3) (dC (.int 0))))))) (zB 6))
 (zY (zcM (zm (dOp zaS (dB zio (zm (dOp oIx (zf 1) (dC (.int 0))) (zm (dOp oIx (zf 2) (dC (.int 0))) zA))) (dOp oIx (zf 0) (dC (.int 0)))) (zm (dOp zaS (dOp oIx (zf 0) (dC (.int 1))) (dB zhf (zm (dOp oIx (zf 1) (dC (.int 0))) (zm (dOp oIx (zf 2) (dC (.int 0))) zA)))) (zm (dOp zaS (dB zio (zm (dOp oIx (zf 1) (dC (.int 1))) (zm (dOp oIx (zf 2) (dC (.int 1))) zA))) (dOp oIx (zf 0) (dC (.int 2)))) (zm (dOp zaS (dOp oIx (zf 0) (dC (.int 3))) (dB zhf (zm (dOp oIx (zf 1) (dC (.int 1))) (zm (dOp oIx (zf 2) (dC (.int 1))) zA)))) (zm (dB zmL (zm (zf 6) zA)) (zm (dUn zd6 (dB zj1 (zm (zf 6) zA))) zA))))))))))))
theorem zlg:∀ ds So Q,zdu ds So Q->ds.length=3:=by rintro ds So Q ⟨_,_,_,_,_,_,_,_,rfl,_⟩;rfl
theorem zmf:BodyOk 7 zeV zdu:=by
 rintro ds S Q ⟨L,R,B,T,x1,z1,x2,z2,rfl,bL,bR,bB,bT,b1,b2,b3,b4,q⟩
 unfold zeV
 walk_at "g"
 refine zbk (fun _=>true) (on2 fun c=>.int ((x2-x1)*(c.2-z1)-(z2-z1)*(c.1-x1))) (by walk_at "dlat") (Nat.le_of_ble_eq_true rfl) (fun i d ys hd hw=>?_) ?_
 ·obtain⟨c,hc,rfl⟩:=zk6 (cs:=[(L,B),(L,T),(R,B),(R,T)]) hd
  have hm:=List.mem_of_getElem? hc
  have hb:Bd 1000 c.1/\Bd 1000 c.2:=by
   simp only [List.mem_cons,List.not_mem_nil,or_false] at hm
   rcases hm with rfl | rfl | rfl | rfl
   ·exact⟨bL,bB⟩
   ·exact⟨bL,bT⟩
   ·exact⟨bR,bB⟩
   ·exact⟨bR,bT⟩
  have hb1:=hb.1
  have hb2:=hb.2
  have c1:zaH (x2-x1) (c.2-z1):=.inl ⟨(Bd.sub b3 b1).mono (by decide),(Bd.sub hb2 b2).mono (by decide)⟩
  have c2:zaH (z2-z1) (c.1-x1):=.inl ⟨(Bd.sub b4 b2).mono (by decide),(Bd.sub hb1 b1).mono (by decide)⟩
  walk_at "g"
  exact zcH hd hw rfl rfl
 rw [filter_true]
 show New _ _ ((acr L R B T x1 z1 x2 z2).map D.int)
 walk_at "g"
 refine zrz (ns:=acr L R B T x1 z1 x2 z2) (by walk_at "dlat") (Nat.le_of_ble_eq_true rfl) fun mx m1 m2=>?_
 walk_at "g"
 refine zm9 (ns:=acr L R B T x1 z1 x2 z2) (by walk_at "dlat") (Nat.le_of_ble_eq_true rfl) fun mn n1 n2=>?_
 walk_at "g"
 exact fin_same (q _ _ mx mn m1 m2 n1 n2)
def zeE:DSp:=fun ds S Q=>∃ (L R B T:Int) (a b:Int×Int),ds=[.tup [.int L,.int R,.int B,.int T],p2 a,p2 b]/\L<=R/\B<=T/\(Bd 700 L/\Bd 700 R/\Bd 700 B/\Bd 700 T)/\(Bd 700 a.1/\Bd 700 a.2)/\(Bd 700 b.1/\Bd 700 b.2)/\∀ r:Bool,(r=true↔Hit L R B T a.1 a.2 b.1 b.2)->Q (.bl r) S
def zg9:DS :=
  (zY (dOp oGe (dB zj1 (zm (dCall zdu (zm (zf 0) (zm (zf 1) (zm (zf 2) zA)))) zA)) (dC (.int 0))))
theorem znJ:∀ ds So Q,zeE ds So Q->ds.length=3:=by rintro ds So Q ⟨_,_,_,_,_,_,rfl,_⟩;rfl
theorem zoV:BodyOk 3 zg9 zeE:=by
 rintro ds S Q ⟨L,R,B,T,a,b,rfl,hx,hz,⟨bL,bR,bB,bT⟩,⟨ba1,ba2⟩,⟨bb1,bb2⟩,q⟩
 unfold zg9
 walk_at "g"
 refine⟨L,R,B,T,a.1,a.2,b.1,b.2,rfl,bL.mono (by decide),bR.mono (by decide),bB.mono (by decide),bT.mono (by decide),ba1.mono (by decide),ba2.mono (by decide),bb1.mono (by decide),bb2.mono (by decide),fun ca cb mx mn m1 m2 n1 n2=>?_⟩
 walk_at "g"
 refine zm9 (ns:=six L R B T a.1 a.2 b.1 b.2 mx mn) (Lst.at (k:=2) rfl) (by show 0<6;decide) fun m w1 w2=>?_
 walk_at "g"
 refine zco rfl (q _ ?_)
 rw [decide_eq_true_eq,<- zqZ hx hz]
 exact zpE m1 m2 n1 n2 w1 w2
def zcu:zdC:=fun ds S Q ex=>∃ (v:D) (V:Vl) (n m:Str) (h:Int),ds=[v,.str n,.str m,.int h]/\VAt S v V/\zcd V/\fl 20 (.str n)=true/\fl 20 (.str m)=true/\((∀ b∈V.bs,b.1≠n)\/(∀ b∈V.bs,b.1≠m)->ex "NoBeacon" S) /\
 ∀ s t,(n,s)∈V.bs->(m,t)∈V.bs->(¬ (V.h0<=h/\h<=V.h1)->ex "BadHour" S)/\(V.h0<=h->h<=V.h1->∀ d,zpx V n m s t h d->Q d S)
def zfT (ex : XR) : DS :=
    (zH (zQ (zbF zcJ ex (zm (zf 0) (zm (zf 1) zA))) (zB 4))
 (zH (zQ (zbF zcJ ex (zm (zf 0) (zm (zf 2) zA))) (zB 5))
 (zH (zaJ (zbF zaN ex (zm (zf 0) (zm (zf 3) zA))))
 (zH (sIf (dT (dOp oEq (zf 1) (zf 2))) (zY (dC .non)) zZ)
 (zH (zQ (dCall zbr (zm (zf 0) (zm (zf 4) (zm (zf 5) zA)))) (zB 6))
 (zH (sIf (dT (dOp zfe (zf 6) (dC .non))) (zY (zf 6)) zZ)
 (zH (zcs (zeL (zm (zcy "fogs" (zf 0)) zA)) (zcf 2 (zag (zB 7) (zag (zB 8) zcc))) (zH (zQ (dCall zd4 (zm (zf 8) (zm (zf 3) zA))) (zB 9))
 (sIf (zhB (dT (dOp zfe (zf 9) (dC .non))) (dT (dCall zeE (zm (zf 9) (zm (zf 4) (zm (zf 5) zA)))))) (zY (dTup (zm (dC (.str "fog")) (zm (zf 7) zA)))) zZ)))
 (zY (dC .non)))))))))
theorem zml:∀ ds So Q ex,zcu ds So Q ex->ds.length=4:=by rintro ds So Q ex ⟨_,_,_,_,_,rfl,_⟩;rfl
theorem znF:zdj 10 zfT zcu:=by
 rintro ds S Q ex ⟨v,V,n,m,h,rfl,hv,ok,hn,hm,hx,q⟩
 unfold zfT
 walk_at "g"
 refine⟨v,V,n,rfl,hv,ok,hn,fun no=>hx (.inl no),fun s hs=>?_⟩
 walk_at "g"
 refine⟨v,V,m,rfl,hv,ok,hm,fun no=>hx (.inr no),fun t ht=>?_⟩
 obtain⟨q1,q2⟩:=q s t hs ht
 clear hx q
 have bs:=ok.bd _ hs
 have bt:=ok.bd _ ht
 have ss:=ok.st _ hs
 have st:=ok.st _ ht
 walk_at "g"
 refine⟨v,V,h,rfl,hv,q1,fun h0 h1=>?_⟩
 have q':=q2 h0 h1
 clear q1 q2
 have bh:Bd 300 h:=(Bd.btw (n:=250) ok.b0 ok.bl h0 h1).mono (by decide)
 obtain⟨a,g,b',f,rfl,ha,hg,hb,hf⟩:=id hv
 walk_at "g"
 refine zon hn hm ?_
 walk_at "g"
 refine r_d (fun e=>?_) (fun e=>?_)
 ·walk_at "g"
  exact fin_same (q' .non (.inl ⟨e,rfl⟩))
 walk_at "g"
 refine⟨_,V,s,t,rfl,hv,ok,⟨bs,ss⟩,⟨bt,st⟩,?_⟩
 walk_at "g"
 by_cases al:Alw V s t
 case neg =>
  have en:zbf (zfE V s t)=false:=by
   cases h:zfE V s t with
   | non=>exact absurd (zgJ.mp h) al
   | _=>rfl
  rw [en]
  walk_at "g"
  exact fin_same (q' _ (.inr ⟨e,.inl ⟨al,rfl⟩⟩))
 rw [zgJ.mpr al,show zbf D.non=true from rfl]
 walk_at "g"
 refine zi0 (Lst.here hf) ?_
 have f12:=ok.f12
 refine zbq (fun i ρ S'=>S'=S/\(∃ w1 w2 w3:Option D,ρ=[some (.ref a),some (.str n),some (.str m),some (.int h),some (p2 s),some (p2 t),some .non,w1,w2,w3])/\∀ (j:Nat) G,j<i->V.fs[j]?=some G->¬ zb8 G s.1 s.2 t.1 t.2 h) ⟨rfl,⟨_,_,_,rfl⟩,fun j G hj=>by omega⟩ (fun i ρ S' w=>w.1▸Lst.here hf) ?_ ?_
 ·rintro i d ρ S' hd ⟨rfl,⟨w1,w2,w3,rfl⟩,hno⟩
  obtain⟨y,hy,rfl⟩:=zbH hd
  obtain⟨F,hF,rfl⟩:=zod hy
  have okF:=ok.fg F (List.mem_of_getElem? hF)
  have nxt:¬ zb8 F s.1 s.2 t.1 t.2 h->∀ (j:Nat) G,j<i+1->V.fs[j]?=some G->¬ zb8 G s.1 s.2 t.1 t.2 h:=fun z j G hj hG=>by
   rcases Nat.lt_or_ge j i with g | g
   ·exact hno j G g hG
   ·have:j=i:=by omega
    subst this
    rw [hF] at hG;cases hG;exact z
  walk_at "g"
  refine⟨F,h,rfl,okF,bh,fun no=>?_,fun k0 k1=>?_⟩
  ·walk_at "g"
   exact⟨rfl,⟨_,_,_,rfl⟩,nxt fun z=>no ⟨z.1,z.2.1⟩⟩
  ·walk_at "g"
   have bk:Bd 301 (h-F.f):=Bd.sub bh okF.f
   have p1:Bd 501 (F.g*(h-F.f)):=Bd.mul okF.b.bg bk
   have p2':Bd 501 (F.s*(h-F.f)):=Bd.mul okF.b.bs bk
   have ad:∀ {x y:Int},Bd 600 x->Bd 501 y->Bd 700 (x+y):=fun hx hy=>(Bd.add (n:=600) hx (hy.mono (by decide))).mono (by decide)
   refine⟨_,_,_,_,s,t,rfl,by have:=okF.b.x;omega,by have:=okF.b.z;omega,⟨ad okF.b.b0 p1,ad okF.b.b1 p1,ad okF.b.b2 p2',ad okF.b.b3 p2'⟩,⟨bs.1.mono (by decide),bs.2.mono (by decide)⟩,⟨bt.1.mono (by decide),bt.2.mono (by decide)⟩,fun r hr=>?_⟩
   cases r with
   | true =>
    walk_at "g"
    rw [Nat.zero_add]
    exact fin_same (q' _ (.inr ⟨e,.inr ⟨al,.inl ⟨i,F,hF,⟨k0,k1,hr.mp rfl⟩,hno,rfl⟩⟩⟩))
   | false =>
    walk_at "g"
    exact⟨rfl,⟨_,_,_,rfl⟩,nxt fun z=>absurd (hr.mpr z.2.2) (by decide)⟩
 ·rintro ρ S' ⟨rfl,⟨w1,w2,w3,rfl⟩,hno⟩
  rw [zaQ,List.length_map] at hno
  walk_at "g"
  refine fin_same (q' _ (.inr ⟨e,.inr ⟨al,.inr ⟨fun F hF=>?_,rfl⟩⟩⟩))
  obtain⟨j,hj,e⟩:=List.mem_iff_getElem.mp hF
  exact hno j F hj (by rw [List.getElem?_eq_getElem hj,e])
def zdX:zdC:=fun ds S Q ex=>∃ (v:D) (V:Vl) (h:Int),ds=[v,.int h]/\VAt S v V/\zcd V/\(¬ (V.h0<=h/\h<=V.h1)->ex "BadHour" S)/\(V.h0<=h->h<=V.h1->∀ (T:Sto) (n:Nat) (qs:List (Str×Str)),zke V h (prs (V.bs.map (·.1))) qs->(S++T)[n]?=some (.lst (qs.map p2s))->S.length<=n->Q (.ref n) (S++T))
def zfW (ex : XR) : DS :=
    (zH (zaJ (zbF zaN ex (zm (zf 0) (zm (zf 1) zA))))
 (zY (dLC 1 [0,1] (zbi (dCall zcY (zm (zf 0) zA))) (zB 0) (dT (dOp oIs (zbF zcu xF (zm (zf 1) (zm (dOp oIx (zf 0) (dC (.int 0))) (zm (dOp oIx (zf 0) (dC (.int 1))) (zm (zf 2) zA))))) (dC .non))) (zf 0))))
theorem zmo:∀ ds So Q ex,zdX ds So Q ex->ds.length=2:=by rintro ds So Q ex ⟨_,_,_,rfl,_⟩;rfl
theorem znb:zdj 2 zfW zdX:=by
  rintro ds S Q ex ⟨v,V,h,rfl,hv,ok,hx,q⟩
  unfold zfW
  walk_at "g"
  refine⟨v,V,h,rfl,hv,hx,fun h0 h1=>?_⟩
  have q':=q h0 h1
  clear q hx
  walk_at "g"
  refine⟨v,V,rfl,hv,ok,fun T n hn=>?_⟩
  walk_at "g"
  have hv1:VAt (S++T) v V:=hv.old
  have b12:=ok.b12
  have hpm:∀ p∈prs (V.bs.map (·.1)),p.1∈V.bs.map (·.1)/\p.2∈V.bs.map (·.1):=fun p hp=>zcD hp
  have lp:(prs (V.bs.map (·.1))).length<=144:=by
    have:=zgV (V.bs.map (·.1))
    rw [List.length_map] at this
    have:V.bs.length*V.bs.length<=12*12:=Nat.mul_le_mul b12 b12
    omega
  generalize prs (V.bs.map (·.1))=ps at q' hn hpm lp
  refine ziL (fun i ys S'=>S'=S++T/\∃ qs,ys=qs.map p2s/\zke V h (ps.take i) qs) ⟨rfl,[],rfl,fun _=>true,rfl,fun p hp=>by simp at hp⟩ (fun i ys S' w=>w.1▸Lst.here hn) (by rw [List.length_map];unfold big;omega) ?_ ?_
  · rintro i d ys S' hd ⟨rfl,qs,rfl,hw⟩
    obtain⟨p,hp,rfl⟩:=ziX hd
    obtain⟨m1,m2⟩:=hpm p (List.mem_of_getElem? hp)
    obtain⟨b,hb,eb⟩:=List.mem_map.mp m1
    obtain⟨c,hc,ec⟩:=List.mem_map.mp m2
    obtain⟨f,hf,hfp⟩:=hw
    walk_at "g"
    refine⟨v,V,p.1,p.2,h,rfl,hv1,ok,ok.flN _ m1,ok.flN _ m2,fun no=>?_,fun s t hs ht=>⟨fun no=>absurd ⟨h0,h1⟩ no,fun _ _ e he=>?_⟩⟩
    · rcases no with no | no
      · exact no b hb eb
      · exact no c hc ec
    have en:zbf e=true↔p.1=p.2\/zgE V s t h:=by
      rw [<- he.non]
      cases e<;>simp [zbf]
    have ubc:∀ s' t',(p.1,s')∈V.bs->(p.2,t')∈V.bs->s'=s/\t'=t:=fun s' t' h1 h2=>⟨congrArg Prod.snd (zfw ok h1 hs rfl),congrArg Prod.snd (zfw ok h2 ht rfl)⟩
    walk_at "g"
    cases hg:zbf e with
    | true =>
      walk_at "g"
      refine⟨rfl,qs++[p],by rw [List.map_append];rfl,?_⟩
      exact zkn hp hs ht ⟨f,hf,hfp⟩ (fun s' t' h1 h2=>by obtain⟨rfl,rfl⟩:=ubc s' t' h1 h2;exact⟨fun _=>en.mp hg,fun _=>rfl⟩) (by rw [if_pos rfl])
    | false =>
      walk_at "g"
      refine⟨rfl,qs,rfl,?_⟩
      exact zkn (g:=false) hp hs ht ⟨f,hf,hfp⟩ (fun s' t' h1 h2=>by obtain⟨rfl,rfl⟩:=ubc s' t' h1 h2;exact⟨fun z=>(by cases z),fun z=>by rw [hg] at en;exact absurd (en.mpr z) (by decide)⟩) (by rw [if_neg (by decide)])
  · rintro ys S' ⟨rfl,qs,rfl,hw⟩
    rw [List.length_map,List.take_length] at hw
    refine zc5 (fin_same (q' _ _ qs hw zfq (by omega)))
def kvN (b:Nat)(zs:List Str):Nat->List (Str×D)
 | 0=>[]
 | i+1=>kvN b zs i++[(zs.getD i Str.empty,.ref (b+i))]
theorem zlU (b:Nat)(zs:List Str):∀ i,(kvN b zs i).length=i
 | 0=>rfl
 | i+1=>by show (kvN b zs i++_).length=_;rw [List.length_append,zlU b zs i];rfl
theorem ziY {b:Nat}{zs:List Str}(nd:zs.Nodup):∀ (i:Nat),i<=zs.length->∀ (j:Nat) z,zs[j]?=some z->dval (kvN b zs i) z=if j<i then some (.ref (b+j)) else none
 | 0,_,j,z,_=>by rw [if_neg (by omega)];rfl
 | i+1,hi,j,z,hz=>by
  have gi:zs[i]?=some (zs.getD i Str.empty):=by rw [List.getD_eq_getElem?_getD,List.getElem?_eq_getElem (by omega)];rfl
  show dval (kvN b zs i++[(zs.getD i Str.empty,.ref (b+i))]) z=_
  rw [zog,ziY nd i (by omega) j z hz]
  by_cases e:j<i
  ·rw [if_pos e,if_pos (show j<i+1 by omega)];rfl
  ·rw [if_neg e]
   by_cases e2:j=i
   ·subst e2
    rw [gi] at hz
    rw [if_pos (Option.some.inj hz),if_pos (show j<j+1 by omega)];rfl
   ·rw [if_neg (fun w=>e2 (zew nd hz (by rw [<- w];exact gi))),if_neg (show ¬ j<i+1 by omega)];rfl
structure NrL (zs:List Str)(qs:List (Str×Str))(Ls:List (List Str)):Prop where
 len:Ls.length=zs.length
 nd:∀ ys∈Ls,ys.Nodup
 iff:∀ (j:Nat) z ys,zs[j]?=some z->Ls[j]?=some ys->∀ y,y∈ys↔(z,y)∈qs\/(y,z)∈qs
abbrev lsC (Ls:List (List Str)):Sto:=Ls.map fun ys=>Cell.lst (ys.map D.str)
def zcU:DSp:=fun ds S Q=>∃ (v:D) (V:Vl) (h:Int) (x:D) (zs:List Str),ds=[v,.int h,x]/\VAt S v V/\zcd V/\V.bs.map (·.1)=zs/\Lst S x (zs.map D.str)/\V.h0<=h/\h<=V.h1/\∀ (T:Sto) (y:D),zbu (S++T) y V h->Q y (S++T)
def zej:DS :=
    (zH (zQ (zmJ) (zB 3))
 (zH (zcs (zbi (zf 2)) (zB 4) (zmp (zf 3) (zf 4) (zcM zA)))
 (zH (zcs (zbi (zbF zdX xF (zm (zf 0) (zm (zf 1) zA)))) (zcf 2 (zag (zB 5) (zag (zB 6) zcc))) (zH (zaJ (dM zdB (zhE (zf 3) (zf 5)) (zm (zf 6) zA)))
 (zaJ (dM zdB (zhE (zf 3) (zf 6)) (zm (zf 5) zA)))))
 (zY (zf 3)))))
theorem zkd:∀ ds So Q,zcU ds So Q->ds.length=3:=by rintro ds So Q ⟨_,_,_,_,_,rfl,_⟩;rfl
theorem zlD:BodyOk 7 zej zcU:=by
 rintro ds S Q ⟨v,V,h,x,zs,rfl,hv,ok,hzs,hx,h0,h1,q⟩
 unfold zej
 have nd:zs.Nodup:=hzs▸ok.nd
 have b12:zs.length<=12:=by rw [<- hzs,List.length_map];exact ok.b12
 walk_at "g"
 have hx1:∀ T,Lst (S++T) x (zs.map D.str):=fun T=>hx.old
 have hx2:=hx1 [.dk []]
 walk_at "g"
 walk_at "drho"
 refine zbq (fun i ρ S'=>i<=zs.length/\∃ w4:Option D,S'=S++Cell.dk (kvN (S.length+1) zs i)::lsC (List.replicate i [])/\ρ=[some v,some (.int h),some x,some (.ref S.length),w4,none,none]) ⟨Nat.zero_le _,none,rfl,rfl⟩ (fun i ρ S' ⟨_,_,e,_⟩=>e▸hx.old) ?_ ?_
 ·rintro i d ρ S' hd ⟨hi,w4,rfl,rfl⟩
  obtain⟨z,hz,rfl⟩:=zbS hd
  have li:=zai hz
  have gz:zs.getD i Str.empty=z:=by rw [List.getD_eq_getElem?_getD,hz];rfl
  walk_at "g"
  have e1:S.length+(Cell.dk (kvN (S.length+1) zs i)::lsC (List.replicate i [])).length=S.length+1+i:=by simp;omega
  rw [e1]
  refine zil.k (kvs:=kvN (S.length+1) zs i) zaz (by rw [zlU];unfold big;omega) ?_
  refine zko ?_
  refine⟨by omega,_,?_,rfl⟩
  have hv0:dval (kvN (S.length+1) zs i) z=none:=by rw [ziY nd i hi i z hz,if_neg (Nat.lt_irrefl i)]
  have e2:dput (kvN (S.length+1) zs i) z (.ref (S.length+1+i))=kvN (S.length+1) zs (i+1):=by
   unfold dput
   rw [zhU,hv0,if_neg (by simp)]
   show kvN (S.length+1) zs i++[(z,_)]=kvN (S.length+1) zs i++[(zs.getD i Str.empty,_)]
   rw [gz]
  have e3:lsC (List.replicate i [])++[Cell.lst []]=lsC (List.replicate (i+1) []):=by rw [List.replicate_succ'];exact (List.map_append (f:=fun ys:List Str=>Cell.lst (ys.map D.str)) (l₁:=List.replicate i []) (l₂:=[[]])).symm
  rw [e2,<- e3];rfl
 ·rintro ρ S' ⟨_,w4,rfl,rfl⟩
  rw [List.length_map]
  obtain⟨kv,hkv⟩:∃ kv,kv=kvN (S.length+1) zs zs.length:=⟨_,rfl⟩
  have vl:∀ (j:Nat) z,zs[j]?=some z->dval kv z=some (.ref (S.length+1+j)):=fun j z hz=>by rw [hkv,ziY nd _ (Nat.le_refl _) j z hz,if_pos (zai hz)]
  rw [<- hkv]
  clear hkv
  walk_at "g"
  refine⟨v,V,h,rfl,hv.old,ok,fun no=>absurd ⟨h0,h1⟩ no,fun _ _ T n qs hq hn ln=>?_⟩
  have hmem:∀ p∈prs zs,p.1∈V.bs.map (·.1)/\p.2∈V.bs.map (·.1):=fun p hp=>hzs▸zcD hp
  rw [hzs] at hq
  have eq:=zsJ ok hmem hq
  have qnd:qs.Nodup:=eq▸(zjK nd).filter _
  have qp:∀ p∈qs,p∈prs zs/\zce V h p.1 p.2:=fun p hp=>by
   rw [eq] at hp
   obtain⟨h1,h2⟩:=List.mem_filter.mp hp
   exact⟨h1,zhK.mp h2⟩
  have qm:∀ p∈prs zs,zce V h p.1 p.2->p∈qs:=fun p hp had=>by rw [eq];exact List.mem_filter.mpr ⟨hp,zhK.mpr had⟩
  obtain⟨Ls0,hL0⟩:∃ Ls0:List (List Str),Ls0=List.replicate zs.length []:=⟨_,rfl⟩
  rw [<- hL0] at hn ln ⊢
  have n0:NrL zs [] Ls0:=⟨by rw [hL0];simp,fun ys hy=>by rw [hL0] at hy;rw [List.eq_of_mem_replicate hy];simp,fun j z ys hz hs y=>by
   rw [hL0] at hs
   rw [List.eq_of_mem_replicate (List.mem_of_getElem? hs)];simp⟩
  have lL0:=n0.len
  have kq:∀ Ls:List (List Str),Ls.length=zs.length->Lst (S++Cell.dk kv::(lsC Ls++T)) (.ref n) (qs.map p2s):=fun Ls hl=>by
   refine .inr ⟨n,rfl,?_⟩
   have ln':S.length+(1+zs.length)<=n:=by
    have:(S++Cell.dk kv::lsC Ls0).length=S.length+(1+zs.length):=by simp;omega
    omega
   obtain⟨k,rfl⟩:∃ k,n=S.length+(1+zs.length+k):=⟨n-(S.length+(1+zs.length)),by omega⟩
   rw [List.append_assoc,List.cons_append,zaU,show 1+zs.length+k=(zs.length+k)+1 by omega,List.getElem?_cons_succ,List.getElem?_append_right (by simp;omega)] at hn
   rw [zaU,show 1+zs.length+k=(zs.length+k)+1 by omega,List.getElem?_cons_succ,List.getElem?_append_right (by simp;omega)]
   rw [<- hn]
   congr 1
   simp;omega
  rw [show S++Cell.dk kv::lsC Ls0++T=S++Cell.dk kv::(lsC Ls0++T) by simp]
  have kq0:=kq Ls0 lL0
  clear hn hL0
  have bq:qs.length<=144:=by
   have h2:=List.length_filter_le (zmb V h) (prs zs)
   have h3:=zgV zs
   have:zs.length*zs.length<=12*12:=Nat.mul_le_mul b12 b12
   rw [eq];omega
  walk_at "g"
  refine zbq (fun i ρ S'=>∃ (Ls:List (List Str)) (w5 w6:Option D),S'=S++Cell.dk kv::(lsC Ls++T)/\ρ=[some v,some (.int h),some x,some (.ref S.length),w4,w5,w6]/\NrL zs (qs.take i) Ls) ⟨Ls0,_,_,rfl,rfl,by simpa using n0⟩ (fun i ρ S' ⟨Ls,_,_,e,_,w⟩=>e▸kq Ls w.len) ?_ ?_
  ·rintro i d ρ S' hd ⟨Ls,w5,w6,rfl,rfl,w⟩
   obtain⟨⟨a,b⟩,hp,rfl⟩:=ziX hd
   have mp:=List.mem_of_getElem? hp
   obtain⟨pp,_⟩:=qp _ mp
   obtain⟨ma,mb⟩:=zcD pp
   have nab:a≠b:=zka nd pp
   obtain⟨ia,hia,ea⟩:=List.mem_iff_getElem.mp ma
   obtain⟨ib,hib,eb⟩:=List.mem_iff_getElem.mp mb
   have ga:zs[ia]?=some a:=by rw [List.getElem?_eq_getElem hia,ea]
   have gb:zs[ib]?=some b:=by rw [List.getElem?_eq_getElem hib,eb]
   have wl:=w.len
   obtain⟨ya,hya⟩:∃ ya,Ls[ia]?=some ya:=⟨_,List.getElem?_eq_getElem (by omega)⟩
   have not1:(a,b)∉qs.take i:=fun z=>by
    obtain⟨j,hj,ej⟩:=List.mem_iff_getElem.mp z
    rw [List.getElem_take] at ej
    rw [List.length_take] at hj
    have li:=zai hp
    rw [List.getElem?_eq_getElem li] at hp
    have:=List.pairwise_iff_getElem.mp qnd j i (by omega) li (by omega)
    exact this (ej.trans (Option.some.inj hp).symm)
   have not2:(b,a)∉qs.take i:=fun z=>zkz nd pp (qp _ (List.mem_of_mem_take z)).1
   have no1:b∉ya:=fun z=>((w.iff ia a ya ga hya b).mp z).elim not1 not2
   have at1:∀ (Ls:List (List Str)) (j:Nat) (ys:List Str),Ls[j]?=some ys->(S++Cell.dk kv::(lsC Ls++T))[S.length+1+j]?=some (.lst (ys.map D.str)):=fun Ls j ys hj=>by
    rw [Nat.add_assoc,zaU,show 1+j=j+1 by omega,List.getElem?_cons_succ,List.getElem?_append_left (by rw [List.length_map];exact zai hj),List.getElem?_map,hj];rfl
   have put1:∀ (Ls:List (List Str)) (j:Nat) (ys:List Str),j<Ls.length->(S++Cell.dk kv::(lsC Ls++T)).set (S.length+1+j) (.lst (ys.map D.str))=S++Cell.dk kv::(lsC (Ls.set j ys)++T):=fun Ls j ys hj=>by
    rw [List.set_append_right _ _ (by omega),show S.length+1+j-S.length=j+1 by omega,List.set_cons_succ,List.set_append_left _ _ (by rw [List.length_map];exact hj),show lsC (Ls.set j ys)=(lsC Ls).set j (.lst (ys.map D.str)) from List.map_set]
   have lya:ya.length<=12:=Nat.le_trans (zeU (N:=zs) (w.nd ya (List.mem_of_getElem? hya)) fun y hy=>by
    rcases (w.iff ia a ya ga hya y).mp hy with z | z
    ·exact (zcD (qp _ (List.mem_of_mem_take z)).1).2
    ·exact (zcD (qp _ (List.mem_of_mem_take z)).1).1) b12
   walk_at "g"
   refine⟨_,DGt.k zaz (vl ia a ga),?_⟩
   refine zmu (at1 Ls ia ya hya) ?_
   walk_at "g"
   refine zh6 (at1 Ls ia ya hya) (by rw [List.length_map];unfold big;omega) ?_
   refine zeJ ?_
   rw [show ya.map D.str++[D.str b]=(ya++[b]).map D.str by rw [List.map_append];rfl,put1 _ _ _ (by omega)]
   obtain⟨yb,hyb⟩:∃ yb,(Ls.set ia (ya++[b]))[ib]?=some yb:=⟨_,List.getElem?_eq_getElem (by rw [List.length_set];omega)⟩
   have hyb':Ls[ib]?=some yb:=by rwa [List.getElem?_set_ne (fun e=>nab (by subst e;rw [ga] at gb;exact Option.some.inj gb))] at hyb
   have no2:a∉yb:=fun z=>((w.iff ib b yb gb hyb' a).mp z).elim not2 not1
   have lyb:yb.length<=12:=Nat.le_trans (zeU (N:=zs) (w.nd yb (List.mem_of_getElem? hyb')) fun y hy=>by
    rcases (w.iff ib b yb gb hyb' y).mp hy with z | z
    ·exact (zcD (qp _ (List.mem_of_mem_take z)).1).2
    ·exact (zcD (qp _ (List.mem_of_mem_take z)).1).1) b12
   walk_at "g"
   refine⟨_,DGt.k zaz (vl ib b gb),?_⟩
   refine zmu (at1 _ ib yb hyb) ?_
   walk_at "g"
   refine zh6 (at1 _ ib yb hyb) (by rw [List.length_map];unfold big;omega) ?_
   refine zeJ ?_
   rw [show yb.map D.str++[D.str a]=(yb++[a]).map D.str by rw [List.map_append];rfl,put1 _ _ _ (by rw [List.length_set];omega)]
   refine⟨_,_,_,rfl,rfl,?_⟩
   rw [zbe hp]
   have len2:((Ls.set ia (ya++[b])).set ib (yb++[a])).length=zs.length:=by rw [List.length_set,List.length_set];exact wl
   refine⟨len2,fun ys hy=>?_,fun j z ys hz hs y=>?_⟩
   ·have snd:∀ {l:List Str} {c:Str},l.Nodup->c∉l->(l++[c]).Nodup:=fun {l c} h1 h2=>by
     rw [List.nodup_append]
     refine⟨h1,by simp,fun u hu v' hv' e=>?_⟩
     have:v'=c:=by simpa using hv'
     subst this;subst e;exact h2 hu
    rcases List.mem_or_eq_of_mem_set hy with hy | rfl
    ·rcases List.mem_or_eq_of_mem_set hy with hy | rfl
     ·exact w.nd ys hy
     ·exact snd (w.nd _ (List.mem_of_getElem? hya)) no1
    ·exact snd (w.nd _ (List.mem_of_getElem? hyb')) no2
   ·have mem2:∀ u t:Str,(u,t)∈qs.take i++[(a,b)]↔(u,t)∈qs.take i\/(u=a/\t=b):=fun u t=>by rw [List.mem_append,List.mem_singleton,Prod.mk.injEq]
    rw [mem2,mem2]
    by_cases e2:ib=j
    ·subst e2
     rw [List.getElem?_set_self (by rw [List.length_set];omega)] at hs
     cases hs
     rw [gb] at hz;cases hz
     rw [List.mem_append,List.mem_singleton,w.iff ib b yb gb hyb' y]
     constructor
     ·rintro ((z | z) | z)
      ·exact .inl (.inl z)
      ·exact .inr (.inl z)
      ·exact .inr (.inr ⟨z,rfl⟩)
     ·rintro ((z | z) | (z | z))
      ·exact .inl (.inl z)
      ·exact absurd z.1.symm nab
      ·exact .inl (.inr z)
      ·exact .inr z.1
    ·rw [List.getElem?_set_ne e2] at hs
     by_cases e1:ia=j
     ·subst e1
      rw [List.getElem?_set_self (by omega)] at hs
      cases hs
      rw [ga] at hz;cases hz
      rw [List.mem_append,List.mem_singleton,w.iff ia a ya ga hya y]
      constructor
      ·rintro ((z | z) | z)
       ·exact .inl (.inl z)
       ·exact .inr (.inl z)
       ·exact .inl (.inr ⟨rfl,z⟩)
      ·rintro ((z | z) | (z | z))
       ·exact .inl (.inl z)
       ·exact .inr z.2
       ·exact .inl (.inr z)
       ·exact absurd z.2 nab
     ·rw [List.getElem?_set_ne e1] at hs
      rw [w.iff j z ys hz hs y]
      have nz1:z≠a:=fun e=>by subst e;exact e1 (zew nd ga hz)
      have nz2:z≠b:=fun e=>by subst e;exact e2 (zew nd gb hz)
      constructor
      ·exact fun z=>z.imp .inl .inl
      ·rintro ((z | z) | (z | z))
       ·exact .inl z
       ·exact absurd z.1 nz1
       ·exact .inr z
       ·exact absurd z.2 nz2
  ·rintro ρ S' ⟨Ls,w5,w6,rfl,rfl,w⟩
   rw [List.length_map,List.take_length] at w
   walk_at "g"
   refine fin_same (q _ _ ⟨S.length,kv,rfl,zaz,fun z hz=>?_⟩)
   rw [hzs] at hz
   obtain⟨j,hj,ej⟩:=List.mem_iff_getElem.mp hz
   have gj:zs[j]?=some z:=by rw [List.getElem?_eq_getElem hj,ej]
   have wl:=w.len
   obtain⟨ys,hys⟩:∃ ys,Ls[j]?=some ys:=⟨_,List.getElem?_eq_getElem (by omega)⟩
   refine⟨S.length+1+j,ys,vl j z gj,?_,w.nd ys (List.mem_of_getElem? hys),fun y=>?_⟩
   ·rw [Nat.add_assoc,zaU,show 1+j=j+1 by omega,List.getElem?_cons_succ,List.getElem?_append_left (by rw [List.length_map];exact zai hys),List.getElem?_map,hys];rfl
   ·rw [w.iff j z ys gj hys y]
    constructor
    ·rintro (z' | z')
     ·obtain⟨p1,p2⟩:=qp _ z'
      exact⟨(zka nd p1).symm,p2⟩
     ·obtain⟨p1,p2⟩:=qp _ z'
      exact⟨zka nd p1,zk5 p2⟩
    ·rintro⟨ne,ad⟩
     have my:=(zgY ad).2
     rw [hzs] at my
     rcases zpg hz my (Ne.symm ne) with z' | z'
     ·exact .inl (qm _ z' ad)
     ·exact .inr (qm _ z' (zk5 ad))
def zcp:DSp:=fun ds S Q=>∃ (x:D) (zs:List Str) (y:D) (V:Vl) (h:Int),ds=[x,y]/\Lst S x (zs.map D.str)/\zcd V/\V.bs.map (·.1)=zs/\zbu S y V h/\∀ (T:Sto) (n:Nat) (ps:List (Str×Str)),(∀ p∈ps,p.1∈zs/\p.2∈zs/\p.1≠p.2/\¬ zce V h p.1 p.2)->ps.length<=144->(S++T)[n]?=some (.lst (ps.map p2s))->Q (.ref n) (S++T)
def zdP:DS :=
    (zH (zQ (zcM zA) (zB 2))
 (zH (zcs (zbi (zf 0)) (zB 3) (zaJ (dM zhV (zf 2) (zm (dLC 1 [3,1] (zbi (zf 0)) (zB 0) (zhB (dT (dOp oNe (zf 0) (zf 1))) (dT (dOp zgs (zf 0) (zhE (zf 2) (zf 1))))) (dTup (zm (zf 1) (zm (zf 0) zA)))) zA))))
 (zY (zf 2))))
theorem zjQ:∀ ds So Q,zcp ds So Q->ds.length=2:=by rintro ds So Q ⟨_,_,_,_,_,rfl,_⟩;rfl
theorem zk2:BodyOk 4 zdP zcp:=by
 rintro ds S Q ⟨x,zs,y,V,h,rfl,hx,ok,hzs,hn,q⟩
 unfold zdP
 have b12:zs.length<=12:=by rw [<- hzs,List.length_map];exact ok.b12
 have flz:∀ z∈zs,fl 20 (.str z)=true:=hzs▸ok.flN
 have hx1:∀ T,Lst (S++T) x (zs.map D.str):=fun T=>hx.old
 walk_at "g"
 have hx2:=hx1 [.lst []]
 walk_at "g"
 walk_at "drho"
 refine zbq (fun i ρ S'=>∃ (ps:List (Str×Str)) (G:Sto) (w3:Option D),S'=S++Cell.lst (ps.map p2s)::G/\ρ=[some x,some y,some (.ref S.length),w3]/\ps.length<=12*i/\∀ p∈ps,p.1∈zs/\p.2∈zs/\p.1≠p.2/\¬ zce V h p.1 p.2) ⟨[],[],none,rfl,rfl,by simp,by simp⟩ (fun i ρ S' ⟨_,_,_,e,_⟩=>e▸hx.old) ?_ ?_
 ·rintro i d ρ S' hd ⟨ps,G,w3,rfl,rfl,hl,hp⟩
  obtain⟨a,ha,rfl⟩:=zbS hd
  have ma:=List.mem_of_getElem? ha
  have li:=zai ha
  obtain⟨m,ys,hg,hm,ynd,hy⟩:=zbu.get (hn.old (T:=Cell.lst (ps.map p2s)::G)) (hzs.symm▸ma)
  have fly:∀ z∈ys,fl 20 (.str z)=true:=fun z hz=>flz z (hzs▸(zgY ((hy z).mp hz).2).2)
  have kx:=hx1 (Cell.lst (ps.map p2s)::G)
  obtain⟨S1,hS1⟩:∃ S1:Sto,S1=S++Cell.lst (ps.map p2s)::G:=⟨_,rfl⟩
  walk_at "g"
  rw [<- hS1] at kx hg hm ⊢
  refine zbk (onP fun z=>decide (z≠a/\z∉ys)) (onS fun z=>p2s (a,z)) kx (by rw [List.length_map];unfold big;omega) (fun j d zs' hd' hw=>?_) ?_
  ·obtain⟨z,hz,rfl⟩:=zbS hd'
   have mz:=List.mem_of_getElem? hz
   walk_at "g"
   refine zgB (flz z mz) (flz a ma) ?_
   walk_at "g"
   refine zeY (fun e=>?_) (fun e=>?_)
   ·walk_at "g"
    refine⟨_,hg,?_⟩
    refine zgl (.inr (Lst.here hm)) (flz z mz) fly ?_
    walk_at "g"
    refine zeY (fun e2=>?_) (fun e2=>?_)
    ·walk_at "g"
     exact zcH hd' hw (decide_eq_true ⟨e,e2⟩) rfl
    ·walk_at "g"
     exact zmi hd' hw (decide_eq_false fun w=>w.2 e2)
   ·walk_at "g"
    exact zmi hd' hw (decide_eq_false fun w=>w.1 e)
  have ef:((zs.map D.str).filter (onP fun z=>decide (z≠a/\z∉ys))).map (onS fun z=>p2s (a,z))=((zs.filter fun z=>decide (z≠a/\z∉ys)).map fun z=>(a,z)).map p2s:=by
   rw [List.filter_map,List.map_map,List.map_map];rfl
  rw [ef]
  obtain⟨rs,hrs⟩:∃ rs:List (Str×Str),rs=(zs.filter fun z=>decide (z≠a/\z∉ys)).map fun z=>(a,z):=⟨_,rfl⟩
  have lr:rs.length<=12:=by rw [hrs,List.length_map];exact Nat.le_trans (List.length_filter_le _ _) b12
  have mr:∀ p∈rs,p.1∈zs/\p.2∈zs/\p.1≠p.2/\¬ zce V h p.1 p.2:=fun p hp'=>by
   rw [hrs] at hp'
   obtain⟨z,hz,rfl⟩:=List.mem_map.mp hp'
   obtain⟨mz,e⟩:=List.mem_filter.mp hz
   have e:=of_decide_eq_true e
   exact⟨ma,mz,Ne.symm e.1,fun ad=>e.2 ((hy z).mpr ⟨e.1,ad⟩)⟩
  rw [<- hrs,hS1]
  clear hrs ef
  refine zc5 ?_
  walk_at "g"
  refine znx (xs:=ps.map p2s) (ys:=rs.map p2s) zaz zfq (by simp) (by rw [List.length_map,List.length_map];unfold big;omega) ?_
  walk_at "g"
  refine⟨ps++rs,_,_,by rw [List.map_append],rfl,by rw [List.length_append];omega,fun p hp'=>?_⟩
  rcases List.mem_append.mp hp' with z | z
  ·exact hp p z
  ·exact mr p z
 ·rintro ρ S' ⟨ps,G,w3,rfl,rfl,hl,hp⟩
  rw [List.length_map] at hl
  walk_at "g"
  exact fin_same (q _ _ ps hp (by omega) zaz)
def zcV:DSp:=fun ds S Q=>∃ (x:D) (ps:List (Str×Str)) (t m:Int),ds=[x,.int t,.int m]/\Lst S x (ps.map p2s)/\0<=m/\m<=10/\∀ qs:List (Str×Str),(∀ q∈qs,q∈ps)->New Q S (qs.map p2s)
def zea:DS :=
  (zY (dLC 1 [0,1] (zeS (zm (dB zhf (zm (zf 2) (zm (dB za0 (zm (zf 0) zA)) zA))) zA)) (zB 0) zbv (dOp oIx (zf 1) (dOp oMod (dOp zaD (dOp oDiv (zf 2) (dC (.int 6))) (dOp zbt (dC (.int 5)) (zf 0))) (dB za0 (zm (zf 1) zA))))))
theorem zkP:∀ ds So Q,zcV ds So Q->ds.length=3:=by rintro ds So Q ⟨_,_,_,_,rfl,_⟩;rfl
theorem zlv:BodyOk 3 zea zcV:=by
 rintro ds S Q ⟨x,ps,t,m,rfl,hx,h0,h1,q⟩
 unfold zea
 walk_at "g"
 rw [List.length_map]
 refine⟨_,rfl,by omega,by omega,?_⟩
 refine ziL (fun i ys S'=>S'=S/\∃ qs:List (Str×Str),ys=qs.map p2s/\∀ q∈qs,q∈ps) ⟨rfl,[],rfl,by simp⟩ (fun _ _ _ _=>True.intro) (by rw [zcb];unfold big;omega) ?_ ?_
 ·rintro i d ys S' hd ⟨rfl,qs,rfl,hq⟩
  obtain⟨hi,rfl⟩:=zen hd
  have hp:0<ps.length:=by omega
  have cm:zaH 5 (0+(i:Int)):=.inr (.inl (by decide))
  have m1:=Int.emod_nonneg (t/6+5*(0+(i:Int))) (show ((ps.length:Nat):Int)≠0 by omega)
  have m2:=Int.emod_lt_of_pos (t/6+5*(0+(i:Int))) (show (0:Int)<((ps.length:Nat):Int) by omega)
  have hpl:(0:Int)<((ps.map p2s).length:Nat):=by rw [List.length_map];omega
  walk_at "g"
  rw [List.length_map]
  obtain⟨j,hj⟩:∃ j:Nat,(t/6+5*(0+(i:Int)))%(ps.length:Int)=(j:Nat):=⟨_,(Int.toNat_of_nonneg m1).symm⟩
  rw [hj] at m2 ⊢
  have gj:ps[j]?=some (ps[j]'(by omega)):=List.getElem?_eq_getElem (by omega)
  have aj:atD (ps.map p2s) (j:Int)=some (p2s (ps[j]'(by omega))):=zbQ (by rw [List.getElem?_map,gj];rfl)
  walk_at "g"
  refine⟨rfl,qs++[ps[j]'(by omega)],by rw [List.map_append];rfl,fun p hp'=>?_⟩
  rcases List.mem_append.mp hp' with z | z
  ·exact hq p z
  ·have:p=_:=List.mem_singleton.mp z
   rw [this];exact List.mem_of_getElem? gj
 rintro ys S' ⟨rfl,qs,rfl,hq⟩
 exact fin_same (q qs hq)
def zcT:DSp:=fun ds S Q=>∃ (y:D) (V:Vl) (h:Int) (a b:Str) (m:Int),ds=[y,.str a,.str b,.int m]/\zcd V/\zbu S y V h/\a∈V.bs.map (·.1)/\b∈V.bs.map (·.1)/\∀ (T:Sto) (k:Nat) (us:List Str),(∀ u∈us,u∈V.bs.map (·.1))->1<=us.length->us.length<=20->(S++T)[k]?=some (.lst (us.map D.str))->S.length<=k->Q (.ref k) (S++T)
def zeh:DS :=
    (zH (zQ (zcM (zm (zf 1) zA)) (zB 4))
 (zH (zcs (zeS (zm (dC (.int 9)) zA)) (zB 5) (zH (zQ (dCall zaK (zm (zf 3) (zm (dC (.int 75)) zA))) (zB 3))
 (zH (zQ (dLC 1 [4] (zbi (zhE (zf 0) (dOp oIx (zf 4) (dUn zd6 (dC (.int 1)))))) (zB 0) (dT (dOp zgs (zf 0) (zf 1))) (zf 0)) (zB 6))
 (zH (sIf (dT (dOp oIn (zf 2) (zf 6))) (zY (dOp zaD (zf 4) (zcM (zm (zf 2) zA)))) zZ)
 (sIf (dT (dOp oGt (dB za0 (zm (zf 6) zA)) (dC (.int 0)))) (zaJ (dM zdB (zf 4) (zm (dOp oIx (zf 6) (dOp oMod (dOp oDiv (zf 3) (dC (.int 7))) (dB za0 (zm (zf 6) zA)))) zA))) zZ)))))
 (zY (zf 4))))
theorem zkC:∀ ds So Q,zcT ds So Q->ds.length=4:=by rintro ds So Q ⟨_,_,_,_,_,_,rfl,_⟩;rfl
theorem zli:BodyOk 7 zeh zcT:=by
 rintro ds S Q ⟨y,V,h,a,b,m,rfl,ok,hn,ma,mb,q⟩
 unfold zeh
 have flz:=ok.flN
 have b12:(V.bs.map (·.1)).length<=12:=by rw [List.length_map];exact ok.b12
 walk_at "g"
 walk_at "drho"
 refine⟨_,rfl,by decide,by decide,?_⟩
 refine zbq (fun i ρ S'=>∃ (us:List Str) (G:Sto) (m:Int) (w5 w6:Option D),S'=S++Cell.lst (us.map D.str)::G/\ρ=[some y,some (.str a),some (.str b),some (.int m),some (.ref S.length),w5,w6]/\1<=us.length/\us.length<=1+i/\∀ u∈us,u∈V.bs.map (·.1)) ⟨[a],[],m,_,_,rfl,rfl,by simp,by simp,fun u hu=>by rw [List.mem_singleton.mp hu];exact ma⟩ (fun _ _ _ _=>True.intro) ?_ ?_
 ·rintro i d ρ S' hd ⟨us,G,m,w5,w6,rfl,rfl,l1,l2,mu⟩
  obtain⟨hi,rfl⟩:=zen hd
  have hi9:i<9:=by omega
  have fu:∀ u∈us,fl 20 (.str u)=true:=fun u hu=>flz u (mu u hu)
  obtain⟨ul,gl⟩:∃ ul,us[us.length-1]?=some ul:=⟨_,List.getElem?_eq_getElem (by omega)⟩
  have al:atD (us.map D.str) (-1)=some (.str ul):=zhD (by rw [List.getElem?_map,List.length_map,gl];rfl)
  obtain⟨mi,ys,hg,hmi,ynd,hy⟩:=zbu.get (hn.old (T:=Cell.lst (us.map D.str)::G)) (mu ul (List.mem_of_getElem? gl))
  have my:∀ w∈ys,w∈V.bs.map (·.1):=fun w hw=>(zgY ((hy w).mp hw).2).2
  have ly:ys.length<=12:=Nat.le_trans (zeU ynd my) b12
  have ku:Lst (S++Cell.lst (us.map D.str)::G) (.ref S.length) (us.map D.str):=Lst.at0
  have ky:Lst (S++Cell.lst (us.map D.str)::G) (.ref mi) (ys.map D.str):=Lst.here hmi
  walk_at "g"
  refine⟨m,75,rfl,by decide,by decide,fun m2 _ _=>?_⟩
  walk_at "g"
  refine⟨_,hg,?_⟩
  walk_at "g"
  refine zbk (onP fun w=>decide (w∉us)) id ky (by rw [List.length_map];unfold big;omega) (fun j d zs' hd' hw=>?_) ?_
  ·obtain⟨w,hw',rfl⟩:=zbS hd'
   walk_at "g"
   refine zgl (.inr ku) (flz w (my w (List.mem_of_getElem? hw'))) fu ?_
   walk_at "g"
   refine zeY (fun e=>?_) (fun e=>?_)
   ·walk_at "g"
    exact zcH hd' hw (decide_eq_true e) rfl
   ·exact zmi hd' hw (decide_eq_false fun w=>w e)
  have ef:((ys.map D.str).filter (onP fun w=>decide (w∉us))).map id=(ys.filter fun w=>decide (w∉us)).map D.str:=by
   rw [List.map_id,List.filter_map];rfl
  rw [ef]
  obtain⟨rs,hrs⟩:∃ rs:List Str,rs=ys.filter fun w=>decide (w∉us):=⟨_,rfl⟩
  have mr:∀ w∈rs,w∈V.bs.map (·.1):=fun w hw=>my w (List.mem_filter.mp (hrs▸hw)).1
  rw [<- hrs]
  clear hrs ef
  refine zc5 ?_
  walk_at "g"
  have kr:Lst (S++(Cell.lst (us.map D.str)::G++[Cell.lst (rs.map D.str)])) (.ref (S.length+(Cell.lst (us.map D.str)::G).length)) (rs.map D.str):=Lst.new
  refine ziD (.inr kr) (flz b mb) (fun w hw=>flz w (mr w hw)) ?_
  walk_at "g"
  refine r_d (fun e=>?_) (fun e=>?_)
  ·walk_at "g"
   refine zn0 (xs:=us.map D.str) (ys:=[.str b]) Lst.at0 Lst.new (by rw [List.length_map];show us.length+1<=big;unfold big;omega) ?_
   rw [show us.map D.str++[D.str b]=(us++[b]).map D.str by rw [List.map_append];rfl]
   refine zc5 (fin_same (q _ _ (us++[b]) (fun u hu=>?_) (by simp) (by simp;omega) zfq (by omega)))
   rcases List.mem_append.mp hu with hu | hu
   ·exact mu u hu
   ·rw [List.mem_singleton.mp hu];exact mb
  ·walk_at "g"
   rw [List.length_map]
   refine r_d (fun e1=>?_) (fun e1=>?_)
   ·have e2:(0:Int)<((rs.map D.str).length:Nat):=by rw [List.length_map];omega
    walk_at "g"
    rw [List.length_map]
    have m0:=Int.emod_nonneg (m2/7) (show ((rs.length:Nat):Int)≠0 by omega)
    have m1:=Int.emod_lt_of_pos (m2/7) (show (0:Int)<((rs.length:Nat):Int) by omega)
    obtain⟨j,hj⟩:∃ j:Nat,m2/7%(rs.length:Int)=(j:Nat):=⟨_,(Int.toNat_of_nonneg m0).symm⟩
    rw [hj] at m1 ⊢
    obtain⟨rj,gj⟩:∃ rj,rs[j]?=some rj:=⟨_,List.getElem?_eq_getElem (by omega)⟩
    have aj:atD (rs.map D.str) (j:Int)=some (.str rj):=zbQ (by rw [List.getElem?_map,gj];rfl)
    have hlim:(us.map D.str).length<big:=by rw [List.length_map];unfold big;omega
    walk_at "g"
    refine⟨us++[rj],_,_,_,_,by rw [List.map_append];rfl,rfl,by simp,by simp;omega,fun u hu=>?_⟩
    rcases List.mem_append.mp hu with hu | hu
    ·exact mu u hu
    ·rw [List.mem_singleton.mp hu];exact mr rj (List.mem_of_getElem? gj)
   ·walk_at "g"
    exact⟨us,_,_,_,_,rfl,rfl,l1,by omega,mu⟩
 ·rintro ρ S' ⟨us,G,m,w5,w6,rfl,rfl,l1,l2,mu⟩
  rw [zcb] at l2
  walk_at "g"
  exact fin_same (q _ _ us mu l1 (by omega) zaz (Nat.le_refl _))
def ChS (S S':Sto)(k:Nat)(us:List Str):Prop:=(∃ T,S'=S++T)/\S'[k]?=some (.lst (us.map D.str))/\S.length<=k/\us.length<=21/\∀ u∈us,fl 20 (.str u)=true
theorem ChS.set {S S':Sto}{k:Nat}{us vs:List Str}(w:ChS S S' k us)(lv:vs.length<=21)(fv:∀ u∈vs,fl 20 (.str u)=true):ChS S (S'.set k (.lst (vs.map D.str))) k vs:=by
 obtain⟨⟨T,rfl⟩,hk,lk,_,_⟩:=w
 exact⟨⟨_,zm2 lk⟩,List.getElem?_set_self (zai hk),lk,lv,fv⟩
theorem zjG {α β:Type}(f:α->β):∀ (k:Nat) (xs:List α),(xs.map f).eraseIdx k=(xs.eraseIdx k).map f
 | _,[]=>rfl
 | 0,_::_=>rfl
 | k+1,x::xs=>congrArg (f x::·) (zjG f k xs)
def zbX:DSp:=fun ds S Q=>∃ (x y:D) (us zs:List Str) (m:Int),ds=[x,y,.int m]/\Lst S x (us.map D.str)/\Lst S y (zs.map D.str)/\1<=us.length/\us.length<=20/\1<=zs.length/\zs.length<=12/\(∀ u∈us,fl 20 (.str u)=true)/\(∀ u∈zs,fl 20 (.str u)=true)/\∀ (S':Sto) (k:Nat) (vs:List Str),ChS S S' k vs->Q (.ref k) S'
def zc2:DS :=
    (zH (zQ (dB zga (zm (zf 0) zA)) (zB 3))
 (zH (zQ (dOp oMod (dOp oDiv (zf 2) (dC (.int 8))) (dB za0 (zm (zf 3) zA))) (zB 4))
 (zH (zQ (dOp oMod (zf 2) (dC (.int 8))) (zB 5))
 (zH (sJ (sIf (dT (dOp oEq (zf 5) (dC (.int 1)))) (zaJ (dM zmD (zf 3) (zm (zf 4) zA))) zZ))
 (zH (sJ (sIf (dT (dOp oEq (zf 5) (dC (.int 2)))) (zaJ (dM zgX (zf 3) (zm (zf 4) (zm (dOp oIx (zf 3) (dOp oMod (dOp oDiv (zf 2) (dC (.int 100))) (dB za0 (zm (zf 3) zA)))) zA)))) zZ))
 (zH (sJ (sIf (dT (dOp oEq (zf 5) (dC (.int 3)))) (zQ (dOp oIx (dOp zaD (zf 1) (zcM (zm (dC (.str "nobody")) (zm (dC (.str "")) zA)))) (dOp oMod (dOp oDiv (zf 2) (dC (.int 100))) (dOp zaD (dB za0 (zm (zf 1) zA)) (dC (.int 2))))) (ziT (zf 3) (zf 4))) zZ))
 (zH (sJ (sIf (dT (dOp oEq (zf 5) (dC (.int 4)))) (zaJ (dM zgX (zf 3) (zm (zf 4) (zm (dOp oIx (zf 1) (dOp oMod (dOp oDiv (zf 2) (dC (.int 100))) (dB za0 (zm (zf 1) zA)))) zA)))) zZ))
 (zH (sJ (sIf (dT (dOp oEq (zf 5) (dC (.int 5)))) (zaJ (dM zhR (zf 3) zA)) zZ))
 (zY (zf 3))))))))))
theorem ziC:∀ ds So Q,zbX ds So Q->ds.length=3:=by rintro ds So Q ⟨_,_,_,_,_,rfl,_⟩;rfl
theorem zi4:BodyOk 6 zc2 zbX:=by
  rintro ds S Q ⟨x,y,us,zs,m,rfl,hx,hy,l1,l2,z1,z2,fu,fz,q⟩
  unfold zc2
  have e0:(0:Int)<((us.map D.str).length:Nat):=by rw [List.length_map];omega
  walk_at "g"
  rw [List.length_map]
  have a0:=Int.emod_nonneg (m/8) (show ((us.length:Nat):Int)≠0 by omega)
  have a1:=Int.emod_lt_of_pos (m/8) (show (0:Int)<((us.length:Nat):Int) by omega)
  obtain⟨at',hat⟩:∃ at':Nat,m/8%(us.length:Int)=(at':Nat):=⟨_,(Int.toNat_of_nonneg a0).symm⟩
  rw [hat] at a1 ⊢
  clear a0 hat
  obtain⟨way,hway⟩:∃ way,way=m%8:=⟨_,rfl⟩
  rw [<- hway]
  walk_at "drho"
  refine r_J (fun ρ S'=>∃ (vs:List Str),ChS S S' S.length vs/\vs.length<=20/\(way=1\/at'<vs.length)/\ρ=[some x,some y,some (.int m),some (.ref S.length),some (.int at'),some (.int way)]) ?_ ?_
  · have w0:ChS S (S++[Cell.lst (us.map D.str)]) S.length us:=⟨⟨_,rfl⟩,zaz,Nat.le_refl _,by omega,fu⟩
    walk_at "g"
    refine r_d (fun e=>?_) (fun e=>?_)
    · obtain⟨u,hu⟩:∃ u,us[at']?=some u:=⟨_,List.getElem?_eq_getElem (by omega)⟩
      walk_at "g"
      refine zsl zaz (by omega) (y:=.str u) (by rw [List.getElem?_map,hu];rfl) (zeJ ?_)
      rw [show (us.map D.str).eraseIdx at'=(us.eraseIdx at').map D.str from zjG D.str at' us]
      refine⟨us.eraseIdx at',w0.set (Nat.le_trans (List.length_eraseIdx_le ..) (by omega)) (fun w hw=>fu w (List.mem_of_mem_eraseIdx hw)),Nat.le_trans (List.length_eraseIdx_le ..) l2,.inl e,rfl⟩
    · walk_at "g"
      exact⟨us,w0,l2,.inr (by omega),rfl⟩
  clear e0 hx
  rintro ρ S' ⟨vs,w,lv,hw,rfl⟩
  walk_at "g"
  refine r_J (fun ρ S'=>∃ (vs:List Str),ChS S S' S.length vs/\(way=1\/at'<vs.length)/\(vs.length<=20\/way=2)/\ρ=[some x,some y,some (.int m),some (.ref S.length),some (.int at'),some (.int way)]) ?_ ?_
  · walk_at "g"
    refine r_d (fun e=>?_) (fun e=>?_)
    · have kv:Lst S' (.ref S.length) (vs.map D.str):=Lst.here w.2.1
      have hat:at'<vs.length:=hw.resolve_left (by omega)
      have e1:(0:Int)<((vs.map D.str).length:Nat):=by rw [List.length_map];omega
      have hS:=w.2.1
      walk_at "g"
      rw [List.length_map]
      have m0:=Int.emod_nonneg (m/100) (show ((vs.length:Nat):Int)≠0 by omega)
      have m1:=Int.emod_lt_of_pos (m/100) (show (0:Int)<((vs.length:Nat):Int) by omega)
      obtain⟨j,hj⟩:∃ j:Nat,m/100%(vs.length:Int)=(j:Nat):=⟨_,(Int.toNat_of_nonneg m0).symm⟩
      rw [hj] at m1 ⊢
      obtain⟨u,gu⟩:∃ u,vs[j]?=some u:=⟨_,List.getElem?_eq_getElem (by omega)⟩
      have aj:atD (vs.map D.str) (j:Int)=some (.str u):=zbQ (by rw [List.getElem?_map,gu];rfl)
      walk_at "g"
      refine zkj w.2.1 (by omega) (by rw [List.length_map];omega) (by rw [List.length_map];unfold big;omega) (zeJ ?_)
      rw [<- List.map_take,<- List.map_drop,show (List.map D.str (vs.take (at':Int).toNat)++D.str u::List.map D.str (vs.drop (at':Int).toNat))=(vs.take at'++u::vs.drop at').map D.str by rw [List.map_append,List.map_cons,Int.toNat_natCast]]
      have lnew:(vs.take at'++u::vs.drop at').length=vs.length+1:=by simp;omega
      refine⟨_,w.set (vs:=vs.take at'++u::vs.drop at') (by omega) (fun t ht=>?_),.inr (by omega),.inr e,rfl⟩
      rcases List.mem_append.mp ht with ht | ht
      · exact w.2.2.2.2 t (List.mem_of_mem_take ht)
      · rcases List.mem_cons.mp ht with rfl | ht
        · exact w.2.2.2.2 t (List.mem_of_getElem? gu)
        · exact w.2.2.2.2 t (List.mem_of_mem_drop ht)
    · walk_at "g"
      exact⟨vs,w,hw,.inl lv,rfl⟩
  clear w lv hw vs S'
  rintro ρ S' ⟨vs,w,hw,lv,rfl⟩
  walk_at "g"
  refine r_J (fun ρ S'=>∃ (vs:List Str),ChS S S' S.length vs/\(way=1\/at'<vs.length)/\(vs.length<=20\/way=2)/\ρ=[some x,some y,some (.int m),some (.ref S.length),some (.int at'),some (.int way)]) ?_ ?_
  · walk_at "g"
    refine r_d (fun e=>?_) (fun e=>?_)
    · have hat:at'<vs.length:=hw.resolve_left (by omega)
      obtain⟨⟨T,rfl⟩,hk,_,_,fv⟩:=id w
      have ky:Lst (S++T) y (zs.map D.str):=hy.old
      walk_at "g"
      have ky2:Lst (S++(T++[Cell.lst [D.str "nobody",D.str ""]])) y (zs.map D.str):=hy.old
      refine zn0 (xs:=zs.map D.str) (ys:=[.str "nobody",.str ""]) ky2 Lst.new (by rw [List.length_map];show zs.length+2<=big;unfold big;omega) ?_
      rw [show zs.map D.str++[D.str "nobody",D.str ""]=(zs++(["nobody",""]:List Str)).map D.str by rw [List.map_append];rfl]
      have fz2:∀ u∈zs++(["nobody",""]:List Str),fl 20 (.str u)=true:=fun u hu=>by
        rcases List.mem_append.mp hu with hu | hu
        · exact fz u hu
        · have:u="nobody"\/u="":=by simpa using hu
          rcases this with rfl | rfl<;>decide +kernel
      have lz2:(zs++(["nobody",""]:List Str)).length=zs.length+2:=by simp
      generalize zs++(["nobody",""]:List Str)=z3 at fz2 lz2
      have ky3:Lst (S++(T++[Cell.lst [D.str "nobody",D.str ""]]++[Cell.lst (z3.map D.str)])) y (zs.map D.str):=hy.old
      walk_at "g"
      rw [List.length_map]
      have m0:=Int.emod_nonneg (m/100) (show ((zs.length:Nat):Int)+2≠0 by omega)
      have m1:=Int.emod_lt_of_pos (m/100) (show (0:Int)<((zs.length:Nat):Int)+2 by omega)
      obtain⟨j,hj⟩:∃ j:Nat,m/100%((zs.length:Int)+2)=(j:Nat):=⟨_,(Int.toNat_of_nonneg m0).symm⟩
      rw [hj] at m1 ⊢
      obtain⟨u,gu⟩:∃ u,z3[j]?=some u:=⟨_,List.getElem?_eq_getElem (by omega)⟩
      have aj:atD (z3.map D.str) (j:Int)=some (.str u):=zbQ (by rw [List.getElem?_map,gu];rfl)
      walk_at "g"
      have hk3:(S++(T++[Cell.lst [D.str "nobody",D.str ""]]++[Cell.lst (z3.map D.str)]))[S.length]?=some (.lst (vs.map D.str)):=by
        rw [<- List.append_assoc,<- List.append_assoc];exact zan (zan hk)
      refine zpX hk3 (j:=at') (by unfold ixD;rw [List.length_map,if_pos (by omega),if_pos (by omega)];rfl) (zeJ ?_)
      rw [show (vs.map D.str).set at' (.str u)=(vs.set at' u).map D.str from List.map_set.symm]
      have w3:ChS S (S++(T++[Cell.lst [D.str "nobody",D.str ""]]++[Cell.lst (z3.map D.str)])) S.length vs:=⟨⟨_,rfl⟩,hk3,w.2.2⟩
      refine⟨_,w3.set (vs:=vs.set at' u) (by rw [List.length_set];exact w.2.2.2.1) (fun t ht=>?_),.inr (by rw [List.length_set];exact hat),by rw [List.length_set];exact lv,rfl⟩
      rcases List.mem_or_eq_of_mem_set ht with ht | rfl
      · exact fv t ht
      · exact fz2 _ (List.mem_of_getElem? gu)
    · walk_at "g"
      exact⟨vs,w,hw,lv,rfl⟩
  clear w lv hw vs S'
  rintro ρ S' ⟨vs,w,hw,lv,rfl⟩
  walk_at "g"
  refine r_J (fun ρ S'=>∃ (vs:List Str),ChS S S' S.length vs/\ρ=[some x,some y,some (.int m),some (.ref S.length),some (.int at'),some (.int way)]) ?_ ?_
  · walk_at "g"
    refine r_d (fun e=>?_) (fun e=>?_)
    · have hat:at'<vs.length:=hw.resolve_left (by omega)
      obtain⟨⟨T,rfl⟩,hk,_,_,fv⟩:=id w
      have ky:Lst (S++T) y (zs.map D.str):=hy.old
      have e1:(0:Int)<((zs.map D.str).length:Nat):=by rw [List.length_map];omega
      walk_at "g"
      rw [List.length_map]
      have m0:=Int.emod_nonneg (m/100) (show ((zs.length:Nat):Int)≠0 by omega)
      have m1:=Int.emod_lt_of_pos (m/100) (show (0:Int)<((zs.length:Nat):Int) by omega)
      obtain⟨j,hj⟩:∃ j:Nat,m/100%(zs.length:Int)=(j:Nat):=⟨_,(Int.toNat_of_nonneg m0).symm⟩
      rw [hj] at m1 ⊢
      obtain⟨u,gu⟩:∃ u,zs[j]?=some u:=⟨_,List.getElem?_eq_getElem (by omega)⟩
      have aj:atD (zs.map D.str) (j:Int)=some (.str u):=zbQ (by rw [List.getElem?_map,gu];rfl)
      walk_at "g"
      refine zkj hk (by omega) (by rw [List.length_map];omega) (by rw [List.length_map];unfold big;omega) (zeJ ?_)
      rw [<- List.map_take,<- List.map_drop,show (List.map D.str (vs.take (at':Int).toNat)++D.str u::List.map D.str (vs.drop (at':Int).toNat))=(vs.take at'++u::vs.drop at').map D.str by rw [List.map_append,List.map_cons,Int.toNat_natCast]]
      refine⟨_,w.set (vs:=vs.take at'++u::vs.drop at') (by simp;omega) (fun t ht=>?_),rfl⟩
      rcases List.mem_append.mp ht with ht | ht
      · exact fv t (List.mem_of_mem_take ht)
      · rcases List.mem_cons.mp ht with rfl | ht
        · exact fz t (List.mem_of_getElem? gu)
        · exact fv t (List.mem_of_mem_drop ht)
    · walk_at "g"
      exact⟨vs,w,rfl⟩
  clear w lv hw vs S'
  rintro ρ S' ⟨vs,w,rfl⟩
  walk_at "g"
  refine r_J (fun ρ S'=>∃ (vs:List Str),ChS S S' S.length vs/\ρ=[some x,some y,some (.int m),some (.ref S.length),some (.int at'),some (.int way)]) ?_ ?_
  · walk_at "g"
    refine r_d (fun e=>?_) (fun e=>?_)
    · have hk:=w.2.1
      walk_at "g"
      refine zng hk (zeJ ?_)
      rw [<- List.map_reverse]
      exact⟨_,w.set (vs:=vs.reverse) (by rw [List.length_reverse];exact w.2.2.2.1) (fun t ht=>w.2.2.2.2 t (List.mem_reverse.mp ht)),rfl⟩
    · walk_at "g"
      exact⟨vs,w,rfl⟩
  clear w vs S'
  rintro ρ S' ⟨vs,w,rfl⟩
  walk_at "g"
  exact fin_same (q _ _ vs w)
def zbs:DSp:=fun ds S Q=>∃ (v:D) (V:Vl) (h:Int) (a b:Str),ds=[v,.int h,.str a,.str b]/\VAt S v V/\zcd V/\a∈V.bs.map (·.1)/\b∈V.bs.map (·.1)/\V.h0<=h/\h<=V.h1/\¬ zce V h a b/\Q .non S
def zcg:DS :=
  (sIf (dT (dOp oIs (zbF zcu xF (zm (zf 0) (zm (zf 2) (zm (zf 3) (zm (zf 1) zA))))) (dC .non))) zbR zZ)
theorem zhp:∀ ds So Q,zbs ds So Q->ds.length=4:=by rintro ds So Q ⟨_,_,_,_,_,rfl,_⟩;rfl
theorem zh2:BodyOk 4 zcg zbs:=by
  rintro ds S Q ⟨v,V,h,a,b,rfl,hv,ok,ma,mb,h0,h1,no,q⟩
  unfold zcg
  obtain⟨ba,hba,rfl⟩:=List.mem_map.mp ma
  obtain⟨bb,hbb,rfl⟩:=List.mem_map.mp mb
  walk_at "g"
  refine⟨v,V,_,_,h,rfl,hv,ok,ok.flN _ ma,ok.flN _ mb,fun n=>?_,fun s t hs ht=>⟨fun n=>absurd ⟨h0,h1⟩ n,fun _ _ e he=>?_⟩⟩
  · rcases n with n | n
    · exact n _ hba rfl
    · exact n _ hbb rfl
  have en:zbf e=false:=by
    have e1:zbf e=true↔e=.non:=by cases e<;>simp [zbf]
    cases hg:zbf e with
    | false=>rfl
    | true=>exact absurd ⟨s,t,hs,ht,he.non.mp (e1.mp hg)⟩ no
  walk_at "g"
  rw [en]
  walk_at "g"
  exact fin_same q
def zaY:DSp:=fun ds S Q=>∃ (v:D) (V:Vl) (h:Int) (a b:Str) (x:D) (us:List Str),ds=[v,.int h,.str a,.str b,x]/\VAt S v V/\zcd V/\a∈V.bs.map (·.1)/\b∈V.bs.map (·.1)/\V.h0<=h/\h<=V.h1/\¬ zce V h a b/\Lst S x (us.map D.str)/\us.length<=100/\(∀ u∈us,fl 20 (.str u)=true)/\∀ (T:Sto) (r:Bool),(r=true↔zkh V h a b us)->Q (.bl r) (S++T)
def zc1:DS :=
    (zH (zaJ (dCall zbs (zm (zf 0) (zm (zf 1) (zm (zf 2) (zm (zf 3) zA))))))
 (zH (zQ (dCall zb9 (zm (zf 0) zA)) (zB 5))
 (zH (sIf (dOr (dT (dOp oEq (dB za0 (zm (zf 4) zA)) (dC (.int 0)))) (dOr (dT (dOp oNe (dOp oIx (zf 4) (dC (.int 0))) (zf 2))) (dT (dOp oNe (dOp oIx (zf 4) (dUn zd6 (dC (.int 1)))) (zf 3))))) (zY (dC (.bl false))) zZ)
 (zH (sIf (dOr (dT (dOp oLt (dB zjZ (zm (zf 4) zA)) (dB za0 (zm (zf 4) zA)))) (zdp (dT (dB zet (zm (dLC 1 [5] (zbi (zf 4)) (zB 0) zbv (dOp oIn (zf 0) (zf 1))) zA))))) (zY (dC (.bl false))) zZ)
 (zY (dB zet (zm (dLC 1 [0,4,1] (zj0 (zm (dC (.int 1)) (zm (dB za0 (zm (zf 4) zA)) zA))) (zB 0) zbv (dOp oIs (zbF zcu xF (zm (zf 1) (zm (dOp oIx (zf 2) (dOp zaS (zf 0) (dC (.int 1)))) (zm (dOp oIx (zf 2) (zf 0)) (zm (zf 3) zA))))) (dC .non))) zA)))))))
theorem zie:∀ ds So Q,zaY ds So Q->ds.length=5:=by rintro ds So Q ⟨_,_,_,_,_,_,_,rfl,_⟩;rfl
theorem zji:BodyOk 6 zc1 zaY:=by
  rintro ds S Q ⟨v,V,h,a,b,x,us,rfl,hv,ok,ma,mb,h0,h1,no,hx,lx,fu,q⟩
  unfold zc1
  have b12:=ok.b12
  have flz:=ok.flN
  have bad:∀ T,¬ zkh V h a b us->Q (.bl false) (S++T):=fun T n=>q T false ⟨fun z=>absurd z (by decide),fun z=>absurd z n⟩
  walk_at "g"
  refine⟨v,V,h,a,b,rfl,hv,ok,ma,mb,h0,h1,no,?_⟩
  walk_at "g"
  refine⟨v,V,rfl,hv,by omega,?_⟩
  have hmem:∀ z∈V.bs.map (·.1),∃ s,(z,s)∈V.bs:=fun z hz=>by
    obtain⟨b,hb,rfl⟩:=List.mem_map.mp hz
    exact⟨b.2,hb⟩
  obtain⟨zs,hzs⟩:∃ zs,zs=V.bs.map (·.1):=⟨_,rfl⟩
  rw [<- hzs] at hmem flz ma mb ⊢
  have kx:Lst (S++[Cell.lst (zs.map D.str)]) x (us.map D.str):=hx.old
  have kz:Lst (S++[Cell.lst (zs.map D.str)]) (.ref S.length) (zs.map D.str):=Lst.at0
  walk_at "g"
  rw [List.length_map]
  cases us with
  | nil =>
    walk_at "g"
    exact fin_same (bad _ fun z=>by have:=z.1;simp at this)
  | cons u0 us' =>
    obtain⟨us,hus⟩:∃ us,us=u0::us':=⟨_,rfl⟩
    have g0:us[0]?=some u0:=by rw [hus];rfl
    have lp:0<us.length:=by rw [hus];simp
    rw [<- hus] at kx fu lx bad q ⊢
    refine r_d (fun e=>absurd e (by omega)) (fun _=>?_)
    have a0:atD (us.map D.str) 0=some (.str u0):=zbQ (i:=0) (by rw [List.getElem?_map,g0];rfl)
    walk_at "g"
    refine zgB (fu u0 (List.mem_of_getElem? g0)) (flz a ma) ?_
    walk_at "g"
    refine zeY (fun e=>?_) (fun e=>?_)
    · walk_at "g"
      exact fin_same (bad _ fun z=>by have:=z.1;rw [g0] at this;exact e (Option.some.inj this))
    subst e
    obtain⟨ul,gl⟩:∃ ul,us[us.length-1]?=some ul:=⟨_,List.getElem?_eq_getElem (by omega)⟩
    have al:atD (us.map D.str) (-1)=some (.str ul):=zhD (by rw [List.getElem?_map,List.length_map,gl];rfl)
    walk_at "g"
    refine zgB (fu ul (List.mem_of_getElem? gl)) (flz b mb) ?_
    walk_at "g"
    refine zeY (fun e=>?_) (fun e=>?_)
    · walk_at "g"
      exact fin_same (bad _ fun z=>by have:=z.2.1;rw [gl] at this;exact e (Option.some.inj this))
    subst e
    walk_at "g"
    refine zny kx (by omega) ?_
    walk_at "g"
    rw [List.length_map]
    refine r_d (fun e=>?_) (fun e=>?_)
    · walk_at "g"
      exact fin_same (bad _ fun z=>zlV.mp (by omega) z.2.2.1)
    have und:us.Nodup:=Classical.byContradiction fun n=>e (by have:=zlV.mpr n;omega)
    walk_at "g"
    refine zbk (fun _=>true) (onS fun z=>.bl (decide (z∈zs))) kx (by rw [List.length_map];unfold big;omega) (fun i d ys hd hw=>?_) ?_
    · obtain⟨z,hz,rfl⟩:=zbS hd
      walk_at "g"
      refine ziD (.inr kz) (fu z (List.mem_of_getElem? hz)) flz ?_
      exact zcH hd hw rfl rfl
    rw [filter_true,zjb,show (us.map fun z=>D.bl (decide (z∈zs)))=(us.map fun z=>decide (z∈zs)).map D.bl by rw [List.map_map];rfl]
    walk_at "g"
    refine zj5 (Lst.at (k:=1) rfl) ?_
    walk_at "g"
    cases hg:(us.map fun z=>decide (z∈zs)).all id with
    | false =>
      walk_at "g"
      refine fin_same (bad _ fun z=>?_)
      have:(us.map fun z=>decide (z∈zs)).all id=true:=by
        rw [List.all_map,List.all_eq_true]
        intro w hw
        exact decide_eq_true (hzs▸z.2.2.2.1 w hw)
      rw [hg] at this;cases this
    | true =>
      have hall:∀ u∈us,u∈zs:=fun u hu=>by
        rw [List.all_map,List.all_eq_true] at hg
        exact of_decide_eq_true (hg u hu)
      have kx2:Lst (S++[Cell.lst (zs.map D.str),.lst ((us.map fun z=>decide (z∈zs)).map D.bl)]) x (us.map D.str):=by rw [hus];exact hx.old
      generalize ([Cell.lst (zs.map D.str),.lst ((us.map fun z=>decide (z∈zs)).map D.bl)]:Sto)=T1 at kx2
      walk_at "g"
      rw [List.length_map]
      refine⟨_,_,rfl,?_⟩
      refine ziL (fun i ys S'=>S'=S++T1/\∃ bs:List Bool,ys=bs.map D.bl/\(bs.all id=true↔∀ (k:Nat) x y,k<i->us[k]?=some x->us[k+1]?=some y->zce V h x y)) ⟨rfl,[],rfl,⟨fun _ k x y hk=>by omega,fun _=>rfl⟩⟩ (fun _ _ _ _=>True.intro) (by rw [zcb];unfold big;omega) ?_ ?_
      · rintro i d ys S' hd ⟨rfl,bs,rfl,hbs⟩
        obtain⟨hi,rfl⟩:=zen hd
        have hi':i+1<us.length:=by omega
        have g1:us[i]?=some (us[i]'(by omega)):=List.getElem?_eq_getElem (by omega)
        have g2:us[i+1]?=some (us[i+1]'hi'):=List.getElem?_eq_getElem hi'
        generalize us[i]'(by omega)=w1 at g1
        generalize us[i+1]'hi'=w2 at g2
        have aa1:atD (us.map D.str) (1+(i:Int)-1)=some (.str w1):=by
          rw [show (1:Int)+(i:Int)-1=((i:Nat):Int) by omega]
          exact zbQ (by rw [List.getElem?_map,g1];rfl)
        have aa2:atD (us.map D.str) (1+(i:Int))=some (.str w2):=by
          rw [show (1:Int)+(i:Int)=((i+1:Nat):Int) by omega]
          exact zbQ (by rw [List.getElem?_map,g2];rfl)
        have mw1:=List.mem_of_getElem? g1
        have mw2:=List.mem_of_getElem? g2
        obtain⟨s1,hs1⟩:=hmem w1 (hall w1 mw1)
        obtain⟨s2,hs2⟩:=hmem w2 (hall w2 mw2)
        walk_at "g"
        refine⟨v,V,w1,w2,h,rfl,hv.old,ok,fu w1 mw1,fu w2 mw2,fun n=>?_,fun s t hs ht=>⟨fun n=>absurd ⟨h0,h1⟩ n,fun _ _ e he=>?_⟩⟩
        · rcases n with n | n
          · exact n _ hs1 rfl
          · exact n _ hs2 rfl
        have en:zbf e=true↔zce V h w1 w2:=by
          have e1:zbf e=true↔e=.non:=by cases e<;>simp [zbf]
          rw [e1,he.non]
          constructor
          · intro w;exact⟨s,t,hs,ht,w⟩
          · rintro⟨s',t',hs',ht',w⟩
            have es:s'=s:=congrArg Prod.snd (zfw ok hs' hs rfl)
            have et:t'=t:=congrArg Prod.snd (zfw ok ht' ht rfl)
            subst es et;exact w
        walk_at "g"
        refine⟨rfl,bs++[zbf e],by rw [List.map_append];rfl,?_⟩
        rw [List.all_append,Bool.and_eq_true,hbs]
        show (_/\(zbf e&&true)=true)↔_
        rw [Bool.and_true,en]
        constructor
        · rintro⟨w,w'⟩ k x y hk gx gy
          rcases Nat.lt_or_ge k i with g | g
          · exact w k x y g gx gy
          · have:k=i:=by omega
            subst this
            rw [g1] at gx;rw [g2] at gy
            cases gx;cases gy;exact w'
        · intro w
          exact⟨fun k x y hk=>w k x y (by omega),w i w1 w2 (by omega) g1 g2⟩
      rintro ys S' ⟨rfl,bs,rfl,hbs⟩
      rw [zcb] at hbs
      refine zc5 ?_
      walk_at "g"
      refine zj5 Lst.new ?_
      refine fin_same (q _ _ ?_)
      rw [hbs]
      constructor
      · intro w
        exact⟨g0,gl,und,fun u hu=>hzs▸hall u hu,fun k x y gx gy=>w k x y (by have:=zai gy;omega) gx gy⟩
      · intro w k x y _ gx gy
        exact w.2.2.2.2 k x y gx gy
def zcX:DSp:=fun ds S Q=>∃ (y:D) (V:Vl) (h:Int) (a b:Str) (n:Nat) (us:List Str),ds=[y,.str a,.str b,.ref n]/\zcd V/\zbu S y V h/\fl 20 (.str a)=true/\fl 20 (.str b)=true/\a≠b/\S[n]?=some (.lst (us.map D.str))/\us.length<=100/\(∀ u∈us,u∈V.bs.map (·.1))/\∀ (T:Sto) (r:Bool),(r=true↔zkh V h a b us)->Q (.bl r) (S++T)
def zeb:DS :=
    (zH (sIf (dOr (zdp (dT (dB zdM (zm (zf 3) (zm (dC (.ty "list")) zA))))) (dOr (dT (dOp oLt (dB za0 (zm (zf 3) zA)) (dC (.int 2)))) (dOr (dT (dOp oNe (dOp oIx (zf 3) (dC (.int 0))) (zf 1))) (dT (dOp oNe (dOp oIx (zf 3) (dUn zd6 (dC (.int 1)))) (zf 2)))))) (zY (dC (.bl false))) zZ)
 (zH (zcs (zeL (zm (zf 3) zA)) (zcf 2 (zag (zB 4) (zag (zB 5) zcc))) (sIf (dOr (zdp (dT (dB zdM (zm (zf 5) (zm (dC (.ty "str")) zA))))) (dOr (dT (dOp oIn (zf 5) (dSl zgS (zf 3) none (some (zf 4))))) (zhB (dT (dOp oGt (zf 4) (dC (.int 0)))) (dT (dOp zgs (zf 5) (zhE (zf 0) (dOp oIx (zf 3) (dOp zaS (zf 4) (dC (.int 1)))))))))) (zY (dC (.bl false))) zZ))
 (zY (dC (.bl true)))))
theorem zkw:∀ ds So Q,zcX ds So Q->ds.length=4:=by rintro ds So Q ⟨_,_,_,_,_,_,_,rfl,_⟩;rfl
theorem zlE:BodyOk 6 zeb zcX:=by
 rintro ds S Q ⟨y,V,h,a,b,n,us,rfl,ok,hn,fa,fb,nab,hx,lx,mu,q⟩
 unfold zeb
 have flz:=ok.flN
 have fu:∀ u∈us,fl 20 (.str u)=true:=fun u hu=>flz u (mu u hu)
 have bad:∀ T,¬ zkh V h a b us->Q (.bl false) (S++T):=fun T n=>q T false ⟨fun z=>absurd z (by decide),fun z=>absurd z n⟩
 have bad0:¬ zkh V h a b us->Q (.bl false) S:=fun n=>by simpa using bad [] n
 have kx:Lst S (.ref n) (us.map D.str):=Lst.here hx
 walk_at "g"
 rw [List.length_map]
 refine r_d (fun e=>?_) (fun e=>?_)
 ·walk_at "g"
  refine fin_same (bad0 fun z=>?_)
  have h1:=z.1
  have h2:=z.2.1
  have l0:=zai h1
  rw [show us.length-1=0 by omega,h1] at h2
  exact nab (Option.some.inj h2)
 obtain⟨u0,g0⟩:∃ u0,us[0]?=some u0:=⟨_,List.getElem?_eq_getElem (by omega)⟩
 obtain⟨ul,gl⟩:∃ ul,us[us.length-1]?=some ul:=⟨_,List.getElem?_eq_getElem (by omega)⟩
 have a0:atD (us.map D.str) 0=some (.str u0):=zbQ (i:=0) (by rw [List.getElem?_map,g0];rfl)
 have al:atD (us.map D.str) (-1)=some (.str ul):=zhD (by rw [List.getElem?_map,List.length_map,gl];rfl)
 walk_at "g"
 refine zgB (fu u0 (List.mem_of_getElem? g0)) fa ?_
 walk_at "g"
 refine zeY (fun e=>?_) (fun e=>?_)
 ·walk_at "g"
  exact fin_same (bad0 fun z=>by have:=z.1;rw [g0] at this;exact e (Option.some.inj this))
 subst e
 walk_at "g"
 refine zgB (fu ul (List.mem_of_getElem? gl)) fb ?_
 walk_at "g"
 refine zeY (fun e=>?_) (fun e=>?_)
 ·walk_at "g"
  exact fin_same (bad0 fun z=>by have:=z.2.1;rw [gl] at this;exact e (Option.some.inj this))
 subst e
 walk_at "g"
 walk_at "drho"
 refine zi0 (xs:=us.map D.str) kx ?_
 refine zbq (fun i ρ S'=>∃ (T:Sto) (w4 w5:Option D),S'=S++T/\ρ=[some y,some (.str u0),some (.str ul),some (.ref n),w4,w5]/\(us.take i).Nodup/\∀ (k:Nat) x y,k+1<i->us[k]?=some x->us[k+1]?=some y->zce V h x y) ⟨[],none,none,by simp,rfl,by simp,fun k x y hk=>by omega⟩ (fun i ρ S' ⟨T,_,_,e,_⟩=>e▸kx.old) ?_ ?_
 ·rintro i d ρ S' hd ⟨T,w4,w5,rfl,rfl,und,hadj⟩
  obtain⟨yy,hy,rfl⟩:=zbH hd
  obtain⟨u,hu,rfl⟩:=zbS hy
  have hi:=zai hu
  rw [Nat.zero_add]
  have kx1:Lst (S++T) (.ref n) (us.map D.str):=kx.old
  walk_at "g"
  rw [zep,zf8 _ (by omega) (by omega),Int.toNat_natCast]
  refine ziD (.inr Lst.new) (fu u (List.mem_of_getElem? hu)) (fun z hz=>fu z (List.mem_of_mem_take hz)) ?_
  walk_at "g"
  refine r_d (fun e=>?_) (fun e=>?_)
  ·walk_at "g"
   refine fin_same (bad _ fun z=>?_)
   obtain⟨j,hj,ej⟩:=List.mem_iff_getElem.mp e
   rw [List.length_take] at hj
   rw [List.getElem_take] at ej
   have:=zew z.2.2.1 (List.getElem?_eq_getElem (show j<us.length by omega)) (by rw [ej];exact hu)
   omega
  have und':(us.take (i+1)).Nodup:=by
   rw [zbe hu,List.nodup_append]
   refine⟨und,by simp,fun x hx' y' hy' e'=>?_⟩
   have:y'=u:=by simpa using hy'
   subst this;subst e';exact e hx'
  walk_at "g"
  refine r_d (fun e1=>?_) (fun e1=>?_)
  ·obtain⟨w,hw⟩:∃ w,us[i-1]?=some w:=⟨_,List.getElem?_eq_getElem (by omega)⟩
   have aw:atD (us.map D.str) ((i:Int)-1)=some (.str w):=by
    rw [show (i:Int)-1=((i-1:Nat):Int) by omega]
    exact zbQ (by rw [List.getElem?_map,hw];rfl)
   have kx2:Lst (S++(T++[Cell.lst ((us.take i).map D.str)])) (.ref n) (us.map D.str):=kx.old
   walk_at "g"
   obtain⟨m,ys,hg,hm,ynd,hyy⟩:=zbu.get (hn.old (T:=T++[Cell.lst ((us.take i).map D.str)])) (mu w (List.mem_of_getElem? hw))
   refine⟨_,hg,?_⟩
   refine zgl (.inr (Lst.here hm)) (fu u (List.mem_of_getElem? hu)) (fun z hz=>flz z (zgY ((hyy z).mp hz).2).2) ?_
   walk_at "g"
   refine zeY (fun e2=>?_) (fun e2=>?_)
   ·walk_at "g"
    refine fin_same (bad _ fun z=>e2 ((hyy u).mpr ⟨fun e3=>?_,z.2.2.2.2 (i-1) w u hw (by rw [show i-1+1=i by omega];exact hu)⟩))
    subst e3
    have:=zew z.2.2.1 hw hu
    omega
   ·walk_at "g"
    refine⟨_,_,_,rfl,rfl,und',fun k x' y' hk gx gy=>?_⟩
    rcases Nat.lt_or_ge (k+1) i with g | g
    ·exact hadj k x' y' g gx gy
    ·have:k=i-1:=by omega
     subst this
     rw [show i-1+1=i by omega] at gy
     rw [hw] at gx;rw [hu] at gy
     cases gx;cases gy
     exact ((hyy _).mp e2).2
  ·walk_at "g"
   exact⟨_,_,_,rfl,rfl,und',fun k x' y' hk gx gy=>by omega⟩
 ·rintro ρ S' ⟨T,w4,w5,rfl,rfl,und,hadj⟩
  rw [zaQ,List.length_map] at und hadj
  rw [List.take_length] at und
  walk_at "g"
  refine fin_same (q _ true ⟨fun _=>⟨g0,gl,und,mu,fun k x y gx gy=>hadj k x y (zai gy) gx gy⟩,fun _=>rfl⟩)
def zj2:DS :=
    (zH (zQ (dCall zbp (zm (zf 0) zA)) (zB 1))
 (zH (zQ (dOp oIx (zf 1) (dC (.int 0))) (zB 2))
 (zH (zQ (dCall zb7 (zm (zf 1) zA)) (zB 3))
 (zH (zQ (dOp oMod (dCall zbl (zm (zf 0) (zm (dC (.int 1)) zA))) (dC (.int 1000000000000000000000000000000))) (zB 4))
 (zH (zQ (dOp zaD (zcy "first" (zf 3)) (dOp oMod (zf 4) (dC (.int 6)))) (zB 5))
 (zH (zQ (dCall zcU (zm (zf 3) (zm (zf 5) (zm (zf 2) zA)))) (zB 6))
 (zH (zcs (zbi (dCall zcV (zm (dCall zcp (zm (zf 2) (zm (zf 6) zA))) (zm (zf 4) (zm (dC (.int 4)) zA))))) (zcf 2 (zag (zB 7) (zag (zB 8) zcc))) (zH (zcs (zeS (zm (dC (.int 6)) zA)) (zB 9) (zH (zQ (dCall zaK (zm (zf 4) (zm (dOp zaD (dC (.int 80)) (zf 9)) zA))) (zB 10))
 (zH (zQ (dCall zbX (zm (dCall zcT (zm (zf 6) (zm (zf 7) (zm (zf 8) (zm (zf 10) zA))))) (zm (zf 2) (zm (dOp oDiv (zf 10) (dC (.int 1000000000))) zA)))) (zB 11))
 (zH (zQ (dCall zaY (zm (zf 3) (zm (zf 5) (zm (zf 7) (zm (zf 8) (zm (dB zga (zm (zf 11) zA)) zA)))))) (zB 12))
 (zH (sJ (zQ (zfB (dB zet (zm (dLC 1 [2] (zbi (zf 11)) (zB 0) zbv (dOp oIn (zf 0) (zf 1))) zA)) (dCall zcX (zm (zf 6) (zm (zf 7) (zm (zf 8) (zm (zf 11) zA)))))) (zB 13)))
 (sIf (dOr (zdp (dT (dB zdM (zm (zf 12) (zm (dC (.ty "bool")) zA))))) (dT (dOp oNe (zf 12) (zf 13)))) (zY (dC (.bl false))) zZ))))))
 (sIf (dOr (dT (dCall zaY (zm (zf 3) (zm (zf 5) (zm (zf 7) (zm (zf 8) (zm (zcM zA) zA))))))) (dT (dCall zaY (zm (zf 3) (zm (zf 5) (zm (zf 7) (zm (zf 8) (zm (zcM (zm (zf 7) zA)) zA)))))))) (zY (dC (.bl false))) zZ)))
 (zY (dC (.bl true))))))))))
theorem zr0:BodyOk 14 zj2 zez:=by
 rintro ds S Q ⟨ns,rfl,⟨_,hg⟩,hl,q⟩
 unfold zj2
 walk_at "g"
 refine⟨ns,rfl,hl,fun T a b c zs ps fs hz f w ha hb hc=>?_⟩
 walk_at "g"
 refine⟨a,b,c,zs,ps,fs,hz,f,rfl,w,ha,hb,hc,fun T2 v V hv ok hzs hf0 hf1=>?_⟩
 have ha2:Lst (S++T++T2) a (zs.map D.str):=ha.old
 generalize S++T++T2=S2 at hv ha2
 have l8:=w.l8
 have flz:=ok.flN
 have flz':∀ z∈zs,fl 20 (.str z)=true:=hzs▸flz
 walk_at "g"
 refine⟨ns,1,rfl,by decide,fun c1=>?_⟩
 obtain⟨vn,vg,vb,vf,rfl,hv1,hv2⟩:=id hv
 walk_at "g"
 have t0:=Int.emod_nonneg (c1%1000000000000000000000000000000) (b:=6) (by decide)
 have t1:=Int.emod_lt_of_pos (c1%1000000000000000000000000000000) (b:=6) (by decide)
 generalize c1%1000000000000000000000000000000=t at t0 t1
 have hh0:V.h0<=V.h0+t%6:=by omega
 have hh1:V.h0+t%6<=V.h1:=by omega
 generalize V.h0+t%6=hour at hh0 hh1
 refine⟨_,V,hour,a,zs,rfl,hv,ok,hzs,ha2,hh0,hh1,fun T3 y hn=>?_⟩
 have hv3:VAt (S2++T3) (.ref vn) V:=hv.old
 have ha3:Lst (S2++T3) a (zs.map D.str):=ha2.old
 generalize S2++T3=S3 at hn hv3 ha3
 clear hv ha2 hv1 hv2
 walk_at "g"
 refine⟨a,zs,y,V,hour,rfl,ha3,ok,hzs,hn,fun T4 n4 prs4 hp4 lp4 hn4=>?_⟩
 have hv4:VAt (S3++T4) (.ref vn) V:=hv3.old
 have ha4:Lst (S3++T4) a (zs.map D.str):=ha3.old
 have hn4':zbu (S3++T4) y V hour:=hn.old
 generalize S3++T4=S4 at hn4 hv4 ha4 hn4'
 clear hn hv3 ha3
 walk_at "g"
 refine⟨_,prs4,t,4,rfl,Lst.here hn4,by decide,by decide,fun qs hq=>?_⟩
 walk_at "g"
 walk_at "drho"
 have kq:∀ G,Lst (S4++Cell.lst (qs.map p2s)::G) (.ref S4.length) (qs.map p2s):=fun G=>Lst.at0
 refine zbq (fun i ρ S'=>∃ (G:Sto) (w7 w8 w9 w10 w11 w12 w13:Option D),S'=S4++Cell.lst (qs.map p2s)::G/\ρ=[some (.rl (ns.map D.int)),some (.tup [a,b,c,.int hz,.int f,.int (f+5)]),some a,some (.ref vn),some (.int t),some (.int hour),some y,w7,w8,w9,w10,w11,w12,w13]) ⟨[],_,_,_,_,_,_,_,rfl,rfl⟩ (fun i ρ S' ⟨G,_,_,_,_,_,_,_,e,_⟩=>e▸kq G) ?_ ?_
 ·rintro i d ρ S' hd ⟨G,w7,w8,w9,w10,w11,w12,w13,rfl,rfl⟩
  obtain⟨⟨one,two⟩,hp,rfl⟩:=ziX hd
  obtain⟨m1,m2,ne,nad⟩:=hp4 _ (hq _ (List.mem_of_getElem? hp))
  have m1':one∈V.bs.map (·.1):=hzs.symm▸m1
  have m2':two∈V.bs.map (·.1):=hzs.symm▸m2
  walk_at "g"
  refine⟨_,rfl,by decide,by decide,?_⟩
  refine zbq (fun i ρ S'=>∃ (G:Sto) (w9 w10 w11 w12 w13:Option D),S'=S4++Cell.lst (qs.map p2s)::G/\ρ=[some (.rl (ns.map D.int)),some (.tup [a,b,c,.int hz,.int f,.int (f+5)]),some a,some (.ref vn),some (.int t),some (.int hour),some y,some (.str one),some (.str two),w9,w10,w11,w12,w13]) ⟨G,_,_,_,_,_,rfl,rfl⟩ (fun _ _ _ _=>True.intro) ?_ ?_
  ·clear G
   rintro i2 d2 ρ S' hd2 ⟨G,w9,w10,w11,w12,w13,rfl,rfl⟩
   obtain⟨hi2,rfl⟩:=zen hd2
   have hv5:VAt (S4++Cell.lst (qs.map p2s)::G) (.ref vn) V:=hv4.old
   have ha5:Lst (S4++Cell.lst (qs.map p2s)::G) a (zs.map D.str):=ha4.old
   have hn5:zbu (S4++Cell.lst (qs.map p2s)::G) y V hour:=hn4'.old
   obtain⟨S5,hS5⟩:∃ S5,S5=S4++Cell.lst (qs.map p2s)::G:=⟨_,rfl⟩
   have e5:∃ G',S5=S4++Cell.lst (qs.map p2s)::G':=⟨G,hS5⟩
   rw [<- hS5] at hv5 ha5 hn5 ⊢
   clear hS5 G
   walk_at "g"
   refine⟨t,_,rfl,by omega,by omega,fun m _ _=>?_⟩
   walk_at "g"
   refine⟨y,V,hour,one,two,m,rfl,ok,hn5,m1',m2',fun T6 k6 us6 mu6 l61 l62 hk6 lk6=>?_⟩
   walk_at "g"
   refine⟨_,a,us6,zs,_,rfl,Lst.here hk6,ha5.old,l61,l62,by have:=w.l2;omega,by omega,fun u hu=>flz u (mu6 u hu),flz',fun S6 k us hus=>?_⟩
   obtain⟨⟨T7,eS6⟩,hk,lk,lu,fu⟩:=hus
   have e6':S6=S5++(T6++T7):=by rw [eS6,List.append_assoc]
   have hv6:VAt S6 (.ref vn) V:=e6'▸hv5.old
   have ha6:Lst S6 a (zs.map D.str):=e6'▸ha5.old
   have hn6:zbu S6 y V hour:=e6'▸hn5.old
   have e6:∃ G',S6=S4++Cell.lst (qs.map p2s)::G':=by
    obtain⟨G',rfl⟩:=e5
    exact⟨G'++(T6++T7),by rw [e6'];simp⟩
   clear eS6 e6' hk6 hv5 ha5 hn5 e5 lk
   have ku:Lst S6 (.ref k) (us.map D.str):=Lst.here hk
   walk_at "g"
   refine⟨_,V,hour,one,two,_,us,rfl,hv6.old,ok,m1',m2',hh0,hh1,nad,Lst.at0,by omega,fu,fun T8 r hr=>?_⟩
   rw [List.append_assoc]
   obtain⟨T9,hT9⟩:∃ T9:Sto,T9=[Cell.lst (us.map D.str)]++T8:=⟨_,rfl⟩
   rw [<- hT9]
   clear hT9
   walk_at "g"
   refine r_J (fun ρ S'=>∃ (T:Sto) (w13:Option D),S'=S6++T/\ρ=[some (.rl (ns.map D.int)),some (.tup [a,b,c,.int hz,.int f,.int (f+5)]),some a,some (.ref vn),some (.int t),some (.int hour),some y,some (.str one),some (.str two),some (.int (0+(i2:Int))),some (.int m),some (.ref k),some (.bl r),some (.bl r)]) ?_ ?_
   ·have ku9:Lst (S6++T9) (.ref k) (us.map D.str):=ku.old
    have ha9:Lst (S6++T9) a (zs.map D.str):=ha6.old
    walk_at "g"
    refine zbk (fun _=>true) (onS fun z=>.bl (decide (z∈zs))) ku9 (by rw [List.length_map];unfold big;omega) (fun i d ys hd hw=>?_) ?_
    ·obtain⟨z,hz',rfl⟩:=zbS hd
     walk_at "g"
     refine ziD (.inr ha9) (fu z (List.mem_of_getElem? hz')) flz' ?_
     exact zcH hd hw rfl rfl
    rw [filter_true,zjb,show (us.map fun z=>D.bl (decide (z∈zs)))=(us.map fun z=>decide (z∈zs)).map D.bl by rw [List.map_map];rfl]
    refine zc5 ?_
    walk_at "g"
    refine zj5 Lst.new ?_
    walk_at "g"
    cases hg':(us.map fun z=>decide (z∈zs)).all id with
    | false =>
     walk_at "g"
     have er:r=false:=by
      cases r with
      | false=>rfl
      | true =>
       have h4:=(hr.mp rfl).2.2.2.1
       have:(us.map fun z=>decide (z∈zs)).all id=true:=by
        rw [List.all_map,List.all_eq_true]
        intro u hu
        exact decide_eq_true (hzs▸h4 u hu)
       rw [hg'] at this;cases this
     subst er
     exact⟨_,none,rfl,rfl⟩
    | true =>
     have hall:∀ u∈us,u∈zs:=fun u hu=>by
      rw [List.all_map,List.all_eq_true] at hg'
      exact of_decide_eq_true (hg' u hu)
     walk_at "g"
     refine⟨y,V,hour,one,two,k,us,rfl,ok,hn6.old,flz' one m1,flz' two m2,ne,zan hk,by omega,fun u hu=>hzs.symm▸hall u hu,fun T10 r' hr'=>?_⟩
     have er:r'=r:=by rw [Bool.eq_iff_iff,hr,hr']
     subst er
     rw [List.append_assoc]
     walk_at "g"
     exact⟨_,none,rfl,rfl⟩
   rintro ρ S' ⟨T,_,rfl,rfl⟩
   walk_at "g"
   rw [show (r==r)=true by simp]
   walk_at "g"
   obtain⟨G',rfl⟩:=e6
   exact⟨G'++T,_,_,_,_,_,by simp,rfl⟩
  ·clear G
   rintro ρ S' ⟨G,w9,w10,w11,w12,w13,rfl,rfl⟩
   have hv5:VAt (S4++Cell.lst (qs.map p2s)::G) (.ref vn) V:=hv4.old
   obtain⟨S5,hS5⟩:∃ S5,S5=S4++Cell.lst (qs.map p2s)::G:=⟨_,rfl⟩
   have e5:∃ G',S5=S4++Cell.lst (qs.map p2s)::G':=⟨G,hS5⟩
   rw [<- hS5] at hv5 ⊢
   clear hS5 G
   walk_at "g"
   refine⟨_,V,hour,one,two,_,[],rfl,hv5.old,ok,m1',m2',hh0,hh1,nad,Lst.at0,by simp,by simp,fun T8 r hr=>?_⟩
   have er:r=false:=by
    cases r with
    | false=>rfl
    | true=>have:=(hr.mp rfl).1;simp at this
   subst er
   rw [List.append_assoc]
   walk_at "g"
   refine⟨_,V,hour,one,two,_,[one],rfl,hv5.old,ok,m1',m2',hh0,hh1,nad,Lst.new,by simp,fun u hu=>by rw [List.mem_singleton.mp hu];exact flz' one m1,fun T9 r hr=>?_⟩
   have er:r=false:=by
    cases r with
    | false=>rfl
    | true=>have:=(hr.mp rfl).2.1;exact absurd (Option.some.inj (show some one=some two from this)) ne
   subst er
   walk_at "g"
   obtain⟨G',rfl⟩:=e5
   exact⟨G'++([Cell.lst []]++T8++[Cell.lst [D.str one]])++T9,_,_,_,_,_,_,_,by simp,rfl⟩
 ·rintro ρ S' ⟨G,w7,w8,w9,w10,w11,w12,w13,rfl,rfl⟩
  walk_at "g"
  exact fin_same (q _)
end Dp
namespace Law
open PySem PySem.Spec PyProof.Rows L2 My Dp
def top (i:Nat):Stmt:=PySem.Challenge.pw_beaconvale_k77_roads_walked.main.body.getD i (.Pass ⟨0,0,0,0⟩)
abbrev zd8:Stmt:=top 69
abbrev ze9:Stmt:=top 70
abbrev zeX:Stmt:=top 71
abbrev zdk:Stmt:=top 72
abbrev zb3:Stmt:=top 37
abbrev zbz:Stmt:=inClass (top 38) 0
abbrev zbZ:Stmt:=top 51
abbrev zgA:Stmt:=top 50
abbrev zcw:Stmt:=top 52
abbrev zkE:Stmt:=top 31
abbrev zi1:Stmt:=top 39
abbrev zdb:Stmt:=top 29
abbrev zfQ:Stmt:=top 30
abbrev zfc:Stmt:=top 33
abbrev zfb:Stmt:=top 40
abbrev zhW:Stmt:=top 41
abbrev zcP:Stmt:=top 53
abbrev zfS:Stmt:=top 12
abbrev zhX:Stmt:=top 23
abbrev zcN:Stmt:=top 54
abbrev zcr:Stmt:=top 55
abbrev zbC:Stmt:=inClass (top 56) 0
abbrev zeH:Stmt:=top 73
abbrev zda:Stmt:=top 60
abbrev zgb:Stmt:=top 57
abbrev zfF:Stmt:=top 58
abbrev zgy:Stmt:=top 59
abbrev zbV:Stmt:=top 42
abbrev zcK:Stmt:=top 43
abbrev zgq:Stmt:=top 32
abbrev zh4:Stmt:=top 44
abbrev zdd:Stmt:=top 61
abbrev zdw:Stmt:=top 62
abbrev zjp:Stmt:=top 24
abbrev zh9:Stmt:=top 25
abbrev zgO:Stmt:=top 26
abbrev zjg:Stmt:=top 27
abbrev zh3:Stmt:=top 63
abbrev zhG:Stmt:=top 64
abbrev zfD:Stmt:=top 74
abbrev ze3:Stmt:=top 76
abbrev zfY:Stmt:=top 81
abbrev zfX:Stmt:=top 79
abbrev zd7:Stmt:=top 80
abbrev zdo:Stmt:=top 66
abbrev zd5:Stmt:=top 67
abbrev zf0:Stmt:=top 78
abbrev zd9:Stmt:=top 82
section
variable {P:Program}{w:World}{K:W.Frag}{mg:Str->Option Value}{base:Heap}{f:Addr}{fd:FuncData}
variable (xg:mg "len"=none)
theorem ziU:zM ["script","k"] ["script","k"] (zF zd8):=zR
include xg in
theorem zjn (F:Fun K "_law_cell_at" "_law_cell_at" zd8 f fd):zW P w K mg base CX0 1 f fd ["script","k"] (upF K Dp.zbl):=by
  refine zU (b:=Dp.zc3) F ziU Dp.zim Dp.ziP (fun cdv A outer s H E hr=>?_)
  unfold Dp.zc3
  exact (zp (zV (zP zbD (zj 1) (zae zaw xg boot_len (zc (zj 0) zq))) (zy (zL (zG (zj 0) (zj 1)))) zN)
 (zy (zL zu)))
variable (xaj:Got P w K mg base 1 "_law_cell_at" ["script","k"] (upF K Dp.zbl))
theorem zeD:zM ["cell","k","big"] ["cell","k"] (zF ze9):=zR
theorem zkY (F:Fun K "_law_mixed" "_law_mixed" ze9 f fd):zW P w K mg base CX0 1 f fd ["cell","k"] (upF K Dp.zaK):=by
  refine zU (b:=Dp.zdV) F zeD Dp.zjU Dp.zkb (fun cdv A outer s H E hr=>?_)
  unfold Dp.zdV
  exact (zp (zJ (i:=2) zeD.nd (zaB (zal (zad (zj 0) (zeo 1000000000000000000000000000000000000000000000000000000000000 (by decide +kernel) ⟨by decide,by decide,by decide⟩)) zu) (zal zu (zaB (zaB zu (zj 1)) (zj 1)))))
 (zp (zJ (i:=2) zeD.nd (zal (zj 2) (zaB zu (zj 1))))
 (zy (zL (zad (zaB (zj 2) (zj 2)) (zal (zeo 1000000000000000000000000000000000000000000000000000000000000 (by decide +kernel) ⟨by decide,by decide,by decide⟩) zu))))))
variable (xaa:Got P w K mg base 1 "_law_mixed" ["cell","k"] (upF K Dp.zaK))
variable (xac:mg "range"=none)
variable (xq:mg "enumerate"=none)
theorem zck:zM ["cells","most","seeds","k","cell","at"] ["cells","most"] (zF zeX):=zR
include xaa xac xq in
theorem zk9 (F:Fun K "_law_seeds" "_law_seeds" zeX f fd):zW P w K mg base CX0 2 f fd ["cells","most"] (upF K Dp.zct):=by
  refine zU (b:=Dp.zdQ) F zck Dp.zjT Dp.zkB (fun cdv A outer s H E hr=>?_)
  unfold Dp.zdQ
  exact (zp (zdK (i:=2) zck.nd (own:=["k"]) (free:=[]) (fv:=[]) True.intro True.intro (zhk xac (zc (zj 1) zq)) ⟨(zX 0 (by decide)),fun _ _ _ _ _=>(zaf (i:=0) (show List.Nodup (["k"]:List Str) by decide +kernel) rfl (Or.inl rfl) (Or.inr rfl))⟩ (fun _ _ _ _ _=>zaO) (fun _ _ _ _ _=>(zO xaa hr (zc (zj 0) (zc zu zq)))))
 (zp (zaX (zbT rfl xq (zc (zj 0) zq)) (zdE (n:=2) rfl (zar (zab (i:=3) zck.nd) (zar (zab (i:=4) zck.nd) zdG))) (zp (zJ (i:=5) zck.nd (zad (zj 3) (zj 1)))
 (zy (zi2 (zO xaa hr (zc (zal (zG (zj 2) (zj 5)) (zad (zj 4) (zeo 1000000000000000000000000000000000000000000000000000000000000 (by decide +kernel) ⟨by decide,by decide,by decide⟩))) (zc (zad (zj 3) zu) zq))) (zl2 (zj 2) (zj 5))))))
 (zy (zL (zj 2)))))
variable (xda:Got P w K mg base 2 "_law_seeds" ["cells","most"] (upF K Dp.zct))
theorem zac:zM ["script","head","count","seeds","spots","names","haze","first","fogs","seed","m","begin","box"] ["script"] (zF zdk):=zR
include xaj xaa xq xda in
theorem zh1 (F:Fun K "_law_web_parts" "_law_web_parts" zdk f fd):zW P w K mg base CX0 3 f fd ["script"] (upF K Dp.zbp):=by
  refine zU (b:=Dp.zcj) F zac Dp.zhr Dp.zhY (fun cdv A outer s H E hr=>?_)
  unfold Dp.zcj
  exact (zp (zJ (i:=1) zac.nd (zad (zO xaj hr (zc (zj 0) (zc zu zq))) (zeo 1000000000000000000000000000000 (by decide +kernel) ⟨by decide,by decide,by decide⟩)))
 (zp (zJ (i:=2) zac.nd (zal zu (zad (zj 1) zu)))
 (zp (zJ (i:=3) zac.nd (zO xda hr (zc (zgZ (zj 0) (zek zu) zeq) (zc zu zq))))
 (zp (zdK (i:=4) zac.nd (own:=["seed"]) (free:=[]) (fv:=[]) True.intro True.intro (zaA (zgZ (zj 3) zeq (zek (zj 2)))) ⟨(zX 0 (by decide)),fun _ _ _ _ _=>(zaf (i:=0) (show List.Nodup (["seed"]:List Str) by decide +kernel) rfl (Or.inl rfl) (Or.inr rfl))⟩ (fun _ _ _ _ _=>zaO) (fun _ _ _ _ _=>(zam (zc (zad (zas (zj 0) zu) zu) (zc (zad (zas (zj 0) zu) zu) zq)))))
 (zp (zdK (i:=5) zac.nd (own:=["k","seed"]) (free:=[]) (fv:=[]) True.intro True.intro (zbT rfl xq (zc (zgZ (zj 3) zeq (zek (zj 2))) zq)) ⟨(zex (zaI (zX 0 (by decide)) (zaI (zX 1 (by decide)) zd1))),fun _ _ _ _ _=>(zfh (n:=2) rfl (za8 (zaf (i:=0) (show List.Nodup (["k","seed"]:List Str) by decide +kernel) rfl (Or.inl rfl) (Or.inr rfl)) (za8 (zaf (i:=1) (show List.Nodup (["k","seed"]:List Str) by decide +kernel) rfl (Or.inl rfl) (Or.inr rfl)) zem)))⟩ (fun _ _ _ _ _=>zaO) (fun _ _ _ _ _=>(zal (zG zbG (zj 0)) (zG (zbI (zc zbG (zc zbG (zc zbG (zc zbG zq))))) (zad (zas (zj 1) zu) zu)))))
 (zp (zJ (i:=6) zac.nd (zG (zbI (zc zu (zc zu (zc zu (zc zu (zc zu (zc zu zq))))))) (zad (zas (zj 1) zu) zu)))
 (zp (zJ (i:=7) zac.nd (zak (zad (zas (zj 1) zu) zu) zu))
 (zp (zJ (i:=8) zac.nd (zbI zq))
 (zp (zaX (zaA (zgZ (zj 3) zeq (zek (zad (zas (zj 1) zu) zu)))) (zab (i:=9) zac.nd) (zp (zJ (i:=10) zac.nd (zO xaa hr (zc (zj 9) (zc zu zq))))
 (zp (zJ (i:=11) zac.nd (zal (zj 7) (zad (zas (zj 10) zu) zu)))
 (zp (zJ (i:=12) zac.nd (zam (zc (zad (zas (zj 10) zu) zu) (zc (zal (zad (zas (zj 10) zu) zu) (zad (zas (zj 10) zu) zu)) (zc (zad (zas (zj 10) zu) zu) (zc (zal (zad (zas (zj 10) zu) zu) (zad (zas (zj 10) zu) zu)) zq))))))
 (zy (zah (zfG PySem.F.slot_list_append PySem.F.type_list_append zd0 (zj 8) (zc (zal (zj 12) (zam (zc (zj 11) (zc (zal (zj 11) (zad (zas (zj 10) zu) zu)) (zc (zak (zad (zas (zj 10) zu) zu) zu) (zc zu zq)))))) zq))))))))
 (zy (zL (zam (zc (zj 5) (zc (zj 4) (zc (zj 8) (zc (zj 6) (zc (zj 7) (zc (zal (zj 7) zu) zq))))))))))))))))))
variable (xbo:Got P w K mg base 3 "_law_web_parts" ["script"] (upF K Dp.zbp))
variable (xbq:∃ t,mg "LEAST_CORNERS"=some (.int 2 t))
variable (xbu:∃ t,mg "MOST_CORNERS"=some (.int 40 t))
theorem zdi:zM ["corners","k"] ["corners"] (zF zb3):=zR
include xg xac xbq xbu in
theorem zfr (F:Fun K "refuse_bad_corners" "refuse_bad_corners" zb3 f fd):zW P w K mg base CX0 1 f fd ["corners"] (upF K Dp.zaG):=by
  refine zU (b:=Dp.zbh) F zdi Dp.ze1 Dp.zfl (fun cdv A outer s H E hr=>?_)
  unfold Dp.zbh
  exact (zp (zV (za2 (zbb (zP zbD (zae zaw xg boot_len (zc (zj 0) zq)) (z9 rfl xbq)) (zbA (zP zc4 (zae zaw xg boot_len (zc (zj 0) zq)) (z9 rfl xbu))))) (zy zaR) zN)
 (zy (zaX (zlY xac (zc zu (zc (zae zaw xg boot_len (zc (zj 0) zq)) zq))) (zab (i:=1) zdi.nd) (zy (zV (zP zj4 (zG (zG (zj 0) (zj 1)) zu) (zG (zG (zj 0) (zak (zj 1) zu)) zu)) (zy zaR) zN)))))
variable (xal:Got P w K mg base 1 "refuse_bad_corners" ["corners"] (upF K Dp.zaG))
variable (xa0:∀ C,W.nsIn K mainGlobals "Ground"=some (some (.ref C))->zaj K C "corners")
variable (xah:mg "list"=none)
theorem zjs:zM ["self","corners"] ["self","corners"] (zF zbz):=zR
include xal xa0 xah in
theorem zi5 (F:Fun K "__init__" "Ground.__init__" zbz f fd):zW P w K mg base CX0 2 f fd ["self","corners"] (upF K Dp.zcF):=by
  refine zU (b:=Dp.zbB) F zjs Dp.zir Dp.zjh (fun cdv A outer s H E hr=>?_)
  unfold Dp.zbB
  exact (zp (zah (zO xal hr (zc (zj 1) zq)))
 (zy (zdf xa0 (zj 0) (zin zfy xah boot_list (zc (zj 1) zq)))))
variable (xb6:zjl P w K mg base 2 "Ground" (upF K Dp.zeR))
variable (xbw:∃ t,mg "MOST_BEACONS"=some (.int 12 t))
variable (xc6:∃ t,mg "MOST_FOGS"=some (.int 12 t))
theorem zfn:zM ["beacons","fogs"] ["beacons","fogs"] (zF zbZ):=zR
include xg xbw xc6 in
theorem zfo (F:Fun K "refuse_bad_numbers" "refuse_bad_numbers" zbZ f fd):zW P w K mg base CX0 1 f fd ["beacons","fogs"] (upF K Dp.zaF):=by
  refine zU (b:=Dp.zbd) F zfn Dp.zff Dp.zft (fun cdv A outer s H E hr=>?_)
  unfold Dp.zbd
  exact (zp (zV (za2 (zbb (zP zbD (zae zaw xg boot_len (zc (zj 0) zq)) zu) (zbA (zP zc4 (zae zaw xg boot_len (zc (zj 0) zq)) (z9 rfl xbw))))) (zy zaR) zN)
 (zy (zV (zP zc4 (zae zaw xg boot_len (zc (zj 1) zq)) (z9 rfl xc6)) (zy zaR) zN)))
variable (xak:Got P w K mg base 1 "refuse_bad_numbers" ["beacons","fogs"] (upF K Dp.zaF))
variable (xbx:∃ t,mg "MOST_LETTERS"=some (.int 8 t))
variable (xeg:∃ t,mg "LETTERS"=some (.str "abcdefghijklmnopqrstuvwxyz" t))
variable (xag:mg "all"=none)
theorem zmq:zM ["text"] ["text"] (zF zgA):=zR
include xg xbx xeg xag in
theorem zmX (F:Fun K "is_name" "is_name" zgA f fd):zW P w K mg base CX0 1 f fd ["text"] (upF K Dp.zdv):=by
  refine zU (b:=Dp.zeP) F zmq Dp.zlb Dp.zmc (fun cdv A outer s H E hr=>?_)
  unfold Dp.zeP
  exact (zp (zV (za2 (zbb (zP zbD (zae zaw xg boot_len (zc (zj 0) zq)) zu) (zbA (zP zc4 (zae zaw xg boot_len (zc (zj 0) zq)) (z9 rfl xbx))))) (zy (zL zc6)) zN)
 (zy (zL (zae zdY xag boot_all (zc (zci (own:=["sign"]) (free:=[]) (fv:=[]) True.intro True.intro (zaA (zj 0)) ⟨(zX 0 (by decide)),fun _ _ _ _ _=>(zaf (i:=0) (show List.Nodup (["sign"]:List Str) by decide +kernel) rfl (Or.inl rfl) (Or.inr rfl))⟩ (fun _ _ _ _ _=>zaO) (fun _ _ _ _ _=>(zja (ziy hr) (zj 0) (zqe rfl xeg)))) zq)))))
variable (xed:Got P w K mg base 1 "is_name" ["text"] (upF K Dp.zdv))
variable (xeu:mg "set"=none)
theorem zgk:zM ["names"] ["names"] (zF zcw):=zR
include xg xag xed xeu in
theorem zgg (F:Fun K "refuse_bad_names" "refuse_bad_names" zcw f fd):zW P w K mg base CX0 2 f fd ["names"] (upF K Dp.zaV):=by
  refine zU (b:=Dp.zbJ) F zgk Dp.zfR Dp.zgi (fun cdv A outer s H E hr=>?_)
  unfold Dp.zbJ
  exact (zp (zV (zby (zaM (zae zdY xag boot_all (zc (zci (own:=["name"]) (free:=[]) (fv:=[]) True.intro True.intro (zaA (zj 0)) ⟨(zX 0 (by decide)),fun _ _ _ _ _=>(zaf (i:=0) (show List.Nodup (["name"]:List Str) by decide +kernel) rfl (Or.inl rfl) (Or.inr rfl))⟩ (fun _ _ _ _ _=>zaO) (fun _ _ _ _ _=>(zO xed hr (zc (zj 0) zq)))) zq)))) (zy zaR) zN)
 (zy (zV (zP zbD (zlZ rfl xg rfl xeu (zc (zj 0) zq)) (zae zaw xg boot_len (zc (zj 0) zq))) (zy zaR) zN)))
variable (xau:Got P w K mg base 2 "refuse_bad_names" ["names"] (upF K Dp.zaV))
theorem zqU:zM ["one","other"] ["one","other"] (zF zkE):=zR
theorem zqK (F:Fun K "less" "less" zkE f fd):zW P w K mg base CX0 1 f fd ["one","other"] (upF K Dp.zdg):=by
 refine zU (b:=Dp.ziw) F zqU Dp.zoC Dp.zrc (fun cdv A outer s H E hr=>?_)
 unfold Dp.ziw
 exact (zy (zL (zfA zbD (zaB (zG (zj 0) zu) (zG (zj 1) zu)) (zaB (zG (zj 1) zu) (zG (zj 0) zu)))))
variable (xbr:Got P w K mg base 1 "less" ["one","other"] (upF K Dp.zdg))
theorem zhL:zM ["ground","place","first","last"] ["ground","place"] (zF zi1):=zR
include xbr in
theorem zoQ (F:Fun K "is_on" "is_on" zi1 f fd):zW P w K mg base CX0 2 f fd ["ground","place"] (upF K Dp.zdJ):=by
  refine zU (b:=Dp.zhd) F zhL Dp.znI Dp.zpw (fun cdv A outer s H E hr=>?_)
  unfold Dp.zhd
  exact (zp (zJ (i:=2) zhL.nd (zam (zc (zG (zG (zbo (zj 0) rfl) zu) zu) (zc zu zq))))
 (zp (zJ (i:=3) zhL.nd (zam (zc (zG (zG (zbo (zj 0) rfl) (zc0 zu)) zu) (zc zu zq))))
 (zy (zL (zfx (zhc (zO xbr hr (zc (zj 1) (zc (zj 2) zq)))) (ziN (zhc (zO xbr hr (zc (zj 3) (zc (zj 1) zq))))))))))
variable (xci:Got P w K mg base 2 "is_on" ["ground","place"] (upF K Dp.zdJ))
variable (xhd:mg "abs"=none)
theorem zbM:zM ["one","other","rest"] ["one","other"] (zF zdb):=zR
include xhd in
theorem zhv (F:Fun K "common_divisor" "common_divisor" zdb f fd):zW P w K mg base CX0 1 f fd ["one","other"] (upF K Dp.zba):=by
  refine zU (b:=Dp.zb5) F zbM Dp.zgL Dp.zhq (fun cdv A outer s H E hr=>?_)
  unfold Dp.zb5
  exact (zp (zjw (zP (zeO hr) (zj 1) zu) (zp (zJ (i:=2) zbM.nd (zad (zj 0) (zj 1)))
 (zp (zJ (i:=0) zbM.nd (zj 1))
 (zy (zJ (i:=1) zbM.nd (zj 2))))))
 (zy (zL (zae zrr xhd boot_abs (zc (zj 0) zq)))))
variable (xbe:Got P w K mg base 1 "common_divisor" ["one","other"] (upF K Dp.zba))
theorem zfg:zM ["top","bottom","divisor"] ["top","bottom"] (zF zfQ):=zR
include xbe in
theorem zld (F:Fun K "fraction" "fraction" zfQ f fd):zW P w K mg base CX0 2 f fd ["top","bottom"] (upF K Dp.zcS):=by
  refine zU (b:=Dp.zed) F zfg Dp.zkN Dp.zlz (fun cdv A outer s H E hr=>?_)
  unfold Dp.zed
  exact (zp (zJ (i:=2) zfg.nd (zO xbe hr (zc (zj 0) (zc (zj 1) zq))))
 (zp (zeN (zV (zP zbD (zj 1) zu) (zy (zJ (i:=2) zfg.nd (zc0 (zj 2)))) zN))
 (zy (zL (zam (zc (zas (zj 0) (zj 2)) (zc (zas (zj 1) (zj 2)) zq)))))))
variable (xd1:Got P w K mg base 2 "fraction" ["top","bottom"] (upF K Dp.zcS))
theorem zdr:zM ["one","other","place","run","rise","top"] ["one","other","place"] (zF zfc):=zR
include xd1 in
theorem zkS (F:Fun K "height_on" "height_on" zfc f fd):zW P w K mg base CX0 3 f fd ["one","other","place"] (upF K Dp.zcB):=by
  refine zU (b:=Dp.zdT) F zdr Dp.zjN Dp.zkK (fun cdv A outer s H E hr=>?_)
  unfold Dp.zdT
  exact (zp (zJ (i:=3) zdr.nd (zak (zG (zj 1) zu) (zG (zj 0) zu)))
 (zp (zJ (i:=4) zdr.nd (zak (zG (zj 1) zu) (zG (zj 0) zu)))
 (zp (zJ (i:=5) zdr.nd (zal (zaB (zaB (zG (zj 0) zu) (zj 3)) (zG (zj 2) zu)) (zaB (zj 4) (zak (zG (zj 2) zu) (zaB (zG (zj 0) zu) (zG (zj 2) zu))))))
 (zy (zL (zO xd1 hr (zc (zj 5) (zc (zaB (zj 3) (zG (zj 2) zu)) zq))))))))
variable (xdh:Got P w K mg base 3 "height_on" ["one","other","place"] (upF K Dp.zcB))
variable (xao:∀ C,W.nsIn K mainGlobals "OffGround"=some (some (.ref C))->ExC K C)
variable (xap:∃ C,W.nsIn K mainGlobals "OffGround"=some (some (.ref C))/\mg "OffGround"=some (.ref C))
theorem zdn:zM ["ground","place","corners","k"] ["ground","place"] (zF zfb):=zR
include xbr xci xdh xao xap in
theorem zk1 (F:Fun K "ground_at" "ground_at" zfb f fd):zW P w K mg base (CXd P w) 4 f fd ["ground","place"] (zcA K Dp.zcz):=by
  refine zde (b:=Dp.zdN) F zdn Dp.zjX Dp.zkL (fun cdv A outer s H E hr _ ex hX hM=>?_)
  unfold Dp.zdN
  exact (zp (zV (zby (zaM (zO xci hr (zc (zj 0) (zc (zj 1) zq))))) (zy (zeW hM rfl xao xap rfl (zc zbG zq) (fun _ _ _ h=>h _))) zN)
 (zp (zJ (i:=2) zdn.nd (zbo (zj 0) rfl))
 (zp (zJ (i:=3) zdn.nd zu)
 (zp (zjw (zaM (zO xbr hr (zc (zam (zc (zG (zG (zj 2) (zj 3)) zu) (zc zu zq))) (zc (zj 1) zq)))) (zy (zp5 (i:=3) zdn.nd zu)))
 (zy (zL (zO xdh hr (zc (zG (zj 2) (zak (zj 3) zu)) (zc (zG (zj 2) (zj 3)) (zc (zj 1) zq))))))))))
variable (xdd:zfI P w K mg base 4 "ground_at" ["ground","place"] (zcA K Dp.zcz))
theorem zjz:zM ["ground","spot","place"] ["ground","spot"] (zF zhW):=zR
include xbr xci xdd in
theorem zm6 (F:Fun K "stands" "stands" zhW f fd):zW P w K mg base CX0 5 f fd ["ground","spot"] (upF K Dp.zdh):=by
  refine zU (b:=Dp.zf6) F zjz Dp.zmh Dp.znR (fun cdv A outer s H E hr=>?_)
  unfold Dp.zf6
  exact (zp (zJ (i:=2) zjz.nd (zam (zc (zG (zj 1) zu) (zc zu zq))))
 (zp (zV (zby (zaM (zO xci hr (zc (zj 0) (zc (zj 2) zq))))) (zy (zL zc6)) zN)
 (zy (zL (zhc (zO xbr hr (zc (zam (zc (zG (zj 1) zu) (zc zu zq))) (zc (za7 xdd zhb hr (zc (zj 0) (zc (zj 2) zq))) zq))))))))
variable (xb7:Got P w K mg base 5 "stands" ["ground","spot"] (upF K Dp.zdh))
theorem zgP:zM ["ground","beacons"] ["ground","beacons"] (zF zcP):=zR
include xag xb7 in
theorem zgK (F:Fun K "refuse_bad_tops" "refuse_bad_tops" zcP f fd):zW P w K mg base CX0 6 f fd ["ground","beacons"] (upF K Dp.za4):=by
 refine zU (b:=Dp.zbO) F zgP Dp.zgc Dp.zgw (fun cdv A outer s H E hr=>?_)
 unfold Dp.zbO
 exact (zy (zV (zby (zaM (zae zdY xag boot_all (zc (zci (own:=["name","x","z"]) (free:=["ground"]) (fv:=[0]) ⟨rfl,True.intro⟩ ⟨rfl,rfl,rfl,True.intro⟩ (zaA (zj 1)) ⟨(zex (zaI (zX 0 (by decide)) (zaI (zX 1 (by decide)) (zaI (zX 2 (by decide)) zd1)))),fun _ _ _ _ _=>(zfh (n:=3) rfl (za8 (zaf (i:=0) (show List.Nodup (["name","x","z","ground"]:List Str) by decide +kernel) rfl (Or.inl rfl) (Or.inr rfl)) (za8 (zaf (i:=1) (show List.Nodup (["name","x","z","ground"]:List Str) by decide +kernel) rfl (Or.inl rfl) (Or.inr rfl)) (za8 (zaf (i:=2) (show List.Nodup (["name","x","z","ground"]:List Str) by decide +kernel) rfl (Or.inl rfl) (Or.inr rfl)) zem))))⟩ (fun _ _ _ _ _=>zaO) (fun _ _ _ _ _=>(zO xb7 hr (zc (zj 3) (zc (zam (zc (zj 1) (zc (zj 2) zq))) zq))))) zq)))) (zy zaR) zN))
variable (xaz:Got P w K mg base 6 "refuse_bad_tops" ["ground","beacons"] (upF K Dp.za4))
variable (xhc:mg "int"=none)
variable (xu:mg "isinstance"=none)
variable (xeb:mg "bool"=none)
theorem zlo:zM ["value"] ["value"] (zF zfS):=zR
include xhc xu xeb in
theorem zlc (F:Fun K "is_whole" "is_whole" zfS f fd):zW P w K mg base CX0 1 f fd ["value"] (upF K Dp.zcR):=by
 refine zU (b:=Dp.zef) F zlo Dp.zkf Dp.zlt (fun cdv A outer s H E hr=>?_)
 unfold Dp.zef
 exact (zy (zL (zfx (zae zfv xu boot_isinstance (zc (zj 0) (zc (zhh rfl xhc boot_int) zq))) (ziN (zhc (zae zfv xu boot_isinstance (zc (zj 0) (zc (zhh rfl xeb boot_bool) zq))))))))
variable (xds:Got P w K mg base 1 "is_whole" ["value"] (upF K Dp.zcR))
variable (xeh:∃ t,mg "NUMBERS"=some (.int 8 t))
variable (xbg:∃ t,mg "LEFT"=some (.int 0 t))
variable (xaq:∃ t,mg "RIGHT"=some (.int 1 t))
variable (xb5:∃ t,mg "LOW"=some (.int 2 t))
variable (xbf:∃ t,mg "HIGH"=some (.int 3 t))
variable (xb8:∃ t,mg "FIRST"=some (.int 4 t))
variable (xea:∃ t,mg "LAST"=some (.int 5 t))
variable (xfl:mg "tuple"=none)
theorem znh:zM ["value"] ["value"] (zF zhX):=zR
include xg xag xu xds xeh xbg xaq xb5 xbf xb8 xea xfl in
theorem zof (F:Fun K "is_fog" "is_fog" zhX f fd):zW P w K mg base CX0 2 f fd ["value"] (upF K Dp.zdZ):=by
  refine zU (b:=Dp.zfV) F znh Dp.zmm Dp.zn3 (fun cdv A outer s H E hr=>?_)
  unfold Dp.zfV
  exact (zp (zV (za2 (zbb (zby (zaM (zae zfv xu boot_isinstance (zc (zj 0) (zc (zhh rfl xfl boot_tuple) zq))))) (zbA (zP (zeO hr) (zae zaw xg boot_len (zc (zj 0) zq)) (z9 rfl xeh))))) (zy (zL zc6)) zN)
 (zp (zV (zby (zaM (zae zdY xag boot_all (zc (zci (own:=["number"]) (free:=[]) (fv:=[]) True.intro True.intro (zaA (zj 0)) ⟨(zX 0 (by decide)),fun _ _ _ _ _=>(zaf (i:=0) (show List.Nodup (["number"]:List Str) by decide +kernel) rfl (Or.inl rfl) (Or.inr rfl))⟩ (fun _ _ _ _ _=>zaO) (fun _ _ _ _ _=>(zO xds hr (zc (zj 0) zq)))) zq)))) (zy (zL zc6)) zN)
 (zy (zL (zfx (zfA zj4 (zG (zj 0) (z9 rfl xbg)) (zG (zj 0) (z9 rfl xaq))) (zfx (zfA zj4 (zG (zj 0) (z9 rfl xb5)) (zG (zj 0) (z9 rfl xbf))) (ziN (zfA zj4 (zG (zj 0) (z9 rfl xb8)) (zG (zj 0) (z9 rfl xea))))))))))
variable (xe5:Got P w K mg base 2 "is_fog" ["value"] (upF K Dp.zdZ))
theorem zgm:zM ["fogs"] ["fogs"] (zF zcN):=zR
include xag xe5 in
theorem zgn (F:Fun K "refuse_bad_fogs" "refuse_bad_fogs" zcN f fd):zW P w K mg base CX0 3 f fd ["fogs"] (upF K Dp.za5):=by
 refine zU (b:=Dp.zbN) F zgm Dp.zgh Dp.zgp (fun cdv A outer s H E hr=>?_)
 unfold Dp.zbN
 exact (zy (zV (zby (zaM (zae zdY xag boot_all (zc (zci (own:=["fog"]) (free:=[]) (fv:=[]) True.intro True.intro (zaA (zj 0)) ⟨(zX 0 (by decide)),fun _ _ _ _ _=>(zaf (i:=0) (show List.Nodup (["fog"]:List Str) by decide +kernel) rfl (Or.inl rfl) (Or.inr rfl))⟩ (fun _ _ _ _ _=>zaO) (fun _ _ _ _ _=>(zO xe5 hr (zc (zj 0) zq)))) zq)))) (zy zaR) zN))
variable (xa5:Got P w K mg base 3 "refuse_bad_fogs" ["fogs"] (upF K Dp.za5))
theorem zge:zM ["haze","first","last","delay"] ["haze","first","last","delay"] (zF zcr):=zR
theorem zgf (F:Fun K "refuse_bad_hours" "refuse_bad_hours" zcr f fd):zW P w K mg base CX0 1 f fd ["haze","first","last","delay"] (upF K Dp.zaW):=by
  refine zU (b:=Dp.zbE) F zge Dp.zf1 Dp.zgd (fun cdv A outer s H E hr=>?_)
  unfold Dp.zbE
  exact (zp (zV (zP zc4 (zj 1) (zj 2)) (zy zaR) zN)
 (zp (zV (zP zbD (zj 3) zu) (zy zaR) zN)
 (zy (zV (za2 (zfm (zP zgG (zj 0) zbU) (zeA (zP zbD (zj 0) zu)))) (zy zaR) zN))))
variable (xas:Got P w K mg base 1 "refuse_bad_hours" ["haze","first","last","delay"] (upF K Dp.zaW))
variable (xa8:∀ C,W.nsIn K mainGlobals "Valley"=some (some (.ref C))->zaj K C "ground")
variable (xax:∀ C,W.nsIn K mainGlobals "Valley"=some (some (.ref C))->zaj K C "beacons")
variable (xbs:∀ C,W.nsIn K mainGlobals "Valley"=some (some (.ref C))->zaj K C "fogs")
variable (xbt:∀ C,W.nsIn K mainGlobals "Valley"=some (some (.ref C))->zaj K C "haze")
variable (xbj:∀ C,W.nsIn K mainGlobals "Valley"=some (some (.ref C))->zaj K C "first")
variable (xbv:∀ C,W.nsIn K mainGlobals "Valley"=some (some (.ref C))->zaj K C "last")
variable (xbp:∀ C,W.nsIn K mainGlobals "Valley"=some (some (.ref C))->zaj K C "delay")
theorem zjk:zM ["self","ground","beacons","fogs","haze","first","last","delay"] ["self","ground","beacons","fogs","haze","first","last","delay"] (zF zbC):=zR
include xah xb6 xak xau xaz xa5 xas xa8 xax xbs xbt xbj xbv xbp in
theorem ziS (F:Fun K "__init__" "Valley.__init__" zbC f fd):zW P w K mg base CX0 7 f fd ["self","ground","beacons","fogs","haze","first","last","delay"] (upF K Dp.zcI):=by
  refine zU (b:=Dp.zbx) F zjk Dp.ziv Dp.zje (fun cdv A outer s H E hr=>?_)
  unfold Dp.zbx
  exact (zp (zah (zO xak hr (zc (zj 2) (zc (zj 3) zq))))
 (zp (zah (zO xau hr (zc (zci (own:=["beacon"]) (free:=[]) (fv:=[]) True.intro True.intro (zaA (zj 2)) ⟨(zX 0 (by decide)),fun _ _ _ _ _=>(zaf (i:=0) (show List.Nodup (["beacon"]:List Str) by decide +kernel) rfl (Or.inl rfl) (Or.inr rfl))⟩ (fun _ _ _ _ _=>zaO) (fun _ _ _ _ _=>(zG (zj 0) zu))) zq)))
 (zp (zah (zO xaz hr (zc (zj 1) (zc (zj 2) zq))))
 (zp (zah (zO xa5 hr (zc (zj 3) zq)))
 (zp (zah (zO xas hr (zc (zj 4) (zc (zj 5) (zc (zj 6) (zc (zj 7) zq))))))
 (zp (zdf xa8 (zj 0) (zkI xb6 hr (zc (zbo (zj 1) rfl) zq)))
 (zp (zdf xax (zj 0) (zin zfy xah boot_list (zc (zj 2) zq)))
 (zp (zdf xbs (zj 0) (zin zfy xah boot_list (zc (zj 3) zq)))
 (zp (zdf xbt (zj 0) (zj 4))
 (zp (zdf xbj (zj 0) (zj 5))
 (zp (zdf xbv (zj 0) (zj 6))
 (zy (zdf xbp (zj 0) (zj 7))))))))))))))
variable (xet:zjl P w K mg base 7 "Valley" (upF K Dp.zgM))
variable (xhf:mg "zip"=none)
theorem zaP:zM ["parts","names","spots","fogs","haze","first","last","beacons"] ["parts"] (zF zeH):=zR
include xb6 xet xhf in
theorem zjR (F:Fun K "_law_valley" "_law_valley" zeH f fd):zW P w K mg base CX0 9 f fd ["parts"] (upF K Dp.zb7):=by
  refine zU (b:=Dp.zds) F zaP Dp.ziR Dp.zjY (fun cdv A outer s H E hr=>?_)
  unfold Dp.zds
  exact (zp (zi2 (zj 0) (zdE (n:=6) rfl (zar (zab (i:=1) zaP.nd) (zar (zab (i:=2) zaP.nd) (zar (zab (i:=3) zaP.nd) (zar (zab (i:=4) zaP.nd) (zar (zab (i:=5) zaP.nd) (zar (zab (i:=6) zaP.nd) zdG))))))))
 (zp (zdK (i:=7) zaP.nd (own:=["name","spot"]) (free:=[]) (fv:=[]) True.intro True.intro (zrg rfl xhf (zc (zj 1) (zc (zj 2) zq))) ⟨(zex (zaI (zX 0 (by decide)) (zaI (zX 1 (by decide)) zd1))),fun _ _ _ _ _=>(zfh (n:=2) rfl (za8 (zaf (i:=0) (show List.Nodup (["name","spot"]:List Str) by decide +kernel) rfl (Or.inl rfl) (Or.inr rfl)) (za8 (zaf (i:=1) (show List.Nodup (["name","spot"]:List Str) by decide +kernel) rfl (Or.inl rfl) (Or.inr rfl)) zem)))⟩ (fun _ _ _ _ _=>zaO) (fun _ _ _ _ _=>(zam (zc (zj 0) (zc (zG (zj 1) zu) (zc (zG (zj 1) zu) zq))))))
 (zy (zL (zkI xet hr (zc (zkI xb6 hr (zc (zbI (zc (zam (zc (zc0 zu) (zc (zc0 zu) zq))) (zc (zam (zc zu (zc zu zq))) zq))) zq)) (zc (zj 7) (zc (zj 3) (zc (zj 4) (zc (zj 5) (zc (zj 6) (zc zu zq))))))))))))
variable (xb9:Got P w K mg base 9 "_law_valley" ["parts"] (upF K Dp.zb7))
variable (xd4:∀ C,W.nsIn K mainGlobals "BadHour"=some (some (.ref C))->ExC K C)
variable (xd5:∃ C,W.nsIn K mainGlobals "BadHour"=some (some (.ref C))/\mg "BadHour"=some (.ref C))
theorem zht:zM ["valley","hour"] ["valley","hour"] (zF zda):=zR
include xd4 xd5 in
theorem zho (F:Fun K "refuse_no_hour" "refuse_no_hour" zda f fd):zW P w K mg base (CXd P w) 1 f fd ["valley","hour"] (zcA K Dp.zaN):=by
 refine zde (b:=Dp.zb1) F zht Dp.zgT Dp.zhn (fun cdv A outer s H E hr _ ex hX hM=>?_)
 unfold Dp.zb1
 exact (zy (zV (za2 (zbb (zP zbD (zj 1) (zbo (zj 0) rfl)) (zbA (zP zc4 (zj 1) (zbo (zj 0) rfl))))) (zy (zeW hM rfl xd4 xd5 rfl (zc zbG zq) (fun _ _ _ h=>h _))) zN))
variable (xae:zfI P w K mg base 1 "refuse_no_hour" ["valley","hour"] (zcA K Dp.zaN))
theorem zlf:zM ["valley"] ["valley"] (zF zgb):=zR
theorem zly (F:Fun K "names_of" "names_of" zgb f fd):zW P w K mg base CX0 1 f fd ["valley"] (upF K Dp.zb9):=by
 refine zU (b:=Dp.zee) F zlf Dp.zkQ Dp.zls (fun cdv A outer s H E hr=>?_)
 unfold Dp.zee
 exact (zy (zL (zci (own:=["beacon"]) (free:=[]) (fv:=[]) True.intro True.intro (zaA (zbo (zj 0) rfl)) ⟨(zX 0 (by decide)),fun _ _ _ _ _=>(zaf (i:=0) (show List.Nodup (["beacon"]:List Str) by decide +kernel) rfl (Or.inl rfl) (Or.inr rfl))⟩ (fun _ _ _ _ _=>zaO) (fun _ _ _ _ _=>(zG (zj 0) zu)))))
variable (xba:Got P w K mg base 1 "names_of" ["valley"] (upF K Dp.zb9))
theorem zca:zM ["valley","names","found","k","name","other"] ["valley"] (zF zfF):=zR
include xq xba in
theorem zlj (F:Fun K "pairs_of" "pairs_of" zfF f fd):zW P w K mg base CX0 2 f fd ["valley"] (upF K Dp.zcY):=by
  refine zU (b:=Dp.zei) F zca Dp.zla Dp.zlq (fun cdv A outer s H E hr=>?_)
  unfold Dp.zei
  exact (zp (zJ (i:=1) zca.nd (zO xba hr (zc (zj 0) zq)))
 (zp (zJ (i:=2) zca.nd (zbI zq))
 (zp (zaX (zbT rfl xq (zc (zj 1) zq)) (zdE (n:=2) rfl (zar (zab (i:=3) zca.nd) (zar (zab (i:=4) zca.nd) zdG))) (zy (zaX (zaA (zgZ (zj 1) (zek (zal (zj 3) zu)) zeq)) (zab (i:=5) zca.nd) (zy (zah (zfG PySem.F.slot_list_append PySem.F.type_list_append zd0 (zj 2) (zc (zam (zc (zj 4) (zc (zj 5) zq))) zq)))))))
 (zy (zL (zj 2))))))
variable (xdz:Got P w K mg base 2 "pairs_of" ["valley"] (upF K Dp.zcY))
variable (xc8:∀ C,W.nsIn K mainGlobals "NoBeacon"=some (some (.ref C))->ExC K C)
variable (xdi:∃ C,W.nsIn K mainGlobals "NoBeacon"=some (some (.ref C))/\mg "NoBeacon"=some (.ref C))
theorem ziq:zM ["valley","name","beacon"] ["valley","name"] (zF zgy):=zR
include xc8 xdi in
theorem zm0 (F:Fun K "spot_of" "spot_of" zgy f fd):zW P w K mg base (CXd P w) 1 f fd ["valley","name"] (zcA K Dp.zcJ):=by
  refine zde (b:=Dp.zeT) F ziq Dp.zlr Dp.zmW (fun cdv A outer s H E hr _ ex hX hM=>?_)
  unfold Dp.zeT
  exact (zp (zaX (zaA (zbo (zj 0) rfl)) (zab (i:=2) ziq.nd) (zy (zV (zP (zeM hr) (zG (zj 2) zu) (zj 1)) (zy (zL (zam (zc (zG (zj 2) zu) (zc (zG (zj 2) zu) zq))))) zN)))
 (zy (zeW hM rfl xc8 xdi rfl (zc zbG zq) (fun _ _ _ h=>h _))))
variable (xdj:zfI P w K mg base 1 "spot_of" ["valley","name"] (zcA K Dp.zcJ))
theorem ze5:zM ["ground","spot"] ["ground","spot"] (zF zbV):=zR
include xao xap xb7 in
theorem ze4 (F:Fun K "refuse_not_standing" "refuse_not_standing" zbV f fd):zW P w K mg base (CXd P w) 6 f fd ["ground","spot"] (zcA K Dp.zap):=by
 refine zde (b:=Dp.za6) F ze5 Dp.zeI Dp.ze7 (fun cdv A outer s H E hr _ ex hX hM=>?_)
 unfold Dp.za6
 exact (zy (zV (zby (zaM (zO xb7 hr (zc (zj 0) (zc (zj 1) zq))))) (zy (zeW hM rfl xao xap rfl (zc zbG zq) (fun _ _ _ h=>h _))) zN))
variable (xaf:zfI P w K mg base 6 "refuse_not_standing" ["ground","spot"] (zcA K Dp.zap))
variable (xa7:mg "min"=none)
variable (xdt:mg "max"=none)
theorem zcx:zM ["ground","x","other_x","low","high"] ["ground","x","other_x"] (zF zcK):=zR
include xq xa7 xdt in
theorem zgI (F:Fun K "numbers_between" "numbers_between" zcK f fd):zW P w K mg base CX0 1 f fd ["ground","x","other_x"] (upF K Dp.za3):=by
  refine zU (b:=Dp.zbP) F zcx Dp.zgj Dp.zgv (fun cdv A outer s H E hr=>?_)
  unfold Dp.zbP
  exact (zp (zJ (i:=3) zcx.nd (zae zg8 xa7 boot_min (zc (zj 1) (zc (zj 2) zq))))
 (zp (zJ (i:=4) zcx.nd (zae ziQ xdt boot_max (zc (zj 1) (zc (zj 2) zq))))
 (zy (zL (zci (own:=["k","corner"]) (free:=["low","high"]) (fv:=[3,4]) ⟨rfl,rfl,True.intro⟩ ⟨rfl,rfl,rfl,rfl,rfl,rfl,True.intro⟩ (zbT rfl xq (zc (zbo (zj 0) rfl) zq)) ⟨(zex (zaI (zX 0 (by decide)) (zaI (zX 1 (by decide)) zd1))),fun _ _ _ _ _=>(zfh (n:=2) rfl (za8 (zaf (i:=0) (show List.Nodup (["k","corner","low","high"]:List Str) by decide +kernel) rfl (Or.inl rfl) (Or.inr rfl)) (za8 (zaf (i:=1) (show List.Nodup (["k","corner","low","high"]:List Str) by decide +kernel) rfl (Or.inl rfl) (Or.inr rfl)) zem)))⟩ (fun _ _ _ _ _=>(zhe (znZ zbD zbD (zj 2) (zG (zj 1) zu) (zj 3)))) (fun _ _ _ _ _=>(zj 0)))))))
variable (xay:Got P w K mg base 1 "numbers_between" ["ground","x","other_x"] (upF K Dp.za3))
theorem zdq:zM ["one","other","spot","run","rise","over"] ["one","other","spot"] (zF zgq):=zR
theorem zm3 (F:Fun K "side_of" "side_of" zgq f fd):zW P w K mg base CX0 1 f fd ["one","other","spot"] (upF K Dp.zdl):=by
  refine zU (b:=Dp.zeQ) F zdq Dp.zlC Dp.zms (fun cdv A outer s H E hr=>?_)
  unfold Dp.zeQ
  exact (zp (zJ (i:=3) zdq.nd (zak (zG (zj 1) zu) (zG (zj 0) zu)))
 (zp (zJ (i:=4) zdq.nd (zak (zG (zj 1) zu) (zG (zj 0) zu)))
 (zp (zJ (i:=5) zdq.nd (zak (zaB (zak (zG (zj 2) zu) (zG (zj 0) zu)) (zj 3)) (zaB (zak (zG (zj 2) zu) (zG (zj 0) zu)) (zj 4))))
 (zp (zeN (zV (zP zbD (zj 3) zu) (zy (zJ (i:=5) zdq.nd (zc0 (zj 5)))) zN))
 (zp (zV (zP zc4 (zj 5) zu) (zy (zL zu)) zN)
 (zp (zV (zP zbD (zj 5) zu) (zy (zL (zc0 zu))) zN)
 (zy (zL zu))))))))
variable (xek:Got P w K mg base 1 "side_of" ["one","other","spot"] (upF K Dp.zdl))
theorem zjH:zM ["ground","one","other","k"] ["ground","one","other"] (zF zh4):=zR
include xaf xay xek in
theorem zm7 (F:Fun K "hinder" "hinder" zh4 f fd):zW P w K mg base (CXd P w) 7 f fd ["ground","one","other"] (zcA K Dp.zdW):=by
  refine zde (b:=Dp.zfJ) F zjH Dp.zmI Dp.znT (fun cdv A outer s H E hr _ ex hX hM=>?_)
  unfold Dp.zfJ
  exact (zp (zah (za7 xaf hX hr (zc (zj 0) (zc (zj 1) zq))))
 (zp (zah (za7 xaf hX hr (zc (zj 0) (zc (zj 2) zq))))
 (zp (zaX (zaA (zO xay hr (zc (zj 0) (zc (zG (zj 1) zu) (zc (zG (zj 2) zu) zq))))) (zab (i:=3) zjH.nd) (zy (zV (zP zc4 (zO xek hr (zc (zj 1) (zc (zj 2) (zc (zG (zbo (zj 0) rfl) (zj 3)) zq)))) zu) (zy (zL (zj 3))) zN)))
 (zy (zL zbU)))))
variable (xe1:zfI P w K mg base 7 "hinder" ["ground","one","other"] (zcA K Dp.zdW))
theorem zcL:zM ["one","other","run","climb"] ["one","other"] (zF zdd):=zR
theorem zhl (F:Fun K "square_between" "square_between" zdd f fd):zW P w K mg base CX0 1 f fd ["one","other"] (upF K Dp.za9):=by
  refine zU (b:=Dp.zb4) F zcL Dp.zgt Dp.zhu (fun cdv A outer s H E hr=>?_)
  unfold Dp.zb4
  exact (zp (zJ (i:=2) zcL.nd (zak (zG (zj 1) zu) (zG (zj 0) zu)))
 (zp (zJ (i:=3) zcL.nd (zak (zG (zj 1) zu) (zG (zj 0) zu)))
 (zy (zL (zal (zaB (zj 2) (zj 2)) (zaB (zj 3) (zj 3)))))))
variable (xa9:Got P w K mg base 1 "square_between" ["one","other"] (upF K Dp.za9))
theorem zdc:zM ["valley","one","other","corner","square"] ["valley","one","other"] (zF zdw):=zR
include xe1 xa9 in
theorem zhT (F:Fun K "hidden_always" "hidden_always" zdw f fd):zW P w K mg base CX0 8 f fd ["valley","one","other"] (upF K Dp.zbr):=by
  refine zU (b:=Dp.zch) F zdc Dp.zhm Dp.zh0 (fun cdv A outer s H E hr=>?_)
  unfold Dp.zch
  exact (zp (zJ (i:=3) zdc.nd (za7 xe1 zhb hr (zc (zbo (zj 0) rfl) (zc (zj 1) (zc (zj 2) zq)))))
 (zp (zV (zP zgG (zj 3) zbU) (zy (zL (zam (zc zbG (zc (zj 3) zq))))) zN)
 (zp (zJ (i:=4) zdc.nd (zO xa9 hr (zc (zj 1) (zc (zj 2) zq))))
 (zp (zV (za2 (zfm (zP zgG (zbo (zj 0) rfl) zbU) (zeA (zP zc4 (zj 4) (zbo (zj 0) rfl))))) (zy (zL (zam (zc zbG (zc (zj 4) zq))))) zN)
 (zy (zL zbU))))))
variable (xbl:Got P w K mg base 8 "hidden_always" ["valley","one","other"] (upF K Dp.zbr))
variable (xfp:∃ t,mg "DRIFT"=some (.int 6 t))
variable (xga:∃ t,mg "RISE"=some (.int 7 t))
theorem zhP:zM ["fog","hours","along","upwards"] ["fog","hours"] (zF zjp):=zR
include xbg xaq xb5 xbf xfp xga in
theorem zoB (F:Fun K "moved" "moved" zjp f fd):zW P w K mg base CX0 1 f fd ["fog","hours"] (upF K Dp.zeG):=by
  refine zU (b:=Dp.zhi) F zhP Dp.znB Dp.zo5 (fun cdv A outer s H E hr=>?_)
  unfold Dp.zhi
  exact (zp (zJ (i:=2) zhP.nd (zaB (zG (zj 0) (z9 rfl xfp)) (zj 1)))
 (zp (zJ (i:=3) zhP.nd (zaB (zG (zj 0) (z9 rfl xga)) (zj 1)))
 (zy (zL (zam (zc (zal (zG (zj 0) (z9 rfl xbg)) (zj 2)) (zc (zal (zG (zj 0) (z9 rfl xaq)) (zj 2)) (zc (zal (zG (zj 0) (z9 rfl xb5)) (zj 3)) (zc (zal (zG (zj 0) (z9 rfl xbf)) (zj 3)) zq)))))))))
variable (xfm:Got P w K mg base 1 "moved" ["fog","hours"] (upF K Dp.zeG))
theorem znY:zM ["fog","hour"] ["fog","hour"] (zF zh9):=zR
include xb8 xea xfm in
theorem zos (F:Fun K "box_at" "box_at" zh9 f fd):zW P w K mg base CX0 2 f fd ["fog","hour"] (upF K Dp.zd4):=by
  refine zU (b:=Dp.zfL) F znY Dp.zl6 Dp.znU (fun cdv A outer s H E hr=>?_)
  unfold Dp.zfL
  exact (zp (zV (za2 (zbb (zP zbD (zj 1) (zG (zj 0) (z9 rfl xb8))) (zbA (zP zc4 (zj 1) (zG (zj 0) (z9 rfl xea)))))) (zy (zL zbU)) zN)
 (zy (zL (zO xfm hr (zc (zj 0) (zc (zak (zj 1) (zG (zj 0) (z9 rfl xb8))) zq))))))
variable (xex:Got P w K mg base 2 "box_at" ["fog","hour"] (upF K Dp.zd4))
theorem zdy:zM ["box","one","other","run","climb","corners","across"] ["box","one","other"] (zF zgO):=zR
include xbg xaq xb5 xbf xa7 xdt in
theorem zmR (F:Fun K "margins" "margins" zgO f fd):zW P w K mg base CX0 1 f fd ["box","one","other"] (upF K Dp.zdu):=by
  refine zU (b:=Dp.zeV) F zdy Dp.zlg Dp.zmf (fun cdv A outer s H E hr=>?_)
  unfold Dp.zeV
  exact (zp (zJ (i:=3) zdy.nd (zak (zG (zj 2) zu) (zG (zj 1) zu)))
 (zp (zJ (i:=4) zdy.nd (zak (zG (zj 2) zu) (zG (zj 1) zu)))
 (zp (zJ (i:=5) zdy.nd (zbI (zc (zam (zc (zG (zj 0) (z9 rfl xbg)) (zc (zG (zj 0) (z9 rfl xb5)) zq))) (zc (zam (zc (zG (zj 0) (z9 rfl xbg)) (zc (zG (zj 0) (z9 rfl xbf)) zq))) (zc (zam (zc (zG (zj 0) (z9 rfl xaq)) (zc (zG (zj 0) (z9 rfl xb5)) zq))) (zc (zam (zc (zG (zj 0) (z9 rfl xaq)) (zc (zG (zj 0) (z9 rfl xbf)) zq))) zq))))))
 (zp (zdK (i:=6) zdy.nd (own:=["x","z"]) (free:=["run","one","climb"]) (fv:=[3,1,4]) ⟨rfl,rfl,rfl,True.intro⟩ ⟨rfl,rfl,rfl,rfl,rfl,rfl,rfl,rfl,rfl,True.intro⟩ (zaA (zj 5)) ⟨(zex (zaI (zX 0 (by decide)) (zaI (zX 1 (by decide)) zd1))),fun _ _ _ _ _=>(zfh (n:=2) rfl (za8 (zaf (i:=0) (show List.Nodup (["x","z","run","one","climb"]:List Str) by decide +kernel) rfl (Or.inl rfl) (Or.inr rfl)) (za8 (zaf (i:=1) (show List.Nodup (["x","z","run","one","climb"]:List Str) by decide +kernel) rfl (Or.inl rfl) (Or.inr rfl)) zem)))⟩ (fun _ _ _ _ _=>zaO) (fun _ _ _ _ _=>(zak (zaB (zj 2) (zak (zj 1) (zG (zj 3) zu))) (zaB (zj 4) (zak (zj 0) (zG (zj 3) zu))))))
 (zy (zL (zbI (zc (zak (zae ziQ xdt boot_max (zc (zG (zj 1) zu) (zc (zG (zj 2) zu) zq))) (zG (zj 0) (z9 rfl xbg))) (zc (zak (zG (zj 0) (z9 rfl xaq)) (zae zg8 xa7 boot_min (zc (zG (zj 1) zu) (zc (zG (zj 2) zu) zq)))) (zc (zak (zae ziQ xdt boot_max (zc (zG (zj 1) zu) (zc (zG (zj 2) zu) zq))) (zG (zj 0) (z9 rfl xb5))) (zc (zak (zG (zj 0) (z9 rfl xbf)) (zae zg8 xa7 boot_min (zc (zG (zj 1) zu) (zc (zG (zj 2) zu) zq)))) (zc (zae zq9 xdt boot_max (zc (zj 6) zq)) (zc (zc0 (zae zlX xa7 boot_min (zc (zj 6) zq))) zq)))))))))))))
variable (xee:Got P w K mg base 1 "margins" ["box","one","other"] (upF K Dp.zdu))
theorem zo9:zM ["box","one","other"] ["box","one","other"] (zF zjg):=zR
include xa7 xee in
theorem zo2 (F:Fun K "meets" "meets" zjg f fd):zW P w K mg base CX0 2 f fd ["box","one","other"] (upF K Dp.zeE):=by
 refine zU (b:=Dp.zg9) F zo9 Dp.znJ Dp.zoV (fun cdv A outer s H E hr=>?_)
 unfold Dp.zg9
 exact (zy (zL (zfA zuy (zae zlX xa7 boot_min (zc (zO xee hr (zc (zj 0) (zc (zj 1) (zc (zj 2) zq)))) zq)) zu)))
variable (xfn:Got P w K mg base 2 "meets" ["box","one","other"] (upF K Dp.zeE))
theorem zcq:zM ["valley","name","other","hour","one_top","other_top","found","k","fog","box"] ["valley","name","other","hour"] (zF zh3):=zR
include xq xae xdj xbl xex xfn in
theorem znV (F:Fun K "hidden" "hidden" zh3 f fd):zW P w K mg base (CXd P w) 9 f fd ["valley","name","other","hour"] (zcA K Dp.zcu):=by
  refine zde (b:=Dp.zfT) F zcq Dp.zml Dp.znF (fun cdv A outer s H E hr _ ex hX hM=>?_)
  unfold Dp.zfT
  exact (zp (zJ (i:=4) zcq.nd (za7 xdj hX hr (zc (zj 0) (zc (zj 1) zq))))
 (zp (zJ (i:=5) zcq.nd (za7 xdj hX hr (zc (zj 0) (zc (zj 2) zq))))
 (zp (zah (za7 xae hX hr (zc (zj 0) (zc (zj 3) zq))))
 (zp (zV (zP (zeM hr) (zj 1) (zj 2)) (zy (zL zbU)) zN)
 (zp (zJ (i:=6) zcq.nd (zO xbl hr (zc (zj 0) (zc (zj 4) (zc (zj 5) zq)))))
 (zp (zV (zP zgG (zj 6) zbU) (zy (zL (zj 6))) zN)
 (zp (zaX (zbT rfl xq (zc (zbo (zj 0) rfl) zq)) (zdE (n:=2) rfl (zar (zab (i:=7) zcq.nd) (zar (zab (i:=8) zcq.nd) zdG))) (zp (zJ (i:=9) zcq.nd (zO xex hr (zc (zj 8) (zc (zj 3) zq))))
 (zy (zV (za2 (zfm (zP zgG (zj 9) zbU) (zeA (zaM (zO xfn hr (zc (zj 9) (zc (zj 4) (zc (zj 5) zq)))))))) (zy (zL (zam (zc zbG (zc (zj 7) zq))))) zN))))
 (zy (zL zbU)))))))))
variable (xaw:zfI P w K mg base 9 "hidden" ["valley","name","other","hour"] (zcA K Dp.zcu))
theorem zni:zM ["valley","hour"] ["valley","hour"] (zF zhG):=zR
include xae xdz xaw in
theorem zn5 (F:Fun K "web_at" "web_at" zhG f fd):zW P w K mg base (CXd P w) 10 f fd ["valley","hour"] (zcA K Dp.zdX):=by
  refine zde (b:=Dp.zfW) F zni Dp.zmo Dp.znb (fun cdv A outer s H E hr _ ex hX hM=>?_)
  unfold Dp.zfW
  exact (zp (zah (za7 xae hX hr (zc (zj 0) (zc (zj 1) zq))))
 (zy (zL (zqY (zci (own:=["pair"]) (free:=["valley","hour"]) (fv:=[0,1]) ⟨rfl,rfl,True.intro⟩ ⟨rfl,rfl,rfl,rfl,rfl,rfl,True.intro⟩ (zaA (zO xdz hr (zc (zj 0) zq))) ⟨(zX 0 (by decide)),fun _ _ _ _ _=>(zaf (i:=0) (show List.Nodup (["pair","valley","hour"]:List Str) by decide +kernel) rfl (Or.inl rfl) (Or.inr rfl))⟩ (fun _ _ _ _ _=>(zhe (zP zmd (za7 xaw zhb hr (zc (zj 1) (zc (zG (zj 0) zu) (zc (zG (zj 0) zu) (zc (zj 2) zq))))) zbU))) (fun _ _ _ _ _=>(zj 0)))))))
variable (xev:zfI P w K mg base 10 "web_at" ["valley","hour"] (zcA K Dp.zdX))
theorem zcW:zM ["valley","hour","names","near","name","one","two"] ["valley","hour","names"] (zF zfD):=zR
include xev in
theorem zlB (F:Fun K "_law_near" "_law_near" zfD f fd):zW P w K mg base CX0 11 f fd ["valley","hour","names"] (upF K Dp.zcU):=by
  refine zU (b:=Dp.zej) F zcW Dp.zkd Dp.zlD (fun cdv A outer s H E hr=>?_)
  unfold Dp.zej
  exact (zp (zJ (i:=3) zcW.nd (zqQ))
 (zp (zaX (zaA (zj 2)) (zab (i:=4) zcW.nd) (zy (zpf hr (zj 3) (zj 4) (zbI zq))))
 (zp (zaX (zaA (za7 xev zhb hr (zc (zj 0) (zc (zj 1) zq)))) (zdE (n:=2) rfl (zar (zab (i:=5) zcW.nd) (zar (zab (i:=6) zcW.nd) zdG))) (zp (zah (zfG PySem.F.slot_list_append PySem.F.type_list_append zd0 (zgU hr (zj 3) (zj 5)) (zc (zj 6) zq)))
 (zy (zah (zfG PySem.F.slot_list_append PySem.F.type_list_append zd0 (zgU hr (zj 3) (zj 6)) (zc (zj 5) zq))))))
 (zy (zL (zj 3))))))
variable (xdu:Got P w K mg base 11 "_law_near" ["valley","hour","names"] (upF K Dp.zcU))
theorem zeF:zM ["names","near","told","one"] ["names","near"] (zF ze3):=zR
theorem zkU (F:Fun K "_law_pairs" "_law_pairs" ze3 f fd):zW P w K mg base CX0 1 f fd ["names","near"] (upF K Dp.zcp):=by
  refine zU (b:=Dp.zdP) F zeF Dp.zjQ Dp.zk2 (fun cdv A outer s H E hr=>?_)
  unfold Dp.zdP
  exact (zp (zJ (i:=2) zeF.nd (zbI zq))
 (zp (zaX (zaA (zj 0)) (zab (i:=3) zeF.nd) (zy (zah (zfG PySem.F.slot_list_extend PySem.F.type_list_extend zmS (zj 2) (zc (zci (own:=["two"]) (free:=["one","near"]) (fv:=[3,1]) ⟨rfl,rfl,True.intro⟩ ⟨rfl,rfl,rfl,rfl,rfl,rfl,True.intro⟩ (zaA (zj 0)) ⟨(zX 0 (by decide)),fun _ _ _ _ _=>(zaf (i:=0) (show List.Nodup (["two","one","near"]:List Str) by decide +kernel) rfl (Or.inl rfl) (Or.inr rfl))⟩ (fun _ _ _ _ _=>(zhe (za2 (zfm (zP (zeO hr) (zj 0) (zj 1)) (zeA (zfu (zh5 hr) (zj 0) (zgU hr (zj 2) (zj 1)))))))) (fun _ _ _ _ _=>(zam (zc (zj 1) (zc (zj 0) zq))))) zq)))))
 (zy (zL (zj 2)))))
variable (xde:Got P w K mg base 1 "_law_pairs" ["names","near"] (upF K Dp.zcp))
theorem zlw:zM ["pairs","turn","most"] ["pairs","turn","most"] (zF zfY):=zR
include xg xac xa7 in
theorem zlm (F:Fun K "_law_some" "_law_some" zfY f fd):zW P w K mg base CX0 1 f fd ["pairs","turn","most"] (upF K Dp.zcV):=by
 refine zU (b:=Dp.zea) F zlw Dp.zkP Dp.zlv (fun cdv A outer s H E hr=>?_)
 unfold Dp.zea
 exact (zy (zL (zci (own:=["k"]) (free:=["pairs","turn"]) (fv:=[0,1]) ⟨rfl,rfl,True.intro⟩ ⟨rfl,rfl,rfl,rfl,rfl,rfl,True.intro⟩ (zhk xac (zc (zae zg8 xa7 boot_min (zc (zj 2) (zc (zae zaw xg boot_len (zc (zj 0) zq)) zq))) zq)) ⟨(zX 0 (by decide)),fun _ _ _ _ _=>(zaf (i:=0) (show List.Nodup (["k","pairs","turn"]:List Str) by decide +kernel) rfl (Or.inl rfl) (Or.inr rfl))⟩ (fun _ _ _ _ _=>zaO) (fun _ _ _ _ _=>(zG (zj 1) (zad (zal (zas (zj 2) zu) (zaB zu (zj 0))) (zae zaw xg boot_len (zc (zj 1) zq))))))))
variable (xdw:Got P w K mg base 1 "_law_some" ["pairs","turn","most"] (upF K Dp.zcV))
theorem zcZ:zM ["near","one","two","m","road","turn","onward"] ["near","one","two","m"] (zF zfX):=zR
include xg xaa xac in
theorem zlk (F:Fun K "_law_walk" "_law_walk" zfX f fd):zW P w K mg base CX0 2 f fd ["near","one","two","m"] (upF K Dp.zcT):=by
  refine zU (b:=Dp.zeh) F zcZ Dp.zkC Dp.zli (fun cdv A outer s H E hr=>?_)
  unfold Dp.zeh
  exact (zp (zJ (i:=4) zcZ.nd (zbI (zc (zj 1) zq)))
 (zp (zaX (zhk xac (zc zu zq)) (zab (i:=5) zcZ.nd) (zp (zJ (i:=3) zcZ.nd (zO xaa hr (zc (zj 3) (zc zu zq))))
 (zp (zdK (i:=6) zcZ.nd (own:=["name"]) (free:=["road"]) (fv:=[4]) ⟨rfl,True.intro⟩ ⟨rfl,rfl,rfl,True.intro⟩ (zaA (zgU hr (zj 0) (zG (zj 4) (zc0 zu)))) ⟨(zX 0 (by decide)),fun _ _ _ _ _=>(zaf (i:=0) (show List.Nodup (["name","road"]:List Str) by decide +kernel) rfl (Or.inl rfl) (Or.inr rfl))⟩ (fun _ _ _ _ _=>(zhe (zfu (zh5 hr) (zj 0) (zj 1)))) (fun _ _ _ _ _=>(zj 0)))
 (zp (zV (zfu (ziy hr) (zj 2) (zj 6)) (zy (zL (zal (zj 4) (zbI (zc (zj 2) zq))))) zN)
 (zy (zV (zP zc4 (zae zaw xg boot_len (zc (zj 6) zq)) zu) (zy (zah (zfG PySem.F.slot_list_append PySem.F.type_list_append zd0 (zj 4) (zc (zG (zj 6) (zad (zas (zj 3) zu) (zae zaw xg boot_len (zc (zj 6) zq)))) zq)))) zN))))))
 (zy (zL (zj 4)))))
variable (xdy:Got P w K mg base 2 "_law_walk" ["near","one","two","m"] (upF K Dp.zcT))
theorem zcE:zM ["road","names","m","told","at","way"] ["road","names","m"] (zF zd7):=zR
include xg xah in
theorem zjm (F:Fun K "_law_changed" "_law_changed" zd7 f fd):zW P w K mg base CX0 1 f fd ["road","names","m"] (upF K Dp.zbX):=by
  refine zU (b:=Dp.zc2) F zcE Dp.ziC Dp.zi4 (fun cdv A outer s H E hr=>?_)
  unfold Dp.zc2
  exact (zp (zJ (i:=3) zcE.nd (zin zfy xah boot_list (zc (zj 0) zq)))
 (zp (zJ (i:=4) zcE.nd (zad (zas (zj 2) zu) (zae zaw xg boot_len (zc (zj 3) zq))))
 (zp (zJ (i:=5) zcE.nd (zad (zj 2) zu))
 (zp (zeN (zV (zP (zeM hr) (zj 5) zu) (zy (zah (zfG PySem.F.slot_list_pop PySem.F.type_list_pop zqx (zj 3) (zc (zj 4) zq)))) zN))
 (zp (zeN (zV (zP (zeM hr) (zj 5) zu) (zy (zah (zfG PySem.F.slot_list_insert PySem.F.type_list_insert zjC (zj 3) (zc (zj 4) (zc (zG (zj 3) (zad (zas (zj 2) zu) (zae zaw xg boot_len (zc (zj 3) zq)))) zq))))) zN))
 (zp (zeN (zV (zP (zeM hr) (zj 5) zu) (zy (zi2 (zG (zal (zj 1) (zbI (zc zbG (zc zbG zq)))) (zad (zas (zj 2) zu) (zal (zae zaw xg boot_len (zc (zj 1) zq)) zu))) (zl2 (zj 3) (zj 4)))) zN))
 (zp (zeN (zV (zP (zeM hr) (zj 5) zu) (zy (zah (zfG PySem.F.slot_list_insert PySem.F.type_list_insert zjC (zj 3) (zc (zj 4) (zc (zG (zj 1) (zad (zas (zj 2) zu) (zae zaw xg boot_len (zc (zj 1) zq)))) zq))))) zN))
 (zp (zeN (zV (zP (zeM hr) (zj 5) zu) (zy (zah (ztk PySem.F.slot_list_reverse PySem.F.type_list_reverse zmx (zj 3)))) zN))
 (zy (zL (zj 3)))))))))))
variable (xb0:Got P w K mg base 1 "_law_changed" ["road","names","m"] (upF K Dp.zbX))
theorem zhM:zM ["valley","hour","name","other"] ["valley","hour","name","other"] (zF zdo):=zR
include xaw in
theorem zhS (F:Fun K "refuse_beside" "refuse_beside" zdo f fd):zW P w K mg base CX0 10 f fd ["valley","hour","name","other"] (upF K Dp.zbs):=by
 refine zU (b:=Dp.zcg) F zhM Dp.zhp Dp.zh2 (fun cdv A outer s H E hr=>?_)
 unfold Dp.zcg
 exact (zy (zV (zP zmd (za7 xaw zhb hr (zc (zj 0) (zc (zj 2) (zc (zj 3) (zc (zj 1) zq))))) zbU) (zy zaR) zN))
variable (xbm:Got P w K mg base 10 "refuse_beside" ["valley","hour","name","other"] (upF K Dp.zbs))
theorem zfj:zM ["valley","hour","name","other","road","names"] ["valley","hour","name","other","road"] (zF zd5):=zR
include xg xac xag xeu xba xaw xbm in
theorem zjo (F:Fun K "road_stands" "road_stands" zd5 f fd):zW P w K mg base CX0 11 f fd ["valley","hour","name","other","road"] (upF K Dp.zaY):=by
  refine zU (b:=Dp.zc1) F zfj Dp.zie Dp.zji (fun cdv A outer s H E hr=>?_)
  unfold Dp.zc1
  exact (zp (zah (zO xbm hr (zc (zj 0) (zc (zj 1) (zc (zj 2) (zc (zj 3) zq))))))
 (zp (zJ (i:=5) zfj.nd (zO xba hr (zc (zj 0) zq)))
 (zp (zV (za2 (zbb (zP (zeM hr) (zae zaw xg boot_len (zc (zj 4) zq)) zu) (zbb (zP (zeO hr) (zG (zj 4) zu) (zj 2)) (zbA (zP (zeO hr) (zG (zj 4) (zc0 zu)) (zj 3)))))) (zy (zL zc6)) zN)
 (zp (zV (za2 (zbb (zP zbD (zlZ rfl xg rfl xeu (zc (zj 4) zq)) (zae zaw xg boot_len (zc (zj 4) zq))) (zbA (zby (zaM (zae zdY xag boot_all (zc (zci (own:=["each"]) (free:=["names"]) (fv:=[5]) ⟨rfl,True.intro⟩ ⟨rfl,rfl,rfl,True.intro⟩ (zaA (zj 4)) ⟨(zX 0 (by decide)),fun _ _ _ _ _=>(zaf (i:=0) (show List.Nodup (["each","names"]:List Str) by decide +kernel) rfl (Or.inl rfl) (Or.inr rfl))⟩ (fun _ _ _ _ _=>zaO) (fun _ _ _ _ _=>(zja (ziy hr) (zj 0) (zj 1)))) zq))))))) (zy (zL zc6)) zN)
 (zy (zL (zae zdY xag boot_all (zc (zci (own:=["k"]) (free:=["valley","road","hour"]) (fv:=[0,4,1]) ⟨rfl,rfl,rfl,True.intro⟩ ⟨rfl,rfl,rfl,rfl,rfl,rfl,rfl,rfl,rfl,True.intro⟩ (zlY xac (zc zu (zc (zae zaw xg boot_len (zc (zj 4) zq)) zq))) ⟨(zX 0 (by decide)),fun _ _ _ _ _=>(zaf (i:=0) (show List.Nodup (["k","valley","road","hour"]:List Str) by decide +kernel) rfl (Or.inl rfl) (Or.inr rfl))⟩ (fun _ _ _ _ _=>zaO) (fun _ _ _ _ _=>(zfA zmd (za7 xaw zhb hr (zc (zj 1) (zc (zG (zj 2) (zak (zj 0) zu)) (zc (zG (zj 2) (zj 0)) (zc (zj 3) zq))))) zbU))) zq))))))))
variable (xar:Got P w K mg base 11 "road_stands" ["valley","hour","name","other","road"] (upF K Dp.zaY))
variable (xhe:mg "str"=none)
theorem ze8:zM ["near","one","two","road","k","name"] ["near","one","two","road"] (zF zf0):=zR
include xg xq xah xu xhe in
theorem zlA (F:Fun K "_law_road" "_law_road" zf0 f fd):zW P w K mg base CX0 1 f fd ["near","one","two","road"] (upF K Dp.zcX):=by
  refine zU (b:=Dp.zeb) F ze8 Dp.zkw Dp.zlE (fun cdv A outer s H E hr=>?_)
  unfold Dp.zeb
  exact (zp (zV (za2 (zbb (zby (zaM (zae zfv xu boot_isinstance (zc (zj 3) (zc (zhh rfl xah boot_list) zq))))) (zbb (zP zbD (zae zaw xg boot_len (zc (zj 3) zq)) zu) (zbb (zP (zeO hr) (zG (zj 3) zu) (zj 1)) (zbA (zP (zeO hr) (zG (zj 3) (zc0 zu)) (zj 2))))))) (zy (zL zc6)) zN)
 (zp (zaX (zbT rfl xq (zc (zj 3) zq)) (zdE (n:=2) rfl (zar (zab (i:=4) ze8.nd) (zar (zab (i:=5) ze8.nd) zdG))) (zy (zV (za2 (zbb (zby (zaM (zae zfv xu boot_isinstance (zc (zj 5) (zc (zhh rfl xhe boot_str) zq))))) (zbb (zfu (ziy hr) (zj 5) (zgZ (zj 3) zeq (zek (zj 4)))) (zbA (za2 (zfm (zP zc4 (zj 4) zu) (zeA (zfu (zh5 hr) (zj 5) (zgU hr (zj 0) (zG (zj 3) (zak (zj 4) zu))))))))))) (zy (zL zc6)) zN)))
 (zy (zL zc6))))
variable (xd7:Got P w K mg base 1 "_law_road" ["near","one","two","road"] (upF K Dp.zcX))
theorem zbK:zM ["script","parts","names","valley","turn","hour","near","one","two","k","m","road","found","due"] ["script"] (zF zd9):=zR
include xaj xaa xac xbo xah xag xu xeb xb9 xdu xde xdw xdy xb0 xar xd7 in
theorem zsK (F:Fun K "law" "law" zd9 f fd):zW P w K mg base CX0 12 f fd ["script"] (upF K Dp.zez):=by
  refine zU (b:=Dp.zj2) F zbK Dp.zq7 Dp.zr0 (fun cdv A outer s H E hr=>?_)
  unfold Dp.zj2
  exact (zp (zJ (i:=1) zbK.nd (zO xbo hr (zc (zj 0) zq)))
 (zp (zJ (i:=2) zbK.nd (zG (zj 1) zu))
 (zp (zJ (i:=3) zbK.nd (zO xb9 hr (zc (zj 1) zq)))
 (zp (zJ (i:=4) zbK.nd (zad (zO xaj hr (zc (zj 0) (zc zu zq))) (zeo 1000000000000000000000000000000 (by decide +kernel) ⟨by decide,by decide,by decide⟩)))
 (zp (zJ (i:=5) zbK.nd (zal (zbo (zj 3) rfl) (zad (zj 4) zu)))
 (zp (zJ (i:=6) zbK.nd (zO xdu hr (zc (zj 3) (zc (zj 5) (zc (zj 2) zq)))))
 (zp (zaX (zaA (zO xdw hr (zc (zO xde hr (zc (zj 2) (zc (zj 6) zq))) (zc (zj 4) (zc zu zq))))) (zdE (n:=2) rfl (zar (zab (i:=7) zbK.nd) (zar (zab (i:=8) zbK.nd) zdG))) (zp (zaX (zhk xac (zc zu zq)) (zab (i:=9) zbK.nd) (zp (zJ (i:=10) zbK.nd (zO xaa hr (zc (zj 4) (zc (zal zu (zj 9)) zq))))
 (zp (zJ (i:=11) zbK.nd (zO xb0 hr (zc (zO xdy hr (zc (zj 6) (zc (zj 7) (zc (zj 8) (zc (zj 10) zq))))) (zc (zj 2) (zc (zas (zj 10) (zeo 1000000000 (by decide +kernel) ⟨by decide,by decide,by decide⟩)) zq)))))
 (zp (zJ (i:=12) zbK.nd (zO xar hr (zc (zj 3) (zc (zj 5) (zc (zj 7) (zc (zj 8) (zc (zin zfy xah boot_list (zc (zj 11) zq)) zq)))))))
 (zp (zeN (zJ (i:=13) zbK.nd (zfx (zae zdY xag boot_all (zc (zci (own:=["name"]) (free:=["names"]) (fv:=[2]) ⟨rfl,True.intro⟩ ⟨rfl,rfl,rfl,True.intro⟩ (zaA (zj 11)) ⟨(zX 0 (by decide)),fun _ _ _ _ _=>(zaf (i:=0) (show List.Nodup (["name","names"]:List Str) by decide +kernel) rfl (Or.inl rfl) (Or.inr rfl))⟩ (fun _ _ _ _ _=>zaO) (fun _ _ _ _ _=>(zja (ziy hr) (zj 0) (zj 1)))) zq)) (ziN (zO xd7 hr (zc (zj 6) (zc (zj 7) (zc (zj 8) (zc (zj 11) zq)))))))))
 (zy (zV (za2 (zbb (zby (zaM (zae zfv xu boot_isinstance (zc (zj 12) (zc (zhh rfl xeb boot_bool) zq))))) (zbA (zP (zeO hr) (zj 12) (zj 13))))) (zy (zL zc6)) zN)))))))
 (zy (zV (za2 (zbb (zaM (zO xar hr (zc (zj 3) (zc (zj 5) (zc (zj 7) (zc (zj 8) (zc (zbI zq) zq))))))) (zbA (zaM (zO xar hr (zc (zj 3) (zc (zj 5) (zc (zj 7) (zc (zj 8) (zc (zbI (zc (zj 7) zq)) zq)))))))))) (zy (zL zc6)) zN))))
 (zy (zL zc6)))))))))
end
theorem all_mk {l:W.OpenLaw}{w:World}{K:W.Frag}{h:Heap}{mg:Str->Option Value}{fa:Addr}(X:K.In h)(G:h.Ns mainGlobals mg)(hfa:mg "law"=some (.ref fa))
  {xha xhs xht xgg xe2 xes xi9 xfc xj3 xju xf5 xin xhx xhv xjk xfs xib xjg xfv xfd xhj xf6 xis xip xja xer xfr xi4 xjd xf3 xgj xjs xjo xi3 xjw xjp xji xh8 xhr xh4 xid xg8 xf7 xg9 xiu:Addr}{xg7 xhy xhw xgb xe3 xew xi7 xfg xj2 xjx xf2 xia xhz xhu xjj xfu xh3 xjh xft xfj xhk xfy xh7 xh5 xi1 xeo xfw xi2 xje xfz xgd xjv xjb xi0 xjq xjn xjl xh6 xh0 xio xif xhb xf9 xg6 xik:FuncData}
  {xgm xgv:Option Addr} {xgq:Array (Option Value)} {xgn xgx xgp xgy xep xg4:Value} {xb1:Addr} {xad:Addr}
  {xgk xg0:Option Addr} {xgl:Array (Option Value)} {xgs xg2 xgr xgo xeq xg1:Value} {xb4:Addr} {xr:Addr}
  {xj1 xi6:Option Addr} {xj0:Array (Option Value)} {xj5 xiz xi8 xiy xhn xi5:Value} {xit:Addr}
  {xfx:Addr}
  {xg5:Addr}
  {xgi:Addr}
  {xf4:Tok} {xge:Tok} {xgf:Tok} {xhh:Tok} {xgc:Tok} {xh1:Tok} {xix:Tok} {xjr:Tok} {xjc:Tok} {xj4:Tok} {xjy:Tok} {xjm:Tok} {xjz:Tok} {xjf:Tok} {xjt:Tok}
  (xbz:FH K "_law_cell_at" zd8 xha xg7)
  (xc9:FH K "_law_mixed" ze9 xhs xhy)
  (xdc:FH K "_law_seeds" zeX xht xhw)
  (xbi:FH K "_law_web_parts" zdk xgg xgb)
  (xam:FH K "refuse_bad_corners" zb3 xe2 xe3)
  (xbh:W.nsIn K mainGlobals "Ground"=some (some (.ref xad))) (xdq:K.lookup xb1=some ⟨xgn,xgm,.func (W.fnOf "__init__" "Ground.__init__" (zbw zbz) (zaZ zbz) (zF zbz) .none xgx xgp xgy xgv xep xg4),xgq⟩) (xdm:W.codeIn K xep "Ground.__init__"=true) (xdp:W.keepIn K (.ref xb1)=true)
  (xcx:W.makesIn K xad=true) (xcr:W.findIn K (.ref xad) "__init__"=some (some (.ref xb1))) (xcl:W.isFn K (.ref xb1)=true) (xcs:W.keepIn K (.ref xad)=true) (xch:W.plainGet K xad Str.empty=true) (xco:W.hasDictIn K xad=true) (xce:W.plainOver K xad=true) (xcv:W.findIn K (.ref xad) "__setattr__"=some (some (.builtin "object.__setattr__"))) (xcy:W.findIn K (.ref xad) "corners"=some none)
  (xan:FH K "refuse_bad_numbers" zbZ xes xew)
  (xei:FH K "is_name" zgA xi9 xi7)
  (xat:FH K "refuse_bad_names" zcw xfc xfg)
  (xgh:FH K "less" zkE xj3 xj2)
  (xfk:FH K "is_on" zi1 xju xjx)
  (xbb:FH K "common_divisor" zdb xf5 xf2)
  (xd2:FH K "fraction" zfQ xin xia)
  (xc7:FH K "height_on" zfc xhx xhz)
  (xdf:FH K "ground_at" zfb xhv xhu)
  (xe4:FH K "stands" zhW xjk xjj)
  (xa6:FH K "refuse_bad_tops" zcP xfs xfu)
  (xd6:FH K "is_whole" zfS xib xh3)
  (xe8:FH K "is_fog" zhX xjg xjh)
  (xa3:FH K "refuse_bad_fogs" zcN xfv xft)
  (xav:FH K "refuse_bad_hours" zcr xfd xfj)
  (xab:W.nsIn K mainGlobals "Valley"=some (some (.ref xr))) (xdl:K.lookup xb4=some ⟨xgs,xgk,.func (W.fnOf "__init__" "Valley.__init__" (zbw zbC) (zaZ zbC) (zF zbC) .none xg2 xgr xgo xg0 xeq xg1),xgl⟩) (xdn:W.codeIn K xeq "Valley.__init__"=true) (xdo:W.keepIn K (.ref xb4)=true)
  (xcw:W.makesIn K xr=true) (xc4:W.findIn K (.ref xr) "__init__"=some (some (.ref xb4))) (xcd:W.isFn K (.ref xb4)=true) (xck:W.keepIn K (.ref xr)=true) (xcn:W.plainGet K xr Str.empty=true) (xcj:W.hasDictIn K xr=true) (xc3:W.plainOver K xr=true) (xc2:W.findIn K (.ref xr) "__setattr__"=some (some (.builtin "object.__setattr__"))) (xcf:W.findIn K (.ref xr) "ground"=some none) (xc5:W.findIn K (.ref xr) "beacons"=some none) (xcm:W.findIn K (.ref xr) "fogs"=some none) (xcu:W.findIn K (.ref xr) "haze"=some none) (xcz:W.findIn K (.ref xr) "first"=some none) (xc1:W.findIn K (.ref xr) "last"=some none) (xct:W.findIn K (.ref xr) "delay"=some none)
  (xcc:FH K "_law_valley" zeH xhj xhk)
  (xbc:FH K "refuse_no_hour" zda xf6 xfy)
  (xd3:FH K "names_of" zgb xis xh7)
  (xd8:FH K "pairs_of" zfF xip xh5)
  (xej:FH K "spot_of" zgy xja xi1)
  (xai:FH K "refuse_not_standing" zbV xer xeo)
  (xa4:FH K "numbers_between" zcK xfr xfw)
  (xef:FH K "side_of" zgq xi4 xi2)
  (xez:FH K "hinder" zh4 xjd xje)
  (xbd:FH K "square_between" zdd xf3 xfz)
  (xbn:FH K "hidden_always" zdw xgj xgd)
  (xfq:FH K "moved" zjp xjs xjv)
  (xe6:FH K "box_at" zh9 xjo xjb)
  (xec:FH K "margins" zgO xi3 xi0)
  (xfo:FH K "meets" zjg xjw xjq)
  (xe9:FH K "hidden" zh3 xjp xjn)
  (xe7:FH K "web_at" zhG xji xjl)
  (xdr:FH K "_law_near" zfD xh8 xh6)
  (xdb:FH K "_law_pairs" ze3 xhr xh0)
  (xd0:FH K "_law_some" zfY xh4 xio)
  (xdx:FH K "_law_walk" zfX xid xif)
  (xb3:FH K "_law_changed" zd7 xg8 xhb)
  (xbk:FH K "refuse_beside" zdo xf7 xf9)
  (xb2:FH K "road_stands" zd5 xg9 xg6)
  (xdv:FH K "_law_road" zf0 xiu xik)
  (xiv:W.nsIn K mainGlobals "law"=some (some (.ref xit))) (xig:K.lookup xit=some ⟨xj5,xj1,.func (W.fnOf "law" "law" (zbw zd9) (zaZ zd9) (zF zd9) .none xiz xi8 xiy xi6 xhn xi5),xj0⟩) (xii:W.codeIn K xhn "law"=true) (xih:W.keepIn K (.ref xit)=true)
  (xby:W.nsIn K mainGlobals "OffGround"=some (some (.ref xfx))) (xem:zkc K xfx=true) (xdk:W.nsIn K mainGlobals "BadHour"=some (some (.ref xg5))) (xfe:zkc K xg5=true) (xca:W.nsIn K mainGlobals "NoBeacon"=some (some (.ref xgi))) (xey:zkc K xgi=true)
  (xie:W.nsIn K mainGlobals "len"=some none) (xgz:W.nsIn K mainGlobals "range"=some none) (xel:W.nsIn K mainGlobals "enumerate"=some none) (xhm:W.nsIn K mainGlobals "list"=some none) (xim:W.nsIn K mainGlobals "all"=some none) (xiw:W.nsIn K mainGlobals "set"=some none) (xh2:W.nsIn K mainGlobals "abs"=some none) (xic:W.nsIn K mainGlobals "int"=some none) (xd9:W.nsIn K mainGlobals "isinstance"=some none) (xho:W.nsIn K mainGlobals "bool"=some none) (xgt:W.nsIn K mainGlobals "tuple"=some none) (xiq:W.nsIn K mainGlobals "zip"=some none) (xil:W.nsIn K mainGlobals "min"=some none) (xij:W.nsIn K mainGlobals "max"=some none) (xir:W.nsIn K mainGlobals "str"=some none)
  (xcb:W.nsIn K mainGlobals "LEAST_CORNERS"=some (some (.int 2 xf4))) (xcp:W.nsIn K mainGlobals "MOST_CORNERS"=some (some (.int 40 xge))) (xcq:W.nsIn K mainGlobals "MOST_BEACONS"=some (some (.int 12 xgf))) (xen:W.nsIn K mainGlobals "MOST_FOGS"=some (some (.int 12 xhh))) (xcg:W.nsIn K mainGlobals "MOST_LETTERS"=some (some (.int 8 xgc))) (xfh:W.nsIn K mainGlobals "LETTERS"=some (some (.str "abcdefghijklmnopqrstuvwxyz" xh1))) (xfi:W.nsIn K mainGlobals "NUMBERS"=some (some (.int 8 xix))) (xhg:W.nsIn K mainGlobals "LEFT"=some (some (.int 0 xjr))) (xgu:W.nsIn K mainGlobals "RIGHT"=some (some (.int 1 xjc))) (xh9:W.nsIn K mainGlobals "LOW"=some (some (.int 2 xj4))) (xhp:W.nsIn K mainGlobals "HIGH"=some (some (.int 3 xjy))) (xg3:W.nsIn K mainGlobals "FIRST"=some (some (.int 4 xjm))) (xhl:W.nsIn K mainGlobals "LAST"=some (some (.int 5 xjz))) (xgw:W.nsIn K mainGlobals "DRIFT"=some (some (.int 6 xjf))) (xhq:W.nsIn K mainGlobals "RISE"=some (some (.int 7 xjt))) :
  ∃ fd:FuncData,(∀ (s:Shared) (v:Value),BindsTo s fd ⟨[v],[]⟩ [("script",v)])/\∀ base:Heap,K.In base->base.Ns mainGlobals mg->zW l.prog w K mg base CX0 12 fa fd ["script"] (upF K Dp.zez):=by
 have e:=hfa.symm.trans (W.mg_of X G xiv)
 cases e
 have xa0:∀ C,W.nsIn K mainGlobals "Ground"=some (some (.ref C))->zaj K C "corners":=fun C hC=>by
  rw [xbh] at hC;cases hC;exact xcy
 have xfa:=zis (st:=zbz) xdq xdm xdp
 have zbB:=xfa.binds (ps:=["self","corners"]) fun _ _ _ _ _ _ us hl=>by obtain⟨_,_,rfl⟩:=zl8 hl;rfl
 have xa8:∀ C,W.nsIn K mainGlobals "Valley"=some (some (.ref C))->zaj K C "ground":=fun C hC=>by
  rw [xab] at hC;cases hC;exact xcf
 have xax:∀ C,W.nsIn K mainGlobals "Valley"=some (some (.ref C))->zaj K C "beacons":=fun C hC=>by
  rw [xab] at hC;cases hC;exact xc5
 have xbs:∀ C,W.nsIn K mainGlobals "Valley"=some (some (.ref C))->zaj K C "fogs":=fun C hC=>by
  rw [xab] at hC;cases hC;exact xcm
 have xbt:∀ C,W.nsIn K mainGlobals "Valley"=some (some (.ref C))->zaj K C "haze":=fun C hC=>by
  rw [xab] at hC;cases hC;exact xcu
 have xbj:∀ C,W.nsIn K mainGlobals "Valley"=some (some (.ref C))->zaj K C "first":=fun C hC=>by
  rw [xab] at hC;cases hC;exact xcz
 have xbv:∀ C,W.nsIn K mainGlobals "Valley"=some (some (.ref C))->zaj K C "last":=fun C hC=>by
  rw [xab] at hC;cases hC;exact xc1
 have xbp:∀ C,W.nsIn K mainGlobals "Valley"=some (some (.ref C))->zaj K C "delay":=fun C hC=>by
  rw [xab] at hC;cases hC;exact xct
 have xfb:=zis (st:=zbC) xdl xdn xdo
 have zbx:=xfb.binds (ps:=["self","ground","beacons","fogs","haze","first","last","delay"]) fun _ _ _ _ _ _ us hl=>by obtain⟨_,_,_,_,_,_,_,_,rfl⟩:=ztH hl;rfl
 have xj6:=zis (st:=zd9) xig xii xih
 have xao:∀ C,W.nsIn K mainGlobals "OffGround"=some (some (.ref C))->ExC K C:=fun C h=>by
  rw [xby] at h;cases h;exact ExC.of xem
 have xap:∃ C,W.nsIn K mainGlobals "OffGround"=some (some (.ref C))/\mg "OffGround"=some (.ref C):=⟨_,xby,W.mg_of X G xby⟩
 have xd4:∀ C,W.nsIn K mainGlobals "BadHour"=some (some (.ref C))->ExC K C:=fun C h=>by
  rw [xdk] at h;cases h;exact ExC.of xfe
 have xd5:∃ C,W.nsIn K mainGlobals "BadHour"=some (some (.ref C))/\mg "BadHour"=some (.ref C):=⟨_,xdk,W.mg_of X G xdk⟩
 have xc8:∀ C,W.nsIn K mainGlobals "NoBeacon"=some (some (.ref C))->ExC K C:=fun C h=>by
  rw [xca] at h;cases h;exact ExC.of xey
 have xdi:∃ C,W.nsIn K mainGlobals "NoBeacon"=some (some (.ref C))/\mg "NoBeacon"=some (.ref C):=⟨_,xca,W.mg_of X G xca⟩
 have xg:=W.mg_none_of X G xie
 have xac:=W.mg_none_of X G xgz
 have xq:=W.mg_none_of X G xel
 have xah:=W.mg_none_of X G xhm
 have xag:=W.mg_none_of X G xim
 have xeu:=W.mg_none_of X G xiw
 have xhd:=W.mg_none_of X G xh2
 have xhc:=W.mg_none_of X G xic
 have xu:=W.mg_none_of X G xd9
 have xeb:=W.mg_none_of X G xho
 have xfl:=W.mg_none_of X G xgt
 have xhf:=W.mg_none_of X G xiq
 have xa7:=W.mg_none_of X G xil
 have xdt:=W.mg_none_of X G xij
 have xhe:=W.mg_none_of X G xir
 have xbq:∃ t,mg "LEAST_CORNERS"=some (.int 2 t):=⟨_,W.mg_of X G xcb⟩
 have xbu:∃ t,mg "MOST_CORNERS"=some (.int 40 t):=⟨_,W.mg_of X G xcp⟩
 have xbw:∃ t,mg "MOST_BEACONS"=some (.int 12 t):=⟨_,W.mg_of X G xcq⟩
 have xc6:∃ t,mg "MOST_FOGS"=some (.int 12 t):=⟨_,W.mg_of X G xen⟩
 have xbx:∃ t,mg "MOST_LETTERS"=some (.int 8 t):=⟨_,W.mg_of X G xcg⟩
 have xeg:∃ t,mg "LETTERS"=some (.str "abcdefghijklmnopqrstuvwxyz" t):=⟨_,W.mg_of X G xfh⟩
 have xeh:∃ t,mg "NUMBERS"=some (.int 8 t):=⟨_,W.mg_of X G xfi⟩
 have xbg:∃ t,mg "LEFT"=some (.int 0 t):=⟨_,W.mg_of X G xhg⟩
 have xaq:∃ t,mg "RIGHT"=some (.int 1 t):=⟨_,W.mg_of X G xgu⟩
 have xb5:∃ t,mg "LOW"=some (.int 2 t):=⟨_,W.mg_of X G xh9⟩
 have xbf:∃ t,mg "HIGH"=some (.int 3 t):=⟨_,W.mg_of X G xhp⟩
 have xb8:∃ t,mg "FIRST"=some (.int 4 t):=⟨_,W.mg_of X G xg3⟩
 have xea:∃ t,mg "LAST"=some (.int 5 t):=⟨_,W.mg_of X G xhl⟩
 have xfp:∃ t,mg "DRIFT"=some (.int 6 t):=⟨_,W.mg_of X G xgw⟩
 have xga:∃ t,mg "RISE"=some (.int 7 t):=⟨_,W.mg_of X G xhq⟩
 refine⟨W.fnOf "law" "law" (zbw zd9) (zaZ zd9) (zF zd9) .none xiz xi8 xiy xi6 xhn xi5,fun s v=>.of_eq rfl,fun base _ _=>?_⟩
 have xaj:=zaa l.prog w base X G xbz (zjn xg xbz.F)
 have xaa:=zaa l.prog w base X G xc9 (zkY xc9.F)
 have xda:=zaa l.prog w base X G xdc (zk9 xaa xac xq xdc.F)
 have xbo:=zaa l.prog w base X G xbi (zh1 xaj xaa xq xda xbi.F)
 have xal:=zaa l.prog w base X G xam (zfr xg xac xbq xbu xam.F)
 have xb6:zjl l.prog w K mg base 2 "Ground" (upF K Dp.zeR):=⟨⟨_,_,_,_,_,⟨xcx,xcr,xcl,xcs⟩,zi5 xal xa0 xah xfa,zbB,W.mg_of X G xbh,zl3 ⟨xch,xco,xce,xcv⟩ xbh⟩⟩
 have xak:=zaa l.prog w base X G xan (zfo xg xbw xc6 xan.F)
 have xed:=zaa l.prog w base X G xei (zmX xg xbx xeg xag xei.F)
 have xau:=zaa l.prog w base X G xat (zgg xg xag xed xeu xat.F)
 have xbr:=zaa l.prog w base X G xgh (zqK xgh.F)
 have xci:=zaa l.prog w base X G xfk (zoQ xbr xfk.F)
 have xbe:=zaa l.prog w base X G xbb (zhv xhd xbb.F)
 have xd1:=zaa l.prog w base X G xd2 (zld xbe xd2.F)
 have xdh:=zaa l.prog w base X G xc7 (zkS xd1 xc7.F)
 have xdd:=zdI l.prog w base X G xdf (zk1 xbr xci xdh xao xap xdf.F)
 have xb7:=zaa l.prog w base X G xe4 (zm6 xbr xci xdd xe4.F)
 have xaz:=zaa l.prog w base X G xa6 (zgK xag xb7 xa6.F)
 have xds:=zaa l.prog w base X G xd6 (zlc xhc xu xeb xd6.F)
 have xe5:=zaa l.prog w base X G xe8 (zof xg xag xu xds xeh xbg xaq xb5 xbf xb8 xea xfl xe8.F)
 have xa5:=zaa l.prog w base X G xa3 (zgn xag xe5 xa3.F)
 have xas:=zaa l.prog w base X G xav (zgf xav.F)
 have xet:zjl l.prog w K mg base 7 "Valley" (upF K Dp.zgM):=⟨⟨_,_,_,_,_,⟨xcw,xc4,xcd,xck⟩,ziS xah xb6 xak xau xaz xa5 xas xa8 xax xbs xbt xbj xbv xbp xfb,zbx,W.mg_of X G xab,zl3 ⟨xcn,xcj,xc3,xc2⟩ xab⟩⟩
 have xb9:=zaa l.prog w base X G xcc (zjR xb6 xet xhf xcc.F)
 have xae:=zdI l.prog w base X G xbc (zho xd4 xd5 xbc.F)
 have xba:=zaa l.prog w base X G xd3 (zly xd3.F)
 have xdz:=zaa l.prog w base X G xd8 (zlj xq xba xd8.F)
 have xdj:=zdI l.prog w base X G xej (zm0 xc8 xdi xej.F)
 have xaf:=zdI l.prog w base X G xai (ze4 xao xap xb7 xai.F)
 have xay:=zaa l.prog w base X G xa4 (zgI xq xa7 xdt xa4.F)
 have xek:=zaa l.prog w base X G xef (zm3 xef.F)
 have xe1:=zdI l.prog w base X G xez (zm7 xaf xay xek xez.F)
 have xa9:=zaa l.prog w base X G xbd (zhl xbd.F)
 have xbl:=zaa l.prog w base X G xbn (zhT xe1 xa9 xbn.F)
 have xfm:=zaa l.prog w base X G xfq (zoB xbg xaq xb5 xbf xfp xga xfq.F)
 have xex:=zaa l.prog w base X G xe6 (zos xb8 xea xfm xe6.F)
 have xee:=zaa l.prog w base X G xec (zmR xbg xaq xb5 xbf xa7 xdt xec.F)
 have xfn:=zaa l.prog w base X G xfo (zo2 xa7 xee xfo.F)
 have xaw:=zdI l.prog w base X G xe9 (znV xq xae xdj xbl xex xfn xe9.F)
 have xev:=zdI l.prog w base X G xe7 (zn5 xae xdz xaw xe7.F)
 have xdu:=zaa l.prog w base X G xdr (zlB xev xdr.F)
 have xde:=zaa l.prog w base X G xdb (zkU xdb.F)
 have xdw:=zaa l.prog w base X G xd0 (zlm xg xac xa7 xd0.F)
 have xdy:=zaa l.prog w base X G xdx (zlk xg xaa xac xdx.F)
 have xb0:=zaa l.prog w base X G xb3 (zjm xg xah xb3.F)
 have xbm:=zaa l.prog w base X G xbk (zhS xaw xbk.F)
 have xar:=zaa l.prog w base X G xb2 (zjo xg xac xag xeu xba xaw xbm xb2.F)
 have xd7:=zaa l.prog w base X G xdv (zlA xg xq xah xu xhe xdv.F)
 exact zsK xaj xaa xac xbo xah xag xu xeb xb9 xdu xde xdw xdy xb0 xar xd7 xj6
theorem walk {l:W.OpenLaw}{q:Program}{loose:List Str}{XP:(Str->Option Value)->Heap->Prop}{YP:World->Heap->Prop}{d:DefRec}{K:Params->W.Frag}(hn:l.most=some 63)(hdf:d.params.defaults=[])
  (hY:∀ (w:World) (h:Heap),YP w h->(K w.params).In h)
  (F:∀ (w:World) (mg:Str->Option Value) (fa:Addr) (h:Heap),(K w.params).In h->h.Ns mainGlobals mg->mg d.name=some (.ref fa) ->
   ∃ fd:FuncData,(∀ (s:Shared) (u:Value),BindsTo s fd ⟨[u],[]⟩ [("script",u)])/\∀ base:Heap,(K w.params).In base->base.Ns mainGlobals mg->zW l.prog w (K w.params) mg base CX0 12 fa fd ["script"] (upF (K w.params) Dp.zez)) :
  W.WalkO q loose XP YP l.row.toRowW d [] (fun f vs=>PySem.call f vs) :=
 Dp.zpd (n:=63) (k:=12) (x:="script") (sp:=fun w=>upF (K w.params) Dp.zez) hn (by decide) hdf ⟨rfl,by decide,by decide⟩ hY F fun _ _ _ _ hl hg hO hS=>zsn hl hg hO hS
end Law
local macro_rules | `(tactic| walk_at "fh")=>`(tactic| (refine' Dp.ztd ?fa ?fl ?fc ?fk;(case fa=>k_is);(case fl=>k_is);(case fc=>k_is);(case fk=>k_is)))
open PySem PySem.W PyProof.Rows
namespace PySem.W.Fast
def tw9779816035666158509:=()
def tw761200393467202743:=()
def tw5243482960391547912:=()
def tw16287649491679261775:=()
def tw15961016464487783282:=()
def tw10797561937453584198:=()
def tw16900970556520675093:=()
def tw5803772643504459591:=()
def tw9196304835641743907:=()
def tw7590901070781598332:=()
def tw2155187449407767640:=()
def tw4429059095331819208:=()
def tw3182129261847415692:=()
def tw17441524752559722295:=()
def tw8215992002141800485:=()
def tw117679318209533560:=()
def tw6456194844345904068:=()
def tw3648633948255827358:=()
def tw3485942312694040971:=()
def tw12334817375818852109:=()
def tw15775544205258947358:=()
def tw13622659269334615249:=()
def tw6187768323147033025:=()
def tw11460833211916545370:=()
def tw13975369303027171872:=()
def tw4560921308359340519:=()
def tw14958394317207402436:=()
def tw2236054807922744689:=()
def tw4790458235224929744:=()
def tw7750072689283329330:=()
def tw16728115800411219667:=()
def tw8777109279618736539:=()
def tw10331074934783708467:=()
def tw1360510572598635713:=()
def tw7146898085109205671:=()
def tw11286635999278185689:=()
def tw7325550683934472861:=()
def tw15749356457037701622:=()
def tw267325608269536833:=()
def tw13157798250473160927:=()
def tw6352751845953263279:=()
def tw11204771177153484607:=()
def tw15381923724679849996:=()
def tw5734690356535372630:=()
def tw6319095024512964539:=()
def tw13348861297261471371:=()
def tw17758910908062509774:=()
def tw7249678652723558538:=()
def tw11716740975590461621:=()
def tw18022914858534029914:=()
def tw8967111597276997429:=()
def tw7213435398228162308:=()
def tw11224962339625291415:=()
def tw1202373713901724541:=()
def tw5802747236615157276:=()
def tw6736620292619486388:=()
def tw8179104536631792560:=()
def tw17092556229039157442:=()
def tw17411676054747804641:=()
def tw6236755437762164650:=()
def tw4301700236600659348:=()
def tw4736055679690503175:=()
def tw15669805700166836114:=()
def tw3281728227146415744:=()
def tw17664809812266020835:=()
def tw13438243839575791474:=()
def tw11581463241868941220:=()
def tw16686803630824995959:=()
def tw5322772857622227131:=()
def tw732760153406390565:=()
def tw4157339709788822345:=()
def tw16515466709922713111:=()
def tw5361765216665476312:=()
def tw18328795459566336886:=()
def tw1805190279961227619:=()
def tw5872818077036011331:=()
def tw1754248022588818629:=()
def tw1198373050341706238:=()
def tw3622750795607883646:=()
def tw12288072448553939221:=()
def tw3592333609419560776:=()
def tw11945682336184084675:=()
def tw13197153184440549779:=()
def tw1562954144664046755:=()
def tw1534619608417104938:=()
def tw10317680252861268910:=()
def tw9090032954002570444:=()
def tw6587954063078970945:=()
def tw18100182521534562001:=()
def tw989494916562466169:=()
def tw10967450403568053466:=()
def tw15080145341130747945:=()
def tw75387283841812736:=()
def tw9572091063801654205:=()
def tw12834327237880249915:=()
def tw4782036139941262202:=()
def tw7330282297637163479:=()
def tw14935327640223734112:=()
def tw14970227666556850161:=()
def tw14529504771719893174:=()
def tw10398173455264788986:=()
def tw9671474177321739028:=()
def tw3895094209062081826:=()
def tw1026650047447846781:=()
def tw16290303710814519603:=()
def tw11713434533310520700:=()
def tw3503840238694739264:=()
def tw17477011705475203132:=()
def tw2700955806412757436:=()
def tw12587756373118935412:=()
def tw16447424638453342211:=()
def tw2014472153085719990:=()
def tw16010202921271838339:=()
def tw5522476636528901818:=()
def tw13573967375690674236:=()
def tw16498177752123873865:=()
def tw9995185732473478459:=()
def tw16699631530164097513:=()
def tw5578206132829711018:=()
def tw7335410480539097506:=()
def tw13045563437194329526:=()
def tw17273409308202935147:=()
def tw7335714825517746981:=()
def tw15622970824637542958:=()
def tw184018463939952018:=()
def tw12326546853730473299:=()
def tw7188507977257730676:=()
def tw14642326099122391433:=()
def tw7309201162438813377:=()
def tw16904289005372873868:=()
def tw1069042727428596073:=()
def tw9728361510935346657:=()
def tw1669307289030453887:=()
def tw7702418351772860319:=()
def tw14599213683391922896:=()
def tw17035188200329114266:=()
def tw13922390536828684448:=()
def tw6296518300232666370:=()
def tw2373728147532521677:=()
def tw1911155970315134006:=()
def tw7804232158001577912:=()
def tw14488277937297893445:=()
def tw12500598848416647384:=()
def tw6709773533712133589:=()
end PySem.W.Fast
set_option maxRecDepth 100000 in
set_option maxHeartbeats 0 in
theorem PySem.Challenge.cw_beaconvale_k77_roads_walked_holds : PySem.Challenge.rw_beaconvale_k77_roads_walked.Holds := by
 w_on; o_law; k_head; (case hw => w_witness2)
 k_fill
 refine Law.walk (l := PySem.Challenge.rw_beaconvale_k77_roads_walked) rfl rfl (fun w h Y => PySem.W.kIn_of Y) ?F
 case F =>
  intro w mg fa h KX G hmg
  refine' Law.all_mk KX G hmg ?ae ?af ?ai ?ak ?am ?ao ?aq ?ar ?ax ?ay ?aA ?aB ?aC ?aD ?aE ?aF ?aG ?aH ?aI ?aJ ?aK ?aL ?aM ?aN ?aO ?aP ?aQ ?aR ?aS ?aT ?aU ?aV ?aW ?aX ?aY ?aZ ?a8 ?a9 ?be ?bf ?bi ?bj ?bp ?br ?bu ?bv ?bw ?bx ?bA ?bC ?bD ?bE ?bF ?bG ?bH ?bI ?bJ ?bK ?bM ?bN ?bO ?bP ?bQ ?bS ?bU ?bV ?bW ?bX ?bY ?bZ ?b7 ?b8 ?b9 ?cc ?ce ?cf ?cg ?cj ?ck ?cq ?cr ?cu ?cv ?cw ?cx ?cy ?cz ?cA ?cB ?cC ?cD ?cE ?cF ?cG ?cH ?cI ?cJ ?cK ?cL ?cM ?cN ?cO ?cP ?cQ ?cR ?cS ?cT ?cU ?cV ?cW ?cX ?cY ?cZ ?c6 ?c7 ?c8 ?c9
  case cu|cw|cy|ao|aX|aA|be=>k_is
  case ae|af|ai|ak|am=>walk_at "fh"
  case aq|ar|ax|ay|aB|aC|aD|aE|aF|aG|aH=>k_is
  case aI|aJ|aK|aL|aM|aN|aO|aP|aQ|aR|aS|aT|aU|aV|aW=>walk_at "fh"
  case aY|aZ|a8|a9|bf|bi|bj|bp|br|bu|bv|bw|bx|bA|bC|bD|bE=>k_is
  case bF|bG|bH|bI|bJ|bK|bM|bN|bO|bP|bQ|bS|bU|bV|bW|bX|bY|bZ|b7|b8|b9|cc|ce|cf|cg=>walk_at "fh"
  case cj|ck|cq|cr=>k_is
  case cv|cx|cz=>kernel_rfl
  case cA|cB|cC|cD|cE|cF|cG|cH|cI|cJ|cK|cL|cM|cN|cO|cP|cQ|cR|cS|cT|cU|cV|cW|cX|cY|cZ|c6|c7|c8|c9=>k_is
#print axioms PySem.Challenge.cw_beaconvale_k77_roads_walked_holds
