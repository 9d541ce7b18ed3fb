import PyProof.Rows.All
import Wide.All
import OpenK.AllK
import Wide.FinOn
import Lean
import PyProof.EqAt
import PyProof.EqKinds
import PyProof.TupleCall
import PyProof.NeData
import PyProof.P3Eq
import PyProof.StrLawsIn
import PySem.Challenge.RW_beaconvale_k41_valleys_refused
set_option Elab.async false
set_option linter.all false
set_option maxRecDepth 100000
set_option maxHeartbeats 4000000
set_option Elab.async false
set_option linter.all false
set_option maxRecDepth 100000
namespace L2
open PySem PySem.Spec PyProof.Rows
abbrev Key:=Sum Int Str
def zmm:Key->Value->Bool
 | .inl k,v=>Value.isInt k v
 | .inr x,v=>Value.isStrOf x v
def zrf (w:World):Key->Int
 | .inl k=>hashInt k
 | .inr x=>hashStr w x
theorem zaF:∀ {k:Key} {v:Value},zmm k v=true->(∃ i t,k=Sum.inl i/\v=Value.int i t)\/(∃ x t,k=Sum.inr x/\v=Value.str x t)
 | .inl i,v,h=>by
  obtain⟨t,e⟩:=Value.isInt_shape (k:=i) (v:=v) h
  exact .inl ⟨i,t,rfl,e⟩
 | .inr x,v,h=>by
  obtain⟨t,e⟩:=Value.isStrOf_shape (x:=x) (v:=v) h
  exact .inr ⟨x,t,rfl,e⟩
theorem zn4 (a b:Int):decide ((Sum.inl a:Key)=Sum.inl b)=(a==b):=by
 by_cases e:a=b
 ·subst e;simp
 ·have h:¬ (Sum.inl a:Key)=Sum.inl b:=fun q=>e (Sum.inl.inj q)
  rw [decide_eq_false h]
  exact (beq_eq_false_iff_ne.mpr e).symm
theorem zpk (a b:Str):decide ((Sum.inr a:Key)=Sum.inr b)=decide (a=b):=by
 by_cases e:a=b
 ·subst e;simp
 ·have h:¬ (Sum.inr a:Key)=Sum.inr b:=fun q=>e (Sum.inr.inj q)
  rw [decide_eq_false h,decide_eq_false e]
theorem zo7 (a:Int)(b:Str):decide ((Sum.inl a:Key)=Sum.inr b)=false:=decide_eq_false (fun q=>nomatch q)
theorem zoC (a:Str)(b:Int):decide ((Sum.inr a:Key)=Sum.inl b)=false:=decide_eq_false (fun q=>nomatch q)
def zjj (prog:Program)(w:World):PySem.KeyKind prog w Key where
  is:=zmm
  hash:=zrf w
  inj:=fun v a b ha hb=>by
    rcases zaF ha with ⟨i,t,rfl,rfl⟩ | ⟨x,t,rfl,rfl⟩
    · rcases zaF hb with ⟨j,u,rfl,e⟩ | ⟨y,u,rfl,e⟩
      · injection e with e1 _;rw [e1]
      · exact nomatch e
    · rcases zaF hb with ⟨j,u,rfl,e⟩ | ⟨y,u,rfl,e⟩
      · exact nomatch e
      · injection e with e1 _;rw [e1]
  byValue:=fun k v h=>by
    rcases zaF h with ⟨i,t,rfl,rfl⟩ | ⟨x,t,rfl,rfl⟩<;>rfl
  pyHash:=fun hv h=>by
    rcases zaF hv with ⟨i,t,rfl,rfl⟩ | ⟨x,t,rfl,rfl⟩
    · exact wpAny_pyHash_int h
    · exact wpAny_pyHash_str h
  eqBool:=fun hu hv h=>by
    rcases zaF hu with ⟨i,t,rfl,rfl⟩ | ⟨x,t,rfl,rfl⟩
    · rcases zaF hv with ⟨j,u,rfl,rfl⟩ | ⟨y,u,rfl,rfl⟩
      · rw [zn4] at h;exact wpAny_eqBool_int h
      · rw [zo7] at h;exact SeqAt.EqAt.int_str i t y u _ _ _ _ h
    · rcases zaF hv with ⟨j,u,rfl,rfl⟩ | ⟨y,u,rfl,rfl⟩
      · rw [zoC] at h;exact SeqAt.EqAt.str_int x t j u _ _ _ _ h
      · rw [zpk] at h;exact wpAny_eqBool_str h
  «strs»:=fun k x t v h=>by
    rcases zaF h with ⟨i,u,rfl,e⟩ | ⟨y,u,rfl,e⟩
    · exact nomatch e
    · injection e with e1 _
      subst e1
      cases v<;>rfl
inductive V where
 | non | bl (b:Bool) | int (i:Int) | str (x:Str) | byt (b:Array UInt8) | flt (b:UInt64) | ref (a:Addr) | ty (n:String)
 deriving DecidableEq
def RelV:V->Value->Prop
 | .non,u=>u=Value.none
 | .bl b,u=>u=Value.bool b
 | .int i,u=>∃ t,u=Value.int i t
 | .str x,u=>∃ t,u=Value.str x t
 | .byt b,u=>∃ t,u=Value.bytes b t
 | .flt b,u=>∃ t,u=Value.float b t
 | .ref a,u=>u=Value.ref a
 | .ty n,u=>u=Value.type n
abbrev Vals:List V->List Value->Prop:=Paired RelV
theorem Vals.length {xs:List V}{us:List Value}(r:Vals xs us):xs.length=us.length:=Paired.length r
theorem Vals.get:∀ {xs:List V} {us:List Value} {i:Nat} {x:V},Vals xs us->xs[i]?=some x->∃ u,us[i]?=some u/\RelV x u
 | _,_,_,_,.nil,e=>by simp at e
 | _,_,0,_,.cons r _,e=>by simp at e;subst e;exact⟨_,rfl,r⟩
 | _,_,i+1,x,.cons _ t,e=>by
  obtain⟨u,h1,h2⟩:=Vals.get (i:=i) (x:=x) t (by simpa using e)
  exact⟨u,by simpa using h1,h2⟩
theorem Vals.set {x:V}{u:Value}(r:RelV x u):∀ {xs:List V} {us:List Value} (i:Nat),Vals xs us->Vals (xs.set i x) (us.set i u)
 | _,_,_,.nil=>.nil
 | _,_,0,.cons _ t=>.cons r t
 | _,_,i+1,.cons q t=>.cons q (Vals.set r i t)
theorem Vals.append:∀ {xs ys:List V} {us ws:List Value},Vals xs us->Vals ys ws->Vals (xs++ys) (us++ws)
 | _,_,_,_,.nil,s=>s
 | _,_,_,_,.cons r t,s=>.cons r (Vals.append t s)
theorem Vals.take:∀ {xs:List V} {us:List Value} (n:Nat),Vals xs us->Vals (xs.take n) (us.take n)
 | _,_,0,_=>.nil
 | _,_,_+1,.nil=>.nil
 | _,_,n+1,.cons r t=>.cons r (Vals.take n t)
theorem Vals.drop:∀ {xs:List V} {us:List Value} (n:Nat),Vals xs us->Vals (xs.drop n) (us.drop n)
 | _,_,0,r=>r
 | _,_,_+1,.nil=>.nil
 | _,_,n+1,.cons _ t=>Vals.drop n t
def zfZ:Option V->Option Value->Prop
 | some v,some u=>RelV v u
 | none,none=>True
 | _,_=>False
def KV {κ:Type}:List (κ×V)->List (κ×Value)->Prop:=Paired fun (p:κ×V) (q:κ×Value)=>p.1=q.1/\RelV p.2 q.2
def kV:Key->V
 | .inl i=>.int i
 | .inr x=>.str x
inductive HO where
 | lst (xs:List V)
 | tup (xs:List V)
 | dK (kvs:List (Key×V)) | dT (kvs:List (List Key×V))
 | set (S:Int->Bool) (n:Nat)
 | ins (C dx:Addr) (fs:List (Str×V))
 | own (x:Addr)
 | xd (fs:List (Str×V))
 | met (f x:Addr)
 | rng (lo hi:Int)
 | frz (o:Obj) (u:HO)
 | tbl (ps:Array Value)
 | ext (φ:Heap->Prop)
abbrev Hp:=Addr->Option HO
def upd (H:Hp)(a:Addr)(o:HO):Hp:=fun b=>if b=a then some o else H b
theorem zaP {H:Hp}{a:Addr}{o:HO}:upd H a o a=some o:=by unfold upd;rw [if_pos rfl]
theorem zW {H:Hp}{a b:Addr}{o:HO}(h:b≠a):upd H a o b=H b:=by unfold upd;rw [if_neg h]
theorem zfA {H:Hp}{a b:Addr}{o u:HO}(h:H a=some o)(h':H b=some u)(d:o≠u):a≠b:=by
 intro e;subst e;rw [h] at h';exact d (Option.some.inj h')
theorem zaW {H:Hp}{a b:Addr}{o:HO}(h:H a=some o)(h':H b=none):a≠b:=by
 intro e;subst e;rw [h] at h';cases h'
section
variable (P:Program)(w:World)
def zaT (H:Hp)(h:Heap)(a:Addr):HO->Prop
 | .lst xs=>xs.length<=sizeLine/\∃ (its:List Value) (n:Nat),Vals xs its/\h.get? a=some { cls:=.type "list",data:=.seq its.toArray n }
 | .tup xs=>xs.length<=sizeLine/\∃ its:List Value,Vals xs its/\IsTup h a its.toArray
 | .dK kvs=>kvs.length<=sizeLine/\(a==sysModules)=false/\∃ vs,KV kvs vs/\h.DictOf (zjj P w) a vs
 | .dT kvs=>kvs.length<=sizeLine/\(a==sysModules)=false/\∃ xs:List (List Key×Addr×Value),
   Paired (fun (p:List Key×V) (q:List Key×Addr×Value)=>p.1=q.1/\H q.2.1=some (.tup (p.1.map kV))/\RelV p.2 q.2.2) kvs xs /\
   ∃ o es ep,h.get? a=some o/\o.ExactDict/\o.data=.dict es ep/\es.toList=xs.map (entryOfKey (tupleKind (zjj P w)))/\(xs.map (·.1)).Nodup
 | .set S n=>h.SetOf (intKind P w) a S n
 | .ins C dx fs=>H dx=some (.own a)/\fs.length<=1000/\dx≠a/\h.get? a=some (PySem.W.instObj C dx) /\
   ∃ mA,h.Ns1 dx mA/\(∀ f,zfZ (fs.lookup f) (mA f))/\PySem.Within mA (fs.map (·.1))
 | .own _=>∃ o,h.get? a=some o
 | .xd fs=>∃ mA,h.Ns1 a mA/\∀ f,zfZ (fs.lookup f) (mA f)
 | .rng lo hi=>∃ t u v,h.get? a=some { cls:=.type "range",data:=.fields #[.int lo t,.int hi u,.int 1 v] }
 | .frz o u=>h.get? a=some o/\zaT H h a u
 | .tbl ps=>h.get? a=some { cls:=.none,data:=.fields ps }
 | .met f x=>h.get? a=some (PySem.W.methodObj (.ref f) (.ref x))
 | .ext φ=>φ h/\(∃ o,h.get? a=some o)/\∀ h1 h2:Heap,φ h1->(∀ o,h1.get? a=some o->h2.get? a=some o)->φ h2
def HOk (H:Hp)(h:Heap):Prop:=∀ a o,H a=some o->zaT P w H h a o
end
section
variable {P:Program}{w:World}{H H':Hp}{h h':Heap}{a:Addr}{o:HO}
theorem zaT.lt (x:zaT P w H h a o):a<h.objs.size:=by
 cases o with
 | lst xs=>obtain⟨_,_,_,_,e⟩:=x;exact Heap.lt_size e
 | tup xs=>obtain⟨_,_,_,p⟩:=x;exact p.lt
 | dK kvs=>obtain⟨_,_,_,_,o,_,_,e,_⟩:=x;exact Heap.lt_size e
 | dT kvs=>obtain⟨_,_,_,_,o,_,_,e,_⟩:=x;exact Heap.lt_size e
 | set S n=>obtain⟨o,_,_,_,e,_⟩:=x;exact Heap.lt_size e
 | ins C dx fs=>obtain⟨_,_,_,e,_⟩:=x;exact Heap.lt_size e
 | own y=>obtain⟨_,e⟩:=x;exact Heap.lt_size e
 | xd fs=>obtain⟨_,⟨_,_,_,e,_⟩,_⟩:=x;exact Heap.lt_size e
 | rng lo hi=>obtain⟨_,_,_,e⟩:=x;exact Heap.lt_size e
 | frz ob u=>obtain⟨e,_⟩:=x;exact Heap.lt_size e
 | tbl ps=>exact Heap.lt_size (show h.get? a=some _ from x)
 | met f y=>exact Heap.lt_size (show h.get? a=some _ from x)
 | ext φ=>obtain⟨_,⟨_,e⟩,_⟩:=x;exact Heap.lt_size e
theorem Paired.mapP {α β:Type}{F G:α->β->Prop}:∀ {l₁:List α} {l₂:List β},Paired F l₁ l₂->(∀ a b,F a b->G a b)->Paired G l₁ l₂
 | _,_,.nil,_=>.nil
 | _,_,.cons r t,f=>.cons (f _ _ r) (Paired.mapP t f)
theorem zaT.stay (x:zaT P w H h a o)(k:∀ b u,(b=a\/H b=some (.own a))->h.get? b=some u->h'.get? b=some u)
  (ho:∀ b,H b=some (.own a)->H' b=some (.own a)) (ht:∀ b xs,H b=some (.tup xs)->H' b=some (.tup xs)):zaT P w H' h' a o:=by
 induction o with
 | lst xs=>obtain⟨z,its,n,r,e⟩:=x;exact⟨z,its,n,r,k _ _ (.inl rfl) e⟩
 | tup xs=>obtain⟨z,its,r,ob,e,c⟩:=x;exact⟨z,its,r,ob,k _ _ (.inl rfl) e,c⟩
 | dK kvs=>obtain⟨z,y,vs,r,ob,es,ep,e,c⟩:=x;exact⟨z,y,vs,r,ob,es,ep,k _ _ (.inl rfl) e,c⟩
 | dT kvs =>
  obtain⟨z,y,xs,r,ob,es,ep,e,c⟩:=x
  exact⟨z,y,xs,Paired.mapP r fun p q z=>⟨z.1,ht _ _ z.2.1,z.2.2⟩,ob,es,ep,k _ _ (.inl rfl) e,c⟩
 | set S n=>obtain⟨ob,es,ep,t,e,c⟩:=x;exact⟨ob,es,ep,t,k _ _ (.inl rfl) e,c⟩
 | ins C dx fs =>
  obtain⟨d,z,ne,e,mA,⟨od,es,ep,e2,c⟩,r⟩:=x
  exact⟨ho _ d,z,ne,k _ _ (.inl rfl) e,mA,⟨od,es,ep,k _ _ (.inr d) e2,c⟩,r⟩
 | own y=>obtain⟨ob,e⟩:=x;exact⟨ob,k _ _ (.inl rfl) e⟩
 | xd fs=>obtain⟨mA,⟨od,es,ep,e,c⟩,r⟩:=x;exact⟨mA,⟨od,es,ep,k _ _ (.inl rfl) e,c⟩,r⟩
 | rng lo hi=>obtain⟨t,u,v,e⟩:=x;exact⟨t,u,v,k _ _ (.inl rfl) e⟩
 | frz ob u ih=>obtain⟨e,q⟩:=x;exact⟨k _ _ (.inl rfl) e,ih q⟩
 | tbl ps =>
  have e:h.get? a=some { cls:=.none,data:=.fields ps }:=x
  show h'.get? a=some { cls:=.none,data:=.fields ps }
  exact k a _ (.inl rfl) e
 | met f y =>
  have e:h.get? a=some (PySem.W.methodObj (.ref f) (.ref y)):=x
  show h'.get? a=some (PySem.W.methodObj (.ref f) (.ref y))
  exact k a _ (.inl rfl) e
 | ext φ=>obtain⟨p,⟨o,e⟩,st⟩:=x;exact⟨st _ _ p fun o q=>k _ _ (.inl rfl) q,⟨o,k _ _ (.inl rfl) e⟩,st⟩
theorem HOk.lt (x:HOk P w H h)(e:H a=some o):a<h.objs.size:=(x a o e).lt
theorem HOk.fresh (x:HOk P w H h)(e:h.objs.size<=a):H a=none:=by
 cases q:H a with
 | none=>rfl
 | some u=>exact absurd (Nat.lt_of_lt_of_le (x.lt q) e) (Nat.lt_irrefl _)
theorem HOk.kept (x:HOk P w H h)(k:∀ b u,h.get? b=some u->h'.get? b=some u):HOk P w H h':=fun a o e =>
 (x a o e).stay (fun b u _ q=>k b u q) (fun _ q=>q) fun _ _ q=>q
theorem HOk.laid (x:HOk P w H h)(k:∀ b u,h.get? b=some u->h'.get? b=some u)(hp:h.objs.size<=a)(new:zaT P w (upd H a o) h' a o):HOk P w (upd H a o) h':=fun b u e=>by
 have hn:=x.fresh hp
 by_cases hb:b=a
 ·subst hb;rw [zaP] at e;cases e;exact new
 ·rw [zW hb] at e
  exact (x b u e).stay (fun c v _ q=>k c v q) (fun c q=>by rw [zW (zaW q hn)];exact q) fun c xs q=>by rw [zW (zaW q hn)];exact q
end
def Rd (H:Hp)(a:Addr)(u:HO):Prop:=H a=some u\/∃ o,H a=some (.frz o u)
theorem Rd.ok {P:Program}{w:World}{H:Hp}{h:Heap}{a:Addr}{u:HO}(r:Rd H a u)(x:HOk P w H h):zaT P w H h a u:=by
 rcases r with r | ⟨o,r⟩
 ·exact x a u r
 ·obtain⟨_,q⟩:=x a _ r
  exact q
def Mut:Option HO->Prop
 | some (.lst _)=>True
 | some (.dK _)=>True
 | some (.dT _)=>True
 | some (.set _ _)=>True
 | some (.ins _ _ _)=>True
 | some (.ext _)=>True
 | _=>False
section
variable {P:Program}{w:World}{H:Hp}{h h':Heap}{x e:Addr}{o':HO}
theorem HOk.write (ok:HOk P w H h)(mu:Mut (H x))(he:e=x\/H e=some (.own x))(k:∀ b u,b≠e->h.get? b=some u->h'.get? b=some u)(heo:∃ u,h'.get? e=some u)
  (new:zaT P w (upd H x o') h' x o'):HOk P w (upd H x o') h':=fun b u q=>by
 have nown:∀ c y,H c=some (.own y)->c≠x:=fun c y r z=>by subst z;rw [r] at mu;exact mu
 have ntup:∀ c xs,H c=some (.tup xs)->c≠x:=fun c xs r z=>by subst z;rw [r] at mu;exact mu
 by_cases hb:b=x
 ·subst hb;rw [zaP] at q;cases q;exact new
 ·rw [zW hb] at q
  by_cases hbe:b=e
  ·have q':H b=some (.own x):=by
    rcases he with z | z
    ·exact absurd (hbe.trans z) hb
    ·rw [hbe];exact z
   rw [q] at q';cases q'
   obtain⟨v,hv⟩:=heo
   exact⟨v,by rw [hbe];exact hv⟩
  ·refine (ok b u q).stay (fun c v hc r=>k c v ?_ r) (fun c r=>by rw [zW (nown c b r)];exact r) fun c xs r=>by rw [zW (ntup c xs r)];exact r
   rcases hc with rfl | hc
   ·exact hbe
   ·rintro rfl
    rcases he with z | z
    ·exact nown c b hc z
    ·rw [hc] at z;cases z;exact hb rfl
end
structure Un (fs ex:List Addr)(H H':Hp)(h h':Heap):Prop where
 keep:∀ b o,h.get? b=some o->H b=none->b∉fs->b∉ex->h'.get? b=some o
 slot:∀ b o,h.get? b=some o->H b=none->b∈fs->b∉ex->∃ sl,h'.get? b=some { o with slots:=sl }
 free:∀ b o,h.get? b=some o->H b=none->b∉ex->H' b=none
 there:∀ b o,h.get? b=some o->b∉ex->∃ o',h'.get? b=some o'
 tups:∀ b xs,H b=some (.tup xs)->H' b=some (.tup xs)
 frzs:∀ b o u,H b=some (.frz o u)->H' b=some (.frz o u)
 tbls:∀ b ps,H b=some (.tbl ps)->∃ more,H' b=some (.tbl (ps++more))
section
variable {fs fs' ex ex':List Addr}{H H1 H2:Hp}{h h1 h2 h':Heap}{a x e:Addr}{o:HO}
theorem Un.any (u:Un fs ex H H1 h h1){b:Addr}{ob:Obj}(q:h.get? b=some ob)(n:H b=none)(hx:b∉ex):∃ sl,h1.get? b=some { ob with slots:=sl }:=by
 by_cases hb:b∈fs
 ·exact u.slot b ob q n hb hx
 ·exact⟨ob.slots,u.keep b ob q n hb hx⟩
theorem Un.kept (k:∀ b u,h.get? b=some u->h'.get? b=some u):Un fs ex H H h h' :=
 ⟨fun b ob q _ _ _=>k b ob q,fun b ob q _ _ _=>⟨ob.slots,k b ob q⟩,fun _ _ _ n _=>n,fun b ob q _=>⟨ob,k b ob q⟩,fun _ _ q=>q,fun _ _ _ q=>q,fun _ ps q=>⟨#[],by rw [q];simp⟩⟩
theorem Un.refl:Un fs ex H H h h:=Un.kept fun _ _ q=>q
theorem Un.laid (k:∀ b u,h.get? b=some u->h'.get? b=some u)(hp:h.objs.size<=a)(hn:H a=none):Un fs ex H (upd H a o) h h' where
 keep:=fun b u q _ _ _=>k b u q
 slot:=fun b u q _ _ _=>⟨u.slots,k b u q⟩
 free:=fun b u q n _=>by rw [zW (Nat.ne_of_lt (Nat.lt_of_lt_of_le (Heap.lt_size q) hp))];exact n
 there:=fun b u q _=>⟨u,k b u q⟩
 tups:=fun b xs q=>by rw [zW (zaW q hn)];exact q
 frzs:=fun b u xs q=>by rw [zW (zaW q hn)];exact q
 tbls:=fun b ps q=>⟨#[],by rw [zW (zaW q hn),q];simp⟩
theorem Un.write (mu:Mut (H x))(he:e=x\/H e=some (.own x))(k:∀ b u,b≠e->h.get? b=some u->h'.get? b=some u)(heo:∃ u,h'.get? e=some u):Un fs ex H (upd H x o) h h':=by
 have hx:∀ b,H b=none->b≠x:=fun b n z=>by subst z;rw [n] at mu;exact mu
 have hb:∀ b,H b=none->b≠e:=fun b n z=>by
  subst z
  rcases he with r | r
  ·exact hx b n r
  ·rw [n] at r;cases r
 have hm:∀ b u,H b=some u->¬ Mut (some u)->b≠x:=fun b u q nm z=>by subst z;rw [q] at mu;exact nm mu
 refine⟨fun b u q n _ _=>k b u (hb b n) q,fun b u q n _ _=>⟨u.slots,k b u (hb b n) q⟩,fun b u q n _=>by rw [zW (hx b n)];exact n,fun b u q _=>?_,
  fun b xs q=>by rw [zW (hm b _ q fun z=>z)];exact q,fun b u xs q=>by rw [zW (hm b _ q fun z=>z)];exact q,fun b ps q=>⟨#[],by rw [zW (hm b _ q fun z=>z),q];simp⟩⟩
 by_cases hbe:b=e
 ·subst hbe;exact heo
 ·exact⟨u,k b u hbe q⟩
end
def trk (h:Heap)(H:Hp):List Addr:=(List.range h.objs.size).filter fun a=>(H a).isSome
def zeL (h:Heap)(H:Hp):Heap:=PySem.W.hideAll h (trk h H)
theorem zkI (h:Heap)(H:Hp):(zeL h H).objs.size=h.objs.size:=PySem.W.hideAll_size _ _
theorem zlK {h:Heap}{H:Hp}{b:Addr}{o:Obj}(e:h.get? b=some o)(n:H b=none):(zeL h H).get? b=some o :=
 PySem.W.hideAll_get _ e fun hm=>by
  have q:(H b).isSome=true:=(List.mem_filter.mp hm).2
  rw [n] at q;simp at q
theorem znk {h:Heap}{H:Hp}{b:Addr}{o:Obj}(e:(zeL h H).get? b=some o):h.get? b=some o/\H b=none:=by
 have e':h.get? b=some o:=PySem.W.of_hideAll (trk h H) e
 refine⟨e',?_⟩
 cases q:H b with
 | none=>rfl
 | some x =>
  have hm:b∈trk h H:=List.mem_filter.mpr ⟨List.mem_range.mpr (Heap.lt_size e'),by simp [q]⟩
  have z:(zeL h H).get? b=none:=PySem.W.hideAll_none (trk h H) hm
  rw [z] at e;cases e
def zmO (g h:Heap)(L:Addr):List (Addr×Obj):=(List.range h.objs.size).filterMap fun a=>if a=L\/(g.get? a).isSome=true then none else (h.get? a).map fun o=>(a,o)
def rest (g h:Heap)(L d:Addr):List (Addr×Obj):=(zmO g h L).filter fun p=>decide (p.1≠d)
structure Mod (K:PySem.W.Frag)(mg:Str->Option Value)(base:Heap):Prop where
 kin:K.In base
 glob:base.Ns mainGlobals mg
 blt:∃ mb,base.Ns builtinsNs mb/\∀ x:Str,x≠"__name__"->mb x=bootBuiltins x
 nolimit:base.NoLimit
/-- the context: a def's body (or a comprehension's block) running. base: fixed through the whole law; s₀, H₀: the entry; outer: the frames whose slots others may change (a def's callers); stack: all frames that run;
   ex: iterators that were made ahead of the entry and are walked here (a comprehension's);fn: the names whose cells were made at the entry (a def: all;a comprehension's block: its own);calm: not within an except suite;pn: pins that every state bears;xe: what is wanted of an exception that leaves the code -/
structure Cx where
 prog:Program
 w:World
 K:PySem.W.Frag
 mg:Str->Option Value
 base:Heap
 A:Around
 N:List Str
 s₀:Shared
 H₀:Hp
 env:Env
 outer:List Env
 stack:List Env
 ex:List Addr
 fn:Str->Bool
 calm:Bool
 pn:List (Addr×Obj)
 xe:Value->Shared->Prop
def frs (l:List Env):List Addr:=l.filterMap (·.frame)
abbrev Cx.fs (X:Cx):List Addr:=frs X.outer
def Vis (sc:Scope)(x:Str):Prop:=sc.names.lookup x=some .local\/sc.names.lookup x=some .cell\/sc.names.lookup x=some .free
def Loc (sc:Scope)(x:Str):Prop:=sc.names.lookup x=some .local\/sc.names.lookup x=some .cell
def Look (env:Env)(h:Heap)(m:Str->Option Value)(x:Str)(u:Value):Prop :=
 (env.kindOf x=some .local/\m x=some u)\/((env.kindOf x=some .cell\/env.kindOf x=some .free)/\∃ c,env.cells.lookup x=some c/\h.IsCell c (some u))
structure Cx.Ok (X:Cx):Prop where
 mod:Mod X.K X.mg X.base
 kind:X.env.scope.kind=.function
 glob:X.env.globals=mainGlobals
 blt:X.env.builtins=builtinsNs
 above:X.s₀.heap.objs.size<=X.env.locals
 inj:∀ x y c,X.env.cells.lookup x=some c->X.env.cells.lookup y=some c->x=y
 has:∀ x,(X.env.kindOf x=some .cell\/X.env.kindOf x=some .free)->∃ c,X.env.cells.lookup x=some c
 cab:∀ x c,X.fn x=true->X.env.cells.lookup x=some c->X.s₀.heap.objs.size<=c
 hd:X.calm=true->X.A.handled=none
 frames:X.A.frames=some X.stack
 stk:X.stack=X.outer\/(X.stack=X.env::X.outer/\X.env.frame=some X.env.locals)
 exf:∀ b∈X.ex,b≠X.env.locals/\∀ x c,X.env.cells.lookup x=some c->c≠b
 bs:∀ b o,X.base.get? b=some o->X.s₀.heap.get? b=some o/\X.H₀ b=none
 bsz:X.base.objs.size<=X.s₀.heap.objs.size
 noex:∀ b o,X.base.get? b=some o->b∉X.ex
 exfs:∀ b∈X.ex,b∉X.fs
 funs:X.s₀.heap.FunFrames X.base X.outer
 frf:∀ b∈X.fs,X.H₀ b=none
structure Inv (X:Cx)(pins:List (Addr×Obj))(σ:List (Option V))(H:Hp)(s:Shared):Prop where
 ok:X.Ok
 os:s.os=X.s₀.os
 bare:AllBare s.gens
 base:Un X.fs X.ex X.H₀ H X.s₀.heap s.heap
 loc:∃ m,s.heap.Ns X.env.locals m/\∀ (i:Nat) (x:Str) (v:V),X.N[i]?=some x->σ[i]?=some (some v)->Vis X.env.scope x->∃ u,RelV v u/\Look X.env s.heap m x u
 cell:∀ x c,X.env.cells.lookup x=some c->∃ v,s.heap.IsCell c v
 free:H X.env.locals=none
 freeC:∀ x c,X.env.cells.lookup x=some c->H c=none
 pin:∀ p∈X.pn++pins,s.heap.get? p.1=some p.2/\H p.1=none/\p.1≠X.env.locals/\p.1∉X.fs/\∀ v,p.2.data≠.cell v
 hok:HOk X.prog X.w H s.heap
 len:σ.length=X.N.length
section
variable {X:Cx}{pins:List (Addr×Obj)}{σ:List (Option V)}{H H':Hp}{s:Shared}{h':Heap}
theorem Cx.Ok.nofr (ok:X.Ok){b:Addr}{o:Obj}(e:X.base.get? b=some o):b∉X.fs:=fun hb=>by
 have:=(ok.funs.mem hb).1
 rw [e] at this;cases this
theorem Inv.bs (I:Inv X pins σ H s):∀ b o,X.base.get? b=some o->s.heap.get? b=some o/\H b=none:=fun b o e =>
 ⟨I.base.keep b o (I.ok.bs b o e).1 (I.ok.bs b o e).2 (I.ok.nofr e) (I.ok.noex b o e),I.base.free b o (I.ok.bs b o e).1 (I.ok.bs b o e).2 (I.ok.noex b o e)⟩
theorem Inv.bk (I:Inv X pins σ H s):∀ b o,X.base.get? b=some o->s.heap.get? b=some o:=fun b o e=>(I.bs b o e).1
theorem Inv.mod (I:Inv X pins σ H s):Mod X.K X.mg X.base:=I.ok.mod
theorem Inv.kIn (I:Inv X pins σ H s):X.K.In s.heap:=I.ok.mod.kin.keeps I.bk
theorem Inv.lt (I:Inv X pins σ H s):X.env.locals<s.heap.objs.size:=let ⟨_,hn,_⟩:=I.loc;hn.lt
theorem Inv.sz (I:Inv X pins σ H s):X.s₀.heap.objs.size<=s.heap.objs.size:=Nat.le_trans I.ok.above (Nat.le_of_lt I.lt)
theorem Inv.nofs (I:Inv X pins σ H s){a:Addr}(h:s.heap.objs.size<=a):a∉X.fs:=fun hb=>by
 obtain⟨_,o,ho,_⟩:=I.ok.funs.mem hb
 exact absurd (Nat.lt_of_lt_of_le (Heap.lt_size ho) (Nat.le_trans I.sz h)) (Nat.lt_irrefl _)
theorem Inv.cne (I:Inv X pins σ H s):∀ x c,X.env.cells.lookup x=some c->c≠X.env.locals:=fun x c e z=>by
 obtain⟨v,o,ho,hd⟩:=I.cell x c e
 obtain⟨m,⟨o',es,ep,ho',hd',_⟩,_⟩:=I.loc
 rw [z,ho'] at ho;cases ho;rw [hd'] at hd;cases hd
theorem Inv.funs (I:Inv X pins σ H s):s.heap.FunFrames X.base X.outer:=by
 have all:∀ (l:List Env),(∀ b∈frs l,b∈X.fs)->X.s₀.heap.FunFrames X.base l->s.heap.FunFrames X.base l:=by
  intro l
  induction l with
  | nil=>intro _ _;trivial
  | cons env r ih =>
   intro hs hl
   obtain⟨hk,⟨L,o,hf,hn,ho,hd⟩,hr⟩:=hl
   have hL:L∈X.fs:=hs L (by unfold frs;rw [List.filterMap_cons,hf];exact List.mem_cons_self)
   obtain⟨sl,e⟩:=I.base.slot L o ho (I.ok.frf L hL) hL fun z=>I.ok.exfs L z hL
   exact⟨hk,⟨L,_,hf,hn,e,hd⟩,ih (fun b hb=>hs b (by unfold frs;rw [List.filterMap_cons,hf];exact List.mem_cons_of_mem _ hb)) hr⟩
 exact all X.outer (fun _ hb=>hb) I.ok.funs
theorem Inv.stack (I:Inv X pins σ H s):s.heap.FunFrames X.base X.stack:=by
 rcases I.ok.stk with e | ⟨e,hf⟩
 ·rw [e];exact I.funs
 ·rw [e]
  obtain⟨m,hn,_⟩:=I.loc
  refine .cons (by rw [I.ok.kind];decide) hf hn ?_ I.funs
  exact Heap.get?_none_of_le (Nat.le_trans I.ok.bsz I.ok.above)
theorem Inv.stkSub (I:Inv X pins σ H s):∀ b∈frs X.stack,b∈X.env.locals::X.fs:=fun b hb=>by
 rcases I.ok.stk with e | ⟨e,hf⟩
 ·rw [e] at hb;exact List.mem_cons_of_mem _ hb
 ·rw [e] at hb
  unfold frs at hb
  rw [List.filterMap_cons,hf] at hb
  exact hb
theorem Inv.stkFree (I:Inv X pins σ H s):∀ b∈frs X.stack,H b=none:=fun b hb=>by
 rcases List.mem_cons.mp (I.stkSub b hb) with e | hb
 ·rw [e];exact I.free
 ·obtain⟨_,o,ho,_⟩:=I.ok.funs.mem hb
  exact I.base.free b o ho (I.ok.frf b hb) fun z=>I.ok.exfs b z hb
theorem Inv.step {g':Array GenState}{t':Nat}{d':Drawn}{ch:List Addr}(I:Inv X pins σ H s)
  (hch:∀ b∈ch,(b∈X.ex\/X.s₀.heap.objs.size<=b)/\b≠X.env.locals/\(∀ x c,X.env.cells.lookup x=some c->c≠b)/\∀ p∈X.pn++pins,p.1≠b)
  (keep:∀ b o,b≠X.env.locals->b∉X.fs->b∉ch->s.heap.get? b=some o->H b=none->h'.get? b=some o)
  (slot:∀ b o,b≠X.env.locals->b∈X.fs->b∉ch->s.heap.get? b=some o->H b=none->∃ sl,h'.get? b=some { o with slots:=sl }) (free:∀ b o,b∉ch->s.heap.get? b=some o->H b=none->H' b=none)
  (there:∀ b o,b∉ch->s.heap.get? b=some o->∃ o',h'.get? b=some o')
  (tups:∀ b xs,H b=some (.tup xs)->H' b=some (.tup xs)) (frzs:∀ b o u,H b=some (.frz o u)->H' b=some (.frz o u)) (tbls:∀ b ps,H b=some (.tbl ps)->∃ more,H' b=some (.tbl (ps++more)))
  (ns:∀ m,s.heap.Ns X.env.locals m->h'.Ns X.env.locals m) (hok:HOk X.prog X.w H' h') (hg:AllBare g') :
  Inv X pins σ H' { s with heap:=h',gens:=g',drawn:=d',toks:=t' }:=by
 have neL:∀ b o,X.s₀.heap.get? b=some o->b≠X.env.locals:=fun b o e=>Nat.ne_of_lt (Nat.lt_of_lt_of_le (Heap.lt_size e) I.ok.above)
 have neC:∀ b o,X.s₀.heap.get? b=some o->b∉X.ex->b∉ch:=fun b o e hx hb=>by
  rcases (hch b hb).1 with z | z
  ·exact hx z
  ·exact absurd (Nat.lt_of_lt_of_le (Heap.lt_size e) z) (Nat.lt_irrefl _)
 have cellK:∀ x c,X.env.cells.lookup x=some c->∀ v,s.heap.IsCell c v->h'.IsCell c v:=fun x c e v ⟨o,ho,hd⟩=>by
  have nch:c∉ch:=fun z=>(hch c z).2.2.1 x c e rfl
  by_cases hc:c∈X.fs
  ·obtain⟨sl,q⟩:=slot c o (I.cne x c e) hc nch ho (I.freeC x c e)
   exact⟨_,q,hd⟩
  ·exact⟨o,keep c o (I.cne x c e) hc nch ho (I.freeC x c e),hd⟩
 refine⟨I.ok,I.os,hg,⟨fun b o e n hb hx=>?_,fun b o e n hb hx=>?_,fun b o e n hx=>?_,fun b o e hx=>?_,fun b xs e=>tups b xs (I.base.tups b xs e),fun b o xs e=>frzs b o xs (I.base.frzs b o xs e),fun b ps e=>?_⟩,?_,fun x c e=>?_,?_,fun x c e=>?_,fun p hp=>?_,hok,I.len⟩
 ·exact keep b o (neL b o e) hb (neC b o e hx) (I.base.keep b o e n hb hx) (I.base.free b o e n hx)
 ·obtain⟨sl,e1⟩:=I.base.slot b o e n hb hx
  obtain⟨sl',e2⟩:=slot b _ (neL b o e) hb (neC b o e hx) e1 (I.base.free b o e n hx)
  exact⟨sl',e2⟩
 ·obtain⟨o',e1⟩:=I.base.there b o e hx
  exact free b o' (neC b o e hx) e1 (I.base.free b o e n hx)
 ·obtain⟨o',e1⟩:=I.base.there b o e hx
  exact there b o' (neC b o e hx) e1
 ·obtain⟨m1,e1⟩:=I.base.tbls b ps e
  obtain⟨m2,e2⟩:=tbls b _ e1
  exact⟨m1++m2,by rw [e2,Array.append_assoc]⟩
 ·obtain⟨m,hn,hl⟩:=I.loc
  refine⟨m,ns m hn,fun i x v e1 e2 e3=>?_⟩
  obtain⟨u,r,l⟩:=hl i x v e1 e2 e3
  refine⟨u,r,?_⟩
  rcases l with l | ⟨k,c,e,z⟩
  ·exact .inl l
  ·exact .inr ⟨k,c,e,cellK x c e _ z⟩
 ·obtain⟨v,z⟩:=I.cell x c e
  exact⟨v,cellK x c e v z⟩
 ·obtain⟨m,⟨o,_,_,ho,_⟩,_⟩:=I.loc
  exact free _ o (fun z=>(hch _ z).2.1 rfl) ho I.free
 ·obtain⟨v,o,ho,hd⟩:=I.cell x c e
  exact free c o (fun z=>(hch c z).2.2.1 x c e rfl) ho (I.freeC x c e)
 ·obtain⟨e,n,ne,nf,d⟩:=I.pin p hp
  have nch:p.1∉ch:=fun z=>(hch p.1 z).2.2.2 p hp rfl
  exact⟨keep p.1 p.2 ne nf nch e n,free p.1 p.2 nch e n,ne,nf,d⟩
theorem Inv.un {t':Nat}(I:Inv X pins σ H s)(u:Un X.fs [] H H' s.heap h')(hok:HOk X.prog X.w H' h'):Inv X pins σ H' { s with heap:=h',toks:=t' }:=by
 obtain⟨m,⟨o,es,ep,ho,r⟩,_⟩:=id I.loc
 obtain⟨sl,hL⟩:=u.any ho I.free (by simp)
 exact I.step (g':=s.gens) (d':=s.drawn) (ch:=[]) (fun _ z=>nomatch z) (fun b o _ hb _ e n=>u.keep b o e n hb (by simp)) (fun b o _ hb _ e n=>u.slot b o e n hb (by simp)) (fun b o _ e n=>u.free b o e n (by simp)) (fun b o _ e=>u.there b o e (by simp)) u.tups u.frzs u.tbls (fun m' hm=>by
  obtain⟨o',es',ep',ho',r'⟩:=hm
  rw [ho] at ho';cases ho'
  exact⟨_,es',ep',hL,r'⟩) hok I.bare
theorem Inv.call {g':Array GenState}{t':Nat}{d':Drawn}{ch:List Addr}(I:Inv X pins σ H s)(u:Un (frs X.stack) ch H H' s.heap h')(hok:HOk X.prog X.w H' h')(hg:AllBare g')
  (hch:∀ b∈ch,(b∈X.ex\/X.s₀.heap.objs.size<=b)/\b≠X.env.locals/\(∀ x c,X.env.cells.lookup x=some c->c≠b)/\∀ p∈X.pn++pins,p.1≠b) :
  Inv X pins σ H' { s with heap:=h',gens:=g',drawn:=d',toks:=t' }:=by
 obtain⟨m,⟨o,es,ep,ho,r⟩,_⟩:=id I.loc
 obtain⟨sl,hL⟩:=u.any ho I.free fun z=>(hch _ z).2.1 rfl
 exact I.step (ch:=ch) hch (fun b o hL hb hc e n=>u.keep b o e n (fun z=>(List.mem_cons.mp (I.stkSub b z)).elim hL hb) hc) (fun b o _ _ hc e n=>u.any e n hc) (fun b o hc e n=>u.free b o e n hc) (fun b o hc e=>u.there b o e hc) u.tups u.frzs u.tbls (fun m' hm=>by
  obtain⟨o',es',ep',ho',r'⟩:=hm
  rw [ho] at ho';cases ho'
  exact⟨_,es',ep',hL,r'⟩) hok hg
theorem Inv.turned {t':Nat}{it:Addr}(I:Inv X pins σ H s)(k:∀ b o,b≠it->s.heap.get? b=some o->h'.get? b=some o)(hn:H it=none)(hL:it≠X.env.locals)
  (h1:it∈X.ex\/X.s₀.heap.objs.size<=it) (h2:∀ x c,X.env.cells.lookup x=some c->c≠it) (h3:∀ p∈X.pn++pins,p.1≠it):Inv X pins σ H { s with heap:=h',toks:=t' }:=by
 have nit:∀ b u,H b=some u->b≠it:=fun b u e z=>by rw [z,hn] at e;cases e
 refine I.step (g':=s.gens) (d':=s.drawn) (ch:=[it]) (fun b hb=>?_) (fun b o _ _ hc e _=>k b o (fun z=>hc (by simp [z])) e) (fun b o _ _ hc e _=>⟨o.slots,k b o (fun z=>hc (by simp [z])) e⟩) (fun _ _ _ _ n=>n)
  (fun b o hc e=>⟨o,k b o (fun z=>hc (by simp [z])) e⟩) (fun _ _ e=>e) (fun _ _ _ e=>e) (fun b ps e=>⟨#[],by rw [e];simp⟩) (fun m hm=>?_) (fun b u e=>?_) I.bare
 ·have e:b=it:=by simpa using hb
  subst e
  exact⟨h1,hL,h2,h3⟩
 ·obtain⟨o,es,ep,ho,r⟩:=hm
  exact⟨o,es,ep,k _ o (Ne.symm hL) ho,r⟩
 ·refine (I.hok b u e).stay (fun c v hc q=>k c v ?_ q) (fun _ q=>q) fun _ _ q=>q
  rcases hc with z | z
  ·rw [z];exact nit b u e
  ·exact nit c _ z
theorem Inv.tok (I:Inv X pins σ H s)(t:Nat):Inv X pins σ H { s with toks:=t }:=I.un (h':=s.heap) (t':=t) Un.refl I.hok
theorem Inv.kept {t':Nat}(I:Inv X pins σ H s)(k:∀ b u,s.heap.get? b=some u->h'.get? b=some u):Inv X pins σ H { s with heap:=h',toks:=t' }:=I.un (Un.kept k) (I.hok.kept k)
theorem Inv.laid {a:Addr}{o:HO}{t':Nat}(I:Inv X pins σ H s)(k:∀ b u,s.heap.get? b=some u->h'.get? b=some u)(hp:s.heap.objs.size<=a)(new:zaT X.prog X.w (upd H a o) h' a o) :
  Inv X pins σ (upd H a o) { s with heap:=h',toks:=t' }:=I.un (Un.laid k hp (I.hok.fresh hp)) (I.hok.laid k hp new)
theorem Inv.write {x e:Addr}{o:HO}{t':Nat}(I:Inv X pins σ H s)(mu:Mut (H x))(he:e=x\/H e=some (.own x))(k:∀ b u,b≠e->s.heap.get? b=some u->h'.get? b=some u)(heo:∃ u,h'.get? e=some u)
  (new:zaT X.prog X.w (upd H x o) h' x o):Inv X pins σ (upd H x o) { s with heap:=h',toks:=t' }:=I.un (Un.write mu he k heo) (I.hok.write mu he k heo new)
theorem Inv.weak {σ':List (Option V)}(I:Inv X pins σ H s)(hl:σ'.length=σ.length)(w:∀ (i:Nat) v,σ'[i]?=some (some v)->σ[i]?=some (some v)):Inv X pins σ' H s :=
 ⟨I.ok,I.os,I.bare,I.base,let ⟨m,hn,hl'⟩:=I.loc;⟨m,hn,fun i x v e1 e2 e3=>hl' i x v e1 (w i v e2) e3⟩,I.cell,I.free,I.freeC,I.pin,I.hok,hl.trans I.len⟩
theorem Inv.pins_of {pins':List (Addr×Obj)}(I:Inv X pins σ H s)(h:∀ p∈pins',s.heap.get? p.1=some p.2/\H p.1=none/\p.1≠X.env.locals/\p.1∉X.fs/\∀ v,p.2.data≠.cell v):Inv X pins' σ H s :=
 ⟨I.ok,I.os,I.bare,I.base,I.loc,I.cell,I.free,I.freeC,fun p hp=>(List.mem_append.mp hp).elim (fun z=>I.pin p (List.mem_append_left _ z)) (h p),I.hok,I.len⟩
theorem zf1 {N:List Str}(hN:N.Nodup){i j:Nat}{x:Str}(a:N[i]?=some x)(b:N[j]?=some x):i=j:=by
 obtain⟨h1,e1⟩:=List.getElem?_eq_some_iff.mp a
 obtain⟨h2,e2⟩:=List.getElem?_eq_some_iff.mp b
 exact (List.getElem_inj hN).mp (e1.trans e2.symm)
theorem zhi {M:Model}{A:Around}{E:Value->Shared->Prop}{i:Nat}{x:Str}{v:V}{u:Value}{Q:Unit->Shared->Prop}(I:Inv X pins σ H s)(hN:X.N.Nodup)(hi:X.N[i]?=some x)(hx:Loc X.env.scope x)(r:RelV v u)
  (h:∀ s',Inv X pins (σ.set i (some v)) H s'->(∃ a,Heap.SameBut a s.heap s'.heap/\(a=X.env.locals\/X.env.cells.lookup x=some a))->Q () s') (hf:X.fn x=true\/X.env.scope.names.lookup x=some .local:=by first | exact .inl rfl | exact .inr rfl | assumption):wpAny M A (storeName X.env x u) Q E s:=by
 obtain⟨m,hn,hl⟩:=id I.loc
 have hcls:(X.env.scope.kind==.class||(X.env.scope.kind==.module&&X.env.locals != X.env.globals))=false:=by rw [I.ok.kind];rfl
 have hiσ:i<σ.length:=by rw [I.len];exact (List.getElem?_eq_some_iff.mp hi).1
 have cne:=I.cne
 have tracked:∀ {a:Addr} {h':Heap},(∃ o,s.heap.get? a=some o/\H a=none)->Heap.SameBut a s.heap h'->HOk X.prog X.w H h':=fun {a h'} ha hs b ob e=>by
  obtain⟨_,_,hfree⟩:=ha
  refine (I.hok b ob e).stay (fun c w' hc q=>(hs.2 c ?_).trans q) (fun _ q=>q) fun _ _ q=>q
  rintro rfl
  rcases hc with rfl | hc
  ·rw [hfree] at e;cases e
  ·rw [hfree] at hc;cases hc
 rcases hx with hk | hk
 ·refine wpAny_storeName_local hk hn (fun h' hn' hs=>?_) hcls
  obtain⟨oL,_,_,hoL,_⟩:=id hn
  refine h _ ⟨I.ok,I.os,I.bare,⟨fun b o e n hb hx=>?_,fun b o e n hb hx=>?_,I.base.free,fun b o e hx=>?_,I.base.tups,I.base.frzs,I.base.tbls⟩,⟨_,hn',fun j y v' e1 e2 e3=>?_⟩,fun y c e=>?_,I.free,I.freeC,fun p hp=>?_,tracked ⟨oL,hoL,I.free⟩ hs,by simpa using I.len⟩ ⟨_,hs,.inl rfl⟩
  ·exact (hs.2 b (Nat.ne_of_lt (Nat.lt_of_lt_of_le (Heap.lt_size e) I.ok.above))).trans (I.base.keep b o e n hb hx)
  ·obtain⟨sl,e1⟩:=I.base.slot b o e n hb hx
   exact⟨sl,(hs.2 b (Nat.ne_of_lt (Nat.lt_of_lt_of_le (Heap.lt_size e) I.ok.above))).trans e1⟩
  ·obtain⟨o',e1⟩:=I.base.there b o e hx
   exact⟨o',(hs.2 b (Nat.ne_of_lt (Nat.lt_of_lt_of_le (Heap.lt_size e) I.ok.above))).trans e1⟩
  ·by_cases hj:j=i
   ·subst hj
    rw [hi] at e1;cases e1
    rw [List.getElem?_set_self hiσ] at e2
    cases e2
    exact⟨u,r,.inl ⟨hk,by simp⟩⟩
   ·rw [List.getElem?_set_ne (Ne.symm hj)] at e2
    obtain⟨u',r',q⟩:=hl j y v' e1 e2 e3
    refine⟨u',r',?_⟩
    rcases q with ⟨k,e⟩ | ⟨k,c,e,z⟩
    ·refine .inl ⟨k,?_⟩
     have:y≠x:=fun e=>hj (zf1 hN e1 (e▸hi))
     simp [this,e]
    ·exact .inr ⟨k,c,e,z.sameBut hs (cne y c e)⟩
  ·obtain⟨w',z⟩:=I.cell y c e
   exact⟨w',z.sameBut hs (cne y c e)⟩
  ·obtain⟨e,n,ne,nf,d⟩:=I.pin p hp
   exact⟨(hs.2 p.1 ne).trans e,n,ne,nf,d⟩
 ·have hfn:X.fn x=true:=by
   rcases hf with z | z
   ·exact z
   ·rw [z] at hk;cases hk
  obtain⟨c,hc⟩:=I.ok.has x (.inl hk)
  obtain⟨w',z⟩:=I.cell x c hc
  refine wpAny_storeName_cell I.ok.kind hk hc z (fun h' hc' hs=>?_)
  obtain⟨oc,hoc,hocd⟩:=id z
  refine h { s with heap:=h' } ⟨I.ok,I.os,I.bare,⟨fun b o e n hb hx=>?_,fun b o e n hb hx=>?_,I.base.free,fun b o e hx=>?_,I.base.tups,I.base.frzs,I.base.tbls⟩,⟨m,hn.sameBut hs (Ne.symm (cne x c hc)),fun j y v' e1 e2 e3=>?_⟩,fun y c' e=>?_,I.free,I.freeC,fun p hp=>?_,tracked ⟨oc,hoc,I.freeC x c hc⟩ hs,by simpa using I.len⟩ ⟨c,hs,.inr hc⟩
  ·exact (hs.2 b (Nat.ne_of_lt (Nat.lt_of_lt_of_le (Heap.lt_size e) (I.ok.cab x c hfn hc)))).trans (I.base.keep b o e n hb hx)
  ·obtain⟨sl,e1⟩:=I.base.slot b o e n hb hx
   exact⟨sl,(hs.2 b (Nat.ne_of_lt (Nat.lt_of_lt_of_le (Heap.lt_size e) (I.ok.cab x c hfn hc)))).trans e1⟩
  ·obtain⟨o',e1⟩:=I.base.there b o e hx
   exact⟨o',(hs.2 b (Nat.ne_of_lt (Nat.lt_of_lt_of_le (Heap.lt_size e) (I.ok.cab x c hfn hc)))).trans e1⟩
  ·by_cases hj:j=i
   ·subst hj
    rw [hi] at e1;cases e1
    rw [List.getElem?_set_self hiσ] at e2
    cases e2
    exact⟨u,r,.inr ⟨.inl hk,c,hc,hc'⟩⟩
   ·rw [List.getElem?_set_ne (Ne.symm hj)] at e2
    obtain⟨u',r',q⟩:=hl j y v' e1 e2 e3
    refine⟨u',r',?_⟩
    rcases q with q | ⟨k,c',e,z'⟩
    ·exact .inl q
    ·refine .inr ⟨k,c',e,z'.sameBut hs ?_⟩
     rintro rfl
     exact hj (zf1 hN e1 (I.ok.inj _ _ _ e hc▸hi))
  ·by_cases hcc:c'=c
   ·subst hcc;exact⟨_,hc'⟩
   ·obtain⟨w2,z2⟩:=I.cell y c' e
    exact⟨w2,z2.sameBut hs hcc⟩
  ·obtain⟨e,n,ne,nf,d⟩:=I.pin p hp
   refine⟨(hs.2 p.1 ?_).trans e,n,ne,nf,d⟩
   intro q
   rw [q,hoc] at e
   have q':oc=p.2:=Option.some.inj e
   exact d w' (by rw [<- q'];exact hocd)
theorem zcX {M:Model}{A:Around}{E:Value->Shared->Prop}{i:Nat}{x:Str}{v:V}{u:Value}{Q:Unit->Shared->Prop}(I:Inv X pins σ H s)(hN:X.N.Nodup)(hi:X.N[i]?=some x)(hx:Loc X.env.scope x)(r:RelV v u)
  (h:∀ s',Inv X pins (σ.set i (some v)) H s'->Q () s') (hf:X.fn x=true\/X.env.scope.names.lookup x=some .local:=by first | exact .inl rfl | exact .inr rfl | assumption):wpAny M A (storeName X.env x u) Q E s :=
 zhi I hN hi hx r (fun s' I' _=>h s' I') hf
theorem Inv.call' {s':Shared}{ch:List Addr}(I:Inv X pins σ H s)(ho:s'.os=s.os)(u:Un (frs X.stack) ch H H' s.heap s'.heap)(hok:HOk X.prog X.w H' s'.heap)(hg:AllBare s'.gens)
  (hch:∀ b∈ch,(b∈X.ex\/X.s₀.heap.objs.size<=b)/\b≠X.env.locals/\(∀ x c,X.env.cells.lookup x=some c->c≠b)/\∀ p∈X.pn++pins,p.1≠b):Inv X pins σ H' s':=by
 obtain⟨h',g',d',t',o'⟩:=s'
 have e:o'=s.os:=ho
 subst e
 exact I.call (g':=g') (t':=t') (d':=d') u hok hg hch
end
abbrev XK:=Value->Option Addr->Hp->Prop
abbrev St:=List (Option V)
abbrev VK:=V->Hp->Prop
abbrev TE:=St->Hp->VK->Prop
abbrev TT:=St->Hp->(Bool->Hp->Prop)->Prop
abbrev TA:=St->Hp->(List V->Hp->Prop)->Prop
structure Ends where
 nx:St->Hp->Prop
 rt:VK
 bk:St->Hp->Prop:=fun _ _=>False
 ct:St->Hp->Prop:=fun _ _=>False
abbrev TS:=Ends->St->Hp->Prop
def EP (X:Cx)(pins:List (Addr×Obj))(σ:St)(Q:VK)(u:Value)(s':Shared):Prop:=∃ v H',Inv X pins σ H' s'/\RelV v u/\Q v H'
def TP (X:Cx)(pins:List (Addr×Obj))(σ:St)(Q:Bool->Hp->Prop)(b:Bool)(s':Shared):Prop:=∃ H',Inv X pins σ H' s'/\Q b H'
def AP (X:Cx)(pins:List (Addr×Obj))(σ:St)(Q:List V->Hp->Prop)(us:List Value)(s':Shared):Prop:=∃ vs H',Inv X pins σ H' s'/\Vals vs us/\Q vs H'
def SP (X:Cx)(pins:List (Addr×Obj))(D:Ends)(f:Flow)(s':Shared):Prop :=
 match f with
 | .next=>∃ σ' H',Inv X pins σ' H' s'/\D.nx σ' H'
 | .brk=>∃ σ' H',Inv X pins σ' H' s'/\D.bk σ' H'
 | .cont=>∃ σ' H',Inv X pins σ' H' s'/\D.ct σ' H'
 | .ret u=>∃ v σ' H',Inv X pins σ' H' s'/\RelV v u/\D.rt v H'
def PE (X:Cx)(e:Expr)(t:TE):Prop :=
 ∀ (pins:List (Addr×Obj)) (s:Shared) (σ:St) (H:Hp) (Q:VK),Inv X pins σ H s->t σ H Q->wpAny (model X.prog X.w) X.A (eval e X.env) (EP X pins σ Q) X.xe s
def PT (X:Cx)(e:Expr)(t:TT):Prop :=
 ∀ (pins:List (Addr×Obj)) (s:Shared) (σ:St) (H:Hp) (Q:Bool->Hp->Prop),Inv X pins σ H s->t σ H Q->wpAny (model X.prog X.w) X.A (isTrue e X.env (eval e X.env)) (TP X pins σ Q) X.xe s
def PW (X:Cx)(e:Expr)(t:TT):Prop :=
 ∀ (whole:Sem Value) (pins:List (Addr×Obj)) (s:Shared) (σ:St) (H:Hp) (Q:Bool->Hp->Prop),Inv X pins σ H s->t σ H Q->wpAny (model X.prog X.w) X.A (isTrue e X.env whole) (TP X pins σ Q) X.xe s
def PA (X:Cx)(es:List Expr)(t:TA):Prop :=
 ∀ (pos:Pos) (pins:List (Addr×Obj)) (s:Shared) (σ:St) (H:Hp) (Q:List V->Hp->Prop),Inv X pins σ H s->t σ H Q->wpAny (model X.prog X.w) X.A (spliced (backTo pos (starEach es X.env))) (AP X pins σ Q) X.xe s
def PS (X:Cx)(st:Stmt)(t:TS):Prop :=
 ∀ (pins:List (Addr×Obj)) (s:Shared) (σ:St) (H:Hp) (D:Ends),Inv X pins σ H s->t D σ H->wpAny (model X.prog X.w) X.A (exec st X.env) (SP X pins D) X.xe s
def PSs (X:Cx)(st:List Stmt)(t:TS):Prop :=
 ∀ (pins:List (Addr×Obj)) (s:Shared) (σ:St) (H:Hp) (D:Ends),Inv X pins σ H s->t D σ H->wpAny (model X.prog X.w) X.A (execs st X.env) (SP X pins D) X.xe s
theorem thn {α:Type}{t:Sem α}{Q Q':α->Shared->Prop}{M:Model}{A:Around}{E:Value->Shared->Prop}{s:Shared}(h:wpAny M A t Q E s)(hQ:∀ a s,Q a s->Q' a s):wpAny M A t Q' E s:=wpAny_mono h hQ fun _ _ x=>x
section
variable {X:Cx}
def zlP (i:Nat):TE:=fun σ H Q=>∃ v,σ[i]?=some (some v)/\Q v H
def tC (v:V):TE:=fun _ H Q=>Q v H
theorem zkz {i:Nat}{x:Str}{pos:Pos}(hN:X.N[i]?=some x)(hv:Vis X.env.scope x)(hd:(x==("__debug__":Str))=false:=by decide)(hcd:(x==("__classdict__":Str))=false:=by decide):PE X (.Name x pos) (zlP i):=by
 intro pins s σ H Q I h
 obtain⟨v,e,h⟩:=h
 obtain⟨m,hn,hl⟩:=I.loc
 obtain⟨u,r,l⟩:=hl i x v hN e hv
 have fin:EP X pins σ Q u s:=⟨v,H,I,r,h⟩
 rcases l with ⟨hk,hm⟩ | ⟨hk,c,hc,hcell⟩
 ·exact wpAny_Name (wpAny_loadName_local I.ok.kind hk hn hm fin) hd
 ·rcases hk with hk | hk
  ·exact wpAny_Name (wpAny_loadName_cell I.ok.kind hk hc hcell fin) hd
  ·exact wpAny_Name (wpAny_loadName_free I.ok.kind hk hc hcell fin hcd) hd
theorem zie {i j pos}:PE X (.Constant (.int i) j pos) (tC (.int i)):=fun _ _ _ H _ I h=>wpAny_Constant_int ⟨.int i,H,I.tok _,⟨_,rfl⟩,h⟩
theorem zqv {b j pos}:PE X (.Constant (.bool b) j pos) (tC (.bl b)):=fun _ _ _ H _ I h=>Constant_bool ⟨.bl b,H,I,rfl,h⟩
theorem zoT {j pos}:PE X (.Constant .none j pos) (tC .non):=fun _ _ _ H _ I h=>Constant_none ⟨.non,H,I,rfl,h⟩
theorem zoD {x j pos}:PE X (.Constant (.str x) j pos) (tC (.str x)):=fun _ _ _ H _ I h=>Calls.Constant_str ⟨.str x,H,I.tok _,⟨_,rfl⟩,h⟩
def Gl (X:Cx)(x:Str):Prop:=X.env.kindOf x=some .globalImplicit
theorem zcB {E:Value->Shared->Prop}{pins:List (Addr×Obj)}{s:Shared}{σ:St}{H:Hp}{x:Str}{u:Value}{pos:Pos}{Q:Value->Shared->Prop}(I:Inv X pins σ H s)(hg:Gl X x)(hm:X.mg x=some u)(h:Q u s)
  (hd:(x==("__debug__":Str))=false:=by decide):wpAny (model X.prog X.w) X.A (eval (.Name x pos) X.env) Q E s :=
 Calls.Name_function_global I.ok.kind hg (Calls.loadGlobal_global (by rw [I.ok.glob];exact I.mod.glob.keeps I.bk) hm h) hd
theorem zcH {E:Value->Shared->Prop}{pins:List (Addr×Obj)}{s:Shared}{σ:St}{H:Hp}{x:Str}{u:Value}{pos:Pos}{Q:Value->Shared->Prop}(I:Inv X pins σ H s)(hg:Gl X x)(hm:X.mg x=none)(hv:bootBuiltins x=some u)(h:Q u s)
  (hn:x≠"__name__":=by decide) (hd:(x==("__debug__":Str))=false:=by decide):wpAny (model X.prog X.w) X.A (eval (.Name x pos) X.env) Q E s:=by
 obtain⟨mb,h1,h2⟩:=I.mod.blt
 exact Calls.Name_function_global I.ok.kind hg (Calls.loadGlobal_builtin (by rw [I.ok.glob];exact I.mod.glob.keeps I.bk) hm (by rw [I.ok.blt];exact h1.keeps I.bk) ((h2 x hn).trans hv) h) hd
theorem zjv {x:Str}{v:V}{u:Value}{pos:Pos}(hg:Gl X x)(hm:X.mg x=some u)(r:RelV v u)(hd:(x==("__debug__":Str))=false:=by decide):PE X (.Name x pos) (tC v) :=
 fun _ _ _ H _ I h=>zcB I hg hm ⟨v,H,I,r,h⟩ hd
theorem znJ {x:Str}{v:V}{u:Value}{pos:Pos}(hg:Gl X x)(hm:X.mg x=none)(hv:bootBuiltins x=some u)(r:RelV v u)(hn:x≠"__name__":=by decide)(hd:(x==("__debug__":Str))=false:=by decide):PE X (.Name x pos) (tC v) :=
 fun _ _ _ H _ I h=>zcH I hg hm hv ⟨v,H,I,r,h⟩ hn hd
variable {a b:Expr}{ta tb:TE}{pos:Pos}
def tB (t:TE):TT:=fun σ H Q=>t σ H fun x H1=>∃ c,x=.bl c/\Q c H1
theorem zoj {e:Expr}{t:TE}(h:PE X e t)(he:∀ whole,isTrue e X.env whole=(do let v <- whole;standAt e.pos;holding [v] (truthy v)):=by intro _;rfl):PT X e (tB t):=by
 intro pins s σ H Q I hw
 refine isTrue_plain (thn (h pins s σ H _ I hw) fun v s1 ⟨x,H1,I1,r1,q1⟩=>?_) (he _)
 obtain⟨d,rfl,q⟩:=q1
 cases r1
 exact wpAny_truthy_bool ⟨H1,I1,q⟩
variable {tA tB':TT}{rest:List Expr}
def zrb (t u:TT):TT:=fun σ H Q=>t σ H fun c H1=>if c=true then u σ H1 Q else Q false H1
def tOr (t u:TT):TT:=fun σ H Q=>t σ H fun c H1=>if c=true then Q true H1 else u σ H1 Q
def zq1 (t:TT):TT:=fun σ H Q=>t σ H fun c H1=>Q (!c) H1
theorem zmF (ha:PT X a tA):PW X (.BoolOp .And [a] pos) tA:=by
 intro wh pins s σ H Q I h
 refine isTrue_and (thn (ha pins s σ H Q I h) fun c s1 e=>?_)
 cases c with
 | true=>exact isTrue_and_nil e
 | false=>exact e
theorem zn2 (ha:PT X a tA):PW X (.BoolOp .Or [a] pos) tA:=by
 intro wh pins s σ H Q I h
 refine isTrue_or (thn (ha pins s σ H Q I h) fun c s1 e=>?_)
 cases c with
 | false=>exact isTrue_or_nil e
 | true=>exact e
theorem zo3 (ha:PT X a tA)(hb:PW X (.BoolOp .And (b::rest) pos) tB'):PW X (.BoolOp .And (a::b::rest) pos) (zrb tA tB'):=by
 intro wh pins s σ H Q I h
 refine isTrue_and (thn (ha pins s σ H _ I h) fun c s1 ⟨H1,I1,q1⟩=>?_)
 cases c with
 | true=>exact hb wh pins s1 σ H1 Q I1 q1
 | false=>exact⟨H1,I1,q1⟩
theorem zpF (ha:PT X a tA)(hb:PW X (.BoolOp .Or (b::rest) pos) tB'):PW X (.BoolOp .Or (a::b::rest) pos) (tOr tA tB'):=by
 intro wh pins s σ H Q I h
 refine isTrue_or (thn (ha pins s σ H _ I h) fun c s1 ⟨H1,I1,q1⟩=>?_)
 cases c with
 | true=>exact⟨H1,I1,q1⟩
 | false=>exact hb wh pins s1 σ H1 Q I1 q1
theorem zoh (ha:PT X a tA):PT X (.UnaryOp .Not a pos) (zq1 tA):=by
 intro pins s σ H Q I h
 exact isTrue_not (ha pins s σ H (fun c H1=>Q (!c) H1) I h)
def zqM (ta tb:TE):TE:=fun σ H Q=>ta σ H fun x H1=>∃ c,x=.bl c/\if c=true then tb σ H1 Q else Q (.bl false) H1
def zpy (ta:TE):TE:=fun σ H Q=>ta σ H fun x H1=>∃ c,x=.bl c/\Q (.bl (!c)) H1
theorem zo5 {op}{t:TE}(h:PE X a t):PE X (.BoolOp op [a] pos) t:=fun pins s σ H Q I hw=>BoolOp_one (h pins s σ H Q I hw)
theorem zoH (ha:PE X a ta)(hb:PE X (.BoolOp .And (b::rest) pos) tb):PE X (.BoolOp .And (a::b::rest) pos) (zqM ta tb):=by
 intro pins s σ H Q I h
 refine BoolOp_and (thn (ha pins s σ H _ I h) fun v s1 ⟨x,H1,I1,r1,q1⟩=>?_)
 obtain⟨c,rfl,q1⟩:=q1
 cases r1
 refine wpAny_truthy_bool ?_
 cases c with
 | true=>exact hb pins s1 σ H1 Q I1 q1
 | false=>exact⟨.bl false,H1,I1,rfl,q1⟩
theorem zoA (ha:PE X a ta):PE X (.UnaryOp .Not a pos) (zpy ta):=by
 intro pins s σ H Q I h
 refine UnaryOp_ (thn (ha pins s σ H _ I h) fun v s1 ⟨x,H1,I1,r1,q1⟩=>?_)
 obtain⟨c,rfl,q1⟩:=q1
 cases r1
 exact not_of (wpAny_truthy_bool ⟨.bl (!c),H1,I1,rfl,q1⟩)
end
def SqL (K:PySem.W.Frag)(H:Hp)(a:Addr)(xs:List V):Prop :=
 Rd H a (.lst xs) \/
  ∃ (o:Obj) (its:Array Value) (n:Nat),K.lookup a=some o/\o.cls=.type "list"/\o.dict=none/\o.data=.seq its n/\its.size<=sizeLine/\Vals xs its.toList
def SqT (K:PySem.W.Frag)(H:Hp)(a:Addr)(xs:List V):Prop :=
 Rd H a (.tup xs) \/
  ∃ (o:Obj) (its:Array Value) (n:Nat),K.lookup a=some o/\o.cls=.type "tuple"/\o.data=.seq its n/\its.size<=sizeLine/\Vals xs its.toList
def zrg:Value->Option V
 | .none=>some .non
 | .bool b=>some (.bl b)
 | .int i _=>some (.int i)
 | .str x _=>some (.str x)
 | .bytes b _=>some (.byt b)
 | .float b _=>some (.flt b)
 | .ref a=>some (.ref a)
 | .type n=>some (.ty n)
 | _=>none
theorem RelV.abs {x:V}{u:Value}(r:RelV x u):zrg u=some x:=by
 cases x with
 | non=>cases r;rfl
 | bl _=>cases r;rfl
 | int _=>obtain⟨t,rfl⟩:=r;rfl
 | str _=>obtain⟨t,rfl⟩:=r;rfl
 | byt _=>obtain⟨t,rfl⟩:=r;rfl
 | flt _=>obtain⟨t,rfl⟩:=r;rfl
 | ref _=>cases r;rfl
 | ty _=>cases r;rfl
theorem RelV.inj {x y:V}{u:Value}(r:RelV x u)(q:RelV y u):x=y:=Option.some.inj (r.abs.symm.trans q.abs)
theorem Vals.inj:∀ {xs ys:List V} {us:List Value},Vals xs us->Vals ys us->xs=ys
 | _,_,_,.nil,.nil=>rfl
 | _,_,_,.cons r t,.cons r' t'=>by rw [r.inj r',Vals.inj t t']
section
variable {X:Cx}{pins:List (Addr×Obj)}{σ:St}{H:Hp}{s:Shared}{a:Addr}{xs ys:List V}
theorem SqL.of {K:PySem.W.Frag}(h:H a=some (.lst xs)):SqL K H a xs:=.inl (.inl h)
theorem SqT.of {K:PySem.W.Frag}(h:H a=some (.tup xs)):SqT K H a xs:=.inl (.inl h)
theorem Inv.list (I:Inv X pins σ H s)(h:SqL X.K H a xs):∃ its:List Value,Vals xs its/\PlainL s.heap a its.toArray/\xs.length<=sizeLine:=by
 rcases h with h | ⟨o,its,n,hk,hc,hd,hs,hz,r⟩
 ·obtain⟨z,its,n,r,e⟩:=h.ok I.hok
  exact⟨its,r,⟨_,n,e,rfl,rfl,rfl⟩,z⟩
 ·refine⟨its.toList,r,⟨o,n,I.kIn a o hk,hc,hd,by simpa using hs⟩,?_⟩
  have e:=r.length
  simp only [Array.length_toList] at e
  omega
theorem Inv.tuple (I:Inv X pins σ H s)(h:SqT X.K H a xs):∃ its:List Value,Vals xs its/\IsTup s.heap a its.toArray/\xs.length<=sizeLine:=by
 rcases h with h | ⟨o,its,n,hk,hc,hs,hz,r⟩
 ·obtain⟨z,its,r,p⟩:=h.ok I.hok
  exact⟨its,r,p,z⟩
 ·refine⟨its.toList,r,⟨o,I.kIn a o hk,hc,n,by simpa using hs⟩,?_⟩
  have e:=r.length
  simp only [Array.length_toList] at e
  omega
theorem Inv.list_inj (I:Inv X pins σ H s)(h:SqL X.K H a xs)(h':SqL X.K H a ys):xs=ys:=by
 obtain⟨its,r,⟨o,n,e,_,_,d⟩,_⟩:=I.list h
 obtain⟨its',r',⟨o',n',e',_,_,d'⟩,_⟩:=I.list h'
 rw [e] at e';cases e'
 rw [d] at d'
 injection d' with d1 _
 have:its=its':=by simpa using congrArg Array.toList d1
 subst this
 exact r.inj r'
theorem Inv.tuple_inj (I:Inv X pins σ H s)(h:SqT X.K H a xs)(h':SqT X.K H a ys):xs=ys:=by
 obtain⟨its,r,⟨o,e,_,n,d⟩,_⟩:=I.tuple h
 obtain⟨its',r',⟨o',e',_,n',d'⟩,_⟩:=I.tuple h'
 rw [e] at e';cases e'
 rw [d] at d'
 injection d' with d1 _
 have:its=its':=by simpa using congrArg Array.toList d1
 subst this
 exact r.inj r'
end
abbrev Cx.wish (X:Cx)(E:Value->Shared->Prop):Cx:={ X with xe:=E }
abbrev Cx.nox (X:Cx):Cx:=X.wish fun _ _=>False
theorem Cx.Ok.wish {X:Cx}(ok:X.Ok)(E:Value->Shared->Prop):(X.wish E).Ok :=
 ⟨ok.mod,ok.kind,ok.glob,ok.blt,ok.above,ok.inj,ok.has,ok.cab,ok.hd,ok.frames,ok.stk,ok.exf,ok.bs,ok.bsz,ok.noex,ok.exfs,ok.funs,ok.frf⟩
theorem Cx.Ok.unwish {X:Cx}{E:Value->Shared->Prop}(ok:(X.wish E).Ok):X.Ok :=
 ⟨ok.mod,ok.kind,ok.glob,ok.blt,ok.above,ok.inj,ok.has,ok.cab,ok.hd,ok.frames,ok.stk,ok.exf,ok.bs,ok.bsz,ok.noex,ok.exfs,ok.funs,ok.frf⟩
section
variable {X:Cx}{pins:List (Addr×Obj)}{σ:St}{H:Hp}{s:Shared}{E:Value->Shared->Prop}
theorem Inv.wish (I:Inv X pins σ H s)(E:Value->Shared->Prop):Inv (X.wish E) pins σ H s:=⟨I.ok.wish E,I.os,I.bare,I.base,I.loc,I.cell,I.free,I.freeC,I.pin,I.hok,I.len⟩
theorem Inv.unwish (I:Inv (X.wish E) pins σ H s):Inv X pins σ H s:=⟨I.ok.unwish,I.os,I.bare,I.base,I.loc,I.cell,I.free,I.freeC,I.pin,I.hok,I.len⟩
theorem SP.unwish {D:Ends}{f:Flow}{s':Shared}(h:SP (X.wish E) pins D f s'):SP X pins D f s':=by
 cases f with
 | next=>obtain⟨σ',H',I,q⟩:=h;exact⟨σ',H',I.unwish,q⟩
 | brk=>obtain⟨σ',H',I,q⟩:=h;exact⟨σ',H',I.unwish,q⟩
 | cont=>obtain⟨σ',H',I,q⟩:=h;exact⟨σ',H',I.unwish,q⟩
 | ret u=>obtain⟨v,σ',H',I,r,q⟩:=h;exact⟨v,σ',H',I.unwish,r,q⟩
theorem PSs.nox {st:List Stmt}{t:TS}(h:PSs X.nox st t):PSs X st t:=fun pins s σ H D I hw =>
 wpAny_mono (h pins s σ H D (I.wish _) hw) (fun _ _ q=>q.unwish) fun _ _ z=>False.elim z
end
section
variable {X:Cx}{st:Stmt}{rest:List Stmt}{t u:TS}{e:Expr}{te:TE}{pos:Pos}
def zqw:TS:=fun D σ H=>D.nx σ H
def zre (t u:TS):TS:=fun D σ H=>t { D with nx:=u D } σ H
theorem znE:PSs X [] zqw:=fun _ _ σ H _ I h=>wpAny_execs_nil ⟨σ,H,I,h⟩
theorem zlq (h1:PS X st t)(h2:PSs X rest u):PSs X (st::rest) (zre t u):=by
 intro pins s σ H D I h
 refine wpAny_execs_cons (thn (h1 pins s σ H { D with nx:=u D } I h) fun f s1 q=>?_)
 cases f with
 | next =>
  obtain⟨σ',H',I',q⟩:=q
  exact h2 pins s1 σ' H' D I' q
 | ret v=>exact q
 | brk=>exact q
 | cont=>exact q
theorem zmK (h1:PS X st t):PSs X [st] t:=by
 intro pins s σ H D I h
 refine wpAny_execs_cons (thn (h1 pins s σ H D I h) fun f s1 q=>?_)
 cases f with
 | next=>exact wpAny_execs_nil q
 | ret v=>exact q
 | brk=>exact q
 | cont=>exact q
theorem Inv.quiet {pins:List (Addr×Obj)}{σ:St}{H:Hp}{s:Shared}(I:Inv X pins σ H s):interactive X.env=false:=by simp [interactive,I.ok.kind]
def zp0 (te:TE):TS:=fun D σ H=>te σ H fun _ H1=>D.nx σ H1
theorem znL (he:PE X e te)(hs:swapsWith e none pos.line X.env=pure false:=by rfl):PS X (.Expr e pos) (zp0 te):=by
 intro pins s σ H D I h
 exact wpAny_Expr_any (thn (he pins s σ H _ I h) fun v s1 ⟨x,H1,I1,r1,q1⟩=>⟨σ,H1,I1,q1⟩) I.quiet hs
def zqQ (te:TE):TS:=fun D σ H=>te σ H D.rt
theorem zoR (he:PE X e te):PS X (.Return (some e) pos) (zqQ te):=by
 intro pins s σ H D I h
 exact wpAny_Return_some (thn (he pins s σ H _ I h) fun v s1 ⟨x,H1,I1,r1,q1⟩=>⟨x,σ,H1,I1,r1,q1⟩)
def zrh (c:TT)(t u:TS):TS:=fun D σ H=>c σ H fun b H1=>if b=true then t D σ H1 else u D σ H1
theorem zpT {c:Expr}{a b:List Stmt}{tc:TT}(hc:PT X c tc)(ha:PSs X a t)(hb:PSs X b u):PS X (.If c a b pos) (zrh tc t u):=by
 intro pins s σ H D I h
 refine wpAny_If (thn (hc pins s σ H _ I h) fun d s1 ⟨H1,I1,q1⟩=>?_)
 cases d with
 | true=>exact ha pins s1 σ H1 D I1 q1
 | false=>exact hb pins s1 σ H1 D I1 q1
def zod:TS:=fun _ _ _=>False
theorem zmc:PS X st zod:=fun _ _ _ _ _ _ h=>h.elim
end
abbrev TG:=V->St->Hp->(St->Hp->Prop)->Prop
abbrev TGs:=List V->St->Hp->(St->Hp->Prop)->Prop
def PG (X:Cx)(target:Expr)(t:TG):Prop :=
 ∀ (pins:List (Addr×Obj)) (s:Shared) (σ:St) (H:Hp) (v:V) (u:Value) (Q:St->Hp->Prop),Inv X pins σ H s->RelV v u->t v σ H Q ->
  wpAny (model X.prog X.w) X.A (assign target X.env u) (fun _ s'=>∃ σ' H',Inv X pins σ' H' s'/\Q σ' H') X.xe s
def PGs (X:Cx)(ts:List Expr)(t:TGs):Prop :=
 ∀ (pins:List (Addr×Obj)) (s:Shared) (σ:St) (H:Hp) (vs:List V) (us:List Value) (Q:St->Hp->Prop),Inv X pins σ H s->Vals vs us->t vs σ H Q ->
  wpAny (model X.prog X.w) X.A (assignInOrder ((assignEach ts X.env).map (·.2)) us) (fun _ s'=>∃ σ' H',Inv X pins σ' H' s'/\Q σ' H') X.xe s
abbrev zlH:=V->V->V->Hp->(Hp->Prop)->Prop
def zog (X:Cx)(t:zlH):Prop :=
 ∀ (pins:List (Addr×Obj)) (s:Shared) (σ:St) (H:Hp) (o i v:V) (ov iv u:Value) (Q:Hp->Prop),Inv X pins σ H s->RelV o ov->RelV i iv->RelV v u->t o i v H Q ->
  wpAny (model X.prog X.w) X.A (setItem ov iv u) (fun _ s'=>∃ H',Inv X pins σ H' s'/\Q H') X.xe s
abbrev TIp:=V->V->Hp->VK->Prop
def PIp (X:Cx)(op:Operator)(t:TIp):Prop :=
 ∀ (pins:List (Addr×Obj)) (s:Shared) (σ:St) (H:Hp) (x y:V) (v u:Value) (Q:VK),Inv X pins σ H s->RelV x v->RelV y u->t x y H Q ->
  wpAny (model X.prog X.w) X.A (inplaceOp op v u) (EP X pins σ Q) X.xe s
section
variable {X:Cx}{pos:Pos}
def zB (i:Nat):TG:=fun v σ H Q=>Q (σ.set i (some v)) H
theorem zaq {i:Nat}{x:Str}(hN:X.N.Nodup)(hi:X.N[i]?=some x)(hx:Loc X.env.scope x)(hf:X.fn x=true\/X.env.scope.names.lookup x=some .local:=by first | exact .inl rfl | exact .inr rfl | assumption):PG X (.Name x pos) (zB i):=by
 intro pins s σ H v u Q I r h
 exact wpAny_assign_Name (zcX I hN hi hx r (fun s' I'=>⟨_,H,I',h⟩) hf)
def ze7:TGs:=fun vs σ H Q=>vs=[]/\Q σ H
def zbh (t:TG)(u:TGs):TGs:=fun vs σ H Q=>∃ v r,vs=v::r/\t v σ H fun σ' H'=>u r σ' H' Q
theorem zji:PGs X [] ze7:=by
 intro pins s σ H vs us Q I r h
 obtain⟨e,h⟩:=h
 subst e
 cases r
 exact assignInOrder_nil ⟨σ,H,I,h⟩
theorem zeU {e:Expr}{es:List Expr}{t:TG}{u:TGs}(h1:PG X e t)(h2:PGs X es u)
  (hs:(assignEach (e::es) X.env).map (·.2)=assign e X.env::(assignEach es X.env).map (·.2):=by rfl):PGs X (e::es) (zbh t u):=by
 intro pins s σ H vs us Q I r h
 obtain⟨v,vr,e1,h⟩:=h
 subst e1
 cases r with
 | cons r rr =>
  rw [hs]
  refine assignInOrder_cons (thn (h1 pins s σ H _ _ _ I r h) fun _ s1 ⟨σ1,H1,I1,q1⟩=>?_)
  exact h2 pins s1 σ1 H1 _ _ Q I1 rr q1
def zfs (K:PySem.W.Frag)(n:Nat)(t:TGs):TG:=fun v σ H Q=>∃ a xs,v=.ref a/\SqT K H a xs/\xs.length=n/\t xs σ H Q
theorem zky {es:List Expr}{k:Nat}{t:TGs}{n:Nat}(hc:X.calm=true)(h:PGs X es t)
  (hn:(assignEach es X.env).length=n:=by rfl) (hst:(assignEach es X.env).findIdx? (·.1)=none:=by rfl):PG X (.Tuple es k pos) (zfs X.K n t):=by
 intro pins s σ H v u Q I r hw
 obtain⟨a,xs,e1,hq,hl,hw⟩:=hw
 subst e1
 cases r
 obtain⟨its,rv,ht,hz⟩:=I.tuple hq
 refine assign_Tuple_tuple (I.ok.hd hc) ht (by simp [hn,<- hl,rv.length]) hst fun h' hx=>?_
 have I1:Inv X pins σ H { s with heap:=h' }:=I.kept (t':=s.toks) fun b o e=>hx b o (Nat.ne_of_lt (Heap.lt_size e)) e
 exact h pins _ σ H xs _ Q I1 (by simpa using rv) hw
def zh7 (to ti:TE)(t:zlH):TG:=fun v σ H Q=>to σ H fun o H1=>ti σ H1 fun i H2=>t o i v H2 fun H3=>Q σ H3
theorem zpg {o i:Expr}{to ti:TE}{t:zlH}(ho:PE X o to)(hi:PE X i ti)(hs:zog X t)
  (ha:∀ v,assign (.Subscript o i pos) X.env v=(do
   let ov <- holding [v] (eval o X.env)
   let iv <- holding [v,ov] (eval i X.env)
   standAt pos
   holding [v,ov,iv] (setItem ov iv v)
   release [v,ov,iv] []):=by intro _;rfl):PG X (.Subscript o i pos) (zh7 to ti t):=by
 intro pins s σ H v u Q I r h
 rw [ha]
 refine wpAny_bind (wpAny_holding (thn (ho pins s σ H _ I h) fun ov s1 ⟨x,H1,I1,r1,q1⟩=>?_))
 refine wpAny_bind (wpAny_holding (thn (hi pins s1 σ H1 _ I1 q1) fun iv s2 ⟨y,H2,I2,r2,q2⟩=>?_))
 refine wpAny_bind (wpAny_standAt (wpAny_bind (wpAny_holding (thn (hs pins s2 σ H2 x y v ov iv u _ I2 r1 r2 r q2) fun _ s3 ⟨H3,I3,q3⟩=>?_))))
 exact wpAny_release ⟨σ,H3,I3,q3⟩
def zl3 (te:TE)(g:TG):TS:=fun D σ H=>te σ H fun x H1=>g x σ H1 D.nx
theorem zoL {tg e:Expr}{te:TE}{g:TG}(he:PE X e te)(hg:PG X tg g)(hs:swapsWithSole [tg] e pos.line X.env=pure false:=by rfl)(hw:swappedStores [tg] e X.env=pure none:=by rfl)
  (h1:(assignEach [tg] X.env).map (·.2)=[assign tg X.env]:=by rfl):PS X (.Assign [tg] e pos) (zl3 te g):=by
 intro pins s σ H D I h
 refine wpAny_Assign_stores (thn (he pins s σ H _ I h) fun v s1 ⟨x,H1,I1,r1,q1⟩=>?_) hs hw
 rw [h1]
 exact thn (hg pins s1 σ H1 x v _ I1 r1 q1) fun _ s2 q=>q
theorem zph {i:Nat}{x:Str}{e:Expr}{te:TE}{pos':Pos}(hN:X.N.Nodup)(hi:X.N[i]?=some x)(hx:Loc X.env.scope x)(he:PE X e te)(hs:swapsWith e (some (.Name x pos')) pos.line X.env=pure false:=by rfl)(hf:X.fn x=true\/X.env.scope.names.lookup x=some .local:=by first | exact .inl rfl | exact .inr rfl | assumption) :
  PS X (.Assign [.Name x pos'] e pos) (zl3 te (zB i)):=by
 intro pins s σ H D I h
 refine wpAny_Assign_Name (thn (he pins s σ H _ I h) fun v s1 ⟨y,H1,I1,r1,q1⟩=>?_) hs
 exact zcX I1 hN hi hx r1 (fun s2 I2=>⟨_,H1,I2,q1⟩) hf
def zqZ (i j:Nat)(ta:TA):TS:=fun D σ H=>ta σ H fun vs H1=>∃ v w,vs=[v,w]/\D.nx ((σ.set i (some v)).set j (some w)) H1
theorem zoP {i j:Nat}{x y:Str}{a b:Expr}{ta:TA}{px py pt:Pos}{kt k2 pt2}(hc:X.calm=true)(hN:X.N.Nodup)(hi:X.N[i]?=some x)(hj:X.N[j]?=some y)(hij:i≠j)
  (hx:X.env.scope.names.lookup x=some .local) (hy:X.env.scope.names.lookup y=some .local) (ha:PA X [a,b] ta)
  (hw:swappedStores [.Tuple [.Name x px,.Name y py] kt pt] (.Tuple [a,b] k2 pt2) X.env=pure (some [x,y]))
  (hs:swapsWithSole [.Tuple [.Name x px,.Name y py] kt pt] (.Tuple [a,b] k2 pt2) pos.line X.env=pure false:=by rfl) :
  PS X (.Assign [.Tuple [.Name x px,.Name y py] kt pt] (.Tuple [a,b] k2 pt2) pos) (zqZ i j ta):=by
 intro pins s σ H D I h
 rw [exec_Assign_arm]
 refine wpAny_bind (wpAny_standAt ?_)
 rw [hs]
 refine wpAny_bind (wpAny_pure ?_)
 rw [if_neg (by decide)]
 refine wpAny_bind (Tuple_ (thn (ha _ pins s σ H _ I h) fun us s1 ⟨vs,H1,I1,r1,q1⟩=>?_))
 obtain⟨v,w,e1,q1⟩:=q1
 subst e1
 obtain⟨u1,u2,rfl,rv,rw'⟩:∃ u1 u2,us=[u1,u2]/\RelV v u1/\RelV w u2:=by
  cases r1 with
  | cons p q =>
   cases q with
   | cons p' q' =>
    cases q'
    exact⟨_,_,rfl,p,p'⟩
 refine wpAny_newObj_type ?_ (by show 2<=sizeLine;decide)
 have I2:Inv X pins σ H1 { s1 with heap:=s1.heap.push { cls:=.type "tuple",data:=.seq [u1,u2].toArray } }:=I1.kept (t':=s1.toks) fun b o e=>Heap.get?_push_of_some _ e
 rw [hw]
 refine wpAny_bind (wpAny_pure ?_)
 show wpAny (model X.prog X.w) X.A (do rule "assign.swapped-stores";let items <- unpackItems (.ref s1.heap.objs.size) 2 none;assignInOrder [fun v=>bindName X.env y v,fun v=>bindName X.env x v] items.reverse;pure Flow.next) _ _ _
 refine wpAny_bind (wpAny_rule (wpAny_bind (unpackItems_tuple (items:=#[u1,u2]) (I.ok.hd hc) (IsTup.new s1.heap _) fun h' hx'=>?_)))
 have I3:=I2.kept (h':=h') (t':=s1.toks) fun b o e=>hx' b o (Nat.ne_of_lt (Heap.lt_size e)) e
 show wpAny _ _ (assignInOrder [fun v=>bindName X.env y v,fun v=>bindName X.env x v] [u2,u1] >>= fun _=>pure Flow.next) _ _ _
 refine wpAny_bind (assignInOrder_cons (wpAny_bindName (zcX I3 hN hj (.inl hy) rw' (fun s2 I4=>?_) (.inr hy))))
 refine assignInOrder_cons (wpAny_bindName (zcX I4 hN hi (.inl hx) rv (fun s3 I5=>assignInOrder_nil (wpAny_pure ?_)) (.inr hx)))
 rw [List.set_comm _ _ (Ne.symm hij)] at I5
 exact⟨_,H1,I5,q1⟩
def zq6 (i:Nat)(te:TE)(ti:TIp):TS:=fun D σ H=>∃ x,σ[i]?=some (some x)/\te σ H fun y H1=>ti x y H1 fun z H2=>D.nx (σ.set i (some z)) H2
theorem zpu {i:Nat}{x:Str}{e:Expr}{te:TE}{op:Operator}{ti:TIp}{pos':Pos}(hN:X.N.Nodup)(hi:X.N[i]?=some x)(hx:Loc X.env.scope x)(he:PE X e te)(ho:PIp X op ti)(hf:X.fn x=true\/X.env.scope.names.lookup x=some .local:=by first | exact .inl rfl | exact .inr rfl | assumption) :
  PS X (.AugAssign (.Name x pos') op e pos) (zq6 i te ti):=by
 intro pins s σ H D I h
 obtain⟨v,e1,h⟩:=h
 obtain⟨m,hn,hl⟩:=I.loc
 have vis:Vis X.env.scope x:=by rcases hx with k | k;exact .inl k;exact .inr (.inl k)
 obtain⟨u,r,l⟩:=hl i x v hi e1 vis
 refine wpAny_AugAssign_Name ?_
 have go:wpAny (model X.prog X.w) X.A (eval e X.env) (fun w s₂=>wpAny (model X.prog X.w) X.A (inplaceOp op u w) (fun r s₃=>wpAny (model X.prog X.w) X.A (storeName X.env x r) (fun _=>SP X pins D .next) X.xe s₃) X.xe s₂) X.xe s:=by
  refine thn (he pins s σ H _ I h) fun w s1 ⟨y,H1,I1,r1,q1⟩=>?_
  refine thn (ho pins s1 σ H1 v y u w _ I1 r r1 q1) fun z s2 ⟨zv,H2,I2,r2,q2⟩=>?_
  exact zcX I2 hN hi hx r2 (fun s3 I3=>⟨_,H2,I3,q2⟩) hf
 rcases l with ⟨hk,hm⟩ | ⟨hk,c,hc,hcell⟩
 ·exact wpAny_loadName_local I.ok.kind hk hn hm go
 ·rcases hk with hk | hk
  ·exact wpAny_loadName_cell I.ok.kind hk hc hcell go
  ·rcases hx with k | k
   ·have:X.env.scope.names.lookup x=some .free:=hk
    rw [k] at this;cases this
   ·have:X.env.scope.names.lookup x=some .free:=hk
    rw [k] at this;cases this
def ipI (f:Int->Int->Int):TIp:=fun x y H Q=>∃ i j,x=.int i/\y=.int j/\Q (.int (f i j)) H
theorem zoW:PIp X .Add (ipI fun i j=>i+j):=by
 intro pins s σ H x y v u Q I r1 r2 h
 obtain⟨i,j,e1,e2,q⟩:=h
 subst e1;subst e2
 obtain⟨t,rfl⟩:=r1
 obtain⟨t',rfl⟩:=r2
 exact iadd_int ⟨.int _,H,I.tok _,⟨_,rfl⟩,q⟩
end
section
variable {X:Cx}{pos:Pos}
def zo4 (c:TT)(tb:TS):TS:=fun D σ H=>∃ W:Nat->St->Hp->Prop,(∃ m,W m σ H)/\∀ m σ H,W m σ H ->
 c σ H fun b H1=>if b=true then ∃ N:St->Hp->Prop,(∀ σ' H',N σ' H'->∃ m',m'<m/\W m' σ' H')/\tb { D with nx:=N,ct:=N,bk:=D.nx } σ H1 else D.nx σ H1
theorem zls {c:Expr}{body:List Stmt}{tc:TT}{tb:TS}(hp:PassesOwn (model X.prog X.w) X.A X.env X.xe)(hc:PT X c tc)(hb:PSs X body tb):PS X (.While c body [] pos) (zo4 tc tb):=by
 intro pins s σ H D I h
 obtain⟨W,⟨m0,w0⟩,turn⟩:=h
 refine wpAny_While (codeAny_whileLoop (fun n s'=>∃ σ' H',Inv X pins σ' H' s'/\W n σ' H') ?_ m0 ⟨σ,H,I,w0⟩)
 rintro n s1 ⟨σ1,H1,I1,w1⟩
 refine wpAny_passesOwn hp (thn (hc pins s1 σ1 H1 _ I1 (turn n σ1 H1 w1)) fun b s2 ⟨H2,I2,q2⟩=>?_)
 cases b with
 | true =>
  obtain⟨N,hN,q2⟩:=q2
  rw [if_pos rfl]
  refine wpAny_passesOwn hp (thn (hb pins s2 σ1 H2 _ I2 q2) fun f s3 q3=>?_)
  cases f with
  | next =>
   obtain⟨σ3,H3,I3,n3⟩:=q3
   obtain⟨m',hm,w3⟩:=hN σ3 H3 n3
   exact⟨m',hm,σ3,H3,I3,w3⟩
  | cont =>
   obtain⟨σ3,H3,I3,n3⟩:=q3
   obtain⟨m',hm,w3⟩:=hN σ3 H3 n3
   exact⟨m',hm,σ3,H3,I3,w3⟩
  | brk=>exact q3
  | ret v=>exact q3
 | false =>
  rw [if_neg Bool.false_ne_true]
  exact wpAny_execs_nil ⟨σ1,H2,I2,q2⟩
end
structure It where
 go:Nat->Hp->Prop
 yld:Nat->Hp->V->Hp->Prop
 stop:Nat->Hp->Prop
def zeP (X:Cx)(pins:List (Addr×Obj))(H:Hp)(b:Addr):Prop :=
 H b=none/\b≠X.env.locals/\b∉X.fs/\(b∈X.ex\/X.s₀.heap.objs.size<=b)/\(∀ x c,X.env.cells.lookup x=some c->c≠b)/\∀ p∈X.pn++pins,p.1≠b
theorem Inv.fpOk {X:Cx}{pins:List (Addr×Obj)}{σ:St}{H H':Hp}{s:Shared}{b:Addr}(I:Inv X pins σ H s)(hb:s.heap.objs.size<=b)(hn:H' b=none):zeP X pins H' b:=by
 refine⟨hn,Nat.ne_of_gt (Nat.lt_of_lt_of_le I.lt hb),I.nofs hb,.inr (Nat.le_trans I.sz hb),fun x c e z=>?_,fun p hp z=>?_⟩
 ·obtain⟨v,q⟩:=I.cell x c e
  exact absurd (Nat.lt_of_lt_of_le q.lt (by rw [z];exact hb)) (Nat.lt_irrefl _)
 ·exact absurd (Nat.lt_of_lt_of_le (Heap.lt_size (I.pin p hp).1) (by rw [z];exact hb)) (Nat.lt_irrefl _)
structure Turn (P:Program)(w:World)(K:PySem.W.Frag)(tg:Expr)(J:It)(fp:List Addr)(it:Addr)(tn:Nat->Heap->Prop):Prop where
 mem:it∈fp
 obj:∀ i h,tn i h->∀ b∈fp,∃ o,h.get? b=some o/\∀ v,o.data≠.cell v
 keep:∀ i h h',tn i h->(∀ b∈fp,∀ o,h.get? b=some o->h'.get? b=some o)->tn i h'
 item:∀ (X:Cx),X.prog=P->X.w=w->X.K=K->X.calm=true->∀ (i:Nat) (pins:List (Addr×Obj)) (s:Shared) (σ:St) (H:Hp) (E:Value->Shared->Prop),Inv X pins σ H s->(∀ b∈fp,zeP X pins H b)->tn i s.heap->J.go i H ->
  wpAny (model P w) X.A (pyNext (.ref it)) (fun r s1=>∃ u,r=some u /\
   wpAny (model P w) X.A (letOwnedTupleGo tg (.ref it) u) (fun _ s2=>∃ x H',Inv X pins σ H' s2/\RelV x u/\J.yld i H x H'/\tn (i+1) s2.heap/\∀ b∈fp,H' b=none) E s1) E s
 done:∀ (X:Cx),X.prog=P->X.w=w->X.K=K->X.calm=true->∀ (i:Nat) (pins:List (Addr×Obj)) (s:Shared) (σ:St) (H:Hp) (E:Value->Shared->Prop),Inv X pins σ H s->(∀ b∈fp,zeP X pins H b)->tn i s.heap->J.stop i H ->
  wpAny (model P w) X.A (pyNext (.ref it)) (fun r s1=>r=none/\Inv X pins σ H s1) E s
 self:∀ (A:Around) (i:Nat) (s:Shared) (Q:Value->Shared->Prop) (E:Value->Shared->Prop),tn i s.heap->Q (.ref it) s->wpAny (model P w) A (pyIter (.ref it)) Q E s
abbrev TI:=St->Hp->(It->Hp->Prop)->Prop
def PIE (X:Cx)(pins:List (Addr×Obj))(σ:St)(tg:Expr)(R:It->Hp->Prop)(itv:Value)(s2:Shared):Prop :=
 ∃ (it:Addr) (fp:List Addr) (tn:Nat->Heap->Prop) (J:It) (H':Hp),itv=.ref it/\Inv X pins σ H' s2/\Turn X.prog X.w X.K tg J fp it tn/\tn 0 s2.heap/\(∀ b∈fp,zeP X pins H' b)/\R J H'
def PI (X:Cx)(tg iter:Expr)(wi:TI):Prop :=
 ∀ (pins:List (Addr×Obj)) (s:Shared) (σ:St) (H:Hp) (R:It->Hp->Prop),Inv X pins σ H s->wi σ H R ->
  wpAny (model X.prog X.w) X.A (eval iter X.env) (fun v s1=>wpAny (model X.prog X.w) X.A (pyIter v) (PIE X pins σ tg R) X.xe s1) X.xe s
theorem zfv {M:Model}{A:Around}{E:Value->Shared->Prop}{s:Shared}{tg:Expr}{it:Addr}{u:Value}{o:Obj}{n:String}{vs:Array Value}{Q:Unit->Shared->Prop}(ho:s.heap.get? it=some o)(hc:o.cls=.type n)(hd:o.data=.fields vs)
    (hn:["enumerate","zip","dict_itemiterator","dict_reverseitemiterator","odict_iterator","itertools.zip_longest","itertools.pairwise"].contains n=false) (hQ:Q () s):wpAny M A (letOwnedTupleGo tg (.ref it) u) Q E s:=by
  unfold letOwnedTupleGo
  cases tg<;>first
    | exact wpAny_pure hQ
    | (cases u <;> first
        | exact wpAny_pure hQ
        | (refine wpAny_bind (wpAny_load ho ?_)
           rw [hc,hd]
           show wpAny M A (if (["enumerate","zip","dict_itemiterator","dict_reverseitemiterator","odict_iterator","itertools.zip_longest","itertools.pairwise"].contains n&&vs[0]?==some (rawInt _))=true then _ else _) Q E s
           rw [if_neg (by intro h;rw [hn,Bool.false_and] at h;cases h)]
           exact wpAny_pure hQ))
def Itl (K:PySem.W.Frag)(a:Addr):It :=
 ⟨fun i H=>∃ xs x,SqL K H a xs/\xs[i]?=some x,fun i H x H'=>H'=H/\∀ xs,SqL K H a xs->xs[i]?=some x,fun i H=>∃ xs,SqL K H a xs/\xs.length<=i⟩
def Itt (K:PySem.W.Frag)(a:Addr):It :=
 ⟨fun i H=>∃ xs x,SqT K H a xs/\xs[i]?=some x,fun i H x H'=>H'=H/\∀ xs,SqT K H a xs->xs[i]?=some x,fun i H=>∃ xs,SqT K H a xs/\xs.length<=i⟩
def Itr (lo:Int)(n:Nat):It:=⟨fun i _=>i<n,fun i H x H'=>H'=H/\x=.int (lo+i),fun i _=>n<=i⟩
theorem zkF {P:Program}{w:World}{K:PySem.W.Frag}{tg:Expr}(a it:Addr):Turn P w K tg (Itl K a) [it] it (fun i h=>h.IsListIter it a i) where
 mem:=by simp
 obj:=fun i h st b hb=>by
  have e:b=it:=by simpa using hb
  subst e
  obtain⟨o,e,c,d⟩:=st
  exact⟨o,e,fun v z=>by rw [d] at z;cases z⟩
 keep:=fun i h h' st k=>st.at fun o e=>k it (by simp) o e
 item:=by
  intro X hP hw hK hc i pins s σ H E I hf st hg
  subst hP hw hK
  obtain⟨xs,x,hq,hx⟩:=hg
  obtain⟨its,rv,p,hz⟩:=I.list hq
  obtain⟨u,hu,ru⟩:=rv.get hx
  obtain⟨f0,f1,f2,f3,f4,f5⟩:=hf it (by simp)
  refine wpAny_pyNext_list_item st p.isList (x:=u) (by simpa using hu) fun h' st' sb=>?_
  have I1:Inv X pins σ H { s with heap:=h' }:=I.turned (t':=s.toks) (fun b o hb e=>(sb.2 b hb).trans e) f0 f1 f3 f4 f5
  obtain⟨o,e,c,d⟩:=id st'
  exact⟨u,rfl,zfv (s:={ s with heap:=h' }) e c d (by decide) ⟨x,H,I1,ru,⟨rfl,fun ys hy=>by rw [I.list_inj hy hq];exact hx⟩,st',fun b hb=>(hf b hb).1⟩⟩
 done:=by
  intro X hP hw hK hc i pins s σ H E I hf st hg
  subst hP hw hK
  obtain⟨xs,hq,hx⟩:=hg
  obtain⟨its,rv,p,hz⟩:=I.list hq
  obtain⟨f0,f1,f2,f3,f4,f5⟩:=hf it (by simp)
  have hl:=rv.length
  exact wpAny_pyNext_list_end (I.ok.hd hc) st p.isList (by simp;omega) fun h' eb=>⟨rfl,I.turned (t':=s.toks) (fun b o hb e=>eb b o hb e) f0 f1 f3 f4 f5⟩
 self:=fun _ _ _ _ _ st h=>wpAny_pyIter_listiter st h
theorem zjA {P:Program}{w:World}{K:PySem.W.Frag}{tg:Expr}(a it:Addr):Turn P w K tg (Itt K a) [it] it (fun i h=>h.IsTupleIter it a i) where
 mem:=by simp
 obj:=fun i h st b hb=>by
  have e:b=it:=by simpa using hb
  subst e
  obtain⟨o,e,c,d⟩:=st
  exact⟨o,e,fun v z=>by rw [d] at z;cases z⟩
 keep:=fun i h h' st k=>st.at fun o e=>k it (by simp) o e
 item:=by
  intro X hP hw hK hc i pins s σ H E I hf st hg
  subst hP hw hK
  obtain⟨xs,x,hq,hx⟩:=hg
  obtain⟨its,rv,p,hz⟩:=I.tuple hq
  obtain⟨u,hu,ru⟩:=rv.get hx
  obtain⟨f0,f1,f2,f3,f4,f5⟩:=hf it (by simp)
  refine wpAny_pyNext_tuple_item st (show s.heap.IsTuple a its.toArray from p) (x:=u) (by simpa using hu) fun h' st' sb=>?_
  have I1:Inv X pins σ H { s with heap:=h' }:=I.turned (t':=s.toks) (fun b o hb e=>(sb.2 b hb).trans e) f0 f1 f3 f4 f5
  obtain⟨o,e,c,d⟩:=id st'
  exact⟨u,rfl,zfv (s:={ s with heap:=h' }) e c d (by decide) ⟨x,H,I1,ru,⟨rfl,fun ys hy=>by rw [I.tuple_inj hy hq];exact hx⟩,st',fun b hb=>(hf b hb).1⟩⟩
 done:=by
  intro X hP hw hK hc i pins s σ H E I hf st hg
  subst hP hw hK
  obtain⟨xs,hq,hx⟩:=hg
  obtain⟨its,rv,p,hz⟩:=I.tuple hq
  obtain⟨f0,f1,f2,f3,f4,f5⟩:=hf it (by simp)
  have hl:=rv.length
  exact wpAny_pyNext_tuple_end (I.ok.hd hc) st (show s.heap.IsTuple a its.toArray from p) (by simp;omega) fun h' eb=>⟨rfl,I.turned (t':=s.toks) (fun b o hb e=>eb b o hb e) f0 f1 f3 f4 f5⟩
 self:=fun _ _ _ _ _ st h=>wpAny_pyIter_tupleiter st h
theorem zgy {P:Program}{w:World}{K:PySem.W.Frag}{tg:Expr}(it:Addr)(lo:Int)(n:Nat):Turn P w K tg (Itr lo n) [it] it (fun i h=>IsRangeIter h it (lo+(i:Nat)*1) ((n:Int)-(i:Nat)) 1) where
 mem:=by simp
 obj:=fun i h st b hb=>by
  have e:b=it:=by simpa using hb
  subst e
  exact⟨_,st,fun v z=>by
   have z':Data.fields _=Data.cell v:=z
   cases z'⟩
 keep:=fun i h h' st k=>k it (by simp) _ st
 item:=by
  intro X hP hw hK hc i pins s σ H E I hf st hg
  subst hP hw hK
  obtain⟨f0,f1,f2,f3,f4,f5⟩:=hf it (by simp)
  have W:=Walks.range (prog:=X.prog) (w:=X.w) (I.ok.hd hc) it lo 1 n
  refine W.item i s _ _ hg st fun v h' tk hv st' kk=>?_
  obtain⟨t,rfl⟩:=hv
  have I1:Inv X pins σ H { s with heap:=h',toks:=tk }:=I.turned (fun b o hb e=>kk b o (by simpa using hb) e) f0 f1 f3 f4 f5
  refine⟨_,rfl,zfv (s:={ s with heap:=h',toks:=tk }) (n:="range_iterator") st' rfl rfl (by decide) ⟨.int (lo+i),H,I1,⟨t,?_⟩,⟨rfl,rfl⟩,st',fun b hb=>(hf b hb).1⟩⟩
  rw [Int.mul_one]
 done:=by
  intro X hP hw hK hc i pins s σ H E I hf st hg
  subst hP hw hK
  obtain⟨f0,f1,f2,f3,f4,f5⟩:=hf it (by simp)
  exact wpAny_pyNext_range_end (I.ok.hd hc) st (by have:n<=i:=hg;omega) fun h' eb=>⟨rfl,I.turned (t':=s.toks) (fun b o hb e=>eb b o hb e) f0 f1 f3 f4 f5⟩
 self:=fun _ _ _ _ _ st h=>wpAny_pyIter_rangeiter st h
section
variable {X:Cx}{tg:Expr}
theorem zma {pins:List (Addr×Obj)}{σ:St}{H:Hp}{s:Shared}{R:It->Hp->Prop}{E:Value->Shared->Prop}{lo hi:Int}{t u v:Tok}{tk:Nat}(I:Inv X pins σ H s)(h1:-(2 ^ 62)<=lo)(h2:lo<2 ^ 62)(h3:-(2 ^ 62)<=hi)(h4:hi<2 ^ 62)
    (q:R (Itr lo (hi-lo).toNat) H):wpAny (model X.prog X.w) X.A (pyIter (.ref s.heap.objs.size)) (PIE X pins σ tg R) E { s with heap:=s.heap.push { cls:=.type "range",data:=.fields #[.int lo t,.int hi u,.int 1 v] },toks:=tk }:=by
  refine wpAny_pyIter_range (IsRange.new ..) (small_one h1 h2 h3 h4) ?_
  have I1:Inv X pins σ H { s with heap:=s.heap.push { cls:=.type "range",data:=.fields #[.int lo t,.int hi u,.int 1 v] },toks:=tk }:=I.kept fun b o e=>Heap.get?_push_of_some _ e
  refine⟨(s.heap.push { cls:=.type "range",data:=.fields #[.int lo t,.int hi u,.int 1 v] }).objs.size,[(s.heap.push { cls:=.type "range",data:=.fields #[.int lo t,.int hi u,.int 1 v] }).objs.size],_,_,H,rfl,
    I1.kept (t':=tk) fun b o e=>Heap.get?_push_of_some _ e,zgy _ lo (hi-lo).toNat,?_,fun b hb=>?_,q⟩
  · have e1:lo+((0:Nat):Int)*1=lo:=by simp
    have e2:(((hi-lo).toNat:Nat):Int)-((0:Nat):Int)=Builtin.Range.rangeSize lo hi 1:=by rw [rangeSize_one];split<;>omega
    show IsRangeIter _ _ (lo+((0:Nat):Int)*1) ((((hi-lo).toNat:Nat):Int)-((0:Nat):Int)) 1
    rw [e1,e2]
    exact Heap.get?_push_size _ rfl
  · have e:b=(s.heap.push { cls:=.type "range",data:=.fields #[.int lo t,.int hi u,.int 1 v] }).objs.size:=by simpa using hb
    subst e
    exact I1.fpOk (Nat.le_refl _) (I1.hok.fresh (Nat.le_refl _))
def zbM (ta:TA):TI:=fun σ H R=>ta σ H fun vs H1=>∃ j:Int,vs=[.int j]/\-(2 ^ 62)<=j/\j<2 ^ 62/\R (Itr 0 j.toNat) H1
theorem zkW {a:Expr}{ta:TA}{p pos:Pos}(hg:Gl X "range")(hm:X.mg "range"=none)(ha:PA X [a] ta)(hs:starEach [a] X.env=[(false,eval a X.env)]:=by rfl):PI X tg (.Call (.Name "range" p) [a] [] pos) (zbM ta):=by
 intro pins s σ H R I h
 refine Call_ (zcH I hg hm boot_range (PyProof.Rows.callWith_type1 (thn (ha pos pins s σ H _ I h) fun us s1 ⟨vs,H1,I1,r1,q1⟩=>?_) hs rfl))
 obtain⟨j,e,q1,q2,q⟩:=q1
 subst e
 cases r1 with
 | cons r rr =>
  cases rr
  obtain⟨t,rfl⟩:=r
  exact call_range_1 (zma I1 (by omega) (by omega) q1 q2 (by simpa using q))
def zra (wi:TI)(g:TG)(tb:TS):TS:=fun D σ H=>wi σ H fun J H1=>∃ W:Nat->Nat->St->Hp->Prop,(∃ m,W 0 m σ H1)/\∀ i m σ H,W i m σ H ->
 (J.stop i H/\D.nx σ H)\/(J.go i H/\∃ N:St->Hp->Prop,(∀ σ' H',N σ' H'->∃ m',m'<m/\W (i+1) m' σ' H')/\∀ x H',J.yld i H x H'->g x σ H' fun σ2 H2=>tb { D with nx:=N,ct:=N,bk:=D.nx } σ2 H2)
def zfr (fp:List Addr)(h:Heap):List (Addr×Obj):=fp.filterMap fun b=>(h.get? b).map fun o=>(b,o)
theorem zdz {fp:List Addr}{h:Heap}{b:Addr}{o:Obj}(hb:b∈fp)(e:h.get? b=some o):(b,o)∈zfr fp h:=List.mem_filterMap.mpr ⟨b,hb,by rw [e];rfl⟩
theorem zk6 {fp:List Addr}{h:Heap}{p:Addr×Obj}(hp:p∈zfr fp h):p.1∈fp/\h.get? p.1=some p.2:=by
 obtain⟨b,hb,e⟩:=List.mem_filterMap.mp hp
 cases q:h.get? b with
 | none=>rw [q] at e;cases e
 | some o =>
  rw [q] at e
  have e':(b,o)=p:=Option.some.inj e
  subst e'
  exact⟨hb,q⟩
theorem Inv.pinned {pins:List (Addr×Obj)}{σ:St}{H:Hp}{s:Shared}{fp:List Addr}(I:Inv X pins σ H s)(hf:∀ b∈fp,zeP X pins H b)(ho:∀ b∈fp,∃ o,s.heap.get? b=some o/\∀ v,o.data≠.cell v):Inv X (pins++zfr fp s.heap) σ H s :=
 I.pins_of fun p hp=>(List.mem_append.mp hp).elim (fun z=>I.pin p (List.mem_append_right _ z)) fun z=>by
  obtain⟨hb,e⟩:=zk6 z
  obtain⟨f0,f1,f2,_⟩:=hf p.1 hb
  obtain⟨o,e',d⟩:=ho p.1 hb
  rw [e] at e';cases e'
  exact⟨e,f0,f1,f2,d⟩
theorem Inv.unpinned {pins pl:List (Addr×Obj)}{σ:St}{H:Hp}{s:Shared}(I:Inv X (pins++pl) σ H s):Inv X pins σ H s:=I.pins_of fun p hp=>I.pin p (List.mem_append_right _ (List.mem_append_left _ hp))
theorem zo6 {iter:Expr}{body:List Stmt}{wi:TI}{g:TG}{tb:TS}{pos:Pos}(hp:PassesOwn (model X.prog X.w) X.A X.env X.xe)(hc:X.calm=true)(hi:PI X tg iter wi)(hg:PG X tg g)(hb:PSs X body tb)
  (hs:∀ x,foldedSetIterable iter X.env x=pure x:=by intro _;rfl):PS X (.For tg iter body [] pos) (zra wi g tb):=by
 intro pins s σ H D I h
 refine wpAny_For (thn (hi pins s σ H _ I h) fun v s1 h1=>thn h1 fun itv s2 h2=>?_) hs
 obtain⟨it,fp,tn,J,H2,e,I2,T,st2,f2,W,⟨m0,w0⟩,turn⟩:=h2
 subst e
 have stat:∀ {H':Hp},(∀ b∈fp,H' b=none)->∀ b∈fp,zeP X pins H' b:=fun hn b hb=>⟨hn b hb,(f2 b hb).2⟩
 refine codeAny_forLoop_any (fun n s'=>∃ i σ' H',Inv X pins σ' H' s'/\tn i s'.heap/\(∀ b∈fp,H' b=none)/\W i n σ' H') ?_ m0 ⟨0,σ,H2,I2,st2,fun b hb=>(f2 b hb).1,w0⟩
 rintro n s3 ⟨i,σ3,H3,I3,st3,fr3,w3⟩
 rcases turn i n σ3 H3 w3 with ⟨stop,qn⟩ | ⟨go,N,hN,step⟩
 ·refine wpAny_passesOwn hp (thn (T.done X rfl rfl rfl hc i pins s3 σ3 H3 X.xe I3 (stat fr3) st3 stop) fun r s4 ⟨hr,I4⟩=>?_)
  subst hr
  exact wpAny_execs_nil ⟨σ3,H3,I4,qn⟩
 ·refine wpAny_passesOwn hp (thn (T.item X rfl rfl rfl hc i pins s3 σ3 H3 X.xe I3 (stat fr3) st3 go) fun r s4 ⟨u,hr,h4⟩=>?_)
  subst hr
  refine wpAny_passesOwn hp (thn h4 fun _ s5 ⟨x,H5,I5,r5,y5,st5,fr5⟩=>?_)
  have I5':=I5.pinned (stat fr5) (T.obj _ _ st5)
  refine wpAny_passesOwn hp (thn (hg _ s5 σ3 H5 x u _ I5' r5 (step x H5 y5)) fun _ s6 ⟨σ6,H6,I6,q6⟩=>?_)
  refine wpAny_passesOwn hp (thn (hb _ s6 σ6 H6 _ I6 q6) fun f s7 q7=>?_)
  have again:∀ {σ7:St} {H7:Hp},Inv X (pins++zfr fp s5.heap) σ7 H7 s7->N σ7 H7->∃ m,m<n/\∃ i σ' H',Inv X pins σ' H' s7/\tn i s7.heap/\(∀ b∈fp,H' b=none)/\W i m σ' H':=fun {σ7 H7} I7 n7=>by
   obtain⟨m',hm,w7⟩:=hN σ7 H7 n7
   refine⟨m',hm,i+1,σ7,H7,I7.unpinned,T.keep _ _ _ st5 fun b hb o e=>(I7.pin (b,o) (List.mem_append_right _ (List.mem_append_right _ (zdz hb e)))).1,fun b hb=>?_,w7⟩
   obtain⟨o,e,d⟩:=T.obj _ _ st5 b hb
   exact (I7.pin (b,o) (List.mem_append_right _ (List.mem_append_right _ (zdz hb e)))).2.1
  cases f with
  | next=>obtain⟨σ7,H7,I7,n7⟩:=q7;exact again I7 n7
  | cont=>obtain⟨σ7,H7,I7,n7⟩:=q7;exact again I7 n7
  | brk=>obtain⟨σ7,H7,I7,q7⟩:=q7;exact⟨σ7,H7,I7.unpinned,q7⟩
  | ret v=>obtain⟨x7,σ7,H7,I7,r7,q7⟩:=q7;exact⟨x7,σ7,H7,I7.unpinned,r7,q7⟩
end
abbrev R2:=V->V->Hp->VK->Prop
def OpR (X:Cx)(f:Value->Value->Sem Value)(r:R2):Prop :=
 ∀ (pins:List (Addr×Obj)) (s:Shared) (σ:St) (H:Hp) (x y:V) (v u:Value) (Q:VK),Inv X pins σ H s->RelV x v->RelV y u->r x y H Q ->
  wpAny (model X.prog X.w) X.A (f v u) (EP X pins σ Q) X.xe s
def UnR (X:Cx)(f:Value->Sem Value)(r:V->Hp->VK->Prop):Prop :=
 ∀ (pins:List (Addr×Obj)) (s:Shared) (σ:St) (H:Hp) (x:V) (v:Value) (Q:VK),Inv X pins σ H s->RelV x v->r x H Q ->
  wpAny (model X.prog X.w) X.A (f v) (EP X pins σ Q) X.xe s
def za5 (X:Cx)(f:Value)(r:List V->Hp->VK->Prop):Prop :=
 ∀ (pins:List (Addr×Obj)) (s:Shared) (σ:St) (H:Hp) (xs:List V) (us:List Value) (Q:VK),Inv X pins σ H s->Vals xs us->r xs H Q ->
  wpAny (model X.prog X.w) X.A (call f us) (EP X pins σ Q) X.xe s
def tOp (r:R2)(ta tb:TE):TE:=fun σ H Q=>ta σ H fun x H1=>tb σ H1 fun y H2=>r x y H2 Q
def tUn (r:V->Hp->VK->Prop)(ta:TE):TE:=fun σ H Q=>ta σ H fun x H1=>r x H1 Q
def rI (C:Int->Int->Prop)(g:Int->Int->V):R2:=fun x y H Q=>∃ i j,x=.int i/\y=.int j/\C i j/\Q (g i j) H
def rI0 (g:Int->Int->V):R2:=fun x y H Q=>∃ i j,x=.int i/\y=.int j/\Q (g i j) H
def rU (g:Int->V):V->Hp->VK->Prop:=fun x H Q=>∃ i,x=.int i/\Q (g i) H
section
variable {X:Cx}{a b c:Expr}{ta tb tc:TE}{pos:Pos}
theorem zl2 (ha:PE X a ta)(hb:PE X b tb){pins:List (Addr×Obj)}{s:Shared}{σ:St}{H:Hp}{R:V->V->Hp->Prop}(I:Inv X pins σ H s)
  (h:ta σ H fun x H1=>tb σ H1 fun y H2=>R x y H2) {Q:Value->Shared->Prop} {f:Value->Value->Sem Value}
  (hf:∀ v u s2 x y H2,Inv X pins σ H2 s2->RelV x v->RelV y u->R x y H2->wpAny (model X.prog X.w) X.A (f v u) Q X.xe s2) :
  wpAny (model X.prog X.w) X.A (eval a X.env) (fun v s₁=>wpAny (model X.prog X.w) X.A (eval b X.env) (fun u s₂=>wpAny (model X.prog X.w) X.A (f v u) Q X.xe s₂) X.xe s₁) X.xe s:=by
 refine thn (ha pins s σ H _ I h) fun v s1 ⟨x,H1,I1,r1,q1⟩=>?_
 refine thn (hb pins s1 σ H1 _ I1 q1) fun u s2 ⟨y,H2,I2,r2,q2⟩=>?_
 exact hf v u s2 x y H2 I2 r1 r2 q2
theorem zmz {op:Operator}{r:R2}(ho:OpR X (binaryOp op) r)(ha:PE X a ta)(hb:PE X b tb):PE X (.BinOp a op b pos) (tOp r ta tb):=by
 intro pins s σ H Q I h
 exact wpAny_BinOp (zl2 ha hb I h fun v u s2 x y H2 I2 rx ry q=>ho pins s2 σ H2 x y v u Q I2 rx ry q)
theorem zqs {op:UnaryOp}{r:V->Hp->VK->Prop}(ho:UnR X (unaryOp op) r)(ha:PE X a ta):PE X (.UnaryOp op a pos) (tUn r ta):=by
 intro pins s σ H Q I h
 exact UnaryOp_ (thn (ha pins s σ H _ I h) fun v s1 ⟨x,H1,I1,r1,q1⟩=>ho pins s1 σ H1 x v Q I1 r1 q1)
theorem opI {f:Value->Value->Sem Value}{C:Int->Int->Prop}{g:Int->Int->Int}
  (rule:∀ (i j:Int) (t u:Tok) (s:Shared) (Q:Value->Shared->Prop) (E:Value->Shared->Prop),C i j->Q (.int (g i j) s.toks) { s with toks:=s.toks+1 }->wpAny (model X.prog X.w) X.A (f (.int i t) (.int j u)) Q E s) :
  OpR X f (rI C fun i j=>.int (g i j)):=by
 intro pins s σ H x y v u Q I rx ry h
 obtain⟨i,j,rfl,rfl,hc,q⟩:=h
 obtain⟨t,rfl⟩:=rx
 obtain⟨t',rfl⟩:=ry
 exact rule i j t t' s _ _ hc ⟨.int (g i j),H,I.tok _,⟨_,rfl⟩,q⟩
theorem zn6 {f:Value->Value->Sem Value}{g:Int->Int->Int}
  (rule:∀ (i j:Int) (t u:Tok) (s:Shared) (Q:Value->Shared->Prop) (E:Value->Shared->Prop),Q (.int (g i j) s.toks) { s with toks:=s.toks+1 }->wpAny (model X.prog X.w) X.A (f (.int i t) (.int j u)) Q E s) :
  OpR X f (rI0 fun i j=>.int (g i j)):=by
 intro pins s σ H x y v u Q I rx ry h
 obtain⟨i,j,rfl,rfl,q⟩:=h
 obtain⟨t,rfl⟩:=rx
 obtain⟨t',rfl⟩:=ry
 exact rule i j t t' s _ _ ⟨.int (g i j),H,I.tok _,⟨_,rfl⟩,q⟩
theorem zlu {f:Value->Value->Sem Value}{g:Int->Int->Bool}
  (rule:∀ (i j:Int) (t u:Tok) (s:Shared) (Q:Value->Shared->Prop) (E:Value->Shared->Prop),Q (.bool (g i j)) s->wpAny (model X.prog X.w) X.A (f (.int i t) (.int j u)) Q E s) :
  OpR X f (rI0 fun i j=>.bl (g i j)):=by
 intro pins s σ H x y v u Q I rx ry h
 obtain⟨i,j,rfl,rfl,q⟩:=h
 obtain⟨t,rfl⟩:=rx
 obtain⟨t',rfl⟩:=ry
 exact rule i j t t' s _ _ ⟨.bl (g i j),H,I,rfl,q⟩
def zq0 (i j:Int):Prop:=0<=j/\j<=1000000/\i.natAbs<2 ^ 64
def zka (i j:Int):Prop:=(-(2 ^ 64)<i/\i<2 ^ 64)\/(-(2 ^ 64)<j/\j<2 ^ 64)
theorem zka.ok {i j:Int}(h:zka i j):IntMulOk i j:=by
 rcases h with ⟨h1,h2⟩ | ⟨h1,h2⟩
 ·exact .of_left (intBits_le_64 h1 h2)
 ·exact .of_right (intBits_le_64 h1 h2)
theorem zoF:OpR X (binaryOp .Add) (rI0 fun i j=>.int (i+j)):=zn6 fun _ _ _ _ _ _ _ q=>add_int q
theorem zou:OpR X (binaryOp .Sub) (rI0 fun i j=>.int (i-j)):=zn6 fun _ _ _ _ _ _ _ q=>sub_int q
theorem znt:OpR X (binaryOp .Mod) (rI (fun _ j=>j≠0) fun i j=>.int (i.fmod j)):=opI fun _ _ _ _ _ _ _ hc q=>mod_int' hc q
theorem zpt:OpR X (binaryOp .Pow) (rI zq0 fun i j=>.int (i ^ j.toNat)):=opI fun _ _ _ _ _ _ _ hc q=>pow_int_small hc.1 hc.2.1 hc.2.2 q
theorem unI {f:Value->Sem Value}{g:Int->Int}
  (rule:∀ (i:Int) (t:Tok) (s:Shared) (Q:Value->Shared->Prop) (E:Value->Shared->Prop),Q (.int (g i) s.toks) { s with toks:=s.toks+1 }->wpAny (model X.prog X.w) X.A (f (.int i t)) Q E s) :
  UnR X f (rU fun i=>.int (g i)):=by
 intro pins s σ H x v Q I rx h
 obtain⟨i,rfl,q⟩:=h
 obtain⟨t,rfl⟩:=rx
 exact rule i t s _ _ ⟨.int (g i),H,I.tok _,⟨_,rfl⟩,q⟩
theorem zn0:UnR X (unaryOp .USub) (rU fun i=>.int (-i)):=unI fun _ _ _ _ _ q=>neg_int q
end
section
variable {X:Cx}{a b c:Expr}{ta tb tc:TE}{pos:Pos}
theorem ziB {pins:List (Addr×Obj)}{σ:St}{H:Hp}{s:Shared}{Q:VK}{k k':Bool}(I:Inv X pins σ H s)(q:Q (.bl k) H)(e:k=k'):EP X pins σ Q (.bool k') s:=by
 subst e
 exact⟨.bl k,H,I,rfl,q⟩
theorem zpB:OpR X (compareOp .Lt) (rI0 fun i j=>.bl (decide (i<j))):=zlu fun _ _ _ _ _ _ _ q=>lt_int q
theorem zpP:OpR X (compareOp .LtE) (rI0 fun i j=>.bl (decide (i<=j))):=zlu fun _ _ _ _ _ _ _ q=>le_int q
theorem zqK:OpR X (compareOp .Gt) (rI0 fun i j=>.bl (decide (j<i))):=zlu fun _ _ _ _ _ _ _ q=>gt_int q
theorem zk5:OpR X (compareOp .In) (fun x y H Q=>∃ i j,x=.str i/\y=.str j/\Q (.bl (!(Builtin.Str.occurrences j i 0 j.length 1).isEmpty)) H):=by
 intro pins s σ H x y v u Q I rx ry h
 obtain⟨i,j,rfl,rfl,q⟩:=h
 obtain⟨t,rfl⟩:=rx
 obtain⟨t',rfl⟩:=ry
 exact in_str (ziB I q rfl)
theorem znu:OpR X (compareOp .IsNot) (fun x y H Q=>y=.non/\Q (.bl (!decide (x=.non))) H):=by
  intro pins s σ H x y v u Q I rx ry h
  obtain⟨rfl,q⟩:=h
  cases ry
  refine isnot_none_gen (ziB I q ?_)
  cases x<;>first
    | (cases rx;rfl)
    | (obtain⟨t,rfl⟩:=rx;rfl)
theorem zh5:OpR X (compareOp .NotIn) (fun x y H Q=>∃ i j,x=.str i/\y=.str j/\Q (.bl (!(!(Builtin.Str.occurrences j i 0 j.length 1).isEmpty))) H):=by
 intro pins s σ H x y v u Q I rx ry h
 obtain⟨i,j,rfl,rfl,q⟩:=h
 obtain⟨t,rfl⟩:=rx
 obtain⟨t',rfl⟩:=ry
 exact notIn_str (ziB I q rfl)
theorem OpR.or {f:Value->Value->Sem Value}{r r':R2}(h:OpR X f r)(h':OpR X f r'):OpR X f (fun x y H Q=>r x y H Q\/r' x y H Q):=by
 intro pins s σ H x y v u Q I rx ry q
 rcases q with q | q
 ·exact h pins s σ H x y v u Q I rx ry q
 ·exact h' pins s σ H x y v u Q I rx ry q
theorem zk0 (b:Expr){op:CmpOp}(h:op≠.In:=by decide)(h2:op≠.NotIn:=by decide):behindInMarks op b=false:=by
  have e1:(op==CmpOp.In)=false:=by cases op<;>first | rfl | exact absurd rfl h
  have e2:(op==CmpOp.NotIn)=false:=by cases op<;>first | rfl | exact absurd rfl h2
  cases b<;>simp [behindInMarks,e1,e2]
theorem zjw {op:CmpOp}{r:R2}(ho:OpR X (compareOp op) r)(ha:PE X a ta)(hb:PE X b tb)(hm:behindInMarks op b=false):PE X (.Compare a [op] [b] pos) (tOp r ta tb):=by
 intro pins s σ H Q I h
 exact wpAny_Compare1 (zl2 ha hb I h fun v u s2 x y H2 I2 rx ry q=>ho pins s2 σ H2 x y v u Q I2 rx ry q) hm
def zpK (t:TE):TT:=fun σ H Q=>t σ H fun x H'=>∃ k,x=.bl k/\Q k H'
theorem zju {op:CmpOp}{r:R2}(ho:OpR X (compareOp op) r)(ha:PE X a ta)(hb:PE X b tb)(hm:behindInMarks op b=false):PT X (.Compare a [op] [b] pos) (zpK (tOp r ta tb)):=by
 intro pins s σ H Q I h
 refine wpAny_isTrue_Compare1 (thn (ha pins s σ H _ I h) fun v s1 ⟨x,H1,I1,r1,q1⟩=>thn (hb pins s1 σ H1 _ I1 q1) fun u s2 ⟨y,H2,I2,r2,q2⟩ =>
  thn (ho pins s2 σ H2 x y v u _ I2 r1 r2 q2) fun c s3 ⟨z,H3,I3,r3,k,e,q3⟩=>?_) hm
 subst e
 cases r3
 exact wpAny_truthy_bool ⟨H3,I3,q3⟩
theorem zei:(sizeLine:Nat)<2 ^ 63:=by rw [sizeLine_eq];decide
theorem zkh:OpR X (binaryOp .Add) (fun x y H Q=>∃ i j,x=.str i/\y=.str j/\i.length+j.length<=sizeLine/\Q (.str (i++j)) H):=by
 intro pins s σ H x y v u Q I rx ry h
 obtain⟨i,j,rfl,rfl,hz,q⟩:=h
 obtain⟨t,rfl⟩:=rx
 obtain⟨t',rfl⟩:=ry
 exact add_str (fun t' tk=>⟨.str (i++j),H,I.tok _,⟨_,rfl⟩,q⟩) hz
theorem vals1 {x:V}{us:List Value}(r:Vals [x] us):∃ u,us=[u]/\RelV x u:=by
 cases r with
 | cons r1 r2=>cases r2;exact⟨_,rfl,r1⟩
theorem vals2 {x y:V}{us:List Value}(r:Vals [x,y] us):∃ u w',us=[u,w']/\RelV x u/\RelV y w':=by
 cases r with
 | cons r1 r2 =>
  cases r2 with
  | cons r3 r4=>cases r4;exact⟨_,_,rfl,r1,r3⟩
theorem zl7:za5 X (.builtin "abs") (fun xs H Q=>∃ i,xs=[.int i]/\Q (.int (if i<0 then -i else i)) H):=by
 intro pins s σ H xs us Q I r h
 obtain⟨i,rfl,q⟩:=h
 obtain⟨u,rfl,t,rfl⟩:=vals1 r
 exact call_abs_int fun u tk=>⟨.int (if i<0 then -i else i),H,I.tok _,⟨_,rfl⟩,q⟩
theorem zlg:za5 X (.type "int") (fun xs H Q=>(∃ i,xs=[.int i]/\Q (.int i) H)\/∃ k,xs=[.bl k]/\Q (.int (if k then 1 else 0)) H):=by
 intro pins s σ H xs us Q I r h
 rcases h with ⟨i,rfl,q⟩ | ⟨k,rfl,q⟩
 ·obtain⟨u,rfl,t,rfl⟩:=vals1 r
  exact call_int_int ⟨.int i,H,I,⟨_,rfl⟩,q⟩
 ·obtain⟨u,rfl,r1⟩:=vals1 r
  cases r1
  exact call_int_bool ⟨.int (if k then 1 else 0),H,I.tok _,⟨_,rfl⟩,q⟩
end
structure zgT (h:Heap)(x dx C:Addr)(mA:Str->Option Value):Prop where
 obj:h.get? x=some (PySem.W.instObj C dx)
 ns:h.Ns1 dx mA
 ne:dx≠x
theorem zkt {h:Heap}{dx:Addr}{mA:Str->Option Value}(n:h.Ns1 dx mA):∃ od,h.get? dx=some od/\∀ name,PySem.W.lookIn name od=some (mA name):=by
 obtain⟨o,es,ep,ho,hd,hk,_,hm⟩:=n
 refine⟨o,ho,fun name=>?_⟩
 have e:=hm name
 unfold nsFind findBy at e
 rw [<- Array.find?_toList] at e
 unfold PySem.W.lookIn
 rw [hd]
 dsimp only
 split
 ·rename_i y q
  rw [q] at e
  exact congrArg some e
 ·rename_i q
  rw [q] at e
  have a:es.toList.any (·.refKey)=false:=by
   rw [List.any_eq_false]
   intro y hy
   obtain⟨z,t,hkey⟩:=hk y (Array.mem_toList_iff.mp hy)
   simp [DictEntry.refKey,hkey]
  have a':¬ es.toList.any (·.refKey)=true:=by rw [a];exact Bool.false_ne_true
  rw [if_neg a']
  exact congrArg some e
theorem zgT.look {h:Heap}{x dx C:Addr}{mA:Str->Option Value}(I:zgT h x dx C mA):∃ od,PySem.W.InstAt h x (PySem.W.instObj C dx) C (some od)/\∀ name,PySem.W.lookIn name od=some (mA name) :=
 let ⟨od,ho,hl⟩:=zkt I.ns
 ⟨od,⟨I.obj,rfl,rfl,ho⟩,hl⟩
section
variable {prog:Program}{w:World}{A:Around}{E:Value->Shared->Prop}{s:Shared}{K:PySem.W.Frag}{x dx C f:Addr}{mA:Str->Option Value}{name:Str}{v:Value}
theorem get_map {expr:Bool}{Q:Value->Shared->Prop}(X:K.In s.heap)(I:zgT s.heap x dx C mA)(hg:PySem.W.plainGet K C name=true)(hh:PySem.W.hasDictIn K C=true)
  (ha:PySem.W.findIn K (.ref C) name=some none) (hv:mA name=some v) (hv':PySem.W.handedIn v=true) (h:Q v { s with toks:=s.toks+1 }) :
  wpAny (model prog w) A (getAttr (.ref x) name expr) Q E s:=by
 obtain⟨od,J,hl⟩:=I.look
 exact PySem.W.get_value X J (PySem.W.plainGet_of hg).1 (PySem.W.findObj_own hh ha rfl (by rw [hl,hv])) hv' h
theorem zm5 {ns:List Str}{Q:Unit->Shared->Prop}(X:K.In s.heap)(I:zgT s.heap x dx C mA)
  (hs:PySem.W.findIn K (.ref C) "__setattr__"=some (some (.builtin "object.__setattr__"))) (hp:PySem.W.plainOver K C=true) (ht:PySem.W.takerIn K C name=some none) (hh:PySem.W.hasDictIn K C=true)
  (hw:PySem.Within mA ns) (hsz:ns.length<=sizeLine)
  (h:∀ h',zgT h' x dx C (fun y=>if y=name then some v else mA y)->Heap.SameBut dx s.heap h'->Q () { s with heap:=h',toks:=s.toks+2 }) :
  wpAny (model prog w) A (setAttr (.ref x) name v) Q E s:=by
 obtain⟨od,J,hl⟩:=I.look
 refine PySem.W.set_plain X J hs (PySem.W.osa_open (s:={ s with toks:=s.toks+1 }) (r:=none) X J hp ht fun b=>?_)
 obtain⟨cd,hc,hd'⟩:=PySem.W.any_some hh
 have hx:s.heap.get? x=some ⟨.ref C,some dx,.plain,#[]⟩:=I.obj
 refine wpAny_bind (wpAny_pure (wpAny_bind (wpAny_bind (wpAny_loadPart hx (wpAny_bind (PySem.W.Looks.here (s:={ s with toks:=s.toks+1 }) (PySem.W.looks_clsIn X hc) ?_))))))
 rw [hd']
 refine wpAny_pure (a:=some dx) (wpAny_bind (wpAny_pure (wpAny_bind ?_)))
 refine wpAny_nsSet1 (s:={ s with toks:=s.toks+1 }) I.ns fun h' hn2 hs2=>?_
 obtain⟨oD,esD,epD,hoD,hdD,hcD⟩:=hn2.count (PySem.Within.cons name v hw)
 refine wpAny_bind (wpAny_lookBehind hoD (by rw [hdD];exact pastItsLine_dict (Nat.le_trans hcD (by rw [List.length_cons];omega))) ?_)
 exact wpAny_pure (h _ ⟨(hs2.2 _ (Ne.symm I.ne)).trans I.obj,hn2,I.ne⟩ hs2)
theorem ziJ {R:Result->Shared->Prop}{vs:List Value}{kw:List (Str×Value)}(X:K.In s.heap)(hm:PySem.W.makesIn K C=true)
    (hi:PySem.W.findIn K (.ref C) "__init__"=some (some (.ref f))) (hf:PySem.W.typeIn K (.ref f)=some (.type "function"))
    (h:codeAny (model prog w) (A.under (.builtin "type.__call__" ⟨.ref C::vs,kw⟩)) (.call (.ref f) ⟨.ref (s.heap.objs.size+1)::vs,kw⟩) (PySem.W.InitBack (s.heap.objs.size+1) R)
      { s with heap:=(s.heap.push PySem.W.emptyDict).push (PySem.W.instObj C s.heap.objs.size) }) :
    codeAny (model prog w) A (.call (.ref C) ⟨vs,kw⟩) R s:=by
  obtain⟨hh,g,d,t,os⟩:=s
  exact PySem.W.make_core (PySem.W.makes_of X hm) (PySem.W.looks_findIn X hi) (fun self=>PySem.W.bind_fn X self hf) (.inl rfl) h
end
def zbg (f:Str)(v:V):List (Str×V)->List (Str×V)
 | []=>[(f,v)]
 | (g,x)::r=>if g=f then (g,v)::r else (g,x)::zbg f v r
theorem zfQ (f g:Str)(v:V):∀ fs:List (Str×V),(zbg f v fs).lookup g=if g=f then some v else fs.lookup g
 | []=>by
  show List.lookup g [(f,v)]=_
  by_cases h:g=f
  ·have hb:(g==f)=true:=beq_iff_eq.mpr h
   simp only [List.lookup,hb,if_pos h]
  ·have hb:(g==f)=false:=beq_eq_false_iff_ne.mpr h
   simp only [List.lookup,hb,if_neg h]
 | (k,x)::r=>by
  have ih:=zfQ f g v r
  rw [show zbg f v ((k,x)::r)=(if k=f then (k,v)::r else (k,x)::zbg f v r) from rfl]
  by_cases hk:k=f
  ·rw [if_pos hk]
   by_cases h:g=k
   ·have hb:(g==k)=true:=beq_iff_eq.mpr h
    simp only [List.lookup,hb,if_pos (h.trans hk)]
   ·have hb:(g==k)=false:=beq_eq_false_iff_ne.mpr h
    simp only [List.lookup,hb,if_neg (fun e:g=f=>h (e.trans hk.symm))]
  ·rw [if_neg hk]
   by_cases h:g=k
   ·have hb:(g==k)=true:=beq_iff_eq.mpr h
    simp only [List.lookup,hb,if_neg (fun e:g=f=>hk (h.symm.trans e))]
   ·have hb:(g==k)=false:=beq_eq_false_iff_ne.mpr h
    simp only [List.lookup,hb]
    exact ih
theorem zfm (f:Str)(v:V):∀ fs:List (Str×V),f∈(zbg f v fs).map (·.1)/\∀ g,g∈fs.map (·.1)->g∈(zbg f v fs).map (·.1)
 | []=>⟨by simp [zbg],fun g h=>by simp at h⟩
 | (k,x)::r=>by
  obtain⟨i1,i2⟩:=zfm f v r
  rw [show zbg f v ((k,x)::r)=(if k=f then (k,v)::r else (k,x)::zbg f v r) from rfl]
  by_cases hk:k=f
  ·rw [if_pos hk]
   subst hk
   exact⟨by simp,fun g h=>by simpa using h⟩
  ·rw [if_neg hk]
   refine⟨?_,fun g h=>?_⟩
   ·rw [List.map_cons]
    exact List.mem_cons_of_mem _ i1
   ·rw [List.map_cons] at h ⊢
    rcases List.mem_cons.mp h with e | e
    ·exact List.mem_cons.mpr (.inl e)
    ·exact List.mem_cons_of_mem _ (i2 g e)
theorem zfO (f:Str)(v:V):∀ fs:List (Str×V),(zbg f v fs).length<=fs.length+1
 | []=>by simp [zbg]
 | (k,x)::r=>by
  have ih:=zfO f v r
  rw [show zbg f v ((k,x)::r)=(if k=f then (k,v)::r else (k,x)::zbg f v r) from rfl]
  by_cases hk:k=f
  ·rw [if_pos hk,List.length_cons,List.length_cons];omega
  ·rw [if_neg hk,List.length_cons,List.length_cons];omega
theorem zfZ.some_of {v:V}{o:Option Value}(r:zfZ (some v) o):∃ u,o=some u/\RelV v u:=by
 cases o with
 | none=>exact (show False from r).elim
 | some u=>exact⟨u,rfl,r⟩
theorem zkE {v:V}{u:Value}(r:RelV v u):PySem.W.handedIn u=true:=by
 cases v with
 | non=>cases (show u=Value.none from r);rfl
 | bl b=>cases (show u=Value.bool b from r);rfl
 | int i=>obtain⟨t,e⟩:=(show ∃ t,u=Value.int i t from r);cases e;rfl
 | str x=>obtain⟨t,e⟩:=(show ∃ t,u=Value.str x t from r);cases e;rfl
 | byt b=>obtain⟨t,e⟩:=(show ∃ t,u=Value.bytes b t from r);cases e;rfl
 | flt b=>obtain⟨t,e⟩:=(show ∃ t,u=Value.float b t from r);cases e;rfl
 | ref a=>cases (show u=Value.ref a from r);rfl
 | ty n=>cases (show u=Value.type n from r);rfl
section
variable {P:Program}{w:World}{H H':Hp}{h h':Heap}{a C dx:Addr}{fs fs':List (Str×V)}
theorem zgW (hok:HOk P w H h)(e:H a=some (.ins C dx fs)):∃ mA,zgT h a dx C mA/\(∀ f,zfZ (fs.lookup f) (mA f))/\PySem.Within mA (fs.map (·.1))/\fs.length<=1000/\H dx=some (.own a):=by
 obtain⟨d,z,ne,ob,mA,n,r,q⟩:=(show zaT P w H h a (.ins C dx fs) from hok a _ e)
 exact⟨mA,⟨ob,n,ne⟩,r,q,z,d⟩
end
structure Cls (K:PySem.W.Frag)(C:Addr):Prop where
 pg:PySem.W.plainGet K C Str.empty=true
 hd:PySem.W.hasDictIn K C=true
 po:PySem.W.plainOver K C=true
 sa:PySem.W.findIn K (.ref C) "__setattr__"=some (some (.builtin "object.__setattr__"))
theorem Cls.get {K:PySem.W.Frag}{C:Addr}(c:Cls K C)(f:Str):PySem.W.plainGet K C f=true:=c.pg
def zah (K:PySem.W.Frag)(C:Addr)(f:Str):Prop:=PySem.W.findIn K (.ref C) f=some none
theorem zah.taker {K:PySem.W.Frag}{C:Addr}{f:Str}(n:zah K C f):PySem.W.takerIn K C f=some none:=by
 unfold PySem.W.takerIn
 rw [show PySem.W.findIn K (.ref C) f=some none from n]
 rfl
section
variable {X:Cx}{pins:List (Addr×Obj)}{σ:St}{H:Hp}{s:Shared}{a C dx:Addr}{fs:List (Str×V)}{f:Str}{v:V}{A:Around}{E:Value->Shared->Prop}
theorem zj7 {b:Bool}{Q:Value->Shared->Prop}(I:Inv X pins σ H s)(e:H a=some (.ins C dx fs))(c:Cls X.K C)(n:zah X.K C f)(l:fs.lookup f=some v)
  (h:∀ u s',Inv X pins σ H s'->RelV v u->Q u s'):wpAny (model X.prog X.w) A (getAttr (.ref a) f b) Q E s:=by
 obtain⟨mA,O,r,_,_,_⟩:=zgW I.hok e
 obtain⟨u,hu,ru⟩:=zfZ.some_of (v:=v) (o:=mA f) (by rw [<- l];exact r f)
 exact get_map I.kIn O (c.get f) c.hd n hu (zkE ru) (h u _ (I.tok _) ru)
theorem zjT {y:V}{u:Value}{Q:Unit->Shared->Prop}(I:Inv X pins σ H s)(e:H a=some (.ins C dx fs))(c:Cls X.K C)(n:zah X.K C f)(hl:fs.length<1000)(ry:RelV y u)
  (h:∀ s',Inv X pins σ (upd H a (.ins C dx (zbg f y fs))) s'->Q () s'):wpAny (model X.prog X.w) A (setAttr (.ref a) f u) Q E s:=by
 obtain⟨mA,O,r,wi,_,ho⟩:=zgW I.hok e
 have hz:(fs.map (·.1)).length<=sizeLine:=by rw [List.length_map,sizeLine_eq];omega
 refine zm5 I.kIn O c.sa c.po n.taker c.hd wi hz fun h' O' sb=>h _ ?_
 have hd:∃ o,h'.get? dx=some o:=let ⟨o,_,_,e',_⟩:=O'.ns;⟨o,e'⟩
 refine I.write (x:=a) (e:=dx) (by rw [e];exact True.intro) (.inr ho) (fun b q hb z=>(sb.2 b hb).trans z) hd ?_
 refine⟨by rw [zW O.ne];exact ho,?_,O.ne,O'.obj,_,O'.ns,fun g=>?_,fun g hg=>?_⟩
 ·have:=zfO f y fs;omega
 ·show zfZ ((zbg f y fs).lookup g) (if g=f then some u else mA g)
  rw [zfQ]
  by_cases q:g=f
  ·rw [if_pos q,if_pos q];exact ry
  ·rw [if_neg q,if_neg q];exact r g
 ·by_cases q:g=f
  ·rw [q];exact (zfm f y fs).1
  ·refine (zfm f y fs).2 g (wi g fun z=>hg ?_)
   show (if g=f then some u else mA g)=none
   rw [if_neg q];exact z
theorem Inv.made (I:Inv X pins σ H s):Inv X pins σ (upd (upd H s.heap.objs.size (.own (s.heap.objs.size+1))) (s.heap.objs.size+1) (.ins C s.heap.objs.size []))
    { s with heap:=(s.heap.push PySem.W.emptyDict).push (PySem.W.instObj C s.heap.objs.size) }:=by
  have e1:(s.heap.push PySem.W.emptyDict).get? s.heap.objs.size=some PySem.W.emptyDict:=Heap.get?_push_size s.heap rfl
  have e2:((s.heap.push PySem.W.emptyDict).push (PySem.W.instObj C s.heap.objs.size)).get? (s.heap.objs.size+1)=some (PySem.W.instObj C s.heap.objs.size):=by
    have:=Heap.get?_push_size (s.heap.push PySem.W.emptyDict) (o:=PySem.W.instObj C s.heap.objs.size) rfl
    rwa [Heap.size_push] at this
  have e3:(s.heap.push PySem.W.emptyDict).Ns s.heap.objs.size (fun _=>none):=⟨PySem.W.emptyDict,#[],_,e1,rfl,(fun e he=>absurd he (by simp)),fun _=>rfl⟩
  have I1:=I.laid (a:=s.heap.objs.size) (o:=.own (s.heap.objs.size+1)) (h':=s.heap.push PySem.W.emptyDict) (t':=s.toks) (fun b u q=>Heap.get?_push_of_some _ q) (Nat.le_refl _) ⟨_,e1⟩
  refine I1.laid (a:=s.heap.objs.size+1) (o:=.ins C s.heap.objs.size []) (t':=s.toks) (fun b u q=>Heap.get?_push_of_some _ q) (Nat.le_of_eq (Heap.size_push _ _)) ?_
  have ne:s.heap.objs.size≠s.heap.objs.size+1:=Nat.ne_of_lt (Nat.lt_succ_self _)
  refine⟨by rw [zW ne,zaP],Nat.zero_le _,ne,e2,fun _=>none,(Heap.Ns1.of_empty e3).at fun o q=>Heap.get?_push_of_some _ q,fun _=>True.intro,fun y hy=>absurd rfl hy⟩
theorem znv {prog:Program}{w:World}{env:Env}{e:Expr}{f:Str}{pos:Pos}{s:Shared}{Q:Value->Shared->Prop}(hb:attributeBase e f env (eval e env)=eval e env)
  (h:wpAny (model prog w) A (eval e env) (fun o s₁=>wpAny (model prog w) A (getAttr o f true) Q E s₁) E s):wpAny (model prog w) A (eval (.Attribute e f pos) env) Q E s :=
 Attribute_any_ h (by rw [arm_eval_Attribute,hb])
end
def zqS (K:PySem.W.Frag)(ta:TE)(f:Str):TE:=fun σ H Q=>ta σ H fun x H1=>∃ a C dx fs v,x=.ref a/\H1 a=some (.ins C dx fs)/\Cls K C/\zah K C f/\fs.lookup f=some v/\Q v H1
def zrk (K:PySem.W.Frag)(ta tv:TE)(f:Str):TS:=fun D σ H=>tv σ H fun y H1=>ta σ H1 fun x H2=>∃ a C dx fs,x=.ref a/\H2 a=some (.ins C dx fs)/\Cls K C/\zah K C f/\fs.length<1000 /\
 D.nx σ (upd H2 a (.ins C dx (zbg f y fs)))
section
variable {X:Cx}{o e value:Expr}{f:Str}{pos pos' tpos:Pos}{ta tv:TE}
theorem zos (he:PE X e ta)(hb:attributeBase e f X.env (eval e X.env)=eval e X.env):PE X (.Attribute e f pos) (zqS X.K ta f):=by
 intro pins s σ H Q I h
 refine znv hb (thn (he pins s σ H _ I h) fun u s1 ⟨x,H1,I1,rx,a,C,dx,fs,v,ex,ea,c,n,l,q⟩=>?_)
 subst ex
 obtain rfl:u=Value.ref a:=rx
 exact zj7 I1 ea c n l fun u' s2 I2 ru=>⟨v,H1,I2,ru,q⟩
theorem zpm (ha:PE X o ta)(hv:PE X value tv)(hs:swapsWith value (some (.Attribute o f pos')) pos.line X.env=pure false):PS X (.Assign [.Attribute o f pos'] value pos) (zrk X.K ta tv f):=by
 intro pins s σ H D I h
 refine plainObj_wpAny_Assign_Attribute (thn (hv pins s σ H _ I h) fun u s1 ⟨y,H1,I1,ry,q⟩=>thn (ha pins s1 σ H1 _ I1 q) fun ov s2 ⟨x,H2,I2,rx,a,C,dx,fs,ex,ea,c,n,l,q2⟩=>?_) hs
 subst ex
 obtain rfl:ov=Value.ref a:=rx
 exact zjT I2 ea c n l ry fun s3 I3=>⟨σ,_,I3,q2⟩
end
section
variable {X:Cx}{pins:List (Addr×Obj)}{σ:St}{H:Hp}{s:Shared}{A:Around}{E:Value->Shared->Prop}{Q:Value->Shared->Prop}{c:Value}{b:Bool}
inductive zcW (K:PySem.W.Frag)(H:Hp):V->Value->Prop where
 | non:zcW K H .non (.type "NoneType")
 | bl (x:Bool):zcW K H (.bl x) (.type "bool")
 | int (i:Int):zcW K H (.int i) (.type "int")
 | str (x:Str):zcW K H (.str x) (.type "str")
 | flt (x:UInt64):zcW K H (.flt x) (.type "float")
 | lst {a:Addr} {xs:List V} (e:H a=some (.lst xs)):zcW K H (.ref a) (.type "list")
 | frz {a:Addr} {o:Obj} {xs:List V} (e:H a=some (.frz o (.lst xs))):zcW K H (.ref a) (.type "list")
 | tup {a:Addr} {xs:List V} (e:H a=some (.tup xs)):zcW K H (.ref a) (.type "tuple")
 | dK {a:Addr} {kvs:List (Key×V)} (e:H a=some (.dK kvs)):zcW K H (.ref a) (.type "dict")
 | dT {a:Addr} {kvs:List (List Key×V)} (e:H a=some (.dT kvs)):zcW K H (.ref a) (.type "dict")
 | ins {a C dx:Addr} {fs:List (Str×V)} (e:H a=some (.ins C dx fs)) (cl:Cls K C) (ha:PySem.W.findIn K (.ref C) "__class__"=some (some (.builtin "object.__class__")))
   (hn:PySem.W.specialIn K (.builtin "object.__class__") "__get__"=some (some (.builtin "getset_descriptor.__get__"))) (htk:PySem.W.takesIn K (.builtin "object.__class__")=some true)
   (hm:PySem.W.mroIn K C (.type "object")=some true):zcW K H (.ref a) (.ref C)
theorem zkv {x:V}{u t:Value}(I:Inv X pins σ H s)(rx:RelV x u)(ty:zcW X.K H x t)(e:PySem.W.kitOne X.K t c=some b)(h:∀ tk,Q (.bool b) { s with toks:=tk }) :
  wpAny (model X.prog X.w) A (call (.builtin "isinstance") [u,c]) Q E s:=by
 cases ty with
 | non=>cases (show u=Value.none from rx);exact PySem.W.kia_one PySem.W.kitx_none I.kIn True.intro e (fun z=>nomatch z) h
 | bl y=>cases (show u=Value.bool y from rx);exact PySem.W.kia_one PySem.W.kitx_bool I.kIn True.intro e (fun z=>nomatch z) h
 | int i=>obtain⟨t,q⟩:=(show ∃ t,u=Value.int i t from rx);cases q;exact PySem.W.kia_one PySem.W.kitx_int I.kIn True.intro e (fun z=>nomatch z) h
 | str y=>obtain⟨t,q⟩:=(show ∃ t,u=Value.str y t from rx);cases q;exact PySem.W.kia_one PySem.W.kitx_str I.kIn True.intro e (fun z=>nomatch z) h
 | flt y=>obtain⟨t,q⟩:=(show ∃ t,u=Value.float y t from rx);cases q;exact PySem.W.kia_one PySem.W.kitx_float I.kIn True.intro e (fun z=>nomatch z) h
 | @lst a xs ea =>
  cases (show u=Value.ref a from rx)
  obtain⟨_,_,n,_,h1⟩:=(show zaT X.prog X.w H s.heap a (.lst xs) from I.hok a _ ea)
  exact PySem.W.kia_one PySem.W.kitx_list I.kIn ⟨_,h1,rfl⟩ e (fun z=>nomatch z) h
 | @frz a ob xs ea =>
  cases (show u=Value.ref a from rx)
  obtain⟨_,_,_,n,_,h1⟩:=(show zaT X.prog X.w H s.heap a (.frz ob (.lst xs)) from I.hok a _ ea)
  exact PySem.W.kia_one PySem.W.kitx_list I.kIn ⟨_,h1,rfl⟩ e (fun z=>nomatch z) h
 | @tup a xs ea =>
  cases (show u=Value.ref a from rx)
  obtain⟨_,_,_,p⟩:=(show zaT X.prog X.w H s.heap a (.tup xs) from I.hok a _ ea)
  obtain⟨o,h1,h2,_⟩:=p
  exact PySem.W.kia_one PySem.W.kitx_tuple I.kIn ⟨o,h1,h2⟩ e (fun z=>nomatch z) h
 | @dK a kvs ea =>
  cases (show u=Value.ref a from rx)
  obtain⟨_,_,vs,_,p⟩:=(show zaT X.prog X.w H s.heap a (.dK kvs) from I.hok a _ ea)
  obtain⟨o,es,ep,h1,h2,_⟩:=p
  exact PySem.W.kia_one PySem.W.kitx_dict I.kIn ⟨o,h1,h2.1⟩ e (fun z=>nomatch z) h
 | @dT a kvs ea =>
  cases (show u=Value.ref a from rx)
  obtain⟨_,_,xs,_,o,es,ep,h1,h2,_⟩:=(show zaT X.prog X.w H s.heap a (.dT kvs) from I.hok a _ ea)
  exact PySem.W.kia_one PySem.W.kitx_dict I.kIn ⟨o,h1,h2.1⟩ e (fun z=>nomatch z) h
 | @ins a C dx fs ea cl ha hn htk hm =>
  cases (show u=Value.ref a from rx)
  obtain⟨mA,O,_⟩:=zgW I.hok ea
  obtain⟨od,J,_⟩:=O.look
  exact PySem.W.kia_one (PySem.W.kitx_own (cl.get _) cl.hd ha hn htk hm) I.kIn J e (fun z=>nomatch z) h
end
structure zap (k:Nat)(A:Around):Prop where
 hd:A.handled=none
 dp:A.depth+3*k+5<recursionLimit
 un:A.units+16*k+200<cLine
theorem zap.mono {j k:Nat}{A:Around}(r:zap k A)(h:j<=k):zap j A:=⟨r.hd,by have:=r.dp;omega,by have:=r.un;omega⟩
theorem zap.deeper {k:Nat}{A:Around}(r:zap (k+1) A)(env:Env):zap k (A.deeper env) :=
 ⟨r.hd,by have:=r.dp;show A.depth+1+3*k+5<_;omega,by have:=r.un;show A.units+3+16*k+200<_;omega⟩
theorem zjR {A:Around}{C:Addr}{us:List Value}{kw:List (Str×Value)}:(A.under (.builtin "type.__call__" ⟨.ref C::us,kw⟩)).depth=A.depth+1:=by
 first | rfl | simp [Around.under,Code.weight,Code.isCreation,Code.isGuard,Code.isCaller,Code.frames,Code.isFrame,guardIds]
theorem zkb {A:Around}{C:Addr}{us:List Value}{kw:List (Str×Value)}:(A.under (.builtin "type.__call__" ⟨.ref C::us,kw⟩)).units=A.units+1:=by
 first | rfl | simp [Around.under,Code.cUnits,Code.frames,Code.isFrame]
theorem zap.make {k:Nat}{A:Around}(r:zap (k+1) A)(C:Addr)(us:List Value)(kw:List (Str×Value)):zap k (A.under (.builtin "type.__call__" ⟨.ref C::us,kw⟩)) :=
 ⟨r.hd,by have:=r.dp;rw [zjR];omega,by have:=r.un;rw [zkb];omega⟩
theorem zap.depth {k:Nat}{A:Around}(r:zap k A):A.depth<recursionLimit:=by have:=r.dp;omega
theorem zap.units {k:Nat}{A:Around}(r:zap k A):A.units+64<cLine:=by have:=r.un;omega
def zq5:TA:=fun _ H Q=>Q [] H
def zpw (ta:TE)(tr:TA):TA:=fun σ H Q=>ta σ H fun x H1=>tr σ H1 fun xs H2=>Q (x::xs) H2
section
variable {X:Cx}{e:Expr}{es:List Expr}{te:TE}{t:TA}{pos:Pos}
theorem zpo:PA X [] zq5:=fun _ _ _ _ H Q I h=>Calls.spliced_nil ⟨[],H,I,.nil,h⟩
theorem znw (ha:PE X e te)(hr:PA X es t)(hs:starEach (e::es) X.env=(false,eval e X.env)::starEach es X.env:=by rfl):PA X (e::es) (zpw te t):=by
 intro pos pins s σ H Q I h
 rw [hs]
 show wpAny _ _ (spliced ((false,eval e X.env)::backTo pos (starEach es X.env))) _ _ s
 refine Calls.spliced_cons (thn (ha pins s σ H _ I h) fun u s1 ⟨x,H1,I1,r1,q1⟩=>?_)
 exact thn (hr pos pins s1 σ H1 _ I1 q1) fun us s2 ⟨xs,H2,I2,r2,q2⟩=>⟨x::xs,H2,I2,.cons r1 r2,q2⟩
def zqX (t:TA):TE:=fun σ H Q=>t σ H fun xs H1=>xs.length<=sizeLine/\∀ p,H1 p=none->Q (.ref p) (upd H1 p (.tup xs))
def zrn (t:TA):TE:=fun σ H Q=>t σ H fun xs H1=>xs.length<=sizeLine/\∀ p,H1 p=none->Q (.ref p) (upd H1 p (.lst xs))
theorem zo0 {x1}(h:PA X es t):PE X (.Tuple es x1 pos) (zqX t):=by
 intro pins s σ H Q I hq
 refine wpAny_Tuple_spliced (thn (h pos pins s σ H _ I hq) fun us s1 ⟨xs,H1,I1,r,z,q⟩=>⟨by rw [<- r.length];exact z,?_⟩)
 have hf:H1 s1.heap.objs.size=none:=I1.hok.fresh (Nat.le_refl _)
 refine⟨.ref s1.heap.objs.size,upd H1 s1.heap.objs.size (.tup xs),I1.laid (t':=s1.toks) (fun b u e=>Heap.get?_push_of_some _ e) (Nat.le_refl _) ?_,rfl,q _ hf⟩
 exact⟨z,us,r,⟨_,Heap.get?_push_size _ rfl,rfl,_,rfl⟩⟩
theorem zoi (h:PA X es t):PE X (.List es pos) (zrn t):=by
 intro pins s σ H Q I hq
 refine wpAny_List_spliced (thn (h pos pins s σ H _ I hq) fun us s1 ⟨xs,H1,I1,r,z,q⟩=>⟨by rw [<- r.length];exact z,?_⟩)
 have hf:H1 s1.heap.objs.size=none:=I1.hok.fresh (Nat.le_refl _)
 refine⟨.ref s1.heap.objs.size,upd H1 s1.heap.objs.size (.lst xs),I1.laid (t':=s1.toks) (fun b u e=>Heap.get?_push_of_some _ e) (Nat.le_refl _) ?_,rfl,q _ hf⟩
 exact⟨z,us,0,r,Heap.get?_push_size _ rfl⟩
end
abbrev Sp:=List V->Hp->VK->XK->Prop
abbrev CXT:=List Env->Hp->Shared->XK->Value->Shared->Prop
structure zfV (P:Program)(w:World)(K:PySem.W.Frag)(mg:Str->Option Value)(base:Heap)(A:Around)(outer:List Env)(s:Shared)(H:Hp):Prop where
 frames:A.frames=some outer
 mod:Mod K mg base
 bs:∀ b o,base.get? b=some o->s.heap.get? b=some o/\H b=none
 bsz:base.objs.size<=s.heap.objs.size
 funs:s.heap.FunFrames base outer
 frf:∀ b∈frs outer,H b=none
 hok:HOk P w H s.heap
 bare:AllBare s.gens
def CE (outer:List Env)(P:Program)(w:World)(H:Hp)(s:Shared)(Q:VK)(u:Value)(s':Shared):Prop :=
 ∃ v H',s'.os=s.os/\AllBare s'.gens/\Un (frs outer) [] H H' s.heap s'.heap/\HOk P w H' s'.heap/\RelV v u/\Q v H'
def CR (CX:CXT)(outer:List Env)(P:Program)(w:World)(H:Hp)(s:Shared)(Q:VK)(E:XK)(r:Result)(s':Shared):Prop :=
 match r with
 | .ok (.ret u)=>CE outer P w H s Q u s'
 | .ok _=>False
 | .error e=>CX outer H s E e s'
structure zY (P:Program)(w:World)(K:PySem.W.Frag)(mg:Str->Option Value)(base:Heap)(CX:CXT)(k:Nat)(f:Addr)(fd:FuncData)(ps:List Str)(sp:Sp):Prop where
 len:∀ vs H Q E,sp vs H Q E->vs.length=ps.length
 run:∀ (A:Around) (outer:List Env) (s:Shared) (H:Hp) (args:Args) (us:List Value) (vs:List V) (Q:VK) (E:XK),zap k A->zfV P w K mg base A outer s H->BindsTo s fd args (ps.zip us)->Vals vs us->sp vs H Q E ->
  codeAny (model P w) A (.call (.ref f) args) (CR CX outer P w H s Q E) s
theorem zY.mono {P:Program}{w:World}{K:PySem.W.Frag}{mg:Str->Option Value}{base:Heap}{CX:CXT}{j k:Nat}{f:Addr}{fd:FuncData}{ps:List Str}{sp:Sp}(F:zY P w K mg base CX j f fd ps sp)(h:j<=k) :
  zY P w K mg base CX k f fd ps sp:=⟨F.len,fun A outer s H args us vs Q E hr=>F.run A outer s H args us vs Q E (hr.mono h)⟩
theorem zfV.make {P:Program}{w:World}{K:PySem.W.Frag}{mg:Str->Option Value}{base:Heap}{A:Around}{outer:List Env}{s:Shared}{H:Hp}(e:zfV P w K mg base A outer s H)(C:Addr)(us:List Value)(kw:List (Str×Value)) :
  zfV P w K mg base (A.under (.builtin "type.__call__" ⟨.ref C::us,kw⟩)) outer s H:=⟨by first | exact e.frames | (simpa [Around.under,Code.envs,Code.isFrame,pushEnvs] using e.frames),e.mod,e.bs,e.bsz,e.funs,e.frf,e.hok,e.bare⟩
section
variable {X:Cx}{pins:List (Addr×Obj)}{σ:St}{H:Hp}{s s':Shared}
theorem Inv.env0 (I:Inv X pins σ H s):zfV X.prog X.w X.K X.mg X.base X.A X.stack s H :=
 ⟨I.ok.frames,I.ok.mod,I.bs,Nat.le_trans I.ok.bsz I.sz,I.stack,I.stkFree,I.hok,I.bare⟩
theorem Inv.after {Q:VK}{u:Value}(I:Inv X pins σ H s)(h:CE X.stack X.prog X.w H s Q u s'):EP X pins σ Q u s':=by
 obtain⟨v,H',os,bare,un,hok,r,q⟩:=h
 obtain⟨hh,g,d,t,os'⟩:=s'
 obtain rfl:os'=s.os:=os
 exact⟨v,H',I.call (h':=hh) (g':=g) (d':=d) (t':=t) (ch:=[]) un hok bare (fun b z=>absurd z (by simp)),r,q⟩
end
def zjN (sp:Sp)(dvs:List V)(E:XK)(t:TA):TE:=fun σ H Q=>t σ H fun vs H1=>sp (vs++dvs) H1 Q E
def Binds (K:PySem.W.Frag)(fd:FuncData)(ps:List Str)(ds:List Value):Prop :=
 ∀ (s:Shared) (us:List Value),K.In s.heap->(us++ds).length=ps.length->BindsTo s fd ⟨us,[]⟩ (ps.zip (us++ds))
theorem Binds.all {K:PySem.W.Frag}{fd:FuncData}{ps:List Str}(h:∀ us:List Value,us.length=ps.length->bindArgs fd ⟨us,[]⟩=pure (ps.zip us)):Binds K fd ps []:=fun s us _ hl=>by
 rw [List.append_nil] at hl ⊢
 exact .of_eq (h us hl)
def Passes (CX:CXT)(X:Cx)(E:XK):Prop:=∀ (pins:List (Addr×Obj)) (σ:St) (H:Hp) (s:Shared) (e:Value) (s':Shared),Inv X pins σ H s->CX X.stack H s E e s'->X.xe e s'
section
variable {X:Cx}{CX:CXT}{k:Nat}{f C:Addr}{fd:FuncData}{ps:List Str}{sp:Sp}{dvs:List V}{ds:List Value}{E:XK}{x m:Str}{p pos apos:Pos}{e o:Expr}{es:List Expr}{ta:TE}{t:TA}
theorem zpr {pins:List (Addr×Obj)}{σ:St}{H:Hp}{s:Shared}{Q:VK}{us:List Value}{vs:List V}(F:zY X.prog X.w X.K X.mg X.base CX k f fd ps sp)(hr:zap k X.A)(hb:Binds X.K fd ps ds)(hd:Vals dvs ds)(hx:Passes CX X E)
  (I:Inv X pins σ H s) (r:Vals vs us) (h:sp (vs++dvs) H Q E):wpAny (model X.prog X.w) X.A (call (.ref f) us) (EP X pins σ Q) X.xe s:=by
 have r2:Vals (vs++dvs) (us++ds):=r.append hd
 have hl:(us++ds).length=ps.length:=by rw [<- r2.length];exact F.len _ _ _ _ h
 refine wpAny_call (codeAny_mono (F.run X.A X.stack s H ⟨us,[]⟩ (us++ds) (vs++dvs) Q E hr I.env0 (hb s us I.kIn hl) r2 h) fun r s' hq=>?_)
 cases r with
 | error e=>exact hx pins σ H s e s' I hq
 | ok fl =>
  cases fl with
  | ret u=>exact I.after hq
  | next=>exact False.elim hq
  | brk=>exact False.elim hq
  | cont=>exact False.elim hq
theorem zmT (F:zY X.prog X.w X.K X.mg X.base CX k f fd ps sp)(hr:zap k X.A)(hg:Gl X x)(hm:X.mg x=some (.ref f))(hk:PySem.W.keepIn X.K (.ref f)=true)(hb:Binds X.K fd ps ds)(hd:Vals dvs ds)(hx:Passes CX X E)
  (ha:PA X (e::es) t) (hdb:(x==("__debug__":Str))=false:=by decide) (he:starEach (e::es) X.env=(false,eval e X.env)::starEach es X.env:=by rfl) (hpl:(backTo pos (starEach es X.env)).any (·.1)=false:=by rfl) :
  PE X (.Call (.Name x p) (e::es) [] pos) (zjN sp dvs E t):=by
 intro pins s σ H Q I h
 refine wpAny_Call_Name_kw (zcB I hg hm ?_ hdb)
 refine PySem.W.callWith_K (h₀:=X.base) I.ok.mod.kin hk (thn (ha pos pins s σ H _ I h) fun us s1 ⟨vs,H1,I1,r,q⟩=>⟨I1.kIn,?_⟩) he hpl
 exact zpr F hr hb hd hx I1 r q
structure Mk (K:PySem.W.Frag)(C f:Addr):Prop where
 makes:PySem.W.makesIn K C=true
 init:PySem.W.findIn K (.ref C) "__init__"=some (some (.ref f))
 fn:PySem.W.isFn K (.ref f)=true
 kp:PySem.W.keepIn K (.ref C)=true
theorem zlD {pins:List (Addr×Obj)}{σ:St}{H:Hp}{s:Shared}{Q:VK}{us:List Value}{vs:List V}(M:Mk X.K C f)(F:zY X.prog X.w X.K X.mg X.base CX k f fd ps sp)(hr:zap (k+1) X.A)(hb:Binds X.K fd ps ds)(hd:Vals dvs ds)
  (hx:Passes CX X E) (I:Inv X pins σ H s) (r:Vals vs us)
  (h:∀ x dx,H x=none->H dx=none->dx≠x->sp (.ref x::(vs++dvs)) (upd (upd H dx (.own x)) x (.ins C dx [])) (fun v H2=>v=.non/\Q (.ref x) H2) E) :
  wpAny (model X.prog X.w) X.A (call (.ref C) us) (EP X pins σ Q) X.xe s:=by
 have hq:=h (s.heap.objs.size+1) s.heap.objs.size (I.hok.fresh (Nat.le_succ _)) (I.hok.fresh (Nat.le_refl _)) (Nat.ne_of_lt (Nat.lt_succ_self _))
 have I2:=Inv.made (C:=C) I
 have r2:Vals (V.ref (s.heap.objs.size+1)::(vs++dvs)) (Value.ref (s.heap.objs.size+1)::(us++ds)):=.cons rfl (r.append hd)
 have hl:(Value.ref (s.heap.objs.size+1)::us++ds).length=ps.length:=by
  have e:=r2.length
  rw [F.len _ _ _ _ hq] at e
  exact e.symm
 refine wpAny_call (ziJ (f:=f) I.kIn M.makes M.init (beq_iff_eq.mp M.fn) (codeAny_mono (F.run _ X.stack _ _ ⟨Value.ref (s.heap.objs.size+1)::us,[]⟩ (Value.ref (s.heap.objs.size+1)::(us++ds)) _ _ E (hr.make C us [])
  (I2.env0.make C us []) (hb _ (Value.ref (s.heap.objs.size+1)::us) I2.kIn hl) r2 hq) fun r s' hq'=>?_))
 cases r with
 | error e=>exact hx pins σ _ _ e s' I2 hq'
 | ok fl =>
  cases fl with
  | ret u =>
   obtain⟨v,H',I3,rv,ev,q3⟩:=I2.after hq'
   subst ev
   exact⟨rv,⟨V.ref (s.heap.objs.size+1),H',I3,rfl,q3⟩⟩
  | next=>exact False.elim hq'
  | brk=>exact False.elim hq'
  | cont=>exact False.elim hq'
end
section
variable {X:Cx}{CX:CXT}{k:Nat}{f C:Addr}{fd:FuncData}{ps ks:List Str}{sp:Sp}{E:XK}{x m:Str}{p pos apos kpos:Pos}{e o:Expr}{es:List Expr}{kws:List Keyword}{te ta:TE}{t tk:TA}{nm:Option Str}
variable {g:List Value->List Value->List Value}{gV:List V->List V->List V}
end
structure zT (N P:List Str)(sc:Scope):Prop where
 kind:sc.kind=.function
 co:sc.isCoroutine=false
 gen:sc.isGenerator=false
 nd:N.Nodup
 pre:N.take P.length=P
 par:∀ x∈P,sc.names.lookup x=some .local\/sc.names.lookup x=some .cell
 nofree:∀ y∈sc.names,y.2≠.free
theorem zhu {kindOf:Str->Option NameKind}{x:Str}:∀ {binds:List (Str×Value)} {m:Str->Option Value},(∀ v,(x,v)∉binds)->bindL kindOf binds m x=m x
 | [],_,_=>rfl
 | (n,v)::r,m,h=>by
  unfold bindL
  rw [zhu fun w hw=>h w (List.mem_cons_of_mem _ hw)]
  split
  ·have:x≠n:=by rintro rfl;exact h v List.mem_cons_self
   simp [this]
  ·rfl
theorem zhr {kindOf:Str->Option NameKind}{x:Str}:∀ {binds:List (Str×Value)} {m:Str->Option Value},(∀ v,(x,v)∉binds)->bindC kindOf binds m x=m x
 | [],_,_=>rfl
 | (n,v)::r,m,h=>by
  unfold bindC
  rw [zhr fun w hw=>h w (List.mem_cons_of_mem _ hw)]
  split
  ·rfl
  ·have:x≠n:=by rintro rfl;exact h v List.mem_cons_self
   simp [this]
theorem zho {kindOf:Str->Option NameKind}{x:Str}{v:Value}:∀ {P:List Str} {vs:List Value} {i:Nat} {m:Str->Option Value},P.Nodup->P[i]?=some x->vs[i]?=some v->kindOf x=some .local ->
  bindL kindOf (P.zip vs) m x=some v
 | [],_,_,_,_,h,_,_=>by simp at h
 | _::_,[],_,_,_,_,h,_=>by simp at h
 | p::P,w::vs,0,m,nd,h1,h2,hk=>by
  simp at h1 h2;subst h1;subst h2
  show bindL kindOf ((p,w)::P.zip vs) m p=_
  unfold bindL
  rw [zhu fun v hv=>(List.nodup_cons.mp nd).1 (List.of_mem_zip hv).1,if_pos hk]
  simp
 | p::P,w::vs,i+1,m,nd,h1,h2,hk=>by
  show bindL kindOf ((p,w)::P.zip vs) m x=_
  unfold bindL
  exact zho (i:=i) (List.nodup_cons.mp nd).2 (by simpa using h1) (by simpa using h2) hk
theorem zhw {kindOf:Str->Option NameKind}{x:Str}{v:Value}:∀ {P:List Str} {vs:List Value} {i:Nat} {m:Str->Option Value},P.Nodup->P[i]?=some x->vs[i]?=some v->kindOf x≠some .local ->
  bindC kindOf (P.zip vs) m x=some v
 | [],_,_,_,_,h,_,_=>by simp at h
 | _::_,[],_,_,_,_,h,_=>by simp at h
 | p::P,w::vs,0,m,nd,h1,h2,hk=>by
  simp at h1 h2;subst h1;subst h2
  show bindC kindOf ((p,w)::P.zip vs) m p=_
  unfold bindC
  rw [zhr fun v hv=>(List.nodup_cons.mp nd).1 (List.of_mem_zip hv).1,if_neg hk]
  simp
 | p::P,w::vs,i+1,m,nd,h1,h2,hk=>by
  show bindC kindOf ((p,w)::P.zip vs) m x=_
  unfold bindC
  exact zhw (i:=i) (List.nodup_cons.mp nd).2 (by simpa using h1) (by simpa using h2) hk
def start (N:List Str)(vs:List V):St:=vs.map some++List.replicate (N.length-vs.length) none
def zd5 (CX:CXT)(P:Program)(w:World)(K:PySem.W.Frag)(mg:Str->Option Value)(base:Heap)(N:List Str)(qual:Str)(scope:Scope)(f:Addr)(cd:Value)(A:Around)(outer:List Env)(s:Shared)(H:Hp)(E:XK):Cx where
 prog:=P
 w:=w
 K:=K
 mg:=mg
 base:=base
 A:=A.deeper (envOfC qual scope s.heap.objs.size f cd)
 N:=N
 s₀:=s
 H₀:=H
 env:=envOfC qual scope s.heap.objs.size f cd
 outer:=outer
 stack:=envOfC qual scope s.heap.objs.size f cd::outer
 ex:=[]
 calm:=true
 fn:=fun _=>true
 pn:=[]
 xe:=fun e s'=>wpAny (model P w) (A.deeper (envOfC qual scope s.heap.objs.size f cd)) (leaving (envOfC qual scope s.heap.objs.size f cd) e) (fun _ s''=>CX outer H s E e s'') (fun e' s''=>CX outer H s E e' s'') s'
theorem zir {sc:Scope}{n:Nat}{x:Str}(h:sc.names.lookup x=some .cell):∃ c,(cellsFrom n sc.names []).lookup x=some c:=by
 have q:=PySem.W.cellsFrom_some sc.names n [] (.inl h)
 exact Option.isSome_iff_exists.mp q
theorem zks {CX:CXT}{P:Program}{w:World}{K:PySem.W.Frag}{mg:Str->Option Value}{base:Heap}{N ps:List Str}{qual:Str}{scope:Scope}{f:Addr}{cd:Value}{A:Around}{outer:List Env}{s s1:Shared}{H:Hp}{E:XK}{us:List Value}{vs:List V}
    (S:zT N ps scope) (hd:A.handled=none) (e0:zfV P w K mg base A outer s H) (hl:vs.length=ps.length) (r:Vals vs us)
    (x:InCallC s s.heap.objs.size (bindL (envOfC qual scope s.heap.objs.size f cd).kindOf (ps.zip us) fun _=>none) (cellsFrom (s.heap.objs.size+1) scope.names []) (bindC (envOfC qual scope s.heap.objs.size f cd).kindOf (ps.zip us) fun _=>none) s1) :
    Inv (zd5 CX P w K mg base N qual scope f cd A outer s H E) [] (start N vs) H s1:=by
  have hpl:ps.length<=N.length:=by have:=congrArg List.length S.pre;rw [List.length_take] at this;omega
  obtain⟨h1,tk,rfl,hk⟩:=x.done
  have noA:∀ b:Addr,b∉(zd5 CX P w K mg base N qual scope f cd A outer s H E).ex:=fun b z=>absurd (show b∈([]:List Addr) from z) (by simp)
  refine⟨⟨e0.mod,S.kind,rfl,rfl,Nat.le_refl _,fun y z c h1 h2=>?_,fun y hy=>?_,fun y c _ h=>?_,fun _=>hd,Around.frames_deeper e0.frames,.inr ⟨rfl,rfl⟩,fun b z=>absurd z (noA b),e0.bs,e0.bsz,fun b _ _=>noA b,fun b z=>absurd z (noA b),e0.funs,e0.frf⟩,
    rfl,e0.bare,Un.kept hk,⟨_,x.toInCall.ns,fun i y v h1 h2 h3=>?_⟩,fun y c h=>⟨_,x.cell y c h⟩,e0.hok.fresh (Nat.le_refl _),fun y c h=>?_,fun p hp=>absurd (show p∈([]:List (Addr×Obj)) from hp) (by simp),e0.hok.kept hk,?_⟩
  · exact name_of_addr x.apart (PySem.mem_of_lookup h1) (PySem.mem_of_lookup h2)
  · have hy:scope.names.lookup y=some .cell\/scope.names.lookup y=some .free:=hy
    rcases hy with hy | hy
    · exact zir hy
    · exact absurd rfl (S.nofree _ (PySem.mem_of_lookup hy))
  · exact Nat.le_of_lt (x.above y c (PySem.mem_of_lookup h))
  · have hi : i < vs.length := by
      unfold start at h2
      by_cases hi:i<vs.length
      · exact hi
      · rw [List.getElem?_append_right (by simpa using hi)] at h2
        rw [List.getElem?_replicate] at h2
        split at h2<;>cases h2
    have ha:vs[i]?=some v:=by
      unfold start at h2
      rw [List.getElem?_append_left (by simpa using hi),List.getElem?_map] at h2
      cases e:vs[i]? with
      | none=>rw [e] at h2;cases h2
      | some a=>rw [e] at h2;cases h2;rfl
    obtain⟨u,hu,rv⟩:=r.get ha
    have hp:ps[i]?=some y:=by
      rw [<- S.pre,List.getElem?_take_of_lt (by omega)];exact h1
    have ndP:ps.Nodup:=by rw [<- S.pre];exact S.nd.sublist (List.take_sublist _ _)
    refine⟨u,rv,?_⟩
    rcases S.par y (List.mem_of_getElem? hp) with k | k
    · exact .inl ⟨k,zho ndP hp hu k⟩
    · obtain⟨c,e⟩:=zir (n:=s.heap.objs.size+1) k
      refine .inr ⟨.inl k,c,e,?_⟩
      have q:=x.cell y c e
      rw [zhw ndP hp hu (by show scope.names.lookup y≠_;rw [k];decide)] at q
      exact q
  · exact e0.hok.fresh (Nat.le_of_lt (x.above y c (PySem.mem_of_lookup h)))
  · unfold start
    show _=N.length
    rw [List.length_append,List.length_map,List.length_replicate]
    omega
theorem zmr {CX:CXT}{P:Program}{w:World}{K:PySem.W.Frag}{mg:Str->Option Value}{base:Heap}{k:Nat}{f:Addr}{name qual:Str}{params:Arguments}{body:List Stmt}{scope:Scope}{dV kV doc pm cdv ct oc:Value}{an od:Option Addr}
  {osl:Array (Option Value)} {N ps:List Str} {sp:Sp} (lk:K.lookup f=some ⟨oc,od,.func (PySem.W.fnOf name qual params body scope dV kV doc pm an cdv ct),osl⟩) (hcd:PySem.W.codeIn K cdv qual=true) (S:zT N ps scope)
  (len:∀ vs H Q E,sp vs H Q E->vs.length=ps.length)
  (hbody:∀ (A:Around) (outer:List Env) (s:Shared) (H:Hp) (vs:List V) (Q:VK) (E:XK),zap k (A.deeper (envOfC qual scope s.heap.objs.size f cdv))->sp vs H Q E ->
   ∃ t,PSs (zd5 CX P w K mg base N qual scope f cdv A outer s H E) body t/\t { nx:=fun _ H'=>Q .non H',rt:=Q } (start N vs) H) :
  zY P w K mg base CX (k+1) f (PySem.W.fnOf name qual params body scope dV kV doc pm an cdv ct) ps sp:=by
 refine⟨len,fun A outer s H args us vs Q E hr e0 hb r hsp=>?_⟩
 have hl:=len _ _ _ _ hsp
 have KX:K.In s.heap:=e0.mod.kin.keeps fun b o e=>(e0.bs b o e).1
 have lim:s.heap.NoLimit:=e0.mod.nolimit.keeps fun b o e=>(e0.bs b o e).1
 have hkind:∀ y∈ps.zip us,scope.names.lookup y.1=some .local\/(scope.names.lookup y.1=some .cell/\((cellsFrom (s.heap.objs.size+1) scope.names []).lookup y.1).isSome=true):=fun⟨n,v⟩ hy=>by
  rcases S.par n (List.of_mem_zip hy).1 with q | q
  ·exact .inl q
  ·exact .inr ⟨q,PySem.W.cellsFrom_some _ _ _ (.inl q)⟩
 refine codeAny_call_function hr.depth (KX _ _ lk) rfl S.co S.gen rfl (PySem.W.codeRec_of KX hcd) (hb _ _ _ _ ?_)
 refine wpAny_newFunctionEnv_cells S.kind hkind fun env he s1 x=>?_
 subst he
 refine⟨lim.keeps x.toInCall.keep,codeAny_func ?_⟩
 obtain⟨t,ht,hq⟩:=hbody A outer s H vs Q E (hr.deeper _) hsp
 have I:Inv (zd5 CX P w K mg base N qual scope f cdv A outer s H E) [] (start N vs) H s1:=zks S hr.hd e0 hl r x
 refine wpAny_mono (ht [] s1 (start N vs) H _ I hq) (fun fl s' hs=>?_) fun e s' hs=>hs
 have fin:∀ {σ':St} {H':Hp} {v:V} {u:Value},Inv (zd5 CX P w K mg base N qual scope f cdv A outer s H E) [] σ' H' s'->RelV v u->Q v H'->CE outer P w H s Q u s' :=
  fun {σ' H' v u} J rv q=>⟨v,H',J.os,J.bare,J.base,J.hok,rv,q⟩
 cases fl with
 | ret u =>
  obtain⟨v,σ',H',J,rv,q⟩:=hs
  exact fin J rv q
 | next =>
  obtain⟨σ',H',J,q⟩:=hs
  exact fin (v:=V.non) (u:=Value.none) J rfl q
 | brk =>
  obtain⟨_,_,_,q⟩:=hs
  exact False.elim q
 | cont =>
  obtain⟨_,_,_,q⟩:=hs
  exact False.elim q
section
variable {X:Cx}{x:Str}{p pos:Pos}{e:Expr}{es:List Expr}{t:TA}{id T:String}{r:List V->Hp->VK->Prop}
def tCB (r:List V->Hp->VK->Prop)(t:TA):TE:=fun σ H Q=>t σ H fun vs H1=>r vs H1 Q
theorem zli (hc:za5 X (.builtin id) r)(hg:Gl X x)(hm:X.mg x=none)(hv:bootBuiltins x=some (.builtin id))(ha:PA X (e::es) t)(hn:x≠"__name__":=by decide)(hdb:(x==("__debug__":Str))=false:=by decide)
  (he:starEach (e::es) X.env=(false,eval e X.env)::starEach es X.env:=by rfl) (hpl:(backTo pos (starEach es X.env)).any (·.1)=false:=by rfl):PE X (.Call (.Name x p) (e::es) [] pos) (tCB r t):=by
 intro pins s σ H Q I h
 refine wpAny_Call_Name_kw (zcH I hg hm hv ?_ hn hdb)
 exact PyProof.Rows.callWith_builtin1 (thn (ha pos pins s σ H _ I h) fun us s1 ⟨vs,H1,I1,r1,q1⟩=>hc pins s1 σ H1 vs us Q I1 r1 q1) he hpl
theorem zkm (hc:za5 X (.type T) r)(hg:Gl X x)(hm:X.mg x=none)(hv:bootBuiltins x=some (.type T))(ha:PA X (e::es) t)(hn:x≠"__name__":=by decide)(hdb:(x==("__debug__":Str))=false:=by decide)
  (he:starEach (e::es) X.env=(false,eval e X.env)::starEach es X.env:=by rfl) (hpl:(backTo pos (starEach es X.env)).any (·.1)=false:=by rfl):PE X (.Call (.Name x p) (e::es) [] pos) (tCB r t):=by
 intro pins s σ H Q I h
 refine wpAny_Call_Name_kw (zcH I hg hm hv ?_ hn hdb)
 exact PyProof.Rows.callWith_type1 (thn (ha pos pins s σ H _ I h) fun us s1 ⟨vs,H1,I1,r1,q1⟩=>hc pins s1 σ H1 vs us Q I1 r1 q1) he hpl
end
end L2
namespace HT
open PySem PyProof.Rows
section
open PySem.SeqAt
open PySem.AutoSeq1 (wpAny_loadPart')
open PySem.MeetsSeq PySem.MeetsSeq2 PySem.MeetsSeq3
end
section
variable {prog:Program}{w:World}{A:Around}{E:Value->Shared->Prop}{s:Shared}
theorem znO {t b:Addr}{vs ws:List Value}{Q:Value->Shared->Prop}(ht:IsTup s.heap t vs.toArray)(hb:IsTup s.heap b ws.toArray)(hv:vs≠[])
  (h1:ws=[]->Q (.ref t) s) (h2:ws≠[]->Q (.ref s.heap.objs.size) { s with heap:=s.heap.push { cls:=.type "tuple",data:=.seq (vs++ws).toArray } })
  (hsz:vs.length+ws.length<=sizeLine):wpAny (model prog w) A (binaryOp .Add (.ref t) (.ref b)) Q E s:=by
 obtain⟨⟨cls,dd,data,sl⟩,ho,hc,n,hd⟩:=id ht
 obtain⟨⟨cls2,dd2,data2,sl2⟩,ho2,hc2,n2,hd2⟩:=id hb
 simp only at hc hd hc2 hd2
 subst hc hd hc2 hd2
 have e:vs.toArray++ws.toArray=(vs++ws).toArray:=by simp
 by_cases hw:ws=[]
 ·exact concat_meets ⟨_,ho,rfl⟩ ⟨_,ho2,rfl⟩ noFill_tuple_add seq_tuple_add PySem.F.slot_tuple_add PySem.F.entry_tuple_add (PySem.F.args_tuple_add_2 _ _)
   (tuple_addW1 t b vs.toArray ws.toArray n n2 dd dd2 sl sl2 (by simpa using hv) (by simp [hw])) ⟨ho,ho2,h1 hw⟩
 ·refine concat_meets ⟨_,ho,rfl⟩ ⟨_,ho2,rfl⟩ noFill_tuple_add seq_tuple_add PySem.F.slot_tuple_add PySem.F.entry_tuple_add (PySem.F.args_tuple_add_2 _ _)
   (tuple_addW2 t b vs.toArray ws.toArray n n2 dd dd2 sl sl2 (by simpa using hv) (by simpa using hw) (by rw [List.size_toArray,List.size_toArray];exact hsz)) ⟨ho,ho2,?_⟩
  rw [e]
  exact h2 hw
def sIx (n d:Nat):Option Int->Nat
 | none=>d
 | some v=>if v<0 then (v+(n:Int)).toNat else min v.toNat n
theorem zgv (n d:Nat)(hd:d<=n)(o:Option Int):sIx n d o<=n:=by
 cases o with
 | none=>exact hd
 | some v =>
  show (if v<0 then (v+(n:Int)).toNat else min v.toNat n)<=n
  by_cases hv:v<0
  ·rw [if_pos hv];omega
  ·rw [if_neg hv];exact Nat.min_le_right _ _
theorem zjr (v:Int)(n d:Nat):(if v<0 then max (v+(n:Int)) 0 else min v (n:Int))=((sIx n d (some v):Nat):Int):=by
 show (if v<0 then max (v+(n:Int)) 0 else min v (n:Int))=(((if v<0 then (v+(n:Int)).toNat else min v.toNat n):Nat):Int)
 by_cases hv:v<0
 ·simp only [if_pos hv];omega
 ·simp only [if_neg hv];omega
theorem zj3 (lo hi:Option Int)(n:Nat):Builtin.Slice.sliceAdjust lo hi 1 (n:Int)=(((sIx n 0 lo:Nat):Int),((sIx n n hi:Nat):Int)):=by
 have h1:¬ ((1:Int)<0):=by omega
 unfold Builtin.Slice.sliceAdjust
 simp only [h1,if_false]
 refine Prod.ext ?_ ?_
 ·cases lo with
  | none=>rfl
  | some v=>exact zjr v n 0
 ·cases hi with
  | none=>rfl
  | some v=>exact zjr v n n
theorem zjS (i j:Nat):Builtin.Slice.slicePlaces (i:Int) (j:Int) 1=j-i:=by
  unfold Builtin.Slice.slicePlaces
  have h1:(1:Int) > 0:=by omega
  simp only [h1,if_true,Int.ediv_one]
  split<;>omega
theorem zgp {v:Value}{o:Option Int}{Q:Option Int->Shared->Prop}(p:IsPart v o)(h:Q o s):wpAny (model prog w) A (Builtin.Slice.slicePartIndex v) Q E s:=by
 cases p with
 | none=>exact slicePart_none h
 | int i t=>exact slicePart_int h
theorem zdJ {sl:Addr}{vl vu:Value}{lo hi:Option Int}{n:Nat}{Q:Int×Int×Nat->Shared->Prop}(hs:s.heap.IsSliceOf sl vl vu .none)(pl:IsPart vl lo)(pu:IsPart vu hi)
  (h:Q (((sIx n 0 lo:Nat):Int),1,sIx n n hi-sIx n 0 lo) s):wpAny (model prog w) A (Builtin.Slice.sliceApplied (.ref sl) (pure (n:Int))) Q E s:=by
 obtain⟨os,hos,hcs,hds⟩:=id hs
 unfold Builtin.Slice.sliceApplied Builtin.Slice.sliceFields
 refine wpAny_bind (wpAny_bind (wpAny_field hos hds (x:=vl) rfl (wpAny_bind (wpAny_field hos hds (x:=vu) rfl (wpAny_bind (wpAny_field hos hds (x:=.none) rfl (wpAny_pure ?_)))))))
 refine wpAny_bind (slicePart_none ?_)
 show wpAny _ _ (if ((1:Int)==0)=true then _ else _) _ _ s
 rw [if_neg (by decide)]
 refine wpAny_bind (zgp pl (wpAny_bind (zgp pu (wpAny_bind (wpAny_pure ?_)))))
 show wpAny _ _ (match Builtin.Slice.sliceAdjust lo hi 1 (n:Int) with | (lo,hi)=>pure (lo,(1:Int),Builtin.Slice.slicePlaces lo hi 1)) _ _ s
 rw [zj3 lo hi n]
 show wpAny _ _ (pure (((sIx n 0 lo:Nat):Int),(1:Int),Builtin.Slice.slicePlaces ((sIx n 0 lo:Nat):Int) ((sIx n n hi:Nat):Int) 1)) _ _ s
 rw [zjS]
 exact wpAny_pure h
theorem zlm (xs:Array Value)(i k:Nat):((List.range k).filterMap fun (m:Nat)=>xs[((i:Int)+(m:Int)*1).toNat]?).toArray=((xs.toList.drop i).take k).toArray:=by
 have e:(fun (m:Nat)=>xs[((i:Int)+(m:Int)*1).toNat]?)=fun m=>xs[i+m]?:=by
  funext m
  have:((i:Int)+(m:Int)*1).toNat=i+m:=by omega
  rw [this]
 rw [e]
 have:=pick_run xs i k
 rw [List.filterMap_map] at this
 have e2:((fun x=>xs[x]?) ∘ fun x=>i+x)=fun m=>xs[i+m]?:=rfl
 rw [e2] at this
 rw [this]
theorem zfM {t sl:Addr}{items:Array Value}{vl vu:Value}{lo hi:Option Int}{Q:Value->Shared->Prop}(ht:IsTup s.heap t items)(hs:s.heap.IsSliceOf sl vl vu .none)(pl:IsPart vl lo)(pu:IsPart vu hi)
  (hw:¬ (sIx items.size 0 lo=0/\sIx items.size items.size hi=items.size))
  (h:Q (.ref s.heap.objs.size) { s with heap:=s.heap.push { cls:=.type "tuple",data:=.seq ((items.toList.drop (sIx items.size 0 lo)).take (sIx items.size items.size hi-sIx items.size 0 lo)).toArray } })
  (hsz:items.size<=sizeLine):wpAny (model prog w) A (getItem (.ref t) (.ref sl)) Q E s:=by
 have htake:sizeOk (.seq ((items.toList.drop (sIx items.size 0 lo)).take (sIx items.size items.size hi-sIx items.size 0 lo)).toArray):=by
  show ((items.toList.drop (sIx items.size 0 lo)).take (sIx items.size items.size hi-sIx items.size 0 lo)).toArray.size<=sizeLine
  rw [List.size_toArray,List.length_take,List.length_drop,Array.length_toList]
  omega
 have hj:sIx items.size items.size hi<=items.size:=zgv _ _ (Nat.le_refl _) hi
 obtain⟨os,hos,hcs,hds⟩:=id hs
 have hTs:s.TypeIs (.ref sl) "slice":=⟨os,hos,hcs⟩
 unfold getItem
 try with_reducible refine wpAny_holding ?_
 first | refine wpAny_bind (wpAny_pure ?_) | skip
 refine wpAny_bind (wpAny_sequenceKey ht.typeIs (by decide) ?_)
 refine wpAny_bind (wpAny_callSpecial?_slot (name:=Str.ofString "__getitem__") ht.typeIs PyProof.Rows.slot_tuple_getitem
  (wpAny_call_entry PyProof.Rows.slot_tuple_getitem ht.typeIs entry_tuple_getitem ?_ (args_tuple_getitem _ _)))
 show wpAny _ _ (Builtin.Tuple.tupleItemsOf (.ref t) >>= _) _ _ s
 refine wpAny_bind (tupleItemsOf_ ht ?_)
 refine wpAny_bind (wpAny_typeOf hTs ?_)
 rw [if_pos (by decide)]
 refine wpAny_bind (zdJ hs pl pu ?_)
 have hno:¬ ((((sIx items.size 0 lo:Nat):Int)==0&&(1:Int)==1&&(sIx items.size items.size hi-sIx items.size 0 lo)==items.size)=true):=by
  intro q
  rw [Bool.and_eq_true,Bool.and_eq_true] at q
  have q1:((sIx items.size 0 lo:Nat):Int)=0:=eq_of_beq q.1.1
  have q2:sIx items.size items.size hi-sIx items.size 0 lo=items.size:=eq_of_beq q.2
  exact hw ⟨by omega,by omega⟩
 show wpAny _ _ (if (((sIx items.size 0 lo:Nat):Int)==0&&(1:Int)==1&&(sIx items.size items.size hi-sIx items.size 0 lo)==items.size)=true then _ else _) _ _ s
 rw [if_neg hno,zlm]
 first
  | exact wpAny_bind (m:=Builtin.Tuple.tupleExact _) (wpAny_newObj_type (wpAny_pure ⟨_,rfl,wpAny_pure h⟩) htake)
  | exact wpAny_bind (m:=Builtin.Tuple.tupleExact _) (wpAny_newObj_type (wpAny_bind (wpAny_pure (wpAny_pure ⟨_,rfl,wpAny_pure h⟩))) htake)
  | exact wpAny_bind (wpAny_bind (m:=Builtin.Tuple.tupleExact _) (wpAny_newObj_type (wpAny_pure (wpAny_pure ⟨_,rfl,wpAny_pure h⟩)) htake))
  | exact wpAny_bind (wpAny_bind (m:=Builtin.Tuple.tupleExact _) (wpAny_newObj_type (wpAny_pure ⟨_,rfl,wpAny_pure h⟩) htake))
end
end HT
namespace L2
open PySem PySem.Spec PyProof.Rows
abbrev TO:=St->Hp->(Option Int->Hp->Prop)->Prop
def PO (X:Cx)(e:Option Expr)(t:TO):Prop :=
 ∀ (pins:List (Addr×Obj)) (s:Shared) (σ:St) (H:Hp) (Q:Option Int->Hp->Prop),Inv X pins σ H s->t σ H Q ->
  wpAny (model X.prog X.w) X.A (evalPart e X.env) (fun u s'=>∃ o H',Inv X pins σ H' s'/\IsPart u o/\Q o H') X.xe s
def zmX:TO:=fun _ H Q=>Q none H
def zpM (t:TE):TO:=fun σ H Q=>t σ H fun x H1=>∃ i,x=.int i/\Q (some i) H1
section
variable {X:Cx}{e:Expr}{te:TE}{lo hi:Option Expr}{tl th:TO}{pos p2:Pos}
theorem zmE:PO X none zmX:=by
 intro pins s σ H Q I h
 rw [evalPart_none]
 exact wpAny_pure ⟨none,H,I,.none,h⟩
theorem znM (h:PE X e te):PO X (some e) (zpM te):=by
 intro pins s σ H Q I hw
 rw [evalPart_some]
 refine thn (h pins s σ H _ I hw) fun u s1 ⟨x,H1,I1,r1,q1⟩=>?_
 obtain⟨i,rfl,q⟩:=q1
 obtain⟨t,rfl⟩:=r1
 exact⟨some i,H1,I1,.int i t,q⟩
def SlR (X:Cx)(r:V->Option Int->Option Int->Hp->VK->Prop):Prop :=
 ∀ (pins:List (Addr×Obj)) (s:Shared) (σ:St) (H:Hp) (x:V) (v vl vu:Value) (lo hi:Option Int) (sl:Addr) (Q:VK),Inv X pins σ H s->RelV x v->s.heap.IsSliceOf sl vl vu .none->IsPart vl lo->IsPart vu hi->r x lo hi H Q ->
  ∃ T id,typeLookup (.type T) "__getitem__"=pure (some (.builtin id))/\s.TypeIs v T/\wpAny (model X.prog X.w) X.A (getItem v (.ref sl)) (EP X pins σ Q) X.xe s
theorem SlR.or {r r':V->Option Int->Option Int->Hp->VK->Prop}(h:SlR X r)(h':SlR X r'):SlR X (fun x lo hi H Q=>r x lo hi H Q\/r' x lo hi H Q):=by
 intro pins s σ H x v vl vu lo hi sl Q I rx hs pl pu q
 rcases q with q | q
 ·exact h pins s σ H x v vl vu lo hi sl Q I rx hs pl pu q
 ·exact h' pins s σ H x v vl vu lo hi sl Q I rx hs pl pu q
def tSl (r:V->Option Int->Option Int->Hp->VK->Prop)(te:TE)(tl th:TO):TE:=fun σ H Q=>te σ H fun x H1=>tl σ H1 fun l H2=>th σ H2 fun u H3=>r x l u H3 Q
theorem zlp {r:V->Option Int->Option Int->Hp->VK->Prop}(hr:SlR X r)(he:PE X e te)(hl:PO X lo tl)(hu:PO X hi th):PE X (.Subscript e (.Slice lo hi none p2) pos) (tSl r te tl th):=by
 intro pins s σ H Q I h
 refine Subscript_ (thn (he pins s σ H _ I h) fun v s1 ⟨x,H1,I1,r1,q1⟩=>?_)
 refine wpAny_Slice (thn (hl pins s1 σ H1 _ I1 q1) fun vl s2 ⟨l,H2,I2,pl,q2⟩=>thn (hu pins s2 σ H2 _ I2 q2) fun vu s3 ⟨u,H3,I3,pu,q3⟩=>?_)
 rw [evalPart_none]
 refine wpAny_pure ?_
 have I4:Inv X pins σ H3 { s3 with heap:=s3.heap.push { cls:=.type "slice",data:=.fields #[vl,vu,.none] } }:=I3.kept (t':=s3.toks) fun b ob q=>Heap.get?_push_of_some _ q
 obtain⟨T,id,hT,ht,hg⟩:=hr pins { s3 with heap:=s3.heap.push { cls:=.type "slice",data:=.fields #[vl,vu,.none] } } σ H3 x v vl vu l u s3.heap.objs.size Q I4 r1 (Heap.IsSliceOf.new ..) pl pu q3
 show wpAny (model X.prog X.w) X.A (subscriptTail e (.Slice lo hi none p2) v (.ref s3.heap.objs.size)) (EP X pins σ Q) X.xe { s3 with heap:=s3.heap.push { cls:=.type "slice",data:=.fields #[vl,vu,.none] } }
 exact tail_any (ops:=[.ref s3.heap.objs.size,v]) ht hT hg (by with_unfolding_all rfl)
def zeD (xs:List V)(lo hi:Option Int):List V:=(xs.drop (HT.sIx xs.length 0 lo)).take (HT.sIx xs.length xs.length hi-HT.sIx xs.length 0 lo)
theorem zfP (xs:List V)(lo hi:Option Int):(zeD xs lo hi).length<=xs.length:=by
 unfold zeD
 rw [List.length_take,List.length_drop]
 omega
def zqV (K:PySem.W.Frag):V->Option Int->Option Int->Hp->VK->Prop:=fun x lo hi H Q=>∃ a xs,x=.ref a/\SqT K H a xs /\
 ¬ (HT.sIx xs.length 0 lo=0/\HT.sIx xs.length xs.length hi=xs.length)/\∀ p,H p=none->Q (.ref p) (upd H p (.tup (zeD xs lo hi)))
theorem zoy:SlR X (zqV X.K):=by
 intro pins s σ H x v vl vu lo hi sl Q I rx hs pl pu h
 obtain⟨a,xs,rfl,hx,hw,q⟩:=h
 cases rx
 obtain⟨its,r,ht,hz⟩:=I.tuple hx
 have hlen:its.toArray.size=xs.length:=by rw [List.size_toArray];exact r.length.symm
 refine⟨"tuple",_,PyProof.Rows.slot_tuple_getitem.lookup,ht.typeIs,?_⟩
 refine HT.zfM ht hs pl pu (by rw [hlen];exact hw) ?_ (by rw [hlen];exact hz)
 rw [hlen]
 refine⟨.ref s.heap.objs.size,_,I.laid (t':=s.toks) (o:=.tup (zeD xs lo hi)) (fun b ob q=>Heap.get?_push_of_some _ q) (Nat.le_refl _) ?_,rfl,q _ (I.hok.fresh (Nat.le_refl _))⟩
 exact⟨Nat.le_trans (zfP xs lo hi) hz,_,(r.drop (HT.sIx xs.length 0 lo)).take (HT.sIx xs.length xs.length hi-HT.sIx xs.length 0 lo),IsTup.new _ _⟩
def zqk (K:PySem.W.Frag):R2:=fun x y H Q=>∃ a b xs ys,x=.ref a/\y=.ref b/\SqT K H a xs/\SqT K H b ys/\xs≠[]/\xs.length+ys.length<=sizeLine /\
 (ys=[]->Q (.ref a) H)/\(ys≠[]->∀ p,H p=none->Q (.ref p) (upd H p (.tup (xs++ys))))
theorem Vals.nil_iff {xs:List V}{us:List Value}(r:Vals xs us):us=[]↔xs=[]:=by
 cases r with
 | nil=>simp
 | cons _ _=>simp
theorem znB:OpR X (binaryOp .Add) (zqk X.K):=by
 intro pins s σ H x y v u Q I rx ry h
 obtain⟨a,b,xs,ys,rfl,rfl,ha,hb,hx,hz,q1,q2⟩:=h
 cases rx
 cases ry
 obtain⟨its,r1,p1,_⟩:=I.tuple ha
 obtain⟨its2,r2,p2,_⟩:=I.tuple hb
 refine HT.znO p1 p2 (fun z=>hx (r1.nil_iff.mp z)) (fun z=>⟨.ref a,H,I,rfl,q1 (r2.nil_iff.mp z)⟩) (fun z=>?_) (by rw [<- r1.length,<- r2.length];exact hz)
 refine⟨.ref s.heap.objs.size,_,I.laid (t':=s.toks) (o:=.tup (xs++ys)) (fun b ob q=>Heap.get?_push_of_some _ q) (Nat.le_refl _) ?_,rfl,q2 (fun w=>z (r2.nil_iff.mpr w)) _ (I.hok.fresh (Nat.le_refl _))⟩
 exact⟨by rw [List.length_append];exact hz,_,r1.append r2,IsTup.new _ _⟩
end
def ixN (n:Nat)(i:Int):Option Nat:=if 0<=i then (if i<n then some i.toNat else none) else if -(n:Int)<=i then some (i+n).toNat else none
def atI {α:Type}(xs:List α)(i:Int):Option α:=(ixN xs.length i).bind fun j=>xs[j]?
theorem zjs {n:Nat}{i:Int}{j:Nat}(h:ixN n i=some j):seqIndex? i n=some j/\j<n/\-(n:Int)<=i/\i<n:=by
 unfold ixN at h
 by_cases h0:0<=i
 ·rw [if_pos h0] at h
  by_cases h1:i<n
  ·rw [if_pos h1] at h
   have e:i.toNat=j:=Option.some.inj h
   exact⟨by rw [seqIndex_of h0 h1,e],by omega,by omega,h1⟩
  ·rw [if_neg h1] at h;cases h
 ·rw [if_neg h0] at h
  by_cases h1:-(n:Int)<=i
  ·rw [if_pos h1] at h
   have e:(i+n).toNat=j:=Option.some.inj h
   exact⟨by rw [seqIndex_neg (by omega) h1,e],by omega,h1,by omega⟩
  ·rw [if_neg h1] at h;cases h
theorem zg5 {α:Type}{xs:List α}{i:Int}{v:α}(h:atI xs i=some v):∃ j,seqIndex? i xs.length=some j/\xs[j]?=some v/\j<xs.length/\-(xs.length:Int)<=i/\i<xs.length:=by
 unfold atI at h
 cases e:ixN xs.length i with
 | none=>rw [e] at h;cases h
 | some j =>
  rw [e] at h
  obtain⟨h1,h2,h3,h4⟩:=zjs e
  exact⟨j,h1,h,h2,h3,h4⟩
def zjt (b:Expr):Prop:=∀ o i,subscripted b false o i=operate [o,i] (getItem o i)
def IxR (X:Cx)(r:R2):Prop :=
 ∀ (value slice:Expr) (pins:List (Addr×Obj)) (s:Shared) (σ:St) (H:Hp) (x y:V) (v u:Value) (Q:VK),Inv X pins σ H s->RelV x v->RelV y u->r x y H Q ->
  subscripted slice false v u=operate [v,u] (getItem v u)->wpAny (model X.prog X.w) X.A (subscriptTail value slice v u) (EP X pins σ Q) X.xe s
def MtR (X:Cx)(id:String)(r:V->List V->Hp->VK->Prop):Prop :=
 ∀ (pins:List (Addr×Obj)) (s:Shared) (σ:St) (H:Hp) (x:V) (xs:List V) (v:Value) (us:List Value) (Q:VK),Inv X pins σ H s->RelV x v->Vals xs us->r x xs H Q ->
  wpAny (model X.prog X.w) X.A (call (.builtin id) (v::us)) (EP X pins σ Q) X.xe s
section
variable {X:Cx}{a b:Expr}{ta tb:TE}{pos:Pos}
theorem IxR.or {r r':R2}(h:IxR X r)(h':IxR X r'):IxR X (fun x y H Q=>r x y H Q\/r' x y H Q):=by
 intro value slice pins s σ H x y v u Q I rx ry q hs
 rcases q with q | q
 ·exact h value slice pins s σ H x y v u Q I rx ry q hs
 ·exact h' value slice pins s σ H x y v u Q I rx ry q hs
theorem zqt {r:R2}(hr:IxR X r)(ha:PE X a ta)(hb:PE X b tb)(hs:zjt b):PE X (.Subscript a b pos) (tOp r ta tb):=by
 intro pins s σ H Q I h
 exact Subscript_ (zl2 ha hb I h fun v u s2 x y H2 I2 rx ry q=>hr a b pins s2 σ H2 x y v u Q I2 rx ry q (hs _ _))
def zqO (K:PySem.W.Frag):R2:=fun x y H Q=>∃ p xs i v,x=.ref p/\y=.int i/\SqL K H p xs/\atI xs i=some v/\Q v H
def zqR (K:PySem.W.Frag):R2:=fun x y H Q=>∃ p xs i v,x=.ref p/\y=.int i/\SqT K H p xs/\atI xs i=some v/\Q v H
def zrd:R2:=fun x y H Q=>∃ z i c,x=.str z/\y=.int i/\z.length<=sizeLine/\atI z.cps.toList i=some c/\Q (.str ⟨#[c]⟩) H
theorem znr:IxR X (zqO X.K):=by
  intro value slice pins s σ H x y v u Q I rx ry h hs
  obtain⟨p,xs,i,z,rfl,rfl,hq,he,q⟩:=h
  cases rx
  obtain⟨t,rfl⟩:=ry
  obtain⟨its,r,pl,hz⟩:=I.list hq
  obtain⟨j,h1,h2,h3,h4,h5⟩:=zg5 he
  obtain⟨w,ew,rw'⟩:=r.get h2
  have hl:=r.length
  have hn:=zei
  have fin:EP X pins σ Q w s:=⟨z,H,I,rw',q⟩
  by_cases h0:0<=i
  · have hj : i.toNat = j := by
      rw [seqIndex_of h0 h5] at h1
      exact Option.some.inj h1
    exact item_listR pl.isList h0 (by omega) (by rw [hj];simpa using ew) fin hs
  · have hj : (i + (its.toArray.size : Int)).toNat = j := by
      rw [seqIndex_neg (by omega) h4] at h1
      rw [List.size_toArray,<- hl]
      exact Option.some.inj h1
    exact subscriptTail_builtinR (x:=w) pl.isList.typeIs slot_list_getitem.lookup
      (wpAny_getItem_list_neg (Q:=fun r s'=>r=w/\EP X pins σ Q r s') pl.isList (by omega) (by rw [List.size_toArray]<;>omega) (by omega) (by rw [hj];simpa using ew) ⟨rfl,fin⟩) hs
theorem zps:IxR X (zqR X.K):=by
 intro value slice pins s σ H x y v u Q I rx ry h hs
 obtain⟨p,xs,i,z,rfl,rfl,hq,he,q⟩:=h
 cases rx
 obtain⟨t,rfl⟩:=ry
 obtain⟨its,r,pl,hz⟩:=I.tuple hq
 obtain⟨j,h1,h2,h3,h4,h5⟩:=zg5 he
 obtain⟨w,ew,rw'⟩:=r.get h2
 have hl:=r.length
 have hn:=zei
 have fin:EP X pins σ Q w s:=⟨z,H,I,rw',q⟩
 exact subscriptTail_builtinR (x:=w) pl.typeIs slot_tuple_getitem.lookup
  (getItem_tuple (j:=j) (Q:=fun r s'=>r=w/\EP X pins σ Q r s') pl (by omega) (by omega) (by rw [List.size_toArray,<- hl];exact h1) (by simpa using ew) ⟨rfl,fin⟩) hs
theorem zo9:IxR X zrd:=by
 intro value slice pins s σ H x y v u Q I rx ry h hs
 obtain⟨z,i,c,rfl,rfl,hz,he,q⟩:=h
 obtain⟨t,rfl⟩:=rx
 obtain⟨t',rfl⟩:=ry
 obtain⟨j,h1,h2,h3,h4,h5⟩:=zg5 he
 have hl:z.cps.toList.length=z.length:=by simp [Str.length]
 rw [hl] at h1 h4 h5
 have hn:=zei
 exact tail_any (typeIs_str s z t) slot_str_getitem.lookup (getItem_str (c:=c) (by
  have e1:decide (i < -(2 ^ 63:Int))=false:=decide_eq_false (by omega)
  have e2:decide (i ≥ 2 ^ 63)=false:=decide_eq_false (by omega)
  rw [e1,e2,Bool.or_false]) (by rw [h1];simpa using h2) ⟨.str ⟨#[c]⟩,H,I.tok _,⟨_,rfl⟩,q⟩) hs
theorem zjQ (its:List Value)(n j:Nat)(u:Value):Obj.mapSeq (·.setIfInBounds j u) { cls:=.type "list",data:=.seq its.toArray n }={ cls:=.type "list",data:=.seq (its.set j u).toArray n }:=by
 simp [Obj.mapSeq]
theorem Inv.lst {pins:List (Addr×Obj)}{σ:St}{H:Hp}{s:Shared}{p:Addr}{xs:List V}(I:Inv X pins σ H s)(h:H p=some (.lst xs)) :
  ∃ (its:List Value) (n:Nat),Vals xs its/\s.heap.get? p=some { cls:=.type "list",data:=.seq its.toArray n }/\xs.length<=sizeLine:=by
 obtain⟨z,its,n,r,e⟩:=I.hok p _ h
 exact⟨its,n,r,e,z⟩
theorem Inv.lstUpd {pins:List (Addr×Obj)}{σ:St}{H:Hp}{s:Shared}{p:Addr}{xs ys:List V}{its its':List Value}{n n':Nat}{f:Obj->Obj}(I:Inv X pins σ H s)(h:H p=some (.lst xs))
    (ho:s.heap.get? p=some { cls:=.type "list",data:=.seq its.toArray n }) (hf:f { cls:=.type "list",data:=.seq its.toArray n }={ cls:=.type "list",data:=.seq its'.toArray n' }) (r:Vals ys its') (hz:ys.length<=sizeLine) (t:Nat) :
    Inv X pins σ (upd H p (.lst ys)) { s with heap:=s.heap.update p f,toks:=t }:=by
  have e:(s.heap.update p f).get? p=some { cls:=.type "list",data:=.seq its'.toArray n' }:=by
    rw [Heap.get?_update_self f ho (by rw [hf]<;>rfl),hf]
  refine I.write (x:=p) (e:=p) (by rw [h];trivial) (.inl rfl) (fun b u hb q=>(Heap.get?_update_other _ _ (Ne.symm hb)).trans q) ⟨_,e⟩ ?_
  exact⟨hz,its',n',r,e⟩
def zqy:V->V->V->Hp->(Hp->Prop)->Prop:=fun o i v H Q=>∃ p xs k j,o=.ref p/\i=.int k/\H p=some (.lst xs)/\ixN xs.length k=some j/\Q (upd H p (.lst (xs.set j v)))
theorem set_list:zog X zqy:=by
 intro pins s σ H o i v ov iv u Q I ro ri rv h
 obtain⟨p,xs,k,j,rfl,rfl,hp,hj,q⟩:=h
 cases ro
 obtain⟨t,rfl⟩:=ri
 obtain⟨its,n,r,ho,hz⟩:=I.lst hp
 obtain⟨h1,h2,h3,h4⟩:=zjs hj
 have hl:=r.length
 have hn:=zei
 have I':Inv X pins σ (upd H p (.lst (xs.set j v))) { s with heap:=s.heap.update p (Obj.mapSeq (·.setIfInBounds j u)) } :=
  I.lstUpd hp ho (zjQ its n j u) (r.set rv j) (by rw [List.length_set];exact hz) s.toks
 by_cases h0:0<=k
 ·have hk:k.toNat=j:=by
   rw [seqIndex_of h0 h4] at h1
   exact Option.some.inj h1
  exact PySem.W.ki_setAt ho h0 (by omega) (by rw [List.size_toArray,<- hl];exact h4) (by rw [hk];exact⟨_,I',q⟩)
 ·have hk:(k+(its.toArray.size:Int)).toNat=j:=by
   rw [seqIndex_neg (by omega) h3] at h1
   rw [List.size_toArray,<- hl]
   exact Option.some.inj h1
  exact PySem.W.ki_setBack ho (by omega) (by rw [List.size_toArray,<- hl];exact h3) (by omega) (by rw [hk];exact⟨_,I',q⟩)
theorem ziK (lo hi:Option Int)(n:Nat):(sliceBounds lo hi none n).1=((HT.sIx n 0 lo:Nat):Int)/\(sliceBounds lo hi none n).2.1=((HT.sIx n n hi:Nat):Int)/\(sliceBounds lo hi none n).2.2=1:=by
  refine⟨?_,?_,rfl⟩
  · cases lo with
    | none=>simp [sliceBounds,HT.sIx]
    | some i =>
      simp only [sliceBounds,HT.sIx,Option.getD_none,show (1:Int) > 0 by decide,if_true]
      by_cases h:i<0
      · simp only [h,if_true]<;>omega
      · simp only [h,if_false]<;>omega
  · cases hi with
    | none=>simp [sliceBounds,HT.sIx]
    | some i =>
      simp only [sliceBounds,HT.sIx,Option.getD_none,show (1:Int) > 0 by decide,if_true]
      by_cases h:i<0
      · simp only [h,if_true]<;>omega
      · simp only [h,if_false]<;>omega
theorem zhA (its:List Value)(lo hi:Option Int):slicePick its.toArray lo hi none=((its.drop (HT.sIx its.length 0 lo)).take (HT.sIx its.length its.length hi-HT.sIx its.length 0 lo)).toArray:=by
  obtain⟨h1,h2,h3⟩:=ziK lo hi its.toArray.size
  unfold slicePick
  rw [h1,h2,h3]
  simp only [sliceRange_one,pick_run,List.size_toArray]<;>rfl
def zqU (K:PySem.W.Frag):V->Option Int->Option Int->Hp->VK->Prop:=fun x lo hi H Q=>∃ a xs,x=.ref a/\SqL K H a xs/\∀ p,H p=none->Q (.ref p) (upd H p (.lst (zeD xs lo hi)))
theorem znd:SlR X (zqU X.K):=by
  intro pins s σ H x v vl vu lo hi sl Q I rx hs pl pu h
  obtain⟨a,xs,rfl,hx,q⟩:=h
  cases rx
  obtain⟨its,r,ht,hz⟩:=I.list hx
  have hlen:=r.length
  refine⟨"list",_,slot_list_getitem.lookup,ht.isList.typeIs,?_⟩
  refine wpAny_getItem_list_slice ht.isList hs pl pu .none (by simp) ?_ (by rw [List.size_toArray]<;>omega)
  rw [zhA,<- hlen]
  refine⟨.ref s.heap.objs.size,_,I.laid (t':=s.toks) (o:=.lst (zeD xs lo hi)) (fun b ob q=>Heap.get?_push_of_some _ q) (Nat.le_refl _) ?_,rfl,q _ (I.hok.fresh (Nat.le_refl _))⟩
  exact⟨Nat.le_trans (zfP xs lo hi) hz,_,0,(r.drop (HT.sIx xs.length 0 lo)).take (HT.sIx xs.length xs.length hi-HT.sIx xs.length 0 lo),Heap.get?_push_size _ rfl⟩
theorem ziG:za5 X (.builtin "len") (fun xs H Q=>∃ p ys,xs=[.ref p]/\(SqL X.K H p ys\/SqT X.K H p ys)/\Q (.int ys.length) H):=by
  intro pins s σ H xs us Q I r h
  obtain⟨p,ys,rfl,hq,q⟩:=h
  obtain⟨u,rfl,rx⟩:=vals1 r
  cases rx
  have hn:=zei
  rcases hq with hq | hq
  · obtain⟨its,r',pl,hz⟩:=I.list hq
    have hlen:=r'.length
    exact Calls.call_len_list pl.isList (by simp only [List.size_toArray]<;>omega) ⟨.int ys.length,H,I.tok _,⟨s.toks+1,by rw [List.size_toArray,hlen]⟩,q⟩
  · obtain⟨its,r',pl,hz⟩:=I.tuple hq
    have hlen:=r'.length
    exact len_tuple pl (by simp only [List.size_toArray]<;>omega) ⟨.int ys.length,H,I.tok _,⟨s.toks+1,by rw [List.size_toArray,hlen]⟩,q⟩
theorem zh9:za5 X (.builtin "len") (fun xs H Q=>∃ z,xs=[.str z]/\z.length<=sizeLine/\Q (.int z.length) H):=by
 intro pins s σ H xs us Q I r h
 obtain⟨z,rfl,hz,q⟩:=h
 obtain⟨u,rfl,t,rfl⟩:=vals1 r
 have hn:=zei
 exact len_str (by omega) ⟨.int z.length,H,I.tok _,⟨_,rfl⟩,q⟩
theorem za5.or {f:Value}{r r':List V->Hp->VK->Prop}(h:za5 X f r)(h':za5 X f r'):za5 X f (fun xs H Q=>r xs H Q\/r' xs H Q):=by
 intro pins s σ H xs us Q I rs q
 rcases q with q | q
 ·exact h pins s σ H xs us Q I rs q
 ·exact h' pins s σ H xs us Q I rs q
theorem zig:za5 X (.type "list") (fun xs H Q=>∃ p ys,xs=[.ref p]/\(SqL X.K H p ys\/SqT X.K H p ys)/\∀ l,H l=none->Q (.ref l) (upd H l (.lst ys))):=by
  intro pins s σ H xs us Q I r h
  obtain⟨p,ys,rfl,hq,q⟩:=h
  obtain⟨u,rfl,rx⟩:=vals1 r
  cases rx
  have fin : ∀ (its : List Value), Vals ys its → ys.length ≤ sizeLine → ∀ (h' : Heap) (c' : Nat), (∀ b o', s.heap.get? b = some o' → h'.get? b = some o') →
      h'.get? s.heap.objs.size=some { cls:=.type "list",dict:=none,data:=.seq its.toArray c',slots:=#[] }->EP X pins σ Q (.ref s.heap.objs.size) { s with heap:=h' }:=fun its r' hz h' c' kp e =>
    ⟨.ref s.heap.objs.size,_,I.laid (t':=s.toks) kp (Nat.le_refl _) (show zaT X.prog X.w _ h' _ (.lst ys) from ⟨hz,its,c',r',e⟩),rfl,q _ (I.hok.fresh (Nat.le_refl _))⟩
  rcases hq with hq | hq
  · obtain⟨its,r',pl,hz⟩:=I.list hq
    have hlen:=r'.length
    obtain⟨o,ho,hc,n,hd⟩:=pl.isList
    exact call_list_seq p (.inl rfl) ho hc hd (fun h' c' kp e=>fin its r' hz h' c' kp e) (by simp only [List.size_toArray]<;>omega)
  · obtain⟨its,r',pl,hz⟩:=I.tuple hq
    have hlen:=r'.length
    obtain⟨o,ho,hc,n,hd⟩:=pl
    exact call_list_seq p (.inr rfl) ho hc hd (fun h' c' kp e=>fin its r' hz h' c' kp e) (by simp only [List.size_toArray]<;>omega)
def tyV (K:PySem.W.Frag)(T:String)(x:V)(H:Hp):Prop:=match x with
 | .str _=>T="str"
 | .int _=>T="int"
 | .ref p=>(T="list"/\∃ xs,SqL K H p xs)\/(T="tuple"/\∃ o,K.lookup p=some o/\o.cls=.type "tuple"/\o.dict=none) \/
   (T="dict"/\((∃ kvs,H p=some (.dK kvs))\/∃ kvs,H p=some (.dT kvs)))\/(T="set"/\∃ S n,H p=some (.set S n))
 | _=>False
theorem zoG {pins:List (Addr×Obj)}{σ:St}{H:Hp}{s:Shared}{T:String}{x:V}{v:Value}(I:Inv X pins σ H s)(r:RelV x v)(ty:tyV X.K T x H) :
  s.TypeIs v T/\∀ a,v=.ref a->∃ ob,s.heap.get? a=some ob/\ob.dict=none:=by
 cases x with
 | str z =>
  obtain⟨t,rfl⟩:=r
  cases (show T="str" from ty)
  exact⟨typeIs_str s z t,fun _ e=>nomatch e⟩
 | int i =>
  obtain⟨t,rfl⟩:=r
  cases (show T="int" from ty)
  exact⟨typeIs_int s i t,fun _ e=>nomatch e⟩
 | ref p =>
  cases r
  rcases ty with ⟨rfl,xs,hq⟩ | ⟨rfl,o,hk,hc,hd⟩ | ⟨rfl,hk⟩ | ⟨rfl,S,n,hk⟩
  ·obtain⟨its,_,pl,_⟩:=I.list hq
   refine⟨pl.isList.typeIs,fun a e=>?_⟩
   cases e
   obtain⟨o,n,e,c,hd,_⟩:=pl
   exact⟨o,e,hd⟩
  ·refine⟨⟨o,I.kIn p o hk,hc⟩,fun a e=>?_⟩
   cases e
   exact⟨o,I.kIn _ o hk,hd⟩
  ·have z:∃ o,s.heap.get? p=some o/\o.ExactDict:=by
    rcases hk with ⟨kvs,hk⟩ | ⟨kvs,hk⟩
    ·obtain⟨_,_,_,_,o,_,_,e,ex,_⟩:=I.hok p _ hk
     exact⟨o,e,ex⟩
    ·obtain⟨_,_,_,_,o,_,_,e,ex,_⟩:=I.hok p _ hk
     exact⟨o,e,ex⟩
   obtain⟨o,e,ex⟩:=z
   refine⟨⟨o,e,ex.1⟩,fun a e2=>?_⟩
   cases e2
   exact⟨o,e,ex.2.1⟩
  ·obtain⟨o,_,_,_,e,ex,_⟩:=I.hok p _ hk
   refine⟨⟨o,e,ex.1⟩,fun a e2=>?_⟩
   cases e2
   exact⟨o,e,ex.2.1⟩
 | _=>exact False.elim ty
def tBM (K:PySem.W.Frag)(T:String)(r:V->List V->Hp->VK->Prop)(to:TE)(t:TA):TE:=fun σ H Q=>to σ H fun x H1=>tyV K T x H1/\t σ H1 fun xs H2=>r x xs H2 Q
variable {o e:Expr}{es:List Expr}{to:TE}{t:TA}{name:Str}{apos cpos:Pos}{T id:String}{r:V->List V->Hp->VK->Prop}
theorem zpU (pa:PlainAttrs T)(slot:Slot T name id)(hty:typeOf (.builtin id)=pure (.type "method_descriptor"))(hm:MtR X id r)(ho:PE X o to)(ha:PA X (e::es) t)
    (hbase:attributeBase o name X.env (eval o X.env)=eval o X.env:=by rfl)
    (hfew:((backTo cpos (starEach (e::es) X.env)).all (fun x=>!x.1)&&(backToKw cpos (keywordEach [] X.env)).all (fun x=>x.1.isSome)
     &&decide ((e::es).length+([]:List Keyword).length+(if ([]:List Keyword).isEmpty then 0 else 1)<30))=true:=by rfl)
    (hline:(apos.endLine==cpos.line)=true:=by rfl) (hs:starEach (e::es) X.env=(false,eval e X.env)::starEach es X.env:=by rfl) (hplain:(backTo cpos (starEach es X.env)).any (·.1)=false:=by rfl) :
    PE X (.Call (.Attribute o name apos) (e::es) [] cpos) (tBM X.K T r to t):=by
  intro pins s σ H Q I h
  refine wpAny_Call_method_late hbase hfew hline rfl (thn (ho pins s σ H _ I h) fun v s1 ⟨x,H1,I1,r1,ty,q1⟩=>?_)
  obtain⟨h1,h2⟩:=zoG I1 r1 ty
  refine⟨T,id,pa,slot,hty,h1,h2,?_⟩
  have hA:=ha cpos pins s1 σ H1 _ I1 q1
  rw [hs] at hA ⊢
  refine Calls.callWith_builtin (by show (false||(backTo cpos (starEach es X.env)).any (·.1))=false;rw [hplain]<;>rfl) (Calls.evalArgs_plain ?_)
  exact thn hA fun us s2 ⟨vs,H2,I2,r2,q2⟩=>hm pins s2 σ H2 x vs v us Q I2 r1 r2 q2
/- xs.append(e),list.index on a module's tuple .. are MtR facts of 06m -/
end
def MtM (X:Cx)(id:String)(r:V->List V->Hp->VK->Prop):Prop :=
 ∀ (pins:List (Addr×Obj)) (s:Shared) (σ:St) (H:Hp) (x:V) (xs:List V) (v:Value) (us:List Value) (Q:VK),Inv X pins σ H s->RelV x v->Vals xs us->r x xs H Q ->
  wpAny (model X.prog X.w) X.A (call (.builtin id) (v::us)) (EP X pins σ Q) X.xe s
theorem Vals.one:∀ {x:V} {us:List Value},Vals [x] us->∃ u,us=[u]/\RelV x u
 | _,_,.cons r .nil=>⟨_,rfl,r⟩
section
variable {X:Cx}{pins:List (Addr×Obj)}{σ:St}{H:Hp}{s:Shared}{l b:Addr}{xs ys zs:List V}
theorem Inv.lset {its its':List Value}{n:Nat}{f:Array Value->Array Value}{t':Nat}(I:Inv X pins σ H s)(hH:H l=some (.lst xs))
  (e:s.heap.get? l=some { cls:=.type "list",data:=.seq its.toArray n }) (hf:f its.toArray=its'.toArray) (hv:Vals ys its') (hz:ys.length<=sizeLine) :
  Inv X pins σ (upd H l (.lst ys)) { s with heap:=s.heap.update l (Obj.mapSeq f),toks:=t' }:=by
 have q:=PySem.IsL.update e f
 rw [hf] at q
 refine I.write (x:=l) (e:=l) (by rw [hH];exact trivial) (.inl rfl) (fun b' u hb hu=>(Heap.get?_update_other s.heap (Obj.mapSeq f) (Ne.symm hb)).trans hu) ⟨_,q⟩ ?_
 exact⟨hz,its',_,hv,q⟩
theorem Inv.lnew {its:List Value}{t':Nat}(I:Inv X pins σ H s)(hv:Vals ys its)(hz:ys.length<=sizeLine) :
  Inv X pins σ (upd H s.heap.objs.size (.lst ys)) { s with heap:=s.heap.push { cls:=.type "list",data:=.seq its.toArray },toks:=t' } :=
 I.laid (fun _ _ q=>Heap.get?_push_of_some _ q) (Nat.le_refl _) ⟨hz,its,0,hv,Heap.get?_push_size _ rfl⟩
theorem Inv.fresh (I:Inv X pins σ H s):H s.heap.objs.size=none:=I.hok.fresh (Nat.le_refl _)
theorem Inv.lstM (I:Inv X pins σ H s)(hH:H l=some (.lst xs)):xs.length<=sizeLine/\∃ (its:List Value) (n:Nat),Vals xs its/\xs.length=its.length/\s.heap.get? l=some { cls:=.type "list",data:=.seq its.toArray n }:=by
 obtain⟨z,its,n,r,e⟩:=I.hok l _ hH
 exact⟨z,its,n,r,r.length,e⟩
end
section
variable {X:Cx}
def zjp:V->List V->Hp->VK->Prop:=fun x vs H Q=>∃ l xs y,x=.ref l/\vs=[y]/\H l=some (.lst xs)/\xs.length<sizeLine/\Q .non (upd H l (.lst (xs++[y])))
theorem zhm:MtM X "list.append" zjp:=by
 intro pins s σ H x vs v us Q I rx rv h
 obtain⟨l,xs,y,rfl,rfl,hH,hz,q⟩:=h
 cases rx
 obtain⟨u,rfl,ru⟩:=rv.one
 obtain⟨z,its,n,r,hl,e⟩:=I.lstM hH
 refine call_meets F.slot_list_append ⟨_,e,rfl⟩ F.entry_list_append (F.args_list_append_2 _ _) (PySem.list_append l its.toArray n u (by rw [List.size_toArray];omega)) ⟨e,?_⟩
 refine⟨.non,_,I.lset (its':=its++[u]) hH e (by simp) (r.append (.cons ru .nil)) ?_,rfl,q⟩
 rw [List.length_append,List.length_singleton]
 omega
end
section
variable {prog:Program}{w:World}{A:Around}{E:Value->Shared->Prop}{s:Shared}
end
section
variable {X:Cx}
end
end L2
namespace Att
open PySem PySem.W PySem.Calls PyProof.Rows
theorem zgo {P:Params}{h:Heap}:∀ (ns:List Int) (vs:List Value),WellAll P h vs (ns.map WData.int)->IntsAre vs ns:=by
 intro ns
 induction ns with
 | nil =>
  intro vs w
  rw [List.map_nil] at w
  cases w
  exact .nil
 | cons n ns ih =>
  intro vs w
  rw [List.map_cons] at w
  cases w with
  | cons a b =>
   cases a
   exact .cons _ _ (ih _ b)
theorem zkV {l:OpenLaw}{n:Nat}(hn:l.most=some n){P:Params}{h:Heap}{args:List WData}{vals:List Value}
  (hpre:l.row.toRowW.claim.pre args=true) (hwl:WellAll P h vals args) :
  ∃ a vs ns,vals=[Value.ref a]/\args=[WData.list (ns.map WData.int)]/\h.get? a=some { cls:=.type "list",data:=.seq vs.toArray }/\IntsAre vs ns/\ns.length<=n:=by
 have hsh:WShape.hasAll [] args [.list .int]=true:=(pre_splitW hpre).1
 have hc:l.pre.holds [] { args:=args }=true:=(pre_splitW hpre).2
 obtain⟨d,r,rfl,h1,h2⟩:=hasAllW_cons hsh
 obtain rfl:=hasAllW_nil h2
 obtain⟨xs,rfl,h3⟩:=hasW_list h1
 obtain⟨ns,rfl⟩:=items_int h3
 have hlen:ns.length<=n:=by
  unfold OpenLaw.pre at hc
  have h4:(WTm.not (.lt (.lit (.int (n:Int))) (.len (.arg 0)))).holds [] { args:=[.list (ns.map .int)] }=true:=by
   have h4:=(holds_andW hc).1
   rw [hn] at h4
   exact h4
  have h5:=condW_of h4 (w_not (w_lt w_lit (w_len_list (w_arg rfl))))
  rw [List.length_map] at h5
  refine Nat.le_of_not_lt fun q=>?_
  have q':(n:Int)<((ns.length:Nat):Int):=by omega
  first
   | (rw [decide_eq_true q'] at h5;exact absurd h5 (by decide))
   | (simp at h5;omega)
 cases hwl with
 | cons w1 w2 =>
  cases w2
  cases w1 with
  | list ho hall=>exact⟨_,_,ns,rfl,rfl,ho,zgo ns _ hall,hlen⟩
theorem zku (l:OpenLaw)(args:List WData):l.row.toRowW.claim.post args (.bool true) args=true :=
 postW_of (r:=l.row.toRowW) (X:=(true==true))
  (show WShape.has [] (.bool true) .bool=true by first | rfl | decide | simp [WShape.has,WShape.arms,WShape.armsAll])
  (show (WTm.eq .res (.lit (.bool true))).value [] { args:=args,res:=some (.bool true),after:=args }=some (.bool (true==true)) from w_eq_bool (w_res rfl) w_lit) rfl
section
variable {prog:Program}{w:World}{A:Around}{E:Value->Shared->Prop}{s:Shared}{K:Frag}
end
end Att
namespace L2
open PySem PySem.Spec PyProof.Rows
theorem zhp:∀ {vs:List Value} {ns:List Int},IntsAre vs ns->Vals (ns.map V.int) vs
 | _,_,.nil=>.nil
 | _,_,.cons n t h=>.cons ⟨t,rfl⟩ (zhp h)
def Only (H:Hp):Prop:=∀ b,H b=none\/∃ o xs,H b=some (.frz o (.lst xs))
theorem zlt {P:Program}{w:World}{K:PySem.W.Frag}{mg mb:Str->Option Value}{CX:CXT}{k:Nat}{fa a:Addr}{fd:FuncData}{x:Str}{sp:Sp}{s₁:Shared}{vs:List Value}{ns:List Int}
  (KX:K.In s₁.heap) (hns:s₁.heap.Ns mainGlobals mg) (hb:s₁.heap.Ns builtinsNs mb) (hbb:∀ x:Str,x≠"__name__"->mb x=bootBuiltins x) (hlim:s₁.heap.NoLimit) (hg:s₁.gens=#[])
  (ha:s₁.heap.get? a=some { cls:=.type "list",data:=.seq vs.toArray }) (hi:IntsAre vs ns) (hl:ns.length<=sizeLine) (hr:zap k callerA)
  (F:∀ base:Heap,K.In base->base.Ns mainGlobals mg->zY P w K mg base CX k fa fd [x] sp) (hbind:∀ (s:Shared) (u:Value),BindsTo s fd ⟨[u],[]⟩ [(x,u)])
  (hsp:∀ H:Hp,Only H->SqL K H a (ns.map V.int)->sp [.ref a] H (fun v _=>v=.bl true) fun _ _ _=>False)
  (hCX:∀ H e s',CX [] H s₁ (fun _ _ _=>False) e s'->False) :
  codeAny (model P w) callerA (.call (.ref fa) ⟨[.ref a],[]⟩) (fun r s'=>r=.ok (.ret (.bool true))/\OldK s₁.heap s'.heap/\s'.os=s₁.os/\AllBare s'.gens) s₁:=by
 have rv:=zhp hi
 have lenV:=hi.length
 have core:∀ H:Hp,Only H->SqL K H a (ns.map V.int)->HOk P w H s₁.heap->(∀ b,H b≠none->b=a)->(H a≠none->K.lookup a=none) ->
   codeAny (model P w) callerA (.call (.ref fa) ⟨[.ref a],[]⟩) (fun r s'=>r=.ok (.ret (.bool true))/\OldK s₁.heap s'.heap/\s'.os=s₁.os/\AllBare s'.gens) s₁:=by
  intro H hO hS hok hA hK
  have base_of:∀ {b:Addr} {o:Obj},s₁.heap.get? b=some o->H b=none->(zeL s₁.heap H).get? b=some o:=fun e n=>zlK e n
  have noA:∀ {b:Addr} {o:Obj} {es:Array DictEntry} {ep:Nat},s₁.heap.get? b=some o->o.data=.dict es ep->H b=none:=fun {b o es ep} e d=>by
   cases q:H b with
   | none=>rfl
   | some u =>
    have e':b=a:=hA b (by rw [q];simp)
    subst e'
    rw [ha] at e;cases e
    have d':Data.seq vs.toArray _=Data.dict es ep:=d
    cases d'
  have nsK:∀ {b:Addr} {m:Str->Option Value},s₁.heap.Ns b m->(zeL s₁.heap H).Ns b m:=fun {b m} ⟨o,es,ep,e,d,r⟩=>⟨o,es,ep,base_of e (noA e d),d,r⟩
  have hKb:K.In (zeL s₁.heap H):=fun b o e=>base_of (KX b o e) (by
   cases q:H b with
   | none=>rfl
   | some u =>
    have e':b=a:=hA b (by rw [q];simp)
    subst e'
    rw [hK (by rw [q];simp)] at e;cases e)
  have hM:Mod K mg (zeL s₁.heap H):=⟨hKb,nsK hns,⟨mb,nsK hb,hbb⟩,let ⟨mc,h1,h2⟩:=hlim;⟨mc,nsK h1,h2⟩⟩
  have e0:zfV P w K mg (zeL s₁.heap H) callerA [] s₁ H:=⟨rfl,hM,fun b o e=>znk e,Nat.le_of_eq (zkI _ _),trivial,fun b hb=>absurd (show b∈([]:List Addr) from hb) (by simp),hok,.of_eq hg⟩
  refine codeAny_mono ((F _ hKb (nsK hns)).run callerA [] s₁ H ⟨[.ref a],[]⟩ [.ref a] [.ref a] _ _ hr e0 (hbind s₁ (.ref a)) (.cons rfl .nil) (hsp H hO hS)) fun r s' h=>?_
  cases r with
  | error e=>exact (hCX H e s' h).elim
  | ok fl =>
   cases fl with
   | next=>exact False.elim h
   | brk=>exact False.elim h
   | cont=>exact False.elim h
   | ret u =>
    obtain⟨v,H',os,bare,un,hok',r',q⟩:=h
    have q':v=.bl true:=q
    subst q'
    obtain rfl:u=Value.bool true:=r'
    refine⟨rfl,OldK.of_keep fun b o e=>?_,os,bare⟩
    cases q:H b with
    | none=>exact un.keep b o e q (by intro z;exact absurd (show b∈([]:List Addr) from z) (by simp)) (by simp)
    | some u =>
     rcases hO b with z | ⟨ob,xs,z⟩
     ·rw [q] at z;cases z
     ·have z2:=un.frzs b ob _ z
      obtain⟨e1,_⟩:=hok b _ z
      obtain⟨e2,_⟩:=hok' b _ z2
      rw [e] at e1;cases e1
      exact e2
 cases hk:K.lookup a with
 | some o =>
  have e:=KX a o hk
  rw [ha] at e
  cases e
  refine core (fun _=>none) (fun _=>.inl rfl) (.inr ⟨_,vs.toArray,_,hk,rfl,rfl,rfl,by rw [List.size_toArray,lenV];exact hl,by simpa using rv⟩) (fun b u z=>by have z':(none:Option HO)=some u:=z;cases z') (fun b z=>absurd rfl z) fun z=>absurd rfl z
 | none =>
  refine core (fun b=>if b=a then some (.frz { cls:=.type "list",data:=.seq vs.toArray } (.lst (ns.map V.int))) else none) (fun b=>?_) (.inl (.inr ⟨{ cls:=.type "list",data:=.seq vs.toArray },if_pos rfl⟩)) (fun b u z=>?_) (fun b z=>?_) fun _=>hk
  ·by_cases hb:b=a
   ·exact .inr ⟨_,_,if_pos hb⟩
   ·exact .inl (if_neg hb)
  ·by_cases hb:b=a
   ·have z':=(if_pos hb).symm.trans z
    cases z'
    subst hb
    exact⟨ha,by rw [List.length_map];exact hl,vs,_,rv,ha⟩
   ·have z':=(if_neg hb).symm.trans z
    cases z'
  ·by_cases hb:b=a
   ·exact hb
   ·exact absurd (if_neg hb) z
def inClass (s:Stmt)(j:Nat):Stmt:=match s with
 | .ClassDef _ _ _ body _ _ _ _ _ _ _=>body.getD j (.Pass ⟨0,0,0,0⟩)
 | _=>.Pass ⟨0,0,0,0⟩
def za9 (s:Stmt):Arguments:=match s with
 | .FunctionDef _ a _ _ _ _ _ _ _ _=>a
 | _=>{ posonlyargs:=[],args:=[],vararg:=none,kwonlyargs:=[],kw_defaults:=[],kwarg:=none,defaults:=[] }
def zaD (s:Stmt):List Stmt:=match s with
 | .FunctionDef _ _ b _ _ _ _ _ _ _=>b
 | _=>[]
def zK (s:Stmt):Scope:=match s with
 | .FunctionDef _ _ _ _ _ _ sc _ _ _=>sc
 | _=>{ kind:=.function,names:=[],isGenerator:=false,isCoroutine:=false }
abbrev CX0:CXT:=fun _ _ _ _ _ _=>False
abbrev E0:XK:=fun _ _ _=>False
theorem zmx {X:Cx}:Passes CX0 X E0:=fun _ _ _ _ _ _ _ h=>h.elim
structure Fun (K:PySem.W.Frag)(x qual:Str)(st:Stmt)(f:Addr)(fd:FuncData):Prop where
 ex:∃ (oc:Value) (od:Option Addr) (kV doc pm:Value) (an:Option Addr) (cdv ct:Value) (osl:Array (Option Value)),
  fd=PySem.W.fnOf x qual (za9 st) (zaD st) (zK st) .none kV doc pm an cdv ct/\K.lookup f=some ⟨oc,od,.func fd,osl⟩/\PySem.W.codeIn K cdv qual=true
 kp:PySem.W.keepIn K (.ref f)=true
section
variable {P:Program}{w:World}{K:PySem.W.Frag}{mg:Str->Option Value}{base:Heap}
theorem Fun.ok {x qual:Str}{st:Stmt}{f:Addr}{fd:FuncData}{N ps:List Str}{k:Nat}{sp:Sp}(F:Fun K x qual st f fd)(S:zT N ps (zK st))(len:∀ vs H Q E,sp vs H Q E->vs.length=ps.length)
  (hbody:∀ (cdv:Value) (A:Around) (outer:List Env) (s:Shared) (H:Hp) (vs:List V) (Q:VK) (E:XK),zap k (A.deeper (envOfC qual (zK st) s.heap.objs.size f cdv))->sp vs H Q E ->
   ∃ t,PSs (zd5 CX0 P w K mg base N qual (zK st) f cdv A outer s H E).nox (zaD st) t/\t { nx:=fun _ H'=>Q .non H',rt:=Q } (start N vs) H):zY P w K mg base CX0 (k+1) f fd ps sp:=by
 obtain⟨oc,od,kV,doc,pm,an,cdv,ct,osl,rfl,lk,hcd⟩:=F.ex
 refine zmr lk hcd S len fun A outer s H vs Q E hr hsp=>?_
 obtain⟨t,h,q⟩:=hbody cdv A outer s H vs Q E hr hsp
 exact⟨t,h.nox,q⟩
theorem Fun.binds {x qual:Str}{st:Stmt}{f:Addr}{fd:FuncData}{ps:List Str}(F:Fun K x qual st f fd)
  (h:∀ (kV doc pm:Value) (an:Option Addr) (cdv ct:Value) (us:List Value),us.length=ps.length->bindArgs (PySem.W.fnOf x qual (za9 st) (zaD st) (zK st) .none kV doc pm an cdv ct) ⟨us,[]⟩=pure (ps.zip us)):Binds K fd ps []:=by
 obtain⟨oc,od,kV,doc,pm,an,cdv,ct,osl,rfl,lk,hcd⟩:=F.ex
 exact .all (h kV doc pm an cdv ct)
theorem zgB {x qual:Str}{st:Stmt}{f:Addr}{oc:Value}{od an:Option Addr}{osl:Array (Option Value)}{kV doc pm cdv ct:Value}(l:K.lookup f=some ⟨oc,od,.func (PySem.W.fnOf x qual (za9 st) (zaD st) (zK st) .none kV doc pm an cdv ct),osl⟩)
  (c:PySem.W.codeIn K cdv qual=true) (k:PySem.W.keepIn K (.ref f)=true):Fun K x qual st f (PySem.W.fnOf x qual (za9 st) (zaD st) (zK st) .none kV doc pm an cdv ct):=⟨⟨oc,od,kV,doc,pm,an,cdv,ct,osl,rfl,l,c⟩,k⟩
end
section
variable {X:Cx}
theorem pv (i:Nat){x:Str}{pos:Pos}(hN:X.N[i]?=some x:=by rfl)(hv:Vis X.env.scope x:=by first | exact Or.inl rfl | exact Or.inr (Or.inl rfl) | exact Or.inr (Or.inr rfl))(hd:(x==("__debug__":Str))=false:=by decide)
  (hcd:(x==("__classdict__":Str))=false:=by decide):PE X (.Name x pos) (zlP i):=zkz hN hv hd hcd
end
section
variable {κ:Type}[DecidableEq κ]
end
section
variable {P:Program}{w:World}{H:Hp}{h:Heap}{a:Addr}
end
section
variable {X:Cx}{pins:List (Addr×Obj)}{σ:St}{H:Hp}{s:Shared}{a:Addr}{y v:V}{u r:Value}{o:Option V}{A:Around}{E:Value->Shared->Prop}
end
section
variable {X:Cx}{pins:List (Addr×Obj)}{σ:St}{H:Hp}{s:Shared}{a:Addr}{kvs:List (Key×V)}{k:Key}{u:Value}{A:Around}{E:Value->Shared->Prop}
end
section
variable {X:Cx}{o i e value:Expr}{pos pos' tpos:Pos}{td ty tv:TE}
end
section
variable {X:Cx}{pos:Pos}
end
section
variable {X:Cx}{pins:List (Addr×Obj)}{σ:St}{H:Hp}{s:Shared}{a:Addr}{y d:V}{u r:Value}{o:Option V}{A:Around}{E:Value->Shared->Prop}
end
section
variable {X:Cx}{o e f:Expr}{apos cpos:Pos}{td ty tx:TE}
end
section
variable {X:Cx}{pins:List (Addr×Obj)}{σ:St}{H:Hp}{s:Shared}{a:Addr}{kvs:List (Key×V)}{A:Around}{E:Value->Shared->Prop}
end
section
variable {X:Cx}{pins:List (Addr×Obj)}{σ:St}{H:Hp}{s:Shared}{a:Addr}{y:V}{u:Value}{A:Around}{E:Value->Shared->Prop}
end
end L2
namespace My
def Bd (n:Nat)(x:Int):Prop:=x.natAbs<2 ^ n
theorem Bd.mono {m n:Nat}{x:Int}(h:Bd m x)(hmn:m<=n):Bd n x:=Nat.lt_of_lt_of_le h (Nat.pow_le_pow_right (by decide) hmn)
theorem Bd.add {n:Nat}{x y:Int}(h:Bd n x)(h':Bd n y):Bd (n+1) (x+y):=by
 unfold Bd at *;rw [Nat.pow_succ];omega
theorem Bd.sub {n:Nat}{x y:Int}(h:Bd n x)(h':Bd n y):Bd (n+1) (x-y):=by
 unfold Bd at *;rw [Nat.pow_succ];omega
theorem Bd.mul {m n:Nat}{x y:Int}(h:Bd m x)(h':Bd n y):Bd (m+n) (x*y):=by
 unfold Bd at *;rw [Int.natAbs_mul,Nat.pow_add];exact Nat.mul_lt_mul'' h h'
theorem Bd.of_le {n:Nat}{x y:Int}(h:Bd n y)(h':x.natAbs<=y.natAbs):Bd n x:=Nat.lt_of_le_of_lt h' h
theorem Bd.dvd {n:Nat}{x y:Int}(h:Bd n y)(h0:y≠0)(d:x ∣ y):Bd n x :=
 h.of_le (Nat.le_of_dvd (by omega) (Int.natAbs_dvd_natAbs.mpr d))
theorem Bd.fdiv {n:Nat}{x y:Int}(h:Bd n x):Bd n (x.fdiv y):=h.of_le (Int.natAbs_fdiv_le_natAbs x y)
theorem Bd.lit {n:Nat}{x:Int}(h:x.natAbs<2 ^ 200)(hn:200<=n):Bd n x:=Bd.mono (m:=200) h hn
theorem Bd.emod {n:Nat}{x m:Int}(h0:0<m)(h:Bd n m):Bd n (x%m):=by
 have h1:=Int.emod_nonneg x (Int.ne_of_gt h0)
 have h2:=Int.emod_lt_of_pos x h0
 exact h.of_le (by omega)
theorem zlR (a b:Int):Int.gcd b (a.fmod b)=Int.gcd a b:=by
 have e:a.fmod b=a-b*a.fdiv b:=by have:=Int.mul_fdiv_add_fmod a b;omega
 rw [e,Int.gcd_sub_mul_left_right,Int.gcd_comm]
theorem zi7 {a b:Int}(h:b≠0):(a.fmod b).natAbs<b.natAbs:=by
 rcases Int.lt_or_gt_of_ne h with h1 | h1
 ·have e:(-(-a)).fmod (-(-b))=-((-a).fmod (-b)):=Int.neg_fmod_neg (-a) (-b)
  rw [Int.neg_neg,Int.neg_neg] at e
  have h2:=Int.fmod_nonneg_of_pos (-a) (b:=-b) (by omega)
  have h3:=Int.fmod_lt_of_pos (-a) (b:=-b) (by omega)
  omega
 ·have:=Int.fmod_nonneg_of_pos a h1
  have:=Int.fmod_lt_of_pos a h1
  omega
def gd (t b:Int):Int:=if b<0 then -((Int.gcd t b:Nat):Int) else ((Int.gcd t b:Nat):Int)
def frT (t b:Int):Int:=t.fdiv (gd t b)
def frB (t b:Int):Int:=b.fdiv (gd t b)
theorem zmk {t b:Int}(h:b≠0):gd t b≠0:=by
  have:Int.gcd t b≠0:=fun e=>h (Int.gcd_eq_zero_iff.mp e).2
  unfold gd;split<;>omega
theorem ziW (t b:Int):gd t b ∣ t:=by
 unfold gd;split
 ·exact Int.neg_dvd.mpr (Int.gcd_dvd_left ..)
 ·exact Int.gcd_dvd_left ..
theorem zfg (t b:Int):gd t b ∣ b:=by
 unfold gd;split
 ·exact Int.neg_dvd.mpr (Int.gcd_dvd_right ..)
 ·exact Int.gcd_dvd_right ..
theorem zjo (t b:Int):frT t b*gd t b=t:=Int.fdiv_mul_cancel (ziW t b)
theorem zgV (t b:Int):frB t b*gd t b=b:=Int.fdiv_mul_cancel (zfg t b)
theorem zlL (t b:Int):frT t b*b=frB t b*t:=by
 have h1:=zjo t b
 have h2:=zgV t b
 generalize frT t b=x at *
 generalize frB t b=y at *
 generalize gd t b=g at *
 subst h1 h2
 rw [Int.mul_comm y g,<- Int.mul_assoc,Int.mul_comm (x*g) y]
theorem zm6 {t b:Int}(h:b≠0):1<=frB t b:=by
  have h2:=zgV t b
  have h3:gd t b≠0:=zmk h
  have h4:0<b->0<gd t b:=by
    intro hb;unfold gd at *;split<;>omega
  have h5:b<0->gd t b<0:=by
    intro hb;unfold gd at *;split<;>omega
  generalize frB t b=y at *
  generalize gd t b=g at *
  rcases Int.lt_or_gt_of_ne h with hb | hb
  · have hg:=h5 hb
    rcases Int.lt_or_le y 1 with hy | hy
    · have:0<=y*g:=Int.mul_nonneg_of_nonpos_of_nonpos (by omega) (by omega)
      omega
    · exact hy
  · have hg:=h4 hb
    rcases Int.lt_or_le y 1 with hy | hy
    · have:y*g<=0:=Int.mul_nonpos_of_nonpos_of_nonneg (by omega) (by omega)
      omega
    · exact hy
theorem zoa {t b:Int}(h:b≠0):Int.gcd (frT t b) (frB t b)=1:=by
  have h0:0<Int.gcd t b:=Nat.pos_of_ne_zero fun e=>h (Int.gcd_eq_zero_iff.mp e).2
  have h1:=zjo t b
  have h2:=zgV t b
  have e:Int.gcd (frT t b*gd t b) (frB t b*gd t b)=Int.gcd (frT t b) (frB t b)*(gd t b).natAbs:=Int.gcd_mul_right ..
  rw [h1,h2] at e
  have e2:(gd t b).natAbs=Int.gcd t b:=by unfold gd;split<;>omega
  rw [e2] at e
  exact Nat.eq_of_mul_eq_mul_right h0 (by omega)
theorem zp1 {n:Nat}{t b:Int}(h:b≠0)(hb:Bd n b):Bd n (gd t b):=hb.dvd h (zfg t b)
theorem znW {n:Nat}{t b:Int}(hb:Bd n b):Bd n (frB t b):=hb.fdiv
theorem zn8 {n:Nat}{t b:Int}(hb:Bd n t):Bd n (frT t b):=hb.fdiv
open PySem PySem.Spec PyProof.Rows L2
def zpG (_ j:Int):Prop:=j≠0/\Bd 8000 j
def zp2 (_ j:Int):Prop:=j≠0
theorem zgu {j:Int}(h:Bd 8000 j):j.natAbs.log2<9000:=by
 rcases Nat.eq_zero_or_pos j.natAbs with e | e
 ·rw [e];decide
 ·have:j.natAbs.log2<8000:=(Nat.log2_lt (Nat.ne_of_gt e)).mpr h
  omega
theorem zgz {j:Int}(h:Bd 8000 j):Builtin.Int.intBits j<=2 ^ 20:=by
 unfold Builtin.Int.intBits
 split
 ·exact Nat.zero_le _
 ·have:=zgu h
  omega
section
variable {X:Cx}
theorem zlh:OpR X (binaryOp .FloorDiv) (rI zpG fun i j=>.int (i.fdiv j)):=opI fun _ _ _ _ _ _ _ hc q=>floordiv_int hc.1 q (.inl (PyProof.noPylong_of_log2 (zgu hc.2)))
theorem zmS:OpR X (binaryOp .Mod) (rI zp2 fun i j=>.int (i.fmod j)):=znt
def rB0 (g:Bool->Bool->V):R2:=fun x y H Q=>∃ i j,x=.bl i/\y=.bl j/\Q (g i j) H
theorem znC {i j:Int}{a b:Nat}{p1 p2 pos:Pos}(c:Int)(h:i ^ j.toNat=c)(h0:0<=j/\j<=1000000/\i.natAbs<2 ^ 64):PE X (.BinOp (.Constant (.int i) a p1) .Pow (.Constant (.int j) b p2) pos) (tC (.int c)):=by
 intro pins s σ H Q I q
 have q':Q (.int c) H:=q
 rw [<- h] at q'
 exact zmz zpt zie zie pins s σ H Q I ⟨i,j,rfl,rfl,h0,q'⟩
def zri:List V->Hp->VK->Prop:=fun xs H Q=>∃ i,xs=[.int i]/\Q (.int (i.natAbs:Int)) H
theorem zkG:za5 X (.builtin "abs") zri:=fun pins s σ H xs us Q I r h=>by
  obtain⟨i,e,q⟩:=h
  refine zl7 pins s σ H xs us Q I r ⟨i,e,?_⟩
  have:(if i<0 then -i else i)=(i.natAbs:Int):=by split<;>omega
  rw [this];exact q
def zrp (K:PySem.W.Frag):List V->Hp->VK->Prop:=fun xs H Q=>∃ p ys,xs=[.ref p]/\(SqL K H p ys\/SqT K H p ys)/\Q (.int ys.length) H
theorem zk3:za5 X (.builtin "len") (zrp X.K):=ziG
def zp7 (K:PySem.W.Frag):List V->Hp->VK->Prop:=fun xs H Q=>∃ p ys,xs=[.ref p]/\(SqL K H p ys\/SqT K H p ys)/\∀ l,H l=none->Q (.ref l) (upd H l (.lst ys))
theorem zkl:za5 X (.type "list") (zp7 X.K):=zig
def zqW:List V->Hp->VK->Prop:=fun xs H Q=>(∃ i,xs=[.int i]/\Q (.int i) H)\/∃ k,xs=[.bl k]/\Q (.int (if k then 1 else 0)) H
theorem zlb:za5 X (.type "int") zqW:=zlg
theorem zp6 {x:Str}{T:String}{pos:Pos}(hg:Gl X x)(hm:X.mg x=none)(hv:bootBuiltins x=some (.type T))(hn:x≠"__name__":=by decide)(hd:(x==("__debug__":Str))=false:=by decide):PE X (.Name x pos) (tC (.ty T)):=znJ (v:=.ty T) hg hm hv rfl hn hd
def zrj (K:PySem.W.Frag):List V->Hp->VK->Prop:=fun xs H Q=>∃ x c t b,xs=[x,.ty c]/\zcW K H x t/\PySem.W.kitOne K t (.type c)=some b/\Q (.bl b) H
theorem zlZ:za5 X (.builtin "isinstance") (zrj X.K):=fun pins s σ H xs us Q I r h=>by
 obtain⟨x,c,t,b,rfl,ty,e,q⟩:=h
 obtain⟨u,w',rfl,ru,rw'⟩:=vals2 r
 cases rw'
 exact zkv I ru ty e fun tk=>⟨.bl b,H,I.tok _,rfl,q⟩
end
section
variable {X:Cx}{K:PySem.W.Frag}
end
structure Got (P:Program)(w:World)(K:PySem.W.Frag)(mg:Str->Option Value)(base:Heap)(k:Nat)(x:Str)(ps:List Str)(sp:Sp):Prop where
 ex:∃ f fd,zY P w K mg base CX0 k f fd ps sp/\Binds K fd ps []/\PySem.W.keepIn K (.ref f)=true/\mg x=some (.ref f)
theorem zob {X:Cx}{k j:Nat}{x:Str}{ps:List Str}{sp:Sp}{p pos:Pos}{e:Expr}{es:List Expr}{t:TA}(G:Got X.prog X.w X.K X.mg X.base k x ps sp)(hr:zap j X.A)(hk:k<=j)(hg:Gl X x)
  (ha:PA X (e::es) t) (hdb:(x==("__debug__":Str))=false:=by decide) (he:starEach (e::es) X.env=(false,eval e X.env)::starEach es X.env:=by rfl) (hpl:(backTo pos (starEach es X.env)).any (·.1)=false:=by rfl) :
  PE X (.Call (.Name x p) (e::es) [] pos) (zjN sp [] E0 t):=by
 intro pins s σ H Q I h
 obtain⟨f,fd,F,b,kp,m⟩:=G.ex
 exact zmT (F.mono hk) hr hg m kp b .nil zmx ha hdb he hpl pins s σ H Q I h
section
variable {nx:L2.St->Hp->Prop}{rt:VK}{bk ct:L2.St->Hp->Prop}{σ:L2.St}{H:Hp}{K:PySem.W.Frag}
end
section
variable {σ:L2.St}{H:Hp}{K:PySem.W.Frag}
def zqf:R2:=fun x y H Q=>y=.non/\Q (.bl (!decide (x=.non))) H
theorem zoY {X:Cx}:OpR X (compareOp .IsNot) zqf:=znu
end
theorem zdw {H:Hp}{p b:Addr}{o u:HO}(hp:H p=none)(h:H b=some u):upd H p o b=some u:=by
 rw [zW (zaW h hp)];exact h
theorem ziV {prog:Program}{w:World}{A:Around}{R:Result->Shared->Prop}{s:Shared}{elt target iter:Expr}{ifs:List Expr}{scope:Scope}{pos:Pos}{it acc:Value}{env:Env}(I:Nat->Shared->Prop)
  (turn:∀ n s,I n s->wpAny (model prog w) A (pyNext it) (fun r s₁=>match r with
   | none=>R (.ok .next) s₁
   | some v=>wpAny (model prog w) A (letOwnedTupleGo target it v) (fun _ s₁'=>wpAny (model prog w) A (assign target env v) (fun _ s₂ =>
     wpAny (model prog w) A (forIn ifs true fun c r=>if r=true then do let ok <- isTrue c env (eval c env);pure (ForInStep.yield ok) else pure (ForInStep.yield r)) (fun ok s₃ =>
      if ok=true then wpAny (model prog w) A (eval elt env) (fun x s₄ =>
       wpAny (model prog w) A (call (.builtin "list.append") [acc,x]) (fun _ s₅=>∃ m,m<n/\I m s₅) (fun _ _=>False) s₄) (fun _ _=>False) s₃
      else ∃ m,m<n/\I m s₃) (fun _ _=>False) s₂) (fun _ _=>False) s₁') (fun _ _=>False) s₁) (fun _ _=>False) s)
  (n:Nat) (h:I n s):codeAny (model prog w) A (.compLoop (.ListComp elt [⟨target,iter,ifs,0⟩] scope pos) 0 it acc env) R s:=by
 refine codeAny_loop rfl I (fun n s hI=>?_) n h
 show wpAny _ A ((compTurn (.ListComp elt [⟨target,iter,ifs,0⟩] scope pos) 0 it acc env).onRaise (fun x=>do noteFrame x env;theTreesLotGoes x)) _ _ s
 refine wpAny_noted ?_
 rw [compTurn_list]
 refine wpAny_bind (wpAny_standAt (wpAny_bind (wpAny_mono (turn n s hI) (fun r s₁ h₁=>?_) fun _ _ h'=>h'.elim)))
 cases r with
 | none=>exact wpAny_pure h₁
 | some v =>
  refine wpAny_bind (wpAny_mono h₁ (fun _ s₁' h₁'=>?_) fun _ _ h'=>h'.elim)
  refine wpAny_bind (wpAny_mono h₁' (fun _ s₂ h₂=>wpAny_bind (wpAny_mono h₂ (fun ok s₃ h₃=>?_) fun _ _ h'=>h'.elim)) fun _ _ h'=>h'.elim)
  cases ok with
  | false=>exact wpAny_pure ⟨rfl,h₃⟩
  | true =>
   exact wpAny_bind (wpAny_bind (wpAny_mono h₃ (fun x s₄ h₄=>wpAny_bind (wpAny_mono h₄ (fun _ s₅ h₅=>wpAny_pure (wpAny_pure ⟨rfl,h₅⟩)) fun _ _ h'=>h'.elim)) fun _ _ h'=>h'.elim))
def inner (X:Cx)(sc:Scope)(N:List Str)(cl:List (Str×Addr))(C:Addr)(s₀:Shared)(H₀:Hp)(ex:List Addr):Cx :=
  { X with N:=N,s₀:=s₀,H₀:=H₀,env:=compEnvC sc cl C X.env,outer:=X.stack,ex:=ex,fn:=fun _=>false,pn:=[] }
def PFs (X:Cx)(ifs:List Expr)(t:TT):Prop :=
 ∀ (pins:List (Addr×Obj)) (s:Shared) (σ:L2.St) (H:Hp) (Q:Bool->Hp->Prop),Inv X pins σ H s->t σ H Q ->
  wpAny (model X.prog X.w) X.A (forIn ifs true fun c r=>if r=true then do let ok <- isTrue c X.env (eval c X.env);pure (ForInStep.yield ok) else pure (ForInStep.yield r)) (TP X pins σ Q) X.xe s
def zqB:TT:=fun _ H Q=>Q true H
theorem zn3 {X:Cx}:PFs X [] zqB:=fun _ _ _ H _ I h=>wpAny_tests_nil ⟨H,I,h⟩
theorem zoo {X:Cx}{c:Expr}{t:TT}(h:PT X c t):PFs X [c] t:=fun pins s σ H Q I q=>wpAny_tests_one (h pins s σ H Q I q)
def zfq (X:Cx)(sc:Scope):List Str->List Nat->Prop
 | [],[]=>True
 | x::xs,j::js=>X.N[j]?=some x/\sc.names.lookup x=some .free/\X.env.kindOf x=some .cell/\zfq X sc xs js
 | _,_=>False
def zda (P:Str->Prop):List (Str×NameKind)->Prop
 | []=>True
 | (n,.free)::r=>P n/\zda P r
 | _::r=>zda P r
theorem zda.of {P:Str->Prop}:∀ {l:List (Str×NameKind)},zda P l->∀ y∈l,y.2=.free->P y.1
  | (n,k)::r,h,y,hy,e=>by
    rcases List.mem_cons.mp hy with rfl | hy
    · dsimp only at e;subst e;exact h.1
    · refine zda.of (l:=r) ?_ y hy e
      cases k<;>first | exact h.2 | exact h
def cst (own:List Str)(fv:List Nat)(σ:L2.St):L2.St:=List.replicate own.length none++fv.map fun j=>(σ[j]?).join
def Agr:L2.St->L2.St->Prop
 | [],[]=>True
 | none::r,_::s=>Agr r s
 | some v::r,some w::s=>v=w/\Agr r s
 | _,_=>False
theorem Agr.len:∀ {a b:L2.St},Agr a b->b.length=a.length
  | [],[],_=>rfl
  | none::r,_::s,h=>congrArg (· + 1) (Agr.len (a:=r) (b:=s) h)
  | some v::r,some w::s,h=>congrArg (· + 1) (Agr.len (a:=r) (b:=s) h.2)
theorem Agr.get:∀ {a b:L2.St},Agr a b->∀ (i:Nat) (v:V),a[i]?=some (some v)->b[i]?=some (some v)
 | none::r,_::s,h,i,v,e=>by
  cases i with
  | zero=>simp at e
  | succ i=>simpa using Agr.get (a:=r) (b:=s) h i v (by simpa using e)
 | some v'::r,some w::s,h,i,v,e=>by
  cases i with
  | zero=>simp at e;subst e;simp [h.1]
  | succ i=>simpa using Agr.get (a:=r) (b:=s) h.2 i v (by simpa using e)
def tLC (own:List Str)(fv:List Nat)(wi:TI)(g:TG)(tc:TT)(te:TE):TE:=fun σ H Q=>wi σ H fun J H1=>∀ p,H1 p=none ->
 ∃ W:Nat->Nat->Hp->Prop,(∃ m,W 0 m (upd H1 p (.lst [])))/\∀ i m H2,W i m H2 ->
  (J.stop i H2/\Q (.ref p) H2)\/(J.go i H2/\∀ x H',J.yld i H2 x H'->g x (cst own fv σ) H' fun σ2 H3=>Agr (cst own fv σ) σ2/\tc σ2 H3 fun b H4 =>
   if b=true then te σ2 H4 fun y H5=>∃ ys,H5 p=some (.lst ys)/\ys.length<sizeLine/\∃ m',m'<m/\W (i+1) m' (upd H5 p (.lst (ys++[y])))
   else ∃ m',m'<m/\W (i+1) m' H4)
theorem zi2 {env:Env}{n:Str}{c:Addr}(h:env.cells.lookup n=some c):cellOf env n=pure c:=by
 unfold cellOf;rw [h]
theorem zeM {env:Env}:∀ (names:List (Str×NameKind)) (cs:List (Str×Addr)),(∀ y∈names,y.2=.free->∃ c,env.cells.lookup y.1=some c)->(∀ x c,cs.lookup x=some c->env.cells.lookup x=some c) ->
    ∃ cl,(forIn names cs fun (x:Str×NameKind) (r:List (Str×Addr))=>if (x.2==NameKind.free)=true then do let a <- cellOf env x.1;pure (ForInStep.yield ((x.1,a)::r)) else pure (ForInStep.yield r))=(pure cl:Sem (List (Str×Addr))) /\
      (∀ x c,cl.lookup x=some c->env.cells.lookup x=some c)/\(∀ x,(cs.lookup x).isSome=true->(cl.lookup x).isSome=true)/\∀ y∈names,y.2=.free->(cl.lookup y.1).isSome=true
  | [],cs,_,h2=>⟨cs,rfl,h2,fun _ h=>h,fun _ h=>nomatch h⟩
  | (n,k)::r,cs,h1,h2=>by
    rw [List.forIn_cons]
    by_cases hk:k=.free
    · subst hk
      obtain⟨c,hc⟩:=h1 (n,.free) List.mem_cons_self rfl
      obtain⟨cl,e,a1,a2,a3⟩:=zeM (env:=env) r ((n,c)::cs) (fun y hy=>h1 y (List.mem_cons_of_mem _ hy)) (fun x d hx=>by
        rw [List.lookup_cons] at hx
        by_cases hxn:x=n
        · subst hxn;simp at hx;subst hx;exact hc
        · have:(x==n)=false:=by simpa using hxn
          rw [this] at hx;exact h2 x d hx)
      refine⟨cl,?_,a1,fun x hx=>a2 x ?_,fun y hy e'=>?_⟩
      · simp only [beq_self_eq_true,if_true,zi2 hc]
        simpa using e
      · rw [List.lookup_cons];split<;>simp_all
      · rcases List.mem_cons.mp hy with rfl | hy
        · exact a2 _ (by simp [List.lookup_cons])
        · exact a3 y hy e'
    · have hb:(k==NameKind.free)=false:=by simpa using hk
      obtain⟨cl,e,a1,a2,a3⟩:=zeM (env:=env) r cs (fun y hy=>h1 y (List.mem_cons_of_mem _ hy)) h2
      refine⟨cl,?_,a1,a2,fun y hy e'=>?_⟩
      · simp only [hb,Bool.false_eq_true,if_false]
        simpa using e
      · rcases List.mem_cons.mp hy with rfl | hy
        · exact absurd e' hk
        · exact a3 y hy e'
theorem zgq {env:Env}{sc:Scope}(h:∀ y∈sc.names,y.2=.free->∃ c,env.cells.lookup y.1=some c) :
  ∃ cl,closureFor sc env=pure cl/\(∀ x c,cl.lookup x=some c->env.cells.lookup x=some c)/\∀ y∈sc.names,y.2=.free->(cl.lookup y.1).isSome=true:=by
 obtain⟨cl,e,a1,_,a3⟩:=zeM (env:=env) sc.names [] h (fun x c hx=>by simp at hx)
 refine⟨cl,?_,a1,a3⟩
 unfold closureFor
 have e2:=e
 first
  | exact e2
  | (show (do let cs <- forIn sc.names [] _;pure cs)=_;rw [show (forIn sc.names [] _:Sem (List (Str×Addr)))=pure cl from e2];rfl)
  | simpa using e2
theorem zc3 {env:Env}{x:Str}:∀ {names:List (Str×NameKind)},(names.map fun (n,k)=>if (k==NameKind.free&&env.scope.kind==.function&&env.kindOf n==some .cell) then (n,NameKind.cell) else (n,k)).lookup x =
    (names.lookup x).map fun k=>if (k==NameKind.free&&env.scope.kind==.function&&env.kindOf x==some .cell) then NameKind.cell else k
  | []=>rfl
  | (n,k)::r=>by
    have ih:=zc3 (env:=env) (x:=x) (names:=r)
    rw [List.map_cons]
    by_cases hx:x=n
    · subst hx
      dsimp only
      split<;>simp_all [List.lookup_cons]
    · have hb:(x==n)=false:=by simpa using hx
      dsimp only
      split<;>(rw [List.lookup_cons,List.lookup_cons,hb];exact ih)
theorem mem_of_lookup {β:Type}{x:Str}{k:β}:∀ {l:List (Str×β)},l.lookup x=some k->(x,k)∈l
 | (n,b)::r,h=>by
  rw [List.lookup_cons] at h
  by_cases hx:x=n
  ·subst hx;simp at h;subst h;exact List.mem_cons_self
  ·have hb:(x==n)=false:=by simpa using hx
   rw [hb] at h
   exact List.mem_cons_of_mem _ (mem_of_lookup h)
section
variable {X:Cx}{sc:Scope}{tg iter elt:Expr}{ifs:List Expr}{own free:List Str}{fv:List Nat}{wi:TI}{g:TG}{tc:TT}{te:TE}{pos:Pos}
theorem zml {σ:L2.St}:∀ {free:List Str} {fv:List Nat},zfq X sc free fv->∀ (k:Nat) (x:Str) (v:V),free[k]?=some x->(fv.map fun j=>(σ[j]?).join)[k]?=some (some v) ->
  ∃ j:Nat,X.N[j]?=some x/\σ[j]?=some (some v)/\sc.names.lookup x=some .free/\X.env.kindOf x=some .cell
 | x'::xs,j::js,h,k,x,v,e1,e2=>by
  cases k with
  | zero =>
   simp at e1 e2
   subst e1
   refine⟨j,h.1,?_,h.2.1,h.2.2.1⟩
   cases q:σ[j]? with
   | none=>rw [q] at e2;simp at e2
   | some o=>rw [q] at e2;simp at e2;rw [e2]
  | succ k=>exact zml (free:=xs) (fv:=js) h.2.2.2 k x v (by simpa using e1) (by simpa using e2)
 | [],[],_,k,x,v,e1,_=>by simp at e1
theorem zlc:∀ {free:List Str} {fv:List Nat},zfq X sc free fv->fv.length=free.length
  | [],[],_=>rfl
  | _::_,_::_,h=>congrArg (· + 1) (zlc h.2.2.2)
theorem zgn {RR:Value->Addr->Result->Shared->Prop}(hcalm:X.calm=true)(hxe:X.xe=fun _ _=>False)(hkind:sc.kind=.function)(hcell:∀ y∈sc.names,y.2≠.cell)
    (hfr:zda (fun x=>X.env.kindOf x=some .cell) sc.names) (hfv:zfq X sc free fv)
    (hg:∀ cl C s₀ H₀ ex,PG (inner X sc (own++free) cl C s₀ H₀ ex) tg g) (ht:∀ cl C s₀ H₀ ex,PFs (inner X sc (own++free) cl C s₀ H₀ ex) ifs tc) (he:∀ cl C s₀ H₀ ex,PE (inner X sc (own++free) cl C s₀ H₀ ex) elt te)
    {pins:List (Addr×Obj)} {s2:Shared} {σ:L2.St} {H2:Hp} {it:Addr} {fp:List Addr} {tn:Nat->Heap->Prop} {J:It} {Q:VK} (I2:Inv X pins σ H2 s2) (T:Turn X.prog X.w X.K tg J fp it tn) (st2:tn 0 s2.heap) (f2:∀ b∈fp,zeP X pins H2 b)
    (h:∀ p,H2 p=none->∃ W:Nat->Nat->Hp->Prop,(∃ m,W 0 m (upd H2 p (.lst [])))/\∀ i m H2,W i m H2 ->
      (J.stop i H2/\Q (.ref p) H2)\/(J.go i H2/\∀ x H',J.yld i H2 x H'->g x (cst own fv σ) H' fun σ2 H3=>Agr (cst own fv σ) σ2/\tc σ2 H3 fun b H4 =>
        if b=true then te σ2 H4 fun y H5=>∃ ys,H5 p=some (.lst ys)/\ys.length<sizeLine/\∃ m',m'<m/\W (i+1) m' (upd H5 p (.lst (ys++[y])))
        else ∃ m',m'<m/\W (i+1) m' H4))
    {cl:List (Str×Addr)} (hcl1:∀ x c,cl.lookup x=some c->X.env.cells.lookup x=some c) (hcl2:∀ y∈sc.names,y.2=.free->(cl.lookup y.1).isSome=true)
    (hRR:∀ (p C:Addr) (m:Str->Option Value) (H':Hp) (s':Shared),s'.heap.Ns C m->Inv X pins σ H' s'->H' C=none->C≠X.env.locals->X.s₀.heap.objs.size<=C->(∀ x c,X.env.cells.lookup x=some c->c≠C)->(∀ q∈X.pn++pins,q.1≠C)->Q (.ref p) H' ->
      RR (.ref p) C (.ok .next) s') :
    wpAny (model X.prog X.w) X.A (newList []) (fun acc s3=>wpAny (model X.prog X.w) X.A (newFunctionEnv sc X.env.globals cl [] X.env.qual none .none (some X.env)) (fun cenv s4 =>
      codeAny (model X.prog X.w) X.A (.compStart (.ListComp elt [⟨tg,iter,ifs,0⟩] sc pos) 0 (.ref it) acc { cenv with scope:=relabel sc X.env }) (RR acc cenv.locals) s4) X.xe s3) X.xe s2:=by
  rw [hxe]
  refine wpAny_newObj_type ?_
  have I3:Inv X pins σ (upd H2 s2.heap.objs.size (.lst [])) { s2 with heap:=s2.heap.push { cls:=.type "list",data:=.seq ([]:List Value).toArray } }:=I2.lnew (t':=s2.toks) .nil (Nat.zero_le _)
  generalize hs3:({ s2 with heap:=s2.heap.push { cls:=.type "list",data:=.seq ([]:List Value).toArray } }:Shared)=s3 at I3 ⊢
  have hp:H2 s2.heap.objs.size=none:=I2.fresh
  obtain⟨W,⟨m0,w0⟩,turn⟩:=h s2.heap.objs.size hp
  generalize hH3:upd H2 s2.heap.objs.size (.lst [])=H3 at I3 w0 ⊢
  have hk3:∀ b o,s2.heap.get? b=some o->s3.heap.get? b=some o:=fun b o e=>by rw [<- hs3];exact Heap.get?_push_of_some _ e
  have hz3:s3.heap.objs.size=s2.heap.objs.size+1:=by rw [<- hs3];exact Heap.size_push ..
  have st3:tn 0 s3.heap:=T.keep _ _ _ st2 fun b _ o e=>hk3 b o e
  have hfpo:∀ b∈fp,∃ o,s3.heap.get? b=some o:=fun b hb=>let ⟨o,e,_⟩:=T.obj _ _ st3 b hb;⟨o,e⟩
  have hfpn:∀ b∈fp,b≠s2.heap.objs.size:=fun b hb e=>by
    obtain⟨o,e',_⟩:=T.obj _ _ st2 b hb
    have:=Heap.lt_size e'
    rw [e] at this;exact Nat.lt_irrefl _ this
  have f3:∀ b∈fp,H3 b=none:=fun b hb=>by rw [<- hH3,zW (hfpn b hb)];exact (f2 b hb).1
  refine wpAny_newFunctionEnv hcell (by intro y hy;simp at hy) (fun h1 hns1 hsb1=>?_) hkind
  have hC0:H3 s3.heap.objs.size=none:=I3.fresh
  have old:∀ b o,s3.heap.get? b=some o->h1.get? b=some o:=fun b o e=>hsb1.extBut b o (Nat.ne_of_lt (Heap.lt_size e)) (Heap.get?_push_of_some _ e)
  have hlow:X.s₀.heap.objs.size<=s3.heap.objs.size:=I3.sz
  have hloc:X.env.locals<s3.heap.objs.size:=I3.lt
  have hcells:∀ x c,X.env.cells.lookup x=some c->c<s3.heap.objs.size:=fun x c e=>by
    obtain⟨v,o,ho,_⟩:=I3.cell x c e
    exact Heap.lt_size ho
  have YOk:(inner X sc (own++free) cl s3.heap.objs.size s3 H3 fp).Ok:={
    mod:=I3.ok.mod
    kind:=by show (relabel sc X.env).kind=.function;exact hkind
    glob:=I3.ok.glob
    blt:=I3.ok.blt
    above:=Nat.le_refl _
    inj:=fun x y c hx hy=>I3.ok.inj x y c (hcl1 x c hx) (hcl1 y c hy)
    has:=fun x hx=>by
      have e : (sc.names.lookup x).map (fun k => if (k == NameKind.free && X.env.scope.kind == .function && X.env.kindOf x == some .cell) then NameKind.cell else k) = some .cell ∨
          (sc.names.lookup x).map (fun k=>if (k==NameKind.free&&X.env.scope.kind==.function&&X.env.kindOf x==some .cell) then NameKind.cell else k)=some .free:=by
        have:=@zc3 X.env x sc.names
        rcases hx with hx | hx
        · exact .inl (this.symm.trans hx)
        · exact .inr (this.symm.trans hx)
      cases q:sc.names.lookup x with
      | none=>rw [q] at e;simp at e
      | some k =>
        have hm:=mem_of_lookup q
        by_cases hkf:k=.free
        · subst hkf
          exact Option.isSome_iff_exists.mp (hcl2 (x,.free) hm rfl)
        · have hkc:k≠.cell:=hcell (x,k) hm
          rw [q] at e
          have hb:(k==NameKind.free)=false:=by simpa using hkf
          simp only [Option.map_some,hb,Bool.false_and,Bool.false_eq_true,if_false,Option.some.injEq] at e
          rcases e with e | e
          · exact absurd e hkc
          · exact absurd e hkf
    cab:=fun x c hx=>by cases hx
    hd:=I3.ok.hd
    frames:=I3.ok.frames
    stk:=.inl rfl
    exf:=fun b hb=>⟨fun e=>by obtain⟨o,e'⟩:=hfpo b hb;have:=Heap.lt_size e';rw [e] at this;exact Nat.lt_irrefl _ this,fun x c hx=>(f2 b hb).2.2.2.2.1 x c (hcl1 x c hx)⟩
    bs:=I3.bs
    bsz:=Nat.le_trans I3.ok.bsz I3.sz
    noex:=fun b o hb hm=>by
      rcases (f2 b hm).2.2.2.1 with hx | hx
      · exact I3.ok.noex b o hb hx
      · exact Nat.lt_irrefl _ (Nat.lt_of_lt_of_le (Nat.lt_of_lt_of_le (Heap.lt_size hb) I3.ok.bsz) hx)
    exfs:=fun b hb hm=>by
      rcases List.mem_cons.mp (I3.stkSub b hm) with e | e
      · exact (f2 b hb).2.1 e
      · exact (f2 b hb).2.2.1 e
    funs:=I3.stack
    frf:=I3.stkFree }
  have hlen0:(cst own fv σ).length=(own++free).length:=by
    unfold cst;rw [List.length_append,List.length_append,List.length_replicate,List.length_map,zlc hfv]
  have I4:∀ tk,Inv (inner X sc (own++free) cl s3.heap.objs.size s3 H3 fp) [] (cst own fv σ) H3 { s3 with heap:=h1,toks:=tk }:=fun tk=>{
    ok:=YOk
    os:=rfl
    bare:=I3.bare
    base:=Un.kept old
    loc:=by
      refine⟨_,hns1,fun i x v hN hσ _=>?_⟩
      have hN':(own++free)[i]?=some x:=hN
      have hσ':(List.replicate own.length none++fv.map fun j=>(σ[j]?).join)[i]?=some (some v):=hσ
      by_cases hi:i<own.length
      · rw [List.getElem?_append_left (by rw [List.length_replicate];exact hi)] at hσ'
        rw [List.getElem?_replicate] at hσ'
        split at hσ'<;>simp at hσ'
      · rw [List.getElem?_append_right (by omega)] at hN'
        rw [List.getElem?_append_right (by rw [List.length_replicate];omega),List.length_replicate] at hσ'
        obtain⟨j,hj,hσj,hsx,hkx⟩:=zml hfv _ x v hN' hσ'
        obtain⟨m,_,hall⟩:=I3.loc
        obtain⟨u,ru,lk⟩:=hall j x v hj hσj (.inr (.inl hkx))
        refine⟨u,ru,.inr ⟨?_,?_⟩⟩
        · have:=@zc3 X.env x sc.names
          rw [hsx] at this
          have e2:Env.kindOf (inner X sc (own++free) cl s3.heap.objs.size s3 H3 fp).env x=(sc.names.map fun (n,k)=>if (k==NameKind.free&&X.env.scope.kind==.function&&X.env.kindOf n==some .cell) then (n,NameKind.cell) else (n,k)).lookup x:=rfl
          rw [e2,this]
          simp only [Option.map_some]
          split
          · exact .inl rfl
          · exact .inr rfl
        · rcases lk with ⟨hl,_⟩ | ⟨_,c,hc,hcell'⟩
          · rw [hkx] at hl;cases hl
          · obtain⟨c',hc'⟩:=Option.isSome_iff_exists.mp (hcl2 (x,.free) (mem_of_lookup hsx) rfl)
            have:=hcl1 x c' hc'
            rw [hc] at this
            cases this
            refine⟨c,hc',?_⟩
            obtain⟨o,ho,hd⟩:=hcell'
            exact⟨o,old _ _ ho,hd⟩
    cell:=fun x c hx=>by
      obtain⟨v,o,ho,hd⟩:=I3.cell x c (hcl1 x c hx)
      exact⟨v,o,old _ _ ho,hd⟩
    free:=hC0
    freeC:=fun x c hx=>I3.freeC x c (hcl1 x c hx)
    pin:=fun q hq=>nomatch hq
    hok:=I3.hok.kept old
    len:=hlen0 }
  have back:∀ (m:Str->Option Value) (H':Hp) (s':Shared),s'.heap.Ns s3.heap.objs.size m->Inv (inner X sc (own++free) cl s3.heap.objs.size s3 H3 fp) [] (cst own fv σ) H' s'->Q (.ref s2.heap.objs.size) H'->RR (.ref s2.heap.objs.size) s3.heap.objs.size (.ok .next) s':=fun m H' s' hm IY q=>by
    have u1:Un (frs X.stack) fp H3 H' s3.heap s'.heap:=IY.base
    have IX:Inv X pins σ H' s':=I3.call' (ch:=fp) (IY.os) u1 IY.hok IY.bare fun b hb=>⟨(f2 b hb).2.2.2.1,(f2 b hb).2.1,(f2 b hb).2.2.2.2.1,(f2 b hb).2.2.2.2.2⟩
    refine hRR _ _ m H' s' hm IX IY.free (Nat.ne_of_gt hloc) hlow (fun x c hx=>Nat.ne_of_lt (hcells x c hx)) (fun q' hq=>?_) q
    have:=(I3.pin q' hq).1
    exact Nat.ne_of_lt (Heap.lt_size this)
  have stat:∀ {H':Hp},(∀ b∈fp,H' b=none)->∀ b∈fp,zeP (inner X sc (own++free) cl s3.heap.objs.size s3 H3 fp) [] H' b:=fun hn b hb =>
    ⟨hn b hb,(YOk.exf b hb).1,YOk.exfs b hb,.inl hb,(YOk.exf b hb).2,fun q hq=>nomatch hq⟩
  have hYxe:(inner X sc (own++free) cl s3.heap.objs.size s3 H3 fp).xe=fun _ _=>False:=hxe
  have loop:∀ tk,codeAny (model X.prog X.w) X.A (.compLoop (.ListComp elt [⟨tg,iter,ifs,0⟩] sc pos) 0 (.ref it) (.ref s2.heap.objs.size) (compEnvC sc cl s3.heap.objs.size X.env)) (RR (.ref s2.heap.objs.size) s3.heap.objs.size) { s3 with heap:=h1,toks:=tk }:=fun tk=>by
    refine ziV (fun n s'=>∃ i H',Inv (inner X sc (own++free) cl s3.heap.objs.size s3 H3 fp) [] (cst own fv σ) H' s'/\tn i s'.heap/\(∀ b∈fp,H' b=none)/\W i n H') ?_ m0 ⟨0,H3,I4 tk,T.keep _ _ _ st3 (fun b _ o e=>old b o e),f3,w0⟩
    rintro n s5 ⟨i,H5,I5,st5,fr5,w5⟩
    rcases turn i n H5 w5 with ⟨stop,q⟩ | ⟨go,step⟩
    · refine thn (T.done (inner X sc (own++free) cl s3.heap.objs.size s3 H3 fp) rfl rfl rfl hcalm i [] s5 _ H5 _ I5 (stat fr5) st5 stop) fun r s6 ⟨hr,I6⟩=>?_
      subst hr
      obtain⟨m,hm,_⟩:=I6.loc
      exact back m H5 s6 hm I6 q
    · refine thn (T.item (inner X sc (own++free) cl s3.heap.objs.size s3 H3 fp) rfl rfl rfl hcalm i [] s5 _ H5 _ I5 (stat fr5) st5 go) fun r s6 ⟨u,hr,h6⟩=>?_
      subst hr
      refine thn h6 fun _ s7 ⟨x,H7,I7,r7,y7,st7,fr7⟩=>?_
      have I7':=I7.pinned (stat fr7) (T.obj _ _ st7)
      have hg':=hg cl s3.heap.objs.size s3 H3 fp _ s7 _ H7 x u _ I7' r7 (step x H7 y7)
      have ht':=ht cl s3.heap.objs.size s3 H3 fp
      have he':=he cl s3.heap.objs.size s3 H3 fp
      have ap:MtM (inner X sc (own++free) cl s3.heap.objs.size s3 H3 fp) "list.append" zjp:=zhm
      unfold PFs at ht'
      unfold PE at he'
      unfold MtM at ap
      rw [hYxe] at hg' ht' he' ap
      have again : ∀ {pl : List (Addr × Obj)} {σ8 : L2.St} {H8 : Hp} {s8 : Shared}, pl = zfr fp s7.heap → Inv (inner X sc (own ++ free) cl s3.heap.objs.size s3 H3 fp) ([] ++ pl) σ8 H8 s8 → Agr (cst own fv σ) σ8 → (∃ m', m' < n ∧ W (i + 1) m' H8) →
          ∃ m,m<n/\∃ i H',Inv (inner X sc (own++free) cl s3.heap.objs.size s3 H3 fp) [] (cst own fv σ) H' s8/\tn i s8.heap/\(∀ b∈fp,H' b=none)/\W i m H':=fun {pl σ8 H8 s8} hpl I8 ag ⟨m',hm,w8⟩=>by
        subst hpl
        refine⟨m',hm,i+1,H8,(I8.unpinned).weak ag.len.symm (fun j v e=>ag.get j v e),T.keep _ _ _ st7 fun b hb o e=>(I8.pin (b,o) (List.mem_append_right _ (List.mem_append_right _ (zdz hb e)))).1,fun b hb=>?_,w8⟩
        obtain⟨o,e,d⟩:=T.obj _ _ st7 b hb
        exact (I8.pin (b,o) (List.mem_append_right _ (List.mem_append_right _ (zdz hb e)))).2.1
      refine thn hg' fun _ s8 ⟨σ8,H8,I8,ag,q8⟩=>?_
      refine thn (ht' _ s8 σ8 H8 _ I8 q8) fun b s9 ⟨H9,I9,q9⟩=>?_
      cases b with
      | false =>
        rw [if_neg Bool.false_ne_true] at q9 ⊢
        exact again rfl I9 ag q9
      | true =>
        rw [if_pos rfl] at q9 ⊢
        refine thn (he' _ s9 σ8 H9 _ I9 q9) fun y s10 ⟨yv,H10,I10,ry,ys,hy,hlt,q10⟩=>?_
        refine thn (ap _ s10 σ8 H10 (.ref s2.heap.objs.size) [yv] (.ref s2.heap.objs.size) [y] (fun v H'=>v=.non/\H'=upd H10 s2.heap.objs.size (.lst (ys++[yv]))) I10 rfl (.cons ry .nil) ⟨_,ys,yv,rfl,rfl,hy,hlt,rfl,rfl⟩) fun z s11 ⟨v11,H11,I11,_,_,e11⟩=>?_
        subst e11
        exact again rfl I11 ag q10
  refine codeAny_compStart_list (loop _) (T.self _ 0 _ _ _ (T.keep _ _ _ st3 fun b _ o e=>old b o e) (loop _))
theorem zpN (hcalm:X.calm=true)(hxe:X.xe=fun _ _=>False)(hkind:sc.kind=.function)(hcell:∀ y∈sc.names,y.2≠.cell)(hnames:∀ y∈sc.names,y.2=.local->sc.names.lookup y.1=some .local)
  (hfr:zda (fun x=>X.env.kindOf x=some .cell) sc.names) (hfv:zfq X sc free fv) (hi:PI X tg iter wi)
  (hg:∀ cl C s₀ H₀ ex,PG (inner X sc (own++free) cl C s₀ H₀ ex) tg g) (ht:∀ cl C s₀ H₀ ex,PFs (inner X sc (own++free) cl C s₀ H₀ ex) ifs tc) (he:∀ cl C s₀ H₀ ex,PE (inner X sc (own++free) cl C s₀ H₀ ex) elt te)
  (hs:∀ x,foldedSetIterable iter X.env x=pure x:=by intro _;rfl):PE X (.ListComp elt [⟨tg,iter,ifs,0⟩] sc pos) (tLC own fv wi g tc te):=by
 intro pins s σ H Q I q
 obtain⟨cl,hclos,hcl1,hcl2⟩:=zgq (env:=X.env) (sc:=sc) fun y hy e=>I.ok.has y.1 (.inl (hfr.of y hy e))
 rw [eval_ListComp]
 refine wpAny_comprehension_free (use:=none) rfl hs hclos hkind hnames (thn (hi pins s σ H _ I q) fun v s1 h1=>thn h1 fun itv s2 h2=>?_)
 obtain⟨it,fp,tn,J,H2,e,I2,T,st2,f2,q2⟩:=h2
 subst e
 refine zgn (RR:=fun acc C=>compPost (model X.prog X.w) X.A X.xe none (EP X pins σ Q) acc C) hcalm hxe hkind hcell hfr hfv hg ht he I2 T st2 f2 q2 hcl1 hcl2 ?_
 intro p C m H' s' hm I' hC hCl hC0 hCc hCp q'
 exact⟨m,hm,fun h' hs'=>⟨.ref p,H',I'.turned (t':=s'.toks) (fun b o hb e=>hs'.extBut b o hb e) hC hCl (.inr hC0) hCc hCp,rfl,q'⟩⟩
theorem znD {i:Nat}{y:Str}{py spos:Pos}(hN:X.N.Nodup)(hy:X.N[i]?=some y)(hyl:X.env.scope.names.lookup y=some .local)(hcalm:X.calm=true)(hxe:X.xe=fun _ _=>False)(hkind:sc.kind=.function)(hcell:∀ y∈sc.names,y.2≠.cell)(hnames:∀ y∈sc.names,y.2=.local->sc.names.lookup y.1=some .local)
  (hfr:zda (fun x=>X.env.kindOf x=some .cell) sc.names) (hfv:zfq X sc free fv) (hi:PI X tg iter wi)
  (hg:∀ cl C s₀ H₀ ex,PG (inner X sc (own++free) cl C s₀ H₀ ex) tg g) (ht:∀ cl C s₀ H₀ ex,PFs (inner X sc (own++free) cl C s₀ H₀ ex) ifs tc) (he:∀ cl C s₀ H₀ ex,PE (inner X sc (own++free) cl C s₀ H₀ ex) elt te)
  (hsw:swapsWith (.ListComp elt [⟨tg,iter,ifs,0⟩] sc pos) (some (.Name y py)) spos.line X.env=pure true:=by rfl)
  (hs:∀ x,foldedSetIterable iter X.env x=pure x:=by intro _;rfl):PS X (.Assign [.Name y py] (.ListComp elt [⟨tg,iter,ifs,0⟩] sc pos) spos) (zl3 (tLC own fv wi g tc te) (zB i)):=by
 intro pins s σ H D I q
 obtain⟨cl,hclos,hcl1,hcl2⟩:=zgq (env:=X.env) (sc:=sc) fun y hy e=>I.ok.has y.1 (.inl (hfr.of y hy e))
 rw [exec_Assign_Name_used _ _ _ _ hsw]
 refine wpAny_bind (wpAny_standAt (wpAny_bind ?_))
 show wpAny _ X.A (do let _ <- comprehension (.ListComp elt [⟨tg,iter,ifs,0⟩] sc pos) sc X.env _ (newList []) false (eval iter X.env) (some (assign (.Name y py) X.env))) _ _ s
 refine wpAny_bind (wpAny_mono (wpAny_comprehension_free (use:=some (assign (.Name y py) X.env)) (Q:=fun _ s'=>SP X pins D .next s') rfl hs hclos hkind hnames
  (thn (hi pins s σ H _ I q) fun v s1 h1=>thn h1 fun itv s2 h2=>?_)) (fun _ s' hq=>wpAny_pure (wpAny_pure hq)) fun _ _ e=>e)
 obtain⟨it,fp,tn,J,H2,e,I2,T,st2,f2,q2⟩:=h2
 subst e
 refine zgn (RR:=fun acc C=>compPost (model X.prog X.w) X.A X.xe (some (assign (.Name y py) X.env)) (fun _ s'=>SP X pins D .next s') acc C) (Q:=fun x H1=>zB i x σ H1 D.nx) hcalm hxe hkind hcell hfr hfv hg ht he I2 T st2 f2 q2 hcl1 hcl2 ?_
 intro p C m H' s' hm I' hC hCl hC0 hCc hCp q'
 show wpAny _ X.A (assign (.Name y py) X.env (.ref p)) _ _ _
 refine wpAny_assign_Name (zhi (v:=.ref p) I' hN hy (.inl hyl) rfl (fun s'' I'' hsb=>?_) (.inr hyl))
 obtain⟨a,hsb,ha⟩:=hsb
 have hCa:C≠a:=by
  rcases ha with rfl | ha
  ·exact hCl
  ·exact fun e=>hCc _ _ ha e.symm
 refine⟨m,hm.sameBut hsb hCa,fun h' hs'=>⟨_,H',I''.turned (t':=s''.toks) (fun b o hb e=>hs'.extBut b o hb e) hC hCl (.inr hC0) hCc hCp,q'⟩⟩
end
section
variable {σ:L2.St}{H:Hp}{K:PySem.W.Frag}
end
section
variable {X:Cx}{tg:Expr}
end
section
variable {X:Cx}{pins:List (Addr×Obj)}{σ:L2.St}{H:Hp}{s:Shared}
end
section
variable {X:Cx}{pins:List (Addr×Obj)}{σ:L2.St}{H:Hp}{s:Shared}
end
section
variable {X:Cx}
end
section
variable {X:Cx}
end
def hT (x1 z1 x2 z2 a b:Int):Int:=z1*(x2-x1)*b+(z2-z1)*(a-x1*b)
def hB (x1 x2 b:Int):Int:=(x2-x1)*b
section
variable {σ:L2.St}{H:Hp}
end
structure zjV (P:Program)(w:World)(K:PySem.W.Frag)(mg:Str->Option Value)(base:Heap)(k:Nat)(x:Str)(sp:Sp):Prop where
 ex:∃ (C f:Addr) (fd:FuncData) (ps:List Str) (sp0:Sp),Mk K C f/\zY P w K mg base CX0 k f fd ps sp0/\Binds K fd ps []/\mg x=some (.ref C) /\
  ∀ vs H Q,sp vs H Q E0->∀ x dx,H x=none->H dx=none->dx≠x->sp0 (.ref x::vs) (upd (upd H dx (.own x)) x (.ins C dx [])) (fun v H2=>v=.non/\Q (.ref x) H2) E0
theorem zqi {X:Cx}{k j:Nat}{x:Str}{sp:Sp}{p pos:Pos}{e:Expr}{es:List Expr}{t:TA}(G:zjV X.prog X.w X.K X.mg X.base k x sp)(hr:zap j X.A)(hk:k+1<=j)(hg:Gl X x)
  (ha:PA X (e::es) t) (hdb:(x==("__debug__":Str))=false:=by decide) (he:starEach (e::es) X.env=(false,eval e X.env)::starEach es X.env:=by rfl) (hpl:(backTo pos (starEach es X.env)).any (·.1)=false:=by rfl) :
  PE X (.Call (.Name x p) (e::es) [] pos) (zjN sp [] E0 t):=by
 intro pins s σ H Q I h
 obtain⟨C,f,fd,ps,sp0,M,F,b,hm,imp⟩:=G.ex
 refine wpAny_Call_Name_kw (zcB I hg hm ?_ hdb)
 refine PySem.W.callWith_K (h₀:=X.base) I.ok.mod.kin M.kp (thn (ha pos pins s σ H _ I h) fun us s1 ⟨vs,H1,I1,r,q⟩=>⟨I1.kIn,?_⟩) he hpl
 have q':sp (vs++[]) H1 Q E0:=q
 rw [List.append_nil] at q'
 exact zlD (dvs:=[]) (ds:=[]) M F (hr.mono hk) b .nil zmx I1 r fun x dx h1 h2 h3=>by rw [List.append_nil];exact imp vs H1 Q q' x dx h1 h2 h3
theorem zm2 {X:Cx}{x:Str}{n:Int}{pos:Pos}(hg:Gl X x)(hm:∃ t,X.mg x=some (.int n t))(hd:(x==("__debug__":Str))=false:=by decide):PE X (.Name x pos) (tC (.int n)):=by
 obtain⟨t,ht⟩:=hm
 exact zjv (v:=.int n) hg ht ⟨t,rfl⟩ hd
section
variable {σ:L2.St}{H:Hp}{K:PySem.W.Frag}
end
section
variable {X:Cx}{K:PySem.W.Frag}
theorem zok {pins:List (Addr×Obj)}{σ:L2.St}{H:Hp}{s:Shared}{p:Addr}{its:List Value}(_:Inv X pins σ H s)(pl:PlainL s.heap p its.toArray) :
  p<s.heap.objs.size/\(s.heap.push { cls:=.type "list_iterator",data:=.fields #[.ref p,.int 0 0] }).IsListIter s.heap.objs.size p 0:=by
 obtain⟨o,ho,_⟩:=pl.isList
 exact⟨Heap.lt_size ho,_,Heap.get?_push_size _ rfl,rfl,rfl⟩
theorem zn7 {H:Hp}{pins:List (Addr×Obj)}{σ:L2.St}{s:Shared}{h':Heap}{tk:Nat}(I:Inv X pins σ H s){o:Obj}(hk:∀ b u,b∉[s.heap.objs.size]->(s.heap.push o).get? b=some u->h'.get? b=some u) :
  Inv X pins σ H { s with heap:=h',toks:=tk }:=I.kept (t':=tk) fun d u e=>hk d u (fun hm=>by
   have h1:d=s.heap.objs.size:=by simpa using hm
   have h2:=Heap.lt_size e
   rw [h1] at h2
   exact Nat.lt_irrefl _ h2) (Heap.get?_push_of_some _ e)
def zrm (K:PySem.W.Frag):List V->Hp->VK->Prop:=fun xs H Q=>∃ (p:Addr) (bs:List Bool),xs=[.ref p]/\SqL K H p (bs.map V.bl)/\Q (.bl (bs.all id)) H
theorem zlS {bs:List Bool}{its:List Value}(rv:Vals (bs.map V.bl) its){i:Nat}{v:Value}(h:its.toArray[i]?=some v):v=.bool (bs.getD i false):=by
 rw [<- Array.getElem?_toList] at h
 have hi:i<its.length:=by
  rcases Nat.lt_or_ge i its.length with g | g
  ·exact g
  ·rw [List.getElem?_eq_none (by simpa using g)] at h;cases h
 have hl:=rv.length
 rw [List.length_map] at hl
 have e:(bs.map V.bl)[i]?=some (.bl (bs.getD i false)):=by
  rw [List.getElem?_map,List.getElem?_eq_getElem (by omega)]
  simp [List.getD_eq_getElem?_getD,List.getElem?_eq_getElem (show i<bs.length by omega)]
 obtain⟨u,hu,ru⟩:=rv.get e
 rw [show its.toArray.toList=its from rfl,hu] at h
 cases h
 exact ru
theorem all_range (bs:List Bool):(List.range bs.length).all (fun i=>bs.getD i false)=bs.all id:=by
 rw [Bool.eq_iff_iff,List.all_eq_true,List.all_eq_true]
 constructor
 ·intro h b hb
  obtain⟨i,hi,rfl⟩:=List.mem_iff_getElem.mp hb
  simpa [List.getD_eq_getElem?_getD,List.getElem?_eq_getElem hi] using h i (List.mem_range.mpr hi)
 ·intro h i hi
  rw [List.mem_range] at hi
  have:=h bs[i] (List.getElem_mem hi)
  simpa [List.getD_eq_getElem?_getD,List.getElem?_eq_getElem hi] using this
theorem zkS (hK:X.K=K)(hc:X.calm=true):za5 X (.builtin "all") (zrm K):=fun pins s σ H xs us Q I r h=>by
 subst hK
 obtain⟨p,bs,rfl,hS,q⟩:=h
 obtain⟨u,rfl,ru⟩:=vals1 r
 cases ru
 obtain⟨its,rv,pl,hz⟩:=I.list hS
 obtain⟨lt,st⟩:=zok I pl
 have hl:=rv.length
 rw [List.length_map] at hl
 have W:=Walks.list (prog:=X.prog) (w:=X.w) (A:=X.A.in1) (I.ok.hd hc) s.heap.objs.size p (Nat.ne_of_lt lt) its.toArray
 refine call_all_walk (wpAny_pyIter_list pl.isList ⟨s.heap.objs.size,[s.heap.objs.size,p],[s.heap.objs.size],_,_,_,fun i=>bs.getD i false,rfl,W,⟨st,pl.isList.push _⟩,?_,?_⟩)
 ·intro i v s' Q' E' hv hq
  rw [zlS rv hv]
  exact wpAny_truthy_bool hq
 ·intro h' tk hk
  rw [List.size_toArray,<- hl,all_range]
  exact⟨.bl _,H,zn7 (s:=s) I hk,rfl,q⟩
end
section
variable {X:Cx}{K:PySem.W.Frag}
def zpL (K:PySem.W.Frag):R2:=fun x y H Q=>∃ l b xs zs,x=.ref l/\y=.ref b/\SqL K H l xs/\SqL K H b zs/\xs.length+zs.length<=sizeLine/\∀ p,H p=none->Q (.ref p) (upd H p (.lst (xs++zs)))
theorem zm3 (hK:X.K=K):OpR X (binaryOp .Add) (zpL K):=by
 subst hK
 intro pins s σ H x y v u Q I rx ry h
 obtain⟨l,b,xs,zs,rfl,rfl,hH,hB,hz,q⟩:=h
 cases rx
 cases ry
 obtain⟨its,r,pl,_⟩:=I.list hH
 obtain⟨its2,r2,pl2,_⟩:=I.list hB
 obtain⟨⟨cls,dd,data,sl⟩,ho,hc,n,hd⟩:=pl.isList
 obtain⟨⟨cls2,dd2,data2,sl2⟩,ho2,hc2,n2,hd2⟩:=pl2.isList
 simp only at hc hd hc2 hd2
 subst hc hd hc2 hd2
 have e1:=r.length
 have e2:=r2.length
 refine concat_meets ⟨_,ho,rfl⟩ ⟨_,ho2,rfl⟩ noFill_list_add seq_list_add PySem.F.slot_list_add PySem.F.entry_list_add (PySem.F.args_list_add_2 _ _) (list_addW l b its.toArray its2.toArray n n2 dd dd2 sl sl2 (by rw [List.size_toArray,List.size_toArray];omega)) ⟨ho,ho2,?_⟩
 have ea:its.toArray++its2.toArray=(its++its2).toArray:=by simp
 rw [ea]
 exact⟨.ref _,_,I.lnew (t':=s.toks) (r.append r2) (by rw [List.length_append];omega),rfl,q _ I.fresh⟩
end
section
variable {σ:L2.St}{K:PySem.W.Frag}{own:List Str}{fv:List Nat}{g:TG}{tc:TT}{te:TE}{R:Hp->Prop}{H1:Hp}{p a:Addr}{xs:List V}
end
theorem zaK {α:Type}{xs:List α}{i:Nat}{x:α}(h:xs[i]?=some x):i<xs.length:=by
 rcases Nat.lt_or_ge i xs.length with g | g
 ·exact g
 ·rw [List.getElem?_eq_none g] at h;cases h
open PySem PySem.W PyProof.Rows
section
variable {lt:Nat->Nat->Bool}
abbrev ga (p:Array Nat)(i:Nat):Nat:=p.getD i 0
end
open PySem PySem.Spec PySem.W PyProof.Rows L2
section
variable {prog:Program}{w:World}{A:Around}{E:Value->Shared->Prop}{s:Shared}
end
section
variable {K:PySem.W.Frag}{H:Hp}
end
def zoe (K:PySem.W.Frag):R2:=fun x y H Q=>∃ a b xs ys,x=.ref a/\y=.ref b/\SqT K H a xs/\SqT K H b ys/\xs.length+ys.length<=sizeLine/\(xs=[]->Q (.ref b) H)/\(xs≠[]->ys=[]->Q (.ref a) H)/\(xs≠[]->ys≠[]->∀ p,H p=none->Q (.ref p) (upd H p (.tup (xs++ys))))
theorem zlU {X:Cx}{K:PySem.W.Frag}(hK:X.K=K):OpR X (binaryOp .Add) (zoe K):=by
 subst hK
 intro pins s σ H x y v u Q I rx ry h
 obtain⟨a,b,xs,ys,rfl,rfl,ha,hb,hz,q0,q1,q2⟩:=h
 by_cases hx:xs=[]
 ·subst hx
  cases rx
  cases ry
  obtain⟨its,r1,p1,_⟩:=I.tuple ha
  obtain⟨its2,r2,p2,_⟩:=I.tuple hb
  cases r1
  obtain⟨⟨cls,dd,data,sl⟩,ho,hc,n,hd⟩:=id p1
  obtain⟨⟨cls2,dd2,data2,sl2⟩,ho2,hc2,n2,hd2⟩:=id p2
  simp only at hc hd hc2 hd2
  subst hc hd hc2 hd2
  exact concat_meets ⟨_,ho,rfl⟩ ⟨_,ho2,rfl⟩ noFill_tuple_add seq_tuple_add PySem.F.slot_tuple_add PySem.F.entry_tuple_add (PySem.F.args_tuple_add_2 _ _)
   (tuple_addW0 a b _ its2.toArray n n2 dd dd2 sl sl2 (by simp)) ⟨ho,ho2,⟨.ref b,H,I,rfl,q0 rfl⟩⟩
 ·exact znB pins s σ H _ _ v u Q I rx ry ⟨a,b,xs,ys,rfl,rfl,ha,hb,hx,hz,q1 hx,q2 hx⟩
end My
namespace Dp
open PySem
inductive D where
 | non | bl (b:Bool) | int (i:Int) | str (x:Str) | tup (xs:List D) | ref (n:Nat) | ty (n:String) | rl (xs:List D) | exn (c:Str)
 deriving Inhabited
inductive Cell where
 | lst (xs:List D) | ins (c:Str) (fs:List (Str×D))
 | dk (kvs:List (Str×D)) | dt (kvs:List (List (Sum Int Str)×D))
 deriving Inhabited
abbrev Sto:=List Cell
abbrev Rho:=List (Option D)
abbrev DK:=D->Sto->Prop
abbrev DE:=Rho->Sto->DK->Prop
abbrev DT:=Rho->Sto->(Bool->Sto->Prop)->Prop
abbrev DA:=Rho->Sto->(List D->Sto->Prop)->Prop
abbrev DG:=D->Rho->Sto->(Rho->Sto->Prop)->Prop
abbrev DGs:=List D->Rho->Sto->(Rho->Sto->Prop)->Prop
structure zhP where
 nx:Rho->Sto->Prop
 rt:DK
 bk:Rho->Sto->Prop:=fun _ _=>False
 ct:Rho->Sto->Prop:=fun _ _=>False
abbrev DS:=zhP->Rho->Sto->Prop
structure DIt where
 items:List D
 ok:Sto->Prop
abbrev DI:=Rho->Sto->(DIt->Sto->Prop)->Prop
abbrev DSp:=List D->Sto->DK->Prop
def big:Nat:=1000000
def fl:Nat->D->Bool
  | _,.ref _=>false
  | _,.ty _=>false
  | _,.rl _=>false
  | _,.exn _=>false
  | 0,.tup _=>false
  | k+1,.tup xs=>xs.all (fl k)
  | _,.non=>true
  | _,.bl _=>true
  | _,.int _=>true
  | _,.str x=>x.cps.all (· < 0x110000)
mutual
def eqv:D->D->Bool
 | .non,.non=>true
 | .bl a,.bl b=>a==b
 | .bl a,.int j=>(if a then 1 else 0)==j
 | .int i,.bl b=>i==(if b then 1 else 0)
 | .int i,.int j=>decide (i=j)
 | .str x,.str y=>x==y
 | .tup xs,.tup ys=>eqvAll xs ys
 | _,_=>false
def eqvAll:List D->List D->Bool
 | [],[]=>true
 | x::xs,y::ys=>eqv x y&&eqvAll xs ys
 | _,_=>false
end
def Lst (S:Sto)(x:D)(xs:List D):Prop:=x=.rl xs\/∃ n,x=.ref n/\S[n]?=some (.lst xs)
def zf9 (S:Sto)(x:D)(xs:List D):Prop:=x=.tup xs\/Lst S x xs
def ixD (n:Nat)(k:Int):Option Nat:=if 0<=k then (if k<n then some k.toNat else none) else if -(n:Int)<=k then some (k+n).toNat else none
def atD (xs:List D)(k:Int):Option D:=(ixD xs.length k).bind fun j=>xs[j]?
def atS (z:Str)(k:Int):Option Nat:=(ixD z.cps.toList.length k).bind fun j=>z.cps.toList[j]?
def slD (n:Nat)(d:Nat):Option Int->Nat
 | none=>d
 | some k=>if k<0 then (k+n).toNat else min k.toNat n
def cutD {α:Type}(xs:List α)(lo hi:Option Int):List α:=(xs.drop (slD xs.length 0 lo)).take (slD xs.length xs.length hi-slD xs.length 0 lo)
def zj (i:Nat):DE:=fun ρ S Q=>∃ d,ρ[i]?=some (some d)/\Q d S
def dC (d:D):DE:=fun _ S Q=>Q d S
abbrev DR2:=D->D->Sto->DK->Prop
def dOp (r:DR2)(ta tb:DE):DE:=fun ρ S Q=>ta ρ S fun x S1=>tb ρ S1 fun y S2=>r x y S2 Q
def dUn (r:D->Sto->DK->Prop)(ta:DE):DE:=fun ρ S Q=>ta ρ S fun x S1=>r x S1 Q
def zu:DA:=fun _ S Q=>Q [] S
def zc (ta:DE)(tr:DA):DA:=fun ρ S Q=>ta ρ S fun x S1=>tr ρ S1 fun xs S2=>Q (x::xs) S2
def dTup (t:DA):DE:=fun ρ S Q=>t ρ S fun xs S1=>xs.length<=big/\Q (.tup xs) S1
def zat (t:DA):DE:=fun ρ S Q=>t ρ S fun xs S1=>xs.length<=big/\Q (.ref S1.length) (S1++[.lst xs])
def dCall (f:DSp)(t:DA):DE:=fun ρ S Q=>t ρ S fun xs S1=>f xs S1 Q
abbrev DB:=List D->Sto->DK->Prop
def dB (r:DB)(t:DA):DE:=fun ρ S Q=>t ρ S fun xs S1=>r xs S1 Q
def dT (t:DE):DT:=fun ρ S Q=>t ρ S fun x S1=>∃ b,x=.bl b/\Q b S1
def zeE (t u:DT):DT:=fun ρ S Q=>t ρ S fun c S1=>if c=true then u ρ S1 Q else Q false S1
def dOr (t u:DT):DT:=fun ρ S Q=>t ρ S fun c S1=>if c=true then Q true S1 else u ρ S1 Q
def zeC (t:DT):DT:=fun ρ S Q=>t ρ S fun c S1=>Q (!c) S1
def zfx (t u:DE):DE:=fun ρ S Q=>t ρ S fun x S1=>∃ c,x=.bl c/\if c=true then u ρ S1 Q else Q (.bl false) S1
def zfC (t:DE):DE:=fun ρ S Q=>t ρ S fun x S1=>∃ c,x=.bl c/\Q (.bl (!c)) S1
def zf4:Option DE->Rho->Sto->(Option Int->Sto->Prop)->Prop
 | none=>fun _ S Q=>Q none S
 | some t=>fun ρ S Q=>t ρ S fun x S1=>∃ i,x=.int i/\Q (some i) S1
def dSl (r:D->Option Int->Option Int->Sto->DK->Prop)(ta:DE)(lo hi:Option DE):DE:=fun ρ S Q=>ta ρ S fun x S1=>zf4 lo ρ S1 fun l S2=>zf4 hi ρ S2 fun h S3=>r x l h S3 Q
def zhb (f:Str)(ta:DE):DE:=fun ρ S Q=>ta ρ S fun x S1=>∃ n c fs d,x=.ref n/\S1[n]?=some (.ins c fs)/\fs.lookup f=some d/\Q d S1
def putD (f:Str)(v:D):List (Str×D)->List (Str×D)
 | []=>[(f,v)]
 | (g,x)::r=>if g=f then (g,v)::r else (g,x)::putD f v r
def zms (c:Str)(init:DSp):DSp:=fun ds S Q=>init (.ref S.length::ds) (S++[.ins c []]) fun d S2=>d=.non/\Q (.ref S.length) S2
abbrev DM:=D->List D->Sto->DK->Prop
def dM (r:DM)(ta:DE)(t:DA):DE:=fun ρ S Q=>ta ρ S fun x S1=>(∃ n ys,x=.ref n/\S1[n]?=some (.lst ys))/\t ρ S1 fun xs S2=>r x xs S2 Q
def oI (C:Int->Int->Prop)(g:Int->Int->D):DR2:=fun x y S Q=>∃ i j,x=.int i/\y=.int j/\C i j/\Q (g i j) S
def oI0 (g:Int->Int->D):DR2:=fun x y S Q=>∃ i j,x=.int i/\y=.int j/\Q (g i j) S
def oU (g:Int->D):D->Sto->DK->Prop:=fun x S Q=>∃ i,x=.int i/\Q (g i) S
def zaE (i j:Int):Prop:=(My.Bd 8000 i/\My.Bd 8000 j)\/i.natAbs<2 ^ 64\/j.natAbs<2 ^ 64
def zmA (_ j:Int):Prop:=j≠0/\My.Bd 8000 j
def zqe (_ j:Int):Prop:=j≠0
def zX:DR2:=fun x y S Q=>(∃ i j,x=.int i/\y=.int j/\Q (.int (i+j)) S)\/(∃ xs ys,x=.tup xs/\y=.tup ys/\xs.length+ys.length<=big/\Q (.tup (xs++ys)) S) \/
 (∃ xs ys,Lst S x xs/\Lst S y ys/\xs.length+ys.length<=big/\Q (.ref S.length) (S++[.lst (xs++ys)])) \/
 (∃ i j:Str,x=.str i/\y=.str j/\i.length+j.length<=big/\Q (.str (i++j)) S)
def zax:DR2:=oI0 fun i j=>.int (i-j)
def zj0 (z:Str)(n:Int):Str:=if n<1 then Str.empty else if (n==1||z.length==0)=true then z else ⟨(List.replicate n.toNat z.cps).foldl (·++·) #[]⟩
@[irreducible] def Hg (x:Int):Prop:=x.natAbs<2 ^ 1048576
def zaA:DR2:=fun x y S Q=>oI zaE (fun i j=>.int (i*j)) x y S Q\/(∃ (z:Str) (n:Int),x=.str z/\y=.int n/\z.length<=1000/\-1000<=n/\n<=1000/\Q (.str (zj0 z n)) S)\/oI (fun i j=>Hg i/\Hg j) (fun i j=>.int (i*j)) x y S Q
def oDiv:DR2:=oI zmA fun i j=>.int (i.fdiv j)
def oMod:DR2:=oI zqe fun i j=>.int (i.fmod j)
def zeV:D->Sto->DK->Prop:=oU fun i=>.int (-i)
def oLt:DR2:=oI0 fun i j=>.bl (decide (i<j))
def oLe:DR2:=oI0 fun i j=>.bl (decide (i<=j))
def oGt:DR2:=oI0 fun i j=>.bl (decide (j<i))
def zgG (S:Sto):List D->List (List D)->Prop
 | [],[]=>True
 | x::xs,z::zs=>Lst S x z/\zgG S xs zs
 | _,_=>False
def zes (xss:List (List D)):Bool:=xss.all fun zs=>zs.all (fl 20)
def EqD (S:Sto)(x y:D)(b:Bool):Prop:=(fl 20 x=true/\fl 20 y=true/\b=eqv x y)\/(∃ xs ys,Lst S x xs/\Lst S y ys/\xs.all (fl 20)=true/\ys.all (fl 20)=true/\b=eqvAll xs ys) \/
 (∃ xs ys xss yss,Lst S x xs/\Lst S y ys/\zgG S xs xss/\zgG S ys yss/\zes xss=true/\zes yss=true/\b=eqvAll (xss.map D.tup) (yss.map D.tup))
def oEq:DR2:=fun x y S Q=>∃ b,EqD S x y b/\Q (.bl b) S
def oNe:DR2:=fun x y S Q=>∃ b,EqD S x y b/\Q (.bl (!b)) S
def InD (S:Sto)(x y:D)(b:Bool):Prop:=∃ ys,zf9 S y ys/\fl 20 x=true/\ys.all (fl 20)=true/\b=ys.any fun z=>eqv z x
def oIn:DR2:=fun x y S Q=>(∃ b,InD S x y b/\Q (.bl b) S)\/(∃ (c:Nat) (z:Str),x=.str ⟨#[c]⟩/\y=.str z/\Q (.bl (decide (c∈z.cps.toList))) S)
def ziw:DR2:=fun x y S Q=>(∃ b,InD S x y b/\Q (.bl (!b)) S)\/(∃ (c:Nat) (z:Str),x=.str ⟨#[c]⟩/\y=.str z/\Q (.bl (!decide (c∈z.cps.toList))) S)
def zjC:D->Bool
 | .non=>true
 | _=>false
def zjY:DR2:=fun x y S Q=>(y=.non/\Q (.bl (!zjC x)) S)\/(∃ a b,x=.bl a/\y=.bl b/\Q (.bl (!(a==b))) S)
def oIx:DR2:=fun x y S Q=>(∃ i xs d,y=.int i/\zf9 S x xs/\atD xs i=some d/\Q d S)\/(∃ (z:Str) (i:Int) (c:Nat),x=.str z/\y=.int i/\z.length<=big/\atS z i=some c/\Q (.str ⟨#[c]⟩) S)
def zlj (z:Str)(lo hi:Option Int):Str:=⟨(cutD z.cps.toList lo hi).toArray⟩
def zc5:D->Option Int->Option Int->Sto->DK->Prop:=fun x lo hi S Q=>(∃ xs,x=.tup xs/\Q (.tup (cutD xs lo hi)) S)\/(∃ xs,Lst S x xs/\Q (.ref S.length) (S++[.lst (cutD xs lo hi)]))\/(∃ z:Str,x=.str z/\z.length<=big/\Q (.str (zlj z lo hi)) S)
def zan:DB:=fun vs S Q=>(∃ x xs,vs=[x]/\zf9 S x xs/\Q (.int xs.length) S)\/(∃ z:Str,vs=[.str z]/\z.length<=big/\Q (.int z.length) S)
def zhS:DB:=fun vs S Q=>∃ i,vs=[.int i]/\Q (.int (i.natAbs:Int)) S
def zfo:DB:=fun vs S Q=>∃ x bs,vs=[x]/\Lst S x (List.map D.bl bs)/\Q (.bl (bs.all id)) S
def zdY:DB:=fun vs S Q=>∃ x xs,vs=[x]/\zf9 S x xs/\Q (.ref S.length) (S++[.lst xs])
def zlG:DB:=fun vs S Q=>(∃ i,vs=[.int i]/\Q (.int i) S)\/∃ b,vs=[.bl b]/\Q (.int (if b then 1 else 0)) S
def zhc (t:String):Bool:=t=="int"||t=="bool"||t=="tuple"||t=="list"||t=="str"
def zpi (S:Sto)(t:String)(d:D):Option Bool:=if (!zhc t)=true then none else match d with
 | .non=>some false
 | .bl _=>some (t=="bool"||t=="int")
 | .int _=>some (t=="int")
 | .str _=>some (t=="str")
 | .tup _=>some (t=="tuple")
 | .ref n=>match S[n]? with
  | some (.lst _)=>some (t=="list")
  | _=>none
 | .ty _=>none
 | .rl _=>none
 | .exn _=>none
def zf2:DB:=fun vs S Q=>∃ x t b,vs=[x,.ty t]/\zpi S t x=some b/\Q (.bl b) S
abbrev p2 (c:Int×Int):D:=.tup [.int c.1,.int c.2]
def zdG:DM:=fun x vs S Q=>∃ n xs y,x=.ref n/\vs=[y]/\S[n]?=some (.lst xs)/\xs.length<big/\Q .non (S.set n (.lst (xs++[y])))
def zB (i:Nat):DG:=fun d ρ S Q=>Q (ρ.set i (some d)) S
def ze7:DGs:=fun ds ρ S Q=>ds=[]/\Q ρ S
def zbh (t:DG)(u:DGs):DGs:=fun ds ρ S Q=>∃ d r,ds=d::r/\t d ρ S fun ρ' S'=>u r ρ' S' Q
def zfs (n:Nat)(t:DGs):DG:=fun d ρ S Q=>∃ xs,d=.tup xs/\xs.length=n/\t xs ρ S Q
def zh7 (to ti:DE):DG:=fun d ρ S Q=>to ρ S fun o S1=>ti ρ S1 fun i S2=>∃ n xs k j,o=.ref n/\i=.int k/\S2[n]?=some (.lst xs)/\ixD xs.length k=some j/\Q ρ (S2.set n (.lst (xs.set j d)))
def zJ (t u:DS):DS:=fun E ρ S=>t { E with nx:=u E } ρ S
def z7:DS:=fun E ρ S=>E.nx ρ S
def zac (t:DE):DS:=fun E ρ S=>t ρ S E.rt
def zb5 (t:DE):DS:=fun E ρ S=>t ρ S fun _ S1=>E.nx ρ S1
def zN (t:DE)(g:DG):DS:=fun E ρ S=>t ρ S fun x S1=>g x ρ S1 E.nx
def sIf (c:DT)(t u:DS):DS:=fun E ρ S=>c ρ S fun b S1=>if b=true then t E ρ S1 else u E ρ S1
def sJ (t:DS):DS:=fun E ρ S=>∃ J:Rho->Sto->Prop,(∀ ρ S,J ρ S->E.nx ρ S)/\t { E with nx:=J } ρ S
def zik:DS:=fun _ _ _=>False
def zln (i j:Nat)(t:DA):DS:=fun E ρ S=>t ρ S fun vs S1=>∃ a b,vs=[a,b]/\E.nx ((ρ.set i (some a)).set j (some b)) S1
def zc7 (c f:Str)(to tv:DE):DS:=fun E ρ S=>tv ρ S fun y S1=>to ρ S1 fun x S2=>∃ n fs,x=.ref n/\S2[n]?=some (.ins c fs)/\fs.length<100/\E.nx ρ (S2.set n (.ins c (putD f y fs)))
def zlY (i:Nat)(t:DE):DS:=fun E ρ S=>∃ a,ρ[i]?=some (some (.int a))/\t ρ S fun y S1=>∃ b,y=.int b/\E.nx (ρ.set i (some (.int (a+b)))) S1
def zgx (c:DT)(t:DS):DS:=fun E ρ S=>∃ W:Nat->Rho->Sto->Prop,(∃ m,W m ρ S)/\∀ m ρ S,W m ρ S ->
 c ρ S fun b S1=>if b=true then ∃ N:Rho->Sto->Prop,(∀ ρ' S',N ρ' S'->∃ m',m'<m/\W m' ρ' S')/\t { E with nx:=N,ct:=N,bk:=E.nx } ρ S1 else E.nx ρ S1
def zeb (wi:DI)(g:DG)(t:DS):DS:=fun E ρ S=>wi ρ S fun J S1=>∃ W:Nat->Rho->Sto->Prop,W 0 ρ S1/\(∀ i ρ S,W i ρ S->J.ok S) /\
 (∀ i d ρ S,J.items[i]?=some d->W i ρ S->g d ρ S fun ρ2 S2=>t { E with nx:=W (i+1),ct:=W (i+1),bk:=E.nx } ρ2 S2)/\∀ ρ S,W J.items.length ρ S->E.nx ρ S
def signs (z:Str):List D:=z.cps.toList.map fun c=>.str ⟨#[c]⟩
def zgw (x:D)(S1:Sto)(R:DIt->Sto->Prop):Prop:=(∃ xs,x=.tup xs/\R ⟨xs,fun _=>True⟩ S1)\/(∃ xs,Lst S1 x xs/\R ⟨xs,fun S=>Lst S x xs⟩ S1)\/(∃ z:Str,x=.str z/\R ⟨signs z,fun _=>True⟩ S1)
def zc0 (t:DE):DI:=fun ρ S R=>t ρ S fun x S1=>zgw x S1 R
def upto (lo:Int)(n:Nat):List D:=(List.range n).map fun k:Nat=>D.int (lo+(k:Int))
def zbM (t:DA):DI:=fun ρ S R=>t ρ S fun vs S1=>∃ j:Int,vs=[.int j]/\-(2 ^ 62)<=j/\j<2 ^ 62/\R ⟨upto 0 j.toNat,fun _=>True⟩ S1
def zhQ (t:DA):DI:=fun ρ S R=>t ρ S fun vs S1=>∃ i j:Int,vs=[.int i,.int j]/\R ⟨upto i (j-i).toNat,fun _=>True⟩ S1
def zeN (c:List Str)(z:Str):List Str:=if c.any (·==z)=true then c else c++[z]
def zbw (f:Nat->Str):Nat->List Str
 | 0=>[]
 | i+1=>zeN (zbw f i) (f i)
def zjI (zs:List Str):Nat:=(zbw (fun i=>zs.getD i Str.empty) zs.length).length
def zjZ:DB:=fun vs S Q=>∃ x,∃ zs:List Str,vs=[x]/\Lst S x (zs.map D.str)/\zs.length<=4000/\Q (.int (zjI zs)) S
def zfY (own:Nat)(fv:List Nat)(ρ:Rho):Rho:=List.replicate own none++fv.map fun j=>(ρ[j]?).join
def zbj:DT:=fun _ S Q=>Q true S
def dLC (own:Nat)(fv:List Nat)(wi:DI)(g:DG)(tc:DT)(te:DE):DE:=fun ρ S Q=>wi ρ S fun J S1=>J.items.length<=big/\∃ W:Nat->List D->Sto->Prop,W 0 [] S1/\(∀ i ys S,W i ys S->J.ok S) /\
 (∀ i d ys S,J.items[i]?=some d->W i ys S->g d (zfY own fv ρ) S fun ρ2 S2=>tc ρ2 S2 fun b S3=>if b=true then te ρ2 S3 fun y S4=>W (i+1) (ys++[y]) S4 else W (i+1) ys S3) /\
 ∀ ys S,W J.items.length ys S->Q (.ref S.length) (S++[.lst ys])
section
variable {κ:Type}[DecidableEq κ]
end
def fc:Cell->Bool
 | .lst xs=>xs.all (fl 20)
 | .ins _ _=>false
 | .dk _=>false
 | .dt _=>false
def Fin (S:Sto)(Q:DK):DK:=fun d S'=>Q d S'\/∃ S1,S1 <+: S'/\S.length<=S1.length/\(fl 20 d=true\/∃ n,d=.ref n/\n<S1.length)/\(∀ (n:Nat) c,S1[n]?=some c->S[n]?=some c\/fc c=true)/\Q d S1
def zdm (n:Nat)(ds:List D):Rho:=ds.map some++List.replicate (n-ds.length) none
def BodyOk (n:Nat)(b:DS)(f:DSp):Prop:=∀ ds S Q,f ds S Q->b ⟨fun _ S'=>Fin S Q .non S',Fin S Q,fun _ _=>False,fun _ _=>False⟩ (zdm n ds) S
abbrev XD:=Str->Sto->Prop
abbrev XR:=Rho->Str->Sto->Prop
abbrev zbL:=List D->Sto->DK->XD->Prop
def zbS (f:zbL)(ex:XR)(t:DA):DE:=fun ρ S Q=>t ρ S fun xs S1=>f xs S1 Q (ex ρ)
def xF:XR:=fun _ _ _=>False
def zbD (ex:XR)(c:Str):DS:=fun _ ρ S=>ex ρ c S
def zdq (tbl:List (Str×Bool))(t:DE):DE:=fun ρ S Q=>t ρ S fun x S1=>∃ c b,x=.exn c/\tbl.lookup c=some b/\Q (.bl b) S1
def zlB (i:Nat)(ok:List Str)(b:XR->DS)(h:DS):DS:=fun E ρ S =>
 b (fun ρ' c S'=>ok.contains c=true/\h { nx:=fun ρ2 S2=>E.nx (ρ2.set i none) S2,rt:=E.rt,bk:=fun _ _=>False,ct:=fun _ _=>False } (ρ'.set i (some (.exn c))) S') E ρ S
def zh3 (c:Str)(init:zbL):zbL:=fun ds S Q ex=>init (.ref S.length::ds) (S++[.ins c []]) (fun d S2=>d=.non/\Q (.ref S.length) S2) ex
def zb7 (n:Nat)(b:XR->DS)(f:zbL):Prop:=∀ ds S Q ex,f ds S Q ex->b (fun _=>ex) ⟨fun _ S'=>Fin S Q .non S',Fin S Q,fun _ _=>False,fun _ _=>False⟩ (zdm n ds) S
def New (Q:DK)(S:Sto)(xs:List D):Prop:=Q (.ref S.length) (S++[.lst xs])
def Put (Q:Sto->Prop)(S:Sto)(n:Nat)(c:Cell):Prop:=Q (S.set n c)
def zl8 (own:Nat)(fv:List Nat)(g:DG)(tc:DT)(te:DE)(ρ:Rho)(Q:DK)(J:DIt)(S:Sto):Prop:=J.items.length<=big/\∃ W:Nat->List D->Sto->Prop,W 0 [] S/\(∀ i ys S,W i ys S->J.ok S) /\
 (∀ i d ys S,J.items[i]?=some d->W i ys S->g d (zfY own fv ρ) S fun ρ2 S2=>tc ρ2 S2 fun b S3=>if b=true then te ρ2 S3 fun y S4=>W (i+1) (ys++[y]) S4 else W (i+1) ys S3) /\
 ∀ ys S,W J.items.length ys S->New Q S ys
def zmt (d:D)(ρ:Rho)(Q:Rho->Sto->Prop)(o i:D)(S2:Sto):Prop:=∃ n xs k j,o=.ref n/\i=.int k/\S2[n]?=some (.lst xs)/\ixD xs.length k=some j/\Q ρ (S2.set n (.lst (xs.set j d)))
def zmh (nx:Rho->Sto->Prop)(rt:DK)(g:DG)(t:DS)(ρ:Rho)(J:DIt)(S:Sto):Prop:=∃ W:Nat->Rho->Sto->Prop,W 0 ρ S/\(∀ i ρ S,W i ρ S->J.ok S) /\
 (∀ i d ρ S,J.items[i]?=some d->W i ρ S->g d ρ S fun ρ2 S2=>t ⟨W (i+1),rt,nx,W (i+1)⟩ ρ2 S2)/\∀ ρ S,W J.items.length ρ S->nx ρ S
def zmB (W:Nat->Rho->Sto->Prop)(m:Nat)(t:DS)(rt:DK)(nx:Rho->Sto->Prop)(ρ:Rho)(S:Sto):Prop:=∃ N:Rho->Sto->Prop,(∀ ρ' S',N ρ' S'->∃ m',m'<m/\W m' ρ' S')/\t ⟨N,rt,nx,N⟩ ρ S
theorem zcG {nx:Rho->Sto->Prop}{rt:DK}{g:DG}{t:DS}{ρ:Rho}{xs:List D}{ok:Sto->Prop}{S:Sto}(W:Nat->Rho->Sto->Prop)(h0:W 0 ρ S)(hok:∀ i ρ S,W i ρ S->ok S)
  (step:∀ i d ρ S,xs[i]?=some d->W i ρ S->g d ρ S fun ρ2 S2=>t ⟨W (i+1),rt,nx,W (i+1)⟩ ρ2 S2) (fin:∀ ρ S,W xs.length ρ S->nx ρ S):zmh nx rt g t ρ ⟨xs,ok⟩ S:=⟨W,h0,hok,step,fin⟩
theorem zgK {S:Sto}{Q:DK}{xs:List D}(h:Q (.ref S.length) (S++[.lst xs])):New Q S xs:=h
theorem zey {S T:Sto}{Q:DK}{xs:List D}(h:Q (.ref (S.length+T.length)) (S++(T++[.lst xs]))):New Q (S++T) xs:=by
 unfold New;rw [List.length_append,List.append_assoc];exact h
section
variable {S:Sto}{Q:DK}{xs:List D}{a b c d e f:Cell}
theorem zpv (h:Q (.ref (S.length+1)) (S++[a,.lst xs])):New Q (S++[a]) xs:=zey h
theorem zqq (h:Q (.ref (S.length+2)) (S++[a,b,.lst xs])):New Q (S++[a,b]) xs:=zey h
theorem zpW (h:Q (.ref (S.length+3)) (S++[a,b,c,.lst xs])):New Q (S++[a,b,c]) xs:=zey h
theorem zp5 (h:Q (.ref (S.length+4)) (S++[a,b,c,d,.lst xs])):New Q (S++[a,b,c,d]) xs:=zey h
theorem zqo (h:Q (.ref (S.length+5)) (S++[a,b,c,d,e,.lst xs])):New Q (S++[a,b,c,d,e]) xs:=zey h
end
theorem zoK {S:Sto}{a:Cell}{T:Sto}{Q:Sto->Prop}{c:Cell}(h:Q (S++c::T)):Put Q (S++a::T) S.length c:=by
 unfold Put;rw [List.set_append_right _ _ (Nat.le_refl _),Nat.sub_self];exact h
theorem zpZ {S T:Sto}{Q:Sto->Prop}{k:Nat}{c:Cell}(h:Q (S++T.set k c)):Put Q (S++T) (S.length+k) c:=by
 unfold Put;rw [List.set_append_right _ _ (Nat.le_add_right _ _),Nat.add_sub_cancel_left];exact h
section
variable {nx:Rho->Sto->Prop}{rt:DK}{bk ct:Rho->Sto->Prop}{ρ:Rho}{S:Sto}
theorem zkk {t u:DS}(h:t ⟨u ⟨nx,rt,bk,ct⟩,rt,bk,ct⟩ ρ S):zJ t u ⟨nx,rt,bk,ct⟩ ρ S:=h
theorem r_J {t:DS}(J:Rho->Sto->Prop)(h:t ⟨J,rt,bk,ct⟩ ρ S)(hJ:∀ ρ S,J ρ S->nx ρ S):sJ t ⟨nx,rt,bk,ct⟩ ρ S:=⟨J,hJ,h⟩
theorem zql {i j:Nat}{t:DA}(h:t ρ S fun vs S1=>∃ a b,vs=[a,b]/\nx ((ρ.set i (some a)).set j (some b)) S1):zln i j t ⟨nx,rt,bk,ct⟩ ρ S:=h
theorem zoV {a b:D}{P:D->D->Prop}(h:P a b):∃ x y,[a,b]=[x,y]/\P x y:=⟨a,b,rfl,h⟩
theorem zom (h:nx ρ S):z7 ⟨nx,rt,bk,ct⟩ ρ S:=h
theorem zmo {t:DE}(h:t ρ S rt):zac t ⟨nx,rt,bk,ct⟩ ρ S:=h
theorem zoI {t:DE}(h:t ρ S fun _ S1=>nx ρ S1):zb5 t ⟨nx,rt,bk,ct⟩ ρ S:=h
theorem zmp {t:DE}{g:DG}(h:t ρ S fun x S1=>g x ρ S1 nx):zN t g ⟨nx,rt,bk,ct⟩ ρ S:=h
theorem zq7 {c:DT}{t u:DS}(h:c ρ S fun b S1=>if b=true then t ⟨nx,rt,bk,ct⟩ ρ S1 else u ⟨nx,rt,bk,ct⟩ ρ S1):sIf c t u ⟨nx,rt,bk,ct⟩ ρ S:=h
theorem zoE {c f:Str}{to tv:DE}(h:tv ρ S fun y S1=>to ρ S1 fun x S2=>∃ n fs,x=.ref n/\S2[n]?=some (.ins c fs)/\fs.length<100/\nx ρ (S2.set n (.ins c (putD f y fs)))):zc7 c f to tv ⟨nx,rt,bk,ct⟩ ρ S:=h
theorem zpV {i:Nat}{t:DE}{a:Int}(e:ρ[i]?=some (some (.int a)))(h:t ρ S fun y S1=>∃ b,y=.int b/\nx (ρ.set i (some (.int (a+b)))) S1):zlY i t ⟨nx,rt,bk,ct⟩ ρ S:=⟨a,e,h⟩
theorem zpQ {wi:DI}{g:DG}{t:DS}(h:wi ρ S fun J S1=>zmh nx rt g t ρ J S1):zeb wi g t ⟨nx,rt,bk,ct⟩ ρ S:=h
theorem znU {c:DT}{t:DS}(W:Nat->Rho->Sto->Prop)(m:Nat)(h0:W m ρ S)(h:∀ m ρ S,W m ρ S->c ρ S fun b S1=>if b=true then zmB W m t rt nx ρ S1 else nx ρ S1):zgx c t ⟨nx,rt,bk,ct⟩ ρ S:=⟨W,⟨m,h0⟩,h⟩
theorem zkX {t:DS}{W:Nat->Rho->Sto->Prop}{m:Nat}(h:t ⟨fun ρ' S'=>∃ m',m'<m/\W m' ρ' S',rt,nx,fun ρ' S'=>∃ m',m'<m/\W m' ρ' S'⟩ ρ S):zmB W m t rt nx ρ S:=⟨_,fun _ _ z=>z,h⟩
theorem zmC {i:Nat}{d:D}{Q:Rho->Sto->Prop}(h:Q (ρ.set i (some d)) S):zB i d ρ S Q:=h
theorem zpl {Q:Rho->Sto->Prop}(h:Q ρ S):ze7 [] ρ S Q:=⟨rfl,h⟩
theorem znx {t:DG}{u:DGs}{d:D}{r:List D}{Q:Rho->Sto->Prop}(h:t d ρ S fun ρ' S'=>u r ρ' S' Q):zbh t u (d::r) ρ S Q:=⟨d,r,rfl,h⟩
theorem zoN {n:Nat}{t:DGs}{xs:List D}{Q:Rho->Sto->Prop}(e:xs.length=n)(h:t xs ρ S Q):zfs n t (.tup xs) ρ S Q:=⟨xs,rfl,e,h⟩
theorem zoB {to ti:DE}{d:D}{Q:Rho->Sto->Prop}(h:to ρ S fun o S1=>ti ρ S1 fun i S2=>zmt d ρ Q o i S2):zh7 to ti d ρ S Q:=h
theorem zeS {i:Nat}{d:D}{Q:DK}(h:ρ[i]?=some (some d))(q:Q d S):zj i ρ S Q:=⟨d,h,q⟩
theorem r_c {d:D}{Q:DK}(q:Q d S):dC d ρ S Q:=q
theorem zjD {r:DR2}{ta tb:DE}{Q:DK}(h:ta ρ S fun x S1=>tb ρ S1 fun y S2=>r x y S2 Q):dOp r ta tb ρ S Q:=h
theorem zro {r:D->Sto->DK->Prop}{ta:DE}{Q:DK}(h:ta ρ S fun x S1=>r x S1 Q):dUn r ta ρ S Q:=h
theorem zqc {Q:List D->Sto->Prop}(h:Q [] S):zu ρ S Q:=h
theorem zic {ta:DE}{tr:DA}{Q:List D->Sto->Prop}(h:ta ρ S fun x S1=>tr ρ S1 fun xs S2=>Q (x::xs) S2):zc ta tr ρ S Q:=h
theorem zmu {t:DA}{Q:DK}(h:t ρ S fun xs S1=>xs.length<=big/\Q (.tup xs) S1):dTup t ρ S Q:=h
theorem zqJ {t:DA}{Q:DK}(h:t ρ S fun xs S1=>xs.length<=big/\New Q S1 xs):zat t ρ S Q:=h
theorem zqb {xs:List D}{P:Prop}(h:Nat.ble xs.length big=true)(q:P):xs.length<=big/\P:=⟨Nat.le_of_ble_eq_true h,q⟩
theorem zot {f:DSp}{t:DA}{Q:DK}(h:t ρ S fun xs S1=>f xs S1 Q):dCall f t ρ S Q:=h
theorem r_b {r:DB}{t:DA}{Q:DK}(h:t ρ S fun xs S1=>r xs S1 Q):dB r t ρ S Q:=h
theorem r_m {r:DM}{ta:DE}{t:DA}{Q:DK}(h:ta ρ S fun x S1=>(∃ n ys,x=.ref n/\S1[n]?=some (.lst ys))/\t ρ S1 fun xs S2=>r x xs S2 Q):dM r ta t ρ S Q:=h
theorem zpx {n:Nat}{ys:List D}{P:Prop}(h:S[n]?=some (.lst ys))(q:P):(∃ m ys,D.ref n=.ref m/\S[m]?=some (.lst ys))/\P:=⟨⟨n,ys,rfl,h⟩,q⟩
theorem r_t {t:DE}{Q:Bool->Sto->Prop}(h:t ρ S fun x S1=>∃ b,x=.bl b/\Q b S1):dT t ρ S Q:=h
theorem zq4 {c:Bool}{P:Bool->Prop}(h:P c):∃ b,D.bl c=D.bl b/\P b:=⟨c,rfl,h⟩
theorem zpH {c:Int}{P:Int->Prop}(h:P c):∃ b,D.int c=D.int b/\P b:=⟨c,rfl,h⟩
theorem zqN {t u:DT}{Q:Bool->Sto->Prop}(h:t ρ S fun c S1=>if c=true then u ρ S1 Q else Q false S1):zeE t u ρ S Q:=h
theorem zq2 {t u:DT}{Q:Bool->Sto->Prop}(h:t ρ S fun c S1=>if c=true then Q true S1 else u ρ S1 Q):dOr t u ρ S Q:=h
theorem zqm {t:DT}{Q:Bool->Sto->Prop}(h:t ρ S fun c S1=>Q (!c) S1):zeC t ρ S Q:=h
theorem zn1 {t u:DE}{Q:DK}(h:t ρ S fun x S1=>∃ c,x=.bl c/\if c=true then u ρ S1 Q else Q (.bl false) S1):zfx t u ρ S Q:=h
theorem zow {t:DE}{Q:DK}(h:t ρ S fun x S1=>∃ c,x=.bl c/\Q (.bl (!c)) S1):zfC t ρ S Q:=h
theorem zpz {f:Str}{ta:DE}{Q:DK}(h:ta ρ S fun x S1=>∃ n c fs d,x=.ref n/\S1[n]?=some (.ins c fs)/\fs.lookup f=some d/\Q d S1):zhb f ta ρ S Q:=h
theorem zq8 {r:D->Option Int->Option Int->Sto->DK->Prop}{ta:DE}{lo hi:Option DE}{Q:DK}(h:ta ρ S fun x S1=>zf4 lo ρ S1 fun l S2=>zf4 hi ρ S2 fun h S3=>r x l h S3 Q):dSl r ta lo hi ρ S Q:=h
theorem zo2 {Q:Option Int->Sto->Prop}(h:Q none S):zf4 none ρ S Q:=h
theorem zpf {t:DE}{Q:Option Int->Sto->Prop}(h:t ρ S fun x S1=>∃ i,x=.int i/\Q (some i) S1):zf4 (some t) ρ S Q:=h
theorem znR {Q:Bool->Sto->Prop}(h:Q true S):zbj ρ S Q:=h
end
section
variable {S:Sto}{Q:DK}
theorem zpY {i j:Int}(q:Q (.int (i+j)) S):zX (.int i) (.int j) S Q:=.inl ⟨i,j,rfl,rfl,q⟩
theorem zaS {x y:D}{xs ys:List D}(hx:Lst S x xs)(hy:Lst S y ys)(h:xs.length+ys.length<=big)(q:New Q S (xs++ys)):zX x y S Q:=.inr (.inr (.inl ⟨xs,ys,hx,hy,h,q⟩))
theorem ziP {i j:Str}(h:i.length+j.length<=big)(q:Q (.str (i++j)) S):zX (.str i) (.str j) S Q:=.inr (.inr (.inr ⟨i,j,rfl,rfl,h,q⟩))
theorem zpJ {i j:Int}(q:Q (.int (i-j)) S):zax (.int i) (.int j) S Q:=⟨i,j,rfl,rfl,q⟩
theorem zpA {i j:Int}(c:zaE i j)(q:Q (.int (i*j)) S):zaA (.int i) (.int j) S Q:=.inl ⟨i,j,rfl,rfl,c,q⟩
theorem zlf {z:Str}{n:Int}(hz:z.length<=1000)(h0:-1000<=n)(h1:n<=1000)(q:Q (.str (zj0 z n)) S):zaA (.str z) (.int n) S Q:=.inr (.inl ⟨z,n,rfl,rfl,hz,h0,h1,q⟩)
theorem zkr {i j:Int}(hi:Hg i)(hj:Hg j)(q:Q (.int (i*j)) S):zaA (.int i) (.int j) S Q:=.inr (.inr ⟨i,j,rfl,rfl,⟨hi,hj⟩,q⟩)
theorem zpS {c:Nat}{z:Str}(q:Q (.bl (decide (c∈z.cps.toList))) S):oIn (.str ⟨#[c]⟩) (.str z) S Q:=.inr ⟨c,z,rfl,rfl,q⟩
theorem zlM {c:Nat}{z:Str}(q:Q (.bl (!decide (c∈z.cps.toList))) S):ziw (.str ⟨#[c]⟩) (.str z) S Q:=.inr ⟨c,z,rfl,rfl,q⟩
theorem zqr {i j:Int}(c:0<j/\My.Bd 8000 j)(q:Q (.int (i/j)) S):oDiv (.int i) (.int j) S Q:=⟨i,j,rfl,rfl,⟨by omega,c.2⟩,by show Q (.int (i.fdiv j)) S;rw [Int.fdiv_eq_ediv_of_nonneg i (by omega)];exact q⟩
theorem zp9 {i j:Int}(c:0<j)(q:Q (.int (i%j)) S):oMod (.int i) (.int j) S Q:=⟨i,j,rfl,rfl,(by show j≠0;omega),by show Q (.int (i.fmod j)) S;rw [Int.fmod_eq_emod_of_nonneg i (by omega)];exact q⟩
theorem zkN {i j:Int}(c:zmA i j)(q:Q (.int (i.fdiv j)) S):oDiv (.int i) (.int j) S Q:=⟨i,j,rfl,rfl,c,q⟩
theorem zoX {i j:Int}(c:j≠0)(q:Q (.int (i.fmod j)) S):oMod (.int i) (.int j) S Q:=⟨i,j,rfl,rfl,c,q⟩
theorem zqg {i:Int}(q:Q (.int (-i)) S):zeV (.int i) S Q:=⟨i,rfl,q⟩
theorem zqP {i j:Int}(q:Q (.bl (decide (i<j))) S):oLt (.int i) (.int j) S Q:=⟨i,j,rfl,rfl,q⟩
theorem zq9 {i j:Int}(q:Q (.bl (decide (i<=j))) S):oLe (.int i) (.int j) S Q:=⟨i,j,rfl,rfl,q⟩
theorem zrc {i j:Int}(q:Q (.bl (decide (j<i))) S):oGt (.int i) (.int j) S Q:=⟨i,j,rfl,rfl,q⟩
theorem zpE {i j:Int}(q:Q (.bl (decide (i=j))) S):oEq (.int i) (.int j) S Q:=⟨_,.inl ⟨rfl,rfl,rfl⟩,q⟩
theorem zqj {i j:Int}(q:Q (.bl (!decide (i=j))) S):oNe (.int i) (.int j) S Q:=⟨_,.inl ⟨rfl,rfl,rfl⟩,q⟩
theorem zqE {i j:Bool}(q:Q (.bl (!(i==j))) S):oNe (.bl i) (.bl j) S Q:=⟨_,.inl ⟨rfl,rfl,rfl⟩,q⟩
theorem zoQ {i:Int}(q:Q (.bl true) S):zjY (.int i) .non S Q:=.inl ⟨rfl,q⟩
theorem zqu {x:D}(q:Q (.bl (!zjC x)) S):zjY x .non S Q:=.inl ⟨rfl,q⟩
theorem zp3 {xs:List D}{i:Int}{d:D}(e:atD xs i=some d)(q:Q d S):oIx (.tup xs) (.int i) S Q:=.inl ⟨i,xs,d,rfl,.inl rfl,e,q⟩
theorem zjB {x:D}{xs:List D}{i:Int}{d:D}(h:Lst S x xs)(e:atD xs i=some d)(q:Q d S):oIx x (.int i) S Q:=.inl ⟨i,xs,d,rfl,.inr h,e,q⟩
theorem zgA {z:Str}{i:Int}{c:Nat}(hz:z.length<=big)(e:atS z i=some c)(q:Q (.str ⟨#[c]⟩) S):oIx (.str z) (.int i) S Q:=.inr ⟨z,i,c,rfl,rfl,hz,e,q⟩
theorem zoM {x:D}{xs:List D}{lo hi:Option Int}(h:Lst S x xs)(q:New Q S (cutD xs lo hi)):zc5 x lo hi S Q:=.inr (.inl ⟨xs,h,q⟩)
theorem zpe {xs:List D}(q:Q (.int xs.length) S):zan [.tup xs] S Q:=.inl ⟨_,xs,rfl,.inl rfl,q⟩
theorem zoS {x:D}{xs:List D}(h:Lst S x xs)(q:Q (.int xs.length) S):zan [x] S Q:=.inl ⟨_,xs,rfl,.inr h,q⟩
theorem zge {z:Str}(hz:z.length<=big)(q:Q (.int z.length) S):zan [.str z] S Q:=.inr ⟨z,rfl,hz,q⟩
theorem zqd {i:Int}(q:Q (.int (i.natAbs:Int)) S):zhS [.int i] S Q:=⟨i,rfl,q⟩
theorem zqF {x:D}{bs:List Bool}(h:Lst S x (bs.map D.bl))(q:Q (.bl (bs.all id)) S):zfo [x] S Q:=⟨x,bs,rfl,h,q⟩
theorem zne {x:D}{xs:List D}(h:Lst S x xs)(q:New Q S xs):zdY [x] S Q:=⟨_,xs,rfl,.inr h,q⟩
theorem zoq {b:Bool}(q:Q (.int (if b then 1 else 0)) S):zlG [.bl b] S Q:=.inr ⟨b,rfl,q⟩
theorem zl9 {n:Nat}{xs:List D}{y:D}(h:S[n]?=some (.lst xs))(hl:xs.length<big)(q:Put (Q .non) S n (.lst (xs++[y]))):zdG (.ref n) [y] S Q:=⟨n,xs,y,rfl,rfl,h,hl,q⟩
theorem zpI {n:Nat}{xs:List D}{k:Int}{j:Nat}{d:D}{ρ:Rho}{Q:Rho->Sto->Prop}(h:S[n]?=some (.lst xs))(e:ixD xs.length k=some j)(q:Put (Q ρ) S n (.lst (xs.set j d))):zmt d ρ Q (.ref n) (.int k) S:=⟨n,xs,k,j,rfl,rfl,h,e,q⟩
end
section
variable {ρ:Rho}{S:Sto}{R:DIt->Sto->Prop}
theorem zoO {t:DE}(h:t ρ S fun x S1=>zgw x S1 R):zc0 t ρ S R:=h
theorem zqn {xs:List D}(q:R ⟨xs,fun _=>True⟩ S):zgw (.tup xs) S R:=.inl ⟨xs,rfl,q⟩
theorem zpX {x:D}{xs:List D}(h:Lst S x xs)(q:R ⟨xs,fun S=>Lst S x xs⟩ S):zgw x S R:=.inr (.inl ⟨xs,h,q⟩)
theorem zp4 {z:Str}(q:R ⟨signs z,fun _=>True⟩ S):zgw (.str z) S R:=.inr (.inr ⟨z,rfl,q⟩)
theorem zn9 {t:DA}(h:t ρ S fun vs S1=>∃ j:Int,vs=[.int j]/\-(2 ^ 62)<=j/\j<2 ^ 62/\R ⟨upto 0 j.toNat,fun _=>True⟩ S1):zbM t ρ S R:=h
theorem znY {t:DA}(h:t ρ S fun vs S1=>∃ i j:Int,vs=[.int i,.int j]/\R ⟨upto i (j-i).toNat,fun _=>True⟩ S1):zhQ t ρ S R:=h
theorem zoz {Q:DK}{x:D}{zs:List Str}(hx:Lst S x (zs.map D.str))(hl:zs.length<=4000)(q:Q (.int (zjI zs)) S):zjZ [x] S Q:=⟨x,zs,rfl,hx,hl,q⟩
theorem zqT {own:Nat}{fv:List Nat}{wi:DI}{g:DG}{tc:DT}{te:DE}{Q:DK}(h:wi ρ S fun J S1=>zl8 own fv g tc te ρ Q J S1):dLC own fv wi g tc te ρ S Q:=h
end
theorem zlo {A B:Prop}(h:B):if false=true then A else B:=by rw [if_neg Bool.false_ne_true];exact h
theorem zlz {A B:Prop}(h:A):if true=true then A else B:=by rw [if_pos rfl];exact h
theorem r_d {c A B:Prop}[Decidable c](h1:c->A)(h2:¬ c->B):if decide c=true then A else B:=by
 by_cases h:c
 ·rw [decide_eq_true h,if_pos rfl];exact h1 h
 ·rw [decide_eq_false h,if_neg Bool.false_ne_true];exact h2 h
theorem zjK {c A B:Prop}[Decidable c](h1:¬ c->A)(h2:c->B):if (!decide c)=true then A else B:=by
 by_cases h:c
 ·rw [decide_eq_true h];exact h2 h
 ·rw [decide_eq_false h];exact h1 h
theorem zbC (S T:Sto)(k:Nat):(S++T)[S.length+k]?=T[k]?:=by
 rw [List.getElem?_append_right (Nat.le_add_right _ _),Nat.add_sub_cancel_left]
theorem znI (S T:Sto):(S++T)[S.length]?=T[0]?:=zbC S T 0
theorem zbB {S T:Sto}{c:Cell}:(S++c::T)[S.length]?=some c:=(zbC S (c::T) 0).trans rfl
theorem zjq {S T:Sto}{c:Cell}:(S++(T++[c]))[S.length+T.length]?=some c:=by rw [zbC,List.getElem?_append_right (Nat.le_refl _),Nat.sub_self];rfl
theorem zmI (S T:Sto)(k:Nat)(c:Cell):(S++T).set (S.length+k) c=S++T.set k c:=by
 rw [List.set_append_right _ _ (Nat.le_add_right _ _),Nat.add_sub_cancel_left]
theorem zbN (S T:Sto)(a c:Cell):(S++a::T).set S.length c=S++c::T:=zmI S (a::T) 0 c
theorem zbK {S T:Sto}{n:Nat}{c:Cell}(h:S[n]?=some c):(S++T)[n]?=some c:=by
 have:n<S.length:=by
  rcases Nat.lt_or_ge n S.length with g | g
  ·exact g
  ·rw [List.getElem?_eq_none g] at h;cases h
 rw [List.getElem?_append_left this];exact h
theorem Lst.old {S T:Sto}{x:D}{xs:List D}(h:Lst S x xs):Lst (S++T) x xs:=h.imp id fun⟨n,e,h⟩=>⟨n,e,zbK h⟩
theorem Lst.at {S T:Sto}{k:Nat}{xs:List D}(h:T[k]?=some (.lst xs)):Lst (S++T) (.ref (S.length+k)) xs:=.inr ⟨_,rfl,by rw [zbC];exact h⟩
theorem Lst.at0 {S T:Sto}{xs:List D}:Lst (S++.lst xs::T) (.ref S.length) xs:=.inr ⟨_,rfl,by rw [znI];rfl⟩
theorem Lst.new {S T:Sto}{xs:List D}:Lst (S++(T++[.lst xs])) (.ref (S.length+T.length)) xs:=.inr ⟨_,rfl,zjq⟩
theorem Lst.rl {S:Sto}{xs:List D}:Lst S (.rl xs) xs:=.inl rfl
theorem Lst.here {S:Sto}{n:Nat}{xs:List D}(h:S[n]?=some (.lst xs)):Lst S (.ref n) xs:=.inr ⟨n,rfl,h⟩
theorem zbf {S T:Sto}{Q:DK}{d:D}(h:fl 20 d=true)(q:Q d S):Fin S Q d (S++T):=.inr ⟨S,List.prefix_append _ _,Nat.le_refl _,.inl h,fun _ _ e=>.inl e,q⟩
theorem fin_same {S S':Sto}{Q:DK}{d:D}(q:Q d S'):Fin S Q d S':=.inl q
section
variable {S:Sto}{Q:DK}
theorem zhL {i:Int}(q:Q (.bl true) S):zf2 [.int i,.ty "int"] S Q:=⟨_,_,true,rfl,by rfl,q⟩
theorem zgU {i:Int}(q:Q (.bl false) S):zf2 [.int i,.ty "bool"] S Q:=⟨_,_,false,rfl,by rfl,q⟩
theorem zgg {xs:List D}(q:Q (.bl true) S):zf2 [.tup xs,.ty "tuple"] S Q:=⟨_,_,true,rfl,by rfl,q⟩
end
theorem zqA {A B:Prop}(h:B):if (!true)=true then A else B:=zlo h
theorem zpR {A B:Prop}(h:A):if (!false)=true then A else B:=zlz h
theorem zdj {S:Sto}{Q:DK}{x:D}{bs:List Bool}{b:Bool}(h:Lst S x (bs.map D.bl))(e:bs.all id=b)(q:Q (.bl b) S):zfo [x] S Q:=zqF h (by rw [e];exact q)
def LcW (S:Sto)(items:List D)(p:D->Bool)(f:D->D)(i:Nat)(ys:List D)(S':Sto):Prop:=S'=S/\ys=((items.take i).filter p).map f
theorem zeT {α:Type}{xs:List α}{i:Nat}{x:α}(h:xs[i]?=some x):xs.take (i+1)=xs.take i++[x]:=by rw [List.take_succ,h];rfl
theorem zb9 {S:Sto}{items:List D}{p:D->Bool}{f:D->D}{i:Nat}{ys:List D}{d y:D}(hd:items[i]?=some d)(hw:LcW S items p f i ys S)(hp:p d=true)(hy:y=f d):LcW S items p f (i+1) (ys++[y]) S :=
 ⟨rfl,by rw [zeT hd,List.filter_append,List.map_append,<- hw.2,List.filter_cons_of_pos hp,hy];rfl⟩
theorem za1 {own:Nat}{fv:List Nat}{xs:List D}{ok:Sto->Prop}{g:DG}{tc:DT}{te:DE}{ρ:Rho}{S:Sto}{Q:DK}(p:D->Bool)(f:D->D)(hok:ok S)(hbig:xs.length<=big)
  (step:∀ i d ys,xs[i]?=some d->LcW S xs p f i ys S->g d (zfY own fv ρ) S fun ρ2 S2=>tc ρ2 S2 fun b S3=>if b=true then te ρ2 S3 fun y S4=>LcW S xs p f (i+1) (ys++[y]) S4 else LcW S xs p f (i+1) ys S3)
  (q:New Q S ((xs.filter p).map f)):zl8 own fv g tc te ρ Q ⟨xs,ok⟩ S:=by
 refine⟨hbig,LcW S xs p f,⟨rfl,by simp⟩,fun i ys S' h=>by rw [h.1];exact hok,fun i d ys S' hd h=>?_,fun ys S' h=>?_⟩
 ·obtain⟨rfl,_⟩:=id h
  exact step i d ys hd h
 ·obtain⟨rfl,rfl⟩:=h
  rw [List.take_length];exact q
theorem filter_true {α:Type}(xs:List α):xs.filter (fun _=>true)=xs:=List.filter_eq_self.mpr fun _ _=>rfl
theorem zbW {ds:List D}{i:Nat}{d:D}(h:ds[i]?=some d):atD ds (i:Int)=some d:=by
 have hl:i<ds.length:=by
  rcases Nat.lt_or_ge i ds.length with g | g
  ·exact g
  ·rw [List.getElem?_eq_none g] at h;cases h
 unfold atD ixD
 rw [if_pos (by omega),if_pos (by omega)]
 simpa using h
theorem zbs {lo:Int}{n i:Nat}{d:D}(h:(upto lo n)[i]?=some d):i<n/\d=.int (lo+i):=by
 unfold upto at h
 rw [List.getElem?_map] at h
 by_cases hi:i<n
 ·rw [List.getElem?_range hi] at h
  exact⟨hi,by simpa using h.symm⟩
 ·rw [List.getElem?_eq_none (by simpa using hi)] at h;cases h
theorem zay (lo:Int)(n:Nat):(upto lo n).length=n:=by unfold upto;simp
theorem zdO {zs:List Int}{k:Int}(h0:0<=k)(h:k<zs.length):∃ z,z∈zs/\atD (zs.map D.int) k=some (.int z):=by
 refine⟨zs[k.toNat]'(by omega),List.getElem_mem _,?_⟩
 unfold atD ixD
 rw [List.length_map,if_pos h0,if_pos h]
 simp only [Option.bind_some]
 rw [List.getElem?_map,List.getElem?_eq_getElem (by omega)];rfl
theorem zpd {zs:List Int}{k:Int}(h0:0<=k)(h:k<zs.length):ixD (zs.map D.int).length k=some k.toNat:=by
 unfold ixD
 rw [List.length_map,if_pos h0,if_pos h]
theorem zlw {zs:List Int}{i:Nat}{v z:Int}(h:z∈zs.set i v):z∈zs\/z=v:=by
 rcases List.mem_or_eq_of_mem_set h with h | h
 ·exact .inl h
 ·exact .inr h
theorem zjh {zs:List Int}{i:Nat}{d:D}(h:(zs.map D.int)[i]?=some d):∃ z,zs[i]?=some z/\d=.int z:=by
 rw [List.getElem?_map] at h
 cases e:zs[i]? with
 | none=>rw [e] at h;cases h
 | some p=>rw [e] at h;cases h;exact⟨p,rfl,rfl⟩
theorem zcU {α:Type}{xs:List α}{i:Nat}{x:α}(h:xs[i]?=some x):i<xs.length:=by
 rcases Nat.lt_or_ge i xs.length with g | g
 ·exact g
 ·rw [List.getElem?_eq_none g] at h;cases h
def zcd:Option Int->D
 | none=>.non
 | some v=>.int v
theorem zmG {S G:Sto}{Q:DK}{xs:List D}(h:fc (.lst xs)=true)(q:New Q S xs):Fin S Q (.ref S.length) (S++Cell.lst xs::G) :=
 .inr ⟨S++[Cell.lst xs],⟨G,by simp⟩,by simp,.inr ⟨_,rfl,by simp⟩,(fun n c hn=>by
  rcases Nat.lt_or_ge n S.length with g | g
  ·rw [List.getElem?_append_left g] at hn;exact .inl hn
  ·have hl2:=zcU hn
   rw [List.length_append] at hl2
   have e:n=S.length:=by simp at hl2;omega
   subst e
   rw [List.getElem?_append_right (Nat.le_refl _),Nat.sub_self] at hn
   have:Cell.lst xs=c:=by simpa using hn
   subst this
   exact .inr h),q⟩
theorem Hg.of {n:Nat}{x:Int}(h:My.Bd n x)(hn:n<=1048576):Hg x:=by
 unfold Hg;exact Nat.lt_of_lt_of_le h (Nat.pow_le_pow_right (by decide) hn)
def zdQ:DSp:=fun ds S Q=>∃ ns:List Int,ds=[.rl (ns.map D.int)]/\(S=[]/\∀ n∈ns,Hg n)/\ns.length<=63/\∀ S',Q (.bl true) S'
theorem zm4:∀ ds So Q,zdQ ds So Q->ds.length=1:=fun ds So Q ⟨ns,e,_⟩=>by rw [e];rfl
theorem zgP {α β:Type}(f:α->β)(xs:List α)(lo hi:Option Int):cutD (xs.map f) lo hi=(cutD xs lo hi).map f:=by
 unfold cutD
 rw [List.length_map,List.map_take,List.map_drop]
theorem zb3 {α:Type}(xs:List α)(lo hi:Option Int):(cutD xs lo hi).length<=slD xs.length xs.length hi-slD xs.length 0 lo:=by
 unfold cutD
 rw [List.length_take];omega
def onI (f:Int->D):D->D
 | .int h=>f h
 | d=>d
section
variable {nx:Rho->Sto->Prop}{rt:DK}{bk ct:Rho->Sto->Prop}{ρ:Rho}{S:Sto}
theorem znA {f:zbL}{ex:XR}{t:DA}{Q:DK}(h:t ρ S fun xs S1=>f xs S1 Q (ex ρ)):zbS f ex t ρ S Q:=h
theorem zmQ {ex:XR}{c:Str}(h:ex ρ c S):zbD ex c ⟨nx,rt,bk,ct⟩ ρ S:=h
theorem zqz {tbl:List (Str×Bool)}{t:DE}{Q:DK}(h:t ρ S fun x S1=>∃ c b,x=.exn c/\tbl.lookup c=some b/\Q (.bl b) S1):zdq tbl t ρ S Q:=h
theorem zoJ {tbl:List (Str×Bool)}{c:Str}{b:Bool}{P:Bool->Prop}(e:tbl.lookup c=some b)(q:P b):∃ c' b',D.exn c=.exn c'/\tbl.lookup c'=some b'/\P b':=⟨c,b,rfl,e,q⟩
theorem zqH {i:Nat}{ok:List Str}{b:XR->DS}{h:DS}(g:b (fun ρ' c S'=>ok.contains c=true/\h ⟨fun ρ2 S2=>nx (ρ2.set i none) S2,rt,fun _ _=>False,fun _ _=>False⟩ (ρ'.set i (some (.exn c))) S') ⟨nx,rt,bk,ct⟩ ρ S):zlB i ok b h ⟨nx,rt,bk,ct⟩ ρ S:=g
end
theorem zqC {S:Sto}{Q:DK}{x y:D}{xs ys:List D}{b:Bool}(hx:Lst S x xs)(hy:Lst S y ys)(fx:xs.all (fl 20)=true)(fy:ys.all (fl 20)=true)(e:eqvAll xs ys=b)(q:Q (.bl b) S):oEq x y S Q:=⟨_,.inr (.inl ⟨xs,ys,hx,hy,fx,fy,rfl⟩),by rw [e];exact q⟩
theorem zqL {S:Sto}{Q:DK}{x y:D}{xs ys:List D}{b:Bool}(hx:Lst S x xs)(hy:Lst S y ys)(fx:xs.all (fl 20)=true)(fy:ys.all (fl 20)=true)(e:eqvAll xs ys=b)(q:Q (.bl (!b)) S):oNe x y S Q:=⟨_,.inr (.inl ⟨xs,ys,hx,hy,fx,fy,rfl⟩),by rw [e];exact q⟩
section
variable {nx:Rho->Sto->Prop}{rt:DK}{bk ct:Rho->Sto->Prop}{ρ:Rho}{S:Sto}{Q:DK}{td ti tz tv:DE}
end
section
variable {κ:Type}[DecidableEq κ]
end
theorem zeJ (c:List Str)(z:Str):(zeN c z).length=if c.any (·==z) then c.length else c.length+1:=by
  unfold zeN;split<;>simp
theorem ziq (c:List Str)(z y:Str):(zeN c z).any (·==y)=(c.any (·==y)||decide (y=z)):=by
  unfold zeN
  by_cases h:c.any (·==z)=true
  · rw [if_pos h]
    by_cases e:y=z
    · subst e;rw [h];rfl
    · rw [decide_eq_false e,Bool.or_false]
  · rw [if_neg h,List.any_append]
    congr 1
    by_cases e:y=z
    · subst e;simp
    · rw [decide_eq_false e]
      have:(z==y)=false:=beq_eq_false_iff_ne.mpr fun q=>e q.symm
      simp [this]
theorem zfH (f:Nat->Str):∀ i,(zbw f i).length<=i
  | 0=>Nat.le_refl _
  | i+1=>by
    have:=zfH f i
    show (zeN (zbw f i) (f i)).length<=i+1
    rw [zeJ];split<;>omega
theorem zfS (f:Nat->Str)(y:Str):∀ i,((zbw f i).any (·==y)=true↔∃ j,j<i/\f j=y)
  | 0=>⟨fun h=>(by simp [zbw] at h),fun⟨j,hj,_⟩=>(by omega)⟩
  | i+1=>by
    show ((zeN (zbw f i) (f i)).any (·==y)=true)↔_
    rw [ziq,Bool.or_eq_true,zfS f y i,decide_eq_true_eq]
    constructor
    · rintro (⟨j,hj,e⟩ | e)
      · exact⟨j,by omega,e⟩
      · exact⟨i,by omega,e.symm⟩
    · rintro⟨j,hj,e⟩
      rcases Nat.lt_or_ge j i with h | h
      · exact .inl ⟨j,h,e⟩
      · have:j=i:=by omega
        subst this;exact .inr e.symm
theorem ziC (f:Nat->Str):∀ i,(∀ a b,a<b->b<i->f a≠f b)->(zbw f i).length=i
 | 0,_=>rfl
 | i+1,h=>by
  show (zeN (zbw f i) (f i)).length=i+1
  rw [zeJ,ziC f i fun a b x y=>h a b x (by omega)]
  rw [if_neg]
  intro z
  obtain⟨j,hj,e⟩:=(zfS f (f i) i).mp z
  exact h j i hj (by omega) e
theorem zix (f:Nat->Str){a b:Nat}(hab:a<b)(e:f a=f b):∀ i,b<i->(zbw f i).length<i
  | 0,h=>by omega
  | i+1,h=>by
    show (zeN (zbw f i) (f i)).length<i+1
    rw [zeJ]
    rcases Nat.lt_or_ge b i with g | g
    · have:=zix f hab e i g
      split<;>omega
    · have eb:b=i:=by omega
      subst eb
      rw [if_pos ((zfS f (f b) b).mpr ⟨a,hab,e⟩)]
      have:=zfH f b
      omega
theorem zj6 {zs:List Str}(h:zs.Nodup):zjI zs=zs.length:=ziC _ _ fun a b hab hb=>by
 show zs.getD a Str.empty≠zs.getD b Str.empty
 rw [List.getD_eq_getElem?_getD,List.getD_eq_getElem?_getD,List.getElem?_eq_getElem hb,List.getElem?_eq_getElem (show a<zs.length by omega)]
 exact List.pairwise_iff_getElem.mp h a b (by omega) hb hab
theorem zlE {zs:List Str}{a b:Nat}{z:Str}(hab:a<b)(ha:zs[a]?=some z)(hb:zs[b]?=some z):zjI zs<zs.length :=
 zix _ hab (by show zs.getD a Str.empty=zs.getD b Str.empty;rw [List.getD_eq_getElem?_getD,List.getD_eq_getElem?_getD,ha,hb]) _ (by
  rcases Nat.lt_or_ge b zs.length with g | g
  ·exact g
  ·rw [List.getElem?_eq_none g] at hb;cases hb)
end Dp
namespace Rm
structure Pc where
 lo:Int
 hi:Int
 to:Int
 st:Int
instance:DecidableEq Pc:=fun p q=>if h:p.lo=q.lo/\p.hi=q.hi/\p.to=q.to/\p.st=q.st then isTrue (by cases p;cases q;obtain⟨h1,h2,h3,h4⟩:=h;cases h1;cases h2;cases h3;cases h4;rfl) else isFalse (fun e=>h (by subst e;exact⟨rfl,rfl,rfl,rfl⟩))
def Pc.led (p:Pc)(h:Int):Int:=p.to+p.st*(h-p.lo)
def Pc.fin (p:Pc):Int:=p.led p.hi
def inP (p:Pc)(h:Int):Prop:=p.lo<=h/\h<=p.hi
instance (p:Pc) (h:Int):Decidable (inP p h):=by unfold inP;infer_instance
def at':List Pc->Int->Option Int
 | [],_=>none
 | p::r,h=>if inP p h then some (p.led h) else at' r h
end Rm
namespace Dp
open PySem Rm
open PySem Rm My
theorem zlF {xs:List D}{x:D}:ixD (xs++[x]).length (-1)=some xs.length:=by
 have hl:((xs++[x]).length:Int)=xs.length+1:=by simp
 unfold ixD
 rw [if_neg (by omega),if_pos (by omega)]
 congr 1;omega
theorem zib {xs:List D}{x:D}:atD (xs++[x]) (-1)=some x:=by
 unfold atD
 rw [zlF]
 simp
theorem zjf (i:Int):∀ ns:List Int,((ns.map D.int).any fun z=>eqv z (.int i))=decide (i∈ns)
 | []=>by simp
 | a::r=>by
  rw [List.map_cons,List.any_cons,zjf i r]
  show (decide (a=i)||decide (i∈r))=decide (i∈a::r)
  by_cases h:a=i
  ·subst h;simp
  ·have:¬ i=a:=fun e=>h e.symm
   simp [h,this]
theorem znN (ns:List Int):(ns.map D.int).all (fl 20)=true:=by
 rw [List.all_map,List.all_eq_true]
 intro p _;rfl
theorem zj5 {S:Sto}{Q:DK}{x:D}{ns:List Int}{i:Int}(h:zf9 S x (ns.map D.int))(q:Q (.bl (decide (i∈ns))) S):oIn (.int i) x S Q:=.inl ⟨_,⟨_,h,rfl,znN ns,rfl⟩,by rw [zjf];exact q⟩
end Dp
namespace Rm
open My Dp
end Rm
namespace Dp
open PySem Rm My
end Dp
namespace Rm
open My Dp
end Rm
namespace Dp
open PySem Rm My
structure Fg where
 x0:Int
 x1:Int
 z0:Int
 z1:Int
 f:Int
 l:Int
 g:Int
 s:Int
abbrev fgD (F:Fg):D:=.tup [.int F.x0,.int F.x1,.int F.z0,.int F.z1,.int F.f,.int F.l,.int F.g,.int F.s]
structure FgB (F:Fg):Prop where
 x:F.x0<=F.x1
 z:F.z0<=F.z1
 b0:Bd 600 F.x0
 b1:Bd 600 F.x1
 b2:Bd 600 F.z0
 b3:Bd 600 F.z1
 bg:Bd 200 F.g
 bs:Bd 200 F.s
theorem Bd.btw {n:Nat}{a b x:Int}(ha:Bd n a)(hb:Bd n b)(h1:a<=x)(h2:x<=b):Bd n x:=by
 unfold Bd at *;omega
def flt (a b:Int×Int):Bool:=decide (a.1*b.2<b.1*a.2)
theorem zfI {cs:List (Int×Int)}{k:Int}(h0:0<=k)(h:k<cs.length):∃ c,cs[k.toNat]?=some c/\atD (cs.map p2) k=some (p2 c):=by
 have hk:k.toNat<cs.length:=by omega
 refine⟨cs[k.toNat],List.getElem?_eq_getElem hk,?_⟩
 have:=zbW (ds:=cs.map p2) (i:=k.toNat) (d:=p2 (cs[k.toNat])) (by rw [List.getElem?_map,List.getElem?_eq_getElem hk];rfl)
 rwa [show ((k.toNat:Nat):Int)=k by omega] at this
def lenV (ms:List (Int×Int)):Int:=(ms.map fun m=>m.2-m.1).sum
def Sv (c:Int×Int)(t b:Int):Prop:=0<c.2/\c.1*b=t*c.2
def hvT (a b p:Int×Int):Int:=if 0<b.1-a.1 then a.2*(b.1-a.1)*p.2+(b.2-a.2)*(p.1-a.1*p.2) else -(a.2*(b.1-a.1)*p.2+(b.2-a.2)*(p.1-a.1*p.2))
def hvB (a b p:Int×Int):Int:=if 0<b.1-a.1 then (b.1-a.1)*p.2 else -((b.1-a.1)*p.2)
theorem zgM {a b p:Int×Int}(h:b.1≠a.1)(hp:0<p.2):0<hvB a b p:=by
 unfold hvB
 split
 ·exact Int.mul_pos (by omega) hp
 ·have:=Int.mul_pos (show 0 < -(b.1-a.1) by omega) hp
  rw [Int.neg_mul] at this
  exact this
theorem znV {c d:Int×Int}{t b u e:Int}(hb:0<b)(he:0<e)(hc:Sv c t b)(hd:Sv d u e):flt c d=decide (t*e<u*b):=by
 obtain⟨c0,c1⟩:=hc
 obtain⟨d0,d1⟩:=hd
 unfold flt
 refine decide_eq_decide.mpr ?_
 have hbe:0<b*e:=Int.mul_pos hb he
 have hcd:0<c.2*d.2:=Int.mul_pos c0 d0
 rw [<- Int.mul_lt_mul_right hbe,<- Int.mul_lt_mul_right (b:=t*e) (c:=u*b) hcd]
 have e1:c.1*d.2*(b*e)=t*e*(c.2*d.2):=by
  have:c.1*d.2*(b*e)=c.1*b*(d.2*e):=by grind
  rw [this,c1];grind
 have e2:d.1*c.2*(b*e)=u*b*(c.2*d.2):=by
  have:d.1*c.2*(b*e)=d.1*e*(c.2*b):=by grind
  rw [this,d1];grind
 rw [e1,e2]
structure Grd (cs:List (Int×Int)):Prop where
 two:2<=cs.length
 most:cs.length<=40
 asc:cs.Pairwise fun a b=>a.1<b.1
 bd:∀ c∈cs,Bd 170 c.1/\Bd 190 c.2
def zf8 (cs:List (Int×Int)):Int:=(cs.getD 0 (0,0)).1
def zew (cs:List (Int×Int)):Int:=(cs.getD (cs.length-1) (0,0)).1
def OnG (cs:List (Int×Int))(p:Int×Int):Prop:=zf8 cs*p.2<=p.1/\p.1<=zew cs*p.2
def zez:List (Int×Int)->Int×Int->Option ((Int×Int)×(Int×Int))
 | a::b::r,p=>if p.1<=b.1*p.2 then some (a,b) else zez (b::r) p
 | _,_=>none
theorem seg_at:∀ {cs:List (Int×Int)} {p:Int×Int} {k:Nat} {a b:Int×Int},cs[k]?=some a->cs[k+1]?=some b->p.1<=b.1*p.2->(∀ j c,1<=j->j<=k->cs[j]?=some c->c.1*p.2<p.1)->zez cs p=some (a,b)
 | [],p,k,a,b,h,_,_,_=>by simp at h
 | [x],p,0,a,b,_,h,_,_=>by simp at h
 | [x],p,k+1,a,b,h,_,_,_=>by simp at h
 | x::y::r,p,0,a,b,h1,h2,h3,_=>by
  simp at h1 h2
  subst h1 h2
  unfold zez
  rw [if_pos h3]
 | x::y::r,p,k+1,a,b,h1,h2,h3,h4=>by
  have:=h4 1 y (by omega) (by omega) rfl
  unfold zez
  rw [if_neg (by omega)]
  exact seg_at (by simpa using h1) (by simpa using h2) h3 fun j c j1 j2 hc=>h4 (j+1) c (by omega) (by omega) (by simpa using hc)
theorem zgC:∀ {cs:List (Int×Int)} {p:Int×Int},2<=cs.length->p.1<=zew cs*p.2->∃ k a b,cs[k]?=some a/\cs[k+1]?=some b/\p.1<=b.1*p.2/\∀ j c,1<=j->j<=k->cs[j]?=some c->c.1*p.2<p.1
 | [],p,h,_=>by simp at h
 | [x],p,h,_=>by simp at h
 | [x,y],p,_,h=>⟨0,x,y,rfl,rfl,h,fun j c j1 j2=>by omega⟩
 | x::y::z::r,p,_,h=>by
  by_cases g:p.1<=y.1*p.2
  ·exact⟨0,x,y,rfl,rfl,g,fun j c j1 j2=>by omega⟩
  ·obtain⟨k,a,b,h1,h2,h3,h4⟩:=zgC (cs:=y::z::r) (p:=p) (by simp) h
   refine⟨k+1,a,b,by simpa using h1,by simpa using h2,h3,fun j c j1 j2 hc=>?_⟩
   cases j with
   | zero=>omega
   | succ j =>
    cases j with
    | zero=>simp at hc;subst hc;omega
    | succ j=>exact h4 (j+1) c (by omega) (by omega) (by simpa using hc)
theorem zbX {cs:List (Int×Int)}(g:Grd cs){i j:Nat}{a b:Int×Int}(hij:i<j)(ha:cs[i]?=some a)(hb:cs[j]?=some b):a.1<b.1:=by
 have h1:=zcU ha
 have h2:=zcU hb
 rw [List.getElem?_eq_getElem h1] at ha
 rw [List.getElem?_eq_getElem h2] at hb
 cases ha;cases hb
 exact List.pairwise_iff_getElem.mp g.asc i j h1 h2 hij
theorem zbV {cs:List (Int×Int)}(g:Grd cs):∃ a,cs[0]?=some a/\zf8 cs=a.1:=by
 have:=g.two
 obtain⟨a,h⟩:∃ a,cs[0]?=some a:=⟨cs[0],List.getElem?_eq_getElem (by omega)⟩
 exact⟨a,h,by unfold zf8;rw [List.getD_eq_getElem?_getD,h];rfl⟩
theorem zfT {cs:List (Int×Int)}(g:Grd cs):∃ a,cs[cs.length-1]?=some a/\zew cs=a.1:=by
 have:=g.two
 obtain⟨a,h⟩:∃ a,cs[cs.length-1]?=some a:=⟨cs[cs.length-1],List.getElem?_eq_getElem (by omega)⟩
 exact⟨a,h,by unfold zew;rw [List.getD_eq_getElem?_getD,h];rfl⟩
def GAt (S:Sto)(g:D)(cs:List (Int×Int)):Prop:=∃ n l,g=.ref n/\S[n]?=some (.ins "Ground" [("corners",.ref l)])/\S[l]?=some (.lst (cs.map p2))
theorem GAt.old {S T:Sto}{g:D}{cs:List (Int×Int)}(h:GAt S g cs):GAt (S++T) g cs:=let ⟨n,l,e,h1,h2⟩:=h;⟨n,l,e,zbK h1,zbK h2⟩
theorem zqG {S:Sto}{P:D->Prop}{n l:Nat}(h:S[n]?=some (.ins "Ground" [("corners",.ref l)]))(q:P (.ref l)):∃ m c fs d,D.ref n=.ref m/\S[m]?=some (.ins c fs)/\fs.lookup ("corners":Str)=some d/\P d:=⟨n,_,_,_,rfl,h,by simp [List.lookup_cons],q⟩
theorem ziA {cs:List (Int×Int)}(gr:Grd cs):∃ z,cs[cs.length-1]?=some z/\zew cs=z.1/\atD (cs.map p2) (-1)=some (p2 z):=by
 have g1:=gr.two
 obtain⟨z,hz,ez⟩:=zfT gr
 refine⟨z,hz,ez,?_⟩
 have hne:cs≠[]:=fun e=>by rw [e] at g1;simp at g1
 have en:cs=cs.dropLast++[z]:=by
  have h2:=List.dropLast_concat_getLast hne
  have h3:cs.getLast hne=z:=by
   rw [List.getLast_eq_getElem]
   have hl':=zcU hz
   rw [List.getElem?_eq_getElem hl'] at hz
   cases hz;rfl
  rw [h3] at h2
  exact h2.symm
 rw [en,List.map_append];exact zib
theorem zkA {cs:List (Int×Int)}(gr:Grd cs){c:Int×Int}(h:c∈cs):zf8 cs<=c.1/\c.1<=zew cs:=by
 obtain⟨a,ha,ea⟩:=zbV gr
 obtain⟨z,hz,ez⟩:=zfT gr
 obtain⟨i,hi,e⟩:=List.mem_iff_getElem.mp h
 have hc:cs[i]?=some c:=by rw [List.getElem?_eq_getElem hi,e]
 rw [ea,ez]
 constructor
 ·cases i with
  | zero=>rw [ha] at hc;cases hc;exact Int.le_refl _
  | succ i=>exact Int.le_of_lt (zbX gr (by omega) ha hc)
 ·rcases Nat.lt_or_ge i (cs.length-1) with g | g
  ·exact Int.le_of_lt (zbX gr g hc hz)
  ·have:i=cs.length-1:=by omega
   subst this
   rw [hz] at hc;cases hc;exact Int.le_refl _
structure Brk (cs:List (Int×Int))(p a b:Int×Int):Prop where
 ma:a∈cs
 mb:b∈cs
 lt:a.1<b.1
 lo:a.1*p.2<=p.1
 hi:p.1<=b.1*p.2
 no:∀ c∈cs,¬ (a.1<c.1/\c.1<b.1)
theorem zm8 {a b p:Int×Int}(h:a.1<b.1)(e:p.1=a.1*p.2):hvT a b p=a.2*hvB a b p:=by
 unfold hvT hvB
 rw [if_pos (by omega),if_pos (by omega),e]
 grind
theorem zje {cs:List (Int×Int)}(gr:Grd cs){p:Int×Int}(on:OnG cs p):∃ a b,zez cs p=some (a,b)/\Brk cs p a b:=by
 obtain⟨k,a,b,ha,hb,hle,hlt⟩:=zgC gr.two on.2
 refine⟨a,b,seg_at ha hb hle hlt,List.mem_of_getElem? ha,List.mem_of_getElem? hb,zbX gr (by omega) ha hb,?_,hle,fun c hc h=>?_⟩
 ·cases k with
  | zero =>
   obtain⟨f,hf,ef⟩:=zbV gr
   rw [ha] at hf
   cases hf
   have:=on.1
   rw [ef] at this
   exact this
  | succ k=>exact Int.le_of_lt (hlt (k+1) a (by omega) (by omega) ha)
 ·obtain⟨j,hj⟩:=List.mem_iff_getElem?.mp hc
  rcases Nat.lt_trichotomy j k with g | g | g
  ·have:=zbX gr g hj ha;omega
  ·subst g;rw [ha] at hj;cases hj;omega
  ·rcases Nat.lt_or_ge (k+1) j with g2 | g2
   ·have:=zbX gr g2 hb hj;omega
   ·have:j=k+1:=by omega
    subst this;rw [hb] at hj;cases hj;omega
theorem zmw {own:Nat}{fv:List Nat}{xs:List D}{ok:Sto->Prop}{g:DG}{tc:DT}{te:DE}{ρ:Rho}{S:Sto}{Q:DK}(W:Nat->List D->Sto->Prop)(h0:W 0 [] S)(hok:∀ i ys S,W i ys S->ok S)(hbig:xs.length<=big)
  (step:∀ i d ys S,xs[i]?=some d->W i ys S->g d (zfY own fv ρ) S fun ρ2 S2=>tc ρ2 S2 fun b S3=>if b=true then te ρ2 S3 fun y S4=>W (i+1) (ys++[y]) S4 else W (i+1) ys S3)
  (fin:∀ ys S,W xs.length ys S->New Q S ys):zl8 own fv g tc te ρ Q ⟨xs,ok⟩ S:=⟨hbig,W,h0,hok,step,fin⟩
def zby (cs:List (Int×Int))(s:Int×Int):Prop:=OnG cs (s.1,1)/\∀ a b,zez cs (s.1,1)=some (a,b)->hvT a b (s.1,1)<=s.2*hvB a b (s.1,1)
def zdf (t b:Int):Int:=-(-t/b)
theorem zm7 {t b:Int}(hb:0<b):t<=zdf t b*b/\(zdf t b-1)*b<t:=by
 unfold zdf
 have h1:=Int.ediv_mul_le (-t) (b:=b) (by omega)
 have h2:=Int.lt_ediv_add_one_mul_self (-t) hb
 rw [Int.neg_mul,Int.sub_mul,Int.neg_mul,Int.one_mul]
 rw [Int.add_mul,Int.one_mul] at h2
 omega
theorem zny {t b z:Int}(hb:0<b):zdf t b<=z↔t<=z*b:=by
 obtain⟨h1,h2⟩:=zm7 (t:=t) hb
 constructor
 ·intro h
  exact Int.le_trans h1 (Int.mul_le_mul_of_nonneg_right h (Int.le_of_lt hb))
 ·intro h
  rcases Int.lt_or_le z (zdf t b) with g | g
  ·have:=Int.mul_le_mul_of_nonneg_right (show z<=zdf t b-1 by omega) (Int.le_of_lt hb)
   omega
  ·exact g
theorem zjd {cs:List (Int×Int)}(gr:Grd cs){p r:Int×Int}{xx:Int}(bk:Brk cs (xx,1) p r):0<hvB p r (xx,1)/\Bd 171 (hvB p r (xx,1))/\Bd 400 (hvT p r (xx,1))/\Bd 192 (zdf (hvT p r (xx,1)) (hvB p r (xx,1))):=by
 have hpr:=bk.lt
 have hB:0<hvB p r (xx,1):=zgM (by omega) (show (0:Int)<1 by decide)
 obtain⟨bp1,bp2⟩:=gr.bd p bk.ma
 obtain⟨br1,br2⟩:=gr.bd r bk.mb
 have h1':p.1<=xx:=by have:p.1*1<=xx:=bk.lo;omega
 have h2':xx<=r.1:=by have:xx<=r.1*1:=bk.hi;omega
 have bx:Bd 171 xx:=(Bd.btw (n:=170) bp1 br1 h1' h2').mono (by decide)
 have bT:Bd 400 (hvT p r (xx,1)):=by
  have r1:Bd 171 (r.1-p.1):=Bd.sub br1 bp1
  have r2:Bd 191 (r.2-p.2):=Bd.sub br2 bp2
  have m1:Bd 361 (p.2*(r.1-p.1)):=Bd.mul bp2 r1
  have m2:Bd 172 (xx-p.1):=Bd.sub bx (bp1.mono (by decide))
  have m3:Bd 363 ((r.2-p.2)*(xx-p.1)):=Bd.mul r2 m2
  unfold hvT
  rw [if_pos (by omega)]
  dsimp only
  rw [Int.mul_one,Int.mul_one]
  exact (Bd.add (n:=363) (m1.mono (by decide)) m3).mono (by decide)
 have bB:Bd 171 (hvB p r (xx,1)):=by
  unfold hvB
  rw [if_pos (by omega)]
  dsimp only
  rw [Int.mul_one]
  exact Bd.sub br1 bp1
 refine⟨hB,bB,bT,?_⟩
 have eT:hvT p r (xx,1)=p.2*(r.1-xx)+r.2*(xx-p.1):=by
  unfold hvT
  rw [if_pos (by omega)]
  dsimp only
  grind
 have eB:hvB p r (xx,1)=(r.1-xx)+(xx-p.1):=by
  unfold hvB
  rw [if_pos (by omega)]
  dsimp only
  omega
 have lo:-(2 ^ 190)*hvB p r (xx,1)<=hvT p r (xx,1):=by
  rw [eT,eB]
  have k1:=Int.mul_le_mul_of_nonneg_right (show -(2 ^ 190:Int)<=p.2 by unfold Bd at bp2;omega) (show 0<=r.1-xx by omega)
  have k2:=Int.mul_le_mul_of_nonneg_right (show -(2 ^ 190:Int)<=r.2 by unfold Bd at br2;omega) (show 0<=xx-p.1 by omega)
  rw [Int.mul_add]
  omega
 have hi:hvT p r (xx,1)<=2 ^ 190*hvB p r (xx,1):=by
  rw [eT,eB]
  have k1:=Int.mul_le_mul_of_nonneg_right (show p.2<=(2 ^ 190:Int) by unfold Bd at bp2;omega) (show 0<=r.1-xx by omega)
  have k2:=Int.mul_le_mul_of_nonneg_right (show r.2<=(2 ^ 190:Int) by unfold Bd at br2;omega) (show 0<=xx-p.1 by omega)
  rw [Int.mul_add]
  omega
 have d1:-(2 ^ 190)<=-hvT p r (xx,1)/hvB p r (xx,1):=(Int.le_ediv_iff_mul_le hB).mpr (by rw [Int.neg_mul];omega)
 have d2:-hvT p r (xx,1)/hvB p r (xx,1)<=2 ^ 190:=Int.ediv_le_of_le_mul hB (by
  have:=lo
  rw [Int.neg_mul] at this
  omega)
 unfold zdf
 show _<2 ^ 192
 omega
def zcq (cs:List (Int×Int))(x:Int):Int:=match zez cs (x,1) with
 | some (a,b)=>zdf (hvT a b (x,1)) (hvB a b (x,1))
 | none=>0
theorem zmb {cs:List (Int×Int)}(gr:Grd cs){s:Int×Int}(on:OnG cs (s.1,1)):zby cs s↔zcq cs s.1<=s.2:=by
 obtain⟨a,b,seg,bk⟩:=zje gr on
 have hB:=(zjd gr bk).1
 unfold zcq
 rw [seg]
 dsimp only
 rw [zny hB]
 constructor
 ·intro h;exact h.2 a b seg
 ·intro h
  refine⟨on,fun a' b' seg'=>?_⟩
  rw [seg] at seg';cases seg';exact h
theorem zlI {cs:List (Int×Int)}(gr:Grd cs){x:Int}(on:OnG cs (x,1)):Bd 192 (zcq cs x):=by
 obtain⟨a,b,seg,bk⟩:=zje gr on
 unfold zcq
 rw [seg]
 exact (zjd gr bk).2.2.2
section
variable {g:Int}{p q r s d t u v:Int×Int}
end
section
variable {cs:List (Int×Int)}{a b:Int×Int}{rp:List (Int×Int)}
end
section
variable {w h t m:Int}{cs:List (Int×Int)}
end
abbrev bcD (b:Str×(Int×Int)):D:=.tup [.str b.1,.int b.2.1,.int b.2.2]
def abc:List Nat:=List.range' 97 26
theorem zko:("abcdefghijklmnopqrstuvwxyz":Str).cps.toList=abc:=by decide +kernel
theorem zfw {c:Nat}:c∈abc↔97<=c/\c<=122:=by unfold abc;rw [List.mem_range'_1];omega
def nmB (z:Str):Bool:=decide (1<=z.length)&&(decide (z.length<=8)&&z.cps.toList.all fun c=>decide (c∈abc))
theorem zgN {z:Str}:nmB z=true↔1<=z.length/\z.length<=8/\∀ c∈z.cps.toList,c∈abc:=by
 unfold nmB
 rw [Bool.and_eq_true,Bool.and_eq_true,decide_eq_true_eq,decide_eq_true_eq,List.all_eq_true]
 simp only [decide_eq_true_eq]
theorem zov {z:Str}(h:nmB z=true)(k:Nat):fl k (.str z)=true:=by
  have h3:=(zgN.mp h).2.2
  have:z.cps.all (· < 0x110000)=true:=by
    rw [Array.all_eq_true']
    intro x hx
    have:=zfw.mp (h3 x (Array.mem_toList_iff.mpr hx))
    simp;omega
  cases k<;>exact this
theorem zp8 {b:Str×(Int×Int)}(h:nmB b.1=true):fl 20 (bcD b)=true:=by
 show (fl 19 (.str b.1)&&true)=true
 rw [Bool.and_true];exact zov h 19
def nmW (a h c b t:Nat):Str:=⟨(List.replicate h a++c::List.replicate t b).toArray⟩
theorem znc (a h c b t:Nat):(nmW a h c b t).length=h+1+t:=by
 show (List.replicate h a++c::List.replicate t b).toArray.size=_
 simp;omega
theorem zn5 {a h c b t:Nat}(ha:a∈abc)(hb:b∈abc)(hc:c∈abc)(h3:h<=3)(h4:t<=4):nmB (nmW a h c b t)=true:=by
 rw [zgN,znc]
 refine⟨by omega,by omega,fun x hx=>?_⟩
 have hx':x∈List.replicate h a++c::List.replicate t b:=by simpa [nmW] using hx
 rcases List.mem_append.mp hx' with z | z
 ·rw [List.eq_of_mem_replicate z];exact ha
 ·rcases List.mem_cons.mp z with z | z
  ·rw [z];exact hc
  ·rw [List.eq_of_mem_replicate z];exact hb
theorem zmP {a h c d b t:Nat}(e:nmW a h c b t=nmW a h d b t):c=d:=by
 have:List.replicate h a++c::List.replicate t b=List.replicate h a++d::List.replicate t b:=by
  have:=congrArg (fun z:Str=>z.cps.toList) e
  simpa [nmW] using this
 have:=List.append_cancel_left this
 simpa using this
theorem zm1 {a h c b t:Nat}:nmW a h c b t≠"xyxz":=by
 intro e
 have e2:List.replicate h a++c::List.replicate t b=[120,121,120,122]:=by
  have:=congrArg (fun z:Str=>z.cps.toList) e
  have e3:("xyxz":Str).cps.toList=[120,121,120,122]:=by decide +kernel
  simpa [nmW,e3] using this
 have hl:=congrArg List.length e2
 simp at hl
 match h,t,hl with
 | 0,3,_=>simp [List.replicate] at e2;omega
 | 1,2,_=>simp [List.replicate] at e2;omega
 | 2,1,_=>simp [List.replicate] at e2;omega
 | 3,0,_=>simp [List.replicate] at e2;omega
theorem zgR (x y:List Nat):(⟨x.toArray⟩:Str)++(⟨y.toArray⟩:Str)=⟨(x++y).toArray⟩:=by
 show (⟨x.toArray++y.toArray⟩:Str)=_
 simp
theorem zil (c:Nat)(n:Int)(h:0<=n):zj0 ⟨#[c]⟩ n=⟨(List.replicate n.toNat c).toArray⟩:=by
  unfold zj0
  split
  · have:n.toNat=0:=by omega
    rw [this];rfl
  · split
    · rename_i g g2
      have:n=1:=by
        rcases Bool.or_eq_true .. |>.mp g2 with z | z
        · exact eq_of_beq z
        · exact absurd (show ((1:Nat)==0)=true from z) (by decide)
      subst this;rfl
    · have : ∀ (m : Nat) (acc : Array Nat), (List.replicate m #[c]).foldl (· ++ ·) acc = acc ++ (List.replicate m c).toArray := by
        intro m
        induction m with
        | zero=>intro acc;simp
        | succ m ih =>
          intro acc
          rw [List.replicate_succ,List.foldl_cons,ih,List.replicate_succ]
          apply Array.toList_inj.mp
          simp
      show (⟨(List.replicate n.toNat #[c]).foldl (·++·) #[]⟩:Str)=_
      rw [this];simp
structure Vl where
 cs:List (Int×Int)
 bs:List (Str×(Int×Int))
 fs:List Fg
 hz:Option Int
 h0:Int
 h1:Int
 dl:Int
structure FgV (F:Fg):Prop where
 b:FgB F
 o:F.f<=F.l
 f:Bd 300 F.f
 l:Bd 300 F.l
structure zq3 (V:Vl):Prop where
 gr:Grd V.cs
 b1:1<=V.bs.length
 b12:V.bs.length<=12
 nm:∀ b∈V.bs,nmB b.1=true
 nd:(V.bs.map (·.1)).Nodup
 st:∀ b∈V.bs,zby V.cs b.2
 bd:∀ b∈V.bs,Bd 180 b.2.1/\Bd 200 b.2.2
 f12:V.fs.length<=12
 fg:∀ F∈V.fs,FgV F
 hz:∀ z,V.hz=some z->0<=z
 hh:V.h0<=V.h1
 b0:Bd 250 V.h0
 bl:Bd 250 V.h1
 dl:0<=V.dl
abbrev vF (g b f h a l d:D):List (Str×D):=[("ground",g),("beacons",b),("fogs",f),("haze",h),("first",a),("last",l),("delay",d)]
section
variable {S:Sto}{P:D->Prop}{n:Nat}{g b f h a l d:D}
end
theorem zkZ {bs:List (Str×(Int×Int))}{i:Nat}{d:D}(h:(bs.map bcD)[i]?=some d):∃ b,bs[i]?=some b/\d=bcD b:=by
 rw [List.getElem?_map] at h
 cases e:bs[i]? with
 | none=>rw [e] at h;cases h
 | some p=>rw [e] at h;cases h;exact⟨p,rfl,rfl⟩
theorem zmv {bs:List (Str×(Int×Int))}{k:Int}(h0:0<=k)(h:k<bs.length):∃ b,bs[k.toNat]?=some b/\atD (bs.map bcD) k=some (bcD b):=by
 have e:bs[k.toNat]?=some (bs[k.toNat]'(by omega)):=List.getElem?_eq_getElem (by omega)
 refine⟨_,e,?_⟩
 have:=zbW (ds:=bs.map bcD) (i:=k.toNat) (by rw [List.getElem?_map,e];rfl)
 rwa [show ((k.toNat:Nat):Int)=k by omega] at this
def zme (f:Str×(Int×Int)->D):D->D
 | .tup [.str z,.int a,.int b]=>f (z,a,b)
 | d=>d
theorem ziH (f:Str×(Int×Int)->D)(bs:List (Str×(Int×Int))):(bs.map bcD).map (zme f)=bs.map f:=by rw [List.map_map];rfl
theorem zcZ {S A B X:Sto}(h:∃ T,A=S++T)(e:B=A++X):∃ T,B=S++T:=let ⟨T,h⟩:=h;⟨T++X,by rw [e,h,List.append_assoc]⟩
theorem zl0 {f:Str}{v:D}:putD f v []=[(f,v)]:=rfl
theorem zak {f g:Str}{v x:D}{r:List (Str×D)}(h:g≠f):putD f v ((g,x)::r)=(g,x)::putD f v r:=by
 show (if g=f then _ else _)=_
 rw [if_neg h]
section
variable {g b f h a l d:D}
theorem vp2:putD "beacons" b ([("ground",g)]:List (Str×D))=([("ground",g),("beacons",b)]:List (Str×D)):=by rw [zak (by decide +kernel)];rfl
theorem vp3:putD "fogs" f ([("ground",g),("beacons",b)]:List (Str×D))=([("ground",g),("beacons",b),("fogs",f)]:List (Str×D)):=by rw [zak (by decide +kernel),zak (by decide +kernel)];rfl
theorem vp4:putD "haze" h ([("ground",g),("beacons",b),("fogs",f)]:List (Str×D))=([("ground",g),("beacons",b),("fogs",f),("haze",h)]:List (Str×D)):=by rw [zak (by decide +kernel),zak (by decide +kernel),zak (by decide +kernel)];rfl
theorem vp5:putD "first" a ([("ground",g),("beacons",b),("fogs",f),("haze",h)]:List (Str×D))=([("ground",g),("beacons",b),("fogs",f),("haze",h),("first",a)]:List (Str×D)):=by rw [zak (by decide +kernel),zak (by decide +kernel),zak (by decide +kernel),zak (by decide +kernel)];rfl
theorem vp6:putD "last" l ([("ground",g),("beacons",b),("fogs",f),("haze",h),("first",a)]:List (Str×D))=([("ground",g),("beacons",b),("fogs",f),("haze",h),("first",a),("last",l)]:List (Str×D)):=by rw [zak (by decide +kernel),zak (by decide +kernel),zak (by decide +kernel),zak (by decide +kernel),zak (by decide +kernel)];rfl
theorem vp7:putD "delay" d ([("ground",g),("beacons",b),("fogs",f),("haze",h),("first",a),("last",l)]:List (Str×D))=vF g b f h a l d:=by rw [zak (by decide +kernel),zak (by decide +kernel),zak (by decide +kernel),zak (by decide +kernel),zak (by decide +kernel),zak (by decide +kernel)];rfl
end
theorem zl5 {α:Type}(xs:List α){k:Int}(h0:0<=k)(h1:k<=xs.length):cutD xs none (some k)=xs.take k.toNat:=by
 unfold cutD slD
 dsimp only
 rw [if_neg (by omega),List.drop_zero,Nat.sub_zero,Nat.min_eq_left (by omega)]
theorem zl6 {α:Type}(xs:List α){k:Int}(h0:0<=k)(h1:k<=xs.length):cutD xs (some k) none=xs.drop k.toNat:=by
 unfold cutD slD
 dsimp only
 rw [if_neg (by omega),Nat.min_eq_left (by omega)]
 exact List.take_of_length_le (by rw [List.length_drop];exact Nat.le_refl _)
mutual
theorem eqv_refl:∀ (k:Nat) (d:D),fl k d=true->eqv d d=true
  | _,.non,_=>rfl
  | _,.bl b,_=>by show (b==b)=true;simp
  | _,.int i,_=>by show decide (i=i)=true;simp
  | _,.str x,_=>by show (x==x)=true;simp
  | 0,.tup _,h=>by cases h
  | k+1,.tup xs,h=>eqvAll_refl k xs h
  | k,.ref _,h=>by cases k<;>cases h
  | k,.ty _,h=>by cases k<;>cases h
  | k,.rl _,h=>by cases k<;>cases h
  | k,.exn _,h=>by cases k<;>cases h
theorem eqvAll_refl:∀ (k:Nat) (xs:List D),xs.all (fl k)=true->eqvAll xs xs=true
  | _,[],_=>rfl
  | k,x::xs,h=>by
    rw [List.all_cons,Bool.and_eq_true] at h
    show (eqv x x&&eqvAll xs xs)=true
    rw [eqv_refl k x h.1,eqvAll_refl k xs h.2];rfl
end
theorem zlv {S:Sto}{Q:DK}{x y:D}{xs:List D}(hx:Lst S x xs)(hy:Lst S y xs)(f:xs.all (fl 20)=true)(q:Q (.bl true) S):oEq x y S Q:=zqC hx hy f f (eqvAll_refl 20 xs f) q
theorem zin {S:Sto}{Q:DK}{x y:D}{xs:List D}(hx:Lst S x xs)(hy:Lst S y xs)(f:xs.all (fl 20)=true)(q:Q (.bl false) S):oNe x y S Q:=zqL hx hy f f (eqvAll_refl 20 xs f) q
section
variable {see:Nat->Nat->Int->Prop}{dl:Int}{s:Nat}{h0:Int}
inductive Lt (see:Nat->Nat->Int->Prop)(dl:Int)(s:Nat)(h0:Int):Nat->Int->Prop
 | base:Lt see dl s h0 s h0
 | step {k j:Nat} {h u:Int}:Lt see dl s h0 k h->h<=u->see k j u->Lt see dl s h0 j (u+dl)
end
def zcc (l:List Int):Bool:=match l with
 | [a,b,c,d,e,f,_,_]=>decide (a<=b)&&(decide (c<=d)&&decide (e<=f))
 | _=>false
theorem zmg {l:List Int}(h:l.length≠8):zcc l=false:=by
 unfold zcc
 split
 ·exact absurd rfl h
 ·rfl
abbrev fgL (l:List Int):D:=.tup (l.map D.int)
def zon (p:List Int->Bool):D->D
 | .tup xs=>.bl (p (xs.map fun d=>match d with | .int i=>i | _=>0))
 | d=>d
theorem ziN (p:List Int->Bool)(gs:List (List Int)):(gs.map fgL).map (zon p)=(gs.map p).map D.bl:=by
 rw [List.map_map,List.map_map]
 refine List.map_congr_left fun l _=>?_
 show D.bl (p ((l.map D.int).map fun d=>match d with | .int i=>i | _=>0))=D.bl (p l)
 rw [List.map_map]
 congr 2
 exact List.map_id'' (fun _=>rfl) l
theorem znK {gs:List (List Int)}{i:Nat}{d:D}(h:(gs.map fgL)[i]?=some d):∃ l,gs[i]?=some l/\d=fgL l:=by
 rw [List.getElem?_map] at h
 cases e:gs[i]? with
 | none=>rw [e] at h;cases h
 | some p=>rw [e] at h;cases h;exact⟨p,rfl,rfl⟩
def zf3 (hz:Option Int)(a b d:Int):Prop:=b<a\/d<0\/∃ z,hz=some z/\z<0
def zhd (bs:List (Str×(Int×Int)))(gs:List (List Int)):Prop:=bs.length<1\/12<bs.length\/12<gs.length
def zd8 (bs:List (Str×(Int×Int))):Prop:=∀ z∈bs.map (·.1),nmB z=true
def zeB (cs:List (Int×Int))(bs:List (Str×(Int×Int))):Prop:=∀ b∈bs,zby cs b.2
def zfh (gs:List (List Int)):Prop:=∀ l∈gs,zcc l=true
def VCl (cs:List (Int×Int))(bs:List (Str×(Int×Int)))(gs:List (List Int))(hz:Option Int)(a b d:Int)(e:Option Str):Prop :=
 (zhd bs gs/\e=some "TooMany")\/(¬ zhd bs gs/\((¬ zd8 bs/\e=some "BadName")\/(zd8 bs/\((¬ (bs.map (·.1)).Nodup/\e=some "Twice")\/((bs.map (·.1)).Nodup/\((¬ zeB cs bs/\e=some "OffGround")\/(zeB cs bs/\((¬ zfh gs/\e=some "BadFog")\/(zfh gs/\((zf3 hz a b d/\e=some "BadHour")\/(¬ zf3 hz a b d/\e=none)))))))))))
def zl4 (e:Option Str)(ex:Str->Prop)(q:Prop):Prop:=match e with
 | some c=>ex c
 | none=>q
structure VBd (bs:List (Str×(Int×Int)))(gs:List (List Int)):Prop where
 lb:bs.length<=100
 lg:gs.length<=100
 ll:∀ l∈gs,l.length<=100
 bd:∀ b∈bs,Bd 180 b.2.1/\Bd 200 b.2.2
 ln:∀ z∈bs.map (·.1),z.length<=1000
def zaI {α:Type}(i:Nat)(w:α)(xs:List α):List α:=xs.take i++w::xs.drop i
theorem za2 {α:Type}(i:Nat)(w:α)(xs:List α):(zaI i w xs).length=xs.length+1:=by
 unfold zaI;rw [List.length_append,List.length_cons,List.length_take,List.length_drop];omega
theorem zaQ {α:Type}{i:Nat}{w x:α}{xs:List α}:x∈zaI i w xs↔x=w\/x∈xs:=by
 unfold zaI
 rw [List.mem_append,List.mem_cons]
 constructor
 ·rintro (h | h | h)
  ·exact .inr (List.mem_of_mem_take h)
  ·exact .inl h
  ·exact .inr (List.mem_of_mem_drop h)
 ·rintro (h | h)
  ·exact .inr (.inl h)
  ·rw [<- List.take_append_drop i xs] at h
   rcases List.mem_append.mp h with h | h
   ·exact .inl h
   ·exact .inr (.inr h)
theorem zgc {α β:Type}(f:α->β)(i:Nat)(w:α)(xs:List α):(zaI i w xs).map f=zaI i (f w) (xs.map f):=by
 unfold zaI;rw [List.map_append,List.map_cons,List.map_take,List.map_drop]
structure Vs where
 bs:List (Str×(Int×Int))
 gs:List (List Int)
 hz:Option Int
 b:Int
 d:Int
structure Spl (cs:List (Int×Int))(one:Int×Int)(k a:Int)(s t:Vs):Prop where
 n1:¬ (k=1\/k=3\/k=4\/k=5)->t.bs=s.bs
 n2:¬ (k=2\/k=6)->t.gs=s.gs
 n7:k≠7->t.b=s.b
 n8:k≠8->t.d=s.d/\t.hz=s.hz
 k1:k=1->t.bs.length=0\/t.bs.length=13
 k2:k=2->t.gs.length=13
 k3:k=3->∃ i z,nmB z=false/\t.bs=zaI i (z,one) s.bs
 k4:k=4->(s.bs=[]/\t.bs=[])\/∃ i b0,s.bs[0]?=some b0/\t.bs=zaI i (b0.1,one) s.bs
 k5:k=5->∃ i p,¬ zby cs p/\t.bs=zaI i (("xyxz":Str),p) s.bs
 k6:k=6->∃ i l,zcc l=false/\t.gs=zaI i l s.gs
 k7:k=7->t.b<a
 k8:k=8->t.d<0\/∃ z,t.hz=some z/\z<0
def zer (S:Sto)(y z:D)(s:Vs):Prop:=Lst S y (s.bs.map bcD)/\Lst S z (s.gs.map fgL)/\VBd s.bs s.gs
theorem zer.old {S T:Sto}{y z:D}{s:Vs}(h:zer S y z s):zer (S++T) y z s:=⟨h.1.old,h.2.1.old,h.2.2⟩
def zep (cs:List (Int×Int))(one:Int×Int)(k a j:Int)(s t:Vs):Prop:=(1<=k/\k<=j->Spl cs one k a s t)/\(¬ (1<=k/\k<=j)->t=s)
theorem zep.next {cs:List (Int×Int)}{one:Int×Int}{k a j:Int}{s t:Vs}(h:zep cs one k a j s t)(ne:¬ k=j+1):zep cs one k a (j+1) s t:=⟨fun w=>h.1 (by omega),fun w=>h.2 (by omega)⟩
theorem VBd.ins {bs:List (Str×(Int×Int))}{gs:List (List Int)}{i:Nat}{z:Str}{p:Int×Int}(h:VBd bs gs)(hl:bs.length<=50)(hz:z.length<=1000)(hp:Bd 180 p.1/\Bd 200 p.2):VBd (zaI i (z,p) bs) gs:=by
 refine⟨by rw [za2];omega,h.lg,h.ll,fun b hb=>?_,fun x hx=>?_⟩
 ·rcases zaQ.mp hb with rfl | hb
  ·exact hp
  ·exact h.bd b hb
 ·rw [zgc] at hx
  rcases zaQ.mp hx with rfl | hx
  ·exact hz
  ·exact h.ln x hx
theorem VBd.insF {bs:List (Str×(Int×Int))}{gs:List (List Int)}{i:Nat}{l:List Int}(h:VBd bs gs)(hl:gs.length<=50)(hz:l.length<=100):VBd bs (zaI i l gs):=by
 refine⟨h.lb,by rw [za2];omega,fun x hx=>?_,h.bd,h.ln⟩
 rcases zaQ.mp hx with rfl | hx
 ·exact hz
 ·exact h.ll x hx
end Dp
namespace My
open PySem PySem.Spec PyProof.Rows L2
section
variable {prog:Program}{w:World}{A:Around}{E:Value->Shared->Prop}{s:Shared}
end
theorem zif {α:Type}(xs:List α)(a:Nat):∀ m,a+m<=xs.length->((List.range m).map (a+·)).filterMap (xs[·]?)=(xs.drop a).take m
 | 0,_=>by simp
 | m+1,h=>by
  rw [List.range_succ,List.map_append,List.filterMap_append,zif xs a m (by omega),List.take_succ,List.getElem?_drop]
  simp only [List.map_cons,List.map_nil,List.filterMap_cons,List.filterMap_nil]
  rw [List.getElem?_eq_getElem (by omega)];rfl
theorem zrl (n:Nat)(lo hi:Option Int):Builtin.Str.strSliceIndices lo hi 1 n=(List.range (HT.sIx n n hi-HT.sIx n 0 lo)).map (HT.sIx n 0 lo+·):=by
 rw [<- sliceRange_one]
 unfold Builtin.Str.strSliceIndices
 have cl:∀ (o:Option Int) (d:Nat),(match o with | none=>(d:Int) | some i=>if (1:Int) > 0 then max 0 (min (if i<0 then i+(n:Int) else i) n) else max (-1) (min (if i<0 then i+(n:Int) else i) ((n:Int)-1)))=((HT.sIx n d o:Nat):Int):=fun o d=>by
  cases o with
  | none=>rfl
  | some i =>
   show (if (1:Int) > 0 then _ else _)=(((if i<0 then (i+n).toNat else min i.toNat n):Nat):Int)
   rw [if_pos (by decide)]
   by_cases h:i<0
   ·rw [if_pos h,if_pos h];omega
   ·rw [if_neg h,if_neg h];omega
 have h1:=cl lo 0
 have h2:=cl hi n
 simp only [show ((1:Int) > 0)=True by simp,if_true] at h1 h2 ⊢
 rw [<- h1,<- h2]
 rfl
theorem zgv (n:Nat)(o:Option Int)(d:Nat)(hd:d<=n):HT.sIx n d o<=n:=by
  cases o with
  | none=>exact hd
  | some i =>
    show (if i<0 then (i+n).toNat else min i.toNat n)<=n
    split<;>omega
theorem zk4 (x:Str)(lo hi:Option Int):Txt.slice x lo hi=⟨((x.cps.toList.drop (HT.sIx x.length 0 lo)).take (HT.sIx x.length x.length hi-HT.sIx x.length 0 lo)).toArray⟩:=by
 have hl:x.cps.toList.length=x.length:=Array.length_toList
 have b1:=zgv x.length lo 0 (Nat.zero_le _)
 have b2:=zgv x.length hi x.length (Nat.le_refl _)
 unfold Txt.slice
 rw [zrl]
 have fm:((List.range (HT.sIx x.length x.length hi-HT.sIx x.length 0 lo)).map (HT.sIx x.length 0 lo+·)).filterMap (x.cps[·]?)=(x.cps.toList.drop (HT.sIx x.length 0 lo)).take (HT.sIx x.length x.length hi-HT.sIx x.length 0 lo):=by
  rcases Nat.lt_or_ge (HT.sIx x.length x.length hi) (HT.sIx x.length 0 lo) with g | g
  ·rw [show HT.sIx x.length x.length hi-HT.sIx x.length 0 lo=0 by omega];simp
  ·rw [<- zif x.cps.toList _ _ (by rw [hl];omega)]
   congr 1
   funext i
   rw [Array.getElem?_toList]
 split
 ·rename_i h
  rw [Bool.and_eq_true] at h
  have h2:=eq_of_beq h.2
  rw [List.length_map,List.length_range] at h2
  have z1:HT.sIx x.length 0 lo=0:=by omega
  rw [h2,z1,List.drop_zero,List.take_of_length_le (by omega)]
 ·rw [fm]
def zqY:V->Option Int->Option Int->Hp->VK->Prop:=fun x lo hi H Q=>∃ z:Str,x=.str z/\z.length<=sizeLine/\Q (.str ⟨((z.cps.toList.drop (HT.sIx z.length 0 lo)).take (HT.sIx z.length z.length hi-HT.sIx z.length 0 lo)).toArray⟩) H
theorem zoc {X:Cx}:SlR X zqY:=by
 intro pins s σ H x v vl vu lo hi sl Q I rx hs pl pu h
 obtain⟨z,rfl,hz,q⟩:=h
 obtain⟨t,rfl⟩:=rx
 refine⟨"str",_,F.slot_str_getitem.lookup,typeIs_str _ _ _,?_⟩
 have go:∀ (l u:Option (Int×Tok)),l.map (·.1)=lo->u.map (·.1)=hi->s.heap.IsSlice sl l u none->wpAny (model X.prog X.w) X.A (getItem (.str z t) (.ref sl)) (EP X pins σ Q) X.xe s:=fun l u el eu is=>by
  refine wpAny_getItem_str_slice is rfl ?_
  unfold sliceMade slicePicked
  rw [el,eu]
  refine post_val_or_str ⟨Nat.le_trans (Txt.slice_le z lo hi) hz,fun t' k=>?_⟩
  show EP X pins σ Q (.str (Txt.slice z lo hi) t') _
  rw [zk4]
  exact⟨.str _,H,I.tok _,⟨t',rfl⟩,q⟩
 obtain⟨o,ho,hc,hd⟩:=hs
 cases pl with
 | none =>
  cases pu with
  | none=>exact go none none rfl rfl ⟨o,ho,hc,hd⟩
  | int j tj=>exact go none (some (j,tj)) rfl rfl ⟨o,ho,hc,hd⟩
 | int i ti =>
  cases pu with
  | none=>exact go (some (i,ti)) none rfl rfl ⟨o,ho,hc,hd⟩
  | int j tj=>exact go (some (i,ti)) (some (j,tj)) rfl rfl ⟨o,ho,hc,hd⟩
section
open AutoSeq1 (wpAny_loadPart')
variable {prog:Program}{w:World}{A:Around}{E:Value->Shared->Prop}{s:Shared}
end
section
variable {X:Cx}
end
section
variable {prog:Program}{w:World}{A:Around}{E:Value->Shared->Prop}{s:Shared}
end
section
variable {prog:Program}{w:World}{A:Around}{E:Value->Shared->Prop}{s:Shared}
end
section
variable {X:Cx}
end
section
end
section
variable {X:Cx}
end
section
variable {prog:Program}{w:World}{A:Around}{E:Value->Shared->Prop}{s:Shared}
end
section
variable {X:Cx}
end
section
variable {X:Cx}
end
section
variable {X:Cx}
end
section
variable {prog:Program}{w:World}{A:Around}{E:Value->Shared->Prop}{s:Shared}
end
section
variable {prog:Program}{w:World}{A:Around}{E:Value->Shared->Prop}{s:Shared}
end
section
variable {prog:Program}{w:World}{A:Around}{E:Value->Shared->Prop}{s:Shared}
end
section
variable {prog:Program}{w:World}{A:Around}{s:Shared}
abbrev zeW (prog:Program)(w:World)(h:Heap)(a:Addr)(c:List Str):Prop:=h.SetOf (PySem.strKind prog w) a (fun y=>c.any (·==y)) c.length
theorem zeW.at {h h':Heap}{a:Addr}{c:List Str}(x:zeW prog w h a c)(k:∀ o,h.get? a=some o->h'.get? a=some o):zeW prog w h' a c :=
 let ⟨o,es,ep,t,ho,r⟩:=x;⟨o,es,ep,t,k o ho,r⟩
theorem loopS {R:Result->Shared->Prop}{it a:Addr}{fp wr:List Addr}{G:Array GenState->Array GenState->Prop}{n:Nat}{P:Nat->Value->Prop}{St:Nat->Shared->Prop}
  (W:WalksS prog w A.in1 it fp wr G n P St) (na:a∉fp) (f:Nat->Str) (hf:∀ i v,P i v->∃ t,v=.str (f i) t) (hb:n+1<scanBound) :
  ∀ (k i:Nat) (s:Shared),n-i=k->i<=n->St i s->zeW prog w s.heap a (Dp.zbw f i) ->
   (∀ s',Moved (a::wr) G s s'->zeW prog w s'.heap a (Dp.zbw f n)->R (.ok (.ret .none)) s') ->
   codeAny (model prog w) A (.builtin "set.update.loop" ⟨[.ref a,.ref it],[]⟩) R s
 | 0,i,s,hk,hi,st,hS,hR=>by
  have e:i=n:=by omega
  subst e
  refine codeAny_builtin PyProof.Rows.F.entry_set_update_loop ?_
  rw [Around.under_plainId PyProof.Rows.F.plain_set_update_loop]
  show wpAny _ A.in1 (pyNext (.ref it) >>= _) _ _ _
  refine wpAny_bind (W.done s _ _ st fun s' m=>wpAny_pure (hR s' (m.mono fun b q=>List.mem_cons_of_mem _ q) ?_))
  exact hS.at fun o q=>m.heap a o (fun z=>na (W.sub _ z)) q
 | k+1,i,s,hk,hi,st,hS,hR=>by
  refine codeAny_builtin PyProof.Rows.F.entry_set_update_loop ?_
  rw [Around.under_plainId PyProof.Rows.F.plain_set_update_loop]
  show wpAny _ A.in1 (pyNext (.ref it) >>= _) _ _ _
  refine wpAny_bind (W.item i s _ _ (by omega) st fun v s1 pv st1 m=>?_)
  obtain⟨t,rfl⟩:=hf i v pv
  have h1:zeW prog w s1.heap a (Dp.zbw f i):=hS.at fun o q=>m.heap a o (fun z=>na (W.sub _ z)) q
  show wpAny _ A.in1 (holding [Value.str (f i) t] (setAdd a (Value.str (f i) t)) >>= _) _ _ _
  refine wpAny_bind (wpAny_holding ?_)
  unfold setAdd
  refine wpAny_holding (wpAny_bind ((PySem.strKind prog w).pyHash (k:=f i) (strKind_is _ _ _ _) ?_))
  have room:(Dp.zbw f i).length+1<scanBound:=by have:=Dp.zfH f i;omega
  refine wpAny_setAddHashed_of (knd:=PySem.strKind prog w) (s:={ s1 with toks:=s1.toks+1 }) (strKind_is _ _ _ _) rfl h1 room fun h2 sb hS2=>?_
  have h3:zeW prog w h2 a (Dp.zbw f (i+1)):=SetOf_congr hS2 (fun y=>(Dp.ziq _ _ _).symm) (Dp.zeJ _ _).symm
  refine wpAny_pure ⟨plainId_quiet PyProof.Rows.F.plain_set_update_loop _,loopS W na f hf hb k (i+1) _ (by omega) (by omega) (W.frame _ s1 _ _ st1 (Nat.le_succ _) fun b q o e=>?_) h3 fun s' m' hS'=>?_⟩
  ·exact (sb.2 b fun z=>na (z▸q)).trans e
  ·refine hR s' (Moved.trans W.gtrans ((m.mono fun b q=>List.mem_cons_of_mem _ q).then_heap (Nat.le_succ _) fun b o q e=>?_) m') hS'
   exact (sb.2 b fun z=>q (z▸List.mem_cons_self)).trans e
end
section
variable {prog:Program}{w:World}{A:Around}{E:Value->Shared->Prop}{s:Shared}
abbrev zfi (led:Bool):Obj:={ cls:=.type "set",dict:=none,data:=.set #[] 0 (.fresh 0 0 led) }
theorem zk1 {l:Addr}{its:Array Value}(f:Nat->Str){Q:Value->Shared->Prop}(hh:A.handled=none)(hl:s.heap.IsList l its)(hf:∀ (i:Nat) v,its[i]?=some v->∃ t,v=.str (f i) t)(hb:its.size+1<scanBound)
    (h:∀ (h':Heap) (tk:Nat),zeW prog w h' s.heap.objs.size (Dp.zbw f its.size)->(∀ b o,b<s.heap.objs.size->s.heap.get? b=some o->h'.get? b=some o)->Q (.ref s.heap.objs.size) { s with heap:=h',toks:=tk }) :
    wpAny (model prog w) A (call (.type "set") [.ref l]) Q E s:=by
  have ft:=F.called_set
  obtain⟨c,tl,hmro⟩:=ft.mro
  have hmade:=ft.made
  have hsub:=ft.sub
  have h1:=ft.notType
  have h2:=ft.canCreate
  have hct:=F.typeCall_set_1 (.ref l)
  refine wpAny_call (codeAny_of_tree ?_)
  show wpAny _ _ (callAny (.type "set") _) _ _ s
  refine wpAny_pure ⟨Code.quiet_builtin _ (by decide +kernel),codeAny_builtin F.entry_type_call ?_⟩
  rw [Around.under_plain (weight_type_call_type "set" [Value.ref l] []) rfl]
  repeat (any_goals (first | assumption | wp_step))
  refine codeAny_mono (code_set_new_1 (.ref l) (E:=E) (Q₁:=fun v s1=>∃ led:Bool,v=.ref s.heap.objs.size/\s1={ s with heap:=s.heap.push (zfi led) }) fun led=>⟨led,rfl,rfl⟩) fun r s1 hr=>?_
  cases r with
  | error e=>exact hr
  | ok fl =>
    cases fl with
    | ret v =>
      obtain⟨led,rfl,rfl⟩:=hr
      have e0:(s.heap.push (zfi led)).get? s.heap.objs.size=some (zfi led):=Heap.get?_push_size _ rfl
      have hT:Shared.TypeIs { s with heap:=s.heap.push (zfi led) } (.ref s.heap.objs.size) "set":=⟨_,e0,rfl⟩
      have hli:=ft.init.lookup
      have hbi:=ft.init.bind (.ref s.heap.objs.size)
      repeat (any_goals (first | assumption | wp_step))
      refine codeAny_mono (codeAny_call_builtin (R:=wants (fun r s2=>r=.none/\∃ h' tk,s2={ s with heap:=h',toks:=tk }/\zeW prog w h' s.heap.objs.size (Dp.zbw f its.size)/\∀ b o,b<s.heap.objs.size->s.heap.get? b=some o->h'.get? b=some o) E) ft.init.plain F.entry_set_init (check_set_init_1 hT ?_)) fun r2 s2 hr2=>?_
      · obtain⟨ol,hol,hcl,nl,hdl⟩:=hl
        obtain⟨ocl,odi,oda,osl⟩:=ol
        simp only at hcl hdl
        subst hcl hdl
        have hol2:(s.heap.push (zfi led)).get? l=some { cls:=.type "list",dict:=odi,data:=.seq its nl,slots:=osl }:=Heap.get?_push_of_some _ hol
        have k1:=F.sub_list_set
        have k2:=F.sub_list_frozenset
        have k3:(Value.type "list"==Value.type "dict")=false:=by decide
        have hl1:(s.heap.push (zfi led)).IsList l its:=⟨_,hol2,rfl,nl,rfl⟩
        unfold Builtin.«set.__init__» noKeywords Builtin.Frozenset.updateFrom
        generalize hPI:pyIter=PI
        wp_walk
        subst hPI
        refine wpAny_pyIter_list hl1 (wpAny_bind (wpAny_runValue ?_))
        have ll:l<s.heap.objs.size:=Heap.lt_size hol
        have n1:l≠(s.heap.push (zfi led)).objs.size:=by rw [Heap.size_push];exact Nat.ne_of_lt (Nat.lt_succ_of_lt ll)
        have n2:s.heap.objs.size∉[(s.heap.push (zfi led)).objs.size,l]:=by
          rw [Heap.size_push]
          intro z
          rcases List.mem_cons.mp z with z | z
          · exact Nat.ne_of_lt (Nat.lt_succ_self _) z
          · exact Nat.ne_of_gt ll (List.mem_singleton.mp z)
        refine loopS ((Walks.list (show _=none by simp [hh]) _ l n1 its).toS) n2 f hf hb (its.size-0) 0 _ (by omega) (Nat.zero_le _) ⟨⟨_,Heap.get?_push_size _ rfl,rfl,rfl⟩,hl1.push _⟩ ?_ fun s' m hS'=>?_
        · exact SetOf_congr ((setObjOf_fresh (knd:=PySem.strKind prog w) led).setOf (Heap.get?_push_of_some _ e0) (by unfold scanBound;omega)) (fun _=>rfl) rfl
        · obtain⟨h',g',d',tk',os'⟩:=s'
          cases (show g'=s.gens from m.gens)
          cases (show d'=s.drawn from m.drawn)
          cases (show os'=s.os from m.os)
          show wpAny _ _ _ _ _ _
          refine wpAny_pure (wpAny_pure ⟨rfl,h',tk',rfl,hS',fun b o q e=>?_⟩)
          refine m.heap b o (fun z=>?_) (Heap.get?_push_of_some _ (Heap.get?_push_of_some _ e))
          rcases List.mem_cons.mp z with z | z
          · exact Nat.ne_of_lt q z
          · have z':=List.mem_singleton.mp z
            rw [Heap.size_push] at z'
            exact Nat.ne_of_lt (Nat.lt_succ_of_lt q) z'
      · cases r2 with
        | error e=>exact hr2
        | ok fl2 =>
          cases fl2 with
          | ret r =>
            obtain⟨rfl,h',tk,rfl,hS',kp⟩:=hr2
            repeat (any_goals (first | assumption | wp_step))
            exact h _ _ hS' kp
          | _=>exact hr2.elim
    | _=>exact hr.elim
end
def zqD (K:PySem.W.Frag)(ta:TA):TE:=fun σ H Q=>ta σ H fun vs H1=>∃ l,∃ zs:List Str,vs=[.ref l]/\SqL K H1 l (zs.map V.str)/\zs.length<=4000/\Q (.int (Dp.zbw (fun i=>zs.getD i Str.empty) zs.length).length) H1
theorem zh0:∀ {zs:List Str} {us:List Value},Vals (zs.map V.str) us->∀ (i:Nat) v,us[i]?=some v->∃ t,v=.str (zs.getD i Str.empty) t
 | [],_,.nil,i,v,e=>by simp at e
 | z::zs,_,.cons r t,0,v,e=>by
  obtain⟨t,rfl⟩:=r
  simp at e
  exact⟨t,e.symm⟩
 | z::zs,_,.cons r t,i+1,v,e=>by
  obtain⟨t,h⟩:=zh0 t i v (by simpa using e)
  exact⟨t,by rw [h];simp⟩
theorem zm9 {X:Cx}{a:Expr}{ta:TA}{p1 p2 pos1 pos2:Pos}(hc:X.calm=true)(hgl:Gl X "len")(hml:X.mg "len"=none)(hgr:Gl X "set")(hmr:X.mg "set"=none)(ha:PA X [a] ta)
  (hs:starEach [a] X.env=[(false,eval a X.env)]:=by rfl)
  (hs3:starEach [.Call (.Name "set" p2) [a] [] pos2] X.env=[(false,eval (.Call (.Name "set" p2) [a] [] pos2) X.env)]:=by rfl) :
  PE X (.Call (.Name "len" p1) [.Call (.Name "set" p2) [a] [] pos2] [] pos1) (zqD X.K ta):=by
 intro pins s σ H Q I h
 refine Call_ (zcH I hgl hml boot_len (PyProof.Rows.callWith_builtin1 ?_ (by rw [hs3];rfl) (by rfl)))
 rw [hs3]
 show wpAny _ _ (spliced ((false,eval (.Call (.Name "set" p2) [a] [] pos2) X.env)::backTo pos1 [])) _ _ s
 refine Calls.spliced_cons (Call_ (zcH I hgr hmr boot_set (PyProof.Rows.callWith_type1 (thn (ha pos2 pins s σ H _ I h) fun us s1 ⟨vs,H1,I1,r1,q1⟩=>?_) hs rfl)))
 obtain⟨l,zs,e,hx,h4,q⟩:=q1
 subst e
 obtain⟨u,rfl,ru⟩:=vals1 r1
 cases ru
 obtain⟨its,rx,px,zx⟩:=I1.list hx
 have sz:its.toArray.size=zs.length:=by rw [List.size_toArray,<- rx.length,List.length_map]
 refine zk1 (fun i=>zs.getD i Str.empty) (show _=none from I1.ok.hd hc) px.isList (fun i v e=>zh0 rx i v (by simpa using e)) (by rw [sz];unfold scanBound;omega) fun h' tk hS kp=>Calls.spliced_nil ?_
 rw [sz] at hS
 have le:=Dp.zfH (fun i=>zs.getD i Str.empty) zs.length
 obtain⟨o,es,ep,t,ho,hex,hd,_,_,_,hf,hn⟩:=hS
 refine call_len_set ho hex hd hf (by omega) ?_
 rw [hn]
 exact⟨.int _,H1,I1.kept (t':=tk+1+1) (fun b o q=>kp b o (Heap.lt_size q) q),⟨_,rfl⟩,q⟩
end My
namespace Dp
open PySem PySem.Spec PyProof.Rows L2 My
def isStar:Expr->Bool
 | .Starred _ _=>true
 | _=>false
theorem zaH {e:Expr}{es:List Expr}{env:Env}(h:isStar e=false):starEach (e::es) env=(false,eval e env)::starEach es env:=by
  cases e<;>first | rfl | cases h
theorem zbO {pos:Pos}{env:Env}:∀ {es:List Expr},es.all (fun e=>!isStar e)=true->(backTo pos (starEach es env)).any (·.1)=false
 | [],_=>rfl
 | e::es,h=>by
  rw [List.all_cons,Bool.and_eq_true] at h
  rw [zaH (by simpa using h.1)]
  show (false||(backTo pos (starEach es env)).any (·.1))=false
  rw [zbO h.2];rfl
theorem zeK {e:Expr}{env:Env}(h:isStar e=false):starEach [e] env=[(false,eval e env)]:=zaH h
theorem zlx {e g:Expr}{env:Env}(h:isStar e=false)(k:isStar g=false):starEach [e,g] env=[(false,eval e env),(false,eval g env)]:=by rw [zaH h,zeK k]
def zf5 (K:PySem.W.Frag)(H:Hp)(a:Addr)(xs:List V):Prop :=
 (∃ o,H a=some (.frz o (.lst xs)))\/∃ (o:Obj) (its:Array Value) (n:Nat),K.lookup a=some o/\o.cls=.type "list"/\o.dict=none/\o.data=.seq its n/\its.size<=sizeLine/\Vals xs its.toList
theorem zf5.sq {K:PySem.W.Frag}{H:Hp}{a:Addr}{xs:List V}(h:zf5 K H a xs):SqL K H a xs:=h.imp (fun h=>.inr h) id
mutual
inductive Rel (K:PySem.W.Frag)(ad:List Addr)(H:Hp):D->V->Prop
 | non:Rel K ad H .non .non
 | bl (b:Bool):Rel K ad H (.bl b) (.bl b)
 | int (i:Int):Rel K ad H (.int i) (.int i)
 | str (x:Str):Rel K ad H (.str x) (.str x)
 | ty (n:String):Rel K ad H (.ty n) (.ty n)
 | tup {a:Addr} {vs:List V} {ds:List D}:H a=some (.tup vs)->zG K ad H ds vs->Rel K ad H (.tup ds) (.ref a)
 | rl {a:Addr} {vs:List V} {ds:List D}:zf5 K H a vs->zG K ad H ds vs->Rel K ad H (.rl ds) (.ref a)
 | ref {n:Nat} {a:Addr}:ad[n]?=some a->Rel K ad H (.ref n) (.ref a)
 | exn {c:Str} {a C:Addr} {o:Obj} {u:HO}:H a=some (.frz o u)->o.cls=.ref C->PySem.W.nsIn K mainGlobals c=some (some (.ref C))->Rel K ad H (.exn c) (.ref a)
inductive zG (K:PySem.W.Frag)(ad:List Addr)(H:Hp):List D->List V->Prop
 | nil:zG K ad H [] []
 | cons {d:D} {v:V} {ds:List D} {vs:List V}:Rel K ad H d v->zG K ad H ds vs->zG K ad H (d::ds) (v::vs)
end
structure Wd (ad:List Addr)(H:Hp)(ad':List Addr)(H':Hp):Prop where
 pre:ad <+: ad'
 keep:∀ b o,b∉ad->H b=some o->H' b=some o
 tup:∀ b xs,H b=some (.tup xs)->H' b=some (.tup xs)
 frz:∀ b o u,H b=some (.frz o u)->H' b=some (.frz o u)
 new:∀ b,b∈ad'->b∉ad->H b=none
theorem Wd.refl {ad:List Addr}{H:Hp}:Wd ad H ad H:=⟨List.prefix_refl _,fun _ _ _ h=>h,fun _ _ h=>h,fun _ _ _ h=>h,fun _ h n=>absurd h n⟩
theorem Wd.trans {ad ad1 ad2:List Addr}{H H1 H2:Hp}(a:Wd ad H ad1 H1)(b:Wd ad1 H1 ad2 H2):Wd ad H ad2 H2 where
 pre:=a.pre.trans b.pre
 keep:=fun c o hc h=>b.keep c o (fun h1=>by rw [a.new c h1 hc] at h;cases h) (a.keep c o hc h)
 tup:=fun c xs h=>b.tup c xs (a.tup c xs h)
 frz:=fun c o u h=>b.frz c o u (a.frz c o u h)
 new:=fun c h2 hc=>by
  by_cases h1:c∈ad1
  ·exact a.new c h1 hc
  ·have n1:=b.new c h2 h1
   cases e:H c with
   | none=>rfl
   | some o=>rw [a.keep c o hc e] at n1;cases n1
theorem zg6 {α:Type}{l l':List α}(h:l <+: l'){n:Nat}{a:α}(e:l[n]?=some a):l'[n]?=some a:=by
 obtain⟨t,rfl⟩:=h
 rw [List.getElem?_append_left (My.zaK e)];exact e
structure Wr (ad:List Addr)(H:Hp)(ad':List Addr)(H':Hp):Prop where
 pre:ad <+: ad'
 tup:∀ b xs,H b=some (.tup xs)->H' b=some (.tup xs)
 frz:∀ b o u,H b=some (.frz o u)->H' b=some (.frz o u)
theorem Wd.wr {ad ad':List Addr}{H H':Hp}(w:Wd ad H ad' H'):Wr ad H ad' H':=⟨w.pre,w.tup,w.frz⟩
theorem zf5.wr {K:PySem.W.Frag}{ad ad':List Addr}{H H':Hp}{a:Addr}{xs:List V}(w:Wr ad H ad' H')(h:zf5 K H a xs):zf5 K H' a xs:=h.imp (fun⟨o,e⟩=>⟨o,w.frz _ _ _ e⟩) id
mutual
theorem Rel.wr {K:PySem.W.Frag}{ad ad':List Addr}{H H':Hp}(w:Wr ad H ad' H'):∀ {d:D} {v:V},Rel K ad H d v->Rel K ad' H' d v
 | _,_,.non=>.non
 | _,_,.bl b=>.bl b
 | _,_,.int i=>.int i
 | _,_,.str x=>.str x
 | _,_,.ty n=>.ty n
 | _,_,.tup h r=>.tup (w.tup _ _ h) (zG.wr w r)
 | _,_,.rl h r=>.rl (h.wr w) (zG.wr w r)
 | _,_,.ref h=>.ref (zg6 w.pre h)
 | _,_,.exn h e n=>.exn (w.frz _ _ _ h) e n
theorem zG.wr {K:PySem.W.Frag}{ad ad':List Addr}{H H':Hp}(w:Wr ad H ad' H'):∀ {ds:List D} {vs:List V},zG K ad H ds vs->zG K ad' H' ds vs
 | _,_,.nil=>.nil
 | _,_,.cons r t=>.cons (Rel.wr w r) (zG.wr w t)
end
theorem Rel.wd {K:PySem.W.Frag}{ad ad':List Addr}{H H':Hp}{d:D}{v:V}(r:Rel K ad H d v)(w:Wd ad H ad' H'):Rel K ad' H' d v:=Rel.wr w.wr r
theorem zG.wd {K:PySem.W.Frag}{ad ad':List Addr}{H H':Hp}{ds:List D}{vs:List V}(r:zG K ad H ds vs)(w:Wd ad H ad' H'):zG K ad' H' ds vs:=zG.wr w.wr r
section
variable {K:PySem.W.Frag}{ad:List Addr}{H:Hp}
theorem zG.length:∀ {ds:List D} {vs:List V},zG K ad H ds vs->ds.length=vs.length
  | _,_,.nil=>rfl
  | _,_,.cons _ t=>congrArg (· + 1) (zG.length t)
theorem zG.get:∀ {ds:List D} {vs:List V} {i:Nat} {d:D},zG K ad H ds vs->ds[i]?=some d->∃ v,vs[i]?=some v/\Rel K ad H d v
 | _,_,_,_,.nil,e=>by simp at e
 | _,_,0,_,.cons r _,e=>by simp at e;subst e;exact⟨_,rfl,r⟩
 | _,_,i+1,d,.cons _ t,e=>by
  obtain⟨v,h1,h2⟩:=zG.get (i:=i) (d:=d) t (by simpa using e)
  exact⟨v,by simpa using h1,h2⟩
theorem zG.append:∀ {ds es:List D} {vs us:List V},zG K ad H ds vs->zG K ad H es us->zG K ad H (ds++es) (vs++us)
 | _,_,_,_,.nil,s=>s
 | _,_,_,_,.cons r t,s=>.cons r (zG.append t s)
theorem zG.take:∀ {ds:List D} {vs:List V} (n:Nat),zG K ad H ds vs->zG K ad H (ds.take n) (vs.take n)
 | _,_,0,_=>.nil
 | _,_,_+1,.nil=>.nil
 | _,_,n+1,.cons r t=>.cons r (zG.take n t)
theorem zG.drop:∀ {ds:List D} {vs:List V} (n:Nat),zG K ad H ds vs->zG K ad H (ds.drop n) (vs.drop n)
 | _,_,0,r=>r
 | _,_,_+1,.nil=>.nil
 | _,_,n+1,.cons _ t=>zG.drop n t
theorem zG.set {d:D}{v:V}(r:Rel K ad H d v):∀ {ds:List D} {vs:List V} (i:Nat),zG K ad H ds vs->zG K ad H (ds.set i d) (vs.set i v)
 | _,_,_,.nil=>.nil
 | _,_,0,.cons _ t=>.cons r t
 | _,_,i+1,.cons q t=>.cons q (zG.set r i t)
theorem zG.bls:∀ {ns:List Bool} {vs:List V},zG K ad H (ns.map D.bl) vs->vs=ns.map V.bl
 | [],_,.nil=>rfl
 | n::ns,_,.cons r t=>by cases r;rw [zG.bls t];rfl
theorem zG.mk_ints:∀ (ns:List Int),zG K ad H (ns.map D.int) (ns.map V.int)
 | []=>.nil
 | n::ns=>.cons (.int n) (zG.mk_ints ns)
end
inductive zas (K:PySem.W.Frag)(ad:List Addr)(H:Hp):List (Str×D)->List (Str×V)->Prop
 | nil:zas K ad H [] []
 | cons {f:Str} {d:D} {v:V} {fs:List (Str×D)} {vs:List (Str×V)}:Rel K ad H d v->zas K ad H fs vs->zas K ad H ((f,d)::fs) ((f,v)::vs)
theorem zas.wr {K:PySem.W.Frag}{ad ad':List Addr}{H H':Hp}(w:Wr ad H ad' H'):∀ {fs:List (Str×D)} {vs:List (Str×V)},zas K ad H fs vs->zas K ad' H' fs vs
 | _,_,.nil=>.nil
 | _,_,.cons r t=>.cons (Rel.wr w r) (zas.wr w t)
theorem zas.look {K:PySem.W.Frag}{ad:List Addr}{H:Hp}{f:Str}:∀ {fs:List (Str×D)} {vs:List (Str×V)} {d:D},zas K ad H fs vs->fs.lookup f=some d->∃ v,vs.lookup f=some v/\Rel K ad H d v
 | _,_,d,.nil,e=>by simp at e
 | _,_,d,@zas.cons _ _ _ g x v fs vs r t,e=>by
  rw [List.lookup_cons] at e ⊢
  cases h:f==g with
  | true=>rw [h] at e;cases e;exact⟨v,rfl,r⟩
  | false=>rw [h] at e;exact zas.look t e
theorem zas.put {K:PySem.W.Frag}{ad:List Addr}{H:Hp}{f:Str}{d:D}{v:V}(rd:Rel K ad H d v):∀ {fs:List (Str×D)} {vs:List (Str×V)},zas K ad H fs vs->zas K ad H (putD f d fs) (zbg f v vs)
 | _,_,.nil=>.cons rd .nil
 | _,_,@zas.cons _ _ _ g x u fs vs r t=>by
  show zas K ad H (if g=f then (g,d)::fs else (g,x)::putD f d fs) (if g=f then (g,v)::vs else (g,u)::zbg f v vs)
  by_cases h:g=f
  ·rw [if_pos h,if_pos h];exact .cons rd t
  ·rw [if_neg h,if_neg h];exact .cons r (zas.put rd t)
theorem zas.length {K:PySem.W.Frag}{ad:List Addr}{H:Hp}:∀ {fs:List (Str×D)} {vs:List (Str×V)},zas K ad H fs vs->fs.length=vs.length
  | _,_,.nil=>rfl
  | _,_,.cons _ t=>congrArg (· + 1) (zas.length t)
theorem ziu {f:Str}{d:D}{q:Str×D}:∀ {fs:List (Str×D)},q∈putD f d fs->q.1=f\/q∈fs
 | [],h=>by
  have:q=(f,d):=by simpa [putD] using h
  subst this;exact .inl rfl
 | (g,x)::fs,h=>by
  have h:q∈if g=f then (g,d)::fs else (g,x)::putD f d fs:=h
  by_cases e:g=f
  ·rw [if_pos e] at h
   rcases List.mem_cons.mp h with rfl | h
   ·exact .inl e
   ·exact .inr (List.mem_cons_of_mem _ h)
  ·rw [if_neg e] at h
   rcases List.mem_cons.mp h with rfl | h
   ·exact .inr (by simp)
   ·exact (ziu h).imp id (List.mem_cons_of_mem _)
theorem ziL {f:Str}{d:D}:∀ {fs:List (Str×D)},fs.lookup f=some d->∃ q∈fs,q.1=f
 | [],e=>by simp at e
 | (g,x)::fs,e=>by
  rw [List.lookup_cons] at e
  cases h:f==g with
  | true=>exact⟨(g,x),by simp,(eq_of_beq h).symm⟩
  | false =>
   rw [h] at e
   obtain⟨q,hq,e'⟩:=ziL e
   exact⟨q,List.mem_cons_of_mem _ hq,e'⟩
inductive RelK (K:PySem.W.Frag)(ad:List Addr)(H:Hp):List (Str×D)->List (Key×V)->Prop
 | nil:RelK K ad H [] []
 | cons {x:Str} {d:D} {v:V} {fs:List (Str×D)} {vs:List (Key×V)}:Rel K ad H d v->RelK K ad H fs vs->RelK K ad H ((x,d)::fs) ((.inr x,v)::vs)
inductive zct (K:PySem.W.Frag)(ad:List Addr)(H:Hp):List (List Key×D)->List (List Key×V)->Prop
 | nil:zct K ad H [] []
 | cons {x:List Key} {d:D} {v:V} {fs:List (List Key×D)} {vs:List (List Key×V)}:Rel K ad H d v->zct K ad H fs vs->zct K ad H ((x,d)::fs) ((x,v)::vs)
theorem RelK.wr {K:PySem.W.Frag}{ad ad':List Addr}{H H':Hp}(w:Wr ad H ad' H'):∀ {fs:List (Str×D)} {vs:List (Key×V)},RelK K ad H fs vs->RelK K ad' H' fs vs
 | _,_,.nil=>.nil
 | _,_,.cons r t=>.cons (Rel.wr w r) (RelK.wr w t)
theorem zct.wr {K:PySem.W.Frag}{ad ad':List Addr}{H H':Hp}(w:Wr ad H ad' H'):∀ {fs:List (List Key×D)} {vs:List (List Key×V)},zct K ad H fs vs->zct K ad' H' fs vs
 | _,_,.nil=>.nil
 | _,_,.cons r t=>.cons (Rel.wr w r) (zct.wr w t)
def zck (K:PySem.W.Frag)(ad:List Addr)(H:Hp)(a:Addr):Cell->Prop
 | .lst ds=>∃ vs,H a=some (.lst vs)/\zG K ad H ds vs
 | .ins c fs=>∃ C dx vs,H a=some (.ins C dx vs)/\Cls K C/\PySem.W.nsIn K mainGlobals c=some (some (.ref C))/\zas K ad H fs vs/\∀ q∈fs,zah K C q.1
 | .dk kvs=>∃ vs,H a=some (.dK vs)/\RelK K ad H kvs vs
 | .dt kvs=>∃ vs,H a=some (.dT vs)/\zct K ad H kvs vs
class Bs where
 ad:List Addr
 H:Hp
structure zL [B:Bs](K:PySem.W.Frag)(ad:List Addr)(H:Hp)(S:Sto):Prop where
 wd:Wd B.ad B.H ad H
 len:ad.length=S.length
 nd:ad.Nodup
 cell:∀ (n:Nat) (a:Addr) (c:Cell),ad[n]?=some a->S[n]?=some c->zck K ad H a c
structure zag (K:PySem.W.Frag)(ad:List Addr)(H:Hp)(ρ:Rho)(σ:L2.St):Prop where
 len:ρ.length=σ.length
 val:∀ (i:Nat) (d:D),ρ[i]?=some (some d)->∃ v,σ[i]?=some (some v)/\Rel K ad H d v
theorem zag.wd {K:PySem.W.Frag}{ad ad':List Addr}{H H':Hp}{ρ:Rho}{σ:L2.St}(h:zag K ad H ρ σ)(w:Wd ad H ad' H'):zag K ad' H' ρ σ :=
 ⟨h.len,fun i d e=>let ⟨v,e',r⟩:=h.val i d e;⟨v,e',r.wd w⟩⟩
variable [B:Bs]
section
variable {K:PySem.W.Frag}{ad:List Addr}{H:Hp}{S:Sto}
theorem zL.get (st:zL K ad H S){n:Nat}{c:Cell}(h:S[n]?=some c):∃ a,ad[n]?=some a/\zck K ad H a c:=by
 have hn:n<ad.length:=by rw [st.len];exact My.zaK h
 exact⟨ad[n],List.getElem?_eq_getElem hn,st.cell n _ c (List.getElem?_eq_getElem hn) h⟩
theorem zck.some {a:Addr}{c:Cell}(h:zck K ad H a c):∃ o,H a=some o:=by
 cases c with
 | lst ds=>obtain⟨vs,e,_⟩:=h;exact⟨_,e⟩
 | ins c fs=>obtain⟨C,dx,vs,e,_⟩:=h;exact⟨_,e⟩
 | dk kvs=>obtain⟨vs,e,_⟩:=h;exact⟨_,e⟩
 | dt kvs=>obtain⟨vs,e,_⟩:=h;exact⟨_,e⟩
theorem zL.there (st:zL K ad H S){a:Addr}(h:a∈ad):∃ o,H a=some o:=by
 obtain⟨n,hn,e⟩:=List.mem_iff_getElem.mp h
 have e':ad[n]?=some a:=by rw [List.getElem?_eq_getElem hn,e]
 have hs:n<S.length:=by rw [<- st.len];exact hn
 exact (st.cell n a S[n] e' (List.getElem?_eq_getElem hs)).some
theorem zL.fresh (st:zL K ad H S){l:Addr}(h:H l=none):l∉ad:=fun m=>by
 obtain⟨o,e⟩:=st.there m
 rw [h] at e;cases e
theorem zck.wr {ad':List Addr}{H':Hp}{a:Addr}{c:Cell}(h:zck K ad H a c)(w:Wr ad H ad' H')(same:H' a=H a):zck K ad' H' a c:=by
 cases c with
 | lst ds=>obtain⟨vs,e,r⟩:=h;exact⟨vs,same.trans e,zG.wr w r⟩
 | ins c fs=>obtain⟨C,dx,vs,e,c1,c2,r,n⟩:=h;exact⟨C,dx,vs,same.trans e,c1,c2,zas.wr w r,n⟩
 | dk kvs=>obtain⟨vs,e,r⟩:=h;exact⟨vs,same.trans e,RelK.wr w r⟩
 | dt kvs=>obtain⟨vs,e,r⟩:=h;exact⟨vs,same.trans e,zct.wr w r⟩
theorem zck.wd {ad':List Addr}{H':Hp}{a:Addr}{c:Cell}(h:zck K ad H a c)(w:Wd ad H ad' H')(same:H' a=H a):zck K ad' H' a c:=h.wr w.wr same
theorem Wd.laid {l:Addr}{o:HO}(h:H l=none):Wd ad H ad (upd H l o) :=
 ⟨List.prefix_refl _,fun b u _ e=>zdw h e,fun b u e=>zdw h e,fun b u w e=>zdw h e,fun _ m n=>absurd m n⟩
theorem zL.bfree (st:zL K ad H S){p:Addr}(h:H p=none):B.H p=none:=by
 cases e:B.H p with
 | none=>rfl
 | some o =>
  by_cases m:p∈B.ad
  ·obtain⟨u,hu⟩:=st.there (st.wd.pre.subset m)
   rw [h] at hu;cases hu
  ·rw [st.wd.keep p o m e] at h;cases h
theorem zL.laid (st:zL K ad H S){l:Addr}{o:HO}(h:H l=none):zL K ad (upd H l o) S :=
 ⟨st.wd.trans (Wd.laid h),st.len,st.nd,fun n a c e1 e2=>(st.cell n a c e1 e2).wd (Wd.laid h) (by
  obtain⟨u,e⟩:=(st.cell n a c e1 e2).some
  rw [zdw h e,e])⟩
theorem Wd.newL (st:zL K ad H S){l:Addr}{o:HO}(h:H l=none):Wd ad H (ad++[l]) (upd H l o) :=
 ⟨List.prefix_append _ _,fun b u _ e=>zdw h e,fun b u e=>zdw h e,fun b u w e=>zdw h e,fun b m n=>by
  rcases List.mem_append.mp m with m | m
  ·exact absurd m n
  ·have:b=l:=by simpa using m
   subst this;exact h⟩
theorem zL.newL (st:zL K ad H S){l:Addr}{vs:List V}{ds:List D}(h:H l=none)(r:zG K ad H ds vs):zL K (ad++[l]) (upd H l (.lst vs)) (S++[.lst ds]) where
 wd:=st.wd.trans (Wd.newL st h)
 len:=by rw [List.length_append,List.length_append,st.len];rfl
 nd:=by
  rw [List.nodup_append]
  refine⟨st.nd,by simp,fun a ha b hb e=>?_⟩
  have:b=l:=by simpa using hb
  subst this;subst e
  exact st.fresh h ha
 cell:=fun n a c e1 e2=>by
  by_cases hn:n<ad.length
  ·rw [List.getElem?_append_left hn] at e1
   rw [List.getElem?_append_left (by rw [<- st.len];exact hn)] at e2
   have ok:=st.cell n a c e1 e2
   obtain⟨u,e⟩:=ok.some
   exact ok.wd (Wd.newL st h) (by rw [zdw h e,e])
  ·have hn':ad.length<=n:=Nat.le_of_not_lt hn
   rw [List.getElem?_append_right hn'] at e1
   rw [List.getElem?_append_right (by rw [<- st.len];exact hn'),<- st.len] at e2
   cases hk:n-ad.length with
   | zero =>
    rw [hk] at e1 e2
    have e1':l=a:=by simpa using e1
    have e2':Cell.lst ds=c:=by simpa using e2
    subst e1' e2'
    exact⟨vs,zaP,r.wd (Wd.newL st h)⟩
   | succ k=>rw [hk] at e1;simp at e1
theorem zL.newRef (st:zL K ad H S){l:Addr}{o:HO}:Rel K (ad++[l]) (upd H l o) (.ref S.length) (.ref l):=.ref (by rw [<- st.len,List.getElem?_append_right (Nat.le_refl _),Nat.sub_self];rfl)
theorem Wd.put {n:Nat}{a:Addr}{vs ws:List V}(e:ad[n]?=some a)(h:H a=some (.lst vs)):Wd ad H ad (upd H a (.lst ws)) :=
 ⟨List.prefix_refl _,fun b u hb q=>by
   have:b≠a:=fun z=>hb (by rw [z];exact List.mem_of_getElem? e)
   rw [zW this];exact q,
  fun b xs q=>by rw [zW (zfA q h (by intro z;cases z))];exact q,fun b o u q=>by rw [zW (zfA q h (by intro z;cases z))];exact q,fun _ m n=>absurd m n⟩
theorem zL.put (st:zL K ad H S){n:Nat}{a:Addr}{vs ws:List V}{ds:List D}(e:ad[n]?=some a)(h:H a=some (.lst vs))(r:zG K ad H ds ws):zL K ad (upd H a (.lst ws)) (S.set n (.lst ds)) where
 wd:=st.wd.trans (Wd.put e h)
 len:=by rw [List.length_set];exact st.len
 nd:=st.nd
 cell:=fun m b c e1 e2=>by
  have w:=Wd.put (ws:=ws) e h
  by_cases hm:m=n
  ·subst hm
   rw [e] at e1;cases e1
   rw [List.getElem?_set_self (by rw [<- st.len];exact My.zaK e)] at e2
   cases e2
   exact⟨ws,zaP,r.wd w⟩
  ·rw [List.getElem?_set_ne (Ne.symm hm)] at e2
   have ne:b≠a:=fun z=>by
    subst z
    have h1:=My.zaK e1
    have h2:=My.zaK e
    have q1:=(List.getElem?_eq_some_iff.mp e1).2
    have q2:=(List.getElem?_eq_some_iff.mp e).2
    exact hm ((List.getElem_inj st.nd).mp (q1.trans q2.symm))
   exact (st.cell m b c e1 e2).wd w (zW ne)
theorem zL.newI (st:zL K ad H S){x dx C:Addr}{c:Str}(h:H x=none)(h2:H dx=none)(hne:dx≠x)(hc:Cls K C)(hn:PySem.W.nsIn K mainGlobals c=some (some (.ref C))) :
  Wd ad H (ad++[x]) (upd (upd H dx (.own x)) x (.ins C dx []))/\zL K (ad++[x]) (upd (upd H dx (.own x)) x (.ins C dx [])) (S++[.ins c []]):=by
 have st1:=st.laid (o:=.own x) h2
 have hx:upd H dx (.own x) x=none:=by rw [zW (Ne.symm hne)];exact h
 have w1:Wd ad H ad (upd H dx (.own x)):=Wd.laid h2
 have w2:Wd ad (upd H dx (.own x)) (ad++[x]) (upd (upd H dx (.own x)) x (.ins C dx [])):=Wd.newL st1 hx
 refine⟨w1.trans w2,st.wd.trans (w1.trans w2),?_,?_,fun n a c' e1 e2=>?_⟩
 ·rw [List.length_append,List.length_append,st.len];rfl
 ·rw [List.nodup_append]
  refine⟨st.nd,by simp,fun a ha b hb e=>?_⟩
  have:b=x:=by simpa using hb
  subst this;subst e
  exact st.fresh h ha
 ·by_cases hn':n<ad.length
  ·rw [List.getElem?_append_left hn'] at e1
   rw [List.getElem?_append_left (by rw [<- st.len];exact hn')] at e2
   have ok:=st1.cell n a c' e1 e2
   obtain⟨u,e⟩:=ok.some
   exact ok.wd w2 (by rw [zdw hx e,e])
  ·have hn':ad.length<=n:=Nat.le_of_not_lt hn'
   rw [List.getElem?_append_right hn'] at e1
   rw [List.getElem?_append_right (by rw [<- st.len];exact hn'),<- st.len] at e2
   cases hk:n-ad.length with
   | zero =>
    rw [hk] at e1 e2
    have e1':x=a:=by simpa using e1
    have e2':Cell.ins c []=c':=by simpa using e2
    subst e1' e2'
    exact⟨C,dx,[],zaP,hc,hn,.nil,fun q hq=>by cases hq⟩
   | succ k=>rw [hk] at e1;simp at e1
theorem Wd.putI {n:Nat}{a C dx C' dx':Addr}{vs ws:List (Str×V)}(e:ad[n]?=some a)(h:H a=some (.ins C dx vs)):Wd ad H ad (upd H a (.ins C' dx' ws)) :=
 ⟨List.prefix_refl _,fun b u hb q=>by
   have:b≠a:=fun z=>hb (by rw [z];exact List.mem_of_getElem? e)
   rw [zW this];exact q,
  fun b xs q=>by rw [zW (zfA q h (by intro z;cases z))];exact q,fun b o u q=>by rw [zW (zfA q h (by intro z;cases z))];exact q,fun _ m n=>absurd m n⟩
theorem zL.putI (st:zL K ad H S){n:Nat}{a C dx:Addr}{c f:Str}{vs:List (Str×V)}{fs:List (Str×D)}{d:D}{v:V}(e:ad[n]?=some a)(h:H a=some (.ins C dx vs))(hc:Cls K C)(hn:PySem.W.nsIn K mainGlobals c=some (some (.ref C)))(rf:zas K ad H fs vs)(hna:∀ q∈fs,zah K C q.1)(hf:zah K C f)(r:Rel K ad H d v) :
  zL K ad (upd H a (.ins C dx (zbg f v vs))) (S.set n (.ins c (putD f d fs))) where
 wd:=st.wd.trans (Wd.putI e h)
 len:=by rw [List.length_set];exact st.len
 nd:=st.nd
 cell:=fun m b c' e1 e2=>by
  have w:Wd ad H ad (upd H a (.ins C dx (zbg f v vs))):=Wd.putI e h
  by_cases hm:m=n
  ·subst hm
   rw [e] at e1;cases e1
   rw [List.getElem?_set_self (by rw [<- st.len];exact My.zaK e)] at e2
   cases e2
   refine⟨C,dx,_,zaP,hc,hn,zas.wr w.wr (zas.put r rf),fun q hq=>?_⟩
   rcases ziu hq with h1 | h1
   ·rw [h1];exact hf
   ·exact hna q h1
  ·rw [List.getElem?_set_ne (Ne.symm hm)] at e2
   have ne:b≠a:=fun z=>by
    subst z
    have q1:=(List.getElem?_eq_some_iff.mp e1).2
    have q2:=(List.getElem?_eq_some_iff.mp e).2
    exact hm ((List.getElem_inj st.nd).mp (q1.trans q2.symm))
   exact (st.cell m b c' e1 e2).wd w (zW ne)
theorem Wd.hid {ad':List Addr}{H':Hp}{p:Addr}{o:HO}(w:Wd ad H ad' H')(hp:H p=none):Wd ad H ad' (upd H' p o) :=
 ⟨w.pre,fun b u hb q=>by rw [zW (zaW q hp)];exact w.keep b u hb q,fun b u q=>by rw [zW (zaW q hp)];exact w.tup b u q,fun b u v q=>by rw [zW (zaW q hp)];exact w.frz b u v q,w.new⟩
theorem Wr.hid {p:Addr}{vs ws:List V}(h:H p=some (.lst vs)):Wr ad H ad (upd H p (.lst ws)) :=
 ⟨List.prefix_refl _,fun b xs q=>by rw [zW (zfA q h (by intro z;cases z))];exact q,fun b o u q=>by rw [zW (zfA q h (by intro z;cases z))];exact q⟩
theorem zL.hid (st:zL K ad H S){p:Addr}{vs ws:List V}(h:H p=some (.lst vs))(hp:p∉ad)(hb:B.H p=none):zL K ad (upd H p (.lst ws)) S :=
 ⟨st.wd.hid hb,st.len,st.nd,fun n a c e1 e2=>(st.cell n a c e1 e2).wr (Wr.hid h) (zW fun z=>hp (by rw [<- z];exact List.mem_of_getElem? e1))⟩
theorem Wd.add {ad':List Addr}{H':Hp}{p:Addr}(w:Wd ad H ad' H')(hp:H p=none):Wd ad H (ad'++[p]) H' :=
 ⟨w.pre.trans (List.prefix_append _ _),w.keep,w.tup,w.frz,fun b m n=>by
  rcases List.mem_append.mp m with m | m
  ·exact w.new b m n
  ·have:b=p:=by simpa using m
   subst this;exact hp⟩
theorem zL.add (st:zL K ad H S){p:Addr}{vs:List V}{ds:List D}(h:H p=some (.lst vs))(hp:p∉ad)(r:zG K ad H ds vs)(hb:B.H p=none):zL K (ad++[p]) H (S++[.lst ds]) where
 wd:=st.wd.add hb
 len:=by rw [List.length_append,List.length_append,st.len];rfl
 nd:=by
  rw [List.nodup_append]
  refine⟨st.nd,by simp,fun a ha b hb e=>?_⟩
  have:b=p:=by simpa using hb
  subst this;subst e
  exact hp ha
 cell:=fun n a c e1 e2=>by
  have w:Wr ad H (ad++[p]) H:=⟨List.prefix_append _ _,fun _ _ q=>q,fun _ _ _ q=>q⟩
  by_cases hn:n<ad.length
  ·rw [List.getElem?_append_left hn] at e1
   rw [List.getElem?_append_left (by rw [<- st.len];exact hn)] at e2
   exact (st.cell n a c e1 e2).wr w rfl
  ·have hn':ad.length<=n:=Nat.le_of_not_lt hn
   rw [List.getElem?_append_right hn'] at e1
   rw [List.getElem?_append_right (by rw [<- st.len];exact hn'),<- st.len] at e2
   cases hk:n-ad.length with
   | zero =>
    rw [hk] at e1 e2
    have e1':p=a:=by simpa using e1
    have e2':Cell.lst ds=c:=by simpa using e2
    subst e1' e2'
    exact⟨vs,h,zG.wr w r⟩
   | succ k=>rw [hk] at e1;simp at e1
theorem Lst.sq (st:zL K ad H S){x:D}{xs:List D}{v:V}(h:Lst S x xs)(r:Rel K ad H x v):∃ a vs,v=.ref a/\SqL K H a vs/\zG K ad H xs vs:=by
 rcases h with rfl | ⟨n,rfl,h⟩
 ·cases r with
  | rl h r=>exact⟨_,_,rfl,h.sq,r⟩
 ·cases r with
  | ref e =>
   obtain⟨vs,e2,r⟩:=st.cell n _ _ e h
   exact⟨_,vs,rfl,SqL.of e2,r⟩
theorem zf9.sq (st:zL K ad H S){x:D}{xs:List D}{v:V}(h:zf9 S x xs)(r:Rel K ad H x v):∃ a vs,v=.ref a/\(SqL K H a vs\/SqT K H a vs)/\zG K ad H xs vs:=by
 rcases h with rfl | h
 ·cases r with
  | tup h r=>exact⟨_,_,rfl,.inr (SqT.of h),r⟩
 ·obtain⟨a,vs,e,s,r⟩:=Lst.sq st h r
  exact⟨a,vs,e,.inl s,r⟩
end
omit B in
theorem el8 {a b c d:Type}{p1 p2 p3 p4:a->b->c->d->Prop}{R:Prop}(h:∃ (x:a) (y:b) (z:c) (w:d),p1 x y z w/\p2 x y z w/\p3 x y z w/\p4 x y z w)(f:∀ (x:a) (y:b) (z:c) (w:d),p1 x y z w->p2 x y z w->p3 x y z w->p4 x y z w->R):R :=
 Exists.elim h fun x h=>Exists.elim h fun y h=>Exists.elim h fun z h=>Exists.elim h fun w h=>f x y z w h.1 h.2.1 h.2.2.1 h.2.2.2
def KK (K:PySem.W.Frag)(ad:List Addr)(H:Hp)(Q0:DK)(Q:VK):Prop:=∀ d S' v H' ad',Q0 d S'->Wd ad H ad' H'->zL K ad' H' S'->Rel K ad' H' d v->Q v H'
theorem KK.wd {K:PySem.W.Frag}{ad ad':List Addr}{H H':Hp}{Q0:DK}{Q:VK}(k:KK K ad H Q0 Q)(w:Wd ad H ad' H'):KK K ad' H' Q0 Q:=fun d S' v H' ad' q w'=>k d S' v H' ad' q (w.trans w')
def up (K:PySem.W.Frag)(t:DE):TE:=fun σ H Q=>∃ ad ρ S Q0,zL K ad H S/\zag K ad H ρ σ/\t ρ S Q0/\KK K ad H Q0 Q
def upT (K:PySem.W.Frag)(t:DT):TT:=fun σ H Q=>∃ ad ρ S Q0,zL K ad H S/\zag K ad H ρ σ/\t ρ S Q0/\∀ b S' H' ad',Q0 b S'->Wd ad H ad' H'->zL K ad' H' S'->Q b H'
def upA (K:PySem.W.Frag)(t:DA):TA:=fun σ H Q=>∃ ad ρ S Q0,zL K ad H S/\zag K ad H ρ σ/\t ρ S Q0/\∀ ds S' vs H' ad',Q0 ds S'->Wd ad H ad' H'->zL K ad' H' S'->zG K ad' H' ds vs->Q vs H'
theorem zL.base {K:PySem.W.Frag}{ad:List Addr}{H:Hp}{S:Sto}(st:zL K ad H S):@zL ⟨ad,H⟩ K ad H S:=@zL.mk ⟨ad,H⟩ _ _ _ _ Wd.refl st.len st.nd st.cell
theorem zL.back {K:PySem.W.Frag}{ad ad':List Addr}{H H':Hp}{S S':Sto}(st:zL K ad H S)(st':@zL ⟨ad,H⟩ K ad' H' S'):zL K ad' H' S' :=
 ⟨st.wd.trans (@zL.wd ⟨ad,H⟩ _ _ _ _ st'),@zL.len ⟨ad,H⟩ _ _ _ _ st',@zL.nd ⟨ad,H⟩ _ _ _ _ st',@zL.cell ⟨ad,H⟩ _ _ _ _ st'⟩
theorem KK.base {K:PySem.W.Frag}{ad:List Addr}{H:Hp}{S:Sto}{Q0:DK}{Q:VK}(st:zL K ad H S)(k:KK K ad H Q0 Q):@KK ⟨ad,H⟩ K ad H Q0 Q:=fun d S' v H' ad' q w st' r=>k d S' v H' ad' q w (st.back st') r
def upF (K:PySem.W.Frag)(f:DSp):Sp:=fun vs H Q _=>∃ ad S ds Q0,@zL ⟨ad,H⟩ K ad H S/\zG K ad H ds vs/\f ds S Q0/\@KK ⟨ad,H⟩ K ad H Q0 Q
structure zdl (K:PySem.W.Frag)(ad:List Addr)(H:Hp)(E0:zhP)(E:Ends):Prop where
 nx:∀ ρ S σ H' ad',E0.nx ρ S->Wd ad H ad' H'->zL K ad' H' S->zag K ad' H' ρ σ->E.nx σ H'
 rt:KK K ad H E0.rt E.rt
 bk:∀ ρ S σ H' ad',E0.bk ρ S->Wd ad H ad' H'->zL K ad' H' S->zag K ad' H' ρ σ->E.bk σ H'
 ct:∀ ρ S σ H' ad',E0.ct ρ S->Wd ad H ad' H'->zL K ad' H' S->zag K ad' H' ρ σ->E.ct σ H'
theorem zdl.wd {K:PySem.W.Frag}{ad ad':List Addr}{H H':Hp}{E0:zhP}{E:Ends}(k:zdl K ad H E0 E)(w:Wd ad H ad' H'):zdl K ad' H' E0 E :=
 ⟨fun ρ S σ H' ad' q w'=>k.nx ρ S σ H' ad' q (w.trans w'),k.rt.wd w,fun ρ S σ H' ad' q w'=>k.bk ρ S σ H' ad' q (w.trans w'),fun ρ S σ H' ad' q w'=>k.ct ρ S σ H' ad' q (w.trans w')⟩
def upS (K:PySem.W.Frag)(t:DS):TS:=fun E σ H=>∃ ad ρ S E0,zL K ad H S/\zag K ad H ρ σ/\t E0 ρ S/\zdl K ad H E0 E
@[irreducible] def PD (X:Cx)(e:Expr)(t:DE):Prop:=PE X e (up X.K t)
@[irreducible] def PTD (X:Cx)(e:Expr)(t:DT):Prop:=PT X e (upT X.K t)
@[irreducible] def PWD (X:Cx)(e:Expr)(t:DT):Prop:=PW X e (upT X.K t)
@[irreducible] def PAD (X:Cx)(es:List Expr)(t:DA):Prop:=PA X es (upA X.K t)
@[irreducible] def PSD (X:Cx)(st:Stmt)(t:DS):Prop:=PS X st (upS X.K t)
@[irreducible] def zdv (X:Cx)(st:List Stmt)(t:DS):Prop:=PSs X st (upS X.K t)
theorem zmJ {X:Cx}{e:Expr}{t t':TE}(h:PE X e t)(m:∀ σ H Q,t' σ H Q->t σ H Q):PE X e t':=fun pins s σ H Q I q=>h pins s σ H Q I (m σ H Q q)
theorem zfJ {X:Cx}{e:Expr}{t t':TT}(h:PT X e t)(m:∀ σ H Q,t' σ H Q->t σ H Q):PT X e t':=fun pins s σ H Q I q=>h pins s σ H Q I (m σ H Q q)
theorem zjx {X:Cx}{e:Expr}{t t':TT}(h:PW X e t)(m:∀ σ H Q,t' σ H Q->t σ H Q):PW X e t':=fun wh pins s σ H Q I q=>h wh pins s σ H Q I (m σ H Q q)
theorem zjy {X:Cx}{e:List Expr}{t t':TA}(h:PA X e t)(m:∀ σ H Q,t' σ H Q->t σ H Q):PA X e t':=fun pos pins s σ H Q I q=>h pos pins s σ H Q I (m σ H Q q)
theorem zaZ {X:Cx}{st:Stmt}{t t':TS}(h:PS X st t)(m:∀ D σ H,t' D σ H->t D σ H):PS X st t':=fun pins s σ H D I q=>h pins s σ H D I (m D σ H q)
theorem ziF {X:Cx}{st:List Stmt}{t t':TS}(h:PSs X st t)(m:∀ D σ H,t' D σ H->t D σ H):PSs X st t':=fun pins s σ H D I q=>h pins s σ H D I (m D σ H q)
section
variable {X:Cx}{a b c:Expr}{ta tb tc:DE}{pos:Pos}
theorem zaM {e:Expr}{t:TE}{d:DE}(h:PE X e t)(m:∀ σ H Q,up X.K d σ H Q->t σ H Q):PD X e d:=by with_unfolding_all exact (zmJ h m)
theorem zcN {e:Expr}{i:Nat}(h:PE X e (zlP i)):PD X e (zj i):=by with_unfolding_all exact (zaM h fun σ H Q ⟨ad,ρ,S,Q0,st,rh,⟨d,e,q⟩,k⟩=>by
 obtain⟨v,ev,r⟩:=rh.val i d e
 exact⟨v,ev,k d S v H ad q Wd.refl st r⟩)
theorem ze8 {e:Expr}{v:V}{d:D}(h:PE X e (tC v))(r:∀ ad H,Rel X.K ad H d v):PD X e (dC d):=by with_unfolding_all exact (zaM h fun σ H Q hh=>el8 hh fun ad ρ S Q0 st rh q k=>k d S v H ad q Wd.refl st (r _ _))
theorem zf {i j}:PD X (.Constant (.int i) j pos) (dC (.int i)):=by with_unfolding_all exact (ze8 zie fun _ _=>.int i)
theorem zdD {b j}:PD X (.Constant (.bool b) j pos) (dC (.bl b)):=by with_unfolding_all exact (ze8 zqv fun _ _=>.bl b)
theorem zhR {j}:PD X (.Constant .none j pos) (dC .non):=by with_unfolding_all exact (ze8 zoT fun _ _=>.non)
theorem z6 {x j}:PD X (.Constant (.str x) j pos) (dC (.str x)):=by with_unfolding_all exact (ze8 zoD fun _ _=>.str x)
theorem zjO {x:Str}{T:String}(hg:Gl X x)(hm:X.mg x=none)(hv:bootBuiltins x=some (.type T))(hn:x≠"__name__":=by decide)(hd:(x==("__debug__":Str))=false:=by decide):PD X (.Name x pos) (dC (.ty T)):=by with_unfolding_all exact (ze8 (zp6 hg hm hv hn hd) fun _ _=>.ty T)
theorem za6 {x:Str}{n:Int}(hg:Gl X x)(hm:∃ t,X.mg x=some (.int n t))(hd:(x==("__debug__":Str))=false:=by decide):PD X (.Name x pos) (dC (.int n)):=by with_unfolding_all exact (ze8 (zm2 hg hm hd) fun _ _=>.int n)
theorem zmU {x z:Str}(hg:Gl X x)(hm:∃ t,X.mg x=some (.str z t))(hd:(x==("__debug__":Str))=false:=by decide):PD X (.Name x pos) (dC (.str z)):=by with_unfolding_all exact (ze8 (by obtain⟨t,hm⟩:=hm;exact zjv (v:=.str z) hg hm ⟨t,rfl⟩ hd) fun _ _=>.str z)
theorem zaO {i j:Int}{m n:Nat}{p1 p2:Pos}(c:Int)(h:i ^ j.toNat=c)(h0:0<=j/\j<=1000000/\i.natAbs<2 ^ 64):PD X (.BinOp (.Constant (.int i) m p1) .Pow (.Constant (.int j) n p2) pos) (dC (.int c)):=by with_unfolding_all exact (ze8 (znC c h h0) fun _ _=>.int c)
def OD (K:PySem.W.Frag)(r':DR2)(r:R2):Prop:=∀ ad H S x y v u Q0 Q,zL K ad H S->Rel K ad H x v->Rel K ad H y u->r' x y S Q0->KK K ad H Q0 Q->r v u H Q
theorem zfE {K:PySem.W.Frag}{r':DR2}{r:R2}(o:OD K r' r){σ:L2.St}{H:Hp}{Q:VK}(h:up K (dOp r' ta tb) σ H Q):tOp r (up K ta) (up K tb) σ H Q:=by
 obtain⟨ad,ρ,S,Q0,st,rh,q,k⟩:=h
 refine⟨ad,ρ,S,_,st,rh,q,fun x S1 v H1 ad1 q1 w1 st1 r1=>?_⟩
 refine⟨ad1,ρ,S1,_,st1,rh.wd w1,q1,fun y S2 u H2 ad2 q2 w2 st2 r2=>?_⟩
 exact o ad2 H2 S2 x y v u Q0 Q st2 (r1.wd w2) r2 q2 (k.wd (w1.trans w2))
theorem zgh {op:Operator}{r':DR2}{r:R2}(ho:OpR X (binaryOp op) r)(o:OD X.K r' r)(ha:PD X a ta)(hb:PD X b tb):PD X (.BinOp a op b pos) (dOp r' ta tb):=by with_unfolding_all exact (zaM (zmz ho ha hb) fun _ _ _=>zfE o)
theorem zkg {K:PySem.W.Frag}{C C':Int->Int->Prop}{g:Int->Int->D}{g':Int->Int->V}(hc:∀ i j,C i j->C' i j)(hg:∀ ad H i j,Rel K ad H (g i j) (g' i j)):OD K (oI C g) (rI C' g'):=fun ad H S x y v u Q0 Q st rx ry ⟨i,j,ex,ey,c,q⟩ k=>by
 subst ex ey
 cases rx
 cases ry
 exact⟨i,j,rfl,rfl,hc i j c,k _ S _ H ad q Wd.refl st (hg ad H i j)⟩
theorem zhO {K:PySem.W.Frag}{g:Int->Int->D}{g':Int->Int->V}(hg:∀ ad H i j,Rel K ad H (g i j) (g' i j)):OD K (oI0 g) (rI0 g'):=fun ad H S x y v u Q0 Q st rx ry ⟨i,j,ex,ey,q⟩ k=>by
 subst ex ey
 cases rx
 cases ry
 exact⟨i,j,rfl,rfl,k _ S _ H ad q Wd.refl st (hg ad H i j)⟩
theorem zkO {i:Int}(h:i.natAbs<2 ^ 64):-(2 ^ 64)<i/\i<2 ^ 64:=⟨by omega,by omega⟩
def zqI (i j:Int):Prop:=zaE i j
theorem zmD:OpR X (binaryOp .Mult) (rI zqI fun i j=>.int (i*j)):=opI fun i j _ _ _ _ _ hc q=>by
 rcases hc with h | h | h
 ·exact mul_int q (IntMulOk.of_bits (zgz h.1) (zgz h.2))
 ·exact mul_int q (zka.ok (.inl (zkO h)))
 ·exact mul_int q (zka.ok (.inr (zkO h)))
theorem zad (ha:PD X a ta)(hb:PD X b tb):PD X (.BinOp a .Sub b pos) (dOp zax ta tb):=by with_unfolding_all exact (zgh zou (zhO fun _ _ i j=>.int (i-j)) ha hb)
theorem zol {z:Str}{n:Int}(hz:z.length<=1000)(h0:-1000<=n)(h1:n<=1000):MulOk z n:=by
 refine⟨?_,fun _ _=>?_,fun h _=>?_⟩
 ·rw [decide_eq_false (by omega),decide_eq_false (by omega)];rfl
 ·have:(1000:Int)<=(2 ^ 63-1)/n\/n<1:=by
   rcases Int.lt_or_le n 1 with g | g
   ·exact .inr g
   ·exact .inl ((Int.le_ediv_iff_mul_le (by omega)).mpr (by omega))
  omega
 ·have:z.length*n.toNat<=1000*1000:=Nat.mul_le_mul hz (by omega)
  have hs:z.length*n.toNat<=sizeLine:=Nat.le_trans this (by decide)
  first
   | exact decide_eq_false (by omega)
   | (unfold tooLong;exact decide_eq_false (by omega))
   | simp [tooLong];omega
theorem znj:OpR X (binaryOp .Mult) (fun x y H Q=>∃ z n,x=.str z/\y=.int n/\MulOk z n/\Q (.str (Txt.mul z n)) H):=by
 intro pins s σ H x y v u Q I rx ry h
 obtain⟨z,n,rfl,rfl,ok,q⟩:=h
 obtain⟨t,rfl⟩:=rx
 obtain⟨t',rfl⟩:=ry
 exact SB.mul ok fun t' k=>⟨.str (Txt.mul z n),H,I.tok _,⟨_,rfl⟩,q⟩
omit B in
theorem zjl {i:Int}(h:Hg i):Builtin.Int.intBits i<=2 ^ 20:=by
 unfold Hg at h
 exact intBits_le h
omit B in
theorem zmH {i:Int}(h:Builtin.Int.intBits i<=2 ^ 20):Hg i:=by
 unfold Hg
 exact Nat.lt_of_lt_of_le (natAbs_lt_pow_bits i) (Nat.pow_le_pow_right (by decide) h)
theorem zng:OpR X (binaryOp .Mult) (rI (fun i j=>Hg i/\Hg j) fun i j=>.int (i*j)):=opI fun i j _ _ _ _ _ hc q=>mul_int q (IntMulOk.of_bits (zjl hc.1) (zjl hc.2))
theorem zal (ha:PD X a ta)(hb:PD X b tb):PD X (.BinOp a .Mult b pos) (dOp zaA ta tb):=by with_unfolding_all exact (zgh (zmD.or (znj.or zng)) (fun ad H S x y v u Q0 Q st rx ry h k=>by
 rcases h with h | ⟨z,n,rfl,rfl,hz,h0,h1,q⟩ | h
 ·exact .inl (zkg (fun _ _ h=>h) (fun _ _ i j=>.int (i*j)) ad H S x y v u Q0 Q st rx ry h k)
 ·cases rx
  cases ry
  exact .inr (.inl ⟨z,n,rfl,rfl,zol hz h0 h1,k _ S _ H ad q Wd.refl st (.str _)⟩)
 ·exact .inr (.inr (zkg (fun _ _ h=>h) (fun _ _ i j=>.int (i*j)) ad H S x y v u Q0 Q st rx ry h k))) ha hb)
theorem zdh (ha:PD X a ta)(hb:PD X b tb):PD X (.BinOp a .FloorDiv b pos) (dOp oDiv ta tb):=by with_unfolding_all exact (zgh zlh (zkg (fun _ _ h=>h) fun _ _ i j=>.int (i.fdiv j)) ha hb)
theorem zaz (ha:PD X a ta)(hb:PD X b tb):PD X (.BinOp a .Mod b pos) (dOp oMod ta tb):=by with_unfolding_all exact (zgh zmS (zkg (fun _ _ h=>h) fun _ _ i j=>.int (i.fmod j)) ha hb)
theorem zdi {n:Nat}(h:n<=big):n<=sizeLine:=Nat.le_trans h (by decide)
theorem zkT {n:Nat}(h:n<big):n<sizeLine:=Nat.lt_of_lt_of_le h (by decide)
theorem zgm {K:PySem.W.Frag}{ad:List Addr}{H:Hp}{S:Sto}{Q0:DK}{Q:VK}{ds:List D}{vs:List V}(st:zL K ad H S)(k:KK K ad H Q0 Q)(r:zG K ad H ds vs)(q:Q0 (.ref S.length) (S++[.lst ds]))(l:Addr)(h:H l=none):Q (.ref l) (upd H l (.lst vs)) :=
 k _ _ _ _ _ q (Wd.newL st h) (st.newL h r) st.newRef
theorem zhT {K:PySem.W.Frag}{ad:List Addr}{H:Hp}{S:Sto}{Q0:DK}{Q:VK}{ds:List D}{vs:List V}(st:zL K ad H S)(k:KK K ad H Q0 Q)(r:zG K ad H ds vs)(q:Q0 (.tup ds) S)(l:Addr)(h:H l=none):Q (.ref l) (upd H l (.tup vs)) :=
 k _ _ _ _ _ q (Wd.laid h) (st.laid h) (.tup zaP (r.wd (Wd.laid h)))
theorem zQ (ha:PD X a ta)(hb:PD X b tb):PD X (.BinOp a .Add b pos) (dOp zX ta tb):=by with_unfolding_all exact (zgh (zoF.or ((zlU rfl).or ((zm3 rfl).or zkh))) (fun ad H S x y v u Q0 Q st rx ry h k=>by
  rcases h with ⟨i,j,rfl,rfl,q⟩ | ⟨xs,ys,rfl,rfl,hz,q⟩ | ⟨xs,ys,hx,hy,hz,q⟩ | ⟨i,j,rfl,rfl,hz,q⟩
  ·cases rx
   cases ry
   exact .inl ⟨i,j,rfl,rfl,k _ S _ H ad q Wd.refl st (.int _)⟩
  ·cases rx with
   | tup h1 r1 =>
    cases ry with
    | tup h2 r2 =>
     have l1:=r1.length
     have l2:=r2.length
     refine .inr (.inl ⟨_,_,_,_,rfl,rfl,SqT.of h1,SqT.of h2,by rw [<- l1,<- l2];exact zdi hz,fun e=>?_,fun _ e=>?_,fun _ _ p hp=>zhT st k (r1.append r2) q p hp⟩)
     ·have e':xs=[]:=List.length_eq_zero_iff.mp (by rw [l1,e];rfl)
      subst e'
      exact k _ S _ H ad q Wd.refl st (.tup h2 r2)
     ·have e':ys=[]:=List.length_eq_zero_iff.mp (by rw [l2,e];rfl)
      subst e'
      rw [List.append_nil] at q
      exact k _ S _ H ad q Wd.refl st (.tup h1 r1)
  ·obtain⟨a1,vs1,rfl,s1,r1⟩:=hx.sq st rx
   obtain⟨a2,vs2,rfl,s2,r2⟩:=hy.sq st ry
   exact .inr (.inr (.inl ⟨_,_,_,_,rfl,rfl,s1,s2,by rw [<- r1.length,<- r2.length];exact zdi hz,fun p hp=>zgm st k (r1.append r2) q p hp⟩))
  ·cases rx
   cases ry
   exact .inr (.inr (.inr ⟨i,j,rfl,rfl,zdi hz,k _ S _ H ad q Wd.refl st (.str _)⟩))) ha hb)
theorem zdU (ha:PD X a ta):PD X (.UnaryOp .USub a pos) (dUn zeV ta):=by with_unfolding_all exact (zaM (zqs zn0 ha) fun σ H Q hh=>el8 hh fun ad ρ S Q0 st rh q k=>by
 refine⟨ad,ρ,S,_,st,rh,q,fun x S1 v H1 ad1 q1 w1 st1 r1=>?_⟩
 obtain⟨i,rfl,q1⟩:=q1
 cases r1
 exact⟨i,rfl,k _ _ _ _ _ q1 w1 st1 (.int _)⟩)
def OC (X:Cx)(op:CmpOp)(r':DR2):Prop:=∃ r,OpR X (compareOp op) r/\OD X.K r' r
theorem zca:OC X .Lt oLt:=⟨_,zpB,zhO fun _ _ _ _=>.bl _⟩
theorem zfz:OC X .LtE oLe:=⟨_,zpP,zhO fun _ _ _ _=>.bl _⟩
theorem zc8:OC X .Gt oGt:=⟨_,zqK,zhO fun _ _ _ _=>.bl _⟩
mutual
def pyD:D->PyData
 | .non=>.none
 | .bl b=>.bool b
 | .int i=>.int i
 | .str x=>.str x
 | .tup xs=>.tuple (zam xs)
 | .ref _=>.none
 | .ty _=>.none
 | .rl _=>.none
 | .exn _=>.none
def zam:List D->List PyData
 | []=>[]
 | x::xs=>pyD x::zam xs
end
section
variable {pins:List (Addr×Obj)}{σ:L2.St}{H:Hp}{s:Shared}{ad:List Addr}
theorem zdM (I:Inv X pins σ H s)(k:Nat)(h1:∀ d v u,fl k d=true->Rel X.K ad H d v->RelV v u->∃ as,Reads s.heap u (pyD d) as):∀ ds vs us,ds.all (fl k)=true->zG X.K ad H ds vs->Vals vs us->∃ as,ReadsAll s.heap us (zam ds) as:=by
 intro ds
 induction ds with
 | nil=>intro vs us _ r rv;cases r;cases rv;exact⟨_,.nil⟩
 | cons d ds ih =>
  intro vs us hf r rv
  rw [List.all_cons,Bool.and_eq_true] at hf
  cases r with
  | cons r t =>
   cases rv with
   | cons q qt =>
    obtain⟨as,ra⟩:=h1 d _ _ hf.1 r q
    obtain⟨bs,rb⟩:=ih _ _ hf.2 t qt
    exact⟨_,.cons ra rb⟩
theorem zbP (I:Inv X pins σ H s):∀ (k:Nat) (d:D) (v:V) (u:Value),fl k d=true->Rel X.K ad H d v->RelV v u->∃ as,Reads s.heap u (pyD d) as:=by
 intro k
 induction k with
 | zero =>
  intro d v u hf r q
  cases r with
  | non=>cases q;exact⟨_,.none⟩
  | bl b=>cases q;exact⟨_,.bool b⟩
  | int i=>obtain⟨t,rfl⟩:=q;exact⟨_,.int i t⟩
  | str x=>obtain⟨t,rfl⟩:=q;exact⟨_,.str x t⟩
  | ty n=>cases hf
  | tup h r=>cases hf
  | rl h r=>cases hf
  | ref h=>cases hf
  | exn _ _ _=>cases hf
 | succ k ih =>
  intro d v u hf r q
  cases r with
  | non=>cases q;exact⟨_,.none⟩
  | bl b=>cases q;exact⟨_,.bool b⟩
  | int i=>obtain⟨t,rfl⟩:=q;exact⟨_,.int i t⟩
  | str x=>obtain⟨t,rfl⟩:=q;exact⟨_,.str x t⟩
  | ty n=>cases hf
  | tup h r =>
   cases q
   obtain⟨its,rv,ht,hz⟩:=I.tuple (SqT.of h)
   obtain⟨o,ho,hc,n,hd⟩:=ht
   obtain⟨as,ra⟩:=zdM I k ih _ _ _ hf r rv
   exact⟨_,.tuple ho hc hd (by simpa using ra)⟩
  | rl h r=>cases hf
  | ref h=>cases hf
  | exn _ _ _=>cases hf
end
theorem zeG:∀ (k:Nat) (d:D),fl k d=true->(pyD d).canLay0=true/\(pyD d).depth<=k:=by
 have all:∀ k,(∀ d,fl k d=true->(pyD d).canLay0=true/\(pyD d).depth<=k)->∀ ds:List D,ds.all (fl k)=true->PyData.canLayAll0 (zam ds)=true/\PyData.depthAll (zam ds)<=k:=by
  intro k h ds
  induction ds with
  | nil=>intro _;exact⟨rfl,Nat.zero_le _⟩
  | cons d ds ih =>
   intro hf
   rw [List.all_cons,Bool.and_eq_true] at hf
   obtain⟨a1,a2⟩:=h d hf.1
   obtain⟨b1,b2⟩:=ih hf.2
   refine⟨?_,?_⟩
   ·show (PyData.canLay0 (pyD d)&&PyData.canLayAll0 (zam ds))=true
    rw [a1,b1];rfl
   ·show max (PyData.depth (pyD d)) (PyData.depthAll (zam ds))<=k
    exact Nat.max_le.mpr ⟨a2,b2⟩
 intro k
 induction k with
 | zero =>
  intro d hf
  cases d with
  | non=>exact⟨rfl,Nat.zero_le _⟩
  | bl b=>exact⟨rfl,Nat.zero_le _⟩
  | int i=>exact⟨rfl,Nat.zero_le _⟩
  | str x=>exact⟨hf,Nat.zero_le _⟩
  | tup xs=>cases hf
  | ref n=>cases hf
  | exn _=>cases hf
  | ty n=>cases hf
  | rl xs=>cases hf
 | succ k ih =>
  intro d hf
  cases d with
  | non=>exact⟨rfl,Nat.zero_le _⟩
  | bl b=>exact⟨rfl,Nat.zero_le _⟩
  | int i=>exact⟨rfl,Nat.zero_le _⟩
  | str x=>exact⟨hf,Nat.zero_le _⟩
  | tup xs =>
   obtain⟨h1,h2⟩:=all k ih xs hf
   refine⟨h1,?_⟩
   show PyData.depthAll (zam xs)+1<=k+1
   omega
  | ref n=>cases hf
  | exn _=>cases hf
  | ty n=>cases hf
  | rl xs=>cases hf
theorem zdg (k:Nat):∀ ds:List D,ds.all (fl k)=true->PyData.canLayAll0 (zam ds)=true/\PyData.depthAll (zam ds)<=k:=by
 intro ds
 induction ds with
 | nil=>intro _;exact⟨rfl,Nat.zero_le _⟩
 | cons d ds ih =>
  intro hf
  rw [List.all_cons,Bool.and_eq_true] at hf
  obtain⟨a1,a2⟩:=zeG k d hf.1
  obtain⟨b1,b2⟩:=ih hf.2
  refine⟨?_,?_⟩
  ·show (PyData.canLay0 (pyD d)&&PyData.canLayAll0 (zam ds))=true
   rw [a1,b1];rfl
  ·show max (PyData.depth (pyD d)) (PyData.depthAll (zam ds))<=k
   exact Nat.max_le.mpr ⟨a2,b2⟩
mutual
theorem ziM:∀ (k:Nat) (x y:D),fl k x=true->fl k y=true->PyData.eqv (pyD x) (pyD y)=eqv x y
  | k,.non,y,_,hy=>by cases y<;>first | rfl | (cases k<;>cases hy)
  | k,.bl a,y,_,hy=>by cases y<;>first | rfl | (cases k<;>cases hy)
  | k,.int i,y,_,hy=>by
    cases y with
    | int j=>show (i==j)=decide (i=j);rw [Bool.beq_eq_decide_eq]
    | ref n=>cases k<;>cases hy
    | exn n=>cases k<;>cases hy
    | ty n=>cases k<;>cases hy
    | rl n=>cases k<;>cases hy
    | _=>rfl
  | k,.str a,y,_,hy=>by cases y<;>first | rfl | (cases k<;>cases hy)
  | 0,.tup xs,y,hx,_=>by cases hx
  | k+1,.tup xs,y,hx,hy=>by
    cases y with
    | tup ys=>exact zdV k xs ys hx hy
    | ref n=>cases hy
    | ty n=>cases hy
    | rl n=>cases hy
    | _=>rfl
  | k,.ref n,y,hx,_=>by cases k<;>cases hx
  | k,.ty n,y,hx,_=>by cases k<;>cases hx
  | k,.rl n,y,hx,_=>by cases k<;>cases hx
  | k,.exn n,y,hx,_=>by cases k<;>cases hx
theorem zdV:∀ (k:Nat) (xs ys:List D),xs.all (fl k)=true->ys.all (fl k)=true->PyData.eqvAll (zam xs) (zam ys)=eqvAll xs ys
  | k,[],[],_,_=>rfl
  | k,[],y::ys,_,_=>rfl
  | k,x::xs,[],_,_=>rfl
  | k,x::xs,y::ys,hx,hy=>by
    rw [List.all_cons,Bool.and_eq_true] at hx hy
    show (PyData.eqv (pyD x) (pyD y)&&PyData.eqvAll (zam xs) (zam ys))=(eqv x y&&eqvAll xs ys)
    rw [ziM k x y hx.1 hy.1,zdV k xs ys hx.2 hy.2]
end
def zcY (xss:List (List D)):List PyData:=xss.map fun zs=>.list (zam zs)
theorem ziE:∀ xss:List (List D),zes xss=true->PyData.canLayAll0 (zcY xss)=true/\PyData.depthAll (zcY xss)<=21
 | [],_=>⟨rfl,Nat.zero_le _⟩
 | zs::xss,h=>by
  unfold zes at h
  rw [List.all_cons,Bool.and_eq_true] at h
  obtain⟨a1,a2⟩:=zdg 20 zs h.1
  obtain⟨b1,b2⟩:=ziE xss h.2
  refine⟨?_,?_⟩
  ·show (PyData.canLayAll0 (zam zs)&&PyData.canLayAll0 (zcY xss))=true
   rw [a1,b1];rfl
  ·show max (PyData.depthAll (zam zs)+1) (PyData.depthAll (zcY xss))<=21
   exact Nat.max_le.mpr ⟨by omega,b2⟩
theorem zkq:∀ xss yss:List (List D),zes xss=true->zes yss=true->PyData.eqvAll (zcY xss) (zcY yss)=eqvAll (xss.map D.tup) (yss.map D.tup)
 | [],[],_,_=>rfl
 | [],_::_,_,_=>rfl
 | _::_,[],_,_=>rfl
 | zs::xss,ws::yss,h,k=>by
  unfold zes at h k
  rw [List.all_cons,Bool.and_eq_true] at h k
  show (PyData.eqvAll (zam zs) (zam ws)&&PyData.eqvAll (zcY xss) (zcY yss))=(eqvAll zs ws&&eqvAll (xss.map D.tup) (yss.map D.tup))
  rw [zdV 20 zs ws h.1 k.1,zkq xss yss h.2 k.2]
theorem zfX {pins:List (Addr×Obj)}{σ:L2.St}{H:Hp}{s:Shared}{ad:List Addr}{S:Sto}(I:Inv X pins σ H s)(st:zL X.K ad H S):∀ (xs:List D) (xss:List (List D)) (vs:List V) (us:List Value),zgG S xs xss->zes xss=true->zG X.K ad H xs vs->Vals vs us->∃ as,ReadsAll s.heap us (zcY xss) as
 | [],[],_,_,_,_,r,rv=>by cases r;cases rv;exact⟨_,.nil⟩
 | [],_::_,_,_,h,_,_,_=>h.elim
 | _::_,[],_,_,h,_,_,_=>h.elim
 | x::xs,zs::xss,_,_,h,f,r,rv=>by
  unfold zes at f
  rw [List.all_cons,Bool.and_eq_true] at f
  cases r with
  | cons r t =>
   obtain⟨a1,vs1,rfl,s1,r1⟩:=h.1.sq st r
   cases rv with
   | cons q qt =>
    cases q
    obtain⟨its,rv1,ht,hz⟩:=I.list s1
    obtain⟨o,ho,hc,n,hd⟩:=ht.isList
    obtain⟨as,ra⟩:=zdM I 20 (zbP I 20) _ _ _ f.1 r1 rv1
    obtain⟨bs,rb⟩:=zfX I st xs xss _ _ h.2 f.2 t qt
    exact⟨_,.cons (.list ho hc hd (by simpa using ra)) rb⟩
def zpa (X:Cx)(g:Bool->Bool):R2:=fun x y H Q=>∃ ad S dx dy b,zL X.K ad H S/\Rel X.K ad H dx x/\Rel X.K ad H dy y/\EqD S dx dy b/\Q (.bl (g b)) H
theorem zht {pins:List (Addr×Obj)}{σ:L2.St}{H:Hp}{s:Shared}{ad:List Addr}{S:Sto}{dx dy:D}{x y:V}{v u:Value}{b:Bool}(I:Inv X pins σ H s)(st:zL X.K ad H S)(rx:Rel X.K ad H dx x)(ry:Rel X.K ad H dy y)(qx:RelV x v)(qy:RelV y u)(h:EqD S dx dy b) :
  ∃ px py as bs,Reads s.heap v px as/\Reads s.heap u py bs/\px.canLay0=true/\py.canLay0=true/\min px.depth py.depth<=60/\PyData.eqv px py=b:=by
 rcases h with ⟨fx,fy,rfl⟩ | ⟨xs,ys,hx,hy,fx,fy,rfl⟩ | ⟨xs,ys,xss,yss,hx,hy,lx,ly,fx,fy,rfl⟩
 ·obtain⟨as,ra⟩:=zbP I 20 dx x v fx rx qx
  obtain⟨bs,rb⟩:=zbP I 20 dy y u fy ry qy
  obtain⟨c1,d1⟩:=zeG 20 dx fx
  obtain⟨c2,d2⟩:=zeG 20 dy fy
  exact⟨_,_,as,bs,ra,rb,c1,c2,by omega,ziM 20 dx dy fx fy⟩
 ·obtain⟨a1,vs1,rfl,s1,r1⟩:=hx.sq st rx
  obtain⟨a2,vs2,rfl,s2,r2⟩:=hy.sq st ry
  cases qx
  cases qy
  obtain⟨its,rv,ht,hz⟩:=I.list s1
  obtain⟨its2,rv2,ht2,hz2⟩:=I.list s2
  obtain⟨o,ho,hc,n,hd⟩:=ht.isList
  obtain⟨o2,ho2,hc2,n2,hd2⟩:=ht2.isList
  obtain⟨as,ra⟩:=zdM I 20 (zbP I 20) _ _ _ fx r1 rv
  obtain⟨bs,rb⟩:=zdM I 20 (zbP I 20) _ _ _ fy r2 rv2
  obtain⟨c1,d1⟩:=zdg 20 xs fx
  obtain⟨c2,d2⟩:=zdg 20 ys fy
  refine⟨.list (zam xs),.list (zam ys),_,_,.list ho hc hd (by simpa using ra),.list ho2 hc2 hd2 (by simpa using rb),c1,c2,?_,zdV 20 xs ys fx fy⟩
  show min (PyData.depthAll (zam xs)+1) (PyData.depthAll (zam ys)+1)<=60
  omega
 ·obtain⟨a1,vs1,rfl,s1,r1⟩:=hx.sq st rx
  obtain⟨a2,vs2,rfl,s2,r2⟩:=hy.sq st ry
  cases qx
  cases qy
  obtain⟨its,rv,ht,hz⟩:=I.list s1
  obtain⟨its2,rv2,ht2,hz2⟩:=I.list s2
  obtain⟨o,ho,hc,n,hd⟩:=ht.isList
  obtain⟨o2,ho2,hc2,n2,hd2⟩:=ht2.isList
  obtain⟨as,ra⟩:=zfX I st xs xss _ _ lx fx r1 rv
  obtain⟨bs,rb⟩:=zfX I st ys yss _ _ ly fy r2 rv2
  obtain⟨c1,d1⟩:=ziE xss fx
  obtain⟨c2,d2⟩:=ziE yss fy
  refine⟨.list (zcY xss),.list (zcY yss),_,_,.list ho hc hd (by simpa using ra),.list ho2 hc2 hd2 (by simpa using rb),c1,c2,?_,zkq xss yss fx fy⟩
  show min (PyData.depthAll (zcY xss)+1) (PyData.depthAll (zcY yss)+1)<=60
  omega
theorem zaV {k:Nat}(hr:zap k X.A):OC X .Eq oEq:=⟨zpa X id,fun pins s σ H x y v u Q I qx qy ⟨ad,S,dx,dy,b,st,rx,ry,h,q⟩=>by
  obtain⟨px,py,as,bs,ra,rb,c1,c2,hd,e⟩:=zht I st rx ry qx qy h
  have hu:=hr.units
  exact PySem.SeqAt.rcAt_reads ra rb c1 c2 (by omega) X.prog X.w X.xe _ ⟨.bl _,H,I,by rw [e];rfl,q⟩,
 fun ad H S x y v u Q0 Q st rx ry ⟨b,h,q⟩ k=>⟨ad,S,x,y,b,st,rx,ry,h,k _ S _ H ad q Wd.refl st (.bl _)⟩⟩
theorem zgF {k:Nat}(hr:zap k X.A):OC X .NotEq oNe:=⟨zpa X (!·),fun pins s σ H x y v u Q I qx qy ⟨ad,S,dx,dy,b,st,rx,ry,h,q⟩=>by
  obtain⟨px,py,as,bs,ra,rb,c1,c2,hd,e⟩:=zht I st rx ry qx qy h
  have hu:=hr.units
  exact PySem.SeqAt.rcNeAt_reads ra rb c1 c2 (by omega) X.prog X.w X.xe _ ⟨.bl _,H,I,by rw [e];rfl,q⟩,
 fun ad H S x y v u Q0 Q st rx ry ⟨b,h,q⟩ k=>⟨ad,S,x,y,b,st,rx,ry,h,k _ S _ H ad q Wd.refl st (.bl _)⟩⟩
theorem zkn {K:PySem.W.Frag}{ad:List Addr}{H:Hp}{d:D}{v:V}(r:Rel K ad H d v):decide (v=.non)=zjC d:=by
  cases r<;>rfl
theorem znp:OpR X (compareOp .IsNot) (rB0 fun i j=>.bl (!(i==j))):=fun pins s σ H x y v u Q I rx ry ⟨i,j,ex,ey,q⟩=>by
 subst ex ey
 cases rx
 cases ry
 exact isnot_bool ⟨.bl _,H,I,rfl,q⟩
theorem zpq:OC X .IsNot zjY:=⟨_,zoY.or znp,fun ad H S x y v u Q0 Q st rx ry h k=>by
 rcases h with ⟨rfl,q⟩ | ⟨a,b,rfl,rfl,q⟩
 ·cases ry
  exact .inl ⟨rfl,by rw [zkn rx];exact k _ S _ H ad q Wd.refl st (.bl _)⟩
 ·cases rx
  cases ry
  exact .inr ⟨a,b,rfl,rfl,k _ S _ H ad q Wd.refl st (.bl _)⟩⟩
theorem zcF {op:CmpOp}{r':DR2}(o:OC X op r')(ha:PD X a ta)(hb:PD X b tb)(h:op≠.In:=by decide)(h2:op≠.NotIn:=by decide):PD X (.Compare a [op] [b] pos) (dOp r' ta tb):=by
 with_unfolding_all
  obtain⟨r,ho,od⟩:=o
  exact zaM (zjw ho ha hb (zk0 _ h h2)) fun _ _ _=>zfE od
theorem zR {op:CmpOp}{r':DR2}(o:OC X op r')(ha:PD X a ta)(hb:PD X b tb)(h:op≠.In:=by decide)(h2:op≠.NotIn:=by decide):PTD X (.Compare a [op] [b] pos) (dT (dOp r' ta tb)):=by
 with_unfolding_all
  obtain⟨r,ho,od⟩:=o
  refine zfJ (zju ho ha hb (zk0 _ h h2)) fun σ H Q hh=>el8 hh fun ad ρ S Q0 st rh q k=>?_
  refine zfE (Q:=fun x H'=>∃ k,x=.bl k/\Q k H') od ⟨ad,ρ,S,_,st,rh,q,fun d S' v H' ad' ⟨b,e,q'⟩ w st' r=>?_⟩
  subst e
  cases r
  exact⟨b,rfl,k b S' H' ad' q' w st'⟩
theorem zbn {e:Expr}{t:DE}(h:PD X e t)(he:∀ whole,isTrue e X.env whole=(do let v <- whole;standAt e.pos;holding [v] (truthy v)):=by intro _;rfl):PTD X e (dT t):=by with_unfolding_all exact (zfJ (zoj h he) fun σ H Q hh=>el8 hh fun ad ρ S Q0 st rh q k =>
 ⟨ad,ρ,S,_,st,rh,q,fun d S' v H' ad' ⟨b,e,q'⟩ w st' r=>by
  subst e
  cases r
  exact⟨b,rfl,k b S' H' ad' q' w st'⟩⟩)
variable {tA tB':DT}{rest:List Expr}
theorem zcV (h:PTD X a tA):PTD X (.UnaryOp .Not a pos) (zeC tA):=by with_unfolding_all exact (zfJ (zoh h) fun σ H Q hh=>el8 hh fun ad ρ S Q0 st rh q k=>⟨ad,ρ,S,_,st,rh,q,fun b S' H' ad' q' w st'=>k _ S' H' ad' q' w st'⟩)
theorem za4 {e:Expr}{t:DT}(h:PWD X e t):PTD X e t:=by with_unfolding_all exact (h _)
theorem zcv (ha:PTD X a tA):PWD X (.BoolOp .And [a] pos) tA:=by with_unfolding_all exact (zmF ha)
theorem zcC (ha:PTD X a tA):PWD X (.BoolOp .Or [a] pos) tA:=by with_unfolding_all exact (zn2 ha)
theorem zc1 (ha:PTD X a tA)(hb:PWD X (.BoolOp .And (b::rest) pos) tB'):PWD X (.BoolOp .And (a::b::rest) pos) (zeE tA tB'):=by with_unfolding_all exact (zjx (zo3 ha hb) fun σ H Q hh=>el8 hh fun ad ρ S Q0 st rh q k =>
 ⟨ad,ρ,S,_,st,rh,q,fun b S' H' ad' q' w st'=>by
  cases b with
  | true=>rw [if_pos rfl] at q' ⊢;exact⟨ad',ρ,S',Q0,st',rh.wd w,q',fun b S' H' ad' q w'=>k b S' H' ad' q (w.trans w')⟩
  | false=>rw [if_neg Bool.false_ne_true] at q' ⊢;exact k _ S' H' ad' q' w st'⟩)
theorem zcL (ha:PTD X a tA)(hb:PWD X (.BoolOp .Or (b::rest) pos) tB'):PWD X (.BoolOp .Or (a::b::rest) pos) (dOr tA tB'):=by with_unfolding_all exact (zjx (zpF ha hb) fun σ H Q hh=>el8 hh fun ad ρ S Q0 st rh q k =>
 ⟨ad,ρ,S,_,st,rh,q,fun b S' H' ad' q' w st'=>by
  cases b with
  | false=>rw [if_neg Bool.false_ne_true] at q' ⊢;exact⟨ad',ρ,S',Q0,st',rh.wd w,q',fun b S' H' ad' q w'=>k b S' H' ad' q (w.trans w')⟩
  | true=>rw [if_pos rfl] at q' ⊢;exact k _ S' H' ad' q' w st'⟩)
theorem ziO {op}{t:DE}(h:PD X a t):PD X (.BoolOp op [a] pos) t:=by with_unfolding_all exact (zo5 h)
theorem zfG (ha:PD X a ta)(hb:PD X (.BoolOp .And (b::rest) pos) tb):PD X (.BoolOp .And (a::b::rest) pos) (zfx ta tb):=by with_unfolding_all exact (zaM (zoH ha hb) fun σ H Q hh=>el8 hh fun ad ρ S Q0 st rh q k =>
 ⟨ad,ρ,S,_,st,rh,q,fun d S' v H' ad' ⟨c,e,q'⟩ w st' r=>by
  subst e
  cases r
  refine⟨c,rfl,?_⟩
  cases c with
  | true=>rw [if_pos rfl] at q' ⊢;exact⟨ad',ρ,S',Q0,st',rh.wd w,q',k.wd w⟩
  | false=>rw [if_neg Bool.false_ne_true] at q' ⊢;exact k _ S' _ H' ad' q' w st' (.bl _)⟩)
theorem zfK (ha:PD X a ta):PD X (.UnaryOp .Not a pos) (zfC ta):=by with_unfolding_all exact (zaM (zoA ha) fun σ H Q hh=>el8 hh fun ad ρ S Q0 st rh q k =>
 ⟨ad,ρ,S,_,st,rh,q,fun d S' v H' ad' ⟨c,e,q'⟩ w st' r=>by
  subst e
  cases r
  exact⟨c,rfl,k _ S' _ H' ad' q' w st' (.bl _)⟩⟩)
end
section
variable {X:Cx}{a b e:Expr}{es:List Expr}{ta tb te:DE}{t:DA}{pos:Pos}
theorem zp:PAD X [] zu:=by with_unfolding_all exact (zjy zpo fun σ H Q hh=>el8 hh fun ad ρ S Q0 st rh q k=>k [] S [] H ad q Wd.refl st .nil)
theorem za (ha:PD X e te)(hr:PAD X es t)(hs:starEach (e::es) X.env=(false,eval e X.env)::starEach es X.env:=by exact zaH rfl):PAD X (e::es) (zc te t):=by with_unfolding_all exact (zjy (znw ha hr hs) fun σ H Q hh=>el8 hh fun ad ρ S Q0 st rh q k =>
 ⟨ad,ρ,S,_,st,rh,q,fun d S1 v H1 ad1 q1 w1 st1 r1=>⟨ad1,ρ,S1,_,st1,rh.wd w1,q1,fun ds S2 vs H2 ad2 q2 w2 st2 r2=>k _ S2 _ H2 ad2 q2 (w1.trans w2) st2 (.cons (r1.wd w2) r2)⟩⟩)
theorem zaa {x1}(h:PAD X es t):PD X (.Tuple es x1 pos) (dTup t):=by with_unfolding_all exact (zaM (zo0 h) fun σ H Q hh=>el8 hh fun ad ρ S Q0 st rh q k =>
 ⟨ad,ρ,S,_,st,rh,q,fun ds S1 vs H1 ad1 ⟨hz,q1⟩ w1 st1 r1=>⟨by rw [<- r1.length];exact zdi hz,fun p hp=>zhT st1 (k.wd w1) r1 q1 p hp⟩⟩)
theorem zab (h:PAD X es t):PD X (.List es pos) (zat t):=by with_unfolding_all exact (zaM (zoi h) fun σ H Q hh=>el8 hh fun ad ρ S Q0 st rh q k =>
 ⟨ad,ρ,S,_,st,rh,q,fun ds S1 vs H1 ad1 ⟨hz,q1⟩ w1 st1 r1=>⟨by rw [<- r1.length];exact zdi hz,fun p hp=>zgm st1 (k.wd w1) r1 q1 p hp⟩⟩)
theorem zo8 {xs:List D}{i:Int}{d:D}(h:atD xs i=some d){K:PySem.W.Frag}{ad:List Addr}{H:Hp}{vs:List V}(r:zG K ad H xs vs):∃ v,atI vs i=some v/\Rel K ad H d v:=by
 have e:ixN vs.length i=ixD xs.length i:=by rw [r.length];rfl
 unfold atD at h
 unfold atI
 rw [e]
 cases q:ixD xs.length i with
 | none=>rw [q] at h;cases h
 | some j =>
  rw [q] at h
  exact r.get h
theorem zA (ha:PD X a ta)(hb:PD X b tb)(hs:zjt b:=by intro _ _;rfl):PD X (.Subscript a b pos) (dOp oIx ta tb):=by with_unfolding_all exact (zaM (zqt (znr.or (zps.or zo9)) ha hb hs) fun _ _ _=>zfE fun ad H S x y v u Q0 Q st rx ry h k=>by
 rcases h with ⟨i,xs,d,ey,hx,e,q⟩ | ⟨z,i,c,rfl,rfl,hz,e,q⟩
 case inr =>
  cases rx
  cases ry
  exact .inr (.inr ⟨z,i,c,rfl,rfl,zdi hz,e,k _ S _ H ad q Wd.refl st (.str _)⟩)
 subst ey
 cases ry
 obtain⟨p,vs,rfl,hs,r⟩:=hx.sq st rx
 obtain⟨z,ez,rz⟩:=zo8 e r
 rcases hs with hs | hs
 ·exact .inl ⟨p,vs,i,z,rfl,rfl,hs,ez,k _ S _ H ad q Wd.refl st rz⟩
 ·exact .inr (.inl ⟨p,vs,i,z,rfl,rfl,hs,ez,k _ S _ H ad q Wd.refl st rz⟩))
def upO (K:PySem.W.Frag)(t:Option DE):TO:=fun σ H Q=>∃ ad ρ S Q0,zL K ad H S/\zag K ad H ρ σ/\zf4 t ρ S Q0/\∀ o S' H' ad',Q0 o S'->Wd ad H ad' H'->zL K ad' H' S'->Q o H'
theorem zbH:PO X none (upO X.K none):=fun pins s σ H Q I hh=>el8 hh fun ad ρ S Q0 st rh q k=>zmE pins s σ H Q I (k none S H ad q Wd.refl st)
theorem za7 {t:DE}(h:PD X e t):PO X (some e) (upO X.K (some t)):=by with_unfolding_all exact (fun pins s σ H Q I hh=>el8 hh fun ad ρ S Q0 st rh q k=>znM h pins s σ H Q I ⟨ad,ρ,S,_,st,rh,q,fun d S' v H' ad' ⟨i,e,q'⟩ w st' r=>by
 subst e
 cases r
 exact⟨i,rfl,k _ S' H' ad' q' w st'⟩⟩)
theorem zjn {K:PySem.W.Frag}{ad:List Addr}{H:Hp}{xs:List D}{vs:List V}(lo hi:Option Int)(r:zG K ad H xs vs):zG K ad H (cutD xs lo hi) (zeD vs lo hi):=by
  have e1:HT.sIx vs.length 0 lo=slD xs.length 0 lo:=by
    rw [r.length];cases lo with
    | none=>rfl
    | some k=>show HT.sIx _ _ (some k)=_;unfold HT.sIx slD;first | rfl | (simp only [];split<;>omega)
  have e2:HT.sIx vs.length vs.length hi=slD xs.length xs.length hi:=by
    rw [r.length];cases hi with
    | none=>rfl
    | some k=>show HT.sIx _ _ (some k)=_;unfold HT.sIx slD;first | rfl | (simp only [];split<;>omega)
  unfold cutD zeD
  rw [e1,e2]
  exact (r.drop _).take _
def zqx (K:PySem.W.Frag):V->Option Int->Option Int->Hp->VK->Prop:=fun x lo hi H Q=>∃ a xs,x=.ref a/\SqT K H a xs /\
 ((HT.sIx xs.length 0 lo=0/\HT.sIx xs.length xs.length hi=xs.length)->Q (.ref a) H)/\(¬ (HT.sIx xs.length 0 lo=0/\HT.sIx xs.length xs.length hi=xs.length)->∀ p,H p=none->Q (.ref p) (upd H p (.tup (zeD xs lo hi))))
theorem zhz {prog:Program}{w:World}{A:Around}{E:Value->Shared->Prop}{s:Shared}{t sl:Addr}{items:Array Value}{vl vu:Value}{lo hi:Option Int}{Q:Value->Shared->Prop}(ht:IsTup s.heap t items)(hs:s.heap.IsSliceOf sl vl vu .none)(pl:IsPart vl lo)(pu:IsPart vu hi)
  (hw:HT.sIx items.size 0 lo=0/\HT.sIx items.size items.size hi=items.size) (h:Q (.ref t) s):wpAny (model prog w) A (getItem (.ref t) (.ref sl)) Q E s:=by
 obtain⟨os,hos,hcs,hds⟩:=id hs
 have hTs:s.TypeIs (.ref sl) "slice":=⟨os,hos,hcs⟩
 unfold getItem
 try with_reducible refine wpAny_holding ?_
 first | refine wpAny_bind (wpAny_pure ?_) | skip
 refine wpAny_bind (wpAny_sequenceKey ht.typeIs (by decide) ?_)
 refine wpAny_bind (wpAny_callSpecial?_slot (name:=Str.ofString "__getitem__") ht.typeIs PyProof.Rows.slot_tuple_getitem
  (wpAny_call_entry PyProof.Rows.slot_tuple_getitem ht.typeIs PyProof.Rows.entry_tuple_getitem ?_ (PyProof.Rows.args_tuple_getitem _ _)))
 show wpAny _ _ (Builtin.Tuple.tupleItemsOf (.ref t) >>= _) _ _ s
 refine wpAny_bind (tupleItemsOf_ ht ?_)
 refine wpAny_bind (wpAny_typeOf hTs ?_)
 rw [if_pos (by decide)]
 refine wpAny_bind (HT.zdJ hs pl pu ?_)
 show wpAny _ _ (if (((HT.sIx items.size 0 lo:Nat):Int)==0&&(1:Int)==1&&(HT.sIx items.size items.size hi-HT.sIx items.size 0 lo)==items.size)=true then _ else _) _ _ s
 rw [if_pos (by rw [hw.1,hw.2];simp)]
 unfold Builtin.Tuple.tupleIsExact
 refine wpAny_bind (wpAny_bind (wpAny_typeOf ht.typeIs (wpAny_pure ?_)))
 rw [if_pos (by decide)]
 refine wpAny_bind (wpAny_rule ?_)
 first
  | exact wpAny_pure ⟨_,rfl,wpAny_pure h⟩
  | exact wpAny_bind (wpAny_pure ⟨_,rfl,wpAny_pure h⟩)
  | exact wpAny_bind (wpAny_pure (wpAny_pure ⟨_,rfl,wpAny_pure h⟩))
  | trace_state
theorem zno:SlR X (zqx X.K):=by
 intro pins s σ H x v vl vu lo hi sl Q I rx hs pl pu h
 obtain⟨a,xs,rfl,hx,q1,q2⟩:=h
 by_cases hw:HT.sIx xs.length 0 lo=0/\HT.sIx xs.length xs.length hi=xs.length
 ·cases rx
  obtain⟨its,r,ht,hz⟩:=I.tuple hx
  have hlen:its.toArray.size=xs.length:=by rw [List.size_toArray];exact r.length.symm
  refine⟨"tuple",_,PyProof.Rows.slot_tuple_getitem.lookup,ht.typeIs,?_⟩
  exact zhz ht hs pl pu (by rw [hlen];exact hw) ⟨.ref a,H,I,rfl,q1 hw⟩
 ·exact zoy pins s σ H (.ref a) v vl vu lo hi sl Q I rx hs pl pu ⟨a,xs,rfl,hx,hw,q2 hw⟩
theorem zk2 {α:Type}(xs:List α)(lo hi:Option Int)(h1:slD xs.length 0 lo=0)(h2:slD xs.length xs.length hi=xs.length):cutD xs lo hi=xs:=by
 unfold cutD;rw [h1,h2];simp
theorem zg0 (n d:Nat)(o:Option Int):HT.sIx n d o=slD n d o:=by
 cases o with
 | none=>rfl
 | some k=>rfl
theorem zcT {lo hi:Option Expr}{tl th:Option DE}{p2:Pos}(ha:PD X a ta)(hl:PO X lo (upO X.K tl))(hh:PO X hi (upO X.K th)):PD X (.Subscript a (.Slice lo hi none p2) pos) (dSl zc5 ta tl th):=by with_unfolding_all exact (zaM (zlp (znd.or (zno.or zoc)) ha hl hh) fun σ H Q hh=>el8 hh fun ad ρ S Q0 st rh q k =>
 ⟨ad,ρ,S,_,st,rh,q,fun x S1 v H1 ad1 q1 w1 st1 r1=>⟨ad1,ρ,S1,_,st1,rh.wd w1,q1,fun l S2 H2 ad2 q2 w2 st2=>⟨ad2,ρ,S2,_,st2,rh.wd (w1.trans w2),q2,fun h S3 H3 ad3 q3 w3 st3=>by
  have r3:=r1.wd (w2.trans w3)
  have k3:=k.wd ((w1.trans w2).trans w3)
  rcases q3 with ⟨xs,rfl,q3⟩ | ⟨xs,hx,q3⟩ | ⟨z,rfl,hz,q3⟩
  ·cases r3 with
   | tup h1 r =>
    refine .inr (.inl ⟨_,_,rfl,SqT.of h1,fun⟨z1,z2⟩=>?_,fun _ p hp=>zhT st3 k3 (zjn _ _ r) q3 p hp⟩)
    rw [zg0,<- r.length] at z1 z2
    rw [zk2 xs _ _ z1 z2] at q3
    exact k3 _ S3 _ H3 ad3 q3 Wd.refl st3 (.tup h1 r)
  ·obtain⟨p,vs,rfl,hs,r⟩:=hx.sq st3 r3
   exact .inl ⟨p,vs,rfl,hs,fun l hl=>zgm st3 k3 (zjn _ _ r) q3 l hl⟩
  ·cases r3
   refine .inr (.inr ⟨z,rfl,zdi hz,?_⟩)
   have e:(⟨((z.cps.toList.drop (HT.sIx z.length 0 l)).take (HT.sIx z.length z.length h-HT.sIx z.length 0 l)).toArray⟩:Str)=zlj z l h:=by
    unfold zlj cutD
    rw [zg0,zg0,show z.length=z.cps.toList.length from Array.length_toList.symm]
   rw [e]
   exact k3 _ S3 _ H3 ad3 q3 Wd.refl st3 (.str _)⟩⟩⟩)
end
end Dp
namespace Dp
open PySem PySem.Spec PyProof.Rows L2 My
variable [B:Bs]
section
variable {X:Cx}{a e:Expr}{es:List Expr}{ta te:DE}{t:DA}{pos p:Pos}
theorem zE {k j:Nat}{x:Str}{ps:List Str}{f:DSp}(G:Got X.prog X.w X.K X.mg X.base k x ps (upF X.K f))(hr:zap j X.A)
  (ha:PAD X (e::es) t) (hk:k<=j:=by decide) (hg:Gl X x:=by rfl) (hdb:(x==("__debug__":Str))=false:=by decide) (he:starEach (e::es) X.env=(false,eval e X.env)::starEach es X.env:=by exact zaH rfl) (hpl:(backTo pos (starEach es X.env)).any (·.1)=false:=by exact zbO rfl) :
  PD X (.Call (.Name x p) (e::es) [] pos) (dCall f t):=by with_unfolding_all exact (zaM (zob G hr hk hg ha hdb he hpl) fun σ H Q hh=>el8 hh fun ad ρ S Q0 st rh q k =>
 ⟨ad,ρ,S,_,st,rh,q,fun ds S1 vs H1 ad1 q1 w1 st1 r1=>by
  show upF X.K f (vs++[]) H1 Q E0
  rw [List.append_nil];exact⟨ad1,S1,ds,Q0,st1.base,r1,q1,(k.wd w1).base st1⟩⟩)
def BD (K:PySem.W.Frag)(r':DB)(r:List V->Hp->VK->Prop):Prop:=∀ ad H S ds vs Q0 Q,zL K ad H S->zG K ad H ds vs->r' ds S Q0->KK K ad H Q0 Q->r vs H Q
def BC (X:Cx)(f:Value)(r':DB):Prop:=∃ r,za5 X f r/\BD X.K r' r
theorem zae {x:Str}{id:String}{r':DB}(o:BC X (.builtin id) r')(hm:X.mg x=none)(hv:bootBuiltins x=some (.builtin id))(ha:PAD X (e::es) t)(hg:Gl X x:=by rfl)(hn:x≠"__name__":=by decide)(hdb:(x==("__debug__":Str))=false:=by decide)
  (he:starEach (e::es) X.env=(false,eval e X.env)::starEach es X.env:=by exact zaH rfl) (hpl:(backTo pos (starEach es X.env)).any (·.1)=false:=by exact zbO rfl):PD X (.Call (.Name x p) (e::es) [] pos) (dB r' t):=by
 with_unfolding_all
  obtain⟨r,ho,od⟩:=o
  exact zaM (zli ho hg hm hv ha hn hdb he hpl) fun σ H Q hh=>el8 hh fun ad ρ S Q0 st rh q k =>
   ⟨ad,ρ,S,_,st,rh,q,fun ds S1 vs H1 ad1 q1 w1 st1 r1=>od ad1 H1 S1 ds vs Q0 Q st1 r1 q1 (k.wd w1)⟩
theorem zeO {x:Str}{T:String}{r':DB}(o:BC X (.type T) r')(hm:X.mg x=none)(hv:bootBuiltins x=some (.type T))(ha:PAD X (e::es) t)(hg:Gl X x:=by rfl)(hn:x≠"__name__":=by decide)(hdb:(x==("__debug__":Str))=false:=by decide)
  (he:starEach (e::es) X.env=(false,eval e X.env)::starEach es X.env:=by exact zaH rfl) (hpl:(backTo pos (starEach es X.env)).any (·.1)=false:=by exact zbO rfl):PD X (.Call (.Name x p) (e::es) [] pos) (dB r' t):=by
 with_unfolding_all
  obtain⟨r,ho,od⟩:=o
  exact zaM (zkm ho hg hm hv ha hn hdb he hpl) fun σ H Q hh=>el8 hh fun ad ρ S Q0 st rh q k =>
   ⟨ad,ρ,S,_,st,rh,q,fun ds S1 vs H1 ad1 q1 w1 st1 r1=>od ad1 H1 S1 ds vs Q0 Q st1 r1 q1 (k.wd w1)⟩
theorem zdN {K:PySem.W.Frag}{ad:List Addr}{H:Hp}{d:D}{vs:List V}(r:zG K ad H [d] vs):∃ v,vs=[v]/\Rel K ad H d v:=by
 cases r with
 | cons r t=>cases t;exact⟨_,rfl,r⟩
theorem zor {K:PySem.W.Frag}{ad:List Addr}{H:Hp}{d e:D}{vs:List V}(r:zG K ad H [d,e] vs):∃ v u,vs=[v,u]/\Rel K ad H d v/\Rel K ad H e u:=by
 cases r with
 | cons r t =>
  obtain⟨u,rfl,r2⟩:=zdN t
  exact⟨_,_,rfl,r,r2⟩
theorem z9:BC X (.builtin "len") zan:=⟨_,zk3.or zh9,fun ad H S ds vs Q0 Q st r h k=>by
 rcases h with ⟨x,xs,e,hx,q⟩ | ⟨z,e,hz,q⟩
 case inr =>
  subst e
  obtain⟨v,rfl,rv⟩:=zdN r
  cases rv
  exact .inr ⟨z,rfl,zdi hz,k _ S _ H ad q Wd.refl st (.int _)⟩
 subst e
 obtain⟨v,rfl,rv⟩:=zdN r
 obtain⟨a,ws,rfl,hs,rs⟩:=hx.sq st rv
 exact .inl ⟨a,ws,rfl,hs,k _ S _ H ad (by rw [rs.length] at q;exact q) Wd.refl st (.int _)⟩⟩
theorem ziD:BC X (.builtin "abs") zhS:=⟨_,zkG,fun ad H S ds vs Q0 Q st r ⟨i,e,q⟩ k=>by
 subst e
 obtain⟨v,rfl,rv⟩:=zdN r
 cases rv
 exact⟨i,rfl,k _ S _ H ad q Wd.refl st (.int _)⟩⟩
theorem zfb (hc:X.calm=true:=by rfl):BC X (.builtin "all") zfo:=⟨_,zkS rfl hc,fun ad H S ds vs Q0 Q st r ⟨x,ns,e,hx,q⟩ k=>by
 subst e
 obtain⟨v,rfl,rv⟩:=zdN r
 obtain⟨a,ws,rfl,hs,rs⟩:=hx.sq st rv
 cases rs.bls
 exact⟨a,ns,rfl,hs,k _ S _ H ad q Wd.refl st (.bl _)⟩⟩
theorem zdH:BC X (.type "list") zdY:=⟨_,zkl,fun ad H S ds vs Q0 Q st r ⟨x,xs,e,hx,q⟩ k=>by
 subst e
 obtain⟨v,rfl,rv⟩:=zdN r
 obtain⟨a,ws,rfl,hs,rs⟩:=hx.sq st rv
 exact⟨a,ws,rfl,hs,fun l hl=>zgm st k rs q l hl⟩⟩
theorem zox:BC X (.type "int") zlG:=⟨_,zlb,fun ad H S ds vs Q0 Q st r h k=>by
 rcases h with ⟨i,rfl,q⟩ | ⟨b,rfl,q⟩
 ·obtain⟨v,rfl,rv⟩:=zdN r
  cases rv
  exact .inl ⟨i,rfl,k _ S _ H ad q Wd.refl st (.int _)⟩
 ·obtain⟨v,rfl,rv⟩:=zdN r
  cases rv
  exact .inr ⟨b,rfl,k _ S _ H ad q Wd.refl st (.int _)⟩⟩
section
variable {K:PySem.W.Frag}
theorem zmM (t:String)(h:zhc t=true):PySem.W.kitOne K (.type "NoneType") (.type t)=some false/\PySem.W.kitOne K (.type "bool") (.type t)=some (t=="bool"||t=="int")/\PySem.W.kitOne K (.type "int") (.type t)=some (t=="int") /\
  PySem.W.kitOne K (.type "str") (.type t)=some (t=="str")/\PySem.W.kitOne K (.type "tuple") (.type t)=some (t=="tuple")/\PySem.W.kitOne K (.type "list") (.type t)=some (t=="list"):=by
 unfold zhc at h
 simp only [Bool.or_eq_true,beq_iff_eq] at h
 rcases h with (((rfl | rfl) | rfl) | rfl) | rfl
 ·exact⟨by kernel_rfl,by kernel_rfl,by kernel_rfl,by kernel_rfl,by kernel_rfl,by kernel_rfl⟩
 ·exact⟨by kernel_rfl,by kernel_rfl,by kernel_rfl,by kernel_rfl,by kernel_rfl,by kernel_rfl⟩
 ·exact⟨by kernel_rfl,by kernel_rfl,by kernel_rfl,by kernel_rfl,by kernel_rfl,by kernel_rfl⟩
 ·exact⟨by kernel_rfl,by kernel_rfl,by kernel_rfl,by kernel_rfl,by kernel_rfl,by kernel_rfl⟩
 ·exact⟨by kernel_rfl,by kernel_rfl,by kernel_rfl,by kernel_rfl,by kernel_rfl,by kernel_rfl⟩
end
theorem zh8:BC X (.builtin "isinstance") zf2:=⟨_,zlZ,fun ad H S ds vs Q0 Q st r ⟨x,t,b,e,h,q⟩ k=>by
 subst e
 obtain⟨v,u,rfl,rv,ru⟩:=zor r
 cases ru
 have fin:=k _ S _ H ad q Wd.refl st (.bl b)
 unfold zpi at h
 split at h
 ·cases h
 rename_i hty
 have hty':zhc t=true:=by
  cases hh:zhc t
  ·exact absurd (by show (!zhc t)=true;rw [hh];rfl) hty
  ·rfl
 obtain⟨k1,k2,k3,k4,k5,k6⟩:=zmM (K:=X.K) t hty'
 cases rv with
 | non=>cases h;exact⟨_,_,_,_,rfl,.non,k1,fin⟩
 | bl c=>cases h;exact⟨_,_,_,_,rfl,.bl c,k2,fin⟩
 | int i=>cases h;exact⟨_,_,_,_,rfl,.int i,k3,fin⟩
 | str y=>cases h;exact⟨_,_,_,_,rfl,.str y,k4,fin⟩
 | ty n=>cases h
 | exn _ _ _=>cases h
 | tup ht rt=>cases h;exact⟨_,_,_,_,rfl,.tup ht,k5,fin⟩
 | rl hl rl=>cases h
 | @ref n a hn =>
  have h:(match S[n]? with | some (.lst _)=>some (t=="list") | _=>none)=some b:=h
  cases hS:S[n]? with
  | none=>rw [hS] at h;cases h
  | some c =>
   rw [hS] at h
   cases c with
   | ins c fs=>cases h
   | dk _=>cases h
   | dt _=>cases h
   | lst xs =>
    cases h
    obtain⟨vs,hv,_⟩:=st.cell n a _ hn hS
    exact⟨_,_,_,_,rfl,.lst hv,k6,fin⟩⟩
def MD (X:Cx)(id:String)(r':DM):Prop:=∃ r,MtR X id r/\∀ ad H S x ds v vs Q0 Q,zL X.K ad H S->Rel X.K ad H x v->zG X.K ad H ds vs->r' x ds S Q0->KK X.K ad H Q0 Q->r v vs H Q
theorem zof {K:PySem.W.Frag}{ad:List Addr}{H:Hp}{S:Sto}{x:D}{v:V}(st:zL K ad H S)(h:∃ n ys,x=.ref n/\S[n]?=some (.lst ys))(r:Rel K ad H x v):tyV K "list" v H:=by
 obtain⟨n,ys,rfl,h⟩:=h
 cases r with
 | ref e =>
  obtain⟨vs,hv,_⟩:=st.cell n _ _ e h
  exact .inl ⟨rfl,vs,SqL.of hv⟩
theorem zkd {o:Expr}{to:DE}{name:Str}{id:String}{apos cpos:Pos}{r':DM}(slot:Slot "list" name id)(hty:typeOf (.builtin id)=pure (.type "method_descriptor"))(hm:MD X id r')(ho:PD X o to)(ha:PAD X (e::es) t)
  (hbase:attributeBase o name X.env (eval o X.env)=eval o X.env:=by rfl)
  (hfew:((backTo cpos (starEach (e::es) X.env)).all (fun x=>!x.1)&&(backToKw cpos (keywordEach [] X.env)).all (fun x=>x.1.isSome)
  &&decide ((e::es).length+([]:List Keyword).length+(if ([]:List Keyword).isEmpty then 0 else 1)<30))=true:=by rfl)
  (hline:(apos.endLine==cpos.line)=true:=by rfl) (hs:starEach (e::es) X.env=(false,eval e X.env)::starEach es X.env:=by exact zaH rfl) (hplain:(backTo cpos (starEach es X.env)).any (·.1)=false:=by exact zbO rfl) :
  PD X (.Call (.Attribute o name apos) (e::es) [] cpos) (dM r' to t):=by
 with_unfolding_all
  obtain⟨r,hr,od⟩:=hm
  exact zaM (zpU PySem.F.plainAttrs_list slot hty hr ho ha hbase hfew hline hs hplain) fun σ H Q hh=>el8 hh fun ad ρ S Q0 st rh q k =>
   ⟨ad,ρ,S,_,st,rh,q,fun x S1 v H1 ad1 ⟨hl,q1⟩ w1 st1 r1=>⟨zof st1 hl r1,ad1,ρ,S1,_,st1,rh.wd w1,q1,fun ds S2 vs H2 ad2 q2 w2 st2 r2 =>
    od ad2 H2 S2 x ds v vs Q0 Q st2 (r1.wd w2) r2 q2 (k.wd (w1.trans w2))⟩⟩
theorem zdZ:MD X "list.append" zdG:=⟨_,zhm,fun ad H S x ds v vs Q0 Q st rx r ⟨n,xs,y,ex,ey,hn,hl,q⟩ k=>by
 subst ex ey
 obtain⟨u,rfl,ru⟩:=zdN r
 cases rx with
 | ref e =>
  obtain⟨ws,hw,rw⟩:=st.cell n _ _ e hn
  exact⟨_,ws,u,rfl,rfl,hw,by rw [<- rw.length];exact zkT hl,k _ _ _ _ ad q (Wd.put e hw) (st.put e hw (rw.append (.cons ru .nil))) .non⟩⟩
end
end Dp
namespace Dp
open PySem PySem.Spec PyProof.Rows L2 My
variable [B:Bs]
def zgb (K:PySem.W.Frag)(b:Nat)(g':DG)(g:TG):Prop:=∀ ad H S ρ σ d v Q0 Q,zL K ad H S->zag K ad H ρ σ->Rel K ad H d v->g' d ρ S Q0 ->
 (∀ ρ' S' σ' H' ad',Q0 ρ' S'->Wd ad H ad' H'->zL K ad' H' S'->zag K ad' H' ρ' σ'->σ'.length=σ.length->(∀ j,b<=j->σ'[j]?=σ[j]?)->Q σ' H')->g v σ H Q
def zgi (K:PySem.W.Frag)(b:Nat)(g':DGs)(g:TGs):Prop:=∀ ad H S ρ σ ds vs Q0 Q,zL K ad H S->zag K ad H ρ σ->zG K ad H ds vs->g' ds ρ S Q0 ->
 (∀ ρ' S' σ' H' ad',Q0 ρ' S'->Wd ad H ad' H'->zL K ad' H' S'->zag K ad' H' ρ' σ'->σ'.length=σ.length->(∀ j,b<=j->σ'[j]?=σ[j]?)->Q σ' H')->g vs σ H Q
def PGD (X:Cx)(b:Nat)(tg:Expr)(g':DG):Prop:=∃ g,PG X tg g/\zgb X.K b g' g
def zkc (X:Cx)(b:Nat)(tgs:List Expr)(g':DGs):Prop:=∃ g,PGs X tgs g/\zgi X.K b g' g
theorem zag.set {K:PySem.W.Frag}{ad:List Addr}{H:Hp}{ρ:Rho}{σ:L2.St}{d:D}{v:V}(h:zag K ad H ρ σ)(r:Rel K ad H d v)(i:Nat):zag K ad H (ρ.set i (some d)) (σ.set i (some v)) where
 len:=by rw [List.length_set,List.length_set];exact h.len
 val:=fun j e q=>by
  by_cases hj:j=i
  ·subst hj
   have hl:j<ρ.length:=by have:=My.zaK q;rw [List.length_set] at this;exact this
   rw [List.getElem?_set_self hl] at q
   cases q
   exact⟨v,List.getElem?_set_self (by rw [<- h.len];exact hl),r⟩
  ·rw [List.getElem?_set_ne (Ne.symm hj)] at q
   obtain⟨u,e1,r1⟩:=h.val j e q
   exact⟨u,by rw [List.getElem?_set_ne (Ne.symm hj)];exact e1,r1⟩
section
variable {X:Cx}{pos:Pos}{b:Nat}
theorem zaf {K:PySem.W.Frag}(i:Nat)(hb:i<b):zgb K b (zB i) (L2.zB i):=fun ad H S ρ σ d v Q0 Q st rh r q k =>
 k _ S _ H ad q Wd.refl st (rh.set r i) (List.length_set ..) fun j hj=>List.getElem?_set_ne (by omega)
theorem zau {i:Nat}{x:Str}(hN:X.N.Nodup)(hi:X.N[i]?=some x:=by rfl)(hx:Loc X.env.scope x:=by first | exact Or.inl rfl | exact Or.inr rfl)(hf:X.fn x=true\/X.env.scope.names.lookup x=some .local:=by first | exact .inl rfl | exact .inr rfl | assumption)(hb:i<b:=by decide):PGD X b (.Name x pos) (zB i) :=
 ⟨_,zaq hN hi hx hf,zaf i hb⟩
theorem zns:zkc X b [] ze7:=⟨_,zji,fun ad H S ρ σ ds vs Q0 Q st rh r ⟨e,q⟩ k=>by
 subst e
 cases r
 exact⟨rfl,k ρ S σ H ad q Wd.refl st rh rfl fun _ _=>rfl⟩⟩
theorem zcw {e:Expr}{es:List Expr}{t:DG}{u:DGs}(h1:PGD X b e t)(h2:zkc X b es u)(hs:(assignEach (e::es) X.env).map (·.2)=assign e X.env::(assignEach es X.env).map (·.2):=by rfl):zkc X b (e::es) (zbh t u):=by
 obtain⟨g1,p1,r1⟩:=h1
 obtain⟨g2,p2,r2⟩:=h2
 refine⟨_,zeU p1 p2 hs,fun ad H S ρ σ ds vs Q0 Q st rh r ⟨d,rs,ed,q⟩ k=>?_⟩
 subst ed
 cases r with
 | cons r t =>
  refine⟨_,_,rfl,r1 ad H S ρ σ d _ _ _ st rh r q fun ρ1 S1 σ1 H1 ad1 q1 w1 st1 rh1 l1 a1=>?_⟩
  exact r2 ad1 H1 S1 ρ1 σ1 _ _ _ _ st1 rh1 (t.wd w1) q1 fun ρ2 S2 σ2 H2 ad2 q2 w2 st2 rh2 l2 a2=>k ρ2 S2 σ2 H2 ad2 q2 (w1.trans w2) st2 rh2 (l2.trans l1) fun j hj=>(a2 j hj).trans (a1 j hj)
theorem znb {es:List Expr}{k n:Nat}{t:DGs}(hc:X.calm=true)(h:zkc X b es t)(hn:(assignEach es X.env).length=n:=by rfl)(hst:(assignEach es X.env).findIdx? (·.1)=none:=by rfl):PGD X b (.Tuple es k pos) (zfs n t):=by
 obtain⟨g,p,r⟩:=h
 refine⟨_,zky hc p hn hst,fun ad H S ρ σ d v Q0 Q st rh rv ⟨xs,ed,hl,q⟩ k=>?_⟩
 subst ed
 cases rv with
 | tup h1 rs=>exact⟨_,_,rfl,SqT.of h1,by rw [<- rs.length];exact hl,r ad H S ρ σ xs _ _ _ st rh rs q k⟩
theorem zni {o i:Expr}{to ti:DE}(ho:PD X o to)(hi:PD X i ti)
  (ha:∀ v,assign (.Subscript o i pos) X.env v=(do
   let ov <- holding [v] (eval o X.env)
   let iv <- holding [v,ov] (eval i X.env)
   standAt pos
   holding [v,ov,iv] (setItem ov iv v)
   release [v,ov,iv] []):=by intro _;rfl):PGD X b (.Subscript o i pos) (zh7 to ti):=by with_unfolding_all exact (⟨_,zpg ho hi set_list ha,fun ad H S ρ σ d v Q0 Q st rh r q k=>⟨ad,ρ,S,_,st,rh,q,fun x S1 u H1 ad1 q1 w1 st1 r1=>⟨ad1,ρ,S1,_,st1,rh.wd w1,q1,fun y S2 z H2 ad2 q2 w2 st2 r2=>by
  obtain⟨n,xs,kk,j,ex,ey,hn,hj,q3⟩:=q2
  subst ex ey
  cases r2
  cases r1 with
  | ref e =>
   have e2:=zg6 w2.pre e
   obtain⟨ws,hw,rw⟩:=st2.cell n _ _ e2 hn
   have rd:=r.wd (w1.trans w2)
   exact⟨_,ws,kk,j,rfl,rfl,hw,by rw [<- rw.length];exact hj,k ρ _ σ _ ad2 q3 ((w1.trans w2).trans (Wd.put e2 hw)) (st2.put e2 hw (rw.set rd j)) (rh.wd ((w1.trans w2).trans (Wd.put e2 hw))) rfl fun _ _=>rfl⟩⟩⟩⟩)
variable {st:Stmt}{sts:List Stmt}{t u:DS}{e:Expr}{te:DE}
theorem zP:zdv X [] z7:=by with_unfolding_all exact (ziF znE fun E σ H hh=>el8 hh fun ad ρ S E0 so rh q k=>k.nx ρ S σ H ad q Wd.refl so rh)
theorem zy (h:PSD X st t):zdv X [st] t:=by with_unfolding_all exact (zmK h)
theorem zq (h1:PSD X st t)(h2:zdv X sts u):zdv X (st::sts) (zJ t u):=by with_unfolding_all exact (ziF (zlq h1 h2) fun E σ H hh=>el8 hh fun ad ρ S E0 so rh q k =>
 ⟨ad,ρ,S,{ E0 with nx:=u E0 },so,rh,q,⟨fun ρ' S' σ' H' ad' q' w st' rh'=>⟨ad',ρ',S',E0,st',rh',q',k.wd w⟩,k.rt,k.bk,k.ct⟩⟩)
theorem zhs:PSD X st zik:=by with_unfolding_all exact (zaZ zmc fun E σ H hh=>el8 hh fun ad ρ S E0 so rh q k=>q)
theorem za3 (he:PD X e te)(hs:swapsWith e none pos.line X.env=pure false:=by rfl):PSD X (.Expr e pos) (zb5 te):=by with_unfolding_all exact (zaZ (znL he hs) fun E σ H hh=>el8 hh fun ad ρ S E0 so rh q k =>
 ⟨ad,ρ,S,_,so,rh,q,fun d S' v H' ad' q' w st' r=>k.nx ρ S' σ H' ad' q' w st' (rh.wd w)⟩)
theorem zU (he:PD X e te):PSD X (.Return (some e) pos) (zac te):=by with_unfolding_all exact (zaZ (zoR he) fun E σ H hh=>el8 hh fun ad ρ S E0 so rh q k=>⟨ad,ρ,S,_,so,rh,q,k.rt⟩)
theorem zbu (h:PSD X st t):PSD X st (sJ t):=by with_unfolding_all exact (zaZ h fun E σ H ⟨ad,ρ,S,E0,so,rh,⟨J,hJ,q⟩,k⟩ =>
 ⟨ad,ρ,S,{ E0 with nx:=J },so,rh,q,⟨fun ρ' S' σ' H' ad' q' w st' rh'=>k.nx ρ' S' σ' H' ad' (hJ _ _ q') w st' rh',k.rt,k.bk,k.ct⟩⟩)
theorem zV {c:Expr}{a b:List Stmt}{tc:DT}(hc:PTD X c tc)(ha:zdv X a t)(hb:zdv X b u):PSD X (.If c a b pos) (sIf tc t u):=by with_unfolding_all exact (zaZ (zpT hc ha hb) fun E σ H hh=>el8 hh fun ad ρ S E0 so rh q k =>
 ⟨ad,ρ,S,_,so,rh,q,fun b S' H' ad' q' w st'=>by
  cases b with
  | true=>rw [if_pos rfl] at q' ⊢;exact⟨ad',ρ,S',E0,st',rh.wd w,q',k.wd w⟩
  | false=>rw [if_neg Bool.false_ne_true] at q' ⊢;exact⟨ad',ρ,S',E0,st',rh.wd w,q',k.wd w⟩⟩)
theorem zF {i:Nat}{x:Str}{pos':Pos}(hN:X.N.Nodup)(he:PD X e te)(hi:X.N[i]?=some x:=by rfl)(hx:Loc X.env.scope x:=by first | exact Or.inl rfl | exact Or.inr rfl)(hs:swapsWith e (some (.Name x pos')) pos.line X.env=pure false:=by rfl)(hf:X.fn x=true\/X.env.scope.names.lookup x=some .local:=by first | exact .inl rfl | exact .inr rfl | assumption) :
  PSD X (.Assign [.Name x pos'] e pos) (zN te (zB i)):=by with_unfolding_all exact (zaZ (zph hN hi hx he hs hf) fun E σ H hh=>el8 hh fun ad ρ S E0 so rh q k =>
 ⟨ad,ρ,S,_,so,rh,q,fun d S' v H' ad' q' w st' r=>k.nx _ S' _ H' ad' q' w st' ((rh.wd w).set r i)⟩)
theorem zjz {tg:Expr}{g:DG}(he:PD X e te)(hg:PGD X 1000 tg g)(hs:swapsWithSole [tg] e pos.line X.env=pure false:=by rfl)(hw:swappedStores [tg] e X.env=pure none:=by rfl)
  (h1:(assignEach [tg] X.env).map (·.2)=[assign tg X.env]:=by rfl):PSD X (.Assign [tg] e pos) (zN te g):=by
 with_unfolding_all
  obtain⟨g',p,r⟩:=hg
  exact zaZ (zoL he p hs hw h1) fun E σ H hh=>el8 hh fun ad ρ S E0 so rh q k =>
   ⟨ad,ρ,S,_,so,rh,q,fun d S' v H' ad' q' w st' rv=>r ad' H' S' ρ σ d v _ _ st' (rh.wd w) rv q' fun ρ2 S2 σ2 H2 ad2 q2 w2 st2 rh2 _ _=>k.nx ρ2 S2 σ2 H2 ad2 q2 (w.trans w2) st2 rh2⟩
theorem znG {i j:Nat}{x y:Str}{a b:Expr}{t:DA}{px py pt:Pos}{kt k2 pt2}(hc:X.calm=true)(hN:X.N.Nodup)(hi:X.N[i]?=some x)(hj:X.N[j]?=some y)(hij:i≠j)
  (hx:X.env.scope.names.lookup x=some .local) (hy:X.env.scope.names.lookup y=some .local) (ha:PAD X [a,b] t)
  (hw:swappedStores [.Tuple [.Name x px,.Name y py] kt pt] (.Tuple [a,b] k2 pt2) X.env=pure (some [x,y]))
  (hs:swapsWithSole [.Tuple [.Name x px,.Name y py] kt pt] (.Tuple [a,b] k2 pt2) pos.line X.env=pure false:=by rfl) :
  PSD X (.Assign [.Tuple [.Name x px,.Name y py] kt pt] (.Tuple [a,b] k2 pt2) pos) (zln i j t):=by with_unfolding_all exact (zaZ (zoP hc hN hi hj hij hx hy ha hw hs) fun E σ H hh=>el8 hh fun ad ρ S E0 so rh q k =>
 ⟨ad,ρ,S,_,so,rh,q,fun ds S' vs H' ad' q' w st' r=>by
  obtain⟨d1,d2,e,q'⟩:=q'
  subst e
  cases r with
  | cons r1 r' =>
   cases r' with
   | cons r2 r'' =>
    cases r''
    exact⟨_,_,rfl,k.nx _ S' _ H' ad' q' w st' (((rh.wd w).set r1 i).set r2 j)⟩⟩)
theorem zmY {i:Nat}{x:Str}{pos':Pos}(hN:X.N.Nodup)(he:PD X e te)(hi:X.N[i]?=some x:=by rfl)(hx:Loc X.env.scope x:=by first | exact Or.inl rfl | exact Or.inr rfl)(hf:X.fn x=true\/X.env.scope.names.lookup x=some .local:=by first | exact .inl rfl | exact .inr rfl | assumption) :
  PSD X (.AugAssign (.Name x pos') .Add e pos) (zlY i te):=by with_unfolding_all exact (zaZ (zpu hN hi hx he zoW hf) fun E σ H ⟨ad,ρ,S,E0,so,rh,⟨a,ea,q⟩,k⟩=>by
 obtain⟨v,ev,rv⟩:=rh.val i _ ea
 cases rv
 refine⟨_,ev,ad,ρ,S,_,so,rh,q,fun d S' v H' ad' ⟨b,eb,q'⟩ w st' r=>?_⟩
 subst eb
 cases r
 exact⟨a,b,rfl,rfl,k.nx _ S' _ H' ad' q' w st' ((rh.wd w).set (.int _) i)⟩)
theorem zhj {c:Expr}{body:List Stmt}{tc:DT}(hc:PTD X c tc)(hb:zdv X body t)(hp:PassesOwn (model X.prog X.w) X.A X.env X.xe:=by first | exact PassesOwn.never | exact PassesOwn.leaving):PSD X (.While c body [] pos) (zgx tc t):=by with_unfolding_all exact (zaZ (zls hp hc hb) fun E σ H ⟨ad,ρ,S,E0,so,rh,⟨W,⟨m0,w0⟩,turn⟩,k⟩=>by
 refine⟨fun m σ' H'=>∃ ad' ρ' S',W m ρ' S'/\Wd ad H ad' H'/\zL X.K ad' H' S'/\zag X.K ad' H' ρ' σ',⟨m0,ad,ρ,S,w0,Wd.refl,so,rh⟩,?_⟩
 rintro m σ1 H1 ⟨ad1,ρ1,S1,w1,d1,st1,rh1⟩
 refine⟨ad1,ρ1,S1,_,st1,rh1,turn m ρ1 S1 w1,fun b S2 H2 ad2 q2 d2 st2=>?_⟩
 cases b with
 | true =>
  rw [if_pos rfl] at q2 ⊢
  obtain⟨N,hN,q2⟩:=q2
  refine⟨fun σ' H'=>∃ ad' ρ' S',N ρ' S'/\Wd ad H ad' H'/\zL X.K ad' H' S'/\zag X.K ad' H' ρ' σ',?_,ad2,ρ1,S2,{ E0 with nx:=N,ct:=N,bk:=E0.nx },st2,rh1.wd d2,q2,?_⟩
  ·rintro σ' H' ⟨ad',ρ',S',n',d',st',rh'⟩
   obtain⟨m',hm,w'⟩:=hN ρ' S' n'
   exact⟨m',hm,ad',ρ',S',w',d',st',rh'⟩
  ·have d12:=d1.trans d2
   exact⟨fun ρ' S' σ' H' ad' q' w' st' rh'=>⟨ad',ρ',S',q',d12.trans w',st',rh'⟩,k.rt.wd d12,fun ρ' S' σ' H' ad' q' w' st' rh'=>k.nx ρ' S' σ' H' ad' q' (d12.trans w') st' rh',fun ρ' S' σ' H' ad' q' w' st' rh'=>⟨ad',ρ',S',q',d12.trans w',st',rh'⟩⟩
 | false =>
  rw [if_neg Bool.false_ne_true] at q2 ⊢
  exact k.nx ρ1 S2 σ1 H2 ad2 q2 (d1.trans d2) st2 (rh1.wd d2))
end
structure ziI (K:PySem.W.Frag)(ad0:List Addr)(H0:Hp)(J0:DIt)(J:It):Prop where
 go:∀ ad H S i,Wd ad0 H0 ad H->zL K ad H S->J0.ok S->i<J0.items.length->J.go i H
 yld:∀ ad H S i d x H',Wd ad0 H0 ad H->zL K ad H S->J0.ok S->J0.items[i]?=some d->J.yld i H x H'->Wd ad H ad H'/\zL K ad H' S/\Rel K ad H' d x
 stop:∀ ad H S,Wd ad0 H0 ad H->zL K ad H S->J0.ok S->J.stop J0.items.length H
def upI (K:PySem.W.Frag)(wi:DI):TI:=fun σ H R=>∃ ad ρ S R0,zL K ad H S/\zag K ad H ρ σ/\wi ρ S R0/\∀ J0 S' J H' ad',R0 J0 S'->Wd ad H ad' H'->zL K ad' H' S'->ziI K ad' H' J0 J->R J H'
@[irreducible] def PID (X:Cx)(tg iter:Expr)(wi:DI):Prop:=PI X tg iter (upI X.K wi)
theorem zjg {X:Cx}{tg iter:Expr}{w w':TI}(h:PI X tg iter w)(m:∀ σ H R,w' σ H R->w σ H R):PI X tg iter w':=fun pins s σ H R I q=>h pins s σ H R I (m σ H R q)
section
variable {X:Cx}{tg e:Expr}
def Its (z:Str):It:=⟨fun i _=>i<z.cps.size,fun i H x H'=>H'=H/\∃ c,z.cps[i]?=some c/\x=.str ⟨#[c]⟩,fun i _=>z.cps.size<=i⟩
theorem zla {P:Program}{w:World}{K:PySem.W.Frag}{tg:Expr}(z:Str)(t:Tok)(it:Addr):Turn P w K tg (Its z) [it] it (fun i h=>h.IsStrIter it "str_ascii_iterator" z t i) where
 mem:=by simp
 obj:=fun i h st b hb=>by
  have e:b=it:=by simpa using hb
  subst e
  obtain⟨o,e,c,d⟩:=st
  exact⟨o,e,fun v y=>by rw [d] at y;cases y⟩
 keep:=fun i h h' st k=>let ⟨o,e,r⟩:=st;⟨o,k it (by simp) o e,r⟩
 item:=by
  intro X hP hw hK hc i pins s σ H E I hf st hg
  subst hP hw hK
  have hg:i<z.cps.size:=hg
  obtain⟨f0,f1,f2,f3,f4,f5⟩:=hf it (by simp)
  refine wpAny_pyNext_ascii_item st (c:=z.cps[i]) (by simp [hg]) fun h' st' sb=>?_
  have I1:Inv X pins σ H { s with heap:=h',toks:=s.toks+1 }:=I.turned (t':=s.toks+1) (fun b o hb e=>(sb.2 b hb).trans e) f0 f1 f3 f4 f5
  obtain⟨o,e,c,d⟩:=id st'
  exact⟨_,rfl,zfv (s:={ s with heap:=h',toks:=s.toks+1 }) e c d (by decide) ⟨.str ⟨#[z.cps[i]]⟩,H,I1,⟨_,rfl⟩,⟨rfl,z.cps[i],by simp [hg],rfl⟩,st',fun b hb=>(hf b hb).1⟩⟩
 done:=by
  intro X hP hw hK hc i pins s σ H E I hf st hg
  subst hP hw hK
  have hg:z.cps.size<=i:=hg
  obtain⟨f0,f1,f2,f3,f4,f5⟩:=hf it (by simp)
  exact wpAny_pyNext_ascii_end (I.ok.hd hc) st (by simp [hg]) fun h' eb=>⟨rfl,I.turned (t':=s.toks) (fun b o hb e=>eb b o hb e) f0 f1 f3 f4 f5⟩
 self:=fun _ _ _ _ _ st hQ=>wpAny_pyIter_striter_ascii st hQ
theorem zkL {P:Program}{w:World}{K:PySem.W.Frag}{tg:Expr}(z:Str)(t:Tok)(it:Addr):Turn P w K tg (Its z) [it] it (fun i h=>h.IsStrIter it "str_iterator" z t i) where
 mem:=by simp
 obj:=fun i h st b hb=>by
  have e:b=it:=by simpa using hb
  subst e
  obtain⟨o,e,c,d⟩:=st
  exact⟨o,e,fun v y=>by rw [d] at y;cases y⟩
 keep:=fun i h h' st k=>let ⟨o,e,r⟩:=st;⟨o,k it (by simp) o e,r⟩
 item:=by
  intro X hP hw hK hc i pins s σ H E I hf st hg
  subst hP hw hK
  have hg:i<z.cps.size:=hg
  obtain⟨f0,f1,f2,f3,f4,f5⟩:=hf it (by simp)
  refine wpAny_pyNext_wide_item st (c:=z.cps[i]) (by simp [hg]) fun h' st' sb=>?_
  have I1:Inv X pins σ H { s with heap:=h',toks:=s.toks+1 }:=I.turned (t':=s.toks+1) (fun b o hb e=>(sb.2 b hb).trans e) f0 f1 f3 f4 f5
  obtain⟨o,e,c,d⟩:=id st'
  exact⟨_,rfl,zfv (s:={ s with heap:=h',toks:=s.toks+1 }) e c d (by decide) ⟨.str ⟨#[z.cps[i]]⟩,H,I1,⟨_,rfl⟩,⟨rfl,z.cps[i],by simp [hg],rfl⟩,st',fun b hb=>(hf b hb).1⟩⟩
 done:=by
  intro X hP hw hK hc i pins s σ H E I hf st hg
  subst hP hw hK
  have hg:z.cps.size<=i:=hg
  obtain⟨f0,f1,f2,f3,f4,f5⟩:=hf it (by simp)
  exact wpAny_pyNext_wide_end (I.ok.hd hc) st (by simp [hg]) fun h' eb=>⟨rfl,I.turned (t':=s.toks) (fun b o hb e=>eb b o hb e) f0 f1 f3 f4 f5⟩
 self:=fun _ _ _ _ _ st hQ=>wpAny_pyIter_striter_wide st hQ
def znq (K:PySem.W.Frag)(tl:TE):TI:=fun σ H R=>tl σ H fun x H1=>(∃ a,x=.ref a/\(((∃ xs,SqL K H1 a xs)/\R (Itl K a) H1)\/((∃ xs,SqT K H1 a xs)/\R (Itt K a) H1)))\/(∃ z,x=.str z/\R (Its z) H1)
theorem zkD {l:Expr}{tl:TE}(hl:PE X l tl):PI X tg l (znq X.K tl):=by
  intro pins s σ H R I h
  refine thn (hl pins s σ H _ I h) fun v s1 ⟨x,H1,I1,r1,q1⟩=>?_
  rcases q1 with ⟨a,e,q1⟩ | ⟨z,e,q⟩
  case inr =>
    subst e
    obtain⟨t,rfl⟩:=r1
    have fp:∀ b∈[s1.heap.objs.size],zeP X pins H1 b:=fun b hb=>by
      have e:b=s1.heap.objs.size:=by simpa using hb
      subst e
      exact I1.fpOk (Nat.le_refl _) (I1.hok.fresh (Nat.le_refl _))
    cases ha:z.cps.all (· < 128) with
    | true=>exact wpAny_pyIter_ascii ha ⟨s1.heap.objs.size,[s1.heap.objs.size],_,_,H1,rfl,I1.kept (t':=s1.toks) fun b o e=>Heap.get?_push_of_some _ e,zla z t _,⟨_,Heap.get?_push_size _ rfl,rfl,rfl⟩,fp,q⟩
    | false=>exact wpAny_pyIter_wide ha ⟨s1.heap.objs.size,[s1.heap.objs.size],_,_,H1,rfl,I1.kept (t':=s1.toks) fun b o e=>Heap.get?_push_of_some _ e,zkL z t _,⟨_,Heap.get?_push_size _ rfl,rfl,rfl⟩,fp,q⟩
  subst e
  cases r1
  rcases q1 with ⟨⟨xs,hq⟩,q⟩ | ⟨⟨xs,hq⟩,q⟩
  · obtain⟨its,rv,p,hz⟩:=I1.list hq
    refine wpAny_pyIter_list p.isList ?_
    refine⟨s1.heap.objs.size,[s1.heap.objs.size],_,_,H1,rfl,I1.kept (t':=s1.toks) fun b o e=>Heap.get?_push_of_some _ e,zkF a _,⟨_,Heap.get?_push_size _ rfl,rfl,rfl⟩,fun b hb=>?_,q⟩
    have e:b=s1.heap.objs.size:=by simpa using hb
    subst e
    exact I1.fpOk (Nat.le_refl _) (I1.hok.fresh (Nat.le_refl _))
  · obtain⟨its,rv,p,hz⟩:=I1.tuple hq
    refine wpAny_pyIter_tuple (show s1.heap.IsTuple a its.toArray from p) ?_
    refine⟨s1.heap.objs.size,[s1.heap.objs.size],_,_,H1,rfl,I1.kept (t':=s1.toks) fun b o e=>Heap.get?_push_of_some _ e,zjA a _,⟨_,Heap.get?_push_size _ rfl,rfl,rfl⟩,fun b hb=>?_,q⟩
    have e:b=s1.heap.objs.size:=by simpa using hb
    subst e
    exact I1.fpOk (Nat.le_refl _) (I1.hok.fresh (Nat.le_refl _))
theorem znT {K:PySem.W.Frag}{ad:List Addr}{H:Hp}(z:Str):ziI K ad H ⟨signs z,fun _=>True⟩ (Its z) where
 go:=fun ad1 H1 S i w st _ hi=>by
  show i<z.cps.size
  have:i<(signs z).length:=hi
  unfold signs at this
  rw [List.length_map] at this
  simpa using this
 yld:=fun ad1 H1 S i d x H' w st _ hd ⟨e,c,hc,hx⟩=>by
  subst e hx
  have hd:(signs z)[i]?=some d:=hd
  unfold signs at hd
  rw [List.getElem?_map,Array.getElem?_toList,hc] at hd
  cases hd
  exact⟨Wd.refl,st,.str _⟩
 stop:=fun ad1 H1 S w st _=>by
  show z.cps.size<=(signs z).length
  unfold signs
  rw [List.length_map];simp
theorem znZ {K:PySem.W.Frag}{ad:List Addr}{H:Hp}{a:Addr}{vs:List V}{ds:List D}(h:H a=some (.tup vs))(r:zG K ad H ds vs):ziI K ad H ⟨ds,fun _=>True⟩ (Itt K a) where
 go:=fun ad1 H1 S i w st _ hi=>⟨vs,vs[i]'(by rw [<- r.length];exact hi),SqT.of (w.tup _ _ h),List.getElem?_eq_getElem _⟩
 yld:=fun ad1 H1 S i d x H' w st _ hd ⟨e,hx⟩=>by
  subst e
  obtain⟨v,ev,rv⟩:=r.get hd
  rw [hx vs (SqT.of (w.tup _ _ h))] at ev
  cases ev
  exact⟨Wd.refl,st,rv.wd w⟩
 stop:=fun ad1 H1 S w st _=>⟨vs,SqT.of (w.tup _ _ h),by rw [<- r.length];exact Nat.le_refl _⟩
theorem zop {K:PySem.W.Frag}{ad:List Addr}{H:Hp}{a:Addr}{x:D}{ds:List D}(r:Rel K ad H x (.ref a)):ziI K ad H ⟨ds,fun S=>Lst S x ds⟩ (Itl K a) where
 go:=fun ad1 H1 S i w st ok hi=>by
  obtain⟨a',vs,e,s,rs⟩:=Lst.sq st ok (r.wd w)
  cases e
  exact⟨vs,vs[i]'(by rw [<- rs.length];exact hi),s,List.getElem?_eq_getElem _⟩
 yld:=fun ad1 H1 S i d y H' w st ok hd ⟨e,hx⟩=>by
  subst e
  obtain⟨a',vs,e,s,rs⟩:=Lst.sq st ok (r.wd w)
  cases e
  obtain⟨v,ev,rv⟩:=rs.get hd
  rw [hx vs s] at ev
  cases ev
  exact⟨Wd.refl,st,rv⟩
 stop:=fun ad1 H1 S w st ok=>by
  obtain⟨a',vs,e,s,rs⟩:=Lst.sq st ok (r.wd w)
  cases e
  exact⟨vs,s,by rw [<- rs.length];exact Nat.le_refl _⟩
theorem zb2 {t:DE}(h:PD X e t):PID X tg e (zc0 t):=by with_unfolding_all exact (zjg (zkD h) fun σ H R hh=>el8 hh fun ad ρ S R0 st rh q k =>
 ⟨ad,ρ,S,_,st,rh,q,fun x S1 v H1 ad1 q1 w1 st1 r1=>by
  rcases q1 with ⟨xs,rfl,q1⟩ | ⟨xs,hx,q1⟩ | ⟨z,rfl,q1⟩
  ·cases r1 with
   | tup h1 rs=>exact .inl ⟨_,rfl,.inr ⟨⟨_,SqT.of h1⟩,k _ S1 _ H1 ad1 q1 w1 st1 (znZ h1 rs)⟩⟩
  ·obtain⟨a,vs,rfl,s,rs⟩:=hx.sq st1 r1
   exact .inl ⟨a,rfl,.inl ⟨⟨vs,s⟩,k _ S1 _ H1 ad1 q1 w1 st1 (zop r1)⟩⟩
  ·cases r1
   exact .inr ⟨z,rfl,k _ S1 _ H1 ad1 q1 w1 st1 (znT z)⟩⟩)
theorem zlA {lo:Int}{n i:Nat}{d:D}(h:(upto lo n)[i]?=some d):i<n/\d=.int (lo+i):=by
 unfold upto at h
 rw [List.getElem?_map] at h
 have hi:=My.zaK (xs:=List.range n) (i:=i) (x:=i)
 cases hr:(List.range n)[i]? with
 | none=>rw [hr] at h;cases h
 | some k =>
  rw [hr] at h
  have h1:=My.zaK hr
  rw [List.length_range] at h1
  have h2:(List.range n)[i]?=some i:=List.getElem?_range h1
  rw [hr] at h2
  cases h2
  cases h
  exact⟨h1,rfl⟩
theorem ziz (lo:Int)(n:Nat):(upto lo n).length=n:=by unfold upto;rw [List.length_map,List.length_range]
theorem zkY {K:PySem.W.Frag}{ad:List Addr}{H:Hp}(lo:Int)(n:Nat):ziI K ad H ⟨upto lo n,fun _=>True⟩ (Itr lo n) where
 go:=fun ad1 H1 S i w st _ hi=>by rw [ziz] at hi;exact hi
 yld:=fun ad1 H1 S i d x H' w st _ hd ⟨e,hx⟩=>by
  subst e
  obtain⟨_,rfl⟩:=zlA hd
  rw [hx]
  exact⟨Wd.refl,st,.int _⟩
 stop:=fun ad1 H1 S w st _=>by rw [ziz];exact Nat.le_refl _
theorem zkJ {P:Program}{w:World}{K:PySem.W.Frag}{tg:Expr}(it:Addr)(lo:Int)(n:Nat):Turn P w K tg (Itr lo n) [it] it (fun i h=>IsLongIter h it (lo+(i:Nat)*1) ((n:Int)-(i:Nat)) 1) where
 mem:=by simp
 obj:=fun i h st b hb=>by
  have e:b=it:=by simpa using hb
  subst e
  exact⟨_,st,fun v z=>by
   have z':Data.fields _=Data.cell v:=z
   cases z'⟩
 keep:=fun i h h' st k=>k it (by simp) _ st
 item:=by
  intro X hP hw hK hc i pins s σ H E I hf st' hg
  subst hP hw hK
  obtain⟨f0,f1,f2,f3,f4,f5⟩:=hf it (by simp)
  have W:=Walks.longrange (prog:=X.prog) (w:=X.w) (I.ok.hd hc) it lo 1 n
  refine W.item i s _ _ hg st' fun v h' tk hv st'' kk=>?_
  obtain⟨t,rfl⟩:=hv
  have I1:Inv X pins σ H { s with heap:=h',toks:=tk }:=I.turned (fun b o hb e=>kk b o (by simpa using hb) e) f0 f1 f3 f4 f5
  rw [Int.mul_one]
  exact⟨_,rfl,zfv (s:={ s with heap:=h',toks:=tk }) (n:="longrange_iterator") st'' rfl rfl (by decide) ⟨.int (lo+i),H,I1,⟨t,rfl⟩,⟨rfl,rfl⟩,st'',fun b hb=>(hf b hb).1⟩⟩
 done:=by
  intro X hP hw hK hc i pins s σ H E I hf st' hg
  subst hP hw hK
  obtain⟨f0,f1,f2,f3,f4,f5⟩:=hf it (by simp)
  exact wpAny_pyNext_long_end (I.ok.hd hc) st' (by have:n<=i:=hg;omega) fun h' eb=>⟨rfl,I.turned (t':=s.toks) (fun b o hb e=>eb b o hb e) f0 f1 f3 f4 f5⟩
 self:=fun _ _ _ _ _ st h=>wpAny_pyIter_longiter st h
theorem range_any {pins:List (Addr×Obj)}{σ:L2.St}{H:Hp}{s:Shared}{R:It->Hp->Prop}{E:Value->Shared->Prop}{lo hi:Int}{t u v:Tok}{tk:Nat}(I:Inv X pins σ H s)
    (q:R (Itr lo (hi-lo).toNat) H):wpAny (model X.prog X.w) X.A (pyIter (.ref s.heap.objs.size)) (PIE X pins σ tg R) E { s with heap:=s.heap.push { cls:=.type "range",data:=.fields #[.int lo t,.int hi u,.int 1 v] },toks:=tk }:=by
  have I1:Inv X pins σ H { s with heap:=s.heap.push { cls:=.type "range",data:=.fields #[.int lo t,.int hi u,.int 1 v] },toks:=tk }:=I.kept fun b o e=>Heap.get?_push_of_some _ e
  have e1:lo+((0:Nat):Int)*1=lo:=by simp
  have e2:(((hi-lo).toNat:Nat):Int)-((0:Nat):Int)=Builtin.Range.rangeSize lo hi 1:=by rw [rangeSize_one];split<;>omega
  cases hsm:Builtin.Range.small lo hi 1 with
  | true =>
    refine wpAny_pyIter_range (IsRange.new ..) hsm ?_
    refine⟨(s.heap.push { cls:=.type "range",data:=.fields #[.int lo t,.int hi u,.int 1 v] }).objs.size,[(s.heap.push { cls:=.type "range",data:=.fields #[.int lo t,.int hi u,.int 1 v] }).objs.size],_,_,H,rfl,
      I1.kept (t':=tk) fun b o e=>Heap.get?_push_of_some _ e,zgy _ lo (hi-lo).toNat,?_,fun b hb=>?_,q⟩
    · show IsRangeIter _ _ (lo+((0:Nat):Int)*1) ((((hi-lo).toNat:Nat):Int)-((0:Nat):Int)) 1
      rw [e1,e2]
      exact Heap.get?_push_size _ rfl
    · have e:b=(s.heap.push { cls:=.type "range",data:=.fields #[.int lo t,.int hi u,.int 1 v] }).objs.size:=by simpa using hb
      subst e
      exact I1.fpOk (Nat.le_refl _) (I1.hok.fresh (Nat.le_refl _))
  | false =>
    refine wpAny_pyIter_longrange (IsRange.new ..) hsm ?_
    refine⟨(s.heap.push { cls:=.type "range",data:=.fields #[.int lo t,.int hi u,.int 1 v] }).objs.size,[(s.heap.push { cls:=.type "range",data:=.fields #[.int lo t,.int hi u,.int 1 v] }).objs.size],_,_,H,rfl,
      I1.kept (t':=tk) fun b o e=>Heap.get?_push_of_some _ e,zkJ _ lo (hi-lo).toNat,?_,fun b hb=>?_,q⟩
    · show IsLongIter _ _ (lo+((0:Nat):Int)*1) ((((hi-lo).toNat:Nat):Int)-((0:Nat):Int)) 1
      rw [e1,e2]
      exact Heap.get?_push_size _ rfl
    · have e:b=(s.heap.push { cls:=.type "range",data:=.fields #[.int lo t,.int hi u,.int 1 v] }).objs.size:=by simpa using hb
      subst e
      exact I1.fpOk (Nat.le_refl _) (I1.hok.fresh (Nat.le_refl _))
theorem zbI {a:Expr}{t:DA}{p pos:Pos}(hm:X.mg "range"=none)(ha:PAD X [a] t)(hg:Gl X "range":=by rfl)(hs:starEach [a] X.env=[(false,eval a X.env)]:=by exact zeK rfl):PID X tg (.Call (.Name "range" p) [a] [] pos) (zbM t):=by with_unfolding_all exact (zjg (zkW hg hm ha hs) fun σ H R hh=>el8 hh fun ad ρ S R0 st rh q k =>
 ⟨ad,ρ,S,_,st,rh,q,fun ds S1 vs H1 ad1 ⟨j,ed,b1,b2,q1⟩ w1 st1 r1=>by
  subst ed
  obtain⟨v,rfl,rv⟩:=zdN r1
  cases rv
  exact⟨j,rfl,b1,b2,k _ S1 _ H1 ad1 q1 w1 st1 (zkY 0 j.toNat)⟩⟩)
theorem zjm {a b:Expr}{t:DA}{p pos:Pos}(hm:X.mg "range"=none)(ha:PAD X [a,b] t)(hg:Gl X "range":=by rfl)(hs:starEach [a,b] X.env=[(false,eval a X.env),(false,eval b X.env)]:=by exact zlx rfl rfl)(hs2:starEach [b] X.env=[(false,eval b X.env)]:=by exact zeK rfl) :
  PID X tg (.Call (.Name "range" p) [a,b] [] pos) (zhQ t):=by
 with_unfolding_all
  rintro pins s σ H R I ⟨ad,ρ,S,R0,st,rh,q,k⟩
  refine Call_ (zcH I hg hm boot_range (PyProof.Rows.callWith_type1 (thn (ha pos pins s σ H (fun vs H1=>∃ i j:Int,vs=[.int i,.int j]/\R (Itr i (j-i).toNat) H1) I ⟨ad,ρ,S,_,st,rh,q,fun ds S1 vs H1 ad1 ⟨i,j,ed,q1⟩ w1 st1 r1=>by
   subst ed
   obtain⟨v,u,rfl,rv,ru⟩:=zor r1
   cases rv
   cases ru
   exact⟨i,j,rfl,k _ S1 _ H1 ad1 q1 w1 st1 (zkY i _)⟩⟩) fun us s1 ⟨vs,H1,I1,r1,q1⟩=>?_) (by rw [hs,hs2]) (by rw [hs2];rfl)))
  obtain⟨i,j,e,q⟩:=q1
  subst e
  cases r1 with
  | cons r rr =>
   cases rr with
   | cons r' rr =>
    cases rr
    obtain⟨t,rfl⟩:=r
    obtain⟨t',rfl⟩:=r'
    exact call_range_2 (range_any I1 q)
theorem zcD {iter:Expr}{body:List Stmt}{wi:DI}{g:DG}{t:DS}{pos:Pos}(hi:PID X tg iter wi)(hg:PGD X 1000 tg g)(hb:zdv X body t)(hp:PassesOwn (model X.prog X.w) X.A X.env X.xe:=by first | exact PassesOwn.never | exact PassesOwn.leaving)(hc:X.calm=true:=by rfl)(hs:∀ x,foldedSetIterable iter X.env x=pure x:=by intro _;rfl):PSD X (.For tg iter body [] pos) (zeb wi g t):=by
 with_unfolding_all
  obtain⟨g',pg,rg⟩:=hg
  refine zaZ (zo6 hp hc hi pg hb hs) fun E σ H hh=>el8 hh fun ad ρ S E0 so rh q k=>?_
  refine⟨ad,ρ,S,_,so,rh,q,fun J0 S1 J H1 ad1 ⟨W,w0,hok,step,fin⟩ d1 st1 it=>?_⟩
  refine⟨fun i m σ' H'=>m=J0.items.length-i/\i<=J0.items.length/\∃ ad' ρ' S',W i ρ' S'/\Wd ad1 H1 ad' H'/\zL X.K ad' H' S'/\zag X.K ad' H' ρ' σ',⟨J0.items.length,rfl,Nat.zero_le _,ad1,ρ,S1,w0,Wd.refl,st1,rh.wd d1⟩,?_⟩
  rintro i m σ2 H2 ⟨rfl,hi2,ad2,ρ2,S2,w2,d2,st2,rh2⟩
  by_cases hlt:i<J0.items.length
  ·have ed:J0.items[i]?=some J0.items[i]:=List.getElem?_eq_getElem hlt
   refine .inr ⟨it.go ad2 H2 S2 i d2 st2 (hok _ _ _ w2) hlt,fun σ' H'=>∃ ad' ρ' S',W (i+1) ρ' S'/\Wd ad1 H1 ad' H'/\zL X.K ad' H' S'/\zag X.K ad' H' ρ' σ',?_,fun x H' hy=>?_⟩
   ·rintro σ' H' ⟨ad',ρ',S',w',d',st',rh'⟩
    exact⟨J0.items.length-(i+1),by omega,rfl,hlt,ad',ρ',S',w',d',st',rh'⟩
   ·obtain⟨d3,st3,r3⟩:=it.yld ad2 H2 S2 i _ x H' d2 st2 (hok _ _ _ w2) ed hy
    refine rg ad2 H' S2 ρ2 σ2 _ x _ _ st3 (rh2.wd d3) r3 (step i _ ρ2 S2 ed w2) fun ρ4 S4 σ4 H4 ad4 q4 d4 st4 rh4 _ _=>?_
    have d14:=(d2.trans d3).trans d4
    have d04:=d1.trans d14
    exact⟨ad4,ρ4,S4,{ E0 with nx:=W (i+1),ct:=W (i+1),bk:=E0.nx },st4,rh4,q4,⟨fun ρ' S' σ' H' ad' q' w' st' rh'=>⟨ad',ρ',S',q',d14.trans w',st',rh'⟩,k.rt.wd d04,fun ρ' S' σ' H' ad' q' w' st' rh'=>k.nx ρ' S' σ' H' ad' q' (d04.trans w') st' rh',fun ρ' S' σ' H' ad' q' w' st' rh'=>⟨ad',ρ',S',q',d14.trans w',st',rh'⟩⟩⟩
  ·have e:i=J0.items.length:=by omega
   subst e
   exact .inl ⟨it.stop ad2 H2 S2 d2 st2 (hok _ _ _ w2),k.nx ρ2 S2 σ2 H2 ad2 (fin ρ2 S2 w2) (d1.trans d2) st2 rh2⟩
end
theorem zhX:∀ {a b:L2.St} (n:Nat),(∀ j,j<n->a[j]?=some none\/a.length<=j)->b.length=a.length->(∀ j,n<=j->b[j]?=a[j]?)->Agr a b
 | [],[],_,_,_,_=>True.intro
 | [],_::_,_,_,h,_=>by simp at h
 | _::_,[],_,_,h,_=>by simp at h
 | x::a,y::b,n,h0,hl,h=>by
  have hl':b.length=a.length:=by simpa using hl
  cases n with
  | zero =>
   have e:=h 0 (Nat.le_refl _)
   have e':y=x:=by simpa using e
   subst e'
   have rest:Agr a b:=zhX 0 (fun j hj=>absurd hj (Nat.not_lt_zero _)) hl' fun j _=>by simpa using h (j+1) (Nat.zero_le _)
   cases y with
   | none=>exact rest
   | some v=>exact⟨rfl,rest⟩
  | succ n =>
   have rest:Agr a b:=zhX n (fun j hj=>by
    rcases h0 (j+1) (by omega) with e | e
    ·exact .inl (by simpa using e)
    ·exact .inr (by simpa using e)) hl' fun j hj=>by simpa using h (j+1) (by omega)
   rcases h0 0 (Nat.succ_pos _) with e | e
   ·have e':x=none:=by simpa using e
    subst e'
    exact rest
   ·simp at e
theorem znP {K:PySem.W.Frag}{ad:List Addr}{H:Hp}{ρ:Rho}{σ:L2.St}(h:zag K ad H ρ σ)(own:List Str)(fv:List Nat):zag K ad H (zfY own.length fv ρ) (cst own fv σ) where
  len:=by unfold zfY cst;rw [List.length_append,List.length_append,List.length_replicate,List.length_replicate,List.length_map,List.length_map]
  val:=fun i d e=>by
    unfold zfY at e
    unfold cst
    by_cases hi:i<own.length
    · rw [List.getElem?_append_left (by rw [List.length_replicate];exact hi),List.getElem?_replicate] at e
      split at e<;>cases e
    · have hi':own.length<=i:=Nat.le_of_not_lt hi
      rw [List.getElem?_append_right (by rw [List.length_replicate];exact hi'),List.length_replicate,List.getElem?_map] at e
      rw [List.getElem?_append_right (by rw [List.length_replicate];exact hi'),List.length_replicate,List.getElem?_map]
      cases hf:fv[i-own.length]? with
      | none=>rw [hf] at e;cases e
      | some j =>
        rw [hf] at e
        simp only [Option.map_some,Option.some.injEq] at e ⊢
        cases hr:ρ[j]? with
        | none=>rw [hr] at e;cases e
        | some o =>
          rw [hr] at e
          have e':o=some d:=e
          subst e'
          obtain⟨v,ev,rv⟩:=h.val j d hr
          exact⟨v,by rw [ev];rfl,rv⟩
@[irreducible] def zj1 (X:Cx)(ifs:List Expr)(t:DT):Prop:=PFs X ifs (upT X.K t)
theorem zaN {X:Cx}:zj1 X [] zbj:=by with_unfolding_all exact (fun pins s σ H Q I hh=>el8 hh fun ad ρ S Q0 st rh q k=>zn3 pins s σ H Q I (k true S H ad q Wd.refl st))
theorem zmN {X:Cx}{c:Expr}{t:DT}(h:PTD X c t):zj1 X [c] t:=by with_unfolding_all exact (zoo h)
theorem ofT {A B:Prop}(h:if true=true then A else B):A:=by rw [if_pos rfl] at h;exact h
theorem ofF {A B:Prop}(h:if false=true then A else B):B:=by rw [if_neg Bool.false_ne_true] at h;exact h
theorem zmy {K:PySem.W.Frag}{own:List Str}{fv:List Nat}{wi:DI}{g:DG}{g':TG}{tc:DT}{te:DE}(rg:zgb K own.length g g'){σ:L2.St}{H:Hp}{Q:VK}(h:up K (dLC own.length fv wi g tc te) σ H Q):tLC own fv (upI K wi) g' (upT K tc) (up K te) σ H Q:=by
 obtain⟨ad,ρ,S,Q0,so,rh,q,k⟩:=h
 refine⟨ad,ρ,S,_,so,rh,q,fun J0 S1 J H1 ad1 ⟨hbig,W,w0,hok,step,fin⟩ d1 st1 it=>?_⟩
 intro p hp
 refine⟨fun i m H'=>m=J0.items.length-i/\i<=J0.items.length/\∃ ad' S' ys vs,W i ys S'/\Wd ad1 H1 ad' H'/\zL K ad' H' S'/\p∉ad'/\H' p=some (.lst vs)/\zG K ad' H' ys vs/\vs.length<=i,
  ⟨J0.items.length,rfl,Nat.zero_le _,ad1,S1,[],[],w0,Wd.laid hp,st1.laid hp,st1.fresh hp,zaP,.nil,Nat.le_refl _⟩,?_⟩
 rintro i m H2 ⟨rfl,hi2,ad2,S2,ys,vs,w2,d2,st2,hp2,hv2,r2,hl2⟩
 by_cases hlt:i<J0.items.length
 ·have ed:J0.items[i]?=some J0.items[i]:=List.getElem?_eq_getElem hlt
  refine .inr ⟨it.go ad2 H2 S2 i d2 st2 (hok _ _ _ w2) hlt,fun x H' hy=>?_⟩
  obtain⟨d3,st3,r3⟩:=it.yld ad2 H2 S2 i _ x H' d2 st2 (hok _ _ _ w2) ed hy
  have rh3:=znP (rh.wd ((d1.trans d2).trans d3)) own fv
  refine rg ad2 H' S2 _ _ _ x _ _ st3 rh3 r3 (step i _ ys S2 ed w2) fun ρ4 S4 σ4 H4 ad4 q4 d4 st4 rh4 l4 a4=>?_
  refine⟨zhX own.length (fun j hj=>.inl ?_) l4 a4,ad4,ρ4,S4,_,st4,rh4,q4,fun b S5 H5 ad5 q5 d5 st5=>?_⟩
  ·unfold cst
   rw [List.getElem?_append_left (by rw [List.length_replicate];exact hj),List.getElem?_replicate,if_pos hj]
  have fwd:∀ {ad9:List Addr} {H9:Hp},Wd ad2 H2 ad9 H9->p∉ad9/\H9 p=some (.lst vs):=fun {ad9 H9} w=>⟨(fun m=>by
   have z:=w.new p m hp2
   rw [hv2] at z;cases z),w.keep p _ hp2 hv2⟩
  have d25:=(d3.trans d4).trans d5
  cases b with
  | true =>
   refine zlz ?_
   have q5:=Dp.ofT q5
   refine⟨ad5,ρ4,S5,_,st5,rh4.wd d5,q5,fun y S6 v H6 ad6 q6 d6 st6 r6=>?_⟩
   have d26:=d25.trans d6
   obtain⟨n6,e6⟩:=fwd d26
   have hw:Wr ad6 H6 ad6 (upd H6 p (.lst (vs++[v]))):=Wr.hid e6
   have hvl:vs.length<sizeLine:=zkT (by omega)
   exact⟨vs,e6,hvl,J0.items.length-(i+1),by omega,rfl,hlt,ad6,S6,ys++[y],vs++[v],q6,(d2.trans d26).hid hp,st6.hid e6 n6 (st1.bfree hp),n6,zaP,zG.wr hw ((r2.wd d26).append (.cons r6 .nil)),by rw [List.length_append];exact Nat.succ_le_succ hl2⟩
  | false =>
   refine zlo ?_
   have q5:=Dp.ofF q5
   obtain⟨n5,e5⟩:=fwd d25
   exact⟨J0.items.length-(i+1),by omega,rfl,hlt,ad5,S5,ys,vs,q5,d2.trans d25,st5,n5,e5,r2.wd d25,by omega⟩
 ·have e:i=J0.items.length:=by omega
  subst e
  refine .inl ⟨it.stop ad2 H2 S2 d2 st2 (hok _ _ _ w2),?_⟩
  exact k _ _ _ _ (ad2++[p]) (fin ys S2 w2) (d1.trans (d2.add hp)) (st2.add hv2 hp2 r2 (st1.bfree hp)) (.ref (by rw [<- st2.len,List.getElem?_append_right (Nat.le_refl _),Nat.sub_self];rfl))
section
variable {X:Cx}{sc:Scope}{tg iter elt:Expr}{ifs:List Expr}{own free:List Str}{fv:List Nat}{wi:DI}{g:DG}{tc:DT}{te:DE}{pos:Pos}
theorem zc9 {g':TG}(hfr:zda (fun x=>X.env.kindOf x=some .cell) sc.names)(hfv:zfq X sc free fv)(hi:PID X tg iter wi)
  (hg:zgb X.K own.length g g'/\∀ cl C s₀ H₀ ex,PG (inner X sc (own++free) cl C s₀ H₀ ex) tg g') (ht:∀ cl C s₀ H₀ ex,zj1 (inner X sc (own++free) cl C s₀ H₀ ex) ifs tc) (he:∀ cl C s₀ H₀ ex,PD (inner X sc (own++free) cl C s₀ H₀ ex) elt te) (hcalm:X.calm=true:=by rfl) (hxe:(X.xe=fun _ _=>False):=by rfl) (hkind:sc.kind=.function:=by rfl) (hcell:∀ y∈sc.names,y.2≠.cell:=by decide +kernel) (hnames:∀ y∈sc.names,y.2=.local->sc.names.lookup y.1=some .local:=by decide +kernel)
  (hs:∀ x,foldedSetIterable iter X.env x=pure x:=by intro _;rfl):PD X (.ListComp elt [⟨tg,iter,ifs,0⟩] sc pos) (dLC own.length fv wi g tc te):=by with_unfolding_all exact (zaM (zpN (tc:=upT X.K tc) (te:=up X.K te) hcalm hxe hkind hcell hnames hfr hfv hi hg.2 ht he hs) fun _ _ _=>zmy hg.1)
theorem zdS {g':TG}{i:Nat}{y:Str}{py spos:Pos}(hN:X.N.Nodup)(hfr:zda (fun x=>X.env.kindOf x=some .cell) sc.names)(hfv:zfq X sc free fv)(hi:PID X tg iter wi)
  (hg:zgb X.K own.length g g'/\∀ cl C s₀ H₀ ex,PG (inner X sc (own++free) cl C s₀ H₀ ex) tg g') (ht:∀ cl C s₀ H₀ ex,zj1 (inner X sc (own++free) cl C s₀ H₀ ex) ifs tc) (he:∀ cl C s₀ H₀ ex,PD (inner X sc (own++free) cl C s₀ H₀ ex) elt te) (hy:X.N[i]?=some y:=by rfl) (hyl:X.env.scope.names.lookup y=some .local:=by rfl) (hcalm:X.calm=true:=by rfl) (hxe:(X.xe=fun _ _=>False):=by rfl) (hkind:sc.kind=.function:=by rfl) (hcell:∀ y∈sc.names,y.2≠.cell:=by decide +kernel) (hnames:∀ y∈sc.names,y.2=.local->sc.names.lookup y.1=some .local:=by decide +kernel)
  (hsw:swapsWith (.ListComp elt [⟨tg,iter,ifs,0⟩] sc pos) (some (.Name y py)) spos.line X.env=pure true:=by rfl)
  (hs:∀ x,foldedSetIterable iter X.env x=pure x:=by intro _;rfl):PSD X (.Assign [.Name y py] (.ListComp elt [⟨tg,iter,ifs,0⟩] sc pos) spos) (zN (dLC own.length fv wi g tc te) (zB i)):=by with_unfolding_all exact (zaZ (znD (tc:=upT X.K tc) (te:=up X.K te) hN hy hyl hcalm hxe hkind hcell hnames hfr hfv hi hg.2 ht he hsw hs) fun E σ H hh=>el8 hh fun ad ρ S E0 so rh q k =>
  zmy (Q:=fun x H1=>L2.zB i x σ H1 E.nx) hg.1 ⟨ad,ρ,S,_,so,rh,q,fun d S' v H' ad' q' w st' r=>k.nx _ S' _ H' ad' q' w st' ((rh.wd w).set r i)⟩)
theorem zkH {K:PySem.W.Frag}{b:Nat}:zgi K b ze7 L2.ze7:=fun ad H S ρ σ ds vs Q0 Q st rh r ⟨e,q⟩ k=>by
 subst e
 cases r
 exact⟨rfl,k ρ S σ H ad q Wd.refl st rh rfl fun _ _=>rfl⟩
theorem zeQ {K:PySem.W.Frag}{b:Nat}{t:DG}{u:DGs}{t':TG}{u':TGs}(r1:zgb K b t t')(r2:zgi K b u u'):zgi K b (zbh t u) (L2.zbh t' u'):=fun ad H S ρ σ ds vs Q0 Q st rh r ⟨d,rs,ed,q⟩ k=>by
 subst ed
 cases r with
 | cons r t =>
  refine⟨_,_,rfl,r1 ad H S ρ σ d _ _ _ st rh r q fun ρ1 S1 σ1 H1 ad1 q1 w1 st1 rh1 l1 a1=>?_⟩
  exact r2 ad1 H1 S1 ρ1 σ1 _ _ _ _ st1 rh1 (t.wd w1) q1 fun ρ2 S2 σ2 H2 ad2 q2 w2 st2 rh2 l2 a2=>k ρ2 S2 σ2 H2 ad2 q2 (w1.trans w2) st2 rh2 (l2.trans l1) fun j hj=>(a2 j hj).trans (a1 j hj)
theorem zlC {K:PySem.W.Frag}{b n:Nat}{t:DGs}{t':TGs}(r:zgi K b t t'):zgb K b (zfs n t) (L2.zfs K n t'):=fun ad H S ρ σ d v Q0 Q st rh rv ⟨xs,ed,hl,q⟩ k=>by
 subst ed
 cases rv with
 | tup h1 rs=>exact⟨_,_,rfl,SqT.of h1,by rw [<- rs.length];exact hl,r ad H S ρ σ xs _ _ _ st rh rs q k⟩
end
theorem zh1 {K:PySem.W.Frag}{ad:List Addr}{H:Hp}{ds:List D}{vs:List V}(N:List Str)(r:zG K ad H ds vs):zag K ad H (zdm N.length ds) (L2.start N vs) where
  len:=by unfold zdm L2.start;rw [List.length_append,List.length_append,List.length_map,List.length_map,List.length_replicate,List.length_replicate,r.length]
  val:=fun i d e=>by
    unfold zdm at e
    unfold L2.start
    by_cases hi:i<ds.length
    · rw [List.getElem?_append_left (by rw [List.length_map];exact hi),List.getElem?_map] at e
      rw [List.getElem?_append_left (by rw [List.length_map,<- r.length];exact hi),List.getElem?_map]
      cases hd:ds[i]? with
      | none=>rw [hd] at e;cases e
      | some d' =>
        rw [hd] at e
        cases e
        obtain⟨v,ev,rv⟩:=r.get hd
        exact⟨v,by rw [ev];rfl,rv⟩
    · rw [List.getElem?_append_right (by rw [List.length_map];exact Nat.le_of_not_lt hi),List.getElem?_replicate] at e
      split at e<;>cases e
theorem zG.cut1 {K:PySem.W.Frag}{ad ad':List Addr}{H:Hp}(k:Nat)(h1:∀ d v,fl k d=true->Rel K ad H d v->Rel K ad' H d v):∀ ds vs,ds.all (fl k)=true->zG K ad H ds vs->zG K ad' H ds vs:=by
 intro ds
 induction ds with
 | nil=>intro vs _ r;cases r;exact .nil
 | cons d ds ih =>
  intro vs hf r
  rw [List.all_cons,Bool.and_eq_true] at hf
  cases r with
  | cons r t=>exact .cons (h1 d _ hf.1 r) (ih _ hf.2 t)
theorem Rel.cut {K:PySem.W.Frag}{ad ad':List Addr}{H:Hp}:∀ (k:Nat) (d:D) (v:V),fl k d=true->Rel K ad H d v->Rel K ad' H d v:=by
 intro k
 induction k with
 | zero =>
  intro d v hf r
  cases r with
  | non=>exact .non
  | bl b=>exact .bl b
  | int i=>exact .int i
  | str x=>exact .str x
  | ty n=>cases hf
  | tup h r=>cases hf
  | rl h r=>cases hf
  | ref h=>cases hf
  | exn _ _ _=>cases hf
 | succ k ih =>
  intro d v hf r
  cases r with
  | non=>exact .non
  | bl b=>exact .bl b
  | int i=>exact .int i
  | str x=>exact .str x
  | ty n=>cases hf
  | tup h r=>exact .tup h (zG.cut1 k ih _ _ hf r)
  | rl h r=>cases hf
  | ref h=>cases hf
  | exn _ _ _=>cases hf
theorem zG.cut {K:PySem.W.Frag}{ad ad':List Addr}{H:Hp}(k:Nat)(ds:List D)(vs:List V)(hf:ds.all (fl k)=true)(r:zG K ad H ds vs):zG K ad' H ds vs:=zG.cut1 k (Rel.cut k) ds vs hf r
end Dp
namespace Dp
open PySem PySem.Spec PyProof.Rows L2 My
variable [B:Bs]
mutual
theorem Rel.low {K:PySem.W.Frag}{ad ad':List Addr}{H H':Hp}{m:Nat}(hm:ad.length<=m):∀ {d:D} {u v:V},Rel K ad H d u->Rel K ad' H' d v->Rel K (ad'.take m) H' d v
 | _,_,_,.non,.non=>.non
 | _,_,_,.bl b,.bl _=>.bl b
 | _,_,_,.int i,.int _=>.int i
 | _,_,_,.str x,.str _=>.str x
 | _,_,_,.ty n,.ty _=>.ty n
 | _,_,_,.tup _ r,.tup h r'=>.tup h (zG.low hm r r')
 | _,_,_,.rl _ r,.rl h r'=>.rl h (zG.low hm r r')
 | _,_,_,.exn _ _ _,.exn h e n=>.exn h e n
 | _,_,_,.ref h,.ref h'=>.ref (by rw [List.getElem?_take_of_lt (Nat.lt_of_lt_of_le (My.zaK h) hm)];exact h')
theorem zG.low {K:PySem.W.Frag}{ad ad':List Addr}{H H':Hp}{m:Nat}(hm:ad.length<=m):∀ {ds:List D} {us vs:List V},zG K ad H ds us->zG K ad' H' ds vs->zG K (ad'.take m) H' ds vs
 | _,_,_,.nil,.nil=>.nil
 | _,_,_,.cons r t,.cons r' t'=>.cons (Rel.low hm r r') (zG.low hm t t')
end
theorem zas.low {K:PySem.W.Frag}{ad ad':List Addr}{H H':Hp}{m:Nat}(hm:ad.length<=m):∀ {fs:List (Str×D)} {us vs:List (Str×V)},zas K ad H fs us->zas K ad' H' fs vs->zas K (ad'.take m) H' fs vs
 | _,_,_,.nil,.nil=>.nil
 | _,_,_,.cons r t,.cons r' t'=>.cons (Rel.low hm r r') (zas.low hm t t')
theorem RelK.low {K:PySem.W.Frag}{ad ad':List Addr}{H H':Hp}{m:Nat}(hm:ad.length<=m):∀ {fs:List (Str×D)} {us vs:List (Key×V)},RelK K ad H fs us->RelK K ad' H' fs vs->RelK K (ad'.take m) H' fs vs
 | _,_,_,.nil,.nil=>.nil
 | _,_,_,.cons r t,.cons r' t'=>.cons (Rel.low hm r r') (RelK.low hm t t')
theorem zct.low {K:PySem.W.Frag}{ad ad':List Addr}{H H':Hp}{m:Nat}(hm:ad.length<=m):∀ {fs:List (List Key×D)} {us vs:List (List Key×V)},zct K ad H fs us->zct K ad' H' fs vs->zct K (ad'.take m) H' fs vs
 | _,_,_,.nil,.nil=>.nil
 | _,_,_,.cons r t,.cons r' t'=>.cons (Rel.low hm r r') (zct.low hm t t')
theorem zgl {K:PySem.W.Frag}{ad:List Addr}{H:Hp}{S:Sto}{Q0:DK}{Q:VK}(st:zL K ad H S)(k:KK K ad H Q0 Q):KK K ad H (Fin S Q0) Q:=by
 intro d S' v H' ad' hf w st' r
 rcases hf with q | ⟨S1,pre,hlen,hd,hc,q⟩
 ·exact k d S' v H' ad' q w st' r
 have hS:S1.length<=S'.length:=pre.length_le
 have had:ad.length<=S1.length:=by rw [st.len];exact hlen
 have htk:∀ {n:Nat} {a:Addr},(ad'.take S1.length)[n]?=some a->ad'[n]?=some a:=fun {n a} e=>by
  have hn:=My.zaK e
  rw [List.length_take] at hn
  rw [List.getElem?_take_of_lt (by omega)] at e
  exact e
 have w1:Wd ad H (ad'.take S1.length) H':=by
  refine⟨?_,w.keep,w.tup,w.frz,fun b m n=>w.new b (List.mem_of_mem_take m) n⟩
  obtain⟨t,rfl⟩:=w.pre
  rw [List.take_append,List.take_of_length_le had]
  exact List.prefix_append _ _
 refine k d S1 v H' _ q w1 ⟨st.wd.trans w1,by rw [List.length_take,st'.len];omega,st'.nd.sublist (List.take_sublist _ _),fun n a c e1 e2=>?_⟩ ?_
 ·have e1':=htk e1
  have ok:=st'.cell n a c e1' (zg6 pre e2)
  rcases hc n c e2 with h | h
  ·obtain⟨a0,ea,ok0⟩:=st.get h
   cases c with
   | ins c fs =>
    obtain⟨C,dx,vs,hv,c1,c2,rv,hn⟩:=ok
    obtain⟨_,_,us,_,_,_,ru,_⟩:=ok0
    exact⟨C,dx,vs,hv,c1,c2,zas.low had ru rv,hn⟩
   | dk kvs =>
    obtain⟨vs,hv,rv⟩:=ok
    obtain⟨us,hu,ru⟩:=ok0
    exact⟨vs,hv,RelK.low had ru rv⟩
   | dt kvs =>
    obtain⟨vs,hv,rv⟩:=ok
    obtain⟨us,hu,ru⟩:=ok0
    exact⟨vs,hv,zct.low had ru rv⟩
   | lst xs =>
    obtain⟨vs,hv,rv⟩:=ok
    obtain⟨us,hu,ru⟩:=ok0
    exact⟨vs,hv,zG.low had ru rv⟩
  ·cases c with
   | ins c fs=>cases h
   | dk _=>cases h
   | dt _=>cases h
   | lst xs =>
    obtain⟨vs,hv,rv⟩:=ok
    exact⟨vs,hv,zG.cut 20 _ _ h rv⟩
 ·rcases hd with h | ⟨n,rfl,hn⟩
  ·exact Rel.cut 20 _ _ h r
  ·cases r with
   | ref e=>exact .ref (by rw [List.getElem?_take_of_lt hn];exact e)
omit B in
theorem z8 {P:Program}{w:World}{K:PySem.W.Frag}{mg:Str->Option Value}{base:Heap}{x qual:Str}{st:Stmt}{f:Addr}{fd:FuncData}{N ps:List Str}{k:Nat}{sp:DSp}{b:DS}(F:Fun K x qual st f fd)(S:zT N ps (zK st))
  (len:∀ ds So Q,sp ds So Q->ds.length=ps.length) (body:BodyOk N.length b sp)
  (term:∀ (cdv:Value) (A:Around) (outer:List Env) (s:Shared) (H:Hp) (E:XK),zap k (A.deeper (envOfC qual (zK st) s.heap.objs.size f cdv))->∀ [Bs],zdv (zd5 CX0 P w K mg base N qual (zK st) f cdv A outer s H E).nox (zaD st) b) :
  zY P w K mg base CX0 (k+1) f fd ps (upF K sp):=by
 with_unfolding_all
  refine F.ok S (fun vs H Q E ⟨ad,So,ds,Q0,so,r,hf,kk⟩=>by rw [<- r.length];exact len ds So Q0 hf) fun cdv A outer s H vs Q E hr ⟨ad,So,ds,Q0,so,r,hf,kk⟩=>?_
  letI:Bs:=⟨ad,H⟩
  refine⟨_,term cdv A outer s H E hr,ad,zdm N.length ds,So,_,so,zh1 N r,body ds So Q0 hf,⟨fun ρ S' σ H' ad' q w' st' rh=>zgl so kk .non S' .non H' ad' q w' st' .non,zgl so kk,fun _ _ _ _ _ q=>q.elim,fun _ _ _ _ _ q=>q.elim⟩⟩
omit B in
theorem zoZ {K:PySem.W.Frag}{H:Hp}{a:Addr}{ns:List Int}(hl:ns.length<=63)(hg:∀ n∈ns,Hg n)(hO:Only H)(hS:SqL K H a (ns.map V.int)):upF K zdQ [.ref a] H (fun v _=>v=.bl true) fun _ _ _=>False:=by
 have hr:zf5 K H a (ns.map V.int):=by
  rcases hS with (h | h) | h
  ·rcases hO a with e | ⟨o,xs,e⟩
   ·rw [h] at e;cases e
   ·rw [h] at e;cases e
  ·exact .inl h
  ·exact .inr h
 refine⟨[],[],[.rl (ns.map D.int)],fun d _=>d=.bl true,@zL.mk ⟨[],H⟩ _ _ _ _ Wd.refl rfl List.nodup_nil (fun n a c e=>by simp at e),.cons (.rl hr (zG.mk_ints ns)) .nil,⟨ns,rfl,⟨rfl,hg⟩,hl,fun _=>rfl⟩,fun d S' v H' ad' q w st' r=>?_⟩
 have q':d=.bl true:=q
 subst q'
 cases r
 rfl
omit B in
theorem zio:∀ {ns:List Int} {n:Int},n∈ns->PySem.W.WData.weight (.int n)<=PySem.W.WData.weightAll (ns.map PySem.W.WData.int)
 | m::ns,n,h=>by
  rw [List.map_cons,PySem.W.WData.weightAll]
  rcases List.mem_cons.mp h with rfl | h
  ·omega
  ·have:=zio h;omega
omit B in
theorem zll {l:PySem.W.OpenLaw}{n k:Nat}{q:Program}{loose:List Str}{XP:(Str->Option Value)->Heap->Prop}{YP:World->Heap->Prop}{d:DefRec}{K:Params->PySem.W.Frag}{sp:World->Sp}{x:Str}
  (hn:l.most=some n) (hn2:n<=sizeLine) (hdf:d.params.defaults=[]) (hr:zap k callerA) (hY:∀ (w:World) (h:Heap),YP w h->(K w.params).In h)
  (F:∀ (w:World) (mg:Str->Option Value) (fa:Addr) (h:Heap),(K w.params).In h->h.Ns mainGlobals mg->mg d.name=some (.ref fa) ->
   ∃ fd:FuncData,(∀ (s:Shared) (u:Value),BindsTo s fd ⟨[u],[]⟩ [(x,u)])/\∀ base:Heap,(K w.params).In base->base.Ns mainGlobals mg->zY l.prog w (K w.params) mg base CX0 k fa fd [x] (sp w))
  (hsp:∀ (w:World) (H:Hp) (a:Addr) (ns:List Int),ns.length<=n->(∀ m∈ns,Hg m)->Only H->SqL (K w.params) H a (ns.map V.int)->sp w [.ref a] H (fun v _=>v=.bl true) fun _ _ _=>False) :
  PySem.W.WalkO q loose XP YP l.row.toRowW d [] (fun f vs=>PySem.call f vs):=by
 intro w s₀ s₁ mg mb G Y fa o pm cd doc dV kV ho hd hcd hD hmg hg args vals as hpre hlay hrd hwl hlo
 obtain rfl:dV=.none:=PySem.W.Dflts.none hD hdf
 obtain rfl:kV=.none:=PySem.W.Dflts.noKw hD
 obtain⟨a,vs,ns,rfl,rfl,hobj,hints,hlen⟩:=Att.zkV hn hpre hwl
 have hbits:∀ m∈ns,Hg m:=fun m hm=>by
  have h1:PySem.W.WData.layable (.list (ns.map .int))=true:=by simpa [PySem.W.WData.layableAll] using hlay
  have h2:PySem.W.WData.weight (.list (ns.map PySem.W.WData.int))<=2 ^ 20:=by
   unfold PySem.W.WData.layable at h1
   rw [Bool.and_eq_true,decide_eq_true_eq] at h1
   exact h1.2
  have h3:=Nat.le_trans (zio hm) (by simpa only [PySem.W.WData.weight] using h2)
  exact zmH (by simpa only [PySem.W.WData.weight,Builtin.Int.intBits] using h3)
 have KX:=hY w _ Y
 obtain⟨fd,hb,hF⟩:=F w mg fa _ KX G.T.g hmg
 refine PySem.W.enter_call (codeAny_mono (zlt KX G.T.g G.T.b G.T.builtins G.T.nolimit hg hobj hints (Nat.le_trans hlen hn2) hr hF hb (fun H hO hS=>hsp w H a ns hlen hbits hO hS) fun _ _ _ z=>z) fun r s' hq=>?_)
 obtain⟨rfl,h2,h3,h4⟩:=hq
 exact⟨.inl ⟨.bool true,.bool true,[],rfl,fun _=>rfl,.bool true,Att.zku l _,fun _=>⟨List.Pairwise.nil,fun _ hm=>(nomatch hm)⟩⟩,h2,h3,h4⟩
omit B in
theorem zmj {us:List Value}(hl:us.length=1):∃ a0,us=[a0]:=by
  cases us with
  | nil=>simp at hl
  | cons a0 us =>
  cases us with
  | nil=>exact⟨a0,rfl⟩
  | cons b us=>simp at hl
omit B in
theorem zjW {us:List Value}(hl:us.length=2):∃ a0 a1,us=[a0,a1]:=by
  cases us with
  | nil=>simp at hl
  | cons a0 us =>
  cases us with
  | nil=>simp at hl
  | cons a1 us =>
  cases us with
  | nil=>exact⟨a0,a1,rfl⟩
  | cons b us=>simp at hl
omit B in
theorem zmn {us:List Value}(hl:us.length=3):∃ a0 a1 a2,us=[a0,a1,a2]:=by
  cases us with
  | nil=>simp at hl
  | cons a0 us =>
  cases us with
  | nil=>simp at hl
  | cons a1 us =>
  cases us with
  | nil=>simp at hl
  | cons a2 us =>
  cases us with
  | nil=>exact⟨a0,a1,a2,rfl⟩
  | cons b us=>simp at hl
omit B in
theorem zmq {us:List Value}(hl:us.length=4):∃ a0 a1 a2 a3,us=[a0,a1,a2,a3]:=by
  cases us with
  | nil=>simp at hl
  | cons a0 us =>
  cases us with
  | nil=>simp at hl
  | cons a1 us =>
  cases us with
  | nil=>simp at hl
  | cons a2 us =>
  cases us with
  | nil=>simp at hl
  | cons a3 us =>
  cases us with
  | nil=>exact⟨a0,a1,a2,a3,rfl⟩
  | cons b us=>simp at hl
omit B in
theorem zmi {us:List Value}(hl:us.length=5):∃ a0 a1 a2 a3 a4,us=[a0,a1,a2,a3,a4]:=by
  cases us with
  | nil=>simp at hl
  | cons a0 us =>
  cases us with
  | nil=>simp at hl
  | cons a1 us =>
  cases us with
  | nil=>simp at hl
  | cons a2 us =>
  cases us with
  | nil=>simp at hl
  | cons a3 us =>
  cases us with
  | nil=>simp at hl
  | cons a4 us =>
  cases us with
  | nil=>exact⟨a0,a1,a2,a3,a4,rfl⟩
  | cons b us=>simp at hl
omit B in
theorem zpC {us:List Value}(hl:us.length=8):∃ a0 a1 a2 a3 a4 a5 a6 a7,us=[a0,a1,a2,a3,a4,a5,a6,a7]:=by
  cases us with
  | nil=>simp at hl
  | cons a0 us =>
  cases us with
  | nil=>simp at hl
  | cons a1 us =>
  cases us with
  | nil=>simp at hl
  | cons a2 us =>
  cases us with
  | nil=>simp at hl
  | cons a3 us =>
  cases us with
  | nil=>simp at hl
  | cons a4 us =>
  cases us with
  | nil=>simp at hl
  | cons a5 us =>
  cases us with
  | nil=>simp at hl
  | cons a6 us =>
  cases us with
  | nil=>simp at hl
  | cons a7 us =>
  cases us with
  | nil=>exact⟨a0,a1,a2,a3,a4,a5,a6,a7,rfl⟩
  | cons b us=>simp at hl
end Dp
namespace Dp
open PySem PySem.Spec PyProof.Rows L2 My
variable [B:Bs]
section
variable {X:Cx}
end
section
variable {X:Cx}{a b:Expr}{ta tb:DE}{pos:Pos}
theorem zii (x:D)(hx:fl 20 x=true):∀ ys:List D,ys.all (fl 20)=true->((zam ys).any fun z=>PyData.eqv z (pyD x))=ys.any fun z=>eqv z x
 | [],_=>rfl
 | y::ys,h=>by
  rw [List.all_cons,Bool.and_eq_true] at h
  show (PyData.eqv (pyD y) (pyD x)||(zam ys).any fun z=>PyData.eqv z (pyD x))=_
  rw [ziM 20 y x h.1 hx,zii x hx ys h.2]
  rfl
def znQ (X:Cx)(g:Bool->Bool):R2:=fun x y H Q=>∃ ad S dx dy b,zL X.K ad H S/\Rel X.K ad H dx x/\Rel X.K ad H dy y/\InD S dx dy b/\Q (.bl (g b)) H
theorem zhq {pins:List (Addr×Obj)}{σ:L2.St}{H:Hp}{s:Shared}{ad:List Addr}{S:Sto}{dx dy:D}{x y:V}{v u:Value}{b:Bool}(I:Inv X pins σ H s)(st:zL X.K ad H S)(rx:Rel X.K ad H dx x)(ry:Rel X.K ad H dy y)(qx:RelV x v)(qy:RelV y u)(h:InD S dx dy b) :
  ∃ pd ps as bs,Reads s.heap v pd as/\(Reads s.heap u (.list ps) bs\/Reads s.heap u (.tuple ps) bs)/\pd.canLay0=true/\PyData.canLayAll0 ps=true/\min (PyData.depthAll ps) pd.depth<=60/\(ps.any fun z=>PyData.eqv z pd)=b:=by
 obtain⟨ys,hy,fx,fy,rfl⟩:=h
 obtain⟨as,ra⟩:=zbP I 20 dx x v fx rx qx
 obtain⟨c1,d1⟩:=zeG 20 dx fx
 obtain⟨c2,d2⟩:=zdg 20 ys fy
 rcases hy with rfl | hy
 ·obtain⟨bs,rb⟩:=zbP I 21 (.tup ys) y u fy ry qy
  exact⟨pyD dx,zam ys,as,bs,ra,.inr rb,c1,c2,by omega,zii dx fx ys fy⟩
 ·obtain⟨a2,vs2,rfl,s2,r2⟩:=hy.sq st ry
  cases qy
  obtain⟨its2,rv2,ht2,hz2⟩:=I.list s2
  obtain⟨o2,ho2,hc2,n2,hd2⟩:=ht2.isList
  obtain⟨bs,rb⟩:=zdM I 20 (zbP I 20) _ _ _ fy r2 rv2
  exact⟨pyD dx,zam ys,as,_,ra,.inl (.list ho2 hc2 hd2 (by simpa using rb)),c1,c2,by omega,zii dx fx ys fy⟩
theorem zhM {k:Nat}(hr:zap k X.A):OC X .In oIn:=⟨_,(OpR.or (r:=znQ X id) (fun pins s σ H x y v u Q I qx qy ⟨ad,S,dx,dy,b,st,rx,ry,h,q⟩=>by
  obtain⟨pd,ps,as,bs,ra,rb,c1,c2,hd,e⟩:=zhq I st rx ry qx qy h
  have hu:=hr.units
  rcases rb with rb | rb
  ·exact PySem.SeqAt.in_list_reads rb ra c2 c1 (by omega) ⟨.bl _,H,I,by rw [e];rfl,q⟩
  ·exact PySem.SeqAt.in_tuple_reads rb ra c2 c1 (by omega) ⟨.bl _,H,I,by rw [e];rfl,q⟩) zk5),
 fun ad H S x y v u Q0 Q st rx ry h k=>by
  rcases h with ⟨b,h,q⟩ | ⟨c,z,rfl,rfl,q⟩
  ·exact .inl ⟨ad,S,x,y,b,st,rx,ry,h,k _ S _ H ad q Wd.refl st (.bl _)⟩
  ·cases rx
   cases ry
   exact .inr ⟨_,z,rfl,rfl,by rw [PySem.StrLaws.found_one];exact k _ S _ H ad q Wd.refl st (.bl _)⟩⟩
theorem zlk {k:Nat}(hr:zap k X.A):OC X .NotIn ziw:=⟨_,(OpR.or (r:=znQ X (!·)) (fun pins s σ H x y v u Q I qx qy ⟨ad,S,dx,dy,b,st,rx,ry,h,q⟩=>by
  obtain⟨pd,ps,as,bs,ra,rb,c1,c2,hd,e⟩:=zhq I st rx ry qx qy h
  have hu:=hr.units
  rcases rb with rb | rb
  ·exact PySem.SeqAt.notIn_list_reads rb ra c2 c1 (by omega) ⟨.bl _,H,I,by rw [e];rfl,q⟩
  ·exact PySem.SeqAt.notIn_tuple_reads rb ra c2 c1 (by omega) ⟨.bl _,H,I,by rw [e];rfl,q⟩) zh5),
 fun ad H S x y v u Q0 Q st rx ry h k=>by
  rcases h with ⟨b,h,q⟩ | ⟨c,z,rfl,rfl,q⟩
  ·exact .inl ⟨ad,S,x,y,b,st,rx,ry,h,k _ S _ H ad q Wd.refl st (.bl _)⟩
  ·cases rx
   cases ry
   exact .inr ⟨_,z,rfl,rfl,by rw [PySem.StrLaws.found_one];exact k _ S _ H ad q Wd.refl st (.bl _)⟩⟩
theorem zmZ {op:CmpOp}{r':DR2}(o:OC X op r')(ha:PD X a ta)(hb:PD X b tb)(hm:behindInMarks op b=false:=by with_unfolding_all rfl):PD X (.Compare a [op] [b] pos) (dOp r' ta tb):=by
 with_unfolding_all
  obtain⟨r,ho,od⟩:=o
  exact zaM (zjw ho ha hb hm) fun _ _ _=>zfE od
theorem zfD {op:CmpOp}{r':DR2}(o:OC X op r')(ha:PD X a ta)(hb:PD X b tb)(hm:behindInMarks op b=false:=by with_unfolding_all rfl):PTD X (.Compare a [op] [b] pos) (dT (dOp r' ta tb)):=by
 with_unfolding_all
  obtain⟨r,ho,od⟩:=o
  refine zfJ (zju ho ha hb hm) fun σ H Q hh=>el8 hh fun ad ρ S Q0 st rh q k=>?_
  refine zfE (Q:=fun x H'=>∃ k,x=.bl k/\Q k H') od ⟨ad,ρ,S,_,st,rh,q,fun d S' v H' ad' ⟨b,e,q'⟩ w st' r=>?_⟩
  subst e
  cases r
  exact⟨b,rfl,k b S' H' ad' q' w st'⟩
end
section
variable {X:Cx}
end
section
variable {X:Cx}{e:Expr}{pos p2 p3:Pos}{lo:Option Expr}
end
theorem ziv {K:PySem.W.Frag}{ad:List Addr}{H:Hp}:∀ {zs:List Str} {vs:List V},zG K ad H (zs.map D.str) vs->vs=zs.map V.str
 | [],_,.nil=>rfl
 | z::zs,_,.cons r t=>by cases r;rw [ziv t];rfl
theorem zm0 {X:Cx}{a:Expr}{t:DA}{p1 p2 pos1 pos2:Pos}(hgl:Gl X "len")(hml:X.mg "len"=none)(hgr:Gl X "set")(hmr:X.mg "set"=none)(ha:PAD X [a] t)(hc:X.calm=true:=by rfl)
  (hs:starEach [a] X.env=[(false,eval a X.env)]:=by exact zeK rfl)
  (hs3:starEach [.Call (.Name "set" p2) [a] [] pos2] X.env=[(false,eval (.Call (.Name "set" p2) [a] [] pos2) X.env)]:=by rfl) :
  PD X (.Call (.Name "len" p1) [.Call (.Name "set" p2) [a] [] pos2] [] pos1) (dB zjZ t):=by with_unfolding_all exact (zaM (zm9 hc hgl hml hgr hmr ha hs hs3) fun σ H Q hh=>el8 hh fun ad ρ S Q0 st rh q k =>
  ⟨ad,ρ,S,_,st,rh,q,fun ds S1 vs H1 ad1 ⟨x,zs,ed,hx,hl,q1⟩ w1 st1 r1=>by
   subst ed
   obtain⟨v,rfl,rv⟩:=zdN r1
   obtain⟨a1,ws,rfl,hs,rs⟩:=hx.sq st1 rv
   cases ziv rs
   exact⟨a1,zs,rfl,hs,hl,k _ S1 _ H1 ad1 q1 w1 st1 (.int _)⟩⟩)
section
variable {X:Cx}{e:Expr}{t:DA}{p pos kp cp:Pos}{j:Nat}
end
section
variable {X:Cx}{e o value:Expr}{te to tv:DE}{f c:Str}{pos pos':Pos}
theorem zgj (he:PD X e te)(hb:attributeBase e f X.env (eval e X.env)=eval e X.env):PD X (.Attribute e f pos) (zhb f te):=by with_unfolding_all exact (zaM (zos he hb) fun σ H Q hh=>el8 hh fun ad ρ S Q0 st rh q k =>
  ⟨ad,ρ,S,_,st,rh,q,fun x S1 v H1 ad1 ⟨n,c,fs,d,ex,hn,hl,q1⟩ w1 st1 r1=>by
   subst ex
   cases r1 with
   | ref en =>
    obtain⟨C,dx,vs,h1,hc,hns,rf,hna⟩:=st1.cell n _ _ en hn
    obtain⟨v,hv,rv⟩:=rf.look hl
    obtain⟨q2,hq2,e2⟩:=ziL hl
    exact⟨_,C,dx,vs,v,rfl,h1,hc,e2▸hna q2 hq2,hv,k d S1 v H1 ad1 q1 w1 st1 rv⟩⟩)
theorem zcz (hna:∀ C,PySem.W.nsIn X.K mainGlobals c=some (some (.ref C))->zah X.K C f)(ho:PD X o to)(hv:PD X value tv)(hs:swapsWith value (some (.Attribute o f pos')) pos.line X.env=pure false:=by rfl) :
  PSD X (.Assign [.Attribute o f pos'] value pos) (zc7 c f to tv):=by with_unfolding_all exact (zaZ (zpm ho hv hs) fun E σ H hh=>el8 hh fun ad ρ S E0 so rh q k =>
 ⟨ad,ρ,S,_,so,rh,q,fun y S1 vy H1 ad1 q1 w1 st1 r1=>⟨ad1,ρ,S1,_,st1,rh.wd w1,q1,fun x S2 vx H2 ad2 ⟨n,fs,ex,hn,hl,q2⟩ w2 st2 r2=>by
  subst ex
  cases r2 with
  | ref en =>
   obtain⟨C,dx,vs,h1,hc,hns,rf,hna'⟩:=st2.cell n _ _ en hn
   have w3:Wd ad2 H2 ad2 (upd H2 _ (.ins C dx (zbg f vy vs))):=Wd.putI en h1
   exact⟨_,C,dx,vs,rfl,h1,hc,hna C hns,by rw [<- rf.length];omega,k.nx ρ _ σ _ ad2 q2 ((w1.trans w2).trans w3) (st2.putI en h1 hc hns rf hna' (hna C hns) (r1.wd w2)) (((rh.wd w1).wd w2).wd w3)⟩⟩⟩)
omit B in
theorem zmW {K:PySem.W.Frag}{C:Addr}{c:Str}{init:DSp}(hc:Cls K C)(hn:PySem.W.nsIn K mainGlobals c=some (some (.ref C))):∀ vs H Q,upF K (zms c init) vs H Q E0->∀ x dx,H x=none->H dx=none->dx≠x ->
  upF K init (.ref x::vs) (upd (upd H dx (.own x)) x (.ins C dx [])) (fun v H2=>v=.non/\Q (.ref x) H2) E0:=by
 rintro vs H Q ⟨ad,S,ds,Q0,st,r,hf,k⟩ x dx hx hdx hne
 letI:Bs:=⟨ad,H⟩
 obtain⟨w,st'⟩:=st.newI (c:=c) hx hdx hne hc hn
 have rx:Rel K (ad++[x]) (upd (upd H dx (.own x)) x (.ins C dx [])) (.ref S.length) (.ref x):=.ref (by rw [<- st.len,List.getElem?_append_right (Nat.le_refl _),Nat.sub_self];rfl)
 have hf':init (.ref S.length::ds) (S++[.ins c []]) (fun d S2=>d=.non/\Q0 (.ref S.length) S2):=hf
 refine⟨ad++[x],S++[.ins c []],.ref S.length::ds,_,st'.base,.cons rx (r.wd w),hf',fun d S' v H' ad' q w' st2 rv=>?_⟩
 obtain⟨rfl,q⟩:=q
 cases rv
 exact⟨rfl,k _ S' _ H' ad' q (w.trans w') (st'.back st2) (rx.wd w')⟩
theorem zkC {k j:Nat}{x:Str}{e:Expr}{es:List Expr}{t:DA}{p:Pos}{f:DSp}(G:zjV X.prog X.w X.K X.mg X.base k x (upF X.K f))(hr:zap j X.A)
  (ha:PAD X (e::es) t) (hk:k+1<=j:=by decide) (hg:Gl X x:=by rfl) (hdb:(x==("__debug__":Str))=false:=by decide) (he:starEach (e::es) X.env=(false,eval e X.env)::starEach es X.env:=by exact zaH rfl) (hpl:(backTo pos (starEach es X.env)).any (·.1)=false:=by exact zbO rfl) :
  PD X (.Call (.Name x p) (e::es) [] pos) (dCall f t):=by with_unfolding_all exact (zaM (zqi G hr hk hg ha hdb he hpl) fun σ H Q hh=>el8 hh fun ad ρ S Q0 st rh q k =>
 ⟨ad,ρ,S,_,st,rh,q,fun ds S1 vs H1 ad1 q1 w1 st1 r1=>by
  show upF X.K f (vs++[]) H1 Q E0
  rw [List.append_nil];exact⟨ad1,S1,ds,Q0,st1.base,r1,q1,(k.wd w1).base st1⟩⟩)
end
end Dp
namespace Dp
open PySem PySem.Spec PyProof.Rows L2 My
def Fly (h0 h:Heap)(e:Addr)(cls:Value)(H:Hp):Prop:=h0.get? e=none/\H e=none/\∃ (a0:Value) (oe:Obj) (vs:Array Value) (T:Addr) (oT:Obj) (ts:Array Value),h.get? e=some oe/\(oe.cls=cls/\vs[0]?=some a0)/\oe.data=.fields vs/\vs[1]?=some (.ref T)/\h0.get? T=none/\T≠e/\h.get? T=some oT/\oT.data=.fields ts/\ts[3]?=some .none/\H T=none
def CXd (P:Program)(w:World):CXT:=fun outer H s E e s'=>∃ (a C:Addr) (H':Hp),e=.ref a/\s'.os=s.os/\AllBare s'.gens/\Un (frs outer) [] H H' s.heap s'.heap/\HOk P w H' s'.heap/\Fly s.heap s'.heap a (.ref C) H'/\E (.ref C) none H'
def zbi (h:Heap)(p:Addr->Bool):Heap:={ h with objs:=h.objs.mapIdx fun i o=>if p i=true then o else { cls:=.none,data:=.freed } }
theorem zcs (h:Heap)(p:Addr->Bool)(b:Addr):(zbi h p).get? b=if p b=true then h.get? b else none:=by
  unfold zbi Heap.get?
  dsimp only
  rw [Array.getElem?_mapIdx]
  cases h.objs[b]? with
  | none=>cases p b<;>rfl
  | some o=>cases p b<;>rfl
theorem zeq (h:Heap)(p:Addr->Bool):(zbi h p).StaysIn h:=fun b o e=>by
 rw [zcs] at e
 split at e
 ·exact e
 ·cases e
theorem zfF {h base base':Heap}:∀ {l:List Env},h.FunFrames base l->(∀ L∈frs l,base'.get? L=none)->h.FunFrames base' l
 | [],_,_=>True.intro
 | env::l,⟨h1,⟨L,o,h2,h3,h4,h5⟩,h6⟩,hb=>⟨h1,⟨L,o,h2,hb L (List.mem_filterMap.mpr ⟨env,by simp,h2⟩),h4,h5⟩,zfF h6 fun L' hL=>hb L' (by
   obtain⟨e',he,e2⟩:=List.mem_filterMap.mp hL
   exact List.mem_filterMap.mpr ⟨e',List.mem_cons_of_mem _ he,e2⟩)⟩
section
variable {X:Cx}{pins:List (Addr×Obj)}{σ:L2.St}{H:Hp}{s:Shared}
theorem zkQ (I:Inv X pins σ H s)(hex:X.ex=[]){b:Addr}{o:Obj}(e:X.s₀.heap.get? b=some o):∃ o',s.heap.get? b=some o':=I.base.there b o e (by rw [hex];simp)
theorem zdk (I:Inv X pins σ H s)(hex:X.ex=[]){b:Addr}(e:s.heap.get? b=none):X.s₀.heap.get? b=none:=by
 cases q:X.s₀.heap.get? b with
 | none=>rfl
 | some o=>obtain⟨o',h⟩:=zkQ I hex q;rw [e] at h;cases h
theorem zf6 (I:Inv X pins σ H s){b:Addr}(e:s.heap.get? b=none):H b=none:=by
 cases q:H b with
 | none=>rfl
 | some o =>
  have:=(I.hok b o q).lt
  exfalso
  cases o with
  | lst xs=>obtain⟨_,_,_,_,h⟩:=I.hok b _ q;rw [e] at h;cases h
  | tup xs=>obtain⟨_,_,_,ob,h,_⟩:=I.hok b _ q;rw [e] at h;cases h
  | dK kvs=>obtain⟨_,_,_,_,ob,_,_,h,_⟩:=I.hok b _ q;rw [e] at h;cases h
  | dT kvs=>obtain⟨_,_,_,_,ob,_,_,h,_⟩:=I.hok b _ q;rw [e] at h;cases h
  | set S n=>obtain⟨ob,_,_,_,h,_⟩:=I.hok b _ q;rw [e] at h;cases h
  | ins C dx fs=>obtain⟨_,_,_,h,_⟩:=I.hok b _ q;rw [e] at h;cases h
  | own y=>obtain⟨_,h⟩:=I.hok b _ q;rw [e] at h;cases h
  | xd fs=>obtain⟨_,⟨_,_,_,h,_⟩,_⟩:=I.hok b _ q;rw [e] at h;cases h
  | rng lo hi=>obtain⟨_,_,_,h⟩:=I.hok b _ q;rw [e] at h;cases h
  | frz ob u=>obtain⟨h,_⟩:=I.hok b _ q;rw [e] at h;cases h
  | tbl ps=>have h:s.heap.get? b=some _:=I.hok b _ q;rw [e] at h;cases h
  | met f y=>have h:s.heap.get? b=some _:=I.hok b _ q;rw [e] at h;cases h
  | ext φ=>obtain⟨_,⟨_,h⟩,_⟩:=I.hok b _ q;rw [e] at h;cases h
theorem zhk (I:Inv X pins σ H s)(hex:X.ex=[])(hst:X.stack=X.env::X.outer)(hfr:X.env.frame=some X.env.locals){e T0:Addr}{h':Heap}(he:X.s₀.heap.get? e=none)(hT:X.s₀.heap.get? T0=none)(He:H e=none)(HT:H T0=none)
  (hk:∀ b o,s.heap.get? b=some o->b≠e->b≠T0->b∉frs X.stack->h'.get? b=some o) (hs:∀ b∈frs X.stack,∀ o,s.heap.get? b=some o->∃ sl,h'.get? b=some { o with slots:=sl }) :
  Un X.fs [] X.H₀ H X.s₀.heap h'/\HOk X.prog X.w H h':=by
 have nfr:∀ {b:Addr} {o:Obj},X.s₀.heap.get? b=some o->b∉X.fs->b∉frs X.stack:=fun {b o} q n m=>by
  rw [hst] at m
  obtain⟨e',h1,h2⟩:=List.mem_filterMap.mp m
  rcases List.mem_cons.mp h1 with rfl | h1
  ·rw [hfr] at h2
   cases h2
   exact absurd (Heap.lt_size q) (Nat.not_lt.mpr I.ok.above)
  ·exact n (List.mem_filterMap.mpr ⟨e',h1,h2⟩)
 have sub:∀ {b:Addr},b∈X.fs->b∈frs X.stack:=fun {b} m=>by
  obtain⟨e',h1,h2⟩:=List.mem_filterMap.mp m
  rw [hst]
  exact List.mem_filterMap.mpr ⟨e',List.mem_cons_of_mem _ h1,h2⟩
 have nex:∀ b:Addr,b∉X.ex:=fun b=>by rw [hex];simp
 have ne:∀ {b:Addr} {o:Obj},X.s₀.heap.get? b=some o->b≠e/\b≠T0:=fun {b o} q=>⟨fun z=>(by rw [z,he] at q;cases q),fun z=>(by rw [z,hT] at q;cases q)⟩
 have ub:=I.base
 refine⟨⟨fun b o q n m _=>?_,fun b o q n m _=>?_,fun b o q n _=>ub.free b o q n (nex b),fun b o q _=>?_,ub.tups,ub.frzs,ub.tbls⟩,fun a o q=>?_⟩
 ·exact hk b o (ub.keep b o q n m (nex b)) (ne q).1 (ne q).2 (nfr q m)
 ·obtain⟨sl,h1⟩:=ub.slot b o q n m (nex b)
  obtain⟨sl',h2⟩:=hs b (sub m) _ h1
  exact⟨sl',h2⟩
 ·obtain⟨o',h1⟩:=ub.there b o q (nex b)
  by_cases m:b∈frs X.stack
  ·obtain⟨sl,h2⟩:=hs b m o' h1
   exact⟨_,h2⟩
  ·exact⟨o',hk b o' h1 (ne q).1 (ne q).2 m⟩
 ·have inn:∀ {b:Addr},H b≠none->b≠e/\b≠T0/\b∉frs X.stack:=fun {b} n=>⟨fun z=>n (by rw [z];exact He),fun z=>n (by rw [z];exact HT),fun z=>n (I.stkFree b z)⟩
  refine (I.hok a o q).stay (fun b u hb r=>?_) (fun _ r=>r) fun _ _ r=>r
  have n:H b≠none:=by
   rcases hb with rfl | hb
   ·rw [q];exact Option.some_ne_none _
   ·rw [hb];exact Option.some_ne_none _
  obtain⟨n1,n2,n3⟩:=inn n
  exact hk b u r n1 n2 n3
theorem zk8 (I:Inv X pins σ H s)(hex:X.ex=[])(hst:X.stack=X.env::X.outer)(hfr:X.env.frame=some X.env.locals){e C:Addr}{E:Value->Shared->Prop}{Q:Unit->Shared->Prop}(F:Fly X.s₀.heap s.heap e (.ref C) H)
  (hQ:∀ s':Shared,s'.os=X.s₀.os->AllBare s'.gens->Un X.fs [] X.H₀ H X.s₀.heap s'.heap->HOk X.prog X.w H s'.heap->Fly X.s₀.heap s'.heap e (.ref C) H->Q () s'):wpAny (model X.prog X.w) X.A (leaving X.env (.ref e)) Q E s:=by
 obtain⟨he,He,a0,oe,vs,T,oT,ts,f1,f2,f3,f4,f5,f6,f7,f8,f9,HT⟩:=F
 have ff:s.heap.FunFrames X.base X.stack:=I.stack
 obtain⟨p,hp⟩:∃ p:Addr->Bool,∀ b,p b=true↔b≠e/\b≠T/\b∉frs X.stack:=⟨fun b=>decide (b≠e/\b≠T/\b∉frs X.stack),fun b=>decide_eq_true_iff⟩
 have mno:∀ {b:Addr},¬ (b≠e/\b≠T/\b∉frs X.stack)->(zbi s.heap p).get? b=none:=fun {b} n=>by
  rw [zcs,if_neg (fun z=>n ((hp b).mp z))]
 have myes:∀ {b:Addr} {o:Obj},s.heap.get? b=some o->b≠e->b≠T->b∉frs X.stack->(zbi s.heap p).get? b=some o:=fun {b o} q n1 n2 n3=>by
  rw [zcs,if_pos ((hp b).mpr ⟨n1,n2,n3⟩)];exact q
 have fb:s.heap.FunFrames (zbi s.heap p) X.stack:=zfF ff fun L hL=>mno fun z=>z.2.2 hL
 have fl:Heap.FlyingW (zbi s.heap p) X.stack e (.ref C) a0 s.heap:=⟨zeq _ _,mno fun z=>z.1 rfl,fb,oe,vs,T,oT,ts,f1,f2,f3,f4,mno fun z=>z.2.1 rfl,f6,f7,f8,f9⟩
 have fr:=I.ok.frames
 rw [hst] at fr
 rw [hst] at fl
 refine wpAny_leaves_onW fr hfr fl fun h' ⟨k1,k2,k3,oe',vs',T',oT',ts',g1,g2,g3,g4,g5,g6,g7,g8,g9⟩ us=>?_
 have hs:∀ b∈frs X.stack,∀ o,s.heap.get? b=some o->∃ sl,h'.get? b=some { o with slots:=sl }:=fun b hb o q=>by
  obtain⟨_,o',h1,h2⟩:=ff.mem hb
  rw [q] at h1;cases h1
  exact us b o q h2
 have hk:∀ b o,s.heap.get? b=some o->b≠e->b≠T->b∉frs X.stack->h'.get? b=some o:=fun b o q n1 n2 n3=>k1 b o (myes q n1 n2 n3)
 obtain⟨u1,u2⟩:=zhk I hex hst hfr he f5 He HT hk hs
 have nT:X.s₀.heap.get? T'=none/\H T'=none:=by
  by_cases z1:T'=T
  ·rw [z1];exact⟨f5,HT⟩
  ·by_cases z2:T'∈frs X.stack
   ·exfalso
    obtain⟨_,o',h1,h2⟩:=ff.mem z2
    obtain⟨sl,h3⟩:=hs T' z2 o' h1
    rw [g7] at h3;cases h3
    exact h2 ts' g8
   ·have:s.heap.get? T'=none:=by
     cases q:s.heap.get? T' with
     | none=>rfl
     | some o=>rw [myes q g6 z1 z2] at g5;cases g5
    exact⟨zdk I hex this,zf6 I this⟩
 exact hQ _ I.os I.bare u1 u2 ⟨he,He,a0,oe',vs',T',oT',ts',g1,g2,g3,g4,nT.1,g6,g7,g8,g9,nT.2⟩
theorem zj4 (I:Inv X pins σ H s)(hex:X.ex=[])(hst:X.stack=X.env::X.outer)(hfr:X.env.frame=some X.env.locals){e C:Addr}{args:List Value}{h1:Heap}{E:Value->Shared->Prop}{Q:Unit->Shared->Prop}(hx:s.heap.MadeExcOf h1 e (.ref C) args)
  (hQ:∀ s':Shared,s'.os=X.s₀.os->AllBare s'.gens->Un X.fs [] X.H₀ H X.s₀.heap s'.heap->HOk X.prog X.w H s'.heap->Fly X.s₀.heap s'.heap e (.ref C) H->Q () s'):wpAny (model X.prog X.w) X.A (leaving X.env (.ref e)) Q E { s with heap:=h1 }:=by
 have ff:s.heap.FunFrames X.base X.stack:=I.stack
 obtain⟨p,hp⟩:∃ p:Addr->Bool,∀ b,p b=true↔b∉frs X.stack:=⟨fun b=>decide (b∉frs X.stack),fun b=>decide_eq_true_iff⟩
 have mno:∀ {b:Addr},b∈frs X.stack->(zbi s.heap p).get? b=none:=fun {b} n=>by
  rw [zcs,if_neg (fun z=>(hp b).mp z n)]
 have myes:∀ {b:Addr} {o:Obj},s.heap.get? b=some o->b∉frs X.stack->(zbi s.heap p).get? b=some o:=fun {b o} q n3=>by
  rw [zcs,if_pos ((hp b).mpr n3)];exact q
 have fb:s.heap.FunFrames (zbi s.heap p) X.stack:=zfF ff fun L hL=>mno hL
 have fr:=I.ok.frames
 rw [hst] at fr
 rw [hst] at fb
 refine wpAny_leaves_madeW (base:=zbi s.heap p) (h:=s.heap) fr hfr (zeq _ _) fb hx fun h' t ⟨k1,k2,k3,oe',vs',T',oT',ts',g1,g2,g3,g4,g5,g6,g7,g8,g9⟩ _ _ us=>?_
 have us':s.heap.UpToSlots h':=fun b o q n=>us b o (hx.keeps b o q) n
 have hs:∀ b∈frs X.stack,∀ o,s.heap.get? b=some o->∃ sl,h'.get? b=some { o with slots:=sl }:=fun b hb o q=>by
  obtain⟨_,o',h1,h2⟩:=ff.mem hb
  rw [q] at h1;cases h1
  exact us' b o q h2
 have hk:∀ b o,s.heap.get? b=some o->b≠e->b≠e->b∉frs X.stack->h'.get? b=some o:=fun b o q _ _ n3=>k1 b o (myes q n3)
 have he:=zdk I hex hx.new
 have He:=zf6 I hx.new
 obtain⟨u1,u2⟩:=zhk I hex hst hfr he he He He hk hs
 have nT:X.s₀.heap.get? T'=none/\H T'=none:=by
  by_cases z2:T'∈frs X.stack
  ·exfalso
   obtain⟨_,o',h1,h2⟩:=ff.mem z2
   obtain⟨sl,h3⟩:=hs T' z2 o' h1
   rw [g7] at h3;cases h3
   exact h2 ts' g8
  ·have:s.heap.get? T'=none:=by
    cases q:s.heap.get? T' with
    | none=>rfl
    | some o=>rw [myes q z2] at g5;cases g5
   exact⟨zdk I hex this,zf6 I this⟩
 exact hQ _ I.os I.bare u1 u2 ⟨he,He,_,oe',vs',T',oT',ts',g1,g2,g3,g4,nT.1,g6,g7,g8,g9,nT.2⟩
end
def zbo (K:PySem.W.Frag)(f:zbL):Sp:=fun vs H Q E=>∃ ad S ds Q0 X0,@zL ⟨ad,H⟩ K ad H S/\zG K ad H ds vs/\f ds S Q0 X0/\@KK ⟨ad,H⟩ K ad H Q0 Q /\
 ∀ (c:Str) (C:Addr) (S':Sto) (ad':List Addr) (H':Hp),X0 c S'->@zL ⟨ad,H⟩ K ad' H' S'->PySem.W.nsIn K mainGlobals c=some (some (.ref C))->E (.ref C) none H'
structure zeH (P:Program)(w:World)(K:PySem.W.Frag)(mg:Str->Option Value)(base:Heap)(k:Nat)(x:Str)(ps:List Str)(sp:Sp):Prop where
 ex:∃ f fd,zY P w K mg base (CXd P w) k f fd ps sp/\Binds K fd ps []/\PySem.W.keepIn K (.ref f)=true/\mg x=some (.ref f)
def XOk [B:Bs](X:Cx)(ex:XR):Prop:=∀ (pins:List (Addr×Obj)) (σ:L2.St) (H:Hp) (s s':Shared) (ad ad':List Addr) (ρ:Rho) (S S':Sto) (c:Str) (C a:Addr) (H':Hp),Inv X pins σ H s->zL X.K ad H S->zag X.K ad H ρ σ->ex ρ c S'->zL X.K ad' H' S'->Wd ad H ad' H' ->
 PySem.W.nsIn X.K mainGlobals c=some (some (.ref C))->s'.os=s.os->AllBare s'.gens->Un (frs X.stack) [] H H' s.heap s'.heap->HOk X.prog X.w H' s'.heap->Fly s.heap s'.heap a (.ref C) H'->X.xe (.ref a) s'
def XMk [B:Bs](X:Cx)(ex:XR):Prop:=∀ (pins:List (Addr×Obj)) (σ:L2.St) (H:Hp) (s:Shared) (ad:List Addr) (ρ:Rho) (S:Sto) (c:Str) (C e:Addr) (args:List Value) (h1:Heap),Inv X pins σ H s->zL X.K ad H S->zag X.K ad H ρ σ->ex ρ c S ->
 PySem.W.nsIn X.K mainGlobals c=some (some (.ref C))->s.heap.MadeExcOf h1 e (.ref C) args->X.xe (.ref e) { s with heap:=h1 }
section
variable [B:Bs]{X:Cx}
theorem zcx {k j:Nat}{x:Str}{ps:List Str}{f:zbL}{ex:XR}{p pos:Pos}{e:Expr}{es:List Expr}{t:DA}(G:zeH X.prog X.w X.K X.mg X.base k x ps (zbo X.K f))(hX:XOk X ex)(hr:zap j X.A)
  (ha:PAD X (e::es) t) (hk:k<=j:=by decide) (hg:Gl X x:=by rfl) (hdb:(x==("__debug__":Str))=false:=by decide) (he:starEach (e::es) X.env=(false,eval e X.env)::starEach es X.env:=by exact zaH rfl) (hpl:(backTo pos (starEach es X.env)).any (·.1)=false:=by exact zbO rfl) :
  PD X (.Call (.Name x p) (e::es) [] pos) (zbS f ex t):=by
 with_unfolding_all
  intro pins s σ H Q I h
  obtain⟨ad,ρ,S,Q0,st,rh,q,kk⟩:=h
  obtain⟨fa,fd,F,b,kp,m⟩:=G.ex
  have F:=F.mono hk
  refine wpAny_Call_Name_kw (zcB I hg m ?_ hdb)
  have hA:=ha pos pins s σ H (fun vs H1=>∃ ds S1 ad1,f ds S1 Q0 (ex ρ)/\Wd ad H ad1 H1/\zL X.K ad1 H1 S1/\zG X.K ad1 H1 ds vs) I ⟨ad,ρ,S,_,st,rh,q,fun ds S1 vs H1 ad1 q1 w1 st1 r1=>⟨ds,S1,ad1,q1,w1,st1,r1⟩⟩
  refine PySem.W.callWith_K (h₀:=X.base) I.ok.mod.kin kp (thn hA fun us s1 ⟨vs,H1,I1,r,q1⟩=>⟨I1.kIn,?_⟩) he hpl
  obtain⟨ds,S1,ad1,q1,w1,st1,r1⟩:=q1
  have hsp:zbo X.K f vs H1 Q (fun cls _ H'=>∃ c C S' ad',cls=Value.ref C/\ex ρ c S'/\zL X.K ad' H' S'/\Wd ad1 H1 ad' H'/\PySem.W.nsIn X.K mainGlobals c=some (some (.ref C))) :=
   ⟨ad1,S1,ds,Q0,ex ρ,st1.base,r1,q1,(kk.wd w1).base st1,fun c C S' ad' H' hx st' hn=>⟨c,C,S',ad',rfl,hx,st1.back st',@zL.wd ⟨ad1,H1⟩ _ _ _ _ st',hn⟩⟩
  have hl:us.length=ps.length:=by rw [<- r.length];exact F.len _ _ _ _ hsp
  refine wpAny_call (codeAny_mono (F.run X.A X.stack s1 H1 ⟨us,[]⟩ us vs Q _ hr I1.env0 (by have:=b s1 us I1.kIn (by rw [List.append_nil];exact hl);rwa [List.append_nil] at this) r hsp) fun res s' hq=>?_)
  cases res with
  | error e =>
   obtain⟨a,C,H',rfl,os,bare,un,hok,fly,c,C',S',ad',hC,hx,st',wd',hn⟩:=hq
   cases hC
   exact hX pins σ H1 s1 s' ad1 ad' ρ S1 S' c C a H' I1 st1 (rh.wd w1) hx st' wd' hn os bare un hok fly
  | ok fl =>
   cases fl with
   | ret u=>exact I1.after hq
   | next=>exact False.elim hq
   | brk=>exact False.elim hq
   | cont=>exact False.elim hq
theorem zqp:XOk X xF:=fun _ _ _ _ _ _ _ _ _ _ _ _ _ _ _ _ _ h=>h.elim
structure ExC (K:PySem.W.Frag)(C:Addr):Prop where
 ex:∃ nm q N bs bm hdct sn sub ab col dd k0 k1 k2 k3 k5,K.lookup C=some (excClassObj nm q C N bs bm hdct sn sub ab col dd k0 k1 k2 k3 k5 "ValueError.__new__")/\PySem.W.nsOkIn K N=true/\PySem.W.nsIn K N "__init__"=some none /\
  PySem.W.tailIn K [.type "ValueError",.type "Exception",.type "BaseException",.type "object"] bm=true
theorem zaY {x:Str}{ex:XR}{np cpos pos:Pos}{e:Expr}{t:DA}(hX:XMk X ex)(hc:X.calm=true)(hC:∀ C,PySem.W.nsIn X.K mainGlobals x=some (some (.ref C))->ExC X.K C)(hx:∃ C,PySem.W.nsIn X.K mainGlobals x=some (some (.ref C))/\X.mg x=some (.ref C))(hg:Gl X x)
  (ha:PAD X [e] t) (ht:∀ ρ S Q,(∀ d,Q [d] S)->t ρ S Q) (hdb:(x==("__debug__":Str))=false:=by decide) (he:starEach [e] X.env=(false,eval e X.env)::starEach [] X.env:=by rfl) :
  PSD X (.Raise (some (.Call (.Name x np) [e] [] cpos)) none pos) (zbD ex x):=by
 with_unfolding_all
  intro pins s σ H D I h
  obtain⟨ad,ρ,S,E0,st,rh,q,k⟩:=h
  obtain⟨C,hn,hm⟩:=hx
  obtain⟨nm,qn,N,bs,bm,hdct,sn,sub,ab,col,dd,k0,k1,k2,k3,k5,lk,no,ni,tl⟩:=(hC C hn).ex
  have kin:=I.kIn
  have T:=PySem.W.tail_of_in kin tl
  have hv:=ha cpos pins s σ H (fun vs H1=>vs.length=1/\∃ ad1,Wd ad H ad1 H1/\zL X.K ad1 H1 S) I ⟨ad,ρ,S,fun ds S'=>ds.length=1/\S'=S,st,rh,ht _ _ _ (fun d=>⟨rfl,rfl⟩),fun ds S' vs H' ad' e' w' st' r'=>⟨by rw [<- r'.length];exact e'.1,ad',w',e'.2▸st'⟩⟩
  refine wpAny_Raise_call_subT (C:=C) (nm:=nm) (q:=qn) (N:=N) (bs:=bs) (bm:=bm) (hdct:=hdct) (sn:=sn) (sub:=sub) (ab:=ab) (col:=col) (dd:=dd) (k0:=k0) (k1:=k1) (k2:=k2) (k3:=k3) (k5:=k5) PySem.F.excBase_ValueError (T.hasType PySem.F.excBase_ValueError.hasBase) (I.ok.hd hc) (by rw [he];rfl) (PySem.W.nsMap_none_of_in I.ok.mod.kin no ni) (zcB I hg hm ⟨rfl,?_⟩ hdb)
  rw [he] at hv ⊢
  refine Calls.evalArgs_plain (wpAny_mono hv (fun us s1 hq=>?_) fun _ _ y=>y)
  obtain⟨vs,H1,I1,r,hl,ad1,w1,st1⟩:=hq
  have k1':=I1.kIn
  have hlen:us.length<=sizeLine:=by rw [<- r.length,hl];decide
  exact⟨rfl,hlen,k1' _ _ lk,(Heap.Ns.of_isNs (PySem.W.isNs_of_in I.ok.mod.kin no)).keeps I1.bk,PySem.W.tail_of_in k1' tl,fun h' e' hx=>hX pins σ H1 s1 ad1 ρ S x C e' us h' I1 st1 (rh.wd w1) q hn hx⟩
abbrev nxX (X:Cx):Cx:={ X with xe:=fun _ _=>False }
omit B in
theorem zpb {pins:List (Addr×Obj)}{σ:L2.St}{H:Hp}{s:Shared}(I:Inv X pins σ H s):Inv (nxX X) pins σ H s :=
 ⟨⟨I.ok.mod,I.ok.kind,I.ok.glob,I.ok.blt,I.ok.above,I.ok.inj,I.ok.has,I.ok.cab,I.ok.hd,I.ok.frames,I.ok.stk,I.ok.exf,I.ok.bs,I.ok.bsz,I.ok.noex,I.ok.exfs,I.ok.funs,I.ok.frf⟩,I.os,I.bare,I.base,I.loc,I.cell,I.free,I.freeC,I.pin,I.hok,I.len⟩
omit B in
theorem zlr {pins:List (Addr×Obj)}{σ:L2.St}{H:Hp}{s:Shared}(I:Inv (nxX X) pins σ H s):Inv X pins σ H s :=
 ⟨⟨I.ok.mod,I.ok.kind,I.ok.glob,I.ok.blt,I.ok.above,I.ok.inj,I.ok.has,I.ok.cab,I.ok.hd,I.ok.frames,I.ok.stk,I.ok.exf,I.ok.bs,I.ok.bsz,I.ok.noex,I.ok.exfs,I.ok.funs,I.ok.frf⟩,I.os,I.bare,I.base,I.loc,I.cell,I.free,I.freeC,I.pin,I.hok,I.len⟩
theorem zef {e:Expr}{t:DE}(h:PD (nxX X) e t):PD X e t:=by with_unfolding_all exact (fun pins s σ H Q I q =>
 wpAny_mono (h pins s σ H Q (zpb I) q) (fun v s1 ⟨x,H1,I1,r⟩=>⟨x,H1,zlr I1,r⟩) fun _ _ z=>z.elim)
structure zjG (P:Program)(w:World)(K:PySem.W.Frag)(mg:Str->Option Value)(base:Heap)(k:Nat)(x c:Str)(init:zbL):Prop where
 ex:∃ (C f:Addr) (fd:FuncData) (ps:List Str),Mk K C f/\zY P w K mg base (CXd P w) k f fd ps (zbo K init)/\Binds K fd ps []/\mg x=some (.ref C)/\Cls K C/\PySem.W.nsIn K mainGlobals c=some (some (.ref C))
theorem zmV {k j:Nat}{x c:Str}{init:zbL}{ex:XR}{p pos:Pos}{e:Expr}{es:List Expr}{t:DA}(G:zjG X.prog X.w X.K X.mg X.base k x c init)(hX:XOk X ex)(hr:zap j X.A)
  (ha:PAD X (e::es) t) (hk:k+1<=j:=by decide) (hg:Gl X x:=by rfl) (hdb:(x==("__debug__":Str))=false:=by decide) (he:starEach (e::es) X.env=(false,eval e X.env)::starEach es X.env:=by exact zaH rfl) (hpl:(backTo pos (starEach es X.env)).any (·.1)=false:=by exact zbO rfl) :
  PD X (.Call (.Name x p) (e::es) [] pos) (zbS (zh3 c init) ex t):=by
 with_unfolding_all
  intro pins s σ H Q I h
  obtain⟨ad,ρ,S,Q0,st,rh,q,kk⟩:=h
  obtain⟨C,fa,fd,ps,M,F,b,m,hcl,hcn⟩:=G.ex
  have hr':=hr.mono hk
  refine wpAny_Call_Name_kw (zcB I hg m ?_ hdb)
  have hA:=ha pos pins s σ H (fun vs H1=>∃ ds S1 ad1,zh3 c init ds S1 Q0 (ex ρ)/\Wd ad H ad1 H1/\zL X.K ad1 H1 S1/\zG X.K ad1 H1 ds vs) I ⟨ad,ρ,S,_,st,rh,q,fun ds S1 vs H1 ad1 q1 w1 st1 r1=>⟨ds,S1,ad1,q1,w1,st1,r1⟩⟩
  refine PySem.W.callWith_K (h₀:=X.base) I.ok.mod.kin M.kp (thn hA fun us s1 ⟨vs,H1,I1,r,q1⟩=>⟨I1.kIn,?_⟩) he hpl
  obtain⟨ds,S1,ad1,q1,w1,st1,r1⟩:=q1
  have f1:H1 (s1.heap.objs.size+1)=none:=I1.hok.fresh (Nat.le_succ _)
  have f2:H1 s1.heap.objs.size=none:=I1.hok.fresh (Nat.le_refl _)
  have f3:s1.heap.objs.size≠s1.heap.objs.size+1:=Nat.ne_of_lt (Nat.lt_succ_self _)
  obtain⟨w2,st2⟩:=st1.newI (c:=c) f1 f2 f3 hcl hcn
  have I2:=Inv.made (C:=C) I1
  generalize hx0:s1.heap.objs.size+1=x0 at *
  generalize hH2:upd (upd H1 s1.heap.objs.size (.own x0)) x0 (.ins C s1.heap.objs.size [])=H2 at *
  have rx:Rel X.K (ad1++[x0]) H2 (.ref S1.length) (.ref x0):=.ref (by rw [<- st1.len,List.getElem?_append_right (Nat.le_refl _),Nat.sub_self];rfl)
  have q2:init (.ref S1.length::ds) (S1++[.ins c []]) (fun d S2=>d=.non/\Q0 (.ref S1.length) S2) (ex ρ):=q1
  have hsp:zbo X.K init (.ref x0::vs) H2 (fun v H3=>v=.non/\Q (.ref x0) H3) (fun cls _ H'=>∃ c C S' ad',cls=Value.ref C/\ex ρ c S'/\zL X.K ad' H' S'/\Wd (ad1++[x0]) H2 ad' H'/\PySem.W.nsIn X.K mainGlobals c=some (some (.ref C))) :=
   ⟨ad1++[x0],S1++[.ins c []],.ref S1.length::ds,_,ex ρ,st2.base,.cons rx (r1.wd w2),q2,fun d S' v H' ad' hq w' st' rv=>by
    obtain⟨rfl,hq⟩:=hq
    cases rv
    exact⟨rfl,kk _ S' _ H' ad' hq ((w1.trans w2).trans w') (st2.back st') (rx.wd w')⟩,fun c C S' ad' H' hx st' hn=>⟨c,C,S',ad',rfl,hx,st2.back st',@zL.wd ⟨ad1++[x0],H2⟩ _ _ _ _ st',hn⟩⟩
  have r2:Vals (V.ref x0::vs) (Value.ref x0::us):=.cons rfl r
  have hl:(Value.ref x0::us).length=ps.length:=by rw [<- r2.length];exact F.len _ _ _ _ hsp
  have hb:=b _ (Value.ref x0::us) I2.kIn (by rw [List.append_nil];exact hl)
  rw [List.append_nil] at hb
  subst hx0
  refine wpAny_call (ziJ (f:=fa) I1.kIn M.makes M.init (beq_iff_eq.mp M.fn) (codeAny_mono (F.run _ X.stack _ H2 ⟨Value.ref (s1.heap.objs.size+1)::us,[]⟩ (Value.ref (s1.heap.objs.size+1)::us) _ _ _ (hr'.make C us [])
   (I2.env0.make C us []) hb r2 hsp) fun res s' hq=>?_))
  cases res with
  | error e =>
   obtain⟨a,C',H',rfl,os,bare,un,hok,fly,c',C'',S',ad',hC,hx,st',wd',hn⟩:=hq
   cases hC
   exact hX pins σ H2 _ s' (ad1++[s1.heap.objs.size+1]) ad' ρ (S1++[.ins c []]) S' c' C' a H' I2 st2 ((rh.wd w1).wd w2) hx st' wd' hn os bare un hok fly
  | ok fl =>
   cases fl with
   | ret u =>
    obtain⟨v,H',I3,rv,ev,q3⟩:=I2.after hq
    subst ev
    exact⟨rv,⟨V.ref (s1.heap.objs.size+1),H',I3,rfl,q3⟩⟩
   | next=>exact False.elim hq
   | brk=>exact False.elim hq
   | cont=>exact False.elim hq
omit B in
theorem zbY {P:Program}{w:World}{K:PySem.W.Frag}{mg:Str->Option Value}{base:Heap}{x qual:Str}{st:Stmt}{f:Addr}{fd:FuncData}{N ps:List Str}{k:Nat}{sp:zbL}{b:XR->DS}(F:Fun K x qual st f fd)(S:zT N ps (zK st))
  (len:∀ ds So Q ex,sp ds So Q ex->ds.length=ps.length) (body:zb7 N.length b sp)
  (term:∀ (cdv:Value) (A:Around) (outer:List Env) (s:Shared) (H:Hp) (E:XK),zap k (A.deeper (envOfC qual (zK st) s.heap.objs.size f cdv))->∀ [Bs] (ex:XR),XOk (zd5 (CXd P w) P w K mg base N qual (zK st) f cdv A outer s H E) ex->XMk (zd5 (CXd P w) P w K mg base N qual (zK st) f cdv A outer s H E) ex->zdv (zd5 (CXd P w) P w K mg base N qual (zK st) f cdv A outer s H E) (zaD st) (b ex)) :
  zY P w K mg base (CXd P w) (k+1) f fd ps (zbo K sp):=by
 with_unfolding_all
  obtain⟨oc,od,kV,doc,pm,an,cdv,ct,osl,rfl,lk,hcd⟩:=F.ex
  refine zmr lk hcd S (fun vs H Q E ⟨ad,So,ds,Q0,X0,so,r,hf,kk,kx⟩=>by rw [<- r.length];exact len ds So Q0 X0 hf) fun A outer s H vs Q E hr ⟨ad,So,ds,Q0,X0,so,r,hf,kk,kx⟩=>?_
  letI:Bs:=⟨ad,H⟩
  have end1:∀ (c:Str) (C a:Addr) (S':Sto) (ad':List Addr) (H':Hp) (s':Shared),X0 c S'->zL K ad' H' S'->PySem.W.nsIn K mainGlobals c=some (some (.ref C))->s'.os=s.os->AllBare s'.gens->Un (frs outer) [] H H' s.heap s'.heap->HOk P w H' s'.heap->Fly s.heap s'.heap a (.ref C) H'->CXd P w outer H s E (.ref a) s' :=
   fun c C a S' ad' H' s' hx st' hn o1 o2 o3 o4 o5=>⟨a,C,H',rfl,o1,o2,o3,o4,o5,kx c C S' ad' H' hx st' hn⟩
  refine⟨_,term cdv A outer s H E hr (fun _=>X0) ?_ ?_,ad,zdm N.length ds,So,_,so,zh1 N r,body ds So Q0 X0 hf,⟨fun ρ S' σ H' ad' q w' st' rh=>zgl so kk .non S' .non H' ad' q w' st' .non,zgl so kk,fun _ _ _ _ _ q=>q.elim,fun _ _ _ _ _ q=>q.elim⟩⟩
  ·intro pins σ H1 s1 s' ad1 ad' ρ S1 S' c C a H' I st1 rh hx st' wd' hn os bare un hok fly
   have I':=I.call' (ch:=[]) os un hok bare (fun b z=>absurd z (by simp))
   have f0:Fly s.heap s'.heap a (.ref C) H':=by
    obtain⟨g1,g2,a0,oe,vs,T,oT,ts,h1,h2,h3,h4,h5,h6⟩:=fly
    exact⟨zdk I rfl g1,g2,a0,oe,vs,T,oT,ts,h1,h2,h3,h4,zdk I rfl h5,h6⟩
   exact zk8 I' rfl rfl rfl f0 fun s'' o1 o2 o3 o4 o5=>end1 c C a S' ad' H' s'' hx st' hn o1 o2 o3 o4 o5
  ·intro pins σ H1 s1 ad1 ρ S1 c C e args h1 I st1 rh hx hn hmade
   exact zj4 I rfl rfl rfl hmade fun s'' o1 o2 o3 o4 o5=>end1 c C e S1 ad1 H1 s'' hx st1 hn o1 o2 o3 o4 o5
end
abbrev hand (X:Cx)(e:Addr):Cx:={ X with A:=X.A.mark (some (.ref e)),calm:=false,xe:=fun _ _=>False }
section
variable {X:Cx}{pins:List (Addr×Obj)}{σ:L2.St}{H H':Hp}{s s':Shared}
theorem zit (I:L2.Inv X pins σ H s)(e:Addr):L2.Inv (hand X e) pins σ H s :=
 ⟨⟨I.ok.mod,I.ok.kind,I.ok.glob,I.ok.blt,I.ok.above,I.ok.inj,I.ok.has,I.ok.cab,(fun z=>nomatch z),I.ok.frames,I.ok.stk,I.ok.exf,I.ok.bs,I.ok.bsz,I.ok.noex,I.ok.exfs,I.ok.funs,I.ok.frf⟩,I.os,I.bare,I.base,I.loc,I.cell,I.free,I.freeC,I.pin,I.hok,I.len⟩
theorem zgH {e:Addr}(hd:X.calm=true->X.A.handled=none)(I:L2.Inv (hand X e) pins σ H s):L2.Inv X pins σ H s :=
 ⟨⟨I.ok.mod,I.ok.kind,I.ok.glob,I.ok.blt,I.ok.above,I.ok.inj,I.ok.has,I.ok.cab,hd,I.ok.frames,I.ok.stk,I.ok.exf,I.ok.bs,I.ok.bsz,I.ok.noex,I.ok.exfs,I.ok.funs,I.ok.frf⟩,I.os,I.bare,I.base,I.loc,I.cell,I.free,I.freeC,I.pin,I.hok,I.len⟩
theorem zjk (I:L2.Inv X pins σ H s)(un:Un (frs X.stack) [] H H' s.heap s'.heap)(hok:HOk X.prog X.w H' s'.heap){e T:Addr}{h2:Heap}{oe:Obj}(he:s.heap.get? e=none)(hT:s.heap.get? T=none)(He:H' e=none)(HT:H' T=none)
  (stkF:∀ b∈frs X.stack,H' b=none)
  (hk:∀ b o,s'.heap.get? b=some o->b≠e->b≠T->b∉frs X.stack->h2.get? b=some o) (hs:∀ b∈frs X.stack,∀ o,s'.heap.get? b=some o->∃ sl,h2.get? b=some { o with slots:=sl }) (hoe:h2.get? e=some oe) :
  Un (frs X.stack) [] H (upd H' e (.frz oe (.ext fun _=>True))) s.heap h2/\HOk X.prog X.w (upd H' e (.frz oe (.ext fun _=>True))) h2:=by
 have ne:∀ {b:Addr} {o:Obj},s.heap.get? b=some o->b≠e/\b≠T:=fun {b o} q=>⟨fun z=>(by rw [z,he] at q;cases q),fun z=>(by rw [z,hT] at q;cases q)⟩
 have ne':∀ {b:Addr} {u:HO},H' b=some u->b≠e:=fun {b u} q z=>by rw [z,He] at q;cases q
 refine⟨⟨fun b o q n m x=>?_,fun b o q n m x=>?_,fun b o q n x=>?_,fun b o q x=>?_,fun b xs q=>?_,fun b o u q=>?_,fun b ps q=>?_⟩,fun a o q=>?_⟩
 ·exact hk b o (un.keep b o q n m x) (ne q).1 (ne q).2 m
 ·obtain⟨sl,h1⟩:=un.slot b o q n m x
  obtain⟨sl',h3⟩:=hs b m _ h1
  exact⟨sl',h3⟩
 ·rw [zW (ne q).1];exact un.free b o q n x
 ·obtain⟨o',h1⟩:=un.there b o q x
  by_cases m:b∈frs X.stack
  ·obtain⟨sl,h3⟩:=hs b m o' h1
   exact⟨_,h3⟩
  ·exact⟨o',hk b o' h1 (ne q).1 (ne q).2 m⟩
 ·have:=un.tups b xs q
  rw [zW (ne' this)];exact this
 ·have:=un.frzs b o u q
  rw [zW (ne' this)];exact this
 ·obtain⟨more,h1⟩:=un.tbls b ps q
  exact⟨more,by rw [zW (ne' h1)];exact h1⟩
 ·by_cases ha:a=e
  ·subst ha
   rw [zaP] at q
   cases q
   exact⟨hoe,True.intro,⟨oe,hoe⟩,fun _ _ _ _=>True.intro⟩
  ·rw [zW ha] at q
   refine (hok a o q).stay (fun b u hb r=>?_) (fun b r=>by rw [zW (ne' r)];exact r) fun b xs r=>by rw [zW (ne' r)];exact r
   have n:H' b≠none:=by
    rcases hb with rfl | hb
    ·rw [q];exact Option.some_ne_none _
    ·rw [hb];exact Option.some_ne_none _
   exact hk b u r (fun z=>n (by rw [z];exact He)) (fun z=>n (by rw [z];exact HT)) (fun z=>n (stkF b z))
theorem name_goes {M:Model}{A:Around}{E:Value->Shared->Prop}{i:Nat}{x:Str}{pos:Pos}{Q:Unit->Shared->Prop}(I:L2.Inv X pins σ H s)(hN:X.N.Nodup)(hi:X.N[i]?=some x)(hx:X.env.scope.names.lookup x=some .local)
    (h:∀ s',L2.Inv X pins (σ.set i none) H s'->Q () s'):wpAny M A (do bindName X.env x .none;unbindBehindTheSuite X.env x pos) Q E s:=by
  obtain⟨m,hn,hl⟩:=id I.loc
  have lo:∀ {b:Addr} {o:Obj},X.s₀.heap.get? b=some o->b≠X.env.locals:=fun {b o} e=>Nat.ne_of_lt (Nat.lt_of_lt_of_le (Heap.lt_size e) I.ok.above)
  refine wpAny_nameGoes_keeps hx hn (by rw [I.ok.kind];rfl) fun h' v hn' hs=>h _ ⟨I.ok,I.os,I.bare,⟨fun b o e n hb hx=>(hs.2 b (lo e)).trans (I.base.keep b o e n hb hx),fun b o e n hb hx=>?_,I.base.free,fun b o e hx=>?_,I.base.tups,I.base.frzs,I.base.tbls⟩,⟨_,hn',fun j y w e1 e2 e3=>?_⟩,fun y c e=>?_,I.free,I.freeC,fun p hp=>?_,fun a o e=>?_,?_⟩
  · obtain⟨sl,e1⟩:=I.base.slot b o e n hb hx
    exact⟨sl,(hs.2 b (lo e)).trans e1⟩
  · obtain⟨o',e1⟩:=I.base.there b o e hx
    exact⟨o',(hs.2 b (lo e)).trans e1⟩
  · have hj : j ≠ i := fun z => by
      subst z
      rw [List.getElem?_set] at e2
      split at e2
      · split at e2<;>cases e2
      · exact absurd rfl ‹_›
    rw [List.getElem?_set_ne (Ne.symm hj)] at e2
    obtain⟨u',r',q⟩:=hl j y w e1 e2 e3
    refine⟨u',r',?_⟩
    rcases q with ⟨k,e⟩ | ⟨k,c,e,z⟩
    · refine .inl ⟨k,?_⟩
      have:y≠x:=fun e=>hj (zf1 hN e1 (e▸hi))
      simp [this,e]
    · exact .inr ⟨k,c,e,z.sameBut hs (I.cne y c e)⟩
  · obtain⟨w,z⟩:=I.cell y c e
    exact⟨w,z.sameBut hs (I.cne y c e)⟩
  · obtain⟨e,n,ne,nf,d⟩:=I.pin p hp
    exact⟨(hs.2 p.1 ne).trans e,n,ne,nf,d⟩
  · refine (I.hok a o e).stay (fun c w hc q=>(hs.2 c ?_).trans q) (fun _ q=>q) fun _ _ q=>q
    rintro rfl
    rcases hc with rfl | hc
    · rw [I.free] at e;cases e
    · rw [I.free] at hc;cases hc
  · rw [List.length_set];exact I.len
variable [B:Bs]
theorem zag.unset {K:PySem.W.Frag}{ad:List Addr}{H:Hp}{ρ:Rho}{σ:L2.St}(h:zag K ad H ρ σ)(i:Nat):zag K ad H (ρ.set i none) (σ.set i none):=by
  refine⟨by rw [List.length_set,List.length_set];exact h.len,fun j d e=>?_⟩
  rw [List.getElem?_set] at e
  split at e
  · split at e<;>cases e
  · rename_i hj
    obtain⟨v,ev,r⟩:=h.val j d e
    exact⟨v,by rw [List.getElem?_set_ne hj];exact ev,r⟩
abbrev zkj (X:Cx)(xe:Value->Shared->Prop)(pn:List (Addr×Obj)):Cx:={ X with xe:=xe,pn:=pn }
omit B in
theorem znn (I:L2.Inv X pins σ H s)(xe:Value->Shared->Prop):L2.Inv (zkj X xe (X.pn++pins)) [] σ H s :=
 ⟨⟨I.ok.mod,I.ok.kind,I.ok.glob,I.ok.blt,I.ok.above,I.ok.inj,I.ok.has,I.ok.cab,I.ok.hd,I.ok.frames,I.ok.stk,I.ok.exf,I.ok.bs,I.ok.bsz,I.ok.noex,I.ok.exfs,I.ok.funs,I.ok.frf⟩,I.os,I.bare,I.base,I.loc,I.cell,I.free,I.freeC,fun p hp=>I.pin p (by rwa [List.append_nil] at hp),I.hok,I.len⟩
omit B in
theorem zdn {xe:Value->Shared->Prop}{pins':List (Addr×Obj)}(I:L2.Inv (zkj X xe (X.pn++pins)) pins' σ H s):L2.Inv X pins σ H s :=
 ⟨⟨I.ok.mod,I.ok.kind,I.ok.glob,I.ok.blt,I.ok.above,I.ok.inj,I.ok.has,I.ok.cab,I.ok.hd,I.ok.frames,I.ok.stk,I.ok.exf,I.ok.bs,I.ok.bsz,I.ok.noex,I.ok.exfs,I.ok.funs,I.ok.frf⟩,I.os,I.bare,I.base,I.loc,I.cell,I.free,I.freeC,fun p hp=>I.pin p (List.mem_append_left _ hp),I.hok,I.len⟩
theorem zdl.base {K:PySem.W.Frag}{ad:List Addr}{H:Hp}{S:Sto}{E0:zhP}{E:Ends}(st:zL K ad H S)(k:zdl K ad H E0 E):@zdl ⟨ad,H⟩ K ad H E0 E :=
 @zdl.mk ⟨ad,H⟩ _ _ _ _ _ (fun ρ S σ H' ad' q w st' r=>k.nx ρ S σ H' ad' q w (st.back st') r) (k.rt.base st) (fun ρ S σ H' ad' q w st' r=>k.bk ρ S σ H' ad' q w (st.back st') r) (fun ρ S σ H' ad' q w st' r=>k.ct ρ S σ H' ad' q w (st.back st') r)
theorem znh {i:Nat}{x cls:Str}{ok:List Str}{b:XR->DS}{h:DS}{body:List Stmt}{b0:Stmt}{suite:List Stmt}{np hpos pos:Pos}(hst:X.stack=X.env::X.outer)(hfr:X.env.frame=some X.env.locals)(hN:X.N.Nodup)(hi:X.N[i]?=some x)(hx:X.env.scope.names.lookup x=some .local)(hg:Gl X cls)
  (hcls:∃ Cc,X.mg cls=some (.ref Cc)/\∀ c C,ok.contains c=true->PySem.W.nsIn X.K mainGlobals c=some (some (.ref C))->PySem.W.exmOne X.K (.ref C) (.ref Cc)=some true)
  (hb:∀ [Bs] (xe:Value->Shared->Prop) (pn:List (Addr×Obj)) (ex:XR),XOk (zkj X xe pn) ex->zdv (zkj X xe pn) body (b ex)) (hh:∀ e,zdv (hand X e) (b0::suite) h) (hdb:(cls==("__debug__":Str))=false:=by decide) :
  PSD X (.Try body [.ExceptHandler (some (.Name cls np)) (some x) (b0::suite) hpos] [] [] pos) (zlB i ok b h):=by
 with_unfolding_all
  intro pins s σ H D I hq
  obtain⟨ad,ρ,S,E0,st,rh,q,k⟩:=hq
  obtain⟨Cc,hm,hexm⟩:=hcls
  refine wpAny_Try_except ?_
  have hbody:=@hb ⟨ad,H⟩ (fun e s₁=>wpAny (model X.prog X.w) X.A (noteFrame e X.env) (fun _ s₂=>wpAny (model X.prog X.w) X.A (setFlight e none) (fun _ s₃=>wpAny (model X.prog X.w) X.A (handleBy e X.env [.ExceptHandler (some (.Name cls np)) (some x) (b0::suite) hpos]) (SP X pins D) X.xe s₃) X.xe s₂) X.xe s₁) (X.pn++pins)
   (fun ρ' c S'=>ok.contains c=true/\h { nx:=fun ρ2 S2=>E0.nx (ρ2.set i none) S2,rt:=E0.rt,bk:=fun _ _=>False,ct:=fun _ _=>False } (ρ'.set i (some (.exn c))) S') ?hX
  ·refine wpAny_mono (hbody [] s σ H D (znn I _) ⟨ad,ρ,S,E0,st.base,rh,q,k.base st⟩) (fun f s₁ hf=>?_) fun _ _ z=>z
   cases f with
   | next=>obtain⟨σ',H',I',q'⟩:=hf;exact wpAny_execs_nil ⟨σ',H',zdn I',q'⟩
   | brk=>obtain⟨σ',H',I',q'⟩:=hf;exact⟨σ',H',zdn I',q'⟩
   | cont=>obtain⟨σ',H',I',q'⟩:=hf;exact⟨σ',H',zdn I',q'⟩
   | ret u=>obtain⟨v,σ',H',I',r,q'⟩:=hf;exact⟨v,σ',H',zdn I',r,q'⟩
  intro pins' σ1 H1 s1 s' ad1 ad' ρ1 S1 S' c C a H' I1 st1 rh1 hx' st' wd' hn os bare un hok fly
  obtain⟨hok',hh'⟩:=hx'
  obtain⟨he,He,a0,oe,vs,T,oT,ts,f1,f2,f3,f4,f5,f6,f7,f8,f9,HT⟩:=fly
  have I0:L2.Inv X pins σ1 H1 s1:=zdn I1
  have nil0:∀ b∈([]:List Addr),(b∈X.ex\/X.s₀.heap.objs.size<=b)/\b≠X.env.locals/\(∀ x c,X.env.cells.lookup x=some c->c≠b)/\∀ p∈X.pn++pins,p.1≠b:=fun b z=>absurd z (by simp)
  have I':=I0.call' (ch:=[]) os un hok bare nil0
  have ff:s'.heap.FunFrames X.base X.stack:=I'.stack
  obtain⟨p,hp⟩:∃ p:Addr->Bool,∀ b,p b=true↔b≠a/\b≠T/\b∉frs X.stack:=⟨fun b=>decide (b≠a/\b≠T/\b∉frs X.stack),fun b=>decide_eq_true_iff⟩
  have mno:∀ {b:Addr},¬ (b≠a/\b≠T/\b∉frs X.stack)->(zbi s'.heap p).get? b=none:=fun {b} n=>by
   rw [zcs,if_neg (fun z=>n ((hp b).mp z))]
  have myes:∀ {b:Addr} {o:Obj},s'.heap.get? b=some o->b≠a->b≠T->b∉frs X.stack->(zbi s'.heap p).get? b=some o:=fun {b o} q n1 n2 n3=>by
   rw [zcs,if_pos ((hp b).mpr ⟨n1,n2,n3⟩)];exact q
  have fb:s'.heap.FunFrames (zbi s'.heap p) X.stack:=zfF ff fun L hL=>mno fun z=>z.2.2 hL
  have fl:Heap.FlyingW (zbi s'.heap p) X.stack a (.ref C) a0 s'.heap:=⟨zeq _ _,mno fun z=>z.1 rfl,fb,oe,vs,T,oT,ts,f1,f2,f3,f4,mno fun z=>z.2.1 rfl,f6,f7,f8,f9⟩
  have fr:=I.ok.frames
  rw [hst] at fr
  rw [hst] at fl
  have keep:∀ {h2:Heap},(zbi s'.heap p).StaysIn h2->∀ b o,s'.heap.get? b=some o->b≠a->b≠T->b∉frs X.stack->h2.get? b=some o:=fun {h2} k1 b o q n1 n2 n3=>k1 b o (myes q n1 n2 n3)
  have slot:∀ {h2:Heap},s'.heap.UpToSlots h2->∀ b∈frs X.stack,∀ o,s'.heap.get? b=some o->∃ sl,h2.get? b=some { o with slots:=sl }:=fun {h2} us b hb o q=>by
   obtain⟨_,o',h1,h2⟩:=ff.mem hb
   rw [q] at h1;cases h1
   exact us b o q h2
  show wpAny (model X.prog X.w) X.A (noteFrame (.ref a) X.env) _ _ s'
  refine wpAny_looks_onW fr hfr fl fun h1 hheld us1=>?_
  refine wpAny_landsW hheld fun h2 hfl2 us2=>?_
  obtain⟨k1,k2,k3,k4⟩:=id hfl2
  obtain⟨oe2,vs2,T2,oT2,ts2,g1,g2,_⟩:=id k4
  obtain⟨u2,hok2⟩:=zjk I0 un hok he f5 He HT I'.stkFree (keep k1) (slot (us1.trans us2)) g1
  have I2:=I0.call' (s':={ s' with heap:=h2 }) (ch:=[]) os u2 hok2 bare nil0
  refine wpAny_handleBy_cons (codeAny_handlers_test (zcB (zit I2 a) hg hm ?_ hdb)) (by intro z;cases z)
  have LT:PySem.W.Looks (model X.prog X.w) h2 (typeOf (.ref a)) (.ref C):=g2.1▸(PySem.W.Looks.ld g1).andThen .now
  refine (PySem.W.exm_one (h:=h2) I2.kIn LT (hexm c C hok' hn)).here ?_
  refine codeAny_handlers_suite_as ?_
  refine wpAny_setFlight_noneW k1 k3 k4.at fun h3 b1 b2 b3 b4=>?_
  obtain⟨oe3,vs3,T3,oT3,ts3,e1,e2,_⟩:=id b3
  have us3:s'.heap.UpToSlots h3:=fun b o q n=>by
   obtain⟨sl,z⟩:=us1.trans us2 b o q n
   exact⟨sl,b4 b _ z n⟩
  obtain⟨u3,hok3⟩:=zjk I0 un hok he f5 He HT I'.stkFree (keep b1) (slot us3) e1
  have I3:=I0.call' (s':={ s' with heap:=h3 }) (ch:=[]) os u3 hok3 bare nil0
  refine zcX I3 hN hi (.inl hx) (show RelV (.ref a) (.ref a) from rfl) (fun s4 I4=>?_) (.inr hx)
  have wd0:Wd ad H ad' H':=@zL.wd ⟨ad,H⟩ _ _ _ _ st'
  have st3:zL X.K ad' (upd H' a (.frz oe3 (.ext fun _=>True))) S':=(st.back st').laid He
  have w3:Wd ad' H' ad' (upd H' a (.frz oe3 (.ext fun _=>True))):=Wd.laid He
  have rho:zag X.K ad' (upd H' a (.frz oe3 (.ext fun _=>True))) (ρ1.set i (some (.exn c))) (σ1.set i (some (.ref a))):=((rh1.wd wd').wd w3).set (.exn zaP e2.1 hn) i
  have wAll:=wd0.trans w3
  have hs:=hh a pins s4 _ _ { nx:=fun σ2 H2=>D.nx (σ2.set i none) H2,rt:=D.rt,bk:=fun _ _=>False,ct:=fun _ _=>False } (zit I4 a) ⟨ad',_,S',_,st3,rho,hh',⟨fun ρ2 S2 σ2 H2 ad2 q2 w2 st2 rh2=>k.nx (ρ2.set i none) S2 (σ2.set i none) H2 ad2 q2 (wAll.trans w2) st2 (rh2.unset i),k.rt.wd wAll,fun _ _ _ _ _ z=>z.elim,fun _ _ _ _ _ z=>z.elim⟩⟩
  refine wpAny_mono hs (fun f s5 hf=>?_) fun _ _ z=>z.elim
  cases f with
  | next=>obtain⟨σ5,H5,I5,q5⟩:=hf;exact name_goes (zgH I.ok.hd I5) hN hi hx fun s6 I6=>⟨_,H5,I6,q5⟩
  | brk=>obtain⟨_,_,_,z⟩:=hf;exact z.elim
  | cont=>obtain⟨_,_,_,z⟩:=hf;exact z.elim
  | ret u=>obtain⟨v,σ5,H5,I5,r5,q5⟩:=hf;exact name_goes (zgH I.ok.hd I5) hN hi hx fun s6 I6=>⟨v,_,H5,I6,r5,q5⟩
end
structure IsC (K:PySem.W.Frag)(C:Addr):Prop where
 ga:PySem.W.findIn K (.ref C) "__getattribute__"=some (some (.builtin "BaseException.__getattribute__"))
 hk:PySem.W.findIn K (.ref C) "__getattr__"=some none
 cl:PySem.W.findIn K (.ref C) "__class__"=some (some (.builtin "object.__class__"))
 mo:PySem.W.mroIn K C (.type "object")=some true
 mb:PySem.W.mroIn K C (.type "BaseException")=some true
section
open PySem.W PySem.Builtin PySem.Builtin.ObjectAttr PySem.Builtin.Getset_descriptor
variable {prog:Program}{w:World}{A:Around}{E:Value->Shared->Prop}{s:Shared}{K:Frag}{x C:Addr}{o:Obj}
theorem zlX {M:Model}{h:Heap}(X:K.In h)(I:IsC K C):Looks M h (find (.ref x) (.ref C) "__class__") (.bind (.builtin "getset_descriptor.__get__") (.builtin "object.__class__")):=by
 have L1:=looks_findIn (M:=M) X I.cl
 have L2:=looks_specialIn (M:=M) (v:=.builtin "object.__class__") (name:="__get__") (r:=some (.builtin "getset_descriptor.__get__")) X (by rfl)
 have L3:=looks_takesIn (M:=M) (a:=.builtin "object.__class__") (r:=true) X (by rfl)
 have L2':Looks M h (getOf (some (.builtin "object.__class__"))) (some (.builtin "getset_descriptor.__get__")):=L2
 have L3':Looks M h (dataDescriptor? (some (.builtin "object.__class__")) (some (.builtin "getset_descriptor.__get__"))) (some (.builtin "getset_descriptor.__get__",.builtin "object.__class__")):=L3.andThen .now
 exact L1.andThen (L2'.andThen (L3'.andThen (Looks.tag .now)))
theorem znH {tp:Value}{R:Result->Shared->Prop}(X:K.In s.heap)(I:IsC K C)(hx:s.heap.get? x=some o)(hc:o.cls=.ref C)(h:R (.ok (.ret (.ref C))) s) :
  codeAny (model prog w) A (.call (.builtin "getset_descriptor.__get__") ⟨[.builtin "object.__class__",.ref x,tp],[]⟩) R s:=by
 obtain⟨hh,g,dr,t,os⟩:=s
 have L0:Looks (model prog w) hh (typeOf (.ref x)) (.ref C):=hc▸(Looks.ld hx).andThen .now
 have L1:=looks_mroIn (M:=model prog w) X I.mo
 refine codeAny_call_builtin KF.slot_gs.plain KF.entry_gs (KF.slot_gs.check _ _ _ _ _ _ _ _ KF.type_class (KF.args_gs _ _ _) ?_)
 unfold Builtin.«getset_descriptor.__get__» descrGet
 rw [dga_obj]
 refine wpAny_bind (wpAny_pure ?_)
 unfold descrGetter descrCheckInstance descrNameAndClass isInstance
 simp only [KF.owner_class]
 repeat lk
 refine⟨Code.quiet_builtin _ (by decide +kernel),codeAny_builtin KF.entry_class ?_⟩
 unfold Builtin.«object.__class__» shownTypeOf
 repeat lk
 exact h
theorem zkx {M:Model}{nameV:Value}{Q:Unit->Shared->Prop}(X:K.In s.heap)(I:IsC K C)(hx:s.heap.get? x=some o)(hc:o.cls=.ref C)(hq:Q () s):wpAny M A (checkBuiltinCall "BaseException.__getattribute__" ⟨[.ref x,nameV],[]⟩) Q E s:=by
  obtain⟨hh,g,dr,t,os⟩:=s
  have L0:Looks M hh (typeOf (.ref x)) (.ref C):=hc▸(Looks.ld hx).andThen .now
  have L1:=looks_mroIn (M:=M) X I.mb
  have hk:builtinKind "BaseException.__getattribute__"=some .slot:=by decide +kernel
  have hsplit:splitId "BaseException.__getattribute__"=some ("BaseException","__getattribute__"):=by decide +kernel
  have ha:=F.args_bexc_ga (.ref x) nameV
  simp only [checkBuiltinCall,hk,hsplit]
  refine wpAny_bind ((show Looks M hh (isInstance (.ref x) (.type "BaseException")) true from L0.andThen L1).at ?_)
  repeat (first | wp_step)
  exact hq
theorem zmf {Q:Option Value->Shared->Prop}(X:K.In s.heap)(I:IsC K C)(hx:s.heap.get? x=some o)(hc:o.cls=.ref C)(h:Q (some (.ref C)) { s with toks:=s.toks+1 }):wpAny (model prog w) A (getAttr? (.ref x) "__class__") Q E s:=by
 obtain⟨hh,g,d,t,os⟩:=s
 have L0:Looks (model prog w) hh (typeOf (.ref x)) (.ref C):=hc▸(Looks.ld hx).andThen .now
 have L1:=looks_findIn (M:=model prog w) X I.ga
 have L2:=looks_findIn (M:=model prog w) X I.hk
 have L3:=zlX (M:=model prog w) (x:=x) X I
 unfold getAttr? getAttrBy? getAttrBy
 refine wpAny_bind (wpAny_mkText (wpAny_bind (wpAny_attempt (wpAny_holding (wpAny_bind (L0.at (wpAny_bind (L1.at ?_))))))))
 show wpAny _ _ (getAttrByItsOwn _ _ _ _ _ _) _ _ _
 unfold getAttrByItsOwn
 refine wpAny_bind (L2.at (wpAny_bind (wpAny_attempt (wpAny_holding ?_))))
 show wpAny _ _ (boundAndCalled _ _ _) _ _ _
 unfold boundAndCalled
 rw [F.excAttr_ValueError.ga.bind (.ref x)]
 refine wpAny_bind (wpAny_pure ?_)
 refine wpAny_call (codeAny_call_builtin F.excAttr_ValueError.ga.plain F.entry_bexc_ga (zkx (s:=⟨hh,g,d,t+1,os⟩) X I hx hc ?_))
 unfold Builtin.«object.__getattribute__»
 refine wpAny_bind (wpAny_pure (wpAny_bind (wpAny_pure (wpAny_bind (L0.at (wpAny_bind (L3.at ?_)))))))
 show wpAny _ _ (bindTo _ _ _ _) _ _ _
 unfold bindTo
 refine wpAny_bind (wpAny_holding (wpAny_call (znH (s:=⟨hh,g,d,t+1,os⟩) X I hx hc ?_)))
 refine wpAny_pure ?_
 exact handed_on rfl (wpAny_pure h)
theorem zlJ (I:IsC K C):KitX K (.ref x) (.ref C) (fun h=>∃ o,h.get? x=some o/\o.cls=.ref C):=by
  obtain⟨cdD,hcD,_⟩:=Option.bind_eq_some_iff.mp I.mo
  unfold clsIn at hcD
  split at hcD
  · rename_i c' d' cd' sl' ho
    exact
      { ty:=fun M h _ ⟨o,h1,h2⟩=>h2▸(Looks.ld h1).andThen .now
        it:=fun _ _ X _=>by
          intro A' Q' E' s' k q
          unfold isType loadHead
          exact wpAny_bind (wpAny_loadPart (k _ _ (X _ _ ho)) (wpAny_pure q))
        ne:=fun h tp dd its n sl X htp=>by
          refine Bool.eq_false_iff.mpr fun q=>?_
          have e:C=tp:=Value.ref.inj (beq_iff_eq.mp q)
          subst e
          have z:=(X _ _ ho).symm.trans htp
          cases z
        ca:=fun X ⟨o,h1,h2⟩ k=>zmf X I h1 h2 k }
  · cases hcD
end
section
variable [B:Bs]{X:Cx}
def CV (X:Cx)(c:Str)(np:Pos)(cv:Value):Prop:=∀ (pins:List (Addr×Obj)) (σ:L2.St) (H:Hp) (s:Shared) (E:Value->Shared->Prop) (Q:Value->Shared->Prop),Inv X pins σ H s->Q cv s->wpAny (model X.prog X.w) X.A (eval (.Name c np) X.env) Q E s
omit B in
theorem zpj {c:Str}{np:Pos}{C:Addr}(hg:Gl X c)(hm:X.mg c=some (.ref C))(hd:(c==("__debug__":Str))=false:=by decide):CV X c np (.ref C):=fun _ _ _ _ _ _ I q=>zcB I hg hm q hd
omit B in
theorem zqh {c:Str}{np:Pos}{T:String}(hg:Gl X c)(hm:X.mg c=none)(hv:bootBuiltins c=some (.type T))(hn:c≠"__name__":=by decide)(hd:(c==("__debug__":Str))=false:=by decide):CV X c np (.type T):=fun _ _ _ _ _ _ I q=>zcH I hg hm hv q hn hd
theorem zkw {e:Expr}{t:DE}{p np pos:Pos}{c:Str}{cv:Value}{tbl:List (Str×Bool)}(hg:Gl X "isinstance")(hm:X.mg "isinstance"=none)(he:PD X e t)(hc:CV X c np cv)
  (ht:∀ c' b C,tbl.lookup c'=some b->PySem.W.nsIn X.K mainGlobals c'=some (some (.ref C))->IsC X.K C/\PySem.W.kitOne X.K (.ref C) cv=some b)
  (hs:starEach [e,.Name c np] X.env=(false,eval e X.env)::starEach [.Name c np] X.env:=by rfl) (hpl:(backTo pos (starEach [.Name c np] X.env)).any (·.1)=false:=by rfl) :
  PD X (.Call (.Name "isinstance" p) [e,.Name c np] [] pos) (zdq tbl t):=by
 with_unfolding_all
  intro pins s σ H Q I h
  obtain⟨ad,ρ,S,Q0,st,rh,q,k⟩:=h
  refine wpAny_Call_Name_kw (zcH I hg hm boot_isinstance ?_)
  have hA:wpAny (model X.prog X.w) X.A (spliced (backTo pos (starEach [e,.Name c np] X.env))) (fun us s1=>∃ u,us=[u,cv]/\EP X pins σ (fun v H1=>∃ c' b ad1,Rel X.K ad1 H1 (.exn c') v/\tbl.lookup c'=some b/\Q (.bl b) H1) u s1) X.xe s:=by
   rw [hs]
   show wpAny _ _ (spliced ((false,eval e X.env)::backTo pos (starEach [.Name c np] X.env))) _ _ s
   have hv:=he pins s σ H (fun v H1=>∃ c' b ad1,Rel X.K ad1 H1 (.exn c') v/\tbl.lookup c'=some b/\Q (.bl b) H1) I ⟨ad,ρ,S,_,st,rh,q,fun x S1 v H1 ad1 ⟨c',b,ex,hl,q1⟩ w1 st1 r1=>⟨c',b,ad1,ex▸r1,hl,k _ S1 _ H1 ad1 q1 w1 st1 (.bl b)⟩⟩
   refine Calls.spliced_cons (thn hv fun u s1 hu=>?_)
   show wpAny _ _ (spliced ((false,eval (.Name c np) X.env)::[])) _ _ s1
   obtain⟨v,H1,I1,r1,q1⟩:=hu
   exact Calls.spliced_cons (hc pins σ H1 s1 _ _ I1 (Calls.spliced_nil ⟨u,rfl,v,H1,I1,r1,q1⟩))
  refine PyProof.Rows.callWith_builtin1 (thn hA fun us s1 hu=>?_) hs hpl
  obtain⟨u,rfl,v,H1,I1,r1,c',b,ad1,rel,hl,q1⟩:=hu
  cases rel with
  | exn ha hcl hn =>
   cases r1
   obtain⟨ic,ki⟩:=ht _ _ _ hl hn
   refine PySem.W.kia_one (zlJ ic) I1.kIn ?_ ki (by intro z;cases z) fun tk=>⟨.bl b,H1,I1.tok _,rfl,q1⟩
   obtain⟨h1,_⟩:=I1.hok _ _ ha
   exact⟨_,h1,hcl⟩
theorem zc6 {e:Expr}{t:DE}{p np pos:Pos}{c:Str}{tbl:List (Str×Bool)}(hg:Gl X "isinstance")(hm:X.mg "isinstance"=none)(he:PD X e t)(hgc:Gl X c)
  (ht:∃ Cc,X.mg c=some (.ref Cc)/\∀ c' b C,tbl.lookup c'=some b->PySem.W.nsIn X.K mainGlobals c'=some (some (.ref C))->IsC X.K C/\PySem.W.kitOne X.K (.ref C) (.ref Cc)=some b) (hd:(c==("__debug__":Str))=false:=by decide)
  (hs:starEach [e,.Name c np] X.env=(false,eval e X.env)::starEach [.Name c np] X.env:=by rfl) (hpl:(backTo pos (starEach [.Name c np] X.env)).any (·.1)=false:=by rfl) :
  PD X (.Call (.Name "isinstance" p) [e,.Name c np] [] pos) (zdq tbl t):=by
 with_unfolding_all
  obtain⟨Cc,h1,h2⟩:=ht
  exact zkw hg hm he (zpj hgc h1 hd) h2 hs hpl
theorem znz {e:Expr}{t:DE}{p np pos:Pos}{c:Str}{T:String}{tbl:List (Str×Bool)}(hg:Gl X "isinstance")(hm:X.mg "isinstance"=none)(he:PD X e t)(hgc:Gl X c)
  (ht:X.mg c=none/\∀ c' b C,tbl.lookup c'=some b->PySem.W.nsIn X.K mainGlobals c'=some (some (.ref C))->IsC X.K C/\PySem.W.kitOne X.K (.ref C) (.type T)=some b) (hv:bootBuiltins c=some (.type T)) (hn:c≠"__name__":=by decide) (hd:(c==("__debug__":Str))=false:=by decide)
  (hs:starEach [e,.Name c np] X.env=(false,eval e X.env)::starEach [.Name c np] X.env:=by rfl) (hpl:(backTo pos (starEach [.Name c np] X.env)).any (·.1)=false:=by rfl) :
  PD X (.Call (.Name "isinstance" p) [e,.Name c np] [] pos) (zdq tbl t):=by with_unfolding_all exact (zkw hg hm he (zqh hgc ht.1 hv hn hd) ht.2 hs hpl)
end
def zft (K:PySem.W.Frag)(C:Addr):Bool:=match K.lookup C with
 | some ⟨.type "type",_,.cls cd,sl⟩=>(match cd.mro,sl.toList with
  | .ref C'::bm,[_,_,_,_,some (.builtin n),_]=>C'==C&&!cd.hasDel&&n=="ValueError.__new__"&&PySem.W.nsOkIn K cd.ns&&PySem.W.nsIn K cd.ns "__init__"==some none&&PySem.W.tailIn K [.type "ValueError",.type "Exception",.type "BaseException",.type "object"] bm
  | _,_=>false)
 | _=>false
theorem ExC.of {K:PySem.W.Frag}{C:Addr}(q:zft K C=true):ExC K C:=by
 unfold zft at q
 split at q
 ·rename_i dd cd sl ho
  split at q
  ·rename_i C' bm k0 k1 k2 k3 n k5 hm hs
   simp only [Bool.and_eq_true,beq_iff_eq,Bool.not_eq_true'] at q
   obtain⟨⟨⟨⟨⟨rfl,hdel⟩,rfl⟩,h1⟩,h2⟩,h3⟩:=q
   obtain⟨nm,bs,mro,ns,qn,hd,sn,sub,ab,col,del⟩:=cd
   dsimp only at hm hdel
   subst hm hdel
   have hsl:sl=#[k0,k1,k2,k3,some (.builtin "ValueError.__new__"),k5]:=by
    obtain⟨l⟩:=sl
    simp only at hs
    rw [hs]
   subst hsl
   exact⟨nm,qn,ns,bs,bm,hd,sn,sub,ab,col,dd,k0,k1,k2,k3,k5,ho,h1,h2,h3⟩
  ·cases q
 ·cases q
def isIn (K:PySem.W.Frag)(C:Addr):Bool:=PySem.W.findIn K (.ref C) "__getattribute__"==some (some (.builtin "BaseException.__getattribute__"))&&PySem.W.findIn K (.ref C) "__getattr__"==some none&&PySem.W.findIn K (.ref C) "__class__"==some (some (.builtin "object.__class__")) &&
 PySem.W.mroIn K C (.type "object")==some true&&PySem.W.mroIn K C (.type "BaseException")==some true
theorem IsC.of {K:PySem.W.Frag}{C:Addr}(q:isIn K C=true):IsC K C:=by
 unfold isIn at q
 simp only [Bool.and_eq_true,beq_iff_eq] at q
 exact⟨q.1.1.1.1,q.1.1.1.2,q.1.1.2,q.1.2,q.2⟩
theorem zbR {a c:Str}{l:List Str}(h:(a::l).contains c=true):c=a\/l.contains c=true:=by
 rw [List.contains_cons,Bool.or_eq_true,beq_iff_eq] at h
 exact h
theorem zM {a c:Str}{b b':Bool}{l:List (Str×Bool)}(h:((a,b')::l).lookup c=some b):(c=a/\b'=b)\/l.lookup c=some b:=by
 rw [List.lookup_cons] at h
 split at h
 ·rename_i e
  exact .inl ⟨beq_iff_eq.mp e,Option.some.inj h⟩
 ·exact .inr h
section
variable {X:Cx}[B:Bs]
end
section
variable {K:PySem.W.Frag}{ad:List Addr}{H:Hp}{S:Sto}[B:Bs]
end
section
variable {X:Cx}{a b c:Expr}{td ti tz tv:DE}{pos apos cpos:Pos}[B:Bs]
end
structure FH (K:PySem.W.Frag)(n:Str)(st:Stmt)(f:Addr)(fd:FuncData):Prop where
 a:PySem.W.nsIn K mainGlobals n=some (some (.ref f))
 F:Fun K n n st f fd
section
variable {K:PySem.W.Frag}{n:Str}{st:Stmt}{f:Addr}{fd:FuncData}{mg:Str->Option Value}{k:Nat}{h:Heap}{ps:List Str}{sp:Sp}
theorem zpD {oc:Value}{od an:Option Addr}{osl:Array (Option Value)}{kV doc pm cdv ct:Value}(a:PySem.W.nsIn K mainGlobals n=some (some (.ref f)))
  (l:K.lookup f=some ⟨oc,od,.func (PySem.W.fnOf n n (za9 st) (zaD st) (zK st) .none kV doc pm an cdv ct),osl⟩) (c:PySem.W.codeIn K cdv n=true) (k:PySem.W.keepIn K (.ref f)=true) :
  FH K n st f (PySem.W.fnOf n n (za9 st) (zaD st) (zK st) .none kV doc pm an cdv ct):=⟨a,zgB l c k⟩
theorem zai (P:Program)(w:World)(base:Heap)(X:K.In h)(G:h.Ns mainGlobals mg)(H:FH K n st f fd)(ok:zY P w K mg base CX0 k f fd ps sp)
  (b:∀ (kV doc pm:Value) (an:Option Addr) (cdv ct:Value) (us:List Value),us.length=ps.length->bindArgs (PySem.W.fnOf n n (za9 st) (zaD st) (zK st) .none kV doc pm an cdv ct) ⟨us,[]⟩=pure (ps.zip us):=by intro _ _ _ _ _ _ us hl;first | (obtain⟨_,e⟩:=zmj hl;subst e;rfl) | (obtain⟨_,_,e⟩:=zjW hl;subst e;rfl) | (obtain⟨_,_,_,e⟩:=zmn hl;subst e;rfl) | (obtain⟨_,_,_,_,e⟩:=zmq hl;subst e;rfl) | (obtain⟨_,_,_,_,_,e⟩:=zmi hl;subst e;rfl) | (obtain⟨_,_,_,_,_,_,e⟩:=len_6 hl;subst e;rfl) | (obtain⟨_,_,_,_,_,_,_,e⟩:=len_7 hl;subst e;rfl)):Got P w K mg base k n ps sp:=⟨⟨f,fd,ok,H.F.binds b,H.F.kp,PySem.W.mg_of X G H.a⟩⟩
theorem zc4 (P:Program)(w:World)(base:Heap)(X:K.In h)(G:h.Ns mainGlobals mg)(H:FH K n st f fd)(ok:zY P w K mg base (CXd P w) k f fd ps sp)
  (b:∀ (kV doc pm:Value) (an:Option Addr) (cdv ct:Value) (us:List Value),us.length=ps.length->bindArgs (PySem.W.fnOf n n (za9 st) (zaD st) (zK st) .none kV doc pm an cdv ct) ⟨us,[]⟩=pure (ps.zip us):=by intro _ _ _ _ _ _ us hl;first | (obtain⟨_,e⟩:=zmj hl;subst e;rfl) | (obtain⟨_,_,e⟩:=zjW hl;subst e;rfl) | (obtain⟨_,_,_,e⟩:=zmn hl;subst e;rfl) | (obtain⟨_,_,_,_,e⟩:=zmq hl;subst e;rfl) | (obtain⟨_,_,_,_,_,e⟩:=zmi hl;subst e;rfl) | (obtain⟨_,_,_,_,_,_,e⟩:=len_6 hl;subst e;rfl) | (obtain⟨_,_,_,_,_,_,_,e⟩:=len_7 hl;subst e;rfl)):zeH P w K mg base k n ps sp:=⟨⟨f,fd,ok,H.F.binds b,H.F.kp,PySem.W.mg_of X G H.a⟩⟩
end
section
variable {X:Cx}
theorem zm [B:Bs](i:Nat){x:Str}{pos:Pos}(hN:X.N[i]?=some x:=by rfl)(hv:L2.Vis X.env.scope x:=by first | exact Or.inl rfl | exact Or.inr (Or.inl rfl) | exact Or.inr (Or.inr rfl))(hd:(x==("__debug__":Str))=false:=by decide)(hcd:(x==("__classdict__":Str))=false:=by decide):PD X (.Name x pos) (zj i):=by with_unfolding_all exact (zcN (zkz hN hv hd hcd))
theorem zZ {N P:List Str}{sc:Scope}(h1:sc.kind=.function:=by rfl)(h2:sc.isCoroutine=false:=by rfl)(h3:sc.isGenerator=false:=by rfl)(h4:N.Nodup:=by decide +kernel)(h5:N.take P.length=P:=by rfl)(h6:∀ x∈P,sc.names.lookup x=some .local\/sc.names.lookup x=some .cell:=by decide +kernel)(h7:∀ y∈sc.names,y.2≠.free:=by decide +kernel):zT N P sc:=⟨h1,h2,h3,h4,h5,h6,h7⟩
end
end Dp
open PySem Dp
local macro_rules | `(tactic| walk_at "dat")=>`(tactic| first | assumption | exact zbB | exact zjq | (refine (zbC _ _ _).trans ?_;exact rfl) | exact zbK (by assumption))
local macro_rules | `(tactic| walk_at "dlat")=>`(tactic| first | assumption | exact Lst.rl | exact Lst.at0 | exact Lst.new | (refine Lst.at ?_;exact rfl) | exact Lst.old (by assumption) | exact Lst.here (by assumption) | exact Lst.here (zbK (by assumption)))
local macro_rules | `(tactic| walk_at "dseq")=>`(tactic| first | exact Or.inl rfl | (refine Or.inr ?_;walk_at "dlat"))
local macro_rules | `(tactic| walk_at "dbd")=>`(tactic| first | assumption | exact My.Bd.mono (by assumption) (by decide) | exact My.Bd.lit (by decide) (by decide) | (refine My.Bd.add ?_ ?_<;>walk_at "dbd") | (refine My.Bd.sub ?_ ?_<;>walk_at "dbd") | (refine My.Bd.neg ?_;walk_at "dbd") | (refine My.Bd.mulH ?_ ?_<;>walk_at "dbd") | (refine My.Bd.emod (by omega) ?_;walk_at "dbd") | (refine My.Bd.ediv ?_;walk_at "dbd"))
local macro_rules | `(tactic| walk_at "dmul")=>`(tactic| first | assumption | exact Or.inr (Or.inl (by omega)) | exact Or.inr (Or.inr (by omega)) | exact Or.inl ⟨by walk_at "dbd",by walk_at "dbd"⟩)
local macro_rules | `(tactic| walk_at "ddiv")=>`(tactic| first | assumption | exact⟨by omega,by walk_at "dbd"⟩)
local macro_rules | `(tactic| walk_at "dr1")=>`(tactic| first
 |(with_reducible first|refine zkk ?_|refine zom ?_|refine zql ?_|refine zoV ?_|refine zmo ?_|refine zmQ ?_|refine zqH ?_|refine r_tryN ?_|refine zoI ?_|refine zmp ?_|refine zoE ?_|refine zpz ?_)| ((with_reducible refine Dp.zqG (l:=?rvx) ?rvk ?_);(case rvk=>walk_at "dat")) | ((with_reducible refine Dp.v_ground (g:=?rv1) (b:=?rv2) (f:=?rv3) (h:=?rv4) (a:=?rv5) (l:=?rv6) (d:=?rv7) ?rvk ?_);(case rvk=>walk_at "dat")) | ((with_reducible refine Dp.v_beacons (g:=?rv1) (b:=?rv2) (f:=?rv3) (h:=?rv4) (a:=?rv5) (l:=?rv6) (d:=?rv7) ?rvk ?_);(case rvk=>walk_at "dat")) | ((with_reducible refine Dp.v_fogs (g:=?rv1) (b:=?rv2) (f:=?rv3) (h:=?rv4) (a:=?rv5) (l:=?rv6) (d:=?rv7) ?rvk ?_);(case rvk=>walk_at "dat")) | ((with_reducible refine Dp.v_haze (g:=?rv1) (b:=?rv2) (f:=?rv3) (h:=?rv4) (a:=?rv5) (l:=?rv6) (d:=?rv7) ?rvk ?_);(case rvk=>walk_at "dat")) | ((with_reducible refine Dp.v_first (g:=?rv1) (b:=?rv2) (f:=?rv3) (h:=?rv4) (a:=?rv5) (l:=?rv6) (d:=?rv7) ?rvk ?_);(case rvk=>walk_at "dat")) | ((with_reducible refine Dp.v_last (g:=?rv1) (b:=?rv2) (f:=?rv3) (h:=?rv4) (a:=?rv5) (l:=?rv6) (d:=?rv7) ?rvk ?_);(case rvk=>walk_at "dat")) | ((with_reducible refine Dp.v_delay (g:=?rv1) (b:=?rv2) (f:=?rv3) (h:=?rv4) (a:=?rv5) (l:=?rv6) (d:=?rv7) ?rvk ?_);(case rvk=>walk_at "dat")) |(with_reducible first|refine zq7 ?_|refine zmC ?_)
 | ((with_reducible refine Dp.zeS (d:=?rvv) ?rvk ?_);(case rvk=>exact rfl)) |(with_reducible first|refine r_c ?_|refine zjD ?_|refine zro ?_)
 |(with_reducible first|refine zpY ?_|refine zpS ?_|refine zlM ?_|refine zpJ ?_|refine zqP ?_|refine zq9 ?_|refine zrc ?_|refine o_ge ?_|refine zpE ?_|refine zqj ?_|refine o_eqB ?_|refine zqE ?_|refine zqg ?_)
 | ((with_reducible refine Dp.zpA ?rvk ?_);(case rvk=>walk_at "dmul")) | ((with_reducible refine Dp.zqr ?rvk ?_);(case rvk=>walk_at "ddiv")) | ((with_reducible refine Dp.zp9 ?rvk ?_);(case rvk=>first | omega | assumption)) | ((with_reducible refine Dp.o_pow ?rvk ?_);(case rvk=>exact⟨by omega,by omega,by omega⟩))
 | ((with_reducible refine Dp.zp3 (d:=?rvv) ?rvk ?_);(case rvk=>first | assumption | exact rfl)) | ((with_reducible refine Dp.zjB (xs:=?rvx) (d:=?rvv) ?rvl ?rvk ?_);(case rvl=>walk_at "dlat");(case rvk=>first | assumption | exact rfl))
 |(with_reducible first|refine r_t ?_|refine zq4 ?_|refine zpH ?_|refine zqm ?_|refine zq2 ?_|refine zqN ?_|refine r_orV ?_|refine zn1 ?_|refine zow ?_|refine r_ifE ?_|refine r_chain ?_)
 |(with_reducible first|refine zqc ?_|refine zic ?_|refine zmu ?_|refine zqJ ?_)| ((with_reducible refine Dp.zqb ?rvk ?_);(case rvk=>exact rfl)) |(with_reducible first|refine zot ?_|refine znA ?_|refine zqz ?_)| ((with_reducible refine Dp.zoJ (b:=?rvv) ?rvk ?_);(case rvk=>exact rfl)) |(with_reducible first|refine r_b ?_|refine r_m ?_)| ((with_reducible refine Dp.zpx (ys:=?rvx) ?rvk ?_);(case rvk=>walk_at "dat"))
 |(with_reducible first|refine zpv ?_|refine zqq ?_|refine zpW ?_|refine zp5 ?_|refine zqo ?_|refine zey ?_|refine zgK ?_|refine zoK ?_|refine put_A1 ?_|refine put_A2 ?_|refine put_A3 ?_|refine zpZ ?_|refine put_0 ?_)
 |(with_reducible first|refine zqd ?_|refine b_max2 ?_|refine b_min2 ?_|refine zpe ?_)| ((with_reducible refine Dp.zoS (xs:=?rvx) ?rvl ?_);(case rvl=>walk_at "dlat")) |(with_reducible first|refine b_intI ?_|refine zoq ?_|refine b_boolI ?_|refine b_boolB ?_)
 | with_reducible refine b_tupleT ?_ | ((with_reducible refine Dp.b_tupleL (xs:=?rvx) ?rvl ?_);(case rvl=>walk_at "dlat")) | with_reducible refine b_listT ?_ | ((with_reducible refine Dp.zne (xs:=?rvx) ?rvl ?_);(case rvl=>walk_at "dlat")) |(with_reducible first|refine zhL ?_|refine zgU ?_|refine b_isi_int_tuple ?_|refine b_isi_int_list ?_|refine b_isi_int_str ?_|refine b_isi_bl_int ?_|refine b_isi_bl_bool ?_|refine b_isi_bl_tuple ?_|refine b_isi_bl_list ?_|refine b_isi_bl_str ?_|refine b_isi_tup_int ?_|refine b_isi_tup_bool ?_|refine zgg ?_|refine b_isi_tup_list ?_|refine b_isi_tup_str ?_|refine b_isi_non_int ?_|refine b_isi_non_bool ?_|refine b_isi_non_tuple ?_|refine b_isi_non_list ?_|refine b_isi_non_str ?_|refine b_isi_str_int ?_|refine b_isi_str_bool ?_|refine b_isi_str_tuple ?_|refine b_isi_str_list ?_|refine b_isi_str_str ?_)| ((with_reducible refine Dp.b_isi_lst_list (xs:=?rvx) ?rvl ?_);(case rvl=>walk_at "dat")) | ((with_reducible refine Dp.b_isi_lst_tuple (xs:=?rvx) ?rvl ?_);(case rvl=>walk_at "dat"))
 |(with_reducible first|refine zpl ?_|refine znx ?_)| ((with_reducible refine Dp.zoN ?rvk ?_);(case rvk=>exact rfl)) |(with_reducible first|refine zoB ?_|refine znR ?_)
 |(with_reducible first|refine o_is0 ?_|refine o_is1 ?_|refine o_is2 ?_|refine o_is3 ?_|refine o_isn0 ?_|refine zoQ ?_|refine o_isn2 ?_|refine o_isn3 ?_|refine o_isTT ?_|refine o_isnTT ?_|refine o_is ?_|refine zqu ?_|refine o_isB ?_|refine o_isnB ?_|refine zq8 ?_|refine zo2 ?_|refine zpf ?_)| ((with_reducible refine Dp.o_step (xs:=?rvx) ?rvl ?_);(case rvl=>walk_at "dlat")) | with_reducible refine o_cutT ?_ | ((with_reducible refine Dp.zoM (xs:=?rvx) ?rvl ?_);(case rvl=>walk_at "dlat"))
 | ((with_reducible refine Dp.zpV (a:=?rvv) ?rvk ?_);(case rvk=>exact rfl)) | ((with_reducible refine Dp.zl9 (xs:=?rvx) ?rvk ?rvl ?_);(case rvk=>walk_at "dat");(case rvl=>first | exact Nat.lt_of_ble_eq_true rfl | assumption | (simp only [big,List.length_append,List.length_cons,List.length_nil,List.length_map] at *;omega)))
 |(with_reducible first|refine zlz ?_|refine zlo ?_|refine zqA ?_|refine zpR ?_|refine r_ntrue ?_|refine r_nfalse ?_)
 |(with_reducible first|refine zpQ ?_|refine zkX ?_|refine zoO ?_|refine zqn ?_|refine zp4 ?_)| ((with_reducible refine Dp.zpX (xs:=?rvx) ?rvl ?_);(case rvl=>walk_at "dlat")) |(with_reducible first|refine zn9 ?_|refine znY ?_|refine r_enum ?_|refine en_T ?_|refine r_zip ?_|refine zi_T ?_|refine r_rev ?_|refine rev_T ?_|refine r_rng3 ?_)| with_reducible refine Dp.zqT ?_)
local macro_rules | `(tactic| walk_at "g")=>`(tactic| repeat walk_at "dr1")
local macro_rules | `(tactic| walk_at "drho")=>`(tactic| simp only [zdm,List.map_cons,List.map_nil,List.length_cons,List.length_nil,Nat.reduceSub,Nat.reduceAdd,List.replicate,List.cons_append,List.nil_append,List.set_cons_zero,List.set_cons_succ])
local macro_rules | `(tactic| walk_at "drho2")=>`(tactic| simp only [List.set_cons_zero,List.set_cons_succ])
namespace Dp
open PySem Rm My
def zbt:DSp:=fun ds S Q=>∃ (ns:List Int) (k:Int),ds=[.rl (ns.map D.int),.int k]/\(∀ n∈ns,Hg n)/\0<=k/\∀ v,Hg v->Q (.int v) S
def zeo:DS :=
    (zJ (sIf (dT (dOp oLt (zj 1) (dB zan (zc (zj 0) zu)))) (zac (dOp oIx (zj 0) (zj 1))) z7)
 (zac (dC (.int 0))))
theorem zj8:∀ ds So Q,zbt ds So Q->ds.length=2:=by rintro ds So Q ⟨_,_,rfl,_⟩;rfl
theorem zkp:BodyOk 2 zeo zbt:=by
 rintro ds S Q ⟨ns,k,rfl,hg,k0,q⟩
 unfold zeo
 walk_at "g"
 rw [List.length_map]
 refine r_d (fun h=>?_) (fun h=>?_)
 ·obtain⟨z,hz,az⟩:=zdO (zs:=ns) k0 h
  walk_at "g"
  exact fin_same (q z (hg z hz))
 ·walk_at "g"
  exact fin_same (q 0 (Hg.of (n:=1) (by show (0:Int).natAbs<2 ^ 1;decide) (by decide)))
def zl1 (c k:Int):Int:=(c%1000000000000000000000000000000000000000000000000000000000000+7907*k+1)*271828182845904523536028747135266249775*((c%1000000000000000000000000000000000000000000000000000000000000+7907*k+1)*271828182845904523536028747135266249775)%618970019642690137449562111
def zea (c k s:Int):Int:=(zl1 c k+104729*(k+1))*zl1 c k%618970019642690137449562111/8%s
def zH:DSp:=fun ds S Q=>∃ (c k s:Int),ds=[.int c,.int k,.int s]/\0<=k/\k<1000/\0<s/\∀ v,0<=v->v<s->v=zea c k s->Q (.int v) S
def zdX:DS :=
    (zJ (zN (dC (.int 618970019642690137449562111)) (zB 3))
 (zJ (zN (dOp zaA (dOp zX (dOp zX (dOp oMod (zj 0) (dC (.int 1000000000000000000000000000000000000000000000000000000000000))) (dOp zaA (dC (.int 7907)) (zj 1))) (dC (.int 1))) (dC (.int 271828182845904523536028747135266249775))) (zB 4))
 (zJ (zN (dOp oMod (dOp zaA (zj 4) (zj 4)) (zj 3)) (zB 5))
 (zJ (zN (dOp oMod (dOp zaA (dOp zX (zj 5) (dOp zaA (dC (.int 104729)) (dOp zX (zj 1) (dC (.int 1))))) (zj 5)) (zj 3)) (zB 5))
 (zac (dOp oMod (dOp oDiv (zj 5) (dC (.int 8))) (zj 2)))))))
theorem zi3:∀ ds So Q,zH ds So Q->ds.length=3:=by rintro ds So Q ⟨_,_,_,rfl,_⟩;rfl
theorem zkf:BodyOk 6 zdX zH:=by
 rintro ds S Q ⟨c,k,s,rfl,h0,hk,hs,q⟩
 unfold zdX
 have b1:My.Bd 300 (c%1000000000000000000000000000000000000000000000000000000000000+7907*k+1):=by
  have h1:=Int.emod_nonneg c (b:=1000000000000000000000000000000000000000000000000000000000000) (by decide)
  have h2:=Int.emod_lt_of_pos c (b:=1000000000000000000000000000000000000000000000000000000000000) (by decide)
  show _<2 ^ 300
  omega
 have b2:My.Bd 200 (271828182845904523536028747135266249775:Int):=My.Bd.lit (by decide) (by decide)
 have b3:=My.Bd.mul b1 b2
 have cm1:zaE (c%1000000000000000000000000000000000000000000000000000000000000+7907*k+1) 271828182845904523536028747135266249775:=.inl ⟨b1.mono (by decide),b2.mono (by decide)⟩
 generalize hb:c%1000000000000000000000000000000000000000000000000000000000000+7907*k+1=u at *
 have cm2:zaE (u*271828182845904523536028747135266249775) (u*271828182845904523536028747135266249775):=.inl ⟨b3.mono (by decide),b3.mono (by decide)⟩
 walk_at "g"
 rw [hb]
 walk_at "g"
 have b4:My.Bd 200 (u*271828182845904523536028747135266249775*(u*271828182845904523536028747135266249775)%618970019642690137449562111):=My.Bd.emod (by decide) (My.Bd.lit (by decide) (by decide))
 generalize hm:u*271828182845904523536028747135266249775*(u*271828182845904523536028747135266249775)%618970019642690137449562111=m at *
 have b5:My.Bd 200 (104729*(k+1)):=by
  show _<2 ^ 200
  omega
 have cm3:zaE (m+104729*(k+1)) m:=.inl ⟨(My.Bd.add b4 b5).mono (by decide),b4.mono (by decide)⟩
 walk_at "g"
 exact fin_same (q _ (Int.emod_nonneg _ (by omega)) (Int.emod_lt_of_pos _ (by omega)) (by unfold zea zl1;rw [hb,hm]))
def zb6:DSp:=fun ds S Q=>∃ (c k nr:Int) (far:Bool),ds=[.int c,.int k,.int nr,.bl far]/\Hg c/\0<=k/\k<900/\0<nr/\nr<1000/\∀ v:Int,-(5*10 ^ 49)<=v->v<5*10 ^ 49->Q (.int v) S
def zd0:DS :=
    (zJ (sIf (dT (zj 3)) (zac (dOp zax (dOp oMod (dOp zaA (dOp zaA (zj 0) (dC (.int 1422907482840247632891030073750636927810831))) (dOp zX (zj 1) (dC (.int 2)))) (dC (.int 100000000000000000000000000000000000000000000000000))) (dOp zaA (dC (.int 5)) (dC (.int 10000000000000000000000000000000000000000000000000))))) z7)
 (zac (dCall zH (zc (zj 0) (zc (zj 1) (zc (zj 2) zu))))))
theorem zi6:∀ ds So Q,zb6 ds So Q->ds.length=4:=by rintro ds So Q ⟨_,_,_,_,rfl,_⟩;rfl
theorem zjJ:BodyOk 4 zd0 zb6:=by
 rintro ds S Q ⟨c,k,nr,far,rfl,hc,k0,k1,n0,n1,q⟩
 unfold zd0
 cases far with
 | true =>
  walk_at "g"
  refine zkr hc (Hg.of (n:=200) (by show _<2 ^ 200;decide) (by decide)) ?_
  generalize c*1422907482840247632891030073750636927810831=u
  have cm:zaE u (k+2):=.inr (.inr (by omega))
  walk_at "g"
  have r1:=Int.emod_nonneg (u*(k+2)) (show (100000000000000000000000000000000000000000000000000:Int)≠0 by decide)
  have r2:=Int.emod_lt_of_pos (u*(k+2)) (show (0:Int)<100000000000000000000000000000000000000000000000000 by decide)
  exact fin_same (q _ (by omega) (by omega))
 | false =>
  walk_at "g"
  refine⟨c,k,nr,rfl,k0,by omega,n0,fun v v0 v1 _=>?_⟩
  exact fin_same (q v (by omega) (by omega))
def zbp:DSp:=fun ds S Q=>∃ (c n:Int) (far:Bool),ds=[.int c,.int n,.bl far]/\Hg c/\2<=n/\n<=40/\∀ cs:List (Int×Int),(cs.length:Int)=n->Grd cs->(∀ c∈cs,Bd 169 c.1/\Bd 169 c.2)->New Q S (cs.map p2)
def zco:DS :=
    (zJ (zN (zat zu) (zB 3))
 (zJ (zN (dOp zax (dCall zb6 (zc (zj 0) (zc (dC (.int 0)) (zc (dC (.int 9)) (zc (zj 2) zu))))) (dC (.int 9))) (zB 4))
 (zJ (zeb (zbM (zc (zj 1) zu)) (zB 5) (zJ (zN (dCall zH (zc (zj 0) (zc (dOp zX (dOp zaA (dC (.int 2)) (zj 5)) (dC (.int 1))) (zc (dC (.int 9)) zu)))) (zB 6))
 (zJ (sJ (sIf (zeE (dT (zj 2)) (dT (dOp oEq (dOp oMod (zj 5) (dC (.int 3))) (dC (.int 1))))) (zN (dCall zb6 (zc (zj 0) (zc (zj 5) (zc (dC (.int 9)) (zc (zj 2) zu))))) (zB 6)) z7))
 (zJ (zb5 (dM zdG (zj 3) (zc (dTup (zc (zj 4) (zc (zj 6) zu))) zu)))
 (zJ (zN (dOp zX (dC (.int 1)) (dCall zH (zc (zj 0) (zc (dOp zX (dOp zaA (dC (.int 2)) (zj 5)) (dC (.int 2))) (zc (dC (.int 7)) zu))))) (zB 7))
 (zJ (sJ (sIf (zeE (dT (zj 2)) (dT (dOp oEq (dOp oMod (zj 5) (dC (.int 2))) (dC (.int 0))))) (zN (dOp zX (dC (.int 1)) (dOp oMod (dOp zaA (dOp zaA (zj 0) (dC (.int 7928331467292760530673834318599741))) (dOp zX (zj 5) (dC (.int 3)))) (dC (.int 1000000000000000000000000000000000000000000000000)))) (zB 7)) z7))
 (zN (dOp zX (zj 4) (zj 7)) (zB 4))))))))
 (zac (zj 3)))))
theorem zgf:∀ ds So Q,zbp ds So Q->ds.length=3:=by rintro ds So Q ⟨_,_,_,rfl,_⟩;rfl
theorem zgQ:BodyOk 8 zco zbp:=by
 rintro ds S Q ⟨c,n,far,rfl,hc,n0,n1,q⟩
 unfold zco
 walk_at "g"
 refine⟨c,0,9,far,rfl,hc,by decide,by decide,by decide,by decide,fun v0 v1 v2=>?_⟩
 walk_at "g"
 walk_at "drho"
 refine⟨n,rfl,by omega,by omega,?_⟩
 refine zcG (fun i ρ S'=>∃ (cs:List (Int×Int)) (pl:Int) (w5 w6 w7:Option D),S'=S++[.lst (cs.map p2)]/\ρ=[some (.int c),some (.int n),some (.bl far),some (.ref S.length),some (.int pl),w5,w6,w7]/\cs.length=i/\cs.Pairwise (fun a b=>a.1<b.1)/\(∀ x∈cs,x.1<pl/\-(6*10 ^ 49)<=x.1/\Bd 169 x.2)/\v0-9<=pl/\pl<=v0-9+i*(10 ^ 48)) ⟨[],v0-9,none,none,none,rfl,rfl,rfl,.nil,by simp,by omega,by omega⟩ (fun _ _ _ _=>True.intro) ?_ ?_
 ·rintro i d ρ S' hd ⟨cs,pl,w5,w6,w7,rfl,rfl,hl,asc,hcs,p0,p1⟩
  obtain⟨hi,rfl⟩:=zbs hd
  have cm1:zaE 2 (0+(i:Int)):=.inr (.inl (by decide))
  walk_at "g"
  refine⟨c,_,9,rfl,by omega,by omega,by decide,fun m m0 m1 _=>?_⟩
  walk_at "g"
  refine r_J (fun ρ S'=>S'=S++[.lst (cs.map p2)]/\∃ hh:Int,Bd 169 hh/\ρ=[some (.int c),some (.int n),some (.bl far),some (.ref S.length),some (.int pl),some (.int (0+(i:Int))),some (.int hh),w7]) ?_ ?_
  ·have b0:Bd 169 m:=by show _<2 ^ 169;omega
   walk_at "g"
   cases far with
   | true =>
    walk_at "g"
    refine r_d (fun _=>?_) (fun _=>?_)
    ·walk_at "g"
     refine⟨c,_,9,true,rfl,hc,by omega,by omega,by decide,by decide,fun u u0 u1=>?_⟩
     walk_at "g"
     exact⟨rfl,u,by show _<2 ^ 169;omega,rfl⟩
    ·walk_at "g"
     exact⟨rfl,m,b0,rfl⟩
   | false =>
    walk_at "g"
    exact⟨rfl,m,b0,rfl⟩
  rintro ρ S' ⟨rfl,hh,bh,rfl⟩
  have hlim:(cs.map p2).length<big:=by rw [List.length_map];unfold big;omega
  walk_at "g"
  refine⟨c,_,7,rfl,by omega,by omega,by decide,fun m' m0' m1' _=>?_⟩
  walk_at "g"
  refine r_J (fun ρ S'=>S'=S++[.lst (cs.map p2++[p2 (pl,hh)])]/\∃ wd:Int,1<=wd/\wd<=10 ^ 48/\ρ=[some (.int c),some (.int n),some (.bl far),some (.ref S.length),some (.int pl),some (.int (0+(i:Int))),some (.int hh),some (.int wd)]) ?_ ?_
  ·walk_at "g"
   cases far with
   | true =>
    walk_at "g"
    refine r_d (fun _=>?_) (fun _=>?_)
    ·walk_at "g"
     refine zkr hc (Hg.of (n:=200) (by show _<2 ^ 200;decide) (by decide)) ?_
     generalize c*7928331467292760530673834318599741=u
     have cm:zaE u (0+(i:Int)+3):=.inr (.inr (by omega))
     walk_at "g"
     have r1:=Int.emod_nonneg (u*(0+(i:Int)+3)) (show (1000000000000000000000000000000000000000000000000:Int)≠0 by decide)
     have r2:=Int.emod_lt_of_pos (u*(0+(i:Int)+3)) (show (0:Int)<1000000000000000000000000000000000000000000000000 by decide)
     exact⟨rfl,_,by omega,by omega,rfl⟩
    ·walk_at "g"
     exact⟨rfl,_,by omega,by omega,rfl⟩
   | false =>
    walk_at "g"
    exact⟨rfl,_,by omega,by omega,rfl⟩
  rintro ρ S' ⟨rfl,wd,d0,d1,rfl⟩
  walk_at "g"
  refine⟨cs++[(pl,hh)],pl+wd,_,_,_,by rw [List.map_append];rfl,rfl,by simp [hl],?_,?_,by omega,by omega⟩
  ·rw [List.pairwise_append]
   refine⟨asc,List.pairwise_singleton _ _,fun a ha b hb=>?_⟩
   have:b=(pl,hh):=by simpa using hb
   subst this
   exact (hcs a ha).1
  ·intro x hx
   rcases List.mem_append.mp hx with hx | hx
   ·obtain⟨a1,a2,a3⟩:=hcs x hx
    exact⟨by omega,a2,a3⟩
   ·have:x=(pl,hh):=by simpa using hx
    subst this
    exact⟨by show pl<pl+wd;omega,by show -(6*10 ^ 49)<=pl;omega,bh⟩
 ·rintro ρ S' ⟨cs,pl,w5,w6,w7,rfl,rfl,hl,asc,hcs,p0,p1⟩
  rw [zay] at hl p1
  walk_at "g"
  have hb:∀ x∈cs,Bd 169 x.1/\Bd 169 x.2:=fun x hx=>by
   obtain⟨a1,a2,a3⟩:=hcs x hx
   exact⟨by show _<2 ^ 169;omega,a3⟩
  refine fin_same (q cs (by omega) ⟨by omega,by omega,asc,fun x hx=>⟨(hb x hx).1.mono (by decide),(hb x hx).2.mono (by decide)⟩⟩ hb)
def zbE:DSp:=fun ds S Q=>∃ (ns:List Int) (st most:Int),ds=[.rl (ns.map D.int),.int st,.int most]/\ns.length<=63/\0<=st/\0<most/\most<60/\∀ zs:List Int,(zs.length:Int)<=most->(∀ z∈zs,0<=z/\z<10 ^ 60)->New Q S (zs.map D.int)
def zcP:DS :=
    (zJ (zN (zat zu) (zB 3))
 (zJ (zeb (zhQ (zc (zj 1) (zc (dB zan (zc (zj 0) zu)) zu))) (zB 4) (sIf (dT (dOp oLt (dB zan (zc (zj 3) zu)) (zj 2))) (zb5 (dM zdG (zj 3) (zc (dOp oMod (dOp oIx (zj 0) (zj 4)) (dC (.int 1000000000000000000000000000000000000000000000000000000000000))) zu))) (zJ (zN (dOp zX (dOp zaA (dOp oIx (zj 3) (dOp oMod (zj 4) (zj 2))) (dC (.int 10007))) (dOp oMod (dOp oIx (zj 0) (zj 4)) (dC (.int 1000000000000000000000000000000000000000000000000000000000000)))) (zB 5))
 (zN (dOp oMod (zj 5) (dC (.int 1000000000000000000000000000000000000000000000000000000000000))) (zh7 (zj 3) (dOp oMod (zj 4) (zj 2)))))))
 (zac (zj 3))))
theorem zg9:∀ ds So Q,zbE ds So Q->ds.length=3:=by rintro ds So Q ⟨_,_,_,rfl,_⟩;rfl
theorem zhE:BodyOk 6 zcP zbE:=by
 rintro ds S Q ⟨ns,st,most,rfl,hl,hst,h0,h1,q⟩
 unfold zcP
 walk_at "g"
 refine⟨_,_,rfl,?_⟩
 refine zcG (fun i ρ S'=>∃ zs w1 w2,ρ=[some (.rl (ns.map D.int)),some (.int st),some (.int most),some (.ref S.length),w1,w2]/\S'=S++[.lst (zs.map D.int)]/\(zs.length:Int)<=most/\∀ z∈zs,0<=z/\z<10 ^ 60)
  ⟨[],none,none,rfl,rfl,by show (0:Int)<=most;omega,by simp⟩ (fun _ _ _ _=>True.intro) ?_ ?_
 ·rintro i d ρ S' hd ⟨zs,w1,w2,rfl,rfl,hz,hb⟩
  obtain⟨hi,rfl⟩:=zbs hd
  rw [List.length_map] at hi
  obtain⟨v,_,av⟩:=zdO (zs:=ns) (k:=st+i) (by omega) (by omega)
  have hv1:=Int.emod_nonneg v (b:=1000000000000000000000000000000000000000000000000000000000000) (by decide)
  have hv2:=Int.emod_lt_of_pos v (b:=1000000000000000000000000000000000000000000000000000000000000) (by decide)
  walk_at "g"
  rw [List.length_map]
  refine r_d (fun g=>?_) (fun g=>?_)
  ·walk_at "g"
   refine⟨zs++[v%1000000000000000000000000000000000000000000000000000000000000],_,_,rfl,by rw [List.map_append];rfl,by rw [List.length_append];show ((zs.length+1:Nat):Int)<=most;omega,fun z hz=>?_⟩
   rcases List.mem_append.mp hz with hz | hz
   ·exact hb z hz
   ·have:z=v%1000000000000000000000000000000000000000000000000000000000000:=by simpa using hz
    subst this;exact⟨hv1,by omega⟩
  ·have m1:=Int.emod_nonneg (st+i) (b:=most) (by omega)
   have m2:=Int.emod_lt_of_pos (st+i) (b:=most) (by omega)
   obtain⟨u,hu,au⟩:=zdO (zs:=zs) (k:=(st+i)%most) m1 (by omega)
   have iu:=zpd (zs:=zs) (k:=(st+i)%most) m1 (by omega)
   walk_at "g"
   refine zpI zbB iu ?_
   walk_at "g"
   refine⟨zs.set _ _,_,_,rfl,by rw [List.map_set],by simpa using hz,fun z hz'=>?_⟩
   rcases zlw hz' with h | h
   ·exact hb z h
   ·subst h
    exact⟨Int.emod_nonneg _ (by decide),Int.lt_of_lt_of_le (Int.emod_lt_of_pos _ (by decide)) (by decide)⟩
 ·rintro ρ S' ⟨zs,w1,w2,rfl,rfl,hz,hb⟩
  walk_at "g"
  exact fin_same (q zs hz hb)
theorem zhU (i:Int)(h0:0<=i)(h1:i<26):atS "abcdefghijklmnopqrstuvwxyz" i=some (97+i.toNat):=by
 have:∀ j:_root_.Fin 26,atS "abcdefghijklmnopqrstuvwxyz" ((j.val:Nat):Int)=some (97+j.val):=by decide +kernel
 have:=this ⟨i.toNat,by omega⟩
 rwa [show ((i.toNat:Nat):Int)=i by omega] at this
def zdW (zs:List Str):Prop:=∃ a h b t:Nat,a∈abc/\b∈abc/\h<=3/\t<=4/\zs.Nodup/\∀ z∈zs,∃ c∈abc,z=nmW a h c b t
theorem zdW.nm {zs:List Str}(h:zdW zs){z:Str}(hz:z∈zs):nmB z=true:=by
 obtain⟨a,h,b,t,ha,hb,h3,h4,_,hs⟩:=h
 obtain⟨c,hc,rfl⟩:=hs z hz
 exact zn5 ha hb hc h3 h4
theorem zdW.ne {zs:List Str}(h:zdW zs){z:Str}(hz:z∈zs):z≠"xyxz":=by
 obtain⟨a,h,b,t,ha,hb,h3,h4,_,hs⟩:=h
 obtain⟨c,hc,rfl⟩:=hs z hz
 exact zm1
def zbT:DSp:=fun ds S Q=>∃ (c n:Int),ds=[.int c,.int n]/\0<=n/\n<=12/\∀ zs:List Str,(zs.length:Int)=n->zdW zs->New Q S (zs.map D.str)
def zdb:DS :=
    (zJ (zN (dC (.str "abcdefghijklmnopqrstuvwxyz")) (zB 2))
 (zJ (zN (dOp zaA (dOp oIx (zj 2) (dCall zH (zc (zj 0) (zc (dC (.int 70)) (zc (dC (.int 26)) zu))))) (dCall zH (zc (zj 0) (zc (dC (.int 71)) (zc (dC (.int 4)) zu))))) (zB 3))
 (zJ (zN (dOp zaA (dOp oIx (zj 2) (dCall zH (zc (zj 0) (zc (dC (.int 72)) (zc (dC (.int 26)) zu))))) (dCall zH (zc (zj 0) (zc (dC (.int 73)) (zc (dC (.int 5)) zu))))) (zB 4))
 (zac (dLC 1 [3,2,0,4] (zbM (zc (zj 1) zu)) (zB 0) zbj (dOp zX (dOp zX (zj 1) (dOp oIx (zj 2) (dOp oMod (dOp zX (dCall zH (zc (zj 3) (zc (dC (.int 74)) (zc (dC (.int 26)) zu)))) (dOp zaA (dC (.int 3)) (zj 0))) (dC (.int 26))))) (zj 4)))))))
theorem zhx:∀ ds So Q,zbT ds So Q->ds.length=2:=by rintro ds So Q ⟨_,_,rfl,_⟩;rfl
theorem zhV:BodyOk 5 zdb zbT:=by
 rintro ds S Q ⟨c,n,rfl,n0,n1,q⟩
 unfold zdb
 walk_at "g"
 refine⟨c,_,_,rfl,by decide,by decide,by decide,fun m m0 m1 _=>?_⟩
 refine zgA (c:=97+m.toNat) (by decide +kernel) (zhU m m0 m1) ?_
 walk_at "g"
 refine⟨c,_,_,rfl,by decide,by decide,by decide,fun h h0 h1 _=>?_⟩
 refine zlf (by show 1<=1000;decide) (by omega) (by omega) ?_
 rw [zil _ _ h0]
 walk_at "g"
 refine⟨c,_,_,rfl,by decide,by decide,by decide,fun l l0 l1 _=>?_⟩
 refine zgA (c:=97+l.toNat) (by decide +kernel) (zhU l l0 l1) ?_
 walk_at "g"
 refine⟨c,_,_,rfl,by decide,by decide,by decide,fun t t0 t1 _=>?_⟩
 refine zlf (by show 1<=1000;decide) (by omega) (by omega) ?_
 rw [zil _ _ t0]
 walk_at "g"
 refine⟨_,rfl,by omega,by omega,?_⟩
 have ha:97+m.toNat∈abc:=zfw.mpr (by omega)
 have hb:97+l.toNat∈abc:=zfw.mpr (by omega)
 have hq:∀ k:Nat,97+((zea c 74 26+3*(0+(k:Int)))%26).toNat∈abc:=fun k=>zfw.mpr (by omega)
 refine za1 (fun _=>true) (onI fun k=>.str (nmW (97+m.toNat) h.toNat (97+((zea c 74 26+3*k)%26).toNat) (97+l.toNat) t.toNat)) True.intro (by rw [zay];unfold big;omega) (fun i d ys hd hw=>?_) ?_
 ·obtain⟨hi,rfl⟩:=zbs hd
  walk_at "g"
  refine⟨c,_,_,rfl,by decide,by decide,by decide,fun u u0 u1 ue=>?_⟩
  subst ue
  have cm:zaE 3 (0+(i:Int)):=.inr (.inl (by decide))
  walk_at "g"
  refine zgA (c:=97+((zea c 74 26+3*(0+(i:Int)))%26).toNat) (by decide +kernel) (zhU _ (by omega) (by omega)) ?_
  have lh:(⟨(List.replicate h.toNat (97+m.toNat)).toArray⟩:Str).length=h.toNat:=by show (List.replicate h.toNat (97+m.toNat)).toArray.size=_;simp
  refine ziP (by rw [lh];show h.toNat+1<=big;unfold big;omega) ?_
  rw [show (⟨#[97+((zea c 74 26+3*(0+(i:Int)))%26).toNat]⟩:Str)=⟨[97+((zea c 74 26+3*(0+(i:Int)))%26).toNat].toArray⟩ from rfl,zgR]
  walk_at "g"
  refine ziP (by show (List.toArray _).size+(List.toArray _).size<=big;simp;unfold big;omega) ?_
  rw [zgR]
  refine zb9 hd hw rfl ?_
  show _=D.str (nmW _ _ _ _ _)
  unfold nmW
  rw [List.append_assoc];rfl
 rw [filter_true]
 obtain⟨zs,hzs,hzl,hzg⟩:∃ zs:List Str,(upto 0 n.toNat).map (onI fun k=>D.str (nmW (97+m.toNat) h.toNat (97+((zea c 74 26+3*k)%26).toNat) (97+l.toNat) t.toNat))=zs.map D.str/\zs.length=n.toNat/\∀ (i:Nat) z,zs[i]?=some z->i<n.toNat/\z=nmW (97+m.toNat) h.toNat (97+((zea c 74 26+3*(0+(i:Int)))%26).toNat) (97+l.toNat) t.toNat:=by
  refine⟨(List.range n.toNat).map fun k:Nat=>nmW (97+m.toNat) h.toNat (97+((zea c 74 26+3*(0+(k:Int)))%26).toNat) (97+l.toNat) t.toNat,?_,by simp,fun i z hz=>?_⟩
  ·unfold upto
   rw [List.map_map,List.map_map];rfl
  ·rw [List.getElem?_map] at hz
   by_cases hi:i<n.toNat
   ·rw [List.getElem?_range hi] at hz
    exact⟨hi,by simpa using hz.symm⟩
   ·rw [List.getElem?_eq_none (by simpa using hi)] at hz;cases hz
 rw [hzs]
 refine zgK (fin_same (q zs (by omega) ⟨97+m.toNat,h.toNat,97+l.toNat,t.toNat,ha,hb,by omega,by omega,?_,fun z hz=>?_⟩))
 ·refine List.pairwise_iff_getElem.mpr fun i j hi hj hij e=>?_
  obtain⟨i1,ei⟩:=hzg i _ (List.getElem?_eq_getElem hi)
  obtain⟨j1,ej⟩:=hzg j _ (List.getElem?_eq_getElem hj)
  rw [ei,ej] at e
  have:=zmP e
  omega
 ·obtain⟨i,hi,e⟩:=List.mem_iff_getElem.mp hz
  obtain⟨_,ez⟩:=hzg i z (by rw [List.getElem?_eq_getElem hi,e])
  exact⟨_,hq i,ez⟩
def zbA:DSp:=fun ds S Q=>∃ (x:D) (cs:List (Int×Int)) (a:Int),ds=[x,.int a]/\Lst S x (cs.map p2)/\Grd cs/\Bd 180 a/\OnG cs (a,1)/\Q (.int (zcq cs a)) S
def zcQ:DS :=
    (zJ (zeb (zbM (zc (dOp zax (dB zan (zc (zj 0) zu)) (dC (.int 1))) zu)) (zB 2) (zJ (zln 3 4 (zc (dOp oIx (zj 0) (zj 2)) (zc (dOp oIx (zj 0) (dOp zX (zj 2) (dC (.int 1)))) zu)))
 (sIf (zeE (dT (dOp oLe (dOp oIx (zj 3) (dC (.int 0))) (zj 1))) (dT (dOp oLe (zj 1) (dOp oIx (zj 4) (dC (.int 0)))))) (zJ (zN (dOp zaA (dOp zax (dOp oIx (zj 3) (dC (.int 1))) (dOp oIx (zj 4) (dC (.int 1)))) (dOp zax (zj 1) (dOp oIx (zj 3) (dC (.int 0))))) (zB 5))
 (zac (dOp zax (dOp oIx (zj 3) (dC (.int 1))) (dOp oDiv (zj 5) (dOp zax (dOp oIx (zj 4) (dC (.int 0))) (dOp oIx (zj 3) (dC (.int 0)))))))) z7)))
 (zac (dC .non)))
theorem zgL:∀ ds So Q,zbA ds So Q->ds.length=2:=by rintro ds So Q ⟨_,_,_,rfl,_⟩;rfl
theorem zhJ:BodyOk 6 zcQ zbA:=by
 rintro ds S Q ⟨x,cs,a,rfl,hx,gr,ba,on,q⟩
 unfold zcQ
 have g1:=gr.two
 obtain⟨kk,l,r,hkl,hkr,hle,hlt⟩:=zgC gr.two on.2
 have seg:=seg_at hkl hkr hle hlt
 have hle':a<=r.1:=by have:a<=r.1*1:=hle;omega
 have hab:=zbX gr (show kk<kk+1 by omega) hkl hkr
 have hlo:l.1<=a:=by
  cases kk with
  | zero =>
   obtain⟨f,hf,ef⟩:=zbV gr
   have h:=on.1
   rw [ef] at h
   rw [hkl] at hf;cases hf
   have:l.1*1<=a:=h
   omega
  | succ j =>
   have:=hlt (j+1) l (by omega) (by omega) hkl
   have:l.1*1<a:=this
   omega
 have q':Q (.int (l.2-((l.2-r.2)*(a-l.1))/(r.1-l.1))) S:=by
  have e:l.2-((l.2-r.2)*(a-l.1))/(r.1-l.1)=zcq cs a:=by
   unfold zcq
   rw [seg]
   unfold zdf hvT hvB
   dsimp only
   rw [if_pos (by omega),if_pos (by omega),Int.mul_one,Int.mul_one,Int.mul_one]
   have e2:-(l.2*(r.1-l.1)+(r.2-l.2)*(a-l.1))=(l.2-r.2)*(a-l.1)+(-l.2)*(r.1-l.1):=by grind
   rw [e2,Int.add_mul_ediv_right _ _ (by omega)]
   omega
  rw [e];exact q
 walk_at "g"
 rw [List.length_map]
 refine⟨_,rfl,by have:=gr.most;omega,by have:=gr.most;omega,?_⟩
 refine zcG (fun i ρ S'=>S'=S/\(∃ w2 w3 w4 w5:Option D,ρ=[some x,some (.int a),w2,w3,w4,w5])/\i<=kk) ⟨rfl,⟨none,none,none,none,rfl⟩,by omega⟩ (fun _ _ _ _=>True.intro) ?_ ?_
 ·rintro i d ρ S' hd ⟨rfl,⟨w2,w3,w4,w5,rfl⟩,hik⟩
  obtain⟨hi,rfl⟩:=zbs hd
  obtain⟨b,hb,ab⟩:=zfI (cs:=cs) (k:=0+(i:Int)) (by omega) (by omega)
  obtain⟨c,hc,ac⟩:=zfI (cs:=cs) (k:=0+(i:Int)+1) (by omega) (by omega)
  rw [show (0+(i:Int)).toNat=i by omega] at hb
  rw [show (0+(i:Int)+1).toNat=i+1 by omega] at hc
  have hbc:=zbX gr (show i<i+1 by omega) hb hc
  obtain⟨bb1,bb2⟩:=gr.bd b (List.mem_of_getElem? hb)
  obtain⟨bc1,bc2⟩:=gr.bd c (List.mem_of_getElem? hc)
  have cm:zaE (b.2-c.2) (a-b.1):=.inl ⟨(Bd.sub bb2 bc2).mono (by decide),(Bd.sub ba (bb1.mono (by decide))).mono (by decide)⟩
  have dv:0<c.1-b.1/\Bd 8000 (c.1-b.1):=⟨by omega,(Bd.sub bc1 bb1).mono (by decide)⟩
  walk_at "g"
  refine r_d (fun h1=>?_) (fun h1=>?_)
  ·walk_at "g"
   refine r_d (fun h2=>?_) (fun h2=>?_)
   ·have e:i=kk:=by
     rcases Nat.lt_or_ge i kk with z | z
     ·have:=hlt (i+1) c (by omega) (by omega) hc
      have:c.1*1<a:=this
      omega
     ·omega
    subst e
    rw [hkl] at hb;cases hb
    rw [hkr] at hc;cases hc
    walk_at "g"
    exact fin_same q'
   ·walk_at "g"
    refine⟨rfl,⟨_,_,_,_,rfl⟩,?_⟩
    rcases Nat.lt_or_ge i kk with z | z
    ·omega
    ·have:i=kk:=by omega
     subst this
     rw [hkr] at hc;cases hc;omega
  ·exfalso
   rcases Nat.lt_or_ge i kk with z | z
   ·rcases Nat.eq_zero_or_pos i with e | e
    ·subst e
     obtain⟨f,hf,ef⟩:=zbV gr
     rw [hb] at hf;cases hf
     have h:=on.1
     rw [ef] at h
     have:b.1*1<=a:=h
     omega
    ·have:=hlt i b e (by omega) hb
     have:b.1*1<a:=this
     omega
   ·have:i=kk:=by omega
    subst this
    rw [hkl] at hb;cases hb;omega
 ·rintro ρ S' ⟨rfl,_,hik⟩
  rw [zay] at hik
  have:=zcU hkr
  omega
structure zqa (cs:List (Int×Int))(bs:List (Str×(Int×Int))):Prop where
 nm:zdW (bs.map (·.1))
 st:∀ b∈bs,zby cs b.2/\Bd 175 b.2.1/\Bd 198 b.2.2
def zbq:DSp:=fun ds S Q=>∃ (u x y:D) (ns:List Int) (cs:List (Int×Int)) (zs:List Str),ds=[u,x,y]/\Lst S u (ns.map D.int)/\Lst S x (cs.map p2)/\Lst S y (zs.map D.str)/\zs.length<=ns.length/\zs.length<=12/\(∀ n∈ns,0<=n/\n<10 ^ 60)/\Grd cs/\zdW zs/\∀ bs:List (Str×(Int×Int)),bs.length=zs.length->zqa cs bs->New Q S (bs.map bcD)
def zcm:DS :=
    (zJ (zN (zat zu) (zB 3))
 (zJ (zN (dOp zX (dOp zax (dOp oIx (dOp oIx (zj 1) (dUn zeV (dC (.int 1)))) (dC (.int 0))) (dOp oIx (dOp oIx (zj 1) (dC (.int 0))) (dC (.int 0)))) (dC (.int 1))) (zB 4))
 (zJ (zeb (zbM (zc (dB zan (zc (zj 2) zu)) zu)) (zB 5) (zJ (zN (dOp oIx (zj 0) (zj 5)) (zB 6))
 (zJ (zN (dOp zX (dOp oIx (dOp oIx (zj 1) (dC (.int 0))) (dC (.int 0))) (dCall zH (zc (zj 6) (zc (dC (.int 40)) (zc (zj 4) zu))))) (zB 7))
 (zJ (sJ (sIf (dT (dOp oGt (zj 4) (dC (.int 100000000000000000000)))) (zN (dOp zX (dOp oIx (dOp oIx (zj 1) (dC (.int 0))) (dC (.int 0))) (dOp oMod (zj 6) (zj 4))) (zB 7)) z7))
 (zJ (sJ (sIf (dT (dOp oEq (dCall zH (zc (zj 6) (zc (dC (.int 41)) (zc (dC (.int 3)) zu)))) (dC (.int 0)))) (zN (dOp oIx (dOp oIx (zj 1) (dCall zH (zc (zj 6) (zc (dC (.int 42)) (zc (dB zan (zc (zj 1) zu)) zu))))) (dC (.int 0))) (zB 7)) z7))
 (zJ (zN (dOp oIx (zat (zc (dC (.int 0)) (zc (dCall zH (zc (zj 6) (zc (dC (.int 43)) (zc (dC (.int 4)) zu)))) (zc (dCall zH (zc (zj 6) (zc (dC (.int 44)) (zc (dC (.int 13)) zu)))) (zc (dOp oMod (zj 6) (dC (.int 10000000000000000000000000000000000000000))) zu))))) (dCall zH (zc (zj 6) (zc (dC (.int 45)) (zc (dC (.int 4)) zu))))) (zB 8))
 (zJ (sJ (sIf (dT (dOp oLt (zj 4) (dC (.int 100000000000000000000)))) (zN (dOp oMod (zj 8) (dC (.int 20))) (zB 8)) z7))
 (zb5 (dM zdG (zj 3) (zc (dTup (zc (dOp oIx (zj 2) (zj 5)) (zc (zj 7) (zc (dOp zX (dCall zbA (zc (zj 1) (zc (zj 7) zu))) (zj 8)) zu)))) zu))))))))))
 (zac (zj 3)))))
theorem zgt:∀ ds So Q,zbq ds So Q->ds.length=3:=by rintro ds So Q ⟨_,_,_,_,_,_,rfl,_⟩;rfl
theorem zgO:BodyOk 9 zcm zbq:=by
  rintro ds S Q ⟨u,x,y,ns,cs,zs,rfl,hu,hx,hy,zn,z12,hns,gr,nms,q⟩
  unfold zcm
  obtain⟨f,hf,ef⟩:=zbV gr
  obtain⟨lc,hlc,elc,alc⟩:=ziA gr
  have af:atD (cs.map p2) 0=some (p2 f):=zbW (i:=0) (by rw [List.getElem?_map,hf];rfl)
  have bf:=(gr.bd f (List.mem_of_getElem? hf)).1
  have bl:=(gr.bd lc (List.mem_of_getElem? hlc)).1
  have g1:=gr.two
  have g40:=gr.most
  have hfl:=zbX gr (show 0<cs.length-1 by omega) hf hlc
  have hx0:Lst (S++[.lst []]) x (cs.map p2):=hx.old
  have hy0:Lst (S++[.lst []]) y (zs.map D.str):=hy.old
  walk_at "g"
  walk_at "drho"
  rw [List.length_map]
  refine⟨_,rfl,by omega,by omega,?_⟩
  generalize hwd:lc.1-f.1+1=wd
  refine zcG (fun i ρ S'=>∃ (bs:List (Str×(Int×Int))) (G:Sto) (w5 w6 w7 w8:Option D),S'=S++Cell.lst (bs.map bcD)::G/\ρ=[some u,some x,some y,some (.ref S.length),some (.int wd),w5,w6,w7,w8]/\bs.length=i/\bs.map (·.1)=zs.take i/\∀ b∈bs,zby cs b.2/\Bd 175 b.2.1/\Bd 198 b.2.2) ⟨[],[],none,none,none,none,rfl,rfl,rfl,by simp,by simp⟩ (fun _ _ _ _=>True.intro) ?_ ?_
  · rintro i d ρ S' hd ⟨bs,G,w5,w6,w7,w8,rfl,rfl,hl,hnm,hst⟩
    obtain⟨hi,rfl⟩:=zbs hd
    have hin:0+(i:Int)<ns.length:=by omega
    obtain⟨c,hc,ac⟩:=zdO (zs:=ns) (k:=0+(i:Int)) (by omega) hin
    obtain⟨c0,c1⟩:=hns c hc
    have hu1:Lst (S++Cell.lst (bs.map bcD)::G) u (ns.map D.int):=hu.old
    have hx1:Lst (S++Cell.lst (bs.map bcD)::G) x (cs.map p2):=hx.old
    walk_at "g"
    refine⟨c,_,wd,rfl,by decide,by decide,by omega,fun m m0 m1 _=>?_⟩
    walk_at "g"
    refine r_J (fun ρ S'=>S'=S++Cell.lst (bs.map bcD)::G/\∃ pl:Int,f.1<=pl/\pl<=lc.1/\ρ=[some u,some x,some y,some (.ref S.length),some (.int wd),some (.int (0+(i:Int))),some (.int c),some (.int pl),w8]) ?_ ?_
    · walk_at "g"
      refine r_d (fun _=>?_) (fun _=>?_)
      · have r1:=Int.emod_nonneg c (show wd≠0 by omega)
        have r2:=Int.emod_lt_of_pos c (show 0<wd by omega)
        walk_at "g"
        exact⟨rfl,f.1+c%wd,by omega,by omega,rfl⟩
      · walk_at "g"
        exact⟨rfl,f.1+m,by omega,by omega,rfl⟩
    rintro ρ S' ⟨rfl,pl,p0,p1,rfl⟩
    walk_at "g"
    refine r_J (fun ρ S'=>S'=S++Cell.lst (bs.map bcD)::G/\∃ pl:Int,f.1<=pl/\pl<=lc.1/\ρ=[some u,some x,some y,some (.ref S.length),some (.int wd),some (.int (0+(i:Int))),some (.int c),some (.int pl),w8]) ?_ ?_
    · walk_at "g"
      refine⟨c,_,3,rfl,by decide,by decide,by decide,fun m' m0' m1' _=>?_⟩
      walk_at "g"
      refine r_d (fun _=>?_) (fun _=>?_)
      · walk_at "g"
        rw [List.length_map]
        refine⟨c,_,_,rfl,by decide,by decide,by omega,fun j j0 j1 _=>?_⟩
        obtain⟨cc,hcc,acc⟩:=zfI (cs:=cs) j0 j1
        have on:=zkA gr (List.mem_of_getElem? hcc)
        rw [ef,elc] at on
        walk_at "g"
        exact⟨rfl,cc.1,on.1,on.2,rfl⟩
      · walk_at "g"
        exact⟨rfl,pl,p0,p1,rfl⟩
    clear p0 p1 pl
    rintro ρ S' ⟨rfl,pl,p0,p1,rfl⟩
    walk_at "g"
    refine⟨c,_,4,rfl,by decide,by decide,by decide,fun a1 a10 a11 _=>?_⟩
    walk_at "g"
    refine⟨c,_,13,rfl,by decide,by decide,by decide,fun a2 a20 a21 _=>?_⟩
    have r1:=Int.emod_nonneg c (show (10000000000000000000000000000000000000000:Int)≠0 by decide)
    have r2:=Int.emod_lt_of_pos c (show (0:Int)<10000000000000000000000000000000000000000 by decide)
    walk_at "g"
    refine⟨c,_,4,rfl,by decide,by decide,by decide,fun a3 a30 a31 _=>?_⟩
    obtain⟨tw,htw,atw⟩:=zdO (zs:=[0,a1,a2,c%10000000000000000000000000000000000000000]) (k:=a3) a30 a31
    have tw0:0<=tw/\tw<10 ^ 40:=by
      simp only [List.mem_cons,List.not_mem_nil,or_false] at htw
      rcases htw with rfl | rfl | rfl | rfl<;>omega
    clear htw
    have atw':atD [.int 0,.int a1,.int a2,.int (c%10000000000000000000000000000000000000000)] a3=some (.int tw):=atw
    refine zjB (xs:=[.int 0,.int a1,.int a2,.int (c%10000000000000000000000000000000000000000)]) (by walk_at "dlat") atw' ?_
    obtain⟨G2,hG2⟩:∃ G2:Sto,G2=G++[Cell.lst [.int 0,.int a1,.int a2,.int (c%10000000000000000000000000000000000000000)]]:=⟨_,rfl⟩
    rw [show S++(Cell.lst (bs.map bcD)::G++[Cell.lst [D.int 0,.int a1,.int a2,.int (c%10000000000000000000000000000000000000000)]])=S++Cell.lst (bs.map bcD)::G2 by rw [hG2];simp]
    walk_at "g"
    walk_at "drho2"
    refine r_J (fun ρ S'=>S'=S++Cell.lst (bs.map bcD)::G2/\∃ tw:Int,0<=tw/\tw<10 ^ 40/\ρ=[some u,some x,some y,some (.ref S.length),some (.int wd),some (.int (0+(i:Int))),some (.int c),some (.int pl),some (.int tw)]) ?_ ?_
    · walk_at "g"
      refine r_d (fun _=>?_) (fun _=>?_)
      · walk_at "g"
        exact⟨rfl,tw%20,by omega,by omega,rfl⟩
      · walk_at "g"
        exact⟨rfl,tw,by omega,by omega,rfl⟩
    clear atw' atw tw0 tw hG2
    rintro ρ S' ⟨rfl,tw,t0,t1,rfl⟩
    have hlim:(bs.map bcD).length<big:=by rw [List.length_map];unfold big;omega
    obtain⟨z,hz⟩:∃ z,zs[i]?=some z:=⟨zs[i]'(by omega),List.getElem?_eq_getElem (by omega)⟩
    have az:atD (zs.map D.str) (0+(i:Int))=some (.str z):=by
      rw [show (0:Int)+(i:Int)=(i:Int) by omega]
      exact zbW (by rw [List.getElem?_map,hz];rfl)
    have hy2:Lst (S++Cell.lst (bs.map bcD)::G2) y (zs.map D.str):=hy.old
    have hx2:Lst (S++Cell.lst (bs.map bcD)::G2) x (cs.map p2):=hx.old
    walk_at "g"
    have on:OnG cs (pl,1):=⟨by rw [ef];show f.1*1<=pl;omega,by rw [elc];show pl<=lc.1*1;omega⟩
    have bp:Bd 170 pl:=Bd.btw bf bl p0 p1
    refine⟨x,cs,pl,rfl,hx2,gr,bp.mono (by decide),on,?_⟩
    have bF:=zlI gr on
    walk_at "g"
    refine⟨bs++[(z,(pl,zcq cs pl+tw))],G2,_,_,_,_,by rw [List.map_append];rfl,rfl,by simp [hl],by rw [List.map_append,hnm,zeT hz];rfl,fun b hb=>?_⟩
    rcases List.mem_append.mp hb with hb | hb
    · exact hst b hb
    · have:b=(z,(pl,zcq cs pl+tw)):=by simpa using hb
      subst this
      refine⟨(zmb gr (s:=(pl,zcq cs pl+tw)) on).mpr (by show zcq cs pl<=zcq cs pl+tw;omega),bp.mono (by decide),?_⟩
      exact (Bd.add (n:=192) bF (by show _<2 ^ 192;omega)).mono (by decide)
  rintro ρ S' ⟨bs,G,w5,w6,w7,w8,rfl,rfl,hl,hnm,hst⟩
  rw [zay] at hl hnm
  rw [List.take_of_length_le (by omega)] at hnm
  walk_at "g"
  refine zmG ?_ (q bs (by omega) ⟨by rw [hnm];exact nms,hst⟩)
  show (bs.map bcD).all (fl 20)=true
  rw [List.all_map,List.all_eq_true]
  intro b hb
  exact zp8 (nms.nm (by rw [<- hnm];exact List.mem_map.mpr ⟨b,hb,rfl⟩))
theorem at3 {a b c:Int}{k:Int}{P:Int->Prop}(h0:0<=k)(h1:k<3)(pa:P a)(pb:P b)(pc:P c):∃ v,P v/\atD [.int a,.int b,.int c] k=some (.int v):=by
  obtain⟨v,hv,av⟩:=zdO (zs:=[a,b,c]) (k:=k) h0 h1
  refine⟨v,?_,av⟩
  simp only [List.mem_cons,List.not_mem_nil,or_false] at hv
  rcases hv with rfl | rfl | rfl<;>assumption
theorem fb1 {x y m k:Int}(hx:Bd 198 x)(hy:Bd 198 y)(m0:0<=m)(m1:m<100)(k0:0<=k)(k1:k<100):Bd 230 ((x+y)/2+m-k):=by
 unfold Bd at *;omega
theorem fb2 {x w:Int}(hx:Bd 230 x)(hw:Bd 190 w):Bd 250 (x+w):=by
 unfold Bd at *;omega
theorem fb3 {a b m:Int}(ha:Bd 250 a)(hb:Bd 250 b)(m0:0<=m)(m1:m<b-a+3):Bd 260 (a+m-1):=by
 unfold Bd at *;omega
theorem fb4 {a e:Int}(ha:Bd 260 a)(e0:0<=e)(e1:e<=1000):Bd 280 (a+e):=by
 unfold Bd at *;omega
theorem fb5 {x y:Int}(hx:Bd 175 x)(hy:Bd 175 y):(0:Int)<=(x-y).natAbs/\Bd 190 ((x-y).natAbs:Int)/\Bd 190 ((x-y).natAbs/3:Int):=by
 unfold Bd at *;omega
theorem fb6 {m:Int}(m0:-10<=m)(m1:m<100):Bd 190 m:=by
 show _<2 ^ 190;omega
structure FgW (h0 h1:Int)(F:Fg):Prop where
 v:FgV F
 a:h0-1<=F.f
 b:F.f<=h1+1
 c:F.l<=F.f+1000
theorem zo1 {h0 h1 a w b r m e g s:Int}(u0:Bd 250 a)(u1:Bd 250 (a+w))(u2:Bd 250 b)(u3:Bd 250 (b+r))(u4:Bd 260 (h0+m-1))(u5:Bd 280 (h0+m-1+e))(bg:Bd 190 g)(bs:Bd 190 s)(w0:0<=w)(r0:0<=r)(m0:0<=m)(m1:m<h1-h0+3)(e0:0<=e)(e1:e<=1000):FgW h0 h1 ⟨a,a+w,b,b+r,h0+m-1,h0+m-1+e,g,s⟩ :=
 ⟨⟨⟨by dsimp only;omega,by dsimp only;omega,u0.mono (by decide),u1.mono (by decide),u2.mono (by decide),u3.mono (by decide),bg.mono (by decide),bs.mono (by decide)⟩,by dsimp only;omega,u4.mono (by decide),u5.mono (by decide)⟩,by dsimp only;omega,by dsimp only;omega,by dsimp only;omega⟩
def zcE:DSp:=fun ds S Q=>∃ (c:Int) (x y:D) (bs:List (Str×(Int×Int))) (h0 h1:Int),ds=[.int c,x,y,.int h0,.int h1]/\Lst S y (bs.map bcD)/\1<=bs.length/\bs.length<=12/\(∀ b∈bs,Bd 175 b.2.1/\Bd 198 b.2.2)/\h0<=h1/\Bd 250 h0/\Bd 250 h1/\∀ F:Fg,FgW h0 h1 F->Q (fgD F) S
def zd2:DS :=
    (zJ (zN (dOp oIx (zj 2) (dCall zH (zc (zj 0) (zc (dC (.int 50)) (zc (dB zan (zc (zj 2) zu)) zu))))) (zB 5))
 (zJ (zN (dOp oIx (zj 2) (dCall zH (zc (zj 0) (zc (dC (.int 51)) (zc (dB zan (zc (zj 2) zu)) zu))))) (zB 6))
 (zJ (zN (dOp zax (dOp zX (dOp oDiv (dOp zX (dOp oIx (zj 5) (dC (.int 1))) (dOp oIx (zj 6) (dC (.int 1)))) (dC (.int 2))) (dCall zH (zc (zj 0) (zc (dC (.int 52)) (zc (dC (.int 7)) zu))))) (dC (.int 3))) (zB 7))
 (zJ (zN (dOp zax (dOp zX (dOp oDiv (dOp zX (dOp oIx (zj 5) (dC (.int 2))) (dOp oIx (zj 6) (dC (.int 2)))) (dC (.int 2))) (dCall zH (zc (zj 0) (zc (dC (.int 53)) (zc (dC (.int 9)) zu))))) (dC (.int 5))) (zB 8))
 (zJ (zN (dOp zax (dOp zX (zj 3) (dCall zH (zc (zj 0) (zc (dC (.int 54)) (zc (dOp zX (dOp zax (zj 4) (zj 3)) (dC (.int 3))) zu))))) (dC (.int 1))) (zB 9))
 (zJ (zN (dOp zX (zj 9) (dOp oIx (zat (zc (dCall zH (zc (zj 0) (zc (dC (.int 55)) (zc (dC (.int 4)) zu)))) (zc (dCall zH (zc (zj 0) (zc (dC (.int 55)) (zc (dC (.int 12)) zu)))) (zc (dC (.int 1000)) zu)))) (dCall zH (zc (zj 0) (zc (dC (.int 56)) (zc (dC (.int 3)) zu)))))) (zB 10))
 (zJ (zN (dOp oIx (zat (zc (dCall zH (zc (zj 0) (zc (dC (.int 57)) (zc (dC (.int 3)) zu)))) (zc (dCall zH (zc (zj 0) (zc (dC (.int 57)) (zc (dC (.int 9)) zu)))) (zc (dB zhS (zc (dOp zax (dOp oIx (zj 5) (dC (.int 1))) (dOp oIx (zj 6) (dC (.int 1)))) zu)) zu)))) (dCall zH (zc (zj 0) (zc (dC (.int 58)) (zc (dC (.int 3)) zu))))) (zB 11))
 (zJ (zN (dOp oIx (zat (zc (dC (.int 0)) (zc (dOp zax (dCall zH (zc (zj 0) (zc (dC (.int 59)) (zc (dC (.int 5)) zu)))) (dC (.int 2))) (zc (dOp oDiv (dB zhS (zc (dOp zax (dOp oIx (zj 5) (dC (.int 1))) (dOp oIx (zj 6) (dC (.int 1)))) zu)) (dC (.int 3))) zu)))) (dCall zH (zc (zj 0) (zc (dC (.int 60)) (zc (dC (.int 3)) zu))))) (zB 12))
 (zJ (zN (dOp oIx (zat (zc (dC (.int 0)) (zc (dC (.int 0)) (zc (dOp zax (dCall zH (zc (zj 0) (zc (dC (.int 61)) (zc (dC (.int 5)) zu)))) (dC (.int 2))) zu)))) (dCall zH (zc (zj 0) (zc (dC (.int 62)) (zc (dC (.int 3)) zu))))) (zB 13))
 (zac (dTup (zc (zj 7) (zc (dOp zX (zj 7) (zj 11)) (zc (zj 8) (zc (dOp zX (zj 8) (dCall zH (zc (zj 0) (zc (dC (.int 63)) (zc (dC (.int 9)) zu))))) (zc (zj 9) (zc (zj 10) (zc (zj 12) (zc (zj 13) zu)))))))))))))))))))
theorem ziR:∀ ds So Q,zcE ds So Q->ds.length=5:=by rintro ds So Q ⟨_,_,_,_,_,_,rfl,_⟩;rfl
theorem zjP:BodyOk 14 zd2 zcE:=by
 rintro ds S Q ⟨c,x,y,bs,h0,h1,rfl,hy,l1,l12,hbs,hh,b0,b1,q⟩
 unfold zd2
 walk_at "g"
 try walk_at "drho"
 rw [List.length_map]
 refine⟨c,_,_,rfl,by decide,by decide,by omega,fun i i0 i1 _=>?_⟩
 obtain⟨o,ho,ao⟩:=zmv (bs:=bs) i0 i1
 obtain⟨bo1,bo2⟩:=hbs o (List.mem_of_getElem? ho)
 walk_at "g"
 try walk_at "drho2"
 rw [List.length_map]
 refine⟨c,_,_,rfl,by decide,by decide,by omega,fun j j0 j1 _=>?_⟩
 obtain⟨t,ht,at'⟩:=zmv (bs:=bs) j0 j1
 obtain⟨bt1,bt2⟩:=hbs t (List.mem_of_getElem? ht)
 clear ho ht ao hbs
 walk_at "g"
 try walk_at "drho2"
 refine⟨c,_,_,rfl,by decide,by decide,by decide,fun m1 m10 m11 _=>?_⟩
 walk_at "g"
 try walk_at "drho2"
 refine⟨c,_,_,rfl,by decide,by decide,by decide,fun m2 m20 m21 _=>?_⟩
 walk_at "g"
 try walk_at "drho2"
 refine⟨c,_,_,rfl,by decide,by decide,by omega,fun m3 m30 m31 _=>?_⟩
 walk_at "g"
 refine⟨c,_,_,rfl,by decide,by decide,by omega,fun m4 m40 m41 _=>?_⟩
 walk_at "g"
 refine⟨c,_,_,rfl,by decide,by decide,by omega,fun m5 m50 m51 _=>?_⟩
 walk_at "g"
 try walk_at "drho2"
 refine⟨c,_,_,rfl,by decide,by decide,by omega,fun m6 m60 m61 _=>?_⟩
 obtain⟨e,⟨e0,e1⟩,ae⟩:=at3 (a:=m4) (b:=m5) (c:=1000) (k:=m6) (P:=fun v=>0<=v/\v<=1000) m60 m61 (by omega) (by omega) (by omega)
 walk_at "g"
 refine⟨c,_,_,rfl,by decide,by decide,by omega,fun n4 n40 n41 _=>?_⟩
 walk_at "g"
 refine⟨c,_,_,rfl,by decide,by decide,by omega,fun n5 n50 n51 _=>?_⟩
 walk_at "g"
 try walk_at "drho2"
 refine⟨c,_,_,rfl,by decide,by decide,by omega,fun n6 n60 n61 _=>?_⟩
 obtain⟨wd,⟨wd0,bwd⟩,awd⟩:=at3 (a:=n4) (b:=n5) (c:=(o.2.1-t.2.1).natAbs) (k:=n6) (P:=fun v=>0<=v/\Bd 190 v) n60 n61 ⟨n40,fb6 (by omega) (by omega)⟩ ⟨n50,fb6 (by omega) (by omega)⟩ ⟨(fb5 bo1 bt1).1,(fb5 bo1 bt1).2.1⟩
 walk_at "g"
 refine⟨c,_,_,rfl,by decide,by decide,by omega,fun p4 p40 p41 _=>?_⟩
 walk_at "g"
 try walk_at "drho2"
 refine⟨c,_,_,rfl,by decide,by decide,by omega,fun p6 p60 p61 _=>?_⟩
 obtain⟨dr,bdr,adr⟩:=at3 (a:=0) (b:=p4-2) (c:=(o.2.1-t.2.1).natAbs/3) (k:=p6) (P:=fun v=>Bd 190 v) p60 p61 (fb6 (by decide) (by decide)) (fb6 (by omega) (by omega)) (fb5 bo1 bt1).2.2
 walk_at "g"
 refine⟨c,_,_,rfl,by decide,by decide,by omega,fun q4 q40 q41 _=>?_⟩
 walk_at "g"
 try walk_at "drho2"
 refine⟨c,_,_,rfl,by decide,by decide,by omega,fun q6 q60 q61 _=>?_⟩
 obtain⟨rs,brs,ars⟩:=at3 (a:=0) (b:=0) (c:=q4-2) (k:=q6) (P:=fun v=>Bd 190 v) q60 q61 (fb6 (by decide) (by decide)) (fb6 (by decide) (by decide)) (fb6 (by omega) (by omega))
 walk_at "g"
 refine⟨c,_,_,rfl,by decide,by decide,by omega,fun r4 r40 r41 _=>?_⟩
 walk_at "g"
 have v0:=fb1 (k:=3) (bo1.mono (by decide)) (bt1.mono (by decide)) m10 (by omega) (by decide) (by decide)
 have v2:=fb1 (k:=5) (bo2.mono (by decide)) (bt2.mono (by decide)) m20 (by omega) (by decide) (by decide)
 have v4:=fb3 b0 b1 m30 m31
 exact zbf rfl (q _ (zo1 (v0.mono (by decide)) (fb2 v0 bwd) (v2.mono (by decide)) (fb2 v2 (fb6 (by omega) (by omega))) v4 (fb4 v4 e0 e1) bdr brs wd0 r40 m30 m31 e0 e1))
structure VlW (V:Vl)(most fogs hours:Int):Prop where
 ok:zq3 V
 nm:zdW (V.bs.map (·.1))
 mb:(V.bs.length:Int)<=most
 mf:(V.fs.length:Int)<=fogs
 hr:V.h1<V.h0+hours
 d3:V.dl<=3
 h59:∀ z,V.hz=some z->z<=10 ^ 59
 st:∀ b∈V.bs,Bd 175 b.2.1/\Bd 198 b.2.2
 cb:∀ c∈V.cs,Bd 169 c.1/\Bd 169 c.2
 fw:∀ F∈V.fs,FgW V.h0 V.h1 F
 b0:Bd 170 V.h0
abbrev vlD (x y z:D)(V:Vl):D:=.tup [x,y,z,zcd V.hz,.int V.h0,.int V.h1,.int V.dl]
def VlS (S:Sto)(x y z:D)(V:Vl):Prop:=Lst S x (V.cs.map p2)/\Lst S y (V.bs.map bcD)/\Lst S z (V.fs.map fgD)
theorem VlS.old {S T:Sto}{x y z:D}{V:Vl}(h:VlS S x y z V):VlS (S++T) x y z V:=⟨h.1.old,h.2.1.old,h.2.2.old⟩
def zch:DSp:=fun ds S Q=>∃ (ns:List Int) (most fogs hours:Int),ds=[.rl (ns.map D.int),.int most,.int fogs,.int hours]/\ns.length<=63/\(∀ n∈ns,Hg n)/\1<=most/\most<=12/\0<=fogs/\fogs<=12/\1<=hours/\hours<=10 ^ 49/\∀ (T:Sto) (x y z:D) (V:Vl),VlW V most fogs hours->VlS (S++T) x y z V->Q (vlD x y z V) (S++T)
def zdy:DS :=
    (zJ (zN (dCall zbt (zc (zj 0) (zc (dC (.int 0)) zu))) (zB 4))
 (zJ (zN (dOp oEq (dCall zH (zc (zj 4) (zc (dC (.int 0)) (zc (dC (.int 3)) zu)))) (dC (.int 0))) (zB 5))
 (zJ (zN (dOp zX (dC (.int 1)) (dCall zH (zc (zj 4) (zc (dC (.int 1)) (zc (zj 1) zu))))) (zB 6))
 (zJ (zN (dCall zbp (zc (dCall zbt (zc (zj 0) (zc (dC (.int 1)) zu))) (zc (dOp zX (dC (.int 2)) (dCall zH (zc (zj 4) (zc (dC (.int 2)) (zc (dC (.int 6)) zu))))) (zc (zj 5) zu)))) (zB 7))
 (zJ (zN (dOp zX (dCall zbE (zc (zj 0) (zc (dC (.int 2)) (zc (dOp zX (zj 6) (zj 2)) zu)))) (dLC 1 [] (zbM (zc (zj 6) zu)) (zB 0) zbj (dC (.int 0)))) (zB 8))
 (zJ (zN (dCall zbq (zc (zj 8) (zc (zj 7) (zc (dCall zbT (zc (zj 4) (zc (zj 6) zu))) zu)))) (zB 9))
 (zJ (zN (dOp oIx (zat (zc (dOp zax (dCall zH (zc (zj 4) (zc (dC (.int 3)) (zc (dC (.int 9)) zu)))) (dC (.int 4))) (zc (dOp oMod (zj 4) (dC (.int 100000000000000000000000000000000000000000000000000))) zu))) (dOp oDiv (dCall zH (zc (zj 4) (zc (dC (.int 4)) (zc (dC (.int 3)) zu)))) (dC (.int 2)))) (zB 10))
 (zJ (zN (dOp zX (zj 10) (dCall zH (zc (zj 4) (zc (dC (.int 5)) (zc (zj 3) zu))))) (zB 11))
 (zJ (zN (dLC 1 [7,9,10,11] (zc0 (dSl zc5 (zj 8) (some (zj 6)) (some (dOp zax (dB zan (zc (zj 8) zu)) (zj 6))))) (zB 0) zbj (dCall zcE (zc (zj 0) (zc (zj 1) (zc (zj 2) (zc (zj 3) (zc (zj 4) zu))))))) (zB 12))
 (zJ (zN (dOp oIx (zat (zc (dC .non) (zc (dCall zH (zc (zj 4) (zc (dC (.int 6)) (zc (dC (.int 400)) zu)))) (zc (dC (.int 100000000000000000000000000000000000000000000000000000000000)) zu)))) (dCall zH (zc (zj 4) (zc (dC (.int 7)) (zc (dC (.int 3)) zu))))) (zB 13))
 (zac (dTup (zc (zj 7) (zc (zj 9) (zc (zj 12) (zc (zj 13) (zc (zj 10) (zc (zj 11) (zc (dCall zH (zc (zj 4) (zc (dC (.int 8)) (zc (dC (.int 4)) zu)))) zu)))))))))))))))))))
theorem zij:∀ ds So Q,zch ds So Q->ds.length=4:=by rintro ds So Q ⟨_,_,_,_,rfl,_⟩;rfl
theorem zi9:BodyOk 14 zdy zch:=by
  rintro ds S Q ⟨ns,most,fogs,hours,rfl,hl,hg,m1,m12,f0,f12,hr1,hr2,q⟩
  unfold zdy
  walk_at "g"
  refine⟨ns,0,rfl,hg,by decide,fun hd hhd=>?_⟩
  walk_at "g"
  refine⟨hd,0,3,rfl,by decide,by decide,by decide,fun a0 _ _ _=>?_⟩
  walk_at "g"
  refine⟨hd,1,most,rfl,by decide,by decide,by omega,fun a1 a10 a11 _=>?_⟩
  walk_at "g"
  refine⟨ns,1,rfl,hg,by decide,fun c1 hc1=>?_⟩
  walk_at "g"
  refine⟨hd,2,6,rfl,by decide,by decide,by decide,fun a2 a20 a21 _=>?_⟩
  walk_at "g"
  refine⟨c1,_,_,rfl,hc1,by omega,by omega,fun cs hcl gr hcb=>?_⟩
  unfold New
  walk_at "drho"
  obtain⟨S1,hS1⟩:∃ S1:Sto,S1=S++[.lst (cs.map p2)]:=⟨_,rfl⟩
  have kc1:Lst S1 (.ref S.length) (cs.map p2):=hS1▸Lst.at0
  rw [<- hS1]
  walk_at "g"
  refine⟨ns,2,1+a1+fogs,rfl,hl,by decide,by omega,by omega,fun zs hzl hzs=>?_⟩
  walk_at "g"
  refine⟨1+a1,rfl,by omega,by omega,?_⟩
  refine za1 (fun _=>true) (onI fun _=>.int 0) True.intro (by rw [zay];unfold big;omega) (fun i d ys hd hw=>?_) ?_
  · obtain⟨hi,rfl⟩:=zbs hd
    walk_at "g"
    exact zb9 hd hw rfl rfl
  rw [filter_true]
  obtain⟨os,hos,hol,hoz⟩:∃ os:List Int,(upto 0 (1+a1).toNat).map (onI fun _=>D.int 0)=os.map D.int/\os.length=(1+a1).toNat/\∀ z∈os,z=0:=by
    refine⟨List.replicate (1+a1).toNat 0,?_,by simp,fun z hz=>List.eq_of_mem_replicate hz⟩
    unfold upto
    rw [List.map_map,List.map_replicate]
    refine List.ext_getElem (by simp) fun j h1 h2=>?_
    simp [onI]
  rw [hos]
  clear hos
  walk_at "g"
  refine zaS (xs:=zs.map D.int) (ys:=os.map D.int) (by walk_at "dlat") (by walk_at "dlat") (by rw [List.length_map,List.length_map];unfold big;omega) ?_
  rw [<- List.map_append]
  have hmn:∀ n∈zs++os,0<=n/\n<10 ^ 60:=fun n hn=>by
    rcases List.mem_append.mp hn with h | h
    · exact hzs n h
    · rw [hoz n h];decide
  have hml:(zs++os).length=zs.length+(1+a1).toNat:=by rw [List.length_append,hol]
  generalize zs++os=nb at hmn hml
  walk_at "g"
  walk_at "drho2"
  obtain⟨S2,hS2⟩:∃ S2:Sto,S2=S1++[.lst (zs.map D.int),.lst (os.map D.int),.lst (nb.map D.int)]:=⟨_,rfl⟩
  have kn2:Lst S2 (.ref (S1.length+2)) (nb.map D.int):=hS2▸Lst.at rfl
  have kc2:Lst S2 (.ref S.length) (cs.map p2):=hS2▸kc1.old
  rw [<- hS2]
  walk_at "g"
  refine⟨hd,_,rfl,by omega,by omega,fun nm hnl hnm=>?_⟩
  unfold New
  obtain⟨S3,hS3⟩:∃ S3:Sto,S3=S2++[.lst (nm.map D.str)]:=⟨_,rfl⟩
  have ks3:Lst S3 (.ref S2.length) (nm.map D.str):=hS3▸Lst.at0
  have kn3:Lst S3 (.ref (S1.length+2)) (nb.map D.int):=hS3▸kn2.old
  have kc3:Lst S3 (.ref S.length) (cs.map p2):=hS3▸kc2.old
  rw [<- hS3]
  walk_at "g"
  refine⟨_,_,_,nb,cs,nm,rfl,kn3,kc3,ks3,by omega,by omega,hmn,gr,hnm,fun bs hbl hbo=>?_⟩
  unfold New
  obtain⟨S4,hS4⟩:∃ S4:Sto,S4=S3++[.lst (bs.map bcD)]:=⟨_,rfl⟩
  have kb4:Lst S4 (.ref S3.length) (bs.map bcD):=hS4▸Lst.at0
  have kn4:Lst S4 (.ref (S1.length+2)) (nb.map D.int):=hS4▸kn3.old
  have kc4:Lst S4 (.ref S.length) (cs.map p2):=hS4▸kc3.old
  rw [<- hS4]
  walk_at "g"
  refine⟨hd,3,9,rfl,by decide,by decide,by decide,fun a3 a30 a31 _=>?_⟩
  walk_at "g"
  refine⟨hd,4,3,rfl,by decide,by decide,by decide,fun a4 a40 a41 _=>?_⟩
  have r1:=Int.emod_nonneg hd (show (100000000000000000000000000000000000000000000000000:Int)≠0 by decide)
  have r2:=Int.emod_lt_of_pos hd (show (0:Int)<100000000000000000000000000000000000000000000000000 by decide)
  walk_at "g"
  obtain⟨h0,hh0,ah0⟩:=zdO (zs:=[a3-4,hd%100000000000000000000000000000000000000000000000000]) (k:=a4/2) (by omega) (by show _<(2:Int);omega)
  have ah0':atD [.int (a3-4),.int (hd%100000000000000000000000000000000000000000000000000)] (a4/2)=some (.int h0):=ah0
  have bh0:-4<=h0/\h0<10 ^ 50:=by
    simp only [List.mem_cons,List.not_mem_nil,or_false] at hh0
    rcases hh0 with rfl | rfl<;>omega
  clear hh0 ah0
  walk_at "g"
  refine⟨hd,5,hours,rfl,by decide,by decide,by omega,fun a5 a50 a51 _=>?_⟩
  obtain⟨S5,hS5⟩:∃ S5:Sto,S5=S4++[.lst [.int (a3-4),.int (hd%100000000000000000000000000000000000000000000000000)]]:=⟨_,rfl⟩
  have kb5:Lst S5 (.ref S3.length) (bs.map bcD):=hS5▸kb4.old
  have kn5:Lst S5 (.ref (S1.length+2)) (nb.map D.int):=hS5▸kn4.old
  have kc5:Lst S5 (.ref S.length) (cs.map p2):=hS5▸kc4.old
  rw [<- hS5]
  walk_at "drho2"
  walk_at "g"
  rw [List.length_map,zgP]
  have hfl:(cutD nb (some (1+a1)) (some ((nb.length:Int)-(1+a1)))).length<=fogs.toNat:=by
    refine Nat.le_trans (zb3 _ _ _) ?_
    unfold slD
    dsimp only
    rw [if_neg (by omega),if_neg (by omega)]
    omega
  generalize cutD nb (some (1+a1)) (some ((nb.length:Int)-(1+a1)))=fcs at hfl
  obtain⟨S6,hS6⟩:∃ S6:Sto,S6=S5++[.lst (fcs.map D.int)]:=⟨_,rfl⟩
  have kf6:Lst S6 (.ref S5.length) (fcs.map D.int):=hS6▸Lst.at0
  have kb6:Lst S6 (.ref S3.length) (bs.map bcD):=hS6▸kb5.old
  have kc6:Lst S6 (.ref S.length) (cs.map p2):=hS6▸kc5.old
  rw [<- hS6]
  have hb250:Bd 250 h0/\Bd 250 (h0+a5)/\Bd 170 h0:=⟨by show _<2 ^ 250;omega,by show _<2 ^ 250;omega,by show _<2 ^ 170;omega⟩
  refine zmw (fun i ys S'=>S'=S6/\∃ fs:List Fg,ys=fs.map fgD/\fs.length=i/\∀ F∈fs,FgW h0 (h0+a5) F) ⟨rfl,[],rfl,rfl,by simp⟩ (fun i ys S' h=>h.1▸kf6) (by rw [List.length_map];unfold big;omega) ?_ ?_
  · rintro i d ys S' hd ⟨rfl,fs,rfl,hfl',hfs⟩
    obtain⟨v,_,rfl⟩:=zjh hd
    walk_at "g"
    refine⟨v,_,_,bs,h0,h0+a5,rfl,kb6,by omega,by omega,fun b hb=>(hbo.st b hb).2,by omega,hb250.1,hb250.2.1,fun F hF=>?_⟩
    refine⟨rfl,fs++[F],by rw [List.map_append];rfl,by simp [hfl'],fun G hG=>?_⟩
    rcases List.mem_append.mp hG with h | h
    · exact hfs G h
    · have:G=F:=by simpa using h
      subst this;exact hF
  rintro ys S' ⟨rfl,fs,rfl,hfl2,hfs⟩
  rw [List.length_map] at hfl2
  unfold New
  obtain⟨S7,hS7⟩:∃ S7:Sto,S7=S'++[.lst (fs.map fgD)]:=⟨_,rfl⟩
  have kf7:Lst S7 (.ref S'.length) (fs.map fgD):=hS7▸Lst.at0
  have kb7:Lst S7 (.ref S3.length) (bs.map bcD):=hS7▸kb6.old
  have kc7:Lst S7 (.ref S.length) (cs.map p2):=hS7▸kc6.old
  have e7:∃ T,S7=S++T:=zcZ (zcZ (zcZ (zcZ (zcZ (zcZ ⟨_,hS1⟩ hS2) hS3) hS4) hS5) hS6) hS7
  rw [<- hS7]
  clear hS7 hS6 hS5 hS4 hS3 hS2 hS1
  walk_at "g"
  refine⟨hd,6,400,rfl,by decide,by decide,by decide,fun a6 a60 a61 _=>?_⟩
  walk_at "g"
  refine⟨hd,7,3,rfl,by decide,by decide,by decide,fun a7 a70 a71 _=>?_⟩
  obtain⟨hz,ahz,hz0⟩:∃ hz:Option Int,atD [.non,.int a6,.int 100000000000000000000000000000000000000000000000000000000000] a7=some (zcd hz)/\∀ z,hz=some z->0<=z/\z<=10 ^ 59:=by
    have:a7=0\/a7=1\/a7=2:=by omega
    rcases this with rfl | rfl | rfl
    · exact⟨none,rfl,fun z h=>by cases h⟩
    · exact⟨some a6,rfl,fun z h=>by cases h;omega⟩
    · exact⟨some 100000000000000000000000000000000000000000000000000000000000,rfl,fun z h=>by cases h;decide⟩
  walk_at "g"
  refine⟨hd,8,4,rfl,by decide,by decide,by decide,fun a8 a80 a81 _=>?_⟩
  walk_at "g"
  obtain⟨T7,rfl⟩:=e7
  rw [List.append_assoc]
  have hbl':(bs.length:Int)=1+a1:=by omega
  refine fin_same (q _ _ _ _ ⟨cs,bs,fs,hz,h0,h0+a5,a8⟩ ?_ (by rw [<- List.append_assoc];exact VlS.old ⟨kc7,kb7,kf7⟩))
  exact { ok:={ gr:=gr,b1:=by show 1<=bs.length;omega,b12:=by show bs.length<=12;omega,nm:=fun b hb=>hbo.nm.nm (List.mem_map.mpr ⟨b,hb,rfl⟩),nd:=let ⟨_,_,_,_,_,_,_,_,h,_⟩:=hbo.nm;h,st:=fun b hb=>(hbo.st b hb).1,bd:=fun b hb=>⟨(hbo.st b hb).2.1.mono (by decide),(hbo.st b hb).2.2.mono (by decide)⟩,f12:=by show fs.length<=12;omega,fg:=fun F hF=>(hfs F hF).v,hz:=fun z h=>(hz0 z h).1,hh:=by show h0<=h0+a5;omega,b0:=hb250.1,bl:=hb250.2.1,dl:=a80 },nm:=hbo.nm,mb:=by show (bs.length:Int)<=most;omega,mf:=by show (fs.length:Int)<=fogs;omega,hr:=by show h0+a5<h0+hours;omega,d3:=by show a8<=3;omega,h59:=fun z h=>(hz0 z h).2,st:=fun b hb=>(hbo.st b hb).2,cb:=hcb,fw:=hfs,b0:=hb250.2.2 }
def zbG:DSp:=fun ds S Q=>∃ (k c:Int) (x y z:D) (cs:List (Int×Int)) (a:Int) (s:Vs) (c0 cl:Int×Int) (u1 u2 u3:Unit),ds=[.int k,.int c,.tup [x,y,z,zcd s.hz,.int a,.int s.b,.int s.d]]/\0<=k/\k<=8/\Lst S x (cs.map p2)/\Grd cs/\(∀ q∈cs,Bd 169 q.1/\Bd 169 q.2)/\cs[0]?=some c0/\zer S y z s/\s.bs.length<=20/\s.gs.length<=20/\(k=8->0<=s.d)/\∀ (T:Sto) (y' z':D) (t:Vs),zep cs (c0.1,c0.2+3) k a 8 s t->zer (S++T) y' z' t->Q (.tup [x,y',z',zcd t.hz,.int a,.int t.b,.int t.d]) (S++T)
theorem zoU {t:DS}{kk}{ρ:Rho}{S:Sto}{W:Rho->Sto->Prop}(h0:W ρ S)(h:∀ ρ S,W ρ S->t kk ρ S):t kk ρ S:=h ρ S h0
theorem Spl.mk1 {cs:List (Int×Int)}{one:Int×Int}{k a:Int}{s:Vs}{bs:List (Str×(Int×Int))}(h:k=1)(hl:bs.length=0\/bs.length=13):Spl cs one k a s { s with bs:=bs } :=
 ⟨fun n=>absurd (.inl h) n,fun _=>rfl,fun _=>rfl,fun _=>⟨rfl,rfl⟩,fun _=>hl,fun e=>by omega,fun e=>by omega,fun e=>by omega,fun e=>by omega,fun e=>by omega,fun e=>by omega,fun e=>by omega⟩
theorem Spl.mk2 {cs:List (Int×Int)}{one:Int×Int}{k a:Int}{s:Vs}{gs:List (List Int)}(h:k=2)(hl:gs.length=13):Spl cs one k a s { s with gs:=gs } :=
 ⟨fun _=>rfl,fun n=>absurd (.inl h) n,fun _=>rfl,fun _=>⟨rfl,rfl⟩,fun e=>by omega,fun _=>hl,fun e=>by omega,fun e=>by omega,fun e=>by omega,fun e=>by omega,fun e=>by omega,fun e=>by omega⟩
theorem Spl.mk3 {cs:List (Int×Int)}{one:Int×Int}{k a:Int}{s:Vs}{i:Nat}{z:Str}(h:k=3)(hz:nmB z=false):Spl cs one k a s { s with bs:=zaI i (z,one) s.bs } :=
 ⟨fun n=>absurd (.inr (.inl h)) n,fun _=>rfl,fun _=>rfl,fun _=>⟨rfl,rfl⟩,fun e=>by omega,fun e=>by omega,fun _=>⟨i,z,hz,rfl⟩,fun e=>by omega,fun e=>by omega,fun e=>by omega,fun e=>by omega,fun e=>by omega⟩
theorem Spl.mk4 {cs:List (Int×Int)}{one:Int×Int}{k a:Int}{s:Vs}{i:Nat}{b0:Str×(Int×Int)}(h:k=4)(hb:s.bs[0]?=some b0):Spl cs one k a s { s with bs:=zaI i (b0.1,one) s.bs } :=
 ⟨fun n=>absurd (.inr (.inr (.inl h))) n,fun _=>rfl,fun _=>rfl,fun _=>⟨rfl,rfl⟩,fun e=>by omega,fun e=>by omega,fun e=>by omega,fun _=>.inr ⟨i,b0,hb,rfl⟩,fun e=>by omega,fun e=>by omega,fun e=>by omega,fun e=>by omega⟩
theorem Spl.mk5 {cs:List (Int×Int)}{one:Int×Int}{k a:Int}{s:Vs}{i:Nat}{p:Int×Int}(h:k=5)(hp:¬ zby cs p):Spl cs one k a s { s with bs:=zaI i (("xyxz":Str),p) s.bs } :=
 ⟨fun n=>absurd (.inr (.inr (.inr h))) n,fun _=>rfl,fun _=>rfl,fun _=>⟨rfl,rfl⟩,fun e=>by omega,fun e=>by omega,fun e=>by omega,fun e=>by omega,fun _=>⟨i,p,hp,rfl⟩,fun e=>by omega,fun e=>by omega,fun e=>by omega⟩
theorem Spl.mk6 {cs:List (Int×Int)}{one:Int×Int}{k a:Int}{s:Vs}{i:Nat}{l:List Int}(h:k=6)(hp:zcc l=false):Spl cs one k a s { s with gs:=zaI i l s.gs } :=
 ⟨fun _=>rfl,fun n=>absurd (.inr h) n,fun _=>rfl,fun _=>⟨rfl,rfl⟩,fun e=>by omega,fun e=>by omega,fun e=>by omega,fun e=>by omega,fun e=>by omega,fun _=>⟨i,l,hp,rfl⟩,fun e=>by omega,fun e=>by omega⟩
theorem Spl.mk7 {cs:List (Int×Int)}{one:Int×Int}{k a:Int}{s:Vs}{b:Int}(h:k=7)(hp:b<a):Spl cs one k a s { s with b:=b } :=
 ⟨fun _=>rfl,fun _=>rfl,fun n=>absurd h n,fun _=>⟨rfl,rfl⟩,fun e=>by omega,fun e=>by omega,fun e=>by omega,fun e=>by omega,fun e=>by omega,fun e=>by omega,fun _=>hp,fun e=>by omega⟩
theorem Spl.mk8 {cs:List (Int×Int)}{one:Int×Int}{k a:Int}{s:Vs}{d:Int}{hz:Option Int}(h:k=8)(hp:d<0\/∃ z,hz=some z/\z<0):Spl cs one k a s { s with d:=d,hz:=hz } :=
 ⟨fun _=>rfl,fun _=>rfl,fun _=>rfl,fun n=>absurd h n,fun e=>by omega,fun e=>by omega,fun e=>by omega,fun e=>by omega,fun e=>by omega,fun e=>by omega,fun e=>by omega,fun _=>hp⟩
theorem zep.of {cs:List (Int×Int)}{one:Int×Int}{k a j:Int}{s t:Vs}(h:Spl cs one k a s t)(e:k=j)(h1:1<=j):zep cs one k a j s t:=⟨fun _=>h,fun n=>by omega⟩
theorem zgI {α:Type}(f:α->D)(xs:List α){k:Int}(w:α)(h0:0<=k)(h1:k<xs.length+1):cutD (xs.map f) none (some k)++[f w]++cutD (xs.map f) (some k) none=(zaI k.toNat w xs).map f:=by
 rw [zl5 _ h0 (by rw [List.length_map];omega),zl6 _ h0 (by rw [List.length_map];omega)]
 unfold zaI
 rw [List.map_append,List.map_cons,List.map_take,List.map_drop,List.append_assoc];rfl
theorem Spl.mk40 {cs:List (Int×Int)}{one:Int×Int}{k a:Int}{s:Vs}(h:k=4)(hb:s.bs=[]):Spl cs one k a s s :=
 ⟨fun _=>rfl,fun _=>rfl,fun _=>rfl,fun _=>⟨rfl,rfl⟩,fun e=>by omega,fun e=>by omega,fun e=>by omega,fun _=>.inl ⟨hb,hb⟩,fun e=>by omega,fun e=>by omega,fun e=>by omega,fun e=>by omega⟩
theorem ziy {cs:List (Int×Int)}(gr:Grd cs){c0:Int×Int}(h0:cs[0]?=some c0){h:Int}:zby cs (c0.1,h)↔c0.2<=h:=by
 have two:=gr.two
 have on:=zkA gr (List.mem_of_getElem? h0)
 obtain⟨c1,h1⟩:∃ c1,cs[1]?=some c1:=⟨cs[1],List.getElem?_eq_getElem (by omega)⟩
 have lt:=zbX gr (show 0<1 by decide) h0 h1
 have seg:zez cs (c0.1,1)=some (c0,c1):=seg_at (k:=0) h0 h1 (by show c0.1<=c1.1*1;omega) (fun j c j1 j2 _=>by omega)
 have hB:0<hvB c0 c1 (c0.1,1):=zgM (by omega) (show (0:Int)<1 by decide)
 have hT:hvT c0 c1 (c0.1,1)=c0.2*hvB c0 c1 (c0.1,1):=zm8 lt (by show c0.1=c0.1*1;omega)
 constructor
 ·intro w
  have:=w.2 c0 c1 seg
  rw [hT] at this
  exact Int.le_of_mul_le_mul_right this hB
 ·intro w
  refine⟨⟨by show _*1<=c0.1;omega,by show c0.1<=_*1;omega⟩,fun a b e=>?_⟩
  rw [seg] at e
  cases e
  rw [hT]
  exact Int.mul_le_mul_of_nonneg_right w (by omega)
theorem zpc (i:Int)(h0:0<=i)(h1:i<16):atS "abcdefghijklmnop" i=some (97+i.toNat):=by
 have:∀ j:_root_.Fin 16,atS "abcdefghijklmnop" ((j.val:Nat):Int)=some (97+j.val):=by decide +kernel
 have:=this ⟨i.toNat,by omega⟩
 rwa [show ((i.toNat:Nat):Int)=i by omega] at this
def zg3:List Str:=["","abcdefghi","Ab","a b","a1","a_"," a"]
theorem znS (i:Int)(h0:0<=i)(h1:i<7):∃ z:Str,nmB z=false/\z.length<=1000/\atD (zg3.map D.str) i=some (.str z):=by
 have:∀ j:_root_.Fin 7,nmB zg3[j.val]=false/\zg3[j.val].length<=1000:=by decide +kernel
 have:=this ⟨i.toNat,by omega⟩
 refine⟨zg3[i.toNat]'(by show _<7;omega),this.1,this.2,?_⟩
 have e:=zbW (ds:=zg3.map D.str) (i:=i.toNat) (d:=.str (zg3[i.toNat]'(by show _<7;omega))) (by rw [List.getElem?_map,List.getElem?_eq_getElem (by show _<7;omega)];rfl)
 rwa [show ((i.toNat:Nat):Int)=i by omega] at e
def zcO:DS :=
    (zJ (zN (zj 2) (zfs 7 (zbh (zB 3) (zbh (zB 4) (zbh (zB 5) (zbh (zB 6) (zbh (zB 7) (zbh (zB 8) (zbh (zB 9) ze7)))))))))
 (zJ (zN (dCall zH (zc (zj 1) (zc (dC (.int 81)) (zc (dOp zX (dB zan (zc (zj 4) zu)) (dC (.int 1))) zu)))) (zB 10))
 (zJ (zN (dCall zH (zc (zj 1) (zc (dC (.int 82)) (zc (dOp zX (dB zan (zc (zj 5) zu)) (dC (.int 1))) zu)))) (zB 11))
 (zJ (zN (dTup (zc (dOp oIx (dOp oIx (zj 3) (dC (.int 0))) (dC (.int 0))) (zc (dOp zX (dOp oIx (dOp oIx (zj 3) (dC (.int 0))) (dC (.int 1))) (dC (.int 3))) zu))) (zB 12))
 (zJ (zN (zat (zc (dC (.str "")) (zc (dC (.str "abcdefghi")) (zc (dC (.str "Ab")) (zc (dC (.str "a b")) (zc (dC (.str "a1")) (zc (dC (.str "a_")) (zc (dC (.str " a")) zu)))))))) (zB 13))
 (zJ (sJ (sIf (dT (dOp oEq (zj 0) (dC (.int 1)))) (zJ (zN (dOp oIx (zat (zc (dC (.int 0)) (zc (dC (.int 13)) zu))) (dCall zH (zc (zj 1) (zc (dC (.int 83)) (zc (dC (.int 2)) zu))))) (zB 14))
 (zN (dLC 1 [12] (zbM (zc (zj 14) zu)) (zB 0) zbj (dTup (zc (dOp zX (dC (.str "y")) (dOp oIx (dC (.str "abcdefghijklmnop")) (zj 0))) (zc (dOp oIx (zj 1) (dC (.int 0))) (zc (dOp oIx (zj 1) (dC (.int 1))) zu))))) (zB 4))) z7))
 (zJ (sJ (sIf (dT (dOp oEq (zj 0) (dC (.int 2)))) (zN (dLC 1 [] (zbM (zc (dC (.int 13)) zu)) (zB 0) zbj (dTup (zc (dC (.int 0)) (zc (dC (.int 1)) (zc (dC (.int 0)) (zc (dC (.int 1)) (zc (dC (.int 0)) (zc (dC (.int 1)) (zc (dC (.int 0)) (zc (dC (.int 0)) zu)))))))))) (zB 5)) z7))
 (zJ (sJ (sIf (dT (dOp oEq (zj 0) (dC (.int 3)))) (zN (dOp zX (dOp zX (dSl zc5 (zj 4) none (some (zj 10))) (zat (zc (dTup (zc (dOp oIx (zj 13) (dCall zH (zc (zj 1) (zc (dC (.int 84)) (zc (dB zan (zc (zj 13) zu)) zu))))) (zc (dOp oIx (zj 12) (dC (.int 0))) (zc (dOp oIx (zj 12) (dC (.int 1))) zu)))) zu))) (dSl zc5 (zj 4) (some (zj 10)) none)) (zB 4)) z7))
 (zJ (sJ (sIf (zeE (dT (dOp oEq (zj 0) (dC (.int 4)))) (dT (dOp oGt (dB zan (zc (zj 4) zu)) (dC (.int 0))))) (zN (dOp zX (dOp zX (dSl zc5 (zj 4) none (some (zj 10))) (zat (zc (dTup (zc (dOp oIx (dOp oIx (zj 4) (dC (.int 0))) (dC (.int 0))) (zc (dOp oIx (zj 12) (dC (.int 0))) (zc (dOp oIx (zj 12) (dC (.int 1))) zu)))) zu))) (dSl zc5 (zj 4) (some (zj 10)) none)) (zB 4)) z7))
 (zJ (sJ (sIf (dT (dOp oEq (zj 0) (dC (.int 5)))) (zJ (zN (zat (zc (dTup (zc (dOp oIx (zj 12) (dC (.int 0))) (zc (dOp zax (dOp oIx (dOp oIx (zj 3) (dC (.int 0))) (dC (.int 1))) (dC (.int 1))) zu))) (zc (dTup (zc (dOp zax (dOp oIx (zj 12) (dC (.int 0))) (dC (.int 1))) (zc (dOp oIx (zj 12) (dC (.int 1))) zu))) (zc (dTup (zc (dOp zX (dOp oIx (dOp oIx (zj 3) (dUn zeV (dC (.int 1)))) (dC (.int 0))) (dC (.int 1))) (zc (dOp zX (dOp oIx (dOp oIx (zj 3) (dUn zeV (dC (.int 1)))) (dC (.int 1))) (dC (.int 9))) zu))) zu)))) (zB 15))
 (zJ (zN (dOp oIx (zj 15) (dCall zH (zc (zj 1) (zc (dC (.int 85)) (zc (dC (.int 3)) zu))))) (zB 15))
 (zN (dOp zX (dOp zX (dSl zc5 (zj 4) none (some (zj 10))) (zat (zc (dTup (zc (dC (.str "xyxz")) (zc (dOp oIx (zj 15) (dC (.int 0))) (zc (dOp oIx (zj 15) (dC (.int 1))) zu)))) zu))) (dSl zc5 (zj 4) (some (zj 10)) none)) (zB 4)))) z7))
 (zJ (sJ (sIf (dT (dOp oEq (zj 0) (dC (.int 6)))) (zJ (zN (zat (zc (dTup (zc (dC (.int 1)) (zc (dC (.int 0)) (zc (dC (.int 0)) (zc (dC (.int 1)) (zc (dC (.int 0)) (zc (dC (.int 1)) (zc (dC (.int 0)) (zc (dC (.int 0)) zu))))))))) (zc (dTup (zc (dC (.int 0)) (zc (dC (.int 1)) (zc (dC (.int 1)) (zc (dC (.int 0)) (zc (dC (.int 0)) (zc (dC (.int 1)) (zc (dC (.int 0)) (zc (dC (.int 0)) zu))))))))) (zc (dTup (zc (dC (.int 0)) (zc (dC (.int 1)) (zc (dC (.int 0)) (zc (dC (.int 1)) (zc (dC (.int 1)) (zc (dC (.int 0)) (zc (dC (.int 0)) (zc (dC (.int 0)) zu))))))))) (zc (dTup (zc (dC (.int 0)) (zc (dC (.int 1)) (zc (dC (.int 0)) (zc (dC (.int 1)) (zc (dC (.int 0)) (zc (dC (.int 1)) (zc (dC (.int 0)) zu)))))))) zu))))) (zB 16))
 (zN (dOp zX (dOp zX (dSl zc5 (zj 5) none (some (zj 11))) (zat (zc (dOp oIx (zj 16) (dCall zH (zc (zj 1) (zc (dC (.int 86)) (zc (dB zan (zc (zj 16) zu)) zu))))) zu))) (dSl zc5 (zj 5) (some (zj 11)) none)) (zB 5))) z7))
 (zJ (sJ (sIf (dT (dOp oEq (zj 0) (dC (.int 7)))) (zN (dOp zax (dOp zax (zj 7) (dC (.int 1))) (dCall zH (zc (zj 1) (zc (dC (.int 87)) (zc (dC (.int 5)) zu))))) (zB 8)) z7))
 (zJ (sJ (sIf (dT (dOp oEq (zj 0) (dC (.int 8)))) (zJ (zN (dOp oIx (zat (zc (dUn zeV (dC (.int 1))) (zc (zj 9) zu))) (dCall zH (zc (zj 1) (zc (dC (.int 88)) (zc (dC (.int 2)) zu))))) (zB 9))
 (zN (dOp oIx (zat (zc (dUn zeV (dC (.int 1))) (zc (zj 6) zu))) (dB zlG (zc (dOp oLt (zj 9) (dC (.int 0))) zu))) (zB 6))) z7))
 (zac (dTup (zc (zj 3) (zc (zj 4) (zc (zj 5) (zc (zj 6) (zc (zj 7) (zc (zj 8) (zc (zj 9) zu))))))))))))))))))))))
theorem zhe:∀ ds So Q,zbG ds So Q->ds.length=3:=by rintro ds So Q ⟨_,_,_,_,_,_,_,_,_,_,_,_,_,rfl,_⟩;rfl
theorem zhF:BodyOk 17 zcO zbG:=by
 rintro ds S Q ⟨k,c,x,y,z,cs,a,s,c0,cl,_,_,_,rfl,hk0,hk8,hx,gr,cbd,hc0,hv,lb,lg,hd8,q⟩
 unfold zcO
 have two:=gr.two
 obtain⟨hy,hz,vb⟩:=id hv
 have mc0:=List.mem_of_getElem? hc0
 have bc0:=cbd c0 mc0
 have ac0:atD (cs.map p2) 0=some (p2 c0):=zbW (ds:=cs.map p2) (i:=0) (by rw [List.getElem?_map,hc0];rfl)
 walk_at "g"
 walk_at "drho"
 rw [List.length_map]
 refine⟨c,81,_,rfl,by decide,by decide,by omega,fun at' a0 a1 _=>?_⟩
 walk_at "g"
 rw [List.length_map]
 refine⟨c,82,_,rfl,by decide,by decide,by omega,fun to' t0 t1 _=>?_⟩
 walk_at "g"
 obtain⟨S1,hS1⟩:∃ S1:Sto,S1=S++[.lst [.str "",.str "abcdefghi",.str "Ab",.str "a b",.str "a1",.str "a_",.str " a"]]:=⟨_,rfl⟩
 have kb1:Lst S1 (.ref S.length) [.str "",.str "abcdefghi",.str "Ab",.str "a b",.str "a1",.str "a_",.str " a"]:=hS1▸Lst.at0
 have hx1:Lst S1 x (cs.map p2):=hS1▸hx.old
 have hv1:zer S1 y z s:=hS1▸hv.old
 have e1:∃ T,S1=S++T:=⟨_,hS1⟩
 rw [<- hS1]
 walk_at "drho2"
 generalize S.length=br at kb1
 clear hS1 hy hz
 have hc3:c0.2+3=c0.2+3:=rfl
 obtain⟨one,hone⟩:∃ one:Int×Int,one=(c0.1,c0.2+3):=⟨_,rfl⟩
 have o1:c0.1=one.1:=by rw [hone]
 have o2:c0.2+3=one.2:=by rw [hone]
 have b0:Bd 180 one.1/\Bd 200 one.2:=by
  rw [hone]
  exact⟨bc0.1.mono (by decide),(Bd.add (n:=199) (bc0.2.mono (by decide)) (by show _<2 ^ 199;decide)).mono (by decide)⟩
 obtain⟨W,hW⟩:∃ W:Int->Rho->Sto->Prop,W=fun j ρ S'=>∃ (T:Sto) (y' z':D) (t:Vs) (w14 w15 w16:Option D),S'=S1++T/\zep cs one k a j s t/\zer S' y' z' t/\ρ=[some (.int k),some (.int c),some (.tup [x,y,z,zcd s.hz,.int a,.int s.b,.int s.d]),some x,some y',some z',some (zcd t.hz),some (.int a),some (.int t.b),some (.int t.d),some (.int at'),some (.int to'),some (.tup [.int c0.1,.int (c0.2+3)]),some (.ref br),w14,w15,w16]:=⟨_,rfl⟩
 have W0:W 0 [some (.int k),some (.int c),some (.tup [x,y,z,zcd s.hz,.int a,.int s.b,.int s.d]),some x,some y,some z,some (zcd s.hz),some (.int a),some (.int s.b),some (.int s.d),some (.int at'),some (.int to'),some (.tup [.int c0.1,.int (c0.2+3)]),some (.ref br),none,none,none] S1:=by
  rw [hW]
  exact⟨[],y,z,s,_,_,_,by simp,⟨fun w=>by omega,fun _=>rfl⟩,hv1,rfl⟩
 refine zoU W0 fun ρ0 S' hw=>?_
 clear W0
 rw [hW] at hw
 obtain⟨T,y',z',t,w14,w15,w16,e,sp,hv',rfl⟩:=hw
 have hx':Lst S' x (cs.map p2):=e▸hx1.old
 have kb':Lst S' (.ref br) _:=e▸kb1.old
 obtain⟨hy',hz',vb'⟩:=id hv'
 refine r_J (W 1) ?_ fun ρ S' hw=>?_
 ·walk_at "g"
  refine r_d (fun hk=>?_) (fun hk=>?_)
  ·have ts:=sp.2 (by omega)
   subst ts
   walk_at "g"
   refine⟨c,_,_,rfl,by decide,by decide,by decide,fun m m0 m1 _=>?_⟩
   obtain⟨n,n13,an⟩:∃ n:Nat,(n=0\/n=13)/\atD [D.int 0,D.int 13] m=some (.int n):=by
    rcases (show m=0\/m=1 by omega) with rfl | rfl
    ·exact⟨0,.inl rfl,rfl⟩
    ·exact⟨13,.inr rfl,rfl⟩
   walk_at "g"
   refine⟨n,rfl,by omega,by omega,?_⟩
   refine za1 (fun _=>true) (onI fun k=>bcD (⟨[121,97+k.toNat].toArray⟩,one)) True.intro (by rw [zay];unfold big;omega) (fun i d ys hd hw=>?_) ?_
   ·obtain⟨hi,rfl⟩:=zbs hd
    walk_at "g"
    refine zgA (c:=97+(0+(i:Int)).toNat) (by decide +kernel) (zpc _ (by omega) (by omega)) ?_
    refine ziP (by show 1+1<=big;decide) ?_
    rw [show (("y":Str)++(⟨#[97+(0+(i:Int)).toNat]⟩:Str))=⟨[121,97+(0+(i:Int)).toNat].toArray⟩ from zgR [121] _]
    walk_at "g"
    refine zb9 hd hw rfl ?_
    rw [hone];rfl
   rw [filter_true]
   rw [show (upto 0 (n:Int).toNat).map (onI fun k=>bcD (⟨[121,97+k.toNat].toArray⟩,one))=((List.range n).map fun k:Nat=>((⟨[121,97+(0+(k:Int)).toNat].toArray⟩,one):Str×(Int×Int))).map bcD by unfold upto;rw [List.map_map,List.map_map];rfl]
   refine zgK ?_
   walk_at "g"
   rw [hW]
   refine⟨_,_,z',_,_,_,_,by rw [e,List.append_assoc,List.append_assoc],.of (.mk1 hk (by rw [List.length_map,List.length_range];exact n13)) hk (by decide),⟨Lst.at0,hz'.old.old,⟨by show List.length _<=100;rw [List.length_map,List.length_range];omega,vb'.lg,vb'.ll,fun b hb=>?_,fun u hu=>?_⟩⟩,rfl⟩
   ·obtain⟨j,_,rfl⟩:=List.mem_map.mp hb
    exact b0
   ·obtain⟨b,hb,rfl⟩:=List.mem_map.mp hu
    obtain⟨j,_,rfl⟩:=List.mem_map.mp hb
    show 2<=1000;decide
  ·walk_at "g"
   rw [hW]
   exact⟨T,y',z',t,_,_,_,e,sp.next hk,hv',rfl⟩
 rw [hW] at hw
 obtain⟨T,y',z',t,w14,w15,w16,e,sp,hv',rfl⟩:=hw
 have hx':Lst S' x (cs.map p2):=e▸hx1.old
 have kb':Lst S' (.ref br) _:=e▸kb1.old
 obtain⟨hy',hz',vb'⟩:=id hv'
 refine r_J (W 2) ?_ fun ρ S' hw=>?_
 ·walk_at "g"
  refine r_d (fun hk=>?_) (fun hk=>?_)
  ·have ts:=sp.2 (by omega)
   subst ts
   walk_at "g"
   refine⟨13,rfl,by decide,by decide,?_⟩
   refine za1 (fun _=>true) (fun _=>fgL [0,1,0,1,0,1,0,0]) True.intro (by rw [zay];decide) (fun i d ys hd hw=>?_) ?_
   ·walk_at "g"
    exact zb9 hd hw rfl rfl
   rw [show ((upto 0 (13:Int).toNat).filter fun _=>true).map (fun _=>fgL [0,1,0,1,0,1,0,0])=(List.replicate 13 [0,1,0,1,0,1,0,0]).map fgL from rfl]
   refine zgK ?_
   walk_at "g"
   rw [hW]
   exact⟨_,y',_,_,_,_,_,by rw [e,List.append_assoc],.of (.mk2 hk (List.length_replicate ..)) hk (by decide),⟨hy'.old,Lst.at0,⟨vb'.lb,by show List.length _<=100;rw [List.length_replicate];decide,fun l hl=>by rw [List.eq_of_mem_replicate hl];decide,vb'.bd,vb'.ln⟩⟩,rfl⟩
  ·walk_at "g"
   rw [hW]
   exact⟨T,y',z',t,_,_,_,e,sp.next hk,hv',rfl⟩
 rw [hW] at hw
 obtain⟨T,y',z',t,w14,w15,w16,e,sp,hv',rfl⟩:=hw
 have hx':Lst S' x (cs.map p2):=e▸hx1.old
 have kb':Lst S' (.ref br) _:=e▸kb1.old
 obtain⟨hy',hz',vb'⟩:=id hv'
 refine r_J (W 3) ?_ fun ρ S' hw=>?_
 ·walk_at "g"
  refine r_d (fun hk=>?_) (fun hk=>?_)
  ·have ts:=sp.2 (by omega)
   subst ts
   walk_at "g"
   refine⟨c,_,_,rfl,by decide,by decide,by decide,fun m m0 m1 _=>?_⟩
   obtain⟨z,zn,zl,az⟩:=znS m m0 m1
   walk_at "g"
   rw [show D.tup [D.str z,D.int c0.1,D.int (c0.2+3)]=bcD (z,one) by rw [hone]]
   have l1:=zb3 (t.bs.map bcD) none (some at')
   have l2:=zb3 (t.bs.map bcD) (some at') none
   rw [List.length_map] at l1 l2
   have l3:slD t.bs.length t.bs.length (some at')<=t.bs.length:=by show (if _<(0:Int) then _ else min _ _)<=_;rw [if_neg (by omega)];exact Nat.min_le_right ..
   have l4:slD t.bs.length t.bs.length none<=t.bs.length:=Nat.le_refl _
   have e2:=zgI bcD t.bs (z,one) a0 a1
   refine zaS (xs:=cutD (t.bs.map bcD) none (some at')) (ys:=[bcD (z,one)]) (Lst.at (k:=0) rfl) (Lst.at (k:=1) rfl) (by show _+1<=big;unfold big;omega) ?_
   walk_at "g"
   refine zaS (xs:=cutD (t.bs.map bcD) none (some at')++[bcD (z,one)]) (ys:=cutD (t.bs.map bcD) (some at') none) (Lst.at (k:=2) rfl) (Lst.at (k:=3) rfl) (by rw [List.length_append];show _+1+_<=big;unfold big;omega) ?_
   rw [e2]
   walk_at "g"
   rw [hW]
   exact⟨_,_,z',_,_,_,_,by rw [e,List.append_assoc],.of (.mk3 hk zn) hk (by decide),⟨Lst.at (k:=4) rfl,hz'.old,vb'.ins (by omega) zl b0⟩,rfl⟩
  ·walk_at "g"
   rw [hW]
   exact⟨T,y',z',t,_,_,_,e,sp.next hk,hv',rfl⟩
 rw [hW] at hw
 obtain⟨T,y',z',t,w14,w15,w16,e,sp,hv',rfl⟩:=hw
 have hx':Lst S' x (cs.map p2):=e▸hx1.old
 have kb':Lst S' (.ref br) _:=e▸kb1.old
 obtain⟨hy',hz',vb'⟩:=id hv'
 refine r_J (W 4) ?_ fun ρ S' hw=>?_
 ·walk_at "g"
  refine r_d (fun hk=>?_) (fun hk=>?_)
  ·have ts:=sp.2 (by omega)
   subst ts
   walk_at "g"
   rw [List.length_map]
   refine r_d (fun hl=>?_) (fun hl=>?_)
   ·obtain⟨b,hb⟩:∃ b,t.bs[0]?=some b:=⟨t.bs[0]'(by omega),List.getElem?_eq_getElem (by omega)⟩
    have ab:atD (t.bs.map bcD) 0=some (bcD b):=zbW (ds:=t.bs.map bcD) (i:=0) (by rw [List.getElem?_map,hb];rfl)
    have zl:=vb'.ln b.1 (List.mem_map_of_mem (List.mem_of_getElem? hb))
    walk_at "g"
    rw [show D.tup [D.str b.1,D.int c0.1,D.int (c0.2+3)]=bcD (b.1,one) by rw [hone]]
    have l1:=zb3 (t.bs.map bcD) none (some at')
    have l2:=zb3 (t.bs.map bcD) (some at') none
    rw [List.length_map] at l1 l2
    have l3:slD t.bs.length t.bs.length (some at')<=t.bs.length:=by show (if _<(0:Int) then _ else min _ _)<=_;rw [if_neg (by omega)];exact Nat.min_le_right ..
    have l4:slD t.bs.length t.bs.length none<=t.bs.length:=Nat.le_refl _
    have e2:=zgI bcD t.bs (b.1,one) a0 a1
    refine zaS (xs:=cutD (t.bs.map bcD) none (some at')) (ys:=[bcD (b.1,one)]) (Lst.at (k:=0) rfl) (Lst.at (k:=1) rfl) (by show _+1<=big;unfold big;omega) ?_
    walk_at "g"
    refine zaS (xs:=cutD (t.bs.map bcD) none (some at')++[bcD (b.1,one)]) (ys:=cutD (t.bs.map bcD) (some at') none) (Lst.at (k:=2) rfl) (Lst.at (k:=3) rfl) (by rw [List.length_append];show _+1+_<=big;unfold big;omega) ?_
    rw [e2]
    walk_at "g"
    rw [hW]
    exact⟨_,_,z',_,_,_,_,by rw [e,List.append_assoc],.of (.mk4 hk hb) hk (by decide),⟨Lst.at (k:=4) rfl,hz'.old,vb'.ins (by omega) zl b0⟩,rfl⟩
   ·walk_at "g"
    rw [hW]
    exact⟨T,y',z',t,_,_,_,e,.of (.mk40 hk (List.length_eq_zero_iff.mp (by omega))) hk (by decide),hv',rfl⟩
  ·walk_at "g"
   rw [hW]
   exact⟨T,y',z',t,_,_,_,e,sp.next hk,hv',rfl⟩
 rw [hW] at hw
 obtain⟨T,y',z',t,w14,w15,w16,e,sp,hv',rfl⟩:=hw
 have hx':Lst S' x (cs.map p2):=e▸hx1.old
 have kb':Lst S' (.ref br) _:=e▸kb1.old
 obtain⟨hy',hz',vb'⟩:=id hv'
 refine r_J (W 5) ?_ fun ρ S' hw=>?_
 ·walk_at "g"
  refine r_d (fun hk=>?_) (fun hk=>?_)
  ·have ts:=sp.2 (by omega)
   subst ts
   obtain⟨lc,hlc,elc,alc⟩:=ziA gr
   have blc:=cbd lc (List.mem_of_getElem? hlc)
   walk_at "g"
   refine⟨c,_,_,rfl,by decide,by decide,by decide,fun m m0 m1 _=>?_⟩
   obtain⟨p,np,bp,ap⟩:∃ p:Int×Int,¬ zby cs p/\(Bd 180 p.1/\Bd 200 p.2)/\atD [D.tup [D.int c0.1,D.int (c0.2-1)],D.tup [D.int (c0.1-1),D.int (c0.2+3)],D.tup [D.int (lc.1+1),D.int (lc.2+9)]] m=some (p2 p):=by
    obtain⟨f,hf,ef⟩:=zbV gr
    rw [hc0] at hf
    injection hf with hf
    subst hf
    rcases (show m=0\/m=1\/m=2 by omega) with rfl | rfl | rfl
    ·exact⟨(c0.1,c0.2-1),fun h=>by have:=(ziy gr hc0).mp h;omega,⟨bc0.1.mono (by decide),(Bd.sub (n:=199) (bc0.2.mono (by decide)) (by show _<2 ^ 199;decide)).mono (by decide)⟩,rfl⟩
    ·exact⟨(c0.1-1,c0.2+3),fun h=>by have:=h.1.1;rw [ef] at this;simp only at this;omega,⟨(Bd.sub (n:=179) (bc0.1.mono (by decide)) (by show _<2 ^ 179;decide)).mono (by decide),(Bd.add (n:=199) (bc0.2.mono (by decide)) (by show _<2 ^ 199;decide)).mono (by decide)⟩,rfl⟩
    ·exact⟨(lc.1+1,lc.2+9),fun h=>by have:=h.1.2;rw [elc] at this;simp only at this;omega,⟨(Bd.add (n:=179) (blc.1.mono (by decide)) (by show _<2 ^ 179;decide)).mono (by decide),(Bd.add (n:=199) (blc.2.mono (by decide)) (by show _<2 ^ 199;decide)).mono (by decide)⟩,rfl⟩
   walk_at "g"
   rw [show D.tup [D.str "xyxz",D.int p.1,D.int p.2]=bcD ("xyxz",p) from rfl]
   have l1:=zb3 (t.bs.map bcD) none (some at')
   have l2:=zb3 (t.bs.map bcD) (some at') none
   rw [List.length_map] at l1 l2
   have l3:slD t.bs.length t.bs.length (some at')<=t.bs.length:=by show (if _<(0:Int) then _ else min _ _)<=_;rw [if_neg (by omega)];exact Nat.min_le_right ..
   have l4:slD t.bs.length t.bs.length none<=t.bs.length:=Nat.le_refl _
   have e2:=zgI bcD t.bs ("xyxz",p) a0 a1
   refine zaS (xs:=cutD (t.bs.map bcD) none (some at')) (ys:=[bcD ("xyxz",p)]) (Lst.at (k:=1) rfl) (Lst.at (k:=2) rfl) (by show _+1<=big;unfold big;omega) ?_
   walk_at "g"
   refine zaS (xs:=cutD (t.bs.map bcD) none (some at')++[bcD ("xyxz",p)]) (ys:=cutD (t.bs.map bcD) (some at') none) (Lst.at (k:=3) rfl) (Lst.at (k:=4) rfl) (by rw [List.length_append];show _+1+_<=big;unfold big;omega) ?_
   rw [e2]
   walk_at "g"
   rw [hW]
   exact⟨_,_,z',_,_,_,_,by rw [e,List.append_assoc],.of (.mk5 hk np) hk (by decide),⟨Lst.at (k:=5) rfl,hz'.old,vb'.ins (by omega) (by decide) bp⟩,rfl⟩
  ·walk_at "g"
   rw [hW]
   exact⟨T,y',z',t,_,_,_,e,sp.next hk,hv',rfl⟩
 rw [hW] at hw
 obtain⟨T,y',z',t,w14,w15,w16,e,sp,hv',rfl⟩:=hw
 have hx':Lst S' x (cs.map p2):=e▸hx1.old
 have kb':Lst S' (.ref br) _:=e▸kb1.old
 obtain⟨hy',hz',vb'⟩:=id hv'
 refine r_J (W 6) ?_ fun ρ S' hw=>?_
 ·walk_at "g"
  refine r_d (fun hk=>?_) (fun hk=>?_)
  ·have ts:=sp.2 (by omega)
   subst ts
   walk_at "g"
   refine⟨c,_,_,rfl,by decide,by decide,by decide,fun m m0 m1 _=>?_⟩
   obtain⟨l,fl,ll,al⟩:∃ l:List Int,zcc l=false/\l.length<=100/\atD [D.tup [.int 1,.int 0,.int 0,.int 1,.int 0,.int 1,.int 0,.int 0],D.tup [.int 0,.int 1,.int 1,.int 0,.int 0,.int 1,.int 0,.int 0],D.tup [.int 0,.int 1,.int 0,.int 1,.int 1,.int 0,.int 0,.int 0],D.tup [.int 0,.int 1,.int 0,.int 1,.int 0,.int 1,.int 0]] m=some (fgL l):=by
    rcases (show m=0\/m=1\/m=2\/m=3 by simp only [List.length_cons,List.length_nil] at m1;omega) with rfl | rfl | rfl | rfl
    ·exact⟨[1,0,0,1,0,1,0,0],by decide,by decide,rfl⟩
    ·exact⟨[0,1,1,0,0,1,0,0],by decide,by decide,rfl⟩
    ·exact⟨[0,1,0,1,1,0,0,0],by decide,by decide,rfl⟩
    ·exact⟨[0,1,0,1,0,1,0],by decide,by decide,rfl⟩
   walk_at "g"
   have l1:=zb3 (t.gs.map fgL) none (some to')
   have l2:=zb3 (t.gs.map fgL) (some to') none
   rw [List.length_map] at l1 l2
   have l3:slD t.gs.length t.gs.length (some to')<=t.gs.length:=by show (if _<(0:Int) then _ else min _ _)<=_;rw [if_neg (by omega)];exact Nat.min_le_right ..
   have l4:slD t.gs.length t.gs.length none<=t.gs.length:=Nat.le_refl _
   have e2:=zgI fgL t.gs (l) t0 t1
   refine zaS (xs:=cutD (t.gs.map fgL) none (some to')) (ys:=[fgL (l)]) (Lst.at (k:=1) rfl) (Lst.at (k:=2) rfl) (by show _+1<=big;unfold big;omega) ?_
   walk_at "g"
   refine zaS (xs:=cutD (t.gs.map fgL) none (some to')++[fgL (l)]) (ys:=cutD (t.gs.map fgL) (some to') none) (Lst.at (k:=3) rfl) (Lst.at (k:=4) rfl) (by rw [List.length_append];show _+1+_<=big;unfold big;omega) ?_
   rw [e2]
   walk_at "g"
   rw [hW]
   exact⟨_,y',_,_,_,_,_,by rw [e,List.append_assoc],.of (.mk6 hk fl) hk (by decide),⟨hy'.old,Lst.at (k:=5) rfl,vb'.insF (by omega) ll⟩,rfl⟩
  ·walk_at "g"
   rw [hW]
   exact⟨T,y',z',t,_,_,_,e,sp.next hk,hv',rfl⟩
 rw [hW] at hw
 obtain⟨T,y',z',t,w14,w15,w16,e,sp,hv',rfl⟩:=hw
 have hx':Lst S' x (cs.map p2):=e▸hx1.old
 have kb':Lst S' (.ref br) _:=e▸kb1.old
 obtain⟨hy',hz',vb'⟩:=id hv'
 refine r_J (W 7) ?_ fun ρ S' hw=>?_
 ·walk_at "g"
  refine r_d (fun hk=>?_) (fun hk=>?_)
  ·have ts:=sp.2 (by omega)
   subst ts
   walk_at "g"
   refine⟨c,_,_,rfl,by decide,by decide,by decide,fun m m0 m1 _=>?_⟩
   walk_at "g"
   rw [hW]
   exact⟨_,y',z',_,_,_,_,e,.of (.mk7 (b:=a-1-m) hk (by omega)) hk (by decide),⟨hy',hz',vb'⟩,rfl⟩
  ·walk_at "g"
   rw [hW]
   exact⟨T,y',z',t,_,_,_,e,sp.next hk,hv',rfl⟩
 rw [hW] at hw
 obtain⟨T,y',z',t,w14,w15,w16,e,sp,hv',rfl⟩:=hw
 have hx':Lst S' x (cs.map p2):=e▸hx1.old
 have kb':Lst S' (.ref br) _:=e▸kb1.old
 obtain⟨hy',hz',vb'⟩:=id hv'
 refine r_J (W 8) ?_ fun ρ S' hw=>?_
 ·walk_at "g"
  refine r_d (fun hk=>?_) (fun hk=>?_)
  ·have ts:=sp.2 (by omega)
   subst ts
   walk_at "g"
   refine⟨c,_,_,rfl,by decide,by decide,by decide,fun m m0 m1 _=>?_⟩
   rcases (show m=0\/m=1 by omega) with rfl | rfl
   ·have am:atD [D.int (-1),D.int t.d] 0=some (.int (-1)):=rfl
    walk_at "g"
    rw [hW]
    exact⟨_,y',z',_,_,_,_,by rw [e,List.append_assoc],.of (.mk8 (d:=-1) (hz:=t.hz) hk (.inl (by decide))) hk (by decide),⟨hy'.old,hz'.old,vb'⟩,rfl⟩
   ·have am:atD [D.int (-1),D.int t.d] 1=some (.int t.d):=rfl
    have dn:decide (t.d<0)=false:=decide_eq_false (by have:=hd8 hk;omega)
    walk_at "g"
    rw [dn]
    walk_at "g"
    rw [hW]
    exact⟨_,y',z',_,_,_,_,by rw [e,List.append_assoc],.of (.mk8 (d:=t.d) (hz:=some (-1)) hk (.inr ⟨-1,rfl,by decide⟩)) hk (by decide),⟨hy'.old,hz'.old,vb'⟩,rfl⟩
  ·walk_at "g"
   rw [hW]
   exact⟨T,y',z',t,_,_,_,e,sp.next hk,hv',rfl⟩
 rw [hW] at hw
 obtain⟨T,y',z',t,w14,w15,w16,e,sp,hv',rfl⟩:=hw
 have hx':Lst S' x (cs.map p2):=e▸hx1.old
 have kb':Lst S' (.ref br) _:=e▸kb1.old
 obtain⟨hy',hz',vb'⟩:=id hv'
 walk_at "g"
 obtain⟨T0,rfl⟩:=e1
 subst e
 rw [List.append_assoc]
 refine fin_same (q _ y' z' t (hone▸sp) ?_)
 rw [<- List.append_assoc];exact hv'
def zlO (ks:List Int)(nb ng:Nat)(u:Int):Prop:=((nb<1\/12<nb\/12<ng)/\u=0)\/(¬ (nb<1\/12<nb\/12<ng)/\((3∈ks/\u=1)\/(3∉ks/\((4∈ks/\u=2)\/(4∉ks/\((5∈ks/\u=3)\/(5∉ks/\((6∈ks/\u=4)\/(6∉ks/\(((7∈ks\/8∈ks)/\u=5)\/(¬ (7∈ks\/8∈ks)/\u=9)))))))))))
def zcM:DSp:=fun ds S Q=>∃ (w x y z h a b d:D) (ks:List Int) (ys zs:List D),ds=[w,.tup [x,y,z,h,a,b,d]]/\Lst S w (ks.map D.int)/\Lst S y ys/\Lst S z zs/\∀ (u:Int) (T:Sto),zlO ks ys.length zs.length u->Q (.int u) (S++T)
def zd3:DS :=
    (zJ (sIf (dOr (dT (dOp oEq (dB zan (zc (dOp oIx (zj 1) (dC (.int 1))) zu)) (dC (.int 0)))) (dOr (dT (dOp oGt (dB zan (zc (dOp oIx (zj 1) (dC (.int 1))) zu)) (dC (.int 12)))) (dT (dOp oGt (dB zan (zc (dOp oIx (zj 1) (dC (.int 2))) zu)) (dC (.int 12)))))) (zac (dC (.int 0))) z7)
 (zJ (zeb (zc0 (zat (zc (dC (.int 3)) (zc (dC (.int 4)) (zc (dC (.int 5)) (zc (dC (.int 6)) zu)))))) (zB 2) (sIf (dT (dOp oIn (zj 2) (zj 0))) (zac (dOp zax (zj 2) (dC (.int 2)))) z7))
 (zJ (sIf (dOr (dT (dOp oIn (dC (.int 7)) (zj 0))) (dT (dOp oIn (dC (.int 8)) (zj 0)))) (zac (dC (.int 5))) z7)
 (zac (dC (.int 9))))))
theorem zjb:∀ ds So Q,zcM ds So Q->ds.length=2:=by rintro ds So Q ⟨_,_,_,_,_,_,_,_,_,_,_,rfl,_⟩;rfl
theorem zjL:BodyOk 3 zd3 zcM:=by
  rintro ds S Q ⟨w,x,y,z,h,a,b,d,ks,ys,zs,rfl,hw,hy,hz,q⟩
  unfold zd3
  have q0:∀ u:Int,zlO ks ys.length zs.length u->Q (.int u) S:=fun u hu=>by have:=q u [] hu;rwa [List.append_nil] at this
  walk_at "g"
  refine r_d (fun h1=>?_) (fun h1=>?_)
  · walk_at "g"
    exact fin_same (q0 0 (.inl ⟨.inl (by omega),rfl⟩))
  walk_at "g"
  refine r_d (fun h2=>?_) (fun h2=>?_)
  · walk_at "g"
    exact fin_same (q0 0 (.inl ⟨.inr (.inl (by omega)),rfl⟩))
  walk_at "g"
  refine r_d (fun h3=>?_) (fun h3=>?_)
  · walk_at "g"
    exact fin_same (q0 0 (.inl ⟨.inr (.inr (by omega)),rfl⟩))
  have ok:¬ (ys.length<1\/12<ys.length\/12<zs.length):=by omega
  have hw1:Lst (S++[.lst [.int 3,.int 4,.int 5,.int 6]]) w (ks.map D.int):=hw.old
  walk_at "g"
  refine zcG (fun i ρ S'=>S'=S++[.lst [.int 3,.int 4,.int 5,.int 6]]/\(∃ w2:Option D,ρ=[some w,some (.tup [x,y,z,h,a,b,d]),w2])/\∀ j:Nat,j<i->(3+(j:Int))∉ks) ⟨rfl,⟨_,rfl⟩,fun j hj=>by omega⟩ (fun i ρ S' hS=>by rw [hS.1];exact Lst.at0) ?_ ?_
  · rintro i d' ρ S' hd ⟨rfl,⟨w2,rfl⟩,hn⟩
    have hi:i<4:=(List.getElem?_eq_some_iff.mp hd).1
    have ed:d'=.int (3+(i:Int)):=by
      rcases (show i=0\/i=1\/i=2\/i=3 by omega) with rfl | rfl | rfl | rfl<;>(cases hd;rfl)
    subst ed
    walk_at "g"
    refine zj5 (.inr hw1) ⟨_,rfl,?_⟩
    refine r_d (fun hm=>?_) (fun hm=>?_)
    · walk_at "g"
      refine fin_same (q _ _ (.inr ⟨ok,?_⟩))
      rcases (show i=0\/i=1\/i=2\/i=3 by omega) with rfl | rfl | rfl | rfl
      · exact .inl ⟨hm,rfl⟩
      · exact .inr ⟨hn 0 (by decide),.inl ⟨hm,rfl⟩⟩
      · exact .inr ⟨hn 0 (by decide),.inr ⟨hn 1 (by decide),.inl ⟨hm,rfl⟩⟩⟩
      · exact .inr ⟨hn 0 (by decide),.inr ⟨hn 1 (by decide),.inr ⟨hn 2 (by decide),.inl ⟨hm,rfl⟩⟩⟩⟩
    · walk_at "g"
      exact⟨rfl,⟨_,rfl⟩,fun j hj=>by
        rcases Nat.lt_or_ge j i with g | g
        · exact hn j g
        · rw [show j=i by omega];exact hm⟩
  rintro ρ S' ⟨rfl,⟨w2,rfl⟩,hn⟩
  have n3:(3:Int)∉ks:=hn 0 (by decide)
  have n4:(4:Int)∉ks:=hn 1 (by decide)
  have n5:(5:Int)∉ks:=hn 2 (by decide)
  have n6:(6:Int)∉ks:=hn 3 (by decide)
  walk_at "g"
  refine zj5 (.inr hw1) ⟨_,rfl,?_⟩
  refine r_d (fun hm=>?_) (fun hm=>?_)
  · walk_at "g"
    exact fin_same (q _ _ (.inr ⟨ok,.inr ⟨n3,.inr ⟨n4,.inr ⟨n5,.inr ⟨n6,.inl ⟨.inl hm,rfl⟩⟩⟩⟩⟩⟩))
  walk_at "g"
  refine zj5 (.inr hw1) ⟨_,rfl,?_⟩
  refine r_d (fun hm2=>?_) (fun hm2=>?_)
  · walk_at "g"
    exact fin_same (q _ _ (.inr ⟨ok,.inr ⟨n3,.inr ⟨n4,.inr ⟨n5,.inr ⟨n6,.inl ⟨.inr hm2,rfl⟩⟩⟩⟩⟩⟩))
  · walk_at "g"
    exact fin_same (q _ _ (.inr ⟨ok,.inr ⟨n3,.inr ⟨n4,.inr ⟨n5,.inr ⟨n6,.inr ⟨fun g=>g.elim hm hm2,rfl⟩⟩⟩⟩⟩⟩))
def zaw:DSp:=fun ds S Q=>∃ (x:D) (cs:List (Int×Int)),ds=[x]/\Lst S x (cs.map p2)/\Grd cs/\Q .non S
def zaU:DS :=
    (zJ (sIf (dOr (dT (dOp oLt (dB zan (zc (zj 0) zu)) (dC (.int 2)))) (dT (dOp oGt (dB zan (zc (zj 0) zu)) (dC (.int 40))))) zik z7)
 (zeb (zhQ (zc (dC (.int 1)) (zc (dB zan (zc (zj 0) zu)) zu))) (zB 1) (sIf (dT (dOp oLe (dOp oIx (dOp oIx (zj 0) (zj 1)) (dC (.int 0))) (dOp oIx (dOp oIx (zj 0) (dOp zax (zj 1) (dC (.int 1)))) (dC (.int 0))))) zik z7)))
theorem zee:∀ ds So Q,zaw ds So Q->ds.length=1:=by rintro ds So Q ⟨_,_,rfl,_⟩;rfl
theorem zeh:BodyOk 2 zaU zaw:=by
 rintro ds S Q ⟨x,cs,rfl,hx,g,q⟩
 unfold zaU
 have g1:=g.two
 have g2:=g.most
 walk_at "g"
 rw [List.length_map]
 refine r_d (fun z=>absurd z (by omega)) (fun _=>?_)
 walk_at "g"
 rw [List.length_map]
 refine r_d (fun z=>absurd z (by omega)) (fun _=>?_)
 walk_at "g"
 rw [List.length_map]
 refine⟨_,_,rfl,?_⟩
 refine zcG (fun i ρ S'=>S'=S/\∃ w:Option D,ρ=[some x,w]) ⟨rfl,none,rfl⟩ (fun _ _ _ _=>True.intro) ?_ ?_
 ·rintro i d ρ S' hd ⟨rfl,w,rfl⟩
  obtain⟨hi,rfl⟩:=zbs hd
  obtain⟨a,ha,aa⟩:=zfI (cs:=cs) (k:=1+(i:Int)) (by omega) (by omega)
  obtain⟨b,hb,ab⟩:=zfI (cs:=cs) (k:=1+(i:Int)-1) (by omega) (by omega)
  have hlt:=zbX g (show (1+(i:Int)-1).toNat<(1+(i:Int)).toNat by omega) hb ha
  walk_at "g"
  refine r_d (fun z=>absurd z (by omega)) (fun _=>?_)
  walk_at "g"
  exact⟨rfl,_,rfl⟩
 ·rintro ρ S' ⟨rfl,w,rfl⟩
  exact fin_same q
def zb4:DSp:=fun ds S Q=>∃ (S0:Sto) (x:D) (cs:List (Int×Int)),ds=[.ref S0.length,x]/\S=S0++[.ins "Ground" []]/\Lst S0 x (cs.map p2)/\Grd cs/\Q .non (S0++[.ins "Ground" [("corners",.ref (S0.length+1))],.lst (cs.map p2)])
def zbc:DS :=
    (zJ (zb5 (dCall zaw (zc (zj 1) zu)))
 (zc7 "Ground" "corners" (zj 0) (dB zdY (zc (zj 1) zu))))
theorem zgr:∀ ds So Q,zb4 ds So Q->ds.length=2:=by rintro ds So Q ⟨_,_,_,rfl,_⟩;rfl
theorem zg2:BodyOk 2 zbc zb4:=by
 rintro ds S Q ⟨S0,x,cs,rfl,rfl,hx,g,q⟩
 unfold zbc
 have hx':Lst (S0++[.ins "Ground" []]) x (cs.map p2):=hx.old
 walk_at "g"
 refine⟨x,cs,rfl,hx',g,?_⟩
 walk_at "g"
 refine⟨S0.length,[],rfl,zbB,by decide,?_⟩
 rw [zbN]
 exact fin_same q
def zd1:DSp:=zms "Ground" zb4
def zav:zbL:=fun ds S Q ex=>∃ (x y:D) (xs ys:List D),ds=[x,y]/\Lst S x xs/\Lst S y ys/\(xs.length<1\/12<xs.length\/12<ys.length->ex "TooMany" S)/\(1<=xs.length->xs.length<=12->ys.length<=12->Q .non S)
def zaX (ex : XR) : DS :=
    (zJ (sIf (dOr (dT (dOp oLt (dB zan (zc (zj 0) zu)) (dC (.int 1)))) (dT (dOp oGt (dB zan (zc (zj 0) zu)) (dC (.int 12))))) (zbD ex "TooMany") z7)
 (sIf (dT (dOp oGt (dB zan (zc (zj 1) zu)) (dC (.int 12)))) (zbD ex "TooMany") z7))
theorem zd9:∀ ds So Q ex,zav ds So Q ex->ds.length=2:=by rintro ds So Q ex ⟨_,_,_,_,rfl,_⟩;rfl
theorem zel:zb7 2 zaX zav:=by
 rintro ds S Q ex ⟨x,y,xs,ys,rfl,hx,hy,hb,q⟩
 unfold zaX
 walk_at "g"
 refine r_d (fun h=>?_) (fun h1=>?_)
 ·walk_at "g"
  exact hb (by omega)
 walk_at "g"
 refine r_d (fun h=>?_) (fun h2=>?_)
 ·walk_at "g"
  exact hb (by omega)
 walk_at "g"
 refine r_d (fun h=>?_) (fun h3=>?_)
 ·walk_at "g"
  exact hb (by omega)
 walk_at "g"
 exact fin_same (q (by omega) (by omega) (by omega))
def onC (p:Nat->Bool):D->D
 | .str z=>.bl (p (z.cps.toList.headD 0))
 | d=>d
theorem zhl {z:Str}{i:Nat}{d:D}(h:(signs z)[i]?=some d):∃ c,z.cps.toList[i]?=some c/\d=.str ⟨#[c]⟩:=by
 unfold signs at h
 rw [List.getElem?_map] at h
 cases e:z.cps.toList[i]? with
 | none=>rw [e] at h;cases h
 | some p=>rw [e] at h;cases h;exact⟨p,rfl,rfl⟩
theorem zkP (p:Nat->Bool)(z:Str):(signs z).map (onC p)=(z.cps.toList.map p).map D.bl:=by
 unfold signs
 rw [List.map_map,List.map_map];rfl
theorem zfp (z:Str):(signs z).length=z.length:=by
 unfold signs
 rw [List.length_map];exact Array.length_toList
def zb8:DSp:=fun ds S Q=>∃ z:Str,ds=[.str z]/\z.length<=1000/\Q (.bl (nmB z)) S
def zd4:DS :=
    (zJ (sIf (dOr (dT (dOp oLt (dB zan (zc (zj 0) zu)) (dC (.int 1)))) (dT (dOp oGt (dB zan (zc (zj 0) zu)) (dC (.int 8))))) (zac (dC (.bl false))) z7)
 (zac (dB zfo (zc (dLC 1 [] (zc0 (zj 0)) (zB 0) zbj (dOp oIn (zj 0) (dC (.str "abcdefghijklmnopqrstuvwxyz")))) zu))))
theorem ziS:∀ ds So Q,zb8 ds So Q->ds.length=1:=by rintro ds So Q ⟨_,rfl,_⟩;rfl
theorem zjX:BodyOk 1 zd4 zb8:=by
 rintro ds S Q ⟨z,rfl,hz,q⟩
 unfold zd4
 have hb:z.length<=big:=by unfold big;omega
 walk_at "g"
 refine zge hb ?_
 walk_at "g"
 unfold nmB at q
 refine r_d (fun h=>?_) (fun h=>?_)
 ·walk_at "g"
  rw [decide_eq_false (show ¬ 1<=z.length by omega)] at q
  exact fin_same q
 rw [decide_eq_true (show 1<=z.length by omega)] at q
 walk_at "g"
 refine zge hb ?_
 walk_at "g"
 refine r_d (fun h=>?_) (fun h=>?_)
 ·walk_at "g"
  rw [decide_eq_false (show ¬ z.length<=8 by omega)] at q
  exact fin_same q
 rw [decide_eq_true (show z.length<=8 by omega)] at q
 walk_at "g"
 refine za1 (fun _=>true) (onC fun c=>decide (c∈abc)) True.intro (by rw [zfp];exact hb) (fun i d ys hd hw=>?_) ?_
 ·obtain⟨c,_,rfl⟩:=zhl hd
  walk_at "g"
  rw [zko]
  exact zb9 hd hw rfl rfl
 rw [filter_true,zkP]
 walk_at "g"
 refine zdj Lst.at0 rfl ?_
 refine zbf rfl ?_
 rw [List.all_map]
 exact q
def onS (p:Str->D):D->D
 | .str z=>p z
 | d=>d
theorem znm {zs:List Str}{i:Nat}{d:D}(h:(zs.map D.str)[i]?=some d):∃ z,zs[i]?=some z/\d=.str z:=by
 rw [List.getElem?_map] at h
 cases e:zs[i]? with
 | none=>rw [e] at h;cases h
 | some p=>rw [e] at h;cases h;exact⟨p,rfl,rfl⟩
theorem znl (f:Str->D)(zs:List Str):(zs.map D.str).map (onS f)=zs.map f:=by rw [List.map_map];rfl
theorem zhn:∀ {zs:List Str},¬ zs.Nodup->∃ a b:Nat,∃ z,a<b/\zs[a]?=some z/\zs[b]?=some z
 | [],h=>absurd List.nodup_nil h
 | x::zs,h=>by
  by_cases hx:x∈zs
  ·obtain⟨j,hj,e⟩:=List.mem_iff_getElem.mp hx
   exact⟨0,j+1,x,by omega,rfl,by rw [List.getElem?_cons_succ,List.getElem?_eq_getElem hj,e]⟩
  ·obtain⟨a,b,z,h1,h2,h3⟩:=zhn (zs:=zs) fun nd=>h (List.nodup_cons.mpr ⟨hx,nd⟩)
   exact⟨a+1,b+1,z,by omega,by simpa using h2,by simpa using h3⟩
def zaB:zbL:=fun ds S Q ex=>∃ (x:D) (zs:List Str),ds=[x]/\Lst S x (zs.map D.str)/\zs.length<=100/\(∀ z∈zs,z.length<=1000)/\((¬ ∀ z∈zs,nmB z=true)->∀ T,ex "BadName" (S++T))/\((∀ z∈zs,nmB z=true)->¬ zs.Nodup->∀ T,ex "Twice" (S++T))/\((∀ z∈zs,nmB z=true)->zs.Nodup->Q .non S)
def zbd (ex : XR) : DS :=
    (zJ (sIf (zeC (dT (dB zfo (zc (dLC 1 [] (zc0 (zj 0)) (zB 0) zbj (dCall zb8 (zc (zj 0) zu))) zu)))) (zbD ex "BadName") z7)
 (sIf (dT (dOp oLt (dB zjZ (zc (zj 0) zu)) (dB zan (zc (zj 0) zu)))) (zbD ex "Twice") z7))
theorem zeA:∀ ds So Q ex,zaB ds So Q ex->ds.length=1:=by rintro ds So Q ex ⟨_,_,rfl,_⟩;rfl
theorem ze0:zb7 1 zbd zaB:=by
 rintro ds S Q ex ⟨x,zs,rfl,hx,hl,hz,h1,h2,q⟩
 unfold zbd
 walk_at "g"
 refine za1 (fun _=>true) (onS fun z=>.bl (nmB z)) hx (by rw [List.length_map];unfold big;omega) (fun i d ys hd hw=>?_) ?_
 ·obtain⟨z,hzi,rfl⟩:=znm hd
  walk_at "g"
  refine⟨z,rfl,hz z (List.mem_of_getElem? hzi),?_⟩
  exact zb9 hd hw rfl rfl
 rw [filter_true,znl,show zs.map (fun z=>D.bl (nmB z))=(zs.map nmB).map D.bl by rw [List.map_map];rfl]
 walk_at "g"
 by_cases hn:∀ z∈zs,nmB z=true
 case neg =>
  refine zdj (b:=false) Lst.at0 ?_ ?_
  ·cases e:(zs.map nmB).all id with
   | false=>rfl
   | true =>
    rw [List.all_map,List.all_eq_true] at e
    exact absurd e hn
  walk_at "g"
  exact h1 hn _
 refine zdj (b:=true) Lst.at0 (by rw [List.all_map,List.all_eq_true];exact hn) ?_
 walk_at "g"
 refine zoz (zs:=zs) hx.old (by omega) ?_
 have hx1:Lst (S++[Cell.lst ((zs.map nmB).map D.bl)]) x (zs.map D.str):=hx.old
 walk_at "g"
 rw [List.length_map]
 by_cases nd:zs.Nodup
 case neg =>
  obtain⟨a,b,z,l,ea,eb⟩:=zhn nd
  have:=zlE l ea eb
  rw [decide_eq_true (by omega)]
  walk_at "g"
  exact h2 hn nd _
 rw [zj6 nd,decide_eq_false (show ¬ ((zs.length:Int)<zs.length) by omega)]
 walk_at "g"
 exact zbf rfl (q hn nd)
def zcA:DSp:=fun ds S Q=>∃ (a b:Int×Int),ds=[p2 a,p2 b]/\zaE a.1 b.2/\zaE b.1 a.2/\Q (.bl (flt a b)) S
def zgE:DS :=
  (zac (dOp oLt (dOp zaA (dOp oIx (zj 0) (dC (.int 0))) (dOp oIx (zj 1) (dC (.int 1)))) (dOp zaA (dOp oIx (zj 1) (dC (.int 0))) (dOp oIx (zj 0) (dC (.int 1))))))
theorem zmd:∀ ds So Q,zcA ds So Q->ds.length=2:=by rintro ds So Q ⟨_,_,rfl,_⟩;rfl
theorem zmR:BodyOk 2 zgE zcA:=by
 rintro ds S Q ⟨a,b,rfl,c1,c2,q⟩
 unfold zgE
 walk_at "g"
 exact fin_same q
def zc2:DSp:=fun ds S Q=>∃ (g:D) (cs:List (Int×Int)) (p:Int×Int),ds=[g,p2 p]/\GAt S g cs/\Grd cs/\Bd 1000 p.1/\Bd 1000 p.2/\Q (.bl (decide (zf8 cs*p.2<=p.1)&&decide (p.1<=zew cs*p.2))) S
def zfy:DS :=
    (zJ (zN (dTup (zc (dOp oIx (dOp oIx (zhb "corners" (zj 0)) (dC (.int 0))) (dC (.int 0))) (zc (dC (.int 1)) zu))) (zB 2))
 (zJ (zN (dTup (zc (dOp oIx (dOp oIx (zhb "corners" (zj 0)) (dUn zeV (dC (.int 1)))) (dC (.int 0))) (zc (dC (.int 1)) zu))) (zB 3))
 (zac (zfx (zfC (dCall zcA (zc (zj 1) (zc (zj 2) zu)))) (zfC (dCall zcA (zc (zj 3) (zc (zj 1) zu))))))))
theorem zkB:∀ ds So Q,zc2 ds So Q->ds.length=2:=by rintro ds So Q ⟨_,_,_,rfl,_⟩;rfl
theorem zlN:BodyOk 4 zfy zc2:=by
 rintro ds S Q ⟨g,cs,p,rfl,⟨n,l,rfl,hn,hl⟩,gr,b1,b2,q⟩
 unfold zfy
 have g1:=gr.two
 obtain⟨a,ha,ea⟩:=zbV gr
 obtain⟨z,hz,ez⟩:=zfT gr
 have aa:atD (cs.map p2) 0=some (p2 a):=zbW (i:=0) (by rw [List.getElem?_map,ha];rfl)
 have az:atD (cs.map p2) (-1)=some (p2 z):=by
  have hne:cs≠[]:=fun e=>by rw [e] at g1;simp at g1
  have en:cs=cs.dropLast++[z]:=by
   have h2:=List.dropLast_concat_getLast hne
   have h3:cs.getLast hne=z:=by
    rw [List.getLast_eq_getElem]
    have hl':=zcU hz
    rw [List.getElem?_eq_getElem hl'] at hz
    cases hz;rfl
   rw [h3] at h2
   exact h2.symm
  rw [en,List.map_append];exact zib
 obtain⟨ba,_⟩:=gr.bd a (List.mem_of_getElem? ha)
 obtain⟨bz,_⟩:=gr.bd z (List.mem_of_getElem? hz)
 rw [ea,ez] at q
 have e1:flt p (a.1,1)=decide (p.1<a.1*p.2):=by unfold flt;dsimp only;rw [Int.mul_one]
 have e2:flt (z.1,1) p=decide (z.1*p.2<p.1):=by unfold flt;dsimp only;rw [Int.mul_one]
 have c1:zaE a.1 p.2:=.inl ⟨ba.mono (by decide),b2.mono (by decide)⟩
 have c2:zaE z.1 p.2:=.inl ⟨bz.mono (by decide),b2.mono (by decide)⟩
 have c3:∀ u:Int,zaE u 1:=fun u=>.inr (.inr (by decide))
 walk_at "g"
 refine⟨p,(a.1,1),rfl,c3 _,c1,?_⟩
 rw [e1]
 walk_at "g"
 refine zjK (fun g=>?_) (fun g=>?_)
 ·walk_at "g"
  refine⟨(z.1,1),p,rfl,c2,c3 _,?_⟩
  rw [e2]
  walk_at "g"
  rw [decide_eq_true (show a.1*p.2<=p.1 by omega),Bool.true_and] at q
  rw [show (!decide (z.1*p.2<p.1))=decide (p.1<=z.1*p.2) by rw [<- decide_not];exact decide_eq_decide.mpr (by omega)]
  exact fin_same q
 ·rw [decide_eq_false (show ¬ a.1*p.2<=p.1 by omega),Bool.false_and] at q
  exact fin_same q
def zaR:DSp:=fun ds S Q=>∃ (t b:Int),ds=[.int t,.int b]/\Q (.int ((Int.gcd t b:Nat):Int)) S
def zbx:DS :=
    (zJ (zgx (dT (dOp oNe (zj 1) (dC (.int 0)))) (zJ (zN (dOp oMod (zj 0) (zj 1)) (zB 2))
 (zJ (zN (zj 1) (zB 0))
 (zN (zj 2) (zB 1)))))
 (zac (dB zhS (zc (zj 0) zu))))
theorem zfc:∀ ds So Q,zaR ds So Q->ds.length=2:=by rintro ds So Q ⟨_,_,rfl,_⟩;rfl
theorem zfN:BodyOk 3 zbx zaR:=by
 rintro ds S Q ⟨t,b,rfl,q⟩
 unfold zbx
 refine Dp.zkk ?_
 refine znU (fun m ρ S'=>S'=S/\∃ (x y:Int) (w:Option D),ρ=[some (.int x),some (.int y),w]/\m=y.natAbs/\Int.gcd x y=Int.gcd t b) b.natAbs ⟨rfl,_,_,none,rfl,rfl,rfl⟩ ?_
 rintro m ρ S' ⟨rfl,x,y,w,rfl,rfl,e⟩
 walk_at "g"
 refine zjK (fun h0=>?_) (fun h0=>?_)
 ·refine zkX ?_
  refine Dp.zkk ?_
  refine Dp.zmp ?_
  refine Dp.zjD ?_
  refine Dp.zeS rfl ?_
  refine Dp.zeS rfl ?_
  refine zoX h0 ?_
  walk_at "g"
  exact⟨_,zi7 h0,rfl,_,_,_,rfl,rfl,(zlR x y).trans e⟩
 ·subst h0
  rw [Int.gcd_zero] at e
  walk_at "g"
  rw [<- e] at q
  exact fin_same q
def zcl:DSp:=fun ds S Q=>∃ (t b:Int),ds=[.int t,.int b]/\b≠0/\Bd 8000 b/\Q (p2 (frT t b,frB t b)) S
def zdC:DS :=
    (zJ (zN (dCall zaR (zc (zj 0) (zc (zj 1) zu))) (zB 2))
 (zJ (sJ (sIf (dT (dOp oLt (zj 1) (dC (.int 0)))) (zN (dUn zeV (zj 2)) (zB 2)) z7))
 (zac (dTup (zc (dOp oDiv (zj 0) (zj 2)) (zc (dOp oDiv (zj 1) (zj 2)) zu))))))
theorem zih:∀ ds So Q,zcl ds So Q->ds.length=2:=by rintro ds So Q ⟨_,_,rfl,_⟩;rfl
theorem zi5:BodyOk 3 zdC zcl:=by
 rintro ds S Q ⟨t,b,rfl,hb,bb,q⟩
 unfold zdC
 have hgn:=zmk (t:=t) (b:=b) hb
 have hgb:=zp1 (t:=t) (b:=b) hb bb
 walk_at "g"
 refine⟨t,b,rfl,?_⟩
 walk_at "g"
 refine r_J (fun ρ S'=>S'=S/\ρ=[some (.int t),some (.int b),some (.int (gd t b))]) ?_ ?_
 ·walk_at "g"
  refine r_d (fun g=>?_) (fun g=>?_)
  ·have hg:gd t b=-((Int.gcd t b:Nat):Int):=if_pos g
   walk_at "g"
   exact⟨rfl,by rw [hg];rfl⟩
  ·have hg:gd t b=((Int.gcd t b:Nat):Int):=if_neg g
   walk_at "g"
   exact⟨rfl,by rw [hg];rfl⟩
 rintro ρ S' ⟨rfl,rfl⟩
 refine Dp.zmo ?_
 refine Dp.zmu ?_
 refine Dp.zic ?_
 refine Dp.zjD ?_
 refine Dp.zeS rfl ?_
 refine Dp.zeS rfl ?_
 refine zkN ⟨hgn,hgb⟩ ?_
 refine Dp.zic ?_
 refine Dp.zjD ?_
 refine Dp.zeS rfl ?_
 refine Dp.zeS rfl ?_
 refine zkN ⟨hgn,hgb⟩ ?_
 walk_at "g"
 exact fin_same q
def zbU:DSp:=fun ds S Q=>∃ (a b p:Int×Int),ds=[p2 a,p2 b,p2 p]/\b.1≠a.1/\0<p.2/\Bd 180 a.1/\Bd 200 a.2/\Bd 180 b.1/\Bd 200 b.2/\Bd 1000 p.1/\Bd 1000 p.2/\∀ c:Int×Int,Sv c (hvT a b p) (hvB a b p)->Int.gcd c.1 c.2=1->Bd 1400 c.1->Bd 1400 c.2->Q (p2 c) S
theorem zpO {t b:Int}(hb:b≠0):Sv (frT t b,frB t b) (if 0<b then t else -t) (if 0<b then b else -b):=by
 have h1:=zlL t b
 have h2:=zm6 (t:=t) hb
 refine⟨by show 0<frB t b;omega,?_⟩
 show frT t b*_=_*frB t b
 split
 ·rw [h1,Int.mul_comm]
 ·rw [Int.mul_neg,h1,Int.neg_mul,Int.mul_comm]
def zde:DS :=
    (zJ (zN (dOp zax (dOp oIx (zj 1) (dC (.int 0))) (dOp oIx (zj 0) (dC (.int 0)))) (zB 3))
 (zJ (zN (dOp zax (dOp oIx (zj 1) (dC (.int 1))) (dOp oIx (zj 0) (dC (.int 1)))) (zB 4))
 (zJ (zN (dOp zX (dOp zaA (dOp zaA (dOp oIx (zj 0) (dC (.int 1))) (zj 3)) (dOp oIx (zj 2) (dC (.int 1)))) (dOp zaA (zj 4) (dOp zax (dOp oIx (zj 2) (dC (.int 0))) (dOp zaA (dOp oIx (zj 0) (dC (.int 0))) (dOp oIx (zj 2) (dC (.int 1))))))) (zB 5))
 (zac (dCall zcl (zc (zj 5) (zc (dOp zaA (zj 3) (dOp oIx (zj 2) (dC (.int 1)))) zu)))))))
theorem zhD:∀ ds So Q,zbU ds So Q->ds.length=3:=by rintro ds So Q ⟨_,_,_,rfl,_⟩;rfl
theorem zim:BodyOk 6 zde zbU:=by
 rintro ds S Q ⟨a,b,p,rfl,hne,hp,b1,b2,b3,b4,b5,b6,q⟩
 unfold zde
 have r1:Bd 181 (b.1-a.1):=Bd.sub b3 b1
 have r2:Bd 201 (b.2-a.2):=Bd.sub b4 b2
 have m1:Bd 381 (a.2*(b.1-a.1)):=Bd.mul b2 r1
 have m2:Bd 1381 (a.2*(b.1-a.1)*p.2):=Bd.mul m1 b6
 have m3:Bd 1180 (a.1*p.2):=Bd.mul b1 b6
 have m4:Bd 1181 (p.1-a.1*p.2):=Bd.sub (b5.mono (by decide)) m3
 have m5:Bd 1382 ((b.2-a.2)*(p.1-a.1*p.2)):=Bd.mul r2 m4
 have m6:Bd 1181 ((b.1-a.1)*p.2):=Bd.mul r1 b6
 have bT:Bd 1400 (a.2*(b.1-a.1)*p.2+(b.2-a.2)*(p.1-a.1*p.2)):=(Bd.add (n:=1382) (m2.mono (by decide)) m5).mono (by decide)
 have c1:zaE a.2 (b.1-a.1):=.inl ⟨b2.mono (by decide),r1.mono (by decide)⟩
 have c2:zaE (a.2*(b.1-a.1)) p.2:=.inl ⟨m1.mono (by decide),b6.mono (by decide)⟩
 have c3:zaE a.1 p.2:=.inl ⟨b1.mono (by decide),b6.mono (by decide)⟩
 have c4:zaE (b.2-a.2) (p.1-a.1*p.2):=.inl ⟨r2.mono (by decide),m4.mono (by decide)⟩
 have c5:zaE (b.1-a.1) p.2:=.inl ⟨r1.mono (by decide),b6.mono (by decide)⟩
 walk_at "g"
 have hr:(b.1-a.1)*p.2≠0:=Int.mul_ne_zero (by omega) (by omega)
 refine⟨_,_,rfl,hr,m6.mono (by decide),?_⟩
 refine fin_same (q _ ?_ (zoa hr) (zn8 bT) ((znW m6).mono (by decide)))
 have hs:=zpO (t:=a.2*(b.1-a.1)*p.2+(b.2-a.2)*(p.1-a.1*p.2)) hr
 unfold hvT hvB
 by_cases g:0<b.1-a.1
 ·have:0<(b.1-a.1)*p.2:=Int.mul_pos g hp
  rw [if_pos this,if_pos this] at hs
  rw [if_pos g,if_pos g];exact hs
 ·have:¬ 0<(b.1-a.1)*p.2:=fun z=>by
   have:=Int.mul_pos (show 0 < -(b.1-a.1) by omega) hp
   rw [Int.neg_mul] at this
   omega
  rw [if_neg this,if_neg this] at hs
  rw [if_neg g,if_neg g];exact hs
def zbZ:zbL:=fun ds S Q ex=>∃ (g:D) (cs:List (Int×Int)) (p:Int×Int),ds=[g,p2 p]/\GAt S g cs/\Grd cs/\0<p.2/\Bd 1000 p.1/\Bd 1000 p.2/\(¬ OnG cs p->ex "OffGround" S)/\(OnG cs p->∀ a b c:Int×Int,zez cs p=some (a,b)->Sv c (hvT a b p) (hvB a b p)->0<hvB a b p->Int.gcd c.1 c.2=1->Bd 1400 c.1->Bd 1400 c.2->Q (p2 c) S)
def zdd (ex : XR) : DS :=
    (zJ (sIf (zeC (dT (dCall zc2 (zc (zj 0) (zc (zj 1) zu))))) (zbD ex "OffGround") z7)
 (zJ (zN (zhb "corners" (zj 0)) (zB 2))
 (zJ (zN (dC (.int 1)) (zB 3))
 (zJ (zgx (dT (dCall zcA (zc (dTup (zc (dOp oIx (dOp oIx (zj 2) (zj 3)) (dC (.int 0))) (zc (dC (.int 1)) zu))) (zc (zj 1) zu)))) (zlY 3 (dC (.int 1))))
 (zac (dCall zbU (zc (dOp oIx (zj 2) (dOp zax (zj 3) (dC (.int 1)))) (zc (dOp oIx (zj 2) (zj 3)) (zc (zj 1) zu)))))))))
theorem zhG:∀ ds So Q ex,zbZ ds So Q ex->ds.length=2:=by rintro ds So Q ex ⟨_,_,_,rfl,_⟩;rfl
theorem zh4:zb7 4 zdd zbZ:=by
 rintro ds S Q ex ⟨g,cs,p,rfl,hg,gr,hp,b1,b2,hx,q⟩
 unfold zdd
 obtain⟨n,l,rfl,hn,hl⟩:=id hg
 walk_at "g"
 refine⟨_,cs,p,rfl,hg,gr,b1,b2,?_⟩
 by_cases on:OnG cs p
 case neg =>
  have e:(decide (zf8 cs*p.2<=p.1)&&decide (p.1<=zew cs*p.2))=false:=Bool.eq_false_iff.mpr fun z=>on (by rw [Bool.and_eq_true,decide_eq_true_eq,decide_eq_true_eq] at z;exact z)
  rw [e]
  walk_at "g"
  exact hx on
 have q:=q on
 obtain⟨kk,a,b,ha,hb,hle,hlt⟩:=zgC gr.two on.2
 have seg:=seg_at ha hb hle hlt
 have hk:=zcU hb
 rw [decide_eq_true on.1,decide_eq_true on.2,show (true&&true)=true from rfl]
 walk_at "g"
 refine znU (fun m ρ S'=>S'=S/\∃ j:Nat,ρ=[some (.ref n),some (p2 p),some (.ref l),some (.int ((j:Int)+1))]/\m=kk-j/\j<=kk) kk ⟨rfl,0,rfl,rfl,by omega⟩ ?_
 rintro m ρ S' ⟨rfl,j,rfl,rfl,hj⟩
 obtain⟨c,hc,ac⟩:=zfI (cs:=cs) (k:=(j:Int)+1) (by omega) (by omega)
 have hc':cs[j+1]?=some c:=by rwa [show ((j:Int)+1).toNat=j+1 by omega] at hc
 obtain⟨bc,bc2⟩:=gr.bd c (List.mem_of_getElem? hc)
 have e1:flt (c.1,1) p=decide (c.1*p.2<p.1):=by unfold flt;dsimp only;rw [Int.mul_one]
 walk_at "g"
 refine⟨(c.1,1),p,rfl,.inl ⟨bc.mono (by decide),b2.mono (by decide)⟩,.inr (.inr (show (1:Int).natAbs<2 ^ 64 by decide)),?_⟩
 rw [e1]
 walk_at "g"
 refine r_d (fun h=>?_) (fun h=>?_)
 ·walk_at "g"
  have hjk:j<kk:=by
   rcases Nat.lt_or_ge j kk with z | z
   ·exact z
   ·have:j=kk:=by omega
    subst this
    rw [hb] at hc'
    cases hc'
    omega
  exact⟨kk-(j+1),by omega,rfl,j+1,by simp,rfl,by omega⟩
 ·have hjk:j=kk:=by
   rcases Nat.lt_or_ge j kk with z | z
   ·have:=hlt (j+1) c (by omega) (by omega) hc'
    omega
   ·omega
  subst hjk
  rw [hb] at hc'
  cases hc'
  have aa:atD (cs.map p2) ((j:Int)+1-1)=some (p2 a):=by
   rw [show (j:Int)+1-1=(j:Int) by omega]
   exact zbW (by rw [List.getElem?_map,ha];rfl)
  obtain⟨ba1,ba2⟩:=gr.bd a (List.mem_of_getElem? ha)
  have hab:=zbX gr (show j<j+1 by omega) ha hb
  walk_at "g"
  refine⟨a,b,p,rfl,by omega,hp,ba1.mono (by decide),ba2.mono (by decide),bc.mono (by decide),bc2.mono (by decide),b1,b2,fun c hs hg d1 d2=>?_⟩
  exact fin_same (q a b c seg hs (zgM (by omega) hp) hg d1 d2)
def zdo:DSp:=fun ds S Q=>∃ (g:D) (cs:List (Int×Int)) (s:Int×Int),ds=[g,p2 s]/\GAt S g cs/\Grd cs/\Bd 180 s.1/\Bd 200 s.2/\∀ b:Bool,(b=true↔zby cs s)->Q (.bl b) S
def zeF:DS :=
    (zJ (zN (dTup (zc (dOp oIx (zj 1) (dC (.int 0))) (zc (dC (.int 1)) zu))) (zB 2))
 (zJ (sIf (zeC (dT (dCall zc2 (zc (zj 0) (zc (zj 2) zu))))) (zac (dC (.bl false))) z7)
 (zac (zfC (dCall zcA (zc (dTup (zc (dOp oIx (zj 1) (dC (.int 1))) (zc (dC (.int 1)) zu))) (zc (zbS zbZ xF (zc (zj 0) (zc (zj 2) zu))) zu)))))))
theorem zjE:∀ ds So Q,zdo ds So Q->ds.length=2:=by rintro ds So Q ⟨_,_,_,rfl,_⟩;rfl
theorem zld:BodyOk 3 zeF zdo:=by
 rintro ds S Q ⟨g,cs,s,rfl,hg,gr,b1,b2,q⟩
 unfold zeF
 have bo:Bd 1000 (1:Int):=Bd.lit (by decide) (by decide)
 walk_at "g"
 refine⟨g,cs,(s.1,1),rfl,hg,gr,b1.mono (by decide),bo,?_⟩
 by_cases on:OnG cs (s.1,1)
 case neg =>
  have e:(decide (zf8 cs*(s.1,(1:Int)).2<=(s.1,(1:Int)).1)&&decide ((s.1,(1:Int)).1<=zew cs*(s.1,(1:Int)).2))=false:=Bool.eq_false_iff.mpr fun z=>on (by rw [Bool.and_eq_true,decide_eq_true_eq,decide_eq_true_eq] at z;exact z)
  rw [e]
  walk_at "g"
  exact fin_same (q false ⟨fun z=>(by cases z),fun z=>absurd z.1 on⟩)
 rw [decide_eq_true on.1,decide_eq_true on.2,show (true&&true)=true from rfl]
 walk_at "g"
 refine⟨g,cs,(s.1,1),rfl,hg,gr,(show (0:Int)<1 by decide),b1.mono (by decide),bo,fun off=>absurd on off,fun _ a b c seg sv hb hgcd d1 d2=>?_⟩
 walk_at "g"
 refine⟨(s.2,1),c,rfl,.inl ⟨b2.mono (by decide),d2.mono (by decide)⟩,.inr (.inr (show (1:Int).natAbs<2 ^ 64 by decide)),?_⟩
 rw [znV (t:=s.2) (b:=1) (by decide) hb ⟨(show (0:Int)<1 by decide),rfl⟩ sv]
 walk_at "g"
 refine fin_same (q _ ?_)
 rw [Bool.not_eq_true',decide_eq_false_iff_not]
 constructor
 ·intro h
  refine⟨on,fun a' b' seg'=>?_⟩
  rw [seg] at seg';cases seg';omega
 ·intro h
  have:=h.2 a b seg
  omega
noncomputable def zga (cs:List (Int×Int)) (s:Int×Int):Bool:=@decide (zby cs s) (Classical.propDecidable _)
theorem zgd {cs:List (Int×Int)}{s:Int×Int}:zga cs s=true↔zby cs s:=by unfold zga;exact @decide_eq_true_iff _ (Classical.propDecidable _)
def zaJ:zbL:=fun ds S Q ex=>∃ (g y:D) (cs:List (Int×Int)) (bs:List (Str×(Int×Int))),ds=[g,y]/\GAt S g cs/\Grd cs/\Lst S y (bs.map bcD)/\bs.length<=100/\(∀ b∈bs,Bd 180 b.2.1/\Bd 200 b.2.2)/\((¬ ∀ b∈bs,zby cs b.2)->∀ T,ex "OffGround" (S++T))/\((∀ b∈bs,zby cs b.2)->Q .non S)
def zbm (ex:XR):DS :=
  (sIf (zeC (dT (dB zfo (zc (dLC 3 [0] (zc0 (zj 1)) (zfs 3 (zbh (zB 0) (zbh (zB 1) (zbh (zB 2) ze7)))) zbj (dCall zdo (zc (zj 3) (zc (dTup (zc (zj 1) (zc (zj 2) zu))) zu)))) zu)))) (zbD ex "OffGround") z7)
theorem ze4:∀ ds So Q ex,zaJ ds So Q ex->ds.length=2:=by rintro ds So Q ex ⟨_,_,_,_,rfl,_⟩;rfl
theorem zfk:zb7 2 zbm zaJ:=by
 rintro ds S Q ex ⟨g,y,cs,bs,rfl,hg,gr,hy,hl,hb,h1,q⟩
 unfold zbm
 walk_at "g"
 refine za1 (fun _=>true) (zme fun b=>.bl (zga cs b.2)) hy (by rw [List.length_map];unfold big;omega) (fun i d ys hd hw=>?_) ?_
 ·obtain⟨b,hbi,rfl⟩:=zkZ hd
  obtain⟨s2,s3⟩:=hb b (List.mem_of_getElem? hbi)
  walk_at "g"
  refine⟨g,cs,b.2,rfl,hg,gr,s2,s3,fun r hr=>?_⟩
  have e:r=zga cs b.2:=by rw [Bool.eq_iff_iff,hr,zgd]
  rw [e]
  exact zb9 hd hw rfl rfl
 rw [filter_true,ziH,show bs.map (fun b=>D.bl (zga cs b.2))=(bs.map fun b=>zga cs b.2).map D.bl by rw [List.map_map];rfl]
 walk_at "g"
 by_cases hn:∀ b∈bs,zby cs b.2
 case neg =>
  refine zdj (b:=false) Lst.at0 ?_ ?_
  ·cases e:(bs.map fun b=>zga cs b.2).all id with
   | false=>rfl
   | true =>
    rw [List.all_map,List.all_eq_true] at e
    exact absurd (fun b hb=>zgd.mp (e b hb)) hn
  walk_at "g"
  exact h1 hn _
 refine zdj (b:=true) Lst.at0 (by rw [List.all_map,List.all_eq_true];exact fun b hb=>zgd.mpr (hn b hb)) ?_
 walk_at "g"
 exact zbf rfl (q hn)
def zci:DSp:=fun ds S Q=>∃ i:Int,ds=[.int i]/\Q (.bl true) S
def zdA:DS :=
  (zac (zfx (dB zf2 (zc (zj 0) (zc (dC (.ty "int")) zu))) (zfC (dB zf2 (zc (zj 0) (zc (dC (.ty "bool")) zu))))))
theorem zhZ:∀ ds So Q,zci ds So Q->ds.length=1:=by rintro ds So Q ⟨_,rfl,_⟩;rfl
theorem ziT:BodyOk 1 zdA zci:=by
 rintro ds S Q ⟨i,rfl,q⟩
 unfold zdA
 walk_at "g"
 exact fin_same q
def zdp:DSp:=fun ds S Q=>∃ l:List Int,ds=[.tup (l.map D.int)]/\l.length<=100/\Q (.bl (zcc l)) S
def zeI:DS :=
    (zJ (sIf (dOr (zeC (dT (dB zf2 (zc (zj 0) (zc (dC (.ty "tuple")) zu))))) (dT (dOp oNe (dB zan (zc (zj 0) zu)) (dC (.int 8))))) (zac (dC (.bl false))) z7)
 (zJ (sIf (zeC (dT (dB zfo (zc (dLC 1 [] (zc0 (zj 0)) (zB 0) zbj (dCall zci (zc (zj 0) zu))) zu)))) (zac (dC (.bl false))) z7)
 (zac (zfx (dOp oLe (dOp oIx (zj 0) (dC (.int 0))) (dOp oIx (zj 0) (dC (.int 1)))) (zfx (dOp oLe (dOp oIx (zj 0) (dC (.int 2))) (dOp oIx (zj 0) (dC (.int 3)))) (dOp oLe (dOp oIx (zj 0) (dC (.int 4))) (dOp oIx (zj 0) (dC (.int 5)))))))))
theorem zjF:∀ ds So Q,zdp ds So Q->ds.length=1:=by rintro ds So Q ⟨_,rfl,_⟩;rfl
theorem zk7:BodyOk 1 zeI zdp:=by
 rintro ds S Q ⟨l,rfl,hl,q⟩
 unfold zeI
 walk_at "g"
 rw [List.length_map]
 refine zjK (fun h=>?_) (fun h=>?_)
 ·walk_at "g"
  rw [zmg (by omega)] at q
  exact fin_same q
 walk_at "g"
 refine za1 (fun _=>true) (fun _=>.bl true) True.intro (by rw [List.length_map];unfold big;omega) (fun i d ys hd hw=>?_) ?_
 ·obtain⟨z,_,rfl⟩:=zjh hd
  walk_at "g"
  refine⟨z,rfl,?_⟩
  exact zb9 hd hw rfl rfl
 rw [filter_true,List.map_map,show l.map ((fun _=>D.bl true) ∘ D.int)=(l.map fun _=>true).map D.bl by rw [List.map_map];rfl]
 walk_at "g"
 refine zdj (b:=true) Lst.at0 (by rw [List.all_map,List.all_eq_true];intro _ _;rfl) ?_
 match l,h with
 | [a,b,c,d,e,f,g,i],_ =>
  walk_at "g"
  have e1:zcc [a,b,c,d,e,f,g,i]=(decide (a<=b)&&(decide (c<=d)&&decide (e<=f))):=rfl
  rw [e1] at q
  refine r_d (fun h1=>?_) (fun h1=>?_)
  ·walk_at "g"
   rw [decide_eq_true h1] at q
   refine r_d (fun h2=>?_) (fun h2=>?_)
   ·walk_at "g"
    rw [decide_eq_true h2] at q
    exact zbf rfl q
   ·rw [decide_eq_false h2] at q
    exact zbf rfl q
  ·rw [decide_eq_false h1] at q
   exact zbf rfl q
def zaL:zbL:=fun ds S Q ex=>∃ (z:D) (gs:List (List Int)),ds=[z]/\Lst S z (gs.map fgL)/\gs.length<=100/\(∀ l∈gs,l.length<=100)/\((¬ ∀ l∈gs,zcc l=true)->∀ T,ex "BadFog" (S++T))/\((∀ l∈gs,zcc l=true)->Q .non S)
def zbk (ex:XR):DS :=
  (sIf (zeC (dT (dB zfo (zc (dLC 1 [] (zc0 (zj 0)) (zB 0) zbj (dCall zdp (zc (zj 0) zu))) zu)))) (zbD ex "BadFog") z7)
theorem ze1:∀ ds So Q ex,zaL ds So Q ex->ds.length=1:=by rintro ds So Q ex ⟨_,_,rfl,_⟩;rfl
theorem zfl:zb7 1 zbk zaL:=by
 rintro ds S Q ex ⟨z,gs,rfl,hz,hl,hll,h1,q⟩
 unfold zbk
 walk_at "g"
 refine za1 (fun _=>true) (zon zcc) hz (by rw [List.length_map];unfold big;omega) (fun i d ys hd hw=>?_) ?_
 ·obtain⟨l,hli,rfl⟩:=znK hd
  walk_at "g"
  refine⟨l,rfl,hll l (List.mem_of_getElem? hli),?_⟩
  refine zb9 hd hw rfl ?_
  have:=ziN zcc [l]
  simpa using this.symm
 rw [filter_true,ziN]
 walk_at "g"
 by_cases hn:∀ l∈gs,zcc l=true
 case neg =>
  refine zdj (b:=false) Lst.at0 ?_ ?_
  ·cases e:(gs.map zcc).all id with
   | false=>rfl
   | true =>
    rw [List.all_map,List.all_eq_true] at e
    exact absurd e hn
  walk_at "g"
  exact h1 hn _
 refine zdj (b:=true) Lst.at0 (by rw [List.all_map,List.all_eq_true];exact hn) ?_
 walk_at "g"
 exact zbf rfl (q hn)
def zaC:zbL:=fun ds S Q ex=>∃ (hz:Option Int) (a b d:Int),ds=[zcd hz,.int a,.int b,.int d]/\(zf3 hz a b d->ex "BadHour" S)/\(¬ zf3 hz a b d->Q .non S)
def zbe (ex : XR) : DS :=
    (zJ (sIf (dT (dOp oGt (zj 1) (zj 2))) (zbD ex "BadHour") z7)
 (zJ (sIf (dT (dOp oLt (zj 3) (dC (.int 0)))) (zbD ex "BadHour") z7)
 (sIf (zeE (dT (dOp zjY (zj 0) (dC .non))) (dT (dOp oLt (zj 0) (dC (.int 0))))) (zbD ex "BadHour") z7)))
theorem zex:∀ ds So Q ex,zaC ds So Q ex->ds.length=4:=by rintro ds So Q ex ⟨_,_,_,_,rfl,_⟩;rfl
theorem ze3:zb7 4 zbe zaC:=by
 rintro ds S Q ex ⟨hz,a,b,d,rfl,h1,q⟩
 unfold zbe
 walk_at "g"
 refine r_d (fun h=>?_) (fun g1=>?_)
 ·walk_at "g"
  exact h1 (.inl h)
 walk_at "g"
 refine r_d (fun h=>?_) (fun g2=>?_)
 ·walk_at "g"
  exact h1 (.inr (.inl h))
 cases hz with
 | none =>
  walk_at "g"
  refine fin_same (q ?_)
  rintro (z | z | ⟨z,e,_⟩)
  ·exact g1 z
  ·exact g2 z
  ·cases e
 | some z =>
  unfold zcd
  walk_at "g"
  refine r_d (fun h=>?_) (fun g3=>?_)
  ·walk_at "g"
   exact h1 (.inr (.inr ⟨z,rfl,h⟩))
  walk_at "g"
  refine fin_same (q ?_)
  rintro (w | w | ⟨w,e,l⟩)
  ·exact g1 w
  ·exact g2 w
  ·cases e;exact g3 l
def za0:zbL:=fun ds S Q ex=>∃ (S0:Sto) (g y z:D) (cs:List (Int×Int)) (bs:List (Str×(Int×Int))) (gs:List (List Int)) (hz:Option Int) (a b d:Int),ds=[.ref S0.length,g,y,z,zcd hz,.int a,.int b,.int d]/\S=S0++[.ins "Valley" []]/\GAt S0 g cs/\Grd cs/\Lst S0 y (bs.map bcD)/\Lst S0 z (gs.map fgL)/\VBd bs gs/\∀ e,VCl cs bs gs hz a b d e->∀ T,zl4 e (fun c=>ex c (S0++T)) (Q .non (S0++T))
def za8 (ex : XR) : DS :=
    (zJ (zb5 (zbS zav ex (zc (zj 2) (zc (zj 3) zu))))
 (zJ (zb5 (zbS zaB ex (zc (dLC 1 [] (zc0 (zj 2)) (zB 0) zbj (dOp oIx (zj 0) (dC (.int 0)))) zu)))
 (zJ (zb5 (zbS zaJ ex (zc (zj 1) (zc (zj 2) zu))))
 (zJ (zb5 (zbS zaL ex (zc (zj 3) zu)))
 (zJ (zb5 (zbS zaC ex (zc (zj 4) (zc (zj 5) (zc (zj 6) (zc (zj 7) zu))))))
 (zJ (zc7 "Valley" "ground" (zj 0) (dCall zd1 (zc (zhb "corners" (zj 1)) zu)))
 (zJ (zc7 "Valley" "beacons" (zj 0) (dB zdY (zc (zj 2) zu)))
 (zJ (zc7 "Valley" "fogs" (zj 0) (dB zdY (zc (zj 3) zu)))
 (zJ (zc7 "Valley" "haze" (zj 0) (zj 4))
 (zJ (zc7 "Valley" "first" (zj 0) (zj 5))
 (zJ (zc7 "Valley" "last" (zj 0) (zj 6))
 (zc7 "Valley" "delay" (zj 0) (zj 7)))))))))))))
theorem zgk:∀ ds So Q ex,za0 ds So Q ex->ds.length=8:=by rintro ds So Q ex ⟨_,_,_,_,_,_,_,_,_,_,_,rfl,_⟩;rfl
theorem zhg:zb7 8 za8 za0:=by
 rintro ds S Q ex ⟨S0,g,y,z,cs,bs,gs,hz,a,b,d,rfl,rfl,hg,gr,hy,hz',bd,q⟩
 unfold za8
 have lb:=bd.lb
 have lg:=bd.lg
 obtain⟨Sa,hSa⟩:∃ Sa:Sto,Sa=S0++[.ins "Valley" []]:=⟨_,rfl⟩
 have hya:Lst Sa y (bs.map bcD):=hSa▸hy.old
 have hza:Lst Sa z (gs.map fgL):=hSa▸hz'.old
 rw [<- hSa]
 walk_at "g"
 refine⟨y,z,_,_,rfl,hya,hza,fun h=>?_,fun n1 n2 n3=>?_⟩
 ·rw [hSa]
  refine q (some "TooMany") (.inl ⟨?_,rfl⟩) _
  rw [List.length_map,List.length_map] at h
  exact h
 rw [List.length_map] at n1 n2 n3
 have nt:¬ zhd bs gs:=by unfold zhd;omega
 walk_at "g"
 refine za1 (fun _=>true) (zme fun b=>.str b.1) hya (by rw [List.length_map];unfold big;omega) (fun i d ys hd hw=>?_) ?_
 ·obtain⟨b,_,rfl⟩:=zkZ hd
  walk_at "g"
  exact zb9 hd hw rfl rfl
 rw [filter_true,ziH,show bs.map (fun b=>D.str b.1)=(bs.map (·.1)).map D.str by rw [List.map_map];rfl,hSa]
 walk_at "g"
 have as1:∀ T:Sto,S0++[Cell.ins "Valley" [],Cell.lst ((bs.map (·.1)).map D.str)]++T=S0++([Cell.ins "Valley" [],Cell.lst ((bs.map (·.1)).map D.str)]++T):=fun T=>List.append_assoc ..
 refine⟨_,bs.map (·.1),rfl,Lst.at rfl,by rw [List.length_map];omega,bd.ln,fun h T=>?_,fun hn h T=>?_,fun hn nd=>?_⟩
 ·rw [as1]
  exact q (some "BadName") (.inr ⟨nt,.inl ⟨h,rfl⟩⟩) _
 ·rw [as1]
  exact q (some "Twice") (.inr ⟨nt,.inr ⟨hn,.inl ⟨h,rfl⟩⟩⟩) _
 walk_at "g"
 generalize (bs.map (·.1)).map D.str=nms at as1
 refine⟨g,y,cs,bs,rfl,hg.old,gr,hy.old,by omega,bd.bd,fun h T=>?_,fun hs=>?_⟩
 ·rw [as1]
  exact q (some "OffGround") (.inr ⟨nt,.inr ⟨hn,.inr ⟨nd,.inl ⟨h,rfl⟩⟩⟩⟩) _
 walk_at "g"
 refine⟨z,gs,rfl,hz'.old,by omega,bd.ll,fun h T=>?_,fun hf=>?_⟩
 ·rw [as1]
  exact q (some "BadFog") (.inr ⟨nt,.inr ⟨hn,.inr ⟨nd,.inr ⟨hs,.inl ⟨h,rfl⟩⟩⟩⟩⟩) _
 walk_at "g"
 refine⟨hz,a,b,d,rfl,fun h=>?_,fun h=>?_⟩
 ·exact q (some "BadHour") (.inr ⟨nt,.inr ⟨hn,.inr ⟨nd,.inr ⟨hs,.inr ⟨hf,.inl ⟨h,rfl⟩⟩⟩⟩⟩⟩) _
 have q':=q none (.inr ⟨nt,.inr ⟨hn,.inr ⟨nd,.inr ⟨hs,.inr ⟨hf,.inr ⟨h,rfl⟩⟩⟩⟩⟩⟩)
 obtain⟨gn,gl,rfl,hgn,hgl⟩:=hg
 have hgn1:(S0++[.ins "Valley" [],.lst nms])[gn]?=some (.ins "Ground" [("corners",.ref gl)]):=zbK hgn
 walk_at "g"
 refine⟨_,_,cs,rfl,rfl,.inr ⟨gl,rfl,zbK hgl⟩,gr,⟨rfl,?_⟩⟩
 rw [List.append_assoc,show (S0++[Cell.ins "Valley" [],.lst nms]).length=S0.length+2 by simp,show ([Cell.ins "Valley" [],.lst nms]:Sto)++[.ins "Ground" [("corners",.ref (S0.length+2+1))],.lst (cs.map p2)]=[.ins "Valley" [],.lst nms,.ins "Ground" [("corners",.ref (S0.length+3))],.lst (cs.map p2)] from rfl]
 walk_at "g"
 refine⟨S0.length,[],rfl,zbB,by decide,?_⟩
 rw [zbN,zl0]
 have hy2:∀ T,Lst (S0++T) y (bs.map bcD):=fun T=>hy.old
 have hz2:∀ T,Lst (S0++T) z (gs.map fgL):=fun T=>hz'.old
 walk_at "g"
 refine⟨S0.length,_,rfl,zbB,by simp,?_⟩
 rw [zbN,vp2]
 walk_at "g"
 refine⟨S0.length,_,rfl,zbB,by simp,?_⟩
 rw [zbN,vp3]
 walk_at "g"
 refine⟨S0.length,_,rfl,zbB,by simp,?_⟩
 rw [zbN,vp4]
 walk_at "g"
 refine⟨S0.length,_,rfl,zbB,by simp,?_⟩
 rw [zbN,vp5]
 walk_at "g"
 refine⟨S0.length,_,rfl,zbB,by simp,?_⟩
 rw [zbN,vp6]
 walk_at "g"
 refine⟨S0.length,_,rfl,zbB,by simp,?_⟩
 rw [zbN,vp7]
 exact fin_same (q' _)
def zbF:zbL:=fun ds S Q ex=>∃ (x y z:D) (cs:List (Int×Int)) (bs:List (Str×(Int×Int))) (gs:List (List Int)) (hz:Option Int) (a b d:Int),ds=[.tup [x,y,z,zcd hz,.int a,.int b,.int d]]/\Lst S x (cs.map p2)/\Lst S y (bs.map bcD)/\Lst S z (gs.map fgL)/\Grd cs/\VBd bs gs/\∀ e,VCl cs bs gs hz a b d e->∀ T v,zl4 e (fun c=>ex c (S++T)) (Q v (S++T))
def zcR (ex:XR):DS :=
  (zac (zbS (zh3 "Valley" za0) ex (zc (dCall zd1 (zc (dB zdY (zc (dOp oIx (zj 0) (dC (.int 0))) zu)) zu)) (zc (dB zdY (zc (dOp oIx (zj 0) (dC (.int 1))) zu)) (zc (dB zdY (zc (dOp oIx (zj 0) (dC (.int 2))) zu)) (zc (dOp oIx (zj 0) (dC (.int 3))) (zc (dOp oIx (zj 0) (dC (.int 4))) (zc (dOp oIx (zj 0) (dC (.int 5))) (zc (dOp oIx (zj 0) (dC (.int 6))) zu)))))))))
theorem zg4:∀ ds So Q ex,zbF ds So Q ex->ds.length=1:=by rintro ds So Q ex ⟨_,_,_,_,_,_,_,_,_,_,rfl,_⟩;rfl
theorem zhK:zb7 1 zcR zbF:=by
 rintro ds S Q ex ⟨x,y,z,cs,bs,gs,hz,a,b,d,rfl,kx,ky,kz,gr,bd,q⟩
 unfold zcR
 walk_at "g"
 refine⟨S++[.lst (cs.map p2)],_,cs,by simp,rfl,Lst.at0,gr,⟨rfl,?_⟩⟩
 obtain⟨Sb,hSb⟩:∃ Sb:Sto,Sb=S++[Cell.lst (cs.map p2)]++[.ins "Ground" [("corners",.ref ((S++[Cell.lst (cs.map p2)]).length+1))],.lst (cs.map p2)]:=⟨_,rfl⟩
 have hg:GAt Sb (.ref (S.length+1)) cs:=hSb▸⟨_,_,by rw [show S.length+1=(S++[Cell.lst (cs.map p2)]).length by simp],zbB,(zbC _ _ 1).trans rfl⟩
 have e1:∃ T,Sb=S++T:=zcZ ⟨_,rfl⟩ hSb
 have ky1:Lst Sb y (bs.map bcD):=by obtain⟨T,rfl⟩:=e1;exact ky.old
 have kz1:Lst Sb z (gs.map fgL):=by obtain⟨T,rfl⟩:=e1;exact kz.old
 rw [<- hSb]
 clear hSb
 walk_at "g"
 have kz2:Lst (Sb++[.lst (bs.map bcD)]) z (gs.map fgL):=kz1.old
 walk_at "g"
 refine⟨Sb++[.lst (bs.map bcD),.lst (gs.map fgL)],_,_,_,cs,bs,gs,hz,a,b,d,by simp,rfl,hg.old,gr,Lst.at0,Lst.at (k:=1) rfl,bd,fun e he T=>?_⟩
 obtain⟨T1,rfl⟩:=e1
 have e2:S++T1++[Cell.lst (bs.map bcD),.lst (gs.map fgL)]++T=S++(T1++([Cell.lst (bs.map bcD),.lst (gs.map fgL)]++T)):=by simp
 rw [e2]
 have:=fun v=>q e he (T1++([Cell.lst (bs.map bcD),.lst (gs.map fgL)]++T)) v
 cases e with
 | some c=>exact this .non
 | none=>exact⟨rfl,fin_same (this _)⟩
def zfB (e:Option Str):List Bool:=match e with
 | some c=>[decide (c="TooMany"),decide (c="BadName"),decide (c="Twice"),decide (c="OffGround"),decide (c="BadFog"),decide (c="BadHour"),true,false]
 | none=>[]
def zbJ:DSp:=fun ds S Q=>∃ (x y z:D) (cs:List (Int×Int)) (bs:List (Str×(Int×Int))) (gs:List (List Int)) (hz:Option Int) (a b d:Int),ds=[.tup [x,y,z,zcd hz,.int a,.int b,.int d]]/\Lst S x (cs.map p2)/\Lst S y (bs.map bcD)/\Lst S z (gs.map fgL)/\Grd cs/\VBd bs gs/\∀ e,VCl cs bs gs hz a b d e->∀ (T:Sto) (k:Nat),(S++T)[k]?=some (.lst ((zfB e).map D.bl))->Q (.ref k) (S++T)
def zdx:DS :=
    (zJ (zN (zat zu) (zB 1))
 (zJ (zlB 2 ["BadGround","OffGround","BadFog","BadName","Twice","TooMany","BadHour"] (fun ex=>(zb5 (zbS zbF ex (zc (zj 0) zu)))) (zJ (zN (zat (zc (zdq [("BadGround",false),("OffGround",false),("BadFog",false),("BadName",false),("Twice",false),("TooMany",true),("BadHour",false)] (zj 2)) (zc (zdq [("BadGround",false),("OffGround",false),("BadFog",false),("BadName",true),("Twice",false),("TooMany",false),("BadHour",false)] (zj 2)) (zc (zdq [("BadGround",false),("OffGround",false),("BadFog",false),("BadName",false),("Twice",true),("TooMany",false),("BadHour",false)] (zj 2)) (zc (zdq [("BadGround",false),("OffGround",true),("BadFog",false),("BadName",false),("Twice",false),("TooMany",false),("BadHour",false)] (zj 2)) zu))))) (zB 1))
 (zJ (zN (dOp zX (zj 1) (zat (zc (zdq [("BadGround",false),("OffGround",false),("BadFog",true),("BadName",false),("Twice",false),("TooMany",false),("BadHour",false)] (zj 2)) (zc (zdq [("BadGround",false),("OffGround",false),("BadFog",false),("BadName",false),("Twice",false),("TooMany",false),("BadHour",true)] (zj 2)) (zc (zdq [("BadGround",true),("OffGround",true),("BadFog",true),("BadName",true),("Twice",true),("TooMany",true),("BadHour",true)] (zj 2)) zu))))) (zB 1))
 (zb5 (dM zdG (zj 1) (zc (zdq [("BadGround",false),("OffGround",false),("BadFog",false),("BadName",false),("Twice",false),("TooMany",false),("BadHour",false)] (zj 2)) zu))))))
 (zac (zj 1))))
theorem ziQ:∀ ds So Q,zbJ ds So Q->ds.length=1:=by rintro ds So Q ⟨_,_,_,_,_,_,_,_,_,_,rfl,_⟩;rfl
theorem zi1:BodyOk 3 zdx zbJ:=by
 rintro ds S Q ⟨x,y,z,cs,bs,gs,hz,a,b,d,rfl,kx,ky,kz,gr,bd,q⟩
 unfold zdx
 have kx1:Lst (S++[.lst []]) x (cs.map p2):=kx.old
 have ky1:Lst (S++[.lst []]) y (bs.map bcD):=ky.old
 have kz1:Lst (S++[.lst []]) z (gs.map fgL):=kz.old
 walk_at "g"
 refine⟨x,y,z,cs,bs,gs,hz,a,b,d,rfl,kx1,ky1,kz1,gr,bd,fun e he T v=>?_⟩
 have q':=q e he
 have e1:S++[Cell.lst []]++T=S++([Cell.lst []]++T):=List.append_assoc ..
 have q1:∀ (T2:Sto) (k:Nat) (xs:List D),(zfB e).map D.bl=xs->(S++[Cell.lst []]++T++T2)[k]?=some (.lst xs)->Q (.ref k) (S++[Cell.lst []]++T++T2):=fun T2 k xs ex hk=>by
  rw [e1,List.append_assoc] at hk ⊢
  exact q' _ k (by rw [ex];exact hk)
 have tl:∀ (c:Str) (bb:List Bool),zfB (some c)=bb->(zfB (some c)).map D.bl=bb.map D.bl:=fun c bb h=>by rw [h]
 generalize S++[Cell.lst []]++T=S1 at q1 e1
 rcases he with ⟨_,rfl⟩ | ⟨_,⟨_,rfl⟩ | ⟨_,⟨_,rfl⟩ | ⟨_,⟨_,rfl⟩ | ⟨_,⟨_,rfl⟩ | ⟨_,⟨_,rfl⟩ | ⟨_,rfl⟩⟩⟩⟩⟩⟩
 case inr.inr.inr.inr.inr.inr =>
  unfold zl4
  dsimp only
  rw [e1]
  walk_at "g"
  exact fin_same (q' _ _ zbB)
 case inl =>
  refine⟨rfl,?_⟩
  walk_at "g"
  refine zaS Lst.at0 (Lst.at (k:=1) rfl) (Nat.le_of_ble_eq_true rfl) ?_
  walk_at "g"
  walk_at "drho2"
  exact fin_same (q1 _ _ _ (tl _ [true,false,false,false,false,false,true,false] (by decide +kernel)) ((zbC _ _ 2).trans rfl))
 case inr.inl =>
  refine⟨rfl,?_⟩
  walk_at "g"
  refine zaS Lst.at0 (Lst.at (k:=1) rfl) (Nat.le_of_ble_eq_true rfl) ?_
  walk_at "g"
  walk_at "drho2"
  exact fin_same (q1 _ _ _ (tl _ [false,true,false,false,false,false,true,false] (by decide +kernel)) ((zbC _ _ 2).trans rfl))
 case inr.inr.inl =>
  refine⟨rfl,?_⟩
  walk_at "g"
  refine zaS Lst.at0 (Lst.at (k:=1) rfl) (Nat.le_of_ble_eq_true rfl) ?_
  walk_at "g"
  walk_at "drho2"
  exact fin_same (q1 _ _ _ (tl _ [false,false,true,false,false,false,true,false] (by decide +kernel)) ((zbC _ _ 2).trans rfl))
 case inr.inr.inr.inl =>
  refine⟨rfl,?_⟩
  walk_at "g"
  refine zaS Lst.at0 (Lst.at (k:=1) rfl) (Nat.le_of_ble_eq_true rfl) ?_
  walk_at "g"
  walk_at "drho2"
  exact fin_same (q1 _ _ _ (tl _ [false,false,false,true,false,false,true,false] (by decide +kernel)) ((zbC _ _ 2).trans rfl))
 case inr.inr.inr.inr.inl =>
  refine⟨rfl,?_⟩
  walk_at "g"
  refine zaS Lst.at0 (Lst.at (k:=1) rfl) (Nat.le_of_ble_eq_true rfl) ?_
  walk_at "g"
  walk_at "drho2"
  exact fin_same (q1 _ _ _ (tl _ [false,false,false,false,true,false,true,false] (by decide +kernel)) ((zbC _ _ 2).trans rfl))
 case inr.inr.inr.inr.inr.inl =>
  refine⟨rfl,?_⟩
  walk_at "g"
  refine zaS Lst.at0 (Lst.at (k:=1) rfl) (Nat.le_of_ble_eq_true rfl) ?_
  walk_at "g"
  walk_at "drho2"
  exact fin_same (q1 _ _ _ (tl _ [false,false,false,false,false,true,true,false] (by decide +kernel)) ((zbC _ _ 2).trans rfl))
def zcf:DSp:=fun ds S Q=>∃ c:Int,ds=[.int c]/\∀ z:Str,z.length<=1000->Q (.str z) S
def zdF:DS :=
    (zJ (zN (zat (zc (dC (.str "")) (zc (dC (.str "a")) (zc (dC (.str "abcdefgh")) (zc (dC (.str "abcdefghi")) (zc (dC (.str "Ab")) (zc (dC (.str "a b")) (zc (dC (.str "a1")) (zc (dC (.str "z")) (zc (dC (.str "a_")) (zc (dC (.str " a")) (zc (dC (.str "zz ")) (zc (dC (.str "a-b")) zu))))))))))))) (zB 1))
 (zac (dOp oIx (zj 1) (dCall zH (zc (zj 0) (zc (dC (.int 80)) (zc (dB zan (zc (zj 1) zu)) zu)))))))
theorem zhW:∀ ds So Q,zcf ds So Q->ds.length=1:=by rintro ds So Q ⟨_,rfl,_⟩;rfl
theorem ziX:BodyOk 2 zdF zcf:=by
 rintro ds S Q ⟨c,rfl,q⟩
 unfold zdF
 walk_at "g"
 refine⟨c,80,_,rfl,by decide,by decide,by decide,fun m m0 m1 _=>?_⟩
 obtain⟨zs,hzs,hz⟩:∃ zs:List Str,[D.str "",.str "a",.str "abcdefgh",.str "abcdefghi",.str "Ab",.str "a b",.str "a1",.str "z",.str "a_",.str " a",.str "zz ",.str "a-b"]=zs.map D.str/\zs.length=12/\∀ z∈zs,z.length<=1000/\fl 20 (.str z)=true:=⟨["","a","abcdefgh","abcdefghi","Ab","a b","a1","z","a_"," a","zz ","a-b"],rfl,rfl,by decide +kernel⟩
 have m1':m<12:=m1
 rw [hzs]
 have ha:atD (zs.map D.str) m=some (.str (zs[m.toNat]'(by omega))):=by
  have:=zbW (ds:=zs.map D.str) (i:=m.toNat) (by rw [List.getElem?_map,List.getElem?_eq_getElem (by omega)];rfl)
  rwa [show ((m.toNat:Nat):Int)=m by omega] at this
 refine zjB Lst.at0 ha ?_
 exact zbf (hz.2 _ (List.getElem_mem _)).2 (q _ (hz.2 _ (List.getElem_mem _)).1)
def zbr:DSp:=fun ds S Q=>∃ z:Str,ds=[.str z]/\z.length<=1000/\Q (.bl (nmB z)) S
def zcn:DS :=
    (zJ (sIf (dOr (dT (dOp oEq (dB zan (zc (zj 0) zu)) (dC (.int 0)))) (dT (dOp oGt (dB zan (zc (zj 0) zu)) (dC (.int 8))))) (zac (dC (.bl false))) z7)
 (zac (dOp oEq (dB zan (zc (dLC 1 [] (zc0 (zj 0)) (zB 0) (dT (dOp ziw (zj 0) (dC (.str "abcdefghijklmnopqrstuvwxyz")))) (zj 0)) zu)) (dC (.int 0)))))
theorem zgs:∀ ds So Q,zbr ds So Q->ds.length=1:=by rintro ds So Q ⟨_,rfl,_⟩;rfl
theorem zha:BodyOk 1 zcn zbr:=by
 rintro ds S Q ⟨z,rfl,hz,q⟩
 unfold zcn
 have hb:z.length<=big:=by unfold big;omega
 walk_at "g"
 refine zge hb ?_
 walk_at "g"
 unfold nmB at q
 refine r_d (fun h=>?_) (fun h=>?_)
 ·walk_at "g"
  rw [decide_eq_false (show ¬ 1<=z.length by omega)] at q
  exact fin_same q
 rw [decide_eq_true (show 1<=z.length by omega)] at q
 walk_at "g"
 refine zge hb ?_
 walk_at "g"
 refine r_d (fun h=>?_) (fun h=>?_)
 ·walk_at "g"
  rw [decide_eq_false (show ¬ z.length<=8 by omega)] at q
  exact fin_same q
 rw [decide_eq_true (show z.length<=8 by omega)] at q
 walk_at "g"
 refine zmw (fun i ys S'=>S'=S/\(ys=[]↔∀ c∈z.cps.toList.take i,c∈abc)) ⟨rfl,by simp⟩ (fun _ _ _ _=>True.intro) (by rw [zfp];exact hb) ?_ ?_
 ·rintro i d ys S' hd ⟨rfl,hy⟩
  obtain⟨c,hc,rfl⟩:=zhl hd
  walk_at "g"
  rw [zko]
  rw [zeT hc]
  refine zjK (fun hn=>?_) (fun hn=>?_)
  ·walk_at "g"
   refine⟨rfl,⟨fun w=>absurd w (by simp),fun w=>absurd (w c (by simp)) hn⟩⟩
  ·refine⟨rfl,hy.trans ⟨fun g x hx=>?_,fun g x hx=>g x (List.mem_append_left _ hx)⟩⟩
   rcases List.mem_append.mp hx with hx | hx
   ·exact g x hx
   ·have:x=c:=by simpa using hx
    subst this;exact hn
 rintro ys S' ⟨rfl,hy⟩
 rw [zfp,show z.length=z.cps.toList.length from Array.length_toList.symm,List.take_length] at hy
 walk_at "g"
 refine zbf rfl ?_
 have e:decide (((ys.length:Nat):Int)=0)=(z.cps.toList.all fun c=>decide (c∈abc)):=by
  rw [Bool.eq_iff_iff,decide_eq_true_eq,List.all_eq_true]
  simp only [decide_eq_true_eq]
  rw [<- hy]
  constructor
  ·intro h;exact List.length_eq_zero_iff.mp (by omega)
  ·intro h;rw [h];rfl
 rw [e]
 exact q
theorem zmL (i:Int)(h0:0<=i)(h1:i<12):atS "abcdefghijkl" i=some (97+i.toNat):=by
 have:∀ j:_root_.Fin 12,atS "abcdefghijkl" ((j.val:Nat):Int)=some (97+j.val):=by decide +kernel
 have:=this ⟨i.toNat,by omega⟩
 rwa [show ((i.toNat:Nat):Int)=i by omega] at this
def bsF (c:Int×Int):List (Str×(Int×Int)):=(List.range 12).map fun k:Nat=>(⟨#[97+(0+(k:Int)).toNat]⟩,(c.1,c.2+(0+(k:Int))))
def gsF:List (List Int):=(List.range 12).map fun k:Nat=>[0,0,0,0,0+(k:Int),0+(k:Int),0,0]
theorem zhY (c:Int×Int):(bsF c).map (·.1)=(List.range 12).map fun k:Nat=>(⟨#[97+(0+(k:Int)).toNat]⟩:Str):=by
 unfold bsF;rw [List.map_map];rfl
theorem znf {cs:List (Int×Int)}(gr:Grd cs){c0:Int×Int}(h0:cs[0]?=some c0){a:Int}{e:Option Str}(h:VCl cs (bsF c0) gsF (some 0) a a 0 e):e=none:=by
 have lb:(bsF c0).length=12:=by unfold bsF;rw [List.length_map,List.length_range]
 have n1:¬ zhd (bsF c0) gsF:=by
  unfold zhd;rw [lb,show gsF.length=12 from rfl];decide
 have n2:zd8 (bsF c0):=by
  unfold zd8;rw [zhY];decide +kernel
 have n3:((bsF c0).map (·.1)).Nodup:=by
  rw [zhY];decide +kernel
 have n4:zeB cs (bsF c0):=fun b hb=>by
  obtain⟨k,_,rfl⟩:=List.mem_map.mp hb
  exact (ziy gr h0).mpr (by omega)
 have n5:zfh gsF:=fun l hl=>by
  obtain⟨k,_,rfl⟩:=List.mem_map.mp hl
  unfold zcc
  simp
 have n6:¬ zf3 (some 0) a a 0:=by
  rintro (w | w | ⟨z,ez,w⟩)
  ·omega
  ·omega
  ·cases ez;omega
 rcases h with ⟨w,_⟩ | ⟨_,⟨w,_⟩ | ⟨_,⟨w,_⟩ | ⟨_,⟨w,_⟩ | ⟨_,⟨w,_⟩ | ⟨_,⟨w,_⟩ | ⟨_,w⟩⟩⟩⟩⟩⟩
 ·exact absurd w n1
 ·exact absurd n2 w
 ·exact absurd n3 w
 ·exact absurd n4 w
 ·exact absurd n5 w
 ·exact absurd w n6
 ·exact w
def zcj:DSp:=fun ds S Q=>∃ (x y z h b d:D) (a:Int) (cs:List (Int×Int)),ds=[.tup [x,y,z,h,.int a,b,d]]/\Lst S x (cs.map p2)/\Grd cs/\(∀ q∈cs,Bd 169 q.1/\Bd 169 q.2)/\∀ T:Sto,Q (.bl true) (S++T)
def zdB:DS :=
    (zJ (zN (dTup (zc (dOp oIx (dOp oIx (dOp oIx (zj 0) (dC (.int 0))) (dC (.int 0))) (dC (.int 0))) (zc (dOp oIx (dOp oIx (dOp oIx (zj 0) (dC (.int 0))) (dC (.int 0))) (dC (.int 1))) zu))) (zB 1))
 (zJ (zN (dLC 1 [1] (zbM (zc (dC (.int 12)) zu)) (zB 0) zbj (dTup (zc (dOp oIx (dC (.str "abcdefghijkl")) (zj 0)) (zc (dOp oIx (zj 1) (dC (.int 0))) (zc (dOp zX (dOp oIx (zj 1) (dC (.int 1))) (zj 0)) zu))))) (zB 2))
 (zJ (zN (dLC 1 [] (zbM (zc (dC (.int 12)) zu)) (zB 0) zbj (dTup (zc (dC (.int 0)) (zc (dC (.int 0)) (zc (dC (.int 0)) (zc (dC (.int 0)) (zc (zj 0) (zc (zj 0) (zc (dC (.int 0)) (zc (dC (.int 0)) zu)))))))))) (zB 3))
 (zac (dOp oEq (dCall zbJ (zc (dTup (zc (dOp oIx (zj 0) (dC (.int 0))) (zc (zj 2) (zc (zj 3) (zc (dC (.int 0)) (zc (dOp oIx (zj 0) (dC (.int 4))) (zc (dOp oIx (zj 0) (dC (.int 4))) (zc (dC (.int 0)) zu)))))))) zu)) (zat zu))))))
theorem zia:∀ ds So Q,zcj ds So Q->ds.length=1:=by rintro ds So Q ⟨_,_,_,_,_,_,_,_,rfl,_⟩;rfl
theorem ziY:BodyOk 4 zdB zcj:=by
 rintro ds S Q ⟨x,y,z,h,b,d,a,cs,rfl,hx,gr,cbd,q⟩
 unfold zdB
 have two:=gr.two
 obtain⟨c0,hc0⟩:∃ c0,cs[0]?=some c0:=⟨cs[0],List.getElem?_eq_getElem (by omega)⟩
 have bc0:=cbd c0 (List.mem_of_getElem? hc0)
 have ac0:atD (cs.map p2) 0=some (p2 c0):=zbW (ds:=cs.map p2) (i:=0) (by rw [List.getElem?_map,hc0];rfl)
 walk_at "g"
 refine⟨12,rfl,by decide,by decide,?_⟩
 refine za1 (fun _=>true) (onI fun k=>bcD (⟨#[97+k.toNat]⟩,(c0.1,c0.2+k))) True.intro (by rw [zay];decide) (fun i d ys hd hw=>?_) ?_
 ·obtain⟨hi,rfl⟩:=zbs hd
  have hi':i<12:=hi
  walk_at "g"
  refine zgA (c:=97+(0+(i:Int)).toNat) (by decide +kernel) (zmL _ (by omega) (by omega)) ?_
  walk_at "g"
  exact zb9 hd hw rfl rfl
 rw [filter_true]
 rw [show (upto 0 (12:Int).toNat).map (onI fun k=>bcD (⟨#[97+k.toNat]⟩,(c0.1,c0.2+k)))=(bsF c0).map bcD by unfold upto bsF;rw [List.map_map,List.map_map];rfl]
 refine zgK ?_
 have kx1:Lst (S++[.lst ((bsF c0).map bcD)]) x (cs.map p2):=hx.old
 walk_at "g"
 refine⟨12,rfl,by decide,by decide,?_⟩
 refine za1 (fun _=>true) (onI fun k=>fgL [0,0,0,0,k,k,0,0]) True.intro (by rw [zay];decide) (fun i d ys hd hw=>?_) ?_
 ·obtain⟨hi,rfl⟩:=zbs hd
  walk_at "g"
  exact zb9 hd hw rfl rfl
 rw [filter_true]
 rw [show (upto 0 (12:Int).toNat).map (onI fun k=>fgL [0,0,0,0,k,k,0,0])=gsF.map fgL by unfold upto gsF;rw [List.map_map,List.map_map];rfl]
 walk_at "g"
 refine⟨x,_,_,cs,bsF c0,gsF,some 0,a,a,0,rfl,hx.old,Lst.at0,Lst.at (k:=1) rfl,gr,⟨by unfold bsF;rw [List.length_map,List.length_range];decide,by decide,by decide,fun b hb=>?_,fun u hu=>?_⟩,fun e he T k hk=>?_⟩
 ·obtain⟨j,hj,rfl⟩:=List.mem_map.mp hb
  have hj':=List.mem_range.mp hj
  exact⟨bc0.1.mono (by decide),(Bd.add (n:=199) (bc0.2.mono (by decide)) (by show _<2 ^ 199;omega)).mono (by decide)⟩
 ·rw [zhY] at hu
  obtain⟨j,_,rfl⟩:=List.mem_map.mp hu
  show 1<=1000;decide
 have en:=znf gr hc0 he
 subst en
 walk_at "g"
 refine zlv (xs:=[]) (.inr ⟨_,rfl,by rw [<- List.append_assoc];exact zbK hk⟩) ?_ rfl ?_
 ·exact Lst.new
 walk_at "g"
 rw [List.append_assoc]
 exact fin_same (q _)
theorem zk9 {α:Type}(i:Nat)(w:α)(xs:List α):(zaI i w xs).Perm (w::xs):=by
 unfold zaI
 refine List.perm_middle.trans ?_
 rw [List.take_append_drop]
theorem zdK {bs:List (Str×(Int×Int))}{i:Nat}{w:Str×(Int×Int)}:zd8 (zaI i w bs)↔nmB w.1=true/\zd8 bs:=by
 unfold zd8
 rw [zgc]
 constructor
 ·exact fun h=>⟨h _ (zaQ.mpr (.inl rfl)),fun z hz=>h z (zaQ.mpr (.inr hz))⟩
 ·rintro⟨h1,h2⟩ z hz
  rcases zaQ.mp hz with rfl | hz
  ·exact h1
  ·exact h2 z hz
theorem zgD {bs:List (Str×(Int×Int))}{i:Nat}{w:Str×(Int×Int)}:((zaI i w bs).map (·.1)).Nodup↔w.1∉bs.map (·.1)/\(bs.map (·.1)).Nodup:=by
 rw [zgc,(zk9 _ _ _).nodup_iff,List.nodup_cons]
theorem zdR {cs:List (Int×Int)}{bs:List (Str×(Int×Int))}{i:Nat}{w:Str×(Int×Int)}:zeB cs (zaI i w bs)↔zby cs w.2/\zeB cs bs:=by
 unfold zeB
 constructor
 ·exact fun h=>⟨h _ (zaQ.mpr (.inl rfl)),fun z hz=>h z (zaQ.mpr (.inr hz))⟩
 ·rintro⟨h1,h2⟩ z hz
  rcases zaQ.mp hz with rfl | hz
  ·exact h1
  ·exact h2 z hz
theorem zlV {gs:List (List Int)}{i:Nat}{w:List Int}:zfh (zaI i w gs)↔zcc w=true/\zfh gs:=by
 unfold zfh
 constructor
 ·exact fun h=>⟨h _ (zaQ.mpr (.inl rfl)),fun z hz=>h z (zaQ.mpr (.inr hz))⟩
 ·rintro⟨h1,h2⟩ z hz
  rcases zaQ.mp hz with rfl | hz
  ·exact h1
  ·exact h2 z hz
theorem zlW:zd8 []:=fun _ h=>nomatch h
theorem zly {cs:List (Int×Int)}:zeB cs []:=fun _ h=>nomatch h
def BbJ (cs:List (Int×Int))(ks:List Int)(bs:List (Str×(Int×Int))):Prop:=13<=bs.length\/((3∉ks->zd8 bs)/\(3∉ks->4∉ks->(bs.map (·.1)).Nodup/\(5∉ks->("xyxz":Str)∉bs.map (·.1)))/\(5∉ks->zeB cs bs)/\(bs=[]\/((3∈ks->¬ zd8 bs)/\(4∈ks->¬ (bs.map (·.1)).Nodup)/\(5∈ks->¬ zeB cs bs))))
theorem BbJ.nil {cs:List (Int×Int)}{ks:List Int}:BbJ cs ks []:=.inr ⟨fun _=>zlW,fun _ _=>⟨List.nodup_nil,fun _ h=>nomatch h⟩,fun _=>zly,.inl rfl⟩
structure Jv (cs:List (Int×Int))(a:Int)(ks:List Int)(s:Vs):Prop where
 bb:BbJ cs ks s.bs
 ff:13<=s.gs.length\/((6∉ks->zfh s.gs)/\(6∈ks->¬ zfh s.gs))
 h1:7∉ks->8∉ks->¬ zf3 s.hz a s.b s.d
 h2:7∈ks\/8∈ks->zf3 s.hz a s.b s.d
theorem Spl.bb {cs:List (Int×Int)}{one:Int×Int}{k a:Int}{ks ks':List Int}{s t:Vs}(h:Spl cs one k a s t)(st:zby cs one)(hk:∀ x,x∈ks'↔x=k\/x∈ks)(nk:k∉ks)(em:s.bs=[]->3∉ks/\4∉ks/\5∉ks)(b:BbJ cs ks s.bs):BbJ cs ks' t.bs:=by
 by_cases k1:k=1
 ·rcases h.k1 k1 with e | e
  ·rw [List.length_eq_zero_iff.mp e];exact .nil
  ·exact .inl (by omega)
 by_cases k3:k=3
 ·obtain⟨i,z,hz,e⟩:=h.k3 k3
  rw [e]
  rcases b with b | ⟨b1,b2,b3,b4⟩
  ·exact .inl (by rw [za2];omega)
  ·refine .inr ⟨fun n=>absurd ((hk 3).mpr (.inl k3.symm)) n,fun n=>absurd ((hk 3).mpr (.inl k3.symm)) n,fun n=>zdR.mpr ⟨st,b3 fun w=>n ((hk 5).mpr (.inr w))⟩,.inr ⟨fun _ w=>?_,fun w1 w=>?_,fun w1 w=>?_⟩⟩
   ·rw [(zdK.mp w).1] at hz;cases hz
   ·have m:=((hk 4).mp w1).resolve_left (by omega)
    rcases b4 with b4 | b4
    ·exact (em b4).2.1 m
    ·exact b4.2.1 m (zgD.mp w).2
   ·have m:=((hk 5).mp w1).resolve_left (by omega)
    rcases b4 with b4 | b4
    ·exact (em b4).2.2 m
    ·exact b4.2.2 m (zdR.mp w).2
 by_cases k4:k=4
 ·rcases h.k4 k4 with ⟨_,e⟩ | ⟨i,b0,hb0,e⟩
  ·rw [e];exact .nil
  rw [e]
  have m0:b0.1∈s.bs.map (·.1):=List.mem_map_of_mem (List.mem_of_getElem? hb0)
  have ne:s.bs≠[]:=fun w=>by rw [w] at hb0;cases hb0
  rcases b with b | ⟨b1,b2,b3,b4⟩
  ·exact .inl (by rw [za2];omega)
  ·have b4:=b4.resolve_left ne
   refine .inr ⟨fun n=>?_,fun _ n=>absurd ((hk 4).mpr (.inl k4.symm)) n,fun n=>zdR.mpr ⟨st,b3 fun w=>n ((hk 5).mpr (.inr w))⟩,.inr ⟨fun w1 w=>?_,fun _ w=>(zgD.mp w).1 m0,fun w1 w=>?_⟩⟩
   ·have:=b1 fun w=>n ((hk 3).mpr (.inr w))
    exact zdK.mpr ⟨this _ m0,this⟩
   ·exact b4.1 (((hk 3).mp w1).resolve_left (by omega)) (zdK.mp w).2
   ·exact b4.2.2 (((hk 5).mp w1).resolve_left (by omega)) (zdR.mp w).2
 by_cases k5:k=5
 ·obtain⟨i,p,hp,e⟩:=h.k5 k5
  rw [e]
  have n5:5∉ks:=k5▸nk
  rcases b with b | ⟨b1,b2,b3,b4⟩
  ·exact .inl (by rw [za2];omega)
  ·refine .inr ⟨fun n=>zdK.mpr ⟨show nmB "xyxz"=true by decide +kernel,b1 fun w=>n ((hk 3).mpr (.inr w))⟩,fun n n'=>⟨?_,fun n=>absurd ((hk 5).mpr (.inl k5.symm)) n⟩,fun n=>absurd ((hk 5).mpr (.inl k5.symm)) n,.inr ⟨fun w1 w=>?_,fun w1 w=>?_,fun _ w=>hp (zdR.mp w).1⟩⟩
   ·have:=b2 (fun w=>n ((hk 3).mpr (.inr w))) (fun w=>n' ((hk 4).mpr (.inr w)))
    exact zgD.mpr ⟨this.2 n5,this.1⟩
   ·have m:=((hk 3).mp w1).resolve_left (by omega)
    rcases b4 with b4 | b4
    ·exact (em b4).1 m
    ·exact b4.1 m (zdK.mp w).2
   ·have m:=((hk 4).mp w1).resolve_left (by omega)
    rcases b4 with b4 | b4
    ·exact (em b4).2.1 m
    ·exact b4.2.1 m (zgD.mp w).2
 ·rw [h.n1 (by omega)]
  have m3:(3:Int)∈ks'↔(3:Int)∈ks:=(hk 3).trans ⟨fun w=>w.resolve_left (by omega),.inr⟩
  have m4:(4:Int)∈ks'↔(4:Int)∈ks:=(hk 4).trans ⟨fun w=>w.resolve_left (by omega),.inr⟩
  have m5:(5:Int)∈ks'↔(5:Int)∈ks:=(hk 5).trans ⟨fun w=>w.resolve_left (by omega),.inr⟩
  unfold BbJ
  rw [m3,m4,m5];exact b
theorem Jv.step {cs:List (Int×Int)}{one:Int×Int}{k a:Int}{ks ks':List Int}{s t:Vs}(j:Jv cs a ks s)(h:Spl cs one k a s t)(st:zby cs one)(hk:∀ x,x∈ks'↔x=k\/x∈ks)(nk:k∉ks)(em:s.bs=[]->3∉ks/\4∉ks/\5∉ks):Jv cs a ks' t:=by
 refine⟨h.bb st hk nk em j.bb,?_,fun n7 n8=>?_,fun w=>?_⟩
 ·by_cases k2:k=2
  ·exact .inl (by rw [h.k2 k2];exact Nat.le_refl _)
  by_cases k6:k=6
  ·obtain⟨i,l,hl,e⟩:=h.k6 k6
   rw [e]
   rcases j.ff with f | ⟨f1,f2⟩
   ·exact .inl (by rw [za2];omega)
   ·exact .inr ⟨fun n=>absurd ((hk 6).mpr (.inl k6.symm)) n,fun _ w=>by rw [(zlV.mp w).1] at hl;cases hl⟩
  ·have m6:(6:Int)∈ks'↔(6:Int)∈ks:=(hk 6).trans ⟨fun w=>w.resolve_left (by omega),.inr⟩
   rw [h.n2 (by omega),m6];exact j.ff
 ·have k7:k≠7:=fun e=>n7 ((hk 7).mpr (.inl e.symm))
  have k8:k≠8:=fun e=>n8 ((hk 8).mpr (.inl e.symm))
  rw [h.n7 k7,(h.n8 k8).1,(h.n8 k8).2]
  exact j.h1 (fun w=>n7 ((hk 7).mpr (.inr w))) (fun w=>n8 ((hk 8).mpr (.inr w)))
 ·by_cases k7:k=7
  ·exact .inl (h.k7 k7)
  by_cases k8:k=8
  ·exact .inr (h.k8 k8)
  rw [h.n7 k7,(h.n8 k8).1,(h.n8 k8).2]
  exact j.h2 (w.imp (fun w=>((hk 7).mp w).resolve_left (by omega)) (fun w=>((hk 8).mp w).resolve_left (by omega)))
theorem Spl.em {cs:List (Int×Int)}{one:Int×Int}{k a:Int}{s t:Vs}(h:Spl cs one k a s t)(ne:s.bs≠[])(e:t.bs=[]):k≠3/\k≠4/\k≠5:=by
 have ins:∀ (i:Nat) (w:Str×(Int×Int)),t.bs≠zaI i w s.bs:=fun i w g=>by
  have:=congrArg List.length g
  rw [e,za2] at this;cases this
 refine⟨fun g=>?_,fun g=>?_,fun g=>?_⟩
 ·obtain⟨i,z,_,e⟩:=h.k3 g;exact ins _ _ e
 ·rcases h.k4 g with ⟨w,_⟩ | ⟨i,b0,_,e⟩
  ·exact ne w
  ·exact ins _ _ e
 ·obtain⟨i,p,_,e⟩:=h.k5 g;exact ins _ _ e
def zlQ (u:Int)(e:Option Str):Prop:=(u=0/\e=some "TooMany")\/(u=1/\e=some "BadName")\/(u=2/\e=some "Twice")\/(u=3/\e=some "OffGround")\/(u=4/\e=some "BadFog")\/(u=5/\e=some "BadHour")\/(u=9/\e=none)
theorem Jv.due {cs:List (Int×Int)}{a:Int}{ks:List Int}{s:Vs}{e:Option Str}{u:Int}(j:Jv cs a ks s)(h:VCl cs s.bs s.gs s.hz a s.b s.d e)(d:zlO ks s.bs.length s.gs.length u):zlQ u e:=by
 rcases d with ⟨d,rfl⟩ | ⟨d,d'⟩
 ·rcases h with ⟨_,w⟩ | ⟨w,_⟩
  ·exact .inl ⟨rfl,w⟩
  ·exact absurd d w
 have h:=(h.resolve_left fun w=>d w.1).2
 obtain⟨b1,b2,b3,b4⟩:=j.bb.resolve_left (by omega)
 have b4:=b4.resolve_left fun w=>by rw [w] at d;exact d (.inl (by decide))
 obtain⟨f1,f2⟩:=j.ff.resolve_left (by omega)
 rcases d' with ⟨m,rfl⟩ | ⟨m3,d'⟩
 ·have n:=b4.1 m
  rcases h with ⟨_,w⟩ | ⟨w,_⟩
  ·exact .inr (.inl ⟨rfl,w⟩)
  ·exact absurd w n
 have h:=(h.resolve_left fun w=>w.1 (b1 m3)).2
 rcases d' with ⟨m,rfl⟩ | ⟨m4,d'⟩
 ·have n:=b4.2.1 m
  rcases h with ⟨_,w⟩ | ⟨w,_⟩
  ·exact .inr (.inr (.inl ⟨rfl,w⟩))
  ·exact absurd w n
 have h:=(h.resolve_left fun w=>w.1 (b2 m3 m4).1).2
 rcases d' with ⟨m,rfl⟩ | ⟨m5,d'⟩
 ·have n:=b4.2.2 m
  rcases h with ⟨_,w⟩ | ⟨w,_⟩
  ·exact .inr (.inr (.inr (.inl ⟨rfl,w⟩)))
  ·exact absurd w n
 have h:=(h.resolve_left fun w=>w.1 (b3 m5)).2
 rcases d' with ⟨m,rfl⟩ | ⟨m6,d'⟩
 ·have n:=f2 m
  rcases h with ⟨_,w⟩ | ⟨w,_⟩
  ·exact .inr (.inr (.inr (.inr (.inl ⟨rfl,w⟩))))
  ·exact absurd w n
 have h:=(h.resolve_left fun w=>w.1 (f1 m6)).2
 rcases d' with ⟨m,rfl⟩ | ⟨m,rfl⟩
 ·rcases h with ⟨_,w⟩ | ⟨w,_⟩
  ·exact .inr (.inr (.inr (.inr (.inr (.inl ⟨rfl,w⟩)))))
  ·exact absurd (j.h2 m) w
 ·rcases h with ⟨w,_⟩ | ⟨_,w⟩
  ·exact absurd w (j.h1 (fun g=>m (.inl g)) (fun g=>m (.inr g)))
  ·exact .inr (.inr (.inr (.inr (.inr (.inr ⟨rfl,w⟩)))))
theorem zlQ.ne {u:Int}{e:Option Str}(h:zlQ u e):(u=9/\zfB e=[])\/(u<9/\zfB e=[decide (0=u),decide (1=u),decide (2=u),decide (3=u),decide (4=u),decide (5=u),true,false]):=by
 rcases h with ⟨rfl,rfl⟩ | ⟨rfl,rfl⟩ | ⟨rfl,rfl⟩ | ⟨rfl,rfl⟩ | ⟨rfl,rfl⟩ | ⟨rfl,rfl⟩ | ⟨rfl,rfl⟩
 ·exact .inr ⟨by decide,by decide +kernel⟩
 ·exact .inr ⟨by decide,by decide +kernel⟩
 ·exact .inr ⟨by decide,by decide +kernel⟩
 ·exact .inr ⟨by decide,by decide +kernel⟩
 ·exact .inr ⟨by decide,by decide +kernel⟩
 ·exact .inr ⟨by decide,by decide +kernel⟩
 ·exact .inl ⟨rfl,rfl⟩
theorem zpn (fs:List Fg):fs.map fgD=(fs.map fun F:Fg=>[F.x0,F.x1,F.z0,F.z1,F.f,F.l,F.g,F.s]).map fgL:=by
 rw [List.map_map];rfl
theorem zep.spl {cs:List (Int×Int)}{one:Int×Int}{k a:Int}{s t:Vs}(h:zep cs one k a 8 s t)(k0:0<=k)(k8:k<=8):Spl cs one k a s t:=by
 by_cases e:k=0
 ·rw [h.2 (by omega)]
  exact⟨fun _=>rfl,fun _=>rfl,fun _=>rfl,fun _=>⟨rfl,rfl⟩,fun e=>by omega,fun e=>by omega,fun e=>by omega,fun e=>by omega,fun e=>by omega,fun e=>by omega,fun e=>by omega,fun e=>by omega⟩
 ·exact h.1 (by omega)
theorem Spl.lb {cs:List (Int×Int)}{one:Int×Int}{k a:Int}{s t:Vs}(h:Spl cs one k a s t){n:Nat}(hl:s.bs.length<=13+n):t.bs.length<=13+n+1:=by
  by_cases k1:k=1
  · rcases h.k1 k1 with e | e<;>omega
  by_cases k3:k=3
  · obtain⟨i,z,_,e⟩:=h.k3 k3
    rw [e,za2];omega
  by_cases k4:k=4
  · rcases h.k4 k4 with ⟨_,e⟩ | ⟨i,b0,_,e⟩
    · rw [e];exact Nat.zero_le _
    · rw [e,za2];omega
  by_cases k5:k=5
  · obtain⟨i,z,_,e⟩:=h.k5 k5
    rw [e,za2];omega
  · rw [h.n1 (by omega)];omega
theorem Spl.lg {cs:List (Int×Int)}{one:Int×Int}{k a:Int}{s t:Vs}(h:Spl cs one k a s t){n:Nat}(hl:s.gs.length<=13+n):t.gs.length<=13+n+1:=by
 by_cases k2:k=2
 ·have:=h.k2 k2;omega
 by_cases k6:k=6
 ·obtain⟨i,z,_,e⟩:=h.k6 k6
  rw [e,za2];omega
 ·rw [h.n2 (by omega)];omega
def zhN:DS :=
    (zJ (zN (dCall zch (zc (zj 0) (zc (dC (.int 5)) (zc (dC (.int 6)) (zc (dC (.int 20)) zu))))) (zB 1))
 (zJ (zN (dCall zbt (zc (zj 0) (zc (dC (.int 0)) zu))) (zB 2))
 (zJ (zN (zat (zc (dCall zH (zc (zj 2) (zc (dC (.int 90)) (zc (dC (.int 9)) zu)))) (zc (dCall zH (zc (zj 2) (zc (dC (.int 91)) (zc (dC (.int 9)) zu)))) zu))) (zB 3))
 (zJ (sJ (sIf (dT (dOp oEq (dOp oIx (zj 3) (dC (.int 0))) (dOp oIx (zj 3) (dC (.int 1))))) (zN (dSl zc5 (zj 3) none (some (dC (.int 1)))) (zB 3)) z7))
 (zJ (zeb (zc0 (zj 3)) (zB 4) (zN (dCall zbG (zc (zj 4) (zc (dCall zbt (zc (zj 0) (zc (dOp zX (dC (.int 1)) (zj 4)) zu))) (zc (zj 1) zu)))) (zB 1)))
 (zJ (zN (dCall zcM (zc (zj 3) (zc (zj 1) zu))) (zB 5))
 (zJ (zN (dCall zbJ (zc (zj 1) zu)) (zB 6))
 (zJ (sIf (dOr (zeE (dT (dOp oEq (zj 5) (dC (.int 9)))) (dT (dOp oNe (zj 6) (zat zu)))) (zeE (dT (dOp oLt (zj 5) (dC (.int 9)))) (dT (dOp oNe (zj 6) (dOp zX (dLC 1 [5] (zbM (zc (dC (.int 6)) zu)) (zB 0) zbj (dOp oEq (zj 0) (zj 1))) (zat (zc (dC (.bl true)) (zc (dC (.bl false)) zu)))))))) (zac (dC (.bl false))) z7)
 (zJ (zeb (zc0 (dSl zc5 (zj 0) none (some (dC (.int 20))))) (zB 7) (zJ (zN (dCall zcf (zc (zj 7) zu)) (zB 8))
 (sIf (dT (dOp oNe (dCall zb8 (zc (zj 8) zu)) (dCall zbr (zc (zj 8) zu)))) (zac (dC (.bl false))) z7)))
 (zac (dCall zcj (zc (zj 1) zu))))))))))))
theorem zpp:BodyOk 9 zhN zdQ:=by
  rintro ds S Q ⟨ns,rfl,⟨_,hg⟩,hl,q⟩
  unfold zhN
  walk_at "g"
  refine⟨ns,5,6,20,rfl,hl,hg,by decide,by decide,by decide,by decide,by decide,by decide,fun T x y z V w hs=>?_⟩
  generalize S++T=S1 at hs
  have ok:=w.ok
  have b1:=ok.b1
  have b12:=w.mb
  have f12:=w.mf
  have gr:=ok.gr
  have two:=gr.two
  obtain⟨kx,ky,kz⟩:=hs
  rw [zpn] at kz
  walk_at "g"
  refine⟨ns,0,rfl,hg,by decide,fun head hhd=>?_⟩
  walk_at "g"
  refine⟨head,_,_,rfl,by decide,by decide,by decide,fun k1 k10 k11 _=>?_⟩
  walk_at "g"
  refine⟨head,_,_,rfl,by decide,by decide,by decide,fun k2 k20 k21 _=>?_⟩
  walk_at "g"
  refine r_J (fun ρ S'=>∃ (G:Sto) (kr:D) (ks:List Int),S'=S1++G/\Lst S' kr (ks.map D.int)/\ks.Nodup/\ks.length<=2/\(∀ k∈ks,0<=k/\k<=8)/\ρ=[some (.rl (ns.map D.int)),some (vlD x y z V),some (.int head),some kr,none,none,none,none,none]) ?_ ?_
  · walk_at "g"
    refine r_d (fun he=>?_) (fun he=>?_)
    · walk_at "g"
      exact⟨_,_,[k1],rfl,Lst.at (k:=1) rfl,by simp,by simp,fun k hk=>by rw [List.mem_singleton.mp hk];omega,rfl⟩
    · walk_at "g"
      exact⟨_,_,[k1,k2],rfl,Lst.at (k:=0) rfl,by simpa using he,by simp,fun k hk=>by rcases List.mem_cons.mp hk with rfl | hk;omega;rw [List.mem_singleton.mp hk];omega,rfl⟩
  rintro ρ S2 ⟨G,kr,ks,e2,hk,nd,l2,kb,rfl⟩
  have kx2:Lst S2 x (V.cs.map p2):=e2▸kx.old
  have v2:zer S2 y z ⟨V.bs,V.fs.map fun F:Fg=>[F.x0,F.x1,F.z0,F.z1,F.f,F.l,F.g,F.s],V.hz,V.h1,V.dl⟩:=by
    refine⟨e2▸ky.old,e2▸kz.old,⟨by show V.bs.length<=100;omega,by show (List.map _ V.fs).length<=100;rw [List.length_map];omega,fun l hl=>?_,ok.bd,fun u hu=>?_⟩⟩
    · obtain⟨F,_,rfl⟩:=List.mem_map.mp hl
      show 8<=100;decide
    · obtain⟨b,hb,rfl⟩:=List.mem_map.mp hu
      exact Nat.le_trans (zgN.mp (ok.nm b hb)).2.1 (by decide)
  clear e2 ky kz
  have bne:V.bs≠[]:=fun e=>by rw [e] at b1;cases b1
  have J0:Jv V.cs V.h0 [] ⟨V.bs,V.fs.map fun F:Fg=>[F.x0,F.x1,F.z0,F.z1,F.f,F.l,F.g,F.s],V.hz,V.h1,V.dl⟩:=by
    refine⟨.inr ⟨fun _ z hz=>w.nm.nm hz,fun _ _=>⟨ok.nd,fun _ hm=>w.nm.ne hm rfl⟩,fun _=>ok.st,.inr ⟨fun n=>(nomatch n),fun n=>(nomatch n),fun n=>(nomatch n)⟩⟩,.inr ⟨fun _ l hl=>?_,fun n=>(nomatch n)⟩,fun _ _=>?_,fun n=>n.elim (fun n=>(nomatch n)) (fun n=>(nomatch n))⟩
    · obtain⟨F,hF,rfl⟩:=List.mem_map.mp hl
      have fv:=ok.fg F hF
      show (decide (F.x0<=F.x1)&&(decide (F.z0<=F.z1)&&decide (F.f<=F.l)))=true
      rw [decide_eq_true fv.b.x,decide_eq_true fv.b.z,decide_eq_true fv.o];rfl
    · rintro (n | n | ⟨u,eu,n⟩)
      · have:=ok.hh;simp only at n;omega
      · have:=ok.dl;simp only at n;omega
      · have:=ok.hz u eu;omega
  obtain⟨c0,hc0⟩:∃ c0,V.cs[0]?=some c0:=⟨V.cs[0],List.getElem?_eq_getElem (by omega)⟩
  have st:zby V.cs (c0.1,c0.2+3):=(ziy gr hc0).mpr (by omega)
  walk_at "g"
  refine zcG (fun i ρ S'=>∃ (T:Sto) (y' z':D) (s:Vs) (w4:Option D),S'=S2++T/\zer S' y' z' s/\ρ=[some (.rl (ns.map D.int)),some (.tup [x,y',z',zcd s.hz,.int V.h0,.int s.b,.int s.d]),some (.int head),some kr,w4,none,none,none,none]/\Jv V.cs V.h0 (ks.take i) s/\(i<=1->s.bs=[]->3∉ks.take i/\4∉ks.take i/\5∉ks.take i)/\(i=0->s.bs≠[])/\s.bs.length<=13+i/\s.gs.length<=13+i/\(8∉ks.take i->0<=s.d)) ?_ ?_ ?_ ?_
  · exact⟨[],y,z,_,_,by simp,by simpa using v2,rfl,J0,fun _ n=>absurd n bne,fun _ n=>absurd n bne,by show V.bs.length<=13+0;omega,by show (List.map _ V.fs).length<=13+0;rw [List.length_map];omega,fun _=>ok.dl⟩
  · rintro i ρ S' ⟨T,y',z',s,w4,rfl,_⟩
    exact hk.old
  · rintro i d ρ S' hd ⟨T,y',z',s,w4,rfl,hv,rfl,jv,em,ne,lb,lg,hd8⟩
    obtain⟨k,hki,rfl⟩:∃ k,ks[i]?=some k/\d=.int k:=by
      rw [List.getElem?_map] at hd
      cases e:ks[i]? with
      | none=>rw [e] at hd;cases hd
      | some p=>rw [e] at hd;cases hd;exact⟨p,rfl,rfl⟩
    have hi:i<ks.length:=(List.getElem?_eq_some_iff.mp hki).1
    obtain⟨kb0,kb8⟩:=kb k (List.mem_of_getElem? hki)
    have nk:k∉ks.take i:=fun m=>by
      obtain⟨j,hj,ej⟩:=List.mem_iff_getElem.mp m
      rw [List.getElem_take] at ej
      have lj:j<i:=by rw [List.length_take] at hj;omega
      have:=List.pairwise_iff_getElem.mp nd j i (by omega) hi lj
      rw [List.getElem?_eq_getElem hi] at hki
      injection hki with hki
      exact this (ej.trans hki.symm)
    have tk:∀ u,u∈ks.take (i+1)↔u=k\/u∈ks.take i:=fun u=>by
      rw [List.take_succ,hki];simp [or_comm]
    walk_at "g"
    refine⟨ns,1+k,rfl,hg,by omega,fun cell hc=>?_⟩
    walk_at "g"
    refine⟨k,cell,x,y',z',V.cs,V.h0,s,c0,c0,(),(),(),rfl,kb0,kb8,kx2.old,gr,w.cb,hc0,hv,by omega,by omega,fun e8=>hd8 (e8▸nk),fun T2 y2 z2 t sp hv2=>?_⟩
    have sp:=sp.spl kb0 kb8
    walk_at "g"
    refine⟨_,y2,z2,t,_,by rw [List.append_assoc],hv2,rfl,jv.step sp st tk nk (em (by omega)),fun i1 eb=>?_,fun i0=>by omega,?_,?_,fun n8=>?_⟩
    · have:=sp.em (ne (by omega)) eb
      have i0:i=0:=by omega
      subst i0
      refine⟨fun m=>?_,fun m=>?_,fun m=>?_⟩<;>(rcases (tk _).mp m with m | m;omega;cases m)
    · exact Nat.le_trans (sp.lb (n:=i) (by omega)) (by omega)
    · exact Nat.le_trans (sp.lg (n:=i) (by omega)) (by omega)
    · have k8:k≠8:=fun e=>n8 ((tk 8).mpr (.inl e.symm))
      rw [(sp.n8 k8).1]
      exact hd8 fun m=>n8 ((tk 8).mpr (.inr m))
  rintro ρ S' ⟨T,y',z',s,w4,e3,hv,rfl,jv,_⟩
  rw [List.length_map,List.take_length] at jv
  have kx3:Lst S' x (V.cs.map p2):=e3▸kx2.old
  have hk3:Lst S' kr (ks.map D.int):=e3▸hk.old
  clear e3 hk kx2
  obtain⟨hy,hz,vb⟩:=hv
  walk_at "g"
  refine⟨kr,x,y',z',_,_,_,_,ks,_,_,rfl,hk3,hy,hz,fun u T2 hu=>?_⟩
  rw [List.length_map,List.length_map] at hu
  walk_at "g"
  refine⟨x,y',z',V.cs,s.bs,s.gs,s.hz,V.h0,s.b,s.d,rfl,kx3.old,hy.old,hz.old,gr,vb,fun e he T3 k hk=>?_⟩
  have kx4:Lst (S'++T2++T3) x (V.cs.map p2):=kx3.old.old
  generalize S'++T2++T3=S4 at hk kx4
  have de:=(jv.due he hu).ne
  walk_at "g"
  rcases de with ⟨u9,te⟩ | ⟨u9,te⟩
  · rw [te] at hk
    refine r_d (fun _=>?_) (fun n=>absurd u9 n)
    walk_at "g"
    refine zin (xs:=[]) (.inr ⟨_,rfl,zbK hk⟩) Lst.at0 rfl ⟨_,rfl,?_⟩
    walk_at "g"
    refine r_d (fun n=>absurd n (by omega)) (fun _=>?_)
    walk_at "g"
    generalize hS5:S4++_=S5
    have kx5:Lst S5 x (V.cs.map p2):=hS5▸kx4.old
    refine zcG (fun _ ρ S'=>S'=S5/\∃ w7 w8:Option D,ρ=[some (.rl (ns.map D.int)),some (.tup [x,y',z',zcd s.hz,.int V.h0,.int s.b,.int s.d]),some (.int head),some kr,w4,some (.int u),some (.ref k),w7,w8]) ⟨rfl,_,_,rfl⟩ (fun i ρ S' h=>by rw [h.1,<- hS5];exact Lst.at (k:=1) rfl) ?_ ?_
    · rintro i d ρ S' hd ⟨rfl,w7,w8,rfl⟩
      rw [zgP,List.getElem?_map] at hd
      obtain⟨c,rfl⟩:∃ c,d=.int c:=by
        cases e:(cutD ns none (some 20))[i]? with
        | none=>rw [e] at hd;cases hd
        | some p=>rw [e] at hd;cases hd;exact⟨p,rfl⟩
      walk_at "g"
      refine⟨c,rfl,fun tx htx=>?_⟩
      walk_at "g"
      refine⟨tx,rfl,htx,?_⟩
      walk_at "g"
      refine⟨tx,rfl,htx,?_⟩
      walk_at "g"
      cases nmB tx<;>(walk_at "g";exact⟨rfl,_,_,rfl⟩)
    · rintro ρ S' ⟨rfl,w7,w8,rfl⟩
      walk_at "g"
      refine⟨x,y',z',_,_,_,V.h0,V.cs,rfl,kx5,gr,w.cb,fun T6=>?_⟩
      walk_at "g"
      exact fin_same (q _)
  · rw [te] at hk
    refine r_d (fun n=>absurd n (by omega)) (fun _=>?_)
    walk_at "g"
    refine r_d (fun _=>?_) (fun n=>absurd u9 n)
    walk_at "g"
    refine⟨6,rfl,by decide,by decide,?_⟩
    refine za1 (fun _=>true) (onI fun k=>.bl (decide (k=u))) True.intro (by rw [zay];decide) (fun i d ys hd hw=>?_) ?_
    · obtain⟨hi,rfl⟩:=zbs hd
      walk_at "g"
      exact zb9 hd hw rfl rfl
    rw [filter_true]
    rw [show (upto 0 (6:Int).toNat).map (onI fun k=>.bl (decide (k=u)))=[.bl (decide (0=u)),.bl (decide (1=u)),.bl (decide (2=u)),.bl (decide (3=u)),.bl (decide (4=u)),.bl (decide (5=u))] from rfl]
    walk_at "g"
    refine zaS (xs:=[.bl (decide (0=u)),.bl (decide (1=u)),.bl (decide (2=u)),.bl (decide (3=u)),.bl (decide (4=u)),.bl (decide (5=u))]) (ys:=[.bl true,.bl false]) Lst.at0 (Lst.at (k:=1) rfl) (by show 6+2<=big;decide) (zey ?_)
    refine zin (.inr ⟨_,rfl,zbK hk⟩) (Lst.at (k:=2) rfl) rfl ⟨_,rfl,?_⟩
    walk_at "g"
    generalize hS5:S4++_=S5
    have kx5:Lst S5 x (V.cs.map p2):=hS5▸kx4.old
    refine zcG (fun _ ρ S'=>S'=S5/\∃ w7 w8:Option D,ρ=[some (.rl (ns.map D.int)),some (.tup [x,y',z',zcd s.hz,.int V.h0,.int s.b,.int s.d]),some (.int head),some kr,w4,some (.int u),some (.ref k),w7,w8]) ⟨rfl,_,_,rfl⟩ (fun i ρ S' h=>by rw [h.1,<- hS5];exact Lst.at (k:=3) rfl) ?_ ?_
    · rintro i d ρ S' hd ⟨rfl,w7,w8,rfl⟩
      rw [zgP,List.getElem?_map] at hd
      obtain⟨c,rfl⟩:∃ c,d=.int c:=by
        cases e:(cutD ns none (some 20))[i]? with
        | none=>rw [e] at hd;cases hd
        | some p=>rw [e] at hd;cases hd;exact⟨p,rfl⟩
      walk_at "g"
      refine⟨c,rfl,fun tx htx=>?_⟩
      walk_at "g"
      refine⟨tx,rfl,htx,?_⟩
      walk_at "g"
      refine⟨tx,rfl,htx,?_⟩
      walk_at "g"
      cases nmB tx<;>(walk_at "g";exact⟨rfl,_,_,rfl⟩)
    · rintro ρ S' ⟨rfl,w7,w8,rfl⟩
      walk_at "g"
      refine⟨x,y',z',_,_,_,V.h0,V.cs,rfl,kx5,gr,w.cb,fun T6=>?_⟩
      walk_at "g"
      exact fin_same (q _)
end Dp
namespace Law
open PySem PySem.Spec PyProof.Rows L2 My Dp
def top (i:Nat):Stmt:=PySem.Challenge.pw_beaconvale_k41_valleys_refused.main.body.getD i (.Pass ⟨0,0,0,0⟩)
abbrev zfW:Stmt:=top 47
abbrev zff:Stmt:=top 48
abbrev zfj:Stmt:=top 50
abbrev zdr:Stmt:=top 51
abbrev zdP:Stmt:=top 49
abbrev zec:Stmt:=top 55
abbrev zdT:Stmt:=top 52
abbrev zdu:Stmt:=top 53
abbrev ze9:Stmt:=top 54
abbrev zeR:Stmt:=top 56
abbrev zdI:Stmt:=top 60
abbrev zfa:Stmt:=top 61
abbrev zbz:Stmt:=top 29
abbrev zba:Stmt:=inClass (top 30) 0
abbrev zbv:Stmt:=top 40
abbrev zfd:Stmt:=top 39
abbrev zb1:Stmt:=top 41
abbrev zid:Stmt:=top 24
abbrev zgS:Stmt:=top 31
abbrev zcu:Stmt:=top 22
abbrev zem:Stmt:=top 23
abbrev zd7:Stmt:=top 25
abbrev zd6:Stmt:=top 32
abbrev zf7:Stmt:=top 33
abbrev zce:Stmt:=top 42
abbrev zet:Stmt:=top 11
abbrev zfU:Stmt:=top 20
abbrev zcb:Stmt:=top 43
abbrev zbQ:Stmt:=top 44
abbrev zbb:Stmt:=inClass (top 45) 0
abbrev zdL:Stmt:=top 57
abbrev zeX:Stmt:=top 62
abbrev zeu:Stmt:=top 58
abbrev zds:Stmt:=top 59
abbrev zen:Stmt:=top 63
abbrev zdE:Stmt:=top 64
section
variable {P:Program}{w:World}{K:W.Frag}{mg:Str->Option Value}{base:Heap}{f:Addr}{fd:FuncData}
variable (xq:mg "len"=none)
theorem zkU:zT ["script","k"] ["script","k"] (zK zfW):=zZ
include xq in
theorem zkK (F:Fun K "_law_at" "_law_at" zfW f fd):zY P w K mg base CX0 1 f fd ["script","k"] (upF K Dp.zbt):=by
  refine z8 (b:=Dp.zeo) F zkU Dp.zj8 Dp.zkp (fun cdv A outer s H E hr=>?_)
  unfold Dp.zeo
  exact (zq (zV (zR zca (zm 1) (zae z9 xq boot_len (za (zm 0) zp))) (zy (zU (zA (zm 0) (zm 1)))) zP)
 (zy (zU zf)))
variable (xbq:Got P w K mg base 1 "_law_at" ["script","k"] (upF K Dp.zbt))
theorem zcJ:zT ["cell","k","size","prime","base","mixed"] ["cell","k","size"] (zK zff):=zZ
theorem zke (F:Fun K "_law_mix" "_law_mix" zff f fd):zY P w K mg base CX0 1 f fd ["cell","k","size"] (upF K Dp.zH):=by
  refine z8 (b:=Dp.zdX) F zcJ Dp.zi3 Dp.zkf (fun cdv A outer s H E hr=>?_)
  unfold Dp.zdX
  exact (zq (zF (i:=3) zcJ.nd zf)
 (zq (zF (i:=4) zcJ.nd (zal (zQ (zQ (zaz (zm 0) (zaO 1000000000000000000000000000000000000000000000000000000000000 (by decide +kernel) ⟨by decide,by decide,by decide⟩)) (zal zf (zm 1))) zf) zf))
 (zq (zF (i:=5) zcJ.nd (zaz (zal (zm 4) (zm 4)) (zm 3)))
 (zq (zF (i:=5) zcJ.nd (zaz (zal (zQ (zm 5) (zal zf (zQ (zm 1) zf))) (zm 5)) (zm 3)))
 (zy (zU (zaz (zdh (zm 5) zf) (zm 2))))))))
variable (xg:Got P w K mg base 1 "_law_mix" ["cell","k","size"] (upF K Dp.zH))
theorem zj9:zT ["cell","k","near","far"] ["cell","k","near","far"] (zK zfj):=zZ
include xg in
theorem zjU (F:Fun K "_law_far" "_law_far" zfj f fd):zY P w K mg base CX0 2 f fd ["cell","k","near","far"] (upF K Dp.zb6):=by
  refine z8 (b:=Dp.zd0) F zj9 Dp.zi6 Dp.zjJ (fun cdv A outer s H E hr=>?_)
  unfold Dp.zd0
  exact (zq (zV (zbn (zm 3)) (zy (zU (zad (zaz (zal (zal (zm 0) (zaO 1422907482840247632891030073750636927810831 (by decide +kernel) ⟨by decide,by decide,by decide⟩)) (zQ (zm 1) zf)) (zaO 100000000000000000000000000000000000000000000000000 (by decide +kernel) ⟨by decide,by decide,by decide⟩)) (zal zf (zaO 10000000000000000000000000000000000000000000000000 (by decide +kernel) ⟨by decide,by decide,by decide⟩))))) zP)
 (zy (zU (zE xg hr (za (zm 0) (za (zm 1) (za (zm 2) zp)))))))
variable (xfj:Got P w K mg base 2 "_law_far" ["cell","k","near","far"] (upF K Dp.zb6))
variable (xr:mg "range"=none)
theorem zao:zT ["cell","count","far","corners","place","k","height","wide"] ["cell","count","far"] (zK zdr):=zZ
include xg xfj xr in
theorem zhh (F:Fun K "_law_corners" "_law_corners" zdr f fd):zY P w K mg base CX0 3 f fd ["cell","count","far"] (upF K Dp.zbp):=by
  refine z8 (b:=Dp.zco) F zao Dp.zgf Dp.zgQ (fun cdv A outer s H E hr=>?_)
  unfold Dp.zco
  exact (zq (zF (i:=3) zao.nd (zab zp))
 (zq (zF (i:=4) zao.nd (zad (zE xfj hr (za (zm 0) (za zf (za zf (za (zm 2) zp))))) zf))
 (zq (zcD (zbI xr (za (zm 1) zp)) (zau (i:=5) zao.nd) (zq (zF (i:=6) zao.nd (zE xg hr (za (zm 0) (za (zQ (zal zf (zm 5)) zf) (za zf zp)))))
 (zq (zbu (zV (za4 (zc1 (zbn (zm 2)) (zcv (zR (zaV hr) (zaz (zm 5) zf) zf)))) (zy (zF (i:=6) zao.nd (zE xfj hr (za (zm 0) (za (zm 5) (za zf (za (zm 2) zp))))))) zP))
 (zq (za3 (zkd PySem.F.slot_list_append PySem.F.type_list_append zdZ (zm 3) (za (zaa (za (zm 4) (za (zm 6) zp))) zp)))
 (zq (zF (i:=7) zao.nd (zQ zf (zE xg hr (za (zm 0) (za (zQ (zal zf (zm 5)) zf) (za zf zp))))))
 (zq (zbu (zV (za4 (zc1 (zbn (zm 2)) (zcv (zR (zaV hr) (zaz (zm 5) zf) zf)))) (zy (zF (i:=7) zao.nd (zQ zf (zaz (zal (zal (zm 0) (zaO 7928331467292760530673834318599741 (by decide +kernel) ⟨by decide,by decide,by decide⟩)) (zQ (zm 5) zf)) (zaO 1000000000000000000000000000000000000000000000000 (by decide +kernel) ⟨by decide,by decide,by decide⟩))))) zP))
 (zy (zF (i:=4) zao.nd (zQ (zm 4) (zm 7))))))))))
 (zy (zU (zm 3))))))
variable (xdf:Got P w K mg base 3 "_law_corners" ["cell","count","far"] (upF K Dp.zbp))
theorem zcr:zT ["script","first","most","numbers","k","kept"] ["script","first","most"] (zK zdP):=zZ
include xq xr in
theorem zhB (F:Fun K "_law_folded" "_law_folded" zdP f fd):zY P w K mg base CX0 1 f fd ["script","first","most"] (upF K Dp.zbE):=by
  refine z8 (b:=Dp.zcP) F zcr Dp.zg9 Dp.zhE (fun cdv A outer s H E hr=>?_)
  unfold Dp.zcP
  exact (zq (zF (i:=3) zcr.nd (zab zp))
 (zq (zcD (zjm xr (za (zm 1) (za (zae z9 xq boot_len (za (zm 0) zp)) zp))) (zau (i:=4) zcr.nd) (zy (zV (zR zca (zae z9 xq boot_len (za (zm 3) zp)) (zm 2)) (zy (za3 (zkd PySem.F.slot_list_append PySem.F.type_list_append zdZ (zm 3) (za (zaz (zA (zm 0) (zm 4)) (zaO 1000000000000000000000000000000000000000000000000000000000000 (by decide +kernel) ⟨by decide,by decide,by decide⟩)) zp)))) (zq (zF (i:=5) zcr.nd (zQ (zal (zA (zm 3) (zaz (zm 4) (zm 2))) zf) (zaz (zA (zm 0) (zm 4)) (zaO 1000000000000000000000000000000000000000000000000000000000000 (by decide +kernel) ⟨by decide,by decide,by decide⟩))))
 (zy (zjz (zaz (zm 5) (zaO 1000000000000000000000000000000000000000000000000000000000000 (by decide +kernel) ⟨by decide,by decide,by decide⟩)) (zni (zm 3) (zaz (zm 4) (zm 2)))))))))
 (zy (zU (zm 3)))))
variable (xd0:Got P w K mg base 1 "_law_folded" ["script","first","most"] (upF K Dp.zbE))
theorem zcK:zT ["cell","count","letters","head","tail"] ["cell","count"] (zK zec):=zZ
include xg xr in
theorem zh6 (F:Fun K "_law_names" "_law_names" zec f fd):zY P w K mg base CX0 2 f fd ["cell","count"] (upF K Dp.zbT):=by
  refine z8 (b:=Dp.zdb) F zcK Dp.zhx Dp.zhV (fun cdv A outer s H E hr=>?_)
  unfold Dp.zdb
  exact (zq (zF (i:=2) zcK.nd z6)
 (zq (zF (i:=3) zcK.nd (zal (zA (zm 2) (zE xg hr (za (zm 0) (za zf (za zf zp))))) (zE xg hr (za (zm 0) (za zf (za zf zp))))))
 (zq (zF (i:=4) zcK.nd (zal (zA (zm 2) (zE xg hr (za (zm 0) (za zf (za zf zp))))) (zE xg hr (za (zm 0) (za zf (za zf zp))))))
 (zy (zU (zc9 (own:=["k"]) (free:=["head","letters","cell","tail"]) (fv:=[3,2,0,4]) ⟨rfl,rfl,rfl,rfl,True.intro⟩ ⟨rfl,rfl,rfl,rfl,rfl,rfl,rfl,rfl,rfl,rfl,rfl,rfl,True.intro⟩ (zbI xr (za (zm 1) zp)) ⟨(zaf 0 (by decide)),fun _ _ _ _ _=>(zaq (i:=0) (show List.Nodup (["k","head","letters","cell","tail"]:List Str) by decide +kernel) rfl (Or.inl rfl) (Or.inr rfl))⟩ (fun _ _ _ _ _=>zaN) (fun _ _ _ _ _=>(zQ (zQ (zm 1) (zA (zm 2) (zaz (zQ (zE xg hr (za (zm 3) (za zf (za zf zp)))) (zal zf (zm 0))) zf))) (zm 4)))))))))
variable (xfh:Got P w K mg base 2 "_law_names" ["cell","count"] (upF K Dp.zbT))
theorem zcp:zT ["corners","place","k","one","other","fall"] ["corners","place"] (zK zdT):=zZ
include xq xr in
theorem zhH (F:Fun K "_law_height" "_law_height" zdT f fd):zY P w K mg base CX0 1 f fd ["corners","place"] (upF K Dp.zbA):=by
  refine z8 (b:=Dp.zcQ) F zcp Dp.zgL Dp.zhJ (fun cdv A outer s H E hr=>?_)
  unfold Dp.zcQ
  exact (zq (zcD (zbI xr (za (zad (zae z9 xq boot_len (za (zm 0) zp)) zf) zp)) (zau (i:=2) zcp.nd) (zq (znG (i:=3) (j:=4) rfl zcp.nd rfl rfl (by decide) rfl rfl (za (zA (zm 0) (zm 2)) (za (zA (zm 0) (zQ (zm 2) zf)) zp)) rfl)
 (zy (zV (za4 (zc1 (zR zfz (zA (zm 3) zf) (zm 1)) (zcv (zR zfz (zm 1) (zA (zm 4) zf))))) (zq (zF (i:=5) zcp.nd (zal (zad (zA (zm 3) zf) (zA (zm 4) zf)) (zad (zm 1) (zA (zm 3) zf))))
 (zy (zU (zad (zA (zm 3) zf) (zdh (zm 5) (zad (zA (zm 4) zf) (zA (zm 3) zf))))))) zP))))
 (zy (zU zhR)))
variable (xdy:Got P w K mg base 1 "_law_height" ["corners","place"] (upF K Dp.zbA))
theorem zaj:zT ["numbers","corners","names","beacons","wide","k","cell","place","tower"] ["numbers","corners","names"] (zK zdu):=zZ
include xq xg xr xdy in
theorem zgY (F:Fun K "_law_beacons" "_law_beacons" zdu f fd):zY P w K mg base CX0 2 f fd ["numbers","corners","names"] (upF K Dp.zbq):=by
  refine z8 (b:=Dp.zcm) F zaj Dp.zgt Dp.zgO (fun cdv A outer s H E hr=>?_)
  unfold Dp.zcm
  exact (zq (zF (i:=3) zaj.nd (zab zp))
 (zq (zF (i:=4) zaj.nd (zQ (zad (zA (zA (zm 1) (zdU zf)) zf) (zA (zA (zm 1) zf) zf)) zf))
 (zq (zcD (zbI xr (za (zae z9 xq boot_len (za (zm 2) zp)) zp)) (zau (i:=5) zaj.nd) (zq (zF (i:=6) zaj.nd (zA (zm 0) (zm 5)))
 (zq (zF (i:=7) zaj.nd (zQ (zA (zA (zm 1) zf) zf) (zE xg hr (za (zm 6) (za zf (za (zm 4) zp))))))
 (zq (zbu (zV (zR zc8 (zm 4) (zaO 100000000000000000000 (by decide +kernel) ⟨by decide,by decide,by decide⟩)) (zy (zF (i:=7) zaj.nd (zQ (zA (zA (zm 1) zf) zf) (zaz (zm 6) (zm 4))))) zP))
 (zq (zbu (zV (zR (zaV hr) (zE xg hr (za (zm 6) (za zf (za zf zp)))) zf) (zy (zF (i:=7) zaj.nd (zA (zA (zm 1) (zE xg hr (za (zm 6) (za zf (za (zae z9 xq boot_len (za (zm 1) zp)) zp))))) zf))) zP))
 (zq (zF (i:=8) zaj.nd (zA (zab (za zf (za (zE xg hr (za (zm 6) (za zf (za zf zp)))) (za (zE xg hr (za (zm 6) (za zf (za zf zp)))) (za (zaz (zm 6) (zaO 10000000000000000000000000000000000000000 (by decide +kernel) ⟨by decide,by decide,by decide⟩)) zp))))) (zE xg hr (za (zm 6) (za zf (za zf zp))))))
 (zq (zbu (zV (zR zca (zm 4) (zaO 100000000000000000000 (by decide +kernel) ⟨by decide,by decide,by decide⟩)) (zy (zF (i:=8) zaj.nd (zaz (zm 8) zf))) zP))
 (zy (za3 (zkd PySem.F.slot_list_append PySem.F.type_list_append zdZ (zm 3) (za (zaa (za (zA (zm 2) (zm 5)) (za (zm 7) (za (zQ (zE xdy hr (za (zm 1) (za (zm 7) zp))) (zm 8)) zp)))) zp)))))))))))
 (zy (zU (zm 3))))))
variable (xdk:Got P w K mg base 2 "_law_beacons" ["numbers","corners","names"] (upF K Dp.zbq))
variable (xgi:mg "abs"=none)
theorem zaG:zT ["cell","corners","beacons","first","last","one","other","left","low","begin","end","wide","drift","rise"] ["cell","corners","beacons","first","last"] (zK ze9):=zZ
include xq xg xgi in
theorem zjM (F:Fun K "_law_fog" "_law_fog" ze9 f fd):zY P w K mg base CX0 2 f fd ["cell","corners","beacons","first","last"] (upF K Dp.zcE):=by
  refine z8 (b:=Dp.zd2) F zaG Dp.ziR Dp.zjP (fun cdv A outer s H E hr=>?_)
  unfold Dp.zd2
  exact (zq (zF (i:=5) zaG.nd (zA (zm 2) (zE xg hr (za (zm 0) (za zf (za (zae z9 xq boot_len (za (zm 2) zp)) zp))))))
 (zq (zF (i:=6) zaG.nd (zA (zm 2) (zE xg hr (za (zm 0) (za zf (za (zae z9 xq boot_len (za (zm 2) zp)) zp))))))
 (zq (zF (i:=7) zaG.nd (zad (zQ (zdh (zQ (zA (zm 5) zf) (zA (zm 6) zf)) zf) (zE xg hr (za (zm 0) (za zf (za zf zp))))) zf))
 (zq (zF (i:=8) zaG.nd (zad (zQ (zdh (zQ (zA (zm 5) zf) (zA (zm 6) zf)) zf) (zE xg hr (za (zm 0) (za zf (za zf zp))))) zf))
 (zq (zF (i:=9) zaG.nd (zad (zQ (zm 3) (zE xg hr (za (zm 0) (za zf (za (zQ (zad (zm 4) (zm 3)) zf) zp))))) zf))
 (zq (zF (i:=10) zaG.nd (zQ (zm 9) (zA (zab (za (zE xg hr (za (zm 0) (za zf (za zf zp)))) (za (zE xg hr (za (zm 0) (za zf (za zf zp)))) (za zf zp)))) (zE xg hr (za (zm 0) (za zf (za zf zp)))))))
 (zq (zF (i:=11) zaG.nd (zA (zab (za (zE xg hr (za (zm 0) (za zf (za zf zp)))) (za (zE xg hr (za (zm 0) (za zf (za zf zp)))) (za (zae ziD xgi boot_abs (za (zad (zA (zm 5) zf) (zA (zm 6) zf)) zp)) zp)))) (zE xg hr (za (zm 0) (za zf (za zf zp))))))
 (zq (zF (i:=12) zaG.nd (zA (zab (za zf (za (zad (zE xg hr (za (zm 0) (za zf (za zf zp)))) zf) (za (zdh (zae ziD xgi boot_abs (za (zad (zA (zm 5) zf) (zA (zm 6) zf)) zp)) zf) zp)))) (zE xg hr (za (zm 0) (za zf (za zf zp))))))
 (zq (zF (i:=13) zaG.nd (zA (zab (za zf (za zf (za (zad (zE xg hr (za (zm 0) (za zf (za zf zp)))) zf) zp)))) (zE xg hr (za (zm 0) (za zf (za zf zp))))))
 (zy (zU (zaa (za (zm 7) (za (zQ (zm 7) (zm 11)) (za (zm 8) (za (zQ (zm 8) (zE xg hr (za (zm 0) (za zf (za zf zp))))) (za (zm 9) (za (zm 10) (za (zm 12) (za (zm 13) zp))))))))))))))))))))
variable (xgg:Got P w K mg base 2 "_law_fog" ["cell","corners","beacons","first","last"] (upF K Dp.zcE))
theorem zar:zT ["script","most","fogs","hours","head","far","count","corners","numbers","beacons","first","last","mists","haze"] ["script","most","fogs","hours"] (zK zeR):=zZ
include xq xbq xg xr xdf xd0 xfh xdk xgg in
theorem ziZ (F:Fun K "_law_vale" "_law_vale" zeR f fd):zY P w K mg base CX0 4 f fd ["script","most","fogs","hours"] (upF K Dp.zch):=by
  refine z8 (b:=Dp.zdy) F zar Dp.zij Dp.zi9 (fun cdv A outer s H E hr=>?_)
  unfold Dp.zdy
  exact (zq (zF (i:=4) zar.nd (zE xbq hr (za (zm 0) (za zf zp))))
 (zq (zF (i:=5) zar.nd (zcF (zaV hr) (zE xg hr (za (zm 4) (za zf (za zf zp)))) zf))
 (zq (zF (i:=6) zar.nd (zQ zf (zE xg hr (za (zm 4) (za zf (za (zm 1) zp))))))
 (zq (zF (i:=7) zar.nd (zE xdf hr (za (zE xbq hr (za (zm 0) (za zf zp))) (za (zQ zf (zE xg hr (za (zm 4) (za zf (za zf zp))))) (za (zm 5) zp)))))
 (zq (zF (i:=8) zar.nd (zQ (zE xd0 hr (za (zm 0) (za zf (za (zQ (zm 6) (zm 2)) zp)))) (zc9 (own:=["k"]) (free:=[]) (fv:=[]) True.intro True.intro (zbI xr (za (zm 6) zp)) ⟨(zaf 0 (by decide)),fun _ _ _ _ _=>(zaq (i:=0) (show List.Nodup (["k"]:List Str) by decide +kernel) rfl (Or.inl rfl) (Or.inr rfl))⟩ (fun _ _ _ _ _=>zaN) (fun _ _ _ _ _=>zf))))
 (zq (zF (i:=9) zar.nd (zE xdk hr (za (zm 8) (za (zm 7) (za (zE xfh hr (za (zm 4) (za (zm 6) zp))) zp)))))
 (zq (zF (i:=10) zar.nd (zA (zab (za (zad (zE xg hr (za (zm 4) (za zf (za zf zp)))) zf) (za (zaz (zm 4) (zaO 100000000000000000000000000000000000000000000000000 (by decide +kernel) ⟨by decide,by decide,by decide⟩)) zp))) (zdh (zE xg hr (za (zm 4) (za zf (za zf zp)))) zf)))
 (zq (zF (i:=11) zar.nd (zQ (zm 10) (zE xg hr (za (zm 4) (za zf (za (zm 3) zp))))))
 (zq (zdS (i:=12) zar.nd (own:=["cell"]) (free:=["corners","beacons","first","last"]) (fv:=[7,9,10,11]) ⟨rfl,rfl,rfl,rfl,True.intro⟩ ⟨rfl,rfl,rfl,rfl,rfl,rfl,rfl,rfl,rfl,rfl,rfl,rfl,True.intro⟩ (zb2 (zcT (zm 8) (za7 (zm 6)) (za7 (zad (zae z9 xq boot_len (za (zm 8) zp)) (zm 6))))) ⟨(zaf 0 (by decide)),fun _ _ _ _ _=>(zaq (i:=0) (show List.Nodup (["cell","corners","beacons","first","last"]:List Str) by decide +kernel) rfl (Or.inl rfl) (Or.inr rfl))⟩ (fun _ _ _ _ _=>zaN) (fun _ _ _ _ _=>(zE xgg hr (za (zm 0) (za (zm 1) (za (zm 2) (za (zm 3) (za (zm 4) zp))))))))
 (zq (zF (i:=13) zar.nd (zA (zab (za zhR (za (zE xg hr (za (zm 4) (za zf (za zf zp)))) (za (zaO 100000000000000000000000000000000000000000000000000000000000 (by decide +kernel) ⟨by decide,by decide,by decide⟩) zp)))) (zE xg hr (za (zm 4) (za zf (za zf zp))))))
 (zy (zU (zaa (za (zm 7) (za (zm 9) (za (zm 12) (za (zm 13) (za (zm 10) (za (zm 11) (za (zE xg hr (za (zm 4) (za zf (za zf zp)))) zp))))))))))))))))))))
variable (xf6:Got P w K mg base 4 "_law_vale" ["script","most","fogs","hours"] (upF K Dp.zch))
variable (xg8:mg "int"=none)
theorem zO:zT ["kind","cell","vale","corners","beacons","mists","haze","first","last","delay","at","to","one","bad","most","low","none"] ["kind","cell","vale"] (zK zdI):=zZ
include xq xg xr xg8 in
theorem zhC (F:Fun K "_law_spoilt" "_law_spoilt" zdI f fd):zY P w K mg base CX0 2 f fd ["kind","cell","vale"] (upF K Dp.zbG):=by
  refine z8 (b:=Dp.zcO) F zO Dp.zhe Dp.zhF (fun cdv A outer s H E hr=>?_)
  unfold Dp.zcO
  exact (zq (zjz (zm 2) (znb (n:=7) rfl (zcw (zau (i:=3) zO.nd) (zcw (zau (i:=4) zO.nd) (zcw (zau (i:=5) zO.nd) (zcw (zau (i:=6) zO.nd) (zcw (zau (i:=7) zO.nd) (zcw (zau (i:=8) zO.nd) (zcw (zau (i:=9) zO.nd) zns)))))))))
 (zq (zF (i:=10) zO.nd (zE xg hr (za (zm 1) (za zf (za (zQ (zae z9 xq boot_len (za (zm 4) zp)) zf) zp)))))
 (zq (zF (i:=11) zO.nd (zE xg hr (za (zm 1) (za zf (za (zQ (zae z9 xq boot_len (za (zm 5) zp)) zf) zp)))))
 (zq (zF (i:=12) zO.nd (zaa (za (zA (zA (zm 3) zf) zf) (za (zQ (zA (zA (zm 3) zf) zf) zf) zp))))
 (zq (zF (i:=13) zO.nd (zab (za z6 (za z6 (za z6 (za z6 (za z6 (za z6 (za z6 zp)))))))))
 (zq (zbu (zV (zR (zaV hr) (zm 0) zf) (zq (zF (i:=14) zO.nd (zA (zab (za zf (za zf zp))) (zE xg hr (za (zm 1) (za zf (za zf zp))))))
 (zy (zdS (i:=4) zO.nd (own:=["k"]) (free:=["one"]) (fv:=[12]) ⟨rfl,True.intro⟩ ⟨rfl,rfl,rfl,True.intro⟩ (zbI xr (za (zm 14) zp)) ⟨(zaf 0 (by decide)),fun _ _ _ _ _=>(zaq (i:=0) (show List.Nodup (["k","one"]:List Str) by decide +kernel) rfl (Or.inl rfl) (Or.inr rfl))⟩ (fun _ _ _ _ _=>zaN) (fun _ _ _ _ _=>(zaa (za (zQ z6 (zA z6 (zm 0))) (za (zA (zm 1) zf) (za (zA (zm 1) zf) zp)))))))) zP))
 (zq (zbu (zV (zR (zaV hr) (zm 0) zf) (zy (zdS (i:=5) zO.nd (own:=["k"]) (free:=[]) (fv:=[]) True.intro True.intro (zbI xr (za zf zp)) ⟨(zaf 0 (by decide)),fun _ _ _ _ _=>(zaq (i:=0) (show List.Nodup (["k"]:List Str) by decide +kernel) rfl (Or.inl rfl) (Or.inr rfl))⟩ (fun _ _ _ _ _=>zaN) (fun _ _ _ _ _=>(zaa (za zf (za zf (za zf (za zf (za zf (za zf (za zf (za zf zp)))))))))))) zP))
 (zq (zbu (zV (zR (zaV hr) (zm 0) zf) (zy (zF (i:=4) zO.nd (zQ (zQ (zcT (zm 4) zbH (za7 (zm 10))) (zab (za (zaa (za (zA (zm 13) (zE xg hr (za (zm 1) (za zf (za (zae z9 xq boot_len (za (zm 13) zp)) zp))))) (za (zA (zm 12) zf) (za (zA (zm 12) zf) zp)))) zp))) (zcT (zm 4) (za7 (zm 10)) zbH)))) zP))
 (zq (zbu (zV (za4 (zc1 (zR (zaV hr) (zm 0) zf) (zcv (zR zc8 (zae z9 xq boot_len (za (zm 4) zp)) zf)))) (zy (zF (i:=4) zO.nd (zQ (zQ (zcT (zm 4) zbH (za7 (zm 10))) (zab (za (zaa (za (zA (zA (zm 4) zf) zf) (za (zA (zm 12) zf) (za (zA (zm 12) zf) zp)))) zp))) (zcT (zm 4) (za7 (zm 10)) zbH)))) zP))
 (zq (zbu (zV (zR (zaV hr) (zm 0) zf) (zq (zF (i:=15) zO.nd (zab (za (zaa (za (zA (zm 12) zf) (za (zad (zA (zA (zm 3) zf) zf) zf) zp))) (za (zaa (za (zad (zA (zm 12) zf) zf) (za (zA (zm 12) zf) zp))) (za (zaa (za (zQ (zA (zA (zm 3) (zdU zf)) zf) zf) (za (zQ (zA (zA (zm 3) (zdU zf)) zf) zf) zp))) zp)))))
 (zq (zF (i:=15) zO.nd (zA (zm 15) (zE xg hr (za (zm 1) (za zf (za zf zp))))))
 (zy (zF (i:=4) zO.nd (zQ (zQ (zcT (zm 4) zbH (za7 (zm 10))) (zab (za (zaa (za z6 (za (zA (zm 15) zf) (za (zA (zm 15) zf) zp)))) zp))) (zcT (zm 4) (za7 (zm 10)) zbH)))))) zP))
 (zq (zbu (zV (zR (zaV hr) (zm 0) zf) (zq (zF (i:=16) zO.nd (zab (za (zaa (za zf (za zf (za zf (za zf (za zf (za zf (za zf (za zf zp))))))))) (za (zaa (za zf (za zf (za zf (za zf (za zf (za zf (za zf (za zf zp))))))))) (za (zaa (za zf (za zf (za zf (za zf (za zf (za zf (za zf (za zf zp))))))))) (za (zaa (za zf (za zf (za zf (za zf (za zf (za zf (za zf zp)))))))) zp))))))
 (zy (zF (i:=5) zO.nd (zQ (zQ (zcT (zm 5) zbH (za7 (zm 11))) (zab (za (zA (zm 16) (zE xg hr (za (zm 1) (za zf (za (zae z9 xq boot_len (za (zm 16) zp)) zp))))) zp))) (zcT (zm 5) (za7 (zm 11)) zbH))))) zP))
 (zq (zbu (zV (zR (zaV hr) (zm 0) zf) (zy (zF (i:=8) zO.nd (zad (zad (zm 7) zf) (zE xg hr (za (zm 1) (za zf (za zf zp))))))) zP))
 (zq (zbu (zV (zR (zaV hr) (zm 0) zf) (zq (zF (i:=9) zO.nd (zA (zab (za (zdU zf) (za (zm 9) zp))) (zE xg hr (za (zm 1) (za zf (za zf zp))))))
 (zy (zF (i:=6) zO.nd (zA (zab (za (zdU zf) (za (zm 6) zp))) (zeO zox xg8 boot_int (za (zcF zca (zm 9) zf) zp)))))) zP))
 (zy (zU (zaa (za (zm 3) (za (zm 4) (za (zm 5) (za (zm 6) (za (zm 7) (za (zm 8) (za (zm 9) zp)))))))))))))))))))))))
variable (xd7:Got P w K mg base 2 "_law_spoilt" ["kind","cell","vale"] (upF K Dp.zbG))
theorem zgJ:zT ["kinds","vale","kind"] ["kinds","vale"] (zK zfa):=zZ
include xq in
theorem zki (F:Fun K "_law_due" "_law_due" zfa f fd):zY P w K mg base CX0 1 f fd ["kinds","vale"] (upF K Dp.zcM):=by
  refine z8 (b:=Dp.zd3) F zgJ Dp.zjb Dp.zjL (fun cdv A outer s H E hr=>?_)
  unfold Dp.zd3
  exact (zq (zV (za4 (zcL (zR (zaV hr) (zae z9 xq boot_len (za (zA (zm 1) zf) zp)) zf) (zcL (zR zc8 (zae z9 xq boot_len (za (zA (zm 1) zf) zp)) zf) (zcC (zR zc8 (zae z9 xq boot_len (za (zA (zm 1) zf) zp)) zf))))) (zy (zU zf)) zP)
 (zq (zcD (zb2 (zab (za zf (za zf (za zf (za zf zp)))))) (zau (i:=2) zgJ.nd) (zy (zV (zfD (zhM hr) (zm 2) (zm 0)) (zy (zU (zad (zm 2) zf))) zP)))
 (zq (zV (za4 (zcL (zfD (zhM hr) zf (zm 0)) (zcC (zfD (zhM hr) zf (zm 0))))) (zy (zU zf)) zP)
 (zy (zU zf)))))
variable (xgo:Got P w K mg base 1 "_law_due" ["kinds","vale"] (upF K Dp.zcM))
variable (xcd:∃ t,mg "LEAST_CORNERS"=some (.int 2 t))
variable (xcv:∃ t,mg "MOST_CORNERS"=some (.int 40 t))
theorem zcy:zT ["corners","k"] ["corners"] (zK zbz):=zZ
include xq xr xcd xcv in
theorem zek (F:Fun K "refuse_bad_corners" "refuse_bad_corners" zbz f fd):zY P w K mg base CX0 1 f fd ["corners"] (upF K Dp.zaw):=by
  refine z8 (b:=Dp.zaU) F zcy Dp.zee Dp.zeh (fun cdv A outer s H E hr=>?_)
  unfold Dp.zaU
  exact (zq (zV (za4 (zcL (zR zca (zae z9 xq boot_len (za (zm 0) zp)) (za6 rfl xcd)) (zcC (zR zc8 (zae z9 xq boot_len (za (zm 0) zp)) (za6 rfl xcv))))) (zy zhs) zP)
 (zy (zcD (zjm xr (za zf (za (zae z9 xq boot_len (za (zm 0) zp)) zp))) (zau (i:=1) zcy.nd) (zy (zV (zR zfz (zA (zA (zm 0) (zm 1)) zf) (zA (zA (zm 0) (zad (zm 1) zf)) zf)) (zy zhs) zP)))))
variable (xaw:Got P w K mg base 1 "refuse_bad_corners" ["corners"] (upF K Dp.zaw))
variable (xbd:∀ C,W.nsIn K mainGlobals "Ground"=some (some (.ref C))->zah K C "corners")
variable (xbn:mg "list"=none)
theorem zgX:zT ["self","corners"] ["self","corners"] (zK zba):=zZ
include xaw xbd xbn in
theorem zhf (F:Fun K "__init__" "Ground.__init__" zba f fd):zY P w K mg base CX0 2 f fd ["self","corners"] (upF K Dp.zb4):=by
  refine z8 (b:=Dp.zbc) F zgX Dp.zgr Dp.zg2 (fun cdv A outer s H E hr=>?_)
  unfold Dp.zbc
  exact (zq (za3 (zE xaw hr (za (zm 1) zp)))
 (zy (zcz xbd (zm 0) (zeO zdH xbn boot_list (za (zm 1) zp)))))
variable (xdo:zjV P w K mg base 2 "Ground" (upF K Dp.zd1))
variable (xcq:∃ t,mg "MOST_BEACONS"=some (.int 12 t))
variable (xfb:∃ t,mg "MOST_FOGS"=some (.int 12 t))
variable (xed:∀ C,W.nsIn K mainGlobals "TooMany"=some (some (.ref C))->ExC K C)
variable (xdw:∃ C,W.nsIn K mainGlobals "TooMany"=some (some (.ref C))/\mg "TooMany"=some (.ref C))
theorem zeg:zT ["beacons","fogs"] ["beacons","fogs"] (zK zbv):=zZ
include xq xcq xfb xed xdw in
theorem zej (F:Fun K "refuse_bad_numbers" "refuse_bad_numbers" zbv f fd):zY P w K mg base (CXd P w) 1 f fd ["beacons","fogs"] (zbo K Dp.zav):=by
  refine zbY (b:=Dp.zaX) F zeg Dp.zd9 Dp.zel (fun cdv A outer s H E hr _ ex hX hM=>?_)
  unfold Dp.zaX
  exact (zq (zV (za4 (zcL (zR zca (zae z9 xq boot_len (za (zm 0) zp)) zf) (zcC (zR zc8 (zae z9 xq boot_len (za (zm 0) zp)) (za6 rfl xcq))))) (zy (zaY hM rfl xed xdw rfl (za z6 zp) (fun _ _ _ h=>h _))) zP)
 (zy (zV (zR zc8 (zae z9 xq boot_len (za (zm 1) zp)) (za6 rfl xfb)) (zy (zaY hM rfl xed xdw rfl (za z6 zp) (fun _ _ _ h=>h _))) zP)))
variable (xav:zeH P w K mg base 1 "refuse_bad_numbers" ["beacons","fogs"] (zbo K Dp.zav))
variable (xcu:∃ t,mg "MOST_LETTERS"=some (.int 8 t))
variable (xgm:∃ t,mg "LETTERS"=some (.str "abcdefghijklmnopqrstuvwxyz" t))
variable (xbi:mg "all"=none)
theorem zj2:zT ["text"] ["text"] (zK zfd):=zZ
include xq xcu xgm xbi in
theorem zjH (F:Fun K "is_name" "is_name" zfd f fd):zY P w K mg base CX0 1 f fd ["text"] (upF K Dp.zb8):=by
  refine z8 (b:=Dp.zd4) F zj2 Dp.ziS Dp.zjX (fun cdv A outer s H E hr=>?_)
  unfold Dp.zd4
  exact (zq (zV (za4 (zcL (zR zca (zae z9 xq boot_len (za (zm 0) zp)) zf) (zcC (zR zc8 (zae z9 xq boot_len (za (zm 0) zp)) (za6 rfl xcu))))) (zy (zU zdD)) zP)
 (zy (zU (zae zfb xbi boot_all (za (zc9 (own:=["sign"]) (free:=[]) (fv:=[]) True.intro True.intro (zb2 (zm 0)) ⟨(zaf 0 (by decide)),fun _ _ _ _ _=>(zaq (i:=0) (show List.Nodup (["sign"]:List Str) by decide +kernel) rfl (Or.inl rfl) (Or.inr rfl))⟩ (fun _ _ _ _ _=>zaN) (fun _ _ _ _ _=>(zmZ (zhM hr) (zm 0) (zmU rfl xgm)))) zp)))))
variable (xci:Got P w K mg base 1 "is_name" ["text"] (upF K Dp.zb8))
variable (xix:mg "set"=none)
variable (xfx:∀ C,W.nsIn K mainGlobals "BadName"=some (some (.ref C))->ExC K C)
variable (xfz:∃ C,W.nsIn K mainGlobals "BadName"=some (some (.ref C))/\mg "BadName"=some (.ref C))
variable (xg1:∀ C,W.nsIn K mainGlobals "Twice"=some (some (.ref C))->ExC K C)
variable (xg0:∃ C,W.nsIn K mainGlobals "Twice"=some (some (.ref C))/\mg "Twice"=some (.ref C))
theorem zeZ:zT ["names"] ["names"] (zK zb1):=zZ
include xq xbi xci xix xfx xfz xg1 xg0 in
theorem ze2 (F:Fun K "refuse_bad_names" "refuse_bad_names" zb1 f fd):zY P w K mg base (CXd P w) 2 f fd ["names"] (zbo K Dp.zaB):=by
  refine zbY (b:=Dp.zbd) F zeZ Dp.zeA Dp.ze0 (fun cdv A outer s H E hr _ ex hX hM=>?_)
  unfold Dp.zbd
  exact (zq (zV (zcV (zbn (zae zfb xbi boot_all (za (zef (zc9 (own:=["name"]) (free:=[]) (fv:=[]) True.intro True.intro (zb2 (zm 0)) ⟨(zaf 0 (by decide)),fun _ _ _ _ _=>(zaq (i:=0) (show List.Nodup (["name"]:List Str) by decide +kernel) rfl (Or.inl rfl) (Or.inr rfl))⟩ (fun _ _ _ _ _=>zaN) (fun _ _ _ _ _=>(zE xci hr (za (zm 0) zp))))) zp)))) (zy (zaY hM rfl xfx xfz rfl (za z6 zp) (fun _ _ _ h=>h _))) zP)
 (zy (zV (zR zca (zef (zm0 rfl xq rfl xix (za (zm 0) zp))) (zae z9 xq boot_len (za (zm 0) zp))) (zy (zaY hM rfl xg1 xg0 rfl (za z6 zp) (fun _ _ _ h=>h _))) zP)))
variable (xa6:zeH P w K mg base 2 "refuse_bad_names" ["names"] (zbo K Dp.zaB))
theorem zna:zT ["one","other"] ["one","other"] (zK zid):=zZ
theorem znF (F:Fun K "less" "less" zid f fd):zY P w K mg base CX0 1 f fd ["one","other"] (upF K Dp.zcA):=by
 refine z8 (b:=Dp.zgE) F zna Dp.zmd Dp.zmR (fun cdv A outer s H E hr=>?_)
 unfold Dp.zgE
 exact (zy (zU (zcF zca (zal (zA (zm 0) zf) (zA (zm 1) zf)) (zal (zA (zm 1) zf) (zA (zm 0) zf)))))
variable (xcj:Got P w K mg base 1 "less" ["one","other"] (upF K Dp.zcA))
theorem zf0:zT ["ground","place","first","last"] ["ground","place"] (zK zgS):=zZ
include xcj in
theorem zlT (F:Fun K "is_on" "is_on" zgS f fd):zY P w K mg base CX0 2 f fd ["ground","place"] (upF K Dp.zc2):=by
  refine z8 (b:=Dp.zfy) F zf0 Dp.zkB Dp.zlN (fun cdv A outer s H E hr=>?_)
  unfold Dp.zfy
  exact (zq (zF (i:=2) zf0.nd (zaa (za (zA (zA (zgj (zm 0) rfl) zf) zf) (za zf zp))))
 (zq (zF (i:=3) zf0.nd (zaa (za (zA (zA (zgj (zm 0) rfl) (zdU zf)) zf) (za zf zp))))
 (zy (zU (zfG (zfK (zE xcj hr (za (zm 1) (za (zm 2) zp)))) (ziO (zfK (zE xcj hr (za (zm 3) (za (zm 1) zp))))))))))
variable (xek:Got P w K mg base 2 "is_on" ["ground","place"] (upF K Dp.zc2))
theorem zbl:zT ["one","other","rest"] ["one","other"] (zK zcu):=zZ
include xgi in
theorem zfL (F:Fun K "common_divisor" "common_divisor" zcu f fd):zY P w K mg base CX0 1 f fd ["one","other"] (upF K Dp.zaR):=by
  refine z8 (b:=Dp.zbx) F zbl Dp.zfc Dp.zfN (fun cdv A outer s H E hr=>?_)
  unfold Dp.zbx
  exact (zq (zhj (zR (zgF hr) (zm 1) zf) (zq (zF (i:=2) zbl.nd (zaz (zm 0) (zm 1)))
 (zq (zF (i:=0) zbl.nd (zm 1))
 (zy (zF (i:=1) zbl.nd (zm 2))))))
 (zy (zU (zae ziD xgi boot_abs (za (zm 0) zp)))))
variable (xbv:Got P w K mg base 1 "common_divisor" ["one","other"] (upF K Dp.zaR))
theorem zed:zT ["top","bottom","divisor"] ["top","bottom"] (zK zem):=zZ
include xbv in
theorem zi0 (F:Fun K "fraction" "fraction" zem f fd):zY P w K mg base CX0 2 f fd ["top","bottom"] (upF K Dp.zcl):=by
  refine z8 (b:=Dp.zdC) F zed Dp.zih Dp.zi5 (fun cdv A outer s H E hr=>?_)
  unfold Dp.zdC
  exact (zq (zF (i:=2) zed.nd (zE xbv hr (za (zm 0) (za (zm 1) zp))))
 (zq (zbu (zV (zR zca (zm 1) zf) (zy (zF (i:=2) zed.nd (zdU (zm 2)))) zP))
 (zy (zU (zaa (za (zdh (zm 0) (zm 2)) (za (zdh (zm 1) (zm 2)) zp)))))))
variable (xf5:Got P w K mg base 2 "fraction" ["top","bottom"] (upF K Dp.zcl))
theorem zcS:zT ["one","other","place","run","rise","top"] ["one","other","place"] (zK zd7):=zZ
include xf5 in
theorem zh2 (F:Fun K "height_on" "height_on" zd7 f fd):zY P w K mg base CX0 3 f fd ["one","other","place"] (upF K Dp.zbU):=by
  refine z8 (b:=Dp.zde) F zcS Dp.zhD Dp.zim (fun cdv A outer s H E hr=>?_)
  unfold Dp.zde
  exact (zq (zF (i:=3) zcS.nd (zad (zA (zm 1) zf) (zA (zm 0) zf)))
 (zq (zF (i:=4) zcS.nd (zad (zA (zm 1) zf) (zA (zm 0) zf)))
 (zq (zF (i:=5) zcS.nd (zQ (zal (zal (zA (zm 0) zf) (zm 3)) (zA (zm 2) zf)) (zal (zm 4) (zad (zA (zm 2) zf) (zal (zA (zm 0) zf) (zA (zm 2) zf))))))
 (zy (zU (zE xf5 hr (za (zm 5) (za (zal (zm 3) (zA (zm 2) zf)) zp))))))))
variable (xfi:Got P w K mg base 3 "height_on" ["one","other","place"] (upF K Dp.zbU))
variable (xa3:∀ C,W.nsIn K mainGlobals "OffGround"=some (some (.ref C))->ExC K C)
variable (xa2:∃ C,W.nsIn K mainGlobals "OffGround"=some (some (.ref C))/\mg "OffGround"=some (.ref C))
theorem zcI:zT ["ground","place","corners","k"] ["ground","place"] (zK zd6):=zZ
include xcj xek xfi xa3 xa2 in
theorem zis (F:Fun K "ground_at" "ground_at" zd6 f fd):zY P w K mg base (CXd P w) 4 f fd ["ground","place"] (zbo K Dp.zbZ):=by
  refine zbY (b:=Dp.zdd) F zcI Dp.zhG Dp.zh4 (fun cdv A outer s H E hr _ ex hX hM=>?_)
  unfold Dp.zdd
  exact (zq (zV (zcV (zbn (zE xek hr (za (zm 0) (za (zm 1) zp))))) (zy (zaY hM rfl xa3 xa2 rfl (za z6 zp) (fun _ _ _ h=>h _))) zP)
 (zq (zF (i:=2) zcI.nd (zgj (zm 0) rfl))
 (zq (zF (i:=3) zcI.nd zf)
 (zq (zhj (zbn (zE xcj hr (za (zaa (za (zA (zA (zm 2) (zm 3)) zf) (za zf zp))) (za (zm 1) zp)))) (zy (zmY (i:=3) zcI.nd zf)))
 (zy (zU (zE xfi hr (za (zA (zm 2) (zad (zm 3) zf)) (za (zA (zm 2) (zm 3)) (za (zm 1) zp))))))))))
variable (xfe:zeH P w K mg base 4 "ground_at" ["ground","place"] (zbo K Dp.zbZ))
theorem zhv:zT ["ground","spot","place"] ["ground","spot"] (zK zf7):=zZ
include xcj xek xfe in
theorem zkR (F:Fun K "stands" "stands" zf7 f fd):zY P w K mg base CX0 5 f fd ["ground","spot"] (upF K Dp.zdo):=by
  refine z8 (b:=Dp.zeF) F zhv Dp.zjE Dp.zld (fun cdv A outer s H E hr=>?_)
  unfold Dp.zeF
  exact (zq (zF (i:=2) zhv.nd (zaa (za (zA (zm 1) zf) (za zf zp))))
 (zq (zV (zcV (zbn (zE xek hr (za (zm 0) (za (zm 2) zp))))) (zy (zU zdD)) zP)
 (zy (zU (zfK (zE xcj hr (za (zaa (za (zA (zm 1) zf) (za zf zp))) (za (zcx xfe zqp hr (za (zm 0) (za (zm 2) zp))) zp))))))))
variable (xgu:Got P w K mg base 5 "stands" ["ground","spot"] (upF K Dp.zdo))
theorem zfe:zT ["ground","beacons"] ["ground","beacons"] (zK zce):=zZ
include xbi xa3 xa2 xgu in
theorem zfn (F:Fun K "refuse_bad_tops" "refuse_bad_tops" zce f fd):zY P w K mg base (CXd P w) 6 f fd ["ground","beacons"] (zbo K Dp.zaJ):=by
 refine zbY (b:=Dp.zbm) F zfe Dp.ze4 Dp.zfk (fun cdv A outer s H E hr _ ex hX hM=>?_)
 unfold Dp.zbm
 exact (zy (zV (zcV (zbn (zae zfb xbi boot_all (za (zef (zc9 (own:=["name","x","z"]) (free:=["ground"]) (fv:=[0]) ⟨rfl,True.intro⟩ ⟨rfl,rfl,rfl,True.intro⟩ (zb2 (zm 1)) ⟨(zlC (zeQ (zaf 0 (by decide)) (zeQ (zaf 1 (by decide)) (zeQ (zaf 2 (by decide)) zkH)))),fun _ _ _ _ _=>(zky (n:=3) rfl (zeU (zaq (i:=0) (show List.Nodup (["name","x","z","ground"]:List Str) by decide +kernel) rfl (Or.inl rfl) (Or.inr rfl)) (zeU (zaq (i:=1) (show List.Nodup (["name","x","z","ground"]:List Str) by decide +kernel) rfl (Or.inl rfl) (Or.inr rfl)) (zeU (zaq (i:=2) (show List.Nodup (["name","x","z","ground"]:List Str) by decide +kernel) rfl (Or.inl rfl) (Or.inr rfl)) zji))))⟩ (fun _ _ _ _ _=>zaN) (fun _ _ _ _ _=>(zE xgu hr (za (zm 3) (za (zaa (za (zm 1) (za (zm 2) zp))) zp)))))) zp)))) (zy (zaY hM rfl xa3 xa2 rfl (za z6 zp) (fun _ _ _ h=>h _))) zP))
variable (xbf:zeH P w K mg base 6 "refuse_bad_tops" ["ground","beacons"] (zbo K Dp.zaJ))
variable (xu:mg "isinstance"=none)
variable (xh1:mg "bool"=none)
theorem zi8:zT ["value"] ["value"] (zK zet):=zZ
include xg8 xu xh1 in
theorem zja (F:Fun K "is_whole" "is_whole" zet f fd):zY P w K mg base CX0 1 f fd ["value"] (upF K Dp.zci):=by
 refine z8 (b:=Dp.zdA) F zi8 Dp.zhZ Dp.ziT (fun cdv A outer s H E hr=>?_)
 unfold Dp.zdA
 exact (zy (zU (zfG (zae zh8 xu boot_isinstance (za (zm 0) (za (zjO rfl xg8 boot_int) zp))) (ziO (zfK (zae zh8 xu boot_isinstance (za (zm 0) (za (zjO rfl xh1 boot_bool) zp))))))))
variable (xf2:Got P w K mg base 1 "is_whole" ["value"] (upF K Dp.zci))
variable (xgl:∃ t,mg "NUMBERS"=some (.int 8 t))
variable (xhx:∃ t,mg "LEFT"=some (.int 0 t))
variable (xhm:∃ t,mg "RIGHT"=some (.int 1 t))
variable (xiw:∃ t,mg "LOW"=some (.int 2 t))
variable (xh2:∃ t,mg "HIGH"=some (.int 3 t))
variable (xhn:∃ t,mg "FIRST"=some (.int 4 t))
variable (xh3:∃ t,mg "LAST"=some (.int 5 t))
variable (xho:mg "tuple"=none)
theorem zkM:zT ["value"] ["value"] (zK zfU):=zZ
include xq xbi xu xf2 xgl xhx xhm xiw xh2 xhn xh3 xho in
theorem zle (F:Fun K "is_fog" "is_fog" zfU f fd):zY P w K mg base CX0 2 f fd ["value"] (upF K Dp.zdp):=by
  refine z8 (b:=Dp.zeI) F zkM Dp.zjF Dp.zk7 (fun cdv A outer s H E hr=>?_)
  unfold Dp.zeI
  exact (zq (zV (za4 (zcL (zcV (zbn (zae zh8 xu boot_isinstance (za (zm 0) (za (zjO rfl xho boot_tuple) zp))))) (zcC (zR (zgF hr) (zae z9 xq boot_len (za (zm 0) zp)) (za6 rfl xgl))))) (zy (zU zdD)) zP)
 (zq (zV (zcV (zbn (zae zfb xbi boot_all (za (zc9 (own:=["number"]) (free:=[]) (fv:=[]) True.intro True.intro (zb2 (zm 0)) ⟨(zaf 0 (by decide)),fun _ _ _ _ _=>(zaq (i:=0) (show List.Nodup (["number"]:List Str) by decide +kernel) rfl (Or.inl rfl) (Or.inr rfl))⟩ (fun _ _ _ _ _=>zaN) (fun _ _ _ _ _=>(zE xf2 hr (za (zm 0) zp)))) zp)))) (zy (zU zdD)) zP)
 (zy (zU (zfG (zcF zfz (zA (zm 0) (za6 rfl xhx)) (zA (zm 0) (za6 rfl xhm))) (zfG (zcF zfz (zA (zm 0) (za6 rfl xiw)) (zA (zm 0) (za6 rfl xh2))) (ziO (zcF zfz (zA (zm 0) (za6 rfl xhn)) (zA (zm 0) (za6 rfl xh3))))))))))
variable (xg7:Got P w K mg base 2 "is_fog" ["value"] (upF K Dp.zdp))
variable (xgd:∀ C,W.nsIn K mainGlobals "BadFog"=some (some (.ref C))->ExC K C)
variable (xgc:∃ C,W.nsIn K mainGlobals "BadFog"=some (some (.ref C))/\mg "BadFog"=some (.ref C))
theorem zfu:zT ["fogs"] ["fogs"] (zK zcb):=zZ
include xbi xg7 xgd xgc in
theorem ze6 (F:Fun K "refuse_bad_fogs" "refuse_bad_fogs" zcb f fd):zY P w K mg base (CXd P w) 3 f fd ["fogs"] (zbo K Dp.zaL):=by
 refine zbY (b:=Dp.zbk) F zfu Dp.ze1 Dp.zfl (fun cdv A outer s H E hr _ ex hX hM=>?_)
 unfold Dp.zbk
 exact (zy (zV (zcV (zbn (zae zfb xbi boot_all (za (zef (zc9 (own:=["fog"]) (free:=[]) (fv:=[]) True.intro True.intro (zb2 (zm 0)) ⟨(zaf 0 (by decide)),fun _ _ _ _ _=>(zaq (i:=0) (show List.Nodup (["fog"]:List Str) by decide +kernel) rfl (Or.inl rfl) (Or.inr rfl))⟩ (fun _ _ _ _ _=>zaN) (fun _ _ _ _ _=>(zE xg7 hr (za (zm 0) zp))))) zp)))) (zy (zaY hM rfl xgd xgc rfl (za z6 zp) (fun _ _ _ h=>h _))) zP))
variable (xbg:zeH P w K mg base 3 "refuse_bad_fogs" ["fogs"] (zbo K Dp.zaL))
variable (xcx:∀ C,W.nsIn K mainGlobals "BadHour"=some (some (.ref C))->ExC K C)
variable (xcw:∃ C,W.nsIn K mainGlobals "BadHour"=some (some (.ref C))/\mg "BadHour"=some (.ref C))
theorem zeY:zT ["haze","first","last","delay"] ["haze","first","last","delay"] (zK zbQ):=zZ
include xcx xcw in
theorem ze5 (F:Fun K "refuse_bad_hours" "refuse_bad_hours" zbQ f fd):zY P w K mg base (CXd P w) 1 f fd ["haze","first","last","delay"] (zbo K Dp.zaC):=by
  refine zbY (b:=Dp.zbe) F zeY Dp.zex Dp.ze3 (fun cdv A outer s H E hr _ ex hX hM=>?_)
  unfold Dp.zbe
  exact (zq (zV (zR zc8 (zm 1) (zm 2)) (zy (zaY hM rfl xcx xcw rfl (za z6 zp) (fun _ _ _ h=>h _))) zP)
 (zq (zV (zR zca (zm 3) zf) (zy (zaY hM rfl xcx xcw rfl (za z6 zp) (fun _ _ _ h=>h _))) zP)
 (zy (zV (za4 (zc1 (zR zpq (zm 0) zhR) (zcv (zR zca (zm 0) zf)))) (zy (zaY hM rfl xcx xcw rfl (za z6 zp) (fun _ _ _ h=>h _))) zP))))
variable (xa5:zeH P w K mg base 1 "refuse_bad_hours" ["haze","first","last","delay"] (zbo K Dp.zaC))
variable (xbx:∀ C,W.nsIn K mainGlobals "Valley"=some (some (.ref C))->zah K C "ground")
variable (xbc:∀ C,W.nsIn K mainGlobals "Valley"=some (some (.ref C))->zah K C "beacons")
variable (xcs:∀ C,W.nsIn K mainGlobals "Valley"=some (some (.ref C))->zah K C "fogs")
variable (xct:∀ C,W.nsIn K mainGlobals "Valley"=some (some (.ref C))->zah K C "haze")
variable (xcf:∀ C,W.nsIn K mainGlobals "Valley"=some (some (.ref C))->zah K C "first")
variable (xcr:∀ C,W.nsIn K mainGlobals "Valley"=some (some (.ref C))->zah K C "last")
variable (xce:∀ C,W.nsIn K mainGlobals "Valley"=some (some (.ref C))->zah K C "delay")
theorem zg7:zT ["self","ground","beacons","fogs","haze","first","last","delay"] ["self","ground","beacons","fogs","haze","first","last","delay"] (zK zbb):=zZ
include xbn xdo xav xa6 xbf xbg xa5 xbx xbc xcs xct xcf xcr xce in
theorem zg1 (F:Fun K "__init__" "Valley.__init__" zbb f fd):zY P w K mg base (CXd P w) 7 f fd ["self","ground","beacons","fogs","haze","first","last","delay"] (zbo K Dp.za0):=by
  refine zbY (b:=Dp.za8) F zg7 Dp.zgk Dp.zhg (fun cdv A outer s H E hr _ ex hX hM=>?_)
  unfold Dp.za8
  exact (zq (za3 (zcx xav hX hr (za (zm 2) (za (zm 3) zp))))
 (zq (za3 (zcx xa6 hX hr (za (zef (zc9 (own:=["beacon"]) (free:=[]) (fv:=[]) True.intro True.intro (zb2 (zm 2)) ⟨(zaf 0 (by decide)),fun _ _ _ _ _=>(zaq (i:=0) (show List.Nodup (["beacon"]:List Str) by decide +kernel) rfl (Or.inl rfl) (Or.inr rfl))⟩ (fun _ _ _ _ _=>zaN) (fun _ _ _ _ _=>(zA (zm 0) zf)))) zp)))
 (zq (za3 (zcx xbf hX hr (za (zm 1) (za (zm 2) zp))))
 (zq (za3 (zcx xbg hX hr (za (zm 3) zp)))
 (zq (za3 (zcx xa5 hX hr (za (zm 4) (za (zm 5) (za (zm 6) (za (zm 7) zp))))))
 (zq (zcz xbx (zm 0) (zkC xdo hr (za (zgj (zm 1) rfl) zp)))
 (zq (zcz xbc (zm 0) (zeO zdH xbn boot_list (za (zm 2) zp)))
 (zq (zcz xcs (zm 0) (zeO zdH xbn boot_list (za (zm 3) zp)))
 (zq (zcz xct (zm 0) (zm 4))
 (zq (zcz xcf (zm 0) (zm 5))
 (zq (zcz xcr (zm 0) (zm 6))
 (zy (zcz xce (zm 0) (zm 7))))))))))))))
variable (xg5:zjG P w K mg base 7 "Valley" "Valley" Dp.za0)
theorem zhI:zT ["vale"] ["vale"] (zK zdL):=zZ
include xbn xdo xg5 in
theorem zhy (F:Fun K "_law_valley" "_law_valley" zdL f fd):zY P w K mg base (CXd P w) 9 f fd ["vale"] (zbo K Dp.zbF):=by
 refine zbY (b:=Dp.zcR) F zhI Dp.zg4 Dp.zhK (fun cdv A outer s H E hr _ ex hX hM=>?_)
 unfold Dp.zcR
 exact (zy (zU (zmV xg5 hX hr (za (zkC xdo hr (za (zeO zdH xbn boot_list (za (zA (zm 0) zf) zp)) zp)) (za (zeO zdH xbn boot_list (za (zA (zm 0) zf) zp)) (za (zeO zdH xbn boot_list (za (zA (zm 0) zf) zp)) (za (zA (zm 0) zf) (za (zA (zm 0) zf) (za (zA (zm 0) zf) (za (zA (zm 0) zf) zp))))))))))
variable (xd1:zeH P w K mg base 9 "_law_valley" ["vale"] (zbo K Dp.zbF))
variable (xee:∃ Cc,mg "ValeError"=some (.ref Cc)/\∀ c C,(["BadGround","OffGround","BadFog","BadName","Twice","TooMany","BadHour"]:List Str).contains c=true->W.nsIn K mainGlobals c=some (some (.ref C))->W.exmOne K (.ref C) (.ref Cc)=some true)
variable (xfs:∃ Cc,mg "TooMany"=some (.ref Cc)/\∀ c b C,([("BadGround",false),("OffGround",false),("BadFog",false),("BadName",false),("Twice",false),("TooMany",true),("BadHour",false)]:List (Str×Bool)).lookup c=some b->W.nsIn K mainGlobals c=some (some (.ref C))->IsC K C/\W.kitOne K (.ref C) (.ref Cc)=some b)
variable (xf9:∃ Cc,mg "BadName"=some (.ref Cc)/\∀ c b C,([("BadGround",false),("OffGround",false),("BadFog",false),("BadName",true),("Twice",false),("TooMany",false),("BadHour",false)]:List (Str×Bool)).lookup c=some b->W.nsIn K mainGlobals c=some (some (.ref C))->IsC K C/\W.kitOne K (.ref C) (.ref Cc)=some b)
variable (xgv:∃ Cc,mg "Twice"=some (.ref Cc)/\∀ c b C,([("BadGround",false),("OffGround",false),("BadFog",false),("BadName",false),("Twice",true),("TooMany",false),("BadHour",false)]:List (Str×Bool)).lookup c=some b->W.nsIn K mainGlobals c=some (some (.ref C))->IsC K C/\W.kitOne K (.ref C) (.ref Cc)=some b)
variable (xd4:∃ Cc,mg "OffGround"=some (.ref Cc)/\∀ c b C,([("BadGround",false),("OffGround",true),("BadFog",false),("BadName",false),("Twice",false),("TooMany",false),("BadHour",false)]:List (Str×Bool)).lookup c=some b->W.nsIn K mainGlobals c=some (some (.ref C))->IsC K C/\W.kitOne K (.ref C) (.ref Cc)=some b)
variable (xgn:∃ Cc,mg "BadFog"=some (.ref Cc)/\∀ c b C,([("BadGround",false),("OffGround",false),("BadFog",true),("BadName",false),("Twice",false),("TooMany",false),("BadHour",false)]:List (Str×Bool)).lookup c=some b->W.nsIn K mainGlobals c=some (some (.ref C))->IsC K C/\W.kitOne K (.ref C) (.ref Cc)=some b)
variable (xfu:∃ Cc,mg "BadHour"=some (.ref Cc)/\∀ c b C,([("BadGround",false),("OffGround",false),("BadFog",false),("BadName",false),("Twice",false),("TooMany",false),("BadHour",true)]:List (Str×Bool)).lookup c=some b->W.nsIn K mainGlobals c=some (some (.ref C))->IsC K C/\W.kitOne K (.ref C) (.ref Cc)=some b)
variable (xdh:mg "ValueError"=none/\∀ c b C,([("BadGround",true),("OffGround",true),("BadFog",true),("BadName",true),("Twice",true),("TooMany",true),("BadHour",true)]:List (Str×Bool)).lookup c=some b->W.nsIn K mainGlobals c=some (some (.ref C))->IsC K C/\W.kitOne K (.ref C) (.type "ValueError")=some b)
variable (xfc:∃ Cc,mg "NoBeacon"=some (.ref Cc)/\∀ c b C,([("BadGround",false),("OffGround",false),("BadFog",false),("BadName",false),("Twice",false),("TooMany",false),("BadHour",false)]:List (Str×Bool)).lookup c=some b->W.nsIn K mainGlobals c=some (some (.ref C))->IsC K C/\W.kitOne K (.ref C) (.ref Cc)=some b)
theorem zcg:zT ["vale","told","e"] ["vale"] (zK zeX):=zZ
include xu xd1 xee xfs xf9 xgv xd4 xgn xfu xdh xfc in
theorem zi4 (F:Fun K "_law_told" "_law_told" zeX f fd):zY P w K mg base CX0 10 f fd ["vale"] (upF K Dp.zbJ):=by
  refine z8 (b:=Dp.zdx) F zcg Dp.ziQ Dp.zi1 (fun cdv A outer s H E hr=>?_)
  unfold Dp.zdx
  exact (zq (zF (i:=1) zcg.nd (zab zp))
 (zq (znh (i:=2) rfl rfl zcg.nd rfl rfl rfl xee (fun _ _ ex hX=>(zy (za3 (zcx xd1 hX hr (za (zm 0) zp))))) (fun _=>(zq (zF (i:=1) zcg.nd (zab (za (zc6 rfl xu (zcN (pv 2)) rfl xfs) (za (zc6 rfl xu (zcN (pv 2)) rfl xf9) (za (zc6 rfl xu (zcN (pv 2)) rfl xgv) (za (zc6 rfl xu (zcN (pv 2)) rfl xd4) zp))))))
 (zq (zF (i:=1) zcg.nd (zQ (zm 1) (zab (za (zc6 rfl xu (zcN (pv 2)) rfl xgn) (za (zc6 rfl xu (zcN (pv 2)) rfl xfu) (za (znz rfl xu (zcN (pv 2)) rfl xdh (by decide +kernel)) zp))))))
 (zy (za3 (zkd PySem.F.slot_list_append PySem.F.type_list_append zdZ (zm 1) (za (zc6 rfl xu (zcN (pv 2)) rfl xfc) zp))))))))
 (zy (zU (zm 1)))))
variable (xbr:Got P w K mg base 10 "_law_told" ["vale"] (upF K Dp.zbJ))
theorem zfR:zT ["cell","some"] ["cell"] (zK zeu):=zZ
include xq xg in
theorem zjc (F:Fun K "_law_text" "_law_text" zeu f fd):zY P w K mg base CX0 2 f fd ["cell"] (upF K Dp.zcf):=by
  refine z8 (b:=Dp.zdF) F zfR Dp.zhW Dp.ziX (fun cdv A outer s H E hr=>?_)
  unfold Dp.zdF
  exact (zq (zF (i:=1) zfR.nd (zab (za z6 (za z6 (za z6 (za z6 (za z6 (za z6 (za z6 (za z6 (za z6 (za z6 (za z6 (za z6 zp))))))))))))))
 (zy (zU (zA (zm 1) (zE xg hr (za (zm 0) (za zf (za (zae z9 xq boot_len (za (zm 1) zp)) zp))))))))
variable (xf7:Got P w K mg base 2 "_law_text" ["cell"] (upF K Dp.zcf))
theorem zg8:zT ["text"] ["text"] (zK zds):=zZ
include xq in
theorem zgZ (F:Fun K "_law_is_name" "_law_is_name" zds f fd):zY P w K mg base CX0 1 f fd ["text"] (upF K Dp.zbr):=by
  refine z8 (b:=Dp.zcn) F zg8 Dp.zgs Dp.zha (fun cdv A outer s H E hr=>?_)
  unfold Dp.zcn
  exact (zq (zV (za4 (zcL (zR (zaV hr) (zae z9 xq boot_len (za (zm 0) zp)) zf) (zcC (zR zc8 (zae z9 xq boot_len (za (zm 0) zp)) zf)))) (zy (zU zdD)) zP)
 (zy (zU (zcF (zaV hr) (zae z9 xq boot_len (za (zc9 (own:=["sign"]) (free:=[]) (fv:=[]) True.intro True.intro (zb2 (zm 0)) ⟨(zaf 0 (by decide)),fun _ _ _ _ _=>(zaq (i:=0) (show List.Nodup (["sign"]:List Str) by decide +kernel) rfl (Or.inl rfl) (Or.inr rfl))⟩ (fun _ _ _ _ _=>(zmN (zfD (zlk hr) (zm 0) z6))) (fun _ _ _ _ _=>(zm 0))) zp)) zf))))
variable (xde:Got P w K mg base 1 "_law_is_name" ["text"] (upF K Dp.zbr))
theorem zdc:zT ["vale","one","beacons","mists"] ["vale"] (zK zen):=zZ
include xr xbr in
theorem ziU (F:Fun K "_law_full" "_law_full" zen f fd):zY P w K mg base CX0 11 f fd ["vale"] (upF K Dp.zcj):=by
  refine z8 (b:=Dp.zdB) F zdc Dp.zia Dp.ziY (fun cdv A outer s H E hr=>?_)
  unfold Dp.zdB
  exact (zq (zF (i:=1) zdc.nd (zaa (za (zA (zA (zA (zm 0) zf) zf) zf) (za (zA (zA (zA (zm 0) zf) zf) zf) zp))))
 (zq (zdS (i:=2) zdc.nd (own:=["k"]) (free:=["one"]) (fv:=[1]) ⟨rfl,True.intro⟩ ⟨rfl,rfl,rfl,True.intro⟩ (zbI xr (za zf zp)) ⟨(zaf 0 (by decide)),fun _ _ _ _ _=>(zaq (i:=0) (show List.Nodup (["k","one"]:List Str) by decide +kernel) rfl (Or.inl rfl) (Or.inr rfl))⟩ (fun _ _ _ _ _=>zaN) (fun _ _ _ _ _=>(zaa (za (zA z6 (zm 0)) (za (zA (zm 1) zf) (za (zQ (zA (zm 1) zf) (zm 0)) zp))))))
 (zq (zdS (i:=3) zdc.nd (own:=["k"]) (free:=[]) (fv:=[]) True.intro True.intro (zbI xr (za zf zp)) ⟨(zaf 0 (by decide)),fun _ _ _ _ _=>(zaq (i:=0) (show List.Nodup (["k"]:List Str) by decide +kernel) rfl (Or.inl rfl) (Or.inr rfl))⟩ (fun _ _ _ _ _=>zaN) (fun _ _ _ _ _=>(zaa (za zf (za zf (za zf (za zf (za (zm 0) (za (zm 0) (za zf (za zf zp)))))))))))
 (zy (zU (zcF (zaV hr) (zE xbr hr (za (zaa (za (zA (zm 0) zf) (za (zm 2) (za (zm 3) (za zf (za (zA (zm 0) zf) (za (zA (zm 0) zf) (za zf zp)))))))) zp)) (zab zp)))))))
variable (xft:Got P w K mg base 11 "_law_full" ["vale"] (upF K Dp.zcj))
theorem zb0:zT ["script","vale","head","kinds","kind","due","told","cell","text"] ["script"] (zK zdE):=zZ
include xbq xg xr xf6 xd7 xgo xci xbr xf7 xde xft in
theorem znX (F:Fun K "law" "law" zdE f fd):zY P w K mg base CX0 12 f fd ["script"] (upF K Dp.zdQ):=by
  refine z8 (b:=Dp.zhN) F zb0 Dp.zm4 Dp.zpp (fun cdv A outer s H E hr=>?_)
  unfold Dp.zhN
  exact (zq (zF (i:=1) zb0.nd (zE xf6 hr (za (zm 0) (za zf (za zf (za zf zp))))))
 (zq (zF (i:=2) zb0.nd (zE xbq hr (za (zm 0) (za zf zp))))
 (zq (zF (i:=3) zb0.nd (zab (za (zE xg hr (za (zm 2) (za zf (za zf zp)))) (za (zE xg hr (za (zm 2) (za zf (za zf zp)))) zp))))
 (zq (zbu (zV (zR (zaV hr) (zA (zm 3) zf) (zA (zm 3) zf)) (zy (zF (i:=3) zb0.nd (zcT (zm 3) zbH (za7 zf)))) zP))
 (zq (zcD (zb2 (zm 3)) (zau (i:=4) zb0.nd) (zy (zF (i:=1) zb0.nd (zE xd7 hr (za (zm 4) (za (zE xbq hr (za (zm 0) (za (zQ zf (zm 4)) zp))) (za (zm 1) zp)))))))
 (zq (zF (i:=5) zb0.nd (zE xgo hr (za (zm 3) (za (zm 1) zp))))
 (zq (zF (i:=6) zb0.nd (zE xbr hr (za (zm 1) zp)))
 (zq (zV (za4 (zcL (za4 (zc1 (zR (zaV hr) (zm 5) zf) (zcv (zR (zgF hr) (zm 6) (zab zp))))) (zcC (za4 (zc1 (zR zca (zm 5) zf) (zcv (zR (zgF hr) (zm 6) (zQ (zc9 (own:=["k"]) (free:=["due"]) (fv:=[5]) ⟨rfl,True.intro⟩ ⟨rfl,rfl,rfl,True.intro⟩ (zbI xr (za zf zp)) ⟨(zaf 0 (by decide)),fun _ _ _ _ _=>(zaq (i:=0) (show List.Nodup (["k","due"]:List Str) by decide +kernel) rfl (Or.inl rfl) (Or.inr rfl))⟩ (fun _ _ _ _ _=>zaN) (fun _ _ _ _ _=>(zcF (zaV hr) (zm 0) (zm 1)))) (zab (za zdD (za zdD zp))))))))))) (zy (zU zdD)) zP)
 (zq (zcD (zb2 (zcT (zm 0) zbH (za7 zf))) (zau (i:=7) zb0.nd) (zq (zF (i:=8) zb0.nd (zE xf7 hr (za (zm 7) zp)))
 (zy (zV (zR (zgF hr) (zE xci hr (za (zm 8) zp)) (zE xde hr (za (zm 8) zp))) (zy (zU zdD)) zP))))
 (zy (zU (zE xft hr (za (zm 1) zp)))))))))))))
end
theorem all_mk {l:W.OpenLaw}{w:World}{K:W.Frag}{h:Heap}{mg:Str->Option Value}{fa:Addr}(X:K.In h)(G:h.Ns mainGlobals mg)(hfa:mg "law"=some (.ref fa))
  {xkt xkg xkm xiv xi8 xjh xi7 xir xkd xjs xiz xka xg4 xgx xke xhc xk0 xkw xht xjv xje xjg xks xhp xj7 xkp xhs xhe xjb xjw xj5 xis xjm:Addr}{xkr xj9 xkf xit xi9 xji xi4 xiu xkj xjo xi1 xj8 xg3 xgz xkh xhf xk1 xkx xhv xjt xjf xjd xkq xhr xj2 xkn xhq xhg xi0 xjp xjk xiq xj4:FuncData}
  {xim xii:Option Addr} {xig:Array (Option Value)} {xia xh8 xid xh5 xgs xil:Value} {xdj:Addr} {xao:Addr}
  {xic xib:Option Addr} {xih:Array (Option Value)} {xie xh7 xik xh6 xgt xio:Value} {xdi:Addr} {xab:Addr}
  {xk2 xkb:Option Addr} {xk5:Array (Option Value)} {xk4 xkk xkc xkl xi6 xki:Value} {xj6:Addr}
  {xaz:Addr}
  {xam:Addr}
  {xaa:Addr}
  {xag:Addr}
  {xae:Addr}
  {xal:Addr}
  {xad:Addr}
  {xac:Addr}
  {xa4:Addr}
  {xhu:Tok} {xh0:Tok} {xhy:Tok} {xi5:Tok} {xhz:Tok} {xjy:Tok} {xj0:Tok} {xkz:Tok} {xko:Tok} {xk3:Tok} {xky:Tok} {xku:Tok} {xkv:Tok}
  (xg6:FH K "_law_at" zfW xkt xkr)
  (xgh:FH K "_law_mix" zff xkg xj9)
  (xgj:FH K "_law_far" zfj xkm xkf)
  (xdd:FH K "_law_corners" zdr xiv xit)
  (xdv:FH K "_law_folded" zdP xi8 xi9)
  (xfd:FH K "_law_names" zec xjh xji)
  (xd5:FH K "_law_height" zdT xi7 xi4)
  (xdm:FH K "_law_beacons" zdu xir xiu)
  (xgk:FH K "_law_fog" ze9 xkd xkj)
  (xfv:FH K "_law_vale" zeR xjs xjo)
  (xeb:FH K "_law_spoilt" zdI xiz xi1)
  (xge:FH K "_law_due" zfa xka xj8)
  (xat:FH K "refuse_bad_corners" zbz xg4 xg3)
  (xby:W.nsIn K mainGlobals "Ground"=some (some (.ref xao))) (xfq:K.lookup xdj=some ⟨xia,xim,.func (W.fnOf "__init__" "Ground.__init__" (za9 zba) (zaD zba) (zK zba) .none xh8 xid xh5 xii xgs xil),xig⟩) (xfm:W.codeIn K xgs "Ground.__init__"=true) (xfk:W.keepIn K (.ref xdj)=true)
  (xey:W.makesIn K xao=true) (xe2:W.findIn K (.ref xao) "__init__"=some (some (.ref xdj))) (xem:W.isFn K (.ref xdj)=true) (xet:W.keepIn K (.ref xao)=true) (xe9:W.plainGet K xao Str.empty=true) (xer:W.hasDictIn K xao=true) (xe5:W.plainOver K xao=true) (xeh:W.findIn K (.ref xao) "__setattr__"=some (some (.builtin "object.__setattr__"))) (xel:W.findIn K (.ref xao) "corners"=some none)
  (xau:FH K "refuse_bad_numbers" zbv xgx xgz)
  (xgf:FH K "is_name" zfd xke xkh)
  (xa8:FH K "refuse_bad_names" zb1 xhc xhf)
  (xh4:FH K "less" zid xk0 xk1)
  (xhl:FH K "is_on" zgS xkw xkx)
  (xbw:FH K "common_divisor" zcu xht xhv)
  (xfy:FH K "fraction" zem xjv xjt)
  (xfa:FH K "height_on" zd7 xje xjf)
  (xfg:FH K "ground_at" zd6 xjg xjd)
  (xgy:FH K "stands" zf7 xks xkq)
  (xbe:FH K "refuse_bad_tops" zce xhp xhr)
  (xfr:FH K "is_whole" zet xj7 xj2)
  (xg2:FH K "is_fog" zfU xkp xkn)
  (xbh:FH K "refuse_bad_fogs" zcb xhs xhq)
  (xa7:FH K "refuse_bad_hours" zbQ xhe xhg)
  (xah:W.nsIn K mainGlobals "Valley"=some (some (.ref xab))) (xfp:K.lookup xdi=some ⟨xie,xic,.func (W.fnOf "__init__" "Valley.__init__" (za9 zbb) (zaD zbb) (zK zbb) .none xh7 xik xh6 xib xgt xio),xih⟩) (xfo:W.codeIn K xgt "Valley.__init__"=true) (xfn:W.keepIn K (.ref xdi)=true)
  (xe1:W.makesIn K xab=true) (xeq:W.findIn K (.ref xab) "__init__"=some (some (.ref xdi))) (xez:W.isFn K (.ref xdi)=true) (xeo:W.keepIn K (.ref xab)=true) (xex:W.plainGet K xab Str.empty=true) (xe4:W.hasDictIn K xab=true) (xe8:W.plainOver K xab=true) (xen:W.findIn K (.ref xab) "__setattr__"=some (some (.builtin "object.__setattr__"))) (xev:W.findIn K (.ref xab) "ground"=some none) (xeu:W.findIn K (.ref xab) "beacons"=some none) (xew:W.findIn K (.ref xab) "fogs"=some none) (xeg:W.findIn K (.ref xab) "haze"=some none) (xes:W.findIn K (.ref xab) "first"=some none) (xef:W.findIn K (.ref xab) "last"=some none) (xe3:W.findIn K (.ref xab) "delay"=some none)
  (xd6:FH K "_law_valley" zdL xjb xi0)
  (xf4:FH K "_law_told" zeX xjw xjp)
  (xfw:FH K "_law_text" zeu xj5 xjk)
  (xdl:FH K "_law_is_name" zds xis xiq)
  (xf3:FH K "_law_full" zen xjm xj4)
  (xjx:W.nsIn K mainGlobals "law"=some (some (.ref xj6))) (xju:K.lookup xj6=some ⟨xk4,xk2,.func (W.fnOf "law" "law" (za9 zdE) (zaD zdE) (zK zdE) .none xkk xkc xkl xkb xi6 xki),xk5⟩) (xjr:W.codeIn K xi6 "law"=true) (xjz:W.keepIn K (.ref xj6)=true)
  (xgr:W.nsIn K mainGlobals "ValeError"=some (some (.ref xaz))) (xan:W.nsIn K mainGlobals "BadGround"=some (some (.ref xam))) (xaq:isIn K xam=true) (xaf:W.nsIn K mainGlobals "OffGround"=some (some (.ref xaa))) (xgq:zft K xaa=true) (xar:isIn K xaa=true) (xap:W.nsIn K mainGlobals "BadFog"=some (some (.ref xag))) (xhw:zft K xag=true) (xba:isIn K xag=true) (xak:W.nsIn K mainGlobals "BadName"=some (some (.ref xae))) (xhk:zft K xae=true) (xay:isIn K xae=true) (xas:W.nsIn K mainGlobals "Twice"=some (some (.ref xal))) (xin:zft K xal=true) (xbz:isIn K xal=true) (xai:W.nsIn K mainGlobals "TooMany"=some (some (.ref xad))) (xhb:zft K xad=true) (xax:isIn K xad=true) (xaj:W.nsIn K mainGlobals "BadHour"=some (some (.ref xac))) (xhj:zft K xac=true) (xa0:isIn K xac=true) (xgw:W.nsIn K mainGlobals "NoBeacon"=some (some (.ref xa4))) (xbm:W.exmOne K (.ref xam) (.ref xaz)=some true) (xb2:W.kitOne K (.ref xam) (.ref xad)=some false) (xb5:W.kitOne K (.ref xam) (.ref xae)=some false) (xc8:W.kitOne K (.ref xam) (.ref xal)=some false) (xbk:W.kitOne K (.ref xam) (.ref xaa)=some false) (xcp:W.kitOne K (.ref xam) (.ref xag)=some false) (xb1:W.kitOne K (.ref xam) (.ref xac)=some false) (xbb:W.kitOne K (.ref xam) (.type "ValueError")=some true) (xbp:W.kitOne K (.ref xam) (.ref xa4)=some false) (xbl:W.exmOne K (.ref xaa) (.ref xaz)=some true) (xb3:W.kitOne K (.ref xaa) (.ref xad)=some false) (xb6:W.kitOne K (.ref xaa) (.ref xae)=some false) (xc5:W.kitOne K (.ref xaa) (.ref xal)=some false) (xbj:W.kitOne K (.ref xaa) (.ref xaa)=some true) (xck:W.kitOne K (.ref xaa) (.ref xag)=some false) (xb9:W.kitOne K (.ref xaa) (.ref xac)=some false) (xa9:W.kitOne K (.ref xaa) (.type "ValueError")=some true) (xbs:W.kitOne K (.ref xaa) (.ref xa4)=some false) (xcg:W.exmOne K (.ref xag) (.ref xaz)=some true) (xdn:W.kitOne K (.ref xag) (.ref xad)=some false) (xdq:W.kitOne K (.ref xag) (.ref xae)=some false) (xep:W.kitOne K (.ref xag) (.ref xal)=some false) (xch:W.kitOne K (.ref xag) (.ref xaa)=some false) (xec:W.kitOne K (.ref xag) (.ref xag)=some true) (xdp:W.kitOne K (.ref xag) (.ref xac)=some false) (xb7:W.kitOne K (.ref xag) (.type "ValueError")=some true) (xcz:W.kitOne K (.ref xag) (.ref xa4)=some false) (xb0:W.exmOne K (.ref xae) (.ref xaz)=some true) (xc1:W.kitOne K (.ref xae) (.ref xad)=some false) (xdb:W.kitOne K (.ref xae) (.ref xae)=some true) (xd9:W.kitOne K (.ref xae) (.ref xal)=some false) (xcc:W.kitOne K (.ref xae) (.ref xaa)=some false) (xds:W.kitOne K (.ref xae) (.ref xag)=some false) (xc9:W.kitOne K (.ref xae) (.ref xac)=some false) (xbo:W.kitOne K (.ref xae) (.type "ValueError")=some true) (xcn:W.kitOne K (.ref xae) (.ref xa4)=some false) (xc6:W.exmOne K (.ref xal) (.ref xaz)=some true) (xea:W.kitOne K (.ref xal) (.ref xad)=some false) (xdz:W.kitOne K (.ref xal) (.ref xae)=some false) (xfl:W.kitOne K (.ref xal) (.ref xal)=some true) (xcy:W.kitOne K (.ref xal) (.ref xaa)=some false) (xei:W.kitOne K (.ref xal) (.ref xag)=some false) (xdx:W.kitOne K (.ref xal) (.ref xac)=some false) (xco:W.kitOne K (.ref xal) (.type "ValueError")=some true) (xdt:W.kitOne K (.ref xal) (.ref xa4)=some false) (xb8:W.exmOne K (.ref xad) (.ref xaz)=some true) (xc3:W.kitOne K (.ref xad) (.ref xad)=some true) (xc4:W.kitOne K (.ref xad) (.ref xae)=some false) (xd8:W.kitOne K (.ref xad) (.ref xal)=some false) (xca:W.kitOne K (.ref xad) (.ref xaa)=some false) (xdr:W.kitOne K (.ref xad) (.ref xag)=some false) (xc2:W.kitOne K (.ref xad) (.ref xac)=some false) (xbu:W.kitOne K (.ref xad) (.type "ValueError")=some true) (xcm:W.kitOne K (.ref xad) (.ref xa4)=some false) (xcb:W.exmOne K (.ref xac) (.ref xaz)=some true) (xc7:W.kitOne K (.ref xac) (.ref xad)=some false) (xdc:W.kitOne K (.ref xac) (.ref xae)=some false) (xd2:W.kitOne K (.ref xac) (.ref xal)=some false) (xb4:W.kitOne K (.ref xac) (.ref xaa)=some false) (xdu:W.kitOne K (.ref xac) (.ref xag)=some false) (xda:W.kitOne K (.ref xac) (.ref xac)=some true) (xbt:W.kitOne K (.ref xac) (.type "ValueError")=some true) (xcl:W.kitOne K (.ref xac) (.ref xa4)=some false) (xga:W.nsIn K mainGlobals "ValueError"=some none)
  (xjj:W.nsIn K mainGlobals "len"=some none) (xij:W.nsIn K mainGlobals "range"=some none) (xjq:W.nsIn K mainGlobals "abs"=some none) (xjn:W.nsIn K mainGlobals "int"=some none) (xjc:W.nsIn K mainGlobals "list"=some none) (xj3:W.nsIn K mainGlobals "all"=some none) (xj1:W.nsIn K mainGlobals "set"=some none) (xgb:W.nsIn K mainGlobals "isinstance"=some none) (xiy:W.nsIn K mainGlobals "bool"=some none) (xif:W.nsIn K mainGlobals "tuple"=some none)
  (xd3:W.nsIn K mainGlobals "LEAST_CORNERS"=some (some (.int 2 xhu))) (xe7:W.nsIn K mainGlobals "MOST_CORNERS"=some (some (.int 40 xh0))) (xej:W.nsIn K mainGlobals "MOST_BEACONS"=some (some (.int 12 xhy))) (xgp:W.nsIn K mainGlobals "MOST_FOGS"=some (some (.int 12 xi5))) (xe6:W.nsIn K mainGlobals "MOST_LETTERS"=some (some (.int 8 xhz))) (xhd:W.nsIn K mainGlobals "LETTERS"=some (some (.str "abcdefghijklmnopqrstuvwxyz" xjy))) (xhh:W.nsIn K mainGlobals "NUMBERS"=some (some (.int 8 xj0))) (xja:W.nsIn K mainGlobals "LEFT"=some (some (.int 0 xkz))) (xip:W.nsIn K mainGlobals "RIGHT"=some (some (.int 1 xko))) (xjl:W.nsIn K mainGlobals "LOW"=some (some (.int 2 xk3))) (xi3:W.nsIn K mainGlobals "HIGH"=some (some (.int 3 xky))) (xh9:W.nsIn K mainGlobals "FIRST"=some (some (.int 4 xku))) (xi2:W.nsIn K mainGlobals "LAST"=some (some (.int 5 xkv))) :
  ∃ fd:FuncData,(∀ (s:Shared) (v:Value),BindsTo s fd ⟨[v],[]⟩ [("script",v)])/\∀ base:Heap,K.In base->base.Ns mainGlobals mg->zY l.prog w K mg base CX0 12 fa fd ["script"] (upF K Dp.zdQ):=by
 have e:=hfa.symm.trans (W.mg_of X G xjx)
 cases e
 have xbd:∀ C,W.nsIn K mainGlobals "Ground"=some (some (.ref C))->zah K C "corners":=fun C hC=>by
  rw [xby] at hC;cases hC;exact xel
 have xg9:=zgB (st:=zba) xfq xfm xfk
 have zbc:=xg9.binds (ps:=["self","corners"]) fun _ _ _ _ _ _ us hl=>by obtain⟨_,_,rfl⟩:=zjW hl;rfl
 have xbx:∀ C,W.nsIn K mainGlobals "Valley"=some (some (.ref C))->zah K C "ground":=fun C hC=>by
  rw [xah] at hC;cases hC;exact xev
 have xbc:∀ C,W.nsIn K mainGlobals "Valley"=some (some (.ref C))->zah K C "beacons":=fun C hC=>by
  rw [xah] at hC;cases hC;exact xeu
 have xcs:∀ C,W.nsIn K mainGlobals "Valley"=some (some (.ref C))->zah K C "fogs":=fun C hC=>by
  rw [xah] at hC;cases hC;exact xew
 have xct:∀ C,W.nsIn K mainGlobals "Valley"=some (some (.ref C))->zah K C "haze":=fun C hC=>by
  rw [xah] at hC;cases hC;exact xeg
 have xcf:∀ C,W.nsIn K mainGlobals "Valley"=some (some (.ref C))->zah K C "first":=fun C hC=>by
  rw [xah] at hC;cases hC;exact xes
 have xcr:∀ C,W.nsIn K mainGlobals "Valley"=some (some (.ref C))->zah K C "last":=fun C hC=>by
  rw [xah] at hC;cases hC;exact xef
 have xce:∀ C,W.nsIn K mainGlobals "Valley"=some (some (.ref C))->zah K C "delay":=fun C hC=>by
  rw [xah] at hC;cases hC;exact xe3
 have xha:=zgB (st:=zbb) xfp xfo xfn
 have za8:=xha.binds (ps:=["self","ground","beacons","fogs","haze","first","last","delay"]) fun _ _ _ _ _ _ us hl=>by obtain⟨_,_,_,_,_,_,_,_,rfl⟩:=zpC hl;rfl
 have xk6:=zgB (st:=zdE) xju xjr xjz
 have xed:∀ C,W.nsIn K mainGlobals "TooMany"=some (some (.ref C))->ExC K C:=fun C h=>by
  rw [xai] at h;cases h;exact ExC.of xhb
 have xdw:∃ C,W.nsIn K mainGlobals "TooMany"=some (some (.ref C))/\mg "TooMany"=some (.ref C):=⟨_,xai,W.mg_of X G xai⟩
 have xfx:∀ C,W.nsIn K mainGlobals "BadName"=some (some (.ref C))->ExC K C:=fun C h=>by
  rw [xak] at h;cases h;exact ExC.of xhk
 have xfz:∃ C,W.nsIn K mainGlobals "BadName"=some (some (.ref C))/\mg "BadName"=some (.ref C):=⟨_,xak,W.mg_of X G xak⟩
 have xg1:∀ C,W.nsIn K mainGlobals "Twice"=some (some (.ref C))->ExC K C:=fun C h=>by
  rw [xas] at h;cases h;exact ExC.of xin
 have xg0:∃ C,W.nsIn K mainGlobals "Twice"=some (some (.ref C))/\mg "Twice"=some (.ref C):=⟨_,xas,W.mg_of X G xas⟩
 have xa3:∀ C,W.nsIn K mainGlobals "OffGround"=some (some (.ref C))->ExC K C:=fun C h=>by
  rw [xaf] at h;cases h;exact ExC.of xgq
 have xa2:∃ C,W.nsIn K mainGlobals "OffGround"=some (some (.ref C))/\mg "OffGround"=some (.ref C):=⟨_,xaf,W.mg_of X G xaf⟩
 have xgd:∀ C,W.nsIn K mainGlobals "BadFog"=some (some (.ref C))->ExC K C:=fun C h=>by
  rw [xap] at h;cases h;exact ExC.of xhw
 have xgc:∃ C,W.nsIn K mainGlobals "BadFog"=some (some (.ref C))/\mg "BadFog"=some (.ref C):=⟨_,xap,W.mg_of X G xap⟩
 have xcx:∀ C,W.nsIn K mainGlobals "BadHour"=some (some (.ref C))->ExC K C:=fun C h=>by
  rw [xaj] at h;cases h;exact ExC.of xhj
 have xcw:∃ C,W.nsIn K mainGlobals "BadHour"=some (some (.ref C))/\mg "BadHour"=some (.ref C):=⟨_,xaj,W.mg_of X G xaj⟩
 have xee:∃ Cc,mg "ValeError"=some (.ref Cc)/\∀ c C,(["BadGround","OffGround","BadFog","BadName","Twice","TooMany","BadHour"]:List Str).contains c=true->W.nsIn K mainGlobals c=some (some (.ref C))->W.exmOne K (.ref C) (.ref Cc)=some true:=by
  refine⟨_,W.mg_of X G xgr,fun c C h hn=>?_⟩
  rcases zbR h with rfl | h
  ·rw [xan] at hn;cases hn;exact xbm
  rcases zbR h with rfl | h
  ·rw [xaf] at hn;cases hn;exact xbl
  rcases zbR h with rfl | h
  ·rw [xap] at hn;cases hn;exact xcg
  rcases zbR h with rfl | h
  ·rw [xak] at hn;cases hn;exact xb0
  rcases zbR h with rfl | h
  ·rw [xas] at hn;cases hn;exact xc6
  rcases zbR h with rfl | h
  ·rw [xai] at hn;cases hn;exact xb8
  rcases zbR h with rfl | h
  ·rw [xaj] at hn;cases hn;exact xcb
  cases h
 have xfs:∃ Cc,mg "TooMany"=some (.ref Cc)/\∀ c b C,([("BadGround",false),("OffGround",false),("BadFog",false),("BadName",false),("Twice",false),("TooMany",true),("BadHour",false)]:List (Str×Bool)).lookup c=some b->W.nsIn K mainGlobals c=some (some (.ref C))->IsC K C/\W.kitOne K (.ref C) (.ref Cc)=some b:=by
  refine⟨_,W.mg_of X G xai,fun c b C h hn=>?_⟩
  rcases zM h with ⟨rfl,rfl⟩ | h
  ·rw [xan] at hn;cases hn;exact⟨IsC.of xaq,xb2⟩
  rcases zM h with ⟨rfl,rfl⟩ | h
  ·rw [xaf] at hn;cases hn;exact⟨IsC.of xar,xb3⟩
  rcases zM h with ⟨rfl,rfl⟩ | h
  ·rw [xap] at hn;cases hn;exact⟨IsC.of xba,xdn⟩
  rcases zM h with ⟨rfl,rfl⟩ | h
  ·rw [xak] at hn;cases hn;exact⟨IsC.of xay,xc1⟩
  rcases zM h with ⟨rfl,rfl⟩ | h
  ·rw [xas] at hn;cases hn;exact⟨IsC.of xbz,xea⟩
  rcases zM h with ⟨rfl,rfl⟩ | h
  ·rw [xai] at hn;cases hn;exact⟨IsC.of xax,xc3⟩
  rcases zM h with ⟨rfl,rfl⟩ | h
  ·rw [xaj] at hn;cases hn;exact⟨IsC.of xa0,xc7⟩
  cases h
 have xf9:∃ Cc,mg "BadName"=some (.ref Cc)/\∀ c b C,([("BadGround",false),("OffGround",false),("BadFog",false),("BadName",true),("Twice",false),("TooMany",false),("BadHour",false)]:List (Str×Bool)).lookup c=some b->W.nsIn K mainGlobals c=some (some (.ref C))->IsC K C/\W.kitOne K (.ref C) (.ref Cc)=some b:=by
  refine⟨_,W.mg_of X G xak,fun c b C h hn=>?_⟩
  rcases zM h with ⟨rfl,rfl⟩ | h
  ·rw [xan] at hn;cases hn;exact⟨IsC.of xaq,xb5⟩
  rcases zM h with ⟨rfl,rfl⟩ | h
  ·rw [xaf] at hn;cases hn;exact⟨IsC.of xar,xb6⟩
  rcases zM h with ⟨rfl,rfl⟩ | h
  ·rw [xap] at hn;cases hn;exact⟨IsC.of xba,xdq⟩
  rcases zM h with ⟨rfl,rfl⟩ | h
  ·rw [xak] at hn;cases hn;exact⟨IsC.of xay,xdb⟩
  rcases zM h with ⟨rfl,rfl⟩ | h
  ·rw [xas] at hn;cases hn;exact⟨IsC.of xbz,xdz⟩
  rcases zM h with ⟨rfl,rfl⟩ | h
  ·rw [xai] at hn;cases hn;exact⟨IsC.of xax,xc4⟩
  rcases zM h with ⟨rfl,rfl⟩ | h
  ·rw [xaj] at hn;cases hn;exact⟨IsC.of xa0,xdc⟩
  cases h
 have xgv:∃ Cc,mg "Twice"=some (.ref Cc)/\∀ c b C,([("BadGround",false),("OffGround",false),("BadFog",false),("BadName",false),("Twice",true),("TooMany",false),("BadHour",false)]:List (Str×Bool)).lookup c=some b->W.nsIn K mainGlobals c=some (some (.ref C))->IsC K C/\W.kitOne K (.ref C) (.ref Cc)=some b:=by
  refine⟨_,W.mg_of X G xas,fun c b C h hn=>?_⟩
  rcases zM h with ⟨rfl,rfl⟩ | h
  ·rw [xan] at hn;cases hn;exact⟨IsC.of xaq,xc8⟩
  rcases zM h with ⟨rfl,rfl⟩ | h
  ·rw [xaf] at hn;cases hn;exact⟨IsC.of xar,xc5⟩
  rcases zM h with ⟨rfl,rfl⟩ | h
  ·rw [xap] at hn;cases hn;exact⟨IsC.of xba,xep⟩
  rcases zM h with ⟨rfl,rfl⟩ | h
  ·rw [xak] at hn;cases hn;exact⟨IsC.of xay,xd9⟩
  rcases zM h with ⟨rfl,rfl⟩ | h
  ·rw [xas] at hn;cases hn;exact⟨IsC.of xbz,xfl⟩
  rcases zM h with ⟨rfl,rfl⟩ | h
  ·rw [xai] at hn;cases hn;exact⟨IsC.of xax,xd8⟩
  rcases zM h with ⟨rfl,rfl⟩ | h
  ·rw [xaj] at hn;cases hn;exact⟨IsC.of xa0,xd2⟩
  cases h
 have xd4:∃ Cc,mg "OffGround"=some (.ref Cc)/\∀ c b C,([("BadGround",false),("OffGround",true),("BadFog",false),("BadName",false),("Twice",false),("TooMany",false),("BadHour",false)]:List (Str×Bool)).lookup c=some b->W.nsIn K mainGlobals c=some (some (.ref C))->IsC K C/\W.kitOne K (.ref C) (.ref Cc)=some b:=by
  refine⟨_,W.mg_of X G xaf,fun c b C h hn=>?_⟩
  rcases zM h with ⟨rfl,rfl⟩ | h
  ·rw [xan] at hn;cases hn;exact⟨IsC.of xaq,xbk⟩
  rcases zM h with ⟨rfl,rfl⟩ | h
  ·rw [xaf] at hn;cases hn;exact⟨IsC.of xar,xbj⟩
  rcases zM h with ⟨rfl,rfl⟩ | h
  ·rw [xap] at hn;cases hn;exact⟨IsC.of xba,xch⟩
  rcases zM h with ⟨rfl,rfl⟩ | h
  ·rw [xak] at hn;cases hn;exact⟨IsC.of xay,xcc⟩
  rcases zM h with ⟨rfl,rfl⟩ | h
  ·rw [xas] at hn;cases hn;exact⟨IsC.of xbz,xcy⟩
  rcases zM h with ⟨rfl,rfl⟩ | h
  ·rw [xai] at hn;cases hn;exact⟨IsC.of xax,xca⟩
  rcases zM h with ⟨rfl,rfl⟩ | h
  ·rw [xaj] at hn;cases hn;exact⟨IsC.of xa0,xb4⟩
  cases h
 have xgn:∃ Cc,mg "BadFog"=some (.ref Cc)/\∀ c b C,([("BadGround",false),("OffGround",false),("BadFog",true),("BadName",false),("Twice",false),("TooMany",false),("BadHour",false)]:List (Str×Bool)).lookup c=some b->W.nsIn K mainGlobals c=some (some (.ref C))->IsC K C/\W.kitOne K (.ref C) (.ref Cc)=some b:=by
  refine⟨_,W.mg_of X G xap,fun c b C h hn=>?_⟩
  rcases zM h with ⟨rfl,rfl⟩ | h
  ·rw [xan] at hn;cases hn;exact⟨IsC.of xaq,xcp⟩
  rcases zM h with ⟨rfl,rfl⟩ | h
  ·rw [xaf] at hn;cases hn;exact⟨IsC.of xar,xck⟩
  rcases zM h with ⟨rfl,rfl⟩ | h
  ·rw [xap] at hn;cases hn;exact⟨IsC.of xba,xec⟩
  rcases zM h with ⟨rfl,rfl⟩ | h
  ·rw [xak] at hn;cases hn;exact⟨IsC.of xay,xds⟩
  rcases zM h with ⟨rfl,rfl⟩ | h
  ·rw [xas] at hn;cases hn;exact⟨IsC.of xbz,xei⟩
  rcases zM h with ⟨rfl,rfl⟩ | h
  ·rw [xai] at hn;cases hn;exact⟨IsC.of xax,xdr⟩
  rcases zM h with ⟨rfl,rfl⟩ | h
  ·rw [xaj] at hn;cases hn;exact⟨IsC.of xa0,xdu⟩
  cases h
 have xfu:∃ Cc,mg "BadHour"=some (.ref Cc)/\∀ c b C,([("BadGround",false),("OffGround",false),("BadFog",false),("BadName",false),("Twice",false),("TooMany",false),("BadHour",true)]:List (Str×Bool)).lookup c=some b->W.nsIn K mainGlobals c=some (some (.ref C))->IsC K C/\W.kitOne K (.ref C) (.ref Cc)=some b:=by
  refine⟨_,W.mg_of X G xaj,fun c b C h hn=>?_⟩
  rcases zM h with ⟨rfl,rfl⟩ | h
  ·rw [xan] at hn;cases hn;exact⟨IsC.of xaq,xb1⟩
  rcases zM h with ⟨rfl,rfl⟩ | h
  ·rw [xaf] at hn;cases hn;exact⟨IsC.of xar,xb9⟩
  rcases zM h with ⟨rfl,rfl⟩ | h
  ·rw [xap] at hn;cases hn;exact⟨IsC.of xba,xdp⟩
  rcases zM h with ⟨rfl,rfl⟩ | h
  ·rw [xak] at hn;cases hn;exact⟨IsC.of xay,xc9⟩
  rcases zM h with ⟨rfl,rfl⟩ | h
  ·rw [xas] at hn;cases hn;exact⟨IsC.of xbz,xdx⟩
  rcases zM h with ⟨rfl,rfl⟩ | h
  ·rw [xai] at hn;cases hn;exact⟨IsC.of xax,xc2⟩
  rcases zM h with ⟨rfl,rfl⟩ | h
  ·rw [xaj] at hn;cases hn;exact⟨IsC.of xa0,xda⟩
  cases h
 have xdh:mg "ValueError"=none/\∀ c b C,([("BadGround",true),("OffGround",true),("BadFog",true),("BadName",true),("Twice",true),("TooMany",true),("BadHour",true)]:List (Str×Bool)).lookup c=some b->W.nsIn K mainGlobals c=some (some (.ref C))->IsC K C/\W.kitOne K (.ref C) (.type "ValueError")=some b:=by
  refine⟨W.mg_none_of X G xga,fun c b C h hn=>?_⟩
  rcases zM h with ⟨rfl,rfl⟩ | h
  ·rw [xan] at hn;cases hn;exact⟨IsC.of xaq,xbb⟩
  rcases zM h with ⟨rfl,rfl⟩ | h
  ·rw [xaf] at hn;cases hn;exact⟨IsC.of xar,xa9⟩
  rcases zM h with ⟨rfl,rfl⟩ | h
  ·rw [xap] at hn;cases hn;exact⟨IsC.of xba,xb7⟩
  rcases zM h with ⟨rfl,rfl⟩ | h
  ·rw [xak] at hn;cases hn;exact⟨IsC.of xay,xbo⟩
  rcases zM h with ⟨rfl,rfl⟩ | h
  ·rw [xas] at hn;cases hn;exact⟨IsC.of xbz,xco⟩
  rcases zM h with ⟨rfl,rfl⟩ | h
  ·rw [xai] at hn;cases hn;exact⟨IsC.of xax,xbu⟩
  rcases zM h with ⟨rfl,rfl⟩ | h
  ·rw [xaj] at hn;cases hn;exact⟨IsC.of xa0,xbt⟩
  cases h
 have xfc:∃ Cc,mg "NoBeacon"=some (.ref Cc)/\∀ c b C,([("BadGround",false),("OffGround",false),("BadFog",false),("BadName",false),("Twice",false),("TooMany",false),("BadHour",false)]:List (Str×Bool)).lookup c=some b->W.nsIn K mainGlobals c=some (some (.ref C))->IsC K C/\W.kitOne K (.ref C) (.ref Cc)=some b:=by
  refine⟨_,W.mg_of X G xgw,fun c b C h hn=>?_⟩
  rcases zM h with ⟨rfl,rfl⟩ | h
  ·rw [xan] at hn;cases hn;exact⟨IsC.of xaq,xbp⟩
  rcases zM h with ⟨rfl,rfl⟩ | h
  ·rw [xaf] at hn;cases hn;exact⟨IsC.of xar,xbs⟩
  rcases zM h with ⟨rfl,rfl⟩ | h
  ·rw [xap] at hn;cases hn;exact⟨IsC.of xba,xcz⟩
  rcases zM h with ⟨rfl,rfl⟩ | h
  ·rw [xak] at hn;cases hn;exact⟨IsC.of xay,xcn⟩
  rcases zM h with ⟨rfl,rfl⟩ | h
  ·rw [xas] at hn;cases hn;exact⟨IsC.of xbz,xdt⟩
  rcases zM h with ⟨rfl,rfl⟩ | h
  ·rw [xai] at hn;cases hn;exact⟨IsC.of xax,xcm⟩
  rcases zM h with ⟨rfl,rfl⟩ | h
  ·rw [xaj] at hn;cases hn;exact⟨IsC.of xa0,xcl⟩
  cases h
 have xq:=W.mg_none_of X G xjj
 have xr:=W.mg_none_of X G xij
 have xgi:=W.mg_none_of X G xjq
 have xg8:=W.mg_none_of X G xjn
 have xbn:=W.mg_none_of X G xjc
 have xbi:=W.mg_none_of X G xj3
 have xix:=W.mg_none_of X G xj1
 have xu:=W.mg_none_of X G xgb
 have xh1:=W.mg_none_of X G xiy
 have xho:=W.mg_none_of X G xif
 have xcd:∃ t,mg "LEAST_CORNERS"=some (.int 2 t):=⟨_,W.mg_of X G xd3⟩
 have xcv:∃ t,mg "MOST_CORNERS"=some (.int 40 t):=⟨_,W.mg_of X G xe7⟩
 have xcq:∃ t,mg "MOST_BEACONS"=some (.int 12 t):=⟨_,W.mg_of X G xej⟩
 have xfb:∃ t,mg "MOST_FOGS"=some (.int 12 t):=⟨_,W.mg_of X G xgp⟩
 have xcu:∃ t,mg "MOST_LETTERS"=some (.int 8 t):=⟨_,W.mg_of X G xe6⟩
 have xgm:∃ t,mg "LETTERS"=some (.str "abcdefghijklmnopqrstuvwxyz" t):=⟨_,W.mg_of X G xhd⟩
 have xgl:∃ t,mg "NUMBERS"=some (.int 8 t):=⟨_,W.mg_of X G xhh⟩
 have xhx:∃ t,mg "LEFT"=some (.int 0 t):=⟨_,W.mg_of X G xja⟩
 have xhm:∃ t,mg "RIGHT"=some (.int 1 t):=⟨_,W.mg_of X G xip⟩
 have xiw:∃ t,mg "LOW"=some (.int 2 t):=⟨_,W.mg_of X G xjl⟩
 have xh2:∃ t,mg "HIGH"=some (.int 3 t):=⟨_,W.mg_of X G xi3⟩
 have xhn:∃ t,mg "FIRST"=some (.int 4 t):=⟨_,W.mg_of X G xh9⟩
 have xh3:∃ t,mg "LAST"=some (.int 5 t):=⟨_,W.mg_of X G xi2⟩
 refine⟨W.fnOf "law" "law" (za9 zdE) (zaD zdE) (zK zdE) .none xkk xkc xkl xkb xi6 xki,fun s v=>.of_eq rfl,fun base _ _=>?_⟩
 have xbq:=zai l.prog w base X G xg6 (zkK xq xg6.F)
 have xg:=zai l.prog w base X G xgh (zke xgh.F)
 have xfj:=zai l.prog w base X G xgj (zjU xg xgj.F)
 have xdf:=zai l.prog w base X G xdd (zhh xg xfj xr xdd.F)
 have xd0:=zai l.prog w base X G xdv (zhB xq xr xdv.F)
 have xfh:=zai l.prog w base X G xfd (zh6 xg xr xfd.F)
 have xdy:=zai l.prog w base X G xd5 (zhH xq xr xd5.F)
 have xdk:=zai l.prog w base X G xdm (zgY xq xg xr xdy xdm.F)
 have xgg:=zai l.prog w base X G xgk (zjM xq xg xgi xgk.F)
 have xf6:=zai l.prog w base X G xfv (ziZ xq xbq xg xr xdf xd0 xfh xdk xgg xfv.F)
 have xd7:=zai l.prog w base X G xeb (zhC xq xg xr xg8 xeb.F)
 have xgo:=zai l.prog w base X G xge (zki xq xge.F)
 have xaw:=zai l.prog w base X G xat (zek xq xr xcd xcv xat.F)
 have xdo:zjV l.prog w K mg base 2 "Ground" (upF K Dp.zd1):=⟨⟨_,_,_,_,_,⟨xey,xe2,xem,xet⟩,zhf xaw xbd xbn xg9,zbc,W.mg_of X G xby,zmW ⟨xe9,xer,xe5,xeh⟩ xby⟩⟩
 have xav:=zc4 l.prog w base X G xau (zej xq xcq xfb xed xdw xau.F)
 have xci:=zai l.prog w base X G xgf (zjH xq xcu xgm xbi xgf.F)
 have xa6:=zc4 l.prog w base X G xa8 (ze2 xq xbi xci xix xfx xfz xg1 xg0 xa8.F)
 have xcj:=zai l.prog w base X G xh4 (znF xh4.F)
 have xek:=zai l.prog w base X G xhl (zlT xcj xhl.F)
 have xbv:=zai l.prog w base X G xbw (zfL xgi xbw.F)
 have xf5:=zai l.prog w base X G xfy (zi0 xbv xfy.F)
 have xfi:=zai l.prog w base X G xfa (zh2 xf5 xfa.F)
 have xfe:=zc4 l.prog w base X G xfg (zis xcj xek xfi xa3 xa2 xfg.F)
 have xgu:=zai l.prog w base X G xgy (zkR xcj xek xfe xgy.F)
 have xbf:=zc4 l.prog w base X G xbe (zfn xbi xa3 xa2 xgu xbe.F)
 have xf2:=zai l.prog w base X G xfr (zja xg8 xu xh1 xfr.F)
 have xg7:=zai l.prog w base X G xg2 (zle xq xbi xu xf2 xgl xhx xhm xiw xh2 xhn xh3 xho xg2.F)
 have xbg:=zc4 l.prog w base X G xbh (ze6 xbi xg7 xgd xgc xbh.F)
 have xa5:=zc4 l.prog w base X G xa7 (ze5 xcx xcw xa7.F)
 have xg5:zjG l.prog w K mg base 7 "Valley" "Valley" Dp.za0:=⟨⟨_,_,_,_,⟨xe1,xeq,xez,xeo⟩,zg1 xbn xdo xav xa6 xbf xbg xa5 xbx xbc xcs xct xcf xcr xce xha,za8,W.mg_of X G xah,⟨xex,xe4,xe8,xen⟩,xah⟩⟩
 have xd1:=zc4 l.prog w base X G xd6 (zhy xbn xdo xg5 xd6.F)
 have xbr:=zai l.prog w base X G xf4 (zi4 xu xd1 xee xfs xf9 xgv xd4 xgn xfu xdh xfc xf4.F)
 have xf7:=zai l.prog w base X G xfw (zjc xq xg xfw.F)
 have xde:=zai l.prog w base X G xdl (zgZ xq xdl.F)
 have xft:=zai l.prog w base X G xf3 (ziU xr xbr xf3.F)
 exact znX xbq xg xr xf6 xd7 xgo xci xbr xf7 xde xft xk6
theorem walk {l:W.OpenLaw}{q:Program}{loose:List Str}{XP:(Str->Option Value)->Heap->Prop}{YP:World->Heap->Prop}{d:DefRec}{K:Params->W.Frag}(hn:l.most=some 63)(hdf:d.params.defaults=[])
  (hY:∀ (w:World) (h:Heap),YP w h->(K w.params).In h)
  (F:∀ (w:World) (mg:Str->Option Value) (fa:Addr) (h:Heap),(K w.params).In h->h.Ns mainGlobals mg->mg d.name=some (.ref fa) ->
   ∃ fd:FuncData,(∀ (s:Shared) (u:Value),BindsTo s fd ⟨[u],[]⟩ [("script",u)])/\∀ base:Heap,(K w.params).In base->base.Ns mainGlobals mg->zY l.prog w (K w.params) mg base CX0 12 fa fd ["script"] (upF (K w.params) Dp.zdQ)) :
  W.WalkO q loose XP YP l.row.toRowW d [] (fun f vs=>PySem.call f vs) :=
 Dp.zll (n:=63) (k:=12) (x:="script") (sp:=fun w=>upF (K w.params) Dp.zdQ) hn (by decide) hdf ⟨rfl,by decide,by decide⟩ hY F fun _ _ _ _ hl hg hO hS=>zoZ hl hg hO hS
end Law
local macro_rules | `(tactic| walk_at "fh")=>`(tactic| (refine' Dp.zpD ?fa ?fl ?fc ?fk;(case fa=>k_is);(case fl=>k_is);(case fc=>k_is);(case fk=>k_is)))
open PySem PySem.W PyProof.Rows
namespace PySem.W.Fast
def tw14857927543174003444:=()
def tw15657669157011953289:=()
def tw18226181570621673376:=()
def tw12844848935965662884:=()
def tw723441644037578211:=()
def tw6781686783789592001:=()
def tw15157736504541646621:=()
def tw11560731596411702939:=()
def tw13542048854025459755:=()
def tw11604840102753035959:=()
def tw12773477530358719495:=()
def tw10706291412030910468:=()
def tw13015728355552006574:=()
def tw12167055860926556979:=()
def tw132998661946174204:=()
def tw989588027538970996:=()
def tw2274810126974181806:=()
def tw9753930248371901439:=()
def tw15750437553353132689:=()
def tw16135869162054146213:=()
def tw11820204904724003407:=()
def tw4443713609233038362:=()
def tw8838876702434423893:=()
def tw8883884796128418693:=()
def tw14268163479277360863:=()
def tw12510611423342700570:=()
def tw12497124144910828813:=()
def tw2614474200584694251:=()
def tw31102108654613368:=()
def tw13465844881416760254:=()
def tw8528991983640790938:=()
def tw1076106906174148866:=()
def tw6966907720505825882:=()
def tw11012252131431963000:=()
def tw8407265721784664321:=()
def tw6946333203551446678:=()
def tw6688537504483176432:=()
def tw16180354227183670730:=()
def tw16390383768246763290:=()
def tw18188930734382245454:=()
def tw8687967217345092945:=()
def tw10975704902731530674:=()
def tw7829026816970927445:=()
def tw10232196117592440570:=()
def tw17815872547840777897:=()
def tw13822870580164331816:=()
def tw15778004483890802427:=()
def tw11476634165568594152:=()
def tw11933474087302002663:=()
def tw5188016465576581853:=()
def tw11366690411555202819:=()
def tw14191166640945233139:=()
def tw1952657885148273413:=()
def tw10627817477126029791:=()
def tw8949259944613714669:=()
def tw4934638801104542213:=()
def tw11646124525417994328:=()
def tw3104603625497835163:=()
def tw1768396766717512866:=()
def tw16651335760311328697:=()
def tw5425612330517665084:=()
def tw2601270725589854459:=()
def tw17024407018627168438:=()
def tw10321666721740576147:=()
def tw9794479847257066228:=()
def tw8226093719106038837:=()
def tw5076360608286766572:=()
def tw9117142845866979606:=()
def tw14954771931255561181:=()
def tw9975681075671582297:=()
def tw10941780159134344646:=()
def tw9570188610021094876:=()
def tw15911061998529120515:=()
def tw2390050706946750944:=()
def tw7314425004207763753:=()
def tw12579440833166028060:=()
def tw15668578617476288521:=()
def tw8388999395178151671:=()
def tw958389163627711456:=()
def tw15070543283743785062:=()
def tw11762039946328324282:=()
def tw18110193208411318874:=()
def tw11556941916710559127:=()
def tw11341992048535224756:=()
def tw4117291137278781679:=()
def tw1446018205097022784:=()
def tw17230014482166607834:=()
def tw2275579325738287118:=()
def tw5195936963302179487:=()
def tw16276779029016276497:=()
def tw946395636070734038:=()
def tw12123295083841103109:=()
def tw4228187507193281309:=()
def tw4299677773479256041:=()
def tw13047907799848386980:=()
def tw17555846783624595904:=()
def tw9505985551130905964:=()
def tw14655590008041370365:=()
def tw11240212723905777157:=()
def tw11066565736667715614:=()
def tw3051688870042444489:=()
def tw3581610136929710272:=()
def tw13746941117152153621:=()
def tw15183571776601294324:=()
def tw13902105363306700581:=()
def tw8103995928388628446:=()
def tw10158359954337569892:=()
def tw11813592709017167933:=()
end PySem.W.Fast
set_option maxRecDepth 100000 in
set_option maxHeartbeats 0 in
theorem PySem.Challenge.cw_beaconvale_k41_valleys_refused_holds : PySem.Challenge.rw_beaconvale_k41_valleys_refused.Holds := by
 w_on; o_law; k_head; (case hw => w_witness2)
 k_fill
 refine Law.walk (l := PySem.Challenge.rw_beaconvale_k41_valleys_refused) rfl rfl (fun w h Y => PySem.W.kIn_of Y) ?F
 case F =>
  intro w mg fa h KX G hmg
  refine' Law.all_mk KX G hmg ?ah ?ai ?aj ?ak ?aq ?ar ?aw ?ax ?ay ?aA ?aB ?aC ?aD ?aE ?aF ?aG ?aH ?aI ?aJ ?aK ?aL ?aM ?aN ?aO ?aP ?aQ ?aR ?aS ?aT ?aU ?aV ?aW ?aX ?aY ?aZ ?a9 ?be ?bi ?bj ?bn ?bq ?bt ?bu ?bv ?bw ?bA ?bC ?bD ?bE ?bG ?bH ?bI ?bJ ?bK ?bL ?bM ?bN ?bO ?bP ?bQ ?bR ?bS ?bU ?bV ?bW ?bX ?bY ?bZ ?b7 ?b8 ?b9 ?ce ?cf ?cg ?ci ?cj ?ck ?cn ?cq ?cr ?cu ?cw ?cx ?cy ?cz ?cA ?cB ?cC ?cD ?cE ?cF ?cG ?cH ?cI ?cJ ?cK ?cL ?cM ?cN ?cO ?cP ?cQ ?cR ?cS ?cT ?cU ?cV ?cW ?cX ?cY ?cZ ?c6 ?c7 ?c8 ?c9 ?da ?db ?dc ?df ?dg ?dh ?di ?dj ?dm ?dq ?du ?dw ?dz ?dA ?dD ?dE ?dF ?dG ?dH ?dI ?dJ ?dL ?dN ?dO ?dP ?dQ ?dR ?dS ?dU ?dW ?dX ?dY ?dZ ?d7 ?d8 ?d9 ?ec ?ee ?eg ?eh ?ek ?eo ?er ?et ?eA ?eC ?eD ?eE ?eF ?eG ?eH ?eI ?eJ ?eK ?eL ?eM ?eN ?eO ?eP ?eQ ?eR ?eS ?eU
  case b8|b9|cf|cj|cq|cw|cz|cC|cF|aE|bt|aJ|bC=>k_is
  case ah|ai|aj|ak|aq|ar|aw|ax|ay|aA|aB|aC|aD=>walk_at "fh"
  case aF|aG|aH|aI|aK|aL|aM|aN|aO|aP|aQ=>k_is
  case aR|aS|aT|aU|aV|aW|aX|aY|aZ|a9|be|bi|bj|bn|bq=>walk_at "fh"
  case bu|bv|bw|bA|bD|bE|bG|bH|bI|bJ|bK|bL|bM|bN|bO|bP|bQ=>k_is
  case bR|bS|bU|bV|bW=>walk_at "fh"
  case bX|bY|bZ|b7=>k_is
  case ce|cg|ci|ck|cn|cr|cu|cx|cy|cA|cB|cD|cE|cG|cH|cI|cJ|cK|cL|cM|cN|cO|cP|cQ|cR|cS|cT|cU|cV|cW|cX|cY|cZ|c6|c7|c8|c9|da|db|dc|df|dg|dh|di|dj|dm|dq|du|dw|dz|dA|dD|dE|dF|dG|dH|dI|dJ|dL|dN|dO|dP|dQ|dR|dS|dU|dW|dX|dY|dZ|d7|d8|d9|ec|ee|eg=>kernel_rfl
  case eh|ek|eo|er|et|eA|eC|eD|eE|eF|eG|eH|eI|eJ|eK|eL|eM|eN|eO|eP|eQ|eR|eS|eU=>k_is
#print axioms PySem.Challenge.cw_beaconvale_k41_valleys_refused_holds
