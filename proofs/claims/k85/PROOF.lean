import PyProof.Rows.All
import Wide.All
import OpenK.AllK
import Wide.FinOn
import Lean
import PyProof.EqAt
import PyProof.EqKinds
import PyProof.TupleCall
import PyProof.NeData
import PyProof.P3Eq
import PyProof.StrLawsIn
import PyProof.StrLawsJoin
import PyProof.StrBlockL
import PySem.Challenge.RW_beaconvale_k85_valleys_written
set_option Elab.async false
set_option linter.all false
set_option maxRecDepth 100000
set_option maxHeartbeats 4000000
set_option Elab.async false
set_option linter.all false
set_option maxRecDepth 100000
namespace L2
open PySem PySem.Spec PyProof.Rows
abbrev Key:=Sum Int Str
def zk1:Key->Value->Bool
 | .inl k,v=>Value.isInt k v
 | .inr x,v=>Value.isStrOf x v
def zpm (w:World):Key->Int
 | .inl k=>hashInt k
 | .inr x=>hashStr w x
theorem zaB:∀ {k:Key} {v:Value},zk1 k v=true->(∃ i t,k=Sum.inl i/\v=Value.int i t)\/(∃ x t,k=Sum.inr x/\v=Value.str x t)
 | .inl i,v,h=>by
  obtain⟨t,e⟩:=Value.isInt_shape (k:=i) (v:=v) h
  exact .inl ⟨i,t,rfl,e⟩
 | .inr x,v,h=>by
  obtain⟨t,e⟩:=Value.isStrOf_shape (x:=x) (v:=v) h
  exact .inr ⟨x,t,rfl,e⟩
theorem znA (a b:Int):decide ((Sum.inl a:Key)=Sum.inl b)=(a==b):=by
 by_cases e:a=b
 ·subst e;simp
 ·have h:¬ (Sum.inl a:Key)=Sum.inl b:=fun q=>e (Sum.inl.inj q)
  rw [decide_eq_false h]
  exact (beq_eq_false_iff_ne.mpr e).symm
theorem zl3 (a b:Str):decide ((Sum.inr a:Key)=Sum.inr b)=decide (a=b):=by
 by_cases e:a=b
 ·subst e;simp
 ·have h:¬ (Sum.inr a:Key)=Sum.inr b:=fun q=>e (Sum.inr.inj q)
  rw [decide_eq_false h,decide_eq_false e]
theorem zmA (a:Int)(b:Str):decide ((Sum.inl a:Key)=Sum.inr b)=false:=decide_eq_false (fun q=>nomatch q)
theorem zma (a:Str)(b:Int):decide ((Sum.inr a:Key)=Sum.inl b)=false:=decide_eq_false (fun q=>nomatch q)
def zik (prog:Program)(w:World):PySem.KeyKind prog w Key where
  is:=zk1
  hash:=zpm w
  inj:=fun v a b ha hb=>by
    rcases zaB ha with ⟨i,t,rfl,rfl⟩ | ⟨x,t,rfl,rfl⟩
    · rcases zaB hb with ⟨j,u,rfl,e⟩ | ⟨y,u,rfl,e⟩
      · injection e with e1 _;rw [e1]
      · exact nomatch e
    · rcases zaB hb with ⟨j,u,rfl,e⟩ | ⟨y,u,rfl,e⟩
      · exact nomatch e
      · injection e with e1 _;rw [e1]
  byValue:=fun k v h=>by
    rcases zaB h with ⟨i,t,rfl,rfl⟩ | ⟨x,t,rfl,rfl⟩<;>rfl
  pyHash:=fun hv h=>by
    rcases zaB hv with ⟨i,t,rfl,rfl⟩ | ⟨x,t,rfl,rfl⟩
    · exact wpAny_pyHash_int h
    · exact wpAny_pyHash_str h
  eqBool:=fun hu hv h=>by
    rcases zaB hu with ⟨i,t,rfl,rfl⟩ | ⟨x,t,rfl,rfl⟩
    · rcases zaB hv with ⟨j,u,rfl,rfl⟩ | ⟨y,u,rfl,rfl⟩
      · rw [znA] at h;exact wpAny_eqBool_int h
      · rw [zmA] at h;exact SeqAt.EqAt.int_str i t y u _ _ _ _ h
    · rcases zaB hv with ⟨j,u,rfl,rfl⟩ | ⟨y,u,rfl,rfl⟩
      · rw [zma] at h;exact SeqAt.EqAt.str_int x t j u _ _ _ _ h
      · rw [zl3] at h;exact wpAny_eqBool_str h
  «strs»:=fun k x t v h=>by
    rcases zaB h with ⟨i,u,rfl,e⟩ | ⟨y,u,rfl,e⟩
    · exact nomatch e
    · injection e with e1 _
      subst e1
      cases v<;>rfl
inductive V where
 | non | bl (b:Bool) | int (i:Int) | str (x:Str) | byt (b:Array UInt8) | flt (b:UInt64) | ref (a:Addr) | ty (n:String)
 deriving DecidableEq
def RelV:V->Value->Prop
 | .non,u=>u=Value.none
 | .bl b,u=>u=Value.bool b
 | .int i,u=>∃ t,u=Value.int i t
 | .str x,u=>∃ t,u=Value.str x t
 | .byt b,u=>∃ t,u=Value.bytes b t
 | .flt b,u=>∃ t,u=Value.float b t
 | .ref a,u=>u=Value.ref a
 | .ty n,u=>u=Value.type n
abbrev Vals:List V->List Value->Prop:=Paired RelV
theorem Vals.length {xs:List V}{us:List Value}(r:Vals xs us):xs.length=us.length:=Paired.length r
theorem Vals.get:∀ {xs:List V} {us:List Value} {i:Nat} {x:V},Vals xs us->xs[i]?=some x->∃ u,us[i]?=some u/\RelV x u
 | _,_,_,_,.nil,e=>by simp at e
 | _,_,0,_,.cons r _,e=>by simp at e;subst e;exact⟨_,rfl,r⟩
 | _,_,i+1,x,.cons _ t,e=>by
  obtain⟨u,h1,h2⟩:=Vals.get (i:=i) (x:=x) t (by simpa using e)
  exact⟨u,by simpa using h1,h2⟩
theorem Vals.set {x:V}{u:Value}(r:RelV x u):∀ {xs:List V} {us:List Value} (i:Nat),Vals xs us->Vals (xs.set i x) (us.set i u)
 | _,_,_,.nil=>.nil
 | _,_,0,.cons _ t=>.cons r t
 | _,_,i+1,.cons q t=>.cons q (Vals.set r i t)
theorem Vals.append:∀ {xs ys:List V} {us ws:List Value},Vals xs us->Vals ys ws->Vals (xs++ys) (us++ws)
 | _,_,_,_,.nil,s=>s
 | _,_,_,_,.cons r t,s=>.cons r (Vals.append t s)
def zfl:Option V->Option Value->Prop
 | some v,some u=>RelV v u
 | none,none=>True
 | _,_=>False
def KV {κ:Type}:List (κ×V)->List (κ×Value)->Prop:=Paired fun (p:κ×V) (q:κ×Value)=>p.1=q.1/\RelV p.2 q.2
def kV:Key->V
 | .inl i=>.int i
 | .inr x=>.str x
inductive HO where
 | lst (xs:List V)
 | tup (xs:List V)
 | dK (kvs:List (Key×V)) | dT (kvs:List (List Key×V))
 | set (S:Int->Bool) (n:Nat)
 | ins (C dx:Addr) (fs:List (Str×V))
 | own (x:Addr)
 | xd (fs:List (Str×V))
 | met (f x:Addr)
 | rng (lo hi:Int)
 | frz (o:Obj) (u:HO)
 | tbl (ps:Array Value)
 | ext (φ:Heap->Prop)
abbrev Hp:=Addr->Option HO
def upd (H:Hp)(a:Addr)(o:HO):Hp:=fun b=>if b=a then some o else H b
theorem zbk {H:Hp}{a:Addr}{o:HO}:upd H a o a=some o:=by unfold upd;rw [if_pos rfl]
theorem zQ {H:Hp}{a b:Addr}{o:HO}(h:b≠a):upd H a o b=H b:=by unfold upd;rw [if_neg h]
theorem zeR {H:Hp}{a b:Addr}{o u:HO}(h:H a=some o)(h':H b=some u)(d:o≠u):a≠b:=by
 intro e;subst e;rw [h] at h';exact d (Option.some.inj h')
theorem zaN {H:Hp}{a b:Addr}{o:HO}(h:H a=some o)(h':H b=none):a≠b:=by
 intro e;subst e;rw [h] at h';cases h'
section
variable (P:Program)(w:World)
def zaP (H:Hp)(h:Heap)(a:Addr):HO->Prop
 | .lst xs=>xs.length<=sizeLine/\∃ (its:List Value) (n:Nat),Vals xs its/\h.get? a=some { cls:=.type "list",data:=.seq its.toArray n }
 | .tup xs=>xs.length<=sizeLine/\∃ its:List Value,Vals xs its/\IsTup h a its.toArray
 | .dK kvs=>kvs.length<=sizeLine/\(a==sysModules)=false/\∃ vs,KV kvs vs/\h.DictOf (zik P w) a vs
 | .dT kvs=>kvs.length<=sizeLine/\(a==sysModules)=false/\∃ xs:List (List Key×Addr×Value),
   Paired (fun (p:List Key×V) (q:List Key×Addr×Value)=>p.1=q.1/\H q.2.1=some (.tup (p.1.map kV))/\RelV p.2 q.2.2) kvs xs /\
   ∃ o es ep,h.get? a=some o/\o.ExactDict/\o.data=.dict es ep/\es.toList=xs.map (entryOfKey (tupleKind (zik P w)))/\(xs.map (·.1)).Nodup
 | .set S n=>h.SetOf (intKind P w) a S n
 | .ins C dx fs=>H dx=some (.own a)/\fs.length<=1000/\dx≠a/\h.get? a=some (PySem.W.instObj C dx) /\
   ∃ mA,h.Ns1 dx mA/\(∀ f,zfl (fs.lookup f) (mA f))/\PySem.Within mA (fs.map (·.1))
 | .own _=>∃ o,h.get? a=some o
 | .xd fs=>∃ mA,h.Ns1 a mA/\∀ f,zfl (fs.lookup f) (mA f)
 | .rng lo hi=>∃ t u v,h.get? a=some { cls:=.type "range",data:=.fields #[.int lo t,.int hi u,.int 1 v] }
 | .frz o u=>h.get? a=some o/\zaP H h a u
 | .tbl ps=>h.get? a=some { cls:=.none,data:=.fields ps }
 | .met f x=>h.get? a=some (PySem.W.methodObj (.ref f) (.ref x))
 | .ext φ=>φ h/\(∃ o,h.get? a=some o)/\∀ h1 h2:Heap,φ h1->(∀ o,h1.get? a=some o->h2.get? a=some o)->φ h2
def HOk (H:Hp)(h:Heap):Prop:=∀ a o,H a=some o->zaP P w H h a o
end
section
variable {P:Program}{w:World}{H H':Hp}{h h':Heap}{a:Addr}{o:HO}
theorem zaP.lt (x:zaP P w H h a o):a<h.objs.size:=by
 cases o with
 | lst xs=>obtain⟨_,_,_,_,e⟩:=x;exact Heap.lt_size e
 | tup xs=>obtain⟨_,_,_,p⟩:=x;exact p.lt
 | dK kvs=>obtain⟨_,_,_,_,o,_,_,e,_⟩:=x;exact Heap.lt_size e
 | dT kvs=>obtain⟨_,_,_,_,o,_,_,e,_⟩:=x;exact Heap.lt_size e
 | set S n=>obtain⟨o,_,_,_,e,_⟩:=x;exact Heap.lt_size e
 | ins C dx fs=>obtain⟨_,_,_,e,_⟩:=x;exact Heap.lt_size e
 | own y=>obtain⟨_,e⟩:=x;exact Heap.lt_size e
 | xd fs=>obtain⟨_,⟨_,_,_,e,_⟩,_⟩:=x;exact Heap.lt_size e
 | rng lo hi=>obtain⟨_,_,_,e⟩:=x;exact Heap.lt_size e
 | frz ob u=>obtain⟨e,_⟩:=x;exact Heap.lt_size e
 | tbl ps=>exact Heap.lt_size (show h.get? a=some _ from x)
 | met f y=>exact Heap.lt_size (show h.get? a=some _ from x)
 | ext φ=>obtain⟨_,⟨_,e⟩,_⟩:=x;exact Heap.lt_size e
theorem Paired.mapP {α β:Type}{F G:α->β->Prop}:∀ {l₁:List α} {l₂:List β},Paired F l₁ l₂->(∀ a b,F a b->G a b)->Paired G l₁ l₂
 | _,_,.nil,_=>.nil
 | _,_,.cons r t,f=>.cons (f _ _ r) (Paired.mapP t f)
theorem zaP.stay (x:zaP P w H h a o)(k:∀ b u,(b=a\/H b=some (.own a))->h.get? b=some u->h'.get? b=some u)
  (ho:∀ b,H b=some (.own a)->H' b=some (.own a)) (ht:∀ b xs,H b=some (.tup xs)->H' b=some (.tup xs)):zaP P w H' h' a o:=by
 induction o with
 | lst xs=>obtain⟨z,its,n,r,e⟩:=x;exact⟨z,its,n,r,k _ _ (.inl rfl) e⟩
 | tup xs=>obtain⟨z,its,r,ob,e,c⟩:=x;exact⟨z,its,r,ob,k _ _ (.inl rfl) e,c⟩
 | dK kvs=>obtain⟨z,y,vs,r,ob,es,ep,e,c⟩:=x;exact⟨z,y,vs,r,ob,es,ep,k _ _ (.inl rfl) e,c⟩
 | dT kvs =>
  obtain⟨z,y,xs,r,ob,es,ep,e,c⟩:=x
  exact⟨z,y,xs,Paired.mapP r fun p q z=>⟨z.1,ht _ _ z.2.1,z.2.2⟩,ob,es,ep,k _ _ (.inl rfl) e,c⟩
 | set S n=>obtain⟨ob,es,ep,t,e,c⟩:=x;exact⟨ob,es,ep,t,k _ _ (.inl rfl) e,c⟩
 | ins C dx fs =>
  obtain⟨d,z,ne,e,mA,⟨od,es,ep,e2,c⟩,r⟩:=x
  exact⟨ho _ d,z,ne,k _ _ (.inl rfl) e,mA,⟨od,es,ep,k _ _ (.inr d) e2,c⟩,r⟩
 | own y=>obtain⟨ob,e⟩:=x;exact⟨ob,k _ _ (.inl rfl) e⟩
 | xd fs=>obtain⟨mA,⟨od,es,ep,e,c⟩,r⟩:=x;exact⟨mA,⟨od,es,ep,k _ _ (.inl rfl) e,c⟩,r⟩
 | rng lo hi=>obtain⟨t,u,v,e⟩:=x;exact⟨t,u,v,k _ _ (.inl rfl) e⟩
 | frz ob u ih=>obtain⟨e,q⟩:=x;exact⟨k _ _ (.inl rfl) e,ih q⟩
 | tbl ps =>
  have e:h.get? a=some { cls:=.none,data:=.fields ps }:=x
  show h'.get? a=some { cls:=.none,data:=.fields ps }
  exact k a _ (.inl rfl) e
 | met f y =>
  have e:h.get? a=some (PySem.W.methodObj (.ref f) (.ref y)):=x
  show h'.get? a=some (PySem.W.methodObj (.ref f) (.ref y))
  exact k a _ (.inl rfl) e
 | ext φ=>obtain⟨p,⟨o,e⟩,st⟩:=x;exact⟨st _ _ p fun o q=>k _ _ (.inl rfl) q,⟨o,k _ _ (.inl rfl) e⟩,st⟩
theorem HOk.lt (x:HOk P w H h)(e:H a=some o):a<h.objs.size:=(x a o e).lt
theorem HOk.fresh (x:HOk P w H h)(e:h.objs.size<=a):H a=none:=by
 cases q:H a with
 | none=>rfl
 | some u=>exact absurd (Nat.lt_of_lt_of_le (x.lt q) e) (Nat.lt_irrefl _)
theorem HOk.kept (x:HOk P w H h)(k:∀ b u,h.get? b=some u->h'.get? b=some u):HOk P w H h':=fun a o e =>
 (x a o e).stay (fun b u _ q=>k b u q) (fun _ q=>q) fun _ _ q=>q
theorem HOk.laid (x:HOk P w H h)(k:∀ b u,h.get? b=some u->h'.get? b=some u)(hp:h.objs.size<=a)(new:zaP P w (upd H a o) h' a o):HOk P w (upd H a o) h':=fun b u e=>by
 have hn:=x.fresh hp
 by_cases hb:b=a
 ·subst hb;rw [zbk] at e;cases e;exact new
 ·rw [zQ hb] at e
  exact (x b u e).stay (fun c v _ q=>k c v q) (fun c q=>by rw [zQ (zaN q hn)];exact q) fun c xs q=>by rw [zQ (zaN q hn)];exact q
end
def Rd (H:Hp)(a:Addr)(u:HO):Prop:=H a=some u\/∃ o,H a=some (.frz o u)
theorem Rd.ok {P:Program}{w:World}{H:Hp}{h:Heap}{a:Addr}{u:HO}(r:Rd H a u)(x:HOk P w H h):zaP P w H h a u:=by
 rcases r with r | ⟨o,r⟩
 ·exact x a u r
 ·obtain⟨_,q⟩:=x a _ r
  exact q
def Mut:Option HO->Prop
 | some (.lst _)=>True
 | some (.dK _)=>True
 | some (.dT _)=>True
 | some (.set _ _)=>True
 | some (.ins _ _ _)=>True
 | some (.ext _)=>True
 | _=>False
section
variable {P:Program}{w:World}{H:Hp}{h h':Heap}{x e:Addr}{o':HO}
theorem HOk.write (ok:HOk P w H h)(mu:Mut (H x))(he:e=x\/H e=some (.own x))(k:∀ b u,b≠e->h.get? b=some u->h'.get? b=some u)(heo:∃ u,h'.get? e=some u)
  (new:zaP P w (upd H x o') h' x o'):HOk P w (upd H x o') h':=fun b u q=>by
 have nown:∀ c y,H c=some (.own y)->c≠x:=fun c y r z=>by subst z;rw [r] at mu;exact mu
 have ntup:∀ c xs,H c=some (.tup xs)->c≠x:=fun c xs r z=>by subst z;rw [r] at mu;exact mu
 by_cases hb:b=x
 ·subst hb;rw [zbk] at q;cases q;exact new
 ·rw [zQ hb] at q
  by_cases hbe:b=e
  ·have q':H b=some (.own x):=by
    rcases he with z | z
    ·exact absurd (hbe.trans z) hb
    ·rw [hbe];exact z
   rw [q] at q';cases q'
   obtain⟨v,hv⟩:=heo
   exact⟨v,by rw [hbe];exact hv⟩
  ·refine (ok b u q).stay (fun c v hc r=>k c v ?_ r) (fun c r=>by rw [zQ (nown c b r)];exact r) fun c xs r=>by rw [zQ (ntup c xs r)];exact r
   rcases hc with rfl | hc
   ·exact hbe
   ·rintro rfl
    rcases he with z | z
    ·exact nown c b hc z
    ·rw [hc] at z;cases z;exact hb rfl
end
structure Un (fs ex:List Addr)(H H':Hp)(h h':Heap):Prop where
 keep:∀ b o,h.get? b=some o->H b=none->b∉fs->b∉ex->h'.get? b=some o
 slot:∀ b o,h.get? b=some o->H b=none->b∈fs->b∉ex->∃ sl,h'.get? b=some { o with slots:=sl }
 free:∀ b o,h.get? b=some o->H b=none->b∉ex->H' b=none
 there:∀ b o,h.get? b=some o->b∉ex->∃ o',h'.get? b=some o'
 tups:∀ b xs,H b=some (.tup xs)->H' b=some (.tup xs)
 frzs:∀ b o u,H b=some (.frz o u)->H' b=some (.frz o u)
 tbls:∀ b ps,H b=some (.tbl ps)->∃ more,H' b=some (.tbl (ps++more))
section
variable {fs fs' ex ex':List Addr}{H H1 H2:Hp}{h h1 h2 h':Heap}{a x e:Addr}{o:HO}
theorem Un.any (u:Un fs ex H H1 h h1){b:Addr}{ob:Obj}(q:h.get? b=some ob)(n:H b=none)(hx:b∉ex):∃ sl,h1.get? b=some { ob with slots:=sl }:=by
 by_cases hb:b∈fs
 ·exact u.slot b ob q n hb hx
 ·exact⟨ob.slots,u.keep b ob q n hb hx⟩
theorem Un.kept (k:∀ b u,h.get? b=some u->h'.get? b=some u):Un fs ex H H h h' :=
 ⟨fun b ob q _ _ _=>k b ob q,fun b ob q _ _ _=>⟨ob.slots,k b ob q⟩,fun _ _ _ n _=>n,fun b ob q _=>⟨ob,k b ob q⟩,fun _ _ q=>q,fun _ _ _ q=>q,fun _ ps q=>⟨#[],by rw [q];simp⟩⟩
theorem Un.refl:Un fs ex H H h h:=Un.kept fun _ _ q=>q
theorem Un.laid (k:∀ b u,h.get? b=some u->h'.get? b=some u)(hp:h.objs.size<=a)(hn:H a=none):Un fs ex H (upd H a o) h h' where
 keep:=fun b u q _ _ _=>k b u q
 slot:=fun b u q _ _ _=>⟨u.slots,k b u q⟩
 free:=fun b u q n _=>by rw [zQ (Nat.ne_of_lt (Nat.lt_of_lt_of_le (Heap.lt_size q) hp))];exact n
 there:=fun b u q _=>⟨u,k b u q⟩
 tups:=fun b xs q=>by rw [zQ (zaN q hn)];exact q
 frzs:=fun b u xs q=>by rw [zQ (zaN q hn)];exact q
 tbls:=fun b ps q=>⟨#[],by rw [zQ (zaN q hn),q];simp⟩
theorem Un.write (mu:Mut (H x))(he:e=x\/H e=some (.own x))(k:∀ b u,b≠e->h.get? b=some u->h'.get? b=some u)(heo:∃ u,h'.get? e=some u):Un fs ex H (upd H x o) h h':=by
 have hx:∀ b,H b=none->b≠x:=fun b n z=>by subst z;rw [n] at mu;exact mu
 have hb:∀ b,H b=none->b≠e:=fun b n z=>by
  subst z
  rcases he with r | r
  ·exact hx b n r
  ·rw [n] at r;cases r
 have hm:∀ b u,H b=some u->¬ Mut (some u)->b≠x:=fun b u q nm z=>by subst z;rw [q] at mu;exact nm mu
 refine⟨fun b u q n _ _=>k b u (hb b n) q,fun b u q n _ _=>⟨u.slots,k b u (hb b n) q⟩,fun b u q n _=>by rw [zQ (hx b n)];exact n,fun b u q _=>?_,
  fun b xs q=>by rw [zQ (hm b _ q fun z=>z)];exact q,fun b u xs q=>by rw [zQ (hm b _ q fun z=>z)];exact q,fun b ps q=>⟨#[],by rw [zQ (hm b _ q fun z=>z),q];simp⟩⟩
 by_cases hbe:b=e
 ·subst hbe;exact heo
 ·exact⟨u,k b u hbe q⟩
end
def trk (h:Heap)(H:Hp):List Addr:=(List.range h.objs.size).filter fun a=>(H a).isSome
def zdZ (h:Heap)(H:Hp):Heap:=PySem.W.hideAll h (trk h H)
theorem zjq (h:Heap)(H:Hp):(zdZ h H).objs.size=h.objs.size:=PySem.W.hideAll_size _ _
theorem zjW {h:Heap}{H:Hp}{b:Addr}{o:Obj}(e:h.get? b=some o)(n:H b=none):(zdZ h H).get? b=some o :=
 PySem.W.hideAll_get _ e fun hm=>by
  have q:(H b).isSome=true:=(List.mem_filter.mp hm).2
  rw [n] at q;simp at q
theorem zls {h:Heap}{H:Hp}{b:Addr}{o:Obj}(e:(zdZ h H).get? b=some o):h.get? b=some o/\H b=none:=by
 have e':h.get? b=some o:=PySem.W.of_hideAll (trk h H) e
 refine⟨e',?_⟩
 cases q:H b with
 | none=>rfl
 | some x =>
  have hm:b∈trk h H:=List.mem_filter.mpr ⟨List.mem_range.mpr (Heap.lt_size e'),by simp [q]⟩
  have z:(zdZ h H).get? b=none:=PySem.W.hideAll_none (trk h H) hm
  rw [z] at e;cases e
def zlD (g h:Heap)(L:Addr):List (Addr×Obj):=(List.range h.objs.size).filterMap fun a=>if a=L\/(g.get? a).isSome=true then none else (h.get? a).map fun o=>(a,o)
def rest (g h:Heap)(L d:Addr):List (Addr×Obj):=(zlD g h L).filter fun p=>decide (p.1≠d)
structure Mod (K:PySem.W.Frag)(mg:Str->Option Value)(base:Heap):Prop where
 kin:K.In base
 glob:base.Ns mainGlobals mg
 blt:∃ mb,base.Ns builtinsNs mb/\∀ x:Str,x≠"__name__"->mb x=bootBuiltins x
 nolimit:base.NoLimit
/-- the context: a def's body (or a comprehension's block) running. base: fixed through the whole law; s₀, H₀: the entry; outer: the frames whose slots others may change (a def's callers); stack: all frames that run;
   ex: iterators that were made ahead of the entry and are walked here (a comprehension's);fn: the names whose cells were made at the entry (a def: all;a comprehension's block: its own);calm: not within an except suite;pn: pins that every state bears;xe: what is wanted of an exception that leaves the code -/
structure Cx where
 prog:Program
 w:World
 K:PySem.W.Frag
 mg:Str->Option Value
 base:Heap
 A:Around
 N:List Str
 s₀:Shared
 H₀:Hp
 env:Env
 outer:List Env
 stack:List Env
 ex:List Addr
 fn:Str->Bool
 calm:Bool
 pn:List (Addr×Obj)
 xe:Value->Shared->Prop
def frs (l:List Env):List Addr:=l.filterMap (·.frame)
abbrev Cx.fs (X:Cx):List Addr:=frs X.outer
def Vis (sc:Scope)(x:Str):Prop:=sc.names.lookup x=some .local\/sc.names.lookup x=some .cell\/sc.names.lookup x=some .free
def Loc (sc:Scope)(x:Str):Prop:=sc.names.lookup x=some .local\/sc.names.lookup x=some .cell
def Look (env:Env)(h:Heap)(m:Str->Option Value)(x:Str)(u:Value):Prop :=
 (env.kindOf x=some .local/\m x=some u)\/((env.kindOf x=some .cell\/env.kindOf x=some .free)/\∃ c,env.cells.lookup x=some c/\h.IsCell c (some u))
structure Cx.Ok (X:Cx):Prop where
 mod:Mod X.K X.mg X.base
 kind:X.env.scope.kind=.function
 glob:X.env.globals=mainGlobals
 blt:X.env.builtins=builtinsNs
 above:X.s₀.heap.objs.size<=X.env.locals
 inj:∀ x y c,X.env.cells.lookup x=some c->X.env.cells.lookup y=some c->x=y
 has:∀ x,(X.env.kindOf x=some .cell\/X.env.kindOf x=some .free)->∃ c,X.env.cells.lookup x=some c
 cab:∀ x c,X.fn x=true->X.env.cells.lookup x=some c->X.s₀.heap.objs.size<=c
 hd:X.calm=true->X.A.handled=none
 frames:X.A.frames=some X.stack
 stk:X.stack=X.outer\/(X.stack=X.env::X.outer/\X.env.frame=some X.env.locals)
 exf:∀ b∈X.ex,b≠X.env.locals/\∀ x c,X.env.cells.lookup x=some c->c≠b
 bs:∀ b o,X.base.get? b=some o->X.s₀.heap.get? b=some o/\X.H₀ b=none
 bsz:X.base.objs.size<=X.s₀.heap.objs.size
 noex:∀ b o,X.base.get? b=some o->b∉X.ex
 exfs:∀ b∈X.ex,b∉X.fs
 funs:X.s₀.heap.FunFrames X.base X.outer
 frf:∀ b∈X.fs,X.H₀ b=none
structure Inv (X:Cx)(pins:List (Addr×Obj))(σ:List (Option V))(H:Hp)(s:Shared):Prop where
 ok:X.Ok
 os:s.os=X.s₀.os
 bare:AllBare s.gens
 base:Un X.fs X.ex X.H₀ H X.s₀.heap s.heap
 loc:∃ m,s.heap.Ns X.env.locals m/\∀ (i:Nat) (x:Str) (v:V),X.N[i]?=some x->σ[i]?=some (some v)->Vis X.env.scope x->∃ u,RelV v u/\Look X.env s.heap m x u
 cell:∀ x c,X.env.cells.lookup x=some c->∃ v,s.heap.IsCell c v
 free:H X.env.locals=none
 freeC:∀ x c,X.env.cells.lookup x=some c->H c=none
 pin:∀ p∈X.pn++pins,s.heap.get? p.1=some p.2/\H p.1=none/\p.1≠X.env.locals/\p.1∉X.fs/\∀ v,p.2.data≠.cell v
 hok:HOk X.prog X.w H s.heap
 len:σ.length=X.N.length
section
variable {X:Cx}{pins:List (Addr×Obj)}{σ:List (Option V)}{H H':Hp}{s:Shared}{h':Heap}
theorem Cx.Ok.nofr (ok:X.Ok){b:Addr}{o:Obj}(e:X.base.get? b=some o):b∉X.fs:=fun hb=>by
 have:=(ok.funs.mem hb).1
 rw [e] at this;cases this
theorem Inv.bs (I:Inv X pins σ H s):∀ b o,X.base.get? b=some o->s.heap.get? b=some o/\H b=none:=fun b o e =>
 ⟨I.base.keep b o (I.ok.bs b o e).1 (I.ok.bs b o e).2 (I.ok.nofr e) (I.ok.noex b o e),I.base.free b o (I.ok.bs b o e).1 (I.ok.bs b o e).2 (I.ok.noex b o e)⟩
theorem Inv.bk (I:Inv X pins σ H s):∀ b o,X.base.get? b=some o->s.heap.get? b=some o:=fun b o e=>(I.bs b o e).1
theorem Inv.mod (I:Inv X pins σ H s):Mod X.K X.mg X.base:=I.ok.mod
theorem Inv.kIn (I:Inv X pins σ H s):X.K.In s.heap:=I.ok.mod.kin.keeps I.bk
theorem Inv.lt (I:Inv X pins σ H s):X.env.locals<s.heap.objs.size:=let ⟨_,hn,_⟩:=I.loc;hn.lt
theorem Inv.sz (I:Inv X pins σ H s):X.s₀.heap.objs.size<=s.heap.objs.size:=Nat.le_trans I.ok.above (Nat.le_of_lt I.lt)
theorem Inv.nofs (I:Inv X pins σ H s){a:Addr}(h:s.heap.objs.size<=a):a∉X.fs:=fun hb=>by
 obtain⟨_,o,ho,_⟩:=I.ok.funs.mem hb
 exact absurd (Nat.lt_of_lt_of_le (Heap.lt_size ho) (Nat.le_trans I.sz h)) (Nat.lt_irrefl _)
theorem Inv.cne (I:Inv X pins σ H s):∀ x c,X.env.cells.lookup x=some c->c≠X.env.locals:=fun x c e z=>by
 obtain⟨v,o,ho,hd⟩:=I.cell x c e
 obtain⟨m,⟨o',es,ep,ho',hd',_⟩,_⟩:=I.loc
 rw [z,ho'] at ho;cases ho;rw [hd'] at hd;cases hd
theorem Inv.funs (I:Inv X pins σ H s):s.heap.FunFrames X.base X.outer:=by
 have all:∀ (l:List Env),(∀ b∈frs l,b∈X.fs)->X.s₀.heap.FunFrames X.base l->s.heap.FunFrames X.base l:=by
  intro l
  induction l with
  | nil=>intro _ _;trivial
  | cons env r ih =>
   intro hs hl
   obtain⟨hk,⟨L,o,hf,hn,ho,hd⟩,hr⟩:=hl
   have hL:L∈X.fs:=hs L (by unfold frs;rw [List.filterMap_cons,hf];exact List.mem_cons_self)
   obtain⟨sl,e⟩:=I.base.slot L o ho (I.ok.frf L hL) hL fun z=>I.ok.exfs L z hL
   exact⟨hk,⟨L,_,hf,hn,e,hd⟩,ih (fun b hb=>hs b (by unfold frs;rw [List.filterMap_cons,hf];exact List.mem_cons_of_mem _ hb)) hr⟩
 exact all X.outer (fun _ hb=>hb) I.ok.funs
theorem Inv.stack (I:Inv X pins σ H s):s.heap.FunFrames X.base X.stack:=by
 rcases I.ok.stk with e | ⟨e,hf⟩
 ·rw [e];exact I.funs
 ·rw [e]
  obtain⟨m,hn,_⟩:=I.loc
  refine .cons (by rw [I.ok.kind];decide) hf hn ?_ I.funs
  exact Heap.get?_none_of_le (Nat.le_trans I.ok.bsz I.ok.above)
theorem Inv.stkSub (I:Inv X pins σ H s):∀ b∈frs X.stack,b∈X.env.locals::X.fs:=fun b hb=>by
 rcases I.ok.stk with e | ⟨e,hf⟩
 ·rw [e] at hb;exact List.mem_cons_of_mem _ hb
 ·rw [e] at hb
  unfold frs at hb
  rw [List.filterMap_cons,hf] at hb
  exact hb
theorem Inv.stkFree (I:Inv X pins σ H s):∀ b∈frs X.stack,H b=none:=fun b hb=>by
 rcases List.mem_cons.mp (I.stkSub b hb) with e | hb
 ·rw [e];exact I.free
 ·obtain⟨_,o,ho,_⟩:=I.ok.funs.mem hb
  exact I.base.free b o ho (I.ok.frf b hb) fun z=>I.ok.exfs b z hb
theorem Inv.step {g':Array GenState}{t':Nat}{d':Drawn}{ch:List Addr}(I:Inv X pins σ H s)
  (hch:∀ b∈ch,(b∈X.ex\/X.s₀.heap.objs.size<=b)/\b≠X.env.locals/\(∀ x c,X.env.cells.lookup x=some c->c≠b)/\∀ p∈X.pn++pins,p.1≠b)
  (keep:∀ b o,b≠X.env.locals->b∉X.fs->b∉ch->s.heap.get? b=some o->H b=none->h'.get? b=some o)
  (slot:∀ b o,b≠X.env.locals->b∈X.fs->b∉ch->s.heap.get? b=some o->H b=none->∃ sl,h'.get? b=some { o with slots:=sl }) (free:∀ b o,b∉ch->s.heap.get? b=some o->H b=none->H' b=none)
  (there:∀ b o,b∉ch->s.heap.get? b=some o->∃ o',h'.get? b=some o')
  (tups:∀ b xs,H b=some (.tup xs)->H' b=some (.tup xs)) (frzs:∀ b o u,H b=some (.frz o u)->H' b=some (.frz o u)) (tbls:∀ b ps,H b=some (.tbl ps)->∃ more,H' b=some (.tbl (ps++more)))
  (ns:∀ m,s.heap.Ns X.env.locals m->h'.Ns X.env.locals m) (hok:HOk X.prog X.w H' h') (hg:AllBare g') :
  Inv X pins σ H' { s with heap:=h',gens:=g',drawn:=d',toks:=t' }:=by
 have neL:∀ b o,X.s₀.heap.get? b=some o->b≠X.env.locals:=fun b o e=>Nat.ne_of_lt (Nat.lt_of_lt_of_le (Heap.lt_size e) I.ok.above)
 have neC:∀ b o,X.s₀.heap.get? b=some o->b∉X.ex->b∉ch:=fun b o e hx hb=>by
  rcases (hch b hb).1 with z | z
  ·exact hx z
  ·exact absurd (Nat.lt_of_lt_of_le (Heap.lt_size e) z) (Nat.lt_irrefl _)
 have cellK:∀ x c,X.env.cells.lookup x=some c->∀ v,s.heap.IsCell c v->h'.IsCell c v:=fun x c e v ⟨o,ho,hd⟩=>by
  have nch:c∉ch:=fun z=>(hch c z).2.2.1 x c e rfl
  by_cases hc:c∈X.fs
  ·obtain⟨sl,q⟩:=slot c o (I.cne x c e) hc nch ho (I.freeC x c e)
   exact⟨_,q,hd⟩
  ·exact⟨o,keep c o (I.cne x c e) hc nch ho (I.freeC x c e),hd⟩
 refine⟨I.ok,I.os,hg,⟨fun b o e n hb hx=>?_,fun b o e n hb hx=>?_,fun b o e n hx=>?_,fun b o e hx=>?_,fun b xs e=>tups b xs (I.base.tups b xs e),fun b o xs e=>frzs b o xs (I.base.frzs b o xs e),fun b ps e=>?_⟩,?_,fun x c e=>?_,?_,fun x c e=>?_,fun p hp=>?_,hok,I.len⟩
 ·exact keep b o (neL b o e) hb (neC b o e hx) (I.base.keep b o e n hb hx) (I.base.free b o e n hx)
 ·obtain⟨sl,e1⟩:=I.base.slot b o e n hb hx
  obtain⟨sl',e2⟩:=slot b _ (neL b o e) hb (neC b o e hx) e1 (I.base.free b o e n hx)
  exact⟨sl',e2⟩
 ·obtain⟨o',e1⟩:=I.base.there b o e hx
  exact free b o' (neC b o e hx) e1 (I.base.free b o e n hx)
 ·obtain⟨o',e1⟩:=I.base.there b o e hx
  exact there b o' (neC b o e hx) e1
 ·obtain⟨m1,e1⟩:=I.base.tbls b ps e
  obtain⟨m2,e2⟩:=tbls b _ e1
  exact⟨m1++m2,by rw [e2,Array.append_assoc]⟩
 ·obtain⟨m,hn,hl⟩:=I.loc
  refine⟨m,ns m hn,fun i x v e1 e2 e3=>?_⟩
  obtain⟨u,r,l⟩:=hl i x v e1 e2 e3
  refine⟨u,r,?_⟩
  rcases l with l | ⟨k,c,e,z⟩
  ·exact .inl l
  ·exact .inr ⟨k,c,e,cellK x c e _ z⟩
 ·obtain⟨v,z⟩:=I.cell x c e
  exact⟨v,cellK x c e v z⟩
 ·obtain⟨m,⟨o,_,_,ho,_⟩,_⟩:=I.loc
  exact free _ o (fun z=>(hch _ z).2.1 rfl) ho I.free
 ·obtain⟨v,o,ho,hd⟩:=I.cell x c e
  exact free c o (fun z=>(hch c z).2.2.1 x c e rfl) ho (I.freeC x c e)
 ·obtain⟨e,n,ne,nf,d⟩:=I.pin p hp
  have nch:p.1∉ch:=fun z=>(hch p.1 z).2.2.2 p hp rfl
  exact⟨keep p.1 p.2 ne nf nch e n,free p.1 p.2 nch e n,ne,nf,d⟩
theorem Inv.un {t':Nat}(I:Inv X pins σ H s)(u:Un X.fs [] H H' s.heap h')(hok:HOk X.prog X.w H' h'):Inv X pins σ H' { s with heap:=h',toks:=t' }:=by
 obtain⟨m,⟨o,es,ep,ho,r⟩,_⟩:=id I.loc
 obtain⟨sl,hL⟩:=u.any ho I.free (by simp)
 exact I.step (g':=s.gens) (d':=s.drawn) (ch:=[]) (fun _ z=>nomatch z) (fun b o _ hb _ e n=>u.keep b o e n hb (by simp)) (fun b o _ hb _ e n=>u.slot b o e n hb (by simp)) (fun b o _ e n=>u.free b o e n (by simp)) (fun b o _ e=>u.there b o e (by simp)) u.tups u.frzs u.tbls (fun m' hm=>by
  obtain⟨o',es',ep',ho',r'⟩:=hm
  rw [ho] at ho';cases ho'
  exact⟨_,es',ep',hL,r'⟩) hok I.bare
theorem Inv.call {g':Array GenState}{t':Nat}{d':Drawn}{ch:List Addr}(I:Inv X pins σ H s)(u:Un (frs X.stack) ch H H' s.heap h')(hok:HOk X.prog X.w H' h')(hg:AllBare g')
  (hch:∀ b∈ch,(b∈X.ex\/X.s₀.heap.objs.size<=b)/\b≠X.env.locals/\(∀ x c,X.env.cells.lookup x=some c->c≠b)/\∀ p∈X.pn++pins,p.1≠b) :
  Inv X pins σ H' { s with heap:=h',gens:=g',drawn:=d',toks:=t' }:=by
 obtain⟨m,⟨o,es,ep,ho,r⟩,_⟩:=id I.loc
 obtain⟨sl,hL⟩:=u.any ho I.free fun z=>(hch _ z).2.1 rfl
 exact I.step (ch:=ch) hch (fun b o hL hb hc e n=>u.keep b o e n (fun z=>(List.mem_cons.mp (I.stkSub b z)).elim hL hb) hc) (fun b o _ _ hc e n=>u.any e n hc) (fun b o hc e n=>u.free b o e n hc) (fun b o hc e=>u.there b o e hc) u.tups u.frzs u.tbls (fun m' hm=>by
  obtain⟨o',es',ep',ho',r'⟩:=hm
  rw [ho] at ho';cases ho'
  exact⟨_,es',ep',hL,r'⟩) hok hg
theorem Inv.turned {t':Nat}{it:Addr}(I:Inv X pins σ H s)(k:∀ b o,b≠it->s.heap.get? b=some o->h'.get? b=some o)(hn:H it=none)(hL:it≠X.env.locals)
  (h1:it∈X.ex\/X.s₀.heap.objs.size<=it) (h2:∀ x c,X.env.cells.lookup x=some c->c≠it) (h3:∀ p∈X.pn++pins,p.1≠it):Inv X pins σ H { s with heap:=h',toks:=t' }:=by
 have nit:∀ b u,H b=some u->b≠it:=fun b u e z=>by rw [z,hn] at e;cases e
 refine I.step (g':=s.gens) (d':=s.drawn) (ch:=[it]) (fun b hb=>?_) (fun b o _ _ hc e _=>k b o (fun z=>hc (by simp [z])) e) (fun b o _ _ hc e _=>⟨o.slots,k b o (fun z=>hc (by simp [z])) e⟩) (fun _ _ _ _ n=>n)
  (fun b o hc e=>⟨o,k b o (fun z=>hc (by simp [z])) e⟩) (fun _ _ e=>e) (fun _ _ _ e=>e) (fun b ps e=>⟨#[],by rw [e];simp⟩) (fun m hm=>?_) (fun b u e=>?_) I.bare
 ·have e:b=it:=by simpa using hb
  subst e
  exact⟨h1,hL,h2,h3⟩
 ·obtain⟨o,es,ep,ho,r⟩:=hm
  exact⟨o,es,ep,k _ o (Ne.symm hL) ho,r⟩
 ·refine (I.hok b u e).stay (fun c v hc q=>k c v ?_ q) (fun _ q=>q) fun _ _ q=>q
  rcases hc with z | z
  ·rw [z];exact nit b u e
  ·exact nit c _ z
theorem Inv.tok (I:Inv X pins σ H s)(t:Nat):Inv X pins σ H { s with toks:=t }:=I.un (h':=s.heap) (t':=t) Un.refl I.hok
theorem Inv.kept {t':Nat}(I:Inv X pins σ H s)(k:∀ b u,s.heap.get? b=some u->h'.get? b=some u):Inv X pins σ H { s with heap:=h',toks:=t' }:=I.un (Un.kept k) (I.hok.kept k)
theorem Inv.laid {a:Addr}{o:HO}{t':Nat}(I:Inv X pins σ H s)(k:∀ b u,s.heap.get? b=some u->h'.get? b=some u)(hp:s.heap.objs.size<=a)(new:zaP X.prog X.w (upd H a o) h' a o) :
  Inv X pins σ (upd H a o) { s with heap:=h',toks:=t' }:=I.un (Un.laid k hp (I.hok.fresh hp)) (I.hok.laid k hp new)
theorem Inv.write {x e:Addr}{o:HO}{t':Nat}(I:Inv X pins σ H s)(mu:Mut (H x))(he:e=x\/H e=some (.own x))(k:∀ b u,b≠e->s.heap.get? b=some u->h'.get? b=some u)(heo:∃ u,h'.get? e=some u)
  (new:zaP X.prog X.w (upd H x o) h' x o):Inv X pins σ (upd H x o) { s with heap:=h',toks:=t' }:=I.un (Un.write mu he k heo) (I.hok.write mu he k heo new)
theorem Inv.weak {σ':List (Option V)}(I:Inv X pins σ H s)(hl:σ'.length=σ.length)(w:∀ (i:Nat) v,σ'[i]?=some (some v)->σ[i]?=some (some v)):Inv X pins σ' H s :=
 ⟨I.ok,I.os,I.bare,I.base,let ⟨m,hn,hl'⟩:=I.loc;⟨m,hn,fun i x v e1 e2 e3=>hl' i x v e1 (w i v e2) e3⟩,I.cell,I.free,I.freeC,I.pin,I.hok,hl.trans I.len⟩
theorem Inv.pins_of {pins':List (Addr×Obj)}(I:Inv X pins σ H s)(h:∀ p∈pins',s.heap.get? p.1=some p.2/\H p.1=none/\p.1≠X.env.locals/\p.1∉X.fs/\∀ v,p.2.data≠.cell v):Inv X pins' σ H s :=
 ⟨I.ok,I.os,I.bare,I.base,I.loc,I.cell,I.free,I.freeC,fun p hp=>(List.mem_append.mp hp).elim (fun z=>I.pin p (List.mem_append_left _ z)) (h p),I.hok,I.len⟩
theorem zg6 {N:List Str}(hN:N.Nodup){i j:Nat}{x:Str}(a:N[i]?=some x)(b:N[j]?=some x):i=j:=by
 obtain⟨h1,e1⟩:=List.getElem?_eq_some_iff.mp a
 obtain⟨h2,e2⟩:=List.getElem?_eq_some_iff.mp b
 exact (List.getElem_inj hN).mp (e1.trans e2.symm)
theorem zgx {M:Model}{A:Around}{E:Value->Shared->Prop}{i:Nat}{x:Str}{v:V}{u:Value}{Q:Unit->Shared->Prop}(I:Inv X pins σ H s)(hN:X.N.Nodup)(hi:X.N[i]?=some x)(hx:Loc X.env.scope x)(r:RelV v u)
  (h:∀ s',Inv X pins (σ.set i (some v)) H s'->(∃ a,Heap.SameBut a s.heap s'.heap/\(a=X.env.locals\/X.env.cells.lookup x=some a))->Q () s') (hf:X.fn x=true\/X.env.scope.names.lookup x=some .local:=by first | exact .inl rfl | exact .inr rfl | assumption):wpAny M A (storeName X.env x u) Q E s:=by
 obtain⟨m,hn,hl⟩:=id I.loc
 have hcls:(X.env.scope.kind==.class||(X.env.scope.kind==.module&&X.env.locals != X.env.globals))=false:=by rw [I.ok.kind];rfl
 have hiσ:i<σ.length:=by rw [I.len];exact (List.getElem?_eq_some_iff.mp hi).1
 have cne:=I.cne
 have tracked:∀ {a:Addr} {h':Heap},(∃ o,s.heap.get? a=some o/\H a=none)->Heap.SameBut a s.heap h'->HOk X.prog X.w H h':=fun {a h'} ha hs b ob e=>by
  obtain⟨_,_,hfree⟩:=ha
  refine (I.hok b ob e).stay (fun c w' hc q=>(hs.2 c ?_).trans q) (fun _ q=>q) fun _ _ q=>q
  rintro rfl
  rcases hc with rfl | hc
  ·rw [hfree] at e;cases e
  ·rw [hfree] at hc;cases hc
 rcases hx with hk | hk
 ·refine wpAny_storeName_local hk hn (fun h' hn' hs=>?_) hcls
  obtain⟨oL,_,_,hoL,_⟩:=id hn
  refine h _ ⟨I.ok,I.os,I.bare,⟨fun b o e n hb hx=>?_,fun b o e n hb hx=>?_,I.base.free,fun b o e hx=>?_,I.base.tups,I.base.frzs,I.base.tbls⟩,⟨_,hn',fun j y v' e1 e2 e3=>?_⟩,fun y c e=>?_,I.free,I.freeC,fun p hp=>?_,tracked ⟨oL,hoL,I.free⟩ hs,by simpa using I.len⟩ ⟨_,hs,.inl rfl⟩
  ·exact (hs.2 b (Nat.ne_of_lt (Nat.lt_of_lt_of_le (Heap.lt_size e) I.ok.above))).trans (I.base.keep b o e n hb hx)
  ·obtain⟨sl,e1⟩:=I.base.slot b o e n hb hx
   exact⟨sl,(hs.2 b (Nat.ne_of_lt (Nat.lt_of_lt_of_le (Heap.lt_size e) I.ok.above))).trans e1⟩
  ·obtain⟨o',e1⟩:=I.base.there b o e hx
   exact⟨o',(hs.2 b (Nat.ne_of_lt (Nat.lt_of_lt_of_le (Heap.lt_size e) I.ok.above))).trans e1⟩
  ·by_cases hj:j=i
   ·subst hj
    rw [hi] at e1;cases e1
    rw [List.getElem?_set_self hiσ] at e2
    cases e2
    exact⟨u,r,.inl ⟨hk,by simp⟩⟩
   ·rw [List.getElem?_set_ne (Ne.symm hj)] at e2
    obtain⟨u',r',q⟩:=hl j y v' e1 e2 e3
    refine⟨u',r',?_⟩
    rcases q with ⟨k,e⟩ | ⟨k,c,e,z⟩
    ·refine .inl ⟨k,?_⟩
     have:y≠x:=fun e=>hj (zg6 hN e1 (e▸hi))
     simp [this,e]
    ·exact .inr ⟨k,c,e,z.sameBut hs (cne y c e)⟩
  ·obtain⟨w',z⟩:=I.cell y c e
   exact⟨w',z.sameBut hs (cne y c e)⟩
  ·obtain⟨e,n,ne,nf,d⟩:=I.pin p hp
   exact⟨(hs.2 p.1 ne).trans e,n,ne,nf,d⟩
 ·have hfn:X.fn x=true:=by
   rcases hf with z | z
   ·exact z
   ·rw [z] at hk;cases hk
  obtain⟨c,hc⟩:=I.ok.has x (.inl hk)
  obtain⟨w',z⟩:=I.cell x c hc
  refine wpAny_storeName_cell I.ok.kind hk hc z (fun h' hc' hs=>?_)
  obtain⟨oc,hoc,hocd⟩:=id z
  refine h { s with heap:=h' } ⟨I.ok,I.os,I.bare,⟨fun b o e n hb hx=>?_,fun b o e n hb hx=>?_,I.base.free,fun b o e hx=>?_,I.base.tups,I.base.frzs,I.base.tbls⟩,⟨m,hn.sameBut hs (Ne.symm (cne x c hc)),fun j y v' e1 e2 e3=>?_⟩,fun y c' e=>?_,I.free,I.freeC,fun p hp=>?_,tracked ⟨oc,hoc,I.freeC x c hc⟩ hs,by simpa using I.len⟩ ⟨c,hs,.inr hc⟩
  ·exact (hs.2 b (Nat.ne_of_lt (Nat.lt_of_lt_of_le (Heap.lt_size e) (I.ok.cab x c hfn hc)))).trans (I.base.keep b o e n hb hx)
  ·obtain⟨sl,e1⟩:=I.base.slot b o e n hb hx
   exact⟨sl,(hs.2 b (Nat.ne_of_lt (Nat.lt_of_lt_of_le (Heap.lt_size e) (I.ok.cab x c hfn hc)))).trans e1⟩
  ·obtain⟨o',e1⟩:=I.base.there b o e hx
   exact⟨o',(hs.2 b (Nat.ne_of_lt (Nat.lt_of_lt_of_le (Heap.lt_size e) (I.ok.cab x c hfn hc)))).trans e1⟩
  ·by_cases hj:j=i
   ·subst hj
    rw [hi] at e1;cases e1
    rw [List.getElem?_set_self hiσ] at e2
    cases e2
    exact⟨u,r,.inr ⟨.inl hk,c,hc,hc'⟩⟩
   ·rw [List.getElem?_set_ne (Ne.symm hj)] at e2
    obtain⟨u',r',q⟩:=hl j y v' e1 e2 e3
    refine⟨u',r',?_⟩
    rcases q with q | ⟨k,c',e,z'⟩
    ·exact .inl q
    ·refine .inr ⟨k,c',e,z'.sameBut hs ?_⟩
     rintro rfl
     exact hj (zg6 hN e1 (I.ok.inj _ _ _ e hc▸hi))
  ·by_cases hcc:c'=c
   ·subst hcc;exact⟨_,hc'⟩
   ·obtain⟨w2,z2⟩:=I.cell y c' e
    exact⟨w2,z2.sameBut hs hcc⟩
  ·obtain⟨e,n,ne,nf,d⟩:=I.pin p hp
   refine⟨(hs.2 p.1 ?_).trans e,n,ne,nf,d⟩
   intro q
   rw [q,hoc] at e
   have q':oc=p.2:=Option.some.inj e
   exact d w' (by rw [<- q'];exact hocd)
theorem ze6 {M:Model}{A:Around}{E:Value->Shared->Prop}{i:Nat}{x:Str}{v:V}{u:Value}{Q:Unit->Shared->Prop}(I:Inv X pins σ H s)(hN:X.N.Nodup)(hi:X.N[i]?=some x)(hx:Loc X.env.scope x)(r:RelV v u)
  (h:∀ s',Inv X pins (σ.set i (some v)) H s'->Q () s') (hf:X.fn x=true\/X.env.scope.names.lookup x=some .local:=by first | exact .inl rfl | exact .inr rfl | assumption):wpAny M A (storeName X.env x u) Q E s :=
 zgx I hN hi hx r (fun s' I' _=>h s' I') hf
theorem Inv.call' {s':Shared}{ch:List Addr}(I:Inv X pins σ H s)(ho:s'.os=s.os)(u:Un (frs X.stack) ch H H' s.heap s'.heap)(hok:HOk X.prog X.w H' s'.heap)(hg:AllBare s'.gens)
  (hch:∀ b∈ch,(b∈X.ex\/X.s₀.heap.objs.size<=b)/\b≠X.env.locals/\(∀ x c,X.env.cells.lookup x=some c->c≠b)/\∀ p∈X.pn++pins,p.1≠b):Inv X pins σ H' s':=by
 obtain⟨h',g',d',t',o'⟩:=s'
 have e:o'=s.os:=ho
 subst e
 exact I.call (g':=g') (t':=t') (d':=d') u hok hg hch
end
abbrev XK:=Value->Option Addr->Hp->Prop
abbrev St:=List (Option V)
abbrev VK:=V->Hp->Prop
abbrev TE:=St->Hp->VK->Prop
abbrev TT:=St->Hp->(Bool->Hp->Prop)->Prop
abbrev TA:=St->Hp->(List V->Hp->Prop)->Prop
structure Ends where
 nx:St->Hp->Prop
 rt:VK
 bk:St->Hp->Prop:=fun _ _=>False
 ct:St->Hp->Prop:=fun _ _=>False
abbrev TS:=Ends->St->Hp->Prop
def EP (X:Cx)(pins:List (Addr×Obj))(σ:St)(Q:VK)(u:Value)(s':Shared):Prop:=∃ v H',Inv X pins σ H' s'/\RelV v u/\Q v H'
def TP (X:Cx)(pins:List (Addr×Obj))(σ:St)(Q:Bool->Hp->Prop)(b:Bool)(s':Shared):Prop:=∃ H',Inv X pins σ H' s'/\Q b H'
def AP (X:Cx)(pins:List (Addr×Obj))(σ:St)(Q:List V->Hp->Prop)(us:List Value)(s':Shared):Prop:=∃ vs H',Inv X pins σ H' s'/\Vals vs us/\Q vs H'
def SP (X:Cx)(pins:List (Addr×Obj))(D:Ends)(f:Flow)(s':Shared):Prop :=
 match f with
 | .next=>∃ σ' H',Inv X pins σ' H' s'/\D.nx σ' H'
 | .brk=>∃ σ' H',Inv X pins σ' H' s'/\D.bk σ' H'
 | .cont=>∃ σ' H',Inv X pins σ' H' s'/\D.ct σ' H'
 | .ret u=>∃ v σ' H',Inv X pins σ' H' s'/\RelV v u/\D.rt v H'
def PE (X:Cx)(e:Expr)(t:TE):Prop :=
 ∀ (pins:List (Addr×Obj)) (s:Shared) (σ:St) (H:Hp) (Q:VK),Inv X pins σ H s->t σ H Q->wpAny (model X.prog X.w) X.A (eval e X.env) (EP X pins σ Q) X.xe s
def PT (X:Cx)(e:Expr)(t:TT):Prop :=
 ∀ (pins:List (Addr×Obj)) (s:Shared) (σ:St) (H:Hp) (Q:Bool->Hp->Prop),Inv X pins σ H s->t σ H Q->wpAny (model X.prog X.w) X.A (isTrue e X.env (eval e X.env)) (TP X pins σ Q) X.xe s
def PW (X:Cx)(e:Expr)(t:TT):Prop :=
 ∀ (whole:Sem Value) (pins:List (Addr×Obj)) (s:Shared) (σ:St) (H:Hp) (Q:Bool->Hp->Prop),Inv X pins σ H s->t σ H Q->wpAny (model X.prog X.w) X.A (isTrue e X.env whole) (TP X pins σ Q) X.xe s
def PA (X:Cx)(es:List Expr)(t:TA):Prop :=
 ∀ (pos:Pos) (pins:List (Addr×Obj)) (s:Shared) (σ:St) (H:Hp) (Q:List V->Hp->Prop),Inv X pins σ H s->t σ H Q->wpAny (model X.prog X.w) X.A (spliced (backTo pos (starEach es X.env))) (AP X pins σ Q) X.xe s
def PS (X:Cx)(st:Stmt)(t:TS):Prop :=
 ∀ (pins:List (Addr×Obj)) (s:Shared) (σ:St) (H:Hp) (D:Ends),Inv X pins σ H s->t D σ H->wpAny (model X.prog X.w) X.A (exec st X.env) (SP X pins D) X.xe s
def PSs (X:Cx)(st:List Stmt)(t:TS):Prop :=
 ∀ (pins:List (Addr×Obj)) (s:Shared) (σ:St) (H:Hp) (D:Ends),Inv X pins σ H s->t D σ H->wpAny (model X.prog X.w) X.A (execs st X.env) (SP X pins D) X.xe s
theorem thn {α:Type}{t:Sem α}{Q Q':α->Shared->Prop}{M:Model}{A:Around}{E:Value->Shared->Prop}{s:Shared}(h:wpAny M A t Q E s)(hQ:∀ a s,Q a s->Q' a s):wpAny M A t Q' E s:=wpAny_mono h hQ fun _ _ x=>x
section
variable {X:Cx}
def zm5 (i:Nat):TE:=fun σ H Q=>∃ v,σ[i]?=some (some v)/\Q v H
def tC (v:V):TE:=fun _ H Q=>Q v H
theorem zm0 {i:Nat}{x:Str}{pos:Pos}(hN:X.N[i]?=some x)(hv:Vis X.env.scope x)(hd:(x==("__debug__":Str))=false:=by decide)(hcd:(x==("__classdict__":Str))=false:=by decide):PE X (.Name x pos) (zm5 i):=by
 intro pins s σ H Q I h
 obtain⟨v,e,h⟩:=h
 obtain⟨m,hn,hl⟩:=I.loc
 obtain⟨u,r,l⟩:=hl i x v hN e hv
 have fin:EP X pins σ Q u s:=⟨v,H,I,r,h⟩
 rcases l with ⟨hk,hm⟩ | ⟨hk,c,hc,hcell⟩
 ·exact wpAny_Name (wpAny_loadName_local I.ok.kind hk hn hm fin) hd
 ·rcases hk with hk | hk
  ·exact wpAny_Name (wpAny_loadName_cell I.ok.kind hk hc hcell fin) hd
  ·exact wpAny_Name (wpAny_loadName_free I.ok.kind hk hc hcell fin hcd) hd
theorem zhN {i j pos}:PE X (.Constant (.int i) j pos) (tC (.int i)):=fun _ _ _ H _ I h=>wpAny_Constant_int ⟨.int i,H,I.tok _,⟨_,rfl⟩,h⟩
theorem zn0 {b j pos}:PE X (.Constant (.bool b) j pos) (tC (.bl b)):=fun _ _ _ H _ I h=>Constant_bool ⟨.bl b,H,I,rfl,h⟩
theorem zm3 {j pos}:PE X (.Constant .none j pos) (tC .non):=fun _ _ _ H _ I h=>Constant_none ⟨.non,H,I,rfl,h⟩
theorem zjL {x j pos}:PE X (.Constant (.str x) j pos) (tC (.str x)):=fun _ _ _ H _ I h=>Calls.Constant_str ⟨.str x,H,I.tok _,⟨_,rfl⟩,h⟩
def Gl (X:Cx)(x:Str):Prop:=X.env.kindOf x=some .globalImplicit
theorem zdI {E:Value->Shared->Prop}{pins:List (Addr×Obj)}{s:Shared}{σ:St}{H:Hp}{x:Str}{u:Value}{pos:Pos}{Q:Value->Shared->Prop}(I:Inv X pins σ H s)(hg:Gl X x)(hm:X.mg x=some u)(h:Q u s)
  (hd:(x==("__debug__":Str))=false:=by decide):wpAny (model X.prog X.w) X.A (eval (.Name x pos) X.env) Q E s :=
 Calls.Name_function_global I.ok.kind hg (Calls.loadGlobal_global (by rw [I.ok.glob];exact I.mod.glob.keeps I.bk) hm h) hd
theorem zda {E:Value->Shared->Prop}{pins:List (Addr×Obj)}{s:Shared}{σ:St}{H:Hp}{x:Str}{u:Value}{pos:Pos}{Q:Value->Shared->Prop}(I:Inv X pins σ H s)(hg:Gl X x)(hm:X.mg x=none)(hv:bootBuiltins x=some u)(h:Q u s)
  (hn:x≠"__name__":=by decide) (hd:(x==("__debug__":Str))=false:=by decide):wpAny (model X.prog X.w) X.A (eval (.Name x pos) X.env) Q E s:=by
 obtain⟨mb,h1,h2⟩:=I.mod.blt
 exact Calls.Name_function_global I.ok.kind hg (Calls.loadGlobal_builtin (by rw [I.ok.glob];exact I.mod.glob.keeps I.bk) hm (by rw [I.ok.blt];exact h1.keeps I.bk) ((h2 x hn).trans hv) h) hd
theorem zil {x:Str}{v:V}{u:Value}{pos:Pos}(hg:Gl X x)(hm:X.mg x=some u)(r:RelV v u)(hd:(x==("__debug__":Str))=false:=by decide):PE X (.Name x pos) (tC v) :=
 fun _ _ _ H _ I h=>zdI I hg hm ⟨v,H,I,r,h⟩ hd
theorem zlZ {x:Str}{v:V}{u:Value}{pos:Pos}(hg:Gl X x)(hm:X.mg x=none)(hv:bootBuiltins x=some u)(r:RelV v u)(hn:x≠"__name__":=by decide)(hd:(x==("__debug__":Str))=false:=by decide):PE X (.Name x pos) (tC v) :=
 fun _ _ _ H _ I h=>zda I hg hm hv ⟨v,H,I,r,h⟩ hn hd
variable {a b:Expr}{ta tb:TE}{pos:Pos}
def tB (t:TE):TT:=fun σ H Q=>t σ H fun x H1=>∃ c,x=.bl c/\Q c H1
theorem zmL {e:Expr}{t:TE}(h:PE X e t)(he:∀ whole,isTrue e X.env whole=(do let v <- whole;standAt e.pos;holding [v] (truthy v)):=by intro _;rfl):PT X e (tB t):=by
 intro pins s σ H Q I hw
 refine isTrue_plain (thn (h pins s σ H _ I hw) fun v s1 ⟨x,H1,I1,r1,q1⟩=>?_) (he _)
 obtain⟨d,rfl,q⟩:=q1
 cases r1
 exact wpAny_truthy_bool ⟨H1,I1,q⟩
variable {tA tB':TT}{rest:List Expr}
def zpj (t u:TT):TT:=fun σ H Q=>t σ H fun c H1=>if c=true then u σ H1 Q else Q false H1
def tOr (t u:TT):TT:=fun σ H Q=>t σ H fun c H1=>if c=true then Q true H1 else u σ H1 Q
def zpa (t:TT):TT:=fun σ H Q=>t σ H fun c H1=>Q (!c) H1
theorem zlt (ha:PT X a tA):PW X (.BoolOp .And [a] pos) tA:=by
 intro wh pins s σ H Q I h
 refine isTrue_and (thn (ha pins s σ H Q I h) fun c s1 e=>?_)
 cases c with
 | true=>exact isTrue_and_nil e
 | false=>exact e
theorem zl6 (ha:PT X a tA):PW X (.BoolOp .Or [a] pos) tA:=by
 intro wh pins s σ H Q I h
 refine isTrue_or (thn (ha pins s σ H Q I h) fun c s1 e=>?_)
 cases c with
 | false=>exact isTrue_or_nil e
 | true=>exact e
theorem zna (ha:PT X a tA)(hb:PW X (.BoolOp .And (b::rest) pos) tB'):PW X (.BoolOp .And (a::b::rest) pos) (zpj tA tB'):=by
 intro wh pins s σ H Q I h
 refine isTrue_and (thn (ha pins s σ H _ I h) fun c s1 ⟨H1,I1,q1⟩=>?_)
 cases c with
 | true=>exact hb wh pins s1 σ H1 Q I1 q1
 | false=>exact⟨H1,I1,q1⟩
theorem zod (ha:PT X a tA)(hb:PW X (.BoolOp .Or (b::rest) pos) tB'):PW X (.BoolOp .Or (a::b::rest) pos) (tOr tA tB'):=by
 intro wh pins s σ H Q I h
 refine isTrue_or (thn (ha pins s σ H _ I h) fun c s1 ⟨H1,I1,q1⟩=>?_)
 cases c with
 | true=>exact⟨H1,I1,q1⟩
 | false=>exact hb wh pins s1 σ H1 Q I1 q1
theorem znb (ha:PT X a tA):PT X (.UnaryOp .Not a pos) (zpa tA):=by
 intro pins s σ H Q I h
 exact isTrue_not (ha pins s σ H (fun c H1=>Q (!c) H1) I h)
def zoG (ta tb:TE):TE:=fun σ H Q=>ta σ H fun x H1=>∃ c,x=.bl c/\if c=true then tb σ H1 Q else Q (.bl false) H1
def zok (ta:TE):TE:=fun σ H Q=>ta σ H fun x H1=>∃ c,x=.bl c/\Q (.bl (!c)) H1
theorem znh {op}{t:TE}(h:PE X a t):PE X (.BoolOp op [a] pos) t:=fun pins s σ H Q I hw=>BoolOp_one (h pins s σ H Q I hw)
theorem znq (ha:PE X a ta)(hb:PE X (.BoolOp .And (b::rest) pos) tb):PE X (.BoolOp .And (a::b::rest) pos) (zoG ta tb):=by
 intro pins s σ H Q I h
 refine BoolOp_and (thn (ha pins s σ H _ I h) fun v s1 ⟨x,H1,I1,r1,q1⟩=>?_)
 obtain⟨c,rfl,q1⟩:=q1
 cases r1
 refine wpAny_truthy_bool ?_
 cases c with
 | true=>exact hb pins s1 σ H1 Q I1 q1
 | false=>exact⟨.bl false,H1,I1,rfl,q1⟩
theorem zmJ (ha:PE X a ta):PE X (.UnaryOp .Not a pos) (zok ta):=by
 intro pins s σ H Q I h
 refine UnaryOp_ (thn (ha pins s σ H _ I h) fun v s1 ⟨x,H1,I1,r1,q1⟩=>?_)
 obtain⟨c,rfl,q1⟩:=q1
 cases r1
 exact not_of (wpAny_truthy_bool ⟨.bl (!c),H1,I1,rfl,q1⟩)
end
def SqL (K:PySem.W.Frag)(H:Hp)(a:Addr)(xs:List V):Prop :=
 Rd H a (.lst xs) \/
  ∃ (o:Obj) (its:Array Value) (n:Nat),K.lookup a=some o/\o.cls=.type "list"/\o.dict=none/\o.data=.seq its n/\its.size<=sizeLine/\Vals xs its.toList
def SqT (K:PySem.W.Frag)(H:Hp)(a:Addr)(xs:List V):Prop :=
 Rd H a (.tup xs) \/
  ∃ (o:Obj) (its:Array Value) (n:Nat),K.lookup a=some o/\o.cls=.type "tuple"/\o.data=.seq its n/\its.size<=sizeLine/\Vals xs its.toList
def zoX:Value->Option V
 | .none=>some .non
 | .bool b=>some (.bl b)
 | .int i _=>some (.int i)
 | .str x _=>some (.str x)
 | .bytes b _=>some (.byt b)
 | .float b _=>some (.flt b)
 | .ref a=>some (.ref a)
 | .type n=>some (.ty n)
 | _=>none
theorem RelV.abs {x:V}{u:Value}(r:RelV x u):zoX u=some x:=by
 cases x with
 | non=>cases r;rfl
 | bl _=>cases r;rfl
 | int _=>obtain⟨t,rfl⟩:=r;rfl
 | str _=>obtain⟨t,rfl⟩:=r;rfl
 | byt _=>obtain⟨t,rfl⟩:=r;rfl
 | flt _=>obtain⟨t,rfl⟩:=r;rfl
 | ref _=>cases r;rfl
 | ty _=>cases r;rfl
theorem RelV.inj {x y:V}{u:Value}(r:RelV x u)(q:RelV y u):x=y:=Option.some.inj (r.abs.symm.trans q.abs)
theorem Vals.inj:∀ {xs ys:List V} {us:List Value},Vals xs us->Vals ys us->xs=ys
 | _,_,_,.nil,.nil=>rfl
 | _,_,_,.cons r t,.cons r' t'=>by rw [r.inj r',Vals.inj t t']
section
variable {X:Cx}{pins:List (Addr×Obj)}{σ:St}{H:Hp}{s:Shared}{a:Addr}{xs ys:List V}
theorem SqL.of {K:PySem.W.Frag}(h:H a=some (.lst xs)):SqL K H a xs:=.inl (.inl h)
theorem SqT.of {K:PySem.W.Frag}(h:H a=some (.tup xs)):SqT K H a xs:=.inl (.inl h)
theorem Inv.list (I:Inv X pins σ H s)(h:SqL X.K H a xs):∃ its:List Value,Vals xs its/\PlainL s.heap a its.toArray/\xs.length<=sizeLine:=by
 rcases h with h | ⟨o,its,n,hk,hc,hd,hs,hz,r⟩
 ·obtain⟨z,its,n,r,e⟩:=h.ok I.hok
  exact⟨its,r,⟨_,n,e,rfl,rfl,rfl⟩,z⟩
 ·refine⟨its.toList,r,⟨o,n,I.kIn a o hk,hc,hd,by simpa using hs⟩,?_⟩
  have e:=r.length
  simp only [Array.length_toList] at e
  omega
theorem Inv.tuple (I:Inv X pins σ H s)(h:SqT X.K H a xs):∃ its:List Value,Vals xs its/\IsTup s.heap a its.toArray/\xs.length<=sizeLine:=by
 rcases h with h | ⟨o,its,n,hk,hc,hs,hz,r⟩
 ·obtain⟨z,its,r,p⟩:=h.ok I.hok
  exact⟨its,r,p,z⟩
 ·refine⟨its.toList,r,⟨o,I.kIn a o hk,hc,n,by simpa using hs⟩,?_⟩
  have e:=r.length
  simp only [Array.length_toList] at e
  omega
theorem Inv.list_inj (I:Inv X pins σ H s)(h:SqL X.K H a xs)(h':SqL X.K H a ys):xs=ys:=by
 obtain⟨its,r,⟨o,n,e,_,_,d⟩,_⟩:=I.list h
 obtain⟨its',r',⟨o',n',e',_,_,d'⟩,_⟩:=I.list h'
 rw [e] at e';cases e'
 rw [d] at d'
 injection d' with d1 _
 have:its=its':=by simpa using congrArg Array.toList d1
 subst this
 exact r.inj r'
theorem Inv.tuple_inj (I:Inv X pins σ H s)(h:SqT X.K H a xs)(h':SqT X.K H a ys):xs=ys:=by
 obtain⟨its,r,⟨o,e,_,n,d⟩,_⟩:=I.tuple h
 obtain⟨its',r',⟨o',e',_,n',d'⟩,_⟩:=I.tuple h'
 rw [e] at e';cases e'
 rw [d] at d'
 injection d' with d1 _
 have:its=its':=by simpa using congrArg Array.toList d1
 subst this
 exact r.inj r'
end
abbrev Cx.wish (X:Cx)(E:Value->Shared->Prop):Cx:={ X with xe:=E }
abbrev Cx.nox (X:Cx):Cx:=X.wish fun _ _=>False
theorem Cx.Ok.wish {X:Cx}(ok:X.Ok)(E:Value->Shared->Prop):(X.wish E).Ok :=
 ⟨ok.mod,ok.kind,ok.glob,ok.blt,ok.above,ok.inj,ok.has,ok.cab,ok.hd,ok.frames,ok.stk,ok.exf,ok.bs,ok.bsz,ok.noex,ok.exfs,ok.funs,ok.frf⟩
theorem Cx.Ok.unwish {X:Cx}{E:Value->Shared->Prop}(ok:(X.wish E).Ok):X.Ok :=
 ⟨ok.mod,ok.kind,ok.glob,ok.blt,ok.above,ok.inj,ok.has,ok.cab,ok.hd,ok.frames,ok.stk,ok.exf,ok.bs,ok.bsz,ok.noex,ok.exfs,ok.funs,ok.frf⟩
section
variable {X:Cx}{pins:List (Addr×Obj)}{σ:St}{H:Hp}{s:Shared}{E:Value->Shared->Prop}
theorem Inv.wish (I:Inv X pins σ H s)(E:Value->Shared->Prop):Inv (X.wish E) pins σ H s:=⟨I.ok.wish E,I.os,I.bare,I.base,I.loc,I.cell,I.free,I.freeC,I.pin,I.hok,I.len⟩
theorem Inv.unwish (I:Inv (X.wish E) pins σ H s):Inv X pins σ H s:=⟨I.ok.unwish,I.os,I.bare,I.base,I.loc,I.cell,I.free,I.freeC,I.pin,I.hok,I.len⟩
theorem SP.unwish {D:Ends}{f:Flow}{s':Shared}(h:SP (X.wish E) pins D f s'):SP X pins D f s':=by
 cases f with
 | next=>obtain⟨σ',H',I,q⟩:=h;exact⟨σ',H',I.unwish,q⟩
 | brk=>obtain⟨σ',H',I,q⟩:=h;exact⟨σ',H',I.unwish,q⟩
 | cont=>obtain⟨σ',H',I,q⟩:=h;exact⟨σ',H',I.unwish,q⟩
 | ret u=>obtain⟨v,σ',H',I,r,q⟩:=h;exact⟨v,σ',H',I.unwish,r,q⟩
theorem PSs.nox {st:List Stmt}{t:TS}(h:PSs X.nox st t):PSs X st t:=fun pins s σ H D I hw =>
 wpAny_mono (h pins s σ H D (I.wish _) hw) (fun _ _ q=>q.unwish) fun _ _ z=>False.elim z
end
section
variable {X:Cx}{st:Stmt}{rest:List Stmt}{t u:TS}{e:Expr}{te:TE}{pos:Pos}
def zoc:TS:=fun D σ H=>D.nx σ H
def zpr (t u:TS):TS:=fun D σ H=>t { D with nx:=u D } σ H
theorem zli:PSs X [] zoc:=fun _ _ σ H _ I h=>wpAny_execs_nil ⟨σ,H,I,h⟩
theorem zjV (h1:PS X st t)(h2:PSs X rest u):PSs X (st::rest) (zpr t u):=by
 intro pins s σ H D I h
 refine wpAny_execs_cons (thn (h1 pins s σ H { D with nx:=u D } I h) fun f s1 q=>?_)
 cases f with
 | next =>
  obtain⟨σ',H',I',q⟩:=q
  exact h2 pins s1 σ' H' D I' q
 | ret v=>exact q
 | brk=>exact q
 | cont=>exact q
theorem zlN (h1:PS X st t):PSs X [st] t:=by
 intro pins s σ H D I h
 refine wpAny_execs_cons (thn (h1 pins s σ H D I h) fun f s1 q=>?_)
 cases f with
 | next=>exact wpAny_execs_nil q
 | ret v=>exact q
 | brk=>exact q
 | cont=>exact q
theorem Inv.quiet {pins:List (Addr×Obj)}{σ:St}{H:Hp}{s:Shared}(I:Inv X pins σ H s):interactive X.env=false:=by simp [interactive,I.ok.kind]
def znG (te:TE):TS:=fun D σ H=>te σ H fun _ H1=>D.nx σ H1
theorem zln (he:PE X e te)(hs:swapsWith e none pos.line X.env=pure false:=by rfl):PS X (.Expr e pos) (znG te):=by
 intro pins s σ H D I h
 exact wpAny_Expr_any (thn (he pins s σ H _ I h) fun v s1 ⟨x,H1,I1,r1,q1⟩=>⟨σ,H1,I1,q1⟩) I.quiet hs
def zph (te:TE):TS:=fun D σ H=>te σ H D.rt
theorem zne (he:PE X e te):PS X (.Return (some e) pos) (zph te):=by
 intro pins s σ H D I h
 exact wpAny_Return_some (thn (he pins s σ H _ I h) fun v s1 ⟨x,H1,I1,r1,q1⟩=>⟨x,σ,H1,I1,r1,q1⟩)
def zo9 (c:TT)(t u:TS):TS:=fun D σ H=>c σ H fun b H1=>if b=true then t D σ H1 else u D σ H1
theorem zom {c:Expr}{a b:List Stmt}{tc:TT}(hc:PT X c tc)(ha:PSs X a t)(hb:PSs X b u):PS X (.If c a b pos) (zo9 tc t u):=by
 intro pins s σ H D I h
 refine wpAny_If (thn (hc pins s σ H _ I h) fun d s1 ⟨H1,I1,q1⟩=>?_)
 cases d with
 | true=>exact ha pins s1 σ H1 D I1 q1
 | false=>exact hb pins s1 σ H1 D I1 q1
def zmv:TS:=fun _ _ _=>False
theorem zks:PS X st zmv:=fun _ _ _ _ _ _ h=>h.elim
end
abbrev TG:=V->St->Hp->(St->Hp->Prop)->Prop
abbrev TGs:=List V->St->Hp->(St->Hp->Prop)->Prop
def PG (X:Cx)(target:Expr)(t:TG):Prop :=
 ∀ (pins:List (Addr×Obj)) (s:Shared) (σ:St) (H:Hp) (v:V) (u:Value) (Q:St->Hp->Prop),Inv X pins σ H s->RelV v u->t v σ H Q ->
  wpAny (model X.prog X.w) X.A (assign target X.env u) (fun _ s'=>∃ σ' H',Inv X pins σ' H' s'/\Q σ' H') X.xe s
def PGs (X:Cx)(ts:List Expr)(t:TGs):Prop :=
 ∀ (pins:List (Addr×Obj)) (s:Shared) (σ:St) (H:Hp) (vs:List V) (us:List Value) (Q:St->Hp->Prop),Inv X pins σ H s->Vals vs us->t vs σ H Q ->
  wpAny (model X.prog X.w) X.A (assignInOrder ((assignEach ts X.env).map (·.2)) us) (fun _ s'=>∃ σ' H',Inv X pins σ' H' s'/\Q σ' H') X.xe s
abbrev zka:=V->V->V->Hp->(Hp->Prop)->Prop
def zl7 (X:Cx)(t:zka):Prop :=
 ∀ (pins:List (Addr×Obj)) (s:Shared) (σ:St) (H:Hp) (o i v:V) (ov iv u:Value) (Q:Hp->Prop),Inv X pins σ H s->RelV o ov->RelV i iv->RelV v u->t o i v H Q ->
  wpAny (model X.prog X.w) X.A (setItem ov iv u) (fun _ s'=>∃ H',Inv X pins σ H' s'/\Q H') X.xe s
abbrev TIp:=V->V->Hp->VK->Prop
def PIp (X:Cx)(op:Operator)(t:TIp):Prop :=
 ∀ (pins:List (Addr×Obj)) (s:Shared) (σ:St) (H:Hp) (x y:V) (v u:Value) (Q:VK),Inv X pins σ H s->RelV x v->RelV y u->t x y H Q ->
  wpAny (model X.prog X.w) X.A (inplaceOp op v u) (EP X pins σ Q) X.xe s
section
variable {X:Cx}{pos:Pos}
def zE (i:Nat):TG:=fun v σ H Q=>Q (σ.set i (some v)) H
theorem zai {i:Nat}{x:Str}(hN:X.N.Nodup)(hi:X.N[i]?=some x)(hx:Loc X.env.scope x)(hf:X.fn x=true\/X.env.scope.names.lookup x=some .local:=by first | exact .inl rfl | exact .inr rfl | assumption):PG X (.Name x pos) (zE i):=by
 intro pins s σ H v u Q I r h
 exact wpAny_assign_Name (ze6 I hN hi hx r (fun s' I'=>⟨_,H,I',h⟩) hf)
def zd2:TGs:=fun vs σ H Q=>vs=[]/\Q σ H
def zbA (t:TG)(u:TGs):TGs:=fun vs σ H Q=>∃ v r,vs=v::r/\t v σ H fun σ' H'=>u r σ' H' Q
theorem zgb:PGs X [] zd2:=by
 intro pins s σ H vs us Q I r h
 obtain⟨e,h⟩:=h
 subst e
 cases r
 exact assignInOrder_nil ⟨σ,H,I,h⟩
theorem zct {e:Expr}{es:List Expr}{t:TG}{u:TGs}(h1:PG X e t)(h2:PGs X es u)
  (hs:(assignEach (e::es) X.env).map (·.2)=assign e X.env::(assignEach es X.env).map (·.2):=by rfl):PGs X (e::es) (zbA t u):=by
 intro pins s σ H vs us Q I r h
 obtain⟨v,vr,e1,h⟩:=h
 subst e1
 cases r with
 | cons r rr =>
  rw [hs]
  refine assignInOrder_cons (thn (h1 pins s σ H _ _ _ I r h) fun _ s1 ⟨σ1,H1,I1,q1⟩=>?_)
  exact h2 pins s1 σ1 H1 _ _ Q I1 rr q1
def zdS (K:PySem.W.Frag)(n:Nat)(t:TGs):TG:=fun v σ H Q=>∃ a xs,v=.ref a/\SqT K H a xs/\xs.length=n/\t xs σ H Q
theorem zhM {es:List Expr}{k:Nat}{t:TGs}{n:Nat}(hc:X.calm=true)(h:PGs X es t)
  (hn:(assignEach es X.env).length=n:=by rfl) (hst:(assignEach es X.env).findIdx? (·.1)=none:=by rfl):PG X (.Tuple es k pos) (zdS X.K n t):=by
 intro pins s σ H v u Q I r hw
 obtain⟨a,xs,e1,hq,hl,hw⟩:=hw
 subst e1
 cases r
 obtain⟨its,rv,ht,hz⟩:=I.tuple hq
 refine assign_Tuple_tuple (I.ok.hd hc) ht (by simp [hn,<- hl,rv.length]) hst fun h' hx=>?_
 have I1:Inv X pins σ H { s with heap:=h' }:=I.kept (t':=s.toks) fun b o e=>hx b o (Nat.ne_of_lt (Heap.lt_size e)) e
 exact h pins _ σ H xs _ Q I1 (by simpa using rv) hw
def zf4 (to ti:TE)(t:zka):TG:=fun v σ H Q=>to σ H fun o H1=>ti σ H1 fun i H2=>t o i v H2 fun H3=>Q σ H3
theorem zmX {o i:Expr}{to ti:TE}{t:zka}(ho:PE X o to)(hi:PE X i ti)(hs:zl7 X t)
  (ha:∀ v,assign (.Subscript o i pos) X.env v=(do
   let ov <- holding [v] (eval o X.env)
   let iv <- holding [v,ov] (eval i X.env)
   standAt pos
   holding [v,ov,iv] (setItem ov iv v)
   release [v,ov,iv] []):=by intro _;rfl):PG X (.Subscript o i pos) (zf4 to ti t):=by
 intro pins s σ H v u Q I r h
 rw [ha]
 refine wpAny_bind (wpAny_holding (thn (ho pins s σ H _ I h) fun ov s1 ⟨x,H1,I1,r1,q1⟩=>?_))
 refine wpAny_bind (wpAny_holding (thn (hi pins s1 σ H1 _ I1 q1) fun iv s2 ⟨y,H2,I2,r2,q2⟩=>?_))
 refine wpAny_bind (wpAny_standAt (wpAny_bind (wpAny_holding (thn (hs pins s2 σ H2 x y v ov iv u _ I2 r1 r2 r q2) fun _ s3 ⟨H3,I3,q3⟩=>?_))))
 exact wpAny_release ⟨σ,H3,I3,q3⟩
def zkw (te:TE)(g:TG):TS:=fun D σ H=>te σ H fun x H1=>g x σ H1 D.nx
theorem zmk {tg e:Expr}{te:TE}{g:TG}(he:PE X e te)(hg:PG X tg g)(hs:swapsWithSole [tg] e pos.line X.env=pure false:=by rfl)(hw:swappedStores [tg] e X.env=pure none:=by rfl)
  (h1:(assignEach [tg] X.env).map (·.2)=[assign tg X.env]:=by rfl):PS X (.Assign [tg] e pos) (zkw te g):=by
 intro pins s σ H D I h
 refine wpAny_Assign_stores (thn (he pins s σ H _ I h) fun v s1 ⟨x,H1,I1,r1,q1⟩=>?_) hs hw
 rw [h1]
 exact thn (hg pins s1 σ H1 x v _ I1 r1 q1) fun _ s2 q=>q
theorem zny {i:Nat}{x:Str}{e:Expr}{te:TE}{pos':Pos}(hN:X.N.Nodup)(hi:X.N[i]?=some x)(hx:Loc X.env.scope x)(he:PE X e te)(hs:swapsWith e (some (.Name x pos')) pos.line X.env=pure false:=by rfl)(hf:X.fn x=true\/X.env.scope.names.lookup x=some .local:=by first | exact .inl rfl | exact .inr rfl | assumption) :
  PS X (.Assign [.Name x pos'] e pos) (zkw te (zE i)):=by
 intro pins s σ H D I h
 refine wpAny_Assign_Name (thn (he pins s σ H _ I h) fun v s1 ⟨y,H1,I1,r1,q1⟩=>?_) hs
 exact ze6 I1 hN hi hx r1 (fun s2 I2=>⟨_,H1,I2,q1⟩) hf
def zo6 (i:Nat)(te:TE)(ti:TIp):TS:=fun D σ H=>∃ x,σ[i]?=some (some x)/\te σ H fun y H1=>ti x y H1 fun z H2=>D.nx (σ.set i (some z)) H2
theorem zme {i:Nat}{x:Str}{e:Expr}{te:TE}{op:Operator}{ti:TIp}{pos':Pos}(hN:X.N.Nodup)(hi:X.N[i]?=some x)(hx:Loc X.env.scope x)(he:PE X e te)(ho:PIp X op ti)(hf:X.fn x=true\/X.env.scope.names.lookup x=some .local:=by first | exact .inl rfl | exact .inr rfl | assumption) :
  PS X (.AugAssign (.Name x pos') op e pos) (zo6 i te ti):=by
 intro pins s σ H D I h
 obtain⟨v,e1,h⟩:=h
 obtain⟨m,hn,hl⟩:=I.loc
 have vis:Vis X.env.scope x:=by rcases hx with k | k;exact .inl k;exact .inr (.inl k)
 obtain⟨u,r,l⟩:=hl i x v hi e1 vis
 refine wpAny_AugAssign_Name ?_
 have go:wpAny (model X.prog X.w) X.A (eval e X.env) (fun w s₂=>wpAny (model X.prog X.w) X.A (inplaceOp op u w) (fun r s₃=>wpAny (model X.prog X.w) X.A (storeName X.env x r) (fun _=>SP X pins D .next) X.xe s₃) X.xe s₂) X.xe s:=by
  refine thn (he pins s σ H _ I h) fun w s1 ⟨y,H1,I1,r1,q1⟩=>?_
  refine thn (ho pins s1 σ H1 v y u w _ I1 r r1 q1) fun z s2 ⟨zv,H2,I2,r2,q2⟩=>?_
  exact ze6 I2 hN hi hx r2 (fun s3 I3=>⟨_,H2,I3,q2⟩) hf
 rcases l with ⟨hk,hm⟩ | ⟨hk,c,hc,hcell⟩
 ·exact wpAny_loadName_local I.ok.kind hk hn hm go
 ·rcases hk with hk | hk
  ·exact wpAny_loadName_cell I.ok.kind hk hc hcell go
  ·rcases hx with k | k
   ·have:X.env.scope.names.lookup x=some .free:=hk
    rw [k] at this;cases this
   ·have:X.env.scope.names.lookup x=some .free:=hk
    rw [k] at this;cases this
def ipI (f:Int->Int->Int):TIp:=fun x y H Q=>∃ i j,x=.int i/\y=.int j/\Q (.int (f i j)) H
theorem zmw:PIp X .Add (ipI fun i j=>i+j):=by
 intro pins s σ H x y v u Q I r1 r2 h
 obtain⟨i,j,e1,e2,q⟩:=h
 subst e1;subst e2
 obtain⟨t,rfl⟩:=r1
 obtain⟨t',rfl⟩:=r2
 exact iadd_int ⟨.int _,H,I.tok _,⟨_,rfl⟩,q⟩
end
section
variable {X:Cx}{pos:Pos}
def znd (c:TT)(tb:TS):TS:=fun D σ H=>∃ W:Nat->St->Hp->Prop,(∃ m,W m σ H)/\∀ m σ H,W m σ H ->
 c σ H fun b H1=>if b=true then ∃ N:St->Hp->Prop,(∀ σ' H',N σ' H'->∃ m',m'<m/\W m' σ' H')/\tb { D with nx:=N,ct:=N,bk:=D.nx } σ H1 else D.nx σ H1
theorem zj1 {c:Expr}{body:List Stmt}{tc:TT}{tb:TS}(hp:PassesOwn (model X.prog X.w) X.A X.env X.xe)(hc:PT X c tc)(hb:PSs X body tb):PS X (.While c body [] pos) (znd tc tb):=by
 intro pins s σ H D I h
 obtain⟨W,⟨m0,w0⟩,turn⟩:=h
 refine wpAny_While (codeAny_whileLoop (fun n s'=>∃ σ' H',Inv X pins σ' H' s'/\W n σ' H') ?_ m0 ⟨σ,H,I,w0⟩)
 rintro n s1 ⟨σ1,H1,I1,w1⟩
 refine wpAny_passesOwn hp (thn (hc pins s1 σ1 H1 _ I1 (turn n σ1 H1 w1)) fun b s2 ⟨H2,I2,q2⟩=>?_)
 cases b with
 | true =>
  obtain⟨N,hN,q2⟩:=q2
  rw [if_pos rfl]
  refine wpAny_passesOwn hp (thn (hb pins s2 σ1 H2 _ I2 q2) fun f s3 q3=>?_)
  cases f with
  | next =>
   obtain⟨σ3,H3,I3,n3⟩:=q3
   obtain⟨m',hm,w3⟩:=hN σ3 H3 n3
   exact⟨m',hm,σ3,H3,I3,w3⟩
  | cont =>
   obtain⟨σ3,H3,I3,n3⟩:=q3
   obtain⟨m',hm,w3⟩:=hN σ3 H3 n3
   exact⟨m',hm,σ3,H3,I3,w3⟩
  | brk=>exact q3
  | ret v=>exact q3
 | false =>
  rw [if_neg Bool.false_ne_true]
  exact wpAny_execs_nil ⟨σ1,H2,I2,q2⟩
end
structure It where
 go:Nat->Hp->Prop
 yld:Nat->Hp->V->Hp->Prop
 stop:Nat->Hp->Prop
def zdT (X:Cx)(pins:List (Addr×Obj))(H:Hp)(b:Addr):Prop :=
 H b=none/\b≠X.env.locals/\b∉X.fs/\(b∈X.ex\/X.s₀.heap.objs.size<=b)/\(∀ x c,X.env.cells.lookup x=some c->c≠b)/\∀ p∈X.pn++pins,p.1≠b
theorem Inv.fpOk {X:Cx}{pins:List (Addr×Obj)}{σ:St}{H H':Hp}{s:Shared}{b:Addr}(I:Inv X pins σ H s)(hb:s.heap.objs.size<=b)(hn:H' b=none):zdT X pins H' b:=by
 refine⟨hn,Nat.ne_of_gt (Nat.lt_of_lt_of_le I.lt hb),I.nofs hb,.inr (Nat.le_trans I.sz hb),fun x c e z=>?_,fun p hp z=>?_⟩
 ·obtain⟨v,q⟩:=I.cell x c e
  exact absurd (Nat.lt_of_lt_of_le q.lt (by rw [z];exact hb)) (Nat.lt_irrefl _)
 ·exact absurd (Nat.lt_of_lt_of_le (Heap.lt_size (I.pin p hp).1) (by rw [z];exact hb)) (Nat.lt_irrefl _)
structure Turn (P:Program)(w:World)(K:PySem.W.Frag)(tg:Expr)(J:It)(fp:List Addr)(it:Addr)(tn:Nat->Heap->Prop):Prop where
 mem:it∈fp
 obj:∀ i h,tn i h->∀ b∈fp,∃ o,h.get? b=some o/\∀ v,o.data≠.cell v
 keep:∀ i h h',tn i h->(∀ b∈fp,∀ o,h.get? b=some o->h'.get? b=some o)->tn i h'
 item:∀ (X:Cx),X.prog=P->X.w=w->X.K=K->X.calm=true->∀ (i:Nat) (pins:List (Addr×Obj)) (s:Shared) (σ:St) (H:Hp) (E:Value->Shared->Prop),Inv X pins σ H s->(∀ b∈fp,zdT X pins H b)->tn i s.heap->J.go i H ->
  wpAny (model P w) X.A (pyNext (.ref it)) (fun r s1=>∃ u,r=some u /\
   wpAny (model P w) X.A (letOwnedTupleGo tg (.ref it) u) (fun _ s2=>∃ x H',Inv X pins σ H' s2/\RelV x u/\J.yld i H x H'/\tn (i+1) s2.heap/\∀ b∈fp,H' b=none) E s1) E s
 done:∀ (X:Cx),X.prog=P->X.w=w->X.K=K->X.calm=true->∀ (i:Nat) (pins:List (Addr×Obj)) (s:Shared) (σ:St) (H:Hp) (E:Value->Shared->Prop),Inv X pins σ H s->(∀ b∈fp,zdT X pins H b)->tn i s.heap->J.stop i H ->
  wpAny (model P w) X.A (pyNext (.ref it)) (fun r s1=>r=none/\Inv X pins σ H s1) E s
 self:∀ (A:Around) (i:Nat) (s:Shared) (Q:Value->Shared->Prop) (E:Value->Shared->Prop),tn i s.heap->Q (.ref it) s->wpAny (model P w) A (pyIter (.ref it)) Q E s
abbrev TI:=St->Hp->(It->Hp->Prop)->Prop
def PIE (X:Cx)(pins:List (Addr×Obj))(σ:St)(tg:Expr)(R:It->Hp->Prop)(itv:Value)(s2:Shared):Prop :=
 ∃ (it:Addr) (fp:List Addr) (tn:Nat->Heap->Prop) (J:It) (H':Hp),itv=.ref it/\Inv X pins σ H' s2/\Turn X.prog X.w X.K tg J fp it tn/\tn 0 s2.heap/\(∀ b∈fp,zdT X pins H' b)/\R J H'
def PI (X:Cx)(tg iter:Expr)(wi:TI):Prop :=
 ∀ (pins:List (Addr×Obj)) (s:Shared) (σ:St) (H:Hp) (R:It->Hp->Prop),Inv X pins σ H s->wi σ H R ->
  wpAny (model X.prog X.w) X.A (eval iter X.env) (fun v s1=>wpAny (model X.prog X.w) X.A (pyIter v) (PIE X pins σ tg R) X.xe s1) X.xe s
theorem zeY {M:Model}{A:Around}{E:Value->Shared->Prop}{s:Shared}{tg:Expr}{it:Addr}{u:Value}{o:Obj}{n:String}{vs:Array Value}{Q:Unit->Shared->Prop}(ho:s.heap.get? it=some o)(hc:o.cls=.type n)(hd:o.data=.fields vs)
    (hn:["enumerate","zip","dict_itemiterator","dict_reverseitemiterator","odict_iterator","itertools.zip_longest","itertools.pairwise"].contains n=false) (hQ:Q () s):wpAny M A (letOwnedTupleGo tg (.ref it) u) Q E s:=by
  unfold letOwnedTupleGo
  cases tg<;>first
    | exact wpAny_pure hQ
    | (cases u <;> first
        | exact wpAny_pure hQ
        | (refine wpAny_bind (wpAny_load ho ?_)
           rw [hc,hd]
           show wpAny M A (if (["enumerate","zip","dict_itemiterator","dict_reverseitemiterator","odict_iterator","itertools.zip_longest","itertools.pairwise"].contains n&&vs[0]?==some (rawInt _))=true then _ else _) Q E s
           rw [if_neg (by intro h;rw [hn,Bool.false_and] at h;cases h)]
           exact wpAny_pure hQ))
def Itl (K:PySem.W.Frag)(a:Addr):It :=
 ⟨fun i H=>∃ xs x,SqL K H a xs/\xs[i]?=some x,fun i H x H'=>H'=H/\∀ xs,SqL K H a xs->xs[i]?=some x,fun i H=>∃ xs,SqL K H a xs/\xs.length<=i⟩
def Itt (K:PySem.W.Frag)(a:Addr):It :=
 ⟨fun i H=>∃ xs x,SqT K H a xs/\xs[i]?=some x,fun i H x H'=>H'=H/\∀ xs,SqT K H a xs->xs[i]?=some x,fun i H=>∃ xs,SqT K H a xs/\xs.length<=i⟩
def Itr (lo:Int)(n:Nat):It:=⟨fun i _=>i<n,fun i H x H'=>H'=H/\x=.int (lo+i),fun i _=>n<=i⟩
theorem zjb {P:Program}{w:World}{K:PySem.W.Frag}{tg:Expr}(a it:Addr):Turn P w K tg (Itl K a) [it] it (fun i h=>h.IsListIter it a i) where
 mem:=by simp
 obj:=fun i h st b hb=>by
  have e:b=it:=by simpa using hb
  subst e
  obtain⟨o,e,c,d⟩:=st
  exact⟨o,e,fun v z=>by rw [d] at z;cases z⟩
 keep:=fun i h h' st k=>st.at fun o e=>k it (by simp) o e
 item:=by
  intro X hP hw hK hc i pins s σ H E I hf st hg
  subst hP hw hK
  obtain⟨xs,x,hq,hx⟩:=hg
  obtain⟨its,rv,p,hz⟩:=I.list hq
  obtain⟨u,hu,ru⟩:=rv.get hx
  obtain⟨f0,f1,f2,f3,f4,f5⟩:=hf it (by simp)
  refine wpAny_pyNext_list_item st p.isList (x:=u) (by simpa using hu) fun h' st' sb=>?_
  have I1:Inv X pins σ H { s with heap:=h' }:=I.turned (t':=s.toks) (fun b o hb e=>(sb.2 b hb).trans e) f0 f1 f3 f4 f5
  obtain⟨o,e,c,d⟩:=id st'
  exact⟨u,rfl,zeY (s:={ s with heap:=h' }) e c d (by decide) ⟨x,H,I1,ru,⟨rfl,fun ys hy=>by rw [I.list_inj hy hq];exact hx⟩,st',fun b hb=>(hf b hb).1⟩⟩
 done:=by
  intro X hP hw hK hc i pins s σ H E I hf st hg
  subst hP hw hK
  obtain⟨xs,hq,hx⟩:=hg
  obtain⟨its,rv,p,hz⟩:=I.list hq
  obtain⟨f0,f1,f2,f3,f4,f5⟩:=hf it (by simp)
  have hl:=rv.length
  exact wpAny_pyNext_list_end (I.ok.hd hc) st p.isList (by simp;omega) fun h' eb=>⟨rfl,I.turned (t':=s.toks) (fun b o hb e=>eb b o hb e) f0 f1 f3 f4 f5⟩
 self:=fun _ _ _ _ _ st h=>wpAny_pyIter_listiter st h
theorem ziJ {P:Program}{w:World}{K:PySem.W.Frag}{tg:Expr}(a it:Addr):Turn P w K tg (Itt K a) [it] it (fun i h=>h.IsTupleIter it a i) where
 mem:=by simp
 obj:=fun i h st b hb=>by
  have e:b=it:=by simpa using hb
  subst e
  obtain⟨o,e,c,d⟩:=st
  exact⟨o,e,fun v z=>by rw [d] at z;cases z⟩
 keep:=fun i h h' st k=>st.at fun o e=>k it (by simp) o e
 item:=by
  intro X hP hw hK hc i pins s σ H E I hf st hg
  subst hP hw hK
  obtain⟨xs,x,hq,hx⟩:=hg
  obtain⟨its,rv,p,hz⟩:=I.tuple hq
  obtain⟨u,hu,ru⟩:=rv.get hx
  obtain⟨f0,f1,f2,f3,f4,f5⟩:=hf it (by simp)
  refine wpAny_pyNext_tuple_item st (show s.heap.IsTuple a its.toArray from p) (x:=u) (by simpa using hu) fun h' st' sb=>?_
  have I1:Inv X pins σ H { s with heap:=h' }:=I.turned (t':=s.toks) (fun b o hb e=>(sb.2 b hb).trans e) f0 f1 f3 f4 f5
  obtain⟨o,e,c,d⟩:=id st'
  exact⟨u,rfl,zeY (s:={ s with heap:=h' }) e c d (by decide) ⟨x,H,I1,ru,⟨rfl,fun ys hy=>by rw [I.tuple_inj hy hq];exact hx⟩,st',fun b hb=>(hf b hb).1⟩⟩
 done:=by
  intro X hP hw hK hc i pins s σ H E I hf st hg
  subst hP hw hK
  obtain⟨xs,hq,hx⟩:=hg
  obtain⟨its,rv,p,hz⟩:=I.tuple hq
  obtain⟨f0,f1,f2,f3,f4,f5⟩:=hf it (by simp)
  have hl:=rv.length
  exact wpAny_pyNext_tuple_end (I.ok.hd hc) st (show s.heap.IsTuple a its.toArray from p) (by simp;omega) fun h' eb=>⟨rfl,I.turned (t':=s.toks) (fun b o hb e=>eb b o hb e) f0 f1 f3 f4 f5⟩
 self:=fun _ _ _ _ _ st h=>wpAny_pyIter_tupleiter st h
theorem zfw {P:Program}{w:World}{K:PySem.W.Frag}{tg:Expr}(it:Addr)(lo:Int)(n:Nat):Turn P w K tg (Itr lo n) [it] it (fun i h=>IsRangeIter h it (lo+(i:Nat)*1) ((n:Int)-(i:Nat)) 1) where
 mem:=by simp
 obj:=fun i h st b hb=>by
  have e:b=it:=by simpa using hb
  subst e
  exact⟨_,st,fun v z=>by
   have z':Data.fields _=Data.cell v:=z
   cases z'⟩
 keep:=fun i h h' st k=>k it (by simp) _ st
 item:=by
  intro X hP hw hK hc i pins s σ H E I hf st hg
  subst hP hw hK
  obtain⟨f0,f1,f2,f3,f4,f5⟩:=hf it (by simp)
  have W:=Walks.range (prog:=X.prog) (w:=X.w) (I.ok.hd hc) it lo 1 n
  refine W.item i s _ _ hg st fun v h' tk hv st' kk=>?_
  obtain⟨t,rfl⟩:=hv
  have I1:Inv X pins σ H { s with heap:=h',toks:=tk }:=I.turned (fun b o hb e=>kk b o (by simpa using hb) e) f0 f1 f3 f4 f5
  refine⟨_,rfl,zeY (s:={ s with heap:=h',toks:=tk }) (n:="range_iterator") st' rfl rfl (by decide) ⟨.int (lo+i),H,I1,⟨t,?_⟩,⟨rfl,rfl⟩,st',fun b hb=>(hf b hb).1⟩⟩
  rw [Int.mul_one]
 done:=by
  intro X hP hw hK hc i pins s σ H E I hf st hg
  subst hP hw hK
  obtain⟨f0,f1,f2,f3,f4,f5⟩:=hf it (by simp)
  exact wpAny_pyNext_range_end (I.ok.hd hc) st (by have:n<=i:=hg;omega) fun h' eb=>⟨rfl,I.turned (t':=s.toks) (fun b o hb e=>eb b o hb e) f0 f1 f3 f4 f5⟩
 self:=fun _ _ _ _ _ st h=>wpAny_pyIter_rangeiter st h
section
variable {X:Cx}{tg:Expr}
theorem zj8 {pins:List (Addr×Obj)}{σ:St}{H:Hp}{s:Shared}{R:It->Hp->Prop}{E:Value->Shared->Prop}{lo hi:Int}{t u v:Tok}{tk:Nat}(I:Inv X pins σ H s)(h1:-(2 ^ 62)<=lo)(h2:lo<2 ^ 62)(h3:-(2 ^ 62)<=hi)(h4:hi<2 ^ 62)
    (q:R (Itr lo (hi-lo).toNat) H):wpAny (model X.prog X.w) X.A (pyIter (.ref s.heap.objs.size)) (PIE X pins σ tg R) E { s with heap:=s.heap.push { cls:=.type "range",data:=.fields #[.int lo t,.int hi u,.int 1 v] },toks:=tk }:=by
  refine wpAny_pyIter_range (IsRange.new ..) (small_one h1 h2 h3 h4) ?_
  have I1:Inv X pins σ H { s with heap:=s.heap.push { cls:=.type "range",data:=.fields #[.int lo t,.int hi u,.int 1 v] },toks:=tk }:=I.kept fun b o e=>Heap.get?_push_of_some _ e
  refine⟨(s.heap.push { cls:=.type "range",data:=.fields #[.int lo t,.int hi u,.int 1 v] }).objs.size,[(s.heap.push { cls:=.type "range",data:=.fields #[.int lo t,.int hi u,.int 1 v] }).objs.size],_,_,H,rfl,
    I1.kept (t':=tk) fun b o e=>Heap.get?_push_of_some _ e,zfw _ lo (hi-lo).toNat,?_,fun b hb=>?_,q⟩
  · have e1:lo+((0:Nat):Int)*1=lo:=by simp
    have e2:(((hi-lo).toNat:Nat):Int)-((0:Nat):Int)=Builtin.Range.rangeSize lo hi 1:=by rw [rangeSize_one];split<;>omega
    show IsRangeIter _ _ (lo+((0:Nat):Int)*1) ((((hi-lo).toNat:Nat):Int)-((0:Nat):Int)) 1
    rw [e1,e2]
    exact Heap.get?_push_size _ rfl
  · have e:b=(s.heap.push { cls:=.type "range",data:=.fields #[.int lo t,.int hi u,.int 1 v] }).objs.size:=by simpa using hb
    subst e
    exact I1.fpOk (Nat.le_refl _) (I1.hok.fresh (Nat.le_refl _))
def zcX (ta:TA):TI:=fun σ H R=>ta σ H fun vs H1=>∃ j:Int,vs=[.int j]/\-(2 ^ 62)<=j/\j<2 ^ 62/\R (Itr 0 j.toNat) H1
theorem zjv {a:Expr}{ta:TA}{p pos:Pos}(hg:Gl X "range")(hm:X.mg "range"=none)(ha:PA X [a] ta)(hs:starEach [a] X.env=[(false,eval a X.env)]:=by rfl):PI X tg (.Call (.Name "range" p) [a] [] pos) (zcX ta):=by
 intro pins s σ H R I h
 refine Call_ (zda I hg hm boot_range (PyProof.Rows.callWith_type1 (thn (ha pos pins s σ H _ I h) fun us s1 ⟨vs,H1,I1,r1,q1⟩=>?_) hs rfl))
 obtain⟨j,e,q1,q2,q⟩:=q1
 subst e
 cases r1 with
 | cons r rr =>
  cases rr
  obtain⟨t,rfl⟩:=r
  exact call_range_1 (zj8 I1 (by omega) (by omega) q1 q2 (by simpa using q))
def zpc (wi:TI)(g:TG)(tb:TS):TS:=fun D σ H=>wi σ H fun J H1=>∃ W:Nat->Nat->St->Hp->Prop,(∃ m,W 0 m σ H1)/\∀ i m σ H,W i m σ H ->
 (J.stop i H/\D.nx σ H)\/(J.go i H/\∃ N:St->Hp->Prop,(∀ σ' H',N σ' H'->∃ m',m'<m/\W (i+1) m' σ' H')/\∀ x H',J.yld i H x H'->g x σ H' fun σ2 H2=>tb { D with nx:=N,ct:=N,bk:=D.nx } σ2 H2)
def zeD (fp:List Addr)(h:Heap):List (Addr×Obj):=fp.filterMap fun b=>(h.get? b).map fun o=>(b,o)
theorem zc3 {fp:List Addr}{h:Heap}{b:Addr}{o:Obj}(hb:b∈fp)(e:h.get? b=some o):(b,o)∈zeD fp h:=List.mem_filterMap.mpr ⟨b,hb,by rw [e];rfl⟩
theorem zjw {fp:List Addr}{h:Heap}{p:Addr×Obj}(hp:p∈zeD fp h):p.1∈fp/\h.get? p.1=some p.2:=by
 obtain⟨b,hb,e⟩:=List.mem_filterMap.mp hp
 cases q:h.get? b with
 | none=>rw [q] at e;cases e
 | some o =>
  rw [q] at e
  have e':(b,o)=p:=Option.some.inj e
  subst e'
  exact⟨hb,q⟩
theorem Inv.pinned {pins:List (Addr×Obj)}{σ:St}{H:Hp}{s:Shared}{fp:List Addr}(I:Inv X pins σ H s)(hf:∀ b∈fp,zdT X pins H b)(ho:∀ b∈fp,∃ o,s.heap.get? b=some o/\∀ v,o.data≠.cell v):Inv X (pins++zeD fp s.heap) σ H s :=
 I.pins_of fun p hp=>(List.mem_append.mp hp).elim (fun z=>I.pin p (List.mem_append_right _ z)) fun z=>by
  obtain⟨hb,e⟩:=zjw z
  obtain⟨f0,f1,f2,_⟩:=hf p.1 hb
  obtain⟨o,e',d⟩:=ho p.1 hb
  rw [e] at e';cases e'
  exact⟨e,f0,f1,f2,d⟩
theorem Inv.unpinned {pins pl:List (Addr×Obj)}{σ:St}{H:Hp}{s:Shared}(I:Inv X (pins++pl) σ H s):Inv X pins σ H s:=I.pins_of fun p hp=>I.pin p (List.mem_append_right _ (List.mem_append_left _ hp))
theorem znc {iter:Expr}{body:List Stmt}{wi:TI}{g:TG}{tb:TS}{pos:Pos}(hp:PassesOwn (model X.prog X.w) X.A X.env X.xe)(hc:X.calm=true)(hi:PI X tg iter wi)(hg:PG X tg g)(hb:PSs X body tb)
  (hs:∀ x,foldedSetIterable iter X.env x=pure x:=by intro _;rfl):PS X (.For tg iter body [] pos) (zpc wi g tb):=by
 intro pins s σ H D I h
 refine wpAny_For (thn (hi pins s σ H _ I h) fun v s1 h1=>thn h1 fun itv s2 h2=>?_) hs
 obtain⟨it,fp,tn,J,H2,e,I2,T,st2,f2,W,⟨m0,w0⟩,turn⟩:=h2
 subst e
 have stat:∀ {H':Hp},(∀ b∈fp,H' b=none)->∀ b∈fp,zdT X pins H' b:=fun hn b hb=>⟨hn b hb,(f2 b hb).2⟩
 refine codeAny_forLoop_any (fun n s'=>∃ i σ' H',Inv X pins σ' H' s'/\tn i s'.heap/\(∀ b∈fp,H' b=none)/\W i n σ' H') ?_ m0 ⟨0,σ,H2,I2,st2,fun b hb=>(f2 b hb).1,w0⟩
 rintro n s3 ⟨i,σ3,H3,I3,st3,fr3,w3⟩
 rcases turn i n σ3 H3 w3 with ⟨stop,qn⟩ | ⟨go,N,hN,step⟩
 ·refine wpAny_passesOwn hp (thn (T.done X rfl rfl rfl hc i pins s3 σ3 H3 X.xe I3 (stat fr3) st3 stop) fun r s4 ⟨hr,I4⟩=>?_)
  subst hr
  exact wpAny_execs_nil ⟨σ3,H3,I4,qn⟩
 ·refine wpAny_passesOwn hp (thn (T.item X rfl rfl rfl hc i pins s3 σ3 H3 X.xe I3 (stat fr3) st3 go) fun r s4 ⟨u,hr,h4⟩=>?_)
  subst hr
  refine wpAny_passesOwn hp (thn h4 fun _ s5 ⟨x,H5,I5,r5,y5,st5,fr5⟩=>?_)
  have I5':=I5.pinned (stat fr5) (T.obj _ _ st5)
  refine wpAny_passesOwn hp (thn (hg _ s5 σ3 H5 x u _ I5' r5 (step x H5 y5)) fun _ s6 ⟨σ6,H6,I6,q6⟩=>?_)
  refine wpAny_passesOwn hp (thn (hb _ s6 σ6 H6 _ I6 q6) fun f s7 q7=>?_)
  have again:∀ {σ7:St} {H7:Hp},Inv X (pins++zeD fp s5.heap) σ7 H7 s7->N σ7 H7->∃ m,m<n/\∃ i σ' H',Inv X pins σ' H' s7/\tn i s7.heap/\(∀ b∈fp,H' b=none)/\W i m σ' H':=fun {σ7 H7} I7 n7=>by
   obtain⟨m',hm,w7⟩:=hN σ7 H7 n7
   refine⟨m',hm,i+1,σ7,H7,I7.unpinned,T.keep _ _ _ st5 fun b hb o e=>(I7.pin (b,o) (List.mem_append_right _ (List.mem_append_right _ (zc3 hb e)))).1,fun b hb=>?_,w7⟩
   obtain⟨o,e,d⟩:=T.obj _ _ st5 b hb
   exact (I7.pin (b,o) (List.mem_append_right _ (List.mem_append_right _ (zc3 hb e)))).2.1
  cases f with
  | next=>obtain⟨σ7,H7,I7,n7⟩:=q7;exact again I7 n7
  | cont=>obtain⟨σ7,H7,I7,n7⟩:=q7;exact again I7 n7
  | brk=>obtain⟨σ7,H7,I7,q7⟩:=q7;exact⟨σ7,H7,I7.unpinned,q7⟩
  | ret v=>obtain⟨x7,σ7,H7,I7,r7,q7⟩:=q7;exact⟨x7,σ7,H7,I7.unpinned,r7,q7⟩
end
abbrev R2:=V->V->Hp->VK->Prop
def OpR (X:Cx)(f:Value->Value->Sem Value)(r:R2):Prop :=
 ∀ (pins:List (Addr×Obj)) (s:Shared) (σ:St) (H:Hp) (x y:V) (v u:Value) (Q:VK),Inv X pins σ H s->RelV x v->RelV y u->r x y H Q ->
  wpAny (model X.prog X.w) X.A (f v u) (EP X pins σ Q) X.xe s
def UnR (X:Cx)(f:Value->Sem Value)(r:V->Hp->VK->Prop):Prop :=
 ∀ (pins:List (Addr×Obj)) (s:Shared) (σ:St) (H:Hp) (x:V) (v:Value) (Q:VK),Inv X pins σ H s->RelV x v->r x H Q ->
  wpAny (model X.prog X.w) X.A (f v) (EP X pins σ Q) X.xe s
def za4 (X:Cx)(f:Value)(r:List V->Hp->VK->Prop):Prop :=
 ∀ (pins:List (Addr×Obj)) (s:Shared) (σ:St) (H:Hp) (xs:List V) (us:List Value) (Q:VK),Inv X pins σ H s->Vals xs us->r xs H Q ->
  wpAny (model X.prog X.w) X.A (call f us) (EP X pins σ Q) X.xe s
def tOp (r:R2)(ta tb:TE):TE:=fun σ H Q=>ta σ H fun x H1=>tb σ H1 fun y H2=>r x y H2 Q
def tUn (r:V->Hp->VK->Prop)(ta:TE):TE:=fun σ H Q=>ta σ H fun x H1=>r x H1 Q
def rI (C:Int->Int->Prop)(g:Int->Int->V):R2:=fun x y H Q=>∃ i j,x=.int i/\y=.int j/\C i j/\Q (g i j) H
def rI0 (g:Int->Int->V):R2:=fun x y H Q=>∃ i j,x=.int i/\y=.int j/\Q (g i j) H
def rU (g:Int->V):V->Hp->VK->Prop:=fun x H Q=>∃ i,x=.int i/\Q (g i) H
section
variable {X:Cx}{a b c:Expr}{ta tb tc:TE}{pos:Pos}
theorem zkl (ha:PE X a ta)(hb:PE X b tb){pins:List (Addr×Obj)}{s:Shared}{σ:St}{H:Hp}{R:V->V->Hp->Prop}(I:Inv X pins σ H s)
  (h:ta σ H fun x H1=>tb σ H1 fun y H2=>R x y H2) {Q:Value->Shared->Prop} {f:Value->Value->Sem Value}
  (hf:∀ v u s2 x y H2,Inv X pins σ H2 s2->RelV x v->RelV y u->R x y H2->wpAny (model X.prog X.w) X.A (f v u) Q X.xe s2) :
  wpAny (model X.prog X.w) X.A (eval a X.env) (fun v s₁=>wpAny (model X.prog X.w) X.A (eval b X.env) (fun u s₂=>wpAny (model X.prog X.w) X.A (f v u) Q X.xe s₂) X.xe s₁) X.xe s:=by
 refine thn (ha pins s σ H _ I h) fun v s1 ⟨x,H1,I1,r1,q1⟩=>?_
 refine thn (hb pins s1 σ H1 _ I1 q1) fun u s2 ⟨y,H2,I2,r2,q2⟩=>?_
 exact hf v u s2 x y H2 I2 r1 r2 q2
theorem zkJ {op:Operator}{r:R2}(ho:OpR X (binaryOp op) r)(ha:PE X a ta)(hb:PE X b tb):PE X (.BinOp a op b pos) (tOp r ta tb):=by
 intro pins s σ H Q I h
 exact wpAny_BinOp (zkl ha hb I h fun v u s2 x y H2 I2 rx ry q=>ho pins s2 σ H2 x y v u Q I2 rx ry q)
theorem zow {op:UnaryOp}{r:V->Hp->VK->Prop}(ho:UnR X (unaryOp op) r)(ha:PE X a ta):PE X (.UnaryOp op a pos) (tUn r ta):=by
 intro pins s σ H Q I h
 exact UnaryOp_ (thn (ha pins s σ H _ I h) fun v s1 ⟨x,H1,I1,r1,q1⟩=>ho pins s1 σ H1 x v Q I1 r1 q1)
theorem opI {f:Value->Value->Sem Value}{C:Int->Int->Prop}{g:Int->Int->Int}
  (rule:∀ (i j:Int) (t u:Tok) (s:Shared) (Q:Value->Shared->Prop) (E:Value->Shared->Prop),C i j->Q (.int (g i j) s.toks) { s with toks:=s.toks+1 }->wpAny (model X.prog X.w) X.A (f (.int i t) (.int j u)) Q E s) :
  OpR X f (rI C fun i j=>.int (g i j)):=by
 intro pins s σ H x y v u Q I rx ry h
 obtain⟨i,j,rfl,rfl,hc,q⟩:=h
 obtain⟨t,rfl⟩:=rx
 obtain⟨t',rfl⟩:=ry
 exact rule i j t t' s _ _ hc ⟨.int (g i j),H,I.tok _,⟨_,rfl⟩,q⟩
theorem znn {f:Value->Value->Sem Value}{g:Int->Int->Int}
  (rule:∀ (i j:Int) (t u:Tok) (s:Shared) (Q:Value->Shared->Prop) (E:Value->Shared->Prop),Q (.int (g i j) s.toks) { s with toks:=s.toks+1 }->wpAny (model X.prog X.w) X.A (f (.int i t) (.int j u)) Q E s) :
  OpR X f (rI0 fun i j=>.int (g i j)):=by
 intro pins s σ H x y v u Q I rx ry h
 obtain⟨i,j,rfl,rfl,q⟩:=h
 obtain⟨t,rfl⟩:=rx
 obtain⟨t',rfl⟩:=ry
 exact rule i j t t' s _ _ ⟨.int (g i j),H,I.tok _,⟨_,rfl⟩,q⟩
theorem zkm {f:Value->Value->Sem Value}{g:Int->Int->Bool}
  (rule:∀ (i j:Int) (t u:Tok) (s:Shared) (Q:Value->Shared->Prop) (E:Value->Shared->Prop),Q (.bool (g i j)) s->wpAny (model X.prog X.w) X.A (f (.int i t) (.int j u)) Q E s) :
  OpR X f (rI0 fun i j=>.bl (g i j)):=by
 intro pins s σ H x y v u Q I rx ry h
 obtain⟨i,j,rfl,rfl,q⟩:=h
 obtain⟨t,rfl⟩:=rx
 obtain⟨t',rfl⟩:=ry
 exact rule i j t t' s _ _ ⟨.bl (g i j),H,I,rfl,q⟩
def zoY (i j:Int):Prop:=0<=j/\j<=1000000/\i.natAbs<2 ^ 64
def ziT (i j:Int):Prop:=(-(2 ^ 64)<i/\i<2 ^ 64)\/(-(2 ^ 64)<j/\j<2 ^ 64)
theorem ziT.ok {i j:Int}(h:ziT i j):IntMulOk i j:=by
 rcases h with ⟨h1,h2⟩ | ⟨h1,h2⟩
 ·exact .of_left (intBits_le_64 h1 h2)
 ·exact .of_right (intBits_le_64 h1 h2)
theorem znv:OpR X (binaryOp .Add) (rI0 fun i j=>.int (i+j)):=znn fun _ _ _ _ _ _ _ q=>add_int q
theorem zl4:OpR X (binaryOp .Sub) (rI0 fun i j=>.int (i-j)):=znn fun _ _ _ _ _ _ _ q=>sub_int q
theorem zlL:OpR X (binaryOp .Mod) (rI (fun _ j=>j≠0) fun i j=>.int (i.fmod j)):=opI fun _ _ _ _ _ _ _ hc q=>mod_int' hc q
theorem zno:OpR X (binaryOp .Pow) (rI zoY fun i j=>.int (i ^ j.toNat)):=opI fun _ _ _ _ _ _ _ hc q=>pow_int_small hc.1 hc.2.1 hc.2.2 q
theorem unI {f:Value->Sem Value}{g:Int->Int}
  (rule:∀ (i:Int) (t:Tok) (s:Shared) (Q:Value->Shared->Prop) (E:Value->Shared->Prop),Q (.int (g i) s.toks) { s with toks:=s.toks+1 }->wpAny (model X.prog X.w) X.A (f (.int i t)) Q E s) :
  UnR X f (rU fun i=>.int (g i)):=by
 intro pins s σ H x v Q I rx h
 obtain⟨i,rfl,q⟩:=h
 obtain⟨t,rfl⟩:=rx
 exact rule i t s _ _ ⟨.int (g i),H,I.tok _,⟨_,rfl⟩,q⟩
theorem zns:UnR X (unaryOp .USub) (rU fun i=>.int (-i)):=unI fun _ _ _ _ _ q=>neg_int q
end
section
variable {X:Cx}{a b c:Expr}{ta tb tc:TE}{pos:Pos}
theorem zjH {pins:List (Addr×Obj)}{σ:St}{H:Hp}{s:Shared}{Q:VK}{k k':Bool}(I:Inv X pins σ H s)(q:Q (.bl k) H)(e:k=k'):EP X pins σ Q (.bool k') s:=by
 subst e
 exact⟨.bl k,H,I,rfl,q⟩
theorem zou:OpR X (compareOp .Lt) (rI0 fun i j=>.bl (decide (i<j))):=zkm fun _ _ _ _ _ _ _ q=>lt_int q
theorem zos:OpR X (compareOp .LtE) (rI0 fun i j=>.bl (decide (i<=j))):=zkm fun _ _ _ _ _ _ _ q=>le_int q
theorem znY:OpR X (compareOp .Gt) (rI0 fun i j=>.bl (decide (j<i))):=zkm fun _ _ _ _ _ _ _ q=>gt_int q
theorem zjs:OpR X (compareOp .In) (fun x y H Q=>∃ i j,x=.str i/\y=.str j/\Q (.bl (!(Builtin.Str.occurrences j i 0 j.length 1).isEmpty)) H):=by
 intro pins s σ H x y v u Q I rx ry h
 obtain⟨i,j,rfl,rfl,q⟩:=h
 obtain⟨t,rfl⟩:=rx
 obtain⟨t',rfl⟩:=ry
 exact in_str (zjH I q rfl)
theorem zlT:OpR X (compareOp .IsNot) (fun x y H Q=>y=.non/\Q (.bl (!decide (x=.non))) H):=by
  intro pins s σ H x y v u Q I rx ry h
  obtain⟨rfl,q⟩:=h
  cases ry
  refine isnot_none_gen (zjH I q ?_)
  cases x<;>first
    | (cases rx;rfl)
    | (obtain⟨t,rfl⟩:=rx;rfl)
theorem OpR.or {f:Value->Value->Sem Value}{r r':R2}(h:OpR X f r)(h':OpR X f r'):OpR X f (fun x y H Q=>r x y H Q\/r' x y H Q):=by
 intro pins s σ H x y v u Q I rx ry q
 rcases q with q | q
 ·exact h pins s σ H x y v u Q I rx ry q
 ·exact h' pins s σ H x y v u Q I rx ry q
theorem zjr (b:Expr){op:CmpOp}(h:op≠.In:=by decide)(h2:op≠.NotIn:=by decide):behindInMarks op b=false:=by
  have e1:(op==CmpOp.In)=false:=by cases op<;>first | rfl | exact absurd rfl h
  have e2:(op==CmpOp.NotIn)=false:=by cases op<;>first | rfl | exact absurd rfl h2
  cases b<;>simp [behindInMarks,e1,e2]
theorem zio {op:CmpOp}{r:R2}(ho:OpR X (compareOp op) r)(ha:PE X a ta)(hb:PE X b tb)(hm:behindInMarks op b=false):PE X (.Compare a [op] [b] pos) (tOp r ta tb):=by
 intro pins s σ H Q I h
 exact wpAny_Compare1 (zkl ha hb I h fun v u s2 x y H2 I2 rx ry q=>ho pins s2 σ H2 x y v u Q I2 rx ry q) hm
def znJ (t:TE):TT:=fun σ H Q=>t σ H fun x H'=>∃ k,x=.bl k/\Q k H'
theorem zlj {op:CmpOp}{r:R2}(ho:OpR X (compareOp op) r)(ha:PE X a ta)(hb:PE X b tb)(hm:behindInMarks op b=false):PT X (.Compare a [op] [b] pos) (znJ (tOp r ta tb)):=by
 intro pins s σ H Q I h
 refine wpAny_isTrue_Compare1 (thn (ha pins s σ H _ I h) fun v s1 ⟨x,H1,I1,r1,q1⟩=>thn (hb pins s1 σ H1 _ I1 q1) fun u s2 ⟨y,H2,I2,r2,q2⟩ =>
  thn (ho pins s2 σ H2 x y v u _ I2 r1 r2 q2) fun c s3 ⟨z,H3,I3,r3,k,e,q3⟩=>?_) hm
 subst e
 cases r3
 exact wpAny_truthy_bool ⟨H3,I3,q3⟩
theorem zdL:(sizeLine:Nat)<2 ^ 63:=by rw [sizeLine_eq];decide
theorem ziA:OpR X (binaryOp .Add) (fun x y H Q=>∃ i j,x=.str i/\y=.str j/\i.length+j.length<=sizeLine/\Q (.str (i++j)) H):=by
 intro pins s σ H x y v u Q I rx ry h
 obtain⟨i,j,rfl,rfl,hz,q⟩:=h
 obtain⟨t,rfl⟩:=rx
 obtain⟨t',rfl⟩:=ry
 exact add_str (fun t' tk=>⟨.str (i++j),H,I.tok _,⟨_,rfl⟩,q⟩) hz
theorem vals1 {x:V}{us:List Value}(r:Vals [x] us):∃ u,us=[u]/\RelV x u:=by
 cases r with
 | cons r1 r2=>cases r2;exact⟨_,rfl,r1⟩
theorem vals2 {x y:V}{us:List Value}(r:Vals [x,y] us):∃ u w',us=[u,w']/\RelV x u/\RelV y w':=by
 cases r with
 | cons r1 r2 =>
  cases r2 with
  | cons r3 r4=>cases r4;exact⟨_,_,rfl,r1,r3⟩
theorem zku:za4 X (.builtin "abs") (fun xs H Q=>∃ i,xs=[.int i]/\Q (.int (if i<0 then -i else i)) H):=by
 intro pins s σ H xs us Q I r h
 obtain⟨i,rfl,q⟩:=h
 obtain⟨u,rfl,t,rfl⟩:=vals1 r
 exact call_abs_int fun u tk=>⟨.int (if i<0 then -i else i),H,I.tok _,⟨_,rfl⟩,q⟩
theorem zgS:za4 X (.type "str") (fun xs H Q=>∃ i,xs=[.int i]/\i.natAbs.log2<1920/\Q (.str (toString i)) H):=by
 intro pins s σ H xs us Q I r h
 obtain⟨i,rfl,hz,q⟩:=h
 obtain⟨u,rfl,t,rfl⟩:=vals1 r
 exact PySem.P.str_of_int hz ⟨.str _,H,I.tok _,⟨_,rfl⟩,q⟩
end
structure zf2 (h:Heap)(x dx C:Addr)(mA:Str->Option Value):Prop where
 obj:h.get? x=some (PySem.W.instObj C dx)
 ns:h.Ns1 dx mA
 ne:dx≠x
theorem zjx {h:Heap}{dx:Addr}{mA:Str->Option Value}(n:h.Ns1 dx mA):∃ od,h.get? dx=some od/\∀ name,PySem.W.lookIn name od=some (mA name):=by
 obtain⟨o,es,ep,ho,hd,hk,_,hm⟩:=n
 refine⟨o,ho,fun name=>?_⟩
 have e:=hm name
 unfold nsFind findBy at e
 rw [<- Array.find?_toList] at e
 unfold PySem.W.lookIn
 rw [hd]
 dsimp only
 split
 ·rename_i y q
  rw [q] at e
  exact congrArg some e
 ·rename_i q
  rw [q] at e
  have a:es.toList.any (·.refKey)=false:=by
   rw [List.any_eq_false]
   intro y hy
   obtain⟨z,t,hkey⟩:=hk y (Array.mem_toList_iff.mp hy)
   simp [DictEntry.refKey,hkey]
  have a':¬ es.toList.any (·.refKey)=true:=by rw [a];exact Bool.false_ne_true
  rw [if_neg a']
  exact congrArg some e
theorem zf2.look {h:Heap}{x dx C:Addr}{mA:Str->Option Value}(I:zf2 h x dx C mA):∃ od,PySem.W.InstAt h x (PySem.W.instObj C dx) C (some od)/\∀ name,PySem.W.lookIn name od=some (mA name) :=
 let ⟨od,ho,hl⟩:=zjx I.ns
 ⟨od,⟨I.obj,rfl,rfl,ho⟩,hl⟩
section
variable {prog:Program}{w:World}{A:Around}{E:Value->Shared->Prop}{s:Shared}{K:PySem.W.Frag}{x dx C f:Addr}{mA:Str->Option Value}{name:Str}{v:Value}
theorem get_map {expr:Bool}{Q:Value->Shared->Prop}(X:K.In s.heap)(I:zf2 s.heap x dx C mA)(hg:PySem.W.plainGet K C name=true)(hh:PySem.W.hasDictIn K C=true)
  (ha:PySem.W.findIn K (.ref C) name=some none) (hv:mA name=some v) (hv':PySem.W.handedIn v=true) (h:Q v { s with toks:=s.toks+1 }) :
  wpAny (model prog w) A (getAttr (.ref x) name expr) Q E s:=by
 obtain⟨od,J,hl⟩:=I.look
 exact PySem.W.get_value X J (PySem.W.plainGet_of hg).1 (PySem.W.findObj_own hh ha rfl (by rw [hl,hv])) hv' h
theorem zlG {ns:List Str}{Q:Unit->Shared->Prop}(X:K.In s.heap)(I:zf2 s.heap x dx C mA)
  (hs:PySem.W.findIn K (.ref C) "__setattr__"=some (some (.builtin "object.__setattr__"))) (hp:PySem.W.plainOver K C=true) (ht:PySem.W.takerIn K C name=some none) (hh:PySem.W.hasDictIn K C=true)
  (hw:PySem.Within mA ns) (hsz:ns.length<=sizeLine)
  (h:∀ h',zf2 h' x dx C (fun y=>if y=name then some v else mA y)->Heap.SameBut dx s.heap h'->Q () { s with heap:=h',toks:=s.toks+2 }) :
  wpAny (model prog w) A (setAttr (.ref x) name v) Q E s:=by
 obtain⟨od,J,hl⟩:=I.look
 refine PySem.W.set_plain X J hs (PySem.W.osa_open (s:={ s with toks:=s.toks+1 }) (r:=none) X J hp ht fun b=>?_)
 obtain⟨cd,hc,hd'⟩:=PySem.W.any_some hh
 have hx:s.heap.get? x=some ⟨.ref C,some dx,.plain,#[]⟩:=I.obj
 refine wpAny_bind (wpAny_pure (wpAny_bind (wpAny_bind (wpAny_loadPart hx (wpAny_bind (PySem.W.Looks.here (s:={ s with toks:=s.toks+1 }) (PySem.W.looks_clsIn X hc) ?_))))))
 rw [hd']
 refine wpAny_pure (a:=some dx) (wpAny_bind (wpAny_pure (wpAny_bind ?_)))
 refine wpAny_nsSet1 (s:={ s with toks:=s.toks+1 }) I.ns fun h' hn2 hs2=>?_
 obtain⟨oD,esD,epD,hoD,hdD,hcD⟩:=hn2.count (PySem.Within.cons name v hw)
 refine wpAny_bind (wpAny_lookBehind hoD (by rw [hdD];exact pastItsLine_dict (Nat.le_trans hcD (by rw [List.length_cons];omega))) ?_)
 exact wpAny_pure (h _ ⟨(hs2.2 _ (Ne.symm I.ne)).trans I.obj,hn2,I.ne⟩ hs2)
theorem zj0 {R:Result->Shared->Prop}{vs:List Value}{kw:List (Str×Value)}(X:K.In s.heap)(hm:PySem.W.makesIn K C=true)
    (hi:PySem.W.findIn K (.ref C) "__init__"=some (some (.ref f))) (hf:PySem.W.typeIn K (.ref f)=some (.type "function"))
    (h:codeAny (model prog w) (A.under (.builtin "type.__call__" ⟨.ref C::vs,kw⟩)) (.call (.ref f) ⟨.ref (s.heap.objs.size+1)::vs,kw⟩) (PySem.W.InitBack (s.heap.objs.size+1) R)
      { s with heap:=(s.heap.push PySem.W.emptyDict).push (PySem.W.instObj C s.heap.objs.size) }) :
    codeAny (model prog w) A (.call (.ref C) ⟨vs,kw⟩) R s:=by
  obtain⟨hh,g,d,t,os⟩:=s
  exact PySem.W.make_core (PySem.W.makes_of X hm) (PySem.W.looks_findIn X hi) (fun self=>PySem.W.bind_fn X self hf) (.inl rfl) h
end
def zbi (f:Str)(v:V):List (Str×V)->List (Str×V)
 | []=>[(f,v)]
 | (g,x)::r=>if g=f then (g,v)::r else (g,x)::zbi f v r
theorem ze2 (f g:Str)(v:V):∀ fs:List (Str×V),(zbi f v fs).lookup g=if g=f then some v else fs.lookup g
 | []=>by
  show List.lookup g [(f,v)]=_
  by_cases h:g=f
  ·have hb:(g==f)=true:=beq_iff_eq.mpr h
   simp only [List.lookup,hb,if_pos h]
  ·have hb:(g==f)=false:=beq_eq_false_iff_ne.mpr h
   simp only [List.lookup,hb,if_neg h]
 | (k,x)::r=>by
  have ih:=ze2 f g v r
  rw [show zbi f v ((k,x)::r)=(if k=f then (k,v)::r else (k,x)::zbi f v r) from rfl]
  by_cases hk:k=f
  ·rw [if_pos hk]
   by_cases h:g=k
   ·have hb:(g==k)=true:=beq_iff_eq.mpr h
    simp only [List.lookup,hb,if_pos (h.trans hk)]
   ·have hb:(g==k)=false:=beq_eq_false_iff_ne.mpr h
    simp only [List.lookup,hb,if_neg (fun e:g=f=>h (e.trans hk.symm))]
  ·rw [if_neg hk]
   by_cases h:g=k
   ·have hb:(g==k)=true:=beq_iff_eq.mpr h
    simp only [List.lookup,hb,if_neg (fun e:g=f=>hk (h.symm.trans e))]
   ·have hb:(g==k)=false:=beq_eq_false_iff_ne.mpr h
    simp only [List.lookup,hb]
    exact ih
theorem zeC (f:Str)(v:V):∀ fs:List (Str×V),f∈(zbi f v fs).map (·.1)/\∀ g,g∈fs.map (·.1)->g∈(zbi f v fs).map (·.1)
 | []=>⟨by simp [zbi],fun g h=>by simp at h⟩
 | (k,x)::r=>by
  obtain⟨i1,i2⟩:=zeC f v r
  rw [show zbi f v ((k,x)::r)=(if k=f then (k,v)::r else (k,x)::zbi f v r) from rfl]
  by_cases hk:k=f
  ·rw [if_pos hk]
   subst hk
   exact⟨by simp,fun g h=>by simpa using h⟩
  ·rw [if_neg hk]
   refine⟨?_,fun g h=>?_⟩
   ·rw [List.map_cons]
    exact List.mem_cons_of_mem _ i1
   ·rw [List.map_cons] at h ⊢
    rcases List.mem_cons.mp h with e | e
    ·exact List.mem_cons.mpr (.inl e)
    ·exact List.mem_cons_of_mem _ (i2 g e)
theorem ze3 (f:Str)(v:V):∀ fs:List (Str×V),(zbi f v fs).length<=fs.length+1
 | []=>by simp [zbi]
 | (k,x)::r=>by
  have ih:=ze3 f v r
  rw [show zbi f v ((k,x)::r)=(if k=f then (k,v)::r else (k,x)::zbi f v r) from rfl]
  by_cases hk:k=f
  ·rw [if_pos hk,List.length_cons,List.length_cons];omega
  ·rw [if_neg hk,List.length_cons,List.length_cons];omega
theorem zfl.some_of {v:V}{o:Option Value}(r:zfl (some v) o):∃ u,o=some u/\RelV v u:=by
 cases o with
 | none=>exact (show False from r).elim
 | some u=>exact⟨u,rfl,r⟩
theorem zjt {v:V}{u:Value}(r:RelV v u):PySem.W.handedIn u=true:=by
 cases v with
 | non=>cases (show u=Value.none from r);rfl
 | bl b=>cases (show u=Value.bool b from r);rfl
 | int i=>obtain⟨t,e⟩:=(show ∃ t,u=Value.int i t from r);cases e;rfl
 | str x=>obtain⟨t,e⟩:=(show ∃ t,u=Value.str x t from r);cases e;rfl
 | byt b=>obtain⟨t,e⟩:=(show ∃ t,u=Value.bytes b t from r);cases e;rfl
 | flt b=>obtain⟨t,e⟩:=(show ∃ t,u=Value.float b t from r);cases e;rfl
 | ref a=>cases (show u=Value.ref a from r);rfl
 | ty n=>cases (show u=Value.type n from r);rfl
section
variable {P:Program}{w:World}{H H':Hp}{h h':Heap}{a C dx:Addr}{fs fs':List (Str×V)}
theorem zfX (hok:HOk P w H h)(e:H a=some (.ins C dx fs)):∃ mA,zf2 h a dx C mA/\(∀ f,zfl (fs.lookup f) (mA f))/\PySem.Within mA (fs.map (·.1))/\fs.length<=1000/\H dx=some (.own a):=by
 obtain⟨d,z,ne,ob,mA,n,r,q⟩:=(show zaP P w H h a (.ins C dx fs) from hok a _ e)
 exact⟨mA,⟨ob,n,ne⟩,r,q,z,d⟩
end
structure Cls (K:PySem.W.Frag)(C:Addr):Prop where
 pg:PySem.W.plainGet K C Str.empty=true
 hd:PySem.W.hasDictIn K C=true
 po:PySem.W.plainOver K C=true
 sa:PySem.W.findIn K (.ref C) "__setattr__"=some (some (.builtin "object.__setattr__"))
theorem Cls.get {K:PySem.W.Frag}{C:Addr}(c:Cls K C)(f:Str):PySem.W.plainGet K C f=true:=c.pg
def z8 (K:PySem.W.Frag)(C:Addr)(f:Str):Prop:=PySem.W.findIn K (.ref C) f=some none
theorem z8.taker {K:PySem.W.Frag}{C:Addr}{f:Str}(n:z8 K C f):PySem.W.takerIn K C f=some none:=by
 unfold PySem.W.takerIn
 rw [show PySem.W.findIn K (.ref C) f=some none from n]
 rfl
section
variable {X:Cx}{pins:List (Addr×Obj)}{σ:St}{H:Hp}{s:Shared}{a C dx:Addr}{fs:List (Str×V)}{f:Str}{v:V}{A:Around}{E:Value->Shared->Prop}
theorem ziL {b:Bool}{Q:Value->Shared->Prop}(I:Inv X pins σ H s)(e:H a=some (.ins C dx fs))(c:Cls X.K C)(n:z8 X.K C f)(l:fs.lookup f=some v)
  (h:∀ u s',Inv X pins σ H s'->RelV v u->Q u s'):wpAny (model X.prog X.w) A (getAttr (.ref a) f b) Q E s:=by
 obtain⟨mA,O,r,_,_,_⟩:=zfX I.hok e
 obtain⟨u,hu,ru⟩:=zfl.some_of (v:=v) (o:=mA f) (by rw [<- l];exact r f)
 exact get_map I.kIn O (c.get f) c.hd n hu (zjt ru) (h u _ (I.tok _) ru)
theorem ziN {y:V}{u:Value}{Q:Unit->Shared->Prop}(I:Inv X pins σ H s)(e:H a=some (.ins C dx fs))(c:Cls X.K C)(n:z8 X.K C f)(hl:fs.length<1000)(ry:RelV y u)
  (h:∀ s',Inv X pins σ (upd H a (.ins C dx (zbi f y fs))) s'->Q () s'):wpAny (model X.prog X.w) A (setAttr (.ref a) f u) Q E s:=by
 obtain⟨mA,O,r,wi,_,ho⟩:=zfX I.hok e
 have hz:(fs.map (·.1)).length<=sizeLine:=by rw [List.length_map,sizeLine_eq];omega
 refine zlG I.kIn O c.sa c.po n.taker c.hd wi hz fun h' O' sb=>h _ ?_
 have hd:∃ o,h'.get? dx=some o:=let ⟨o,_,_,e',_⟩:=O'.ns;⟨o,e'⟩
 refine I.write (x:=a) (e:=dx) (by rw [e];exact True.intro) (.inr ho) (fun b q hb z=>(sb.2 b hb).trans z) hd ?_
 refine⟨by rw [zQ O.ne];exact ho,?_,O.ne,O'.obj,_,O'.ns,fun g=>?_,fun g hg=>?_⟩
 ·have:=ze3 f y fs;omega
 ·show zfl ((zbi f y fs).lookup g) (if g=f then some u else mA g)
  rw [ze2]
  by_cases q:g=f
  ·rw [if_pos q,if_pos q];exact ry
  ·rw [if_neg q,if_neg q];exact r g
 ·by_cases q:g=f
  ·rw [q];exact (zeC f y fs).1
  ·refine (zeC f y fs).2 g (wi g fun z=>hg ?_)
   show (if g=f then some u else mA g)=none
   rw [if_neg q];exact z
theorem Inv.made (I:Inv X pins σ H s):Inv X pins σ (upd (upd H s.heap.objs.size (.own (s.heap.objs.size+1))) (s.heap.objs.size+1) (.ins C s.heap.objs.size []))
    { s with heap:=(s.heap.push PySem.W.emptyDict).push (PySem.W.instObj C s.heap.objs.size) }:=by
  have e1:(s.heap.push PySem.W.emptyDict).get? s.heap.objs.size=some PySem.W.emptyDict:=Heap.get?_push_size s.heap rfl
  have e2:((s.heap.push PySem.W.emptyDict).push (PySem.W.instObj C s.heap.objs.size)).get? (s.heap.objs.size+1)=some (PySem.W.instObj C s.heap.objs.size):=by
    have:=Heap.get?_push_size (s.heap.push PySem.W.emptyDict) (o:=PySem.W.instObj C s.heap.objs.size) rfl
    rwa [Heap.size_push] at this
  have e3:(s.heap.push PySem.W.emptyDict).Ns s.heap.objs.size (fun _=>none):=⟨PySem.W.emptyDict,#[],_,e1,rfl,(fun e he=>absurd he (by simp)),fun _=>rfl⟩
  have I1:=I.laid (a:=s.heap.objs.size) (o:=.own (s.heap.objs.size+1)) (h':=s.heap.push PySem.W.emptyDict) (t':=s.toks) (fun b u q=>Heap.get?_push_of_some _ q) (Nat.le_refl _) ⟨_,e1⟩
  refine I1.laid (a:=s.heap.objs.size+1) (o:=.ins C s.heap.objs.size []) (t':=s.toks) (fun b u q=>Heap.get?_push_of_some _ q) (Nat.le_of_eq (Heap.size_push _ _)) ?_
  have ne:s.heap.objs.size≠s.heap.objs.size+1:=Nat.ne_of_lt (Nat.lt_succ_self _)
  refine⟨by rw [zQ ne,zbk],Nat.zero_le _,ne,e2,fun _=>none,(Heap.Ns1.of_empty e3).at fun o q=>Heap.get?_push_of_some _ q,fun _=>True.intro,fun y hy=>absurd rfl hy⟩
theorem zlS {prog:Program}{w:World}{env:Env}{e:Expr}{f:Str}{pos:Pos}{s:Shared}{Q:Value->Shared->Prop}(hb:attributeBase e f env (eval e env)=eval e env)
  (h:wpAny (model prog w) A (eval e env) (fun o s₁=>wpAny (model prog w) A (getAttr o f true) Q E s₁) E s):wpAny (model prog w) A (eval (.Attribute e f pos) env) Q E s :=
 Attribute_any_ h (by rw [arm_eval_Attribute,hb])
end
def zoV (K:PySem.W.Frag)(ta:TE)(f:Str):TE:=fun σ H Q=>ta σ H fun x H1=>∃ a C dx fs v,x=.ref a/\H1 a=some (.ins C dx fs)/\Cls K C/\z8 K C f/\fs.lookup f=some v/\Q v H1
def zo5 (K:PySem.W.Frag)(ta tv:TE)(f:Str):TS:=fun D σ H=>tv σ H fun y H1=>ta σ H1 fun x H2=>∃ a C dx fs,x=.ref a/\H2 a=some (.ins C dx fs)/\Cls K C/\z8 K C f/\fs.length<1000 /\
 D.nx σ (upd H2 a (.ins C dx (zbi f y fs)))
section
variable {X:Cx}{o e value:Expr}{f:Str}{pos pos' tpos:Pos}{ta tv:TE}
theorem zm1 (he:PE X e ta)(hb:attributeBase e f X.env (eval e X.env)=eval e X.env):PE X (.Attribute e f pos) (zoV X.K ta f):=by
 intro pins s σ H Q I h
 refine zlS hb (thn (he pins s σ H _ I h) fun u s1 ⟨x,H1,I1,rx,a,C,dx,fs,v,ex,ea,c,n,l,q⟩=>?_)
 subst ex
 obtain rfl:u=Value.ref a:=rx
 exact ziL I1 ea c n l fun u' s2 I2 ru=>⟨v,H1,I2,ru,q⟩
theorem zl8 (ha:PE X o ta)(hv:PE X value tv)(hs:swapsWith value (some (.Attribute o f pos')) pos.line X.env=pure false):PS X (.Assign [.Attribute o f pos'] value pos) (zo5 X.K ta tv f):=by
 intro pins s σ H D I h
 refine plainObj_wpAny_Assign_Attribute (thn (hv pins s σ H _ I h) fun u s1 ⟨y,H1,I1,ry,q⟩=>thn (ha pins s1 σ H1 _ I1 q) fun ov s2 ⟨x,H2,I2,rx,a,C,dx,fs,ex,ea,c,n,l,q2⟩=>?_) hs
 subst ex
 obtain rfl:ov=Value.ref a:=rx
 exact ziN I2 ea c n l ry fun s3 I3=>⟨σ,_,I3,q2⟩
end
section
variable {X:Cx}{pins:List (Addr×Obj)}{σ:St}{H:Hp}{s:Shared}{A:Around}{E:Value->Shared->Prop}{Q:Value->Shared->Prop}{c:Value}{b:Bool}
inductive zcu (K:PySem.W.Frag)(H:Hp):V->Value->Prop where
 | non:zcu K H .non (.type "NoneType")
 | bl (x:Bool):zcu K H (.bl x) (.type "bool")
 | int (i:Int):zcu K H (.int i) (.type "int")
 | str (x:Str):zcu K H (.str x) (.type "str")
 | flt (x:UInt64):zcu K H (.flt x) (.type "float")
 | lst {a:Addr} {xs:List V} (e:H a=some (.lst xs)):zcu K H (.ref a) (.type "list")
 | frz {a:Addr} {o:Obj} {xs:List V} (e:H a=some (.frz o (.lst xs))):zcu K H (.ref a) (.type "list")
 | tup {a:Addr} {xs:List V} (e:H a=some (.tup xs)):zcu K H (.ref a) (.type "tuple")
 | dK {a:Addr} {kvs:List (Key×V)} (e:H a=some (.dK kvs)):zcu K H (.ref a) (.type "dict")
 | dT {a:Addr} {kvs:List (List Key×V)} (e:H a=some (.dT kvs)):zcu K H (.ref a) (.type "dict")
 | ins {a C dx:Addr} {fs:List (Str×V)} (e:H a=some (.ins C dx fs)) (cl:Cls K C) (ha:PySem.W.findIn K (.ref C) "__class__"=some (some (.builtin "object.__class__")))
   (hn:PySem.W.specialIn K (.builtin "object.__class__") "__get__"=some (some (.builtin "getset_descriptor.__get__"))) (htk:PySem.W.takesIn K (.builtin "object.__class__")=some true)
   (hm:PySem.W.mroIn K C (.type "object")=some true):zcu K H (.ref a) (.ref C)
theorem zi5 {x:V}{u t:Value}(I:Inv X pins σ H s)(rx:RelV x u)(ty:zcu X.K H x t)(e:PySem.W.kitOne X.K t c=some b)(h:∀ tk,Q (.bool b) { s with toks:=tk }) :
  wpAny (model X.prog X.w) A (call (.builtin "isinstance") [u,c]) Q E s:=by
 cases ty with
 | non=>cases (show u=Value.none from rx);exact PySem.W.kia_one PySem.W.kitx_none I.kIn True.intro e (fun z=>nomatch z) h
 | bl y=>cases (show u=Value.bool y from rx);exact PySem.W.kia_one PySem.W.kitx_bool I.kIn True.intro e (fun z=>nomatch z) h
 | int i=>obtain⟨t,q⟩:=(show ∃ t,u=Value.int i t from rx);cases q;exact PySem.W.kia_one PySem.W.kitx_int I.kIn True.intro e (fun z=>nomatch z) h
 | str y=>obtain⟨t,q⟩:=(show ∃ t,u=Value.str y t from rx);cases q;exact PySem.W.kia_one PySem.W.kitx_str I.kIn True.intro e (fun z=>nomatch z) h
 | flt y=>obtain⟨t,q⟩:=(show ∃ t,u=Value.float y t from rx);cases q;exact PySem.W.kia_one PySem.W.kitx_float I.kIn True.intro e (fun z=>nomatch z) h
 | @lst a xs ea =>
  cases (show u=Value.ref a from rx)
  obtain⟨_,_,n,_,h1⟩:=(show zaP X.prog X.w H s.heap a (.lst xs) from I.hok a _ ea)
  exact PySem.W.kia_one PySem.W.kitx_list I.kIn ⟨_,h1,rfl⟩ e (fun z=>nomatch z) h
 | @frz a ob xs ea =>
  cases (show u=Value.ref a from rx)
  obtain⟨_,_,_,n,_,h1⟩:=(show zaP X.prog X.w H s.heap a (.frz ob (.lst xs)) from I.hok a _ ea)
  exact PySem.W.kia_one PySem.W.kitx_list I.kIn ⟨_,h1,rfl⟩ e (fun z=>nomatch z) h
 | @tup a xs ea =>
  cases (show u=Value.ref a from rx)
  obtain⟨_,_,_,p⟩:=(show zaP X.prog X.w H s.heap a (.tup xs) from I.hok a _ ea)
  obtain⟨o,h1,h2,_⟩:=p
  exact PySem.W.kia_one PySem.W.kitx_tuple I.kIn ⟨o,h1,h2⟩ e (fun z=>nomatch z) h
 | @dK a kvs ea =>
  cases (show u=Value.ref a from rx)
  obtain⟨_,_,vs,_,p⟩:=(show zaP X.prog X.w H s.heap a (.dK kvs) from I.hok a _ ea)
  obtain⟨o,es,ep,h1,h2,_⟩:=p
  exact PySem.W.kia_one PySem.W.kitx_dict I.kIn ⟨o,h1,h2.1⟩ e (fun z=>nomatch z) h
 | @dT a kvs ea =>
  cases (show u=Value.ref a from rx)
  obtain⟨_,_,xs,_,o,es,ep,h1,h2,_⟩:=(show zaP X.prog X.w H s.heap a (.dT kvs) from I.hok a _ ea)
  exact PySem.W.kia_one PySem.W.kitx_dict I.kIn ⟨o,h1,h2.1⟩ e (fun z=>nomatch z) h
 | @ins a C dx fs ea cl ha hn htk hm =>
  cases (show u=Value.ref a from rx)
  obtain⟨mA,O,_⟩:=zfX I.hok ea
  obtain⟨od,J,_⟩:=O.look
  exact PySem.W.kia_one (PySem.W.kitx_own (cl.get _) cl.hd ha hn htk hm) I.kIn J e (fun z=>nomatch z) h
end
structure zan (k:Nat)(A:Around):Prop where
 hd:A.handled=none
 dp:A.depth+3*k+5<recursionLimit
 un:A.units+16*k+200<cLine
theorem zan.mono {j k:Nat}{A:Around}(r:zan k A)(h:j<=k):zan j A:=⟨r.hd,by have:=r.dp;omega,by have:=r.un;omega⟩
theorem zan.deeper {k:Nat}{A:Around}(r:zan (k+1) A)(env:Env):zan k (A.deeper env) :=
 ⟨r.hd,by have:=r.dp;show A.depth+1+3*k+5<_;omega,by have:=r.un;show A.units+3+16*k+200<_;omega⟩
theorem ziY {A:Around}{C:Addr}{us:List Value}{kw:List (Str×Value)}:(A.under (.builtin "type.__call__" ⟨.ref C::us,kw⟩)).depth=A.depth+1:=by
 first | rfl | simp [Around.under,Code.weight,Code.isCreation,Code.isGuard,Code.isCaller,Code.frames,Code.isFrame,guardIds]
theorem ziM {A:Around}{C:Addr}{us:List Value}{kw:List (Str×Value)}:(A.under (.builtin "type.__call__" ⟨.ref C::us,kw⟩)).units=A.units+1:=by
 first | rfl | simp [Around.under,Code.cUnits,Code.frames,Code.isFrame]
theorem zan.make {k:Nat}{A:Around}(r:zan (k+1) A)(C:Addr)(us:List Value)(kw:List (Str×Value)):zan k (A.under (.builtin "type.__call__" ⟨.ref C::us,kw⟩)) :=
 ⟨r.hd,by have:=r.dp;rw [ziY];omega,by have:=r.un;rw [ziM];omega⟩
theorem zan.depth {k:Nat}{A:Around}(r:zan k A):A.depth<recursionLimit:=by have:=r.dp;omega
theorem zan.units {k:Nat}{A:Around}(r:zan k A):A.units+64<cLine:=by have:=r.un;omega
def zpg:TA:=fun _ H Q=>Q [] H
def zog (ta:TE)(tr:TA):TA:=fun σ H Q=>ta σ H fun x H1=>tr σ H1 fun xs H2=>Q (x::xs) H2
section
variable {X:Cx}{e:Expr}{es:List Expr}{te:TE}{t:TA}{pos:Pos}
theorem zmz:PA X [] zpg:=fun _ _ _ _ H Q I h=>Calls.spliced_nil ⟨[],H,I,.nil,h⟩
theorem zlv (ha:PE X e te)(hr:PA X es t)(hs:starEach (e::es) X.env=(false,eval e X.env)::starEach es X.env:=by rfl):PA X (e::es) (zog te t):=by
 intro pos pins s σ H Q I h
 rw [hs]
 show wpAny _ _ (spliced ((false,eval e X.env)::backTo pos (starEach es X.env))) _ _ s
 refine Calls.spliced_cons (thn (ha pins s σ H _ I h) fun u s1 ⟨x,H1,I1,r1,q1⟩=>?_)
 exact thn (hr pos pins s1 σ H1 _ I1 q1) fun us s2 ⟨xs,H2,I2,r2,q2⟩=>⟨x::xs,H2,I2,.cons r1 r2,q2⟩
def zo7 (t:TA):TE:=fun σ H Q=>t σ H fun xs H1=>xs.length<=sizeLine/\∀ p,H1 p=none->Q (.ref p) (upd H1 p (.tup xs))
def zpi (t:TA):TE:=fun σ H Q=>t σ H fun xs H1=>xs.length<=sizeLine/\∀ p,H1 p=none->Q (.ref p) (upd H1 p (.lst xs))
theorem zmR {x1}(h:PA X es t):PE X (.Tuple es x1 pos) (zo7 t):=by
 intro pins s σ H Q I hq
 refine wpAny_Tuple_spliced (thn (h pos pins s σ H _ I hq) fun us s1 ⟨xs,H1,I1,r,z,q⟩=>⟨by rw [<- r.length];exact z,?_⟩)
 have hf:H1 s1.heap.objs.size=none:=I1.hok.fresh (Nat.le_refl _)
 refine⟨.ref s1.heap.objs.size,upd H1 s1.heap.objs.size (.tup xs),I1.laid (t':=s1.toks) (fun b u e=>Heap.get?_push_of_some _ e) (Nat.le_refl _) ?_,rfl,q _ hf⟩
 exact⟨z,us,r,⟨_,Heap.get?_push_size _ rfl,rfl,_,rfl⟩⟩
theorem zmG (h:PA X es t):PE X (.List es pos) (zpi t):=by
 intro pins s σ H Q I hq
 refine wpAny_List_spliced (thn (h pos pins s σ H _ I hq) fun us s1 ⟨xs,H1,I1,r,z,q⟩=>⟨by rw [<- r.length];exact z,?_⟩)
 have hf:H1 s1.heap.objs.size=none:=I1.hok.fresh (Nat.le_refl _)
 refine⟨.ref s1.heap.objs.size,upd H1 s1.heap.objs.size (.lst xs),I1.laid (t':=s1.toks) (fun b u e=>Heap.get?_push_of_some _ e) (Nat.le_refl _) ?_,rfl,q _ hf⟩
 exact⟨z,us,0,r,Heap.get?_push_size _ rfl⟩
end
abbrev Sp:=List V->Hp->VK->XK->Prop
abbrev CXT:=List Env->Hp->Shared->XK->Value->Shared->Prop
structure zfn (P:Program)(w:World)(K:PySem.W.Frag)(mg:Str->Option Value)(base:Heap)(A:Around)(outer:List Env)(s:Shared)(H:Hp):Prop where
 frames:A.frames=some outer
 mod:Mod K mg base
 bs:∀ b o,base.get? b=some o->s.heap.get? b=some o/\H b=none
 bsz:base.objs.size<=s.heap.objs.size
 funs:s.heap.FunFrames base outer
 frf:∀ b∈frs outer,H b=none
 hok:HOk P w H s.heap
 bare:AllBare s.gens
def CE (outer:List Env)(P:Program)(w:World)(H:Hp)(s:Shared)(Q:VK)(u:Value)(s':Shared):Prop :=
 ∃ v H',s'.os=s.os/\AllBare s'.gens/\Un (frs outer) [] H H' s.heap s'.heap/\HOk P w H' s'.heap/\RelV v u/\Q v H'
def CR (CX:CXT)(outer:List Env)(P:Program)(w:World)(H:Hp)(s:Shared)(Q:VK)(E:XK)(r:Result)(s':Shared):Prop :=
 match r with
 | .ok (.ret u)=>CE outer P w H s Q u s'
 | .ok _=>False
 | .error e=>CX outer H s E e s'
structure zP (P:Program)(w:World)(K:PySem.W.Frag)(mg:Str->Option Value)(base:Heap)(CX:CXT)(k:Nat)(f:Addr)(fd:FuncData)(ps:List Str)(sp:Sp):Prop where
 len:∀ vs H Q E,sp vs H Q E->vs.length=ps.length
 run:∀ (A:Around) (outer:List Env) (s:Shared) (H:Hp) (args:Args) (us:List Value) (vs:List V) (Q:VK) (E:XK),zan k A->zfn P w K mg base A outer s H->BindsTo s fd args (ps.zip us)->Vals vs us->sp vs H Q E ->
  codeAny (model P w) A (.call (.ref f) args) (CR CX outer P w H s Q E) s
theorem zP.mono {P:Program}{w:World}{K:PySem.W.Frag}{mg:Str->Option Value}{base:Heap}{CX:CXT}{j k:Nat}{f:Addr}{fd:FuncData}{ps:List Str}{sp:Sp}(F:zP P w K mg base CX j f fd ps sp)(h:j<=k) :
  zP P w K mg base CX k f fd ps sp:=⟨F.len,fun A outer s H args us vs Q E hr=>F.run A outer s H args us vs Q E (hr.mono h)⟩
theorem zfn.make {P:Program}{w:World}{K:PySem.W.Frag}{mg:Str->Option Value}{base:Heap}{A:Around}{outer:List Env}{s:Shared}{H:Hp}(e:zfn P w K mg base A outer s H)(C:Addr)(us:List Value)(kw:List (Str×Value)) :
  zfn P w K mg base (A.under (.builtin "type.__call__" ⟨.ref C::us,kw⟩)) outer s H:=⟨by first | exact e.frames | (simpa [Around.under,Code.envs,Code.isFrame,pushEnvs] using e.frames),e.mod,e.bs,e.bsz,e.funs,e.frf,e.hok,e.bare⟩
section
variable {X:Cx}{pins:List (Addr×Obj)}{σ:St}{H:Hp}{s s':Shared}
theorem Inv.env0 (I:Inv X pins σ H s):zfn X.prog X.w X.K X.mg X.base X.A X.stack s H :=
 ⟨I.ok.frames,I.ok.mod,I.bs,Nat.le_trans I.ok.bsz I.sz,I.stack,I.stkFree,I.hok,I.bare⟩
theorem Inv.after {Q:VK}{u:Value}(I:Inv X pins σ H s)(h:CE X.stack X.prog X.w H s Q u s'):EP X pins σ Q u s':=by
 obtain⟨v,H',os,bare,un,hok,r,q⟩:=h
 obtain⟨hh,g,d,t,os'⟩:=s'
 obtain rfl:os'=s.os:=os
 exact⟨v,H',I.call (h':=hh) (g':=g) (d':=d) (t':=t) (ch:=[]) un hok bare (fun b z=>absurd z (by simp)),r,q⟩
end
def ziK (sp:Sp)(dvs:List V)(E:XK)(t:TA):TE:=fun σ H Q=>t σ H fun vs H1=>sp (vs++dvs) H1 Q E
def Binds (K:PySem.W.Frag)(fd:FuncData)(ps:List Str)(ds:List Value):Prop :=
 ∀ (s:Shared) (us:List Value),K.In s.heap->(us++ds).length=ps.length->BindsTo s fd ⟨us,[]⟩ (ps.zip (us++ds))
theorem Binds.all {K:PySem.W.Frag}{fd:FuncData}{ps:List Str}(h:∀ us:List Value,us.length=ps.length->bindArgs fd ⟨us,[]⟩=pure (ps.zip us)):Binds K fd ps []:=fun s us _ hl=>by
 rw [List.append_nil] at hl ⊢
 exact .of_eq (h us hl)
def Passes (CX:CXT)(X:Cx)(E:XK):Prop:=∀ (pins:List (Addr×Obj)) (σ:St) (H:Hp) (s:Shared) (e:Value) (s':Shared),Inv X pins σ H s->CX X.stack H s E e s'->X.xe e s'
section
variable {X:Cx}{CX:CXT}{k:Nat}{f C:Addr}{fd:FuncData}{ps:List Str}{sp:Sp}{dvs:List V}{ds:List Value}{E:XK}{x m:Str}{p pos apos:Pos}{e o:Expr}{es:List Expr}{ta:TE}{t:TA}
theorem znp {pins:List (Addr×Obj)}{σ:St}{H:Hp}{s:Shared}{Q:VK}{us:List Value}{vs:List V}(F:zP X.prog X.w X.K X.mg X.base CX k f fd ps sp)(hr:zan k X.A)(hb:Binds X.K fd ps ds)(hd:Vals dvs ds)(hx:Passes CX X E)
  (I:Inv X pins σ H s) (r:Vals vs us) (h:sp (vs++dvs) H Q E):wpAny (model X.prog X.w) X.A (call (.ref f) us) (EP X pins σ Q) X.xe s:=by
 have r2:Vals (vs++dvs) (us++ds):=r.append hd
 have hl:(us++ds).length=ps.length:=by rw [<- r2.length];exact F.len _ _ _ _ h
 refine wpAny_call (codeAny_mono (F.run X.A X.stack s H ⟨us,[]⟩ (us++ds) (vs++dvs) Q E hr I.env0 (hb s us I.kIn hl) r2 h) fun r s' hq=>?_)
 cases r with
 | error e=>exact hx pins σ H s e s' I hq
 | ok fl =>
  cases fl with
  | ret u=>exact I.after hq
  | next=>exact False.elim hq
  | brk=>exact False.elim hq
  | cont=>exact False.elim hq
theorem zlp (F:zP X.prog X.w X.K X.mg X.base CX k f fd ps sp)(hr:zan k X.A)(hg:Gl X x)(hm:X.mg x=some (.ref f))(hk:PySem.W.keepIn X.K (.ref f)=true)(hb:Binds X.K fd ps ds)(hd:Vals dvs ds)(hx:Passes CX X E)
  (ha:PA X (e::es) t) (hdb:(x==("__debug__":Str))=false:=by decide) (he:starEach (e::es) X.env=(false,eval e X.env)::starEach es X.env:=by rfl) (hpl:(backTo pos (starEach es X.env)).any (·.1)=false:=by rfl) :
  PE X (.Call (.Name x p) (e::es) [] pos) (ziK sp dvs E t):=by
 intro pins s σ H Q I h
 refine wpAny_Call_Name_kw (zdI I hg hm ?_ hdb)
 refine PySem.W.callWith_K (h₀:=X.base) I.ok.mod.kin hk (thn (ha pos pins s σ H _ I h) fun us s1 ⟨vs,H1,I1,r,q⟩=>⟨I1.kIn,?_⟩) he hpl
 exact znp F hr hb hd hx I1 r q
structure Mk (K:PySem.W.Frag)(C f:Addr):Prop where
 makes:PySem.W.makesIn K C=true
 init:PySem.W.findIn K (.ref C) "__init__"=some (some (.ref f))
 fn:PySem.W.isFn K (.ref f)=true
 kp:PySem.W.keepIn K (.ref C)=true
theorem zkz {pins:List (Addr×Obj)}{σ:St}{H:Hp}{s:Shared}{Q:VK}{us:List Value}{vs:List V}(M:Mk X.K C f)(F:zP X.prog X.w X.K X.mg X.base CX k f fd ps sp)(hr:zan (k+1) X.A)(hb:Binds X.K fd ps ds)(hd:Vals dvs ds)
  (hx:Passes CX X E) (I:Inv X pins σ H s) (r:Vals vs us)
  (h:∀ x dx,H x=none->H dx=none->dx≠x->sp (.ref x::(vs++dvs)) (upd (upd H dx (.own x)) x (.ins C dx [])) (fun v H2=>v=.non/\Q (.ref x) H2) E) :
  wpAny (model X.prog X.w) X.A (call (.ref C) us) (EP X pins σ Q) X.xe s:=by
 have hq:=h (s.heap.objs.size+1) s.heap.objs.size (I.hok.fresh (Nat.le_succ _)) (I.hok.fresh (Nat.le_refl _)) (Nat.ne_of_lt (Nat.lt_succ_self _))
 have I2:=Inv.made (C:=C) I
 have r2:Vals (V.ref (s.heap.objs.size+1)::(vs++dvs)) (Value.ref (s.heap.objs.size+1)::(us++ds)):=.cons rfl (r.append hd)
 have hl:(Value.ref (s.heap.objs.size+1)::us++ds).length=ps.length:=by
  have e:=r2.length
  rw [F.len _ _ _ _ hq] at e
  exact e.symm
 refine wpAny_call (zj0 (f:=f) I.kIn M.makes M.init (beq_iff_eq.mp M.fn) (codeAny_mono (F.run _ X.stack _ _ ⟨Value.ref (s.heap.objs.size+1)::us,[]⟩ (Value.ref (s.heap.objs.size+1)::(us++ds)) _ _ E (hr.make C us [])
  (I2.env0.make C us []) (hb _ (Value.ref (s.heap.objs.size+1)::us) I2.kIn hl) r2 hq) fun r s' hq'=>?_))
 cases r with
 | error e=>exact hx pins σ _ _ e s' I2 hq'
 | ok fl =>
  cases fl with
  | ret u =>
   obtain⟨v,H',I3,rv,ev,q3⟩:=I2.after hq'
   subst ev
   exact⟨rv,⟨V.ref (s.heap.objs.size+1),H',I3,rfl,q3⟩⟩
  | next=>exact False.elim hq'
  | brk=>exact False.elim hq'
  | cont=>exact False.elim hq'
end
section
variable {X:Cx}{CX:CXT}{k:Nat}{f C:Addr}{fd:FuncData}{ps ks:List Str}{sp:Sp}{E:XK}{x m:Str}{p pos apos kpos:Pos}{e o:Expr}{es:List Expr}{kws:List Keyword}{te ta:TE}{t tk:TA}{nm:Option Str}
variable {g:List Value->List Value->List Value}{gV:List V->List V->List V}
end
structure zL (N P:List Str)(sc:Scope):Prop where
 kind:sc.kind=.function
 co:sc.isCoroutine=false
 gen:sc.isGenerator=false
 nd:N.Nodup
 pre:N.take P.length=P
 par:∀ x∈P,sc.names.lookup x=some .local\/sc.names.lookup x=some .cell
 nofree:∀ y∈sc.names,y.2≠.free
theorem zgv {kindOf:Str->Option NameKind}{x:Str}:∀ {binds:List (Str×Value)} {m:Str->Option Value},(∀ v,(x,v)∉binds)->bindL kindOf binds m x=m x
 | [],_,_=>rfl
 | (n,v)::r,m,h=>by
  unfold bindL
  rw [zgv fun w hw=>h w (List.mem_cons_of_mem _ hw)]
  split
  ·have:x≠n:=by rintro rfl;exact h v List.mem_cons_self
   simp [this]
  ·rfl
theorem zgt {kindOf:Str->Option NameKind}{x:Str}:∀ {binds:List (Str×Value)} {m:Str->Option Value},(∀ v,(x,v)∉binds)->bindC kindOf binds m x=m x
 | [],_,_=>rfl
 | (n,v)::r,m,h=>by
  unfold bindC
  rw [zgt fun w hw=>h w (List.mem_cons_of_mem _ hw)]
  split
  ·rfl
  ·have:x≠n:=by rintro rfl;exact h v List.mem_cons_self
   simp [this]
theorem zgu {kindOf:Str->Option NameKind}{x:Str}{v:Value}:∀ {P:List Str} {vs:List Value} {i:Nat} {m:Str->Option Value},P.Nodup->P[i]?=some x->vs[i]?=some v->kindOf x=some .local ->
  bindL kindOf (P.zip vs) m x=some v
 | [],_,_,_,_,h,_,_=>by simp at h
 | _::_,[],_,_,_,_,h,_=>by simp at h
 | p::P,w::vs,0,m,nd,h1,h2,hk=>by
  simp at h1 h2;subst h1;subst h2
  show bindL kindOf ((p,w)::P.zip vs) m p=_
  unfold bindL
  rw [zgv fun v hv=>(List.nodup_cons.mp nd).1 (List.of_mem_zip hv).1,if_pos hk]
  simp
 | p::P,w::vs,i+1,m,nd,h1,h2,hk=>by
  show bindL kindOf ((p,w)::P.zip vs) m x=_
  unfold bindL
  exact zgu (i:=i) (List.nodup_cons.mp nd).2 (by simpa using h1) (by simpa using h2) hk
theorem zgz {kindOf:Str->Option NameKind}{x:Str}{v:Value}:∀ {P:List Str} {vs:List Value} {i:Nat} {m:Str->Option Value},P.Nodup->P[i]?=some x->vs[i]?=some v->kindOf x≠some .local ->
  bindC kindOf (P.zip vs) m x=some v
 | [],_,_,_,_,h,_,_=>by simp at h
 | _::_,[],_,_,_,_,h,_=>by simp at h
 | p::P,w::vs,0,m,nd,h1,h2,hk=>by
  simp at h1 h2;subst h1;subst h2
  show bindC kindOf ((p,w)::P.zip vs) m p=_
  unfold bindC
  rw [zgt fun v hv=>(List.nodup_cons.mp nd).1 (List.of_mem_zip hv).1,if_neg hk]
  simp
 | p::P,w::vs,i+1,m,nd,h1,h2,hk=>by
  show bindC kindOf ((p,w)::P.zip vs) m x=_
  unfold bindC
  exact zgz (i:=i) (List.nodup_cons.mp nd).2 (by simpa using h1) (by simpa using h2) hk
def start (N:List Str)(vs:List V):St:=vs.map some++List.replicate (N.length-vs.length) none
def zdn (CX:CXT)(P:Program)(w:World)(K:PySem.W.Frag)(mg:Str->Option Value)(base:Heap)(N:List Str)(qual:Str)(scope:Scope)(f:Addr)(cd:Value)(A:Around)(outer:List Env)(s:Shared)(H:Hp)(E:XK):Cx where
 prog:=P
 w:=w
 K:=K
 mg:=mg
 base:=base
 A:=A.deeper (envOfC qual scope s.heap.objs.size f cd)
 N:=N
 s₀:=s
 H₀:=H
 env:=envOfC qual scope s.heap.objs.size f cd
 outer:=outer
 stack:=envOfC qual scope s.heap.objs.size f cd::outer
 ex:=[]
 calm:=true
 fn:=fun _=>true
 pn:=[]
 xe:=fun e s'=>wpAny (model P w) (A.deeper (envOfC qual scope s.heap.objs.size f cd)) (leaving (envOfC qual scope s.heap.objs.size f cd) e) (fun _ s''=>CX outer H s E e s'') (fun e' s''=>CX outer H s E e' s'') s'
theorem zhB {sc:Scope}{n:Nat}{x:Str}(h:sc.names.lookup x=some .cell):∃ c,(cellsFrom n sc.names []).lookup x=some c:=by
 have q:=PySem.W.cellsFrom_some sc.names n [] (.inl h)
 exact Option.isSome_iff_exists.mp q
theorem zjc {CX:CXT}{P:Program}{w:World}{K:PySem.W.Frag}{mg:Str->Option Value}{base:Heap}{N ps:List Str}{qual:Str}{scope:Scope}{f:Addr}{cd:Value}{A:Around}{outer:List Env}{s s1:Shared}{H:Hp}{E:XK}{us:List Value}{vs:List V}
    (S:zL N ps scope) (hd:A.handled=none) (e0:zfn P w K mg base A outer s H) (hl:vs.length=ps.length) (r:Vals vs us)
    (x:InCallC s s.heap.objs.size (bindL (envOfC qual scope s.heap.objs.size f cd).kindOf (ps.zip us) fun _=>none) (cellsFrom (s.heap.objs.size+1) scope.names []) (bindC (envOfC qual scope s.heap.objs.size f cd).kindOf (ps.zip us) fun _=>none) s1) :
    Inv (zdn CX P w K mg base N qual scope f cd A outer s H E) [] (start N vs) H s1:=by
  have hpl:ps.length<=N.length:=by have:=congrArg List.length S.pre;rw [List.length_take] at this;omega
  obtain⟨h1,tk,rfl,hk⟩:=x.done
  have noA:∀ b:Addr,b∉(zdn CX P w K mg base N qual scope f cd A outer s H E).ex:=fun b z=>absurd (show b∈([]:List Addr) from z) (by simp)
  refine⟨⟨e0.mod,S.kind,rfl,rfl,Nat.le_refl _,fun y z c h1 h2=>?_,fun y hy=>?_,fun y c _ h=>?_,fun _=>hd,Around.frames_deeper e0.frames,.inr ⟨rfl,rfl⟩,fun b z=>absurd z (noA b),e0.bs,e0.bsz,fun b _ _=>noA b,fun b z=>absurd z (noA b),e0.funs,e0.frf⟩,
    rfl,e0.bare,Un.kept hk,⟨_,x.toInCall.ns,fun i y v h1 h2 h3=>?_⟩,fun y c h=>⟨_,x.cell y c h⟩,e0.hok.fresh (Nat.le_refl _),fun y c h=>?_,fun p hp=>absurd (show p∈([]:List (Addr×Obj)) from hp) (by simp),e0.hok.kept hk,?_⟩
  · exact name_of_addr x.apart (PySem.mem_of_lookup h1) (PySem.mem_of_lookup h2)
  · have hy:scope.names.lookup y=some .cell\/scope.names.lookup y=some .free:=hy
    rcases hy with hy | hy
    · exact zhB hy
    · exact absurd rfl (S.nofree _ (PySem.mem_of_lookup hy))
  · exact Nat.le_of_lt (x.above y c (PySem.mem_of_lookup h))
  · have hi : i < vs.length := by
      unfold start at h2
      by_cases hi:i<vs.length
      · exact hi
      · rw [List.getElem?_append_right (by simpa using hi)] at h2
        rw [List.getElem?_replicate] at h2
        split at h2<;>cases h2
    have ha:vs[i]?=some v:=by
      unfold start at h2
      rw [List.getElem?_append_left (by simpa using hi),List.getElem?_map] at h2
      cases e:vs[i]? with
      | none=>rw [e] at h2;cases h2
      | some a=>rw [e] at h2;cases h2;rfl
    obtain⟨u,hu,rv⟩:=r.get ha
    have hp:ps[i]?=some y:=by
      rw [<- S.pre,List.getElem?_take_of_lt (by omega)];exact h1
    have ndP:ps.Nodup:=by rw [<- S.pre];exact S.nd.sublist (List.take_sublist _ _)
    refine⟨u,rv,?_⟩
    rcases S.par y (List.mem_of_getElem? hp) with k | k
    · exact .inl ⟨k,zgu ndP hp hu k⟩
    · obtain⟨c,e⟩:=zhB (n:=s.heap.objs.size+1) k
      refine .inr ⟨.inl k,c,e,?_⟩
      have q:=x.cell y c e
      rw [zgz ndP hp hu (by show scope.names.lookup y≠_;rw [k];decide)] at q
      exact q
  · exact e0.hok.fresh (Nat.le_of_lt (x.above y c (PySem.mem_of_lookup h)))
  · unfold start
    show _=N.length
    rw [List.length_append,List.length_map,List.length_replicate]
    omega
theorem zk0 {CX:CXT}{P:Program}{w:World}{K:PySem.W.Frag}{mg:Str->Option Value}{base:Heap}{k:Nat}{f:Addr}{name qual:Str}{params:Arguments}{body:List Stmt}{scope:Scope}{dV kV doc pm cdv ct oc:Value}{an od:Option Addr}
  {osl:Array (Option Value)} {N ps:List Str} {sp:Sp} (lk:K.lookup f=some ⟨oc,od,.func (PySem.W.fnOf name qual params body scope dV kV doc pm an cdv ct),osl⟩) (hcd:PySem.W.codeIn K cdv qual=true) (S:zL N ps scope)
  (len:∀ vs H Q E,sp vs H Q E->vs.length=ps.length)
  (hbody:∀ (A:Around) (outer:List Env) (s:Shared) (H:Hp) (vs:List V) (Q:VK) (E:XK),zan k (A.deeper (envOfC qual scope s.heap.objs.size f cdv))->sp vs H Q E ->
   ∃ t,PSs (zdn CX P w K mg base N qual scope f cdv A outer s H E) body t/\t { nx:=fun _ H'=>Q .non H',rt:=Q } (start N vs) H) :
  zP P w K mg base CX (k+1) f (PySem.W.fnOf name qual params body scope dV kV doc pm an cdv ct) ps sp:=by
 refine⟨len,fun A outer s H args us vs Q E hr e0 hb r hsp=>?_⟩
 have hl:=len _ _ _ _ hsp
 have KX:K.In s.heap:=e0.mod.kin.keeps fun b o e=>(e0.bs b o e).1
 have lim:s.heap.NoLimit:=e0.mod.nolimit.keeps fun b o e=>(e0.bs b o e).1
 have hkind:∀ y∈ps.zip us,scope.names.lookup y.1=some .local\/(scope.names.lookup y.1=some .cell/\((cellsFrom (s.heap.objs.size+1) scope.names []).lookup y.1).isSome=true):=fun⟨n,v⟩ hy=>by
  rcases S.par n (List.of_mem_zip hy).1 with q | q
  ·exact .inl q
  ·exact .inr ⟨q,PySem.W.cellsFrom_some _ _ _ (.inl q)⟩
 refine codeAny_call_function hr.depth (KX _ _ lk) rfl S.co S.gen rfl (PySem.W.codeRec_of KX hcd) (hb _ _ _ _ ?_)
 refine wpAny_newFunctionEnv_cells S.kind hkind fun env he s1 x=>?_
 subst he
 refine⟨lim.keeps x.toInCall.keep,codeAny_func ?_⟩
 obtain⟨t,ht,hq⟩:=hbody A outer s H vs Q E (hr.deeper _) hsp
 have I:Inv (zdn CX P w K mg base N qual scope f cdv A outer s H E) [] (start N vs) H s1:=zjc S hr.hd e0 hl r x
 refine wpAny_mono (ht [] s1 (start N vs) H _ I hq) (fun fl s' hs=>?_) fun e s' hs=>hs
 have fin:∀ {σ':St} {H':Hp} {v:V} {u:Value},Inv (zdn CX P w K mg base N qual scope f cdv A outer s H E) [] σ' H' s'->RelV v u->Q v H'->CE outer P w H s Q u s' :=
  fun {σ' H' v u} J rv q=>⟨v,H',J.os,J.bare,J.base,J.hok,rv,q⟩
 cases fl with
 | ret u =>
  obtain⟨v,σ',H',J,rv,q⟩:=hs
  exact fin J rv q
 | next =>
  obtain⟨σ',H',J,q⟩:=hs
  exact fin (v:=V.non) (u:=Value.none) J rfl q
 | brk =>
  obtain⟨_,_,_,q⟩:=hs
  exact False.elim q
 | cont =>
  obtain⟨_,_,_,q⟩:=hs
  exact False.elim q
section
variable {X:Cx}{x:Str}{p pos:Pos}{e:Expr}{es:List Expr}{t:TA}{id T:String}{r:List V->Hp->VK->Prop}
def tCB (r:List V->Hp->VK->Prop)(t:TA):TE:=fun σ H Q=>t σ H fun vs H1=>r vs H1 Q
theorem zkH (hc:za4 X (.builtin id) r)(hg:Gl X x)(hm:X.mg x=none)(hv:bootBuiltins x=some (.builtin id))(ha:PA X (e::es) t)(hn:x≠"__name__":=by decide)(hdb:(x==("__debug__":Str))=false:=by decide)
  (he:starEach (e::es) X.env=(false,eval e X.env)::starEach es X.env:=by rfl) (hpl:(backTo pos (starEach es X.env)).any (·.1)=false:=by rfl):PE X (.Call (.Name x p) (e::es) [] pos) (tCB r t):=by
 intro pins s σ H Q I h
 refine wpAny_Call_Name_kw (zda I hg hm hv ?_ hn hdb)
 exact PyProof.Rows.callWith_builtin1 (thn (ha pos pins s σ H _ I h) fun us s1 ⟨vs,H1,I1,r1,q1⟩=>hc pins s1 σ H1 vs us Q I1 r1 q1) he hpl
theorem zja (hc:za4 X (.type T) r)(hg:Gl X x)(hm:X.mg x=none)(hv:bootBuiltins x=some (.type T))(ha:PA X (e::es) t)(hn:x≠"__name__":=by decide)(hdb:(x==("__debug__":Str))=false:=by decide)
  (he:starEach (e::es) X.env=(false,eval e X.env)::starEach es X.env:=by rfl) (hpl:(backTo pos (starEach es X.env)).any (·.1)=false:=by rfl):PE X (.Call (.Name x p) (e::es) [] pos) (tCB r t):=by
 intro pins s σ H Q I h
 refine wpAny_Call_Name_kw (zda I hg hm hv ?_ hn hdb)
 exact PyProof.Rows.callWith_type1 (thn (ha pos pins s σ H _ I h) fun us s1 ⟨vs,H1,I1,r1,q1⟩=>hc pins s1 σ H1 vs us Q I1 r1 q1) he hpl
end
end L2
namespace HT
open PySem PyProof.Rows
section
open PySem.SeqAt
open PySem.AutoSeq1 (wpAny_loadPart')
open PySem.MeetsSeq PySem.MeetsSeq2 PySem.MeetsSeq3
end
section
variable {prog:Program}{w:World}{A:Around}{E:Value->Shared->Prop}{s:Shared}
theorem zk6 {t b:Addr}{vs ws:List Value}{Q:Value->Shared->Prop}(ht:IsTup s.heap t vs.toArray)(hb:IsTup s.heap b ws.toArray)(hv:vs≠[])
  (h1:ws=[]->Q (.ref t) s) (h2:ws≠[]->Q (.ref s.heap.objs.size) { s with heap:=s.heap.push { cls:=.type "tuple",data:=.seq (vs++ws).toArray } })
  (hsz:vs.length+ws.length<=sizeLine):wpAny (model prog w) A (binaryOp .Add (.ref t) (.ref b)) Q E s:=by
 obtain⟨⟨cls,dd,data,sl⟩,ho,hc,n,hd⟩:=id ht
 obtain⟨⟨cls2,dd2,data2,sl2⟩,ho2,hc2,n2,hd2⟩:=id hb
 simp only at hc hd hc2 hd2
 subst hc hd hc2 hd2
 have e:vs.toArray++ws.toArray=(vs++ws).toArray:=by simp
 by_cases hw:ws=[]
 ·exact concat_meets ⟨_,ho,rfl⟩ ⟨_,ho2,rfl⟩ noFill_tuple_add seq_tuple_add PySem.F.slot_tuple_add PySem.F.entry_tuple_add (PySem.F.args_tuple_add_2 _ _)
   (tuple_addW1 t b vs.toArray ws.toArray n n2 dd dd2 sl sl2 (by simpa using hv) (by simp [hw])) ⟨ho,ho2,h1 hw⟩
 ·refine concat_meets ⟨_,ho,rfl⟩ ⟨_,ho2,rfl⟩ noFill_tuple_add seq_tuple_add PySem.F.slot_tuple_add PySem.F.entry_tuple_add (PySem.F.args_tuple_add_2 _ _)
   (tuple_addW2 t b vs.toArray ws.toArray n n2 dd dd2 sl sl2 (by simpa using hv) (by simpa using hw) (by rw [List.size_toArray,List.size_toArray];exact hsz)) ⟨ho,ho2,?_⟩
  rw [e]
  exact h2 hw
end
end HT
namespace L2
open PySem PySem.Spec PyProof.Rows
section
variable {X:Cx}{e:Expr}{te:TE}{lo hi:Option Expr}{tl th:TO}{pos p2:Pos}
def zoM (K:PySem.W.Frag):R2:=fun x y H Q=>∃ a b xs ys,x=.ref a/\y=.ref b/\SqT K H a xs/\SqT K H b ys/\xs≠[]/\xs.length+ys.length<=sizeLine /\
 (ys=[]->Q (.ref a) H)/\(ys≠[]->∀ p,H p=none->Q (.ref p) (upd H p (.tup (xs++ys))))
theorem Vals.nil_iff {xs:List V}{us:List Value}(r:Vals xs us):us=[]↔xs=[]:=by
 cases r with
 | nil=>simp
 | cons _ _=>simp
theorem zk9:OpR X (binaryOp .Add) (zoM X.K):=by
 intro pins s σ H x y v u Q I rx ry h
 obtain⟨a,b,xs,ys,rfl,rfl,ha,hb,hx,hz,q1,q2⟩:=h
 cases rx
 cases ry
 obtain⟨its,r1,p1,_⟩:=I.tuple ha
 obtain⟨its2,r2,p2,_⟩:=I.tuple hb
 refine HT.zk6 p1 p2 (fun z=>hx (r1.nil_iff.mp z)) (fun z=>⟨.ref a,H,I,rfl,q1 (r2.nil_iff.mp z)⟩) (fun z=>?_) (by rw [<- r1.length,<- r2.length];exact hz)
 refine⟨.ref s.heap.objs.size,_,I.laid (t':=s.toks) (o:=.tup (xs++ys)) (fun b ob q=>Heap.get?_push_of_some _ q) (Nat.le_refl _) ?_,rfl,q2 (fun w=>z (r2.nil_iff.mpr w)) _ (I.hok.fresh (Nat.le_refl _))⟩
 exact⟨by rw [List.length_append];exact hz,_,r1.append r2,IsTup.new _ _⟩
end
def ixN (n:Nat)(i:Int):Option Nat:=if 0<=i then (if i<n then some i.toNat else none) else if -(n:Int)<=i then some (i+n).toNat else none
def atI {α:Type}(xs:List α)(i:Int):Option α:=(ixN xs.length i).bind fun j=>xs[j]?
theorem ziq {n:Nat}{i:Int}{j:Nat}(h:ixN n i=some j):seqIndex? i n=some j/\j<n/\-(n:Int)<=i/\i<n:=by
 unfold ixN at h
 by_cases h0:0<=i
 ·rw [if_pos h0] at h
  by_cases h1:i<n
  ·rw [if_pos h1] at h
   have e:i.toNat=j:=Option.some.inj h
   exact⟨by rw [seqIndex_of h0 h1,e],by omega,by omega,h1⟩
  ·rw [if_neg h1] at h;cases h
 ·rw [if_neg h0] at h
  by_cases h1:-(n:Int)<=i
  ·rw [if_pos h1] at h
   have e:(i+n).toNat=j:=Option.some.inj h
   exact⟨by rw [seqIndex_neg (by omega) h1,e],by omega,h1,by omega⟩
  ·rw [if_neg h1] at h;cases h
theorem zgi {α:Type}{xs:List α}{i:Int}{v:α}(h:atI xs i=some v):∃ j,seqIndex? i xs.length=some j/\xs[j]?=some v/\j<xs.length/\-(xs.length:Int)<=i/\i<xs.length:=by
 unfold atI at h
 cases e:ixN xs.length i with
 | none=>rw [e] at h;cases h
 | some j =>
  rw [e] at h
  obtain⟨h1,h2,h3,h4⟩:=ziq e
  exact⟨j,h1,h,h2,h3,h4⟩
def zis (b:Expr):Prop:=∀ o i,subscripted b false o i=operate [o,i] (getItem o i)
def IxR (X:Cx)(r:R2):Prop :=
 ∀ (value slice:Expr) (pins:List (Addr×Obj)) (s:Shared) (σ:St) (H:Hp) (x y:V) (v u:Value) (Q:VK),Inv X pins σ H s->RelV x v->RelV y u->r x y H Q ->
  subscripted slice false v u=operate [v,u] (getItem v u)->wpAny (model X.prog X.w) X.A (subscriptTail value slice v u) (EP X pins σ Q) X.xe s
def MtR (X:Cx)(id:String)(r:V->List V->Hp->VK->Prop):Prop :=
 ∀ (pins:List (Addr×Obj)) (s:Shared) (σ:St) (H:Hp) (x:V) (xs:List V) (v:Value) (us:List Value) (Q:VK),Inv X pins σ H s->RelV x v->Vals xs us->r x xs H Q ->
  wpAny (model X.prog X.w) X.A (call (.builtin id) (v::us)) (EP X pins σ Q) X.xe s
section
variable {X:Cx}{a b:Expr}{ta tb:TE}{pos:Pos}
theorem IxR.or {r r':R2}(h:IxR X r)(h':IxR X r'):IxR X (fun x y H Q=>r x y H Q\/r' x y H Q):=by
 intro value slice pins s σ H x y v u Q I rx ry q hs
 rcases q with q | q
 ·exact h value slice pins s σ H x y v u Q I rx ry q hs
 ·exact h' value slice pins s σ H x y v u Q I rx ry q hs
theorem zoh {r:R2}(hr:IxR X r)(ha:PE X a ta)(hb:PE X b tb)(hs:zis b):PE X (.Subscript a b pos) (tOp r ta tb):=by
 intro pins s σ H Q I h
 exact Subscript_ (zkl ha hb I h fun v u s2 x y H2 I2 rx ry q=>hr a b pins s2 σ H2 x y v u Q I2 rx ry q (hs _ _))
def zpb (K:PySem.W.Frag):R2:=fun x y H Q=>∃ p xs i v,x=.ref p/\y=.int i/\SqL K H p xs/\atI xs i=some v/\Q v H
def zpp (K:PySem.W.Frag):R2:=fun x y H Q=>∃ p xs i v,x=.ref p/\y=.int i/\SqT K H p xs/\atI xs i=some v/\Q v H
def zoW:R2:=fun x y H Q=>∃ z i c,x=.str z/\y=.int i/\z.length<=sizeLine/\atI z.cps.toList i=some c/\Q (.str ⟨#[c]⟩) H
theorem zlx:IxR X (zpb X.K):=by
  intro value slice pins s σ H x y v u Q I rx ry h hs
  obtain⟨p,xs,i,z,rfl,rfl,hq,he,q⟩:=h
  cases rx
  obtain⟨t,rfl⟩:=ry
  obtain⟨its,r,pl,hz⟩:=I.list hq
  obtain⟨j,h1,h2,h3,h4,h5⟩:=zgi he
  obtain⟨w,ew,rw'⟩:=r.get h2
  have hl:=r.length
  have hn:=zdL
  have fin:EP X pins σ Q w s:=⟨z,H,I,rw',q⟩
  by_cases h0:0<=i
  · have hj : i.toNat = j := by
      rw [seqIndex_of h0 h5] at h1
      exact Option.some.inj h1
    exact item_listR pl.isList h0 (by omega) (by rw [hj];simpa using ew) fin hs
  · have hj : (i + (its.toArray.size : Int)).toNat = j := by
      rw [seqIndex_neg (by omega) h4] at h1
      rw [List.size_toArray,<- hl]
      exact Option.some.inj h1
    exact subscriptTail_builtinR (x:=w) pl.isList.typeIs slot_list_getitem.lookup
      (wpAny_getItem_list_neg (Q:=fun r s'=>r=w/\EP X pins σ Q r s') pl.isList (by omega) (by rw [List.size_toArray]<;>omega) (by omega) (by rw [hj];simpa using ew) ⟨rfl,fin⟩) hs
theorem zni:IxR X (zpp X.K):=by
 intro value slice pins s σ H x y v u Q I rx ry h hs
 obtain⟨p,xs,i,z,rfl,rfl,hq,he,q⟩:=h
 cases rx
 obtain⟨t,rfl⟩:=ry
 obtain⟨its,r,pl,hz⟩:=I.tuple hq
 obtain⟨j,h1,h2,h3,h4,h5⟩:=zgi he
 obtain⟨w,ew,rw'⟩:=r.get h2
 have hl:=r.length
 have hn:=zdL
 have fin:EP X pins σ Q w s:=⟨z,H,I,rw',q⟩
 exact subscriptTail_builtinR (x:=w) pl.typeIs slot_tuple_getitem.lookup
  (getItem_tuple (j:=j) (Q:=fun r s'=>r=w/\EP X pins σ Q r s') pl (by omega) (by omega) (by rw [List.size_toArray,<- hl];exact h1) (by simpa using ew) ⟨rfl,fin⟩) hs
theorem zmd:IxR X zoW:=by
 intro value slice pins s σ H x y v u Q I rx ry h hs
 obtain⟨z,i,c,rfl,rfl,hz,he,q⟩:=h
 obtain⟨t,rfl⟩:=rx
 obtain⟨t',rfl⟩:=ry
 obtain⟨j,h1,h2,h3,h4,h5⟩:=zgi he
 have hl:z.cps.toList.length=z.length:=by simp [Str.length]
 rw [hl] at h1 h4 h5
 have hn:=zdL
 exact tail_any (typeIs_str s z t) slot_str_getitem.lookup (getItem_str (c:=c) (by
  have e1:decide (i < -(2 ^ 63:Int))=false:=decide_eq_false (by omega)
  have e2:decide (i ≥ 2 ^ 63)=false:=decide_eq_false (by omega)
  rw [e1,e2,Bool.or_false]) (by rw [h1];simpa using h2) ⟨.str ⟨#[c]⟩,H,I.tok _,⟨_,rfl⟩,q⟩) hs
theorem ziy (its:List Value)(n j:Nat)(u:Value):Obj.mapSeq (·.setIfInBounds j u) { cls:=.type "list",data:=.seq its.toArray n }={ cls:=.type "list",data:=.seq (its.set j u).toArray n }:=by
 simp [Obj.mapSeq]
theorem Inv.lst {pins:List (Addr×Obj)}{σ:St}{H:Hp}{s:Shared}{p:Addr}{xs:List V}(I:Inv X pins σ H s)(h:H p=some (.lst xs)) :
  ∃ (its:List Value) (n:Nat),Vals xs its/\s.heap.get? p=some { cls:=.type "list",data:=.seq its.toArray n }/\xs.length<=sizeLine:=by
 obtain⟨z,its,n,r,e⟩:=I.hok p _ h
 exact⟨its,n,r,e,z⟩
theorem Inv.lstUpd {pins:List (Addr×Obj)}{σ:St}{H:Hp}{s:Shared}{p:Addr}{xs ys:List V}{its its':List Value}{n n':Nat}{f:Obj->Obj}(I:Inv X pins σ H s)(h:H p=some (.lst xs))
    (ho:s.heap.get? p=some { cls:=.type "list",data:=.seq its.toArray n }) (hf:f { cls:=.type "list",data:=.seq its.toArray n }={ cls:=.type "list",data:=.seq its'.toArray n' }) (r:Vals ys its') (hz:ys.length<=sizeLine) (t:Nat) :
    Inv X pins σ (upd H p (.lst ys)) { s with heap:=s.heap.update p f,toks:=t }:=by
  have e:(s.heap.update p f).get? p=some { cls:=.type "list",data:=.seq its'.toArray n' }:=by
    rw [Heap.get?_update_self f ho (by rw [hf]<;>rfl),hf]
  refine I.write (x:=p) (e:=p) (by rw [h];trivial) (.inl rfl) (fun b u hb q=>(Heap.get?_update_other _ _ (Ne.symm hb)).trans q) ⟨_,e⟩ ?_
  exact⟨hz,its',n',r,e⟩
def znQ:V->V->V->Hp->(Hp->Prop)->Prop:=fun o i v H Q=>∃ p xs k j,o=.ref p/\i=.int k/\H p=some (.lst xs)/\ixN xs.length k=some j/\Q (upd H p (.lst (xs.set j v)))
theorem set_list:zl7 X znQ:=by
 intro pins s σ H o i v ov iv u Q I ro ri rv h
 obtain⟨p,xs,k,j,rfl,rfl,hp,hj,q⟩:=h
 cases ro
 obtain⟨t,rfl⟩:=ri
 obtain⟨its,n,r,ho,hz⟩:=I.lst hp
 obtain⟨h1,h2,h3,h4⟩:=ziq hj
 have hl:=r.length
 have hn:=zdL
 have I':Inv X pins σ (upd H p (.lst (xs.set j v))) { s with heap:=s.heap.update p (Obj.mapSeq (·.setIfInBounds j u)) } :=
  I.lstUpd hp ho (ziy its n j u) (r.set rv j) (by rw [List.length_set];exact hz) s.toks
 by_cases h0:0<=k
 ·have hk:k.toNat=j:=by
   rw [seqIndex_of h0 h4] at h1
   exact Option.some.inj h1
  exact PySem.W.ki_setAt ho h0 (by omega) (by rw [List.size_toArray,<- hl];exact h4) (by rw [hk];exact⟨_,I',q⟩)
 ·have hk:(k+(its.toArray.size:Int)).toNat=j:=by
   rw [seqIndex_neg (by omega) h3] at h1
   rw [List.size_toArray,<- hl]
   exact Option.some.inj h1
  exact PySem.W.ki_setBack ho (by omega) (by rw [List.size_toArray,<- hl];exact h3) (by omega) (by rw [hk];exact⟨_,I',q⟩)
theorem zhc:za4 X (.builtin "len") (fun xs H Q=>∃ p ys,xs=[.ref p]/\(SqL X.K H p ys\/SqT X.K H p ys)/\Q (.int ys.length) H):=by
  intro pins s σ H xs us Q I r h
  obtain⟨p,ys,rfl,hq,q⟩:=h
  obtain⟨u,rfl,rx⟩:=vals1 r
  cases rx
  have hn:=zdL
  rcases hq with hq | hq
  · obtain⟨its,r',pl,hz⟩:=I.list hq
    have hlen:=r'.length
    exact Calls.call_len_list pl.isList (by simp only [List.size_toArray]<;>omega) ⟨.int ys.length,H,I.tok _,⟨s.toks+1,by rw [List.size_toArray,hlen]⟩,q⟩
  · obtain⟨its,r',pl,hz⟩:=I.tuple hq
    have hlen:=r'.length
    exact len_tuple pl (by simp only [List.size_toArray]<;>omega) ⟨.int ys.length,H,I.tok _,⟨s.toks+1,by rw [List.size_toArray,hlen]⟩,q⟩
theorem zhu:za4 X (.builtin "len") (fun xs H Q=>∃ z,xs=[.str z]/\z.length<=sizeLine/\Q (.int z.length) H):=by
 intro pins s σ H xs us Q I r h
 obtain⟨z,rfl,hz,q⟩:=h
 obtain⟨u,rfl,t,rfl⟩:=vals1 r
 have hn:=zdL
 exact len_str (by omega) ⟨.int z.length,H,I.tok _,⟨_,rfl⟩,q⟩
theorem za4.or {f:Value}{r r':List V->Hp->VK->Prop}(h:za4 X f r)(h':za4 X f r'):za4 X f (fun xs H Q=>r xs H Q\/r' xs H Q):=by
 intro pins s σ H xs us Q I rs q
 rcases q with q | q
 ·exact h pins s σ H xs us Q I rs q
 ·exact h' pins s σ H xs us Q I rs q
theorem zhz:za4 X (.type "list") (fun xs H Q=>∃ p ys,xs=[.ref p]/\(SqL X.K H p ys\/SqT X.K H p ys)/\∀ l,H l=none->Q (.ref l) (upd H l (.lst ys))):=by
  intro pins s σ H xs us Q I r h
  obtain⟨p,ys,rfl,hq,q⟩:=h
  obtain⟨u,rfl,rx⟩:=vals1 r
  cases rx
  have fin : ∀ (its : List Value), Vals ys its → ys.length ≤ sizeLine → ∀ (h' : Heap) (c' : Nat), (∀ b o', s.heap.get? b = some o' → h'.get? b = some o') →
      h'.get? s.heap.objs.size=some { cls:=.type "list",dict:=none,data:=.seq its.toArray c',slots:=#[] }->EP X pins σ Q (.ref s.heap.objs.size) { s with heap:=h' }:=fun its r' hz h' c' kp e =>
    ⟨.ref s.heap.objs.size,_,I.laid (t':=s.toks) kp (Nat.le_refl _) (show zaP X.prog X.w _ h' _ (.lst ys) from ⟨hz,its,c',r',e⟩),rfl,q _ (I.hok.fresh (Nat.le_refl _))⟩
  rcases hq with hq | hq
  · obtain⟨its,r',pl,hz⟩:=I.list hq
    have hlen:=r'.length
    obtain⟨o,ho,hc,n,hd⟩:=pl.isList
    exact call_list_seq p (.inl rfl) ho hc hd (fun h' c' kp e=>fin its r' hz h' c' kp e) (by simp only [List.size_toArray]<;>omega)
  · obtain⟨its,r',pl,hz⟩:=I.tuple hq
    have hlen:=r'.length
    obtain⟨o,ho,hc,n,hd⟩:=pl
    exact call_list_seq p (.inr rfl) ho hc hd (fun h' c' kp e=>fin its r' hz h' c' kp e) (by simp only [List.size_toArray]<;>omega)
def tyV (K:PySem.W.Frag)(T:String)(x:V)(H:Hp):Prop:=match x with
 | .str _=>T="str"
 | .int _=>T="int"
 | .ref p=>(T="list"/\∃ xs,SqL K H p xs)\/(T="tuple"/\∃ o,K.lookup p=some o/\o.cls=.type "tuple"/\o.dict=none) \/
   (T="dict"/\((∃ kvs,H p=some (.dK kvs))\/∃ kvs,H p=some (.dT kvs)))\/(T="set"/\∃ S n,H p=some (.set S n))
 | _=>False
theorem zmN {pins:List (Addr×Obj)}{σ:St}{H:Hp}{s:Shared}{T:String}{x:V}{v:Value}(I:Inv X pins σ H s)(r:RelV x v)(ty:tyV X.K T x H) :
  s.TypeIs v T/\∀ a,v=.ref a->∃ ob,s.heap.get? a=some ob/\ob.dict=none:=by
 cases x with
 | str z =>
  obtain⟨t,rfl⟩:=r
  cases (show T="str" from ty)
  exact⟨typeIs_str s z t,fun _ e=>nomatch e⟩
 | int i =>
  obtain⟨t,rfl⟩:=r
  cases (show T="int" from ty)
  exact⟨typeIs_int s i t,fun _ e=>nomatch e⟩
 | ref p =>
  cases r
  rcases ty with ⟨rfl,xs,hq⟩ | ⟨rfl,o,hk,hc,hd⟩ | ⟨rfl,hk⟩ | ⟨rfl,S,n,hk⟩
  ·obtain⟨its,_,pl,_⟩:=I.list hq
   refine⟨pl.isList.typeIs,fun a e=>?_⟩
   cases e
   obtain⟨o,n,e,c,hd,_⟩:=pl
   exact⟨o,e,hd⟩
  ·refine⟨⟨o,I.kIn p o hk,hc⟩,fun a e=>?_⟩
   cases e
   exact⟨o,I.kIn _ o hk,hd⟩
  ·have z:∃ o,s.heap.get? p=some o/\o.ExactDict:=by
    rcases hk with ⟨kvs,hk⟩ | ⟨kvs,hk⟩
    ·obtain⟨_,_,_,_,o,_,_,e,ex,_⟩:=I.hok p _ hk
     exact⟨o,e,ex⟩
    ·obtain⟨_,_,_,_,o,_,_,e,ex,_⟩:=I.hok p _ hk
     exact⟨o,e,ex⟩
   obtain⟨o,e,ex⟩:=z
   refine⟨⟨o,e,ex.1⟩,fun a e2=>?_⟩
   cases e2
   exact⟨o,e,ex.2.1⟩
  ·obtain⟨o,_,_,_,e,ex,_⟩:=I.hok p _ hk
   refine⟨⟨o,e,ex.1⟩,fun a e2=>?_⟩
   cases e2
   exact⟨o,e,ex.2.1⟩
 | _=>exact False.elim ty
def tBM (K:PySem.W.Frag)(T:String)(r:V->List V->Hp->VK->Prop)(to:TE)(t:TA):TE:=fun σ H Q=>to σ H fun x H1=>tyV K T x H1/\t σ H1 fun xs H2=>r x xs H2 Q
variable {o e:Expr}{es:List Expr}{to:TE}{t:TA}{name:Str}{apos cpos:Pos}{T id:String}{r:V->List V->Hp->VK->Prop}
theorem zn6 (pa:PlainAttrs T)(slot:Slot T name id)(hty:typeOf (.builtin id)=pure (.type "method_descriptor"))(hm:MtR X id r)(ho:PE X o to)(ha:PA X (e::es) t)
    (hbase:attributeBase o name X.env (eval o X.env)=eval o X.env:=by rfl)
    (hfew:((backTo cpos (starEach (e::es) X.env)).all (fun x=>!x.1)&&(backToKw cpos (keywordEach [] X.env)).all (fun x=>x.1.isSome)
     &&decide ((e::es).length+([]:List Keyword).length+(if ([]:List Keyword).isEmpty then 0 else 1)<30))=true:=by rfl)
    (hline:(apos.endLine==cpos.line)=true:=by rfl) (hs:starEach (e::es) X.env=(false,eval e X.env)::starEach es X.env:=by rfl) (hplain:(backTo cpos (starEach es X.env)).any (·.1)=false:=by rfl) :
    PE X (.Call (.Attribute o name apos) (e::es) [] cpos) (tBM X.K T r to t):=by
  intro pins s σ H Q I h
  refine wpAny_Call_method_late hbase hfew hline rfl (thn (ho pins s σ H _ I h) fun v s1 ⟨x,H1,I1,r1,ty,q1⟩=>?_)
  obtain⟨h1,h2⟩:=zmN I1 r1 ty
  refine⟨T,id,pa,slot,hty,h1,h2,?_⟩
  have hA:=ha cpos pins s1 σ H1 _ I1 q1
  rw [hs] at hA ⊢
  refine Calls.callWith_builtin (by show (false||(backTo cpos (starEach es X.env)).any (·.1))=false;rw [hplain]<;>rfl) (Calls.evalArgs_plain ?_)
  exact thn hA fun us s2 ⟨vs,H2,I2,r2,q2⟩=>hm pins s2 σ H2 x vs v us Q I2 r1 r2 q2
/- xs.append(e),list.index on a module's tuple .. are MtR facts of 06m -/
end
def MtM (X:Cx)(id:String)(r:V->List V->Hp->VK->Prop):Prop :=
 ∀ (pins:List (Addr×Obj)) (s:Shared) (σ:St) (H:Hp) (x:V) (xs:List V) (v:Value) (us:List Value) (Q:VK),Inv X pins σ H s->RelV x v->Vals xs us->r x xs H Q ->
  wpAny (model X.prog X.w) X.A (call (.builtin id) (v::us)) (EP X pins σ Q) X.xe s
theorem Vals.one:∀ {x:V} {us:List Value},Vals [x] us->∃ u,us=[u]/\RelV x u
 | _,_,.cons r .nil=>⟨_,rfl,r⟩
section
variable {X:Cx}{pins:List (Addr×Obj)}{σ:St}{H:Hp}{s:Shared}{l b:Addr}{xs ys zs:List V}
theorem Inv.lset {its its':List Value}{n:Nat}{f:Array Value->Array Value}{t':Nat}(I:Inv X pins σ H s)(hH:H l=some (.lst xs))
  (e:s.heap.get? l=some { cls:=.type "list",data:=.seq its.toArray n }) (hf:f its.toArray=its'.toArray) (hv:Vals ys its') (hz:ys.length<=sizeLine) :
  Inv X pins σ (upd H l (.lst ys)) { s with heap:=s.heap.update l (Obj.mapSeq f),toks:=t' }:=by
 have q:=PySem.IsL.update e f
 rw [hf] at q
 refine I.write (x:=l) (e:=l) (by rw [hH];exact trivial) (.inl rfl) (fun b' u hb hu=>(Heap.get?_update_other s.heap (Obj.mapSeq f) (Ne.symm hb)).trans hu) ⟨_,q⟩ ?_
 exact⟨hz,its',_,hv,q⟩
theorem Inv.lnew {its:List Value}{t':Nat}(I:Inv X pins σ H s)(hv:Vals ys its)(hz:ys.length<=sizeLine) :
  Inv X pins σ (upd H s.heap.objs.size (.lst ys)) { s with heap:=s.heap.push { cls:=.type "list",data:=.seq its.toArray },toks:=t' } :=
 I.laid (fun _ _ q=>Heap.get?_push_of_some _ q) (Nat.le_refl _) ⟨hz,its,0,hv,Heap.get?_push_size _ rfl⟩
theorem Inv.fresh (I:Inv X pins σ H s):H s.heap.objs.size=none:=I.hok.fresh (Nat.le_refl _)
theorem Inv.lstM (I:Inv X pins σ H s)(hH:H l=some (.lst xs)):xs.length<=sizeLine/\∃ (its:List Value) (n:Nat),Vals xs its/\xs.length=its.length/\s.heap.get? l=some { cls:=.type "list",data:=.seq its.toArray n }:=by
 obtain⟨z,its,n,r,e⟩:=I.hok l _ hH
 exact⟨z,its,n,r,r.length,e⟩
end
section
variable {X:Cx}
def zir:V->List V->Hp->VK->Prop:=fun x vs H Q=>∃ l xs y,x=.ref l/\vs=[y]/\H l=some (.lst xs)/\xs.length<sizeLine/\Q .non (upd H l (.lst (xs++[y])))
theorem zgp:MtM X "list.append" zir:=by
 intro pins s σ H x vs v us Q I rx rv h
 obtain⟨l,xs,y,rfl,rfl,hH,hz,q⟩:=h
 cases rx
 obtain⟨u,rfl,ru⟩:=rv.one
 obtain⟨z,its,n,r,hl,e⟩:=I.lstM hH
 refine call_meets F.slot_list_append ⟨_,e,rfl⟩ F.entry_list_append (F.args_list_append_2 _ _) (PySem.list_append l its.toArray n u (by rw [List.size_toArray];omega)) ⟨e,?_⟩
 refine⟨.non,_,I.lset (its':=its++[u]) hH e (by simp) (r.append (.cons ru .nil)) ?_,rfl,q⟩
 rw [List.length_append,List.length_singleton]
 omega
end
section
variable {prog:Program}{w:World}{A:Around}{E:Value->Shared->Prop}{s:Shared}
end
section
variable {X:Cx}
end
end L2
namespace Att
open PySem PySem.W PySem.Calls PyProof.Rows
theorem zfG {P:Params}{h:Heap}:∀ (ns:List Int) (vs:List Value),WellAll P h vs (ns.map WData.int)->IntsAre vs ns:=by
 intro ns
 induction ns with
 | nil =>
  intro vs w
  rw [List.map_nil] at w
  cases w
  exact .nil
 | cons n ns ih =>
  intro vs w
  rw [List.map_cons] at w
  cases w with
  | cons a b =>
   cases a
   exact .cons _ _ (ih _ b)
theorem zi8 {l:OpenLaw}{n:Nat}(hn:l.most=some n){P:Params}{h:Heap}{args:List WData}{vals:List Value}
  (hpre:l.row.toRowW.claim.pre args=true) (hwl:WellAll P h vals args) :
  ∃ a vs ns,vals=[Value.ref a]/\args=[WData.list (ns.map WData.int)]/\h.get? a=some { cls:=.type "list",data:=.seq vs.toArray }/\IntsAre vs ns/\ns.length<=n:=by
 have hsh:WShape.hasAll [] args [.list .int]=true:=(pre_splitW hpre).1
 have hc:l.pre.holds [] { args:=args }=true:=(pre_splitW hpre).2
 obtain⟨d,r,rfl,h1,h2⟩:=hasAllW_cons hsh
 obtain rfl:=hasAllW_nil h2
 obtain⟨xs,rfl,h3⟩:=hasW_list h1
 obtain⟨ns,rfl⟩:=items_int h3
 have hlen:ns.length<=n:=by
  unfold OpenLaw.pre at hc
  have h4:(WTm.not (.lt (.lit (.int (n:Int))) (.len (.arg 0)))).holds [] { args:=[.list (ns.map .int)] }=true:=by
   have h4:=(holds_andW hc).1
   rw [hn] at h4
   exact h4
  have h5:=condW_of h4 (w_not (w_lt w_lit (w_len_list (w_arg rfl))))
  rw [List.length_map] at h5
  refine Nat.le_of_not_lt fun q=>?_
  have q':(n:Int)<((ns.length:Nat):Int):=by omega
  first
   | (rw [decide_eq_true q'] at h5;exact absurd h5 (by decide))
   | (simp at h5;omega)
 cases hwl with
 | cons w1 w2 =>
  cases w2
  cases w1 with
  | list ho hall=>exact⟨_,_,ns,rfl,rfl,ho,zfG ns _ hall,hlen⟩
theorem zjQ (l:OpenLaw)(args:List WData):l.row.toRowW.claim.post args (.bool true) args=true :=
 postW_of (r:=l.row.toRowW) (X:=(true==true))
  (show WShape.has [] (.bool true) .bool=true by first | rfl | decide | simp [WShape.has,WShape.arms,WShape.armsAll])
  (show (WTm.eq .res (.lit (.bool true))).value [] { args:=args,res:=some (.bool true),after:=args }=some (.bool (true==true)) from w_eq_bool (w_res rfl) w_lit) rfl
section
variable {prog:Program}{w:World}{A:Around}{E:Value->Shared->Prop}{s:Shared}{K:Frag}
end
end Att
namespace L2
open PySem PySem.Spec PyProof.Rows
theorem zgq:∀ {vs:List Value} {ns:List Int},IntsAre vs ns->Vals (ns.map V.int) vs
 | _,_,.nil=>.nil
 | _,_,.cons n t h=>.cons ⟨t,rfl⟩ (zgq h)
def Only (H:Hp):Prop:=∀ b,H b=none\/∃ o xs,H b=some (.frz o (.lst xs))
theorem zkF {P:Program}{w:World}{K:PySem.W.Frag}{mg mb:Str->Option Value}{CX:CXT}{k:Nat}{fa a:Addr}{fd:FuncData}{x:Str}{sp:Sp}{s₁:Shared}{vs:List Value}{ns:List Int}
  (KX:K.In s₁.heap) (hns:s₁.heap.Ns mainGlobals mg) (hb:s₁.heap.Ns builtinsNs mb) (hbb:∀ x:Str,x≠"__name__"->mb x=bootBuiltins x) (hlim:s₁.heap.NoLimit) (hg:s₁.gens=#[])
  (ha:s₁.heap.get? a=some { cls:=.type "list",data:=.seq vs.toArray }) (hi:IntsAre vs ns) (hl:ns.length<=sizeLine) (hr:zan k callerA)
  (F:∀ base:Heap,K.In base->base.Ns mainGlobals mg->zP P w K mg base CX k fa fd [x] sp) (hbind:∀ (s:Shared) (u:Value),BindsTo s fd ⟨[u],[]⟩ [(x,u)])
  (hsp:∀ H:Hp,Only H->SqL K H a (ns.map V.int)->sp [.ref a] H (fun v _=>v=.bl true) fun _ _ _=>False)
  (hCX:∀ H e s',CX [] H s₁ (fun _ _ _=>False) e s'->False) :
  codeAny (model P w) callerA (.call (.ref fa) ⟨[.ref a],[]⟩) (fun r s'=>r=.ok (.ret (.bool true))/\OldK s₁.heap s'.heap/\s'.os=s₁.os/\AllBare s'.gens) s₁:=by
 have rv:=zgq hi
 have lenV:=hi.length
 have core:∀ H:Hp,Only H->SqL K H a (ns.map V.int)->HOk P w H s₁.heap->(∀ b,H b≠none->b=a)->(H a≠none->K.lookup a=none) ->
   codeAny (model P w) callerA (.call (.ref fa) ⟨[.ref a],[]⟩) (fun r s'=>r=.ok (.ret (.bool true))/\OldK s₁.heap s'.heap/\s'.os=s₁.os/\AllBare s'.gens) s₁:=by
  intro H hO hS hok hA hK
  have base_of:∀ {b:Addr} {o:Obj},s₁.heap.get? b=some o->H b=none->(zdZ s₁.heap H).get? b=some o:=fun e n=>zjW e n
  have noA:∀ {b:Addr} {o:Obj} {es:Array DictEntry} {ep:Nat},s₁.heap.get? b=some o->o.data=.dict es ep->H b=none:=fun {b o es ep} e d=>by
   cases q:H b with
   | none=>rfl
   | some u =>
    have e':b=a:=hA b (by rw [q];simp)
    subst e'
    rw [ha] at e;cases e
    have d':Data.seq vs.toArray _=Data.dict es ep:=d
    cases d'
  have nsK:∀ {b:Addr} {m:Str->Option Value},s₁.heap.Ns b m->(zdZ s₁.heap H).Ns b m:=fun {b m} ⟨o,es,ep,e,d,r⟩=>⟨o,es,ep,base_of e (noA e d),d,r⟩
  have hKb:K.In (zdZ s₁.heap H):=fun b o e=>base_of (KX b o e) (by
   cases q:H b with
   | none=>rfl
   | some u =>
    have e':b=a:=hA b (by rw [q];simp)
    subst e'
    rw [hK (by rw [q];simp)] at e;cases e)
  have hM:Mod K mg (zdZ s₁.heap H):=⟨hKb,nsK hns,⟨mb,nsK hb,hbb⟩,let ⟨mc,h1,h2⟩:=hlim;⟨mc,nsK h1,h2⟩⟩
  have e0:zfn P w K mg (zdZ s₁.heap H) callerA [] s₁ H:=⟨rfl,hM,fun b o e=>zls e,Nat.le_of_eq (zjq _ _),trivial,fun b hb=>absurd (show b∈([]:List Addr) from hb) (by simp),hok,.of_eq hg⟩
  refine codeAny_mono ((F _ hKb (nsK hns)).run callerA [] s₁ H ⟨[.ref a],[]⟩ [.ref a] [.ref a] _ _ hr e0 (hbind s₁ (.ref a)) (.cons rfl .nil) (hsp H hO hS)) fun r s' h=>?_
  cases r with
  | error e=>exact (hCX H e s' h).elim
  | ok fl =>
   cases fl with
   | next=>exact False.elim h
   | brk=>exact False.elim h
   | cont=>exact False.elim h
   | ret u =>
    obtain⟨v,H',os,bare,un,hok',r',q⟩:=h
    have q':v=.bl true:=q
    subst q'
    obtain rfl:u=Value.bool true:=r'
    refine⟨rfl,OldK.of_keep fun b o e=>?_,os,bare⟩
    cases q:H b with
    | none=>exact un.keep b o e q (by intro z;exact absurd (show b∈([]:List Addr) from z) (by simp)) (by simp)
    | some u =>
     rcases hO b with z | ⟨ob,xs,z⟩
     ·rw [q] at z;cases z
     ·have z2:=un.frzs b ob _ z
      obtain⟨e1,_⟩:=hok b _ z
      obtain⟨e2,_⟩:=hok' b _ z2
      rw [e] at e1;cases e1
      exact e2
 cases hk:K.lookup a with
 | some o =>
  have e:=KX a o hk
  rw [ha] at e
  cases e
  refine core (fun _=>none) (fun _=>.inl rfl) (.inr ⟨_,vs.toArray,_,hk,rfl,rfl,rfl,by rw [List.size_toArray,lenV];exact hl,by simpa using rv⟩) (fun b u z=>by have z':(none:Option HO)=some u:=z;cases z') (fun b z=>absurd rfl z) fun z=>absurd rfl z
 | none =>
  refine core (fun b=>if b=a then some (.frz { cls:=.type "list",data:=.seq vs.toArray } (.lst (ns.map V.int))) else none) (fun b=>?_) (.inl (.inr ⟨{ cls:=.type "list",data:=.seq vs.toArray },if_pos rfl⟩)) (fun b u z=>?_) (fun b z=>?_) fun _=>hk
  ·by_cases hb:b=a
   ·exact .inr ⟨_,_,if_pos hb⟩
   ·exact .inl (if_neg hb)
  ·by_cases hb:b=a
   ·have z':=(if_pos hb).symm.trans z
    cases z'
    subst hb
    exact⟨ha,by rw [List.length_map];exact hl,vs,_,rv,ha⟩
   ·have z':=(if_neg hb).symm.trans z
    cases z'
  ·by_cases hb:b=a
   ·exact hb
   ·exact absurd (if_neg hb) z
def inClass (s:Stmt)(j:Nat):Stmt:=match s with
 | .ClassDef _ _ _ body _ _ _ _ _ _ _=>body.getD j (.Pass ⟨0,0,0,0⟩)
 | _=>.Pass ⟨0,0,0,0⟩
def za7 (s:Stmt):Arguments:=match s with
 | .FunctionDef _ a _ _ _ _ _ _ _ _=>a
 | _=>{ posonlyargs:=[],args:=[],vararg:=none,kwonlyargs:=[],kw_defaults:=[],kwarg:=none,defaults:=[] }
def zaz (s:Stmt):List Stmt:=match s with
 | .FunctionDef _ _ b _ _ _ _ _ _ _=>b
 | _=>[]
def zF (s:Stmt):Scope:=match s with
 | .FunctionDef _ _ _ _ _ _ sc _ _ _=>sc
 | _=>{ kind:=.function,names:=[],isGenerator:=false,isCoroutine:=false }
abbrev CX0:CXT:=fun _ _ _ _ _ _=>False
abbrev E0:XK:=fun _ _ _=>False
theorem zkN {X:Cx}:Passes CX0 X E0:=fun _ _ _ _ _ _ _ h=>h.elim
structure Fun (K:PySem.W.Frag)(x qual:Str)(st:Stmt)(f:Addr)(fd:FuncData):Prop where
 ex:∃ (oc:Value) (od:Option Addr) (kV doc pm:Value) (an:Option Addr) (cdv ct:Value) (osl:Array (Option Value)),
  fd=PySem.W.fnOf x qual (za7 st) (zaz st) (zF st) .none kV doc pm an cdv ct/\K.lookup f=some ⟨oc,od,.func fd,osl⟩/\PySem.W.codeIn K cdv qual=true
 kp:PySem.W.keepIn K (.ref f)=true
section
variable {P:Program}{w:World}{K:PySem.W.Frag}{mg:Str->Option Value}{base:Heap}
theorem Fun.ok {x qual:Str}{st:Stmt}{f:Addr}{fd:FuncData}{N ps:List Str}{k:Nat}{sp:Sp}(F:Fun K x qual st f fd)(S:zL N ps (zF st))(len:∀ vs H Q E,sp vs H Q E->vs.length=ps.length)
  (hbody:∀ (cdv:Value) (A:Around) (outer:List Env) (s:Shared) (H:Hp) (vs:List V) (Q:VK) (E:XK),zan k (A.deeper (envOfC qual (zF st) s.heap.objs.size f cdv))->sp vs H Q E ->
   ∃ t,PSs (zdn CX0 P w K mg base N qual (zF st) f cdv A outer s H E).nox (zaz st) t/\t { nx:=fun _ H'=>Q .non H',rt:=Q } (start N vs) H):zP P w K mg base CX0 (k+1) f fd ps sp:=by
 obtain⟨oc,od,kV,doc,pm,an,cdv,ct,osl,rfl,lk,hcd⟩:=F.ex
 refine zk0 lk hcd S len fun A outer s H vs Q E hr hsp=>?_
 obtain⟨t,h,q⟩:=hbody cdv A outer s H vs Q E hr hsp
 exact⟨t,h.nox,q⟩
theorem Fun.binds {x qual:Str}{st:Stmt}{f:Addr}{fd:FuncData}{ps:List Str}(F:Fun K x qual st f fd)
  (h:∀ (kV doc pm:Value) (an:Option Addr) (cdv ct:Value) (us:List Value),us.length=ps.length->bindArgs (PySem.W.fnOf x qual (za7 st) (zaz st) (zF st) .none kV doc pm an cdv ct) ⟨us,[]⟩=pure (ps.zip us)):Binds K fd ps []:=by
 obtain⟨oc,od,kV,doc,pm,an,cdv,ct,osl,rfl,lk,hcd⟩:=F.ex
 exact .all (h kV doc pm an cdv ct)
theorem zfK {x qual:Str}{st:Stmt}{f:Addr}{oc:Value}{od an:Option Addr}{osl:Array (Option Value)}{kV doc pm cdv ct:Value}(l:K.lookup f=some ⟨oc,od,.func (PySem.W.fnOf x qual (za7 st) (zaz st) (zF st) .none kV doc pm an cdv ct),osl⟩)
  (c:PySem.W.codeIn K cdv qual=true) (k:PySem.W.keepIn K (.ref f)=true):Fun K x qual st f (PySem.W.fnOf x qual (za7 st) (zaz st) (zF st) .none kV doc pm an cdv ct):=⟨⟨oc,od,kV,doc,pm,an,cdv,ct,osl,rfl,l,c⟩,k⟩
end
section
variable {X:Cx}
end
section
variable {κ:Type}[DecidableEq κ]
end
section
variable {P:Program}{w:World}{H:Hp}{h:Heap}{a:Addr}
end
section
variable {X:Cx}{pins:List (Addr×Obj)}{σ:St}{H:Hp}{s:Shared}{a:Addr}{y v:V}{u r:Value}{o:Option V}{A:Around}{E:Value->Shared->Prop}
end
section
variable {X:Cx}{pins:List (Addr×Obj)}{σ:St}{H:Hp}{s:Shared}{a:Addr}{kvs:List (Key×V)}{k:Key}{u:Value}{A:Around}{E:Value->Shared->Prop}
end
section
variable {X:Cx}{o i e value:Expr}{pos pos' tpos:Pos}{td ty tv:TE}
end
section
variable {X:Cx}{pos:Pos}
end
section
variable {X:Cx}{pins:List (Addr×Obj)}{σ:St}{H:Hp}{s:Shared}{a:Addr}{y d:V}{u r:Value}{o:Option V}{A:Around}{E:Value->Shared->Prop}
end
section
variable {X:Cx}{o e f:Expr}{apos cpos:Pos}{td ty tx:TE}
end
section
variable {X:Cx}{pins:List (Addr×Obj)}{σ:St}{H:Hp}{s:Shared}{a:Addr}{kvs:List (Key×V)}{A:Around}{E:Value->Shared->Prop}
end
section
variable {X:Cx}{pins:List (Addr×Obj)}{σ:St}{H:Hp}{s:Shared}{a:Addr}{y:V}{u:Value}{A:Around}{E:Value->Shared->Prop}
end
end L2
namespace My
def Bd (n:Nat)(x:Int):Prop:=x.natAbs<2 ^ n
theorem Bd.mono {m n:Nat}{x:Int}(h:Bd m x)(hmn:m<=n):Bd n x:=Nat.lt_of_lt_of_le h (Nat.pow_le_pow_right (by decide) hmn)
theorem Bd.add {n:Nat}{x y:Int}(h:Bd n x)(h':Bd n y):Bd (n+1) (x+y):=by
 unfold Bd at *;rw [Nat.pow_succ];omega
theorem Bd.sub {n:Nat}{x y:Int}(h:Bd n x)(h':Bd n y):Bd (n+1) (x-y):=by
 unfold Bd at *;rw [Nat.pow_succ];omega
theorem Bd.mul {m n:Nat}{x y:Int}(h:Bd m x)(h':Bd n y):Bd (m+n) (x*y):=by
 unfold Bd at *;rw [Int.natAbs_mul,Nat.pow_add];exact Nat.mul_lt_mul'' h h'
theorem Bd.of_le {n:Nat}{x y:Int}(h:Bd n y)(h':x.natAbs<=y.natAbs):Bd n x:=Nat.lt_of_le_of_lt h' h
theorem Bd.dvd {n:Nat}{x y:Int}(h:Bd n y)(h0:y≠0)(d:x ∣ y):Bd n x :=
 h.of_le (Nat.le_of_dvd (by omega) (Int.natAbs_dvd_natAbs.mpr d))
theorem Bd.fdiv {n:Nat}{x y:Int}(h:Bd n x):Bd n (x.fdiv y):=h.of_le (Int.natAbs_fdiv_le_natAbs x y)
theorem Bd.lit {n:Nat}{x:Int}(h:x.natAbs<2 ^ 200)(hn:200<=n):Bd n x:=Bd.mono (m:=200) h hn
theorem zkk (a b:Int):Int.gcd b (a.fmod b)=Int.gcd a b:=by
 have e:a.fmod b=a-b*a.fdiv b:=by have:=Int.mul_fdiv_add_fmod a b;omega
 rw [e,Int.gcd_sub_mul_left_right,Int.gcd_comm]
theorem zh1 {a b:Int}(h:b≠0):(a.fmod b).natAbs<b.natAbs:=by
 rcases Int.lt_or_gt_of_ne h with h1 | h1
 ·have e:(-(-a)).fmod (-(-b))=-((-a).fmod (-b)):=Int.neg_fmod_neg (-a) (-b)
  rw [Int.neg_neg,Int.neg_neg] at e
  have h2:=Int.fmod_nonneg_of_pos (-a) (b:=-b) (by omega)
  have h3:=Int.fmod_lt_of_pos (-a) (b:=-b) (by omega)
  omega
 ·have:=Int.fmod_nonneg_of_pos a h1
  have:=Int.fmod_lt_of_pos a h1
  omega
def gd (t b:Int):Int:=if b<0 then -((Int.gcd t b:Nat):Int) else ((Int.gcd t b:Nat):Int)
def frT (t b:Int):Int:=t.fdiv (gd t b)
def frB (t b:Int):Int:=b.fdiv (gd t b)
theorem zkX {t b:Int}(h:b≠0):gd t b≠0:=by
  have:Int.gcd t b≠0:=fun e=>h (Int.gcd_eq_zero_iff.mp e).2
  unfold gd;split<;>omega
theorem zhS (t b:Int):gd t b ∣ t:=by
 unfold gd;split
 ·exact Int.neg_dvd.mpr (Int.gcd_dvd_left ..)
 ·exact Int.gcd_dvd_left ..
theorem zeo (t b:Int):gd t b ∣ b:=by
 unfold gd;split
 ·exact Int.neg_dvd.mpr (Int.gcd_dvd_right ..)
 ·exact Int.gcd_dvd_right ..
theorem zic (t b:Int):frT t b*gd t b=t:=Int.fdiv_mul_cancel (zhS t b)
theorem zgj (t b:Int):frB t b*gd t b=b:=Int.fdiv_mul_cancel (zeo t b)
theorem zjZ (t b:Int):frT t b*b=frB t b*t:=by
 have h1:=zic t b
 have h2:=zgj t b
 generalize frT t b=x at *
 generalize frB t b=y at *
 generalize gd t b=g at *
 subst h1 h2
 rw [Int.mul_comm y g,<- Int.mul_assoc,Int.mul_comm (x*g) y]
theorem zlC {t b:Int}(h:b≠0):1<=frB t b:=by
  have h2:=zgj t b
  have h3:gd t b≠0:=zkX h
  have h4:0<b->0<gd t b:=by
    intro hb;unfold gd at *;split<;>omega
  have h5:b<0->gd t b<0:=by
    intro hb;unfold gd at *;split<;>omega
  generalize frB t b=y at *
  generalize gd t b=g at *
  rcases Int.lt_or_gt_of_ne h with hb | hb
  · have hg:=h5 hb
    rcases Int.lt_or_le y 1 with hy | hy
    · have:0<=y*g:=Int.mul_nonneg_of_nonpos_of_nonpos (by omega) (by omega)
      omega
    · exact hy
  · have hg:=h4 hb
    rcases Int.lt_or_le y 1 with hy | hy
    · have:y*g<=0:=Int.mul_nonpos_of_nonpos_of_nonneg (by omega) (by omega)
      omega
    · exact hy
theorem zm2 {t b:Int}(h:b≠0):Int.gcd (frT t b) (frB t b)=1:=by
  have h0:0<Int.gcd t b:=Nat.pos_of_ne_zero fun e=>h (Int.gcd_eq_zero_iff.mp e).2
  have h1:=zic t b
  have h2:=zgj t b
  have e:Int.gcd (frT t b*gd t b) (frB t b*gd t b)=Int.gcd (frT t b) (frB t b)*(gd t b).natAbs:=Int.gcd_mul_right ..
  rw [h1,h2] at e
  have e2:(gd t b).natAbs=Int.gcd t b:=by unfold gd;split<;>omega
  rw [e2] at e
  exact Nat.eq_of_mul_eq_mul_right h0 (by omega)
theorem zn7 {n:Nat}{t b:Int}(h:b≠0)(hb:Bd n b):Bd n (gd t b):=hb.dvd h (zeo t b)
theorem znD {n:Nat}{t b:Int}(hb:Bd n b):Bd n (frB t b):=hb.fdiv
theorem zmu {n:Nat}{t b:Int}(hb:Bd n t):Bd n (frT t b):=hb.fdiv
open PySem PySem.Spec PyProof.Rows L2
def zoA (_ j:Int):Prop:=j≠0/\Bd 8000 j
def zoC (_ j:Int):Prop:=j≠0
theorem zfP {j:Int}(h:Bd 8000 j):j.natAbs.log2<9000:=by
 rcases Nat.eq_zero_or_pos j.natAbs with e | e
 ·rw [e];decide
 ·have:j.natAbs.log2<8000:=(Nat.log2_lt (Nat.ne_of_gt e)).mpr h
  omega
theorem zfv {j:Int}(h:Bd 8000 j):Builtin.Int.intBits j<=2 ^ 20:=by
 unfold Builtin.Int.intBits
 split
 ·exact Nat.zero_le _
 ·have:=zfP h
  omega
section
variable {X:Cx}
theorem zjX:OpR X (binaryOp .FloorDiv) (rI zoA fun i j=>.int (i.fdiv j)):=opI fun _ _ _ _ _ _ _ hc q=>floordiv_int hc.1 q (.inl (PyProof.noPylong_of_log2 (zfP hc.2)))
theorem zk4:OpR X (binaryOp .Mod) (rI zoC fun i j=>.int (i.fmod j)):=zlL
def rB0 (g:Bool->Bool->V):R2:=fun x y H Q=>∃ i j,x=.bl i/\y=.bl j/\Q (g i j) H
theorem zk2 {i j:Int}{a b:Nat}{p1 p2 pos:Pos}(c:Int)(h:i ^ j.toNat=c)(h0:0<=j/\j<=1000000/\i.natAbs<2 ^ 64):PE X (.BinOp (.Constant (.int i) a p1) .Pow (.Constant (.int j) b p2) pos) (tC (.int c)):=by
 intro pins s σ H Q I q
 have q':Q (.int c) H:=q
 rw [<- h] at q'
 exact zkJ zno zhN zhN pins s σ H Q I ⟨i,j,rfl,rfl,h0,q'⟩
def zpn:List V->Hp->VK->Prop:=fun xs H Q=>∃ i,xs=[.int i]/\Q (.int (i.natAbs:Int)) H
theorem zji:za4 X (.builtin "abs") zpn:=fun pins s σ H xs us Q I r h=>by
  obtain⟨i,e,q⟩:=h
  refine zku pins s σ H xs us Q I r ⟨i,e,?_⟩
  have:(if i<0 then -i else i)=(i.natAbs:Int):=by split<;>omega
  rw [this];exact q
def zpq (K:PySem.W.Frag):List V->Hp->VK->Prop:=fun xs H Q=>∃ p ys,xs=[.ref p]/\(SqL K H p ys\/SqT K H p ys)/\Q (.int ys.length) H
theorem zjj:za4 X (.builtin "len") (zpq X.K):=zhc
def znP (K:PySem.W.Frag):List V->Hp->VK->Prop:=fun xs H Q=>∃ p ys,xs=[.ref p]/\(SqL K H p ys\/SqT K H p ys)/\∀ l,H l=none->Q (.ref l) (upd H l (.lst ys))
theorem zi1:za4 X (.type "list") (znP X.K):=zhz
theorem znV {x:Str}{T:String}{pos:Pos}(hg:Gl X x)(hm:X.mg x=none)(hv:bootBuiltins x=some (.type T))(hn:x≠"__name__":=by decide)(hd:(x==("__debug__":Str))=false:=by decide):PE X (.Name x pos) (tC (.ty T)):=zlZ (v:=.ty T) hg hm hv rfl hn hd
def zo0 (K:PySem.W.Frag):List V->Hp->VK->Prop:=fun xs H Q=>∃ x c t b,xs=[x,.ty c]/\zcu K H x t/\PySem.W.kitOne K t (.type c)=some b/\Q (.bl b) H
theorem zkn:za4 X (.builtin "isinstance") (zo0 X.K):=fun pins s σ H xs us Q I r h=>by
 obtain⟨x,c,t,b,rfl,ty,e,q⟩:=h
 obtain⟨u,w',rfl,ru,rw'⟩:=vals2 r
 cases rw'
 exact zi5 I ru ty e fun tk=>⟨.bl b,H,I.tok _,rfl,q⟩
end
section
variable {X:Cx}{K:PySem.W.Frag}
end
structure Got (P:Program)(w:World)(K:PySem.W.Frag)(mg:Str->Option Value)(base:Heap)(k:Nat)(x:Str)(ps:List Str)(sp:Sp):Prop where
 ex:∃ f fd,zP P w K mg base CX0 k f fd ps sp/\Binds K fd ps []/\PySem.W.keepIn K (.ref f)=true/\mg x=some (.ref f)
theorem zm9 {X:Cx}{k j:Nat}{x:Str}{ps:List Str}{sp:Sp}{p pos:Pos}{e:Expr}{es:List Expr}{t:TA}(G:Got X.prog X.w X.K X.mg X.base k x ps sp)(hr:zan j X.A)(hk:k<=j)(hg:Gl X x)
  (ha:PA X (e::es) t) (hdb:(x==("__debug__":Str))=false:=by decide) (he:starEach (e::es) X.env=(false,eval e X.env)::starEach es X.env:=by rfl) (hpl:(backTo pos (starEach es X.env)).any (·.1)=false:=by rfl) :
  PE X (.Call (.Name x p) (e::es) [] pos) (ziK sp [] E0 t):=by
 intro pins s σ H Q I h
 obtain⟨f,fd,F,b,kp,m⟩:=G.ex
 exact zlp (F.mono hk) hr hg m kp b .nil zkN ha hdb he hpl pins s σ H Q I h
section
variable {nx:L2.St->Hp->Prop}{rt:VK}{bk ct:L2.St->Hp->Prop}{σ:L2.St}{H:Hp}{K:PySem.W.Frag}
end
section
variable {σ:L2.St}{H:Hp}{K:PySem.W.Frag}
def zoT:R2:=fun x y H Q=>y=.non/\Q (.bl (!decide (x=.non))) H
theorem zmB {X:Cx}:OpR X (compareOp .IsNot) zoT:=zlT
end
theorem zcZ {H:Hp}{p b:Addr}{o u:HO}(hp:H p=none)(h:H b=some u):upd H p o b=some u:=by
 rw [zQ (zaN h hp)];exact h
theorem zh4 {prog:Program}{w:World}{A:Around}{R:Result->Shared->Prop}{s:Shared}{elt target iter:Expr}{ifs:List Expr}{scope:Scope}{pos:Pos}{it acc:Value}{env:Env}(I:Nat->Shared->Prop)
  (turn:∀ n s,I n s->wpAny (model prog w) A (pyNext it) (fun r s₁=>match r with
   | none=>R (.ok .next) s₁
   | some v=>wpAny (model prog w) A (letOwnedTupleGo target it v) (fun _ s₁'=>wpAny (model prog w) A (assign target env v) (fun _ s₂ =>
     wpAny (model prog w) A (forIn ifs true fun c r=>if r=true then do let ok <- isTrue c env (eval c env);pure (ForInStep.yield ok) else pure (ForInStep.yield r)) (fun ok s₃ =>
      if ok=true then wpAny (model prog w) A (eval elt env) (fun x s₄ =>
       wpAny (model prog w) A (call (.builtin "list.append") [acc,x]) (fun _ s₅=>∃ m,m<n/\I m s₅) (fun _ _=>False) s₄) (fun _ _=>False) s₃
      else ∃ m,m<n/\I m s₃) (fun _ _=>False) s₂) (fun _ _=>False) s₁') (fun _ _=>False) s₁) (fun _ _=>False) s)
  (n:Nat) (h:I n s):codeAny (model prog w) A (.compLoop (.ListComp elt [⟨target,iter,ifs,0⟩] scope pos) 0 it acc env) R s:=by
 refine codeAny_loop rfl I (fun n s hI=>?_) n h
 show wpAny _ A ((compTurn (.ListComp elt [⟨target,iter,ifs,0⟩] scope pos) 0 it acc env).onRaise (fun x=>do noteFrame x env;theTreesLotGoes x)) _ _ s
 refine wpAny_noted ?_
 rw [compTurn_list]
 refine wpAny_bind (wpAny_standAt (wpAny_bind (wpAny_mono (turn n s hI) (fun r s₁ h₁=>?_) fun _ _ h'=>h'.elim)))
 cases r with
 | none=>exact wpAny_pure h₁
 | some v =>
  refine wpAny_bind (wpAny_mono h₁ (fun _ s₁' h₁'=>?_) fun _ _ h'=>h'.elim)
  refine wpAny_bind (wpAny_mono h₁' (fun _ s₂ h₂=>wpAny_bind (wpAny_mono h₂ (fun ok s₃ h₃=>?_) fun _ _ h'=>h'.elim)) fun _ _ h'=>h'.elim)
  cases ok with
  | false=>exact wpAny_pure ⟨rfl,h₃⟩
  | true =>
   exact wpAny_bind (wpAny_bind (wpAny_mono h₃ (fun x s₄ h₄=>wpAny_bind (wpAny_mono h₄ (fun _ s₅ h₅=>wpAny_pure (wpAny_pure ⟨rfl,h₅⟩)) fun _ _ h'=>h'.elim)) fun _ _ h'=>h'.elim))
def inner (X:Cx)(sc:Scope)(N:List Str)(cl:List (Str×Addr))(C:Addr)(s₀:Shared)(H₀:Hp)(ex:List Addr):Cx :=
  { X with N:=N,s₀:=s₀,H₀:=H₀,env:=compEnvC sc cl C X.env,outer:=X.stack,ex:=ex,fn:=fun _=>false,pn:=[] }
def PFs (X:Cx)(ifs:List Expr)(t:TT):Prop :=
 ∀ (pins:List (Addr×Obj)) (s:Shared) (σ:L2.St) (H:Hp) (Q:Bool->Hp->Prop),Inv X pins σ H s->t σ H Q ->
  wpAny (model X.prog X.w) X.A (forIn ifs true fun c r=>if r=true then do let ok <- isTrue c X.env (eval c X.env);pure (ForInStep.yield ok) else pure (ForInStep.yield r)) (TP X pins σ Q) X.xe s
def zn5:TT:=fun _ H Q=>Q true H
theorem znj {X:Cx}:PFs X [] zn5:=fun _ _ _ H _ I h=>wpAny_tests_nil ⟨H,I,h⟩
def zeu (X:Cx)(sc:Scope):List Str->List Nat->Prop
 | [],[]=>True
 | x::xs,j::js=>X.N[j]?=some x/\sc.names.lookup x=some .free/\X.env.kindOf x=some .cell/\zeu X sc xs js
 | _,_=>False
def zcz (P:Str->Prop):List (Str×NameKind)->Prop
 | []=>True
 | (n,.free)::r=>P n/\zcz P r
 | _::r=>zcz P r
theorem zcz.of {P:Str->Prop}:∀ {l:List (Str×NameKind)},zcz P l->∀ y∈l,y.2=.free->P y.1
  | (n,k)::r,h,y,hy,e=>by
    rcases List.mem_cons.mp hy with rfl | hy
    · dsimp only at e;subst e;exact h.1
    · refine zcz.of (l:=r) ?_ y hy e
      cases k<;>first | exact h.2 | exact h
def cst (own:List Str)(fv:List Nat)(σ:L2.St):L2.St:=List.replicate own.length none++fv.map fun j=>(σ[j]?).join
def Agr:L2.St->L2.St->Prop
 | [],[]=>True
 | none::r,_::s=>Agr r s
 | some v::r,some w::s=>v=w/\Agr r s
 | _,_=>False
theorem Agr.len:∀ {a b:L2.St},Agr a b->b.length=a.length
  | [],[],_=>rfl
  | none::r,_::s,h=>congrArg (· + 1) (Agr.len (a:=r) (b:=s) h)
  | some v::r,some w::s,h=>congrArg (· + 1) (Agr.len (a:=r) (b:=s) h.2)
theorem Agr.get:∀ {a b:L2.St},Agr a b->∀ (i:Nat) (v:V),a[i]?=some (some v)->b[i]?=some (some v)
 | none::r,_::s,h,i,v,e=>by
  cases i with
  | zero=>simp at e
  | succ i=>simpa using Agr.get (a:=r) (b:=s) h i v (by simpa using e)
 | some v'::r,some w::s,h,i,v,e=>by
  cases i with
  | zero=>simp at e;subst e;simp [h.1]
  | succ i=>simpa using Agr.get (a:=r) (b:=s) h.2 i v (by simpa using e)
def tLC (own:List Str)(fv:List Nat)(wi:TI)(g:TG)(tc:TT)(te:TE):TE:=fun σ H Q=>wi σ H fun J H1=>∀ p,H1 p=none ->
 ∃ W:Nat->Nat->Hp->Prop,(∃ m,W 0 m (upd H1 p (.lst [])))/\∀ i m H2,W i m H2 ->
  (J.stop i H2/\Q (.ref p) H2)\/(J.go i H2/\∀ x H',J.yld i H2 x H'->g x (cst own fv σ) H' fun σ2 H3=>Agr (cst own fv σ) σ2/\tc σ2 H3 fun b H4 =>
   if b=true then te σ2 H4 fun y H5=>∃ ys,H5 p=some (.lst ys)/\ys.length<sizeLine/\∃ m',m'<m/\W (i+1) m' (upd H5 p (.lst (ys++[y])))
   else ∃ m',m'<m/\W (i+1) m' H4)
theorem zh2 {env:Env}{n:Str}{c:Addr}(h:env.cells.lookup n=some c):cellOf env n=pure c:=by
 unfold cellOf;rw [h]
theorem zd3 {env:Env}:∀ (names:List (Str×NameKind)) (cs:List (Str×Addr)),(∀ y∈names,y.2=.free->∃ c,env.cells.lookup y.1=some c)->(∀ x c,cs.lookup x=some c->env.cells.lookup x=some c) ->
    ∃ cl,(forIn names cs fun (x:Str×NameKind) (r:List (Str×Addr))=>if (x.2==NameKind.free)=true then do let a <- cellOf env x.1;pure (ForInStep.yield ((x.1,a)::r)) else pure (ForInStep.yield r))=(pure cl:Sem (List (Str×Addr))) /\
      (∀ x c,cl.lookup x=some c->env.cells.lookup x=some c)/\(∀ x,(cs.lookup x).isSome=true->(cl.lookup x).isSome=true)/\∀ y∈names,y.2=.free->(cl.lookup y.1).isSome=true
  | [],cs,_,h2=>⟨cs,rfl,h2,fun _ h=>h,fun _ h=>nomatch h⟩
  | (n,k)::r,cs,h1,h2=>by
    rw [List.forIn_cons]
    by_cases hk:k=.free
    · subst hk
      obtain⟨c,hc⟩:=h1 (n,.free) List.mem_cons_self rfl
      obtain⟨cl,e,a1,a2,a3⟩:=zd3 (env:=env) r ((n,c)::cs) (fun y hy=>h1 y (List.mem_cons_of_mem _ hy)) (fun x d hx=>by
        rw [List.lookup_cons] at hx
        by_cases hxn:x=n
        · subst hxn;simp at hx;subst hx;exact hc
        · have:(x==n)=false:=by simpa using hxn
          rw [this] at hx;exact h2 x d hx)
      refine⟨cl,?_,a1,fun x hx=>a2 x ?_,fun y hy e'=>?_⟩
      · simp only [beq_self_eq_true,if_true,zh2 hc]
        simpa using e
      · rw [List.lookup_cons];split<;>simp_all
      · rcases List.mem_cons.mp hy with rfl | hy
        · exact a2 _ (by simp [List.lookup_cons])
        · exact a3 y hy e'
    · have hb:(k==NameKind.free)=false:=by simpa using hk
      obtain⟨cl,e,a1,a2,a3⟩:=zd3 (env:=env) r cs (fun y hy=>h1 y (List.mem_cons_of_mem _ hy)) h2
      refine⟨cl,?_,a1,a2,fun y hy e'=>?_⟩
      · simp only [hb,Bool.false_eq_true,if_false]
        simpa using e
      · rcases List.mem_cons.mp hy with rfl | hy
        · exact absurd e' hk
        · exact a3 y hy e'
theorem zfI {env:Env}{sc:Scope}(h:∀ y∈sc.names,y.2=.free->∃ c,env.cells.lookup y.1=some c) :
  ∃ cl,closureFor sc env=pure cl/\(∀ x c,cl.lookup x=some c->env.cells.lookup x=some c)/\∀ y∈sc.names,y.2=.free->(cl.lookup y.1).isSome=true:=by
 obtain⟨cl,e,a1,_,a3⟩:=zd3 (env:=env) sc.names [] h (fun x c hx=>by simp at hx)
 refine⟨cl,?_,a1,a3⟩
 unfold closureFor
 have e2:=e
 first
  | exact e2
  | (show (do let cs <- forIn sc.names [] _;pure cs)=_;rw [show (forIn sc.names [] _:Sem (List (Str×Addr)))=pure cl from e2];rfl)
  | simpa using e2
theorem zcv {env:Env}{x:Str}:∀ {names:List (Str×NameKind)},(names.map fun (n,k)=>if (k==NameKind.free&&env.scope.kind==.function&&env.kindOf n==some .cell) then (n,NameKind.cell) else (n,k)).lookup x =
    (names.lookup x).map fun k=>if (k==NameKind.free&&env.scope.kind==.function&&env.kindOf x==some .cell) then NameKind.cell else k
  | []=>rfl
  | (n,k)::r=>by
    have ih:=zcv (env:=env) (x:=x) (names:=r)
    rw [List.map_cons]
    by_cases hx:x=n
    · subst hx
      dsimp only
      split<;>simp_all [List.lookup_cons]
    · have hb:(x==n)=false:=by simpa using hx
      dsimp only
      split<;>(rw [List.lookup_cons,List.lookup_cons,hb];exact ih)
theorem mem_of_lookup {β:Type}{x:Str}{k:β}:∀ {l:List (Str×β)},l.lookup x=some k->(x,k)∈l
 | (n,b)::r,h=>by
  rw [List.lookup_cons] at h
  by_cases hx:x=n
  ·subst hx;simp at h;subst h;exact List.mem_cons_self
  ·have hb:(x==n)=false:=by simpa using hx
   rw [hb] at h
   exact List.mem_cons_of_mem _ (mem_of_lookup h)
section
variable {X:Cx}{sc:Scope}{tg iter elt:Expr}{ifs:List Expr}{own free:List Str}{fv:List Nat}{wi:TI}{g:TG}{tc:TT}{te:TE}{pos:Pos}
theorem zkR {σ:L2.St}:∀ {free:List Str} {fv:List Nat},zeu X sc free fv->∀ (k:Nat) (x:Str) (v:V),free[k]?=some x->(fv.map fun j=>(σ[j]?).join)[k]?=some (some v) ->
  ∃ j:Nat,X.N[j]?=some x/\σ[j]?=some (some v)/\sc.names.lookup x=some .free/\X.env.kindOf x=some .cell
 | x'::xs,j::js,h,k,x,v,e1,e2=>by
  cases k with
  | zero =>
   simp at e1 e2
   subst e1
   refine⟨j,h.1,?_,h.2.1,h.2.2.1⟩
   cases q:σ[j]? with
   | none=>rw [q] at e2;simp at e2
   | some o=>rw [q] at e2;simp at e2;rw [e2]
  | succ k=>exact zkR (free:=xs) (fv:=js) h.2.2.2 k x v (by simpa using e1) (by simpa using e2)
 | [],[],_,k,x,v,e1,_=>by simp at e1
theorem zjp:∀ {free:List Str} {fv:List Nat},zeu X sc free fv->fv.length=free.length
  | [],[],_=>rfl
  | _::_,_::_,h=>congrArg (· + 1) (zjp h.2.2.2)
theorem zfr {RR:Value->Addr->Result->Shared->Prop}(hcalm:X.calm=true)(hxe:X.xe=fun _ _=>False)(hkind:sc.kind=.function)(hcell:∀ y∈sc.names,y.2≠.cell)
    (hfr:zcz (fun x=>X.env.kindOf x=some .cell) sc.names) (hfv:zeu X sc free fv)
    (hg:∀ cl C s₀ H₀ ex,PG (inner X sc (own++free) cl C s₀ H₀ ex) tg g) (ht:∀ cl C s₀ H₀ ex,PFs (inner X sc (own++free) cl C s₀ H₀ ex) ifs tc) (he:∀ cl C s₀ H₀ ex,PE (inner X sc (own++free) cl C s₀ H₀ ex) elt te)
    {pins:List (Addr×Obj)} {s2:Shared} {σ:L2.St} {H2:Hp} {it:Addr} {fp:List Addr} {tn:Nat->Heap->Prop} {J:It} {Q:VK} (I2:Inv X pins σ H2 s2) (T:Turn X.prog X.w X.K tg J fp it tn) (st2:tn 0 s2.heap) (f2:∀ b∈fp,zdT X pins H2 b)
    (h:∀ p,H2 p=none->∃ W:Nat->Nat->Hp->Prop,(∃ m,W 0 m (upd H2 p (.lst [])))/\∀ i m H2,W i m H2 ->
      (J.stop i H2/\Q (.ref p) H2)\/(J.go i H2/\∀ x H',J.yld i H2 x H'->g x (cst own fv σ) H' fun σ2 H3=>Agr (cst own fv σ) σ2/\tc σ2 H3 fun b H4 =>
        if b=true then te σ2 H4 fun y H5=>∃ ys,H5 p=some (.lst ys)/\ys.length<sizeLine/\∃ m',m'<m/\W (i+1) m' (upd H5 p (.lst (ys++[y])))
        else ∃ m',m'<m/\W (i+1) m' H4))
    {cl:List (Str×Addr)} (hcl1:∀ x c,cl.lookup x=some c->X.env.cells.lookup x=some c) (hcl2:∀ y∈sc.names,y.2=.free->(cl.lookup y.1).isSome=true)
    (hRR:∀ (p C:Addr) (m:Str->Option Value) (H':Hp) (s':Shared),s'.heap.Ns C m->Inv X pins σ H' s'->H' C=none->C≠X.env.locals->X.s₀.heap.objs.size<=C->(∀ x c,X.env.cells.lookup x=some c->c≠C)->(∀ q∈X.pn++pins,q.1≠C)->Q (.ref p) H' ->
      RR (.ref p) C (.ok .next) s') :
    wpAny (model X.prog X.w) X.A (newList []) (fun acc s3=>wpAny (model X.prog X.w) X.A (newFunctionEnv sc X.env.globals cl [] X.env.qual none .none (some X.env)) (fun cenv s4 =>
      codeAny (model X.prog X.w) X.A (.compStart (.ListComp elt [⟨tg,iter,ifs,0⟩] sc pos) 0 (.ref it) acc { cenv with scope:=relabel sc X.env }) (RR acc cenv.locals) s4) X.xe s3) X.xe s2:=by
  rw [hxe]
  refine wpAny_newObj_type ?_
  have I3:Inv X pins σ (upd H2 s2.heap.objs.size (.lst [])) { s2 with heap:=s2.heap.push { cls:=.type "list",data:=.seq ([]:List Value).toArray } }:=I2.lnew (t':=s2.toks) .nil (Nat.zero_le _)
  generalize hs3:({ s2 with heap:=s2.heap.push { cls:=.type "list",data:=.seq ([]:List Value).toArray } }:Shared)=s3 at I3 ⊢
  have hp:H2 s2.heap.objs.size=none:=I2.fresh
  obtain⟨W,⟨m0,w0⟩,turn⟩:=h s2.heap.objs.size hp
  generalize hH3:upd H2 s2.heap.objs.size (.lst [])=H3 at I3 w0 ⊢
  have hk3:∀ b o,s2.heap.get? b=some o->s3.heap.get? b=some o:=fun b o e=>by rw [<- hs3];exact Heap.get?_push_of_some _ e
  have hz3:s3.heap.objs.size=s2.heap.objs.size+1:=by rw [<- hs3];exact Heap.size_push ..
  have st3:tn 0 s3.heap:=T.keep _ _ _ st2 fun b _ o e=>hk3 b o e
  have hfpo:∀ b∈fp,∃ o,s3.heap.get? b=some o:=fun b hb=>let ⟨o,e,_⟩:=T.obj _ _ st3 b hb;⟨o,e⟩
  have hfpn:∀ b∈fp,b≠s2.heap.objs.size:=fun b hb e=>by
    obtain⟨o,e',_⟩:=T.obj _ _ st2 b hb
    have:=Heap.lt_size e'
    rw [e] at this;exact Nat.lt_irrefl _ this
  have f3:∀ b∈fp,H3 b=none:=fun b hb=>by rw [<- hH3,zQ (hfpn b hb)];exact (f2 b hb).1
  refine wpAny_newFunctionEnv hcell (by intro y hy;simp at hy) (fun h1 hns1 hsb1=>?_) hkind
  have hC0:H3 s3.heap.objs.size=none:=I3.fresh
  have old:∀ b o,s3.heap.get? b=some o->h1.get? b=some o:=fun b o e=>hsb1.extBut b o (Nat.ne_of_lt (Heap.lt_size e)) (Heap.get?_push_of_some _ e)
  have hlow:X.s₀.heap.objs.size<=s3.heap.objs.size:=I3.sz
  have hloc:X.env.locals<s3.heap.objs.size:=I3.lt
  have hcells:∀ x c,X.env.cells.lookup x=some c->c<s3.heap.objs.size:=fun x c e=>by
    obtain⟨v,o,ho,_⟩:=I3.cell x c e
    exact Heap.lt_size ho
  have YOk:(inner X sc (own++free) cl s3.heap.objs.size s3 H3 fp).Ok:={
    mod:=I3.ok.mod
    kind:=by show (relabel sc X.env).kind=.function;exact hkind
    glob:=I3.ok.glob
    blt:=I3.ok.blt
    above:=Nat.le_refl _
    inj:=fun x y c hx hy=>I3.ok.inj x y c (hcl1 x c hx) (hcl1 y c hy)
    has:=fun x hx=>by
      have e : (sc.names.lookup x).map (fun k => if (k == NameKind.free && X.env.scope.kind == .function && X.env.kindOf x == some .cell) then NameKind.cell else k) = some .cell ∨
          (sc.names.lookup x).map (fun k=>if (k==NameKind.free&&X.env.scope.kind==.function&&X.env.kindOf x==some .cell) then NameKind.cell else k)=some .free:=by
        have:=@zcv X.env x sc.names
        rcases hx with hx | hx
        · exact .inl (this.symm.trans hx)
        · exact .inr (this.symm.trans hx)
      cases q:sc.names.lookup x with
      | none=>rw [q] at e;simp at e
      | some k =>
        have hm:=mem_of_lookup q
        by_cases hkf:k=.free
        · subst hkf
          exact Option.isSome_iff_exists.mp (hcl2 (x,.free) hm rfl)
        · have hkc:k≠.cell:=hcell (x,k) hm
          rw [q] at e
          have hb:(k==NameKind.free)=false:=by simpa using hkf
          simp only [Option.map_some,hb,Bool.false_and,Bool.false_eq_true,if_false,Option.some.injEq] at e
          rcases e with e | e
          · exact absurd e hkc
          · exact absurd e hkf
    cab:=fun x c hx=>by cases hx
    hd:=I3.ok.hd
    frames:=I3.ok.frames
    stk:=.inl rfl
    exf:=fun b hb=>⟨fun e=>by obtain⟨o,e'⟩:=hfpo b hb;have:=Heap.lt_size e';rw [e] at this;exact Nat.lt_irrefl _ this,fun x c hx=>(f2 b hb).2.2.2.2.1 x c (hcl1 x c hx)⟩
    bs:=I3.bs
    bsz:=Nat.le_trans I3.ok.bsz I3.sz
    noex:=fun b o hb hm=>by
      rcases (f2 b hm).2.2.2.1 with hx | hx
      · exact I3.ok.noex b o hb hx
      · exact Nat.lt_irrefl _ (Nat.lt_of_lt_of_le (Nat.lt_of_lt_of_le (Heap.lt_size hb) I3.ok.bsz) hx)
    exfs:=fun b hb hm=>by
      rcases List.mem_cons.mp (I3.stkSub b hm) with e | e
      · exact (f2 b hb).2.1 e
      · exact (f2 b hb).2.2.1 e
    funs:=I3.stack
    frf:=I3.stkFree }
  have hlen0:(cst own fv σ).length=(own++free).length:=by
    unfold cst;rw [List.length_append,List.length_append,List.length_replicate,List.length_map,zjp hfv]
  have I4:∀ tk,Inv (inner X sc (own++free) cl s3.heap.objs.size s3 H3 fp) [] (cst own fv σ) H3 { s3 with heap:=h1,toks:=tk }:=fun tk=>{
    ok:=YOk
    os:=rfl
    bare:=I3.bare
    base:=Un.kept old
    loc:=by
      refine⟨_,hns1,fun i x v hN hσ _=>?_⟩
      have hN':(own++free)[i]?=some x:=hN
      have hσ':(List.replicate own.length none++fv.map fun j=>(σ[j]?).join)[i]?=some (some v):=hσ
      by_cases hi:i<own.length
      · rw [List.getElem?_append_left (by rw [List.length_replicate];exact hi)] at hσ'
        rw [List.getElem?_replicate] at hσ'
        split at hσ'<;>simp at hσ'
      · rw [List.getElem?_append_right (by omega)] at hN'
        rw [List.getElem?_append_right (by rw [List.length_replicate];omega),List.length_replicate] at hσ'
        obtain⟨j,hj,hσj,hsx,hkx⟩:=zkR hfv _ x v hN' hσ'
        obtain⟨m,_,hall⟩:=I3.loc
        obtain⟨u,ru,lk⟩:=hall j x v hj hσj (.inr (.inl hkx))
        refine⟨u,ru,.inr ⟨?_,?_⟩⟩
        · have:=@zcv X.env x sc.names
          rw [hsx] at this
          have e2:Env.kindOf (inner X sc (own++free) cl s3.heap.objs.size s3 H3 fp).env x=(sc.names.map fun (n,k)=>if (k==NameKind.free&&X.env.scope.kind==.function&&X.env.kindOf n==some .cell) then (n,NameKind.cell) else (n,k)).lookup x:=rfl
          rw [e2,this]
          simp only [Option.map_some]
          split
          · exact .inl rfl
          · exact .inr rfl
        · rcases lk with ⟨hl,_⟩ | ⟨_,c,hc,hcell'⟩
          · rw [hkx] at hl;cases hl
          · obtain⟨c',hc'⟩:=Option.isSome_iff_exists.mp (hcl2 (x,.free) (mem_of_lookup hsx) rfl)
            have:=hcl1 x c' hc'
            rw [hc] at this
            cases this
            refine⟨c,hc',?_⟩
            obtain⟨o,ho,hd⟩:=hcell'
            exact⟨o,old _ _ ho,hd⟩
    cell:=fun x c hx=>by
      obtain⟨v,o,ho,hd⟩:=I3.cell x c (hcl1 x c hx)
      exact⟨v,o,old _ _ ho,hd⟩
    free:=hC0
    freeC:=fun x c hx=>I3.freeC x c (hcl1 x c hx)
    pin:=fun q hq=>nomatch hq
    hok:=I3.hok.kept old
    len:=hlen0 }
  have back:∀ (m:Str->Option Value) (H':Hp) (s':Shared),s'.heap.Ns s3.heap.objs.size m->Inv (inner X sc (own++free) cl s3.heap.objs.size s3 H3 fp) [] (cst own fv σ) H' s'->Q (.ref s2.heap.objs.size) H'->RR (.ref s2.heap.objs.size) s3.heap.objs.size (.ok .next) s':=fun m H' s' hm IY q=>by
    have u1:Un (frs X.stack) fp H3 H' s3.heap s'.heap:=IY.base
    have IX:Inv X pins σ H' s':=I3.call' (ch:=fp) (IY.os) u1 IY.hok IY.bare fun b hb=>⟨(f2 b hb).2.2.2.1,(f2 b hb).2.1,(f2 b hb).2.2.2.2.1,(f2 b hb).2.2.2.2.2⟩
    refine hRR _ _ m H' s' hm IX IY.free (Nat.ne_of_gt hloc) hlow (fun x c hx=>Nat.ne_of_lt (hcells x c hx)) (fun q' hq=>?_) q
    have:=(I3.pin q' hq).1
    exact Nat.ne_of_lt (Heap.lt_size this)
  have stat:∀ {H':Hp},(∀ b∈fp,H' b=none)->∀ b∈fp,zdT (inner X sc (own++free) cl s3.heap.objs.size s3 H3 fp) [] H' b:=fun hn b hb =>
    ⟨hn b hb,(YOk.exf b hb).1,YOk.exfs b hb,.inl hb,(YOk.exf b hb).2,fun q hq=>nomatch hq⟩
  have hYxe:(inner X sc (own++free) cl s3.heap.objs.size s3 H3 fp).xe=fun _ _=>False:=hxe
  have loop:∀ tk,codeAny (model X.prog X.w) X.A (.compLoop (.ListComp elt [⟨tg,iter,ifs,0⟩] sc pos) 0 (.ref it) (.ref s2.heap.objs.size) (compEnvC sc cl s3.heap.objs.size X.env)) (RR (.ref s2.heap.objs.size) s3.heap.objs.size) { s3 with heap:=h1,toks:=tk }:=fun tk=>by
    refine zh4 (fun n s'=>∃ i H',Inv (inner X sc (own++free) cl s3.heap.objs.size s3 H3 fp) [] (cst own fv σ) H' s'/\tn i s'.heap/\(∀ b∈fp,H' b=none)/\W i n H') ?_ m0 ⟨0,H3,I4 tk,T.keep _ _ _ st3 (fun b _ o e=>old b o e),f3,w0⟩
    rintro n s5 ⟨i,H5,I5,st5,fr5,w5⟩
    rcases turn i n H5 w5 with ⟨stop,q⟩ | ⟨go,step⟩
    · refine thn (T.done (inner X sc (own++free) cl s3.heap.objs.size s3 H3 fp) rfl rfl rfl hcalm i [] s5 _ H5 _ I5 (stat fr5) st5 stop) fun r s6 ⟨hr,I6⟩=>?_
      subst hr
      obtain⟨m,hm,_⟩:=I6.loc
      exact back m H5 s6 hm I6 q
    · refine thn (T.item (inner X sc (own++free) cl s3.heap.objs.size s3 H3 fp) rfl rfl rfl hcalm i [] s5 _ H5 _ I5 (stat fr5) st5 go) fun r s6 ⟨u,hr,h6⟩=>?_
      subst hr
      refine thn h6 fun _ s7 ⟨x,H7,I7,r7,y7,st7,fr7⟩=>?_
      have I7':=I7.pinned (stat fr7) (T.obj _ _ st7)
      have hg':=hg cl s3.heap.objs.size s3 H3 fp _ s7 _ H7 x u _ I7' r7 (step x H7 y7)
      have ht':=ht cl s3.heap.objs.size s3 H3 fp
      have he':=he cl s3.heap.objs.size s3 H3 fp
      have ap:MtM (inner X sc (own++free) cl s3.heap.objs.size s3 H3 fp) "list.append" zir:=zgp
      unfold PFs at ht'
      unfold PE at he'
      unfold MtM at ap
      rw [hYxe] at hg' ht' he' ap
      have again : ∀ {pl : List (Addr × Obj)} {σ8 : L2.St} {H8 : Hp} {s8 : Shared}, pl = zeD fp s7.heap → Inv (inner X sc (own ++ free) cl s3.heap.objs.size s3 H3 fp) ([] ++ pl) σ8 H8 s8 → Agr (cst own fv σ) σ8 → (∃ m', m' < n ∧ W (i + 1) m' H8) →
          ∃ m,m<n/\∃ i H',Inv (inner X sc (own++free) cl s3.heap.objs.size s3 H3 fp) [] (cst own fv σ) H' s8/\tn i s8.heap/\(∀ b∈fp,H' b=none)/\W i m H':=fun {pl σ8 H8 s8} hpl I8 ag ⟨m',hm,w8⟩=>by
        subst hpl
        refine⟨m',hm,i+1,H8,(I8.unpinned).weak ag.len.symm (fun j v e=>ag.get j v e),T.keep _ _ _ st7 fun b hb o e=>(I8.pin (b,o) (List.mem_append_right _ (List.mem_append_right _ (zc3 hb e)))).1,fun b hb=>?_,w8⟩
        obtain⟨o,e,d⟩:=T.obj _ _ st7 b hb
        exact (I8.pin (b,o) (List.mem_append_right _ (List.mem_append_right _ (zc3 hb e)))).2.1
      refine thn hg' fun _ s8 ⟨σ8,H8,I8,ag,q8⟩=>?_
      refine thn (ht' _ s8 σ8 H8 _ I8 q8) fun b s9 ⟨H9,I9,q9⟩=>?_
      cases b with
      | false =>
        rw [if_neg Bool.false_ne_true] at q9 ⊢
        exact again rfl I9 ag q9
      | true =>
        rw [if_pos rfl] at q9 ⊢
        refine thn (he' _ s9 σ8 H9 _ I9 q9) fun y s10 ⟨yv,H10,I10,ry,ys,hy,hlt,q10⟩=>?_
        refine thn (ap _ s10 σ8 H10 (.ref s2.heap.objs.size) [yv] (.ref s2.heap.objs.size) [y] (fun v H'=>v=.non/\H'=upd H10 s2.heap.objs.size (.lst (ys++[yv]))) I10 rfl (.cons ry .nil) ⟨_,ys,yv,rfl,rfl,hy,hlt,rfl,rfl⟩) fun z s11 ⟨v11,H11,I11,_,_,e11⟩=>?_
        subst e11
        exact again rfl I11 ag q10
  refine codeAny_compStart_list (loop _) (T.self _ 0 _ _ _ (T.keep _ _ _ st3 fun b _ o e=>old b o e) (loop _))
theorem znF (hcalm:X.calm=true)(hxe:X.xe=fun _ _=>False)(hkind:sc.kind=.function)(hcell:∀ y∈sc.names,y.2≠.cell)(hnames:∀ y∈sc.names,y.2=.local->sc.names.lookup y.1=some .local)
  (hfr:zcz (fun x=>X.env.kindOf x=some .cell) sc.names) (hfv:zeu X sc free fv) (hi:PI X tg iter wi)
  (hg:∀ cl C s₀ H₀ ex,PG (inner X sc (own++free) cl C s₀ H₀ ex) tg g) (ht:∀ cl C s₀ H₀ ex,PFs (inner X sc (own++free) cl C s₀ H₀ ex) ifs tc) (he:∀ cl C s₀ H₀ ex,PE (inner X sc (own++free) cl C s₀ H₀ ex) elt te)
  (hs:∀ x,foldedSetIterable iter X.env x=pure x:=by intro _;rfl):PE X (.ListComp elt [⟨tg,iter,ifs,0⟩] sc pos) (tLC own fv wi g tc te):=by
 intro pins s σ H Q I q
 obtain⟨cl,hclos,hcl1,hcl2⟩:=zfI (env:=X.env) (sc:=sc) fun y hy e=>I.ok.has y.1 (.inl (hfr.of y hy e))
 rw [eval_ListComp]
 refine wpAny_comprehension_free (use:=none) rfl hs hclos hkind hnames (thn (hi pins s σ H _ I q) fun v s1 h1=>thn h1 fun itv s2 h2=>?_)
 obtain⟨it,fp,tn,J,H2,e,I2,T,st2,f2,q2⟩:=h2
 subst e
 refine zfr (RR:=fun acc C=>compPost (model X.prog X.w) X.A X.xe none (EP X pins σ Q) acc C) hcalm hxe hkind hcell hfr hfv hg ht he I2 T st2 f2 q2 hcl1 hcl2 ?_
 intro p C m H' s' hm I' hC hCl hC0 hCc hCp q'
 exact⟨m,hm,fun h' hs'=>⟨.ref p,H',I'.turned (t':=s'.toks) (fun b o hb e=>hs'.extBut b o hb e) hC hCl (.inr hC0) hCc hCp,rfl,q'⟩⟩
theorem zlK {i:Nat}{y:Str}{py spos:Pos}(hN:X.N.Nodup)(hy:X.N[i]?=some y)(hyl:X.env.scope.names.lookup y=some .local)(hcalm:X.calm=true)(hxe:X.xe=fun _ _=>False)(hkind:sc.kind=.function)(hcell:∀ y∈sc.names,y.2≠.cell)(hnames:∀ y∈sc.names,y.2=.local->sc.names.lookup y.1=some .local)
  (hfr:zcz (fun x=>X.env.kindOf x=some .cell) sc.names) (hfv:zeu X sc free fv) (hi:PI X tg iter wi)
  (hg:∀ cl C s₀ H₀ ex,PG (inner X sc (own++free) cl C s₀ H₀ ex) tg g) (ht:∀ cl C s₀ H₀ ex,PFs (inner X sc (own++free) cl C s₀ H₀ ex) ifs tc) (he:∀ cl C s₀ H₀ ex,PE (inner X sc (own++free) cl C s₀ H₀ ex) elt te)
  (hsw:swapsWith (.ListComp elt [⟨tg,iter,ifs,0⟩] sc pos) (some (.Name y py)) spos.line X.env=pure true:=by rfl)
  (hs:∀ x,foldedSetIterable iter X.env x=pure x:=by intro _;rfl):PS X (.Assign [.Name y py] (.ListComp elt [⟨tg,iter,ifs,0⟩] sc pos) spos) (zkw (tLC own fv wi g tc te) (zE i)):=by
 intro pins s σ H D I q
 obtain⟨cl,hclos,hcl1,hcl2⟩:=zfI (env:=X.env) (sc:=sc) fun y hy e=>I.ok.has y.1 (.inl (hfr.of y hy e))
 rw [exec_Assign_Name_used _ _ _ _ hsw]
 refine wpAny_bind (wpAny_standAt (wpAny_bind ?_))
 show wpAny _ X.A (do let _ <- comprehension (.ListComp elt [⟨tg,iter,ifs,0⟩] sc pos) sc X.env _ (newList []) false (eval iter X.env) (some (assign (.Name y py) X.env))) _ _ s
 refine wpAny_bind (wpAny_mono (wpAny_comprehension_free (use:=some (assign (.Name y py) X.env)) (Q:=fun _ s'=>SP X pins D .next s') rfl hs hclos hkind hnames
  (thn (hi pins s σ H _ I q) fun v s1 h1=>thn h1 fun itv s2 h2=>?_)) (fun _ s' hq=>wpAny_pure (wpAny_pure hq)) fun _ _ e=>e)
 obtain⟨it,fp,tn,J,H2,e,I2,T,st2,f2,q2⟩:=h2
 subst e
 refine zfr (RR:=fun acc C=>compPost (model X.prog X.w) X.A X.xe (some (assign (.Name y py) X.env)) (fun _ s'=>SP X pins D .next s') acc C) (Q:=fun x H1=>zE i x σ H1 D.nx) hcalm hxe hkind hcell hfr hfv hg ht he I2 T st2 f2 q2 hcl1 hcl2 ?_
 intro p C m H' s' hm I' hC hCl hC0 hCc hCp q'
 show wpAny _ X.A (assign (.Name y py) X.env (.ref p)) _ _ _
 refine wpAny_assign_Name (zgx (v:=.ref p) I' hN hy (.inl hyl) rfl (fun s'' I'' hsb=>?_) (.inr hyl))
 obtain⟨a,hsb,ha⟩:=hsb
 have hCa:C≠a:=by
  rcases ha with rfl | ha
  ·exact hCl
  ·exact fun e=>hCc _ _ ha e.symm
 refine⟨m,hm.sameBut hsb hCa,fun h' hs'=>⟨_,H',I''.turned (t':=s''.toks) (fun b o hb e=>hs'.extBut b o hb e) hC hCl (.inr hC0) hCc hCp,q'⟩⟩
end
section
variable {σ:L2.St}{H:Hp}{K:PySem.W.Frag}
end
section
variable {X:Cx}{tg:Expr}
end
section
variable {X:Cx}{pins:List (Addr×Obj)}{σ:L2.St}{H:Hp}{s:Shared}
end
section
variable {X:Cx}{pins:List (Addr×Obj)}{σ:L2.St}{H:Hp}{s:Shared}
end
section
variable {X:Cx}
end
section
variable {X:Cx}
end
def hT (x1 z1 x2 z2 a b:Int):Int:=z1*(x2-x1)*b+(z2-z1)*(a-x1*b)
def hB (x1 x2 b:Int):Int:=(x2-x1)*b
section
variable {σ:L2.St}{H:Hp}
end
structure zf6 (P:Program)(w:World)(K:PySem.W.Frag)(mg:Str->Option Value)(base:Heap)(k:Nat)(x:Str)(sp:Sp):Prop where
 ex:∃ (C f:Addr) (fd:FuncData) (ps:List Str) (sp0:Sp),Mk K C f/\zP P w K mg base CX0 k f fd ps sp0/\Binds K fd ps []/\mg x=some (.ref C) /\
  ∀ vs H Q,sp vs H Q E0->∀ x dx,H x=none->H dx=none->dx≠x->sp0 (.ref x::vs) (upd (upd H dx (.own x)) x (.ins C dx [])) (fun v H2=>v=.non/\Q (.ref x) H2) E0
theorem zn2 {X:Cx}{k j:Nat}{x:Str}{sp:Sp}{p pos:Pos}{e:Expr}{es:List Expr}{t:TA}(G:zf6 X.prog X.w X.K X.mg X.base k x sp)(hr:zan j X.A)(hk:k+1<=j)(hg:Gl X x)
  (ha:PA X (e::es) t) (hdb:(x==("__debug__":Str))=false:=by decide) (he:starEach (e::es) X.env=(false,eval e X.env)::starEach es X.env:=by rfl) (hpl:(backTo pos (starEach es X.env)).any (·.1)=false:=by rfl) :
  PE X (.Call (.Name x p) (e::es) [] pos) (ziK sp [] E0 t):=by
 intro pins s σ H Q I h
 obtain⟨C,f,fd,ps,sp0,M,F,b,hm,imp⟩:=G.ex
 refine wpAny_Call_Name_kw (zdI I hg hm ?_ hdb)
 refine PySem.W.callWith_K (h₀:=X.base) I.ok.mod.kin M.kp (thn (ha pos pins s σ H _ I h) fun us s1 ⟨vs,H1,I1,r,q⟩=>⟨I1.kIn,?_⟩) he hpl
 have q':sp (vs++[]) H1 Q E0:=q
 rw [List.append_nil] at q'
 exact zkz (dvs:=[]) (ds:=[]) M F (hr.mono hk) b .nil zkN I1 r fun x dx h1 h2 h3=>by rw [List.append_nil];exact imp vs H1 Q q' x dx h1 h2 h3
theorem zl1 {X:Cx}{x:Str}{n:Int}{pos:Pos}(hg:Gl X x)(hm:∃ t,X.mg x=some (.int n t))(hd:(x==("__debug__":Str))=false:=by decide):PE X (.Name x pos) (tC (.int n)):=by
 obtain⟨t,ht⟩:=hm
 exact zil (v:=.int n) hg ht ⟨t,rfl⟩ hd
section
variable {σ:L2.St}{H:Hp}{K:PySem.W.Frag}
end
section
variable {X:Cx}{K:PySem.W.Frag}
theorem zmP {pins:List (Addr×Obj)}{σ:L2.St}{H:Hp}{s:Shared}{p:Addr}{its:List Value}(_:Inv X pins σ H s)(pl:PlainL s.heap p its.toArray) :
  p<s.heap.objs.size/\(s.heap.push { cls:=.type "list_iterator",data:=.fields #[.ref p,.int 0 0] }).IsListIter s.heap.objs.size p 0:=by
 obtain⟨o,ho,_⟩:=pl.isList
 exact⟨Heap.lt_size ho,_,Heap.get?_push_size _ rfl,rfl,rfl⟩
theorem zmm {H:Hp}{pins:List (Addr×Obj)}{σ:L2.St}{s:Shared}{h':Heap}{tk:Nat}(I:Inv X pins σ H s){o:Obj}(hk:∀ b u,b∉[s.heap.objs.size]->(s.heap.push o).get? b=some u->h'.get? b=some u) :
  Inv X pins σ H { s with heap:=h',toks:=tk }:=I.kept (t':=tk) fun d u e=>hk d u (fun hm=>by
   have h1:d=s.heap.objs.size:=by simpa using hm
   have h2:=Heap.lt_size e
   rw [h1] at h2
   exact Nat.lt_irrefl _ h2) (Heap.get?_push_of_some _ e)
def zpk (K:PySem.W.Frag):List V->Hp->VK->Prop:=fun xs H Q=>∃ (p:Addr) (bs:List Bool),xs=[.ref p]/\SqL K H p (bs.map V.bl)/\Q (.bl (bs.all id)) H
theorem zkC {bs:List Bool}{its:List Value}(rv:Vals (bs.map V.bl) its){i:Nat}{v:Value}(h:its.toArray[i]?=some v):v=.bool (bs.getD i false):=by
 rw [<- Array.getElem?_toList] at h
 have hi:i<its.length:=by
  rcases Nat.lt_or_ge i its.length with g | g
  ·exact g
  ·rw [List.getElem?_eq_none (by simpa using g)] at h;cases h
 have hl:=rv.length
 rw [List.length_map] at hl
 have e:(bs.map V.bl)[i]?=some (.bl (bs.getD i false)):=by
  rw [List.getElem?_map,List.getElem?_eq_getElem (by omega)]
  simp [List.getD_eq_getElem?_getD,List.getElem?_eq_getElem (show i<bs.length by omega)]
 obtain⟨u,hu,ru⟩:=rv.get e
 rw [show its.toArray.toList=its from rfl,hu] at h
 cases h
 exact ru
theorem all_range (bs:List Bool):(List.range bs.length).all (fun i=>bs.getD i false)=bs.all id:=by
 rw [Bool.eq_iff_iff,List.all_eq_true,List.all_eq_true]
 constructor
 ·intro h b hb
  obtain⟨i,hi,rfl⟩:=List.mem_iff_getElem.mp hb
  simpa [List.getD_eq_getElem?_getD,List.getElem?_eq_getElem hi] using h i (List.mem_range.mpr hi)
 ·intro h i hi
  rw [List.mem_range] at hi
  have:=h bs[i] (List.getElem_mem hi)
  simpa [List.getD_eq_getElem?_getD,List.getElem?_eq_getElem hi] using this
theorem zjB (hK:X.K=K)(hc:X.calm=true):za4 X (.builtin "all") (zpk K):=fun pins s σ H xs us Q I r h=>by
 subst hK
 obtain⟨p,bs,rfl,hS,q⟩:=h
 obtain⟨u,rfl,ru⟩:=vals1 r
 cases ru
 obtain⟨its,rv,pl,hz⟩:=I.list hS
 obtain⟨lt,st⟩:=zmP I pl
 have hl:=rv.length
 rw [List.length_map] at hl
 have W:=Walks.list (prog:=X.prog) (w:=X.w) (A:=X.A.in1) (I.ok.hd hc) s.heap.objs.size p (Nat.ne_of_lt lt) its.toArray
 refine call_all_walk (wpAny_pyIter_list pl.isList ⟨s.heap.objs.size,[s.heap.objs.size,p],[s.heap.objs.size],_,_,_,fun i=>bs.getD i false,rfl,W,⟨st,pl.isList.push _⟩,?_,?_⟩)
 ·intro i v s' Q' E' hv hq
  rw [zkC rv hv]
  exact wpAny_truthy_bool hq
 ·intro h' tk hk
  rw [List.size_toArray,<- hl,all_range]
  exact⟨.bl _,H,zmm (s:=s) I hk,rfl,q⟩
end
section
variable {X:Cx}{K:PySem.W.Frag}
def zoK (K:PySem.W.Frag):R2:=fun x y H Q=>∃ l b xs zs,x=.ref l/\y=.ref b/\SqL K H l xs/\SqL K H b zs/\xs.length+zs.length<=sizeLine/\∀ p,H p=none->Q (.ref p) (upd H p (.lst (xs++zs)))
theorem zlE (hK:X.K=K):OpR X (binaryOp .Add) (zoK K):=by
 subst hK
 intro pins s σ H x y v u Q I rx ry h
 obtain⟨l,b,xs,zs,rfl,rfl,hH,hB,hz,q⟩:=h
 cases rx
 cases ry
 obtain⟨its,r,pl,_⟩:=I.list hH
 obtain⟨its2,r2,pl2,_⟩:=I.list hB
 obtain⟨⟨cls,dd,data,sl⟩,ho,hc,n,hd⟩:=pl.isList
 obtain⟨⟨cls2,dd2,data2,sl2⟩,ho2,hc2,n2,hd2⟩:=pl2.isList
 simp only at hc hd hc2 hd2
 subst hc hd hc2 hd2
 have e1:=r.length
 have e2:=r2.length
 refine concat_meets ⟨_,ho,rfl⟩ ⟨_,ho2,rfl⟩ noFill_list_add seq_list_add PySem.F.slot_list_add PySem.F.entry_list_add (PySem.F.args_list_add_2 _ _) (list_addW l b its.toArray its2.toArray n n2 dd dd2 sl sl2 (by rw [List.size_toArray,List.size_toArray];omega)) ⟨ho,ho2,?_⟩
 have ea:its.toArray++its2.toArray=(its++its2).toArray:=by simp
 rw [ea]
 exact⟨.ref _,_,I.lnew (t':=s.toks) (r.append r2) (by rw [List.length_append];omega),rfl,q _ I.fresh⟩
end
section
variable {σ:L2.St}{K:PySem.W.Frag}{own:List Str}{fv:List Nat}{g:TG}{tc:TT}{te:TE}{R:Hp->Prop}{H1:Hp}{p a:Addr}{xs:List V}
end
theorem zaG {α:Type}{xs:List α}{i:Nat}{x:α}(h:xs[i]?=some x):i<xs.length:=by
 rcases Nat.lt_or_ge i xs.length with g | g
 ·exact g
 ·rw [List.getElem?_eq_none g] at h;cases h
open PySem PySem.W PyProof.Rows
section
variable {lt:Nat->Nat->Bool}
end
open PySem PySem.Spec PySem.W PyProof.Rows L2
section
variable {prog:Program}{w:World}{A:Around}{E:Value->Shared->Prop}{s:Shared}
end
section
variable {K:PySem.W.Frag}{H:Hp}
end
def zmI (K:PySem.W.Frag):R2:=fun x y H Q=>∃ a b xs ys,x=.ref a/\y=.ref b/\SqT K H a xs/\SqT K H b ys/\xs.length+ys.length<=sizeLine/\(xs=[]->Q (.ref b) H)/\(xs≠[]->ys=[]->Q (.ref a) H)/\(xs≠[]->ys≠[]->∀ p,H p=none->Q (.ref p) (upd H p (.tup (xs++ys))))
theorem zkr {X:Cx}{K:PySem.W.Frag}(hK:X.K=K):OpR X (binaryOp .Add) (zmI K):=by
 subst hK
 intro pins s σ H x y v u Q I rx ry h
 obtain⟨a,b,xs,ys,rfl,rfl,ha,hb,hz,q0,q1,q2⟩:=h
 by_cases hx:xs=[]
 ·subst hx
  cases rx
  cases ry
  obtain⟨its,r1,p1,_⟩:=I.tuple ha
  obtain⟨its2,r2,p2,_⟩:=I.tuple hb
  cases r1
  obtain⟨⟨cls,dd,data,sl⟩,ho,hc,n,hd⟩:=id p1
  obtain⟨⟨cls2,dd2,data2,sl2⟩,ho2,hc2,n2,hd2⟩:=id p2
  simp only at hc hd hc2 hd2
  subst hc hd hc2 hd2
  exact concat_meets ⟨_,ho,rfl⟩ ⟨_,ho2,rfl⟩ noFill_tuple_add seq_tuple_add PySem.F.slot_tuple_add PySem.F.entry_tuple_add (PySem.F.args_tuple_add_2 _ _)
   (tuple_addW0 a b _ its2.toArray n n2 dd dd2 sl sl2 (by simp)) ⟨ho,ho2,⟨.ref b,H,I,rfl,q0 rfl⟩⟩
 ·exact zk9 pins s σ H _ _ v u Q I rx ry ⟨a,b,xs,ys,rfl,rfl,ha,hb,hx,hz,q1 hx,q2 hx⟩
end My
namespace Dp
open PySem
inductive D where
 | non | bl (b:Bool) | int (i:Int) | str (x:Str) | tup (xs:List D) | ref (n:Nat) | ty (n:String) | rl (xs:List D) | exn (c:Str)
 deriving Inhabited
inductive Cell where
 | lst (xs:List D) | ins (c:Str) (fs:List (Str×D))
 | dk (kvs:List (Str×D)) | dt (kvs:List (List (Sum Int Str)×D))
 deriving Inhabited
abbrev Sto:=List Cell
abbrev Rho:=List (Option D)
abbrev DK:=D->Sto->Prop
abbrev DE:=Rho->Sto->DK->Prop
abbrev DT:=Rho->Sto->(Bool->Sto->Prop)->Prop
abbrev DA:=Rho->Sto->(List D->Sto->Prop)->Prop
abbrev DG:=D->Rho->Sto->(Rho->Sto->Prop)->Prop
abbrev DGs:=List D->Rho->Sto->(Rho->Sto->Prop)->Prop
structure ziH where
 nx:Rho->Sto->Prop
 rt:DK
 bk:Rho->Sto->Prop:=fun _ _=>False
 ct:Rho->Sto->Prop:=fun _ _=>False
abbrev DS:=ziH->Rho->Sto->Prop
structure DIt where
 items:List D
 ok:Sto->Prop
abbrev DI:=Rho->Sto->(DIt->Sto->Prop)->Prop
abbrev DSp:=List D->Sto->DK->Prop
def big:Nat:=1000000
def fl:Nat->D->Bool
  | _,.ref _=>false
  | _,.ty _=>false
  | _,.rl _=>false
  | _,.exn _=>false
  | 0,.tup _=>false
  | k+1,.tup xs=>xs.all (fl k)
  | _,.non=>true
  | _,.bl _=>true
  | _,.int _=>true
  | _,.str x=>x.cps.all (· < 0x110000)
mutual
def eqv:D->D->Bool
 | .non,.non=>true
 | .bl a,.bl b=>a==b
 | .bl a,.int j=>(if a then 1 else 0)==j
 | .int i,.bl b=>i==(if b then 1 else 0)
 | .int i,.int j=>decide (i=j)
 | .str x,.str y=>x==y
 | .tup xs,.tup ys=>eqvAll xs ys
 | _,_=>false
def eqvAll:List D->List D->Bool
 | [],[]=>true
 | x::xs,y::ys=>eqv x y&&eqvAll xs ys
 | _,_=>false
end
def Lst (S:Sto)(x:D)(xs:List D):Prop:=x=.rl xs\/∃ n,x=.ref n/\S[n]?=some (.lst xs)
def zfW (S:Sto)(x:D)(xs:List D):Prop:=x=.tup xs\/Lst S x xs
def ixD (n:Nat)(k:Int):Option Nat:=if 0<=k then (if k<n then some k.toNat else none) else if -(n:Int)<=k then some (k+n).toNat else none
def atD (xs:List D)(k:Int):Option D:=(ixD xs.length k).bind fun j=>xs[j]?
def atS (z:Str)(k:Int):Option Nat:=(ixD z.cps.toList.length k).bind fun j=>z.cps.toList[j]?
def zc (i:Nat):DE:=fun ρ S Q=>∃ d,ρ[i]?=some (some d)/\Q d S
def dC (d:D):DE:=fun _ S Q=>Q d S
abbrev DR2:=D->D->Sto->DK->Prop
def dOp (r:DR2)(ta tb:DE):DE:=fun ρ S Q=>ta ρ S fun x S1=>tb ρ S1 fun y S2=>r x y S2 Q
def dUn (r:D->Sto->DK->Prop)(ta:DE):DE:=fun ρ S Q=>ta ρ S fun x S1=>r x S1 Q
def zu:DA:=fun _ S Q=>Q [] S
def zj (ta:DE)(tr:DA):DA:=fun ρ S Q=>ta ρ S fun x S1=>tr ρ S1 fun xs S2=>Q (x::xs) S2
def dTup (t:DA):DE:=fun ρ S Q=>t ρ S fun xs S1=>xs.length<=big/\Q (.tup xs) S1
def zaZ (t:DA):DE:=fun ρ S Q=>t ρ S fun xs S1=>xs.length<=big/\Q (.ref S1.length) (S1++[.lst xs])
def dCall (f:DSp)(t:DA):DE:=fun ρ S Q=>t ρ S fun xs S1=>f xs S1 Q
abbrev DB:=List D->Sto->DK->Prop
def dB (r:DB)(t:DA):DE:=fun ρ S Q=>t ρ S fun xs S1=>r xs S1 Q
def dT (t:DE):DT:=fun ρ S Q=>t ρ S fun x S1=>∃ b,x=.bl b/\Q b S1
def ziI (t u:DT):DT:=fun ρ S Q=>t ρ S fun c S1=>if c=true then u ρ S1 Q else Q false S1
def dOr (t u:DT):DT:=fun ρ S Q=>t ρ S fun c S1=>if c=true then Q true S1 else u ρ S1 Q
def zdw (t:DT):DT:=fun ρ S Q=>t ρ S fun c S1=>Q (!c) S1
def zd6 (t u:DE):DE:=fun ρ S Q=>t ρ S fun x S1=>∃ c,x=.bl c/\if c=true then u ρ S1 Q else Q (.bl false) S1
def zeT (t:DE):DE:=fun ρ S Q=>t ρ S fun x S1=>∃ c,x=.bl c/\Q (.bl (!c)) S1
def zbT (f:Str)(ta:DE):DE:=fun ρ S Q=>ta ρ S fun x S1=>∃ n c fs d,x=.ref n/\S1[n]?=some (.ins c fs)/\fs.lookup f=some d/\Q d S1
def putD (f:Str)(v:D):List (Str×D)->List (Str×D)
 | []=>[(f,v)]
 | (g,x)::r=>if g=f then (g,v)::r else (g,x)::putD f v r
def ziE (c:Str)(init:DSp):DSp:=fun ds S Q=>init (.ref S.length::ds) (S++[.ins c []]) fun d S2=>d=.non/\Q (.ref S.length) S2
abbrev DM:=D->List D->Sto->DK->Prop
def dM (r:DM)(ta:DE)(t:DA):DE:=fun ρ S Q=>ta ρ S fun x S1=>(∃ n ys,x=.ref n/\S1[n]?=some (.lst ys))/\t ρ S1 fun xs S2=>r x xs S2 Q
def oI (C:Int->Int->Prop)(g:Int->Int->D):DR2:=fun x y S Q=>∃ i j,x=.int i/\y=.int j/\C i j/\Q (g i j) S
def oI0 (g:Int->Int->D):DR2:=fun x y S Q=>∃ i j,x=.int i/\y=.int j/\Q (g i j) S
def oU (g:Int->D):D->Sto->DK->Prop:=fun x S Q=>∃ i,x=.int i/\Q (g i) S
def zaq (i j:Int):Prop:=(My.Bd 8000 i/\My.Bd 8000 j)\/i.natAbs<2 ^ 64\/j.natAbs<2 ^ 64
def zkZ (_ j:Int):Prop:=j≠0/\My.Bd 8000 j
def zol (_ j:Int):Prop:=j≠0
def zac:DR2:=fun x y S Q=>(∃ i j,x=.int i/\y=.int j/\Q (.int (i+j)) S)\/(∃ xs ys,x=.tup xs/\y=.tup ys/\xs.length+ys.length<=big/\Q (.tup (xs++ys)) S) \/
 (∃ xs ys,Lst S x xs/\Lst S y ys/\xs.length+ys.length<=big/\Q (.ref S.length) (S++[.lst (xs++ys)])) \/
 (∃ i j:Str,x=.str i/\y=.str j/\i.length+j.length<=big/\Q (.str (i++j)) S)
def zbp:DR2:=oI0 fun i j=>.int (i-j)
def zpf (z:Str)(n:Int):Str:=if n<1 then Str.empty else if (n==1||z.length==0)=true then z else ⟨(List.replicate n.toNat z.cps).foldl (·++·) #[]⟩
@[irreducible] def Hg (x:Int):Prop:=x.natAbs<2 ^ 1048576
def zar:DR2:=fun x y S Q=>oI zaq (fun i j=>.int (i*j)) x y S Q\/(∃ (z:Str) (n:Int),x=.str z/\y=.int n/\z.length<=1000/\-1000<=n/\n<=1000/\Q (.str (zpf z n)) S)\/oI (fun i j=>Hg i/\Hg j) (fun i j=>.int (i*j)) x y S Q
def oDiv:DR2:=oI zkZ fun i j=>.int (i.fdiv j)
def oMod:DR2:=oI zol fun i j=>.int (i.fmod j)
def zem:D->Sto->DK->Prop:=oU fun i=>.int (-i)
def oLt:DR2:=oI0 fun i j=>.bl (decide (i<j))
def oLe:DR2:=oI0 fun i j=>.bl (decide (i<=j))
def oGt:DR2:=oI0 fun i j=>.bl (decide (j<i))
def zfL (S:Sto):List D->List (List D)->Prop
 | [],[]=>True
 | x::xs,z::zs=>Lst S x z/\zfL S xs zs
 | _,_=>False
def zd7 (xss:List (List D)):Bool:=xss.all fun zs=>zs.all (fl 20)
def EqD (S:Sto)(x y:D)(b:Bool):Prop:=(fl 20 x=true/\fl 20 y=true/\b=eqv x y)\/(∃ xs ys,Lst S x xs/\Lst S y ys/\xs.all (fl 20)=true/\ys.all (fl 20)=true/\b=eqvAll xs ys) \/
 (∃ xs ys xss yss,Lst S x xs/\Lst S y ys/\zfL S xs xss/\zfL S ys yss/\zd7 xss=true/\zd7 yss=true/\b=eqvAll (xss.map D.tup) (yss.map D.tup))
def oEq:DR2:=fun x y S Q=>∃ b,EqD S x y b/\Q (.bl b) S
def oNe:DR2:=fun x y S Q=>∃ b,EqD S x y b/\Q (.bl (!b)) S
def InD (S:Sto)(x y:D)(b:Bool):Prop:=∃ ys,zfW S y ys/\fl 20 x=true/\ys.all (fl 20)=true/\b=ys.any fun z=>eqv z x
def oIn:DR2:=fun x y S Q=>(∃ b,InD S x y b/\Q (.bl b) S)\/(∃ (c:Nat) (z:Str),x=.str ⟨#[c]⟩/\y=.str z/\Q (.bl (decide (c∈z.cps.toList))) S)
def zd4:D->Bool
 | .non=>true
 | _=>false
def zgf:DR2:=fun x y S Q=>(y=.non/\Q (.bl (!zd4 x)) S)\/(∃ a b,x=.bl a/\y=.bl b/\Q (.bl (!(a==b))) S)
def oIx:DR2:=fun x y S Q=>(∃ i xs d,y=.int i/\zfW S x xs/\atD xs i=some d/\Q d S)\/(∃ (z:Str) (i:Int) (c:Nat),x=.str z/\y=.int i/\z.length<=big/\atS z i=some c/\Q (.str ⟨#[c]⟩) S)
def zbs:DB:=fun vs S Q=>(∃ x xs,vs=[x]/\zfW S x xs/\Q (.int xs.length) S)\/(∃ z:Str,vs=[.str z]/\z.length<=big/\Q (.int z.length) S)
def zkB:DB:=fun vs S Q=>∃ i,vs=[.int i]/\Q (.int (i.natAbs:Int)) S
def zey:DB:=fun vs S Q=>∃ x bs,vs=[x]/\Lst S x (List.map D.bl bs)/\Q (.bl (bs.all id)) S
def zcg:DB:=fun vs S Q=>∃ x xs,vs=[x]/\zfW S x xs/\Q (.ref S.length) (S++[.lst xs])
def zcs:DB:=fun vs S Q=>(∃ i:Int,vs=[.int i]/\My.Bd 1900 i/\Q (.str (Str.ofString (toString i))) S)\/∃ z:Str,vs=[.str z]/\Q (.str z) S
def zeU (ta tb:DE):DE:=fun ρ S Q=>ta ρ S fun x S1=>(∃ z,x=.str z)/\tb ρ S1 fun y S2=>∃ z n,∃ zs:List Str,x=.str z/\y=.ref n/\S2[n]?=some (.lst (zs.map D.str))/\(zs.map (·.length)).sum+zs.length*z.length<=big/\Q (.str (Str.join z zs)) S2
def dF3 (c:Str)(ta tb:DE):DE:=fun ρ S Q=>ta ρ S fun x S1=>(∃ i,x=.int i/\My.Bd 1900 i/\(Str.ofString (toString i)).length<=1000/\c.length<=1000)/\tb ρ S1 fun y S2=>∃ i j,x=.int i/\y=.int j/\My.Bd 1900 j/\(Str.ofString (toString j)).length<=1000/\Q (.str (Str.ofString (toString i)++c++Str.ofString (toString j))) S2
def zgc (t:String):Bool:=t=="int"||t=="bool"||t=="tuple"||t=="list"||t=="str"
def znr (S:Sto)(t:String)(d:D):Option Bool:=if (!zgc t)=true then none else match d with
 | .non=>some false
 | .bl _=>some (t=="bool"||t=="int")
 | .int _=>some (t=="int")
 | .str _=>some (t=="str")
 | .tup _=>some (t=="tuple")
 | .ref n=>match S[n]? with
  | some (.lst _)=>some (t=="list")
  | _=>none
 | .ty _=>none
 | .rl _=>none
 | .exn _=>none
def zdU:DB:=fun vs S Q=>∃ x t b,vs=[x,.ty t]/\znr S t x=some b/\Q (.bl b) S
abbrev p2 (c:Int×Int):D:=.tup [.int c.1,.int c.2]
def zaU:DM:=fun x vs S Q=>∃ n xs y,x=.ref n/\vs=[y]/\S[n]?=some (.lst xs)/\xs.length<big/\Q .non (S.set n (.lst (xs++[y])))
def zE (i:Nat):DG:=fun d ρ S Q=>Q (ρ.set i (some d)) S
def zd2:DGs:=fun ds ρ S Q=>ds=[]/\Q ρ S
def zbA (t:DG)(u:DGs):DGs:=fun ds ρ S Q=>∃ d r,ds=d::r/\t d ρ S fun ρ' S'=>u r ρ' S' Q
def zdS (n:Nat)(t:DGs):DG:=fun d ρ S Q=>∃ xs,d=.tup xs/\xs.length=n/\t xs ρ S Q
def zf4 (to ti:DE):DG:=fun d ρ S Q=>to ρ S fun o S1=>ti ρ S1 fun i S2=>∃ n xs k j,o=.ref n/\i=.int k/\S2[n]?=some (.lst xs)/\ixD xs.length k=some j/\Q ρ (S2.set n (.lst (xs.set j d)))
def zH (t u:DS):DS:=fun E ρ S=>t { E with nx:=u E } ρ S
def zal:DS:=fun E ρ S=>E.nx ρ S
def zaj (t:DE):DS:=fun E ρ S=>t ρ S E.rt
def zaQ (t:DE):DS:=fun E ρ S=>t ρ S fun _ S1=>E.nx ρ S1
def zM (t:DE)(g:DG):DS:=fun E ρ S=>t ρ S fun x S1=>g x ρ S1 E.nx
def sIf (c:DT)(t u:DS):DS:=fun E ρ S=>c ρ S fun b S1=>if b=true then t E ρ S1 else u E ρ S1
def sJ (t:DS):DS:=fun E ρ S=>∃ J:Rho->Sto->Prop,(∀ ρ S,J ρ S->E.nx ρ S)/\t { E with nx:=J } ρ S
def zbw:DS:=fun _ _ _=>False
def zcF (c f:Str)(to tv:DE):DS:=fun E ρ S=>tv ρ S fun y S1=>to ρ S1 fun x S2=>∃ n fs,x=.ref n/\S2[n]?=some (.ins c fs)/\fs.length<100/\E.nx ρ (S2.set n (.ins c (putD f y fs)))
def zj3 (i:Nat)(t:DE):DS:=fun E ρ S=>∃ a,ρ[i]?=some (some (.int a))/\t ρ S fun y S1=>∃ b,y=.int b/\E.nx (ρ.set i (some (.int (a+b)))) S1
def zfJ (c:DT)(t:DS):DS:=fun E ρ S=>∃ W:Nat->Rho->Sto->Prop,(∃ m,W m ρ S)/\∀ m ρ S,W m ρ S ->
 c ρ S fun b S1=>if b=true then ∃ N:Rho->Sto->Prop,(∀ ρ' S',N ρ' S'->∃ m',m'<m/\W m' ρ' S')/\t { E with nx:=N,ct:=N,bk:=E.nx } ρ S1 else E.nx ρ S1
def zds (wi:DI)(g:DG)(t:DS):DS:=fun E ρ S=>wi ρ S fun J S1=>∃ W:Nat->Rho->Sto->Prop,W 0 ρ S1/\(∀ i ρ S,W i ρ S->J.ok S) /\
 (∀ i d ρ S,J.items[i]?=some d->W i ρ S->g d ρ S fun ρ2 S2=>t { E with nx:=W (i+1),ct:=W (i+1),bk:=E.nx } ρ2 S2)/\∀ ρ S,W J.items.length ρ S->E.nx ρ S
def signs (z:Str):List D:=z.cps.toList.map fun c=>.str ⟨#[c]⟩
def zfN (x:D)(S1:Sto)(R:DIt->Sto->Prop):Prop:=(∃ xs,x=.tup xs/\R ⟨xs,fun _=>True⟩ S1)\/(∃ xs,Lst S1 x xs/\R ⟨xs,fun S=>Lst S x xs⟩ S1)\/(∃ z:Str,x=.str z/\R ⟨signs z,fun _=>True⟩ S1)
def zbK (t:DE):DI:=fun ρ S R=>t ρ S fun x S1=>zfN x S1 R
def upto (lo:Int)(n:Nat):List D:=(List.range n).map fun k:Nat=>D.int (lo+(k:Int))
def zcX (t:DA):DI:=fun ρ S R=>t ρ S fun vs S1=>∃ j:Int,vs=[.int j]/\-(2 ^ 62)<=j/\j<2 ^ 62/\R ⟨upto 0 j.toNat,fun _=>True⟩ S1
def zfs (t:DA):DI:=fun ρ S R=>t ρ S fun vs S1=>∃ i j:Int,vs=[.int i,.int j]/\R ⟨upto i (j-i).toNat,fun _=>True⟩ S1
def zel (c:List Str)(z:Str):List Str:=if c.any (·==z)=true then c else c++[z]
def zbD (f:Nat->Str):Nat->List Str
 | 0=>[]
 | i+1=>zel (zbD f i) (f i)
def zki (zs:List Str):Nat:=(zbD (fun i=>zs.getD i Str.empty) zs.length).length
def ziS:DB:=fun vs S Q=>∃ x,∃ zs:List Str,vs=[x]/\Lst S x (zs.map D.str)/\zs.length<=4000/\Q (.int (zki zs)) S
def zfb (own:Nat)(fv:List Nat)(ρ:Rho):Rho:=List.replicate own none++fv.map fun j=>(ρ[j]?).join
def zbc:DT:=fun _ S Q=>Q true S
def dLC (own:Nat)(fv:List Nat)(wi:DI)(g:DG)(tc:DT)(te:DE):DE:=fun ρ S Q=>wi ρ S fun J S1=>J.items.length<=big/\∃ W:Nat->List D->Sto->Prop,W 0 [] S1/\(∀ i ys S,W i ys S->J.ok S) /\
 (∀ i d ys S,J.items[i]?=some d->W i ys S->g d (zfb own fv ρ) S fun ρ2 S2=>tc ρ2 S2 fun b S3=>if b=true then te ρ2 S3 fun y S4=>W (i+1) (ys++[y]) S4 else W (i+1) ys S3) /\
 ∀ ys S,W J.items.length ys S->Q (.ref S.length) (S++[.lst ys])
def kD:Sum Int Str->D
 | .inl i=>.int i
 | .inr x=>.str x
section
variable {κ:Type}[DecidableEq κ]
end
def fc:Cell->Bool
 | .lst xs=>xs.all (fl 20)
 | .ins _ _=>false
 | .dk _=>false
 | .dt _=>false
def Fin (S:Sto)(Q:DK):DK:=fun d S'=>Q d S'\/∃ S1,S1 <+: S'/\S.length<=S1.length/\(fl 20 d=true\/∃ n,d=.ref n/\n<S1.length)/\(∀ (n:Nat) c,S1[n]?=some c->S[n]?=some c\/fc c=true)/\Q d S1
def zcO (n:Nat)(ds:List D):Rho:=ds.map some++List.replicate (n-ds.length) none
def BodyOk (n:Nat)(b:DS)(f:DSp):Prop:=∀ ds S Q,f ds S Q->b ⟨fun _ S'=>Fin S Q .non S',Fin S Q,fun _ _=>False,fun _ _=>False⟩ (zcO n ds) S
abbrev XD:=Str->Sto->Prop
abbrev XR:=Rho->Str->Sto->Prop
abbrev zfm:=List D->Sto->DK->XD->Prop
def zhj (f:zfm)(ex:XR)(t:DA):DE:=fun ρ S Q=>t ρ S fun xs S1=>f xs S1 Q (ex ρ)
def xF:XR:=fun _ _ _=>False
def zg3 (ex:XR)(c:Str):DS:=fun _ ρ S=>ex ρ c S
def zim (n:Nat)(b:XR->DS)(f:zfm):Prop:=∀ ds S Q ex,f ds S Q ex->b (fun _=>ex) ⟨fun _ S'=>Fin S Q .non S',Fin S Q,fun _ _=>False,fun _ _=>False⟩ (zcO n ds) S
def New (Q:DK)(S:Sto)(xs:List D):Prop:=Q (.ref S.length) (S++[.lst xs])
def Put (Q:Sto->Prop)(S:Sto)(n:Nat)(c:Cell):Prop:=Q (S.set n c)
def zkf (own:Nat)(fv:List Nat)(g:DG)(tc:DT)(te:DE)(ρ:Rho)(Q:DK)(J:DIt)(S:Sto):Prop:=J.items.length<=big/\∃ W:Nat->List D->Sto->Prop,W 0 [] S/\(∀ i ys S,W i ys S->J.ok S) /\
 (∀ i d ys S,J.items[i]?=some d->W i ys S->g d (zfb own fv ρ) S fun ρ2 S2=>tc ρ2 S2 fun b S3=>if b=true then te ρ2 S3 fun y S4=>W (i+1) (ys++[y]) S4 else W (i+1) ys S3) /\
 ∀ ys S,W J.items.length ys S->New Q S ys
def zkK (d:D)(ρ:Rho)(Q:Rho->Sto->Prop)(o i:D)(S2:Sto):Prop:=∃ n xs k j,o=.ref n/\i=.int k/\S2[n]?=some (.lst xs)/\ixD xs.length k=some j/\Q ρ (S2.set n (.lst (xs.set j d)))
def zkW (nx:Rho->Sto->Prop)(rt:DK)(g:DG)(t:DS)(ρ:Rho)(J:DIt)(S:Sto):Prop:=∃ W:Nat->Rho->Sto->Prop,W 0 ρ S/\(∀ i ρ S,W i ρ S->J.ok S) /\
 (∀ i d ρ S,J.items[i]?=some d->W i ρ S->g d ρ S fun ρ2 S2=>t ⟨W (i+1),rt,nx,W (i+1)⟩ ρ2 S2)/\∀ ρ S,W J.items.length ρ S->nx ρ S
def zkT (W:Nat->Rho->Sto->Prop)(m:Nat)(t:DS)(rt:DK)(nx:Rho->Sto->Prop)(ρ:Rho)(S:Sto):Prop:=∃ N:Rho->Sto->Prop,(∀ ρ' S',N ρ' S'->∃ m',m'<m/\W m' ρ' S')/\t ⟨N,rt,nx,N⟩ ρ S
theorem zcN {nx:Rho->Sto->Prop}{rt:DK}{g:DG}{t:DS}{ρ:Rho}{xs:List D}{ok:Sto->Prop}{S:Sto}(W:Nat->Rho->Sto->Prop)(h0:W 0 ρ S)(hok:∀ i ρ S,W i ρ S->ok S)
  (step:∀ i d ρ S,xs[i]?=some d->W i ρ S->g d ρ S fun ρ2 S2=>t ⟨W (i+1),rt,nx,W (i+1)⟩ ρ2 S2) (fin:∀ ρ S,W xs.length ρ S->nx ρ S):zkW nx rt g t ρ ⟨xs,ok⟩ S:=⟨W,h0,hok,step,fin⟩
theorem zoF {S:Sto}{Q:DK}{xs:List D}(h:Q (.ref S.length) (S++[.lst xs])):New Q S xs:=h
theorem zcG {S T:Sto}{Q:DK}{xs:List D}(h:Q (.ref (S.length+T.length)) (S++(T++[.lst xs]))):New Q (S++T) xs:=by
 unfold New;rw [List.length_append,List.append_assoc];exact h
section
variable {S:Sto}{Q:DK}{xs:List D}{a b c d e f:Cell}
theorem zoE (h:Q (.ref (S.length+1)) (S++[a,.lst xs])):New Q (S++[a]) xs:=zcG h
theorem zof (h:Q (.ref (S.length+2)) (S++[a,b,.lst xs])):New Q (S++[a,b]) xs:=zcG h
theorem zn9 (h:Q (.ref (S.length+3)) (S++[a,b,c,.lst xs])):New Q (S++[a,b,c]) xs:=zcG h
theorem znW (h:Q (.ref (S.length+4)) (S++[a,b,c,d,.lst xs])):New Q (S++[a,b,c,d]) xs:=zcG h
theorem znE (h:Q (.ref (S.length+5)) (S++[a,b,c,d,e,.lst xs])):New Q (S++[a,b,c,d,e]) xs:=zcG h
end
theorem zeJ {S:Sto}{a:Cell}{T:Sto}{Q:Sto->Prop}{c:Cell}(h:Q (S++c::T)):Put Q (S++a::T) S.length c:=by
 unfold Put;rw [List.set_append_right _ _ (Nat.le_refl _),Nat.sub_self];exact h
theorem zmH {S:Sto}{a:Cell}{G T:Sto}{Q:Sto->Prop}{c:Cell}(h:Q (S++c::(G++T))):Put Q (S++(a::G++T)) S.length c:=zeJ h
theorem zmi {S:Sto}{a:Cell}{G T U V:Sto}{Q:Sto->Prop}{c:Cell}(h:Q (S++c::(G++T++U++V))):Put Q (S++(a::G++T++U++V)) S.length c:=zeJ h
theorem zoS {S T:Sto}{Q:Sto->Prop}{k:Nat}{c:Cell}(h:Q (S++T.set k c)):Put Q (S++T) (S.length+k) c:=by
 unfold Put;rw [List.set_append_right _ _ (Nat.le_add_right _ _),Nat.add_sub_cancel_left];exact h
section
variable {nx:Rho->Sto->Prop}{rt:DK}{bk ct:Rho->Sto->Prop}{ρ:Rho}{S:Sto}
theorem ziR {t u:DS}(h:t ⟨u ⟨nx,rt,bk,ct⟩,rt,bk,ct⟩ ρ S):zH t u ⟨nx,rt,bk,ct⟩ ρ S:=h
theorem r_J {t:DS}(J:Rho->Sto->Prop)(h:t ⟨J,rt,bk,ct⟩ ρ S)(hJ:∀ ρ S,J ρ S->nx ρ S):sJ t ⟨nx,rt,bk,ct⟩ ρ S:=⟨J,hJ,h⟩
theorem zmj (h:nx ρ S):zal ⟨nx,rt,bk,ct⟩ ρ S:=h
theorem zkU {t:DE}(h:t ρ S rt):zaj t ⟨nx,rt,bk,ct⟩ ρ S:=h
theorem zmK {t:DE}(h:t ρ S fun _ S1=>nx ρ S1):zaQ t ⟨nx,rt,bk,ct⟩ ρ S:=h
theorem zkM {t:DE}{g:DG}(h:t ρ S fun x S1=>g x ρ S1 nx):zM t g ⟨nx,rt,bk,ct⟩ ρ S:=h
theorem zpl {c:DT}{t u:DS}(h:c ρ S fun b S1=>if b=true then t ⟨nx,rt,bk,ct⟩ ρ S1 else u ⟨nx,rt,bk,ct⟩ ρ S1):sIf c t u ⟨nx,rt,bk,ct⟩ ρ S:=h
theorem zm4 {c f:Str}{to tv:DE}(h:tv ρ S fun y S1=>to ρ S1 fun x S2=>∃ n fs,x=.ref n/\S2[n]?=some (.ins c fs)/\fs.length<100/\nx ρ (S2.set n (.ins c (putD f y fs)))):zcF c f to tv ⟨nx,rt,bk,ct⟩ ρ S:=h
theorem zoL {i:Nat}{t:DE}{a:Int}(e:ρ[i]?=some (some (.int a)))(h:t ρ S fun y S1=>∃ b,y=.int b/\nx (ρ.set i (some (.int (a+b)))) S1):zj3 i t ⟨nx,rt,bk,ct⟩ ρ S:=⟨a,e,h⟩
theorem zn8 {wi:DI}{g:DG}{t:DS}(h:wi ρ S fun J S1=>zkW nx rt g t ρ J S1):zds wi g t ⟨nx,rt,bk,ct⟩ ρ S:=h
theorem zml {c:DT}{t:DS}(W:Nat->Rho->Sto->Prop)(m:Nat)(h0:W m ρ S)(h:∀ m ρ S,W m ρ S->c ρ S fun b S1=>if b=true then zkT W m t rt nx ρ S1 else nx ρ S1):zfJ c t ⟨nx,rt,bk,ct⟩ ρ S:=⟨W,⟨m,h0⟩,h⟩
theorem zjo {t:DS}{W:Nat->Rho->Sto->Prop}{m:Nat}(h:t ⟨fun ρ' S'=>∃ m',m'<m/\W m' ρ' S',rt,nx,fun ρ' S'=>∃ m',m'<m/\W m' ρ' S'⟩ ρ S):zkT W m t rt nx ρ S:=⟨_,fun _ _ z=>z,h⟩
theorem zlb {i:Nat}{d:D}{Q:Rho->Sto->Prop}(h:Q (ρ.set i (some d)) S):zE i d ρ S Q:=h
theorem znB {Q:Rho->Sto->Prop}(h:Q ρ S):zd2 [] ρ S Q:=⟨rfl,h⟩
theorem zk8 {t:DG}{u:DGs}{d:D}{r:List D}{Q:Rho->Sto->Prop}(h:t d ρ S fun ρ' S'=>u r ρ' S' Q):zbA t u (d::r) ρ S Q:=⟨d,r,rfl,h⟩
theorem znm {n:Nat}{t:DGs}{xs:List D}{Q:Rho->Sto->Prop}(e:xs.length=n)(h:t xs ρ S Q):zdS n t (.tup xs) ρ S Q:=⟨xs,rfl,e,h⟩
theorem zmn {to ti:DE}{d:D}{Q:Rho->Sto->Prop}(h:to ρ S fun o S1=>ti ρ S1 fun i S2=>zkK d ρ Q o i S2):zf4 to ti d ρ S Q:=h
theorem zdY {i:Nat}{d:D}{Q:DK}(h:ρ[i]?=some (some d))(q:Q d S):zc i ρ S Q:=⟨d,h,q⟩
theorem r_c {d:D}{Q:DK}(q:Q d S):dC d ρ S Q:=q
theorem ziP {r:DR2}{ta tb:DE}{Q:DK}(h:ta ρ S fun x S1=>tb ρ S1 fun y S2=>r x y S2 Q):dOp r ta tb ρ S Q:=h
theorem zo4 {r:D->Sto->DK->Prop}{ta:DE}{Q:DK}(h:ta ρ S fun x S1=>r x S1 Q):dUn r ta ρ S Q:=h
theorem zop {Q:List D->Sto->Prop}(h:Q [] S):zu ρ S Q:=h
theorem zhg {ta:DE}{tr:DA}{Q:List D->Sto->Prop}(h:ta ρ S fun x S1=>tr ρ S1 fun xs S2=>Q (x::xs) S2):zj ta tr ρ S Q:=h
theorem zkV {t:DA}{Q:DK}(h:t ρ S fun xs S1=>xs.length<=big/\Q (.tup xs) S1):dTup t ρ S Q:=h
theorem zoD {t:DA}{Q:DK}(h:t ρ S fun xs S1=>xs.length<=big/\New Q S1 xs):zaZ t ρ S Q:=h
theorem zot {xs:List D}{P:Prop}(h:Nat.ble xs.length big=true)(q:P):xs.length<=big/\P:=⟨Nat.le_of_ble_eq_true h,q⟩
theorem zmt {f:DSp}{t:DA}{Q:DK}(h:t ρ S fun xs S1=>f xs S1 Q):dCall f t ρ S Q:=h
theorem r_b {r:DB}{t:DA}{Q:DK}(h:t ρ S fun xs S1=>r xs S1 Q):dB r t ρ S Q:=h
theorem r_m {r:DM}{ta:DE}{t:DA}{Q:DK}(h:ta ρ S fun x S1=>(∃ n ys,x=.ref n/\S1[n]?=some (.lst ys))/\t ρ S1 fun xs S2=>r x xs S2 Q):dM r ta t ρ S Q:=h
theorem znO {n:Nat}{ys:List D}{P:Prop}(h:S[n]?=some (.lst ys))(q:P):(∃ m ys,D.ref n=.ref m/\S[m]?=some (.lst ys))/\P:=⟨⟨n,ys,rfl,h⟩,q⟩
theorem r_t {t:DE}{Q:Bool->Sto->Prop}(h:t ρ S fun x S1=>∃ b,x=.bl b/\Q b S1):dT t ρ S Q:=h
theorem zpe {c:Bool}{P:Bool->Prop}(h:P c):∃ b,D.bl c=D.bl b/\P b:=⟨c,rfl,h⟩
theorem zoa {c:Int}{P:Int->Prop}(h:P c):∃ b,D.int c=D.int b/\P b:=⟨c,rfl,h⟩
theorem zoU {t u:DT}{Q:Bool->Sto->Prop}(h:t ρ S fun c S1=>if c=true then u ρ S1 Q else Q false S1):ziI t u ρ S Q:=h
theorem zpd {t u:DT}{Q:Bool->Sto->Prop}(h:t ρ S fun c S1=>if c=true then Q true S1 else u ρ S1 Q):dOr t u ρ S Q:=h
theorem znN {t:DT}{Q:Bool->Sto->Prop}(h:t ρ S fun c S1=>Q (!c) S1):zdw t ρ S Q:=h
theorem zng {t u:DE}{Q:DK}(h:t ρ S fun x S1=>∃ c,x=.bl c/\if c=true then u ρ S1 Q else Q (.bl false) S1):zd6 t u ρ S Q:=h
theorem zms {t:DE}{Q:DK}(h:t ρ S fun x S1=>∃ c,x=.bl c/\Q (.bl (!c)) S1):zeT t ρ S Q:=h
theorem zoH {f:Str}{ta:DE}{Q:DK}(h:ta ρ S fun x S1=>∃ n c fs d,x=.ref n/\S1[n]?=some (.ins c fs)/\fs.lookup f=some d/\Q d S1):zbT f ta ρ S Q:=h
theorem zmW {ta tb:DE}{Q:DK}(h:ta ρ S fun x S1=>(∃ z,x=.str z)/\tb ρ S1 fun y S2=>∃ z n,∃ zs:List Str,x=.str z/\y=.ref n/\S2[n]?=some (.lst (zs.map D.str))/\(zs.map (·.length)).sum+zs.length*z.length<=big/\Q (.str (Str.join z zs)) S2):zeU ta tb ρ S Q:=h
theorem zo2 {c:Str}{ta tb:DE}{Q:DK}(h:ta ρ S fun x S1=>(∃ i,x=.int i/\My.Bd 1900 i/\(Str.ofString (toString i)).length<=1000/\c.length<=1000)/\tb ρ S1 fun y S2=>∃ i j,x=.int i/\y=.int j/\My.Bd 1900 j/\(Str.ofString (toString j)).length<=1000/\Q (.str (Str.ofString (toString i)++c++Str.ofString (toString j))) S2):dF3 c ta tb ρ S Q:=h
theorem zmD {Q:Bool->Sto->Prop}(h:Q true S):zbc ρ S Q:=h
end
section
variable {S:Sto}{Q:DK}
theorem znI {i j:Int}(q:Q (.int (i+j)) S):zac (.int i) (.int j) S Q:=.inl ⟨i,j,rfl,rfl,q⟩
theorem zeh {x y:D}{xs ys:List D}(hx:Lst S x xs)(hy:Lst S y ys)(h:xs.length+ys.length<=big)(q:New Q S (xs++ys)):zac x y S Q:=.inr (.inr (.inl ⟨xs,ys,hx,hy,h,q⟩))
theorem zhb {i j:Str}(h:i.length+j.length<=big)(q:Q (.str (i++j)) S):zac (.str i) (.str j) S Q:=.inr (.inr (.inr ⟨i,j,rfl,rfl,h,q⟩))
theorem zoj {i j:Int}(q:Q (.int (i-j)) S):zbp (.int i) (.int j) S Q:=⟨i,j,rfl,rfl,q⟩
theorem zob {i j:Int}(c:zaq i j)(q:Q (.int (i*j)) S):zar (.int i) (.int j) S Q:=.inl ⟨i,j,rfl,rfl,c,q⟩
theorem zn4 {c:Nat}{z:Str}(q:Q (.bl (decide (c∈z.cps.toList))) S):oIn (.str ⟨#[c]⟩) (.str z) S Q:=.inr ⟨c,z,rfl,rfl,q⟩
theorem znH {i j:Int}(c:0<j/\My.Bd 8000 j)(q:Q (.int (i/j)) S):oDiv (.int i) (.int j) S Q:=⟨i,j,rfl,rfl,⟨by omega,c.2⟩,by show Q (.int (i.fdiv j)) S;rw [Int.fdiv_eq_ediv_of_nonneg i (by omega)];exact q⟩
theorem zov {i j:Int}(c:0<j)(q:Q (.int (i%j)) S):oMod (.int i) (.int j) S Q:=⟨i,j,rfl,rfl,(by show j≠0;omega),by show Q (.int (i.fmod j)) S;rw [Int.fmod_eq_emod_of_nonneg i (by omega)];exact q⟩
theorem zjm {i j:Int}(c:zkZ i j)(q:Q (.int (i.fdiv j)) S):oDiv (.int i) (.int j) S Q:=⟨i,j,rfl,rfl,c,q⟩
theorem znf {i j:Int}(c:j≠0)(q:Q (.int (i.fmod j)) S):oMod (.int i) (.int j) S Q:=⟨i,j,rfl,rfl,c,q⟩
theorem zoi {i:Int}(q:Q (.int (-i)) S):zem (.int i) S Q:=⟨i,rfl,q⟩
theorem zo3 {i j:Int}(q:Q (.bl (decide (i<j))) S):oLt (.int i) (.int j) S Q:=⟨i,j,rfl,rfl,q⟩
theorem zoZ {i j:Int}(q:Q (.bl (decide (i<=j))) S):oLe (.int i) (.int j) S Q:=⟨i,j,rfl,rfl,q⟩
theorem zo1 {i j:Int}(q:Q (.bl (decide (j<i))) S):oGt (.int i) (.int j) S Q:=⟨i,j,rfl,rfl,q⟩
theorem znK {i j:Int}(q:Q (.bl (decide (i=j))) S):oEq (.int i) (.int j) S Q:=⟨_,.inl ⟨rfl,rfl,rfl⟩,q⟩
theorem zoy {i j:Int}(q:Q (.bl (!decide (i=j))) S):oNe (.int i) (.int j) S Q:=⟨_,.inl ⟨rfl,rfl,rfl⟩,q⟩
theorem zmb {i:Int}(q:Q (.bl true) S):zgf (.int i) .non S Q:=.inl ⟨rfl,q⟩
theorem znU {x:D}(q:Q (.bl (!zd4 x)) S):zgf x .non S Q:=.inl ⟨rfl,q⟩
theorem znT {xs:List D}{i:Int}{d:D}(e:atD xs i=some d)(q:Q d S):oIx (.tup xs) (.int i) S Q:=.inl ⟨i,xs,d,rfl,.inl rfl,e,q⟩
theorem znM {x:D}{xs:List D}{i:Int}{d:D}(h:Lst S x xs)(e:atD xs i=some d)(q:Q d S):oIx x (.int i) S Q:=.inl ⟨i,xs,d,rfl,.inr h,e,q⟩
theorem zoR {z:Str}{i:Int}{c:Nat}(hz:z.length<=big)(e:atS z i=some c)(q:Q (.str ⟨#[c]⟩) S):oIx (.str z) (.int i) S Q:=.inr ⟨z,i,c,rfl,rfl,hz,e,q⟩
theorem zmU {xs:List D}(q:Q (.int xs.length) S):zbs [.tup xs] S Q:=.inl ⟨_,xs,rfl,.inl rfl,q⟩
theorem zmx {x:D}{xs:List D}(h:Lst S x xs)(q:Q (.int xs.length) S):zbs [x] S Q:=.inl ⟨_,xs,rfl,.inr h,q⟩
theorem zjT {z:Str}(hz:z.length<=big)(q:Q (.int z.length) S):zbs [.str z] S Q:=.inr ⟨z,rfl,hz,q⟩
theorem zoI {i:Int}(q:Q (.int (i.natAbs:Int)) S):zkB [.int i] S Q:=⟨i,rfl,q⟩
theorem zoQ {x:D}{bs:List Bool}(h:Lst S x (bs.map D.bl))(q:Q (.bl (bs.all id)) S):zey [x] S Q:=⟨x,bs,rfl,h,q⟩
theorem zll {x:D}{xs:List D}(h:Lst S x xs)(q:New Q S xs):zcg [x] S Q:=⟨_,xs,rfl,.inr h,q⟩
theorem zlR {xs:List D}(q:New Q S xs):zcg [.tup xs] S Q:=⟨_,xs,rfl,.inl rfl,q⟩
theorem zcH {i:Int}(h:My.Bd 1900 i)(q:Q (.str (Str.ofString (toString i))) S):zcs [.int i] S Q:=.inl ⟨i,rfl,h,q⟩
theorem zmM {z:Str}(q:Q (.str z) S):zcs [.str z] S Q:=.inr ⟨z,rfl,q⟩
theorem zkg {n:Nat}{xs:List D}{y:D}(h:S[n]?=some (.lst xs))(hl:xs.length<big)(q:Put (Q .non) S n (.lst (xs++[y]))):zaU (.ref n) [y] S Q:=⟨n,xs,y,rfl,rfl,h,hl,q⟩
theorem zkP {n:Nat}{xs:List D}{k:Int}{j:Nat}{d:D}{ρ:Rho}{Q:Rho->Sto->Prop}(h:S[n]?=some (.lst xs))(e:ixD xs.length k=some j)(q:Put (Q ρ) S n (.lst (xs.set j d))):zkK d ρ Q (.ref n) (.int k) S:=⟨n,xs,k,j,rfl,rfl,h,e,q⟩
end
section
variable {ρ:Rho}{S:Sto}{R:DIt->Sto->Prop}
theorem zmO {t:DE}(h:t ρ S fun x S1=>zfN x S1 R):zbK t ρ S R:=h
theorem zoP {xs:List D}(q:R ⟨xs,fun _=>True⟩ S):zfN (.tup xs) S R:=.inl ⟨xs,rfl,q⟩
theorem znS {x:D}{xs:List D}(h:Lst S x xs)(q:R ⟨xs,fun S=>Lst S x xs⟩ S):zfN x S R:=.inr (.inl ⟨xs,h,q⟩)
theorem znR {z:Str}(q:R ⟨signs z,fun _=>True⟩ S):zfN (.str z) S R:=.inr (.inr ⟨z,rfl,q⟩)
theorem zmf {t:DA}(h:t ρ S fun vs S1=>∃ j:Int,vs=[.int j]/\-(2 ^ 62)<=j/\j<2 ^ 62/\R ⟨upto 0 j.toNat,fun _=>True⟩ S1):zcX t ρ S R:=h
theorem zmE {t:DA}(h:t ρ S fun vs S1=>∃ i j:Int,vs=[.int i,.int j]/\R ⟨upto i (j-i).toNat,fun _=>True⟩ S1):zfs t ρ S R:=h
theorem zl5 {Q:DK}{x:D}{zs:List Str}(hx:Lst S x (zs.map D.str))(hl:zs.length<=4000)(q:Q (.int (zki zs)) S):ziS [x] S Q:=⟨x,zs,rfl,hx,hl,q⟩
theorem zo8 {own:Nat}{fv:List Nat}{wi:DI}{g:DG}{tc:DT}{te:DE}{Q:DK}(h:wi ρ S fun J S1=>zkf own fv g tc te ρ Q J S1):dLC own fv wi g tc te ρ S Q:=h
end
theorem zkh {A B:Prop}(h:B):if false=true then A else B:=by rw [if_neg Bool.false_ne_true];exact h
theorem zkp {A B:Prop}(h:A):if true=true then A else B:=by rw [if_pos rfl];exact h
theorem r_d {c A B:Prop}[Decidable c](h1:c->A)(h2:¬ c->B):if decide c=true then A else B:=by
 by_cases h:c
 ·rw [decide_eq_true h,if_pos rfl];exact h1 h
 ·rw [decide_eq_false h,if_neg Bool.false_ne_true];exact h2 h
theorem zmF {c A B:Prop}[Decidable c](h1:¬ c->A)(h2:c->B):if (!decide c)=true then A else B:=by
 by_cases h:c
 ·rw [decide_eq_true h];exact h2 h
 ·rw [decide_eq_false h];exact h1 h
theorem zaF (S T:Sto)(k:Nat):(S++T)[S.length+k]?=T[k]?:=by
 rw [List.getElem?_append_right (Nat.le_add_right _ _),Nat.add_sub_cancel_left]
theorem zlH (S T:Sto):(S++T)[S.length]?=T[0]?:=zaF S T 0
theorem zaY {S T:Sto}{c:Cell}:(S++c::T)[S.length]?=some c:=(zaF S (c::T) 0).trans rfl
theorem zid {S T:Sto}{c:Cell}:(S++(T++[c]))[S.length+T.length]?=some c:=by rw [zaF,List.getElem?_append_right (Nat.le_refl _),Nat.sub_self];rfl
theorem zlV (S T:Sto)(k:Nat)(c:Cell):(S++T).set (S.length+k) c=S++T.set k c:=by
 rw [List.set_append_right _ _ (Nat.le_add_right _ _),Nat.add_sub_cancel_left]
theorem zbB (S T:Sto)(a c:Cell):(S++a::T).set S.length c=S++c::T:=zlV S (a::T) 0 c
theorem zah {S T:Sto}{n:Nat}{c:Cell}(h:S[n]?=some c):(S++T)[n]?=some c:=by
 have:n<S.length:=by
  rcases Nat.lt_or_ge n S.length with g | g
  ·exact g
  ·rw [List.getElem?_eq_none g] at h;cases h
 rw [List.getElem?_append_left this];exact h
theorem Lst.old {S T:Sto}{x:D}{xs:List D}(h:Lst S x xs):Lst (S++T) x xs:=h.imp id fun⟨n,e,h⟩=>⟨n,e,zah h⟩
theorem Lst.at {S T:Sto}{k:Nat}{xs:List D}(h:T[k]?=some (.lst xs)):Lst (S++T) (.ref (S.length+k)) xs:=.inr ⟨_,rfl,by rw [zaF];exact h⟩
theorem Lst.at0 {S T:Sto}{xs:List D}:Lst (S++.lst xs::T) (.ref S.length) xs:=.inr ⟨_,rfl,by rw [zlH];rfl⟩
theorem Lst.new {S T:Sto}{xs:List D}:Lst (S++(T++[.lst xs])) (.ref (S.length+T.length)) xs:=.inr ⟨_,rfl,zid⟩
theorem Lst.rl {S:Sto}{xs:List D}:Lst S (.rl xs) xs:=.inl rfl
theorem Lst.here {S:Sto}{n:Nat}{xs:List D}(h:S[n]?=some (.lst xs)):Lst S (.ref n) xs:=.inr ⟨n,rfl,h⟩
theorem zcw {S T:Sto}{Q:DK}{d:D}(h:fl 20 d=true)(q:Q d S):Fin S Q d (S++T):=.inr ⟨S,List.prefix_append _ _,Nat.le_refl _,.inl h,fun _ _ e=>.inl e,q⟩
theorem fin_same {S S':Sto}{Q:DK}{d:D}(q:Q d S'):Fin S Q d S':=.inl q
section
variable {S:Sto}{Q:DK}
theorem zgH {i:Int}(q:Q (.bl true) S):zdU [.int i,.ty "int"] S Q:=⟨_,_,true,rfl,by rfl,q⟩
theorem zge {i:Int}(q:Q (.bl false) S):zdU [.int i,.ty "bool"] S Q:=⟨_,_,false,rfl,by rfl,q⟩
theorem zfz {xs:List D}(q:Q (.bl true) S):zdU [.tup xs,.ty "tuple"] S Q:=⟨_,_,true,rfl,by rfl,q⟩
theorem zgL {x:Str}(q:Q (.bl true) S):zdU [.str x,.ty "str"] S Q:=⟨_,_,true,rfl,by rfl,q⟩
end
theorem zn1 {A B:Prop}(h:B):if (!true)=true then A else B:=zkh h
theorem zoz {A B:Prop}(h:A):if (!false)=true then A else B:=zkp h
theorem zeM {S:Sto}{Q:DK}{x:D}{bs:List Bool}{b:Bool}(h:Lst S x (bs.map D.bl))(e:bs.all id=b)(q:Q (.bl b) S):zey [x] S Q:=zoQ h (by rw [e];exact q)
def LcW (S:Sto)(items:List D)(p:D->Bool)(f:D->D)(i:Nat)(ys:List D)(S':Sto):Prop:=S'=S/\ys=((items.take i).filter p).map f
theorem zbe {α:Type}{xs:List α}{i:Nat}{x:α}(h:xs[i]?=some x):xs.take (i+1)=xs.take i++[x]:=by rw [List.take_succ,h];rfl
theorem zci {S:Sto}{items:List D}{p:D->Bool}{f:D->D}{i:Nat}{ys:List D}{d y:D}(hd:items[i]?=some d)(hw:LcW S items p f i ys S)(hp:p d=true)(hy:y=f d):LcW S items p f (i+1) (ys++[y]) S :=
 ⟨rfl,by rw [zbe hd,List.filter_append,List.map_append,<- hw.2,List.filter_cons_of_pos hp,hy];rfl⟩
theorem zby {own:Nat}{fv:List Nat}{xs:List D}{ok:Sto->Prop}{g:DG}{tc:DT}{te:DE}{ρ:Rho}{S:Sto}{Q:DK}(p:D->Bool)(f:D->D)(hok:ok S)(hbig:xs.length<=big)
  (step:∀ i d ys,xs[i]?=some d->LcW S xs p f i ys S->g d (zfb own fv ρ) S fun ρ2 S2=>tc ρ2 S2 fun b S3=>if b=true then te ρ2 S3 fun y S4=>LcW S xs p f (i+1) (ys++[y]) S4 else LcW S xs p f (i+1) ys S3)
  (q:New Q S ((xs.filter p).map f)):zkf own fv g tc te ρ Q ⟨xs,ok⟩ S:=by
 refine⟨hbig,LcW S xs p f,⟨rfl,by simp⟩,fun i ys S' h=>by rw [h.1];exact hok,fun i d ys S' hd h=>?_,fun ys S' h=>?_⟩
 ·obtain⟨rfl,_⟩:=id h
  exact step i d ys hd h
 ·obtain⟨rfl,rfl⟩:=h
  rw [List.take_length];exact q
theorem filter_true {α:Type}(xs:List α):xs.filter (fun _=>true)=xs:=List.filter_eq_self.mpr fun _ _=>rfl
theorem zcS {ds:List D}{i:Nat}{d:D}(h:ds[i]?=some d):atD ds (i:Int)=some d:=by
 have hl:i<ds.length:=by
  rcases Nat.lt_or_ge i ds.length with g | g
  ·exact g
  ·rw [List.getElem?_eq_none g] at h;cases h
 unfold atD ixD
 rw [if_pos (by omega),if_pos (by omega)]
 simpa using h
theorem zcc {lo:Int}{n i:Nat}{d:D}(h:(upto lo n)[i]?=some d):i<n/\d=.int (lo+i):=by
 unfold upto at h
 rw [List.getElem?_map] at h
 by_cases hi:i<n
 ·rw [List.getElem?_range hi] at h
  exact⟨hi,by simpa using h.symm⟩
 ·rw [List.getElem?_eq_none (by simpa using hi)] at h;cases h
theorem zaR (lo:Int)(n:Nat):(upto lo n).length=n:=by unfold upto;simp
theorem zcR {zs:List Int}{k:Int}(h0:0<=k)(h:k<zs.length):∃ z,z∈zs/\atD (zs.map D.int) k=some (.int z):=by
 refine⟨zs[k.toNat]'(by omega),List.getElem_mem _,?_⟩
 unfold atD ixD
 rw [List.length_map,if_pos h0,if_pos h]
 simp only [Option.bind_some]
 rw [List.getElem?_map,List.getElem?_eq_getElem (by omega)];rfl
theorem zmy {zs:List Int}{k:Int}(h0:0<=k)(h:k<zs.length):ixD (zs.map D.int).length k=some k.toNat:=by
 unfold ixD
 rw [List.length_map,if_pos h0,if_pos h]
theorem zig {zs:List Int}{i:Nat}{d:D}(h:(zs.map D.int)[i]?=some d):∃ z,zs[i]?=some z/\d=.int z:=by
 rw [List.getElem?_map] at h
 cases e:zs[i]? with
 | none=>rw [e] at h;cases h
 | some p=>rw [e] at h;cases h;exact⟨p,rfl,rfl⟩
theorem zjC {cs:List (Int×Int)}{i:Nat}{d:D}(h:(cs.map p2)[i]?=some d):∃ c,cs[i]?=some c/\d=p2 c:=by
 rw [List.getElem?_map] at h
 cases e:cs[i]? with
 | none=>rw [e] at h;cases h
 | some p=>rw [e] at h;cases h;exact⟨p,rfl,rfl⟩
theorem zav {α:Type}{xs:List α}{i:Nat}{x:α}(h:xs[i]?=some x):i<xs.length:=by
 rcases Nat.lt_or_ge i xs.length with g | g
 ·exact g
 ·rw [List.getElem?_eq_none g] at h;cases h
def zbM:Option Int->D
 | none=>.non
 | some v=>.int v
def zc8:DSp:=fun ds S Q=>∃ ns:List Int,ds=[.rl (ns.map D.int)]/\(S=[]/\∀ n∈ns,Hg n)/\ns.length<=63/\∀ S',Q (.bl true) S'
theorem zlr:∀ ds So Q,zc8 ds So Q->ds.length=1:=fun ds So Q ⟨ns,e,_⟩=>by rw [e];rfl
def onI (f:Int->D):D->D
 | .int h=>f h
 | d=>d
theorem zlW (f:Int->D)(hs:List Int):(hs.map D.int).map (onI f)=hs.map f:=by rw [List.map_map];rfl
section
variable {nx:Rho->Sto->Prop}{rt:DK}{bk ct:Rho->Sto->Prop}{ρ:Rho}{S:Sto}
theorem zlu {f:zfm}{ex:XR}{t:DA}{Q:DK}(h:t ρ S fun xs S1=>f xs S1 Q (ex ρ)):zhj f ex t ρ S Q:=h
theorem zl0 {ex:XR}{c:Str}(h:ex ρ c S):zg3 ex c ⟨nx,rt,bk,ct⟩ ρ S:=h
end
theorem zlX {S:Sto}{Q:DK}{x y:Str}{b:Bool}(fx:fl 20 (.str x)=true)(fy:fl 20 (.str y)=true)(e:(x==y)=b)(q:Q (.bl b) S):oEq (.str x) (.str y) S Q:=⟨_,.inl ⟨fx,fy,rfl⟩,by show Q (.bl (x==y)) S;rw [e];exact q⟩
section
variable {nx:Rho->Sto->Prop}{rt:DK}{bk ct:Rho->Sto->Prop}{ρ:Rho}{S:Sto}{Q:DK}{td ti tz tv:DE}
end
section
variable {κ:Type}[DecidableEq κ]
end
theorem ze4 (c:List Str)(z:Str):(zel c z).length=if c.any (·==z) then c.length else c.length+1:=by
  unfold zel;split<;>simp
theorem zhF (c:List Str)(z y:Str):(zel c z).any (·==y)=(c.any (·==y)||decide (y=z)):=by
  unfold zel
  by_cases h:c.any (·==z)=true
  · rw [if_pos h]
    by_cases e:y=z
    · subst e;rw [h];rfl
    · rw [decide_eq_false e,Bool.or_false]
  · rw [if_neg h,List.any_append]
    congr 1
    by_cases e:y=z
    · subst e;simp
    · rw [decide_eq_false e]
      have:(z==y)=false:=beq_eq_false_iff_ne.mpr fun q=>e q.symm
      simp [this]
theorem zfS (f:Nat->Str):∀ i,(zbD f i).length<=i
  | 0=>Nat.le_refl _
  | i+1=>by
    have:=zfS f i
    show (zel (zbD f i) (f i)).length<=i+1
    rw [ze4];split<;>omega
theorem zg8 (f:Nat->Str)(y:Str):∀ i,((zbD f i).any (·==y)=true↔∃ j,j<i/\f j=y)
  | 0=>⟨fun h=>(by simp [zbD] at h),fun⟨j,hj,_⟩=>(by omega)⟩
  | i+1=>by
    show ((zel (zbD f i) (f i)).any (·==y)=true)↔_
    rw [zhF,Bool.or_eq_true,zg8 f y i,decide_eq_true_eq]
    constructor
    · rintro (⟨j,hj,e⟩ | e)
      · exact⟨j,by omega,e⟩
      · exact⟨i,by omega,e.symm⟩
    · rintro⟨j,hj,e⟩
      rcases Nat.lt_or_ge j i with h | h
      · exact .inl ⟨j,h,e⟩
      · have:j=i:=by omega
        subst this;exact .inr e.symm
theorem zhD (f:Nat->Str):∀ i,(∀ a b,a<b->b<i->f a≠f b)->(zbD f i).length=i
 | 0,_=>rfl
 | i+1,h=>by
  show (zel (zbD f i) (f i)).length=i+1
  rw [ze4,zhD f i fun a b x y=>h a b x (by omega)]
  rw [if_neg]
  intro z
  obtain⟨j,hj,e⟩:=(zg8 f (f i) i).mp z
  exact h j i hj (by omega) e
theorem ziZ {zs:List Str}(h:zs.Nodup):zki zs=zs.length:=zhD _ _ fun a b hab hb=>by
 show zs.getD a Str.empty≠zs.getD b Str.empty
 rw [List.getD_eq_getElem?_getD,List.getD_eq_getElem?_getD,List.getElem?_eq_getElem hb,List.getElem?_eq_getElem (show a<zs.length by omega)]
 exact List.pairwise_iff_getElem.mp h a b (by omega) hb hab
end Dp
namespace Rm
structure Pc where
 lo:Int
 hi:Int
 to:Int
 st:Int
instance:DecidableEq Pc:=fun p q=>if h:p.lo=q.lo/\p.hi=q.hi/\p.to=q.to/\p.st=q.st then isTrue (by cases p;cases q;obtain⟨h1,h2,h3,h4⟩:=h;cases h1;cases h2;cases h3;cases h4;rfl) else isFalse (fun e=>h (by subst e;exact⟨rfl,rfl,rfl,rfl⟩))
def Pc.led (p:Pc)(h:Int):Int:=p.to+p.st*(h-p.lo)
def Pc.fin (p:Pc):Int:=p.led p.hi
end Rm
namespace Dp
open PySem Rm
open PySem Rm My
theorem zjY {xs:List D}{x:D}:ixD (xs++[x]).length (-1)=some xs.length:=by
 have hl:((xs++[x]).length:Int)=xs.length+1:=by simp
 unfold ixD
 rw [if_neg (by omega),if_pos (by omega)]
 congr 1;omega
theorem zgY {xs:List D}{x:D}:atD (xs++[x]) (-1)=some x:=by
 unfold atD
 rw [zjY]
 simp
end Dp
namespace Rm
open My Dp
end Rm
namespace Dp
open PySem Rm My
end Dp
namespace Rm
open My Dp
end Rm
namespace Dp
open PySem Rm My
structure Fg where
 x0:Int
 x1:Int
 z0:Int
 z1:Int
 f:Int
 l:Int
 g:Int
 s:Int
abbrev fgD (F:Fg):D:=.tup [.int F.x0,.int F.x1,.int F.z0,.int F.z1,.int F.f,.int F.l,.int F.g,.int F.s]
structure FgB (F:Fg):Prop where
 x:F.x0<=F.x1
 z:F.z0<=F.z1
 b0:Bd 600 F.x0
 b1:Bd 600 F.x1
 b2:Bd 600 F.z0
 b3:Bd 600 F.z1
 bg:Bd 200 F.g
 bs:Bd 200 F.s
theorem zhy {fs:List Fg}{i:Nat}{d:D}(h:(fs.map fgD)[i]?=some d):∃ F,fs[i]?=some F/\d=fgD F:=by
 rw [List.getElem?_map] at h
 cases e:fs[i]? with
 | none=>rw [e] at h;cases h
 | some p=>rw [e] at h;cases h;exact⟨p,rfl,rfl⟩
theorem Bd.btw {n:Nat}{a b x:Int}(ha:Bd n a)(hb:Bd n b)(h1:a<=x)(h2:x<=b):Bd n x:=by
 unfold Bd at *;omega
def flt (a b:Int×Int):Bool:=decide (a.1*b.2<b.1*a.2)
theorem zeW {cs:List (Int×Int)}{k:Int}(h0:0<=k)(h:k<cs.length):∃ c,cs[k.toNat]?=some c/\atD (cs.map p2) k=some (p2 c):=by
 have hk:k.toNat<cs.length:=by omega
 refine⟨cs[k.toNat],List.getElem?_eq_getElem hk,?_⟩
 have:=zcS (ds:=cs.map p2) (i:=k.toNat) (d:=p2 (cs[k.toNat])) (by rw [List.getElem?_map,List.getElem?_eq_getElem hk];rfl)
 rwa [show ((k.toNat:Nat):Int)=k by omega] at this
def lenV (ms:List (Int×Int)):Int:=(ms.map fun m=>m.2-m.1).sum
def Sv (c:Int×Int)(t b:Int):Prop:=0<c.2/\c.1*b=t*c.2
def hvT (a b p:Int×Int):Int:=if 0<b.1-a.1 then a.2*(b.1-a.1)*p.2+(b.2-a.2)*(p.1-a.1*p.2) else -(a.2*(b.1-a.1)*p.2+(b.2-a.2)*(p.1-a.1*p.2))
def hvB (a b p:Int×Int):Int:=if 0<b.1-a.1 then (b.1-a.1)*p.2 else -((b.1-a.1)*p.2)
theorem zii {a b p:Int×Int}(h:b.1≠a.1)(hp:0<p.2):0<hvB a b p:=by
 unfold hvB
 split
 ·exact Int.mul_pos (by omega) hp
 ·have:=Int.mul_pos (show 0 < -(b.1-a.1) by omega) hp
  rw [Int.neg_mul] at this
  exact this
theorem zmc {c d:Int×Int}{t b u e:Int}(hb:0<b)(he:0<e)(hc:Sv c t b)(hd:Sv d u e):flt c d=decide (t*e<u*b):=by
 obtain⟨c0,c1⟩:=hc
 obtain⟨d0,d1⟩:=hd
 unfold flt
 refine decide_eq_decide.mpr ?_
 have hbe:0<b*e:=Int.mul_pos hb he
 have hcd:0<c.2*d.2:=Int.mul_pos c0 d0
 rw [<- Int.mul_lt_mul_right hbe,<- Int.mul_lt_mul_right (b:=t*e) (c:=u*b) hcd]
 have e1:c.1*d.2*(b*e)=t*e*(c.2*d.2):=by
  have:c.1*d.2*(b*e)=c.1*b*(d.2*e):=by grind
  rw [this,c1];grind
 have e2:d.1*c.2*(b*e)=u*b*(c.2*d.2):=by
  have:d.1*c.2*(b*e)=d.1*e*(c.2*b):=by grind
  rw [this,d1];grind
 rw [e1,e2]
structure Grd (cs:List (Int×Int)):Prop where
 two:2<=cs.length
 most:cs.length<=40
 asc:cs.Pairwise fun a b=>a.1<b.1
 bd:∀ c∈cs,Bd 170 c.1/\Bd 190 c.2
def zf7 (cs:List (Int×Int)):Int:=(cs.getD 0 (0,0)).1
def zeK (cs:List (Int×Int)):Int:=(cs.getD (cs.length-1) (0,0)).1
def OnG (cs:List (Int×Int))(p:Int×Int):Prop:=zf7 cs*p.2<=p.1/\p.1<=zeK cs*p.2
def zen:List (Int×Int)->Int×Int->Option ((Int×Int)×(Int×Int))
 | a::b::r,p=>if p.1<=b.1*p.2 then some (a,b) else zen (b::r) p
 | _,_=>none
theorem seg_at:∀ {cs:List (Int×Int)} {p:Int×Int} {k:Nat} {a b:Int×Int},cs[k]?=some a->cs[k+1]?=some b->p.1<=b.1*p.2->(∀ j c,1<=j->j<=k->cs[j]?=some c->c.1*p.2<p.1)->zen cs p=some (a,b)
 | [],p,k,a,b,h,_,_,_=>by simp at h
 | [x],p,0,a,b,_,h,_,_=>by simp at h
 | [x],p,k+1,a,b,h,_,_,_=>by simp at h
 | x::y::r,p,0,a,b,h1,h2,h3,_=>by
  simp at h1 h2
  subst h1 h2
  unfold zen
  rw [if_pos h3]
 | x::y::r,p,k+1,a,b,h1,h2,h3,h4=>by
  have:=h4 1 y (by omega) (by omega) rfl
  unfold zen
  rw [if_neg (by omega)]
  exact seg_at (by simpa using h1) (by simpa using h2) h3 fun j c j1 j2 hc=>h4 (j+1) c (by omega) (by omega) (by simpa using hc)
theorem zfC:∀ {cs:List (Int×Int)} {p:Int×Int},2<=cs.length->p.1<=zeK cs*p.2->∃ k a b,cs[k]?=some a/\cs[k+1]?=some b/\p.1<=b.1*p.2/\∀ j c,1<=j->j<=k->cs[j]?=some c->c.1*p.2<p.1
 | [],p,h,_=>by simp at h
 | [x],p,h,_=>by simp at h
 | [x,y],p,_,h=>⟨0,x,y,rfl,rfl,h,fun j c j1 j2=>by omega⟩
 | x::y::z::r,p,_,h=>by
  by_cases g:p.1<=y.1*p.2
  ·exact⟨0,x,y,rfl,rfl,g,fun j c j1 j2=>by omega⟩
  ·obtain⟨k,a,b,h1,h2,h3,h4⟩:=zfC (cs:=y::z::r) (p:=p) (by simp) h
   refine⟨k+1,a,b,by simpa using h1,by simpa using h2,h3,fun j c j1 j2 hc=>?_⟩
   cases j with
   | zero=>omega
   | succ j =>
    cases j with
    | zero=>simp at hc;subst hc;omega
    | succ j=>exact h4 (j+1) c (by omega) (by omega) (by simpa using hc)
theorem zcP {cs:List (Int×Int)}(g:Grd cs){i j:Nat}{a b:Int×Int}(hij:i<j)(ha:cs[i]?=some a)(hb:cs[j]?=some b):a.1<b.1:=by
 have h1:=zav ha
 have h2:=zav hb
 rw [List.getElem?_eq_getElem h1] at ha
 rw [List.getElem?_eq_getElem h2] at hb
 cases ha;cases hb
 exact List.pairwise_iff_getElem.mp g.asc i j h1 h2 hij
theorem zca {cs:List (Int×Int)}(g:Grd cs):∃ a,cs[0]?=some a/\zf7 cs=a.1:=by
 have:=g.two
 obtain⟨a,h⟩:∃ a,cs[0]?=some a:=⟨cs[0],List.getElem?_eq_getElem (by omega)⟩
 exact⟨a,h,by unfold zf7;rw [List.getD_eq_getElem?_getD,h];rfl⟩
theorem zhE {cs:List (Int×Int)}(g:Grd cs):∃ a,cs[cs.length-1]?=some a/\zeK cs=a.1:=by
 have:=g.two
 obtain⟨a,h⟩:∃ a,cs[cs.length-1]?=some a:=⟨cs[cs.length-1],List.getElem?_eq_getElem (by omega)⟩
 exact⟨a,h,by unfold zeK;rw [List.getD_eq_getElem?_getD,h];rfl⟩
def GAt (S:Sto)(g:D)(cs:List (Int×Int)):Prop:=∃ n l,g=.ref n/\S[n]?=some (.ins "Ground" [("corners",.ref l)])/\S[l]?=some (.lst (cs.map p2))
theorem GAt.old {S T:Sto}{g:D}{cs:List (Int×Int)}(h:GAt S g cs):GAt (S++T) g cs:=let ⟨n,l,e,h1,h2⟩:=h;⟨n,l,e,zah h1,zah h2⟩
theorem znZ {S:Sto}{P:D->Prop}{n l:Nat}(h:S[n]?=some (.ins "Ground" [("corners",.ref l)]))(q:P (.ref l)):∃ m c fs d,D.ref n=.ref m/\S[m]?=some (.ins c fs)/\fs.lookup ("corners":Str)=some d/\P d:=⟨n,_,_,_,rfl,h,by simp [List.lookup_cons],q⟩
theorem zjU {cs:List (Int×Int)}(gr:Grd cs):∃ z,cs[cs.length-1]?=some z/\zeK cs=z.1/\atD (cs.map p2) (-1)=some (p2 z):=by
 have g1:=gr.two
 obtain⟨z,hz,ez⟩:=zhE gr
 refine⟨z,hz,ez,?_⟩
 have hne:cs≠[]:=fun e=>by rw [e] at g1;simp at g1
 have en:cs=cs.dropLast++[z]:=by
  have h2:=List.dropLast_concat_getLast hne
  have h3:cs.getLast hne=z:=by
   rw [List.getLast_eq_getElem]
   have hl':=zav hz
   rw [List.getElem?_eq_getElem hl'] at hz
   cases hz;rfl
  rw [h3] at h2
  exact h2.symm
 rw [en,List.map_append];exact zgY
structure Brk (cs:List (Int×Int))(p a b:Int×Int):Prop where
 ma:a∈cs
 mb:b∈cs
 lt:a.1<b.1
 lo:a.1*p.2<=p.1
 hi:p.1<=b.1*p.2
 no:∀ c∈cs,¬ (a.1<c.1/\c.1<b.1)
theorem ziu {cs:List (Int×Int)}(gr:Grd cs){p:Int×Int}(on:OnG cs p):∃ a b,zen cs p=some (a,b)/\Brk cs p a b:=by
 obtain⟨k,a,b,ha,hb,hle,hlt⟩:=zfC gr.two on.2
 refine⟨a,b,seg_at ha hb hle hlt,List.mem_of_getElem? ha,List.mem_of_getElem? hb,zcP gr (by omega) ha hb,?_,hle,fun c hc h=>?_⟩
 ·cases k with
  | zero =>
   obtain⟨f,hf,ef⟩:=zca gr
   rw [ha] at hf
   cases hf
   have:=on.1
   rw [ef] at this
   exact this
  | succ k=>exact Int.le_of_lt (hlt (k+1) a (by omega) (by omega) ha)
 ·obtain⟨j,hj⟩:=List.mem_iff_getElem?.mp hc
  rcases Nat.lt_trichotomy j k with g | g | g
  ·have:=zcP gr g hj ha;omega
  ·subst g;rw [ha] at hj;cases hj;omega
  ·rcases Nat.lt_or_ge (k+1) j with g2 | g2
   ·have:=zcP gr g2 hb hj;omega
   ·have:j=k+1:=by omega
    subst this;rw [hb] at hj;cases hj;omega
theorem zfq {own:Nat}{fv:List Nat}{xs:List D}{ok:Sto->Prop}{g:DG}{tc:DT}{te:DE}{ρ:Rho}{S:Sto}{Q:DK}(W:Nat->List D->Sto->Prop)(h0:W 0 [] S)(hok:∀ i ys S,W i ys S->ok S)(hbig:xs.length<=big)
  (step:∀ i d ys S,xs[i]?=some d->W i ys S->g d (zfb own fv ρ) S fun ρ2 S2=>tc ρ2 S2 fun b S3=>if b=true then te ρ2 S3 fun y S4=>W (i+1) (ys++[y]) S4 else W (i+1) ys S3)
  (fin:∀ ys S,W xs.length ys S->New Q S ys):zkf own fv g tc te ρ Q ⟨xs,ok⟩ S:=⟨hbig,W,h0,hok,step,fin⟩
def zgd (cs:List (Int×Int))(s:Int×Int):Prop:=OnG cs (s.1,1)/\∀ a b,zen cs (s.1,1)=some (a,b)->hvT a b (s.1,1)<=s.2*hvB a b (s.1,1)
def zcE (t b:Int):Int:=-(-t/b)
theorem zlY {t b:Int}(hb:0<b):t<=zcE t b*b/\(zcE t b-1)*b<t:=by
 unfold zcE
 have h1:=Int.ediv_mul_le (-t) (b:=b) (by omega)
 have h2:=Int.lt_ediv_add_one_mul_self (-t) hb
 rw [Int.neg_mul,Int.sub_mul,Int.neg_mul,Int.one_mul]
 rw [Int.add_mul,Int.one_mul] at h2
 omega
theorem zlB {t b z:Int}(hb:0<b):zcE t b<=z↔t<=z*b:=by
 obtain⟨h1,h2⟩:=zlY (t:=t) hb
 constructor
 ·intro h
  exact Int.le_trans h1 (Int.mul_le_mul_of_nonneg_right h (Int.le_of_lt hb))
 ·intro h
  rcases Int.lt_or_le z (zcE t b) with g | g
  ·have:=Int.mul_le_mul_of_nonneg_right (show z<=zcE t b-1 by omega) (Int.le_of_lt hb)
   omega
  ·exact g
theorem zit {cs:List (Int×Int)}(gr:Grd cs){p r:Int×Int}{xx:Int}(bk:Brk cs (xx,1) p r):0<hvB p r (xx,1)/\Bd 171 (hvB p r (xx,1))/\Bd 400 (hvT p r (xx,1))/\Bd 192 (zcE (hvT p r (xx,1)) (hvB p r (xx,1))):=by
 have hpr:=bk.lt
 have hB:0<hvB p r (xx,1):=zii (by omega) (show (0:Int)<1 by decide)
 obtain⟨bp1,bp2⟩:=gr.bd p bk.ma
 obtain⟨br1,br2⟩:=gr.bd r bk.mb
 have h1':p.1<=xx:=by have:p.1*1<=xx:=bk.lo;omega
 have h2':xx<=r.1:=by have:xx<=r.1*1:=bk.hi;omega
 have bx:Bd 171 xx:=(Bd.btw (n:=170) bp1 br1 h1' h2').mono (by decide)
 have bT:Bd 400 (hvT p r (xx,1)):=by
  have r1:Bd 171 (r.1-p.1):=Bd.sub br1 bp1
  have r2:Bd 191 (r.2-p.2):=Bd.sub br2 bp2
  have m1:Bd 361 (p.2*(r.1-p.1)):=Bd.mul bp2 r1
  have m2:Bd 172 (xx-p.1):=Bd.sub bx (bp1.mono (by decide))
  have m3:Bd 363 ((r.2-p.2)*(xx-p.1)):=Bd.mul r2 m2
  unfold hvT
  rw [if_pos (by omega)]
  dsimp only
  rw [Int.mul_one,Int.mul_one]
  exact (Bd.add (n:=363) (m1.mono (by decide)) m3).mono (by decide)
 have bB:Bd 171 (hvB p r (xx,1)):=by
  unfold hvB
  rw [if_pos (by omega)]
  dsimp only
  rw [Int.mul_one]
  exact Bd.sub br1 bp1
 refine⟨hB,bB,bT,?_⟩
 have eT:hvT p r (xx,1)=p.2*(r.1-xx)+r.2*(xx-p.1):=by
  unfold hvT
  rw [if_pos (by omega)]
  dsimp only
  grind
 have eB:hvB p r (xx,1)=(r.1-xx)+(xx-p.1):=by
  unfold hvB
  rw [if_pos (by omega)]
  dsimp only
  omega
 have lo:-(2 ^ 190)*hvB p r (xx,1)<=hvT p r (xx,1):=by
  rw [eT,eB]
  have k1:=Int.mul_le_mul_of_nonneg_right (show -(2 ^ 190:Int)<=p.2 by unfold Bd at bp2;omega) (show 0<=r.1-xx by omega)
  have k2:=Int.mul_le_mul_of_nonneg_right (show -(2 ^ 190:Int)<=r.2 by unfold Bd at br2;omega) (show 0<=xx-p.1 by omega)
  rw [Int.mul_add]
  omega
 have hi:hvT p r (xx,1)<=2 ^ 190*hvB p r (xx,1):=by
  rw [eT,eB]
  have k1:=Int.mul_le_mul_of_nonneg_right (show p.2<=(2 ^ 190:Int) by unfold Bd at bp2;omega) (show 0<=r.1-xx by omega)
  have k2:=Int.mul_le_mul_of_nonneg_right (show r.2<=(2 ^ 190:Int) by unfold Bd at br2;omega) (show 0<=xx-p.1 by omega)
  rw [Int.mul_add]
  omega
 have d1:-(2 ^ 190)<=-hvT p r (xx,1)/hvB p r (xx,1):=(Int.le_ediv_iff_mul_le hB).mpr (by rw [Int.neg_mul];omega)
 have d2:-hvT p r (xx,1)/hvB p r (xx,1)<=2 ^ 190:=Int.ediv_le_of_le_mul hB (by
  have:=lo
  rw [Int.neg_mul] at this
  omega)
 unfold zcE
 show _<2 ^ 192
 omega
def zcp (cs:List (Int×Int))(x:Int):Int:=match zen cs (x,1) with
 | some (a,b)=>zcE (hvT a b (x,1)) (hvB a b (x,1))
 | none=>0
theorem zkA {cs:List (Int×Int)}(gr:Grd cs){s:Int×Int}(on:OnG cs (s.1,1)):zgd cs s↔zcp cs s.1<=s.2:=by
 obtain⟨a,b,seg,bk⟩:=ziu gr on
 have hB:=(zit gr bk).1
 unfold zcp
 rw [seg]
 dsimp only
 rw [zlB hB]
 constructor
 ·intro h;exact h.2 a b seg
 ·intro h
  refine⟨on,fun a' b' seg'=>?_⟩
  rw [seg] at seg';cases seg';exact h
theorem zj2 {cs:List (Int×Int)}(gr:Grd cs){x:Int}(on:OnG cs (x,1)):Bd 192 (zcp cs x):=by
 obtain⟨a,b,seg,bk⟩:=ziu gr on
 unfold zcp
 rw [seg]
 exact (zit gr bk).2.2.2
section
variable {g:Int}{p q r s d t u v:Int×Int}
end
section
variable {cs:List (Int×Int)}{a b:Int×Int}{rp:List (Int×Int)}
end
section
variable {w h t m:Int}{cs:List (Int×Int)}
end
abbrev bcD (b:Str×(Int×Int)):D:=.tup [.str b.1,.int b.2.1,.int b.2.2]
def abc:List Nat:=List.range' 97 26
theorem zm8:("abcdefghijklmnopqrstuvwxyz":Str).cps.toList=abc:=by decide +kernel
theorem ziv {c:Nat}:c∈abc↔97<=c/\c<=122:=by unfold abc;rw [List.mem_range'_1];omega
def nmB (z:Str):Bool:=decide (1<=z.length)&&(decide (z.length<=8)&&z.cps.toList.all fun c=>decide (c∈abc))
theorem zgm {z:Str}:nmB z=true↔1<=z.length/\z.length<=8/\∀ c∈z.cps.toList,c∈abc:=by
 unfold nmB
 rw [Bool.and_eq_true,Bool.and_eq_true,decide_eq_true_eq,decide_eq_true_eq,List.all_eq_true]
 simp only [decide_eq_true_eq]
structure Vl where
 cs:List (Int×Int)
 bs:List (Str×(Int×Int))
 fs:List Fg
 hz:Option Int
 h0:Int
 h1:Int
 dl:Int
structure FgV (F:Fg):Prop where
 b:FgB F
 o:F.f<=F.l
 f:Bd 300 F.f
 l:Bd 300 F.l
structure zkt (V:Vl):Prop where
 gr:Grd V.cs
 b1:1<=V.bs.length
 b12:V.bs.length<=12
 nm:∀ b∈V.bs,nmB b.1=true
 nd:(V.bs.map (·.1)).Nodup
 st:∀ b∈V.bs,zgd V.cs b.2
 bd:∀ b∈V.bs,Bd 180 b.2.1/\Bd 200 b.2.2
 f12:V.fs.length<=12
 fg:∀ F∈V.fs,FgV F
 hz:∀ z,V.hz=some z->0<=z
 hh:V.h0<=V.h1
 b0:Bd 250 V.h0
 bl:Bd 250 V.h1
 dl:0<=V.dl
abbrev vF (g b f h a l d:D):List (Str×D):=[("ground",g),("beacons",b),("fogs",f),("haze",h),("first",a),("last",l),("delay",d)]
def VAt (S:Sto)(v:D)(V:Vl):Prop:=∃ n g b f,v=.ref n/\S[n]?=some (.ins "Valley" (vF (.ref g) (.ref b) (.ref f) (zbM V.hz) (.int V.h0) (.int V.h1) (.int V.dl)))/\GAt S (.ref g) V.cs/\S[b]?=some (.lst (V.bs.map bcD))/\S[f]?=some (.lst (V.fs.map fgD))
theorem VAt.old {S T:Sto}{v:D}{V:Vl}(h:VAt S v V):VAt (S++T) v V:=let ⟨n,g,b,f,e,h1,h2,h3,h4⟩:=h;⟨n,g,b,f,e,zah h1,h2.old,zah h3,zah h4⟩
section
variable {S:Sto}{P:D->Prop}{n:Nat}{g b f h a l d:D}
theorem zky (k:S[n]?=some (.ins "Valley" (vF g b f h a l d)))(q:P g):∃ m c fs x,D.ref n=.ref m/\S[m]?=some (.ins c fs)/\fs.lookup ("ground":Str)=some x/\P x:=⟨n,_,_,g,rfl,k,by simp [List.lookup_cons],q⟩
theorem zi6 (k:S[n]?=some (.ins "Valley" (vF g b f h a l d)))(q:P b):∃ m c fs x,D.ref n=.ref m/\S[m]?=some (.ins c fs)/\fs.lookup ("beacons":Str)=some x/\P x:=⟨n,_,_,b,rfl,k,by rw [List.lookup_cons,show ((("beacons":Str)=="ground")=false) by decide +kernel];simp [List.lookup_cons],q⟩
theorem zmV (k:S[n]?=some (.ins "Valley" (vF g b f h a l d)))(q:P f):∃ m c fs x,D.ref n=.ref m/\S[m]?=some (.ins c fs)/\fs.lookup ("fogs":Str)=some x/\P x:=⟨n,_,_,f,rfl,k,by rw [List.lookup_cons,show ((("fogs":Str)=="ground")=false) by decide +kernel];dsimp only;rw [List.lookup_cons,show ((("fogs":Str)=="beacons")=false) by decide +kernel];simp [List.lookup_cons],q⟩
theorem zmC (k:S[n]?=some (.ins "Valley" (vF g b f h a l d)))(q:P h):∃ m c fs x,D.ref n=.ref m/\S[m]?=some (.ins c fs)/\fs.lookup ("haze":Str)=some x/\P x:=⟨n,_,_,h,rfl,k,by rw [List.lookup_cons,show ((("haze":Str)=="ground")=false) by decide +kernel];dsimp only;rw [List.lookup_cons,show ((("haze":Str)=="beacons")=false) by decide +kernel];dsimp only;rw [List.lookup_cons,show ((("haze":Str)=="fogs")=false) by decide +kernel];simp [List.lookup_cons],q⟩
theorem zlQ (k:S[n]?=some (.ins "Valley" (vF g b f h a l d)))(q:P a):∃ m c fs x,D.ref n=.ref m/\S[m]?=some (.ins c fs)/\fs.lookup ("first":Str)=some x/\P x:=⟨n,_,_,a,rfl,k,by rw [List.lookup_cons,show ((("first":Str)=="ground")=false) by decide +kernel];dsimp only;rw [List.lookup_cons,show ((("first":Str)=="beacons")=false) by decide +kernel];dsimp only;rw [List.lookup_cons,show ((("first":Str)=="fogs")=false) by decide +kernel];dsimp only;rw [List.lookup_cons,show ((("first":Str)=="haze")=false) by decide +kernel];simp [List.lookup_cons],q⟩
theorem znz (k:S[n]?=some (.ins "Valley" (vF g b f h a l d)))(q:P l):∃ m c fs x,D.ref n=.ref m/\S[m]?=some (.ins c fs)/\fs.lookup ("last":Str)=some x/\P x:=⟨n,_,_,l,rfl,k,by rw [List.lookup_cons,show ((("last":Str)=="ground")=false) by decide +kernel];dsimp only;rw [List.lookup_cons,show ((("last":Str)=="beacons")=false) by decide +kernel];dsimp only;rw [List.lookup_cons,show ((("last":Str)=="fogs")=false) by decide +kernel];dsimp only;rw [List.lookup_cons,show ((("last":Str)=="haze")=false) by decide +kernel];dsimp only;rw [List.lookup_cons,show ((("last":Str)=="first")=false) by decide +kernel];simp [List.lookup_cons],q⟩
theorem zlh (k:S[n]?=some (.ins "Valley" (vF g b f h a l d)))(q:P d):∃ m c fs x,D.ref n=.ref m/\S[m]?=some (.ins c fs)/\fs.lookup ("delay":Str)=some x/\P x:=⟨n,_,_,d,rfl,k,by rw [List.lookup_cons,show ((("delay":Str)=="ground")=false) by decide +kernel];dsimp only;rw [List.lookup_cons,show ((("delay":Str)=="beacons")=false) by decide +kernel];dsimp only;rw [List.lookup_cons,show ((("delay":Str)=="fogs")=false) by decide +kernel];dsimp only;rw [List.lookup_cons,show ((("delay":Str)=="haze")=false) by decide +kernel];dsimp only;rw [List.lookup_cons,show ((("delay":Str)=="first")=false) by decide +kernel];dsimp only;rw [List.lookup_cons,show ((("delay":Str)=="last")=false) by decide +kernel];simp [List.lookup_cons],q⟩
end
theorem zfx {bs:List (Str×(Int×Int))}{i:Nat}{d:D}(h:(bs.map bcD)[i]?=some d):∃ b,bs[i]?=some b/\d=bcD b:=by
 rw [List.getElem?_map] at h
 cases e:bs[i]? with
 | none=>rw [e] at h;cases h
 | some p=>rw [e] at h;cases h;exact⟨p,rfl,rfl⟩
theorem zoB {bs:List (Str×(Int×Int))}{k:Int}(h0:0<=k)(h:k<bs.length):∃ b,bs[k.toNat]?=some b/\atD (bs.map bcD) k=some (bcD b):=by
 have e:bs[k.toNat]?=some (bs[k.toNat]'(by omega)):=List.getElem?_eq_getElem (by omega)
 refine⟨_,e,?_⟩
 have:=zcS (ds:=bs.map bcD) (i:=k.toNat) (by rw [List.getElem?_map,e];rfl)
 rwa [show ((k.toNat:Nat):Int)=k by omega] at this
def zj6 (f:Str×(Int×Int)->D):D->D
 | .tup [.str z,.int a,.int b]=>f (z,a,b)
 | d=>d
theorem zhK (f:Str×(Int×Int)->D)(bs:List (Str×(Int×Int))):(bs.map bcD).map (zj6 f)=bs.map f:=by rw [List.map_map];rfl
theorem zeV {S A B X:Sto}(h:∃ T,A=S++T)(e:B=A++X):∃ T,B=S++T:=let ⟨T,h⟩:=h;⟨T++X,by rw [e,h,List.append_assoc]⟩
theorem zke {f:Str}{v:D}:putD f v []=[(f,v)]:=rfl
theorem z9 {f g:Str}{v x:D}{r:List (Str×D)}(h:g≠f):putD f v ((g,x)::r)=(g,x)::putD f v r:=by
 show (if g=f then _ else _)=_
 rw [if_neg h]
section
variable {g b f h a l d:D}
theorem vp2:putD "beacons" b ([("ground",g)]:List (Str×D))=([("ground",g),("beacons",b)]:List (Str×D)):=by rw [z9 (by decide +kernel)];rfl
theorem vp3:putD "fogs" f ([("ground",g),("beacons",b)]:List (Str×D))=([("ground",g),("beacons",b),("fogs",f)]:List (Str×D)):=by rw [z9 (by decide +kernel),z9 (by decide +kernel)];rfl
theorem vp4:putD "haze" h ([("ground",g),("beacons",b),("fogs",f)]:List (Str×D))=([("ground",g),("beacons",b),("fogs",f),("haze",h)]:List (Str×D)):=by rw [z9 (by decide +kernel),z9 (by decide +kernel),z9 (by decide +kernel)];rfl
theorem vp5:putD "first" a ([("ground",g),("beacons",b),("fogs",f),("haze",h)]:List (Str×D))=([("ground",g),("beacons",b),("fogs",f),("haze",h),("first",a)]:List (Str×D)):=by rw [z9 (by decide +kernel),z9 (by decide +kernel),z9 (by decide +kernel),z9 (by decide +kernel)];rfl
theorem vp6:putD "last" l ([("ground",g),("beacons",b),("fogs",f),("haze",h),("first",a)]:List (Str×D))=([("ground",g),("beacons",b),("fogs",f),("haze",h),("first",a),("last",l)]:List (Str×D)):=by rw [z9 (by decide +kernel),z9 (by decide +kernel),z9 (by decide +kernel),z9 (by decide +kernel),z9 (by decide +kernel)];rfl
theorem vp7:putD "delay" d ([("ground",g),("beacons",b),("fogs",f),("haze",h),("first",a),("last",l)]:List (Str×D))=vF g b f h a l d:=by rw [z9 (by decide +kernel),z9 (by decide +kernel),z9 (by decide +kernel),z9 (by decide +kernel),z9 (by decide +kernel),z9 (by decide +kernel)];rfl
end
theorem zej (z:Int):zbM (some z)=.int z:=rfl
theorem zgy:zbM none=.non:=rfl
mutual
theorem eqv_refl:∀ (k:Nat) (d:D),fl k d=true->eqv d d=true
  | _,.non,_=>rfl
  | _,.bl b,_=>by show (b==b)=true;simp
  | _,.int i,_=>by show decide (i=i)=true;simp
  | _,.str x,_=>by show (x==x)=true;simp
  | 0,.tup _,h=>by cases h
  | k+1,.tup xs,h=>eqvAll_refl k xs h
  | k,.ref _,h=>by cases k<;>cases h
  | k,.ty _,h=>by cases k<;>cases h
  | k,.rl _,h=>by cases k<;>cases h
  | k,.exn _,h=>by cases k<;>cases h
theorem eqvAll_refl:∀ (k:Nat) (xs:List D),xs.all (fl k)=true->eqvAll xs xs=true
  | _,[],_=>rfl
  | k,x::xs,h=>by
    rw [List.all_cons,Bool.and_eq_true] at h
    show (eqv x x&&eqvAll xs xs)=true
    rw [eqv_refl k x h.1,eqvAll_refl k xs h.2];rfl
end
theorem zox {S:Sto}{Q:DK}{x:D}(f:fl 20 x=true)(q:Q (.bl false) S):oNe x x S Q:=⟨true,.inl ⟨f,f,(eqv_refl 20 x f).symm⟩,q⟩
theorem zmZ {P:Sto->Prop}(S':Sto){S:Sto}(e:S=S')(h:∀ S3,S3=S'->P S3):P S:=h S e
def onS (p:Str->D):D->D
 | .str z=>p z
 | d=>d
theorem zlJ {zs:List Str}{i:Nat}{d:D}(h:(zs.map D.str)[i]?=some d):∃ z,zs[i]?=some z/\d=.str z:=by
 rw [List.getElem?_map] at h
 cases e:zs[i]? with
 | none=>rw [e] at h;cases h
 | some p=>rw [e] at h;cases h;exact⟨p,rfl,rfl⟩
theorem zla (f:Str->D)(zs:List Str):(zs.map D.str).map (onS f)=zs.map f:=by rw [List.map_map];rfl
open Classical in
abbrev vlD (x y z:D)(V:Vl):D:=.tup [x,y,z,zbM V.hz,.int V.h0,.int V.h1,.int V.dl]
def VlS (S:Sto)(x y z:D)(V:Vl):Prop:=Lst S x (V.cs.map p2)/\Lst S y (V.bs.map bcD)/\Lst S z (V.fs.map fgD)
def zaM (n:Int):Str:=Str.ofString (toString n)
theorem zgr:∀ d:Nat,d<10->(Nat.digitChar d).toNat=d+48:=by decide
theorem zj5 (m:Nat):(zaM ((m:Nat):Int)).cps.toList=(Nat.toDigits 10 m).map Char.toNat:=by
 unfold zaM
 rw [Str.ofString_eq_toList]
 show ((Nat.repr m).toList.map Char.toNat).toArray.toList=_
 rw [Nat.toList_repr]
theorem zkb {m:Nat}(h:0<m):(zaM (-((m:Nat):Int))).cps.toList=45::(Nat.toDigits 10 m).map Char.toNat:=by
 obtain⟨k,rfl⟩:∃ k,m=k+1:=⟨m-1,by omega⟩
 unfold zaM
 rw [Str.ofString_eq_toList,show -(((k+1:Nat)):Int)=Int.negSucc k from rfl]
 show (("-"++Nat.repr (k+1)).toList.map Char.toNat).toArray.toList=_
 rw [String.toList_append,Nat.toList_repr];rfl
theorem zdc:∀ (k m:Nat),m<10 ^ (k+1)->(Nat.toDigits 10 m).length<=k+1/\∀ c∈(Nat.toDigits 10 m).map Char.toNat,c<128
 | 0,m,h=>by
  rw [Nat.toDigits_of_lt_base (by simpa using h)]
  refine⟨by simp,fun c hc=>?_⟩
  have:c=(Nat.digitChar m).toNat:=by simpa using hc
  rw [this,zgr m (by simpa using h)]
  have:m<10:=by simpa using h
  omega
 | k+1,m,h=>by
  by_cases hm:m<10
  ·obtain⟨a,b⟩:=zdc k m (Nat.lt_of_lt_of_le hm (by rw [Nat.pow_succ];have:0<10 ^ k:=Nat.pow_pos (by decide);omega))
   exact⟨by omega,b⟩
  ·have hd:m%10<10:=Nat.mod_lt m (by decide)
   have e:Nat.toDigits 10 m=Nat.toDigits 10 (m/10)++Nat.toDigits 10 (m%10):=by
    rw [Nat.toDigits_append_toDigits (by decide) (by omega) hd,Nat.div_add_mod]
   obtain⟨a,b⟩:=zdc k (m/10) (by rw [Nat.pow_succ] at h;omega)
   rw [e,Nat.toDigits_of_lt_base hd]
   refine⟨by simp;omega,fun c hc=>?_⟩
   rw [List.map_append] at hc
   rcases List.mem_append.mp hc with hc | hc
   ·exact b c hc
   ·have:c=(Nat.digitChar (m%10)).toNat:=by simpa using hc
    rw [this,zgr _ hd];omega
def Pln (k:Nat)(z:Str):Prop:=z.length<=k/\∀ c∈z.cps.toList,c<128
theorem Pln.fl {k:Nat}{z:Str}(h:Pln k z)(j:Nat):fl j (.str z)=true:=by
  have:z.cps.all (· < 0x110000)=true:=by
    rw [Array.all_eq_true']
    intro x hx
    have:=h.2 x (Array.mem_toList_iff.mpr hx)
    simp;omega
  cases j<;>exact this
theorem Pln.app {j k:Nat}{x y:Str}(hx:Pln j x)(hy:Pln k y):Pln (j+k) (x++y):=by
 have e:(x++y).cps.toList=x.cps.toList++y.cps.toList:=by
  show (x.cps++y.cps).toList=_
  simp
 refine⟨?_,fun c hc=>?_⟩
 ·show (x.cps++y.cps).size<=_
  rw [Array.size_append]
  have h1:x.cps.size<=j:=hx.1
  have h2:y.cps.size<=k:=hy.1
  omega
 ·rw [e] at hc
  rcases List.mem_append.mp hc with hc | hc
  ·exact hx.2 c hc
  ·exact hy.2 c hc
theorem Pln.mono {j k:Nat}{z:Str}(h:Pln j z)(hk:j<=k):Pln k z:=⟨Nat.le_trans h.1 hk,h.2⟩
def onC (p:Nat->Bool):D->D
 | .str z=>.bl (p (z.cps.toList.headD 0))
 | d=>d
theorem zju {z:Str}{i:Nat}{d:D}(h:(signs z)[i]?=some d):∃ c,z.cps.toList[i]?=some c/\d=.str ⟨#[c]⟩:=by
 unfold signs at h
 rw [List.getElem?_map] at h
 cases e:z.cps.toList[i]? with
 | none=>rw [e] at h;cases h
 | some p=>rw [e] at h;cases h;exact⟨p,rfl,rfl⟩
theorem zjG (p:Nat->Bool)(z:Str):(signs z).map (onC p)=(z.cps.toList.map p).map D.bl:=by
 unfold signs
 rw [List.map_map,List.map_map];rfl
theorem zi9 (z:Str):(signs z).length=z.length:=by
 unfold signs
 rw [List.length_map];exact Array.length_toList
theorem zb6 {n:Int}(h:Bd 600 n):(zaM n).length<=205/\∀ c∈(zaM n).cps.toList,c<128:=by
 have hp:n.natAbs<10 ^ 204:=Nat.lt_of_lt_of_le h (by
  show 2 ^ 600<=10 ^ 204
  rw [show 600=3*200 from rfl,Nat.pow_mul]
  exact Nat.le_trans (Nat.pow_le_pow_left (show 2 ^ 3<=10 by decide) 200) (Nat.pow_le_pow_right (by decide) (by decide)))
 obtain⟨a,b⟩:=zdc 203 n.natAbs hp
 have zl:(zaM n).length=(zaM n).cps.toList.length:=Array.length_toList.symm
 rcases Int.lt_or_le n 0 with g | g
 ·have e:=zkb (m:=n.natAbs) (by omega)
  rw [show -((n.natAbs:Nat):Int)=n by omega] at e
  rw [zl,e]
  refine⟨by simp;omega,fun c hc=>?_⟩
  rcases List.mem_cons.mp hc with rfl | hc
  ·decide
  ·exact b c hc
 ·have e:=zj5 n.natAbs
  rw [show ((n.natAbs:Nat):Int)=n by omega] at e
  rw [zl,e]
  exact⟨by simp;omega,b⟩
theorem zf9 {B:Nat}:∀ {zs:List Str},(∀ z∈zs,z.length<=B)->(zs.map (·.length)).sum<=zs.length*B
 | [],_=>by simp
 | z::zs,h=>by
  have h1:=h z (by simp)
  have h2:=zf9 (zs:=zs) fun x hx=>h x (List.mem_cons_of_mem _ hx)
  rw [List.map_cons,List.sum_cons,List.length_cons,Nat.add_mul]
  omega
theorem len_app (x y:Str):(x++y).length=x.length+y.length:=by
 show (x.cps++y.cps).size=x.cps.size+y.cps.size
 exact Array.size_append ..
theorem ze8 (z:Str):∀ zs:List Str,(Str.join z zs).length<=(zs.map (·.length)).sum+zs.length*z.length
 | []=>Nat.zero_le _
 | [x]=>by
  show x.length<=_
  simp
 | x::y::r=>by
  have:=ze8 z (y::r)
  show (x++z++Str.join z (y::r)).length<=_
  rw [len_app,len_app,List.map_cons,List.sum_cons,List.length_cons,Nat.add_mul]
  omega
theorem zfe {j:Nat}{z:Str}(pz:∀ c∈z.cps.toList,c<128):∀ {zs:List Str},(∀ x∈zs,∀ c∈x.cps.toList,c<128)->∀ c∈(Str.join z zs).cps.toList,c<128
 | [],_,c,hc=>by simp [Str.join,Str.empty] at hc
 | [x],h,c,hc=>h x (by simp) c hc
 | x::y::r,h,c,hc=>by
  have e:(Str.join z (x::y::r)).cps.toList=x.cps.toList++z.cps.toList++(Str.join z (y::r)).cps.toList:=by
   show ((x.cps++z.cps)++(Str.join z (y::r)).cps).toList=_
   simp
  rw [e] at hc
  rcases List.mem_append.mp hc with hc | hc
  ·rcases List.mem_append.mp hc with hc | hc
   ·exact h x (by simp) c hc
   ·exact pz c hc
  ·exact zfe (j:=j) pz (fun w hw=>h w (List.mem_cons_of_mem _ hw)) c hc
def wdS:Sum Int Str->Str
 | .inl i=>zaM i
 | .inr z=>z
def zhi:Sum Int Str->Prop
 | .inl i=>Bd 600 i
 | .inr z=>Pln 500 z
theorem zmY {w:Sum Int Str}(h:zhi w):Pln 500 (wdS w):=by
 cases w with
 | inl i=>obtain⟨a,b⟩:=zb6 h;exact⟨Nat.le_trans a (by decide),b⟩
 | inr z=>exact h
def zdh (c:Int×Int):Str:=zaM c.1++":"++zaM c.2
def wGr (V:Vl):List (Sum Int Str):=.inr "ground"::V.cs.map fun c=>.inr (zdh c)
def wHo (V:Vl):List (Sum Int Str):=[.inr "hours",.inl V.h0,.inl V.h1]
def wDe (V:Vl):List (Sum Int Str):=[.inr "delay",.inl V.dl]
def wHa (V:Vl):List (List (Sum Int Str)):=match V.hz with
 | some z=>[[.inr "haze",.inl z]]
 | none=>[]
def wBe (b:Str×(Int×Int)):List (Sum Int Str):=[.inr "beacon",.inr b.1,.inl b.2.1,.inl b.2.2]
def wFo (F:Fg):List (Sum Int Str):=[.inr "fog",.inl F.x0,.inl F.x1,.inl F.z0,.inl F.z1,.inl F.f,.inl F.l,.inl F.g,.inl F.s]
def zay (V:Vl):List (List (Sum Int Str)):=[wGr V,wHo V,wDe V]++wHa V++V.bs.map wBe++V.fs.map wFo
def zZ (ws:List (Sum Int Str)):Str:=Str.join " " (ws.map wdS)
def ziQ (V:Vl):Str:=Str.join "\n" ((zay V).map zZ)
structure VlT (V:Vl):Prop where
 ok:zkt V
 hz:∀ z,V.hz=some z->Bd 600 z
 dl:Bd 600 V.dl
theorem zk7 {c:Int×Int}(h1:Bd 600 c.1)(h2:Bd 600 c.2):Pln 500 (zdh c):=by
 obtain⟨a1,b1⟩:=zb6 h1
 obtain⟨a2,b2⟩:=zb6 h2
 exact (Pln.app (Pln.app (j:=205) (k:=1) ⟨a1,b1⟩ ⟨by decide +kernel,by decide +kernel⟩) (k:=205) ⟨a2,b2⟩).mono (by decide)
theorem zeQ {V:Vl}(t:VlT V):(zay V).length<=28/\∀ ws∈zay V,ws.length<=41/\∀ w∈ws,zhi w:=by
  have ok:=t.ok
  have b12:=ok.b12
  have f12:=ok.f12
  have k:∀ z:Str,z.length<=500->(∀ c∈z.cps.toList,c<128)->zhi (.inr z):=fun z h1 h2=>⟨h1,h2⟩
  have lh:(wHa V).length<=1:=by unfold wHa;split<;>simp
  refine⟨by unfold zay;simp;omega,fun ws hws=>?_⟩
  unfold zay at hws
  rcases List.mem_append.mp hws with hws | hws
  · rcases List.mem_append.mp hws with hws | hws
    · rcases List.mem_append.mp hws with hws | hws
      · have:ws=wGr V\/ws=wHo V\/ws=wDe V:=by simpa using hws
        rcases this with rfl | rfl | rfl
        · refine⟨by unfold wGr;simp;have:=ok.gr.most;omega,fun w hw=>?_⟩
          rcases List.mem_cons.mp hw with rfl | hw
          · exact k _ (by decide +kernel) (by decide +kernel)
          · obtain⟨c,hc,rfl⟩:=List.mem_map.mp hw
            obtain⟨h1,h2⟩:=ok.gr.bd c hc
            exact zk7 (h1.mono (by decide)) (h2.mono (by decide))
        · refine⟨by unfold wHo;simp,fun w hw=>?_⟩
          have:w=.inr "hours"\/w=.inl V.h0\/w=.inl V.h1:=by simpa [wHo] using hw
          rcases this with rfl | rfl | rfl
          · exact k _ (by decide +kernel) (by decide +kernel)
          · exact ok.b0.mono (by decide)
          · exact ok.bl.mono (by decide)
        · refine⟨by unfold wDe;simp,fun w hw=>?_⟩
          have:w=.inr "delay"\/w=.inl V.dl:=by simpa [wDe] using hw
          rcases this with rfl | rfl
          · exact k _ (by decide +kernel) (by decide +kernel)
          · exact t.dl
      · unfold wHa at hws
        split at hws
        · rename_i z hz
          have e:=List.mem_singleton.mp hws
          subst e
          refine⟨by simp,fun w hw=>?_⟩
          have:w=.inr "haze"\/w=.inl z:=by simpa using hw
          rcases this with rfl | rfl
          · exact k _ (by decide +kernel) (by decide +kernel)
          · exact t.hz z hz
        · simp at hws
    · obtain⟨b,hb,rfl⟩:=List.mem_map.mp hws
      obtain⟨h1,h2⟩:=ok.bd b hb
      refine⟨by unfold wBe;simp,fun w hw=>?_⟩
      have:w=.inr "beacon"\/w=.inr b.1\/w=.inl b.2.1\/w=.inl b.2.2:=by simpa [wBe] using hw
      rcases this with rfl | rfl | rfl | rfl
      · exact k _ (by decide +kernel) (by decide +kernel)
      · have:=zgm.mp (ok.nm b hb)
        exact k _ (by omega) (fun c hc=>by have:=ziv.mp (this.2.2 c hc);omega)
      · exact h1.mono (by decide)
      · exact h2.mono (by decide)
  · obtain⟨F,hF,rfl⟩:=List.mem_map.mp hws
    obtain⟨fb,fo,ff,fl'⟩:=ok.fg F hF
    refine⟨by unfold wFo;simp,fun w hw=>?_⟩
    have:w=.inr "fog"\/w=.inl F.x0\/w=.inl F.x1\/w=.inl F.z0\/w=.inl F.z1\/w=.inl F.f\/w=.inl F.l\/w=.inl F.g\/w=.inl F.s:=by simpa [wFo] using hw
    rcases this with rfl | rfl | rfl | rfl | rfl | rfl | rfl | rfl | rfl
    · exact k _ (by decide +kernel) (by decide +kernel)
    · exact fb.b0
    · exact fb.b1
    · exact fb.b2
    · exact fb.b3
    · exact ff.mono (by decide)
    · exact fl'.mono (by decide)
    · exact fb.bg.mono (by decide)
    · exact fb.bs.mono (by decide)
theorem zfk {ws:List (Sum Int Str)}(hl:ws.length<=41)(h:∀ w∈ws,zhi w):Pln 21000 (zZ ws)/\((ws.map wdS).map (·.length)).sum+(ws.map wdS).length*(" ":Str).length<=big:=by
 have hp:∀ z∈ws.map wdS,Pln 500 z:=fun z hz=>by
  obtain⟨w,hw,rfl⟩:=List.mem_map.mp hz
  exact zmY (h w hw)
 have s1:=zf9 (zs:=ws.map wdS) (B:=500) fun z hz=>(hp z hz).1
 have e1:(" ":Str).length=1:=by decide +kernel
 rw [List.length_map] at s1
 have j:=ze8 " " (ws.map wdS)
 rw [e1,List.length_map] at j
 rw [e1,List.length_map]
 exact⟨⟨by unfold zZ;omega,zfe (j:=0) (by decide +kernel) fun x hx=>(hp x hx).2⟩,by unfold big;omega⟩
theorem zc7 {V:Vl}(t:VlT V):Pln 700000 (ziQ V)/\(((zay V).map zZ).map (·.length)).sum+((zay V).map zZ).length*("\n":Str).length<=big:=by
 obtain⟨l28,hw⟩:=zeQ t
 have hp:∀ z∈(zay V).map zZ,Pln 21000 z:=fun z hz=>by
  obtain⟨ws,hws,rfl⟩:=List.mem_map.mp hz
  exact (zfk (hw ws hws).1 (hw ws hws).2).1
 have s1:=zf9 (zs:=(zay V).map zZ) (B:=21000) fun z hz=>(hp z hz).1
 have e1:("\n":Str).length=1:=by decide +kernel
 rw [List.length_map] at s1
 have j:=ze8 "\n" ((zay V).map zZ)
 rw [e1,List.length_map] at j
 rw [e1,List.length_map]
 exact⟨⟨by unfold ziQ;omega,zfe (j:=0) (by decide +kernel) fun x hx=>(hp x hx).2⟩,by unfold big;omega⟩
section
variable {see:Nat->Nat->Int->Prop}{dl:Int}{s:Nat}{h0:Int}
inductive Lt (see:Nat->Nat->Int->Prop)(dl:Int)(s:Nat)(h0:Int):Nat->Int->Prop
 | base:Lt see dl s h0 s h0
 | step {k j:Nat} {h u:Int}:Lt see dl s h0 k h->h<=u->see k j u->Lt see dl s h0 j (u+dl)
end
end Dp
namespace My
open PySem PySem.Spec PyProof.Rows L2
section
variable {prog:Program}{w:World}{A:Around}{E:Value->Shared->Prop}{s:Shared}
end
section
open AutoSeq1 (wpAny_loadPart')
variable {prog:Program}{w:World}{A:Around}{E:Value->Shared->Prop}{s:Shared}
end
section
variable {X:Cx}
end
section
variable {prog:Program}{w:World}{A:Around}{E:Value->Shared->Prop}{s:Shared}
end
section
variable {prog:Program}{w:World}{A:Around}{E:Value->Shared->Prop}{s:Shared}
end
section
variable {X:Cx}
end
section
end
section
variable {X:Cx}
end
section
variable {prog:Program}{w:World}{A:Around}{E:Value->Shared->Prop}{s:Shared}
end
section
variable {X:Cx}
end
section
variable {X:Cx}
end
section
variable {X:Cx}
end
section
variable {prog:Program}{w:World}{A:Around}{E:Value->Shared->Prop}{s:Shared}
end
section
variable {prog:Program}{w:World}{A:Around}{E:Value->Shared->Prop}{s:Shared}
end
section
variable {prog:Program}{w:World}{A:Around}{E:Value->Shared->Prop}{s:Shared}
end
section
variable {prog:Program}{w:World}{A:Around}{s:Shared}
abbrev zdQ (prog:Program)(w:World)(h:Heap)(a:Addr)(c:List Str):Prop:=h.SetOf (PySem.strKind prog w) a (fun y=>c.any (·==y)) c.length
theorem zdQ.at {h h':Heap}{a:Addr}{c:List Str}(x:zdQ prog w h a c)(k:∀ o,h.get? a=some o->h'.get? a=some o):zdQ prog w h' a c :=
 let ⟨o,es,ep,t,ho,r⟩:=x;⟨o,es,ep,t,k o ho,r⟩
theorem loopS {R:Result->Shared->Prop}{it a:Addr}{fp wr:List Addr}{G:Array GenState->Array GenState->Prop}{n:Nat}{P:Nat->Value->Prop}{St:Nat->Shared->Prop}
  (W:WalksS prog w A.in1 it fp wr G n P St) (na:a∉fp) (f:Nat->Str) (hf:∀ i v,P i v->∃ t,v=.str (f i) t) (hb:n+1<scanBound) :
  ∀ (k i:Nat) (s:Shared),n-i=k->i<=n->St i s->zdQ prog w s.heap a (Dp.zbD f i) ->
   (∀ s',Moved (a::wr) G s s'->zdQ prog w s'.heap a (Dp.zbD f n)->R (.ok (.ret .none)) s') ->
   codeAny (model prog w) A (.builtin "set.update.loop" ⟨[.ref a,.ref it],[]⟩) R s
 | 0,i,s,hk,hi,st,hS,hR=>by
  have e:i=n:=by omega
  subst e
  refine codeAny_builtin PyProof.Rows.F.entry_set_update_loop ?_
  rw [Around.under_plainId PyProof.Rows.F.plain_set_update_loop]
  show wpAny _ A.in1 (pyNext (.ref it) >>= _) _ _ _
  refine wpAny_bind (W.done s _ _ st fun s' m=>wpAny_pure (hR s' (m.mono fun b q=>List.mem_cons_of_mem _ q) ?_))
  exact hS.at fun o q=>m.heap a o (fun z=>na (W.sub _ z)) q
 | k+1,i,s,hk,hi,st,hS,hR=>by
  refine codeAny_builtin PyProof.Rows.F.entry_set_update_loop ?_
  rw [Around.under_plainId PyProof.Rows.F.plain_set_update_loop]
  show wpAny _ A.in1 (pyNext (.ref it) >>= _) _ _ _
  refine wpAny_bind (W.item i s _ _ (by omega) st fun v s1 pv st1 m=>?_)
  obtain⟨t,rfl⟩:=hf i v pv
  have h1:zdQ prog w s1.heap a (Dp.zbD f i):=hS.at fun o q=>m.heap a o (fun z=>na (W.sub _ z)) q
  show wpAny _ A.in1 (holding [Value.str (f i) t] (setAdd a (Value.str (f i) t)) >>= _) _ _ _
  refine wpAny_bind (wpAny_holding ?_)
  unfold setAdd
  refine wpAny_holding (wpAny_bind ((PySem.strKind prog w).pyHash (k:=f i) (strKind_is _ _ _ _) ?_))
  have room:(Dp.zbD f i).length+1<scanBound:=by have:=Dp.zfS f i;omega
  refine wpAny_setAddHashed_of (knd:=PySem.strKind prog w) (s:={ s1 with toks:=s1.toks+1 }) (strKind_is _ _ _ _) rfl h1 room fun h2 sb hS2=>?_
  have h3:zdQ prog w h2 a (Dp.zbD f (i+1)):=SetOf_congr hS2 (fun y=>(Dp.zhF _ _ _).symm) (Dp.ze4 _ _).symm
  refine wpAny_pure ⟨plainId_quiet PyProof.Rows.F.plain_set_update_loop _,loopS W na f hf hb k (i+1) _ (by omega) (by omega) (W.frame _ s1 _ _ st1 (Nat.le_succ _) fun b q o e=>?_) h3 fun s' m' hS'=>?_⟩
  ·exact (sb.2 b fun z=>na (z▸q)).trans e
  ·refine hR s' (Moved.trans W.gtrans ((m.mono fun b q=>List.mem_cons_of_mem _ q).then_heap (Nat.le_succ _) fun b o q e=>?_) m') hS'
   exact (sb.2 b fun z=>q (z▸List.mem_cons_self)).trans e
end
section
variable {prog:Program}{w:World}{A:Around}{E:Value->Shared->Prop}{s:Shared}
abbrev zeN (led:Bool):Obj:={ cls:=.type "set",dict:=none,data:=.set #[] 0 (.fresh 0 0 led) }
theorem zjd {l:Addr}{its:Array Value}(f:Nat->Str){Q:Value->Shared->Prop}(hh:A.handled=none)(hl:s.heap.IsList l its)(hf:∀ (i:Nat) v,its[i]?=some v->∃ t,v=.str (f i) t)(hb:its.size+1<scanBound)
    (h:∀ (h':Heap) (tk:Nat),zdQ prog w h' s.heap.objs.size (Dp.zbD f its.size)->(∀ b o,b<s.heap.objs.size->s.heap.get? b=some o->h'.get? b=some o)->Q (.ref s.heap.objs.size) { s with heap:=h',toks:=tk }) :
    wpAny (model prog w) A (call (.type "set") [.ref l]) Q E s:=by
  have ft:=F.called_set
  obtain⟨c,tl,hmro⟩:=ft.mro
  have hmade:=ft.made
  have hsub:=ft.sub
  have h1:=ft.notType
  have h2:=ft.canCreate
  have hct:=F.typeCall_set_1 (.ref l)
  refine wpAny_call (codeAny_of_tree ?_)
  show wpAny _ _ (callAny (.type "set") _) _ _ s
  refine wpAny_pure ⟨Code.quiet_builtin _ (by decide +kernel),codeAny_builtin F.entry_type_call ?_⟩
  rw [Around.under_plain (weight_type_call_type "set" [Value.ref l] []) rfl]
  repeat (any_goals (first | assumption | wp_step))
  refine codeAny_mono (code_set_new_1 (.ref l) (E:=E) (Q₁:=fun v s1=>∃ led:Bool,v=.ref s.heap.objs.size/\s1={ s with heap:=s.heap.push (zeN led) }) fun led=>⟨led,rfl,rfl⟩) fun r s1 hr=>?_
  cases r with
  | error e=>exact hr
  | ok fl =>
    cases fl with
    | ret v =>
      obtain⟨led,rfl,rfl⟩:=hr
      have e0:(s.heap.push (zeN led)).get? s.heap.objs.size=some (zeN led):=Heap.get?_push_size _ rfl
      have hT:Shared.TypeIs { s with heap:=s.heap.push (zeN led) } (.ref s.heap.objs.size) "set":=⟨_,e0,rfl⟩
      have hli:=ft.init.lookup
      have hbi:=ft.init.bind (.ref s.heap.objs.size)
      repeat (any_goals (first | assumption | wp_step))
      refine codeAny_mono (codeAny_call_builtin (R:=wants (fun r s2=>r=.none/\∃ h' tk,s2={ s with heap:=h',toks:=tk }/\zdQ prog w h' s.heap.objs.size (Dp.zbD f its.size)/\∀ b o,b<s.heap.objs.size->s.heap.get? b=some o->h'.get? b=some o) E) ft.init.plain F.entry_set_init (check_set_init_1 hT ?_)) fun r2 s2 hr2=>?_
      · obtain⟨ol,hol,hcl,nl,hdl⟩:=hl
        obtain⟨ocl,odi,oda,osl⟩:=ol
        simp only at hcl hdl
        subst hcl hdl
        have hol2:(s.heap.push (zeN led)).get? l=some { cls:=.type "list",dict:=odi,data:=.seq its nl,slots:=osl }:=Heap.get?_push_of_some _ hol
        have k1:=F.sub_list_set
        have k2:=F.sub_list_frozenset
        have k3:(Value.type "list"==Value.type "dict")=false:=by decide
        have hl1:(s.heap.push (zeN led)).IsList l its:=⟨_,hol2,rfl,nl,rfl⟩
        unfold Builtin.«set.__init__» noKeywords Builtin.Frozenset.updateFrom
        generalize hPI:pyIter=PI
        wp_walk
        subst hPI
        refine wpAny_pyIter_list hl1 (wpAny_bind (wpAny_runValue ?_))
        have ll:l<s.heap.objs.size:=Heap.lt_size hol
        have n1:l≠(s.heap.push (zeN led)).objs.size:=by rw [Heap.size_push];exact Nat.ne_of_lt (Nat.lt_succ_of_lt ll)
        have n2:s.heap.objs.size∉[(s.heap.push (zeN led)).objs.size,l]:=by
          rw [Heap.size_push]
          intro z
          rcases List.mem_cons.mp z with z | z
          · exact Nat.ne_of_lt (Nat.lt_succ_self _) z
          · exact Nat.ne_of_gt ll (List.mem_singleton.mp z)
        refine loopS ((Walks.list (show _=none by simp [hh]) _ l n1 its).toS) n2 f hf hb (its.size-0) 0 _ (by omega) (Nat.zero_le _) ⟨⟨_,Heap.get?_push_size _ rfl,rfl,rfl⟩,hl1.push _⟩ ?_ fun s' m hS'=>?_
        · exact SetOf_congr ((setObjOf_fresh (knd:=PySem.strKind prog w) led).setOf (Heap.get?_push_of_some _ e0) (by unfold scanBound;omega)) (fun _=>rfl) rfl
        · obtain⟨h',g',d',tk',os'⟩:=s'
          cases (show g'=s.gens from m.gens)
          cases (show d'=s.drawn from m.drawn)
          cases (show os'=s.os from m.os)
          show wpAny _ _ _ _ _ _
          refine wpAny_pure (wpAny_pure ⟨rfl,h',tk',rfl,hS',fun b o q e=>?_⟩)
          refine m.heap b o (fun z=>?_) (Heap.get?_push_of_some _ (Heap.get?_push_of_some _ e))
          rcases List.mem_cons.mp z with z | z
          · exact Nat.ne_of_lt q z
          · have z':=List.mem_singleton.mp z
            rw [Heap.size_push] at z'
            exact Nat.ne_of_lt (Nat.lt_succ_of_lt q) z'
      · cases r2 with
        | error e=>exact hr2
        | ok fl2 =>
          cases fl2 with
          | ret r =>
            obtain⟨rfl,h',tk,rfl,hS',kp⟩:=hr2
            repeat (any_goals (first | assumption | wp_step))
            exact h _ _ hS' kp
          | _=>exact hr2.elim
    | _=>exact hr.elim
end
def zoq (K:PySem.W.Frag)(ta:TA):TE:=fun σ H Q=>ta σ H fun vs H1=>∃ l,∃ zs:List Str,vs=[.ref l]/\SqL K H1 l (zs.map V.str)/\zs.length<=4000/\Q (.int (Dp.zbD (fun i=>zs.getD i Str.empty) zs.length).length) H1
theorem zhr:∀ {zs:List Str} {us:List Value},Vals (zs.map V.str) us->∀ (i:Nat) v,us[i]?=some v->∃ t,v=.str (zs.getD i Str.empty) t
 | [],_,.nil,i,v,e=>by simp at e
 | z::zs,_,.cons r t,0,v,e=>by
  obtain⟨t,rfl⟩:=r
  simp at e
  exact⟨t,e.symm⟩
 | z::zs,_,.cons r t,i+1,v,e=>by
  obtain⟨t,h⟩:=zhr t i v (by simpa using e)
  exact⟨t,by rw [h];simp⟩
theorem zlo {X:Cx}{a:Expr}{ta:TA}{p1 p2 pos1 pos2:Pos}(hc:X.calm=true)(hgl:Gl X "len")(hml:X.mg "len"=none)(hgr:Gl X "set")(hmr:X.mg "set"=none)(ha:PA X [a] ta)
  (hs:starEach [a] X.env=[(false,eval a X.env)]:=by rfl)
  (hs3:starEach [.Call (.Name "set" p2) [a] [] pos2] X.env=[(false,eval (.Call (.Name "set" p2) [a] [] pos2) X.env)]:=by rfl) :
  PE X (.Call (.Name "len" p1) [.Call (.Name "set" p2) [a] [] pos2] [] pos1) (zoq X.K ta):=by
 intro pins s σ H Q I h
 refine Call_ (zda I hgl hml boot_len (PyProof.Rows.callWith_builtin1 ?_ (by rw [hs3];rfl) (by rfl)))
 rw [hs3]
 show wpAny _ _ (spliced ((false,eval (.Call (.Name "set" p2) [a] [] pos2) X.env)::backTo pos1 [])) _ _ s
 refine Calls.spliced_cons (Call_ (zda I hgr hmr boot_set (PyProof.Rows.callWith_type1 (thn (ha pos2 pins s σ H _ I h) fun us s1 ⟨vs,H1,I1,r1,q1⟩=>?_) hs rfl)))
 obtain⟨l,zs,e,hx,h4,q⟩:=q1
 subst e
 obtain⟨u,rfl,ru⟩:=vals1 r1
 cases ru
 obtain⟨its,rx,px,zx⟩:=I1.list hx
 have sz:its.toArray.size=zs.length:=by rw [List.size_toArray,<- rx.length,List.length_map]
 refine zjd (fun i=>zs.getD i Str.empty) (show _=none from I1.ok.hd hc) px.isList (fun i v e=>zhr rx i v (by simpa using e)) (by rw [sz];unfold scanBound;omega) fun h' tk hS kp=>Calls.spliced_nil ?_
 rw [sz] at hS
 have le:=Dp.zfS (fun i=>zs.getD i Str.empty) zs.length
 obtain⟨o,es,ep,t,ho,hex,hd,_,_,_,hf,hn⟩:=hS
 refine call_len_set ho hex hd hf (by omega) ?_
 rw [hn]
 exact⟨.int _,H1,I1.kept (t':=tk+1+1) (fun b o q=>kp b o (Heap.lt_size q) q),⟨_,rfl⟩,q⟩
end My
namespace Dp
open PySem PySem.Spec PyProof.Rows L2 My
def isStar:Expr->Bool
 | .Starred _ _=>true
 | _=>false
theorem zaS {e:Expr}{es:List Expr}{env:Env}(h:isStar e=false):starEach (e::es) env=(false,eval e env)::starEach es env:=by
  cases e<;>first | rfl | cases h
theorem zb4 {pos:Pos}{env:Env}:∀ {es:List Expr},es.all (fun e=>!isStar e)=true->(backTo pos (starEach es env)).any (·.1)=false
 | [],_=>rfl
 | e::es,h=>by
  rw [List.all_cons,Bool.and_eq_true] at h
  rw [zaS (by simpa using h.1)]
  show (false||(backTo pos (starEach es env)).any (·.1))=false
  rw [zb4 h.2];rfl
theorem zdf {e:Expr}{env:Env}(h:isStar e=false):starEach [e] env=[(false,eval e env)]:=zaS h
theorem zkc {e g:Expr}{env:Env}(h:isStar e=false)(k:isStar g=false):starEach [e,g] env=[(false,eval e env),(false,eval g env)]:=by rw [zaS h,zdf k]
def ze7 (K:PySem.W.Frag)(H:Hp)(a:Addr)(xs:List V):Prop :=
 (∃ o,H a=some (.frz o (.lst xs)))\/∃ (o:Obj) (its:Array Value) (n:Nat),K.lookup a=some o/\o.cls=.type "list"/\o.dict=none/\o.data=.seq its n/\its.size<=sizeLine/\Vals xs its.toList
theorem ze7.sq {K:PySem.W.Frag}{H:Hp}{a:Addr}{xs:List V}(h:ze7 K H a xs):SqL K H a xs:=h.imp (fun h=>.inr h) id
mutual
inductive Rel (K:PySem.W.Frag)(ad:List Addr)(H:Hp):D->V->Prop
 | non:Rel K ad H .non .non
 | bl (b:Bool):Rel K ad H (.bl b) (.bl b)
 | int (i:Int):Rel K ad H (.int i) (.int i)
 | str (x:Str):Rel K ad H (.str x) (.str x)
 | ty (n:String):Rel K ad H (.ty n) (.ty n)
 | tup {a:Addr} {vs:List V} {ds:List D}:H a=some (.tup vs)->zB K ad H ds vs->Rel K ad H (.tup ds) (.ref a)
 | rl {a:Addr} {vs:List V} {ds:List D}:ze7 K H a vs->zB K ad H ds vs->Rel K ad H (.rl ds) (.ref a)
 | ref {n:Nat} {a:Addr}:ad[n]?=some a->Rel K ad H (.ref n) (.ref a)
 | exn {c:Str} {a C:Addr} {o:Obj} {u:HO}:H a=some (.frz o u)->o.cls=.ref C->PySem.W.nsIn K mainGlobals c=some (some (.ref C))->Rel K ad H (.exn c) (.ref a)
inductive zB (K:PySem.W.Frag)(ad:List Addr)(H:Hp):List D->List V->Prop
 | nil:zB K ad H [] []
 | cons {d:D} {v:V} {ds:List D} {vs:List V}:Rel K ad H d v->zB K ad H ds vs->zB K ad H (d::ds) (v::vs)
end
structure Wd (ad:List Addr)(H:Hp)(ad':List Addr)(H':Hp):Prop where
 pre:ad <+: ad'
 keep:∀ b o,b∉ad->H b=some o->H' b=some o
 tup:∀ b xs,H b=some (.tup xs)->H' b=some (.tup xs)
 frz:∀ b o u,H b=some (.frz o u)->H' b=some (.frz o u)
 new:∀ b,b∈ad'->b∉ad->H b=none
theorem Wd.refl {ad:List Addr}{H:Hp}:Wd ad H ad H:=⟨List.prefix_refl _,fun _ _ _ h=>h,fun _ _ h=>h,fun _ _ _ h=>h,fun _ h n=>absurd h n⟩
theorem Wd.trans {ad ad1 ad2:List Addr}{H H1 H2:Hp}(a:Wd ad H ad1 H1)(b:Wd ad1 H1 ad2 H2):Wd ad H ad2 H2 where
 pre:=a.pre.trans b.pre
 keep:=fun c o hc h=>b.keep c o (fun h1=>by rw [a.new c h1 hc] at h;cases h) (a.keep c o hc h)
 tup:=fun c xs h=>b.tup c xs (a.tup c xs h)
 frz:=fun c o u h=>b.frz c o u (a.frz c o u h)
 new:=fun c h2 hc=>by
  by_cases h1:c∈ad1
  ·exact a.new c h1 hc
  ·have n1:=b.new c h2 h1
   cases e:H c with
   | none=>rfl
   | some o=>rw [a.keep c o hc e] at n1;cases n1
theorem zgl {α:Type}{l l':List α}(h:l <+: l'){n:Nat}{a:α}(e:l[n]?=some a):l'[n]?=some a:=by
 obtain⟨t,rfl⟩:=h
 rw [List.getElem?_append_left (My.zaG e)];exact e
structure Wr (ad:List Addr)(H:Hp)(ad':List Addr)(H':Hp):Prop where
 pre:ad <+: ad'
 tup:∀ b xs,H b=some (.tup xs)->H' b=some (.tup xs)
 frz:∀ b o u,H b=some (.frz o u)->H' b=some (.frz o u)
theorem Wd.wr {ad ad':List Addr}{H H':Hp}(w:Wd ad H ad' H'):Wr ad H ad' H':=⟨w.pre,w.tup,w.frz⟩
theorem ze7.wr {K:PySem.W.Frag}{ad ad':List Addr}{H H':Hp}{a:Addr}{xs:List V}(w:Wr ad H ad' H')(h:ze7 K H a xs):ze7 K H' a xs:=h.imp (fun⟨o,e⟩=>⟨o,w.frz _ _ _ e⟩) id
mutual
theorem Rel.wr {K:PySem.W.Frag}{ad ad':List Addr}{H H':Hp}(w:Wr ad H ad' H'):∀ {d:D} {v:V},Rel K ad H d v->Rel K ad' H' d v
 | _,_,.non=>.non
 | _,_,.bl b=>.bl b
 | _,_,.int i=>.int i
 | _,_,.str x=>.str x
 | _,_,.ty n=>.ty n
 | _,_,.tup h r=>.tup (w.tup _ _ h) (zB.wr w r)
 | _,_,.rl h r=>.rl (h.wr w) (zB.wr w r)
 | _,_,.ref h=>.ref (zgl w.pre h)
 | _,_,.exn h e n=>.exn (w.frz _ _ _ h) e n
theorem zB.wr {K:PySem.W.Frag}{ad ad':List Addr}{H H':Hp}(w:Wr ad H ad' H'):∀ {ds:List D} {vs:List V},zB K ad H ds vs->zB K ad' H' ds vs
 | _,_,.nil=>.nil
 | _,_,.cons r t=>.cons (Rel.wr w r) (zB.wr w t)
end
theorem Rel.wd {K:PySem.W.Frag}{ad ad':List Addr}{H H':Hp}{d:D}{v:V}(r:Rel K ad H d v)(w:Wd ad H ad' H'):Rel K ad' H' d v:=Rel.wr w.wr r
theorem zB.wd {K:PySem.W.Frag}{ad ad':List Addr}{H H':Hp}{ds:List D}{vs:List V}(r:zB K ad H ds vs)(w:Wd ad H ad' H'):zB K ad' H' ds vs:=zB.wr w.wr r
section
variable {K:PySem.W.Frag}{ad:List Addr}{H:Hp}
theorem zB.length:∀ {ds:List D} {vs:List V},zB K ad H ds vs->ds.length=vs.length
  | _,_,.nil=>rfl
  | _,_,.cons _ t=>congrArg (· + 1) (zB.length t)
theorem zB.get:∀ {ds:List D} {vs:List V} {i:Nat} {d:D},zB K ad H ds vs->ds[i]?=some d->∃ v,vs[i]?=some v/\Rel K ad H d v
 | _,_,_,_,.nil,e=>by simp at e
 | _,_,0,_,.cons r _,e=>by simp at e;subst e;exact⟨_,rfl,r⟩
 | _,_,i+1,d,.cons _ t,e=>by
  obtain⟨v,h1,h2⟩:=zB.get (i:=i) (d:=d) t (by simpa using e)
  exact⟨v,by simpa using h1,h2⟩
theorem zB.append:∀ {ds es:List D} {vs us:List V},zB K ad H ds vs->zB K ad H es us->zB K ad H (ds++es) (vs++us)
 | _,_,_,_,.nil,s=>s
 | _,_,_,_,.cons r t,s=>.cons r (zB.append t s)
theorem zB.set {d:D}{v:V}(r:Rel K ad H d v):∀ {ds:List D} {vs:List V} (i:Nat),zB K ad H ds vs->zB K ad H (ds.set i d) (vs.set i v)
 | _,_,_,.nil=>.nil
 | _,_,0,.cons _ t=>.cons r t
 | _,_,i+1,.cons q t=>.cons q (zB.set r i t)
theorem zB.bls:∀ {ns:List Bool} {vs:List V},zB K ad H (ns.map D.bl) vs->vs=ns.map V.bl
 | [],_,.nil=>rfl
 | n::ns,_,.cons r t=>by cases r;rw [zB.bls t];rfl
theorem zB.mk_ints:∀ (ns:List Int),zB K ad H (ns.map D.int) (ns.map V.int)
 | []=>.nil
 | n::ns=>.cons (.int n) (zB.mk_ints ns)
end
inductive zam (K:PySem.W.Frag)(ad:List Addr)(H:Hp):List (Str×D)->List (Str×V)->Prop
 | nil:zam K ad H [] []
 | cons {f:Str} {d:D} {v:V} {fs:List (Str×D)} {vs:List (Str×V)}:Rel K ad H d v->zam K ad H fs vs->zam K ad H ((f,d)::fs) ((f,v)::vs)
theorem zam.wr {K:PySem.W.Frag}{ad ad':List Addr}{H H':Hp}(w:Wr ad H ad' H'):∀ {fs:List (Str×D)} {vs:List (Str×V)},zam K ad H fs vs->zam K ad' H' fs vs
 | _,_,.nil=>.nil
 | _,_,.cons r t=>.cons (Rel.wr w r) (zam.wr w t)
theorem zam.look {K:PySem.W.Frag}{ad:List Addr}{H:Hp}{f:Str}:∀ {fs:List (Str×D)} {vs:List (Str×V)} {d:D},zam K ad H fs vs->fs.lookup f=some d->∃ v,vs.lookup f=some v/\Rel K ad H d v
 | _,_,d,.nil,e=>by simp at e
 | _,_,d,@zam.cons _ _ _ g x v fs vs r t,e=>by
  rw [List.lookup_cons] at e ⊢
  cases h:f==g with
  | true=>rw [h] at e;cases e;exact⟨v,rfl,r⟩
  | false=>rw [h] at e;exact zam.look t e
theorem zam.put {K:PySem.W.Frag}{ad:List Addr}{H:Hp}{f:Str}{d:D}{v:V}(rd:Rel K ad H d v):∀ {fs:List (Str×D)} {vs:List (Str×V)},zam K ad H fs vs->zam K ad H (putD f d fs) (zbi f v vs)
 | _,_,.nil=>.cons rd .nil
 | _,_,@zam.cons _ _ _ g x u fs vs r t=>by
  show zam K ad H (if g=f then (g,d)::fs else (g,x)::putD f d fs) (if g=f then (g,v)::vs else (g,u)::zbi f v vs)
  by_cases h:g=f
  ·rw [if_pos h,if_pos h];exact .cons rd t
  ·rw [if_neg h,if_neg h];exact .cons r (zam.put rd t)
theorem zam.length {K:PySem.W.Frag}{ad:List Addr}{H:Hp}:∀ {fs:List (Str×D)} {vs:List (Str×V)},zam K ad H fs vs->fs.length=vs.length
  | _,_,.nil=>rfl
  | _,_,.cons _ t=>congrArg (· + 1) (zam.length t)
theorem zhk {f:Str}{d:D}{q:Str×D}:∀ {fs:List (Str×D)},q∈putD f d fs->q.1=f\/q∈fs
 | [],h=>by
  have:q=(f,d):=by simpa [putD] using h
  subst this;exact .inl rfl
 | (g,x)::fs,h=>by
  have h:q∈if g=f then (g,d)::fs else (g,x)::putD f d fs:=h
  by_cases e:g=f
  ·rw [if_pos e] at h
   rcases List.mem_cons.mp h with rfl | h
   ·exact .inl e
   ·exact .inr (List.mem_cons_of_mem _ h)
  ·rw [if_neg e] at h
   rcases List.mem_cons.mp h with rfl | h
   ·exact .inr (by simp)
   ·exact (zhk h).imp id (List.mem_cons_of_mem _)
theorem zhJ {f:Str}{d:D}:∀ {fs:List (Str×D)},fs.lookup f=some d->∃ q∈fs,q.1=f
 | [],e=>by simp at e
 | (g,x)::fs,e=>by
  rw [List.lookup_cons] at e
  cases h:f==g with
  | true=>exact⟨(g,x),by simp,(eq_of_beq h).symm⟩
  | false =>
   rw [h] at e
   obtain⟨q,hq,e'⟩:=zhJ e
   exact⟨q,List.mem_cons_of_mem _ hq,e'⟩
inductive RelK (K:PySem.W.Frag)(ad:List Addr)(H:Hp):List (Str×D)->List (Key×V)->Prop
 | nil:RelK K ad H [] []
 | cons {x:Str} {d:D} {v:V} {fs:List (Str×D)} {vs:List (Key×V)}:Rel K ad H d v->RelK K ad H fs vs->RelK K ad H ((x,d)::fs) ((.inr x,v)::vs)
inductive zb5 (K:PySem.W.Frag)(ad:List Addr)(H:Hp):List (List Key×D)->List (List Key×V)->Prop
 | nil:zb5 K ad H [] []
 | cons {x:List Key} {d:D} {v:V} {fs:List (List Key×D)} {vs:List (List Key×V)}:Rel K ad H d v->zb5 K ad H fs vs->zb5 K ad H ((x,d)::fs) ((x,v)::vs)
theorem RelK.wr {K:PySem.W.Frag}{ad ad':List Addr}{H H':Hp}(w:Wr ad H ad' H'):∀ {fs:List (Str×D)} {vs:List (Key×V)},RelK K ad H fs vs->RelK K ad' H' fs vs
 | _,_,.nil=>.nil
 | _,_,.cons r t=>.cons (Rel.wr w r) (RelK.wr w t)
theorem zb5.wr {K:PySem.W.Frag}{ad ad':List Addr}{H H':Hp}(w:Wr ad H ad' H'):∀ {fs:List (List Key×D)} {vs:List (List Key×V)},zb5 K ad H fs vs->zb5 K ad' H' fs vs
 | _,_,.nil=>.nil
 | _,_,.cons r t=>.cons (Rel.wr w r) (zb5.wr w t)
def zbU (K:PySem.W.Frag)(ad:List Addr)(H:Hp)(a:Addr):Cell->Prop
 | .lst ds=>∃ vs,H a=some (.lst vs)/\zB K ad H ds vs
 | .ins c fs=>∃ C dx vs,H a=some (.ins C dx vs)/\Cls K C/\PySem.W.nsIn K mainGlobals c=some (some (.ref C))/\zam K ad H fs vs/\∀ q∈fs,z8 K C q.1
 | .dk kvs=>∃ vs,H a=some (.dK vs)/\RelK K ad H kvs vs
 | .dt kvs=>∃ vs,H a=some (.dT vs)/\zb5 K ad H kvs vs
class Bs where
 ad:List Addr
 H:Hp
structure zG [B:Bs](K:PySem.W.Frag)(ad:List Addr)(H:Hp)(S:Sto):Prop where
 wd:Wd B.ad B.H ad H
 len:ad.length=S.length
 nd:ad.Nodup
 cell:∀ (n:Nat) (a:Addr) (c:Cell),ad[n]?=some a->S[n]?=some c->zbU K ad H a c
structure zag (K:PySem.W.Frag)(ad:List Addr)(H:Hp)(ρ:Rho)(σ:L2.St):Prop where
 len:ρ.length=σ.length
 val:∀ (i:Nat) (d:D),ρ[i]?=some (some d)->∃ v,σ[i]?=some (some v)/\Rel K ad H d v
theorem zag.wd {K:PySem.W.Frag}{ad ad':List Addr}{H H':Hp}{ρ:Rho}{σ:L2.St}(h:zag K ad H ρ σ)(w:Wd ad H ad' H'):zag K ad' H' ρ σ :=
 ⟨h.len,fun i d e=>let ⟨v,e',r⟩:=h.val i d e;⟨v,e',r.wd w⟩⟩
variable [B:Bs]
section
variable {K:PySem.W.Frag}{ad:List Addr}{H:Hp}{S:Sto}
theorem zG.get (st:zG K ad H S){n:Nat}{c:Cell}(h:S[n]?=some c):∃ a,ad[n]?=some a/\zbU K ad H a c:=by
 have hn:n<ad.length:=by rw [st.len];exact My.zaG h
 exact⟨ad[n],List.getElem?_eq_getElem hn,st.cell n _ c (List.getElem?_eq_getElem hn) h⟩
theorem zbU.some {a:Addr}{c:Cell}(h:zbU K ad H a c):∃ o,H a=some o:=by
 cases c with
 | lst ds=>obtain⟨vs,e,_⟩:=h;exact⟨_,e⟩
 | ins c fs=>obtain⟨C,dx,vs,e,_⟩:=h;exact⟨_,e⟩
 | dk kvs=>obtain⟨vs,e,_⟩:=h;exact⟨_,e⟩
 | dt kvs=>obtain⟨vs,e,_⟩:=h;exact⟨_,e⟩
theorem zG.there (st:zG K ad H S){a:Addr}(h:a∈ad):∃ o,H a=some o:=by
 obtain⟨n,hn,e⟩:=List.mem_iff_getElem.mp h
 have e':ad[n]?=some a:=by rw [List.getElem?_eq_getElem hn,e]
 have hs:n<S.length:=by rw [<- st.len];exact hn
 exact (st.cell n a S[n] e' (List.getElem?_eq_getElem hs)).some
theorem zG.fresh (st:zG K ad H S){l:Addr}(h:H l=none):l∉ad:=fun m=>by
 obtain⟨o,e⟩:=st.there m
 rw [h] at e;cases e
theorem zbU.wr {ad':List Addr}{H':Hp}{a:Addr}{c:Cell}(h:zbU K ad H a c)(w:Wr ad H ad' H')(same:H' a=H a):zbU K ad' H' a c:=by
 cases c with
 | lst ds=>obtain⟨vs,e,r⟩:=h;exact⟨vs,same.trans e,zB.wr w r⟩
 | ins c fs=>obtain⟨C,dx,vs,e,c1,c2,r,n⟩:=h;exact⟨C,dx,vs,same.trans e,c1,c2,zam.wr w r,n⟩
 | dk kvs=>obtain⟨vs,e,r⟩:=h;exact⟨vs,same.trans e,RelK.wr w r⟩
 | dt kvs=>obtain⟨vs,e,r⟩:=h;exact⟨vs,same.trans e,zb5.wr w r⟩
theorem zbU.wd {ad':List Addr}{H':Hp}{a:Addr}{c:Cell}(h:zbU K ad H a c)(w:Wd ad H ad' H')(same:H' a=H a):zbU K ad' H' a c:=h.wr w.wr same
theorem Wd.laid {l:Addr}{o:HO}(h:H l=none):Wd ad H ad (upd H l o) :=
 ⟨List.prefix_refl _,fun b u _ e=>zcZ h e,fun b u e=>zcZ h e,fun b u w e=>zcZ h e,fun _ m n=>absurd m n⟩
theorem zG.bfree (st:zG K ad H S){p:Addr}(h:H p=none):B.H p=none:=by
 cases e:B.H p with
 | none=>rfl
 | some o =>
  by_cases m:p∈B.ad
  ·obtain⟨u,hu⟩:=st.there (st.wd.pre.subset m)
   rw [h] at hu;cases hu
  ·rw [st.wd.keep p o m e] at h;cases h
theorem zG.laid (st:zG K ad H S){l:Addr}{o:HO}(h:H l=none):zG K ad (upd H l o) S :=
 ⟨st.wd.trans (Wd.laid h),st.len,st.nd,fun n a c e1 e2=>(st.cell n a c e1 e2).wd (Wd.laid h) (by
  obtain⟨u,e⟩:=(st.cell n a c e1 e2).some
  rw [zcZ h e,e])⟩
theorem Wd.newL (st:zG K ad H S){l:Addr}{o:HO}(h:H l=none):Wd ad H (ad++[l]) (upd H l o) :=
 ⟨List.prefix_append _ _,fun b u _ e=>zcZ h e,fun b u e=>zcZ h e,fun b u w e=>zcZ h e,fun b m n=>by
  rcases List.mem_append.mp m with m | m
  ·exact absurd m n
  ·have:b=l:=by simpa using m
   subst this;exact h⟩
theorem zG.newL (st:zG K ad H S){l:Addr}{vs:List V}{ds:List D}(h:H l=none)(r:zB K ad H ds vs):zG K (ad++[l]) (upd H l (.lst vs)) (S++[.lst ds]) where
 wd:=st.wd.trans (Wd.newL st h)
 len:=by rw [List.length_append,List.length_append,st.len];rfl
 nd:=by
  rw [List.nodup_append]
  refine⟨st.nd,by simp,fun a ha b hb e=>?_⟩
  have:b=l:=by simpa using hb
  subst this;subst e
  exact st.fresh h ha
 cell:=fun n a c e1 e2=>by
  by_cases hn:n<ad.length
  ·rw [List.getElem?_append_left hn] at e1
   rw [List.getElem?_append_left (by rw [<- st.len];exact hn)] at e2
   have ok:=st.cell n a c e1 e2
   obtain⟨u,e⟩:=ok.some
   exact ok.wd (Wd.newL st h) (by rw [zcZ h e,e])
  ·have hn':ad.length<=n:=Nat.le_of_not_lt hn
   rw [List.getElem?_append_right hn'] at e1
   rw [List.getElem?_append_right (by rw [<- st.len];exact hn'),<- st.len] at e2
   cases hk:n-ad.length with
   | zero =>
    rw [hk] at e1 e2
    have e1':l=a:=by simpa using e1
    have e2':Cell.lst ds=c:=by simpa using e2
    subst e1' e2'
    exact⟨vs,zbk,r.wd (Wd.newL st h)⟩
   | succ k=>rw [hk] at e1;simp at e1
theorem zG.newRef (st:zG K ad H S){l:Addr}{o:HO}:Rel K (ad++[l]) (upd H l o) (.ref S.length) (.ref l):=.ref (by rw [<- st.len,List.getElem?_append_right (Nat.le_refl _),Nat.sub_self];rfl)
theorem Wd.put {n:Nat}{a:Addr}{vs ws:List V}(e:ad[n]?=some a)(h:H a=some (.lst vs)):Wd ad H ad (upd H a (.lst ws)) :=
 ⟨List.prefix_refl _,fun b u hb q=>by
   have:b≠a:=fun z=>hb (by rw [z];exact List.mem_of_getElem? e)
   rw [zQ this];exact q,
  fun b xs q=>by rw [zQ (zeR q h (by intro z;cases z))];exact q,fun b o u q=>by rw [zQ (zeR q h (by intro z;cases z))];exact q,fun _ m n=>absurd m n⟩
theorem zG.put (st:zG K ad H S){n:Nat}{a:Addr}{vs ws:List V}{ds:List D}(e:ad[n]?=some a)(h:H a=some (.lst vs))(r:zB K ad H ds ws):zG K ad (upd H a (.lst ws)) (S.set n (.lst ds)) where
 wd:=st.wd.trans (Wd.put e h)
 len:=by rw [List.length_set];exact st.len
 nd:=st.nd
 cell:=fun m b c e1 e2=>by
  have w:=Wd.put (ws:=ws) e h
  by_cases hm:m=n
  ·subst hm
   rw [e] at e1;cases e1
   rw [List.getElem?_set_self (by rw [<- st.len];exact My.zaG e)] at e2
   cases e2
   exact⟨ws,zbk,r.wd w⟩
  ·rw [List.getElem?_set_ne (Ne.symm hm)] at e2
   have ne:b≠a:=fun z=>by
    subst z
    have h1:=My.zaG e1
    have h2:=My.zaG e
    have q1:=(List.getElem?_eq_some_iff.mp e1).2
    have q2:=(List.getElem?_eq_some_iff.mp e).2
    exact hm ((List.getElem_inj st.nd).mp (q1.trans q2.symm))
   exact (st.cell m b c e1 e2).wd w (zQ ne)
theorem zG.newI (st:zG K ad H S){x dx C:Addr}{c:Str}(h:H x=none)(h2:H dx=none)(hne:dx≠x)(hc:Cls K C)(hn:PySem.W.nsIn K mainGlobals c=some (some (.ref C))) :
  Wd ad H (ad++[x]) (upd (upd H dx (.own x)) x (.ins C dx []))/\zG K (ad++[x]) (upd (upd H dx (.own x)) x (.ins C dx [])) (S++[.ins c []]):=by
 have st1:=st.laid (o:=.own x) h2
 have hx:upd H dx (.own x) x=none:=by rw [zQ (Ne.symm hne)];exact h
 have w1:Wd ad H ad (upd H dx (.own x)):=Wd.laid h2
 have w2:Wd ad (upd H dx (.own x)) (ad++[x]) (upd (upd H dx (.own x)) x (.ins C dx [])):=Wd.newL st1 hx
 refine⟨w1.trans w2,st.wd.trans (w1.trans w2),?_,?_,fun n a c' e1 e2=>?_⟩
 ·rw [List.length_append,List.length_append,st.len];rfl
 ·rw [List.nodup_append]
  refine⟨st.nd,by simp,fun a ha b hb e=>?_⟩
  have:b=x:=by simpa using hb
  subst this;subst e
  exact st.fresh h ha
 ·by_cases hn':n<ad.length
  ·rw [List.getElem?_append_left hn'] at e1
   rw [List.getElem?_append_left (by rw [<- st.len];exact hn')] at e2
   have ok:=st1.cell n a c' e1 e2
   obtain⟨u,e⟩:=ok.some
   exact ok.wd w2 (by rw [zcZ hx e,e])
  ·have hn':ad.length<=n:=Nat.le_of_not_lt hn'
   rw [List.getElem?_append_right hn'] at e1
   rw [List.getElem?_append_right (by rw [<- st.len];exact hn'),<- st.len] at e2
   cases hk:n-ad.length with
   | zero =>
    rw [hk] at e1 e2
    have e1':x=a:=by simpa using e1
    have e2':Cell.ins c []=c':=by simpa using e2
    subst e1' e2'
    exact⟨C,dx,[],zbk,hc,hn,.nil,fun q hq=>by cases hq⟩
   | succ k=>rw [hk] at e1;simp at e1
theorem Wd.putI {n:Nat}{a C dx C' dx':Addr}{vs ws:List (Str×V)}(e:ad[n]?=some a)(h:H a=some (.ins C dx vs)):Wd ad H ad (upd H a (.ins C' dx' ws)) :=
 ⟨List.prefix_refl _,fun b u hb q=>by
   have:b≠a:=fun z=>hb (by rw [z];exact List.mem_of_getElem? e)
   rw [zQ this];exact q,
  fun b xs q=>by rw [zQ (zeR q h (by intro z;cases z))];exact q,fun b o u q=>by rw [zQ (zeR q h (by intro z;cases z))];exact q,fun _ m n=>absurd m n⟩
theorem zG.putI (st:zG K ad H S){n:Nat}{a C dx:Addr}{c f:Str}{vs:List (Str×V)}{fs:List (Str×D)}{d:D}{v:V}(e:ad[n]?=some a)(h:H a=some (.ins C dx vs))(hc:Cls K C)(hn:PySem.W.nsIn K mainGlobals c=some (some (.ref C)))(rf:zam K ad H fs vs)(hna:∀ q∈fs,z8 K C q.1)(hf:z8 K C f)(r:Rel K ad H d v) :
  zG K ad (upd H a (.ins C dx (zbi f v vs))) (S.set n (.ins c (putD f d fs))) where
 wd:=st.wd.trans (Wd.putI e h)
 len:=by rw [List.length_set];exact st.len
 nd:=st.nd
 cell:=fun m b c' e1 e2=>by
  have w:Wd ad H ad (upd H a (.ins C dx (zbi f v vs))):=Wd.putI e h
  by_cases hm:m=n
  ·subst hm
   rw [e] at e1;cases e1
   rw [List.getElem?_set_self (by rw [<- st.len];exact My.zaG e)] at e2
   cases e2
   refine⟨C,dx,_,zbk,hc,hn,zam.wr w.wr (zam.put r rf),fun q hq=>?_⟩
   rcases zhk hq with h1 | h1
   ·rw [h1];exact hf
   ·exact hna q h1
  ·rw [List.getElem?_set_ne (Ne.symm hm)] at e2
   have ne:b≠a:=fun z=>by
    subst z
    have q1:=(List.getElem?_eq_some_iff.mp e1).2
    have q2:=(List.getElem?_eq_some_iff.mp e).2
    exact hm ((List.getElem_inj st.nd).mp (q1.trans q2.symm))
   exact (st.cell m b c' e1 e2).wd w (zQ ne)
theorem Wd.hid {ad':List Addr}{H':Hp}{p:Addr}{o:HO}(w:Wd ad H ad' H')(hp:H p=none):Wd ad H ad' (upd H' p o) :=
 ⟨w.pre,fun b u hb q=>by rw [zQ (zaN q hp)];exact w.keep b u hb q,fun b u q=>by rw [zQ (zaN q hp)];exact w.tup b u q,fun b u v q=>by rw [zQ (zaN q hp)];exact w.frz b u v q,w.new⟩
theorem Wr.hid {p:Addr}{vs ws:List V}(h:H p=some (.lst vs)):Wr ad H ad (upd H p (.lst ws)) :=
 ⟨List.prefix_refl _,fun b xs q=>by rw [zQ (zeR q h (by intro z;cases z))];exact q,fun b o u q=>by rw [zQ (zeR q h (by intro z;cases z))];exact q⟩
theorem zG.hid (st:zG K ad H S){p:Addr}{vs ws:List V}(h:H p=some (.lst vs))(hp:p∉ad)(hb:B.H p=none):zG K ad (upd H p (.lst ws)) S :=
 ⟨st.wd.hid hb,st.len,st.nd,fun n a c e1 e2=>(st.cell n a c e1 e2).wr (Wr.hid h) (zQ fun z=>hp (by rw [<- z];exact List.mem_of_getElem? e1))⟩
theorem Wd.add {ad':List Addr}{H':Hp}{p:Addr}(w:Wd ad H ad' H')(hp:H p=none):Wd ad H (ad'++[p]) H' :=
 ⟨w.pre.trans (List.prefix_append _ _),w.keep,w.tup,w.frz,fun b m n=>by
  rcases List.mem_append.mp m with m | m
  ·exact w.new b m n
  ·have:b=p:=by simpa using m
   subst this;exact hp⟩
theorem zG.add (st:zG K ad H S){p:Addr}{vs:List V}{ds:List D}(h:H p=some (.lst vs))(hp:p∉ad)(r:zB K ad H ds vs)(hb:B.H p=none):zG K (ad++[p]) H (S++[.lst ds]) where
 wd:=st.wd.add hb
 len:=by rw [List.length_append,List.length_append,st.len];rfl
 nd:=by
  rw [List.nodup_append]
  refine⟨st.nd,by simp,fun a ha b hb e=>?_⟩
  have:b=p:=by simpa using hb
  subst this;subst e
  exact hp ha
 cell:=fun n a c e1 e2=>by
  have w:Wr ad H (ad++[p]) H:=⟨List.prefix_append _ _,fun _ _ q=>q,fun _ _ _ q=>q⟩
  by_cases hn:n<ad.length
  ·rw [List.getElem?_append_left hn] at e1
   rw [List.getElem?_append_left (by rw [<- st.len];exact hn)] at e2
   exact (st.cell n a c e1 e2).wr w rfl
  ·have hn':ad.length<=n:=Nat.le_of_not_lt hn
   rw [List.getElem?_append_right hn'] at e1
   rw [List.getElem?_append_right (by rw [<- st.len];exact hn'),<- st.len] at e2
   cases hk:n-ad.length with
   | zero =>
    rw [hk] at e1 e2
    have e1':p=a:=by simpa using e1
    have e2':Cell.lst ds=c:=by simpa using e2
    subst e1' e2'
    exact⟨vs,h,zB.wr w r⟩
   | succ k=>rw [hk] at e1;simp at e1
theorem Lst.sq (st:zG K ad H S){x:D}{xs:List D}{v:V}(h:Lst S x xs)(r:Rel K ad H x v):∃ a vs,v=.ref a/\SqL K H a vs/\zB K ad H xs vs:=by
 rcases h with rfl | ⟨n,rfl,h⟩
 ·cases r with
  | rl h r=>exact⟨_,_,rfl,h.sq,r⟩
 ·cases r with
  | ref e =>
   obtain⟨vs,e2,r⟩:=st.cell n _ _ e h
   exact⟨_,vs,rfl,SqL.of e2,r⟩
theorem zfW.sq (st:zG K ad H S){x:D}{xs:List D}{v:V}(h:zfW S x xs)(r:Rel K ad H x v):∃ a vs,v=.ref a/\(SqL K H a vs\/SqT K H a vs)/\zB K ad H xs vs:=by
 rcases h with rfl | h
 ·cases r with
  | tup h r=>exact⟨_,_,rfl,.inr (SqT.of h),r⟩
 ·obtain⟨a,vs,e,s,r⟩:=Lst.sq st h r
  exact⟨a,vs,e,.inl s,r⟩
end
omit B in
theorem el8 {a b c d:Type}{p1 p2 p3 p4:a->b->c->d->Prop}{R:Prop}(h:∃ (x:a) (y:b) (z:c) (w:d),p1 x y z w/\p2 x y z w/\p3 x y z w/\p4 x y z w)(f:∀ (x:a) (y:b) (z:c) (w:d),p1 x y z w->p2 x y z w->p3 x y z w->p4 x y z w->R):R :=
 Exists.elim h fun x h=>Exists.elim h fun y h=>Exists.elim h fun z h=>Exists.elim h fun w h=>f x y z w h.1 h.2.1 h.2.2.1 h.2.2.2
def KK (K:PySem.W.Frag)(ad:List Addr)(H:Hp)(Q0:DK)(Q:VK):Prop:=∀ d S' v H' ad',Q0 d S'->Wd ad H ad' H'->zG K ad' H' S'->Rel K ad' H' d v->Q v H'
theorem KK.wd {K:PySem.W.Frag}{ad ad':List Addr}{H H':Hp}{Q0:DK}{Q:VK}(k:KK K ad H Q0 Q)(w:Wd ad H ad' H'):KK K ad' H' Q0 Q:=fun d S' v H' ad' q w'=>k d S' v H' ad' q (w.trans w')
def up (K:PySem.W.Frag)(t:DE):TE:=fun σ H Q=>∃ ad ρ S Q0,zG K ad H S/\zag K ad H ρ σ/\t ρ S Q0/\KK K ad H Q0 Q
def upT (K:PySem.W.Frag)(t:DT):TT:=fun σ H Q=>∃ ad ρ S Q0,zG K ad H S/\zag K ad H ρ σ/\t ρ S Q0/\∀ b S' H' ad',Q0 b S'->Wd ad H ad' H'->zG K ad' H' S'->Q b H'
def upA (K:PySem.W.Frag)(t:DA):TA:=fun σ H Q=>∃ ad ρ S Q0,zG K ad H S/\zag K ad H ρ σ/\t ρ S Q0/\∀ ds S' vs H' ad',Q0 ds S'->Wd ad H ad' H'->zG K ad' H' S'->zB K ad' H' ds vs->Q vs H'
theorem zG.base {K:PySem.W.Frag}{ad:List Addr}{H:Hp}{S:Sto}(st:zG K ad H S):@zG ⟨ad,H⟩ K ad H S:=@zG.mk ⟨ad,H⟩ _ _ _ _ Wd.refl st.len st.nd st.cell
theorem zG.back {K:PySem.W.Frag}{ad ad':List Addr}{H H':Hp}{S S':Sto}(st:zG K ad H S)(st':@zG ⟨ad,H⟩ K ad' H' S'):zG K ad' H' S' :=
 ⟨st.wd.trans (@zG.wd ⟨ad,H⟩ _ _ _ _ st'),@zG.len ⟨ad,H⟩ _ _ _ _ st',@zG.nd ⟨ad,H⟩ _ _ _ _ st',@zG.cell ⟨ad,H⟩ _ _ _ _ st'⟩
theorem KK.base {K:PySem.W.Frag}{ad:List Addr}{H:Hp}{S:Sto}{Q0:DK}{Q:VK}(st:zG K ad H S)(k:KK K ad H Q0 Q):@KK ⟨ad,H⟩ K ad H Q0 Q:=fun d S' v H' ad' q w st' r=>k d S' v H' ad' q w (st.back st') r
def upF (K:PySem.W.Frag)(f:DSp):Sp:=fun vs H Q _=>∃ ad S ds Q0,@zG ⟨ad,H⟩ K ad H S/\zB K ad H ds vs/\f ds S Q0/\@KK ⟨ad,H⟩ K ad H Q0 Q
structure zfH (K:PySem.W.Frag)(ad:List Addr)(H:Hp)(E0:ziH)(E:Ends):Prop where
 nx:∀ ρ S σ H' ad',E0.nx ρ S->Wd ad H ad' H'->zG K ad' H' S->zag K ad' H' ρ σ->E.nx σ H'
 rt:KK K ad H E0.rt E.rt
 bk:∀ ρ S σ H' ad',E0.bk ρ S->Wd ad H ad' H'->zG K ad' H' S->zag K ad' H' ρ σ->E.bk σ H'
 ct:∀ ρ S σ H' ad',E0.ct ρ S->Wd ad H ad' H'->zG K ad' H' S->zag K ad' H' ρ σ->E.ct σ H'
theorem zfH.wd {K:PySem.W.Frag}{ad ad':List Addr}{H H':Hp}{E0:ziH}{E:Ends}(k:zfH K ad H E0 E)(w:Wd ad H ad' H'):zfH K ad' H' E0 E :=
 ⟨fun ρ S σ H' ad' q w'=>k.nx ρ S σ H' ad' q (w.trans w'),k.rt.wd w,fun ρ S σ H' ad' q w'=>k.bk ρ S σ H' ad' q (w.trans w'),fun ρ S σ H' ad' q w'=>k.ct ρ S σ H' ad' q (w.trans w')⟩
def upS (K:PySem.W.Frag)(t:DS):TS:=fun E σ H=>∃ ad ρ S E0,zG K ad H S/\zag K ad H ρ σ/\t E0 ρ S/\zfH K ad H E0 E
@[irreducible] def PD (X:Cx)(e:Expr)(t:DE):Prop:=PE X e (up X.K t)
@[irreducible] def PTD (X:Cx)(e:Expr)(t:DT):Prop:=PT X e (upT X.K t)
@[irreducible] def PWD (X:Cx)(e:Expr)(t:DT):Prop:=PW X e (upT X.K t)
@[irreducible] def PAD (X:Cx)(es:List Expr)(t:DA):Prop:=PA X es (upA X.K t)
@[irreducible] def PSD (X:Cx)(st:Stmt)(t:DS):Prop:=PS X st (upS X.K t)
@[irreducible] def zdA (X:Cx)(st:List Stmt)(t:DS):Prop:=PSs X st (upS X.K t)
theorem zlz {X:Cx}{e:Expr}{t t':TE}(h:PE X e t)(m:∀ σ H Q,t' σ H Q->t σ H Q):PE X e t':=fun pins s σ H Q I q=>h pins s σ H Q I (m σ H Q q)
theorem zf3 {X:Cx}{e:Expr}{t t':TT}(h:PT X e t)(m:∀ σ H Q,t' σ H Q->t σ H Q):PT X e t':=fun pins s σ H Q I q=>h pins s σ H Q I (m σ H Q q)
theorem zij {X:Cx}{e:Expr}{t t':TT}(h:PW X e t)(m:∀ σ H Q,t' σ H Q->t σ H Q):PW X e t':=fun wh pins s σ H Q I q=>h wh pins s σ H Q I (m σ H Q q)
theorem zih {X:Cx}{e:List Expr}{t t':TA}(h:PA X e t)(m:∀ σ H Q,t' σ H Q->t σ H Q):PA X e t':=fun pos pins s σ H Q I q=>h pos pins s σ H Q I (m σ H Q q)
theorem za5 {X:Cx}{st:Stmt}{t t':TS}(h:PS X st t)(m:∀ D σ H,t' D σ H->t D σ H):PS X st t':=fun pins s σ H D I q=>h pins s σ H D I (m D σ H q)
theorem zhC {X:Cx}{st:List Stmt}{t t':TS}(h:PSs X st t)(m:∀ D σ H,t' D σ H->t D σ H):PSs X st t':=fun pins s σ H D I q=>h pins s σ H D I (m D σ H q)
section
variable {X:Cx}{a b c:Expr}{ta tb tc:DE}{pos:Pos}
theorem zaC {e:Expr}{t:TE}{d:DE}(h:PE X e t)(m:∀ σ H Q,up X.K d σ H Q->t σ H Q):PD X e d:=by with_unfolding_all exact (zlz h m)
theorem znw {e:Expr}{i:Nat}(h:PE X e (zm5 i)):PD X e (zc i):=by with_unfolding_all exact (zaC h fun σ H Q ⟨ad,ρ,S,Q0,st,rh,⟨d,e,q⟩,k⟩=>by
 obtain⟨v,ev,r⟩:=rh.val i d e
 exact⟨v,ev,k d S v H ad q Wd.refl st r⟩)
theorem zeH {e:Expr}{v:V}{d:D}(h:PE X e (tC v))(r:∀ ad H,Rel X.K ad H d v):PD X e (dC d):=by with_unfolding_all exact (zaC h fun σ H Q hh=>el8 hh fun ad ρ S Q0 st rh q k=>k d S v H ad q Wd.refl st (r _ _))
theorem zm {i j}:PD X (.Constant (.int i) j pos) (dC (.int i)):=by with_unfolding_all exact (zeH zhN fun _ _=>.int i)
theorem zft {b j}:PD X (.Constant (.bool b) j pos) (dC (.bl b)):=by with_unfolding_all exact (zeH zn0 fun _ _=>.bl b)
theorem zek {j}:PD X (.Constant .none j pos) (dC .non):=by with_unfolding_all exact (zeH zm3 fun _ _=>.non)
theorem zaa {x j}:PD X (.Constant (.str x) j pos) (dC (.str x)):=by with_unfolding_all exact (zeH zjL fun _ _=>.str x)
theorem zgQ {x:Str}{T:String}(hg:Gl X x)(hm:X.mg x=none)(hv:bootBuiltins x=some (.type T))(hn:x≠"__name__":=by decide)(hd:(x==("__debug__":Str))=false:=by decide):PD X (.Name x pos) (dC (.ty T)):=by with_unfolding_all exact (zeH (znV hg hm hv hn hd) fun _ _=>.ty T)
theorem zba {x:Str}{n:Int}(hg:Gl X x)(hm:∃ t,X.mg x=some (.int n t))(hd:(x==("__debug__":Str))=false:=by decide):PD X (.Name x pos) (dC (.int n)):=by with_unfolding_all exact (zeH (zl1 hg hm hd) fun _ _=>.int n)
theorem zlM {x z:Str}(hg:Gl X x)(hm:∃ t,X.mg x=some (.str z t))(hd:(x==("__debug__":Str))=false:=by decide):PD X (.Name x pos) (dC (.str z)):=by with_unfolding_all exact (zeH (by obtain⟨t,hm⟩:=hm;exact zil (v:=.str z) hg hm ⟨t,rfl⟩ hd) fun _ _=>.str z)
theorem zie {i j:Int}{m n:Nat}{p1 p2:Pos}(c:Int)(h:i ^ j.toNat=c)(h0:0<=j/\j<=1000000/\i.natAbs<2 ^ 64):PD X (.BinOp (.Constant (.int i) m p1) .Pow (.Constant (.int j) n p2) pos) (dC (.int c)):=by with_unfolding_all exact (zeH (zk2 c h h0) fun _ _=>.int c)
def OD (K:PySem.W.Frag)(r':DR2)(r:R2):Prop:=∀ ad H S x y v u Q0 Q,zG K ad H S->Rel K ad H x v->Rel K ad H y u->r' x y S Q0->KK K ad H Q0 Q->r v u H Q
theorem zfy {K:PySem.W.Frag}{r':DR2}{r:R2}(o:OD K r' r){σ:L2.St}{H:Hp}{Q:VK}(h:up K (dOp r' ta tb) σ H Q):tOp r (up K ta) (up K tb) σ H Q:=by
 obtain⟨ad,ρ,S,Q0,st,rh,q,k⟩:=h
 refine⟨ad,ρ,S,_,st,rh,q,fun x S1 v H1 ad1 q1 w1 st1 r1=>?_⟩
 refine⟨ad1,ρ,S1,_,st1,rh.wd w1,q1,fun y S2 u H2 ad2 q2 w2 st2 r2=>?_⟩
 exact o ad2 H2 S2 x y v u Q0 Q st2 (r1.wd w2) r2 q2 (k.wd (w1.trans w2))
theorem zfO {op:Operator}{r':DR2}{r:R2}(ho:OpR X (binaryOp op) r)(o:OD X.K r' r)(ha:PD X a ta)(hb:PD X b tb):PD X (.BinOp a op b pos) (dOp r' ta tb):=by with_unfolding_all exact (zaC (zkJ ho ha hb) fun _ _ _=>zfy o)
theorem zix {K:PySem.W.Frag}{C C':Int->Int->Prop}{g:Int->Int->D}{g':Int->Int->V}(hc:∀ i j,C i j->C' i j)(hg:∀ ad H i j,Rel K ad H (g i j) (g' i j)):OD K (oI C g) (rI C' g'):=fun ad H S x y v u Q0 Q st rx ry ⟨i,j,ex,ey,c,q⟩ k=>by
 subst ex ey
 cases rx
 cases ry
 exact⟨i,j,rfl,rfl,hc i j c,k _ S _ H ad q Wd.refl st (hg ad H i j)⟩
theorem zgP {K:PySem.W.Frag}{g:Int->Int->D}{g':Int->Int->V}(hg:∀ ad H i j,Rel K ad H (g i j) (g' i j)):OD K (oI0 g) (rI0 g'):=fun ad H S x y v u Q0 Q st rx ry ⟨i,j,ex,ey,q⟩ k=>by
 subst ex ey
 cases rx
 cases ry
 exact⟨i,j,rfl,rfl,k _ S _ H ad q Wd.refl st (hg ad H i j)⟩
theorem zjn {i:Int}(h:i.natAbs<2 ^ 64):-(2 ^ 64)<i/\i<2 ^ 64:=⟨by omega,by omega⟩
def zoO (i j:Int):Prop:=zaq i j
theorem zk3:OpR X (binaryOp .Mult) (rI zoO fun i j=>.int (i*j)):=opI fun i j _ _ _ _ _ hc q=>by
 rcases hc with h | h | h
 ·exact mul_int q (IntMulOk.of_bits (zfv h.1) (zfv h.2))
 ·exact mul_int q (ziT.ok (.inl (zjn h)))
 ·exact mul_int q (ziT.ok (.inr (zjn h)))
theorem zau (ha:PD X a ta)(hb:PD X b tb):PD X (.BinOp a .Sub b pos) (dOp zbp ta tb):=by with_unfolding_all exact (zfO zl4 (zgP fun _ _ i j=>.int (i-j)) ha hb)
theorem zmQ {z:Str}{n:Int}(hz:z.length<=1000)(h0:-1000<=n)(h1:n<=1000):MulOk z n:=by
 refine⟨?_,fun _ _=>?_,fun h _=>?_⟩
 ·rw [decide_eq_false (by omega),decide_eq_false (by omega)];rfl
 ·have:(1000:Int)<=(2 ^ 63-1)/n\/n<1:=by
   rcases Int.lt_or_le n 1 with g | g
   ·exact .inr g
   ·exact .inl ((Int.le_ediv_iff_mul_le (by omega)).mpr (by omega))
  omega
 ·have:z.length*n.toNat<=1000*1000:=Nat.mul_le_mul hz (by omega)
  have hs:z.length*n.toNat<=sizeLine:=Nat.le_trans this (by decide)
  first
   | exact decide_eq_false (by omega)
   | (unfold tooLong;exact decide_eq_false (by omega))
   | simp [tooLong];omega
theorem zlA:OpR X (binaryOp .Mult) (fun x y H Q=>∃ z n,x=.str z/\y=.int n/\MulOk z n/\Q (.str (Txt.mul z n)) H):=by
 intro pins s σ H x y v u Q I rx ry h
 obtain⟨z,n,rfl,rfl,ok,q⟩:=h
 obtain⟨t,rfl⟩:=rx
 obtain⟨t',rfl⟩:=ry
 exact SB.mul ok fun t' k=>⟨.str (Txt.mul z n),H,I.tok _,⟨_,rfl⟩,q⟩
omit B in
theorem zh9 {i:Int}(h:Hg i):Builtin.Int.intBits i<=2 ^ 20:=by
 unfold Hg at h
 exact intBits_le h
omit B in
theorem zlc {i:Int}(h:Builtin.Int.intBits i<=2 ^ 20):Hg i:=by
 unfold Hg
 exact Nat.lt_of_lt_of_le (natAbs_lt_pow_bits i) (Nat.pow_le_pow_right (by decide) h)
theorem zl2:OpR X (binaryOp .Mult) (rI (fun i j=>Hg i/\Hg j) fun i j=>.int (i*j)):=opI fun i j _ _ _ _ _ hc q=>mul_int q (IntMulOk.of_bits (zh9 hc.1) (zh9 hc.2))
theorem z7 (ha:PD X a ta)(hb:PD X b tb):PD X (.BinOp a .Mult b pos) (dOp zar ta tb):=by with_unfolding_all exact (zfO (zk3.or (zlA.or zl2)) (fun ad H S x y v u Q0 Q st rx ry h k=>by
 rcases h with h | ⟨z,n,rfl,rfl,hz,h0,h1,q⟩ | h
 ·exact .inl (zix (fun _ _ h=>h) (fun _ _ i j=>.int (i*j)) ad H S x y v u Q0 Q st rx ry h k)
 ·cases rx
  cases ry
  exact .inr (.inl ⟨z,n,rfl,rfl,zmQ hz h0 h1,k _ S _ H ad q Wd.refl st (.str _)⟩)
 ·exact .inr (.inr (zix (fun _ _ h=>h) (fun _ _ i j=>.int (i*j)) ad H S x y v u Q0 Q st rx ry h k))) ha hb)
theorem zae (ha:PD X a ta)(hb:PD X b tb):PD X (.BinOp a .FloorDiv b pos) (dOp oDiv ta tb):=by with_unfolding_all exact (zfO zjX (zix (fun _ _ h=>h) fun _ _ i j=>.int (i.fdiv j)) ha hb)
theorem zV (ha:PD X a ta)(hb:PD X b tb):PD X (.BinOp a .Mod b pos) (dOp oMod ta tb):=by with_unfolding_all exact (zfO zk4 (zix (fun _ _ h=>h) fun _ _ i j=>.int (i.fmod j)) ha hb)
theorem zdd {n:Nat}(h:n<=big):n<=sizeLine:=Nat.le_trans h (by decide)
theorem zjN {n:Nat}(h:n<big):n<sizeLine:=Nat.lt_of_lt_of_le h (by decide)
theorem zhp {K:PySem.W.Frag}{ad:List Addr}{H:Hp}{S:Sto}{Q0:DK}{Q:VK}{ds:List D}{vs:List V}(st:zG K ad H S)(k:KK K ad H Q0 Q)(r:zB K ad H ds vs)(q:Q0 (.ref S.length) (S++[.lst ds]))(l:Addr)(h:H l=none):Q (.ref l) (upd H l (.lst vs)) :=
 k _ _ _ _ _ q (Wd.newL st h) (st.newL h r) st.newRef
theorem zi4 {K:PySem.W.Frag}{ad:List Addr}{H:Hp}{S:Sto}{Q0:DK}{Q:VK}{ds:List D}{vs:List V}(st:zG K ad H S)(k:KK K ad H Q0 Q)(r:zB K ad H ds vs)(q:Q0 (.tup ds) S)(l:Addr)(h:H l=none):Q (.ref l) (upd H l (.tup vs)) :=
 k _ _ _ _ _ q (Wd.laid h) (st.laid h) (.tup zbk (r.wd (Wd.laid h)))
theorem zT (ha:PD X a ta)(hb:PD X b tb):PD X (.BinOp a .Add b pos) (dOp zac ta tb):=by with_unfolding_all exact (zfO (znv.or ((zkr rfl).or ((zlE rfl).or ziA))) (fun ad H S x y v u Q0 Q st rx ry h k=>by
  rcases h with ⟨i,j,rfl,rfl,q⟩ | ⟨xs,ys,rfl,rfl,hz,q⟩ | ⟨xs,ys,hx,hy,hz,q⟩ | ⟨i,j,rfl,rfl,hz,q⟩
  ·cases rx
   cases ry
   exact .inl ⟨i,j,rfl,rfl,k _ S _ H ad q Wd.refl st (.int _)⟩
  ·cases rx with
   | tup h1 r1 =>
    cases ry with
    | tup h2 r2 =>
     have l1:=r1.length
     have l2:=r2.length
     refine .inr (.inl ⟨_,_,_,_,rfl,rfl,SqT.of h1,SqT.of h2,by rw [<- l1,<- l2];exact zdd hz,fun e=>?_,fun _ e=>?_,fun _ _ p hp=>zi4 st k (r1.append r2) q p hp⟩)
     ·have e':xs=[]:=List.length_eq_zero_iff.mp (by rw [l1,e];rfl)
      subst e'
      exact k _ S _ H ad q Wd.refl st (.tup h2 r2)
     ·have e':ys=[]:=List.length_eq_zero_iff.mp (by rw [l2,e];rfl)
      subst e'
      rw [List.append_nil] at q
      exact k _ S _ H ad q Wd.refl st (.tup h1 r1)
  ·obtain⟨a1,vs1,rfl,s1,r1⟩:=hx.sq st rx
   obtain⟨a2,vs2,rfl,s2,r2⟩:=hy.sq st ry
   exact .inr (.inr (.inl ⟨_,_,_,_,rfl,rfl,s1,s2,by rw [<- r1.length,<- r2.length];exact zdd hz,fun p hp=>zhp st k (r1.append r2) q p hp⟩))
  ·cases rx
   cases ry
   exact .inr (.inr (.inr ⟨i,j,rfl,rfl,zdd hz,k _ S _ H ad q Wd.refl st (.str _)⟩))) ha hb)
theorem zdM (ha:PD X a ta):PD X (.UnaryOp .USub a pos) (dUn zem ta):=by with_unfolding_all exact (zaC (zow zns ha) fun σ H Q hh=>el8 hh fun ad ρ S Q0 st rh q k=>by
 refine⟨ad,ρ,S,_,st,rh,q,fun x S1 v H1 ad1 q1 w1 st1 r1=>?_⟩
 obtain⟨i,rfl,q1⟩:=q1
 cases r1
 exact⟨i,rfl,k _ _ _ _ _ q1 w1 st1 (.int _)⟩)
def OC (X:Cx)(op:CmpOp)(r':DR2):Prop:=∃ r,OpR X (compareOp op) r/\OD X.K r' r
theorem zc4:OC X .Lt oLt:=⟨_,zou,zgP fun _ _ _ _=>.bl _⟩
theorem zeP:OC X .LtE oLe:=⟨_,zos,zgP fun _ _ _ _=>.bl _⟩
theorem zfB:OC X .Gt oGt:=⟨_,znY,zgP fun _ _ _ _=>.bl _⟩
mutual
def pyD:D->PyData
 | .non=>.none
 | .bl b=>.bool b
 | .int i=>.int i
 | .str x=>.str x
 | .tup xs=>.tuple (zab xs)
 | .ref _=>.none
 | .ty _=>.none
 | .rl _=>.none
 | .exn _=>.none
def zab:List D->List PyData
 | []=>[]
 | x::xs=>pyD x::zab xs
end
section
variable {pins:List (Addr×Obj)}{σ:L2.St}{H:Hp}{s:Shared}{ad:List Addr}
theorem zc9 (I:Inv X pins σ H s)(k:Nat)(h1:∀ d v u,fl k d=true->Rel X.K ad H d v->RelV v u->∃ as,Reads s.heap u (pyD d) as):∀ ds vs us,ds.all (fl k)=true->zB X.K ad H ds vs->Vals vs us->∃ as,ReadsAll s.heap us (zab ds) as:=by
 intro ds
 induction ds with
 | nil=>intro vs us _ r rv;cases r;cases rv;exact⟨_,.nil⟩
 | cons d ds ih =>
  intro vs us hf r rv
  rw [List.all_cons,Bool.and_eq_true] at hf
  cases r with
  | cons r t =>
   cases rv with
   | cons q qt =>
    obtain⟨as,ra⟩:=h1 d _ _ hf.1 r q
    obtain⟨bs,rb⟩:=ih _ _ hf.2 t qt
    exact⟨_,.cons ra rb⟩
theorem zbH (I:Inv X pins σ H s):∀ (k:Nat) (d:D) (v:V) (u:Value),fl k d=true->Rel X.K ad H d v->RelV v u->∃ as,Reads s.heap u (pyD d) as:=by
 intro k
 induction k with
 | zero =>
  intro d v u hf r q
  cases r with
  | non=>cases q;exact⟨_,.none⟩
  | bl b=>cases q;exact⟨_,.bool b⟩
  | int i=>obtain⟨t,rfl⟩:=q;exact⟨_,.int i t⟩
  | str x=>obtain⟨t,rfl⟩:=q;exact⟨_,.str x t⟩
  | ty n=>cases hf
  | tup h r=>cases hf
  | rl h r=>cases hf
  | ref h=>cases hf
  | exn _ _ _=>cases hf
 | succ k ih =>
  intro d v u hf r q
  cases r with
  | non=>cases q;exact⟨_,.none⟩
  | bl b=>cases q;exact⟨_,.bool b⟩
  | int i=>obtain⟨t,rfl⟩:=q;exact⟨_,.int i t⟩
  | str x=>obtain⟨t,rfl⟩:=q;exact⟨_,.str x t⟩
  | ty n=>cases hf
  | tup h r =>
   cases q
   obtain⟨its,rv,ht,hz⟩:=I.tuple (SqT.of h)
   obtain⟨o,ho,hc,n,hd⟩:=ht
   obtain⟨as,ra⟩:=zc9 I k ih _ _ _ hf r rv
   exact⟨_,.tuple ho hc hd (by simpa using ra)⟩
  | rl h r=>cases hf
  | ref h=>cases hf
  | exn _ _ _=>cases hf
end
theorem zdW:∀ (k:Nat) (d:D),fl k d=true->(pyD d).canLay0=true/\(pyD d).depth<=k:=by
 have all:∀ k,(∀ d,fl k d=true->(pyD d).canLay0=true/\(pyD d).depth<=k)->∀ ds:List D,ds.all (fl k)=true->PyData.canLayAll0 (zab ds)=true/\PyData.depthAll (zab ds)<=k:=by
  intro k h ds
  induction ds with
  | nil=>intro _;exact⟨rfl,Nat.zero_le _⟩
  | cons d ds ih =>
   intro hf
   rw [List.all_cons,Bool.and_eq_true] at hf
   obtain⟨a1,a2⟩:=h d hf.1
   obtain⟨b1,b2⟩:=ih hf.2
   refine⟨?_,?_⟩
   ·show (PyData.canLay0 (pyD d)&&PyData.canLayAll0 (zab ds))=true
    rw [a1,b1];rfl
   ·show max (PyData.depth (pyD d)) (PyData.depthAll (zab ds))<=k
    exact Nat.max_le.mpr ⟨a2,b2⟩
 intro k
 induction k with
 | zero =>
  intro d hf
  cases d with
  | non=>exact⟨rfl,Nat.zero_le _⟩
  | bl b=>exact⟨rfl,Nat.zero_le _⟩
  | int i=>exact⟨rfl,Nat.zero_le _⟩
  | str x=>exact⟨hf,Nat.zero_le _⟩
  | tup xs=>cases hf
  | ref n=>cases hf
  | exn _=>cases hf
  | ty n=>cases hf
  | rl xs=>cases hf
 | succ k ih =>
  intro d hf
  cases d with
  | non=>exact⟨rfl,Nat.zero_le _⟩
  | bl b=>exact⟨rfl,Nat.zero_le _⟩
  | int i=>exact⟨rfl,Nat.zero_le _⟩
  | str x=>exact⟨hf,Nat.zero_le _⟩
  | tup xs =>
   obtain⟨h1,h2⟩:=all k ih xs hf
   refine⟨h1,?_⟩
   show PyData.depthAll (zab xs)+1<=k+1
   omega
  | ref n=>cases hf
  | exn _=>cases hf
  | ty n=>cases hf
  | rl xs=>cases hf
theorem zcK (k:Nat):∀ ds:List D,ds.all (fl k)=true->PyData.canLayAll0 (zab ds)=true/\PyData.depthAll (zab ds)<=k:=by
 intro ds
 induction ds with
 | nil=>intro _;exact⟨rfl,Nat.zero_le _⟩
 | cons d ds ih =>
  intro hf
  rw [List.all_cons,Bool.and_eq_true] at hf
  obtain⟨a1,a2⟩:=zdW k d hf.1
  obtain⟨b1,b2⟩:=ih hf.2
  refine⟨?_,?_⟩
  ·show (PyData.canLay0 (pyD d)&&PyData.canLayAll0 (zab ds))=true
   rw [a1,b1];rfl
  ·show max (PyData.depth (pyD d)) (PyData.depthAll (zab ds))<=k
   exact Nat.max_le.mpr ⟨a2,b2⟩
mutual
theorem zha:∀ (k:Nat) (x y:D),fl k x=true->fl k y=true->PyData.eqv (pyD x) (pyD y)=eqv x y
  | k,.non,y,_,hy=>by cases y<;>first | rfl | (cases k<;>cases hy)
  | k,.bl a,y,_,hy=>by cases y<;>first | rfl | (cases k<;>cases hy)
  | k,.int i,y,_,hy=>by
    cases y with
    | int j=>show (i==j)=decide (i=j);rw [Bool.beq_eq_decide_eq]
    | ref n=>cases k<;>cases hy
    | exn n=>cases k<;>cases hy
    | ty n=>cases k<;>cases hy
    | rl n=>cases k<;>cases hy
    | _=>rfl
  | k,.str a,y,_,hy=>by cases y<;>first | rfl | (cases k<;>cases hy)
  | 0,.tup xs,y,hx,_=>by cases hx
  | k+1,.tup xs,y,hx,hy=>by
    cases y with
    | tup ys=>exact zdj k xs ys hx hy
    | ref n=>cases hy
    | ty n=>cases hy
    | rl n=>cases hy
    | _=>rfl
  | k,.ref n,y,hx,_=>by cases k<;>cases hx
  | k,.ty n,y,hx,_=>by cases k<;>cases hx
  | k,.rl n,y,hx,_=>by cases k<;>cases hx
  | k,.exn n,y,hx,_=>by cases k<;>cases hx
theorem zdj:∀ (k:Nat) (xs ys:List D),xs.all (fl k)=true->ys.all (fl k)=true->PyData.eqvAll (zab xs) (zab ys)=eqvAll xs ys
  | k,[],[],_,_=>rfl
  | k,[],y::ys,_,_=>rfl
  | k,x::xs,[],_,_=>rfl
  | k,x::xs,y::ys,hx,hy=>by
    rw [List.all_cons,Bool.and_eq_true] at hx hy
    show (PyData.eqv (pyD x) (pyD y)&&PyData.eqvAll (zab xs) (zab ys))=(eqv x y&&eqvAll xs ys)
    rw [zha k x y hx.1 hy.1,zdj k xs ys hx.2 hy.2]
end
def zcy (xss:List (List D)):List PyData:=xss.map fun zs=>.list (zab zs)
theorem zhn:∀ xss:List (List D),zd7 xss=true->PyData.canLayAll0 (zcy xss)=true/\PyData.depthAll (zcy xss)<=21
 | [],_=>⟨rfl,Nat.zero_le _⟩
 | zs::xss,h=>by
  unfold zd7 at h
  rw [List.all_cons,Bool.and_eq_true] at h
  obtain⟨a1,a2⟩:=zcK 20 zs h.1
  obtain⟨b1,b2⟩:=zhn xss h.2
  refine⟨?_,?_⟩
  ·show (PyData.canLayAll0 (zab zs)&&PyData.canLayAll0 (zcy xss))=true
   rw [a1,b1];rfl
  ·show max (PyData.depthAll (zab zs)+1) (PyData.depthAll (zcy xss))<=21
   exact Nat.max_le.mpr ⟨by omega,b2⟩
theorem zjF:∀ xss yss:List (List D),zd7 xss=true->zd7 yss=true->PyData.eqvAll (zcy xss) (zcy yss)=eqvAll (xss.map D.tup) (yss.map D.tup)
 | [],[],_,_=>rfl
 | [],_::_,_,_=>rfl
 | _::_,[],_,_=>rfl
 | zs::xss,ws::yss,h,k=>by
  unfold zd7 at h k
  rw [List.all_cons,Bool.and_eq_true] at h k
  show (PyData.eqvAll (zab zs) (zab ws)&&PyData.eqvAll (zcy xss) (zcy yss))=(eqvAll zs ws&&eqvAll (xss.map D.tup) (yss.map D.tup))
  rw [zdj 20 zs ws h.1 k.1,zjF xss yss h.2 k.2]
theorem zfc {pins:List (Addr×Obj)}{σ:L2.St}{H:Hp}{s:Shared}{ad:List Addr}{S:Sto}(I:Inv X pins σ H s)(st:zG X.K ad H S):∀ (xs:List D) (xss:List (List D)) (vs:List V) (us:List Value),zfL S xs xss->zd7 xss=true->zB X.K ad H xs vs->Vals vs us->∃ as,ReadsAll s.heap us (zcy xss) as
 | [],[],_,_,_,_,r,rv=>by cases r;cases rv;exact⟨_,.nil⟩
 | [],_::_,_,_,h,_,_,_=>h.elim
 | _::_,[],_,_,h,_,_,_=>h.elim
 | x::xs,zs::xss,_,_,h,f,r,rv=>by
  unfold zd7 at f
  rw [List.all_cons,Bool.and_eq_true] at f
  cases r with
  | cons r t =>
   obtain⟨a1,vs1,rfl,s1,r1⟩:=h.1.sq st r
   cases rv with
   | cons q qt =>
    cases q
    obtain⟨its,rv1,ht,hz⟩:=I.list s1
    obtain⟨o,ho,hc,n,hd⟩:=ht.isList
    obtain⟨as,ra⟩:=zc9 I 20 (zbH I 20) _ _ _ f.1 r1 rv1
    obtain⟨bs,rb⟩:=zfc I st xs xss _ _ h.2 f.2 t qt
    exact⟨_,.cons (.list ho hc hd (by simpa using ra)) rb⟩
def znt (X:Cx)(g:Bool->Bool):R2:=fun x y H Q=>∃ ad S dx dy b,zG X.K ad H S/\Rel X.K ad H dx x/\Rel X.K ad H dy y/\EqD S dx dy b/\Q (.bl (g b)) H
theorem zgs {pins:List (Addr×Obj)}{σ:L2.St}{H:Hp}{s:Shared}{ad:List Addr}{S:Sto}{dx dy:D}{x y:V}{v u:Value}{b:Bool}(I:Inv X pins σ H s)(st:zG X.K ad H S)(rx:Rel X.K ad H dx x)(ry:Rel X.K ad H dy y)(qx:RelV x v)(qy:RelV y u)(h:EqD S dx dy b) :
  ∃ px py as bs,Reads s.heap v px as/\Reads s.heap u py bs/\px.canLay0=true/\py.canLay0=true/\min px.depth py.depth<=60/\PyData.eqv px py=b:=by
 rcases h with ⟨fx,fy,rfl⟩ | ⟨xs,ys,hx,hy,fx,fy,rfl⟩ | ⟨xs,ys,xss,yss,hx,hy,lx,ly,fx,fy,rfl⟩
 ·obtain⟨as,ra⟩:=zbH I 20 dx x v fx rx qx
  obtain⟨bs,rb⟩:=zbH I 20 dy y u fy ry qy
  obtain⟨c1,d1⟩:=zdW 20 dx fx
  obtain⟨c2,d2⟩:=zdW 20 dy fy
  exact⟨_,_,as,bs,ra,rb,c1,c2,by omega,zha 20 dx dy fx fy⟩
 ·obtain⟨a1,vs1,rfl,s1,r1⟩:=hx.sq st rx
  obtain⟨a2,vs2,rfl,s2,r2⟩:=hy.sq st ry
  cases qx
  cases qy
  obtain⟨its,rv,ht,hz⟩:=I.list s1
  obtain⟨its2,rv2,ht2,hz2⟩:=I.list s2
  obtain⟨o,ho,hc,n,hd⟩:=ht.isList
  obtain⟨o2,ho2,hc2,n2,hd2⟩:=ht2.isList
  obtain⟨as,ra⟩:=zc9 I 20 (zbH I 20) _ _ _ fx r1 rv
  obtain⟨bs,rb⟩:=zc9 I 20 (zbH I 20) _ _ _ fy r2 rv2
  obtain⟨c1,d1⟩:=zcK 20 xs fx
  obtain⟨c2,d2⟩:=zcK 20 ys fy
  refine⟨.list (zab xs),.list (zab ys),_,_,.list ho hc hd (by simpa using ra),.list ho2 hc2 hd2 (by simpa using rb),c1,c2,?_,zdj 20 xs ys fx fy⟩
  show min (PyData.depthAll (zab xs)+1) (PyData.depthAll (zab ys)+1)<=60
  omega
 ·obtain⟨a1,vs1,rfl,s1,r1⟩:=hx.sq st rx
  obtain⟨a2,vs2,rfl,s2,r2⟩:=hy.sq st ry
  cases qx
  cases qy
  obtain⟨its,rv,ht,hz⟩:=I.list s1
  obtain⟨its2,rv2,ht2,hz2⟩:=I.list s2
  obtain⟨o,ho,hc,n,hd⟩:=ht.isList
  obtain⟨o2,ho2,hc2,n2,hd2⟩:=ht2.isList
  obtain⟨as,ra⟩:=zfc I st xs xss _ _ lx fx r1 rv
  obtain⟨bs,rb⟩:=zfc I st ys yss _ _ ly fy r2 rv2
  obtain⟨c1,d1⟩:=zhn xss fx
  obtain⟨c2,d2⟩:=zhn yss fy
  refine⟨.list (zcy xss),.list (zcy yss),_,_,.list ho hc hd (by simpa using ra),.list ho2 hc2 hd2 (by simpa using rb),c1,c2,?_,zjF xss yss fx fy⟩
  show min (PyData.depthAll (zcy xss)+1) (PyData.depthAll (zcy yss)+1)<=60
  omega
theorem zi0 {k:Nat}(hr:zan k X.A):OC X .Eq oEq:=⟨znt X id,fun pins s σ H x y v u Q I qx qy ⟨ad,S,dx,dy,b,st,rx,ry,h,q⟩=>by
  obtain⟨px,py,as,bs,ra,rb,c1,c2,hd,e⟩:=zgs I st rx ry qx qy h
  have hu:=hr.units
  exact PySem.SeqAt.rcAt_reads ra rb c1 c2 (by omega) X.prog X.w X.xe _ ⟨.bl _,H,I,by rw [e];rfl,q⟩,
 fun ad H S x y v u Q0 Q st rx ry ⟨b,h,q⟩ k=>⟨ad,S,x,y,b,st,rx,ry,h,k _ S _ H ad q Wd.refl st (.bl _)⟩⟩
theorem ziW {k:Nat}(hr:zan k X.A):OC X .NotEq oNe:=⟨znt X (!·),fun pins s σ H x y v u Q I qx qy ⟨ad,S,dx,dy,b,st,rx,ry,h,q⟩=>by
  obtain⟨px,py,as,bs,ra,rb,c1,c2,hd,e⟩:=zgs I st rx ry qx qy h
  have hu:=hr.units
  exact PySem.SeqAt.rcNeAt_reads ra rb c1 c2 (by omega) X.prog X.w X.xe _ ⟨.bl _,H,I,by rw [e];rfl,q⟩,
 fun ad H S x y v u Q0 Q st rx ry ⟨b,h,q⟩ k=>⟨ad,S,x,y,b,st,rx,ry,h,k _ S _ H ad q Wd.refl st (.bl _)⟩⟩
theorem zjz {K:PySem.W.Frag}{ad:List Addr}{H:Hp}{d:D}{v:V}(r:Rel K ad H d v):decide (v=.non)=zd4 d:=by
  cases r<;>rfl
theorem zlF:OpR X (compareOp .IsNot) (rB0 fun i j=>.bl (!(i==j))):=fun pins s σ H x y v u Q I rx ry ⟨i,j,ex,ey,q⟩=>by
 subst ex ey
 cases rx
 cases ry
 exact isnot_bool ⟨.bl _,H,I,rfl,q⟩
theorem zg0:OC X .IsNot zgf:=⟨_,zmB.or zlF,fun ad H S x y v u Q0 Q st rx ry h k=>by
 rcases h with ⟨rfl,q⟩ | ⟨a,b,rfl,rfl,q⟩
 ·cases ry
  exact .inl ⟨rfl,by rw [zjz rx];exact k _ S _ H ad q Wd.refl st (.bl _)⟩
 ·cases rx
  cases ry
  exact .inr ⟨a,b,rfl,rfl,k _ S _ H ad q Wd.refl st (.bl _)⟩⟩
theorem zdK {op:CmpOp}{r':DR2}(o:OC X op r')(ha:PD X a ta)(hb:PD X b tb)(h:op≠.In:=by decide)(h2:op≠.NotIn:=by decide):PD X (.Compare a [op] [b] pos) (dOp r' ta tb):=by
 with_unfolding_all
  obtain⟨r,ho,od⟩:=o
  exact zaC (zio ho ha hb (zjr _ h h2)) fun _ _ _=>zfy od
theorem z6 {op:CmpOp}{r':DR2}(o:OC X op r')(ha:PD X a ta)(hb:PD X b tb)(h:op≠.In:=by decide)(h2:op≠.NotIn:=by decide):PTD X (.Compare a [op] [b] pos) (dT (dOp r' ta tb)):=by
 with_unfolding_all
  obtain⟨r,ho,od⟩:=o
  refine zf3 (zlj ho ha hb (zjr _ h h2)) fun σ H Q hh=>el8 hh fun ad ρ S Q0 st rh q k=>?_
  refine zfy (Q:=fun x H'=>∃ k,x=.bl k/\Q k H') od ⟨ad,ρ,S,_,st,rh,q,fun d S' v H' ad' ⟨b,e,q'⟩ w st' r=>?_⟩
  subst e
  cases r
  exact⟨b,rfl,k b S' H' ad' q' w st'⟩
theorem zbQ {e:Expr}{t:DE}(h:PD X e t)(he:∀ whole,isTrue e X.env whole=(do let v <- whole;standAt e.pos;holding [v] (truthy v)):=by intro _;rfl):PTD X e (dT t):=by with_unfolding_all exact (zf3 (zmL h he) fun σ H Q hh=>el8 hh fun ad ρ S Q0 st rh q k =>
 ⟨ad,ρ,S,_,st,rh,q,fun d S' v H' ad' ⟨b,e,q'⟩ w st' r=>by
  subst e
  cases r
  exact⟨b,rfl,k b S' H' ad' q' w st'⟩⟩)
variable {tA tB':DT}{rest:List Expr}
theorem zcf (h:PTD X a tA):PTD X (.UnaryOp .Not a pos) (zdw tA):=by with_unfolding_all exact (zf3 (znb h) fun σ H Q hh=>el8 hh fun ad ρ S Q0 st rh q k=>⟨ad,ρ,S,_,st,rh,q,fun b S' H' ad' q' w st'=>k _ S' H' ad' q' w st'⟩)
theorem zde {e:Expr}{t:DT}(h:PWD X e t):PTD X e t:=by with_unfolding_all exact (h _)
theorem zhl (ha:PTD X a tA):PWD X (.BoolOp .And [a] pos) tA:=by with_unfolding_all exact (zlt ha)
theorem zdG (ha:PTD X a tA):PWD X (.BoolOp .Or [a] pos) tA:=by with_unfolding_all exact (zl6 ha)
theorem zh8 (ha:PTD X a tA)(hb:PWD X (.BoolOp .And (b::rest) pos) tB'):PWD X (.BoolOp .And (a::b::rest) pos) (ziI tA tB'):=by with_unfolding_all exact (zij (zna ha hb) fun σ H Q hh=>el8 hh fun ad ρ S Q0 st rh q k =>
 ⟨ad,ρ,S,_,st,rh,q,fun b S' H' ad' q' w st'=>by
  cases b with
  | true=>rw [if_pos rfl] at q' ⊢;exact⟨ad',ρ,S',Q0,st',rh.wd w,q',fun b S' H' ad' q w'=>k b S' H' ad' q (w.trans w')⟩
  | false=>rw [if_neg Bool.false_ne_true] at q' ⊢;exact k _ S' H' ad' q' w st'⟩)
theorem zei (ha:PTD X a tA)(hb:PWD X (.BoolOp .Or (b::rest) pos) tB'):PWD X (.BoolOp .Or (a::b::rest) pos) (dOr tA tB'):=by with_unfolding_all exact (zij (zod ha hb) fun σ H Q hh=>el8 hh fun ad ρ S Q0 st rh q k =>
 ⟨ad,ρ,S,_,st,rh,q,fun b S' H' ad' q' w st'=>by
  cases b with
  | false=>rw [if_neg Bool.false_ne_true] at q' ⊢;exact⟨ad',ρ,S',Q0,st',rh.wd w,q',fun b S' H' ad' q w'=>k b S' H' ad' q (w.trans w')⟩
  | true=>rw [if_pos rfl] at q' ⊢;exact k _ S' H' ad' q' w st'⟩)
theorem zfM {op}{t:DE}(h:PD X a t):PD X (.BoolOp op [a] pos) t:=by with_unfolding_all exact (znh h)
theorem zdD (ha:PD X a ta)(hb:PD X (.BoolOp .And (b::rest) pos) tb):PD X (.BoolOp .And (a::b::rest) pos) (zd6 ta tb):=by with_unfolding_all exact (zaC (znq ha hb) fun σ H Q hh=>el8 hh fun ad ρ S Q0 st rh q k =>
 ⟨ad,ρ,S,_,st,rh,q,fun d S' v H' ad' ⟨c,e,q'⟩ w st' r=>by
  subst e
  cases r
  refine⟨c,rfl,?_⟩
  cases c with
  | true=>rw [if_pos rfl] at q' ⊢;exact⟨ad',ρ,S',Q0,st',rh.wd w,q',k.wd w⟩
  | false=>rw [if_neg Bool.false_ne_true] at q' ⊢;exact k _ S' _ H' ad' q' w st' (.bl _)⟩)
theorem zeO (ha:PD X a ta):PD X (.UnaryOp .Not a pos) (zeT ta):=by with_unfolding_all exact (zaC (zmJ ha) fun σ H Q hh=>el8 hh fun ad ρ S Q0 st rh q k =>
 ⟨ad,ρ,S,_,st,rh,q,fun d S' v H' ad' ⟨c,e,q'⟩ w st' r=>by
  subst e
  cases r
  exact⟨c,rfl,k _ S' _ H' ad' q' w st' (.bl _)⟩⟩)
end
section
variable {X:Cx}{a b e:Expr}{es:List Expr}{ta tb te:DE}{t:DA}{pos:Pos}
theorem zp:PAD X [] zu:=by with_unfolding_all exact (zih zmz fun σ H Q hh=>el8 hh fun ad ρ S Q0 st rh q k=>k [] S [] H ad q Wd.refl st .nil)
theorem za (ha:PD X e te)(hr:PAD X es t)(hs:starEach (e::es) X.env=(false,eval e X.env)::starEach es X.env:=by exact zaS rfl):PAD X (e::es) (zj te t):=by with_unfolding_all exact (zih (zlv ha hr hs) fun σ H Q hh=>el8 hh fun ad ρ S Q0 st rh q k =>
 ⟨ad,ρ,S,_,st,rh,q,fun d S1 v H1 ad1 q1 w1 st1 r1=>⟨ad1,ρ,S1,_,st1,rh.wd w1,q1,fun ds S2 vs H2 ad2 q2 w2 st2 r2=>k _ S2 _ H2 ad2 q2 (w1.trans w2) st2 (.cons (r1.wd w2) r2)⟩⟩)
theorem zaX {x1}(h:PAD X es t):PD X (.Tuple es x1 pos) (dTup t):=by with_unfolding_all exact (zaC (zmR h) fun σ H Q hh=>el8 hh fun ad ρ S Q0 st rh q k =>
 ⟨ad,ρ,S,_,st,rh,q,fun ds S1 vs H1 ad1 ⟨hz,q1⟩ w1 st1 r1=>⟨by rw [<- r1.length];exact zdd hz,fun p hp=>zi4 st1 (k.wd w1) r1 q1 p hp⟩⟩)
theorem zak (h:PAD X es t):PD X (.List es pos) (zaZ t):=by with_unfolding_all exact (zaC (zmG h) fun σ H Q hh=>el8 hh fun ad ρ S Q0 st rh q k =>
 ⟨ad,ρ,S,_,st,rh,q,fun ds S1 vs H1 ad1 ⟨hz,q1⟩ w1 st1 r1=>⟨by rw [<- r1.length];exact zdd hz,fun p hp=>zhp st1 (k.wd w1) r1 q1 p hp⟩⟩)
theorem zmh {xs:List D}{i:Int}{d:D}(h:atD xs i=some d){K:PySem.W.Frag}{ad:List Addr}{H:Hp}{vs:List V}(r:zB K ad H xs vs):∃ v,atI vs i=some v/\Rel K ad H d v:=by
 have e:ixN vs.length i=ixD xs.length i:=by rw [r.length];rfl
 unfold atD at h
 unfold atI
 rw [e]
 cases q:ixD xs.length i with
 | none=>rw [q] at h;cases h
 | some j =>
  rw [q] at h
  exact r.get h
theorem zA (ha:PD X a ta)(hb:PD X b tb)(hs:zis b:=by intro _ _;rfl):PD X (.Subscript a b pos) (dOp oIx ta tb):=by with_unfolding_all exact (zaC (zoh (zlx.or (zni.or zmd)) ha hb hs) fun _ _ _=>zfy fun ad H S x y v u Q0 Q st rx ry h k=>by
 rcases h with ⟨i,xs,d,ey,hx,e,q⟩ | ⟨z,i,c,rfl,rfl,hz,e,q⟩
 case inr =>
  cases rx
  cases ry
  exact .inr (.inr ⟨z,i,c,rfl,rfl,zdd hz,e,k _ S _ H ad q Wd.refl st (.str _)⟩)
 subst ey
 cases ry
 obtain⟨p,vs,rfl,hs,r⟩:=hx.sq st rx
 obtain⟨z,ez,rz⟩:=zmh e r
 rcases hs with hs | hs
 ·exact .inl ⟨p,vs,i,z,rfl,rfl,hs,ez,k _ S _ H ad q Wd.refl st rz⟩
 ·exact .inr (.inl ⟨p,vs,i,z,rfl,rfl,hs,ez,k _ S _ H ad q Wd.refl st rz⟩))
end
end Dp
namespace Dp
open PySem PySem.Spec PyProof.Rows L2 My
variable [B:Bs]
section
variable {X:Cx}{a e:Expr}{es:List Expr}{ta te:DE}{t:DA}{pos p:Pos}
theorem zK {k j:Nat}{x:Str}{ps:List Str}{f:DSp}(G:Got X.prog X.w X.K X.mg X.base k x ps (upF X.K f))(hr:zan j X.A)
  (ha:PAD X (e::es) t) (hk:k<=j:=by decide) (hg:Gl X x:=by rfl) (hdb:(x==("__debug__":Str))=false:=by decide) (he:starEach (e::es) X.env=(false,eval e X.env)::starEach es X.env:=by exact zaS rfl) (hpl:(backTo pos (starEach es X.env)).any (·.1)=false:=by exact zb4 rfl) :
  PD X (.Call (.Name x p) (e::es) [] pos) (dCall f t):=by with_unfolding_all exact (zaC (zm9 G hr hk hg ha hdb he hpl) fun σ H Q hh=>el8 hh fun ad ρ S Q0 st rh q k =>
 ⟨ad,ρ,S,_,st,rh,q,fun ds S1 vs H1 ad1 q1 w1 st1 r1=>by
  show upF X.K f (vs++[]) H1 Q E0
  rw [List.append_nil];exact⟨ad1,S1,ds,Q0,st1.base,r1,q1,(k.wd w1).base st1⟩⟩)
def BD (K:PySem.W.Frag)(r':DB)(r:List V->Hp->VK->Prop):Prop:=∀ ad H S ds vs Q0 Q,zG K ad H S->zB K ad H ds vs->r' ds S Q0->KK K ad H Q0 Q->r vs H Q
def BC (X:Cx)(f:Value)(r':DB):Prop:=∃ r,za4 X f r/\BD X.K r' r
theorem zaJ {x:Str}{id:String}{r':DB}(o:BC X (.builtin id) r')(hm:X.mg x=none)(hv:bootBuiltins x=some (.builtin id))(ha:PAD X (e::es) t)(hg:Gl X x:=by rfl)(hn:x≠"__name__":=by decide)(hdb:(x==("__debug__":Str))=false:=by decide)
  (he:starEach (e::es) X.env=(false,eval e X.env)::starEach es X.env:=by exact zaS rfl) (hpl:(backTo pos (starEach es X.env)).any (·.1)=false:=by exact zb4 rfl):PD X (.Call (.Name x p) (e::es) [] pos) (dB r' t):=by
 with_unfolding_all
  obtain⟨r,ho,od⟩:=o
  exact zaC (zkH ho hg hm hv ha hn hdb he hpl) fun σ H Q hh=>el8 hh fun ad ρ S Q0 st rh q k =>
   ⟨ad,ρ,S,_,st,rh,q,fun ds S1 vs H1 ad1 q1 w1 st1 r1=>od ad1 H1 S1 ds vs Q0 Q st1 r1 q1 (k.wd w1)⟩
theorem za3 {x:Str}{T:String}{r':DB}(o:BC X (.type T) r')(hm:X.mg x=none)(hv:bootBuiltins x=some (.type T))(ha:PAD X (e::es) t)(hg:Gl X x:=by rfl)(hn:x≠"__name__":=by decide)(hdb:(x==("__debug__":Str))=false:=by decide)
  (he:starEach (e::es) X.env=(false,eval e X.env)::starEach es X.env:=by exact zaS rfl) (hpl:(backTo pos (starEach es X.env)).any (·.1)=false:=by exact zb4 rfl):PD X (.Call (.Name x p) (e::es) [] pos) (dB r' t):=by
 with_unfolding_all
  obtain⟨r,ho,od⟩:=o
  exact zaC (zja ho hg hm hv ha hn hdb he hpl) fun σ H Q hh=>el8 hh fun ad ρ S Q0 st rh q k =>
   ⟨ad,ρ,S,_,st,rh,q,fun ds S1 vs H1 ad1 q1 w1 st1 r1=>od ad1 H1 S1 ds vs Q0 Q st1 r1 q1 (k.wd w1)⟩
theorem zc6 {K:PySem.W.Frag}{ad:List Addr}{H:Hp}{d:D}{vs:List V}(r:zB K ad H [d] vs):∃ v,vs=[v]/\Rel K ad H d v:=by
 cases r with
 | cons r t=>cases t;exact⟨_,rfl,r⟩
theorem zm6 {K:PySem.W.Frag}{ad:List Addr}{H:Hp}{d e:D}{vs:List V}(r:zB K ad H [d,e] vs):∃ v u,vs=[v,u]/\Rel K ad H d v/\Rel K ad H e u:=by
 cases r with
 | cons r t =>
  obtain⟨u,rfl,r2⟩:=zc6 t
  exact⟨_,_,rfl,r,r2⟩
theorem za2:BC X (.builtin "len") zbs:=⟨_,zjj.or zhu,fun ad H S ds vs Q0 Q st r h k=>by
 rcases h with ⟨x,xs,e,hx,q⟩ | ⟨z,e,hz,q⟩
 case inr =>
  subst e
  obtain⟨v,rfl,rv⟩:=zc6 r
  cases rv
  exact .inr ⟨z,rfl,zdd hz,k _ S _ H ad q Wd.refl st (.int _)⟩
 subst e
 obtain⟨v,rfl,rv⟩:=zc6 r
 obtain⟨a,ws,rfl,hs,rs⟩:=hx.sq st rv
 exact .inl ⟨a,ws,rfl,hs,k _ S _ H ad (by rw [rs.length] at q;exact q) Wd.refl st (.int _)⟩⟩
theorem zmS:BC X (.builtin "abs") zkB:=⟨_,zji,fun ad H S ds vs Q0 Q st r ⟨i,e,q⟩ k=>by
 subst e
 obtain⟨v,rfl,rv⟩:=zc6 r
 cases rv
 exact⟨i,rfl,k _ S _ H ad q Wd.refl st (.int _)⟩⟩
theorem zeG (hc:X.calm=true:=by rfl):BC X (.builtin "all") zey:=⟨_,zjB rfl hc,fun ad H S ds vs Q0 Q st r ⟨x,ns,e,hx,q⟩ k=>by
 subst e
 obtain⟨v,rfl,rv⟩:=zc6 r
 obtain⟨a,ws,rfl,hs,rs⟩:=hx.sq st rv
 cases rs.bls
 exact⟨a,ns,rfl,hs,k _ S _ H ad q Wd.refl st (.bl _)⟩⟩
theorem zb9:BC X (.type "list") zcg:=⟨_,zi1,fun ad H S ds vs Q0 Q st r ⟨x,xs,e,hx,q⟩ k=>by
 subst e
 obtain⟨v,rfl,rv⟩:=zc6 r
 obtain⟨a,ws,rfl,hs,rs⟩:=hx.sq st rv
 exact⟨a,ws,rfl,hs,fun l hl=>zhp st k rs q l hl⟩⟩
section
variable {K:PySem.W.Frag}
theorem zlO (t:String)(h:zgc t=true):PySem.W.kitOne K (.type "NoneType") (.type t)=some false/\PySem.W.kitOne K (.type "bool") (.type t)=some (t=="bool"||t=="int")/\PySem.W.kitOne K (.type "int") (.type t)=some (t=="int") /\
  PySem.W.kitOne K (.type "str") (.type t)=some (t=="str")/\PySem.W.kitOne K (.type "tuple") (.type t)=some (t=="tuple")/\PySem.W.kitOne K (.type "list") (.type t)=some (t=="list"):=by
 unfold zgc at h
 simp only [Bool.or_eq_true,beq_iff_eq] at h
 rcases h with (((rfl | rfl) | rfl) | rfl) | rfl
 ·exact⟨by kernel_rfl,by kernel_rfl,by kernel_rfl,by kernel_rfl,by kernel_rfl,by kernel_rfl⟩
 ·exact⟨by kernel_rfl,by kernel_rfl,by kernel_rfl,by kernel_rfl,by kernel_rfl,by kernel_rfl⟩
 ·exact⟨by kernel_rfl,by kernel_rfl,by kernel_rfl,by kernel_rfl,by kernel_rfl,by kernel_rfl⟩
 ·exact⟨by kernel_rfl,by kernel_rfl,by kernel_rfl,by kernel_rfl,by kernel_rfl,by kernel_rfl⟩
 ·exact⟨by kernel_rfl,by kernel_rfl,by kernel_rfl,by kernel_rfl,by kernel_rfl,by kernel_rfl⟩
end
theorem zfD:BC X (.builtin "isinstance") zdU:=⟨_,zkn,fun ad H S ds vs Q0 Q st r ⟨x,t,b,e,h,q⟩ k=>by
 subst e
 obtain⟨v,u,rfl,rv,ru⟩:=zm6 r
 cases ru
 have fin:=k _ S _ H ad q Wd.refl st (.bl b)
 unfold znr at h
 split at h
 ·cases h
 rename_i hty
 have hty':zgc t=true:=by
  cases hh:zgc t
  ·exact absurd (by show (!zgc t)=true;rw [hh];rfl) hty
  ·rfl
 obtain⟨k1,k2,k3,k4,k5,k6⟩:=zlO (K:=X.K) t hty'
 cases rv with
 | non=>cases h;exact⟨_,_,_,_,rfl,.non,k1,fin⟩
 | bl c=>cases h;exact⟨_,_,_,_,rfl,.bl c,k2,fin⟩
 | int i=>cases h;exact⟨_,_,_,_,rfl,.int i,k3,fin⟩
 | str y=>cases h;exact⟨_,_,_,_,rfl,.str y,k4,fin⟩
 | ty n=>cases h
 | exn _ _ _=>cases h
 | tup ht rt=>cases h;exact⟨_,_,_,_,rfl,.tup ht,k5,fin⟩
 | rl hl rl=>cases h
 | @ref n a hn =>
  have h:(match S[n]? with | some (.lst _)=>some (t=="list") | _=>none)=some b:=h
  cases hS:S[n]? with
  | none=>rw [hS] at h;cases h
  | some c =>
   rw [hS] at h
   cases c with
   | ins c fs=>cases h
   | dk _=>cases h
   | dt _=>cases h
   | lst xs =>
    cases h
    obtain⟨vs,hv,_⟩:=st.cell n a _ hn hS
    exact⟨_,_,_,_,rfl,.lst hv,k6,fin⟩⟩
def MD (X:Cx)(id:String)(r':DM):Prop:=∃ r,MtR X id r/\∀ ad H S x ds v vs Q0 Q,zG X.K ad H S->Rel X.K ad H x v->zB X.K ad H ds vs->r' x ds S Q0->KK X.K ad H Q0 Q->r v vs H Q
theorem znx {K:PySem.W.Frag}{ad:List Addr}{H:Hp}{S:Sto}{x:D}{v:V}(st:zG K ad H S)(h:∃ n ys,x=.ref n/\S[n]?=some (.lst ys))(r:Rel K ad H x v):tyV K "list" v H:=by
 obtain⟨n,ys,rfl,h⟩:=h
 cases r with
 | ref e =>
  obtain⟨vs,hv,_⟩:=st.cell n _ _ e h
  exact .inl ⟨rfl,vs,SqL.of hv⟩
theorem zdi {o:Expr}{to:DE}{name:Str}{id:String}{apos cpos:Pos}{r':DM}(slot:Slot "list" name id)(hty:typeOf (.builtin id)=pure (.type "method_descriptor"))(hm:MD X id r')(ho:PD X o to)(ha:PAD X (e::es) t)
  (hbase:attributeBase o name X.env (eval o X.env)=eval o X.env:=by rfl)
  (hfew:((backTo cpos (starEach (e::es) X.env)).all (fun x=>!x.1)&&(backToKw cpos (keywordEach [] X.env)).all (fun x=>x.1.isSome)
  &&decide ((e::es).length+([]:List Keyword).length+(if ([]:List Keyword).isEmpty then 0 else 1)<30))=true:=by rfl)
  (hline:(apos.endLine==cpos.line)=true:=by rfl) (hs:starEach (e::es) X.env=(false,eval e X.env)::starEach es X.env:=by exact zaS rfl) (hplain:(backTo cpos (starEach es X.env)).any (·.1)=false:=by exact zb4 rfl) :
  PD X (.Call (.Attribute o name apos) (e::es) [] cpos) (dM r' to t):=by
 with_unfolding_all
  obtain⟨r,hr,od⟩:=hm
  exact zaC (zn6 PySem.F.plainAttrs_list slot hty hr ho ha hbase hfew hline hs hplain) fun σ H Q hh=>el8 hh fun ad ρ S Q0 st rh q k =>
   ⟨ad,ρ,S,_,st,rh,q,fun x S1 v H1 ad1 ⟨hl,q1⟩ w1 st1 r1=>⟨znx st1 hl r1,ad1,ρ,S1,_,st1,rh.wd w1,q1,fun ds S2 vs H2 ad2 q2 w2 st2 r2 =>
    od ad2 H2 S2 x ds v vs Q0 Q st2 (r1.wd w2) r2 q2 (k.wd (w1.trans w2))⟩⟩
theorem zaE:MD X "list.append" zaU:=⟨_,zgp,fun ad H S x ds v vs Q0 Q st rx r ⟨n,xs,y,ex,ey,hn,hl,q⟩ k=>by
 subst ex ey
 obtain⟨u,rfl,ru⟩:=zc6 r
 cases rx with
 | ref e =>
  obtain⟨ws,hw,rw⟩:=st.cell n _ _ e hn
  exact⟨_,ws,u,rfl,rfl,hw,by rw [<- rw.length];exact zjN hl,k _ _ _ _ ad q (Wd.put e hw) (st.put e hw (rw.append (.cons ru .nil))) .non⟩⟩
end
end Dp
namespace Dp
open PySem PySem.Spec PyProof.Rows L2 My
variable [B:Bs]
def zfo (K:PySem.W.Frag)(b:Nat)(g':DG)(g:TG):Prop:=∀ ad H S ρ σ d v Q0 Q,zG K ad H S->zag K ad H ρ σ->Rel K ad H d v->g' d ρ S Q0 ->
 (∀ ρ' S' σ' H' ad',Q0 ρ' S'->Wd ad H ad' H'->zG K ad' H' S'->zag K ad' H' ρ' σ'->σ'.length=σ.length->(∀ j,b<=j->σ'[j]?=σ[j]?)->Q σ' H')->g v σ H Q
def zfA (K:PySem.W.Frag)(b:Nat)(g':DGs)(g:TGs):Prop:=∀ ad H S ρ σ ds vs Q0 Q,zG K ad H S->zag K ad H ρ σ->zB K ad H ds vs->g' ds ρ S Q0 ->
 (∀ ρ' S' σ' H' ad',Q0 ρ' S'->Wd ad H ad' H'->zG K ad' H' S'->zag K ad' H' ρ' σ'->σ'.length=σ.length->(∀ j,b<=j->σ'[j]?=σ[j]?)->Q σ' H')->g vs σ H Q
def PGD (X:Cx)(b:Nat)(tg:Expr)(g':DG):Prop:=∃ g,PG X tg g/\zfo X.K b g' g
def ziB (X:Cx)(b:Nat)(tgs:List Expr)(g':DGs):Prop:=∃ g,PGs X tgs g/\zfA X.K b g' g
theorem zag.set {K:PySem.W.Frag}{ad:List Addr}{H:Hp}{ρ:Rho}{σ:L2.St}{d:D}{v:V}(h:zag K ad H ρ σ)(r:Rel K ad H d v)(i:Nat):zag K ad H (ρ.set i (some d)) (σ.set i (some v)) where
 len:=by rw [List.length_set,List.length_set];exact h.len
 val:=fun j e q=>by
  by_cases hj:j=i
  ·subst hj
   have hl:j<ρ.length:=by have:=My.zaG q;rw [List.length_set] at this;exact this
   rw [List.getElem?_set_self hl] at q
   cases q
   exact⟨v,List.getElem?_set_self (by rw [<- h.len];exact hl),r⟩
  ·rw [List.getElem?_set_ne (Ne.symm hj)] at q
   obtain⟨u,e1,r1⟩:=h.val j e q
   exact⟨u,by rw [List.getElem?_set_ne (Ne.symm hj)];exact e1,r1⟩
section
variable {X:Cx}{pos:Pos}{b:Nat}
theorem zX {K:PySem.W.Frag}(i:Nat)(hb:i<b):zfo K b (zE i) (L2.zE i):=fun ad H S ρ σ d v Q0 Q st rh r q k =>
 k _ S _ H ad q Wd.refl st (rh.set r i) (List.length_set ..) fun j hj=>List.getElem?_set_ne (by omega)
theorem zbl {i:Nat}{x:Str}(hN:X.N.Nodup)(hi:X.N[i]?=some x:=by rfl)(hx:Loc X.env.scope x:=by first | exact Or.inl rfl | exact Or.inr rfl)(hf:X.fn x=true\/X.env.scope.names.lookup x=some .local:=by first | exact .inl rfl | exact .inr rfl | assumption)(hb:i<b:=by decide):PGD X b (.Name x pos) (zE i) :=
 ⟨_,zai hN hi hx hf,zX i hb⟩
theorem zlw:ziB X b [] zd2:=⟨_,zgb,fun ad H S ρ σ ds vs Q0 Q st rh r ⟨e,q⟩ k=>by
 subst e
 cases r
 exact⟨rfl,k ρ S σ H ad q Wd.refl st rh rfl fun _ _=>rfl⟩⟩
theorem zfh {e:Expr}{es:List Expr}{t:DG}{u:DGs}(h1:PGD X b e t)(h2:ziB X b es u)(hs:(assignEach (e::es) X.env).map (·.2)=assign e X.env::(assignEach es X.env).map (·.2):=by rfl):ziB X b (e::es) (zbA t u):=by
 obtain⟨g1,p1,r1⟩:=h1
 obtain⟨g2,p2,r2⟩:=h2
 refine⟨_,zct p1 p2 hs,fun ad H S ρ σ ds vs Q0 Q st rh r ⟨d,rs,ed,q⟩ k=>?_⟩
 subst ed
 cases r with
 | cons r t =>
  refine⟨_,_,rfl,r1 ad H S ρ σ d _ _ _ st rh r q fun ρ1 S1 σ1 H1 ad1 q1 w1 st1 rh1 l1 a1=>?_⟩
  exact r2 ad1 H1 S1 ρ1 σ1 _ _ _ _ st1 rh1 (t.wd w1) q1 fun ρ2 S2 σ2 H2 ad2 q2 w2 st2 rh2 l2 a2=>k ρ2 S2 σ2 H2 ad2 q2 (w1.trans w2) st2 rh2 (l2.trans l1) fun j hj=>(a2 j hj).trans (a1 j hj)
theorem zlk {es:List Expr}{k n:Nat}{t:DGs}(hc:X.calm=true)(h:ziB X b es t)(hn:(assignEach es X.env).length=n:=by rfl)(hst:(assignEach es X.env).findIdx? (·.1)=none:=by rfl):PGD X b (.Tuple es k pos) (zdS n t):=by
 obtain⟨g,p,r⟩:=h
 refine⟨_,zhM hc p hn hst,fun ad H S ρ σ d v Q0 Q st rh rv ⟨xs,ed,hl,q⟩ k=>?_⟩
 subst ed
 cases rv with
 | tup h1 rs=>exact⟨_,_,rfl,SqT.of h1,by rw [<- rs.length];exact hl,r ad H S ρ σ xs _ _ _ st rh rs q k⟩
theorem zib {o i:Expr}{to ti:DE}(ho:PD X o to)(hi:PD X i ti)
  (ha:∀ v,assign (.Subscript o i pos) X.env v=(do
   let ov <- holding [v] (eval o X.env)
   let iv <- holding [v,ov] (eval i X.env)
   standAt pos
   holding [v,ov,iv] (setItem ov iv v)
   release [v,ov,iv] []):=by intro _;rfl):PGD X b (.Subscript o i pos) (zf4 to ti):=by with_unfolding_all exact (⟨_,zmX ho hi set_list ha,fun ad H S ρ σ d v Q0 Q st rh r q k=>⟨ad,ρ,S,_,st,rh,q,fun x S1 u H1 ad1 q1 w1 st1 r1=>⟨ad1,ρ,S1,_,st1,rh.wd w1,q1,fun y S2 z H2 ad2 q2 w2 st2 r2=>by
  obtain⟨n,xs,kk,j,ex,ey,hn,hj,q3⟩:=q2
  subst ex ey
  cases r2
  cases r1 with
  | ref e =>
   have e2:=zgl w2.pre e
   obtain⟨ws,hw,rw⟩:=st2.cell n _ _ e2 hn
   have rd:=r.wd (w1.trans w2)
   exact⟨_,ws,kk,j,rfl,rfl,hw,by rw [<- rw.length];exact hj,k ρ _ σ _ ad2 q3 ((w1.trans w2).trans (Wd.put e2 hw)) (st2.put e2 hw (rw.set rd j)) (rh.wd ((w1.trans w2).trans (Wd.put e2 hw))) rfl fun _ _=>rfl⟩⟩⟩⟩)
variable {st:Stmt}{sts:List Stmt}{t u:DS}{e:Expr}{te:DE}
theorem zU:zdA X [] zal:=by with_unfolding_all exact (zhC zli fun E σ H hh=>el8 hh fun ad ρ S E0 so rh q k=>k.nx ρ S σ H ad q Wd.refl so rh)
theorem zy (h:PSD X st t):zdA X [st] t:=by with_unfolding_all exact (zlN h)
theorem zq (h1:PSD X st t)(h2:zdA X sts u):zdA X (st::sts) (zH t u):=by with_unfolding_all exact (zhC (zjV h1 h2) fun E σ H hh=>el8 hh fun ad ρ S E0 so rh q k =>
 ⟨ad,ρ,S,{ E0 with nx:=u E0 },so,rh,q,⟨fun ρ' S' σ' H' ad' q' w st' rh'=>⟨ad',ρ',S',E0,st',rh',q',k.wd w⟩,k.rt,k.bk,k.ct⟩⟩)
theorem zaD:PSD X st zbw:=by with_unfolding_all exact (za5 zks fun E σ H hh=>el8 hh fun ad ρ S E0 so rh q k=>q)
theorem zaf (he:PD X e te)(hs:swapsWith e none pos.line X.env=pure false:=by rfl):PSD X (.Expr e pos) (zaQ te):=by with_unfolding_all exact (za5 (zln he hs) fun E σ H hh=>el8 hh fun ad ρ S E0 so rh q k =>
 ⟨ad,ρ,S,_,so,rh,q,fun d S' v H' ad' q' w st' r=>k.nx ρ S' σ H' ad' q' w st' (rh.wd w)⟩)
theorem zN (he:PD X e te):PSD X (.Return (some e) pos) (zaj te):=by with_unfolding_all exact (za5 (zne he) fun E σ H hh=>el8 hh fun ad ρ S E0 so rh q k=>⟨ad,ρ,S,_,so,rh,q,k.rt⟩)
theorem zgO (h:PSD X st t):PSD X st (sJ t):=by with_unfolding_all exact (za5 h fun E σ H ⟨ad,ρ,S,E0,so,rh,⟨J,hJ,q⟩,k⟩ =>
 ⟨ad,ρ,S,{ E0 with nx:=J },so,rh,q,⟨fun ρ' S' σ' H' ad' q' w st' rh'=>k.nx ρ' S' σ' H' ad' (hJ _ _ q') w st' rh',k.rt,k.bk,k.ct⟩⟩)
theorem zad {c:Expr}{a b:List Stmt}{tc:DT}(hc:PTD X c tc)(ha:zdA X a t)(hb:zdA X b u):PSD X (.If c a b pos) (sIf tc t u):=by with_unfolding_all exact (za5 (zom hc ha hb) fun E σ H hh=>el8 hh fun ad ρ S E0 so rh q k =>
 ⟨ad,ρ,S,_,so,rh,q,fun b S' H' ad' q' w st'=>by
  cases b with
  | true=>rw [if_pos rfl] at q' ⊢;exact⟨ad',ρ,S',E0,st',rh.wd w,q',k.wd w⟩
  | false=>rw [if_neg Bool.false_ne_true] at q' ⊢;exact⟨ad',ρ,S',E0,st',rh.wd w,q',k.wd w⟩⟩)
theorem zJ {i:Nat}{x:Str}{pos':Pos}(hN:X.N.Nodup)(he:PD X e te)(hi:X.N[i]?=some x:=by rfl)(hx:Loc X.env.scope x:=by first | exact Or.inl rfl | exact Or.inr rfl)(hs:swapsWith e (some (.Name x pos')) pos.line X.env=pure false:=by rfl)(hf:X.fn x=true\/X.env.scope.names.lookup x=some .local:=by first | exact .inl rfl | exact .inr rfl | assumption) :
  PSD X (.Assign [.Name x pos'] e pos) (zM te (zE i)):=by with_unfolding_all exact (za5 (zny hN hi hx he hs hf) fun E σ H hh=>el8 hh fun ad ρ S E0 so rh q k =>
 ⟨ad,ρ,S,_,so,rh,q,fun d S' v H' ad' q' w st' r=>k.nx _ S' _ H' ad' q' w st' ((rh.wd w).set r i)⟩)
theorem zif {tg:Expr}{g:DG}(he:PD X e te)(hg:PGD X 1000 tg g)(hs:swapsWithSole [tg] e pos.line X.env=pure false:=by rfl)(hw:swappedStores [tg] e X.env=pure none:=by rfl)
  (h1:(assignEach [tg] X.env).map (·.2)=[assign tg X.env]:=by rfl):PSD X (.Assign [tg] e pos) (zM te g):=by
 with_unfolding_all
  obtain⟨g',p,r⟩:=hg
  exact za5 (zmk he p hs hw h1) fun E σ H hh=>el8 hh fun ad ρ S E0 so rh q k =>
   ⟨ad,ρ,S,_,so,rh,q,fun d S' v H' ad' q' w st' rv=>r ad' H' S' ρ σ d v _ _ st' (rh.wd w) rv q' fun ρ2 S2 σ2 H2 ad2 q2 w2 st2 rh2 _ _=>k.nx ρ2 S2 σ2 H2 ad2 q2 (w.trans w2) st2 rh2⟩
theorem zld {i:Nat}{x:Str}{pos':Pos}(hN:X.N.Nodup)(he:PD X e te)(hi:X.N[i]?=some x:=by rfl)(hx:Loc X.env.scope x:=by first | exact Or.inl rfl | exact Or.inr rfl)(hf:X.fn x=true\/X.env.scope.names.lookup x=some .local:=by first | exact .inl rfl | exact .inr rfl | assumption) :
  PSD X (.AugAssign (.Name x pos') .Add e pos) (zj3 i te):=by with_unfolding_all exact (za5 (zme hN hi hx he zmw hf) fun E σ H ⟨ad,ρ,S,E0,so,rh,⟨a,ea,q⟩,k⟩=>by
 obtain⟨v,ev,rv⟩:=rh.val i _ ea
 cases rv
 refine⟨_,ev,ad,ρ,S,_,so,rh,q,fun d S' v H' ad' ⟨b,eb,q'⟩ w st' r=>?_⟩
 subst eb
 cases r
 exact⟨a,b,rfl,rfl,k.nx _ S' _ H' ad' q' w st' ((rh.wd w).set (.int _) i)⟩)
theorem zgo {c:Expr}{body:List Stmt}{tc:DT}(hc:PTD X c tc)(hb:zdA X body t)(hp:PassesOwn (model X.prog X.w) X.A X.env X.xe:=by first | exact PassesOwn.never | exact PassesOwn.leaving):PSD X (.While c body [] pos) (zfJ tc t):=by with_unfolding_all exact (za5 (zj1 hp hc hb) fun E σ H ⟨ad,ρ,S,E0,so,rh,⟨W,⟨m0,w0⟩,turn⟩,k⟩=>by
 refine⟨fun m σ' H'=>∃ ad' ρ' S',W m ρ' S'/\Wd ad H ad' H'/\zG X.K ad' H' S'/\zag X.K ad' H' ρ' σ',⟨m0,ad,ρ,S,w0,Wd.refl,so,rh⟩,?_⟩
 rintro m σ1 H1 ⟨ad1,ρ1,S1,w1,d1,st1,rh1⟩
 refine⟨ad1,ρ1,S1,_,st1,rh1,turn m ρ1 S1 w1,fun b S2 H2 ad2 q2 d2 st2=>?_⟩
 cases b with
 | true =>
  rw [if_pos rfl] at q2 ⊢
  obtain⟨N,hN,q2⟩:=q2
  refine⟨fun σ' H'=>∃ ad' ρ' S',N ρ' S'/\Wd ad H ad' H'/\zG X.K ad' H' S'/\zag X.K ad' H' ρ' σ',?_,ad2,ρ1,S2,{ E0 with nx:=N,ct:=N,bk:=E0.nx },st2,rh1.wd d2,q2,?_⟩
  ·rintro σ' H' ⟨ad',ρ',S',n',d',st',rh'⟩
   obtain⟨m',hm,w'⟩:=hN ρ' S' n'
   exact⟨m',hm,ad',ρ',S',w',d',st',rh'⟩
  ·have d12:=d1.trans d2
   exact⟨fun ρ' S' σ' H' ad' q' w' st' rh'=>⟨ad',ρ',S',q',d12.trans w',st',rh'⟩,k.rt.wd d12,fun ρ' S' σ' H' ad' q' w' st' rh'=>k.nx ρ' S' σ' H' ad' q' (d12.trans w') st' rh',fun ρ' S' σ' H' ad' q' w' st' rh'=>⟨ad',ρ',S',q',d12.trans w',st',rh'⟩⟩
 | false =>
  rw [if_neg Bool.false_ne_true] at q2 ⊢
  exact k.nx ρ1 S2 σ1 H2 ad2 q2 (d1.trans d2) st2 (rh1.wd d2))
end
structure zgT (K:PySem.W.Frag)(ad0:List Addr)(H0:Hp)(J0:DIt)(J:It):Prop where
 go:∀ ad H S i,Wd ad0 H0 ad H->zG K ad H S->J0.ok S->i<J0.items.length->J.go i H
 yld:∀ ad H S i d x H',Wd ad0 H0 ad H->zG K ad H S->J0.ok S->J0.items[i]?=some d->J.yld i H x H'->Wd ad H ad H'/\zG K ad H' S/\Rel K ad H' d x
 stop:∀ ad H S,Wd ad0 H0 ad H->zG K ad H S->J0.ok S->J.stop J0.items.length H
def upI (K:PySem.W.Frag)(wi:DI):TI:=fun σ H R=>∃ ad ρ S R0,zG K ad H S/\zag K ad H ρ σ/\wi ρ S R0/\∀ J0 S' J H' ad',R0 J0 S'->Wd ad H ad' H'->zG K ad' H' S'->zgT K ad' H' J0 J->R J H'
@[irreducible] def PID (X:Cx)(tg iter:Expr)(wi:DI):Prop:=PI X tg iter (upI X.K wi)
theorem zin {X:Cx}{tg iter:Expr}{w w':TI}(h:PI X tg iter w)(m:∀ σ H R,w' σ H R->w σ H R):PI X tg iter w':=fun pins s σ H R I q=>h pins s σ H R I (m σ H R q)
section
variable {X:Cx}{tg e:Expr}
def Its (z:Str):It:=⟨fun i _=>i<z.cps.size,fun i H x H'=>H'=H/\∃ c,z.cps[i]?=some c/\x=.str ⟨#[c]⟩,fun i _=>z.cps.size<=i⟩
theorem zjM {P:Program}{w:World}{K:PySem.W.Frag}{tg:Expr}(z:Str)(t:Tok)(it:Addr):Turn P w K tg (Its z) [it] it (fun i h=>h.IsStrIter it "str_ascii_iterator" z t i) where
 mem:=by simp
 obj:=fun i h st b hb=>by
  have e:b=it:=by simpa using hb
  subst e
  obtain⟨o,e,c,d⟩:=st
  exact⟨o,e,fun v y=>by rw [d] at y;cases y⟩
 keep:=fun i h h' st k=>let ⟨o,e,r⟩:=st;⟨o,k it (by simp) o e,r⟩
 item:=by
  intro X hP hw hK hc i pins s σ H E I hf st hg
  subst hP hw hK
  have hg:i<z.cps.size:=hg
  obtain⟨f0,f1,f2,f3,f4,f5⟩:=hf it (by simp)
  refine wpAny_pyNext_ascii_item st (c:=z.cps[i]) (by simp [hg]) fun h' st' sb=>?_
  have I1:Inv X pins σ H { s with heap:=h',toks:=s.toks+1 }:=I.turned (t':=s.toks+1) (fun b o hb e=>(sb.2 b hb).trans e) f0 f1 f3 f4 f5
  obtain⟨o,e,c,d⟩:=id st'
  exact⟨_,rfl,zeY (s:={ s with heap:=h',toks:=s.toks+1 }) e c d (by decide) ⟨.str ⟨#[z.cps[i]]⟩,H,I1,⟨_,rfl⟩,⟨rfl,z.cps[i],by simp [hg],rfl⟩,st',fun b hb=>(hf b hb).1⟩⟩
 done:=by
  intro X hP hw hK hc i pins s σ H E I hf st hg
  subst hP hw hK
  have hg:z.cps.size<=i:=hg
  obtain⟨f0,f1,f2,f3,f4,f5⟩:=hf it (by simp)
  exact wpAny_pyNext_ascii_end (I.ok.hd hc) st (by simp [hg]) fun h' eb=>⟨rfl,I.turned (t':=s.toks) (fun b o hb e=>eb b o hb e) f0 f1 f3 f4 f5⟩
 self:=fun _ _ _ _ _ st hQ=>wpAny_pyIter_striter_ascii st hQ
theorem zjS {P:Program}{w:World}{K:PySem.W.Frag}{tg:Expr}(z:Str)(t:Tok)(it:Addr):Turn P w K tg (Its z) [it] it (fun i h=>h.IsStrIter it "str_iterator" z t i) where
 mem:=by simp
 obj:=fun i h st b hb=>by
  have e:b=it:=by simpa using hb
  subst e
  obtain⟨o,e,c,d⟩:=st
  exact⟨o,e,fun v y=>by rw [d] at y;cases y⟩
 keep:=fun i h h' st k=>let ⟨o,e,r⟩:=st;⟨o,k it (by simp) o e,r⟩
 item:=by
  intro X hP hw hK hc i pins s σ H E I hf st hg
  subst hP hw hK
  have hg:i<z.cps.size:=hg
  obtain⟨f0,f1,f2,f3,f4,f5⟩:=hf it (by simp)
  refine wpAny_pyNext_wide_item st (c:=z.cps[i]) (by simp [hg]) fun h' st' sb=>?_
  have I1:Inv X pins σ H { s with heap:=h',toks:=s.toks+1 }:=I.turned (t':=s.toks+1) (fun b o hb e=>(sb.2 b hb).trans e) f0 f1 f3 f4 f5
  obtain⟨o,e,c,d⟩:=id st'
  exact⟨_,rfl,zeY (s:={ s with heap:=h',toks:=s.toks+1 }) e c d (by decide) ⟨.str ⟨#[z.cps[i]]⟩,H,I1,⟨_,rfl⟩,⟨rfl,z.cps[i],by simp [hg],rfl⟩,st',fun b hb=>(hf b hb).1⟩⟩
 done:=by
  intro X hP hw hK hc i pins s σ H E I hf st hg
  subst hP hw hK
  have hg:z.cps.size<=i:=hg
  obtain⟨f0,f1,f2,f3,f4,f5⟩:=hf it (by simp)
  exact wpAny_pyNext_wide_end (I.ok.hd hc) st (by simp [hg]) fun h' eb=>⟨rfl,I.turned (t':=s.toks) (fun b o hb e=>eb b o hb e) f0 f1 f3 f4 f5⟩
 self:=fun _ _ _ _ _ st hQ=>wpAny_pyIter_striter_wide st hQ
def zlU (K:PySem.W.Frag)(tl:TE):TI:=fun σ H R=>tl σ H fun x H1=>(∃ a,x=.ref a/\(((∃ xs,SqL K H1 a xs)/\R (Itl K a) H1)\/((∃ xs,SqT K H1 a xs)/\R (Itt K a) H1)))\/(∃ z,x=.str z/\R (Its z) H1)
theorem zjD {l:Expr}{tl:TE}(hl:PE X l tl):PI X tg l (zlU X.K tl):=by
  intro pins s σ H R I h
  refine thn (hl pins s σ H _ I h) fun v s1 ⟨x,H1,I1,r1,q1⟩=>?_
  rcases q1 with ⟨a,e,q1⟩ | ⟨z,e,q⟩
  case inr =>
    subst e
    obtain⟨t,rfl⟩:=r1
    have fp:∀ b∈[s1.heap.objs.size],zdT X pins H1 b:=fun b hb=>by
      have e:b=s1.heap.objs.size:=by simpa using hb
      subst e
      exact I1.fpOk (Nat.le_refl _) (I1.hok.fresh (Nat.le_refl _))
    cases ha:z.cps.all (· < 128) with
    | true=>exact wpAny_pyIter_ascii ha ⟨s1.heap.objs.size,[s1.heap.objs.size],_,_,H1,rfl,I1.kept (t':=s1.toks) fun b o e=>Heap.get?_push_of_some _ e,zjM z t _,⟨_,Heap.get?_push_size _ rfl,rfl,rfl⟩,fp,q⟩
    | false=>exact wpAny_pyIter_wide ha ⟨s1.heap.objs.size,[s1.heap.objs.size],_,_,H1,rfl,I1.kept (t':=s1.toks) fun b o e=>Heap.get?_push_of_some _ e,zjS z t _,⟨_,Heap.get?_push_size _ rfl,rfl,rfl⟩,fp,q⟩
  subst e
  cases r1
  rcases q1 with ⟨⟨xs,hq⟩,q⟩ | ⟨⟨xs,hq⟩,q⟩
  · obtain⟨its,rv,p,hz⟩:=I1.list hq
    refine wpAny_pyIter_list p.isList ?_
    refine⟨s1.heap.objs.size,[s1.heap.objs.size],_,_,H1,rfl,I1.kept (t':=s1.toks) fun b o e=>Heap.get?_push_of_some _ e,zjb a _,⟨_,Heap.get?_push_size _ rfl,rfl,rfl⟩,fun b hb=>?_,q⟩
    have e:b=s1.heap.objs.size:=by simpa using hb
    subst e
    exact I1.fpOk (Nat.le_refl _) (I1.hok.fresh (Nat.le_refl _))
  · obtain⟨its,rv,p,hz⟩:=I1.tuple hq
    refine wpAny_pyIter_tuple (show s1.heap.IsTuple a its.toArray from p) ?_
    refine⟨s1.heap.objs.size,[s1.heap.objs.size],_,_,H1,rfl,I1.kept (t':=s1.toks) fun b o e=>Heap.get?_push_of_some _ e,ziJ a _,⟨_,Heap.get?_push_size _ rfl,rfl,rfl⟩,fun b hb=>?_,q⟩
    have e:b=s1.heap.objs.size:=by simpa using hb
    subst e
    exact I1.fpOk (Nat.le_refl _) (I1.hok.fresh (Nat.le_refl _))
theorem znu {K:PySem.W.Frag}{ad:List Addr}{H:Hp}(z:Str):zgT K ad H ⟨signs z,fun _=>True⟩ (Its z) where
 go:=fun ad1 H1 S i w st _ hi=>by
  show i<z.cps.size
  have:i<(signs z).length:=hi
  unfold signs at this
  rw [List.length_map] at this
  simpa using this
 yld:=fun ad1 H1 S i d x H' w st _ hd ⟨e,c,hc,hx⟩=>by
  subst e hx
  have hd:(signs z)[i]?=some d:=hd
  unfold signs at hd
  rw [List.getElem?_map,Array.getElem?_toList,hc] at hd
  cases hd
  exact⟨Wd.refl,st,.str _⟩
 stop:=fun ad1 H1 S w st _=>by
  show z.cps.size<=(signs z).length
  unfold signs
  rw [List.length_map];simp
theorem znl {K:PySem.W.Frag}{ad:List Addr}{H:Hp}{a:Addr}{vs:List V}{ds:List D}(h:H a=some (.tup vs))(r:zB K ad H ds vs):zgT K ad H ⟨ds,fun _=>True⟩ (Itt K a) where
 go:=fun ad1 H1 S i w st _ hi=>⟨vs,vs[i]'(by rw [<- r.length];exact hi),SqT.of (w.tup _ _ h),List.getElem?_eq_getElem _⟩
 yld:=fun ad1 H1 S i d x H' w st _ hd ⟨e,hx⟩=>by
  subst e
  obtain⟨v,ev,rv⟩:=r.get hd
  rw [hx vs (SqT.of (w.tup _ _ h))] at ev
  cases ev
  exact⟨Wd.refl,st,rv.wd w⟩
 stop:=fun ad1 H1 S w st _=>⟨vs,SqT.of (w.tup _ _ h),by rw [<- r.length];exact Nat.le_refl _⟩
theorem zmg {K:PySem.W.Frag}{ad:List Addr}{H:Hp}{a:Addr}{x:D}{ds:List D}(r:Rel K ad H x (.ref a)):zgT K ad H ⟨ds,fun S=>Lst S x ds⟩ (Itl K a) where
 go:=fun ad1 H1 S i w st ok hi=>by
  obtain⟨a',vs,e,s,rs⟩:=Lst.sq st ok (r.wd w)
  cases e
  exact⟨vs,vs[i]'(by rw [<- rs.length];exact hi),s,List.getElem?_eq_getElem _⟩
 yld:=fun ad1 H1 S i d y H' w st ok hd ⟨e,hx⟩=>by
  subst e
  obtain⟨a',vs,e,s,rs⟩:=Lst.sq st ok (r.wd w)
  cases e
  obtain⟨v,ev,rv⟩:=rs.get hd
  rw [hx vs s] at ev
  cases ev
  exact⟨Wd.refl,st,rv⟩
 stop:=fun ad1 H1 S w st ok=>by
  obtain⟨a',vs,e,s,rs⟩:=Lst.sq st ok (r.wd w)
  cases e
  exact⟨vs,s,by rw [<- rs.length];exact Nat.le_refl _⟩
theorem za1 {t:DE}(h:PD X e t):PID X tg e (zbK t):=by with_unfolding_all exact (zin (zjD h) fun σ H R hh=>el8 hh fun ad ρ S R0 st rh q k =>
 ⟨ad,ρ,S,_,st,rh,q,fun x S1 v H1 ad1 q1 w1 st1 r1=>by
  rcases q1 with ⟨xs,rfl,q1⟩ | ⟨xs,hx,q1⟩ | ⟨z,rfl,q1⟩
  ·cases r1 with
   | tup h1 rs=>exact .inl ⟨_,rfl,.inr ⟨⟨_,SqT.of h1⟩,k _ S1 _ H1 ad1 q1 w1 st1 (znl h1 rs)⟩⟩
  ·obtain⟨a,vs,rfl,s,rs⟩:=hx.sq st1 r1
   exact .inl ⟨a,rfl,.inl ⟨⟨vs,s⟩,k _ S1 _ H1 ad1 q1 w1 st1 (zmg r1)⟩⟩
  ·cases r1
   exact .inr ⟨z,rfl,k _ S1 _ H1 ad1 q1 w1 st1 (znu z)⟩⟩)
theorem zj4 {lo:Int}{n i:Nat}{d:D}(h:(upto lo n)[i]?=some d):i<n/\d=.int (lo+i):=by
 unfold upto at h
 rw [List.getElem?_map] at h
 have hi:=My.zaG (xs:=List.range n) (i:=i) (x:=i)
 cases hr:(List.range n)[i]? with
 | none=>rw [hr] at h;cases h
 | some k =>
  rw [hr] at h
  have h1:=My.zaG hr
  rw [List.length_range] at h1
  have h2:(List.range n)[i]?=some i:=List.getElem?_range h1
  rw [hr] at h2
  cases h2
  cases h
  exact⟨h1,rfl⟩
theorem zhe (lo:Int)(n:Nat):(upto lo n).length=n:=by unfold upto;rw [List.length_map,List.length_range]
theorem zje {K:PySem.W.Frag}{ad:List Addr}{H:Hp}(lo:Int)(n:Nat):zgT K ad H ⟨upto lo n,fun _=>True⟩ (Itr lo n) where
 go:=fun ad1 H1 S i w st _ hi=>by rw [zhe] at hi;exact hi
 yld:=fun ad1 H1 S i d x H' w st _ hd ⟨e,hx⟩=>by
  subst e
  obtain⟨_,rfl⟩:=zj4 hd
  rw [hx]
  exact⟨Wd.refl,st,.int _⟩
 stop:=fun ad1 H1 S w st _=>by rw [zhe];exact Nat.le_refl _
theorem zjO {P:Program}{w:World}{K:PySem.W.Frag}{tg:Expr}(it:Addr)(lo:Int)(n:Nat):Turn P w K tg (Itr lo n) [it] it (fun i h=>IsLongIter h it (lo+(i:Nat)*1) ((n:Int)-(i:Nat)) 1) where
 mem:=by simp
 obj:=fun i h st b hb=>by
  have e:b=it:=by simpa using hb
  subst e
  exact⟨_,st,fun v z=>by
   have z':Data.fields _=Data.cell v:=z
   cases z'⟩
 keep:=fun i h h' st k=>k it (by simp) _ st
 item:=by
  intro X hP hw hK hc i pins s σ H E I hf st' hg
  subst hP hw hK
  obtain⟨f0,f1,f2,f3,f4,f5⟩:=hf it (by simp)
  have W:=Walks.longrange (prog:=X.prog) (w:=X.w) (I.ok.hd hc) it lo 1 n
  refine W.item i s _ _ hg st' fun v h' tk hv st'' kk=>?_
  obtain⟨t,rfl⟩:=hv
  have I1:Inv X pins σ H { s with heap:=h',toks:=tk }:=I.turned (fun b o hb e=>kk b o (by simpa using hb) e) f0 f1 f3 f4 f5
  rw [Int.mul_one]
  exact⟨_,rfl,zeY (s:={ s with heap:=h',toks:=tk }) (n:="longrange_iterator") st'' rfl rfl (by decide) ⟨.int (lo+i),H,I1,⟨t,rfl⟩,⟨rfl,rfl⟩,st'',fun b hb=>(hf b hb).1⟩⟩
 done:=by
  intro X hP hw hK hc i pins s σ H E I hf st' hg
  subst hP hw hK
  obtain⟨f0,f1,f2,f3,f4,f5⟩:=hf it (by simp)
  exact wpAny_pyNext_long_end (I.ok.hd hc) st' (by have:n<=i:=hg;omega) fun h' eb=>⟨rfl,I.turned (t':=s.toks) (fun b o hb e=>eb b o hb e) f0 f1 f3 f4 f5⟩
 self:=fun _ _ _ _ _ st h=>wpAny_pyIter_longiter st h
theorem range_any {pins:List (Addr×Obj)}{σ:L2.St}{H:Hp}{s:Shared}{R:It->Hp->Prop}{E:Value->Shared->Prop}{lo hi:Int}{t u v:Tok}{tk:Nat}(I:Inv X pins σ H s)
    (q:R (Itr lo (hi-lo).toNat) H):wpAny (model X.prog X.w) X.A (pyIter (.ref s.heap.objs.size)) (PIE X pins σ tg R) E { s with heap:=s.heap.push { cls:=.type "range",data:=.fields #[.int lo t,.int hi u,.int 1 v] },toks:=tk }:=by
  have I1:Inv X pins σ H { s with heap:=s.heap.push { cls:=.type "range",data:=.fields #[.int lo t,.int hi u,.int 1 v] },toks:=tk }:=I.kept fun b o e=>Heap.get?_push_of_some _ e
  have e1:lo+((0:Nat):Int)*1=lo:=by simp
  have e2:(((hi-lo).toNat:Nat):Int)-((0:Nat):Int)=Builtin.Range.rangeSize lo hi 1:=by rw [rangeSize_one];split<;>omega
  cases hsm:Builtin.Range.small lo hi 1 with
  | true =>
    refine wpAny_pyIter_range (IsRange.new ..) hsm ?_
    refine⟨(s.heap.push { cls:=.type "range",data:=.fields #[.int lo t,.int hi u,.int 1 v] }).objs.size,[(s.heap.push { cls:=.type "range",data:=.fields #[.int lo t,.int hi u,.int 1 v] }).objs.size],_,_,H,rfl,
      I1.kept (t':=tk) fun b o e=>Heap.get?_push_of_some _ e,zfw _ lo (hi-lo).toNat,?_,fun b hb=>?_,q⟩
    · show IsRangeIter _ _ (lo+((0:Nat):Int)*1) ((((hi-lo).toNat:Nat):Int)-((0:Nat):Int)) 1
      rw [e1,e2]
      exact Heap.get?_push_size _ rfl
    · have e:b=(s.heap.push { cls:=.type "range",data:=.fields #[.int lo t,.int hi u,.int 1 v] }).objs.size:=by simpa using hb
      subst e
      exact I1.fpOk (Nat.le_refl _) (I1.hok.fresh (Nat.le_refl _))
  | false =>
    refine wpAny_pyIter_longrange (IsRange.new ..) hsm ?_
    refine⟨(s.heap.push { cls:=.type "range",data:=.fields #[.int lo t,.int hi u,.int 1 v] }).objs.size,[(s.heap.push { cls:=.type "range",data:=.fields #[.int lo t,.int hi u,.int 1 v] }).objs.size],_,_,H,rfl,
      I1.kept (t':=tk) fun b o e=>Heap.get?_push_of_some _ e,zjO _ lo (hi-lo).toNat,?_,fun b hb=>?_,q⟩
    · show IsLongIter _ _ (lo+((0:Nat):Int)*1) ((((hi-lo).toNat:Nat):Int)-((0:Nat):Int)) 1
      rw [e1,e2]
      exact Heap.get?_push_size _ rfl
    · have e:b=(s.heap.push { cls:=.type "range",data:=.fields #[.int lo t,.int hi u,.int 1 v] }).objs.size:=by simpa using hb
      subst e
      exact I1.fpOk (Nat.le_refl _) (I1.hok.fresh (Nat.le_refl _))
theorem zdC {a:Expr}{t:DA}{p pos:Pos}(hm:X.mg "range"=none)(ha:PAD X [a] t)(hg:Gl X "range":=by rfl)(hs:starEach [a] X.env=[(false,eval a X.env)]:=by exact zdf rfl):PID X tg (.Call (.Name "range" p) [a] [] pos) (zcX t):=by with_unfolding_all exact (zin (zjv hg hm ha hs) fun σ H R hh=>el8 hh fun ad ρ S R0 st rh q k =>
 ⟨ad,ρ,S,_,st,rh,q,fun ds S1 vs H1 ad1 ⟨j,ed,b1,b2,q1⟩ w1 st1 r1=>by
  subst ed
  obtain⟨v,rfl,rv⟩:=zc6 r1
  cases rv
  exact⟨j,rfl,b1,b2,k _ S1 _ H1 ad1 q1 w1 st1 (zje 0 j.toNat)⟩⟩)
theorem zgg {a b:Expr}{t:DA}{p pos:Pos}(hm:X.mg "range"=none)(ha:PAD X [a,b] t)(hg:Gl X "range":=by rfl)(hs:starEach [a,b] X.env=[(false,eval a X.env),(false,eval b X.env)]:=by exact zkc rfl rfl)(hs2:starEach [b] X.env=[(false,eval b X.env)]:=by exact zdf rfl) :
  PID X tg (.Call (.Name "range" p) [a,b] [] pos) (zfs t):=by
 with_unfolding_all
  rintro pins s σ H R I ⟨ad,ρ,S,R0,st,rh,q,k⟩
  refine Call_ (zda I hg hm boot_range (PyProof.Rows.callWith_type1 (thn (ha pos pins s σ H (fun vs H1=>∃ i j:Int,vs=[.int i,.int j]/\R (Itr i (j-i).toNat) H1) I ⟨ad,ρ,S,_,st,rh,q,fun ds S1 vs H1 ad1 ⟨i,j,ed,q1⟩ w1 st1 r1=>by
   subst ed
   obtain⟨v,u,rfl,rv,ru⟩:=zm6 r1
   cases rv
   cases ru
   exact⟨i,j,rfl,k _ S1 _ H1 ad1 q1 w1 st1 (zje i _)⟩⟩) fun us s1 ⟨vs,H1,I1,r1,q1⟩=>?_) (by rw [hs,hs2]) (by rw [hs2];rfl)))
  obtain⟨i,j,e,q⟩:=q1
  subst e
  cases r1 with
  | cons r rr =>
   cases rr with
   | cons r' rr =>
    cases rr
    obtain⟨t,rfl⟩:=r
    obtain⟨t',rfl⟩:=r'
    exact call_range_2 (range_any I1 q)
theorem zcb {iter:Expr}{body:List Stmt}{wi:DI}{g:DG}{t:DS}{pos:Pos}(hi:PID X tg iter wi)(hg:PGD X 1000 tg g)(hb:zdA X body t)(hp:PassesOwn (model X.prog X.w) X.A X.env X.xe:=by first | exact PassesOwn.never | exact PassesOwn.leaving)(hc:X.calm=true:=by rfl)(hs:∀ x,foldedSetIterable iter X.env x=pure x:=by intro _;rfl):PSD X (.For tg iter body [] pos) (zds wi g t):=by
 with_unfolding_all
  obtain⟨g',pg,rg⟩:=hg
  refine za5 (znc hp hc hi pg hb hs) fun E σ H hh=>el8 hh fun ad ρ S E0 so rh q k=>?_
  refine⟨ad,ρ,S,_,so,rh,q,fun J0 S1 J H1 ad1 ⟨W,w0,hok,step,fin⟩ d1 st1 it=>?_⟩
  refine⟨fun i m σ' H'=>m=J0.items.length-i/\i<=J0.items.length/\∃ ad' ρ' S',W i ρ' S'/\Wd ad1 H1 ad' H'/\zG X.K ad' H' S'/\zag X.K ad' H' ρ' σ',⟨J0.items.length,rfl,Nat.zero_le _,ad1,ρ,S1,w0,Wd.refl,st1,rh.wd d1⟩,?_⟩
  rintro i m σ2 H2 ⟨rfl,hi2,ad2,ρ2,S2,w2,d2,st2,rh2⟩
  by_cases hlt:i<J0.items.length
  ·have ed:J0.items[i]?=some J0.items[i]:=List.getElem?_eq_getElem hlt
   refine .inr ⟨it.go ad2 H2 S2 i d2 st2 (hok _ _ _ w2) hlt,fun σ' H'=>∃ ad' ρ' S',W (i+1) ρ' S'/\Wd ad1 H1 ad' H'/\zG X.K ad' H' S'/\zag X.K ad' H' ρ' σ',?_,fun x H' hy=>?_⟩
   ·rintro σ' H' ⟨ad',ρ',S',w',d',st',rh'⟩
    exact⟨J0.items.length-(i+1),by omega,rfl,hlt,ad',ρ',S',w',d',st',rh'⟩
   ·obtain⟨d3,st3,r3⟩:=it.yld ad2 H2 S2 i _ x H' d2 st2 (hok _ _ _ w2) ed hy
    refine rg ad2 H' S2 ρ2 σ2 _ x _ _ st3 (rh2.wd d3) r3 (step i _ ρ2 S2 ed w2) fun ρ4 S4 σ4 H4 ad4 q4 d4 st4 rh4 _ _=>?_
    have d14:=(d2.trans d3).trans d4
    have d04:=d1.trans d14
    exact⟨ad4,ρ4,S4,{ E0 with nx:=W (i+1),ct:=W (i+1),bk:=E0.nx },st4,rh4,q4,⟨fun ρ' S' σ' H' ad' q' w' st' rh'=>⟨ad',ρ',S',q',d14.trans w',st',rh'⟩,k.rt.wd d04,fun ρ' S' σ' H' ad' q' w' st' rh'=>k.nx ρ' S' σ' H' ad' q' (d04.trans w') st' rh',fun ρ' S' σ' H' ad' q' w' st' rh'=>⟨ad',ρ',S',q',d14.trans w',st',rh'⟩⟩⟩
  ·have e:i=J0.items.length:=by omega
   subst e
   exact .inl ⟨it.stop ad2 H2 S2 d2 st2 (hok _ _ _ w2),k.nx ρ2 S2 σ2 H2 ad2 (fin ρ2 S2 w2) (d1.trans d2) st2 rh2⟩
end
theorem zhs:∀ {a b:L2.St} (n:Nat),(∀ j,j<n->a[j]?=some none\/a.length<=j)->b.length=a.length->(∀ j,n<=j->b[j]?=a[j]?)->Agr a b
 | [],[],_,_,_,_=>True.intro
 | [],_::_,_,_,h,_=>by simp at h
 | _::_,[],_,_,h,_=>by simp at h
 | x::a,y::b,n,h0,hl,h=>by
  have hl':b.length=a.length:=by simpa using hl
  cases n with
  | zero =>
   have e:=h 0 (Nat.le_refl _)
   have e':y=x:=by simpa using e
   subst e'
   have rest:Agr a b:=zhs 0 (fun j hj=>absurd hj (Nat.not_lt_zero _)) hl' fun j _=>by simpa using h (j+1) (Nat.zero_le _)
   cases y with
   | none=>exact rest
   | some v=>exact⟨rfl,rest⟩
  | succ n =>
   have rest:Agr a b:=zhs n (fun j hj=>by
    rcases h0 (j+1) (by omega) with e | e
    ·exact .inl (by simpa using e)
    ·exact .inr (by simpa using e)) hl' fun j hj=>by simpa using h (j+1) (by omega)
   rcases h0 0 (Nat.succ_pos _) with e | e
   ·have e':x=none:=by simpa using e
    subst e'
    exact rest
   ·simp at e
theorem zlm {K:PySem.W.Frag}{ad:List Addr}{H:Hp}{ρ:Rho}{σ:L2.St}(h:zag K ad H ρ σ)(own:List Str)(fv:List Nat):zag K ad H (zfb own.length fv ρ) (cst own fv σ) where
  len:=by unfold zfb cst;rw [List.length_append,List.length_append,List.length_replicate,List.length_replicate,List.length_map,List.length_map]
  val:=fun i d e=>by
    unfold zfb at e
    unfold cst
    by_cases hi:i<own.length
    · rw [List.getElem?_append_left (by rw [List.length_replicate];exact hi),List.getElem?_replicate] at e
      split at e<;>cases e
    · have hi':own.length<=i:=Nat.le_of_not_lt hi
      rw [List.getElem?_append_right (by rw [List.length_replicate];exact hi'),List.length_replicate,List.getElem?_map] at e
      rw [List.getElem?_append_right (by rw [List.length_replicate];exact hi'),List.length_replicate,List.getElem?_map]
      cases hf:fv[i-own.length]? with
      | none=>rw [hf] at e;cases e
      | some j =>
        rw [hf] at e
        simp only [Option.map_some,Option.some.injEq] at e ⊢
        cases hr:ρ[j]? with
        | none=>rw [hr] at e;cases e
        | some o =>
          rw [hr] at e
          have e':o=some d:=e
          subst e'
          obtain⟨v,ev,rv⟩:=h.val j d hr
          exact⟨v,by rw [ev];rfl,rv⟩
@[irreducible] def zko (X:Cx)(ifs:List Expr)(t:DT):Prop:=PFs X ifs (upT X.K t)
theorem zaA {X:Cx}:zko X [] zbc:=by with_unfolding_all exact (fun pins s σ H Q I hh=>el8 hh fun ad ρ S Q0 st rh q k=>znj pins s σ H Q I (k true S H ad q Wd.refl st))
theorem ofT {A B:Prop}(h:if true=true then A else B):A:=by rw [if_pos rfl] at h;exact h
theorem ofF {A B:Prop}(h:if false=true then A else B):B:=by rw [if_neg Bool.false_ne_true] at h;exact h
theorem zkI {K:PySem.W.Frag}{own:List Str}{fv:List Nat}{wi:DI}{g:DG}{g':TG}{tc:DT}{te:DE}(rg:zfo K own.length g g'){σ:L2.St}{H:Hp}{Q:VK}(h:up K (dLC own.length fv wi g tc te) σ H Q):tLC own fv (upI K wi) g' (upT K tc) (up K te) σ H Q:=by
 obtain⟨ad,ρ,S,Q0,so,rh,q,k⟩:=h
 refine⟨ad,ρ,S,_,so,rh,q,fun J0 S1 J H1 ad1 ⟨hbig,W,w0,hok,step,fin⟩ d1 st1 it=>?_⟩
 intro p hp
 refine⟨fun i m H'=>m=J0.items.length-i/\i<=J0.items.length/\∃ ad' S' ys vs,W i ys S'/\Wd ad1 H1 ad' H'/\zG K ad' H' S'/\p∉ad'/\H' p=some (.lst vs)/\zB K ad' H' ys vs/\vs.length<=i,
  ⟨J0.items.length,rfl,Nat.zero_le _,ad1,S1,[],[],w0,Wd.laid hp,st1.laid hp,st1.fresh hp,zbk,.nil,Nat.le_refl _⟩,?_⟩
 rintro i m H2 ⟨rfl,hi2,ad2,S2,ys,vs,w2,d2,st2,hp2,hv2,r2,hl2⟩
 by_cases hlt:i<J0.items.length
 ·have ed:J0.items[i]?=some J0.items[i]:=List.getElem?_eq_getElem hlt
  refine .inr ⟨it.go ad2 H2 S2 i d2 st2 (hok _ _ _ w2) hlt,fun x H' hy=>?_⟩
  obtain⟨d3,st3,r3⟩:=it.yld ad2 H2 S2 i _ x H' d2 st2 (hok _ _ _ w2) ed hy
  have rh3:=zlm (rh.wd ((d1.trans d2).trans d3)) own fv
  refine rg ad2 H' S2 _ _ _ x _ _ st3 rh3 r3 (step i _ ys S2 ed w2) fun ρ4 S4 σ4 H4 ad4 q4 d4 st4 rh4 l4 a4=>?_
  refine⟨zhs own.length (fun j hj=>.inl ?_) l4 a4,ad4,ρ4,S4,_,st4,rh4,q4,fun b S5 H5 ad5 q5 d5 st5=>?_⟩
  ·unfold cst
   rw [List.getElem?_append_left (by rw [List.length_replicate];exact hj),List.getElem?_replicate,if_pos hj]
  have fwd:∀ {ad9:List Addr} {H9:Hp},Wd ad2 H2 ad9 H9->p∉ad9/\H9 p=some (.lst vs):=fun {ad9 H9} w=>⟨(fun m=>by
   have z:=w.new p m hp2
   rw [hv2] at z;cases z),w.keep p _ hp2 hv2⟩
  have d25:=(d3.trans d4).trans d5
  cases b with
  | true =>
   refine zkp ?_
   have q5:=Dp.ofT q5
   refine⟨ad5,ρ4,S5,_,st5,rh4.wd d5,q5,fun y S6 v H6 ad6 q6 d6 st6 r6=>?_⟩
   have d26:=d25.trans d6
   obtain⟨n6,e6⟩:=fwd d26
   have hw:Wr ad6 H6 ad6 (upd H6 p (.lst (vs++[v]))):=Wr.hid e6
   have hvl:vs.length<sizeLine:=zjN (by omega)
   exact⟨vs,e6,hvl,J0.items.length-(i+1),by omega,rfl,hlt,ad6,S6,ys++[y],vs++[v],q6,(d2.trans d26).hid hp,st6.hid e6 n6 (st1.bfree hp),n6,zbk,zB.wr hw ((r2.wd d26).append (.cons r6 .nil)),by rw [List.length_append];exact Nat.succ_le_succ hl2⟩
  | false =>
   refine zkh ?_
   have q5:=Dp.ofF q5
   obtain⟨n5,e5⟩:=fwd d25
   exact⟨J0.items.length-(i+1),by omega,rfl,hlt,ad5,S5,ys,vs,q5,d2.trans d25,st5,n5,e5,r2.wd d25,by omega⟩
 ·have e:i=J0.items.length:=by omega
  subst e
  refine .inl ⟨it.stop ad2 H2 S2 d2 st2 (hok _ _ _ w2),?_⟩
  exact k _ _ _ _ (ad2++[p]) (fin ys S2 w2) (d1.trans (d2.add hp)) (st2.add hv2 hp2 r2 (st1.bfree hp)) (.ref (by rw [<- st2.len,List.getElem?_append_right (Nat.le_refl _),Nat.sub_self];rfl))
section
variable {X:Cx}{sc:Scope}{tg iter elt:Expr}{ifs:List Expr}{own free:List Str}{fv:List Nat}{wi:DI}{g:DG}{tc:DT}{te:DE}{pos:Pos}
theorem zb2 {g':TG}(hfr:zcz (fun x=>X.env.kindOf x=some .cell) sc.names)(hfv:zeu X sc free fv)(hi:PID X tg iter wi)
  (hg:zfo X.K own.length g g'/\∀ cl C s₀ H₀ ex,PG (inner X sc (own++free) cl C s₀ H₀ ex) tg g') (ht:∀ cl C s₀ H₀ ex,zko (inner X sc (own++free) cl C s₀ H₀ ex) ifs tc) (he:∀ cl C s₀ H₀ ex,PD (inner X sc (own++free) cl C s₀ H₀ ex) elt te) (hcalm:X.calm=true:=by rfl) (hxe:(X.xe=fun _ _=>False):=by rfl) (hkind:sc.kind=.function:=by rfl) (hcell:∀ y∈sc.names,y.2≠.cell:=by decide +kernel) (hnames:∀ y∈sc.names,y.2=.local->sc.names.lookup y.1=some .local:=by decide +kernel)
  (hs:∀ x,foldedSetIterable iter X.env x=pure x:=by intro _;rfl):PD X (.ListComp elt [⟨tg,iter,ifs,0⟩] sc pos) (dLC own.length fv wi g tc te):=by with_unfolding_all exact (zaC (znF (tc:=upT X.K tc) (te:=up X.K te) hcalm hxe hkind hcell hnames hfr hfv hi hg.2 ht he hs) fun _ _ _=>zkI hg.1)
theorem zfd {g':TG}{i:Nat}{y:Str}{py spos:Pos}(hN:X.N.Nodup)(hfr:zcz (fun x=>X.env.kindOf x=some .cell) sc.names)(hfv:zeu X sc free fv)(hi:PID X tg iter wi)
  (hg:zfo X.K own.length g g'/\∀ cl C s₀ H₀ ex,PG (inner X sc (own++free) cl C s₀ H₀ ex) tg g') (ht:∀ cl C s₀ H₀ ex,zko (inner X sc (own++free) cl C s₀ H₀ ex) ifs tc) (he:∀ cl C s₀ H₀ ex,PD (inner X sc (own++free) cl C s₀ H₀ ex) elt te) (hy:X.N[i]?=some y:=by rfl) (hyl:X.env.scope.names.lookup y=some .local:=by rfl) (hcalm:X.calm=true:=by rfl) (hxe:(X.xe=fun _ _=>False):=by rfl) (hkind:sc.kind=.function:=by rfl) (hcell:∀ y∈sc.names,y.2≠.cell:=by decide +kernel) (hnames:∀ y∈sc.names,y.2=.local->sc.names.lookup y.1=some .local:=by decide +kernel)
  (hsw:swapsWith (.ListComp elt [⟨tg,iter,ifs,0⟩] sc pos) (some (.Name y py)) spos.line X.env=pure true:=by rfl)
  (hs:∀ x,foldedSetIterable iter X.env x=pure x:=by intro _;rfl):PSD X (.Assign [.Name y py] (.ListComp elt [⟨tg,iter,ifs,0⟩] sc pos) spos) (zM (dLC own.length fv wi g tc te) (zE i)):=by with_unfolding_all exact (za5 (zlK (tc:=upT X.K tc) (te:=up X.K te) hN hy hyl hcalm hxe hkind hcell hnames hfr hfv hi hg.2 ht he hsw hs) fun E σ H hh=>el8 hh fun ad ρ S E0 so rh q k =>
  zkI (Q:=fun x H1=>L2.zE i x σ H1 E.nx) hg.1 ⟨ad,ρ,S,_,so,rh,q,fun d S' v H' ad' q' w st' r=>k.nx _ S' _ H' ad' q' w st' ((rh.wd w).set r i)⟩)
theorem zgA {K:PySem.W.Frag}{b:Nat}:zfA K b zd2 L2.zd2:=fun ad H S ρ σ ds vs Q0 Q st rh r ⟨e,q⟩ k=>by
 subst e
 cases r
 exact⟨rfl,k ρ S σ H ad q Wd.refl st rh rfl fun _ _=>rfl⟩
theorem zck {K:PySem.W.Frag}{b:Nat}{t:DG}{u:DGs}{t':TG}{u':TGs}(r1:zfo K b t t')(r2:zfA K b u u'):zfA K b (zbA t u) (L2.zbA t' u'):=fun ad H S ρ σ ds vs Q0 Q st rh r ⟨d,rs,ed,q⟩ k=>by
 subst ed
 cases r with
 | cons r t =>
  refine⟨_,_,rfl,r1 ad H S ρ σ d _ _ _ st rh r q fun ρ1 S1 σ1 H1 ad1 q1 w1 st1 rh1 l1 a1=>?_⟩
  exact r2 ad1 H1 S1 ρ1 σ1 _ _ _ _ st1 rh1 (t.wd w1) q1 fun ρ2 S2 σ2 H2 ad2 q2 w2 st2 rh2 l2 a2=>k ρ2 S2 σ2 H2 ad2 q2 (w1.trans w2) st2 rh2 (l2.trans l1) fun j hj=>(a2 j hj).trans (a1 j hj)
theorem zgZ {K:PySem.W.Frag}{b n:Nat}{t:DGs}{t':TGs}(r:zfA K b t t'):zfo K b (zdS n t) (L2.zdS K n t'):=fun ad H S ρ σ d v Q0 Q st rh rv ⟨xs,ed,hl,q⟩ k=>by
 subst ed
 cases rv with
 | tup h1 rs=>exact⟨_,_,rfl,SqT.of h1,by rw [<- rs.length];exact hl,r ad H S ρ σ xs _ _ _ st rh rs q k⟩
end
theorem zhq {K:PySem.W.Frag}{ad:List Addr}{H:Hp}{ds:List D}{vs:List V}(N:List Str)(r:zB K ad H ds vs):zag K ad H (zcO N.length ds) (L2.start N vs) where
  len:=by unfold zcO L2.start;rw [List.length_append,List.length_append,List.length_map,List.length_map,List.length_replicate,List.length_replicate,r.length]
  val:=fun i d e=>by
    unfold zcO at e
    unfold L2.start
    by_cases hi:i<ds.length
    · rw [List.getElem?_append_left (by rw [List.length_map];exact hi),List.getElem?_map] at e
      rw [List.getElem?_append_left (by rw [List.length_map,<- r.length];exact hi),List.getElem?_map]
      cases hd:ds[i]? with
      | none=>rw [hd] at e;cases e
      | some d' =>
        rw [hd] at e
        cases e
        obtain⟨v,ev,rv⟩:=r.get hd
        exact⟨v,by rw [ev];rfl,rv⟩
    · rw [List.getElem?_append_right (by rw [List.length_map];exact Nat.le_of_not_lt hi),List.getElem?_replicate] at e
      split at e<;>cases e
theorem zB.cut1 {K:PySem.W.Frag}{ad ad':List Addr}{H:Hp}(k:Nat)(h1:∀ d v,fl k d=true->Rel K ad H d v->Rel K ad' H d v):∀ ds vs,ds.all (fl k)=true->zB K ad H ds vs->zB K ad' H ds vs:=by
 intro ds
 induction ds with
 | nil=>intro vs _ r;cases r;exact .nil
 | cons d ds ih =>
  intro vs hf r
  rw [List.all_cons,Bool.and_eq_true] at hf
  cases r with
  | cons r t=>exact .cons (h1 d _ hf.1 r) (ih _ hf.2 t)
theorem Rel.cut {K:PySem.W.Frag}{ad ad':List Addr}{H:Hp}:∀ (k:Nat) (d:D) (v:V),fl k d=true->Rel K ad H d v->Rel K ad' H d v:=by
 intro k
 induction k with
 | zero =>
  intro d v hf r
  cases r with
  | non=>exact .non
  | bl b=>exact .bl b
  | int i=>exact .int i
  | str x=>exact .str x
  | ty n=>cases hf
  | tup h r=>cases hf
  | rl h r=>cases hf
  | ref h=>cases hf
  | exn _ _ _=>cases hf
 | succ k ih =>
  intro d v hf r
  cases r with
  | non=>exact .non
  | bl b=>exact .bl b
  | int i=>exact .int i
  | str x=>exact .str x
  | ty n=>cases hf
  | tup h r=>exact .tup h (zB.cut1 k ih _ _ hf r)
  | rl h r=>cases hf
  | ref h=>cases hf
  | exn _ _ _=>cases hf
theorem zB.cut {K:PySem.W.Frag}{ad ad':List Addr}{H:Hp}(k:Nat)(ds:List D)(vs:List V)(hf:ds.all (fl k)=true)(r:zB K ad H ds vs):zB K ad' H ds vs:=zB.cut1 k (Rel.cut k) ds vs hf r
end Dp
namespace Dp
open PySem PySem.Spec PyProof.Rows L2 My
variable [B:Bs]
mutual
theorem Rel.low {K:PySem.W.Frag}{ad ad':List Addr}{H H':Hp}{m:Nat}(hm:ad.length<=m):∀ {d:D} {u v:V},Rel K ad H d u->Rel K ad' H' d v->Rel K (ad'.take m) H' d v
 | _,_,_,.non,.non=>.non
 | _,_,_,.bl b,.bl _=>.bl b
 | _,_,_,.int i,.int _=>.int i
 | _,_,_,.str x,.str _=>.str x
 | _,_,_,.ty n,.ty _=>.ty n
 | _,_,_,.tup _ r,.tup h r'=>.tup h (zB.low hm r r')
 | _,_,_,.rl _ r,.rl h r'=>.rl h (zB.low hm r r')
 | _,_,_,.exn _ _ _,.exn h e n=>.exn h e n
 | _,_,_,.ref h,.ref h'=>.ref (by rw [List.getElem?_take_of_lt (Nat.lt_of_lt_of_le (My.zaG h) hm)];exact h')
theorem zB.low {K:PySem.W.Frag}{ad ad':List Addr}{H H':Hp}{m:Nat}(hm:ad.length<=m):∀ {ds:List D} {us vs:List V},zB K ad H ds us->zB K ad' H' ds vs->zB K (ad'.take m) H' ds vs
 | _,_,_,.nil,.nil=>.nil
 | _,_,_,.cons r t,.cons r' t'=>.cons (Rel.low hm r r') (zB.low hm t t')
end
theorem zam.low {K:PySem.W.Frag}{ad ad':List Addr}{H H':Hp}{m:Nat}(hm:ad.length<=m):∀ {fs:List (Str×D)} {us vs:List (Str×V)},zam K ad H fs us->zam K ad' H' fs vs->zam K (ad'.take m) H' fs vs
 | _,_,_,.nil,.nil=>.nil
 | _,_,_,.cons r t,.cons r' t'=>.cons (Rel.low hm r r') (zam.low hm t t')
theorem RelK.low {K:PySem.W.Frag}{ad ad':List Addr}{H H':Hp}{m:Nat}(hm:ad.length<=m):∀ {fs:List (Str×D)} {us vs:List (Key×V)},RelK K ad H fs us->RelK K ad' H' fs vs->RelK K (ad'.take m) H' fs vs
 | _,_,_,.nil,.nil=>.nil
 | _,_,_,.cons r t,.cons r' t'=>.cons (Rel.low hm r r') (RelK.low hm t t')
theorem zb5.low {K:PySem.W.Frag}{ad ad':List Addr}{H H':Hp}{m:Nat}(hm:ad.length<=m):∀ {fs:List (List Key×D)} {us vs:List (List Key×V)},zb5 K ad H fs us->zb5 K ad' H' fs vs->zb5 K (ad'.take m) H' fs vs
 | _,_,_,.nil,.nil=>.nil
 | _,_,_,.cons r t,.cons r' t'=>.cons (Rel.low hm r r') (zb5.low hm t t')
theorem zfE {K:PySem.W.Frag}{ad:List Addr}{H:Hp}{S:Sto}{Q0:DK}{Q:VK}(st:zG K ad H S)(k:KK K ad H Q0 Q):KK K ad H (Fin S Q0) Q:=by
 intro d S' v H' ad' hf w st' r
 rcases hf with q | ⟨S1,pre,hlen,hd,hc,q⟩
 ·exact k d S' v H' ad' q w st' r
 have hS:S1.length<=S'.length:=pre.length_le
 have had:ad.length<=S1.length:=by rw [st.len];exact hlen
 have htk:∀ {n:Nat} {a:Addr},(ad'.take S1.length)[n]?=some a->ad'[n]?=some a:=fun {n a} e=>by
  have hn:=My.zaG e
  rw [List.length_take] at hn
  rw [List.getElem?_take_of_lt (by omega)] at e
  exact e
 have w1:Wd ad H (ad'.take S1.length) H':=by
  refine⟨?_,w.keep,w.tup,w.frz,fun b m n=>w.new b (List.mem_of_mem_take m) n⟩
  obtain⟨t,rfl⟩:=w.pre
  rw [List.take_append,List.take_of_length_le had]
  exact List.prefix_append _ _
 refine k d S1 v H' _ q w1 ⟨st.wd.trans w1,by rw [List.length_take,st'.len];omega,st'.nd.sublist (List.take_sublist _ _),fun n a c e1 e2=>?_⟩ ?_
 ·have e1':=htk e1
  have ok:=st'.cell n a c e1' (zgl pre e2)
  rcases hc n c e2 with h | h
  ·obtain⟨a0,ea,ok0⟩:=st.get h
   cases c with
   | ins c fs =>
    obtain⟨C,dx,vs,hv,c1,c2,rv,hn⟩:=ok
    obtain⟨_,_,us,_,_,_,ru,_⟩:=ok0
    exact⟨C,dx,vs,hv,c1,c2,zam.low had ru rv,hn⟩
   | dk kvs =>
    obtain⟨vs,hv,rv⟩:=ok
    obtain⟨us,hu,ru⟩:=ok0
    exact⟨vs,hv,RelK.low had ru rv⟩
   | dt kvs =>
    obtain⟨vs,hv,rv⟩:=ok
    obtain⟨us,hu,ru⟩:=ok0
    exact⟨vs,hv,zb5.low had ru rv⟩
   | lst xs =>
    obtain⟨vs,hv,rv⟩:=ok
    obtain⟨us,hu,ru⟩:=ok0
    exact⟨vs,hv,zB.low had ru rv⟩
  ·cases c with
   | ins c fs=>cases h
   | dk _=>cases h
   | dt _=>cases h
   | lst xs =>
    obtain⟨vs,hv,rv⟩:=ok
    exact⟨vs,hv,zB.cut 20 _ _ h rv⟩
 ·rcases hd with h | ⟨n,rfl,hn⟩
  ·exact Rel.cut 20 _ _ h r
  ·cases r with
   | ref e=>exact .ref (by rw [List.getElem?_take_of_lt hn];exact e)
omit B in
theorem zO {P:Program}{w:World}{K:PySem.W.Frag}{mg:Str->Option Value}{base:Heap}{x qual:Str}{st:Stmt}{f:Addr}{fd:FuncData}{N ps:List Str}{k:Nat}{sp:DSp}{b:DS}(F:Fun K x qual st f fd)(S:zL N ps (zF st))
  (len:∀ ds So Q,sp ds So Q->ds.length=ps.length) (body:BodyOk N.length b sp)
  (term:∀ (cdv:Value) (A:Around) (outer:List Env) (s:Shared) (H:Hp) (E:XK),zan k (A.deeper (envOfC qual (zF st) s.heap.objs.size f cdv))->∀ [Bs],zdA (zdn CX0 P w K mg base N qual (zF st) f cdv A outer s H E).nox (zaz st) b) :
  zP P w K mg base CX0 (k+1) f fd ps (upF K sp):=by
 with_unfolding_all
  refine F.ok S (fun vs H Q E ⟨ad,So,ds,Q0,so,r,hf,kk⟩=>by rw [<- r.length];exact len ds So Q0 hf) fun cdv A outer s H vs Q E hr ⟨ad,So,ds,Q0,so,r,hf,kk⟩=>?_
  letI:Bs:=⟨ad,H⟩
  refine⟨_,term cdv A outer s H E hr,ad,zcO N.length ds,So,_,so,zhq N r,body ds So Q0 hf,⟨fun ρ S' σ H' ad' q w' st' rh=>zfE so kk .non S' .non H' ad' q w' st' .non,zfE so kk,fun _ _ _ _ _ q=>q.elim,fun _ _ _ _ _ q=>q.elim⟩⟩
omit B in
theorem zmq {K:PySem.W.Frag}{H:Hp}{a:Addr}{ns:List Int}(hl:ns.length<=63)(hg:∀ n∈ns,Hg n)(hO:Only H)(hS:SqL K H a (ns.map V.int)):upF K zc8 [.ref a] H (fun v _=>v=.bl true) fun _ _ _=>False:=by
 have hr:ze7 K H a (ns.map V.int):=by
  rcases hS with (h | h) | h
  ·rcases hO a with e | ⟨o,xs,e⟩
   ·rw [h] at e;cases e
   ·rw [h] at e;cases e
  ·exact .inl h
  ·exact .inr h
 refine⟨[],[],[.rl (ns.map D.int)],fun d _=>d=.bl true,@zG.mk ⟨[],H⟩ _ _ _ _ Wd.refl rfl List.nodup_nil (fun n a c e=>by simp at e),.cons (.rl hr (zB.mk_ints ns)) .nil,⟨ns,rfl,⟨rfl,hg⟩,hl,fun _=>rfl⟩,fun d S' v H' ad' q w st' r=>?_⟩
 have q':d=.bl true:=q
 subst q'
 cases r
 rfl
omit B in
theorem zgW:∀ {ns:List Int} {n:Int},n∈ns->PySem.W.WData.weight (.int n)<=PySem.W.WData.weightAll (ns.map PySem.W.WData.int)
 | m::ns,n,h=>by
  rw [List.map_cons,PySem.W.WData.weightAll]
  rcases List.mem_cons.mp h with rfl | h
  ·omega
  ·have:=zgW h;omega
omit B in
theorem zkv {l:PySem.W.OpenLaw}{n k:Nat}{q:Program}{loose:List Str}{XP:(Str->Option Value)->Heap->Prop}{YP:World->Heap->Prop}{d:DefRec}{K:Params->PySem.W.Frag}{sp:World->Sp}{x:Str}
  (hn:l.most=some n) (hn2:n<=sizeLine) (hdf:d.params.defaults=[]) (hr:zan k callerA) (hY:∀ (w:World) (h:Heap),YP w h->(K w.params).In h)
  (F:∀ (w:World) (mg:Str->Option Value) (fa:Addr) (h:Heap),(K w.params).In h->h.Ns mainGlobals mg->mg d.name=some (.ref fa) ->
   ∃ fd:FuncData,(∀ (s:Shared) (u:Value),BindsTo s fd ⟨[u],[]⟩ [(x,u)])/\∀ base:Heap,(K w.params).In base->base.Ns mainGlobals mg->zP l.prog w (K w.params) mg base CX0 k fa fd [x] (sp w))
  (hsp:∀ (w:World) (H:Hp) (a:Addr) (ns:List Int),ns.length<=n->(∀ m∈ns,Hg m)->Only H->SqL (K w.params) H a (ns.map V.int)->sp w [.ref a] H (fun v _=>v=.bl true) fun _ _ _=>False) :
  PySem.W.WalkO q loose XP YP l.row.toRowW d [] (fun f vs=>PySem.call f vs):=by
 intro w s₀ s₁ mg mb G Y fa o pm cd doc dV kV ho hd hcd hD hmg hg args vals as hpre hlay hrd hwl hlo
 obtain rfl:dV=.none:=PySem.W.Dflts.none hD hdf
 obtain rfl:kV=.none:=PySem.W.Dflts.noKw hD
 obtain⟨a,vs,ns,rfl,rfl,hobj,hints,hlen⟩:=Att.zi8 hn hpre hwl
 have hbits:∀ m∈ns,Hg m:=fun m hm=>by
  have h1:PySem.W.WData.layable (.list (ns.map .int))=true:=by simpa [PySem.W.WData.layableAll] using hlay
  have h2:PySem.W.WData.weight (.list (ns.map PySem.W.WData.int))<=2 ^ 20:=by
   unfold PySem.W.WData.layable at h1
   rw [Bool.and_eq_true,decide_eq_true_eq] at h1
   exact h1.2
  have h3:=Nat.le_trans (zgW hm) (by simpa only [PySem.W.WData.weight] using h2)
  exact zlc (by simpa only [PySem.W.WData.weight,Builtin.Int.intBits] using h3)
 have KX:=hY w _ Y
 obtain⟨fd,hb,hF⟩:=F w mg fa _ KX G.T.g hmg
 refine PySem.W.enter_call (codeAny_mono (zkF KX G.T.g G.T.b G.T.builtins G.T.nolimit hg hobj hints (Nat.le_trans hlen hn2) hr hF hb (fun H hO hS=>hsp w H a ns hlen hbits hO hS) fun _ _ _ z=>z) fun r s' hq=>?_)
 obtain⟨rfl,h2,h3,h4⟩:=hq
 exact⟨.inl ⟨.bool true,.bool true,[],rfl,fun _=>rfl,.bool true,Att.zjQ l _,fun _=>⟨List.Pairwise.nil,fun _ hm=>(nomatch hm)⟩⟩,h2,h3,h4⟩
omit B in
theorem zkQ {us:List Value}(hl:us.length=1):∃ a0,us=[a0]:=by
  cases us with
  | nil=>simp at hl
  | cons a0 us =>
  cases us with
  | nil=>exact⟨a0,rfl⟩
  | cons b us=>simp at hl
omit B in
theorem ziD {us:List Value}(hl:us.length=2):∃ a0 a1,us=[a0,a1]:=by
  cases us with
  | nil=>simp at hl
  | cons a0 us =>
  cases us with
  | nil=>simp at hl
  | cons a1 us =>
  cases us with
  | nil=>exact⟨a0,a1,rfl⟩
  | cons b us=>simp at hl
omit B in
theorem zkS {us:List Value}(hl:us.length=3):∃ a0 a1 a2,us=[a0,a1,a2]:=by
  cases us with
  | nil=>simp at hl
  | cons a0 us =>
  cases us with
  | nil=>simp at hl
  | cons a1 us =>
  cases us with
  | nil=>simp at hl
  | cons a2 us =>
  cases us with
  | nil=>exact⟨a0,a1,a2,rfl⟩
  | cons b us=>simp at hl
omit B in
theorem zkO {us:List Value}(hl:us.length=4):∃ a0 a1 a2 a3,us=[a0,a1,a2,a3]:=by
  cases us with
  | nil=>simp at hl
  | cons a0 us =>
  cases us with
  | nil=>simp at hl
  | cons a1 us =>
  cases us with
  | nil=>simp at hl
  | cons a2 us =>
  cases us with
  | nil=>simp at hl
  | cons a3 us =>
  cases us with
  | nil=>exact⟨a0,a1,a2,a3,rfl⟩
  | cons b us=>simp at hl
omit B in
theorem zkY {us:List Value}(hl:us.length=5):∃ a0 a1 a2 a3 a4,us=[a0,a1,a2,a3,a4]:=by
  cases us with
  | nil=>simp at hl
  | cons a0 us =>
  cases us with
  | nil=>simp at hl
  | cons a1 us =>
  cases us with
  | nil=>simp at hl
  | cons a2 us =>
  cases us with
  | nil=>simp at hl
  | cons a3 us =>
  cases us with
  | nil=>simp at hl
  | cons a4 us =>
  cases us with
  | nil=>exact⟨a0,a1,a2,a3,a4,rfl⟩
  | cons b us=>simp at hl
omit B in
theorem zoJ {us:List Value}(hl:us.length=8):∃ a0 a1 a2 a3 a4 a5 a6 a7,us=[a0,a1,a2,a3,a4,a5,a6,a7]:=by
  cases us with
  | nil=>simp at hl
  | cons a0 us =>
  cases us with
  | nil=>simp at hl
  | cons a1 us =>
  cases us with
  | nil=>simp at hl
  | cons a2 us =>
  cases us with
  | nil=>simp at hl
  | cons a3 us =>
  cases us with
  | nil=>simp at hl
  | cons a4 us =>
  cases us with
  | nil=>simp at hl
  | cons a5 us =>
  cases us with
  | nil=>simp at hl
  | cons a6 us =>
  cases us with
  | nil=>simp at hl
  | cons a7 us =>
  cases us with
  | nil=>exact⟨a0,a1,a2,a3,a4,a5,a6,a7,rfl⟩
  | cons b us=>simp at hl
end Dp
namespace Dp
open PySem PySem.Spec PyProof.Rows L2 My
variable [B:Bs]
section
variable {X:Cx}
end
section
variable {X:Cx}{a b:Expr}{ta tb:DE}{pos:Pos}
theorem zgR (x:D)(hx:fl 20 x=true):∀ ys:List D,ys.all (fl 20)=true->((zab ys).any fun z=>PyData.eqv z (pyD x))=ys.any fun z=>eqv z x
 | [],_=>rfl
 | y::ys,h=>by
  rw [List.all_cons,Bool.and_eq_true] at h
  show (PyData.eqv (pyD y) (pyD x)||(zab ys).any fun z=>PyData.eqv z (pyD x))=_
  rw [zha 20 y x h.1 hx,zgR x hx ys h.2]
  rfl
def zpo (X:Cx)(g:Bool->Bool):R2:=fun x y H Q=>∃ ad S dx dy b,zG X.K ad H S/\Rel X.K ad H dx x/\Rel X.K ad H dy y/\InD S dx dy b/\Q (.bl (g b)) H
theorem zjK {pins:List (Addr×Obj)}{σ:L2.St}{H:Hp}{s:Shared}{ad:List Addr}{S:Sto}{dx dy:D}{x y:V}{v u:Value}{b:Bool}(I:Inv X pins σ H s)(st:zG X.K ad H S)(rx:Rel X.K ad H dx x)(ry:Rel X.K ad H dy y)(qx:RelV x v)(qy:RelV y u)(h:InD S dx dy b) :
  ∃ pd ps as bs,Reads s.heap v pd as/\(Reads s.heap u (.list ps) bs\/Reads s.heap u (.tuple ps) bs)/\pd.canLay0=true/\PyData.canLayAll0 ps=true/\min (PyData.depthAll ps) pd.depth<=60/\(ps.any fun z=>PyData.eqv z pd)=b:=by
 obtain⟨ys,hy,fx,fy,rfl⟩:=h
 obtain⟨as,ra⟩:=zbH I 20 dx x v fx rx qx
 obtain⟨c1,d1⟩:=zdW 20 dx fx
 obtain⟨c2,d2⟩:=zcK 20 ys fy
 rcases hy with rfl | hy
 ·obtain⟨bs,rb⟩:=zbH I 21 (.tup ys) y u fy ry qy
  exact⟨pyD dx,zab ys,as,bs,ra,.inr rb,c1,c2,by omega,zgR dx fx ys fy⟩
 ·obtain⟨a2,vs2,rfl,s2,r2⟩:=hy.sq st ry
  cases qy
  obtain⟨its2,rv2,ht2,hz2⟩:=I.list s2
  obtain⟨o2,ho2,hc2,n2,hd2⟩:=ht2.isList
  obtain⟨bs,rb⟩:=zc9 I 20 (zbH I 20) _ _ _ fy r2 rv2
  exact⟨pyD dx,zab ys,as,_,ra,.inl (.list ho2 hc2 hd2 (by simpa using rb)),c1,c2,by omega,zgR dx fx ys fy⟩
theorem zor {k:Nat}(hr:zan k X.A):OC X .In oIn:=⟨_,(OpR.or (r:=zpo X id) (fun pins s σ H x y v u Q I qx qy ⟨ad,S,dx,dy,b,st,rx,ry,h,q⟩=>by
  obtain⟨pd,ps,as,bs,ra,rb,c1,c2,hd,e⟩:=zjK I st rx ry qx qy h
  have hu:=hr.units
  rcases rb with rb | rb
  ·exact PySem.SeqAt.in_list_reads rb ra c2 c1 (by omega) ⟨.bl _,H,I,by rw [e];rfl,q⟩
  ·exact PySem.SeqAt.in_tuple_reads rb ra c2 c1 (by omega) ⟨.bl _,H,I,by rw [e];rfl,q⟩) zjs),
 fun ad H S x y v u Q0 Q st rx ry h k=>by
  rcases h with ⟨b,h,q⟩ | ⟨c,z,rfl,rfl,q⟩
  ·exact .inl ⟨ad,S,x,y,b,st,rx,ry,h,k _ S _ H ad q Wd.refl st (.bl _)⟩
  ·cases rx
   cases ry
   exact .inr ⟨_,z,rfl,rfl,by rw [PySem.StrLaws.found_one];exact k _ S _ H ad q Wd.refl st (.bl _)⟩⟩
theorem zle {op:CmpOp}{r':DR2}(o:OC X op r')(ha:PD X a ta)(hb:PD X b tb)(hm:behindInMarks op b=false:=by with_unfolding_all rfl):PD X (.Compare a [op] [b] pos) (dOp r' ta tb):=by
 with_unfolding_all
  obtain⟨r,ho,od⟩:=o
  exact zaC (zio ho ha hb hm) fun _ _ _=>zfy od
end
section
variable {X:Cx}
end
section
variable {X:Cx}{e:Expr}{pos p2 p3:Pos}{lo:Option Expr}
end
theorem zhx {K:PySem.W.Frag}{ad:List Addr}{H:Hp}:∀ {zs:List Str} {vs:List V},zB K ad H (zs.map D.str) vs->vs=zs.map V.str
 | [],_,.nil=>rfl
 | z::zs,_,.cons r t=>by cases r;rw [zhx t];rfl
theorem zlq {X:Cx}{a:Expr}{t:DA}{p1 p2 pos1 pos2:Pos}(hgl:Gl X "len")(hml:X.mg "len"=none)(hgr:Gl X "set")(hmr:X.mg "set"=none)(ha:PAD X [a] t)(hc:X.calm=true:=by rfl)
  (hs:starEach [a] X.env=[(false,eval a X.env)]:=by exact zdf rfl)
  (hs3:starEach [.Call (.Name "set" p2) [a] [] pos2] X.env=[(false,eval (.Call (.Name "set" p2) [a] [] pos2) X.env)]:=by rfl) :
  PD X (.Call (.Name "len" p1) [.Call (.Name "set" p2) [a] [] pos2] [] pos1) (dB ziS t):=by with_unfolding_all exact (zaC (zlo hc hgl hml hgr hmr ha hs hs3) fun σ H Q hh=>el8 hh fun ad ρ S Q0 st rh q k =>
  ⟨ad,ρ,S,_,st,rh,q,fun ds S1 vs H1 ad1 ⟨x,zs,ed,hx,hl,q1⟩ w1 st1 r1=>by
   subst ed
   obtain⟨v,rfl,rv⟩:=zc6 r1
   obtain⟨a1,ws,rfl,hs,rs⟩:=hx.sq st1 rv
   cases zhx rs
   exact⟨a1,zs,rfl,hs,hl,k _ S1 _ H1 ad1 q1 w1 st1 (.int _)⟩⟩)
section
variable {X:Cx}{e:Expr}{t:DA}{p pos kp cp:Pos}{j:Nat}
end
section
variable {X:Cx}{e o value:Expr}{te to tv:DE}{f c:Str}{pos pos':Pos}
theorem zbf (he:PD X e te)(hb:attributeBase e f X.env (eval e X.env)=eval e X.env):PD X (.Attribute e f pos) (zbT f te):=by with_unfolding_all exact (zaC (zm1 he hb) fun σ H Q hh=>el8 hh fun ad ρ S Q0 st rh q k =>
  ⟨ad,ρ,S,_,st,rh,q,fun x S1 v H1 ad1 ⟨n,c,fs,d,ex,hn,hl,q1⟩ w1 st1 r1=>by
   subst ex
   cases r1 with
   | ref en =>
    obtain⟨C,dx,vs,h1,hc,hns,rf,hna⟩:=st1.cell n _ _ en hn
    obtain⟨v,hv,rv⟩:=rf.look hl
    obtain⟨q2,hq2,e2⟩:=zhJ hl
    exact⟨_,C,dx,vs,v,rfl,h1,hc,e2▸hna q2 hq2,hv,k d S1 v H1 ad1 q1 w1 st1 rv⟩⟩)
theorem zce (hna:∀ C,PySem.W.nsIn X.K mainGlobals c=some (some (.ref C))->z8 X.K C f)(ho:PD X o to)(hv:PD X value tv)(hs:swapsWith value (some (.Attribute o f pos')) pos.line X.env=pure false:=by rfl) :
  PSD X (.Assign [.Attribute o f pos'] value pos) (zcF c f to tv):=by with_unfolding_all exact (za5 (zl8 ho hv hs) fun E σ H hh=>el8 hh fun ad ρ S E0 so rh q k =>
 ⟨ad,ρ,S,_,so,rh,q,fun y S1 vy H1 ad1 q1 w1 st1 r1=>⟨ad1,ρ,S1,_,st1,rh.wd w1,q1,fun x S2 vx H2 ad2 ⟨n,fs,ex,hn,hl,q2⟩ w2 st2 r2=>by
  subst ex
  cases r2 with
  | ref en =>
   obtain⟨C,dx,vs,h1,hc,hns,rf,hna'⟩:=st2.cell n _ _ en hn
   have w3:Wd ad2 H2 ad2 (upd H2 _ (.ins C dx (zbi f vy vs))):=Wd.putI en h1
   exact⟨_,C,dx,vs,rfl,h1,hc,hna C hns,by rw [<- rf.length];omega,k.nx ρ _ σ _ ad2 q2 ((w1.trans w2).trans w3) (st2.putI en h1 hc hns rf hna' (hna C hns) (r1.wd w2)) (((rh.wd w1).wd w2).wd w3)⟩⟩⟩)
omit B in
theorem zia {K:PySem.W.Frag}{C:Addr}{c:Str}{init:DSp}(hc:Cls K C)(hn:PySem.W.nsIn K mainGlobals c=some (some (.ref C))):∀ vs H Q,upF K (ziE c init) vs H Q E0->∀ x dx,H x=none->H dx=none->dx≠x ->
  upF K init (.ref x::vs) (upd (upd H dx (.own x)) x (.ins C dx [])) (fun v H2=>v=.non/\Q (.ref x) H2) E0:=by
 rintro vs H Q ⟨ad,S,ds,Q0,st,r,hf,k⟩ x dx hx hdx hne
 letI:Bs:=⟨ad,H⟩
 obtain⟨w,st'⟩:=st.newI (c:=c) hx hdx hne hc hn
 have rx:Rel K (ad++[x]) (upd (upd H dx (.own x)) x (.ins C dx [])) (.ref S.length) (.ref x):=.ref (by rw [<- st.len,List.getElem?_append_right (Nat.le_refl _),Nat.sub_self];rfl)
 have hf':init (.ref S.length::ds) (S++[.ins c []]) (fun d S2=>d=.non/\Q0 (.ref S.length) S2):=hf
 refine⟨ad++[x],S++[.ins c []],.ref S.length::ds,_,st'.base,.cons rx (r.wd w),hf',fun d S' v H' ad' q w' st2 rv=>?_⟩
 obtain⟨rfl,q⟩:=q
 cases rv
 exact⟨rfl,k _ S' _ H' ad' q (w.trans w') (st'.back st2) (rx.wd w')⟩
theorem zhA {k j:Nat}{x:Str}{e:Expr}{es:List Expr}{t:DA}{p:Pos}{f:DSp}(G:zf6 X.prog X.w X.K X.mg X.base k x (upF X.K f))(hr:zan j X.A)
  (ha:PAD X (e::es) t) (hk:k+1<=j:=by decide) (hg:Gl X x:=by rfl) (hdb:(x==("__debug__":Str))=false:=by decide) (he:starEach (e::es) X.env=(false,eval e X.env)::starEach es X.env:=by exact zaS rfl) (hpl:(backTo pos (starEach es X.env)).any (·.1)=false:=by exact zb4 rfl) :
  PD X (.Call (.Name x p) (e::es) [] pos) (dCall f t):=by with_unfolding_all exact (zaC (zn2 G hr hk hg ha hdb he hpl) fun σ H Q hh=>el8 hh fun ad ρ S Q0 st rh q k =>
 ⟨ad,ρ,S,_,st,rh,q,fun ds S1 vs H1 ad1 q1 w1 st1 r1=>by
  show upF X.K f (vs++[]) H1 Q E0
  rw [List.append_nil];exact⟨ad1,S1,ds,Q0,st1.base,r1,q1,(k.wd w1).base st1⟩⟩)
end
end Dp
namespace Dp
open PySem PySem.Spec PyProof.Rows L2 My
def Fly (h0 h:Heap)(e:Addr)(cls:Value)(H:Hp):Prop:=h0.get? e=none/\H e=none/\∃ (a0:Value) (oe:Obj) (vs:Array Value) (T:Addr) (oT:Obj) (ts:Array Value),h.get? e=some oe/\(oe.cls=cls/\vs[0]?=some a0)/\oe.data=.fields vs/\vs[1]?=some (.ref T)/\h0.get? T=none/\T≠e/\h.get? T=some oT/\oT.data=.fields ts/\ts[3]?=some .none/\H T=none
def CXd (P:Program)(w:World):CXT:=fun outer H s E e s'=>∃ (a C:Addr) (H':Hp),e=.ref a/\s'.os=s.os/\AllBare s'.gens/\Un (frs outer) [] H H' s.heap s'.heap/\HOk P w H' s'.heap/\Fly s.heap s'.heap a (.ref C) H'/\E (.ref C) none H'
def zcr (h:Heap)(p:Addr->Bool):Heap:={ h with objs:=h.objs.mapIdx fun i o=>if p i=true then o else { cls:=.none,data:=.freed } }
theorem zdb (h:Heap)(p:Addr->Bool)(b:Addr):(zcr h p).get? b=if p b=true then h.get? b else none:=by
  unfold zcr Heap.get?
  dsimp only
  rw [Array.getElem?_mapIdx]
  cases h.objs[b]? with
  | none=>cases p b<;>rfl
  | some o=>cases p b<;>rfl
theorem zfR (h:Heap)(p:Addr->Bool):(zcr h p).StaysIn h:=fun b o e=>by
 rw [zdb] at e
 split at e
 ·exact e
 ·cases e
theorem zfY {h base base':Heap}:∀ {l:List Env},h.FunFrames base l->(∀ L∈frs l,base'.get? L=none)->h.FunFrames base' l
 | [],_,_=>True.intro
 | env::l,⟨h1,⟨L,o,h2,h3,h4,h5⟩,h6⟩,hb=>⟨h1,⟨L,o,h2,hb L (List.mem_filterMap.mpr ⟨env,by simp,h2⟩),h4,h5⟩,zfY h6 fun L' hL=>hb L' (by
   obtain⟨e',he,e2⟩:=List.mem_filterMap.mp hL
   exact List.mem_filterMap.mpr ⟨e',List.mem_cons_of_mem _ he,e2⟩)⟩
section
variable {X:Cx}{pins:List (Addr×Obj)}{σ:L2.St}{H:Hp}{s:Shared}
theorem zjJ (I:Inv X pins σ H s)(hex:X.ex=[]){b:Addr}{o:Obj}(e:X.s₀.heap.get? b=some o):∃ o',s.heap.get? b=some o':=I.base.there b o e (by rw [hex];simp)
theorem zcM (I:Inv X pins σ H s)(hex:X.ex=[]){b:Addr}(e:s.heap.get? b=none):X.s₀.heap.get? b=none:=by
 cases q:X.s₀.heap.get? b with
 | none=>rfl
 | some o=>obtain⟨o',h⟩:=zjJ I hex q;rw [e] at h;cases h
theorem zfj (I:Inv X pins σ H s){b:Addr}(e:s.heap.get? b=none):H b=none:=by
 cases q:H b with
 | none=>rfl
 | some o =>
  have:=(I.hok b o q).lt
  exfalso
  cases o with
  | lst xs=>obtain⟨_,_,_,_,h⟩:=I.hok b _ q;rw [e] at h;cases h
  | tup xs=>obtain⟨_,_,_,ob,h,_⟩:=I.hok b _ q;rw [e] at h;cases h
  | dK kvs=>obtain⟨_,_,_,_,ob,_,_,h,_⟩:=I.hok b _ q;rw [e] at h;cases h
  | dT kvs=>obtain⟨_,_,_,_,ob,_,_,h,_⟩:=I.hok b _ q;rw [e] at h;cases h
  | set S n=>obtain⟨ob,_,_,_,h,_⟩:=I.hok b _ q;rw [e] at h;cases h
  | ins C dx fs=>obtain⟨_,_,_,h,_⟩:=I.hok b _ q;rw [e] at h;cases h
  | own y=>obtain⟨_,h⟩:=I.hok b _ q;rw [e] at h;cases h
  | xd fs=>obtain⟨_,⟨_,_,_,h,_⟩,_⟩:=I.hok b _ q;rw [e] at h;cases h
  | rng lo hi=>obtain⟨_,_,_,h⟩:=I.hok b _ q;rw [e] at h;cases h
  | frz ob u=>obtain⟨h,_⟩:=I.hok b _ q;rw [e] at h;cases h
  | tbl ps=>have h:s.heap.get? b=some _:=I.hok b _ q;rw [e] at h;cases h
  | met f y=>have h:s.heap.get? b=some _:=I.hok b _ q;rw [e] at h;cases h
  | ext φ=>obtain⟨_,⟨_,h⟩,_⟩:=I.hok b _ q;rw [e] at h;cases h
theorem zgw (I:Inv X pins σ H s)(hex:X.ex=[])(hst:X.stack=X.env::X.outer)(hfr:X.env.frame=some X.env.locals){e T0:Addr}{h':Heap}(he:X.s₀.heap.get? e=none)(hT:X.s₀.heap.get? T0=none)(He:H e=none)(HT:H T0=none)
  (hk:∀ b o,s.heap.get? b=some o->b≠e->b≠T0->b∉frs X.stack->h'.get? b=some o) (hs:∀ b∈frs X.stack,∀ o,s.heap.get? b=some o->∃ sl,h'.get? b=some { o with slots:=sl }) :
  Un X.fs [] X.H₀ H X.s₀.heap h'/\HOk X.prog X.w H h':=by
 have nfr:∀ {b:Addr} {o:Obj},X.s₀.heap.get? b=some o->b∉X.fs->b∉frs X.stack:=fun {b o} q n m=>by
  rw [hst] at m
  obtain⟨e',h1,h2⟩:=List.mem_filterMap.mp m
  rcases List.mem_cons.mp h1 with rfl | h1
  ·rw [hfr] at h2
   cases h2
   exact absurd (Heap.lt_size q) (Nat.not_lt.mpr I.ok.above)
  ·exact n (List.mem_filterMap.mpr ⟨e',h1,h2⟩)
 have sub:∀ {b:Addr},b∈X.fs->b∈frs X.stack:=fun {b} m=>by
  obtain⟨e',h1,h2⟩:=List.mem_filterMap.mp m
  rw [hst]
  exact List.mem_filterMap.mpr ⟨e',List.mem_cons_of_mem _ h1,h2⟩
 have nex:∀ b:Addr,b∉X.ex:=fun b=>by rw [hex];simp
 have ne:∀ {b:Addr} {o:Obj},X.s₀.heap.get? b=some o->b≠e/\b≠T0:=fun {b o} q=>⟨fun z=>(by rw [z,he] at q;cases q),fun z=>(by rw [z,hT] at q;cases q)⟩
 have ub:=I.base
 refine⟨⟨fun b o q n m _=>?_,fun b o q n m _=>?_,fun b o q n _=>ub.free b o q n (nex b),fun b o q _=>?_,ub.tups,ub.frzs,ub.tbls⟩,fun a o q=>?_⟩
 ·exact hk b o (ub.keep b o q n m (nex b)) (ne q).1 (ne q).2 (nfr q m)
 ·obtain⟨sl,h1⟩:=ub.slot b o q n m (nex b)
  obtain⟨sl',h2⟩:=hs b (sub m) _ h1
  exact⟨sl',h2⟩
 ·obtain⟨o',h1⟩:=ub.there b o q (nex b)
  by_cases m:b∈frs X.stack
  ·obtain⟨sl,h2⟩:=hs b m o' h1
   exact⟨_,h2⟩
  ·exact⟨o',hk b o' h1 (ne q).1 (ne q).2 m⟩
 ·have inn:∀ {b:Addr},H b≠none->b≠e/\b≠T0/\b∉frs X.stack:=fun {b} n=>⟨fun z=>n (by rw [z];exact He),fun z=>n (by rw [z];exact HT),fun z=>n (I.stkFree b z)⟩
  refine (I.hok a o q).stay (fun b u hb r=>?_) (fun _ r=>r) fun _ _ r=>r
  have n:H b≠none:=by
   rcases hb with rfl | hb
   ·rw [q];exact Option.some_ne_none _
   ·rw [hb];exact Option.some_ne_none _
  obtain⟨n1,n2,n3⟩:=inn n
  exact hk b u r n1 n2 n3
theorem zi7 (I:Inv X pins σ H s)(hex:X.ex=[])(hst:X.stack=X.env::X.outer)(hfr:X.env.frame=some X.env.locals){e C:Addr}{E:Value->Shared->Prop}{Q:Unit->Shared->Prop}(F:Fly X.s₀.heap s.heap e (.ref C) H)
  (hQ:∀ s':Shared,s'.os=X.s₀.os->AllBare s'.gens->Un X.fs [] X.H₀ H X.s₀.heap s'.heap->HOk X.prog X.w H s'.heap->Fly X.s₀.heap s'.heap e (.ref C) H->Q () s'):wpAny (model X.prog X.w) X.A (leaving X.env (.ref e)) Q E s:=by
 obtain⟨he,He,a0,oe,vs,T,oT,ts,f1,f2,f3,f4,f5,f6,f7,f8,f9,HT⟩:=F
 have ff:s.heap.FunFrames X.base X.stack:=I.stack
 obtain⟨p,hp⟩:∃ p:Addr->Bool,∀ b,p b=true↔b≠e/\b≠T/\b∉frs X.stack:=⟨fun b=>decide (b≠e/\b≠T/\b∉frs X.stack),fun b=>decide_eq_true_iff⟩
 have mno:∀ {b:Addr},¬ (b≠e/\b≠T/\b∉frs X.stack)->(zcr s.heap p).get? b=none:=fun {b} n=>by
  rw [zdb,if_neg (fun z=>n ((hp b).mp z))]
 have myes:∀ {b:Addr} {o:Obj},s.heap.get? b=some o->b≠e->b≠T->b∉frs X.stack->(zcr s.heap p).get? b=some o:=fun {b o} q n1 n2 n3=>by
  rw [zdb,if_pos ((hp b).mpr ⟨n1,n2,n3⟩)];exact q
 have fb:s.heap.FunFrames (zcr s.heap p) X.stack:=zfY ff fun L hL=>mno fun z=>z.2.2 hL
 have fl:Heap.FlyingW (zcr s.heap p) X.stack e (.ref C) a0 s.heap:=⟨zfR _ _,mno fun z=>z.1 rfl,fb,oe,vs,T,oT,ts,f1,f2,f3,f4,mno fun z=>z.2.1 rfl,f6,f7,f8,f9⟩
 have fr:=I.ok.frames
 rw [hst] at fr
 rw [hst] at fl
 refine wpAny_leaves_onW fr hfr fl fun h' ⟨k1,k2,k3,oe',vs',T',oT',ts',g1,g2,g3,g4,g5,g6,g7,g8,g9⟩ us=>?_
 have hs:∀ b∈frs X.stack,∀ o,s.heap.get? b=some o->∃ sl,h'.get? b=some { o with slots:=sl }:=fun b hb o q=>by
  obtain⟨_,o',h1,h2⟩:=ff.mem hb
  rw [q] at h1;cases h1
  exact us b o q h2
 have hk:∀ b o,s.heap.get? b=some o->b≠e->b≠T->b∉frs X.stack->h'.get? b=some o:=fun b o q n1 n2 n3=>k1 b o (myes q n1 n2 n3)
 obtain⟨u1,u2⟩:=zgw I hex hst hfr he f5 He HT hk hs
 have nT:X.s₀.heap.get? T'=none/\H T'=none:=by
  by_cases z1:T'=T
  ·rw [z1];exact⟨f5,HT⟩
  ·by_cases z2:T'∈frs X.stack
   ·exfalso
    obtain⟨_,o',h1,h2⟩:=ff.mem z2
    obtain⟨sl,h3⟩:=hs T' z2 o' h1
    rw [g7] at h3;cases h3
    exact h2 ts' g8
   ·have:s.heap.get? T'=none:=by
     cases q:s.heap.get? T' with
     | none=>rfl
     | some o=>rw [myes q g6 z1 z2] at g5;cases g5
    exact⟨zcM I hex this,zfj I this⟩
 exact hQ _ I.os I.bare u1 u2 ⟨he,He,a0,oe',vs',T',oT',ts',g1,g2,g3,g4,nT.1,g6,g7,g8,g9,nT.2⟩
theorem ziw (I:Inv X pins σ H s)(hex:X.ex=[])(hst:X.stack=X.env::X.outer)(hfr:X.env.frame=some X.env.locals){e C:Addr}{args:List Value}{h1:Heap}{E:Value->Shared->Prop}{Q:Unit->Shared->Prop}(hx:s.heap.MadeExcOf h1 e (.ref C) args)
  (hQ:∀ s':Shared,s'.os=X.s₀.os->AllBare s'.gens->Un X.fs [] X.H₀ H X.s₀.heap s'.heap->HOk X.prog X.w H s'.heap->Fly X.s₀.heap s'.heap e (.ref C) H->Q () s'):wpAny (model X.prog X.w) X.A (leaving X.env (.ref e)) Q E { s with heap:=h1 }:=by
 have ff:s.heap.FunFrames X.base X.stack:=I.stack
 obtain⟨p,hp⟩:∃ p:Addr->Bool,∀ b,p b=true↔b∉frs X.stack:=⟨fun b=>decide (b∉frs X.stack),fun b=>decide_eq_true_iff⟩
 have mno:∀ {b:Addr},b∈frs X.stack->(zcr s.heap p).get? b=none:=fun {b} n=>by
  rw [zdb,if_neg (fun z=>(hp b).mp z n)]
 have myes:∀ {b:Addr} {o:Obj},s.heap.get? b=some o->b∉frs X.stack->(zcr s.heap p).get? b=some o:=fun {b o} q n3=>by
  rw [zdb,if_pos ((hp b).mpr n3)];exact q
 have fb:s.heap.FunFrames (zcr s.heap p) X.stack:=zfY ff fun L hL=>mno hL
 have fr:=I.ok.frames
 rw [hst] at fr
 rw [hst] at fb
 refine wpAny_leaves_madeW (base:=zcr s.heap p) (h:=s.heap) fr hfr (zfR _ _) fb hx fun h' t ⟨k1,k2,k3,oe',vs',T',oT',ts',g1,g2,g3,g4,g5,g6,g7,g8,g9⟩ _ _ us=>?_
 have us':s.heap.UpToSlots h':=fun b o q n=>us b o (hx.keeps b o q) n
 have hs:∀ b∈frs X.stack,∀ o,s.heap.get? b=some o->∃ sl,h'.get? b=some { o with slots:=sl }:=fun b hb o q=>by
  obtain⟨_,o',h1,h2⟩:=ff.mem hb
  rw [q] at h1;cases h1
  exact us' b o q h2
 have hk:∀ b o,s.heap.get? b=some o->b≠e->b≠e->b∉frs X.stack->h'.get? b=some o:=fun b o q _ _ n3=>k1 b o (myes q n3)
 have he:=zcM I hex hx.new
 have He:=zfj I hx.new
 obtain⟨u1,u2⟩:=zgw I hex hst hfr he he He He hk hs
 have nT:X.s₀.heap.get? T'=none/\H T'=none:=by
  by_cases z2:T'∈frs X.stack
  ·exfalso
   obtain⟨_,o',h1,h2⟩:=ff.mem z2
   obtain⟨sl,h3⟩:=hs T' z2 o' h1
   rw [g7] at h3;cases h3
   exact h2 ts' g8
  ·have:s.heap.get? T'=none:=by
    cases q:s.heap.get? T' with
    | none=>rfl
    | some o=>rw [myes q z2] at g5;cases g5
   exact⟨zcM I hex this,zfj I this⟩
 exact hQ _ I.os I.bare u1 u2 ⟨he,He,_,oe',vs',T',oT',ts',g1,g2,g3,g4,nT.1,g6,g7,g8,g9,nT.2⟩
end
def zhh (K:PySem.W.Frag)(f:zfm):Sp:=fun vs H Q E=>∃ ad S ds Q0 X0,@zG ⟨ad,H⟩ K ad H S/\zB K ad H ds vs/\f ds S Q0 X0/\@KK ⟨ad,H⟩ K ad H Q0 Q /\
 ∀ (c:Str) (C:Addr) (S':Sto) (ad':List Addr) (H':Hp),X0 c S'->@zG ⟨ad,H⟩ K ad' H' S'->PySem.W.nsIn K mainGlobals c=some (some (.ref C))->E (.ref C) none H'
structure zj7 (P:Program)(w:World)(K:PySem.W.Frag)(mg:Str->Option Value)(base:Heap)(k:Nat)(x:Str)(ps:List Str)(sp:Sp):Prop where
 ex:∃ f fd,zP P w K mg base (CXd P w) k f fd ps sp/\Binds K fd ps []/\PySem.W.keepIn K (.ref f)=true/\mg x=some (.ref f)
def XOk [B:Bs](X:Cx)(ex:XR):Prop:=∀ (pins:List (Addr×Obj)) (σ:L2.St) (H:Hp) (s s':Shared) (ad ad':List Addr) (ρ:Rho) (S S':Sto) (c:Str) (C a:Addr) (H':Hp),Inv X pins σ H s->zG X.K ad H S->zag X.K ad H ρ σ->ex ρ c S'->zG X.K ad' H' S'->Wd ad H ad' H' ->
 PySem.W.nsIn X.K mainGlobals c=some (some (.ref C))->s'.os=s.os->AllBare s'.gens->Un (frs X.stack) [] H H' s.heap s'.heap->HOk X.prog X.w H' s'.heap->Fly s.heap s'.heap a (.ref C) H'->X.xe (.ref a) s'
def XMk [B:Bs](X:Cx)(ex:XR):Prop:=∀ (pins:List (Addr×Obj)) (σ:L2.St) (H:Hp) (s:Shared) (ad:List Addr) (ρ:Rho) (S:Sto) (c:Str) (C e:Addr) (args:List Value) (h1:Heap),Inv X pins σ H s->zG X.K ad H S->zag X.K ad H ρ σ->ex ρ c S ->
 PySem.W.nsIn X.K mainGlobals c=some (some (.ref C))->s.heap.MadeExcOf h1 e (.ref C) args->X.xe (.ref e) { s with heap:=h1 }
section
variable [B:Bs]{X:Cx}
theorem zkx {k j:Nat}{x:Str}{ps:List Str}{f:zfm}{ex:XR}{p pos:Pos}{e:Expr}{es:List Expr}{t:DA}(G:zj7 X.prog X.w X.K X.mg X.base k x ps (zhh X.K f))(hX:XOk X ex)(hr:zan j X.A)
  (ha:PAD X (e::es) t) (hk:k<=j:=by decide) (hg:Gl X x:=by rfl) (hdb:(x==("__debug__":Str))=false:=by decide) (he:starEach (e::es) X.env=(false,eval e X.env)::starEach es X.env:=by exact zaS rfl) (hpl:(backTo pos (starEach es X.env)).any (·.1)=false:=by exact zb4 rfl) :
  PD X (.Call (.Name x p) (e::es) [] pos) (zhj f ex t):=by
 with_unfolding_all
  intro pins s σ H Q I h
  obtain⟨ad,ρ,S,Q0,st,rh,q,kk⟩:=h
  obtain⟨fa,fd,F,b,kp,m⟩:=G.ex
  have F:=F.mono hk
  refine wpAny_Call_Name_kw (zdI I hg m ?_ hdb)
  have hA:=ha pos pins s σ H (fun vs H1=>∃ ds S1 ad1,f ds S1 Q0 (ex ρ)/\Wd ad H ad1 H1/\zG X.K ad1 H1 S1/\zB X.K ad1 H1 ds vs) I ⟨ad,ρ,S,_,st,rh,q,fun ds S1 vs H1 ad1 q1 w1 st1 r1=>⟨ds,S1,ad1,q1,w1,st1,r1⟩⟩
  refine PySem.W.callWith_K (h₀:=X.base) I.ok.mod.kin kp (thn hA fun us s1 ⟨vs,H1,I1,r,q1⟩=>⟨I1.kIn,?_⟩) he hpl
  obtain⟨ds,S1,ad1,q1,w1,st1,r1⟩:=q1
  have hsp:zhh X.K f vs H1 Q (fun cls _ H'=>∃ c C S' ad',cls=Value.ref C/\ex ρ c S'/\zG X.K ad' H' S'/\Wd ad1 H1 ad' H'/\PySem.W.nsIn X.K mainGlobals c=some (some (.ref C))) :=
   ⟨ad1,S1,ds,Q0,ex ρ,st1.base,r1,q1,(kk.wd w1).base st1,fun c C S' ad' H' hx st' hn=>⟨c,C,S',ad',rfl,hx,st1.back st',@zG.wd ⟨ad1,H1⟩ _ _ _ _ st',hn⟩⟩
  have hl:us.length=ps.length:=by rw [<- r.length];exact F.len _ _ _ _ hsp
  refine wpAny_call (codeAny_mono (F.run X.A X.stack s1 H1 ⟨us,[]⟩ us vs Q _ hr I1.env0 (by have:=b s1 us I1.kIn (by rw [List.append_nil];exact hl);rwa [List.append_nil] at this) r hsp) fun res s' hq=>?_)
  cases res with
  | error e =>
   obtain⟨a,C,H',rfl,os,bare,un,hok,fly,c,C',S',ad',hC,hx,st',wd',hn⟩:=hq
   cases hC
   exact hX pins σ H1 s1 s' ad1 ad' ρ S1 S' c C a H' I1 st1 (rh.wd w1) hx st' wd' hn os bare un hok fly
  | ok fl =>
   cases fl with
   | ret u=>exact I1.after hq
   | next=>exact False.elim hq
   | brk=>exact False.elim hq
   | cont=>exact False.elim hq
theorem zn3:XOk X xF:=fun _ _ _ _ _ _ _ _ _ _ _ _ _ _ _ _ _ h=>h.elim
structure ExC (K:PySem.W.Frag)(C:Addr):Prop where
 ex:∃ nm q N bs bm hdct sn sub ab col dd k0 k1 k2 k3 k5,K.lookup C=some (excClassObj nm q C N bs bm hdct sn sub ab col dd k0 k1 k2 k3 k5 "ValueError.__new__")/\PySem.W.nsOkIn K N=true/\PySem.W.nsIn K N "__init__"=some none /\
  PySem.W.tailIn K [.type "ValueError",.type "Exception",.type "BaseException",.type "object"] bm=true
theorem zjg {x:Str}{ex:XR}{np cpos pos:Pos}{e:Expr}{t:DA}(hX:XMk X ex)(hc:X.calm=true)(hC:∀ C,PySem.W.nsIn X.K mainGlobals x=some (some (.ref C))->ExC X.K C)(hx:∃ C,PySem.W.nsIn X.K mainGlobals x=some (some (.ref C))/\X.mg x=some (.ref C))(hg:Gl X x)
  (ha:PAD X [e] t) (ht:∀ ρ S Q,(∀ d,Q [d] S)->t ρ S Q) (hdb:(x==("__debug__":Str))=false:=by decide) (he:starEach [e] X.env=(false,eval e X.env)::starEach [] X.env:=by rfl) :
  PSD X (.Raise (some (.Call (.Name x np) [e] [] cpos)) none pos) (zg3 ex x):=by
 with_unfolding_all
  intro pins s σ H D I h
  obtain⟨ad,ρ,S,E0,st,rh,q,k⟩:=h
  obtain⟨C,hn,hm⟩:=hx
  obtain⟨nm,qn,N,bs,bm,hdct,sn,sub,ab,col,dd,k0,k1,k2,k3,k5,lk,no,ni,tl⟩:=(hC C hn).ex
  have kin:=I.kIn
  have T:=PySem.W.tail_of_in kin tl
  have hv:=ha cpos pins s σ H (fun vs H1=>vs.length=1/\∃ ad1,Wd ad H ad1 H1/\zG X.K ad1 H1 S) I ⟨ad,ρ,S,fun ds S'=>ds.length=1/\S'=S,st,rh,ht _ _ _ (fun d=>⟨rfl,rfl⟩),fun ds S' vs H' ad' e' w' st' r'=>⟨by rw [<- r'.length];exact e'.1,ad',w',e'.2▸st'⟩⟩
  refine wpAny_Raise_call_subT (C:=C) (nm:=nm) (q:=qn) (N:=N) (bs:=bs) (bm:=bm) (hdct:=hdct) (sn:=sn) (sub:=sub) (ab:=ab) (col:=col) (dd:=dd) (k0:=k0) (k1:=k1) (k2:=k2) (k3:=k3) (k5:=k5) PySem.F.excBase_ValueError (T.hasType PySem.F.excBase_ValueError.hasBase) (I.ok.hd hc) (by rw [he];rfl) (PySem.W.nsMap_none_of_in I.ok.mod.kin no ni) (zdI I hg hm ⟨rfl,?_⟩ hdb)
  rw [he] at hv ⊢
  refine Calls.evalArgs_plain (wpAny_mono hv (fun us s1 hq=>?_) fun _ _ y=>y)
  obtain⟨vs,H1,I1,r,hl,ad1,w1,st1⟩:=hq
  have k1':=I1.kIn
  have hlen:us.length<=sizeLine:=by rw [<- r.length,hl];decide
  exact⟨rfl,hlen,k1' _ _ lk,(Heap.Ns.of_isNs (PySem.W.isNs_of_in I.ok.mod.kin no)).keeps I1.bk,PySem.W.tail_of_in k1' tl,fun h' e' hx=>hX pins σ H1 s1 ad1 ρ S x C e' us h' I1 st1 (rh.wd w1) q hn hx⟩
omit B in
theorem zkq {P:Program}{w:World}{K:PySem.W.Frag}{mg:Str->Option Value}{base:Heap}{x qual:Str}{st:Stmt}{f:Addr}{fd:FuncData}{N ps:List Str}{k:Nat}{sp:zfm}{b:XR->DS}(F:Fun K x qual st f fd)(S:zL N ps (zF st))
  (len:∀ ds So Q ex,sp ds So Q ex->ds.length=ps.length) (body:zim N.length b sp)
  (term:∀ (cdv:Value) (A:Around) (outer:List Env) (s:Shared) (H:Hp) (E:XK),zan k (A.deeper (envOfC qual (zF st) s.heap.objs.size f cdv))->∀ [Bs] (ex:XR),XOk (zdn (CXd P w) P w K mg base N qual (zF st) f cdv A outer s H E) ex->XMk (zdn (CXd P w) P w K mg base N qual (zF st) f cdv A outer s H E) ex->zdA (zdn (CXd P w) P w K mg base N qual (zF st) f cdv A outer s H E) (zaz st) (b ex)) :
  zP P w K mg base (CXd P w) (k+1) f fd ps (zhh K sp):=by
 with_unfolding_all
  obtain⟨oc,od,kV,doc,pm,an,cdv,ct,osl,rfl,lk,hcd⟩:=F.ex
  refine zk0 lk hcd S (fun vs H Q E ⟨ad,So,ds,Q0,X0,so,r,hf,kk,kx⟩=>by rw [<- r.length];exact len ds So Q0 X0 hf) fun A outer s H vs Q E hr ⟨ad,So,ds,Q0,X0,so,r,hf,kk,kx⟩=>?_
  letI:Bs:=⟨ad,H⟩
  have end1:∀ (c:Str) (C a:Addr) (S':Sto) (ad':List Addr) (H':Hp) (s':Shared),X0 c S'->zG K ad' H' S'->PySem.W.nsIn K mainGlobals c=some (some (.ref C))->s'.os=s.os->AllBare s'.gens->Un (frs outer) [] H H' s.heap s'.heap->HOk P w H' s'.heap->Fly s.heap s'.heap a (.ref C) H'->CXd P w outer H s E (.ref a) s' :=
   fun c C a S' ad' H' s' hx st' hn o1 o2 o3 o4 o5=>⟨a,C,H',rfl,o1,o2,o3,o4,o5,kx c C S' ad' H' hx st' hn⟩
  refine⟨_,term cdv A outer s H E hr (fun _=>X0) ?_ ?_,ad,zcO N.length ds,So,_,so,zhq N r,body ds So Q0 X0 hf,⟨fun ρ S' σ H' ad' q w' st' rh=>zfE so kk .non S' .non H' ad' q w' st' .non,zfE so kk,fun _ _ _ _ _ q=>q.elim,fun _ _ _ _ _ q=>q.elim⟩⟩
  ·intro pins σ H1 s1 s' ad1 ad' ρ S1 S' c C a H' I st1 rh hx st' wd' hn os bare un hok fly
   have I':=I.call' (ch:=[]) os un hok bare (fun b z=>absurd z (by simp))
   have f0:Fly s.heap s'.heap a (.ref C) H':=by
    obtain⟨g1,g2,a0,oe,vs,T,oT,ts,h1,h2,h3,h4,h5,h6⟩:=fly
    exact⟨zcM I rfl g1,g2,a0,oe,vs,T,oT,ts,h1,h2,h3,h4,zcM I rfl h5,h6⟩
   exact zi7 I' rfl rfl rfl f0 fun s'' o1 o2 o3 o4 o5=>end1 c C a S' ad' H' s'' hx st' hn o1 o2 o3 o4 o5
  ·intro pins σ H1 s1 ad1 ρ S1 c C e args h1 I st1 rh hx hn hmade
   exact ziw I rfl rfl rfl hmade fun s'' o1 o2 o3 o4 o5=>end1 c C e S1 ad1 H1 s'' hx st1 hn o1 o2 o3 o4 o5
end
section
variable {X:Cx}{pins:List (Addr×Obj)}{σ:L2.St}{H H':Hp}{s s':Shared}
variable [B:Bs]
end
section
open PySem.W PySem.Builtin PySem.Builtin.ObjectAttr PySem.Builtin.Getset_descriptor
variable {prog:Program}{w:World}{A:Around}{E:Value->Shared->Prop}{s:Shared}{K:Frag}{x C:Addr}{o:Obj}
end
section
variable [B:Bs]{X:Cx}
end
def zkj (K:PySem.W.Frag)(C:Addr):Bool:=match K.lookup C with
 | some ⟨.type "type",_,.cls cd,sl⟩=>(match cd.mro,sl.toList with
  | .ref C'::bm,[_,_,_,_,some (.builtin n),_]=>C'==C&&!cd.hasDel&&n=="ValueError.__new__"&&PySem.W.nsOkIn K cd.ns&&PySem.W.nsIn K cd.ns "__init__"==some none&&PySem.W.tailIn K [.type "ValueError",.type "Exception",.type "BaseException",.type "object"] bm
  | _,_=>false)
 | _=>false
theorem ExC.of {K:PySem.W.Frag}{C:Addr}(q:zkj K C=true):ExC K C:=by
 unfold zkj at q
 split at q
 ·rename_i dd cd sl ho
  split at q
  ·rename_i C' bm k0 k1 k2 k3 n k5 hm hs
   simp only [Bool.and_eq_true,beq_iff_eq,Bool.not_eq_true'] at q
   obtain⟨⟨⟨⟨⟨rfl,hdel⟩,rfl⟩,h1⟩,h2⟩,h3⟩:=q
   obtain⟨nm,bs,mro,ns,qn,hd,sn,sub,ab,col,del⟩:=cd
   dsimp only at hm hdel
   subst hm hdel
   have hsl:sl=#[k0,k1,k2,k3,some (.builtin "ValueError.__new__"),k5]:=by
    obtain⟨l⟩:=sl
    simp only at hs
    rw [hs]
   subst hsl
   exact⟨nm,qn,ns,bs,bm,hd,sn,sub,ab,col,dd,k0,k1,k2,k3,k5,ho,h1,h2,h3⟩
  ·cases q
 ·cases q
section
variable {X:Cx}[B:Bs]
end
section
variable {K:PySem.W.Frag}{ad:List Addr}{H:Hp}{S:Sto}[B:Bs]
end
section
variable {X:Cx}{a b c:Expr}{td ti tz tv:DE}{pos apos cpos:Pos}[B:Bs]
end
structure FH (K:PySem.W.Frag)(n:Str)(st:Stmt)(f:Addr)(fd:FuncData):Prop where
 a:PySem.W.nsIn K mainGlobals n=some (some (.ref f))
 F:Fun K n n st f fd
section
variable {K:PySem.W.Frag}{n:Str}{st:Stmt}{f:Addr}{fd:FuncData}{mg:Str->Option Value}{k:Nat}{h:Heap}{ps:List Str}{sp:Sp}
theorem zoN {oc:Value}{od an:Option Addr}{osl:Array (Option Value)}{kV doc pm cdv ct:Value}(a:PySem.W.nsIn K mainGlobals n=some (some (.ref f)))
  (l:K.lookup f=some ⟨oc,od,.func (PySem.W.fnOf n n (za7 st) (zaz st) (zF st) .none kV doc pm an cdv ct),osl⟩) (c:PySem.W.codeIn K cdv n=true) (k:PySem.W.keepIn K (.ref f)=true) :
  FH K n st f (PySem.W.fnOf n n (za7 st) (zaz st) (zF st) .none kV doc pm an cdv ct):=⟨a,zfK l c k⟩
theorem zY (P:Program)(w:World)(base:Heap)(X:K.In h)(G:h.Ns mainGlobals mg)(H:FH K n st f fd)(ok:zP P w K mg base CX0 k f fd ps sp)
  (b:∀ (kV doc pm:Value) (an:Option Addr) (cdv ct:Value) (us:List Value),us.length=ps.length->bindArgs (PySem.W.fnOf n n (za7 st) (zaz st) (zF st) .none kV doc pm an cdv ct) ⟨us,[]⟩=pure (ps.zip us):=by intro _ _ _ _ _ _ us hl;first | (obtain⟨_,e⟩:=zkQ hl;subst e;rfl) | (obtain⟨_,_,e⟩:=ziD hl;subst e;rfl) | (obtain⟨_,_,_,e⟩:=zkS hl;subst e;rfl) | (obtain⟨_,_,_,_,e⟩:=zkO hl;subst e;rfl) | (obtain⟨_,_,_,_,_,e⟩:=zkY hl;subst e;rfl) | (obtain⟨_,_,_,_,_,_,e⟩:=len_6 hl;subst e;rfl) | (obtain⟨_,_,_,_,_,_,_,e⟩:=len_7 hl;subst e;rfl)):Got P w K mg base k n ps sp:=⟨⟨f,fd,ok,H.F.binds b,H.F.kp,PySem.W.mg_of X G H.a⟩⟩
theorem zlf (P:Program)(w:World)(base:Heap)(X:K.In h)(G:h.Ns mainGlobals mg)(H:FH K n st f fd)(ok:zP P w K mg base (CXd P w) k f fd ps sp)
  (b:∀ (kV doc pm:Value) (an:Option Addr) (cdv ct:Value) (us:List Value),us.length=ps.length->bindArgs (PySem.W.fnOf n n (za7 st) (zaz st) (zF st) .none kV doc pm an cdv ct) ⟨us,[]⟩=pure (ps.zip us):=by intro _ _ _ _ _ _ us hl;first | (obtain⟨_,e⟩:=zkQ hl;subst e;rfl) | (obtain⟨_,_,e⟩:=ziD hl;subst e;rfl) | (obtain⟨_,_,_,e⟩:=zkS hl;subst e;rfl) | (obtain⟨_,_,_,_,e⟩:=zkO hl;subst e;rfl) | (obtain⟨_,_,_,_,_,e⟩:=zkY hl;subst e;rfl) | (obtain⟨_,_,_,_,_,_,e⟩:=len_6 hl;subst e;rfl) | (obtain⟨_,_,_,_,_,_,_,e⟩:=len_7 hl;subst e;rfl)):zj7 P w K mg base k n ps sp:=⟨⟨f,fd,ok,H.F.binds b,H.F.kp,PySem.W.mg_of X G H.a⟩⟩
end
section
variable {X:Cx}
theorem zf [B:Bs](i:Nat){x:Str}{pos:Pos}(hN:X.N[i]?=some x:=by rfl)(hv:L2.Vis X.env.scope x:=by first | exact Or.inl rfl | exact Or.inr (Or.inl rfl) | exact Or.inr (Or.inr rfl))(hd:(x==("__debug__":Str))=false:=by decide)(hcd:(x==("__classdict__":Str))=false:=by decide):PD X (.Name x pos) (zc i):=by with_unfolding_all exact (znw (zm0 hN hv hd hcd))
theorem zR {N P:List Str}{sc:Scope}(h1:sc.kind=.function:=by rfl)(h2:sc.isCoroutine=false:=by rfl)(h3:sc.isGenerator=false:=by rfl)(h4:N.Nodup:=by decide +kernel)(h5:N.take P.length=P:=by rfl)(h6:∀ x∈P,sc.names.lookup x=some .local\/sc.names.lookup x=some .cell:=by decide +kernel)(h7:∀ y∈sc.names,y.2≠.free:=by decide +kernel):zL N P sc:=⟨h1,h2,h3,h4,h5,h6,h7⟩
end
section
variable {X:Cx}{a b c:Expr}{ta tb:DE}{td ti tz tv:DE}{pos apos cpos:Pos}[B:Bs]
end
section
variable {X:Cx}{a b:Expr}{ta tb:DE}{pos apos cpos:Pos}[B:Bs]
theorem zg1 {i:Int}(h:My.Bd 1900 i):i.natAbs.log2<1920:=by
 by_cases e:i.natAbs=0
 ·rw [e];decide
 ·exact Nat.lt_of_lt_of_le ((Nat.log2_lt e).mpr h) (by decide)
theorem zjh:za4 X (.type "str") (fun xs H Q=>(∃ i:Int,xs=[.int i]/\i.natAbs.log2<1920/\Q (.str (toString i)) H)\/∃ z,xs=[.str z]/\Q (.str z) H):=by
 intro pins s σ H xs us Q I r h
 rcases h with h | ⟨z,rfl,q⟩
 ·exact zgS pins s σ H xs us Q I r h
 ·obtain⟨u,rfl,t,rfl⟩:=vals1 r
  exact PySem.P.str_of_str ⟨.str z,H,I,⟨_,rfl⟩,q⟩
theorem zbZ:BC X (.type "str") zcs:=⟨_,zjh,fun ad H S ds vs Q0 Q st r h k=>by
 rcases h with ⟨i,rfl,hb,q⟩ | ⟨z,rfl,q⟩
 ·obtain⟨v,rfl,rv⟩:=zc6 r
  cases rv
  exact .inl ⟨i,rfl,zg1 hb,k _ S _ H ad q Wd.refl st (.str _)⟩
 ·obtain⟨v,rfl,rv⟩:=zc6 r
  cases rv
  exact .inr ⟨z,rfl,k _ S _ H ad q Wd.refl st (.str _)⟩⟩
theorem zg2:∀ {zs:List Str} {its:List Value},Vals (zs.map V.str) its->∃ l:List (Str×Tok),its=PySem.strValues l/\l.map (·.1)=zs
 | [],_,.nil=>⟨[],rfl,rfl⟩
 | z::zs,_,.cons r t=>by
  obtain⟨l,rfl,e⟩:=zg2 t
  obtain⟨tk,rfl⟩:=r
  exact⟨(z,tk)::l,rfl,by rw [List.map_cons,e]⟩
theorem zjy {z:Str}{zs:List Str}(h:(zs.map (·.length)).sum+zs.length*z.length<=big):PySem.JoinOk z zs=true:=by
 unfold PySem.JoinOk
 rw [PySem.StrLaws.joinTotal]
 show (!decide (_ > sizeLine))=true
 rw [decide_eq_false (by rw [sizeLine_eq];unfold big at h;omega)];rfl
def zoe (ta tb:TE):TE:=fun σ H Q=>ta σ H fun x H1=>(∃ z,x=.str z)/\tb σ H1 fun y H2=>∃ z l,∃ zs:List Str,x=.str z/\y=.ref l/\H2 l=some (.lst (zs.map V.str))/\(zs.map (·.length)).sum+zs.length*z.length<=big/\Q (.str (Str.join z zs)) H2
theorem zlg {ta tb:TE}(ha:PE X a ta)(hb:PE X b tb)(hbase:attributeBase a "join" X.env (eval a X.env)=eval a X.env)(hs:starEach [b] X.env=[(false,eval b X.env)])(hline:(apos.endLine==cpos.line)=true):PE X (.Call (.Attribute a "join" apos) [b] [] cpos) (zoe ta tb):=by
 intro pins s σ H Q I h
 refine PySem.Call_method1 hbase hs hline (thn (ha pins s σ H _ I h) fun u s1 ⟨x,H1,I1,rx,⟨z,ex⟩,q1⟩=>?_)
 subst ex
 obtain⟨t,rfl⟩:=rx
 refine PySem.SB.join (thn (hb pins s1 σ H1 _ I1 q1) fun v s2 ⟨y,H2,I2,ry,z',l,zs,e1,e2,hH,hl,q2⟩=>?_)
 cases e1
 subst e2
 cases ry
 obtain⟨hz,its,n,rr,hlen,ho⟩:=I2.lstM hH
 obtain⟨ps,rfl,eps⟩:=zg2 rr
 refine⟨l,ps,rfl,⟨_,ho,rfl,_,rfl⟩,zs,eps,zjy hl,fun t' k=>⟨.str (Str.join z zs),H2,I2.tok _,⟨t',?_⟩,q2⟩⟩
 rw [show PySem.Txt.join z zs=Str.join z zs from PySem.StrLaws.glued_eq_join z zs]
end
section
variable {X:Cx}{a b:Expr}{ta tb:DE}{pos apos cpos:Pos}[B:Bs]
theorem zB.strs {K:PySem.W.Frag}{ad:List Addr}{H:Hp}:∀ {zs:List Str} {vs:List V},zB K ad H (zs.map D.str) vs->vs=zs.map V.str
 | [],_,.nil=>rfl
 | z::zs,_,.cons r t=>by cases r;rw [zB.strs t];rfl
theorem zeX (ha:PD X a ta)(hb:PD X b tb)(hbase:attributeBase a "join" X.env (eval a X.env)=eval a X.env:=by rfl)(hl:isStar b=false:=by rfl)(hline:(apos.endLine==cpos.line)=true:=by rfl):PD X (.Call (.Attribute a "join" apos) [b] [] cpos) (zeU ta tb):=by with_unfolding_all exact (zaC (zlg ha hb hbase (zdf hl) hline) fun σ H Q hh=>el8 hh fun ad ρ S Q0 st rh q k =>
 ⟨ad,ρ,S,_,st,rh,q,fun x S1 v H1 ad1 ⟨⟨z,ex⟩,q1⟩ w1 st1 r1=>by
  subst ex
  cases r1
  exact⟨⟨z,rfl⟩,ad1,ρ,S1,_,st1,rh.wd w1,q1,fun y S2 u H2 ad2 ⟨z',n,zs,e1,e2,hn,hl,q2⟩ w2 st2 r2=>by
   cases e1
   subst e2
   cases r2 with
   | ref e =>
    obtain⟨ws,hw,rw'⟩:=st2.cell n _ _ e hn
    rw [rw'.strs] at hw
    exact⟨z,_,zs,rfl,rfl,hw,hl,k _ S2 _ H2 ad2 q2 (w1.trans w2) st2 (.str _)⟩⟩⟩)
def tF3 (c:Str)(ta tb:TE):TE:=fun σ H Q=>ta σ H fun x H1=>(∃ i,x=.int i/\i.natAbs.log2<1920/\(Str.ofString (toString i)).length<=1000/\c.length<=1000)/\tb σ H1 fun y H2=>∃ i j,x=.int i/\y=.int j/\j.natAbs.log2<1920/\(Str.ofString (toString j)).length<=1000/\Q (.str (Str.ofString (toString i)++c++Str.ofString (toString j))) H2
theorem zoo {ta tb:TE}{c:Str}{kk:Nat}{p1 p2 p3:Pos}(ha:PE X a ta)(hb:PE X b tb):PE X (.JoinedStr [.FormattedValue a (-1) none p1,.Constant (.str c) kk p2,.FormattedValue b (-1) none p3] pos) (tF3 c ta tb):=by
 intro pins s σ H Q I h
 have sz:∀ n:Nat,n<=100000->n<=sizeLine:=fun n h=>Nat.le_trans h (by rw [sizeLine_eq];decide)
 refine JoinedStr_many (joinParts_cons (FormattedValue_plain (thn (ha pins s σ H _ I h) fun u s1 ⟨x,H1,I1,rx,⟨i,ex,hi,li,lc⟩,q1⟩=>?_)))
 subst ex
 obtain⟨t,rfl⟩:=rx
 refine formatField_int_small hi ?_
 refine⟨sz _ (by rw [strLen_append];show 0+_<=_;omega),?_⟩
 have e0:Str.empty++Str.ofString (toString i)=Str.ofString (toString i):=PySem.Str.append_left_empty rfl
 rw [e0]
 refine joinParts_cons (thn (zjL (X:=X) (x:=c) (j:=kk) (pos:=p2) pins _ σ H1 (fun x H'=>x=.str c/\H'=H1) (I1.tok _) ⟨rfl,rfl⟩) fun u s2 ⟨x2,H2,I2,rx2,ex2,eh⟩=>?_)
 subst ex2 eh
 obtain⟨t2,rfl⟩:=rx2
 refine⟨sz _ (by rw [strLen_append];omega),?_⟩
 refine joinParts_cons (FormattedValue_plain (thn (hb pins s2 σ H2 _ I2 q1) fun u s3 ⟨y,H3,I3,ry,i',j,e1,e2,hj,lj,q2⟩=>?_))
 cases e1
 subst e2
 obtain⟨t3,rfl⟩:=ry
 refine formatField_int_small hj ?_
 refine⟨sz _ (by rw [strLen_append,strLen_append];omega),?_⟩
 exact joinParts_nil ⟨.str _,H3,(I3.tok _).tok _,⟨_,rfl⟩,q2⟩ (sz _ (by rw [strLen_append,strLen_append];omega))
theorem zon {c:Str}{kk:Nat}{p1 p2 p3:Pos}(ha:PD X a ta)(hb:PD X b tb):PD X (.JoinedStr [.FormattedValue a (-1) none p1,.Constant (.str c) kk p2,.FormattedValue b (-1) none p3] pos) (dF3 c ta tb):=by with_unfolding_all exact (zaC (zoo ha hb) fun σ H Q hh=>el8 hh fun ad ρ S Q0 st rh q k =>
 ⟨ad,ρ,S,_,st,rh,q,fun x S1 v H1 ad1 ⟨⟨i,ex,hi,li,lc⟩,q1⟩ w1 st1 r1=>by
  subst ex
  cases r1
  exact⟨⟨i,rfl,zg1 hi,li,lc⟩,ad1,ρ,S1,_,st1,rh.wd w1,q1,fun y S2 u H2 ad2 ⟨i',j,e1,e2,hj,lj,q2⟩ w2 st2 r2=>by
   cases e1
   subst e2
   cases r2
   exact⟨i,j,rfl,rfl,zg1 hj,lj,k _ S2 _ H2 ad2 q2 (w1.trans w2) st2 (.str _)⟩⟩⟩)
end
end Dp
open PySem Dp
local macro_rules | `(tactic| walk_at "dat")=>`(tactic| first | assumption | exact zaY | exact zid | (refine (zaF _ _ _).trans ?_;exact rfl) | exact zah (by assumption))
local macro_rules | `(tactic| walk_at "dlat")=>`(tactic| first | assumption | exact Lst.rl | exact Lst.at0 | exact Lst.new | (refine Lst.at ?_;exact rfl) | exact Lst.old (by assumption) | exact Lst.here (by assumption) | exact Lst.here (zah (by assumption)))
local macro_rules | `(tactic| walk_at "dseq")=>`(tactic| first | exact Or.inl rfl | (refine Or.inr ?_;walk_at "dlat"))
local macro_rules | `(tactic| walk_at "dbd")=>`(tactic| first | assumption | exact My.Bd.mono (by assumption) (by decide) | exact My.Bd.lit (by decide) (by decide) | (refine My.Bd.add ?_ ?_<;>walk_at "dbd") | (refine My.Bd.sub ?_ ?_<;>walk_at "dbd") | (refine My.Bd.neg ?_;walk_at "dbd") | (refine My.Bd.mulH ?_ ?_<;>walk_at "dbd") | (refine My.Bd.emod (by omega) ?_;walk_at "dbd") | (refine My.Bd.ediv ?_;walk_at "dbd"))
local macro_rules | `(tactic| walk_at "dmul")=>`(tactic| first | assumption | exact Or.inr (Or.inl (by omega)) | exact Or.inr (Or.inr (by omega)) | exact Or.inl ⟨by walk_at "dbd",by walk_at "dbd"⟩)
local macro_rules | `(tactic| walk_at "ddiv")=>`(tactic| first | assumption | exact⟨by omega,by walk_at "dbd"⟩)
local macro_rules | `(tactic| walk_at "dr1")=>`(tactic| with_reducible first|refine zmf ?_|refine zmE ?_|refine zo8 ?_|refine zmW ?_|refine zo2 ?_)
local macro_rules | `(tactic| walk_at "dr1")=>`(tactic| first|((with_reducible refine znS (xs:=?rvx) ?rvl ?_);(case rvl=>walk_at "dlat")))
local macro_rules | `(tactic| walk_at "dr1")=>`(tactic| with_reducible first|refine zkp ?_|refine zkh ?_|refine zn1 ?_|refine zoz ?_|refine zn8 ?_|refine zjo ?_|refine zmO ?_|refine zoP ?_|refine znR ?_)
local macro_rules | `(tactic| walk_at "dr1")=>`(tactic| first|((with_reducible refine zoL (a:=?rvv) ?rvk ?_);(case rvk=>exact rfl))|((with_reducible refine zkg (xs:=?rvx) ?rvk ?rvl ?_);(case rvk=>walk_at "dat");(case rvl=>first | exact Nat.lt_of_ble_eq_true rfl | assumption | (simp only [big,List.length_append,List.length_cons,List.length_nil,List.length_map] at *;omega))))
local macro_rules | `(tactic| walk_at "dr1")=>`(tactic| with_reducible first|refine zmn ?_|refine zmD ?_|refine zmb ?_|refine znU ?_)
local macro_rules | `(tactic| walk_at "dr1")=>`(tactic| first|((with_reducible refine znm ?rvk ?_);(case rvk=>exact rfl)))
local macro_rules | `(tactic| walk_at "dr1")=>`(tactic| with_reducible first|refine zgH ?_|refine zge ?_|refine zfz ?_|refine zgL ?_|refine znB ?_|refine zk8 ?_)
local macro_rules | `(tactic| walk_at "dr1")=>`(tactic| first|((with_reducible refine zll (xs:=?rvx) ?rvl ?_);(case rvl=>walk_at "dlat")))
local macro_rules | `(tactic| walk_at "dr1")=>`(tactic| with_reducible first|refine zlR ?_)
local macro_rules | `(tactic| walk_at "dr1")=>`(tactic| first|((with_reducible refine zmx (xs:=?rvx) ?rvl ?_);(case rvl=>walk_at "dlat")))
local macro_rules | `(tactic| walk_at "dr1")=>`(tactic| with_reducible first|refine zmU ?_)
local macro_rules | `(tactic| walk_at "dr1")=>`(tactic| with_reducible first|refine zoE ?_|refine zof ?_|refine zn9 ?_|refine znW ?_|refine znE ?_|refine zcG ?_|refine zoF ?_|refine zeJ ?_|refine zmH ?_|refine zmi ?_|refine zoS ?_|refine zoI ?_)
local macro_rules | `(tactic| walk_at "dr1")=>`(tactic| first|((with_reducible refine znO (ys:=?rvx) ?rvk ?_);(case rvk=>walk_at "dat")))
local macro_rules | `(tactic| walk_at "dr1")=>`(tactic| with_reducible first|refine zmt ?_|refine zlu ?_|refine r_b ?_|refine r_m ?_)
local macro_rules | `(tactic| walk_at "dr1")=>`(tactic| first|((with_reducible refine zot ?rvk ?_);(case rvk=>exact rfl)))
local macro_rules | `(tactic| walk_at "dr1")=>`(tactic| with_reducible first|refine r_t ?_|refine zpe ?_|refine zoa ?_|refine znN ?_|refine zpd ?_|refine zoU ?_|refine zng ?_|refine zms ?_|refine zop ?_|refine zhg ?_|refine zkV ?_|refine zoD ?_)
local macro_rules | `(tactic| walk_at "dr1")=>`(tactic| first|((with_reducible refine zob ?rvk ?_);(case rvk=>walk_at "dmul"))|((with_reducible refine znH ?rvk ?_);(case rvk=>walk_at "ddiv"))|((with_reducible refine zov ?rvk ?_);(case rvk=>first | omega | assumption))|((with_reducible refine znT (d:=?rvv) ?rvk ?_);(case rvk=>first | assumption | exact rfl))|((with_reducible refine znM (xs:=?rvx) (d:=?rvv) ?rvl ?rvk ?_);(case rvl=>walk_at "dlat");(case rvk=>first | assumption | exact rfl)))
local macro_rules | `(tactic| walk_at "dr1")=>`(tactic| with_reducible first|refine r_c ?_|refine ziP ?_|refine zo4 ?_|refine znI ?_|refine zn4 ?_|refine zoj ?_|refine zo3 ?_|refine zoZ ?_|refine zo1 ?_|refine znK ?_|refine zoy ?_|refine zoi ?_)
local macro_rules | `(tactic| walk_at "dr1")=>`(tactic| first|((with_reducible refine zdY (d:=?rvv) ?rvk ?_);(case rvk=>exact rfl)))
local macro_rules | `(tactic| walk_at "dr1")=>`(tactic| with_reducible first|refine zpl ?_|refine zlb ?_)
local macro_rules | `(tactic| walk_at "dr1")=>`(tactic| first|((with_reducible refine zlQ (g:=?rv1) (b:=?rv2) (f:=?rv3) (h:=?rv4) (a:=?rv5) (l:=?rv6) (d:=?rv7) ?rvk ?_);(case rvk=>walk_at "dat"))|((with_reducible refine znz (g:=?rv1) (b:=?rv2) (f:=?rv3) (h:=?rv4) (a:=?rv5) (l:=?rv6) (d:=?rv7) ?rvk ?_);(case rvk=>walk_at "dat"))|((with_reducible refine zlh (g:=?rv1) (b:=?rv2) (f:=?rv3) (h:=?rv4) (a:=?rv5) (l:=?rv6) (d:=?rv7) ?rvk ?_);(case rvk=>walk_at "dat")))
local macro_rules | `(tactic| walk_at "dr1")=>`(tactic| first|((with_reducible refine znZ (l:=?rvx) ?rvk ?_);(case rvk=>walk_at "dat"))|((with_reducible refine zky (g:=?rv1) (b:=?rv2) (f:=?rv3) (h:=?rv4) (a:=?rv5) (l:=?rv6) (d:=?rv7) ?rvk ?_);(case rvk=>walk_at "dat"))|((with_reducible refine zi6 (g:=?rv1) (b:=?rv2) (f:=?rv3) (h:=?rv4) (a:=?rv5) (l:=?rv6) (d:=?rv7) ?rvk ?_);(case rvk=>walk_at "dat"))|((with_reducible refine zmV (g:=?rv1) (b:=?rv2) (f:=?rv3) (h:=?rv4) (a:=?rv5) (l:=?rv6) (d:=?rv7) ?rvk ?_);(case rvk=>walk_at "dat"))|((with_reducible refine zmC (g:=?rv1) (b:=?rv2) (f:=?rv3) (h:=?rv4) (a:=?rv5) (l:=?rv6) (d:=?rv7) ?rvk ?_);(case rvk=>walk_at "dat")))
local macro_rules | `(tactic| walk_at "dr1")=>`(tactic| with_reducible first|refine ziR ?_|refine zmj ?_|refine zkU ?_|refine zl0 ?_|refine zmK ?_|refine zkM ?_|refine zm4 ?_|refine zoH ?_)
local macro_rules | `(tactic| walk_at "g")=>`(tactic| repeat walk_at "dr1")
local macro_rules | `(tactic| walk_at "drho")=>`(tactic| simp only [zcO,List.map_cons,List.map_nil,List.length_cons,List.length_nil,Nat.reduceSub,Nat.reduceAdd,List.replicate,List.cons_append,List.nil_append,List.set_cons_zero,List.set_cons_succ])
local macro_rules | `(tactic| walk_at "drho2")=>`(tactic| simp only [List.set_cons_zero,List.set_cons_succ])
namespace Dp
open PySem Rm My
def zbj:DSp:=fun ds S Q=>∃ (ns:List Int) (k:Nat),ds=[.rl (ns.map D.int),.int (k:Int)]/\Q (.int (ns.getD k 0)) S
def zcY:DS :=
    (zH (sIf (dT (dOp oLt (zc 1) (dB zbs (zj (zc 0) zu)))) (zaj (dOp oIx (zc 0) (zc 1))) zal)
 (zaj (dC (.int 0))))
theorem zgU:∀ ds So Q,zbj ds So Q->ds.length=2:=by rintro ds So Q ⟨_,_,rfl,_⟩;rfl
theorem zhU:BodyOk 2 zcY zbj:=by
 rintro ds S Q ⟨ns,k,rfl,q⟩
 unfold zcY
 walk_at "g"
 rw [List.length_map]
 refine r_d (fun h=>?_) (fun h=>?_)
 ·have hk:k<ns.length:=by omega
  have av:atD (ns.map D.int) (k:Int)=some (.int ns[k]):=zcS (by rw [List.getElem?_map,List.getElem?_eq_getElem hk];rfl)
  rw [List.getD_eq_getElem?_getD,List.getElem?_eq_getElem hk] at q
  walk_at "g"
  exact fin_same q
 ·rw [List.getD_eq_getElem?_getD,List.getElem?_eq_none (by omega)] at q
  walk_at "g"
  exact fin_same q
def zbv:DSp:=fun ds S Q=>∃ (ns:List Int) (st sz:Int),ds=[.rl (ns.map D.int),.int st,.int sz]/\ns.length<=63/\0<=st/\0<sz/\sz<60/\∀ zs:List Int,(zs.length:Int)=sz->New Q S (zs.map D.int)
def zcj:DS :=
    (zH (zM (dLC 1 [] (zcX (zj (zc 2) zu)) (zE 0) zbc (dOp zac (dOp zar (zc 0) (zc 0)) (dC (.int 5)))) (zE 3))
 (zH (zds (zfs (zj (zc 1) (zj (dB zbs (zj (zc 0) zu)) zu))) (zE 4) (zM (dOp zac (dOp zar (dOp oIx (zc 3) (dOp oMod (zc 4) (zc 2))) (dC (.int 3))) (dOp oIx (zc 0) (zc 4))) (zf4 (zc 3) (dOp oMod (zc 4) (zc 2)))))
 (zaj (zc 3))))
theorem zf0:∀ ds So Q,zbv ds So Q->ds.length=3:=by rintro ds So Q ⟨_,_,_,rfl,_⟩;rfl
theorem zgF:BodyOk 5 zcj zbv:=by
 rintro ds S Q ⟨ns,st,sz,rfl,hl,s0,z0,z1,q⟩
 unfold zcj
 walk_at "g"
 refine⟨_,rfl,by omega,by omega,?_⟩
 refine zby (fun _=>true) (onI fun k=>.int (k*k+5)) True.intro (by rw [zaR];unfold big;omega) (fun i d ys hd hw=>?_) ?_
 ·obtain⟨hi,rfl⟩:=zcc hd
  have cm:zaq (0+(i:Int)) (0+(i:Int)):=.inr (.inr (show _<2 ^ 64 by omega))
  walk_at "g"
  exact zci hd hw rfl rfl
 rw [filter_true]
 obtain⟨t0,ht0,hl0⟩:∃ t0:List Int,(upto 0 sz.toNat).map (onI fun k=>D.int (k*k+5))=t0.map D.int/\(t0.length:Int)=sz:=⟨(List.range sz.toNat).map fun k:Nat=>(0+(k:Int))*(0+(k:Int))+5,by unfold upto;rw [List.map_map,List.map_map];rfl,by simp;omega⟩
 rw [ht0]
 walk_at "g"
 rw [List.length_map]
 walk_at "drho"
 refine⟨_,_,rfl,?_⟩
 refine zcN (fun i ρ S'=>∃ (zs:List Int) (w:Option D),S'=S++[.lst (zs.map D.int)]/\ρ=[some (.rl (ns.map D.int)),some (.int st),some (.int sz),some (.ref S.length),w]/\(zs.length:Int)=sz) ⟨t0,none,rfl,rfl,hl0⟩ (fun _ _ _ _=>True.intro) ?_ ?_
 ·rintro i d ρ S' hd ⟨zs,w,rfl,rfl,hzl⟩
  obtain⟨hi,rfl⟩:=zcc hd
  have r1:=Int.emod_nonneg (st+(i:Int)) (show sz≠0 by omega)
  have r2:=Int.emod_lt_of_pos (st+(i:Int)) z0
  obtain⟨a,_,aa⟩:=zcR (zs:=zs) (k:=(st+(i:Int))%sz) r1 (by omega)
  obtain⟨b,_,ab⟩:=zcR (zs:=ns) (k:=st+(i:Int)) (by omega) (by omega)
  walk_at "g"
  refine zkP (n:=S.length) (xs:=zs.map D.int) zaY (zmy r1 (by omega)) (zeJ ?_)
  exact⟨zs.set ((st+(i:Int))%sz).toNat (a*3+b),_,by rw [List.map_set],rfl,by rw [List.length_set];exact hzl⟩
 rintro ρ S' ⟨zs,w,rfl,rfl,hzl⟩
 walk_at "g"
 exact fin_same (q zs hzl)
def zaW:DSp:=fun ds S Q=>∃ (c k:Int),ds=[.int c,.int k]/\0<=k/\k<3000/\∀ v,0<=v->v<2147483629->Q (.int v) S
def zcC:DS :=
    (zH (zM (dOp oMod (dOp zar (dOp zac (dOp zac (dOp oMod (zc 0) (dC (.int 1000000007))) (dOp zar (dC (.int 7919)) (zc 1))) (dC (.int 1))) (dC (.int 48271))) (dC (.int 2147483647))) (zE 2))
 (zaj (dOp oMod (dOp zar (zc 2) (zc 2)) (dC (.int 2147483629)))))
theorem zgB:∀ ds So Q,zaW ds So Q->ds.length=2:=by rintro ds So Q ⟨_,_,rfl,_⟩;rfl
theorem zhw:BodyOk 3 zcC zaW:=by
 rintro ds S Q ⟨c,k,rfl,h0,hk,q⟩
 unfold zcC
 have h1:=Int.emod_nonneg c (b:=1000000007) (by decide)
 have h2:=Int.emod_lt_of_pos c (b:=1000000007) (by decide)
 have cm1:zaq (c%1000000007+7919*k+1) 48271:=.inr (.inr (show (48271:Int).natAbs<2 ^ 64 by decide))
 have h3:=Int.emod_nonneg ((c%1000000007+7919*k+1)*48271) (b:=2147483647) (by decide)
 have h4:=Int.emod_lt_of_pos ((c%1000000007+7919*k+1)*48271) (b:=2147483647) (by decide)
 have cm2:zaq ((c%1000000007+7919*k+1)*48271%2147483647) ((c%1000000007+7919*k+1)*48271%2147483647):=.inr (.inr (show _<2 ^ 64 by omega))
 walk_at "g"
 exact fin_same (q _ (Int.emod_nonneg _ (by decide)) (Int.emod_lt_of_pos _ (by decide)))
def zmT (cs:List (Int×Int))(sc:Int):Prop:=∀ (i:Nat) a b,cs[i]?=some a->cs[i+1]?=some b->b.1-a.1<=4*sc
def za0:DSp:=fun ds S Q=>∃ (x:D) (zs:List Int) (n sc:Int),ds=[x,.int n,.int sc]/\Lst S x (zs.map D.int)/\2<=n/\n<=12/\n<=zs.length/\1<=sc/\sc<=10 ^ 20/\∀ cs:List (Int×Int),Grd cs->(cs.length:Int)=n->zmT cs sc->New Q S (cs.map p2)
def zbz:DS :=
    (zH (zM (zaZ zu) (zE 3))
 (zH (zM (dUn zem (dC (.int 10))) (zE 4))
 (zH (zds (zcX (zj (zc 1) zu)) (zE 5) (zH (zM (dCall zaW (zj (dOp oIx (zc 0) (zc 5)) (zj (zc 5) zu))) (zE 6))
 (zH (zaQ (dM zaU (zc 3) (zj (dTup (zj (dOp zar (zc 4) (zc 2)) (zj (dOp zar (dOp oMod (dOp oDiv (zc 6) (dC (.int 8))) (dC (.int 9))) (zc 2)) zu))) zu)))
 (zM (dOp zac (dOp zac (zc 4) (dC (.int 1))) (dOp oMod (dOp oDiv (zc 6) (dC (.int 72))) (dC (.int 4)))) (zE 4)))))
 (zaj (zc 3)))))
theorem zeZ:∀ ds So Q,za0 ds So Q->ds.length=3:=by rintro ds So Q ⟨_,_,_,_,rfl,_⟩;rfl
theorem zfa:BodyOk 7 zbz za0:=by
 rintro ds S Q ⟨x,zs,n,sc,rfl,hx,n2,n12,nz,sc1,sc2,q⟩
 unfold zbz
 walk_at "g"
 refine⟨_,rfl,by omega,by omega,?_⟩
 refine zcN (fun i ρ S'=>∃ (cs:List (Int×Int)) (u:Int) (w1 w2:Option D),S'=S++[.lst (cs.map p2)]/\ρ=[some x,some (.int n),some (.int sc),some (.ref S.length),some (.int u),w1,w2]/\cs.length=i/\-10<=u/\u<=-10+4*(i:Int)/\(cs.Pairwise fun a b=>a.1<b.1)/\zmT cs sc/\(∀ c∈cs,c.1<u*sc/\-(10*10 ^ 20)<=c.1/\0<=c.2/\c.2<=8*10 ^ 20)/\∀ z,cs[cs.length-1]?=some z->u*sc-z.1<=4*sc) ⟨[],-10,none,none,rfl,rfl,rfl,by omega,by omega,.nil,fun i a b h=>by simp at h,by simp,fun z h=>by simp at h⟩ (fun _ _ _ _=>True.intro) ?_ ?_
 ·rintro i d ρ S' hd ⟨cs,u,w1,w2,rfl,rfl,hcl,u0,u1,hp,hn,hc,hz⟩
  obtain⟨hi,rfl⟩:=zcc hd
  have hx':Lst (S++[.lst (cs.map p2)]) x (zs.map D.int):=hx.old
  obtain⟨z,_,az⟩:=zcR (zs:=zs) (k:=(0:Int)+(i:Int)) (by omega) (by omega)
  have hlim:(cs.map p2).length<big:=by rw [List.length_map];unfold big;omega
  walk_at "g"
  refine⟨z,_,rfl,by omega,by omega,fun m m0 m1=>?_⟩
  have h0:=Int.emod_nonneg (m/8) (show (9:Int)≠0 by decide)
  have h1:=Int.emod_lt_of_pos (m/8) (show (0:Int)<9 by decide)
  have cm1:zaq u sc:=.inr (.inl (show _<2 ^ 64 by omega))
  have cm2:zaq (m/8%9) sc:=.inr (.inl (show _<2 ^ 64 by omega))
  have k1:=Int.mul_nonneg h0 (show 0<=sc by omega)
  have k2:m/8%9*sc<=8*10 ^ 20:=by
   have:=Int.mul_le_mul (show m/8%9<=8 by omega) sc2 (by omega) (by decide)
   exact this
  have k3:-(10*10 ^ 20)<=u*sc:=by
   rcases Int.lt_or_le u 0 with g | g
   ·have:=Int.mul_le_mul (show -u<=10 by omega) sc2 (by omega) (by decide)
    rw [Int.neg_mul] at this
    omega
   ·have:=Int.mul_nonneg g (show 0<=sc by omega)
    omega
  have v0:=Int.emod_nonneg (m/72) (show (4:Int)≠0 by decide)
  have v1:=Int.emod_lt_of_pos (m/72) (show (0:Int)<4 by decide)
  walk_at "g"
  generalize m/72%4=v at v0 v1 ⊢
  generalize hh:m/8%9*sc=hgt at k1 k2 ⊢
  have es:(u+1+v)*sc=u*sc+(1+v)*sc:=by grind
  have ks1:sc<=(1+v)*sc:=by
   have:=Int.mul_le_mul_of_nonneg_right (show 1<=1+v by omega) (show 0<=sc by omega)
   omega
  have ks2:(1+v)*sc<=4*sc:=Int.mul_le_mul_of_nonneg_right (by omega) (by omega)
  refine⟨cs++[(u*sc,hgt)],u+1+v,_,_,by rw [List.map_append];rfl,rfl,by simp [hcl],by omega,by omega,List.pairwise_append.mpr ⟨hp,List.pairwise_singleton _ _,fun a ha b hb=>?_⟩,fun j a b ha hb=>?_,fun c hc'=>?_,fun z' hz'=>?_⟩
  ·have:b=(u*sc,hgt):=by simpa using hb
   subst this
   exact (hc a ha).1
  ·have lb:=zav hb
   rw [List.length_append] at lb
   have lb':j+1<cs.length+1:=lb
   rcases Nat.lt_or_ge (j+1) cs.length with e | e
   ·rw [List.getElem?_append_left (by omega)] at ha hb
    exact hn j a b ha hb
   ·have e1:j+1=cs.length:=by omega
    rw [List.getElem?_append_right (by omega),show j+1-cs.length=0 by omega] at hb
    have:(u*sc,hgt)=b:=by simpa using hb
    subst this
    rw [List.getElem?_append_left (by omega)] at ha
    exact hz a (by rw [show cs.length-1=j by omega];exact ha)
  ·rcases List.mem_append.mp hc' with h | h
   ·have:=hc c h
    exact⟨by omega,this.2.1,this.2.2.1,this.2.2.2⟩
   ·have:c=(u*sc,hgt):=by simpa using h
    subst this
    exact⟨by show u*sc<_;omega,k3,k1,k2⟩
  ·rw [List.length_append,show cs.length+[(u*sc,hgt)].length-1=cs.length by simp,List.getElem?_append_right (Nat.le_refl _),Nat.sub_self] at hz'
   have:(u*sc,hgt)=z':=by simpa using hz'
   subst this
   show (u+1+v)*sc-u*sc<=4*sc
   omega
 ·rintro ρ S' ⟨cs,u,w1,w2,rfl,rfl,hcl,u0,u1,hp,hn,hc,hz⟩
  rw [zaR] at hcl u1
  walk_at "g"
  have hus:u*sc<=40*10 ^ 20:=by
   rcases Int.lt_or_le u 0 with g | g
   ·have:=Int.mul_nonneg (show 0<=-u by omega) (show 0<=sc by omega)
    rw [Int.neg_mul] at this
    omega
   ·exact Int.mul_le_mul (show u<=40 by omega) sc2 (by omega) (by decide)
  exact fin_same (q cs ⟨by omega,by omega,hp,fun c hc'=>⟨by have:=hc c hc';show _<2 ^ 170;omega,by have:=hc c hc';show _<2 ^ 190;omega⟩⟩ (by omega) hn)
def stemOf (b:Int):Str:=if b%4=0 then "" else if b%4=1 then "q" else if b%4=2 then "peak" else "hill"
def zaV (b:Int)(k:Nat):Str:=stemOf b++⟨#[97+((b/4+7*(k:Int))%26).toNat]⟩
theorem zg9 (b:Int):(stemOf b).length<=4:=by
  unfold stemOf
  split
  · decide +kernel
  · split
    · decide +kernel
    · split<;>decide +kernel
theorem ziO:∀ i:_root_.Fin 26,atS "abcdefghijklmnopqrstuvwxyz" ((i.val:Nat):Int)=some (97+i.val):=by decide +kernel
theorem znL (b:Int)(k:Nat):fl 20 (.str (zaV b k))=true:=by
  show (stemOf b++(⟨#[97+((b/4+7*(k:Int))%26).toNat]⟩:Str)).cps.all (· < 0x110000)=true
  show ((stemOf b).cps++#[97+((b/4+7*(k:Int))%26).toNat]).all (· < 0x110000)=true
  rw [Array.all_append,Bool.and_eq_true]
  refine⟨?_,?_⟩
  · unfold stemOf
    split
    · decide +kernel
    · split
      · decide +kernel
      · split<;>decide +kernel
  · have:=Int.emod_lt_of_pos (b/4+7*(k:Int)) (show (0:Int)<26 by decide)
    simp
    omega
def zbG:DSp:=fun ds S Q=>∃ b:Int,ds=[.int b]/\∀ g:Cell,Q (.ref (S.length+1)) (S++[g,.lst ((List.range 14).map fun k=>.str (zaV b k))])
def zcB:DS :=
    (zH (zM (dOp oIx (zaZ (zj (dC (.str "")) (zj (dC (.str "q")) (zj (dC (.str "peak")) (zj (dC (.str "hill")) zu))))) (dOp oMod (zc 0) (dC (.int 4)))) (zE 1))
 (zaj (dLC 1 [1,0] (zcX (zj (dC (.int 14)) zu)) (zE 0) zbc (dOp zac (zc 1) (dOp oIx (dC (.str "abcdefghijklmnopqrstuvwxyz")) (dOp oMod (dOp zac (dOp oDiv (zc 2) (dC (.int 4))) (dOp zar (dC (.int 7)) (zc 0))) (dC (.int 26))))))))
theorem zgI:∀ ds So Q,zbG ds So Q->ds.length=1:=by rintro ds So Q ⟨_,rfl,_⟩;rfl
theorem zg4:BodyOk 2 zcB zbG:=by
  rintro ds S Q ⟨b,rfl,q⟩
  unfold zcB
  have hb:b%4=0\/b%4=1\/b%4=2\/b%4=3:=by omega
  have as:atD [.str "",.str "q",.str "peak",.str "hill"] (b%4)=some (.str (stemOf b)):=by
    unfold stemOf
    rcases hb with e | e | e | e<;>rw [e]<;>rfl
  have sl:=zg9 b
  walk_at "g"
  refine⟨_,rfl,by decide,by decide,?_⟩
  refine zby (fun _=>true) (onI fun k=>.str (zaV b k.toNat)) True.intro (by rw [zaR];decide) (fun i d ys hd hw=>?_) ?_
  · obtain⟨hi,rfl⟩:=zcc hd
    have r1:=Int.emod_nonneg (b/4+7*(0+(i:Int))) (show (26:Int)≠0 by decide)
    have r2:=Int.emod_lt_of_pos (b/4+7*(0+(i:Int))) (show (0:Int)<26 by decide)
    walk_at "g"
    refine zoR (z:="abcdefghijklmnopqrstuvwxyz") (c:=97+((b/4+7*(0+(i:Int)))%26).toNat) (by decide +kernel) ?_ ?_
    · have:=ziO ⟨((b/4+7*(0+(i:Int)))%26).toNat,by omega⟩
      rw [show ((((b/4+7*(0+(i:Int)))%26).toNat:Nat):Int)=(b/4+7*(0+(i:Int)))%26 by omega] at this
      exact this
    walk_at "g"
    refine zhb (by show (stemOf b).length+1<=big;unfold big;omega) ?_
    refine zci hd hw rfl ?_
    show _=D.str (zaV b (0+(i:Int)).toNat)
    unfold zaV
    rw [show (((0+(i:Int)).toNat:Nat):Int)=0+(i:Int) by omega]
  rw [filter_true]
  have e:(upto 0 (14:Int).toNat).map (onI fun k=>D.str (zaV b k.toNat))=(List.range 14).map fun k=>D.str (zaV b k):=by
    unfold upto
    rw [List.map_map]
    refine List.map_congr_left fun k _=>?_
    show D.str (zaV b (0+(k:Int)).toNat)=_
    rw [show (0+(k:Int)).toNat=k by omega]
  rw [e]
  walk_at "g"
  exact fin_same (q _)
def zb0:DSp:=fun ds S Q=>∃ (x:D) (cs:List (Int×Int)) (a:Int),ds=[x,.int a]/\Lst S x (cs.map p2)/\Grd cs/\Bd 180 a/\OnG cs (a,1)/\Q (.int (zcp cs a)) S
def zc2:DS :=
    (zH (zds (zfs (zj (dC (.int 1)) (zj (dB zbs (zj (zc 0) zu)) zu))) (zE 2) (zH (zM (dOp oIx (zc 0) (dOp zbp (zc 2) (dC (.int 1)))) (zE 3))
 (zH (zM (dOp oIx (zc 0) (zc 2)) (zE 4))
 (sIf (ziI (dT (dOp oLe (dOp oIx (zc 3) (dC (.int 0))) (zc 1))) (dT (dOp oLe (zc 1) (dOp oIx (zc 4) (dC (.int 0)))))) (zH (zM (dOp zar (dOp zbp (dOp oIx (zc 4) (dC (.int 1))) (dOp oIx (zc 3) (dC (.int 1)))) (dOp zbp (zc 1) (dOp oIx (zc 3) (dC (.int 0))))) (zE 5))
 (zaj (dOp zbp (dOp oIx (zc 3) (dC (.int 1))) (dOp oDiv (dUn zem (zc 5)) (dOp zbp (dOp oIx (zc 4) (dC (.int 0))) (dOp oIx (zc 3) (dC (.int 0)))))))) zal))))
 (zaj (dC .non)))
theorem zho:∀ ds So Q,zb0 ds So Q->ds.length=2:=by rintro ds So Q ⟨_,_,_,rfl,_⟩;rfl
theorem zhW:BodyOk 6 zc2 zb0:=by
 rintro ds S Q ⟨x,cs,a,rfl,hx,gr,ba,on,q⟩
 unfold zc2
 have g1:=gr.two
 obtain⟨kk,l,r,hkl,hkr,hle,hlt⟩:=zfC gr.two on.2
 have seg:=seg_at hkl hkr hle hlt
 have hle':a<=r.1:=by have:a<=r.1*1:=hle;omega
 have hab:=zcP gr (show kk<kk+1 by omega) hkl hkr
 have hlo:l.1<=a:=by
  cases kk with
  | zero =>
   obtain⟨f,hf,ef⟩:=zca gr
   have h:=on.1
   rw [ef] at h
   rw [hkl] at hf;cases hf
   have:l.1*1<=a:=h
   omega
  | succ j =>
   have:=hlt (j+1) l (by omega) (by omega) hkl
   have:l.1*1<a:=this
   omega
 have q':Q (.int (l.2-(-((r.2-l.2)*(a-l.1)))/(r.1-l.1))) S:=by
  have e:l.2-(-((r.2-l.2)*(a-l.1)))/(r.1-l.1)=zcp cs a:=by
   unfold zcp
   rw [seg]
   unfold zcE hvT hvB
   dsimp only
   rw [if_pos (by omega),if_pos (by omega),Int.mul_one,Int.mul_one,Int.mul_one]
   have e2:-(l.2*(r.1-l.1)+(r.2-l.2)*(a-l.1))=-((r.2-l.2)*(a-l.1))+(-l.2)*(r.1-l.1):=by grind
   rw [e2,Int.add_mul_ediv_right _ _ (by omega)]
   omega
  rw [e];exact q
 walk_at "g"
 rw [List.length_map]
 refine⟨_,_,rfl,?_⟩
 refine zcN (fun i ρ S'=>S'=S/\(∃ w2 w3 w4 w5:Option D,ρ=[some x,some (.int a),w2,w3,w4,w5])/\i<=kk) ⟨rfl,⟨none,none,none,none,rfl⟩,by omega⟩ (fun _ _ _ _=>True.intro) ?_ ?_
 ·rintro i d ρ S' hd ⟨rfl,⟨w2,w3,w4,w5,rfl⟩,hik⟩
  obtain⟨hi,rfl⟩:=zcc hd
  obtain⟨b,hb,ab⟩:=zeW (cs:=cs) (k:=1+(i:Int)-1) (by omega) (by omega)
  obtain⟨c,hc,ac⟩:=zeW (cs:=cs) (k:=1+(i:Int)) (by omega) (by omega)
  rw [show (1+(i:Int)-1).toNat=i by omega] at hb
  rw [show (1+(i:Int)).toNat=i+1 by omega] at hc
  have hbc:=zcP gr (show i<i+1 by omega) hb hc
  obtain⟨bb1,bb2⟩:=gr.bd b (List.mem_of_getElem? hb)
  obtain⟨bc1,bc2⟩:=gr.bd c (List.mem_of_getElem? hc)
  have cm:zaq (c.2-b.2) (a-b.1):=.inl ⟨(Bd.sub bc2 bb2).mono (by decide),(Bd.sub ba (bb1.mono (by decide))).mono (by decide)⟩
  have dv:0<c.1-b.1/\Bd 8000 (c.1-b.1):=⟨by omega,(Bd.sub bc1 bb1).mono (by decide)⟩
  walk_at "g"
  refine r_d (fun h1=>?_) (fun h1=>?_)
  ·walk_at "g"
   refine r_d (fun h2=>?_) (fun h2=>?_)
   ·have e:i=kk:=by
     rcases Nat.lt_or_ge i kk with z | z
     ·have:=hlt (i+1) c (by omega) (by omega) hc
      have:c.1*1<a:=this
      omega
     ·omega
    subst e
    rw [hkl] at hb;cases hb
    rw [hkr] at hc;cases hc
    walk_at "g"
    exact fin_same q'
   ·walk_at "g"
    refine⟨rfl,⟨_,_,_,_,rfl⟩,?_⟩
    rcases Nat.lt_or_ge i kk with z | z
    ·omega
    ·have:i=kk:=by omega
     subst this
     rw [hkr] at hc;cases hc;omega
  ·exfalso
   rcases Nat.lt_or_ge i kk with z | z
   ·rcases Nat.eq_zero_or_pos i with e | e
    ·subst e
     obtain⟨f,hf,ef⟩:=zca gr
     rw [hb] at hf;cases hf
     have h:=on.1
     rw [ef] at h
     have:b.1*1<=a:=h
     omega
    ·have:=hlt i b e (by omega) hb
     have:b.1*1<a:=this
     omega
   ·have:i=kk:=by omega
    subst this
    rw [hkl] at hb;cases hb;omega
 ·rintro ρ S' ⟨rfl,_,hik⟩
  rw [zaR] at hik
  have:=zav hkr
  omega
def zbx:DSp:=fun ds S Q=>∃ (c k:Int) (x:D) (cs:List (Int×Int)) (sc:Int) (nm:Str),ds=[.int c,.int k,x,.int sc,.str nm]/\Lst S x (cs.map p2)/\Grd cs/\0<=k/\k<100/\1<=sc/\sc<=10 ^ 20/\fl 20 (.str nm)=true/\∀ s:Int×Int,Bd 175 s.1->Bd 195 s.2->zgd cs s->Q (bcD (nm,s)) S
def zco:DS :=
    (zH (zM (dCall zaW (zj (zc 0) (zj (dOp zac (zc 1) (dC (.int 20))) zu))) (zE 5))
 (zH (zM (dOp oDiv (dOp zbp (dOp oIx (dOp oIx (zc 2) (dUn zem (dC (.int 1)))) (dC (.int 0))) (dOp oIx (dOp oIx (zc 2) (dC (.int 0))) (dC (.int 0)))) (zc 3)) (zE 6))
 (zH (zM (dOp zac (dOp oIx (dOp oIx (zc 2) (dC (.int 0))) (dC (.int 0))) (dOp zar (dOp oMod (zc 5) (dOp zac (zc 6) (dC (.int 1)))) (zc 3))) (zE 7))
 (zaj (dTup (zj (zc 4) (zj (zc 7) (zj (dOp zac (dCall zb0 (zj (zc 2) (zj (zc 7) zu))) (dOp zar (dOp oIx (zaZ (zj (dC (.int 0)) (zj (dC (.int 1)) (zj (dC (.int 1)) (zj (dC (.int 2)) (zj (dC (.int 4)) (zj (dC (.int 7)) zu))))))) (dOp oMod (dOp oDiv (zc 5) (dC (.int 50))) (dC (.int 6)))) (zc 3))) zu))))))))
theorem zgk:∀ ds So Q,zbx ds So Q->ds.length=5:=by rintro ds So Q ⟨_,_,_,_,_,_,rfl,_⟩;rfl
theorem zgK:BodyOk 8 zco zbx:=by
  rintro ds S Q ⟨c,k,x,cs,sc,nm,rfl,hx,gr,k0,k1,sc1,sc2,hnm,q⟩
  unfold zco
  obtain⟨f,hf,ef⟩:=zca gr
  obtain⟨lc,hlc,elc,alc⟩:=zjU gr
  have af:atD (cs.map p2) 0=some (p2 f):=zcS (i:=0) (by rw [List.getElem?_map,hf];rfl)
  have bf:=(gr.bd f (List.mem_of_getElem? hf)).1
  have bl:=(gr.bd lc (List.mem_of_getElem? hlc)).1
  have g1:=gr.two
  have hfl:=zcP gr (show 0<cs.length-1 by omega) hf hlc
  walk_at "g"
  refine⟨c,_,rfl,by omega,by omega,fun m m0 m1=>?_⟩
  have dv:0<sc/\Bd 8000 sc:=⟨by omega,by
    have:Bd 200 sc:=by show _<2 ^ 200;omega
    exact this.mono (by decide)⟩
  have w0:0<=(lc.1-f.1)/sc:=Int.ediv_nonneg (by omega) (by omega)
  have w1:=Int.ediv_mul_le (lc.1-f.1) (b:=sc) (by omega)
  have v0:=Int.emod_nonneg m (show (lc.1-f.1)/sc+1≠0 by omega)
  have v1:=Int.emod_lt_of_pos m (show 0<(lc.1-f.1)/sc+1 by omega)
  have v2:m%((lc.1-f.1)/sc+1)<=m:=by
    have h1:=Int.mul_ediv_add_emod m ((lc.1-f.1)/sc+1)
    have h2:=Int.mul_nonneg (show 0<=(lc.1-f.1)/sc+1 by omega) (Int.ediv_nonneg m0 (show 0<=(lc.1-f.1)/sc+1 by omega))
    omega
  have cm1:zaq (m%((lc.1-f.1)/sc+1)) sc:=.inr (.inl (show _<2 ^ 64 by omega))
  have x0:=Int.mul_nonneg v0 (show 0<=sc by omega)
  have x1:m%((lc.1-f.1)/sc+1)*sc<=lc.1-f.1:=Int.le_trans (Int.mul_le_mul_of_nonneg_right (by omega) (by omega)) w1
  walk_at "g"
  generalize m%((lc.1-f.1)/sc+1)*sc=d at x0 x1
  have on:OnG cs (f.1+d,1):=⟨by rw [ef];show f.1*1<=f.1+d;omega,by rw [elc];show f.1+d<=lc.1*1;omega⟩
  have bx:Bd 171 (f.1+d):=(Bd.btw (n:=170) bf bl (by omega) (by omega)).mono (by decide)
  refine⟨x,cs,f.1+d,rfl,hx,gr,bx.mono (by decide),on,?_⟩
  have bF:=zj2 gr on
  have r1:=Int.emod_nonneg (m/50) (show (6:Int)≠0 by decide)
  have r2:=Int.emod_lt_of_pos (m/50) (show (0:Int)<6 by decide)
  obtain⟨u,hu,au⟩:=zcR (zs:=[0,1,1,2,4,7]) (k:=m/50%6) r1 (by show _<(6:Int);exact r2)
  have u0:0<=u/\u<=7:=by
    simp only [List.mem_cons,List.not_mem_nil,or_false] at hu
    rcases hu with rfl | rfl | rfl | rfl | rfl | rfl<;>omega
  clear hu
  have cm2:zaq u sc:=.inr (.inl (show _<2 ^ 64 by omega))
  have t0:=Int.mul_nonneg u0.1 (show 0<=sc by omega)
  have t1:u*sc<=7*10 ^ 20:=Int.mul_le_mul u0.2 sc2 (by omega) (by decide)
  walk_at "g"
  refine zcw ?_ (q (f.1+d,zcp cs (f.1+d)+u*sc) (bx.mono (by decide)) ((Bd.add bF (by show _<2 ^ 192;omega)).mono (by decide)) ((zkA gr (s:=(f.1+d,zcp cs (f.1+d)+u*sc)) on).mpr (by show zcp cs (f.1+d)<=zcp cs (f.1+d)+u*sc;omega)))
  show (fl 19 (.str nm)&&true)=true
  rw [Bool.and_true];exact hnm
def zch:DSp:=fun ds S Q=>∃ (c k:Int) (x:D) (cs:List (Int×Int)) (sc h0 h1:Int),ds=[.int c,.int k,x,.int sc,.tup [.int h0,.int h1]]/\Lst S x (cs.map p2)/\Grd cs/\0<=k/\k<100/\1<=sc/\sc<=10 ^ 20/\h0<=h1/\Bd 200 h0/\Bd 200 h1/\∀ F:Fg,FgV F->Q (fgD F) S
def zdm:DS :=
    (zH (zM (dCall zaW (zj (zc 0) (zj (dOp zac (zc 1) (dC (.int 40))) zu))) (zE 5))
 (zH (zM (dOp zac (dOp oIx (dOp oIx (zc 2) (dC (.int 0))) (dC (.int 0))) (dOp zar (dOp zbp (dOp oMod (zc 5) (dC (.int 14))) (dC (.int 2))) (zc 3))) (zE 6))
 (zH (zM (dOp zar (dOp zbp (dOp oMod (dOp oDiv (zc 5) (dC (.int 14))) (dC (.int 14))) (dC (.int 3))) (zc 3)) (zE 7))
 (zH (zM (dOp zac (dOp zbp (dOp oIx (zc 4) (dC (.int 0))) (dC (.int 3))) (dOp oMod (dOp oDiv (zc 5) (dC (.int 196))) (dOp zac (dOp zbp (dOp oIx (zc 4) (dC (.int 1))) (dOp oIx (zc 4) (dC (.int 0)))) (dC (.int 5))))) (zE 8))
 (zH (zM (dOp zar (dOp oMod (dOp oDiv (zc 5) (dC (.int 3000))) (dC (.int 4))) (zc 3)) (zE 9))
 (zH (zM (dOp zar (dOp oMod (dOp oDiv (zc 5) (dC (.int 12000))) (dC (.int 4))) (zc 3)) (zE 10))
 (zH (zM (dOp zar (dOp zbp (dOp oMod (dOp oDiv (zc 5) (dC (.int 48000))) (dC (.int 5))) (dC (.int 2))) (zc 3)) (zE 11))
 (zaj (dTup (zj (zc 6) (zj (dOp zac (zc 6) (zc 9)) (zj (zc 7) (zj (dOp zac (zc 7) (zc 10)) (zj (zc 8) (zj (dOp zac (zc 8) (dOp oMod (dOp oDiv (zc 5) (dC (.int 240000))) (dC (.int 9)))) (zj (zc 11) (zj (dOp zar (dOp zbp (dOp oMod (dOp oDiv (zc 5) (dC (.int 2160000))) (dC (.int 3))) (dC (.int 1))) (zc 3)) zu)))))))))))))))))
theorem zh3:∀ ds So Q,zch ds So Q->ds.length=5:=by rintro ds So Q ⟨_,_,_,_,_,_,_,rfl,_⟩;rfl
theorem ziV:BodyOk 12 zdm zch:=by
 rintro ds S Q ⟨c,k,x,cs,sc,h0,h1,rfl,hx,gr,k0,k1,sc1,sc2,hh,bh0,bh1,q⟩
 unfold zdm
 obtain⟨f,hf,ef⟩:=zca gr
 have af:atD (cs.map p2) 0=some (p2 f):=zcS (i:=0) (by rw [List.getElem?_map,hf];rfl)
 have bf:=(gr.bd f (List.mem_of_getElem? hf)).1
 walk_at "g"
 refine⟨c,_,rfl,by omega,by omega,fun m m0 m1=>?_⟩
 have cm:∀ u:Int,u.natAbs<2 ^ 64->zaq u sc:=fun u h=>.inr (.inl h)
 have c1:=cm (m%14-2) (by omega)
 have c2:=cm (m/14%14-3) (by omega)
 have c3:=cm (m/3000%4) (by omega)
 have c4:=cm (m/12000%4) (by omega)
 have c5:=cm (m/48000%5-2) (by omega)
 have c6:=cm (m/2160000%3-1) (by omega)
 have hm:0<h1-h0+5:=by omega
 have w1:=Int.mul_nonneg (show 0<=m/3000%4 by omega) (show 0<=sc by omega)
 have w2:=Int.mul_nonneg (show 0<=m/12000%4 by omega) (show 0<=sc by omega)
 have sb:∀ {u:Int},-100<=u->u<=100->Bd 190 (u*sc):=fun {u} h1 h2=>by
  show (u*sc).natAbs<2 ^ 190
  rw [Int.natAbs_mul]
  exact Nat.lt_of_le_of_lt (Nat.mul_le_mul (show u.natAbs<=100 by omega) (show sc.natAbs<=10 ^ 20 by omega)) (by decide)
 have b1:Bd 190 ((m%14-2)*sc):=sb (by omega) (by omega)
 have b2:Bd 190 ((m/14%14-3)*sc):=sb (by omega) (by omega)
 have b3:Bd 190 (m/3000%4*sc):=sb (by omega) (by omega)
 have b4:Bd 190 (m/12000%4*sc):=sb (by omega) (by omega)
 have b5:Bd 190 ((m/48000%5-2)*sc):=sb (by omega) (by omega)
 have b6:Bd 190 ((m/2160000%3-1)*sc):=sb (by omega) (by omega)
 walk_at "g"
 have r0:=Int.emod_nonneg (m/196) (show h1-h0+5≠0 by omega)
 have r1:=Int.emod_lt_of_pos (m/196) hm
 have bl:Bd 300 (h0-3+m/196%(h1-h0+5)):=by
  have:Bd 201 (h0-3+m/196%(h1-h0+5)):=by
   unfold Bd at bh0 bh1 ⊢
   omega
  exact this.mono (by decide)
 have ad:∀ {a b:Int},Bd 190 a->Bd 190 b->Bd 600 (a+b):=fun h1 h2=>(Bd.add h1 h2).mono (by decide)
 have bl0:Bd 191 (f.1+(m%14-2)*sc):=Bd.add (bf.mono (by decide)) b1
 refine fin_same (q ⟨f.1+(m%14-2)*sc,f.1+(m%14-2)*sc+m/3000%4*sc,(m/14%14-3)*sc,(m/14%14-3)*sc+m/12000%4*sc,h0-3+m/196%(h1-h0+5),h0-3+m/196%(h1-h0+5)+m/240000%9,(m/48000%5-2)*sc,(m/2160000%3-1)*sc⟩ ⟨⟨by dsimp only;omega,by dsimp only;omega,bl0.mono (by decide),(Bd.add bl0 (b3.mono (by decide))).mono (by decide),b2.mono (by decide),ad b2 b4,b5.mono (by decide),b6.mono (by decide)⟩,by dsimp only;omega,bl,?_⟩)
 show Bd 300 (h0-3+m/196%(h1-h0+5)+m/240000%9)
 have:Bd 202 (h0-3+m/196%(h1-h0+5)+m/240000%9):=by
  unfold Bd at bh0 bh1 ⊢
  omega
 exact this.mono (by decide)
def scl (c:Int):Int:=if c%3=2 then 10 ^ 20 else 1
theorem zmr (c:Int):1<=scl c/\scl c<=10 ^ 20:=by unfold scl;split<;>decide
theorem zm7 (c:Int):atD [.int 1,.int 1,.int 100000000000000000000] (c%3)=some (.int (scl c)):=by
  have h:c%3=0\/c%3=1\/c%3=2:=by omega
  unfold scl
  rcases h with e | e | e<;>rw [e]<;>rfl
theorem zeE (b:Int)(k:Nat):(zaV b k).cps.toList=(stemOf b).cps.toList++[97+((b/4+7*(k:Int))%26).toNat]:=by
 show ((stemOf b).cps++#[97+((b/4+7*(k:Int))%26).toNat]).toList=_
 simp
theorem zkG (b:Int):∀ c∈(stemOf b).cps.toList,c∈abc:=by
  unfold stemOf
  split
  · decide +kernel
  · split
    · decide +kernel
    · split<;>decide +kernel
theorem zly (b:Int)(k:Nat):nmB (zaV b k)=true:=by
 have h1:=zg9 b
 have e:(zaV b k).length=(stemOf b).length+1:=by
  show ((stemOf b).cps++#[97+((b/4+7*(k:Int))%26).toNat]).size=(stemOf b).cps.size+1
  simp
 rw [zgm,e]
 refine⟨by omega,by omega,fun c hc=>?_⟩
 rw [zeE] at hc
 rcases List.mem_append.mp hc with hc | hc
 ·exact zkG b c hc
 ·rw [List.mem_singleton.mp hc]
  exact ziv.mpr (by omega)
theorem zkD {b:Int}{i j:Nat}(hi:i<14)(hj:j<14)(e:zaV b i=zaV b j):i=j:=by
 have h:(zaV b i).cps.toList=(zaV b j).cps.toList:=congrArg (fun z:Str=>z.cps.toList) e
 rw [zeE,zeE] at h
 have h2:=List.append_cancel_left h
 have h3:97+((b/4+7*(i:Int))%26).toNat=97+((b/4+7*(j:Int))%26).toNat:=by simpa using h2
 omega
def zbJ:DSp:=fun ds S Q=>∃ (ns:List Int),ds=[.rl (ns.map D.int)]/\ns.length<=63/\∀ (T:Sto) (x y z:D) (V:Vl),VlT V->V.bs.length<=6->V.fs.length<=4->VlS (S++T) x y z V->Q (vlD x y z V) (S++T)
def zcA:DS :=
    (zH (zM (dCall zbj (zj (zc 0) (zj (dC (.int 0)) zu))) (zE 1))
 (zH (zM (dCall zbj (zj (zc 0) (zj (dC (.int 1)) zu))) (zE 2))
 (zH (zM (dCall zbj (zj (zc 0) (zj (dC (.int 2)) zu))) (zE 3))
 (zH (zM (dCall zbv (zj (zc 0) (zj (dC (.int 3)) (zj (dC (.int 18)) zu)))) (zE 4))
 (zH (zM (dOp oIx (zaZ (zj (dC (.int 1)) (zj (dC (.int 1)) (zj (dC (.int 100000000000000000000)) zu)))) (dOp oMod (zc 1) (dC (.int 3)))) (zE 5))
 (zH (zM (dOp oIx (zaZ (zj (dC (.int 0)) (zj (dC (.int 7)) (zj (dUn zem (dC (.int 1000000000000000000000000000000))) zu)))) (dOp oMod (dOp oDiv (zc 1) (dC (.int 3))) (dC (.int 3)))) (zE 6))
 (zH (zM (dTup (zj (zc 6) (zj (dOp zac (zc 6) (dOp oMod (dOp oDiv (zc 1) (dC (.int 9))) (dC (.int 12)))) zu))) (zE 7))
 (zH (zM (dCall za0 (zj (zc 4) (zj (dOp zac (dC (.int 3)) (dOp oMod (dOp oDiv (zc 1) (dC (.int 540))) (dC (.int 6)))) (zj (zc 5) zu)))) (zE 8))
 (zH (zM (dCall zbG (zj (dOp oDiv (zc 2) (dC (.int 30))) zu)) (zE 9))
 (zH (zM (dLC 1 [4,8,5,9] (zcX (zj (dOp zac (dC (.int 1)) (dOp oMod (zc 2) (dC (.int 6)))) zu)) (zE 0) zbc (dCall zbx (zj (dOp oIx (zc 1) (dOp zac (dC (.int 8)) (zc 0))) (zj (zc 0) (zj (zc 2) (zj (zc 3) (zj (dOp oIx (zc 4) (zc 0)) zu))))))) (zE 10))
 (zH (zM (dLC 1 [4,8,5,7] (zcX (zj (dOp oMod (dOp oDiv (zc 2) (dC (.int 6))) (dC (.int 5))) zu)) (zE 0) zbc (dCall zch (zj (dOp oIx (zc 1) (dOp zac (dC (.int 14)) (dOp oMod (zc 0) (dC (.int 4))))) (zj (zc 0) (zj (zc 2) (zj (zc 3) (zj (zc 4) zu))))))) (zE 11))
 (zH (zM (dC .non) (zE 12))
 (zH (sJ (sIf (dT (dOp oEq (dOp oMod (zc 3) (dC (.int 2))) (dC (.int 1)))) (zM (dOp zar (dOp zar (dOp oMod (dOp oDiv (zc 3) (dC (.int 2))) (dC (.int 25))) (zc 5)) (dOp zar (dOp oMod (dOp oDiv (zc 3) (dC (.int 2))) (dC (.int 25))) (zc 5))) (zE 12)) zal))
 (zaj (dTup (zj (zc 8) (zj (zc 10) (zj (zc 11) (zj (zc 12) (zj (dOp oIx (zc 7) (dC (.int 0))) (zj (dOp oIx (zc 7) (dC (.int 1))) (zj (dOp oIx (zaZ (zj (dC (.int 0)) (zj (dC (.int 1)) (zj (dC (.int 1)) (zj (dC (.int 2)) (zj (dC (.int 5)) zu)))))) (dOp oMod (dOp oDiv (zc 1) (dC (.int 108))) (dC (.int 5)))) zu))))))))))))))))))))))
theorem zgE:∀ ds So Q,zbJ ds So Q->ds.length=1:=by rintro ds So Q ⟨_,rfl,_⟩;rfl
theorem zhv:BodyOk 13 zcA zbJ:=by
  rintro ds S Q ⟨ns,rfl,hl,q⟩
  unfold zcA
  walk_at "g"
  refine⟨ns,0,rfl,?_⟩
  walk_at "g"
  refine⟨ns,1,rfl,?_⟩
  walk_at "g"
  refine⟨ns,2,rfl,?_⟩
  obtain⟨sb1,sb2⟩:=zmr (ns.getD 0 0)
  have asc:=zm7 (ns.getD 0 0)
  generalize hsc:scl (ns.getD 0 0)=sc at sb1 sb2 asc q
  generalize ns.getD 0 0=c0 at asc
  generalize ns.getD 1 0=c1
  generalize ns.getD 2 0=c2
  walk_at "g"
  refine⟨ns,_,_,rfl,hl,by decide,by decide,by decide,fun cells hcl=>?_⟩
  have r1:=Int.emod_nonneg (c0/3) (show (3:Int)≠0 by decide)
  have r2:=Int.emod_lt_of_pos (c0/3) (show (0:Int)<3 by decide)
  obtain⟨fh,mfh,afh⟩:=zcR (zs:=[0,7,-1000000000000000000000000000000]) (k:=c0/3%3) r1 (by show _<(3:Int);exact r2)
  have bfh:Bd 150 fh/\Bd 150 (fh+c0/9%12):=by
    have:fh=0\/fh=7\/fh=-1000000000000000000000000000000:=by
      simpa using mfh
    have h9:0<=c0/9%12/\c0/9%12<12:=by omega
    constructor
    · show fh.natAbs<2 ^ 150
      rcases this with rfl | rfl | rfl<;>decide
    · show (fh+c0/9%12).natAbs<2 ^ 150
      have:(2:Nat) ^ 150=1427247692705959881058285969449495136382746624:=by decide
      rw [this];omega
  walk_at "g"
  walk_at "drho"
  obtain⟨Sg,hSg⟩:∃ Sg:Sto,Sg=S++[Cell.lst (cells.map D.int),.lst [.int 1,.int 1,.int 100000000000000000000],.lst [.int 0,.int 7,.int (-1000000000000000000000000000000)]]:=⟨_,rfl⟩
  have kg:Lst Sg (.ref S.length) (cells.map D.int):=hSg▸Lst.at0
  rw [<- hSg]
  refine⟨_,cells,_,sc,rfl,kg,by omega,by omega,by omega,sb1,sb2,fun cs gr hcn near=>?_⟩
  have g9:cs.length<=9:=by omega
  unfold New
  obtain⟨S1,hS1⟩:∃ S1:Sto,S1=Sg++[.lst (cs.map p2)]:=⟨_,rfl⟩
  have kc:Lst S1 (.ref Sg.length) (cs.map p2):=hS1▸Lst.at0
  have kg1:Lst S1 (.ref S.length) (cells.map D.int):=hS1▸kg.old
  rw [<- hS1]
  walk_at "g"
  refine⟨_,rfl,fun gb=>?_⟩
  obtain⟨S2,hS2⟩:∃ S2:Sto,S2=S1++[gb,.lst ((List.range 14).map fun k=>.str (zaV (c1/30) k))]:=⟨_,rfl⟩
  have kn:Lst S2 (.ref (S1.length+1)) ((List.range 14).map fun k=>.str (zaV (c1/30) k)):=hS2▸Lst.at rfl
  have kc2:Lst S2 (.ref Sg.length) (cs.map p2):=hS2▸kc.old
  have kg2:Lst S2 (.ref S.length) (cells.map D.int):=hS2▸kg1.old
  rw [<- hS2]
  have b0:=Int.emod_nonneg c1 (show (6:Int)≠0 by decide)
  have b1:=Int.emod_lt_of_pos c1 (show (0:Int)<6 by decide)
  walk_at "g"
  refine⟨_,rfl,by omega,by omega,?_⟩
  refine zfq (fun i ys S'=>S'=S2/\∃ bs:List (Str×(Int×Int)),ys=bs.map bcD/\bs.length=i/\(∀ b∈bs,zgd cs b.2/\Bd 175 b.2.1/\Bd 195 b.2.2)/\∀ (j:Nat) b,bs[j]?=some b->b.1=zaV (c1/30) j) ⟨rfl,[],rfl,rfl,by simp,fun j b h=>by simp at h⟩ (fun _ _ _ _=>True.intro) (by rw [zaR];unfold big;omega) ?_ ?_
  · rintro i d ys S' hd ⟨rfl,bs,rfl,hbl,hbs,hnm⟩
    obtain⟨hi,rfl⟩:=zcc hd
    obtain⟨v,_,av⟩:=zcR (zs:=cells) (k:=8+(0+(i:Int))) (by omega) (by omega)
    have an:atD ((List.range 14).map fun k=>D.str (zaV (c1/30) k)) (0+(i:Int))=some (.str (zaV (c1/30) i)):=by
      rw [show (0:Int)+(i:Int)=(i:Int) by omega]
      exact zcS (by rw [List.getElem?_map,List.getElem?_range (by omega)];rfl)
    walk_at "g"
    refine⟨v,_,_,cs,sc,_,rfl,kc2,gr,by omega,by omega,sb1,sb2,znL _ _,fun s s1 s2 ss=>?_⟩
    refine⟨rfl,bs++[(zaV (c1/30) i,s)],by rw [List.map_append];rfl,by simp [hbl],fun b hb=>?_,fun j b hb=>?_⟩
    · rcases List.mem_append.mp hb with h | h
      · exact hbs b h
      · have:b=(zaV (c1/30) i,s):=by simpa using h
        subst this
        exact⟨ss,s1,s2⟩
    · rcases Nat.lt_or_ge j bs.length with g | g
      · rw [List.getElem?_append_left g] at hb;exact hnm j b hb
      · have lj:=zav hb
        rw [List.length_append] at lj
        have ej:j=bs.length:=by simp at lj;omega
        subst ej
        rw [List.getElem?_append_right (Nat.le_refl _),Nat.sub_self] at hb
        have:(zaV (c1/30) i,s)=b:=by simpa using hb
        rw [<- this,hbl]
  rintro ys S' ⟨rfl,bs,rfl,hbl,hbs,hnm⟩
  rw [zaR] at hbl
  unfold New
  obtain⟨S3,hS3⟩:∃ S3:Sto,S3=S'++[.lst (bs.map bcD)]:=⟨_,rfl⟩
  have kb:Lst S3 (.ref S'.length) (bs.map bcD):=hS3▸Lst.at0
  have kc3:Lst S3 (.ref Sg.length) (cs.map p2):=hS3▸kc2.old
  have kg3:Lst S3 (.ref S.length) (cells.map D.int):=hS3▸kg2.old
  rw [<- hS3]
  walk_at "g"
  refine⟨_,rfl,by omega,by omega,?_⟩
  refine zfq (fun i ys S'=>S'=S3/\∃ fs:List Fg,ys=fs.map fgD/\fs.length=i/\∀ F∈fs,FgV F) ⟨rfl,[],rfl,rfl,by simp⟩ (fun _ _ _ _=>True.intro) (by rw [zaR];unfold big;omega) ?_ ?_
  · rintro i d ys S'' hd ⟨rfl,fs,rfl,hfl,hfs⟩
    obtain⟨hi,rfl⟩:=zcc hd
    obtain⟨v,_,av⟩:=zcR (zs:=cells) (k:=14+(0+(i:Int))%4) (by omega) (by omega)
    walk_at "g"
    refine⟨v,_,_,cs,sc,fh,_,rfl,kc3,gr,by omega,by omega,sb1,sb2,by omega,bfh.1.mono (by decide),bfh.2.mono (by decide),fun F hF=>?_⟩
    refine⟨rfl,fs++[F],by rw [List.map_append];rfl,by simp [hfl],fun G hG=>?_⟩
    rcases List.mem_append.mp hG with h | h
    · exact hfs G h
    · rw [List.mem_singleton.mp h];exact hF
  rintro fsD S'' ⟨rfl,fs,rfl,hfl,hfs⟩
  rw [zaR] at hfl
  unfold New
  obtain⟨S4,hS4⟩:∃ S4:Sto,S4=S''++[.lst (fs.map fgD)]:=⟨_,rfl⟩
  have kf:Lst S4 (.ref S''.length) (fs.map fgD):=hS4▸Lst.at0
  have kb4:Lst S4 (.ref S'.length) (bs.map bcD):=hS4▸kb.old
  have kc4:Lst S4 (.ref Sg.length) (cs.map p2):=hS4▸kc3.old
  have e4:∃ T,S4=S++T:=zeV (zeV (zeV (zeV ⟨_,hSg⟩ hS1) hS2) hS3) hS4
  rw [<- hS4]
  clear hS4 hS3 hS2 hS1 hSg
  have h25:∀ u:Int,u.natAbs<2 ^ 60->zaq u sc:=fun u h=>.inr (.inl (by omega))
  have cm1:=h25 (c2/2%25) (by omega)
  have bz:Bd 200 (c2/2%25*sc):=by
    have t0:=Int.mul_nonneg (show 0<=c2/2%25 by omega) (show 0<=sc by omega)
    have t1:c2/2%25*sc<=25*10 ^ 20:=Int.mul_le_mul (by omega) sb2 (by omega) (by decide)
    show _<2 ^ 200
    omega
  have cm2:zaq (c2/2%25*sc) (c2/2%25*sc):=.inl ⟨bz.mono (by decide),bz.mono (by decide)⟩
  obtain⟨T4,rfl⟩:=e4
  have d1:=Int.emod_nonneg (c0/108) (show (5:Int)≠0 by decide)
  have d2:=Int.emod_lt_of_pos (c0/108) (show (0:Int)<5 by decide)
  obtain⟨dl,mdl,adl⟩:=zcR (zs:=[0,1,1,2,5]) (k:=c0/108%5) d1 (by show _<(5:Int);exact d2)
  have hdl:0<=dl/\dl<=5:=by
    have:dl=0\/dl=1\/dl=1\/dl=2\/dl=5:=by simpa using mdl
    omega
  have bnd:(bs.map (·.1)).Nodup:=by
    refine List.pairwise_iff_getElem.mpr fun i j hi hj hij e=>?_
    rw [List.length_map] at hi hj
    rw [List.getElem_map,List.getElem_map] at e
    rw [hnm i _ (List.getElem?_eq_getElem hi),hnm j _ (List.getElem?_eq_getElem hj)] at e
    have:=zkD (by omega) (by omega) e
    omega
  have bnm:∀ b∈bs,nmB b.1=true:=fun b hb=>by
    obtain⟨j,hj,ej⟩:=List.mem_iff_getElem.mp hb
    rw [hnm j b (by rw [List.getElem?_eq_getElem hj,ej])];exact zly _ _
  have sm:∀ {x:Int},0<=x->x<=5->Bd 600 x:=fun {x} h1 h2=>(show Bd 3 x by show _<2 ^ 3;omega).mono (by decide)
  have fin:∀ (T:Sto) (hz:Option Int),(∀ z,hz=some z->0<=z/\Bd 600 z)->Q (.tup [.ref Sg.length,.ref S'.length,.ref S''.length,zbM hz,.int fh,.int (fh+c0/9%12),.int dl]) (S++(T4++T)):=fun T hz hhz=>by
    have ok:zkt ⟨cs,bs,fs,hz,fh,fh+c0/9%12,dl⟩:={ gr:=gr,b1:=(by show 1<=bs.length;omega),b12:=(by show bs.length<=12;omega),nm:=bnm,nd:=bnd,st:=fun b hb=>(hbs b hb).1,bd:=fun b hb=>⟨(hbs b hb).2.1.mono (by decide),(hbs b hb).2.2.mono (by decide)⟩,f12:=(by show fs.length<=12;omega),fg:=hfs,hz:=fun z e=>(hhz z e).1,hh:=(by show fh<=fh+c0/9%12;omega),b0:=bfh.1.mono (by decide),bl:=bfh.2.mono (by decide),dl:=hdl.1 }
    exact q (T4++T) _ _ _ ⟨cs,bs,fs,hz,fh,fh+c0/9%12,dl⟩ ⟨ok,fun z e=>(hhz z e).2,sm hdl.1 hdl.2⟩ (by show bs.length<=6;omega) (by show fs.length<=4;omega) ⟨by rw [<- List.append_assoc];exact kc4.old,by rw [<- List.append_assoc];exact kb4.old,by rw [<- List.append_assoc];exact kf.old⟩
  walk_at "g"
  refine r_J (fun ρ S5=>S5=S++T4/\∃ hz:Option Int,(∀ z,hz=some z->0<=z/\Bd 600 z)/\ρ=[some (.rl (ns.map D.int)),some (.int c0),some (.int c1),some (.int c2),some (.ref S.length),some (.int sc),some (.int fh),some (.tup [.int fh,.int (fh+c0/9%12)]),some (.ref Sg.length),some (.ref (S1.length+1)),some (.ref S'.length),some (.ref S''.length),some (zbM hz)]) ?_ ?_
  · walk_at "g"
    refine r_d (fun _=>?_) (fun _=>?_)
    · walk_at "g"
      refine⟨rfl,some (c2/2%25*sc*(c2/2%25*sc)),fun z e=>?_,rfl⟩
      have e':=Option.some.inj e
      rw [<- e']
      have t0:=Int.mul_nonneg (show 0<=c2/2%25 by omega) (show 0<=sc by omega)
      exact⟨Int.mul_nonneg t0 t0,(Bd.mul bz bz).mono (by decide)⟩
    · walk_at "g"
      exact⟨rfl,none,(fun z e=>by cases e),rfl⟩
  rintro ρ S5 ⟨rfl,hz,hhz,rfl⟩
  walk_at "g"
  exact fin_same (fin _ _ hhz)
def zao:DSp:=fun ds S Q=>∃ (x:D) (cs:List (Int×Int)),ds=[x]/\Lst S x (cs.map p2)/\Grd cs/\Q .non S
def zaO:DS :=
    (zH (sIf (dOr (dT (dOp oLt (dB zbs (zj (zc 0) zu)) (dC (.int 2)))) (dT (dOp oGt (dB zbs (zj (zc 0) zu)) (dC (.int 40))))) zbw zal)
 (zds (zfs (zj (dC (.int 1)) (zj (dB zbs (zj (zc 0) zu)) zu))) (zE 1) (sIf (dT (dOp oLe (dOp oIx (dOp oIx (zc 0) (zc 1)) (dC (.int 0))) (dOp oIx (dOp oIx (zc 0) (dOp zbp (zc 1) (dC (.int 1)))) (dC (.int 0))))) zbw zal)))
theorem zdv:∀ ds So Q,zao ds So Q->ds.length=1:=by rintro ds So Q ⟨_,_,rfl,_⟩;rfl
theorem zdH:BodyOk 2 zaO zao:=by
 rintro ds S Q ⟨x,cs,rfl,hx,g,q⟩
 unfold zaO
 have g1:=g.two
 have g2:=g.most
 walk_at "g"
 rw [List.length_map]
 refine r_d (fun z=>absurd z (by omega)) (fun _=>?_)
 walk_at "g"
 rw [List.length_map]
 refine r_d (fun z=>absurd z (by omega)) (fun _=>?_)
 walk_at "g"
 rw [List.length_map]
 refine⟨_,_,rfl,?_⟩
 refine zcN (fun i ρ S'=>S'=S/\∃ w:Option D,ρ=[some x,w]) ⟨rfl,none,rfl⟩ (fun _ _ _ _=>True.intro) ?_ ?_
 ·rintro i d ρ S' hd ⟨rfl,w,rfl⟩
  obtain⟨hi,rfl⟩:=zcc hd
  obtain⟨a,ha,aa⟩:=zeW (cs:=cs) (k:=1+(i:Int)) (by omega) (by omega)
  obtain⟨b,hb,ab⟩:=zeW (cs:=cs) (k:=1+(i:Int)-1) (by omega) (by omega)
  have hlt:=zcP g (show (1+(i:Int)-1).toNat<(1+(i:Int)).toNat by omega) hb ha
  walk_at "g"
  refine r_d (fun z=>absurd z (by omega)) (fun _=>?_)
  walk_at "g"
  exact⟨rfl,_,rfl⟩
 ·rintro ρ S' ⟨rfl,w,rfl⟩
  exact fin_same q
def zbP:DSp:=fun ds S Q=>∃ (S0:Sto) (x:D) (cs:List (Int×Int)),ds=[.ref S0.length,x]/\S=S0++[.ins "Ground" []]/\Lst S0 x (cs.map p2)/\Grd cs/\Q .non (S0++[.ins "Ground" [("corners",.ref (S0.length+1))],.lst (cs.map p2)])
def zbb:DS :=
    (zH (zaQ (dCall zao (zj (zc 1) zu)))
 (zcF "Ground" "corners" (zc 0) (dB zcg (zj (zc 1) zu))))
theorem zfF:∀ ds So Q,zbP ds So Q->ds.length=2:=by rintro ds So Q ⟨_,_,_,rfl,_⟩;rfl
theorem zf5:BodyOk 2 zbb zbP:=by
 rintro ds S Q ⟨S0,x,cs,rfl,rfl,hx,g,q⟩
 unfold zbb
 have hx':Lst (S0++[.ins "Ground" []]) x (cs.map p2):=hx.old
 walk_at "g"
 refine⟨x,cs,rfl,hx',g,?_⟩
 walk_at "g"
 refine⟨S0.length,[],rfl,zaY,by decide,?_⟩
 rw [zbB]
 exact fin_same q
def zdk:DSp:=ziE "Ground" zbP
def zap:DSp:=fun ds S Q=>∃ (x y:D) (xs ys:List D),ds=[x,y]/\Lst S x xs/\Lst S y ys/\1<=xs.length/\xs.length<=12/\ys.length<=12/\Q .non S
def zaL:DS :=
    (zH (sIf (dOr (dT (dOp oLt (dB zbs (zj (zc 0) zu)) (dC (.int 1)))) (dT (dOp oGt (dB zbs (zj (zc 0) zu)) (dC (.int 12))))) zbw zal)
 (sIf (dT (dOp oGt (dB zbs (zj (zc 1) zu)) (dC (.int 12)))) zbw zal))
theorem zdr:∀ ds So Q,zap ds So Q->ds.length=2:=by rintro ds So Q ⟨_,_,_,_,rfl,_⟩;rfl
theorem zdE:BodyOk 2 zaL zap:=by
 rintro ds S Q ⟨x,y,xs,ys,rfl,hx,hy,h1,h2,h3,q⟩
 unfold zaL
 walk_at "g"
 rw [decide_eq_false (show ¬ ((xs.length:Int)<1) by omega)]
 walk_at "g"
 rw [decide_eq_false (show ¬ ((12:Int)<xs.length) by omega)]
 walk_at "g"
 rw [decide_eq_false (show ¬ ((12:Int)<ys.length) by omega)]
 walk_at "g"
 exact fin_same q
def zcl:DSp:=fun ds S Q=>∃ z:Str,ds=[.str z]/\z.length<=1000/\Q (.bl (nmB z)) S
def zdl:DS :=
    (zH (sIf (dOr (dT (dOp oLt (dB zbs (zj (zc 0) zu)) (dC (.int 1)))) (dT (dOp oGt (dB zbs (zj (zc 0) zu)) (dC (.int 8))))) (zaj (dC (.bl false))) zal)
 (zaj (dB zey (zj (dLC 1 [] (zbK (zc 0)) (zE 0) zbc (dOp oIn (zc 0) (dC (.str "abcdefghijklmnopqrstuvwxyz")))) zu))))
theorem zh6:∀ ds So Q,zcl ds So Q->ds.length=1:=by rintro ds So Q ⟨_,rfl,_⟩;rfl
theorem ziC:BodyOk 1 zdl zcl:=by
 rintro ds S Q ⟨z,rfl,hz,q⟩
 unfold zdl
 have hb:z.length<=big:=by unfold big;omega
 walk_at "g"
 refine zjT hb ?_
 walk_at "g"
 unfold nmB at q
 refine r_d (fun h=>?_) (fun h=>?_)
 ·walk_at "g"
  rw [decide_eq_false (show ¬ 1<=z.length by omega)] at q
  exact fin_same q
 rw [decide_eq_true (show 1<=z.length by omega)] at q
 walk_at "g"
 refine zjT hb ?_
 walk_at "g"
 refine r_d (fun h=>?_) (fun h=>?_)
 ·walk_at "g"
  rw [decide_eq_false (show ¬ z.length<=8 by omega)] at q
  exact fin_same q
 rw [decide_eq_true (show z.length<=8 by omega)] at q
 walk_at "g"
 refine zby (fun _=>true) (onC fun c=>decide (c∈abc)) True.intro (by rw [zi9];exact hb) (fun i d ys hd hw=>?_) ?_
 ·obtain⟨c,_,rfl⟩:=zju hd
  walk_at "g"
  rw [zm8]
  exact zci hd hw rfl rfl
 rw [filter_true,zjG]
 walk_at "g"
 refine zeM Lst.at0 rfl ?_
 refine zcw rfl ?_
 rw [List.all_map]
 exact q
def zas:DSp:=fun ds S Q=>∃ (x:D) (zs:List Str),ds=[x]/\Lst S x (zs.map D.str)/\zs.length<=100/\(∀ z∈zs,nmB z=true)/\zs.Nodup/\Q .non S
def zbd:DS :=
    (zH (sIf (zdw (dT (dB zey (zj (dLC 1 [] (zbK (zc 0)) (zE 0) zbc (dCall zcl (zj (zc 0) zu))) zu)))) zbw zal)
 (sIf (dT (dOp oLt (dB ziS (zj (zc 0) zu)) (dB zbs (zj (zc 0) zu)))) zbw zal))
theorem zdR:∀ ds So Q,zas ds So Q->ds.length=1:=by rintro ds So Q ⟨_,_,rfl,_⟩;rfl
theorem zef:BodyOk 1 zbd zas:=by
 rintro ds S Q ⟨x,zs,rfl,hx,hl,hn,nd,q⟩
 unfold zbd
 walk_at "g"
 refine zby (fun _=>true) (onS fun z=>.bl (nmB z)) hx (by rw [List.length_map];unfold big;omega) (fun i d ys hd hw=>?_) ?_
 ·obtain⟨z,hz,rfl⟩:=zlJ hd
  walk_at "g"
  refine⟨z,rfl,by have:=(zgm.mp (hn z (List.mem_of_getElem? hz))).2.1;omega,?_⟩
  exact zci hd hw rfl rfl
 rw [filter_true,zla,show zs.map (fun z=>D.bl (nmB z))=(zs.map nmB).map D.bl by rw [List.map_map];rfl]
 walk_at "g"
 refine zeM (b:=true) Lst.at0 (by rw [List.all_map,List.all_eq_true];exact hn) ?_
 walk_at "g"
 refine zl5 (zs:=zs) hx.old (by omega) ?_
 rw [ziZ nd]
 have hx1:Lst (S++[Cell.lst ((zs.map nmB).map D.bl)]) x (zs.map D.str):=hx.old
 walk_at "g"
 rw [List.length_map,decide_eq_false (show ¬ ((zs.length:Int)<zs.length) by omega)]
 walk_at "g"
 exact zcw rfl q
def zb8:DSp:=fun ds S Q=>∃ (a b:Int×Int),ds=[p2 a,p2 b]/\zaq a.1 b.2/\zaq b.1 a.2/\Q (.bl (flt a b)) S
def zfQ:DS :=
  (zaj (dOp oLt (dOp zar (dOp oIx (zc 0) (dC (.int 0))) (dOp oIx (zc 1) (dC (.int 1)))) (dOp zar (dOp oIx (zc 1) (dC (.int 0))) (dOp oIx (zc 0) (dC (.int 1))))))
theorem zkE:∀ ds So Q,zb8 ds So Q->ds.length=2:=by rintro ds So Q ⟨_,_,rfl,_⟩;rfl
theorem zlI:BodyOk 2 zfQ zb8:=by
 rintro ds S Q ⟨a,b,rfl,c1,c2,q⟩
 unfold zfQ
 walk_at "g"
 exact fin_same q
def zcx:DSp:=fun ds S Q=>∃ (g:D) (cs:List (Int×Int)) (p:Int×Int),ds=[g,p2 p]/\GAt S g cs/\Grd cs/\Bd 1000 p.1/\Bd 1000 p.2/\Q (.bl (decide (zf7 cs*p.2<=p.1)&&decide (p.1<=zeK cs*p.2))) S
def zeS:DS :=
    (zH (zM (dTup (zj (dOp oIx (dOp oIx (zbT "corners" (zc 0)) (dC (.int 0))) (dC (.int 0))) (zj (dC (.int 1)) zu))) (zE 2))
 (zH (zM (dTup (zj (dOp oIx (dOp oIx (zbT "corners" (zc 0)) (dUn zem (dC (.int 1)))) (dC (.int 0))) (zj (dC (.int 1)) zu))) (zE 3))
 (zaj (zd6 (zeT (dCall zb8 (zj (zc 1) (zj (zc 2) zu)))) (zeT (dCall zb8 (zj (zc 3) (zj (zc 1) zu))))))))
theorem zjP:∀ ds So Q,zcx ds So Q->ds.length=2:=by rintro ds So Q ⟨_,_,_,rfl,_⟩;rfl
theorem zkd:BodyOk 4 zeS zcx:=by
 rintro ds S Q ⟨g,cs,p,rfl,⟨n,l,rfl,hn,hl⟩,gr,b1,b2,q⟩
 unfold zeS
 have g1:=gr.two
 obtain⟨a,ha,ea⟩:=zca gr
 obtain⟨z,hz,ez⟩:=zhE gr
 have aa:atD (cs.map p2) 0=some (p2 a):=zcS (i:=0) (by rw [List.getElem?_map,ha];rfl)
 have az:atD (cs.map p2) (-1)=some (p2 z):=by
  have hne:cs≠[]:=fun e=>by rw [e] at g1;simp at g1
  have en:cs=cs.dropLast++[z]:=by
   have h2:=List.dropLast_concat_getLast hne
   have h3:cs.getLast hne=z:=by
    rw [List.getLast_eq_getElem]
    have hl':=zav hz
    rw [List.getElem?_eq_getElem hl'] at hz
    cases hz;rfl
   rw [h3] at h2
   exact h2.symm
  rw [en,List.map_append];exact zgY
 obtain⟨ba,_⟩:=gr.bd a (List.mem_of_getElem? ha)
 obtain⟨bz,_⟩:=gr.bd z (List.mem_of_getElem? hz)
 rw [ea,ez] at q
 have e1:flt p (a.1,1)=decide (p.1<a.1*p.2):=by unfold flt;dsimp only;rw [Int.mul_one]
 have e2:flt (z.1,1) p=decide (z.1*p.2<p.1):=by unfold flt;dsimp only;rw [Int.mul_one]
 have c1:zaq a.1 p.2:=.inl ⟨ba.mono (by decide),b2.mono (by decide)⟩
 have c2:zaq z.1 p.2:=.inl ⟨bz.mono (by decide),b2.mono (by decide)⟩
 have c3:∀ u:Int,zaq u 1:=fun u=>.inr (.inr (by decide))
 walk_at "g"
 refine⟨p,(a.1,1),rfl,c3 _,c1,?_⟩
 rw [e1]
 walk_at "g"
 refine zmF (fun g=>?_) (fun g=>?_)
 ·walk_at "g"
  refine⟨(z.1,1),p,rfl,c2,c3 _,?_⟩
  rw [e2]
  walk_at "g"
  rw [decide_eq_true (show a.1*p.2<=p.1 by omega),Bool.true_and] at q
  rw [show (!decide (z.1*p.2<p.1))=decide (p.1<=z.1*p.2) by rw [<- decide_not];exact decide_eq_decide.mpr (by omega)]
  exact fin_same q
 ·rw [decide_eq_false (show ¬ a.1*p.2<=p.1 by omega),Bool.false_and] at q
  exact fin_same q
def zaK:DSp:=fun ds S Q=>∃ (t b:Int),ds=[.int t,.int b]/\Q (.int ((Int.gcd t b:Nat):Int)) S
def zbr:DS :=
    (zH (zfJ (dT (dOp oNe (zc 1) (dC (.int 0)))) (zH (zM (dOp oMod (zc 0) (zc 1)) (zE 2))
 (zH (zM (zc 1) (zE 0))
 (zM (zc 2) (zE 1)))))
 (zaj (dB zkB (zj (zc 0) zu))))
theorem zeq:∀ ds So Q,zaK ds So Q->ds.length=2:=by rintro ds So Q ⟨_,_,rfl,_⟩;rfl
theorem ze0:BodyOk 3 zbr zaK:=by
 rintro ds S Q ⟨t,b,rfl,q⟩
 unfold zbr
 refine Dp.ziR ?_
 refine zml (fun m ρ S'=>S'=S/\∃ (x y:Int) (w:Option D),ρ=[some (.int x),some (.int y),w]/\m=y.natAbs/\Int.gcd x y=Int.gcd t b) b.natAbs ⟨rfl,_,_,none,rfl,rfl,rfl⟩ ?_
 rintro m ρ S' ⟨rfl,x,y,w,rfl,rfl,e⟩
 walk_at "g"
 refine zmF (fun h0=>?_) (fun h0=>?_)
 ·refine zjo ?_
  refine Dp.ziR ?_
  refine Dp.zkM ?_
  refine Dp.ziP ?_
  refine Dp.zdY rfl ?_
  refine Dp.zdY rfl ?_
  refine znf h0 ?_
  walk_at "g"
  exact⟨_,zh1 h0,rfl,_,_,_,rfl,rfl,(zkk x y).trans e⟩
 ·subst h0
  rw [Int.gcd_zero] at e
  walk_at "g"
  rw [<- e] at q
  exact fin_same q
def zbW:DSp:=fun ds S Q=>∃ (t b:Int),ds=[.int t,.int b]/\b≠0/\Bd 8000 b/\Q (p2 (frT t b,frB t b)) S
def zcW:DS :=
    (zH (zM (dCall zaK (zj (zc 0) (zj (zc 1) zu))) (zE 2))
 (zH (sJ (sIf (dT (dOp oLt (zc 1) (dC (.int 0)))) (zM (dUn zem (zc 2)) (zE 2)) zal))
 (zaj (dTup (zj (dOp oDiv (zc 0) (zc 2)) (zj (dOp oDiv (zc 1) (zc 2)) zu))))))
theorem zhO:∀ ds So Q,zbW ds So Q->ds.length=2:=by rintro ds So Q ⟨_,_,rfl,_⟩;rfl
theorem zhZ:BodyOk 3 zcW zbW:=by
 rintro ds S Q ⟨t,b,rfl,hb,bb,q⟩
 unfold zcW
 have hgn:=zkX (t:=t) (b:=b) hb
 have hgb:=zn7 (t:=t) (b:=b) hb bb
 walk_at "g"
 refine⟨t,b,rfl,?_⟩
 walk_at "g"
 refine r_J (fun ρ S'=>S'=S/\ρ=[some (.int t),some (.int b),some (.int (gd t b))]) ?_ ?_
 ·walk_at "g"
  refine r_d (fun g=>?_) (fun g=>?_)
  ·have hg:gd t b=-((Int.gcd t b:Nat):Int):=if_pos g
   walk_at "g"
   exact⟨rfl,by rw [hg];rfl⟩
  ·have hg:gd t b=((Int.gcd t b:Nat):Int):=if_neg g
   walk_at "g"
   exact⟨rfl,by rw [hg];rfl⟩
 rintro ρ S' ⟨rfl,rfl⟩
 refine Dp.zkU ?_
 refine Dp.zkV ?_
 refine Dp.zhg ?_
 refine Dp.ziP ?_
 refine Dp.zdY rfl ?_
 refine Dp.zdY rfl ?_
 refine zjm ⟨hgn,hgb⟩ ?_
 refine Dp.zhg ?_
 refine Dp.ziP ?_
 refine Dp.zdY rfl ?_
 refine Dp.zdY rfl ?_
 refine zjm ⟨hgn,hgb⟩ ?_
 walk_at "g"
 exact fin_same q
def zbI:DSp:=fun ds S Q=>∃ (a b p:Int×Int),ds=[p2 a,p2 b,p2 p]/\b.1≠a.1/\0<p.2/\Bd 180 a.1/\Bd 200 a.2/\Bd 180 b.1/\Bd 200 b.2/\Bd 1000 p.1/\Bd 1000 p.2/\∀ c:Int×Int,Sv c (hvT a b p) (hvB a b p)->Int.gcd c.1 c.2=1->Bd 1400 c.1->Bd 1400 c.2->Q (p2 c) S
theorem znX {t b:Int}(hb:b≠0):Sv (frT t b,frB t b) (if 0<b then t else -t) (if 0<b then b else -b):=by
 have h1:=zjZ t b
 have h2:=zlC (t:=t) hb
 refine⟨by show 0<frB t b;omega,?_⟩
 show frT t b*_=_*frB t b
 split
 ·rw [h1,Int.mul_comm]
 ·rw [Int.mul_neg,h1,Int.neg_mul,Int.mul_comm]
def zcJ:DS :=
    (zH (zM (dOp zbp (dOp oIx (zc 1) (dC (.int 0))) (dOp oIx (zc 0) (dC (.int 0)))) (zE 3))
 (zH (zM (dOp zbp (dOp oIx (zc 1) (dC (.int 1))) (dOp oIx (zc 0) (dC (.int 1)))) (zE 4))
 (zH (zM (dOp zac (dOp zar (dOp zar (dOp oIx (zc 0) (dC (.int 1))) (zc 3)) (dOp oIx (zc 2) (dC (.int 1)))) (dOp zar (zc 4) (dOp zbp (dOp oIx (zc 2) (dC (.int 0))) (dOp zar (dOp oIx (zc 0) (dC (.int 0))) (dOp oIx (zc 2) (dC (.int 1))))))) (zE 5))
 (zaj (dCall zbW (zj (zc 5) (zj (dOp zar (zc 3) (dOp oIx (zc 2) (dC (.int 1)))) zu)))))))
theorem zgG:∀ ds So Q,zbI ds So Q->ds.length=3:=by rintro ds So Q ⟨_,_,_,rfl,_⟩;rfl
theorem zhf:BodyOk 6 zcJ zbI:=by
 rintro ds S Q ⟨a,b,p,rfl,hne,hp,b1,b2,b3,b4,b5,b6,q⟩
 unfold zcJ
 have r1:Bd 181 (b.1-a.1):=Bd.sub b3 b1
 have r2:Bd 201 (b.2-a.2):=Bd.sub b4 b2
 have m1:Bd 381 (a.2*(b.1-a.1)):=Bd.mul b2 r1
 have m2:Bd 1381 (a.2*(b.1-a.1)*p.2):=Bd.mul m1 b6
 have m3:Bd 1180 (a.1*p.2):=Bd.mul b1 b6
 have m4:Bd 1181 (p.1-a.1*p.2):=Bd.sub (b5.mono (by decide)) m3
 have m5:Bd 1382 ((b.2-a.2)*(p.1-a.1*p.2)):=Bd.mul r2 m4
 have m6:Bd 1181 ((b.1-a.1)*p.2):=Bd.mul r1 b6
 have bT:Bd 1400 (a.2*(b.1-a.1)*p.2+(b.2-a.2)*(p.1-a.1*p.2)):=(Bd.add (n:=1382) (m2.mono (by decide)) m5).mono (by decide)
 have c1:zaq a.2 (b.1-a.1):=.inl ⟨b2.mono (by decide),r1.mono (by decide)⟩
 have c2:zaq (a.2*(b.1-a.1)) p.2:=.inl ⟨m1.mono (by decide),b6.mono (by decide)⟩
 have c3:zaq a.1 p.2:=.inl ⟨b1.mono (by decide),b6.mono (by decide)⟩
 have c4:zaq (b.2-a.2) (p.1-a.1*p.2):=.inl ⟨r2.mono (by decide),m4.mono (by decide)⟩
 have c5:zaq (b.1-a.1) p.2:=.inl ⟨r1.mono (by decide),b6.mono (by decide)⟩
 walk_at "g"
 have hr:(b.1-a.1)*p.2≠0:=Int.mul_ne_zero (by omega) (by omega)
 refine⟨_,_,rfl,hr,m6.mono (by decide),?_⟩
 refine fin_same (q _ ?_ (zm2 hr) (zmu bT) ((znD m6).mono (by decide)))
 have hs:=znX (t:=a.2*(b.1-a.1)*p.2+(b.2-a.2)*(p.1-a.1*p.2)) hr
 unfold hvT hvB
 by_cases g:0<b.1-a.1
 ·have:0<(b.1-a.1)*p.2:=Int.mul_pos g hp
  rw [if_pos this,if_pos this] at hs
  rw [if_pos g,if_pos g];exact hs
 ·have:¬ 0<(b.1-a.1)*p.2:=fun z=>by
   have:=Int.mul_pos (show 0 < -(b.1-a.1) by omega) hp
   rw [Int.neg_mul] at this
   omega
  rw [if_neg this,if_neg this] at hs
  rw [if_neg g,if_neg g];exact hs
def zbF:zfm:=fun ds S Q ex=>∃ (g:D) (cs:List (Int×Int)) (p:Int×Int),ds=[g,p2 p]/\GAt S g cs/\Grd cs/\0<p.2/\Bd 1000 p.1/\Bd 1000 p.2/\(¬ OnG cs p->ex "OffGround" S)/\(OnG cs p->∀ a b c:Int×Int,zen cs p=some (a,b)->Sv c (hvT a b p) (hvB a b p)->0<hvB a b p->Int.gcd c.1 c.2=1->Bd 1400 c.1->Bd 1400 c.2->Q (p2 c) S)
def zcD (ex : XR) : DS :=
    (zH (sIf (zdw (dT (dCall zcx (zj (zc 0) (zj (zc 1) zu))))) (zg3 ex "OffGround") zal)
 (zH (zM (zbT "corners" (zc 0)) (zE 2))
 (zH (zM (dC (.int 1)) (zE 3))
 (zH (zfJ (dT (dCall zb8 (zj (dTup (zj (dOp oIx (dOp oIx (zc 2) (zc 3)) (dC (.int 0))) (zj (dC (.int 1)) zu))) (zj (zc 1) zu)))) (zj3 3 (dC (.int 1))))
 (zaj (dCall zbI (zj (dOp oIx (zc 2) (dOp zbp (zc 3) (dC (.int 1)))) (zj (dOp oIx (zc 2) (zc 3)) (zj (zc 1) zu)))))))))
theorem zgC:∀ ds So Q ex,zbF ds So Q ex->ds.length=2:=by rintro ds So Q ex ⟨_,_,_,rfl,_⟩;rfl
theorem zhG:zim 4 zcD zbF:=by
 rintro ds S Q ex ⟨g,cs,p,rfl,hg,gr,hp,b1,b2,hx,q⟩
 unfold zcD
 obtain⟨n,l,rfl,hn,hl⟩:=id hg
 walk_at "g"
 refine⟨_,cs,p,rfl,hg,gr,b1,b2,?_⟩
 by_cases on:OnG cs p
 case neg =>
  have e:(decide (zf7 cs*p.2<=p.1)&&decide (p.1<=zeK cs*p.2))=false:=Bool.eq_false_iff.mpr fun z=>on (by rw [Bool.and_eq_true,decide_eq_true_eq,decide_eq_true_eq] at z;exact z)
  rw [e]
  walk_at "g"
  exact hx on
 have q:=q on
 obtain⟨kk,a,b,ha,hb,hle,hlt⟩:=zfC gr.two on.2
 have seg:=seg_at ha hb hle hlt
 have hk:=zav hb
 rw [decide_eq_true on.1,decide_eq_true on.2,show (true&&true)=true from rfl]
 walk_at "g"
 refine zml (fun m ρ S'=>S'=S/\∃ j:Nat,ρ=[some (.ref n),some (p2 p),some (.ref l),some (.int ((j:Int)+1))]/\m=kk-j/\j<=kk) kk ⟨rfl,0,rfl,rfl,by omega⟩ ?_
 rintro m ρ S' ⟨rfl,j,rfl,rfl,hj⟩
 obtain⟨c,hc,ac⟩:=zeW (cs:=cs) (k:=(j:Int)+1) (by omega) (by omega)
 have hc':cs[j+1]?=some c:=by rwa [show ((j:Int)+1).toNat=j+1 by omega] at hc
 obtain⟨bc,bc2⟩:=gr.bd c (List.mem_of_getElem? hc)
 have e1:flt (c.1,1) p=decide (c.1*p.2<p.1):=by unfold flt;dsimp only;rw [Int.mul_one]
 walk_at "g"
 refine⟨(c.1,1),p,rfl,.inl ⟨bc.mono (by decide),b2.mono (by decide)⟩,.inr (.inr (show (1:Int).natAbs<2 ^ 64 by decide)),?_⟩
 rw [e1]
 walk_at "g"
 refine r_d (fun h=>?_) (fun h=>?_)
 ·walk_at "g"
  have hjk:j<kk:=by
   rcases Nat.lt_or_ge j kk with z | z
   ·exact z
   ·have:j=kk:=by omega
    subst this
    rw [hb] at hc'
    cases hc'
    omega
  exact⟨kk-(j+1),by omega,rfl,j+1,by simp,rfl,by omega⟩
 ·have hjk:j=kk:=by
   rcases Nat.lt_or_ge j kk with z | z
   ·have:=hlt (j+1) c (by omega) (by omega) hc'
    omega
   ·omega
  subst hjk
  rw [hb] at hc'
  cases hc'
  have aa:atD (cs.map p2) ((j:Int)+1-1)=some (p2 a):=by
   rw [show (j:Int)+1-1=(j:Int) by omega]
   exact zcS (by rw [List.getElem?_map,ha];rfl)
  obtain⟨ba1,ba2⟩:=gr.bd a (List.mem_of_getElem? ha)
  have hab:=zcP gr (show j<j+1 by omega) ha hb
  walk_at "g"
  refine⟨a,b,p,rfl,by omega,hp,ba1.mono (by decide),ba2.mono (by decide),bc.mono (by decide),bc2.mono (by decide),b1,b2,fun c hs hg d1 d2=>?_⟩
  exact fin_same (q a b c seg hs (zii (by omega) hp) hg d1 d2)
def zcL:DSp:=fun ds S Q=>∃ (g:D) (cs:List (Int×Int)) (s:Int×Int),ds=[g,p2 s]/\GAt S g cs/\Grd cs/\Bd 180 s.1/\Bd 200 s.2/\∀ b:Bool,(b=true↔zgd cs s)->Q (.bl b) S
def zd1:DS :=
    (zH (zM (dTup (zj (dOp oIx (zc 1) (dC (.int 0))) (zj (dC (.int 1)) zu))) (zE 2))
 (zH (sIf (zdw (dT (dCall zcx (zj (zc 0) (zj (zc 2) zu))))) (zaj (dC (.bl false))) zal)
 (zaj (zeT (dCall zb8 (zj (dTup (zj (dOp oIx (zc 1) (dC (.int 1))) (zj (dC (.int 1)) zu))) (zj (zhj zbF xF (zj (zc 0) (zj (zc 2) zu))) zu)))))))
theorem ziG:∀ ds So Q,zcL ds So Q->ds.length=2:=by rintro ds So Q ⟨_,_,_,rfl,_⟩;rfl
theorem zjf:BodyOk 3 zd1 zcL:=by
 rintro ds S Q ⟨g,cs,s,rfl,hg,gr,b1,b2,q⟩
 unfold zd1
 have bo:Bd 1000 (1:Int):=Bd.lit (by decide) (by decide)
 walk_at "g"
 refine⟨g,cs,(s.1,1),rfl,hg,gr,b1.mono (by decide),bo,?_⟩
 by_cases on:OnG cs (s.1,1)
 case neg =>
  have e:(decide (zf7 cs*(s.1,(1:Int)).2<=(s.1,(1:Int)).1)&&decide ((s.1,(1:Int)).1<=zeK cs*(s.1,(1:Int)).2))=false:=Bool.eq_false_iff.mpr fun z=>on (by rw [Bool.and_eq_true,decide_eq_true_eq,decide_eq_true_eq] at z;exact z)
  rw [e]
  walk_at "g"
  exact fin_same (q false ⟨fun z=>(by cases z),fun z=>absurd z.1 on⟩)
 rw [decide_eq_true on.1,decide_eq_true on.2,show (true&&true)=true from rfl]
 walk_at "g"
 refine⟨g,cs,(s.1,1),rfl,hg,gr,(show (0:Int)<1 by decide),b1.mono (by decide),bo,fun off=>absurd on off,fun _ a b c seg sv hb hgcd d1 d2=>?_⟩
 walk_at "g"
 refine⟨(s.2,1),c,rfl,.inl ⟨b2.mono (by decide),d2.mono (by decide)⟩,.inr (.inr (show (1:Int).natAbs<2 ^ 64 by decide)),?_⟩
 rw [zmc (t:=s.2) (b:=1) (by decide) hb ⟨(show (0:Int)<1 by decide),rfl⟩ sv]
 walk_at "g"
 refine fin_same (q _ ?_)
 rw [Bool.not_eq_true',decide_eq_false_iff_not]
 constructor
 ·intro h
  refine⟨on,fun a' b' seg'=>?_⟩
  rw [seg] at seg';cases seg';omega
 ·intro h
  have:=h.2 a b seg
  omega
def zaH:DSp:=fun ds S Q=>∃ (g y:D) (cs:List (Int×Int)) (bs:List (Str×(Int×Int))),ds=[g,y]/\GAt S g cs/\Grd cs/\Lst S y (bs.map bcD)/\bs.length<=100/\(∀ b∈bs,zgd cs b.2/\Bd 180 b.2.1/\Bd 200 b.2.2)/\Q .non S
def zbn:DS :=
  (sIf (zdw (dT (dB zey (zj (dLC 3 [0] (zbK (zc 1)) (zdS 3 (zbA (zE 0) (zbA (zE 1) (zbA (zE 2) zd2)))) zbc (dCall zcL (zj (zc 3) (zj (dTup (zj (zc 1) (zj (zc 2) zu))) zu)))) zu)))) zbw zal)
theorem zeg:∀ ds So Q,zaH ds So Q->ds.length=2:=by rintro ds So Q ⟨_,_,_,_,rfl,_⟩;rfl
theorem zeB:BodyOk 2 zbn zaH:=by
 rintro ds S Q ⟨g,y,cs,bs,rfl,hg,gr,hy,hl,hb,q⟩
 unfold zbn
 walk_at "g"
 refine zby (fun _=>true) (zj6 fun _=>.bl true) hy (by rw [List.length_map];unfold big;omega) (fun i d ys hd hw=>?_) ?_
 ·obtain⟨b,hbi,rfl⟩:=zfx hd
  obtain⟨s1,s2,s3⟩:=hb b (List.mem_of_getElem? hbi)
  walk_at "g"
  refine⟨g,cs,b.2,rfl,hg,gr,s2,s3,fun r hr=>?_⟩
  rw [hr.mpr s1]
  exact zci hd hw rfl rfl
 rw [filter_true,zhK,show bs.map (fun _=>D.bl true)=(bs.map fun _=>true).map D.bl by rw [List.map_map];rfl]
 walk_at "g"
 refine zeM (b:=true) Lst.at0 (by rw [List.all_map,List.all_eq_true];intro _ _;rfl) ?_
 walk_at "g"
 exact zcw rfl q
def zbX:DSp:=fun ds S Q=>∃ i:Int,ds=[.int i]/\Q (.bl true) S
def zc0:DS :=
  (zaj (zd6 (dB zdU (zj (zc 0) (zj (dC (.ty "int")) zu))) (zeT (dB zdU (zj (zc 0) (zj (dC (.ty "bool")) zu))))))
theorem zgX:∀ ds So Q,zbX ds So Q->ds.length=1:=by rintro ds So Q ⟨_,rfl,_⟩;rfl
theorem zhY:BodyOk 1 zc0 zbX:=by
 rintro ds S Q ⟨i,rfl,q⟩
 unfold zc0
 walk_at "g"
 exact fin_same q
def zcQ:DSp:=fun ds S Q=>∃ F:Fg,ds=[fgD F]/\F.x0<=F.x1/\F.z0<=F.z1/\F.f<=F.l/\Q (.bl true) S
def zdN:DS :=
    (zH (sIf (dOr (zdw (dT (dB zdU (zj (zc 0) (zj (dC (.ty "tuple")) zu))))) (dT (dOp oNe (dB zbs (zj (zc 0) zu)) (dC (.int 8))))) (zaj (dC (.bl false))) zal)
 (zH (sIf (zdw (dT (dB zey (zj (dLC 1 [] (zbK (zc 0)) (zE 0) zbc (dCall zbX (zj (zc 0) zu))) zu)))) (zaj (dC (.bl false))) zal)
 (zaj (zd6 (dOp oLe (dOp oIx (zc 0) (dC (.int 0))) (dOp oIx (zc 0) (dC (.int 1)))) (zd6 (dOp oLe (dOp oIx (zc 0) (dC (.int 2))) (dOp oIx (zc 0) (dC (.int 3)))) (dOp oLe (dOp oIx (zc 0) (dC (.int 4))) (dOp oIx (zc 0) (dC (.int 5)))))))))
theorem zi2:∀ ds So Q,zcQ ds So Q->ds.length=1:=by rintro ds So Q ⟨_,rfl,_⟩;rfl
theorem zi3:BodyOk 1 zdN zcQ:=by
 rintro ds S Q ⟨F,rfl,h1,h2,h3,q⟩
 unfold zdN
 walk_at "g"
 rw [show (!decide ((([D.int F.x0,D.int F.x1,D.int F.z0,D.int F.z1,D.int F.f,D.int F.l,D.int F.g,D.int F.s]:List D).length:Int)=8))=false by rfl]
 walk_at "g"
 refine zby (fun _=>true) (fun _=>.bl true) True.intro (by show 8<=big;unfold big;decide) (fun i d ys hd hw=>?_) ?_
 ·obtain⟨z,_,rfl⟩:=zig (zs:=[F.x0,F.x1,F.z0,F.z1,F.f,F.l,F.g,F.s]) hd
  walk_at "g"
  refine⟨z,rfl,?_⟩
  exact zci hd hw rfl rfl
 walk_at "g"
 refine zeM (bs:=List.replicate 8 true) (b:=true) Lst.at0 rfl ?_
 walk_at "g"
 rw [decide_eq_true h1]
 walk_at "g"
 rw [decide_eq_true h2]
 walk_at "g"
 rw [decide_eq_true h3]
 exact zcw rfl q
theorem zmo {α:Type}(xs:List α)(f:α->D):(xs.map f).map (fun _=>D.bl true)=(xs.map fun _=>true).map D.bl:=by rw [List.map_map,List.map_map];rfl
def zaI:DSp:=fun ds S Q=>∃ (z:D) (fs:List Fg),ds=[z]/\Lst S z (fs.map fgD)/\fs.length<=100/\(∀ F∈fs,FgV F)/\Q .non S
def zbo:DS :=
  (sIf (zdw (dT (dB zey (zj (dLC 1 [] (zbK (zc 0)) (zE 0) zbc (dCall zcQ (zj (zc 0) zu))) zu)))) zbw zal)
theorem zec:∀ ds So Q,zaI ds So Q->ds.length=1:=by rintro ds So Q ⟨_,_,rfl,_⟩;rfl
theorem zez:BodyOk 1 zbo zaI:=by
 rintro ds S Q ⟨z,fs,rfl,hz,hl,hf,q⟩
 unfold zbo
 walk_at "g"
 refine zby (fun _=>true) (fun _=>.bl true) hz (by rw [List.length_map];unfold big;omega) (fun i d ys hd hw=>?_) ?_
 ·obtain⟨F,hF,rfl⟩:=zhy hd
  have k:=hf F (List.mem_of_getElem? hF)
  walk_at "g"
  refine⟨F,rfl,k.b.x,k.b.z,k.o,?_⟩
  exact zci hd hw rfl rfl
 rw [filter_true,zmo]
 walk_at "g"
 refine zeM (b:=true) Lst.at0 (by rw [List.all_map,List.all_eq_true];intro _ _;rfl) ?_
 walk_at "g"
 exact zcw rfl q
def zat:DSp:=fun ds S Q=>∃ (hz:Option Int) (a b d:Int),ds=[zbM hz,.int a,.int b,.int d]/\a<=b/\0<=d/\(∀ z,hz=some z->0<=z)/\Q .non S
def zbh:DS :=
    (zH (sIf (dT (dOp oGt (zc 1) (zc 2))) zbw zal)
 (zH (sIf (dT (dOp oLt (zc 3) (dC (.int 0)))) zbw zal)
 (sIf (ziI (dT (dOp zgf (zc 0) (dC .non))) (dT (dOp oLt (zc 0) (dC (.int 0))))) zbw zal)))
theorem zdX:∀ ds So Q,zat ds So Q->ds.length=4:=by rintro ds So Q ⟨_,_,_,_,rfl,_⟩;rfl
theorem zd9:BodyOk 4 zbh zat:=by
 rintro ds S Q ⟨hz,a,b,d,rfl,hab,hd,hh,q⟩
 unfold zbh
 walk_at "g"
 rw [decide_eq_false (show ¬ b<a by omega)]
 walk_at "g"
 rw [decide_eq_false (show ¬ d<0 by omega)]
 cases hz with
 | none =>
  walk_at "g"
  exact fin_same q
 | some z =>
  have:=hh z rfl
  unfold zbM
  walk_at "g"
  rw [decide_eq_false (show ¬ z<0 by omega)]
  walk_at "g"
  exact fin_same q
def zbO:DSp:=fun ds S Q=>∃ (S0:Sto) (g y z:D) (V:Vl),ds=[.ref S0.length,g,y,z,zbM V.hz,.int V.h0,.int V.h1,.int V.dl]/\S=S0++[.ins "Valley" []]/\GAt S0 g V.cs/\Lst S0 y (V.bs.map bcD)/\Lst S0 z (V.fs.map fgD)/\zkt V/\∀ nms:List D,Q .non (S0++[.ins "Valley" (vF (.ref (S0.length+2)) (.ref (S0.length+4)) (.ref (S0.length+5)) (zbM V.hz) (.int V.h0) (.int V.h1) (.int V.dl)),.lst nms,.ins "Ground" [("corners",.ref (S0.length+3))],.lst (V.cs.map p2),.lst (V.bs.map bcD),.lst (V.fs.map fgD)])
def za6:DS :=
    (zH (zaQ (dCall zap (zj (zc 2) (zj (zc 3) zu))))
 (zH (zaQ (dCall zas (zj (dLC 1 [] (zbK (zc 2)) (zE 0) zbc (dOp oIx (zc 0) (dC (.int 0)))) zu)))
 (zH (zaQ (dCall zaH (zj (zc 1) (zj (zc 2) zu))))
 (zH (zaQ (dCall zaI (zj (zc 3) zu)))
 (zH (zaQ (dCall zat (zj (zc 4) (zj (zc 5) (zj (zc 6) (zj (zc 7) zu))))))
 (zH (zcF "Valley" "ground" (zc 0) (dCall zdk (zj (zbT "corners" (zc 1)) zu)))
 (zH (zcF "Valley" "beacons" (zc 0) (dB zcg (zj (zc 2) zu)))
 (zH (zcF "Valley" "fogs" (zc 0) (dB zcg (zj (zc 3) zu)))
 (zH (zcF "Valley" "haze" (zc 0) (zc 4))
 (zH (zcF "Valley" "first" (zc 0) (zc 5))
 (zH (zcF "Valley" "last" (zc 0) (zc 6))
 (zcF "Valley" "delay" (zc 0) (zc 7)))))))))))))
theorem zfp:∀ ds So Q,zbO ds So Q->ds.length=8:=by rintro ds So Q ⟨_,_,_,_,_,rfl,_⟩;rfl
theorem zgh:BodyOk 8 za6 zbO:=by
 rintro ds S Q ⟨S0,g,y,z,V,rfl,rfl,hg,hy,hz,ok,q⟩
 unfold za6
 obtain⟨Sa,hSa⟩:∃ Sa:Sto,Sa=S0++[.ins "Valley" []]:=⟨_,rfl⟩
 have hya:Lst Sa y (V.bs.map bcD):=hSa▸hy.old
 have hza:Lst Sa z (V.fs.map fgD):=hSa▸hz.old
 rw [<- hSa]
 walk_at "g"
 refine⟨y,z,_,_,rfl,hya,hza,by rw [List.length_map];exact ok.b1,by rw [List.length_map];exact ok.b12,by rw [List.length_map];exact ok.f12,?_⟩
 walk_at "g"
 have b12:=ok.b12
 have f12:=ok.f12
 refine zby (fun _=>true) (zj6 fun b=>.str b.1) hya (by rw [List.length_map];unfold big;omega) (fun i d ys hd hw=>?_) ?_
 ·obtain⟨b,_,rfl⟩:=zfx hd
  walk_at "g"
  exact zci hd hw rfl rfl
 rw [filter_true,zhK,show V.bs.map (fun b=>D.str b.1)=(V.bs.map (·.1)).map D.str by rw [List.map_map];rfl,hSa]
 walk_at "g"
 refine⟨_,V.bs.map (·.1),rfl,Lst.at rfl,by rw [List.length_map];omega,fun n hn=>?_,ok.nd,?_⟩
 ·obtain⟨b,hb,rfl⟩:=List.mem_map.mp hn
  exact ok.nm b hb
 walk_at "g"
 generalize (V.bs.map (·.1)).map D.str=nms
 refine⟨g,y,V.cs,V.bs,rfl,hg.old,ok.gr,hy.old,by omega,fun b hb=>⟨ok.st b hb,ok.bd b hb⟩,?_⟩
 walk_at "g"
 refine⟨z,V.fs,rfl,hz.old,by omega,ok.fg,?_⟩
 walk_at "g"
 refine⟨V.hz,_,_,_,rfl,ok.hh,ok.dl,ok.hz,?_⟩
 obtain⟨gn,gl,rfl,hgn,hgl⟩:=hg
 have hgn1:(S0++[.ins "Valley" [],.lst nms])[gn]?=some (.ins "Ground" [("corners",.ref gl)]):=zah hgn
 walk_at "g"
 refine⟨_,_,V.cs,rfl,rfl,.inr ⟨gl,rfl,zah hgl⟩,ok.gr,⟨rfl,?_⟩⟩
 rw [List.append_assoc,show (S0++[Cell.ins "Valley" [],.lst nms]).length=S0.length+2 by simp,show ([Cell.ins "Valley" [],.lst nms]:Sto)++[.ins "Ground" [("corners",.ref (S0.length+2+1))],.lst (V.cs.map p2)]=[.ins "Valley" [],.lst nms,.ins "Ground" [("corners",.ref (S0.length+3))],.lst (V.cs.map p2)] from rfl]
 walk_at "g"
 refine⟨S0.length,[],rfl,zaY,by decide,?_⟩
 rw [zbB,zke]
 have hy2:∀ T,Lst (S0++T) y (V.bs.map bcD):=fun T=>hy.old
 have hz2:∀ T,Lst (S0++T) z (V.fs.map fgD):=fun T=>hz.old
 walk_at "g"
 refine⟨S0.length,_,rfl,zaY,by simp,?_⟩
 rw [zbB,vp2]
 walk_at "g"
 refine⟨S0.length,_,rfl,zaY,by simp,?_⟩
 rw [zbB,vp3]
 walk_at "g"
 refine⟨S0.length,_,rfl,zaY,by simp,?_⟩
 rw [zbB,vp4]
 walk_at "g"
 refine⟨S0.length,_,rfl,zaY,by simp,?_⟩
 rw [zbB,vp5]
 walk_at "g"
 refine⟨S0.length,_,rfl,zaY,by simp,?_⟩
 rw [zbB,vp6]
 walk_at "g"
 refine⟨S0.length,_,rfl,zaY,by simp,?_⟩
 rw [zbB,vp7]
 exact fin_same (q nms)
def zet:DSp:=ziE "Valley" zbO
theorem zmp {ws:List (Sum Int Str)}{i:Nat}{d:D}(h:(ws.map kD)[i]?=some d):∃ w,ws[i]?=some w/\d=kD w:=by
 rw [List.getElem?_map] at h
 cases e:ws[i]? with
 | none=>rw [e] at h;cases h
 | some p=>rw [e] at h;cases h;exact⟨p,rfl,rfl⟩
def onW:D->D
 | .int i=>.str (zaM i)
 | d=>d
theorem znk (w:Sum Int Str):onW (kD w)=.str (wdS w):=by cases w<;>rfl
def zaT:DSp:=fun ds S Q=>∃ (x:D) (ws:List (Sum Int Str)),ds=[x]/\Lst S x (ws.map kD)/\ws.length<=41/\(∀ w∈ws,zhi w)/\∀ T,Q (.str (zZ ws)) (S++T)
def zdO:DS :=
  (zaj (zeU (dC (.str " ")) (dLC 1 [] (zbK (zc 0)) (zE 0) zbc (dB zcs (zj (zc 0) zu)))))
theorem ziU:∀ ds So Q,zaT ds So Q->ds.length=1:=by rintro ds So Q ⟨_,_,rfl,_⟩;rfl
theorem zjA:BodyOk 1 zdO zaT:=by
 rintro ds S Q ⟨x,ws,rfl,hx,hl,hw,q⟩
 unfold zdO
 walk_at "g"
 refine⟨⟨_,rfl⟩,?_⟩
 walk_at "g"
 refine zby (fun _=>true) onW hx (by rw [List.length_map];unfold big;omega) (fun i d ys hd hw'=>?_) ?_
 ·obtain⟨w,hwi,rfl⟩:=zmp hd
  have ok:=hw w (List.mem_of_getElem? hwi)
  cases w with
  | inl i =>
   walk_at "g"
   have ok':Bd 600 i:=ok
   refine zcH (ok'.mono (by decide)) ?_
   exact zci hd hw' rfl rfl
  | inr z =>
   walk_at "g"
   refine zmM ?_
   exact zci hd hw' rfl rfl
 rw [filter_true,List.map_map,show onW ∘ kD=fun w=>D.str (wdS w) from funext znk,show ws.map (fun w=>D.str (wdS w))=(ws.map wdS).map D.str by rw [List.map_map];rfl]
 walk_at "g"
 exact⟨_,_,ws.map wdS,rfl,rfl,zaY,(zfk hl hw).2,fin_same (q _)⟩
def zax:DSp:=fun ds S Q=>∃ (v:D) (V:Vl),ds=[v]/\VAt S v V/\VlT V/\∀ T,Q (.str (ziQ V)) (S++T)
def zb1:DS :=
    (zH (zM (zaZ (zj (dCall zaT (zj (dOp zac (zaZ (zj (dC (.str "ground")) zu)) (dLC 2 [] (zbK (zbT "corners" (zbT "ground" (zc 0)))) (zdS 2 (zbA (zE 0) (zbA (zE 1) zd2))) zbc (dF3 ":" (zc 0) (zc 1)))) zu)) (zj (dCall zaT (zj (zaZ (zj (dC (.str "hours")) (zj (zbT "first" (zc 0)) (zj (zbT "last" (zc 0)) zu)))) zu)) (zj (dCall zaT (zj (zaZ (zj (dC (.str "delay")) (zj (zbT "delay" (zc 0)) zu))) zu)) zu)))) (zE 1))
 (zH (sJ (sIf (dT (dOp zgf (zbT "haze" (zc 0)) (dC .non))) (zaQ (dM zaU (zc 1) (zj (dCall zaT (zj (zaZ (zj (dC (.str "haze")) (zj (zbT "haze" (zc 0)) zu))) zu)) zu))) zal))
 (zH (zds (zbK (zbT "beacons" (zc 0))) (zE 2) (zaQ (dM zaU (zc 1) (zj (dCall zaT (zj (dOp zac (zaZ (zj (dC (.str "beacon")) zu)) (dB zcg (zj (zc 2) zu))) zu)) zu))))
 (zH (zds (zbK (zbT "fogs" (zc 0))) (zE 3) (zaQ (dM zaU (zc 1) (zj (dCall zaT (zj (dOp zac (zaZ (zj (dC (.str "fog")) zu)) (dB zcg (zj (zc 3) zu))) zu)) zu))))
 (zaj (zeU (dC (.str "\n")) (zc 1)))))))
theorem zfu:∀ ds So Q,zax ds So Q->ds.length=1:=by rintro ds So Q ⟨_,_,rfl,_⟩;rfl
theorem zfZ:BodyOk 4 zb1 zax:=by
 rintro ds S Q ⟨v,V,rfl,hv,t,q⟩
 unfold zb1
 have ok:=t.ok
 have gr:=ok.gr
 have g40:=gr.most
 have b12:=ok.b12
 have f12:=ok.f12
 obtain⟨l28,hlw⟩:=zeQ t
 have hG:=hlw (wGr V) (by unfold zay;simp)
 have hH:=hlw (wHo V) (by unfold zay;simp)
 have hDl:=hlw (wDe V) (by unfold zay;simp)
 have hB:∀ b∈V.bs,_:=fun b hb=>hlw (wBe b) (by unfold zay;exact List.mem_append_left _ (List.mem_append_right _ (List.mem_map.mpr ⟨b,hb,rfl⟩)))
 have hF:∀ F∈V.fs,_:=fun F hF=>hlw (wFo F) (by unfold zay;exact List.mem_append_right _ (List.mem_map.mpr ⟨F,hF,rfl⟩))
 obtain⟨n,g,b,f,rfl,hn,⟨gn,gl,eg,hg1,hg2⟩,hb,hf⟩:=id hv
 cases eg
 have hn1:∀ T,(S++T)[n]?=some (.ins "Valley" (vF (.ref g) (.ref b) (.ref f) (zbM V.hz) (.int V.h0) (.int V.h1) (.int V.dl))):=fun T=>zah hn
 have hg1':∀ T,(S++T)[g]?=some (.ins "Ground" [("corners",.ref gl)]):=fun T=>zah hg1
 have hg2':∀ T,Lst (S++T) (.ref gl) (V.cs.map p2):=fun T=>Lst.here (zah hg2)
 have a1:=hn1 [.lst [.str "ground"]]
 have a2:=hg1' [.lst [.str "ground"]]
 have a3:=hg2' [.lst [.str "ground"]]
 walk_at "g"
 refine zfq (fun i ys S'=>S'=S++[.lst [.str "ground"]]/\ys=((V.cs.take i).map fun c=>D.str (zdh c))) ⟨rfl,rfl⟩ (fun i ys S' e=>e.1▸a3) (by rw [List.length_map];unfold big;omega) ?_ ?_
 ·rintro i d ys S' hd ⟨rfl,rfl⟩
  obtain⟨c,hc,rfl⟩:=zjC hd
  obtain⟨c1,c2⟩:=gr.bd c (List.mem_of_getElem? hc)
  have l1:=(zb6 (n:=c.1) (c1.mono (by decide))).1
  have l2:=(zb6 (n:=c.2) (c2.mono (by decide))).1
  unfold zaM at l1 l2
  walk_at "g"
  refine⟨⟨_,rfl,c1.mono (by decide),by omega,by decide +kernel⟩,?_⟩
  walk_at "g"
  refine⟨_,_,rfl,rfl,c2.mono (by decide),by omega,?_⟩
  refine⟨rfl,?_⟩
  rw [zbe hc,List.map_append];rfl
 rintro ys S' ⟨rfl,rfl⟩
 rw [List.length_map,List.take_length]
 walk_at "g"
 refine zeh (xs:=[.str "ground"]) (ys:=V.cs.map fun c=>D.str (zdh c)) (Lst.at (k:=0) rfl) (Lst.at (k:=1) rfl) (by rw [List.length_map];show 1+_<=big;unfold big;omega) ?_
 rw [show [D.str "ground"]++V.cs.map (fun c=>D.str (zdh c))=(wGr V).map kD by unfold wGr;rw [List.map_cons,List.map_map];rfl]
 walk_at "g"
 refine⟨_,wGr V,rfl,Lst.at (k:=2) rfl,hG.1,hG.2,fun T1=>?_⟩
 generalize ([Cell.lst [D.str "ground"],.lst (V.cs.map fun c=>D.str (zdh c)),.lst ((wGr V).map kD)]:Sto)=U1
 rw [List.append_assoc]
 generalize U1++T1=U2
 have a4:=hn1 U2
 walk_at "g"
 refine⟨_,wHo V,rfl,Lst.new,hH.1,hH.2,fun T2=>?_⟩
 rw [List.append_assoc]
 generalize U2++[Cell.lst [D.str "hours",D.int V.h0,D.int V.h1]]++T2=U3
 have a5:=hn1 U3
 walk_at "g"
 refine⟨_,wDe V,rfl,Lst.new,hDl.1,hDl.2,fun T3=>?_⟩
 rw [List.append_assoc]
 generalize U3++[Cell.lst [D.str "delay",D.int V.dl]]++T3=U4
 walk_at "g"
 walk_at "drho"
 obtain⟨S4,hS4⟩:∃ S4:Sto,S4=S++U4:=⟨_,rfl⟩
 have e4:S++(U4++[Cell.lst [D.str (zZ (wGr V)),D.str (zZ (wHo V)),D.str (zZ (wDe V))]])=S4++[Cell.lst ([wGr V,wHo V,wDe V].map fun ws=>D.str (zZ ws))]:=by rw [hS4];simp
 have e5:S.length+U4.length=S4.length:=by rw [hS4];simp
 have hv4:∀ X,VAt (S4++X) (.ref n) V:=fun X=>hS4▸(hv.old (T:=U4)).old
 have n4:∀ X,(S4++X)[n]?=some (.ins "Valley" (vF (.ref g) (.ref b) (.ref f) (zbM V.hz) (.int V.h0) (.int V.h1) (.int V.dl))):=fun X=>by rw [hS4,List.append_assoc];exact hn1 _
 have hb4:∀ X,Lst (S4++X) (.ref b) (V.bs.map bcD):=fun X=>by rw [hS4,List.append_assoc];exact Lst.here (zah hb)
 have hf4:∀ X,Lst (S4++X) (.ref f) (V.fs.map fgD):=fun X=>by rw [hS4,List.append_assoc];exact Lst.here (zah hf)
 have x4:∃ T,S4=S++T:=⟨U4,hS4⟩
 rw [e4,e5]
 clear e4 e5 hS4 a1 a2 a3 a4 a5
 refine r_J (fun ρ S'=>∃ (G:Sto),S'=S4++Cell.lst (([wGr V,wHo V,wDe V]++wHa V).map fun ws=>D.str (zZ ws))::G/\ρ=[some (.ref n),some (.ref S4.length),none,none]) ?_ ?_
 ·have n5:=n4 [Cell.lst ([wGr V,wHo V,wDe V].map fun ws=>D.str (zZ ws))]
  walk_at "g"
  cases hz:V.hz with
  | none =>
   rw [zgy,show zd4 .non=true from rfl]
   walk_at "g"
   exact⟨[],by unfold wHa;rw [hz];simp,rfl⟩
  | some z =>
   have hHa:=hlw [.inr "haze",.inl z] (by unfold zay wHa;rw [hz];simp)
   rw [hz,zej] at n5
   rw [zej,show zd4 (.int z)=false from rfl]
   walk_at "g"
   refine⟨_,[.inr "haze",.inl z],rfl,Lst.at (k:=1) rfl,hHa.1,hHa.2,fun T5=>?_⟩
   rw [List.append_assoc]
   have hlim:([wGr V,wHo V,wDe V].map fun ws=>D.str (zZ ws)).length<big:=by show 3<big;decide
   walk_at "g"
   exact⟨_,by unfold wHa;rw [hz];rfl,rfl⟩
 rintro ρ S' ⟨G,rfl,rfl⟩
 obtain⟨L0,hL0⟩:∃ L0,L0=[wGr V,wHo V,wDe V]++wHa V:=⟨_,rfl⟩
 have hll:zay V=L0++V.bs.map wBe++V.fs.map wFo:=by unfold zay;rw [hL0]
 have lL:L0.length<=28:=by have:=congrArg List.length hll;rw [List.length_append,List.length_append] at this;omega
 rw [<- hL0]
 have n6:=n4 (Cell.lst (L0.map fun ws=>D.str (zZ ws))::G)
 have hb6:=hb4 (Cell.lst (L0.map fun ws=>D.str (zZ ws))::G)
 walk_at "g"
 refine zcN (fun i ρ S'=>∃ (G:Sto) (w2:Option D),S'=S4++Cell.lst ((L0++(V.bs.take i).map wBe).map fun ws=>D.str (zZ ws))::G/\ρ=[some (.ref n),some (.ref S4.length),w2,none]) ⟨G,_,by simp,rfl⟩ (fun i ρ S' ⟨G,_,e,_⟩=>e▸hb4 _) ?_ ?_
 ·rintro i d ρ S' hd ⟨G,w2,rfl,rfl⟩
  obtain⟨c,hc,rfl⟩:=zfx hd
  have mc:=List.mem_of_getElem? hc
  have li:=zav hc
  walk_at "g"
  refine zeh (xs:=[.str "beacon"]) (ys:=[.str c.1,.int c.2.1,.int c.2.2]) (by rw [<- List.append_assoc];exact Lst.old Lst.new) Lst.new (by show 1+3<=big;decide) ?_
  refine zcG ?_
  walk_at "g"
  refine⟨_,wBe c,rfl,Lst.new,(hB c mc).1,(hB c mc).2,fun T5=>?_⟩
  rw [List.append_assoc]
  have hlim:((L0++(V.bs.take i).map wBe).map fun ws=>D.str (zZ ws)).length<big:=by rw [List.length_map,List.length_append,List.length_map,List.length_take];unfold big;omega
  rw [List.cons_append,List.cons_append,List.cons_append,List.cons_append]
  walk_at "g"
  have ee:(L0++(V.bs.take (i+1)).map wBe).map (fun ws=>D.str (zZ ws))=(L0++(V.bs.take i).map wBe).map (fun ws=>D.str (zZ ws))++[D.str (zZ (wBe c))]:=by rw [zbe hc];simp
  exact⟨_,_,by rw [ee],rfl⟩
 rintro ρ S' ⟨G2,w2,rfl,rfl⟩
 rw [List.length_map,List.take_length]
 obtain⟨L1,hL1⟩:∃ L1,L1=L0++V.bs.map wBe:=⟨_,rfl⟩
 have lL1:L1.length<=28:=by have:=congrArg List.length hll;rw [<- hL1,List.length_append] at this;omega
 rw [<- hL1] at hll ⊢
 have n7:=n4 (Cell.lst (L1.map fun ws=>D.str (zZ ws))::G2)
 have hf7:=hf4 (Cell.lst (L1.map fun ws=>D.str (zZ ws))::G2)
 walk_at "g"
 refine zcN (fun i ρ S'=>∃ (G:Sto) (w3:Option D),S'=S4++Cell.lst ((L1++(V.fs.take i).map wFo).map fun ws=>D.str (zZ ws))::G/\ρ=[some (.ref n),some (.ref S4.length),w2,w3]) ⟨G2,_,by simp,rfl⟩ (fun i ρ S' ⟨G,_,e,_⟩=>e▸hf4 _) ?_ ?_
 ·rintro i d ρ S' hd ⟨G,w3,rfl,rfl⟩
  obtain⟨F,hc,rfl⟩:=zhy hd
  have mc:=List.mem_of_getElem? hc
  have li:=zav hc
  walk_at "g"
  refine zeh (xs:=[.str "fog"]) (ys:=[.int F.x0,.int F.x1,.int F.z0,.int F.z1,.int F.f,.int F.l,.int F.g,.int F.s]) (by rw [<- List.append_assoc];exact Lst.old Lst.new) Lst.new (by show 1+8<=big;decide) ?_
  refine zcG ?_
  walk_at "g"
  refine⟨_,wFo F,rfl,Lst.new,(hF F mc).1,(hF F mc).2,fun T5=>?_⟩
  rw [List.append_assoc]
  have hlim:((L1++(V.fs.take i).map wFo).map fun ws=>D.str (zZ ws)).length<big:=by rw [List.length_map,List.length_append,List.length_map,List.length_take];unfold big;omega
  rw [List.cons_append,List.cons_append,List.cons_append,List.cons_append]
  walk_at "g"
  have ee:(L1++(V.fs.take (i+1)).map wFo).map (fun ws=>D.str (zZ ws))=(L1++(V.fs.take i).map wFo).map (fun ws=>D.str (zZ ws))++[D.str (zZ (wFo F))]:=by rw [zbe hc];simp
  exact⟨_,_,by rw [ee],rfl⟩
 rintro ρ S' ⟨G3,w3,rfl,rfl⟩
 rw [List.length_map,List.take_length,<- hll]
 walk_at "g"
 refine⟨⟨_,rfl⟩,?_⟩
 walk_at "g"
 obtain⟨T4,rfl⟩:=x4
 refine⟨_,_,(zay V).map zZ,rfl,rfl,?_,(zc7 t).2,?_⟩
 ·rw [List.map_map];exact zaY
 ·rw [List.append_assoc];exact fin_same (q _)
def LnG (S0 G:Sto)(xs:List D)(ws:List (List (Sum Int Str))):Prop:=xs.length=ws.length/\∀ (i:Nat) w,ws[i]?=some w->∃ m,xs[i]?=some (.ref m)/\∀ c,(S0++c::G)[m]?=some (.lst ((w.map wdS).map D.str))
theorem LnG.old {S0 G T:Sto}{xs:List D}{ws:List (List (Sum Int Str))}(h:LnG S0 G xs ws):LnG S0 (G++T) xs ws:=⟨h.1,fun i w hw=>by
 obtain⟨m,h1,h2⟩:=h.2 i w hw
 exact⟨m,h1,fun c=>by
  have:=zah (T:=T) (h2 c)
  rwa [List.append_assoc,List.cons_append] at this⟩⟩
theorem LnG.snoc {S0 G:Sto}{xs:List D}{ws:List (List (Sum Int Str))}{m:Nat}{w:List (Sum Int Str)}(h:LnG S0 G xs ws)(hm:∀ c,(S0++c::G)[m]?=some (.lst ((w.map wdS).map D.str))):LnG S0 G (xs++[.ref m]) (ws++[w]):=by
 refine⟨by rw [List.length_append,List.length_append,h.1];rfl,fun i v hv=>?_⟩
 rcases Nat.lt_or_ge i ws.length with g | g
 ·rw [List.getElem?_append_left g] at hv
  obtain⟨k,h1,h2⟩:=h.2 i v hv
  exact⟨k,by rw [List.getElem?_append_left (by rw [h.1];exact g)];exact h1,h2⟩
 ·have li:=zav hv
  rw [List.length_append] at li
  have ei:i=ws.length:=by simp at li;omega
  subst ei
  rw [List.getElem?_append_right (Nat.le_refl _),Nat.sub_self] at hv
  have e:w=v:=by simpa using hv
  subst e
  exact⟨m,by rw [<- h.1,List.getElem?_append_right (Nat.le_refl _),Nat.sub_self];rfl,hm⟩
theorem zkL {S0 G:Sto}{c d:Cell}:(S0++c::(G++[d]))[S0.length+(1+G.length)]?=some d:=by
 rw [zaF,Nat.add_comm,List.getElem?_cons_succ,List.getElem?_append_right (Nat.le_refl _),Nat.sub_self];rfl
def zbE:DSp:=fun ds S Q=>∃ (x y z:D) (V:Vl),ds=[vlD x y z V]/\VlS S x y z V/\VlT V/\∀ (T:Sto) (n:Nat) (xs:List D),xs.length=(zay V).length->(S++T)[n]?=some (.lst xs)->(∀ (i:Nat) w,(zay V)[i]?=some w->∃ m,xs[i]?=some (.ref m)/\(S++T)[m]?=some (.lst ((w.map wdS).map D.str)))->Q (.ref n) (S++T)
def zcI:DS :=
    (zH (zM (zaZ (zj (dOp zac (zaZ (zj (dC (.str "ground")) zu)) (dLC 1 [] (zbK (dOp oIx (zc 0) (dC (.int 0)))) (zE 0) zbc (dOp zac (dOp zac (dB zcs (zj (dOp oIx (zc 0) (dC (.int 0))) zu)) (dC (.str ":"))) (dB zcs (zj (dOp oIx (zc 0) (dC (.int 1))) zu))))) zu)) (zE 1))
 (zH (zaQ (dM zaU (zc 1) (zj (zaZ (zj (dC (.str "hours")) (zj (dB zcs (zj (dOp oIx (zc 0) (dC (.int 4))) zu)) (zj (dB zcs (zj (dOp oIx (zc 0) (dC (.int 5))) zu)) zu)))) zu)))
 (zH (zaQ (dM zaU (zc 1) (zj (zaZ (zj (dC (.str "delay")) (zj (dB zcs (zj (dOp oIx (zc 0) (dC (.int 6))) zu)) zu))) zu)))
 (zH (sJ (sIf (dT (dOp zgf (dOp oIx (zc 0) (dC (.int 3))) (dC .non))) (zaQ (dM zaU (zc 1) (zj (zaZ (zj (dC (.str "haze")) (zj (dB zcs (zj (dOp oIx (zc 0) (dC (.int 3))) zu)) zu))) zu))) zal))
 (zH (zds (zbK (dOp oIx (zc 0) (dC (.int 1)))) (zdS 3 (zbA (zE 2) (zbA (zE 3) (zbA (zE 4) zd2)))) (zaQ (dM zaU (zc 1) (zj (zaZ (zj (dC (.str "beacon")) (zj (zc 2) (zj (dB zcs (zj (zc 3) zu)) (zj (dB zcs (zj (zc 4) zu)) zu))))) zu))))
 (zH (zds (zbK (dOp oIx (zc 0) (dC (.int 2)))) (zE 5) (zaQ (dM zaU (zc 1) (zj (dOp zac (zaZ (zj (dC (.str "fog")) zu)) (dLC 1 [] (zbK (zc 5)) (zE 0) zbc (dB zcs (zj (zc 0) zu)))) zu))))
 (zaj (zc 1))))))))
theorem zgD:∀ ds So Q,zbE ds So Q->ds.length=1:=by rintro ds So Q ⟨_,_,_,_,rfl,_⟩;rfl
theorem zhL:BodyOk 6 zcI zbE:=by
 rintro ds S Q ⟨x,y,z,V,rfl,hs,t,q⟩
 unfold zcI
 have ok:=t.ok
 have gr:=ok.gr
 have g40:=gr.most
 have b12:=ok.b12
 have f12:=ok.f12
 obtain⟨l28,hlw⟩:=zeQ t
 obtain⟨hx,hy,hz'⟩:=hs
 have hx1:∀ T,Lst (S++T) x (V.cs.map p2):=fun T=>hx.old
 have hy1:∀ T,Lst (S++T) y (V.bs.map bcD):=fun T=>hy.old
 have hz1:∀ T,Lst (S++T) z (V.fs.map fgD):=fun T=>hz'.old
 have a1:=hx1 [.lst [.str "ground"]]
 walk_at "g"
 refine zfq (fun i ys S'=>S'=S++[.lst [.str "ground"]]/\ys=((V.cs.take i).map fun c=>D.str (zdh c))) ⟨rfl,rfl⟩ (fun i ys S' e=>e.1▸a1) (by rw [List.length_map];unfold big;omega) ?_ ?_
 ·rintro i d ys S' hd ⟨rfl,rfl⟩
  obtain⟨c,hc,rfl⟩:=zjC hd
  obtain⟨c1,c2⟩:=gr.bd c (List.mem_of_getElem? hc)
  have l1:=(zb6 (n:=c.1) (c1.mono (by decide))).1
  have l2:=(zb6 (n:=c.2) (c2.mono (by decide))).1
  unfold zaM at l1 l2
  walk_at "g"
  refine zcH (c1.mono (by decide)) ?_
  walk_at "g"
  refine zhb (by show _+1<=big;unfold big;omega) ?_
  walk_at "g"
  refine zcH (c2.mono (by decide)) ?_
  refine zhb (by rw [len_app];show _+1+_<=big;unfold big;omega) ?_
  refine⟨rfl,?_⟩
  rw [zbe hc,List.map_append];rfl
 rintro ys S' ⟨rfl,rfl⟩
 rw [List.length_map,List.take_length]
 walk_at "g"
 refine zeh (xs:=[.str "ground"]) (ys:=V.cs.map fun c=>D.str (zdh c)) (Lst.at (k:=0) rfl) (Lst.at (k:=1) rfl) (by rw [List.length_map];show 1+_<=big;unfold big;omega) ?_
 rw [show [D.str "ground"]++V.cs.map (fun c=>D.str (zdh c))=((wGr V).map wdS).map D.str by unfold wGr;rw [List.map_cons,List.map_cons,List.map_map,List.map_map];rfl]
 walk_at "g"
 walk_at "drho"
 obtain⟨S0,hS0⟩:∃ S0:Sto,S0=S++[Cell.lst [D.str "ground"],.lst (V.cs.map fun c=>D.str (zdh c)),.lst (((wGr V).map wdS).map D.str)]:=⟨_,rfl⟩
 have e0:S++[Cell.lst [D.str "ground"],.lst (V.cs.map fun c=>D.str (zdh c)),.lst (((wGr V).map wdS).map D.str),.lst [.ref (S.length+2)]]=S0++Cell.lst [.ref (S.length+2)]::[]:=by rw [hS0];simp
 have e1:S.length+3=S0.length:=by rw [hS0];simp
 rw [e0,e1]
 have ln0:LnG S0 [] [.ref (S.length+2)] [wGr V]:=⟨rfl,fun i w hw=>by
  have hi:=zav hw
  have ei:i=0:=by simp at hi;omega
  subst ei
  have ew:wGr V=w:=by simpa using hw
  subst ew
  exact⟨_,rfl,fun c=>by
   have:S0[S.length+2]?=some (.lst (((wGr V).map wdS).map D.str)):=by rw [hS0];exact (zaF _ _ 2).trans rfl
   exact zah this⟩⟩
 have x0:∃ T,S0=S++T:=⟨_,hS0⟩
 have hy4:∀ X,Lst (S0++X) y (V.bs.map bcD):=fun X=>by rw [hS0,List.append_assoc];exact hy1 _
 have hz4:∀ X,Lst (S0++X) z (V.fs.map fgD):=fun X=>by rw [hS0,List.append_assoc];exact hz1 _
 clear e0 e1 hS0 a1
 generalize S.length+2=r0 at ln0
 have bh0:Bd 1900 V.h0:=ok.b0.mono (by decide)
 have bh1:Bd 1900 V.h1:=ok.bl.mono (by decide)
 walk_at "g"
 refine zcH bh0 ?_
 walk_at "g"
 refine zcH bh1 ?_
 have bdl:Bd 1900 V.dl:=t.dl.mono (by decide)
 walk_at "g"
 refine⟨Nat.le_of_ble_eq_true rfl,?_⟩
 walk_at "g"
 refine zcH bdl ?_
 walk_at "g"
 have ln1:=(ln0.old (T:=[Cell.lst [D.str "hours",D.str (zaM V.h0),D.str (zaM V.h1)]])).snoc (m:=S0.length+1) (w:=wHo V) (fun c=>(zaF _ _ 1).trans rfl)
 have ln2:=(ln1.old (T:=[Cell.lst [D.str "delay",D.str (zaM V.dl)]])).snoc (m:=S0.length+2) (w:=wDe V) (fun c=>(zaF _ _ 2).trans rfl)
 refine r_J (fun ρ S'=>∃ (G:Sto) (xs:List D),S'=S0++Cell.lst xs::G/\LnG S0 G xs ([wGr V,wHo V,wDe V]++wHa V)/\ρ=[some (vlD x y z V),some (.ref S0.length),none,none,none,none]) ?_ ?_
 ·walk_at "g"
  cases hz:V.hz with
  | none =>
   rw [zgy,show zd4 .non=true from rfl]
   walk_at "g"
   refine⟨_,_,rfl,?_,rfl⟩
   have e:wHa V=[]:=by unfold wHa;rw [hz]
   rw [e]
   exact ln2
  | some zz =>
   have bz:Bd 1900 zz:=(t.hz zz hz).mono (by decide)
   rw [zej,show zd4 (.int zz)=false from rfl]
   have ax:atD [x,y,z,zbM V.hz,.int V.h0,.int V.h1,.int V.dl] 3=some (.int zz):=by rw [hz];rfl
   walk_at "g"
   refine zcH bz ?_
   walk_at "g"
   refine⟨_,_,rfl,?_,rfl⟩
   have e:wHa V=[[.inr "haze",.inl zz]]:=by unfold wHa;rw [hz]
   rw [e]
   exact (ln2.old (T:=[Cell.lst [D.str "haze",D.str (zaM zz)]])).snoc (m:=S0.length+3) (w:=[.inr "haze",.inl zz]) (fun c=>(zaF _ _ 3).trans rfl)
 rintro ρ S' ⟨G,xs,rfl,ln,rfl⟩
 obtain⟨L0,hL0⟩:∃ L0,L0=[wGr V,wHo V,wDe V]++wHa V:=⟨_,rfl⟩
 have hll:zay V=L0++V.bs.map wBe++V.fs.map wFo:=by unfold zay;rw [hL0]
 have lL:L0.length+V.bs.length+V.fs.length<=28:=by have:=congrArg List.length hll;rw [List.length_append,List.length_append,List.length_map,List.length_map] at this;omega
 rw [<- hL0] at ln
 have hy6:=hy4 (Cell.lst xs::G)
 walk_at "g"
 refine zcN (fun i ρ S'=>∃ (G:Sto) (xs:List D) (w2 w3 w4:Option D),S'=S0++Cell.lst xs::G/\LnG S0 G xs (L0++(V.bs.take i).map wBe)/\ρ=[some (vlD x y z V),some (.ref S0.length),w2,w3,w4,none]) ⟨G,xs,_,_,_,rfl,by simpa using ln,rfl⟩ (fun i ρ S' ⟨G,xs,_,_,_,e,_⟩=>e▸hy4 _) ?_ ?_
 ·rintro i d ρ S' hd ⟨G,xs,w2,w3,w4,rfl,ln,rfl⟩
  obtain⟨c,hc,rfl⟩:=zfx hd
  have mc:=List.mem_of_getElem? hc
  have li:=zav hc
  obtain⟨c1,c2⟩:=ok.bd c mc
  have lx:=ln.1
  rw [List.length_append,List.length_map,List.length_take] at lx
  have hlim:xs.length<big:=by unfold big;omega
  walk_at "g"
  refine zcH (c1.mono (by decide)) ?_
  walk_at "g"
  refine zcH (c2.mono (by decide)) ?_
  walk_at "g"
  refine⟨_,_,_,_,_,rfl,?_,rfl⟩
  rw [zbe hc,List.map_append,<- List.append_assoc,show S0.length+(Cell.lst xs::G).length=S0.length+(1+G.length) by rw [List.length_cons];omega]
  exact (ln.old (T:=[Cell.lst [D.str "beacon",D.str c.1,D.str (zaM c.2.1),D.str (zaM c.2.2)]])).snoc (w:=wBe c) (fun c=>zkL)
 rintro ρ S' ⟨G2,xs2,w2,w3,w4,rfl,ln2,rfl⟩
 rw [List.length_map,List.take_length] at ln2
 obtain⟨L1,hL1⟩:∃ L1,L1=L0++V.bs.map wBe:=⟨_,rfl⟩
 have lL1:L1.length+V.fs.length<=28:=by rw [hL1,List.length_append,List.length_map];exact lL
 rw [<- hL1] at hll ln2
 have hz7:=hz4 (Cell.lst xs2::G2)
 walk_at "g"
 refine zcN (fun i ρ S'=>∃ (G:Sto) (xs:List D) (w5:Option D),S'=S0++Cell.lst xs::G/\LnG S0 G xs (L1++(V.fs.take i).map wFo)/\ρ=[some (vlD x y z V),some (.ref S0.length),w2,w3,w4,w5]) ⟨G2,xs2,_,rfl,by simpa using ln2,rfl⟩ (fun i ρ S' ⟨G,xs,_,e,_⟩=>e▸hz4 _) ?_ ?_
 ·rintro i d ρ S' hd ⟨G,xs,w5,rfl,ln,rfl⟩
  obtain⟨F,hc,rfl⟩:=zhy hd
  have mc:=List.mem_of_getElem? hc
  have li:=zav hc
  have lx:=ln.1
  rw [List.length_append,List.length_map,List.length_take] at lx
  have hlim:xs.length<big:=by unfold big;omega
  have hw:=(hlw (wFo F) (by unfold zay;exact List.mem_append_right _ (List.mem_map.mpr ⟨F,mc,rfl⟩))).2
  walk_at "g"
  refine zby (xs:=[F.x0,F.x1,F.z0,F.z1,F.f,F.l,F.g,F.s].map D.int) (fun _=>true) (onI fun n=>.str (zaM n)) True.intro (by show 8<=big;decide) (fun j d ys hd' hw'=>?_) ?_
  ·obtain⟨m,hm,rfl⟩:=zig hd'
   have bm:Bd 600 m:=hw (.inl m) (by
    have:=List.mem_of_getElem? hm
    unfold wFo
    simp at this ⊢
    exact this)
   walk_at "g"
   refine zcH (bm.mono (by decide)) ?_
   exact zci hd' hw' rfl rfl
  rw [filter_true,zlW]
  refine zcG ?_
  walk_at "g"
  refine zeh (xs:=[.str "fog"]) (ys:=[F.x0,F.x1,F.z0,F.z1,F.f,F.l,F.g,F.s].map fun n=>D.str (zaM n)) (by rw [<- List.append_assoc];exact Lst.old Lst.new) Lst.new (by show 1+8<=big;decide) ?_
  refine zcG ?_
  walk_at "g"
  rw [List.cons_append,List.cons_append,List.cons_append]
  walk_at "g"
  refine⟨_,_,_,rfl,?_,rfl⟩
  rw [zbe hc,List.map_append,<- List.append_assoc]
  have e5:S0.length+(Cell.lst xs::(G++[Cell.lst [D.str "fog"]]++[Cell.lst ([F.x0,F.x1,F.z0,F.z1,F.f,F.l,F.g,F.s].map fun n=>D.str (zaM n))])).length=S0.length+(1+(G++[Cell.lst [D.str "fog"]]++[Cell.lst ([F.x0,F.x1,F.z0,F.z1,F.f,F.l,F.g,F.s].map fun n=>D.str (zaM n))]).length):=by rw [List.length_cons];omega
  rw [e5]
  exact ((ln.old.old).old (T:=[Cell.lst ((wFo F).map wdS |>.map D.str)])).snoc (w:=wFo F) (fun c=>zkL)
 rintro ρ S' ⟨G3,xs3,w5,rfl,ln3,rfl⟩
 rw [List.length_map,List.take_length,<- hll] at ln3
 walk_at "g"
 obtain⟨T4,rfl⟩:=x0
 refine fin_same ?_
 rw [List.append_assoc]
 refine q _ _ xs3 ln3.1 ?_ fun i w hw=>?_
 ·rw [<- List.append_assoc];exact zaY
 ·obtain⟨m,h1,h2⟩:=ln3.2 i w hw
  exact⟨m,h1,by rw [<- List.append_assoc];exact h2 _⟩
def zbV:DSp:=fun ds S Q=>∃ (x y z:D) (V:Vl),ds=[vlD x y z V]/\VlS S x y z V/\VlT V/\∀ T,Q (.str (ziQ V)) (S++T)
def zcV:DS :=
  (zaj (zeU (dC (.str "\n")) (dLC 1 [] (zbK (dCall zbE (zj (zc 0) zu))) (zE 0) zbc (zeU (dC (.str " ")) (zc 0)))))
theorem zg7:∀ ds So Q,zbV ds So Q->ds.length=1:=by rintro ds So Q ⟨_,_,_,_,rfl,_⟩;rfl
theorem zhX:BodyOk 1 zcV zbV:=by
 rintro ds S Q ⟨x,y,z,V,rfl,hs,t,q⟩
 unfold zcV
 obtain⟨l28,hlw⟩:=zeQ t
 walk_at "g"
 refine⟨⟨_,rfl⟩,?_⟩
 walk_at "g"
 refine⟨x,y,z,V,rfl,hs,t,fun T n xs lx hn hi=>?_⟩
 walk_at "g"
 refine zfq (fun i ys S'=>S'=S++T/\ys=((zay V).take i).map (fun w=>D.str (zZ w))) ⟨rfl,rfl⟩ (fun i ys S' e=>e.1▸Lst.here hn) (by rw [lx];unfold big;omega) ?_ ?_
 ·rintro i d ys S' hd ⟨rfl,rfl⟩
  have li:=zav hd
  obtain⟨w,hw⟩:∃ w,(zay V)[i]?=some w:=⟨_,List.getElem?_eq_getElem (by omega)⟩
  obtain⟨m,h1,h2⟩:=hi i w hw
  rw [hd] at h1
  cases h1
  have ok:=hlw w (List.mem_of_getElem? hw)
  walk_at "g"
  refine⟨⟨_,rfl⟩,?_⟩
  walk_at "g"
  refine⟨_,_,w.map wdS,rfl,rfl,h2,(zfk ok.1 ok.2).2,?_⟩
  refine⟨rfl,?_⟩
  rw [zbe hw,List.map_append];rfl
 rintro ys S' ⟨rfl,rfl⟩
 rw [lx,List.take_length]
 walk_at "g"
 refine⟨_,_,(zay V).map zZ,rfl,rfl,?_,(zc7 t).2,?_⟩
 ·rw [List.map_map,<- List.append_assoc,<- List.length_append];exact zaY
 ·exact fin_same (q _)
def zgN:DS :=
    (zH (zM (dCall zbJ (zj (zc 0) zu)) (zE 1))
 (zH (zM (zaZ (zj (dB zcg (zj (dOp oIx (zc 1) (dC (.int 0))) zu)) (zj (dB zcg (zj (dOp oIx (zc 1) (dC (.int 1))) zu)) (zj (dB zcg (zj (dOp oIx (zc 1) (dC (.int 2))) zu)) zu)))) (zE 2))
 (zH (zM (dCall zet (zj (dCall zdk (zj (dOp oIx (zc 2) (dC (.int 0))) zu)) (zj (dOp oIx (zc 2) (dC (.int 1))) (zj (dOp oIx (zc 2) (dC (.int 2))) (zj (dOp oIx (zc 1) (dC (.int 3))) (zj (dOp oIx (zc 1) (dC (.int 4))) (zj (dOp oIx (zc 1) (dC (.int 5))) (zj (dOp oIx (zc 1) (dC (.int 6))) zu)))))))) (zE 3))
 (zH (zM (dTup (zj (dOp zbp (dOp oIx (dOp oIx (dOp oIx (zc 2) (dC (.int 0))) (dC (.int 0))) (dC (.int 0))) (dC (.int 3))) (zj (dC (.int 4)) zu))) (zf4 (dOp oIx (zc 2) (dC (.int 0))) (dC (.int 0))))
 (zH (zaQ (dM zaU (dOp oIx (zc 2) (dC (.int 1))) (zj (dTup (zj (dC (.str "zzz")) (zj (dOp oIx (dOp oIx (dOp oIx (zc 1) (dC (.int 1))) (dC (.int 0))) (dC (.int 1))) (zj (dOp oIx (dOp oIx (dOp oIx (zc 1) (dC (.int 1))) (dC (.int 0))) (dC (.int 2))) zu)))) zu)))
 (zH (zaQ (dM zaU (dOp oIx (zc 2) (dC (.int 2))) (zj (dTup (zj (dC (.int 0)) (zj (dC (.int 0)) (zj (dC (.int 0)) (zj (dC (.int 0)) (zj (dC (.int 0)) (zj (dC (.int 0)) (zj (dC (.int 0)) (zj (dC (.int 0)) zu))))))))) zu)))
 (zH (zM (dCall zax (zj (zc 3) zu)) (zE 4))
 (zH (sIf (dOr (zdw (dT (dB zdU (zj (zc 4) (zj (dC (.ty "str")) zu))))) (dT (dOp oNe (zc 4) (dCall zbV (zj (zc 1) zu))))) (zaj (dC (.bl false))) zal)
 (zaj (zd6 (dOp oEq (dCall zax (zj (zc 3) zu)) (zc 4)) (dOp oEq (dB zbs (zj (zbT "beacons" (zc 3)) zu)) (dB zbs (zj (dOp oIx (zc 1) (dC (.int 1))) zu)))))))))))))
theorem znC:BodyOk 5 zgN zc8:=by
 rintro ds S Q ⟨ns,rfl,⟨_,hg⟩,hl,q⟩
 unfold zgN
 walk_at "g"
 refine⟨ns,rfl,hl,fun T x y z V t b6 f4 hs=>?_⟩
 generalize S++T=S1 at hs
 have ok:=t.ok
 have b1:=ok.b1
 have g40:=ok.gr.most
 have g2:=ok.gr.two
 obtain⟨hx,hy,hz⟩:=id hs
 have kz:∀ T,Lst (S1++T) z (V.fs.map fgD):=fun T=>hz.old
 have kx:∀ T,Lst (S1++T) x (V.cs.map p2):=fun T=>hx.old
 have ky:∀ T,Lst (S1++T) y (V.bs.map bcD):=fun T=>hy.old
 have ky1:=ky [.lst (V.cs.map p2)]
 have kz1:=kz [.lst (V.cs.map p2),.lst (V.bs.map bcD)]
 walk_at "g"
 walk_at "drho"
 refine⟨S1++[.lst (V.cs.map p2),.lst (V.bs.map bcD),.lst (V.fs.map fgD),.lst [.ref S1.length,.ref (S1.length+1),.ref (S1.length+2)]],_,V.cs,by simp,rfl,Lst.at0,ok.gr,⟨rfl,?_⟩⟩
 rw [List.append_assoc,show (S1++[Cell.lst (V.cs.map p2),.lst (V.bs.map bcD),.lst (V.fs.map fgD),.lst [.ref S1.length,.ref (S1.length+1),.ref (S1.length+2)]]).length=S1.length+4 by simp]
 show (zj _ _) _ (S1++[Cell.lst (V.cs.map p2),.lst (V.bs.map bcD),.lst (V.fs.map fgD),.lst [.ref S1.length,.ref (S1.length+1),.ref (S1.length+2)],.ins "Ground" [("corners",.ref (S1.length+4+1))],.lst (V.cs.map p2)]) _
 walk_at "g"
 refine⟨S1++[Cell.lst (V.cs.map p2),.lst (V.bs.map bcD),.lst (V.fs.map fgD),.lst [.ref S1.length,.ref (S1.length+1),.ref (S1.length+2)],.ins "Ground" [("corners",.ref (S1.length+4+1))],.lst (V.cs.map p2)],_,_,_,V,by simp,rfl,⟨_,_,rfl,(zaF _ _ 4).trans rfl,(zaF _ _ 5).trans rfl⟩,Lst.at (k:=1) rfl,Lst.at (k:=2) rfl,ok,fun nms=>⟨rfl,?_⟩⟩
 rw [List.append_assoc,show (S1++[Cell.lst (V.cs.map p2),.lst (V.bs.map bcD),.lst (V.fs.map fgD),.lst [.ref S1.length,.ref (S1.length+1),.ref (S1.length+2)],.ins "Ground" [("corners",.ref (S1.length+4+1))],.lst (V.cs.map p2)]).length=S1.length+6 by simp]
 walk_at "drho2"
 show (zE 3) _ _ (S1++[Cell.lst (V.cs.map p2),.lst (V.bs.map bcD),.lst (V.fs.map fgD),.lst [.ref S1.length,.ref (S1.length+1),.ref (S1.length+2)],.ins "Ground" [("corners",.ref (S1.length+4+1))],.lst (V.cs.map p2),.ins "Valley" (vF (.ref (S1.length+8)) (.ref (S1.length+10)) (.ref (S1.length+11)) (zbM V.hz) (.int V.h0) (.int V.h1) (.int V.dl)),.lst nms,.ins "Ground" [("corners",.ref (S1.length+9))],.lst (V.cs.map p2),.lst (V.bs.map bcD),.lst (V.fs.map fgD)]) _
 obtain⟨b0,hb0,ab0⟩:=zoB (bs:=V.bs) (k:=0) (by decide) (by omega)
 obtain⟨c0,hc0,ac0⟩:=zeW (cs:=V.cs) (k:=0) (by decide) (by omega)
 walk_at "g"
 refine zkP zaY (j:=0) (by unfold ixD;rw [List.length_map,if_pos (by decide),if_pos (by omega)];rfl) (zeJ ?_)
 generalize (V.cs.map p2).set 0 (.tup [.int (c0.1-3),.int 4])=gc
 have lB:(V.bs.map bcD).length<big:=by rw [List.length_map];unfold big;omega
 have lF:(V.fs.map fgD).length<big:=by rw [List.length_map];unfold big;omega
 have ky2:=ky [Cell.lst gc,.lst (V.bs.map bcD),.lst (V.fs.map fgD),.lst [.ref S1.length,.ref (S1.length+1),.ref (S1.length+2)],.ins "Ground" [("corners",.ref (S1.length+4+1))],.lst (V.cs.map p2),.ins "Valley" (vF (.ref (S1.length+8)) (.ref (S1.length+10)) (.ref (S1.length+11)) (zbM V.hz) (.int V.h0) (.int V.h1) (.int V.dl)),.lst nms,.ins "Ground" [("corners",.ref (S1.length+9))],.lst (V.cs.map p2),.lst (V.bs.map bcD),.lst (V.fs.map fgD)]
 walk_at "g"
 walk_at "drho2"
 refine zmZ (P:=fun S=>zax _ S _) (S1++[Cell.lst gc,.lst (V.bs.map bcD++[.tup [.str "zzz",.int b0.2.1,.int b0.2.2]]),.lst (V.fs.map fgD++[.tup [.int 0,.int 0,.int 0,.int 0,.int 0,.int 0,.int 0,.int 0]]),.lst [.ref S1.length,.ref (S1.length+1),.ref (S1.length+2)],.ins "Ground" [("corners",.ref (S1.length+4+1))],.lst (V.cs.map p2),.ins "Valley" (vF (.ref (S1.length+8)) (.ref (S1.length+10)) (.ref (S1.length+11)) (zbM V.hz) (.int V.h0) (.int V.h1) (.int V.dl)),.lst nms,.ins "Ground" [("corners",.ref (S1.length+9))],.lst (V.cs.map p2),.lst (V.bs.map bcD),.lst (V.fs.map fgD)]) rfl fun S3 hS3=>?_
 have hs3:VlS S3 x y z V:=⟨hS3▸kx _,hS3▸ky _,hS3▸kz _⟩
 have hV3:S3[S1.length+6]?=some (.ins "Valley" (vF (.ref (S1.length+8)) (.ref (S1.length+10)) (.ref (S1.length+11)) (zbM V.hz) (.int V.h0) (.int V.h1) (.int V.dl))):=by rw [hS3];exact (zaF _ _ 6).trans rfl
 have hG3:S3[S1.length+8]?=some (.ins "Ground" [("corners",.ref (S1.length+9))]):=by rw [hS3];exact (zaF _ _ 8).trans rfl
 have h9:S3[S1.length+9]?=some (.lst (V.cs.map p2)):=by rw [hS3];exact (zaF _ _ 9).trans rfl
 have h10:S3[S1.length+10]?=some (.lst (V.bs.map bcD)):=by rw [hS3];exact (zaF _ _ 10).trans rfl
 have h11:S3[S1.length+11]?=some (.lst (V.fs.map fgD)):=by rw [hS3];exact (zaF _ _ 11).trans rfl
 clear hS3 ky1 kz1 ky2 lB lF hs hx hy hz kx ky kz
 generalize S1.length+6=n6 at hV3
 generalize S1.length+8=n8 at hV3 hG3
 generalize S1.length+9=n9 at hG3 h9
 generalize S1.length+10=n10 at hV3 h10
 generalize S1.length+11=n11 at hV3 h11
 generalize S1.length+3=n3
 have hv3:VAt S3 (.ref n6) V:=⟨_,_,_,_,rfl,hV3,⟨_,_,rfl,hG3,h9⟩,h10,h11⟩
 refine⟨_,V,rfl,hv3,t,fun T4=>?_⟩
 have hs4:VlS (S3++T4) x y z V:=⟨hs3.1.old,hs3.2.1.old,hs3.2.2.old⟩
 walk_at "g"
 refine⟨x,y,z,V,rfl,hs4,t,fun T5=>?_⟩
 walk_at "g"
 refine zox ((zc7 t).1.fl 20) ?_
 walk_at "g"
 refine⟨_,V,rfl,hv3.old.old,t,fun T6=>?_⟩
 rw [List.append_assoc,List.append_assoc]
 generalize T4++(T5++T6)=T7
 have hV4:(S3++T7)[n6]?=_:=zah hV3
 have k10:Lst (S3++T7) (.ref n10) (V.bs.map bcD):=Lst.here (zah h10)
 have ky7:Lst (S3++T7) y (V.bs.map bcD):=hs3.2.1.old
 walk_at "g"
 refine zlX ((zc7 t).1.fl 20) ((zc7 t).1.fl 20) (beq_self_eq_true _) ⟨true,rfl,?_⟩
 rw [if_pos rfl]
 walk_at "g"
 rw [decide_eq_true rfl]
 exact fin_same (q _)
end Dp
namespace Law
open PySem PySem.Spec PyProof.Rows L2 My Dp
def top (i:Nat):Stmt:=PySem.Challenge.pw_beaconvale_k85_valleys_written.main.body.getD i (.Pass ⟨0,0,0,0⟩)
abbrev zd5:Stmt:=top 49
abbrev zc5:Stmt:=top 51
abbrev zdu:Stmt:=top 50
abbrev zcm:Stmt:=top 53
abbrev zdy:Stmt:=top 54
abbrev zd8:Stmt:=top 52
abbrev zdg:Stmt:=top 55
abbrev zex:Stmt:=top 56
abbrev zdx:Stmt:=top 57
abbrev zbt:Stmt:=top 17
abbrev za8:Stmt:=inClass (top 18) 0
abbrev zbu:Stmt:=top 39
abbrev zeF:Stmt:=top 38
abbrev zbL:Stmt:=top 40
abbrev zg5:Stmt:=top 12
abbrev zfT:Stmt:=top 19
abbrev zb7:Stmt:=top 10
abbrev zdV:Stmt:=top 11
abbrev zdq:Stmt:=top 13
abbrev zdo:Stmt:=top 20
abbrev ze9:Stmt:=top 21
abbrev zbS:Stmt:=top 41
abbrev zdP:Stmt:=top 23
abbrev zff:Stmt:=top 32
abbrev zbR:Stmt:=top 42
abbrev zbC:Stmt:=top 43
abbrev za9:Stmt:=inClass (top 44) 0
abbrev ze5:Stmt:=top 46
abbrev zcU:Stmt:=top 47
abbrev zdp:Stmt:=top 58
abbrev zd0:Stmt:=top 59
abbrev zc1:Stmt:=top 60
section
variable {P:Program}{w:World}{K:W.Frag}{mg:Str->Option Value}{base:Heap}{f:Addr}{fd:FuncData}
variable (xq:mg "len"=none)
theorem zhQ:zL ["script","k"] ["script","k"] (zF zd5):=zR
include xq in
theorem zh7 (F:Fun K "_law_cell" "_law_cell" zd5 f fd):zP P w K mg base CX0 1 f fd ["script","k"] (upF K Dp.zbj):=by
  refine zO (b:=Dp.zcY) F zhQ Dp.zgU Dp.zhU (fun cdv A outer s H E hr=>?_)
  unfold Dp.zcY
  exact (zq (zad (z6 zc4 (zf 1) (zaJ za2 xq boot_len (za (zf 0) zp))) (zy (zN (zA (zf 0) (zf 1)))) zU)
 (zy (zN zm)))
variable (xbb:Got P w K mg base 1 "_law_cell" ["script","k"] (upF K Dp.zbj))
variable (xu:mg "range"=none)
theorem zcT:zL ["script","start","size","told","k"] ["script","start","size"] (zF zc5):=zR
include xq xu in
theorem zgM (F:Fun K "_law_folded" "_law_folded" zc5 f fd):zP P w K mg base CX0 1 f fd ["script","start","size"] (upF K Dp.zbv):=by
  refine zO (b:=Dp.zcj) F zcT Dp.zf0 Dp.zgF (fun cdv A outer s H E hr=>?_)
  unfold Dp.zcj
  exact (zq (zfd (i:=3) zcT.nd (own:=["k"]) (free:=[]) (fv:=[]) True.intro True.intro (zdC xu (za (zf 2) zp)) ⟨(zX 0 (by decide)),fun _ _ _ _ _=>(zai (i:=0) (show List.Nodup (["k"]:List Str) by decide +kernel) rfl (Or.inl rfl) (Or.inr rfl))⟩ (fun _ _ _ _ _=>zaA) (fun _ _ _ _ _=>(zT (z7 (zf 0) (zf 0)) zm)))
 (zq (zcb (zgg xu (za (zf 1) (za (zaJ za2 xq boot_len (za (zf 0) zp)) zp))) (zbl (i:=4) zcT.nd) (zy (zif (zT (z7 (zA (zf 3) (zV (zf 4) (zf 2))) zm) (zA (zf 0) (zf 4))) (zib (zf 3) (zV (zf 4) (zf 2))))))
 (zy (zN (zf 3)))))
variable (xbn:Got P w K mg base 1 "_law_folded" ["script","start","size"] (upF K Dp.zbv))
theorem zep:zL ["cell","k","stir"] ["cell","k"] (zF zdu):=zR
theorem zhm (F:Fun K "_law_mixed" "_law_mixed" zdu f fd):zP P w K mg base CX0 1 f fd ["cell","k"] (upF K Dp.zaW):=by
  refine zO (b:=Dp.zcC) F zep Dp.zgB Dp.zhw (fun cdv A outer s H E hr=>?_)
  unfold Dp.zcC
  exact (zq (zJ (i:=2) zep.nd (zV (z7 (zT (zT (zV (zf 0) zm) (z7 zm (zf 1))) zm) zm) zm))
 (zy (zN (zV (z7 (zf 2) (zf 2)) zm))))
variable (xac:Got P w K mg base 1 "_law_mixed" ["cell","k"] (upF K Dp.zaW))
theorem zaw:zL ["cells","count","scale","corners","x","k","m"] ["cells","count","scale"] (zF zcm):=zR
include xu xac in
theorem zfi (F:Fun K "_law_ground_by" "_law_ground_by" zcm f fd):zP P w K mg base CX0 2 f fd ["cells","count","scale"] (upF K Dp.za0):=by
  refine zO (b:=Dp.zbz) F zaw Dp.zeZ Dp.zfa (fun cdv A outer s H E hr=>?_)
  unfold Dp.zbz
  exact (zq (zJ (i:=3) zaw.nd (zak zp))
 (zq (zJ (i:=4) zaw.nd (zdM zm))
 (zq (zcb (zdC xu (za (zf 1) zp)) (zbl (i:=5) zaw.nd) (zq (zJ (i:=6) zaw.nd (zK xac hr (za (zA (zf 0) (zf 5)) (za (zf 5) zp))))
 (zq (zaf (zdi PySem.F.slot_list_append PySem.F.type_list_append zaE (zf 3) (za (zaX (za (z7 (zf 4) (zf 2)) (za (z7 (zV (zae (zf 6) zm) zm) (zf 2)) zp))) zp)))
 (zy (zJ (i:=4) zaw.nd (zT (zT (zf 4) zm) (zV (zae (zf 6) zm) zm)))))))
 (zy (zN (zf 3))))))
variable (xa2:Got P w K mg base 2 "_law_ground_by" ["cells","count","scale"] (upF K Dp.za0))
theorem zeA:zL ["base","stem"] ["base"] (zF zdy):=zR
include xu in
theorem zhH (F:Fun K "_law_names" "_law_names" zdy f fd):zP P w K mg base CX0 1 f fd ["base"] (upF K Dp.zbG):=by
  refine zO (b:=Dp.zcB) F zeA Dp.zgI Dp.zg4 (fun cdv A outer s H E hr=>?_)
  unfold Dp.zcB
  exact (zq (zJ (i:=1) zeA.nd (zA (zak (za zaa (za zaa (za zaa (za zaa zp))))) (zV (zf 0) zm)))
 (zy (zN (zb2 (own:=["k"]) (free:=["stem","base"]) (fv:=[1,0]) ⟨rfl,rfl,True.intro⟩ ⟨rfl,rfl,rfl,rfl,rfl,rfl,True.intro⟩ (zdC xu (za zm zp)) ⟨(zX 0 (by decide)),fun _ _ _ _ _=>(zai (i:=0) (show List.Nodup (["k","stem","base"]:List Str) by decide +kernel) rfl (Or.inl rfl) (Or.inr rfl))⟩ (fun _ _ _ _ _=>zaA) (fun _ _ _ _ _=>(zT (zf 1) (zA zaa (zV (zT (zae (zf 2) zm) (z7 zm (zf 0))) zm))))))))
variable (xcm:Got P w K mg base 1 "_law_names" ["base"] (upF K Dp.zbG))
theorem zbY:zL ["corners","x","k","left","right","rise"] ["corners","x"] (zF zd8):=zR
include xq xu in
theorem zhV (F:Fun K "_law_high" "_law_high" zd8 f fd):zP P w K mg base CX0 1 f fd ["corners","x"] (upF K Dp.zb0):=by
  refine zO (b:=Dp.zc2) F zbY Dp.zho Dp.zhW (fun cdv A outer s H E hr=>?_)
  unfold Dp.zc2
  exact (zq (zcb (zgg xu (za zm (za (zaJ za2 xq boot_len (za (zf 0) zp)) zp))) (zbl (i:=2) zbY.nd) (zq (zJ (i:=3) zbY.nd (zA (zf 0) (zau (zf 2) zm)))
 (zq (zJ (i:=4) zbY.nd (zA (zf 0) (zf 2)))
 (zy (zad (zde (zh8 (z6 zeP (zA (zf 3) zm) (zf 1)) (zhl (z6 zeP (zf 1) (zA (zf 4) zm))))) (zq (zJ (i:=5) zbY.nd (z7 (zau (zA (zf 4) zm) (zA (zf 3) zm)) (zau (zf 1) (zA (zf 3) zm))))
 (zy (zN (zau (zA (zf 3) zm) (zae (zdM (zf 5)) (zau (zA (zf 4) zm) (zA (zf 3) zm))))))) zU)))))
 (zy (zN zek)))
variable (xc6:Got P w K mg base 1 "_law_high" ["corners","x"] (upF K Dp.zb0))
theorem zb3:zL ["cell","k","corners","scale","name","m","wide","x"] ["cell","k","corners","scale","name"] (zF zdg):=zR
include xac xc6 in
theorem zgJ (F:Fun K "_law_beacon" "_law_beacon" zdg f fd):zP P w K mg base CX0 2 f fd ["cell","k","corners","scale","name"] (upF K Dp.zbx):=by
  refine zO (b:=Dp.zco) F zb3 Dp.zgk Dp.zgK (fun cdv A outer s H E hr=>?_)
  unfold Dp.zco
  exact (zq (zJ (i:=5) zb3.nd (zK xac hr (za (zf 0) (za (zT (zf 1) zm) zp))))
 (zq (zJ (i:=6) zb3.nd (zae (zau (zA (zA (zf 2) (zdM zm)) zm) (zA (zA (zf 2) zm) zm)) (zf 3)))
 (zq (zJ (i:=7) zb3.nd (zT (zA (zA (zf 2) zm) zm) (z7 (zV (zf 5) (zT (zf 6) zm)) (zf 3))))
 (zy (zN (zaX (za (zf 4) (za (zf 7) (za (zT (zK xc6 hr (za (zf 2) (za (zf 7) zp))) (z7 (zA (zak (za zm (za zm (za zm (za zm (za zm (za zm zp))))))) (zV (zae (zf 5) zm) zm)) (zf 3))) zp)))))))))
variable (xbj:Got P w K mg base 2 "_law_beacon" ["cell","k","corners","scale","name"] (upF K Dp.zbx))
theorem zbg:zL ["cell","k","corners","scale","hours","m","left","low","first","wide","high","drift"] ["cell","k","corners","scale","hours"] (zF zex):=zR
include xac in
theorem ziz (F:Fun K "_law_fog" "_law_fog" zex f fd):zP P w K mg base CX0 2 f fd ["cell","k","corners","scale","hours"] (upF K Dp.zch):=by
  refine zO (b:=Dp.zdm) F zbg Dp.zh3 Dp.ziV (fun cdv A outer s H E hr=>?_)
  unfold Dp.zdm
  exact (zq (zJ (i:=5) zbg.nd (zK xac hr (za (zf 0) (za (zT (zf 1) zm) zp))))
 (zq (zJ (i:=6) zbg.nd (zT (zA (zA (zf 2) zm) zm) (z7 (zau (zV (zf 5) zm) zm) (zf 3))))
 (zq (zJ (i:=7) zbg.nd (z7 (zau (zV (zae (zf 5) zm) zm) zm) (zf 3)))
 (zq (zJ (i:=8) zbg.nd (zT (zau (zA (zf 4) zm) zm) (zV (zae (zf 5) zm) (zT (zau (zA (zf 4) zm) (zA (zf 4) zm)) zm))))
 (zq (zJ (i:=9) zbg.nd (z7 (zV (zae (zf 5) zm) zm) (zf 3)))
 (zq (zJ (i:=10) zbg.nd (z7 (zV (zae (zf 5) zm) zm) (zf 3)))
 (zq (zJ (i:=11) zbg.nd (z7 (zau (zV (zae (zf 5) zm) zm) zm) (zf 3)))
 (zy (zN (zaX (za (zf 6) (za (zT (zf 6) (zf 9)) (za (zf 7) (za (zT (zf 7) (zf 10)) (za (zf 8) (za (zT (zf 8) (zV (zae (zf 5) zm) zm)) (za (zf 11) (za (z7 (zau (zV (zae (zf 5) zm) zm) zm) (zf 3)) zp))))))))))))))))))
variable (xdf:Got P w K mg base 2 "_law_fog" ["cell","k","corners","scale","hours"] (upF K Dp.zch))
theorem zW:zL ["script","head","second","third","cells","scale","first","hours","corners","names","beacons","fogs","haze"] ["script"] (zF zdx):=zR
include xbb xu xbn xa2 xcm xbj xdf in
theorem zgV (F:Fun K "_law_parts" "_law_parts" zdx f fd):zP P w K mg base CX0 3 f fd ["script"] (upF K Dp.zbJ):=by
  refine zO (b:=Dp.zcA) F zW Dp.zgE Dp.zhv (fun cdv A outer s H E hr=>?_)
  unfold Dp.zcA
  exact (zq (zJ (i:=1) zW.nd (zK xbb hr (za (zf 0) (za zm zp))))
 (zq (zJ (i:=2) zW.nd (zK xbb hr (za (zf 0) (za zm zp))))
 (zq (zJ (i:=3) zW.nd (zK xbb hr (za (zf 0) (za zm zp))))
 (zq (zJ (i:=4) zW.nd (zK xbn hr (za (zf 0) (za zm (za zm zp)))))
 (zq (zJ (i:=5) zW.nd (zA (zak (za zm (za zm (za (zie 100000000000000000000 (by decide +kernel) ⟨by decide,by decide,by decide⟩) zp)))) (zV (zf 1) zm)))
 (zq (zJ (i:=6) zW.nd (zA (zak (za zm (za zm (za (zdM (zie 1000000000000000000000000000000 (by decide +kernel) ⟨by decide,by decide,by decide⟩)) zp)))) (zV (zae (zf 1) zm) zm)))
 (zq (zJ (i:=7) zW.nd (zaX (za (zf 6) (za (zT (zf 6) (zV (zae (zf 1) zm) zm)) zp))))
 (zq (zJ (i:=8) zW.nd (zK xa2 hr (za (zf 4) (za (zT zm (zV (zae (zf 1) zm) zm)) (za (zf 5) zp)))))
 (zq (zJ (i:=9) zW.nd (zK xcm hr (za (zae (zf 2) zm) zp)))
 (zq (zfd (i:=10) zW.nd (own:=["k"]) (free:=["cells","corners","scale","names"]) (fv:=[4,8,5,9]) ⟨rfl,rfl,rfl,rfl,True.intro⟩ ⟨rfl,rfl,rfl,rfl,rfl,rfl,rfl,rfl,rfl,rfl,rfl,rfl,True.intro⟩ (zdC xu (za (zT zm (zV (zf 2) zm)) zp)) ⟨(zX 0 (by decide)),fun _ _ _ _ _=>(zai (i:=0) (show List.Nodup (["k","cells","corners","scale","names"]:List Str) by decide +kernel) rfl (Or.inl rfl) (Or.inr rfl))⟩ (fun _ _ _ _ _=>zaA) (fun _ _ _ _ _=>(zK xbj hr (za (zA (zf 1) (zT zm (zf 0))) (za (zf 0) (za (zf 2) (za (zf 3) (za (zA (zf 4) (zf 0)) zp))))))))
 (zq (zfd (i:=11) zW.nd (own:=["k"]) (free:=["cells","corners","scale","hours"]) (fv:=[4,8,5,7]) ⟨rfl,rfl,rfl,rfl,True.intro⟩ ⟨rfl,rfl,rfl,rfl,rfl,rfl,rfl,rfl,rfl,rfl,rfl,rfl,True.intro⟩ (zdC xu (za (zV (zae (zf 2) zm) zm) zp)) ⟨(zX 0 (by decide)),fun _ _ _ _ _=>(zai (i:=0) (show List.Nodup (["k","cells","corners","scale","hours"]:List Str) by decide +kernel) rfl (Or.inl rfl) (Or.inr rfl))⟩ (fun _ _ _ _ _=>zaA) (fun _ _ _ _ _=>(zK xdf hr (za (zA (zf 1) (zT zm (zV (zf 0) zm))) (za (zf 0) (za (zf 2) (za (zf 3) (za (zf 4) zp))))))))
 (zq (zJ (i:=12) zW.nd zek)
 (zq (zgO (zad (z6 (zi0 hr) (zV (zf 3) zm) zm) (zy (zJ (i:=12) zW.nd (z7 (z7 (zV (zae (zf 3) zm) zm) (zf 5)) (z7 (zV (zae (zf 3) zm) zm) (zf 5))))) zU))
 (zy (zN (zaX (za (zf 8) (za (zf 10) (za (zf 11) (za (zf 12) (za (zA (zf 7) zm) (za (zA (zf 7) zm) (za (zA (zak (za zm (za zm (za zm (za zm (za zm zp)))))) (zV (zae (zf 1) zm) zm)) zp)))))))))))))))))))))))
variable (xct:Got P w K mg base 3 "_law_parts" ["script"] (upF K Dp.zbJ))
variable (xa0:∃ t,mg "LEAST_CORNERS"=some (.int 2 t))
variable (xbc:∃ t,mg "MOST_CORNERS"=some (.int 40 t))
theorem zcd:zL ["corners","k"] ["corners"] (zF zbt):=zR
include xq xu xa0 xbc in
theorem zdF (F:Fun K "refuse_bad_corners" "refuse_bad_corners" zbt f fd):zP P w K mg base CX0 1 f fd ["corners"] (upF K Dp.zao):=by
  refine zO (b:=Dp.zaO) F zcd Dp.zdv Dp.zdH (fun cdv A outer s H E hr=>?_)
  unfold Dp.zaO
  exact (zq (zad (zde (zei (z6 zc4 (zaJ za2 xq boot_len (za (zf 0) zp)) (zba rfl xa0)) (zdG (z6 zfB (zaJ za2 xq boot_len (za (zf 0) zp)) (zba rfl xbc))))) (zy zaD) zU)
 (zy (zcb (zgg xu (za zm (za (zaJ za2 xq boot_len (za (zf 0) zp)) zp))) (zbl (i:=1) zcd.nd) (zy (zad (z6 zeP (zA (zA (zf 0) (zf 1)) zm) (zA (zA (zf 0) (zau (zf 1) zm)) zm)) (zy zaD) zU)))))
variable (xae:Got P w K mg base 1 "refuse_bad_corners" ["corners"] (upF K Dp.zao))
variable (xat:∀ C,W.nsIn K mainGlobals "Ground"=some (some (.ref C))->z8 K C "corners")
variable (xad:mg "list"=none)
theorem zga:zL ["self","corners"] ["self","corners"] (zF za8):=zR
include xae xat xad in
theorem zf8 (F:Fun K "__init__" "Ground.__init__" za8 f fd):zP P w K mg base CX0 2 f fd ["self","corners"] (upF K Dp.zbP):=by
  refine zO (b:=Dp.zbb) F zga Dp.zfF Dp.zf5 (fun cdv A outer s H E hr=>?_)
  unfold Dp.zbb
  exact (zq (zaf (zK xae hr (za (zf 1) zp)))
 (zy (zce xat (zf 0) (za3 zb9 xad boot_list (za (zf 1) zp)))))
variable (xbi:zf6 P w K mg base 2 "Ground" (upF K Dp.zdk))
variable (xa7:∃ t,mg "MOST_BEACONS"=some (.int 12 t))
variable (xcj:∃ t,mg "MOST_FOGS"=some (.int 12 t))
theorem zdB:zL ["beacons","fogs"] ["beacons","fogs"] (zF zbu):=zR
include xq xa7 xcj in
theorem zdJ (F:Fun K "refuse_bad_numbers" "refuse_bad_numbers" zbu f fd):zP P w K mg base CX0 1 f fd ["beacons","fogs"] (upF K Dp.zap):=by
  refine zO (b:=Dp.zaL) F zdB Dp.zdr Dp.zdE (fun cdv A outer s H E hr=>?_)
  unfold Dp.zaL
  exact (zq (zad (zde (zei (z6 zc4 (zaJ za2 xq boot_len (za (zf 0) zp)) zm) (zdG (z6 zfB (zaJ za2 xq boot_len (za (zf 0) zp)) (zba rfl xa7))))) (zy zaD) zU)
 (zy (zad (z6 zfB (zaJ za2 xq boot_len (za (zf 1) zp)) (zba rfl xcj)) (zy zaD) zU)))
variable (xag:Got P w K mg base 1 "refuse_bad_numbers" ["beacons","fogs"] (upF K Dp.zap))
variable (xa8:∃ t,mg "MOST_LETTERS"=some (.int 8 t))
variable (xdd:∃ t,mg "LETTERS"=some (.str "abcdefghijklmnopqrstuvwxyz" t))
variable (xas:mg "all"=none)
theorem ziF:zL ["text"] ["text"] (zF zeF):=zR
include xq xa8 xdd xas in
theorem ziX (F:Fun K "is_name" "is_name" zeF f fd):zP P w K mg base CX0 1 f fd ["text"] (upF K Dp.zcl):=by
  refine zO (b:=Dp.zdl) F ziF Dp.zh6 Dp.ziC (fun cdv A outer s H E hr=>?_)
  unfold Dp.zdl
  exact (zq (zad (zde (zei (z6 zc4 (zaJ za2 xq boot_len (za (zf 0) zp)) zm) (zdG (z6 zfB (zaJ za2 xq boot_len (za (zf 0) zp)) (zba rfl xa8))))) (zy (zN zft)) zU)
 (zy (zN (zaJ zeG xas boot_all (za (zb2 (own:=["sign"]) (free:=[]) (fv:=[]) True.intro True.intro (za1 (zf 0)) ⟨(zX 0 (by decide)),fun _ _ _ _ _=>(zai (i:=0) (show List.Nodup (["sign"]:List Str) by decide +kernel) rfl (Or.inl rfl) (Or.inr rfl))⟩ (fun _ _ _ _ _=>zaA) (fun _ _ _ _ _=>(zle (zor hr) (zf 0) (zlM rfl xdd)))) zp)))))
variable (xdc:Got P w K mg base 1 "is_name" ["text"] (upF K Dp.zcl))
variable (xfe:mg "set"=none)
theorem zed:zL ["names"] ["names"] (zF zbL):=zR
include xq xas xdc xfe in
theorem zea (F:Fun K "refuse_bad_names" "refuse_bad_names" zbL f fd):zP P w K mg base CX0 2 f fd ["names"] (upF K Dp.zas):=by
  refine zO (b:=Dp.zbd) F zed Dp.zdR Dp.zef (fun cdv A outer s H E hr=>?_)
  unfold Dp.zbd
  exact (zq (zad (zcf (zbQ (zaJ zeG xas boot_all (za (zb2 (own:=["name"]) (free:=[]) (fv:=[]) True.intro True.intro (za1 (zf 0)) ⟨(zX 0 (by decide)),fun _ _ _ _ _=>(zai (i:=0) (show List.Nodup (["name"]:List Str) by decide +kernel) rfl (Or.inl rfl) (Or.inr rfl))⟩ (fun _ _ _ _ _=>zaA) (fun _ _ _ _ _=>(zK xdc hr (za (zf 0) zp)))) zp)))) (zy zaD) zU)
 (zy (zad (z6 zc4 (zlq rfl xq rfl xfe (za (zf 0) zp)) (zaJ za2 xq boot_len (za (zf 0) zp))) (zy zaD) zU)))
variable (xaj:Got P w K mg base 2 "refuse_bad_names" ["names"] (upF K Dp.zas))
theorem zk5:zL ["one","other"] ["one","other"] (zF zg5):=zR
theorem zlP (F:Fun K "less" "less" zg5 f fd):zP P w K mg base CX0 1 f fd ["one","other"] (upF K Dp.zb8):=by
 refine zO (b:=Dp.zfQ) F zk5 Dp.zkE Dp.zlI (fun cdv A outer s H E hr=>?_)
 unfold Dp.zfQ
 exact (zy (zN (zdK zc4 (z7 (zA (zf 0) zm) (zA (zf 1) zm)) (z7 (zA (zf 1) zm) (zA (zf 0) zm)))))
variable (xa6:Got P w K mg base 1 "less" ["one","other"] (upF K Dp.zb8))
theorem zfg:zL ["ground","place","first","last"] ["ground","place"] (zF zfT):=zR
include xa6 in
theorem zj9 (F:Fun K "is_on" "is_on" zfT f fd):zP P w K mg base CX0 2 f fd ["ground","place"] (upF K Dp.zcx):=by
  refine zO (b:=Dp.zeS) F zfg Dp.zjP Dp.zkd (fun cdv A outer s H E hr=>?_)
  unfold Dp.zeS
  exact (zq (zJ (i:=2) zfg.nd (zaX (za (zA (zA (zbf (zf 0) rfl) zm) zm) (za zm zp))))
 (zq (zJ (i:=3) zfg.nd (zaX (za (zA (zA (zbf (zf 0) rfl) (zdM zm)) zm) (za zm zp))))
 (zy (zN (zdD (zeO (zK xa6 hr (za (zf 1) (za (zf 2) zp)))) (zfM (zeO (zK xa6 hr (za (zf 3) (za (zf 1) zp))))))))))
variable (xbz:Got P w K mg base 2 "is_on" ["ground","place"] (upF K Dp.zcx))
variable (xfd:mg "abs"=none)
theorem zbm:zL ["one","other","rest"] ["one","other"] (zF zb7):=zR
include xfd in
theorem ze1 (F:Fun K "common_divisor" "common_divisor" zb7 f fd):zP P w K mg base CX0 1 f fd ["one","other"] (upF K Dp.zaK):=by
  refine zO (b:=Dp.zbr) F zbm Dp.zeq Dp.ze0 (fun cdv A outer s H E hr=>?_)
  unfold Dp.zbr
  exact (zq (zgo (z6 (ziW hr) (zf 1) zm) (zq (zJ (i:=2) zbm.nd (zV (zf 0) (zf 1)))
 (zq (zJ (i:=0) zbm.nd (zf 1))
 (zy (zJ (i:=1) zbm.nd (zf 2))))))
 (zy (zN (zaJ zmS xfd boot_abs (za (zf 0) zp)))))
variable (xax:Got P w K mg base 1 "common_divisor" ["one","other"] (upF K Dp.zaK))
theorem zdz:zL ["top","bottom","divisor"] ["top","bottom"] (zF zdV):=zR
include xax in
theorem zh0 (F:Fun K "fraction" "fraction" zdV f fd):zP P w K mg base CX0 2 f fd ["top","bottom"] (upF K Dp.zbW):=by
  refine zO (b:=Dp.zcW) F zdz Dp.zhO Dp.zhZ (fun cdv A outer s H E hr=>?_)
  unfold Dp.zcW
  exact (zq (zJ (i:=2) zdz.nd (zK xax hr (za (zf 0) (za (zf 1) zp))))
 (zq (zgO (zad (z6 zc4 (zf 1) zm) (zy (zJ (i:=2) zdz.nd (zdM (zf 2)))) zU))
 (zy (zN (zaX (za (zae (zf 0) (zf 2)) (za (zae (zf 1) (zf 2)) zp)))))))
variable (xc2:Got P w K mg base 2 "fraction" ["top","bottom"] (upF K Dp.zbW))
theorem zcq:zL ["one","other","place","run","rise","top"] ["one","other","place"] (zF zdq):=zR
include xc2 in
theorem zht (F:Fun K "height_on" "height_on" zdq f fd):zP P w K mg base CX0 3 f fd ["one","other","place"] (upF K Dp.zbI):=by
  refine zO (b:=Dp.zcJ) F zcq Dp.zgG Dp.zhf (fun cdv A outer s H E hr=>?_)
  unfold Dp.zcJ
  exact (zq (zJ (i:=3) zcq.nd (zau (zA (zf 1) zm) (zA (zf 0) zm)))
 (zq (zJ (i:=4) zcq.nd (zau (zA (zf 1) zm) (zA (zf 0) zm)))
 (zq (zJ (i:=5) zcq.nd (zT (z7 (z7 (zA (zf 0) zm) (zf 3)) (zA (zf 2) zm)) (z7 (zf 4) (zau (zA (zf 2) zm) (z7 (zA (zf 0) zm) (zA (zf 2) zm))))))
 (zy (zN (zK xc2 hr (za (zf 5) (za (z7 (zf 3) (zA (zf 2) zm)) zp))))))))
variable (xcn:Got P w K mg base 3 "height_on" ["one","other","place"] (upF K Dp.zbI))
variable (xbm:∀ C,W.nsIn K mainGlobals "OffGround"=some (some (.ref C))->ExC K C)
variable (xbo:∃ C,W.nsIn K mainGlobals "OffGround"=some (some (.ref C))/\mg "OffGround"=some (.ref C))
theorem zcn:zL ["ground","place","corners","k"] ["ground","place"] (zF zdo):=zR
include xa6 xbz xcn xbm xbo in
theorem zhI (F:Fun K "ground_at" "ground_at" zdo f fd):zP P w K mg base (CXd P w) 4 f fd ["ground","place"] (zhh K Dp.zbF):=by
  refine zkq (b:=Dp.zcD) F zcn Dp.zgC Dp.zhG (fun cdv A outer s H E hr _ ex hX hM=>?_)
  unfold Dp.zcD
  exact (zq (zad (zcf (zbQ (zK xbz hr (za (zf 0) (za (zf 1) zp))))) (zy (zjg hM rfl xbm xbo rfl (za zaa zp) (fun _ _ _ h=>h _))) zU)
 (zq (zJ (i:=2) zcn.nd (zbf (zf 0) rfl))
 (zq (zJ (i:=3) zcn.nd zm)
 (zq (zgo (zbQ (zK xa6 hr (za (zaX (za (zA (zA (zf 2) (zf 3)) zm) (za zm zp))) (za (zf 1) zp)))) (zy (zld (i:=3) zcn.nd zm)))
 (zy (zN (zK xcn hr (za (zA (zf 2) (zau (zf 3) zm)) (za (zA (zf 2) (zf 3)) (za (zf 1) zp))))))))))
variable (xci:zj7 P w K mg base 4 "ground_at" ["ground","place"] (zhh K Dp.zbF))
theorem zgn:zL ["ground","spot","place"] ["ground","spot"] (zF ze9):=zR
include xa6 xbz xci in
theorem zjk (F:Fun K "stands" "stands" ze9 f fd):zP P w K mg base CX0 5 f fd ["ground","spot"] (upF K Dp.zcL):=by
  refine zO (b:=Dp.zd1) F zgn Dp.ziG Dp.zjf (fun cdv A outer s H E hr=>?_)
  unfold Dp.zd1
  exact (zq (zJ (i:=2) zgn.nd (zaX (za (zA (zf 1) zm) (za zm zp))))
 (zq (zad (zcf (zbQ (zK xbz hr (za (zf 0) (za (zf 2) zp))))) (zy (zN zft)) zU)
 (zy (zN (zeO (zK xa6 hr (za (zaX (za (zA (zf 1) zm) (za zm zp))) (za (zkx xci zn3 hr (za (zf 0) (za (zf 2) zp))) zp))))))))
variable (xds:Got P w K mg base 5 "stands" ["ground","spot"] (upF K Dp.zcL))
theorem zes:zL ["ground","beacons"] ["ground","beacons"] (zF zbS):=zR
include xas xds in
theorem zeI (F:Fun K "refuse_bad_tops" "refuse_bad_tops" zbS f fd):zP P w K mg base CX0 6 f fd ["ground","beacons"] (upF K Dp.zaH):=by
 refine zO (b:=Dp.zbn) F zes Dp.zeg Dp.zeB (fun cdv A outer s H E hr=>?_)
 unfold Dp.zbn
 exact (zy (zad (zcf (zbQ (zaJ zeG xas boot_all (za (zb2 (own:=["name","x","z"]) (free:=["ground"]) (fv:=[0]) ⟨rfl,True.intro⟩ ⟨rfl,rfl,rfl,True.intro⟩ (za1 (zf 1)) ⟨(zgZ (zck (zX 0 (by decide)) (zck (zX 1 (by decide)) (zck (zX 2 (by decide)) zgA)))),fun _ _ _ _ _=>(zhM (n:=3) rfl (zct (zai (i:=0) (show List.Nodup (["name","x","z","ground"]:List Str) by decide +kernel) rfl (Or.inl rfl) (Or.inr rfl)) (zct (zai (i:=1) (show List.Nodup (["name","x","z","ground"]:List Str) by decide +kernel) rfl (Or.inl rfl) (Or.inr rfl)) (zct (zai (i:=2) (show List.Nodup (["name","x","z","ground"]:List Str) by decide +kernel) rfl (Or.inl rfl) (Or.inr rfl)) zgb))))⟩ (fun _ _ _ _ _=>zaA) (fun _ _ _ _ _=>(zK xds hr (za (zf 3) (za (zaX (za (zf 1) (za (zf 2) zp))) zp))))) zp)))) (zy zaD) zU))
variable (xaq:Got P w K mg base 6 "refuse_bad_tops" ["ground","beacons"] (upF K Dp.zaH))
variable (xfh:mg "int"=none)
variable (xaa:mg "isinstance"=none)
variable (xeg:mg "bool"=none)
theorem zhR:zL ["value"] ["value"] (zF zdP):=zR
include xfh xaa xeg in
theorem zhT (F:Fun K "is_whole" "is_whole" zdP f fd):zP P w K mg base CX0 1 f fd ["value"] (upF K Dp.zbX):=by
 refine zO (b:=Dp.zc0) F zhR Dp.zgX Dp.zhY (fun cdv A outer s H E hr=>?_)
 unfold Dp.zc0
 exact (zy (zN (zdD (zaJ zfD xaa boot_isinstance (za (zf 0) (za (zgQ rfl xfh boot_int) zp))) (zfM (zeO (zaJ zfD xaa boot_isinstance (za (zf 0) (za (zgQ rfl xeg boot_bool) zp))))))))
variable (xc4:Got P w K mg base 1 "is_whole" ["value"] (upF K Dp.zbX))
variable (xdb:∃ t,mg "NUMBERS"=some (.int 8 t))
variable (xek:∃ t,mg "LEFT"=some (.int 0 t))
variable (xd4:∃ t,mg "RIGHT"=some (.int 1 t))
variable (xfg:∃ t,mg "LOW"=some (.int 2 t))
variable (xem:∃ t,mg "HIGH"=some (.int 3 t))
variable (xd7:∃ t,mg "FIRST"=some (.int 4 t))
variable (xel:∃ t,mg "LAST"=some (.int 5 t))
variable (xd6:mg "tuple"=none)
theorem zjE:zL ["value"] ["value"] (zF zff):=zR
include xq xas xaa xc4 xdb xek xd4 xfg xem xd7 xel xd6 in
theorem zjI (F:Fun K "is_fog" "is_fog" zff f fd):zP P w K mg base CX0 2 f fd ["value"] (upF K Dp.zcQ):=by
  refine zO (b:=Dp.zdN) F zjE Dp.zi2 Dp.zi3 (fun cdv A outer s H E hr=>?_)
  unfold Dp.zdN
  exact (zq (zad (zde (zei (zcf (zbQ (zaJ zfD xaa boot_isinstance (za (zf 0) (za (zgQ rfl xd6 boot_tuple) zp))))) (zdG (z6 (ziW hr) (zaJ za2 xq boot_len (za (zf 0) zp)) (zba rfl xdb))))) (zy (zN zft)) zU)
 (zq (zad (zcf (zbQ (zaJ zeG xas boot_all (za (zb2 (own:=["number"]) (free:=[]) (fv:=[]) True.intro True.intro (za1 (zf 0)) ⟨(zX 0 (by decide)),fun _ _ _ _ _=>(zai (i:=0) (show List.Nodup (["number"]:List Str) by decide +kernel) rfl (Or.inl rfl) (Or.inr rfl))⟩ (fun _ _ _ _ _=>zaA) (fun _ _ _ _ _=>(zK xc4 hr (za (zf 0) zp)))) zp)))) (zy (zN zft)) zU)
 (zy (zN (zdD (zdK zeP (zA (zf 0) (zba rfl xek)) (zA (zf 0) (zba rfl xd4))) (zdD (zdK zeP (zA (zf 0) (zba rfl xfg)) (zA (zf 0) (zba rfl xem))) (zfM (zdK zeP (zA (zf 0) (zba rfl xd7)) (zA (zf 0) (zba rfl xel))))))))))
variable (xdn:Got P w K mg base 2 "is_fog" ["value"] (upF K Dp.zcQ))
theorem zeL:zL ["fogs"] ["fogs"] (zF zbR):=zR
include xas xdn in
theorem zew (F:Fun K "refuse_bad_fogs" "refuse_bad_fogs" zbR f fd):zP P w K mg base CX0 3 f fd ["fogs"] (upF K Dp.zaI):=by
 refine zO (b:=Dp.zbo) F zeL Dp.zec Dp.zez (fun cdv A outer s H E hr=>?_)
 unfold Dp.zbo
 exact (zy (zad (zcf (zbQ (zaJ zeG xas boot_all (za (zb2 (own:=["fog"]) (free:=[]) (fv:=[]) True.intro True.intro (za1 (zf 0)) ⟨(zX 0 (by decide)),fun _ _ _ _ _=>(zai (i:=0) (show List.Nodup (["fog"]:List Str) by decide +kernel) rfl (Or.inl rfl) (Or.inr rfl))⟩ (fun _ _ _ _ _=>zaA) (fun _ _ _ _ _=>(zK xdn hr (za (zf 0) zp)))) zp)))) (zy zaD) zU))
variable (xan:Got P w K mg base 3 "refuse_bad_fogs" ["fogs"] (upF K Dp.zaI))
theorem zeb:zL ["haze","first","last","delay"] ["haze","first","last","delay"] (zF zbC):=zR
theorem zee (F:Fun K "refuse_bad_hours" "refuse_bad_hours" zbC f fd):zP P w K mg base CX0 1 f fd ["haze","first","last","delay"] (upF K Dp.zat):=by
  refine zO (b:=Dp.zbh) F zeb Dp.zdX Dp.zd9 (fun cdv A outer s H E hr=>?_)
  unfold Dp.zbh
  exact (zq (zad (z6 zfB (zf 1) (zf 2)) (zy zaD) zU)
 (zq (zad (z6 zc4 (zf 3) zm) (zy zaD) zU)
 (zy (zad (zde (zh8 (z6 zg0 (zf 0) zek) (zhl (z6 zc4 (zf 0) zm)))) (zy zaD) zU))))
variable (xak:Got P w K mg base 1 "refuse_bad_hours" ["haze","first","last","delay"] (upF K Dp.zat))
variable (xau:∀ C,W.nsIn K mainGlobals "Valley"=some (some (.ref C))->z8 K C "ground")
variable (xao:∀ C,W.nsIn K mainGlobals "Valley"=some (some (.ref C))->z8 K C "beacons")
variable (xa9:∀ C,W.nsIn K mainGlobals "Valley"=some (some (.ref C))->z8 K C "fogs")
variable (xba:∀ C,W.nsIn K mainGlobals "Valley"=some (some (.ref C))->z8 K C "haze")
variable (xa3:∀ C,W.nsIn K mainGlobals "Valley"=some (some (.ref C))->z8 K C "first")
variable (xbd:∀ C,W.nsIn K mainGlobals "Valley"=some (some (.ref C))->z8 K C "last")
variable (xa4:∀ C,W.nsIn K mainGlobals "Valley"=some (some (.ref C))->z8 K C "delay")
theorem zfV:zL ["self","ground","beacons","fogs","haze","first","last","delay"] ["self","ground","beacons","fogs","haze","first","last","delay"] (zF za9):=zR
include xad xbi xag xaj xaq xan xak xau xao xa9 xba xa3 xbd xa4 in
theorem zfU (F:Fun K "__init__" "Valley.__init__" za9 f fd):zP P w K mg base CX0 7 f fd ["self","ground","beacons","fogs","haze","first","last","delay"] (upF K Dp.zbO):=by
  refine zO (b:=Dp.za6) F zfV Dp.zfp Dp.zgh (fun cdv A outer s H E hr=>?_)
  unfold Dp.za6
  exact (zq (zaf (zK xag hr (za (zf 2) (za (zf 3) zp))))
 (zq (zaf (zK xaj hr (za (zb2 (own:=["beacon"]) (free:=[]) (fv:=[]) True.intro True.intro (za1 (zf 2)) ⟨(zX 0 (by decide)),fun _ _ _ _ _=>(zai (i:=0) (show List.Nodup (["beacon"]:List Str) by decide +kernel) rfl (Or.inl rfl) (Or.inr rfl))⟩ (fun _ _ _ _ _=>zaA) (fun _ _ _ _ _=>(zA (zf 0) zm))) zp)))
 (zq (zaf (zK xaq hr (za (zf 1) (za (zf 2) zp))))
 (zq (zaf (zK xan hr (za (zf 3) zp)))
 (zq (zaf (zK xak hr (za (zf 4) (za (zf 5) (za (zf 6) (za (zf 7) zp))))))
 (zq (zce xau (zf 0) (zhA xbi hr (za (zbf (zf 1) rfl) zp)))
 (zq (zce xao (zf 0) (za3 zb9 xad boot_list (za (zf 2) zp)))
 (zq (zce xa9 (zf 0) (za3 zb9 xad boot_list (za (zf 3) zp)))
 (zq (zce xba (zf 0) (zf 4))
 (zq (zce xa3 (zf 0) (zf 5))
 (zq (zce xbd (zf 0) (zf 6))
 (zy (zce xa4 (zf 0) (zf 7))))))))))))))
variable (xdr:zf6 P w K mg base 7 "Valley" (upF K Dp.zet))
variable (xai:mg "str"=none)
theorem zjR:zL ["words"] ["words"] (zF ze5):=zR
include xai in
theorem zjl (F:Fun K "spaced" "spaced" ze5 f fd):zP P w K mg base CX0 1 f fd ["words"] (upF K Dp.zaT):=by
 refine zO (b:=Dp.zdO) F zjR Dp.ziU Dp.zjA (fun cdv A outer s H E hr=>?_)
 unfold Dp.zdO
 exact (zy (zN (zeX zaa (zb2 (own:=["word"]) (free:=[]) (fv:=[]) True.intro True.intro (za1 (zf 0)) ⟨(zX 0 (by decide)),fun _ _ _ _ _=>(zai (i:=0) (show List.Nodup (["word"]:List Str) by decide +kernel) rfl (Or.inl rfl) (Or.inr rfl))⟩ (fun _ _ _ _ _=>zaA) (fun _ _ _ _ _=>(za3 zbZ xai boot_str (za (zf 0) zp)))))))
variable (xaw:Got P w K mg base 1 "spaced" ["words"] (upF K Dp.zaT))
theorem zbN:zL ["valley","lines","beacon","fog"] ["valley"] (zF zcU):=zR
include xad xaw in
theorem zf1 (F:Fun K "show_valley" "show_valley" zcU f fd):zP P w K mg base CX0 2 f fd ["valley"] (upF K Dp.zax):=by
  refine zO (b:=Dp.zb1) F zbN Dp.zfu Dp.zfZ (fun cdv A outer s H E hr=>?_)
  unfold Dp.zb1
  exact (zq (zJ (i:=1) zbN.nd (zak (za (zK xaw hr (za (zT (zak (za zaa zp)) (zb2 (own:=["x","z"]) (free:=[]) (fv:=[]) True.intro True.intro (za1 (zbf (zbf (zf 0) rfl) rfl)) ⟨(zgZ (zck (zX 0 (by decide)) (zck (zX 1 (by decide)) zgA))),fun _ _ _ _ _=>(zhM (n:=2) rfl (zct (zai (i:=0) (show List.Nodup (["x","z"]:List Str) by decide +kernel) rfl (Or.inl rfl) (Or.inr rfl)) (zct (zai (i:=1) (show List.Nodup (["x","z"]:List Str) by decide +kernel) rfl (Or.inl rfl) (Or.inr rfl)) zgb)))⟩ (fun _ _ _ _ _=>zaA) (fun _ _ _ _ _=>(zon (zf 0) (zf 1))))) zp)) (za (zK xaw hr (za (zak (za zaa (za (zbf (zf 0) rfl) (za (zbf (zf 0) rfl) zp)))) zp)) (za (zK xaw hr (za (zak (za zaa (za (zbf (zf 0) rfl) zp))) zp)) zp)))))
 (zq (zgO (zad (z6 zg0 (zbf (zf 0) rfl) zek) (zy (zaf (zdi PySem.F.slot_list_append PySem.F.type_list_append zaE (zf 1) (za (zK xaw hr (za (zak (za zaa (za (zbf (zf 0) rfl) zp))) zp)) zp)))) zU))
 (zq (zcb (za1 (zbf (zf 0) rfl)) (zbl (i:=2) zbN.nd) (zy (zaf (zdi PySem.F.slot_list_append PySem.F.type_list_append zaE (zf 1) (za (zK xaw hr (za (zT (zak (za zaa zp)) (za3 zb9 xad boot_list (za (zf 2) zp))) zp)) zp)))))
 (zq (zcb (za1 (zbf (zf 0) rfl)) (zbl (i:=3) zbN.nd) (zy (zaf (zdi PySem.F.slot_list_append PySem.F.type_list_append zaE (zf 1) (za (zK xaw hr (za (zT (zak (za zaa zp)) (za3 zb9 xad boot_list (za (zf 3) zp))) zp)) zp)))))
 (zy (zN (zeX zaa (zf 1))))))))
variable (xaz:Got P w K mg base 2 "show_valley" ["valley"] (upF K Dp.zax))
theorem zbq:zL ["parts","lines","name","x","z","fog"] ["parts"] (zF zdp):=zR
include xai in
theorem zhd (F:Fun K "_law_words" "_law_words" zdp f fd):zP P w K mg base CX0 1 f fd ["parts"] (upF K Dp.zbE):=by
  refine zO (b:=Dp.zcI) F zbq Dp.zgD Dp.zhL (fun cdv A outer s H E hr=>?_)
  unfold Dp.zcI
  exact (zq (zJ (i:=1) zbq.nd (zak (za (zT (zak (za zaa zp)) (zb2 (own:=["corner"]) (free:=[]) (fv:=[]) True.intro True.intro (za1 (zA (zf 0) zm)) ⟨(zX 0 (by decide)),fun _ _ _ _ _=>(zai (i:=0) (show List.Nodup (["corner"]:List Str) by decide +kernel) rfl (Or.inl rfl) (Or.inr rfl))⟩ (fun _ _ _ _ _=>zaA) (fun _ _ _ _ _=>(zT (zT (za3 zbZ xai boot_str (za (zA (zf 0) zm) zp)) zaa) (za3 zbZ xai boot_str (za (zA (zf 0) zm) zp)))))) zp)))
 (zq (zaf (zdi PySem.F.slot_list_append PySem.F.type_list_append zaE (zf 1) (za (zak (za zaa (za (za3 zbZ xai boot_str (za (zA (zf 0) zm) zp)) (za (za3 zbZ xai boot_str (za (zA (zf 0) zm) zp)) zp)))) zp)))
 (zq (zaf (zdi PySem.F.slot_list_append PySem.F.type_list_append zaE (zf 1) (za (zak (za zaa (za (za3 zbZ xai boot_str (za (zA (zf 0) zm) zp)) zp))) zp)))
 (zq (zgO (zad (z6 zg0 (zA (zf 0) zm) zek) (zy (zaf (zdi PySem.F.slot_list_append PySem.F.type_list_append zaE (zf 1) (za (zak (za zaa (za (za3 zbZ xai boot_str (za (zA (zf 0) zm) zp)) zp))) zp)))) zU))
 (zq (zcb (za1 (zA (zf 0) zm)) (zlk (n:=3) rfl (zfh (zbl (i:=2) zbq.nd) (zfh (zbl (i:=3) zbq.nd) (zfh (zbl (i:=4) zbq.nd) zlw)))) (zy (zaf (zdi PySem.F.slot_list_append PySem.F.type_list_append zaE (zf 1) (za (zak (za zaa (za (zf 2) (za (za3 zbZ xai boot_str (za (zf 3) zp)) (za (za3 zbZ xai boot_str (za (zf 4) zp)) zp))))) zp)))))
 (zq (zcb (za1 (zA (zf 0) zm)) (zbl (i:=5) zbq.nd) (zy (zaf (zdi PySem.F.slot_list_append PySem.F.type_list_append zaE (zf 1) (za (zT (zak (za zaa zp)) (zb2 (own:=["number"]) (free:=[]) (fv:=[]) True.intro True.intro (za1 (zf 5)) ⟨(zX 0 (by decide)),fun _ _ _ _ _=>(zai (i:=0) (show List.Nodup (["number"]:List Str) by decide +kernel) rfl (Or.inl rfl) (Or.inr rfl))⟩ (fun _ _ _ _ _=>zaA) (fun _ _ _ _ _=>(za3 zbZ xai boot_str (za (zf 0) zp))))) zp)))))
 (zy (zN (zf 1)))))))))
variable (xcs:Got P w K mg base 1 "_law_words" ["parts"] (upF K Dp.zbE))
theorem zhP:zL ["parts"] ["parts"] (zF zd0):=zR
include xcs in
theorem zh5 (F:Fun K "_law_text" "_law_text" zd0 f fd):zP P w K mg base CX0 2 f fd ["parts"] (upF K Dp.zbV):=by
 refine zO (b:=Dp.zcV) F zhP Dp.zg7 Dp.zhX (fun cdv A outer s H E hr=>?_)
 unfold Dp.zcV
 exact (zy (zN (zeX zaa (zb2 (own:=["line"]) (free:=[]) (fv:=[]) True.intro True.intro (za1 (zK xcs hr (za (zf 0) zp))) ⟨(zX 0 (by decide)),fun _ _ _ _ _=>(zai (i:=0) (show List.Nodup (["line"]:List Str) by decide +kernel) rfl (Or.inl rfl) (Or.inr rfl))⟩ (fun _ _ _ _ _=>zaA) (fun _ _ _ _ _=>(zeX zaa (zf 0)))))))
variable (xc7:Got P w K mg base 2 "_law_text" ["parts"] (upF K Dp.zbV))
theorem zer:zL ["script","parts","lists","valley","found"] ["script"] (zF zc1):=zR
include xq xct xad xbi xaa xdr xai xaz xc7 in
theorem zl9 (F:Fun K "law" "law" zc1 f fd):zP P w K mg base CX0 9 f fd ["script"] (upF K Dp.zc8):=by
  refine zO (b:=Dp.zgN) F zer Dp.zlr Dp.znC (fun cdv A outer s H E hr=>?_)
  unfold Dp.zgN
  exact (zq (zJ (i:=1) zer.nd (zK xct hr (za (zf 0) zp)))
 (zq (zJ (i:=2) zer.nd (zak (za (za3 zb9 xad boot_list (za (zA (zf 1) zm) zp)) (za (za3 zb9 xad boot_list (za (zA (zf 1) zm) zp)) (za (za3 zb9 xad boot_list (za (zA (zf 1) zm) zp)) zp)))))
 (zq (zJ (i:=3) zer.nd (zhA xdr hr (za (zhA xbi hr (za (zA (zf 2) zm) zp)) (za (zA (zf 2) zm) (za (zA (zf 2) zm) (za (zA (zf 1) zm) (za (zA (zf 1) zm) (za (zA (zf 1) zm) (za (zA (zf 1) zm) zp)))))))))
 (zq (zif (zaX (za (zau (zA (zA (zA (zf 2) zm) zm) zm) zm) (za zm zp))) (zib (zA (zf 2) zm) zm))
 (zq (zaf (zdi PySem.F.slot_list_append PySem.F.type_list_append zaE (zA (zf 2) zm) (za (zaX (za zaa (za (zA (zA (zA (zf 1) zm) zm) zm) (za (zA (zA (zA (zf 1) zm) zm) zm) zp)))) zp)))
 (zq (zaf (zdi PySem.F.slot_list_append PySem.F.type_list_append zaE (zA (zf 2) zm) (za (zaX (za zm (za zm (za zm (za zm (za zm (za zm (za zm (za zm zp))))))))) zp)))
 (zq (zJ (i:=4) zer.nd (zK xaz hr (za (zf 3) zp)))
 (zq (zad (zde (zei (zcf (zbQ (zaJ zfD xaa boot_isinstance (za (zf 4) (za (zgQ rfl xai boot_str) zp))))) (zdG (z6 (ziW hr) (zf 4) (zK xc7 hr (za (zf 1) zp)))))) (zy (zN zft)) zU)
 (zy (zN (zdD (zdK (zi0 hr) (zK xaz hr (za (zf 3) zp)) (zf 4)) (zfM (zdK (zi0 hr) (zaJ za2 xq boot_len (za (zbf (zf 3) rfl) zp)) (zaJ za2 xq boot_len (za (zA (zf 1) zm) zp)))))))))))))))
end
theorem all_mk {l:W.OpenLaw}{w:World}{K:W.Frag}{h:Heap}{mg:Str->Option Value}{fa:Addr}(X:K.In h)(G:h.Ns mainGlobals mg)(hfa:mg "law"=some (.ref fa))
  {xgm xfs xfu xen xf5 xga xfo xg0 xfv xdq xdo xgy xdz xhl xhg xee xgg xfx xfy xg8 xea xgs xg6 xeb xd0 xg9 xfb xf4 xgl:Addr}{xgt xfm xft xep xf6 xgq xfn xgw xfw xdp xdu xgz xdy xhj xhh xed xgo xf2 xfz xg5 xd9 xgd xhc xd8 xd2 xha xfc xf3 xgn:FuncData}
  {xew xe7:Option Addr} {xey:Array (Option Value)} {xe4 xfa xeu xe9 xdk xe2:Value} {xbh:Addr} {xab:Addr}
  {xer xe6:Option Addr} {xex:Array (Option Value)} {xeq xe1 xe8 xet xdl xez:Value} {xbf:Addr} {xg:Addr}
  {xhm xg1:Option Addr} {xho:Array (Option Value)} {xhn xgx xg4 xg2 xfr xg3:Value} {xge:Addr}
  {xec:Addr}
  {xef:Tok} {xei:Tok} {xeh:Tok} {xfi:Tok} {xeo:Tok} {xgk:Tok} {xgb:Tok} {xhe:Tok} {xhb:Tok} {xhk:Tok} {xhf:Tok} {xg7:Tok} {xhd:Tok}
  (xc3:FH K "_law_cell" zd5 xgm xgt)
  (xbp:FH K "_law_folded" zc5 xfs xfm)
  (xco:FH K "_law_mixed" zdu xfu xft)
  (xa5:FH K "_law_ground_by" zcm xen xep)
  (xcl:FH K "_law_names" zdy xf5 xf6)
  (xc9:FH K "_law_high" zd8 xga xgq)
  (xbl:FH K "_law_beacon" zdg xfo xfn)
  (xde:FH K "_law_fog" zex xg0 xgw)
  (xcp:FH K "_law_parts" zdx xfv xfw)
  (xaf:FH K "refuse_bad_corners" zbt xdq xdp)
  (xay:W.nsIn K mainGlobals "Ground"=some (some (.ref xab))) (xcv:K.lookup xbh=some ⟨xe4,xew,.func (W.fnOf "__init__" "Ground.__init__" (za7 za8) (zaz za8) (zF za8) .none xfa xeu xe9 xe7 xdk xe2),xey⟩) (xcy:W.codeIn K xdk "Ground.__init__"=true) (xcz:W.keepIn K (.ref xbh)=true)
  (xb2:W.makesIn K xab=true) (xbr:W.findIn K (.ref xab) "__init__"=some (some (.ref xbh))) (xcg:W.isFn K (.ref xbh)=true) (xch:W.keepIn K (.ref xab)=true) (xcf:W.plainGet K xab Str.empty=true) (xca:W.hasDictIn K xab=true) (xb3:W.plainOver K xab=true) (xb7:W.findIn K (.ref xab) "__setattr__"=some (some (.builtin "object.__setattr__"))) (xb5:W.findIn K (.ref xab) "corners"=some none)
  (xah:FH K "refuse_bad_numbers" zbu xdo xdu)
  (xdh:FH K "is_name" zeF xgy xgz)
  (xal:FH K "refuse_bad_names" zbL xdz xdy)
  (xej:FH K "less" zg5 xhl xhj)
  (xd5:FH K "is_on" zfT xhg xhh)
  (xav:FH K "common_divisor" zb7 xee xed)
  (xc5:FH K "fraction" zdV xgg xgo)
  (xck:FH K "height_on" zdq xfx xf2)
  (xcq:FH K "ground_at" zdo xfy xfz)
  (xdm:FH K "stands" ze9 xg8 xg5)
  (xar:FH K "refuse_bad_tops" zbS xea xd9)
  (xc8:FH K "is_whole" zdP xgs xgd)
  (xdv:FH K "is_fog" zff xg6 xhc)
  (xap:FH K "refuse_bad_fogs" zbR xeb xd8)
  (xam:FH K "refuse_bad_hours" zbC xd0 xd2)
  (xr:W.nsIn K mainGlobals "Valley"=some (some (.ref xg))) (xcx:K.lookup xbf=some ⟨xeq,xer,.func (W.fnOf "__init__" "Valley.__init__" (za7 za9) (zaz za9) (zF za9) .none xe1 xe8 xet xe6 xdl xez),xex⟩) (xcw:W.codeIn K xdl "Valley.__init__"=true) (xcu:W.keepIn K (.ref xbf)=true)
  (xbv:W.makesIn K xg=true) (xcb:W.findIn K (.ref xg) "__init__"=some (some (.ref xbf))) (xbt:W.isFn K (.ref xbf)=true) (xb1:W.keepIn K (.ref xg)=true) (xbu:W.plainGet K xg Str.empty=true) (xb4:W.hasDictIn K xg=true) (xbs:W.plainOver K xg=true) (xcd:W.findIn K (.ref xg) "__setattr__"=some (some (.builtin "object.__setattr__"))) (xce:W.findIn K (.ref xg) "ground"=some none) (xb8:W.findIn K (.ref xg) "beacons"=some none) (xby:W.findIn K (.ref xg) "fogs"=some none) (xcc:W.findIn K (.ref xg) "haze"=some none) (xbq:W.findIn K (.ref xg) "first"=some none) (xbw:W.findIn K (.ref xg) "last"=some none) (xb0:W.findIn K (.ref xg) "delay"=some none)
  (xdt:FH K "spaced" ze5 xg9 xha)
  (xbg:FH K "show_valley" zcU xfb xfc)
  (xcr:FH K "_law_words" zdp xf4 xf3)
  (xc1:FH K "_law_text" zd0 xgl xgn)
  (xgh:W.nsIn K mainGlobals "law"=some (some (.ref xge))) (xgv:K.lookup xge=some ⟨xhn,xhm,.func (W.fnOf "law" "law" (za7 zc1) (zaz zc1) (zF zc1) .none xgx xg4 xg2 xg1 xfr xg3),xho⟩) (xf7:W.codeIn K xfr "law"=true) (xgr:W.keepIn K (.ref xge)=true)
  (xbe:W.nsIn K mainGlobals "OffGround"=some (some (.ref xec))) (xdi:zkj K xec=true)
  (xgc:W.nsIn K mainGlobals "len"=some none) (xes:W.nsIn K mainGlobals "range"=some none) (xfj:W.nsIn K mainGlobals "list"=some none) (xgp:W.nsIn K mainGlobals "all"=some none) (xgu:W.nsIn K mainGlobals "set"=some none) (xgj:W.nsIn K mainGlobals "abs"=some none) (xgi:W.nsIn K mainGlobals "int"=some none) (xda:W.nsIn K mainGlobals "isinstance"=some none) (xfl:W.nsIn K mainGlobals "bool"=some none) (xe5:W.nsIn K mainGlobals "tuple"=some none) (xf9:W.nsIn K mainGlobals "str"=some none)
  (xbk:W.nsIn K mainGlobals "LEAST_CORNERS"=some (some (.int 2 xef))) (xbx:W.nsIn K mainGlobals "MOST_CORNERS"=some (some (.int 40 xei))) (xb6:W.nsIn K mainGlobals "MOST_BEACONS"=some (some (.int 12 xeh))) (xdj:W.nsIn K mainGlobals "MOST_FOGS"=some (some (.int 12 xfi))) (xb9:W.nsIn K mainGlobals "MOST_LETTERS"=some (some (.int 8 xeo))) (xd1:W.nsIn K mainGlobals "LETTERS"=some (some (.str "abcdefghijklmnopqrstuvwxyz" xgk))) (xd3:W.nsIn K mainGlobals "NUMBERS"=some (some (.int 8 xgb))) (xfp:W.nsIn K mainGlobals "LEFT"=some (some (.int 0 xhe))) (xev:W.nsIn K mainGlobals "RIGHT"=some (some (.int 1 xhb))) (xgf:W.nsIn K mainGlobals "LOW"=some (some (.int 2 xhk))) (xfk:W.nsIn K mainGlobals "HIGH"=some (some (.int 3 xhf))) (xe3:W.nsIn K mainGlobals "FIRST"=some (some (.int 4 xg7))) (xfq:W.nsIn K mainGlobals "LAST"=some (some (.int 5 xhd))) :
  ∃ fd:FuncData,(∀ (s:Shared) (v:Value),BindsTo s fd ⟨[v],[]⟩ [("script",v)])/\∀ base:Heap,K.In base->base.Ns mainGlobals mg->zP l.prog w K mg base CX0 9 fa fd ["script"] (upF K Dp.zc8):=by
 have e:=hfa.symm.trans (W.mg_of X G xgh)
 cases e
 have xat:∀ C,W.nsIn K mainGlobals "Ground"=some (some (.ref C))->z8 K C "corners":=fun C hC=>by
  rw [xay] at hC;cases hC;exact xb5
 have xdx:=zfK (st:=za8) xcv xcy xcz
 have zbb:=xdx.binds (ps:=["self","corners"]) fun _ _ _ _ _ _ us hl=>by obtain⟨_,_,rfl⟩:=ziD hl;rfl
 have xau:∀ C,W.nsIn K mainGlobals "Valley"=some (some (.ref C))->z8 K C "ground":=fun C hC=>by
  rw [xr] at hC;cases hC;exact xce
 have xao:∀ C,W.nsIn K mainGlobals "Valley"=some (some (.ref C))->z8 K C "beacons":=fun C hC=>by
  rw [xr] at hC;cases hC;exact xb8
 have xa9:∀ C,W.nsIn K mainGlobals "Valley"=some (some (.ref C))->z8 K C "fogs":=fun C hC=>by
  rw [xr] at hC;cases hC;exact xby
 have xba:∀ C,W.nsIn K mainGlobals "Valley"=some (some (.ref C))->z8 K C "haze":=fun C hC=>by
  rw [xr] at hC;cases hC;exact xcc
 have xa3:∀ C,W.nsIn K mainGlobals "Valley"=some (some (.ref C))->z8 K C "first":=fun C hC=>by
  rw [xr] at hC;cases hC;exact xbq
 have xbd:∀ C,W.nsIn K mainGlobals "Valley"=some (some (.ref C))->z8 K C "last":=fun C hC=>by
  rw [xr] at hC;cases hC;exact xbw
 have xa4:∀ C,W.nsIn K mainGlobals "Valley"=some (some (.ref C))->z8 K C "delay":=fun C hC=>by
  rw [xr] at hC;cases hC;exact xb0
 have xdw:=zfK (st:=za9) xcx xcw xcu
 have za6:=xdw.binds (ps:=["self","ground","beacons","fogs","haze","first","last","delay"]) fun _ _ _ _ _ _ us hl=>by obtain⟨_,_,_,_,_,_,_,_,rfl⟩:=zoJ hl;rfl
 have xhp:=zfK (st:=zc1) xgv xf7 xgr
 have xbm:∀ C,W.nsIn K mainGlobals "OffGround"=some (some (.ref C))->ExC K C:=fun C h=>by
  rw [xbe] at h;cases h;exact ExC.of xdi
 have xbo:∃ C,W.nsIn K mainGlobals "OffGround"=some (some (.ref C))/\mg "OffGround"=some (.ref C):=⟨_,xbe,W.mg_of X G xbe⟩
 have xq:=W.mg_none_of X G xgc
 have xu:=W.mg_none_of X G xes
 have xad:=W.mg_none_of X G xfj
 have xas:=W.mg_none_of X G xgp
 have xfe:=W.mg_none_of X G xgu
 have xfd:=W.mg_none_of X G xgj
 have xfh:=W.mg_none_of X G xgi
 have xaa:=W.mg_none_of X G xda
 have xeg:=W.mg_none_of X G xfl
 have xd6:=W.mg_none_of X G xe5
 have xai:=W.mg_none_of X G xf9
 have xa0:∃ t,mg "LEAST_CORNERS"=some (.int 2 t):=⟨_,W.mg_of X G xbk⟩
 have xbc:∃ t,mg "MOST_CORNERS"=some (.int 40 t):=⟨_,W.mg_of X G xbx⟩
 have xa7:∃ t,mg "MOST_BEACONS"=some (.int 12 t):=⟨_,W.mg_of X G xb6⟩
 have xcj:∃ t,mg "MOST_FOGS"=some (.int 12 t):=⟨_,W.mg_of X G xdj⟩
 have xa8:∃ t,mg "MOST_LETTERS"=some (.int 8 t):=⟨_,W.mg_of X G xb9⟩
 have xdd:∃ t,mg "LETTERS"=some (.str "abcdefghijklmnopqrstuvwxyz" t):=⟨_,W.mg_of X G xd1⟩
 have xdb:∃ t,mg "NUMBERS"=some (.int 8 t):=⟨_,W.mg_of X G xd3⟩
 have xek:∃ t,mg "LEFT"=some (.int 0 t):=⟨_,W.mg_of X G xfp⟩
 have xd4:∃ t,mg "RIGHT"=some (.int 1 t):=⟨_,W.mg_of X G xev⟩
 have xfg:∃ t,mg "LOW"=some (.int 2 t):=⟨_,W.mg_of X G xgf⟩
 have xem:∃ t,mg "HIGH"=some (.int 3 t):=⟨_,W.mg_of X G xfk⟩
 have xd7:∃ t,mg "FIRST"=some (.int 4 t):=⟨_,W.mg_of X G xe3⟩
 have xel:∃ t,mg "LAST"=some (.int 5 t):=⟨_,W.mg_of X G xfq⟩
 refine⟨W.fnOf "law" "law" (za7 zc1) (zaz zc1) (zF zc1) .none xgx xg4 xg2 xg1 xfr xg3,fun s v=>.of_eq rfl,fun base _ _=>?_⟩
 have xbb:=zY l.prog w base X G xc3 (zh7 xq xc3.F)
 have xbn:=zY l.prog w base X G xbp (zgM xq xu xbp.F)
 have xac:=zY l.prog w base X G xco (zhm xco.F)
 have xa2:=zY l.prog w base X G xa5 (zfi xu xac xa5.F)
 have xcm:=zY l.prog w base X G xcl (zhH xu xcl.F)
 have xc6:=zY l.prog w base X G xc9 (zhV xq xu xc9.F)
 have xbj:=zY l.prog w base X G xbl (zgJ xac xc6 xbl.F)
 have xdf:=zY l.prog w base X G xde (ziz xac xde.F)
 have xct:=zY l.prog w base X G xcp (zgV xbb xu xbn xa2 xcm xbj xdf xcp.F)
 have xae:=zY l.prog w base X G xaf (zdF xq xu xa0 xbc xaf.F)
 have xbi:zf6 l.prog w K mg base 2 "Ground" (upF K Dp.zdk):=⟨⟨_,_,_,_,_,⟨xb2,xbr,xcg,xch⟩,zf8 xae xat xad xdx,zbb,W.mg_of X G xay,zia ⟨xcf,xca,xb3,xb7⟩ xay⟩⟩
 have xag:=zY l.prog w base X G xah (zdJ xq xa7 xcj xah.F)
 have xdc:=zY l.prog w base X G xdh (ziX xq xa8 xdd xas xdh.F)
 have xaj:=zY l.prog w base X G xal (zea xq xas xdc xfe xal.F)
 have xa6:=zY l.prog w base X G xej (zlP xej.F)
 have xbz:=zY l.prog w base X G xd5 (zj9 xa6 xd5.F)
 have xax:=zY l.prog w base X G xav (ze1 xfd xav.F)
 have xc2:=zY l.prog w base X G xc5 (zh0 xax xc5.F)
 have xcn:=zY l.prog w base X G xck (zht xc2 xck.F)
 have xci:=zlf l.prog w base X G xcq (zhI xa6 xbz xcn xbm xbo xcq.F)
 have xds:=zY l.prog w base X G xdm (zjk xa6 xbz xci xdm.F)
 have xaq:=zY l.prog w base X G xar (zeI xas xds xar.F)
 have xc4:=zY l.prog w base X G xc8 (zhT xfh xaa xeg xc8.F)
 have xdn:=zY l.prog w base X G xdv (zjI xq xas xaa xc4 xdb xek xd4 xfg xem xd7 xel xd6 xdv.F)
 have xan:=zY l.prog w base X G xap (zew xas xdn xap.F)
 have xak:=zY l.prog w base X G xam (zee xam.F)
 have xdr:zf6 l.prog w K mg base 7 "Valley" (upF K Dp.zet):=⟨⟨_,_,_,_,_,⟨xbv,xcb,xbt,xb1⟩,zfU xad xbi xag xaj xaq xan xak xau xao xa9 xba xa3 xbd xa4 xdw,za6,W.mg_of X G xr,zia ⟨xbu,xb4,xbs,xcd⟩ xr⟩⟩
 have xaw:=zY l.prog w base X G xdt (zjl xai xdt.F)
 have xaz:=zY l.prog w base X G xbg (zf1 xad xaw xbg.F)
 have xcs:=zY l.prog w base X G xcr (zhd xai xcr.F)
 have xc7:=zY l.prog w base X G xc1 (zh5 xcs xc1.F)
 exact zl9 xq xct xad xbi xaa xdr xai xaz xc7 xhp
theorem walk {l:W.OpenLaw}{q:Program}{loose:List Str}{XP:(Str->Option Value)->Heap->Prop}{YP:World->Heap->Prop}{d:DefRec}{K:Params->W.Frag}(hn:l.most=some 63)(hdf:d.params.defaults=[])
  (hY:∀ (w:World) (h:Heap),YP w h->(K w.params).In h)
  (F:∀ (w:World) (mg:Str->Option Value) (fa:Addr) (h:Heap),(K w.params).In h->h.Ns mainGlobals mg->mg d.name=some (.ref fa) ->
   ∃ fd:FuncData,(∀ (s:Shared) (u:Value),BindsTo s fd ⟨[u],[]⟩ [("script",u)])/\∀ base:Heap,(K w.params).In base->base.Ns mainGlobals mg->zP l.prog w (K w.params) mg base CX0 9 fa fd ["script"] (upF (K w.params) Dp.zc8)) :
  W.WalkO q loose XP YP l.row.toRowW d [] (fun f vs=>PySem.call f vs) :=
 Dp.zkv (n:=63) (k:=9) (x:="script") (sp:=fun w=>upF (K w.params) Dp.zc8) hn (by decide) hdf ⟨rfl,by decide,by decide⟩ hY F fun _ _ _ _ hl hg hO hS=>zmq hl hg hO hS
end Law
local macro_rules | `(tactic| walk_at "fh")=>`(tactic| (refine' Dp.zoN ?fa ?fl ?fc ?fk;(case fa=>k_is);(case fl=>k_is);(case fc=>k_is);(case fk=>k_is)))
open PySem PySem.W PyProof.Rows
namespace PySem.W.Fast
def tw5048819473799223668:=()
def tw10446807863667180498:=()
def tw3250278611495320997:=()
def tw16237305623038067799:=()
def tw13657857544672502593:=()
def tw12683936565707150440:=()
def tw10049521802419309295:=()
def tw6871563024601302000:=()
def tw13772417556605148623:=()
def tw10731946203061601186:=()
def tw4405331226004431814:=()
def tw7519528795072590666:=()
def tw17601215455903849654:=()
def tw9449099793619418969:=()
def tw4312210688406015196:=()
def tw15185869709519858183:=()
def tw5133143040081371813:=()
def tw8760005925703824172:=()
def tw12508261783389062999:=()
def tw18118587300297754602:=()
def tw17540738894531177198:=()
def tw3715116509386579542:=()
def tw15578679435218474401:=()
def tw12742020330198527585:=()
def tw9681671166078732064:=()
def tw15282361258413512807:=()
def tw1269861653859069329:=()
def tw8556744174784105825:=()
def tw6361870229121390062:=()
def tw943770625506116370:=()
def tw10583782894139916282:=()
def tw4639662506500551930:=()
def tw2543619548253745795:=()
def tw4886511833280348696:=()
def tw6541021901860287111:=()
def tw8609729586743842656:=()
def tw8780949267708544064:=()
def tw6550544303779449601:=()
def tw5132630411804271007:=()
def tw2435293073799748491:=()
def tw10799969711648646941:=()
def tw11973282698404630574:=()
def tw1744591450984278241:=()
def tw6780523639441118869:=()
def tw14808917670326069724:=()
def tw14869444251007990910:=()
def tw2115988361333136624:=()
def tw4085836350171569297:=()
def tw4411886965364389860:=()
def tw9568577718097847925:=()
def tw18243693971713749922:=()
def tw2436794760505117469:=()
def tw15602733609833348064:=()
def tw6549384147554827404:=()
def tw17723128571747104628:=()
def tw10100596302903385063:=()
def tw5414629279488726666:=()
def tw3918935111896645937:=()
def tw8953035010118344670:=()
def tw11512447358478643645:=()
def tw6948688005170773263:=()
def tw215313675367608805:=()
def tw11514403342766599316:=()
def tw8632489465278040306:=()
def tw15128813269696101246:=()
def tw11397047149597678962:=()
def tw1871118608476940027:=()
def tw16284965828158231615:=()
def tw9941482237940071501:=()
def tw4897389618489984550:=()
def tw2676063251788068784:=()
def tw7975646627450356347:=()
def tw16208917665654170936:=()
def tw7854148964077867297:=()
def tw13874783416628508321:=()
def tw7372259259750532757:=()
def tw341371332105823196:=()
def tw8455987867605627662:=()
def tw7081739238964823128:=()
def tw16825356522100182182:=()
def tw8021545396793671414:=()
def tw9991282559502858384:=()
def tw12968983255489462894:=()
def tw9127641081749947201:=()
def tw5150338257628729873:=()
def tw18278447770070032823:=()
def tw2318321439153677258:=()
def tw15205810038292614576:=()
def tw17296506751402264923:=()
def tw17643308132260591494:=()
def tw4487996579742097721:=()
def tw1508697825167857129:=()
def tw4948389133331657240:=()
def tw12527788156517587917:=()
def tw17020123512523016701:=()
def tw283095919683756465:=()
def tw17412567593538837412:=()
def tw5658199856008318994:=()
end PySem.W.Fast
set_option maxRecDepth 100000 in
set_option maxHeartbeats 0 in
theorem PySem.Challenge.cw_beaconvale_k85_valleys_written_holds : PySem.Challenge.rw_beaconvale_k85_valleys_written.Holds := by
 w_on; o_law; k_head; (case hw => w_witness2)
 k_fill
 refine Law.walk (l := PySem.Challenge.rw_beaconvale_k85_valleys_written) rfl rfl (fun w h Y => PySem.W.kIn_of Y) ?F
 case F =>
  intro w mg fa h KX G hmg
  refine' Law.all_mk KX G hmg ?ae ?ah ?ai ?aj ?ak ?al ?am ?ao ?aq ?ar ?aw ?ay ?aA ?aB ?aC ?aD ?aE ?aF ?aG ?aH ?aI ?aJ ?aK ?aL ?aM ?aN ?aO ?aP ?aQ ?aR ?aS ?aT ?aU ?aV ?aW ?aX ?aY ?aZ ?a8 ?a9 ?be ?bh ?bi ?bj ?bn ?bp ?bq ?br ?bt ?bu ?bv ?bw ?bA ?bC ?bD ?bE ?bG ?bH ?bI ?bJ ?bK ?bL ?bM ?bN ?bO ?bP ?bQ ?bR ?bS ?bU ?bV ?bW ?bX ?bY ?bZ ?b7 ?b8 ?b9 ?ca ?cb ?cc ?ce ?cf ?cg ?ci ?cj ?ck ?cn ?cq ?cr ?cu
  case bP|aw|a8|aD|bj=>k_is
  case ae|ah|ai|aj|ak|al|am|ao|aq|ar=>walk_at "fh"
  case ay|aA|aB|aC|aE|aF|aG|aH|aI|aJ|aK=>k_is
  case aL|aM|aN|aO|aP|aQ|aR|aS|aT|aU|aV|aW|aX|aY|aZ=>walk_at "fh"
  case a9|be|bh|bi|bn|bp|bq|br|bt|bu|bv|bw|bA|bC|bD|bE|bG=>k_is
  case bH|bI|bJ|bK=>walk_at "fh"
  case bL|bM|bN|bO=>k_is
  case bQ=>kernel_rfl
  case bR|bS|bU|bV|bW|bX|bY|bZ|b7|b8|b9|ca|cb|cc|ce|cf|cg|ci|cj|ck|cn|cq|cr|cu=>k_is
#print axioms PySem.Challenge.cw_beaconvale_k85_valleys_written_holds
