import PyProof.Rows.All
import Wide.All
import OpenK.AllK
import Wide.FinOn
import Lean
import PyProof.EqAt
import PyProof.EqKinds
import PyProof.TupleCall
import PyProof.NeData
import PyProof.P3Eq
import PyProof.StrLawsIn
import PySem.Challenge.RW_beaconvale_k42_names_and_tops
set_option Elab.async false
set_option linter.all false
set_option maxRecDepth 100000
set_option maxHeartbeats 4000000
set_option Elab.async false
set_option linter.all false
set_option maxRecDepth 100000
namespace L2
open PySem PySem.Spec PyProof.Rows
abbrev Key:=Sum Int Str
def zqP:Key->Value->Bool
 | .inl k,v=>Value.isInt k v
 | .inr x,v=>Value.isStrOf x v
def zv6 (w:World):Key->Int
 | .inl k=>hashInt k
 | .inr x=>hashStr w x
theorem za7:∀ {k:Key} {v:Value},zqP k v=true->(∃ i t,k=Sum.inl i/\v=Value.int i t)\/(∃ x t,k=Sum.inr x/\v=Value.str x t)
 | .inl i,v,h=>by
  obtain⟨t,e⟩:=Value.isInt_shape (k:=i) (v:=v) h
  exact .inl ⟨i,t,rfl,e⟩
 | .inr x,v,h=>by
  obtain⟨t,e⟩:=Value.isStrOf_shape (x:=x) (v:=v) h
  exact .inr ⟨x,t,rfl,e⟩
theorem ztM (a b:Int):decide ((Sum.inl a:Key)=Sum.inl b)=(a==b):=by
 by_cases e:a=b
 ·subst e;simp
 ·have h:¬ (Sum.inl a:Key)=Sum.inl b:=fun q=>e (Sum.inl.inj q)
  rw [decide_eq_false h]
  exact (beq_eq_false_iff_ne.mpr e).symm
theorem zt4 (a b:Str):decide ((Sum.inr a:Key)=Sum.inr b)=decide (a=b):=by
 by_cases e:a=b
 ·subst e;simp
 ·have h:¬ (Sum.inr a:Key)=Sum.inr b:=fun q=>e (Sum.inr.inj q)
  rw [decide_eq_false h,decide_eq_false e]
theorem zus (a:Int)(b:Str):decide ((Sum.inl a:Key)=Sum.inr b)=false:=decide_eq_false (fun q=>nomatch q)
theorem zui (a:Str)(b:Int):decide ((Sum.inr a:Key)=Sum.inl b)=false:=decide_eq_false (fun q=>nomatch q)
def zl4 (prog:Program)(w:World):PySem.KeyKind prog w Key where
  is:=zqP
  hash:=zv6 w
  inj:=fun v a b ha hb=>by
    rcases za7 ha with ⟨i,t,rfl,rfl⟩ | ⟨x,t,rfl,rfl⟩
    · rcases za7 hb with ⟨j,u,rfl,e⟩ | ⟨y,u,rfl,e⟩
      · injection e with e1 _;rw [e1]
      · exact nomatch e
    · rcases za7 hb with ⟨j,u,rfl,e⟩ | ⟨y,u,rfl,e⟩
      · exact nomatch e
      · injection e with e1 _;rw [e1]
  byValue:=fun k v h=>by
    rcases za7 h with ⟨i,t,rfl,rfl⟩ | ⟨x,t,rfl,rfl⟩<;>rfl
  pyHash:=fun hv h=>by
    rcases za7 hv with ⟨i,t,rfl,rfl⟩ | ⟨x,t,rfl,rfl⟩
    · exact wpAny_pyHash_int h
    · exact wpAny_pyHash_str h
  eqBool:=fun hu hv h=>by
    rcases za7 hu with ⟨i,t,rfl,rfl⟩ | ⟨x,t,rfl,rfl⟩
    · rcases za7 hv with ⟨j,u,rfl,rfl⟩ | ⟨y,u,rfl,rfl⟩
      · rw [ztM] at h;exact wpAny_eqBool_int h
      · rw [zus] at h;exact SeqAt.EqAt.int_str i t y u _ _ _ _ h
    · rcases za7 hv with ⟨j,u,rfl,rfl⟩ | ⟨y,u,rfl,rfl⟩
      · rw [zui] at h;exact SeqAt.EqAt.str_int x t j u _ _ _ _ h
      · rw [zt4] at h;exact wpAny_eqBool_str h
  «strs»:=fun k x t v h=>by
    rcases za7 h with ⟨i,u,rfl,e⟩ | ⟨y,u,rfl,e⟩
    · exact nomatch e
    · injection e with e1 _
      subst e1
      cases v<;>rfl
end L2
namespace L2
open PySem PySem.Spec PyProof.Rows
inductive V where
 | non | bl (b:Bool) | int (i:Int) | str (x:Str) | byt (b:Array UInt8) | flt (b:UInt64) | ref (a:Addr) | ty (n:String)
 deriving DecidableEq
def RelV:V->Value->Prop
 | .non,u=>u=Value.none
 | .bl b,u=>u=Value.bool b
 | .int i,u=>∃ t,u=Value.int i t
 | .str x,u=>∃ t,u=Value.str x t
 | .byt b,u=>∃ t,u=Value.bytes b t
 | .flt b,u=>∃ t,u=Value.float b t
 | .ref a,u=>u=Value.ref a
 | .ty n,u=>u=Value.type n
abbrev Vals:List V->List Value->Prop:=Paired RelV
theorem Vals.length {xs:List V}{us:List Value}(r:Vals xs us):xs.length=us.length:=Paired.length r
theorem Vals.get:∀ {xs:List V} {us:List Value} {i:Nat} {x:V},Vals xs us->xs[i]?=some x->∃ u,us[i]?=some u/\RelV x u
 | _,_,_,_,.nil,e=>by simp at e
 | _,_,0,_,.cons r _,e=>by simp at e;subst e;exact⟨_,rfl,r⟩
 | _,_,i+1,x,.cons _ t,e=>by
  obtain⟨u,h1,h2⟩:=Vals.get (i:=i) (x:=x) t (by simpa using e)
  exact⟨u,by simpa using h1,h2⟩
theorem Vals.set {x:V}{u:Value}(r:RelV x u):∀ {xs:List V} {us:List Value} (i:Nat),Vals xs us->Vals (xs.set i x) (us.set i u)
 | _,_,_,.nil=>.nil
 | _,_,0,.cons _ t=>.cons r t
 | _,_,i+1,.cons q t=>.cons q (Vals.set r i t)
theorem Vals.append:∀ {xs ys:List V} {us ws:List Value},Vals xs us->Vals ys ws->Vals (xs++ys) (us++ws)
 | _,_,_,_,.nil,s=>s
 | _,_,_,_,.cons r t,s=>.cons r (Vals.append t s)
theorem Vals.take:∀ {xs:List V} {us:List Value} (n:Nat),Vals xs us->Vals (xs.take n) (us.take n)
 | _,_,0,_=>.nil
 | _,_,_+1,.nil=>.nil
 | _,_,n+1,.cons r t=>.cons r (Vals.take n t)
theorem Vals.drop:∀ {xs:List V} {us:List Value} (n:Nat),Vals xs us->Vals (xs.drop n) (us.drop n)
 | _,_,0,r=>r
 | _,_,_+1,.nil=>.nil
 | _,_,n+1,.cons _ t=>Vals.drop n t
def ziw:Option V->Option Value->Prop
 | some v,some u=>RelV v u
 | none,none=>True
 | _,_=>False
def KV {κ:Type}:List (κ×V)->List (κ×Value)->Prop:=Paired fun (p:κ×V) (q:κ×Value)=>p.1=q.1/\RelV p.2 q.2
def kV:Key->V
 | .inl i=>.int i
 | .inr x=>.str x
inductive HO where
 | lst (xs:List V)
 | tup (xs:List V)
 | dK (kvs:List (Key×V)) | dT (kvs:List (List Key×V))
 | set (S:Int->Bool) (n:Nat)
 | ins (C dx:Addr) (fs:List (Str×V))
 | own (x:Addr)
 | xd (fs:List (Str×V))
 | met (f x:Addr)
 | rng (lo hi:Int)
 | frz (o:Obj) (u:HO)
 | tbl (ps:Array Value)
 | ext (φ:Heap->Prop)
abbrev Hp:=Addr->Option HO
def upd (H:Hp)(a:Addr)(o:HO):Hp:=fun b=>if b=a then some o else H b
theorem zaF {H:Hp}{a:Addr}{o:HO}:upd H a o a=some o:=by unfold upd;rw [if_pos rfl]
theorem zW {H:Hp}{a b:Addr}{o:HO}(h:b≠a):upd H a o b=H b:=by unfold upd;rw [if_neg h]
theorem zhA {H:Hp}{a b:Addr}{o u:HO}(h:H a=some o)(h':H b=some u)(d:o≠u):a≠b:=by
 intro e;subst e;rw [h] at h';exact d (Option.some.inj h')
theorem zbu {H:Hp}{a b:Addr}{o:HO}(h:H a=some o)(h':H b=none):a≠b:=by
 intro e;subst e;rw [h] at h';cases h'
section
variable (P:Program)(w:World)
def zbc (H:Hp)(h:Heap)(a:Addr):HO->Prop
 | .lst xs=>xs.length<=sizeLine/\∃ (its:List Value) (n:Nat),Vals xs its/\h.get? a=some { cls:=.type "list",data:=.seq its.toArray n }
 | .tup xs=>xs.length<=sizeLine/\∃ its:List Value,Vals xs its/\IsTup h a its.toArray
 | .dK kvs=>kvs.length<=sizeLine/\(a==sysModules)=false/\∃ vs,KV kvs vs/\h.DictOf (zl4 P w) a vs
 | .dT kvs=>kvs.length<=sizeLine/\(a==sysModules)=false/\∃ xs:List (List Key×Addr×Value),
   Paired (fun (p:List Key×V) (q:List Key×Addr×Value)=>p.1=q.1/\H q.2.1=some (.tup (p.1.map kV))/\RelV p.2 q.2.2) kvs xs /\
   ∃ o es ep,h.get? a=some o/\o.ExactDict/\o.data=.dict es ep/\es.toList=xs.map (entryOfKey (tupleKind (zl4 P w)))/\(xs.map (·.1)).Nodup
 | .set S n=>h.SetOf (intKind P w) a S n
 | .ins C dx fs=>H dx=some (.own a)/\fs.length<=1000/\dx≠a/\h.get? a=some (PySem.W.instObj C dx) /\
   ∃ mA,h.Ns1 dx mA/\(∀ f,ziw (fs.lookup f) (mA f))/\PySem.Within mA (fs.map (·.1))
 | .own _=>∃ o,h.get? a=some o
 | .xd fs=>∃ mA,h.Ns1 a mA/\∀ f,ziw (fs.lookup f) (mA f)
 | .rng lo hi=>∃ t u v,h.get? a=some { cls:=.type "range",data:=.fields #[.int lo t,.int hi u,.int 1 v] }
 | .frz o u=>h.get? a=some o/\zbc H h a u
 | .tbl ps=>h.get? a=some { cls:=.none,data:=.fields ps }
 | .met f x=>h.get? a=some (PySem.W.methodObj (.ref f) (.ref x))
 | .ext φ=>φ h/\(∃ o,h.get? a=some o)/\∀ h1 h2:Heap,φ h1->(∀ o,h1.get? a=some o->h2.get? a=some o)->φ h2
def HOk (H:Hp)(h:Heap):Prop:=∀ a o,H a=some o->zbc P w H h a o
end
section
variable {P:Program}{w:World}{H H':Hp}{h h':Heap}{a:Addr}{o:HO}
theorem zbc.lt (x:zbc P w H h a o):a<h.objs.size:=by
 cases o with
 | lst xs=>obtain⟨_,_,_,_,e⟩:=x;exact Heap.lt_size e
 | tup xs=>obtain⟨_,_,_,p⟩:=x;exact p.lt
 | dK kvs=>obtain⟨_,_,_,_,o,_,_,e,_⟩:=x;exact Heap.lt_size e
 | dT kvs=>obtain⟨_,_,_,_,o,_,_,e,_⟩:=x;exact Heap.lt_size e
 | set S n=>obtain⟨o,_,_,_,e,_⟩:=x;exact Heap.lt_size e
 | ins C dx fs=>obtain⟨_,_,_,e,_⟩:=x;exact Heap.lt_size e
 | own y=>obtain⟨_,e⟩:=x;exact Heap.lt_size e
 | xd fs=>obtain⟨_,⟨_,_,_,e,_⟩,_⟩:=x;exact Heap.lt_size e
 | rng lo hi=>obtain⟨_,_,_,e⟩:=x;exact Heap.lt_size e
 | frz ob u=>obtain⟨e,_⟩:=x;exact Heap.lt_size e
 | tbl ps=>exact Heap.lt_size (show h.get? a=some _ from x)
 | met f y=>exact Heap.lt_size (show h.get? a=some _ from x)
 | ext φ=>obtain⟨_,⟨_,e⟩,_⟩:=x;exact Heap.lt_size e
theorem Paired.mapP {α β:Type}{F G:α->β->Prop}:∀ {l₁:List α} {l₂:List β},Paired F l₁ l₂->(∀ a b,F a b->G a b)->Paired G l₁ l₂
 | _,_,.nil,_=>.nil
 | _,_,.cons r t,f=>.cons (f _ _ r) (Paired.mapP t f)
theorem Paired.imp' {α β:Type}{F G:α->β->Prop}(f:∀ a b,F a b->G a b){l₁:List α}{l₂:List β}(r:Paired F l₁ l₂):Paired G l₁ l₂:=Paired.mapP r f
theorem zbc.stay (x:zbc P w H h a o)(k:∀ b u,(b=a\/H b=some (.own a))->h.get? b=some u->h'.get? b=some u)
  (ho:∀ b,H b=some (.own a)->H' b=some (.own a)) (ht:∀ b xs,H b=some (.tup xs)->H' b=some (.tup xs)):zbc P w H' h' a o:=by
 induction o with
 | lst xs=>obtain⟨z,its,n,r,e⟩:=x;exact⟨z,its,n,r,k _ _ (.inl rfl) e⟩
 | tup xs=>obtain⟨z,its,r,ob,e,c⟩:=x;exact⟨z,its,r,ob,k _ _ (.inl rfl) e,c⟩
 | dK kvs=>obtain⟨z,y,vs,r,ob,es,ep,e,c⟩:=x;exact⟨z,y,vs,r,ob,es,ep,k _ _ (.inl rfl) e,c⟩
 | dT kvs =>
  obtain⟨z,y,xs,r,ob,es,ep,e,c⟩:=x
  exact⟨z,y,xs,Paired.mapP r fun p q z=>⟨z.1,ht _ _ z.2.1,z.2.2⟩,ob,es,ep,k _ _ (.inl rfl) e,c⟩
 | set S n=>obtain⟨ob,es,ep,t,e,c⟩:=x;exact⟨ob,es,ep,t,k _ _ (.inl rfl) e,c⟩
 | ins C dx fs =>
  obtain⟨d,z,ne,e,mA,⟨od,es,ep,e2,c⟩,r⟩:=x
  exact⟨ho _ d,z,ne,k _ _ (.inl rfl) e,mA,⟨od,es,ep,k _ _ (.inr d) e2,c⟩,r⟩
 | own y=>obtain⟨ob,e⟩:=x;exact⟨ob,k _ _ (.inl rfl) e⟩
 | xd fs=>obtain⟨mA,⟨od,es,ep,e,c⟩,r⟩:=x;exact⟨mA,⟨od,es,ep,k _ _ (.inl rfl) e,c⟩,r⟩
 | rng lo hi=>obtain⟨t,u,v,e⟩:=x;exact⟨t,u,v,k _ _ (.inl rfl) e⟩
 | frz ob u ih=>obtain⟨e,q⟩:=x;exact⟨k _ _ (.inl rfl) e,ih q⟩
 | tbl ps =>
  have e:h.get? a=some { cls:=.none,data:=.fields ps }:=x
  show h'.get? a=some { cls:=.none,data:=.fields ps }
  exact k a _ (.inl rfl) e
 | met f y =>
  have e:h.get? a=some (PySem.W.methodObj (.ref f) (.ref y)):=x
  show h'.get? a=some (PySem.W.methodObj (.ref f) (.ref y))
  exact k a _ (.inl rfl) e
 | ext φ=>obtain⟨p,⟨o,e⟩,st⟩:=x;exact⟨st _ _ p fun o q=>k _ _ (.inl rfl) q,⟨o,k _ _ (.inl rfl) e⟩,st⟩
theorem HOk.lt (x:HOk P w H h)(e:H a=some o):a<h.objs.size:=(x a o e).lt
theorem HOk.fresh (x:HOk P w H h)(e:h.objs.size<=a):H a=none:=by
 cases q:H a with
 | none=>rfl
 | some u=>exact absurd (Nat.lt_of_lt_of_le (x.lt q) e) (Nat.lt_irrefl _)
theorem HOk.kept (x:HOk P w H h)(k:∀ b u,h.get? b=some u->h'.get? b=some u):HOk P w H h':=fun a o e =>
 (x a o e).stay (fun b u _ q=>k b u q) (fun _ q=>q) fun _ _ q=>q
theorem HOk.laid (x:HOk P w H h)(k:∀ b u,h.get? b=some u->h'.get? b=some u)(hp:h.objs.size<=a)(new:zbc P w (upd H a o) h' a o):HOk P w (upd H a o) h':=fun b u e=>by
 have hn:=x.fresh hp
 by_cases hb:b=a
 ·subst hb;rw [zaF] at e;cases e;exact new
 ·rw [zW hb] at e
  exact (x b u e).stay (fun c v _ q=>k c v q) (fun c q=>by rw [zW (zbu q hn)];exact q) fun c xs q=>by rw [zW (zbu q hn)];exact q
end
def Rd (H:Hp)(a:Addr)(u:HO):Prop:=H a=some u\/∃ o,H a=some (.frz o u)
theorem Rd.ok {P:Program}{w:World}{H:Hp}{h:Heap}{a:Addr}{u:HO}(r:Rd H a u)(x:HOk P w H h):zbc P w H h a u:=by
 rcases r with r | ⟨o,r⟩
 ·exact x a u r
 ·obtain⟨_,q⟩:=x a _ r
  exact q
def Mut:Option HO->Prop
 | some (.lst _)=>True
 | some (.dK _)=>True
 | some (.dT _)=>True
 | some (.set _ _)=>True
 | some (.ins _ _ _)=>True
 | some (.ext _)=>True
 | _=>False
section
variable {P:Program}{w:World}{H:Hp}{h h':Heap}{x e:Addr}{o':HO}
theorem HOk.write (ok:HOk P w H h)(mu:Mut (H x))(he:e=x\/H e=some (.own x))(k:∀ b u,b≠e->h.get? b=some u->h'.get? b=some u)(heo:∃ u,h'.get? e=some u)
  (new:zbc P w (upd H x o') h' x o'):HOk P w (upd H x o') h':=fun b u q=>by
 have nown:∀ c y,H c=some (.own y)->c≠x:=fun c y r z=>by subst z;rw [r] at mu;exact mu
 have ntup:∀ c xs,H c=some (.tup xs)->c≠x:=fun c xs r z=>by subst z;rw [r] at mu;exact mu
 by_cases hb:b=x
 ·subst hb;rw [zaF] at q;cases q;exact new
 ·rw [zW hb] at q
  by_cases hbe:b=e
  ·have q':H b=some (.own x):=by
    rcases he with z | z
    ·exact absurd (hbe.trans z) hb
    ·rw [hbe];exact z
   rw [q] at q';cases q'
   obtain⟨v,hv⟩:=heo
   exact⟨v,by rw [hbe];exact hv⟩
  ·refine (ok b u q).stay (fun c v hc r=>k c v ?_ r) (fun c r=>by rw [zW (nown c b r)];exact r) fun c xs r=>by rw [zW (ntup c xs r)];exact r
   rcases hc with rfl | hc
   ·exact hbe
   ·rintro rfl
    rcases he with z | z
    ·exact nown c b hc z
    ·rw [hc] at z;cases z;exact hb rfl
end
structure Un (fs ex:List Addr)(H H':Hp)(h h':Heap):Prop where
 keep:∀ b o,h.get? b=some o->H b=none->b∉fs->b∉ex->h'.get? b=some o
 slot:∀ b o,h.get? b=some o->H b=none->b∈fs->b∉ex->∃ sl,h'.get? b=some { o with slots:=sl }
 free:∀ b o,h.get? b=some o->H b=none->b∉ex->H' b=none
 there:∀ b o,h.get? b=some o->b∉ex->∃ o',h'.get? b=some o'
 tups:∀ b xs,H b=some (.tup xs)->H' b=some (.tup xs)
 frzs:∀ b o u,H b=some (.frz o u)->H' b=some (.frz o u)
 tbls:∀ b ps,H b=some (.tbl ps)->∃ more,H' b=some (.tbl (ps++more))
section
variable {fs fs' ex ex':List Addr}{H H1 H2:Hp}{h h1 h2 h':Heap}{a x e:Addr}{o:HO}
theorem Un.any (u:Un fs ex H H1 h h1){b:Addr}{ob:Obj}(q:h.get? b=some ob)(n:H b=none)(hx:b∉ex):∃ sl,h1.get? b=some { ob with slots:=sl }:=by
 by_cases hb:b∈fs
 ·exact u.slot b ob q n hb hx
 ·exact⟨ob.slots,u.keep b ob q n hb hx⟩
theorem Un.kept (k:∀ b u,h.get? b=some u->h'.get? b=some u):Un fs ex H H h h' :=
 ⟨fun b ob q _ _ _=>k b ob q,fun b ob q _ _ _=>⟨ob.slots,k b ob q⟩,fun _ _ _ n _=>n,fun b ob q _=>⟨ob,k b ob q⟩,fun _ _ q=>q,fun _ _ _ q=>q,fun _ ps q=>⟨#[],by rw [q];simp⟩⟩
theorem Un.refl:Un fs ex H H h h:=Un.kept fun _ _ q=>q
theorem Un.laid (k:∀ b u,h.get? b=some u->h'.get? b=some u)(hp:h.objs.size<=a)(hn:H a=none):Un fs ex H (upd H a o) h h' where
 keep:=fun b u q _ _ _=>k b u q
 slot:=fun b u q _ _ _=>⟨u.slots,k b u q⟩
 free:=fun b u q n _=>by rw [zW (Nat.ne_of_lt (Nat.lt_of_lt_of_le (Heap.lt_size q) hp))];exact n
 there:=fun b u q _=>⟨u,k b u q⟩
 tups:=fun b xs q=>by rw [zW (zbu q hn)];exact q
 frzs:=fun b u xs q=>by rw [zW (zbu q hn)];exact q
 tbls:=fun b ps q=>⟨#[],by rw [zW (zbu q hn),q];simp⟩
theorem Un.write (mu:Mut (H x))(he:e=x\/H e=some (.own x))(k:∀ b u,b≠e->h.get? b=some u->h'.get? b=some u)(heo:∃ u,h'.get? e=some u):Un fs ex H (upd H x o) h h':=by
 have hx:∀ b,H b=none->b≠x:=fun b n z=>by subst z;rw [n] at mu;exact mu
 have hb:∀ b,H b=none->b≠e:=fun b n z=>by
  subst z
  rcases he with r | r
  ·exact hx b n r
  ·rw [n] at r;cases r
 have hm:∀ b u,H b=some u->¬ Mut (some u)->b≠x:=fun b u q nm z=>by subst z;rw [q] at mu;exact nm mu
 refine⟨fun b u q n _ _=>k b u (hb b n) q,fun b u q n _ _=>⟨u.slots,k b u (hb b n) q⟩,fun b u q n _=>by rw [zW (hx b n)];exact n,fun b u q _=>?_,
  fun b xs q=>by rw [zW (hm b _ q fun z=>z)];exact q,fun b u xs q=>by rw [zW (hm b _ q fun z=>z)];exact q,fun b ps q=>⟨#[],by rw [zW (hm b _ q fun z=>z),q];simp⟩⟩
 by_cases hbe:b=e
 ·subst hbe;exact heo
 ·exact⟨u,k b u hbe q⟩
end
def trk (h:Heap)(H:Hp):List Addr:=(List.range h.objs.size).filter fun a=>(H a).isSome
def zgj (h:Heap)(H:Hp):Heap:=PySem.W.hideAll h (trk h H)
theorem zov (h:Heap)(H:Hp):(zgj h H).objs.size=h.objs.size:=PySem.W.hideAll_size _ _
theorem zqt {h:Heap}{H:Hp}{b:Addr}{o:Obj}(e:h.get? b=some o)(n:H b=none):(zgj h H).get? b=some o :=
 PySem.W.hideAll_get _ e fun hm=>by
  have q:(H b).isSome=true:=(List.mem_filter.mp hm).2
  rw [n] at q;simp at q
theorem zrD {h:Heap}{H:Hp}{b:Addr}{o:Obj}(e:(zgj h H).get? b=some o):h.get? b=some o/\H b=none:=by
 have e':h.get? b=some o:=PySem.W.of_hideAll (trk h H) e
 refine⟨e',?_⟩
 cases q:H b with
 | none=>rfl
 | some x =>
  have hm:b∈trk h H:=List.mem_filter.mpr ⟨List.mem_range.mpr (Heap.lt_size e'),by simp [q]⟩
  have z:(zgj h H).get? b=none:=PySem.W.hideAll_none (trk h H) hm
  rw [z] at e;cases e
def zrR (g h:Heap)(L:Addr):List (Addr×Obj):=(List.range h.objs.size).filterMap fun a=>if a=L\/(g.get? a).isSome=true then none else (h.get? a).map fun o=>(a,o)
def rest (g h:Heap)(L d:Addr):List (Addr×Obj):=(zrR g h L).filter fun p=>decide (p.1≠d)
end L2
namespace L2
open PySem PySem.Spec PyProof.Rows
structure Mod (K:PySem.W.Frag)(mg:Str->Option Value)(base:Heap):Prop where
 kin:K.In base
 glob:base.Ns mainGlobals mg
 blt:∃ mb,base.Ns builtinsNs mb/\∀ x:Str,x≠"__name__"->mb x=bootBuiltins x
 nolimit:base.NoLimit
/-- the context: a def's body (or a comprehension's block) running. base: fixed through the whole law; s₀, H₀: the entry; outer: the frames whose slots others may change (a def's callers); stack: all frames that run;
   ex: iterators that were made ahead of the entry and are walked here (a comprehension's);fn: the names whose cells were made at the entry (a def: all;a comprehension's block: its own);calm: not within an except suite;pn: pins that every state bears;xe: what is wanted of an exception that leaves the code -/
structure Cx where
 prog:Program
 w:World
 K:PySem.W.Frag
 mg:Str->Option Value
 base:Heap
 A:Around
 N:List Str
 s₀:Shared
 H₀:Hp
 env:Env
 outer:List Env
 stack:List Env
 ex:List Addr
 fn:Str->Bool
 calm:Bool
 pn:List (Addr×Obj)
 xe:Value->Shared->Prop
def frs (l:List Env):List Addr:=l.filterMap (·.frame)
abbrev Cx.fs (X:Cx):List Addr:=frs X.outer
def Vis (sc:Scope)(x:Str):Prop:=sc.names.lookup x=some .local\/sc.names.lookup x=some .cell\/sc.names.lookup x=some .free
def Loc (sc:Scope)(x:Str):Prop:=sc.names.lookup x=some .local\/sc.names.lookup x=some .cell
def Look (env:Env)(h:Heap)(m:Str->Option Value)(x:Str)(u:Value):Prop :=
 (env.kindOf x=some .local/\m x=some u)\/((env.kindOf x=some .cell\/env.kindOf x=some .free)/\∃ c,env.cells.lookup x=some c/\h.IsCell c (some u))
structure Cx.Ok (X:Cx):Prop where
 mod:Mod X.K X.mg X.base
 kind:X.env.scope.kind=.function
 glob:X.env.globals=mainGlobals
 blt:X.env.builtins=builtinsNs
 above:X.s₀.heap.objs.size<=X.env.locals
 inj:∀ x y c,X.env.cells.lookup x=some c->X.env.cells.lookup y=some c->x=y
 has:∀ x,(X.env.kindOf x=some .cell\/X.env.kindOf x=some .free)->∃ c,X.env.cells.lookup x=some c
 cab:∀ x c,X.fn x=true->X.env.cells.lookup x=some c->X.s₀.heap.objs.size<=c
 hd:X.calm=true->X.A.handled=none
 frames:X.A.frames=some X.stack
 stk:X.stack=X.outer\/(X.stack=X.env::X.outer/\X.env.frame=some X.env.locals)
 exf:∀ b∈X.ex,b≠X.env.locals/\∀ x c,X.env.cells.lookup x=some c->c≠b
 bs:∀ b o,X.base.get? b=some o->X.s₀.heap.get? b=some o/\X.H₀ b=none
 bsz:X.base.objs.size<=X.s₀.heap.objs.size
 noex:∀ b o,X.base.get? b=some o->b∉X.ex
 exfs:∀ b∈X.ex,b∉X.fs
 funs:X.s₀.heap.FunFrames X.base X.outer
 frf:∀ b∈X.fs,X.H₀ b=none
structure Inv (X:Cx)(pins:List (Addr×Obj))(σ:List (Option V))(H:Hp)(s:Shared):Prop where
 ok:X.Ok
 os:s.os=X.s₀.os
 bare:AllBare s.gens
 base:Un X.fs X.ex X.H₀ H X.s₀.heap s.heap
 loc:∃ m,s.heap.Ns X.env.locals m/\∀ (i:Nat) (x:Str) (v:V),X.N[i]?=some x->σ[i]?=some (some v)->Vis X.env.scope x->∃ u,RelV v u/\Look X.env s.heap m x u
 cell:∀ x c,X.env.cells.lookup x=some c->∃ v,s.heap.IsCell c v
 free:H X.env.locals=none
 freeC:∀ x c,X.env.cells.lookup x=some c->H c=none
 pin:∀ p∈X.pn++pins,s.heap.get? p.1=some p.2/\H p.1=none/\p.1≠X.env.locals/\p.1∉X.fs/\∀ v,p.2.data≠.cell v
 hok:HOk X.prog X.w H s.heap
 len:σ.length=X.N.length
section
variable {X:Cx}{pins:List (Addr×Obj)}{σ:List (Option V)}{H H':Hp}{s:Shared}{h':Heap}
theorem Cx.Ok.nofr (ok:X.Ok){b:Addr}{o:Obj}(e:X.base.get? b=some o):b∉X.fs:=fun hb=>by
 have:=(ok.funs.mem hb).1
 rw [e] at this;cases this
theorem Inv.bs (I:Inv X pins σ H s):∀ b o,X.base.get? b=some o->s.heap.get? b=some o/\H b=none:=fun b o e =>
 ⟨I.base.keep b o (I.ok.bs b o e).1 (I.ok.bs b o e).2 (I.ok.nofr e) (I.ok.noex b o e),I.base.free b o (I.ok.bs b o e).1 (I.ok.bs b o e).2 (I.ok.noex b o e)⟩
theorem Inv.bk (I:Inv X pins σ H s):∀ b o,X.base.get? b=some o->s.heap.get? b=some o:=fun b o e=>(I.bs b o e).1
theorem Inv.mod (I:Inv X pins σ H s):Mod X.K X.mg X.base:=I.ok.mod
theorem Inv.kIn (I:Inv X pins σ H s):X.K.In s.heap:=I.ok.mod.kin.keeps I.bk
theorem Inv.lt (I:Inv X pins σ H s):X.env.locals<s.heap.objs.size:=let ⟨_,hn,_⟩:=I.loc;hn.lt
theorem Inv.sz (I:Inv X pins σ H s):X.s₀.heap.objs.size<=s.heap.objs.size:=Nat.le_trans I.ok.above (Nat.le_of_lt I.lt)
theorem Inv.nofs (I:Inv X pins σ H s){a:Addr}(h:s.heap.objs.size<=a):a∉X.fs:=fun hb=>by
 obtain⟨_,o,ho,_⟩:=I.ok.funs.mem hb
 exact absurd (Nat.lt_of_lt_of_le (Heap.lt_size ho) (Nat.le_trans I.sz h)) (Nat.lt_irrefl _)
theorem Inv.cne (I:Inv X pins σ H s):∀ x c,X.env.cells.lookup x=some c->c≠X.env.locals:=fun x c e z=>by
 obtain⟨v,o,ho,hd⟩:=I.cell x c e
 obtain⟨m,⟨o',es,ep,ho',hd',_⟩,_⟩:=I.loc
 rw [z,ho'] at ho;cases ho;rw [hd'] at hd;cases hd
theorem Inv.funs (I:Inv X pins σ H s):s.heap.FunFrames X.base X.outer:=by
 have all:∀ (l:List Env),(∀ b∈frs l,b∈X.fs)->X.s₀.heap.FunFrames X.base l->s.heap.FunFrames X.base l:=by
  intro l
  induction l with
  | nil=>intro _ _;trivial
  | cons env r ih =>
   intro hs hl
   obtain⟨hk,⟨L,o,hf,hn,ho,hd⟩,hr⟩:=hl
   have hL:L∈X.fs:=hs L (by unfold frs;rw [List.filterMap_cons,hf];exact List.mem_cons_self)
   obtain⟨sl,e⟩:=I.base.slot L o ho (I.ok.frf L hL) hL fun z=>I.ok.exfs L z hL
   exact⟨hk,⟨L,_,hf,hn,e,hd⟩,ih (fun b hb=>hs b (by unfold frs;rw [List.filterMap_cons,hf];exact List.mem_cons_of_mem _ hb)) hr⟩
 exact all X.outer (fun _ hb=>hb) I.ok.funs
theorem Inv.stack (I:Inv X pins σ H s):s.heap.FunFrames X.base X.stack:=by
 rcases I.ok.stk with e | ⟨e,hf⟩
 ·rw [e];exact I.funs
 ·rw [e]
  obtain⟨m,hn,_⟩:=I.loc
  refine .cons (by rw [I.ok.kind];decide) hf hn ?_ I.funs
  exact Heap.get?_none_of_le (Nat.le_trans I.ok.bsz I.ok.above)
theorem Inv.stkSub (I:Inv X pins σ H s):∀ b∈frs X.stack,b∈X.env.locals::X.fs:=fun b hb=>by
 rcases I.ok.stk with e | ⟨e,hf⟩
 ·rw [e] at hb;exact List.mem_cons_of_mem _ hb
 ·rw [e] at hb
  unfold frs at hb
  rw [List.filterMap_cons,hf] at hb
  exact hb
theorem Inv.stkFree (I:Inv X pins σ H s):∀ b∈frs X.stack,H b=none:=fun b hb=>by
 rcases List.mem_cons.mp (I.stkSub b hb) with e | hb
 ·rw [e];exact I.free
 ·obtain⟨_,o,ho,_⟩:=I.ok.funs.mem hb
  exact I.base.free b o ho (I.ok.frf b hb) fun z=>I.ok.exfs b z hb
theorem Inv.step {g':Array GenState}{t':Nat}{d':Drawn}{ch:List Addr}(I:Inv X pins σ H s)
  (hch:∀ b∈ch,(b∈X.ex\/X.s₀.heap.objs.size<=b)/\b≠X.env.locals/\(∀ x c,X.env.cells.lookup x=some c->c≠b)/\∀ p∈X.pn++pins,p.1≠b)
  (keep:∀ b o,b≠X.env.locals->b∉X.fs->b∉ch->s.heap.get? b=some o->H b=none->h'.get? b=some o)
  (slot:∀ b o,b≠X.env.locals->b∈X.fs->b∉ch->s.heap.get? b=some o->H b=none->∃ sl,h'.get? b=some { o with slots:=sl }) (free:∀ b o,b∉ch->s.heap.get? b=some o->H b=none->H' b=none)
  (there:∀ b o,b∉ch->s.heap.get? b=some o->∃ o',h'.get? b=some o')
  (tups:∀ b xs,H b=some (.tup xs)->H' b=some (.tup xs)) (frzs:∀ b o u,H b=some (.frz o u)->H' b=some (.frz o u)) (tbls:∀ b ps,H b=some (.tbl ps)->∃ more,H' b=some (.tbl (ps++more)))
  (ns:∀ m,s.heap.Ns X.env.locals m->h'.Ns X.env.locals m) (hok:HOk X.prog X.w H' h') (hg:AllBare g') :
  Inv X pins σ H' { s with heap:=h',gens:=g',drawn:=d',toks:=t' }:=by
 have neL:∀ b o,X.s₀.heap.get? b=some o->b≠X.env.locals:=fun b o e=>Nat.ne_of_lt (Nat.lt_of_lt_of_le (Heap.lt_size e) I.ok.above)
 have neC:∀ b o,X.s₀.heap.get? b=some o->b∉X.ex->b∉ch:=fun b o e hx hb=>by
  rcases (hch b hb).1 with z | z
  ·exact hx z
  ·exact absurd (Nat.lt_of_lt_of_le (Heap.lt_size e) z) (Nat.lt_irrefl _)
 have cellK:∀ x c,X.env.cells.lookup x=some c->∀ v,s.heap.IsCell c v->h'.IsCell c v:=fun x c e v ⟨o,ho,hd⟩=>by
  have nch:c∉ch:=fun z=>(hch c z).2.2.1 x c e rfl
  by_cases hc:c∈X.fs
  ·obtain⟨sl,q⟩:=slot c o (I.cne x c e) hc nch ho (I.freeC x c e)
   exact⟨_,q,hd⟩
  ·exact⟨o,keep c o (I.cne x c e) hc nch ho (I.freeC x c e),hd⟩
 refine⟨I.ok,I.os,hg,⟨fun b o e n hb hx=>?_,fun b o e n hb hx=>?_,fun b o e n hx=>?_,fun b o e hx=>?_,fun b xs e=>tups b xs (I.base.tups b xs e),fun b o xs e=>frzs b o xs (I.base.frzs b o xs e),fun b ps e=>?_⟩,?_,fun x c e=>?_,?_,fun x c e=>?_,fun p hp=>?_,hok,I.len⟩
 ·exact keep b o (neL b o e) hb (neC b o e hx) (I.base.keep b o e n hb hx) (I.base.free b o e n hx)
 ·obtain⟨sl,e1⟩:=I.base.slot b o e n hb hx
  obtain⟨sl',e2⟩:=slot b _ (neL b o e) hb (neC b o e hx) e1 (I.base.free b o e n hx)
  exact⟨sl',e2⟩
 ·obtain⟨o',e1⟩:=I.base.there b o e hx
  exact free b o' (neC b o e hx) e1 (I.base.free b o e n hx)
 ·obtain⟨o',e1⟩:=I.base.there b o e hx
  exact there b o' (neC b o e hx) e1
 ·obtain⟨m1,e1⟩:=I.base.tbls b ps e
  obtain⟨m2,e2⟩:=tbls b _ e1
  exact⟨m1++m2,by rw [e2,Array.append_assoc]⟩
 ·obtain⟨m,hn,hl⟩:=I.loc
  refine⟨m,ns m hn,fun i x v e1 e2 e3=>?_⟩
  obtain⟨u,r,l⟩:=hl i x v e1 e2 e3
  refine⟨u,r,?_⟩
  rcases l with l | ⟨k,c,e,z⟩
  ·exact .inl l
  ·exact .inr ⟨k,c,e,cellK x c e _ z⟩
 ·obtain⟨v,z⟩:=I.cell x c e
  exact⟨v,cellK x c e v z⟩
 ·obtain⟨m,⟨o,_,_,ho,_⟩,_⟩:=I.loc
  exact free _ o (fun z=>(hch _ z).2.1 rfl) ho I.free
 ·obtain⟨v,o,ho,hd⟩:=I.cell x c e
  exact free c o (fun z=>(hch c z).2.2.1 x c e rfl) ho (I.freeC x c e)
 ·obtain⟨e,n,ne,nf,d⟩:=I.pin p hp
  have nch:p.1∉ch:=fun z=>(hch p.1 z).2.2.2 p hp rfl
  exact⟨keep p.1 p.2 ne nf nch e n,free p.1 p.2 nch e n,ne,nf,d⟩
theorem Inv.un {t':Nat}(I:Inv X pins σ H s)(u:Un X.fs [] H H' s.heap h')(hok:HOk X.prog X.w H' h'):Inv X pins σ H' { s with heap:=h',toks:=t' }:=by
 obtain⟨m,⟨o,es,ep,ho,r⟩,_⟩:=id I.loc
 obtain⟨sl,hL⟩:=u.any ho I.free (by simp)
 exact I.step (g':=s.gens) (d':=s.drawn) (ch:=[]) (fun _ z=>nomatch z) (fun b o _ hb _ e n=>u.keep b o e n hb (by simp)) (fun b o _ hb _ e n=>u.slot b o e n hb (by simp)) (fun b o _ e n=>u.free b o e n (by simp)) (fun b o _ e=>u.there b o e (by simp)) u.tups u.frzs u.tbls (fun m' hm=>by
  obtain⟨o',es',ep',ho',r'⟩:=hm
  rw [ho] at ho';cases ho'
  exact⟨_,es',ep',hL,r'⟩) hok I.bare
theorem Inv.call {g':Array GenState}{t':Nat}{d':Drawn}{ch:List Addr}(I:Inv X pins σ H s)(u:Un (frs X.stack) ch H H' s.heap h')(hok:HOk X.prog X.w H' h')(hg:AllBare g')
  (hch:∀ b∈ch,(b∈X.ex\/X.s₀.heap.objs.size<=b)/\b≠X.env.locals/\(∀ x c,X.env.cells.lookup x=some c->c≠b)/\∀ p∈X.pn++pins,p.1≠b) :
  Inv X pins σ H' { s with heap:=h',gens:=g',drawn:=d',toks:=t' }:=by
 obtain⟨m,⟨o,es,ep,ho,r⟩,_⟩:=id I.loc
 obtain⟨sl,hL⟩:=u.any ho I.free fun z=>(hch _ z).2.1 rfl
 exact I.step (ch:=ch) hch (fun b o hL hb hc e n=>u.keep b o e n (fun z=>(List.mem_cons.mp (I.stkSub b z)).elim hL hb) hc) (fun b o _ _ hc e n=>u.any e n hc) (fun b o hc e n=>u.free b o e n hc) (fun b o hc e=>u.there b o e hc) u.tups u.frzs u.tbls (fun m' hm=>by
  obtain⟨o',es',ep',ho',r'⟩:=hm
  rw [ho] at ho';cases ho'
  exact⟨_,es',ep',hL,r'⟩) hok hg
theorem Inv.turned {t':Nat}{it:Addr}(I:Inv X pins σ H s)(k:∀ b o,b≠it->s.heap.get? b=some o->h'.get? b=some o)(hn:H it=none)(hL:it≠X.env.locals)
  (h1:it∈X.ex\/X.s₀.heap.objs.size<=it) (h2:∀ x c,X.env.cells.lookup x=some c->c≠it) (h3:∀ p∈X.pn++pins,p.1≠it):Inv X pins σ H { s with heap:=h',toks:=t' }:=by
 have nit:∀ b u,H b=some u->b≠it:=fun b u e z=>by rw [z,hn] at e;cases e
 refine I.step (g':=s.gens) (d':=s.drawn) (ch:=[it]) (fun b hb=>?_) (fun b o _ _ hc e _=>k b o (fun z=>hc (by simp [z])) e) (fun b o _ _ hc e _=>⟨o.slots,k b o (fun z=>hc (by simp [z])) e⟩) (fun _ _ _ _ n=>n)
  (fun b o hc e=>⟨o,k b o (fun z=>hc (by simp [z])) e⟩) (fun _ _ e=>e) (fun _ _ _ e=>e) (fun b ps e=>⟨#[],by rw [e];simp⟩) (fun m hm=>?_) (fun b u e=>?_) I.bare
 ·have e:b=it:=by simpa using hb
  subst e
  exact⟨h1,hL,h2,h3⟩
 ·obtain⟨o,es,ep,ho,r⟩:=hm
  exact⟨o,es,ep,k _ o (Ne.symm hL) ho,r⟩
 ·refine (I.hok b u e).stay (fun c v hc q=>k c v ?_ q) (fun _ q=>q) fun _ _ q=>q
  rcases hc with z | z
  ·rw [z];exact nit b u e
  ·exact nit c _ z
theorem Inv.tok (I:Inv X pins σ H s)(t:Nat):Inv X pins σ H { s with toks:=t }:=I.un (h':=s.heap) (t':=t) Un.refl I.hok
theorem Inv.kept {t':Nat}(I:Inv X pins σ H s)(k:∀ b u,s.heap.get? b=some u->h'.get? b=some u):Inv X pins σ H { s with heap:=h',toks:=t' }:=I.un (Un.kept k) (I.hok.kept k)
theorem Inv.laid {a:Addr}{o:HO}{t':Nat}(I:Inv X pins σ H s)(k:∀ b u,s.heap.get? b=some u->h'.get? b=some u)(hp:s.heap.objs.size<=a)(new:zbc X.prog X.w (upd H a o) h' a o) :
  Inv X pins σ (upd H a o) { s with heap:=h',toks:=t' }:=I.un (Un.laid k hp (I.hok.fresh hp)) (I.hok.laid k hp new)
theorem Inv.write {x e:Addr}{o:HO}{t':Nat}(I:Inv X pins σ H s)(mu:Mut (H x))(he:e=x\/H e=some (.own x))(k:∀ b u,b≠e->s.heap.get? b=some u->h'.get? b=some u)(heo:∃ u,h'.get? e=some u)
  (new:zbc X.prog X.w (upd H x o) h' x o):Inv X pins σ (upd H x o) { s with heap:=h',toks:=t' }:=I.un (Un.write mu he k heo) (I.hok.write mu he k heo new)
theorem Inv.weak {σ':List (Option V)}(I:Inv X pins σ H s)(hl:σ'.length=σ.length)(w:∀ (i:Nat) v,σ'[i]?=some (some v)->σ[i]?=some (some v)):Inv X pins σ' H s :=
 ⟨I.ok,I.os,I.bare,I.base,let ⟨m,hn,hl'⟩:=I.loc;⟨m,hn,fun i x v e1 e2 e3=>hl' i x v e1 (w i v e2) e3⟩,I.cell,I.free,I.freeC,I.pin,I.hok,hl.trans I.len⟩
theorem Inv.pins_of {pins':List (Addr×Obj)}(I:Inv X pins σ H s)(h:∀ p∈pins',s.heap.get? p.1=some p.2/\H p.1=none/\p.1≠X.env.locals/\p.1∉X.fs/\∀ v,p.2.data≠.cell v):Inv X pins' σ H s :=
 ⟨I.ok,I.os,I.bare,I.base,I.loc,I.cell,I.free,I.freeC,fun p hp=>(List.mem_append.mp hp).elim (fun z=>I.pin p (List.mem_append_left _ z)) (h p),I.hok,I.len⟩
theorem zh9 {N:List Str}(hN:N.Nodup){i j:Nat}{x:Str}(a:N[i]?=some x)(b:N[j]?=some x):i=j:=by
 obtain⟨h1,e1⟩:=List.getElem?_eq_some_iff.mp a
 obtain⟨h2,e2⟩:=List.getElem?_eq_some_iff.mp b
 exact (List.getElem_inj hN).mp (e1.trans e2.symm)
theorem zjY {M:Model}{A:Around}{E:Value->Shared->Prop}{i:Nat}{x:Str}{v:V}{u:Value}{Q:Unit->Shared->Prop}(I:Inv X pins σ H s)(hN:X.N.Nodup)(hi:X.N[i]?=some x)(hx:Loc X.env.scope x)(r:RelV v u)
  (h:∀ s',Inv X pins (σ.set i (some v)) H s'->(∃ a,Heap.SameBut a s.heap s'.heap/\(a=X.env.locals\/X.env.cells.lookup x=some a))->Q () s') (hf:X.fn x=true\/X.env.scope.names.lookup x=some .local:=by first | exact .inl rfl | exact .inr rfl | assumption):wpAny M A (storeName X.env x u) Q E s:=by
 obtain⟨m,hn,hl⟩:=id I.loc
 have hcls:(X.env.scope.kind==.class||(X.env.scope.kind==.module&&X.env.locals != X.env.globals))=false:=by rw [I.ok.kind];rfl
 have hiσ:i<σ.length:=by rw [I.len];exact (List.getElem?_eq_some_iff.mp hi).1
 have cne:=I.cne
 have tracked:∀ {a:Addr} {h':Heap},(∃ o,s.heap.get? a=some o/\H a=none)->Heap.SameBut a s.heap h'->HOk X.prog X.w H h':=fun {a h'} ha hs b ob e=>by
  obtain⟨_,_,hfree⟩:=ha
  refine (I.hok b ob e).stay (fun c w' hc q=>(hs.2 c ?_).trans q) (fun _ q=>q) fun _ _ q=>q
  rintro rfl
  rcases hc with rfl | hc
  ·rw [hfree] at e;cases e
  ·rw [hfree] at hc;cases hc
 rcases hx with hk | hk
 ·refine wpAny_storeName_local hk hn (fun h' hn' hs=>?_) hcls
  obtain⟨oL,_,_,hoL,_⟩:=id hn
  refine h _ ⟨I.ok,I.os,I.bare,⟨fun b o e n hb hx=>?_,fun b o e n hb hx=>?_,I.base.free,fun b o e hx=>?_,I.base.tups,I.base.frzs,I.base.tbls⟩,⟨_,hn',fun j y v' e1 e2 e3=>?_⟩,fun y c e=>?_,I.free,I.freeC,fun p hp=>?_,tracked ⟨oL,hoL,I.free⟩ hs,by simpa using I.len⟩ ⟨_,hs,.inl rfl⟩
  ·exact (hs.2 b (Nat.ne_of_lt (Nat.lt_of_lt_of_le (Heap.lt_size e) I.ok.above))).trans (I.base.keep b o e n hb hx)
  ·obtain⟨sl,e1⟩:=I.base.slot b o e n hb hx
   exact⟨sl,(hs.2 b (Nat.ne_of_lt (Nat.lt_of_lt_of_le (Heap.lt_size e) I.ok.above))).trans e1⟩
  ·obtain⟨o',e1⟩:=I.base.there b o e hx
   exact⟨o',(hs.2 b (Nat.ne_of_lt (Nat.lt_of_lt_of_le (Heap.lt_size e) I.ok.above))).trans e1⟩
  ·by_cases hj:j=i
   ·subst hj
    rw [hi] at e1;cases e1
    rw [List.getElem?_set_self hiσ] at e2
    cases e2
    exact⟨u,r,.inl ⟨hk,by simp⟩⟩
   ·rw [List.getElem?_set_ne (Ne.symm hj)] at e2
    obtain⟨u',r',q⟩:=hl j y v' e1 e2 e3
    refine⟨u',r',?_⟩
    rcases q with ⟨k,e⟩ | ⟨k,c,e,z⟩
    ·refine .inl ⟨k,?_⟩
     have:y≠x:=fun e=>hj (zh9 hN e1 (e▸hi))
     simp [this,e]
    ·exact .inr ⟨k,c,e,z.sameBut hs (cne y c e)⟩
  ·obtain⟨w',z⟩:=I.cell y c e
   exact⟨w',z.sameBut hs (cne y c e)⟩
  ·obtain⟨e,n,ne,nf,d⟩:=I.pin p hp
   exact⟨(hs.2 p.1 ne).trans e,n,ne,nf,d⟩
 ·have hfn:X.fn x=true:=by
   rcases hf with z | z
   ·exact z
   ·rw [z] at hk;cases hk
  obtain⟨c,hc⟩:=I.ok.has x (.inl hk)
  obtain⟨w',z⟩:=I.cell x c hc
  refine wpAny_storeName_cell I.ok.kind hk hc z (fun h' hc' hs=>?_)
  obtain⟨oc,hoc,hocd⟩:=id z
  refine h { s with heap:=h' } ⟨I.ok,I.os,I.bare,⟨fun b o e n hb hx=>?_,fun b o e n hb hx=>?_,I.base.free,fun b o e hx=>?_,I.base.tups,I.base.frzs,I.base.tbls⟩,⟨m,hn.sameBut hs (Ne.symm (cne x c hc)),fun j y v' e1 e2 e3=>?_⟩,fun y c' e=>?_,I.free,I.freeC,fun p hp=>?_,tracked ⟨oc,hoc,I.freeC x c hc⟩ hs,by simpa using I.len⟩ ⟨c,hs,.inr hc⟩
  ·exact (hs.2 b (Nat.ne_of_lt (Nat.lt_of_lt_of_le (Heap.lt_size e) (I.ok.cab x c hfn hc)))).trans (I.base.keep b o e n hb hx)
  ·obtain⟨sl,e1⟩:=I.base.slot b o e n hb hx
   exact⟨sl,(hs.2 b (Nat.ne_of_lt (Nat.lt_of_lt_of_le (Heap.lt_size e) (I.ok.cab x c hfn hc)))).trans e1⟩
  ·obtain⟨o',e1⟩:=I.base.there b o e hx
   exact⟨o',(hs.2 b (Nat.ne_of_lt (Nat.lt_of_lt_of_le (Heap.lt_size e) (I.ok.cab x c hfn hc)))).trans e1⟩
  ·by_cases hj:j=i
   ·subst hj
    rw [hi] at e1;cases e1
    rw [List.getElem?_set_self hiσ] at e2
    cases e2
    exact⟨u,r,.inr ⟨.inl hk,c,hc,hc'⟩⟩
   ·rw [List.getElem?_set_ne (Ne.symm hj)] at e2
    obtain⟨u',r',q⟩:=hl j y v' e1 e2 e3
    refine⟨u',r',?_⟩
    rcases q with q | ⟨k,c',e,z'⟩
    ·exact .inl q
    ·refine .inr ⟨k,c',e,z'.sameBut hs ?_⟩
     rintro rfl
     exact hj (zh9 hN e1 (I.ok.inj _ _ _ e hc▸hi))
  ·by_cases hcc:c'=c
   ·subst hcc;exact⟨_,hc'⟩
   ·obtain⟨w2,z2⟩:=I.cell y c' e
    exact⟨w2,z2.sameBut hs hcc⟩
  ·obtain⟨e,n,ne,nf,d⟩:=I.pin p hp
   refine⟨(hs.2 p.1 ?_).trans e,n,ne,nf,d⟩
   intro q
   rw [q,hoc] at e
   have q':oc=p.2:=Option.some.inj e
   exact d w' (by rw [<- q'];exact hocd)
theorem zd5 {M:Model}{A:Around}{E:Value->Shared->Prop}{i:Nat}{x:Str}{v:V}{u:Value}{Q:Unit->Shared->Prop}(I:Inv X pins σ H s)(hN:X.N.Nodup)(hi:X.N[i]?=some x)(hx:Loc X.env.scope x)(r:RelV v u)
  (h:∀ s',Inv X pins (σ.set i (some v)) H s'->Q () s') (hf:X.fn x=true\/X.env.scope.names.lookup x=some .local:=by first | exact .inl rfl | exact .inr rfl | assumption):wpAny M A (storeName X.env x u) Q E s :=
 zjY I hN hi hx r (fun s' I' _=>h s' I') hf
theorem Inv.call' {s':Shared}{ch:List Addr}(I:Inv X pins σ H s)(ho:s'.os=s.os)(u:Un (frs X.stack) ch H H' s.heap s'.heap)(hok:HOk X.prog X.w H' s'.heap)(hg:AllBare s'.gens)
  (hch:∀ b∈ch,(b∈X.ex\/X.s₀.heap.objs.size<=b)/\b≠X.env.locals/\(∀ x c,X.env.cells.lookup x=some c->c≠b)/\∀ p∈X.pn++pins,p.1≠b):Inv X pins σ H' s':=by
 obtain⟨h',g',d',t',o'⟩:=s'
 have e:o'=s.os:=ho
 subst e
 exact I.call (g':=g') (t':=t') (d':=d') u hok hg hch
end
abbrev XK:=Value->Option Addr->Hp->Prop
abbrev St:=List (Option V)
abbrev VK:=V->Hp->Prop
abbrev TE:=St->Hp->VK->Prop
abbrev TT:=St->Hp->(Bool->Hp->Prop)->Prop
abbrev TA:=St->Hp->(List V->Hp->Prop)->Prop
structure Ends where
 nx:St->Hp->Prop
 rt:VK
 bk:St->Hp->Prop:=fun _ _=>False
 ct:St->Hp->Prop:=fun _ _=>False
abbrev TS:=Ends->St->Hp->Prop
def EP (X:Cx)(pins:List (Addr×Obj))(σ:St)(Q:VK)(u:Value)(s':Shared):Prop:=∃ v H',Inv X pins σ H' s'/\RelV v u/\Q v H'
def TP (X:Cx)(pins:List (Addr×Obj))(σ:St)(Q:Bool->Hp->Prop)(b:Bool)(s':Shared):Prop:=∃ H',Inv X pins σ H' s'/\Q b H'
def AP (X:Cx)(pins:List (Addr×Obj))(σ:St)(Q:List V->Hp->Prop)(us:List Value)(s':Shared):Prop:=∃ vs H',Inv X pins σ H' s'/\Vals vs us/\Q vs H'
def SP (X:Cx)(pins:List (Addr×Obj))(D:Ends)(f:Flow)(s':Shared):Prop :=
 match f with
 | .next=>∃ σ' H',Inv X pins σ' H' s'/\D.nx σ' H'
 | .brk=>∃ σ' H',Inv X pins σ' H' s'/\D.bk σ' H'
 | .cont=>∃ σ' H',Inv X pins σ' H' s'/\D.ct σ' H'
 | .ret u=>∃ v σ' H',Inv X pins σ' H' s'/\RelV v u/\D.rt v H'
def PE (X:Cx)(e:Expr)(t:TE):Prop :=
 ∀ (pins:List (Addr×Obj)) (s:Shared) (σ:St) (H:Hp) (Q:VK),Inv X pins σ H s->t σ H Q->wpAny (model X.prog X.w) X.A (eval e X.env) (EP X pins σ Q) X.xe s
def PT (X:Cx)(e:Expr)(t:TT):Prop :=
 ∀ (pins:List (Addr×Obj)) (s:Shared) (σ:St) (H:Hp) (Q:Bool->Hp->Prop),Inv X pins σ H s->t σ H Q->wpAny (model X.prog X.w) X.A (isTrue e X.env (eval e X.env)) (TP X pins σ Q) X.xe s
def PW (X:Cx)(e:Expr)(t:TT):Prop :=
 ∀ (whole:Sem Value) (pins:List (Addr×Obj)) (s:Shared) (σ:St) (H:Hp) (Q:Bool->Hp->Prop),Inv X pins σ H s->t σ H Q->wpAny (model X.prog X.w) X.A (isTrue e X.env whole) (TP X pins σ Q) X.xe s
def PA (X:Cx)(es:List Expr)(t:TA):Prop :=
 ∀ (pos:Pos) (pins:List (Addr×Obj)) (s:Shared) (σ:St) (H:Hp) (Q:List V->Hp->Prop),Inv X pins σ H s->t σ H Q->wpAny (model X.prog X.w) X.A (spliced (backTo pos (starEach es X.env))) (AP X pins σ Q) X.xe s
def PS (X:Cx)(st:Stmt)(t:TS):Prop :=
 ∀ (pins:List (Addr×Obj)) (s:Shared) (σ:St) (H:Hp) (D:Ends),Inv X pins σ H s->t D σ H->wpAny (model X.prog X.w) X.A (exec st X.env) (SP X pins D) X.xe s
def PSs (X:Cx)(st:List Stmt)(t:TS):Prop :=
 ∀ (pins:List (Addr×Obj)) (s:Shared) (σ:St) (H:Hp) (D:Ends),Inv X pins σ H s->t D σ H->wpAny (model X.prog X.w) X.A (execs st X.env) (SP X pins D) X.xe s
theorem thn {α:Type}{t:Sem α}{Q Q':α->Shared->Prop}{M:Model}{A:Around}{E:Value->Shared->Prop}{s:Shared}(h:wpAny M A t Q E s)(hQ:∀ a s,Q a s->Q' a s):wpAny M A t Q' E s:=wpAny_mono h hQ fun _ _ x=>x
end L2
namespace L2
open PySem PySem.Spec PyProof.Rows
section
variable {X:Cx}
def zpp (i:Nat):TE:=fun σ H Q=>∃ v,σ[i]?=some (some v)/\Q v H
def tC (v:V):TE:=fun _ H Q=>Q v H
theorem zoB {i:Nat}{x:Str}{pos:Pos}(hN:X.N[i]?=some x)(hv:Vis X.env.scope x)(hd:(x==("__debug__":Str))=false:=by decide)(hcd:(x==("__classdict__":Str))=false:=by decide):PE X (.Name x pos) (zpp i):=by
 intro pins s σ H Q I h
 obtain⟨v,e,h⟩:=h
 obtain⟨m,hn,hl⟩:=I.loc
 obtain⟨u,r,l⟩:=hl i x v hN e hv
 have fin:EP X pins σ Q u s:=⟨v,H,I,r,h⟩
 rcases l with ⟨hk,hm⟩ | ⟨hk,c,hc,hcell⟩
 ·exact wpAny_Name (wpAny_loadName_local I.ok.kind hk hn hm fin) hd
 ·rcases hk with hk | hk
  ·exact wpAny_Name (wpAny_loadName_cell I.ok.kind hk hc hcell fin) hd
  ·exact wpAny_Name (wpAny_loadName_free I.ok.kind hk hc hcell fin hcd) hd
theorem zk8 {i j pos}:PE X (.Constant (.int i) j pos) (tC (.int i)):=fun _ _ _ H _ I h=>wpAny_Constant_int ⟨.int i,H,I.tok _,⟨_,rfl⟩,h⟩
theorem zuW {b j pos}:PE X (.Constant (.bool b) j pos) (tC (.bl b)):=fun _ _ _ H _ I h=>Constant_bool ⟨.bl b,H,I,rfl,h⟩
theorem zt7 {j pos}:PE X (.Constant .none j pos) (tC .non):=fun _ _ _ H _ I h=>Constant_none ⟨.non,H,I,rfl,h⟩
theorem ztF {x j pos}:PE X (.Constant (.str x) j pos) (tC (.str x)):=fun _ _ _ H _ I h=>Calls.Constant_str ⟨.str x,H,I.tok _,⟨_,rfl⟩,h⟩
def Gl (X:Cx)(x:Str):Prop:=X.env.kindOf x=some .globalImplicit
theorem zd0 {E:Value->Shared->Prop}{pins:List (Addr×Obj)}{s:Shared}{σ:St}{H:Hp}{x:Str}{u:Value}{pos:Pos}{Q:Value->Shared->Prop}(I:Inv X pins σ H s)(hg:Gl X x)(hm:X.mg x=some u)(h:Q u s)
  (hd:(x==("__debug__":Str))=false:=by decide):wpAny (model X.prog X.w) X.A (eval (.Name x pos) X.env) Q E s :=
 Calls.Name_function_global I.ok.kind hg (Calls.loadGlobal_global (by rw [I.ok.glob];exact I.mod.glob.keeps I.bk) hm h) hd
theorem zcw {E:Value->Shared->Prop}{pins:List (Addr×Obj)}{s:Shared}{σ:St}{H:Hp}{x:Str}{u:Value}{pos:Pos}{Q:Value->Shared->Prop}(I:Inv X pins σ H s)(hg:Gl X x)(hm:X.mg x=none)(hv:bootBuiltins x=some u)(h:Q u s)
  (hn:x≠"__name__":=by decide) (hd:(x==("__debug__":Str))=false:=by decide):wpAny (model X.prog X.w) X.A (eval (.Name x pos) X.env) Q E s:=by
 obtain⟨mb,h1,h2⟩:=I.mod.blt
 exact Calls.Name_function_global I.ok.kind hg (Calls.loadGlobal_builtin (by rw [I.ok.glob];exact I.mod.glob.keeps I.bk) hm (by rw [I.ok.blt];exact h1.keeps I.bk) ((h2 x hn).trans hv) h) hd
theorem zmv {x:Str}{v:V}{u:Value}{pos:Pos}(hg:Gl X x)(hm:X.mg x=some u)(r:RelV v u)(hd:(x==("__debug__":Str))=false:=by decide):PE X (.Name x pos) (tC v) :=
 fun _ _ _ H _ I h=>zd0 I hg hm ⟨v,H,I,r,h⟩ hd
theorem zrd {x:Str}{v:V}{u:Value}{pos:Pos}(hg:Gl X x)(hm:X.mg x=none)(hv:bootBuiltins x=some u)(r:RelV v u)(hn:x≠"__name__":=by decide)(hd:(x==("__debug__":Str))=false:=by decide):PE X (.Name x pos) (tC v) :=
 fun _ _ _ H _ I h=>zcw I hg hm hv ⟨v,H,I,r,h⟩ hn hd
variable {a b:Expr}{ta tb:TE}{pos:Pos}
def tB (t:TE):TT:=fun σ H Q=>t σ H fun x H1=>∃ c,x=.bl c/\Q c H1
theorem ztl {e:Expr}{t:TE}(h:PE X e t)(he:∀ whole,isTrue e X.env whole=(do let v <- whole;standAt e.pos;holding [v] (truthy v)):=by intro _;rfl):PT X e (tB t):=by
 intro pins s σ H Q I hw
 refine isTrue_plain (thn (h pins s σ H _ I hw) fun v s1 ⟨x,H1,I1,r1,q1⟩=>?_) (he _)
 obtain⟨d,rfl,q⟩:=q1
 cases r1
 exact wpAny_truthy_bool ⟨H1,I1,q⟩
variable {tA tB':TT}{rest:List Expr}
def zv7 (t u:TT):TT:=fun σ H Q=>t σ H fun c H1=>if c=true then u σ H1 Q else Q false H1
def tOr (t u:TT):TT:=fun σ H Q=>t σ H fun c H1=>if c=true then Q true H1 else u σ H1 Q
def zwq (t:TT):TT:=fun σ H Q=>t σ H fun c H1=>Q (!c) H1
theorem zsr (ha:PT X a tA):PW X (.BoolOp .And [a] pos) tA:=by
 intro wh pins s σ H Q I h
 refine isTrue_and (thn (ha pins s σ H Q I h) fun c s1 e=>?_)
 cases c with
 | true=>exact isTrue_and_nil e
 | false=>exact e
theorem ztp (ha:PT X a tA):PW X (.BoolOp .Or [a] pos) tA:=by
 intro wh pins s σ H Q I h
 refine isTrue_or (thn (ha pins s σ H Q I h) fun c s1 e=>?_)
 cases c with
 | false=>exact isTrue_or_nil e
 | true=>exact e
theorem zsF (ha:PT X a tA)(hb:PW X (.BoolOp .And (b::rest) pos) tB'):PW X (.BoolOp .And (a::b::rest) pos) (zv7 tA tB'):=by
 intro wh pins s σ H Q I h
 refine isTrue_and (thn (ha pins s σ H _ I h) fun c s1 ⟨H1,I1,q1⟩=>?_)
 cases c with
 | true=>exact hb wh pins s1 σ H1 Q I1 q1
 | false=>exact⟨H1,I1,q1⟩
theorem zvx (ha:PT X a tA)(hb:PW X (.BoolOp .Or (b::rest) pos) tB'):PW X (.BoolOp .Or (a::b::rest) pos) (tOr tA tB'):=by
 intro wh pins s σ H Q I h
 refine isTrue_or (thn (ha pins s σ H _ I h) fun c s1 ⟨H1,I1,q1⟩=>?_)
 cases c with
 | true=>exact⟨H1,I1,q1⟩
 | false=>exact hb wh pins s1 σ H1 Q I1 q1
theorem zta (ha:PT X a tA):PT X (.UnaryOp .Not a pos) (zwq tA):=by
 intro pins s σ H Q I h
 exact isTrue_not (ha pins s σ H (fun c H1=>Q (!c) H1) I h)
def zvC (ta tb:TE):TE:=fun σ H Q=>ta σ H fun x H1=>∃ c,x=.bl c/\if c=true then tb σ H1 Q else Q (.bl false) H1
def zuM (ta:TE):TE:=fun σ H Q=>ta σ H fun x H1=>∃ c,x=.bl c/\Q (.bl (!c)) H1
theorem zs4 {op}{t:TE}(h:PE X a t):PE X (.BoolOp op [a] pos) t:=fun pins s σ H Q I hw=>BoolOp_one (h pins s σ H Q I hw)
theorem zs3 (ha:PE X a ta)(hb:PE X (.BoolOp .And (b::rest) pos) tb):PE X (.BoolOp .And (a::b::rest) pos) (zvC ta tb):=by
 intro pins s σ H Q I h
 refine BoolOp_and (thn (ha pins s σ H _ I h) fun v s1 ⟨x,H1,I1,r1,q1⟩=>?_)
 obtain⟨c,rfl,q1⟩:=q1
 cases r1
 refine wpAny_truthy_bool ?_
 cases c with
 | true=>exact hb pins s1 σ H1 Q I1 q1
 | false=>exact⟨.bl false,H1,I1,rfl,q1⟩
theorem zuc (ha:PE X a ta):PE X (.UnaryOp .Not a pos) (zuM ta):=by
 intro pins s σ H Q I h
 refine UnaryOp_ (thn (ha pins s σ H _ I h) fun v s1 ⟨x,H1,I1,r1,q1⟩=>?_)
 obtain⟨c,rfl,q1⟩:=q1
 cases r1
 exact not_of (wpAny_truthy_bool ⟨.bl (!c),H1,I1,rfl,q1⟩)
end
end L2
namespace L2
open PySem PySem.Spec PyProof.Rows
def SqL (K:PySem.W.Frag)(H:Hp)(a:Addr)(xs:List V):Prop :=
 Rd H a (.lst xs) \/
  ∃ (o:Obj) (its:Array Value) (n:Nat),K.lookup a=some o/\o.cls=.type "list"/\o.dict=none/\o.data=.seq its n/\its.size<=sizeLine/\Vals xs its.toList
def SqT (K:PySem.W.Frag)(H:Hp)(a:Addr)(xs:List V):Prop :=
 Rd H a (.tup xs) \/
  ∃ (o:Obj) (its:Array Value) (n:Nat),K.lookup a=some o/\o.cls=.type "tuple"/\o.data=.seq its n/\its.size<=sizeLine/\Vals xs its.toList
def zv1:Value->Option V
 | .none=>some .non
 | .bool b=>some (.bl b)
 | .int i _=>some (.int i)
 | .str x _=>some (.str x)
 | .bytes b _=>some (.byt b)
 | .float b _=>some (.flt b)
 | .ref a=>some (.ref a)
 | .type n=>some (.ty n)
 | _=>none
theorem RelV.abs {x:V}{u:Value}(r:RelV x u):zv1 u=some x:=by
 cases x with
 | non=>cases r;rfl
 | bl _=>cases r;rfl
 | int _=>obtain⟨t,rfl⟩:=r;rfl
 | str _=>obtain⟨t,rfl⟩:=r;rfl
 | byt _=>obtain⟨t,rfl⟩:=r;rfl
 | flt _=>obtain⟨t,rfl⟩:=r;rfl
 | ref _=>cases r;rfl
 | ty _=>cases r;rfl
theorem RelV.inj {x y:V}{u:Value}(r:RelV x u)(q:RelV y u):x=y:=Option.some.inj (r.abs.symm.trans q.abs)
theorem Vals.inj:∀ {xs ys:List V} {us:List Value},Vals xs us->Vals ys us->xs=ys
 | _,_,_,.nil,.nil=>rfl
 | _,_,_,.cons r t,.cons r' t'=>by rw [r.inj r',Vals.inj t t']
section
variable {X:Cx}{pins:List (Addr×Obj)}{σ:St}{H:Hp}{s:Shared}{a:Addr}{xs ys:List V}
theorem SqL.of {K:PySem.W.Frag}(h:H a=some (.lst xs)):SqL K H a xs:=.inl (.inl h)
theorem SqT.of {K:PySem.W.Frag}(h:H a=some (.tup xs)):SqT K H a xs:=.inl (.inl h)
theorem Inv.list (I:Inv X pins σ H s)(h:SqL X.K H a xs):∃ its:List Value,Vals xs its/\PlainL s.heap a its.toArray/\xs.length<=sizeLine:=by
 rcases h with h | ⟨o,its,n,hk,hc,hd,hs,hz,r⟩
 ·obtain⟨z,its,n,r,e⟩:=h.ok I.hok
  exact⟨its,r,⟨_,n,e,rfl,rfl,rfl⟩,z⟩
 ·refine⟨its.toList,r,⟨o,n,I.kIn a o hk,hc,hd,by simpa using hs⟩,?_⟩
  have e:=r.length
  simp only [Array.length_toList] at e
  omega
theorem Inv.tuple (I:Inv X pins σ H s)(h:SqT X.K H a xs):∃ its:List Value,Vals xs its/\IsTup s.heap a its.toArray/\xs.length<=sizeLine:=by
 rcases h with h | ⟨o,its,n,hk,hc,hs,hz,r⟩
 ·obtain⟨z,its,r,p⟩:=h.ok I.hok
  exact⟨its,r,p,z⟩
 ·refine⟨its.toList,r,⟨o,I.kIn a o hk,hc,n,by simpa using hs⟩,?_⟩
  have e:=r.length
  simp only [Array.length_toList] at e
  omega
theorem Inv.list_inj (I:Inv X pins σ H s)(h:SqL X.K H a xs)(h':SqL X.K H a ys):xs=ys:=by
 obtain⟨its,r,⟨o,n,e,_,_,d⟩,_⟩:=I.list h
 obtain⟨its',r',⟨o',n',e',_,_,d'⟩,_⟩:=I.list h'
 rw [e] at e';cases e'
 rw [d] at d'
 injection d' with d1 _
 have:its=its':=by simpa using congrArg Array.toList d1
 subst this
 exact r.inj r'
theorem Inv.tuple_inj (I:Inv X pins σ H s)(h:SqT X.K H a xs)(h':SqT X.K H a ys):xs=ys:=by
 obtain⟨its,r,⟨o,e,_,n,d⟩,_⟩:=I.tuple h
 obtain⟨its',r',⟨o',e',_,n',d'⟩,_⟩:=I.tuple h'
 rw [e] at e';cases e'
 rw [d] at d'
 injection d' with d1 _
 have:its=its':=by simpa using congrArg Array.toList d1
 subst this
 exact r.inj r'
end
abbrev Cx.wish (X:Cx)(E:Value->Shared->Prop):Cx:={ X with xe:=E }
abbrev Cx.nox (X:Cx):Cx:=X.wish fun _ _=>False
theorem Cx.Ok.wish {X:Cx}(ok:X.Ok)(E:Value->Shared->Prop):(X.wish E).Ok :=
 ⟨ok.mod,ok.kind,ok.glob,ok.blt,ok.above,ok.inj,ok.has,ok.cab,ok.hd,ok.frames,ok.stk,ok.exf,ok.bs,ok.bsz,ok.noex,ok.exfs,ok.funs,ok.frf⟩
theorem Cx.Ok.unwish {X:Cx}{E:Value->Shared->Prop}(ok:(X.wish E).Ok):X.Ok :=
 ⟨ok.mod,ok.kind,ok.glob,ok.blt,ok.above,ok.inj,ok.has,ok.cab,ok.hd,ok.frames,ok.stk,ok.exf,ok.bs,ok.bsz,ok.noex,ok.exfs,ok.funs,ok.frf⟩
section
variable {X:Cx}{pins:List (Addr×Obj)}{σ:St}{H:Hp}{s:Shared}{E:Value->Shared->Prop}
theorem Inv.wish (I:Inv X pins σ H s)(E:Value->Shared->Prop):Inv (X.wish E) pins σ H s:=⟨I.ok.wish E,I.os,I.bare,I.base,I.loc,I.cell,I.free,I.freeC,I.pin,I.hok,I.len⟩
theorem Inv.unwish (I:Inv (X.wish E) pins σ H s):Inv X pins σ H s:=⟨I.ok.unwish,I.os,I.bare,I.base,I.loc,I.cell,I.free,I.freeC,I.pin,I.hok,I.len⟩
theorem SP.unwish {D:Ends}{f:Flow}{s':Shared}(h:SP (X.wish E) pins D f s'):SP X pins D f s':=by
 cases f with
 | next=>obtain⟨σ',H',I,q⟩:=h;exact⟨σ',H',I.unwish,q⟩
 | brk=>obtain⟨σ',H',I,q⟩:=h;exact⟨σ',H',I.unwish,q⟩
 | cont=>obtain⟨σ',H',I,q⟩:=h;exact⟨σ',H',I.unwish,q⟩
 | ret u=>obtain⟨v,σ',H',I,r,q⟩:=h;exact⟨v,σ',H',I.unwish,r,q⟩
theorem PSs.nox {st:List Stmt}{t:TS}(h:PSs X.nox st t):PSs X st t:=fun pins s σ H D I hw =>
 wpAny_mono (h pins s σ H D (I.wish _) hw) (fun _ _ q=>q.unwish) fun _ _ z=>False.elim z
end
section
variable {X:Cx}{st:Stmt}{rest:List Stmt}{t u:TS}{e:Expr}{te:TE}{pos:Pos}
def zux:TS:=fun D σ H=>D.nx σ H
def zwl (t u:TS):TS:=fun D σ H=>t { D with nx:=u D } σ H
theorem zr3:PSs X [] zux:=fun _ _ σ H _ I h=>wpAny_execs_nil ⟨σ,H,I,h⟩
theorem zpj (h1:PS X st t)(h2:PSs X rest u):PSs X (st::rest) (zwl t u):=by
 intro pins s σ H D I h
 refine wpAny_execs_cons (thn (h1 pins s σ H { D with nx:=u D } I h) fun f s1 q=>?_)
 cases f with
 | next =>
  obtain⟨σ',H',I',q⟩:=q
  exact h2 pins s1 σ' H' D I' q
 | ret v=>exact q
 | brk=>exact q
 | cont=>exact q
theorem zre (h1:PS X st t):PSs X [st] t:=by
 intro pins s σ H D I h
 refine wpAny_execs_cons (thn (h1 pins s σ H D I h) fun f s1 q=>?_)
 cases f with
 | next=>exact wpAny_execs_nil q
 | ret v=>exact q
 | brk=>exact q
 | cont=>exact q
theorem Inv.quiet {pins:List (Addr×Obj)}{σ:St}{H:Hp}{s:Shared}(I:Inv X pins σ H s):interactive X.env=false:=by simp [interactive,I.ok.kind]
def zu6 (te:TE):TS:=fun D σ H=>te σ H fun _ H1=>D.nx σ H1
theorem zry (he:PE X e te)(hs:swapsWith e none pos.line X.env=pure false:=by rfl):PS X (.Expr e pos) (zu6 te):=by
 intro pins s σ H D I h
 exact wpAny_Expr_any (thn (he pins s σ H _ I h) fun v s1 ⟨x,H1,I1,r1,q1⟩=>⟨σ,H1,I1,q1⟩) I.quiet hs
def zwE (te:TE):TS:=fun D σ H=>te σ H D.rt
theorem ztu (he:PE X e te):PS X (.Return (some e) pos) (zwE te):=by
 intro pins s σ H D I h
 exact wpAny_Return_some (thn (he pins s σ H _ I h) fun v s1 ⟨x,H1,I1,r1,q1⟩=>⟨x,σ,H1,I1,r1,q1⟩)
def zv0 (c:TT)(t u:TS):TS:=fun D σ H=>c σ H fun b H1=>if b=true then t D σ H1 else u D σ H1
theorem zvU {c:Expr}{a b:List Stmt}{tc:TT}(hc:PT X c tc)(ha:PSs X a t)(hb:PSs X b u):PS X (.If c a b pos) (zv0 tc t u):=by
 intro pins s σ H D I h
 refine wpAny_If (thn (hc pins s σ H _ I h) fun d s1 ⟨H1,I1,q1⟩=>?_)
 cases d with
 | true=>exact ha pins s1 σ H1 D I1 q1
 | false=>exact hb pins s1 σ H1 D I1 q1
def zs8:TS:=fun _ _ _=>False
theorem zpz:PS X st zs8:=fun _ _ _ _ _ _ h=>h.elim
end
abbrev TG:=V->St->Hp->(St->Hp->Prop)->Prop
abbrev TGs:=List V->St->Hp->(St->Hp->Prop)->Prop
def PG (X:Cx)(target:Expr)(t:TG):Prop :=
 ∀ (pins:List (Addr×Obj)) (s:Shared) (σ:St) (H:Hp) (v:V) (u:Value) (Q:St->Hp->Prop),Inv X pins σ H s->RelV v u->t v σ H Q ->
  wpAny (model X.prog X.w) X.A (assign target X.env u) (fun _ s'=>∃ σ' H',Inv X pins σ' H' s'/\Q σ' H') X.xe s
def PGs (X:Cx)(ts:List Expr)(t:TGs):Prop :=
 ∀ (pins:List (Addr×Obj)) (s:Shared) (σ:St) (H:Hp) (vs:List V) (us:List Value) (Q:St->Hp->Prop),Inv X pins σ H s->Vals vs us->t vs σ H Q ->
  wpAny (model X.prog X.w) X.A (assignInOrder ((assignEach ts X.env).map (·.2)) us) (fun _ s'=>∃ σ' H',Inv X pins σ' H' s'/\Q σ' H') X.xe s
abbrev zqv:=V->V->V->Hp->(Hp->Prop)->Prop
def ztJ (X:Cx)(t:zqv):Prop :=
 ∀ (pins:List (Addr×Obj)) (s:Shared) (σ:St) (H:Hp) (o i v:V) (ov iv u:Value) (Q:Hp->Prop),Inv X pins σ H s->RelV o ov->RelV i iv->RelV v u->t o i v H Q ->
  wpAny (model X.prog X.w) X.A (setItem ov iv u) (fun _ s'=>∃ H',Inv X pins σ H' s'/\Q H') X.xe s
abbrev TIp:=V->V->Hp->VK->Prop
def PIp (X:Cx)(op:Operator)(t:TIp):Prop :=
 ∀ (pins:List (Addr×Obj)) (s:Shared) (σ:St) (H:Hp) (x y:V) (v u:Value) (Q:VK),Inv X pins σ H s->RelV x v->RelV y u->t x y H Q ->
  wpAny (model X.prog X.w) X.A (inplaceOp op v u) (EP X pins σ Q) X.xe s
section
variable {X:Cx}{pos:Pos}
def zE (i:Nat):TG:=fun v σ H Q=>Q (σ.set i (some v)) H
theorem zaE {i:Nat}{x:Str}(hN:X.N.Nodup)(hi:X.N[i]?=some x)(hx:Loc X.env.scope x)(hf:X.fn x=true\/X.env.scope.names.lookup x=some .local:=by first | exact .inl rfl | exact .inr rfl | assumption):PG X (.Name x pos) (zE i):=by
 intro pins s σ H v u Q I r h
 exact wpAny_assign_Name (zd5 I hN hi hx r (fun s' I'=>⟨_,H,I',h⟩) hf)
def zc0:TGs:=fun vs σ H Q=>vs=[]/\Q σ H
def zao (t:TG)(u:TGs):TGs:=fun vs σ H Q=>∃ v r,vs=v::r/\t v σ H fun σ' H'=>u r σ' H' Q
theorem zhT:PGs X [] zc0:=by
 intro pins s σ H vs us Q I r h
 obtain⟨e,h⟩:=h
 subst e
 cases r
 exact assignInOrder_nil ⟨σ,H,I,h⟩
theorem zcI {e:Expr}{es:List Expr}{t:TG}{u:TGs}(h1:PG X e t)(h2:PGs X es u)
  (hs:(assignEach (e::es) X.env).map (·.2)=assign e X.env::(assignEach es X.env).map (·.2):=by rfl):PGs X (e::es) (zao t u):=by
 intro pins s σ H vs us Q I r h
 obtain⟨v,vr,e1,h⟩:=h
 subst e1
 cases r with
 | cons r rr =>
  rw [hs]
  refine assignInOrder_cons (thn (h1 pins s σ H _ _ _ I r h) fun _ s1 ⟨σ1,H1,I1,q1⟩=>?_)
  exact h2 pins s1 σ1 H1 _ _ Q I1 rr q1
def zc2 (K:PySem.W.Frag)(n:Nat)(t:TGs):TG:=fun v σ H Q=>∃ a xs,v=.ref a/\SqT K H a xs/\xs.length=n/\t xs σ H Q
theorem ziL {es:List Expr}{k:Nat}{t:TGs}{n:Nat}(hc:X.calm=true)(h:PGs X es t)
  (hn:(assignEach es X.env).length=n:=by rfl) (hst:(assignEach es X.env).findIdx? (·.1)=none:=by rfl):PG X (.Tuple es k pos) (zc2 X.K n t):=by
 intro pins s σ H v u Q I r hw
 obtain⟨a,xs,e1,hq,hl,hw⟩:=hw
 subst e1
 cases r
 obtain⟨its,rv,ht,hz⟩:=I.tuple hq
 refine assign_Tuple_tuple (I.ok.hd hc) ht (by simp [hn,<- hl,rv.length]) hst fun h' hx=>?_
 have I1:Inv X pins σ H { s with heap:=h' }:=I.kept (t':=s.toks) fun b o e=>hx b o (Nat.ne_of_lt (Heap.lt_size e)) e
 exact h pins _ σ H xs _ Q I1 (by simpa using rv) hw
def zib (to ti:TE)(t:zqv):TG:=fun v σ H Q=>to σ H fun o H1=>ti σ H1 fun i H2=>t o i v H2 fun H3=>Q σ H3
theorem ztI {o i:Expr}{to ti:TE}{t:zqv}(ho:PE X o to)(hi:PE X i ti)(hs:ztJ X t)
  (ha:∀ v,assign (.Subscript o i pos) X.env v=(do
   let ov <- holding [v] (eval o X.env)
   let iv <- holding [v,ov] (eval i X.env)
   standAt pos
   holding [v,ov,iv] (setItem ov iv v)
   release [v,ov,iv] []):=by intro _;rfl):PG X (.Subscript o i pos) (zib to ti t):=by
 intro pins s σ H v u Q I r h
 rw [ha]
 refine wpAny_bind (wpAny_holding (thn (ho pins s σ H _ I h) fun ov s1 ⟨x,H1,I1,r1,q1⟩=>?_))
 refine wpAny_bind (wpAny_holding (thn (hi pins s1 σ H1 _ I1 q1) fun iv s2 ⟨y,H2,I2,r2,q2⟩=>?_))
 refine wpAny_bind (wpAny_standAt (wpAny_bind (wpAny_holding (thn (hs pins s2 σ H2 x y v ov iv u _ I2 r1 r2 r q2) fun _ s3 ⟨H3,I3,q3⟩=>?_))))
 exact wpAny_release ⟨σ,H3,I3,q3⟩
def zpb (te:TE)(g:TG):TS:=fun D σ H=>te σ H fun x H1=>g x σ H1 D.nx
theorem zsK {tg e:Expr}{te:TE}{g:TG}(he:PE X e te)(hg:PG X tg g)(hs:swapsWithSole [tg] e pos.line X.env=pure false:=by rfl)(hw:swappedStores [tg] e X.env=pure none:=by rfl)
  (h1:(assignEach [tg] X.env).map (·.2)=[assign tg X.env]:=by rfl):PS X (.Assign [tg] e pos) (zpb te g):=by
 intro pins s σ H D I h
 refine wpAny_Assign_stores (thn (he pins s σ H _ I h) fun v s1 ⟨x,H1,I1,r1,q1⟩=>?_) hs hw
 rw [h1]
 exact thn (hg pins s1 σ H1 x v _ I1 r1 q1) fun _ s2 q=>q
theorem ztq {i:Nat}{x:Str}{e:Expr}{te:TE}{pos':Pos}(hN:X.N.Nodup)(hi:X.N[i]?=some x)(hx:Loc X.env.scope x)(he:PE X e te)(hs:swapsWith e (some (.Name x pos')) pos.line X.env=pure false:=by rfl)(hf:X.fn x=true\/X.env.scope.names.lookup x=some .local:=by first | exact .inl rfl | exact .inr rfl | assumption) :
  PS X (.Assign [.Name x pos'] e pos) (zpb te (zE i)):=by
 intro pins s σ H D I h
 refine wpAny_Assign_Name (thn (he pins s σ H _ I h) fun v s1 ⟨y,H1,I1,r1,q1⟩=>?_) hs
 exact zd5 I1 hN hi hx r1 (fun s2 I2=>⟨_,H1,I2,q1⟩) hf
def zwf (i j:Nat)(ta:TA):TS:=fun D σ H=>ta σ H fun vs H1=>∃ v w,vs=[v,w]/\D.nx ((σ.set i (some v)).set j (some w)) H1
theorem ztg {i j:Nat}{x y:Str}{a b:Expr}{ta:TA}{px py pt:Pos}{kt k2 pt2}(hc:X.calm=true)(hN:X.N.Nodup)(hi:X.N[i]?=some x)(hj:X.N[j]?=some y)(hij:i≠j)
  (hx:X.env.scope.names.lookup x=some .local) (hy:X.env.scope.names.lookup y=some .local) (ha:PA X [a,b] ta)
  (hw:swappedStores [.Tuple [.Name x px,.Name y py] kt pt] (.Tuple [a,b] k2 pt2) X.env=pure (some [x,y]))
  (hs:swapsWithSole [.Tuple [.Name x px,.Name y py] kt pt] (.Tuple [a,b] k2 pt2) pos.line X.env=pure false:=by rfl) :
  PS X (.Assign [.Tuple [.Name x px,.Name y py] kt pt] (.Tuple [a,b] k2 pt2) pos) (zwf i j ta):=by
 intro pins s σ H D I h
 rw [exec_Assign_arm]
 refine wpAny_bind (wpAny_standAt ?_)
 rw [hs]
 refine wpAny_bind (wpAny_pure ?_)
 rw [if_neg (by decide)]
 refine wpAny_bind (Tuple_ (thn (ha _ pins s σ H _ I h) fun us s1 ⟨vs,H1,I1,r1,q1⟩=>?_))
 obtain⟨v,w,e1,q1⟩:=q1
 subst e1
 obtain⟨u1,u2,rfl,rv,rw'⟩:∃ u1 u2,us=[u1,u2]/\RelV v u1/\RelV w u2:=by
  cases r1 with
  | cons p q =>
   cases q with
   | cons p' q' =>
    cases q'
    exact⟨_,_,rfl,p,p'⟩
 refine wpAny_newObj_type ?_ (by show 2<=sizeLine;decide)
 have I2:Inv X pins σ H1 { s1 with heap:=s1.heap.push { cls:=.type "tuple",data:=.seq [u1,u2].toArray } }:=I1.kept (t':=s1.toks) fun b o e=>Heap.get?_push_of_some _ e
 rw [hw]
 refine wpAny_bind (wpAny_pure ?_)
 show wpAny (model X.prog X.w) X.A (do rule "assign.swapped-stores";let items <- unpackItems (.ref s1.heap.objs.size) 2 none;assignInOrder [fun v=>bindName X.env y v,fun v=>bindName X.env x v] items.reverse;pure Flow.next) _ _ _
 refine wpAny_bind (wpAny_rule (wpAny_bind (unpackItems_tuple (items:=#[u1,u2]) (I.ok.hd hc) (IsTup.new s1.heap _) fun h' hx'=>?_)))
 have I3:=I2.kept (h':=h') (t':=s1.toks) fun b o e=>hx' b o (Nat.ne_of_lt (Heap.lt_size e)) e
 show wpAny _ _ (assignInOrder [fun v=>bindName X.env y v,fun v=>bindName X.env x v] [u2,u1] >>= fun _=>pure Flow.next) _ _ _
 refine wpAny_bind (assignInOrder_cons (wpAny_bindName (zd5 I3 hN hj (.inl hy) rw' (fun s2 I4=>?_) (.inr hy))))
 refine assignInOrder_cons (wpAny_bindName (zd5 I4 hN hi (.inl hx) rv (fun s3 I5=>assignInOrder_nil (wpAny_pure ?_)) (.inr hx)))
 rw [List.set_comm _ _ (Ne.symm hij)] at I5
 exact⟨_,H1,I5,q1⟩
def zv9 (i:Nat)(te:TE)(ti:TIp):TS:=fun D σ H=>∃ x,σ[i]?=some (some x)/\te σ H fun y H1=>ti x y H1 fun z H2=>D.nx (σ.set i (some z)) H2
theorem zte {i:Nat}{x:Str}{e:Expr}{te:TE}{op:Operator}{ti:TIp}{pos':Pos}(hN:X.N.Nodup)(hi:X.N[i]?=some x)(hx:Loc X.env.scope x)(he:PE X e te)(ho:PIp X op ti)(hf:X.fn x=true\/X.env.scope.names.lookup x=some .local:=by first | exact .inl rfl | exact .inr rfl | assumption) :
  PS X (.AugAssign (.Name x pos') op e pos) (zv9 i te ti):=by
 intro pins s σ H D I h
 obtain⟨v,e1,h⟩:=h
 obtain⟨m,hn,hl⟩:=I.loc
 have vis:Vis X.env.scope x:=by rcases hx with k | k;exact .inl k;exact .inr (.inl k)
 obtain⟨u,r,l⟩:=hl i x v hi e1 vis
 refine wpAny_AugAssign_Name ?_
 have go:wpAny (model X.prog X.w) X.A (eval e X.env) (fun w s₂=>wpAny (model X.prog X.w) X.A (inplaceOp op u w) (fun r s₃=>wpAny (model X.prog X.w) X.A (storeName X.env x r) (fun _=>SP X pins D .next) X.xe s₃) X.xe s₂) X.xe s:=by
  refine thn (he pins s σ H _ I h) fun w s1 ⟨y,H1,I1,r1,q1⟩=>?_
  refine thn (ho pins s1 σ H1 v y u w _ I1 r r1 q1) fun z s2 ⟨zv,H2,I2,r2,q2⟩=>?_
  exact zd5 I2 hN hi hx r2 (fun s3 I3=>⟨_,H2,I3,q2⟩) hf
 rcases l with ⟨hk,hm⟩ | ⟨hk,c,hc,hcell⟩
 ·exact wpAny_loadName_local I.ok.kind hk hn hm go
 ·rcases hk with hk | hk
  ·exact wpAny_loadName_cell I.ok.kind hk hc hcell go
  ·rcases hx with k | k
   ·have:X.env.scope.names.lookup x=some .free:=hk
    rw [k] at this;cases this
   ·have:X.env.scope.names.lookup x=some .free:=hk
    rw [k] at this;cases this
def ipI (f:Int->Int->Int):TIp:=fun x y H Q=>∃ i j,x=.int i/\y=.int j/\Q (.int (f i j)) H
theorem ztB:PIp X .Add (ipI fun i j=>i+j):=by
 intro pins s σ H x y v u Q I r1 r2 h
 obtain⟨i,j,e1,e2,q⟩:=h
 subst e1;subst e2
 obtain⟨t,rfl⟩:=r1
 obtain⟨t',rfl⟩:=r2
 exact iadd_int ⟨.int _,H,I.tok _,⟨_,rfl⟩,q⟩
end
section
variable {X:Cx}{pos:Pos}
def zut (c:TT)(tb:TS):TS:=fun D σ H=>∃ W:Nat->St->Hp->Prop,(∃ m,W m σ H)/\∀ m σ H,W m σ H ->
 c σ H fun b H1=>if b=true then ∃ N:St->Hp->Prop,(∀ σ' H',N σ' H'->∃ m',m'<m/\W m' σ' H')/\tb { D with nx:=N,ct:=N,bk:=D.nx } σ H1 else D.nx σ H1
theorem zpU {c:Expr}{body:List Stmt}{tc:TT}{tb:TS}(hp:PassesOwn (model X.prog X.w) X.A X.env X.xe)(hc:PT X c tc)(hb:PSs X body tb):PS X (.While c body [] pos) (zut tc tb):=by
 intro pins s σ H D I h
 obtain⟨W,⟨m0,w0⟩,turn⟩:=h
 refine wpAny_While (codeAny_whileLoop (fun n s'=>∃ σ' H',Inv X pins σ' H' s'/\W n σ' H') ?_ m0 ⟨σ,H,I,w0⟩)
 rintro n s1 ⟨σ1,H1,I1,w1⟩
 refine wpAny_passesOwn hp (thn (hc pins s1 σ1 H1 _ I1 (turn n σ1 H1 w1)) fun b s2 ⟨H2,I2,q2⟩=>?_)
 cases b with
 | true =>
  obtain⟨N,hN,q2⟩:=q2
  rw [if_pos rfl]
  refine wpAny_passesOwn hp (thn (hb pins s2 σ1 H2 _ I2 q2) fun f s3 q3=>?_)
  cases f with
  | next =>
   obtain⟨σ3,H3,I3,n3⟩:=q3
   obtain⟨m',hm,w3⟩:=hN σ3 H3 n3
   exact⟨m',hm,σ3,H3,I3,w3⟩
  | cont =>
   obtain⟨σ3,H3,I3,n3⟩:=q3
   obtain⟨m',hm,w3⟩:=hN σ3 H3 n3
   exact⟨m',hm,σ3,H3,I3,w3⟩
  | brk=>exact q3
  | ret v=>exact q3
 | false =>
  rw [if_neg Bool.false_ne_true]
  exact wpAny_execs_nil ⟨σ1,H2,I2,q2⟩
end
structure It where
 go:Nat->Hp->Prop
 yld:Nat->Hp->V->Hp->Prop
 stop:Nat->Hp->Prop
def zeV (X:Cx)(pins:List (Addr×Obj))(H:Hp)(b:Addr):Prop :=
 H b=none/\b≠X.env.locals/\b∉X.fs/\(b∈X.ex\/X.s₀.heap.objs.size<=b)/\(∀ x c,X.env.cells.lookup x=some c->c≠b)/\∀ p∈X.pn++pins,p.1≠b
theorem Inv.fpOk {X:Cx}{pins:List (Addr×Obj)}{σ:St}{H H':Hp}{s:Shared}{b:Addr}(I:Inv X pins σ H s)(hb:s.heap.objs.size<=b)(hn:H' b=none):zeV X pins H' b:=by
 refine⟨hn,Nat.ne_of_gt (Nat.lt_of_lt_of_le I.lt hb),I.nofs hb,.inr (Nat.le_trans I.sz hb),fun x c e z=>?_,fun p hp z=>?_⟩
 ·obtain⟨v,q⟩:=I.cell x c e
  exact absurd (Nat.lt_of_lt_of_le q.lt (by rw [z];exact hb)) (Nat.lt_irrefl _)
 ·exact absurd (Nat.lt_of_lt_of_le (Heap.lt_size (I.pin p hp).1) (by rw [z];exact hb)) (Nat.lt_irrefl _)
structure Turn (P:Program)(w:World)(K:PySem.W.Frag)(tg:Expr)(J:It)(fp:List Addr)(it:Addr)(tn:Nat->Heap->Prop):Prop where
 mem:it∈fp
 obj:∀ i h,tn i h->∀ b∈fp,∃ o,h.get? b=some o/\∀ v,o.data≠.cell v
 keep:∀ i h h',tn i h->(∀ b∈fp,∀ o,h.get? b=some o->h'.get? b=some o)->tn i h'
 item:∀ (X:Cx),X.prog=P->X.w=w->X.K=K->X.calm=true->∀ (i:Nat) (pins:List (Addr×Obj)) (s:Shared) (σ:St) (H:Hp) (E:Value->Shared->Prop),Inv X pins σ H s->(∀ b∈fp,zeV X pins H b)->tn i s.heap->J.go i H ->
  wpAny (model P w) X.A (pyNext (.ref it)) (fun r s1=>∃ u,r=some u /\
   wpAny (model P w) X.A (letOwnedTupleGo tg (.ref it) u) (fun _ s2=>∃ x H',Inv X pins σ H' s2/\RelV x u/\J.yld i H x H'/\tn (i+1) s2.heap/\∀ b∈fp,H' b=none) E s1) E s
 done:∀ (X:Cx),X.prog=P->X.w=w->X.K=K->X.calm=true->∀ (i:Nat) (pins:List (Addr×Obj)) (s:Shared) (σ:St) (H:Hp) (E:Value->Shared->Prop),Inv X pins σ H s->(∀ b∈fp,zeV X pins H b)->tn i s.heap->J.stop i H ->
  wpAny (model P w) X.A (pyNext (.ref it)) (fun r s1=>r=none/\Inv X pins σ H s1) E s
 self:∀ (A:Around) (i:Nat) (s:Shared) (Q:Value->Shared->Prop) (E:Value->Shared->Prop),tn i s.heap->Q (.ref it) s->wpAny (model P w) A (pyIter (.ref it)) Q E s
abbrev TI:=St->Hp->(It->Hp->Prop)->Prop
def PIE (X:Cx)(pins:List (Addr×Obj))(σ:St)(tg:Expr)(R:It->Hp->Prop)(itv:Value)(s2:Shared):Prop :=
 ∃ (it:Addr) (fp:List Addr) (tn:Nat->Heap->Prop) (J:It) (H':Hp),itv=.ref it/\Inv X pins σ H' s2/\Turn X.prog X.w X.K tg J fp it tn/\tn 0 s2.heap/\(∀ b∈fp,zeV X pins H' b)/\R J H'
def PI (X:Cx)(tg iter:Expr)(wi:TI):Prop :=
 ∀ (pins:List (Addr×Obj)) (s:Shared) (σ:St) (H:Hp) (R:It->Hp->Prop),Inv X pins σ H s->wi σ H R ->
  wpAny (model X.prog X.w) X.A (eval iter X.env) (fun v s1=>wpAny (model X.prog X.w) X.A (pyIter v) (PIE X pins σ tg R) X.xe s1) X.xe s
theorem zhF {M:Model}{A:Around}{E:Value->Shared->Prop}{s:Shared}{tg:Expr}{it:Addr}{u:Value}{o:Obj}{n:String}{vs:Array Value}{Q:Unit->Shared->Prop}(ho:s.heap.get? it=some o)(hc:o.cls=.type n)(hd:o.data=.fields vs)
    (hn:["enumerate","zip","dict_itemiterator","dict_reverseitemiterator","odict_iterator","itertools.zip_longest","itertools.pairwise"].contains n=false) (hQ:Q () s):wpAny M A (letOwnedTupleGo tg (.ref it) u) Q E s:=by
  unfold letOwnedTupleGo
  cases tg<;>first
    | exact wpAny_pure hQ
    | (cases u <;> first
        | exact wpAny_pure hQ
        | (refine wpAny_bind (wpAny_load ho ?_)
           rw [hc,hd]
           show wpAny M A (if (["enumerate","zip","dict_itemiterator","dict_reverseitemiterator","odict_iterator","itertools.zip_longest","itertools.pairwise"].contains n&&vs[0]?==some (rawInt _))=true then _ else _) Q E s
           rw [if_neg (by intro h;rw [hn,Bool.false_and] at h;cases h)]
           exact wpAny_pure hQ))
def Itl (K:PySem.W.Frag)(a:Addr):It :=
 ⟨fun i H=>∃ xs x,SqL K H a xs/\xs[i]?=some x,fun i H x H'=>H'=H/\∀ xs,SqL K H a xs->xs[i]?=some x,fun i H=>∃ xs,SqL K H a xs/\xs.length<=i⟩
def Itt (K:PySem.W.Frag)(a:Addr):It :=
 ⟨fun i H=>∃ xs x,SqT K H a xs/\xs[i]?=some x,fun i H x H'=>H'=H/\∀ xs,SqT K H a xs->xs[i]?=some x,fun i H=>∃ xs,SqT K H a xs/\xs.length<=i⟩
def Itr (lo:Int)(n:Nat):It:=⟨fun i _=>i<n,fun i H x H'=>H'=H/\x=.int (lo+i),fun i _=>n<=i⟩
theorem zoc {P:Program}{w:World}{K:PySem.W.Frag}{tg:Expr}(a it:Addr):Turn P w K tg (Itl K a) [it] it (fun i h=>h.IsListIter it a i) where
 mem:=by simp
 obj:=fun i h st b hb=>by
  have e:b=it:=by simpa using hb
  subst e
  obtain⟨o,e,c,d⟩:=st
  exact⟨o,e,fun v z=>by rw [d] at z;cases z⟩
 keep:=fun i h h' st k=>st.at fun o e=>k it (by simp) o e
 item:=by
  intro X hP hw hK hc i pins s σ H E I hf st hg
  subst hP hw hK
  obtain⟨xs,x,hq,hx⟩:=hg
  obtain⟨its,rv,p,hz⟩:=I.list hq
  obtain⟨u,hu,ru⟩:=rv.get hx
  obtain⟨f0,f1,f2,f3,f4,f5⟩:=hf it (by simp)
  refine wpAny_pyNext_list_item st p.isList (x:=u) (by simpa using hu) fun h' st' sb=>?_
  have I1:Inv X pins σ H { s with heap:=h' }:=I.turned (t':=s.toks) (fun b o hb e=>(sb.2 b hb).trans e) f0 f1 f3 f4 f5
  obtain⟨o,e,c,d⟩:=id st'
  exact⟨u,rfl,zhF (s:={ s with heap:=h' }) e c d (by decide) ⟨x,H,I1,ru,⟨rfl,fun ys hy=>by rw [I.list_inj hy hq];exact hx⟩,st',fun b hb=>(hf b hb).1⟩⟩
 done:=by
  intro X hP hw hK hc i pins s σ H E I hf st hg
  subst hP hw hK
  obtain⟨xs,hq,hx⟩:=hg
  obtain⟨its,rv,p,hz⟩:=I.list hq
  obtain⟨f0,f1,f2,f3,f4,f5⟩:=hf it (by simp)
  have hl:=rv.length
  exact wpAny_pyNext_list_end (I.ok.hd hc) st p.isList (by simp;omega) fun h' eb=>⟨rfl,I.turned (t':=s.toks) (fun b o hb e=>eb b o hb e) f0 f1 f3 f4 f5⟩
 self:=fun _ _ _ _ _ st h=>wpAny_pyIter_listiter st h
theorem znd {P:Program}{w:World}{K:PySem.W.Frag}{tg:Expr}(a it:Addr):Turn P w K tg (Itt K a) [it] it (fun i h=>h.IsTupleIter it a i) where
 mem:=by simp
 obj:=fun i h st b hb=>by
  have e:b=it:=by simpa using hb
  subst e
  obtain⟨o,e,c,d⟩:=st
  exact⟨o,e,fun v z=>by rw [d] at z;cases z⟩
 keep:=fun i h h' st k=>st.at fun o e=>k it (by simp) o e
 item:=by
  intro X hP hw hK hc i pins s σ H E I hf st hg
  subst hP hw hK
  obtain⟨xs,x,hq,hx⟩:=hg
  obtain⟨its,rv,p,hz⟩:=I.tuple hq
  obtain⟨u,hu,ru⟩:=rv.get hx
  obtain⟨f0,f1,f2,f3,f4,f5⟩:=hf it (by simp)
  refine wpAny_pyNext_tuple_item st (show s.heap.IsTuple a its.toArray from p) (x:=u) (by simpa using hu) fun h' st' sb=>?_
  have I1:Inv X pins σ H { s with heap:=h' }:=I.turned (t':=s.toks) (fun b o hb e=>(sb.2 b hb).trans e) f0 f1 f3 f4 f5
  obtain⟨o,e,c,d⟩:=id st'
  exact⟨u,rfl,zhF (s:={ s with heap:=h' }) e c d (by decide) ⟨x,H,I1,ru,⟨rfl,fun ys hy=>by rw [I.tuple_inj hy hq];exact hx⟩,st',fun b hb=>(hf b hb).1⟩⟩
 done:=by
  intro X hP hw hK hc i pins s σ H E I hf st hg
  subst hP hw hK
  obtain⟨xs,hq,hx⟩:=hg
  obtain⟨its,rv,p,hz⟩:=I.tuple hq
  obtain⟨f0,f1,f2,f3,f4,f5⟩:=hf it (by simp)
  have hl:=rv.length
  exact wpAny_pyNext_tuple_end (I.ok.hd hc) st (show s.heap.IsTuple a its.toArray from p) (by simp;omega) fun h' eb=>⟨rfl,I.turned (t':=s.toks) (fun b o hb e=>eb b o hb e) f0 f1 f3 f4 f5⟩
 self:=fun _ _ _ _ _ st h=>wpAny_pyIter_tupleiter st h
theorem zi7 {P:Program}{w:World}{K:PySem.W.Frag}{tg:Expr}(it:Addr)(lo:Int)(n:Nat):Turn P w K tg (Itr lo n) [it] it (fun i h=>IsRangeIter h it (lo+(i:Nat)*1) ((n:Int)-(i:Nat)) 1) where
 mem:=by simp
 obj:=fun i h st b hb=>by
  have e:b=it:=by simpa using hb
  subst e
  exact⟨_,st,fun v z=>by
   have z':Data.fields _=Data.cell v:=z
   cases z'⟩
 keep:=fun i h h' st k=>k it (by simp) _ st
 item:=by
  intro X hP hw hK hc i pins s σ H E I hf st hg
  subst hP hw hK
  obtain⟨f0,f1,f2,f3,f4,f5⟩:=hf it (by simp)
  have W:=Walks.range (prog:=X.prog) (w:=X.w) (I.ok.hd hc) it lo 1 n
  refine W.item i s _ _ hg st fun v h' tk hv st' kk=>?_
  obtain⟨t,rfl⟩:=hv
  have I1:Inv X pins σ H { s with heap:=h',toks:=tk }:=I.turned (fun b o hb e=>kk b o (by simpa using hb) e) f0 f1 f3 f4 f5
  refine⟨_,rfl,zhF (s:={ s with heap:=h',toks:=tk }) (n:="range_iterator") st' rfl rfl (by decide) ⟨.int (lo+i),H,I1,⟨t,?_⟩,⟨rfl,rfl⟩,st',fun b hb=>(hf b hb).1⟩⟩
  rw [Int.mul_one]
 done:=by
  intro X hP hw hK hc i pins s σ H E I hf st hg
  subst hP hw hK
  obtain⟨f0,f1,f2,f3,f4,f5⟩:=hf it (by simp)
  exact wpAny_pyNext_range_end (I.ok.hd hc) st (by have:n<=i:=hg;omega) fun h' eb=>⟨rfl,I.turned (t':=s.toks) (fun b o hb e=>eb b o hb e) f0 f1 f3 f4 f5⟩
 self:=fun _ _ _ _ _ st h=>wpAny_pyIter_rangeiter st h
end L2
namespace L2
open PySem PySem.Spec PyProof.Rows
section
variable {X:Cx}{tg:Expr}
theorem zpn {pins:List (Addr×Obj)}{σ:St}{H:Hp}{s:Shared}{R:It->Hp->Prop}{E:Value->Shared->Prop}{lo hi:Int}{t u v:Tok}{tk:Nat}(I:Inv X pins σ H s)(h1:-(2 ^ 62)<=lo)(h2:lo<2 ^ 62)(h3:-(2 ^ 62)<=hi)(h4:hi<2 ^ 62)
    (q:R (Itr lo (hi-lo).toNat) H):wpAny (model X.prog X.w) X.A (pyIter (.ref s.heap.objs.size)) (PIE X pins σ tg R) E { s with heap:=s.heap.push { cls:=.type "range",data:=.fields #[.int lo t,.int hi u,.int 1 v] },toks:=tk }:=by
  refine wpAny_pyIter_range (IsRange.new ..) (small_one h1 h2 h3 h4) ?_
  have I1:Inv X pins σ H { s with heap:=s.heap.push { cls:=.type "range",data:=.fields #[.int lo t,.int hi u,.int 1 v] },toks:=tk }:=I.kept fun b o e=>Heap.get?_push_of_some _ e
  refine⟨(s.heap.push { cls:=.type "range",data:=.fields #[.int lo t,.int hi u,.int 1 v] }).objs.size,[(s.heap.push { cls:=.type "range",data:=.fields #[.int lo t,.int hi u,.int 1 v] }).objs.size],_,_,H,rfl,
    I1.kept (t':=tk) fun b o e=>Heap.get?_push_of_some _ e,zi7 _ lo (hi-lo).toNat,?_,fun b hb=>?_,q⟩
  · have e1:lo+((0:Nat):Int)*1=lo:=by simp
    have e2:(((hi-lo).toNat:Nat):Int)-((0:Nat):Int)=Builtin.Range.rangeSize lo hi 1:=by rw [rangeSize_one];split<;>omega
    show IsRangeIter _ _ (lo+((0:Nat):Int)*1) ((((hi-lo).toNat:Nat):Int)-((0:Nat):Int)) 1
    rw [e1,e2]
    exact Heap.get?_push_size _ rfl
  · have e:b=(s.heap.push { cls:=.type "range",data:=.fields #[.int lo t,.int hi u,.int 1 v] }).objs.size:=by simpa using hb
    subst e
    exact I1.fpOk (Nat.le_refl _) (I1.hok.fresh (Nat.le_refl _))
def zee (ta:TA):TI:=fun σ H R=>ta σ H fun vs H1=>∃ j:Int,vs=[.int j]/\-(2 ^ 62)<=j/\j<2 ^ 62/\R (Itr 0 j.toNat) H1
theorem znX {a:Expr}{ta:TA}{p pos:Pos}(hg:Gl X "range")(hm:X.mg "range"=none)(ha:PA X [a] ta)(hs:starEach [a] X.env=[(false,eval a X.env)]:=by rfl):PI X tg (.Call (.Name "range" p) [a] [] pos) (zee ta):=by
 intro pins s σ H R I h
 refine Call_ (zcw I hg hm boot_range (PyProof.Rows.callWith_type1 (thn (ha pos pins s σ H _ I h) fun us s1 ⟨vs,H1,I1,r1,q1⟩=>?_) hs rfl))
 obtain⟨j,e,q1,q2,q⟩:=q1
 subst e
 cases r1 with
 | cons r rr =>
  cases rr
  obtain⟨t,rfl⟩:=r
  exact call_range_1 (zpn I1 (by omega) (by omega) q1 q2 (by simpa using q))
def zwt (wi:TI)(g:TG)(tb:TS):TS:=fun D σ H=>wi σ H fun J H1=>∃ W:Nat->Nat->St->Hp->Prop,(∃ m,W 0 m σ H1)/\∀ i m σ H,W i m σ H ->
 (J.stop i H/\D.nx σ H)\/(J.go i H/\∃ N:St->Hp->Prop,(∀ σ' H',N σ' H'->∃ m',m'<m/\W (i+1) m' σ' H')/\∀ x H',J.yld i H x H'->g x σ H' fun σ2 H2=>tb { D with nx:=N,ct:=N,bk:=D.nx } σ2 H2)
def zhp (fp:List Addr)(h:Heap):List (Addr×Obj):=fp.filterMap fun b=>(h.get? b).map fun o=>(b,o)
theorem zeE {fp:List Addr}{h:Heap}{b:Addr}{o:Obj}(hb:b∈fp)(e:h.get? b=some o):(b,o)∈zhp fp h:=List.mem_filterMap.mpr ⟨b,hb,by rw [e];rfl⟩
theorem zn9 {fp:List Addr}{h:Heap}{p:Addr×Obj}(hp:p∈zhp fp h):p.1∈fp/\h.get? p.1=some p.2:=by
 obtain⟨b,hb,e⟩:=List.mem_filterMap.mp hp
 cases q:h.get? b with
 | none=>rw [q] at e;cases e
 | some o =>
  rw [q] at e
  have e':(b,o)=p:=Option.some.inj e
  subst e'
  exact⟨hb,q⟩
theorem Inv.pinned {pins:List (Addr×Obj)}{σ:St}{H:Hp}{s:Shared}{fp:List Addr}(I:Inv X pins σ H s)(hf:∀ b∈fp,zeV X pins H b)(ho:∀ b∈fp,∃ o,s.heap.get? b=some o/\∀ v,o.data≠.cell v):Inv X (pins++zhp fp s.heap) σ H s :=
 I.pins_of fun p hp=>(List.mem_append.mp hp).elim (fun z=>I.pin p (List.mem_append_right _ z)) fun z=>by
  obtain⟨hb,e⟩:=zn9 z
  obtain⟨f0,f1,f2,_⟩:=hf p.1 hb
  obtain⟨o,e',d⟩:=ho p.1 hb
  rw [e] at e';cases e'
  exact⟨e,f0,f1,f2,d⟩
theorem Inv.unpinned {pins pl:List (Addr×Obj)}{σ:St}{H:Hp}{s:Shared}(I:Inv X (pins++pl) σ H s):Inv X pins σ H s:=I.pins_of fun p hp=>I.pin p (List.mem_append_right _ (List.mem_append_left _ hp))
theorem ztc {iter:Expr}{body:List Stmt}{wi:TI}{g:TG}{tb:TS}{pos:Pos}(hp:PassesOwn (model X.prog X.w) X.A X.env X.xe)(hc:X.calm=true)(hi:PI X tg iter wi)(hg:PG X tg g)(hb:PSs X body tb)
  (hs:∀ x,foldedSetIterable iter X.env x=pure x:=by intro _;rfl):PS X (.For tg iter body [] pos) (zwt wi g tb):=by
 intro pins s σ H D I h
 refine wpAny_For (thn (hi pins s σ H _ I h) fun v s1 h1=>thn h1 fun itv s2 h2=>?_) hs
 obtain⟨it,fp,tn,J,H2,e,I2,T,st2,f2,W,⟨m0,w0⟩,turn⟩:=h2
 subst e
 have stat:∀ {H':Hp},(∀ b∈fp,H' b=none)->∀ b∈fp,zeV X pins H' b:=fun hn b hb=>⟨hn b hb,(f2 b hb).2⟩
 refine codeAny_forLoop_any (fun n s'=>∃ i σ' H',Inv X pins σ' H' s'/\tn i s'.heap/\(∀ b∈fp,H' b=none)/\W i n σ' H') ?_ m0 ⟨0,σ,H2,I2,st2,fun b hb=>(f2 b hb).1,w0⟩
 rintro n s3 ⟨i,σ3,H3,I3,st3,fr3,w3⟩
 rcases turn i n σ3 H3 w3 with ⟨stop,qn⟩ | ⟨go,N,hN,step⟩
 ·refine wpAny_passesOwn hp (thn (T.done X rfl rfl rfl hc i pins s3 σ3 H3 X.xe I3 (stat fr3) st3 stop) fun r s4 ⟨hr,I4⟩=>?_)
  subst hr
  exact wpAny_execs_nil ⟨σ3,H3,I4,qn⟩
 ·refine wpAny_passesOwn hp (thn (T.item X rfl rfl rfl hc i pins s3 σ3 H3 X.xe I3 (stat fr3) st3 go) fun r s4 ⟨u,hr,h4⟩=>?_)
  subst hr
  refine wpAny_passesOwn hp (thn h4 fun _ s5 ⟨x,H5,I5,r5,y5,st5,fr5⟩=>?_)
  have I5':=I5.pinned (stat fr5) (T.obj _ _ st5)
  refine wpAny_passesOwn hp (thn (hg _ s5 σ3 H5 x u _ I5' r5 (step x H5 y5)) fun _ s6 ⟨σ6,H6,I6,q6⟩=>?_)
  refine wpAny_passesOwn hp (thn (hb _ s6 σ6 H6 _ I6 q6) fun f s7 q7=>?_)
  have again:∀ {σ7:St} {H7:Hp},Inv X (pins++zhp fp s5.heap) σ7 H7 s7->N σ7 H7->∃ m,m<n/\∃ i σ' H',Inv X pins σ' H' s7/\tn i s7.heap/\(∀ b∈fp,H' b=none)/\W i m σ' H':=fun {σ7 H7} I7 n7=>by
   obtain⟨m',hm,w7⟩:=hN σ7 H7 n7
   refine⟨m',hm,i+1,σ7,H7,I7.unpinned,T.keep _ _ _ st5 fun b hb o e=>(I7.pin (b,o) (List.mem_append_right _ (List.mem_append_right _ (zeE hb e)))).1,fun b hb=>?_,w7⟩
   obtain⟨o,e,d⟩:=T.obj _ _ st5 b hb
   exact (I7.pin (b,o) (List.mem_append_right _ (List.mem_append_right _ (zeE hb e)))).2.1
  cases f with
  | next=>obtain⟨σ7,H7,I7,n7⟩:=q7;exact again I7 n7
  | cont=>obtain⟨σ7,H7,I7,n7⟩:=q7;exact again I7 n7
  | brk=>obtain⟨σ7,H7,I7,q7⟩:=q7;exact⟨σ7,H7,I7.unpinned,q7⟩
  | ret v=>obtain⟨x7,σ7,H7,I7,r7,q7⟩:=q7;exact⟨x7,σ7,H7,I7.unpinned,r7,q7⟩
end
end L2
namespace L2
open PySem PySem.Spec PyProof.Rows
abbrev R2:=V->V->Hp->VK->Prop
def OpR (X:Cx)(f:Value->Value->Sem Value)(r:R2):Prop :=
 ∀ (pins:List (Addr×Obj)) (s:Shared) (σ:St) (H:Hp) (x y:V) (v u:Value) (Q:VK),Inv X pins σ H s->RelV x v->RelV y u->r x y H Q ->
  wpAny (model X.prog X.w) X.A (f v u) (EP X pins σ Q) X.xe s
def UnR (X:Cx)(f:Value->Sem Value)(r:V->Hp->VK->Prop):Prop :=
 ∀ (pins:List (Addr×Obj)) (s:Shared) (σ:St) (H:Hp) (x:V) (v:Value) (Q:VK),Inv X pins σ H s->RelV x v->r x H Q ->
  wpAny (model X.prog X.w) X.A (f v) (EP X pins σ Q) X.xe s
def zaK (X:Cx)(f:Value)(r:List V->Hp->VK->Prop):Prop :=
 ∀ (pins:List (Addr×Obj)) (s:Shared) (σ:St) (H:Hp) (xs:List V) (us:List Value) (Q:VK),Inv X pins σ H s->Vals xs us->r xs H Q ->
  wpAny (model X.prog X.w) X.A (call f us) (EP X pins σ Q) X.xe s
def tOp (r:R2)(ta tb:TE):TE:=fun σ H Q=>ta σ H fun x H1=>tb σ H1 fun y H2=>r x y H2 Q
def tUn (r:V->Hp->VK->Prop)(ta:TE):TE:=fun σ H Q=>ta σ H fun x H1=>r x H1 Q
def rI (C:Int->Int->Prop)(g:Int->Int->V):R2:=fun x y H Q=>∃ i j,x=.int i/\y=.int j/\C i j/\Q (g i j) H
def rI0 (g:Int->Int->V):R2:=fun x y H Q=>∃ i j,x=.int i/\y=.int j/\Q (g i j) H
def rU (g:Int->V):V->Hp->VK->Prop:=fun x H Q=>∃ i,x=.int i/\Q (g i) H
section
variable {X:Cx}{a b c:Expr}{ta tb tc:TE}{pos:Pos}
theorem zqn (ha:PE X a ta)(hb:PE X b tb){pins:List (Addr×Obj)}{s:Shared}{σ:St}{H:Hp}{R:V->V->Hp->Prop}(I:Inv X pins σ H s)
  (h:ta σ H fun x H1=>tb σ H1 fun y H2=>R x y H2) {Q:Value->Shared->Prop} {f:Value->Value->Sem Value}
  (hf:∀ v u s2 x y H2,Inv X pins σ H2 s2->RelV x v->RelV y u->R x y H2->wpAny (model X.prog X.w) X.A (f v u) Q X.xe s2) :
  wpAny (model X.prog X.w) X.A (eval a X.env) (fun v s₁=>wpAny (model X.prog X.w) X.A (eval b X.env) (fun u s₂=>wpAny (model X.prog X.w) X.A (f v u) Q X.xe s₂) X.xe s₁) X.xe s:=by
 refine thn (ha pins s σ H _ I h) fun v s1 ⟨x,H1,I1,r1,q1⟩=>?_
 refine thn (hb pins s1 σ H1 _ I1 q1) fun u s2 ⟨y,H2,I2,r2,q2⟩=>?_
 exact hf v u s2 x y H2 I2 r1 r2 q2
theorem zqS {op:Operator}{r:R2}(ho:OpR X (binaryOp op) r)(ha:PE X a ta)(hb:PE X b tb):PE X (.BinOp a op b pos) (tOp r ta tb):=by
 intro pins s σ H Q I h
 exact wpAny_BinOp (zqn ha hb I h fun v u s2 x y H2 I2 rx ry q=>ho pins s2 σ H2 x y v u Q I2 rx ry q)
theorem zvv {op:UnaryOp}{r:V->Hp->VK->Prop}(ho:UnR X (unaryOp op) r)(ha:PE X a ta):PE X (.UnaryOp op a pos) (tUn r ta):=by
 intro pins s σ H Q I h
 exact UnaryOp_ (thn (ha pins s σ H _ I h) fun v s1 ⟨x,H1,I1,r1,q1⟩=>ho pins s1 σ H1 x v Q I1 r1 q1)
theorem opI {f:Value->Value->Sem Value}{C:Int->Int->Prop}{g:Int->Int->Int}
  (rule:∀ (i j:Int) (t u:Tok) (s:Shared) (Q:Value->Shared->Prop) (E:Value->Shared->Prop),C i j->Q (.int (g i j) s.toks) { s with toks:=s.toks+1 }->wpAny (model X.prog X.w) X.A (f (.int i t) (.int j u)) Q E s) :
  OpR X f (rI C fun i j=>.int (g i j)):=by
 intro pins s σ H x y v u Q I rx ry h
 obtain⟨i,j,rfl,rfl,hc,q⟩:=h
 obtain⟨t,rfl⟩:=rx
 obtain⟨t',rfl⟩:=ry
 exact rule i j t t' s _ _ hc ⟨.int (g i j),H,I.tok _,⟨_,rfl⟩,q⟩
theorem ztd {f:Value->Value->Sem Value}{g:Int->Int->Int}
  (rule:∀ (i j:Int) (t u:Tok) (s:Shared) (Q:Value->Shared->Prop) (E:Value->Shared->Prop),Q (.int (g i j) s.toks) { s with toks:=s.toks+1 }->wpAny (model X.prog X.w) X.A (f (.int i t) (.int j u)) Q E s) :
  OpR X f (rI0 fun i j=>.int (g i j)):=by
 intro pins s σ H x y v u Q I rx ry h
 obtain⟨i,j,rfl,rfl,q⟩:=h
 obtain⟨t,rfl⟩:=rx
 obtain⟨t',rfl⟩:=ry
 exact rule i j t t' s _ _ ⟨.int (g i j),H,I.tok _,⟨_,rfl⟩,q⟩
theorem zmG {f:Value->Value->Sem Value}{g:Int->Int->Bool}
  (rule:∀ (i j:Int) (t u:Tok) (s:Shared) (Q:Value->Shared->Prop) (E:Value->Shared->Prop),Q (.bool (g i j)) s->wpAny (model X.prog X.w) X.A (f (.int i t) (.int j u)) Q E s) :
  OpR X f (rI0 fun i j=>.bl (g i j)):=by
 intro pins s σ H x y v u Q I rx ry h
 obtain⟨i,j,rfl,rfl,q⟩:=h
 obtain⟨t,rfl⟩:=rx
 obtain⟨t',rfl⟩:=ry
 exact rule i j t t' s _ _ ⟨.bl (g i j),H,I,rfl,q⟩
def zwr (i j:Int):Prop:=0<=j/\j<=1000000/\i.natAbs<2 ^ 64
def zmW (i j:Int):Prop:=(-(2 ^ 64)<i/\i<2 ^ 64)\/(-(2 ^ 64)<j/\j<2 ^ 64)
theorem zmW.ok {i j:Int}(h:zmW i j):IntMulOk i j:=by
 rcases h with ⟨h1,h2⟩ | ⟨h1,h2⟩
 ·exact .of_left (intBits_le_64 h1 h2)
 ·exact .of_right (intBits_le_64 h1 h2)
theorem ztz:OpR X (binaryOp .Add) (rI0 fun i j=>.int (i+j)):=ztd fun _ _ _ _ _ _ _ q=>add_int q
theorem ztH:OpR X (binaryOp .Sub) (rI0 fun i j=>.int (i-j)):=ztd fun _ _ _ _ _ _ _ q=>sub_int q
theorem zrS:OpR X (binaryOp .Mod) (rI (fun _ j=>j≠0) fun i j=>.int (i.fmod j)):=opI fun _ _ _ _ _ _ _ hc q=>mod_int' hc q
theorem zs5:OpR X (binaryOp .Pow) (rI zwr fun i j=>.int (i ^ j.toNat)):=opI fun _ _ _ _ _ _ _ hc q=>pow_int_small hc.1 hc.2.1 hc.2.2 q
theorem unI {f:Value->Sem Value}{g:Int->Int}
  (rule:∀ (i:Int) (t:Tok) (s:Shared) (Q:Value->Shared->Prop) (E:Value->Shared->Prop),Q (.int (g i) s.toks) { s with toks:=s.toks+1 }->wpAny (model X.prog X.w) X.A (f (.int i t)) Q E s) :
  UnR X f (rU fun i=>.int (g i)):=by
 intro pins s σ H x v Q I rx h
 obtain⟨i,rfl,q⟩:=h
 obtain⟨t,rfl⟩:=rx
 exact rule i t s _ _ ⟨.int (g i),H,I.tok _,⟨_,rfl⟩,q⟩
theorem ztr:UnR X (unaryOp .USub) (rU fun i=>.int (-i)):=unI fun _ _ _ _ _ q=>neg_int q
end
section
variable {X:Cx}{a b c:Expr}{ta tb tc:TE}{pos:Pos}
theorem ziF {pins:List (Addr×Obj)}{σ:St}{H:Hp}{s:Shared}{Q:VK}{k k':Bool}(I:Inv X pins σ H s)(q:Q (.bl k) H)(e:k=k'):EP X pins σ Q (.bool k') s:=by
 subst e
 exact⟨.bl k,H,I,rfl,q⟩
theorem zvN:OpR X (compareOp .Lt) (rI0 fun i j=>.bl (decide (i<j))):=zmG fun _ _ _ _ _ _ _ q=>lt_int q
theorem zvj:OpR X (compareOp .LtE) (rI0 fun i j=>.bl (decide (i<=j))):=zmG fun _ _ _ _ _ _ _ q=>le_int q
theorem zuz:OpR X (compareOp .Gt) (rI0 fun i j=>.bl (decide (j<i))):=zmG fun _ _ _ _ _ _ _ q=>gt_int q
theorem zvQ:OpR X (compareOp .GtE) (rI0 fun i j=>.bl (decide (j<=i))):=zmG fun _ _ _ _ _ _ _ q=>ge_int q
theorem znJ:OpR X (compareOp .In) (fun x y H Q=>∃ i j,x=.str i/\y=.str j/\Q (.bl (!(Builtin.Str.occurrences j i 0 j.length 1).isEmpty)) H):=by
 intro pins s σ H x y v u Q I rx ry h
 obtain⟨i,j,rfl,rfl,q⟩:=h
 obtain⟨t,rfl⟩:=rx
 obtain⟨t',rfl⟩:=ry
 exact in_str (ziF I q rfl)
theorem zsI:OpR X (compareOp .Is) (fun x y H Q=>y=.non/\Q (.bl (decide (x=.non))) H):=by
  intro pins s σ H x y v u Q I rx ry h
  obtain⟨rfl,q⟩:=h
  cases ry
  refine is_none_gen (ziF I q ?_)
  cases x<;>first
    | (cases rx;rfl)
    | (obtain⟨t,rfl⟩:=rx;rfl)
theorem zq3:OpR X (compareOp .IsNot) (fun x y H Q=>y=.non/\Q (.bl (!decide (x=.non))) H):=by
  intro pins s σ H x y v u Q I rx ry h
  obtain⟨rfl,q⟩:=h
  cases ry
  refine isnot_none_gen (ziF I q ?_)
  cases x<;>first
    | (cases rx;rfl)
    | (obtain⟨t,rfl⟩:=rx;rfl)
theorem zk4:OpR X (compareOp .NotIn) (fun x y H Q=>∃ i j,x=.str i/\y=.str j/\Q (.bl (!(!(Builtin.Str.occurrences j i 0 j.length 1).isEmpty))) H):=by
 intro pins s σ H x y v u Q I rx ry h
 obtain⟨i,j,rfl,rfl,q⟩:=h
 obtain⟨t,rfl⟩:=rx
 obtain⟨t',rfl⟩:=ry
 exact notIn_str (ziF I q rfl)
theorem OpR.or {f:Value->Value->Sem Value}{r r':R2}(h:OpR X f r)(h':OpR X f r'):OpR X f (fun x y H Q=>r x y H Q\/r' x y H Q):=by
 intro pins s σ H x y v u Q I rx ry q
 rcases q with q | q
 ·exact h pins s σ H x y v u Q I rx ry q
 ·exact h' pins s σ H x y v u Q I rx ry q
theorem zoV (b:Expr){op:CmpOp}(h:op≠.In:=by decide)(h2:op≠.NotIn:=by decide):behindInMarks op b=false:=by
  have e1:(op==CmpOp.In)=false:=by cases op<;>first | rfl | exact absurd rfl h
  have e2:(op==CmpOp.NotIn)=false:=by cases op<;>first | rfl | exact absurd rfl h2
  cases b<;>simp [behindInMarks,e1,e2]
theorem zmc {op:CmpOp}{r:R2}(ho:OpR X (compareOp op) r)(ha:PE X a ta)(hb:PE X b tb)(hm:behindInMarks op b=false):PE X (.Compare a [op] [b] pos) (tOp r ta tb):=by
 intro pins s σ H Q I h
 exact wpAny_Compare1 (zqn ha hb I h fun v u s2 x y H2 I2 rx ry q=>ho pins s2 σ H2 x y v u Q I2 rx ry q) hm
def zqY (t:TE):TT:=fun σ H Q=>t σ H fun x H'=>∃ k,x=.bl k/\Q k H'
theorem zmj {op:CmpOp}{r:R2}(ho:OpR X (compareOp op) r)(ha:PE X a ta)(hb:PE X b tb)(hm:behindInMarks op b=false):PT X (.Compare a [op] [b] pos) (zqY (tOp r ta tb)):=by
 intro pins s σ H Q I h
 refine wpAny_isTrue_Compare1 (thn (ha pins s σ H _ I h) fun v s1 ⟨x,H1,I1,r1,q1⟩=>thn (hb pins s1 σ H1 _ I1 q1) fun u s2 ⟨y,H2,I2,r2,q2⟩ =>
  thn (ho pins s2 σ H2 x y v u _ I2 r1 r2 q2) fun c s3 ⟨z,H3,I3,r3,k,e,q3⟩=>?_) hm
 subst e
 cases r3
 exact wpAny_truthy_bool ⟨H3,I3,q3⟩
def znH (r r':R2)(ta tb tc:TE):TE:=fun σ H Q=>ta σ H fun x H1=>tb σ H1 fun y H2=>r x y H2 fun z H3=>∃ k,z=.bl k /\
 (if k=true then tc σ H3 fun w' H4=>r' y w' H4 Q else Q (.bl false) H3)
theorem zpG {op op':CmpOp}{r r':R2}(ho:OpR X (compareOp op) r)(ho':OpR X (compareOp op') r')(ha:PE X a ta)(hb:PE X b tb)(hc:PE X c tc)
  (hm:lastMarks [op,op'] [b,c]=false:=by with_unfolding_all rfl):PT X (.Compare a [op,op'] [b,c] pos) (zqY (znH r r' ta tb tc)):=by
 intro pins s σ H Q I h
 refine isTrue_chain (thn (ha pins s σ H _ I h) fun v s1 ⟨x,H1,I1,r1,q1⟩=>test_link (thn (hb pins s1 σ H1 _ I1 q1) fun u s2 ⟨y,H2,I2,r2,q2⟩ =>
  thn (ho pins s2 σ H2 x y v u _ I2 r1 r2 q2) fun d s3 ⟨z,H3,I3,r3,k,e,q3⟩=>?_)) hm
 subst e
 cases r3
 refine wpAny_truthy_bool ?_
 cases k with
 | false =>
  obtain⟨k',e',q'⟩:=q3
  cases e'
  exact ite_ff ⟨H3,I3,q'⟩
 | true =>
  refine ite_tt (test_last (thn (hc pins s3 σ H3 _ I3 q3) fun w' s4 ⟨z',H4,I4,r4,q4⟩=>thn (ho' pins s4 σ H4 y z' u w' _ I4 r2 r4 q4) fun d' s5 ⟨z2,H5,I5,r5,k2,e2,q5⟩=>?_))
  subst e2
  cases r5
  exact wpAny_truthy_bool ⟨H5,I5,q5⟩
theorem zfz:(sizeLine:Nat)<2 ^ 63:=by rw [sizeLine_eq];decide
theorem znF:OpR X (binaryOp .Add) (fun x y H Q=>∃ i j,x=.str i/\y=.str j/\i.length+j.length<=sizeLine/\Q (.str (i++j)) H):=by
 intro pins s σ H x y v u Q I rx ry h
 obtain⟨i,j,rfl,rfl,hz,q⟩:=h
 obtain⟨t,rfl⟩:=rx
 obtain⟨t',rfl⟩:=ry
 exact add_str (fun t' tk=>⟨.str (i++j),H,I.tok _,⟨_,rfl⟩,q⟩) hz
theorem vals1 {x:V}{us:List Value}(r:Vals [x] us):∃ u,us=[u]/\RelV x u:=by
 cases r with
 | cons r1 r2=>cases r2;exact⟨_,rfl,r1⟩
theorem vals2 {x y:V}{us:List Value}(r:Vals [x,y] us):∃ u w',us=[u,w']/\RelV x u/\RelV y w':=by
 cases r with
 | cons r1 r2 =>
  cases r2 with
  | cons r3 r4=>cases r4;exact⟨_,_,rfl,r1,r3⟩
theorem zqo:zaK X (.builtin "abs") (fun xs H Q=>∃ i,xs=[.int i]/\Q (.int (if i<0 then -i else i)) H):=by
 intro pins s σ H xs us Q I r h
 obtain⟨i,rfl,q⟩:=h
 obtain⟨u,rfl,t,rfl⟩:=vals1 r
 exact call_abs_int fun u tk=>⟨.int (if i<0 then -i else i),H,I.tok _,⟨_,rfl⟩,q⟩
theorem zn3 (hc:X.calm=true):zaK X (.builtin "max") (fun xs H Q=>∃ i j,xs=[.int i,.int j]/\Q (.int (if j > i then j else i)) H):=by
 intro pins s σ H xs us Q I r h
 obtain⟨i,j,rfl,q⟩:=h
 obtain⟨u,w',rfl,⟨t,rfl⟩,⟨t',rfl⟩⟩:=vals2 r
 refine max_two_ints (I.ok.hd hc) fun h' tk k=>⟨_,H,I.kept k,?_,q⟩
 by_cases hj:j > i
 ·rw [if_pos hj,if_pos hj];exact⟨_,rfl⟩
 ·rw [if_neg hj,if_neg hj];exact⟨_,rfl⟩
theorem zoL (hc:X.calm=true):zaK X (.builtin "min") (fun xs H Q=>∃ i j,xs=[.int i,.int j]/\Q (.int (if j<i then j else i)) H):=by
 intro pins s σ H xs us Q I r h
 obtain⟨i,j,rfl,q⟩:=h
 obtain⟨u,w',rfl,⟨t,rfl⟩,⟨t',rfl⟩⟩:=vals2 r
 refine min_two_ints (I.ok.hd hc) fun h' tk k=>⟨_,H,I.kept k,?_,q⟩
 by_cases hj:j<i
 ·rw [if_pos hj,if_pos hj];exact⟨_,rfl⟩
 ·rw [if_neg hj,if_neg hj];exact⟨_,rfl⟩
end
end L2
namespace L2
open PySem PySem.Spec PyProof.Rows
structure zjI (h:Heap)(x dx C:Addr)(mA:Str->Option Value):Prop where
 obj:h.get? x=some (PySem.W.instObj C dx)
 ns:h.Ns1 dx mA
 ne:dx≠x
theorem zor {h:Heap}{dx:Addr}{mA:Str->Option Value}(n:h.Ns1 dx mA):∃ od,h.get? dx=some od/\∀ name,PySem.W.lookIn name od=some (mA name):=by
 obtain⟨o,es,ep,ho,hd,hk,_,hm⟩:=n
 refine⟨o,ho,fun name=>?_⟩
 have e:=hm name
 unfold nsFind findBy at e
 rw [<- Array.find?_toList] at e
 unfold PySem.W.lookIn
 rw [hd]
 dsimp only
 split
 ·rename_i y q
  rw [q] at e
  exact congrArg some e
 ·rename_i q
  rw [q] at e
  have a:es.toList.any (·.refKey)=false:=by
   rw [List.any_eq_false]
   intro y hy
   obtain⟨z,t,hkey⟩:=hk y (Array.mem_toList_iff.mp hy)
   simp [DictEntry.refKey,hkey]
  have a':¬ es.toList.any (·.refKey)=true:=by rw [a];exact Bool.false_ne_true
  rw [if_neg a']
  exact congrArg some e
theorem zjI.look {h:Heap}{x dx C:Addr}{mA:Str->Option Value}(I:zjI h x dx C mA):∃ od,PySem.W.InstAt h x (PySem.W.instObj C dx) C (some od)/\∀ name,PySem.W.lookIn name od=some (mA name) :=
 let ⟨od,ho,hl⟩:=zor I.ns
 ⟨od,⟨I.obj,rfl,rfl,ho⟩,hl⟩
section
variable {prog:Program}{w:World}{A:Around}{E:Value->Shared->Prop}{s:Shared}{K:PySem.W.Frag}{x dx C f:Addr}{mA:Str->Option Value}{name:Str}{v:Value}
theorem get_map {expr:Bool}{Q:Value->Shared->Prop}(X:K.In s.heap)(I:zjI s.heap x dx C mA)(hg:PySem.W.plainGet K C name=true)(hh:PySem.W.hasDictIn K C=true)
  (ha:PySem.W.findIn K (.ref C) name=some none) (hv:mA name=some v) (hv':PySem.W.handedIn v=true) (h:Q v { s with toks:=s.toks+1 }) :
  wpAny (model prog w) A (getAttr (.ref x) name expr) Q E s:=by
 obtain⟨od,J,hl⟩:=I.look
 exact PySem.W.get_value X J (PySem.W.plainGet_of hg).1 (PySem.W.findObj_own hh ha rfl (by rw [hl,hv])) hv' h
theorem zrJ {ns:List Str}{Q:Unit->Shared->Prop}(X:K.In s.heap)(I:zjI s.heap x dx C mA)
  (hs:PySem.W.findIn K (.ref C) "__setattr__"=some (some (.builtin "object.__setattr__"))) (hp:PySem.W.plainOver K C=true) (ht:PySem.W.takerIn K C name=some none) (hh:PySem.W.hasDictIn K C=true)
  (hw:PySem.Within mA ns) (hsz:ns.length<=sizeLine)
  (h:∀ h',zjI h' x dx C (fun y=>if y=name then some v else mA y)->Heap.SameBut dx s.heap h'->Q () { s with heap:=h',toks:=s.toks+2 }) :
  wpAny (model prog w) A (setAttr (.ref x) name v) Q E s:=by
 obtain⟨od,J,hl⟩:=I.look
 refine PySem.W.set_plain X J hs (PySem.W.osa_open (s:={ s with toks:=s.toks+1 }) (r:=none) X J hp ht fun b=>?_)
 obtain⟨cd,hc,hd'⟩:=PySem.W.any_some hh
 have hx:s.heap.get? x=some ⟨.ref C,some dx,.plain,#[]⟩:=I.obj
 refine wpAny_bind (wpAny_pure (wpAny_bind (wpAny_bind (wpAny_loadPart hx (wpAny_bind (PySem.W.Looks.here (s:={ s with toks:=s.toks+1 }) (PySem.W.looks_clsIn X hc) ?_))))))
 rw [hd']
 refine wpAny_pure (a:=some dx) (wpAny_bind (wpAny_pure (wpAny_bind ?_)))
 refine wpAny_nsSet1 (s:={ s with toks:=s.toks+1 }) I.ns fun h' hn2 hs2=>?_
 obtain⟨oD,esD,epD,hoD,hdD,hcD⟩:=hn2.count (PySem.Within.cons name v hw)
 refine wpAny_bind (wpAny_lookBehind hoD (by rw [hdD];exact pastItsLine_dict (Nat.le_trans hcD (by rw [List.length_cons];omega))) ?_)
 exact wpAny_pure (h _ ⟨(hs2.2 _ (Ne.symm I.ne)).trans I.obj,hn2,I.ne⟩ hs2)
theorem zp0 {R:Result->Shared->Prop}{vs:List Value}{kw:List (Str×Value)}(X:K.In s.heap)(hm:PySem.W.makesIn K C=true)
    (hi:PySem.W.findIn K (.ref C) "__init__"=some (some (.ref f))) (hf:PySem.W.typeIn K (.ref f)=some (.type "function"))
    (h:codeAny (model prog w) (A.under (.builtin "type.__call__" ⟨.ref C::vs,kw⟩)) (.call (.ref f) ⟨.ref (s.heap.objs.size+1)::vs,kw⟩) (PySem.W.InitBack (s.heap.objs.size+1) R)
      { s with heap:=(s.heap.push PySem.W.emptyDict).push (PySem.W.instObj C s.heap.objs.size) }) :
    codeAny (model prog w) A (.call (.ref C) ⟨vs,kw⟩) R s:=by
  obtain⟨hh,g,d,t,os⟩:=s
  exact PySem.W.make_core (PySem.W.makes_of X hm) (PySem.W.looks_findIn X hi) (fun self=>PySem.W.bind_fn X self hf) (.inl rfl) h
end
def zbS (f:Str)(v:V):List (Str×V)->List (Str×V)
 | []=>[(f,v)]
 | (g,x)::r=>if g=f then (g,v)::r else (g,x)::zbS f v r
theorem zh4 (f g:Str)(v:V):∀ fs:List (Str×V),(zbS f v fs).lookup g=if g=f then some v else fs.lookup g
 | []=>by
  show List.lookup g [(f,v)]=_
  by_cases h:g=f
  ·have hb:(g==f)=true:=beq_iff_eq.mpr h
   simp only [List.lookup,hb,if_pos h]
  ·have hb:(g==f)=false:=beq_eq_false_iff_ne.mpr h
   simp only [List.lookup,hb,if_neg h]
 | (k,x)::r=>by
  have ih:=zh4 f g v r
  rw [show zbS f v ((k,x)::r)=(if k=f then (k,v)::r else (k,x)::zbS f v r) from rfl]
  by_cases hk:k=f
  ·rw [if_pos hk]
   by_cases h:g=k
   ·have hb:(g==k)=true:=beq_iff_eq.mpr h
    simp only [List.lookup,hb,if_pos (h.trans hk)]
   ·have hb:(g==k)=false:=beq_eq_false_iff_ne.mpr h
    simp only [List.lookup,hb,if_neg (fun e:g=f=>h (e.trans hk.symm))]
  ·rw [if_neg hk]
   by_cases h:g=k
   ·have hb:(g==k)=true:=beq_iff_eq.mpr h
    simp only [List.lookup,hb,if_neg (fun e:g=f=>hk (h.symm.trans e))]
   ·have hb:(g==k)=false:=beq_eq_false_iff_ne.mpr h
    simp only [List.lookup,hb]
    exact ih
theorem zgY (f:Str)(v:V):∀ fs:List (Str×V),f∈(zbS f v fs).map (·.1)/\∀ g,g∈fs.map (·.1)->g∈(zbS f v fs).map (·.1)
 | []=>⟨by simp [zbS],fun g h=>by simp at h⟩
 | (k,x)::r=>by
  obtain⟨i1,i2⟩:=zgY f v r
  rw [show zbS f v ((k,x)::r)=(if k=f then (k,v)::r else (k,x)::zbS f v r) from rfl]
  by_cases hk:k=f
  ·rw [if_pos hk]
   subst hk
   exact⟨by simp,fun g h=>by simpa using h⟩
  ·rw [if_neg hk]
   refine⟨?_,fun g h=>?_⟩
   ·rw [List.map_cons]
    exact List.mem_cons_of_mem _ i1
   ·rw [List.map_cons] at h ⊢
    rcases List.mem_cons.mp h with e | e
    ·exact List.mem_cons.mpr (.inl e)
    ·exact List.mem_cons_of_mem _ (i2 g e)
theorem zh7 (f:Str)(v:V):∀ fs:List (Str×V),(zbS f v fs).length<=fs.length+1
 | []=>by simp [zbS]
 | (k,x)::r=>by
  have ih:=zh7 f v r
  rw [show zbS f v ((k,x)::r)=(if k=f then (k,v)::r else (k,x)::zbS f v r) from rfl]
  by_cases hk:k=f
  ·rw [if_pos hk,List.length_cons,List.length_cons];omega
  ·rw [if_neg hk,List.length_cons,List.length_cons];omega
theorem ziw.some_of {v:V}{o:Option Value}(r:ziw (some v) o):∃ u,o=some u/\RelV v u:=by
 cases o with
 | none=>exact (show False from r).elim
 | some u=>exact⟨u,rfl,r⟩
theorem zn2 {v:V}{u:Value}(r:RelV v u):PySem.W.handedIn u=true:=by
 cases v with
 | non=>cases (show u=Value.none from r);rfl
 | bl b=>cases (show u=Value.bool b from r);rfl
 | int i=>obtain⟨t,e⟩:=(show ∃ t,u=Value.int i t from r);cases e;rfl
 | str x=>obtain⟨t,e⟩:=(show ∃ t,u=Value.str x t from r);cases e;rfl
 | byt b=>obtain⟨t,e⟩:=(show ∃ t,u=Value.bytes b t from r);cases e;rfl
 | flt b=>obtain⟨t,e⟩:=(show ∃ t,u=Value.float b t from r);cases e;rfl
 | ref a=>cases (show u=Value.ref a from r);rfl
 | ty n=>cases (show u=Value.type n from r);rfl
section
variable {P:Program}{w:World}{H H':Hp}{h h':Heap}{a C dx:Addr}{fs fs':List (Str×V)}
theorem zjO (hok:HOk P w H h)(e:H a=some (.ins C dx fs)):∃ mA,zjI h a dx C mA/\(∀ f,ziw (fs.lookup f) (mA f))/\PySem.Within mA (fs.map (·.1))/\fs.length<=1000/\H dx=some (.own a):=by
 obtain⟨d,z,ne,ob,mA,n,r,q⟩:=(show zbc P w H h a (.ins C dx fs) from hok a _ e)
 exact⟨mA,⟨ob,n,ne⟩,r,q,z,d⟩
end
structure Cls (K:PySem.W.Frag)(C:Addr):Prop where
 pg:PySem.W.plainGet K C Str.empty=true
 hd:PySem.W.hasDictIn K C=true
 po:PySem.W.plainOver K C=true
 sa:PySem.W.findIn K (.ref C) "__setattr__"=some (some (.builtin "object.__setattr__"))
theorem Cls.get {K:PySem.W.Frag}{C:Addr}(c:Cls K C)(f:Str):PySem.W.plainGet K C f=true:=c.pg
def zau (K:PySem.W.Frag)(C:Addr)(f:Str):Prop:=PySem.W.findIn K (.ref C) f=some none
theorem zau.taker {K:PySem.W.Frag}{C:Addr}{f:Str}(n:zau K C f):PySem.W.takerIn K C f=some none:=by
 unfold PySem.W.takerIn
 rw [show PySem.W.findIn K (.ref C) f=some none from n]
 rfl
section
variable {X:Cx}{pins:List (Addr×Obj)}{σ:St}{H:Hp}{s:Shared}{a C dx:Addr}{fs:List (Str×V)}{f:Str}{v:V}{A:Around}{E:Value->Shared->Prop}
theorem zm1 {b:Bool}{Q:Value->Shared->Prop}(I:Inv X pins σ H s)(e:H a=some (.ins C dx fs))(c:Cls X.K C)(n:zau X.K C f)(l:fs.lookup f=some v)
  (h:∀ u s',Inv X pins σ H s'->RelV v u->Q u s'):wpAny (model X.prog X.w) A (getAttr (.ref a) f b) Q E s:=by
 obtain⟨mA,O,r,_,_,_⟩:=zjO I.hok e
 obtain⟨u,hu,ru⟩:=ziw.some_of (v:=v) (o:=mA f) (by rw [<- l];exact r f)
 exact get_map I.kIn O (c.get f) c.hd n hu (zn2 ru) (h u _ (I.tok _) ru)
theorem znm {y:V}{u:Value}{Q:Unit->Shared->Prop}(I:Inv X pins σ H s)(e:H a=some (.ins C dx fs))(c:Cls X.K C)(n:zau X.K C f)(hl:fs.length<1000)(ry:RelV y u)
  (h:∀ s',Inv X pins σ (upd H a (.ins C dx (zbS f y fs))) s'->Q () s'):wpAny (model X.prog X.w) A (setAttr (.ref a) f u) Q E s:=by
 obtain⟨mA,O,r,wi,_,ho⟩:=zjO I.hok e
 have hz:(fs.map (·.1)).length<=sizeLine:=by rw [List.length_map,sizeLine_eq];omega
 refine zrJ I.kIn O c.sa c.po n.taker c.hd wi hz fun h' O' sb=>h _ ?_
 have hd:∃ o,h'.get? dx=some o:=let ⟨o,_,_,e',_⟩:=O'.ns;⟨o,e'⟩
 refine I.write (x:=a) (e:=dx) (by rw [e];exact True.intro) (.inr ho) (fun b q hb z=>(sb.2 b hb).trans z) hd ?_
 refine⟨by rw [zW O.ne];exact ho,?_,O.ne,O'.obj,_,O'.ns,fun g=>?_,fun g hg=>?_⟩
 ·have:=zh7 f y fs;omega
 ·show ziw ((zbS f y fs).lookup g) (if g=f then some u else mA g)
  rw [zh4]
  by_cases q:g=f
  ·rw [if_pos q,if_pos q];exact ry
  ·rw [if_neg q,if_neg q];exact r g
 ·by_cases q:g=f
  ·rw [q];exact (zgY f y fs).1
  ·refine (zgY f y fs).2 g (wi g fun z=>hg ?_)
   show (if g=f then some u else mA g)=none
   rw [if_neg q];exact z
theorem Inv.made (I:Inv X pins σ H s):Inv X pins σ (upd (upd H s.heap.objs.size (.own (s.heap.objs.size+1))) (s.heap.objs.size+1) (.ins C s.heap.objs.size []))
    { s with heap:=(s.heap.push PySem.W.emptyDict).push (PySem.W.instObj C s.heap.objs.size) }:=by
  have e1:(s.heap.push PySem.W.emptyDict).get? s.heap.objs.size=some PySem.W.emptyDict:=Heap.get?_push_size s.heap rfl
  have e2:((s.heap.push PySem.W.emptyDict).push (PySem.W.instObj C s.heap.objs.size)).get? (s.heap.objs.size+1)=some (PySem.W.instObj C s.heap.objs.size):=by
    have:=Heap.get?_push_size (s.heap.push PySem.W.emptyDict) (o:=PySem.W.instObj C s.heap.objs.size) rfl
    rwa [Heap.size_push] at this
  have e3:(s.heap.push PySem.W.emptyDict).Ns s.heap.objs.size (fun _=>none):=⟨PySem.W.emptyDict,#[],_,e1,rfl,(fun e he=>absurd he (by simp)),fun _=>rfl⟩
  have I1:=I.laid (a:=s.heap.objs.size) (o:=.own (s.heap.objs.size+1)) (h':=s.heap.push PySem.W.emptyDict) (t':=s.toks) (fun b u q=>Heap.get?_push_of_some _ q) (Nat.le_refl _) ⟨_,e1⟩
  refine I1.laid (a:=s.heap.objs.size+1) (o:=.ins C s.heap.objs.size []) (t':=s.toks) (fun b u q=>Heap.get?_push_of_some _ q) (Nat.le_of_eq (Heap.size_push _ _)) ?_
  have ne:s.heap.objs.size≠s.heap.objs.size+1:=Nat.ne_of_lt (Nat.lt_succ_self _)
  refine⟨by rw [zW ne,zaF],Nat.zero_le _,ne,e2,fun _=>none,(Heap.Ns1.of_empty e3).at fun o q=>Heap.get?_push_of_some _ q,fun _=>True.intro,fun y hy=>absurd rfl hy⟩
theorem zri {prog:Program}{w:World}{env:Env}{e:Expr}{f:Str}{pos:Pos}{s:Shared}{Q:Value->Shared->Prop}(hb:attributeBase e f env (eval e env)=eval e env)
  (h:wpAny (model prog w) A (eval e env) (fun o s₁=>wpAny (model prog w) A (getAttr o f true) Q E s₁) E s):wpAny (model prog w) A (eval (.Attribute e f pos) env) Q E s :=
 Attribute_any_ h (by rw [arm_eval_Attribute,hb])
end
def zwo (K:PySem.W.Frag)(ta:TE)(f:Str):TE:=fun σ H Q=>ta σ H fun x H1=>∃ a C dx fs v,x=.ref a/\H1 a=some (.ins C dx fs)/\Cls K C/\zau K C f/\fs.lookup f=some v/\Q v H1
def zwh (K:PySem.W.Frag)(ta tv:TE)(f:Str):TS:=fun D σ H=>tv σ H fun y H1=>ta σ H1 fun x H2=>∃ a C dx fs,x=.ref a/\H2 a=some (.ins C dx fs)/\Cls K C/\zau K C f/\fs.length<1000 /\
 D.nx σ (upd H2 a (.ins C dx (zbS f y fs)))
section
variable {X:Cx}{o e value:Expr}{f:Str}{pos pos' tpos:Pos}{ta tv:TE}
theorem ztA (he:PE X e ta)(hb:attributeBase e f X.env (eval e X.env)=eval e X.env):PE X (.Attribute e f pos) (zwo X.K ta f):=by
 intro pins s σ H Q I h
 refine zri hb (thn (he pins s σ H _ I h) fun u s1 ⟨x,H1,I1,rx,a,C,dx,fs,v,ex,ea,c,n,l,q⟩=>?_)
 subst ex
 obtain rfl:u=Value.ref a:=rx
 exact zm1 I1 ea c n l fun u' s2 I2 ru=>⟨v,H1,I2,ru,q⟩
theorem zun (ha:PE X o ta)(hv:PE X value tv)(hs:swapsWith value (some (.Attribute o f pos')) pos.line X.env=pure false):PS X (.Assign [.Attribute o f pos'] value pos) (zwh X.K ta tv f):=by
 intro pins s σ H D I h
 refine plainObj_wpAny_Assign_Attribute (thn (hv pins s σ H _ I h) fun u s1 ⟨y,H1,I1,ry,q⟩=>thn (ha pins s1 σ H1 _ I1 q) fun ov s2 ⟨x,H2,I2,rx,a,C,dx,fs,ex,ea,c,n,l,q2⟩=>?_) hs
 subst ex
 obtain rfl:ov=Value.ref a:=rx
 exact znm I2 ea c n l ry fun s3 I3=>⟨σ,_,I3,q2⟩
end
section
variable {X:Cx}{pins:List (Addr×Obj)}{σ:St}{H:Hp}{s:Shared}{A:Around}{E:Value->Shared->Prop}{Q:Value->Shared->Prop}{c:Value}{b:Bool}
inductive zd1 (K:PySem.W.Frag)(H:Hp):V->Value->Prop where
 | non:zd1 K H .non (.type "NoneType")
 | bl (x:Bool):zd1 K H (.bl x) (.type "bool")
 | int (i:Int):zd1 K H (.int i) (.type "int")
 | str (x:Str):zd1 K H (.str x) (.type "str")
 | flt (x:UInt64):zd1 K H (.flt x) (.type "float")
 | lst {a:Addr} {xs:List V} (e:H a=some (.lst xs)):zd1 K H (.ref a) (.type "list")
 | frz {a:Addr} {o:Obj} {xs:List V} (e:H a=some (.frz o (.lst xs))):zd1 K H (.ref a) (.type "list")
 | tup {a:Addr} {xs:List V} (e:H a=some (.tup xs)):zd1 K H (.ref a) (.type "tuple")
 | dK {a:Addr} {kvs:List (Key×V)} (e:H a=some (.dK kvs)):zd1 K H (.ref a) (.type "dict")
 | dT {a:Addr} {kvs:List (List Key×V)} (e:H a=some (.dT kvs)):zd1 K H (.ref a) (.type "dict")
 | ins {a C dx:Addr} {fs:List (Str×V)} (e:H a=some (.ins C dx fs)) (cl:Cls K C) (ha:PySem.W.findIn K (.ref C) "__class__"=some (some (.builtin "object.__class__")))
   (hn:PySem.W.specialIn K (.builtin "object.__class__") "__get__"=some (some (.builtin "getset_descriptor.__get__"))) (htk:PySem.W.takesIn K (.builtin "object.__class__")=some true)
   (hm:PySem.W.mroIn K C (.type "object")=some true):zd1 K H (.ref a) (.ref C)
theorem znU {x:V}{u t:Value}(I:Inv X pins σ H s)(rx:RelV x u)(ty:zd1 X.K H x t)(e:PySem.W.kitOne X.K t c=some b)(h:∀ tk,Q (.bool b) { s with toks:=tk }) :
  wpAny (model X.prog X.w) A (call (.builtin "isinstance") [u,c]) Q E s:=by
 cases ty with
 | non=>cases (show u=Value.none from rx);exact PySem.W.kia_one PySem.W.kitx_none I.kIn True.intro e (fun z=>nomatch z) h
 | bl y=>cases (show u=Value.bool y from rx);exact PySem.W.kia_one PySem.W.kitx_bool I.kIn True.intro e (fun z=>nomatch z) h
 | int i=>obtain⟨t,q⟩:=(show ∃ t,u=Value.int i t from rx);cases q;exact PySem.W.kia_one PySem.W.kitx_int I.kIn True.intro e (fun z=>nomatch z) h
 | str y=>obtain⟨t,q⟩:=(show ∃ t,u=Value.str y t from rx);cases q;exact PySem.W.kia_one PySem.W.kitx_str I.kIn True.intro e (fun z=>nomatch z) h
 | flt y=>obtain⟨t,q⟩:=(show ∃ t,u=Value.float y t from rx);cases q;exact PySem.W.kia_one PySem.W.kitx_float I.kIn True.intro e (fun z=>nomatch z) h
 | @lst a xs ea =>
  cases (show u=Value.ref a from rx)
  obtain⟨_,_,n,_,h1⟩:=(show zbc X.prog X.w H s.heap a (.lst xs) from I.hok a _ ea)
  exact PySem.W.kia_one PySem.W.kitx_list I.kIn ⟨_,h1,rfl⟩ e (fun z=>nomatch z) h
 | @frz a ob xs ea =>
  cases (show u=Value.ref a from rx)
  obtain⟨_,_,_,n,_,h1⟩:=(show zbc X.prog X.w H s.heap a (.frz ob (.lst xs)) from I.hok a _ ea)
  exact PySem.W.kia_one PySem.W.kitx_list I.kIn ⟨_,h1,rfl⟩ e (fun z=>nomatch z) h
 | @tup a xs ea =>
  cases (show u=Value.ref a from rx)
  obtain⟨_,_,_,p⟩:=(show zbc X.prog X.w H s.heap a (.tup xs) from I.hok a _ ea)
  obtain⟨o,h1,h2,_⟩:=p
  exact PySem.W.kia_one PySem.W.kitx_tuple I.kIn ⟨o,h1,h2⟩ e (fun z=>nomatch z) h
 | @dK a kvs ea =>
  cases (show u=Value.ref a from rx)
  obtain⟨_,_,vs,_,p⟩:=(show zbc X.prog X.w H s.heap a (.dK kvs) from I.hok a _ ea)
  obtain⟨o,es,ep,h1,h2,_⟩:=p
  exact PySem.W.kia_one PySem.W.kitx_dict I.kIn ⟨o,h1,h2.1⟩ e (fun z=>nomatch z) h
 | @dT a kvs ea =>
  cases (show u=Value.ref a from rx)
  obtain⟨_,_,xs,_,o,es,ep,h1,h2,_⟩:=(show zbc X.prog X.w H s.heap a (.dT kvs) from I.hok a _ ea)
  exact PySem.W.kia_one PySem.W.kitx_dict I.kIn ⟨o,h1,h2.1⟩ e (fun z=>nomatch z) h
 | @ins a C dx fs ea cl ha hn htk hm =>
  cases (show u=Value.ref a from rx)
  obtain⟨mA,O,_⟩:=zjO I.hok ea
  obtain⟨od,J,_⟩:=O.look
  exact PySem.W.kia_one (PySem.W.kitx_own (cl.get _) cl.hd ha hn htk hm) I.kIn J e (fun z=>nomatch z) h
end
end L2
namespace L2
open PySem PySem.Spec PyProof.Rows
structure zaM (k:Nat)(A:Around):Prop where
 hd:A.handled=none
 dp:A.depth+3*k+5<recursionLimit
 un:A.units+16*k+200<cLine
theorem zaM.mono {j k:Nat}{A:Around}(r:zaM k A)(h:j<=k):zaM j A:=⟨r.hd,by have:=r.dp;omega,by have:=r.un;omega⟩
theorem zaM.deeper {k:Nat}{A:Around}(r:zaM (k+1) A)(env:Env):zaM k (A.deeper env) :=
 ⟨r.hd,by have:=r.dp;show A.depth+1+3*k+5<_;omega,by have:=r.un;show A.units+3+16*k+200<_;omega⟩
theorem zmR {A:Around}{C:Addr}{us:List Value}{kw:List (Str×Value)}:(A.under (.builtin "type.__call__" ⟨.ref C::us,kw⟩)).depth=A.depth+1:=by
 first | rfl | simp [Around.under,Code.weight,Code.isCreation,Code.isGuard,Code.isCaller,Code.frames,Code.isFrame,guardIds]
theorem znf {A:Around}{C:Addr}{us:List Value}{kw:List (Str×Value)}:(A.under (.builtin "type.__call__" ⟨.ref C::us,kw⟩)).units=A.units+1:=by
 first | rfl | simp [Around.under,Code.cUnits,Code.frames,Code.isFrame]
theorem zaM.make {k:Nat}{A:Around}(r:zaM (k+1) A)(C:Addr)(us:List Value)(kw:List (Str×Value)):zaM k (A.under (.builtin "type.__call__" ⟨.ref C::us,kw⟩)) :=
 ⟨r.hd,by have:=r.dp;rw [zmR];omega,by have:=r.un;rw [znf];omega⟩
theorem zaM.depth {k:Nat}{A:Around}(r:zaM k A):A.depth<recursionLimit:=by have:=r.dp;omega
theorem zaM.units {k:Nat}{A:Around}(r:zaM k A):A.units+64<cLine:=by have:=r.un;omega
def zwe:TA:=fun _ H Q=>Q [] H
def zu5 (ta:TE)(tr:TA):TA:=fun σ H Q=>ta σ H fun x H1=>tr σ H1 fun xs H2=>Q (x::xs) H2
section
variable {X:Cx}{e:Expr}{es:List Expr}{te:TE}{t:TA}{pos:Pos}
theorem zsQ:PA X [] zwe:=fun _ _ _ _ H Q I h=>Calls.spliced_nil ⟨[],H,I,.nil,h⟩
theorem zrB (ha:PE X e te)(hr:PA X es t)(hs:starEach (e::es) X.env=(false,eval e X.env)::starEach es X.env:=by rfl):PA X (e::es) (zu5 te t):=by
 intro pos pins s σ H Q I h
 rw [hs]
 show wpAny _ _ (spliced ((false,eval e X.env)::backTo pos (starEach es X.env))) _ _ s
 refine Calls.spliced_cons (thn (ha pins s σ H _ I h) fun u s1 ⟨x,H1,I1,r1,q1⟩=>?_)
 exact thn (hr pos pins s1 σ H1 _ I1 q1) fun us s2 ⟨xs,H2,I2,r2,q2⟩=>⟨x::xs,H2,I2,.cons r1 r2,q2⟩
def zwg (t:TA):TE:=fun σ H Q=>t σ H fun xs H1=>xs.length<=sizeLine/\∀ p,H1 p=none->Q (.ref p) (upd H1 p (.tup xs))
def zv8 (t:TA):TE:=fun σ H Q=>t σ H fun xs H1=>xs.length<=sizeLine/\∀ p,H1 p=none->Q (.ref p) (upd H1 p (.lst xs))
theorem ztR {x1}(h:PA X es t):PE X (.Tuple es x1 pos) (zwg t):=by
 intro pins s σ H Q I hq
 refine wpAny_Tuple_spliced (thn (h pos pins s σ H _ I hq) fun us s1 ⟨xs,H1,I1,r,z,q⟩=>⟨by rw [<- r.length];exact z,?_⟩)
 have hf:H1 s1.heap.objs.size=none:=I1.hok.fresh (Nat.le_refl _)
 refine⟨.ref s1.heap.objs.size,upd H1 s1.heap.objs.size (.tup xs),I1.laid (t':=s1.toks) (fun b u e=>Heap.get?_push_of_some _ e) (Nat.le_refl _) ?_,rfl,q _ hf⟩
 exact⟨z,us,r,⟨_,Heap.get?_push_size _ rfl,rfl,_,rfl⟩⟩
theorem zsB (h:PA X es t):PE X (.List es pos) (zv8 t):=by
 intro pins s σ H Q I hq
 refine wpAny_List_spliced (thn (h pos pins s σ H _ I hq) fun us s1 ⟨xs,H1,I1,r,z,q⟩=>⟨by rw [<- r.length];exact z,?_⟩)
 have hf:H1 s1.heap.objs.size=none:=I1.hok.fresh (Nat.le_refl _)
 refine⟨.ref s1.heap.objs.size,upd H1 s1.heap.objs.size (.lst xs),I1.laid (t':=s1.toks) (fun b u e=>Heap.get?_push_of_some _ e) (Nat.le_refl _) ?_,rfl,q _ hf⟩
 exact⟨z,us,0,r,Heap.get?_push_size _ rfl⟩
end
abbrev Sp:=List V->Hp->VK->XK->Prop
abbrev CXT:=List Env->Hp->Shared->XK->Value->Shared->Prop
structure ziy (P:Program)(w:World)(K:PySem.W.Frag)(mg:Str->Option Value)(base:Heap)(A:Around)(outer:List Env)(s:Shared)(H:Hp):Prop where
 frames:A.frames=some outer
 mod:Mod K mg base
 bs:∀ b o,base.get? b=some o->s.heap.get? b=some o/\H b=none
 bsz:base.objs.size<=s.heap.objs.size
 funs:s.heap.FunFrames base outer
 frf:∀ b∈frs outer,H b=none
 hok:HOk P w H s.heap
 bare:AllBare s.gens
def CE (outer:List Env)(P:Program)(w:World)(H:Hp)(s:Shared)(Q:VK)(u:Value)(s':Shared):Prop :=
 ∃ v H',s'.os=s.os/\AllBare s'.gens/\Un (frs outer) [] H H' s.heap s'.heap/\HOk P w H' s'.heap/\RelV v u/\Q v H'
def CR (CX:CXT)(outer:List Env)(P:Program)(w:World)(H:Hp)(s:Shared)(Q:VK)(E:XK)(r:Result)(s':Shared):Prop :=
 match r with
 | .ok (.ret u)=>CE outer P w H s Q u s'
 | .ok _=>False
 | .error e=>CX outer H s E e s'
structure zX (P:Program)(w:World)(K:PySem.W.Frag)(mg:Str->Option Value)(base:Heap)(CX:CXT)(k:Nat)(f:Addr)(fd:FuncData)(ps:List Str)(sp:Sp):Prop where
 len:∀ vs H Q E,sp vs H Q E->vs.length=ps.length
 run:∀ (A:Around) (outer:List Env) (s:Shared) (H:Hp) (args:Args) (us:List Value) (vs:List V) (Q:VK) (E:XK),zaM k A->ziy P w K mg base A outer s H->BindsTo s fd args (ps.zip us)->Vals vs us->sp vs H Q E ->
  codeAny (model P w) A (.call (.ref f) args) (CR CX outer P w H s Q E) s
theorem zX.mono {P:Program}{w:World}{K:PySem.W.Frag}{mg:Str->Option Value}{base:Heap}{CX:CXT}{j k:Nat}{f:Addr}{fd:FuncData}{ps:List Str}{sp:Sp}(F:zX P w K mg base CX j f fd ps sp)(h:j<=k) :
  zX P w K mg base CX k f fd ps sp:=⟨F.len,fun A outer s H args us vs Q E hr=>F.run A outer s H args us vs Q E (hr.mono h)⟩
theorem ziy.make {P:Program}{w:World}{K:PySem.W.Frag}{mg:Str->Option Value}{base:Heap}{A:Around}{outer:List Env}{s:Shared}{H:Hp}(e:ziy P w K mg base A outer s H)(C:Addr)(us:List Value)(kw:List (Str×Value)) :
  ziy P w K mg base (A.under (.builtin "type.__call__" ⟨.ref C::us,kw⟩)) outer s H:=⟨by first | exact e.frames | (simpa [Around.under,Code.envs,Code.isFrame,pushEnvs] using e.frames),e.mod,e.bs,e.bsz,e.funs,e.frf,e.hok,e.bare⟩
section
variable {X:Cx}{pins:List (Addr×Obj)}{σ:St}{H:Hp}{s s':Shared}
theorem Inv.env0 (I:Inv X pins σ H s):ziy X.prog X.w X.K X.mg X.base X.A X.stack s H :=
 ⟨I.ok.frames,I.ok.mod,I.bs,Nat.le_trans I.ok.bsz I.sz,I.stack,I.stkFree,I.hok,I.bare⟩
theorem Inv.after {Q:VK}{u:Value}(I:Inv X pins σ H s)(h:CE X.stack X.prog X.w H s Q u s'):EP X pins σ Q u s':=by
 obtain⟨v,H',os,bare,un,hok,r,q⟩:=h
 obtain⟨hh,g,d,t,os'⟩:=s'
 obtain rfl:os'=s.os:=os
 exact⟨v,H',I.call (h':=hh) (g':=g) (d':=d) (t':=t) (ch:=[]) un hok bare (fun b z=>absurd z (by simp)),r,q⟩
end
def znw (sp:Sp)(dvs:List V)(E:XK)(t:TA):TE:=fun σ H Q=>t σ H fun vs H1=>sp (vs++dvs) H1 Q E
def Binds (K:PySem.W.Frag)(fd:FuncData)(ps:List Str)(ds:List Value):Prop :=
 ∀ (s:Shared) (us:List Value),K.In s.heap->(us++ds).length=ps.length->BindsTo s fd ⟨us,[]⟩ (ps.zip (us++ds))
theorem Binds.all {K:PySem.W.Frag}{fd:FuncData}{ps:List Str}(h:∀ us:List Value,us.length=ps.length->bindArgs fd ⟨us,[]⟩=pure (ps.zip us)):Binds K fd ps []:=fun s us _ hl=>by
 rw [List.append_nil] at hl ⊢
 exact .of_eq (h us hl)
def Passes (CX:CXT)(X:Cx)(E:XK):Prop:=∀ (pins:List (Addr×Obj)) (σ:St) (H:Hp) (s:Shared) (e:Value) (s':Shared),Inv X pins σ H s->CX X.stack H s E e s'->X.xe e s'
section
variable {X:Cx}{CX:CXT}{k:Nat}{f C:Addr}{fd:FuncData}{ps:List Str}{sp:Sp}{dvs:List V}{ds:List Value}{E:XK}{x m:Str}{p pos apos:Pos}{e o:Expr}{es:List Expr}{ta:TE}{t:TA}
theorem zs6 {pins:List (Addr×Obj)}{σ:St}{H:Hp}{s:Shared}{Q:VK}{us:List Value}{vs:List V}(F:zX X.prog X.w X.K X.mg X.base CX k f fd ps sp)(hr:zaM k X.A)(hb:Binds X.K fd ps ds)(hd:Vals dvs ds)(hx:Passes CX X E)
  (I:Inv X pins σ H s) (r:Vals vs us) (h:sp (vs++dvs) H Q E):wpAny (model X.prog X.w) X.A (call (.ref f) us) (EP X pins σ Q) X.xe s:=by
 have r2:Vals (vs++dvs) (us++ds):=r.append hd
 have hl:(us++ds).length=ps.length:=by rw [<- r2.length];exact F.len _ _ _ _ h
 refine wpAny_call (codeAny_mono (F.run X.A X.stack s H ⟨us,[]⟩ (us++ds) (vs++dvs) Q E hr I.env0 (hb s us I.kIn hl) r2 h) fun r s' hq=>?_)
 cases r with
 | error e=>exact hx pins σ H s e s' I hq
 | ok fl =>
  cases fl with
  | ret u=>exact I.after hq
  | next=>exact False.elim hq
  | brk=>exact False.elim hq
  | cont=>exact False.elim hq
theorem zrw (F:zX X.prog X.w X.K X.mg X.base CX k f fd ps sp)(hr:zaM k X.A)(hg:Gl X x)(hm:X.mg x=some (.ref f))(hk:PySem.W.keepIn X.K (.ref f)=true)(hb:Binds X.K fd ps ds)(hd:Vals dvs ds)(hx:Passes CX X E)
  (ha:PA X (e::es) t) (hdb:(x==("__debug__":Str))=false:=by decide) (he:starEach (e::es) X.env=(false,eval e X.env)::starEach es X.env:=by rfl) (hpl:(backTo pos (starEach es X.env)).any (·.1)=false:=by rfl) :
  PE X (.Call (.Name x p) (e::es) [] pos) (znw sp dvs E t):=by
 intro pins s σ H Q I h
 refine wpAny_Call_Name_kw (zd0 I hg hm ?_ hdb)
 refine PySem.W.callWith_K (h₀:=X.base) I.ok.mod.kin hk (thn (ha pos pins s σ H _ I h) fun us s1 ⟨vs,H1,I1,r,q⟩=>⟨I1.kIn,?_⟩) he hpl
 exact zs6 F hr hb hd hx I1 r q
structure Mk (K:PySem.W.Frag)(C f:Addr):Prop where
 makes:PySem.W.makesIn K C=true
 init:PySem.W.findIn K (.ref C) "__init__"=some (some (.ref f))
 fn:PySem.W.isFn K (.ref f)=true
 kp:PySem.W.keepIn K (.ref C)=true
theorem zpl {pins:List (Addr×Obj)}{σ:St}{H:Hp}{s:Shared}{Q:VK}{us:List Value}{vs:List V}(M:Mk X.K C f)(F:zX X.prog X.w X.K X.mg X.base CX k f fd ps sp)(hr:zaM (k+1) X.A)(hb:Binds X.K fd ps ds)(hd:Vals dvs ds)
  (hx:Passes CX X E) (I:Inv X pins σ H s) (r:Vals vs us)
  (h:∀ x dx,H x=none->H dx=none->dx≠x->sp (.ref x::(vs++dvs)) (upd (upd H dx (.own x)) x (.ins C dx [])) (fun v H2=>v=.non/\Q (.ref x) H2) E) :
  wpAny (model X.prog X.w) X.A (call (.ref C) us) (EP X pins σ Q) X.xe s:=by
 have hq:=h (s.heap.objs.size+1) s.heap.objs.size (I.hok.fresh (Nat.le_succ _)) (I.hok.fresh (Nat.le_refl _)) (Nat.ne_of_lt (Nat.lt_succ_self _))
 have I2:=Inv.made (C:=C) I
 have r2:Vals (V.ref (s.heap.objs.size+1)::(vs++dvs)) (Value.ref (s.heap.objs.size+1)::(us++ds)):=.cons rfl (r.append hd)
 have hl:(Value.ref (s.heap.objs.size+1)::us++ds).length=ps.length:=by
  have e:=r2.length
  rw [F.len _ _ _ _ hq] at e
  exact e.symm
 refine wpAny_call (zp0 (f:=f) I.kIn M.makes M.init (beq_iff_eq.mp M.fn) (codeAny_mono (F.run _ X.stack _ _ ⟨Value.ref (s.heap.objs.size+1)::us,[]⟩ (Value.ref (s.heap.objs.size+1)::(us++ds)) _ _ E (hr.make C us [])
  (I2.env0.make C us []) (hb _ (Value.ref (s.heap.objs.size+1)::us) I2.kIn hl) r2 hq) fun r s' hq'=>?_))
 cases r with
 | error e=>exact hx pins σ _ _ e s' I2 hq'
 | ok fl =>
  cases fl with
  | ret u =>
   obtain⟨v,H',I3,rv,ev,q3⟩:=I2.after hq'
   subst ev
   exact⟨rv,⟨V.ref (s.heap.objs.size+1),H',I3,rfl,q3⟩⟩
  | next=>exact False.elim hq'
  | brk=>exact False.elim hq'
  | cont=>exact False.elim hq'
end
section
variable {X:Cx}{CX:CXT}{k:Nat}{f C:Addr}{fd:FuncData}{ps ks:List Str}{sp:Sp}{E:XK}{x m:Str}{p pos apos kpos:Pos}{e o:Expr}{es:List Expr}{kws:List Keyword}{te ta:TE}{t tk:TA}{nm:Option Str}
variable {g:List Value->List Value->List Value}{gV:List V->List V->List V}
end
structure zP (N P:List Str)(sc:Scope):Prop where
 kind:sc.kind=.function
 co:sc.isCoroutine=false
 gen:sc.isGenerator=false
 nd:N.Nodup
 pre:N.take P.length=P
 par:∀ x∈P,sc.names.lookup x=some .local\/sc.names.lookup x=some .cell
 nofree:∀ y∈sc.names,y.2≠.free
theorem zj3 {kindOf:Str->Option NameKind}{x:Str}:∀ {binds:List (Str×Value)} {m:Str->Option Value},(∀ v,(x,v)∉binds)->bindL kindOf binds m x=m x
 | [],_,_=>rfl
 | (n,v)::r,m,h=>by
  unfold bindL
  rw [zj3 fun w hw=>h w (List.mem_cons_of_mem _ hw)]
  split
  ·have:x≠n:=by rintro rfl;exact h v List.mem_cons_self
   simp [this]
  ·rfl
theorem zj5 {kindOf:Str->Option NameKind}{x:Str}:∀ {binds:List (Str×Value)} {m:Str->Option Value},(∀ v,(x,v)∉binds)->bindC kindOf binds m x=m x
 | [],_,_=>rfl
 | (n,v)::r,m,h=>by
  unfold bindC
  rw [zj5 fun w hw=>h w (List.mem_cons_of_mem _ hw)]
  split
  ·rfl
  ·have:x≠n:=by rintro rfl;exact h v List.mem_cons_self
   simp [this]
theorem zjW {kindOf:Str->Option NameKind}{x:Str}{v:Value}:∀ {P:List Str} {vs:List Value} {i:Nat} {m:Str->Option Value},P.Nodup->P[i]?=some x->vs[i]?=some v->kindOf x=some .local ->
  bindL kindOf (P.zip vs) m x=some v
 | [],_,_,_,_,h,_,_=>by simp at h
 | _::_,[],_,_,_,_,h,_=>by simp at h
 | p::P,w::vs,0,m,nd,h1,h2,hk=>by
  simp at h1 h2;subst h1;subst h2
  show bindL kindOf ((p,w)::P.zip vs) m p=_
  unfold bindL
  rw [zj3 fun v hv=>(List.nodup_cons.mp nd).1 (List.of_mem_zip hv).1,if_pos hk]
  simp
 | p::P,w::vs,i+1,m,nd,h1,h2,hk=>by
  show bindL kindOf ((p,w)::P.zip vs) m x=_
  unfold bindL
  exact zjW (i:=i) (List.nodup_cons.mp nd).2 (by simpa using h1) (by simpa using h2) hk
theorem zj2 {kindOf:Str->Option NameKind}{x:Str}{v:Value}:∀ {P:List Str} {vs:List Value} {i:Nat} {m:Str->Option Value},P.Nodup->P[i]?=some x->vs[i]?=some v->kindOf x≠some .local ->
  bindC kindOf (P.zip vs) m x=some v
 | [],_,_,_,_,h,_,_=>by simp at h
 | _::_,[],_,_,_,_,h,_=>by simp at h
 | p::P,w::vs,0,m,nd,h1,h2,hk=>by
  simp at h1 h2;subst h1;subst h2
  show bindC kindOf ((p,w)::P.zip vs) m p=_
  unfold bindC
  rw [zj5 fun v hv=>(List.nodup_cons.mp nd).1 (List.of_mem_zip hv).1,if_neg hk]
  simp
 | p::P,w::vs,i+1,m,nd,h1,h2,hk=>by
  show bindC kindOf ((p,w)::P.zip vs) m x=_
  unfold bindC
  exact zj2 (i:=i) (List.nodup_cons.mp nd).2 (by simpa using h1) (by simpa using h2) hk
def start (N:List Str)(vs:List V):St:=vs.map some++List.replicate (N.length-vs.length) none
def zfx (CX:CXT)(P:Program)(w:World)(K:PySem.W.Frag)(mg:Str->Option Value)(base:Heap)(N:List Str)(qual:Str)(scope:Scope)(f:Addr)(cd:Value)(A:Around)(outer:List Env)(s:Shared)(H:Hp)(E:XK):Cx where
 prog:=P
 w:=w
 K:=K
 mg:=mg
 base:=base
 A:=A.deeper (envOfC qual scope s.heap.objs.size f cd)
 N:=N
 s₀:=s
 H₀:=H
 env:=envOfC qual scope s.heap.objs.size f cd
 outer:=outer
 stack:=envOfC qual scope s.heap.objs.size f cd::outer
 ex:=[]
 calm:=true
 fn:=fun _=>true
 pn:=[]
 xe:=fun e s'=>wpAny (model P w) (A.deeper (envOfC qual scope s.heap.objs.size f cd)) (leaving (envOfC qual scope s.heap.objs.size f cd) e) (fun _ s''=>CX outer H s E e s'') (fun e' s''=>CX outer H s E e' s'') s'
theorem zls {sc:Scope}{n:Nat}{x:Str}(h:sc.names.lookup x=some .cell):∃ c,(cellsFrom n sc.names []).lookup x=some c:=by
 have q:=PySem.W.cellsFrom_some sc.names n [] (.inl h)
 exact Option.isSome_iff_exists.mp q
theorem zo9 {CX:CXT}{P:Program}{w:World}{K:PySem.W.Frag}{mg:Str->Option Value}{base:Heap}{N ps:List Str}{qual:Str}{scope:Scope}{f:Addr}{cd:Value}{A:Around}{outer:List Env}{s s1:Shared}{H:Hp}{E:XK}{us:List Value}{vs:List V}
    (S:zP N ps scope) (hd:A.handled=none) (e0:ziy P w K mg base A outer s H) (hl:vs.length=ps.length) (r:Vals vs us)
    (x:InCallC s s.heap.objs.size (bindL (envOfC qual scope s.heap.objs.size f cd).kindOf (ps.zip us) fun _=>none) (cellsFrom (s.heap.objs.size+1) scope.names []) (bindC (envOfC qual scope s.heap.objs.size f cd).kindOf (ps.zip us) fun _=>none) s1) :
    Inv (zfx CX P w K mg base N qual scope f cd A outer s H E) [] (start N vs) H s1:=by
  have hpl:ps.length<=N.length:=by have:=congrArg List.length S.pre;rw [List.length_take] at this;omega
  obtain⟨h1,tk,rfl,hk⟩:=x.done
  have noA:∀ b:Addr,b∉(zfx CX P w K mg base N qual scope f cd A outer s H E).ex:=fun b z=>absurd (show b∈([]:List Addr) from z) (by simp)
  refine⟨⟨e0.mod,S.kind,rfl,rfl,Nat.le_refl _,fun y z c h1 h2=>?_,fun y hy=>?_,fun y c _ h=>?_,fun _=>hd,Around.frames_deeper e0.frames,.inr ⟨rfl,rfl⟩,fun b z=>absurd z (noA b),e0.bs,e0.bsz,fun b _ _=>noA b,fun b z=>absurd z (noA b),e0.funs,e0.frf⟩,
    rfl,e0.bare,Un.kept hk,⟨_,x.toInCall.ns,fun i y v h1 h2 h3=>?_⟩,fun y c h=>⟨_,x.cell y c h⟩,e0.hok.fresh (Nat.le_refl _),fun y c h=>?_,fun p hp=>absurd (show p∈([]:List (Addr×Obj)) from hp) (by simp),e0.hok.kept hk,?_⟩
  · exact name_of_addr x.apart (PySem.mem_of_lookup h1) (PySem.mem_of_lookup h2)
  · have hy:scope.names.lookup y=some .cell\/scope.names.lookup y=some .free:=hy
    rcases hy with hy | hy
    · exact zls hy
    · exact absurd rfl (S.nofree _ (PySem.mem_of_lookup hy))
  · exact Nat.le_of_lt (x.above y c (PySem.mem_of_lookup h))
  · have hi : i < vs.length := by
      unfold start at h2
      by_cases hi:i<vs.length
      · exact hi
      · rw [List.getElem?_append_right (by simpa using hi)] at h2
        rw [List.getElem?_replicate] at h2
        split at h2<;>cases h2
    have ha:vs[i]?=some v:=by
      unfold start at h2
      rw [List.getElem?_append_left (by simpa using hi),List.getElem?_map] at h2
      cases e:vs[i]? with
      | none=>rw [e] at h2;cases h2
      | some a=>rw [e] at h2;cases h2;rfl
    obtain⟨u,hu,rv⟩:=r.get ha
    have hp:ps[i]?=some y:=by
      rw [<- S.pre,List.getElem?_take_of_lt (by omega)];exact h1
    have ndP:ps.Nodup:=by rw [<- S.pre];exact S.nd.sublist (List.take_sublist _ _)
    refine⟨u,rv,?_⟩
    rcases S.par y (List.mem_of_getElem? hp) with k | k
    · exact .inl ⟨k,zjW ndP hp hu k⟩
    · obtain⟨c,e⟩:=zls (n:=s.heap.objs.size+1) k
      refine .inr ⟨.inl k,c,e,?_⟩
      have q:=x.cell y c e
      rw [zj2 ndP hp hu (by show scope.names.lookup y≠_;rw [k];decide)] at q
      exact q
  · exact e0.hok.fresh (Nat.le_of_lt (x.above y c (PySem.mem_of_lookup h)))
  · unfold start
    show _=N.length
    rw [List.length_append,List.length_map,List.length_replicate]
    omega
theorem zqV {CX:CXT}{P:Program}{w:World}{K:PySem.W.Frag}{mg:Str->Option Value}{base:Heap}{k:Nat}{f:Addr}{name qual:Str}{params:Arguments}{body:List Stmt}{scope:Scope}{dV kV doc pm cdv ct oc:Value}{an od:Option Addr}
  {osl:Array (Option Value)} {N ps:List Str} {sp:Sp} (lk:K.lookup f=some ⟨oc,od,.func (PySem.W.fnOf name qual params body scope dV kV doc pm an cdv ct),osl⟩) (hcd:PySem.W.codeIn K cdv qual=true) (S:zP N ps scope)
  (len:∀ vs H Q E,sp vs H Q E->vs.length=ps.length)
  (hbody:∀ (A:Around) (outer:List Env) (s:Shared) (H:Hp) (vs:List V) (Q:VK) (E:XK),zaM k (A.deeper (envOfC qual scope s.heap.objs.size f cdv))->sp vs H Q E ->
   ∃ t,PSs (zfx CX P w K mg base N qual scope f cdv A outer s H E) body t/\t { nx:=fun _ H'=>Q .non H',rt:=Q } (start N vs) H) :
  zX P w K mg base CX (k+1) f (PySem.W.fnOf name qual params body scope dV kV doc pm an cdv ct) ps sp:=by
 refine⟨len,fun A outer s H args us vs Q E hr e0 hb r hsp=>?_⟩
 have hl:=len _ _ _ _ hsp
 have KX:K.In s.heap:=e0.mod.kin.keeps fun b o e=>(e0.bs b o e).1
 have lim:s.heap.NoLimit:=e0.mod.nolimit.keeps fun b o e=>(e0.bs b o e).1
 have hkind:∀ y∈ps.zip us,scope.names.lookup y.1=some .local\/(scope.names.lookup y.1=some .cell/\((cellsFrom (s.heap.objs.size+1) scope.names []).lookup y.1).isSome=true):=fun⟨n,v⟩ hy=>by
  rcases S.par n (List.of_mem_zip hy).1 with q | q
  ·exact .inl q
  ·exact .inr ⟨q,PySem.W.cellsFrom_some _ _ _ (.inl q)⟩
 refine codeAny_call_function hr.depth (KX _ _ lk) rfl S.co S.gen rfl (PySem.W.codeRec_of KX hcd) (hb _ _ _ _ ?_)
 refine wpAny_newFunctionEnv_cells S.kind hkind fun env he s1 x=>?_
 subst he
 refine⟨lim.keeps x.toInCall.keep,codeAny_func ?_⟩
 obtain⟨t,ht,hq⟩:=hbody A outer s H vs Q E (hr.deeper _) hsp
 have I:Inv (zfx CX P w K mg base N qual scope f cdv A outer s H E) [] (start N vs) H s1:=zo9 S hr.hd e0 hl r x
 refine wpAny_mono (ht [] s1 (start N vs) H _ I hq) (fun fl s' hs=>?_) fun e s' hs=>hs
 have fin:∀ {σ':St} {H':Hp} {v:V} {u:Value},Inv (zfx CX P w K mg base N qual scope f cdv A outer s H E) [] σ' H' s'->RelV v u->Q v H'->CE outer P w H s Q u s' :=
  fun {σ' H' v u} J rv q=>⟨v,H',J.os,J.bare,J.base,J.hok,rv,q⟩
 cases fl with
 | ret u =>
  obtain⟨v,σ',H',J,rv,q⟩:=hs
  exact fin J rv q
 | next =>
  obtain⟨σ',H',J,q⟩:=hs
  exact fin (v:=V.non) (u:=Value.none) J rfl q
 | brk =>
  obtain⟨_,_,_,q⟩:=hs
  exact False.elim q
 | cont =>
  obtain⟨_,_,_,q⟩:=hs
  exact False.elim q
end L2
namespace L2
open PySem PySem.Spec PyProof.Rows
section
variable {X:Cx}{x:Str}{p pos:Pos}{e:Expr}{es:List Expr}{t:TA}{id T:String}{r:List V->Hp->VK->Prop}
def tCB (r:List V->Hp->VK->Prop)(t:TA):TE:=fun σ H Q=>t σ H fun vs H1=>r vs H1 Q
theorem zqi (hc:zaK X (.builtin id) r)(hg:Gl X x)(hm:X.mg x=none)(hv:bootBuiltins x=some (.builtin id))(ha:PA X (e::es) t)(hn:x≠"__name__":=by decide)(hdb:(x==("__debug__":Str))=false:=by decide)
  (he:starEach (e::es) X.env=(false,eval e X.env)::starEach es X.env:=by rfl) (hpl:(backTo pos (starEach es X.env)).any (·.1)=false:=by rfl):PE X (.Call (.Name x p) (e::es) [] pos) (tCB r t):=by
 intro pins s σ H Q I h
 refine wpAny_Call_Name_kw (zcw I hg hm hv ?_ hn hdb)
 exact PyProof.Rows.callWith_builtin1 (thn (ha pos pins s σ H _ I h) fun us s1 ⟨vs,H1,I1,r1,q1⟩=>hc pins s1 σ H1 vs us Q I1 r1 q1) he hpl
theorem zox (hc:zaK X (.type T) r)(hg:Gl X x)(hm:X.mg x=none)(hv:bootBuiltins x=some (.type T))(ha:PA X (e::es) t)(hn:x≠"__name__":=by decide)(hdb:(x==("__debug__":Str))=false:=by decide)
  (he:starEach (e::es) X.env=(false,eval e X.env)::starEach es X.env:=by rfl) (hpl:(backTo pos (starEach es X.env)).any (·.1)=false:=by rfl):PE X (.Call (.Name x p) (e::es) [] pos) (tCB r t):=by
 intro pins s σ H Q I h
 refine wpAny_Call_Name_kw (zcw I hg hm hv ?_ hn hdb)
 exact PyProof.Rows.callWith_type1 (thn (ha pos pins s σ H _ I h) fun us s1 ⟨vs,H1,I1,r1,q1⟩=>hc pins s1 σ H1 vs us Q I1 r1 q1) he hpl
end
end L2
namespace HT
open PySem PyProof.Rows
section
open PySem.SeqAt
open PySem.AutoSeq1 (wpAny_loadPart')
open PySem.MeetsSeq PySem.MeetsSeq2 PySem.MeetsSeq3
end
section
variable {prog:Program}{w:World}{A:Around}{E:Value->Shared->Prop}{s:Shared}
theorem zr0 {t b:Addr}{vs ws:List Value}{Q:Value->Shared->Prop}(ht:IsTup s.heap t vs.toArray)(hb:IsTup s.heap b ws.toArray)(hv:vs≠[])
  (h1:ws=[]->Q (.ref t) s) (h2:ws≠[]->Q (.ref s.heap.objs.size) { s with heap:=s.heap.push { cls:=.type "tuple",data:=.seq (vs++ws).toArray } })
  (hsz:vs.length+ws.length<=sizeLine):wpAny (model prog w) A (binaryOp .Add (.ref t) (.ref b)) Q E s:=by
 obtain⟨⟨cls,dd,data,sl⟩,ho,hc,n,hd⟩:=id ht
 obtain⟨⟨cls2,dd2,data2,sl2⟩,ho2,hc2,n2,hd2⟩:=id hb
 simp only at hc hd hc2 hd2
 subst hc hd hc2 hd2
 have e:vs.toArray++ws.toArray=(vs++ws).toArray:=by simp
 by_cases hw:ws=[]
 ·exact concat_meets ⟨_,ho,rfl⟩ ⟨_,ho2,rfl⟩ noFill_tuple_add seq_tuple_add PySem.F.slot_tuple_add PySem.F.entry_tuple_add (PySem.F.args_tuple_add_2 _ _)
   (tuple_addW1 t b vs.toArray ws.toArray n n2 dd dd2 sl sl2 (by simpa using hv) (by simp [hw])) ⟨ho,ho2,h1 hw⟩
 ·refine concat_meets ⟨_,ho,rfl⟩ ⟨_,ho2,rfl⟩ noFill_tuple_add seq_tuple_add PySem.F.slot_tuple_add PySem.F.entry_tuple_add (PySem.F.args_tuple_add_2 _ _)
   (tuple_addW2 t b vs.toArray ws.toArray n n2 dd dd2 sl sl2 (by simpa using hv) (by simpa using hw) (by rw [List.size_toArray,List.size_toArray];exact hsz)) ⟨ho,ho2,?_⟩
  rw [e]
  exact h2 hw
def sIx (n d:Nat):Option Int->Nat
 | none=>d
 | some v=>if v<0 then (v+(n:Int)).toNat else min v.toNat n
theorem zi9 (n d:Nat)(hd:d<=n)(o:Option Int):sIx n d o<=n:=by
 cases o with
 | none=>exact hd
 | some v =>
  show (if v<0 then (v+(n:Int)).toNat else min v.toNat n)<=n
  by_cases hv:v<0
  ·rw [if_pos hv];omega
  ·rw [if_neg hv];exact Nat.min_le_right _ _
theorem zmn (v:Int)(n d:Nat):(if v<0 then max (v+(n:Int)) 0 else min v (n:Int))=((sIx n d (some v):Nat):Int):=by
 show (if v<0 then max (v+(n:Int)) 0 else min v (n:Int))=(((if v<0 then (v+(n:Int)).toNat else min v.toNat n):Nat):Int)
 by_cases hv:v<0
 ·simp only [if_pos hv];omega
 ·simp only [if_neg hv];omega
theorem zne (lo hi:Option Int)(n:Nat):Builtin.Slice.sliceAdjust lo hi 1 (n:Int)=(((sIx n 0 lo:Nat):Int),((sIx n n hi:Nat):Int)):=by
 have h1:¬ ((1:Int)<0):=by omega
 unfold Builtin.Slice.sliceAdjust
 simp only [h1,if_false]
 refine Prod.ext ?_ ?_
 ·cases lo with
  | none=>rfl
  | some v=>exact zmn v n 0
 ·cases hi with
  | none=>rfl
  | some v=>exact zmn v n n
theorem zmA (i j:Nat):Builtin.Slice.slicePlaces (i:Int) (j:Int) 1=j-i:=by
  unfold Builtin.Slice.slicePlaces
  have h1:(1:Int) > 0:=by omega
  simp only [h1,if_true,Int.ediv_one]
  split<;>omega
theorem ziJ {v:Value}{o:Option Int}{Q:Option Int->Shared->Prop}(p:IsPart v o)(h:Q o s):wpAny (model prog w) A (Builtin.Slice.slicePartIndex v) Q E s:=by
 cases p with
 | none=>exact slicePart_none h
 | int i t=>exact slicePart_int h
theorem zeS {sl:Addr}{vl vu:Value}{lo hi:Option Int}{n:Nat}{Q:Int×Int×Nat->Shared->Prop}(hs:s.heap.IsSliceOf sl vl vu .none)(pl:IsPart vl lo)(pu:IsPart vu hi)
  (h:Q (((sIx n 0 lo:Nat):Int),1,sIx n n hi-sIx n 0 lo) s):wpAny (model prog w) A (Builtin.Slice.sliceApplied (.ref sl) (pure (n:Int))) Q E s:=by
 obtain⟨os,hos,hcs,hds⟩:=id hs
 unfold Builtin.Slice.sliceApplied Builtin.Slice.sliceFields
 refine wpAny_bind (wpAny_bind (wpAny_field hos hds (x:=vl) rfl (wpAny_bind (wpAny_field hos hds (x:=vu) rfl (wpAny_bind (wpAny_field hos hds (x:=.none) rfl (wpAny_pure ?_)))))))
 refine wpAny_bind (slicePart_none ?_)
 show wpAny _ _ (if ((1:Int)==0)=true then _ else _) _ _ s
 rw [if_neg (by decide)]
 refine wpAny_bind (ziJ pl (wpAny_bind (ziJ pu (wpAny_bind (wpAny_pure ?_)))))
 show wpAny _ _ (match Builtin.Slice.sliceAdjust lo hi 1 (n:Int) with | (lo,hi)=>pure (lo,(1:Int),Builtin.Slice.slicePlaces lo hi 1)) _ _ s
 rw [zne lo hi n]
 show wpAny _ _ (pure (((sIx n 0 lo:Nat):Int),(1:Int),Builtin.Slice.slicePlaces ((sIx n 0 lo:Nat):Int) ((sIx n n hi:Nat):Int) 1)) _ _ s
 rw [zmA]
 exact wpAny_pure h
theorem zqa (xs:Array Value)(i k:Nat):((List.range k).filterMap fun (m:Nat)=>xs[((i:Int)+(m:Int)*1).toNat]?).toArray=((xs.toList.drop i).take k).toArray:=by
 have e:(fun (m:Nat)=>xs[((i:Int)+(m:Int)*1).toNat]?)=fun m=>xs[i+m]?:=by
  funext m
  have:((i:Int)+(m:Int)*1).toNat=i+m:=by omega
  rw [this]
 rw [e]
 have:=pick_run xs i k
 rw [List.filterMap_map] at this
 have e2:((fun x=>xs[x]?) ∘ fun x=>i+x)=fun m=>xs[i+m]?:=rfl
 rw [e2] at this
 rw [this]
theorem zh2 {t sl:Addr}{items:Array Value}{vl vu:Value}{lo hi:Option Int}{Q:Value->Shared->Prop}(ht:IsTup s.heap t items)(hs:s.heap.IsSliceOf sl vl vu .none)(pl:IsPart vl lo)(pu:IsPart vu hi)
  (hw:¬ (sIx items.size 0 lo=0/\sIx items.size items.size hi=items.size))
  (h:Q (.ref s.heap.objs.size) { s with heap:=s.heap.push { cls:=.type "tuple",data:=.seq ((items.toList.drop (sIx items.size 0 lo)).take (sIx items.size items.size hi-sIx items.size 0 lo)).toArray } })
  (hsz:items.size<=sizeLine):wpAny (model prog w) A (getItem (.ref t) (.ref sl)) Q E s:=by
 have htake:sizeOk (.seq ((items.toList.drop (sIx items.size 0 lo)).take (sIx items.size items.size hi-sIx items.size 0 lo)).toArray):=by
  show ((items.toList.drop (sIx items.size 0 lo)).take (sIx items.size items.size hi-sIx items.size 0 lo)).toArray.size<=sizeLine
  rw [List.size_toArray,List.length_take,List.length_drop,Array.length_toList]
  omega
 have hj:sIx items.size items.size hi<=items.size:=zi9 _ _ (Nat.le_refl _) hi
 obtain⟨os,hos,hcs,hds⟩:=id hs
 have hTs:s.TypeIs (.ref sl) "slice":=⟨os,hos,hcs⟩
 unfold getItem
 try with_reducible refine wpAny_holding ?_
 first | refine wpAny_bind (wpAny_pure ?_) | skip
 refine wpAny_bind (wpAny_sequenceKey ht.typeIs (by decide) ?_)
 refine wpAny_bind (wpAny_callSpecial?_slot (name:=Str.ofString "__getitem__") ht.typeIs PyProof.Rows.slot_tuple_getitem
  (wpAny_call_entry PyProof.Rows.slot_tuple_getitem ht.typeIs entry_tuple_getitem ?_ (args_tuple_getitem _ _)))
 show wpAny _ _ (Builtin.Tuple.tupleItemsOf (.ref t) >>= _) _ _ s
 refine wpAny_bind (tupleItemsOf_ ht ?_)
 refine wpAny_bind (wpAny_typeOf hTs ?_)
 rw [if_pos (by decide)]
 refine wpAny_bind (zeS hs pl pu ?_)
 have hno:¬ ((((sIx items.size 0 lo:Nat):Int)==0&&(1:Int)==1&&(sIx items.size items.size hi-sIx items.size 0 lo)==items.size)=true):=by
  intro q
  rw [Bool.and_eq_true,Bool.and_eq_true] at q
  have q1:((sIx items.size 0 lo:Nat):Int)=0:=eq_of_beq q.1.1
  have q2:sIx items.size items.size hi-sIx items.size 0 lo=items.size:=eq_of_beq q.2
  exact hw ⟨by omega,by omega⟩
 show wpAny _ _ (if (((sIx items.size 0 lo:Nat):Int)==0&&(1:Int)==1&&(sIx items.size items.size hi-sIx items.size 0 lo)==items.size)=true then _ else _) _ _ s
 rw [if_neg hno,zqa]
 first
  | exact wpAny_bind (m:=Builtin.Tuple.tupleExact _) (wpAny_newObj_type (wpAny_pure ⟨_,rfl,wpAny_pure h⟩) htake)
  | exact wpAny_bind (m:=Builtin.Tuple.tupleExact _) (wpAny_newObj_type (wpAny_bind (wpAny_pure (wpAny_pure ⟨_,rfl,wpAny_pure h⟩))) htake)
  | exact wpAny_bind (wpAny_bind (m:=Builtin.Tuple.tupleExact _) (wpAny_newObj_type (wpAny_pure (wpAny_pure ⟨_,rfl,wpAny_pure h⟩)) htake))
  | exact wpAny_bind (wpAny_bind (m:=Builtin.Tuple.tupleExact _) (wpAny_newObj_type (wpAny_pure ⟨_,rfl,wpAny_pure h⟩) htake))
end
end HT
namespace L2
open PySem PySem.Spec PyProof.Rows
abbrev TO:=St->Hp->(Option Int->Hp->Prop)->Prop
def PO (X:Cx)(e:Option Expr)(t:TO):Prop :=
 ∀ (pins:List (Addr×Obj)) (s:Shared) (σ:St) (H:Hp) (Q:Option Int->Hp->Prop),Inv X pins σ H s->t σ H Q ->
  wpAny (model X.prog X.w) X.A (evalPart e X.env) (fun u s'=>∃ o H',Inv X pins σ H' s'/\IsPart u o/\Q o H') X.xe s
def zrO:TO:=fun _ H Q=>Q none H
def zvW (t:TE):TO:=fun σ H Q=>t σ H fun x H1=>∃ i,x=.int i/\Q (some i) H1
section
variable {X:Cx}{e:Expr}{te:TE}{lo hi:Option Expr}{tl th:TO}{pos p2:Pos}
theorem zrv:PO X none zrO:=by
 intro pins s σ H Q I h
 rw [evalPart_none]
 exact wpAny_pure ⟨none,H,I,.none,h⟩
theorem zrU (h:PE X e te):PO X (some e) (zvW te):=by
 intro pins s σ H Q I hw
 rw [evalPart_some]
 refine thn (h pins s σ H _ I hw) fun u s1 ⟨x,H1,I1,r1,q1⟩=>?_
 obtain⟨i,rfl,q⟩:=q1
 obtain⟨t,rfl⟩:=r1
 exact⟨some i,H1,I1,.int i t,q⟩
def SlR (X:Cx)(r:V->Option Int->Option Int->Hp->VK->Prop):Prop :=
 ∀ (pins:List (Addr×Obj)) (s:Shared) (σ:St) (H:Hp) (x:V) (v vl vu:Value) (lo hi:Option Int) (sl:Addr) (Q:VK),Inv X pins σ H s->RelV x v->s.heap.IsSliceOf sl vl vu .none->IsPart vl lo->IsPart vu hi->r x lo hi H Q ->
  ∃ T id,typeLookup (.type T) "__getitem__"=pure (some (.builtin id))/\s.TypeIs v T/\wpAny (model X.prog X.w) X.A (getItem v (.ref sl)) (EP X pins σ Q) X.xe s
theorem SlR.or {r r':V->Option Int->Option Int->Hp->VK->Prop}(h:SlR X r)(h':SlR X r'):SlR X (fun x lo hi H Q=>r x lo hi H Q\/r' x lo hi H Q):=by
 intro pins s σ H x v vl vu lo hi sl Q I rx hs pl pu q
 rcases q with q | q
 ·exact h pins s σ H x v vl vu lo hi sl Q I rx hs pl pu q
 ·exact h' pins s σ H x v vl vu lo hi sl Q I rx hs pl pu q
def tSl (r:V->Option Int->Option Int->Hp->VK->Prop)(te:TE)(tl th:TO):TE:=fun σ H Q=>te σ H fun x H1=>tl σ H1 fun l H2=>th σ H2 fun u H3=>r x l u H3 Q
theorem zpY {r:V->Option Int->Option Int->Hp->VK->Prop}(hr:SlR X r)(he:PE X e te)(hl:PO X lo tl)(hu:PO X hi th):PE X (.Subscript e (.Slice lo hi none p2) pos) (tSl r te tl th):=by
 intro pins s σ H Q I h
 refine Subscript_ (thn (he pins s σ H _ I h) fun v s1 ⟨x,H1,I1,r1,q1⟩=>?_)
 refine wpAny_Slice (thn (hl pins s1 σ H1 _ I1 q1) fun vl s2 ⟨l,H2,I2,pl,q2⟩=>thn (hu pins s2 σ H2 _ I2 q2) fun vu s3 ⟨u,H3,I3,pu,q3⟩=>?_)
 rw [evalPart_none]
 refine wpAny_pure ?_
 have I4:Inv X pins σ H3 { s3 with heap:=s3.heap.push { cls:=.type "slice",data:=.fields #[vl,vu,.none] } }:=I3.kept (t':=s3.toks) fun b ob q=>Heap.get?_push_of_some _ q
 obtain⟨T,id,hT,ht,hg⟩:=hr pins { s3 with heap:=s3.heap.push { cls:=.type "slice",data:=.fields #[vl,vu,.none] } } σ H3 x v vl vu l u s3.heap.objs.size Q I4 r1 (Heap.IsSliceOf.new ..) pl pu q3
 show wpAny (model X.prog X.w) X.A (subscriptTail e (.Slice lo hi none p2) v (.ref s3.heap.objs.size)) (EP X pins σ Q) X.xe { s3 with heap:=s3.heap.push { cls:=.type "slice",data:=.fields #[vl,vu,.none] } }
 exact tail_any (ops:=[.ref s3.heap.objs.size,v]) ht hT hg (by with_unfolding_all rfl)
def zgb (xs:List V)(lo hi:Option Int):List V:=(xs.drop (HT.sIx xs.length 0 lo)).take (HT.sIx xs.length xs.length hi-HT.sIx xs.length 0 lo)
theorem zh3 (xs:List V)(lo hi:Option Int):(zgb xs lo hi).length<=xs.length:=by
 unfold zgb
 rw [List.length_take,List.length_drop]
 omega
def zv3 (K:PySem.W.Frag):V->Option Int->Option Int->Hp->VK->Prop:=fun x lo hi H Q=>∃ a xs,x=.ref a/\SqT K H a xs /\
 ¬ (HT.sIx xs.length 0 lo=0/\HT.sIx xs.length xs.length hi=xs.length)/\∀ p,H p=none->Q (.ref p) (upd H p (.tup (zgb xs lo hi)))
theorem zuk:SlR X (zv3 X.K):=by
 intro pins s σ H x v vl vu lo hi sl Q I rx hs pl pu h
 obtain⟨a,xs,rfl,hx,hw,q⟩:=h
 cases rx
 obtain⟨its,r,ht,hz⟩:=I.tuple hx
 have hlen:its.toArray.size=xs.length:=by rw [List.size_toArray];exact r.length.symm
 refine⟨"tuple",_,PyProof.Rows.slot_tuple_getitem.lookup,ht.typeIs,?_⟩
 refine HT.zh2 ht hs pl pu (by rw [hlen];exact hw) ?_ (by rw [hlen];exact hz)
 rw [hlen]
 refine⟨.ref s.heap.objs.size,_,I.laid (t':=s.toks) (o:=.tup (zgb xs lo hi)) (fun b ob q=>Heap.get?_push_of_some _ q) (Nat.le_refl _) ?_,rfl,q _ (I.hok.fresh (Nat.le_refl _))⟩
 exact⟨Nat.le_trans (zh3 xs lo hi) hz,_,(r.drop (HT.sIx xs.length 0 lo)).take (HT.sIx xs.length xs.length hi-HT.sIx xs.length 0 lo),IsTup.new _ _⟩
def zuB (K:PySem.W.Frag):R2:=fun x y H Q=>∃ a b xs ys,x=.ref a/\y=.ref b/\SqT K H a xs/\SqT K H b ys/\xs≠[]/\xs.length+ys.length<=sizeLine /\
 (ys=[]->Q (.ref a) H)/\(ys≠[]->∀ p,H p=none->Q (.ref p) (upd H p (.tup (xs++ys))))
theorem Vals.nil_iff {xs:List V}{us:List Value}(r:Vals xs us):us=[]↔xs=[]:=by
 cases r with
 | nil=>simp
 | cons _ _=>simp
theorem zse:OpR X (binaryOp .Add) (zuB X.K):=by
 intro pins s σ H x y v u Q I rx ry h
 obtain⟨a,b,xs,ys,rfl,rfl,ha,hb,hx,hz,q1,q2⟩:=h
 cases rx
 cases ry
 obtain⟨its,r1,p1,_⟩:=I.tuple ha
 obtain⟨its2,r2,p2,_⟩:=I.tuple hb
 refine HT.zr0 p1 p2 (fun z=>hx (r1.nil_iff.mp z)) (fun z=>⟨.ref a,H,I,rfl,q1 (r2.nil_iff.mp z)⟩) (fun z=>?_) (by rw [<- r1.length,<- r2.length];exact hz)
 refine⟨.ref s.heap.objs.size,_,I.laid (t':=s.toks) (o:=.tup (xs++ys)) (fun b ob q=>Heap.get?_push_of_some _ q) (Nat.le_refl _) ?_,rfl,q2 (fun w=>z (r2.nil_iff.mpr w)) _ (I.hok.fresh (Nat.le_refl _))⟩
 exact⟨by rw [List.length_append];exact hz,_,r1.append r2,IsTup.new _ _⟩
end
end L2
namespace L2
open PySem PySem.Spec PyProof.Rows
def ixN (n:Nat)(i:Int):Option Nat:=if 0<=i then (if i<n then some i.toNat else none) else if -(n:Int)<=i then some (i+n).toNat else none
def atI {α:Type}(xs:List α)(i:Int):Option α:=(ixN xs.length i).bind fun j=>xs[j]?
theorem zmd {n:Nat}{i:Int}{j:Nat}(h:ixN n i=some j):seqIndex? i n=some j/\j<n/\-(n:Int)<=i/\i<n:=by
 unfold ixN at h
 by_cases h0:0<=i
 ·rw [if_pos h0] at h
  by_cases h1:i<n
  ·rw [if_pos h1] at h
   have e:i.toNat=j:=Option.some.inj h
   exact⟨by rw [seqIndex_of h0 h1,e],by omega,by omega,h1⟩
  ·rw [if_neg h1] at h;cases h
 ·rw [if_neg h0] at h
  by_cases h1:-(n:Int)<=i
  ·rw [if_pos h1] at h
   have e:(i+n).toNat=j:=Option.some.inj h
   exact⟨by rw [seqIndex_neg (by omega) h1,e],by omega,h1,by omega⟩
  ·rw [if_neg h1] at h;cases h
theorem zjw {α:Type}{xs:List α}{i:Int}{v:α}(h:atI xs i=some v):∃ j,seqIndex? i xs.length=some j/\xs[j]?=some v/\j<xs.length/\-(xs.length:Int)<=i/\i<xs.length:=by
 unfold atI at h
 cases e:ixN xs.length i with
 | none=>rw [e] at h;cases h
 | some j =>
  rw [e] at h
  obtain⟨h1,h2,h3,h4⟩:=zmd e
  exact⟨j,h1,h,h2,h3,h4⟩
def zmi (b:Expr):Prop:=∀ o i,subscripted b false o i=operate [o,i] (getItem o i)
def IxR (X:Cx)(r:R2):Prop :=
 ∀ (value slice:Expr) (pins:List (Addr×Obj)) (s:Shared) (σ:St) (H:Hp) (x y:V) (v u:Value) (Q:VK),Inv X pins σ H s->RelV x v->RelV y u->r x y H Q ->
  subscripted slice false v u=operate [v,u] (getItem v u)->wpAny (model X.prog X.w) X.A (subscriptTail value slice v u) (EP X pins σ Q) X.xe s
def MtR (X:Cx)(id:String)(r:V->List V->Hp->VK->Prop):Prop :=
 ∀ (pins:List (Addr×Obj)) (s:Shared) (σ:St) (H:Hp) (x:V) (xs:List V) (v:Value) (us:List Value) (Q:VK),Inv X pins σ H s->RelV x v->Vals xs us->r x xs H Q ->
  wpAny (model X.prog X.w) X.A (call (.builtin id) (v::us)) (EP X pins σ Q) X.xe s
section
variable {X:Cx}{a b:Expr}{ta tb:TE}{pos:Pos}
theorem IxR.or {r r':R2}(h:IxR X r)(h':IxR X r'):IxR X (fun x y H Q=>r x y H Q\/r' x y H Q):=by
 intro value slice pins s σ H x y v u Q I rx ry q hs
 rcases q with q | q
 ·exact h value slice pins s σ H x y v u Q I rx ry q hs
 ·exact h' value slice pins s σ H x y v u Q I rx ry q hs
theorem zuN {r:R2}(hr:IxR X r)(ha:PE X a ta)(hb:PE X b tb)(hs:zmi b):PE X (.Subscript a b pos) (tOp r ta tb):=by
 intro pins s σ H Q I h
 exact Subscript_ (zqn ha hb I h fun v u s2 x y H2 I2 rx ry q=>hr a b pins s2 σ H2 x y v u Q I2 rx ry q (hs _ _))
def zww (K:PySem.W.Frag):R2:=fun x y H Q=>∃ p xs i v,x=.ref p/\y=.int i/\SqL K H p xs/\atI xs i=some v/\Q v H
def zwF (K:PySem.W.Frag):R2:=fun x y H Q=>∃ p xs i v,x=.ref p/\y=.int i/\SqT K H p xs/\atI xs i=some v/\Q v H
def zwB:R2:=fun x y H Q=>∃ z i c,x=.str z/\y=.int i/\z.length<=sizeLine/\atI z.cps.toList i=some c/\Q (.str ⟨#[c]⟩) H
theorem zsc:IxR X (zww X.K):=by
  intro value slice pins s σ H x y v u Q I rx ry h hs
  obtain⟨p,xs,i,z,rfl,rfl,hq,he,q⟩:=h
  cases rx
  obtain⟨t,rfl⟩:=ry
  obtain⟨its,r,pl,hz⟩:=I.list hq
  obtain⟨j,h1,h2,h3,h4,h5⟩:=zjw he
  obtain⟨w,ew,rw'⟩:=r.get h2
  have hl:=r.length
  have hn:=zfz
  have fin:EP X pins σ Q w s:=⟨z,H,I,rw',q⟩
  by_cases h0:0<=i
  · have hj : i.toNat = j := by
      rw [seqIndex_of h0 h5] at h1
      exact Option.some.inj h1
    exact item_listR pl.isList h0 (by omega) (by rw [hj];simpa using ew) fin hs
  · have hj : (i + (its.toArray.size : Int)).toNat = j := by
      rw [seqIndex_neg (by omega) h4] at h1
      rw [List.size_toArray,<- hl]
      exact Option.some.inj h1
    exact subscriptTail_builtinR (x:=w) pl.isList.typeIs slot_list_getitem.lookup
      (wpAny_getItem_list_neg (Q:=fun r s'=>r=w/\EP X pins σ Q r s') pl.isList (by omega) (by rw [List.size_toArray]<;>omega) (by omega) (by rw [hj];simpa using ew) ⟨rfl,fin⟩) hs
theorem zuq:IxR X (zwF X.K):=by
 intro value slice pins s σ H x y v u Q I rx ry h hs
 obtain⟨p,xs,i,z,rfl,rfl,hq,he,q⟩:=h
 cases rx
 obtain⟨t,rfl⟩:=ry
 obtain⟨its,r,pl,hz⟩:=I.tuple hq
 obtain⟨j,h1,h2,h3,h4,h5⟩:=zjw he
 obtain⟨w,ew,rw'⟩:=r.get h2
 have hl:=r.length
 have hn:=zfz
 have fin:EP X pins σ Q w s:=⟨z,H,I,rw',q⟩
 exact subscriptTail_builtinR (x:=w) pl.typeIs slot_tuple_getitem.lookup
  (getItem_tuple (j:=j) (Q:=fun r s'=>r=w/\EP X pins σ Q r s') pl (by omega) (by omega) (by rw [List.size_toArray,<- hl];exact h1) (by simpa using ew) ⟨rfl,fin⟩) hs
theorem zt5:IxR X zwB:=by
 intro value slice pins s σ H x y v u Q I rx ry h hs
 obtain⟨z,i,c,rfl,rfl,hz,he,q⟩:=h
 obtain⟨t,rfl⟩:=rx
 obtain⟨t',rfl⟩:=ry
 obtain⟨j,h1,h2,h3,h4,h5⟩:=zjw he
 have hl:z.cps.toList.length=z.length:=by simp [Str.length]
 rw [hl] at h1 h4 h5
 have hn:=zfz
 exact tail_any (typeIs_str s z t) slot_str_getitem.lookup (getItem_str (c:=c) (by
  have e1:decide (i < -(2 ^ 63:Int))=false:=decide_eq_false (by omega)
  have e2:decide (i ≥ 2 ^ 63)=false:=decide_eq_false (by omega)
  rw [e1,e2,Bool.or_false]) (by rw [h1];simpa using h2) ⟨.str ⟨#[c]⟩,H,I.tok _,⟨_,rfl⟩,q⟩) hs
theorem zm8 (its:List Value)(n j:Nat)(u:Value):Obj.mapSeq (·.setIfInBounds j u) { cls:=.type "list",data:=.seq its.toArray n }={ cls:=.type "list",data:=.seq (its.set j u).toArray n }:=by
 simp [Obj.mapSeq]
theorem Inv.lst {pins:List (Addr×Obj)}{σ:St}{H:Hp}{s:Shared}{p:Addr}{xs:List V}(I:Inv X pins σ H s)(h:H p=some (.lst xs)) :
  ∃ (its:List Value) (n:Nat),Vals xs its/\s.heap.get? p=some { cls:=.type "list",data:=.seq its.toArray n }/\xs.length<=sizeLine:=by
 obtain⟨z,its,n,r,e⟩:=I.hok p _ h
 exact⟨its,n,r,e,z⟩
theorem Inv.lstUpd {pins:List (Addr×Obj)}{σ:St}{H:Hp}{s:Shared}{p:Addr}{xs ys:List V}{its its':List Value}{n n':Nat}{f:Obj->Obj}(I:Inv X pins σ H s)(h:H p=some (.lst xs))
    (ho:s.heap.get? p=some { cls:=.type "list",data:=.seq its.toArray n }) (hf:f { cls:=.type "list",data:=.seq its.toArray n }={ cls:=.type "list",data:=.seq its'.toArray n' }) (r:Vals ys its') (hz:ys.length<=sizeLine) (t:Nat) :
    Inv X pins σ (upd H p (.lst ys)) { s with heap:=s.heap.update p f,toks:=t }:=by
  have e:(s.heap.update p f).get? p=some { cls:=.type "list",data:=.seq its'.toArray n' }:=by
    rw [Heap.get?_update_self f ho (by rw [hf]<;>rfl),hf]
  refine I.write (x:=p) (e:=p) (by rw [h];trivial) (.inl rfl) (fun b u hb q=>(Heap.get?_update_other _ _ (Ne.symm hb)).trans q) ⟨_,e⟩ ?_
  exact⟨hz,its',n',r,e⟩
def zu4:V->V->V->Hp->(Hp->Prop)->Prop:=fun o i v H Q=>∃ p xs k j,o=.ref p/\i=.int k/\H p=some (.lst xs)/\ixN xs.length k=some j/\Q (upd H p (.lst (xs.set j v)))
theorem set_list:ztJ X zu4:=by
 intro pins s σ H o i v ov iv u Q I ro ri rv h
 obtain⟨p,xs,k,j,rfl,rfl,hp,hj,q⟩:=h
 cases ro
 obtain⟨t,rfl⟩:=ri
 obtain⟨its,n,r,ho,hz⟩:=I.lst hp
 obtain⟨h1,h2,h3,h4⟩:=zmd hj
 have hl:=r.length
 have hn:=zfz
 have I':Inv X pins σ (upd H p (.lst (xs.set j v))) { s with heap:=s.heap.update p (Obj.mapSeq (·.setIfInBounds j u)) } :=
  I.lstUpd hp ho (zm8 its n j u) (r.set rv j) (by rw [List.length_set];exact hz) s.toks
 by_cases h0:0<=k
 ·have hk:k.toNat=j:=by
   rw [seqIndex_of h0 h4] at h1
   exact Option.some.inj h1
  exact PySem.W.ki_setAt ho h0 (by omega) (by rw [List.size_toArray,<- hl];exact h4) (by rw [hk];exact⟨_,I',q⟩)
 ·have hk:(k+(its.toArray.size:Int)).toNat=j:=by
   rw [seqIndex_neg (by omega) h3] at h1
   rw [List.size_toArray,<- hl]
   exact Option.some.inj h1
  exact PySem.W.ki_setBack ho (by omega) (by rw [List.size_toArray,<- hl];exact h3) (by omega) (by rw [hk];exact⟨_,I',q⟩)
theorem zlx (lo hi:Option Int)(n:Nat):(sliceBounds lo hi none n).1=((HT.sIx n 0 lo:Nat):Int)/\(sliceBounds lo hi none n).2.1=((HT.sIx n n hi:Nat):Int)/\(sliceBounds lo hi none n).2.2=1:=by
  refine⟨?_,?_,rfl⟩
  · cases lo with
    | none=>simp [sliceBounds,HT.sIx]
    | some i =>
      simp only [sliceBounds,HT.sIx,Option.getD_none,show (1:Int) > 0 by decide,if_true]
      by_cases h:i<0
      · simp only [h,if_true]<;>omega
      · simp only [h,if_false]<;>omega
  · cases hi with
    | none=>simp [sliceBounds,HT.sIx]
    | some i =>
      simp only [sliceBounds,HT.sIx,Option.getD_none,show (1:Int) > 0 by decide,if_true]
      by_cases h:i<0
      · simp only [h,if_true]<;>omega
      · simp only [h,if_false]<;>omega
theorem zkm (its:List Value)(lo hi:Option Int):slicePick its.toArray lo hi none=((its.drop (HT.sIx its.length 0 lo)).take (HT.sIx its.length its.length hi-HT.sIx its.length 0 lo)).toArray:=by
  obtain⟨h1,h2,h3⟩:=zlx lo hi its.toArray.size
  unfold slicePick
  rw [h1,h2,h3]
  simp only [sliceRange_one,pick_run,List.size_toArray]<;>rfl
def zwa (K:PySem.W.Frag):V->Option Int->Option Int->Hp->VK->Prop:=fun x lo hi H Q=>∃ a xs,x=.ref a/\SqL K H a xs/\∀ p,H p=none->Q (.ref p) (upd H p (.lst (zgb xs lo hi)))
theorem zrQ:SlR X (zwa X.K):=by
  intro pins s σ H x v vl vu lo hi sl Q I rx hs pl pu h
  obtain⟨a,xs,rfl,hx,q⟩:=h
  cases rx
  obtain⟨its,r,ht,hz⟩:=I.list hx
  have hlen:=r.length
  refine⟨"list",_,slot_list_getitem.lookup,ht.isList.typeIs,?_⟩
  refine wpAny_getItem_list_slice ht.isList hs pl pu .none (by simp) ?_ (by rw [List.size_toArray]<;>omega)
  rw [zkm,<- hlen]
  refine⟨.ref s.heap.objs.size,_,I.laid (t':=s.toks) (o:=.lst (zgb xs lo hi)) (fun b ob q=>Heap.get?_push_of_some _ q) (Nat.le_refl _) ?_,rfl,q _ (I.hok.fresh (Nat.le_refl _))⟩
  exact⟨Nat.le_trans (zh3 xs lo hi) hz,_,0,(r.drop (HT.sIx xs.length 0 lo)).take (HT.sIx xs.length xs.length hi-HT.sIx xs.length 0 lo),Heap.get?_push_size _ rfl⟩
theorem zkw:zaK X (.builtin "len") (fun xs H Q=>∃ p ys,xs=[.ref p]/\(SqL X.K H p ys\/SqT X.K H p ys)/\Q (.int ys.length) H):=by
  intro pins s σ H xs us Q I r h
  obtain⟨p,ys,rfl,hq,q⟩:=h
  obtain⟨u,rfl,rx⟩:=vals1 r
  cases rx
  have hn:=zfz
  rcases hq with hq | hq
  · obtain⟨its,r',pl,hz⟩:=I.list hq
    have hlen:=r'.length
    exact Calls.call_len_list pl.isList (by simp only [List.size_toArray]<;>omega) ⟨.int ys.length,H,I.tok _,⟨s.toks+1,by rw [List.size_toArray,hlen]⟩,q⟩
  · obtain⟨its,r',pl,hz⟩:=I.tuple hq
    have hlen:=r'.length
    exact len_tuple pl (by simp only [List.size_toArray]<;>omega) ⟨.int ys.length,H,I.tok _,⟨s.toks+1,by rw [List.size_toArray,hlen]⟩,q⟩
theorem zlj:zaK X (.builtin "len") (fun xs H Q=>∃ z,xs=[.str z]/\z.length<=sizeLine/\Q (.int z.length) H):=by
 intro pins s σ H xs us Q I r h
 obtain⟨z,rfl,hz,q⟩:=h
 obtain⟨u,rfl,t,rfl⟩:=vals1 r
 have hn:=zfz
 exact len_str (by omega) ⟨.int z.length,H,I.tok _,⟨_,rfl⟩,q⟩
theorem zaK.or {f:Value}{r r':List V->Hp->VK->Prop}(h:zaK X f r)(h':zaK X f r'):zaK X f (fun xs H Q=>r xs H Q\/r' xs H Q):=by
 intro pins s σ H xs us Q I rs q
 rcases q with q | q
 ·exact h pins s σ H xs us Q I rs q
 ·exact h' pins s σ H xs us Q I rs q
theorem zlf:zaK X (.type "list") (fun xs H Q=>∃ p ys,xs=[.ref p]/\(SqL X.K H p ys\/SqT X.K H p ys)/\∀ l,H l=none->Q (.ref l) (upd H l (.lst ys))):=by
  intro pins s σ H xs us Q I r h
  obtain⟨p,ys,rfl,hq,q⟩:=h
  obtain⟨u,rfl,rx⟩:=vals1 r
  cases rx
  have fin : ∀ (its : List Value), Vals ys its → ys.length ≤ sizeLine → ∀ (h' : Heap) (c' : Nat), (∀ b o', s.heap.get? b = some o' → h'.get? b = some o') →
      h'.get? s.heap.objs.size=some { cls:=.type "list",dict:=none,data:=.seq its.toArray c',slots:=#[] }->EP X pins σ Q (.ref s.heap.objs.size) { s with heap:=h' }:=fun its r' hz h' c' kp e =>
    ⟨.ref s.heap.objs.size,_,I.laid (t':=s.toks) kp (Nat.le_refl _) (show zbc X.prog X.w _ h' _ (.lst ys) from ⟨hz,its,c',r',e⟩),rfl,q _ (I.hok.fresh (Nat.le_refl _))⟩
  rcases hq with hq | hq
  · obtain⟨its,r',pl,hz⟩:=I.list hq
    have hlen:=r'.length
    obtain⟨o,ho,hc,n,hd⟩:=pl.isList
    exact call_list_seq p (.inl rfl) ho hc hd (fun h' c' kp e=>fin its r' hz h' c' kp e) (by simp only [List.size_toArray]<;>omega)
  · obtain⟨its,r',pl,hz⟩:=I.tuple hq
    have hlen:=r'.length
    obtain⟨o,ho,hc,n,hd⟩:=pl
    exact call_list_seq p (.inr rfl) ho hc hd (fun h' c' kp e=>fin its r' hz h' c' kp e) (by simp only [List.size_toArray]<;>omega)
theorem zkf:zaK X (.type "tuple") (fun xs H Q=>∃ p ys,xs=[.ref p]/\((SqL X.K H p ys/\∀ l,H l=none->Q (.ref l) (upd H l (.tup ys)))\/(SqT X.K H p ys/\Q (.ref p) H))):=by
  intro pins s σ H xs us Q I r h
  obtain⟨p,ys,rfl,h⟩:=h
  obtain⟨u,rfl,rx⟩:=vals1 r
  cases rx
  rcases h with ⟨hq,q⟩ | ⟨hq,q⟩
  · obtain⟨its,r',pl,hz⟩:=I.list hq
    have hlen:=r'.length
    refine call_tuple_list pl.isList (fun h' kp=>?_) (by simp only [List.size_toArray]<;>omega)
    have I1:Inv X pins σ H { s with heap:=h' }:=I.kept (t':=s.toks) kp
    have I2:Inv X pins σ (upd H h'.objs.size (.tup ys)) { s with heap:=h'.push { cls:=.type "tuple",data:=.seq its.toArray } } :=
      I1.laid (t':=s.toks) (fun b o e=>Heap.get?_push_of_some _ e) (Nat.le_refl _) (show zbc X.prog X.w _ _ _ (.tup ys) from ⟨hz,its,r',IsTup.new _ _⟩)
    exact⟨.ref h'.objs.size,_,I2,rfl,q _ (I1.hok.fresh (Nat.le_refl _))⟩
  · obtain⟨its,r',pl,hz⟩:=I.tuple hq
    exact call_tuple_same pl ⟨.ref p,H,I,rfl,q⟩
def tyV (K:PySem.W.Frag)(T:String)(x:V)(H:Hp):Prop:=match x with
 | .str _=>T="str"
 | .int _=>T="int"
 | .ref p=>(T="list"/\∃ xs,SqL K H p xs)\/(T="tuple"/\∃ o,K.lookup p=some o/\o.cls=.type "tuple"/\o.dict=none) \/
   (T="dict"/\((∃ kvs,H p=some (.dK kvs))\/∃ kvs,H p=some (.dT kvs)))\/(T="set"/\∃ S n,H p=some (.set S n))
 | _=>False
theorem zoY {pins:List (Addr×Obj)}{σ:St}{H:Hp}{s:Shared}{T:String}{x:V}{v:Value}(I:Inv X pins σ H s)(r:RelV x v)(ty:tyV X.K T x H) :
  s.TypeIs v T/\∀ a,v=.ref a->∃ ob,s.heap.get? a=some ob/\ob.dict=none:=by
 cases x with
 | str z =>
  obtain⟨t,rfl⟩:=r
  cases (show T="str" from ty)
  exact⟨typeIs_str s z t,fun _ e=>nomatch e⟩
 | int i =>
  obtain⟨t,rfl⟩:=r
  cases (show T="int" from ty)
  exact⟨typeIs_int s i t,fun _ e=>nomatch e⟩
 | ref p =>
  cases r
  rcases ty with ⟨rfl,xs,hq⟩ | ⟨rfl,o,hk,hc,hd⟩ | ⟨rfl,hk⟩ | ⟨rfl,S,n,hk⟩
  ·obtain⟨its,_,pl,_⟩:=I.list hq
   refine⟨pl.isList.typeIs,fun a e=>?_⟩
   cases e
   obtain⟨o,n,e,c,hd,_⟩:=pl
   exact⟨o,e,hd⟩
  ·refine⟨⟨o,I.kIn p o hk,hc⟩,fun a e=>?_⟩
   cases e
   exact⟨o,I.kIn _ o hk,hd⟩
  ·have z:∃ o,s.heap.get? p=some o/\o.ExactDict:=by
    rcases hk with ⟨kvs,hk⟩ | ⟨kvs,hk⟩
    ·obtain⟨_,_,_,_,o,_,_,e,ex,_⟩:=I.hok p _ hk
     exact⟨o,e,ex⟩
    ·obtain⟨_,_,_,_,o,_,_,e,ex,_⟩:=I.hok p _ hk
     exact⟨o,e,ex⟩
   obtain⟨o,e,ex⟩:=z
   refine⟨⟨o,e,ex.1⟩,fun a e2=>?_⟩
   cases e2
   exact⟨o,e,ex.2.1⟩
  ·obtain⟨o,_,_,_,e,ex,_⟩:=I.hok p _ hk
   refine⟨⟨o,e,ex.1⟩,fun a e2=>?_⟩
   cases e2
   exact⟨o,e,ex.2.1⟩
 | _=>exact False.elim ty
def zvY (K:PySem.W.Frag)(T:String)(r:V->List V->Hp->VK->Prop)(to:TE):TE:=fun σ H Q=>to σ H fun x H1=>tyV K T x H1/\r x [] H1 Q
def tBM (K:PySem.W.Frag)(T:String)(r:V->List V->Hp->VK->Prop)(to:TE)(t:TA):TE:=fun σ H Q=>to σ H fun x H1=>tyV K T x H1/\t σ H1 fun xs H2=>r x xs H2 Q
variable {o e:Expr}{es:List Expr}{to:TE}{t:TA}{name:Str}{apos cpos:Pos}{T id:String}{r:V->List V->Hp->VK->Prop}
theorem zt3 (pa:PlainAttrs T)(slot:Slot T name id)(hty:typeOf (.builtin id)=pure (.type "method_descriptor"))(hm:MtR X id r)(ho:PE X o to)
  (hbase:attributeBase o name X.env (eval o X.env)=eval o X.env:=by rfl) (hline:(apos.endLine==cpos.line)=true:=by rfl):PE X (.Call (.Attribute o name apos) [] [] cpos) (zvY X.K T r to):=by
 intro pins s σ H Q I h
 refine wpAny_Call_method0_late hbase hline (thn (ho pins s σ H _ I h) fun v s1 ⟨x,H1,I1,r1,ty,q1⟩=>?_)
 obtain⟨h1,h2⟩:=zoY I1 r1 ty
 exact⟨T,id,pa,slot,hty,h1,h2,Calls.callWith_builtin rfl (PySem.evalArgs_none (hm pins s1 σ H1 x [] v [] Q I1 r1 .nil q1))⟩
theorem zuT (pa:PlainAttrs T)(slot:Slot T name id)(hty:typeOf (.builtin id)=pure (.type "method_descriptor"))(hm:MtR X id r)(ho:PE X o to)(ha:PA X (e::es) t)
    (hbase:attributeBase o name X.env (eval o X.env)=eval o X.env:=by rfl)
    (hfew:((backTo cpos (starEach (e::es) X.env)).all (fun x=>!x.1)&&(backToKw cpos (keywordEach [] X.env)).all (fun x=>x.1.isSome)
     &&decide ((e::es).length+([]:List Keyword).length+(if ([]:List Keyword).isEmpty then 0 else 1)<30))=true:=by rfl)
    (hline:(apos.endLine==cpos.line)=true:=by rfl) (hs:starEach (e::es) X.env=(false,eval e X.env)::starEach es X.env:=by rfl) (hplain:(backTo cpos (starEach es X.env)).any (·.1)=false:=by rfl) :
    PE X (.Call (.Attribute o name apos) (e::es) [] cpos) (tBM X.K T r to t):=by
  intro pins s σ H Q I h
  refine wpAny_Call_method_late hbase hfew hline rfl (thn (ho pins s σ H _ I h) fun v s1 ⟨x,H1,I1,r1,ty,q1⟩=>?_)
  obtain⟨h1,h2⟩:=zoY I1 r1 ty
  refine⟨T,id,pa,slot,hty,h1,h2,?_⟩
  have hA:=ha cpos pins s1 σ H1 _ I1 q1
  rw [hs] at hA ⊢
  refine Calls.callWith_builtin (by show (false||(backTo cpos (starEach es X.env)).any (·.1))=false;rw [hplain]<;>rfl) (Calls.evalArgs_plain ?_)
  exact thn hA fun us s2 ⟨vs,H2,I2,r2,q2⟩=>hm pins s2 σ H2 x vs v us Q I2 r1 r2 q2
/- xs.append(e),list.index on a module's tuple .. are MtR facts of 06m -/
end
end L2
namespace L2
open PySem PySem.Spec PyProof.Rows
def MtM (X:Cx)(id:String)(r:V->List V->Hp->VK->Prop):Prop :=
 ∀ (pins:List (Addr×Obj)) (s:Shared) (σ:St) (H:Hp) (x:V) (xs:List V) (v:Value) (us:List Value) (Q:VK),Inv X pins σ H s->RelV x v->Vals xs us->r x xs H Q ->
  wpAny (model X.prog X.w) X.A (call (.builtin id) (v::us)) (EP X pins σ Q) X.xe s
theorem Vals.one:∀ {x:V} {us:List Value},Vals [x] us->∃ u,us=[u]/\RelV x u
 | _,_,.cons r .nil=>⟨_,rfl,r⟩
theorem Vals.zero:∀ {us:List Value},Vals [] us->us=[]
 | _,.nil=>rfl
theorem Vals.reverse {xs:List V}{us:List Value}(h:Vals xs us):Vals xs.reverse us.reverse:=by
 induction h with
 | nil=>exact .nil
 | cons r t ih=>rw [List.reverse_cons,List.reverse_cons];exact Vals.append ih (.cons r .nil)
section
variable {X:Cx}{pins:List (Addr×Obj)}{σ:St}{H:Hp}{s:Shared}{l b:Addr}{xs ys zs:List V}
theorem Inv.lset {its its':List Value}{n:Nat}{f:Array Value->Array Value}{t':Nat}(I:Inv X pins σ H s)(hH:H l=some (.lst xs))
  (e:s.heap.get? l=some { cls:=.type "list",data:=.seq its.toArray n }) (hf:f its.toArray=its'.toArray) (hv:Vals ys its') (hz:ys.length<=sizeLine) :
  Inv X pins σ (upd H l (.lst ys)) { s with heap:=s.heap.update l (Obj.mapSeq f),toks:=t' }:=by
 have q:=PySem.IsL.update e f
 rw [hf] at q
 refine I.write (x:=l) (e:=l) (by rw [hH];exact trivial) (.inl rfl) (fun b' u hb hu=>(Heap.get?_update_other s.heap (Obj.mapSeq f) (Ne.symm hb)).trans hu) ⟨_,q⟩ ?_
 exact⟨hz,its',_,hv,q⟩
theorem Inv.lnew {its:List Value}{t':Nat}(I:Inv X pins σ H s)(hv:Vals ys its)(hz:ys.length<=sizeLine) :
  Inv X pins σ (upd H s.heap.objs.size (.lst ys)) { s with heap:=s.heap.push { cls:=.type "list",data:=.seq its.toArray },toks:=t' } :=
 I.laid (fun _ _ q=>Heap.get?_push_of_some _ q) (Nat.le_refl _) ⟨hz,its,0,hv,Heap.get?_push_size _ rfl⟩
theorem Inv.fresh (I:Inv X pins σ H s):H s.heap.objs.size=none:=I.hok.fresh (Nat.le_refl _)
theorem Inv.lstM (I:Inv X pins σ H s)(hH:H l=some (.lst xs)):xs.length<=sizeLine/\∃ (its:List Value) (n:Nat),Vals xs its/\xs.length=its.length/\s.heap.get? l=some { cls:=.type "list",data:=.seq its.toArray n }:=by
 obtain⟨z,its,n,r,e⟩:=I.hok l _ hH
 exact⟨z,its,n,r,r.length,e⟩
theorem zkF {n:Nat}(h:n<=sizeLine):Builtin.List.listTooLong n=false:=by
 unfold Builtin.List.listTooLong
 exact decide_eq_false (by omega)
end
section
variable {X:Cx}
def zmt:V->List V->Hp->VK->Prop:=fun x vs H Q=>∃ l xs y,x=.ref l/\vs=[y]/\H l=some (.lst xs)/\xs.length<sizeLine/\Q .non (upd H l (.lst (xs++[y])))
theorem zj4:MtM X "list.append" zmt:=by
 intro pins s σ H x vs v us Q I rx rv h
 obtain⟨l,xs,y,rfl,rfl,hH,hz,q⟩:=h
 cases rx
 obtain⟨u,rfl,ru⟩:=rv.one
 obtain⟨z,its,n,r,hl,e⟩:=I.lstM hH
 refine call_meets F.slot_list_append ⟨_,e,rfl⟩ F.entry_list_append (F.args_list_append_2 _ _) (PySem.list_append l its.toArray n u (by rw [List.size_toArray];omega)) ⟨e,?_⟩
 refine⟨.non,_,I.lset (its':=its++[u]) hH e (by simp) (r.append (.cons ru .nil)) ?_,rfl,q⟩
 rw [List.length_append,List.length_singleton]
 omega
def zmg:V->List V->Hp->VK->Prop:=fun x vs H Q=>∃ l b xs zs,x=.ref l/\vs=[.ref b]/\H l=some (.lst xs)/\H b=some (.lst zs)/\xs.length+zs.length<=sizeLine/\Q .non (upd H l (.lst (xs++zs)))
theorem zoH:MtM X "list.extend" zmg:=by
 intro pins s σ H x vs v us Q I rx rv h
 obtain⟨l,b,xs,zs,rfl,rfl,hH,hB,hz,q⟩:=h
 cases rx
 obtain⟨u,rfl,ru⟩:=rv.one
 cases ru
 obtain⟨z,its,n,r,hl,e⟩:=I.lstM hH
 obtain⟨z2,its2,n2,r2,hl2,e2⟩:=I.lstM hB
 have hsz:its.toArray.size+its2.toArray.size<=sizeLine:=by rw [List.size_toArray,List.size_toArray];omega
 have hlong:¬ (!its.toArray.isEmpty&&Builtin.List.listTooLong (its.toArray.size+its2.toArray.size))=true:=by
  rw [zkF hsz,Bool.and_false]
  exact Bool.false_ne_true
 refine call_meets F.slot_list_extend ⟨_,e,rfl⟩ F.entry_list_extend (F.args_list_extend_2 _ _)
  (AutoSeq1.list_extend_list_list_0 l its.toArray n b its2.toArray n2 hlong (by rw [List.size_toArray];omega) (by omega)) ⟨e,e2,?_⟩
 refine⟨.non,_,I.lset (its':=its++its2) hH e (by simp) (r.append r2) ?_,rfl,q⟩
 rw [List.length_append]
 omega
def zpA:V->List V->Hp->VK->Prop:=fun x vs H Q=>∃ l xs,x=.ref l/\vs=[]/\H l=some (.lst xs)/\Q .non (upd H l (.lst xs.reverse))
theorem znr:MtM X "list.reverse" zpA:=by
 intro pins s σ H x vs v us Q I rx rv h
 obtain⟨l,xs,rfl,rfl,hH,q⟩:=h
 cases rx
 have hus:=rv.zero
 subst hus
 obtain⟨z,its,n,r,hl,e⟩:=I.lstM hH
 refine call_meets F.slot_list_reverse ⟨_,e,rfl⟩ F.entry_list_reverse (F.args_list_reverse_1 _) (AutoSeq1.list_reverse_list_0 l its.toArray n (by rw [List.size_toArray];omega)) ⟨e,?_⟩
 refine⟨.non,_,I.lset (its':=its.reverse) hH e (by simp) r.reverse ?_,rfl,q⟩
 rw [List.length_reverse]
 omega
end
section
variable {prog:Program}{w:World}{A:Around}{E:Value->Shared->Prop}{s:Shared}
end
section
variable {X:Cx}
end
end L2
namespace Att
open PySem PySem.W PySem.Calls PyProof.Rows
theorem ziK {P:Params}{h:Heap}:∀ (ns:List Int) (vs:List Value),WellAll P h vs (ns.map WData.int)->IntsAre vs ns:=by
 intro ns
 induction ns with
 | nil =>
  intro vs w
  rw [List.map_nil] at w
  cases w
  exact .nil
 | cons n ns ih =>
  intro vs w
  rw [List.map_cons] at w
  cases w with
  | cons a b =>
   cases a
   exact .cons _ _ (ih _ b)
theorem zol {l:OpenLaw}{n:Nat}(hn:l.most=some n){P:Params}{h:Heap}{args:List WData}{vals:List Value}
  (hpre:l.row.toRowW.claim.pre args=true) (hwl:WellAll P h vals args) :
  ∃ a vs ns,vals=[Value.ref a]/\args=[WData.list (ns.map WData.int)]/\h.get? a=some { cls:=.type "list",data:=.seq vs.toArray }/\IntsAre vs ns/\ns.length<=n:=by
 have hsh:WShape.hasAll [] args [.list .int]=true:=(pre_splitW hpre).1
 have hc:l.pre.holds [] { args:=args }=true:=(pre_splitW hpre).2
 obtain⟨d,r,rfl,h1,h2⟩:=hasAllW_cons hsh
 obtain rfl:=hasAllW_nil h2
 obtain⟨xs,rfl,h3⟩:=hasW_list h1
 obtain⟨ns,rfl⟩:=items_int h3
 have hlen:ns.length<=n:=by
  unfold OpenLaw.pre at hc
  have h4:(WTm.not (.lt (.lit (.int (n:Int))) (.len (.arg 0)))).holds [] { args:=[.list (ns.map .int)] }=true:=by
   have h4:=(holds_andW hc).1
   rw [hn] at h4
   exact h4
  have h5:=condW_of h4 (w_not (w_lt w_lit (w_len_list (w_arg rfl))))
  rw [List.length_map] at h5
  refine Nat.le_of_not_lt fun q=>?_
  have q':(n:Int)<((ns.length:Nat):Int):=by omega
  first
   | (rw [decide_eq_true q'] at h5;exact absurd h5 (by decide))
   | (simp at h5;omega)
 cases hwl with
 | cons w1 w2 =>
  cases w2
  cases w1 with
  | list ho hall=>exact⟨_,_,ns,rfl,rfl,ho,ziK ns _ hall,hlen⟩
theorem zn0 (l:OpenLaw)(args:List WData):l.row.toRowW.claim.post args (.bool true) args=true :=
 postW_of (r:=l.row.toRowW) (X:=(true==true))
  (show WShape.has [] (.bool true) .bool=true by first | rfl | decide | simp [WShape.has,WShape.arms,WShape.armsAll])
  (show (WTm.eq .res (.lit (.bool true))).value [] { args:=args,res:=some (.bool true),after:=args }=some (.bool (true==true)) from w_eq_bool (w_res rfl) w_lit) rfl
section
variable {prog:Program}{w:World}{A:Around}{E:Value->Shared->Prop}{s:Shared}{K:Frag}
end
end Att
namespace L2
open PySem PySem.Spec PyProof.Rows
theorem zj6:∀ {vs:List Value} {ns:List Int},IntsAre vs ns->Vals (ns.map V.int) vs
 | _,_,.nil=>.nil
 | _,_,.cons n t h=>.cons ⟨t,rfl⟩ (zj6 h)
def Only (H:Hp):Prop:=∀ b,H b=none\/∃ o xs,H b=some (.frz o (.lst xs))
theorem zqf {P:Program}{w:World}{K:PySem.W.Frag}{mg mb:Str->Option Value}{CX:CXT}{k:Nat}{fa a:Addr}{fd:FuncData}{x:Str}{sp:Sp}{s₁:Shared}{vs:List Value}{ns:List Int}
  (KX:K.In s₁.heap) (hns:s₁.heap.Ns mainGlobals mg) (hb:s₁.heap.Ns builtinsNs mb) (hbb:∀ x:Str,x≠"__name__"->mb x=bootBuiltins x) (hlim:s₁.heap.NoLimit) (hg:s₁.gens=#[])
  (ha:s₁.heap.get? a=some { cls:=.type "list",data:=.seq vs.toArray }) (hi:IntsAre vs ns) (hl:ns.length<=sizeLine) (hr:zaM k callerA)
  (F:∀ base:Heap,K.In base->base.Ns mainGlobals mg->zX P w K mg base CX k fa fd [x] sp) (hbind:∀ (s:Shared) (u:Value),BindsTo s fd ⟨[u],[]⟩ [(x,u)])
  (hsp:∀ H:Hp,Only H->SqL K H a (ns.map V.int)->sp [.ref a] H (fun v _=>v=.bl true) fun _ _ _=>False)
  (hCX:∀ H e s',CX [] H s₁ (fun _ _ _=>False) e s'->False) :
  codeAny (model P w) callerA (.call (.ref fa) ⟨[.ref a],[]⟩) (fun r s'=>r=.ok (.ret (.bool true))/\OldK s₁.heap s'.heap/\s'.os=s₁.os/\AllBare s'.gens) s₁:=by
 have rv:=zj6 hi
 have lenV:=hi.length
 have core:∀ H:Hp,Only H->SqL K H a (ns.map V.int)->HOk P w H s₁.heap->(∀ b,H b≠none->b=a)->(H a≠none->K.lookup a=none) ->
   codeAny (model P w) callerA (.call (.ref fa) ⟨[.ref a],[]⟩) (fun r s'=>r=.ok (.ret (.bool true))/\OldK s₁.heap s'.heap/\s'.os=s₁.os/\AllBare s'.gens) s₁:=by
  intro H hO hS hok hA hK
  have base_of:∀ {b:Addr} {o:Obj},s₁.heap.get? b=some o->H b=none->(zgj s₁.heap H).get? b=some o:=fun e n=>zqt e n
  have noA:∀ {b:Addr} {o:Obj} {es:Array DictEntry} {ep:Nat},s₁.heap.get? b=some o->o.data=.dict es ep->H b=none:=fun {b o es ep} e d=>by
   cases q:H b with
   | none=>rfl
   | some u =>
    have e':b=a:=hA b (by rw [q];simp)
    subst e'
    rw [ha] at e;cases e
    have d':Data.seq vs.toArray _=Data.dict es ep:=d
    cases d'
  have nsK:∀ {b:Addr} {m:Str->Option Value},s₁.heap.Ns b m->(zgj s₁.heap H).Ns b m:=fun {b m} ⟨o,es,ep,e,d,r⟩=>⟨o,es,ep,base_of e (noA e d),d,r⟩
  have hKb:K.In (zgj s₁.heap H):=fun b o e=>base_of (KX b o e) (by
   cases q:H b with
   | none=>rfl
   | some u =>
    have e':b=a:=hA b (by rw [q];simp)
    subst e'
    rw [hK (by rw [q];simp)] at e;cases e)
  have hM:Mod K mg (zgj s₁.heap H):=⟨hKb,nsK hns,⟨mb,nsK hb,hbb⟩,let ⟨mc,h1,h2⟩:=hlim;⟨mc,nsK h1,h2⟩⟩
  have e0:ziy P w K mg (zgj s₁.heap H) callerA [] s₁ H:=⟨rfl,hM,fun b o e=>zrD e,Nat.le_of_eq (zov _ _),trivial,fun b hb=>absurd (show b∈([]:List Addr) from hb) (by simp),hok,.of_eq hg⟩
  refine codeAny_mono ((F _ hKb (nsK hns)).run callerA [] s₁ H ⟨[.ref a],[]⟩ [.ref a] [.ref a] _ _ hr e0 (hbind s₁ (.ref a)) (.cons rfl .nil) (hsp H hO hS)) fun r s' h=>?_
  cases r with
  | error e=>exact (hCX H e s' h).elim
  | ok fl =>
   cases fl with
   | next=>exact False.elim h
   | brk=>exact False.elim h
   | cont=>exact False.elim h
   | ret u =>
    obtain⟨v,H',os,bare,un,hok',r',q⟩:=h
    have q':v=.bl true:=q
    subst q'
    obtain rfl:u=Value.bool true:=r'
    refine⟨rfl,OldK.of_keep fun b o e=>?_,os,bare⟩
    cases q:H b with
    | none=>exact un.keep b o e q (by intro z;exact absurd (show b∈([]:List Addr) from z) (by simp)) (by simp)
    | some u =>
     rcases hO b with z | ⟨ob,xs,z⟩
     ·rw [q] at z;cases z
     ·have z2:=un.frzs b ob _ z
      obtain⟨e1,_⟩:=hok b _ z
      obtain⟨e2,_⟩:=hok' b _ z2
      rw [e] at e1;cases e1
      exact e2
 cases hk:K.lookup a with
 | some o =>
  have e:=KX a o hk
  rw [ha] at e
  cases e
  refine core (fun _=>none) (fun _=>.inl rfl) (.inr ⟨_,vs.toArray,_,hk,rfl,rfl,rfl,by rw [List.size_toArray,lenV];exact hl,by simpa using rv⟩) (fun b u z=>by have z':(none:Option HO)=some u:=z;cases z') (fun b z=>absurd rfl z) fun z=>absurd rfl z
 | none =>
  refine core (fun b=>if b=a then some (.frz { cls:=.type "list",data:=.seq vs.toArray } (.lst (ns.map V.int))) else none) (fun b=>?_) (.inl (.inr ⟨{ cls:=.type "list",data:=.seq vs.toArray },if_pos rfl⟩)) (fun b u z=>?_) (fun b z=>?_) fun _=>hk
  ·by_cases hb:b=a
   ·exact .inr ⟨_,_,if_pos hb⟩
   ·exact .inl (if_neg hb)
  ·by_cases hb:b=a
   ·have z':=(if_pos hb).symm.trans z
    cases z'
    subst hb
    exact⟨ha,by rw [List.length_map];exact hl,vs,_,rv,ha⟩
   ·have z':=(if_neg hb).symm.trans z
    cases z'
  ·by_cases hb:b=a
   ·exact hb
   ·exact absurd (if_neg hb) z
end L2
namespace L2
open PySem PySem.Spec PyProof.Rows
end L2
namespace L2
open PySem PySem.Spec PyProof.Rows
def inClass (s:Stmt)(j:Nat):Stmt:=match s with
 | .ClassDef _ _ _ body _ _ _ _ _ _ _=>body.getD j (.Pass ⟨0,0,0,0⟩)
 | _=>.Pass ⟨0,0,0,0⟩
def zbD (s:Stmt):Arguments:=match s with
 | .FunctionDef _ a _ _ _ _ _ _ _ _=>a
 | _=>{ posonlyargs:=[],args:=[],vararg:=none,kwonlyargs:=[],kw_defaults:=[],kwarg:=none,defaults:=[] }
def za4 (s:Stmt):List Stmt:=match s with
 | .FunctionDef _ _ b _ _ _ _ _ _ _=>b
 | _=>[]
def zK (s:Stmt):Scope:=match s with
 | .FunctionDef _ _ _ _ _ _ sc _ _ _=>sc
 | _=>{ kind:=.function,names:=[],isGenerator:=false,isCoroutine:=false }
abbrev CX0:CXT:=fun _ _ _ _ _ _=>False
abbrev E0:XK:=fun _ _ _=>False
theorem zq2 {X:Cx}:Passes CX0 X E0:=fun _ _ _ _ _ _ _ h=>h.elim
structure Fun (K:PySem.W.Frag)(x qual:Str)(st:Stmt)(f:Addr)(fd:FuncData):Prop where
 ex:∃ (oc:Value) (od:Option Addr) (kV doc pm:Value) (an:Option Addr) (cdv ct:Value) (osl:Array (Option Value)),
  fd=PySem.W.fnOf x qual (zbD st) (za4 st) (zK st) .none kV doc pm an cdv ct/\K.lookup f=some ⟨oc,od,.func fd,osl⟩/\PySem.W.codeIn K cdv qual=true
 kp:PySem.W.keepIn K (.ref f)=true
section
variable {P:Program}{w:World}{K:PySem.W.Frag}{mg:Str->Option Value}{base:Heap}
theorem Fun.ok {x qual:Str}{st:Stmt}{f:Addr}{fd:FuncData}{N ps:List Str}{k:Nat}{sp:Sp}(F:Fun K x qual st f fd)(S:zP N ps (zK st))(len:∀ vs H Q E,sp vs H Q E->vs.length=ps.length)
  (hbody:∀ (cdv:Value) (A:Around) (outer:List Env) (s:Shared) (H:Hp) (vs:List V) (Q:VK) (E:XK),zaM k (A.deeper (envOfC qual (zK st) s.heap.objs.size f cdv))->sp vs H Q E ->
   ∃ t,PSs (zfx CX0 P w K mg base N qual (zK st) f cdv A outer s H E).nox (za4 st) t/\t { nx:=fun _ H'=>Q .non H',rt:=Q } (start N vs) H):zX P w K mg base CX0 (k+1) f fd ps sp:=by
 obtain⟨oc,od,kV,doc,pm,an,cdv,ct,osl,rfl,lk,hcd⟩:=F.ex
 refine zqV lk hcd S len fun A outer s H vs Q E hr hsp=>?_
 obtain⟨t,h,q⟩:=hbody cdv A outer s H vs Q E hr hsp
 exact⟨t,h.nox,q⟩
theorem Fun.binds {x qual:Str}{st:Stmt}{f:Addr}{fd:FuncData}{ps:List Str}(F:Fun K x qual st f fd)
  (h:∀ (kV doc pm:Value) (an:Option Addr) (cdv ct:Value) (us:List Value),us.length=ps.length->bindArgs (PySem.W.fnOf x qual (zbD st) (za4 st) (zK st) .none kV doc pm an cdv ct) ⟨us,[]⟩=pure (ps.zip us)):Binds K fd ps []:=by
 obtain⟨oc,od,kV,doc,pm,an,cdv,ct,osl,rfl,lk,hcd⟩:=F.ex
 exact .all (h kV doc pm an cdv ct)
theorem ziX {x qual:Str}{st:Stmt}{f:Addr}{oc:Value}{od an:Option Addr}{osl:Array (Option Value)}{kV doc pm cdv ct:Value}(l:K.lookup f=some ⟨oc,od,.func (PySem.W.fnOf x qual (zbD st) (za4 st) (zK st) .none kV doc pm an cdv ct),osl⟩)
  (c:PySem.W.codeIn K cdv qual=true) (k:PySem.W.keepIn K (.ref f)=true):Fun K x qual st f (PySem.W.fnOf x qual (zbD st) (za4 st) (zK st) .none kV doc pm an cdv ct):=⟨⟨oc,od,kV,doc,pm,an,cdv,ct,osl,rfl,l,c⟩,k⟩
end
section
variable {X:Cx}
theorem pv (i:Nat){x:Str}{pos:Pos}(hN:X.N[i]?=some x:=by rfl)(hv:Vis X.env.scope x:=by first | exact Or.inl rfl | exact Or.inr (Or.inl rfl) | exact Or.inr (Or.inr rfl))(hd:(x==("__debug__":Str))=false:=by decide)
  (hcd:(x==("__classdict__":Str))=false:=by decide):PE X (.Name x pos) (zpp i):=zoB hN hv hd hcd
end
end L2
namespace My
def Bd (n:Nat)(x:Int):Prop:=x.natAbs<2 ^ n
theorem Bd.mono {m n:Nat}{x:Int}(h:Bd m x)(hmn:m<=n):Bd n x:=Nat.lt_of_lt_of_le h (Nat.pow_le_pow_right (by decide) hmn)
theorem Bd.add {n:Nat}{x y:Int}(h:Bd n x)(h':Bd n y):Bd (n+1) (x+y):=by
 unfold Bd at *;rw [Nat.pow_succ];omega
theorem Bd.sub {n:Nat}{x y:Int}(h:Bd n x)(h':Bd n y):Bd (n+1) (x-y):=by
 unfold Bd at *;rw [Nat.pow_succ];omega
theorem Bd.neg {n:Nat}{x:Int}(h:Bd n x):Bd n (-x):=by unfold Bd at *;omega
theorem Bd.mul {m n:Nat}{x y:Int}(h:Bd m x)(h':Bd n y):Bd (m+n) (x*y):=by
 unfold Bd at *;rw [Int.natAbs_mul,Nat.pow_add];exact Nat.mul_lt_mul'' h h'
theorem Bd.of_le {n:Nat}{x y:Int}(h:Bd n y)(h':x.natAbs<=y.natAbs):Bd n x:=Nat.lt_of_le_of_lt h' h
theorem Bd.dvd {n:Nat}{x y:Int}(h:Bd n y)(h0:y≠0)(d:x ∣ y):Bd n x :=
 h.of_le (Nat.le_of_dvd (by omega) (Int.natAbs_dvd_natAbs.mpr d))
theorem Bd.fdiv {n:Nat}{x y:Int}(h:Bd n x):Bd n (x.fdiv y):=h.of_le (Int.natAbs_fdiv_le_natAbs x y)
theorem Bd.lit {n:Nat}{x:Int}(h:x.natAbs<2 ^ 200)(hn:200<=n):Bd n x:=Bd.mono (m:=200) h hn
theorem Bd.emod {n:Nat}{x m:Int}(h0:0<m)(h:Bd n m):Bd n (x%m):=by
 have h1:=Int.emod_nonneg x (Int.ne_of_gt h0)
 have h2:=Int.emod_lt_of_pos x h0
 exact h.of_le (by omega)
theorem zpM (a b:Int):Int.gcd b (a.fmod b)=Int.gcd a b:=by
 have e:a.fmod b=a-b*a.fdiv b:=by have:=Int.mul_fdiv_add_fmod a b;omega
 rw [e,Int.gcd_sub_mul_left_right,Int.gcd_comm]
theorem zlF {a b:Int}(h:b≠0):(a.fmod b).natAbs<b.natAbs:=by
 rcases Int.lt_or_gt_of_ne h with h1 | h1
 ·have e:(-(-a)).fmod (-(-b))=-((-a).fmod (-b)):=Int.neg_fmod_neg (-a) (-b)
  rw [Int.neg_neg,Int.neg_neg] at e
  have h2:=Int.fmod_nonneg_of_pos (-a) (b:=-b) (by omega)
  have h3:=Int.fmod_lt_of_pos (-a) (b:=-b) (by omega)
  omega
 ·have:=Int.fmod_nonneg_of_pos a h1
  have:=Int.fmod_lt_of_pos a h1
  omega
def gd (t b:Int):Int:=if b<0 then -((Int.gcd t b:Nat):Int) else ((Int.gcd t b:Nat):Int)
def frT (t b:Int):Int:=t.fdiv (gd t b)
def frB (t b:Int):Int:=b.fdiv (gd t b)
theorem zqA {t b:Int}(h:b≠0):gd t b≠0:=by
  have:Int.gcd t b≠0:=fun e=>h (Int.gcd_eq_zero_iff.mp e).2
  unfold gd;split<;>omega
theorem zlY (t b:Int):gd t b ∣ t:=by
 unfold gd;split
 ·exact Int.neg_dvd.mpr (Int.gcd_dvd_left ..)
 ·exact Int.gcd_dvd_left ..
theorem zho (t b:Int):gd t b ∣ b:=by
 unfold gd;split
 ·exact Int.neg_dvd.mpr (Int.gcd_dvd_right ..)
 ·exact Int.gcd_dvd_right ..
theorem zmb (t b:Int):frT t b*gd t b=t:=Int.fdiv_mul_cancel (zlY t b)
theorem zjm (t b:Int):frB t b*gd t b=b:=Int.fdiv_mul_cancel (zho t b)
theorem zp7 (t b:Int):frT t b*b=frB t b*t:=by
 have h1:=zmb t b
 have h2:=zjm t b
 generalize frT t b=x at *
 generalize frB t b=y at *
 generalize gd t b=g at *
 subst h1 h2
 rw [Int.mul_comm y g,<- Int.mul_assoc,Int.mul_comm (x*g) y]
theorem zsj {t b:Int}(h:b≠0):1<=frB t b:=by
  have h2:=zjm t b
  have h3:gd t b≠0:=zqA h
  have h4:0<b->0<gd t b:=by
    intro hb;unfold gd at *;split<;>omega
  have h5:b<0->gd t b<0:=by
    intro hb;unfold gd at *;split<;>omega
  generalize frB t b=y at *
  generalize gd t b=g at *
  rcases Int.lt_or_gt_of_ne h with hb | hb
  · have hg:=h5 hb
    rcases Int.lt_or_le y 1 with hy | hy
    · have:0<=y*g:=Int.mul_nonneg_of_nonpos_of_nonpos (by omega) (by omega)
      omega
    · exact hy
  · have hg:=h4 hb
    rcases Int.lt_or_le y 1 with hy | hy
    · have:y*g<=0:=Int.mul_nonpos_of_nonpos_of_nonneg (by omega) (by omega)
      omega
    · exact hy
theorem ztE {t b:Int}(h:b≠0):Int.gcd (frT t b) (frB t b)=1:=by
  have h0:0<Int.gcd t b:=Nat.pos_of_ne_zero fun e=>h (Int.gcd_eq_zero_iff.mp e).2
  have h1:=zmb t b
  have h2:=zjm t b
  have e:Int.gcd (frT t b*gd t b) (frB t b*gd t b)=Int.gcd (frT t b) (frB t b)*(gd t b).natAbs:=Int.gcd_mul_right ..
  rw [h1,h2] at e
  have e2:(gd t b).natAbs=Int.gcd t b:=by unfold gd;split<;>omega
  rw [e2] at e
  exact Nat.eq_of_mul_eq_mul_right h0 (by omega)
theorem zuY {n:Nat}{t b:Int}(h:b≠0)(hb:Bd n b):Bd n (gd t b):=hb.dvd h (zho t b)
theorem zsW {n:Nat}{t b:Int}(hb:Bd n b):Bd n (frB t b):=hb.fdiv
theorem ztn {n:Nat}{t b:Int}(hb:Bd n t):Bd n (frT t b):=hb.fdiv
end My
namespace My
open PySem PySem.Spec PyProof.Rows L2
def zve (_ j:Int):Prop:=j≠0/\Bd 8000 j
def zvB (_ j:Int):Prop:=j≠0
theorem ziU {j:Int}(h:Bd 8000 j):j.natAbs.log2<9000:=by
 rcases Nat.eq_zero_or_pos j.natAbs with e | e
 ·rw [e];decide
 ·have:j.natAbs.log2<8000:=(Nat.log2_lt (Nat.ne_of_gt e)).mpr h
  omega
theorem ziS {j:Int}(h:Bd 8000 j):Builtin.Int.intBits j<=2 ^ 20:=by
 unfold Builtin.Int.intBits
 split
 ·exact Nat.zero_le _
 ·have:=ziU h
  omega
section
variable {X:Cx}
theorem zps:OpR X (binaryOp .FloorDiv) (rI zve fun i j=>.int (i.fdiv j)):=opI fun _ _ _ _ _ _ _ hc q=>floordiv_int hc.1 q (.inl (PyProof.noPylong_of_log2 (ziU hc.2)))
theorem zrn:OpR X (binaryOp .Mod) (rI zvB fun i j=>.int (i.fmod j)):=zrS
def rB0 (g:Bool->Bool->V):R2:=fun x y H Q=>∃ i j,x=.bl i/\y=.bl j/\Q (g i j) H
theorem zr6 {i j:Int}{a b:Nat}{p1 p2 pos:Pos}(c:Int)(h:i ^ j.toNat=c)(h0:0<=j/\j<=1000000/\i.natAbs<2 ^ 64):PE X (.BinOp (.Constant (.int i) a p1) .Pow (.Constant (.int j) b p2) pos) (tC (.int c)):=by
 intro pins s σ H Q I q
 have q':Q (.int c) H:=q
 rw [<- h] at q'
 exact zqS zs5 zk8 zk8 pins s σ H Q I ⟨i,j,rfl,rfl,h0,q'⟩
def zv5:List V->Hp->VK->Prop:=fun xs H Q=>∃ i,xs=[.int i]/\Q (.int (i.natAbs:Int)) H
theorem zo2:zaK X (.builtin "abs") zv5:=fun pins s σ H xs us Q I r h=>by
  obtain⟨i,e,q⟩:=h
  refine zqo pins s σ H xs us Q I r ⟨i,e,?_⟩
  have:(if i<0 then -i else i)=(i.natAbs:Int):=by split<;>omega
  rw [this];exact q
def zwy (K:PySem.W.Frag):List V->Hp->VK->Prop:=fun xs H Q=>∃ p ys,xs=[.ref p]/\(SqL K H p ys\/SqT K H p ys)/\Q (.int ys.length) H
theorem znW:zaK X (.builtin "len") (zwy X.K):=zkw
def zvJ (K:PySem.W.Frag):List V->Hp->VK->Prop:=fun xs H Q=>∃ p ys,xs=[.ref p]/\(SqL K H p ys\/SqT K H p ys)/\∀ l,H l=none->Q (.ref l) (upd H l (.lst ys))
theorem zmz:zaK X (.type "list") (zvJ X.K):=zlf
def zwk:List V->Hp->VK->Prop:=fun xs H Q=>∃ i j,xs=[.int i,.int j]/\Q (.int (if j > i then j else i)) H
theorem zoU (hc:X.calm=true):zaK X (.builtin "max") zwk:=zn3 hc
def zwz:List V->Hp->VK->Prop:=fun xs H Q=>∃ i j,xs=[.int i,.int j]/\Q (.int (if j<i then j else i)) H
theorem zoI (hc:X.calm=true):zaK X (.builtin "min") zwz:=zoL hc
theorem zu3 {x:Str}{T:String}{pos:Pos}(hg:Gl X x)(hm:X.mg x=none)(hv:bootBuiltins x=some (.type T))(hn:x≠"__name__":=by decide)(hd:(x==("__debug__":Str))=false:=by decide):PE X (.Name x pos) (tC (.ty T)):=zrd (v:=.ty T) hg hm hv rfl hn hd
def zwv (K:PySem.W.Frag):List V->Hp->VK->Prop:=fun xs H Q=>∃ x c t b,xs=[x,.ty c]/\zd1 K H x t/\PySem.W.kitOne K t (.type c)=some b/\Q (.bl b) H
theorem zpw:zaK X (.builtin "isinstance") (zwv X.K):=fun pins s σ H xs us Q I r h=>by
 obtain⟨x,c,t,b,rfl,ty,e,q⟩:=h
 obtain⟨u,w',rfl,ru,rw'⟩:=vals2 r
 cases rw'
 exact znU I ru ty e fun tk=>⟨.bl b,H,I.tok _,rfl,q⟩
end
section
variable {X:Cx}{K:PySem.W.Frag}
end
structure Got (P:Program)(w:World)(K:PySem.W.Frag)(mg:Str->Option Value)(base:Heap)(k:Nat)(x:Str)(ps:List Str)(sp:Sp):Prop where
 ex:∃ f fd,zX P w K mg base CX0 k f fd ps sp/\Binds K fd ps []/\PySem.W.keepIn K (.ref f)=true/\mg x=some (.ref f)
theorem zuh {X:Cx}{k j:Nat}{x:Str}{ps:List Str}{sp:Sp}{p pos:Pos}{e:Expr}{es:List Expr}{t:TA}(G:Got X.prog X.w X.K X.mg X.base k x ps sp)(hr:zaM j X.A)(hk:k<=j)(hg:Gl X x)
  (ha:PA X (e::es) t) (hdb:(x==("__debug__":Str))=false:=by decide) (he:starEach (e::es) X.env=(false,eval e X.env)::starEach es X.env:=by rfl) (hpl:(backTo pos (starEach es X.env)).any (·.1)=false:=by rfl) :
  PE X (.Call (.Name x p) (e::es) [] pos) (znw sp [] E0 t):=by
 intro pins s σ H Q I h
 obtain⟨f,fd,F,b,kp,m⟩:=G.ex
 exact zrw (F.mono hk) hr hg m kp b .nil zq2 ha hdb he hpl pins s σ H Q I h
section
variable {nx:L2.St->Hp->Prop}{rt:VK}{bk ct:L2.St->Hp->Prop}{σ:L2.St}{H:Hp}{K:PySem.W.Frag}
end
section
variable {σ:L2.St}{H:Hp}{K:PySem.W.Frag}
def zwA:R2:=fun x y H Q=>y=.non/\Q (.bl (decide (x=.non))) H
def zvl:R2:=fun x y H Q=>y=.non/\Q (.bl (!decide (x=.non))) H
theorem zvc {X:Cx}:OpR X (compareOp .Is) zwA:=zsI
theorem ztO {X:Cx}:OpR X (compareOp .IsNot) zvl:=zq3
end
theorem zeF {H:Hp}{p b:Addr}{o u:HO}(hp:H p=none)(h:H b=some u):upd H p o b=some u:=by
 rw [zW (zbu h hp)];exact h
end My
namespace My
open PySem PySem.Spec PyProof.Rows L2
theorem zlQ {prog:Program}{w:World}{A:Around}{R:Result->Shared->Prop}{s:Shared}{elt target iter:Expr}{ifs:List Expr}{scope:Scope}{pos:Pos}{it acc:Value}{env:Env}(I:Nat->Shared->Prop)
  (turn:∀ n s,I n s->wpAny (model prog w) A (pyNext it) (fun r s₁=>match r with
   | none=>R (.ok .next) s₁
   | some v=>wpAny (model prog w) A (letOwnedTupleGo target it v) (fun _ s₁'=>wpAny (model prog w) A (assign target env v) (fun _ s₂ =>
     wpAny (model prog w) A (forIn ifs true fun c r=>if r=true then do let ok <- isTrue c env (eval c env);pure (ForInStep.yield ok) else pure (ForInStep.yield r)) (fun ok s₃ =>
      if ok=true then wpAny (model prog w) A (eval elt env) (fun x s₄ =>
       wpAny (model prog w) A (call (.builtin "list.append") [acc,x]) (fun _ s₅=>∃ m,m<n/\I m s₅) (fun _ _=>False) s₄) (fun _ _=>False) s₃
      else ∃ m,m<n/\I m s₃) (fun _ _=>False) s₂) (fun _ _=>False) s₁') (fun _ _=>False) s₁) (fun _ _=>False) s)
  (n:Nat) (h:I n s):codeAny (model prog w) A (.compLoop (.ListComp elt [⟨target,iter,ifs,0⟩] scope pos) 0 it acc env) R s:=by
 refine codeAny_loop rfl I (fun n s hI=>?_) n h
 show wpAny _ A ((compTurn (.ListComp elt [⟨target,iter,ifs,0⟩] scope pos) 0 it acc env).onRaise (fun x=>do noteFrame x env;theTreesLotGoes x)) _ _ s
 refine wpAny_noted ?_
 rw [compTurn_list]
 refine wpAny_bind (wpAny_standAt (wpAny_bind (wpAny_mono (turn n s hI) (fun r s₁ h₁=>?_) fun _ _ h'=>h'.elim)))
 cases r with
 | none=>exact wpAny_pure h₁
 | some v =>
  refine wpAny_bind (wpAny_mono h₁ (fun _ s₁' h₁'=>?_) fun _ _ h'=>h'.elim)
  refine wpAny_bind (wpAny_mono h₁' (fun _ s₂ h₂=>wpAny_bind (wpAny_mono h₂ (fun ok s₃ h₃=>?_) fun _ _ h'=>h'.elim)) fun _ _ h'=>h'.elim)
  cases ok with
  | false=>exact wpAny_pure ⟨rfl,h₃⟩
  | true =>
   exact wpAny_bind (wpAny_bind (wpAny_mono h₃ (fun x s₄ h₄=>wpAny_bind (wpAny_mono h₄ (fun _ s₅ h₅=>wpAny_pure (wpAny_pure ⟨rfl,h₅⟩)) fun _ _ h'=>h'.elim)) fun _ _ h'=>h'.elim))
def inner (X:Cx)(sc:Scope)(N:List Str)(cl:List (Str×Addr))(C:Addr)(s₀:Shared)(H₀:Hp)(ex:List Addr):Cx :=
  { X with N:=N,s₀:=s₀,H₀:=H₀,env:=compEnvC sc cl C X.env,outer:=X.stack,ex:=ex,fn:=fun _=>false,pn:=[] }
def PFs (X:Cx)(ifs:List Expr)(t:TT):Prop :=
 ∀ (pins:List (Addr×Obj)) (s:Shared) (σ:L2.St) (H:Hp) (Q:Bool->Hp->Prop),Inv X pins σ H s->t σ H Q ->
  wpAny (model X.prog X.w) X.A (forIn ifs true fun c r=>if r=true then do let ok <- isTrue c X.env (eval c X.env);pure (ForInStep.yield ok) else pure (ForInStep.yield r)) (TP X pins σ Q) X.xe s
def zvV:TT:=fun _ H Q=>Q true H
theorem ztL {X:Cx}:PFs X [] zvV:=fun _ _ _ H _ I h=>wpAny_tests_nil ⟨H,I,h⟩
theorem zsz {X:Cx}{c:Expr}{t:TT}(h:PT X c t):PFs X [c] t:=fun pins s σ H Q I q=>wpAny_tests_one (h pins s σ H Q I q)
def zhn (X:Cx)(sc:Scope):List Str->List Nat->Prop
 | [],[]=>True
 | x::xs,j::js=>X.N[j]?=some x/\sc.names.lookup x=some .free/\X.env.kindOf x=some .cell/\zhn X sc xs js
 | _,_=>False
def zd9 (P:Str->Prop):List (Str×NameKind)->Prop
 | []=>True
 | (n,.free)::r=>P n/\zd9 P r
 | _::r=>zd9 P r
theorem zd9.of {P:Str->Prop}:∀ {l:List (Str×NameKind)},zd9 P l->∀ y∈l,y.2=.free->P y.1
  | (n,k)::r,h,y,hy,e=>by
    rcases List.mem_cons.mp hy with rfl | hy
    · dsimp only at e;subst e;exact h.1
    · refine zd9.of (l:=r) ?_ y hy e
      cases k<;>first | exact h.2 | exact h
def cst (own:List Str)(fv:List Nat)(σ:L2.St):L2.St:=List.replicate own.length none++fv.map fun j=>(σ[j]?).join
def Agr:L2.St->L2.St->Prop
 | [],[]=>True
 | none::r,_::s=>Agr r s
 | some v::r,some w::s=>v=w/\Agr r s
 | _,_=>False
theorem Agr.len:∀ {a b:L2.St},Agr a b->b.length=a.length
  | [],[],_=>rfl
  | none::r,_::s,h=>congrArg (· + 1) (Agr.len (a:=r) (b:=s) h)
  | some v::r,some w::s,h=>congrArg (· + 1) (Agr.len (a:=r) (b:=s) h.2)
theorem Agr.get:∀ {a b:L2.St},Agr a b->∀ (i:Nat) (v:V),a[i]?=some (some v)->b[i]?=some (some v)
 | none::r,_::s,h,i,v,e=>by
  cases i with
  | zero=>simp at e
  | succ i=>simpa using Agr.get (a:=r) (b:=s) h i v (by simpa using e)
 | some v'::r,some w::s,h,i,v,e=>by
  cases i with
  | zero=>simp at e;subst e;simp [h.1]
  | succ i=>simpa using Agr.get (a:=r) (b:=s) h.2 i v (by simpa using e)
def tLC (own:List Str)(fv:List Nat)(wi:TI)(g:TG)(tc:TT)(te:TE):TE:=fun σ H Q=>wi σ H fun J H1=>∀ p,H1 p=none ->
 ∃ W:Nat->Nat->Hp->Prop,(∃ m,W 0 m (upd H1 p (.lst [])))/\∀ i m H2,W i m H2 ->
  (J.stop i H2/\Q (.ref p) H2)\/(J.go i H2/\∀ x H',J.yld i H2 x H'->g x (cst own fv σ) H' fun σ2 H3=>Agr (cst own fv σ) σ2/\tc σ2 H3 fun b H4 =>
   if b=true then te σ2 H4 fun y H5=>∃ ys,H5 p=some (.lst ys)/\ys.length<sizeLine/\∃ m',m'<m/\W (i+1) m' (upd H5 p (.lst (ys++[y])))
   else ∃ m',m'<m/\W (i+1) m' H4)
theorem zlJ {env:Env}{n:Str}{c:Addr}(h:env.cells.lookup n=some c):cellOf env n=pure c:=by
 unfold cellOf;rw [h]
theorem zfV {env:Env}:∀ (names:List (Str×NameKind)) (cs:List (Str×Addr)),(∀ y∈names,y.2=.free->∃ c,env.cells.lookup y.1=some c)->(∀ x c,cs.lookup x=some c->env.cells.lookup x=some c) ->
    ∃ cl,(forIn names cs fun (x:Str×NameKind) (r:List (Str×Addr))=>if (x.2==NameKind.free)=true then do let a <- cellOf env x.1;pure (ForInStep.yield ((x.1,a)::r)) else pure (ForInStep.yield r))=(pure cl:Sem (List (Str×Addr))) /\
      (∀ x c,cl.lookup x=some c->env.cells.lookup x=some c)/\(∀ x,(cs.lookup x).isSome=true->(cl.lookup x).isSome=true)/\∀ y∈names,y.2=.free->(cl.lookup y.1).isSome=true
  | [],cs,_,h2=>⟨cs,rfl,h2,fun _ h=>h,fun _ h=>nomatch h⟩
  | (n,k)::r,cs,h1,h2=>by
    rw [List.forIn_cons]
    by_cases hk:k=.free
    · subst hk
      obtain⟨c,hc⟩:=h1 (n,.free) List.mem_cons_self rfl
      obtain⟨cl,e,a1,a2,a3⟩:=zfV (env:=env) r ((n,c)::cs) (fun y hy=>h1 y (List.mem_cons_of_mem _ hy)) (fun x d hx=>by
        rw [List.lookup_cons] at hx
        by_cases hxn:x=n
        · subst hxn;simp at hx;subst hx;exact hc
        · have:(x==n)=false:=by simpa using hxn
          rw [this] at hx;exact h2 x d hx)
      refine⟨cl,?_,a1,fun x hx=>a2 x ?_,fun y hy e'=>?_⟩
      · simp only [beq_self_eq_true,if_true,zlJ hc]
        simpa using e
      · rw [List.lookup_cons];split<;>simp_all
      · rcases List.mem_cons.mp hy with rfl | hy
        · exact a2 _ (by simp [List.lookup_cons])
        · exact a3 y hy e'
    · have hb:(k==NameKind.free)=false:=by simpa using hk
      obtain⟨cl,e,a1,a2,a3⟩:=zfV (env:=env) r cs (fun y hy=>h1 y (List.mem_cons_of_mem _ hy)) h2
      refine⟨cl,?_,a1,a2,fun y hy e'=>?_⟩
      · simp only [hb,Bool.false_eq_true,if_false]
        simpa using e
      · rcases List.mem_cons.mp hy with rfl | hy
        · exact absurd e' hk
        · exact a3 y hy e'
theorem ziH {env:Env}{sc:Scope}(h:∀ y∈sc.names,y.2=.free->∃ c,env.cells.lookup y.1=some c) :
  ∃ cl,closureFor sc env=pure cl/\(∀ x c,cl.lookup x=some c->env.cells.lookup x=some c)/\∀ y∈sc.names,y.2=.free->(cl.lookup y.1).isSome=true:=by
 obtain⟨cl,e,a1,_,a3⟩:=zfV (env:=env) sc.names [] h (fun x c hx=>by simp at hx)
 refine⟨cl,?_,a1,a3⟩
 unfold closureFor
 have e2:=e
 first
  | exact e2
  | (show (do let cs <- forIn sc.names [] _;pure cs)=_;rw [show (forIn sc.names [] _:Sem (List (Str×Addr)))=pure cl from e2];rfl)
  | simpa using e2
theorem zdZ {env:Env}{x:Str}:∀ {names:List (Str×NameKind)},(names.map fun (n,k)=>if (k==NameKind.free&&env.scope.kind==.function&&env.kindOf n==some .cell) then (n,NameKind.cell) else (n,k)).lookup x =
    (names.lookup x).map fun k=>if (k==NameKind.free&&env.scope.kind==.function&&env.kindOf x==some .cell) then NameKind.cell else k
  | []=>rfl
  | (n,k)::r=>by
    have ih:=zdZ (env:=env) (x:=x) (names:=r)
    rw [List.map_cons]
    by_cases hx:x=n
    · subst hx
      dsimp only
      split<;>simp_all [List.lookup_cons]
    · have hb:(x==n)=false:=by simpa using hx
      dsimp only
      split<;>(rw [List.lookup_cons,List.lookup_cons,hb];exact ih)
theorem mem_of_lookup {β:Type}{x:Str}{k:β}:∀ {l:List (Str×β)},l.lookup x=some k->(x,k)∈l
 | (n,b)::r,h=>by
  rw [List.lookup_cons] at h
  by_cases hx:x=n
  ·subst hx;simp at h;subst h;exact List.mem_cons_self
  ·have hb:(x==n)=false:=by simpa using hx
   rw [hb] at h
   exact List.mem_cons_of_mem _ (mem_of_lookup h)
section
variable {X:Cx}{sc:Scope}{tg iter elt:Expr}{ifs:List Expr}{own free:List Str}{fv:List Nat}{wi:TI}{g:TG}{tc:TT}{te:TE}{pos:Pos}
theorem zqC {σ:L2.St}:∀ {free:List Str} {fv:List Nat},zhn X sc free fv->∀ (k:Nat) (x:Str) (v:V),free[k]?=some x->(fv.map fun j=>(σ[j]?).join)[k]?=some (some v) ->
  ∃ j:Nat,X.N[j]?=some x/\σ[j]?=some (some v)/\sc.names.lookup x=some .free/\X.env.kindOf x=some .cell
 | x'::xs,j::js,h,k,x,v,e1,e2=>by
  cases k with
  | zero =>
   simp at e1 e2
   subst e1
   refine⟨j,h.1,?_,h.2.1,h.2.2.1⟩
   cases q:σ[j]? with
   | none=>rw [q] at e2;simp at e2
   | some o=>rw [q] at e2;simp at e2;rw [e2]
  | succ k=>exact zqC (free:=xs) (fv:=js) h.2.2.2 k x v (by simpa using e1) (by simpa using e2)
 | [],[],_,k,x,v,e1,_=>by simp at e1
theorem zos:∀ {free:List Str} {fv:List Nat},zhn X sc free fv->fv.length=free.length
  | [],[],_=>rfl
  | _::_,_::_,h=>congrArg (· + 1) (zos h.2.2.2)
theorem zi8 {RR:Value->Addr->Result->Shared->Prop}(hcalm:X.calm=true)(hxe:X.xe=fun _ _=>False)(hkind:sc.kind=.function)(hcell:∀ y∈sc.names,y.2≠.cell)
    (hfr:zd9 (fun x=>X.env.kindOf x=some .cell) sc.names) (hfv:zhn X sc free fv)
    (hg:∀ cl C s₀ H₀ ex,PG (inner X sc (own++free) cl C s₀ H₀ ex) tg g) (ht:∀ cl C s₀ H₀ ex,PFs (inner X sc (own++free) cl C s₀ H₀ ex) ifs tc) (he:∀ cl C s₀ H₀ ex,PE (inner X sc (own++free) cl C s₀ H₀ ex) elt te)
    {pins:List (Addr×Obj)} {s2:Shared} {σ:L2.St} {H2:Hp} {it:Addr} {fp:List Addr} {tn:Nat->Heap->Prop} {J:It} {Q:VK} (I2:Inv X pins σ H2 s2) (T:Turn X.prog X.w X.K tg J fp it tn) (st2:tn 0 s2.heap) (f2:∀ b∈fp,zeV X pins H2 b)
    (h:∀ p,H2 p=none->∃ W:Nat->Nat->Hp->Prop,(∃ m,W 0 m (upd H2 p (.lst [])))/\∀ i m H2,W i m H2 ->
      (J.stop i H2/\Q (.ref p) H2)\/(J.go i H2/\∀ x H',J.yld i H2 x H'->g x (cst own fv σ) H' fun σ2 H3=>Agr (cst own fv σ) σ2/\tc σ2 H3 fun b H4 =>
        if b=true then te σ2 H4 fun y H5=>∃ ys,H5 p=some (.lst ys)/\ys.length<sizeLine/\∃ m',m'<m/\W (i+1) m' (upd H5 p (.lst (ys++[y])))
        else ∃ m',m'<m/\W (i+1) m' H4))
    {cl:List (Str×Addr)} (hcl1:∀ x c,cl.lookup x=some c->X.env.cells.lookup x=some c) (hcl2:∀ y∈sc.names,y.2=.free->(cl.lookup y.1).isSome=true)
    (hRR:∀ (p C:Addr) (m:Str->Option Value) (H':Hp) (s':Shared),s'.heap.Ns C m->Inv X pins σ H' s'->H' C=none->C≠X.env.locals->X.s₀.heap.objs.size<=C->(∀ x c,X.env.cells.lookup x=some c->c≠C)->(∀ q∈X.pn++pins,q.1≠C)->Q (.ref p) H' ->
      RR (.ref p) C (.ok .next) s') :
    wpAny (model X.prog X.w) X.A (newList []) (fun acc s3=>wpAny (model X.prog X.w) X.A (newFunctionEnv sc X.env.globals cl [] X.env.qual none .none (some X.env)) (fun cenv s4 =>
      codeAny (model X.prog X.w) X.A (.compStart (.ListComp elt [⟨tg,iter,ifs,0⟩] sc pos) 0 (.ref it) acc { cenv with scope:=relabel sc X.env }) (RR acc cenv.locals) s4) X.xe s3) X.xe s2:=by
  rw [hxe]
  refine wpAny_newObj_type ?_
  have I3:Inv X pins σ (upd H2 s2.heap.objs.size (.lst [])) { s2 with heap:=s2.heap.push { cls:=.type "list",data:=.seq ([]:List Value).toArray } }:=I2.lnew (t':=s2.toks) .nil (Nat.zero_le _)
  generalize hs3:({ s2 with heap:=s2.heap.push { cls:=.type "list",data:=.seq ([]:List Value).toArray } }:Shared)=s3 at I3 ⊢
  have hp:H2 s2.heap.objs.size=none:=I2.fresh
  obtain⟨W,⟨m0,w0⟩,turn⟩:=h s2.heap.objs.size hp
  generalize hH3:upd H2 s2.heap.objs.size (.lst [])=H3 at I3 w0 ⊢
  have hk3:∀ b o,s2.heap.get? b=some o->s3.heap.get? b=some o:=fun b o e=>by rw [<- hs3];exact Heap.get?_push_of_some _ e
  have hz3:s3.heap.objs.size=s2.heap.objs.size+1:=by rw [<- hs3];exact Heap.size_push ..
  have st3:tn 0 s3.heap:=T.keep _ _ _ st2 fun b _ o e=>hk3 b o e
  have hfpo:∀ b∈fp,∃ o,s3.heap.get? b=some o:=fun b hb=>let ⟨o,e,_⟩:=T.obj _ _ st3 b hb;⟨o,e⟩
  have hfpn:∀ b∈fp,b≠s2.heap.objs.size:=fun b hb e=>by
    obtain⟨o,e',_⟩:=T.obj _ _ st2 b hb
    have:=Heap.lt_size e'
    rw [e] at this;exact Nat.lt_irrefl _ this
  have f3:∀ b∈fp,H3 b=none:=fun b hb=>by rw [<- hH3,zW (hfpn b hb)];exact (f2 b hb).1
  refine wpAny_newFunctionEnv hcell (by intro y hy;simp at hy) (fun h1 hns1 hsb1=>?_) hkind
  have hC0:H3 s3.heap.objs.size=none:=I3.fresh
  have old:∀ b o,s3.heap.get? b=some o->h1.get? b=some o:=fun b o e=>hsb1.extBut b o (Nat.ne_of_lt (Heap.lt_size e)) (Heap.get?_push_of_some _ e)
  have hlow:X.s₀.heap.objs.size<=s3.heap.objs.size:=I3.sz
  have hloc:X.env.locals<s3.heap.objs.size:=I3.lt
  have hcells:∀ x c,X.env.cells.lookup x=some c->c<s3.heap.objs.size:=fun x c e=>by
    obtain⟨v,o,ho,_⟩:=I3.cell x c e
    exact Heap.lt_size ho
  have YOk:(inner X sc (own++free) cl s3.heap.objs.size s3 H3 fp).Ok:={
    mod:=I3.ok.mod
    kind:=by show (relabel sc X.env).kind=.function;exact hkind
    glob:=I3.ok.glob
    blt:=I3.ok.blt
    above:=Nat.le_refl _
    inj:=fun x y c hx hy=>I3.ok.inj x y c (hcl1 x c hx) (hcl1 y c hy)
    has:=fun x hx=>by
      have e : (sc.names.lookup x).map (fun k => if (k == NameKind.free && X.env.scope.kind == .function && X.env.kindOf x == some .cell) then NameKind.cell else k) = some .cell ∨
          (sc.names.lookup x).map (fun k=>if (k==NameKind.free&&X.env.scope.kind==.function&&X.env.kindOf x==some .cell) then NameKind.cell else k)=some .free:=by
        have:=@zdZ X.env x sc.names
        rcases hx with hx | hx
        · exact .inl (this.symm.trans hx)
        · exact .inr (this.symm.trans hx)
      cases q:sc.names.lookup x with
      | none=>rw [q] at e;simp at e
      | some k =>
        have hm:=mem_of_lookup q
        by_cases hkf:k=.free
        · subst hkf
          exact Option.isSome_iff_exists.mp (hcl2 (x,.free) hm rfl)
        · have hkc:k≠.cell:=hcell (x,k) hm
          rw [q] at e
          have hb:(k==NameKind.free)=false:=by simpa using hkf
          simp only [Option.map_some,hb,Bool.false_and,Bool.false_eq_true,if_false,Option.some.injEq] at e
          rcases e with e | e
          · exact absurd e hkc
          · exact absurd e hkf
    cab:=fun x c hx=>by cases hx
    hd:=I3.ok.hd
    frames:=I3.ok.frames
    stk:=.inl rfl
    exf:=fun b hb=>⟨fun e=>by obtain⟨o,e'⟩:=hfpo b hb;have:=Heap.lt_size e';rw [e] at this;exact Nat.lt_irrefl _ this,fun x c hx=>(f2 b hb).2.2.2.2.1 x c (hcl1 x c hx)⟩
    bs:=I3.bs
    bsz:=Nat.le_trans I3.ok.bsz I3.sz
    noex:=fun b o hb hm=>by
      rcases (f2 b hm).2.2.2.1 with hx | hx
      · exact I3.ok.noex b o hb hx
      · exact Nat.lt_irrefl _ (Nat.lt_of_lt_of_le (Nat.lt_of_lt_of_le (Heap.lt_size hb) I3.ok.bsz) hx)
    exfs:=fun b hb hm=>by
      rcases List.mem_cons.mp (I3.stkSub b hm) with e | e
      · exact (f2 b hb).2.1 e
      · exact (f2 b hb).2.2.1 e
    funs:=I3.stack
    frf:=I3.stkFree }
  have hlen0:(cst own fv σ).length=(own++free).length:=by
    unfold cst;rw [List.length_append,List.length_append,List.length_replicate,List.length_map,zos hfv]
  have I4:∀ tk,Inv (inner X sc (own++free) cl s3.heap.objs.size s3 H3 fp) [] (cst own fv σ) H3 { s3 with heap:=h1,toks:=tk }:=fun tk=>{
    ok:=YOk
    os:=rfl
    bare:=I3.bare
    base:=Un.kept old
    loc:=by
      refine⟨_,hns1,fun i x v hN hσ _=>?_⟩
      have hN':(own++free)[i]?=some x:=hN
      have hσ':(List.replicate own.length none++fv.map fun j=>(σ[j]?).join)[i]?=some (some v):=hσ
      by_cases hi:i<own.length
      · rw [List.getElem?_append_left (by rw [List.length_replicate];exact hi)] at hσ'
        rw [List.getElem?_replicate] at hσ'
        split at hσ'<;>simp at hσ'
      · rw [List.getElem?_append_right (by omega)] at hN'
        rw [List.getElem?_append_right (by rw [List.length_replicate];omega),List.length_replicate] at hσ'
        obtain⟨j,hj,hσj,hsx,hkx⟩:=zqC hfv _ x v hN' hσ'
        obtain⟨m,_,hall⟩:=I3.loc
        obtain⟨u,ru,lk⟩:=hall j x v hj hσj (.inr (.inl hkx))
        refine⟨u,ru,.inr ⟨?_,?_⟩⟩
        · have:=@zdZ X.env x sc.names
          rw [hsx] at this
          have e2:Env.kindOf (inner X sc (own++free) cl s3.heap.objs.size s3 H3 fp).env x=(sc.names.map fun (n,k)=>if (k==NameKind.free&&X.env.scope.kind==.function&&X.env.kindOf n==some .cell) then (n,NameKind.cell) else (n,k)).lookup x:=rfl
          rw [e2,this]
          simp only [Option.map_some]
          split
          · exact .inl rfl
          · exact .inr rfl
        · rcases lk with ⟨hl,_⟩ | ⟨_,c,hc,hcell'⟩
          · rw [hkx] at hl;cases hl
          · obtain⟨c',hc'⟩:=Option.isSome_iff_exists.mp (hcl2 (x,.free) (mem_of_lookup hsx) rfl)
            have:=hcl1 x c' hc'
            rw [hc] at this
            cases this
            refine⟨c,hc',?_⟩
            obtain⟨o,ho,hd⟩:=hcell'
            exact⟨o,old _ _ ho,hd⟩
    cell:=fun x c hx=>by
      obtain⟨v,o,ho,hd⟩:=I3.cell x c (hcl1 x c hx)
      exact⟨v,o,old _ _ ho,hd⟩
    free:=hC0
    freeC:=fun x c hx=>I3.freeC x c (hcl1 x c hx)
    pin:=fun q hq=>nomatch hq
    hok:=I3.hok.kept old
    len:=hlen0 }
  have back:∀ (m:Str->Option Value) (H':Hp) (s':Shared),s'.heap.Ns s3.heap.objs.size m->Inv (inner X sc (own++free) cl s3.heap.objs.size s3 H3 fp) [] (cst own fv σ) H' s'->Q (.ref s2.heap.objs.size) H'->RR (.ref s2.heap.objs.size) s3.heap.objs.size (.ok .next) s':=fun m H' s' hm IY q=>by
    have u1:Un (frs X.stack) fp H3 H' s3.heap s'.heap:=IY.base
    have IX:Inv X pins σ H' s':=I3.call' (ch:=fp) (IY.os) u1 IY.hok IY.bare fun b hb=>⟨(f2 b hb).2.2.2.1,(f2 b hb).2.1,(f2 b hb).2.2.2.2.1,(f2 b hb).2.2.2.2.2⟩
    refine hRR _ _ m H' s' hm IX IY.free (Nat.ne_of_gt hloc) hlow (fun x c hx=>Nat.ne_of_lt (hcells x c hx)) (fun q' hq=>?_) q
    have:=(I3.pin q' hq).1
    exact Nat.ne_of_lt (Heap.lt_size this)
  have stat:∀ {H':Hp},(∀ b∈fp,H' b=none)->∀ b∈fp,zeV (inner X sc (own++free) cl s3.heap.objs.size s3 H3 fp) [] H' b:=fun hn b hb =>
    ⟨hn b hb,(YOk.exf b hb).1,YOk.exfs b hb,.inl hb,(YOk.exf b hb).2,fun q hq=>nomatch hq⟩
  have hYxe:(inner X sc (own++free) cl s3.heap.objs.size s3 H3 fp).xe=fun _ _=>False:=hxe
  have loop:∀ tk,codeAny (model X.prog X.w) X.A (.compLoop (.ListComp elt [⟨tg,iter,ifs,0⟩] sc pos) 0 (.ref it) (.ref s2.heap.objs.size) (compEnvC sc cl s3.heap.objs.size X.env)) (RR (.ref s2.heap.objs.size) s3.heap.objs.size) { s3 with heap:=h1,toks:=tk }:=fun tk=>by
    refine zlQ (fun n s'=>∃ i H',Inv (inner X sc (own++free) cl s3.heap.objs.size s3 H3 fp) [] (cst own fv σ) H' s'/\tn i s'.heap/\(∀ b∈fp,H' b=none)/\W i n H') ?_ m0 ⟨0,H3,I4 tk,T.keep _ _ _ st3 (fun b _ o e=>old b o e),f3,w0⟩
    rintro n s5 ⟨i,H5,I5,st5,fr5,w5⟩
    rcases turn i n H5 w5 with ⟨stop,q⟩ | ⟨go,step⟩
    · refine thn (T.done (inner X sc (own++free) cl s3.heap.objs.size s3 H3 fp) rfl rfl rfl hcalm i [] s5 _ H5 _ I5 (stat fr5) st5 stop) fun r s6 ⟨hr,I6⟩=>?_
      subst hr
      obtain⟨m,hm,_⟩:=I6.loc
      exact back m H5 s6 hm I6 q
    · refine thn (T.item (inner X sc (own++free) cl s3.heap.objs.size s3 H3 fp) rfl rfl rfl hcalm i [] s5 _ H5 _ I5 (stat fr5) st5 go) fun r s6 ⟨u,hr,h6⟩=>?_
      subst hr
      refine thn h6 fun _ s7 ⟨x,H7,I7,r7,y7,st7,fr7⟩=>?_
      have I7':=I7.pinned (stat fr7) (T.obj _ _ st7)
      have hg':=hg cl s3.heap.objs.size s3 H3 fp _ s7 _ H7 x u _ I7' r7 (step x H7 y7)
      have ht':=ht cl s3.heap.objs.size s3 H3 fp
      have he':=he cl s3.heap.objs.size s3 H3 fp
      have ap:MtM (inner X sc (own++free) cl s3.heap.objs.size s3 H3 fp) "list.append" zmt:=zj4
      unfold PFs at ht'
      unfold PE at he'
      unfold MtM at ap
      rw [hYxe] at hg' ht' he' ap
      have again : ∀ {pl : List (Addr × Obj)} {σ8 : L2.St} {H8 : Hp} {s8 : Shared}, pl = zhp fp s7.heap → Inv (inner X sc (own ++ free) cl s3.heap.objs.size s3 H3 fp) ([] ++ pl) σ8 H8 s8 → Agr (cst own fv σ) σ8 → (∃ m', m' < n ∧ W (i + 1) m' H8) →
          ∃ m,m<n/\∃ i H',Inv (inner X sc (own++free) cl s3.heap.objs.size s3 H3 fp) [] (cst own fv σ) H' s8/\tn i s8.heap/\(∀ b∈fp,H' b=none)/\W i m H':=fun {pl σ8 H8 s8} hpl I8 ag ⟨m',hm,w8⟩=>by
        subst hpl
        refine⟨m',hm,i+1,H8,(I8.unpinned).weak ag.len.symm (fun j v e=>ag.get j v e),T.keep _ _ _ st7 fun b hb o e=>(I8.pin (b,o) (List.mem_append_right _ (List.mem_append_right _ (zeE hb e)))).1,fun b hb=>?_,w8⟩
        obtain⟨o,e,d⟩:=T.obj _ _ st7 b hb
        exact (I8.pin (b,o) (List.mem_append_right _ (List.mem_append_right _ (zeE hb e)))).2.1
      refine thn hg' fun _ s8 ⟨σ8,H8,I8,ag,q8⟩=>?_
      refine thn (ht' _ s8 σ8 H8 _ I8 q8) fun b s9 ⟨H9,I9,q9⟩=>?_
      cases b with
      | false =>
        rw [if_neg Bool.false_ne_true] at q9 ⊢
        exact again rfl I9 ag q9
      | true =>
        rw [if_pos rfl] at q9 ⊢
        refine thn (he' _ s9 σ8 H9 _ I9 q9) fun y s10 ⟨yv,H10,I10,ry,ys,hy,hlt,q10⟩=>?_
        refine thn (ap _ s10 σ8 H10 (.ref s2.heap.objs.size) [yv] (.ref s2.heap.objs.size) [y] (fun v H'=>v=.non/\H'=upd H10 s2.heap.objs.size (.lst (ys++[yv]))) I10 rfl (.cons ry .nil) ⟨_,ys,yv,rfl,rfl,hy,hlt,rfl,rfl⟩) fun z s11 ⟨v11,H11,I11,_,_,e11⟩=>?_
        subst e11
        exact again rfl I11 ag q10
  refine codeAny_compStart_list (loop _) (T.self _ 0 _ _ _ (T.keep _ _ _ st3 fun b _ o e=>old b o e) (loop _))
theorem zvm (hcalm:X.calm=true)(hxe:X.xe=fun _ _=>False)(hkind:sc.kind=.function)(hcell:∀ y∈sc.names,y.2≠.cell)(hnames:∀ y∈sc.names,y.2=.local->sc.names.lookup y.1=some .local)
  (hfr:zd9 (fun x=>X.env.kindOf x=some .cell) sc.names) (hfv:zhn X sc free fv) (hi:PI X tg iter wi)
  (hg:∀ cl C s₀ H₀ ex,PG (inner X sc (own++free) cl C s₀ H₀ ex) tg g) (ht:∀ cl C s₀ H₀ ex,PFs (inner X sc (own++free) cl C s₀ H₀ ex) ifs tc) (he:∀ cl C s₀ H₀ ex,PE (inner X sc (own++free) cl C s₀ H₀ ex) elt te)
  (hs:∀ x,foldedSetIterable iter X.env x=pure x:=by intro _;rfl):PE X (.ListComp elt [⟨tg,iter,ifs,0⟩] sc pos) (tLC own fv wi g tc te):=by
 intro pins s σ H Q I q
 obtain⟨cl,hclos,hcl1,hcl2⟩:=ziH (env:=X.env) (sc:=sc) fun y hy e=>I.ok.has y.1 (.inl (hfr.of y hy e))
 rw [eval_ListComp]
 refine wpAny_comprehension_free (use:=none) rfl hs hclos hkind hnames (thn (hi pins s σ H _ I q) fun v s1 h1=>thn h1 fun itv s2 h2=>?_)
 obtain⟨it,fp,tn,J,H2,e,I2,T,st2,f2,q2⟩:=h2
 subst e
 refine zi8 (RR:=fun acc C=>compPost (model X.prog X.w) X.A X.xe none (EP X pins σ Q) acc C) hcalm hxe hkind hcell hfr hfv hg ht he I2 T st2 f2 q2 hcl1 hcl2 ?_
 intro p C m H' s' hm I' hC hCl hC0 hCc hCp q'
 exact⟨m,hm,fun h' hs'=>⟨.ref p,H',I'.turned (t':=s'.toks) (fun b o hb e=>hs'.extBut b o hb e) hC hCl (.inr hC0) hCc hCp,rfl,q'⟩⟩
theorem zq5 {i:Nat}{y:Str}{py spos:Pos}(hN:X.N.Nodup)(hy:X.N[i]?=some y)(hyl:X.env.scope.names.lookup y=some .local)(hcalm:X.calm=true)(hxe:X.xe=fun _ _=>False)(hkind:sc.kind=.function)(hcell:∀ y∈sc.names,y.2≠.cell)(hnames:∀ y∈sc.names,y.2=.local->sc.names.lookup y.1=some .local)
  (hfr:zd9 (fun x=>X.env.kindOf x=some .cell) sc.names) (hfv:zhn X sc free fv) (hi:PI X tg iter wi)
  (hg:∀ cl C s₀ H₀ ex,PG (inner X sc (own++free) cl C s₀ H₀ ex) tg g) (ht:∀ cl C s₀ H₀ ex,PFs (inner X sc (own++free) cl C s₀ H₀ ex) ifs tc) (he:∀ cl C s₀ H₀ ex,PE (inner X sc (own++free) cl C s₀ H₀ ex) elt te)
  (hsw:swapsWith (.ListComp elt [⟨tg,iter,ifs,0⟩] sc pos) (some (.Name y py)) spos.line X.env=pure true:=by rfl)
  (hs:∀ x,foldedSetIterable iter X.env x=pure x:=by intro _;rfl):PS X (.Assign [.Name y py] (.ListComp elt [⟨tg,iter,ifs,0⟩] sc pos) spos) (zpb (tLC own fv wi g tc te) (zE i)):=by
 intro pins s σ H D I q
 obtain⟨cl,hclos,hcl1,hcl2⟩:=ziH (env:=X.env) (sc:=sc) fun y hy e=>I.ok.has y.1 (.inl (hfr.of y hy e))
 rw [exec_Assign_Name_used _ _ _ _ hsw]
 refine wpAny_bind (wpAny_standAt (wpAny_bind ?_))
 show wpAny _ X.A (do let _ <- comprehension (.ListComp elt [⟨tg,iter,ifs,0⟩] sc pos) sc X.env _ (newList []) false (eval iter X.env) (some (assign (.Name y py) X.env))) _ _ s
 refine wpAny_bind (wpAny_mono (wpAny_comprehension_free (use:=some (assign (.Name y py) X.env)) (Q:=fun _ s'=>SP X pins D .next s') rfl hs hclos hkind hnames
  (thn (hi pins s σ H _ I q) fun v s1 h1=>thn h1 fun itv s2 h2=>?_)) (fun _ s' hq=>wpAny_pure (wpAny_pure hq)) fun _ _ e=>e)
 obtain⟨it,fp,tn,J,H2,e,I2,T,st2,f2,q2⟩:=h2
 subst e
 refine zi8 (RR:=fun acc C=>compPost (model X.prog X.w) X.A X.xe (some (assign (.Name y py) X.env)) (fun _ s'=>SP X pins D .next s') acc C) (Q:=fun x H1=>zE i x σ H1 D.nx) hcalm hxe hkind hcell hfr hfv hg ht he I2 T st2 f2 q2 hcl1 hcl2 ?_
 intro p C m H' s' hm I' hC hCl hC0 hCc hCp q'
 show wpAny _ X.A (assign (.Name y py) X.env (.ref p)) _ _ _
 refine wpAny_assign_Name (zjY (v:=.ref p) I' hN hy (.inl hyl) rfl (fun s'' I'' hsb=>?_) (.inr hyl))
 obtain⟨a,hsb,ha⟩:=hsb
 have hCa:C≠a:=by
  rcases ha with rfl | ha
  ·exact hCl
  ·exact fun e=>hCc _ _ ha e.symm
 refine⟨m,hm.sameBut hsb hCa,fun h' hs'=>⟨_,H',I''.turned (t':=s''.toks) (fun b o hb e=>hs'.extBut b o hb e) hC hCl (.inr hC0) hCc hCp,q'⟩⟩
end
end My
namespace My
open PySem PySem.Spec PyProof.Rows L2
section
variable {σ:L2.St}{H:Hp}{K:PySem.W.Frag}
end
end My
namespace My
open PySem PySem.Spec PyProof.Rows L2
section
variable {X:Cx}{tg:Expr}
end
end My
namespace My
open PySem PySem.Spec PyProof.Rows L2
mutual
inductive Dt (K:PySem.W.Frag)(H:Hp):V->PyData->Prop
 | non:Dt K H .non .none
 | bl (b:Bool):Dt K H (.bl b) (.bool b)
 | int (i:Int):Dt K H (.int i) (.int i)
 | tup {a:Addr} {xs:List V} {ds:List PyData}:SqT K H a xs->ziY K H xs ds->Dt K H (.ref a) (.tuple ds)
 | lst {a:Addr} {xs:List V} {ds:List PyData}:SqL K H a xs->ziY K H xs ds->Dt K H (.ref a) (.list ds)
inductive ziY (K:PySem.W.Frag)(H:Hp):List V->List PyData->Prop
 | nil:ziY K H [] []
 | cons {x:V} {xs:List V} {d:PyData} {ds:List PyData}:Dt K H x d->ziY K H xs ds->ziY K H (x::xs) (d::ds)
end
section
variable {X:Cx}{pins:List (Addr×Obj)}{σ:L2.St}{H:Hp}{s:Shared}
end
end My
namespace My
open PySem PySem.Spec PyProof.Rows L2
section
variable {X:Cx}{pins:List (Addr×Obj)}{σ:L2.St}{H:Hp}{s:Shared}
theorem _root_.L2.Inv.turnNew {h':Heap}{ch:List Addr}{a:Addr}{o:HO}{t':Nat}(I:Inv X pins σ H s)(hf:∀ b∈ch,zeV X pins H b)(k:∀ b u,b∉ch->s.heap.get? b=some u->h'.get? b=some u)(ha:s.heap.objs.size<=a)
  (new:zbc X.prog X.w (upd H a o) h' a o):Inv X pins σ (upd H a o) { s with heap:=h',toks:=t' }:=by
 have lt:∀ b u,s.heap.get? b=some u->b≠a:=fun b u e z=>by
  have:=Heap.lt_size e
  rw [z] at this;exact Nat.lt_irrefl _ (Nat.lt_of_lt_of_le this ha)
 have ltH:∀ b u,H b=some u->b≠a:=fun b u e z=>by
  have:=I.hok.lt e
  rw [z] at this;exact Nat.lt_irrefl _ (Nat.lt_of_lt_of_le this ha)
 have nch:∀ b u,H b=some u->b∉ch:=fun b u e z=>by rw [(hf b z).1] at e;cases e
 refine I.step (g':=s.gens) (d':=s.drawn) (ch:=ch) (fun b hb=>⟨(hf b hb).2.2.2.1,(hf b hb).2.1,(hf b hb).2.2.2.2.1,(hf b hb).2.2.2.2.2⟩) (fun b u _ _ hc e _=>k b u hc e) (fun b u _ _ hc e _=>⟨u.slots,k b u hc e⟩)
  (fun b u _ e n=>by rw [zW (lt b u e)];exact n) (fun b u hc e=>⟨u,k b u hc e⟩) (fun b xs e=>by rw [zW (ltH b _ e)];exact e) (fun b u v e=>by rw [zW (ltH b _ e)];exact e)
  (fun b ps e=>⟨#[],by rw [zW (ltH b _ e),e];simp⟩) (fun m hm=>?_) (fun b u e=>?_) I.bare
 ·obtain⟨ob,es,ep,ho,r⟩:=hm
  exact⟨ob,es,ep,k _ ob (fun z=>(hf _ z).2.1 rfl) ho,r⟩
 ·by_cases hb:b=a
  ·subst hb
   rw [zaF] at e
   cases e
   exact new
  ·rw [zW hb] at e
   refine (I.hok b u e).stay (fun c v hc q=>k c v ?_ q) (fun c q=>by rw [zW (ltH c _ q)];exact q) fun c ys q=>by rw [zW (ltH c _ q)];exact q
   rcases hc with z | z
   ·rw [z];exact nch b u e
   ·exact nch c _ z
theorem _root_.L2.Inv.turnedL {h':Heap}{ch:List Addr}{t':Nat}(I:Inv X pins σ H s)(hf:∀ b∈ch,zeV X pins H b)(k:∀ b u,b∉ch->s.heap.get? b=some u->h'.get? b=some u):Inv X pins σ H { s with heap:=h',toks:=t' }:=by
 have nch:∀ b u,H b=some u->b∉ch:=fun b u e z=>by rw [(hf b z).1] at e;cases e
 refine I.step (g':=s.gens) (d':=s.drawn) (ch:=ch) (fun b hb=>⟨(hf b hb).2.2.2.1,(hf b hb).2.1,(hf b hb).2.2.2.2.1,(hf b hb).2.2.2.2.2⟩) (fun b u _ _ hc e _=>k b u hc e) (fun b u _ _ hc e _=>⟨u.slots,k b u hc e⟩)
  (fun b u _ e n=>n) (fun b u hc e=>⟨u,k b u hc e⟩) (fun b xs e=>e) (fun b u v e=>e) (fun b ps e=>⟨#[],by rw [e];simp⟩) (fun m hm=>?_) (fun b u e=>?_) I.bare
 ·obtain⟨ob,es,ep,ho,r⟩:=hm
  exact⟨ob,es,ep,k _ ob (fun z=>(hf _ z).2.1 rfl) ho,r⟩
 ·refine (I.hok b u e).stay (fun c v hc q=>k c v ?_ q) (fun c q=>q) fun c ys q=>q
  rcases hc with z | z
  ·rw [z];exact nch b u e
  ·exact nch c _ z
end
section
variable {X:Cx}
end
def Ite (K:PySem.W.Frag)(l:Addr):It :=
  ⟨fun i H=>∃ xs x,SqL K H l xs/\xs[i]?=some x,
   fun i H v H'=>∃ p,v=.ref p/\H p=none/\∀ xs x,SqL K H l xs->xs[i]?=some x->H'=upd H p (.tup [.int i,x]),
   fun i H=>∃ xs,SqL K H l xs/\xs.length<=i⟩
theorem zoy {P:Program}{w:World}{K:PySem.W.Frag}{es:List Expr}{kk:Nat}{pos:Pos}{e it l:Addr}(hne:e≠it) :
  Turn P w K (.Tuple es kk pos) (Ite K l) [e,it] e (fun i h=>(∃ old,IsEnum h e it i old)/\h.IsListIter it l i) where
 mem:=by simp
 obj:=fun i h st b hb=>by
  obtain⟨⟨old,he⟩,⟨o1,h1,_,h1d⟩⟩:=st
  simp only [List.mem_cons,List.not_mem_nil,or_false] at hb
  rcases hb with rfl | rfl
  ·exact⟨_,he,fun v q=>by cases (show Data.fields _=Data.cell v from q)⟩
  ·exact⟨_,h1,fun v q=>by rw [h1d] at q;cases q⟩
 keep:=fun i h h' st k=>by
  obtain⟨⟨old,he⟩,h1⟩:=st
  exact⟨⟨old,k e (by simp) _ he⟩,h1.at fun o q=>k it (by simp) o q⟩
 item:=by
  intro X hP hw hK hc i pins s σ H E I hf st hg
  subst hP hw hK
  obtain⟨⟨old,he⟩,h1⟩:=st
  obtain⟨xs,x,hx1,hx⟩:=hg
  obtain⟨its,rx,px,zx⟩:=I.list hx1
  obtain⟨u,hu,ru⟩:=Vals.get rx hx
  refine wpAny_pyNext_enum_item he h1 px.isList (by simpa using hu) hne fun h' a1 a2 a3 a4 hk=>?_
  refine⟨_,rfl,wpAny_letOwnedTupleGo_enum (s:={ s with heap:=h',toks:=s.toks+1 }) a1 fun h'' he'' hs''=>?_⟩
  have lt:∀ {c o},s.heap.get? c=some o->s.heap.objs.size≠c:=fun q=>Nat.ne_of_gt (Heap.lt_size q)
  have k2:∀ b u,b∉[e,it]->s.heap.get? b=some u->h''.get? b=some u:=fun b u hb q=>by
   simp only [List.mem_cons,List.not_mem_nil,or_false,not_or] at hb
   exact hs''.extBut b u hb.1 (hk b u hb.1 hb.2 q)
  have new:h''.get? s.heap.objs.size=some { cls:=.type "tuple",data:=.seq #[.int i s.toks,u] }:=hs''.extBut _ _ (lt he) a3
  refine⟨.ref s.heap.objs.size,upd H s.heap.objs.size (.tup [.int i,x]),I.turnNew (t':=s.toks+1) hf k2 (Nat.le_refl _) ⟨by show 2<=sizeLine;decide,[.int i s.toks,u],.cons ⟨_,rfl⟩ (.cons ru .nil),_,new,rfl,_,rfl⟩,rfl,⟨_,rfl,I.fresh,?_⟩,?_,fun b hb=>?_⟩
  ·intro xs' x' hx1' hx'
   cases I.list_inj hx1 hx1'
   rw [hx] at hx'
   cases hx'
   rfl
  ·exact⟨⟨_,he''⟩,a2.extBut hs''.extBut (Ne.symm hne)⟩
  ·have:∃ o,s.heap.get? b=some o:=by
    simp only [List.mem_cons,List.not_mem_nil,or_false] at hb
    obtain⟨o1,e1,_⟩:=h1
    rcases hb with rfl | rfl
    ·exact⟨_,he⟩
    ·exact⟨_,e1⟩
   obtain⟨o,q⟩:=this
   rw [zW (lt q).symm]
   exact (hf b hb).1
 done:=by
  intro X hP hw hK hc i pins s σ H E I hf st hg
  subst hP hw hK
  obtain⟨⟨old,he⟩,h1⟩:=st
  obtain⟨xs,hx1,hl⟩:=hg
  obtain⟨its,rx,px,zx⟩:=I.list hx1
  have n1:=rx.length
  refine wpAny_pyNext_enum_end (I.ok.hd hc) he h1 px.isList (by rw [List.getElem?_toArray];exact List.getElem?_eq_none (by omega)) fun h' hk=>⟨rfl,I.turnedL (t':=s.toks) hf fun b u hb q=>?_⟩
  simp only [List.mem_cons,List.not_mem_nil,or_false,not_or] at hb
  exact hk b u hb.2 q
 self:=fun _ _ _ _ _ st h=>by
  obtain⟨⟨old,he⟩,_⟩:=st
  exact wpAny_pyIter_enum he h
section
variable {X:Cx}
end
end My
namespace My
open PySem PySem.Spec PyProof.Rows L2
end My
namespace My
open PySem PySem.Spec PyProof.Rows L2
def hT (x1 z1 x2 z2 a b:Int):Int:=z1*(x2-x1)*b+(z2-z1)*(a-x1*b)
def hB (x1 x2 b:Int):Int:=(x2-x1)*b
section
variable {σ:L2.St}{H:Hp}
end
structure zjz (P:Program)(w:World)(K:PySem.W.Frag)(mg:Str->Option Value)(base:Heap)(k:Nat)(x:Str)(sp:Sp):Prop where
 ex:∃ (C f:Addr) (fd:FuncData) (ps:List Str) (sp0:Sp),Mk K C f/\zX P w K mg base CX0 k f fd ps sp0/\Binds K fd ps []/\mg x=some (.ref C) /\
  ∀ vs H Q,sp vs H Q E0->∀ x dx,H x=none->H dx=none->dx≠x->sp0 (.ref x::vs) (upd (upd H dx (.own x)) x (.ins C dx [])) (fun v H2=>v=.non/\Q (.ref x) H2) E0
theorem zuR {X:Cx}{k j:Nat}{x:Str}{sp:Sp}{p pos:Pos}{e:Expr}{es:List Expr}{t:TA}(G:zjz X.prog X.w X.K X.mg X.base k x sp)(hr:zaM j X.A)(hk:k+1<=j)(hg:Gl X x)
  (ha:PA X (e::es) t) (hdb:(x==("__debug__":Str))=false:=by decide) (he:starEach (e::es) X.env=(false,eval e X.env)::starEach es X.env:=by rfl) (hpl:(backTo pos (starEach es X.env)).any (·.1)=false:=by rfl) :
  PE X (.Call (.Name x p) (e::es) [] pos) (znw sp [] E0 t):=by
 intro pins s σ H Q I h
 obtain⟨C,f,fd,ps,sp0,M,F,b,hm,imp⟩:=G.ex
 refine wpAny_Call_Name_kw (zd0 I hg hm ?_ hdb)
 refine PySem.W.callWith_K (h₀:=X.base) I.ok.mod.kin M.kp (thn (ha pos pins s σ H _ I h) fun us s1 ⟨vs,H1,I1,r,q⟩=>⟨I1.kIn,?_⟩) he hpl
 have q':sp (vs++[]) H1 Q E0:=q
 rw [List.append_nil] at q'
 exact zpl (dvs:=[]) (ds:=[]) M F (hr.mono hk) b .nil zq2 I1 r fun x dx h1 h2 h3=>by rw [List.append_nil];exact imp vs H1 Q q' x dx h1 h2 h3
theorem zrH {X:Cx}{x:Str}{n:Int}{pos:Pos}(hg:Gl X x)(hm:∃ t,X.mg x=some (.int n t))(hd:(x==("__debug__":Str))=false:=by decide):PE X (.Name x pos) (tC (.int n)):=by
 obtain⟨t,ht⟩:=hm
 exact zmv (v:=.int n) hg ht ⟨t,rfl⟩ hd
section
variable {σ:L2.St}{H:Hp}{K:PySem.W.Frag}
end
end My
namespace My
open PySem PySem.Spec PyProof.Rows L2
section
variable {X:Cx}{K:PySem.W.Frag}
theorem zsL {pins:List (Addr×Obj)}{σ:L2.St}{H:Hp}{s:Shared}{p:Addr}{its:List Value}(_:Inv X pins σ H s)(pl:PlainL s.heap p its.toArray) :
  p<s.heap.objs.size/\(s.heap.push { cls:=.type "list_iterator",data:=.fields #[.ref p,.int 0 0] }).IsListIter s.heap.objs.size p 0:=by
 obtain⟨o,ho,_⟩:=pl.isList
 exact⟨Heap.lt_size ho,_,Heap.get?_push_size _ rfl,rfl,rfl⟩
theorem zt0 {H:Hp}{pins:List (Addr×Obj)}{σ:L2.St}{s:Shared}{h':Heap}{tk:Nat}(I:Inv X pins σ H s){o:Obj}(hk:∀ b u,b∉[s.heap.objs.size]->(s.heap.push o).get? b=some u->h'.get? b=some u) :
  Inv X pins σ H { s with heap:=h',toks:=tk }:=I.kept (t':=tk) fun d u e=>hk d u (fun hm=>by
   have h1:d=s.heap.objs.size:=by simpa using hm
   have h2:=Heap.lt_size e
   rw [h1] at h2
   exact Nat.lt_irrefl _ h2) (Heap.get?_push_of_some _ e)
def zwD (K:PySem.W.Frag):List V->Hp->VK->Prop:=fun xs H Q=>∃ (p:Addr) (bs:List Bool),xs=[.ref p]/\SqL K H p (bs.map V.bl)/\Q (.bl (bs.all id)) H
theorem zpP {bs:List Bool}{its:List Value}(rv:Vals (bs.map V.bl) its){i:Nat}{v:Value}(h:its.toArray[i]?=some v):v=.bool (bs.getD i false):=by
 rw [<- Array.getElem?_toList] at h
 have hi:i<its.length:=by
  rcases Nat.lt_or_ge i its.length with g | g
  ·exact g
  ·rw [List.getElem?_eq_none (by simpa using g)] at h;cases h
 have hl:=rv.length
 rw [List.length_map] at hl
 have e:(bs.map V.bl)[i]?=some (.bl (bs.getD i false)):=by
  rw [List.getElem?_map,List.getElem?_eq_getElem (by omega)]
  simp [List.getD_eq_getElem?_getD,List.getElem?_eq_getElem (show i<bs.length by omega)]
 obtain⟨u,hu,ru⟩:=rv.get e
 rw [show its.toArray.toList=its from rfl,hu] at h
 cases h
 exact ru
theorem all_range (bs:List Bool):(List.range bs.length).all (fun i=>bs.getD i false)=bs.all id:=by
 rw [Bool.eq_iff_iff,List.all_eq_true,List.all_eq_true]
 constructor
 ·intro h b hb
  obtain⟨i,hi,rfl⟩:=List.mem_iff_getElem.mp hb
  simpa [List.getD_eq_getElem?_getD,List.getElem?_eq_getElem hi] using h i (List.mem_range.mpr hi)
 ·intro h i hi
  rw [List.mem_range] at hi
  have:=h bs[i] (List.getElem_mem hi)
  simpa [List.getD_eq_getElem?_getD,List.getElem?_eq_getElem hi] using this
theorem zoN (hK:X.K=K)(hc:X.calm=true):zaK X (.builtin "all") (zwD K):=fun pins s σ H xs us Q I r h=>by
 subst hK
 obtain⟨p,bs,rfl,hS,q⟩:=h
 obtain⟨u,rfl,ru⟩:=vals1 r
 cases ru
 obtain⟨its,rv,pl,hz⟩:=I.list hS
 obtain⟨lt,st⟩:=zsL I pl
 have hl:=rv.length
 rw [List.length_map] at hl
 have W:=Walks.list (prog:=X.prog) (w:=X.w) (A:=X.A.in1) (I.ok.hd hc) s.heap.objs.size p (Nat.ne_of_lt lt) its.toArray
 refine call_all_walk (wpAny_pyIter_list pl.isList ⟨s.heap.objs.size,[s.heap.objs.size,p],[s.heap.objs.size],_,_,_,fun i=>bs.getD i false,rfl,W,⟨st,pl.isList.push _⟩,?_,?_⟩)
 ·intro i v s' Q' E' hv hq
  rw [zpP rv hv]
  exact wpAny_truthy_bool hq
 ·intro h' tk hk
  rw [List.size_toArray,<- hl,all_range]
  exact⟨.bl _,H,zt0 (s:=s) I hk,rfl,q⟩
def zuF (K:PySem.W.Frag):List V->Hp->VK->Prop:=fun xs H Q=>∃ (p:Addr) (ns:List Int),xs=[.ref p]/\SqL K H p (ns.map V.int)/\0<ns.length/\∀ m:Int,m∈ns->(∀ a∈ns,a<=m)->Q (.int m) H
def zvk (K:PySem.W.Frag):List V->Hp->VK->Prop:=fun xs H Q=>∃ (p:Addr) (ns:List Int),xs=[.ref p]/\SqL K H p (ns.map V.int)/\0<ns.length/\∀ m:Int,m∈ns->(∀ a∈ns,m<=a)->Q (.int m) H
theorem zf8:∀ {ns:List Int} {its:List Value},Vals (ns.map V.int) its->∃ xs:Array (Int×Tok),its.toArray=intItems xs/\xs.toList.map (·.1)=ns
 | [],_,h=>by cases h;exact⟨#[],by simp [intItems],rfl⟩
 | n::ns,_,h=>by
  cases h with
  | cons r t =>
   obtain⟨tk,rfl⟩:=r
   obtain⟨xs,e1,e2⟩:=zf8 t
   refine⟨#[(n,tk)]++xs,?_,?_⟩
   ·apply Array.toList_inj.mp
    have:=congrArg Array.toList e1
    simp [intItems] at this ⊢
    exact this
   ·simp [e2]
theorem zom (hK:X.K=K)(hc:X.calm=true):zaK X (.builtin "max") (zuF K):=fun pins s σ H xs us Q I r h=>by
 subst hK
 obtain⟨p,ns,rfl,hS,hne,q⟩:=h
 obtain⟨u,rfl,ru⟩:=vals1 r
 cases ru
 obtain⟨its,rv,pl,hz⟩:=I.list hS
 obtain⟨xs,e1,e2⟩:=zf8 rv
 have hsz:0<xs.size:=by rw [<- Array.length_toList,<- List.length_map (f:=(·.1)),e2];exact hne
 refine max_intList (I.ok.hd hc) (e1▸pl.isList) hsz fun v h' tk hv hk=>?_
 obtain⟨t,rfl⟩:=intItems_at hv
 obtain⟨h1,h2⟩:=argBest_gt (numAt xs) (xs.size-1)
 refine⟨.int _,H,I.kept (t':=tk) hk,⟨t,rfl⟩,q _ ?_ fun a ha=>?_⟩
 ·rw [<- e2,numAt_eq];exact getD_mem (by rw [List.length_map,Array.length_toList];omega)
 ·rw [<- e2] at ha
  obtain⟨j,hj,rfl⟩:=mem_getD ha
  rw [List.length_map,Array.length_toList] at hj
  rw [<- numAt_eq];exact h2 j (by omega)
theorem zon (hK:X.K=K)(hc:X.calm=true):zaK X (.builtin "min") (zvk K):=fun pins s σ H xs us Q I r h=>by
 subst hK
 obtain⟨p,ns,rfl,hS,hne,q⟩:=h
 obtain⟨u,rfl,ru⟩:=vals1 r
 cases ru
 obtain⟨its,rv,pl,hz⟩:=I.list hS
 obtain⟨xs,e1,e2⟩:=zf8 rv
 have hsz:0<xs.size:=by rw [<- Array.length_toList,<- List.length_map (f:=(·.1)),e2];exact hne
 refine min_intList (I.ok.hd hc) (e1▸pl.isList) hsz fun v h' tk hv hk=>?_
 obtain⟨t,rfl⟩:=intItems_at hv
 obtain⟨h1,h2⟩:=argBest_lt (numAt xs) (xs.size-1)
 refine⟨.int _,H,I.kept (t':=tk) hk,⟨t,rfl⟩,q _ ?_ fun a ha=>?_⟩
 ·rw [<- e2,numAt_eq];exact getD_mem (by rw [List.length_map,Array.length_toList];omega)
 ·rw [<- e2] at ha
  obtain⟨j,hj,rfl⟩:=mem_getD ha
  rw [List.length_map,Array.length_toList] at hj
  rw [<- numAt_eq];exact h2 j (by omega)
def zva (K:PySem.W.Frag):List V->Hp->VK->Prop:=fun xs H Q=>∃ p ys,xs=[.ref p]/\((SqL K H p ys/\∀ l,H l=none->Q (.ref l) (upd H l (.tup ys)))\/(SqT K H p ys/\Q (.ref p) H))
theorem zoJ (hK:X.K=K):zaK X (.type "tuple") (zva K):=hK▸zkf
end
section
variable {X:Cx}{K:PySem.W.Frag}
def zvo (K:PySem.W.Frag):R2:=fun x y H Q=>∃ l b xs zs,x=.ref l/\y=.ref b/\SqL K H l xs/\SqL K H b zs/\xs.length+zs.length<=sizeLine/\∀ p,H p=none->Q (.ref p) (upd H p (.lst (xs++zs)))
theorem zq6 (hK:X.K=K):OpR X (binaryOp .Add) (zvo K):=by
 subst hK
 intro pins s σ H x y v u Q I rx ry h
 obtain⟨l,b,xs,zs,rfl,rfl,hH,hB,hz,q⟩:=h
 cases rx
 cases ry
 obtain⟨its,r,pl,_⟩:=I.list hH
 obtain⟨its2,r2,pl2,_⟩:=I.list hB
 obtain⟨⟨cls,dd,data,sl⟩,ho,hc,n,hd⟩:=pl.isList
 obtain⟨⟨cls2,dd2,data2,sl2⟩,ho2,hc2,n2,hd2⟩:=pl2.isList
 simp only at hc hd hc2 hd2
 subst hc hd hc2 hd2
 have e1:=r.length
 have e2:=r2.length
 refine concat_meets ⟨_,ho,rfl⟩ ⟨_,ho2,rfl⟩ noFill_list_add seq_list_add PySem.F.slot_list_add PySem.F.entry_list_add (PySem.F.args_list_add_2 _ _) (list_addW l b its.toArray its2.toArray n n2 dd dd2 sl sl2 (by rw [List.size_toArray,List.size_toArray];omega)) ⟨ho,ho2,?_⟩
 have ea:its.toArray++its2.toArray=(its++its2).toArray:=by simp
 rw [ea]
 exact⟨.ref _,_,I.lnew (t':=s.toks) (r.append r2) (by rw [List.length_append];omega),rfl,q _ I.fresh⟩
end
end My
namespace My
open PySem PySem.Spec PyProof.Rows L2
section
variable {σ:L2.St}{K:PySem.W.Frag}{own:List Str}{fv:List Nat}{g:TG}{tc:TT}{te:TE}{R:Hp->Prop}{H1:Hp}{p a:Addr}{xs:List V}
end
end My
namespace My
open PySem PySem.Spec PyProof.Rows L2
def ze7 (H:Hp)(ps:List Addr)(cs:List (Int×Int)):Prop:=Paired (fun (p:Addr) (c:Int×Int)=>H p=some (.tup [.int c.1,.int c.2])) ps cs
theorem ze7.length {H:Hp}{ps:List Addr}{cs:List (Int×Int)}(h:ze7 H ps cs):ps.length=cs.length:=Paired.length h
theorem zbe {α:Type}{xs:List α}{i:Nat}{x:α}(h:xs[i]?=some x):i<xs.length:=by
 rcases Nat.lt_or_ge i xs.length with g | g
 ·exact g
 ·rw [List.getElem?_eq_none g] at h;cases h
end My
namespace My
open PySem PySem.W PyProof.Rows
def zaf {α:Type}(lt:Nat->Nat->Bool):KasT α->α
 | .ret a=>a
 | .ask i j k=>zaf lt (k (lt i j))
theorem zdD {α β:Type}(lt:Nat->Nat->Bool)(f:α->KasT β):∀ t:KasT α,zaf lt (t.bind f)=zaf lt (f (zaf lt t))
 | .ret _=>rfl
 | .ask i j k=>zdD lt f (k (lt i j))
structure Swo (lt:Nat->Nat->Bool):Prop where
 asymm:∀ a b,lt a b=true->lt b a=false
 ntrans:∀ a b c,lt b a=false->lt c b=false->lt c a=false
section
variable {lt:Nat->Nat->Bool}
abbrev ga (p:Array Nat)(i:Nat):Nat:=p.getD i 0
theorem zgM (p:Array Nat)(i:Nat):ga p i=(p[i]?).getD 0:=by simp [ga,Array.getD_eq_getD_getElem?]
theorem zo7 {p:Array Nat}{src d:Nat}(hs:src<p.size)(hd:d<=src)(k:Nat):ga (bubble p src d) k=if k=src-d then ga p src else if src-d<k/\k<=src then ga p (k-1) else ga p k:=by
 rw [zgM,getElem?_bubble hs d hd]
 by_cases h1:k=src-d
 ·rw [if_pos h1,if_pos h1,zgM]
 ·rw [if_neg h1,if_neg h1]
  by_cases h2:src-d<k/\k<=src
  ·rw [if_pos h2,if_pos h2,zgM]
  ·rw [if_neg h2,if_neg h2,zgM]
theorem zc6 {p:Array Nat}{i j:Nat}(hj:j<=p.size)(k:Nat):ga (kas_rev p i j) k=if i<=k/\k<j then ga p (i+j-1-k) else ga p k:=by
  unfold kas_rev
  rw [zgM,getElem?_mirror_all hj]
  split<;>rw [zgM]
def Asc (lt:Nat->Nat->Bool)(p:Array Nat)(n:Nat):Prop:=∀ i j,i<=j->j<n->lt (ga p j) (ga p i)=false
def Dsc (lt:Nat->Nat->Bool)(p:Array Nat)(n:Nat):Prop:=∀ i j,i<=j->j<n->lt (ga p i) (ga p j)=false
def Eqs (lt:Nat->Nat->Bool)(p:Array Nat)(a b:Nat):Prop:=∀ i j,a<=i->i<b->a<=j->j<b->lt (ga p i) (ga p j)=false
theorem irr (S:Swo lt)(a:Nat):lt a a=false:=by
 cases h:lt a a with
 | false=>rfl
 | true=>have:=S.asymm a a h;rw [h] at this;exact this
theorem Asc.snoc (S:Swo lt){p:Array Nat}{n:Nat}(h1:1<=n)(h:Asc lt p n)(hn:lt (ga p n) (ga p (n-1))=false):Asc lt p (n+1):=by
 intro i j hij hj
 rcases Nat.lt_or_ge j n with g | g
 ·exact h i j hij g
 ·have e:j=n:=by omega
  subst e
  rcases Nat.lt_or_ge i j with g' | g'
  ·exact S.ntrans (ga p i) (ga p (j-1)) (ga p j) (h i (j-1) (by omega) (by omega)) hn
  ·have:i=j:=by omega
   subst this
   exact irr S _
theorem Dsc.snoc (S:Swo lt){p:Array Nat}{n:Nat}(h1:1<=n)(h:Dsc lt p n)(hn:lt (ga p (n-1)) (ga p n)=false):Dsc lt p (n+1):=by
 intro i j hij hj
 rcases Nat.lt_or_ge j n with g | g
 ·exact h i j hij g
 ·have e:j=n:=by omega
  subst e
  rcases Nat.lt_or_ge i j with g' | g'
  ·exact S.ntrans (ga p j) (ga p (j-1)) (ga p i) hn (h i (j-1) (by omega) (by omega))
  ·have:i=j:=by omega
   subst this
   exact irr S _
theorem Dsc.rev {p:Array Nat}{n:Nat}(hn:n<=p.size)(h:Dsc lt p n):Asc lt (kas_rev p 0 n) n:=by
 intro i j hij hj
 rw [zc6 hn,zc6 hn,if_pos ⟨by omega,hj⟩,if_pos ⟨by omega,by omega⟩]
 exact h _ _ (by omega) (by omega)
theorem Asc.rev {p:Array Nat}{n:Nat}(hn:n<=p.size)(h:Asc lt p n):Dsc lt (kas_rev p 0 n) n:=by
 intro i j hij hj
 rw [zc6 hn,zc6 hn,if_pos ⟨by omega,by omega⟩,if_pos ⟨by omega,by omega⟩]
 exact h _ _ (by omega) (by omega)
theorem Dsc.turn (S:Swo lt){p:Array Nat}{n a:Nat}(hn:n<=p.size)(ha:a<=n)(h:Dsc lt p n)(he:Eqs lt p a n):Dsc lt (kas_rev p a n) n:=by
 intro i j hij hj
 rw [zc6 hn,zc6 hn]
 by_cases hi:a<=i
 ·rw [if_pos ⟨hi,by omega⟩,if_pos ⟨by omega,hj⟩]
  exact he _ _ (by omega) (by omega) (by omega) (by omega)
 ·rw [if_neg (by omega)]
  by_cases hj':a<=j
  ·rw [if_pos ⟨hj',hj⟩]
   exact h _ _ (by omega) (by omega)
  ·rw [if_neg (by omega)]
   exact h _ _ hij hj
theorem zdr {p:Array Nat}{i j:Nat}:(kas_rev p i j).size=p.size:=mirror_size _ _ _ _
theorem zcg {p:Array Nat}{i j:Nat}:(kas_rev p i j).Perm p:=mirror_perm _ _ _ _
theorem zk3 (S:Swo lt)(p:Array Nat):∀ f n,1<=n->Asc lt p n->Asc lt p (zaf lt (kas_asc p f n))/\n<=zaf lt (kas_asc p f n)/\zaf lt (kas_asc p f n)<=n+f/\(zaf lt (kas_asc p f n)<n+f->lt (ga p (zaf lt (kas_asc p f n))) (ga p (zaf lt (kas_asc p f n)-1))=true)
 | 0,n,_,h=>⟨h,Nat.le_refl _,Nat.le_refl _,fun z=>absurd z (Nat.lt_irrefl _)⟩
 | f+1,n,h1,h=>by
  cases hc:lt (ga p n) (ga p (n-1)) with
  | true =>
   have e:zaf lt (kas_asc p (f+1) n)=n:=by
    show zaf lt (if lt (ga p n) (ga p (n-1))=true then KasT.ret n else kas_asc p f (n+1))=n
    rw [if_pos hc];rfl
   rw [e]
   exact⟨h,Nat.le_refl _,by omega,fun _=>hc⟩
  | false =>
   have e:zaf lt (kas_asc p (f+1) n)=zaf lt (kas_asc p f (n+1)):=by
    show zaf lt (if lt (ga p n) (ga p (n-1))=true then KasT.ret n else kas_asc p f (n+1))=_
    rw [if_neg (by rw [hc];exact Bool.false_ne_true)]
   rw [e]
   obtain⟨a1,a2,a3,a4⟩:=zk3 S p f (n+1) (by omega) (h.snoc S h1 hc)
   exact⟨a1,by omega,by omega,fun z=>a4 (by omega)⟩
theorem zhL (S:Swo lt):∀ f (p:Array Nat) n q,1<=n->n+f<=p.size->q+1<=n->Dsc lt p n->Eqs lt p (n-(q+1)) n ->
    let r:=zaf lt (kas_desc f p n q)
    r.1.size=p.size/\r.1.Perm p/\n<=r.2.1/\r.2.1<=n+f/\r.2.2+1<=r.2.1/\Dsc lt r.1 r.2.1/\Eqs lt r.1 (r.2.1-(r.2.2+1)) r.2.1
  | 0,p,n,q,h1,hz,hq,h,he=>⟨rfl,Array.Perm.refl _,Nat.le_refl _,Nat.le_refl _,hq,h,he⟩
  | f+1,p,n,q,h1,hz,hq,h,he=>by
    have one:∀ p':Array Nat,Eqs lt p' (n+1-(0+1)) (n+1):=fun p' i j a b c d=>by
      have e1:i=n:=by omega
      have e2:j=n:=by omega
      subst e1;subst e2
      exact irr S _
    cases hc:lt (ga p n) (ga p (n-1)) with
    | true =>
      have hn:lt (ga p (n-1)) (ga p n)=false:=S.asymm _ _ hc
      by_cases hq0:q > 0
      · have e : zaf lt (kas_desc (f + 1) p n q) = zaf lt (kas_desc f (kas_rev p (n - (q + 1)) n) (n + 1) 0) := by
          show zaf lt (if lt (ga p n) (ga p (n-1))=true then (if q > 0 then kas_desc f (kas_rev p (n-(q+1)) n) (n+1) 0 else kas_desc f p (n+1) 0) else _)=_
          rw [if_pos hc,if_pos hq0]
        have ht:=h.turn S (a:=n-(q+1)) (by omega) (by omega) he
        have k1:ga (kas_rev p (n-(q+1)) n) n=ga p n:=by rw [zc6 (by omega),if_neg (by omega)]
        have k2:ga (kas_rev p (n-(q+1)) n) (n-1)=ga p (n-(q+1)):=by
          rw [zc6 (by omega),if_pos ⟨by omega,by omega⟩]
          congr 1;omega
        have hs:=Dsc.snoc S (p:=kas_rev p (n-(q+1)) n) h1 ht (by
          rw [k1,k2]
          exact S.ntrans (ga p n) (ga p (n-1)) (ga p (n-(q+1))) hn (he _ _ (by omega) (by omega) (by omega) (by omega)))
        have ih:=zhL S f (kas_rev p (n-(q+1)) n) (n+1) 0 (by omega) (by rw [zdr];omega) (by omega) hs (one _)
        rw [e]
        obtain⟨a1,a2,a3,a4,a5,a6,a7⟩:=ih
        exact⟨a1.trans zdr,a2.trans zcg,by omega,by omega,a5,a6,a7⟩
      · have e : zaf lt (kas_desc (f + 1) p n q) = zaf lt (kas_desc f p (n + 1) 0) := by
          show zaf lt (if lt (ga p n) (ga p (n-1))=true then (if q > 0 then kas_desc f (kas_rev p (n-(q+1)) n) (n+1) 0 else kas_desc f p (n+1) 0) else _)=_
          rw [if_pos hc,if_neg hq0]
        have ih:=zhL S f p (n+1) 0 (by omega) (by omega) (by omega) (h.snoc S h1 hn) (one _)
        rw [e]
        obtain⟨a1,a2,a3,a4,a5,a6,a7⟩:=ih
        exact⟨a1,a2,by omega,by omega,a5,a6,a7⟩
    | false =>
      cases hd:lt (ga p (n-1)) (ga p n) with
      | true =>
        have e:zaf lt (kas_desc (f+1) p n q)=(p,n,q):=by
          show zaf lt (if lt (ga p n) (ga p (n-1))=true then _ else KasT.ask (ga p (n-1)) (ga p n) fun d=>if d=true then .ret (p,n,q) else kas_desc f p (n+1) (q+1))=_
          rw [if_neg (by rw [hc];exact Bool.false_ne_true)]
          show zaf lt (if lt (ga p (n-1)) (ga p n)=true then _ else _)=_
          rw [if_pos hd];rfl
        rw [e]
        exact⟨rfl,Array.Perm.refl _,Nat.le_refl _,by show n<=_;omega,hq,h,he⟩
      | false =>
        have e:zaf lt (kas_desc (f+1) p n q)=zaf lt (kas_desc f p (n+1) (q+1)):=by
          show zaf lt (if lt (ga p n) (ga p (n-1))=true then _ else KasT.ask (ga p (n-1)) (ga p n) fun d=>if d=true then .ret (p,n,q) else kas_desc f p (n+1) (q+1))=_
          rw [if_neg (by rw [hc];exact Bool.false_ne_true)]
          show zaf lt (if lt (ga p (n-1)) (ga p n)=true then _ else _)=_
          rw [if_neg (by rw [hd];exact Bool.false_ne_true)]
        have heq:Eqs lt p (n+1-(q+1+1)) (n+1):=by
          intro i j a b c d
          rcases Nat.lt_or_ge i n with gi | gi<;>rcases Nat.lt_or_ge j n with gj | gj
          · exact he i j (by omega) gi (by omega) gj
          · have:j=n:=by omega
            subst this
            exact S.ntrans (ga p j) (ga p (j-1)) (ga p i) hd (he i (j-1) (by omega) gi (by omega) (by omega))
          · have:i=n:=by omega
            subst this
            exact S.ntrans (ga p j) (ga p (i-1)) (ga p i) (he (i-1) j (by omega) (by omega) (by omega) gj) hc
          · have e1:i=n:=by omega
            have e2:j=n:=by omega
            subst e1;subst e2
            exact irr S _
        have ih:=zhL S f p (n+1) (q+1) (by omega) (by omega) (by omega) (h.snoc S h1 hd) heq
        rw [e]
        obtain⟨a1,a2,a3,a4,a5,a6,a7⟩:=ih
        exact⟨a1,a2,by omega,by omega,a5,a6,a7⟩
def zhH (lt:Nat->Nat->Bool)(p:Array Nat)(nrem:Nat)(r:Nat×Array Nat):Prop:=r.2.size=p.size/\r.2.Perm p/\1<=r.1/\r.1<=nrem/\Asc lt r.2 r.1
theorem zl8 (S:Swo lt){p:Array Nat}{n nrem:Nat}(h1:1<=n)(hn:n<=nrem)(hz:nrem<=p.size)(h:Dsc lt p n):zhH lt p nrem (zaf lt (kas_tail3 n nrem p)):=by
 have e:zaf lt (kas_tail3 n nrem p)=(zaf lt (kas_asc (kas_rev p 0 n) (nrem-n) n),kas_rev p 0 n):=by
  unfold kas_tail3;rw [zdD];rfl
 rw [e]
 obtain⟨a1,a2,a3,_⟩:=zk3 S (kas_rev p 0 n) (nrem-n) n h1 (h.rev (by omega))
 exact⟨zdr,zcg,by show 1<=zaf lt _;omega,by show zaf lt _<=nrem;omega,a1⟩
theorem zh6 (S:Swo lt){p:Array Nat}{n nrem:Nat}(h1:1<=n)(hn:n+1<=nrem)(hz:nrem<=p.size)(h:Dsc lt p (n+1)):zhH lt p nrem (zaf lt (kas_descPart n nrem p)):=by
 unfold kas_descPart
 rw [zdD]
 have d:=zhL S (nrem-(n+1)) p (n+1) 0 (by omega) (by omega) (by omega) h (fun i j a b c d=>by
  have e1:i=n:=by omega
  have e2:j=n:=by omega
  subst e1;subst e2
  exact irr S _)
 dsimp only at d
 generalize zaf lt (kas_desc (nrem-(n+1)) p (n+1) 0)=r at d ⊢
 obtain⟨a1,a2,a3,a4,a5,a6,a7⟩:=d
 by_cases hq:r.2.2 > 0
 ·rw [if_pos hq]
  obtain⟨b1,b2,b3,b4,b5⟩:=zl8 S (p:=kas_rev r.1 (r.2.1-(r.2.2+1)) r.2.1) (n:=r.2.1) (nrem:=nrem) (by omega) (by omega) (by rw [zdr];omega) (a6.turn S (by omega) (by omega) a7)
  exact⟨b1.trans (zdr.trans a1),b2.trans (zcg.trans a2),b3,b4,b5⟩
 ·rw [if_neg hq]
  obtain⟨b1,b2,b3,b4,b5⟩:=zl8 S (p:=r.1) (n:=r.2.1) (nrem:=nrem) (by omega) (by omega) (by omega) a6
  exact⟨b1.trans a1,b2.trans a2,b3,b4,b5⟩
theorem zqk (S:Swo lt){p:Array Nat}{nrem:Nat}(h1:1<=nrem)(hz:nrem<=p.size):zhH lt p nrem (zaf lt (kas_count nrem p)):=by
 unfold kas_count
 rw [zdD]
 have h0:Asc lt p 1:=fun i j a b=>by
  have e1:i=0:=by omega
  have e2:j=0:=by omega
  subst e1;subst e2
  exact irr S _
 obtain⟨a1,a2,a3,a4⟩:=zk3 S p (nrem-1) 1 (Nat.le_refl _) h0
 generalize zaf lt (kas_asc p (nrem-1) 1)=n at a1 a2 a3 a4 ⊢
 by_cases hn:(n==nrem)=true
 ·rw [if_pos hn]
  have:n=nrem:=by simpa using hn
  exact⟨rfl,Array.Perm.refl _,a2,by show n<=nrem;omega,a1⟩
 ·rw [if_neg hn]
  have hne:n≠nrem:=by simpa using hn
  have hlt:=a4 (by omega)
  by_cases hn1:n > 1
  ·rw [if_pos hn1]
   show zhH lt p nrem (zaf lt (if lt (ga p 0) (ga p (n-1))=true then KasT.ret (n,p) else kas_descPart n nrem (kas_rev p 0 n)))
   cases hc:lt (ga p 0) (ga p (n-1)) with
   | true=>rw [if_pos rfl];exact⟨rfl,Array.Perm.refl _,a2,by show n<=nrem;omega,a1⟩
   | false =>
    rw [if_neg Bool.false_ne_true]
    have hd:=a1.rev (n:=n) (by omega)
    have hs:=Dsc.snoc S (p:=kas_rev p 0 n) a2 hd (by
     have k1:ga (kas_rev p 0 n) n=ga p n:=by rw [zc6 (by omega),if_neg (by omega)]
     have k2:ga (kas_rev p 0 n) (n-1)=ga p 0:=by rw [zc6 (by omega),if_pos ⟨by omega,by omega⟩];congr 1;omega
     rw [k1,k2]
     exact S.ntrans (ga p n) (ga p (n-1)) (ga p 0) (S.asymm _ _ hlt) hc)
    obtain⟨b1,b2,b3,b4,b5⟩:=zh6 S (p:=kas_rev p 0 n) (n:=n) (nrem:=nrem) a2 (by omega) (by rw [zdr];omega) hs
    exact⟨b1.trans zdr,b2.trans zcg,b3,b4,b5⟩
  ·rw [if_neg hn1]
   have e:n=1:=by omega
   subst e
   exact zh6 S (Nat.le_refl _) (by omega) hz (Dsc.snoc S (Nat.le_refl _) (fun i j a b=>by
    have e1:i=0:=by omega
    have e2:j=0:=by omega
    subst e1;subst e2
    exact irr S _) (S.asymm _ _ hlt))
theorem zin (S:Swo lt){p:Array Nat}{k:Nat}(h:Asc lt p k):∀ f l r,l<=r->r<=k->r-l<=f->(∀ i,i<l->lt (ga p k) (ga p i)=false)->(∀ i,r<=i->i<k->lt (ga p k) (ga p i)=true) ->
  let m:=zaf lt (kas_place p k f l r)
  m<=k/\(∀ i,i<m->lt (ga p k) (ga p i)=false)/\(∀ i,m<=i->i<k->lt (ga p k) (ga p i)=true)
 | 0,l,r,h1,h2,h3,hl,hr=>by
  have:l=r:=by omega
  subst this
  exact⟨h2,hl,hr⟩
 | f+1,l,r,h1,h2,h3,hl,hr=>by
  by_cases hlr:l ≥ r
  ·have e:zaf lt (kas_place p k (f+1) l r)=l:=by
    unfold kas_place;rw [if_pos hlr];rfl
   rw [e]
   have:l=r:=by omega
   subst this
   exact⟨h2,hl,hr⟩
  ·have e:zaf lt (kas_place p k (f+1) l r)=zaf lt (if lt (ga p k) (ga p ((l+r)/2))=true then kas_place p k f l ((l+r)/2) else kas_place p k f ((l+r)/2+1) r):=by
    conv=>lhs;unfold kas_place
    rw [if_neg hlr];rfl
   rw [e]
   cases hc:lt (ga p k) (ga p ((l+r)/2)) with
   | true =>
    rw [if_pos rfl]
    refine zin S h f l ((l+r)/2) (by omega) (by omega) (by omega) hl fun i hi hik=>?_
    cases hx:lt (ga p k) (ga p i) with
    | true=>rfl
    | false =>
     have:=S.ntrans (ga p ((l+r)/2)) (ga p i) (ga p k) (h _ _ hi hik) hx
     rw [hc] at this;exact this.symm
   | false =>
    rw [if_neg Bool.false_ne_true]
    refine zin S h f ((l+r)/2+1) r (by omega) h2 (by omega) (fun i hi=>?_) hr
    exact S.ntrans (ga p i) (ga p ((l+r)/2)) (ga p k) (h _ _ (by omega) (by omega)) hc
theorem zoj (S:Swo lt):∀ f (p:Array Nat) k,k+f<=p.size->Asc lt p k->let r:=zaf lt (kas_bin f p k);r.size=p.size/\r.Perm p/\Asc lt r (k+f)
 | 0,p,k,_,h=>⟨rfl,Array.Perm.refl _,h⟩
 | f+1,p,k,hz,h=>by
  have e:zaf lt (kas_bin (f+1) p k)=zaf lt (kas_bin f (bubble p k (k-zaf lt (kas_place p k k 0 k))) (k+1)):=by
   show zaf lt ((kas_place p k k 0 k).bind fun l=>kas_bin f (bubble p k (k-l)) (k+1))=_
   rw [zdD]
  rw [e]
  obtain⟨m1,m2,m3⟩:=zin S h k 0 k (Nat.zero_le _) (Nat.le_refl _) (by omega) (fun i hi=>absurd hi (by omega)) (fun i hi hik=>absurd hi (by omega))
  generalize zaf lt (kas_place p k k 0 k)=m at m1 m2 m3 ⊢
  have hb:∀ i,ga (bubble p k (k-m)) i=if i=m then ga p k else if m<i/\i<=k then ga p (i-1) else ga p i:=fun i=>by
   rw [zo7 (by omega) (by omega),show k-(k-m)=m by omega]
  have hs:Asc lt (bubble p k (k-m)) (k+1):=by
   intro i j hij hj
   rw [hb,hb]
   by_cases hi:i=m
   ·rw [if_pos hi]
    by_cases hjm:j=m
    ·rw [if_pos hjm];exact irr S _
    ·rw [if_neg hjm,if_pos ⟨by omega,by omega⟩]
     exact S.asymm _ _ (m3 (j-1) (by omega) (by omega))
   ·rw [if_neg hi]
    by_cases hjm:j=m
    ·rw [if_pos hjm,if_neg (by omega)]
     exact m2 i (by omega)
    ·rw [if_neg hjm]
     by_cases hi2:m<i
     ·rw [if_pos (show m<i/\i<=k from ⟨hi2,by omega⟩),if_pos (show m<j/\j<=k from ⟨by omega,by omega⟩)]
      exact h _ _ (by omega) (by omega)
     ·rw [if_neg (show ¬ (m<i/\i<=k) by omega)]
      by_cases hj2:m<j
      ·rw [if_pos (show m<j/\j<=k from ⟨hj2,by omega⟩)]
       exact h _ _ (by omega) (by omega)
      ·rw [if_neg (show ¬ (m<j/\j<=k) by omega)]
       exact h _ _ hij (by omega)
  obtain⟨a1,a2,a3⟩:=zoj S f (bubble p k (k-m)) (k+1) (by rw [bubble_size];omega) hs
  exact⟨a1.trans (bubble_size _ _ _),a2.trans (bubble_perm _ _ _),by rw [show k+(f+1)=k+1+f by omega];exact a3⟩
theorem zrA (S:Swo lt){n:Nat}(h1:1<=n):(zaf lt (kas_sort n)).size=n/\(zaf lt (kas_sort n)).Perm (List.toArray (List.range n))/\Asc lt (zaf lt (kas_sort n)) n:=by
 unfold kas_sort
 rw [zdD]
 obtain⟨a1,a2,a3,a4,a5⟩:=zqk S (p:=List.toArray (List.range n)) (nrem:=n) h1 (by simp)
 generalize zaf lt (kas_count n (List.toArray (List.range n)))=r at a1 a2 a3 a4 a5 ⊢
 have hsz:(List.toArray (List.range n)).size=n:=by simp
 by_cases hr:r.1<n
 ·rw [if_pos hr]
  have em:max r.1 1=r.1:=by omega
  rw [em]
  obtain⟨b1,b2,b3⟩:=zoj S (n-r.1) r.2 r.1 (by omega) a5
  exact⟨b1.trans (a1.trans hsz),b2.trans a2,by rw [show r.1+(n-r.1)=n by omega] at b3;exact b3⟩
 ·rw [if_neg hr]
  have e:r.1=n:=by omega
  rw [e] at a5
  exact⟨a1.trans hsz,a2,a5⟩
def KIn {α:Type}(n:Nat)(post:α->Prop):KasT α->Prop
 | .ret a=>post a
 | .ask i j k=>i<n/\j<n/\∀ b,KIn n post (k b)
theorem KIn.bind {α β:Type}{n:Nat}{post:α->Prop}{post':β->Prop}{f:α->KasT β}(hf:∀ a,post a->KIn n post' (f a)):∀ (t:KasT α),KIn n post t->KIn n post' (t.bind f)
 | .ret a,h=>hf a h
 | .ask i j k,h=>⟨h.1,h.2.1,fun b=>KIn.bind hf (k b) (h.2.2 b)⟩
def Ent (n:Nat)(p:Array Nat):Prop:=∀ x∈p.toList,x<n
theorem Ent.at {n:Nat}{p:Array Nat}(h0:0<n)(h:Ent n p)(i:Nat):ga p i<n:=by
 rw [zgM]
 cases e:p[i]? with
 | none=>exact h0
 | some x =>
  rw [<- Array.getElem?_toList] at e
  exact h x (List.mem_of_getElem? e)
theorem Ent.perm {n:Nat}{p r:Array Nat}(hp:r.Perm p)(h:Ent n p):Ent n r:=fun x hx=>h x ((Array.perm_iff_toList_perm.mp hp).mem_iff.mp hx)
theorem zk2 {n:Nat}{p:Array Nat}(h0:0<n)(h:Ent n p):∀ f k,KIn n (fun _=>True) (kas_asc p f k)
 | 0,_=>trivial
 | f+1,k=>⟨h.at h0 _,h.at h0 _,fun b=>by
  cases b with
  | true=>exact trivial
  | false=>exact zk2 h0 h f (k+1)⟩
theorem zht {n:Nat}(h0:0<n):∀ f (p:Array Nat) k q,Ent n p->KIn n (fun r=>Ent n r.1) (kas_desc f p k q)
 | 0,p,k,q,h=>h
 | f+1,p,k,q,h=>⟨h.at h0 _,h.at h0 _,fun b=>by
  cases b with
  | true =>
   show KIn n _ (if q > 0 then _ else _)
   by_cases hq:q > 0
   ·rw [if_pos hq];exact zht h0 f _ _ _ (h.perm zcg)
   ·rw [if_neg hq];exact zht h0 f _ _ _ h
  | false=>exact⟨h.at h0 _,h.at h0 _,fun d=>by
    cases d with
    | true=>exact h
    | false=>exact zht h0 f _ _ _ h⟩⟩
theorem zl3 {n k m:Nat}{p:Array Nat}(h0:0<n)(h:Ent n p):KIn n (fun r=>Ent n r.2) (kas_tail3 k m p):=by
 refine KIn.bind (post:=fun _=>True) (fun r _=>?_) _ (zk2 h0 (h.perm zcg) _ _)
 exact h.perm zcg
theorem zh5 {n k m:Nat}{p:Array Nat}(h0:0<n)(h:Ent n p):KIn n (fun r=>Ent n r.2) (kas_descPart k m p):=by
 refine KIn.bind (post:=fun r=>Ent n r.1) (fun r hr=>?_) _ (zht h0 _ _ _ _ h)
 by_cases hq:r.2.2 > 0
 ·rw [if_pos hq];exact zl3 h0 (hr.perm zcg)
 ·rw [if_neg hq];exact zl3 h0 hr
theorem zpI {n m:Nat}{p:Array Nat}(h0:0<n)(h:Ent n p):KIn n (fun r=>Ent n r.2) (kas_count m p):=by
 refine KIn.bind (post:=fun _=>True) (fun k _=>?_) _ (zk2 h0 h _ _)
 by_cases hk:(k==m)=true
 ·rw [if_pos hk];exact h
 ·rw [if_neg hk]
  by_cases h1:k > 1
  ·rw [if_pos h1]
   refine⟨h.at h0 _,h.at h0 _,fun c=>?_⟩
   cases c with
   | true=>exact h
   | false=>exact zh5 h0 (h.perm zcg)
  ·rw [if_neg h1];exact zh5 h0 h
theorem zih {n:Nat}{p:Array Nat}{k:Nat}(h0:0<n)(h:Ent n p):∀ f l r,KIn n (fun _=>True) (kas_place p k f l r)
 | 0,_,_=>trivial
 | f+1,l,r=>by
  unfold kas_place
  by_cases hl:l ≥ r
  ·rw [if_pos hl];exact trivial
  ·rw [if_neg hl]
   refine⟨h.at h0 _,h.at h0 _,fun c=>?_⟩
   cases c with
   | true=>exact zih h0 h f _ _
   | false=>exact zih h0 h f _ _
theorem zod {n:Nat}(h0:0<n):∀ f (p:Array Nat) k,Ent n p->KIn n (fun r=>Ent n r) (kas_bin f p k)
 | 0,p,k,h=>h
 | f+1,p,k,h=>KIn.bind (post:=fun _=>True) (fun l _=>zod h0 f _ _ (h.perm (bubble_perm _ _ _))) _ (zih h0 h _ _ _)
theorem zsd {n:Nat}(h0:0<n):KIn n (fun _=>True) (kas_sort n):=by
 refine KIn.bind (post:=fun r=>Ent n r.2) (fun r hr=>?_) _ (zpI h0 (p:=List.toArray (List.range n)) (fun x hx=>by simpa using hx))
 by_cases h:r.1<n
 ·rw [if_pos h]
  have hb:=zod h0 (n-max r.1 1) r.2 (max r.1 1) hr
  clear h
  generalize kas_bin (n-max r.1 1) r.2 (max r.1 1)=t at hb
  induction t with
  | ret a=>exact trivial
  | ask i j k ih=>exact⟨hb.1,hb.2.1,fun b=>ih b (hb.2.2 b)⟩
 ·rw [if_neg h];exact trivial
end
end My
namespace My
open PySem PySem.Spec PySem.W PyProof.Rows L2
def plt (a b:Int×Int):Bool:=if a.1=b.1 then decide (a.2<b.2) else decide (a.1<b.1)
theorem zl6 (cs:List (Int×Int)):Swo fun i j=>plt (cs.getD i (0,0)) (cs.getD j (0,0)) where
  asymm:=fun a b h=>by
    unfold plt at h ⊢
    generalize cs.getD a (0,0)=A at *
    generalize cs.getD b (0,0)=B at *
    split at h<;>split<;>simp at h ⊢<;>omega
  ntrans:=fun a b c h1 h2=>by
    unfold plt at h1 h2 ⊢
    generalize cs.getD a (0,0)=A at *
    generalize cs.getD b (0,0)=B at *
    generalize cs.getD c (0,0)=C at *
    split at h1<;>split at h2<;>split<;>simp at h1 h2 ⊢<;>omega
def PrV (h:Heap)(v:Value)(c:Int×Int):Prop:=∃ (a:Addr) (o:Obj) (n:Nat) (t u:Tok),v=.ref a/\h.get? a=some o/\o.cls=.type "tuple"/\o.data=.seq #[.int c.1 t,.int c.2 u] n
theorem kwp {α:Type}{cmp:Nat->Nat->(Bool->Shared->Prop)->Shared->Prop}{lt:Nat->Nat->Bool}{n:Nat}{s:Shared}(hc:∀ i j C,i<n->j<n->C (lt i j) s->cmp i j C s){post:α->Prop}(Q:α->Shared->Prop) :
  ∀ t:KasT α,KIn n post t->Q (zaf lt t) s->t.kasWp cmp Q s
 | .ret _,_,q=>q
 | .ask i j k,h,q=>hc i j _ h.1 h.2.1 (kwp hc Q (k (lt i j)) (h.2.2 _) q)
section
variable {prog:Program}{w:World}{A:Around}{E:Value->Shared->Prop}{s:Shared}
theorem zpB {v v':Value}{c d:Int×Int}{Q:Bool->Shared->Prop}(h1:PrV s.heap v c)(h2:PrV s.heap v' d)(q:Q (plt c d) s):wpAny (model prog w) A (keyLt' (tuples' true) v v') Q E s:=by
 obtain⟨a,o,n,t,u,rfl,ho,_,hd⟩:=h1
 obtain⟨a',o',n',t',u',rfl,ho',_,hd'⟩:=h2
 refine kat_lt ho hd ho' hd' ?_
 show KatLex prog w A true _ Q [(.int c.1 t,.int d.1 t'),(.int c.2 u,.int d.2 u')] 0 s
 refine kat_cons (wpAny_eqBool_int ?_)
 by_cases e:c.1=d.1
 ·rw [show (c.1==d.1)=true by simpa using e]
  refine kat_yes (kat_cons (wpAny_eqBool_int ?_))
  by_cases e2:c.2=d.2
  ·rw [show (c.2==d.2)=true by simpa using e2]
   refine kat_yes (kat_nil ?_)
   have:plt c d=false:=by unfold plt;rw [if_pos e,e2];simp
   rw [this] at q
   exact q
  ·rw [show (c.2==d.2)=false by simpa using e2]
   refine kat_no ?_
   show wpAny (model prog w) A (oneLt' false _ _) Q _ s
   refine kat_one _ _ (lt_int ?_)
   have:plt c d=decide (c.2<d.2):=by unfold plt;rw [if_pos e]
   rw [this] at q
   exact q
 ·rw [show (c.1==d.1)=false by simpa using e]
  refine kat_no ?_
  show wpAny (model prog w) A (oneLt' true _ _) Q _ s
  refine oneLt_int ?_
  have:plt c d=decide (c.1<d.1):=by unfold plt;rw [if_neg e]
  rw [this] at q
  exact q
theorem zkB {h:Heap}:∀ {vs:List Value} {cs:List (Int×Int)},Paired (PrV h) vs cs->∃ fs:List Value,KatTups h vs fs/\fs.length=vs.length/\∀ f∈fs,∃ i t,f=.int i t
 | _,_,.nil=>⟨[],trivial,rfl,fun f hf=>absurd hf (by simp)⟩
 | _,_,.cons (a:=v) (b:=c) r t=>by
  obtain⟨fs,k,hl,hf⟩:=zkB t
  obtain⟨a,o,n,tk,u,rfl,ho,hc,hd⟩:=r
  refine⟨.int c.1 tk::fs,KatTups.cons ho hc hd rfl k,by simp [hl],fun f hm=>?_⟩
  rcases List.mem_cons.mp hm with rfl | hm
  ·exact⟨_,_,rfl⟩
  ·exact hf f hm
theorem zff {α β:Type}{F:α->β->Prop}{da:α}{db:β}:∀ {l:List α} {m:List β},Paired F l m->∀ i,i<l.length->F (l.getD i da) (m.getD i db)
 | _,_,.nil,i,h=>absurd h (by simp)
 | _,_,.cons r _,0,_=>r
 | _::_,_::_,.cons _ t,i+1,h=>zff (da:=da) (db:=db) t i (by simpa using h)
theorem zi2 {a:Addr}{vs:List Value}{cs:List (Int×Int)}{n:Nat}{P:PySem.Fin->Shared->Prop}(ho:s.heap.get? a=some (seqObj "list" vs.toArray n))(hv:Paired (PrV s.heap) vs cs)(h64:vs.length<64)
  (h:∀ p:List Nat,p.Perm (List.range vs.length)->(∀ i j,i<=j->j<vs.length->plt (cs.getD (p.getD j 0) (0,0)) (cs.getD (p.getD i 0) (0,0))=false) ->
   P (.done (.ret .none)) { s with heap:=sortedHeap s.heap a vs (p.map fun i=>vs.getD i Value.none).toArray }) :
  wpAny (model prog w) A (Builtin.«list.sort» ⟨[.ref a],[]⟩) P E s:=by
 rw [list_sort_plain]
 have ha:a<s.heap.objs.size:=Heap.lt_size ho
 refine wpAny_bind (listItems_at ho rfl ?_)
 refine wpAny_bind (listUpdate_at ho rfl ?_)
 obtain⟨e1,ho1⟩:∃ e1,(s.heap.update a (Obj.mapSeq fun _=>#[])).get? a=some (seqObj "list" #[] e1):=⟨_,get?_update_seq ho (fun _=>#[])⟩
 refine wpAny_bind (seqEpoch_at ho1 rfl ?_)
 refine wpAny_bind (wpAny_newTuple ?_)
 refine wpAny_bind (wpAny_newList ?_)
 refine wpAny_holding ?_
 have ho6:(((s.heap.update a (Obj.mapSeq fun _=>#[])).push (seqObj "tuple" vs.toArray 0)).push (seqObj "list" #[] 0)).get? a=some (seqObj "list" #[] e1):=by
  rw [Heap.get?_push_ne _ _ _ (by rw [size_push',Heap.size_update];exact Nat.ne_of_lt (Nat.lt_succ_of_lt ha)),Heap.get?_push_ne _ _ _ (by rw [Heap.size_update];exact Nat.ne_of_lt ha)]
  exact ho1
 have keep:∀ b u,b≠a->s.heap.get? b=some u->(((s.heap.update a (Obj.mapSeq fun _=>#[])).push (seqObj "tuple" vs.toArray 0)).push (seqObj "list" #[] 0)).get? b=some u:=fun b u hb hu=>by
  have hlt:b<s.heap.objs.size:=Heap.lt_size hu
  rw [Heap.get?_push_ne _ _ _ (by rw [size_push',Heap.size_update];exact Nat.ne_of_lt (Nat.lt_succ_of_lt hlt)),Heap.get?_push_ne _ _ _ (by rw [Heap.size_update];exact Nat.ne_of_lt hlt),Heap.get?_update_ne _ _ _ _ hb]
  exact hu
 have hv6:Paired (PrV (((s.heap.update a (Obj.mapSeq fun _=>#[])).push (seqObj "tuple" vs.toArray 0)).push (seqObj "list" #[] 0))) vs cs:=Paired.imp' (fun v c hp=>by
  obtain⟨b,o,m,t,u,rfl,hb,hc,hd⟩:=hp
  refine⟨b,o,m,t,u,rfl,keep b o (fun e=>?_) hb,hc,hd⟩
  subst e
  rw [ho] at hb
  cases hb
  injection hc with hc
  exact absurd hc (by decide)) hv
 show wpAny (model prog w) A _ P E { s with heap:=((s.heap.update a (Obj.mapSeq fun _=>#[])).push (seqObj "tuple" vs.toArray 0)).push (seqObj "list" #[] 0) }
 have hh:sortedHeap s.heap a vs=fun out=>(((s.heap.update a (Obj.mapSeq fun _=>#[])).push (seqObj "tuple" vs.toArray 0)).push (seqObj "list" #[] 0)).update a (Obj.mapSeq fun _=>out):=rfl
 rw [hh] at h
 generalize ((s.heap.update a (Obj.mapSeq fun _=>#[])).push (seqObj "tuple" vs.toArray 0)).push (seqObj "list" #[] 0)=h6 at *
 dsimp only
 have hsz:vs.toArray.size=vs.length:=by simp
 by_cases h2:vs.toArray.size<2
 ·rw [if_pos h2,if_pos h2]
  refine wpAny_bind (wpAny_pure ?_)
  rw [StateT.run_pure]
  refine wpAny_bind (wpAny_pure ?_)
  dsimp only
  refine wpAny_bind (seqEpoch_at ho6 rfl ?_)
  refine wpAny_bind (listUpdate_at ho6 rfl ?_ (hsz2:=by rw [Array.size_map];show (pairsOf vs).size<=_;rw [pairsOf_size,sizeLine_eq];omega))
  simp only [bne_self_eq_false,Bool.false_eq_true,if_false]
  have q:=h (List.range vs.length) (List.Perm.refl _) (fun i j hij hj=>by
   have e1:i=0:=by omega
   have e2:j=0:=by omega
   subst e1;subst e2
   exact irr (zl6 cs) _)
  have eo:(List.map (fun i=>vs.getD i Value.none) (List.range vs.length)).toArray=Array.map (·.2) (vs.toArray.zip vs.toArray):=by
   have hz:vs.length<2:=by omega
   clear q h hv6 hh hv ho h64 hsz h2
   match vs,hz with
   | [],_=>simp
   | [x],_=>simp [List.range_succ]
  rw [eo] at q
  exact wpAny_pure q
 ·rw [if_neg h2,if_neg h2]
  have hn2:2<=vs.length:=by omega
  obtain⟨fs,kt,hfl,hfi⟩:=zkB hv6
  refine wpAny_bind (kat_kind (s:={ s with heap:=h6 }) (T:=.type "int") kt (by omega) (fun v hm=>?_) (by rfl) ?_)
  ·obtain⟨i,t,rfl⟩:=hfi v hm
   exact Looks.of_pure rfl
  have cmp:∀ (i j:Nat) (C:Bool->Shared->Prop),i<vs.length->j<vs.length->C (plt (cs.getD i (0,0)) (cs.getD j (0,0))) { s with heap:=h6 }->kas_ask prog w A (tuples' (Value.type "int" != Value.type "tuple")) vs i j C { s with heap:=h6 }:=fun i j C hi hj hC =>
   zpB (s:={ s with heap:=h6 }) (zff hv6 i hi) (zff hv6 j hj) hC
  refine wpAny_bind (wpAny_mono (kat_run (ks:=vs) (vs:=vs) (Q:=fun st' s'=>∃ p:Array Nat,p=zaf (fun i j=>plt (cs.getD i (0,0)) (cs.getD j (0,0))) (kas_sort vs.length)/\s'={ s with heap:=h6 }/\arrOf st'=p.map (kas_item (vs.toArray.zip vs.toArray))/\failedOf st'=none)
   (G:=fun p s'=>p=zaf (fun i j=>plt (cs.getD i (0,0)) (cs.getD j (0,0))) (kas_sort vs.length)/\s'={ s with heap:=h6 }) rfl hn2 h64 (fun p' st' s' a1 a2 a3 a4=>⟨p',a4.1,a4.2,a2,a3⟩) (kwp cmp _ _ (zsd (by omega)) ⟨rfl,rfl⟩)) ?_ fun _ _ e=>e)
  rintro⟨⟨⟩,st'⟩ s' ⟨p,hp,rfl,har,hf⟩
  dsimp only
  obtain⟨z1,z2,z3⟩:=zrA (zl6 cs) (n:=vs.length) (by omega)
  rw [<- hp] at z1 z2 z3
  have hout:=kat_snds (vs:=vs) (ks:=vs) rfl har
  have hsz2:(List.toArray (p.toList.map fun i=>vs.getD i Value.none)).size=vs.length:=by rw [List.size_toArray,List.length_map,Array.length_toList,z1]
  rw [hout]
  refine wpAny_bind (seqEpoch_at ho6 rfl ?_)
  refine wpAny_bind (listUpdate_at ho6 rfl ?_ (hsz2:=by rw [hsz2,sizeLine_eq];omega))
  rw [hf]
  simp only [bne_self_eq_false,Bool.false_eq_true,if_false]
  refine wpAny_pure (h p.toList ?_ fun i j hij hj=>?_)
  ·have:=Array.perm_iff_toList_perm.mp z2
   simpa using this
  ·have e:∀ k,p.toList.getD k 0=ga p k:=fun k=>by rw [zgM,List.getD_eq_getElem?_getD,Array.getElem?_toList]
   rw [e,e]
   exact z3 i j hij hj
theorem zlu {l:Addr}{vs:List Value}{cs:List (Int×Int)}{Q:Value->Shared->Prop}(hl:s.heap.IsList l vs.toArray)(hv:Paired (PrV s.heap) vs cs)(h64:vs.length<64)
    (h:∀ p:List Nat,p.Perm (List.range vs.length)->(∀ i j,i<=j->j<vs.length->plt (cs.getD (p.getD j 0) (0,0)) (cs.getD (p.getD i 0) (0,0))=false) ->
      Q (.ref (s.heap.objs.size+1)) { s with heap:=sortedAll s.heap vs (p.map fun i=>vs.getD i Value.none).toArray }) :
    wpAny (model prog w) A (call (.builtin "sorted") [.ref l]) Q E s:=by
  refine Calls.call_function_entry kind_sorted plain_sorted entry_sorted (args_sorted1 _) ?_
  unfold Builtin.«sorted»
  refine wpAny_bind (m:=checkCount "sorted" 1 1 _) (wpAny_pure ?_)
  refine wpAny_bind (collect_list hl ?_)
  refine wpAny_bind (wpAny_newList ?_)
  have hsz:((s.heap.push (seqObj "list" #[] 0)).update s.heap.objs.size (Obj.mapSeq (·++vs.toArray))).objs.size=s.heap.objs.size+1:=by
    rw [Heap.size_update,size_push']
  have hoL:(((s.heap.push (seqObj "list" #[] 0)).update s.heap.objs.size (Obj.mapSeq (·++vs.toArray))).push (seqObj "list" vs.toArray 0)).get? (s.heap.objs.size+1)=some (seqObj "list" vs.toArray 0):=by
    rw [<- hsz];exact Heap.get?_push_size _ rfl
  have keep:∀ b o,s.heap.get? b=some o->(((s.heap.push (seqObj "list" #[] 0)).update s.heap.objs.size (Obj.mapSeq (·++vs.toArray))).push (seqObj "list" vs.toArray 0)).get? b=some o:=fun b o q=>by
    have hlt:b<s.heap.objs.size:=Heap.lt_size q
    rw [Heap.get?_push_ne _ _ _ (by rw [hsz];exact Nat.ne_of_lt (Nat.lt_succ_of_lt hlt)),Heap.get?_update_ne _ _ _ _ (Nat.ne_of_lt hlt),Heap.get?_push_ne _ _ _ (Nat.ne_of_lt hlt)]
    exact q
  show wpAny _ _ _ _ _ { s with heap:=((s.heap.push (seqObj "list" #[] 0)).update s.heap.objs.size (Obj.mapSeq (·++vs.toArray))).push (seqObj "list" vs.toArray 0) }
  rw [hsz]
  refine wpAny_bind (wpAny_holding (wpAny_call_entry slot_list_sort ⟨_,hoL,rfl⟩ entry_list_sort (zi2 (s:={ s with heap:=((s.heap.push (seqObj "list" #[] 0)).update s.heap.objs.size (Obj.mapSeq (·++vs.toArray))).push (seqObj "list" vs.toArray 0) }) hoL (Paired.imp' (fun v c hp=>by
    obtain⟨b,o,m,t,u,e,hb,hc,hd⟩:=hp
    exact⟨b,o,m,t,u,e,keep b o hb,hc,hd⟩) hv) h64 fun p a1 a2=>⟨_,rfl,?_⟩) (args_list_sort _)))
  exact wpAny_pure ⟨_,rfl,h p a1 a2⟩
end
def zuw (K:PySem.W.Frag):List V->Hp->VK->Prop:=fun xs H Q=>∃ (p:Addr) (ps:List Addr) (cs:List (Int×Int)),xs=[.ref p]/\SqL K H p (ps.map V.ref)/\ze7 H ps cs/\cs.length<64 /\
 ∀ (l:Addr) (ps':List Addr) (cs':List (Int×Int)),H l=none->ze7 H ps' cs'->cs'.Perm cs->cs'.Pairwise (fun a b=>plt b a=false)->Q (.ref l) (upd H l (.lst (ps'.map V.ref)))
theorem zjZ:∀ {ps:List Addr} {its:List Value},Vals (ps.map V.ref) its->its=ps.map Value.ref
 | [],_,h=>by cases h;rfl
 | p::ps,_,h=>by
  cases h with
  | cons r t =>
   have:=zjZ t
   cases r
   rw [this];rfl
theorem zj1:∀ ps:List Addr,Vals (ps.map V.ref) (ps.map Value.ref)
 | []=>.nil
 | _::ps=>.cons rfl (zj1 ps)
theorem zjC {α:Type}(l:List α)(d:α){p:List Nat}(h:p.Perm (List.range l.length)):(p.map fun i=>l.getD i d).Perm l:=by
 have:=h.map fun i=>l.getD i d
 refine this.trans ?_
 have e:(List.range l.length).map (fun i=>l.getD i d)=l:=by
  apply List.ext_getElem
  ·simp
  ·intro i h1 h2
   simp [List.getD_eq_getElem?_getD,List.getElem?_eq_getElem h2]
 rw [e]
theorem zk7 {X:Cx}{K:PySem.W.Frag}(hK:X.K=K):zaK X (.builtin "sorted") (zuw K):=fun pins s σ H xs us Q I r h=>by
 subst hK
 obtain⟨p,ps,cs,rfl,hS,hP,h64,q⟩:=h
 obtain⟨u,rfl,ru⟩:=vals1 r
 cases ru
 obtain⟨its,rv,pl,hz⟩:=I.list hS
 have ei:=zjZ rv
 subst ei
 have hlen:=hP.length
 have prv:∀ {ps:List Addr} {cs:List (Int×Int)},ze7 H ps cs->Paired (PrV s.heap) (ps.map Value.ref) cs:=by
  intro ps cs hP
  induction hP with
  | nil=>exact .nil
  | cons r t ih =>
   refine .cons ?_ ih
   obtain⟨its2,r2,pl2,_⟩:=I.tuple (SqT.of r)
   obtain⟨o,ho,hc,n,hd⟩:=pl2
   cases r2 with | cons x1 r2=>cases r2 with | cons x2 r2 =>
   cases r2
   obtain⟨t1,rfl⟩:=x1
   obtain⟨t2,rfl⟩:=x2
   exact⟨_,o,n,t1,t2,rfl,ho,hc,hd⟩
 refine zlu pl.isList (prv hP) (by rw [List.length_map];omega) fun pm hpm hso=>?_
 rw [List.length_map] at hpm hso
 have eo:(pm.map fun i=>(ps.map Value.ref).getD i Value.none)=(pm.map fun i=>ps.getD i 0).map Value.ref:=by
  rw [List.map_map]
  apply List.map_congr_left
  intro i hi
  have hi':i<ps.length:=by simpa using hpm.mem_iff.mp hi
  simp [List.getD_eq_getElem?_getD,List.getElem?_eq_getElem hi']
 rw [eo]
 have hPl:(pm.map fun i=>ps.getD i 0).length=ps.length:=by rw [List.length_map,hpm.length_eq,List.length_range]
 obtain⟨e,he⟩:=sortedAll_at s.heap (ps.map Value.ref) ((pm.map fun i=>ps.getD i 0).map Value.ref).toArray
 have hPr:ze7 H (pm.map fun i=>ps.getD i 0) (pm.map fun i=>cs.getD i (0,0)):=by
  have hb:∀ i∈pm,i<ps.length:=fun i hi=>by simpa using hpm.mem_iff.mp hi
  clear eo hPl he hpm hso
  induction pm with
  | nil=>exact .nil
  | cons i pm ih=>exact .cons (zff hP i (hb i (by simp))) (ih fun j hj=>hb j (by simp [hj]))
 refine⟨.ref (s.heap.objs.size+1),_,I.laid (t':=s.toks) (a:=s.heap.objs.size+1) (o:=.lst ((pm.map fun i=>ps.getD i 0).map V.ref)) (fun b o q=>sortedAll_old q) (Nat.le_succ _) ⟨by rw [List.length_map,hPl];have:=hz;rw [List.length_map] at this;exact this,_,e,zj1 _,he⟩,rfl,q _ _ _ (I.hok.fresh (Nat.le_succ _)) hPr ?_ ?_⟩
 ·rw [hlen] at hpm
  exact zjC cs (0,0) hpm
 ·rw [List.pairwise_map,List.pairwise_iff_getElem]
  intro i j hi hj hij
  have:=hso i j (Nat.le_of_lt hij) (by rw [<- List.length_range (n:=ps.length),<- hpm.length_eq];exact hj)
  simpa [List.getD_eq_getElem?_getD,List.getElem?_eq_getElem hi,List.getElem?_eq_getElem hj] using this
end My
namespace My
open PySem PySem.Spec PyProof.Rows L2
section
variable {K:PySem.W.Frag}{H:Hp}
end
def ztP (K:PySem.W.Frag):R2:=fun x y H Q=>∃ a b xs ys,x=.ref a/\y=.ref b/\SqT K H a xs/\SqT K H b ys/\xs.length+ys.length<=sizeLine/\(xs=[]->Q (.ref b) H)/\(xs≠[]->ys=[]->Q (.ref a) H)/\(xs≠[]->ys≠[]->∀ p,H p=none->Q (.ref p) (upd H p (.tup (xs++ys))))
theorem zpX {X:Cx}{K:PySem.W.Frag}(hK:X.K=K):OpR X (binaryOp .Add) (ztP K):=by
 subst hK
 intro pins s σ H x y v u Q I rx ry h
 obtain⟨a,b,xs,ys,rfl,rfl,ha,hb,hz,q0,q1,q2⟩:=h
 by_cases hx:xs=[]
 ·subst hx
  cases rx
  cases ry
  obtain⟨its,r1,p1,_⟩:=I.tuple ha
  obtain⟨its2,r2,p2,_⟩:=I.tuple hb
  cases r1
  obtain⟨⟨cls,dd,data,sl⟩,ho,hc,n,hd⟩:=id p1
  obtain⟨⟨cls2,dd2,data2,sl2⟩,ho2,hc2,n2,hd2⟩:=id p2
  simp only at hc hd hc2 hd2
  subst hc hd hc2 hd2
  exact concat_meets ⟨_,ho,rfl⟩ ⟨_,ho2,rfl⟩ noFill_tuple_add seq_tuple_add PySem.F.slot_tuple_add PySem.F.entry_tuple_add (PySem.F.args_tuple_add_2 _ _)
   (tuple_addW0 a b _ its2.toArray n n2 dd dd2 sl sl2 (by simp)) ⟨ho,ho2,⟨.ref b,H,I,rfl,q0 rfl⟩⟩
 ·exact zse pins s σ H _ _ v u Q I rx ry ⟨a,b,xs,ys,rfl,rfl,ha,hb,hx,hz,q1 hx,q2 hx⟩
end My
namespace Dp
open PySem
inductive D where
 | non | bl (b:Bool) | int (i:Int) | str (x:Str) | tup (xs:List D) | ref (n:Nat) | ty (n:String) | rl (xs:List D) | exn (c:Str)
 deriving Inhabited
inductive Cell where
 | lst (xs:List D) | ins (c:Str) (fs:List (Str×D))
 deriving Inhabited
abbrev Sto:=List Cell
abbrev Rho:=List (Option D)
abbrev DK:=D->Sto->Prop
abbrev DE:=Rho->Sto->DK->Prop
abbrev DT:=Rho->Sto->(Bool->Sto->Prop)->Prop
abbrev DA:=Rho->Sto->(List D->Sto->Prop)->Prop
abbrev DG:=D->Rho->Sto->(Rho->Sto->Prop)->Prop
abbrev DGs:=List D->Rho->Sto->(Rho->Sto->Prop)->Prop
structure zkt where
 nx:Rho->Sto->Prop
 rt:DK
 bk:Rho->Sto->Prop:=fun _ _=>False
 ct:Rho->Sto->Prop:=fun _ _=>False
abbrev DS:=zkt->Rho->Sto->Prop
structure DIt where
 items:List D
 ok:Sto->Prop
abbrev DI:=Rho->Sto->(DIt->Sto->Prop)->Prop
abbrev DSp:=List D->Sto->DK->Prop
def big:Nat:=1000000
def fl:Nat->D->Bool
  | _,.ref _=>false
  | _,.ty _=>false
  | _,.rl _=>false
  | _,.exn _=>false
  | 0,.tup _=>false
  | k+1,.tup xs=>xs.all (fl k)
  | _,.non=>true
  | _,.bl _=>true
  | _,.int _=>true
  | _,.str x=>x.cps.all (· < 0x110000)
mutual
def eqv:D->D->Bool
 | .non,.non=>true
 | .bl a,.bl b=>a==b
 | .bl a,.int j=>(if a then 1 else 0)==j
 | .int i,.bl b=>i==(if b then 1 else 0)
 | .int i,.int j=>decide (i=j)
 | .str x,.str y=>x==y
 | .tup xs,.tup ys=>eqvAll xs ys
 | _,_=>false
def eqvAll:List D->List D->Bool
 | [],[]=>true
 | x::xs,y::ys=>eqv x y&&eqvAll xs ys
 | _,_=>false
end
def Lst (S:Sto)(x:D)(xs:List D):Prop:=x=.rl xs\/∃ n,x=.ref n/\S[n]?=some (.lst xs)
def zdI (S:Sto)(x:D)(xs:List D):Prop:=x=.tup xs\/Lst S x xs
def ixD (n:Nat)(k:Int):Option Nat:=if 0<=k then (if k<n then some k.toNat else none) else if -(n:Int)<=k then some (k+n).toNat else none
def atD (xs:List D)(k:Int):Option D:=(ixD xs.length k).bind fun j=>xs[j]?
def atS (z:Str)(k:Int):Option Nat:=(ixD z.cps.toList.length k).bind fun j=>z.cps.toList[j]?
def slD (n:Nat)(d:Nat):Option Int->Nat
 | none=>d
 | some k=>if k<0 then (k+n).toNat else min k.toNat n
def cutD {α:Type}(xs:List α)(lo hi:Option Int):List α:=(xs.drop (slD xs.length 0 lo)).take (slD xs.length xs.length hi-slD xs.length 0 lo)
def zj (i:Nat):DE:=fun ρ S Q=>∃ d,ρ[i]?=some (some d)/\Q d S
def dC (d:D):DE:=fun _ S Q=>Q d S
abbrev DR2:=D->D->Sto->DK->Prop
def dOp (r:DR2)(ta tb:DE):DE:=fun ρ S Q=>ta ρ S fun x S1=>tb ρ S1 fun y S2=>r x y S2 Q
def dUn (r:D->Sto->DK->Prop)(ta:DE):DE:=fun ρ S Q=>ta ρ S fun x S1=>r x S1 Q
def zA:DA:=fun _ S Q=>Q [] S
def zf (ta:DE)(tr:DA):DA:=fun ρ S Q=>ta ρ S fun x S1=>tr ρ S1 fun xs S2=>Q (x::xs) S2
def dTup (t:DA):DE:=fun ρ S Q=>t ρ S fun xs S1=>xs.length<=big/\Q (.tup xs) S1
def zaY (t:DA):DE:=fun ρ S Q=>t ρ S fun xs S1=>xs.length<=big/\Q (.ref S1.length) (S1++[.lst xs])
def dCall (f:DSp)(t:DA):DE:=fun ρ S Q=>t ρ S fun xs S1=>f xs S1 Q
abbrev DB:=List D->Sto->DK->Prop
def dB (r:DB)(t:DA):DE:=fun ρ S Q=>t ρ S fun xs S1=>r xs S1 Q
def dT (t:DE):DT:=fun ρ S Q=>t ρ S fun x S1=>∃ b,x=.bl b/\Q b S1
def zew (t u:DT):DT:=fun ρ S Q=>t ρ S fun c S1=>if c=true then u ρ S1 Q else Q false S1
def dOr (t u:DT):DT:=fun ρ S Q=>t ρ S fun c S1=>if c=true then Q true S1 else u ρ S1 Q
def zeX (t:DT):DT:=fun ρ S Q=>t ρ S fun c S1=>Q (!c) S1
def zhz (t u:DE):DE:=fun ρ S Q=>t ρ S fun x S1=>∃ c,x=.bl c/\if c=true then u ρ S1 Q else Q (.bl false) S1
def zhS (t:DE):DE:=fun ρ S Q=>t ρ S fun x S1=>∃ c,x=.bl c/\Q (.bl (!c)) S1
def ziW (r r':DR2)(ta tb tc:DE):DE:=fun ρ S Q=>ta ρ S fun x S1=>tb ρ S1 fun y S2=>r x y S2 fun z S3=>∃ c,z=.bl c/\if c=true then tc ρ S3 fun w S4=>r' y w S4 Q else Q (.bl false) S3
def zif:Option DE->Rho->Sto->(Option Int->Sto->Prop)->Prop
 | none=>fun _ S Q=>Q none S
 | some t=>fun ρ S Q=>t ρ S fun x S1=>∃ i,x=.int i/\Q (some i) S1
def dSl (r:D->Option Int->Option Int->Sto->DK->Prop)(ta:DE)(lo hi:Option DE):DE:=fun ρ S Q=>ta ρ S fun x S1=>zif lo ρ S1 fun l S2=>zif hi ρ S2 fun h S3=>r x l h S3 Q
def zaV (f:Str)(ta:DE):DE:=fun ρ S Q=>ta ρ S fun x S1=>∃ n c fs d,x=.ref n/\S1[n]?=some (.ins c fs)/\fs.lookup f=some d/\Q d S1
def putD (f:Str)(v:D):List (Str×D)->List (Str×D)
 | []=>[(f,v)]
 | (g,x)::r=>if g=f then (g,v)::r else (g,x)::putD f v r
def znu (c:Str)(init:DSp):DSp:=fun ds S Q=>init (.ref S.length::ds) (S++[.ins c []]) fun d S2=>d=.non/\Q (.ref S.length) S2
abbrev DM:=D->List D->Sto->DK->Prop
def dM (r:DM)(ta:DE)(t:DA):DE:=fun ρ S Q=>ta ρ S fun x S1=>(∃ n ys,x=.ref n/\S1[n]?=some (.lst ys))/\t ρ S1 fun xs S2=>r x xs S2 Q
def oI (C:Int->Int->Prop)(g:Int->Int->D):DR2:=fun x y S Q=>∃ i j,x=.int i/\y=.int j/\C i j/\Q (g i j) S
def oI0 (g:Int->Int->D):DR2:=fun x y S Q=>∃ i j,x=.int i/\y=.int j/\Q (g i j) S
def oU (g:Int->D):D->Sto->DK->Prop:=fun x S Q=>∃ i,x=.int i/\Q (g i) S
def zax (i j:Int):Prop:=(My.Bd 8000 i/\My.Bd 8000 j)\/i.natAbs<2 ^ 64\/j.natAbs<2 ^ 64
def zqL (_ j:Int):Prop:=j≠0/\My.Bd 8000 j
def zuJ (_ j:Int):Prop:=j≠0
def zah:DR2:=fun x y S Q=>(∃ i j,x=.int i/\y=.int j/\Q (.int (i+j)) S)\/(∃ xs ys,x=.tup xs/\y=.tup ys/\xs.length+ys.length<=big/\Q (.tup (xs++ys)) S) \/
 (∃ xs ys,Lst S x xs/\Lst S y ys/\xs.length+ys.length<=big/\Q (.ref S.length) (S++[.lst (xs++ys)])) \/
 (∃ i j:Str,x=.str i/\y=.str j/\i.length+j.length<=big/\Q (.str (i++j)) S)
def zal:DR2:=oI0 fun i j=>.int (i-j)
def znC (z:Str)(n:Int):Str:=if n<1 then Str.empty else if (n==1||z.length==0)=true then z else ⟨(List.replicate n.toNat z.cps).foldl (·++·) #[]⟩
@[irreducible] def Hg (x:Int):Prop:=x.natAbs<2 ^ 1048576
def zaD:DR2:=fun x y S Q=>oI zax (fun i j=>.int (i*j)) x y S Q\/(∃ (z:Str) (n:Int),x=.str z/\y=.int n/\z.length<=1000/\-1000<=n/\n<=1000/\Q (.str (znC z n)) S)\/oI (fun i j=>Hg i/\Hg j) (fun i j=>.int (i*j)) x y S Q
def oDiv:DR2:=oI zqL fun i j=>.int (i.fdiv j)
def oMod:DR2:=oI zuJ fun i j=>.int (i.fmod j)
def zcW:D->Sto->DK->Prop:=oU fun i=>.int (-i)
def oLt:DR2:=oI0 fun i j=>.bl (decide (i<j))
def oLe:DR2:=oI0 fun i j=>.bl (decide (i<=j))
def oGt:DR2:=oI0 fun i j=>.bl (decide (j<i))
def oGe:DR2:=oI0 fun i j=>.bl (decide (j<=i))
def ziZ (S:Sto):List D->List (List D)->Prop
 | [],[]=>True
 | x::xs,z::zs=>Lst S x z/\ziZ S xs zs
 | _,_=>False
def zf2 (xss:List (List D)):Bool:=xss.all fun zs=>zs.all (fl 20)
def EqD (S:Sto)(x y:D)(b:Bool):Prop:=(fl 20 x=true/\fl 20 y=true/\b=eqv x y)\/(∃ xs ys,Lst S x xs/\Lst S y ys/\xs.all (fl 20)=true/\ys.all (fl 20)=true/\b=eqvAll xs ys) \/
 (∃ xs ys xss yss,Lst S x xs/\Lst S y ys/\ziZ S xs xss/\ziZ S ys yss/\zf2 xss=true/\zf2 yss=true/\b=eqvAll (xss.map D.tup) (yss.map D.tup))
def oEq:DR2:=fun x y S Q=>∃ b,EqD S x y b/\Q (.bl b) S
def oNe:DR2:=fun x y S Q=>∃ b,EqD S x y b/\Q (.bl (!b)) S
def InD (S:Sto)(x y:D)(b:Bool):Prop:=∃ ys,zdI S y ys/\fl 20 x=true/\ys.all (fl 20)=true/\b=ys.any fun z=>eqv z x
def oIn:DR2:=fun x y S Q=>(∃ b,InD S x y b/\Q (.bl b) S)\/(∃ (c:Nat) (z:Str),x=.str ⟨#[c]⟩/\y=.str z/\Q (.bl (decide (c∈z.cps.toList))) S)
def zfN:DR2:=fun x y S Q=>(∃ b,InD S x y b/\Q (.bl (!b)) S)\/(∃ (c:Nat) (z:Str),x=.str ⟨#[c]⟩/\y=.str z/\Q (.bl (!decide (c∈z.cps.toList))) S)
def zdd:D->Bool
 | .non=>true
 | _=>false
def oIs:DR2:=fun x y S Q=>(y=.non/\Q (.bl (zdd x)) S)\/(∃ a b,x=.bl a/\y=.bl b/\Q (.bl (a==b)) S)
def ze0:DR2:=fun x y S Q=>(y=.non/\Q (.bl (!zdd x)) S)\/(∃ a b,x=.bl a/\y=.bl b/\Q (.bl (!(a==b))) S)
def oIx:DR2:=fun x y S Q=>(∃ i xs d,y=.int i/\zdI S x xs/\atD xs i=some d/\Q d S)\/(∃ (z:Str) (i:Int) (c:Nat),x=.str z/\y=.int i/\z.length<=big/\atS z i=some c/\Q (.str ⟨#[c]⟩) S)
def zf7 (z:Str)(lo hi:Option Int):Str:=⟨(cutD z.cps.toList lo hi).toArray⟩
def zlk:D->Option Int->Option Int->Sto->DK->Prop:=fun x lo hi S Q=>(∃ xs,x=.tup xs/\Q (.tup (cutD xs lo hi)) S)\/(∃ xs,Lst S x xs/\Q (.ref S.length) (S++[.lst (cutD xs lo hi)]))\/(∃ z:Str,x=.str z/\z.length<=big/\Q (.str (zf7 z lo hi)) S)
def zbm:DB:=fun vs S Q=>(∃ x xs,vs=[x]/\zdI S x xs/\Q (.int xs.length) S)\/(∃ z:Str,vs=[.str z]/\z.length<=big/\Q (.int z.length) S)
def zlz:DB:=fun vs S Q=>∃ i,vs=[.int i]/\Q (.int (i.natAbs:Int)) S
def ze5:DB:=fun vs S Q=>∃ i j,vs=[.int i,.int j]/\Q (.int (max i j)) S
def zgc:DB:=fun vs S Q=>∃ i j,vs=[.int i,.int j]/\Q (.int (min i j)) S
def znE:DB:=fun vs S Q=>∃ x ns,vs=[x]/\Lst S x (List.map D.int ns)/\0<ns.length/\∀ m:Int,m∈ns->(∀ a∈ns,a<=m)->Q (.int m) S
def zkq:DB:=fun vs S Q=>∃ x ns,vs=[x]/\Lst S x (List.map D.int ns)/\0<ns.length/\∀ m:Int,m∈ns->(∀ a∈ns,m<=a)->Q (.int m) S
def zgV:DB:=fun vs S Q=>∃ x bs,vs=[x]/\Lst S x (List.map D.bl bs)/\Q (.bl (bs.all id)) S
def zkY:DB:=fun vs S Q=>∃ x xs,vs=[x]/\zdI S x xs/\Q (.tup xs) S
def ze9:DB:=fun vs S Q=>∃ x xs,vs=[x]/\zdI S x xs/\Q (.ref S.length) (S++[.lst xs])
def zjy (t:String):Bool:=t=="int"||t=="bool"||t=="tuple"||t=="list"||t=="str"
def zpr (S:Sto)(t:String)(d:D):Option Bool:=if (!zjy t)=true then none else match d with
 | .non=>some false
 | .bl _=>some (t=="bool"||t=="int")
 | .int _=>some (t=="int")
 | .str _=>some (t=="str")
 | .tup _=>some (t=="tuple")
 | .ref n=>match S[n]? with
  | some (.lst _)=>some (t=="list")
  | _=>none
 | .ty _=>none
 | .rl _=>none
 | .exn _=>none
def zf3:DB:=fun vs S Q=>∃ x t b,vs=[x,.ty t]/\zpr S t x=some b/\Q (.bl b) S
abbrev p2 (c:Int×Int):D:=.tup [.int c.1,.int c.2]
def zik (a b:Int×Int):Bool:=decide (a.1<b.1\/(a.1=b.1/\a.2<b.2))
def zn1:DB:=fun vs S Q=>∃ x cs,vs=[x]/\Lst S x (List.map p2 cs)/\cs.length<64/\∀ ss:List (Int×Int),ss.Perm cs->ss.Pairwise (fun a b=>zik b a=false)->Q (.ref S.length) (S++[.lst (ss.map p2)])
def zn6:DB:=fun vs S Q=>∃ x ns,vs=[x]/\Lst S x (List.map D.int ns)/\ns.length<64/\∀ ss:List Int,ss.Perm ns->ss.Pairwise (fun a b=>a<=b)->Q (.ref S.length) (S++[.lst (ss.map D.int)])
def zmS:DB:=fun vs S Q=>zn1 vs S Q\/zn6 vs S Q
def zbA:DM:=fun x vs S Q=>∃ n xs y,x=.ref n/\vs=[y]/\S[n]?=some (.lst xs)/\xs.length<big/\Q .non (S.set n (.lst (xs++[y])))
def zso:DM:=fun x vs S Q=>∃ n xs m ys,x=.ref n/\vs=[.ref m]/\S[n]?=some (.lst xs)/\S[m]?=some (.lst ys)/\m≠n/\xs.length+ys.length<=big/\Q .non (S.set n (.lst (xs++ys)))
def ziq:DM:=fun x vs S Q=>zso x vs S Q\/∃ n xs ys,x=.ref n/\vs=[.tup ys]/\S[n]?=some (.lst xs)/\xs.length+ys.length<=big/\Q .non (S.set n (.lst (xs++ys)))
def ziA:DM:=fun x vs S Q=>∃ n xs,x=.ref n/\vs=[]/\S[n]?=some (.lst xs)/\Q .non (S.set n (.lst xs.reverse))
def zE (i:Nat):DG:=fun d ρ S Q=>Q (ρ.set i (some d)) S
def zc0:DGs:=fun ds ρ S Q=>ds=[]/\Q ρ S
def zao (t:DG)(u:DGs):DGs:=fun ds ρ S Q=>∃ d r,ds=d::r/\t d ρ S fun ρ' S'=>u r ρ' S' Q
def zc2 (n:Nat)(t:DGs):DG:=fun d ρ S Q=>∃ xs,d=.tup xs/\xs.length=n/\t xs ρ S Q
def zib (to ti:DE):DG:=fun d ρ S Q=>to ρ S fun o S1=>ti ρ S1 fun i S2=>∃ n xs k j,o=.ref n/\i=.int k/\S2[n]?=some (.lst xs)/\ixD xs.length k=some j/\Q ρ (S2.set n (.lst (xs.set j d)))
def zH (t u:DS):DS:=fun E ρ S=>t { E with nx:=u E } ρ S
def zab:DS:=fun E ρ S=>E.nx ρ S
def zZ (t:DE):DS:=fun E ρ S=>t ρ S E.rt
def zaq (t:DE):DS:=fun E ρ S=>t ρ S fun _ S1=>E.nx ρ S1
def zN (t:DE)(g:DG):DS:=fun E ρ S=>t ρ S fun x S1=>g x ρ S1 E.nx
def sIf (c:DT)(t u:DS):DS:=fun E ρ S=>c ρ S fun b S1=>if b=true then t E ρ S1 else u E ρ S1
def sJ (t:DS):DS:=fun E ρ S=>∃ J:Rho->Sto->Prop,(∀ ρ S,J ρ S->E.nx ρ S)/\t { E with nx:=J } ρ S
def zcn:DS:=fun _ _ _=>False
def zpu (i j:Nat)(t:DA):DS:=fun E ρ S=>t ρ S fun vs S1=>∃ a b,vs=[a,b]/\E.nx ((ρ.set i (some a)).set j (some b)) S1
def zeb (c f:Str)(to tv:DE):DS:=fun E ρ S=>tv ρ S fun y S1=>to ρ S1 fun x S2=>∃ n fs,x=.ref n/\S2[n]?=some (.ins c fs)/\fs.length<100/\E.nx ρ (S2.set n (.ins c (putD f y fs)))
def zmK (i:Nat)(t:DE):DS:=fun E ρ S=>∃ a,ρ[i]?=some (some (.int a))/\t ρ S fun y S1=>∃ b,y=.int b/\E.nx (ρ.set i (some (.int (a+b)))) S1
def zg7 (c:DT)(t:DS):DS:=fun E ρ S=>∃ W:Nat->Rho->Sto->Prop,(∃ m,W m ρ S)/\∀ m ρ S,W m ρ S ->
 c ρ S fun b S1=>if b=true then ∃ N:Rho->Sto->Prop,(∀ ρ' S',N ρ' S'->∃ m',m'<m/\W m' ρ' S')/\t { E with nx:=N,ct:=N,bk:=E.nx } ρ S1 else E.nx ρ S1
def zb4 (wi:DI)(g:DG)(t:DS):DS:=fun E ρ S=>wi ρ S fun J S1=>∃ W:Nat->Rho->Sto->Prop,W 0 ρ S1/\(∀ i ρ S,W i ρ S->J.ok S) /\
 (∀ i d ρ S,J.items[i]?=some d->W i ρ S->g d ρ S fun ρ2 S2=>t { E with nx:=W (i+1),ct:=W (i+1),bk:=E.nx } ρ2 S2)/\∀ ρ S,W J.items.length ρ S->E.nx ρ S
def signs (z:Str):List D:=z.cps.toList.map fun c=>.str ⟨#[c]⟩
def zhN (x:D)(S1:Sto)(R:DIt->Sto->Prop):Prop:=(∃ xs,x=.tup xs/\R ⟨xs,fun _=>True⟩ S1)\/(∃ xs,Lst S1 x xs/\R ⟨xs,fun S=>Lst S x xs⟩ S1)\/(∃ z:Str,x=.str z/\R ⟨signs z,fun _=>True⟩ S1)
def zbx (t:DE):DI:=fun ρ S R=>t ρ S fun x S1=>zhN x S1 R
def upto (lo:Int)(n:Nat):List D:=(List.range n).map fun k:Nat=>D.int (lo+(k:Int))
def zee (t:DA):DI:=fun ρ S R=>t ρ S fun vs S1=>∃ j:Int,vs=[.int j]/\-(2 ^ 62)<=j/\j<2 ^ 62/\R ⟨upto 0 j.toNat,fun _=>True⟩ S1
def zkn (t:DA):DI:=fun ρ S R=>t ρ S fun vs S1=>∃ i j:Int,vs=[.int i,.int j]/\R ⟨upto i (j-i).toNat,fun _=>True⟩ S1
def zcP:Nat->List D->List D
 | _,[]=>[]
 | k,x::xs=>.tup [.int (k:Nat),x]::zcP (k+1) xs
def zcc:List D->List D->List D
 | x::xs,y::ys=>.tup [x,y]::zcc xs ys
 | _,_=>[]
def zgI (c:List Str)(z:Str):List Str:=if c.any (·==z)=true then c else c++[z]
def zcE (f:Nat->Str):Nat->List Str
 | 0=>[]
 | i+1=>zgI (zcE f i) (f i)
def zqq (zs:List Str):Nat:=(zcE (fun i=>zs.getD i Str.empty) zs.length).length
def znk:DB:=fun vs S Q=>∃ x,∃ zs:List Str,vs=[x]/\Lst S x (zs.map D.str)/\zs.length<=4000/\Q (.int (zqq zs)) S
def zkS (R:DIt->Sto->Prop)(vs:List D)(S1:Sto):Prop:=(∃ x xs,vs=[x]/\Lst S1 x xs/\R ⟨zcP 0 xs,fun S=>Lst S x xs⟩ S1)\/(∃ xs,vs=[.tup xs]/\R ⟨zcP 0 xs,fun _=>True⟩ S1)
def zks (t:DA):DI:=fun ρ S R=>t ρ S (zkS R)
def zm7 (R:DIt->Sto->Prop)(vs:List D)(S1:Sto):Prop:=(∃ x y xs ys,vs=[x,y]/\Lst S1 x xs/\Lst S1 y ys/\R ⟨zcc xs ys,fun S=>Lst S x xs/\Lst S y ys⟩ S1)\/(∃ xs ys,vs=[.tup xs,.tup ys]/\R ⟨zcc xs ys,fun _=>True⟩ S1)
def zpJ (t:DA):DI:=fun ρ S R=>t ρ S (zm7 R)
def zix (own:Nat)(fv:List Nat)(ρ:Rho):Rho:=List.replicate own none++fv.map fun j=>(ρ[j]?).join
def zcs:DT:=fun _ S Q=>Q true S
def dLC (own:Nat)(fv:List Nat)(wi:DI)(g:DG)(tc:DT)(te:DE):DE:=fun ρ S Q=>wi ρ S fun J S1=>J.items.length<=big/\∃ W:Nat->List D->Sto->Prop,W 0 [] S1/\(∀ i ys S,W i ys S->J.ok S) /\
 (∀ i d ys S,J.items[i]?=some d->W i ys S->g d (zix own fv ρ) S fun ρ2 S2=>tc ρ2 S2 fun b S3=>if b=true then te ρ2 S3 fun y S4=>W (i+1) (ys++[y]) S4 else W (i+1) ys S3) /\
 ∀ ys S,W J.items.length ys S->Q (.ref S.length) (S++[.lst ys])
def fc:Cell->Bool
 | .lst xs=>xs.all (fl 20)
 | .ins _ _=>false
def Fin (S:Sto)(Q:DK):DK:=fun d S'=>Q d S'\/∃ S1,S1 <+: S'/\S.length<=S1.length/\(fl 20 d=true\/∃ n,d=.ref n/\n<S1.length)/\(∀ (n:Nat) c,S1[n]?=some c->S[n]?=some c\/fc c=true)/\Q d S1
def zet (n:Nat)(ds:List D):Rho:=ds.map some++List.replicate (n-ds.length) none
def BodyOk (n:Nat)(b:DS)(f:DSp):Prop:=∀ ds S Q,f ds S Q->b ⟨fun _ S'=>Fin S Q .non S',Fin S Q,fun _ _=>False,fun _ _=>False⟩ (zet n ds) S
abbrev XD:=Str->Sto->Prop
abbrev XR:=Rho->Str->Sto->Prop
abbrev zdk:=List D->Sto->DK->XD->Prop
def zaP (f:zdk)(ex:XR)(t:DA):DE:=fun ρ S Q=>t ρ S fun xs S1=>f xs S1 Q (ex ρ)
def xF:XR:=fun _ _ _=>False
def zeQ (ex:XR)(c:Str):DS:=fun _ ρ S=>ex ρ c S
def ziD (tbl:List (Str×Bool))(t:DE):DE:=fun ρ S Q=>t ρ S fun x S1=>∃ c b,x=.exn c/\tbl.lookup c=some b/\Q (.bl b) S1
def zp4 (i:Nat)(ok:List Str)(b:XR->DS)(h:DS):DS:=fun E ρ S =>
 b (fun ρ' c S'=>ok.contains c=true/\h { nx:=fun ρ2 S2=>E.nx (ρ2.set i none) S2,rt:=E.rt,bk:=fun _ _=>False,ct:=fun _ _=>False } (ρ'.set i (some (.exn c))) S') E ρ S
def zco (n:Nat)(b:XR->DS)(f:zdk):Prop:=∀ ds S Q ex,f ds S Q ex->b (fun _=>ex) ⟨fun _ S'=>Fin S Q .non S',Fin S Q,fun _ _=>False,fun _ _=>False⟩ (zet n ds) S
end Dp
namespace Dp
open PySem
def New (Q:DK)(S:Sto)(xs:List D):Prop:=Q (.ref S.length) (S++[.lst xs])
def Put (Q:Sto->Prop)(S:Sto)(n:Nat)(c:Cell):Prop:=Q (S.set n c)
def znl (own:Nat)(fv:List Nat)(g:DG)(tc:DT)(te:DE)(ρ:Rho)(Q:DK)(J:DIt)(S:Sto):Prop:=J.items.length<=big/\∃ W:Nat->List D->Sto->Prop,W 0 [] S/\(∀ i ys S,W i ys S->J.ok S) /\
 (∀ i d ys S,J.items[i]?=some d->W i ys S->g d (zix own fv ρ) S fun ρ2 S2=>tc ρ2 S2 fun b S3=>if b=true then te ρ2 S3 fun y S4=>W (i+1) (ys++[y]) S4 else W (i+1) ys S3) /\
 ∀ ys S,W J.items.length ys S->New Q S ys
def zq0 (d:D)(ρ:Rho)(Q:Rho->Sto->Prop)(o i:D)(S2:Sto):Prop:=∃ n xs k j,o=.ref n/\i=.int k/\S2[n]?=some (.lst xs)/\ixD xs.length k=some j/\Q ρ (S2.set n (.lst (xs.set j d)))
def zqD (nx:Rho->Sto->Prop)(rt:DK)(g:DG)(t:DS)(ρ:Rho)(J:DIt)(S:Sto):Prop:=∃ W:Nat->Rho->Sto->Prop,W 0 ρ S/\(∀ i ρ S,W i ρ S->J.ok S) /\
 (∀ i d ρ S,J.items[i]?=some d->W i ρ S->g d ρ S fun ρ2 S2=>t ⟨W (i+1),rt,nx,W (i+1)⟩ ρ2 S2)/\∀ ρ S,W J.items.length ρ S->nx ρ S
def zqH (W:Nat->Rho->Sto->Prop)(m:Nat)(t:DS)(rt:DK)(nx:Rho->Sto->Prop)(ρ:Rho)(S:Sto):Prop:=∃ N:Rho->Sto->Prop,(∀ ρ' S',N ρ' S'->∃ m',m'<m/\W m' ρ' S')/\t ⟨N,rt,nx,N⟩ ρ S
theorem za0 {nx:Rho->Sto->Prop}{rt:DK}{g:DG}{t:DS}{ρ:Rho}{xs:List D}{ok:Sto->Prop}{S:Sto}(W:Nat->Rho->Sto->Prop)(h0:W 0 ρ S)(hok:∀ i ρ S,W i ρ S->ok S)
  (step:∀ i d ρ S,xs[i]?=some d->W i ρ S->g d ρ S fun ρ2 S2=>t ⟨W (i+1),rt,nx,W (i+1)⟩ ρ2 S2) (fin:∀ ρ S,W xs.length ρ S->nx ρ S):zqD nx rt g t ρ ⟨xs,ok⟩ S:=⟨W,h0,hok,step,fin⟩
theorem zqW {S:Sto}{Q:DK}{xs:List D}(h:Q (.ref S.length) (S++[.lst xs])):New Q S xs:=h
theorem zf9 {S T:Sto}{Q:DK}{xs:List D}(h:Q (.ref (S.length+T.length)) (S++(T++[.lst xs]))):New Q (S++T) xs:=by
 unfold New;rw [List.length_append,List.append_assoc];exact h
section
variable {S:Sto}{Q:DK}{xs:List D}{a b c d e f:Cell}
theorem zvf (h:Q (.ref (S.length+1)) (S++[a,.lst xs])):New Q (S++[a]) xs:=zf9 h
theorem zvu (h:Q (.ref (S.length+2)) (S++[a,b,.lst xs])):New Q (S++[a,b]) xs:=zf9 h
theorem zvd (h:Q (.ref (S.length+3)) (S++[a,b,c,.lst xs])):New Q (S++[a,b,c]) xs:=zf9 h
theorem zvR (h:Q (.ref (S.length+4)) (S++[a,b,c,d,.lst xs])):New Q (S++[a,b,c,d]) xs:=zf9 h
theorem zvs (h:Q (.ref (S.length+5)) (S++[a,b,c,d,e,.lst xs])):New Q (S++[a,b,c,d,e]) xs:=zf9 h
end
theorem zoa {S:Sto}{a:Cell}{T:Sto}{Q:Sto->Prop}{c:Cell}(h:Q (S++c::T)):Put Q (S++a::T) S.length c:=by
 unfold Put;rw [List.set_append_right _ _ (Nat.le_refl _),Nat.sub_self];exact h
theorem zqz {S T:Sto}{Q:Sto->Prop}{k:Nat}{c:Cell}(h:Q (S++T.set k c)):Put Q (S++T) (S.length+k) c:=by
 unfold Put;rw [List.set_append_right _ _ (Nat.le_add_right _ _),Nat.add_sub_cancel_left];exact h
section
variable {nx:Rho->Sto->Prop}{rt:DK}{bk ct:Rho->Sto->Prop}{ρ:Rho}{S:Sto}
theorem znh {t u:DS}(h:t ⟨u ⟨nx,rt,bk,ct⟩,rt,bk,ct⟩ ρ S):zH t u ⟨nx,rt,bk,ct⟩ ρ S:=h
theorem r_J {t:DS}(J:Rho->Sto->Prop)(h:t ⟨J,rt,bk,ct⟩ ρ S)(hJ:∀ ρ S,J ρ S->nx ρ S):sJ t ⟨nx,rt,bk,ct⟩ ρ S:=⟨J,hJ,h⟩
theorem zu2 {i j:Nat}{t:DA}(h:t ρ S fun vs S1=>∃ a b,vs=[a,b]/\nx ((ρ.set i (some a)).set j (some b)) S1):zpu i j t ⟨nx,rt,bk,ct⟩ ρ S:=h
theorem zup {a b:D}{P:D->D->Prop}(h:P a b):∃ x y,[a,b]=[x,y]/\P x y:=⟨a,b,rfl,h⟩
theorem zsM (h:nx ρ S):zab ⟨nx,rt,bk,ct⟩ ρ S:=h
theorem zqX {t:DE}(h:t ρ S rt):zZ t ⟨nx,rt,bk,ct⟩ ρ S:=h
theorem ztQ {t:DE}(h:t ρ S fun _ S1=>nx ρ S1):zaq t ⟨nx,rt,bk,ct⟩ ρ S:=h
theorem zqB {t:DE}{g:DG}(h:t ρ S fun x S1=>g x ρ S1 nx):zN t g ⟨nx,rt,bk,ct⟩ ρ S:=h
theorem zws {c:DT}{t u:DS}(h:c ρ S fun b S1=>if b=true then t ⟨nx,rt,bk,ct⟩ ρ S1 else u ⟨nx,rt,bk,ct⟩ ρ S1):sIf c t u ⟨nx,rt,bk,ct⟩ ρ S:=h
theorem zsV {c f:Str}{to tv:DE}(h:tv ρ S fun y S1=>to ρ S1 fun x S2=>∃ n fs,x=.ref n/\S2[n]?=some (.ins c fs)/\fs.length<100/\nx ρ (S2.set n (.ins c (putD f y fs)))):zeb c f to tv ⟨nx,rt,bk,ct⟩ ρ S:=h
theorem zvP {i:Nat}{t:DE}{a:Int}(e:ρ[i]?=some (some (.int a)))(h:t ρ S fun y S1=>∃ b,y=.int b/\nx (ρ.set i (some (.int (a+b)))) S1):zmK i t ⟨nx,rt,bk,ct⟩ ρ S:=⟨a,e,h⟩
theorem zvE {wi:DI}{g:DG}{t:DS}(h:wi ρ S fun J S1=>zqD nx rt g t ρ J S1):zb4 wi g t ⟨nx,rt,bk,ct⟩ ρ S:=h
theorem zqr {c:DT}{t:DS}(W:Nat->Rho->Sto->Prop)(m:Nat)(h0:W m ρ S)(h:∀ m ρ S,W m ρ S->c ρ S fun b S1=>if b=true then zqH W m t rt nx ρ S1 else nx ρ S1):zg7 c t ⟨nx,rt,bk,ct⟩ ρ S:=⟨W,⟨m,h0⟩,h⟩
theorem zoM {t:DS}{W:Nat->Rho->Sto->Prop}{m:Nat}(h:t ⟨fun ρ' S'=>∃ m',m'<m/\W m' ρ' S',rt,nx,fun ρ' S'=>∃ m',m'<m/\W m' ρ' S'⟩ ρ S):zqH W m t rt nx ρ S:=⟨_,fun _ _ z=>z,h⟩
theorem zq9 {i:Nat}{d:D}{Q:Rho->Sto->Prop}(h:Q (ρ.set i (some d)) S):zE i d ρ S Q:=h
theorem zsJ {Q:Rho->Sto->Prop}(h:Q ρ S):zc0 [] ρ S Q:=⟨rfl,h⟩
theorem zrl {t:DG}{u:DGs}{d:D}{r:List D}{Q:Rho->Sto->Prop}(h:t d ρ S fun ρ' S'=>u r ρ' S' Q):zao t u (d::r) ρ S Q:=⟨d,r,rfl,h⟩
theorem ztU {n:Nat}{t:DGs}{xs:List D}{Q:Rho->Sto->Prop}(e:xs.length=n)(h:t xs ρ S Q):zc2 n t (.tup xs) ρ S Q:=⟨xs,rfl,e,h⟩
theorem ztx {to ti:DE}{d:D}{Q:Rho->Sto->Prop}(h:to ρ S fun o S1=>ti ρ S1 fun i S2=>zq0 d ρ Q o i S2):zib to ti d ρ S Q:=h
theorem zga {i:Nat}{d:D}{Q:DK}(h:ρ[i]?=some (some d))(q:Q d S):zj i ρ S Q:=⟨d,h,q⟩
theorem r_c {d:D}{Q:DK}(q:Q d S):dC d ρ S Q:=q
theorem zmB {r:DR2}{ta tb:DE}{Q:DK}(h:ta ρ S fun x S1=>tb ρ S1 fun y S2=>r x y S2 Q):dOp r ta tb ρ S Q:=h
theorem zwH {r:D->Sto->DK->Prop}{ta:DE}{Q:DK}(h:ta ρ S fun x S1=>r x S1 Q):dUn r ta ρ S Q:=h
theorem zuI {Q:List D->Sto->Prop}(h:Q [] S):zA ρ S Q:=h
theorem zkx {ta:DE}{tr:DA}{Q:List D->Sto->Prop}(h:ta ρ S fun x S1=>tr ρ S1 fun xs S2=>Q (x::xs) S2):zf ta tr ρ S Q:=h
theorem zqZ {t:DA}{Q:DK}(h:t ρ S fun xs S1=>xs.length<=big/\Q (.tup xs) S1):dTup t ρ S Q:=h
theorem zuS {t:DA}{Q:DK}(h:t ρ S fun xs S1=>xs.length<=big/\New Q S1 xs):zaY t ρ S Q:=h
theorem zuX {xs:List D}{P:Prop}(h:Nat.ble xs.length big=true)(q:P):xs.length<=big/\P:=⟨Nat.le_of_ble_eq_true h,q⟩
theorem zsH {f:DSp}{t:DA}{Q:DK}(h:t ρ S fun xs S1=>f xs S1 Q):dCall f t ρ S Q:=h
theorem r_b {r:DB}{t:DA}{Q:DK}(h:t ρ S fun xs S1=>r xs S1 Q):dB r t ρ S Q:=h
theorem r_m {r:DM}{ta:DE}{t:DA}{Q:DK}(h:ta ρ S fun x S1=>(∃ n ys,x=.ref n/\S1[n]?=some (.lst ys))/\t ρ S1 fun xs S2=>r x xs S2 Q):dM r ta t ρ S Q:=h
theorem zuZ {n:Nat}{ys:List D}{P:Prop}(h:S[n]?=some (.lst ys))(q:P):(∃ m ys,D.ref n=.ref m/\S[m]?=some (.lst ys))/\P:=⟨⟨n,ys,rfl,h⟩,q⟩
theorem r_t {t:DE}{Q:Bool->Sto->Prop}(h:t ρ S fun x S1=>∃ b,x=.bl b/\Q b S1):dT t ρ S Q:=h
theorem zvZ {c:Bool}{P:Bool->Prop}(h:P c):∃ b,D.bl c=D.bl b/\P b:=⟨c,rfl,h⟩
theorem zu0 {c:Int}{P:Int->Prop}(h:P c):∃ b,D.int c=D.int b/\P b:=⟨c,rfl,h⟩
theorem zvH {t u:DT}{Q:Bool->Sto->Prop}(h:t ρ S fun c S1=>if c=true then u ρ S1 Q else Q false S1):zew t u ρ S Q:=h
theorem zwj {t u:DT}{Q:Bool->Sto->Prop}(h:t ρ S fun c S1=>if c=true then Q true S1 else u ρ S1 Q):dOr t u ρ S Q:=h
theorem zvL {t:DT}{Q:Bool->Sto->Prop}(h:t ρ S fun c S1=>Q (!c) S1):zeX t ρ S Q:=h
theorem ztj {t u:DE}{Q:DK}(h:t ρ S fun x S1=>∃ c,x=.bl c/\if c=true then u ρ S1 Q else Q (.bl false) S1):zhz t u ρ S Q:=h
theorem ztK {t:DE}{Q:DK}(h:t ρ S fun x S1=>∃ c,x=.bl c/\Q (.bl (!c)) S1):zhS t ρ S Q:=h
theorem zrK {r r':DR2}{ta tb tc:DE}{Q:DK}(h:ta ρ S fun x S1=>tb ρ S1 fun y S2=>r x y S2 fun z S3=>∃ c,z=.bl c/\if c=true then tc ρ S3 fun w S4=>r' y w S4 Q else Q (.bl false) S3):ziW r r' ta tb tc ρ S Q:=h
theorem zuy {f:Str}{ta:DE}{Q:DK}(h:ta ρ S fun x S1=>∃ n c fs d,x=.ref n/\S1[n]?=some (.ins c fs)/\fs.lookup f=some d/\Q d S1):zaV f ta ρ S Q:=h
theorem zwm {r:D->Option Int->Option Int->Sto->DK->Prop}{ta:DE}{lo hi:Option DE}{Q:DK}(h:ta ρ S fun x S1=>zif lo ρ S1 fun l S2=>zif hi ρ S2 fun h S3=>r x l h S3 Q):dSl r ta lo hi ρ S Q:=h
theorem zsw {Q:Option Int->Sto->Prop}(h:Q none S):zif none ρ S Q:=h
theorem ztV {t:DE}{Q:Option Int->Sto->Prop}(h:t ρ S fun x S1=>∃ i,x=.int i/\Q (some i) S1):zif (some t) ρ S Q:=h
theorem zth {Q:Bool->Sto->Prop}(h:Q true S):zcs ρ S Q:=h
end
section
variable {S:Sto}{Q:DK}
theorem zvS {i j:Int}(q:Q (.int (i+j)) S):zah (.int i) (.int j) S Q:=.inl ⟨i,j,rfl,rfl,q⟩
theorem ztb {x y:D}{xs ys:List D}(hx:Lst S x xs)(hy:Lst S y ys)(h:xs.length+ys.length<=big)(q:New Q S (xs++ys)):zah x y S Q:=.inr (.inr (.inl ⟨xs,ys,hx,hy,h,q⟩))
theorem zkX {i j:Str}(h:i.length+j.length<=big)(q:Q (.str (i++j)) S):zah (.str i) (.str j) S Q:=.inr (.inr (.inr ⟨i,j,rfl,rfl,h,q⟩))
theorem zvb {i j:Int}(q:Q (.int (i-j)) S):zal (.int i) (.int j) S Q:=⟨i,j,rfl,rfl,q⟩
theorem zuV {i j:Int}(c:zax i j)(q:Q (.int (i*j)) S):zaD (.int i) (.int j) S Q:=.inl ⟨i,j,rfl,rfl,c,q⟩
theorem zoS {z:Str}{n:Int}(hz:z.length<=1000)(h0:-1000<=n)(h1:n<=1000)(q:Q (.str (znC z n)) S):zaD (.str z) (.int n) S Q:=.inr (.inl ⟨z,n,rfl,rfl,hz,h0,h1,q⟩)
theorem zok {i j:Int}(hi:Hg i)(hj:Hg j)(q:Q (.int (i*j)) S):zaD (.int i) (.int j) S Q:=.inr (.inr ⟨i,j,rfl,rfl,⟨hi,hj⟩,q⟩)
theorem zvy {c:Nat}{z:Str}(q:Q (.bl (decide (c∈z.cps.toList))) S):oIn (.str ⟨#[c]⟩) (.str z) S Q:=.inr ⟨c,z,rfl,rfl,q⟩
theorem zuO {i j:Int}(c:0<j/\My.Bd 8000 j)(q:Q (.int (i/j)) S):oDiv (.int i) (.int j) S Q:=⟨i,j,rfl,rfl,⟨by omega,c.2⟩,by show Q (.int (i.fdiv j)) S;rw [Int.fdiv_eq_ediv_of_nonneg i (by omega)];exact q⟩
theorem zvK {i j:Int}(c:0<j)(q:Q (.int (i%j)) S):oMod (.int i) (.int j) S Q:=⟨i,j,rfl,rfl,(by show j≠0;omega),by show Q (.int (i.fmod j)) S;rw [Int.fmod_eq_emod_of_nonneg i (by omega)];exact q⟩
theorem znR {i j:Int}(c:zqL i j)(q:Q (.int (i.fdiv j)) S):oDiv (.int i) (.int j) S Q:=⟨i,j,rfl,rfl,c,q⟩
theorem zs0 {i j:Int}(c:j≠0)(q:Q (.int (i.fmod j)) S):oMod (.int i) (.int j) S Q:=⟨i,j,rfl,rfl,c,q⟩
theorem zvh {i:Int}(q:Q (.int (-i)) S):zcW (.int i) S Q:=⟨i,rfl,q⟩
theorem zwu {i j:Int}(q:Q (.bl (decide (i<j))) S):oLt (.int i) (.int j) S Q:=⟨i,j,rfl,rfl,q⟩
theorem zv4 {i j:Int}(q:Q (.bl (decide (i<=j))) S):oLe (.int i) (.int j) S Q:=⟨i,j,rfl,rfl,q⟩
theorem zwi {i j:Int}(q:Q (.bl (decide (j<i))) S):oGt (.int i) (.int j) S Q:=⟨i,j,rfl,rfl,q⟩
theorem zwd {i j:Int}(q:Q (.bl (decide (j<=i))) S):oGe (.int i) (.int j) S Q:=⟨i,j,rfl,rfl,q⟩
theorem zuQ {i j:Int}(q:Q (.bl (decide (i=j))) S):oEq (.int i) (.int j) S Q:=⟨_,.inl ⟨rfl,rfl,rfl⟩,q⟩
theorem zuD {i j:Int}(q:Q (.bl (!decide (i=j))) S):oNe (.int i) (.int j) S Q:=⟨_,.inl ⟨rfl,rfl,rfl⟩,q⟩
theorem zv2 {x:D}(q:Q (.bl (zdd x)) S):oIs x .non S Q:=.inl ⟨rfl,q⟩
theorem zs9 (q:Q (.bl false) S):ze0 .non .non S Q:=.inl ⟨rfl,q⟩
theorem zsT {i:Int}(q:Q (.bl true) S):ze0 (.int i) .non S Q:=.inl ⟨rfl,q⟩
theorem ztm {xs:List D}(q:Q (.bl true) S):ze0 (.tup xs) .non S Q:=.inl ⟨rfl,q⟩
theorem zqO {x:D}(q:Q (.bl (!zdd x)) S):ze0 x .non S Q:=.inl ⟨rfl,q⟩
theorem zvq {xs:List D}{i:Int}{d:D}(e:atD xs i=some d)(q:Q d S):oIx (.tup xs) (.int i) S Q:=.inl ⟨i,xs,d,rfl,.inl rfl,e,q⟩
theorem zqy {x:D}{xs:List D}{i:Int}{d:D}(h:Lst S x xs)(e:atD xs i=some d)(q:Q d S):oIx x (.int i) S Q:=.inl ⟨i,xs,d,rfl,.inr h,e,q⟩
theorem zmH {z:Str}{i:Int}{c:Nat}(hz:z.length<=big)(e:atS z i=some c)(q:Q (.str ⟨#[c]⟩) S):oIx (.str z) (.int i) S Q:=.inr ⟨z,i,c,rfl,rfl,hz,e,q⟩
theorem zsU {x:D}{xs:List D}{lo hi:Option Int}(h:Lst S x xs)(q:New Q S (cutD xs lo hi)):zlk x lo hi S Q:=.inr (.inl ⟨xs,h,q⟩)
theorem zsY {z:Str}{lo hi:Option Int}(hz:z.length<=big)(q:Q (.str (zf7 z lo hi)) S):zlk (.str z) lo hi S Q:=.inr (.inr ⟨z,rfl,hz,q⟩)
theorem zub {xs:List D}(q:Q (.int xs.length) S):zbm [.tup xs] S Q:=.inl ⟨_,xs,rfl,.inl rfl,q⟩
theorem zsA {x:D}{xs:List D}(h:Lst S x xs)(q:Q (.int xs.length) S):zbm [x] S Q:=.inl ⟨_,xs,rfl,.inr h,q⟩
theorem zow {z:Str}(hz:z.length<=big)(q:Q (.int z.length) S):zbm [.str z] S Q:=.inr ⟨z,rfl,hz,q⟩
theorem zuE {i:Int}(q:Q (.int (i.natAbs:Int)) S):zlz [.int i] S Q:=⟨i,rfl,q⟩
theorem zuo {i j:Int}(q:Q (.int (max i j)) S):ze5 [.int i,.int j] S Q:=⟨i,j,rfl,q⟩
theorem zuv {i j:Int}(q:Q (.int (min i j)) S):zgc [.int i,.int j] S Q:=⟨i,j,rfl,q⟩
theorem zt9 {x:D}{ns:List Int}(h:Lst S x (ns.map D.int))(h0:0<ns.length)(q:∀ m:Int,m∈ns->(∀ a∈ns,a<=m)->Q (.int m) S):znE [x] S Q:=⟨x,ns,rfl,h,h0,q⟩
theorem znK {x:D}{ns:List Int}(h:Lst S x (ns.map D.int))(h0:0<ns.length)(q:∀ m:Int,m∈ns->(∀ a∈ns,m<=a)->Q (.int m) S):zkq [x] S Q:=⟨x,ns,rfl,h,h0,q⟩
theorem zvt {x:D}{bs:List Bool}(h:Lst S x (bs.map D.bl))(q:Q (.bl (bs.all id)) S):zgV [x] S Q:=⟨x,bs,rfl,h,q⟩
theorem zpf {x:D}{xs:List D}(h:Lst S x xs)(q:Q (.tup xs) S):zkY [x] S Q:=⟨_,xs,rfl,.inr h,q⟩
theorem zq4 {x:D}{xs:List D}(h:Lst S x xs)(q:New Q S xs):ze9 [x] S Q:=⟨_,xs,rfl,.inr h,q⟩
theorem zrs {x:D}{cs:List (Int×Int)}(h:Lst S x (cs.map p2))(hl:cs.length<64)(q:∀ ss:List (Int×Int),ss.Perm cs->ss.Pairwise (fun a b=>zik b a=false)->New Q S (ss.map p2)):zmS [x] S Q:=.inl ⟨x,cs,rfl,h,hl,q⟩
theorem zpo {n:Nat}{xs:List D}{y:D}(h:S[n]?=some (.lst xs))(hl:xs.length<big)(q:Put (Q .non) S n (.lst (xs++[y]))):zbA (.ref n) [y] S Q:=⟨n,xs,y,rfl,rfl,h,hl,q⟩
theorem znS {n:Nat}{xs ys:List D}(h:S[n]?=some (.lst xs))(hl:xs.length+ys.length<=big)(q:Put (Q .non) S n (.lst (xs++ys))):ziq (.ref n) [.tup ys] S Q:=.inr ⟨n,xs,ys,rfl,rfl,h,hl,q⟩
theorem zo6 {n:Nat}{xs:List D}(h:S[n]?=some (.lst xs))(q:Put (Q .non) S n (.lst xs.reverse)):ziA (.ref n) [] S Q:=⟨n,xs,rfl,rfl,h,q⟩
theorem zm9 {n:Nat}{xs:List D}{k:Int}{j:Nat}{d:D}{ρ:Rho}{Q:Rho->Sto->Prop}(h:S[n]?=some (.lst xs))(e:ixD xs.length k=some j)(q:Put (Q ρ) S n (.lst (xs.set j d))):zq0 d ρ Q (.ref n) (.int k) S:=⟨n,xs,k,j,rfl,rfl,h,e,q⟩
end
section
variable {ρ:Rho}{S:Sto}{R:DIt->Sto->Prop}
theorem ztD {t:DE}(h:t ρ S fun x S1=>zhN x S1 R):zbx t ρ S R:=h
theorem zu9 {xs:List D}(q:R ⟨xs,fun _=>True⟩ S):zhN (.tup xs) S R:=.inl ⟨xs,rfl,q⟩
theorem zuA {x:D}{xs:List D}(h:Lst S x xs)(q:R ⟨xs,fun S=>Lst S x xs⟩ S):zhN x S R:=.inr (.inl ⟨xs,h,q⟩)
theorem zvz {z:Str}(q:R ⟨signs z,fun _=>True⟩ S):zhN (.str z) S R:=.inr (.inr ⟨z,rfl,q⟩)
theorem zsX {t:DA}(h:t ρ S fun vs S1=>∃ j:Int,vs=[.int j]/\-(2 ^ 62)<=j/\j<2 ^ 62/\R ⟨upto 0 j.toNat,fun _=>True⟩ S1):zee t ρ S R:=h
theorem zsu {t:DA}(h:t ρ S fun vs S1=>∃ i j:Int,vs=[.int i,.int j]/\R ⟨upto i (j-i).toNat,fun _=>True⟩ S1):zkn t ρ S R:=h
theorem zsx {t:DA}(h:t ρ S (zkS R)):zks t ρ S R:=h
theorem zt2 {x:D}{xs:List D}(h:Lst S x xs)(q:R ⟨zcP 0 xs,fun S=>Lst S x xs⟩ S):zkS R [x] S:=.inl ⟨x,xs,rfl,h,q⟩
theorem zt6 {Q:DK}{x:D}{zs:List Str}(hx:Lst S x (zs.map D.str))(hl:zs.length<=4000)(q:Q (.int (zqq zs)) S):znk [x] S Q:=⟨x,zs,rfl,hx,hl,q⟩
theorem zvA {t:DA}(h:t ρ S (zm7 R)):zpJ t ρ S R:=h
theorem zwn {x y:D}{xs ys:List D}(hx:Lst S x xs)(hy:Lst S y ys)(q:R ⟨zcc xs ys,fun S=>Lst S x xs/\Lst S y ys⟩ S):zm7 R [x,y] S:=.inl ⟨x,y,xs,ys,rfl,hx,hy,q⟩
theorem zwp {own:Nat}{fv:List Nat}{wi:DI}{g:DG}{tc:DT}{te:DE}{Q:DK}(h:wi ρ S fun J S1=>znl own fv g tc te ρ Q J S1):dLC own fv wi g tc te ρ S Q:=h
end
theorem zpe {A B:Prop}(h:B):if false=true then A else B:=by rw [if_neg Bool.false_ne_true];exact h
theorem zp8 {A B:Prop}(h:A):if true=true then A else B:=by rw [if_pos rfl];exact h
theorem r_d {c A B:Prop}[Decidable c](h1:c->A)(h2:¬ c->B):if decide c=true then A else B:=by
 by_cases h:c
 ·rw [decide_eq_true h,if_pos rfl];exact h1 h
 ·rw [decide_eq_false h,if_neg Bool.false_ne_true];exact h2 h
theorem zjN {c A B:Prop}[Decidable c](h1:¬ c->A)(h2:c->B):if (!decide c)=true then A else B:=by
 by_cases h:c
 ·rw [decide_eq_true h];exact h2 h
 ·rw [decide_eq_false h];exact h1 h
theorem zaN (S T:Sto)(k:Nat):(S++T)[S.length+k]?=T[k]?:=by
 rw [List.getElem?_append_right (Nat.le_add_right _ _),Nat.add_sub_cancel_left]
theorem zrc (S T:Sto):(S++T)[S.length]?=T[0]?:=zaN S T 0
theorem zb5 {S T:Sto}{c:Cell}:(S++c::T)[S.length]?=some c:=(zaN S (c::T) 0).trans rfl
theorem zhO {S T:Sto}{c:Cell}:(S++(T++[c]))[S.length+T.length]?=some c:=by rw [zaN,List.getElem?_append_right (Nat.le_refl _),Nat.sub_self];rfl
theorem zrt (S T:Sto)(k:Nat)(c:Cell):(S++T).set (S.length+k) c=S++T.set k c:=by
 rw [List.set_append_right _ _ (Nat.le_add_right _ _),Nat.add_sub_cancel_left]
theorem zcJ (S T:Sto)(a c:Cell):(S++a::T).set S.length c=S++c::T:=zrt S (a::T) 0 c
theorem zaU {S T:Sto}{n:Nat}{c:Cell}(h:S[n]?=some c):(S++T)[n]?=some c:=by
 have:n<S.length:=by
  rcases Nat.lt_or_ge n S.length with g | g
  ·exact g
  ·rw [List.getElem?_eq_none g] at h;cases h
 rw [List.getElem?_append_left this];exact h
theorem Lst.old {S T:Sto}{x:D}{xs:List D}(h:Lst S x xs):Lst (S++T) x xs:=h.imp id fun⟨n,e,h⟩=>⟨n,e,zaU h⟩
theorem Lst.at {S T:Sto}{k:Nat}{xs:List D}(h:T[k]?=some (.lst xs)):Lst (S++T) (.ref (S.length+k)) xs:=.inr ⟨_,rfl,by rw [zaN];exact h⟩
theorem Lst.at0 {S T:Sto}{xs:List D}:Lst (S++.lst xs::T) (.ref S.length) xs:=.inr ⟨_,rfl,by rw [zrc];rfl⟩
theorem Lst.new {S T:Sto}{xs:List D}:Lst (S++(T++[.lst xs])) (.ref (S.length+T.length)) xs:=.inr ⟨_,rfl,zhO⟩
theorem Lst.rl {S:Sto}{xs:List D}:Lst S (.rl xs) xs:=.inl rfl
theorem Lst.here {S:Sto}{n:Nat}{xs:List D}(h:S[n]?=some (.lst xs)):Lst S (.ref n) xs:=.inr ⟨n,rfl,h⟩
theorem zaJ {S T:Sto}{Q:DK}{d:D}(h:fl 20 d=true)(q:Q d S):Fin S Q d (S++T):=.inr ⟨S,List.prefix_append _ _,Nat.le_refl _,.inl h,fun _ _ e=>.inl e,q⟩
theorem fin_same {S S':Sto}{Q:DK}{d:D}(q:Q d S'):Fin S Q d S':=.inl q
section
variable {S:Sto}{Q:DK}
theorem zkk {i:Int}(q:Q (.bl true) S):zf3 [.int i,.ty "int"] S Q:=⟨_,_,true,rfl,by rfl,q⟩
theorem zjT {i:Int}(q:Q (.bl false) S):zf3 [.int i,.ty "bool"] S Q:=⟨_,_,false,rfl,by rfl,q⟩
theorem ziI {xs:List D}(q:Q (.bl true) S):zf3 [.tup xs,.ty "tuple"] S Q:=⟨_,_,true,rfl,by rfl,q⟩
theorem zjJ {n:Nat}{xs:List D}(h:S[n]?=some (.lst xs))(q:Q (.bl true) S):zf3 [.ref n,.ty "list"] S Q:=⟨_,_,true,rfl,by unfold zpr;rw [if_neg (by decide)];simp only [h];rfl,q⟩
end
theorem zvp {A B:Prop}(h:B):if (!true)=true then A else B:=zpe h
theorem zvD {A B:Prop}(h:A):if (!false)=true then A else B:=zp8 h
theorem zgQ {S:Sto}{Q:DK}{x:D}{bs:List Bool}{b:Bool}(h:Lst S x (bs.map D.bl))(e:bs.all id=b)(q:Q (.bl b) S):zgV [x] S Q:=zvt h (by rw [e];exact q)
def LcW (S:Sto)(items:List D)(p:D->Bool)(f:D->D)(i:Nat)(ys:List D)(S':Sto):Prop:=S'=S/\ys=((items.take i).filter p).map f
theorem zav {α:Type}{xs:List α}{i:Nat}{x:α}(h:xs[i]?=some x):xs.take (i+1)=xs.take i++[x]:=by rw [List.take_succ,h];rfl
theorem zcN {S:Sto}{items:List D}{p:D->Bool}{f:D->D}{i:Nat}{ys:List D}{d y:D}(hd:items[i]?=some d)(hw:LcW S items p f i ys S)(hp:p d=true)(hy:y=f d):LcW S items p f (i+1) (ys++[y]) S :=
 ⟨rfl,by rw [zav hd,List.filter_append,List.map_append,<- hw.2,List.filter_cons_of_pos hp,hy];rfl⟩
theorem zqN {S:Sto}{items:List D}{p:D->Bool}{f:D->D}{i:Nat}{ys:List D}{d:D}(hd:items[i]?=some d)(hw:LcW S items p f i ys S)(hp:p d=false):LcW S items p f (i+1) ys S :=
 ⟨rfl,by rw [zav hd,List.filter_append,List.map_append,<- hw.2,List.filter_cons_of_neg (by rw [hp];exact Bool.false_ne_true)];simp⟩
theorem zbB {own:Nat}{fv:List Nat}{xs:List D}{ok:Sto->Prop}{g:DG}{tc:DT}{te:DE}{ρ:Rho}{S:Sto}{Q:DK}(p:D->Bool)(f:D->D)(hok:ok S)(hbig:xs.length<=big)
  (step:∀ i d ys,xs[i]?=some d->LcW S xs p f i ys S->g d (zix own fv ρ) S fun ρ2 S2=>tc ρ2 S2 fun b S3=>if b=true then te ρ2 S3 fun y S4=>LcW S xs p f (i+1) (ys++[y]) S4 else LcW S xs p f (i+1) ys S3)
  (q:New Q S ((xs.filter p).map f)):znl own fv g tc te ρ Q ⟨xs,ok⟩ S:=by
 refine⟨hbig,LcW S xs p f,⟨rfl,by simp⟩,fun i ys S' h=>by rw [h.1];exact hok,fun i d ys S' hd h=>?_,fun ys S' h=>?_⟩
 ·obtain⟨rfl,_⟩:=id h
  exact step i d ys hd h
 ·obtain⟨rfl,rfl⟩:=h
  rw [List.take_length];exact q
theorem filter_true {α:Type}(xs:List α):xs.filter (fun _=>true)=xs:=List.filter_eq_self.mpr fun _ _=>rfl
theorem zem {ds:List D}{i:Nat}{d:D}(h:ds[i]?=some d):atD ds (i:Int)=some d:=by
 have hl:i<ds.length:=by
  rcases Nat.lt_or_ge i ds.length with g | g
  ·exact g
  ·rw [List.getElem?_eq_none g] at h;cases h
 unfold atD ixD
 rw [if_pos (by omega),if_pos (by omega)]
 simpa using h
theorem zdA {lo:Int}{n i:Nat}{d:D}(h:(upto lo n)[i]?=some d):i<n/\d=.int (lo+i):=by
 unfold upto at h
 rw [List.getElem?_map] at h
 by_cases hi:i<n
 ·rw [List.getElem?_range hi] at h
  exact⟨hi,by simpa using h.symm⟩
 ·rw [List.getElem?_eq_none (by simpa using hi)] at h;cases h
theorem zc9 (lo:Int)(n:Nat):(upto lo n).length=n:=by unfold upto;simp
theorem zeT {zs:List Int}{k:Int}(h0:0<=k)(h:k<zs.length):∃ z,z∈zs/\atD (zs.map D.int) k=some (.int z):=by
 refine⟨zs[k.toNat]'(by omega),List.getElem_mem _,?_⟩
 unfold atD ixD
 rw [List.length_map,if_pos h0,if_pos h]
 simp only [Option.bind_some]
 rw [List.getElem?_map,List.getElem?_eq_getElem (by omega)];rfl
theorem ztN {zs:List Int}{k:Int}(h0:0<=k)(h:k<zs.length):ixD (zs.map D.int).length k=some k.toNat:=by
 unfold ixD
 rw [List.length_map,if_pos h0,if_pos h]
theorem zpC {zs:List Int}{i:Nat}{v z:Int}(h:z∈zs.set i v):z∈zs\/z=v:=by
 rcases List.mem_or_eq_of_mem_set h with h | h
 ·exact .inl h
 ·exact .inr h
theorem zfG {zs:List Int}{i:Nat}{d:D}(h:(zs.map D.int)[i]?=some d):∃ z,zs[i]?=some z/\d=.int z:=by
 rw [List.getElem?_map] at h
 cases e:zs[i]? with
 | none=>rw [e] at h;cases h
 | some p=>rw [e] at h;cases h;exact⟨p,rfl,rfl⟩
theorem zeZ {cs:List (Int×Int)}{i:Nat}{d:D}(h:(cs.map p2)[i]?=some d):∃ c,cs[i]?=some c/\d=p2 c:=by
 rw [List.getElem?_map] at h
 cases e:cs[i]? with
 | none=>rw [e] at h;cases h
 | some p=>rw [e] at h;cases h;exact⟨p,rfl,rfl⟩
theorem zbo {α:Type}{xs:List α}{i:Nat}{x:α}(h:xs[i]?=some x):i<xs.length:=by
 rcases Nat.lt_or_ge i xs.length with g | g
 ·exact g
 ·rw [List.getElem?_eq_none g] at h;cases h
def zbU:Option Int->D
 | none=>.non
 | some v=>.int v
theorem zsf {S G:Sto}{Q:DK}{xs:List D}(h:fc (.lst xs)=true)(q:New Q S xs):Fin S Q (.ref S.length) (S++Cell.lst xs::G) :=
 .inr ⟨S++[Cell.lst xs],⟨G,by simp⟩,by simp,.inr ⟨_,rfl,by simp⟩,(fun n c hn=>by
  rcases Nat.lt_or_ge n S.length with g | g
  ·rw [List.getElem?_append_left g] at hn;exact .inl hn
  ·have hl2:=zbo hn
   rw [List.length_append] at hl2
   have e:n=S.length:=by simp at hl2;omega
   subst e
   rw [List.getElem?_append_right (Nat.le_refl _),Nat.sub_self] at hn
   have:Cell.lst xs=c:=by simpa using hn
   subst this
   exact .inr h),q⟩
theorem zeo:∀ {xs:List D} {k i:Nat} {d:D},(zcP k xs)[i]?=some d->∃ x,xs[i]?=some x/\d=.tup [.int ((k+i:Nat):Int),x]
 | [],k,i,d,h=>by simp [zcP] at h
 | x::xs,k,0,d,h=>⟨x,rfl,by simpa [zcP] using h.symm⟩
 | x::xs,k,i+1,d,h=>by
  obtain⟨y,e1,e2⟩:=zeo (xs:=xs) (k:=k+1) (i:=i) (d:=d) (by simpa [zcP] using h)
  exact⟨y,by simpa using e1,by rw [e2,show k+1+i=k+(i+1) by omega]⟩
theorem zb8:∀ (k:Nat) (xs:List D),(zcP k xs).length=xs.length
  | _,[]=>rfl
  | k,x::xs=>congrArg (· + 1) (zb8 (k+1) xs)
theorem zf5:∀ {xs ys:List D} {i:Nat} {d:D},(zcc xs ys)[i]?=some d->∃ x y,xs[i]?=some x/\ys[i]?=some y/\d=.tup [x,y]
 | [],ys,i,d,h=>by simp [zcc] at h
 | x::xs,[],i,d,h=>by simp [zcc] at h
 | x::xs,y::ys,0,d,h=>⟨x,y,rfl,rfl,by simpa [zcc] using h.symm⟩
 | x::xs,y::ys,i+1,d,h=>by
  obtain⟨a,b,e1,e2,e3⟩:=zf5 (xs:=xs) (ys:=ys) (i:=i) (d:=d) (by simpa [zcc] using h)
  exact⟨a,b,by simpa using e1,by simpa using e2,e3⟩
theorem zd7:∀ (xs ys:List D),(zcc xs ys).length=min xs.length ys.length
 | [],ys=>by simp [zcc]
 | x::xs,[]=>by simp [zcc]
 | x::xs,y::ys=>by
  show (zcc xs ys).length+1=min (xs.length+1) (ys.length+1)
  rw [zd7 xs ys];omega
theorem Hg.of {n:Nat}{x:Int}(h:My.Bd n x)(hn:n<=1048576):Hg x:=by
 unfold Hg;exact Nat.lt_of_lt_of_le h (Nat.pow_le_pow_right (by decide) hn)
def ze2:DSp:=fun ds S Q=>∃ ns:List Int,ds=[.rl (ns.map D.int)]/\(S=[]/\∀ n∈ns,Hg n)/\ns.length<=63/\∀ S',Q (.bl true) S'
theorem zrI:∀ ds So Q,ze2 ds So Q->ds.length=1:=fun ds So Q ⟨ns,e,_⟩=>by rw [e];rfl
theorem zrY {α β:Type}(f:α->β)(xs:List α)(lo hi:Option Int):cutD (xs.map f) lo hi=(cutD xs lo hi).map f:=by
 unfold cutD
 rw [List.length_map,List.map_take,List.map_drop]
theorem zrg {α:Type}(xs:List α)(lo hi:Option Int):(cutD xs lo hi).length<=slD xs.length xs.length hi-slD xs.length 0 lo:=by
 unfold cutD
 rw [List.length_take];omega
def onI (f:Int->D):D->D
 | .int h=>f h
 | d=>d
section
variable {nx:Rho->Sto->Prop}{rt:DK}{bk ct:Rho->Sto->Prop}{ρ:Rho}{S:Sto}
theorem zrx {f:zdk}{ex:XR}{t:DA}{Q:DK}(h:t ρ S fun xs S1=>f xs S1 Q (ex ρ)):zaP f ex t ρ S Q:=h
theorem zsk {ex:XR}{c:Str}(h:ex ρ c S):zeQ ex c ⟨nx,rt,bk,ct⟩ ρ S:=h
theorem zvG {tbl:List (Str×Bool)}{t:DE}{Q:DK}(h:t ρ S fun x S1=>∃ c b,x=.exn c/\tbl.lookup c=some b/\Q (.bl b) S1):ziD tbl t ρ S Q:=h
theorem zsE {tbl:List (Str×Bool)}{c:Str}{b:Bool}{P:Bool->Prop}(e:tbl.lookup c=some b)(q:P b):∃ c' b',D.exn c=.exn c'/\tbl.lookup c'=some b'/\P b':=⟨c,b,rfl,e,q⟩
theorem zuG {i:Nat}{ok:List Str}{b:XR->DS}{h:DS}(g:b (fun ρ' c S'=>ok.contains c=true/\h ⟨fun ρ2 S2=>nx (ρ2.set i none) S2,rt,fun _ _=>False,fun _ _=>False⟩ (ρ'.set i (some (.exn c))) S') ⟨nx,rt,bk,ct⟩ ρ S):zp4 i ok b h ⟨nx,rt,bk,ct⟩ ρ S:=g
end
theorem zvr {S:Sto}{Q:DK}{x y:D}{xs ys:List D}{b:Bool}(hx:Lst S x xs)(hy:Lst S y ys)(fx:xs.all (fl 20)=true)(fy:ys.all (fl 20)=true)(e:eqvAll xs ys=b)(q:Q (.bl (!b)) S):oNe x y S Q:=⟨_,.inr (.inl ⟨xs,ys,hx,hy,fx,fy,rfl⟩),by rw [e];exact q⟩
theorem zr4 {S:Sto}{Q:DK}{x y:Str}{b:Bool}(fx:fl 20 (.str x)=true)(fy:fl 20 (.str y)=true)(e:(x==y)=b)(q:Q (.bl b) S):oEq (.str x) (.str y) S Q:=⟨_,.inl ⟨fx,fy,rfl⟩,by show Q (.bl (x==y)) S;rw [e];exact q⟩
theorem zii (c:List Str)(z:Str):(zgI c z).length=if c.any (·==z) then c.length else c.length+1:=by
  unfold zgI;split<;>simp
theorem zld (c:List Str)(z y:Str):(zgI c z).any (·==y)=(c.any (·==y)||decide (y=z)):=by
  unfold zgI
  by_cases h:c.any (·==z)=true
  · rw [if_pos h]
    by_cases e:y=z
    · subst e;rw [h];rfl
    · rw [decide_eq_false e,Bool.or_false]
  · rw [if_neg h,List.any_append]
    congr 1
    by_cases e:y=z
    · subst e;simp
    · rw [decide_eq_false e]
      have:(z==y)=false:=beq_eq_false_iff_ne.mpr fun q=>e q.symm
      simp [this]
theorem zjl (f:Nat->Str):∀ i,(zcE f i).length<=i
  | 0=>Nat.le_refl _
  | i+1=>by
    have:=zjl f i
    show (zgI (zcE f i) (f i)).length<=i+1
    rw [zii];split<;>omega
theorem zlq (f:Nat->Str)(y:Str):∀ i,((zcE f i).any (·==y)=true↔∃ j,j<i/\f j=y)
  | 0=>⟨fun h=>(by simp [zcE] at h),fun⟨j,hj,_⟩=>(by omega)⟩
  | i+1=>by
    show ((zgI (zcE f i) (f i)).any (·==y)=true)↔_
    rw [zld,Bool.or_eq_true,zlq f y i,decide_eq_true_eq]
    constructor
    · rintro (⟨j,hj,e⟩ | e)
      · exact⟨j,by omega,e⟩
      · exact⟨i,by omega,e.symm⟩
    · rintro⟨j,hj,e⟩
      rcases Nat.lt_or_ge j i with h | h
      · exact .inl ⟨j,h,e⟩
      · have:j=i:=by omega
        subst this;exact .inr e.symm
theorem zlm (f:Nat->Str):∀ i,(∀ a b,a<b->b<i->f a≠f b)->(zcE f i).length=i
 | 0,_=>rfl
 | i+1,h=>by
  show (zgI (zcE f i) (f i)).length=i+1
  rw [zii,zlm f i fun a b x y=>h a b x (by omega)]
  rw [if_neg]
  intro z
  obtain⟨j,hj,e⟩:=(zlq f (f i) i).mp z
  exact h j i hj (by omega) e
theorem zmU {zs:List Str}(h:zs.Nodup):zqq zs=zs.length:=zlm _ _ fun a b hab hb=>by
 show zs.getD a Str.empty≠zs.getD b Str.empty
 rw [List.getD_eq_getElem?_getD,List.getD_eq_getElem?_getD,List.getElem?_eq_getElem hb,List.getElem?_eq_getElem (show a<zs.length by omega)]
 exact List.pairwise_iff_getElem.mp h a b (by omega) hb hab
end Dp
namespace Rm
structure Pc where
 lo:Int
 hi:Int
 to:Int
 st:Int
instance:DecidableEq Pc:=fun p q=>if h:p.lo=q.lo/\p.hi=q.hi/\p.to=q.to/\p.st=q.st then isTrue (by cases p;cases q;obtain⟨h1,h2,h3,h4⟩:=h;cases h1;cases h2;cases h3;cases h4;rfl) else isFalse (fun e=>h (by subst e;exact⟨rfl,rfl,rfl,rfl⟩))
def Pc.led (p:Pc)(h:Int):Int:=p.to+p.st*(h-p.lo)
def Pc.fin (p:Pc):Int:=p.led p.hi
def inP (p:Pc)(h:Int):Prop:=p.lo<=h/\h<=p.hi
instance (p:Pc) (h:Int):Decidable (inP p h):=by unfold inP;infer_instance
def at':List Pc->Int->Option Int
 | [],_=>none
 | p::r,h=>if inP p h then some (p.led h) else at' r h
end Rm
namespace Rm
end Rm
namespace Rm
end Rm
namespace Dp
open PySem Rm
end Dp
namespace Dp
open PySem Rm My
theorem zhD (cs:List (Int×Int)):fl 20 (.tup (cs.map p2))=true:=by
 show (cs.map p2).all (fl 19)=true
 rw [List.all_map,List.all_eq_true]
 intro p _;rfl
theorem zkA {xs:List D}{x:D}:ixD (xs++[x]).length (-1)=some xs.length:=by
 have hl:((xs++[x]).length:Int)=xs.length+1:=by simp
 unfold ixD
 rw [if_neg (by omega),if_pos (by omega)]
 congr 1;omega
theorem zgf {xs:List D}{x:D}:atD (xs++[x]) (-1)=some x:=by
 unfold atD
 rw [zkA]
 simp
end Dp
namespace Rm
open My Dp
def inS (h:Int)(c:Int×Int):Bool:=decide (c.1<=h)&&decide (h<=c.2)
def lec (c:Int×Int):Bool:=decide (c.1<=c.2)
structure zas (cs:List (Int×Int)):Prop where
 le:∀ c∈cs,c.1<=c.2
 ap:cs.Pairwise fun a b=>a.2+2<=b.1
theorem zeN {h:Int}{c:Int×Int}:inS h c=true↔c.1<=h/\h<=c.2:=by unfold inS;simp
theorem zbF {h:Int}{cs:List (Int×Int)}:cs.any (inS h)=true↔∃ c∈cs,c.1<=h/\h<=c.2:=by
 rw [List.any_eq_true]
 constructor
 ·rintro⟨c,hc,g⟩;exact⟨c,hc,zeN.mp g⟩
 ·rintro⟨c,hc,g⟩;exact⟨c,hc,zeN.mpr g⟩
theorem zas.nil:zas []:=⟨fun c hc=>absurd hc (by simp),.nil⟩
theorem zas.snoc {ms:List (Int×Int)}{c:Int×Int}(s:zas ms)(hc:c.1<=c.2)(h:∀ m∈ms,m.2+2<=c.1):zas (ms++[c]):=by
 refine⟨fun d hd=>?_,List.pairwise_append.mpr ⟨s.ap,List.pairwise_singleton _ _,fun a ha b hb=>?_⟩⟩
 ·rcases List.mem_append.mp hd with g | g
  ·exact s.le d g
  ·have:d=c:=by simpa using g
   subst this;exact hc
 ·have:b=c:=by simpa using hb
  subst this;exact h a ha
theorem zas.init {ms:List (Int×Int)}{c:Int×Int}(s:zas (ms++[c])):zas ms/\c.1<=c.2/\∀ m∈ms,m.2+2<=c.1:=by
 obtain⟨h1,h2,h3⟩:=List.pairwise_append.mp s.ap
 exact⟨⟨fun d hd=>s.le d (List.mem_append_left _ hd),h1⟩,s.le c (by simp),fun m hm=>h3 m hm c (by simp)⟩
theorem zpk {ms:List (Int×Int)}{l c:Int×Int}(s:zas (ms++[l]))(hc:c.1<=c.2)(h1:l.1<=c.1)(h2:c.1<=l.2+1) :
  zas (ms++[(l.1,max l.2 c.2)])/\∀ h,(ms++[(l.1,max l.2 c.2)]).any (inS h)=((ms++[l]).any (inS h)||inS h c):=by
 obtain⟨s0,hl,hm⟩:=s.init
 refine⟨s0.snoc (by show l.1<=max l.2 c.2;omega) hm,fun h=>?_⟩
 rw [List.any_append,List.any_append,Bool.or_assoc]
 congr 1
 rw [Bool.eq_iff_iff,Bool.or_eq_true]
 simp only [List.any_cons,List.any_nil,Bool.or_false,zeN]
 omega
theorem zud {a b:Int×Int}(h:zik b a=false):a.1<=b.1:=by
 unfold zik at h
 rw [decide_eq_false_iff_not] at h
 omega
theorem any_filter (cs:List (Int×Int))(h:Int):(cs.filter fun c=>decide (c.1<=c.2)).any (inS h)=cs.any (inS h):=by
 rw [Bool.eq_iff_iff,zbF,zbF]
 constructor
 ·rintro⟨c,hc,g⟩;exact⟨c,(List.mem_filter.mp hc).1,g⟩
 ·rintro⟨c,hc,g⟩;exact⟨c,List.mem_filter.mpr ⟨hc,decide_eq_true (by omega)⟩,g⟩
theorem zp3 {a b:List (Int×Int)}(p:a.Perm b)(h:Int):a.any (inS h)=b.any (inS h):=by
 rw [Bool.eq_iff_iff,zbF,zbF]
 constructor
 ·rintro⟨c,hc,g⟩;exact⟨c,p.mem_iff.mp hc,g⟩
 ·rintro⟨c,hc,g⟩;exact⟨c,p.mem_iff.mpr hc,g⟩
def zbb (a b:Int×Int):Int×Int:=(max a.1 b.1,min a.2 b.2)
def zaS (as bs:List (Int×Int)):List (Int×Int):=as.flatMap fun a=>bs.map (zbb a)
theorem zmZ (as bs:List (Int×Int))(h:Int):(zaS as bs).any (inS h)=(as.any (inS h)&&bs.any (inS h)):=by
  rw [Bool.eq_iff_iff,Bool.and_eq_true,zbF,zbF,zbF]
  unfold zaS
  constructor
  · rintro⟨c,hc,g1,g2⟩
    obtain⟨a,ha,hm⟩:=List.mem_flatMap.mp hc
    obtain⟨b,hb,rfl⟩:=List.mem_map.mp hm
    unfold zbb at g1 g2
    dsimp only at g1 g2
    refine⟨⟨a,ha,?_⟩,⟨b,hb,?_⟩⟩<;>omega
  · rintro⟨⟨a,ha,g1,g2⟩,⟨b,hb,k1,k2⟩⟩
    refine⟨zbb a b,List.mem_flatMap.mpr ⟨a,ha,List.mem_map.mpr ⟨b,hb,rfl⟩⟩,?_⟩
    unfold zbb
    dsimp only
    constructor<;>omega
theorem zlA {a b:Int×Int}(ha:a.1<=a.2)(hb:b.1<=b.2):(zbb a b).1<=(zbb a b).2↔b.1<=a.2/\a.1<=b.2:=by
 unfold zbb
 dsimp only
 omega
theorem zmo {a:Int×Int}(ha:a.1<=a.2):∀ {bs:List (Int×Int)},zas bs->((bs.map (zbb a)).filter fun c=>decide (c.1<=c.2)).length<=(bs.filter fun b=>decide (b.2<=a.2)).length+1
  | [],_=>by simp
  | b::bs,s=>by
    obtain⟨cb,pb⟩:=List.pairwise_cons.mp s.ap
    have hb:=s.le b (by simp)
    have s':zas bs:=⟨fun x hx=>s.le x (by simp [hx]),pb⟩
    have ih:=zmo ha s'
    rw [List.map_cons]
    by_cases h1:b.2<=a.2
    · rw [List.filter_cons_of_pos (p:=fun b:Int×Int=>decide (b.2<=a.2)) (decide_eq_true h1)]
      have:(((zbb a b)::bs.map (zbb a)).filter fun c=>decide (c.1<=c.2)).length<=((bs.map (zbb a)).filter fun c=>decide (c.1<=c.2)).length+1:=by
        rw [List.filter_cons];split<;>simp
      simp only [List.length_cons]
      omega
    · have none : (bs.map (zbb a)).filter (fun c => decide (c.1 ≤ c.2)) = [] := by
        rw [List.filter_eq_nil_iff]
        intro c hc
        obtain⟨x,hx,rfl⟩:=List.mem_map.mp hc
        have:=cb x hx
        have hx2:=s'.le x hx
        rw [decide_eq_true_eq,zlA ha hx2]
        omega
      rw [List.filter_cons,none]
      split<;>simp
theorem zky:∀ {as bs:List (Int×Int)},zas as->zas bs->((zaS as bs).filter fun c=>decide (c.1<=c.2)).length<=as.length+bs.length
 | [],bs,_,_=>by simp [zaS]
 | a::as,bs,sa,sb=>by
  obtain⟨ca,pa⟩:=List.pairwise_cons.mp sa.ap
  have ha:=sa.le a (by simp)
  have sa':zas as:=⟨fun x hx=>sa.le x (by simp [hx]),pa⟩
  have sb2:zas (bs.filter fun b=>!decide (b.2<=a.2)):=⟨fun x hx=>sb.le x (List.mem_filter.mp hx).1,sb.ap.filter _⟩
  have ih:=zky sa' sb2
  have one:=zmo ha sb
  have same:((zaS as bs).filter fun c=>decide (c.1<=c.2)).length=((zaS as (bs.filter fun b=>!decide (b.2<=a.2))).filter fun c=>decide (c.1<=c.2)).length:=by
   clear ih one
   induction as with
   | nil=>rfl
   | cons d ds ihd =>
    have hd:a.2+2<=d.1:=ca d (by simp)
    have hd2:=sa.le d (by simp)
    unfold zaS at ihd ⊢
    rw [List.flatMap_cons,List.flatMap_cons,List.filter_append,List.filter_append,List.length_append,List.length_append]
    have e1:((bs.map (zbb d)).filter fun c=>decide (c.1<=c.2)).length=(((bs.filter fun b=>!decide (b.2<=a.2)).map (zbb d)).filter fun c=>decide (c.1<=c.2)).length:=by
     have hle:=sb.le
     clear ihd sb sb2
     induction bs with
     | nil=>rfl
     | cons b bs ihb =>
      have ih':=ihb fun x hx=>hle x (by simp [hx])
      have hb:=hle b (by simp)
      by_cases h1:b.2<=a.2
      ·rw [List.filter_cons_of_neg (p:=fun b:Int×Int=>!decide (b.2<=a.2)) (by simp [h1]),List.map_cons,List.filter_cons_of_neg (by rw [decide_eq_true_eq,zlA hd2 hb];omega)]
       exact ih'
      ·rw [List.filter_cons_of_pos (p:=fun b:Int×Int=>!decide (b.2<=a.2)) (by simp [h1]),List.map_cons,List.map_cons,List.filter_cons,List.filter_cons]
       split
       ·simp only [List.length_cons];omega
       ·exact ih'
    have pa2:=List.pairwise_cons.mp (List.pairwise_cons.mp sa.ap).2
    have sd:zas (a::ds):=⟨fun x hx=>by
     rcases List.mem_cons.mp hx with rfl | hx
     ·exact ha
     ·exact sa.le x (by simp [hx]),List.pairwise_cons.mpr ⟨fun x hx=>ca x (by simp [hx]),pa2.2⟩⟩
    have e2:=ihd sd (fun x hx=>ca x (by simp [hx])) pa2.2 ⟨fun x hx=>sd.le x (by simp [hx]),pa2.2⟩
    rw [e1,e2]
  have split2:bs.length=(bs.filter fun b=>decide (b.2<=a.2)).length+(bs.filter fun b=>!decide (b.2<=a.2)).length:=by
   clear ih one same sb sb2
   induction bs with
   | nil=>rfl
   | cons b bs ihb =>
    rw [List.filter_cons,List.filter_cons]
    by_cases h1:b.2<=a.2
    ·simp [h1];omega
    ·simp [h1];omega
  unfold zaS at same ih ⊢
  rw [List.flatMap_cons,List.filter_append,List.length_append,same]
  simp only [List.length_cons]
  omega
end Rm
namespace Dp
open PySem Rm My
def on2 (f:Int×Int->D):D->D
 | .tup [.int a,.int b]=>f (a,b)
 | d=>d
def zsy (p:Int×Int->Bool):D->Bool
 | .tup [.int a,.int b]=>p (a,b)
 | _=>false
theorem zsl (f:Int×Int->D)(cs:List (Int×Int)):(cs.map p2).map (on2 f)=cs.map f:=by rw [List.map_map];rfl
theorem zp9 (p:Int×Int->Bool)(cs:List (Int×Int)):(cs.map p2).filter (zsy p)=(cs.filter p).map p2:=by rw [List.filter_map];rfl
theorem zti {S:Sto}{x:D}{xs:List D}{R:DIt->Sto->Prop}(h:zdI S x xs)(q:∀ ok:Sto->Prop,(∀ T,ok (S++T))->R ⟨xs,ok⟩ S):zhN x S R:=by
 rcases h with rfl | h
 ·exact .inl ⟨xs,rfl,q _ fun _=>True.intro⟩
 ·exact .inr (.inl ⟨xs,h,q _ fun T=>h.old⟩)
theorem zdI.old {S T:Sto}{x:D}{xs:List D}(h:zdI S x xs):zdI (S++T) x xs:=h.imp id Lst.old
theorem zi4 (as bs:List (Int×Int)):(zaS as bs).length=as.length*bs.length:=by
 unfold zaS
 induction as with
 | nil=>simp
 | cons a as ih=>rw [List.flatMap_cons,List.length_append,ih,List.length_map,List.length_cons,Nat.succ_mul,Nat.add_comm]
theorem zlC {as bs:List (Int×Int)}{i:Nat}{a:Int×Int}(h:as[i]?=some a):zaS (as.take (i+1)) bs=zaS (as.take i) bs++bs.map (zbb a):=by
 unfold zaS
 rw [zav h,List.flatMap_append];simp
def zaC:Int->List (Int×Int)->List (Int×Int)×Int
 | st,[]=>([],st)
 | st,c::cs=>((st,c.1-1)::(zaC (c.2+1) cs).1,(zaC (c.2+1) cs).2)
theorem zei:∀ (st:Int) (cs:List (Int×Int)),(zaC st cs).1.length=cs.length
 | _,[]=>rfl
 | st,c::cs=>by show ((zaC (c.2+1) cs).1.length+1)=_;rw [zei];rfl
theorem zgp:∀ (st:Int) (cs:List (Int×Int)) (c:Int×Int),zaC st (cs++[c])=((zaC st cs).1++[((zaC st cs).2,c.1-1)],c.2+1)
 | st,[],c=>rfl
 | st,d::cs,c=>by
  show ((st,d.1-1)::(zaC (d.2+1) (cs++[c])).1,(zaC (d.2+1) (cs++[c])).2)=_
  rw [zgp];rfl
theorem zkN {hi h:Int}(hh:h<=hi):∀ (st:Int) {cs:List (Int×Int)},zas cs->st<=h->(∀ c∈cs,c.2<=h->True)->(((zaC st cs).1++[((zaC st cs).2,hi)]).any (inS h)=true↔¬ ∃ c∈cs,c.1<=h/\h<=c.2)
  | st,[],_,hs,_=>by
    simp [zaC,zeN,hs,hh]
  | st,c::cs,s,hs,_=>by
    obtain⟨cb,pb⟩:=List.pairwise_cons.mp s.ap
    have hc:=s.le c (by simp)
    have s':zas cs:=⟨fun x hx=>s.le x (by simp [hx]),pb⟩
    show (((st,c.1-1)::((zaC (c.2+1) cs).1++[((zaC (c.2+1) cs).2,hi)])).any (inS h)=true↔_)
    rw [List.any_cons,Bool.or_eq_true,zeN]
    rcases (by omega:h<c.1\/(c.1<=h/\h<=c.2)\/c.2<h) with g | g | g
    · constructor
      · rintro-⟨x,hx,k1,k2⟩
        rcases List.mem_cons.mp hx with rfl | hx
        · omega
        · have:=cb x hx;omega
      · intro _
        exact .inl ⟨hs,by show h<=c.1-1;omega⟩
    · constructor
      · intro z
        exfalso
        rcases z with ⟨_,z⟩ | z
        · have:h<=c.1-1:=z
          omega
        · obtain⟨x,hx,k1,k2⟩:=zbF.mp z
          have low:∀ (st:Int) (cs:List (Int×Int)),zas cs->(∀ d∈cs,st<=d.1)->∀ x∈(zaC st cs).1++[((zaC st cs).2,hi)],st<=x.1:=by
            intro st cs
            induction cs generalizing st with
            | nil => intro _ _ x hx; have : x = (st, hi) := by simpa [zaC] using hx
                     subst this;exact Int.le_refl _
            | cons d ds ih =>
              intro sd hd x hx
              obtain⟨c2,p2⟩:=List.pairwise_cons.mp sd.ap
              have hd1:=hd d (by simp)
              have hd2:=sd.le d (by simp)
              have hx:x∈(st,d.1-1)::((zaC (d.2+1) ds).1++[((zaC (d.2+1) ds).2,hi)]):=hx
              rcases List.mem_cons.mp hx with rfl | hx
              · exact Int.le_refl _
              · have:=ih (d.2+1) ⟨fun y hy=>sd.le y (by simp [hy]),p2⟩ (fun y hy=>by have:=c2 y hy;omega) x hx
                omega
          have:=low (c.2+1) cs s' (fun d hd=>by have:=cb d hd;omega) x hx
          omega
      · intro z
        exact absurd ⟨c,by simp,g.1,g.2⟩ z
    · have ih:=zkN hh (c.2+1) s' (by omega) (fun _ _ _=>trivial)
      constructor
      · rintro z ⟨x,hx,k1,k2⟩
        rcases List.mem_cons.mp hx with rfl | hx
        · omega
        · rcases z with ⟨_,z⟩ | z
          · have:h<=c.1-1:=z
            omega
          · exact ih.mp z ⟨x,hx,k1,k2⟩
      · intro z
        exact .inr (ih.mpr fun⟨x,hx,k⟩=>z ⟨x,by simp [hx],k⟩)
end Dp
namespace Rm
open My Dp
def acr (L R B T x1 z1 x2 z2:Int):List Int :=
 [(x2-x1)*(B-z1)-(z2-z1)*(L-x1),(x2-x1)*(T-z1)-(z2-z1)*(L-x1),(x2-x1)*(B-z1)-(z2-z1)*(R-x1),(x2-x1)*(T-z1)-(z2-z1)*(R-x1)]
def zg9 (L R B T x1 z1 x2 z2:Int):Prop :=
 L<=(max x1 x2)/\(min x1 x2)<=R/\B<=(max z1 z2)/\(min z1 z2)<=T/\(∃ a∈acr L R B T x1 z1 x2 z2,0<=a)/\∃ a∈acr L R B T x1 z1 x2 z2,a<=0
def zhK (lo hi st sp e1 e2 x1 x2:Int):Prop :=
 (sp=0/\lo<=st/\st<=hi/\e1=0/\e2=1/\x1=1/\x2=1)\/(sp=0/\(st<lo\/hi<st)/\e1=1/\e2=1/\x1=0/\x2=1) \/
 (0<sp/\e1=lo-st/\e2=sp/\x1=hi-st/\x2=sp)\/(sp<0/\e1=st-hi/\e2=-sp/\x1=st-lo/\x2=-sp)
def zmL (ea1 ea2 xa1 xa2 eu1 eu2 xu1 xu2:Int):Prop:=∀ e∈[((0:Int),(1:Int)),(ea1,ea2),(eu1,eu2)],∀ x∈[((1:Int),(1:Int)),(xa1,xa2),(xu1,xu2)],e.1*x.2<=x.1*e.2
theorem zcv {u a b:Int}(h:0<=u)(h':a<=b):u*a<=u*b:=Int.mul_le_mul_of_nonneg_left h' h
theorem zcD {u a b:Int}(h:u<=0)(h':a<=b):u*b<=u*a:=Int.mul_le_mul_of_nonpos_left h h'
theorem zpL {p r P R:Int}{L x:Int}:(∃ a∈[P-L,R-L,P-x,R-x],p<=a)↔(p<=P-L\/p<=R-L\/p<=P-x\/p<=R-x):=by simp
theorem zoR {p P R:Int}{L x:Int}:(∃ a∈[P-L,R-L,P-x,R-x],a<=p)↔(P-L<=p\/R-L<=p\/P-x<=p\/R-x<=p):=by simp
theorem zoQ {ea1 ea2 xa1 xa2 eu1 eu2 xu1 xu2:Int}:zmL ea1 ea2 xa1 xa2 eu1 eu2 xu1 xu2 ↔
  (0<=xa1/\0<=xu1)/\(ea1<=ea2/\ea1*xa2<=xa1*ea2/\ea1*xu2<=xu1*ea2)/\(eu1<=eu2/\eu1*xa2<=xa1*eu2/\eu1*xu2<=xu1*eu2):=by
 unfold zmL
 simp
theorem zqw {L R B T x1 z1 x2 z2 ea1 ea2 xa1 xa2 eu1 eu2 xu1 xu2:Int}(hx:L<=R)(hz:B<=T)(pa:zhK L R x1 (x2-x1) ea1 ea2 xa1 xa2)(pu:zhK B T z1 (z2-z1) eu1 eu2 xu1 xu2) :
    zmL ea1 ea2 xa1 xa2 eu1 eu2 xu1 xu2↔zg9 L R B T x1 z1 x2 z2:=by
  rw [zoQ]
  unfold zg9 acr
  rw [zpL (r:=0),zoR]
  have mX:(max x1 x2)=x1+(max 0 (x2-x1)):=by omega
  have nX:(min x1 x2)=x1+(min 0 (x2-x1)):=by omega
  have mZ:(max z1 z2)=z1+(max 0 (z2-z1)):=by omega
  have nZ:(min z1 z2)=z1+(min 0 (z2-z1)):=by omega
  rw [mX,nX,mZ,nZ]
  clear mX nX mZ nZ
  generalize x2-x1=u at *
  generalize z2-z1=v at *
  have c1:∀ s t:Int,(s-x1)*t=t*(s-x1):=fun s t=>Int.mul_comm _ _
  have c2:∀ s t:Int,(x1-s)*t=-(t*(s-x1)):=fun s t=>by grind
  have c3:∀ s t:Int,(s-z1)*t=t*(s-z1):=fun s t=>Int.mul_comm _ _
  have c4:∀ s t:Int,(z1-s)*t=-(t*(s-z1)):=fun s t=>by grind
  have n1:∀ s t:Int,-t*(s-x1)=-(t*(s-x1)):=fun s t=>by grind
  have n2:∀ s t:Int,-t*(s-z1)=-(t*(s-z1)):=fun s t=>by grind
  rcases pa with ⟨hu,h1,h2,rfl,rfl,rfl,rfl⟩ | ⟨hu,h1,rfl,rfl,rfl,rfl⟩ | ⟨hu,rfl,rfl,rfl,rfl⟩ | ⟨hu,rfl,rfl,rfl,rfl⟩ <;>
  rcases pu with ⟨hv,g1,g2,rfl,rfl,rfl,rfl⟩ | ⟨hv,g1,rfl,rfl,rfl,rfl⟩ | ⟨hv,rfl,rfl,rfl,rfl⟩ | ⟨hv,rfl,rfl,rfl,rfl⟩ <;>
  simp only [c1,c2,c3,c4,n1,n2,Int.zero_mul,Int.mul_zero,Int.one_mul,Int.mul_one] <;>
  (first
    | (have k1:=zcv (Int.le_of_lt hu) (show B-z1<=T-z1 by omega);have k1':=zcv (Int.le_of_lt hu) (show L-x1<=R-x1 by omega);skip)
    | (have k1:=zcD (Int.le_of_lt hu) (show B-z1<=T-z1 by omega);have k1':=zcD (Int.le_of_lt hu) (show L-x1<=R-x1 by omega);skip)
    | skip) <;>
  (first
    | (have k2:=zcv (Int.le_of_lt hv) (show L-x1<=R-x1 by omega);have k2':=zcv (Int.le_of_lt hv) (show B-z1<=T-z1 by omega);skip)
    | (have k2:=zcD (Int.le_of_lt hv) (show L-x1<=R-x1 by omega);have k2':=zcD (Int.le_of_lt hv) (show B-z1<=T-z1 by omega);skip)
    | skip) <;>
  (first
    | (have k3:=zcv (Int.le_of_lt hu) (show B-z1<=0 by omega);have k3':=zcv (Int.le_of_lt hu) (show 0<=T-z1 by omega);skip)
    | (have k3:=zcD (Int.le_of_lt hu) (show B-z1<=0 by omega);have k3':=zcD (Int.le_of_lt hu) (show 0<=T-z1 by omega);skip)
    | skip) <;>
  (first
    | (have k4:=zcv (Int.le_of_lt hv) (show L-x1<=0 by omega);have k4':=zcv (Int.le_of_lt hv) (show 0<=R-x1 by omega);skip)
    | (have k4:=zcD (Int.le_of_lt hv) (show L-x1<=0 by omega);have k4':=zcD (Int.le_of_lt hv) (show 0<=R-x1 by omega);skip)
    | skip) <;>
  (try simp only [Int.mul_zero] at *) <;>
  (first | (subst hu;subst hv) | subst hu | subst hv | skip) <;>
  (try simp only [Int.zero_mul,Int.mul_zero,Int.one_mul,Int.mul_one,Int.neg_zero]) <;>
  omega
theorem zpc {L R B T x1 z1 x2 z2 mx mn m:Int}(m1:mx∈acr L R B T x1 z1 x2 z2)(m2:∀ a∈acr L R B T x1 z1 x2 z2,a<=mx)(n1:mn∈acr L R B T x1 z1 x2 z2)(n2:∀ a∈acr L R B T x1 z1 x2 z2,mn<=a)
  (h1:m∈[(max x1 x2)-L,R-(min x1 x2),(max z1 z2)-B,T-(min z1 z2),mx,-mn])
  (h2:∀ a∈[(max x1 x2)-L,R-(min x1 x2),(max z1 z2)-B,T-(min z1 z2),mx,-mn],m<=a):0<=m↔zg9 L R B T x1 z1 x2 z2:=by
 unfold zg9
 have e1:(∃ a∈acr L R B T x1 z1 x2 z2,0<=a)↔0<=mx:=⟨fun⟨a,ha,h⟩=>Int.le_trans h (m2 a ha),fun h=>⟨mx,m1,h⟩⟩
 have e2:(∃ a∈acr L R B T x1 z1 x2 z2,a<=0)↔mn<=0:=⟨fun⟨a,ha,h⟩=>Int.le_trans (n2 a ha) h,fun h=>⟨mn,n1,h⟩⟩
 rw [e1,e2]
 generalize (max x1 x2)=q1 at *
 generalize (min x1 x2)=q2 at *
 generalize (max z1 z2)=q3 at *
 generalize (min z1 z2)=q4 at *
 have g1:=h2 (q1-L) (by simp)
 have g2:=h2 (R-q2) (by simp)
 have g3:=h2 (q3-B) (by simp)
 have g4:=h2 (T-q4) (by simp)
 have g5:=h2 mx (by simp)
 have g6:=h2 (-mn) (by simp)
 simp only [List.mem_cons,List.not_mem_nil,or_false] at h1
 omega
theorem zlg (L R B T x1 z1 x2 z2 g s k:Int):acr (L+g*k) (R+g*k) (B+s*k) (T+s*k) x1 z1 x2 z2=(acr L R B T x1 z1 x2 z2).map fun a=>a+k*((x2-x1)*s-(z2-z1)*g):=by
  unfold acr
  simp only [List.map_cons,List.map_nil,List.cons.injEq,and_true]
  refine⟨?_,?_,?_,?_⟩<;>grind
theorem zpd {as:List Int}{m m' d:Int}(h1:m∈as)(h2:∀ a∈as,a<=m)(h3:m'∈as.map fun a=>a+d)(h4:∀ a∈as.map (fun a=>a+d),a<=m'):m'=m+d:=by
 obtain⟨b,hb,rfl⟩:=List.mem_map.mp h3
 have e1:=h2 b hb
 have e2:=h4 (m+d) (List.mem_map.mpr ⟨m,h1,rfl⟩)
 omega
theorem zp2 {as:List Int}{m m' d:Int}(h1:m∈as)(h2:∀ a∈as,m<=a)(h3:m'∈as.map fun a=>a+d)(h4:∀ a∈as.map (fun a=>a+d),m'<=a):m'=m+d:=by
 obtain⟨b,hb,rfl⟩:=List.mem_map.mp h3
 have e1:=h2 b hb
 have e2:=h4 (m+d) (List.mem_map.mpr ⟨m,h1,rfl⟩)
 omega
def six (L R B T x1 z1 x2 z2 mx mn:Int):List Int:=[(max x1 x2)-L,R-(min x1 x2),(max z1 z2)-B,T-(min z1 z2),mx,-mn]
theorem zoO {L R B T x1 z1 x2 z2 g s mx mn mx' mn' k:Int}(m1:mx∈acr (L+g*0) (R+g*0) (B+s*0) (T+s*0) x1 z1 x2 z2)(m2:∀ a∈acr (L+g*0) (R+g*0) (B+s*0) (T+s*0) x1 z1 x2 z2,a<=mx)
    (n1:mn∈acr (L+g*0) (R+g*0) (B+s*0) (T+s*0) x1 z1 x2 z2) (n2:∀ a∈acr (L+g*0) (R+g*0) (B+s*0) (T+s*0) x1 z1 x2 z2,mn<=a)
    (m1':mx'∈acr (L+g*1) (R+g*1) (B+s*1) (T+s*1) x1 z1 x2 z2) (m2':∀ a∈acr (L+g*1) (R+g*1) (B+s*1) (T+s*1) x1 z1 x2 z2,a<=mx')
    (n1':mn'∈acr (L+g*1) (R+g*1) (B+s*1) (T+s*1) x1 z1 x2 z2) (n2':∀ a∈acr (L+g*1) (R+g*1) (B+s*1) (T+s*1) x1 z1 x2 z2,mn'<=a) :
    (∀ i,i<6->0<=(six (L+g*0) (R+g*0) (B+s*0) (T+s*0) x1 z1 x2 z2 mx mn).getD i 0+k*((six (L+g*1) (R+g*1) (B+s*1) (T+s*1) x1 z1 x2 z2 mx' mn').getD i 0-(six (L+g*0) (R+g*0) (B+s*0) (T+s*0) x1 z1 x2 z2 mx mn).getD i 0)) ↔
    zg9 (L+g*k) (R+g*k) (B+s*k) (T+s*k) x1 z1 x2 z2:=by
  rw [zlg] at m1 m2 n1 n2 m1' m2' n1' n2'
  have id0:(acr L R B T x1 z1 x2 z2).map (fun a=>a+0*((x2-x1)*s-(z2-z1)*g))=acr L R B T x1 z1 x2 z2:=by
    simp
  rw [id0] at m1 m2 n1 n2
  rw [show (fun a:Int=>a+1*((x2-x1)*s-(z2-z1)*g))=fun a=>a+((x2-x1)*s-(z2-z1)*g) by funext a;rw [Int.one_mul]] at m1' m2' n1' n2'
  have e1:=zpd m1 m2 m1' m2'
  have e2:=zp2 n1 n2 n1' n2'
  unfold zg9
  rw [zlg]
  generalize (x2-x1)*s-(z2-z1)*g=d at *
  have f1:(∃ a∈(acr L R B T x1 z1 x2 z2).map (fun a=>a+k*d),0<=a)↔0<=mx+k*d:=by
    constructor
    · rintro⟨a,ha,h⟩
      obtain⟨b,hb,rfl⟩:=List.mem_map.mp ha
      have:=m2 b hb
      omega
    · intro h
      exact⟨_,List.mem_map.mpr ⟨mx,m1,rfl⟩,h⟩
  have f2:(∃ a∈(acr L R B T x1 z1 x2 z2).map (fun a=>a+k*d),a<=0)↔mn+k*d<=0:=by
    constructor
    · rintro⟨a,ha,h⟩
      obtain⟨b,hb,rfl⟩:=List.mem_map.mp ha
      have:=n2 b hb
      omega
    · intro h
      exact⟨_,List.mem_map.mpr ⟨mn,n1,rfl⟩,h⟩
  rw [f1,f2]
  subst e1 e2
  unfold six
  generalize (max x1 x2)=q1
  generalize (min x1 x2)=q2
  generalize (max z1 z2)=q3
  generalize (min z1 z2)=q4
  have h0:k*(q1-(L+g*1)-(q1-(L+g*0)))=-(g*k):=by grind
  have h1:k*(R+g*1-q2-(R+g*0-q2))=g*k:=by grind
  have h2:k*(q3-(B+s*1)-(q3-(B+s*0)))=-(s*k):=by grind
  have h3:k*(T+s*1-q4-(T+s*0-q4))=s*k:=by grind
  have h4:k*(mx+d-mx)=k*d:=by grind
  have h5:k*(-(mn+d) - -mn)=-(k*d):=by grind
  constructor
  · intro h
    have a0:=h 0 (by decide)
    have a1:=h 1 (by decide)
    have a2:=h 2 (by decide)
    have a3:=h 3 (by decide)
    have a4:=h 4 (by decide)
    have a5:=h 5 (by decide)
    simp only [List.getD_cons_zero,List.getD_cons_succ] at a0 a1 a2 a3 a4 a5
    rw [h0] at a0
    rw [h1] at a1
    rw [h2] at a2
    rw [h3] at a3
    rw [h4] at a4
    rw [h5] at a5
    refine⟨?_,?_,?_,?_,?_,?_⟩<;>omega
  · rintro⟨a0,a1,a2,a3,a4,a5⟩ i hi
    match i,hi with
    | 0,_=>simp only [List.getD_cons_zero,List.getD_cons_succ];rw [h0];omega
    | 1,_=>simp only [List.getD_cons_zero,List.getD_cons_succ];rw [h1];omega
    | 2,_=>simp only [List.getD_cons_zero,List.getD_cons_succ];rw [h2];omega
    | 3,_=>simp only [List.getD_cons_zero,List.getD_cons_succ];rw [h3];omega
    | 4,_=>simp only [List.getD_cons_zero,List.getD_cons_succ];rw [h4];omega
    | 5,_=>simp only [List.getD_cons_zero,List.getD_cons_succ];rw [h5];omega
theorem zsp {S T k:Int}(h:0<T):-(S/T)<=k↔0<=S+k*T:=by
 have:-k<=S/T↔-k*T<=S:=Int.le_ediv_iff_mul_le h
 rw [Int.neg_mul] at this
 omega
theorem zo5 {S T k:Int}(h:T<0):k<=S / -T↔0<=S+k*T:=by
 have:k<=S / -T↔k * -T<=S:=Int.le_ediv_iff_mul_le (by omega)
 rw [Int.mul_neg] at this
 omega
end Rm
namespace Rm
open My Dp
def Hit (L R B T x1 z1 x2 z2:Int):Prop:=∃ p q:Int,0<q/\0<=p/\p<=q/\L*q<=x1*q+p*(x2-x1)/\x1*q+p*(x2-x1)<=R*q/\B*q<=z1*q+p*(z2-z1)/\z1*q+p*(z2-z1)<=T*q
theorem mulL {k a b:Int}(h:0<=k)(g:a<=b):k*a<=k*b:=Int.mul_le_mul_of_nonneg_left g h
theorem zpv {k a b:Int}(h:0<k)(g:k*a<=k*b):a<=b:=Int.le_of_mul_le_mul_left g h
theorem ftr {a b c d e f:Int}(hb:0<=b)(hf:0<=f)(hd:0<d)(h1:a*d<=c*b)(h2:c*f<=e*d):a*f<=e*b:=by
 refine zpv hd ?_
 have k1:=mulL hf h1
 have k2:=mulL hb h2
 have e1:d*(a*f)=f*(a*d):=by grind
 have e2:f*(c*b)=b*(c*f):=by grind
 have e3:b*(e*d)=d*(e*b):=by grind
 omega
theorem fmax:∀ {l:List (Int×Int)},l≠[]->(∀ e∈l,0<e.2)->∃ e∈l,∀ f∈l,f.1*e.2<=e.1*f.2
 | [],h,_=>absurd rfl h
 | [x],_,_=>⟨x,by simp,fun f hf=>by simp at hf;subst hf;exact Int.le_refl _⟩
 | x::y::l,_,h=>by
  obtain⟨m,hm,g⟩:=fmax (l:=y::l) (by simp) fun e he=>h e (by simp [he])
  have hx:=h x (by simp)
  have hm2:=h m (by simp [hm])
  rcases Int.le_total (x.1*m.2) (m.1*x.2) with c | c
  ·refine⟨m,by simp [hm],fun f hf=>?_⟩
   rcases List.mem_cons.mp hf with rfl | hf
   ·exact c
   ·exact g f hf
  ·refine⟨x,by simp,fun f hf=>?_⟩
   rcases List.mem_cons.mp hf with rfl | hf
   ·exact Int.le_refl _
   ·exact ftr (Int.le_of_lt (h f (by simp [hf]))) (Int.le_of_lt hx) hm2 (g f hf) c
theorem zl9 (lo hi st sp:Int):∃ e1 e2 x1 x2,zhK lo hi st sp e1 e2 x1 x2/\0<e2/\0<x2:=by
 unfold zhK
 rcases Int.lt_trichotomy sp 0 with h | h | h
 ·exact⟨st-hi,-sp,st-lo,-sp,.inr (.inr (.inr ⟨h,rfl,rfl,rfl,rfl⟩)),by omega,by omega⟩
 ·by_cases g:lo<=st/\st<=hi
  ·exact⟨0,1,1,1,.inl ⟨h,g.1,g.2,rfl,rfl,rfl,rfl⟩,by omega,by omega⟩
  ·exact⟨1,1,0,1,.inr (.inl ⟨h,by omega,rfl,rfl,rfl,rfl⟩),by omega,by omega⟩
 ·exact⟨lo-st,sp,hi-st,sp,.inr (.inr (.inl ⟨h,rfl,rfl,rfl,rfl⟩)),h,h⟩
theorem zme {lo hi st sp e1 e2 x1 x2 p q:Int}(P:zhK lo hi st sp e1 e2 x1 x2)(hq:0<q)(h0:0<=p)(h1:p<=q)(h2:e1*q<=p*e2)(h3:p*x2<=x1*q):lo*q<=st*q+p*sp/\st*q+p*sp<=hi*q:=by
 rcases P with ⟨hu,g1,g2,rfl,rfl,rfl,rfl⟩ | ⟨hu,g1,rfl,rfl,rfl,rfl⟩ | ⟨hu,rfl,rfl,rfl,rfl⟩ | ⟨hu,rfl,rfl,rfl,rfl⟩
 ·subst hu
  have k1:=mulL (Int.le_of_lt hq) g1
  have k2:=mulL (Int.le_of_lt hq) g2
  rw [Int.mul_comm q,Int.mul_comm q] at k1 k2
  rw [Int.mul_zero];omega
 ·omega
 ·rw [Int.sub_mul] at h2 h3;omega
 ·rw [Int.sub_mul,Int.mul_neg] at h2 h3;omega
theorem zkC {lo hi st sp e1 e2 x1 x2 p q:Int}(P:zhK lo hi st sp e1 e2 x1 x2)(hq:0<q)(h0:0<=p)(h1:p<=q)(h2:lo*q<=st*q+p*sp)(h3:st*q+p*sp<=hi*q):e1*q<=p*e2/\p*x2<=x1*q:=by
 rcases P with ⟨hu,g1,g2,rfl,rfl,rfl,rfl⟩ | ⟨hu,g1,rfl,rfl,rfl,rfl⟩ | ⟨hu,rfl,rfl,rfl,rfl⟩ | ⟨hu,rfl,rfl,rfl,rfl⟩
 ·omega
 ·subst hu
  rw [Int.mul_zero,Int.add_zero,Int.mul_comm lo,Int.mul_comm st] at h2
  rw [Int.mul_zero,Int.add_zero,Int.mul_comm hi,Int.mul_comm st] at h3
  have k1:=zpv hq h2
  have k2:=zpv hq h3
  omega
 ·rw [Int.sub_mul,Int.sub_mul];omega
 ·rw [Int.sub_mul,Int.sub_mul,Int.mul_neg];omega
theorem zjK {L R B T x1 z1 x2 z2:Int}(hx:L<=R)(hz:B<=T):zg9 L R B T x1 z1 x2 z2↔Hit L R B T x1 z1 x2 z2:=by
  obtain⟨a1,a2,a3,a4,pa,ha2,ha4⟩:=zl9 L R x1 (x2-x1)
  obtain⟨u1,u2,u3,u4,pu,hu2,hu4⟩:=zl9 B T z1 (z2-z1)
  rw [<- zqw hx hz pa pu]
  constructor
  · intro h
    obtain⟨⟨p,q⟩,he,mx⟩:=fmax (l:=[((0:Int),(1:Int)),(a1,a2),(u1,u2)]) (by simp) (by
      intro e he
      simp only [List.mem_cons,List.not_mem_nil,or_false] at he
      rcases he with rfl | rfl | rfl
      · exact Int.one_pos
      · exact ha2
      · exact hu2)
    have hq:0<q:=by
      simp only [List.mem_cons,List.not_mem_nil,or_false,Prod.mk.injEq] at he
      rcases he with he | he | he<;>omega
    have m0:=mx (0,1) (by simp)
    have m1:=mx (a1,a2) (by simp)
    have m2:=mx (u1,u2) (by simp)
    have n0:=h _ he (1,1) (by simp)
    have n1:=h _ he (a3,a4) (by simp)
    have n2:=h _ he (u3,u4) (by simp)
    dsimp only at m0 m1 m2 n0 n1 n2
    have h0:0<=p:=by omega
    have h1:p<=q:=by omega
    obtain⟨k1,k2⟩:=zme pa hq h0 h1 m1 n1
    obtain⟨k3,k4⟩:=zme pu hq h0 h1 m2 n2
    exact⟨p,q,hq,h0,h1,k1,k2,k3,k4⟩
  · rintro⟨p,q,hq,h0,h1,k1,k2,k3,k4⟩
    obtain⟨g1,g2⟩:=zkC pa hq h0 h1 k1 k2
    obtain⟨g3,g4⟩:=zkC pu hq h0 h1 k3 k4
    intro e he x hx
    have ee:0<e.2/\e.1*q<=p*e.2:=by
      simp only [List.mem_cons,List.not_mem_nil,or_false] at he
      rcases he with rfl | rfl | rfl
      · exact⟨Int.one_pos,by omega⟩
      · exact⟨ha2,g1⟩
      · exact⟨hu2,g3⟩
    have xx:0<x.2/\p*x.2<=x.1*q:=by
      simp only [List.mem_cons,List.not_mem_nil,or_false] at hx
      rcases hx with rfl | rfl | rfl
      · exact⟨Int.one_pos,by omega⟩
      · exact⟨ha4,g2⟩
      · exact⟨hu4,g4⟩
    exact ftr (Int.le_of_lt ee.1) (Int.le_of_lt xx.1) hq ee.2 xx.2
end Rm
namespace Dp
open PySem Rm My
structure Fg where
 x0:Int
 x1:Int
 z0:Int
 z1:Int
 f:Int
 l:Int
 g:Int
 s:Int
abbrev fgD (F:Fg):D:=.tup [.int F.x0,.int F.x1,.int F.z0,.int F.z1,.int F.f,.int F.l,.int F.g,.int F.s]
structure FgB (F:Fg):Prop where
 x:F.x0<=F.x1
 z:F.z0<=F.z1
 b0:Bd 600 F.x0
 b1:Bd 600 F.x1
 b2:Bd 600 F.z0
 b3:Bd 600 F.z1
 bg:Bd 200 F.g
 bs:Bd 200 F.s
def zbG (F:Fg)(px pz qx qz h:Int):Prop:=F.f<=h/\h<=F.l/\Hit (F.x0+F.g*(h-F.f)) (F.x1+F.g*(h-F.f)) (F.z0+F.s*(h-F.f)) (F.z1+F.s*(h-F.f)) px pz qx qz
def zqT (ms:List (Int×Int))(F:Fg)(px pz qx qz:Int):Prop:=zas ms/\ms.length<=1/\∀ h,ms.any (inS h)=true↔zbG F px pz qx qz h
theorem zkT {fs:List Fg}{i:Nat}{d:D}(h:(fs.map fgD)[i]?=some d):∃ F,fs[i]?=some F/\d=fgD F:=by
 rw [List.getElem?_map] at h
 cases e:fs[i]? with
 | none=>rw [e] at h;cases h
 | some p=>rw [e] at h;cases h;exact⟨p,rfl,rfl⟩
theorem Bd.btw {n:Nat}{a b x:Int}(ha:Bd n a)(hb:Bd n b)(h1:a<=x)(h2:x<=b):Bd n x:=by
 unfold Bd at *;omega
theorem Bd.max2 {n:Nat}{a b:Int}(ha:Bd n a)(hb:Bd n b):Bd n (max a b):=by
 unfold Bd at *;omega
theorem Bd.min2 {n:Nat}{a b:Int}(ha:Bd n a)(hb:Bd n b):Bd n (min a b):=by
 unfold Bd at *;omega
theorem zo8 {L R B T x1 z1 x2 z2 mx mn:Int}(bL:Bd 700 L)(bR:Bd 700 R)(bB:Bd 700 B)(bT:Bd 700 T)(b1:Bd 700 x1)(b2:Bd 700 z1)(b3:Bd 700 x2)(b4:Bd 700 z2)(m1:mx∈acr L R B T x1 z1 x2 z2)(n1:mn∈acr L R B T x1 z1 x2 z2) :
    ∀ v∈six L R B T x1 z1 x2 z2 mx mn,Bd 1500 v:=by
  have pr:∀ {u v w t:Int},Bd 701 u->Bd 701 v->Bd 701 w->Bd 701 t->Bd 1500 (u*v-w*t):=fun h1 h2 h3 h4=>(Bd.sub (n:=1402) (Bd.mul h1 h2) (Bd.mul h3 h4)).mono (by decide)
  have ba:∀ a∈acr L R B T x1 z1 x2 z2,Bd 1500 a:=by
    intro a ha
    unfold acr at ha
    simp only [List.mem_cons,List.not_mem_nil,or_false] at ha
    rcases ha with rfl | rfl | rfl | rfl<;>exact pr (Bd.sub (by assumption) (by assumption)) (Bd.sub (by assumption) (by assumption)) (Bd.sub (by assumption) (by assumption)) (Bd.sub (by assumption) (by assumption))
  intro v hv
  unfold six at hv
  simp only [List.mem_cons,List.not_mem_nil,or_false] at hv
  rcases hv with rfl | rfl | rfl | rfl | rfl | rfl
  · exact (Bd.sub (Bd.max2 b1 b3) bL).mono (by decide)
  · exact (Bd.sub bR (Bd.min2 b1 b3)).mono (by decide)
  · exact (Bd.sub (Bd.max2 b2 b4) bB).mono (by decide)
  · exact (Bd.sub bT (Bd.min2 b2 b4)).mono (by decide)
  · exact ba _ m1
  · exact (ba _ n1).neg
theorem zpH {ms:List (Int×Int)}{F:Fg}{px pz qx qz lo hi:Int}(B:FgB F)(ok:zas ms)(one:ms.length<=1)(hany:∀ h,ms.any (inS h)=[(F.f+lo,F.f+hi)].any (inS h))
  (hk:∀ k,(lo<=k/\k<=hi)↔(0<=k/\k<=F.l-F.f/\zg9 (F.x0+F.g*k) (F.x1+F.g*k) (F.z0+F.s*k) (F.z1+F.s*k) px pz qx qz)):zqT ms F px pz qx qz:=by
 refine⟨ok,one,fun h=>?_⟩
 rw [hany h]
 have:=hk (h-F.f)
 rw [zjK (by have:=B.x;omega) (by have:=B.z;omega)] at this
 simp only [List.any_cons,List.any_nil,Bool.or_false,zeN]
 unfold zbG
 constructor
 ·rintro⟨a,b⟩
  obtain⟨c1,c2,c3⟩:=this.mp ⟨by omega,by omega⟩
  exact⟨by omega,by omega,c3⟩
 ·rintro⟨a,b,c⟩
  obtain⟨d1,d2⟩:=this.mpr ⟨by omega,by omega,c⟩
  exact⟨by omega,by omega⟩
end Dp
namespace Dp
open PySem Rm My
def flt (a b:Int×Int):Bool:=decide (a.1*b.2<b.1*a.2)
end Dp
namespace Dp
open PySem Rm My
theorem zfb {cs:List (Int×Int)}{k:Int}(h0:0<=k)(h:k<cs.length):∃ c,cs[k.toNat]?=some c/\atD (cs.map p2) k=some (p2 c):=by
 have hk:k.toNat<cs.length:=by omega
 refine⟨cs[k.toNat],List.getElem?_eq_getElem hk,?_⟩
 have:=zem (ds:=cs.map p2) (i:=k.toNat) (d:=p2 (cs[k.toNat])) (by rw [List.getElem?_map,List.getElem?_eq_getElem hk];rfl)
 rwa [show ((k.toNat:Nat):Int)=k by omega] at this
end Dp
namespace Dp
open PySem Rm My
end Dp
namespace Dp
open PySem Rm My
def lenV (ms:List (Int×Int)):Int:=(ms.map fun m=>m.2-m.1).sum
end Dp
namespace Dp
open PySem Rm My
def Sv (c:Int×Int)(t b:Int):Prop:=0<c.2/\c.1*b=t*c.2
def hvT (a b p:Int×Int):Int:=if 0<b.1-a.1 then a.2*(b.1-a.1)*p.2+(b.2-a.2)*(p.1-a.1*p.2) else -(a.2*(b.1-a.1)*p.2+(b.2-a.2)*(p.1-a.1*p.2))
def hvB (a b p:Int×Int):Int:=if 0<b.1-a.1 then (b.1-a.1)*p.2 else -((b.1-a.1)*p.2)
theorem zl1 {a b p:Int×Int}(h:b.1≠a.1)(hp:0<p.2):0<hvB a b p:=by
 unfold hvB
 split
 ·exact Int.mul_pos (by omega) hp
 ·have:=Int.mul_pos (show 0 < -(b.1-a.1) by omega) hp
  rw [Int.neg_mul] at this
  exact this
theorem zur {c d:Int×Int}{t b u e:Int}(hb:0<b)(he:0<e)(hc:Sv c t b)(hd:Sv d u e):flt c d=decide (t*e<u*b):=by
 obtain⟨c0,c1⟩:=hc
 obtain⟨d0,d1⟩:=hd
 unfold flt
 refine decide_eq_decide.mpr ?_
 have hbe:0<b*e:=Int.mul_pos hb he
 have hcd:0<c.2*d.2:=Int.mul_pos c0 d0
 rw [<- Int.mul_lt_mul_right hbe,<- Int.mul_lt_mul_right (b:=t*e) (c:=u*b) hcd]
 have e1:c.1*d.2*(b*e)=t*e*(c.2*d.2):=by
  have:c.1*d.2*(b*e)=c.1*b*(d.2*e):=by grind
  rw [this,c1];grind
 have e2:d.1*c.2*(b*e)=u*b*(c.2*d.2):=by
  have:d.1*c.2*(b*e)=d.1*e*(c.2*b):=by grind
  rw [this,d1];grind
 rw [e1,e2]
structure Grd (cs:List (Int×Int)):Prop where
 two:2<=cs.length
 most:cs.length<=40
 asc:cs.Pairwise fun a b=>a.1<b.1
 bd:∀ c∈cs,Bd 170 c.1/\Bd 190 c.2
def ziu (cs:List (Int×Int)):Int:=(cs.getD 0 (0,0)).1
def zgm (cs:List (Int×Int)):Int:=(cs.getD (cs.length-1) (0,0)).1
def OnG (cs:List (Int×Int))(p:Int×Int):Prop:=ziu cs*p.2<=p.1/\p.1<=zgm cs*p.2
def zfW:List (Int×Int)->Int×Int->Option ((Int×Int)×(Int×Int))
 | a::b::r,p=>if p.1<=b.1*p.2 then some (a,b) else zfW (b::r) p
 | _,_=>none
theorem seg_at:∀ {cs:List (Int×Int)} {p:Int×Int} {k:Nat} {a b:Int×Int},cs[k]?=some a->cs[k+1]?=some b->p.1<=b.1*p.2->(∀ j c,1<=j->j<=k->cs[j]?=some c->c.1*p.2<p.1)->zfW cs p=some (a,b)
 | [],p,k,a,b,h,_,_,_=>by simp at h
 | [x],p,0,a,b,_,h,_,_=>by simp at h
 | [x],p,k+1,a,b,h,_,_,_=>by simp at h
 | x::y::r,p,0,a,b,h1,h2,h3,_=>by
  simp at h1 h2
  subst h1 h2
  unfold zfW
  rw [if_pos h3]
 | x::y::r,p,k+1,a,b,h1,h2,h3,h4=>by
  have:=h4 1 y (by omega) (by omega) rfl
  unfold zfW
  rw [if_neg (by omega)]
  exact seg_at (by simpa using h1) (by simpa using h2) h3 fun j c j1 j2 hc=>h4 (j+1) c (by omega) (by omega) (by simpa using hc)
theorem ziO:∀ {cs:List (Int×Int)} {p:Int×Int},2<=cs.length->p.1<=zgm cs*p.2->∃ k a b,cs[k]?=some a/\cs[k+1]?=some b/\p.1<=b.1*p.2/\∀ j c,1<=j->j<=k->cs[j]?=some c->c.1*p.2<p.1
 | [],p,h,_=>by simp at h
 | [x],p,h,_=>by simp at h
 | [x,y],p,_,h=>⟨0,x,y,rfl,rfl,h,fun j c j1 j2=>by omega⟩
 | x::y::z::r,p,_,h=>by
  by_cases g:p.1<=y.1*p.2
  ·exact⟨0,x,y,rfl,rfl,g,fun j c j1 j2=>by omega⟩
  ·obtain⟨k,a,b,h1,h2,h3,h4⟩:=ziO (cs:=y::z::r) (p:=p) (by simp) h
   refine⟨k+1,a,b,by simpa using h1,by simpa using h2,h3,fun j c j1 j2 hc=>?_⟩
   cases j with
   | zero=>omega
   | succ j =>
    cases j with
    | zero=>simp at hc;subst hc;omega
    | succ j=>exact h4 (j+1) c (by omega) (by omega) (by simpa using hc)
theorem zda {cs:List (Int×Int)}(g:Grd cs){i j:Nat}{a b:Int×Int}(hij:i<j)(ha:cs[i]?=some a)(hb:cs[j]?=some b):a.1<b.1:=by
 have h1:=zbo ha
 have h2:=zbo hb
 rw [List.getElem?_eq_getElem h1] at ha
 rw [List.getElem?_eq_getElem h2] at hb
 cases ha;cases hb
 exact List.pairwise_iff_getElem.mp g.asc i j h1 h2 hij
theorem zdB {cs:List (Int×Int)}(g:Grd cs):∃ a,cs[0]?=some a/\ziu cs=a.1:=by
 have:=g.two
 obtain⟨a,h⟩:∃ a,cs[0]?=some a:=⟨cs[0],List.getElem?_eq_getElem (by omega)⟩
 exact⟨a,h,by unfold ziu;rw [List.getD_eq_getElem?_getD,h];rfl⟩
theorem zid {cs:List (Int×Int)}(g:Grd cs):∃ a,cs[cs.length-1]?=some a/\zgm cs=a.1:=by
 have:=g.two
 obtain⟨a,h⟩:∃ a,cs[cs.length-1]?=some a:=⟨cs[cs.length-1],List.getElem?_eq_getElem (by omega)⟩
 exact⟨a,h,by unfold zgm;rw [List.getD_eq_getElem?_getD,h];rfl⟩
def GAt (S:Sto)(g:D)(cs:List (Int×Int)):Prop:=∃ n l,g=.ref n/\S[n]?=some (.ins "Ground" [("corners",.ref l)])/\S[l]?=some (.lst (cs.map p2))
theorem GAt.old {S T:Sto}{g:D}{cs:List (Int×Int)}(h:GAt S g cs):GAt (S++T) g cs:=let ⟨n,l,e,h1,h2⟩:=h;⟨n,l,e,zaU h1,zaU h2⟩
theorem zvn {S:Sto}{P:D->Prop}{n l:Nat}(h:S[n]?=some (.ins "Ground" [("corners",.ref l)]))(q:P (.ref l)):∃ m c fs d,D.ref n=.ref m/\S[m]?=some (.ins c fs)/\fs.lookup ("corners":Str)=some d/\P d:=⟨n,_,_,_,rfl,h,by simp [List.lookup_cons],q⟩
def sdO (a b c:Int×Int):Int:=(c.2-a.2)*(b.1-a.1)-(c.1-a.1)*(b.2-a.2)
def sdI (a b c:Int×Int):Int:=if 0<(if b.1-a.1<0 then -sdO a b c else sdO a b c) then 1 else if (if b.1-a.1<0 then -sdO a b c else sdO a b c)<0 then -1 else 0
def Std (cs:List (Int×Int))(s:Int×Int):Prop:=Bd 180 s.1/\Bd 200 s.2/\OnG cs (s.1,1)/\∀ a b,zfW cs (s.1,1)=some (a,b)->hvT a b (s.1,1)<=s.2*hvB a b (s.1,1)
theorem zpZ {cs:List (Int×Int)}(gr:Grd cs):∃ z,cs[cs.length-1]?=some z/\zgm cs=z.1/\atD (cs.map p2) (-1)=some (p2 z):=by
 have g1:=gr.two
 obtain⟨z,hz,ez⟩:=zid gr
 refine⟨z,hz,ez,?_⟩
 have hne:cs≠[]:=fun e=>by rw [e] at g1;simp at g1
 have en:cs=cs.dropLast++[z]:=by
  have h2:=List.dropLast_concat_getLast hne
  have h3:cs.getLast hne=z:=by
   rw [List.getLast_eq_getElem]
   have hl':=zbo hz
   rw [List.getElem?_eq_getElem hl'] at hz
   cases hz;rfl
  rw [h3] at h2
  exact h2.symm
 rw [en,List.map_append];exact zgf
theorem zsC {cs:List (Int×Int)}(gr:Grd cs){c:Int×Int}(h:c∈cs):ziu cs<=c.1/\c.1<=zgm cs:=by
 obtain⟨a,ha,ea⟩:=zdB gr
 obtain⟨z,hz,ez⟩:=zid gr
 obtain⟨i,hi,e⟩:=List.mem_iff_getElem.mp h
 have hc:cs[i]?=some c:=by rw [List.getElem?_eq_getElem hi,e]
 rw [ea,ez]
 constructor
 ·cases i with
  | zero=>rw [ha] at hc;cases hc;exact Int.le_refl _
  | succ i=>exact Int.le_of_lt (zda gr (by omega) ha hc)
 ·rcases Nat.lt_or_ge i (cs.length-1) with g | g
  ·exact Int.le_of_lt (zda gr g hc hz)
  ·have:i=cs.length-1:=by omega
   subst this
   rw [hz] at hc;cases hc;exact Int.le_refl _
end Dp
namespace Dp
open PySem Rm My
structure Brk (cs:List (Int×Int))(p a b:Int×Int):Prop where
 ma:a∈cs
 mb:b∈cs
 lt:a.1<b.1
 lo:a.1*p.2<=p.1
 hi:p.1<=b.1*p.2
 no:∀ c∈cs,¬ (a.1<c.1/\c.1<b.1)
theorem zms {cs:List (Int×Int)}(gr:Grd cs){p:Int×Int}(on:OnG cs p):∃ a b,zfW cs p=some (a,b)/\Brk cs p a b:=by
 obtain⟨k,a,b,ha,hb,hle,hlt⟩:=ziO gr.two on.2
 refine⟨a,b,seg_at ha hb hle hlt,List.mem_of_getElem? ha,List.mem_of_getElem? hb,zda gr (by omega) ha hb,?_,hle,fun c hc h=>?_⟩
 ·cases k with
  | zero =>
   obtain⟨f,hf,ef⟩:=zdB gr
   rw [ha] at hf
   cases hf
   have:=on.1
   rw [ef] at this
   exact this
  | succ k=>exact Int.le_of_lt (hlt (k+1) a (by omega) (by omega) ha)
 ·obtain⟨j,hj⟩:=List.mem_iff_getElem?.mp hc
  rcases Nat.lt_trichotomy j k with g | g | g
  ·have:=zda gr g hj ha;omega
  ·subst g;rw [ha] at hj;cases hj;omega
  ·rcases Nat.lt_or_ge (k+1) j with g2 | g2
   ·have:=zda gr g2 hb hj;omega
   ·have:j=k+1:=by omega
    subst this;rw [hb] at hj;cases hj;omega
theorem zvO {own:Nat}{fv:List Nat}{xs:List D}{ok:Sto->Prop}{g:DG}{tc:DT}{te:DE}{ρ:Rho}{S:Sto}{Q:DK}(W:Nat->List D->Sto->Prop)(h0:W 0 [] S)(hok:∀ i ys S,W i ys S->ok S)(hbig:xs.length<=big)
  (step:∀ i d ys S,xs[i]?=some d->W i ys S->g d (zix own fv ρ) S fun ρ2 S2=>tc ρ2 S2 fun b S3=>if b=true then te ρ2 S3 fun y S4=>W (i+1) (ys++[y]) S4 else W (i+1) ys S3)
  (fin:∀ ys S,W xs.length ys S->New Q S ys):znl own fv g tc te ρ Q ⟨xs,ok⟩ S:=⟨hbig,W,h0,hok,step,fin⟩
end Dp
namespace Dp
open PySem Rm My
end Dp
namespace Dp
open PySem Rm My
def zdv (cs:List (Int×Int))(s:Int×Int):Prop:=OnG cs (s.1,1)/\∀ a b,zfW cs (s.1,1)=some (a,b)->hvT a b (s.1,1)<=s.2*hvB a b (s.1,1)
def zeh (t b:Int):Int:=-(-t/b)
theorem zq7 {t b:Int}(hb:0<b):t<=zeh t b*b/\(zeh t b-1)*b<t:=by
 unfold zeh
 have h1:=Int.ediv_mul_le (-t) (b:=b) (by omega)
 have h2:=Int.lt_ediv_add_one_mul_self (-t) hb
 rw [Int.neg_mul,Int.sub_mul,Int.neg_mul,Int.one_mul]
 rw [Int.add_mul,Int.one_mul] at h2
 omega
theorem zrh {t b z:Int}(hb:0<b):zeh t b<=z↔t<=z*b:=by
 obtain⟨h1,h2⟩:=zq7 (t:=t) hb
 constructor
 ·intro h
  exact Int.le_trans h1 (Int.mul_le_mul_of_nonneg_right h (Int.le_of_lt hb))
 ·intro h
  rcases Int.lt_or_le z (zeh t b) with g | g
  ·have:=Int.mul_le_mul_of_nonneg_right (show z<=zeh t b-1 by omega) (Int.le_of_lt hb)
   omega
  ·exact g
theorem zmh {cs:List (Int×Int)}(gr:Grd cs){p r:Int×Int}{xx:Int}(bk:Brk cs (xx,1) p r):0<hvB p r (xx,1)/\Bd 171 (hvB p r (xx,1))/\Bd 400 (hvT p r (xx,1))/\Bd 192 (zeh (hvT p r (xx,1)) (hvB p r (xx,1))):=by
 have hpr:=bk.lt
 have hB:0<hvB p r (xx,1):=zl1 (by omega) (show (0:Int)<1 by decide)
 obtain⟨bp1,bp2⟩:=gr.bd p bk.ma
 obtain⟨br1,br2⟩:=gr.bd r bk.mb
 have h1':p.1<=xx:=by have:p.1*1<=xx:=bk.lo;omega
 have h2':xx<=r.1:=by have:xx<=r.1*1:=bk.hi;omega
 have bx:Bd 171 xx:=(Bd.btw (n:=170) bp1 br1 h1' h2').mono (by decide)
 have bT:Bd 400 (hvT p r (xx,1)):=by
  have r1:Bd 171 (r.1-p.1):=Bd.sub br1 bp1
  have r2:Bd 191 (r.2-p.2):=Bd.sub br2 bp2
  have m1:Bd 361 (p.2*(r.1-p.1)):=Bd.mul bp2 r1
  have m2:Bd 172 (xx-p.1):=Bd.sub bx (bp1.mono (by decide))
  have m3:Bd 363 ((r.2-p.2)*(xx-p.1)):=Bd.mul r2 m2
  unfold hvT
  rw [if_pos (by omega)]
  dsimp only
  rw [Int.mul_one,Int.mul_one]
  exact (Bd.add (n:=363) (m1.mono (by decide)) m3).mono (by decide)
 have bB:Bd 171 (hvB p r (xx,1)):=by
  unfold hvB
  rw [if_pos (by omega)]
  dsimp only
  rw [Int.mul_one]
  exact Bd.sub br1 bp1
 refine⟨hB,bB,bT,?_⟩
 have eT:hvT p r (xx,1)=p.2*(r.1-xx)+r.2*(xx-p.1):=by
  unfold hvT
  rw [if_pos (by omega)]
  dsimp only
  grind
 have eB:hvB p r (xx,1)=(r.1-xx)+(xx-p.1):=by
  unfold hvB
  rw [if_pos (by omega)]
  dsimp only
  omega
 have lo:-(2 ^ 190)*hvB p r (xx,1)<=hvT p r (xx,1):=by
  rw [eT,eB]
  have k1:=Int.mul_le_mul_of_nonneg_right (show -(2 ^ 190:Int)<=p.2 by unfold Bd at bp2;omega) (show 0<=r.1-xx by omega)
  have k2:=Int.mul_le_mul_of_nonneg_right (show -(2 ^ 190:Int)<=r.2 by unfold Bd at br2;omega) (show 0<=xx-p.1 by omega)
  rw [Int.mul_add]
  omega
 have hi:hvT p r (xx,1)<=2 ^ 190*hvB p r (xx,1):=by
  rw [eT,eB]
  have k1:=Int.mul_le_mul_of_nonneg_right (show p.2<=(2 ^ 190:Int) by unfold Bd at bp2;omega) (show 0<=r.1-xx by omega)
  have k2:=Int.mul_le_mul_of_nonneg_right (show r.2<=(2 ^ 190:Int) by unfold Bd at br2;omega) (show 0<=xx-p.1 by omega)
  rw [Int.mul_add]
  omega
 have d1:-(2 ^ 190)<=-hvT p r (xx,1)/hvB p r (xx,1):=(Int.le_ediv_iff_mul_le hB).mpr (by rw [Int.neg_mul];omega)
 have d2:-hvT p r (xx,1)/hvB p r (xx,1)<=2 ^ 190:=Int.ediv_le_of_le_mul hB (by
  have:=lo
  rw [Int.neg_mul] at this
  omega)
 unfold zeh
 show _<2 ^ 192
 omega
def zdf (cs:List (Int×Int))(x:Int):Int:=match zfW cs (x,1) with
 | some (a,b)=>zeh (hvT a b (x,1)) (hvB a b (x,1))
 | none=>0
theorem zqc {cs:List (Int×Int)}(gr:Grd cs){s:Int×Int}(on:OnG cs (s.1,1)):zdv cs s↔zdf cs s.1<=s.2:=by
 obtain⟨a,b,seg,bk⟩:=zms gr on
 have hB:=(zmh gr bk).1
 unfold zdf
 rw [seg]
 dsimp only
 rw [zrh hB]
 constructor
 ·intro h;exact h.2 a b seg
 ·intro h
  refine⟨on,fun a' b' seg'=>?_⟩
  rw [seg] at seg';cases seg';exact h
theorem zpO {cs:List (Int×Int)}(gr:Grd cs){x:Int}(on:OnG cs (x,1)):Bd 192 (zdf cs x):=by
 obtain⟨a,b,seg,bk⟩:=zms gr on
 unfold zdf
 rw [seg]
 exact (zmh gr bk).2.2.2
theorem Std.of {cs:List (Int×Int)}{s:Int×Int}(b1:Bd 180 s.1)(b2:Bd 200 s.2)(h:zdv cs s):Std cs s:=⟨b1,b2,h.1,h.2⟩
def nbP (cs:List (Int×Int))(x y:Int)(k:Nat):Bool:=decide (min x y<(cs.getD k (0,0)).1)&&decide ((cs.getD k (0,0)).1<max x y)
def nbK (cs:List (Int×Int))(x y:Int)(n:Nat):List Int:=((List.range n).filter (nbP cs x y)).map fun k:Nat=>(k:Int)
theorem zvi {cs:List (Int×Int)}{x y:Int}{i:Nat}(h:nbP cs x y i=true):(nbK cs x y (i+1)).map D.int=(nbK cs x y i).map D.int++[.int (i:Int)]:=by
 unfold nbK
 rw [List.range_succ,List.filter_append,List.filter_cons_of_pos h]
 simp
theorem zqI {cs:List (Int×Int)}{x y:Int}{i:Nat}(h:nbP cs x y i=false):nbK cs x y (i+1)=nbK cs x y i:=by
 unfold nbK
 rw [List.range_succ,List.filter_append,List.filter_cons_of_neg (by rw [h];exact Bool.false_ne_true)]
 simp
def znc (cs:List (Int×Int))(a b:Int×Int)(k:Int):Bool:=decide (0<sdI a b (cs.getD k.toNat (0,0)))
def zjv (cs:List (Int×Int))(a b:Int×Int):Option Int:=(nbK cs a.1 b.1 cs.length).find? (znc cs a b)
theorem zml {p:Int->Bool}:∀ {ks:List Int} {i:Nat} {k:Int},ks[i]?=some k->(∀ x∈ks.take i,p x=false)->p k=true->ks.find? p=some k
 | [],i,k,h,_,_=>by simp at h
 | x::ks,0,k,h,_,hp=>by
  have e:x=k:=by simpa using h
  rw [List.find?_cons,e,hp]
 | x::ks,i+1,k,h,hn,hp=>by
  rw [List.find?_cons,hn x (by simp)]
  exact zml (by simpa using h) (fun y hy=>hn y (by rw [List.take_succ_cons];exact List.mem_cons_of_mem _ hy)) hp
theorem zq8 {p:Int->Bool}{ks:List Int}(hn:∀ x∈ks,p x=false):ks.find? p=none:=List.find?_eq_none.mpr fun x hx=>by rw [hn x hx];exact Bool.false_ne_true
theorem zts {cs:List (Int×Int)}{x y k:Int}{n:Nat}(h:k∈nbK cs x y n):0<=k/\k<n:=by
 unfold nbK at h
 obtain⟨j,hj,rfl⟩:=List.mem_map.mp h
 have:=List.mem_range.mp (List.mem_filter.mp hj).1
 omega
end Dp
namespace Dp
open PySem Rm My
end Dp
namespace Dp
open PySem Rm My
section
variable {g:Int}{p q r s d t u v:Int×Int}
end
end Dp
namespace Dp
open PySem Rm My
end Dp
namespace Dp
open PySem Rm My
section
variable {cs:List (Int×Int)}{a b:Int×Int}{rp:List (Int×Int)}
end
end Dp
namespace Dp
open PySem Rm My
section
variable {w h t m:Int}{cs:List (Int×Int)}
end
end Dp
namespace Dp
open PySem Rm My
abbrev bcD (b:Str×(Int×Int)):D:=.tup [.str b.1,.int b.2.1,.int b.2.2]
def abc:List Nat:=List.range' 97 26
theorem zsN:("abcdefghijklmnopqrstuvwxyz":Str).cps.toList=abc:=by decide +kernel
theorem zhR {c:Nat}:c∈abc↔97<=c/\c<=122:=by unfold abc;rw [List.mem_range'_1];omega
def nmB (z:Str):Bool:=decide (1<=z.length)&&(decide (z.length<=8)&&z.cps.toList.all fun c=>decide (c∈abc))
theorem zhQ {z:Str}:nmB z=true↔1<=z.length/\z.length<=8/\∀ c∈z.cps.toList,c∈abc:=by
 unfold nmB
 rw [Bool.and_eq_true,Bool.and_eq_true,decide_eq_true_eq,decide_eq_true_eq,List.all_eq_true]
 simp only [decide_eq_true_eq]
theorem zi0 {z:Str}(h:nmB z=true)(k:Nat):fl k (.str z)=true:=by
  have h3:=(zhQ.mp h).2.2
  have:z.cps.all (· < 0x110000)=true:=by
    rw [Array.all_eq_true']
    intro x hx
    have:=zhR.mp (h3 x (Array.mem_toList_iff.mpr hx))
    simp;omega
  cases k<;>exact this
theorem zqF {b:Str×(Int×Int)}(h:nmB b.1=true):fl 20 (bcD b)=true:=by
 show (fl 19 (.str b.1)&&true)=true
 rw [Bool.and_true];exact zi0 h 19
def nmW (a h c b t:Nat):Str:=⟨(List.replicate h a++c::List.replicate t b).toArray⟩
theorem zrz (a h c b t:Nat):(nmW a h c b t).length=h+1+t:=by
 show (List.replicate h a++c::List.replicate t b).toArray.size=_
 simp;omega
theorem zum {a h c b t:Nat}(ha:a∈abc)(hb:b∈abc)(hc:c∈abc)(h3:h<=3)(h4:t<=4):nmB (nmW a h c b t)=true:=by
 rw [zhQ,zrz]
 refine⟨by omega,by omega,fun x hx=>?_⟩
 have hx':x∈List.replicate h a++c::List.replicate t b:=by simpa [nmW] using hx
 rcases List.mem_append.mp hx' with z | z
 ·rw [List.eq_of_mem_replicate z];exact ha
 ·rcases List.mem_cons.mp z with z | z
  ·rw [z];exact hc
  ·rw [List.eq_of_mem_replicate z];exact hb
theorem zsh {a h c d b t:Nat}(e:nmW a h c b t=nmW a h d b t):c=d:=by
 have:List.replicate h a++c::List.replicate t b=List.replicate h a++d::List.replicate t b:=by
  have:=congrArg (fun z:Str=>z.cps.toList) e
  simpa [nmW] using this
 have:=List.append_cancel_left this
 simpa using this
theorem zmf (x y:List Nat):(⟨x.toArray⟩:Str)++(⟨y.toArray⟩:Str)=⟨(x++y).toArray⟩:=by
 show (⟨x.toArray++y.toArray⟩:Str)=_
 simp
theorem zlr (c:Nat)(n:Int)(h:0<=n):znC ⟨#[c]⟩ n=⟨(List.replicate n.toNat c).toArray⟩:=by
  unfold znC
  split
  · have:n.toNat=0:=by omega
    rw [this];rfl
  · split
    · rename_i g g2
      have:n=1:=by
        rcases Bool.or_eq_true .. |>.mp g2 with z | z
        · exact eq_of_beq z
        · exact absurd (show ((1:Nat)==0)=true from z) (by decide)
      subst this;rfl
    · have : ∀ (m : Nat) (acc : Array Nat), (List.replicate m #[c]).foldl (· ++ ·) acc = acc ++ (List.replicate m c).toArray := by
        intro m
        induction m with
        | zero=>intro acc;simp
        | succ m ih =>
          intro acc
          rw [List.replicate_succ,List.foldl_cons,ih,List.replicate_succ]
          apply Array.toList_inj.mp
          simp
      show (⟨(List.replicate n.toNat #[c]).foldl (·++·) #[]⟩:Str)=_
      rw [this];simp
structure Vl where
 cs:List (Int×Int)
 bs:List (Str×(Int×Int))
 fs:List Fg
 hz:Option Int
 h0:Int
 h1:Int
 dl:Int
structure FgV (F:Fg):Prop where
 b:FgB F
 o:F.f<=F.l
 f:Bd 300 F.f
 l:Bd 300 F.l
structure zdQ (V:Vl):Prop where
 gr:Grd V.cs
 b1:1<=V.bs.length
 b12:V.bs.length<=12
 nm:∀ b∈V.bs,nmB b.1=true
 nd:(V.bs.map (·.1)).Nodup
 st:∀ b∈V.bs,zdv V.cs b.2
 bd:∀ b∈V.bs,Bd 180 b.2.1/\Bd 200 b.2.2
 f12:V.fs.length<=12
 fg:∀ F∈V.fs,FgV F
 hz:∀ z,V.hz=some z->0<=z
 hh:V.h0<=V.h1
 b0:Bd 250 V.h0
 bl:Bd 250 V.h1
 dl:0<=V.dl
abbrev vF (g b f h a l d:D):List (Str×D):=[("ground",g),("beacons",b),("fogs",f),("haze",h),("first",a),("last",l),("delay",d)]
def VAt (S:Sto)(v:D)(V:Vl):Prop:=∃ n g b f,v=.ref n/\S[n]?=some (.ins "Valley" (vF (.ref g) (.ref b) (.ref f) (zbU V.hz) (.int V.h0) (.int V.h1) (.int V.dl)))/\GAt S (.ref g) V.cs/\S[b]?=some (.lst (V.bs.map bcD))/\S[f]?=some (.lst (V.fs.map fgD))
theorem VAt.old {S T:Sto}{v:D}{V:Vl}(h:VAt S v V):VAt (S++T) v V:=let ⟨n,g,b,f,e,h1,h2,h3,h4⟩:=h;⟨n,g,b,f,e,zaU h1,h2.old,zaU h3,zaU h4⟩
section
variable {S:Sto}{P:D->Prop}{n:Nat}{g b f h a l d:D}
theorem zpV (k:S[n]?=some (.ins "Valley" (vF g b f h a l d)))(q:P g):∃ m c fs x,D.ref n=.ref m/\S[m]?=some (.ins c fs)/\fs.lookup ("ground":Str)=some x/\P x:=⟨n,_,_,g,rfl,k,by simp [List.lookup_cons],q⟩
theorem zof (k:S[n]?=some (.ins "Valley" (vF g b f h a l d)))(q:P b):∃ m c fs x,D.ref n=.ref m/\S[m]?=some (.ins c fs)/\fs.lookup ("beacons":Str)=some x/\P x:=⟨n,_,_,b,rfl,k,by rw [List.lookup_cons,show ((("beacons":Str)=="ground")=false) by decide +kernel];simp [List.lookup_cons],q⟩
theorem ztZ (k:S[n]?=some (.ins "Valley" (vF g b f h a l d)))(q:P f):∃ m c fs x,D.ref n=.ref m/\S[m]?=some (.ins c fs)/\fs.lookup ("fogs":Str)=some x/\P x:=⟨n,_,_,f,rfl,k,by rw [List.lookup_cons,show ((("fogs":Str)=="ground")=false) by decide +kernel];dsimp only;rw [List.lookup_cons,show ((("fogs":Str)=="beacons")=false) by decide +kernel];simp [List.lookup_cons],q⟩
theorem ztw (k:S[n]?=some (.ins "Valley" (vF g b f h a l d)))(q:P h):∃ m c fs x,D.ref n=.ref m/\S[m]?=some (.ins c fs)/\fs.lookup ("haze":Str)=some x/\P x:=⟨n,_,_,h,rfl,k,by rw [List.lookup_cons,show ((("haze":Str)=="ground")=false) by decide +kernel];dsimp only;rw [List.lookup_cons,show ((("haze":Str)=="beacons")=false) by decide +kernel];dsimp only;rw [List.lookup_cons,show ((("haze":Str)=="fogs")=false) by decide +kernel];simp [List.lookup_cons],q⟩
theorem zrF (k:S[n]?=some (.ins "Valley" (vF g b f h a l d)))(q:P a):∃ m c fs x,D.ref n=.ref m/\S[m]?=some (.ins c fs)/\fs.lookup ("first":Str)=some x/\P x:=⟨n,_,_,a,rfl,k,by rw [List.lookup_cons,show ((("first":Str)=="ground")=false) by decide +kernel];dsimp only;rw [List.lookup_cons,show ((("first":Str)=="beacons")=false) by decide +kernel];dsimp only;rw [List.lookup_cons,show ((("first":Str)=="fogs")=false) by decide +kernel];dsimp only;rw [List.lookup_cons,show ((("first":Str)=="haze")=false) by decide +kernel];simp [List.lookup_cons],q⟩
theorem ztf (k:S[n]?=some (.ins "Valley" (vF g b f h a l d)))(q:P l):∃ m c fs x,D.ref n=.ref m/\S[m]?=some (.ins c fs)/\fs.lookup ("last":Str)=some x/\P x:=⟨n,_,_,l,rfl,k,by rw [List.lookup_cons,show ((("last":Str)=="ground")=false) by decide +kernel];dsimp only;rw [List.lookup_cons,show ((("last":Str)=="beacons")=false) by decide +kernel];dsimp only;rw [List.lookup_cons,show ((("last":Str)=="fogs")=false) by decide +kernel];dsimp only;rw [List.lookup_cons,show ((("last":Str)=="haze")=false) by decide +kernel];dsimp only;rw [List.lookup_cons,show ((("last":Str)=="first")=false) by decide +kernel];simp [List.lookup_cons],q⟩
theorem zra (k:S[n]?=some (.ins "Valley" (vF g b f h a l d)))(q:P d):∃ m c fs x,D.ref n=.ref m/\S[m]?=some (.ins c fs)/\fs.lookup ("delay":Str)=some x/\P x:=⟨n,_,_,d,rfl,k,by rw [List.lookup_cons,show ((("delay":Str)=="ground")=false) by decide +kernel];dsimp only;rw [List.lookup_cons,show ((("delay":Str)=="beacons")=false) by decide +kernel];dsimp only;rw [List.lookup_cons,show ((("delay":Str)=="fogs")=false) by decide +kernel];dsimp only;rw [List.lookup_cons,show ((("delay":Str)=="haze")=false) by decide +kernel];dsimp only;rw [List.lookup_cons,show ((("delay":Str)=="first")=false) by decide +kernel];dsimp only;rw [List.lookup_cons,show ((("delay":Str)=="last")=false) by decide +kernel];simp [List.lookup_cons],q⟩
end
theorem zfO {bs:List (Str×(Int×Int))}{i:Nat}{d:D}(h:(bs.map bcD)[i]?=some d):∃ b,bs[i]?=some b/\d=bcD b:=by
 rw [List.getElem?_map] at h
 cases e:bs[i]? with
 | none=>rw [e] at h;cases h
 | some p=>rw [e] at h;cases h;exact⟨p,rfl,rfl⟩
theorem znb {bs:List (Str×(Int×Int))}{k:Int}(h0:0<=k)(h:k<bs.length):∃ b,bs[k.toNat]?=some b/\atD (bs.map bcD) k=some (bcD b):=by
 have e:bs[k.toNat]?=some (bs[k.toNat]'(by omega)):=List.getElem?_eq_getElem (by omega)
 refine⟨_,e,?_⟩
 have:=zem (ds:=bs.map bcD) (i:=k.toNat) (by rw [List.getElem?_map,e];rfl)
 rwa [show ((k.toNat:Nat):Int)=k by omega] at this
def zkK (f:Str×(Int×Int)->D):D->D
 | .tup [.str z,.int a,.int b]=>f (z,a,b)
 | d=>d
theorem zgd (f:Str×(Int×Int)->D)(bs:List (Str×(Int×Int))):(bs.map bcD).map (zkK f)=bs.map f:=by rw [List.map_map];rfl
def sqr (a b:Int×Int):Int:=(b.1-a.1)*(b.1-a.1)+(b.2-a.2)*(b.2-a.2)
def hzy (z:Option Int)(q:Int):Bool:=match z with
 | some z=>decide (z<q)
 | none=>false
def zeI (V:Vl)(a b:Int×Int):D:=match zjv V.cs a b with
 | some k=>.tup [.str "ground",.int k]
 | none=>if hzy V.hz (sqr a b)=true then .tup [.str "haze",.int (sqr a b)] else .non
def Alw (V:Vl)(a b:Int×Int):Prop:=zjv V.cs a b=none/\hzy V.hz (sqr a b)=false
theorem zek {V:Vl}{a b:Int×Int}:zeI V a b=.non↔Alw V a b:=by
 unfold zeI Alw
 cases zjv V.cs a b with
 | some k=>simp
 | none =>
  cases h:hzy V.hz (sqr a b) with
  | true=>simp
  | false=>simp
def zqh (V:Vl)(a b:Int×Int)(h:Int):Prop:=Alw V a b/\¬ ∃ F∈V.fs,zbG F a.1 a.2 b.1 b.2 h
structure zu8 (V:Vl)(n m:Str)(s t:Int×Int)(ms:List (Int×Int)):Prop where
 ok:zas ms
 iff:∀ h,ms.any (inS h)=true↔V.h0<=h/\h<=V.h1/\(n=m\/zqh V s t h)
 len:ms.length<=14
theorem zkL {V:Vl}(ok:zdQ V){b c:Str×(Int×Int)}(hb:b∈V.bs)(hc:c∈V.bs)(e:b.1=c.1):b=c:=by
 obtain⟨i,hi,rfl⟩:=List.mem_iff_getElem.mp hb
 obtain⟨j,hj,rfl⟩:=List.mem_iff_getElem.mp hc
 have nd:=List.pairwise_iff_getElem.mp ok.nd
 rcases Nat.lt_trichotomy i j with h | h | h
 ·exact absurd (by rw [List.getElem_map,List.getElem_map];exact e) (nd i j (by simpa using hi) (by simpa using hj) h)
 ·subst h;rfl
 ·exact absurd (by rw [List.getElem_map,List.getElem_map];exact e.symm) (nd j i (by simpa using hj) (by simpa using hi) h)
theorem zeL {S A B X:Sto}(h:∃ T,A=S++T)(e:B=A++X):∃ T,B=S++T:=let ⟨T,h⟩:=h;⟨T++X,by rw [e,h,List.append_assoc]⟩
theorem zpF {f:Str}{v:D}:putD f v []=[(f,v)]:=rfl
theorem zay {f g:Str}{v x:D}{r:List (Str×D)}(h:g≠f):putD f v ((g,x)::r)=(g,x)::putD f v r:=by
 show (if g=f then _ else _)=_
 rw [if_neg h]
section
variable {g b f h a l d:D}
theorem vp2:putD "beacons" b ([("ground",g)]:List (Str×D))=([("ground",g),("beacons",b)]:List (Str×D)):=by rw [zay (by decide +kernel)];rfl
theorem vp3:putD "fogs" f ([("ground",g),("beacons",b)]:List (Str×D))=([("ground",g),("beacons",b),("fogs",f)]:List (Str×D)):=by rw [zay (by decide +kernel),zay (by decide +kernel)];rfl
theorem vp4:putD "haze" h ([("ground",g),("beacons",b),("fogs",f)]:List (Str×D))=([("ground",g),("beacons",b),("fogs",f),("haze",h)]:List (Str×D)):=by rw [zay (by decide +kernel),zay (by decide +kernel),zay (by decide +kernel)];rfl
theorem vp5:putD "first" a ([("ground",g),("beacons",b),("fogs",f),("haze",h)]:List (Str×D))=([("ground",g),("beacons",b),("fogs",f),("haze",h),("first",a)]:List (Str×D)):=by rw [zay (by decide +kernel),zay (by decide +kernel),zay (by decide +kernel),zay (by decide +kernel)];rfl
theorem vp6:putD "last" l ([("ground",g),("beacons",b),("fogs",f),("haze",h),("first",a)]:List (Str×D))=([("ground",g),("beacons",b),("fogs",f),("haze",h),("first",a),("last",l)]:List (Str×D)):=by rw [zay (by decide +kernel),zay (by decide +kernel),zay (by decide +kernel),zay (by decide +kernel),zay (by decide +kernel)];rfl
theorem vp7:putD "delay" d ([("ground",g),("beacons",b),("fogs",f),("haze",h),("first",a),("last",l)]:List (Str×D))=vF g b f h a l d:=by rw [zay (by decide +kernel),zay (by decide +kernel),zay (by decide +kernel),zay (by decide +kernel),zay (by decide +kernel),zay (by decide +kernel)];rfl
end
def zwG (fs:List Fg)(s t:Int×Int)(h:Int)(d:D):Prop:=(∃ (k:Nat) (F:Fg),fs[k]?=some F/\zbG F s.1 s.2 t.1 t.2 h/\(∀ (j:Nat) G,j<k->fs[j]?=some G->¬ zbG G s.1 s.2 t.1 t.2 h)/\d=.tup [.str "fog",.int k])\/((∀ F∈fs,¬ zbG F s.1 s.2 t.1 t.2 h)/\d=.non)
def zqb (V:Vl)(n m:Str)(s t:Int×Int)(h:Int)(d:D):Prop:=(n=m/\d=.non)\/(n≠m/\((¬ Alw V s t/\d=zeI V s t)\/(Alw V s t/\zwG V.fs s t h d)))
theorem zqb.non {V:Vl}{n m:Str}{s t:Int×Int}{h:Int}{d:D}(a:zqb V n m s t h d):d=.non↔n=m\/zqh V s t h:=by
 rcases a with ⟨a1,rfl⟩ | ⟨a1,⟨a2,rfl⟩ | ⟨a2,⟨k,F,hk,hF,hn,rfl⟩ | ⟨hn,rfl⟩⟩⟩
 ·exact⟨fun _=>.inl a1,fun _=>rfl⟩
 ·rw [zek]
  exact⟨fun z=>absurd z a2,fun z=>z.elim (fun z=>absurd z a1) fun z=>absurd z.1 a2⟩
 ·exact⟨fun z=>(by cases z),fun z=>z.elim (fun z=>absurd z a1) fun z=>absurd ⟨F,List.mem_of_getElem? hk,hF⟩ z.2⟩
 ·exact⟨fun _=>.inr ⟨a2,fun⟨F,hF,g⟩=>hn F hF g⟩,fun _=>rfl⟩
theorem zju (n:Str):∀ zs:List Str,((zs.map D.str).any fun z=>eqv z (.str n))=decide (n∈zs)
 | []=>by simp
 | z::zs=>by
  rw [List.map_cons,List.any_cons,zju n zs]
  show ((z==n)||decide (n∈zs))=decide (n∈z::zs)
  rw [Bool.eq_iff_iff,Bool.or_eq_true,beq_iff_eq,decide_eq_true_eq,decide_eq_true_eq,List.mem_cons]
  exact⟨fun h=>h.imp (·.symm) id,fun h=>h.imp (·.symm) id⟩
theorem zjj {zs:List Str}(h:∀ z∈zs,fl 20 (.str z)=true):(zs.map D.str).all (fl 20)=true:=by
 rw [List.all_map,List.all_eq_true];exact h
theorem zsR {S:Sto}{Q:DK}{x:D}{zs:List Str}{n:Str}(hx:zdI S x (zs.map D.str))(hn:fl 20 (.str n)=true)(h:∀ z∈zs,fl 20 (.str z)=true)(q:Q (.bl (decide (n∈zs))) S):oIn (.str n) x S Q:=.inl ⟨_,⟨_,hx,hn,zjj h,rfl⟩,by rw [zju];exact q⟩
theorem zfe {S:Sto}{Q:DK}{x:D}{zs:List Str}{n:Str}(hx:zdI S x (zs.map D.str))(hn:fl 20 (.str n)=true)(h:∀ z∈zs,fl 20 (.str z)=true)(q:Q (.bl (!decide (n∈zs))) S):zfN (.str n) x S Q:=.inl ⟨_,⟨_,hx,hn,zjj h,rfl⟩,by rw [zju];exact q⟩
theorem zdQ.flN {V:Vl}(ok:zdQ V):∀ z∈V.bs.map (·.1),fl 20 (.str z)=true:=fun z hz=>by
 obtain⟨b,hb,rfl⟩:=List.mem_map.mp hz
 exact zi0 (ok.nm b hb) 20
mutual
theorem eqv_refl:∀ (k:Nat) (d:D),fl k d=true->eqv d d=true
  | _,.non,_=>rfl
  | _,.bl b,_=>by show (b==b)=true;simp
  | _,.int i,_=>by show decide (i=i)=true;simp
  | _,.str x,_=>by show (x==x)=true;simp
  | 0,.tup _,h=>by cases h
  | k+1,.tup xs,h=>eqvAll_refl k xs h
  | k,.ref _,h=>by cases k<;>cases h
  | k,.ty _,h=>by cases k<;>cases h
  | k,.rl _,h=>by cases k<;>cases h
  | k,.exn _,h=>by cases k<;>cases h
theorem eqvAll_refl:∀ (k:Nat) (xs:List D),xs.all (fl k)=true->eqvAll xs xs=true
  | _,[],_=>rfl
  | k,x::xs,h=>by
    rw [List.all_cons,Bool.and_eq_true] at h
    show (eqv x x&&eqvAll xs xs)=true
    rw [eqv_refl k x h.1,eqvAll_refl k xs h.2];rfl
end
theorem zdl {S:Sto}{Q:DK}{x y:D}{xs:List D}(hx:Lst S x xs)(hy:Lst S y xs)(f:xs.all (fl 20)=true)(q:Q (.bl false) S):oNe x y S Q:=zvr hx hy f f (eqvAll_refl 20 xs f) q
theorem zvT {S:Sto}{Q:DK}{x:D}(f:fl 20 x=true)(q:Q (.bl false) S):oNe x x S Q:=⟨true,.inl ⟨f,f,(eqv_refl 20 x f).symm⟩,q⟩
theorem ztk {P:Sto->Prop}(S':Sto){S:Sto}(e:S=S')(h:∀ S3,S3=S'->P S3):P S:=h S e
end Dp
namespace Dp
open PySem Rm My
section
variable {see:Nat->Nat->Int->Prop}{dl:Int}{s:Nat}{h0:Int}
inductive Lt (see:Nat->Nat->Int->Prop)(dl:Int)(s:Nat)(h0:Int):Nat->Int->Prop
 | base:Lt see dl s h0 s h0
 | step {k j:Nat} {h u:Int}:Lt see dl s h0 k h->h<=u->see k j u->Lt see dl s h0 j (u+dl)
end
end Dp
namespace My
open PySem PySem.Spec PyProof.Rows L2
section
variable {prog:Program}{w:World}{A:Around}{E:Value->Shared->Prop}{s:Shared}
end
theorem zlo {α:Type}(xs:List α)(a:Nat):∀ m,a+m<=xs.length->((List.range m).map (a+·)).filterMap (xs[·]?)=(xs.drop a).take m
 | 0,_=>by simp
 | m+1,h=>by
  rw [List.range_succ,List.map_append,List.filterMap_append,zlo xs a m (by omega),List.take_succ,List.getElem?_drop]
  simp only [List.map_cons,List.map_nil,List.filterMap_cons,List.filterMap_nil]
  rw [List.getElem?_eq_getElem (by omega)];rfl
theorem zwC (n:Nat)(lo hi:Option Int):Builtin.Str.strSliceIndices lo hi 1 n=(List.range (HT.sIx n n hi-HT.sIx n 0 lo)).map (HT.sIx n 0 lo+·):=by
 rw [<- sliceRange_one]
 unfold Builtin.Str.strSliceIndices
 have cl:∀ (o:Option Int) (d:Nat),(match o with | none=>(d:Int) | some i=>if (1:Int) > 0 then max 0 (min (if i<0 then i+(n:Int) else i) n) else max (-1) (min (if i<0 then i+(n:Int) else i) ((n:Int)-1)))=((HT.sIx n d o:Nat):Int):=fun o d=>by
  cases o with
  | none=>rfl
  | some i =>
   show (if (1:Int) > 0 then _ else _)=(((if i<0 then (i+n).toNat else min i.toNat n):Nat):Int)
   rw [if_pos (by decide)]
   by_cases h:i<0
   ·rw [if_pos h,if_pos h];omega
   ·rw [if_neg h,if_neg h];omega
 have h1:=cl lo 0
 have h2:=cl hi n
 simp only [show ((1:Int) > 0)=True by simp,if_true] at h1 h2 ⊢
 rw [<- h1,<- h2]
 rfl
theorem zi9 (n:Nat)(o:Option Int)(d:Nat)(hd:d<=n):HT.sIx n d o<=n:=by
  cases o with
  | none=>exact hd
  | some i =>
    show (if i<0 then (i+n).toNat else min i.toNat n)<=n
    split<;>omega
theorem zoG (x:Str)(lo hi:Option Int):Txt.slice x lo hi=⟨((x.cps.toList.drop (HT.sIx x.length 0 lo)).take (HT.sIx x.length x.length hi-HT.sIx x.length 0 lo)).toArray⟩:=by
 have hl:x.cps.toList.length=x.length:=Array.length_toList
 have b1:=zi9 x.length lo 0 (Nat.zero_le _)
 have b2:=zi9 x.length hi x.length (Nat.le_refl _)
 unfold Txt.slice
 rw [zwC]
 have fm:((List.range (HT.sIx x.length x.length hi-HT.sIx x.length 0 lo)).map (HT.sIx x.length 0 lo+·)).filterMap (x.cps[·]?)=(x.cps.toList.drop (HT.sIx x.length 0 lo)).take (HT.sIx x.length x.length hi-HT.sIx x.length 0 lo):=by
  rcases Nat.lt_or_ge (HT.sIx x.length x.length hi) (HT.sIx x.length 0 lo) with g | g
  ·rw [show HT.sIx x.length x.length hi-HT.sIx x.length 0 lo=0 by omega];simp
  ·rw [<- zlo x.cps.toList _ _ (by rw [hl];omega)]
   congr 1
   funext i
   rw [Array.getElem?_toList]
 split
 ·rename_i h
  rw [Bool.and_eq_true] at h
  have h2:=eq_of_beq h.2
  rw [List.length_map,List.length_range] at h2
  have z1:HT.sIx x.length 0 lo=0:=by omega
  rw [h2,z1,List.drop_zero,List.take_of_length_le (by omega)]
 ·rw [fm]
def zwc:V->Option Int->Option Int->Hp->VK->Prop:=fun x lo hi H Q=>∃ z:Str,x=.str z/\z.length<=sizeLine/\Q (.str ⟨((z.cps.toList.drop (HT.sIx z.length 0 lo)).take (HT.sIx z.length z.length hi-HT.sIx z.length 0 lo)).toArray⟩) H
theorem zua {X:Cx}:SlR X zwc:=by
 intro pins s σ H x v vl vu lo hi sl Q I rx hs pl pu h
 obtain⟨z,rfl,hz,q⟩:=h
 obtain⟨t,rfl⟩:=rx
 refine⟨"str",_,F.slot_str_getitem.lookup,typeIs_str _ _ _,?_⟩
 have go:∀ (l u:Option (Int×Tok)),l.map (·.1)=lo->u.map (·.1)=hi->s.heap.IsSlice sl l u none->wpAny (model X.prog X.w) X.A (getItem (.str z t) (.ref sl)) (EP X pins σ Q) X.xe s:=fun l u el eu is=>by
  refine wpAny_getItem_str_slice is rfl ?_
  unfold sliceMade slicePicked
  rw [el,eu]
  refine post_val_or_str ⟨Nat.le_trans (Txt.slice_le z lo hi) hz,fun t' k=>?_⟩
  show EP X pins σ Q (.str (Txt.slice z lo hi) t') _
  rw [zoG]
  exact⟨.str _,H,I.tok _,⟨t',rfl⟩,q⟩
 obtain⟨o,ho,hc,hd⟩:=hs
 cases pl with
 | none =>
  cases pu with
  | none=>exact go none none rfl rfl ⟨o,ho,hc,hd⟩
  | int j tj=>exact go none (some (j,tj)) rfl rfl ⟨o,ho,hc,hd⟩
 | int i ti =>
  cases pu with
  | none=>exact go (some (i,ti)) none rfl rfl ⟨o,ho,hc,hd⟩
  | int j tj=>exact go (some (i,ti)) (some (j,tj)) rfl rfl ⟨o,ho,hc,hd⟩
end My
namespace My
open PySem PySem.Spec PyProof.Rows L2
section
open AutoSeq1 (wpAny_loadPart')
variable {prog:Program}{w:World}{A:Around}{E:Value->Shared->Prop}{s:Shared}
theorem ziV {it t:Addr}{i:Nat}{items:Array Value}{x:Value}{Q:Value->Shared->Prop}(hit:s.heap.IsTupleIter it t i)(ht:s.heap.IsTuple t items)(hx:items[i]?=some x)
  (hQ:∀ h',h'.IsTupleIter it t (i+1)->Heap.SameBut it s.heap h'->Q x { s with heap:=h' }):wpAny (model prog w) A (Builtin.SmallTypes.nextOf (.ref it)) Q E s:=by
 obtain⟨o,ho,hc,hd⟩:=id hit
 obtain⟨ol,hol,_,nl,hdl⟩:=ht
 unfold Builtin.SmallTypes.nextOf
 refine wpAny_bind (wpAny_callSpecial?_slot (name:=Str.ofString "__next__") hit.typeIs F.slot_tuple_iterator_next (wpAny_call_entry F.slot_tuple_iterator_next hit.typeIs F.entry_tuple_iterator_next ?_ (F.args_tuple_iterator_next_1 _)))
 show wpAny _ _ (field (.ref it) 0 >>= _) _ _ s
 refine wpAny_bind (wpAny_field ho hd (x:=.ref t) rfl ?_)
 show wpAny _ _ (if (Value.ref t==Value.none)=true then _ else _) _ _ s
 rw [if_neg (show ¬ ((Value.ref t==Value.none)=true) from Bool.false_ne_true)]
 show wpAny _ _ (field (.ref it) 1 >>= _) _ _ s
 refine wpAny_bind (wpAny_field ho hd (x:=.int i 0) rfl ?_)
 show wpAny _ _ (seqItems? (.ref t) >>= _) _ _ s
 refine wpAny_bind (wpAny_seqItems hol hdl ?_)
 simp only [Int.toNat_natCast,hx]
 refine wpAny_bind (wpAny_setField ho hd (by simp) (wpAny_pure ⟨x,rfl,wpAny_pure (hQ _ ?_ (Heap.SameBut.update ..))⟩))
 exact⟨_,Heap.get?_update_self _ ho (Obj.isFreed_of_fields (Obj.data_mapFields hd _)),(Obj.cls_mapFields ..).trans hc,by rw [Obj.data_mapFields hd];simp [rawInt]⟩
theorem zhi {it t:Addr}{i:Nat}{items:Array Value}{Q:Value->Shared->Prop}(hh:A.handled=none)(hit:s.heap.IsTupleIter it t i)(ht:s.heap.IsTuple t items)(hx:items[i]?=none)
  (hE:∀ h' e,Heap.ExtBut it s.heap h'->(∃ o,h'.get? e=some o/\o.cls=.type "StopIteration")->E (.ref e) { s with heap:=h' }):wpAny (model prog w) A (Builtin.SmallTypes.nextOf (.ref it)) Q E s:=by
 obtain⟨o,ho,hc,hd⟩:=id hit
 obtain⟨ol,hol,_,nl,hdl⟩:=ht
 unfold Builtin.SmallTypes.nextOf
 refine wpAny_bind (wpAny_callSpecial?_slot (name:=Str.ofString "__next__") hit.typeIs F.slot_tuple_iterator_next (wpAny_call_entry F.slot_tuple_iterator_next hit.typeIs F.entry_tuple_iterator_next ?_ (F.args_tuple_iterator_next_1 _)))
 show wpAny _ _ (field (.ref it) 0 >>= _) _ _ s
 refine wpAny_bind (wpAny_field ho hd (x:=.ref t) rfl ?_)
 show wpAny _ _ (if (Value.ref t==Value.none)=true then _ else _) _ _ s
 rw [if_neg (show ¬ ((Value.ref t==Value.none)=true) from Bool.false_ne_true)]
 show wpAny _ _ (field (.ref it) 1 >>= _) _ _ s
 refine wpAny_bind (wpAny_field ho hd (x:=.int i 0) rfl ?_)
 show wpAny _ _ (seqItems? (.ref t) >>= _) _ _ s
 refine wpAny_bind (wpAny_seqItems hol hdl ?_)
 simp only [Int.toNat_natCast,hx]
 refine wpAny_bind (wpAny_rule (wpAny_bind (wpAny_setField ho hd (by simp) ?_)))
 show wpAny _ _ (newExc (.type "StopIteration") [] >>= _) _ _ _
 refine wpAny_bind ?_
 simp only [newExc,newTuple]
 refine wpAny_bind (wpAny_newObj_type ?_ (by size_fits))
 refine wpAny_bind (m:=firstArgMember _ _) (wpAny_of_eq (a:=Value.none) (by first | rfl | (simp only [firstArgMember];rfl)) ?_)
 refine wpAny_newObj_type ?_ (by size_fits)
 simp only [raiseNew]
 refine wpAny_bind (wpAny_handled ?_)
 first | rw [show A.in1.handled=none from hh] | rw [hh]
 refine wpAny_bind (wpAny_pure (wpAny_throw ?_))
 exact hE _ _ (((Heap.SameBut.update ..).extBut.push _).push _) ⟨_,Heap.get?_push_size _ rfl,rfl⟩
theorem ztT (hh:A.handled=none)(it t:Addr)(hne:t≠it)(items:Array Value) :
  Draws prog w A it [it,t] items.size (fun i v=>items[i]?=some v) (fun i h=>h.IsTupleIter it t i/\h.IsTuple t items) where
 live:=fun _ _ st=>let ⟨o,ho,_⟩:=st.1;⟨o,ho⟩
 frame:=fun _ _ _ st hk=>⟨let ⟨o,ho,r⟩:=st.1;⟨o,hk it (by simp) o ho,r⟩,let ⟨o,ho,r⟩:=st.2;⟨o,hk t (by simp) o ho,r⟩⟩
 item:=fun i s Q E hi st hQ=>ziV st.1 st.2 (x:=items[i]) (by simp [hi]) fun h' hit' hs'=>hQ _ h' s.toks (by simp [hi]) ⟨hit',st.2.extBut hs'.extBut hne⟩ hs'
 done:=fun s Q E st hE=>zhi hh st.1 st.2 (by simp) hE
theorem zsZ (hh:A.handled=none)(it t:Addr)(items:Array Value)(i:Nat)(hx:items[i]?=none) :
  Draws prog w A it [it,t] 0 (fun _ _=>True) (fun _ h=>h.IsTupleIter it t i/\h.IsTuple t items) where
 live:=fun _ _ st=>let ⟨o,ho,_⟩:=st.1;⟨o,ho⟩
 frame:=fun _ _ _ st hk=>⟨let ⟨o,ho,r⟩:=st.1;⟨o,hk it (by simp) o ho,r⟩,let ⟨o,ho,r⟩:=st.2;⟨o,hk t (by simp) o ho,r⟩⟩
 item:=fun i s Q E hi=>absurd hi (Nat.not_lt_zero _)
 done:=fun s Q E st hE=>zhi hh st.1 st.2 hx hE
theorem newT (l:Addr)(items:Array Value)(n:Nat)(dct:Option Addr)(sl:Array (Option Value)) :
    Meets (Builtin.«enumerate.__new__» ⟨[.type "enumerate",.ref l],[]⟩) (fun _ R s=>s.heap.get? l=some { cls:=.type "tuple",dict:=dct,data:=.seq items n,slots:=sl } /\
      R (.ok (.ret (.ref (s.heap.push { cls:=.type "tuple_iterator",data:=.fields #[.ref l,.int 0 0] }).objs.size)))
        { s with heap:=(s.heap.push { cls:=.type "tuple_iterator",data:=.fields #[.ref l,.int 0 0] }).push { cls:=.type "enumerate",data:=.fields #[.none,.bool false,.ref s.heap.objs.size,rawInt 0,.none,.none] } }) :=
  .of_wp fun prog w A R s h=>by
    obtain⟨hp,g,d,tk,os⟩:=s
    obtain⟨hl,h⟩:=h
    have hsub:=sub_enumerate
    have hL:Heap.IsTuple (Shared.heap ⟨hp,g,d,tk,os⟩) l items:=⟨_,hl,rfl,n,rfl⟩
    wp_walk using wpAny_loadPart' hl
    refine wpAny_stack_any fun st=>wpAny_pure ?_
    split
    · rename_i c _ _ _ _ _
      cases (c==Value.type "enumerate")
      · wp_walk using wpAny_loadPart' hl,wpAny_pyIter_tuple hL
        exact⟨_,rfl,h⟩
      · wp_walk using wpAny_loadPart' hl,wpAny_pyIter_tuple hL
        exact⟨_,rfl,h⟩
    · wp_walk using wpAny_loadPart' hl,wpAny_pyIter_tuple hL
      exact⟨_,rfl,h⟩
theorem zvI {l:Addr}{items:Array Value}{Q:Value->Shared->Prop}(hL:s.heap.IsTuple l items)
    (h:∀ h',IsEnum h' (s.heap.objs.size+1) s.heap.objs.size 0 .none->h'.IsTupleIter s.heap.objs.size l 0->h'.objs.size=s.heap.objs.size+2 ->
      (∀ b o,s.heap.get? b=some o->h'.get? b=some o)->Q (.ref (s.heap.objs.size+1)) { s with heap:=h' }):wpAny (model prog w) A (call (.type "enumerate") [.ref l]) Q E s:=by
  obtain⟨⟨c,dct,dt,sl⟩,hl,hc,n,hd⟩:=hL
  replace hc:c=.type "tuple":=hc
  replace hd:dt=.seq items n:=hd
  subst hc hd
  refine callType_new F.called_enumerate (by decide) (F.typeCall_enumerate_1 _) (F.newCall_enumerate_1 _) (fun obj=>F.args_object_init_2 obj _) F.entry_enumerate_new (newT l items n dct sl) ⟨hl,?_⟩
  have hz:(s.heap.push { cls:=.type "tuple_iterator",data:=.fields #[.ref l,.int 0 0] }).objs.size=s.heap.objs.size+1:=Heap.size_push ..
  show _/\_
  rw [hz]
  have he : IsEnum ((s.heap.push { cls := .type "tuple_iterator", data := .fields #[.ref l, .int 0 0] }).push
      { cls:=.type "enumerate",data:=.fields #[.none,.bool false,.ref s.heap.objs.size,rawInt 0,.none,.none] }) (s.heap.objs.size+1) s.heap.objs.size 0 .none:=by
    have:=Heap.get?_push_size (s.heap.push { cls:=.type "tuple_iterator",data:=.fields #[.ref l,.int 0 0] })
      (o:={ cls:=.type "enumerate",data:=.fields #[.none,.bool false,.ref s.heap.objs.size,rawInt 0,.none,.none] }) rfl
    rw [hz] at this;exact this
  exact⟨⟨_,he,rfl⟩,h _ he ⟨_,Heap.get?_push_of_some _ (Heap.get?_push_size _ rfl),rfl,rfl⟩ (by rw [Heap.size_push,hz]) fun b o x=>Heap.get?_push_of_some _ (Heap.get?_push_of_some _ x)⟩
end
def zpg (K:PySem.W.Frag)(l:Addr):It :=
  ⟨fun i H=>∃ xs x,SqT K H l xs/\xs[i]?=some x,
   fun i H v H'=>∃ p,v=.ref p/\H p=none/\∀ xs x,SqT K H l xs->xs[i]?=some x->H'=upd H p (.tup [.int i,x]),
   fun i H=>∃ xs,SqT K H l xs/\xs.length<=i⟩
theorem zob {h:Heap}{a b:Addr}{o u:Obj}(ha:h.get? a=some o)(hb:h.get? b=some u)(hc:o.cls≠u.cls):a≠b:=fun e=>by
 subst e
 rw [ha] at hb
 cases hb
 exact hc rfl
theorem zno {P:Program}{w:World}{K:PySem.W.Frag}{es:List Expr}{kk:Nat}{pos:Pos}{e it l:Addr}(hne:e≠it) :
  Turn P w K (.Tuple es kk pos) (zpg K l) [e,it] e (fun i h=>(∃ old,IsEnum h e it i old)/\h.IsTupleIter it l i) where
 mem:=by simp
 obj:=fun i h st b hb=>by
  obtain⟨⟨old,he⟩,⟨o1,h1,_,h1d⟩⟩:=st
  simp only [List.mem_cons,List.not_mem_nil,or_false] at hb
  rcases hb with rfl | rfl
  ·exact⟨_,he,fun v q=>by cases (show Data.fields _=Data.cell v from q)⟩
  ·exact⟨_,h1,fun v q=>by rw [h1d] at q;cases q⟩
 keep:=fun i h h' st k=>by
  obtain⟨⟨old,he⟩,⟨o,ho,r⟩⟩:=st
  exact⟨⟨old,k e (by simp) _ he⟩,⟨o,k it (by simp) o ho,r⟩⟩
 item:=by
  intro X hP hw hK hc i pins s σ H E I hf st hg
  subst hP hw hK
  obtain⟨⟨old,he⟩,h1⟩:=st
  obtain⟨xs,x,hx1,hx⟩:=hg
  obtain⟨its,rx,px,zx⟩:=I.tuple hx1
  obtain⟨u,hu,ru⟩:=Vals.get rx hx
  have pt:s.heap.IsTuple l its.toArray:=px
  obtain⟨oi,ei,ci,_⟩:=id h1
  obtain⟨ol,el,cl,_⟩:=id pt
  have n1:l≠it:=zob el ei (by rw [cl,ci];decide)
  have n2:e≠l:=zob he el (by rw [cl];show Value.type "enumerate"≠Value.type "tuple";decide)
  have hlt:i<its.toArray.size:=by
   have:=(List.getElem?_eq_some_iff.mp hu).1
   simpa using this
  refine wpAny_pyNext_enum_itemD (ztT (A:=X.A.in1) (show X.A.in1.handled=none from I.ok.hd hc) it l n1 its.toArray) he ⟨h1,pt⟩ hlt hne (by simp [hne,n2]) fun u' h' tk hP a1 a2 a3 a4 hk=>?_
  have eu:u'=u:=by
   have hP':its.toArray[i]?=some u':=hP
   rw [List.getElem?_toArray,hu] at hP'
   cases hP';rfl
  subst eu
  refine⟨_,rfl,wpAny_letOwnedTupleGo_enum (s:={ s with heap:=h',toks:=tk+1 }) a1 fun h'' he'' hs''=>?_⟩
  have lt:∀ {c o},s.heap.get? c=some o->s.heap.objs.size≠c:=fun q=>Nat.ne_of_gt (Heap.lt_size q)
  have k2:∀ b u,b∉[e,it]->s.heap.get? b=some u->h''.get? b=some u:=fun b u hb q=>by
   simp only [List.mem_cons,List.not_mem_nil,or_false,not_or] at hb
   exact hs''.extBut b u hb.1 (hk b u hb.1 hb.2 q)
  have new:h''.get? s.heap.objs.size=some { cls:=.type "tuple",data:=.seq #[.int i tk,u'] }:=hs''.extBut _ _ (lt he) a3
  refine⟨.ref s.heap.objs.size,upd H s.heap.objs.size (.tup [.int i,x]),I.turnNew (t':=tk+1) hf k2 (Nat.le_refl _) ⟨by show 2<=sizeLine;decide,[.int i tk,u'],.cons ⟨_,rfl⟩ (.cons ru .nil),_,new,rfl,_,rfl⟩,rfl,⟨_,rfl,I.fresh,?_⟩,?_,fun b hb=>?_⟩
  ·intro xs' x' hx1' hx'
   cases I.tuple_inj hx1 hx1'
   rw [hx] at hx'
   cases hx'
   rfl
  ·exact⟨⟨_,he''⟩,a2.1.extBut hs''.extBut (Ne.symm hne)⟩
  ·have:∃ o,s.heap.get? b=some o:=by
    simp only [List.mem_cons,List.not_mem_nil,or_false] at hb
    rcases hb with rfl | rfl
    ·exact⟨_,he⟩
    ·exact⟨_,ei⟩
   obtain⟨o,q⟩:=this
   rw [zW (lt q).symm]
   exact (hf b hb).1
 done:=by
  intro X hP hw hK hc i pins s σ H E I hf st hg
  subst hP hw hK
  obtain⟨⟨old,he⟩,h1⟩:=st
  obtain⟨xs,hx1,hl⟩:=hg
  obtain⟨its,rx,px,zx⟩:=I.tuple hx1
  have n1:=rx.length
  have pt:s.heap.IsTuple l its.toArray:=px
  have hnone:its.toArray[i]?=none:=by rw [List.getElem?_toArray];exact List.getElem?_eq_none (by omega)
  refine wpAny_pyNext_enum_endD (zsZ (A:=X.A.in1) (show X.A.in1.handled=none from I.ok.hd hc) it l its.toArray i hnone) he ⟨h1,pt⟩ fun h' hk=>⟨rfl,I.turnedL (t':=s.toks) hf fun b u hb q=>?_⟩
  simp only [List.mem_cons,List.not_mem_nil,or_false,not_or] at hb
  exact hk b u hb.2 q
 self:=fun _ _ _ _ _ st h=>by
  obtain⟨⟨old,he⟩,_⟩:=st
  exact wpAny_pyIter_enum he h
section
variable {X:Cx}
def zsv (K:PySem.W.Frag)(ta:TA):TI:=fun σ H R=>ta σ H fun vs H1=>∃ l,vs=[.ref l]/\(((∃ xs,SqL K H1 l xs)/\R (Ite K l) H1)\/((∃ xs,SqT K H1 l xs)/\R (zpg K l) H1))
theorem zpT {es:List Expr}{kk:Nat}{tpos:Pos}{a:Expr}{ta:TA}{p pos:Pos}(hg:Gl X "enumerate")(hm:X.mg "enumerate"=none)(ha:PA X [a] ta)(hs:starEach [a] X.env=[(false,eval a X.env)]:=by rfl) :
    PI X (.Tuple es kk tpos) (.Call (.Name "enumerate" p) [a] [] pos) (zsv X.K ta):=by
  intro pins s σ H R I h
  refine Call_ (zcw I hg hm boot_enumerate (PyProof.Rows.callWith_type1 (thn (ha pos pins s σ H _ I h) fun us s1 ⟨vs,H1,I1,r1,q1⟩=>?_) hs rfl))
  obtain⟨l,e,q⟩:=q1
  subst e
  obtain⟨u,rfl,ru⟩:=vals1 r1
  cases ru
  rcases q with ⟨⟨xs,hx⟩,q⟩ | ⟨⟨xs,hx⟩,q⟩
  · obtain⟨its,rx,px,zx⟩:=I1.list hx
    refine call_enumerate_list px.isList fun h' he hit hsz hk=>?_
    have I2:Inv X pins σ H1 { s1 with heap:=h' }:=I1.kept (t':=s1.toks) hk
    refine wpAny_pyIter_enum (s:={ s1 with heap:=h' }) he ?_
    refine⟨_,_,_,_,H1,rfl,I2,zoy (Nat.ne_of_gt (Nat.lt_succ_self _)),⟨⟨_,he⟩,hit⟩,fun b hb=>?_,q⟩
    have hb':s1.heap.objs.size<=b:=by
      simp only [List.mem_cons,List.not_mem_nil,or_false] at hb
      rcases hb with rfl | rfl<;>first | exact Nat.le_add_right _ _ | exact Nat.le_refl _
    exact I1.fpOk hb' (I1.hok.fresh hb')
  · obtain⟨its,rx,px,zx⟩:=I1.tuple hx
    have pt:s1.heap.IsTuple l its.toArray:=px
    refine zvI pt fun h' he hit hsz hk=>?_
    have I2:Inv X pins σ H1 { s1 with heap:=h' }:=I1.kept (t':=s1.toks) hk
    refine wpAny_pyIter_enum (s:={ s1 with heap:=h' }) he ?_
    refine⟨_,_,_,_,H1,rfl,I2,zno (Nat.ne_of_gt (Nat.lt_succ_self _)),⟨⟨_,he⟩,hit⟩,fun b hb=>?_,q⟩
    have hb':s1.heap.objs.size<=b:=by
      simp only [List.mem_cons,List.not_mem_nil,or_false] at hb
      rcases hb with rfl | rfl<;>first | exact Nat.le_add_right _ _ | exact Nat.le_refl _
    exact I1.fpOk hb' (I1.hok.fresh hb')
end
end My
namespace My
open PySem PySem.Spec PyProof.Rows L2
def zbv:Bool->Heap->Addr->Addr->Nat->Prop
 | true,h,it,l,k=>h.IsListIter it l k
 | false,h,it,l,k=>h.IsTupleIter it l k
def zb7:Bool->Heap->Addr->Array Value->Prop
 | true,h,l,xs=>h.IsList l xs
 | false,h,l,xs=>h.IsTuple l xs
theorem zbv.grow {b:Bool}{h h':Heap}{c it l:Addr}{k:Nat}(x:zbv b h it l k)(e:Heap.ExtBut c h h')(n:it≠c):zbv b h' it l k:=by
 cases b
 ·exact Heap.IsTupleIter.extBut (show h.IsTupleIter it l k from x) e n
 ·exact Heap.IsListIter.extBut (show h.IsListIter it l k from x) e n
theorem zb7.grow {b:Bool}{h h':Heap}{c l:Addr}{xs:Array Value}(x:zb7 b h l xs)(e:Heap.ExtBut c h h')(n:l≠c):zb7 b h' l xs:=by
 cases b
 ·exact Heap.IsTuple.extBut (show h.IsTuple l xs from x) e n
 ·exact Heap.IsList.extBut (show h.IsList l xs from x) e n
theorem zbv.obj {b:Bool}{h:Heap}{it l:Addr}{k:Nat}(x:zbv b h it l k):∃ o,h.get? it=some o/\(o.cls=.type "list_iterator"\/o.cls=.type "tuple_iterator")/\∃ vs,o.data=.fields vs:=by
 cases b
 ·obtain⟨o,ho,hc,hd⟩:h.IsTupleIter it l k:=x
  exact⟨o,ho,.inr hc,_,hd⟩
 ·obtain⟨o,ho,hc,hd⟩:h.IsListIter it l k:=x
  exact⟨o,ho,.inl hc,_,hd⟩
theorem zbv.at {b:Bool}{h h':Heap}{it l:Addr}{k:Nat}(x:zbv b h it l k)(e:∀ o,h.get? it=some o->h'.get? it=some o):zbv b h' it l k:=by
 cases b
 ·obtain⟨o,ho,hc,hd⟩:h.IsTupleIter it l k:=x
  exact (⟨o,e o ho,hc,hd⟩:h'.IsTupleIter it l k)
 ·obtain⟨o,ho,hc,hd⟩:h.IsListIter it l k:=x
  exact (⟨o,e o ho,hc,hd⟩:h'.IsListIter it l k)
theorem zb7.lt {b:Bool}{h:Heap}{l:Addr}{xs:Array Value}(x:zb7 b h l xs):l<h.objs.size:=by
 cases b
 ·obtain⟨o,ho,_⟩:h.IsTuple l xs:=x
  exact Heap.lt_size ho
 ·obtain⟨o,ho,_⟩:h.IsList l xs:=x
  exact Heap.lt_size ho
section
variable {prog:Program}{w:World}{A:Around}{E:Value->Shared->Prop}{s:Shared}
theorem zgo {b:Bool}{it t:Addr}{i:Nat}{items:Array Value}{x:Value}{Q:Value->Shared->Prop}(hit:zbv b s.heap it t i)(ht:zb7 b s.heap t items)(hx:items[i]?=some x)
  (hQ:∀ h',zbv b h' it t (i+1)->Heap.SameBut it s.heap h'->Q x { s with heap:=h' }):wpAny (model prog w) A (Builtin.SmallTypes.nextOf (.ref it)) Q E s:=by
 cases b
 ·exact ziV hit ht hx hQ
 ·exact wpAny_nextOf_list_item hit ht hx hQ
theorem zj8 {b:Bool}{it t:Addr}{i:Nat}{items:Array Value}{Q:Value->Shared->Prop}(hh:A.handled=none)(hit:zbv b s.heap it t i)(ht:zb7 b s.heap t items)(hx:items[i]?=none)
  (hE:∀ h' e,Heap.ExtBut it s.heap h'->(∃ o,h'.get? e=some o/\o.cls=.type "StopIteration")->E (.ref e) { s with heap:=h' }):wpAny (model prog w) A (Builtin.SmallTypes.nextOf (.ref it)) Q E s:=by
 cases b
 ·exact zhi hh hit ht hx hE
 ·exact wpAny_nextOf_list_end hh hit ht hx hE
theorem zmP {b1 b2:Bool}{z TI TO i1 i2 l1 l2:Addr}{k:Nat}{xs ys:Array Value}{x y a b:Value}{Q:Option Value->Shared->Prop}(D:ZipApart z TI TO i1 i2 l1 l2)
  (hz:IsZip s.heap z TI TO .none) (hTI:IsPair s.heap TI (.ref i1) (.ref i2)) (hTO:IsPair s.heap TO a b) (h1:zbv b1 s.heap i1 l1 k) (h2:zbv b2 s.heap i2 l2 k) (hl1:zb7 b1 s.heap l1 xs) (hl2:zb7 b2 s.heap l2 ys) (hx:xs[k]?=some x) (hy:ys[k]?=some y)
  (hQ:∀ h',IsZip h' z TI TO (rawInt s.heap.objs.size)->IsPair h' TO x y->zbv b1 h' i1 l1 (k+1)->zbv b2 h' i2 l2 (k+1)->IsPair h' s.heap.objs.size x y ->
   (∀ c o,c≠z->c≠TO->c≠i1->c≠i2->s.heap.get? c=some o->h'.get? c=some o)->Q (some (.ref s.heap.objs.size)) { s with heap:=h' }):wpAny (model prog w) A (pyNext (.ref z)) Q E s:=by
 have hT:s.TypeIs (.ref z) "zip":=⟨_,hz,rfl⟩
 unfold pyNext
 refine wpAny_bind (wpAny_attempt (wpAny_callSpecial?_slot (name:=Str.ofString "__next__") hT F.slot_zip_next (wpAny_call_entry F.slot_zip_next hT F.entry_zip_next ?_ (F.args_zip_next_1 _))))
 show wpAny _ _ (field (.ref z) 2 >>= _) _ _ _
 refine wpAny_bind (wpAny_field hz rfl (x:=.bool false) rfl ?_);show wpAny _ _ (field (.ref z) 3 >>= _) _ _ _
 refine wpAny_bind (wpAny_field hz rfl (x:=.ref TI) rfl (wpAny_bind (wpAny_seqItems hTI rfl ?_)));show wpAny _ _ (Builtin.SmallTypes.ownedTupleIsFree (.ref z) >>= _) _ _ _
 refine wpAny_bind ?_;unfold Builtin.SmallTypes.ownedTupleIsFree
 refine wpAny_bind (wpAny_field hz rfl (x:=.none) rfl (wpAny_pure ?_));simp only [if_true]
 refine wpAny_bind (wpAny_rule (wpAny_bind (wpAny_field hz rfl (x:=.ref TO) rfl (wpAny_bind (wpAny_setField_rec hz (by simp) fun g1 z1 e1=>?_)))))
 replace z1:IsZip g1 z TI TO .ellipsis:=z1
 refine wpAny_bind ?_;simp only [List.zipIdx_cons,List.zipIdx_nil,List.forIn_cons,List.forIn_nil]
 refine wpAny_bind (wpAny_bind (wpAny_onRaise ?_));show wpAny _ _ (Builtin.SmallTypes.nextOf (.ref i1) >>= _) _ _ _
 refine wpAny_bind (zgo (h1.grow e1.extBut D.i1z) (hl1.grow e1.extBut D.l1z) hx fun g2 t1 e2=>wpAny_pure ?_)
 have p2:IsPair g2 TO a b:=e2.extBut _ _ D.TOi1 (e1.extBut _ _ D.TOz hTO)
 refine wpAny_bind (wpAny_seqItems p2 rfl (wpAny_bind (wpAny_updateSeq_pair p2 fun g3 p3 e3=>wpAny_bind (wpAny_letGo (wpAny_pure ?_)))))
 replace p3:IsPair g3 TO x b:=p3
 refine wpAny_bind (wpAny_bind (wpAny_onRaise ?_));show wpAny _ _ (Builtin.SmallTypes.nextOf (.ref i2) >>= _) _ _ _
 refine wpAny_bind (zgo (((h2.grow e1.extBut D.i2z).grow e2.extBut D.i12.symm).grow e3.extBut D.TOi2.symm) (((hl2.grow e1.extBut D.l2z).grow e2.extBut D.l2i1).grow e3.extBut D.l2TO) hy fun g4 t2 e4=>wpAny_pure ?_)
 have p4:IsPair g4 TO x b:=e4.extBut _ _ D.TOi2 p3
 refine wpAny_bind (wpAny_seqItems p4 rfl (wpAny_bind (wpAny_updateSeq_pair p4 fun g5 p5 e5=>wpAny_bind (wpAny_letGo (wpAny_pure (wpAny_pure ?_))))))
 replace p5:IsPair g5 TO x y:=p5
 refine wpAny_bind (wpAny_seqItems p5 rfl (wpAny_bind (wpAny_newTuple ?_)))
 have sz:g5.objs.size=s.heap.objs.size:=by rw [e5.1,e4.1,e3.1,e2.1,e1.1]
 have z5:IsZip g5 z TI TO .ellipsis:=e5.extBut _ _ D.TOz.symm (e4.extBut _ _ D.i2z.symm (e3.extBut _ _ D.TOz.symm (e2.extBut _ _ D.i1z.symm z1)))
 have k5:∀ c o,c≠z->c≠TO->c≠i1->c≠i2->s.heap.get? c=some o->g5.get? c=some o:=fun c o c1 c2 c3 c4 e=>e5.extBut _ _ c2 (e4.extBut _ _ c4 (e3.extBut _ _ c2 (e2.extBut _ _ c3 (e1.extBut _ _ c1 e))))
 have u1:zbv b1 g5 i1 l1 (k+1):=((t1.grow e3.extBut D.TOi1.symm).grow e4.extBut D.i12).grow e5.extBut D.TOi1.symm
 have u2:zbv b2 g5 i2 l2 (k+1):=t2.grow e5.extBut D.TOi2.symm
 have zl:z<g5.objs.size:=Heap.lt_size z5
 show wpAny _ _ (Builtin.SmallTypes.ownedTupleHandOut (.ref z) (.ref g5.objs.size) >>= _) _ _ _
 refine wpAny_bind ?_;unfold Builtin.SmallTypes.ownedTupleHandOut
 have z6:IsZip (g5.push { cls:=.type "tuple",data:=.seq #[x,y] }) z TI TO .ellipsis:=Heap.get?_push_of_some _ z5
 refine wpAny_bind (wpAny_setField_rec z6 (by simp) fun g7 z7 e7=>?_)
 replace z7:IsZip g7 z TI TO (rawInt g5.objs.size):=z7
 refine wpAny_setField_rec z7 (by simp) fun g8 z8 e8=>?_
 replace z8:IsZip g8 z TI TO (rawInt g5.objs.size):=z8
 have up:∀ c o,c≠z->g5.get? c=some o->g8.get? c=some o:=fun c o c1 e=>e8.extBut _ _ c1 (e7.extBut _ _ c1 (Heap.get?_push_of_some _ e))
 have t8:IsPair g8 g5.objs.size x y:=e8.extBut _ _ (Nat.ne_of_gt zl) (e7.extBut _ _ (Nat.ne_of_gt zl) (Heap.get?_push_size _ rfl))
 rw [sz] at z8 t8
 refine wpAny_pure ⟨_,rfl,wpAny_pure ?_⟩
 show Q (some (.ref g5.objs.size)) _
 rw [sz]
 exact hQ g8 z8 (up _ _ D.TOz p5) (u1.at fun o e=>up _ o D.i1z e) (u2.at fun o e=>up _ o D.i2z e) t8 fun c o c1 c2 c3 c4 e=>up c o c1 (k5 c o c1 c2 c3 c4 e)
theorem zoE {b1 b2:Bool}{z TI TO i1 i2 l1 l2:Addr}{k:Nat}{xs ys:Array Value}{a b:Value}{Q:Option Value->Shared->Prop}(hh:A.handled=none)(D:ZipApart z TI TO i1 i2 l1 l2)
  (hz:IsZip s.heap z TI TO .none) (hTI:IsPair s.heap TI (.ref i1) (.ref i2)) (hTO:IsPair s.heap TO a b) (h1:zbv b1 s.heap i1 l1 k) (h2:zbv b2 s.heap i2 l2 k) (hl1:zb7 b1 s.heap l1 xs) (hl2:zb7 b2 s.heap l2 ys) (hend:xs[k]?=none\/ys[k]?=none)
  (hQ:∀ h',(∀ c o,c≠z->c≠TO->c≠i1->c≠i2->s.heap.get? c=some o->h'.get? c=some o)->Q none { s with heap:=h' }):wpAny (model prog w) A (pyNext (.ref z)) Q E s:=by
 have hT:s.TypeIs (.ref z) "zip":=⟨_,hz,rfl⟩
 unfold pyNext
 refine wpAny_bind (wpAny_attempt (wpAny_callSpecial?_slot (name:=Str.ofString "__next__") hT F.slot_zip_next (wpAny_call_entry F.slot_zip_next hT F.entry_zip_next ?_ (F.args_zip_next_1 _))))
 have out:∀ h' e,(∀ c o,c≠z->c≠TO->c≠i1->c≠i2->s.heap.get? c=some o->h'.get? c=some o)->(∃ o,h'.get? e=some o/\o.cls=.type "StopIteration") ->
   wpAny (model prog w) A ((isInstance (.ref e) (.type "StopIteration")) >>= fun b=>if b=true then pure none else throw (.ref e)) Q E { s with heap:=h' }:=fun h' e hk he=>by
  obtain⟨o,ho,hc⟩:=he
  exact wpAny_bind (wpAny_isInstance (T:="StopIteration") (b:=true) ⟨o,ho,hc⟩ isSubtype_stop (wpAny_pure (hQ _ hk)))
 show wpAny _ _ (field (.ref z) 2 >>= _) _ _ _
 refine wpAny_bind (wpAny_field hz rfl (x:=.bool false) rfl ?_);show wpAny _ _ (field (.ref z) 3 >>= _) _ _ _
 refine wpAny_bind (wpAny_field hz rfl (x:=.ref TI) rfl (wpAny_bind (wpAny_seqItems hTI rfl ?_)));show wpAny _ _ (Builtin.SmallTypes.ownedTupleIsFree (.ref z) >>= _) _ _ _
 refine wpAny_bind ?_;unfold Builtin.SmallTypes.ownedTupleIsFree
 refine wpAny_bind (wpAny_field hz rfl (x:=.none) rfl (wpAny_pure ?_));simp only [if_true]
 refine wpAny_bind (wpAny_rule (wpAny_bind (wpAny_field hz rfl (x:=.ref TO) rfl (wpAny_bind (wpAny_setField_rec hz (by simp) fun g1 z1 e1=>?_)))))
 replace z1:IsZip g1 z TI TO .ellipsis:=z1
 refine wpAny_bind ?_;simp only [List.zipIdx_cons,List.zipIdx_nil,List.forIn_cons,List.forIn_nil]
 refine wpAny_bind (wpAny_bind (wpAny_onRaise ?_));show wpAny _ _ (Builtin.SmallTypes.nextOf (.ref i1) >>= _) _ _ _
 cases hx:xs[k]? with
 | none =>
  refine wpAny_bind (zj8 hh (h1.grow e1.extBut D.i1z) (hl1.grow e1.extBut D.l1z) hx fun g2 e e2 ⟨oe,hoe,hce⟩=>?_)
  have z2:IsZip g2 z TI TO .ellipsis:=e2 _ _ D.i1z.symm z1
  have ne:e≠z:=fun q=>by subst q;rw [z2] at hoe;cases hoe;simp at hce
  exact wpAny_setField_rec z2 (by simp) fun g3 _ e3=>out g3 e (fun c o c1 _ c3 _ q=>e3.extBut _ _ c1 (e2 _ _ c3 (e1.extBut _ _ c1 q))) ⟨oe,e3.extBut _ _ ne hoe,hce⟩
 | some x =>
  have hy:ys[k]?=none:=by rcases hend with h | h;rw [hx] at h;cases h;exact h
  refine wpAny_bind (zgo (h1.grow e1.extBut D.i1z) (hl1.grow e1.extBut D.l1z) hx fun g2 t1 e2=>wpAny_pure ?_)
  have p2:IsPair g2 TO a b:=e2.extBut _ _ D.TOi1 (e1.extBut _ _ D.TOz hTO)
  refine wpAny_bind (wpAny_seqItems p2 rfl (wpAny_bind (wpAny_updateSeq_pair p2 fun g3 p3 e3=>wpAny_bind (wpAny_letGo (wpAny_pure ?_)))))
  refine wpAny_bind (wpAny_bind (wpAny_onRaise ?_));show wpAny _ _ (Builtin.SmallTypes.nextOf (.ref i2) >>= _) _ _ _
  refine wpAny_bind (zj8 hh (((h2.grow e1.extBut D.i2z).grow e2.extBut D.i12.symm).grow e3.extBut D.TOi2.symm) (((hl2.grow e1.extBut D.l2z).grow e2.extBut D.l2i1).grow e3.extBut D.l2TO) hy fun g4 e e4 ⟨oe,hoe,hce⟩=>?_)
  have z4:IsZip g4 z TI TO .ellipsis:=e4 _ _ D.i2z.symm (e3.extBut _ _ D.TOz.symm (e2.extBut _ _ D.i1z.symm z1))
  have ne:e≠z:=fun q=>by subst q;rw [z4] at hoe;cases hoe;simp at hce
  exact wpAny_setField_rec z4 (by simp) fun g5 _ e5=>out g5 e (fun c o c1 c2 c3 c4 q=>e5.extBut _ _ c1 (e4 _ _ c4 (e3.extBut _ _ c2 (e2.extBut _ _ c3 (e1.extBut _ _ c1 q))))) ⟨oe,e5.extBut _ _ ne hoe,hce⟩
end
abbrev itN (b:Bool):String:=if b=true then "list_iterator" else "tuple_iterator"
abbrev zg1 (b:Bool)(h:Heap)(l:Addr):Heap:=h.push { cls:=.type (itN b),data:=.fields #[.ref l,.int 0 0] }
abbrev zg2 (b1 b2:Bool)(h:Heap)(l1 l2:Addr):Heap:=zg1 b2 (zg1 b1 h l1) l2
abbrev zg3 (b1 b2:Bool)(h:Heap)(l1 l2:Addr):Heap:=(zg2 b1 b2 h l1 l2).push { cls:=.type "tuple",data:=.seq #[.ref h.objs.size,.ref (zg1 b1 h l1).objs.size] }
abbrev zg4 (b1 b2:Bool)(h:Heap)(l1 l2:Addr):Heap:=(zg3 b1 b2 h l1 l2).push { cls:=.type "tuple",data:=.seq #[.none,.none] }
abbrev zg5 (b1 b2:Bool)(h:Heap)(l1 l2:Addr):Heap:=(zg4 b1 b2 h l1 l2).push { cls:=.type "zip",data:=.fields #[.none,.bool false,.bool false,.ref (zg2 b1 b2 h l1 l2).objs.size,.ref (zg3 b1 b2 h l1 l2).objs.size] }
theorem zb7.push {b:Bool}{h:Heap}{l:Addr}{xs:Array Value}(x:zb7 b h l xs)(o:Obj):zb7 b (h.push o) l xs:=by
 cases b
 ·obtain⟨u,hu,r⟩:h.IsTuple l xs:=x
  exact (⟨u,Heap.get?_push_of_some _ hu,r⟩:(h.push o).IsTuple l xs)
 ·obtain⟨u,hu,r⟩:h.IsList l xs:=x
  exact (⟨u,Heap.get?_push_of_some _ hu,r⟩:(h.push o).IsList l xs)
theorem zwx (b:Bool)(l1 l2:Addr)(xs ys:Array Value) :
  Meets (Builtin.«zip.__new__» ⟨[.type "zip",.ref l1,.ref l2],[]⟩) (fun _ R s=>zb7 b s.heap l1 xs/\zb7 b s.heap l2 ys/\R (.ok (.ret (.ref (zg4 b b s.heap l1 l2).objs.size))) { s with heap:=zg5 b b s.heap l1 l2 }):=by
 cases b
 ·exact .of_wp fun prog w A R s h=>by
   obtain⟨hp,g,d,tk,os⟩:=s
   obtain⟨h1,h2,h⟩:=h
   have hsub:=sub_zip
   have q1:Heap.IsTuple (Shared.heap ⟨hp,g,d,tk,os⟩) l1 xs:=h1
   have q2:Heap.IsTuple (Shared.heap ⟨hp.push { cls:=.type "tuple_iterator",data:=.fields #[.ref l1,.int 0 0] },g,d,tk,os⟩) l2 ys:=zb7.push (b:=false) h2 _
   wp_walk using wpAny_pyIter_tuple q1,wpAny_pyIter_tuple q2
   exact⟨_,rfl,h⟩
 ·exact meets_zip_new l1 l2 xs ys
theorem zqG {b:Bool}{h:Heap}{it l:Addr}(e:h.get? it=some { cls:=.type (itN b),data:=.fields #[.ref l,.int 0 0] }):zbv b h it l 0:=by
 cases b
 ·exact (⟨_,e,rfl,rfl⟩:h.IsTupleIter it l 0)
 ·exact (⟨_,e,rfl,rfl⟩:h.IsListIter it l 0)
section
variable {prog:Program}{w:World}{A:Around}{E:Value->Shared->Prop}{s:Shared}
theorem zu1 {b:Bool}{l1 l2:Addr}{xs ys:Array Value}{Q:Value->Shared->Prop}(hl1:zb7 b s.heap l1 xs)(hl2:zb7 b s.heap l2 ys)
  (h:∀ h',IsZip h' (s.heap.objs.size+4) (s.heap.objs.size+2) (s.heap.objs.size+3) .none->IsPair h' (s.heap.objs.size+2) (.ref s.heap.objs.size) (.ref (s.heap.objs.size+1))->IsPair h' (s.heap.objs.size+3) .none .none->zbv b h' s.heap.objs.size l1 0->zbv b h' (s.heap.objs.size+1) l2 0 ->
   (∀ c o,s.heap.get? c=some o->h'.get? c=some o)->Q (.ref (s.heap.objs.size+4)) { s with heap:=h' }):wpAny (model prog w) A (call (.type "zip") [.ref l1,.ref l2]) Q E s:=by
 refine callType_new F.called_zip (by decide) (F.typeCall_zip_2 _ _) (F.newCall_zip_2 _ _) (fun obj=>F.args_object_init_3 obj _ _) F.entry_zip_new (zwx b l1 l2 xs ys) ⟨hl1,hl2,?_⟩
 have s1:(zg1 b s.heap l1).objs.size=s.heap.objs.size+1:=Heap.size_push ..
 have s2:(zg2 b b s.heap l1 l2).objs.size=s.heap.objs.size+2:=by rw [Heap.size_push,s1]
 have s3:(zg3 b b s.heap l1 l2).objs.size=s.heap.objs.size+3:=by rw [Heap.size_push,s2]
 have s4:(zg4 b b s.heap l1 l2).objs.size=s.heap.objs.size+4:=by rw [Heap.size_push,s3]
 have v1:(zg5 b b s.heap l1 l2).get? s.heap.objs.size=some _:=(fun c o q=>Heap.get?_push_of_some _ (Heap.get?_push_of_some _ (Heap.get?_push_of_some _ (Heap.get?_push_of_some _ q))):∀ c o,(zg1 b s.heap l1).get? c=some o->(zg5 b b s.heap l1 l2).get? c=some o) _ _ (Heap.get?_push_size _ rfl)
 have v2:(zg5 b b s.heap l1 l2).get? (zg1 b s.heap l1).objs.size=some _:=(fun c o q=>Heap.get?_push_of_some _ (Heap.get?_push_of_some _ (Heap.get?_push_of_some _ q)):∀ c o,(zg2 b b s.heap l1 l2).get? c=some o->(zg5 b b s.heap l1 l2).get? c=some o) _ _ (Heap.get?_push_size _ rfl)
 have v3:(zg5 b b s.heap l1 l2).get? (zg2 b b s.heap l1 l2).objs.size=some _:=(fun c o q=>Heap.get?_push_of_some _ (Heap.get?_push_of_some _ q):∀ c o,(zg3 b b s.heap l1 l2).get? c=some o->(zg5 b b s.heap l1 l2).get? c=some o) _ _ (Heap.get?_push_size _ rfl)
 have v4:(zg5 b b s.heap l1 l2).get? (zg3 b b s.heap l1 l2).objs.size=some _:=Heap.get?_push_of_some _ (Heap.get?_push_size _ rfl)
 have v5:(zg5 b b s.heap l1 l2).get? (zg4 b b s.heap l1 l2).objs.size=some _:=Heap.get?_push_size _ rfl
 show _/\_
 rw [s2,s3,s4] at v5
 rw [s1,s2] at v3
 rw [s3] at v4
 rw [s1] at v2
 rw [s4]
 exact⟨⟨_,v5,rfl⟩,h _ v5 v3 v4 (zqG v1) (zqG v2) fun c o x=>Heap.get?_push_of_some _ (Heap.get?_push_of_some _ (Heap.get?_push_of_some _ (Heap.get?_push_of_some _ (Heap.get?_push_of_some _ x))))⟩
end
def SqB (K:PySem.W.Frag)(b:Bool)(H:Hp)(l:Addr)(xs:List V):Prop:=match b with
 | true=>SqL K H l xs
 | false=>SqT K H l xs
theorem SqB.items {X:Cx}{pins:List (Addr×Obj)}{σ:L2.St}{H:Hp}{s:Shared}{b:Bool}{l:Addr}{xs:List V}(I:Inv X pins σ H s)(h:SqB X.K b H l xs):∃ its:List Value,Vals xs its/\zb7 b s.heap l its.toArray:=by
 cases b
 ·obtain⟨its,r,p,_⟩:=I.tuple (show SqT X.K H l xs from h)
  exact⟨its,r,p⟩
 ·obtain⟨its,r,p,_⟩:=I.list (show SqL X.K H l xs from h)
  exact⟨its,r,p.isList⟩
theorem SqB.inj {X:Cx}{pins:List (Addr×Obj)}{σ:L2.St}{H:Hp}{s:Shared}{b:Bool}{l:Addr}{xs ys:List V}(I:Inv X pins σ H s)(h:SqB X.K b H l xs)(h':SqB X.K b H l ys):xs=ys:=by
 cases b
 ·exact I.tuple_inj (show SqT X.K H l xs from h) h'
 ·exact I.list_inj (show SqL X.K H l xs from h) h'
def zm0 (K:PySem.W.Frag)(b1 b2:Bool)(l1 l2:Addr):It :=
  ⟨fun i H=>∃ xs ys x y,SqB K b1 H l1 xs/\SqB K b2 H l2 ys/\xs[i]?=some x/\ys[i]?=some y,
   fun i H v H'=>∃ p,v=.ref p/\H p=none/\∀ xs ys x y,SqB K b1 H l1 xs->SqB K b2 H l2 ys->xs[i]?=some x->ys[i]?=some y->H'=upd H p (.tup [x,y]),
   fun i H=>∃ xs ys,SqB K b1 H l1 xs/\SqB K b2 H l2 ys/\(xs.length<=i\/ys.length<=i)⟩
theorem zoh {P:Program}{w:World}{K:PySem.W.Frag}{es:List Expr}{kk:Nat}{pos:Pos}{b1 b2:Bool}{z TI TO i1 i2 l1 l2:Addr}(D:ZipApart z TI TO i1 i2 l1 l2) :
  Turn P w K (.Tuple es kk pos) (zm0 K b1 b2 l1 l2) [z,TI,TO,i1,i2] z (fun i h=>IsZip h z TI TO .none/\IsPair h TI (.ref i1) (.ref i2)/\(∃ a b,IsPair h TO a b)/\zbv b1 h i1 l1 i/\zbv b2 h i2 l2 i) where
 mem:=by simp
 obj:=fun i h st b hb=>by
  obtain⟨hz,hTI,⟨a,c,hTO⟩,q1,q2⟩:=st
  obtain⟨o1,g1,_,_,d1⟩:=q1.obj
  obtain⟨o2,g2,_,_,d2⟩:=q2.obj
  simp only [List.mem_cons,List.not_mem_nil,or_false] at hb
  rcases hb with rfl | rfl | rfl | rfl | rfl
  ·exact⟨_,hz,fun v q=>by cases (show Data.fields _=Data.cell v from q)⟩
  ·exact⟨_,hTI,fun v q=>by cases (show Data.seq _ _=Data.cell v from q)⟩
  ·exact⟨_,hTO,fun v q=>by cases (show Data.seq _ _=Data.cell v from q)⟩
  ·exact⟨_,g1,fun v q=>by rw [d1] at q;cases q⟩
  ·exact⟨_,g2,fun v q=>by rw [d2] at q;cases q⟩
 keep:=fun i h h' st k=>by
  obtain⟨hz,hTI,⟨a,c,hTO⟩,q1,q2⟩:=st
  exact⟨k z (by simp) _ hz,k TI (by simp) _ hTI,⟨a,c,k TO (by simp) _ hTO⟩,q1.at fun o e=>k i1 (by simp) o e,q2.at fun o e=>k i2 (by simp) o e⟩
 item:=by
  intro X hP hw hK hc i pins s σ H E I hf st hg
  subst hP hw hK
  obtain⟨hz,hTI,⟨a,c,hTO⟩,q1,q2⟩:=st
  obtain⟨xs,ys,x,y,hx1,hy1,hx,hy⟩:=hg
  obtain⟨its,rx,px⟩:=hx1.items I
  obtain⟨jts,ry,py⟩:=hy1.items I
  obtain⟨u,hu,ru⟩:=Vals.get rx hx
  obtain⟨v,hv,rv⟩:=Vals.get ry hy
  refine zmP D hz hTI hTO q1 q2 px py (by simpa using hu) (by simpa using hv) fun h' a1 a2 a3 a4 a5 hk=>?_
  refine⟨_,rfl,wpAny_letOwnedTupleGo_zip a1 fun h'' hz'' hs''=>?_⟩
  have lt:∀ {c o},s.heap.get? c=some o->s.heap.objs.size≠c:=fun e=>Nat.ne_of_gt (Heap.lt_size e)
  have k2:∀ b u,b∉[z,TI,TO,i1,i2]->s.heap.get? b=some u->h''.get? b=some u:=fun b u hb e=>by
   simp only [List.mem_cons,List.not_mem_nil,or_false,not_or] at hb
   exact hs''.extBut b u hb.1 (hk b u hb.1 hb.2.2.1 hb.2.2.2.1 hb.2.2.2.2 e)
  have new:h''.get? s.heap.objs.size=some { cls:=.type "tuple",data:=.seq #[u,v] }:=hs''.extBut _ _ (lt hz) a5
  refine⟨.ref s.heap.objs.size,upd H s.heap.objs.size (.tup [x,y]),I.turnNew (t':=s.toks) hf k2 (Nat.le_refl _) ⟨by show 2<=sizeLine;decide,[u,v],.cons ru (.cons rv .nil),_,new,rfl,_,rfl⟩,rfl,⟨_,rfl,I.fresh,?_⟩,?_,fun b hb=>?_⟩
  ·intro xs' ys' x' y' hx1' hy1' hx' hy'
   cases hx1.inj I hx1'
   cases hy1.inj I hy1'
   rw [hx] at hx';rw [hy] at hy'
   cases hx';cases hy'
   rfl
  ·exact⟨hz'',hs''.extBut _ _ D.TIz (hk _ _ D.TIz D.TITO D.TIi1 D.TIi2 hTI),⟨_,_,hs''.extBut _ _ D.TOz a2⟩,a3.grow hs''.extBut D.i1z,a4.grow hs''.extBut D.i2z⟩
  ·have:∃ o,s.heap.get? b=some o:=by
    simp only [List.mem_cons,List.not_mem_nil,or_false] at hb
    obtain⟨o1,e1,_⟩:=q1.obj
    obtain⟨o2,e2,_⟩:=q2.obj
    rcases hb with rfl | rfl | rfl | rfl | rfl
    ·exact⟨_,hz⟩
    ·exact⟨_,hTI⟩
    ·exact⟨_,hTO⟩
    ·exact⟨_,e1⟩
    ·exact⟨_,e2⟩
   obtain⟨o,e⟩:=this
   rw [zW (lt e).symm]
   exact (hf b hb).1
 done:=by
  intro X hP hw hK hc i pins s σ H E I hf st hg
  subst hP hw hK
  obtain⟨hz,hTI,⟨a,c,hTO⟩,q1,q2⟩:=st
  obtain⟨xs,ys,hx1,hy1,hl⟩:=hg
  obtain⟨its,rx,px⟩:=hx1.items I
  obtain⟨jts,ry,py⟩:=hy1.items I
  have n1:=rx.length
  have n2:=ry.length
  refine zoE (I.ok.hd hc) D hz hTI hTO q1 q2 px py ?_ fun h' hk=>⟨rfl,I.turnedL (t':=s.toks) hf fun b u hb e=>?_⟩
  ·rcases hl with hl | hl
   ·exact .inl (by rw [List.getElem?_toArray];exact List.getElem?_eq_none (by omega))
   ·exact .inr (by rw [List.getElem?_toArray];exact List.getElem?_eq_none (by omega))
  ·simp only [List.mem_cons,List.not_mem_nil,or_false,not_or] at hb
   exact hk b u hb.1 hb.2.2.1 hb.2.2.2.1 hb.2.2.2.2 e
 self:=fun _ _ _ _ _ st h=>wpAny_pyIter_zip st.1 h
section
variable {X:Cx}
def zuP (K:PySem.W.Frag)(ta:TA):TI:=fun σ H R=>ta σ H fun vs H1=>∃ b l1 l2,vs=[.ref l1,.ref l2]/\(∃ xs,SqB K b H1 l1 xs)/\(∃ ys,SqB K b H1 l2 ys)/\R (zm0 K b b l1 l2) H1
theorem zrW {es:List Expr}{kk:Nat}{tpos:Pos}{a b:Expr}{ta:TA}{p pos:Pos}(hg:Gl X "zip")(hm:X.mg "zip"=none)(ha:PA X [a,b] ta)(hs:starEach [a,b] X.env=[(false,eval a X.env),(false,eval b X.env)]:=by rfl)(hs2:starEach [b] X.env=[(false,eval b X.env)]:=by rfl) :
    PI X (.Tuple es kk tpos) (.Call (.Name "zip" p) [a,b] [] pos) (zuP X.K ta):=by
  intro pins s σ H R I h
  refine Call_ (zcw I hg hm boot_zip (PyProof.Rows.callWith_type1 (thn (ha pos pins s σ H _ I h) fun us s1 ⟨vs,H1,I1,r1,q1⟩=>?_) (by rw [hs,hs2]) (by rw [hs2];rfl)))
  obtain⟨b',l1,l2,e,⟨xs,hx⟩,⟨ys,hy⟩,q⟩:=q1
  subst e
  obtain⟨u,v,rfl,ru,rv⟩:=vals2 r1
  cases ru
  cases rv
  obtain⟨its,rx,px⟩:=hx.items I1
  obtain⟨jts,ry,py⟩:=hy.items I1
  refine zu1 px py fun h' hz hTI hTO h1 h2 hk=>?_
  have I2:Inv X pins σ H1 { s1 with heap:=h' }:=I1.kept (t':=s1.toks) hk
  refine wpAny_pyIter_zip (s:={ s1 with heap:=h' }) hz ⟨_,_,_,_,H1,rfl,I2,zoh (PyProof.Rows.zipApart_new px.lt py.lt),⟨hz,hTI,⟨_,_,hTO⟩,h1,h2⟩,fun b hb=>?_,q⟩
  have hb':s1.heap.objs.size<=b:=by
    simp only [List.mem_cons,List.not_mem_nil,or_false] at hb
    rcases hb with rfl | rfl | rfl | rfl | rfl<;>first | exact Nat.le_add_right _ _ | exact Nat.le_refl _
  exact I1.fpOk hb' (I1.hok.fresh hb')
end
end My
namespace My
open PySem PySem.Spec PyProof.Rows L2
section
open AutoSeq1 (wpAny_loadPart')
theorem zwb (l:Addr)(items:Array Value)(n:Nat)(b:Addr)(items2:Array Value)(n2:Nat)(dct:Option Addr)(sl:Array (Option Value))(hs0:¬(!items.isEmpty&&Builtin.List.listTooLong (items.size+items2.size))=true)(hs1:items.size<=sizeLine)(hs2:items.size+items2.size<=sizeLine+1) :
  Meets (Builtin.«list.extend» ⟨[.ref l,.ref b],[]⟩) (fun _ R s=>s.heap.get? l=some { cls:=.type "list",dict:=none,data:=.seq items n,slots:=#[] }/\s.heap.get? b=some { cls:=.type "tuple",dict:=dct,data:=.seq items2 n2,slots:=sl }/\R (.ok (.ret Value.none)) { s with heap:=s.heap.update l (Obj.mapSeq fun x=>x++items2),toks:=s.toks }) :=
 .of_wp fun prog w A R s h=>by
  obtain⟨hp,g,d,tk,os⟩:=s
  obtain⟨hl,hb,h⟩:=h
  have f1:=AutoSeq1.idx_int
  have f2:=AutoSeq1.sub_tuple_tuple
  have f3:=AutoSeq1.sub_list_list
  have f4:=AutoSeq1.sub_tuple_list
  have f5:=AutoSeq1.sub_list_tuple
  have hz':(items++items2).size<=sizeLine+1:=by rw [Array.size_append];exact hs2
  wp_walk using (wpAny_updateSeq hl rfl (hz:=hs1) (_hz':=hz')),wpAny_loadPart' hl,wpAny_loadPart' hb
  exact⟨_,rfl,h⟩
end
section
variable {X:Cx}
def zpQ (K:PySem.W.Frag):V->List V->Hp->VK->Prop:=fun x vs H Q=>zmg x vs H Q\/∃ l b xs zs,x=.ref l/\vs=[.ref b]/\H l=some (.lst xs)/\SqT K H b zs/\xs.length+zs.length<=sizeLine/\Q .non (upd H l (.lst (xs++zs)))
theorem zmQ:MtM X "list.extend" (zpQ X.K):=by
 intro pins s σ H x vs v us Q I rx rv h
 rcases h with h | ⟨l,b,xs,zs,rfl,rfl,hH,hB,hz,q⟩
 ·exact zoH pins s σ H x vs v us Q I rx rv h
 cases rx
 obtain⟨u,rfl,ru⟩:=rv.one
 cases ru
 obtain⟨z,its,n,r,hl,e⟩:=I.lstM hH
 obtain⟨its2,r2,⟨⟨c,dct,dt,sl⟩,e2,hc,n2,hd⟩,z2⟩:=I.tuple hB
 replace hc:c=.type "tuple":=hc
 replace hd:dt=.seq its2.toArray n2:=hd
 subst hc hd
 have hl2:=r2.length
 have hsz:its.toArray.size+its2.toArray.size<=sizeLine:=by rw [List.size_toArray,List.size_toArray];omega
 have hlong:¬ (!its.toArray.isEmpty&&Builtin.List.listTooLong (its.toArray.size+its2.toArray.size))=true:=by
  rw [zkF hsz,Bool.and_false]
  exact Bool.false_ne_true
 refine call_meets F.slot_list_extend ⟨_,e,rfl⟩ F.entry_list_extend (F.args_list_extend_2 _ _)
  (zwb l its.toArray n b its2.toArray n2 dct sl hlong (by rw [List.size_toArray];omega) (by omega)) ⟨e,e2,?_⟩
 refine⟨.non,_,I.lset (its':=its++its2) hH e (by simp) (r.append r2) ?_,rfl,q⟩
 rw [List.length_append]
 omega
end
end My
namespace My
open PySem PySem.Spec PyProof.Rows L2
section
variable {prog:Program}{w:World}{A:Around}{E:Value->Shared->Prop}{s:Shared}
end
section
variable {X:Cx}
end
end My
namespace My
open PySem PySem.Spec PyProof.Rows L2
section
variable {X:Cx}
end
section
variable {X:Cx}
end
end My
namespace My
open PySem PySem.Spec PyProof.Rows L2
section
variable {prog:Program}{w:World}{A:Around}{E:Value->Shared->Prop}{s:Shared}
end
end My
namespace My
open PySem PySem.Spec PyProof.Rows L2
section
variable {prog:Program}{w:World}{A:Around}{E:Value->Shared->Prop}{s:Shared}
end
end My
namespace My
open PySem PySem.Spec PyProof.Rows L2
section
variable {prog:Program}{w:World}{A:Around}{E:Value->Shared->Prop}{s:Shared}
end
end My
namespace My
open PySem PySem.Spec PyProof.Rows L2
section
variable {prog:Program}{w:World}{A:Around}{s:Shared}
abbrev zgh (prog:Program)(w:World)(h:Heap)(a:Addr)(c:List Str):Prop:=h.SetOf (PySem.strKind prog w) a (fun y=>c.any (·==y)) c.length
theorem zgh.at {h h':Heap}{a:Addr}{c:List Str}(x:zgh prog w h a c)(k:∀ o,h.get? a=some o->h'.get? a=some o):zgh prog w h' a c :=
 let ⟨o,es,ep,t,ho,r⟩:=x;⟨o,es,ep,t,k o ho,r⟩
theorem loopS {R:Result->Shared->Prop}{it a:Addr}{fp wr:List Addr}{G:Array GenState->Array GenState->Prop}{n:Nat}{P:Nat->Value->Prop}{St:Nat->Shared->Prop}
  (W:WalksS prog w A.in1 it fp wr G n P St) (na:a∉fp) (f:Nat->Str) (hf:∀ i v,P i v->∃ t,v=.str (f i) t) (hb:n+1<scanBound) :
  ∀ (k i:Nat) (s:Shared),n-i=k->i<=n->St i s->zgh prog w s.heap a (Dp.zcE f i) ->
   (∀ s',Moved (a::wr) G s s'->zgh prog w s'.heap a (Dp.zcE f n)->R (.ok (.ret .none)) s') ->
   codeAny (model prog w) A (.builtin "set.update.loop" ⟨[.ref a,.ref it],[]⟩) R s
 | 0,i,s,hk,hi,st,hS,hR=>by
  have e:i=n:=by omega
  subst e
  refine codeAny_builtin PyProof.Rows.F.entry_set_update_loop ?_
  rw [Around.under_plainId PyProof.Rows.F.plain_set_update_loop]
  show wpAny _ A.in1 (pyNext (.ref it) >>= _) _ _ _
  refine wpAny_bind (W.done s _ _ st fun s' m=>wpAny_pure (hR s' (m.mono fun b q=>List.mem_cons_of_mem _ q) ?_))
  exact hS.at fun o q=>m.heap a o (fun z=>na (W.sub _ z)) q
 | k+1,i,s,hk,hi,st,hS,hR=>by
  refine codeAny_builtin PyProof.Rows.F.entry_set_update_loop ?_
  rw [Around.under_plainId PyProof.Rows.F.plain_set_update_loop]
  show wpAny _ A.in1 (pyNext (.ref it) >>= _) _ _ _
  refine wpAny_bind (W.item i s _ _ (by omega) st fun v s1 pv st1 m=>?_)
  obtain⟨t,rfl⟩:=hf i v pv
  have h1:zgh prog w s1.heap a (Dp.zcE f i):=hS.at fun o q=>m.heap a o (fun z=>na (W.sub _ z)) q
  show wpAny _ A.in1 (holding [Value.str (f i) t] (setAdd a (Value.str (f i) t)) >>= _) _ _ _
  refine wpAny_bind (wpAny_holding ?_)
  unfold setAdd
  refine wpAny_holding (wpAny_bind ((PySem.strKind prog w).pyHash (k:=f i) (strKind_is _ _ _ _) ?_))
  have room:(Dp.zcE f i).length+1<scanBound:=by have:=Dp.zjl f i;omega
  refine wpAny_setAddHashed_of (knd:=PySem.strKind prog w) (s:={ s1 with toks:=s1.toks+1 }) (strKind_is _ _ _ _) rfl h1 room fun h2 sb hS2=>?_
  have h3:zgh prog w h2 a (Dp.zcE f (i+1)):=SetOf_congr hS2 (fun y=>(Dp.zld _ _ _).symm) (Dp.zii _ _).symm
  refine wpAny_pure ⟨plainId_quiet PyProof.Rows.F.plain_set_update_loop _,loopS W na f hf hb k (i+1) _ (by omega) (by omega) (W.frame _ s1 _ _ st1 (Nat.le_succ _) fun b q o e=>?_) h3 fun s' m' hS'=>?_⟩
  ·exact (sb.2 b fun z=>na (z▸q)).trans e
  ·refine hR s' (Moved.trans W.gtrans ((m.mono fun b q=>List.mem_cons_of_mem _ q).then_heap (Nat.le_succ _) fun b o q e=>?_) m') hS'
   exact (sb.2 b fun z=>q (z▸List.mem_cons_self)).trans e
end
section
variable {prog:Program}{w:World}{A:Around}{E:Value->Shared->Prop}{s:Shared}
abbrev zgT (led:Bool):Obj:={ cls:=.type "set",dict:=none,data:=.set #[] 0 (.fresh 0 0 led) }
theorem zn5 {l:Addr}{its:Array Value}(f:Nat->Str){Q:Value->Shared->Prop}(hh:A.handled=none)(hl:s.heap.IsList l its)(hf:∀ (i:Nat) v,its[i]?=some v->∃ t,v=.str (f i) t)(hb:its.size+1<scanBound)
    (h:∀ (h':Heap) (tk:Nat),zgh prog w h' s.heap.objs.size (Dp.zcE f its.size)->(∀ b o,b<s.heap.objs.size->s.heap.get? b=some o->h'.get? b=some o)->Q (.ref s.heap.objs.size) { s with heap:=h',toks:=tk }) :
    wpAny (model prog w) A (call (.type "set") [.ref l]) Q E s:=by
  have ft:=F.called_set
  obtain⟨c,tl,hmro⟩:=ft.mro
  have hmade:=ft.made
  have hsub:=ft.sub
  have h1:=ft.notType
  have h2:=ft.canCreate
  have hct:=F.typeCall_set_1 (.ref l)
  refine wpAny_call (codeAny_of_tree ?_)
  show wpAny _ _ (callAny (.type "set") _) _ _ s
  refine wpAny_pure ⟨Code.quiet_builtin _ (by decide +kernel),codeAny_builtin F.entry_type_call ?_⟩
  rw [Around.under_plain (weight_type_call_type "set" [Value.ref l] []) rfl]
  repeat (any_goals (first | assumption | wp_step))
  refine codeAny_mono (code_set_new_1 (.ref l) (E:=E) (Q₁:=fun v s1=>∃ led:Bool,v=.ref s.heap.objs.size/\s1={ s with heap:=s.heap.push (zgT led) }) fun led=>⟨led,rfl,rfl⟩) fun r s1 hr=>?_
  cases r with
  | error e=>exact hr
  | ok fl =>
    cases fl with
    | ret v =>
      obtain⟨led,rfl,rfl⟩:=hr
      have e0:(s.heap.push (zgT led)).get? s.heap.objs.size=some (zgT led):=Heap.get?_push_size _ rfl
      have hT:Shared.TypeIs { s with heap:=s.heap.push (zgT led) } (.ref s.heap.objs.size) "set":=⟨_,e0,rfl⟩
      have hli:=ft.init.lookup
      have hbi:=ft.init.bind (.ref s.heap.objs.size)
      repeat (any_goals (first | assumption | wp_step))
      refine codeAny_mono (codeAny_call_builtin (R:=wants (fun r s2=>r=.none/\∃ h' tk,s2={ s with heap:=h',toks:=tk }/\zgh prog w h' s.heap.objs.size (Dp.zcE f its.size)/\∀ b o,b<s.heap.objs.size->s.heap.get? b=some o->h'.get? b=some o) E) ft.init.plain F.entry_set_init (check_set_init_1 hT ?_)) fun r2 s2 hr2=>?_
      · obtain⟨ol,hol,hcl,nl,hdl⟩:=hl
        obtain⟨ocl,odi,oda,osl⟩:=ol
        simp only at hcl hdl
        subst hcl hdl
        have hol2:(s.heap.push (zgT led)).get? l=some { cls:=.type "list",dict:=odi,data:=.seq its nl,slots:=osl }:=Heap.get?_push_of_some _ hol
        have k1:=F.sub_list_set
        have k2:=F.sub_list_frozenset
        have k3:(Value.type "list"==Value.type "dict")=false:=by decide
        have hl1:(s.heap.push (zgT led)).IsList l its:=⟨_,hol2,rfl,nl,rfl⟩
        unfold Builtin.«set.__init__» noKeywords Builtin.Frozenset.updateFrom
        generalize hPI:pyIter=PI
        wp_walk
        subst hPI
        refine wpAny_pyIter_list hl1 (wpAny_bind (wpAny_runValue ?_))
        have ll:l<s.heap.objs.size:=Heap.lt_size hol
        have n1:l≠(s.heap.push (zgT led)).objs.size:=by rw [Heap.size_push];exact Nat.ne_of_lt (Nat.lt_succ_of_lt ll)
        have n2:s.heap.objs.size∉[(s.heap.push (zgT led)).objs.size,l]:=by
          rw [Heap.size_push]
          intro z
          rcases List.mem_cons.mp z with z | z
          · exact Nat.ne_of_lt (Nat.lt_succ_self _) z
          · exact Nat.ne_of_gt ll (List.mem_singleton.mp z)
        refine loopS ((Walks.list (show _=none by simp [hh]) _ l n1 its).toS) n2 f hf hb (its.size-0) 0 _ (by omega) (Nat.zero_le _) ⟨⟨_,Heap.get?_push_size _ rfl,rfl,rfl⟩,hl1.push _⟩ ?_ fun s' m hS'=>?_
        · exact SetOf_congr ((setObjOf_fresh (knd:=PySem.strKind prog w) led).setOf (Heap.get?_push_of_some _ e0) (by unfold scanBound;omega)) (fun _=>rfl) rfl
        · obtain⟨h',g',d',tk',os'⟩:=s'
          cases (show g'=s.gens from m.gens)
          cases (show d'=s.drawn from m.drawn)
          cases (show os'=s.os from m.os)
          show wpAny _ _ _ _ _ _
          refine wpAny_pure (wpAny_pure ⟨rfl,h',tk',rfl,hS',fun b o q e=>?_⟩)
          refine m.heap b o (fun z=>?_) (Heap.get?_push_of_some _ (Heap.get?_push_of_some _ e))
          rcases List.mem_cons.mp z with z | z
          · exact Nat.ne_of_lt q z
          · have z':=List.mem_singleton.mp z
            rw [Heap.size_push] at z'
            exact Nat.ne_of_lt (Nat.lt_succ_of_lt q) z'
      · cases r2 with
        | error e=>exact hr2
        | ok fl2 =>
          cases fl2 with
          | ret r =>
            obtain⟨rfl,h',tk,rfl,hS',kp⟩:=hr2
            repeat (any_goals (first | assumption | wp_step))
            exact h _ _ hS' kp
          | _=>exact hr2.elim
    | _=>exact hr.elim
end
def zuH (K:PySem.W.Frag)(ta:TA):TE:=fun σ H Q=>ta σ H fun vs H1=>∃ l,∃ zs:List Str,vs=[.ref l]/\SqL K H1 l (zs.map V.str)/\zs.length<=4000/\Q (.int (Dp.zcE (fun i=>zs.getD i Str.empty) zs.length).length) H1
theorem zkH:∀ {zs:List Str} {us:List Value},Vals (zs.map V.str) us->∀ (i:Nat) v,us[i]?=some v->∃ t,v=.str (zs.getD i Str.empty) t
 | [],_,.nil,i,v,e=>by simp at e
 | z::zs,_,.cons r t,0,v,e=>by
  obtain⟨t,rfl⟩:=r
  simp at e
  exact⟨t,e.symm⟩
 | z::zs,_,.cons r t,i+1,v,e=>by
  obtain⟨t,h⟩:=zkH t i v (by simpa using e)
  exact⟨t,by rw [h];simp⟩
theorem zrf {X:Cx}{a:Expr}{ta:TA}{p1 p2 pos1 pos2:Pos}(hc:X.calm=true)(hgl:Gl X "len")(hml:X.mg "len"=none)(hgr:Gl X "set")(hmr:X.mg "set"=none)(ha:PA X [a] ta)
  (hs:starEach [a] X.env=[(false,eval a X.env)]:=by rfl)
  (hs3:starEach [.Call (.Name "set" p2) [a] [] pos2] X.env=[(false,eval (.Call (.Name "set" p2) [a] [] pos2) X.env)]:=by rfl) :
  PE X (.Call (.Name "len" p1) [.Call (.Name "set" p2) [a] [] pos2] [] pos1) (zuH X.K ta):=by
 intro pins s σ H Q I h
 refine Call_ (zcw I hgl hml boot_len (PyProof.Rows.callWith_builtin1 ?_ (by rw [hs3];rfl) (by rfl)))
 rw [hs3]
 show wpAny _ _ (spliced ((false,eval (.Call (.Name "set" p2) [a] [] pos2) X.env)::backTo pos1 [])) _ _ s
 refine Calls.spliced_cons (Call_ (zcw I hgr hmr boot_set (PyProof.Rows.callWith_type1 (thn (ha pos2 pins s σ H _ I h) fun us s1 ⟨vs,H1,I1,r1,q1⟩=>?_) hs rfl)))
 obtain⟨l,zs,e,hx,h4,q⟩:=q1
 subst e
 obtain⟨u,rfl,ru⟩:=vals1 r1
 cases ru
 obtain⟨its,rx,px,zx⟩:=I1.list hx
 have sz:its.toArray.size=zs.length:=by rw [List.size_toArray,<- rx.length,List.length_map]
 refine zn5 (fun i=>zs.getD i Str.empty) (show _=none from I1.ok.hd hc) px.isList (fun i v e=>zkH rx i v (by simpa using e)) (by rw [sz];unfold scanBound;omega) fun h' tk hS kp=>Calls.spliced_nil ?_
 rw [sz] at hS
 have le:=Dp.zjl (fun i=>zs.getD i Str.empty) zs.length
 obtain⟨o,es,ep,t,ho,hex,hd,_,_,_,hf,hn⟩:=hS
 refine call_len_set ho hex hd hf (by omega) ?_
 rw [hn]
 exact⟨.int _,H1,I1.kept (t':=tk+1+1) (fun b o q=>kp b o (Heap.lt_size q) q),⟨_,rfl⟩,q⟩
end My
namespace Dp
open PySem PySem.Spec PyProof.Rows L2 My
def isStar:Expr->Bool
 | .Starred _ _=>true
 | _=>false
theorem zbz {e:Expr}{es:List Expr}{env:Env}(h:isStar e=false):starEach (e::es) env=(false,eval e env)::starEach es env:=by
  cases e<;>first | rfl | cases h
theorem zds {pos:Pos}{env:Env}:∀ {es:List Expr},es.all (fun e=>!isStar e)=true->(backTo pos (starEach es env)).any (·.1)=false
 | [],_=>rfl
 | e::es,h=>by
  rw [List.all_cons,Bool.and_eq_true] at h
  rw [zbz (by simpa using h.1)]
  show (false||(backTo pos (starEach es env)).any (·.1))=false
  rw [zds h.2];rfl
theorem zd4 {e:Expr}{env:Env}(h:isStar e=false):starEach [e] env=[(false,eval e env)]:=zbz h
theorem zle {e g:Expr}{env:Env}(h:isStar e=false)(k:isStar g=false):starEach [e,g] env=[(false,eval e env),(false,eval g env)]:=by rw [zbz h,zd4 k]
def zim (K:PySem.W.Frag)(H:Hp)(a:Addr)(xs:List V):Prop :=
 (∃ o,H a=some (.frz o (.lst xs)))\/∃ (o:Obj) (its:Array Value) (n:Nat),K.lookup a=some o/\o.cls=.type "list"/\o.dict=none/\o.data=.seq its n/\its.size<=sizeLine/\Vals xs its.toList
theorem zim.sq {K:PySem.W.Frag}{H:Hp}{a:Addr}{xs:List V}(h:zim K H a xs):SqL K H a xs:=h.imp (fun h=>.inr h) id
mutual
inductive Rel (K:PySem.W.Frag)(ad:List Addr)(H:Hp):D->V->Prop
 | non:Rel K ad H .non .non
 | bl (b:Bool):Rel K ad H (.bl b) (.bl b)
 | int (i:Int):Rel K ad H (.int i) (.int i)
 | str (x:Str):Rel K ad H (.str x) (.str x)
 | ty (n:String):Rel K ad H (.ty n) (.ty n)
 | tup {a:Addr} {vs:List V} {ds:List D}:H a=some (.tup vs)->zJ K ad H ds vs->Rel K ad H (.tup ds) (.ref a)
 | rl {a:Addr} {vs:List V} {ds:List D}:zim K H a vs->zJ K ad H ds vs->Rel K ad H (.rl ds) (.ref a)
 | ref {n:Nat} {a:Addr}:ad[n]?=some a->Rel K ad H (.ref n) (.ref a)
 | exn {c:Str} {a C:Addr} {o:Obj} {u:HO}:H a=some (.frz o u)->o.cls=.ref C->PySem.W.nsIn K mainGlobals c=some (some (.ref C))->Rel K ad H (.exn c) (.ref a)
inductive zJ (K:PySem.W.Frag)(ad:List Addr)(H:Hp):List D->List V->Prop
 | nil:zJ K ad H [] []
 | cons {d:D} {v:V} {ds:List D} {vs:List V}:Rel K ad H d v->zJ K ad H ds vs->zJ K ad H (d::ds) (v::vs)
end
structure Wd (ad:List Addr)(H:Hp)(ad':List Addr)(H':Hp):Prop where
 pre:ad <+: ad'
 keep:∀ b o,b∉ad->H b=some o->H' b=some o
 tup:∀ b xs,H b=some (.tup xs)->H' b=some (.tup xs)
 frz:∀ b o u,H b=some (.frz o u)->H' b=some (.frz o u)
 new:∀ b,b∈ad'->b∉ad->H b=none
theorem Wd.refl {ad:List Addr}{H:Hp}:Wd ad H ad H:=⟨List.prefix_refl _,fun _ _ _ h=>h,fun _ _ h=>h,fun _ _ _ h=>h,fun _ h n=>absurd h n⟩
theorem Wd.trans {ad ad1 ad2:List Addr}{H H1 H2:Hp}(a:Wd ad H ad1 H1)(b:Wd ad1 H1 ad2 H2):Wd ad H ad2 H2 where
 pre:=a.pre.trans b.pre
 keep:=fun c o hc h=>b.keep c o (fun h1=>by rw [a.new c h1 hc] at h;cases h) (a.keep c o hc h)
 tup:=fun c xs h=>b.tup c xs (a.tup c xs h)
 frz:=fun c o u h=>b.frz c o u (a.frz c o u h)
 new:=fun c h2 hc=>by
  by_cases h1:c∈ad1
  ·exact a.new c h1 hc
  ·have n1:=b.new c h2 h1
   cases e:H c with
   | none=>rfl
   | some o=>rw [a.keep c o hc e] at n1;cases n1
theorem zjx {α:Type}{l l':List α}(h:l <+: l'){n:Nat}{a:α}(e:l[n]?=some a):l'[n]?=some a:=by
 obtain⟨t,rfl⟩:=h
 rw [List.getElem?_append_left (My.zbe e)];exact e
structure Wr (ad:List Addr)(H:Hp)(ad':List Addr)(H':Hp):Prop where
 pre:ad <+: ad'
 tup:∀ b xs,H b=some (.tup xs)->H' b=some (.tup xs)
 frz:∀ b o u,H b=some (.frz o u)->H' b=some (.frz o u)
theorem Wd.wr {ad ad':List Addr}{H H':Hp}(w:Wd ad H ad' H'):Wr ad H ad' H':=⟨w.pre,w.tup,w.frz⟩
theorem zim.wr {K:PySem.W.Frag}{ad ad':List Addr}{H H':Hp}{a:Addr}{xs:List V}(w:Wr ad H ad' H')(h:zim K H a xs):zim K H' a xs:=h.imp (fun⟨o,e⟩=>⟨o,w.frz _ _ _ e⟩) id
mutual
theorem Rel.wr {K:PySem.W.Frag}{ad ad':List Addr}{H H':Hp}(w:Wr ad H ad' H'):∀ {d:D} {v:V},Rel K ad H d v->Rel K ad' H' d v
 | _,_,.non=>.non
 | _,_,.bl b=>.bl b
 | _,_,.int i=>.int i
 | _,_,.str x=>.str x
 | _,_,.ty n=>.ty n
 | _,_,.tup h r=>.tup (w.tup _ _ h) (zJ.wr w r)
 | _,_,.rl h r=>.rl (h.wr w) (zJ.wr w r)
 | _,_,.ref h=>.ref (zjx w.pre h)
 | _,_,.exn h e n=>.exn (w.frz _ _ _ h) e n
theorem zJ.wr {K:PySem.W.Frag}{ad ad':List Addr}{H H':Hp}(w:Wr ad H ad' H'):∀ {ds:List D} {vs:List V},zJ K ad H ds vs->zJ K ad' H' ds vs
 | _,_,.nil=>.nil
 | _,_,.cons r t=>.cons (Rel.wr w r) (zJ.wr w t)
end
theorem Rel.wd {K:PySem.W.Frag}{ad ad':List Addr}{H H':Hp}{d:D}{v:V}(r:Rel K ad H d v)(w:Wd ad H ad' H'):Rel K ad' H' d v:=Rel.wr w.wr r
theorem zJ.wd {K:PySem.W.Frag}{ad ad':List Addr}{H H':Hp}{ds:List D}{vs:List V}(r:zJ K ad H ds vs)(w:Wd ad H ad' H'):zJ K ad' H' ds vs:=zJ.wr w.wr r
section
variable {K:PySem.W.Frag}{ad:List Addr}{H:Hp}
theorem zJ.length:∀ {ds:List D} {vs:List V},zJ K ad H ds vs->ds.length=vs.length
  | _,_,.nil=>rfl
  | _,_,.cons _ t=>congrArg (· + 1) (zJ.length t)
theorem zJ.get:∀ {ds:List D} {vs:List V} {i:Nat} {d:D},zJ K ad H ds vs->ds[i]?=some d->∃ v,vs[i]?=some v/\Rel K ad H d v
 | _,_,_,_,.nil,e=>by simp at e
 | _,_,0,_,.cons r _,e=>by simp at e;subst e;exact⟨_,rfl,r⟩
 | _,_,i+1,d,.cons _ t,e=>by
  obtain⟨v,h1,h2⟩:=zJ.get (i:=i) (d:=d) t (by simpa using e)
  exact⟨v,by simpa using h1,h2⟩
theorem zJ.append:∀ {ds es:List D} {vs us:List V},zJ K ad H ds vs->zJ K ad H es us->zJ K ad H (ds++es) (vs++us)
 | _,_,_,_,.nil,s=>s
 | _,_,_,_,.cons r t,s=>.cons r (zJ.append t s)
theorem zJ.take:∀ {ds:List D} {vs:List V} (n:Nat),zJ K ad H ds vs->zJ K ad H (ds.take n) (vs.take n)
 | _,_,0,_=>.nil
 | _,_,_+1,.nil=>.nil
 | _,_,n+1,.cons r t=>.cons r (zJ.take n t)
theorem zJ.drop:∀ {ds:List D} {vs:List V} (n:Nat),zJ K ad H ds vs->zJ K ad H (ds.drop n) (vs.drop n)
 | _,_,0,r=>r
 | _,_,_+1,.nil=>.nil
 | _,_,n+1,.cons _ t=>zJ.drop n t
theorem zJ.set {d:D}{v:V}(r:Rel K ad H d v):∀ {ds:List D} {vs:List V} (i:Nat),zJ K ad H ds vs->zJ K ad H (ds.set i d) (vs.set i v)
 | _,_,_,.nil=>.nil
 | _,_,0,.cons _ t=>.cons r t
 | _,_,i+1,.cons q t=>.cons q (zJ.set r i t)
theorem zJ.reverse:∀ {ds:List D} {vs:List V},zJ K ad H ds vs->zJ K ad H ds.reverse vs.reverse
 | _,_,.nil=>.nil
 | _,_,.cons r t=>by rw [List.reverse_cons,List.reverse_cons];exact (zJ.reverse t).append (.cons r .nil)
theorem zJ.ints:∀ {ns:List Int} {vs:List V},zJ K ad H (ns.map D.int) vs->vs=ns.map V.int
 | [],_,.nil=>rfl
 | n::ns,_,.cons r t=>by cases r;rw [zJ.ints t];rfl
theorem zJ.bls:∀ {ns:List Bool} {vs:List V},zJ K ad H (ns.map D.bl) vs->vs=ns.map V.bl
 | [],_,.nil=>rfl
 | n::ns,_,.cons r t=>by cases r;rw [zJ.bls t];rfl
theorem zJ.mk_ints:∀ (ns:List Int),zJ K ad H (ns.map D.int) (ns.map V.int)
 | []=>.nil
 | n::ns=>.cons (.int n) (zJ.mk_ints ns)
end
inductive zaQ (K:PySem.W.Frag)(ad:List Addr)(H:Hp):List (Str×D)->List (Str×V)->Prop
 | nil:zaQ K ad H [] []
 | cons {f:Str} {d:D} {v:V} {fs:List (Str×D)} {vs:List (Str×V)}:Rel K ad H d v->zaQ K ad H fs vs->zaQ K ad H ((f,d)::fs) ((f,v)::vs)
theorem zaQ.wr {K:PySem.W.Frag}{ad ad':List Addr}{H H':Hp}(w:Wr ad H ad' H'):∀ {fs:List (Str×D)} {vs:List (Str×V)},zaQ K ad H fs vs->zaQ K ad' H' fs vs
 | _,_,.nil=>.nil
 | _,_,.cons r t=>.cons (Rel.wr w r) (zaQ.wr w t)
theorem zaQ.look {K:PySem.W.Frag}{ad:List Addr}{H:Hp}{f:Str}:∀ {fs:List (Str×D)} {vs:List (Str×V)} {d:D},zaQ K ad H fs vs->fs.lookup f=some d->∃ v,vs.lookup f=some v/\Rel K ad H d v
 | _,_,d,.nil,e=>by simp at e
 | _,_,d,@zaQ.cons _ _ _ g x v fs vs r t,e=>by
  rw [List.lookup_cons] at e ⊢
  cases h:f==g with
  | true=>rw [h] at e;cases e;exact⟨v,rfl,r⟩
  | false=>rw [h] at e;exact zaQ.look t e
theorem zaQ.put {K:PySem.W.Frag}{ad:List Addr}{H:Hp}{f:Str}{d:D}{v:V}(rd:Rel K ad H d v):∀ {fs:List (Str×D)} {vs:List (Str×V)},zaQ K ad H fs vs->zaQ K ad H (putD f d fs) (zbS f v vs)
 | _,_,.nil=>.cons rd .nil
 | _,_,@zaQ.cons _ _ _ g x u fs vs r t=>by
  show zaQ K ad H (if g=f then (g,d)::fs else (g,x)::putD f d fs) (if g=f then (g,v)::vs else (g,u)::zbS f v vs)
  by_cases h:g=f
  ·rw [if_pos h,if_pos h];exact .cons rd t
  ·rw [if_neg h,if_neg h];exact .cons r (zaQ.put rd t)
theorem zaQ.length {K:PySem.W.Frag}{ad:List Addr}{H:Hp}:∀ {fs:List (Str×D)} {vs:List (Str×V)},zaQ K ad H fs vs->fs.length=vs.length
  | _,_,.nil=>rfl
  | _,_,.cons _ t=>congrArg (· + 1) (zaQ.length t)
theorem zkz {f:Str}{d:D}{q:Str×D}:∀ {fs:List (Str×D)},q∈putD f d fs->q.1=f\/q∈fs
 | [],h=>by
  have:q=(f,d):=by simpa [putD] using h
  subst this;exact .inl rfl
 | (g,x)::fs,h=>by
  have h:q∈if g=f then (g,d)::fs else (g,x)::putD f d fs:=h
  by_cases e:g=f
  ·rw [if_pos e] at h
   rcases List.mem_cons.mp h with rfl | h
   ·exact .inl e
   ·exact .inr (List.mem_cons_of_mem _ h)
  ·rw [if_neg e] at h
   rcases List.mem_cons.mp h with rfl | h
   ·exact .inr (by simp)
   ·exact (zkz h).imp id (List.mem_cons_of_mem _)
theorem zla {f:Str}{d:D}:∀ {fs:List (Str×D)},fs.lookup f=some d->∃ q∈fs,q.1=f
 | [],e=>by simp at e
 | (g,x)::fs,e=>by
  rw [List.lookup_cons] at e
  cases h:f==g with
  | true=>exact⟨(g,x),by simp,(eq_of_beq h).symm⟩
  | false =>
   rw [h] at e
   obtain⟨q,hq,e'⟩:=zla e
   exact⟨q,List.mem_cons_of_mem _ hq,e'⟩
def zdb (K:PySem.W.Frag)(ad:List Addr)(H:Hp)(a:Addr):Cell->Prop
 | .lst ds=>∃ vs,H a=some (.lst vs)/\zJ K ad H ds vs
 | .ins c fs=>∃ C dx vs,H a=some (.ins C dx vs)/\Cls K C/\PySem.W.nsIn K mainGlobals c=some (some (.ref C))/\zaQ K ad H fs vs/\∀ q∈fs,zau K C q.1
class Bs where
 ad:List Addr
 H:Hp
structure zR [B:Bs](K:PySem.W.Frag)(ad:List Addr)(H:Hp)(S:Sto):Prop where
 wd:Wd B.ad B.H ad H
 len:ad.length=S.length
 nd:ad.Nodup
 cell:∀ (n:Nat) (a:Addr) (c:Cell),ad[n]?=some a->S[n]?=some c->zdb K ad H a c
structure zar (K:PySem.W.Frag)(ad:List Addr)(H:Hp)(ρ:Rho)(σ:L2.St):Prop where
 len:ρ.length=σ.length
 val:∀ (i:Nat) (d:D),ρ[i]?=some (some d)->∃ v,σ[i]?=some (some v)/\Rel K ad H d v
theorem zar.wd {K:PySem.W.Frag}{ad ad':List Addr}{H H':Hp}{ρ:Rho}{σ:L2.St}(h:zar K ad H ρ σ)(w:Wd ad H ad' H'):zar K ad' H' ρ σ :=
 ⟨h.len,fun i d e=>let ⟨v,e',r⟩:=h.val i d e;⟨v,e',r.wd w⟩⟩
variable [B:Bs]
section
variable {K:PySem.W.Frag}{ad:List Addr}{H:Hp}{S:Sto}
theorem zR.get (st:zR K ad H S){n:Nat}{c:Cell}(h:S[n]?=some c):∃ a,ad[n]?=some a/\zdb K ad H a c:=by
 have hn:n<ad.length:=by rw [st.len];exact My.zbe h
 exact⟨ad[n],List.getElem?_eq_getElem hn,st.cell n _ c (List.getElem?_eq_getElem hn) h⟩
theorem zdb.some {a:Addr}{c:Cell}(h:zdb K ad H a c):∃ o,H a=some o:=by
 cases c with
 | lst ds=>obtain⟨vs,e,_⟩:=h;exact⟨_,e⟩
 | ins c fs=>obtain⟨C,dx,vs,e,_⟩:=h;exact⟨_,e⟩
theorem zR.there (st:zR K ad H S){a:Addr}(h:a∈ad):∃ o,H a=some o:=by
 obtain⟨n,hn,e⟩:=List.mem_iff_getElem.mp h
 have e':ad[n]?=some a:=by rw [List.getElem?_eq_getElem hn,e]
 have hs:n<S.length:=by rw [<- st.len];exact hn
 exact (st.cell n a S[n] e' (List.getElem?_eq_getElem hs)).some
theorem zR.fresh (st:zR K ad H S){l:Addr}(h:H l=none):l∉ad:=fun m=>by
 obtain⟨o,e⟩:=st.there m
 rw [h] at e;cases e
theorem zdb.wr {ad':List Addr}{H':Hp}{a:Addr}{c:Cell}(h:zdb K ad H a c)(w:Wr ad H ad' H')(same:H' a=H a):zdb K ad' H' a c:=by
 cases c with
 | lst ds=>obtain⟨vs,e,r⟩:=h;exact⟨vs,same.trans e,zJ.wr w r⟩
 | ins c fs=>obtain⟨C,dx,vs,e,c1,c2,r,n⟩:=h;exact⟨C,dx,vs,same.trans e,c1,c2,zaQ.wr w r,n⟩
theorem zdb.wd {ad':List Addr}{H':Hp}{a:Addr}{c:Cell}(h:zdb K ad H a c)(w:Wd ad H ad' H')(same:H' a=H a):zdb K ad' H' a c:=h.wr w.wr same
theorem Wd.laid {l:Addr}{o:HO}(h:H l=none):Wd ad H ad (upd H l o) :=
 ⟨List.prefix_refl _,fun b u _ e=>zeF h e,fun b u e=>zeF h e,fun b u w e=>zeF h e,fun _ m n=>absurd m n⟩
theorem zR.bfree (st:zR K ad H S){p:Addr}(h:H p=none):B.H p=none:=by
 cases e:B.H p with
 | none=>rfl
 | some o =>
  by_cases m:p∈B.ad
  ·obtain⟨u,hu⟩:=st.there (st.wd.pre.subset m)
   rw [h] at hu;cases hu
  ·rw [st.wd.keep p o m e] at h;cases h
theorem zR.laid (st:zR K ad H S){l:Addr}{o:HO}(h:H l=none):zR K ad (upd H l o) S :=
 ⟨st.wd.trans (Wd.laid h),st.len,st.nd,fun n a c e1 e2=>(st.cell n a c e1 e2).wd (Wd.laid h) (by
  obtain⟨u,e⟩:=(st.cell n a c e1 e2).some
  rw [zeF h e,e])⟩
theorem Wd.newL (st:zR K ad H S){l:Addr}{o:HO}(h:H l=none):Wd ad H (ad++[l]) (upd H l o) :=
 ⟨List.prefix_append _ _,fun b u _ e=>zeF h e,fun b u e=>zeF h e,fun b u w e=>zeF h e,fun b m n=>by
  rcases List.mem_append.mp m with m | m
  ·exact absurd m n
  ·have:b=l:=by simpa using m
   subst this;exact h⟩
theorem zR.newL (st:zR K ad H S){l:Addr}{vs:List V}{ds:List D}(h:H l=none)(r:zJ K ad H ds vs):zR K (ad++[l]) (upd H l (.lst vs)) (S++[.lst ds]) where
 wd:=st.wd.trans (Wd.newL st h)
 len:=by rw [List.length_append,List.length_append,st.len];rfl
 nd:=by
  rw [List.nodup_append]
  refine⟨st.nd,by simp,fun a ha b hb e=>?_⟩
  have:b=l:=by simpa using hb
  subst this;subst e
  exact st.fresh h ha
 cell:=fun n a c e1 e2=>by
  by_cases hn:n<ad.length
  ·rw [List.getElem?_append_left hn] at e1
   rw [List.getElem?_append_left (by rw [<- st.len];exact hn)] at e2
   have ok:=st.cell n a c e1 e2
   obtain⟨u,e⟩:=ok.some
   exact ok.wd (Wd.newL st h) (by rw [zeF h e,e])
  ·have hn':ad.length<=n:=Nat.le_of_not_lt hn
   rw [List.getElem?_append_right hn'] at e1
   rw [List.getElem?_append_right (by rw [<- st.len];exact hn'),<- st.len] at e2
   cases hk:n-ad.length with
   | zero =>
    rw [hk] at e1 e2
    have e1':l=a:=by simpa using e1
    have e2':Cell.lst ds=c:=by simpa using e2
    subst e1' e2'
    exact⟨vs,zaF,r.wd (Wd.newL st h)⟩
   | succ k=>rw [hk] at e1;simp at e1
theorem zR.newRef (st:zR K ad H S){l:Addr}{o:HO}:Rel K (ad++[l]) (upd H l o) (.ref S.length) (.ref l):=.ref (by rw [<- st.len,List.getElem?_append_right (Nat.le_refl _),Nat.sub_self];rfl)
theorem Wd.put {n:Nat}{a:Addr}{vs ws:List V}(e:ad[n]?=some a)(h:H a=some (.lst vs)):Wd ad H ad (upd H a (.lst ws)) :=
 ⟨List.prefix_refl _,fun b u hb q=>by
   have:b≠a:=fun z=>hb (by rw [z];exact List.mem_of_getElem? e)
   rw [zW this];exact q,
  fun b xs q=>by rw [zW (zhA q h (by intro z;cases z))];exact q,fun b o u q=>by rw [zW (zhA q h (by intro z;cases z))];exact q,fun _ m n=>absurd m n⟩
theorem zR.put (st:zR K ad H S){n:Nat}{a:Addr}{vs ws:List V}{ds:List D}(e:ad[n]?=some a)(h:H a=some (.lst vs))(r:zJ K ad H ds ws):zR K ad (upd H a (.lst ws)) (S.set n (.lst ds)) where
 wd:=st.wd.trans (Wd.put e h)
 len:=by rw [List.length_set];exact st.len
 nd:=st.nd
 cell:=fun m b c e1 e2=>by
  have w:=Wd.put (ws:=ws) e h
  by_cases hm:m=n
  ·subst hm
   rw [e] at e1;cases e1
   rw [List.getElem?_set_self (by rw [<- st.len];exact My.zbe e)] at e2
   cases e2
   exact⟨ws,zaF,r.wd w⟩
  ·rw [List.getElem?_set_ne (Ne.symm hm)] at e2
   have ne:b≠a:=fun z=>by
    subst z
    have h1:=My.zbe e1
    have h2:=My.zbe e
    have q1:=(List.getElem?_eq_some_iff.mp e1).2
    have q2:=(List.getElem?_eq_some_iff.mp e).2
    exact hm ((List.getElem_inj st.nd).mp (q1.trans q2.symm))
   exact (st.cell m b c e1 e2).wd w (zW ne)
theorem zR.newI (st:zR K ad H S){x dx C:Addr}{c:Str}(h:H x=none)(h2:H dx=none)(hne:dx≠x)(hc:Cls K C)(hn:PySem.W.nsIn K mainGlobals c=some (some (.ref C))) :
  Wd ad H (ad++[x]) (upd (upd H dx (.own x)) x (.ins C dx []))/\zR K (ad++[x]) (upd (upd H dx (.own x)) x (.ins C dx [])) (S++[.ins c []]):=by
 have st1:=st.laid (o:=.own x) h2
 have hx:upd H dx (.own x) x=none:=by rw [zW (Ne.symm hne)];exact h
 have w1:Wd ad H ad (upd H dx (.own x)):=Wd.laid h2
 have w2:Wd ad (upd H dx (.own x)) (ad++[x]) (upd (upd H dx (.own x)) x (.ins C dx [])):=Wd.newL st1 hx
 refine⟨w1.trans w2,st.wd.trans (w1.trans w2),?_,?_,fun n a c' e1 e2=>?_⟩
 ·rw [List.length_append,List.length_append,st.len];rfl
 ·rw [List.nodup_append]
  refine⟨st.nd,by simp,fun a ha b hb e=>?_⟩
  have:b=x:=by simpa using hb
  subst this;subst e
  exact st.fresh h ha
 ·by_cases hn':n<ad.length
  ·rw [List.getElem?_append_left hn'] at e1
   rw [List.getElem?_append_left (by rw [<- st.len];exact hn')] at e2
   have ok:=st1.cell n a c' e1 e2
   obtain⟨u,e⟩:=ok.some
   exact ok.wd w2 (by rw [zeF hx e,e])
  ·have hn':ad.length<=n:=Nat.le_of_not_lt hn'
   rw [List.getElem?_append_right hn'] at e1
   rw [List.getElem?_append_right (by rw [<- st.len];exact hn'),<- st.len] at e2
   cases hk:n-ad.length with
   | zero =>
    rw [hk] at e1 e2
    have e1':x=a:=by simpa using e1
    have e2':Cell.ins c []=c':=by simpa using e2
    subst e1' e2'
    exact⟨C,dx,[],zaF,hc,hn,.nil,fun q hq=>by cases hq⟩
   | succ k=>rw [hk] at e1;simp at e1
theorem Wd.putI {n:Nat}{a C dx C' dx':Addr}{vs ws:List (Str×V)}(e:ad[n]?=some a)(h:H a=some (.ins C dx vs)):Wd ad H ad (upd H a (.ins C' dx' ws)) :=
 ⟨List.prefix_refl _,fun b u hb q=>by
   have:b≠a:=fun z=>hb (by rw [z];exact List.mem_of_getElem? e)
   rw [zW this];exact q,
  fun b xs q=>by rw [zW (zhA q h (by intro z;cases z))];exact q,fun b o u q=>by rw [zW (zhA q h (by intro z;cases z))];exact q,fun _ m n=>absurd m n⟩
theorem zR.putI (st:zR K ad H S){n:Nat}{a C dx:Addr}{c f:Str}{vs:List (Str×V)}{fs:List (Str×D)}{d:D}{v:V}(e:ad[n]?=some a)(h:H a=some (.ins C dx vs))(hc:Cls K C)(hn:PySem.W.nsIn K mainGlobals c=some (some (.ref C)))(rf:zaQ K ad H fs vs)(hna:∀ q∈fs,zau K C q.1)(hf:zau K C f)(r:Rel K ad H d v) :
  zR K ad (upd H a (.ins C dx (zbS f v vs))) (S.set n (.ins c (putD f d fs))) where
 wd:=st.wd.trans (Wd.putI e h)
 len:=by rw [List.length_set];exact st.len
 nd:=st.nd
 cell:=fun m b c' e1 e2=>by
  have w:Wd ad H ad (upd H a (.ins C dx (zbS f v vs))):=Wd.putI e h
  by_cases hm:m=n
  ·subst hm
   rw [e] at e1;cases e1
   rw [List.getElem?_set_self (by rw [<- st.len];exact My.zbe e)] at e2
   cases e2
   refine⟨C,dx,_,zaF,hc,hn,zaQ.wr w.wr (zaQ.put r rf),fun q hq=>?_⟩
   rcases zkz hq with h1 | h1
   ·rw [h1];exact hf
   ·exact hna q h1
  ·rw [List.getElem?_set_ne (Ne.symm hm)] at e2
   have ne:b≠a:=fun z=>by
    subst z
    have q1:=(List.getElem?_eq_some_iff.mp e1).2
    have q2:=(List.getElem?_eq_some_iff.mp e).2
    exact hm ((List.getElem_inj st.nd).mp (q1.trans q2.symm))
   exact (st.cell m b c' e1 e2).wd w (zW ne)
theorem Wd.hid {ad':List Addr}{H':Hp}{p:Addr}{o:HO}(w:Wd ad H ad' H')(hp:H p=none):Wd ad H ad' (upd H' p o) :=
 ⟨w.pre,fun b u hb q=>by rw [zW (zbu q hp)];exact w.keep b u hb q,fun b u q=>by rw [zW (zbu q hp)];exact w.tup b u q,fun b u v q=>by rw [zW (zbu q hp)];exact w.frz b u v q,w.new⟩
theorem Wr.hid {p:Addr}{vs ws:List V}(h:H p=some (.lst vs)):Wr ad H ad (upd H p (.lst ws)) :=
 ⟨List.prefix_refl _,fun b xs q=>by rw [zW (zhA q h (by intro z;cases z))];exact q,fun b o u q=>by rw [zW (zhA q h (by intro z;cases z))];exact q⟩
theorem zR.hid (st:zR K ad H S){p:Addr}{vs ws:List V}(h:H p=some (.lst vs))(hp:p∉ad)(hb:B.H p=none):zR K ad (upd H p (.lst ws)) S :=
 ⟨st.wd.hid hb,st.len,st.nd,fun n a c e1 e2=>(st.cell n a c e1 e2).wr (Wr.hid h) (zW fun z=>hp (by rw [<- z];exact List.mem_of_getElem? e1))⟩
theorem Wd.add {ad':List Addr}{H':Hp}{p:Addr}(w:Wd ad H ad' H')(hp:H p=none):Wd ad H (ad'++[p]) H' :=
 ⟨w.pre.trans (List.prefix_append _ _),w.keep,w.tup,w.frz,fun b m n=>by
  rcases List.mem_append.mp m with m | m
  ·exact w.new b m n
  ·have:b=p:=by simpa using m
   subst this;exact hp⟩
theorem zR.add (st:zR K ad H S){p:Addr}{vs:List V}{ds:List D}(h:H p=some (.lst vs))(hp:p∉ad)(r:zJ K ad H ds vs)(hb:B.H p=none):zR K (ad++[p]) H (S++[.lst ds]) where
 wd:=st.wd.add hb
 len:=by rw [List.length_append,List.length_append,st.len];rfl
 nd:=by
  rw [List.nodup_append]
  refine⟨st.nd,by simp,fun a ha b hb e=>?_⟩
  have:b=p:=by simpa using hb
  subst this;subst e
  exact hp ha
 cell:=fun n a c e1 e2=>by
  have w:Wr ad H (ad++[p]) H:=⟨List.prefix_append _ _,fun _ _ q=>q,fun _ _ _ q=>q⟩
  by_cases hn:n<ad.length
  ·rw [List.getElem?_append_left hn] at e1
   rw [List.getElem?_append_left (by rw [<- st.len];exact hn)] at e2
   exact (st.cell n a c e1 e2).wr w rfl
  ·have hn':ad.length<=n:=Nat.le_of_not_lt hn
   rw [List.getElem?_append_right hn'] at e1
   rw [List.getElem?_append_right (by rw [<- st.len];exact hn'),<- st.len] at e2
   cases hk:n-ad.length with
   | zero =>
    rw [hk] at e1 e2
    have e1':p=a:=by simpa using e1
    have e2':Cell.lst ds=c:=by simpa using e2
    subst e1' e2'
    exact⟨vs,h,zJ.wr w r⟩
   | succ k=>rw [hk] at e1;simp at e1
theorem Lst.sq (st:zR K ad H S){x:D}{xs:List D}{v:V}(h:Lst S x xs)(r:Rel K ad H x v):∃ a vs,v=.ref a/\SqL K H a vs/\zJ K ad H xs vs:=by
 rcases h with rfl | ⟨n,rfl,h⟩
 ·cases r with
  | rl h r=>exact⟨_,_,rfl,h.sq,r⟩
 ·cases r with
  | ref e =>
   obtain⟨vs,e2,r⟩:=st.cell n _ _ e h
   exact⟨_,vs,rfl,SqL.of e2,r⟩
theorem zdI.sq (st:zR K ad H S){x:D}{xs:List D}{v:V}(h:zdI S x xs)(r:Rel K ad H x v):∃ a vs,v=.ref a/\(SqL K H a vs\/SqT K H a vs)/\zJ K ad H xs vs:=by
 rcases h with rfl | h
 ·cases r with
  | tup h r=>exact⟨_,_,rfl,.inr (SqT.of h),r⟩
 ·obtain⟨a,vs,e,s,r⟩:=Lst.sq st h r
  exact⟨a,vs,e,.inl s,r⟩
end
omit B in
theorem el8 {a b c d:Type}{p1 p2 p3 p4:a->b->c->d->Prop}{R:Prop}(h:∃ (x:a) (y:b) (z:c) (w:d),p1 x y z w/\p2 x y z w/\p3 x y z w/\p4 x y z w)(f:∀ (x:a) (y:b) (z:c) (w:d),p1 x y z w->p2 x y z w->p3 x y z w->p4 x y z w->R):R :=
 Exists.elim h fun x h=>Exists.elim h fun y h=>Exists.elim h fun z h=>Exists.elim h fun w h=>f x y z w h.1 h.2.1 h.2.2.1 h.2.2.2
def KK (K:PySem.W.Frag)(ad:List Addr)(H:Hp)(Q0:DK)(Q:VK):Prop:=∀ d S' v H' ad',Q0 d S'->Wd ad H ad' H'->zR K ad' H' S'->Rel K ad' H' d v->Q v H'
theorem KK.wd {K:PySem.W.Frag}{ad ad':List Addr}{H H':Hp}{Q0:DK}{Q:VK}(k:KK K ad H Q0 Q)(w:Wd ad H ad' H'):KK K ad' H' Q0 Q:=fun d S' v H' ad' q w'=>k d S' v H' ad' q (w.trans w')
def up (K:PySem.W.Frag)(t:DE):TE:=fun σ H Q=>∃ ad ρ S Q0,zR K ad H S/\zar K ad H ρ σ/\t ρ S Q0/\KK K ad H Q0 Q
def upT (K:PySem.W.Frag)(t:DT):TT:=fun σ H Q=>∃ ad ρ S Q0,zR K ad H S/\zar K ad H ρ σ/\t ρ S Q0/\∀ b S' H' ad',Q0 b S'->Wd ad H ad' H'->zR K ad' H' S'->Q b H'
def upA (K:PySem.W.Frag)(t:DA):TA:=fun σ H Q=>∃ ad ρ S Q0,zR K ad H S/\zar K ad H ρ σ/\t ρ S Q0/\∀ ds S' vs H' ad',Q0 ds S'->Wd ad H ad' H'->zR K ad' H' S'->zJ K ad' H' ds vs->Q vs H'
theorem zR.base {K:PySem.W.Frag}{ad:List Addr}{H:Hp}{S:Sto}(st:zR K ad H S):@zR ⟨ad,H⟩ K ad H S:=@zR.mk ⟨ad,H⟩ _ _ _ _ Wd.refl st.len st.nd st.cell
theorem zR.back {K:PySem.W.Frag}{ad ad':List Addr}{H H':Hp}{S S':Sto}(st:zR K ad H S)(st':@zR ⟨ad,H⟩ K ad' H' S'):zR K ad' H' S' :=
 ⟨st.wd.trans (@zR.wd ⟨ad,H⟩ _ _ _ _ st'),@zR.len ⟨ad,H⟩ _ _ _ _ st',@zR.nd ⟨ad,H⟩ _ _ _ _ st',@zR.cell ⟨ad,H⟩ _ _ _ _ st'⟩
theorem KK.base {K:PySem.W.Frag}{ad:List Addr}{H:Hp}{S:Sto}{Q0:DK}{Q:VK}(st:zR K ad H S)(k:KK K ad H Q0 Q):@KK ⟨ad,H⟩ K ad H Q0 Q:=fun d S' v H' ad' q w st' r=>k d S' v H' ad' q w (st.back st') r
def upF (K:PySem.W.Frag)(f:DSp):Sp:=fun vs H Q _=>∃ ad S ds Q0,@zR ⟨ad,H⟩ K ad H S/\zJ K ad H ds vs/\f ds S Q0/\@KK ⟨ad,H⟩ K ad H Q0 Q
structure zes (K:PySem.W.Frag)(ad:List Addr)(H:Hp)(E0:zkt)(E:Ends):Prop where
 nx:∀ ρ S σ H' ad',E0.nx ρ S->Wd ad H ad' H'->zR K ad' H' S->zar K ad' H' ρ σ->E.nx σ H'
 rt:KK K ad H E0.rt E.rt
 bk:∀ ρ S σ H' ad',E0.bk ρ S->Wd ad H ad' H'->zR K ad' H' S->zar K ad' H' ρ σ->E.bk σ H'
 ct:∀ ρ S σ H' ad',E0.ct ρ S->Wd ad H ad' H'->zR K ad' H' S->zar K ad' H' ρ σ->E.ct σ H'
theorem zes.wd {K:PySem.W.Frag}{ad ad':List Addr}{H H':Hp}{E0:zkt}{E:Ends}(k:zes K ad H E0 E)(w:Wd ad H ad' H'):zes K ad' H' E0 E :=
 ⟨fun ρ S σ H' ad' q w'=>k.nx ρ S σ H' ad' q (w.trans w'),k.rt.wd w,fun ρ S σ H' ad' q w'=>k.bk ρ S σ H' ad' q (w.trans w'),fun ρ S σ H' ad' q w'=>k.ct ρ S σ H' ad' q (w.trans w')⟩
def upS (K:PySem.W.Frag)(t:DS):TS:=fun E σ H=>∃ ad ρ S E0,zR K ad H S/\zar K ad H ρ σ/\t E0 ρ S/\zes K ad H E0 E
@[irreducible] def PD (X:Cx)(e:Expr)(t:DE):Prop:=PE X e (up X.K t)
@[irreducible] def PTD (X:Cx)(e:Expr)(t:DT):Prop:=PT X e (upT X.K t)
@[irreducible] def PWD (X:Cx)(e:Expr)(t:DT):Prop:=PW X e (upT X.K t)
@[irreducible] def PAD (X:Cx)(es:List Expr)(t:DA):Prop:=PA X es (upA X.K t)
@[irreducible] def PSD (X:Cx)(st:Stmt)(t:DS):Prop:=PS X st (upS X.K t)
@[irreducible] def zez (X:Cx)(st:List Stmt)(t:DS):Prop:=PSs X st (upS X.K t)
theorem zro {X:Cx}{e:Expr}{t t':TE}(h:PE X e t)(m:∀ σ H Q,t' σ H Q->t σ H Q):PE X e t':=fun pins s σ H Q I q=>h pins s σ H Q I (m σ H Q q)
theorem zfL {X:Cx}{e:Expr}{t t':TT}(h:PT X e t)(m:∀ σ H Q,t' σ H Q->t σ H Q):PT X e t':=fun pins s σ H Q I q=>h pins s σ H Q I (m σ H Q q)
theorem zmq {X:Cx}{e:Expr}{t t':TT}(h:PW X e t)(m:∀ σ H Q,t' σ H Q->t σ H Q):PW X e t':=fun wh pins s σ H Q I q=>h wh pins s σ H Q I (m σ H Q q)
theorem zmk {X:Cx}{e:List Expr}{t t':TA}(h:PA X e t)(m:∀ σ H Q,t' σ H Q->t σ H Q):PA X e t':=fun pos pins s σ H Q I q=>h pos pins s σ H Q I (m σ H Q q)
theorem zbC {X:Cx}{st:Stmt}{t t':TS}(h:PS X st t)(m:∀ D σ H,t' D σ H->t D σ H):PS X st t':=fun pins s σ H D I q=>h pins s σ H D I (m D σ H q)
theorem zk6 {X:Cx}{st:List Stmt}{t t':TS}(h:PSs X st t)(m:∀ D σ H,t' D σ H->t D σ H):PSs X st t':=fun pins s σ H D I q=>h pins s σ H D I (m D σ H q)
section
variable {X:Cx}{a b c:Expr}{ta tb tc:DE}{pos:Pos}
theorem za6 {e:Expr}{t:TE}{d:DE}(h:PE X e t)(m:∀ σ H Q,up X.K d σ H Q->t σ H Q):PD X e d:=by with_unfolding_all exact (zro h m)
theorem zi3 {e:Expr}{i:Nat}(h:PE X e (zpp i)):PD X e (zj i):=by with_unfolding_all exact (za6 h fun σ H Q ⟨ad,ρ,S,Q0,st,rh,⟨d,e,q⟩,k⟩=>by
 obtain⟨v,ev,r⟩:=rh.val i d e
 exact⟨v,ev,k d S v H ad q Wd.refl st r⟩)
theorem zgN {e:Expr}{v:V}{d:D}(h:PE X e (tC v))(r:∀ ad H,Rel X.K ad H d v):PD X e (dC d):=by with_unfolding_all exact (za6 h fun σ H Q hh=>el8 hh fun ad ρ S Q0 st rh q k=>k d S v H ad q Wd.refl st (r _ _))
theorem zp {i j}:PD X (.Constant (.int i) j pos) (dC (.int i)):=by with_unfolding_all exact (zgN zk8 fun _ _=>.int i)
theorem zcr {b j}:PD X (.Constant (.bool b) j pos) (dC (.bl b)):=by with_unfolding_all exact (zgN zuW fun _ _=>.bl b)
theorem zbP {j}:PD X (.Constant .none j pos) (dC .non):=by with_unfolding_all exact (zgN zt7 fun _ _=>.non)
theorem zbQ {x j}:PD X (.Constant (.str x) j pos) (dC (.str x)):=by with_unfolding_all exact (zgN ztF fun _ _=>.str x)
theorem zkr {x:Str}{T:String}(hg:Gl X x)(hm:X.mg x=none)(hv:bootBuiltins x=some (.type T))(hn:x≠"__name__":=by decide)(hd:(x==("__debug__":Str))=false:=by decide):PD X (.Name x pos) (dC (.ty T)):=by with_unfolding_all exact (zgN (zu3 hg hm hv hn hd) fun _ _=>.ty T)
theorem zaa {x:Str}{n:Int}(hg:Gl X x)(hm:∃ t,X.mg x=some (.int n t))(hd:(x==("__debug__":Str))=false:=by decide):PD X (.Name x pos) (dC (.int n)):=by with_unfolding_all exact (zgN (zrH hg hm hd) fun _ _=>.int n)
theorem zrj {x z:Str}(hg:Gl X x)(hm:∃ t,X.mg x=some (.str z t))(hd:(x==("__debug__":Str))=false:=by decide):PD X (.Name x pos) (dC (.str z)):=by with_unfolding_all exact (zgN (by obtain⟨t,hm⟩:=hm;exact zmv (v:=.str z) hg hm ⟨t,rfl⟩ hd) fun _ _=>.str z)
theorem zbp {i j:Int}{m n:Nat}{p1 p2:Pos}(c:Int)(h:i ^ j.toNat=c)(h0:0<=j/\j<=1000000/\i.natAbs<2 ^ 64):PD X (.BinOp (.Constant (.int i) m p1) .Pow (.Constant (.int j) n p2) pos) (dC (.int c)):=by with_unfolding_all exact (zgN (zr6 c h h0) fun _ _=>.int c)
def OD (K:PySem.W.Frag)(r':DR2)(r:R2):Prop:=∀ ad H S x y v u Q0 Q,zR K ad H S->Rel K ad H x v->Rel K ad H y u->r' x y S Q0->KK K ad H Q0 Q->r v u H Q
theorem zhE {K:PySem.W.Frag}{r':DR2}{r:R2}(o:OD K r' r){σ:L2.St}{H:Hp}{Q:VK}(h:up K (dOp r' ta tb) σ H Q):tOp r (up K ta) (up K tb) σ H Q:=by
 obtain⟨ad,ρ,S,Q0,st,rh,q,k⟩:=h
 refine⟨ad,ρ,S,_,st,rh,q,fun x S1 v H1 ad1 q1 w1 st1 r1=>?_⟩
 refine⟨ad1,ρ,S1,_,st1,rh.wd w1,q1,fun y S2 u H2 ad2 q2 w2 st2 r2=>?_⟩
 exact o ad2 H2 S2 x y v u Q0 Q st2 (r1.wd w2) r2 q2 (k.wd (w1.trans w2))
theorem ziG {op:Operator}{r':DR2}{r:R2}(ho:OpR X (binaryOp op) r)(o:OD X.K r' r)(ha:PD X a ta)(hb:PD X b tb):PD X (.BinOp a op b pos) (dOp r' ta tb):=by with_unfolding_all exact (za6 (zqS ho ha hb) fun _ _ _=>zhE o)
theorem zmx {K:PySem.W.Frag}{C C':Int->Int->Prop}{g:Int->Int->D}{g':Int->Int->V}(hc:∀ i j,C i j->C' i j)(hg:∀ ad H i j,Rel K ad H (g i j) (g' i j)):OD K (oI C g) (rI C' g'):=fun ad H S x y v u Q0 Q st rx ry ⟨i,j,ex,ey,c,q⟩ k=>by
 subst ex ey
 cases rx
 cases ry
 exact⟨i,j,rfl,rfl,hc i j c,k _ S _ H ad q Wd.refl st (hg ad H i j)⟩
theorem zja {K:PySem.W.Frag}{g:Int->Int->D}{g':Int->Int->V}(hg:∀ ad H i j,Rel K ad H (g i j) (g' i j)):OD K (oI0 g) (rI0 g'):=fun ad H S x y v u Q0 Q st rx ry ⟨i,j,ex,ey,q⟩ k=>by
 subst ex ey
 cases rx
 cases ry
 exact⟨i,j,rfl,rfl,k _ S _ H ad q Wd.refl st (hg ad H i j)⟩
theorem zpa {i:Int}(h:i.natAbs<2 ^ 64):-(2 ^ 64)<i/\i<2 ^ 64:=⟨by omega,by omega⟩
def zu7 (i j:Int):Prop:=zax i j
theorem zsa:OpR X (binaryOp .Mult) (rI zu7 fun i j=>.int (i*j)):=opI fun i j _ _ _ _ _ hc q=>by
 rcases hc with h | h | h
 ·exact mul_int q (IntMulOk.of_bits (ziS h.1) (ziS h.2))
 ·exact mul_int q (zmW.ok (.inl (zpa h)))
 ·exact mul_int q (zmW.ok (.inr (zpa h)))
theorem z9 (ha:PD X a ta)(hb:PD X b tb):PD X (.BinOp a .Sub b pos) (dOp zal ta tb):=by with_unfolding_all exact (ziG ztH (zja fun _ _ i j=>.int (i-j)) ha hb)
theorem zuf {z:Str}{n:Int}(hz:z.length<=1000)(h0:-1000<=n)(h1:n<=1000):MulOk z n:=by
 refine⟨?_,fun _ _=>?_,fun h _=>?_⟩
 ·rw [decide_eq_false (by omega),decide_eq_false (by omega)];rfl
 ·have:(1000:Int)<=(2 ^ 63-1)/n\/n<1:=by
   rcases Int.lt_or_le n 1 with g | g
   ·exact .inr g
   ·exact .inl ((Int.le_ediv_iff_mul_le (by omega)).mpr (by omega))
  omega
 ·have:z.length*n.toNat<=1000*1000:=Nat.mul_le_mul hz (by omega)
  have hs:z.length*n.toNat<=sizeLine:=Nat.le_trans this (by decide)
  first
   | exact decide_eq_false (by omega)
   | (unfold tooLong;exact decide_eq_false (by omega))
   | simp [tooLong];omega
theorem zrM:OpR X (binaryOp .Mult) (fun x y H Q=>∃ z n,x=.str z/\y=.int n/\MulOk z n/\Q (.str (Txt.mul z n)) H):=by
 intro pins s σ H x y v u Q I rx ry h
 obtain⟨z,n,rfl,rfl,ok,q⟩:=h
 obtain⟨t,rfl⟩:=rx
 obtain⟨t',rfl⟩:=ry
 exact SB.mul ok fun t' k=>⟨.str (Txt.mul z n),H,I.tok _,⟨_,rfl⟩,q⟩
omit B in
theorem zmm {i:Int}(h:Hg i):Builtin.Int.intBits i<=2 ^ 20:=by
 unfold Hg at h
 exact intBits_le h
omit B in
theorem zrm {i:Int}(h:Builtin.Int.intBits i<=2 ^ 20):Hg i:=by
 unfold Hg
 exact Nat.lt_of_lt_of_le (natAbs_lt_pow_bits i) (Nat.pow_le_pow_right (by decide) h)
theorem zru:OpR X (binaryOp .Mult) (rI (fun i j=>Hg i/\Hg j) fun i j=>.int (i*j)):=opI fun i j _ _ _ _ _ hc q=>mul_int q (IntMulOk.of_bits (zmm hc.1) (zmm hc.2))
theorem zaj (ha:PD X a ta)(hb:PD X b tb):PD X (.BinOp a .Mult b pos) (dOp zaD ta tb):=by with_unfolding_all exact (ziG (zsa.or (zrM.or zru)) (fun ad H S x y v u Q0 Q st rx ry h k=>by
 rcases h with h | ⟨z,n,rfl,rfl,hz,h0,h1,q⟩ | h
 ·exact .inl (zmx (fun _ _ h=>h) (fun _ _ i j=>.int (i*j)) ad H S x y v u Q0 Q st rx ry h k)
 ·cases rx
  cases ry
  exact .inr (.inl ⟨z,n,rfl,rfl,zuf hz h0 h1,k _ S _ H ad q Wd.refl st (.str _)⟩)
 ·exact .inr (.inr (zmx (fun _ _ h=>h) (fun _ _ i j=>.int (i*j)) ad H S x y v u Q0 Q st rx ry h k))) ha hb)
theorem zc3 (ha:PD X a ta)(hb:PD X b tb):PD X (.BinOp a .FloorDiv b pos) (dOp oDiv ta tb):=by with_unfolding_all exact (ziG zps (zmx (fun _ _ h=>h) fun _ _ i j=>.int (i.fdiv j)) ha hb)
theorem zaW (ha:PD X a ta)(hb:PD X b tb):PD X (.BinOp a .Mod b pos) (dOp oMod ta tb):=by with_unfolding_all exact (ziG zrn (zmx (fun _ _ h=>h) fun _ _ i j=>.int (i.fmod j)) ha hb)
theorem zc4 {n:Nat}(h:n<=big):n<=sizeLine:=Nat.le_trans h (by decide)
theorem zoA {n:Nat}(h:n<big):n<sizeLine:=Nat.lt_of_lt_of_le h (by decide)
theorem zfI {K:PySem.W.Frag}{ad:List Addr}{H:Hp}{S:Sto}{Q0:DK}{Q:VK}{ds:List D}{vs:List V}(st:zR K ad H S)(k:KK K ad H Q0 Q)(r:zJ K ad H ds vs)(q:Q0 (.ref S.length) (S++[.lst ds]))(l:Addr)(h:H l=none):Q (.ref l) (upd H l (.lst vs)) :=
 k _ _ _ _ _ q (Wd.newL st h) (st.newL h r) st.newRef
theorem zjd {K:PySem.W.Frag}{ad:List Addr}{H:Hp}{S:Sto}{Q0:DK}{Q:VK}{ds:List D}{vs:List V}(st:zR K ad H S)(k:KK K ad H Q0 Q)(r:zJ K ad H ds vs)(q:Q0 (.tup ds) S)(l:Addr)(h:H l=none):Q (.ref l) (upd H l (.tup vs)) :=
 k _ _ _ _ _ q (Wd.laid h) (st.laid h) (.tup zaF (r.wd (Wd.laid h)))
theorem zY (ha:PD X a ta)(hb:PD X b tb):PD X (.BinOp a .Add b pos) (dOp zah ta tb):=by with_unfolding_all exact (ziG (ztz.or ((zpX rfl).or ((zq6 rfl).or znF))) (fun ad H S x y v u Q0 Q st rx ry h k=>by
  rcases h with ⟨i,j,rfl,rfl,q⟩ | ⟨xs,ys,rfl,rfl,hz,q⟩ | ⟨xs,ys,hx,hy,hz,q⟩ | ⟨i,j,rfl,rfl,hz,q⟩
  ·cases rx
   cases ry
   exact .inl ⟨i,j,rfl,rfl,k _ S _ H ad q Wd.refl st (.int _)⟩
  ·cases rx with
   | tup h1 r1 =>
    cases ry with
    | tup h2 r2 =>
     have l1:=r1.length
     have l2:=r2.length
     refine .inr (.inl ⟨_,_,_,_,rfl,rfl,SqT.of h1,SqT.of h2,by rw [<- l1,<- l2];exact zc4 hz,fun e=>?_,fun _ e=>?_,fun _ _ p hp=>zjd st k (r1.append r2) q p hp⟩)
     ·have e':xs=[]:=List.length_eq_zero_iff.mp (by rw [l1,e];rfl)
      subst e'
      exact k _ S _ H ad q Wd.refl st (.tup h2 r2)
     ·have e':ys=[]:=List.length_eq_zero_iff.mp (by rw [l2,e];rfl)
      subst e'
      rw [List.append_nil] at q
      exact k _ S _ H ad q Wd.refl st (.tup h1 r1)
  ·obtain⟨a1,vs1,rfl,s1,r1⟩:=hx.sq st rx
   obtain⟨a2,vs2,rfl,s2,r2⟩:=hy.sq st ry
   exact .inr (.inr (.inl ⟨_,_,_,_,rfl,rfl,s1,s2,by rw [<- r1.length,<- r2.length];exact zc4 hz,fun p hp=>zfI st k (r1.append r2) q p hp⟩))
  ·cases rx
   cases ry
   exact .inr (.inr (.inr ⟨i,j,rfl,rfl,zc4 hz,k _ S _ H ad q Wd.refl st (.str _)⟩))) ha hb)
theorem zbL (ha:PD X a ta):PD X (.UnaryOp .USub a pos) (dUn zcW ta):=by with_unfolding_all exact (za6 (zvv ztr ha) fun σ H Q hh=>el8 hh fun ad ρ S Q0 st rh q k=>by
 refine⟨ad,ρ,S,_,st,rh,q,fun x S1 v H1 ad1 q1 w1 st1 r1=>?_⟩
 obtain⟨i,rfl,q1⟩:=q1
 cases r1
 exact⟨i,rfl,k _ _ _ _ _ q1 w1 st1 (.int _)⟩)
def OC (X:Cx)(op:CmpOp)(r':DR2):Prop:=∃ r,OpR X (compareOp op) r/\OD X.K r' r
theorem zbn:OC X .Lt oLt:=⟨_,zvN,zja fun _ _ _ _=>.bl _⟩
theorem zfm:OC X .LtE oLe:=⟨_,zvj,zja fun _ _ _ _=>.bl _⟩
theorem zcR:OC X .Gt oGt:=⟨_,zuz,zja fun _ _ _ _=>.bl _⟩
theorem zuC:OC X .GtE oGe:=⟨_,zvQ,zja fun _ _ _ _=>.bl _⟩
mutual
def pyD:D->PyData
 | .non=>.none
 | .bl b=>.bool b
 | .int i=>.int i
 | .str x=>.str x
 | .tup xs=>.tuple (zaB xs)
 | .ref _=>.none
 | .ty _=>.none
 | .rl _=>.none
 | .exn _=>.none
def zaB:List D->List PyData
 | []=>[]
 | x::xs=>pyD x::zaB xs
end
section
variable {pins:List (Addr×Obj)}{σ:L2.St}{H:Hp}{s:Shared}{ad:List Addr}
theorem ze3 (I:Inv X pins σ H s)(k:Nat)(h1:∀ d v u,fl k d=true->Rel X.K ad H d v->RelV v u->∃ as,Reads s.heap u (pyD d) as):∀ ds vs us,ds.all (fl k)=true->zJ X.K ad H ds vs->Vals vs us->∃ as,ReadsAll s.heap us (zaB ds) as:=by
 intro ds
 induction ds with
 | nil=>intro vs us _ r rv;cases r;cases rv;exact⟨_,.nil⟩
 | cons d ds ih =>
  intro vs us hf r rv
  rw [List.all_cons,Bool.and_eq_true] at hf
  cases r with
  | cons r t =>
   cases rv with
   | cons q qt =>
    obtain⟨as,ra⟩:=h1 d _ _ hf.1 r q
    obtain⟨bs,rb⟩:=ih _ _ hf.2 t qt
    exact⟨_,.cons ra rb⟩
theorem zcz (I:Inv X pins σ H s):∀ (k:Nat) (d:D) (v:V) (u:Value),fl k d=true->Rel X.K ad H d v->RelV v u->∃ as,Reads s.heap u (pyD d) as:=by
 intro k
 induction k with
 | zero =>
  intro d v u hf r q
  cases r with
  | non=>cases q;exact⟨_,.none⟩
  | bl b=>cases q;exact⟨_,.bool b⟩
  | int i=>obtain⟨t,rfl⟩:=q;exact⟨_,.int i t⟩
  | str x=>obtain⟨t,rfl⟩:=q;exact⟨_,.str x t⟩
  | ty n=>cases hf
  | tup h r=>cases hf
  | rl h r=>cases hf
  | ref h=>cases hf
  | exn _ _ _=>cases hf
 | succ k ih =>
  intro d v u hf r q
  cases r with
  | non=>cases q;exact⟨_,.none⟩
  | bl b=>cases q;exact⟨_,.bool b⟩
  | int i=>obtain⟨t,rfl⟩:=q;exact⟨_,.int i t⟩
  | str x=>obtain⟨t,rfl⟩:=q;exact⟨_,.str x t⟩
  | ty n=>cases hf
  | tup h r =>
   cases q
   obtain⟨its,rv,ht,hz⟩:=I.tuple (SqT.of h)
   obtain⟨o,ho,hc,n,hd⟩:=ht
   obtain⟨as,ra⟩:=ze3 I k ih _ _ _ hf r rv
   exact⟨_,.tuple ho hc hd (by simpa using ra)⟩
  | rl h r=>cases hf
  | ref h=>cases hf
  | exn _ _ _=>cases hf
end
theorem zf4:∀ (k:Nat) (d:D),fl k d=true->(pyD d).canLay0=true/\(pyD d).depth<=k:=by
 have all:∀ k,(∀ d,fl k d=true->(pyD d).canLay0=true/\(pyD d).depth<=k)->∀ ds:List D,ds.all (fl k)=true->PyData.canLayAll0 (zaB ds)=true/\PyData.depthAll (zaB ds)<=k:=by
  intro k h ds
  induction ds with
  | nil=>intro _;exact⟨rfl,Nat.zero_le _⟩
  | cons d ds ih =>
   intro hf
   rw [List.all_cons,Bool.and_eq_true] at hf
   obtain⟨a1,a2⟩:=h d hf.1
   obtain⟨b1,b2⟩:=ih hf.2
   refine⟨?_,?_⟩
   ·show (PyData.canLay0 (pyD d)&&PyData.canLayAll0 (zaB ds))=true
    rw [a1,b1];rfl
   ·show max (PyData.depth (pyD d)) (PyData.depthAll (zaB ds))<=k
    exact Nat.max_le.mpr ⟨a2,b2⟩
 intro k
 induction k with
 | zero =>
  intro d hf
  cases d with
  | non=>exact⟨rfl,Nat.zero_le _⟩
  | bl b=>exact⟨rfl,Nat.zero_le _⟩
  | int i=>exact⟨rfl,Nat.zero_le _⟩
  | str x=>exact⟨hf,Nat.zero_le _⟩
  | tup xs=>cases hf
  | ref n=>cases hf
  | exn _=>cases hf
  | ty n=>cases hf
  | rl xs=>cases hf
 | succ k ih =>
  intro d hf
  cases d with
  | non=>exact⟨rfl,Nat.zero_le _⟩
  | bl b=>exact⟨rfl,Nat.zero_le _⟩
  | int i=>exact⟨rfl,Nat.zero_le _⟩
  | str x=>exact⟨hf,Nat.zero_le _⟩
  | tup xs =>
   obtain⟨h1,h2⟩:=all k ih xs hf
   refine⟨h1,?_⟩
   show PyData.depthAll (zaB xs)+1<=k+1
   omega
  | ref n=>cases hf
  | exn _=>cases hf
  | ty n=>cases hf
  | rl xs=>cases hf
theorem zed (k:Nat):∀ ds:List D,ds.all (fl k)=true->PyData.canLayAll0 (zaB ds)=true/\PyData.depthAll (zaB ds)<=k:=by
 intro ds
 induction ds with
 | nil=>intro _;exact⟨rfl,Nat.zero_le _⟩
 | cons d ds ih =>
  intro hf
  rw [List.all_cons,Bool.and_eq_true] at hf
  obtain⟨a1,a2⟩:=zf4 k d hf.1
  obtain⟨b1,b2⟩:=ih hf.2
  refine⟨?_,?_⟩
  ·show (PyData.canLay0 (pyD d)&&PyData.canLayAll0 (zaB ds))=true
   rw [a1,b1];rfl
  ·show max (PyData.depth (pyD d)) (PyData.depthAll (zaB ds))<=k
   exact Nat.max_le.mpr ⟨a2,b2⟩
mutual
theorem zk9:∀ (k:Nat) (x y:D),fl k x=true->fl k y=true->PyData.eqv (pyD x) (pyD y)=eqv x y
  | k,.non,y,_,hy=>by cases y<;>first | rfl | (cases k<;>cases hy)
  | k,.bl a,y,_,hy=>by cases y<;>first | rfl | (cases k<;>cases hy)
  | k,.int i,y,_,hy=>by
    cases y with
    | int j=>show (i==j)=decide (i=j);rw [Bool.beq_eq_decide_eq]
    | ref n=>cases k<;>cases hy
    | exn n=>cases k<;>cases hy
    | ty n=>cases k<;>cases hy
    | rl n=>cases k<;>cases hy
    | _=>rfl
  | k,.str a,y,_,hy=>by cases y<;>first | rfl | (cases k<;>cases hy)
  | 0,.tup xs,y,hx,_=>by cases hx
  | k+1,.tup xs,y,hx,hy=>by
    cases y with
    | tup ys=>exact zfl k xs ys hx hy
    | ref n=>cases hy
    | ty n=>cases hy
    | rl n=>cases hy
    | _=>rfl
  | k,.ref n,y,hx,_=>by cases k<;>cases hx
  | k,.ty n,y,hx,_=>by cases k<;>cases hx
  | k,.rl n,y,hx,_=>by cases k<;>cases hx
  | k,.exn n,y,hx,_=>by cases k<;>cases hx
theorem zfl:∀ (k:Nat) (xs ys:List D),xs.all (fl k)=true->ys.all (fl k)=true->PyData.eqvAll (zaB xs) (zaB ys)=eqvAll xs ys
  | k,[],[],_,_=>rfl
  | k,[],y::ys,_,_=>rfl
  | k,x::xs,[],_,_=>rfl
  | k,x::xs,y::ys,hx,hy=>by
    rw [List.all_cons,Bool.and_eq_true] at hx hy
    show (PyData.eqv (pyD x) (pyD y)&&PyData.eqvAll (zaB xs) (zaB ys))=(eqv x y&&eqvAll xs ys)
    rw [zk9 k x y hx.1 hy.1,zfl k xs ys hx.2 hy.2]
end
def zdY (xss:List (List D)):List PyData:=xss.map fun zs=>.list (zaB zs)
theorem zkv:∀ xss:List (List D),zf2 xss=true->PyData.canLayAll0 (zdY xss)=true/\PyData.depthAll (zdY xss)<=21
 | [],_=>⟨rfl,Nat.zero_le _⟩
 | zs::xss,h=>by
  unfold zf2 at h
  rw [List.all_cons,Bool.and_eq_true] at h
  obtain⟨a1,a2⟩:=zed 20 zs h.1
  obtain⟨b1,b2⟩:=zkv xss h.2
  refine⟨?_,?_⟩
  ·show (PyData.canLayAll0 (zaB zs)&&PyData.canLayAll0 (zdY xss))=true
   rw [a1,b1];rfl
  ·show max (PyData.depthAll (zaB zs)+1) (PyData.depthAll (zdY xss))<=21
   exact Nat.max_le.mpr ⟨by omega,b2⟩
theorem zn7:∀ xss yss:List (List D),zf2 xss=true->zf2 yss=true->PyData.eqvAll (zdY xss) (zdY yss)=eqvAll (xss.map D.tup) (yss.map D.tup)
 | [],[],_,_=>rfl
 | [],_::_,_,_=>rfl
 | _::_,[],_,_=>rfl
 | zs::xss,ws::yss,h,k=>by
  unfold zf2 at h k
  rw [List.all_cons,Bool.and_eq_true] at h k
  show (PyData.eqvAll (zaB zs) (zaB ws)&&PyData.eqvAll (zdY xss) (zdY yss))=(eqvAll zs ws&&eqvAll (xss.map D.tup) (yss.map D.tup))
  rw [zfl 20 zs ws h.1 k.1,zn7 xss yss h.2 k.2]
theorem zil {pins:List (Addr×Obj)}{σ:L2.St}{H:Hp}{s:Shared}{ad:List Addr}{S:Sto}(I:Inv X pins σ H s)(st:zR X.K ad H S):∀ (xs:List D) (xss:List (List D)) (vs:List V) (us:List Value),ziZ S xs xss->zf2 xss=true->zJ X.K ad H xs vs->Vals vs us->∃ as,ReadsAll s.heap us (zdY xss) as
 | [],[],_,_,_,_,r,rv=>by cases r;cases rv;exact⟨_,.nil⟩
 | [],_::_,_,_,h,_,_,_=>h.elim
 | _::_,[],_,_,h,_,_,_=>h.elim
 | x::xs,zs::xss,_,_,h,f,r,rv=>by
  unfold zf2 at f
  rw [List.all_cons,Bool.and_eq_true] at f
  cases r with
  | cons r t =>
   obtain⟨a1,vs1,rfl,s1,r1⟩:=h.1.sq st r
   cases rv with
   | cons q qt =>
    cases q
    obtain⟨its,rv1,ht,hz⟩:=I.list s1
    obtain⟨o,ho,hc,n,hd⟩:=ht.isList
    obtain⟨as,ra⟩:=ze3 I 20 (zcz I 20) _ _ _ f.1 r1 rv1
    obtain⟨bs,rb⟩:=zil I st xs xss _ _ h.2 f.2 t qt
    exact⟨_,.cons (.list ho hc hd (by simpa using ra)) rb⟩
def zt1 (X:Cx)(g:Bool->Bool):R2:=fun x y H Q=>∃ ad S dx dy b,zR X.K ad H S/\Rel X.K ad H dx x/\Rel X.K ad H dy y/\EqD S dx dy b/\Q (.bl (g b)) H
theorem zj9 {pins:List (Addr×Obj)}{σ:L2.St}{H:Hp}{s:Shared}{ad:List Addr}{S:Sto}{dx dy:D}{x y:V}{v u:Value}{b:Bool}(I:Inv X pins σ H s)(st:zR X.K ad H S)(rx:Rel X.K ad H dx x)(ry:Rel X.K ad H dy y)(qx:RelV x v)(qy:RelV y u)(h:EqD S dx dy b) :
  ∃ px py as bs,Reads s.heap v px as/\Reads s.heap u py bs/\px.canLay0=true/\py.canLay0=true/\min px.depth py.depth<=60/\PyData.eqv px py=b:=by
 rcases h with ⟨fx,fy,rfl⟩ | ⟨xs,ys,hx,hy,fx,fy,rfl⟩ | ⟨xs,ys,xss,yss,hx,hy,lx,ly,fx,fy,rfl⟩
 ·obtain⟨as,ra⟩:=zcz I 20 dx x v fx rx qx
  obtain⟨bs,rb⟩:=zcz I 20 dy y u fy ry qy
  obtain⟨c1,d1⟩:=zf4 20 dx fx
  obtain⟨c2,d2⟩:=zf4 20 dy fy
  exact⟨_,_,as,bs,ra,rb,c1,c2,by omega,zk9 20 dx dy fx fy⟩
 ·obtain⟨a1,vs1,rfl,s1,r1⟩:=hx.sq st rx
  obtain⟨a2,vs2,rfl,s2,r2⟩:=hy.sq st ry
  cases qx
  cases qy
  obtain⟨its,rv,ht,hz⟩:=I.list s1
  obtain⟨its2,rv2,ht2,hz2⟩:=I.list s2
  obtain⟨o,ho,hc,n,hd⟩:=ht.isList
  obtain⟨o2,ho2,hc2,n2,hd2⟩:=ht2.isList
  obtain⟨as,ra⟩:=ze3 I 20 (zcz I 20) _ _ _ fx r1 rv
  obtain⟨bs,rb⟩:=ze3 I 20 (zcz I 20) _ _ _ fy r2 rv2
  obtain⟨c1,d1⟩:=zed 20 xs fx
  obtain⟨c2,d2⟩:=zed 20 ys fy
  refine⟨.list (zaB xs),.list (zaB ys),_,_,.list ho hc hd (by simpa using ra),.list ho2 hc2 hd2 (by simpa using rb),c1,c2,?_,zfl 20 xs ys fx fy⟩
  show min (PyData.depthAll (zaB xs)+1) (PyData.depthAll (zaB ys)+1)<=60
  omega
 ·obtain⟨a1,vs1,rfl,s1,r1⟩:=hx.sq st rx
  obtain⟨a2,vs2,rfl,s2,r2⟩:=hy.sq st ry
  cases qx
  cases qy
  obtain⟨its,rv,ht,hz⟩:=I.list s1
  obtain⟨its2,rv2,ht2,hz2⟩:=I.list s2
  obtain⟨o,ho,hc,n,hd⟩:=ht.isList
  obtain⟨o2,ho2,hc2,n2,hd2⟩:=ht2.isList
  obtain⟨as,ra⟩:=zil I st xs xss _ _ lx fx r1 rv
  obtain⟨bs,rb⟩:=zil I st ys yss _ _ ly fy r2 rv2
  obtain⟨c1,d1⟩:=zkv xss fx
  obtain⟨c2,d2⟩:=zkv yss fy
  refine⟨.list (zdY xss),.list (zdY yss),_,_,.list ho hc hd (by simpa using ra),.list ho2 hc2 hd2 (by simpa using rb),c1,c2,?_,zn7 xss yss fx fy⟩
  show min (PyData.depthAll (zdY xss)+1) (PyData.depthAll (zdY yss)+1)<=60
  omega
theorem zcU {k:Nat}(hr:zaM k X.A):OC X .Eq oEq:=⟨zt1 X id,fun pins s σ H x y v u Q I qx qy ⟨ad,S,dx,dy,b,st,rx,ry,h,q⟩=>by
  obtain⟨px,py,as,bs,ra,rb,c1,c2,hd,e⟩:=zj9 I st rx ry qx qy h
  have hu:=hr.units
  exact PySem.SeqAt.rcAt_reads ra rb c1 c2 (by omega) X.prog X.w X.xe _ ⟨.bl _,H,I,by rw [e];rfl,q⟩,
 fun ad H S x y v u Q0 Q st rx ry ⟨b,h,q⟩ k=>⟨ad,S,x,y,b,st,rx,ry,h,k _ S _ H ad q Wd.refl st (.bl _)⟩⟩
theorem zeg {k:Nat}(hr:zaM k X.A):OC X .NotEq oNe:=⟨zt1 X (!·),fun pins s σ H x y v u Q I qx qy ⟨ad,S,dx,dy,b,st,rx,ry,h,q⟩=>by
  obtain⟨px,py,as,bs,ra,rb,c1,c2,hd,e⟩:=zj9 I st rx ry qx qy h
  have hu:=hr.units
  exact PySem.SeqAt.rcNeAt_reads ra rb c1 c2 (by omega) X.prog X.w X.xe _ ⟨.bl _,H,I,by rw [e];rfl,q⟩,
 fun ad H S x y v u Q0 Q st rx ry ⟨b,h,q⟩ k=>⟨ad,S,x,y,b,st,rx,ry,h,k _ S _ H ad q Wd.refl st (.bl _)⟩⟩
theorem zj7 {K:PySem.W.Frag}{ad:List Addr}{H:Hp}{d:D}{v:V}(r:Rel K ad H d v):decide (v=.non)=zdd d:=by
  cases r<;>rfl
theorem ztS:OpR X (compareOp .Is) (rB0 fun i j=>.bl (i==j)):=fun pins s σ H x y v u Q I rx ry ⟨i,j,ex,ey,q⟩=>by
 subst ex ey
 cases rx
 cases ry
 exact is_bool ⟨.bl _,H,I,rfl,q⟩
theorem zsb:OpR X (compareOp .IsNot) (rB0 fun i j=>.bl (!(i==j))):=fun pins s σ H x y v u Q I rx ry ⟨i,j,ex,ey,q⟩=>by
 subst ex ey
 cases rx
 cases ry
 exact isnot_bool ⟨.bl _,H,I,rfl,q⟩
theorem zuU:OC X .Is oIs:=⟨_,zvc.or ztS,fun ad H S x y v u Q0 Q st rx ry h k=>by
 rcases h with ⟨rfl,q⟩ | ⟨a,b,rfl,rfl,q⟩
 ·cases ry
  exact .inl ⟨rfl,by rw [zj7 rx];exact k _ S _ H ad q Wd.refl st (.bl _)⟩
 ·cases rx
  cases ry
  exact .inr ⟨a,b,rfl,rfl,k _ S _ H ad q Wd.refl st (.bl _)⟩⟩
theorem zfD:OC X .IsNot ze0:=⟨_,ztO.or zsb,fun ad H S x y v u Q0 Q st rx ry h k=>by
 rcases h with ⟨rfl,q⟩ | ⟨a,b,rfl,rfl,q⟩
 ·cases ry
  exact .inl ⟨rfl,by rw [zj7 rx];exact k _ S _ H ad q Wd.refl st (.bl _)⟩
 ·cases rx
  cases ry
  exact .inr ⟨a,b,rfl,rfl,k _ S _ H ad q Wd.refl st (.bl _)⟩⟩
theorem zfE {op:CmpOp}{r':DR2}(o:OC X op r')(ha:PD X a ta)(hb:PD X b tb)(h:op≠.In:=by decide)(h2:op≠.NotIn:=by decide):PD X (.Compare a [op] [b] pos) (dOp r' ta tb):=by
 with_unfolding_all
  obtain⟨r,ho,od⟩:=o
  exact za6 (zmc ho ha hb (zoV _ h h2)) fun _ _ _=>zhE od
theorem zM {op:CmpOp}{r':DR2}(o:OC X op r')(ha:PD X a ta)(hb:PD X b tb)(h:op≠.In:=by decide)(h2:op≠.NotIn:=by decide):PTD X (.Compare a [op] [b] pos) (dT (dOp r' ta tb)):=by
 with_unfolding_all
  obtain⟨r,ho,od⟩:=o
  refine zfL (zmj ho ha hb (zoV _ h h2)) fun σ H Q hh=>el8 hh fun ad ρ S Q0 st rh q k=>?_
  refine zhE (Q:=fun x H'=>∃ k,x=.bl k/\Q k H') od ⟨ad,ρ,S,_,st,rh,q,fun d S' v H' ad' ⟨b,e,q'⟩ w st' r=>?_⟩
  subst e
  cases r
  exact⟨b,rfl,k b S' H' ad' q' w st'⟩
theorem zqj {K:PySem.W.Frag}{r1' r2':DR2}{r1 r2:R2}(o1:OD K r1' r1)(o2:OD K r2' r2){σ:L2.St}{H:Hp}{Q:VK}(h:up K (ziW r1' r2' ta tb tc) σ H Q):znH r1 r2 (up K ta) (up K tb) (up K tc) σ H Q:=by
 obtain⟨ad,ρ,S,Q0,st,rh,q,k⟩:=h
 refine⟨ad,ρ,S,_,st,rh,q,fun x S1 v H1 ad1 q1 w1 st1 rx=>?_⟩
 refine⟨ad1,ρ,S1,_,st1,rh.wd w1,q1,fun y S2 u H2 ad2 q2 w2 st2 ry=>?_⟩
 refine o1 ad2 H2 S2 x y v u _ _ st2 (rx.wd w2) ry q2 fun z S3 z' H3 ad3 ⟨c,e,q3⟩ w3 st3 rz=>?_
 subst e
 cases rz
 refine⟨c,rfl,?_⟩
 cases c with
 | true =>
  rw [if_pos rfl] at q3 ⊢
  refine⟨ad3,ρ,S3,_,st3,rh.wd ((w1.trans w2).trans w3),q3,fun z S4 z' H4 ad4 q4 w4 st4 rz=>?_⟩
  exact o2 ad4 H4 S4 y z u z' Q0 Q st4 (ry.wd (w3.trans w4)) rz q4 (k.wd (((w1.trans w2).trans w3).trans w4))
 | false =>
  rw [if_neg Bool.false_ne_true] at q3 ⊢
  exact k _ S3 _ H3 ad3 q3 ((w1.trans w2).trans w3) st3 (.bl _)
theorem zbq {e:Expr}{t:DE}(h:PD X e t)(he:∀ whole,isTrue e X.env whole=(do let v <- whole;standAt e.pos;holding [v] (truthy v)):=by intro _;rfl):PTD X e (dT t):=by with_unfolding_all exact (zfL (ztl h he) fun σ H Q hh=>el8 hh fun ad ρ S Q0 st rh q k =>
 ⟨ad,ρ,S,_,st,rh,q,fun d S' v H' ad' ⟨b,e,q'⟩ w st' r=>by
  subst e
  cases r
  exact⟨b,rfl,k b S' H' ad' q' w st'⟩⟩)
theorem zoo {op op':CmpOp}{r1 r2:DR2}(o1:OC X op r1)(o2:OC X op' r2)(ha:PD X a ta)(hb:PD X b tb)(hc:PD X c tc)(hm:lastMarks [op,op'] [b,c]=false:=by with_unfolding_all rfl):PTD X (.Compare a [op,op'] [b,c] pos) (dT (ziW r1 r2 ta tb tc)):=by
 with_unfolding_all
  obtain⟨s1,h1,d1⟩:=o1
  obtain⟨s2,h2,d2⟩:=o2
  refine zfL (zpG h1 h2 ha hb hc hm) fun σ H Q hh=>el8 hh fun ad ρ S Q0 st rh q k=>?_
  refine zqj (Q:=fun x H'=>∃ k,x=.bl k/\Q k H') d1 d2 ⟨ad,ρ,S,_,st,rh,q,fun d S' v H' ad' ⟨b,e,q'⟩ w st' r=>?_⟩
  subst e
  cases r
  exact⟨b,rfl,k b S' H' ad' q' w st'⟩
variable {tA tB':DT}{rest:List Expr}
theorem zcT (h:PTD X a tA):PTD X (.UnaryOp .Not a pos) (zeX tA):=by with_unfolding_all exact (zfL (zta h) fun σ H Q hh=>el8 hh fun ad ρ S Q0 st rh q k=>⟨ad,ρ,S,_,st,rh,q,fun b S' H' ad' q' w st'=>k _ S' H' ad' q' w st'⟩)
theorem zbg {e:Expr}{t:DT}(h:PWD X e t):PTD X e t:=by with_unfolding_all exact (h _)
theorem zcd (ha:PTD X a tA):PWD X (.BoolOp .And [a] pos) tA:=by with_unfolding_all exact (zsr ha)
theorem zdF (ha:PTD X a tA):PWD X (.BoolOp .Or [a] pos) tA:=by with_unfolding_all exact (ztp ha)
theorem zcp (ha:PTD X a tA)(hb:PWD X (.BoolOp .And (b::rest) pos) tB'):PWD X (.BoolOp .And (a::b::rest) pos) (zew tA tB'):=by with_unfolding_all exact (zmq (zsF ha hb) fun σ H Q hh=>el8 hh fun ad ρ S Q0 st rh q k =>
 ⟨ad,ρ,S,_,st,rh,q,fun b S' H' ad' q' w st'=>by
  cases b with
  | true=>rw [if_pos rfl] at q' ⊢;exact⟨ad',ρ,S',Q0,st',rh.wd w,q',fun b S' H' ad' q w'=>k b S' H' ad' q (w.trans w')⟩
  | false=>rw [if_neg Bool.false_ne_true] at q' ⊢;exact k _ S' H' ad' q' w st'⟩)
theorem zdJ (ha:PTD X a tA)(hb:PWD X (.BoolOp .Or (b::rest) pos) tB'):PWD X (.BoolOp .Or (a::b::rest) pos) (dOr tA tB'):=by with_unfolding_all exact (zmq (zvx ha hb) fun σ H Q hh=>el8 hh fun ad ρ S Q0 st rh q k =>
 ⟨ad,ρ,S,_,st,rh,q,fun b S' H' ad' q' w st'=>by
  cases b with
  | false=>rw [if_neg Bool.false_ne_true] at q' ⊢;exact⟨ad',ρ,S',Q0,st',rh.wd w,q',fun b S' H' ad' q w'=>k b S' H' ad' q (w.trans w')⟩
  | true=>rw [if_pos rfl] at q' ⊢;exact k _ S' H' ad' q' w st'⟩)
theorem zk0 {op}{t:DE}(h:PD X a t):PD X (.BoolOp op [a] pos) t:=by with_unfolding_all exact (zs4 h)
theorem zhx (ha:PD X a ta)(hb:PD X (.BoolOp .And (b::rest) pos) tb):PD X (.BoolOp .And (a::b::rest) pos) (zhz ta tb):=by with_unfolding_all exact (za6 (zs3 ha hb) fun σ H Q hh=>el8 hh fun ad ρ S Q0 st rh q k =>
 ⟨ad,ρ,S,_,st,rh,q,fun d S' v H' ad' ⟨c,e,q'⟩ w st' r=>by
  subst e
  cases r
  refine⟨c,rfl,?_⟩
  cases c with
  | true=>rw [if_pos rfl] at q' ⊢;exact⟨ad',ρ,S',Q0,st',rh.wd w,q',k.wd w⟩
  | false=>rw [if_neg Bool.false_ne_true] at q' ⊢;exact k _ S' _ H' ad' q' w st' (.bl _)⟩)
theorem zhv (ha:PD X a ta):PD X (.UnaryOp .Not a pos) (zhS ta):=by with_unfolding_all exact (za6 (zuc ha) fun σ H Q hh=>el8 hh fun ad ρ S Q0 st rh q k =>
 ⟨ad,ρ,S,_,st,rh,q,fun d S' v H' ad' ⟨c,e,q'⟩ w st' r=>by
  subst e
  cases r
  exact⟨c,rfl,k _ S' _ H' ad' q' w st' (.bl _)⟩⟩)
end
section
variable {X:Cx}{a b e:Expr}{es:List Expr}{ta tb te:DE}{t:DA}{pos:Pos}
theorem zq:PAD X [] zA:=by with_unfolding_all exact (zmk zsQ fun σ H Q hh=>el8 hh fun ad ρ S Q0 st rh q k=>k [] S [] H ad q Wd.refl st .nil)
theorem zc (ha:PD X e te)(hr:PAD X es t)(hs:starEach (e::es) X.env=(false,eval e X.env)::starEach es X.env:=by exact zbz rfl):PAD X (e::es) (zf te t):=by with_unfolding_all exact (zmk (zrB ha hr hs) fun σ H Q hh=>el8 hh fun ad ρ S Q0 st rh q k =>
 ⟨ad,ρ,S,_,st,rh,q,fun d S1 v H1 ad1 q1 w1 st1 r1=>⟨ad1,ρ,S1,_,st1,rh.wd w1,q1,fun ds S2 vs H2 ad2 q2 w2 st2 r2=>k _ S2 _ H2 ad2 q2 (w1.trans w2) st2 (.cons (r1.wd w2) r2)⟩⟩)
theorem zag {x1}(h:PAD X es t):PD X (.Tuple es x1 pos) (dTup t):=by with_unfolding_all exact (za6 (ztR h) fun σ H Q hh=>el8 hh fun ad ρ S Q0 st rh q k =>
 ⟨ad,ρ,S,_,st,rh,q,fun ds S1 vs H1 ad1 ⟨hz,q1⟩ w1 st1 r1=>⟨by rw [<- r1.length];exact zc4 hz,fun p hp=>zjd st1 (k.wd w1) r1 q1 p hp⟩⟩)
theorem zat (h:PAD X es t):PD X (.List es pos) (zaY t):=by with_unfolding_all exact (za6 (zsB h) fun σ H Q hh=>el8 hh fun ad ρ S Q0 st rh q k =>
 ⟨ad,ρ,S,_,st,rh,q,fun ds S1 vs H1 ad1 ⟨hz,q1⟩ w1 st1 r1=>⟨by rw [<- r1.length];exact zc4 hz,fun p hp=>zfI st1 (k.wd w1) r1 q1 p hp⟩⟩)
theorem zue {xs:List D}{i:Int}{d:D}(h:atD xs i=some d){K:PySem.W.Frag}{ad:List Addr}{H:Hp}{vs:List V}(r:zJ K ad H xs vs):∃ v,atI vs i=some v/\Rel K ad H d v:=by
 have e:ixN vs.length i=ixD xs.length i:=by rw [r.length];rfl
 unfold atD at h
 unfold atI
 rw [e]
 cases q:ixD xs.length i with
 | none=>rw [q] at h;cases h
 | some j =>
  rw [q] at h
  exact r.get h
theorem zB (ha:PD X a ta)(hb:PD X b tb)(hs:zmi b):PD X (.Subscript a b pos) (dOp oIx ta tb):=by with_unfolding_all exact (za6 (zuN (zsc.or (zuq.or zt5)) ha hb hs) fun _ _ _=>zhE fun ad H S x y v u Q0 Q st rx ry h k=>by
 rcases h with ⟨i,xs,d,ey,hx,e,q⟩ | ⟨z,i,c,rfl,rfl,hz,e,q⟩
 case inr =>
  cases rx
  cases ry
  exact .inr (.inr ⟨z,i,c,rfl,rfl,zc4 hz,e,k _ S _ H ad q Wd.refl st (.str _)⟩)
 subst ey
 cases ry
 obtain⟨p,vs,rfl,hs,r⟩:=hx.sq st rx
 obtain⟨z,ez,rz⟩:=zue e r
 rcases hs with hs | hs
 ·exact .inl ⟨p,vs,i,z,rfl,rfl,hs,ez,k _ S _ H ad q Wd.refl st rz⟩
 ·exact .inr (.inl ⟨p,vs,i,z,rfl,rfl,hs,ez,k _ S _ H ad q Wd.refl st rz⟩))
def upO (K:PySem.W.Frag)(t:Option DE):TO:=fun σ H Q=>∃ ad ρ S Q0,zR K ad H S/\zar K ad H ρ σ/\zif t ρ S Q0/\∀ o S' H' ad',Q0 o S'->Wd ad H ad' H'->zR K ad' H' S'->Q o H'
theorem zsm:PO X none (upO X.K none):=fun pins s σ H Q I hh=>el8 hh fun ad ρ S Q0 st rh q k=>zrv pins s σ H Q I (k none S H ad q Wd.refl st)
theorem zjP {t:DE}(h:PD X e t):PO X (some e) (upO X.K (some t)):=by with_unfolding_all exact (fun pins s σ H Q I hh=>el8 hh fun ad ρ S Q0 st rh q k=>zrU h pins s σ H Q I ⟨ad,ρ,S,_,st,rh,q,fun d S' v H' ad' ⟨i,e,q'⟩ w st' r=>by
 subst e
 cases r
 exact⟨i,rfl,k _ S' H' ad' q' w st'⟩⟩)
theorem zl2 {K:PySem.W.Frag}{ad:List Addr}{H:Hp}{xs:List D}{vs:List V}(lo hi:Option Int)(r:zJ K ad H xs vs):zJ K ad H (cutD xs lo hi) (zgb vs lo hi):=by
  have e1:HT.sIx vs.length 0 lo=slD xs.length 0 lo:=by
    rw [r.length];cases lo with
    | none=>rfl
    | some k=>show HT.sIx _ _ (some k)=_;unfold HT.sIx slD;first | rfl | (simp only [];split<;>omega)
  have e2:HT.sIx vs.length vs.length hi=slD xs.length xs.length hi:=by
    rw [r.length];cases hi with
    | none=>rfl
    | some k=>show HT.sIx _ _ (some k)=_;unfold HT.sIx slD;first | rfl | (simp only [];split<;>omega)
  unfold cutD zgb
  rw [e1,e2]
  exact (r.drop _).take _
def zuL (K:PySem.W.Frag):V->Option Int->Option Int->Hp->VK->Prop:=fun x lo hi H Q=>∃ a xs,x=.ref a/\SqT K H a xs /\
 ((HT.sIx xs.length 0 lo=0/\HT.sIx xs.length xs.length hi=xs.length)->Q (.ref a) H)/\(¬ (HT.sIx xs.length 0 lo=0/\HT.sIx xs.length xs.length hi=xs.length)->∀ p,H p=none->Q (.ref p) (upd H p (.tup (zgb xs lo hi))))
theorem zkj {prog:Program}{w:World}{A:Around}{E:Value->Shared->Prop}{s:Shared}{t sl:Addr}{items:Array Value}{vl vu:Value}{lo hi:Option Int}{Q:Value->Shared->Prop}(ht:IsTup s.heap t items)(hs:s.heap.IsSliceOf sl vl vu .none)(pl:IsPart vl lo)(pu:IsPart vu hi)
  (hw:HT.sIx items.size 0 lo=0/\HT.sIx items.size items.size hi=items.size) (h:Q (.ref t) s):wpAny (model prog w) A (getItem (.ref t) (.ref sl)) Q E s:=by
 obtain⟨os,hos,hcs,hds⟩:=id hs
 have hTs:s.TypeIs (.ref sl) "slice":=⟨os,hos,hcs⟩
 unfold getItem
 try with_reducible refine wpAny_holding ?_
 first | refine wpAny_bind (wpAny_pure ?_) | skip
 refine wpAny_bind (wpAny_sequenceKey ht.typeIs (by decide) ?_)
 refine wpAny_bind (wpAny_callSpecial?_slot (name:=Str.ofString "__getitem__") ht.typeIs PyProof.Rows.slot_tuple_getitem
  (wpAny_call_entry PyProof.Rows.slot_tuple_getitem ht.typeIs PyProof.Rows.entry_tuple_getitem ?_ (PyProof.Rows.args_tuple_getitem _ _)))
 show wpAny _ _ (Builtin.Tuple.tupleItemsOf (.ref t) >>= _) _ _ s
 refine wpAny_bind (tupleItemsOf_ ht ?_)
 refine wpAny_bind (wpAny_typeOf hTs ?_)
 rw [if_pos (by decide)]
 refine wpAny_bind (HT.zeS hs pl pu ?_)
 show wpAny _ _ (if (((HT.sIx items.size 0 lo:Nat):Int)==0&&(1:Int)==1&&(HT.sIx items.size items.size hi-HT.sIx items.size 0 lo)==items.size)=true then _ else _) _ _ s
 rw [if_pos (by rw [hw.1,hw.2];simp)]
 unfold Builtin.Tuple.tupleIsExact
 refine wpAny_bind (wpAny_bind (wpAny_typeOf ht.typeIs (wpAny_pure ?_)))
 rw [if_pos (by decide)]
 refine wpAny_bind (wpAny_rule ?_)
 first
  | exact wpAny_pure ⟨_,rfl,wpAny_pure h⟩
  | exact wpAny_bind (wpAny_pure ⟨_,rfl,wpAny_pure h⟩)
  | exact wpAny_bind (wpAny_pure (wpAny_pure ⟨_,rfl,wpAny_pure h⟩))
  | trace_state
theorem zrb:SlR X (zuL X.K):=by
 intro pins s σ H x v vl vu lo hi sl Q I rx hs pl pu h
 obtain⟨a,xs,rfl,hx,q1,q2⟩:=h
 by_cases hw:HT.sIx xs.length 0 lo=0/\HT.sIx xs.length xs.length hi=xs.length
 ·cases rx
  obtain⟨its,r,ht,hz⟩:=I.tuple hx
  have hlen:its.toArray.size=xs.length:=by rw [List.size_toArray];exact r.length.symm
  refine⟨"tuple",_,PyProof.Rows.slot_tuple_getitem.lookup,ht.typeIs,?_⟩
  exact zkj ht hs pl pu (by rw [hlen];exact hw) ⟨.ref a,H,I,rfl,q1 hw⟩
 ·exact zuk pins s σ H (.ref a) v vl vu lo hi sl Q I rx hs pl pu ⟨a,xs,rfl,hx,hw,q2 hw⟩
theorem zop {α:Type}(xs:List α)(lo hi:Option Int)(h1:slD xs.length 0 lo=0)(h2:slD xs.length xs.length hi=xs.length):cutD xs lo hi=xs:=by
 unfold cutD;rw [h1,h2];simp
theorem zjh (n d:Nat)(o:Option Int):HT.sIx n d o=slD n d o:=by
 cases o with
 | none=>rfl
 | some k=>rfl
theorem zqE {lo hi:Option Expr}{tl th:Option DE}{p2:Pos}(ha:PD X a ta)(hl:PO X lo (upO X.K tl))(hh:PO X hi (upO X.K th)):PD X (.Subscript a (.Slice lo hi none p2) pos) (dSl zlk ta tl th):=by with_unfolding_all exact (za6 (zpY (zrQ.or (zrb.or zua)) ha hl hh) fun σ H Q hh=>el8 hh fun ad ρ S Q0 st rh q k =>
 ⟨ad,ρ,S,_,st,rh,q,fun x S1 v H1 ad1 q1 w1 st1 r1=>⟨ad1,ρ,S1,_,st1,rh.wd w1,q1,fun l S2 H2 ad2 q2 w2 st2=>⟨ad2,ρ,S2,_,st2,rh.wd (w1.trans w2),q2,fun h S3 H3 ad3 q3 w3 st3=>by
  have r3:=r1.wd (w2.trans w3)
  have k3:=k.wd ((w1.trans w2).trans w3)
  rcases q3 with ⟨xs,rfl,q3⟩ | ⟨xs,hx,q3⟩ | ⟨z,rfl,hz,q3⟩
  ·cases r3 with
   | tup h1 r =>
    refine .inr (.inl ⟨_,_,rfl,SqT.of h1,fun⟨z1,z2⟩=>?_,fun _ p hp=>zjd st3 k3 (zl2 _ _ r) q3 p hp⟩)
    rw [zjh,<- r.length] at z1 z2
    rw [zop xs _ _ z1 z2] at q3
    exact k3 _ S3 _ H3 ad3 q3 Wd.refl st3 (.tup h1 r)
  ·obtain⟨p,vs,rfl,hs,r⟩:=hx.sq st3 r3
   exact .inl ⟨p,vs,rfl,hs,fun l hl=>zfI st3 k3 (zl2 _ _ r) q3 l hl⟩
  ·cases r3
   refine .inr (.inr ⟨z,rfl,zc4 hz,?_⟩)
   have e:(⟨((z.cps.toList.drop (HT.sIx z.length 0 l)).take (HT.sIx z.length z.length h-HT.sIx z.length 0 l)).toArray⟩:Str)=zf7 z l h:=by
    unfold zf7 cutD
    rw [zjh,zjh,show z.length=z.cps.toList.length from Array.length_toList.symm]
   rw [e]
   exact k3 _ S3 _ H3 ad3 q3 Wd.refl st3 (.str _)⟩⟩⟩)
end
end Dp
namespace Dp
open PySem PySem.Spec PyProof.Rows L2 My
variable [B:Bs]
section
variable {X:Cx}{a e:Expr}{es:List Expr}{ta te:DE}{t:DA}{pos p:Pos}
theorem zF {k j:Nat}{x:Str}{ps:List Str}{f:DSp}(G:Got X.prog X.w X.K X.mg X.base k x ps (upF X.K f))(hr:zaM j X.A)(hk:k<=j)(hg:Gl X x)
  (ha:PAD X (e::es) t) (hdb:(x==("__debug__":Str))=false:=by decide) (he:starEach (e::es) X.env=(false,eval e X.env)::starEach es X.env:=by exact zbz rfl) (hpl:(backTo pos (starEach es X.env)).any (·.1)=false:=by exact zds rfl) :
  PD X (.Call (.Name x p) (e::es) [] pos) (dCall f t):=by with_unfolding_all exact (za6 (zuh G hr hk hg ha hdb he hpl) fun σ H Q hh=>el8 hh fun ad ρ S Q0 st rh q k =>
 ⟨ad,ρ,S,_,st,rh,q,fun ds S1 vs H1 ad1 q1 w1 st1 r1=>by
  show upF X.K f (vs++[]) H1 Q E0
  rw [List.append_nil];exact⟨ad1,S1,ds,Q0,st1.base,r1,q1,(k.wd w1).base st1⟩⟩)
def BD (K:PySem.W.Frag)(r':DB)(r:List V->Hp->VK->Prop):Prop:=∀ ad H S ds vs Q0 Q,zR K ad H S->zJ K ad H ds vs->r' ds S Q0->KK K ad H Q0 Q->r vs H Q
def BC (X:Cx)(f:Value)(r':DB):Prop:=∃ r,zaK X f r/\BD X.K r' r
theorem zai {x:Str}{id:String}{r':DB}(o:BC X (.builtin id) r')(hg:Gl X x)(hm:X.mg x=none)(hv:bootBuiltins x=some (.builtin id))(ha:PAD X (e::es) t)(hn:x≠"__name__":=by decide)(hdb:(x==("__debug__":Str))=false:=by decide)
  (he:starEach (e::es) X.env=(false,eval e X.env)::starEach es X.env:=by exact zbz rfl) (hpl:(backTo pos (starEach es X.env)).any (·.1)=false:=by exact zds rfl):PD X (.Call (.Name x p) (e::es) [] pos) (dB r' t):=by
 with_unfolding_all
  obtain⟨r,ho,od⟩:=o
  exact za6 (zqi ho hg hm hv ha hn hdb he hpl) fun σ H Q hh=>el8 hh fun ad ρ S Q0 st rh q k =>
   ⟨ad,ρ,S,_,st,rh,q,fun ds S1 vs H1 ad1 q1 w1 st1 r1=>od ad1 H1 S1 ds vs Q0 Q st1 r1 q1 (k.wd w1)⟩
theorem zfZ {x:Str}{T:String}{r':DB}(o:BC X (.type T) r')(hg:Gl X x)(hm:X.mg x=none)(hv:bootBuiltins x=some (.type T))(ha:PAD X (e::es) t)(hn:x≠"__name__":=by decide)(hdb:(x==("__debug__":Str))=false:=by decide)
  (he:starEach (e::es) X.env=(false,eval e X.env)::starEach es X.env:=by exact zbz rfl) (hpl:(backTo pos (starEach es X.env)).any (·.1)=false:=by exact zds rfl):PD X (.Call (.Name x p) (e::es) [] pos) (dB r' t):=by
 with_unfolding_all
  obtain⟨r,ho,od⟩:=o
  exact za6 (zox ho hg hm hv ha hn hdb he hpl) fun σ H Q hh=>el8 hh fun ad ρ S Q0 st rh q k =>
   ⟨ad,ρ,S,_,st,rh,q,fun ds S1 vs H1 ad1 q1 w1 st1 r1=>od ad1 H1 S1 ds vs Q0 Q st1 r1 q1 (k.wd w1)⟩
theorem zcq {K:PySem.W.Frag}{ad:List Addr}{H:Hp}{d:D}{vs:List V}(r:zJ K ad H [d] vs):∃ v,vs=[v]/\Rel K ad H d v:=by
 cases r with
 | cons r t=>cases t;exact⟨_,rfl,r⟩
theorem zis {K:PySem.W.Frag}{ad:List Addr}{H:Hp}{d e:D}{vs:List V}(r:zJ K ad H [d,e] vs):∃ v u,vs=[v,u]/\Rel K ad H d v/\Rel K ad H e u:=by
 cases r with
 | cons r t =>
  obtain⟨u,rfl,r2⟩:=zcq t
  exact⟨_,_,rfl,r,r2⟩
theorem zaI:BC X (.builtin "len") zbm:=⟨_,znW.or zlj,fun ad H S ds vs Q0 Q st r h k=>by
 rcases h with ⟨x,xs,e,hx,q⟩ | ⟨z,e,hz,q⟩
 case inr =>
  subst e
  obtain⟨v,rfl,rv⟩:=zcq r
  cases rv
  exact .inr ⟨z,rfl,zc4 hz,k _ S _ H ad q Wd.refl st (.int _)⟩
 subst e
 obtain⟨v,rfl,rv⟩:=zcq r
 obtain⟨a,ws,rfl,hs,rs⟩:=hx.sq st rv
 exact .inl ⟨a,ws,rfl,hs,k _ S _ H ad (by rw [rs.length] at q;exact q) Wd.refl st (.int _)⟩⟩
theorem zln:BC X (.builtin "abs") zlz:=⟨_,zo2,fun ad H S ds vs Q0 Q st r ⟨i,e,q⟩ k=>by
 subst e
 obtain⟨v,rfl,rv⟩:=zcq r
 cases rv
 exact⟨i,rfl,k _ S _ H ad q Wd.refl st (.int _)⟩⟩
theorem zto (i j:Int):(if j > i then j else i)=max i j:=by
  rw [Int.max_def];split<;>split<;>omega
theorem zst (i j:Int):(if j<i then j else i)=min i j:=by
  rw [Int.min_def];split<;>split<;>omega
theorem zeJ (hc:X.calm=true:=by rfl):BC X (.builtin "max") ze5:=⟨_,zoU hc,fun ad H S ds vs Q0 Q st r ⟨i,j,e,q⟩ k=>by
 subst e
 obtain⟨v,u,rfl,rv,ru⟩:=zis r
 cases rv
 cases ru
 exact⟨i,j,rfl,by rw [zto];exact k _ S _ H ad q Wd.refl st (.int _)⟩⟩
theorem zfH (hc:X.calm=true:=by rfl):BC X (.builtin "min") zgc:=⟨_,zoI hc,fun ad H S ds vs Q0 Q st r ⟨i,j,e,q⟩ k=>by
 subst e
 obtain⟨v,u,rfl,rv,ru⟩:=zis r
 cases rv
 cases ru
 exact⟨i,j,rfl,by rw [zst];exact k _ S _ H ad q Wd.refl st (.int _)⟩⟩
theorem zrq (hc:X.calm=true:=by rfl):BC X (.builtin "max") znE:=⟨_,zom rfl hc,fun ad H S ds vs Q0 Q st r ⟨x,ns,e,hx,h0,q⟩ k=>by
 subst e
 obtain⟨v,rfl,rv⟩:=zcq r
 obtain⟨a,ws,rfl,hs,rs⟩:=hx.sq st rv
 cases rs.ints
 exact⟨a,ns,rfl,hs,h0,fun m h1 h2=>k _ S _ H ad (q m h1 h2) Wd.refl st (.int _)⟩⟩
theorem zma (hc:X.calm=true:=by rfl):BC X (.builtin "min") zkq:=⟨_,zon rfl hc,fun ad H S ds vs Q0 Q st r ⟨x,ns,e,hx,h0,q⟩ k=>by
 subst e
 obtain⟨v,rfl,rv⟩:=zcq r
 obtain⟨a,ws,rfl,hs,rs⟩:=hx.sq st rv
 cases rs.ints
 exact⟨a,ns,rfl,hs,h0,fun m h1 h2=>k _ S _ H ad (q m h1 h2) Wd.refl st (.int _)⟩⟩
theorem zgJ (hc:X.calm=true:=by rfl):BC X (.builtin "all") zgV:=⟨_,zoN rfl hc,fun ad H S ds vs Q0 Q st r ⟨x,ns,e,hx,q⟩ k=>by
 subst e
 obtain⟨v,rfl,rv⟩:=zcq r
 obtain⟨a,ws,rfl,hs,rs⟩:=hx.sq st rv
 cases rs.bls
 exact⟨a,ns,rfl,hs,k _ S _ H ad q Wd.refl st (.bl _)⟩⟩
theorem zpy:BC X (.type "tuple") zkY:=⟨_,zoJ rfl,fun ad H S ds vs Q0 Q st r ⟨x,xs,e,hx,q⟩ k=>by
 subst e
 obtain⟨v,rfl,rv⟩:=zcq r
 rcases hx with rfl | hx
 ·cases rv with
  | tup h rr=>exact⟨_,_,rfl,.inr ⟨SqT.of h,k _ S _ H ad q Wd.refl st (.tup h rr)⟩⟩
 ·obtain⟨a,ws,rfl,hs,rs⟩:=hx.sq st rv
  exact⟨a,ws,rfl,.inl ⟨hs,fun l hl=>zjd st k rs q l hl⟩⟩⟩
theorem zeM:BC X (.type "list") ze9:=⟨_,zmz,fun ad H S ds vs Q0 Q st r ⟨x,xs,e,hx,q⟩ k=>by
 subst e
 obtain⟨v,rfl,rv⟩:=zcq r
 obtain⟨a,ws,rfl,hs,rs⟩:=hx.sq st rv
 exact⟨a,ws,rfl,hs,fun l hl=>zfI st k rs q l hl⟩⟩
section
variable {K:PySem.W.Frag}
theorem zrL (t:String)(h:zjy t=true):PySem.W.kitOne K (.type "NoneType") (.type t)=some false/\PySem.W.kitOne K (.type "bool") (.type t)=some (t=="bool"||t=="int")/\PySem.W.kitOne K (.type "int") (.type t)=some (t=="int") /\
  PySem.W.kitOne K (.type "str") (.type t)=some (t=="str")/\PySem.W.kitOne K (.type "tuple") (.type t)=some (t=="tuple")/\PySem.W.kitOne K (.type "list") (.type t)=some (t=="list"):=by
 unfold zjy at h
 simp only [Bool.or_eq_true,beq_iff_eq] at h
 rcases h with (((rfl | rfl) | rfl) | rfl) | rfl
 ·exact⟨by kernel_rfl,by kernel_rfl,by kernel_rfl,by kernel_rfl,by kernel_rfl,by kernel_rfl⟩
 ·exact⟨by kernel_rfl,by kernel_rfl,by kernel_rfl,by kernel_rfl,by kernel_rfl,by kernel_rfl⟩
 ·exact⟨by kernel_rfl,by kernel_rfl,by kernel_rfl,by kernel_rfl,by kernel_rfl,by kernel_rfl⟩
 ·exact⟨by kernel_rfl,by kernel_rfl,by kernel_rfl,by kernel_rfl,by kernel_rfl,by kernel_rfl⟩
 ·exact⟨by kernel_rfl,by kernel_rfl,by kernel_rfl,by kernel_rfl,by kernel_rfl,by kernel_rfl⟩
end
theorem zjg:BC X (.builtin "isinstance") zf3:=⟨_,zpw,fun ad H S ds vs Q0 Q st r ⟨x,t,b,e,h,q⟩ k=>by
 subst e
 obtain⟨v,u,rfl,rv,ru⟩:=zis r
 cases ru
 have fin:=k _ S _ H ad q Wd.refl st (.bl b)
 unfold zpr at h
 split at h
 ·cases h
 rename_i hty
 have hty':zjy t=true:=by
  cases hh:zjy t
  ·exact absurd (by show (!zjy t)=true;rw [hh];rfl) hty
  ·rfl
 obtain⟨k1,k2,k3,k4,k5,k6⟩:=zrL (K:=X.K) t hty'
 cases rv with
 | non=>cases h;exact⟨_,_,_,_,rfl,.non,k1,fin⟩
 | bl c=>cases h;exact⟨_,_,_,_,rfl,.bl c,k2,fin⟩
 | int i=>cases h;exact⟨_,_,_,_,rfl,.int i,k3,fin⟩
 | str y=>cases h;exact⟨_,_,_,_,rfl,.str y,k4,fin⟩
 | ty n=>cases h
 | exn _ _ _=>cases h
 | tup ht rt=>cases h;exact⟨_,_,_,_,rfl,.tup ht,k5,fin⟩
 | rl hl rl=>cases h
 | @ref n a hn =>
  have h:(match S[n]? with | some (.lst _)=>some (t=="list") | _=>none)=some b:=h
  cases hS:S[n]? with
  | none=>rw [hS] at h;cases h
  | some c =>
   rw [hS] at h
   cases c with
   | ins c fs=>cases h
   | lst xs =>
    cases h
    obtain⟨vs,hv,_⟩:=st.cell n a _ hn hS
    exact⟨_,_,_,_,rfl,.lst hv,k6,fin⟩⟩
theorem zl7:∀ {K:PySem.W.Frag} {ad:List Addr} {H:Hp} {cs:List (Int×Int)} {vs:List V},zJ K ad H (cs.map p2) vs->∃ ps:List Addr,vs=ps.map V.ref/\ze7 H ps cs
 | _,_,_,[],_,.nil=>⟨[],rfl,.nil⟩
 | _,_,_,c::cs,_,.cons r t=>by
  obtain⟨ps,rfl,h⟩:=zl7 t
  cases r with
  | tup h1 r1 =>
   obtain⟨v,u,rfl,rv,ru⟩:=zis r1
   cases rv
   cases ru
   exact⟨_::ps,rfl,.cons h1 h⟩
theorem zqx:∀ {K:PySem.W.Frag} {ad:List Addr} {H:Hp} {cs:List (Int×Int)} {ps:List Addr},ze7 H ps cs->zJ K ad H (cs.map p2) (ps.map V.ref)
 | _,_,_,_,_,.nil=>.nil
 | _,_,_,_,_,.cons r t=>.cons (.tup r (.cons (.int _) (.cons (.int _) .nil))) (zqx t)
theorem ztW (a b:Int×Int):plt a b=zik a b:=by
 unfold plt zik
 by_cases h:a.1=b.1
 ·simp [h]
 ·simp [h]
theorem zpx:BC X (.builtin "sorted") zn1:=⟨_,zk7 rfl,fun ad H S ds vs Q0 Q st r ⟨x,cs,e,hx,h64,q⟩ k=>by
 subst e
 obtain⟨v,rfl,rv⟩:=zcq r
 obtain⟨a,ws,rfl,hs,rs⟩:=hx.sq st rv
 obtain⟨ps,rfl,hp⟩:=zl7 rs
 exact⟨a,ps,cs,rfl,hs,hp,h64,fun l ps' cs' hl hp' hperm hpw=>zfI st k (zqx hp') (q cs' hperm (hpw.imp fun h=>by rw [<- ztW];exact h)) l hl⟩⟩
def MD (X:Cx)(id:String)(r':DM):Prop:=∃ r,MtR X id r/\∀ ad H S x ds v vs Q0 Q,zR X.K ad H S->Rel X.K ad H x v->zJ X.K ad H ds vs->r' x ds S Q0->KK X.K ad H Q0 Q->r v vs H Q
theorem znV {K:PySem.W.Frag}{ad:List Addr}{H:Hp}{S:Sto}{x:D}{v:V}(st:zR K ad H S)(h:∃ n ys,x=.ref n/\S[n]?=some (.lst ys))(r:Rel K ad H x v):tyV K "list" v H:=by
 obtain⟨n,ys,rfl,h⟩:=h
 cases r with
 | ref e =>
  obtain⟨vs,hv,_⟩:=st.cell n _ _ e h
  exact .inl ⟨rfl,vs,SqL.of hv⟩
theorem zeu {o:Expr}{to:DE}{name:Str}{id:String}{apos cpos:Pos}{r':DM}(slot:Slot "list" name id)(hty:typeOf (.builtin id)=pure (.type "method_descriptor"))(hm:MD X id r')(ho:PD X o to)(ha:PAD X (e::es) t)
  (hbase:attributeBase o name X.env (eval o X.env)=eval o X.env:=by rfl)
  (hfew:((backTo cpos (starEach (e::es) X.env)).all (fun x=>!x.1)&&(backToKw cpos (keywordEach [] X.env)).all (fun x=>x.1.isSome)
  &&decide ((e::es).length+([]:List Keyword).length+(if ([]:List Keyword).isEmpty then 0 else 1)<30))=true:=by rfl)
  (hline:(apos.endLine==cpos.line)=true:=by rfl) (hs:starEach (e::es) X.env=(false,eval e X.env)::starEach es X.env:=by exact zbz rfl) (hplain:(backTo cpos (starEach es X.env)).any (·.1)=false:=by exact zds rfl) :
  PD X (.Call (.Attribute o name apos) (e::es) [] cpos) (dM r' to t):=by
 with_unfolding_all
  obtain⟨r,hr,od⟩:=hm
  exact za6 (zuT PySem.F.plainAttrs_list slot hty hr ho ha hbase hfew hline hs hplain) fun σ H Q hh=>el8 hh fun ad ρ S Q0 st rh q k =>
   ⟨ad,ρ,S,_,st,rh,q,fun x S1 v H1 ad1 ⟨hl,q1⟩ w1 st1 r1=>⟨znV st1 hl r1,ad1,ρ,S1,_,st1,rh.wd w1,q1,fun ds S2 vs H2 ad2 q2 w2 st2 r2 =>
    od ad2 H2 S2 x ds v vs Q0 Q st2 (r1.wd w2) r2 q2 (k.wd (w1.trans w2))⟩⟩
theorem zvM {o:Expr}{to:DE}{name:Str}{id:String}{apos cpos:Pos}{r':DM}(slot:Slot "list" name id)(hty:typeOf (.builtin id)=pure (.type "method_descriptor"))(hm:MD X id r')(ho:PD X o to)
  (hbase:attributeBase o name X.env (eval o X.env)=eval o X.env:=by rfl) (hline:(apos.endLine==cpos.line)=true:=by rfl):PD X (.Call (.Attribute o name apos) [] [] cpos) (dM r' to zA):=by
 with_unfolding_all
  obtain⟨r,hr,od⟩:=hm
  exact za6 (zt3 PySem.F.plainAttrs_list slot hty hr ho hbase hline) fun σ H Q hh=>el8 hh fun ad ρ S Q0 st rh q k =>
   ⟨ad,ρ,S,_,st,rh,q,fun x S1 v H1 ad1 ⟨hl,q1⟩ w1 st1 r1=>⟨znV st1 hl r1,od ad1 H1 S1 x [] v [] Q0 Q st1 r1 .nil q1 (k.wd w1)⟩⟩
theorem zbl:MD X "list.append" zbA:=⟨_,zj4,fun ad H S x ds v vs Q0 Q st rx r ⟨n,xs,y,ex,ey,hn,hl,q⟩ k=>by
 subst ex ey
 obtain⟨u,rfl,ru⟩:=zcq r
 cases rx with
 | ref e =>
  obtain⟨ws,hw,rw⟩:=st.cell n _ _ e hn
  exact⟨_,ws,u,rfl,rfl,hw,by rw [<- rw.length];exact zoA hl,k _ _ _ _ ad q (Wd.put e hw) (st.put e hw (rw.append (.cons ru .nil))) .non⟩⟩
theorem zmF:MD X "list.extend" ziq:=⟨_,zmQ,fun ad H S x ds v vs Q0 Q st rx r h k=>by
 rcases h with ⟨n,xs,m,ys,ex,ey,hn,hm,hne,hl,q⟩ | ⟨n,xs,ys,ex,ey,hn,hl,q⟩
 ·subst ex ey
  obtain⟨u,rfl,ru⟩:=zcq r
  cases rx with
  | ref e =>
   cases ru with
   | ref e2 =>
    obtain⟨ws,hw,rw⟩:=st.cell n _ _ e hn
    obtain⟨ws2,hw2,rw2⟩:=st.cell m _ _ e2 hm
    exact .inl ⟨_,_,ws,ws2,rfl,rfl,hw,hw2,by rw [<- rw.length,<- rw2.length];exact zc4 hl,k _ _ _ _ ad q (Wd.put e hw) (st.put e hw (rw.append rw2)) .non⟩
 ·subst ex ey
  obtain⟨u,rfl,ru⟩:=zcq r
  cases rx with
  | ref e =>
   cases ru with
   | tup h2 rw2 =>
    obtain⟨ws,hw,rw⟩:=st.cell n _ _ e hn
    exact .inr ⟨_,_,ws,_,rfl,rfl,hw,SqT.of h2,by rw [<- rw.length,<- rw2.length];exact zc4 hl,k _ _ _ _ ad q (Wd.put e hw) (st.put e hw (rw.append rw2)) .non⟩⟩
theorem zmJ:MD X "list.reverse" ziA:=⟨_,znr,fun ad H S x ds v vs Q0 Q st rx r ⟨n,xs,ex,ey,hn,q⟩ k=>by
 subst ex ey
 cases r
 cases rx with
 | ref e =>
  obtain⟨ws,hw,rw⟩:=st.cell n _ _ e hn
  exact⟨_,ws,rfl,rfl,hw,k _ _ _ _ ad q (Wd.put e hw) (st.put e hw rw.reverse) .non⟩⟩
end
end Dp
namespace Dp
open PySem PySem.Spec PyProof.Rows L2 My
variable [B:Bs]
def zij (K:PySem.W.Frag)(b:Nat)(g':DG)(g:TG):Prop:=∀ ad H S ρ σ d v Q0 Q,zR K ad H S->zar K ad H ρ σ->Rel K ad H d v->g' d ρ S Q0 ->
 (∀ ρ' S' σ' H' ad',Q0 ρ' S'->Wd ad H ad' H'->zR K ad' H' S'->zar K ad' H' ρ' σ'->σ'.length=σ.length->(∀ j,b<=j->σ'[j]?=σ[j]?)->Q σ' H')->g v σ H Q
def ziN (K:PySem.W.Frag)(b:Nat)(g':DGs)(g:TGs):Prop:=∀ ad H S ρ σ ds vs Q0 Q,zR K ad H S->zar K ad H ρ σ->zJ K ad H ds vs->g' ds ρ S Q0 ->
 (∀ ρ' S' σ' H' ad',Q0 ρ' S'->Wd ad H ad' H'->zR K ad' H' S'->zar K ad' H' ρ' σ'->σ'.length=σ.length->(∀ j,b<=j->σ'[j]?=σ[j]?)->Q σ' H')->g vs σ H Q
def PGD (X:Cx)(b:Nat)(tg:Expr)(g':DG):Prop:=∃ g,PG X tg g/\zij X.K b g' g
def zmD (X:Cx)(b:Nat)(tgs:List Expr)(g':DGs):Prop:=∃ g,PGs X tgs g/\ziN X.K b g' g
theorem zar.set {K:PySem.W.Frag}{ad:List Addr}{H:Hp}{ρ:Rho}{σ:L2.St}{d:D}{v:V}(h:zar K ad H ρ σ)(r:Rel K ad H d v)(i:Nat):zar K ad H (ρ.set i (some d)) (σ.set i (some v)) where
 len:=by rw [List.length_set,List.length_set];exact h.len
 val:=fun j e q=>by
  by_cases hj:j=i
  ·subst hj
   have hl:j<ρ.length:=by have:=My.zbe q;rw [List.length_set] at this;exact this
   rw [List.getElem?_set_self hl] at q
   cases q
   exact⟨v,List.getElem?_set_self (by rw [<- h.len];exact hl),r⟩
  ·rw [List.getElem?_set_ne (Ne.symm hj)] at q
   obtain⟨u,e1,r1⟩:=h.val j e q
   exact⟨u,by rw [List.getElem?_set_ne (Ne.symm hj)];exact e1,r1⟩
section
variable {X:Cx}{pos:Pos}{b:Nat}
theorem zak {K:PySem.W.Frag}(i:Nat)(hb:i<b):zij K b (zE i) (L2.zE i):=fun ad H S ρ σ d v Q0 Q st rh r q k =>
 k _ S _ H ad q Wd.refl st (rh.set r i) (List.length_set ..) fun j hj=>List.getElem?_set_ne (by omega)
theorem zac {i:Nat}{x:Str}(hN:X.N.Nodup)(hi:X.N[i]?=some x)(hx:Loc X.env.scope x)(hf:X.fn x=true\/X.env.scope.names.lookup x=some .local:=by first | exact .inl rfl | exact .inr rfl | assumption)(hb:i<b:=by decide):PGD X b (.Name x pos) (zE i) :=
 ⟨_,zaE hN hi hx hf,zak i hb⟩
theorem zd2:zmD X b [] zc0:=⟨_,zhT,fun ad H S ρ σ ds vs Q0 Q st rh r ⟨e,q⟩ k=>by
 subst e
 cases r
 exact⟨rfl,k ρ S σ H ad q Wd.refl st rh rfl fun _ _=>rfl⟩⟩
theorem zap {e:Expr}{es:List Expr}{t:DG}{u:DGs}(h1:PGD X b e t)(h2:zmD X b es u)(hs:(assignEach (e::es) X.env).map (·.2)=assign e X.env::(assignEach es X.env).map (·.2):=by rfl):zmD X b (e::es) (zao t u):=by
 obtain⟨g1,p1,r1⟩:=h1
 obtain⟨g2,p2,r2⟩:=h2
 refine⟨_,zcI p1 p2 hs,fun ad H S ρ σ ds vs Q0 Q st rh r ⟨d,rs,ed,q⟩ k=>?_⟩
 subst ed
 cases r with
 | cons r t =>
  refine⟨_,_,rfl,r1 ad H S ρ σ d _ _ _ st rh r q fun ρ1 S1 σ1 H1 ad1 q1 w1 st1 rh1 l1 a1=>?_⟩
  exact r2 ad1 H1 S1 ρ1 σ1 _ _ _ _ st1 rh1 (t.wd w1) q1 fun ρ2 S2 σ2 H2 ad2 q2 w2 st2 rh2 l2 a2=>k ρ2 S2 σ2 H2 ad2 q2 (w1.trans w2) st2 rh2 (l2.trans l1) fun j hj=>(a2 j hj).trans (a1 j hj)
theorem zd6 {es:List Expr}{k n:Nat}{t:DGs}(hc:X.calm=true)(h:zmD X b es t)(hn:(assignEach es X.env).length=n:=by rfl)(hst:(assignEach es X.env).findIdx? (·.1)=none:=by rfl):PGD X b (.Tuple es k pos) (zc2 n t):=by
 obtain⟨g,p,r⟩:=h
 refine⟨_,ziL hc p hn hst,fun ad H S ρ σ d v Q0 Q st rh rv ⟨xs,ed,hl,q⟩ k=>?_⟩
 subst ed
 cases rv with
 | tup h1 rs=>exact⟨_,_,rfl,SqT.of h1,by rw [<- rs.length];exact hl,r ad H S ρ σ xs _ _ _ st rh rs q k⟩
theorem zjS {o i:Expr}{to ti:DE}(ho:PD X o to)(hi:PD X i ti)
  (ha:∀ v,assign (.Subscript o i pos) X.env v=(do
   let ov <- holding [v] (eval o X.env)
   let iv <- holding [v,ov] (eval i X.env)
   standAt pos
   holding [v,ov,iv] (setItem ov iv v)
   release [v,ov,iv] []):=by intro _;rfl):PGD X b (.Subscript o i pos) (zib to ti):=by with_unfolding_all exact (⟨_,ztI ho hi set_list ha,fun ad H S ρ σ d v Q0 Q st rh r q k=>⟨ad,ρ,S,_,st,rh,q,fun x S1 u H1 ad1 q1 w1 st1 r1=>⟨ad1,ρ,S1,_,st1,rh.wd w1,q1,fun y S2 z H2 ad2 q2 w2 st2 r2=>by
  obtain⟨n,xs,kk,j,ex,ey,hn,hj,q3⟩:=q2
  subst ex ey
  cases r2
  cases r1 with
  | ref e =>
   have e2:=zjx w2.pre e
   obtain⟨ws,hw,rw⟩:=st2.cell n _ _ e2 hn
   have rd:=r.wd (w1.trans w2)
   exact⟨_,ws,kk,j,rfl,rfl,hw,by rw [<- rw.length];exact hj,k ρ _ σ _ ad2 q3 ((w1.trans w2).trans (Wd.put e2 hw)) (st2.put e2 hw (rw.set rd j)) (rh.wd ((w1.trans w2).trans (Wd.put e2 hw))) rfl fun _ _=>rfl⟩⟩⟩⟩)
variable {st:Stmt}{sts:List Stmt}{t u:DS}{e:Expr}{te:DE}
theorem zQ:zez X [] zab:=by with_unfolding_all exact (zk6 zr3 fun E σ H hh=>el8 hh fun ad ρ S E0 so rh q k=>k.nx ρ S σ H ad q Wd.refl so rh)
theorem zy (h:PSD X st t):zez X [st] t:=by with_unfolding_all exact (zre h)
theorem zu (h1:PSD X st t)(h2:zez X sts u):zez X (st::sts) (zH t u):=by with_unfolding_all exact (zk6 (zpj h1 h2) fun E σ H hh=>el8 hh fun ad ρ S E0 so rh q k =>
 ⟨ad,ρ,S,{ E0 with nx:=u E0 },so,rh,q,⟨fun ρ' S' σ' H' ad' q' w st' rh'=>⟨ad',ρ',S',E0,st',rh',q',k.wd w⟩,k.rt,k.bk,k.ct⟩⟩)
theorem zbf:PSD X st zcn:=by with_unfolding_all exact (zbC zpz fun E σ H hh=>el8 hh fun ad ρ S E0 so rh q k=>q)
theorem zae (he:PD X e te)(hs:swapsWith e none pos.line X.env=pure false:=by rfl):PSD X (.Expr e pos) (zaq te):=by with_unfolding_all exact (zbC (zry he hs) fun E σ H hh=>el8 hh fun ad ρ S E0 so rh q k =>
 ⟨ad,ρ,S,_,so,rh,q,fun d S' v H' ad' q' w st' r=>k.nx ρ S' σ H' ad' q' w st' (rh.wd w)⟩)
theorem zL (he:PD X e te):PSD X (.Return (some e) pos) (zZ te):=by with_unfolding_all exact (zbC (ztu he) fun E σ H hh=>el8 hh fun ad ρ S E0 so rh q k=>⟨ad,ρ,S,_,so,rh,q,k.rt⟩)
theorem zfT (h:PSD X st t):PSD X st (sJ t):=by with_unfolding_all exact (zbC h fun E σ H ⟨ad,ρ,S,E0,so,rh,⟨J,hJ,q⟩,k⟩ =>
 ⟨ad,ρ,S,{ E0 with nx:=J },so,rh,q,⟨fun ρ' S' σ' H' ad' q' w st' rh'=>k.nx ρ' S' σ' H' ad' (hJ _ _ q') w st' rh',k.rt,k.bk,k.ct⟩⟩)
theorem zT {c:Expr}{a b:List Stmt}{tc:DT}(hc:PTD X c tc)(ha:zez X a t)(hb:zez X b u):PSD X (.If c a b pos) (sIf tc t u):=by with_unfolding_all exact (zbC (zvU hc ha hb) fun E σ H hh=>el8 hh fun ad ρ S E0 so rh q k =>
 ⟨ad,ρ,S,_,so,rh,q,fun b S' H' ad' q' w st'=>by
  cases b with
  | true=>rw [if_pos rfl] at q' ⊢;exact⟨ad',ρ,S',E0,st',rh.wd w,q',k.wd w⟩
  | false=>rw [if_neg Bool.false_ne_true] at q' ⊢;exact⟨ad',ρ,S',E0,st',rh.wd w,q',k.wd w⟩⟩)
theorem zG {i:Nat}{x:Str}{pos':Pos}(hN:X.N.Nodup)(hi:X.N[i]?=some x)(hx:Loc X.env.scope x)(he:PD X e te)(hs:swapsWith e (some (.Name x pos')) pos.line X.env=pure false:=by rfl)(hf:X.fn x=true\/X.env.scope.names.lookup x=some .local:=by first | exact .inl rfl | exact .inr rfl | assumption) :
  PSD X (.Assign [.Name x pos'] e pos) (zN te (zE i)):=by with_unfolding_all exact (zbC (ztq hN hi hx he hs hf) fun E σ H hh=>el8 hh fun ad ρ S E0 so rh q k =>
 ⟨ad,ρ,S,_,so,rh,q,fun d S' v H' ad' q' w st' r=>k.nx _ S' _ H' ad' q' w st' ((rh.wd w).set r i)⟩)
theorem zhM {tg:Expr}{g:DG}(he:PD X e te)(hg:PGD X 1000 tg g)(hs:swapsWithSole [tg] e pos.line X.env=pure false:=by rfl)(hw:swappedStores [tg] e X.env=pure none:=by rfl)
  (h1:(assignEach [tg] X.env).map (·.2)=[assign tg X.env]:=by rfl):PSD X (.Assign [tg] e pos) (zN te g):=by
 with_unfolding_all
  obtain⟨g',p,r⟩:=hg
  exact zbC (zsK he p hs hw h1) fun E σ H hh=>el8 hh fun ad ρ S E0 so rh q k =>
   ⟨ad,ρ,S,_,so,rh,q,fun d S' v H' ad' q' w st' rv=>r ad' H' S' ρ σ d v _ _ st' (rh.wd w) rv q' fun ρ2 S2 σ2 H2 ad2 q2 w2 st2 rh2 _ _=>k.nx ρ2 S2 σ2 H2 ad2 q2 (w.trans w2) st2 rh2⟩
theorem zsg {i j:Nat}{x y:Str}{a b:Expr}{t:DA}{px py pt:Pos}{kt k2 pt2}(hc:X.calm=true)(hN:X.N.Nodup)(hi:X.N[i]?=some x)(hj:X.N[j]?=some y)(hij:i≠j)
  (hx:X.env.scope.names.lookup x=some .local) (hy:X.env.scope.names.lookup y=some .local) (ha:PAD X [a,b] t)
  (hw:swappedStores [.Tuple [.Name x px,.Name y py] kt pt] (.Tuple [a,b] k2 pt2) X.env=pure (some [x,y]))
  (hs:swapsWithSole [.Tuple [.Name x px,.Name y py] kt pt] (.Tuple [a,b] k2 pt2) pos.line X.env=pure false:=by rfl) :
  PSD X (.Assign [.Tuple [.Name x px,.Name y py] kt pt] (.Tuple [a,b] k2 pt2) pos) (zpu i j t):=by with_unfolding_all exact (zbC (ztg hc hN hi hj hij hx hy ha hw hs) fun E σ H hh=>el8 hh fun ad ρ S E0 so rh q k =>
 ⟨ad,ρ,S,_,so,rh,q,fun ds S' vs H' ad' q' w st' r=>by
  obtain⟨d1,d2,e,q'⟩:=q'
  subst e
  cases r with
  | cons r1 r' =>
   cases r' with
   | cons r2 r'' =>
    cases r''
    exact⟨_,_,rfl,k.nx _ S' _ H' ad' q' w st' (((rh.wd w).set r1 i).set r2 j)⟩⟩)
theorem zmp {i:Nat}{x:Str}{pos':Pos}(hN:X.N.Nodup)(hi:X.N[i]?=some x)(hx:Loc X.env.scope x)(he:PD X e te)(hf:X.fn x=true\/X.env.scope.names.lookup x=some .local:=by first | exact .inl rfl | exact .inr rfl | assumption) :
  PSD X (.AugAssign (.Name x pos') .Add e pos) (zmK i te):=by with_unfolding_all exact (zbC (zte hN hi hx he ztB hf) fun E σ H ⟨ad,ρ,S,E0,so,rh,⟨a,ea,q⟩,k⟩=>by
 obtain⟨v,ev,rv⟩:=rh.val i _ ea
 cases rv
 refine⟨_,ev,ad,ρ,S,_,so,rh,q,fun d S' v H' ad' ⟨b,eb,q'⟩ w st' r=>?_⟩
 subst eb
 cases r
 exact⟨a,b,rfl,rfl,k.nx _ S' _ H' ad' q' w st' ((rh.wd w).set (.int _) i)⟩)
theorem zgR {c:Expr}{body:List Stmt}{tc:DT}(hp:PassesOwn (model X.prog X.w) X.A X.env X.xe)(hc:PTD X c tc)(hb:zez X body t):PSD X (.While c body [] pos) (zg7 tc t):=by with_unfolding_all exact (zbC (zpU hp hc hb) fun E σ H ⟨ad,ρ,S,E0,so,rh,⟨W,⟨m0,w0⟩,turn⟩,k⟩=>by
 refine⟨fun m σ' H'=>∃ ad' ρ' S',W m ρ' S'/\Wd ad H ad' H'/\zR X.K ad' H' S'/\zar X.K ad' H' ρ' σ',⟨m0,ad,ρ,S,w0,Wd.refl,so,rh⟩,?_⟩
 rintro m σ1 H1 ⟨ad1,ρ1,S1,w1,d1,st1,rh1⟩
 refine⟨ad1,ρ1,S1,_,st1,rh1,turn m ρ1 S1 w1,fun b S2 H2 ad2 q2 d2 st2=>?_⟩
 cases b with
 | true =>
  rw [if_pos rfl] at q2 ⊢
  obtain⟨N,hN,q2⟩:=q2
  refine⟨fun σ' H'=>∃ ad' ρ' S',N ρ' S'/\Wd ad H ad' H'/\zR X.K ad' H' S'/\zar X.K ad' H' ρ' σ',?_,ad2,ρ1,S2,{ E0 with nx:=N,ct:=N,bk:=E0.nx },st2,rh1.wd d2,q2,?_⟩
  ·rintro σ' H' ⟨ad',ρ',S',n',d',st',rh'⟩
   obtain⟨m',hm,w'⟩:=hN ρ' S' n'
   exact⟨m',hm,ad',ρ',S',w',d',st',rh'⟩
  ·have d12:=d1.trans d2
   exact⟨fun ρ' S' σ' H' ad' q' w' st' rh'=>⟨ad',ρ',S',q',d12.trans w',st',rh'⟩,k.rt.wd d12,fun ρ' S' σ' H' ad' q' w' st' rh'=>k.nx ρ' S' σ' H' ad' q' (d12.trans w') st' rh',fun ρ' S' σ' H' ad' q' w' st' rh'=>⟨ad',ρ',S',q',d12.trans w',st',rh'⟩⟩
 | false =>
  rw [if_neg Bool.false_ne_true] at q2 ⊢
  exact k.nx ρ1 S2 σ1 H2 ad2 q2 (d1.trans d2) st2 (rh1.wd d2))
end
structure zfU (K:PySem.W.Frag)(ad0:List Addr)(H0:Hp)(J0:DIt)(J:It):Prop where
 go:∀ ad H S i,Wd ad0 H0 ad H->zR K ad H S->J0.ok S->i<J0.items.length->J.go i H
 yld:∀ ad H S i d x H',Wd ad0 H0 ad H->zR K ad H S->J0.ok S->J0.items[i]?=some d->J.yld i H x H'->Wd ad H ad H'/\zR K ad H' S/\Rel K ad H' d x
 stop:∀ ad H S,Wd ad0 H0 ad H->zR K ad H S->J0.ok S->J.stop J0.items.length H
def upI (K:PySem.W.Frag)(wi:DI):TI:=fun σ H R=>∃ ad ρ S R0,zR K ad H S/\zar K ad H ρ σ/\wi ρ S R0/\∀ J0 S' J H' ad',R0 J0 S'->Wd ad H ad' H'->zR K ad' H' S'->zfU K ad' H' J0 J->R J H'
@[irreducible] def PID (X:Cx)(tg iter:Expr)(wi:DI):Prop:=PI X tg iter (upI X.K wi)
theorem zhw {X:Cx}{tg iter:Expr}{w w':TI}(h:PI X tg iter w)(m:∀ σ H R,w' σ H R->w σ H R):PI X tg iter w':=fun pins s σ H R I q=>h pins s σ H R I (m σ H R q)
section
variable {X:Cx}{tg e:Expr}
def Its (z:Str):It:=⟨fun i _=>i<z.cps.size,fun i H x H'=>H'=H/\∃ c,z.cps[i]?=some c/\x=.str ⟨#[c]⟩,fun i _=>z.cps.size<=i⟩
theorem zo4 {P:Program}{w:World}{K:PySem.W.Frag}{tg:Expr}(z:Str)(t:Tok)(it:Addr):Turn P w K tg (Its z) [it] it (fun i h=>h.IsStrIter it "str_ascii_iterator" z t i) where
 mem:=by simp
 obj:=fun i h st b hb=>by
  have e:b=it:=by simpa using hb
  subst e
  obtain⟨o,e,c,d⟩:=st
  exact⟨o,e,fun v y=>by rw [d] at y;cases y⟩
 keep:=fun i h h' st k=>let ⟨o,e,r⟩:=st;⟨o,k it (by simp) o e,r⟩
 item:=by
  intro X hP hw hK hc i pins s σ H E I hf st hg
  subst hP hw hK
  have hg:i<z.cps.size:=hg
  obtain⟨f0,f1,f2,f3,f4,f5⟩:=hf it (by simp)
  refine wpAny_pyNext_ascii_item st (c:=z.cps[i]) (by simp [hg]) fun h' st' sb=>?_
  have I1:Inv X pins σ H { s with heap:=h',toks:=s.toks+1 }:=I.turned (t':=s.toks+1) (fun b o hb e=>(sb.2 b hb).trans e) f0 f1 f3 f4 f5
  obtain⟨o,e,c,d⟩:=id st'
  exact⟨_,rfl,zhF (s:={ s with heap:=h',toks:=s.toks+1 }) e c d (by decide) ⟨.str ⟨#[z.cps[i]]⟩,H,I1,⟨_,rfl⟩,⟨rfl,z.cps[i],by simp [hg],rfl⟩,st',fun b hb=>(hf b hb).1⟩⟩
 done:=by
  intro X hP hw hK hc i pins s σ H E I hf st hg
  subst hP hw hK
  have hg:z.cps.size<=i:=hg
  obtain⟨f0,f1,f2,f3,f4,f5⟩:=hf it (by simp)
  exact wpAny_pyNext_ascii_end (I.ok.hd hc) st (by simp [hg]) fun h' eb=>⟨rfl,I.turned (t':=s.toks) (fun b o hb e=>eb b o hb e) f0 f1 f3 f4 f5⟩
 self:=fun _ _ _ _ _ st hQ=>wpAny_pyIter_striter_ascii st hQ
theorem znZ {P:Program}{w:World}{K:PySem.W.Frag}{tg:Expr}(z:Str)(t:Tok)(it:Addr):Turn P w K tg (Its z) [it] it (fun i h=>h.IsStrIter it "str_iterator" z t i) where
 mem:=by simp
 obj:=fun i h st b hb=>by
  have e:b=it:=by simpa using hb
  subst e
  obtain⟨o,e,c,d⟩:=st
  exact⟨o,e,fun v y=>by rw [d] at y;cases y⟩
 keep:=fun i h h' st k=>let ⟨o,e,r⟩:=st;⟨o,k it (by simp) o e,r⟩
 item:=by
  intro X hP hw hK hc i pins s σ H E I hf st hg
  subst hP hw hK
  have hg:i<z.cps.size:=hg
  obtain⟨f0,f1,f2,f3,f4,f5⟩:=hf it (by simp)
  refine wpAny_pyNext_wide_item st (c:=z.cps[i]) (by simp [hg]) fun h' st' sb=>?_
  have I1:Inv X pins σ H { s with heap:=h',toks:=s.toks+1 }:=I.turned (t':=s.toks+1) (fun b o hb e=>(sb.2 b hb).trans e) f0 f1 f3 f4 f5
  obtain⟨o,e,c,d⟩:=id st'
  exact⟨_,rfl,zhF (s:={ s with heap:=h',toks:=s.toks+1 }) e c d (by decide) ⟨.str ⟨#[z.cps[i]]⟩,H,I1,⟨_,rfl⟩,⟨rfl,z.cps[i],by simp [hg],rfl⟩,st',fun b hb=>(hf b hb).1⟩⟩
 done:=by
  intro X hP hw hK hc i pins s σ H E I hf st hg
  subst hP hw hK
  have hg:z.cps.size<=i:=hg
  obtain⟨f0,f1,f2,f3,f4,f5⟩:=hf it (by simp)
  exact wpAny_pyNext_wide_end (I.ok.hd hc) st (by simp [hg]) fun h' eb=>⟨rfl,I.turned (t':=s.toks) (fun b o hb e=>eb b o hb e) f0 f1 f3 f4 f5⟩
 self:=fun _ _ _ _ _ st hQ=>wpAny_pyIter_striter_wide st hQ
def zr2 (K:PySem.W.Frag)(tl:TE):TI:=fun σ H R=>tl σ H fun x H1=>(∃ a,x=.ref a/\(((∃ xs,SqL K H1 a xs)/\R (Itl K a) H1)\/((∃ xs,SqT K H1 a xs)/\R (Itt K a) H1)))\/(∃ z,x=.str z/\R (Its z) H1)
theorem zoz {l:Expr}{tl:TE}(hl:PE X l tl):PI X tg l (zr2 X.K tl):=by
  intro pins s σ H R I h
  refine thn (hl pins s σ H _ I h) fun v s1 ⟨x,H1,I1,r1,q1⟩=>?_
  rcases q1 with ⟨a,e,q1⟩ | ⟨z,e,q⟩
  case inr =>
    subst e
    obtain⟨t,rfl⟩:=r1
    have fp:∀ b∈[s1.heap.objs.size],zeV X pins H1 b:=fun b hb=>by
      have e:b=s1.heap.objs.size:=by simpa using hb
      subst e
      exact I1.fpOk (Nat.le_refl _) (I1.hok.fresh (Nat.le_refl _))
    cases ha:z.cps.all (· < 128) with
    | true=>exact wpAny_pyIter_ascii ha ⟨s1.heap.objs.size,[s1.heap.objs.size],_,_,H1,rfl,I1.kept (t':=s1.toks) fun b o e=>Heap.get?_push_of_some _ e,zo4 z t _,⟨_,Heap.get?_push_size _ rfl,rfl,rfl⟩,fp,q⟩
    | false=>exact wpAny_pyIter_wide ha ⟨s1.heap.objs.size,[s1.heap.objs.size],_,_,H1,rfl,I1.kept (t':=s1.toks) fun b o e=>Heap.get?_push_of_some _ e,znZ z t _,⟨_,Heap.get?_push_size _ rfl,rfl,rfl⟩,fp,q⟩
  subst e
  cases r1
  rcases q1 with ⟨⟨xs,hq⟩,q⟩ | ⟨⟨xs,hq⟩,q⟩
  · obtain⟨its,rv,p,hz⟩:=I1.list hq
    refine wpAny_pyIter_list p.isList ?_
    refine⟨s1.heap.objs.size,[s1.heap.objs.size],_,_,H1,rfl,I1.kept (t':=s1.toks) fun b o e=>Heap.get?_push_of_some _ e,zoc a _,⟨_,Heap.get?_push_size _ rfl,rfl,rfl⟩,fun b hb=>?_,q⟩
    have e:b=s1.heap.objs.size:=by simpa using hb
    subst e
    exact I1.fpOk (Nat.le_refl _) (I1.hok.fresh (Nat.le_refl _))
  · obtain⟨its,rv,p,hz⟩:=I1.tuple hq
    refine wpAny_pyIter_tuple (show s1.heap.IsTuple a its.toArray from p) ?_
    refine⟨s1.heap.objs.size,[s1.heap.objs.size],_,_,H1,rfl,I1.kept (t':=s1.toks) fun b o e=>Heap.get?_push_of_some _ e,znd a _,⟨_,Heap.get?_push_size _ rfl,rfl,rfl⟩,fun b hb=>?_,q⟩
    have e:b=s1.heap.objs.size:=by simpa using hb
    subst e
    exact I1.fpOk (Nat.le_refl _) (I1.hok.fresh (Nat.le_refl _))
theorem ztG {K:PySem.W.Frag}{ad:List Addr}{H:Hp}(z:Str):zfU K ad H ⟨signs z,fun _=>True⟩ (Its z) where
 go:=fun ad1 H1 S i w st _ hi=>by
  show i<z.cps.size
  have:i<(signs z).length:=hi
  unfold signs at this
  rw [List.length_map] at this
  simpa using this
 yld:=fun ad1 H1 S i d x H' w st _ hd ⟨e,c,hc,hx⟩=>by
  subst e hx
  have hd:(signs z)[i]?=some d:=hd
  unfold signs at hd
  rw [List.getElem?_map,Array.getElem?_toList,hc] at hd
  cases hd
  exact⟨Wd.refl,st,.str _⟩
 stop:=fun ad1 H1 S w st _=>by
  show z.cps.size<=(signs z).length
  unfold signs
  rw [List.length_map];simp
theorem zt8 {K:PySem.W.Frag}{ad:List Addr}{H:Hp}{a:Addr}{vs:List V}{ds:List D}(h:H a=some (.tup vs))(r:zJ K ad H ds vs):zfU K ad H ⟨ds,fun _=>True⟩ (Itt K a) where
 go:=fun ad1 H1 S i w st _ hi=>⟨vs,vs[i]'(by rw [<- r.length];exact hi),SqT.of (w.tup _ _ h),List.getElem?_eq_getElem _⟩
 yld:=fun ad1 H1 S i d x H' w st _ hd ⟨e,hx⟩=>by
  subst e
  obtain⟨v,ev,rv⟩:=r.get hd
  rw [hx vs (SqT.of (w.tup _ _ h))] at ev
  cases ev
  exact⟨Wd.refl,st,rv.wd w⟩
 stop:=fun ad1 H1 S w st _=>⟨vs,SqT.of (w.tup _ _ h),by rw [<- r.length];exact Nat.le_refl _⟩
theorem zsD {K:PySem.W.Frag}{ad:List Addr}{H:Hp}{a:Addr}{x:D}{ds:List D}(r:Rel K ad H x (.ref a)):zfU K ad H ⟨ds,fun S=>Lst S x ds⟩ (Itl K a) where
 go:=fun ad1 H1 S i w st ok hi=>by
  obtain⟨a',vs,e,s,rs⟩:=Lst.sq st ok (r.wd w)
  cases e
  exact⟨vs,vs[i]'(by rw [<- rs.length];exact hi),s,List.getElem?_eq_getElem _⟩
 yld:=fun ad1 H1 S i d y H' w st ok hd ⟨e,hx⟩=>by
  subst e
  obtain⟨a',vs,e,s,rs⟩:=Lst.sq st ok (r.wd w)
  cases e
  obtain⟨v,ev,rv⟩:=rs.get hd
  rw [hx vs s] at ev
  cases ev
  exact⟨Wd.refl,st,rv⟩
 stop:=fun ad1 H1 S w st ok=>by
  obtain⟨a',vs,e,s,rs⟩:=Lst.sq st ok (r.wd w)
  cases e
  exact⟨vs,s,by rw [<- rs.length];exact Nat.le_refl _⟩
theorem zaH {t:DE}(h:PD X e t):PID X tg e (zbx t):=by with_unfolding_all exact (zhw (zoz h) fun σ H R hh=>el8 hh fun ad ρ S R0 st rh q k =>
 ⟨ad,ρ,S,_,st,rh,q,fun x S1 v H1 ad1 q1 w1 st1 r1=>by
  rcases q1 with ⟨xs,rfl,q1⟩ | ⟨xs,hx,q1⟩ | ⟨z,rfl,q1⟩
  ·cases r1 with
   | tup h1 rs=>exact .inl ⟨_,rfl,.inr ⟨⟨_,SqT.of h1⟩,k _ S1 _ H1 ad1 q1 w1 st1 (zt8 h1 rs)⟩⟩
  ·obtain⟨a,vs,rfl,s,rs⟩:=hx.sq st1 r1
   exact .inl ⟨a,rfl,.inl ⟨⟨vs,s⟩,k _ S1 _ H1 ad1 q1 w1 st1 (zsD r1)⟩⟩
  ·cases r1
   exact .inr ⟨z,rfl,k _ S1 _ H1 ad1 q1 w1 st1 (ztG z)⟩⟩)
theorem zp1 {lo:Int}{n i:Nat}{d:D}(h:(upto lo n)[i]?=some d):i<n/\d=.int (lo+i):=by
 unfold upto at h
 rw [List.getElem?_map] at h
 have hi:=My.zbe (xs:=List.range n) (i:=i) (x:=i)
 cases hr:(List.range n)[i]? with
 | none=>rw [hr] at h;cases h
 | some k =>
  rw [hr] at h
  have h1:=My.zbe hr
  rw [List.length_range] at h1
  have h2:(List.range n)[i]?=some i:=List.getElem?_range h1
  rw [hr] at h2
  cases h2
  cases h
  exact⟨h1,rfl⟩
theorem zkW (lo:Int)(n:Nat):(upto lo n).length=n:=by unfold upto;rw [List.length_map,List.length_range]
theorem znM {K:PySem.W.Frag}{ad:List Addr}{H:Hp}(lo:Int)(n:Nat):zfU K ad H ⟨upto lo n,fun _=>True⟩ (Itr lo n) where
 go:=fun ad1 H1 S i w st _ hi=>by rw [zkW] at hi;exact hi
 yld:=fun ad1 H1 S i d x H' w st _ hd ⟨e,hx⟩=>by
  subst e
  obtain⟨_,rfl⟩:=zp1 hd
  rw [hx]
  exact⟨Wd.refl,st,.int _⟩
 stop:=fun ad1 H1 S w st _=>by rw [zkW];exact Nat.le_refl _
theorem zoZ {P:Program}{w:World}{K:PySem.W.Frag}{tg:Expr}(it:Addr)(lo:Int)(n:Nat):Turn P w K tg (Itr lo n) [it] it (fun i h=>IsLongIter h it (lo+(i:Nat)*1) ((n:Int)-(i:Nat)) 1) where
 mem:=by simp
 obj:=fun i h st b hb=>by
  have e:b=it:=by simpa using hb
  subst e
  exact⟨_,st,fun v z=>by
   have z':Data.fields _=Data.cell v:=z
   cases z'⟩
 keep:=fun i h h' st k=>k it (by simp) _ st
 item:=by
  intro X hP hw hK hc i pins s σ H E I hf st' hg
  subst hP hw hK
  obtain⟨f0,f1,f2,f3,f4,f5⟩:=hf it (by simp)
  have W:=Walks.longrange (prog:=X.prog) (w:=X.w) (I.ok.hd hc) it lo 1 n
  refine W.item i s _ _ hg st' fun v h' tk hv st'' kk=>?_
  obtain⟨t,rfl⟩:=hv
  have I1:Inv X pins σ H { s with heap:=h',toks:=tk }:=I.turned (fun b o hb e=>kk b o (by simpa using hb) e) f0 f1 f3 f4 f5
  rw [Int.mul_one]
  exact⟨_,rfl,zhF (s:={ s with heap:=h',toks:=tk }) (n:="longrange_iterator") st'' rfl rfl (by decide) ⟨.int (lo+i),H,I1,⟨t,rfl⟩,⟨rfl,rfl⟩,st'',fun b hb=>(hf b hb).1⟩⟩
 done:=by
  intro X hP hw hK hc i pins s σ H E I hf st' hg
  subst hP hw hK
  obtain⟨f0,f1,f2,f3,f4,f5⟩:=hf it (by simp)
  exact wpAny_pyNext_long_end (I.ok.hd hc) st' (by have:n<=i:=hg;omega) fun h' eb=>⟨rfl,I.turned (t':=s.toks) (fun b o hb e=>eb b o hb e) f0 f1 f3 f4 f5⟩
 self:=fun _ _ _ _ _ st h=>wpAny_pyIter_longiter st h
theorem range_any {pins:List (Addr×Obj)}{σ:L2.St}{H:Hp}{s:Shared}{R:It->Hp->Prop}{E:Value->Shared->Prop}{lo hi:Int}{t u v:Tok}{tk:Nat}(I:Inv X pins σ H s)
    (q:R (Itr lo (hi-lo).toNat) H):wpAny (model X.prog X.w) X.A (pyIter (.ref s.heap.objs.size)) (PIE X pins σ tg R) E { s with heap:=s.heap.push { cls:=.type "range",data:=.fields #[.int lo t,.int hi u,.int 1 v] },toks:=tk }:=by
  have I1:Inv X pins σ H { s with heap:=s.heap.push { cls:=.type "range",data:=.fields #[.int lo t,.int hi u,.int 1 v] },toks:=tk }:=I.kept fun b o e=>Heap.get?_push_of_some _ e
  have e1:lo+((0:Nat):Int)*1=lo:=by simp
  have e2:(((hi-lo).toNat:Nat):Int)-((0:Nat):Int)=Builtin.Range.rangeSize lo hi 1:=by rw [rangeSize_one];split<;>omega
  cases hsm:Builtin.Range.small lo hi 1 with
  | true =>
    refine wpAny_pyIter_range (IsRange.new ..) hsm ?_
    refine⟨(s.heap.push { cls:=.type "range",data:=.fields #[.int lo t,.int hi u,.int 1 v] }).objs.size,[(s.heap.push { cls:=.type "range",data:=.fields #[.int lo t,.int hi u,.int 1 v] }).objs.size],_,_,H,rfl,
      I1.kept (t':=tk) fun b o e=>Heap.get?_push_of_some _ e,zi7 _ lo (hi-lo).toNat,?_,fun b hb=>?_,q⟩
    · show IsRangeIter _ _ (lo+((0:Nat):Int)*1) ((((hi-lo).toNat:Nat):Int)-((0:Nat):Int)) 1
      rw [e1,e2]
      exact Heap.get?_push_size _ rfl
    · have e:b=(s.heap.push { cls:=.type "range",data:=.fields #[.int lo t,.int hi u,.int 1 v] }).objs.size:=by simpa using hb
      subst e
      exact I1.fpOk (Nat.le_refl _) (I1.hok.fresh (Nat.le_refl _))
  | false =>
    refine wpAny_pyIter_longrange (IsRange.new ..) hsm ?_
    refine⟨(s.heap.push { cls:=.type "range",data:=.fields #[.int lo t,.int hi u,.int 1 v] }).objs.size,[(s.heap.push { cls:=.type "range",data:=.fields #[.int lo t,.int hi u,.int 1 v] }).objs.size],_,_,H,rfl,
      I1.kept (t':=tk) fun b o e=>Heap.get?_push_of_some _ e,zoZ _ lo (hi-lo).toNat,?_,fun b hb=>?_,q⟩
    · show IsLongIter _ _ (lo+((0:Nat):Int)*1) ((((hi-lo).toNat:Nat):Int)-((0:Nat):Int)) 1
      rw [e1,e2]
      exact Heap.get?_push_size _ rfl
    · have e:b=(s.heap.push { cls:=.type "range",data:=.fields #[.int lo t,.int hi u,.int 1 v] }).objs.size:=by simpa using hb
      subst e
      exact I1.fpOk (Nat.le_refl _) (I1.hok.fresh (Nat.le_refl _))
theorem zeO {a:Expr}{t:DA}{p pos:Pos}(hg:Gl X "range")(hm:X.mg "range"=none)(ha:PAD X [a] t)(hs:starEach [a] X.env=[(false,eval a X.env)]:=by exact zd4 rfl):PID X tg (.Call (.Name "range" p) [a] [] pos) (zee t):=by with_unfolding_all exact (zhw (znX hg hm ha hs) fun σ H R hh=>el8 hh fun ad ρ S R0 st rh q k =>
 ⟨ad,ρ,S,_,st,rh,q,fun ds S1 vs H1 ad1 ⟨j,ed,b1,b2,q1⟩ w1 st1 r1=>by
  subst ed
  obtain⟨v,rfl,rv⟩:=zcq r1
  cases rv
  exact⟨j,rfl,b1,b2,k _ S1 _ H1 ad1 q1 w1 st1 (znM 0 j.toNat)⟩⟩)
theorem zl5 {a b:Expr}{t:DA}{p pos:Pos}(hg:Gl X "range")(hm:X.mg "range"=none)(ha:PAD X [a,b] t)(hs:starEach [a,b] X.env=[(false,eval a X.env),(false,eval b X.env)]:=by exact zle rfl rfl)(hs2:starEach [b] X.env=[(false,eval b X.env)]:=by exact zd4 rfl) :
  PID X tg (.Call (.Name "range" p) [a,b] [] pos) (zkn t):=by
 with_unfolding_all
  rintro pins s σ H R I ⟨ad,ρ,S,R0,st,rh,q,k⟩
  refine Call_ (zcw I hg hm boot_range (PyProof.Rows.callWith_type1 (thn (ha pos pins s σ H (fun vs H1=>∃ i j:Int,vs=[.int i,.int j]/\R (Itr i (j-i).toNat) H1) I ⟨ad,ρ,S,_,st,rh,q,fun ds S1 vs H1 ad1 ⟨i,j,ed,q1⟩ w1 st1 r1=>by
   subst ed
   obtain⟨v,u,rfl,rv,ru⟩:=zis r1
   cases rv
   cases ru
   exact⟨i,j,rfl,k _ S1 _ H1 ad1 q1 w1 st1 (znM i _)⟩⟩) fun us s1 ⟨vs,H1,I1,r1,q1⟩=>?_) (by rw [hs,hs2]) (by rw [hs2];rfl)))
  obtain⟨i,j,e,q⟩:=q1
  subst e
  cases r1 with
  | cons r rr =>
   cases rr with
   | cons r' rr =>
    cases rr
    obtain⟨t,rfl⟩:=r
    obtain⟨t',rfl⟩:=r'
    exact call_range_2 (range_any I1 q)
theorem zaL {iter:Expr}{body:List Stmt}{wi:DI}{g:DG}{t:DS}{pos:Pos}(hp:PassesOwn (model X.prog X.w) X.A X.env X.xe)(hc:X.calm=true)(hi:PID X tg iter wi)(hg:PGD X 1000 tg g)(hb:zez X body t)(hs:∀ x,foldedSetIterable iter X.env x=pure x:=by intro _;rfl):PSD X (.For tg iter body [] pos) (zb4 wi g t):=by
 with_unfolding_all
  obtain⟨g',pg,rg⟩:=hg
  refine zbC (ztc hp hc hi pg hb hs) fun E σ H hh=>el8 hh fun ad ρ S E0 so rh q k=>?_
  refine⟨ad,ρ,S,_,so,rh,q,fun J0 S1 J H1 ad1 ⟨W,w0,hok,step,fin⟩ d1 st1 it=>?_⟩
  refine⟨fun i m σ' H'=>m=J0.items.length-i/\i<=J0.items.length/\∃ ad' ρ' S',W i ρ' S'/\Wd ad1 H1 ad' H'/\zR X.K ad' H' S'/\zar X.K ad' H' ρ' σ',⟨J0.items.length,rfl,Nat.zero_le _,ad1,ρ,S1,w0,Wd.refl,st1,rh.wd d1⟩,?_⟩
  rintro i m σ2 H2 ⟨rfl,hi2,ad2,ρ2,S2,w2,d2,st2,rh2⟩
  by_cases hlt:i<J0.items.length
  ·have ed:J0.items[i]?=some J0.items[i]:=List.getElem?_eq_getElem hlt
   refine .inr ⟨it.go ad2 H2 S2 i d2 st2 (hok _ _ _ w2) hlt,fun σ' H'=>∃ ad' ρ' S',W (i+1) ρ' S'/\Wd ad1 H1 ad' H'/\zR X.K ad' H' S'/\zar X.K ad' H' ρ' σ',?_,fun x H' hy=>?_⟩
   ·rintro σ' H' ⟨ad',ρ',S',w',d',st',rh'⟩
    exact⟨J0.items.length-(i+1),by omega,rfl,hlt,ad',ρ',S',w',d',st',rh'⟩
   ·obtain⟨d3,st3,r3⟩:=it.yld ad2 H2 S2 i _ x H' d2 st2 (hok _ _ _ w2) ed hy
    refine rg ad2 H' S2 ρ2 σ2 _ x _ _ st3 (rh2.wd d3) r3 (step i _ ρ2 S2 ed w2) fun ρ4 S4 σ4 H4 ad4 q4 d4 st4 rh4 _ _=>?_
    have d14:=(d2.trans d3).trans d4
    have d04:=d1.trans d14
    exact⟨ad4,ρ4,S4,{ E0 with nx:=W (i+1),ct:=W (i+1),bk:=E0.nx },st4,rh4,q4,⟨fun ρ' S' σ' H' ad' q' w' st' rh'=>⟨ad',ρ',S',q',d14.trans w',st',rh'⟩,k.rt.wd d04,fun ρ' S' σ' H' ad' q' w' st' rh'=>k.nx ρ' S' σ' H' ad' q' (d04.trans w') st' rh',fun ρ' S' σ' H' ad' q' w' st' rh'=>⟨ad',ρ',S',q',d14.trans w',st',rh'⟩⟩⟩
  ·have e:i=J0.items.length:=by omega
   subst e
   exact .inl ⟨it.stop ad2 H2 S2 d2 st2 (hok _ _ _ w2),k.nx ρ2 S2 σ2 H2 ad2 (fin ρ2 S2 w2) (d1.trans d2) st2 rh2⟩
end
theorem zlB:∀ {a b:L2.St} (n:Nat),(∀ j,j<n->a[j]?=some none\/a.length<=j)->b.length=a.length->(∀ j,n<=j->b[j]?=a[j]?)->Agr a b
 | [],[],_,_,_,_=>True.intro
 | [],_::_,_,_,h,_=>by simp at h
 | _::_,[],_,_,h,_=>by simp at h
 | x::a,y::b,n,h0,hl,h=>by
  have hl':b.length=a.length:=by simpa using hl
  cases n with
  | zero =>
   have e:=h 0 (Nat.le_refl _)
   have e':y=x:=by simpa using e
   subst e'
   have rest:Agr a b:=zlB 0 (fun j hj=>absurd hj (Nat.not_lt_zero _)) hl' fun j _=>by simpa using h (j+1) (Nat.zero_le _)
   cases y with
   | none=>exact rest
   | some v=>exact⟨rfl,rest⟩
  | succ n =>
   have rest:Agr a b:=zlB n (fun j hj=>by
    rcases h0 (j+1) (by omega) with e | e
    ·exact .inl (by simpa using e)
    ·exact .inr (by simpa using e)) hl' fun j hj=>by simpa using h (j+1) (by omega)
   rcases h0 0 (Nat.succ_pos _) with e | e
   ·have e':x=none:=by simpa using e
    subst e'
    exact rest
   ·simp at e
theorem zr7 {K:PySem.W.Frag}{ad:List Addr}{H:Hp}{ρ:Rho}{σ:L2.St}(h:zar K ad H ρ σ)(own:List Str)(fv:List Nat):zar K ad H (zix own.length fv ρ) (cst own fv σ) where
  len:=by unfold zix cst;rw [List.length_append,List.length_append,List.length_replicate,List.length_replicate,List.length_map,List.length_map]
  val:=fun i d e=>by
    unfold zix at e
    unfold cst
    by_cases hi:i<own.length
    · rw [List.getElem?_append_left (by rw [List.length_replicate];exact hi),List.getElem?_replicate] at e
      split at e<;>cases e
    · have hi':own.length<=i:=Nat.le_of_not_lt hi
      rw [List.getElem?_append_right (by rw [List.length_replicate];exact hi'),List.length_replicate,List.getElem?_map] at e
      rw [List.getElem?_append_right (by rw [List.length_replicate];exact hi'),List.length_replicate,List.getElem?_map]
      cases hf:fv[i-own.length]? with
      | none=>rw [hf] at e;cases e
      | some j =>
        rw [hf] at e
        simp only [Option.map_some,Option.some.injEq] at e ⊢
        cases hr:ρ[j]? with
        | none=>rw [hr] at e;cases e
        | some o =>
          rw [hr] at e
          have e':o=some d:=e
          subst e'
          obtain⟨v,ev,rv⟩:=h.val j d hr
          exact⟨v,by rw [ev];rfl,rv⟩
@[irreducible] def znz (X:Cx)(ifs:List Expr)(t:DT):Prop:=PFs X ifs (upT X.K t)
theorem zbJ {X:Cx}:znz X [] zcs:=by with_unfolding_all exact (fun pins s σ H Q I hh=>el8 hh fun ad ρ S Q0 st rh q k=>ztL pins s σ H Q I (k true S H ad q Wd.refl st))
theorem zjp {X:Cx}{c:Expr}{t:DT}(h:PTD X c t):znz X [c] t:=by with_unfolding_all exact (zsz h)
theorem ofT {A B:Prop}(h:if true=true then A else B):A:=by rw [if_pos rfl] at h;exact h
theorem ofF {A B:Prop}(h:if false=true then A else B):B:=by rw [if_neg Bool.false_ne_true] at h;exact h
theorem zq1 {K:PySem.W.Frag}{own:List Str}{fv:List Nat}{wi:DI}{g:DG}{g':TG}{tc:DT}{te:DE}(rg:zij K own.length g g'){σ:L2.St}{H:Hp}{Q:VK}(h:up K (dLC own.length fv wi g tc te) σ H Q):tLC own fv (upI K wi) g' (upT K tc) (up K te) σ H Q:=by
 obtain⟨ad,ρ,S,Q0,so,rh,q,k⟩:=h
 refine⟨ad,ρ,S,_,so,rh,q,fun J0 S1 J H1 ad1 ⟨hbig,W,w0,hok,step,fin⟩ d1 st1 it=>?_⟩
 intro p hp
 refine⟨fun i m H'=>m=J0.items.length-i/\i<=J0.items.length/\∃ ad' S' ys vs,W i ys S'/\Wd ad1 H1 ad' H'/\zR K ad' H' S'/\p∉ad'/\H' p=some (.lst vs)/\zJ K ad' H' ys vs/\vs.length<=i,
  ⟨J0.items.length,rfl,Nat.zero_le _,ad1,S1,[],[],w0,Wd.laid hp,st1.laid hp,st1.fresh hp,zaF,.nil,Nat.le_refl _⟩,?_⟩
 rintro i m H2 ⟨rfl,hi2,ad2,S2,ys,vs,w2,d2,st2,hp2,hv2,r2,hl2⟩
 by_cases hlt:i<J0.items.length
 ·have ed:J0.items[i]?=some J0.items[i]:=List.getElem?_eq_getElem hlt
  refine .inr ⟨it.go ad2 H2 S2 i d2 st2 (hok _ _ _ w2) hlt,fun x H' hy=>?_⟩
  obtain⟨d3,st3,r3⟩:=it.yld ad2 H2 S2 i _ x H' d2 st2 (hok _ _ _ w2) ed hy
  have rh3:=zr7 (rh.wd ((d1.trans d2).trans d3)) own fv
  refine rg ad2 H' S2 _ _ _ x _ _ st3 rh3 r3 (step i _ ys S2 ed w2) fun ρ4 S4 σ4 H4 ad4 q4 d4 st4 rh4 l4 a4=>?_
  refine⟨zlB own.length (fun j hj=>.inl ?_) l4 a4,ad4,ρ4,S4,_,st4,rh4,q4,fun b S5 H5 ad5 q5 d5 st5=>?_⟩
  ·unfold cst
   rw [List.getElem?_append_left (by rw [List.length_replicate];exact hj),List.getElem?_replicate,if_pos hj]
  have fwd:∀ {ad9:List Addr} {H9:Hp},Wd ad2 H2 ad9 H9->p∉ad9/\H9 p=some (.lst vs):=fun {ad9 H9} w=>⟨(fun m=>by
   have z:=w.new p m hp2
   rw [hv2] at z;cases z),w.keep p _ hp2 hv2⟩
  have d25:=(d3.trans d4).trans d5
  cases b with
  | true =>
   refine zp8 ?_
   have q5:=Dp.ofT q5
   refine⟨ad5,ρ4,S5,_,st5,rh4.wd d5,q5,fun y S6 v H6 ad6 q6 d6 st6 r6=>?_⟩
   have d26:=d25.trans d6
   obtain⟨n6,e6⟩:=fwd d26
   have hw:Wr ad6 H6 ad6 (upd H6 p (.lst (vs++[v]))):=Wr.hid e6
   have hvl:vs.length<sizeLine:=zoA (by omega)
   exact⟨vs,e6,hvl,J0.items.length-(i+1),by omega,rfl,hlt,ad6,S6,ys++[y],vs++[v],q6,(d2.trans d26).hid hp,st6.hid e6 n6 (st1.bfree hp),n6,zaF,zJ.wr hw ((r2.wd d26).append (.cons r6 .nil)),by rw [List.length_append];exact Nat.succ_le_succ hl2⟩
  | false =>
   refine zpe ?_
   have q5:=Dp.ofF q5
   obtain⟨n5,e5⟩:=fwd d25
   exact⟨J0.items.length-(i+1),by omega,rfl,hlt,ad5,S5,ys,vs,q5,d2.trans d25,st5,n5,e5,r2.wd d25,by omega⟩
 ·have e:i=J0.items.length:=by omega
  subst e
  refine .inl ⟨it.stop ad2 H2 S2 d2 st2 (hok _ _ _ w2),?_⟩
  exact k _ _ _ _ (ad2++[p]) (fin ys S2 w2) (d1.trans (d2.add hp)) (st2.add hv2 hp2 r2 (st1.bfree hp)) (.ref (by rw [<- st2.len,List.getElem?_append_right (Nat.le_refl _),Nat.sub_self];rfl))
section
variable {X:Cx}{sc:Scope}{tg iter elt:Expr}{ifs:List Expr}{own free:List Str}{fv:List Nat}{wi:DI}{g:DG}{tc:DT}{te:DE}{pos:Pos}
theorem zdi {g':TG}(hcalm:X.calm=true)(hxe:X.xe=fun _ _=>False)(hkind:sc.kind=.function)(hcell:∀ y∈sc.names,y.2≠.cell)(hnames:∀ y∈sc.names,y.2=.local->sc.names.lookup y.1=some .local)
  (hfr:zd9 (fun x=>X.env.kindOf x=some .cell) sc.names) (hfv:zhn X sc free fv) (hi:PID X tg iter wi)
  (hg:zij X.K own.length g g'/\∀ cl C s₀ H₀ ex,PG (inner X sc (own++free) cl C s₀ H₀ ex) tg g') (ht:∀ cl C s₀ H₀ ex,znz (inner X sc (own++free) cl C s₀ H₀ ex) ifs tc) (he:∀ cl C s₀ H₀ ex,PD (inner X sc (own++free) cl C s₀ H₀ ex) elt te)
  (hs:∀ x,foldedSetIterable iter X.env x=pure x:=by intro _;rfl):PD X (.ListComp elt [⟨tg,iter,ifs,0⟩] sc pos) (dLC own.length fv wi g tc te):=by with_unfolding_all exact (za6 (zvm (tc:=upT X.K tc) (te:=up X.K te) hcalm hxe hkind hcell hnames hfr hfv hi hg.2 ht he hs) fun _ _ _=>zq1 hg.1)
theorem ziC {g':TG}{i:Nat}{y:Str}{py spos:Pos}(hN:X.N.Nodup)(hy:X.N[i]?=some y)(hyl:X.env.scope.names.lookup y=some .local)(hcalm:X.calm=true)(hxe:X.xe=fun _ _=>False)(hkind:sc.kind=.function)(hcell:∀ y∈sc.names,y.2≠.cell)(hnames:∀ y∈sc.names,y.2=.local->sc.names.lookup y.1=some .local)
  (hfr:zd9 (fun x=>X.env.kindOf x=some .cell) sc.names) (hfv:zhn X sc free fv) (hi:PID X tg iter wi)
  (hg:zij X.K own.length g g'/\∀ cl C s₀ H₀ ex,PG (inner X sc (own++free) cl C s₀ H₀ ex) tg g') (ht:∀ cl C s₀ H₀ ex,znz (inner X sc (own++free) cl C s₀ H₀ ex) ifs tc) (he:∀ cl C s₀ H₀ ex,PD (inner X sc (own++free) cl C s₀ H₀ ex) elt te)
  (hsw:swapsWith (.ListComp elt [⟨tg,iter,ifs,0⟩] sc pos) (some (.Name y py)) spos.line X.env=pure true:=by rfl)
  (hs:∀ x,foldedSetIterable iter X.env x=pure x:=by intro _;rfl):PSD X (.Assign [.Name y py] (.ListComp elt [⟨tg,iter,ifs,0⟩] sc pos) spos) (zN (dLC own.length fv wi g tc te) (zE i)):=by with_unfolding_all exact (zbC (zq5 (tc:=upT X.K tc) (te:=up X.K te) hN hy hyl hcalm hxe hkind hcell hnames hfr hfv hi hg.2 ht he hsw hs) fun E σ H hh=>el8 hh fun ad ρ S E0 so rh q k =>
  zq1 (Q:=fun x H1=>L2.zE i x σ H1 E.nx) hg.1 ⟨ad,ρ,S,_,so,rh,q,fun d S' v H' ad' q' w st' r=>k.nx _ S' _ H' ad' q' w st' ((rh.wd w).set r i)⟩)
theorem zhb {K:PySem.W.Frag}{b:Nat}:ziN K b zc0 L2.zc0:=fun ad H S ρ σ ds vs Q0 Q st rh r ⟨e,q⟩ k=>by
 subst e
 cases r
 exact⟨rfl,k ρ S σ H ad q Wd.refl st rh rfl fun _ _=>rfl⟩
theorem zcf {K:PySem.W.Frag}{b:Nat}{t:DG}{u:DGs}{t':TG}{u':TGs}(r1:zij K b t t')(r2:ziN K b u u'):ziN K b (zao t u) (L2.zao t' u'):=fun ad H S ρ σ ds vs Q0 Q st rh r ⟨d,rs,ed,q⟩ k=>by
 subst ed
 cases r with
 | cons r t =>
  refine⟨_,_,rfl,r1 ad H S ρ σ d _ _ _ st rh r q fun ρ1 S1 σ1 H1 ad1 q1 w1 st1 rh1 l1 a1=>?_⟩
  exact r2 ad1 H1 S1 ρ1 σ1 _ _ _ _ st1 rh1 (t.wd w1) q1 fun ρ2 S2 σ2 H2 ad2 q2 w2 st2 rh2 l2 a2=>k ρ2 S2 σ2 H2 ad2 q2 (w1.trans w2) st2 rh2 (l2.trans l1) fun j hj=>(a2 j hj).trans (a1 j hj)
theorem zig {K:PySem.W.Frag}{b n:Nat}{t:DGs}{t':TGs}(r:ziN K b t t'):zij K b (zc2 n t) (L2.zc2 K n t'):=fun ad H S ρ σ d v Q0 Q st rh rv ⟨xs,ed,hl,q⟩ k=>by
 subst ed
 cases rv with
 | tup h1 rs=>exact⟨_,_,rfl,SqT.of h1,by rw [<- rs.length];exact hl,r ad H S ρ σ xs _ _ _ st rh rs q k⟩
end
theorem zkR {K:PySem.W.Frag}{ad:List Addr}{H:Hp}{ds:List D}{vs:List V}(N:List Str)(r:zJ K ad H ds vs):zar K ad H (zet N.length ds) (L2.start N vs) where
  len:=by unfold zet L2.start;rw [List.length_append,List.length_append,List.length_map,List.length_map,List.length_replicate,List.length_replicate,r.length]
  val:=fun i d e=>by
    unfold zet at e
    unfold L2.start
    by_cases hi:i<ds.length
    · rw [List.getElem?_append_left (by rw [List.length_map];exact hi),List.getElem?_map] at e
      rw [List.getElem?_append_left (by rw [List.length_map,<- r.length];exact hi),List.getElem?_map]
      cases hd:ds[i]? with
      | none=>rw [hd] at e;cases e
      | some d' =>
        rw [hd] at e
        cases e
        obtain⟨v,ev,rv⟩:=r.get hd
        exact⟨v,by rw [ev];rfl,rv⟩
    · rw [List.getElem?_append_right (by rw [List.length_map];exact Nat.le_of_not_lt hi),List.getElem?_replicate] at e
      split at e<;>cases e
theorem zJ.cut1 {K:PySem.W.Frag}{ad ad':List Addr}{H:Hp}(k:Nat)(h1:∀ d v,fl k d=true->Rel K ad H d v->Rel K ad' H d v):∀ ds vs,ds.all (fl k)=true->zJ K ad H ds vs->zJ K ad' H ds vs:=by
 intro ds
 induction ds with
 | nil=>intro vs _ r;cases r;exact .nil
 | cons d ds ih =>
  intro vs hf r
  rw [List.all_cons,Bool.and_eq_true] at hf
  cases r with
  | cons r t=>exact .cons (h1 d _ hf.1 r) (ih _ hf.2 t)
theorem Rel.cut {K:PySem.W.Frag}{ad ad':List Addr}{H:Hp}:∀ (k:Nat) (d:D) (v:V),fl k d=true->Rel K ad H d v->Rel K ad' H d v:=by
 intro k
 induction k with
 | zero =>
  intro d v hf r
  cases r with
  | non=>exact .non
  | bl b=>exact .bl b
  | int i=>exact .int i
  | str x=>exact .str x
  | ty n=>cases hf
  | tup h r=>cases hf
  | rl h r=>cases hf
  | ref h=>cases hf
  | exn _ _ _=>cases hf
 | succ k ih =>
  intro d v hf r
  cases r with
  | non=>exact .non
  | bl b=>exact .bl b
  | int i=>exact .int i
  | str x=>exact .str x
  | ty n=>cases hf
  | tup h r=>exact .tup h (zJ.cut1 k ih _ _ hf r)
  | rl h r=>cases hf
  | ref h=>cases hf
  | exn _ _ _=>cases hf
theorem zJ.cut {K:PySem.W.Frag}{ad ad':List Addr}{H:Hp}(k:Nat)(ds:List D)(vs:List V)(hf:ds.all (fl k)=true)(r:zJ K ad H ds vs):zJ K ad' H ds vs:=zJ.cut1 k (Rel.cut k) ds vs hf r
end Dp
namespace Dp
open PySem PySem.Spec PyProof.Rows L2 My
variable [B:Bs]
mutual
theorem Rel.low {K:PySem.W.Frag}{ad ad':List Addr}{H H':Hp}{m:Nat}(hm:ad.length<=m):∀ {d:D} {u v:V},Rel K ad H d u->Rel K ad' H' d v->Rel K (ad'.take m) H' d v
 | _,_,_,.non,.non=>.non
 | _,_,_,.bl b,.bl _=>.bl b
 | _,_,_,.int i,.int _=>.int i
 | _,_,_,.str x,.str _=>.str x
 | _,_,_,.ty n,.ty _=>.ty n
 | _,_,_,.tup _ r,.tup h r'=>.tup h (zJ.low hm r r')
 | _,_,_,.rl _ r,.rl h r'=>.rl h (zJ.low hm r r')
 | _,_,_,.exn _ _ _,.exn h e n=>.exn h e n
 | _,_,_,.ref h,.ref h'=>.ref (by rw [List.getElem?_take_of_lt (Nat.lt_of_lt_of_le (My.zbe h) hm)];exact h')
theorem zJ.low {K:PySem.W.Frag}{ad ad':List Addr}{H H':Hp}{m:Nat}(hm:ad.length<=m):∀ {ds:List D} {us vs:List V},zJ K ad H ds us->zJ K ad' H' ds vs->zJ K (ad'.take m) H' ds vs
 | _,_,_,.nil,.nil=>.nil
 | _,_,_,.cons r t,.cons r' t'=>.cons (Rel.low hm r r') (zJ.low hm t t')
end
theorem zaQ.low {K:PySem.W.Frag}{ad ad':List Addr}{H H':Hp}{m:Nat}(hm:ad.length<=m):∀ {fs:List (Str×D)} {us vs:List (Str×V)},zaQ K ad H fs us->zaQ K ad' H' fs vs->zaQ K (ad'.take m) H' fs vs
 | _,_,_,.nil,.nil=>.nil
 | _,_,_,.cons r t,.cons r' t'=>.cons (Rel.low hm r r') (zaQ.low hm t t')
theorem zi5 {K:PySem.W.Frag}{ad:List Addr}{H:Hp}{S:Sto}{Q0:DK}{Q:VK}(st:zR K ad H S)(k:KK K ad H Q0 Q):KK K ad H (Fin S Q0) Q:=by
 intro d S' v H' ad' hf w st' r
 rcases hf with q | ⟨S1,pre,hlen,hd,hc,q⟩
 ·exact k d S' v H' ad' q w st' r
 have hS:S1.length<=S'.length:=pre.length_le
 have had:ad.length<=S1.length:=by rw [st.len];exact hlen
 have htk:∀ {n:Nat} {a:Addr},(ad'.take S1.length)[n]?=some a->ad'[n]?=some a:=fun {n a} e=>by
  have hn:=My.zbe e
  rw [List.length_take] at hn
  rw [List.getElem?_take_of_lt (by omega)] at e
  exact e
 have w1:Wd ad H (ad'.take S1.length) H':=by
  refine⟨?_,w.keep,w.tup,w.frz,fun b m n=>w.new b (List.mem_of_mem_take m) n⟩
  obtain⟨t,rfl⟩:=w.pre
  rw [List.take_append,List.take_of_length_le had]
  exact List.prefix_append _ _
 refine k d S1 v H' _ q w1 ⟨st.wd.trans w1,by rw [List.length_take,st'.len];omega,st'.nd.sublist (List.take_sublist _ _),fun n a c e1 e2=>?_⟩ ?_
 ·have e1':=htk e1
  have ok:=st'.cell n a c e1' (zjx pre e2)
  rcases hc n c e2 with h | h
  ·obtain⟨a0,ea,ok0⟩:=st.get h
   cases c with
   | ins c fs =>
    obtain⟨C,dx,vs,hv,c1,c2,rv,hn⟩:=ok
    obtain⟨_,_,us,_,_,_,ru,_⟩:=ok0
    exact⟨C,dx,vs,hv,c1,c2,zaQ.low had ru rv,hn⟩
   | lst xs =>
    obtain⟨vs,hv,rv⟩:=ok
    obtain⟨us,hu,ru⟩:=ok0
    exact⟨vs,hv,zJ.low had ru rv⟩
  ·cases c with
   | ins c fs=>cases h
   | lst xs =>
    obtain⟨vs,hv,rv⟩:=ok
    exact⟨vs,hv,zJ.cut 20 _ _ h rv⟩
 ·rcases hd with h | ⟨n,rfl,hn⟩
  ·exact Rel.cut 20 _ _ h r
  ·cases r with
   | ref e=>exact .ref (by rw [List.getElem?_take_of_lt hn];exact e)
omit B in
theorem zV {P:Program}{w:World}{K:PySem.W.Frag}{mg:Str->Option Value}{base:Heap}{x qual:Str}{st:Stmt}{f:Addr}{fd:FuncData}{N ps:List Str}{k:Nat}{sp:DSp}{b:DS}(F:Fun K x qual st f fd)(S:zP N ps (zK st))
  (len:∀ ds So Q,sp ds So Q->ds.length=ps.length) (body:BodyOk N.length b sp)
  (term:∀ (cdv:Value) (A:Around) (outer:List Env) (s:Shared) (H:Hp) (E:XK),zaM k (A.deeper (envOfC qual (zK st) s.heap.objs.size f cdv))->∀ [Bs],zez (zfx CX0 P w K mg base N qual (zK st) f cdv A outer s H E).nox (za4 st) b) :
  zX P w K mg base CX0 (k+1) f fd ps (upF K sp):=by
 with_unfolding_all
  refine F.ok S (fun vs H Q E ⟨ad,So,ds,Q0,so,r,hf,kk⟩=>by rw [<- r.length];exact len ds So Q0 hf) fun cdv A outer s H vs Q E hr ⟨ad,So,ds,Q0,so,r,hf,kk⟩=>?_
  letI:Bs:=⟨ad,H⟩
  refine⟨_,term cdv A outer s H E hr,ad,zet N.length ds,So,_,so,zkR N r,body ds So Q0 hf,⟨fun ρ S' σ H' ad' q w' st' rh=>zi5 so kk .non S' .non H' ad' q w' st' .non,zi5 so kk,fun _ _ _ _ _ q=>q.elim,fun _ _ _ _ _ q=>q.elim⟩⟩
omit B in
theorem zty {K:PySem.W.Frag}{H:Hp}{a:Addr}{ns:List Int}(hl:ns.length<=63)(hg:∀ n∈ns,Hg n)(hO:Only H)(hS:SqL K H a (ns.map V.int)):upF K ze2 [.ref a] H (fun v _=>v=.bl true) fun _ _ _=>False:=by
 have hr:zim K H a (ns.map V.int):=by
  rcases hS with (h | h) | h
  ·rcases hO a with e | ⟨o,xs,e⟩
   ·rw [h] at e;cases e
   ·rw [h] at e;cases e
  ·exact .inl h
  ·exact .inr h
 refine⟨[],[],[.rl (ns.map D.int)],fun d _=>d=.bl true,@zR.mk ⟨[],H⟩ _ _ _ _ Wd.refl rfl List.nodup_nil (fun n a c e=>by simp at e),.cons (.rl hr (zJ.mk_ints ns)) .nil,⟨ns,rfl,⟨rfl,hg⟩,hl,fun _=>rfl⟩,fun d S' v H' ad' q w st' r=>?_⟩
 have q':d=.bl true:=q
 subst q'
 cases r
 rfl
omit B in
theorem zkZ:∀ {ns:List Int} {n:Int},n∈ns->PySem.W.WData.weight (.int n)<=PySem.W.WData.weightAll (ns.map PySem.W.WData.int)
 | m::ns,n,h=>by
  rw [List.map_cons,PySem.W.WData.weightAll]
  rcases List.mem_cons.mp h with rfl | h
  ·omega
  ·have:=zkZ h;omega
omit B in
theorem zp6 {l:PySem.W.OpenLaw}{n k:Nat}{q:Program}{loose:List Str}{XP:(Str->Option Value)->Heap->Prop}{YP:World->Heap->Prop}{d:DefRec}{K:Params->PySem.W.Frag}{sp:World->Sp}{x:Str}
  (hn:l.most=some n) (hn2:n<=sizeLine) (hdf:d.params.defaults=[]) (hr:zaM k callerA) (hY:∀ (w:World) (h:Heap),YP w h->(K w.params).In h)
  (F:∀ (w:World) (mg:Str->Option Value) (fa:Addr) (h:Heap),(K w.params).In h->h.Ns mainGlobals mg->mg d.name=some (.ref fa) ->
   ∃ fd:FuncData,(∀ (s:Shared) (u:Value),BindsTo s fd ⟨[u],[]⟩ [(x,u)])/\∀ base:Heap,(K w.params).In base->base.Ns mainGlobals mg->zX l.prog w (K w.params) mg base CX0 k fa fd [x] (sp w))
  (hsp:∀ (w:World) (H:Hp) (a:Addr) (ns:List Int),ns.length<=n->(∀ m∈ns,Hg m)->Only H->SqL (K w.params) H a (ns.map V.int)->sp w [.ref a] H (fun v _=>v=.bl true) fun _ _ _=>False) :
  PySem.W.WalkO q loose XP YP l.row.toRowW d [] (fun f vs=>PySem.call f vs):=by
 intro w s₀ s₁ mg mb G Y fa o pm cd doc dV kV ho hd hcd hD hmg hg args vals as hpre hlay hrd hwl hlo
 obtain rfl:dV=.none:=PySem.W.Dflts.none hD hdf
 obtain rfl:kV=.none:=PySem.W.Dflts.noKw hD
 obtain⟨a,vs,ns,rfl,rfl,hobj,hints,hlen⟩:=Att.zol hn hpre hwl
 have hbits:∀ m∈ns,Hg m:=fun m hm=>by
  have h1:PySem.W.WData.layable (.list (ns.map .int))=true:=by simpa [PySem.W.WData.layableAll] using hlay
  have h2:PySem.W.WData.weight (.list (ns.map PySem.W.WData.int))<=2 ^ 20:=by
   unfold PySem.W.WData.layable at h1
   rw [Bool.and_eq_true,decide_eq_true_eq] at h1
   exact h1.2
  have h3:=Nat.le_trans (zkZ hm) (by simpa only [PySem.W.WData.weight] using h2)
  exact zrm (by simpa only [PySem.W.WData.weight,Builtin.Int.intBits] using h3)
 have KX:=hY w _ Y
 obtain⟨fd,hb,hF⟩:=F w mg fa _ KX G.T.g hmg
 refine PySem.W.enter_call (codeAny_mono (zqf KX G.T.g G.T.b G.T.builtins G.T.nolimit hg hobj hints (Nat.le_trans hlen hn2) hr hF hb (fun H hO hS=>hsp w H a ns hlen hbits hO hS) fun _ _ _ z=>z) fun r s' hq=>?_)
 obtain⟨rfl,h2,h3,h4⟩:=hq
 exact⟨.inl ⟨.bool true,.bool true,[],rfl,fun _=>rfl,.bool true,Att.zn0 l _,fun _=>⟨List.Pairwise.nil,fun _ hm=>(nomatch hm)⟩⟩,h2,h3,h4⟩
omit B in
theorem zqK {us:List Value}(hl:us.length=1):∃ a0,us=[a0]:=by
  cases us with
  | nil=>simp at hl
  | cons a0 us =>
  cases us with
  | nil=>exact⟨a0,rfl⟩
  | cons b us=>simp at hl
omit B in
theorem zmV {us:List Value}(hl:us.length=2):∃ a0 a1,us=[a0,a1]:=by
  cases us with
  | nil=>simp at hl
  | cons a0 us =>
  cases us with
  | nil=>simp at hl
  | cons a1 us =>
  cases us with
  | nil=>exact⟨a0,a1,rfl⟩
  | cons b us=>simp at hl
omit B in
theorem zqJ {us:List Value}(hl:us.length=3):∃ a0 a1 a2,us=[a0,a1,a2]:=by
  cases us with
  | nil=>simp at hl
  | cons a0 us =>
  cases us with
  | nil=>simp at hl
  | cons a1 us =>
  cases us with
  | nil=>simp at hl
  | cons a2 us =>
  cases us with
  | nil=>exact⟨a0,a1,a2,rfl⟩
  | cons b us=>simp at hl
omit B in
theorem zqR {us:List Value}(hl:us.length=4):∃ a0 a1 a2 a3,us=[a0,a1,a2,a3]:=by
  cases us with
  | nil=>simp at hl
  | cons a0 us =>
  cases us with
  | nil=>simp at hl
  | cons a1 us =>
  cases us with
  | nil=>simp at hl
  | cons a2 us =>
  cases us with
  | nil=>simp at hl
  | cons a3 us =>
  cases us with
  | nil=>exact⟨a0,a1,a2,a3,rfl⟩
  | cons b us=>simp at hl
omit B in
theorem zqQ {us:List Value}(hl:us.length=5):∃ a0 a1 a2 a3 a4,us=[a0,a1,a2,a3,a4]:=by
  cases us with
  | nil=>simp at hl
  | cons a0 us =>
  cases us with
  | nil=>simp at hl
  | cons a1 us =>
  cases us with
  | nil=>simp at hl
  | cons a2 us =>
  cases us with
  | nil=>simp at hl
  | cons a3 us =>
  cases us with
  | nil=>simp at hl
  | cons a4 us =>
  cases us with
  | nil=>exact⟨a0,a1,a2,a3,a4,rfl⟩
  | cons b us=>simp at hl
omit B in
theorem zvw {us:List Value}(hl:us.length=8):∃ a0 a1 a2 a3 a4 a5 a6 a7,us=[a0,a1,a2,a3,a4,a5,a6,a7]:=by
  cases us with
  | nil=>simp at hl
  | cons a0 us =>
  cases us with
  | nil=>simp at hl
  | cons a1 us =>
  cases us with
  | nil=>simp at hl
  | cons a2 us =>
  cases us with
  | nil=>simp at hl
  | cons a3 us =>
  cases us with
  | nil=>simp at hl
  | cons a4 us =>
  cases us with
  | nil=>simp at hl
  | cons a5 us =>
  cases us with
  | nil=>simp at hl
  | cons a6 us =>
  cases us with
  | nil=>simp at hl
  | cons a7 us =>
  cases us with
  | nil=>exact⟨a0,a1,a2,a3,a4,a5,a6,a7,rfl⟩
  | cons b us=>simp at hl
end Dp
namespace Dp
open PySem PySem.Spec PyProof.Rows L2 My
variable [B:Bs]
section
variable {X:Cx}
theorem zrC {K:PySem.W.Frag}{ad:List Addr}{H:Hp}{a:Addr}{x:D}{ds:List D}(r:Rel K ad H x (.ref a)):zfU K ad H ⟨zcP 0 ds,fun S=>Lst S x ds⟩ (Ite K a) where
 go:=fun ad1 H1 S i w st ok hi=>by
  obtain⟨a',vs,e,s,rs⟩:=Lst.sq st ok (r.wd w)
  cases e
  have hi':i<ds.length:=by rw [<- zb8 0 ds];exact hi
  exact⟨vs,vs[i]'(by rw [<- rs.length];exact hi'),s,List.getElem?_eq_getElem _⟩
 yld:=fun ad1 H1 S i d y H' w st ok hd ⟨p,ey,hp,he⟩=>by
  obtain⟨a',vs,e,s,rs⟩:=Lst.sq st ok (r.wd w)
  cases e
  obtain⟨z,hz,rfl⟩:=zeo hd
  obtain⟨v,ev,rv⟩:=rs.get hz
  rw [he vs v s ev,ey]
  refine⟨Wd.laid hp,st.laid hp,.tup zaF (.cons ?_ (.cons (rv.wd (Wd.laid hp)) .nil))⟩
  rw [Nat.zero_add];exact .int _
 stop:=fun ad1 H1 S w st ok=>by
  obtain⟨a',vs,e,s,rs⟩:=Lst.sq st ok (r.wd w)
  cases e
  exact⟨vs,s,by show _<=(zcP 0 ds).length;rw [zb8,rs.length];exact Nat.le_refl _⟩
theorem zph {K:PySem.W.Frag}{ad:List Addr}{H:Hp}{a:Addr}{vs:List V}{ds:List D}(h:H a=some (.tup vs))(r:zJ K ad H ds vs):zfU K ad H ⟨zcP 0 ds,fun _=>True⟩ (zpg K a) where
 go:=fun ad1 H1 S i w st _ hi=>by
  have hi':i<ds.length:=by rw [<- zb8 0 ds];exact hi
  exact⟨vs,vs[i]'(by rw [<- r.length];exact hi'),SqT.of (w.tup _ _ h),List.getElem?_eq_getElem _⟩
 yld:=fun ad1 H1 S i d y H' w st _ hd ⟨p,ey,hp,he⟩=>by
  obtain⟨z,hz,rfl⟩:=zeo hd
  obtain⟨v,ev,rv⟩:=r.get hz
  rw [he vs v (SqT.of (w.tup _ _ h)) ev,ey]
  refine⟨Wd.laid hp,st.laid hp,.tup zaF (.cons ?_ (.cons ((rv.wd w).wd (Wd.laid hp)) .nil))⟩
  rw [Nat.zero_add];exact .int _
 stop:=fun ad1 H1 S w st _=>⟨vs,SqT.of (w.tup _ _ h),by show _<=(zcP 0 ds).length;rw [zb8,r.length];exact Nat.le_refl _⟩
theorem zhm {es:List Expr}{kk:Nat}{tpos:Pos}{a:Expr}{t:DA}{p pos:Pos}(hg:Gl X "enumerate")(hm:X.mg "enumerate"=none)(ha:PAD X [a] t)(hs:starEach [a] X.env=[(false,eval a X.env)]:=by exact zd4 rfl) :
  PID X (.Tuple es kk tpos) (.Call (.Name "enumerate" p) [a] [] pos) (Dp.zks t):=by with_unfolding_all exact (zhw (zpT hg hm ha hs) fun σ H R hh=>el8 hh fun ad ρ S R0 st rh q k =>
 ⟨ad,ρ,S,_,st,rh,q,fun ds S1 vs H1 ad1 q0 w1 st1 r1=>by
  rcases q0 with ⟨x,xs,ed,hx,q1⟩ | ⟨xs,ed,q1⟩
  ·subst ed
   obtain⟨v,rfl,rv⟩:=zcq r1
   obtain⟨b,ws,rfl,s,rs⟩:=hx.sq st1 rv
   exact⟨b,rfl,.inl ⟨⟨ws,s⟩,k _ S1 _ H1 ad1 q1 w1 st1 (zrC rv)⟩⟩
  ·subst ed
   obtain⟨v,rfl,rv⟩:=zcq r1
   cases rv with
   | tup h r=>exact⟨_,rfl,.inr ⟨⟨_,SqT.of h⟩,k _ S1 _ H1 ad1 q1 w1 st1 (zph h r)⟩⟩⟩)
theorem ztC {K:PySem.W.Frag}{ad:List Addr}{H:Hp}{a b:Addr}{x y:D}{ds es:List D}(r:Rel K ad H x (.ref a))(r2:Rel K ad H y (.ref b)):zfU K ad H ⟨zcc ds es,fun S=>Lst S x ds/\Lst S y es⟩ (zm0 K true true a b) where
 go:=fun ad1 H1 S i w st ok hi=>by
  obtain⟨a',vs,e,s,rs⟩:=Lst.sq st ok.1 (r.wd w)
  obtain⟨b',us,e',s',rs'⟩:=Lst.sq st ok.2 (r2.wd w)
  cases e
  cases e'
  have hi':i<min ds.length es.length:=by rw [<- zd7 ds es];exact hi
  exact⟨vs,us,vs[i]'(by rw [<- rs.length];omega),us[i]'(by rw [<- rs'.length];omega),s,s',List.getElem?_eq_getElem _,List.getElem?_eq_getElem _⟩
 yld:=fun ad1 H1 S i d z H' w st ok hd ⟨p,ey,hp,he⟩=>by
  obtain⟨a',vs,e,s,rs⟩:=Lst.sq st ok.1 (r.wd w)
  obtain⟨b',us,e',s',rs'⟩:=Lst.sq st ok.2 (r2.wd w)
  cases e
  cases e'
  obtain⟨u1,u2,h1,h2,rfl⟩:=zf5 hd
  obtain⟨v,ev,rv⟩:=rs.get h1
  obtain⟨u,eu,ru⟩:=rs'.get h2
  rw [he vs us v u s s' ev eu,ey]
  exact⟨Wd.laid hp,st.laid hp,.tup zaF (.cons (rv.wd (Wd.laid hp)) (.cons (ru.wd (Wd.laid hp)) .nil))⟩
 stop:=fun ad1 H1 S w st ok=>by
  obtain⟨a',vs,e,s,rs⟩:=Lst.sq st ok.1 (r.wd w)
  obtain⟨b',us,e',s',rs'⟩:=Lst.sq st ok.2 (r2.wd w)
  cases e
  cases e'
  refine⟨vs,us,s,s',?_⟩
  show vs.length<=(zcc ds es).length\/us.length<=(zcc ds es).length
  rw [zd7,rs.length,rs'.length];omega
theorem zrZ {K:PySem.W.Frag}{ad:List Addr}{H:Hp}{a b:Addr}{vs us:List V}{ds es:List D}(h:H a=some (.tup vs))(r:zJ K ad H ds vs)(h2:H b=some (.tup us))(r2:zJ K ad H es us):zfU K ad H ⟨zcc ds es,fun _=>True⟩ (zm0 K false false a b) where
 go:=fun ad1 H1 S i w st _ hi=>by
  have hi':i<min ds.length es.length:=by rw [<- zd7 ds es];exact hi
  exact⟨vs,us,vs[i]'(by rw [<- r.length];omega),us[i]'(by rw [<- r2.length];omega),SqT.of (w.tup _ _ h),SqT.of (w.tup _ _ h2),List.getElem?_eq_getElem _,List.getElem?_eq_getElem _⟩
 yld:=fun ad1 H1 S i d z H' w st _ hd ⟨p,ey,hp,he⟩=>by
  obtain⟨u1,u2,h1,h2',rfl⟩:=zf5 hd
  obtain⟨v,ev,rv⟩:=r.get h1
  obtain⟨u,eu,ru⟩:=r2.get h2'
  rw [he vs us v u (SqT.of (w.tup _ _ h)) (SqT.of (w.tup _ _ h2)) ev eu,ey]
  exact⟨Wd.laid hp,st.laid hp,.tup zaF (.cons ((rv.wd w).wd (Wd.laid hp)) (.cons ((ru.wd w).wd (Wd.laid hp)) .nil))⟩
 stop:=fun ad1 H1 S w st _=>by
  refine⟨vs,us,SqT.of (w.tup _ _ h),SqT.of (w.tup _ _ h2),?_⟩
  show vs.length<=(zcc ds es).length\/us.length<=(zcc ds es).length
  rw [zd7,r.length,r2.length];omega
theorem zuj {es:List Expr}{kk:Nat}{tpos:Pos}{a b:Expr}{t:DA}{p pos:Pos}(hg:Gl X "zip")(hm:X.mg "zip"=none)(ha:PAD X [a,b] t)(hs:starEach [a,b] X.env=[(false,eval a X.env),(false,eval b X.env)]:=by exact zle rfl rfl)(hs2:starEach [b] X.env=[(false,eval b X.env)]:=by exact zd4 rfl) :
  PID X (.Tuple es kk tpos) (.Call (.Name "zip" p) [a,b] [] pos) (Dp.zpJ t):=by with_unfolding_all exact (zhw (zrW hg hm ha hs hs2) fun σ H R hh=>el8 hh fun ad ρ S R0 st rh q k =>
 ⟨ad,ρ,S,_,st,rh,q,fun ds S1 vs H1 ad1 q0 w1 st1 r1=>by
  rcases q0 with ⟨x,y,xs,ys,ed,hx,hy,q1⟩ | ⟨xs,ys,ed,q1⟩
  ·subst ed
   obtain⟨v,u,rfl,rv,ru⟩:=zis r1
   obtain⟨b1,ws,rfl,s,rs⟩:=hx.sq st1 rv
   obtain⟨b2,ws2,rfl,s2,rs2⟩:=hy.sq st1 ru
   exact⟨true,b1,b2,rfl,⟨ws,s⟩,⟨ws2,s2⟩,k _ S1 _ H1 ad1 q1 w1 st1 (ztC rv ru)⟩
  ·subst ed
   obtain⟨v,u,rfl,rv,ru⟩:=zis r1
   cases rv with
   | tup h r =>
    cases ru with
    | tup h2 r2=>exact⟨false,_,_,rfl,⟨_,SqT.of h⟩,⟨_,SqT.of h2⟩,k _ S1 _ H1 ad1 q1 w1 st1 (zrZ h r h2 r2)⟩⟩)
end
section
variable {X:Cx}{a b:Expr}{ta tb:DE}{pos:Pos}
theorem zlv (x:D)(hx:fl 20 x=true):∀ ys:List D,ys.all (fl 20)=true->((zaB ys).any fun z=>PyData.eqv z (pyD x))=ys.any fun z=>eqv z x
 | [],_=>rfl
 | y::ys,h=>by
  rw [List.all_cons,Bool.and_eq_true] at h
  show (PyData.eqv (pyD y) (pyD x)||(zaB ys).any fun z=>PyData.eqv z (pyD x))=_
  rw [zk9 20 y x h.1 hx,zlv x hx ys h.2]
  rfl
def ztt (X:Cx)(g:Bool->Bool):R2:=fun x y H Q=>∃ ad S dx dy b,zR X.K ad H S/\Rel X.K ad H dx x/\Rel X.K ad H dy y/\InD S dx dy b/\Q (.bl (g b)) H
theorem zjV {pins:List (Addr×Obj)}{σ:L2.St}{H:Hp}{s:Shared}{ad:List Addr}{S:Sto}{dx dy:D}{x y:V}{v u:Value}{b:Bool}(I:Inv X pins σ H s)(st:zR X.K ad H S)(rx:Rel X.K ad H dx x)(ry:Rel X.K ad H dy y)(qx:RelV x v)(qy:RelV y u)(h:InD S dx dy b) :
  ∃ pd ps as bs,Reads s.heap v pd as/\(Reads s.heap u (.list ps) bs\/Reads s.heap u (.tuple ps) bs)/\pd.canLay0=true/\PyData.canLayAll0 ps=true/\min (PyData.depthAll ps) pd.depth<=60/\(ps.any fun z=>PyData.eqv z pd)=b:=by
 obtain⟨ys,hy,fx,fy,rfl⟩:=h
 obtain⟨as,ra⟩:=zcz I 20 dx x v fx rx qx
 obtain⟨c1,d1⟩:=zf4 20 dx fx
 obtain⟨c2,d2⟩:=zed 20 ys fy
 rcases hy with rfl | hy
 ·obtain⟨bs,rb⟩:=zcz I 21 (.tup ys) y u fy ry qy
  exact⟨pyD dx,zaB ys,as,bs,ra,.inr rb,c1,c2,by omega,zlv dx fx ys fy⟩
 ·obtain⟨a2,vs2,rfl,s2,r2⟩:=hy.sq st ry
  cases qy
  obtain⟨its2,rv2,ht2,hz2⟩:=I.list s2
  obtain⟨o2,ho2,hc2,n2,hd2⟩:=ht2.isList
  obtain⟨bs,rb⟩:=ze3 I 20 (zcz I 20) _ _ _ fy r2 rv2
  exact⟨pyD dx,zaB ys,as,_,ra,.inl (.list ho2 hc2 hd2 (by simpa using rb)),c1,c2,by omega,zlv dx fx ys fy⟩
theorem zqU {k:Nat}(hr:zaM k X.A):OC X .In oIn:=⟨_,(OpR.or (r:=ztt X id) (fun pins s σ H x y v u Q I qx qy ⟨ad,S,dx,dy,b,st,rx,ry,h,q⟩=>by
  obtain⟨pd,ps,as,bs,ra,rb,c1,c2,hd,e⟩:=zjV I st rx ry qx qy h
  have hu:=hr.units
  rcases rb with rb | rb
  ·exact PySem.SeqAt.in_list_reads rb ra c2 c1 (by omega) ⟨.bl _,H,I,by rw [e];rfl,q⟩
  ·exact PySem.SeqAt.in_tuple_reads rb ra c2 c1 (by omega) ⟨.bl _,H,I,by rw [e];rfl,q⟩) znJ),
 fun ad H S x y v u Q0 Q st rx ry h k=>by
  rcases h with ⟨b,h,q⟩ | ⟨c,z,rfl,rfl,q⟩
  ·exact .inl ⟨ad,S,x,y,b,st,rx,ry,h,k _ S _ H ad q Wd.refl st (.bl _)⟩
  ·cases rx
   cases ry
   exact .inr ⟨_,z,rfl,rfl,by rw [PySem.StrLaws.found_one];exact k _ S _ H ad q Wd.refl st (.bl _)⟩⟩
theorem zgs {k:Nat}(hr:zaM k X.A):OC X .NotIn zfN:=⟨_,(OpR.or (r:=ztt X (!·)) (fun pins s σ H x y v u Q I qx qy ⟨ad,S,dx,dy,b,st,rx,ry,h,q⟩=>by
  obtain⟨pd,ps,as,bs,ra,rb,c1,c2,hd,e⟩:=zjV I st rx ry qx qy h
  have hu:=hr.units
  rcases rb with rb | rb
  ·exact PySem.SeqAt.notIn_list_reads rb ra c2 c1 (by omega) ⟨.bl _,H,I,by rw [e];rfl,q⟩
  ·exact PySem.SeqAt.notIn_tuple_reads rb ra c2 c1 (by omega) ⟨.bl _,H,I,by rw [e];rfl,q⟩) zk4),
 fun ad H S x y v u Q0 Q st rx ry h k=>by
  rcases h with ⟨b,h,q⟩ | ⟨c,z,rfl,rfl,q⟩
  ·exact .inl ⟨ad,S,x,y,b,st,rx,ry,h,k _ S _ H ad q Wd.refl st (.bl _)⟩
  ·cases rx
   cases ry
   exact .inr ⟨_,z,rfl,rfl,by rw [PySem.StrLaws.found_one];exact k _ S _ H ad q Wd.refl st (.bl _)⟩⟩
theorem zrr {op:CmpOp}{r':DR2}(o:OC X op r')(ha:PD X a ta)(hb:PD X b tb)(hm:behindInMarks op b=false:=by with_unfolding_all rfl):PD X (.Compare a [op] [b] pos) (dOp r' ta tb):=by
 with_unfolding_all
  obtain⟨r,ho,od⟩:=o
  exact za6 (zmc ho ha hb hm) fun _ _ _=>zhE od
theorem zfP {op:CmpOp}{r':DR2}(o:OC X op r')(ha:PD X a ta)(hb:PD X b tb)(hm:behindInMarks op b=false:=by with_unfolding_all rfl):PTD X (.Compare a [op] [b] pos) (dT (dOp r' ta tb)):=by
 with_unfolding_all
  obtain⟨r,ho,od⟩:=o
  refine zfL (zmj ho ha hb hm) fun σ H Q hh=>el8 hh fun ad ρ S Q0 st rh q k=>?_
  refine zhE (Q:=fun x H'=>∃ k,x=.bl k/\Q k H') od ⟨ad,ρ,S,_,st,rh,q,fun d S' v H' ad' ⟨b,e,q'⟩ w st' r=>?_⟩
  subst e
  cases r
  exact⟨b,rfl,k b S' H' ad' q' w st'⟩
end
section
variable {X:Cx}
theorem ints_of:∀ {ns:List Int} {its:List Value},Vals (ns.map V.int) its->IntsAre its ns
 | [],_,r=>by cases r;exact .nil
 | n::ns,_,r=>by
  cases r with
  | cons h t =>
   obtain⟨k,rfl⟩:=h
   exact .cons _ _ (ints_of t)
theorem zmr:∀ {ns:List Int} {its:List Value},IntsAre its ns->Vals (ns.map V.int) its
 | [],_,r=>by cases r;exact .nil
 | n::ns,_,r=>by
  cases r with
  | cons _ _ t=>exact .cons ⟨_,rfl⟩ (zmr t)
def zs7 (K:PySem.W.Frag):List V->Hp->VK->Prop:=fun xs H Q=>∃ (p:Addr) (ns:List Int),xs=[.ref p]/\SqL K H p (ns.map V.int)/\ns.length<64/\∀ (l:Addr) (ss:List Int),H l=none->ss.Perm ns->ss.Pairwise (fun a b=>a<=b)->Q (.ref l) (upd H l (.lst (ss.map V.int)))
theorem zkG {K:PySem.W.Frag}(hK:X.K=K):zaK X (.builtin "sorted") (zs7 K):=fun pins s σ H xs us Q I r h=>by
 subst hK
 obtain⟨p,ns,rfl,hS,h64,q⟩:=h
 obtain⟨u,rfl,ru⟩:=vals1 r
 cases ru
 obtain⟨its,rv,pl,hz⟩:=I.list hS
 have hI:=ints_of rv
 have hlen:=rv.length
 rw [List.length_map] at hlen hz
 refine sorted_ints pl.isList hI (by omega) fun out ss h1 h2 h3=>?_
 obtain⟨e,he⟩:=sortedAll_at s.heap its out
 have hv:=zmr h1
 refine⟨.ref (s.heap.objs.size+1),_,I.laid (t':=s.toks) (a:=s.heap.objs.size+1) (o:=.lst (ss.map V.int)) (fun b o q=>sortedAll_old q) (Nat.le_succ _) ⟨?_,out.toList,e,hv,?_⟩,rfl,q _ ss (I.hok.fresh (Nat.le_succ _)) h2 h3⟩
 ·rw [List.length_map,h2.length_eq];exact hz
 ·rw [he]
theorem zpW:BC X (.builtin "sorted") zn6:=⟨_,zkG rfl,fun ad H S ds vs Q0 Q st r ⟨x,ns,e,hx,h64,q⟩ k=>by
 subst e
 obtain⟨v,rfl,rv⟩:=zcq r
 obtain⟨a,ws,rfl,hs,rs⟩:=hx.sq st rv
 cases rs.ints
 exact⟨a,ns,rfl,hs,h64,fun l ss hl hp hw=>zfI st k (zJ.mk_ints ss) (q ss hp hw) l hl⟩⟩
theorem zrG:BC X (.builtin "sorted") zmS:=by
 obtain⟨r1,c1,d1⟩:=zpx (X:=X)
 obtain⟨r2,c2,d2⟩:=zpW (X:=X)
 refine⟨fun xs H Q=>r1 xs H Q\/r2 xs H Q,fun pins s σ H xs us Q I r h=>?_,fun ad H S ds vs Q0 Q st r h k=>?_⟩
 ·rcases h with h | h
  ·exact c1 pins s σ H xs us Q I r h
  ·exact c2 pins s σ H xs us Q I r h
 ·rcases h with h | h
  ·exact .inl (d1 ad H S ds vs Q0 Q st r h k)
  ·exact .inr (d2 ad H S ds vs Q0 Q st r h k)
end
section
variable {X:Cx}{e:Expr}{pos p2 p3:Pos}{lo:Option Expr}
end
theorem zll {K:PySem.W.Frag}{ad:List Addr}{H:Hp}:∀ {zs:List Str} {vs:List V},zJ K ad H (zs.map D.str) vs->vs=zs.map V.str
 | [],_,.nil=>rfl
 | z::zs,_,.cons r t=>by cases r;rw [zll t];rfl
theorem zrp {X:Cx}{a:Expr}{t:DA}{p1 p2 pos1 pos2:Pos}(hgl:Gl X "len")(hml:X.mg "len"=none)(hgr:Gl X "set")(hmr:X.mg "set"=none)(ha:PAD X [a] t)(hc:X.calm=true:=by rfl)
  (hs:starEach [a] X.env=[(false,eval a X.env)]:=by exact zd4 rfl)
  (hs3:starEach [.Call (.Name "set" p2) [a] [] pos2] X.env=[(false,eval (.Call (.Name "set" p2) [a] [] pos2) X.env)]:=by rfl) :
  PD X (.Call (.Name "len" p1) [.Call (.Name "set" p2) [a] [] pos2] [] pos1) (dB znk t):=by with_unfolding_all exact (za6 (zrf hc hgl hml hgr hmr ha hs hs3) fun σ H Q hh=>el8 hh fun ad ρ S Q0 st rh q k =>
  ⟨ad,ρ,S,_,st,rh,q,fun ds S1 vs H1 ad1 ⟨x,zs,ed,hx,hl,q1⟩ w1 st1 r1=>by
   subst ed
   obtain⟨v,rfl,rv⟩:=zcq r1
   obtain⟨a1,ws,rfl,hs,rs⟩:=hx.sq st1 rv
   cases zll rs
   exact⟨a1,zs,rfl,hs,hl,k _ S1 _ H1 ad1 q1 w1 st1 (.int _)⟩⟩)
section
variable {X:Cx}{e:Expr}{t:DA}{p pos kp cp:Pos}{j:Nat}
end
section
variable {X:Cx}{e o value:Expr}{te to tv:DE}{f c:Str}{pos pos':Pos}
theorem zan (he:PD X e te)(hb:attributeBase e f X.env (eval e X.env)=eval e X.env):PD X (.Attribute e f pos) (zaV f te):=by with_unfolding_all exact (za6 (ztA he hb) fun σ H Q hh=>el8 hh fun ad ρ S Q0 st rh q k =>
  ⟨ad,ρ,S,_,st,rh,q,fun x S1 v H1 ad1 ⟨n,c,fs,d,ex,hn,hl,q1⟩ w1 st1 r1=>by
   subst ex
   cases r1 with
   | ref en =>
    obtain⟨C,dx,vs,h1,hc,hns,rf,hna⟩:=st1.cell n _ _ en hn
    obtain⟨v,hv,rv⟩:=rf.look hl
    obtain⟨q2,hq2,e2⟩:=zla hl
    exact⟨_,C,dx,vs,v,rfl,h1,hc,e2▸hna q2 hq2,hv,k d S1 v H1 ad1 q1 w1 st1 rv⟩⟩)
theorem zdw (hna:∀ C,PySem.W.nsIn X.K mainGlobals c=some (some (.ref C))->zau X.K C f)(ho:PD X o to)(hv:PD X value tv)(hs:swapsWith value (some (.Attribute o f pos')) pos.line X.env=pure false:=by rfl) :
  PSD X (.Assign [.Attribute o f pos'] value pos) (zeb c f to tv):=by with_unfolding_all exact (zbC (zun ho hv hs) fun E σ H hh=>el8 hh fun ad ρ S E0 so rh q k =>
 ⟨ad,ρ,S,_,so,rh,q,fun y S1 vy H1 ad1 q1 w1 st1 r1=>⟨ad1,ρ,S1,_,st1,rh.wd w1,q1,fun x S2 vx H2 ad2 ⟨n,fs,ex,hn,hl,q2⟩ w2 st2 r2=>by
  subst ex
  cases r2 with
  | ref en =>
   obtain⟨C,dx,vs,h1,hc,hns,rf,hna'⟩:=st2.cell n _ _ en hn
   have w3:Wd ad2 H2 ad2 (upd H2 _ (.ins C dx (zbS f vy vs))):=Wd.putI en h1
   exact⟨_,C,dx,vs,rfl,h1,hc,hna C hns,by rw [<- rf.length];omega,k.nx ρ _ σ _ ad2 q2 ((w1.trans w2).trans w3) (st2.putI en h1 hc hns rf hna' (hna C hns) (r1.wd w2)) (((rh.wd w1).wd w2).wd w3)⟩⟩⟩)
omit B in
theorem zmw {K:PySem.W.Frag}{C:Addr}{c:Str}{init:DSp}(hc:Cls K C)(hn:PySem.W.nsIn K mainGlobals c=some (some (.ref C))):∀ vs H Q,upF K (znu c init) vs H Q E0->∀ x dx,H x=none->H dx=none->dx≠x ->
  upF K init (.ref x::vs) (upd (upd H dx (.own x)) x (.ins C dx [])) (fun v H2=>v=.non/\Q (.ref x) H2) E0:=by
 rintro vs H Q ⟨ad,S,ds,Q0,st,r,hf,k⟩ x dx hx hdx hne
 letI:Bs:=⟨ad,H⟩
 obtain⟨w,st'⟩:=st.newI (c:=c) hx hdx hne hc hn
 have rx:Rel K (ad++[x]) (upd (upd H dx (.own x)) x (.ins C dx [])) (.ref S.length) (.ref x):=.ref (by rw [<- st.len,List.getElem?_append_right (Nat.le_refl _),Nat.sub_self];rfl)
 have hf':init (.ref S.length::ds) (S++[.ins c []]) (fun d S2=>d=.non/\Q0 (.ref S.length) S2):=hf
 refine⟨ad++[x],S++[.ins c []],.ref S.length::ds,_,st'.base,.cons rx (r.wd w),hf',fun d S' v H' ad' q w' st2 rv=>?_⟩
 obtain⟨rfl,q⟩:=q
 cases rv
 exact⟨rfl,k _ S' _ H' ad' q (w.trans w') (st'.back st2) (rx.wd w')⟩
theorem zkJ {k j:Nat}{x:Str}{e:Expr}{es:List Expr}{t:DA}{p:Pos}{f:DSp}(G:zjz X.prog X.w X.K X.mg X.base k x (upF X.K f))(hr:zaM j X.A)(hk:k+1<=j)(hg:Gl X x)
  (ha:PAD X (e::es) t) (hdb:(x==("__debug__":Str))=false:=by decide) (he:starEach (e::es) X.env=(false,eval e X.env)::starEach es X.env:=by exact zbz rfl) (hpl:(backTo pos (starEach es X.env)).any (·.1)=false:=by exact zds rfl) :
  PD X (.Call (.Name x p) (e::es) [] pos) (dCall f t):=by with_unfolding_all exact (za6 (zuR G hr hk hg ha hdb he hpl) fun σ H Q hh=>el8 hh fun ad ρ S Q0 st rh q k =>
 ⟨ad,ρ,S,_,st,rh,q,fun ds S1 vs H1 ad1 q1 w1 st1 r1=>by
  show upF X.K f (vs++[]) H1 Q E0
  rw [List.append_nil];exact⟨ad1,S1,ds,Q0,st1.base,r1,q1,(k.wd w1).base st1⟩⟩)
end
end Dp
namespace Dp
open PySem PySem.Spec PyProof.Rows L2 My
def Fly (h0 h:Heap)(e:Addr)(cls:Value)(H:Hp):Prop:=h0.get? e=none/\H e=none/\∃ (a0:Value) (oe:Obj) (vs:Array Value) (T:Addr) (oT:Obj) (ts:Array Value),h.get? e=some oe/\(oe.cls=cls/\vs[0]?=some a0)/\oe.data=.fields vs/\vs[1]?=some (.ref T)/\h0.get? T=none/\T≠e/\h.get? T=some oT/\oT.data=.fields ts/\ts[3]?=some .none/\H T=none
def CXd (P:Program)(w:World):CXT:=fun outer H s E e s'=>∃ (a C:Addr) (H':Hp),e=.ref a/\s'.os=s.os/\AllBare s'.gens/\Un (frs outer) [] H H' s.heap s'.heap/\HOk P w H' s'.heap/\Fly s.heap s'.heap a (.ref C) H'/\E (.ref C) none H'
def zbY (h:Heap)(p:Addr->Bool):Heap:={ h with objs:=h.objs.mapIdx fun i o=>if p i=true then o else { cls:=.none,data:=.freed } }
theorem zdo (h:Heap)(p:Addr->Bool)(b:Addr):(zbY h p).get? b=if p b=true then h.get? b else none:=by
  unfold zbY Heap.get?
  dsimp only
  rw [Array.getElem?_mapIdx]
  cases h.objs[b]? with
  | none=>cases p b<;>rfl
  | some o=>cases p b<;>rfl
theorem zgl (h:Heap)(p:Addr->Bool):(zbY h p).StaysIn h:=fun b o e=>by
 rw [zdo] at e
 split at e
 ·exact e
 ·cases e
theorem zhB {h base base':Heap}:∀ {l:List Env},h.FunFrames base l->(∀ L∈frs l,base'.get? L=none)->h.FunFrames base' l
 | [],_,_=>True.intro
 | env::l,⟨h1,⟨L,o,h2,h3,h4,h5⟩,h6⟩,hb=>⟨h1,⟨L,o,h2,hb L (List.mem_filterMap.mpr ⟨env,by simp,h2⟩),h4,h5⟩,zhB h6 fun L' hL=>hb L' (by
   obtain⟨e',he,e2⟩:=List.mem_filterMap.mp hL
   exact List.mem_filterMap.mpr ⟨e',List.mem_cons_of_mem _ he,e2⟩)⟩
section
variable {X:Cx}{pins:List (Addr×Obj)}{σ:L2.St}{H:Hp}{s:Shared}
theorem znP (I:Inv X pins σ H s)(hex:X.ex=[]){b:Addr}{o:Obj}(e:X.s₀.heap.get? b=some o):∃ o',s.heap.get? b=some o':=I.base.there b o e (by rw [hex];simp)
theorem zen (I:Inv X pins σ H s)(hex:X.ex=[]){b:Addr}(e:s.heap.get? b=none):X.s₀.heap.get? b=none:=by
 cases q:X.s₀.heap.get? b with
 | none=>rfl
 | some o=>obtain⟨o',h⟩:=znP I hex q;rw [e] at h;cases h
theorem ziv (I:Inv X pins σ H s){b:Addr}(e:s.heap.get? b=none):H b=none:=by
 cases q:H b with
 | none=>rfl
 | some o =>
  have:=(I.hok b o q).lt
  exfalso
  cases o with
  | lst xs=>obtain⟨_,_,_,_,h⟩:=I.hok b _ q;rw [e] at h;cases h
  | tup xs=>obtain⟨_,_,_,ob,h,_⟩:=I.hok b _ q;rw [e] at h;cases h
  | dK kvs=>obtain⟨_,_,_,_,ob,_,_,h,_⟩:=I.hok b _ q;rw [e] at h;cases h
  | dT kvs=>obtain⟨_,_,_,_,ob,_,_,h,_⟩:=I.hok b _ q;rw [e] at h;cases h
  | set S n=>obtain⟨ob,_,_,_,h,_⟩:=I.hok b _ q;rw [e] at h;cases h
  | ins C dx fs=>obtain⟨_,_,_,h,_⟩:=I.hok b _ q;rw [e] at h;cases h
  | own y=>obtain⟨_,h⟩:=I.hok b _ q;rw [e] at h;cases h
  | xd fs=>obtain⟨_,⟨_,_,_,h,_⟩,_⟩:=I.hok b _ q;rw [e] at h;cases h
  | rng lo hi=>obtain⟨_,_,_,h⟩:=I.hok b _ q;rw [e] at h;cases h
  | frz ob u=>obtain⟨h,_⟩:=I.hok b _ q;rw [e] at h;cases h
  | tbl ps=>have h:s.heap.get? b=some _:=I.hok b _ q;rw [e] at h;cases h
  | met f y=>have h:s.heap.get? b=some _:=I.hok b _ q;rw [e] at h;cases h
  | ext φ=>obtain⟨_,⟨_,h⟩,_⟩:=I.hok b _ q;rw [e] at h;cases h
theorem zka (I:Inv X pins σ H s)(hex:X.ex=[])(hst:X.stack=X.env::X.outer)(hfr:X.env.frame=some X.env.locals){e T0:Addr}{h':Heap}(he:X.s₀.heap.get? e=none)(hT:X.s₀.heap.get? T0=none)(He:H e=none)(HT:H T0=none)
  (hk:∀ b o,s.heap.get? b=some o->b≠e->b≠T0->b∉frs X.stack->h'.get? b=some o) (hs:∀ b∈frs X.stack,∀ o,s.heap.get? b=some o->∃ sl,h'.get? b=some { o with slots:=sl }) :
  Un X.fs [] X.H₀ H X.s₀.heap h'/\HOk X.prog X.w H h':=by
 have nfr:∀ {b:Addr} {o:Obj},X.s₀.heap.get? b=some o->b∉X.fs->b∉frs X.stack:=fun {b o} q n m=>by
  rw [hst] at m
  obtain⟨e',h1,h2⟩:=List.mem_filterMap.mp m
  rcases List.mem_cons.mp h1 with rfl | h1
  ·rw [hfr] at h2
   cases h2
   exact absurd (Heap.lt_size q) (Nat.not_lt.mpr I.ok.above)
  ·exact n (List.mem_filterMap.mpr ⟨e',h1,h2⟩)
 have sub:∀ {b:Addr},b∈X.fs->b∈frs X.stack:=fun {b} m=>by
  obtain⟨e',h1,h2⟩:=List.mem_filterMap.mp m
  rw [hst]
  exact List.mem_filterMap.mpr ⟨e',List.mem_cons_of_mem _ h1,h2⟩
 have nex:∀ b:Addr,b∉X.ex:=fun b=>by rw [hex];simp
 have ne:∀ {b:Addr} {o:Obj},X.s₀.heap.get? b=some o->b≠e/\b≠T0:=fun {b o} q=>⟨fun z=>(by rw [z,he] at q;cases q),fun z=>(by rw [z,hT] at q;cases q)⟩
 have ub:=I.base
 refine⟨⟨fun b o q n m _=>?_,fun b o q n m _=>?_,fun b o q n _=>ub.free b o q n (nex b),fun b o q _=>?_,ub.tups,ub.frzs,ub.tbls⟩,fun a o q=>?_⟩
 ·exact hk b o (ub.keep b o q n m (nex b)) (ne q).1 (ne q).2 (nfr q m)
 ·obtain⟨sl,h1⟩:=ub.slot b o q n m (nex b)
  obtain⟨sl',h2⟩:=hs b (sub m) _ h1
  exact⟨sl',h2⟩
 ·obtain⟨o',h1⟩:=ub.there b o q (nex b)
  by_cases m:b∈frs X.stack
  ·obtain⟨sl,h2⟩:=hs b m o' h1
   exact⟨_,h2⟩
  ·exact⟨o',hk b o' h1 (ne q).1 (ne q).2 m⟩
 ·have inn:∀ {b:Addr},H b≠none->b≠e/\b≠T0/\b∉frs X.stack:=fun {b} n=>⟨fun z=>n (by rw [z];exact He),fun z=>n (by rw [z];exact HT),fun z=>n (I.stkFree b z)⟩
  refine (I.hok a o q).stay (fun b u hb r=>?_) (fun _ r=>r) fun _ _ r=>r
  have n:H b≠none:=by
   rcases hb with rfl | hb
   ·rw [q];exact Option.some_ne_none _
   ·rw [hb];exact Option.some_ne_none _
  obtain⟨n1,n2,n3⟩:=inn n
  exact hk b u r n1 n2 n3
theorem zo3 (I:Inv X pins σ H s)(hex:X.ex=[])(hst:X.stack=X.env::X.outer)(hfr:X.env.frame=some X.env.locals){e C:Addr}{E:Value->Shared->Prop}{Q:Unit->Shared->Prop}(F:Fly X.s₀.heap s.heap e (.ref C) H)
  (hQ:∀ s':Shared,s'.os=X.s₀.os->AllBare s'.gens->Un X.fs [] X.H₀ H X.s₀.heap s'.heap->HOk X.prog X.w H s'.heap->Fly X.s₀.heap s'.heap e (.ref C) H->Q () s'):wpAny (model X.prog X.w) X.A (leaving X.env (.ref e)) Q E s:=by
 obtain⟨he,He,a0,oe,vs,T,oT,ts,f1,f2,f3,f4,f5,f6,f7,f8,f9,HT⟩:=F
 have ff:s.heap.FunFrames X.base X.stack:=I.stack
 obtain⟨p,hp⟩:∃ p:Addr->Bool,∀ b,p b=true↔b≠e/\b≠T/\b∉frs X.stack:=⟨fun b=>decide (b≠e/\b≠T/\b∉frs X.stack),fun b=>decide_eq_true_iff⟩
 have mno:∀ {b:Addr},¬ (b≠e/\b≠T/\b∉frs X.stack)->(zbY s.heap p).get? b=none:=fun {b} n=>by
  rw [zdo,if_neg (fun z=>n ((hp b).mp z))]
 have myes:∀ {b:Addr} {o:Obj},s.heap.get? b=some o->b≠e->b≠T->b∉frs X.stack->(zbY s.heap p).get? b=some o:=fun {b o} q n1 n2 n3=>by
  rw [zdo,if_pos ((hp b).mpr ⟨n1,n2,n3⟩)];exact q
 have fb:s.heap.FunFrames (zbY s.heap p) X.stack:=zhB ff fun L hL=>mno fun z=>z.2.2 hL
 have fl:Heap.FlyingW (zbY s.heap p) X.stack e (.ref C) a0 s.heap:=⟨zgl _ _,mno fun z=>z.1 rfl,fb,oe,vs,T,oT,ts,f1,f2,f3,f4,mno fun z=>z.2.1 rfl,f6,f7,f8,f9⟩
 have fr:=I.ok.frames
 rw [hst] at fr
 rw [hst] at fl
 refine wpAny_leaves_onW fr hfr fl fun h' ⟨k1,k2,k3,oe',vs',T',oT',ts',g1,g2,g3,g4,g5,g6,g7,g8,g9⟩ us=>?_
 have hs:∀ b∈frs X.stack,∀ o,s.heap.get? b=some o->∃ sl,h'.get? b=some { o with slots:=sl }:=fun b hb o q=>by
  obtain⟨_,o',h1,h2⟩:=ff.mem hb
  rw [q] at h1;cases h1
  exact us b o q h2
 have hk:∀ b o,s.heap.get? b=some o->b≠e->b≠T->b∉frs X.stack->h'.get? b=some o:=fun b o q n1 n2 n3=>k1 b o (myes q n1 n2 n3)
 obtain⟨u1,u2⟩:=zka I hex hst hfr he f5 He HT hk hs
 have nT:X.s₀.heap.get? T'=none/\H T'=none:=by
  by_cases z1:T'=T
  ·rw [z1];exact⟨f5,HT⟩
  ·by_cases z2:T'∈frs X.stack
   ·exfalso
    obtain⟨_,o',h1,h2⟩:=ff.mem z2
    obtain⟨sl,h3⟩:=hs T' z2 o' h1
    rw [g7] at h3;cases h3
    exact h2 ts' g8
   ·have:s.heap.get? T'=none:=by
     cases q:s.heap.get? T' with
     | none=>rfl
     | some o=>rw [myes q g6 z1 z2] at g5;cases g5
    exact⟨zen I hex this,ziv I this⟩
 exact hQ _ I.os I.bare u1 u2 ⟨he,He,a0,oe',vs',T',oT',ts',g1,g2,g3,g4,nT.1,g6,g7,g8,g9,nT.2⟩
theorem zm4 (I:Inv X pins σ H s)(hex:X.ex=[])(hst:X.stack=X.env::X.outer)(hfr:X.env.frame=some X.env.locals){e C:Addr}{args:List Value}{h1:Heap}{E:Value->Shared->Prop}{Q:Unit->Shared->Prop}(hx:s.heap.MadeExcOf h1 e (.ref C) args)
  (hQ:∀ s':Shared,s'.os=X.s₀.os->AllBare s'.gens->Un X.fs [] X.H₀ H X.s₀.heap s'.heap->HOk X.prog X.w H s'.heap->Fly X.s₀.heap s'.heap e (.ref C) H->Q () s'):wpAny (model X.prog X.w) X.A (leaving X.env (.ref e)) Q E { s with heap:=h1 }:=by
 have ff:s.heap.FunFrames X.base X.stack:=I.stack
 obtain⟨p,hp⟩:∃ p:Addr->Bool,∀ b,p b=true↔b∉frs X.stack:=⟨fun b=>decide (b∉frs X.stack),fun b=>decide_eq_true_iff⟩
 have mno:∀ {b:Addr},b∈frs X.stack->(zbY s.heap p).get? b=none:=fun {b} n=>by
  rw [zdo,if_neg (fun z=>(hp b).mp z n)]
 have myes:∀ {b:Addr} {o:Obj},s.heap.get? b=some o->b∉frs X.stack->(zbY s.heap p).get? b=some o:=fun {b o} q n3=>by
  rw [zdo,if_pos ((hp b).mpr n3)];exact q
 have fb:s.heap.FunFrames (zbY s.heap p) X.stack:=zhB ff fun L hL=>mno hL
 have fr:=I.ok.frames
 rw [hst] at fr
 rw [hst] at fb
 refine wpAny_leaves_madeW (base:=zbY s.heap p) (h:=s.heap) fr hfr (zgl _ _) fb hx fun h' t ⟨k1,k2,k3,oe',vs',T',oT',ts',g1,g2,g3,g4,g5,g6,g7,g8,g9⟩ _ _ us=>?_
 have us':s.heap.UpToSlots h':=fun b o q n=>us b o (hx.keeps b o q) n
 have hs:∀ b∈frs X.stack,∀ o,s.heap.get? b=some o->∃ sl,h'.get? b=some { o with slots:=sl }:=fun b hb o q=>by
  obtain⟨_,o',h1,h2⟩:=ff.mem hb
  rw [q] at h1;cases h1
  exact us' b o q h2
 have hk:∀ b o,s.heap.get? b=some o->b≠e->b≠e->b∉frs X.stack->h'.get? b=some o:=fun b o q _ _ n3=>k1 b o (myes q n3)
 have he:=zen I hex hx.new
 have He:=ziv I hx.new
 obtain⟨u1,u2⟩:=zka I hex hst hfr he he He He hk hs
 have nT:X.s₀.heap.get? T'=none/\H T'=none:=by
  by_cases z2:T'∈frs X.stack
  ·exfalso
   obtain⟨_,o',h1,h2⟩:=ff.mem z2
   obtain⟨sl,h3⟩:=hs T' z2 o' h1
   rw [g7] at h3;cases h3
   exact h2 ts' g8
  ·have:s.heap.get? T'=none:=by
    cases q:s.heap.get? T' with
    | none=>rfl
    | some o=>rw [myes q z2] at g5;cases g5
   exact⟨zen I hex this,ziv I this⟩
 exact hQ _ I.os I.bare u1 u2 ⟨he,He,_,oe',vs',T',oT',ts',g1,g2,g3,g4,nT.1,g6,g7,g8,g9,nT.2⟩
end
def zbT (K:PySem.W.Frag)(f:zdk):Sp:=fun vs H Q E=>∃ ad S ds Q0 X0,@zR ⟨ad,H⟩ K ad H S/\zJ K ad H ds vs/\f ds S Q0 X0/\@KK ⟨ad,H⟩ K ad H Q0 Q /\
 ∀ (c:Str) (C:Addr) (S':Sto) (ad':List Addr) (H':Hp),X0 c S'->@zR ⟨ad,H⟩ K ad' H' S'->PySem.W.nsIn K mainGlobals c=some (some (.ref C))->E (.ref C) none H'
structure zeU (P:Program)(w:World)(K:PySem.W.Frag)(mg:Str->Option Value)(base:Heap)(k:Nat)(x:Str)(ps:List Str)(sp:Sp):Prop where
 ex:∃ f fd,zX P w K mg base (CXd P w) k f fd ps sp/\Binds K fd ps []/\PySem.W.keepIn K (.ref f)=true/\mg x=some (.ref f)
def XOk [B:Bs](X:Cx)(ex:XR):Prop:=∀ (pins:List (Addr×Obj)) (σ:L2.St) (H:Hp) (s s':Shared) (ad ad':List Addr) (ρ:Rho) (S S':Sto) (c:Str) (C a:Addr) (H':Hp),Inv X pins σ H s->zR X.K ad H S->zar X.K ad H ρ σ->ex ρ c S'->zR X.K ad' H' S'->Wd ad H ad' H' ->
 PySem.W.nsIn X.K mainGlobals c=some (some (.ref C))->s'.os=s.os->AllBare s'.gens->Un (frs X.stack) [] H H' s.heap s'.heap->HOk X.prog X.w H' s'.heap->Fly s.heap s'.heap a (.ref C) H'->X.xe (.ref a) s'
def XMk [B:Bs](X:Cx)(ex:XR):Prop:=∀ (pins:List (Addr×Obj)) (σ:L2.St) (H:Hp) (s:Shared) (ad:List Addr) (ρ:Rho) (S:Sto) (c:Str) (C e:Addr) (args:List Value) (h1:Heap),Inv X pins σ H s->zR X.K ad H S->zar X.K ad H ρ σ->ex ρ c S ->
 PySem.W.nsIn X.K mainGlobals c=some (some (.ref C))->s.heap.MadeExcOf h1 e (.ref C) args->X.xe (.ref e) { s with heap:=h1 }
section
variable [B:Bs]{X:Cx}
theorem zaw {k j:Nat}{x:Str}{ps:List Str}{f:zdk}{ex:XR}{p pos:Pos}{e:Expr}{es:List Expr}{t:DA}(G:zeU X.prog X.w X.K X.mg X.base k x ps (zbT X.K f))(hX:XOk X ex)(hr:zaM j X.A)(hk:k<=j)(hg:Gl X x)
  (ha:PAD X (e::es) t) (hdb:(x==("__debug__":Str))=false:=by decide) (he:starEach (e::es) X.env=(false,eval e X.env)::starEach es X.env:=by exact zbz rfl) (hpl:(backTo pos (starEach es X.env)).any (·.1)=false:=by exact zds rfl) :
  PD X (.Call (.Name x p) (e::es) [] pos) (zaP f ex t):=by
 with_unfolding_all
  intro pins s σ H Q I h
  obtain⟨ad,ρ,S,Q0,st,rh,q,kk⟩:=h
  obtain⟨fa,fd,F,b,kp,m⟩:=G.ex
  have F:=F.mono hk
  refine wpAny_Call_Name_kw (zd0 I hg m ?_ hdb)
  have hA:=ha pos pins s σ H (fun vs H1=>∃ ds S1 ad1,f ds S1 Q0 (ex ρ)/\Wd ad H ad1 H1/\zR X.K ad1 H1 S1/\zJ X.K ad1 H1 ds vs) I ⟨ad,ρ,S,_,st,rh,q,fun ds S1 vs H1 ad1 q1 w1 st1 r1=>⟨ds,S1,ad1,q1,w1,st1,r1⟩⟩
  refine PySem.W.callWith_K (h₀:=X.base) I.ok.mod.kin kp (thn hA fun us s1 ⟨vs,H1,I1,r,q1⟩=>⟨I1.kIn,?_⟩) he hpl
  obtain⟨ds,S1,ad1,q1,w1,st1,r1⟩:=q1
  have hsp:zbT X.K f vs H1 Q (fun cls _ H'=>∃ c C S' ad',cls=Value.ref C/\ex ρ c S'/\zR X.K ad' H' S'/\Wd ad1 H1 ad' H'/\PySem.W.nsIn X.K mainGlobals c=some (some (.ref C))) :=
   ⟨ad1,S1,ds,Q0,ex ρ,st1.base,r1,q1,(kk.wd w1).base st1,fun c C S' ad' H' hx st' hn=>⟨c,C,S',ad',rfl,hx,st1.back st',@zR.wd ⟨ad1,H1⟩ _ _ _ _ st',hn⟩⟩
  have hl:us.length=ps.length:=by rw [<- r.length];exact F.len _ _ _ _ hsp
  refine wpAny_call (codeAny_mono (F.run X.A X.stack s1 H1 ⟨us,[]⟩ us vs Q _ hr I1.env0 (by have:=b s1 us I1.kIn (by rw [List.append_nil];exact hl);rwa [List.append_nil] at this) r hsp) fun res s' hq=>?_)
  cases res with
  | error e =>
   obtain⟨a,C,H',rfl,os,bare,un,hok,fly,c,C',S',ad',hC,hx,st',wd',hn⟩:=hq
   cases hC
   exact hX pins σ H1 s1 s' ad1 ad' ρ S1 S' c C a H' I1 st1 (rh.wd w1) hx st' wd' hn os bare un hok fly
  | ok fl =>
   cases fl with
   | ret u=>exact I1.after hq
   | next=>exact False.elim hq
   | brk=>exact False.elim hq
   | cont=>exact False.elim hq
theorem zko:XOk X xF:=fun _ _ _ _ _ _ _ _ _ _ _ _ _ _ _ _ _ h=>h.elim
structure ExC (K:PySem.W.Frag)(C:Addr):Prop where
 ex:∃ nm q N bs bm hdct sn sub ab col dd k0 k1 k2 k3 k5,K.lookup C=some (excClassObj nm q C N bs bm hdct sn sub ab col dd k0 k1 k2 k3 k5 "ValueError.__new__")/\PySem.W.nsOkIn K N=true/\PySem.W.nsIn K N "__init__"=some none /\
  PySem.W.tailIn K [.type "ValueError",.type "Exception",.type "BaseException",.type "object"] bm=true
theorem zeq {x:Str}{ex:XR}{np cpos pos:Pos}{e:Expr}{t:DA}(hX:XMk X ex)(hc:X.calm=true)(hC:∀ C,PySem.W.nsIn X.K mainGlobals x=some (some (.ref C))->ExC X.K C)(hx:∃ C,PySem.W.nsIn X.K mainGlobals x=some (some (.ref C))/\X.mg x=some (.ref C))(hg:Gl X x)
  (ha:PAD X [e] t) (ht:∀ ρ S Q,(∀ d,Q [d] S)->t ρ S Q) (hdb:(x==("__debug__":Str))=false:=by decide) (he:starEach [e] X.env=(false,eval e X.env)::starEach [] X.env:=by rfl) :
  PSD X (.Raise (some (.Call (.Name x np) [e] [] cpos)) none pos) (zeQ ex x):=by
 with_unfolding_all
  intro pins s σ H D I h
  obtain⟨ad,ρ,S,E0,st,rh,q,k⟩:=h
  obtain⟨C,hn,hm⟩:=hx
  obtain⟨nm,qn,N,bs,bm,hdct,sn,sub,ab,col,dd,k0,k1,k2,k3,k5,lk,no,ni,tl⟩:=(hC C hn).ex
  have kin:=I.kIn
  have T:=PySem.W.tail_of_in kin tl
  have hv:=ha cpos pins s σ H (fun vs H1=>vs.length=1/\∃ ad1,Wd ad H ad1 H1/\zR X.K ad1 H1 S) I ⟨ad,ρ,S,fun ds S'=>ds.length=1/\S'=S,st,rh,ht _ _ _ (fun d=>⟨rfl,rfl⟩),fun ds S' vs H' ad' e' w' st' r'=>⟨by rw [<- r'.length];exact e'.1,ad',w',e'.2▸st'⟩⟩
  refine wpAny_Raise_call_subT (C:=C) (nm:=nm) (q:=qn) (N:=N) (bs:=bs) (bm:=bm) (hdct:=hdct) (sn:=sn) (sub:=sub) (ab:=ab) (col:=col) (dd:=dd) (k0:=k0) (k1:=k1) (k2:=k2) (k3:=k3) (k5:=k5) PySem.F.excBase_ValueError (T.hasType PySem.F.excBase_ValueError.hasBase) (I.ok.hd hc) (by rw [he];rfl) (PySem.W.nsMap_none_of_in I.ok.mod.kin no ni) (zd0 I hg hm ⟨rfl,?_⟩ hdb)
  rw [he] at hv ⊢
  refine Calls.evalArgs_plain (wpAny_mono hv (fun us s1 hq=>?_) fun _ _ y=>y)
  obtain⟨vs,H1,I1,r,hl,ad1,w1,st1⟩:=hq
  have k1':=I1.kIn
  have hlen:us.length<=sizeLine:=by rw [<- r.length,hl];decide
  exact⟨rfl,hlen,k1' _ _ lk,(Heap.Ns.of_isNs (PySem.W.isNs_of_in I.ok.mod.kin no)).keeps I1.bk,PySem.W.tail_of_in k1' tl,fun h' e' hx=>hX pins σ H1 s1 ad1 ρ S x C e' us h' I1 st1 (rh.wd w1) q hn hx⟩
omit B in
theorem zck {P:Program}{w:World}{K:PySem.W.Frag}{mg:Str->Option Value}{base:Heap}{x qual:Str}{st:Stmt}{f:Addr}{fd:FuncData}{N ps:List Str}{k:Nat}{sp:zdk}{b:XR->DS}(F:Fun K x qual st f fd)(S:zP N ps (zK st))
  (len:∀ ds So Q ex,sp ds So Q ex->ds.length=ps.length) (body:zco N.length b sp)
  (term:∀ (cdv:Value) (A:Around) (outer:List Env) (s:Shared) (H:Hp) (E:XK),zaM k (A.deeper (envOfC qual (zK st) s.heap.objs.size f cdv))->∀ [Bs] (ex:XR),XOk (zfx (CXd P w) P w K mg base N qual (zK st) f cdv A outer s H E) ex->XMk (zfx (CXd P w) P w K mg base N qual (zK st) f cdv A outer s H E) ex->zez (zfx (CXd P w) P w K mg base N qual (zK st) f cdv A outer s H E) (za4 st) (b ex)) :
  zX P w K mg base (CXd P w) (k+1) f fd ps (zbT K sp):=by
 with_unfolding_all
  obtain⟨oc,od,kV,doc,pm,an,cdv,ct,osl,rfl,lk,hcd⟩:=F.ex
  refine zqV lk hcd S (fun vs H Q E ⟨ad,So,ds,Q0,X0,so,r,hf,kk,kx⟩=>by rw [<- r.length];exact len ds So Q0 X0 hf) fun A outer s H vs Q E hr ⟨ad,So,ds,Q0,X0,so,r,hf,kk,kx⟩=>?_
  letI:Bs:=⟨ad,H⟩
  have end1:∀ (c:Str) (C a:Addr) (S':Sto) (ad':List Addr) (H':Hp) (s':Shared),X0 c S'->zR K ad' H' S'->PySem.W.nsIn K mainGlobals c=some (some (.ref C))->s'.os=s.os->AllBare s'.gens->Un (frs outer) [] H H' s.heap s'.heap->HOk P w H' s'.heap->Fly s.heap s'.heap a (.ref C) H'->CXd P w outer H s E (.ref a) s' :=
   fun c C a S' ad' H' s' hx st' hn o1 o2 o3 o4 o5=>⟨a,C,H',rfl,o1,o2,o3,o4,o5,kx c C S' ad' H' hx st' hn⟩
  refine⟨_,term cdv A outer s H E hr (fun _=>X0) ?_ ?_,ad,zet N.length ds,So,_,so,zkR N r,body ds So Q0 X0 hf,⟨fun ρ S' σ H' ad' q w' st' rh=>zi5 so kk .non S' .non H' ad' q w' st' .non,zi5 so kk,fun _ _ _ _ _ q=>q.elim,fun _ _ _ _ _ q=>q.elim⟩⟩
  ·intro pins σ H1 s1 s' ad1 ad' ρ S1 S' c C a H' I st1 rh hx st' wd' hn os bare un hok fly
   have I':=I.call' (ch:=[]) os un hok bare (fun b z=>absurd z (by simp))
   have f0:Fly s.heap s'.heap a (.ref C) H':=by
    obtain⟨g1,g2,a0,oe,vs,T,oT,ts,h1,h2,h3,h4,h5,h6⟩:=fly
    exact⟨zen I rfl g1,g2,a0,oe,vs,T,oT,ts,h1,h2,h3,h4,zen I rfl h5,h6⟩
   exact zo3 I' rfl rfl rfl f0 fun s'' o1 o2 o3 o4 o5=>end1 c C a S' ad' H' s'' hx st' hn o1 o2 o3 o4 o5
  ·intro pins σ H1 s1 ad1 ρ S1 c C e args h1 I st1 rh hx hn hmade
   exact zm4 I rfl rfl rfl hmade fun s'' o1 o2 o3 o4 o5=>end1 c C e S1 ad1 H1 s'' hx st1 hn o1 o2 o3 o4 o5
end
end Dp
namespace Dp
open PySem PySem.Spec PyProof.Rows L2 My
abbrev hand (X:Cx)(e:Addr):Cx:={ X with A:=X.A.mark (some (.ref e)),calm:=false,xe:=fun _ _=>False }
section
variable {X:Cx}{pins:List (Addr×Obj)}{σ:L2.St}{H H':Hp}{s s':Shared}
theorem zlw (I:L2.Inv X pins σ H s)(e:Addr):L2.Inv (hand X e) pins σ H s :=
 ⟨⟨I.ok.mod,I.ok.kind,I.ok.glob,I.ok.blt,I.ok.above,I.ok.inj,I.ok.has,I.ok.cab,(fun z=>nomatch z),I.ok.frames,I.ok.stk,I.ok.exf,I.ok.bs,I.ok.bsz,I.ok.noex,I.ok.exfs,I.ok.funs,I.ok.frf⟩,I.os,I.bare,I.base,I.loc,I.cell,I.free,I.freeC,I.pin,I.hok,I.len⟩
theorem ziT {e:Addr}(hd:X.calm=true->X.A.handled=none)(I:L2.Inv (hand X e) pins σ H s):L2.Inv X pins σ H s :=
 ⟨⟨I.ok.mod,I.ok.kind,I.ok.glob,I.ok.blt,I.ok.above,I.ok.inj,I.ok.has,I.ok.cab,hd,I.ok.frames,I.ok.stk,I.ok.exf,I.ok.bs,I.ok.bsz,I.ok.noex,I.ok.exfs,I.ok.funs,I.ok.frf⟩,I.os,I.bare,I.base,I.loc,I.cell,I.free,I.freeC,I.pin,I.hok,I.len⟩
theorem zmu (I:L2.Inv X pins σ H s)(un:Un (frs X.stack) [] H H' s.heap s'.heap)(hok:HOk X.prog X.w H' s'.heap){e T:Addr}{h2:Heap}{oe:Obj}(he:s.heap.get? e=none)(hT:s.heap.get? T=none)(He:H' e=none)(HT:H' T=none)
  (stkF:∀ b∈frs X.stack,H' b=none)
  (hk:∀ b o,s'.heap.get? b=some o->b≠e->b≠T->b∉frs X.stack->h2.get? b=some o) (hs:∀ b∈frs X.stack,∀ o,s'.heap.get? b=some o->∃ sl,h2.get? b=some { o with slots:=sl }) (hoe:h2.get? e=some oe) :
  Un (frs X.stack) [] H (upd H' e (.frz oe (.ext fun _=>True))) s.heap h2/\HOk X.prog X.w (upd H' e (.frz oe (.ext fun _=>True))) h2:=by
 have ne:∀ {b:Addr} {o:Obj},s.heap.get? b=some o->b≠e/\b≠T:=fun {b o} q=>⟨fun z=>(by rw [z,he] at q;cases q),fun z=>(by rw [z,hT] at q;cases q)⟩
 have ne':∀ {b:Addr} {u:HO},H' b=some u->b≠e:=fun {b u} q z=>by rw [z,He] at q;cases q
 refine⟨⟨fun b o q n m x=>?_,fun b o q n m x=>?_,fun b o q n x=>?_,fun b o q x=>?_,fun b xs q=>?_,fun b o u q=>?_,fun b ps q=>?_⟩,fun a o q=>?_⟩
 ·exact hk b o (un.keep b o q n m x) (ne q).1 (ne q).2 m
 ·obtain⟨sl,h1⟩:=un.slot b o q n m x
  obtain⟨sl',h3⟩:=hs b m _ h1
  exact⟨sl',h3⟩
 ·rw [zW (ne q).1];exact un.free b o q n x
 ·obtain⟨o',h1⟩:=un.there b o q x
  by_cases m:b∈frs X.stack
  ·obtain⟨sl,h3⟩:=hs b m o' h1
   exact⟨_,h3⟩
  ·exact⟨o',hk b o' h1 (ne q).1 (ne q).2 m⟩
 ·have:=un.tups b xs q
  rw [zW (ne' this)];exact this
 ·have:=un.frzs b o u q
  rw [zW (ne' this)];exact this
 ·obtain⟨more,h1⟩:=un.tbls b ps q
  exact⟨more,by rw [zW (ne' h1)];exact h1⟩
 ·by_cases ha:a=e
  ·subst ha
   rw [zaF] at q
   cases q
   exact⟨hoe,True.intro,⟨oe,hoe⟩,fun _ _ _ _=>True.intro⟩
  ·rw [zW ha] at q
   refine (hok a o q).stay (fun b u hb r=>?_) (fun b r=>by rw [zW (ne' r)];exact r) fun b xs r=>by rw [zW (ne' r)];exact r
   have n:H' b≠none:=by
    rcases hb with rfl | hb
    ·rw [q];exact Option.some_ne_none _
    ·rw [hb];exact Option.some_ne_none _
   exact hk b u r (fun z=>n (by rw [z];exact He)) (fun z=>n (by rw [z];exact HT)) (fun z=>n (stkF b z))
theorem name_goes {M:Model}{A:Around}{E:Value->Shared->Prop}{i:Nat}{x:Str}{pos:Pos}{Q:Unit->Shared->Prop}(I:L2.Inv X pins σ H s)(hN:X.N.Nodup)(hi:X.N[i]?=some x)(hx:X.env.scope.names.lookup x=some .local)
    (h:∀ s',L2.Inv X pins (σ.set i none) H s'->Q () s'):wpAny M A (do bindName X.env x .none;unbindBehindTheSuite X.env x pos) Q E s:=by
  obtain⟨m,hn,hl⟩:=id I.loc
  have lo:∀ {b:Addr} {o:Obj},X.s₀.heap.get? b=some o->b≠X.env.locals:=fun {b o} e=>Nat.ne_of_lt (Nat.lt_of_lt_of_le (Heap.lt_size e) I.ok.above)
  refine wpAny_nameGoes_keeps hx hn (by rw [I.ok.kind];rfl) fun h' v hn' hs=>h _ ⟨I.ok,I.os,I.bare,⟨fun b o e n hb hx=>(hs.2 b (lo e)).trans (I.base.keep b o e n hb hx),fun b o e n hb hx=>?_,I.base.free,fun b o e hx=>?_,I.base.tups,I.base.frzs,I.base.tbls⟩,⟨_,hn',fun j y w e1 e2 e3=>?_⟩,fun y c e=>?_,I.free,I.freeC,fun p hp=>?_,fun a o e=>?_,?_⟩
  · obtain⟨sl,e1⟩:=I.base.slot b o e n hb hx
    exact⟨sl,(hs.2 b (lo e)).trans e1⟩
  · obtain⟨o',e1⟩:=I.base.there b o e hx
    exact⟨o',(hs.2 b (lo e)).trans e1⟩
  · have hj : j ≠ i := fun z => by
      subst z
      rw [List.getElem?_set] at e2
      split at e2
      · split at e2<;>cases e2
      · exact absurd rfl ‹_›
    rw [List.getElem?_set_ne (Ne.symm hj)] at e2
    obtain⟨u',r',q⟩:=hl j y w e1 e2 e3
    refine⟨u',r',?_⟩
    rcases q with ⟨k,e⟩ | ⟨k,c,e,z⟩
    · refine .inl ⟨k,?_⟩
      have:y≠x:=fun e=>hj (zh9 hN e1 (e▸hi))
      simp [this,e]
    · exact .inr ⟨k,c,e,z.sameBut hs (I.cne y c e)⟩
  · obtain⟨w,z⟩:=I.cell y c e
    exact⟨w,z.sameBut hs (I.cne y c e)⟩
  · obtain⟨e,n,ne,nf,d⟩:=I.pin p hp
    exact⟨(hs.2 p.1 ne).trans e,n,ne,nf,d⟩
  · refine (I.hok a o e).stay (fun c w hc q=>(hs.2 c ?_).trans q) (fun _ q=>q) fun _ _ q=>q
    rintro rfl
    rcases hc with rfl | hc
    · rw [I.free] at e;cases e
    · rw [I.free] at hc;cases hc
  · rw [List.length_set];exact I.len
variable [B:Bs]
theorem zar.unset {K:PySem.W.Frag}{ad:List Addr}{H:Hp}{ρ:Rho}{σ:L2.St}(h:zar K ad H ρ σ)(i:Nat):zar K ad H (ρ.set i none) (σ.set i none):=by
  refine⟨by rw [List.length_set,List.length_set];exact h.len,fun j d e=>?_⟩
  rw [List.getElem?_set] at e
  split at e
  · split at e<;>cases e
  · rename_i hj
    obtain⟨v,ev,r⟩:=h.val j d e
    exact⟨v,by rw [List.getElem?_set_ne hj];exact ev,r⟩
abbrev zng (X:Cx)(xe:Value->Shared->Prop)(pn:List (Addr×Obj)):Cx:={ X with xe:=xe,pn:=pn }
omit B in
theorem zrX (I:L2.Inv X pins σ H s)(xe:Value->Shared->Prop):L2.Inv (zng X xe (X.pn++pins)) [] σ H s :=
 ⟨⟨I.ok.mod,I.ok.kind,I.ok.glob,I.ok.blt,I.ok.above,I.ok.inj,I.ok.has,I.ok.cab,I.ok.hd,I.ok.frames,I.ok.stk,I.ok.exf,I.ok.bs,I.ok.bsz,I.ok.noex,I.ok.exfs,I.ok.funs,I.ok.frf⟩,I.os,I.bare,I.base,I.loc,I.cell,I.free,I.freeC,fun p hp=>I.pin p (by rwa [List.append_nil] at hp),I.hok,I.len⟩
omit B in
theorem zel {xe:Value->Shared->Prop}{pins':List (Addr×Obj)}(I:L2.Inv (zng X xe (X.pn++pins)) pins' σ H s):L2.Inv X pins σ H s :=
 ⟨⟨I.ok.mod,I.ok.kind,I.ok.glob,I.ok.blt,I.ok.above,I.ok.inj,I.ok.has,I.ok.cab,I.ok.hd,I.ok.frames,I.ok.stk,I.ok.exf,I.ok.bs,I.ok.bsz,I.ok.noex,I.ok.exfs,I.ok.funs,I.ok.frf⟩,I.os,I.bare,I.base,I.loc,I.cell,I.free,I.freeC,fun p hp=>I.pin p (List.mem_append_left _ hp),I.hok,I.len⟩
theorem zes.base {K:PySem.W.Frag}{ad:List Addr}{H:Hp}{S:Sto}{E0:zkt}{E:Ends}(st:zR K ad H S)(k:zes K ad H E0 E):@zes ⟨ad,H⟩ K ad H E0 E :=
 @zes.mk ⟨ad,H⟩ _ _ _ _ _ (fun ρ S σ H' ad' q w st' r=>k.nx ρ S σ H' ad' q w (st.back st') r) (k.rt.base st) (fun ρ S σ H' ad' q w st' r=>k.bk ρ S σ H' ad' q w (st.back st') r) (fun ρ S σ H' ad' q w st' r=>k.ct ρ S σ H' ad' q w (st.back st') r)
theorem zrV {i:Nat}{x cls:Str}{ok:List Str}{b:XR->DS}{h:DS}{body:List Stmt}{b0:Stmt}{suite:List Stmt}{np hpos pos:Pos}(hst:X.stack=X.env::X.outer)(hfr:X.env.frame=some X.env.locals)(hN:X.N.Nodup)(hi:X.N[i]?=some x)(hx:X.env.scope.names.lookup x=some .local)(hg:Gl X cls)
  (hcls:∃ Cc,X.mg cls=some (.ref Cc)/\∀ c C,ok.contains c=true->PySem.W.nsIn X.K mainGlobals c=some (some (.ref C))->PySem.W.exmOne X.K (.ref C) (.ref Cc)=some true)
  (hb:∀ [Bs] (xe:Value->Shared->Prop) (pn:List (Addr×Obj)) (ex:XR),XOk (zng X xe pn) ex->zez (zng X xe pn) body (b ex)) (hh:∀ e,zez (hand X e) (b0::suite) h) (hdb:(cls==("__debug__":Str))=false:=by decide) :
  PSD X (.Try body [.ExceptHandler (some (.Name cls np)) (some x) (b0::suite) hpos] [] [] pos) (zp4 i ok b h):=by
 with_unfolding_all
  intro pins s σ H D I hq
  obtain⟨ad,ρ,S,E0,st,rh,q,k⟩:=hq
  obtain⟨Cc,hm,hexm⟩:=hcls
  refine wpAny_Try_except ?_
  have hbody:=@hb ⟨ad,H⟩ (fun e s₁=>wpAny (model X.prog X.w) X.A (noteFrame e X.env) (fun _ s₂=>wpAny (model X.prog X.w) X.A (setFlight e none) (fun _ s₃=>wpAny (model X.prog X.w) X.A (handleBy e X.env [.ExceptHandler (some (.Name cls np)) (some x) (b0::suite) hpos]) (SP X pins D) X.xe s₃) X.xe s₂) X.xe s₁) (X.pn++pins)
   (fun ρ' c S'=>ok.contains c=true/\h { nx:=fun ρ2 S2=>E0.nx (ρ2.set i none) S2,rt:=E0.rt,bk:=fun _ _=>False,ct:=fun _ _=>False } (ρ'.set i (some (.exn c))) S') ?hX
  ·refine wpAny_mono (hbody [] s σ H D (zrX I _) ⟨ad,ρ,S,E0,st.base,rh,q,k.base st⟩) (fun f s₁ hf=>?_) fun _ _ z=>z
   cases f with
   | next=>obtain⟨σ',H',I',q'⟩:=hf;exact wpAny_execs_nil ⟨σ',H',zel I',q'⟩
   | brk=>obtain⟨σ',H',I',q'⟩:=hf;exact⟨σ',H',zel I',q'⟩
   | cont=>obtain⟨σ',H',I',q'⟩:=hf;exact⟨σ',H',zel I',q'⟩
   | ret u=>obtain⟨v,σ',H',I',r,q'⟩:=hf;exact⟨v,σ',H',zel I',r,q'⟩
  intro pins' σ1 H1 s1 s' ad1 ad' ρ1 S1 S' c C a H' I1 st1 rh1 hx' st' wd' hn os bare un hok fly
  obtain⟨hok',hh'⟩:=hx'
  obtain⟨he,He,a0,oe,vs,T,oT,ts,f1,f2,f3,f4,f5,f6,f7,f8,f9,HT⟩:=fly
  have I0:L2.Inv X pins σ1 H1 s1:=zel I1
  have nil0:∀ b∈([]:List Addr),(b∈X.ex\/X.s₀.heap.objs.size<=b)/\b≠X.env.locals/\(∀ x c,X.env.cells.lookup x=some c->c≠b)/\∀ p∈X.pn++pins,p.1≠b:=fun b z=>absurd z (by simp)
  have I':=I0.call' (ch:=[]) os un hok bare nil0
  have ff:s'.heap.FunFrames X.base X.stack:=I'.stack
  obtain⟨p,hp⟩:∃ p:Addr->Bool,∀ b,p b=true↔b≠a/\b≠T/\b∉frs X.stack:=⟨fun b=>decide (b≠a/\b≠T/\b∉frs X.stack),fun b=>decide_eq_true_iff⟩
  have mno:∀ {b:Addr},¬ (b≠a/\b≠T/\b∉frs X.stack)->(zbY s'.heap p).get? b=none:=fun {b} n=>by
   rw [zdo,if_neg (fun z=>n ((hp b).mp z))]
  have myes:∀ {b:Addr} {o:Obj},s'.heap.get? b=some o->b≠a->b≠T->b∉frs X.stack->(zbY s'.heap p).get? b=some o:=fun {b o} q n1 n2 n3=>by
   rw [zdo,if_pos ((hp b).mpr ⟨n1,n2,n3⟩)];exact q
  have fb:s'.heap.FunFrames (zbY s'.heap p) X.stack:=zhB ff fun L hL=>mno fun z=>z.2.2 hL
  have fl:Heap.FlyingW (zbY s'.heap p) X.stack a (.ref C) a0 s'.heap:=⟨zgl _ _,mno fun z=>z.1 rfl,fb,oe,vs,T,oT,ts,f1,f2,f3,f4,mno fun z=>z.2.1 rfl,f6,f7,f8,f9⟩
  have fr:=I.ok.frames
  rw [hst] at fr
  rw [hst] at fl
  have keep:∀ {h2:Heap},(zbY s'.heap p).StaysIn h2->∀ b o,s'.heap.get? b=some o->b≠a->b≠T->b∉frs X.stack->h2.get? b=some o:=fun {h2} k1 b o q n1 n2 n3=>k1 b o (myes q n1 n2 n3)
  have slot:∀ {h2:Heap},s'.heap.UpToSlots h2->∀ b∈frs X.stack,∀ o,s'.heap.get? b=some o->∃ sl,h2.get? b=some { o with slots:=sl }:=fun {h2} us b hb o q=>by
   obtain⟨_,o',h1,h2⟩:=ff.mem hb
   rw [q] at h1;cases h1
   exact us b o q h2
  show wpAny (model X.prog X.w) X.A (noteFrame (.ref a) X.env) _ _ s'
  refine wpAny_looks_onW fr hfr fl fun h1 hheld us1=>?_
  refine wpAny_landsW hheld fun h2 hfl2 us2=>?_
  obtain⟨k1,k2,k3,k4⟩:=id hfl2
  obtain⟨oe2,vs2,T2,oT2,ts2,g1,g2,_⟩:=id k4
  obtain⟨u2,hok2⟩:=zmu I0 un hok he f5 He HT I'.stkFree (keep k1) (slot (us1.trans us2)) g1
  have I2:=I0.call' (s':={ s' with heap:=h2 }) (ch:=[]) os u2 hok2 bare nil0
  refine wpAny_handleBy_cons (codeAny_handlers_test (zd0 (zlw I2 a) hg hm ?_ hdb)) (by intro z;cases z)
  have LT:PySem.W.Looks (model X.prog X.w) h2 (typeOf (.ref a)) (.ref C):=g2.1▸(PySem.W.Looks.ld g1).andThen .now
  refine (PySem.W.exm_one (h:=h2) I2.kIn LT (hexm c C hok' hn)).here ?_
  refine codeAny_handlers_suite_as ?_
  refine wpAny_setFlight_noneW k1 k3 k4.at fun h3 b1 b2 b3 b4=>?_
  obtain⟨oe3,vs3,T3,oT3,ts3,e1,e2,_⟩:=id b3
  have us3:s'.heap.UpToSlots h3:=fun b o q n=>by
   obtain⟨sl,z⟩:=us1.trans us2 b o q n
   exact⟨sl,b4 b _ z n⟩
  obtain⟨u3,hok3⟩:=zmu I0 un hok he f5 He HT I'.stkFree (keep b1) (slot us3) e1
  have I3:=I0.call' (s':={ s' with heap:=h3 }) (ch:=[]) os u3 hok3 bare nil0
  refine zd5 I3 hN hi (.inl hx) (show RelV (.ref a) (.ref a) from rfl) (fun s4 I4=>?_) (.inr hx)
  have wd0:Wd ad H ad' H':=@zR.wd ⟨ad,H⟩ _ _ _ _ st'
  have st3:zR X.K ad' (upd H' a (.frz oe3 (.ext fun _=>True))) S':=(st.back st').laid He
  have w3:Wd ad' H' ad' (upd H' a (.frz oe3 (.ext fun _=>True))):=Wd.laid He
  have rho:zar X.K ad' (upd H' a (.frz oe3 (.ext fun _=>True))) (ρ1.set i (some (.exn c))) (σ1.set i (some (.ref a))):=((rh1.wd wd').wd w3).set (.exn zaF e2.1 hn) i
  have wAll:=wd0.trans w3
  have hs:=hh a pins s4 _ _ { nx:=fun σ2 H2=>D.nx (σ2.set i none) H2,rt:=D.rt,bk:=fun _ _=>False,ct:=fun _ _=>False } (zlw I4 a) ⟨ad',_,S',_,st3,rho,hh',⟨fun ρ2 S2 σ2 H2 ad2 q2 w2 st2 rh2=>k.nx (ρ2.set i none) S2 (σ2.set i none) H2 ad2 q2 (wAll.trans w2) st2 (rh2.unset i),k.rt.wd wAll,fun _ _ _ _ _ z=>z.elim,fun _ _ _ _ _ z=>z.elim⟩⟩
  refine wpAny_mono hs (fun f s5 hf=>?_) fun _ _ z=>z.elim
  cases f with
  | next=>obtain⟨σ5,H5,I5,q5⟩:=hf;exact name_goes (ziT I.ok.hd I5) hN hi hx fun s6 I6=>⟨_,H5,I6,q5⟩
  | brk=>obtain⟨_,_,_,z⟩:=hf;exact z.elim
  | cont=>obtain⟨_,_,_,z⟩:=hf;exact z.elim
  | ret u=>obtain⟨v,σ5,H5,I5,r5,q5⟩:=hf;exact name_goes (ziT I.ok.hd I5) hN hi hx fun s6 I6=>⟨v,_,H5,I6,r5,q5⟩
end
end Dp
namespace Dp
open PySem PySem.Spec PyProof.Rows L2 My
structure IsC (K:PySem.W.Frag)(C:Addr):Prop where
 ga:PySem.W.findIn K (.ref C) "__getattribute__"=some (some (.builtin "BaseException.__getattribute__"))
 hk:PySem.W.findIn K (.ref C) "__getattr__"=some none
 cl:PySem.W.findIn K (.ref C) "__class__"=some (some (.builtin "object.__class__"))
 mo:PySem.W.mroIn K C (.type "object")=some true
 mb:PySem.W.mroIn K C (.type "BaseException")=some true
section
open PySem.W PySem.Builtin PySem.Builtin.ObjectAttr PySem.Builtin.Getset_descriptor
variable {prog:Program}{w:World}{A:Around}{E:Value->Shared->Prop}{s:Shared}{K:Frag}{x C:Addr}{o:Obj}
theorem zqu {M:Model}{h:Heap}(X:K.In h)(I:IsC K C):Looks M h (find (.ref x) (.ref C) "__class__") (.bind (.builtin "getset_descriptor.__get__") (.builtin "object.__class__")):=by
 have L1:=looks_findIn (M:=M) X I.cl
 have L2:=looks_specialIn (M:=M) (v:=.builtin "object.__class__") (name:="__get__") (r:=some (.builtin "getset_descriptor.__get__")) X (by rfl)
 have L3:=looks_takesIn (M:=M) (a:=.builtin "object.__class__") (r:=true) X (by rfl)
 have L2':Looks M h (getOf (some (.builtin "object.__class__"))) (some (.builtin "getset_descriptor.__get__")):=L2
 have L3':Looks M h (dataDescriptor? (some (.builtin "object.__class__")) (some (.builtin "getset_descriptor.__get__"))) (some (.builtin "getset_descriptor.__get__",.builtin "object.__class__")):=L3.andThen .now
 exact L1.andThen (L2'.andThen (L3'.andThen (Looks.tag .now)))
theorem zss {tp:Value}{R:Result->Shared->Prop}(X:K.In s.heap)(I:IsC K C)(hx:s.heap.get? x=some o)(hc:o.cls=.ref C)(h:R (.ok (.ret (.ref C))) s) :
  codeAny (model prog w) A (.call (.builtin "getset_descriptor.__get__") ⟨[.builtin "object.__class__",.ref x,tp],[]⟩) R s:=by
 obtain⟨hh,g,dr,t,os⟩:=s
 have L0:Looks (model prog w) hh (typeOf (.ref x)) (.ref C):=hc▸(Looks.ld hx).andThen .now
 have L1:=looks_mroIn (M:=model prog w) X I.mo
 refine codeAny_call_builtin KF.slot_gs.plain KF.entry_gs (KF.slot_gs.check _ _ _ _ _ _ _ _ KF.type_class (KF.args_gs _ _ _) ?_)
 unfold Builtin.«getset_descriptor.__get__» descrGet
 rw [dga_obj]
 refine wpAny_bind (wpAny_pure ?_)
 unfold descrGetter descrCheckInstance descrNameAndClass isInstance
 simp only [KF.owner_class]
 repeat lk
 refine⟨Code.quiet_builtin _ (by decide +kernel),codeAny_builtin KF.entry_class ?_⟩
 unfold Builtin.«object.__class__» shownTypeOf
 repeat lk
 exact h
theorem znI {M:Model}{nameV:Value}{Q:Unit->Shared->Prop}(X:K.In s.heap)(I:IsC K C)(hx:s.heap.get? x=some o)(hc:o.cls=.ref C)(hq:Q () s):wpAny M A (checkBuiltinCall "BaseException.__getattribute__" ⟨[.ref x,nameV],[]⟩) Q E s:=by
  obtain⟨hh,g,dr,t,os⟩:=s
  have L0:Looks M hh (typeOf (.ref x)) (.ref C):=hc▸(Looks.ld hx).andThen .now
  have L1:=looks_mroIn (M:=M) X I.mb
  have hk:builtinKind "BaseException.__getattribute__"=some .slot:=by decide +kernel
  have hsplit:splitId "BaseException.__getattribute__"=some ("BaseException","__getattribute__"):=by decide +kernel
  have ha:=F.args_bexc_ga (.ref x) nameV
  simp only [checkBuiltinCall,hk,hsplit]
  refine wpAny_bind ((show Looks M hh (isInstance (.ref x) (.type "BaseException")) true from L0.andThen L1).at ?_)
  repeat (first | wp_step)
  exact hq
theorem zpS {Q:Option Value->Shared->Prop}(X:K.In s.heap)(I:IsC K C)(hx:s.heap.get? x=some o)(hc:o.cls=.ref C)(h:Q (some (.ref C)) { s with toks:=s.toks+1 }):wpAny (model prog w) A (getAttr? (.ref x) "__class__") Q E s:=by
 obtain⟨hh,g,d,t,os⟩:=s
 have L0:Looks (model prog w) hh (typeOf (.ref x)) (.ref C):=hc▸(Looks.ld hx).andThen .now
 have L1:=looks_findIn (M:=model prog w) X I.ga
 have L2:=looks_findIn (M:=model prog w) X I.hk
 have L3:=zqu (M:=model prog w) (x:=x) X I
 unfold getAttr? getAttrBy? getAttrBy
 refine wpAny_bind (wpAny_mkText (wpAny_bind (wpAny_attempt (wpAny_holding (wpAny_bind (L0.at (wpAny_bind (L1.at ?_))))))))
 show wpAny _ _ (getAttrByItsOwn _ _ _ _ _ _) _ _ _
 unfold getAttrByItsOwn
 refine wpAny_bind (L2.at (wpAny_bind (wpAny_attempt (wpAny_holding ?_))))
 show wpAny _ _ (boundAndCalled _ _ _) _ _ _
 unfold boundAndCalled
 rw [F.excAttr_ValueError.ga.bind (.ref x)]
 refine wpAny_bind (wpAny_pure ?_)
 refine wpAny_call (codeAny_call_builtin F.excAttr_ValueError.ga.plain F.entry_bexc_ga (znI (s:=⟨hh,g,d,t+1,os⟩) X I hx hc ?_))
 unfold Builtin.«object.__getattribute__»
 refine wpAny_bind (wpAny_pure (wpAny_bind (wpAny_pure (wpAny_bind (L0.at (wpAny_bind (L3.at ?_)))))))
 show wpAny _ _ (bindTo _ _ _ _) _ _ _
 unfold bindTo
 refine wpAny_bind (wpAny_holding (wpAny_call (zss (s:=⟨hh,g,d,t+1,os⟩) X I hx hc ?_)))
 refine wpAny_pure ?_
 exact handed_on rfl (wpAny_pure h)
theorem zqd (I:IsC K C):KitX K (.ref x) (.ref C) (fun h=>∃ o,h.get? x=some o/\o.cls=.ref C):=by
  obtain⟨cdD,hcD,_⟩:=Option.bind_eq_some_iff.mp I.mo
  unfold clsIn at hcD
  split at hcD
  · rename_i c' d' cd' sl' ho
    exact
      { ty:=fun M h _ ⟨o,h1,h2⟩=>h2▸(Looks.ld h1).andThen .now
        it:=fun _ _ X _=>by
          intro A' Q' E' s' k q
          unfold isType loadHead
          exact wpAny_bind (wpAny_loadPart (k _ _ (X _ _ ho)) (wpAny_pure q))
        ne:=fun h tp dd its n sl X htp=>by
          refine Bool.eq_false_iff.mpr fun q=>?_
          have e:C=tp:=Value.ref.inj (beq_iff_eq.mp q)
          subst e
          have z:=(X _ _ ho).symm.trans htp
          cases z
        ca:=fun X ⟨o,h1,h2⟩ k=>zpS X I h1 h2 k }
  · cases hcD
end
section
variable [B:Bs]{X:Cx}
def CV (X:Cx)(c:Str)(np:Pos)(cv:Value):Prop:=∀ (pins:List (Addr×Obj)) (σ:L2.St) (H:Hp) (s:Shared) (E:Value->Shared->Prop) (Q:Value->Shared->Prop),Inv X pins σ H s->Q cv s->wpAny (model X.prog X.w) X.A (eval (.Name c np) X.env) Q E s
omit B in
theorem zul {c:Str}{np:Pos}{C:Addr}(hg:Gl X c)(hm:X.mg c=some (.ref C))(hd:(c==("__debug__":Str))=false:=by decide):CV X c np (.ref C):=fun _ _ _ _ _ _ I q=>zd0 I hg hm q hd
omit B in
theorem zvF {c:Str}{np:Pos}{T:String}(hg:Gl X c)(hm:X.mg c=none)(hv:bootBuiltins c=some (.type T))(hn:c≠"__name__":=by decide)(hd:(c==("__debug__":Str))=false:=by decide):CV X c np (.type T):=fun _ _ _ _ _ _ I q=>zcw I hg hm hv q hn hd
theorem zoX {e:Expr}{t:DE}{p np pos:Pos}{c:Str}{cv:Value}{tbl:List (Str×Bool)}(hg:Gl X "isinstance")(hm:X.mg "isinstance"=none)(he:PD X e t)(hc:CV X c np cv)
  (ht:∀ c' b C,tbl.lookup c'=some b->PySem.W.nsIn X.K mainGlobals c'=some (some (.ref C))->IsC X.K C/\PySem.W.kitOne X.K (.ref C) cv=some b)
  (hs:starEach [e,.Name c np] X.env=(false,eval e X.env)::starEach [.Name c np] X.env:=by rfl) (hpl:(backTo pos (starEach [.Name c np] X.env)).any (·.1)=false:=by rfl) :
  PD X (.Call (.Name "isinstance" p) [e,.Name c np] [] pos) (ziD tbl t):=by
 with_unfolding_all
  intro pins s σ H Q I h
  obtain⟨ad,ρ,S,Q0,st,rh,q,k⟩:=h
  refine wpAny_Call_Name_kw (zcw I hg hm boot_isinstance ?_)
  have hA:wpAny (model X.prog X.w) X.A (spliced (backTo pos (starEach [e,.Name c np] X.env))) (fun us s1=>∃ u,us=[u,cv]/\EP X pins σ (fun v H1=>∃ c' b ad1,Rel X.K ad1 H1 (.exn c') v/\tbl.lookup c'=some b/\Q (.bl b) H1) u s1) X.xe s:=by
   rw [hs]
   show wpAny _ _ (spliced ((false,eval e X.env)::backTo pos (starEach [.Name c np] X.env))) _ _ s
   have hv:=he pins s σ H (fun v H1=>∃ c' b ad1,Rel X.K ad1 H1 (.exn c') v/\tbl.lookup c'=some b/\Q (.bl b) H1) I ⟨ad,ρ,S,_,st,rh,q,fun x S1 v H1 ad1 ⟨c',b,ex,hl,q1⟩ w1 st1 r1=>⟨c',b,ad1,ex▸r1,hl,k _ S1 _ H1 ad1 q1 w1 st1 (.bl b)⟩⟩
   refine Calls.spliced_cons (thn hv fun u s1 hu=>?_)
   show wpAny _ _ (spliced ((false,eval (.Name c np) X.env)::[])) _ _ s1
   obtain⟨v,H1,I1,r1,q1⟩:=hu
   exact Calls.spliced_cons (hc pins σ H1 s1 _ _ I1 (Calls.spliced_nil ⟨u,rfl,v,H1,I1,r1,q1⟩))
  refine PyProof.Rows.callWith_builtin1 (thn hA fun us s1 hu=>?_) hs hpl
  obtain⟨u,rfl,v,H1,I1,r1,c',b,ad1,rel,hl,q1⟩:=hu
  cases rel with
  | exn ha hcl hn =>
   cases r1
   obtain⟨ic,ki⟩:=ht _ _ _ hl hn
   refine PySem.W.kia_one (zqd ic) I1.kIn ?_ ki (by intro z;cases z) fun tk=>⟨.bl b,H1,I1.tok _,rfl,q1⟩
   obtain⟨h1,_⟩:=I1.hok _ _ ha
   exact⟨_,h1,hcl⟩
theorem zl0 {e:Expr}{t:DE}{p np pos:Pos}{c:Str}{tbl:List (Str×Bool)}(hg:Gl X "isinstance")(hm:X.mg "isinstance"=none)(he:PD X e t)(hgc:Gl X c)
  (ht:∃ Cc,X.mg c=some (.ref Cc)/\∀ c' b C,tbl.lookup c'=some b->PySem.W.nsIn X.K mainGlobals c'=some (some (.ref C))->IsC X.K C/\PySem.W.kitOne X.K (.ref C) (.ref Cc)=some b) (hd:(c==("__debug__":Str))=false:=by decide)
  (hs:starEach [e,.Name c np] X.env=(false,eval e X.env)::starEach [.Name c np] X.env:=by rfl) (hpl:(backTo pos (starEach [.Name c np] X.env)).any (·.1)=false:=by rfl) :
  PD X (.Call (.Name "isinstance" p) [e,.Name c np] [] pos) (ziD tbl t):=by
 with_unfolding_all
  obtain⟨Cc,h1,h2⟩:=ht
  exact zoX hg hm he (zul hgc h1 hd) h2 hs hpl
theorem zrP {e:Expr}{t:DE}{p np pos:Pos}{c:Str}{T:String}{tbl:List (Str×Bool)}(hg:Gl X "isinstance")(hm:X.mg "isinstance"=none)(he:PD X e t)(hgc:Gl X c)
  (ht:X.mg c=none/\∀ c' b C,tbl.lookup c'=some b->PySem.W.nsIn X.K mainGlobals c'=some (some (.ref C))->IsC X.K C/\PySem.W.kitOne X.K (.ref C) (.type T)=some b) (hv:bootBuiltins c=some (.type T)) (hn:c≠"__name__":=by decide) (hd:(c==("__debug__":Str))=false:=by decide)
  (hs:starEach [e,.Name c np] X.env=(false,eval e X.env)::starEach [.Name c np] X.env:=by rfl) (hpl:(backTo pos (starEach [.Name c np] X.env)).any (·.1)=false:=by rfl) :
  PD X (.Call (.Name "isinstance" p) [e,.Name c np] [] pos) (ziD tbl t):=by with_unfolding_all exact (zoX hg hm he (zvF hgc ht.1 hv hn hd) ht.2 hs hpl)
end
def zk5 (K:PySem.W.Frag)(C:Addr):Bool:=match K.lookup C with
 | some ⟨.type "type",_,.cls cd,sl⟩=>(match cd.mro,sl.toList with
  | .ref C'::bm,[_,_,_,_,some (.builtin n),_]=>C'==C&&!cd.hasDel&&n=="ValueError.__new__"&&PySem.W.nsOkIn K cd.ns&&PySem.W.nsIn K cd.ns "__init__"==some none&&PySem.W.tailIn K [.type "ValueError",.type "Exception",.type "BaseException",.type "object"] bm
  | _,_=>false)
 | _=>false
theorem ExC.of {K:PySem.W.Frag}{C:Addr}(q:zk5 K C=true):ExC K C:=by
 unfold zk5 at q
 split at q
 ·rename_i dd cd sl ho
  split at q
  ·rename_i C' bm k0 k1 k2 k3 n k5 hm hs
   simp only [Bool.and_eq_true,beq_iff_eq,Bool.not_eq_true'] at q
   obtain⟨⟨⟨⟨⟨rfl,hdel⟩,rfl⟩,h1⟩,h2⟩,h3⟩:=q
   obtain⟨nm,bs,mro,ns,qn,hd,sn,sub,ab,col,del⟩:=cd
   dsimp only at hm hdel
   subst hm hdel
   have hsl:sl=#[k0,k1,k2,k3,some (.builtin "ValueError.__new__"),k5]:=by
    obtain⟨l⟩:=sl
    simp only at hs
    rw [hs]
   subst hsl
   exact⟨nm,qn,ns,bs,bm,hd,sn,sub,ab,col,dd,k0,k1,k2,k3,k5,ho,h1,h2,h3⟩
  ·cases q
 ·cases q
def isIn (K:PySem.W.Frag)(C:Addr):Bool:=PySem.W.findIn K (.ref C) "__getattribute__"==some (some (.builtin "BaseException.__getattribute__"))&&PySem.W.findIn K (.ref C) "__getattr__"==some none&&PySem.W.findIn K (.ref C) "__class__"==some (some (.builtin "object.__class__")) &&
 PySem.W.mroIn K C (.type "object")==some true&&PySem.W.mroIn K C (.type "BaseException")==some true
theorem IsC.of {K:PySem.W.Frag}{C:Addr}(q:isIn K C=true):IsC K C:=by
 unfold isIn at q
 simp only [Bool.and_eq_true,beq_iff_eq] at q
 exact⟨q.1.1.1.1,q.1.1.1.2,q.1.1.2,q.1.2,q.2⟩
theorem zb9 {a c:Str}{l:List Str}(h:(a::l).contains c=true):c=a\/l.contains c=true:=by
 rw [List.contains_cons,Bool.or_eq_true,beq_iff_eq] at h
 exact h
theorem zam {a c:Str}{b b':Bool}{l:List (Str×Bool)}(h:((a,b')::l).lookup c=some b):(c=a/\b'=b)\/l.lookup c=some b:=by
 rw [List.lookup_cons] at h
 split at h
 ·rename_i e
  exact .inl ⟨beq_iff_eq.mp e,Option.some.inj h⟩
 ·exact .inr h
end Dp
namespace Dp
open PySem PySem.Spec PyProof.Rows L2 My
section
variable {X:Cx}[B:Bs]
end
end Dp
namespace Dp
open PySem PySem.Spec PyProof.Rows L2 My
structure FH (K:PySem.W.Frag)(n:Str)(st:Stmt)(f:Addr)(fd:FuncData):Prop where
 a:PySem.W.nsIn K mainGlobals n=some (some (.ref f))
 F:Fun K n n st f fd
section
variable {K:PySem.W.Frag}{n:Str}{st:Stmt}{f:Addr}{fd:FuncData}{mg:Str->Option Value}{k:Nat}{h:Heap}{ps:List Str}{sp:Sp}
theorem zvg {oc:Value}{od an:Option Addr}{osl:Array (Option Value)}{kV doc pm cdv ct:Value}(a:PySem.W.nsIn K mainGlobals n=some (some (.ref f)))
  (l:K.lookup f=some ⟨oc,od,.func (PySem.W.fnOf n n (zbD st) (za4 st) (zK st) .none kV doc pm an cdv ct),osl⟩) (c:PySem.W.codeIn K cdv n=true) (k:PySem.W.keepIn K (.ref f)=true) :
  FH K n st f (PySem.W.fnOf n n (zbD st) (za4 st) (zK st) .none kV doc pm an cdv ct):=⟨a,ziX l c k⟩
theorem zad (P:Program)(w:World)(base:Heap)(X:K.In h)(G:h.Ns mainGlobals mg)(H:FH K n st f fd)(ok:zX P w K mg base CX0 k f fd ps sp)
  (b:∀ (kV doc pm:Value) (an:Option Addr) (cdv ct:Value) (us:List Value),us.length=ps.length->bindArgs (PySem.W.fnOf n n (zbD st) (za4 st) (zK st) .none kV doc pm an cdv ct) ⟨us,[]⟩=pure (ps.zip us):=by intro _ _ _ _ _ _ us hl;first | (obtain⟨_,e⟩:=zqK hl;subst e;rfl) | (obtain⟨_,_,e⟩:=zmV hl;subst e;rfl) | (obtain⟨_,_,_,e⟩:=zqJ hl;subst e;rfl) | (obtain⟨_,_,_,_,e⟩:=zqR hl;subst e;rfl) | (obtain⟨_,_,_,_,_,e⟩:=zqQ hl;subst e;rfl) | (obtain⟨_,_,_,_,_,_,e⟩:=len_6 hl;subst e;rfl) | (obtain⟨_,_,_,_,_,_,_,e⟩:=len_7 hl;subst e;rfl)):Got P w K mg base k n ps sp:=⟨⟨f,fd,ok,H.F.binds b,H.F.kp,PySem.W.mg_of X G H.a⟩⟩
theorem zcQ (P:Program)(w:World)(base:Heap)(X:K.In h)(G:h.Ns mainGlobals mg)(H:FH K n st f fd)(ok:zX P w K mg base (CXd P w) k f fd ps sp)
  (b:∀ (kV doc pm:Value) (an:Option Addr) (cdv ct:Value) (us:List Value),us.length=ps.length->bindArgs (PySem.W.fnOf n n (zbD st) (za4 st) (zK st) .none kV doc pm an cdv ct) ⟨us,[]⟩=pure (ps.zip us):=by intro _ _ _ _ _ _ us hl;first | (obtain⟨_,e⟩:=zqK hl;subst e;rfl) | (obtain⟨_,_,e⟩:=zmV hl;subst e;rfl) | (obtain⟨_,_,_,e⟩:=zqJ hl;subst e;rfl) | (obtain⟨_,_,_,_,e⟩:=zqR hl;subst e;rfl) | (obtain⟨_,_,_,_,_,e⟩:=zqQ hl;subst e;rfl) | (obtain⟨_,_,_,_,_,_,e⟩:=len_6 hl;subst e;rfl) | (obtain⟨_,_,_,_,_,_,_,e⟩:=len_7 hl;subst e;rfl)):zeU P w K mg base k n ps sp:=⟨⟨f,fd,ok,H.F.binds b,H.F.kp,PySem.W.mg_of X G H.a⟩⟩
end
section
variable {X:Cx}
theorem zm [B:Bs](i:Nat){x:Str}{pos:Pos}(hN:X.N[i]?=some x:=by rfl)(hv:L2.Vis X.env.scope x:=by first | exact Or.inl rfl | exact Or.inr (Or.inl rfl) | exact Or.inr (Or.inr rfl))(hd:(x==("__debug__":Str))=false:=by decide)(hcd:(x==("__classdict__":Str))=false:=by decide):PD X (.Name x pos) (zj i):=by with_unfolding_all exact (zi3 (zoB hN hv hd hcd))
theorem zU {N P:List Str}{sc:Scope}(h1:sc.kind=.function:=by rfl)(h2:sc.isCoroutine=false:=by rfl)(h3:sc.isGenerator=false:=by rfl)(h4:N.Nodup:=by decide +kernel)(h5:N.take P.length=P:=by rfl)(h6:∀ x∈P,sc.names.lookup x=some .local\/sc.names.lookup x=some .cell:=by decide +kernel)(h7:∀ y∈sc.names,y.2≠.free:=by decide +kernel):zP N P sc:=⟨h1,h2,h3,h4,h5,h6,h7⟩
end
end Dp
open PySem Dp
local macro_rules | `(tactic| walk_at "dat")=>`(tactic| first | assumption | exact zb5 | exact zhO | (refine (zaN _ _ _).trans ?_;exact rfl) | exact zaU (by assumption))
local macro_rules | `(tactic| walk_at "dlat")=>`(tactic| first | assumption | exact Lst.rl | exact Lst.at0 | exact Lst.new | (refine Lst.at ?_;exact rfl) | exact Lst.old (by assumption) | exact Lst.here (by assumption) | exact Lst.here (zaU (by assumption)))
local macro_rules | `(tactic| walk_at "dseq")=>`(tactic| first | exact Or.inl rfl | (refine Or.inr ?_;walk_at "dlat"))
local macro_rules | `(tactic| walk_at "dbd")=>`(tactic| first | assumption | exact My.Bd.mono (by assumption) (by decide) | exact My.Bd.lit (by decide) (by decide) | (refine My.Bd.add ?_ ?_<;>walk_at "dbd") | (refine My.Bd.sub ?_ ?_<;>walk_at "dbd") | (refine My.Bd.neg ?_;walk_at "dbd") | (refine My.Bd.mulH ?_ ?_<;>walk_at "dbd") | (refine My.Bd.emod (by omega) ?_;walk_at "dbd") | (refine My.Bd.ediv ?_;walk_at "dbd"))
local macro_rules | `(tactic| walk_at "dmul")=>`(tactic| first | assumption | exact Or.inr (Or.inl (by omega)) | exact Or.inr (Or.inr (by omega)) | exact Or.inl ⟨by walk_at "dbd",by walk_at "dbd"⟩)
local macro_rules | `(tactic| walk_at "ddiv")=>`(tactic| first | assumption | exact⟨by omega,by walk_at "dbd"⟩)
local macro_rules | `(tactic| walk_at "dr1")=>`(tactic| first
 | with_reducible refine Dp.znh ?_ | with_reducible refine Dp.zsM ?_ | with_reducible refine Dp.zu2 ?_ | with_reducible refine Dp.zup ?_ | with_reducible refine Dp.zqX ?_ | with_reducible refine Dp.zsk ?_ | with_reducible refine Dp.zuG ?_ | with_reducible refine Dp.r_tryN ?_ | with_reducible refine Dp.ztQ ?_ | with_reducible refine Dp.zqB ?_ | with_reducible refine Dp.zsV ?_ | with_reducible refine Dp.zuy ?_ | ((with_reducible refine Dp.zvn (l:=?rvx) ?rvk ?_);(case rvk=>walk_at "dat")) | ((with_reducible refine Dp.zpV (g:=?rv1) (b:=?rv2) (f:=?rv3) (h:=?rv4) (a:=?rv5) (l:=?rv6) (d:=?rv7) ?rvk ?_);(case rvk=>walk_at "dat")) | ((with_reducible refine Dp.zof (g:=?rv1) (b:=?rv2) (f:=?rv3) (h:=?rv4) (a:=?rv5) (l:=?rv6) (d:=?rv7) ?rvk ?_);(case rvk=>walk_at "dat")) | ((with_reducible refine Dp.ztZ (g:=?rv1) (b:=?rv2) (f:=?rv3) (h:=?rv4) (a:=?rv5) (l:=?rv6) (d:=?rv7) ?rvk ?_);(case rvk=>walk_at "dat")) | ((with_reducible refine Dp.ztw (g:=?rv1) (b:=?rv2) (f:=?rv3) (h:=?rv4) (a:=?rv5) (l:=?rv6) (d:=?rv7) ?rvk ?_);(case rvk=>walk_at "dat")) | ((with_reducible refine Dp.zrF (g:=?rv1) (b:=?rv2) (f:=?rv3) (h:=?rv4) (a:=?rv5) (l:=?rv6) (d:=?rv7) ?rvk ?_);(case rvk=>walk_at "dat")) | ((with_reducible refine Dp.ztf (g:=?rv1) (b:=?rv2) (f:=?rv3) (h:=?rv4) (a:=?rv5) (l:=?rv6) (d:=?rv7) ?rvk ?_);(case rvk=>walk_at "dat")) | ((with_reducible refine Dp.zra (g:=?rv1) (b:=?rv2) (f:=?rv3) (h:=?rv4) (a:=?rv5) (l:=?rv6) (d:=?rv7) ?rvk ?_);(case rvk=>walk_at "dat")) | with_reducible refine Dp.zws ?_ | with_reducible refine Dp.zq9 ?_
 | ((with_reducible refine Dp.zga (d:=?rvv) ?rvk ?_);(case rvk=>exact rfl)) | with_reducible refine Dp.r_c ?_ | with_reducible refine Dp.zmB ?_ | with_reducible refine Dp.zwH ?_
 | with_reducible refine Dp.zvS ?_ | with_reducible refine Dp.zvy ?_ | with_reducible refine Dp.o_notinS ?_ | with_reducible refine Dp.zvb ?_ | with_reducible refine Dp.zwu ?_ | with_reducible refine Dp.zv4 ?_ | with_reducible refine Dp.zwi ?_ | with_reducible refine Dp.zwd ?_ | with_reducible refine Dp.zuQ ?_ | with_reducible refine Dp.zuD ?_ | with_reducible refine Dp.o_eqB ?_ | with_reducible refine Dp.o_neB ?_ | with_reducible refine Dp.zvh ?_
 | ((with_reducible refine Dp.zuV ?rvk ?_);(case rvk=>walk_at "dmul")) | ((with_reducible refine Dp.zuO ?rvk ?_);(case rvk=>walk_at "ddiv")) | ((with_reducible refine Dp.zvK ?rvk ?_);(case rvk=>first | omega | assumption)) | ((with_reducible refine Dp.o_pow ?rvk ?_);(case rvk=>exact⟨by omega,by omega,by omega⟩))
 | ((with_reducible refine Dp.zvq (d:=?rvv) ?rvk ?_);(case rvk=>first | assumption | exact rfl)) | ((with_reducible refine Dp.zqy (xs:=?rvx) (d:=?rvv) ?rvl ?rvk ?_);(case rvl=>walk_at "dlat");(case rvk=>first | assumption | exact rfl))
 | with_reducible refine Dp.r_t ?_ | with_reducible refine Dp.zvZ ?_ | with_reducible refine Dp.zu0 ?_ | with_reducible refine Dp.zvL ?_ | with_reducible refine Dp.zwj ?_ | with_reducible refine Dp.zvH ?_ | with_reducible refine Dp.r_orV ?_ | with_reducible refine Dp.ztj ?_ | with_reducible refine Dp.ztK ?_ | with_reducible refine Dp.r_ifE ?_ | with_reducible refine Dp.zrK ?_
 | with_reducible refine Dp.zuI ?_ | with_reducible refine Dp.zkx ?_ | with_reducible refine Dp.zqZ ?_ | with_reducible refine Dp.zuS ?_ | ((with_reducible refine Dp.zuX ?rvk ?_);(case rvk=>exact rfl)) | with_reducible refine Dp.zsH ?_ | with_reducible refine Dp.zrx ?_ | with_reducible refine Dp.zvG ?_ | ((with_reducible refine Dp.zsE (b:=?rvv) ?rvk ?_);(case rvk=>exact rfl)) | with_reducible refine Dp.r_b ?_ | with_reducible refine Dp.r_m ?_ | ((with_reducible refine Dp.zuZ (ys:=?rvx) ?rvk ?_);(case rvk=>walk_at "dat"))
 | with_reducible refine Dp.zvf ?_ | with_reducible refine Dp.zvu ?_ | with_reducible refine Dp.zvd ?_ | with_reducible refine Dp.zvR ?_ | with_reducible refine Dp.zvs ?_ | with_reducible refine Dp.zf9 ?_ | with_reducible refine Dp.zqW ?_ | with_reducible refine Dp.zoa ?_ | with_reducible refine Dp.put_A1 ?_ | with_reducible refine Dp.put_A2 ?_ | with_reducible refine Dp.put_A3 ?_ | with_reducible refine Dp.zqz ?_ | with_reducible refine Dp.put_0 ?_
 | with_reducible refine Dp.zuE ?_ | with_reducible refine Dp.zuo ?_ | with_reducible refine Dp.zuv ?_ | with_reducible refine Dp.zub ?_ | ((with_reducible refine Dp.zsA (xs:=?rvx) ?rvl ?_);(case rvl=>walk_at "dlat")) | with_reducible refine Dp.b_intI ?_ | with_reducible refine Dp.b_intB ?_ | with_reducible refine Dp.b_boolI ?_ | with_reducible refine Dp.b_boolB ?_
 | with_reducible refine Dp.b_tupleT ?_ | ((with_reducible refine Dp.zpf (xs:=?rvx) ?rvl ?_);(case rvl=>walk_at "dlat")) | with_reducible refine Dp.b_listT ?_ | ((with_reducible refine Dp.zq4 (xs:=?rvx) ?rvl ?_);(case rvl=>walk_at "dlat")) | with_reducible refine Dp.zkk ?_ | with_reducible refine Dp.zjT ?_ | with_reducible refine Dp.b_isi_int_tuple ?_ | with_reducible refine Dp.b_isi_int_list ?_ | with_reducible refine Dp.b_isi_int_str ?_ | with_reducible refine Dp.b_isi_bl_int ?_ | with_reducible refine Dp.b_isi_bl_bool ?_ | with_reducible refine Dp.b_isi_bl_tuple ?_ | with_reducible refine Dp.b_isi_bl_list ?_ | with_reducible refine Dp.b_isi_bl_str ?_ | with_reducible refine Dp.b_isi_tup_int ?_ | with_reducible refine Dp.b_isi_tup_bool ?_ | with_reducible refine Dp.ziI ?_ | with_reducible refine Dp.b_isi_tup_list ?_ | with_reducible refine Dp.b_isi_tup_str ?_ | with_reducible refine Dp.b_isi_non_int ?_ | with_reducible refine Dp.b_isi_non_bool ?_ | with_reducible refine Dp.b_isi_non_tuple ?_ | with_reducible refine Dp.b_isi_non_list ?_ | with_reducible refine Dp.b_isi_non_str ?_ | with_reducible refine Dp.b_isi_str_int ?_ | with_reducible refine Dp.b_isi_str_bool ?_ | with_reducible refine Dp.b_isi_str_tuple ?_ | with_reducible refine Dp.b_isi_str_list ?_ | with_reducible refine Dp.b_isi_str_str ?_ | ((with_reducible refine Dp.zjJ (xs:=?rvx) ?rvl ?_);(case rvl=>walk_at "dat")) | ((with_reducible refine Dp.b_isi_lst_tuple (xs:=?rvx) ?rvl ?_);(case rvl=>walk_at "dat"))
 | with_reducible refine Dp.zsJ ?_ | with_reducible refine Dp.zrl ?_ | ((with_reducible refine Dp.ztU ?rvk ?_);(case rvk=>exact rfl)) | with_reducible refine Dp.ztx ?_ | with_reducible refine Dp.zth ?_
 | with_reducible refine Dp.o_is0 ?_ | with_reducible refine Dp.o_is1 ?_ | with_reducible refine Dp.o_is2 ?_ | with_reducible refine Dp.o_is3 ?_ | with_reducible refine Dp.zs9 ?_ | with_reducible refine Dp.zsT ?_ | with_reducible refine Dp.ztm ?_ | with_reducible refine Dp.o_isn3 ?_ | with_reducible refine Dp.o_isTT ?_ | with_reducible refine Dp.o_isnTT ?_ | with_reducible refine Dp.zv2 ?_ | with_reducible refine Dp.zqO ?_ | with_reducible refine Dp.o_isB ?_ | with_reducible refine Dp.o_isnB ?_ | with_reducible refine Dp.zwm ?_ | with_reducible refine Dp.zsw ?_ | with_reducible refine Dp.ztV ?_ | ((with_reducible refine Dp.o_step (xs:=?rvx) ?rvl ?_);(case rvl=>walk_at "dlat")) | with_reducible refine Dp.o_cutT ?_ | ((with_reducible refine Dp.zsU (xs:=?rvx) ?rvl ?_);(case rvl=>walk_at "dlat"))
 | ((with_reducible refine Dp.zvP (a:=?rvv) ?rvk ?_);(case rvk=>exact rfl)) | ((with_reducible refine Dp.zpo (xs:=?rvx) ?rvk ?rvl ?_);(case rvk=>walk_at "dat");(case rvl=>first | exact Nat.lt_of_ble_eq_true rfl | assumption | (simp only [big,List.length_append,List.length_cons,List.length_nil,List.length_map] at *;omega)))
 | with_reducible refine Dp.zp8 ?_ | with_reducible refine Dp.zpe ?_ | with_reducible refine Dp.zvp ?_ | with_reducible refine Dp.zvD ?_ | with_reducible refine Dp.r_ntrue ?_ | with_reducible refine Dp.r_nfalse ?_
 | with_reducible refine Dp.zvE ?_ | with_reducible refine Dp.zoM ?_ | with_reducible refine Dp.ztD ?_ | with_reducible refine Dp.zu9 ?_ | with_reducible refine Dp.zvz ?_ | ((with_reducible refine Dp.zuA (xs:=?rvx) ?rvl ?_);(case rvl=>walk_at "dlat")) | with_reducible refine Dp.zsX ?_ | with_reducible refine Dp.zsu ?_ | with_reducible refine Dp.zsx ?_ | with_reducible refine Dp.en_T ?_ | with_reducible refine Dp.zvA ?_ | with_reducible refine Dp.zi_T ?_ | with_reducible refine Dp.r_rev ?_ | with_reducible refine Dp.rev_T ?_ | with_reducible refine Dp.r_rng3 ?_ | with_reducible refine Dp.zwp ?_)
local macro_rules | `(tactic| walk_at "g")=>`(tactic| repeat walk_at "dr1")
local macro_rules | `(tactic| walk_at "drho")=>`(tactic| simp only [zet,List.map_cons,List.map_nil,List.length_cons,List.length_nil,Nat.reduceSub,Nat.reduceAdd,List.replicate,List.cons_append,List.nil_append,List.set_cons_zero,List.set_cons_succ])
local macro_rules | `(tactic| walk_at "drho2")=>`(tactic| simp only [List.set_cons_zero,List.set_cons_succ])
namespace Dp
open PySem Rm My
def zdz:DSp:=fun ds S Q=>∃ (ns:List Int) (k:Int),ds=[.rl (ns.map D.int),.int k]/\(∀ n∈ns,Hg n)/\0<=k/\∀ v,Hg v->Q (.int v) S
def zfR:DS :=
    (zH (sIf (dT (dOp oLt (zj 1) (dB zbm (zf (zj 0) zA)))) (zZ (dOp oIx (zj 0) (zj 1))) zab)
 (zZ (dC (.int 0))))
theorem znt:∀ ds So Q,zdz ds So Q->ds.length=2:=by rintro ds So Q ⟨_,_,rfl,_⟩;rfl
theorem zo1:BodyOk 2 zfR zdz:=by
 rintro ds S Q ⟨ns,k,rfl,hg,k0,q⟩
 unfold zfR
 walk_at "g"
 rw [List.length_map]
 refine r_d (fun h=>?_) (fun h=>?_)
 ·obtain⟨z,hz,az⟩:=zeT (zs:=ns) k0 h
  walk_at "g"
  exact fin_same (q z (hg z hz))
 ·walk_at "g"
  exact fin_same (q 0 (Hg.of (n:=1) (by show (0:Int).natAbs<2 ^ 1;decide) (by decide)))
def zpN (c k:Int):Int:=(c%1000000000000000000000000000000000000000000000000000000000000+7907*k+1)*271828182845904523536028747135266249775*((c%1000000000000000000000000000000000000000000000000000000000000+7907*k+1)*271828182845904523536028747135266249775)%618970019642690137449562111
def zfo (c k s:Int):Int:=(zpN c k+104729*(k+1))*zpN c k%618970019642690137449562111/8%s
def zO:DSp:=fun ds S Q=>∃ (c k s:Int),ds=[.int c,.int k,.int s]/\0<=k/\k<1000/\0<s/\∀ v,0<=v->v<s->v=zfo c k s->Q (.int v) S
def zfc:DS :=
    (zH (zN (dC (.int 618970019642690137449562111)) (zE 3))
 (zH (zN (dOp zaD (dOp zah (dOp zah (dOp oMod (zj 0) (dC (.int 1000000000000000000000000000000000000000000000000000000000000))) (dOp zaD (dC (.int 7907)) (zj 1))) (dC (.int 1))) (dC (.int 271828182845904523536028747135266249775))) (zE 4))
 (zH (zN (dOp oMod (dOp zaD (zj 4) (zj 4)) (zj 3)) (zE 5))
 (zH (zN (dOp oMod (dOp zaD (dOp zah (zj 5) (dOp zaD (dC (.int 104729)) (dOp zah (zj 1) (dC (.int 1))))) (zj 5)) (zj 3)) (zE 5))
 (zZ (dOp oMod (dOp oDiv (zj 5) (dC (.int 8))) (zj 2)))))))
theorem zlL:∀ ds So Q,zO ds So Q->ds.length=3:=by rintro ds So Q ⟨_,_,_,rfl,_⟩;rfl
theorem zni:BodyOk 6 zfc zO:=by
 rintro ds S Q ⟨c,k,s,rfl,h0,hk,hs,q⟩
 unfold zfc
 have b1:My.Bd 300 (c%1000000000000000000000000000000000000000000000000000000000000+7907*k+1):=by
  have h1:=Int.emod_nonneg c (b:=1000000000000000000000000000000000000000000000000000000000000) (by decide)
  have h2:=Int.emod_lt_of_pos c (b:=1000000000000000000000000000000000000000000000000000000000000) (by decide)
  show _<2 ^ 300
  omega
 have b2:My.Bd 200 (271828182845904523536028747135266249775:Int):=My.Bd.lit (by decide) (by decide)
 have b3:=My.Bd.mul b1 b2
 have cm1:zax (c%1000000000000000000000000000000000000000000000000000000000000+7907*k+1) 271828182845904523536028747135266249775:=.inl ⟨b1.mono (by decide),b2.mono (by decide)⟩
 generalize hb:c%1000000000000000000000000000000000000000000000000000000000000+7907*k+1=u at *
 have cm2:zax (u*271828182845904523536028747135266249775) (u*271828182845904523536028747135266249775):=.inl ⟨b3.mono (by decide),b3.mono (by decide)⟩
 walk_at "g"
 rw [hb]
 walk_at "g"
 have b4:My.Bd 200 (u*271828182845904523536028747135266249775*(u*271828182845904523536028747135266249775)%618970019642690137449562111):=My.Bd.emod (by decide) (My.Bd.lit (by decide) (by decide))
 generalize hm:u*271828182845904523536028747135266249775*(u*271828182845904523536028747135266249775)%618970019642690137449562111=m at *
 have b5:My.Bd 200 (104729*(k+1)):=by
  show _<2 ^ 200
  omega
 have cm3:zax (m+104729*(k+1)) m:=.inl ⟨(My.Bd.add b4 b5).mono (by decide),b4.mono (by decide)⟩
 walk_at "g"
 exact fin_same (q _ (Int.emod_nonneg _ (by omega)) (Int.emod_lt_of_pos _ (by omega)) (by unfold zfo zpN;rw [hb,hm]))
def zcM:DSp:=fun ds S Q=>∃ (c k nr:Int) (far:Bool),ds=[.int c,.int k,.int nr,.bl far]/\Hg c/\0<=k/\k<900/\0<nr/\nr<1000/\∀ v:Int,-(5*10 ^ 49)<=v->v<5*10 ^ 49->Q (.int v) S
def zfg:DS :=
    (zH (sIf (dT (zj 3)) (zZ (dOp zal (dOp oMod (dOp zaD (dOp zaD (zj 0) (dC (.int 1422907482840247632891030073750636927810831))) (dOp zah (zj 1) (dC (.int 2)))) (dC (.int 100000000000000000000000000000000000000000000000000))) (dOp zaD (dC (.int 5)) (dC (.int 10000000000000000000000000000000000000000000000000))))) zab)
 (zZ (dCall zO (zf (zj 0) (zf (zj 1) (zf (zj 2) zA))))))
theorem zlM:∀ ds So Q,zcM ds So Q->ds.length=4:=by rintro ds So Q ⟨_,_,_,_,rfl,_⟩;rfl
theorem znD:BodyOk 4 zfg zcM:=by
 rintro ds S Q ⟨c,k,nr,far,rfl,hc,k0,k1,n0,n1,q⟩
 unfold zfg
 cases far with
 | true =>
  walk_at "g"
  refine zok hc (Hg.of (n:=200) (by show _<2 ^ 200;decide) (by decide)) ?_
  generalize c*1422907482840247632891030073750636927810831=u
  have cm:zax u (k+2):=.inr (.inr (by omega))
  walk_at "g"
  have r1:=Int.emod_nonneg (u*(k+2)) (show (100000000000000000000000000000000000000000000000000:Int)≠0 by decide)
  have r2:=Int.emod_lt_of_pos (u*(k+2)) (show (0:Int)<100000000000000000000000000000000000000000000000000 by decide)
  exact fin_same (q _ (by omega) (by omega))
 | false =>
  walk_at "g"
  refine⟨c,k,nr,rfl,k0,by omega,n0,fun v v0 v1 _=>?_⟩
  exact fin_same (q v (by omega) (by omega))
def zb1:DSp:=fun ds S Q=>∃ (c n:Int) (far:Bool),ds=[.int c,.int n,.bl far]/\Hg c/\2<=n/\n<=40/\∀ cs:List (Int×Int),(cs.length:Int)=n->Grd cs->(∀ c∈cs,Bd 169 c.1/\Bd 169 c.2)->New Q S (cs.map p2)
def zdg:DS :=
    (zH (zN (zaY zA) (zE 3))
 (zH (zN (dOp zal (dCall zcM (zf (zj 0) (zf (dC (.int 0)) (zf (dC (.int 9)) (zf (zj 2) zA))))) (dC (.int 9))) (zE 4))
 (zH (zb4 (zee (zf (zj 1) zA)) (zE 5) (zH (zN (dCall zO (zf (zj 0) (zf (dOp zah (dOp zaD (dC (.int 2)) (zj 5)) (dC (.int 1))) (zf (dC (.int 9)) zA)))) (zE 6))
 (zH (sJ (sIf (zew (dT (zj 2)) (dT (dOp oEq (dOp oMod (zj 5) (dC (.int 3))) (dC (.int 1))))) (zN (dCall zcM (zf (zj 0) (zf (zj 5) (zf (dC (.int 9)) (zf (zj 2) zA))))) (zE 6)) zab))
 (zH (zaq (dM zbA (zj 3) (zf (dTup (zf (zj 4) (zf (zj 6) zA))) zA)))
 (zH (zN (dOp zah (dC (.int 1)) (dCall zO (zf (zj 0) (zf (dOp zah (dOp zaD (dC (.int 2)) (zj 5)) (dC (.int 2))) (zf (dC (.int 7)) zA))))) (zE 7))
 (zH (sJ (sIf (zew (dT (zj 2)) (dT (dOp oEq (dOp oMod (zj 5) (dC (.int 2))) (dC (.int 0))))) (zN (dOp zah (dC (.int 1)) (dOp oMod (dOp zaD (dOp zaD (zj 0) (dC (.int 7928331467292760530673834318599741))) (dOp zah (zj 5) (dC (.int 3)))) (dC (.int 1000000000000000000000000000000000000000000000000)))) (zE 7)) zab))
 (zN (dOp zah (zj 4) (zj 7)) (zE 4))))))))
 (zZ (zj 3)))))
theorem zje:∀ ds So Q,zb1 ds So Q->ds.length=3:=by rintro ds So Q ⟨_,_,_,rfl,_⟩;rfl
theorem zjE:BodyOk 8 zdg zb1:=by
 rintro ds S Q ⟨c,n,far,rfl,hc,n0,n1,q⟩
 unfold zdg
 walk_at "g"
 refine⟨c,0,9,far,rfl,hc,by decide,by decide,by decide,by decide,fun v0 v1 v2=>?_⟩
 walk_at "g"
 walk_at "drho"
 refine⟨n,rfl,by omega,by omega,?_⟩
 refine za0 (fun i ρ S'=>∃ (cs:List (Int×Int)) (pl:Int) (w5 w6 w7:Option D),S'=S++[.lst (cs.map p2)]/\ρ=[some (.int c),some (.int n),some (.bl far),some (.ref S.length),some (.int pl),w5,w6,w7]/\cs.length=i/\cs.Pairwise (fun a b=>a.1<b.1)/\(∀ x∈cs,x.1<pl/\-(6*10 ^ 49)<=x.1/\Bd 169 x.2)/\v0-9<=pl/\pl<=v0-9+i*(10 ^ 48)) ⟨[],v0-9,none,none,none,rfl,rfl,rfl,.nil,by simp,by omega,by omega⟩ (fun _ _ _ _=>True.intro) ?_ ?_
 ·rintro i d ρ S' hd ⟨cs,pl,w5,w6,w7,rfl,rfl,hl,asc,hcs,p0,p1⟩
  obtain⟨hi,rfl⟩:=zdA hd
  have cm1:zax 2 (0+(i:Int)):=.inr (.inl (by decide))
  walk_at "g"
  refine⟨c,_,9,rfl,by omega,by omega,by decide,fun m m0 m1 _=>?_⟩
  walk_at "g"
  refine r_J (fun ρ S'=>S'=S++[.lst (cs.map p2)]/\∃ hh:Int,Bd 169 hh/\ρ=[some (.int c),some (.int n),some (.bl far),some (.ref S.length),some (.int pl),some (.int (0+(i:Int))),some (.int hh),w7]) ?_ ?_
  ·have b0:Bd 169 m:=by show _<2 ^ 169;omega
   walk_at "g"
   cases far with
   | true =>
    walk_at "g"
    refine r_d (fun _=>?_) (fun _=>?_)
    ·walk_at "g"
     refine⟨c,_,9,true,rfl,hc,by omega,by omega,by decide,by decide,fun u u0 u1=>?_⟩
     walk_at "g"
     exact⟨rfl,u,by show _<2 ^ 169;omega,rfl⟩
    ·walk_at "g"
     exact⟨rfl,m,b0,rfl⟩
   | false =>
    walk_at "g"
    exact⟨rfl,m,b0,rfl⟩
  rintro ρ S' ⟨rfl,hh,bh,rfl⟩
  have hlim:(cs.map p2).length<big:=by rw [List.length_map];unfold big;omega
  walk_at "g"
  refine⟨c,_,7,rfl,by omega,by omega,by decide,fun m' m0' m1' _=>?_⟩
  walk_at "g"
  refine r_J (fun ρ S'=>S'=S++[.lst (cs.map p2++[p2 (pl,hh)])]/\∃ wd:Int,1<=wd/\wd<=10 ^ 48/\ρ=[some (.int c),some (.int n),some (.bl far),some (.ref S.length),some (.int pl),some (.int (0+(i:Int))),some (.int hh),some (.int wd)]) ?_ ?_
  ·walk_at "g"
   cases far with
   | true =>
    walk_at "g"
    refine r_d (fun _=>?_) (fun _=>?_)
    ·walk_at "g"
     refine zok hc (Hg.of (n:=200) (by show _<2 ^ 200;decide) (by decide)) ?_
     generalize c*7928331467292760530673834318599741=u
     have cm:zax u (0+(i:Int)+3):=.inr (.inr (by omega))
     walk_at "g"
     have r1:=Int.emod_nonneg (u*(0+(i:Int)+3)) (show (1000000000000000000000000000000000000000000000000:Int)≠0 by decide)
     have r2:=Int.emod_lt_of_pos (u*(0+(i:Int)+3)) (show (0:Int)<1000000000000000000000000000000000000000000000000 by decide)
     exact⟨rfl,_,by omega,by omega,rfl⟩
    ·walk_at "g"
     exact⟨rfl,_,by omega,by omega,rfl⟩
   | false =>
    walk_at "g"
    exact⟨rfl,_,by omega,by omega,rfl⟩
  rintro ρ S' ⟨rfl,wd,d0,d1,rfl⟩
  walk_at "g"
  refine⟨cs++[(pl,hh)],pl+wd,_,_,_,by rw [List.map_append];rfl,rfl,by simp [hl],?_,?_,by omega,by omega⟩
  ·rw [List.pairwise_append]
   refine⟨asc,List.pairwise_singleton _ _,fun a ha b hb=>?_⟩
   have:b=(pl,hh):=by simpa using hb
   subst this
   exact (hcs a ha).1
  ·intro x hx
   rcases List.mem_append.mp hx with hx | hx
   ·obtain⟨a1,a2,a3⟩:=hcs x hx
    exact⟨by omega,a2,a3⟩
   ·have:x=(pl,hh):=by simpa using hx
    subst this
    exact⟨by show pl<pl+wd;omega,by show -(6*10 ^ 49)<=pl;omega,bh⟩
 ·rintro ρ S' ⟨cs,pl,w5,w6,w7,rfl,rfl,hl,asc,hcs,p0,p1⟩
  rw [zc9] at hl p1
  walk_at "g"
  have hb:∀ x∈cs,Bd 169 x.1/\Bd 169 x.2:=fun x hx=>by
   obtain⟨a1,a2,a3⟩:=hcs x hx
   exact⟨by show _<2 ^ 169;omega,a3⟩
  refine fin_same (q cs (by omega) ⟨by omega,by omega,asc,fun x hx=>⟨(hb x hx).1.mono (by decide),(hb x hx).2.mono (by decide)⟩⟩ hb)
def zcl:DSp:=fun ds S Q=>∃ (ns:List Int) (st most:Int),ds=[.rl (ns.map D.int),.int st,.int most]/\ns.length<=63/\0<=st/\0<most/\most<60/\∀ zs:List Int,(zs.length:Int)<=most->(∀ z∈zs,0<=z/\z<10 ^ 60)->New Q S (zs.map D.int)
def zdT:DS :=
    (zH (zN (zaY zA) (zE 3))
 (zH (zb4 (zkn (zf (zj 1) (zf (dB zbm (zf (zj 0) zA)) zA))) (zE 4) (sIf (dT (dOp oLt (dB zbm (zf (zj 3) zA)) (zj 2))) (zaq (dM zbA (zj 3) (zf (dOp oMod (dOp oIx (zj 0) (zj 4)) (dC (.int 1000000000000000000000000000000000000000000000000000000000000))) zA))) (zH (zN (dOp zah (dOp zaD (dOp oIx (zj 3) (dOp oMod (zj 4) (zj 2))) (dC (.int 10007))) (dOp oMod (dOp oIx (zj 0) (zj 4)) (dC (.int 1000000000000000000000000000000000000000000000000000000000000)))) (zE 5))
 (zN (dOp oMod (zj 5) (dC (.int 1000000000000000000000000000000000000000000000000000000000000))) (zib (zj 3) (dOp oMod (zj 4) (zj 2)))))))
 (zZ (zj 3))))
theorem zjs:∀ ds So Q,zcl ds So Q->ds.length=3:=by rintro ds So Q ⟨_,_,_,rfl,_⟩;rfl
theorem zke:BodyOk 6 zdT zcl:=by
 rintro ds S Q ⟨ns,st,most,rfl,hl,hst,h0,h1,q⟩
 unfold zdT
 walk_at "g"
 refine⟨_,_,rfl,?_⟩
 refine za0 (fun i ρ S'=>∃ zs w1 w2,ρ=[some (.rl (ns.map D.int)),some (.int st),some (.int most),some (.ref S.length),w1,w2]/\S'=S++[.lst (zs.map D.int)]/\(zs.length:Int)<=most/\∀ z∈zs,0<=z/\z<10 ^ 60)
  ⟨[],none,none,rfl,rfl,by show (0:Int)<=most;omega,by simp⟩ (fun _ _ _ _=>True.intro) ?_ ?_
 ·rintro i d ρ S' hd ⟨zs,w1,w2,rfl,rfl,hz,hb⟩
  obtain⟨hi,rfl⟩:=zdA hd
  rw [List.length_map] at hi
  obtain⟨v,_,av⟩:=zeT (zs:=ns) (k:=st+i) (by omega) (by omega)
  have hv1:=Int.emod_nonneg v (b:=1000000000000000000000000000000000000000000000000000000000000) (by decide)
  have hv2:=Int.emod_lt_of_pos v (b:=1000000000000000000000000000000000000000000000000000000000000) (by decide)
  walk_at "g"
  rw [List.length_map]
  refine r_d (fun g=>?_) (fun g=>?_)
  ·walk_at "g"
   refine⟨zs++[v%1000000000000000000000000000000000000000000000000000000000000],_,_,rfl,by rw [List.map_append];rfl,by rw [List.length_append];show ((zs.length+1:Nat):Int)<=most;omega,fun z hz=>?_⟩
   rcases List.mem_append.mp hz with hz | hz
   ·exact hb z hz
   ·have:z=v%1000000000000000000000000000000000000000000000000000000000000:=by simpa using hz
    subst this;exact⟨hv1,by omega⟩
  ·have m1:=Int.emod_nonneg (st+i) (b:=most) (by omega)
   have m2:=Int.emod_lt_of_pos (st+i) (b:=most) (by omega)
   obtain⟨u,hu,au⟩:=zeT (zs:=zs) (k:=(st+i)%most) m1 (by omega)
   have iu:=ztN (zs:=zs) (k:=(st+i)%most) m1 (by omega)
   walk_at "g"
   refine zm9 zb5 iu ?_
   walk_at "g"
   refine⟨zs.set _ _,_,_,rfl,by rw [List.map_set],by simpa using hz,fun z hz'=>?_⟩
   rcases zpC hz' with h | h
   ·exact hb z h
   ·subst h
    exact⟨Int.emod_nonneg _ (by decide),Int.lt_of_lt_of_le (Int.emod_lt_of_pos _ (by decide)) (by decide)⟩
 ·rintro ρ S' ⟨zs,w1,w2,rfl,rfl,hz,hb⟩
  walk_at "g"
  exact fin_same (q zs hz hb)
theorem zkI (i:Int)(h0:0<=i)(h1:i<26):atS "abcdefghijklmnopqrstuvwxyz" i=some (97+i.toNat):=by
 have:∀ j:_root_.Fin 26,atS "abcdefghijklmnopqrstuvwxyz" ((j.val:Nat):Int)=some (97+j.val):=by decide +kernel
 have:=this ⟨i.toNat,by omega⟩
 rwa [show ((i.toNat:Nat):Int)=i by omega] at this
def zhI (zs:List Str):Prop:=∃ a h b t:Nat,a∈abc/\b∈abc/\h<=3/\t<=4/\zs.Nodup/\∀ z∈zs,∃ c∈abc,z=nmW a h c b t
theorem zhI.nm {zs:List Str}(h:zhI zs){z:Str}(hz:z∈zs):nmB z=true:=by
 obtain⟨a,h,b,t,ha,hb,h3,h4,_,hs⟩:=h
 obtain⟨c,hc,rfl⟩:=hs z hz
 exact zum ha hb hc h3 h4
def zcB:DSp:=fun ds S Q=>∃ (c n:Int),ds=[.int c,.int n]/\0<=n/\n<=12/\∀ zs:List Str,(zs.length:Int)=n->zhI zs->New Q S (zs.map D.str)
def zef:DS :=
    (zH (zN (dC (.str "abcdefghijklmnopqrstuvwxyz")) (zE 2))
 (zH (zN (dOp zaD (dOp oIx (zj 2) (dCall zO (zf (zj 0) (zf (dC (.int 70)) (zf (dC (.int 26)) zA))))) (dCall zO (zf (zj 0) (zf (dC (.int 71)) (zf (dC (.int 4)) zA))))) (zE 3))
 (zH (zN (dOp zaD (dOp oIx (zj 2) (dCall zO (zf (zj 0) (zf (dC (.int 72)) (zf (dC (.int 26)) zA))))) (dCall zO (zf (zj 0) (zf (dC (.int 73)) (zf (dC (.int 5)) zA))))) (zE 4))
 (zZ (dLC 1 [4,3,2,0] (zee (zf (zj 1) zA)) (zE 0) zcs (dOp zah (dOp zah (zj 2) (dOp oIx (zj 3) (dOp oMod (dOp zah (dCall zO (zf (zj 4) (zf (dC (.int 74)) (zf (dC (.int 26)) zA)))) (dOp zaD (dC (.int 3)) (zj 0))) (dC (.int 26))))) (zj 1)))))))
theorem zkh:∀ ds So Q,zcB ds So Q->ds.length=2:=by rintro ds So Q ⟨_,_,rfl,_⟩;rfl
theorem zkO:BodyOk 5 zef zcB:=by
 rintro ds S Q ⟨c,n,rfl,n0,n1,q⟩
 unfold zef
 walk_at "g"
 refine⟨c,_,_,rfl,by decide,by decide,by decide,fun m m0 m1 _=>?_⟩
 refine zmH (c:=97+m.toNat) (by decide +kernel) (zkI m m0 m1) ?_
 walk_at "g"
 refine⟨c,_,_,rfl,by decide,by decide,by decide,fun h h0 h1 _=>?_⟩
 refine zoS (by show 1<=1000;decide) (by omega) (by omega) ?_
 rw [zlr _ _ h0]
 walk_at "g"
 refine⟨c,_,_,rfl,by decide,by decide,by decide,fun l l0 l1 _=>?_⟩
 refine zmH (c:=97+l.toNat) (by decide +kernel) (zkI l l0 l1) ?_
 walk_at "g"
 refine⟨c,_,_,rfl,by decide,by decide,by decide,fun t t0 t1 _=>?_⟩
 refine zoS (by show 1<=1000;decide) (by omega) (by omega) ?_
 rw [zlr _ _ t0]
 walk_at "g"
 refine⟨_,rfl,by omega,by omega,?_⟩
 have ha:97+m.toNat∈abc:=zhR.mpr (by omega)
 have hb:97+l.toNat∈abc:=zhR.mpr (by omega)
 have hq:∀ k:Nat,97+((zfo c 74 26+3*(0+(k:Int)))%26).toNat∈abc:=fun k=>zhR.mpr (by omega)
 refine zbB (fun _=>true) (onI fun k=>.str (nmW (97+m.toNat) h.toNat (97+((zfo c 74 26+3*k)%26).toNat) (97+l.toNat) t.toNat)) True.intro (by rw [zc9];unfold big;omega) (fun i d ys hd hw=>?_) ?_
 ·obtain⟨hi,rfl⟩:=zdA hd
  walk_at "g"
  refine⟨c,_,_,rfl,by decide,by decide,by decide,fun u u0 u1 ue=>?_⟩
  subst ue
  have cm:zax 3 (0+(i:Int)):=.inr (.inl (by decide))
  walk_at "g"
  refine zmH (c:=97+((zfo c 74 26+3*(0+(i:Int)))%26).toNat) (by decide +kernel) (zkI _ (by omega) (by omega)) ?_
  have lh:(⟨(List.replicate h.toNat (97+m.toNat)).toArray⟩:Str).length=h.toNat:=by show (List.replicate h.toNat (97+m.toNat)).toArray.size=_;simp
  refine zkX (by rw [lh];show h.toNat+1<=big;unfold big;omega) ?_
  rw [show (⟨#[97+((zfo c 74 26+3*(0+(i:Int)))%26).toNat]⟩:Str)=⟨[97+((zfo c 74 26+3*(0+(i:Int)))%26).toNat].toArray⟩ from rfl,zmf]
  walk_at "g"
  refine zkX (by show (List.toArray _).size+(List.toArray _).size<=big;simp;unfold big;omega) ?_
  rw [zmf]
  refine zcN hd hw rfl ?_
  show _=D.str (nmW _ _ _ _ _)
  unfold nmW
  rw [List.append_assoc];rfl
 rw [filter_true]
 obtain⟨zs,hzs,hzl,hzg⟩:∃ zs:List Str,(upto 0 n.toNat).map (onI fun k=>D.str (nmW (97+m.toNat) h.toNat (97+((zfo c 74 26+3*k)%26).toNat) (97+l.toNat) t.toNat))=zs.map D.str/\zs.length=n.toNat/\∀ (i:Nat) z,zs[i]?=some z->i<n.toNat/\z=nmW (97+m.toNat) h.toNat (97+((zfo c 74 26+3*(0+(i:Int)))%26).toNat) (97+l.toNat) t.toNat:=by
  refine⟨(List.range n.toNat).map fun k:Nat=>nmW (97+m.toNat) h.toNat (97+((zfo c 74 26+3*(0+(k:Int)))%26).toNat) (97+l.toNat) t.toNat,?_,by simp,fun i z hz=>?_⟩
  ·unfold upto
   rw [List.map_map,List.map_map];rfl
  ·rw [List.getElem?_map] at hz
   by_cases hi:i<n.toNat
   ·rw [List.getElem?_range hi] at hz
    exact⟨hi,by simpa using hz.symm⟩
   ·rw [List.getElem?_eq_none (by simpa using hi)] at hz;cases hz
 rw [hzs]
 refine zqW (fin_same (q zs (by omega) ⟨97+m.toNat,h.toNat,97+l.toNat,t.toNat,ha,hb,by omega,by omega,?_,fun z hz=>?_⟩))
 ·refine List.pairwise_iff_getElem.mpr fun i j hi hj hij e=>?_
  obtain⟨i1,ei⟩:=hzg i _ (List.getElem?_eq_getElem hi)
  obtain⟨j1,ej⟩:=hzg j _ (List.getElem?_eq_getElem hj)
  rw [ei,ej] at e
  have:=zsh e
  omega
 ·obtain⟨i,hi,e⟩:=List.mem_iff_getElem.mp hz
  obtain⟨_,ez⟩:=hzg i z (by rw [List.getElem?_eq_getElem hi,e])
  exact⟨_,hq i,ez⟩
def zcm:DSp:=fun ds S Q=>∃ (x:D) (cs:List (Int×Int)) (a:Int),ds=[x,.int a]/\Lst S x (cs.map p2)/\Grd cs/\Bd 180 a/\OnG cs (a,1)/\Q (.int (zdf cs a)) S
def zdR:DS :=
    (zH (zb4 (zee (zf (dOp zal (dB zbm (zf (zj 0) zA)) (dC (.int 1))) zA)) (zE 2) (zH (zpu 3 4 (zf (dOp oIx (zj 0) (zj 2)) (zf (dOp oIx (zj 0) (dOp zah (zj 2) (dC (.int 1)))) zA)))
 (sIf (zew (dT (dOp oLe (dOp oIx (zj 3) (dC (.int 0))) (zj 1))) (dT (dOp oLe (zj 1) (dOp oIx (zj 4) (dC (.int 0)))))) (zH (zN (dOp zaD (dOp zal (dOp oIx (zj 3) (dC (.int 1))) (dOp oIx (zj 4) (dC (.int 1)))) (dOp zal (zj 1) (dOp oIx (zj 3) (dC (.int 0))))) (zE 5))
 (zZ (dOp zal (dOp oIx (zj 3) (dC (.int 1))) (dOp oDiv (zj 5) (dOp zal (dOp oIx (zj 4) (dC (.int 0))) (dOp oIx (zj 3) (dC (.int 0)))))))) zab)))
 (zZ (dC .non)))
theorem zjF:∀ ds So Q,zcm ds So Q->ds.length=2:=by rintro ds So Q ⟨_,_,_,rfl,_⟩;rfl
theorem zkb:BodyOk 6 zdR zcm:=by
 rintro ds S Q ⟨x,cs,a,rfl,hx,gr,ba,on,q⟩
 unfold zdR
 have g1:=gr.two
 obtain⟨kk,l,r,hkl,hkr,hle,hlt⟩:=ziO gr.two on.2
 have seg:=seg_at hkl hkr hle hlt
 have hle':a<=r.1:=by have:a<=r.1*1:=hle;omega
 have hab:=zda gr (show kk<kk+1 by omega) hkl hkr
 have hlo:l.1<=a:=by
  cases kk with
  | zero =>
   obtain⟨f,hf,ef⟩:=zdB gr
   have h:=on.1
   rw [ef] at h
   rw [hkl] at hf;cases hf
   have:l.1*1<=a:=h
   omega
  | succ j =>
   have:=hlt (j+1) l (by omega) (by omega) hkl
   have:l.1*1<a:=this
   omega
 have q':Q (.int (l.2-((l.2-r.2)*(a-l.1))/(r.1-l.1))) S:=by
  have e:l.2-((l.2-r.2)*(a-l.1))/(r.1-l.1)=zdf cs a:=by
   unfold zdf
   rw [seg]
   unfold zeh hvT hvB
   dsimp only
   rw [if_pos (by omega),if_pos (by omega),Int.mul_one,Int.mul_one,Int.mul_one]
   have e2:-(l.2*(r.1-l.1)+(r.2-l.2)*(a-l.1))=(l.2-r.2)*(a-l.1)+(-l.2)*(r.1-l.1):=by grind
   rw [e2,Int.add_mul_ediv_right _ _ (by omega)]
   omega
  rw [e];exact q
 walk_at "g"
 rw [List.length_map]
 refine⟨_,rfl,by have:=gr.most;omega,by have:=gr.most;omega,?_⟩
 refine za0 (fun i ρ S'=>S'=S/\(∃ w2 w3 w4 w5:Option D,ρ=[some x,some (.int a),w2,w3,w4,w5])/\i<=kk) ⟨rfl,⟨none,none,none,none,rfl⟩,by omega⟩ (fun _ _ _ _=>True.intro) ?_ ?_
 ·rintro i d ρ S' hd ⟨rfl,⟨w2,w3,w4,w5,rfl⟩,hik⟩
  obtain⟨hi,rfl⟩:=zdA hd
  obtain⟨b,hb,ab⟩:=zfb (cs:=cs) (k:=0+(i:Int)) (by omega) (by omega)
  obtain⟨c,hc,ac⟩:=zfb (cs:=cs) (k:=0+(i:Int)+1) (by omega) (by omega)
  rw [show (0+(i:Int)).toNat=i by omega] at hb
  rw [show (0+(i:Int)+1).toNat=i+1 by omega] at hc
  have hbc:=zda gr (show i<i+1 by omega) hb hc
  obtain⟨bb1,bb2⟩:=gr.bd b (List.mem_of_getElem? hb)
  obtain⟨bc1,bc2⟩:=gr.bd c (List.mem_of_getElem? hc)
  have cm:zax (b.2-c.2) (a-b.1):=.inl ⟨(Bd.sub bb2 bc2).mono (by decide),(Bd.sub ba (bb1.mono (by decide))).mono (by decide)⟩
  have dv:0<c.1-b.1/\Bd 8000 (c.1-b.1):=⟨by omega,(Bd.sub bc1 bb1).mono (by decide)⟩
  walk_at "g"
  refine r_d (fun h1=>?_) (fun h1=>?_)
  ·walk_at "g"
   refine r_d (fun h2=>?_) (fun h2=>?_)
   ·have e:i=kk:=by
     rcases Nat.lt_or_ge i kk with z | z
     ·have:=hlt (i+1) c (by omega) (by omega) hc
      have:c.1*1<a:=this
      omega
     ·omega
    subst e
    rw [hkl] at hb;cases hb
    rw [hkr] at hc;cases hc
    walk_at "g"
    exact fin_same q'
   ·walk_at "g"
    refine⟨rfl,⟨_,_,_,_,rfl⟩,?_⟩
    rcases Nat.lt_or_ge i kk with z | z
    ·omega
    ·have:i=kk:=by omega
     subst this
     rw [hkr] at hc;cases hc;omega
  ·exfalso
   rcases Nat.lt_or_ge i kk with z | z
   ·rcases Nat.eq_zero_or_pos i with e | e
    ·subst e
     obtain⟨f,hf,ef⟩:=zdB gr
     rw [hb] at hf;cases hf
     have h:=on.1
     rw [ef] at h
     have:b.1*1<=a:=h
     omega
    ·have:=hlt i b e (by omega) hb
     have:b.1*1<a:=this
     omega
   ·have:i=kk:=by omega
    subst this
    rw [hkl] at hb;cases hb;omega
 ·rintro ρ S' ⟨rfl,_,hik⟩
  rw [zc9] at hik
  have:=zbo hkr
  omega
structure zvX (cs:List (Int×Int))(bs:List (Str×(Int×Int))):Prop where
 nm:zhI (bs.map (·.1))
 st:∀ b∈bs,zdv cs b.2/\Bd 175 b.2.1/\Bd 198 b.2.2
def zb6:DSp:=fun ds S Q=>∃ (u x y:D) (ns:List Int) (cs:List (Int×Int)) (zs:List Str),ds=[u,x,y]/\Lst S u (ns.map D.int)/\Lst S x (cs.map p2)/\Lst S y (zs.map D.str)/\zs.length<=ns.length/\zs.length<=12/\(∀ n∈ns,0<=n/\n<10 ^ 60)/\Grd cs/\zhI zs/\∀ bs:List (Str×(Int×Int)),bs.length=zs.length->zvX cs bs->New Q S (bs.map bcD)
def zdh:DS :=
    (zH (zN (zaY zA) (zE 3))
 (zH (zN (dOp zah (dOp zal (dOp oIx (dOp oIx (zj 1) (dUn zcW (dC (.int 1)))) (dC (.int 0))) (dOp oIx (dOp oIx (zj 1) (dC (.int 0))) (dC (.int 0)))) (dC (.int 1))) (zE 4))
 (zH (zb4 (zee (zf (dB zbm (zf (zj 2) zA)) zA)) (zE 5) (zH (zN (dOp oIx (zj 0) (zj 5)) (zE 6))
 (zH (zN (dOp zah (dOp oIx (dOp oIx (zj 1) (dC (.int 0))) (dC (.int 0))) (dCall zO (zf (zj 6) (zf (dC (.int 40)) (zf (zj 4) zA))))) (zE 7))
 (zH (sJ (sIf (dT (dOp oGt (zj 4) (dC (.int 100000000000000000000)))) (zN (dOp zah (dOp oIx (dOp oIx (zj 1) (dC (.int 0))) (dC (.int 0))) (dOp oMod (zj 6) (zj 4))) (zE 7)) zab))
 (zH (sJ (sIf (dT (dOp oEq (dCall zO (zf (zj 6) (zf (dC (.int 41)) (zf (dC (.int 3)) zA)))) (dC (.int 0)))) (zN (dOp oIx (dOp oIx (zj 1) (dCall zO (zf (zj 6) (zf (dC (.int 42)) (zf (dB zbm (zf (zj 1) zA)) zA))))) (dC (.int 0))) (zE 7)) zab))
 (zH (zN (dOp oIx (zaY (zf (dC (.int 0)) (zf (dCall zO (zf (zj 6) (zf (dC (.int 43)) (zf (dC (.int 4)) zA)))) (zf (dCall zO (zf (zj 6) (zf (dC (.int 44)) (zf (dC (.int 13)) zA)))) (zf (dOp oMod (zj 6) (dC (.int 10000000000000000000000000000000000000000))) zA))))) (dCall zO (zf (zj 6) (zf (dC (.int 45)) (zf (dC (.int 4)) zA))))) (zE 8))
 (zH (sJ (sIf (dT (dOp oLt (zj 4) (dC (.int 100000000000000000000)))) (zN (dOp oMod (zj 8) (dC (.int 20))) (zE 8)) zab))
 (zaq (dM zbA (zj 3) (zf (dTup (zf (dOp oIx (zj 2) (zj 5)) (zf (zj 7) (zf (dOp zah (dCall zcm (zf (zj 1) (zf (zj 7) zA))) (zj 8)) zA)))) zA))))))))))
 (zZ (zj 3)))))
theorem ziQ:∀ ds So Q,zb6 ds So Q->ds.length=3:=by rintro ds So Q ⟨_,_,_,_,_,_,rfl,_⟩;rfl
theorem zjL:BodyOk 9 zdh zb6:=by
  rintro ds S Q ⟨u,x,y,ns,cs,zs,rfl,hu,hx,hy,zn,z12,hns,gr,nms,q⟩
  unfold zdh
  obtain⟨f,hf,ef⟩:=zdB gr
  obtain⟨lc,hlc,elc,alc⟩:=zpZ gr
  have af:atD (cs.map p2) 0=some (p2 f):=zem (i:=0) (by rw [List.getElem?_map,hf];rfl)
  have bf:=(gr.bd f (List.mem_of_getElem? hf)).1
  have bl:=(gr.bd lc (List.mem_of_getElem? hlc)).1
  have g1:=gr.two
  have g40:=gr.most
  have hfl:=zda gr (show 0<cs.length-1 by omega) hf hlc
  have hx0:Lst (S++[.lst []]) x (cs.map p2):=hx.old
  have hy0:Lst (S++[.lst []]) y (zs.map D.str):=hy.old
  walk_at "g"
  walk_at "drho"
  rw [List.length_map]
  refine⟨_,rfl,by omega,by omega,?_⟩
  generalize hwd:lc.1-f.1+1=wd
  refine za0 (fun i ρ S'=>∃ (bs:List (Str×(Int×Int))) (G:Sto) (w5 w6 w7 w8:Option D),S'=S++Cell.lst (bs.map bcD)::G/\ρ=[some u,some x,some y,some (.ref S.length),some (.int wd),w5,w6,w7,w8]/\bs.length=i/\bs.map (·.1)=zs.take i/\∀ b∈bs,zdv cs b.2/\Bd 175 b.2.1/\Bd 198 b.2.2) ⟨[],[],none,none,none,none,rfl,rfl,rfl,by simp,by simp⟩ (fun _ _ _ _=>True.intro) ?_ ?_
  · rintro i d ρ S' hd ⟨bs,G,w5,w6,w7,w8,rfl,rfl,hl,hnm,hst⟩
    obtain⟨hi,rfl⟩:=zdA hd
    have hin:0+(i:Int)<ns.length:=by omega
    obtain⟨c,hc,ac⟩:=zeT (zs:=ns) (k:=0+(i:Int)) (by omega) hin
    obtain⟨c0,c1⟩:=hns c hc
    have hu1:Lst (S++Cell.lst (bs.map bcD)::G) u (ns.map D.int):=hu.old
    have hx1:Lst (S++Cell.lst (bs.map bcD)::G) x (cs.map p2):=hx.old
    walk_at "g"
    refine⟨c,_,wd,rfl,by decide,by decide,by omega,fun m m0 m1 _=>?_⟩
    walk_at "g"
    refine r_J (fun ρ S'=>S'=S++Cell.lst (bs.map bcD)::G/\∃ pl:Int,f.1<=pl/\pl<=lc.1/\ρ=[some u,some x,some y,some (.ref S.length),some (.int wd),some (.int (0+(i:Int))),some (.int c),some (.int pl),w8]) ?_ ?_
    · walk_at "g"
      refine r_d (fun _=>?_) (fun _=>?_)
      · have r1:=Int.emod_nonneg c (show wd≠0 by omega)
        have r2:=Int.emod_lt_of_pos c (show 0<wd by omega)
        walk_at "g"
        exact⟨rfl,f.1+c%wd,by omega,by omega,rfl⟩
      · walk_at "g"
        exact⟨rfl,f.1+m,by omega,by omega,rfl⟩
    rintro ρ S' ⟨rfl,pl,p0,p1,rfl⟩
    walk_at "g"
    refine r_J (fun ρ S'=>S'=S++Cell.lst (bs.map bcD)::G/\∃ pl:Int,f.1<=pl/\pl<=lc.1/\ρ=[some u,some x,some y,some (.ref S.length),some (.int wd),some (.int (0+(i:Int))),some (.int c),some (.int pl),w8]) ?_ ?_
    · walk_at "g"
      refine⟨c,_,3,rfl,by decide,by decide,by decide,fun m' m0' m1' _=>?_⟩
      walk_at "g"
      refine r_d (fun _=>?_) (fun _=>?_)
      · walk_at "g"
        rw [List.length_map]
        refine⟨c,_,_,rfl,by decide,by decide,by omega,fun j j0 j1 _=>?_⟩
        obtain⟨cc,hcc,acc⟩:=zfb (cs:=cs) j0 j1
        have on:=zsC gr (List.mem_of_getElem? hcc)
        rw [ef,elc] at on
        walk_at "g"
        exact⟨rfl,cc.1,on.1,on.2,rfl⟩
      · walk_at "g"
        exact⟨rfl,pl,p0,p1,rfl⟩
    clear p0 p1 pl
    rintro ρ S' ⟨rfl,pl,p0,p1,rfl⟩
    walk_at "g"
    refine⟨c,_,4,rfl,by decide,by decide,by decide,fun a1 a10 a11 _=>?_⟩
    walk_at "g"
    refine⟨c,_,13,rfl,by decide,by decide,by decide,fun a2 a20 a21 _=>?_⟩
    have r1:=Int.emod_nonneg c (show (10000000000000000000000000000000000000000:Int)≠0 by decide)
    have r2:=Int.emod_lt_of_pos c (show (0:Int)<10000000000000000000000000000000000000000 by decide)
    walk_at "g"
    refine⟨c,_,4,rfl,by decide,by decide,by decide,fun a3 a30 a31 _=>?_⟩
    obtain⟨tw,htw,atw⟩:=zeT (zs:=[0,a1,a2,c%10000000000000000000000000000000000000000]) (k:=a3) a30 a31
    have tw0:0<=tw/\tw<10 ^ 40:=by
      simp only [List.mem_cons,List.not_mem_nil,or_false] at htw
      rcases htw with rfl | rfl | rfl | rfl<;>omega
    clear htw
    have atw':atD [.int 0,.int a1,.int a2,.int (c%10000000000000000000000000000000000000000)] a3=some (.int tw):=atw
    refine zqy (xs:=[.int 0,.int a1,.int a2,.int (c%10000000000000000000000000000000000000000)]) (by walk_at "dlat") atw' ?_
    obtain⟨G2,hG2⟩:∃ G2:Sto,G2=G++[Cell.lst [.int 0,.int a1,.int a2,.int (c%10000000000000000000000000000000000000000)]]:=⟨_,rfl⟩
    rw [show S++(Cell.lst (bs.map bcD)::G++[Cell.lst [D.int 0,.int a1,.int a2,.int (c%10000000000000000000000000000000000000000)]])=S++Cell.lst (bs.map bcD)::G2 by rw [hG2];simp]
    walk_at "g"
    walk_at "drho2"
    refine r_J (fun ρ S'=>S'=S++Cell.lst (bs.map bcD)::G2/\∃ tw:Int,0<=tw/\tw<10 ^ 40/\ρ=[some u,some x,some y,some (.ref S.length),some (.int wd),some (.int (0+(i:Int))),some (.int c),some (.int pl),some (.int tw)]) ?_ ?_
    · walk_at "g"
      refine r_d (fun _=>?_) (fun _=>?_)
      · walk_at "g"
        exact⟨rfl,tw%20,by omega,by omega,rfl⟩
      · walk_at "g"
        exact⟨rfl,tw,by omega,by omega,rfl⟩
    clear atw' atw tw0 tw hG2
    rintro ρ S' ⟨rfl,tw,t0,t1,rfl⟩
    have hlim:(bs.map bcD).length<big:=by rw [List.length_map];unfold big;omega
    obtain⟨z,hz⟩:∃ z,zs[i]?=some z:=⟨zs[i]'(by omega),List.getElem?_eq_getElem (by omega)⟩
    have az:atD (zs.map D.str) (0+(i:Int))=some (.str z):=by
      rw [show (0:Int)+(i:Int)=(i:Int) by omega]
      exact zem (by rw [List.getElem?_map,hz];rfl)
    have hy2:Lst (S++Cell.lst (bs.map bcD)::G2) y (zs.map D.str):=hy.old
    have hx2:Lst (S++Cell.lst (bs.map bcD)::G2) x (cs.map p2):=hx.old
    walk_at "g"
    have on:OnG cs (pl,1):=⟨by rw [ef];show f.1*1<=pl;omega,by rw [elc];show pl<=lc.1*1;omega⟩
    have bp:Bd 170 pl:=Bd.btw bf bl p0 p1
    refine⟨x,cs,pl,rfl,hx2,gr,bp.mono (by decide),on,?_⟩
    have bF:=zpO gr on
    walk_at "g"
    refine⟨bs++[(z,(pl,zdf cs pl+tw))],G2,_,_,_,_,by rw [List.map_append];rfl,rfl,by simp [hl],by rw [List.map_append,hnm,zav hz];rfl,fun b hb=>?_⟩
    rcases List.mem_append.mp hb with hb | hb
    · exact hst b hb
    · have:b=(z,(pl,zdf cs pl+tw)):=by simpa using hb
      subst this
      refine⟨(zqc gr (s:=(pl,zdf cs pl+tw)) on).mpr (by show zdf cs pl<=zdf cs pl+tw;omega),bp.mono (by decide),?_⟩
      exact (Bd.add (n:=192) bF (by show _<2 ^ 192;omega)).mono (by decide)
  rintro ρ S' ⟨bs,G,w5,w6,w7,w8,rfl,rfl,hl,hnm,hst⟩
  rw [zc9] at hl hnm
  rw [List.take_of_length_le (by omega)] at hnm
  walk_at "g"
  refine zsf ?_ (q bs (by omega) ⟨by rw [hnm];exact nms,hst⟩)
  show (bs.map bcD).all (fl 20)=true
  rw [List.all_map,List.all_eq_true]
  intro b hb
  exact zqF (nms.nm (by rw [<- hnm];exact List.mem_map.mpr ⟨b,hb,rfl⟩))
theorem at3 {a b c:Int}{k:Int}{P:Int->Prop}(h0:0<=k)(h1:k<3)(pa:P a)(pb:P b)(pc:P c):∃ v,P v/\atD [.int a,.int b,.int c] k=some (.int v):=by
  obtain⟨v,hv,av⟩:=zeT (zs:=[a,b,c]) (k:=k) h0 h1
  refine⟨v,?_,av⟩
  simp only [List.mem_cons,List.not_mem_nil,or_false] at hv
  rcases hv with rfl | rfl | rfl<;>assumption
theorem fb1 {x y m k:Int}(hx:Bd 198 x)(hy:Bd 198 y)(m0:0<=m)(m1:m<100)(k0:0<=k)(k1:k<100):Bd 230 ((x+y)/2+m-k):=by
 unfold Bd at *;omega
theorem fb2 {x w:Int}(hx:Bd 230 x)(hw:Bd 190 w):Bd 250 (x+w):=by
 unfold Bd at *;omega
theorem fb3 {a b m:Int}(ha:Bd 250 a)(hb:Bd 250 b)(m0:0<=m)(m1:m<b-a+3):Bd 260 (a+m-1):=by
 unfold Bd at *;omega
theorem fb4 {a e:Int}(ha:Bd 260 a)(e0:0<=e)(e1:e<=1000):Bd 280 (a+e):=by
 unfold Bd at *;omega
theorem fb5 {x y:Int}(hx:Bd 175 x)(hy:Bd 175 y):(0:Int)<=(x-y).natAbs/\Bd 190 ((x-y).natAbs:Int)/\Bd 190 ((x-y).natAbs/3:Int):=by
 unfold Bd at *;omega
theorem fb6 {m:Int}(m0:-10<=m)(m1:m<100):Bd 190 m:=by
 show _<2 ^ 190;omega
structure FgW (h0 h1:Int)(F:Fg):Prop where
 v:FgV F
 a:h0-1<=F.f
 b:F.f<=h1+1
 c:F.l<=F.f+1000
theorem zsS {h0 h1 a w b r m e g s:Int}(u0:Bd 250 a)(u1:Bd 250 (a+w))(u2:Bd 250 b)(u3:Bd 250 (b+r))(u4:Bd 260 (h0+m-1))(u5:Bd 280 (h0+m-1+e))(bg:Bd 190 g)(bs:Bd 190 s)(w0:0<=w)(r0:0<=r)(m0:0<=m)(m1:m<h1-h0+3)(e0:0<=e)(e1:e<=1000):FgW h0 h1 ⟨a,a+w,b,b+r,h0+m-1,h0+m-1+e,g,s⟩ :=
 ⟨⟨⟨by dsimp only;omega,by dsimp only;omega,u0.mono (by decide),u1.mono (by decide),u2.mono (by decide),u3.mono (by decide),bg.mono (by decide),bs.mono (by decide)⟩,by dsimp only;omega,u4.mono (by decide),u5.mono (by decide)⟩,by dsimp only;omega,by dsimp only;omega,by dsimp only;omega⟩
def zdS:DSp:=fun ds S Q=>∃ (c:Int) (x y:D) (bs:List (Str×(Int×Int))) (h0 h1:Int),ds=[.int c,x,y,.int h0,.int h1]/\Lst S y (bs.map bcD)/\1<=bs.length/\bs.length<=12/\(∀ b∈bs,Bd 175 b.2.1/\Bd 198 b.2.2)/\h0<=h1/\Bd 250 h0/\Bd 250 h1/\∀ F:Fg,FgW h0 h1 F->Q (fgD F) S
def ze8:DS :=
    (zH (zN (dOp oIx (zj 2) (dCall zO (zf (zj 0) (zf (dC (.int 50)) (zf (dB zbm (zf (zj 2) zA)) zA))))) (zE 5))
 (zH (zN (dOp oIx (zj 2) (dCall zO (zf (zj 0) (zf (dC (.int 51)) (zf (dB zbm (zf (zj 2) zA)) zA))))) (zE 6))
 (zH (zN (dOp zal (dOp zah (dOp oDiv (dOp zah (dOp oIx (zj 5) (dC (.int 1))) (dOp oIx (zj 6) (dC (.int 1)))) (dC (.int 2))) (dCall zO (zf (zj 0) (zf (dC (.int 52)) (zf (dC (.int 7)) zA))))) (dC (.int 3))) (zE 7))
 (zH (zN (dOp zal (dOp zah (dOp oDiv (dOp zah (dOp oIx (zj 5) (dC (.int 2))) (dOp oIx (zj 6) (dC (.int 2)))) (dC (.int 2))) (dCall zO (zf (zj 0) (zf (dC (.int 53)) (zf (dC (.int 9)) zA))))) (dC (.int 5))) (zE 8))
 (zH (zN (dOp zal (dOp zah (zj 3) (dCall zO (zf (zj 0) (zf (dC (.int 54)) (zf (dOp zah (dOp zal (zj 4) (zj 3)) (dC (.int 3))) zA))))) (dC (.int 1))) (zE 9))
 (zH (zN (dOp zah (zj 9) (dOp oIx (zaY (zf (dCall zO (zf (zj 0) (zf (dC (.int 55)) (zf (dC (.int 4)) zA)))) (zf (dCall zO (zf (zj 0) (zf (dC (.int 55)) (zf (dC (.int 12)) zA)))) (zf (dC (.int 1000)) zA)))) (dCall zO (zf (zj 0) (zf (dC (.int 56)) (zf (dC (.int 3)) zA)))))) (zE 10))
 (zH (zN (dOp oIx (zaY (zf (dCall zO (zf (zj 0) (zf (dC (.int 57)) (zf (dC (.int 3)) zA)))) (zf (dCall zO (zf (zj 0) (zf (dC (.int 57)) (zf (dC (.int 9)) zA)))) (zf (dB zlz (zf (dOp zal (dOp oIx (zj 5) (dC (.int 1))) (dOp oIx (zj 6) (dC (.int 1)))) zA)) zA)))) (dCall zO (zf (zj 0) (zf (dC (.int 58)) (zf (dC (.int 3)) zA))))) (zE 11))
 (zH (zN (dOp oIx (zaY (zf (dC (.int 0)) (zf (dOp zal (dCall zO (zf (zj 0) (zf (dC (.int 59)) (zf (dC (.int 5)) zA)))) (dC (.int 2))) (zf (dOp oDiv (dB zlz (zf (dOp zal (dOp oIx (zj 5) (dC (.int 1))) (dOp oIx (zj 6) (dC (.int 1)))) zA)) (dC (.int 3))) zA)))) (dCall zO (zf (zj 0) (zf (dC (.int 60)) (zf (dC (.int 3)) zA))))) (zE 12))
 (zH (zN (dOp oIx (zaY (zf (dC (.int 0)) (zf (dC (.int 0)) (zf (dOp zal (dCall zO (zf (zj 0) (zf (dC (.int 61)) (zf (dC (.int 5)) zA)))) (dC (.int 2))) zA)))) (dCall zO (zf (zj 0) (zf (dC (.int 62)) (zf (dC (.int 3)) zA))))) (zE 13))
 (zZ (dTup (zf (zj 7) (zf (dOp zah (zj 7) (zj 11)) (zf (zj 8) (zf (dOp zah (zj 8) (dCall zO (zf (zj 0) (zf (dC (.int 63)) (zf (dC (.int 9)) zA))))) (zf (zj 9) (zf (zj 10) (zf (zj 12) (zf (zj 13) zA)))))))))))))))))))
theorem zlG:∀ ds So Q,zdS ds So Q->ds.length=5:=by rintro ds So Q ⟨_,_,_,_,_,_,rfl,_⟩;rfl
theorem zmM:BodyOk 14 ze8 zdS:=by
 rintro ds S Q ⟨c,x,y,bs,h0,h1,rfl,hy,l1,l12,hbs,hh,b0,b1,q⟩
 unfold ze8
 walk_at "g"
 try walk_at "drho"
 rw [List.length_map]
 refine⟨c,_,_,rfl,by decide,by decide,by omega,fun i i0 i1 _=>?_⟩
 obtain⟨o,ho,ao⟩:=znb (bs:=bs) i0 i1
 obtain⟨bo1,bo2⟩:=hbs o (List.mem_of_getElem? ho)
 walk_at "g"
 try walk_at "drho2"
 rw [List.length_map]
 refine⟨c,_,_,rfl,by decide,by decide,by omega,fun j j0 j1 _=>?_⟩
 obtain⟨t,ht,at'⟩:=znb (bs:=bs) j0 j1
 obtain⟨bt1,bt2⟩:=hbs t (List.mem_of_getElem? ht)
 clear ho ht ao hbs
 walk_at "g"
 try walk_at "drho2"
 refine⟨c,_,_,rfl,by decide,by decide,by decide,fun m1 m10 m11 _=>?_⟩
 walk_at "g"
 try walk_at "drho2"
 refine⟨c,_,_,rfl,by decide,by decide,by decide,fun m2 m20 m21 _=>?_⟩
 walk_at "g"
 try walk_at "drho2"
 refine⟨c,_,_,rfl,by decide,by decide,by omega,fun m3 m30 m31 _=>?_⟩
 walk_at "g"
 refine⟨c,_,_,rfl,by decide,by decide,by omega,fun m4 m40 m41 _=>?_⟩
 walk_at "g"
 refine⟨c,_,_,rfl,by decide,by decide,by omega,fun m5 m50 m51 _=>?_⟩
 walk_at "g"
 try walk_at "drho2"
 refine⟨c,_,_,rfl,by decide,by decide,by omega,fun m6 m60 m61 _=>?_⟩
 obtain⟨e,⟨e0,e1⟩,ae⟩:=at3 (a:=m4) (b:=m5) (c:=1000) (k:=m6) (P:=fun v=>0<=v/\v<=1000) m60 m61 (by omega) (by omega) (by omega)
 walk_at "g"
 refine⟨c,_,_,rfl,by decide,by decide,by omega,fun n4 n40 n41 _=>?_⟩
 walk_at "g"
 refine⟨c,_,_,rfl,by decide,by decide,by omega,fun n5 n50 n51 _=>?_⟩
 walk_at "g"
 try walk_at "drho2"
 refine⟨c,_,_,rfl,by decide,by decide,by omega,fun n6 n60 n61 _=>?_⟩
 obtain⟨wd,⟨wd0,bwd⟩,awd⟩:=at3 (a:=n4) (b:=n5) (c:=(o.2.1-t.2.1).natAbs) (k:=n6) (P:=fun v=>0<=v/\Bd 190 v) n60 n61 ⟨n40,fb6 (by omega) (by omega)⟩ ⟨n50,fb6 (by omega) (by omega)⟩ ⟨(fb5 bo1 bt1).1,(fb5 bo1 bt1).2.1⟩
 walk_at "g"
 refine⟨c,_,_,rfl,by decide,by decide,by omega,fun p4 p40 p41 _=>?_⟩
 walk_at "g"
 try walk_at "drho2"
 refine⟨c,_,_,rfl,by decide,by decide,by omega,fun p6 p60 p61 _=>?_⟩
 obtain⟨dr,bdr,adr⟩:=at3 (a:=0) (b:=p4-2) (c:=(o.2.1-t.2.1).natAbs/3) (k:=p6) (P:=fun v=>Bd 190 v) p60 p61 (fb6 (by decide) (by decide)) (fb6 (by omega) (by omega)) (fb5 bo1 bt1).2.2
 walk_at "g"
 refine⟨c,_,_,rfl,by decide,by decide,by omega,fun q4 q40 q41 _=>?_⟩
 walk_at "g"
 try walk_at "drho2"
 refine⟨c,_,_,rfl,by decide,by decide,by omega,fun q6 q60 q61 _=>?_⟩
 obtain⟨rs,brs,ars⟩:=at3 (a:=0) (b:=0) (c:=q4-2) (k:=q6) (P:=fun v=>Bd 190 v) q60 q61 (fb6 (by decide) (by decide)) (fb6 (by decide) (by decide)) (fb6 (by omega) (by omega))
 walk_at "g"
 refine⟨c,_,_,rfl,by decide,by decide,by omega,fun r4 r40 r41 _=>?_⟩
 walk_at "g"
 have v0:=fb1 (k:=3) (bo1.mono (by decide)) (bt1.mono (by decide)) m10 (by omega) (by decide) (by decide)
 have v2:=fb1 (k:=5) (bo2.mono (by decide)) (bt2.mono (by decide)) m20 (by omega) (by decide) (by decide)
 have v4:=fb3 b0 b1 m30 m31
 exact zaJ rfl (q _ (zsS (v0.mono (by decide)) (fb2 v0 bwd) (v2.mono (by decide)) (fb2 v2 (fb6 (by omega) (by omega))) v4 (fb4 v4 e0 e1) bdr brs wd0 r40 m30 m31 e0 e1))
structure VlW (V:Vl)(most fogs hours:Int):Prop where
 ok:zdQ V
 nm:zhI (V.bs.map (·.1))
 mb:(V.bs.length:Int)<=most
 mf:(V.fs.length:Int)<=fogs
 hr:V.h1<V.h0+hours
 d3:V.dl<=3
 h59:∀ z,V.hz=some z->z<=10 ^ 59
 st:∀ b∈V.bs,Bd 175 b.2.1/\Bd 198 b.2.2
 cb:∀ c∈V.cs,Bd 169 c.1/\Bd 169 c.2
 fw:∀ F∈V.fs,FgW V.h0 V.h1 F
 b0:Bd 170 V.h0
abbrev vlD (x y z:D)(V:Vl):D:=.tup [x,y,z,zbU V.hz,.int V.h0,.int V.h1,.int V.dl]
def VlS (S:Sto)(x y z:D)(V:Vl):Prop:=Lst S x (V.cs.map p2)/\Lst S y (V.bs.map bcD)/\Lst S z (V.fs.map fgD)
theorem VlS.old {S T:Sto}{x y z:D}{V:Vl}(h:VlS S x y z V):VlS (S++T) x y z V:=⟨h.1.old,h.2.1.old,h.2.2.old⟩
def zc5:DSp:=fun ds S Q=>∃ (ns:List Int) (most fogs hours:Int),ds=[.rl (ns.map D.int),.int most,.int fogs,.int hours]/\ns.length<=63/\(∀ n∈ns,Hg n)/\1<=most/\most<=12/\0<=fogs/\fogs<=12/\1<=hours/\hours<=10 ^ 49/\∀ (T:Sto) (x y z:D) (V:Vl),VlW V most fogs hours->VlS (S++T) x y z V->Q (vlD x y z V) (S++T)
def zeG:DS :=
    (zH (zN (dCall zdz (zf (zj 0) (zf (dC (.int 0)) zA))) (zE 4))
 (zH (zN (dOp oEq (dCall zO (zf (zj 4) (zf (dC (.int 0)) (zf (dC (.int 3)) zA)))) (dC (.int 0))) (zE 5))
 (zH (zN (dOp zah (dC (.int 1)) (dCall zO (zf (zj 4) (zf (dC (.int 1)) (zf (zj 1) zA))))) (zE 6))
 (zH (zN (dCall zb1 (zf (dCall zdz (zf (zj 0) (zf (dC (.int 1)) zA))) (zf (dOp zah (dC (.int 2)) (dCall zO (zf (zj 4) (zf (dC (.int 2)) (zf (dC (.int 6)) zA))))) (zf (zj 5) zA)))) (zE 7))
 (zH (zN (dOp zah (dCall zcl (zf (zj 0) (zf (dC (.int 2)) (zf (dOp zah (zj 6) (zj 2)) zA)))) (dLC 1 [] (zee (zf (zj 6) zA)) (zE 0) zcs (dC (.int 0)))) (zE 8))
 (zH (zN (dCall zb6 (zf (zj 8) (zf (zj 7) (zf (dCall zcB (zf (zj 4) (zf (zj 6) zA))) zA)))) (zE 9))
 (zH (zN (dOp oIx (zaY (zf (dOp zal (dCall zO (zf (zj 4) (zf (dC (.int 3)) (zf (dC (.int 9)) zA)))) (dC (.int 4))) (zf (dOp oMod (zj 4) (dC (.int 100000000000000000000000000000000000000000000000000))) zA))) (dOp oDiv (dCall zO (zf (zj 4) (zf (dC (.int 4)) (zf (dC (.int 3)) zA)))) (dC (.int 2)))) (zE 10))
 (zH (zN (dOp zah (zj 10) (dCall zO (zf (zj 4) (zf (dC (.int 5)) (zf (zj 3) zA))))) (zE 11))
 (zH (zN (dLC 1 [7,9,10,11] (zbx (dSl zlk (zj 8) (some (zj 6)) (some (dOp zal (dB zbm (zf (zj 8) zA)) (zj 6))))) (zE 0) zcs (dCall zdS (zf (zj 0) (zf (zj 1) (zf (zj 2) (zf (zj 3) (zf (zj 4) zA))))))) (zE 12))
 (zH (zN (dOp oIx (zaY (zf (dC .non) (zf (dCall zO (zf (zj 4) (zf (dC (.int 6)) (zf (dC (.int 400)) zA)))) (zf (dC (.int 100000000000000000000000000000000000000000000000000000000000)) zA)))) (dCall zO (zf (zj 4) (zf (dC (.int 7)) (zf (dC (.int 3)) zA))))) (zE 13))
 (zZ (dTup (zf (zj 7) (zf (zj 9) (zf (zj 12) (zf (zj 13) (zf (zj 10) (zf (zj 11) (zf (dCall zO (zf (zj 4) (zf (dC (.int 8)) (zf (dC (.int 4)) zA)))) zA)))))))))))))))))))
theorem zli:∀ ds So Q,zc5 ds So Q->ds.length=4:=by rintro ds So Q ⟨_,_,_,_,rfl,_⟩;rfl
theorem zlT:BodyOk 14 zeG zc5:=by
  rintro ds S Q ⟨ns,most,fogs,hours,rfl,hl,hg,m1,m12,f0,f12,hr1,hr2,q⟩
  unfold zeG
  walk_at "g"
  refine⟨ns,0,rfl,hg,by decide,fun hd hhd=>?_⟩
  walk_at "g"
  refine⟨hd,0,3,rfl,by decide,by decide,by decide,fun a0 _ _ _=>?_⟩
  walk_at "g"
  refine⟨hd,1,most,rfl,by decide,by decide,by omega,fun a1 a10 a11 _=>?_⟩
  walk_at "g"
  refine⟨ns,1,rfl,hg,by decide,fun c1 hc1=>?_⟩
  walk_at "g"
  refine⟨hd,2,6,rfl,by decide,by decide,by decide,fun a2 a20 a21 _=>?_⟩
  walk_at "g"
  refine⟨c1,_,_,rfl,hc1,by omega,by omega,fun cs hcl gr hcb=>?_⟩
  unfold New
  walk_at "drho"
  obtain⟨S1,hS1⟩:∃ S1:Sto,S1=S++[.lst (cs.map p2)]:=⟨_,rfl⟩
  have kc1:Lst S1 (.ref S.length) (cs.map p2):=hS1▸Lst.at0
  rw [<- hS1]
  walk_at "g"
  refine⟨ns,2,1+a1+fogs,rfl,hl,by decide,by omega,by omega,fun zs hzl hzs=>?_⟩
  walk_at "g"
  refine⟨1+a1,rfl,by omega,by omega,?_⟩
  refine zbB (fun _=>true) (onI fun _=>.int 0) True.intro (by rw [zc9];unfold big;omega) (fun i d ys hd hw=>?_) ?_
  · obtain⟨hi,rfl⟩:=zdA hd
    walk_at "g"
    exact zcN hd hw rfl rfl
  rw [filter_true]
  obtain⟨os,hos,hol,hoz⟩:∃ os:List Int,(upto 0 (1+a1).toNat).map (onI fun _=>D.int 0)=os.map D.int/\os.length=(1+a1).toNat/\∀ z∈os,z=0:=by
    refine⟨List.replicate (1+a1).toNat 0,?_,by simp,fun z hz=>List.eq_of_mem_replicate hz⟩
    unfold upto
    rw [List.map_map,List.map_replicate]
    refine List.ext_getElem (by simp) fun j h1 h2=>?_
    simp [onI]
  rw [hos]
  clear hos
  walk_at "g"
  refine ztb (xs:=zs.map D.int) (ys:=os.map D.int) (by walk_at "dlat") (by walk_at "dlat") (by rw [List.length_map,List.length_map];unfold big;omega) ?_
  rw [<- List.map_append]
  have hmn:∀ n∈zs++os,0<=n/\n<10 ^ 60:=fun n hn=>by
    rcases List.mem_append.mp hn with h | h
    · exact hzs n h
    · rw [hoz n h];decide
  have hml:(zs++os).length=zs.length+(1+a1).toNat:=by rw [List.length_append,hol]
  generalize zs++os=nb at hmn hml
  walk_at "g"
  walk_at "drho2"
  obtain⟨S2,hS2⟩:∃ S2:Sto,S2=S1++[.lst (zs.map D.int),.lst (os.map D.int),.lst (nb.map D.int)]:=⟨_,rfl⟩
  have kn2:Lst S2 (.ref (S1.length+2)) (nb.map D.int):=hS2▸Lst.at rfl
  have kc2:Lst S2 (.ref S.length) (cs.map p2):=hS2▸kc1.old
  rw [<- hS2]
  walk_at "g"
  refine⟨hd,_,rfl,by omega,by omega,fun nm hnl hnm=>?_⟩
  unfold New
  obtain⟨S3,hS3⟩:∃ S3:Sto,S3=S2++[.lst (nm.map D.str)]:=⟨_,rfl⟩
  have ks3:Lst S3 (.ref S2.length) (nm.map D.str):=hS3▸Lst.at0
  have kn3:Lst S3 (.ref (S1.length+2)) (nb.map D.int):=hS3▸kn2.old
  have kc3:Lst S3 (.ref S.length) (cs.map p2):=hS3▸kc2.old
  rw [<- hS3]
  walk_at "g"
  refine⟨_,_,_,nb,cs,nm,rfl,kn3,kc3,ks3,by omega,by omega,hmn,gr,hnm,fun bs hbl hbo=>?_⟩
  unfold New
  obtain⟨S4,hS4⟩:∃ S4:Sto,S4=S3++[.lst (bs.map bcD)]:=⟨_,rfl⟩
  have kb4:Lst S4 (.ref S3.length) (bs.map bcD):=hS4▸Lst.at0
  have kn4:Lst S4 (.ref (S1.length+2)) (nb.map D.int):=hS4▸kn3.old
  have kc4:Lst S4 (.ref S.length) (cs.map p2):=hS4▸kc3.old
  rw [<- hS4]
  walk_at "g"
  refine⟨hd,3,9,rfl,by decide,by decide,by decide,fun a3 a30 a31 _=>?_⟩
  walk_at "g"
  refine⟨hd,4,3,rfl,by decide,by decide,by decide,fun a4 a40 a41 _=>?_⟩
  have r1:=Int.emod_nonneg hd (show (100000000000000000000000000000000000000000000000000:Int)≠0 by decide)
  have r2:=Int.emod_lt_of_pos hd (show (0:Int)<100000000000000000000000000000000000000000000000000 by decide)
  walk_at "g"
  obtain⟨h0,hh0,ah0⟩:=zeT (zs:=[a3-4,hd%100000000000000000000000000000000000000000000000000]) (k:=a4/2) (by omega) (by show _<(2:Int);omega)
  have ah0':atD [.int (a3-4),.int (hd%100000000000000000000000000000000000000000000000000)] (a4/2)=some (.int h0):=ah0
  have bh0:-4<=h0/\h0<10 ^ 50:=by
    simp only [List.mem_cons,List.not_mem_nil,or_false] at hh0
    rcases hh0 with rfl | rfl<;>omega
  clear hh0 ah0
  walk_at "g"
  refine⟨hd,5,hours,rfl,by decide,by decide,by omega,fun a5 a50 a51 _=>?_⟩
  obtain⟨S5,hS5⟩:∃ S5:Sto,S5=S4++[.lst [.int (a3-4),.int (hd%100000000000000000000000000000000000000000000000000)]]:=⟨_,rfl⟩
  have kb5:Lst S5 (.ref S3.length) (bs.map bcD):=hS5▸kb4.old
  have kn5:Lst S5 (.ref (S1.length+2)) (nb.map D.int):=hS5▸kn4.old
  have kc5:Lst S5 (.ref S.length) (cs.map p2):=hS5▸kc4.old
  rw [<- hS5]
  walk_at "drho2"
  walk_at "g"
  rw [List.length_map,zrY]
  have hfl:(cutD nb (some (1+a1)) (some ((nb.length:Int)-(1+a1)))).length<=fogs.toNat:=by
    refine Nat.le_trans (zrg _ _ _) ?_
    unfold slD
    dsimp only
    rw [if_neg (by omega),if_neg (by omega)]
    omega
  generalize cutD nb (some (1+a1)) (some ((nb.length:Int)-(1+a1)))=fcs at hfl
  obtain⟨S6,hS6⟩:∃ S6:Sto,S6=S5++[.lst (fcs.map D.int)]:=⟨_,rfl⟩
  have kf6:Lst S6 (.ref S5.length) (fcs.map D.int):=hS6▸Lst.at0
  have kb6:Lst S6 (.ref S3.length) (bs.map bcD):=hS6▸kb5.old
  have kc6:Lst S6 (.ref S.length) (cs.map p2):=hS6▸kc5.old
  rw [<- hS6]
  have hb250:Bd 250 h0/\Bd 250 (h0+a5)/\Bd 170 h0:=⟨by show _<2 ^ 250;omega,by show _<2 ^ 250;omega,by show _<2 ^ 170;omega⟩
  refine zvO (fun i ys S'=>S'=S6/\∃ fs:List Fg,ys=fs.map fgD/\fs.length=i/\∀ F∈fs,FgW h0 (h0+a5) F) ⟨rfl,[],rfl,rfl,by simp⟩ (fun i ys S' h=>h.1▸kf6) (by rw [List.length_map];unfold big;omega) ?_ ?_
  · rintro i d ys S' hd ⟨rfl,fs,rfl,hfl',hfs⟩
    obtain⟨v,_,rfl⟩:=zfG hd
    walk_at "g"
    refine⟨v,_,_,bs,h0,h0+a5,rfl,kb6,by omega,by omega,fun b hb=>(hbo.st b hb).2,by omega,hb250.1,hb250.2.1,fun F hF=>?_⟩
    refine⟨rfl,fs++[F],by rw [List.map_append];rfl,by simp [hfl'],fun G hG=>?_⟩
    rcases List.mem_append.mp hG with h | h
    · exact hfs G h
    · have:G=F:=by simpa using h
      subst this;exact hF
  rintro ys S' ⟨rfl,fs,rfl,hfl2,hfs⟩
  rw [List.length_map] at hfl2
  unfold New
  obtain⟨S7,hS7⟩:∃ S7:Sto,S7=S'++[.lst (fs.map fgD)]:=⟨_,rfl⟩
  have kf7:Lst S7 (.ref S'.length) (fs.map fgD):=hS7▸Lst.at0
  have kb7:Lst S7 (.ref S3.length) (bs.map bcD):=hS7▸kb6.old
  have kc7:Lst S7 (.ref S.length) (cs.map p2):=hS7▸kc6.old
  have e7:∃ T,S7=S++T:=zeL (zeL (zeL (zeL (zeL (zeL ⟨_,hS1⟩ hS2) hS3) hS4) hS5) hS6) hS7
  rw [<- hS7]
  clear hS7 hS6 hS5 hS4 hS3 hS2 hS1
  walk_at "g"
  refine⟨hd,6,400,rfl,by decide,by decide,by decide,fun a6 a60 a61 _=>?_⟩
  walk_at "g"
  refine⟨hd,7,3,rfl,by decide,by decide,by decide,fun a7 a70 a71 _=>?_⟩
  obtain⟨hz,ahz,hz0⟩:∃ hz:Option Int,atD [.non,.int a6,.int 100000000000000000000000000000000000000000000000000000000000] a7=some (zbU hz)/\∀ z,hz=some z->0<=z/\z<=10 ^ 59:=by
    have:a7=0\/a7=1\/a7=2:=by omega
    rcases this with rfl | rfl | rfl
    · exact⟨none,rfl,fun z h=>by cases h⟩
    · exact⟨some a6,rfl,fun z h=>by cases h;omega⟩
    · exact⟨some 100000000000000000000000000000000000000000000000000000000000,rfl,fun z h=>by cases h;decide⟩
  walk_at "g"
  refine⟨hd,8,4,rfl,by decide,by decide,by decide,fun a8 a80 a81 _=>?_⟩
  walk_at "g"
  obtain⟨T7,rfl⟩:=e7
  rw [List.append_assoc]
  have hbl':(bs.length:Int)=1+a1:=by omega
  refine fin_same (q _ _ _ _ ⟨cs,bs,fs,hz,h0,h0+a5,a8⟩ ?_ (by rw [<- List.append_assoc];exact VlS.old ⟨kc7,kb7,kf7⟩))
  exact { ok:={ gr:=gr,b1:=by show 1<=bs.length;omega,b12:=by show bs.length<=12;omega,nm:=fun b hb=>hbo.nm.nm (List.mem_map.mpr ⟨b,hb,rfl⟩),nd:=let ⟨_,_,_,_,_,_,_,_,h,_⟩:=hbo.nm;h,st:=fun b hb=>(hbo.st b hb).1,bd:=fun b hb=>⟨(hbo.st b hb).2.1.mono (by decide),(hbo.st b hb).2.2.mono (by decide)⟩,f12:=by show fs.length<=12;omega,fg:=fun F hF=>(hfs F hF).v,hz:=fun z h=>(hz0 z h).1,hh:=by show h0<=h0+a5;omega,b0:=hb250.1,bl:=hb250.2.1,dl:=a80 },nm:=hbo.nm,mb:=by show (bs.length:Int)<=most;omega,mf:=by show (fs.length:Int)<=fogs;omega,hr:=by show h0+a5<h0+hours;omega,d3:=by show a8<=3;omega,h59:=fun z h=>(hz0 z h).2,st:=fun b hb=>(hbo.st b hb).2,cb:=hcb,fw:=hfs,b0:=hb250.2.2 }
def zaR:DSp:=fun ds S Q=>∃ (x:D) (cs:List (Int×Int)),ds=[x]/\Lst S x (cs.map p2)/\Grd cs/\Q .non S
def zby : DS :=
    (zH (sIf (dOr (dT (dOp oLt (dB zbm (zf (zj 0) zA)) (dC (.int 2)))) (dT (dOp oGt (dB zbm (zf (zj 0) zA)) (dC (.int 40))))) zcn zab)
 (zb4 (zkn (zf (dC (.int 1)) (zf (dB zbm (zf (zj 0) zA)) zA))) (zE 1) (sIf (dT (dOp oLe (dOp oIx (dOp oIx (zj 0) (zj 1)) (dC (.int 0))) (dOp oIx (dOp oIx (zj 0) (dOp zal (zj 1) (dC (.int 1)))) (dC (.int 0))))) zcn zab)))
theorem zfw:∀ ds So Q,zaR ds So Q->ds.length=1:=by rintro ds So Q ⟨_,_,rfl,_⟩;rfl
theorem zfM:BodyOk 2 zby zaR:=by
 rintro ds S Q ⟨x,cs,rfl,hx,g,q⟩
 unfold zby
 have g1:=g.two
 have g2:=g.most
 walk_at "g"
 rw [List.length_map]
 refine r_d (fun z=>absurd z (by omega)) (fun _=>?_)
 walk_at "g"
 rw [List.length_map]
 refine r_d (fun z=>absurd z (by omega)) (fun _=>?_)
 walk_at "g"
 rw [List.length_map]
 refine⟨_,_,rfl,?_⟩
 refine za0 (fun i ρ S'=>S'=S/\∃ w:Option D,ρ=[some x,w]) ⟨rfl,none,rfl⟩ (fun _ _ _ _=>True.intro) ?_ ?_
 ·rintro i d ρ S' hd ⟨rfl,w,rfl⟩
  obtain⟨hi,rfl⟩:=zdA hd
  obtain⟨a,ha,aa⟩:=zfb (cs:=cs) (k:=1+(i:Int)) (by omega) (by omega)
  obtain⟨b,hb,ab⟩:=zfb (cs:=cs) (k:=1+(i:Int)-1) (by omega) (by omega)
  have hlt:=zda g (show (1+(i:Int)-1).toNat<(1+(i:Int)).toNat by omega) hb ha
  walk_at "g"
  refine r_d (fun z=>absurd z (by omega)) (fun _=>?_)
  walk_at "g"
  exact⟨rfl,_,rfl⟩
 ·rintro ρ S' ⟨rfl,w,rfl⟩
  exact fin_same q
def zcO:DSp:=fun ds S Q=>∃ (S0:Sto) (x:D) (cs:List (Int×Int)),ds=[.ref S0.length,x]/\S=S0++[.ins "Ground" []]/\Lst S0 x (cs.map p2)/\Grd cs/\Q .non (S0++[.ins "Ground" [("corners",.ref (S0.length+1))],.lst (cs.map p2)])
def zbI:DS :=
    (zH (zaq (dCall zaR (zf (zj 1) zA)))
 (zeb "Ground" "corners" (zj 0) (dB ze9 (zf (zj 1) zA))))
theorem ziM:∀ ds So Q,zcO ds So Q->ds.length=2:=by rintro ds So Q ⟨_,_,_,rfl,_⟩;rfl
theorem zjQ:BodyOk 2 zbI zcO:=by
 rintro ds S Q ⟨S0,x,cs,rfl,rfl,hx,g,q⟩
 unfold zbI
 have hx':Lst (S0++[.ins "Ground" []]) x (cs.map p2):=hx.old
 walk_at "g"
 refine⟨x,cs,rfl,hx',g,?_⟩
 walk_at "g"
 refine⟨S0.length,[],rfl,zb5,by decide,?_⟩
 rw [zcJ]
 exact fin_same q
def zfk:DSp:=znu "Ground" zcO
def zaT:DSp:=fun ds S Q=>∃ (x y:D) (xs ys:List D),ds=[x,y]/\Lst S x xs/\Lst S y ys/\1<=xs.length/\xs.length<=12/\ys.length<=12/\Q .non S
def zbw:DS :=
    (zH (sIf (dOr (dT (dOp oLt (dB zbm (zf (zj 0) zA)) (dC (.int 1)))) (dT (dOp oGt (dB zbm (zf (zj 0) zA)) (dC (.int 12))))) zcn zab)
 (sIf (dT (dOp oGt (dB zbm (zf (zj 1) zA)) (dC (.int 12)))) zcn zab))
theorem zfy:∀ ds So Q,zaT ds So Q->ds.length=2:=by rintro ds So Q ⟨_,_,_,_,rfl,_⟩;rfl
theorem zfF:BodyOk 2 zbw zaT:=by
 rintro ds S Q ⟨x,y,xs,ys,rfl,hx,hy,h1,h2,h3,q⟩
 unfold zbw
 walk_at "g"
 rw [decide_eq_false (show ¬ ((xs.length:Int)<1) by omega)]
 walk_at "g"
 rw [decide_eq_false (show ¬ ((12:Int)<xs.length) by omega)]
 walk_at "g"
 rw [decide_eq_false (show ¬ ((12:Int)<ys.length) by omega)]
 walk_at "g"
 exact fin_same q
def onC (p:Nat->Bool):D->D
 | .str z=>.bl (p (z.cps.toList.headD 0))
 | d=>d
theorem zoC {z:Str}{i:Nat}{d:D}(h:(signs z)[i]?=some d):∃ c,z.cps.toList[i]?=some c/\d=.str ⟨#[c]⟩:=by
 unfold signs at h
 rw [List.getElem?_map] at h
 cases e:z.cps.toList[i]? with
 | none=>rw [e] at h;cases h
 | some p=>rw [e] at h;cases h;exact⟨p,rfl,rfl⟩
theorem znQ (p:Nat->Bool)(z:Str):(signs z).map (onC p)=(z.cps.toList.map p).map D.bl:=by
 unfold signs
 rw [List.map_map,List.map_map];rfl
theorem zog (z:Str):(signs z).length=z.length:=by
 unfold signs
 rw [List.length_map];exact Array.length_toList
def zdO:DSp:=fun ds S Q=>∃ z:Str,ds=[.str z]/\z.length<=1000/\Q (.bl (nmB z)) S
def ze6:DS :=
    (zH (sIf (dOr (dT (dOp oLt (dB zbm (zf (zj 0) zA)) (dC (.int 1)))) (dT (dOp oGt (dB zbm (zf (zj 0) zA)) (dC (.int 8))))) (zZ (dC (.bl false))) zab)
 (zZ (dB zgV (zf (dLC 1 [] (zbx (zj 0)) (zE 0) zcs (dOp oIn (zj 0) (dC (.str "abcdefghijklmnopqrstuvwxyz")))) zA))))
theorem zlD:∀ ds So Q,zdO ds So Q->ds.length=1:=by rintro ds So Q ⟨_,rfl,_⟩;rfl
theorem zmT:BodyOk 1 ze6 zdO:=by
 rintro ds S Q ⟨z,rfl,hz,q⟩
 unfold ze6
 have hb:z.length<=big:=by unfold big;omega
 walk_at "g"
 refine zow hb ?_
 walk_at "g"
 unfold nmB at q
 refine r_d (fun h=>?_) (fun h=>?_)
 ·walk_at "g"
  rw [decide_eq_false (show ¬ 1<=z.length by omega)] at q
  exact fin_same q
 rw [decide_eq_true (show 1<=z.length by omega)] at q
 walk_at "g"
 refine zow hb ?_
 walk_at "g"
 refine r_d (fun h=>?_) (fun h=>?_)
 ·walk_at "g"
  rw [decide_eq_false (show ¬ z.length<=8 by omega)] at q
  exact fin_same q
 rw [decide_eq_true (show z.length<=8 by omega)] at q
 walk_at "g"
 refine zbB (fun _=>true) (onC fun c=>decide (c∈abc)) True.intro (by rw [zog];exact hb) (fun i d ys hd hw=>?_) ?_
 ·obtain⟨c,_,rfl⟩:=zoC hd
  walk_at "g"
  rw [zsN]
  exact zcN hd hw rfl rfl
 rw [filter_true,znQ]
 walk_at "g"
 refine zgQ Lst.at0 rfl ?_
 refine zaJ rfl ?_
 rw [List.all_map]
 exact q
def onS (p:Str->D):D->D
 | .str z=>p z
 | d=>d
theorem zhG {zs:List Str}{i:Nat}{d:D}(h:(zs.map D.str)[i]?=some d):∃ z,zs[i]?=some z/\d=.str z:=by
 rw [List.getElem?_map] at h
 cases e:zs[i]? with
 | none=>rw [e] at h;cases h
 | some p=>rw [e] at h;cases h;exact⟨p,rfl,rfl⟩
theorem zrN (f:Str->D)(zs:List Str):(zs.map D.str).map (onS f)=zs.map f:=by rw [List.map_map];rfl
def za2:DSp:=fun ds S Q=>∃ (x:D) (zs:List Str),ds=[x]/\Lst S x (zs.map D.str)/\zs.length<=100/\(∀ z∈zs,nmB z=true)/\zs.Nodup/\Q .non S
def zbM:DS :=
    (zH (sIf (zeX (dT (dB zgV (zf (dLC 1 [] (zbx (zj 0)) (zE 0) zcs (dCall zdO (zf (zj 0) zA))) zA)))) zcn zab)
 (sIf (dT (dOp oLt (dB znk (zf (zj 0) zA)) (dB zbm (zf (zj 0) zA)))) zcn zab))
theorem zf6:∀ ds So Q,za2 ds So Q->ds.length=1:=by rintro ds So Q ⟨_,_,rfl,_⟩;rfl
theorem zgv:BodyOk 1 zbM za2:=by
 rintro ds S Q ⟨x,zs,rfl,hx,hl,hn,nd,q⟩
 unfold zbM
 walk_at "g"
 refine zbB (fun _=>true) (onS fun z=>.bl (nmB z)) hx (by rw [List.length_map];unfold big;omega) (fun i d ys hd hw=>?_) ?_
 ·obtain⟨z,hz,rfl⟩:=zhG hd
  walk_at "g"
  refine⟨z,rfl,by have:=(zhQ.mp (hn z (List.mem_of_getElem? hz))).2.1;omega,?_⟩
  exact zcN hd hw rfl rfl
 rw [filter_true,zrN,show zs.map (fun z=>D.bl (nmB z))=(zs.map nmB).map D.bl by rw [List.map_map];rfl]
 walk_at "g"
 refine zgQ (b:=true) Lst.at0 (by rw [List.all_map,List.all_eq_true];exact hn) ?_
 walk_at "g"
 refine zt6 (zs:=zs) hx.old (by omega) ?_
 rw [zmU nd]
 have hx1:Lst (S++[Cell.lst ((zs.map nmB).map D.bl)]) x (zs.map D.str):=hx.old
 walk_at "g"
 rw [List.length_map,decide_eq_false (show ¬ ((zs.length:Int)<zs.length) by omega)]
 walk_at "g"
 exact zaJ rfl q
def zdE:DSp:=fun ds S Q=>∃ (a b:Int×Int),ds=[p2 a,p2 b]/\zax a.1 b.2/\zax b.1 a.2/\Q (.bl (flt a b)) S
def zjc:DS :=
  (zZ (dOp oLt (dOp zaD (dOp oIx (zj 0) (dC (.int 0))) (dOp oIx (zj 1) (dC (.int 1)))) (dOp zaD (dOp oIx (zj 1) (dC (.int 0))) (dOp oIx (zj 0) (dC (.int 1))))))
theorem zpi:∀ ds So Q,zdE ds So Q->ds.length=2:=by rintro ds So Q ⟨_,_,rfl,_⟩;rfl
theorem zr8:BodyOk 2 zjc zdE:=by
 rintro ds S Q ⟨a,b,rfl,c1,c2,q⟩
 unfold zjc
 walk_at "g"
 exact fin_same q
def zd3:DSp:=fun ds S Q=>∃ (g:D) (cs:List (Int×Int)) (p:Int×Int),ds=[g,p2 p]/\GAt S g cs/\Grd cs/\Bd 1000 p.1/\Bd 1000 p.2/\Q (.bl (decide (ziu cs*p.2<=p.1)&&decide (p.1<=zgm cs*p.2))) S
def zhu:DS :=
    (zH (zN (dTup (zf (dOp oIx (dOp oIx (zaV "corners" (zj 0)) (dC (.int 0))) (dC (.int 0))) (zf (dC (.int 1)) zA))) (zE 2))
 (zH (zN (dTup (zf (dOp oIx (dOp oIx (zaV "corners" (zj 0)) (dUn zcW (dC (.int 1)))) (dC (.int 0))) (zf (dC (.int 1)) zA))) (zE 3))
 (zZ (zhz (zhS (dCall zdE (zf (zj 1) (zf (zj 2) zA)))) (zhS (dCall zdE (zf (zj 3) (zf (zj 1) zA))))))))
theorem znL:∀ ds So Q,zd3 ds So Q->ds.length=2:=by rintro ds So Q ⟨_,_,_,rfl,_⟩;rfl
theorem zpD:BodyOk 4 zhu zd3:=by
 rintro ds S Q ⟨g,cs,p,rfl,⟨n,l,rfl,hn,hl⟩,gr,b1,b2,q⟩
 unfold zhu
 have g1:=gr.two
 obtain⟨a,ha,ea⟩:=zdB gr
 obtain⟨z,hz,ez⟩:=zid gr
 have aa:atD (cs.map p2) 0=some (p2 a):=zem (i:=0) (by rw [List.getElem?_map,ha];rfl)
 have az:atD (cs.map p2) (-1)=some (p2 z):=by
  have hne:cs≠[]:=fun e=>by rw [e] at g1;simp at g1
  have en:cs=cs.dropLast++[z]:=by
   have h2:=List.dropLast_concat_getLast hne
   have h3:cs.getLast hne=z:=by
    rw [List.getLast_eq_getElem]
    have hl':=zbo hz
    rw [List.getElem?_eq_getElem hl'] at hz
    cases hz;rfl
   rw [h3] at h2
   exact h2.symm
  rw [en,List.map_append];exact zgf
 obtain⟨ba,_⟩:=gr.bd a (List.mem_of_getElem? ha)
 obtain⟨bz,_⟩:=gr.bd z (List.mem_of_getElem? hz)
 rw [ea,ez] at q
 have e1:flt p (a.1,1)=decide (p.1<a.1*p.2):=by unfold flt;dsimp only;rw [Int.mul_one]
 have e2:flt (z.1,1) p=decide (z.1*p.2<p.1):=by unfold flt;dsimp only;rw [Int.mul_one]
 have c1:zax a.1 p.2:=.inl ⟨ba.mono (by decide),b2.mono (by decide)⟩
 have c2:zax z.1 p.2:=.inl ⟨bz.mono (by decide),b2.mono (by decide)⟩
 have c3:∀ u:Int,zax u 1:=fun u=>.inr (.inr (by decide))
 walk_at "g"
 refine⟨p,(a.1,1),rfl,c3 _,c1,?_⟩
 rw [e1]
 walk_at "g"
 refine zjN (fun g=>?_) (fun g=>?_)
 ·walk_at "g"
  refine⟨(z.1,1),p,rfl,c2,c3 _,?_⟩
  rw [e2]
  walk_at "g"
  rw [decide_eq_true (show a.1*p.2<=p.1 by omega),Bool.true_and] at q
  rw [show (!decide (z.1*p.2<p.1))=decide (p.1<=z.1*p.2) by rw [<- decide_not];exact decide_eq_decide.mpr (by omega)]
  exact fin_same q
 ·rw [decide_eq_false (show ¬ a.1*p.2<=p.1 by omega),Bool.false_and] at q
  exact fin_same q
def zbt:DSp:=fun ds S Q=>∃ (t b:Int),ds=[.int t,.int b]/\Q (.int ((Int.gcd t b:Nat):Int)) S
def zch:DS :=
    (zH (zg7 (dT (dOp oNe (zj 1) (dC (.int 0)))) (zH (zN (dOp oMod (zj 0) (zj 1)) (zE 2))
 (zH (zN (zj 1) (zE 0))
 (zN (zj 2) (zE 1)))))
 (zZ (dB zlz (zf (zj 0) zA))))
theorem zg6:∀ ds So Q,zbt ds So Q->ds.length=2:=by rintro ds So Q ⟨_,_,rfl,_⟩;rfl
theorem zh1:BodyOk 3 zch zbt:=by
 rintro ds S Q ⟨t,b,rfl,q⟩
 unfold zch
 refine Dp.znh ?_
 refine zqr (fun m ρ S'=>S'=S/\∃ (x y:Int) (w:Option D),ρ=[some (.int x),some (.int y),w]/\m=y.natAbs/\Int.gcd x y=Int.gcd t b) b.natAbs ⟨rfl,_,_,none,rfl,rfl,rfl⟩ ?_
 rintro m ρ S' ⟨rfl,x,y,w,rfl,rfl,e⟩
 walk_at "g"
 refine zjN (fun h0=>?_) (fun h0=>?_)
 ·refine zoM ?_
  refine Dp.znh ?_
  refine Dp.zqB ?_
  refine Dp.zmB ?_
  refine Dp.zga rfl ?_
  refine Dp.zga rfl ?_
  refine zs0 h0 ?_
  walk_at "g"
  exact⟨_,zlF h0,rfl,_,_,_,rfl,rfl,(zpM x y).trans e⟩
 ·subst h0
  rw [Int.gcd_zero] at e
  walk_at "g"
  rw [<- e] at q
  exact fin_same q
def zc7:DSp:=fun ds S Q=>∃ (t b:Int),ds=[.int t,.int b]/\b≠0/\Bd 8000 b/\Q (p2 (frT t b,frB t b)) S
def zeC:DS :=
    (zH (zN (dCall zbt (zf (zj 0) (zf (zj 1) zA))) (zE 2))
 (zH (sJ (sIf (dT (dOp oLt (zj 1) (dC (.int 0)))) (zN (dUn zcW (zj 2)) (zE 2)) zab))
 (zZ (dTup (zf (dOp oDiv (zj 0) (zj 2)) (zf (dOp oDiv (zj 1) (zj 2)) zA))))))
theorem zkV:∀ ds So Q,zc7 ds So Q->ds.length=2:=by rintro ds So Q ⟨_,_,rfl,_⟩;rfl
theorem zlZ:BodyOk 3 zeC zc7:=by
 rintro ds S Q ⟨t,b,rfl,hb,bb,q⟩
 unfold zeC
 have hgn:=zqA (t:=t) (b:=b) hb
 have hgb:=zuY (t:=t) (b:=b) hb bb
 walk_at "g"
 refine⟨t,b,rfl,?_⟩
 walk_at "g"
 refine r_J (fun ρ S'=>S'=S/\ρ=[some (.int t),some (.int b),some (.int (gd t b))]) ?_ ?_
 ·walk_at "g"
  refine r_d (fun g=>?_) (fun g=>?_)
  ·have hg:gd t b=-((Int.gcd t b:Nat):Int):=if_pos g
   walk_at "g"
   exact⟨rfl,by rw [hg];rfl⟩
  ·have hg:gd t b=((Int.gcd t b:Nat):Int):=if_neg g
   walk_at "g"
   exact⟨rfl,by rw [hg];rfl⟩
 rintro ρ S' ⟨rfl,rfl⟩
 refine Dp.zqX ?_
 refine Dp.zqZ ?_
 refine Dp.zkx ?_
 refine Dp.zmB ?_
 refine Dp.zga rfl ?_
 refine Dp.zga rfl ?_
 refine znR ⟨hgn,hgb⟩ ?_
 refine Dp.zkx ?_
 refine Dp.zmB ?_
 refine Dp.zga rfl ?_
 refine Dp.zga rfl ?_
 refine znR ⟨hgn,hgb⟩ ?_
 walk_at "g"
 exact fin_same q
def zcK:DSp:=fun ds S Q=>∃ (a b p:Int×Int),ds=[p2 a,p2 b,p2 p]/\b.1≠a.1/\0<p.2/\Bd 180 a.1/\Bd 200 a.2/\Bd 180 b.1/\Bd 200 b.2/\Bd 1000 p.1/\Bd 1000 p.2/\∀ c:Int×Int,Sv c (hvT a b p) (hvB a b p)->Int.gcd c.1 c.2=1->Bd 1400 c.1->Bd 1400 c.2->Q (p2 c) S
theorem zuK {t b:Int}(hb:b≠0):Sv (frT t b,frB t b) (if 0<b then t else -t) (if 0<b then b else -b):=by
 have h1:=zp7 t b
 have h2:=zsj (t:=t) hb
 refine⟨by show 0<frB t b;omega,?_⟩
 show frT t b*_=_*frB t b
 split
 ·rw [h1,Int.mul_comm]
 ·rw [Int.mul_neg,h1,Int.neg_mul,Int.mul_comm]
def zec:DS :=
    (zH (zN (dOp zal (dOp oIx (zj 1) (dC (.int 0))) (dOp oIx (zj 0) (dC (.int 0)))) (zE 3))
 (zH (zN (dOp zal (dOp oIx (zj 1) (dC (.int 1))) (dOp oIx (zj 0) (dC (.int 1)))) (zE 4))
 (zH (zN (dOp zah (dOp zaD (dOp zaD (dOp oIx (zj 0) (dC (.int 1))) (zj 3)) (dOp oIx (zj 2) (dC (.int 1)))) (dOp zaD (zj 4) (dOp zal (dOp oIx (zj 2) (dC (.int 0))) (dOp zaD (dOp oIx (zj 0) (dC (.int 0))) (dOp oIx (zj 2) (dC (.int 1))))))) (zE 5))
 (zZ (dCall zc7 (zf (zj 5) (zf (dOp zaD (zj 3) (dOp oIx (zj 2) (dC (.int 1)))) zA)))))))
theorem zki:∀ ds So Q,zcK ds So Q->ds.length=3:=by rintro ds So Q ⟨_,_,_,rfl,_⟩;rfl
theorem zlc:BodyOk 6 zec zcK:=by
 rintro ds S Q ⟨a,b,p,rfl,hne,hp,b1,b2,b3,b4,b5,b6,q⟩
 unfold zec
 have r1:Bd 181 (b.1-a.1):=Bd.sub b3 b1
 have r2:Bd 201 (b.2-a.2):=Bd.sub b4 b2
 have m1:Bd 381 (a.2*(b.1-a.1)):=Bd.mul b2 r1
 have m2:Bd 1381 (a.2*(b.1-a.1)*p.2):=Bd.mul m1 b6
 have m3:Bd 1180 (a.1*p.2):=Bd.mul b1 b6
 have m4:Bd 1181 (p.1-a.1*p.2):=Bd.sub (b5.mono (by decide)) m3
 have m5:Bd 1382 ((b.2-a.2)*(p.1-a.1*p.2)):=Bd.mul r2 m4
 have m6:Bd 1181 ((b.1-a.1)*p.2):=Bd.mul r1 b6
 have bT:Bd 1400 (a.2*(b.1-a.1)*p.2+(b.2-a.2)*(p.1-a.1*p.2)):=(Bd.add (n:=1382) (m2.mono (by decide)) m5).mono (by decide)
 have c1:zax a.2 (b.1-a.1):=.inl ⟨b2.mono (by decide),r1.mono (by decide)⟩
 have c2:zax (a.2*(b.1-a.1)) p.2:=.inl ⟨m1.mono (by decide),b6.mono (by decide)⟩
 have c3:zax a.1 p.2:=.inl ⟨b1.mono (by decide),b6.mono (by decide)⟩
 have c4:zax (b.2-a.2) (p.1-a.1*p.2):=.inl ⟨r2.mono (by decide),m4.mono (by decide)⟩
 have c5:zax (b.1-a.1) p.2:=.inl ⟨r1.mono (by decide),b6.mono (by decide)⟩
 walk_at "g"
 have hr:(b.1-a.1)*p.2≠0:=Int.mul_ne_zero (by omega) (by omega)
 refine⟨_,_,rfl,hr,m6.mono (by decide),?_⟩
 refine fin_same (q _ ?_ (ztE hr) (ztn bT) ((zsW m6).mono (by decide)))
 have hs:=zuK (t:=a.2*(b.1-a.1)*p.2+(b.2-a.2)*(p.1-a.1*p.2)) hr
 unfold hvT hvB
 by_cases g:0<b.1-a.1
 ·have:0<(b.1-a.1)*p.2:=Int.mul_pos g hp
  rw [if_pos this,if_pos this] at hs
  rw [if_pos g,if_pos g];exact hs
 ·have:¬ 0<(b.1-a.1)*p.2:=fun z=>by
   have:=Int.mul_pos (show 0 < -(b.1-a.1) by omega) hp
   rw [Int.neg_mul] at this
   omega
  rw [if_neg this,if_neg this] at hs
  rw [if_neg g,if_neg g];exact hs
def zcx:zdk:=fun ds S Q ex=>∃ (g:D) (cs:List (Int×Int)) (p:Int×Int),ds=[g,p2 p]/\GAt S g cs/\Grd cs/\0<p.2/\Bd 1000 p.1/\Bd 1000 p.2/\(¬ OnG cs p->ex "OffGround" S)/\(OnG cs p->∀ a b c:Int×Int,zfW cs p=some (a,b)->Sv c (hvT a b p) (hvB a b p)->0<hvB a b p->Int.gcd c.1 c.2=1->Bd 1400 c.1->Bd 1400 c.2->Q (p2 c) S)
def zea (ex : XR) : DS :=
    (zH (sIf (zeX (dT (dCall zd3 (zf (zj 0) (zf (zj 1) zA))))) (zeQ ex "OffGround") zab)
 (zH (zN (zaV "corners" (zj 0)) (zE 2))
 (zH (zN (dC (.int 1)) (zE 3))
 (zH (zg7 (dT (dCall zdE (zf (dTup (zf (dOp oIx (dOp oIx (zj 2) (zj 3)) (dC (.int 0))) (zf (dC (.int 1)) zA))) (zf (zj 1) zA)))) (zmK 3 (dC (.int 1))))
 (zZ (dCall zcK (zf (dOp oIx (zj 2) (dOp zal (zj 3) (dC (.int 1)))) (zf (dOp oIx (zj 2) (zj 3)) (zf (zj 1) zA)))))))))
theorem zkc:∀ ds So Q ex,zcx ds So Q ex->ds.length=2:=by rintro ds So Q ex ⟨_,_,_,rfl,_⟩;rfl
theorem zkE:zco 4 zea zcx:=by
 rintro ds S Q ex ⟨g,cs,p,rfl,hg,gr,hp,b1,b2,hx,q⟩
 unfold zea
 obtain⟨n,l,rfl,hn,hl⟩:=id hg
 walk_at "g"
 refine⟨_,cs,p,rfl,hg,gr,b1,b2,?_⟩
 by_cases on:OnG cs p
 case neg =>
  have e:(decide (ziu cs*p.2<=p.1)&&decide (p.1<=zgm cs*p.2))=false:=Bool.eq_false_iff.mpr fun z=>on (by rw [Bool.and_eq_true,decide_eq_true_eq,decide_eq_true_eq] at z;exact z)
  rw [e]
  walk_at "g"
  exact hx on
 have q:=q on
 obtain⟨kk,a,b,ha,hb,hle,hlt⟩:=ziO gr.two on.2
 have seg:=seg_at ha hb hle hlt
 have hk:=zbo hb
 rw [decide_eq_true on.1,decide_eq_true on.2,show (true&&true)=true from rfl]
 walk_at "g"
 refine zqr (fun m ρ S'=>S'=S/\∃ j:Nat,ρ=[some (.ref n),some (p2 p),some (.ref l),some (.int ((j:Int)+1))]/\m=kk-j/\j<=kk) kk ⟨rfl,0,rfl,rfl,by omega⟩ ?_
 rintro m ρ S' ⟨rfl,j,rfl,rfl,hj⟩
 obtain⟨c,hc,ac⟩:=zfb (cs:=cs) (k:=(j:Int)+1) (by omega) (by omega)
 have hc':cs[j+1]?=some c:=by rwa [show ((j:Int)+1).toNat=j+1 by omega] at hc
 obtain⟨bc,bc2⟩:=gr.bd c (List.mem_of_getElem? hc)
 have e1:flt (c.1,1) p=decide (c.1*p.2<p.1):=by unfold flt;dsimp only;rw [Int.mul_one]
 walk_at "g"
 refine⟨(c.1,1),p,rfl,.inl ⟨bc.mono (by decide),b2.mono (by decide)⟩,.inr (.inr (show (1:Int).natAbs<2 ^ 64 by decide)),?_⟩
 rw [e1]
 walk_at "g"
 refine r_d (fun h=>?_) (fun h=>?_)
 ·walk_at "g"
  have hjk:j<kk:=by
   rcases Nat.lt_or_ge j kk with z | z
   ·exact z
   ·have:j=kk:=by omega
    subst this
    rw [hb] at hc'
    cases hc'
    omega
  exact⟨kk-(j+1),by omega,rfl,j+1,by simp,rfl,by omega⟩
 ·have hjk:j=kk:=by
   rcases Nat.lt_or_ge j kk with z | z
   ·have:=hlt (j+1) c (by omega) (by omega) hc'
    omega
   ·omega
  subst hjk
  rw [hb] at hc'
  cases hc'
  have aa:atD (cs.map p2) ((j:Int)+1-1)=some (p2 a):=by
   rw [show (j:Int)+1-1=(j:Int) by omega]
   exact zem (by rw [List.getElem?_map,ha];rfl)
  obtain⟨ba1,ba2⟩:=gr.bd a (List.mem_of_getElem? ha)
  have hab:=zda gr (show j<j+1 by omega) ha hb
  walk_at "g"
  refine⟨a,b,p,rfl,by omega,hp,ba1.mono (by decide),ba2.mono (by decide),bc.mono (by decide),bc2.mono (by decide),b1,b2,fun c hs hg d1 d2=>?_⟩
  exact fin_same (q a b c seg hs (zl1 (by omega) hp) hg d1 d2)
def zdx:DSp:=fun ds S Q=>∃ (g:D) (cs:List (Int×Int)) (s:Int×Int),ds=[g,p2 s]/\GAt S g cs/\Grd cs/\Bd 180 s.1/\Bd 200 s.2/\∀ b:Bool,(b=true↔zdv cs s)->Q (.bl b) S
def zgg:DS :=
    (zH (zN (dTup (zf (dOp oIx (zj 1) (dC (.int 0))) (zf (dC (.int 1)) zA))) (zE 2))
 (zH (sIf (zeX (dT (dCall zd3 (zf (zj 0) (zf (zj 2) zA))))) (zZ (dC (.bl false))) zab)
 (zZ (zhS (dCall zdE (zf (dTup (zf (dOp oIx (zj 1) (dC (.int 1))) (zf (dC (.int 1)) zA))) (zf (zaP zcx xF (zf (zj 0) (zf (zj 2) zA))) zA)))))))
theorem zna:∀ ds So Q,zdx ds So Q->ds.length=2:=by rintro ds So Q ⟨_,_,_,rfl,_⟩;rfl
theorem zoP:BodyOk 3 zgg zdx:=by
 rintro ds S Q ⟨g,cs,s,rfl,hg,gr,b1,b2,q⟩
 unfold zgg
 have bo:Bd 1000 (1:Int):=Bd.lit (by decide) (by decide)
 walk_at "g"
 refine⟨g,cs,(s.1,1),rfl,hg,gr,b1.mono (by decide),bo,?_⟩
 by_cases on:OnG cs (s.1,1)
 case neg =>
  have e:(decide (ziu cs*(s.1,(1:Int)).2<=(s.1,(1:Int)).1)&&decide ((s.1,(1:Int)).1<=zgm cs*(s.1,(1:Int)).2))=false:=Bool.eq_false_iff.mpr fun z=>on (by rw [Bool.and_eq_true,decide_eq_true_eq,decide_eq_true_eq] at z;exact z)
  rw [e]
  walk_at "g"
  exact fin_same (q false ⟨fun z=>(by cases z),fun z=>absurd z.1 on⟩)
 rw [decide_eq_true on.1,decide_eq_true on.2,show (true&&true)=true from rfl]
 walk_at "g"
 refine⟨g,cs,(s.1,1),rfl,hg,gr,(show (0:Int)<1 by decide),b1.mono (by decide),bo,fun off=>absurd on off,fun _ a b c seg sv hb hgcd d1 d2=>?_⟩
 walk_at "g"
 refine⟨(s.2,1),c,rfl,.inl ⟨b2.mono (by decide),d2.mono (by decide)⟩,.inr (.inr (show (1:Int).natAbs<2 ^ 64 by decide)),?_⟩
 rw [zur (t:=s.2) (b:=1) (by decide) hb ⟨(show (0:Int)<1 by decide),rfl⟩ sv]
 walk_at "g"
 refine fin_same (q _ ?_)
 rw [Bool.not_eq_true',decide_eq_false_iff_not]
 constructor
 ·intro h
  refine⟨on,fun a' b' seg'=>?_⟩
  rw [seg] at seg';cases seg';omega
 ·intro h
  have:=h.2 a b seg
  omega
def zbk:DSp:=fun ds S Q=>∃ (g y:D) (cs:List (Int×Int)) (bs:List (Str×(Int×Int))),ds=[g,y]/\GAt S g cs/\Grd cs/\Lst S y (bs.map bcD)/\bs.length<=100/\(∀ b∈bs,zdv cs b.2/\Bd 180 b.2.1/\Bd 200 b.2.2)/\Q .non S
def zbW:DS :=
  (sIf (zeX (dT (dB zgV (zf (dLC 3 [0] (zbx (zj 1)) (zc2 3 (zao (zE 0) (zao (zE 1) (zao (zE 2) zc0)))) zcs (dCall zdx (zf (zj 3) (zf (dTup (zf (zj 1) (zf (zj 2) zA))) zA)))) zA)))) zcn zab)
theorem zgD:∀ ds So Q,zbk ds So Q->ds.length=2:=by rintro ds So Q ⟨_,_,_,_,rfl,_⟩;rfl
theorem zgP:BodyOk 2 zbW zbk:=by
 rintro ds S Q ⟨g,y,cs,bs,rfl,hg,gr,hy,hl,hb,q⟩
 unfold zbW
 walk_at "g"
 refine zbB (fun _=>true) (zkK fun _=>.bl true) hy (by rw [List.length_map];unfold big;omega) (fun i d ys hd hw=>?_) ?_
 ·obtain⟨b,hbi,rfl⟩:=zfO hd
  obtain⟨s1,s2,s3⟩:=hb b (List.mem_of_getElem? hbi)
  walk_at "g"
  refine⟨g,cs,b.2,rfl,hg,gr,s2,s3,fun r hr=>?_⟩
  rw [hr.mpr s1]
  exact zcN hd hw rfl rfl
 rw [filter_true,zgd,show bs.map (fun _=>D.bl true)=(bs.map fun _=>true).map D.bl by rw [List.map_map];rfl]
 walk_at "g"
 refine zgQ (b:=true) Lst.at0 (by rw [List.all_map,List.all_eq_true];intro _ _;rfl) ?_
 walk_at "g"
 exact zaJ rfl q
def zc8:DSp:=fun ds S Q=>∃ i:Int,ds=[.int i]/\Q (.bl true) S
def zeB:DS :=
  (zZ (zhz (dB zf3 (zf (zj 0) (zf (dC (.ty "int")) zA))) (zhS (dB zf3 (zf (zj 0) (zf (dC (.ty "bool")) zA))))))
theorem zkQ:∀ ds So Q,zc8 ds So Q->ds.length=1:=by rintro ds So Q ⟨_,rfl,_⟩;rfl
theorem zlR:BodyOk 1 zeB zc8:=by
 rintro ds S Q ⟨i,rfl,q⟩
 unfold zeB
 walk_at "g"
 exact fin_same q
def zej:DSp:=fun ds S Q=>∃ F:Fg,ds=[fgD F]/\F.x0<=F.x1/\F.z0<=F.z1/\F.f<=F.l/\Q (.bl true) S
def zgr:DS :=
    (zH (sIf (dOr (zeX (dT (dB zf3 (zf (zj 0) (zf (dC (.ty "tuple")) zA))))) (dT (dOp oNe (dB zbm (zf (zj 0) zA)) (dC (.int 8))))) (zZ (dC (.bl false))) zab)
 (zH (sIf (zeX (dT (dB zgV (zf (dLC 1 [] (zbx (zj 0)) (zE 0) zcs (dCall zc8 (zf (zj 0) zA))) zA)))) (zZ (dC (.bl false))) zab)
 (zZ (zhz (dOp oLe (dOp oIx (zj 0) (dC (.int 0))) (dOp oIx (zj 0) (dC (.int 1)))) (zhz (dOp oLe (dOp oIx (zj 0) (dC (.int 2))) (dOp oIx (zj 0) (dC (.int 3)))) (dOp oLe (dOp oIx (zj 0) (dC (.int 4))) (dOp oIx (zj 0) (dC (.int 5)))))))))
theorem zmE:∀ ds So Q,zej ds So Q->ds.length=1:=by rintro ds So Q ⟨_,rfl,_⟩;rfl
theorem zn8:BodyOk 1 zgr zej:=by
 rintro ds S Q ⟨F,rfl,h1,h2,h3,q⟩
 unfold zgr
 walk_at "g"
 rw [show (!decide ((([D.int F.x0,D.int F.x1,D.int F.z0,D.int F.z1,D.int F.f,D.int F.l,D.int F.g,D.int F.s]:List D).length:Int)=8))=false by rfl]
 walk_at "g"
 refine zbB (fun _=>true) (fun _=>.bl true) True.intro (by show 8<=big;unfold big;decide) (fun i d ys hd hw=>?_) ?_
 ·obtain⟨z,_,rfl⟩:=zfG (zs:=[F.x0,F.x1,F.z0,F.z1,F.f,F.l,F.g,F.s]) hd
  walk_at "g"
  refine⟨z,rfl,?_⟩
  exact zcN hd hw rfl rfl
 walk_at "g"
 refine zgQ (bs:=List.replicate 8 true) (b:=true) Lst.at0 rfl ?_
 walk_at "g"
 rw [decide_eq_true h1]
 walk_at "g"
 rw [decide_eq_true h2]
 walk_at "g"
 rw [decide_eq_true h3]
 exact zaJ rfl q
theorem zsG {α:Type}(xs:List α)(f:α->D):(xs.map f).map (fun _=>D.bl true)=(xs.map fun _=>true).map D.bl:=by rw [List.map_map,List.map_map];rfl
def zbh:DSp:=fun ds S Q=>∃ (z:D) (fs:List Fg),ds=[z]/\Lst S z (fs.map fgD)/\fs.length<=100/\(∀ F∈fs,FgV F)/\Q .non S
def zb0:DS :=
  (sIf (zeX (dT (dB zgV (zf (dLC 1 [] (zbx (zj 0)) (zE 0) zcs (dCall zej (zf (zj 0) zA))) zA)))) zcn zab)
theorem zgB:∀ ds So Q,zbh ds So Q->ds.length=1:=by rintro ds So Q ⟨_,_,rfl,_⟩;rfl
theorem zgU:BodyOk 1 zb0 zbh:=by
 rintro ds S Q ⟨z,fs,rfl,hz,hl,hf,q⟩
 unfold zb0
 walk_at "g"
 refine zbB (fun _=>true) (fun _=>.bl true) hz (by rw [List.length_map];unfold big;omega) (fun i d ys hd hw=>?_) ?_
 ·obtain⟨F,hF,rfl⟩:=zkT hd
  have k:=hf F (List.mem_of_getElem? hF)
  walk_at "g"
  refine⟨F,rfl,k.b.x,k.b.z,k.o,?_⟩
  exact zcN hd hw rfl rfl
 rw [filter_true,zsG]
 walk_at "g"
 refine zgQ (b:=true) Lst.at0 (by rw [List.all_map,List.all_eq_true];intro _ _;rfl) ?_
 walk_at "g"
 exact zaJ rfl q
def za1:DSp:=fun ds S Q=>∃ (hz:Option Int) (a b d:Int),ds=[zbU hz,.int a,.int b,.int d]/\a<=b/\0<=d/\(∀ z,hz=some z->0<=z)/\Q .non S
def zbO:DS :=
    (zH (sIf (dT (dOp oGt (zj 1) (zj 2))) zcn zab)
 (zH (sIf (dT (dOp oLt (zj 3) (dC (.int 0)))) zcn zab)
 (sIf (zew (dT (dOp ze0 (zj 0) (dC .non))) (dT (dOp oLt (zj 0) (dC (.int 0))))) zcn zab)))
theorem zfS:∀ ds So Q,za1 ds So Q->ds.length=4:=by rintro ds So Q ⟨_,_,_,_,rfl,_⟩;rfl
theorem zgF:BodyOk 4 zbO za1:=by
 rintro ds S Q ⟨hz,a,b,d,rfl,hab,hd,hh,q⟩
 unfold zbO
 walk_at "g"
 rw [decide_eq_false (show ¬ b<a by omega)]
 walk_at "g"
 rw [decide_eq_false (show ¬ d<0 by omega)]
 cases hz with
 | none =>
  walk_at "g"
  exact fin_same q
 | some z =>
  have:=hh z rfl
  unfold zbU
  walk_at "g"
  rw [decide_eq_false (show ¬ z<0 by omega)]
  walk_at "g"
  exact fin_same q
def zcS:DSp:=fun ds S Q=>∃ (S0:Sto) (g y z:D) (V:Vl),ds=[.ref S0.length,g,y,z,zbU V.hz,.int V.h0,.int V.h1,.int V.dl]/\S=S0++[.ins "Valley" []]/\GAt S0 g V.cs/\Lst S0 y (V.bs.map bcD)/\Lst S0 z (V.fs.map fgD)/\zdQ V/\∀ nms:List D,Q .non (S0++[.ins "Valley" (vF (.ref (S0.length+2)) (.ref (S0.length+4)) (.ref (S0.length+5)) (zbU V.hz) (.int V.h0) (.int V.h1) (.int V.dl)),.lst nms,.ins "Ground" [("corners",.ref (S0.length+3))],.lst (V.cs.map p2),.lst (V.bs.map bcD),.lst (V.fs.map fgD)])
def zbE:DS :=
    (zH (zaq (dCall zaT (zf (zj 2) (zf (zj 3) zA))))
 (zH (zaq (dCall za2 (zf (dLC 1 [] (zbx (zj 2)) (zE 0) zcs (dOp oIx (zj 0) (dC (.int 0)))) zA)))
 (zH (zaq (dCall zbk (zf (zj 1) (zf (zj 2) zA))))
 (zH (zaq (dCall zbh (zf (zj 3) zA)))
 (zH (zaq (dCall za1 (zf (zj 4) (zf (zj 5) (zf (zj 6) (zf (zj 7) zA))))))
 (zH (zeb "Valley" "ground" (zj 0) (dCall zfk (zf (zaV "corners" (zj 1)) zA)))
 (zH (zeb "Valley" "beacons" (zj 0) (dB ze9 (zf (zj 2) zA)))
 (zH (zeb "Valley" "fogs" (zj 0) (dB ze9 (zf (zj 3) zA)))
 (zH (zeb "Valley" "haze" (zj 0) (zj 4))
 (zH (zeb "Valley" "first" (zj 0) (zj 5))
 (zH (zeb "Valley" "last" (zj 0) (zj 6))
 (zeb "Valley" "delay" (zj 0) (zj 7)))))))))))))
theorem ziR:∀ ds So Q,zcS ds So Q->ds.length=8:=by rintro ds So Q ⟨_,_,_,_,_,rfl,_⟩;rfl
theorem zjD:BodyOk 8 zbE zcS:=by
 rintro ds S Q ⟨S0,g,y,z,V,rfl,rfl,hg,hy,hz,ok,q⟩
 unfold zbE
 obtain⟨Sa,hSa⟩:∃ Sa:Sto,Sa=S0++[.ins "Valley" []]:=⟨_,rfl⟩
 have hya:Lst Sa y (V.bs.map bcD):=hSa▸hy.old
 have hza:Lst Sa z (V.fs.map fgD):=hSa▸hz.old
 rw [<- hSa]
 walk_at "g"
 refine⟨y,z,_,_,rfl,hya,hza,by rw [List.length_map];exact ok.b1,by rw [List.length_map];exact ok.b12,by rw [List.length_map];exact ok.f12,?_⟩
 walk_at "g"
 have b12:=ok.b12
 have f12:=ok.f12
 refine zbB (fun _=>true) (zkK fun b=>.str b.1) hya (by rw [List.length_map];unfold big;omega) (fun i d ys hd hw=>?_) ?_
 ·obtain⟨b,_,rfl⟩:=zfO hd
  walk_at "g"
  exact zcN hd hw rfl rfl
 rw [filter_true,zgd,show V.bs.map (fun b=>D.str b.1)=(V.bs.map (·.1)).map D.str by rw [List.map_map];rfl,hSa]
 walk_at "g"
 refine⟨_,V.bs.map (·.1),rfl,Lst.at rfl,by rw [List.length_map];omega,fun n hn=>?_,ok.nd,?_⟩
 ·obtain⟨b,hb,rfl⟩:=List.mem_map.mp hn
  exact ok.nm b hb
 walk_at "g"
 generalize (V.bs.map (·.1)).map D.str=nms
 refine⟨g,y,V.cs,V.bs,rfl,hg.old,ok.gr,hy.old,by omega,fun b hb=>⟨ok.st b hb,ok.bd b hb⟩,?_⟩
 walk_at "g"
 refine⟨z,V.fs,rfl,hz.old,by omega,ok.fg,?_⟩
 walk_at "g"
 refine⟨V.hz,_,_,_,rfl,ok.hh,ok.dl,ok.hz,?_⟩
 obtain⟨gn,gl,rfl,hgn,hgl⟩:=hg
 have hgn1:(S0++[.ins "Valley" [],.lst nms])[gn]?=some (.ins "Ground" [("corners",.ref gl)]):=zaU hgn
 walk_at "g"
 refine⟨_,_,V.cs,rfl,rfl,.inr ⟨gl,rfl,zaU hgl⟩,ok.gr,⟨rfl,?_⟩⟩
 rw [List.append_assoc,show (S0++[Cell.ins "Valley" [],.lst nms]).length=S0.length+2 by simp,show ([Cell.ins "Valley" [],.lst nms]:Sto)++[.ins "Ground" [("corners",.ref (S0.length+2+1))],.lst (V.cs.map p2)]=[.ins "Valley" [],.lst nms,.ins "Ground" [("corners",.ref (S0.length+3))],.lst (V.cs.map p2)] from rfl]
 walk_at "g"
 refine⟨S0.length,[],rfl,zb5,by decide,?_⟩
 rw [zcJ,zpF]
 have hy2:∀ T,Lst (S0++T) y (V.bs.map bcD):=fun T=>hy.old
 have hz2:∀ T,Lst (S0++T) z (V.fs.map fgD):=fun T=>hz.old
 walk_at "g"
 refine⟨S0.length,_,rfl,zb5,by simp,?_⟩
 rw [zcJ,vp2]
 walk_at "g"
 refine⟨S0.length,_,rfl,zb5,by simp,?_⟩
 rw [zcJ,vp3]
 walk_at "g"
 refine⟨S0.length,_,rfl,zb5,by simp,?_⟩
 rw [zcJ,vp4]
 walk_at "g"
 refine⟨S0.length,_,rfl,zb5,by simp,?_⟩
 rw [zcJ,vp5]
 walk_at "g"
 refine⟨S0.length,_,rfl,zb5,by simp,?_⟩
 rw [zcJ,vp6]
 walk_at "g"
 refine⟨S0.length,_,rfl,zb5,by simp,?_⟩
 rw [zcJ,vp7]
 exact fin_same (q nms)
def zgK:DSp:=znu "Valley" zcS
def zba:DSp:=fun ds S Q=>∃ (v:D) (V:Vl),ds=[v]/\VAt S v V/\V.bs.length<=100/\New Q S ((V.bs.map (·.1)).map D.str)
def zeH:DS :=
  (zZ (dLC 1 [] (zbx (zaV "beacons" (zj 0))) (zE 0) zcs (dOp oIx (zj 0) (dC (.int 0)))))
theorem zlb:∀ ds So Q,zba ds So Q->ds.length=1:=by rintro ds So Q ⟨_,_,rfl,_⟩;rfl
theorem zlW:BodyOk 1 zeH zba:=by
 rintro ds S Q ⟨v,V,rfl,hv,hl,q⟩
 unfold zeH
 obtain⟨m,g,b',f,rfl,hm,hg,hb,_⟩:=hv
 walk_at "g"
 refine zbB (fun _=>true) (zkK fun b=>.str b.1) (Lst.here hb) (by rw [List.length_map];unfold big;omega) (fun i d ys hd hw=>?_) ?_
 ·obtain⟨b,_,rfl⟩:=zfO hd
  walk_at "g"
  exact zcN hd hw rfl rfl
 rw [filter_true,zgd,show V.bs.map (fun b=>D.str b.1)=(V.bs.map (·.1)).map D.str by rw [List.map_map];rfl]
 exact fin_same q
theorem zlp {S:Sto}{Q:DK}{x y:Str}(fx:fl 20 (.str x)=true)(fy:fl 20 (.str y)=true)(q:Q (.bl (decide (x=y))) S):oEq (.str x) (.str y) S Q:=zr4 fx fy (by
 by_cases h:x=y
 ·subst h;rw [decide_eq_true rfl];exact beq_self_eq_true x
 ·rw [decide_eq_false h];exact beq_eq_false_iff_ne.mpr h) q
def za9:zdk:=fun ds S Q ex=>∃ (v:D) (V:Vl) (n:Str),ds=[v,.str n]/\VAt S v V/\zdQ V/\fl 20 (.str n)=true/\((∀ b∈V.bs,b.1≠n)->ex "NoBeacon" S)/\∀ s,(n,s)∈V.bs->Q (p2 s) S
def zfh (ex : XR) : DS :=
    (zH (zb4 (zbx (zaV "beacons" (zj 0))) (zE 2) (sIf (dT (dOp oEq (dOp oIx (zj 2) (dC (.int 0))) (zj 1))) (zZ (dTup (zf (dOp oIx (zj 2) (dC (.int 1))) (zf (dOp oIx (zj 2) (dC (.int 2))) zA)))) zab))
 (zeQ ex "NoBeacon"))
theorem zlX:∀ ds So Q ex,za9 ds So Q ex->ds.length=2:=by rintro ds So Q ex ⟨_,_,_,rfl,_⟩;rfl
theorem znj:zco 3 zfh za9:=by
 rintro ds S Q ex ⟨v,V,n,rfl,hv,ok,hn,hx,q⟩
 unfold zfh
 obtain⟨m,g,b',f,rfl,hm,hg,hb,_⟩:=hv
 walk_at "g"
 refine za0 (fun i ρ S'=>S'=S/\(∃ w,ρ=[some (.ref m),some (.str n),w])/\∀ b∈V.bs.take i,b.1≠n) ⟨rfl,⟨none,rfl⟩,by simp⟩ (fun i ρ S' h=>h.1▸Lst.here hb) ?_ ?_
 ·rintro i d ρ S' hd ⟨rfl,⟨w,rfl⟩,hno⟩
  obtain⟨b,hbi,rfl⟩:=zfO hd
  have mb:=List.mem_of_getElem? hbi
  walk_at "g"
  refine zlp (zi0 (ok.nm b mb) 20) hn ?_
  walk_at "g"
  refine r_d (fun h=>?_) (fun h=>?_)
  ·walk_at "g"
   exact fin_same (q b.2 (by rw [<- h];exact mb))
  ·walk_at "g"
   refine⟨rfl,⟨_,rfl⟩,fun c hc=>?_⟩
   rw [zav hbi] at hc
   rcases List.mem_append.mp hc with hc | hc
   ·exact hno c hc
   ·have:c=b:=by simpa using hc
    subst this;exact h
 ·rintro ρ S' ⟨rfl,⟨w,rfl⟩,hno⟩
  rw [List.length_map,List.take_length] at hno
  walk_at "g"
  exact hx hno
def zaA:zdk:=fun ds S Q ex=>∃ (g:D) (cs:List (Int×Int)) (s:Int×Int),ds=[g,p2 s]/\GAt S g cs/\Grd cs/\Bd 180 s.1/\Bd 200 s.2/\(¬ zdv cs s->ex "OffGround" S)/\(zdv cs s->Q .non S)
def zbr (ex:XR):DS :=
  (sIf (zeX (dT (dCall zdx (zf (zj 0) (zf (zj 1) zA))))) (zeQ ex "OffGround") zab)
theorem ze4:∀ ds So Q ex,zaA ds So Q ex->ds.length=2:=by rintro ds So Q ex ⟨_,_,_,rfl,_⟩;rfl
theorem zfv:zco 2 zbr zaA:=by
 rintro ds S Q ex ⟨g,cs,s,rfl,hg,gr,b1,b2,hx,q⟩
 unfold zbr
 walk_at "g"
 refine⟨g,cs,s,rfl,hg,gr,b1,b2,fun b hb=>?_⟩
 cases b with
 | true=>walk_at "g";exact fin_same (q (hb.mp rfl))
 | false=>walk_at "g";exact hx fun z=>(by have:=hb.mpr z;cases this)
def zbj:DSp:=fun ds S Q=>∃ (g:D) (cs:List (Int×Int)) (x y:Int),ds=[g,.int x,.int y]/\GAt S g cs/\cs.length<=40/\New Q S ((nbK cs x y cs.length).map D.int)
def zbV:DS :=
    (zH (zN (dB zgc (zf (zj 1) (zf (zj 2) zA))) (zE 3))
 (zH (zN (dB ze5 (zf (zj 1) (zf (zj 2) zA))) (zE 4))
 (zZ (dLC 2 [3,4] (zks (zf (zaV "corners" (zj 0)) zA)) (zc2 2 (zao (zE 0) (zao (zE 1) zc0))) (dT (ziW oLt oLt (zj 2) (dOp oIx (zj 1) (dC (.int 0))) (zj 3))) (zj 0)))))
theorem zgG:∀ ds So Q,zbj ds So Q->ds.length=3:=by rintro ds So Q ⟨_,_,_,_,rfl,_⟩;rfl
theorem zhg:BodyOk 5 zbV zbj:=by
 rintro ds S Q ⟨g,cs,x,y,rfl,⟨n,l,rfl,hn,hl⟩,h40,q⟩
 unfold zbV
 walk_at "g"
 refine zt2 (xs:=cs.map p2) (Lst.here hl) ?_
 refine⟨by rw [zb8,List.length_map];unfold big;omega,fun i ys S'=>S'=S/\ys=(nbK cs x y i).map D.int,⟨rfl,rfl⟩,fun i ys S' ⟨e,_⟩=>e▸Lst.here hl,?_,?_⟩
 ·rintro i d ys S' hd ⟨rfl,rfl⟩
  obtain⟨u,hu,rfl⟩:=zeo hd
  obtain⟨c,hc,rfl⟩:=zeZ hu
  have e0:((0+i:Nat):Int)=(i:Int):=by omega
  have eg:cs.getD i (0,0)=c:=by rw [List.getD_eq_getElem?_getD,hc];rfl
  rw [e0]
  walk_at "g"
  refine r_d (fun g1=>?_) (fun g1=>?_)
  ·walk_at "g"
   refine r_d (fun g2=>?_) (fun g2=>?_)
   ·walk_at "g"
    exact⟨rfl,(zvi (by unfold nbP;rw [eg,decide_eq_true g1,decide_eq_true g2];rfl)).symm⟩
   ·walk_at "g"
    exact⟨rfl,by rw [zqI (by unfold nbP;rw [eg,decide_eq_false g2,Bool.and_false])]⟩
  ·walk_at "g"
   exact⟨rfl,by rw [zqI (by unfold nbP;rw [eg,decide_eq_false g1,Bool.false_and])]⟩
 ·rintro ys S' ⟨rfl,rfl⟩
  rw [zb8,List.length_map]
  exact fin_same q
def zdL:DSp:=fun ds S Q=>∃ (a b c:Int×Int),ds=[p2 a,p2 b,p2 c]/\zax (c.2-a.2) (b.1-a.1)/\zax (c.1-a.1) (b.2-a.2)/\Q (.int (sdI a b c)) S
def zfj:DS :=
    (zH (zN (dOp zal (dOp oIx (zj 1) (dC (.int 0))) (dOp oIx (zj 0) (dC (.int 0)))) (zE 3))
 (zH (zN (dOp zal (dOp oIx (zj 1) (dC (.int 1))) (dOp oIx (zj 0) (dC (.int 1)))) (zE 4))
 (zH (zN (dOp zal (dOp zaD (dOp zal (dOp oIx (zj 2) (dC (.int 1))) (dOp oIx (zj 0) (dC (.int 1)))) (zj 3)) (dOp zaD (dOp zal (dOp oIx (zj 2) (dC (.int 0))) (dOp oIx (zj 0) (dC (.int 0)))) (zj 4))) (zE 5))
 (zH (sJ (sIf (dT (dOp oLt (zj 3) (dC (.int 0)))) (zN (dUn zcW (zj 5)) (zE 5)) zab))
 (zH (sIf (dT (dOp oGt (zj 5) (dC (.int 0)))) (zZ (dC (.int 1))) zab)
 (zH (sIf (dT (dOp oLt (zj 5) (dC (.int 0)))) (zZ (dUn zcW (dC (.int 1)))) zab)
 (zZ (dC (.int 0)))))))))
theorem zlK:∀ ds So Q,zdL ds So Q->ds.length=3:=by rintro ds So Q ⟨_,_,_,rfl,_⟩;rfl
theorem znx:BodyOk 6 zfj zdL:=by
 rintro ds S Q ⟨a,b,c,rfl,c1,c2,q⟩
 unfold zfj
 walk_at "g"
 unfold sdI at q
 have key:∀ o:Int,o=(if b.1-a.1<0 then -sdO a b c else sdO a b c)->(if 0<o then Q (.int 1) S else if o<0 then Q (.int (-1)) S else Q (.int 0) S):=fun o e=>by
  rw [<- e] at q
  by_cases h:0<o
  ·rw [if_pos h] at q ⊢;exact q
  ·rw [if_neg h] at q ⊢
   by_cases h2:o<0
   ·rw [if_pos h2] at q ⊢;exact q
   ·rw [if_neg h2] at q ⊢;exact q
 refine r_J (fun ρ S'=>S'=S/\ρ=[some (p2 a),some (p2 b),some (p2 c),some (.int (b.1-a.1)),some (.int (b.2-a.2)),some (.int (if b.1-a.1<0 then -sdO a b c else sdO a b c))]) ?_ ?_
 ·walk_at "g"
  refine r_d (fun g=>?_) (fun g=>?_)
  ·walk_at "g"
   exact⟨rfl,by rw [if_pos g];rfl⟩
  ·walk_at "g"
   exact⟨rfl,by rw [if_neg g];rfl⟩
 rintro ρ S' ⟨rfl,rfl⟩
 have k:=key _ rfl
 generalize (if b.1-a.1<0 then -sdO a b c else sdO a b c)=o at k
 walk_at "g"
 refine r_d (fun g=>?_) (fun g=>?_)
 ·rw [if_pos g] at k
  walk_at "g"
  exact fin_same k
 ·rw [if_neg g] at k
  walk_at "g"
  refine r_d (fun g2=>?_) (fun g2=>?_)
  ·rw [if_pos g2] at k
   walk_at "g"
   exact fin_same k
  ·rw [if_neg g2] at k
   walk_at "g"
   exact fin_same k
def zer:zdk:=fun ds S Q ex=>∃ (g:D) (cs:List (Int×Int)) (a b:Int×Int),ds=[g,p2 a,p2 b]/\GAt S g cs/\Grd cs/\(Bd 180 a.1/\Bd 200 a.2)/\(Bd 180 b.1/\Bd 200 b.2)/\(¬ (zdv cs a/\zdv cs b)->ex "OffGround" S)/\(zdv cs a->zdv cs b->Q (zbU (zjv cs a b)) S)
def zge (ex : XR) : DS :=
    (zH (zaq (zaP zaA ex (zf (zj 0) (zf (zj 1) zA))))
 (zH (zaq (zaP zaA ex (zf (zj 0) (zf (zj 2) zA))))
 (zH (zb4 (zbx (dCall zbj (zf (zj 0) (zf (dOp oIx (zj 1) (dC (.int 0))) (zf (dOp oIx (zj 2) (dC (.int 0))) zA))))) (zE 3) (sIf (dT (dOp oGt (dCall zdL (zf (zj 1) (zf (zj 2) (zf (dOp oIx (zaV "corners" (zj 0)) (zj 3)) zA)))) (dC (.int 0)))) (zZ (zj 3)) zab))
 (zZ (dC .non)))))
theorem zmX:∀ ds So Q ex,zer ds So Q ex->ds.length=3:=by rintro ds So Q ex ⟨_,_,_,_,rfl,_⟩;rfl
theorem zoD:zco 4 zge zer:=by
 rintro ds S Q ex ⟨g,cs,a,b,rfl,hg,gr,ba,bb,hx,q⟩
 unfold zge
 walk_at "g"
 refine⟨g,cs,a,rfl,hg,gr,ba.1,ba.2,fun z=>hx fun y=>z y.1,fun za=>?_⟩
 walk_at "g"
 refine⟨g,cs,b,rfl,hg,gr,bb.1,bb.2,fun z=>hx fun y=>z y.2,fun zb=>?_⟩
 have sa:=Std.of ba.1 ba.2 za
 have sb:=Std.of bb.1 bb.2 zb
 have q:=q za zb
 walk_at "g"
 refine⟨g,cs,_,_,rfl,hg,gr.most,?_⟩
 have kl:∀ k∈nbK cs a.1 b.1 cs.length,0<=k/\k<cs.length:=fun k hk=>zts hk
 unfold zjv at q
 generalize nbK cs a.1 b.1 cs.length=ks at q kl
 unfold New
 walk_at "g"
 refine za0 (fun i ρ S'=>∃ w1,ρ=[some g,some (p2 a),some (p2 b),w1]/\S'=S++[.lst (ks.map D.int)]/\∀ x∈ks.take i,znc cs a b x=false) ⟨none,rfl,rfl,by simp⟩ (fun i ρ S' ⟨w1,_,e,_⟩=>e▸Lst.at0) ?_ ?_
 ·rintro i d ρ S' hd ⟨w1,rfl,rfl,hn⟩
  obtain⟨k,hk,rfl⟩:=zfG hd
  obtain⟨k0,k1⟩:=kl k (List.mem_of_getElem? hk)
  obtain⟨c,hc,ac⟩:=zfb (cs:=cs) k0 k1
  have eg:cs.getD k.toNat (0,0)=c:=by rw [List.getD_eq_getElem?_getD,hc];rfl
  obtain⟨bc1,bc2⟩:=gr.bd c (List.mem_of_getElem? hc)
  obtain⟨n,l,rfl,hgn,hgl⟩:=hg.old (T:=[.lst (ks.map D.int)])
  walk_at "g"
  refine⟨a,b,c,rfl,.inl ⟨(Bd.sub (bc2.mono (by decide:(190:Nat)<=200)) sa.2.1).mono (by decide),(Bd.sub sb.1 sa.1).mono (by decide)⟩,.inl ⟨(Bd.sub (bc1.mono (by decide:(170:Nat)<=180)) sa.1).mono (by decide),(Bd.sub sb.2.1 sa.2.1).mono (by decide)⟩,?_⟩
  walk_at "g"
  refine r_d (fun g1=>?_) (fun g1=>?_)
  ·walk_at "g"
   rw [zml hk hn (by unfold znc;rw [eg];exact decide_eq_true g1)] at q
   exact zaJ rfl q
  ·walk_at "g"
   refine⟨_,rfl,rfl,fun x hx=>?_⟩
   rw [zav hk] at hx
   rcases List.mem_append.mp hx with hx | hx
   ·exact hn x hx
   ·have:x=k:=by simpa using hx
    subst this
    unfold znc;rw [eg];exact decide_eq_false g1
 ·rintro ρ S' ⟨w1,rfl,rfl,hn⟩
  rw [List.length_map,List.take_length] at hn
  rw [zq8 hn] at q
  walk_at "g"
  exact zaJ rfl q
def zbs:DSp:=fun ds S Q=>∃ (a b:Int×Int),ds=[p2 a,p2 b]/\(Bd 180 a.1/\Bd 200 a.2)/\(Bd 180 b.1/\Bd 200 b.2)/\Q (.int (sqr a b)) S
def zca:DS :=
    (zH (zN (dOp zal (dOp oIx (zj 1) (dC (.int 0))) (dOp oIx (zj 0) (dC (.int 0)))) (zE 2))
 (zH (zN (dOp zal (dOp oIx (zj 1) (dC (.int 1))) (dOp oIx (zj 0) (dC (.int 1)))) (zE 3))
 (zZ (dOp zah (dOp zaD (zj 2) (zj 2)) (dOp zaD (zj 3) (zj 3))))))
theorem zgL:∀ ds So Q,zbs ds So Q->ds.length=2:=by rintro ds So Q ⟨_,_,rfl,_⟩;rfl
theorem zhY:BodyOk 4 zca zbs:=by
 rintro ds S Q ⟨a,b,rfl,⟨a1,a2⟩,⟨b1,b2⟩,q⟩
 unfold zca
 have c1:Bd 8000 (b.1-a.1):=(Bd.sub b1 a1).mono (by decide)
 have c2:Bd 8000 (b.2-a.2):=(Bd.sub b2 a2).mono (by decide)
 have m1:zax (b.1-a.1) (b.1-a.1):=.inl ⟨c1,c1⟩
 have m2:zax (b.2-a.2) (b.2-a.2):=.inl ⟨c2,c2⟩
 walk_at "g"
 exact fin_same q
def za5:DSp:=fun ds S Q=>∃ (v:D) (V:Vl) (a b:Int×Int),ds=[v,p2 a,p2 b]/\VAt S v V/\zdQ V/\((Bd 180 a.1/\Bd 200 a.2)/\zdv V.cs a)/\((Bd 180 b.1/\Bd 200 b.2)/\zdv V.cs b)/\Q (zeI V a b) S
def zct:DS :=
    (zH (zN (zaP zer xF (zf (zaV "ground" (zj 0)) (zf (zj 1) (zf (zj 2) zA)))) (zE 3))
 (zH (sIf (dT (dOp ze0 (zj 3) (dC .non))) (zZ (dTup (zf (dC (.str "ground")) (zf (zj 3) zA)))) zab)
 (zH (zN (dCall zbs (zf (zj 1) (zf (zj 2) zA))) (zE 4))
 (zH (sIf (zew (dT (dOp ze0 (zaV "haze" (zj 0)) (dC .non))) (dT (dOp oGt (zj 4) (zaV "haze" (zj 0))))) (zZ (dTup (zf (dC (.str "haze")) (zf (zj 4) zA)))) zab)
 (zZ (dC .non))))))
theorem zhX:∀ ds So Q,za5 ds So Q->ds.length=3:=by rintro ds So Q ⟨_,_,_,_,rfl,_⟩;rfl
theorem zia:BodyOk 5 zct za5:=by
 rintro ds S Q ⟨v,V,a,b,rfl,hv,ok,⟨ba,sa⟩,⟨bb,sb⟩,q⟩
 unfold zct
 obtain⟨n,g,bb',f,rfl,hn,hg,_,_⟩:=hv
 walk_at "g"
 refine⟨_,V.cs,a,b,rfl,hg,ok.gr,ba,bb,fun no=>(no ⟨sa,sb⟩).elim,fun _ _=>?_⟩
 unfold zeI at q
 cases e:zjv V.cs a b with
 | some k =>
  rw [e] at q
  unfold zbU
  walk_at "g"
  exact fin_same q
 | none =>
  rw [e] at q
  unfold zbU
  walk_at "g"
  refine⟨a,b,rfl,ba,bb,?_⟩
  dsimp only at q
  have hn':S[n]?=some (.ins "Valley" (vF (.ref g) (.ref bb') (.ref f) (zbU V.hz) (.int V.h0) (.int V.h1) (.int V.dl))):=hn
  generalize sqr a b=sq at q
  generalize V.hz=hz at q hn'
  cases hz with
  | none =>
   have q2:Q .non S:=q
   unfold zbU at hn'
   walk_at "g"
   exact fin_same q2
  | some z =>
   have q2:Q (if decide (z<sq)=true then .tup [.str "haze",.int sq] else .non) S:=q
   unfold zbU at hn'
   walk_at "g"
   refine r_d (fun h=>?_) (fun h=>?_)
   ·rw [if_pos (decide_eq_true h)] at q2
    walk_at "g"
    exact fin_same q2
   ·rw [if_neg (by rw [decide_eq_false h];decide)] at q2
    walk_at "g"
    exact fin_same q2
def zdm:DSp:=fun ds S Q=>∃ (F:Fg) (h:Int),ds=[fgD F,.int h]/\zax F.g h/\zax F.s h/\Q (.tup [.int (F.x0+F.g*h),.int (F.x1+F.g*h),.int (F.z0+F.s*h),.int (F.z1+F.s*h)]) S
def zhC:DS :=
    (zH (zN (dOp zaD (dOp oIx (zj 0) (dC (.int 6))) (zj 1)) (zE 2))
 (zH (zN (dOp zaD (dOp oIx (zj 0) (dC (.int 7))) (zj 1)) (zE 3))
 (zZ (dTup (zf (dOp zah (dOp oIx (zj 0) (dC (.int 0))) (zj 2)) (zf (dOp zah (dOp oIx (zj 0) (dC (.int 1))) (zj 2)) (zf (dOp zah (dOp oIx (zj 0) (dC (.int 2))) (zj 3)) (zf (dOp zah (dOp oIx (zj 0) (dC (.int 3))) (zj 3)) zA))))))))
theorem zot:∀ ds So Q,zdm ds So Q->ds.length=2:=by rintro ds So Q ⟨_,_,rfl,_⟩;rfl
theorem zpq:BodyOk 4 zhC zdm:=by
 rintro ds S Q ⟨F,h,rfl,c1,c2,q⟩
 unfold zhC
 walk_at "g"
 exact fin_same q
def zcj:DSp:=fun ds S Q=>∃ (L R B T x1 z1 x2 z2:Int),ds=[.tup [.int L,.int R,.int B,.int T],.tup [.int x1,.int z1],.tup [.int x2,.int z2]]/\Bd 1000 L/\Bd 1000 R/\Bd 1000 B/\Bd 1000 T/\Bd 1000 x1/\Bd 1000 z1/\Bd 1000 x2/\Bd 1000 z2 /\
 ∀ (ca cb:Cell) (mx mn:Int),mx∈acr L R B T x1 z1 x2 z2->(∀ a∈acr L R B T x1 z1 x2 z2,a<=mx)->mn∈acr L R B T x1 z1 x2 z2->(∀ a∈acr L R B T x1 z1 x2 z2,mn<=a)->Q (.ref (S.length+2)) (S++[ca,cb,.lst ((six L R B T x1 z1 x2 z2 mx mn).map D.int)])
def zfa:DS :=
    (zH (zN (dOp zal (dOp oIx (zj 2) (dC (.int 0))) (dOp oIx (zj 1) (dC (.int 0)))) (zE 3))
 (zH (zN (dOp zal (dOp oIx (zj 2) (dC (.int 1))) (dOp oIx (zj 1) (dC (.int 1)))) (zE 4))
 (zH (zN (zaY (zf (dTup (zf (dOp oIx (zj 0) (dC (.int 0))) (zf (dOp oIx (zj 0) (dC (.int 2))) zA))) (zf (dTup (zf (dOp oIx (zj 0) (dC (.int 0))) (zf (dOp oIx (zj 0) (dC (.int 3))) zA))) (zf (dTup (zf (dOp oIx (zj 0) (dC (.int 1))) (zf (dOp oIx (zj 0) (dC (.int 2))) zA))) (zf (dTup (zf (dOp oIx (zj 0) (dC (.int 1))) (zf (dOp oIx (zj 0) (dC (.int 3))) zA))) zA))))) (zE 5))
 (zH (zN (dLC 2 [3,4,1] (zbx (zj 5)) (zc2 2 (zao (zE 0) (zao (zE 1) zc0))) zcs (dOp zal (dOp zaD (zj 2) (dOp zal (zj 1) (dOp oIx (zj 4) (dC (.int 1))))) (dOp zaD (zj 3) (dOp zal (zj 0) (dOp oIx (zj 4) (dC (.int 0))))))) (zE 6))
 (zZ (zaY (zf (dOp zal (dB ze5 (zf (dOp oIx (zj 1) (dC (.int 0))) (zf (dOp oIx (zj 2) (dC (.int 0))) zA))) (dOp oIx (zj 0) (dC (.int 0)))) (zf (dOp zal (dOp oIx (zj 0) (dC (.int 1))) (dB zgc (zf (dOp oIx (zj 1) (dC (.int 0))) (zf (dOp oIx (zj 2) (dC (.int 0))) zA)))) (zf (dOp zal (dB ze5 (zf (dOp oIx (zj 1) (dC (.int 1))) (zf (dOp oIx (zj 2) (dC (.int 1))) zA))) (dOp oIx (zj 0) (dC (.int 2)))) (zf (dOp zal (dOp oIx (zj 0) (dC (.int 3))) (dB zgc (zf (dOp oIx (zj 1) (dC (.int 1))) (zf (dOp oIx (zj 2) (dC (.int 1))) zA)))) (zf (dB znE (zf (zj 6) zA)) (zf (dUn zcW (dB zkq (zf (zj 6) zA))) zA))))))))))))
theorem zlS:∀ ds So Q,zcj ds So Q->ds.length=3:=by rintro ds So Q ⟨_,_,_,_,_,_,_,_,rfl,_⟩;rfl
theorem zm3:BodyOk 7 zfa zcj:=by
 rintro ds S Q ⟨L,R,B,T,x1,z1,x2,z2,rfl,bL,bR,bB,bT,b1,b2,b3,b4,q⟩
 unfold zfa
 walk_at "g"
 refine zbB (fun _=>true) (on2 fun c=>.int ((x2-x1)*(c.2-z1)-(z2-z1)*(c.1-x1))) (by walk_at "dlat") (Nat.le_of_ble_eq_true rfl) (fun i d ys hd hw=>?_) ?_
 ·obtain⟨c,hc,rfl⟩:=zeZ (cs:=[(L,B),(L,T),(R,B),(R,T)]) hd
  have hm:=List.mem_of_getElem? hc
  have hb:Bd 1000 c.1/\Bd 1000 c.2:=by
   simp only [List.mem_cons,List.not_mem_nil,or_false] at hm
   rcases hm with rfl | rfl | rfl | rfl
   ·exact⟨bL,bB⟩
   ·exact⟨bL,bT⟩
   ·exact⟨bR,bB⟩
   ·exact⟨bR,bT⟩
  have hb1:=hb.1
  have hb2:=hb.2
  have c1:zax (x2-x1) (c.2-z1):=.inl ⟨(Bd.sub b3 b1).mono (by decide),(Bd.sub hb2 b2).mono (by decide)⟩
  have c2:zax (z2-z1) (c.1-x1):=.inl ⟨(Bd.sub b4 b2).mono (by decide),(Bd.sub hb1 b1).mono (by decide)⟩
  walk_at "g"
  exact zcN hd hw rfl rfl
 rw [filter_true]
 show New _ _ ((acr L R B T x1 z1 x2 z2).map D.int)
 walk_at "g"
 refine zt9 (ns:=acr L R B T x1 z1 x2 z2) (by walk_at "dlat") (Nat.le_of_ble_eq_true rfl) fun mx m1 m2=>?_
 walk_at "g"
 refine znK (ns:=acr L R B T x1 z1 x2 z2) (by walk_at "dlat") (Nat.le_of_ble_eq_true rfl) fun mn n1 n2=>?_
 walk_at "g"
 exact fin_same (q _ _ mx mn m1 m2 n1 n2)
def zdC:DSp:=fun ds S Q=>∃ (x:D) (cs:List (Int×Int)),ds=[x]/\zdI S x (cs.map p2)/\cs.length<=4000/\(cs.filter lec).length<64 /\
 ∀ ms:List (Int×Int),zas ms->(∀ h,ms.any (inS h)=cs.any (inS h))->ms.length<=(cs.filter lec).length->Q (.tup (ms.map p2)) S
theorem zny {ss:List (Int×Int)}(srt:ss.Pairwise fun a b=>zik b a=false){i:Nat}{c d:Int×Int}(hc:ss[i]?=some c)(hd:d∈ss.take i):d.1<=c.1:=by
 obtain⟨j,hj,e⟩:=List.mem_iff_getElem.mp hd
 rw [List.length_take] at hj
 rw [List.getElem_take] at e
 have hi:=zbo hc
 rw [List.getElem?_eq_getElem hi] at hc
 cases hc
 subst e
 exact zud (List.pairwise_iff_getElem.mp srt j i (by omega) hi (by omega))
theorem zgt {ss:List (Int×Int)}{i:Nat}{c:Int×Int}(hc:ss[i]?=some c)(h:Int):(ss.take (i+1)).any (inS h)=((ss.take i).any (inS h)||inS h c):=by
 rw [zav hc,List.any_append];simp
theorem zqM {α:Type}{l:List α}(h:0<l.length):∃ i x,l=i++[x]:=by
 have:l≠[]:=fun e=>by rw [e] at h;cases h
 exact⟨l.dropLast,l.getLast this,(List.dropLast_concat_getLast this).symm⟩
def zjb:DS :=
    (zH (zN (zaY zA) (zE 1))
 (zH (zb4 (zbx (dB zmS (zf (dLC 1 [] (zbx (zj 0)) (zE 0) (dT (dOp oLe (dOp oIx (zj 0) (dC (.int 0))) (dOp oIx (zj 0) (dC (.int 1))))) (dTup (zf (dOp oIx (zj 0) (dC (.int 0))) (zf (dOp oIx (zj 0) (dC (.int 1))) zA)))) zA))) (zc2 2 (zao (zE 2) (zao (zE 3) zc0))) (sIf (zew (dT (dOp oGt (dB zbm (zf (zj 1) zA)) (dC (.int 0)))) (dT (dOp oLe (zj 2) (dOp zah (dOp oIx (dOp oIx (zj 1) (dUn zcW (dC (.int 1)))) (dC (.int 1))) (dC (.int 1)))))) (zN (dTup (zf (dOp oIx (dOp oIx (zj 1) (dUn zcW (dC (.int 1)))) (dC (.int 0))) (zf (dB ze5 (zf (dOp oIx (dOp oIx (zj 1) (dUn zcW (dC (.int 1)))) (dC (.int 1))) (zf (zj 3) zA))) zA))) (zib (zj 1) (dUn zcW (dC (.int 1))))) (zaq (dM zbA (zj 1) (zf (dTup (zf (zj 2) (zf (zj 3) zA))) zA)))))
 (zZ (dB zkY (zf (zj 1) zA)))))
theorem zpR:∀ ds So Q,zdC ds So Q->ds.length=1:=by rintro ds So Q ⟨_,_,rfl,_⟩;rfl
theorem zrk:BodyOk 4 zjb zdC:=by
 rintro ds S Q ⟨x,cs,rfl,hx,hcl,hfl,q⟩
 unfold zjb
 walk_at "g"
 refine zti (xs:=cs.map p2) hx.old fun ok hok=>?_
 refine zbB (zsy lec) (on2 p2) (by have:=hok [];rwa [List.append_nil] at this) ?_ (fun i d ys hd hw=>?_) ?_
 ·rw [List.length_map];unfold big;omega
 ·obtain⟨c,hc,rfl⟩:=zeZ hd
  walk_at "g"
  refine r_d (fun g=>?_) (fun g=>?_)
  ·walk_at "g"
   exact zcN hd hw (decide_eq_true g) rfl
  ·walk_at "g"
   exact zqN hd hw (decide_eq_false g)
 rw [zp9,zsl]
 walk_at "g"
 refine zrs (cs:=cs.filter lec) (Lst.at rfl) hfl fun ss perm srt=>?_
 have hsl:ss.length=(cs.filter lec).length:=perm.length_eq
 have hsle:∀ c∈ss,c.1<=c.2:=fun c hc=>of_decide_eq_true (List.mem_filter.mp (perm.mem_iff.mp hc)).2
 walk_at "g"
 refine za0 (fun i ρ S'=>∃ (ms:List (Int×Int)) (w1 w2:Option D),ρ=[some x,some (.ref S.length),w1,w2]/\S'=S++[.lst (ms.map p2),.lst ((cs.filter lec).map p2),.lst (ss.map p2)]/\zas ms/\ms.length<=i /\
  (∀ h,ms.any (inS h)=(ss.take i).any (inS h))/\∀ m∈ms,∃ d∈ss.take i,m.1=d.1)
  ⟨[],none,none,rfl,rfl,zas.nil,Nat.le_refl _,fun h=>rfl,by simp⟩ (fun i ρ S' ⟨ms,w1,w2,_,e,_⟩=>e▸Lst.at rfl) ?_ ?_
 ·rintro i d ρ S' hd ⟨ms,w1,w2,rfl,rfl,ok,hml,hany,hlow⟩
  obtain⟨c,hc,rfl⟩:=zeZ hd
  have hil:=zbo hc
  have hcle:=hsle c (List.mem_of_getElem? hc)
  have low:∀ m∈ms,m.1<=c.1:=fun m hm=>by
   obtain⟨d,hd,e⟩:=hlow m hm
   rw [e]
   exact zny srt hc hd
  have hlow':∀ m,(∃ d∈ss.take i,m=d.1)->∃ d∈ss.take (i+1),m=d.1:=fun m ⟨d,hd,e⟩=>⟨d,by rw [zav hc];exact List.mem_append_left _ hd,e⟩
  have hnew:∃ d∈ss.take (i+1),c.1=d.1:=⟨c,by rw [zav hc];simp,rfl⟩
  have app:(∀ m∈ms,m.2+2<=c.1)->∃ (ms':List (Int×Int)) (w1 w2:Option D),([some x,some (.ref S.length),some (.int c.1),some (.int c.2)]:Rho)=[some x,some (.ref S.length),w1,w2]/\S++[Cell.lst (ms.map p2++[p2 c]),.lst ((cs.filter lec).map p2),.lst (ss.map p2)]=S++[.lst (ms'.map p2),.lst ((cs.filter lec).map p2),.lst (ss.map p2)]/\zas ms'/\ms'.length<=i+1 /\
    (∀ h,ms'.any (inS h)=(ss.take (i+1)).any (inS h))/\∀ m∈ms',∃ d∈ss.take (i+1),m.1=d.1:=fun ap=>by
   refine⟨ms++[c],_,_,rfl,by rw [List.map_append];rfl,ok.snoc hcle ap,by rw [List.length_append];exact Nat.succ_le_succ hml,fun h=>by rw [List.any_append,hany h,zgt hc];simp,fun y hy=>?_⟩
   rcases List.mem_append.mp hy with hy | hy
   ·exact hlow' _ (hlow y hy)
   ·have:y=c:=by simpa using hy
    subst this
    exact hnew
  walk_at "g"
  rw [List.length_map]
  refine r_d (fun h0=>?_) (fun h0=>?_)
  ·obtain⟨ms0,m,rfl⟩:=zqM (l:=ms) (by omega)
   have hm1:=low m (by simp)
   have am:atD (List.map p2 (ms0++[m])) (-1)=some (p2 m):=by rw [List.map_append];exact zgf
   have im:ixD (List.map p2 (ms0++[m])).length (-1)=some (ms0.map p2).length:=by rw [List.map_append];exact zkA
   walk_at "g"
   refine r_d (fun h1=>?_) (fun h1=>?_)
   ·walk_at "g"
    refine zm9 zb5 im ?_
    walk_at "g"
    obtain⟨ok2,any2⟩:=zpk ok hcle hm1 h1
    refine⟨ms0++[(m.1,max m.2 c.2)],_,_,rfl,?_,ok2,by rw [List.length_append] at hml ⊢;exact Nat.le_succ_of_le hml,fun h=>by rw [any2 h,hany h,zgt hc],fun y hy=>?_⟩
    ·rw [List.map_append,List.map_append,List.set_append_right _ _ (Nat.le_refl _),Nat.sub_self];rfl
    ·rcases List.mem_append.mp hy with hy | hy
     ·exact hlow' _ (hlow y (List.mem_append_left _ hy))
     ·have:y=(m.1,max m.2 c.2):=by simpa using hy
      subst this
      exact hlow' _ (hlow m (by simp))
   ·walk_at "g"
    obtain⟨ok0,hmle,hap⟩:=ok.init
    exact app fun y hy=>by
     rcases List.mem_append.mp hy with hy | hy
     ·have:=hap y hy
      omega
     ·have:y=m:=by simpa using hy
      subst this
      omega
  ·have em:ms=[]:=List.length_eq_zero_iff.mp (by omega)
   walk_at "g"
   exact app (by rw [em];simp)
 ·rintro ρ S' ⟨ms,w1,w2,rfl,rfl,ok,hml,hany,hlow⟩
  rw [List.length_map] at hml hany
  walk_at "g"
  exact zaJ (zhD ms) (q ms ok (fun h=>by rw [hany h,List.take_length,zp3 perm,show cs.filter lec=cs.filter (fun c=>decide (c.1<=c.2)) from rfl,any_filter]) (by omega))
def zeP:DSp:=fun ds S Q=>∃ (F:Fg) (px pz qx qz:Int),ds=[fgD F,.tup [.int px,.int pz],.tup [.int qx,.int qz]]/\FgB F/\Bd 600 px/\Bd 600 pz/\Bd 600 qx/\Bd 600 qz/\∀ ms:List (Int×Int),zqT ms F px pz qx qz->Q (.tup (ms.map p2)) S
def zhs:DS :=
    (zH (zN (dC (.int 0)) (zE 3))
 (zH (zN (dOp zal (dOp oIx (zj 0) (dC (.int 5))) (dOp oIx (zj 0) (dC (.int 4)))) (zE 4))
 (zH (zN (dCall zcj (zf (dCall zdm (zf (zj 0) (zf (dC (.int 0)) zA))) (zf (zj 1) (zf (zj 2) zA)))) (zE 5))
 (zH (zN (dCall zcj (zf (dCall zdm (zf (zj 0) (zf (dC (.int 1)) zA))) (zf (zj 1) (zf (zj 2) zA)))) (zE 6))
 (zH (zb4 (zpJ (zf (zj 5) (zf (zj 6) zA))) (zc2 2 (zao (zE 7) (zao (zE 8) zc0))) (zH (zN (dOp zal (zj 8) (zj 7)) (zE 9))
 (sIf (dT (dOp oGt (zj 9) (dC (.int 0)))) (zN (dB ze5 (zf (zj 3) (zf (dUn zcW (dOp oDiv (zj 7) (zj 9))) zA))) (zE 3)) (sIf (dT (dOp oLt (zj 9) (dC (.int 0)))) (zN (dB zgc (zf (zj 4) (zf (dOp oDiv (zj 7) (dUn zcW (zj 9))) zA))) (zE 4)) (sIf (dT (dOp oLt (zj 7) (dC (.int 0)))) (zZ (dTup zA)) zab)))))
 (zZ (dCall zdC (zf (zaY (zf (dTup (zf (dOp zah (dOp oIx (zj 0) (dC (.int 4))) (zj 3)) (zf (dOp zah (dOp oIx (zj 0) (dC (.int 4))) (zj 4)) zA))) zA)) zA))))))))
theorem zoW:∀ ds So Q,zeP ds So Q->ds.length=3:=by rintro ds So Q ⟨_,_,_,_,_,rfl,_⟩;rfl
theorem zpK:BodyOk 10 zhs zeP:=by
  rintro ds S Q ⟨F,px,pz,qx,qz,rfl,B,bpx,bpz,bqx,bqz,q⟩
  unfold zhs
  have bmv:∀ {x y c:Int},Bd 600 x->Bd 200 y->(c=0\/c=1)->Bd 700 (x+y*c):=fun {x y c} hx hy hc=>(Bd.add (n:=600) hx (by
    rcases hc with rfl | rfl
    · rw [Int.mul_zero];exact Bd.lit (by decide) (by decide)
    · rw [Int.mul_one];exact hy.mono (by decide))).mono (by decide)
  have cs:∀ {y c:Int},(c=0\/c=1)->zax y c:=fun hc=>.inr (.inr (by rcases hc with rfl | rfl<;>decide))
  walk_at "g"
  refine⟨F,0,rfl,cs (.inl rfl),cs (.inl rfl),?_⟩
  walk_at "g"
  refine⟨_,_,_,_,px,pz,qx,qz,rfl,(bmv B.b0 B.bg (.inl rfl)).mono (by decide),(bmv B.b1 B.bg (.inl rfl)).mono (by decide),(bmv B.b2 B.bs (.inl rfl)).mono (by decide),(bmv B.b3 B.bs (.inl rfl)).mono (by decide),bpx.mono (by decide),bpz.mono (by decide),bqx.mono (by decide),bqz.mono (by decide),fun ca cb mx mn m1 m2 n1 n2=>?_⟩
  walk_at "g"
  refine⟨F,1,rfl,cs (.inr rfl),cs (.inr rfl),?_⟩
  walk_at "g"
  refine⟨_,_,_,_,px,pz,qx,qz,rfl,(bmv B.b0 B.bg (.inr rfl)).mono (by decide),(bmv B.b1 B.bg (.inr rfl)).mono (by decide),(bmv B.b2 B.bs (.inr rfl)).mono (by decide),(bmv B.b3 B.bs (.inr rfl)).mono (by decide),bpx.mono (by decide),bpz.mono (by decide),bqx.mono (by decide),bqz.mono (by decide),fun ca' cb' mx' mn' m1' m2' n1' n2'=>?_⟩
  have mm:∀ k,_↔_:=fun k=>zoO (k:=k) m1 m2 n1 n2 m1' m2' n1' n2'
  have sb:=zo8 (bmv B.b0 B.bg (.inl rfl)) (bmv B.b1 B.bg (.inl rfl)) (bmv B.b2 B.bs (.inl rfl)) (bmv B.b3 B.bs (.inl rfl)) (bpx.mono (by decide)) (bpz.mono (by decide)) (bqx.mono (by decide)) (bqz.mono (by decide)) m1 n1
  have ab:=zo8 (bmv B.b0 B.bg (.inr rfl)) (bmv B.b1 B.bg (.inr rfl)) (bmv B.b2 B.bs (.inr rfl)) (bmv B.b3 B.bs (.inr rfl)) (bpx.mono (by decide)) (bpz.mono (by decide)) (bqx.mono (by decide)) (bqz.mono (by decide)) m1' n1'
  have l1:(six (F.x0+F.g*0) (F.x1+F.g*0) (F.z0+F.s*0) (F.z1+F.s*0) px pz qx qz mx mn).length=6:=rfl
  have l2:(six (F.x0+F.g*1) (F.x1+F.g*1) (F.z0+F.s*1) (F.z1+F.s*1) px pz qx qz mx' mn').length=6:=rfl
  generalize six (F.x0+F.g*0) (F.x1+F.g*0) (F.z0+F.s*0) (F.z1+F.s*0) px pz qx qz mx mn=A at *
  generalize six (F.x0+F.g*1) (F.x1+F.g*1) (F.z0+F.s*1) (F.z1+F.s*1) px pz qx qz mx' mn'=A' at *
  clear m1 m2 n1 n2 m1' m2' n1' n2'
  have kA:(S++[ca,cb,Cell.lst (A.map D.int)]++[ca',cb',Cell.lst (A'.map D.int)])[S.length+2]?=some (.lst (A.map D.int)):=zaU ((zaN _ _ _).trans rfl)
  have kA':(S++[ca,cb,Cell.lst (A.map D.int)]++[ca',cb',Cell.lst (A'.map D.int)])[(S++[ca,cb,Cell.lst (A.map D.int)]).length+2]?=some (.lst (A'.map D.int)):=(zaN _ _ _).trans rfl
  have eS:S++[ca,cb,Cell.lst (A.map D.int)]++[ca',cb',Cell.lst (A'.map D.int)]=S++[ca,cb,Cell.lst (A.map D.int),ca',cb',Cell.lst (A'.map D.int)]:=by simp
  generalize (S++[ca,cb,Cell.lst (A.map D.int)]).length+2=na at *
  generalize S++[ca,cb,Cell.lst (A.map D.int)]++[ca',cb',Cell.lst (A'.map D.int)]=S1 at *
  walk_at "g"
  refine zwn (xs:=A.map D.int) (ys:=A'.map D.int) (Lst.here kA) (Lst.here kA') ?_
  refine za0 (fun i ρ S'=>S'=S1/\∃ (lo hi:Int) (w1 w2 w3:Option D),ρ=[some (fgD F),some (.tup [.int px,.int pz]),some (.tup [.int qx,.int qz]),some (.int lo),some (.int hi),some (.ref (S.length+2)),some (.ref na),w1,w2,w3] /\
    ∀ k,(lo<=k/\k<=hi)↔(0<=k/\k<=F.l-F.f/\∀ j,j<i->0<=A.getD j 0+k*(A'.getD j 0-A.getD j 0))) ⟨rfl,0,F.l-F.f,none,none,none,rfl,fun k=>⟨fun h=>⟨h.1,h.2,fun j hj=>absurd hj (by omega)⟩,fun h=>⟨h.1,h.2.1⟩⟩⟩ (fun i ρ S' z=>z.1▸⟨Lst.here kA,Lst.here kA'⟩) ?_ ?_
  · rintro i d ρ S' hd ⟨rfl,lo,hi,w1,w2,w3,rfl,hk⟩
    obtain⟨x,y,hx,hy,rfl⟩:=zf5 hd
    obtain⟨sv,hs,rfl⟩:=zfG hx
    obtain⟨av,ha,rfl⟩:=zfG hy
    have es:A.getD i 0=sv:=by rw [List.getD_eq_getElem?_getD,hs];rfl
    have ea:A'.getD i 0=av:=by rw [List.getD_eq_getElem?_getD,ha];rfl
    have bsv:=sb sv (List.mem_of_getElem? hs)
    have bav:=ab av (List.mem_of_getElem? ha)
    have bst:Bd 1600 (av-sv):=(Bd.sub bav bsv).mono (by decide)
    have bst':Bd 1600 (-(av-sv)):=bst.neg
    have next:∀ {P:Int->Prop},(∀ k,P k↔0<=sv+k*(av-sv))->∀ k,((0<=k/\k<=F.l-F.f/\∀ j,j<i->0<=A.getD j 0+k*(A'.getD j 0-A.getD j 0))/\P k)↔(0<=k/\k<=F.l-F.f/\∀ j,j<i+1->0<=A.getD j 0+k*(A'.getD j 0-A.getD j 0)):=fun {P} hP k=>by
      constructor
      · rintro⟨⟨c1,c2,c3⟩,c4⟩
        refine⟨c1,c2,fun j hj=>?_⟩
        rcases Nat.lt_or_ge j i with h | h
        · exact c3 j h
        · have:j=i:=by omega
          subst this
          rw [es,ea]
          exact (hP k).mp c4
      · rintro⟨c1,c2,c3⟩
        refine⟨⟨c1,c2,fun j hj=>c3 j (by omega)⟩,(hP k).mpr ?_⟩
        have:=c3 i (by omega)
        rw [es,ea] at this
        exact this
    walk_at "g"
    refine r_d (fun g1=>?_) (fun g1=>?_)
    · walk_at "g"
      refine⟨rfl,_,_,_,_,_,rfl,fun k=>?_⟩
      rw [<- next (fun k=>zsp (S:=sv) (T:=av-sv) (k:=k) (by omega)) k,<- hk k]
      omega
    · walk_at "g"
      refine r_d (fun g2=>?_) (fun g2=>?_)
      · walk_at "g"
        refine⟨rfl,_,_,_,_,_,rfl,fun k=>?_⟩
        rw [<- next (fun k=>zo5 (S:=sv) (T:=av-sv) (k:=k) (by omega)) k,<- hk k]
        omega
      · have e0:av-sv=0:=by omega
        have flat:∀ k,(0<=sv)↔0<=sv+k*(av-sv):=fun k=>by rw [e0,Int.mul_zero,Int.add_zero]
        walk_at "g"
        refine r_d (fun g3=>?_) (fun g3=>?_)
        · walk_at "g"
          rw [eS]
          refine zaJ (zhD []) (q [] ⟨zas.nil,by decide,fun h=>⟨fun z=>absurd z (by simp),fun z=>?_⟩⟩)
          have:=(mm (h-F.f)).mpr ((zjK (by have:=B.x;omega) (by have:=B.z;omega)).mpr z.2.2) i (by have:=zbo hs;omega)
          rw [es,ea,<- flat] at this
          omega
        · walk_at "g"
          refine⟨rfl,_,_,_,_,_,rfl,fun k=>?_⟩
          rw [<- next flat k,<- hk k]
          constructor
          · intro h;exact⟨h,by omega⟩
          · intro h;exact h.1
  · rintro ρ S' ⟨rfl,lo,hi,w1,w2,w3,rfl,hk⟩
    rw [zd7,List.length_map,List.length_map,l1,l2] at hk
    walk_at "g"
    refine⟨_,[(F.f+lo,F.f+hi)],rfl,.inr (by walk_at "dlat"),Nat.le_of_ble_eq_true rfl,?_,fun ms ok hany hml=>?_⟩
    · exact Nat.lt_of_le_of_lt (List.length_filter_le _ _) (Nat.le_of_ble_eq_true rfl)
    · rw [eS,List.append_assoc]
      exact zaJ (zhD ms) (q ms (zpH B ok (Nat.le_trans hml (List.length_filter_le _ _)) hany fun k=>by rw [hk k];exact and_congr_right fun _=>and_congr_right fun _=>mm k))
def zcA:DSp:=fun ds S Q=>∃ (x:D) (fs:List Fg) (px pz qx qz:Int),ds=[x,.tup [.int px,.int pz],.tup [.int qx,.int qz]]/\Lst S x (fs.map fgD)/\fs.length<64/\(∀ F∈fs,FgB F)/\Bd 600 px/\Bd 600 pz/\Bd 600 qx/\Bd 600 qz /\
 ∀ ms:List (Int×Int),zas ms->(∀ h,ms.any (inS h)=true↔∃ F∈fs,zbG F px pz qx qz h)->ms.length<=fs.length->Q (.tup (ms.map p2)) S
def zd8:DS :=
    (zH (zN (zaY zA) (zE 3))
 (zH (zb4 (zbx (zj 0)) (zE 4) (zaq (dM ziq (zj 3) (zf (dCall zeP (zf (zj 4) (zf (zj 1) (zf (zj 2) zA)))) zA))))
 (zZ (dCall zdC (zf (zj 3) zA)))))
theorem zkd:∀ ds So Q,zcA ds So Q->ds.length=3:=by rintro ds So Q ⟨_,_,_,_,_,_,rfl,_⟩;rfl
theorem zlh:BodyOk 5 zd8 zcA:=by
 rintro ds S Q ⟨x,fs,px,pz,qx,qz,rfl,hx,hl,hB,bpx,bpz,bqx,bqz,q⟩
 unfold zd8
 walk_at "g"
 refine za0 (fun i ρ S'=>∃ (cs:List (Int×Int)) (w:Option D),ρ=[some x,some (.tup [.int px,.int pz]),some (.tup [.int qx,.int qz]),some (.ref S.length),w]/\S'=S++[.lst (cs.map p2)]/\cs.length<=i/\∀ h,cs.any (inS h)=true↔∃ F∈fs.take i,zbG F px pz qx qz h)
  ⟨[],none,rfl,rfl,Nat.le_refl _,fun h=>by simp⟩ (fun i ρ S' ⟨cs,w,_,e,_⟩=>e▸hx.old) ?_ ?_
 ·rintro i d ρ S' hd ⟨cs,w,rfl,rfl,hc,hh⟩
  obtain⟨F,hF,rfl⟩:=zkT hd
  have hi:=zbo hF
  walk_at "g"
  refine⟨F,px,pz,qx,qz,rfl,hB F (List.mem_of_getElem? hF),bpx,bpz,bqx,bqz,fun ms hm=>?_⟩
  obtain⟨ok,hone,hat⟩:=hm
  walk_at "g"
  refine znS (n:=S.length) zb5 (by rw [List.length_map,List.length_map];unfold big;omega) ?_
  walk_at "g"
  refine⟨cs++ms,_,rfl,by rw [List.map_append],by rw [List.length_append];omega,fun h=>?_⟩
  rw [List.any_append,Bool.or_eq_true,hh,hat,zav hF]
  constructor
  ·rintro (⟨G,hG,g⟩ | g)
   ·exact⟨G,List.mem_append_left _ hG,g⟩
   ·exact⟨F,by simp,g⟩
  ·rintro⟨G,hG,g⟩
   rcases List.mem_append.mp hG with hG | hG
   ·exact .inl ⟨G,hG,g⟩
   ·have:G=F:=by simpa using hG
    subst this
    exact .inr g
 ·rintro ρ S' ⟨cs,w,rfl,rfl,hc,hh⟩
  rw [List.length_map] at hc hh
  rw [List.take_length] at hh
  have hf:=List.length_filter_le lec cs
  walk_at "g"
  refine⟨_,cs,rfl,.inr Lst.at0,by omega,by omega,fun ms ok hany hml=>?_⟩
  exact zaJ (zhD ms) (q ms ok (fun h=>by rw [hany h];exact hh h) (by omega))
def zfJ:DSp:=fun ds S Q=>∃ (cs:List (Int×Int)) (lo hi:Int),ds=[.tup (cs.map p2),.int lo,.int hi]/\zas cs/\cs.length<63 /\
 ∀ ms:List (Int×Int),zas ms->(∀ h,lo<=h->h<=hi->ms.any (inS h)=!(cs.any (inS h)))->ms.length<=cs.length+1->Q (.tup (ms.map p2)) S
def zjf:DS :=
    (zH (zN (zaY zA) (zE 3))
 (zH (zN (zj 1) (zE 4))
 (zH (zb4 (zbx (zj 0)) (zE 5) (zH (zaq (dM zbA (zj 3) (zf (dTup (zf (zj 4) (zf (dOp zal (dOp oIx (zj 5) (dC (.int 0))) (dC (.int 1))) zA))) zA)))
 (zN (dOp zah (dOp oIx (zj 5) (dC (.int 1))) (dC (.int 1))) (zE 4))))
 (zH (zaq (dM zbA (zj 3) (zf (dTup (zf (zj 4) (zf (zj 2) zA))) zA)))
 (zZ (dCall zdC (zf (zj 3) zA)))))))
theorem zqe:∀ ds So Q,zfJ ds So Q->ds.length=3:=by rintro ds So Q ⟨_,_,_,rfl,_⟩;rfl
theorem zr1:BodyOk 6 zjf zfJ:=by
  rintro ds S Q ⟨cs,lo,hi,rfl,ok,h31,q⟩
  unfold zjf
  walk_at "g"
  refine za0 (fun i ρ S'=>∃ (w:Option D),ρ=[some (.tup (cs.map p2)),some (.int lo),some (.int hi),some (.ref S.length),some (.int (zaC lo (cs.take i)).2),w]/\S'=S++[.lst ((zaC lo (cs.take i)).1.map p2)]) ⟨none,rfl,rfl⟩ (fun _ _ _ _=>True.intro) ?_ ?_
  · rintro i d ρ S' hd ⟨w,rfl,rfl⟩
    obtain⟨c,hc,rfl⟩:=zeZ hd
    have hi':=zbo hc
    have hlim:(List.map p2 (zaC lo (cs.take i)).1).length<big:=by
      rw [List.length_map,zei,List.length_take];unfold big;omega
    walk_at "g"
    refine⟨some (p2 c),?_,?_⟩
    · rw [zav hc,zgp];rfl
    · rw [zav hc,zgp,List.map_append];rfl
  · rintro ρ S' ⟨w,rfl,rfl⟩
    rw [List.length_map,List.take_length]
    have hlim:(List.map p2 (zaC lo cs).1).length<big:=by
      rw [List.length_map,zei];unfold big;omega
    have hf:=List.length_filter_le lec ((zaC lo cs).1++[((zaC lo cs).2,hi)])
    rw [List.length_append,zei] at hf
    have hf:((((zaC lo cs).1++[((zaC lo cs).2,hi)])).filter lec).length<=cs.length+1:=hf
    walk_at "g"
    refine⟨_,(zaC lo cs).1++[((zaC lo cs).2,hi)],rfl,.inr (by rw [List.map_append];exact Lst.at0),by rw [List.length_append,zei];show cs.length+1<=4000;omega,by omega,fun ms okm hany hml=>?_⟩
    refine zaJ (zhD ms) (q ms okm (fun h h0 h1=>?_) (by omega))
    rw [hany h,Bool.eq_iff_iff,zkN h1 lo ok h0 (fun _ _ _=>trivial),<- zbF]
    cases cs.any (inS h)<;>simp
def zfQ:DSp:=fun ds S Q=>∃ (as bs:List (Int×Int)),ds=[.tup (as.map p2),.tup (bs.map p2)]/\zas as/\zas bs/\as.length+bs.length<64 /\
 ∀ ms:List (Int×Int),zas ms->(∀ h,ms.any (inS h)=(as.any (inS h)&&bs.any (inS h)))->ms.length<=as.length+bs.length->Q (.tup (ms.map p2)) S
def zi1:DS :=
    (zH (zN (zaY zA) (zE 2))
 (zH (zb4 (zbx (zj 0)) (zc2 2 (zao (zE 3) (zao (zE 4) zc0))) (zb4 (zbx (zj 1)) (zc2 2 (zao (zE 5) (zao (zE 6) zc0))) (zaq (dM zbA (zj 2) (zf (dTup (zf (dB ze5 (zf (zj 3) (zf (zj 5) zA))) (zf (dB zgc (zf (zj 4) (zf (zj 6) zA))) zA))) zA)))))
 (zZ (dCall zdC (zf (zj 2) zA)))))
theorem zpm:∀ ds So Q,zfQ ds So Q->ds.length=2:=by rintro ds So Q ⟨_,_,rfl,_⟩;rfl
theorem zsi:BodyOk 7 zi1 zfQ:=by
 rintro ds S Q ⟨as,bs,rfl,oka,okb,hlen,q⟩
 unfold zi1
 have hmul:as.length*bs.length<=3969:=Nat.le_trans (Nat.mul_le_mul (show as.length<=63 by omega) (show bs.length<=63 by omega)) (by decide)
 walk_at "g"
 refine za0 (fun i ρ S'=>∃ (w1 w2 w3 w4:Option D),ρ=[some (.tup (as.map p2)),some (.tup (bs.map p2)),some (.ref S.length),w1,w2,w3,w4]/\S'=S++[.lst ((zaS (as.take i) bs).map p2)]) ⟨none,none,none,none,rfl,rfl⟩ (fun _ _ _ _=>True.intro) ?_ ?_
 ·rintro i d ρ S' hd ⟨w1,w2,w3,w4,rfl,rfl⟩
  obtain⟨a,ha,rfl⟩:=zeZ hd
  have hi:=zbo ha
  walk_at "g"
  refine za0 (fun j ρ S'=>∃ (w3 w4:Option D),ρ=[some (.tup (as.map p2)),some (.tup (bs.map p2)),some (.ref S.length),some (.int a.1),some (.int a.2),w3,w4]/\S'=S++[.lst ((zaS (as.take i) bs++(bs.take j).map (zbb a)).map p2)]) ⟨w3,w4,rfl,by simp⟩ (fun _ _ _ _=>True.intro) ?_ ?_
  ·rintro j d ρ S' hd ⟨w3,w4,rfl,rfl⟩
   obtain⟨b,hb,rfl⟩:=zeZ hd
   have hj:=zbo hb
   have hlim:(List.map p2 (zaS (as.take i) bs++(bs.take j).map (zbb a))).length<big:=by
    rw [List.length_map,List.length_append,zi4,List.length_map,List.length_take,List.length_take]
    have:min i as.length*bs.length<=as.length*bs.length:=Nat.mul_le_mul (Nat.min_le_right _ _) (Nat.le_refl _)
    unfold big;omega
   walk_at "g"
   refine⟨_,_,rfl,?_⟩
   have e:zaS (as.take i) bs++(bs.take (j+1)).map (zbb a)=zaS (as.take i) bs++(bs.take j).map (zbb a)++[zbb a b]:=by
    rw [zav hb,List.map_append,<- List.append_assoc];rfl
   rw [e,List.map_append (l₂:=[zbb a b])]
   rfl
  ·rintro ρ S' ⟨w3,w4,rfl,rfl⟩
   refine⟨_,_,_,_,rfl,?_⟩
   rw [List.length_map,List.take_length,zlC ha]
 ·rintro ρ S' ⟨w1,w2,w3,w4,rfl,rfl⟩
  rw [List.length_map,List.take_length]
  have hf:((zaS as bs).filter lec).length<=as.length+bs.length:=zky oka okb
  walk_at "g"
  refine⟨_,zaS as bs,rfl,.inr Lst.at0,by rw [zi4];omega,by omega,fun ms ok hany hml=>?_⟩
  exact zaJ (zhD ms) (q ms ok (fun h=>by rw [hany h,zmZ]) (by omega))
def zdU:DSp:=fun ds S Q=>∃ (as bs:List (Int×Int)),ds=[.tup (as.map p2),.tup (bs.map p2)]/\zas as/\zas bs/\as.length+bs.length<63 /\
 ∀ ms:List (Int×Int),zas ms->(∀ h,ms.any (inS h)=(as.any (inS h)&&!(bs.any (inS h))))->ms.length<=as.length+bs.length+1->Q (.tup (ms.map p2)) S
def zfi:DS :=
    (zH (sIf (dT (dOp oEq (dB zbm (zf (zj 0) zA)) (dC (.int 0)))) (zZ (dTup zA)) zab)
 (zZ (dCall zfQ (zf (zj 0) (zf (dCall zfJ (zf (zj 1) (zf (dOp oIx (dOp oIx (zj 0) (dC (.int 0))) (dC (.int 0))) (zf (dOp oIx (dOp oIx (zj 0) (dUn zcW (dC (.int 1)))) (dC (.int 1))) zA)))) zA)))))
theorem zlE:∀ ds So Q,zdU ds So Q->ds.length=2:=by rintro ds So Q ⟨_,_,rfl,_⟩;rfl
theorem zmI:BodyOk 2 zfi zdU:=by
 rintro ds S Q ⟨as,bs,rfl,oka,okb,hlen,q⟩
 unfold zfi
 walk_at "g"
 rw [List.length_map]
 refine r_d (fun g=>?_) (fun g=>?_)
 ·have ea:as=[]:=List.length_eq_zero_iff.mp (by omega)
  subst ea
  walk_at "g"
  exact fin_same (q [] zas.nil (fun h=>rfl) (by simp))
 ·obtain⟨c,as',rfl⟩:∃ c as',as=c::as':=by
   cases as with
   | nil=>exact absurd (by simp) g
   | cons c as'=>exact⟨c,as',rfl⟩
  obtain⟨ms0,m,em⟩:=zqM (l:=c::as') (by simp)
  have a0:atD (List.map p2 (c::as')) 0=some (p2 c):=zem (i:=0) rfl
  have am:atD (List.map p2 (c::as')) (-1)=some (p2 m):=by rw [em,List.map_append];exact zgf
  walk_at "g"
  refine⟨bs,c.1,m.2,rfl,okb,by omega,fun gs okg hg hgl=>?_⟩
  walk_at "g"
  refine⟨c::as',gs,rfl,oka,okg,by omega,fun ms ok hany hml=>?_⟩
  refine fin_same (q ms ok (fun h=>?_) (by omega))
  rw [hany h]
  cases hA:(c::as').any (inS h) with
  | false=>rfl
  | true =>
   obtain⟨x,hx,x1,x2⟩:=zbF.mp hA
   have lo:c.1<=h:=by
    rcases List.mem_cons.mp hx with rfl | hx
    ·exact x1
    ·have:=(List.pairwise_cons.mp oka.ap).1 x hx
     have:=oka.le c (by simp)
     omega
   have hi:h<=m.2:=by
    rw [em] at hx oka
    obtain⟨_,hm,hap⟩:=oka.init
    rcases List.mem_append.mp hx with hx | hx
    ·have:=hap x hx
     omega
    ·have:x=m:=by simpa using hx
     subst this
     exact x2
   rw [hg h lo hi]
def zdX:zdk:=fun ds S Q ex=>∃ (v:D) (V:Vl) (n m:Str),ds=[v,.str n,.str m]/\VAt S v V/\zdQ V/\fl 20 (.str n)=true/\fl 20 (.str m)=true/\((∀ b∈V.bs,b.1≠n)\/(∀ b∈V.bs,b.1≠m)->ex "NoBeacon" S)/\∀ s t,(n,s)∈V.bs->(m,t)∈V.bs->∀ ms,zu8 V n m s t ms->Q (.tup (ms.map p2)) S
def zhy (ex : XR) : DS :=
    (zH (zN (zaP za9 ex (zf (zj 0) (zf (zj 1) zA))) (zE 3))
 (zH (zN (zaP za9 ex (zf (zj 0) (zf (zj 2) zA))) (zE 4))
 (zH (zN (dTup (zf (dTup (zf (zaV "first" (zj 0)) (zf (zaV "last" (zj 0)) zA))) zA)) (zE 5))
 (zH (sIf (dT (dOp oEq (zj 1) (zj 2))) (zZ (zj 5)) zab)
 (zH (sIf (dT (dOp ze0 (dCall za5 (zf (zj 0) (zf (zj 3) (zf (zj 4) zA)))) (dC .non))) (zZ (dTup zA)) zab)
 (zZ (dCall zdU (zf (zj 5) (zf (dCall zcA (zf (zaV "fogs" (zj 0)) (zf (zj 3) (zf (zj 4) zA)))) zA)))))))))
theorem znN:∀ ds So Q ex,zdX ds So Q ex->ds.length=3:=by rintro ds So Q ex ⟨_,_,_,_,rfl,_⟩;rfl
theorem zpE:zco 6 zhy zdX:=by
  rintro ds S Q ex ⟨v,V,n,m,rfl,hv,ok,hn,hm,hx,q⟩
  unfold zhy
  walk_at "g"
  refine⟨v,V,n,rfl,hv,ok,hn,fun no=>hx (.inl no),fun s hs=>?_⟩
  walk_at "g"
  refine⟨v,V,m,rfl,hv,ok,hm,fun no=>hx (.inr no),fun t ht=>?_⟩
  have q':=q s t hs ht
  clear hx q
  have bs:=ok.bd _ hs
  have bt:=ok.bd _ ht
  have ss:=ok.st _ hs
  have st:=ok.st _ ht
  obtain⟨a,g,b',f,rfl,ha,hg,hb,hf⟩:=id hv
  walk_at "g"
  refine zlp hn hm ?_
  walk_at "g"
  have one:zas [(V.h0,V.h1)]:=by
    refine⟨fun c hc=>?_,List.pairwise_singleton _ _⟩
    have:c=(V.h0,V.h1):=by simpa using hc
    subst this;exact ok.hh
  refine r_d (fun h=>?_) (fun h=>?_)
  · walk_at "g"
    refine fin_same (q' [(V.h0,V.h1)] ⟨one,fun k=>?_,by show 1<=14;decide⟩)
    rw [zbF]
    constructor
    · rintro⟨c,hc,h1,h2⟩
      have:c=(V.h0,V.h1):=by simpa using hc
      subst this
      exact⟨h1,h2,.inl h⟩
    · rintro⟨h1,h2,_⟩
      exact⟨(V.h0,V.h1),by simp,h1,h2⟩
  walk_at "g"
  refine⟨_,V,s,t,rfl,hv,ok,⟨bs,ss⟩,⟨bt,st⟩,?_⟩
  by_cases al:Alw V s t
  case neg =>
    have e:zdd (zeI V s t)=false:=by
      cases h:zeI V s t with
      | non=>exact absurd (zek.mp h) al
      | _=>rfl
    refine r_c (zqO ?_)
    rw [e]
    walk_at "g"
    refine fin_same (q' [] ⟨zas.nil,fun k=>?_,by show 0<=14;decide⟩)
    constructor
    · intro z;simp at z
    · rintro⟨_,_,z | z⟩
      · exact absurd z h
      · exact absurd z.1 al
  rw [zek.mpr al]
  walk_at "g"
  have f12:=ok.f12
  refine⟨_,V.fs,s.1,s.2,t.1,t.2,rfl,Lst.here hf,by omega,fun F hF=>(ok.fg F hF).b,bs.1.mono (by decide),bs.2.mono (by decide),bt.1.mono (by decide),bt.2.mono (by decide),fun fs fok fh fl=>?_⟩
  walk_at "g"
  refine⟨[(V.h0,V.h1)],fs,rfl,one,fok,by show 1+fs.length<63;omega,fun ms mok mh ml=>?_⟩
  refine fin_same (q' ms ⟨mok,fun k=>?_,by have:ms.length<=1+fs.length+1:=ml;omega⟩)
  rw [mh k,Bool.and_eq_true,zbF]
  have e:(!fs.any (inS k))=true↔¬ ∃ F∈V.fs,zbG F s.1 s.2 t.1 t.2 k:=by
    rw [<- fh k]
    cases fs.any (inS k)<;>simp
  rw [e]
  constructor
  · rintro⟨⟨c,hc,h1,h2⟩,h3⟩
    have:c=(V.h0,V.h1):=by simpa using hc
    subst this
    exact⟨h1,h2,.inr ⟨al,h3⟩⟩
  · rintro⟨h1,h2,z | z⟩
    · exact absurd z h
    · exact⟨⟨(V.h0,V.h1),by simp,h1,h2⟩,z.2⟩
def zaX:zdk:=fun ds S Q ex=>∃ (v:D) (V:Vl) (h:Int),ds=[v,.int h]/\VAt S v V/\(¬ (V.h0<=h/\h<=V.h1)->ex "BadHour" S)/\(V.h0<=h->h<=V.h1->Q .non S)
def zci (ex:XR):DS :=
  (sIf (dOr (dT (dOp oLt (zj 1) (zaV "first" (zj 0)))) (dT (dOp oGt (zj 1) (zaV "last" (zj 0))))) (zeQ ex "BadHour") zab)
theorem zhf:∀ ds So Q ex,zaX ds So Q ex->ds.length=2:=by rintro ds So Q ex ⟨_,_,_,rfl,_⟩;rfl
theorem zh0:zco 2 zci zaX:=by
 rintro ds S Q ex ⟨v,V,h,rfl,hv,hx,q⟩
 unfold zci
 obtain⟨m,g,b',f,rfl,hm,hg,hb,_⟩:=hv
 walk_at "g"
 refine r_d (fun h1=>?_) (fun h1=>?_)
 ·walk_at "g"
  exact hx (by omega)
 walk_at "g"
 refine r_d (fun h2=>?_) (fun h2=>?_)
 ·walk_at "g"
  exact hx (by omega)
 walk_at "g"
 exact fin_same (q (by omega) (by omega))
def zep:DSp:=fun ds S Q=>∃ (F:Fg) (h:Int),ds=[fgD F,.int h]/\FgV F/\Bd 300 h/\(¬ (F.f<=h/\h<=F.l)->Q .non S)/\(F.f<=h->h<=F.l->Q (.tup [.int (F.x0+F.g*(h-F.f)),.int (F.x1+F.g*(h-F.f)),.int (F.z0+F.s*(h-F.f)),.int (F.z1+F.s*(h-F.f))]) S)
def zf0:DS :=
    (zH (sIf (dOr (dT (dOp oLt (zj 1) (dOp oIx (zj 0) (dC (.int 4))))) (dT (dOp oGt (zj 1) (dOp oIx (zj 0) (dC (.int 5)))))) (zZ (dC .non)) zab)
 (zZ (dCall zdm (zf (zj 0) (zf (dOp zal (zj 1) (dOp oIx (zj 0) (dC (.int 4)))) zA)))))
theorem zmY:∀ ds So Q,zep ds So Q->ds.length=2:=by rintro ds So Q ⟨_,_,rfl,_⟩;rfl
theorem zo0:BodyOk 2 zf0 zep:=by
 rintro ds S Q ⟨F,h,rfl,ok,bh,q0,q⟩
 unfold zf0
 walk_at "g"
 refine r_d (fun h1=>?_) (fun h1=>?_)
 ·walk_at "g"
  exact fin_same (q0 (by omega))
 walk_at "g"
 refine r_d (fun h2=>?_) (fun h2=>?_)
 ·walk_at "g"
  exact fin_same (q0 (by omega))
 walk_at "g"
 have bk:Bd 301 (h-F.f):=Bd.sub bh ok.f
 refine⟨F,_,rfl,.inl ⟨ok.b.bg.mono (by decide),bk.mono (by decide)⟩,.inl ⟨ok.b.bs.mono (by decide),bk.mono (by decide)⟩,?_⟩
 exact fin_same (q (by omega) (by omega))
def zeW:DSp:=fun ds S Q=>∃ (L R B T:Int) (a b:Int×Int),ds=[.tup [.int L,.int R,.int B,.int T],p2 a,p2 b]/\L<=R/\B<=T/\(Bd 700 L/\Bd 700 R/\Bd 700 B/\Bd 700 T)/\(Bd 700 a.1/\Bd 700 a.2)/\(Bd 700 b.1/\Bd 700 b.2)/\∀ r:Bool,(r=true↔Hit L R B T a.1 a.2 b.1 b.2)->Q (.bl r) S
def zhP:DS :=
  (zZ (dOp oGe (dB zkq (zf (dCall zcj (zf (zj 0) (zf (zj 1) (zf (zj 2) zA)))) zA)) (dC (.int 0))))
theorem zou:∀ ds So Q,zeW ds So Q->ds.length=3:=by rintro ds So Q ⟨_,_,_,_,_,_,rfl,_⟩;rfl
theorem zqm:BodyOk 3 zhP zeW:=by
 rintro ds S Q ⟨L,R,B,T,a,b,rfl,hx,hz,⟨bL,bR,bB,bT⟩,⟨ba1,ba2⟩,⟨bb1,bb2⟩,q⟩
 unfold zhP
 walk_at "g"
 refine⟨L,R,B,T,a.1,a.2,b.1,b.2,rfl,bL.mono (by decide),bR.mono (by decide),bB.mono (by decide),bT.mono (by decide),ba1.mono (by decide),ba2.mono (by decide),bb1.mono (by decide),bb2.mono (by decide),fun ca cb mx mn m1 m2 n1 n2=>?_⟩
 walk_at "g"
 refine znK (ns:=six L R B T a.1 a.2 b.1 b.2 mx mn) (Lst.at (k:=2) rfl) (by show 0<6;decide) fun m w1 w2=>?_
 walk_at "g"
 refine zaJ rfl (q _ ?_)
 rw [decide_eq_true_eq,<- zjK hx hz]
 exact zpc m1 m2 n1 n2 w1 w2
def zcu:zdk:=fun ds S Q ex=>∃ (v:D) (V:Vl) (n m:Str) (h:Int),ds=[v,.str n,.str m,.int h]/\VAt S v V/\zdQ V/\fl 20 (.str n)=true/\fl 20 (.str m)=true/\((∀ b∈V.bs,b.1≠n)\/(∀ b∈V.bs,b.1≠m)->ex "NoBeacon" S) /\
 ∀ s t,(n,s)∈V.bs->(m,t)∈V.bs->(¬ (V.h0<=h/\h<=V.h1)->ex "BadHour" S)/\(V.h0<=h->h<=V.h1->∀ d,zqb V n m s t h d->Q d S)
def zgk (ex : XR) : DS :=
    (zH (zN (zaP za9 ex (zf (zj 0) (zf (zj 1) zA))) (zE 4))
 (zH (zN (zaP za9 ex (zf (zj 0) (zf (zj 2) zA))) (zE 5))
 (zH (zaq (zaP zaX ex (zf (zj 0) (zf (zj 3) zA))))
 (zH (sIf (dT (dOp oEq (zj 1) (zj 2))) (zZ (dC .non)) zab)
 (zH (zN (dCall za5 (zf (zj 0) (zf (zj 4) (zf (zj 5) zA)))) (zE 6))
 (zH (sIf (dT (dOp ze0 (zj 6) (dC .non))) (zZ (zj 6)) zab)
 (zH (zb4 (zks (zf (zaV "fogs" (zj 0)) zA)) (zc2 2 (zao (zE 7) (zao (zE 8) zc0))) (zH (zN (dCall zep (zf (zj 8) (zf (zj 3) zA))) (zE 9))
 (sIf (zew (dT (dOp ze0 (zj 9) (dC .non))) (dT (dCall zeW (zf (zj 9) (zf (zj 4) (zf (zj 5) zA)))))) (zZ (dTup (zf (dC (.str "fog")) (zf (zj 7) zA)))) zab)))
 (zZ (dC .non)))))))))
theorem znA:∀ ds So Q ex,zcu ds So Q ex->ds.length=4:=by rintro ds So Q ex ⟨_,_,_,_,_,rfl,_⟩;rfl
theorem znO:zco 10 zgk zcu:=by
 rintro ds S Q ex ⟨v,V,n,m,h,rfl,hv,ok,hn,hm,hx,q⟩
 unfold zgk
 walk_at "g"
 refine⟨v,V,n,rfl,hv,ok,hn,fun no=>hx (.inl no),fun s hs=>?_⟩
 walk_at "g"
 refine⟨v,V,m,rfl,hv,ok,hm,fun no=>hx (.inr no),fun t ht=>?_⟩
 obtain⟨q1,q2⟩:=q s t hs ht
 clear hx q
 have bs:=ok.bd _ hs
 have bt:=ok.bd _ ht
 have ss:=ok.st _ hs
 have st:=ok.st _ ht
 walk_at "g"
 refine⟨v,V,h,rfl,hv,q1,fun h0 h1=>?_⟩
 have q':=q2 h0 h1
 clear q1 q2
 have bh:Bd 300 h:=(Bd.btw (n:=250) ok.b0 ok.bl h0 h1).mono (by decide)
 obtain⟨a,g,b',f,rfl,ha,hg,hb,hf⟩:=id hv
 walk_at "g"
 refine zlp hn hm ?_
 walk_at "g"
 refine r_d (fun e=>?_) (fun e=>?_)
 ·walk_at "g"
  exact fin_same (q' .non (.inl ⟨e,rfl⟩))
 walk_at "g"
 refine⟨_,V,s,t,rfl,hv,ok,⟨bs,ss⟩,⟨bt,st⟩,?_⟩
 walk_at "g"
 by_cases al:Alw V s t
 case neg =>
  have en:zdd (zeI V s t)=false:=by
   cases h:zeI V s t with
   | non=>exact absurd (zek.mp h) al
   | _=>rfl
  rw [en]
  walk_at "g"
  exact fin_same (q' _ (.inr ⟨e,.inl ⟨al,rfl⟩⟩))
 rw [zek.mpr al,show zdd D.non=true from rfl]
 walk_at "g"
 refine zt2 (Lst.here hf) ?_
 have f12:=ok.f12
 refine za0 (fun i ρ S'=>S'=S/\(∃ w1 w2 w3:Option D,ρ=[some (.ref a),some (.str n),some (.str m),some (.int h),some (p2 s),some (p2 t),some .non,w1,w2,w3])/\∀ (j:Nat) G,j<i->V.fs[j]?=some G->¬ zbG G s.1 s.2 t.1 t.2 h) ⟨rfl,⟨_,_,_,rfl⟩,fun j G hj=>by omega⟩ (fun i ρ S' w=>w.1▸Lst.here hf) ?_ ?_
 ·rintro i d ρ S' hd ⟨rfl,⟨w1,w2,w3,rfl⟩,hno⟩
  obtain⟨y,hy,rfl⟩:=zeo hd
  obtain⟨F,hF,rfl⟩:=zkT hy
  have okF:=ok.fg F (List.mem_of_getElem? hF)
  have nxt:¬ zbG F s.1 s.2 t.1 t.2 h->∀ (j:Nat) G,j<i+1->V.fs[j]?=some G->¬ zbG G s.1 s.2 t.1 t.2 h:=fun z j G hj hG=>by
   rcases Nat.lt_or_ge j i with g | g
   ·exact hno j G g hG
   ·have:j=i:=by omega
    subst this
    rw [hF] at hG;cases hG;exact z
  walk_at "g"
  refine⟨F,h,rfl,okF,bh,fun no=>?_,fun k0 k1=>?_⟩
  ·walk_at "g"
   exact⟨rfl,⟨_,_,_,rfl⟩,nxt fun z=>no ⟨z.1,z.2.1⟩⟩
  ·walk_at "g"
   have bk:Bd 301 (h-F.f):=Bd.sub bh okF.f
   have p1:Bd 501 (F.g*(h-F.f)):=Bd.mul okF.b.bg bk
   have p2':Bd 501 (F.s*(h-F.f)):=Bd.mul okF.b.bs bk
   have ad:∀ {x y:Int},Bd 600 x->Bd 501 y->Bd 700 (x+y):=fun hx hy=>(Bd.add (n:=600) hx (hy.mono (by decide))).mono (by decide)
   refine⟨_,_,_,_,s,t,rfl,by have:=okF.b.x;omega,by have:=okF.b.z;omega,⟨ad okF.b.b0 p1,ad okF.b.b1 p1,ad okF.b.b2 p2',ad okF.b.b3 p2'⟩,⟨bs.1.mono (by decide),bs.2.mono (by decide)⟩,⟨bt.1.mono (by decide),bt.2.mono (by decide)⟩,fun r hr=>?_⟩
   cases r with
   | true =>
    walk_at "g"
    rw [Nat.zero_add]
    exact fin_same (q' _ (.inr ⟨e,.inr ⟨al,.inl ⟨i,F,hF,⟨k0,k1,hr.mp rfl⟩,hno,rfl⟩⟩⟩))
   | false =>
    walk_at "g"
    exact⟨rfl,⟨_,_,_,rfl⟩,nxt fun z=>absurd (hr.mpr z.2.2) (by decide)⟩
 ·rintro ρ S' ⟨rfl,⟨w1,w2,w3,rfl⟩,hno⟩
  rw [zb8,List.length_map] at hno
  walk_at "g"
  refine fin_same (q' _ (.inr ⟨e,.inr ⟨al,.inr ⟨fun F hF=>?_,rfl⟩⟩⟩))
  obtain⟨j,hj,e⟩:=List.mem_iff_getElem.mp hF
  exact hno j F hj (by rw [List.getElem?_eq_getElem hj,e])
def zaZ:zdk:=fun ds S Q ex=>∃ (v:D) (V:Vl) (n:Str),ds=[v,.str n]/\VAt S v V/\zdQ V/\fl 20 (.str n)=true/\(n∉V.bs.map (·.1)->∀ T,ex "NoBeacon" (S++T))/\(n∈V.bs.map (·.1)->Q .non S)
def zbN (ex:XR):DS :=
  (sIf (dT (dOp zfN (zj 1) (dCall zba (zf (zj 0) zA)))) (zeQ ex "NoBeacon") zab)
theorem zgi:∀ ds So Q ex,zaZ ds So Q ex->ds.length=2:=by rintro ds So Q ex ⟨_,_,_,rfl,_⟩;rfl
theorem zgy:zco 2 zbN zaZ:=by
 rintro ds S Q ex ⟨v,V,n,rfl,hv,ok,hn,hx,q⟩
 unfold zbN
 have b12:=ok.b12
 walk_at "g"
 refine⟨v,V,rfl,hv,by omega,?_⟩
 walk_at "g"
 refine zfe (.inr Lst.at0) hn ok.flN ?_
 walk_at "g"
 refine zjN (fun h=>?_) (fun h=>?_)
 ·walk_at "g"
  exact hx h _
 ·walk_at "g"
  exact zaJ rfl (q h)
def zjk (V:Vl)(h:Int)(a b:Str):Prop:=∃ s t,(a,s)∈V.bs/\(b,t)∈V.bs/\(a=b\/zqh V s t h)
inductive zgZ (V:Vl)(h:Int)(bar:List Str)(n:Str):Str->Prop
 | refl:zgZ V h bar n n
 | step {a b:Str}:zgZ V h bar n a->zjk V h a b->b∉bar->zgZ V h bar n b
theorem zgW:∀ {F N:List Str},F.Nodup->(∀ x∈F,x∈N)->F.length<=N.length
 | [],_,_,_=>Nat.zero_le _
 | x::F,N,nd,h=>by
  obtain⟨n1,n2⟩:=List.nodup_cons.mp nd
  have hx:=h x (by simp)
  have:=zgW (F:=F) (N:=N.erase x) n2 fun y hy=>(List.mem_erase_of_ne (fun e:y=x=>n1 (e▸hy))).mpr (h y (List.mem_cons_of_mem _ hy))
  rw [List.length_erase_of_mem hx] at this
  have:=List.length_pos_of_mem hx
  rw [List.length_cons];omega
def ztX (V:Vl)(h:Int)(bar:List Str)(n:Str)(zs:List Str):Prop:=∃ f:Str->Bool,zs=(V.bs.map (·.1)).filter f/\∀ z∈V.bs.map (·.1),(f z=true↔zgZ V h bar n z)
def zbi:DSp:=fun ds S Q=>∃ (v:D) (V:Vl) (h:Int) (n:Str) (y:D) (bar:List Str),ds=[v,.int h,.str n,y]/\VAt S v V/\zdQ V/\n∈V.bs.map (·.1)/\Lst S y (bar.map D.str)/\(∀ z∈bar,fl 20 (.str z)=true)/\V.h0<=h/\h<=V.h1/\∀ (T:Sto) (k:Nat) (zs:List Str),ztX V h bar n zs->(S++T)[k]?=some (.lst (zs.map D.str))->S.length<=k->Q (.ref k) (S++T)
def zbX:DS :=
    (zH (zN (zaY (zf (zj 2) zA)) (zE 4))
 (zH (zN (dC (.int 0)) (zE 5))
 (zH (zg7 (dT (dOp oLt (zj 5) (dB zbm (zf (zj 4) zA)))) (zH (zb4 (zbx (dCall zba (zf (zj 0) zA))) (zE 6) (sIf (zew (dT (dOp zfN (zj 6) (zj 4))) (zew (dT (dOp zfN (zj 6) (zj 3))) (dT (dOp oIs (zaP zcu xF (zf (zj 0) (zf (dOp oIx (zj 4) (zj 5)) (zf (zj 6) (zf (zj 1) zA))))) (dC .non))))) (zaq (dM zbA (zj 4) (zf (zj 6) zA))) zab))
 (zmK 5 (dC (.int 1)))))
 (zZ (dLC 1 [4] (zbx (dCall zba (zf (zj 0) zA))) (zE 0) (dT (dOp oIn (zj 0) (zj 1))) (zj 0))))))
theorem zgC:∀ ds So Q,zbi ds So Q->ds.length=4:=by rintro ds So Q ⟨_,_,_,_,_,_,rfl,_⟩;rfl
theorem zha:BodyOk 7 zbX zbi:=by
  rintro ds S Q ⟨v,V,h,n,y,bar,rfl,hv,ok,hn,hy,hbar,h0,h1,q⟩
  unfold zbX
  have b12:=ok.b12
  obtain⟨zs,hzs⟩:∃ zs:List Str,zs=V.bs.map (·.1):=⟨_,rfl⟩
  have flz:∀ z∈zs,fl 20 (.str z)=true:=hzs▸ok.flN
  have zl:zs.length<=12:=by rw [hzs,List.length_map];exact b12
  have hmem:∀ z∈zs,∃ s,(z,s)∈V.bs:=fun z hz=>by
    rw [hzs] at hz
    obtain⟨b,hb,rfl⟩:=List.mem_map.mp hz
    exact⟨b.2,hb⟩
  rw [<- hzs] at hn
  walk_at "g"
  walk_at "drho"
  have ini:∀ z∈[n],z∈zs/\zgZ V h bar n z:=fun z hz=>by
    have:z=n:=by simpa using hz
    subst this;exact⟨hn,.refl⟩
  refine zqr (fun m ρ S'=>∃ (F:List Str) (G:Sto) (k:Nat) (w6:Option D),S'=S++Cell.lst (F.map D.str)::G/\ρ=[some v,some (.int h),some (.str n),some y,some (.ref S.length),some (.int (k:Int)),w6]/\m+k=20/\F.Nodup/\(∀ z∈F,z∈zs/\zgZ V h bar n z)/\n∈F/\k<=F.length/\∀ (j:Nat) a b,j<k->F[j]?=some a->zjk V h a b->b∉bar->b∈F) 20 ⟨[n],[],0,none,rfl,rfl,rfl,by simp,ini,by simp,by simp,fun j a b hj=>by omega⟩ ?_
  rintro m ρ S' ⟨F,G,k,w6,rfl,rfl,hm,nd,hF,hnF,hk,hcl⟩
  have lF:F.length<=12:=Nat.le_trans (zgW nd fun x hx=>(hF x hx).1) zl
  walk_at "g"
  rw [List.length_map]
  refine r_d (fun hlt=>?_) (fun hge=>?_)
  · obtain⟨a,ha⟩:∃ a,F[k]?=some a:=⟨F[k]'(by omega),List.getElem?_eq_getElem (by omega)⟩
    have ma:=List.mem_of_getElem? ha
    walk_at "g"
    refine⟨v,V,rfl,hv.old,by omega,?_⟩
    rw [<- hzs]
    walk_at "g"
    obtain⟨s0,hs0⟩:=hmem a (hF a ma).1
    have kz:∀ (F':List Str),Lst (S++Cell.lst (F'.map D.str)::(G++[.lst (zs.map D.str)])) (.ref (S.length+(Cell.lst (F.map D.str)::G).length)) (zs.map D.str):=fun F'=>by
      refine .inr ⟨_,rfl,?_⟩
      rw [zaN]
      show (Cell.lst (F'.map D.str)::(G++[.lst (zs.map D.str)]))[G.length+1]?=_
      rw [List.getElem?_cons_succ,List.getElem?_append_right (Nat.le_refl _),Nat.sub_self];rfl
    refine za0 (fun i ρ S'=>∃ (F':List Str) (w6:Option D),S'=S++Cell.lst (F'.map D.str)::(G++[.lst (zs.map D.str)])/\ρ=[some v,some (.int h),some (.str n),some y,some (.ref S.length),some (.int (k:Int)),w6]/\F'.Nodup/\(∀ z∈F',z∈zs/\zgZ V h bar n z)/\(∃ A,F'=F++A)/\∀ b∈zs.take i,zjk V h a b->b∉bar->b∈F') ⟨F,w6,rfl,rfl,nd,hF,⟨[],by simp⟩,by simp⟩ (fun i ρ S' ⟨F',w,e,_⟩=>e▸kz F') ?_ ?_
    · rintro i d ρ S' hd ⟨F',w,rfl,rfl,nd',hF',⟨A,eA⟩,hin⟩
      obtain⟨z,hz,rfl⟩:=zhG hd
      have mz:=List.mem_of_getElem? hz
      obtain⟨t0,ht0⟩:=hmem z mz
      have lF':F'.length<=12:=Nat.le_trans (zgW nd' fun x hx=>(hF' x hx).1) zl
      have flF:∀ x∈F',fl 20 (.str x)=true:=fun x hx=>flz x (hF' x hx).1
      have nxt:(zjk V h a z->z∉bar->z∈F')->∀ b∈zs.take (i+1),zjk V h a b->b∉bar->b∈F':=fun hq b hb=>by
        rw [zav hz] at hb
        rcases List.mem_append.mp hb with hb | hb
        · exact hin b hb
        · have:b=z:=by simpa using hb
          subst this;exact hq
      have kF:Lst (S++Cell.lst (F'.map D.str)::(G++[.lst (zs.map D.str)])) (.ref S.length) (F'.map D.str):=Lst.at0
      have ky:Lst (S++Cell.lst (F'.map D.str)::(G++[.lst (zs.map D.str)])) y (bar.map D.str):=hy.old
      walk_at "g"
      refine zfe (.inr kF) (flz z mz) flF ?_
      walk_at "g"
      refine zjN (fun hzF=>?_) (fun hzF=>?_)
      case refine_2 =>
        walk_at "g"
        exact⟨F',_,rfl,rfl,nd',hF',⟨A,eA⟩,nxt fun _ _=>hzF⟩
      walk_at "g"
      refine zfe (.inr ky) (flz z mz) hbar ?_
      walk_at "g"
      refine zjN (fun hzb=>?_) (fun hzb=>?_)
      case refine_2 =>
        walk_at "g"
        exact⟨F',_,rfl,rfl,nd',hF',⟨A,eA⟩,nxt fun _ no=>absurd hzb no⟩
      have aF:atD (F'.map D.str) (k:Int)=some (.str a):=zem (by rw [List.getElem?_map,eA,List.getElem?_append_left (by omega),ha];rfl)
      walk_at "g"
      refine⟨v,V,a,z,h,rfl,hv.old,ok,flz a (hF a ma).1,flz z mz,fun no=>?_,fun s t hs ht=>⟨fun no=>absurd ⟨h0,h1⟩ no,fun _ _ e he=>?_⟩⟩
      · rcases no with no | no
        · exact no _ hs0 rfl
        · exact no _ ht0 rfl
      have en:zdd e=true↔zjk V h a z:=by
        have e1:zdd e=true↔e=.non:=by cases e<;>simp [zdd]
        rw [e1,he.non]
        constructor
        · intro w;exact⟨s,t,hs,ht,w⟩
        · rintro⟨s',t',hs',ht',w⟩
          have es:s'=s:=congrArg Prod.snd (zkL ok hs' hs rfl)
          have et:t'=t:=congrArg Prod.snd (zkL ok ht' ht rfl)
          subst es et;exact w
      walk_at "g"
      cases hg:zdd e with
      | true =>
        have hlim:(F'.map D.str).length<big:=by rw [List.length_map];unfold big;omega
        walk_at "g"
        refine⟨F'++[z],_,by rw [List.map_append];rfl,rfl,?_,?_,⟨A++[z],by rw [eA,List.append_assoc]⟩,?_⟩
        · rw [List.nodup_append]
          refine⟨nd',by simp,fun x hx y' hy' e=>?_⟩
          have:y'=z:=by simpa using hy'
          subst this;subst e;exact hzF hx
        · intro x hx
          rcases List.mem_append.mp hx with hx | hx
          · exact hF' x hx
          · have:x=z:=by simpa using hx
            subst this
            exact⟨mz,.step (hF a ma).2 (en.mp hg) hzb⟩
        · intro b hb ad nb
          rw [zav hz] at hb
          rcases List.mem_append.mp hb with hb | hb
          · exact List.mem_append_left _ (hin b hb ad nb)
          · exact List.mem_append_right _ hb
      | false =>
        walk_at "g"
        exact⟨F',_,rfl,rfl,nd',hF',⟨A,eA⟩,nxt fun ad _=>absurd (en.mpr ad) (by rw [hg];decide)⟩
    · rintro ρ S' ⟨F',w,rfl,rfl,nd',hF',⟨A,eA⟩,hin⟩
      rw [List.length_map,List.take_length] at hin
      walk_at "g"
      refine⟨m-1,by omega,F',_,k+1,w,rfl,by rfl,by omega,nd',hF',by rw [eA];exact List.mem_append_left _ hnF,by rw [eA,List.length_append];omega,fun j a' b hj ha' ad nb=>?_⟩
      rcases Nat.lt_or_ge j k with g | g
      · rw [eA,List.getElem?_append_left (by omega)] at ha'
        rw [eA]
        exact List.mem_append_left _ (hcl j a' b g ha' ad nb)
      · have:j=k:=by omega
        subst this
        rw [eA,List.getElem?_append_left (by omega),ha] at ha'
        cases ha'
        obtain⟨s',t',h1',h2',_⟩:=id ad
        refine hin b ?_ ad nb
        rw [hzs];exact List.mem_map.mpr ⟨_,h2',rfl⟩
  · walk_at "g"
    refine⟨v,V,rfl,hv.old,by omega,?_⟩
    rw [<- hzs]
    walk_at "g"
    have hkl:k=F.length:=by omega
    have all:∀ z,zgZ V h bar n z->z∈F:=fun z hz=>by
      induction hz with
      | refl=>exact hnF
      | step c ad nb ih =>
        obtain⟨j,hj,e⟩:=List.mem_iff_getElem.mp ih
        exact hcl j _ _ (by omega) (by rw [List.getElem?_eq_getElem hj,e]) ad nb
    have flF:∀ x∈F,fl 20 (.str x)=true:=fun x hx=>flz x (hF x hx).1
    have kF:Lst (S++(Cell.lst (F.map D.str)::G++[Cell.lst (zs.map D.str)])) (.ref S.length) (F.map D.str):=Lst.at0
    refine zbB (fun d=>match d with | .str z=>decide (z∈F) | _=>false) id Lst.new (by rw [List.length_map];unfold big;omega) (fun i d ys hd hw=>?_) ?_
    · obtain⟨z,hz,rfl⟩:=zhG hd
      walk_at "g"
      refine zsR (.inr kF) (flz z (List.mem_of_getElem? hz)) flF ?_
      walk_at "g"
      refine r_d (fun h1=>?_) (fun h1=>?_)
      · walk_at "g"
        exact zcN hd hw (decide_eq_true h1) rfl
      · exact zqN hd hw (decide_eq_false h1)
    have ef:((zs.map D.str).filter (fun d=>match d with | .str z=>decide (z∈F) | _=>false)).map id=(zs.filter fun z=>decide (z∈F)).map D.str:=by
      rw [List.map_id,List.filter_map];rfl
    rw [ef]
    refine zf9 (fin_same (q _ _ (zs.filter fun z=>decide (z∈F)) ⟨fun z=>decide (z∈F),by rw [hzs],fun z _=>?_⟩ zhO (by omega)))
    rw [decide_eq_true_eq]
    exact⟨fun w=>(hF z w).2,all z⟩
def zdK:zdk:=fun ds S Q ex=>∃ (v:D) (V:Vl) (h:Int) (n:Str),ds=[v,.int h,.str n]/\VAt S v V/\zdQ V/\fl 20 (.str n)=true/\(n∉V.bs.map (·.1)->∀ T,ex "NoBeacon" (S++T))/\(n∈V.bs.map (·.1)->¬ (V.h0<=h/\h<=V.h1)->ex "BadHour" S)/\(n∈V.bs.map (·.1)->V.h0<=h->h<=V.h1->∀ (T:Sto) (k:Nat) (zs:List Str),ztX V h [] n zs->(S++T)[k]?=some (.lst (zs.map D.str))->S.length<=k->Q (.ref k) (S++T))
def zfd (ex : XR) : DS :=
    (zH (zaq (zaP zaZ ex (zf (zj 0) (zf (zj 2) zA))))
 (zH (zaq (zaP zaX ex (zf (zj 0) (zf (zj 1) zA))))
 (zZ (dCall zbi (zf (zj 0) (zf (zj 1) (zf (zj 2) (zf (zaY zA) zA))))))))
theorem zlP:∀ ds So Q ex,zdK ds So Q ex->ds.length=3:=by rintro ds So Q ex ⟨_,_,_,_,rfl,_⟩;rfl
theorem zmy:zco 3 zfd zdK:=by
 rintro ds S Q ex ⟨v,V,h,n,rfl,hv,ok,hn,hx,hb,q⟩
 unfold zfd
 walk_at "g"
 refine⟨v,V,n,rfl,hv,ok,hn,hx,fun mn=>?_⟩
 walk_at "g"
 refine⟨v,V,h,rfl,hv,hb mn,fun h0 h1=>?_⟩
 have q':=q mn h0 h1
 walk_at "g"
 refine⟨v,V,h,n,_,[],rfl,hv.old,ok,mn,Lst.at0,by simp,h0,h1,fun T k zs hz hk lk=>?_⟩
 rw [List.append_assoc] at hk ⊢
 exact fin_same (q' _ k zs hz hk (by rw [List.length_append] at lk;omega))
def zb2:DSp:=fun ds S Q=>∃ (k:Int) (v:D) (V:Vl) (n m:Str),ds=[.int k,v,.str n,.str m]/\VAt S v V/\zdQ V/\fl 20 (.str n)=true/\n∉V.bs.map (·.1)/\m∈V.bs.map (·.1)/\∀ (T:Sto) (j:Nat),(S++T)[j]?=some (.lst [.bl true,.bl true,.bl false])->Q (.ref j) (S++T)
def zde:DS :=
    (zH (zN (zaY zA) (zE 4))
 (zH (zp4 5 ["BadGround","OffGround","BadFog","BadName","Twice","TooMany","BadHour","NoBeacon"] (fun ex=>(sIf (dT (dOp oEq (zj 0) (dC (.int 0)))) (zaq (zaP za9 ex (zf (zj 1) (zf (zj 2) zA)))) (sIf (dT (dOp oEq (zj 0) (dC (.int 1)))) (zaq (zaP zdX ex (zf (zj 1) (zf (zj 3) (zf (zj 2) zA))))) (sIf (dT (dOp oEq (zj 0) (dC (.int 2)))) (zaq (zaP zdX ex (zf (zj 1) (zf (zj 2) (zf (zj 3) zA))))) (sIf (dT (dOp oEq (zj 0) (dC (.int 3)))) (zaq (zaP zcu ex (zf (zj 1) (zf (zj 3) (zf (zj 2) (zf (dOp zah (zaV "last" (zj 1)) (dC (.int 1))) zA)))))) (sIf (dT (dOp oEq (zj 0) (dC (.int 4)))) (zaq (zaP zcu ex (zf (zj 1) (zf (zj 2) (zf (zj 3) (zf (dOp zal (zaV "first" (zj 1)) (dC (.int 1))) zA)))))) (zaq (zaP zdK ex (zf (zj 1) (zf (dOp zah (zaV "last" (zj 1)) (dC (.int 1))) (zf (zj 2) zA))))))))))) (zN (zaY (zf (ziD [("BadGround",false),("OffGround",false),("BadFog",false),("BadName",false),("Twice",false),("TooMany",false),("BadHour",false),("NoBeacon",true)] (zj 5)) (zf (ziD [("BadGround",true),("OffGround",true),("BadFog",true),("BadName",true),("Twice",true),("TooMany",true),("BadHour",true),("NoBeacon",true)] (zj 5)) (zf (ziD [("BadGround",false),("OffGround",false),("BadFog",false),("BadName",false),("Twice",false),("TooMany",false),("BadHour",true),("NoBeacon",false)] (zj 5)) zA)))) (zE 4)))
 (zZ (zj 4))))
theorem zi6:∀ ds So Q,zb2 ds So Q->ds.length=4:=by rintro ds So Q ⟨_,_,_,_,_,rfl,_⟩;rfl
theorem zjo:BodyOk 6 zde zb2:=by
 rintro ds S Q ⟨k,v,V,n,m,rfl,hv,ok,hn,nn,mm,q⟩
 unfold zde
 have fm:=ok.flN m mm
 have no:∀ b∈V.bs,b.1≠n:=fun b hb e=>nn (List.mem_map.mpr ⟨b,hb,e⟩)
 have no':∀ s,(n,s)∉V.bs:=fun s hs=>no _ hs rfl
 have hv1:VAt (S++[.lst []]) v V:=hv.old
 walk_at "g"
 walk_at "drho"
 refine r_d (fun h=>?_) (fun h=>?_)
 ·walk_at "g"
  refine⟨v,V,n,rfl,hv1,ok,hn,fun _=>⟨rfl,?_⟩,fun s hs=>absurd hs (no' s)⟩
  walk_at "g"
  exact fin_same (q _ _ ((zaN _ _ 1).trans rfl))
 walk_at "g"
 refine r_d (fun h=>?_) (fun h=>?_)
 ·walk_at "g"
  refine⟨v,V,m,n,rfl,hv1,ok,fm,hn,fun _=>⟨rfl,?_⟩,fun s t hs ht=>absurd ht (no' t)⟩
  walk_at "g"
  exact fin_same (q _ _ ((zaN _ _ 1).trans rfl))
 walk_at "g"
 refine r_d (fun h=>?_) (fun h=>?_)
 ·walk_at "g"
  refine⟨v,V,n,m,rfl,hv1,ok,hn,fm,fun _=>⟨rfl,?_⟩,fun s t hs ht=>absurd hs (no' s)⟩
  walk_at "g"
  exact fin_same (q _ _ ((zaN _ _ 1).trans rfl))
 obtain⟨a,g,b',f,rfl,ha,hg,hb,hf⟩:=id hv1
 walk_at "g"
 refine r_d (fun h=>?_) (fun h=>?_)
 ·walk_at "g"
  refine⟨_,V,m,n,_,rfl,hv1,ok,fm,hn,fun _=>⟨rfl,?_⟩,fun s t hs ht=>absurd ht (no' t)⟩
  walk_at "g"
  exact fin_same (q _ _ ((zaN _ _ 1).trans rfl))
 walk_at "g"
 refine r_d (fun h=>?_) (fun h=>?_)
 ·walk_at "g"
  refine⟨_,V,n,m,_,rfl,hv1,ok,hn,fm,fun _=>⟨rfl,?_⟩,fun s t hs ht=>absurd hs (no' s)⟩
  walk_at "g"
  exact fin_same (q _ _ ((zaN _ _ 1).trans rfl))
 walk_at "g"
 refine⟨_,V,_,n,rfl,hv1,ok,hn,fun _ T=>⟨rfl,?_⟩,fun mn=>absurd mn nn,fun mn=>absurd mn nn⟩
 walk_at "g"
 rw [List.append_assoc]
 refine fin_same (q _ _ ?_)
 rw [<- List.append_assoc]
 exact zhO
theorem zrE {z:Str}{lo hi:Option Int}(h:fl 20 (.str z)=true):fl 20 (.str (zf7 z lo hi))=true:=by
  have h':z.cps.all (· < 0x110000)=true:=h
  show (zf7 z lo hi).cps.all (· < 0x110000)=true
  rw [Array.all_eq_true'] at h' ⊢
  intro x hx
  refine h' x ?_
  have:x∈cutD z.cps.toList lo hi:=by simpa [zf7] using hx
  exact Array.mem_toList_iff.mp (List.mem_of_mem_drop (List.mem_of_mem_take this))
theorem zsO {z y:Str}(h:fl 20 (.str z)=true)(g:fl 20 (.str y)=true):fl 20 (.str (z++y))=true:=by
  have h':z.cps.all (· < 0x110000)=true:=h
  have g':y.cps.all (· < 0x110000)=true:=g
  show (z.cps++y.cps).all (· < 0x110000)=true
  rw [Array.all_append,h',g'];rfl
theorem zsP (fs:List Fg):(fs.map fgD).all (fl 20)=true:=by
 rw [List.all_map,List.all_eq_true];intro F _;rfl
theorem zug (cs:List (Int×Int)):(cs.map p2).all (fl 20)=true:=by
 rw [List.all_map,List.all_eq_true];intro F _;rfl
theorem ztv {V:Vl}(ok:zdQ V):(V.bs.map bcD).all (fl 20)=true:=by
 rw [List.all_map,List.all_eq_true];intro b hb;exact zqF (ok.nm b hb)
def zkp:DS :=
    (zH (zN (dCall zc5 (zf (zj 0) (zf (dC (.int 5)) (zf (dC (.int 6)) (zf (dC (.int 20)) zA))))) (zE 1))
 (zH (zN (zj 1) (zc2 7 (zao (zE 2) (zao (zE 3) (zao (zE 4) (zao (zE 5) (zao (zE 6) (zao (zE 7) (zao (zE 8) zc0)))))))))
 (zH (zN (zaY (zf (dB ze9 (zf (zj 3) zA)) (zf (dB ze9 (zf (zj 4) zA)) zA))) (zE 9))
 (zH (zN (dCall zgK (zf (dCall zfk (zf (dB ze9 (zf (zj 2) zA)) zA)) (zf (dOp oIx (zj 9) (dC (.int 0))) (zf (dOp oIx (zj 9) (dC (.int 1))) (zf (zj 5) (zf (zj 6) (zf (zj 7) (zf (zj 8) zA)))))))) (zE 10))
 (zH (zN (dTup (zf (dOp oIx (dOp oIx (dOp oIx (zj 9) (dC (.int 0))) (dC (.int 0))) (dC (.int 0))) (zf (dOp oIx (dOp oIx (dOp oIx (zj 9) (dC (.int 0))) (dC (.int 0))) (dC (.int 1))) (zf (dOp zah (dOp oIx (dOp oIx (dOp oIx (zj 9) (dC (.int 0))) (dC (.int 0))) (dC (.int 2))) (dC (.int 1))) zA)))) (zib (dOp oIx (zj 9) (dC (.int 0))) (dC (.int 0))))
 (zH (zaq (dM zbA (dOp oIx (zj 9) (dC (.int 0))) (zf (dTup (zf (dC (.str "yyyy")) (zf (dOp oIx (dOp oIx (zj 2) (dC (.int 0))) (dC (.int 0))) (zf (dOp oIx (dOp oIx (zj 2) (dC (.int 0))) (dC (.int 1))) zA)))) zA)))
 (zH (zaq (dM zbA (dOp oIx (zj 9) (dC (.int 1))) (zf (dTup (zf (dC (.int 0)) (zf (dC (.int 0)) (zf (dC (.int 0)) (zf (dC (.int 0)) (zf (zj 6) (zf (zj 7) (zf (dC (.int 0)) (zf (dC (.int 0)) zA))))))))) zA)))
 (zH (zN (dLC 1 [] (zbx (zj 3)) (zE 0) zcs (dOp oIx (zj 0) (dC (.int 0)))) (zE 11))
 (zH (sIf (dOr (dT (dOp oNe (zaV "beacons" (zj 10)) (zj 3))) (dOr (dT (dOp oNe (zaV "fogs" (zj 10)) (zj 4))) (dT (dOp oNe (zaV "corners" (zaV "ground" (zj 10))) (zj 2))))) (zZ (dC (.bl false))) zab)
 (zH (sIf (dT (dOp oNe (zaY (zf (zaV "haze" (zj 10)) (zf (zaV "first" (zj 10)) (zf (zaV "last" (zj 10)) (zf (zaV "delay" (zj 10)) zA))))) (zaY (zf (zj 5) (zf (zj 6) (zf (zj 7) (zf (zj 8) zA))))))) (zZ (dC (.bl false))) zab)
 (zH (zN (dCall zba (zf (zj 10) zA)) (zE 12))
 (zH (sIf (dOr (zeX (dT (dB zf3 (zf (zj 12) (zf (dC (.ty "list")) zA))))) (dT (dOp oNe (zj 12) (zj 11)))) (zZ (dC (.bl false))) zab)
 (zH (zaq (dM ziA (zj 12) zA))
 (zH (zaq (dM zbA (zj 12) (zf (dC (.str "yyyy")) zA)))
 (zH (sIf (dT (dOp oNe (dCall zba (zf (zj 10) zA)) (zj 11))) (zZ (dC (.bl false))) zab)
 (zH (zb4 (zbx (zj 3)) (zc2 3 (zao (zE 13) (zao (zE 14) (zao (zE 15) zc0)))) (zH (sIf (dT (dOp oNe (zaP za9 xF (zf (zj 10) (zf (zj 13) zA))) (dTup (zf (zj 14) (zf (zj 15) zA))))) (zZ (dC (.bl false))) zab)
 (zb4 (zbx (zaY (zf (dSl zlk (zj 13) none (some (dUn zcW (dC (.int 1))))) (zf (dOp zah (zj 13) (dC (.str "q"))) (zf (dC (.str "")) (zf (dC (.str "yyyyy")) zA)))))) (zE 16) (zb4 (zee (zf (dC (.int 6)) zA)) (zE 17) (sIf (zew (dT (dOp zfN (zj 16) (zj 11))) (dT (dOp oNe (dCall zb2 (zf (zj 17) (zf (zj 10) (zf (zj 16) (zf (zj 13) zA))))) (zaY (zf (dC (.bl true)) (zf (dC (.bl true)) (zf (dC (.bl false)) zA))))))) (zZ (dC (.bl false))) zab)))))
 (zZ (dC (.bl true)))))))))))))))))))
theorem zuu:BodyOk 18 zkp ze2:=by
  rintro ds S Q ⟨ns,rfl,⟨_,hg⟩,hl,q⟩
  unfold zkp
  walk_at "g"
  refine⟨ns,5,6,20,rfl,hl,hg,by decide,by decide,by decide,by decide,by decide,by decide,fun T x y z V w hs=>?_⟩
  generalize S++T=S1 at hs
  have ok:=w.ok
  have b1:=ok.b1
  have b12:=ok.b12
  have f12:=ok.f12
  obtain⟨hx,hy,hz⟩:=id hs
  clear w
  walk_at "g"
  walk_at "drho"
  have kz:∀ T,Lst (S1++T) z (V.fs.map fgD):=fun T=>hz.old
  have kx:∀ T,Lst (S1++T) x (V.cs.map p2):=fun T=>hx.old
  have ky:∀ T,Lst (S1++T) y (V.bs.map bcD):=fun T=>hy.old
  refine⟨S1++[.lst (V.bs.map bcD),.lst (V.fs.map fgD),.lst [.ref S1.length,.ref (S1.length+1)],.lst (V.cs.map p2)],_,V.cs,by simp,rfl,Lst.at (k:=3) rfl,ok.gr,⟨rfl,?_⟩⟩
  rw [List.append_assoc,show (S1++[Cell.lst (V.bs.map bcD),.lst (V.fs.map fgD),.lst [.ref S1.length,.ref (S1.length+1)],.lst (V.cs.map p2)]).length=S1.length+4 by simp]
  show (zf _ _) _ (S1++[Cell.lst (V.bs.map bcD),.lst (V.fs.map fgD),.lst [.ref S1.length,.ref (S1.length+1)],.lst (V.cs.map p2),.ins "Ground" [("corners",.ref (S1.length+4+1))],.lst (V.cs.map p2)]) _
  obtain⟨b0,hb0,ab0⟩:=znb (bs:=V.bs) (k:=0) (by decide) (by omega)
  walk_at "g"
  refine⟨S1++[.lst (V.bs.map bcD),.lst (V.fs.map fgD),.lst [.ref S1.length,.ref (S1.length+1)],.lst (V.cs.map p2),.ins "Ground" [("corners",.ref (S1.length+4+1))],.lst (V.cs.map p2)],_,_,_,V,by simp,rfl,⟨_,_,rfl,(zaN _ _ 4).trans rfl,(zaN _ _ 5).trans rfl⟩,Lst.at0,Lst.at (k:=1) rfl,ok,fun nms=>⟨rfl,?_⟩⟩
  rw [List.append_assoc,show (S1++[Cell.lst (V.bs.map bcD),.lst (V.fs.map fgD),.lst [.ref S1.length,.ref (S1.length+1)],.lst (V.cs.map p2),.ins "Ground" [("corners",.ref (S1.length+4+1))],.lst (V.cs.map p2)]).length=S1.length+6 by simp]
  walk_at "drho2"
  show (zE 10) _ _ (S1++[Cell.lst (V.bs.map bcD),.lst (V.fs.map fgD),.lst [.ref S1.length,.ref (S1.length+1)],.lst (V.cs.map p2),.ins "Ground" [("corners",.ref (S1.length+4+1))],.lst (V.cs.map p2),.ins "Valley" (vF (.ref (S1.length+8)) (.ref (S1.length+10)) (.ref (S1.length+11)) (zbU V.hz) (.int V.h0) (.int V.h1) (.int V.dl)),.lst nms,.ins "Ground" [("corners",.ref (S1.length+9))],.lst (V.cs.map p2),.lst (V.bs.map bcD),.lst (V.fs.map fgD)]) _
  walk_at "g"
  refine zm9 zb5 (j:=0) (by unfold ixD;rw [List.length_map,if_pos (by decide),if_pos (by omega)];rfl) (zoa ?_)
  have lB:((V.bs.map bcD).set 0 (.tup [.str b0.1,.int b0.2.1,.int (b0.2.2+1)])).length<big:=by rw [List.length_set,List.length_map];unfold big;omega
  generalize (V.bs.map bcD).set 0 (.tup [.str b0.1,.int b0.2.1,.int (b0.2.2+1)])=gb at lB
  obtain⟨c0,hc0,ac0⟩:=zfb (cs:=V.cs) (k:=0) (by decide) (by have:=ok.gr.two;omega)
  have lF:(V.fs.map fgD).length<big:=by rw [List.length_map];unfold big;omega
  have kx1:=kx [Cell.lst gb,.lst (V.fs.map fgD),.lst [.ref S1.length,.ref (S1.length+1)],.lst (V.cs.map p2),.ins "Ground" [("corners",.ref (S1.length+4+1))],.lst (V.cs.map p2),.ins "Valley" (vF (.ref (S1.length+8)) (.ref (S1.length+10)) (.ref (S1.length+11)) (zbU V.hz) (.int V.h0) (.int V.h1) (.int V.dl)),.lst nms,.ins "Ground" [("corners",.ref (S1.length+9))],.lst (V.cs.map p2),.lst (V.bs.map bcD),.lst (V.fs.map fgD)]
  walk_at "g"
  walk_at "drho2"
  refine ztk (P:=fun S=>znl _ _ _ _ _ _ _ _ S) (S1++[Cell.lst (gb++[.tup [.str "yyyy",.int c0.1,.int c0.2]]),.lst (V.fs.map fgD++[.tup [.int 0,.int 0,.int 0,.int 0,.int V.h0,.int V.h1,.int 0,.int 0]]),.lst [.ref S1.length,.ref (S1.length+1)],.lst (V.cs.map p2),.ins "Ground" [("corners",.ref (S1.length+4+1))],.lst (V.cs.map p2),.ins "Valley" (vF (.ref (S1.length+8)) (.ref (S1.length+10)) (.ref (S1.length+11)) (zbU V.hz) (.int V.h0) (.int V.h1) (.int V.dl)),.lst nms,.ins "Ground" [("corners",.ref (S1.length+9))],.lst (V.cs.map p2),.lst (V.bs.map bcD),.lst (V.fs.map fgD)]) rfl fun S3 hS3=>?_
  have kx3:Lst S3 x (V.cs.map p2):=hS3▸kx _
  have ky3:Lst S3 y (V.bs.map bcD):=hS3▸ky _
  have kz3:Lst S3 z (V.fs.map fgD):=hS3▸kz _
  have hV3:S3[S1.length+6]?=some (.ins "Valley" (vF (.ref (S1.length+8)) (.ref (S1.length+10)) (.ref (S1.length+11)) (zbU V.hz) (.int V.h0) (.int V.h1) (.int V.dl))):=by rw [hS3];exact (zaN _ _ 6).trans rfl
  have hG3:S3[S1.length+8]?=some (.ins "Ground" [("corners",.ref (S1.length+9))]):=by rw [hS3];exact (zaN _ _ 8).trans rfl
  have h9:S3[S1.length+9]?=some (.lst (V.cs.map p2)):=by rw [hS3];exact (zaN _ _ 9).trans rfl
  have h10:S3[S1.length+10]?=some (.lst (V.bs.map bcD)):=by rw [hS3];exact (zaN _ _ 10).trans rfl
  have h11:S3[S1.length+11]?=some (.lst (V.fs.map fgD)):=by rw [hS3];exact (zaN _ _ 11).trans rfl
  clear hS3 kx1 lB lF hs hx hy hz kx ky kz
  generalize S1.length+6=n6 at hV3
  generalize S1.length+8=n8 at hV3 hG3
  generalize S1.length+9=n9 at hG3 h9
  generalize S1.length+10=n10 at hV3 h10
  generalize S1.length+11=n11 at hV3 h11
  generalize S1.length+2=n2
  have hv3:VAt S3 (.ref n6) V:=⟨_,_,_,_,rfl,hV3,⟨_,_,rfl,hG3,h9⟩,h10,h11⟩
  refine zbB (fun _=>true) (zkK fun b=>.str b.1) ky3 (by rw [List.length_map];unfold big;omega) (fun i d ys hd hw=>?_) ?_
  · obtain⟨b,_,rfl⟩:=zfO hd
    walk_at "g"
    exact zcN hd hw rfl rfl
  rw [filter_true,zgd,show V.bs.map (fun b=>D.str b.1)=(V.bs.map (·.1)).map D.str by rw [List.map_map];rfl]
  have flN:=ok.flN
  have lN:(V.bs.map (·.1)).length=V.bs.length:=List.length_map ..
  obtain⟨zs,hzs⟩:∃ zs:List Str,zs=V.bs.map (·.1):=⟨_,rfl⟩
  rw [<- hzs] at flN lN ⊢
  unfold New
  obtain⟨S4,hS4⟩:∃ S4:Sto,S4=S3++[.lst (zs.map D.str)]:=⟨_,rfl⟩
  have kn4:Lst S4 (.ref S3.length) (zs.map D.str):=hS4▸Lst.at0
  have kx4:Lst S4 x (V.cs.map p2):=hS4▸kx3.old
  have ky4:Lst S4 y (V.bs.map bcD):=hS4▸ky3.old
  have kz4:Lst S4 z (V.fs.map fgD):=hS4▸kz3.old
  have hv4:VAt S4 (.ref n6) V:=hS4▸hv3.old
  have hV4:S4[n6]?=_:=hS4▸zaU hV3
  have hG4:S4[n8]?=_:=hS4▸zaU hG3
  have k9:Lst S4 (.ref n9) (V.cs.map p2):=hS4▸Lst.here (zaU h9)
  have k10:Lst S4 (.ref n10) (V.bs.map bcD):=hS4▸Lst.here (zaU h10)
  have k11:Lst S4 (.ref n11) (V.fs.map fgD):=hS4▸Lst.here (zaU h11)
  rw [<- hS4]
  generalize S3.length=nr at kn4
  clear hS4 hv3 hV3 hG3 h9 h10 h11 kx3 ky3 kz3 S3
  walk_at "g"
  walk_at "drho2"
  refine zdl k10 ky4 (ztv ok) ?_
  walk_at "g"
  refine zdl k11 kz4 (zsP _) ?_
  walk_at "g"
  refine zdl k9 kx4 (zug _) ?_
  have hV5:∀ T,(S4++T)[n6]?=_:=fun T=>zaU hV4
  have hV6:=hV5 [Cell.lst [zbU V.hz,.int V.h0,.int V.h1,.int V.dl]]
  walk_at "g"
  refine zdl Lst.at0 (Lst.at (k:=1) rfl) (by rw [List.all_cons,Bool.and_eq_true];exact⟨by cases V.hz<;>rfl,rfl⟩) ?_
  walk_at "g"
  refine⟨_,V,rfl,hv4.old,by omega,?_⟩
  rw [<- hzs]
  have flz:(zs.map D.str).all (fl 20)=true:=zjj flN
  walk_at "g"
  refine zdl (Lst.at (k:=2) rfl) kn4.old flz ?_
  walk_at "g"
  refine zo6 ((zaN _ _ 2).trans rfl) (zqz ?_)
  walk_at "drho2"
  have lR:(zs.map D.str).reverse.length<big:=by rw [List.length_reverse,List.length_map];unfold big;omega
  walk_at "g"
  walk_at "drho2"
  refine⟨_,V,rfl,hv4.old,by omega,?_⟩
  rw [<- hzs]
  walk_at "g"
  refine zdl (Lst.at (k:=3) rfl) kn4.old flz ?_
  walk_at "g"
  refine za0 (fun i ρ S'=>∃ (G:Sto) (w13 w14 w15 w16 w17:Option D),S'=S4++G/\ρ=[some (.rl (ns.map D.int)),some (vlD x y z V),some x,some y,some z,some (zbU V.hz),some (.int V.h0),some (.int V.h1),some (.int V.dl),some (.ref n2),some (.ref n6),some (.ref nr),some (.ref (S4.length+2)),w13,w14,w15,w16,w17]) ⟨_,_,_,_,_,_,rfl,rfl⟩ (fun i ρ S' ⟨G,_,_,_,_,_,e,_⟩=>e▸ky4.old) ?_ ?_
  · rintro i d ρ S' hd ⟨G,w13,w14,w15,w16,w17,rfl,rfl⟩
    obtain⟨b,hb,rfl⟩:=zfO hd
    have mb:=List.mem_of_getElem? hb
    have hv5:VAt (S4++G) (.ref n6) V:=hv4.old
    have kn5:Lst (S4++G) (.ref nr) (zs.map D.str):=kn4.old
    have fb:fl 20 (.str b.1)=true:=zi0 (ok.nm b mb) 20
    have lb:b.1.length<=8:=(zhQ.mp (ok.nm b mb)).2.1
    have e5:∃ G',S4++G=S4++G':=⟨G,rfl⟩
    generalize S4++G=S5 at hv5 kn5 e5
    walk_at "g"
    refine⟨_,V,b.1,rfl,hv5,ok,fb,fun no=>no b mb rfl,fun s hs=>?_⟩
    have es:s=b.2:=congrArg Prod.snd (zkL ok hs mb rfl)
    subst es
    walk_at "g"
    refine zvT rfl ?_
    walk_at "g"
    refine zsY (by unfold big;omega) ?_
    walk_at "g"
    refine zkX (by show b.1.length+1<=big;unfold big;omega) ?_
    walk_at "g"
    obtain⟨os,hos,hof⟩:∃ os:List Str,[D.str (zf7 b.1 none (some (-1))),.str (b.1++"q"),.str "",.str "yyyyy"]=os.map D.str/\∀ o∈os,fl 20 (.str o)=true:=⟨[zf7 b.1 none (some (-1)),b.1++"q","","yyyyy"],rfl,fun o ho=>by
      simp only [List.mem_cons,List.not_mem_nil,or_false] at ho
      rcases ho with rfl | rfl | rfl | rfl
      · exact zrE fb
      · exact zsO fb (by decide +kernel)
      · decide +kernel
      · decide +kernel⟩
    rw [hos]
    refine za0 (fun i ρ S'=>∃ (G:Sto) (w16 w17:Option D),S'=S5++Cell.lst (os.map D.str)::G/\ρ=[some (.rl (ns.map D.int)),some (vlD x y z V),some x,some y,some z,some (zbU V.hz),some (.int V.h0),some (.int V.h1),some (.int V.dl),some (.ref n2),some (.ref n6),some (.ref nr),some (.ref (S4.length+2)),some (.str b.1),some (.int b.2.1),some (.int b.2.2),w16,w17]) ⟨[],_,_,rfl,rfl⟩ (fun i ρ S' ⟨G,_,_,e,_⟩=>e▸Lst.at0) ?_ ?_
    · rintro j d ρ S' hd' ⟨G,w16,w17,rfl,rfl⟩
      obtain⟨o,ho,rfl⟩:=zhG hd'
      have fo:=hof o (List.mem_of_getElem? ho)
      walk_at "g"
      refine⟨_,rfl,by decide,by decide,?_⟩
      refine za0 (fun k ρ S'=>∃ (G:Sto) (w17:Option D),S'=S5++Cell.lst (os.map D.str)::G/\ρ=[some (.rl (ns.map D.int)),some (vlD x y z V),some x,some y,some z,some (zbU V.hz),some (.int V.h0),some (.int V.h1),some (.int V.dl),some (.ref n2),some (.ref n6),some (.ref nr),some (.ref (S4.length+2)),some (.str b.1),some (.int b.2.1),some (.int b.2.2),some (.str o),w17]) ⟨G,_,rfl,rfl⟩ (fun _ _ _ _=>True.intro) ?_ ?_
      · rintro k d ρ S' hd3 ⟨G,w17,rfl,rfl⟩
        obtain⟨_,rfl⟩:=zdA hd3
        walk_at "g"
        refine zfe (.inr kn5.old) fo flN ?_
        walk_at "g"
        refine zjN (fun hn=>?_) (fun hn=>?_)
        · walk_at "g"
          refine⟨_,_,V,o,b.1,rfl,hv5.old,ok,fo,by rw [<- hzs];exact hn,List.mem_map.mpr ⟨b,mb,rfl⟩,fun T j hj=>?_⟩
          rw [List.append_assoc] at hj ⊢
          have hj':=Lst.here hj
          have e6:∃ G',S5++(Cell.lst (os.map D.str)::G++T)=S5++Cell.lst (os.map D.str)::G':=⟨G++T,rfl⟩
          generalize S5++(Cell.lst (os.map D.str)::G++T)=S6 at hj' e6
          walk_at "g"
          refine zdl (xs:=[.bl true,.bl true,.bl false]) hj'.old Lst.at0 rfl ?_
          walk_at "g"
          obtain⟨G',e6⟩:=e6
          exact⟨G'++[.lst [.bl true,.bl true,.bl false]],_,by rw [e6,List.append_assoc];rfl,rfl⟩
        · walk_at "g"
          exact⟨G,_,rfl,rfl⟩
      · rintro ρ S' ⟨G,w17,rfl,rfl⟩
        exact⟨G,_,_,rfl,rfl⟩
    · rintro ρ S' ⟨G,w16,w17,rfl,rfl⟩
      obtain⟨G',e5⟩:=e5
      exact⟨G'++Cell.lst (os.map D.str)::G,_,_,_,_,_,by rw [e5,List.append_assoc],rfl⟩
  · rintro ρ S' ⟨G,w13,w14,w15,w16,w17,rfl,rfl⟩
    walk_at "g"
    exact fin_same (q _)
end Dp
namespace Law
open PySem PySem.Spec PyProof.Rows L2 My Dp
def top (i:Nat):Stmt:=PySem.Challenge.pw_beaconvale_k42_names_and_tops.main.body.getD i (.Pass ⟨0,0,0,0⟩)
abbrev zic:Stmt:=top 74
abbrev zg0:Stmt:=top 75
abbrev zhh:Stmt:=top 77
abbrev zeA:Stmt:=top 78
abbrev ze1:Stmt:=top 76
abbrev zfq:Stmt:=top 82
abbrev zeY:Stmt:=top 79
abbrev zey:Stmt:=top 80
abbrev zgX:Stmt:=top 81
abbrev zf1:Stmt:=top 83
abbrev zcb:Stmt:=top 43
abbrev zbK:Stmt:=inClass (top 44) 0
abbrev zce:Stmt:=top 57
abbrev zhd:Stmt:=top 56
abbrev zcH:Stmt:=top 58
abbrev zkM:Stmt:=top 37
abbrev zjH:Stmt:=top 45
abbrev zdn:Stmt:=top 35
abbrev zfX:Stmt:=top 36
abbrev zfs:Stmt:=top 39
abbrev zfp:Stmt:=top 46
abbrev zio:Stmt:=top 47
abbrev zcZ:Stmt:=top 59
abbrev zgq:Stmt:=top 11
abbrev zir:Stmt:=top 27
abbrev zc1:Stmt:=top 60
abbrev zcF:Stmt:=top 61
abbrev zbH:Stmt:=inClass (top 62) 0
abbrev zgn:Stmt:=top 63
abbrev zhc:Stmt:=top 64
abbrev zb3:Stmt:=top 48
abbrev zcY:Stmt:=top 49
abbrev zhk:Stmt:=top 38
abbrev zie:Stmt:=top 50
abbrev zdq:Stmt:=top 67
abbrev zdP:Stmt:=top 68
abbrev zjM:Stmt:=top 28
abbrev zhq:Stmt:=top 30
abbrev zlt:Stmt:=top 13
abbrev zjq:Stmt:=top 32
abbrev zfu:Stmt:=top 33
abbrev zkP:Stmt:=top 15
abbrev zk1:Stmt:=top 14
abbrev zgO:Stmt:=top 16
abbrev zji:Stmt:=top 69
abbrev zdp:Stmt:=top 66
abbrev ziB:Stmt:=top 29
abbrev zjn:Stmt:=top 31
abbrev ziz:Stmt:=top 70
abbrev zcG:Stmt:=top 65
abbrev zcV:Stmt:=top 71
abbrev zhe:Stmt:=top 72
abbrev zex:Stmt:=top 84
abbrev zeD:Stmt:=top 85
section
variable {P:Program}{w:World}{K:W.Frag}{mg:Str->Option Value}{base:Heap}{f:Addr}{fd:FuncData}
variable (xq:mg "len"=none)
theorem zoK:zP ["script","k"] ["script","k"] (zK zic):=zU
include xq in
theorem znY (F:Fun K "_law_at" "_law_at" zic f fd):zX P w K mg base CX0 1 f fd ["script","k"] (upF K Dp.zdz):=by
  refine zV (b:=Dp.zfR) F zoK Dp.znt Dp.zo1 (fun cdv A outer s H E hr=>?_)
  unfold Dp.zfR
  exact (zu (zT (zM zbn (zm 1) (zai zaI rfl xq boot_len (zc (zm 0) zq))) (zy (zL (zB (zm 0) (zm 1) (fun _ _=>rfl)))) zQ)
 (zy (zL zp)))
variable (xfv:Got P w K mg base 1 "_law_at" ["script","k"] (upF K Dp.zdz))
theorem zdN:zP ["cell","k","size","prime","base","mixed"] ["cell","k","size"] (zK zg0):=zU
theorem znB (F:Fun K "_law_mix" "_law_mix" zg0 f fd):zX P w K mg base CX0 1 f fd ["cell","k","size"] (upF K Dp.zO):=by
  refine zV (b:=Dp.zfc) F zdN Dp.zlL Dp.zni (fun cdv A outer s H E hr=>?_)
  unfold Dp.zfc
  exact (zu (zG (i:=3) zdN.nd rfl (Or.inl rfl) zp)
 (zu (zG (i:=4) zdN.nd rfl (Or.inl rfl) (zaj (zY (zY (zaW (zm 0) (zbp 1000000000000000000000000000000000000000000000000000000000000 (by decide +kernel) ⟨by decide,by decide,by decide⟩)) (zaj zp (zm 1))) zp) zp))
 (zu (zG (i:=5) zdN.nd rfl (Or.inl rfl) (zaW (zaj (zm 4) (zm 4)) (zm 3)))
 (zu (zG (i:=5) zdN.nd rfl (Or.inl rfl) (zaW (zaj (zY (zm 5) (zaj zp (zY (zm 1) zp))) (zm 5)) (zm 3)))
 (zy (zL (zaW (zc3 (zm 5) zp) (zm 2))))))))
variable (xg:Got P w K mg base 1 "_law_mix" ["cell","k","size"] (upF K Dp.zO))
theorem zmO:zP ["cell","k","near","far"] ["cell","k","near","far"] (zK zhh):=zU
include xg in
theorem zm6 (F:Fun K "_law_far" "_law_far" zhh f fd):zX P w K mg base CX0 2 f fd ["cell","k","near","far"] (upF K Dp.zcM):=by
  refine zV (b:=Dp.zfg) F zmO Dp.zlM Dp.znD (fun cdv A outer s H E hr=>?_)
  unfold Dp.zfg
  exact (zu (zT (zbq (zm 3)) (zy (zL (z9 (zaW (zaj (zaj (zm 0) (zbp 1422907482840247632891030073750636927810831 (by decide +kernel) ⟨by decide,by decide,by decide⟩)) (zY (zm 1) zp)) (zbp 100000000000000000000000000000000000000000000000000 (by decide +kernel) ⟨by decide,by decide,by decide⟩)) (zaj zp (zbp 10000000000000000000000000000000000000000000000000 (by decide +kernel) ⟨by decide,by decide,by decide⟩))))) zQ)
 (zy (zL (zF xg hr (by decide) rfl (zc (zm 0) (zc (zm 1) (zc (zm 2) zq)))))))
variable (xfa:Got P w K mg base 2 "_law_far" ["cell","k","near","far"] (upF K Dp.zcM))
variable (xaa:mg "range"=none)
theorem zaG:zP ["cell","count","far","corners","place","k","height","wide"] ["cell","count","far"] (zK zeA):=zU
include xg xfa xaa in
theorem zjR (F:Fun K "_law_corners" "_law_corners" zeA f fd):zX P w K mg base CX0 3 f fd ["cell","count","far"] (upF K Dp.zb1):=by
  refine zV (b:=Dp.zdg) F zaG Dp.zje Dp.zjE (fun cdv A outer s H E hr=>?_)
  unfold Dp.zdg
  exact (zu (zG (i:=3) zaG.nd rfl (Or.inl rfl) (zat zq))
 (zu (zG (i:=4) zaG.nd rfl (Or.inl rfl) (z9 (zF xfa hr (by decide) rfl (zc (zm 0) (zc zp (zc zp (zc (zm 2) zq))))) zp))
 (zu (zaL PassesOwn.never rfl (zeO rfl xaa (zc (zm 1) zq)) (zac (i:=5) zaG.nd rfl (Or.inl rfl)) (zu (zG (i:=6) zaG.nd rfl (Or.inl rfl) (zF xg hr (by decide) rfl (zc (zm 0) (zc (zY (zaj zp (zm 5)) zp) (zc zp zq)))))
 (zu (zfT (zT (zbg (zcp (zbq (zm 2)) (zcd (zM (zcU hr) (zaW (zm 5) zp) zp)))) (zy (zG (i:=6) zaG.nd rfl (Or.inl rfl) (zF xfa hr (by decide) rfl (zc (zm 0) (zc (zm 5) (zc zp (zc (zm 2) zq))))))) zQ))
 (zu (zae (zeu PySem.F.slot_list_append PySem.F.type_list_append zbl (zm 3) (zc (zag (zc (zm 4) (zc (zm 6) zq))) zq)))
 (zu (zG (i:=7) zaG.nd rfl (Or.inl rfl) (zY zp (zF xg hr (by decide) rfl (zc (zm 0) (zc (zY (zaj zp (zm 5)) zp) (zc zp zq))))))
 (zu (zfT (zT (zbg (zcp (zbq (zm 2)) (zcd (zM (zcU hr) (zaW (zm 5) zp) zp)))) (zy (zG (i:=7) zaG.nd rfl (Or.inl rfl) (zY zp (zaW (zaj (zaj (zm 0) (zbp 7928331467292760530673834318599741 (by decide +kernel) ⟨by decide,by decide,by decide⟩)) (zY (zm 5) zp)) (zbp 1000000000000000000000000000000000000000000000000 (by decide +kernel) ⟨by decide,by decide,by decide⟩))))) zQ))
 (zy (zG (i:=4) zaG.nd rfl (Or.inl rfl) (zY (zm 4) (zm 7))))))))))
 (zy (zL (zm 3))))))
variable (xdc:Got P w K mg base 3 "_law_corners" ["cell","count","far"] (upF K Dp.zb1))
theorem zdc:zP ["script","first","most","numbers","k","kept"] ["script","first","most"] (zK ze1):=zU
include xq xaa in
theorem zkg (F:Fun K "_law_folded" "_law_folded" ze1 f fd):zX P w K mg base CX0 1 f fd ["script","first","most"] (upF K Dp.zcl):=by
  refine zV (b:=Dp.zdT) F zdc Dp.zjs Dp.zke (fun cdv A outer s H E hr=>?_)
  unfold Dp.zdT
  exact (zu (zG (i:=3) zdc.nd rfl (Or.inl rfl) (zat zq))
 (zu (zaL PassesOwn.never rfl (zl5 rfl xaa (zc (zm 1) (zc (zai zaI rfl xq boot_len (zc (zm 0) zq)) zq))) (zac (i:=4) zdc.nd rfl (Or.inl rfl)) (zy (zT (zM zbn (zai zaI rfl xq boot_len (zc (zm 3) zq)) (zm 2)) (zy (zae (zeu PySem.F.slot_list_append PySem.F.type_list_append zbl (zm 3) (zc (zaW (zB (zm 0) (zm 4) (fun _ _=>rfl)) (zbp 1000000000000000000000000000000000000000000000000000000000000 (by decide +kernel) ⟨by decide,by decide,by decide⟩)) zq)))) (zu (zG (i:=5) zdc.nd rfl (Or.inl rfl) (zY (zaj (zB (zm 3) (zaW (zm 4) (zm 2)) (fun _ _=>rfl)) zp) (zaW (zB (zm 0) (zm 4) (fun _ _=>rfl)) (zbp 1000000000000000000000000000000000000000000000000000000000000 (by decide +kernel) ⟨by decide,by decide,by decide⟩))))
 (zy (zhM (zaW (zm 5) (zbp 1000000000000000000000000000000000000000000000000000000000000 (by decide +kernel) ⟨by decide,by decide,by decide⟩)) (zjS (zm 3) (zaW (zm 4) (zm 2)))))))))
 (zy (zL (zm 3)))))
variable (xdy:Got P w K mg base 1 "_law_folded" ["script","first","most"] (upF K Dp.zcl))
theorem zdG:zP ["cell","count","letters","head","tail"] ["cell","count"] (zK zfq):=zU
include xg xaa in
theorem zkD (F:Fun K "_law_names" "_law_names" zfq f fd):zX P w K mg base CX0 2 f fd ["cell","count"] (upF K Dp.zcB):=by
  refine zV (b:=Dp.zef) F zdG Dp.zkh Dp.zkO (fun cdv A outer s H E hr=>?_)
  unfold Dp.zef
  exact (zu (zG (i:=2) zdG.nd rfl (Or.inr rfl) zbQ)
 (zu (zG (i:=3) zdG.nd rfl (Or.inr rfl) (zaj (zB (zm 2) (zF xg hr (by decide) rfl (zc (zm 0) (zc zp (zc zp zq)))) (fun _ _=>rfl)) (zF xg hr (by decide) rfl (zc (zm 0) (zc zp (zc zp zq))))))
 (zu (zG (i:=4) zdG.nd rfl (Or.inr rfl) (zaj (zB (zm 2) (zF xg hr (by decide) rfl (zc (zm 0) (zc zp (zc zp zq)))) (fun _ _=>rfl)) (zF xg hr (by decide) rfl (zc (zm 0) (zc zp (zc zp zq))))))
 (zy (zL (zdi (own:=["k"]) (free:=["tail","head","letters","cell"]) (fv:=[4,3,2,0]) rfl rfl rfl (by decide +kernel) (by decide +kernel) ⟨rfl,rfl,rfl,rfl,True.intro⟩ ⟨rfl,rfl,rfl,rfl,rfl,rfl,rfl,rfl,rfl,rfl,rfl,rfl,True.intro⟩ (zeO rfl xaa (zc (zm 1) zq)) ⟨(zak 0 (by decide)),fun _ _ _ _ _=>(zaE (i:=0) (show List.Nodup (["k","tail","head","letters","cell"]:List Str) by decide +kernel) rfl (Or.inl rfl) (Or.inr rfl))⟩ (fun _ _ _ _ _=>zbJ) (fun _ _ _ _ _=>(zY (zY (zm 2) (zB (zm 3) (zaW (zY (zF xg hr (by decide) rfl (zc (zm 4) (zc zp (zc zp zq)))) (zaj zp (zm 0))) zp) (fun _ _=>rfl))) (zm 1)))))))))
variable (xe1:Got P w K mg base 2 "_law_names" ["cell","count"] (upF K Dp.zcB))
theorem zdj:zP ["corners","place","k","one","other","fall"] ["corners","place"] (zK zeY):=zU
include xq xaa in
theorem zkl (F:Fun K "_law_height" "_law_height" zeY f fd):zX P w K mg base CX0 1 f fd ["corners","place"] (upF K Dp.zcm):=by
  refine zV (b:=Dp.zdR) F zdj Dp.zjF Dp.zkb (fun cdv A outer s H E hr=>?_)
  unfold Dp.zdR
  exact (zu (zaL PassesOwn.never rfl (zeO rfl xaa (zc (z9 (zai zaI rfl xq boot_len (zc (zm 0) zq)) zp) zq)) (zac (i:=2) zdj.nd rfl (Or.inl rfl)) (zu (zsg (i:=3) (j:=4) rfl zdj.nd rfl rfl (by decide) rfl rfl (zc (zB (zm 0) (zm 2) (fun _ _=>rfl)) (zc (zB (zm 0) (zY (zm 2) zp) (fun _ _=>rfl)) zq)) rfl)
 (zy (zT (zbg (zcp (zM zfm (zB (zm 3) zp (fun _ _=>rfl)) (zm 1)) (zcd (zM zfm (zm 1) (zB (zm 4) zp (fun _ _=>rfl)))))) (zu (zG (i:=5) zdj.nd rfl (Or.inl rfl) (zaj (z9 (zB (zm 3) zp (fun _ _=>rfl)) (zB (zm 4) zp (fun _ _=>rfl))) (z9 (zm 1) (zB (zm 3) zp (fun _ _=>rfl)))))
 (zy (zL (z9 (zB (zm 3) zp (fun _ _=>rfl)) (zc3 (zm 5) (z9 (zB (zm 4) zp (fun _ _=>rfl)) (zB (zm 3) zp (fun _ _=>rfl)))))))) zQ))))
 (zy (zL zbP)))
variable (xdv:Got P w K mg base 1 "_law_height" ["corners","place"] (upF K Dp.zcm))
theorem zaz:zP ["numbers","corners","names","beacons","wide","k","cell","place","tower"] ["numbers","corners","names"] (zK zey):=zU
include xq xg xaa xdv in
theorem zjA (F:Fun K "_law_beacons" "_law_beacons" zey f fd):zX P w K mg base CX0 2 f fd ["numbers","corners","names"] (upF K Dp.zb6):=by
  refine zV (b:=Dp.zdh) F zaz Dp.ziQ Dp.zjL (fun cdv A outer s H E hr=>?_)
  unfold Dp.zdh
  exact (zu (zG (i:=3) zaz.nd rfl (Or.inl rfl) (zat zq))
 (zu (zG (i:=4) zaz.nd rfl (Or.inl rfl) (zY (z9 (zB (zB (zm 1) (zbL zp) (fun _ _=>rfl)) zp (fun _ _=>rfl)) (zB (zB (zm 1) zp (fun _ _=>rfl)) zp (fun _ _=>rfl))) zp))
 (zu (zaL PassesOwn.never rfl (zeO rfl xaa (zc (zai zaI rfl xq boot_len (zc (zm 2) zq)) zq)) (zac (i:=5) zaz.nd rfl (Or.inl rfl)) (zu (zG (i:=6) zaz.nd rfl (Or.inl rfl) (zB (zm 0) (zm 5) (fun _ _=>rfl)))
 (zu (zG (i:=7) zaz.nd rfl (Or.inl rfl) (zY (zB (zB (zm 1) zp (fun _ _=>rfl)) zp (fun _ _=>rfl)) (zF xg hr (by decide) rfl (zc (zm 6) (zc zp (zc (zm 4) zq))))))
 (zu (zfT (zT (zM zcR (zm 4) (zbp 100000000000000000000 (by decide +kernel) ⟨by decide,by decide,by decide⟩)) (zy (zG (i:=7) zaz.nd rfl (Or.inl rfl) (zY (zB (zB (zm 1) zp (fun _ _=>rfl)) zp (fun _ _=>rfl)) (zaW (zm 6) (zm 4))))) zQ))
 (zu (zfT (zT (zM (zcU hr) (zF xg hr (by decide) rfl (zc (zm 6) (zc zp (zc zp zq)))) zp) (zy (zG (i:=7) zaz.nd rfl (Or.inl rfl) (zB (zB (zm 1) (zF xg hr (by decide) rfl (zc (zm 6) (zc zp (zc (zai zaI rfl xq boot_len (zc (zm 1) zq)) zq)))) (fun _ _=>rfl)) zp (fun _ _=>rfl)))) zQ))
 (zu (zG (i:=8) zaz.nd rfl (Or.inl rfl) (zB (zat (zc zp (zc (zF xg hr (by decide) rfl (zc (zm 6) (zc zp (zc zp zq)))) (zc (zF xg hr (by decide) rfl (zc (zm 6) (zc zp (zc zp zq)))) (zc (zaW (zm 6) (zbp 10000000000000000000000000000000000000000 (by decide +kernel) ⟨by decide,by decide,by decide⟩)) zq))))) (zF xg hr (by decide) rfl (zc (zm 6) (zc zp (zc zp zq)))) (fun _ _=>rfl)))
 (zu (zfT (zT (zM zbn (zm 4) (zbp 100000000000000000000 (by decide +kernel) ⟨by decide,by decide,by decide⟩)) (zy (zG (i:=8) zaz.nd rfl (Or.inl rfl) (zaW (zm 8) zp))) zQ))
 (zy (zae (zeu PySem.F.slot_list_append PySem.F.type_list_append zbl (zm 3) (zc (zag (zc (zB (zm 2) (zm 5) (fun _ _=>rfl)) (zc (zm 7) (zc (zY (zF xdv hr (by decide) rfl (zc (zm 1) (zc (zm 7) zq))) (zm 8)) zq)))) zq)))))))))))
 (zy (zL (zm 3))))))
variable (xc9:Got P w K mg base 2 "_law_beacons" ["numbers","corners","names"] (upF K Dp.zb6))
variable (xgf:mg "abs"=none)
theorem za8:zP ["cell","corners","beacons","first","last","one","other","left","low","begin","end","wide","drift","rise"] ["cell","corners","beacons","first","last"] (zK zgX):=zU
include xq xg xgf in
theorem zm2 (F:Fun K "_law_fog" "_law_fog" zgX f fd):zX P w K mg base CX0 2 f fd ["cell","corners","beacons","first","last"] (upF K Dp.zdS):=by
  refine zV (b:=Dp.ze8) F za8 Dp.zlG Dp.zmM (fun cdv A outer s H E hr=>?_)
  unfold Dp.ze8
  exact (zu (zG (i:=5) za8.nd rfl (Or.inl rfl) (zB (zm 2) (zF xg hr (by decide) rfl (zc (zm 0) (zc zp (zc (zai zaI rfl xq boot_len (zc (zm 2) zq)) zq)))) (fun _ _=>rfl)))
 (zu (zG (i:=6) za8.nd rfl (Or.inl rfl) (zB (zm 2) (zF xg hr (by decide) rfl (zc (zm 0) (zc zp (zc (zai zaI rfl xq boot_len (zc (zm 2) zq)) zq)))) (fun _ _=>rfl)))
 (zu (zG (i:=7) za8.nd rfl (Or.inl rfl) (z9 (zY (zc3 (zY (zB (zm 5) zp (fun _ _=>rfl)) (zB (zm 6) zp (fun _ _=>rfl))) zp) (zF xg hr (by decide) rfl (zc (zm 0) (zc zp (zc zp zq))))) zp))
 (zu (zG (i:=8) za8.nd rfl (Or.inl rfl) (z9 (zY (zc3 (zY (zB (zm 5) zp (fun _ _=>rfl)) (zB (zm 6) zp (fun _ _=>rfl))) zp) (zF xg hr (by decide) rfl (zc (zm 0) (zc zp (zc zp zq))))) zp))
 (zu (zG (i:=9) za8.nd rfl (Or.inl rfl) (z9 (zY (zm 3) (zF xg hr (by decide) rfl (zc (zm 0) (zc zp (zc (zY (z9 (zm 4) (zm 3)) zp) zq))))) zp))
 (zu (zG (i:=10) za8.nd rfl (Or.inl rfl) (zY (zm 9) (zB (zat (zc (zF xg hr (by decide) rfl (zc (zm 0) (zc zp (zc zp zq)))) (zc (zF xg hr (by decide) rfl (zc (zm 0) (zc zp (zc zp zq)))) (zc zp zq)))) (zF xg hr (by decide) rfl (zc (zm 0) (zc zp (zc zp zq)))) (fun _ _=>rfl))))
 (zu (zG (i:=11) za8.nd rfl (Or.inl rfl) (zB (zat (zc (zF xg hr (by decide) rfl (zc (zm 0) (zc zp (zc zp zq)))) (zc (zF xg hr (by decide) rfl (zc (zm 0) (zc zp (zc zp zq)))) (zc (zai zln rfl xgf boot_abs (zc (z9 (zB (zm 5) zp (fun _ _=>rfl)) (zB (zm 6) zp (fun _ _=>rfl))) zq)) zq)))) (zF xg hr (by decide) rfl (zc (zm 0) (zc zp (zc zp zq)))) (fun _ _=>rfl)))
 (zu (zG (i:=12) za8.nd rfl (Or.inl rfl) (zB (zat (zc zp (zc (z9 (zF xg hr (by decide) rfl (zc (zm 0) (zc zp (zc zp zq)))) zp) (zc (zc3 (zai zln rfl xgf boot_abs (zc (z9 (zB (zm 5) zp (fun _ _=>rfl)) (zB (zm 6) zp (fun _ _=>rfl))) zq)) zp) zq)))) (zF xg hr (by decide) rfl (zc (zm 0) (zc zp (zc zp zq)))) (fun _ _=>rfl)))
 (zu (zG (i:=13) za8.nd rfl (Or.inl rfl) (zB (zat (zc zp (zc zp (zc (z9 (zF xg hr (by decide) rfl (zc (zm 0) (zc zp (zc zp zq)))) zp) zq)))) (zF xg hr (by decide) rfl (zc (zm 0) (zc zp (zc zp zq)))) (fun _ _=>rfl)))
 (zy (zL (zag (zc (zm 7) (zc (zY (zm 7) (zm 11)) (zc (zm 8) (zc (zY (zm 8) (zF xg hr (by decide) rfl (zc (zm 0) (zc zp (zc zp zq))))) (zc (zm 9) (zc (zm 10) (zc (zm 12) (zc (zm 13) zq))))))))))))))))))))
variable (xfz:Got P w K mg base 2 "_law_fog" ["cell","corners","beacons","first","last"] (upF K Dp.zdS))
theorem zaO:zP ["script","most","fogs","hours","head","far","count","corners","numbers","beacons","first","last","mists","haze"] ["script","most","fogs","hours"] (zK zf1):=zU
include xq xfv xg xaa xdc xdy xe1 xc9 xfz in
theorem zlV (F:Fun K "_law_vale" "_law_vale" zf1 f fd):zX P w K mg base CX0 4 f fd ["script","most","fogs","hours"] (upF K Dp.zc5):=by
  refine zV (b:=Dp.zeG) F zaO Dp.zli Dp.zlT (fun cdv A outer s H E hr=>?_)
  unfold Dp.zeG
  exact (zu (zG (i:=4) zaO.nd rfl (Or.inl rfl) (zF xfv hr (by decide) rfl (zc (zm 0) (zc zp zq))))
 (zu (zG (i:=5) zaO.nd rfl (Or.inl rfl) (zfE (zcU hr) (zF xg hr (by decide) rfl (zc (zm 4) (zc zp (zc zp zq)))) zp))
 (zu (zG (i:=6) zaO.nd rfl (Or.inl rfl) (zY zp (zF xg hr (by decide) rfl (zc (zm 4) (zc zp (zc (zm 1) zq))))))
 (zu (zG (i:=7) zaO.nd rfl (Or.inr rfl) (zF xdc hr (by decide) rfl (zc (zF xfv hr (by decide) rfl (zc (zm 0) (zc zp zq))) (zc (zY zp (zF xg hr (by decide) rfl (zc (zm 4) (zc zp (zc zp zq))))) (zc (zm 5) zq)))))
 (zu (zG (i:=8) zaO.nd rfl (Or.inl rfl) (zY (zF xdy hr (by decide) rfl (zc (zm 0) (zc zp (zc (zY (zm 6) (zm 2)) zq)))) (zdi (own:=["k"]) (free:=[]) (fv:=[]) rfl rfl rfl (by decide +kernel) (by decide +kernel) True.intro True.intro (zeO rfl xaa (zc (zm 6) zq)) ⟨(zak 0 (by decide)),fun _ _ _ _ _=>(zaE (i:=0) (show List.Nodup (["k"]:List Str) by decide +kernel) rfl (Or.inl rfl) (Or.inr rfl))⟩ (fun _ _ _ _ _=>zbJ) (fun _ _ _ _ _=>zp))))
 (zu (zG (i:=9) zaO.nd rfl (Or.inr rfl) (zF xc9 hr (by decide) rfl (zc (zm 8) (zc (zm 7) (zc (zF xe1 hr (by decide) rfl (zc (zm 4) (zc (zm 6) zq))) zq)))))
 (zu (zG (i:=10) zaO.nd rfl (Or.inr rfl) (zB (zat (zc (z9 (zF xg hr (by decide) rfl (zc (zm 4) (zc zp (zc zp zq)))) zp) (zc (zaW (zm 4) (zbp 100000000000000000000000000000000000000000000000000 (by decide +kernel) ⟨by decide,by decide,by decide⟩)) zq))) (zc3 (zF xg hr (by decide) rfl (zc (zm 4) (zc zp (zc zp zq)))) zp) (fun _ _=>rfl)))
 (zu (zG (i:=11) zaO.nd rfl (Or.inr rfl) (zY (zm 10) (zF xg hr (by decide) rfl (zc (zm 4) (zc zp (zc (zm 3) zq))))))
 (zu (ziC (i:=12) zaO.nd rfl rfl (own:=["cell"]) (free:=["corners","beacons","first","last"]) (fv:=[7,9,10,11]) rfl rfl rfl (by decide +kernel) (by decide +kernel) ⟨rfl,rfl,rfl,rfl,True.intro⟩ ⟨rfl,rfl,rfl,rfl,rfl,rfl,rfl,rfl,rfl,rfl,rfl,rfl,True.intro⟩ (zaH (zqE (zm 8) (zjP (zm 6)) (zjP (z9 (zai zaI rfl xq boot_len (zc (zm 8) zq)) (zm 6))))) ⟨(zak 0 (by decide)),fun _ _ _ _ _=>(zaE (i:=0) (show List.Nodup (["cell","corners","beacons","first","last"]:List Str) by decide +kernel) rfl (Or.inl rfl) (Or.inr rfl))⟩ (fun _ _ _ _ _=>zbJ) (fun _ _ _ _ _=>(zF xfz hr (by decide) rfl (zc (zm 0) (zc (zm 1) (zc (zm 2) (zc (zm 3) (zc (zm 4) zq))))))))
 (zu (zG (i:=13) zaO.nd rfl (Or.inl rfl) (zB (zat (zc zbP (zc (zF xg hr (by decide) rfl (zc (zm 4) (zc zp (zc zp zq)))) (zc (zbp 100000000000000000000000000000000000000000000000000000000000 (by decide +kernel) ⟨by decide,by decide,by decide⟩) zq)))) (zF xg hr (by decide) rfl (zc (zm 4) (zc zp (zc zp zq)))) (fun _ _=>rfl)))
 (zy (zL (zag (zc (zm 7) (zc (zm 9) (zc (zm 12) (zc (zm 13) (zc (zm 10) (zc (zm 11) (zc (zF xg hr (by decide) rfl (zc (zm 4) (zc zp (zc zp zq)))) zq))))))))))))))))))))
variable (xfm:Got P w K mg base 4 "_law_vale" ["script","most","fogs","hours"] (upF K Dp.zc5))
variable (xck:∃ t,mg "LEAST_CORNERS"=some (.int 2 t))
variable (xcy:∃ t,mg "MOST_CORNERS"=some (.int 40 t))
theorem zdy:zP ["corners","k"] ["corners"] (zK zcb):=zU
include xq xaa xck xcy in
theorem zfK (F:Fun K "refuse_bad_corners" "refuse_bad_corners" zcb f fd):zX P w K mg base CX0 1 f fd ["corners"] (upF K Dp.zaR):=by
  refine zV (b:=Dp.zby) F zdy Dp.zfw Dp.zfM (fun cdv A outer s H E hr=>?_)
  unfold Dp.zby
  exact (zu (zT (zbg (zdJ (zM zbn (zai zaI rfl xq boot_len (zc (zm 0) zq)) (zaa rfl xck)) (zdF (zM zcR (zai zaI rfl xq boot_len (zc (zm 0) zq)) (zaa rfl xcy))))) (zy zbf) zQ)
 (zy (zaL PassesOwn.never rfl (zl5 rfl xaa (zc zp (zc (zai zaI rfl xq boot_len (zc (zm 0) zq)) zq))) (zac (i:=1) zdy.nd rfl (Or.inl rfl)) (zy (zT (zM zfm (zB (zB (zm 0) (zm 1) (fun _ _=>rfl)) zp (fun _ _=>rfl)) (zB (zB (zm 0) (z9 (zm 1) zp) (fun _ _=>rfl)) zp (fun _ _=>rfl))) (zy zbf) zQ)))))
variable (xar:Got P w K mg base 1 "refuse_bad_corners" ["corners"] (upF K Dp.zaR))
variable (xbh:∀ C,W.nsIn K mainGlobals "Ground"=some (some (.ref C))->zau K C "corners")
variable (xa0:mg "list"=none)
theorem zjB:zP ["self","corners"] ["self","corners"] (zK zbK):=zU
include xar xbh xa0 in
theorem zjt (F:Fun K "__init__" "Ground.__init__" zbK f fd):zX P w K mg base CX0 2 f fd ["self","corners"] (upF K Dp.zcO):=by
  refine zV (b:=Dp.zbI) F zjB Dp.ziM Dp.zjQ (fun cdv A outer s H E hr=>?_)
  unfold Dp.zbI
  exact (zu (zae (zF xar hr (by decide) rfl (zc (zm 1) zq)))
 (zy (zdw xbh (zm 0) (zfZ zeM rfl xa0 boot_list (zc (zm 1) zq)))))
variable (xdk:zjz P w K mg base 2 "Ground" (upF K Dp.zfk))
variable (xcu:∃ t,mg "MOST_BEACONS"=some (.int 12 t))
variable (xex:∃ t,mg "MOST_FOGS"=some (.int 12 t))
theorem zfB:zP ["beacons","fogs"] ["beacons","fogs"] (zK zce):=zU
include xq xcu xex in
theorem zfC (F:Fun K "refuse_bad_numbers" "refuse_bad_numbers" zce f fd):zX P w K mg base CX0 1 f fd ["beacons","fogs"] (upF K Dp.zaT):=by
  refine zV (b:=Dp.zbw) F zfB Dp.zfy Dp.zfF (fun cdv A outer s H E hr=>?_)
  unfold Dp.zbw
  exact (zu (zT (zbg (zdJ (zM zbn (zai zaI rfl xq boot_len (zc (zm 0) zq)) zp) (zdF (zM zcR (zai zaI rfl xq boot_len (zc (zm 0) zq)) (zaa rfl xcu))))) (zy zbf) zQ)
 (zy (zT (zM zcR (zai zaI rfl xq boot_len (zc (zm 1) zq)) (zaa rfl xex)) (zy zbf) zQ)))
variable (xaq:Got P w K mg base 1 "refuse_bad_numbers" ["beacons","fogs"] (upF K Dp.zaT))
variable (xcw:∃ t,mg "MOST_LETTERS"=some (.int 8 t))
variable (xf5:∃ t,mg "LETTERS"=some (.str "abcdefghijklmnopqrstuvwxyz" t))
variable (xbe:mg "all"=none)
theorem znv:zP ["text"] ["text"] (zK zhd):=zU
include xq xcw xf5 xbe in
theorem zns (F:Fun K "is_name" "is_name" zhd f fd):zX P w K mg base CX0 1 f fd ["text"] (upF K Dp.zdO):=by
  refine zV (b:=Dp.ze6) F znv Dp.zlD Dp.zmT (fun cdv A outer s H E hr=>?_)
  unfold Dp.ze6
  exact (zu (zT (zbg (zdJ (zM zbn (zai zaI rfl xq boot_len (zc (zm 0) zq)) zp) (zdF (zM zcR (zai zaI rfl xq boot_len (zc (zm 0) zq)) (zaa rfl xcw))))) (zy (zL zcr)) zQ)
 (zy (zL (zai zgJ rfl xbe boot_all (zc (zdi (own:=["sign"]) (free:=[]) (fv:=[]) rfl rfl rfl (by decide +kernel) (by decide +kernel) True.intro True.intro (zaH (zm 0)) ⟨(zak 0 (by decide)),fun _ _ _ _ _=>(zaE (i:=0) (show List.Nodup (["sign"]:List Str) by decide +kernel) rfl (Or.inl rfl) (Or.inr rfl))⟩ (fun _ _ _ _ _=>zbJ) (fun _ _ _ _ _=>(zrr (zqU hr) (zm 0) (zrj rfl xf5)))) zq)))))
variable (xgh:Got P w K mg base 1 "is_name" ["text"] (upF K Dp.zdO))
variable (xjd:mg "set"=none)
theorem zgz:zP ["names"] ["names"] (zK zcH):=zU
include xq xbe xgh xjd in
theorem zgx (F:Fun K "refuse_bad_names" "refuse_bad_names" zcH f fd):zX P w K mg base CX0 2 f fd ["names"] (upF K Dp.za2):=by
  refine zV (b:=Dp.zbM) F zgz Dp.zf6 Dp.zgv (fun cdv A outer s H E hr=>?_)
  unfold Dp.zbM
  exact (zu (zT (zcT (zbq (zai zgJ rfl xbe boot_all (zc (zdi (own:=["name"]) (free:=[]) (fv:=[]) rfl rfl rfl (by decide +kernel) (by decide +kernel) True.intro True.intro (zaH (zm 0)) ⟨(zak 0 (by decide)),fun _ _ _ _ _=>(zaE (i:=0) (show List.Nodup (["name"]:List Str) by decide +kernel) rfl (Or.inl rfl) (Or.inr rfl))⟩ (fun _ _ _ _ _=>zbJ) (fun _ _ _ _ _=>(zF xgh hr (by decide) rfl (zc (zm 0) zq)))) zq)))) (zy zbf) zQ)
 (zy (zT (zM zbn (zrp rfl xq rfl xjd (zc (zm 0) zq)) (zai zaI rfl xq boot_len (zc (zm 0) zq))) (zy zbf) zQ)))
variable (xa7:Got P w K mg base 2 "refuse_bad_names" ["names"] (upF K Dp.za2))
theorem zrT:zP ["one","other"] ["one","other"] (zK zkM):=zU
theorem zsn (F:Fun K "less" "less" zkM f fd):zX P w K mg base CX0 1 f fd ["one","other"] (upF K Dp.zdE):=by
 refine zV (b:=Dp.zjc) F zrT Dp.zpi Dp.zr8 (fun cdv A outer s H E hr=>?_)
 unfold Dp.zjc
 exact (zy (zL (zfE zbn (zaj (zB (zm 0) zp (fun _ _=>rfl)) (zB (zm 1) zp (fun _ _=>rfl))) (zaj (zB (zm 1) zp (fun _ _=>rfl)) (zB (zm 0) zp (fun _ _=>rfl))))))
variable (xct:Got P w K mg base 1 "less" ["one","other"] (upF K Dp.zdE))
theorem zh8:zP ["ground","place","first","last"] ["ground","place"] (zK zjH):=zU
include xct in
theorem zp5 (F:Fun K "is_on" "is_on" zjH f fd):zX P w K mg base CX0 2 f fd ["ground","place"] (upF K Dp.zd3):=by
  refine zV (b:=Dp.zhu) F zh8 Dp.znL Dp.zpD (fun cdv A outer s H E hr=>?_)
  unfold Dp.zhu
  exact (zu (zG (i:=2) zh8.nd rfl (Or.inl rfl) (zag (zc (zB (zB (zan (zm 0) rfl) zp (fun _ _=>rfl)) zp (fun _ _=>rfl)) (zc zp zq))))
 (zu (zG (i:=3) zh8.nd rfl (Or.inl rfl) (zag (zc (zB (zB (zan (zm 0) rfl) (zbL zp) (fun _ _=>rfl)) zp (fun _ _=>rfl)) (zc zp zq))))
 (zy (zL (zhx (zhv (zF xct hr (by decide) rfl (zc (zm 1) (zc (zm 2) zq)))) (zk0 (zhv (zF xct hr (by decide) rfl (zc (zm 3) (zc (zm 1) zq))))))))))
variable (xec:Got P w K mg base 2 "is_on" ["ground","place"] (upF K Dp.zd3))
theorem zbZ:zP ["one","other","rest"] ["one","other"] (zK zdn):=zU
include xgf in
theorem zhV (F:Fun K "common_divisor" "common_divisor" zdn f fd):zX P w K mg base CX0 1 f fd ["one","other"] (upF K Dp.zbt):=by
  refine zV (b:=Dp.zch) F zbZ Dp.zg6 Dp.zh1 (fun cdv A outer s H E hr=>?_)
  unfold Dp.zch
  exact (zu (zgR PassesOwn.never (zM (zeg hr) (zm 1) zp) (zu (zG (i:=2) zbZ.nd rfl (Or.inl rfl) (zaW (zm 0) (zm 1)))
 (zu (zG (i:=0) zbZ.nd rfl (Or.inl rfl) (zm 1))
 (zy (zG (i:=1) zbZ.nd rfl (Or.inl rfl) (zm 2))))))
 (zy (zL (zai zln rfl xgf boot_abs (zc (zm 0) zq)))))
variable (xb3:Got P w K mg base 1 "common_divisor" ["one","other"] (upF K Dp.zbt))
theorem zfr:zP ["top","bottom","divisor"] ["top","bottom"] (zK zfX):=zU
include xb3 in
theorem zlO (F:Fun K "fraction" "fraction" zfX f fd):zX P w K mg base CX0 2 f fd ["top","bottom"] (upF K Dp.zc7):=by
  refine zV (b:=Dp.zeC) F zfr Dp.zkV Dp.zlZ (fun cdv A outer s H E hr=>?_)
  unfold Dp.zeC
  exact (zu (zG (i:=2) zfr.nd rfl (Or.inl rfl) (zF xb3 hr (by decide) rfl (zc (zm 0) (zc (zm 1) zq))))
 (zu (zfT (zT (zM zbn (zm 1) zp) (zy (zG (i:=2) zfr.nd rfl (Or.inl rfl) (zbL (zm 2)))) zQ))
 (zy (zL (zag (zc (zc3 (zm 0) (zm 2)) (zc (zc3 (zm 1) (zm 2)) zq)))))))
variable (xfq:Got P w K mg base 2 "fraction" ["top","bottom"] (upF K Dp.zc7))
theorem zdW:zP ["one","other","place","run","rise","top"] ["one","other","place"] (zK zfs):=zU
include xfq in
theorem zku (F:Fun K "height_on" "height_on" zfs f fd):zX P w K mg base CX0 3 f fd ["one","other","place"] (upF K Dp.zcK):=by
  refine zV (b:=Dp.zec) F zdW Dp.zki Dp.zlc (fun cdv A outer s H E hr=>?_)
  unfold Dp.zec
  exact (zu (zG (i:=3) zdW.nd rfl (Or.inl rfl) (z9 (zB (zm 1) zp (fun _ _=>rfl)) (zB (zm 0) zp (fun _ _=>rfl))))
 (zu (zG (i:=4) zdW.nd rfl (Or.inl rfl) (z9 (zB (zm 1) zp (fun _ _=>rfl)) (zB (zm 0) zp (fun _ _=>rfl))))
 (zu (zG (i:=5) zdW.nd rfl (Or.inl rfl) (zY (zaj (zaj (zB (zm 0) zp (fun _ _=>rfl)) (zm 3)) (zB (zm 2) zp (fun _ _=>rfl))) (zaj (zm 4) (z9 (zB (zm 2) zp (fun _ _=>rfl)) (zaj (zB (zm 0) zp (fun _ _=>rfl)) (zB (zm 2) zp (fun _ _=>rfl)))))))
 (zy (zL (zF xfq hr (by decide) rfl (zc (zm 5) (zc (zaj (zm 3) (zB (zm 2) zp (fun _ _=>rfl))) zq))))))))
variable (xe6:Got P w K mg base 3 "height_on" ["one","other","place"] (upF K Dp.zcK))
variable (xav:∀ C,W.nsIn K mainGlobals "OffGround"=some (some (.ref C))->ExC K C)
variable (xau:∃ C,W.nsIn K mainGlobals "OffGround"=some (some (.ref C))/\mg "OffGround"=some (.ref C))
theorem zdM:zP ["ground","place","corners","k"] ["ground","place"] (zK zfp):=zU
include xct xec xe6 xav xau in
theorem zkU (F:Fun K "ground_at" "ground_at" zfp f fd):zX P w K mg base (CXd P w) 4 f fd ["ground","place"] (zbT K Dp.zcx):=by
  refine zck (b:=Dp.zea) F zdM Dp.zkc Dp.zkE (fun cdv A outer s H E hr _ ex hX hM=>?_)
  unfold Dp.zea
  exact (zu (zT (zcT (zbq (zF xec hr (by decide) rfl (zc (zm 0) (zc (zm 1) zq))))) (zy (zeq hM rfl xav xau rfl (zc zbQ zq) (fun _ _ _ h=>h _))) zQ)
 (zu (zG (i:=2) zdM.nd rfl (Or.inl rfl) (zan (zm 0) rfl))
 (zu (zG (i:=3) zdM.nd rfl (Or.inl rfl) zp)
 (zu (zgR PassesOwn.leaving (zbq (zF xct hr (by decide) rfl (zc (zag (zc (zB (zB (zm 2) (zm 3) (fun _ _=>rfl)) zp (fun _ _=>rfl)) (zc zp zq))) (zc (zm 1) zq)))) (zy (zmp (i:=3) zdM.nd rfl (Or.inl rfl) zp)))
 (zy (zL (zF xe6 hr (by decide) rfl (zc (zB (zm 2) (z9 (zm 3) zp) (fun _ _=>rfl)) (zc (zB (zm 2) (zm 3) (fun _ _=>rfl)) (zc (zm 1) zq))))))))))
variable (xey:zeU P w K mg base 4 "ground_at" ["ground","place"] (zbT K Dp.zcx))
theorem zj0:zP ["ground","spot","place"] ["ground","spot"] (zK zio):=zU
include xct xec xey in
theorem zoe (F:Fun K "stands" "stands" zio f fd):zX P w K mg base CX0 5 f fd ["ground","spot"] (upF K Dp.zdx):=by
  refine zV (b:=Dp.zgg) F zj0 Dp.zna Dp.zoP (fun cdv A outer s H E hr=>?_)
  unfold Dp.zgg
  exact (zu (zG (i:=2) zj0.nd rfl (Or.inl rfl) (zag (zc (zB (zm 1) zp (fun _ _=>rfl)) (zc zp zq))))
 (zu (zT (zcT (zbq (zF xec hr (by decide) rfl (zc (zm 0) (zc (zm 2) zq))))) (zy (zL zcr)) zQ)
 (zy (zL (zhv (zF xct hr (by decide) rfl (zc (zag (zc (zB (zm 1) zp (fun _ _=>rfl)) (zc zp zq))) (zc (zaw xey zko hr (by decide) rfl (zc (zm 0) (zc (zm 2) zq))) zq))))))))
variable (xdl:Got P w K mg base 5 "stands" ["ground","spot"] (upF K Dp.zdx))
theorem zhr:zP ["ground","beacons"] ["ground","beacons"] (zK zcZ):=zU
include xbe xdl in
theorem zgH (F:Fun K "refuse_bad_tops" "refuse_bad_tops" zcZ f fd):zX P w K mg base CX0 6 f fd ["ground","beacons"] (upF K Dp.zbk):=by
 refine zV (b:=Dp.zbW) F zhr Dp.zgD Dp.zgP (fun cdv A outer s H E hr=>?_)
 unfold Dp.zbW
 exact (zy (zT (zcT (zbq (zai zgJ rfl xbe boot_all (zc (zdi (own:=["name","x","z"]) (free:=["ground"]) (fv:=[0]) rfl rfl rfl (by decide +kernel) (by decide +kernel) ⟨rfl,True.intro⟩ ⟨rfl,rfl,rfl,True.intro⟩ (zaH (zm 1)) ⟨(zig (zcf (zak 0 (by decide)) (zcf (zak 1 (by decide)) (zcf (zak 2 (by decide)) zhb)))),fun _ _ _ _ _=>(ziL (n:=3) rfl (zcI (zaE (i:=0) (show List.Nodup (["name","x","z","ground"]:List Str) by decide +kernel) rfl (Or.inl rfl) (Or.inr rfl)) (zcI (zaE (i:=1) (show List.Nodup (["name","x","z","ground"]:List Str) by decide +kernel) rfl (Or.inl rfl) (Or.inr rfl)) (zcI (zaE (i:=2) (show List.Nodup (["name","x","z","ground"]:List Str) by decide +kernel) rfl (Or.inl rfl) (Or.inr rfl)) zhT))))⟩ (fun _ _ _ _ _=>zbJ) (fun _ _ _ _ _=>(zF xdl hr (by decide) rfl (zc (zm 3) (zc (zag (zc (zm 1) (zc (zm 2) zq))) zq))))) zq)))) (zy zbf) zQ))
variable (xbn:Got P w K mg base 6 "refuse_bad_tops" ["ground","beacons"] (upF K Dp.zbk))
variable (xje:mg "int"=none)
variable (xu:mg "isinstance"=none)
variable (xia:mg "bool"=none)
theorem zlU:zP ["value"] ["value"] (zK zgq):=zU
include xje xu xia in
theorem zlI (F:Fun K "is_whole" "is_whole" zgq f fd):zX P w K mg base CX0 1 f fd ["value"] (upF K Dp.zc8):=by
 refine zV (b:=Dp.zeB) F zlU Dp.zkQ Dp.zlR (fun cdv A outer s H E hr=>?_)
 unfold Dp.zeB
 exact (zy (zL (zhx (zai zjg rfl xu boot_isinstance (zc (zm 0) (zc (zkr rfl xje boot_int) zq))) (zk0 (zhv (zai zjg rfl xu boot_isinstance (zc (zm 0) (zc (zkr rfl xia boot_bool) zq))))))))
variable (xfo:Got P w K mg base 1 "is_whole" ["value"] (upF K Dp.zc8))
variable (xgd:∃ t,mg "NUMBERS"=some (.int 8 t))
variable (xb7:∃ t,mg "LEFT"=some (.int 0 t))
variable (xay:∃ t,mg "RIGHT"=some (.int 1 t))
variable (xda:∃ t,mg "LOW"=some (.int 2 t))
variable (xb8:∃ t,mg "HIGH"=some (.int 3 t))
variable (xat:∃ t,mg "FIRST"=some (.int 4 t))
variable (xc7:∃ t,mg "LAST"=some (.int 5 t))
variable (xea:mg "tuple"=none)
theorem zoT:zP ["value"] ["value"] (zK zir):=zU
include xq xbe xu xfo xgd xb7 xay xda xb8 xat xc7 xea in
theorem zoi (F:Fun K "is_fog" "is_fog" zir f fd):zX P w K mg base CX0 2 f fd ["value"] (upF K Dp.zej):=by
  refine zV (b:=Dp.zgr) F zoT Dp.zmE Dp.zn8 (fun cdv A outer s H E hr=>?_)
  unfold Dp.zgr
  exact (zu (zT (zbg (zdJ (zcT (zbq (zai zjg rfl xu boot_isinstance (zc (zm 0) (zc (zkr rfl xea boot_tuple) zq))))) (zdF (zM (zeg hr) (zai zaI rfl xq boot_len (zc (zm 0) zq)) (zaa rfl xgd))))) (zy (zL zcr)) zQ)
 (zu (zT (zcT (zbq (zai zgJ rfl xbe boot_all (zc (zdi (own:=["number"]) (free:=[]) (fv:=[]) rfl rfl rfl (by decide +kernel) (by decide +kernel) True.intro True.intro (zaH (zm 0)) ⟨(zak 0 (by decide)),fun _ _ _ _ _=>(zaE (i:=0) (show List.Nodup (["number"]:List Str) by decide +kernel) rfl (Or.inl rfl) (Or.inr rfl))⟩ (fun _ _ _ _ _=>zbJ) (fun _ _ _ _ _=>(zF xfo hr (by decide) rfl (zc (zm 0) zq)))) zq)))) (zy (zL zcr)) zQ)
 (zy (zL (zhx (zfE zfm (zB (zm 0) (zaa rfl xb7) (fun _ _=>rfl)) (zB (zm 0) (zaa rfl xay) (fun _ _=>rfl))) (zhx (zfE zfm (zB (zm 0) (zaa rfl xda) (fun _ _=>rfl)) (zB (zm 0) (zaa rfl xb8) (fun _ _=>rfl))) (zk0 (zfE zfm (zB (zm 0) (zaa rfl xat) (fun _ _=>rfl)) (zB (zm 0) (zaa rfl xc7) (fun _ _=>rfl))))))))))
variable (xgx:Got P w K mg base 2 "is_fog" ["value"] (upF K Dp.zej))
theorem zgS:zP ["fogs"] ["fogs"] (zK zc1):=zU
include xbe xgx in
theorem zg8 (F:Fun K "refuse_bad_fogs" "refuse_bad_fogs" zc1 f fd):zX P w K mg base CX0 3 f fd ["fogs"] (upF K Dp.zbh):=by
 refine zV (b:=Dp.zb0) F zgS Dp.zgB Dp.zgU (fun cdv A outer s H E hr=>?_)
 unfold Dp.zb0
 exact (zy (zT (zcT (zbq (zai zgJ rfl xbe boot_all (zc (zdi (own:=["fog"]) (free:=[]) (fv:=[]) rfl rfl rfl (by decide +kernel) (by decide +kernel) True.intro True.intro (zaH (zm 0)) ⟨(zak 0 (by decide)),fun _ _ _ _ _=>(zaE (i:=0) (show List.Nodup (["fog"]:List Str) by decide +kernel) rfl (Or.inl rfl) (Or.inr rfl))⟩ (fun _ _ _ _ _=>zbJ) (fun _ _ _ _ _=>(zF xgx hr (by decide) rfl (zc (zm 0) zq)))) zq)))) (zy zbf) zQ))
variable (xbj:Got P w K mg base 3 "refuse_bad_fogs" ["fogs"] (upF K Dp.zbh))
theorem zgE:zP ["haze","first","last","delay"] ["haze","first","last","delay"] (zK zcF):=zU
theorem zgA (F:Fun K "refuse_bad_hours" "refuse_bad_hours" zcF f fd):zX P w K mg base CX0 1 f fd ["haze","first","last","delay"] (upF K Dp.za1):=by
  refine zV (b:=Dp.zbO) F zgE Dp.zfS Dp.zgF (fun cdv A outer s H E hr=>?_)
  unfold Dp.zbO
  exact (zu (zT (zM zcR (zm 1) (zm 2)) (zy zbf) zQ)
 (zu (zT (zM zbn (zm 3) zp) (zy zbf) zQ)
 (zy (zT (zbg (zcp (zM zfD (zm 0) zbP) (zcd (zM zbn (zm 0) zp)))) (zy zbf) zQ))))
variable (xa5:Got P w K mg base 1 "refuse_bad_hours" ["haze","first","last","delay"] (upF K Dp.za1))
variable (xb4:∀ C,W.nsIn K mainGlobals "Valley"=some (some (.ref C))->zau K C "ground")
variable (xbo:∀ C,W.nsIn K mainGlobals "Valley"=some (some (.ref C))->zau K C "beacons")
variable (xcx:∀ C,W.nsIn K mainGlobals "Valley"=some (some (.ref C))->zau K C "fogs")
variable (xcv:∀ C,W.nsIn K mainGlobals "Valley"=some (some (.ref C))->zau K C "haze")
variable (xci:∀ C,W.nsIn K mainGlobals "Valley"=some (some (.ref C))->zau K C "first")
variable (xcz:∀ C,W.nsIn K mainGlobals "Valley"=some (some (.ref C))->zau K C "last")
variable (xcj:∀ C,W.nsIn K mainGlobals "Valley"=some (some (.ref C))->zau K C "delay")
theorem zjG:zP ["self","ground","beacons","fogs","haze","first","last","delay"] ["self","ground","beacons","fogs","haze","first","last","delay"] (zK zbH):=zU
include xa0 xdk xaq xa7 xbn xbj xa5 xb4 xbo xcx xcv xci xcz xcj in
theorem zjr (F:Fun K "__init__" "Valley.__init__" zbH f fd):zX P w K mg base CX0 7 f fd ["self","ground","beacons","fogs","haze","first","last","delay"] (upF K Dp.zcS):=by
  refine zV (b:=Dp.zbE) F zjG Dp.ziR Dp.zjD (fun cdv A outer s H E hr=>?_)
  unfold Dp.zbE
  exact (zu (zae (zF xaq hr (by decide) rfl (zc (zm 2) (zc (zm 3) zq))))
 (zu (zae (zF xa7 hr (by decide) rfl (zc (zdi (own:=["beacon"]) (free:=[]) (fv:=[]) rfl rfl rfl (by decide +kernel) (by decide +kernel) True.intro True.intro (zaH (zm 2)) ⟨(zak 0 (by decide)),fun _ _ _ _ _=>(zaE (i:=0) (show List.Nodup (["beacon"]:List Str) by decide +kernel) rfl (Or.inl rfl) (Or.inr rfl))⟩ (fun _ _ _ _ _=>zbJ) (fun _ _ _ _ _=>(zB (zm 0) zp (fun _ _=>rfl)))) zq)))
 (zu (zae (zF xbn hr (by decide) rfl (zc (zm 1) (zc (zm 2) zq))))
 (zu (zae (zF xbj hr (by decide) rfl (zc (zm 3) zq)))
 (zu (zae (zF xa5 hr (by decide) rfl (zc (zm 4) (zc (zm 5) (zc (zm 6) (zc (zm 7) zq))))))
 (zu (zdw xb4 (zm 0) (zkJ xdk hr (by decide) rfl (zc (zan (zm 1) rfl) zq)))
 (zu (zdw xbo (zm 0) (zfZ zeM rfl xa0 boot_list (zc (zm 2) zq)))
 (zu (zdw xcx (zm 0) (zfZ zeM rfl xa0 boot_list (zc (zm 3) zq)))
 (zu (zdw xcv (zm 0) (zm 4))
 (zu (zdw xci (zm 0) (zm 5))
 (zu (zdw xcz (zm 0) (zm 6))
 (zy (zdw xcj (zm 0) (zm 7))))))))))))))
variable (xgz:zjz P w K mg base 7 "Valley" (upF K Dp.zgK))
theorem zlH:zP ["valley"] ["valley"] (zK zgn):=zU
theorem zlN (F:Fun K "names_of" "names_of" zgn f fd):zX P w K mg base CX0 1 f fd ["valley"] (upF K Dp.zba):=by
 refine zV (b:=Dp.zeH) F zlH Dp.zlb Dp.zlW (fun cdv A outer s H E hr=>?_)
 unfold Dp.zeH
 exact (zy (zL (zdi (own:=["beacon"]) (free:=[]) (fv:=[]) rfl rfl rfl (by decide +kernel) (by decide +kernel) True.intro True.intro (zaH (zan (zm 0) rfl)) ⟨(zak 0 (by decide)),fun _ _ _ _ _=>(zaE (i:=0) (show List.Nodup (["beacon"]:List Str) by decide +kernel) rfl (Or.inl rfl) (Or.inr rfl))⟩ (fun _ _ _ _ _=>zbJ) (fun _ _ _ _ _=>(zB (zm 0) zp (fun _ _=>rfl))))))
variable (xag:Got P w K mg base 1 "names_of" ["valley"] (upF K Dp.zba))
variable (xbc:∀ C,W.nsIn K mainGlobals "NoBeacon"=some (some (.ref C))->ExC K C)
variable (xbb:∃ C,W.nsIn K mainGlobals "NoBeacon"=some (some (.ref C))/\mg "NoBeacon"=some (.ref C))
theorem ziP:zP ["valley","name","beacon"] ["valley","name"] (zK zhc):=zU
include xbc xbb in
theorem zmC (F:Fun K "spot_of" "spot_of" zhc f fd):zX P w K mg base (CXd P w) 1 f fd ["valley","name"] (zbT K Dp.za9):=by
  refine zck (b:=Dp.zfh) F ziP Dp.zlX Dp.znj (fun cdv A outer s H E hr _ ex hX hM=>?_)
  unfold Dp.zfh
  exact (zu (zaL PassesOwn.leaving rfl (zaH (zan (zm 0) rfl)) (zac (i:=2) ziP.nd rfl (Or.inl rfl)) (zy (zT (zM (zcU hr) (zB (zm 2) zp (fun _ _=>rfl)) (zm 1)) (zy (zL (zag (zc (zB (zm 2) zp (fun _ _=>rfl)) (zc (zB (zm 2) zp (fun _ _=>rfl)) zq))))) zQ)))
 (zy (zeq hM rfl xbc xbb rfl (zc zbQ zq) (fun _ _ _ h=>h _))))
variable (xae:zeU P w K mg base 1 "spot_of" ["valley","name"] (zbT K Dp.za9))
theorem zfn:zP ["ground","spot"] ["ground","spot"] (zK zb3):=zU
include xav xau xdl in
theorem zft (F:Fun K "refuse_not_standing" "refuse_not_standing" zb3 f fd):zX P w K mg base (CXd P w) 6 f fd ["ground","spot"] (zbT K Dp.zaA):=by
 refine zck (b:=Dp.zbr) F zfn Dp.ze4 Dp.zfv (fun cdv A outer s H E hr _ ex hX hM=>?_)
 unfold Dp.zbr
 exact (zy (zT (zcT (zbq (zF xdl hr (by decide) rfl (zc (zm 0) (zc (zm 1) zq))))) (zy (zeq hM rfl xav xau rfl (zc zbQ zq) (fun _ _ _ h=>h _))) zQ))
variable (xai:zeU P w K mg base 6 "refuse_not_standing" ["ground","spot"] (zbT K Dp.zaA))
variable (xaw:mg "min"=none)
variable (xax:mg "max"=none)
variable (xbd:mg "enumerate"=none)
theorem zcy:zP ["ground","x","other_x","low","high"] ["ground","x","other_x"] (zK zcY):=zU
include xaw xax xbd in
theorem zhj (F:Fun K "numbers_between" "numbers_between" zcY f fd):zX P w K mg base CX0 1 f fd ["ground","x","other_x"] (upF K Dp.zbj):=by
  refine zV (b:=Dp.zbV) F zcy Dp.zgG Dp.zhg (fun cdv A outer s H E hr=>?_)
  unfold Dp.zbV
  exact (zu (zG (i:=3) zcy.nd rfl (Or.inr rfl) (zai zfH rfl xaw boot_min (zc (zm 1) (zc (zm 2) zq))))
 (zu (zG (i:=4) zcy.nd rfl (Or.inr rfl) (zai zeJ rfl xax boot_max (zc (zm 1) (zc (zm 2) zq))))
 (zy (zL (zdi (own:=["k","corner"]) (free:=["low","high"]) (fv:=[3,4]) rfl rfl rfl (by decide +kernel) (by decide +kernel) ⟨rfl,rfl,True.intro⟩ ⟨rfl,rfl,rfl,rfl,rfl,rfl,True.intro⟩ (zhm rfl xbd (zc (zan (zm 0) rfl) zq)) ⟨(zig (zcf (zak 0 (by decide)) (zcf (zak 1 (by decide)) zhb))),fun _ _ _ _ _=>(ziL (n:=2) rfl (zcI (zaE (i:=0) (show List.Nodup (["k","corner","low","high"]:List Str) by decide +kernel) rfl (Or.inl rfl) (Or.inr rfl)) (zcI (zaE (i:=1) (show List.Nodup (["k","corner","low","high"]:List Str) by decide +kernel) rfl (Or.inl rfl) (Or.inr rfl)) zhT)))⟩ (fun _ _ _ _ _=>(zjp (zoo zbn zbn (zm 2) (zB (zm 1) zp (fun _ _=>rfl)) (zm 3)))) (fun _ _ _ _ _=>(zm 0)))))))
variable (xbk:Got P w K mg base 1 "numbers_between" ["ground","x","other_x"] (upF K Dp.zbj))
theorem zdV:zP ["one","other","spot","run","rise","over"] ["one","other","spot"] (zK zhk):=zU
theorem znp (F:Fun K "side_of" "side_of" zhk f fd):zX P w K mg base CX0 1 f fd ["one","other","spot"] (upF K Dp.zdL):=by
  refine zV (b:=Dp.zfj) F zdV Dp.zlK Dp.znx (fun cdv A outer s H E hr=>?_)
  unfold Dp.zfj
  exact (zu (zG (i:=3) zdV.nd rfl (Or.inl rfl) (z9 (zB (zm 1) zp (fun _ _=>rfl)) (zB (zm 0) zp (fun _ _=>rfl))))
 (zu (zG (i:=4) zdV.nd rfl (Or.inl rfl) (z9 (zB (zm 1) zp (fun _ _=>rfl)) (zB (zm 0) zp (fun _ _=>rfl))))
 (zu (zG (i:=5) zdV.nd rfl (Or.inl rfl) (z9 (zaj (z9 (zB (zm 2) zp (fun _ _=>rfl)) (zB (zm 0) zp (fun _ _=>rfl))) (zm 3)) (zaj (z9 (zB (zm 2) zp (fun _ _=>rfl)) (zB (zm 0) zp (fun _ _=>rfl))) (zm 4))))
 (zu (zfT (zT (zM zbn (zm 3) zp) (zy (zG (i:=5) zdV.nd rfl (Or.inl rfl) (zbL (zm 5)))) zQ))
 (zu (zT (zM zcR (zm 5) zp) (zy (zL zp)) zQ)
 (zu (zT (zM zbn (zm 5) zp) (zy (zL (zbL zp))) zQ)
 (zy (zL zp))))))))
variable (xf4:Got P w K mg base 1 "side_of" ["one","other","spot"] (upF K Dp.zdL))
theorem zjX:zP ["ground","one","other","k"] ["ground","one","other"] (zK zie):=zU
include xai xbk xf4 in
theorem zn4 (F:Fun K "hinder" "hinder" zie f fd):zX P w K mg base (CXd P w) 7 f fd ["ground","one","other"] (zbT K Dp.zer):=by
  refine zck (b:=Dp.zge) F zjX Dp.zmX Dp.zoD (fun cdv A outer s H E hr _ ex hX hM=>?_)
  unfold Dp.zge
  exact (zu (zae (zaw xai hX hr (by decide) rfl (zc (zm 0) (zc (zm 1) zq))))
 (zu (zae (zaw xai hX hr (by decide) rfl (zc (zm 0) (zc (zm 2) zq))))
 (zu (zaL PassesOwn.leaving rfl (zaH (zF xbk hr (by decide) rfl (zc (zm 0) (zc (zB (zm 1) zp (fun _ _=>rfl)) (zc (zB (zm 2) zp (fun _ _=>rfl)) zq))))) (zac (i:=3) zjX.nd rfl (Or.inl rfl)) (zy (zT (zM zcR (zF xf4 hr (by decide) rfl (zc (zm 1) (zc (zm 2) (zc (zB (zan (zm 0) rfl) (zm 3) (fun _ _=>rfl)) zq)))) zp) (zy (zL (zm 3))) zQ)))
 (zy (zL zbP)))))
variable (xgv:zeU P w K mg base 7 "hinder" ["ground","one","other"] (zbT K Dp.zer))
theorem zcX:zP ["one","other","run","climb"] ["one","other"] (zK zdq):=zU
theorem zhU (F:Fun K "square_between" "square_between" zdq f fd):zX P w K mg base CX0 1 f fd ["one","other"] (upF K Dp.zbs):=by
  refine zV (b:=Dp.zca) F zcX Dp.zgL Dp.zhY (fun cdv A outer s H E hr=>?_)
  unfold Dp.zca
  exact (zu (zG (i:=2) zcX.nd rfl (Or.inl rfl) (z9 (zB (zm 1) zp (fun _ _=>rfl)) (zB (zm 0) zp (fun _ _=>rfl))))
 (zu (zG (i:=3) zcX.nd rfl (Or.inl rfl) (z9 (zB (zm 1) zp (fun _ _=>rfl)) (zB (zm 0) zp (fun _ _=>rfl))))
 (zy (zL (zY (zaj (zm 2) (zm 2)) (zaj (zm 3) (zm 3)))))))
variable (xbv:Got P w K mg base 1 "square_between" ["one","other"] (upF K Dp.zbs))
theorem zdu:zP ["valley","one","other","corner","square"] ["valley","one","other"] (zK zdP):=zU
include xgv xbv in
theorem ziE (F:Fun K "hidden_always" "hidden_always" zdP f fd):zX P w K mg base CX0 8 f fd ["valley","one","other"] (upF K Dp.za5):=by
  refine zV (b:=Dp.zct) F zdu Dp.zhX Dp.zia (fun cdv A outer s H E hr=>?_)
  unfold Dp.zct
  exact (zu (zG (i:=3) zdu.nd rfl (Or.inl rfl) (zaw xgv zko hr (by decide) rfl (zc (zan (zm 0) rfl) (zc (zm 1) (zc (zm 2) zq)))))
 (zu (zT (zM zfD (zm 3) zbP) (zy (zL (zag (zc zbQ (zc (zm 3) zq))))) zQ)
 (zu (zG (i:=4) zdu.nd rfl (Or.inl rfl) (zF xbv hr (by decide) rfl (zc (zm 1) (zc (zm 2) zq))))
 (zu (zT (zbg (zcp (zM zfD (zan (zm 0) rfl) zbP) (zcd (zM zcR (zm 4) (zan (zm 0) rfl))))) (zy (zL (zag (zc zbQ (zc (zm 4) zq))))) zQ)
 (zy (zL zbP))))))
variable (xaj:Got P w K mg base 8 "hidden_always" ["valley","one","other"] (upF K Dp.za5))
variable (xhk:∃ t,mg "DRIFT"=some (.int 6 t))
variable (xij:∃ t,mg "RISE"=some (.int 7 t))
theorem zit:zP ["fog","hours","along","upwards"] ["fog","hours"] (zK zjM):=zU
include xb7 xay xda xb8 xhk xij in
theorem zql (F:Fun K "moved" "moved" zjM f fd):zX P w K mg base CX0 1 f fd ["fog","hours"] (upF K Dp.zdm):=by
  refine zV (b:=Dp.zhC) F zit Dp.zot Dp.zpq (fun cdv A outer s H E hr=>?_)
  unfold Dp.zhC
  exact (zu (zG (i:=2) zit.nd rfl (Or.inl rfl) (zaj (zB (zm 0) (zaa rfl xhk) (fun _ _=>rfl)) (zm 1)))
 (zu (zG (i:=3) zit.nd rfl (Or.inl rfl) (zaj (zB (zm 0) (zaa rfl xij) (fun _ _=>rfl)) (zm 1)))
 (zy (zL (zag (zc (zY (zB (zm 0) (zaa rfl xb7) (fun _ _=>rfl)) (zm 2)) (zc (zY (zB (zm 0) (zaa rfl xay) (fun _ _=>rfl)) (zm 2)) (zc (zY (zB (zm 0) (zaa rfl xda) (fun _ _=>rfl)) (zm 3)) (zc (zY (zB (zm 0) (zaa rfl xb8) (fun _ _=>rfl)) (zm 3)) zq)))))))))
variable (xds:Got P w K mg base 1 "moved" ["fog","hours"] (upF K Dp.zdm))
theorem zdH:zP ["box","one","other","run","climb","corners","across"] ["box","one","other"] (zK zhq):=zU
include xb7 xay xda xb8 xaw xax in
theorem znG (F:Fun K "margins" "margins" zhq f fd):zX P w K mg base CX0 1 f fd ["box","one","other"] (upF K Dp.zcj):=by
  refine zV (b:=Dp.zfa) F zdH Dp.zlS Dp.zm3 (fun cdv A outer s H E hr=>?_)
  unfold Dp.zfa
  exact (zu (zG (i:=3) zdH.nd rfl (Or.inr rfl) (z9 (zB (zm 2) zp (fun _ _=>rfl)) (zB (zm 1) zp (fun _ _=>rfl))))
 (zu (zG (i:=4) zdH.nd rfl (Or.inr rfl) (z9 (zB (zm 2) zp (fun _ _=>rfl)) (zB (zm 1) zp (fun _ _=>rfl))))
 (zu (zG (i:=5) zdH.nd rfl (Or.inl rfl) (zat (zc (zag (zc (zB (zm 0) (zaa rfl xb7) (fun _ _=>rfl)) (zc (zB (zm 0) (zaa rfl xda) (fun _ _=>rfl)) zq))) (zc (zag (zc (zB (zm 0) (zaa rfl xb7) (fun _ _=>rfl)) (zc (zB (zm 0) (zaa rfl xb8) (fun _ _=>rfl)) zq))) (zc (zag (zc (zB (zm 0) (zaa rfl xay) (fun _ _=>rfl)) (zc (zB (zm 0) (zaa rfl xda) (fun _ _=>rfl)) zq))) (zc (zag (zc (zB (zm 0) (zaa rfl xay) (fun _ _=>rfl)) (zc (zB (zm 0) (zaa rfl xb8) (fun _ _=>rfl)) zq))) zq))))))
 (zu (ziC (i:=6) zdH.nd rfl rfl (own:=["x","z"]) (free:=["run","climb","one"]) (fv:=[3,4,1]) rfl rfl rfl (by decide +kernel) (by decide +kernel) ⟨rfl,rfl,rfl,True.intro⟩ ⟨rfl,rfl,rfl,rfl,rfl,rfl,rfl,rfl,rfl,True.intro⟩ (zaH (zm 5)) ⟨(zig (zcf (zak 0 (by decide)) (zcf (zak 1 (by decide)) zhb))),fun _ _ _ _ _=>(ziL (n:=2) rfl (zcI (zaE (i:=0) (show List.Nodup (["x","z","run","climb","one"]:List Str) by decide +kernel) rfl (Or.inl rfl) (Or.inr rfl)) (zcI (zaE (i:=1) (show List.Nodup (["x","z","run","climb","one"]:List Str) by decide +kernel) rfl (Or.inl rfl) (Or.inr rfl)) zhT)))⟩ (fun _ _ _ _ _=>zbJ) (fun _ _ _ _ _=>(z9 (zaj (zm 2) (z9 (zm 1) (zB (zm 4) zp (fun _ _=>rfl)))) (zaj (zm 3) (z9 (zm 0) (zB (zm 4) zp (fun _ _=>rfl)))))))
 (zy (zL (zat (zc (z9 (zai zeJ rfl xax boot_max (zc (zB (zm 1) zp (fun _ _=>rfl)) (zc (zB (zm 2) zp (fun _ _=>rfl)) zq))) (zB (zm 0) (zaa rfl xb7) (fun _ _=>rfl))) (zc (z9 (zB (zm 0) (zaa rfl xay) (fun _ _=>rfl)) (zai zfH rfl xaw boot_min (zc (zB (zm 1) zp (fun _ _=>rfl)) (zc (zB (zm 2) zp (fun _ _=>rfl)) zq)))) (zc (z9 (zai zeJ rfl xax boot_max (zc (zB (zm 1) zp (fun _ _=>rfl)) (zc (zB (zm 2) zp (fun _ _=>rfl)) zq))) (zB (zm 0) (zaa rfl xda) (fun _ _=>rfl))) (zc (z9 (zB (zm 0) (zaa rfl xb8) (fun _ _=>rfl)) (zai zfH rfl xaw boot_min (zc (zB (zm 1) zp (fun _ _=>rfl)) (zc (zB (zm 2) zp (fun _ _=>rfl)) zq)))) (zc (zai zrq rfl xax boot_max (zc (zm 6) zq)) (zc (zbL (zai zma rfl xaw boot_min (zc (zm 6) zq))) zq)))))))))))))
variable (xbt:Got P w K mg base 1 "margins" ["box","one","other"] (upF K Dp.zcj))
variable (xgw:mg "sorted"=none)
theorem zhJ:zP ["pairs","found","low","high"] ["pairs"] (zK zlt):=zU
include xq xea xax xgw in
theorem zr5 (F:Fun K "tidy" "tidy" zlt f fd):zX P w K mg base CX0 1 f fd ["pairs"] (upF K Dp.zdC):=by
  refine zV (b:=Dp.zjb) F zhJ Dp.zpR Dp.zrk (fun cdv A outer s H E hr=>?_)
  unfold Dp.zjb
  exact (zu (zG (i:=1) zhJ.nd rfl (Or.inl rfl) (zat zq))
 (zu (zaL PassesOwn.never rfl (zaH (zai zrG rfl xgw boot_sorted (zc (zdi (own:=["pair"]) (free:=[]) (fv:=[]) rfl rfl rfl (by decide +kernel) (by decide +kernel) True.intro True.intro (zaH (zm 0)) ⟨(zak 0 (by decide)),fun _ _ _ _ _=>(zaE (i:=0) (show List.Nodup (["pair"]:List Str) by decide +kernel) rfl (Or.inl rfl) (Or.inr rfl))⟩ (fun _ _ _ _ _=>(zjp (zM zfm (zB (zm 0) zp (fun _ _=>rfl)) (zB (zm 0) zp (fun _ _=>rfl))))) (fun _ _ _ _ _=>(zag (zc (zB (zm 0) zp (fun _ _=>rfl)) (zc (zB (zm 0) zp (fun _ _=>rfl)) zq))))) zq))) (zd6 (n:=2) rfl (zap (zac (i:=2) zhJ.nd rfl (Or.inl rfl)) (zap (zac (i:=3) zhJ.nd rfl (Or.inl rfl)) zd2))) (zy (zT (zbg (zcp (zM zcR (zai zaI rfl xq boot_len (zc (zm 1) zq)) zp) (zcd (zM zfm (zm 2) (zY (zB (zB (zm 1) (zbL zp) (fun _ _=>rfl)) zp (fun _ _=>rfl)) zp))))) (zy (zhM (zag (zc (zB (zB (zm 1) (zbL zp) (fun _ _=>rfl)) zp (fun _ _=>rfl)) (zc (zai zeJ rfl xax boot_max (zc (zB (zB (zm 1) (zbL zp) (fun _ _=>rfl)) zp (fun _ _=>rfl)) (zc (zm 3) zq))) zq))) (zjS (zm 1) (zbL zp)))) (zy (zae (zeu PySem.F.slot_list_append PySem.F.type_list_append zbl (zm 1) (zc (zag (zc (zm 2) (zc (zm 3) zq))) zq)))))))
 (zy (zL (zfZ zpy rfl xea boot_tuple (zc (zm 1) zq))))))
variable (xbs:Got P w K mg base 1 "tidy" ["pairs"] (upF K Dp.zdC))
variable (xjc:mg "zip"=none)
theorem zbR:zP ["fog","one","other","low","high","starts","afters","start","after","step"] ["fog","one","other"] (zK zjq):=zU
include xat xc7 xaw xax xds xbt xbs xjc in
theorem zpt (F:Fun K "foggy" "foggy" zjq f fd):zX P w K mg base CX0 2 f fd ["fog","one","other"] (upF K Dp.zeP):=by
  refine zV (b:=Dp.zhs) F zbR Dp.zoW Dp.zpK (fun cdv A outer s H E hr=>?_)
  unfold Dp.zhs
  exact (zu (zG (i:=3) zbR.nd rfl (Or.inl rfl) zp)
 (zu (zG (i:=4) zbR.nd rfl (Or.inl rfl) (z9 (zB (zm 0) (zaa rfl xc7) (fun _ _=>rfl)) (zB (zm 0) (zaa rfl xat) (fun _ _=>rfl))))
 (zu (zG (i:=5) zbR.nd rfl (Or.inl rfl) (zF xbt hr (by decide) rfl (zc (zF xds hr (by decide) rfl (zc (zm 0) (zc zp zq))) (zc (zm 1) (zc (zm 2) zq)))))
 (zu (zG (i:=6) zbR.nd rfl (Or.inl rfl) (zF xbt hr (by decide) rfl (zc (zF xds hr (by decide) rfl (zc (zm 0) (zc zp zq))) (zc (zm 1) (zc (zm 2) zq)))))
 (zu (zaL PassesOwn.never rfl (zuj rfl xjc (zc (zm 5) (zc (zm 6) zq))) (zd6 (n:=2) rfl (zap (zac (i:=7) zbR.nd rfl (Or.inl rfl)) (zap (zac (i:=8) zbR.nd rfl (Or.inl rfl)) zd2))) (zu (zG (i:=9) zbR.nd rfl (Or.inl rfl) (z9 (zm 8) (zm 7)))
 (zy (zT (zM zcR (zm 9) zp) (zy (zG (i:=3) zbR.nd rfl (Or.inl rfl) (zai zeJ rfl xax boot_max (zc (zm 3) (zc (zbL (zc3 (zm 7) (zm 9))) zq))))) (zy (zT (zM zbn (zm 9) zp) (zy (zG (i:=4) zbR.nd rfl (Or.inl rfl) (zai zfH rfl xaw boot_min (zc (zm 4) (zc (zc3 (zm 7) (zbL (zm 9))) zq))))) (zy (zT (zM zbn (zm 7) zp) (zy (zL (zag zq))) zQ))))))))
 (zy (zL (zF xbs hr (by decide) rfl (zc (zat (zc (zag (zc (zY (zB (zm 0) (zaa rfl xat) (fun _ _=>rfl)) (zm 3)) (zc (zY (zB (zm 0) (zaa rfl xat) (fun _ _=>rfl)) (zm 4)) zq))) zq)) zq)))))))))
variable (xhn:Got P w K mg base 2 "foggy" ["fog","one","other"] (upF K Dp.zeP))
theorem zeR:zP ["fogs","one","other","found","fog"] ["fogs","one","other"] (zK zfu):=zU
include xbs xhn in
theorem zly (F:Fun K "foggy_all" "foggy_all" zfu f fd):zX P w K mg base CX0 3 f fd ["fogs","one","other"] (upF K Dp.zcA):=by
  refine zV (b:=Dp.zd8) F zeR Dp.zkd Dp.zlh (fun cdv A outer s H E hr=>?_)
  unfold Dp.zd8
  exact (zu (zG (i:=3) zeR.nd rfl (Or.inl rfl) (zat zq))
 (zu (zaL PassesOwn.never rfl (zaH (zm 0)) (zac (i:=4) zeR.nd rfl (Or.inl rfl)) (zy (zae (zeu PySem.F.slot_list_extend PySem.F.type_list_extend zmF (zm 3) (zc (zF xhn hr (by decide) rfl (zc (zm 4) (zc (zm 1) (zc (zm 2) zq)))) zq)))))
 (zy (zL (zF xbs hr (by decide) rfl (zc (zm 3) zq))))))
variable (xez:Got P w K mg base 3 "foggy_all" ["fogs","one","other"] (upF K Dp.zcA))
theorem zfA:zP ["spans","low","high","found","start","span"] ["spans","low","high"] (zK zkP):=zU
include xbs in
theorem zsq (F:Fun K "gaps" "gaps" zkP f fd):zX P w K mg base CX0 2 f fd ["spans","low","high"] (upF K Dp.zfJ):=by
  refine zV (b:=Dp.zjf) F zfA Dp.zqe Dp.zr1 (fun cdv A outer s H E hr=>?_)
  unfold Dp.zjf
  exact (zu (zG (i:=3) zfA.nd rfl (Or.inl rfl) (zat zq))
 (zu (zG (i:=4) zfA.nd rfl (Or.inl rfl) (zm 1))
 (zu (zaL PassesOwn.never rfl (zaH (zm 0)) (zac (i:=5) zfA.nd rfl (Or.inl rfl)) (zu (zae (zeu PySem.F.slot_list_append PySem.F.type_list_append zbl (zm 3) (zc (zag (zc (zm 4) (zc (z9 (zB (zm 5) zp (fun _ _=>rfl)) zp) zq))) zq)))
 (zy (zG (i:=4) zfA.nd rfl (Or.inl rfl) (zY (zB (zm 5) zp (fun _ _=>rfl)) zp)))))
 (zu (zae (zeu PySem.F.slot_list_append PySem.F.type_list_append zbl (zm 3) (zc (zag (zc (zm 4) (zc (zm 2) zq))) zq)))
 (zy (zL (zF xbs hr (by decide) rfl (zc (zm 3) zq))))))))
variable (xic:Got P w K mg base 2 "gaps" ["spans","low","high"] (upF K Dp.zfJ))
theorem zeK:zP ["one","other","found","low","high","other_low","other_high"] ["one","other"] (zK zk1):=zU
include xaw xax xbs in
theorem zr9 (F:Fun K "both" "both" zk1 f fd):zX P w K mg base CX0 2 f fd ["one","other"] (upF K Dp.zfQ):=by
  refine zV (b:=Dp.zi1) F zeK Dp.zpm Dp.zsi (fun cdv A outer s H E hr=>?_)
  unfold Dp.zi1
  exact (zu (zG (i:=2) zeK.nd rfl (Or.inl rfl) (zat zq))
 (zu (zaL PassesOwn.never rfl (zaH (zm 0)) (zd6 (n:=2) rfl (zap (zac (i:=3) zeK.nd rfl (Or.inl rfl)) (zap (zac (i:=4) zeK.nd rfl (Or.inl rfl)) zd2))) (zy (zaL PassesOwn.never rfl (zaH (zm 1)) (zd6 (n:=2) rfl (zap (zac (i:=5) zeK.nd rfl (Or.inl rfl)) (zap (zac (i:=6) zeK.nd rfl (Or.inl rfl)) zd2))) (zy (zae (zeu PySem.F.slot_list_append PySem.F.type_list_append zbl (zm 2) (zc (zag (zc (zai zeJ rfl xax boot_max (zc (zm 3) (zc (zm 5) zq))) (zc (zai zfH rfl xaw boot_min (zc (zm 4) (zc (zm 6) zq))) zq))) zq)))))))
 (zy (zL (zF xbs hr (by decide) rfl (zc (zm 2) zq))))))
variable (xik:Got P w K mg base 2 "both" ["one","other"] (upF K Dp.zfQ))
theorem zmN:zP ["one","other"] ["one","other"] (zK zgO):=zU
include xq xic xik in
theorem znq (F:Fun K "without" "without" zgO f fd):zX P w K mg base CX0 3 f fd ["one","other"] (upF K Dp.zdU):=by
  refine zV (b:=Dp.zfi) F zmN Dp.zlE Dp.zmI (fun cdv A outer s H E hr=>?_)
  unfold Dp.zfi
  exact (zu (zT (zM (zcU hr) (zai zaI rfl xq boot_len (zc (zm 0) zq)) zp) (zy (zL (zag zq))) zQ)
 (zy (zL (zF xik hr (by decide) rfl (zc (zm 0) (zc (zF xic hr (by decide) rfl (zc (zm 1) (zc (zB (zB (zm 0) zp (fun _ _=>rfl)) zp (fun _ _=>rfl)) (zc (zB (zB (zm 0) (zbL zp) (fun _ _=>rfl)) zp (fun _ _=>rfl)) zq)))) zq))))))
variable (xgc:Got P w K mg base 3 "without" ["one","other"] (upF K Dp.zdU))
theorem zfY:zP ["valley","name","other","one_top","other_top","hours"] ["valley","name","other"] (zK zji):=zU
include xae xaj xez xgc in
theorem zqs (F:Fun K "sight" "sight" zji f fd):zX P w K mg base (CXd P w) 9 f fd ["valley","name","other"] (zbT K Dp.zdX):=by
  refine zck (b:=Dp.zhy) F zfY Dp.znN Dp.zpE (fun cdv A outer s H E hr _ ex hX hM=>?_)
  unfold Dp.zhy
  exact (zu (zG (i:=3) zfY.nd rfl (Or.inl rfl) (zaw xae hX hr (by decide) rfl (zc (zm 0) (zc (zm 1) zq))))
 (zu (zG (i:=4) zfY.nd rfl (Or.inl rfl) (zaw xae hX hr (by decide) rfl (zc (zm 0) (zc (zm 2) zq))))
 (zu (zG (i:=5) zfY.nd rfl (Or.inl rfl) (zag (zc (zag (zc (zan (zm 0) rfl) (zc (zan (zm 0) rfl) zq))) zq)))
 (zu (zT (zM (zcU hr) (zm 1) (zm 2)) (zy (zL (zm 5))) zQ)
 (zu (zT (zM zfD (zF xaj hr (by decide) rfl (zc (zm 0) (zc (zm 3) (zc (zm 4) zq)))) zbP) (zy (zL (zag zq))) zQ)
 (zy (zL (zF xgc hr (by decide) rfl (zc (zm 5) (zc (zF xez hr (by decide) rfl (zc (zan (zm 0) rfl) (zc (zm 3) (zc (zm 4) zq)))) zq))))))))))
variable (xgo:zeU P w K mg base 9 "sight" ["valley","name","other"] (zbT K Dp.zdX))
variable (xfn:∀ C,W.nsIn K mainGlobals "BadHour"=some (some (.ref C))->ExC K C)
variable (xfj:∃ C,W.nsIn K mainGlobals "BadHour"=some (some (.ref C))/\mg "BadHour"=some (.ref C))
theorem zhZ:zP ["valley","hour"] ["valley","hour"] (zK zdp):=zU
include xfn xfj in
theorem zhW (F:Fun K "refuse_no_hour" "refuse_no_hour" zdp f fd):zX P w K mg base (CXd P w) 1 f fd ["valley","hour"] (zbT K Dp.zaX):=by
 refine zck (b:=Dp.zci) F zhZ Dp.zhf Dp.zh0 (fun cdv A outer s H E hr _ ex hX hM=>?_)
 unfold Dp.zci
 exact (zy (zT (zbg (zdJ (zM zbn (zm 1) (zan (zm 0) rfl)) (zdF (zM zcR (zm 1) (zan (zm 0) rfl))))) (zy (zeq hM rfl xfn xfj rfl (zc zbQ zq) (fun _ _ _ h=>h _))) zQ))
variable (xah:zeU P w K mg base 1 "refuse_no_hour" ["valley","hour"] (zbT K Dp.zaX))
theorem zoq:zP ["fog","hour"] ["fog","hour"] (zK ziB):=zU
include xat xc7 xds in
theorem znT (F:Fun K "box_at" "box_at" ziB f fd):zX P w K mg base CX0 2 f fd ["fog","hour"] (upF K Dp.zep):=by
  refine zV (b:=Dp.zf0) F zoq Dp.zmY Dp.zo0 (fun cdv A outer s H E hr=>?_)
  unfold Dp.zf0
  exact (zu (zT (zbg (zdJ (zM zbn (zm 1) (zB (zm 0) (zaa rfl xat) (fun _ _=>rfl))) (zdF (zM zcR (zm 1) (zB (zm 0) (zaa rfl xc7) (fun _ _=>rfl)))))) (zy (zL zbP)) zQ)
 (zy (zL (zF xds hr (by decide) rfl (zc (zm 0) (zc (z9 (zm 1) (zB (zm 0) (zaa rfl xat) (fun _ _=>rfl))) zq))))))
variable (xg5:Got P w K mg base 2 "box_at" ["fog","hour"] (upF K Dp.zep))
theorem zqg:zP ["box","one","other"] ["box","one","other"] (zK zjn):=zU
include xaw xbt in
theorem zqp (F:Fun K "meets" "meets" zjn f fd):zX P w K mg base CX0 2 f fd ["box","one","other"] (upF K Dp.zeW):=by
 refine zV (b:=Dp.zhP) F zqg Dp.zou Dp.zqm (fun cdv A outer s H E hr=>?_)
 unfold Dp.zhP
 exact (zy (zL (zfE zuC (zai zma rfl xaw boot_min (zc (zF xbt hr (by decide) rfl (zc (zm 0) (zc (zm 1) (zc (zm 2) zq)))) zq)) zp)))
variable (xhr:Got P w K mg base 2 "meets" ["box","one","other"] (upF K Dp.zeW))
theorem zcC:zP ["valley","name","other","hour","one_top","other_top","found","k","fog","box"] ["valley","name","other","hour"] (zK ziz):=zU
include xae xbd xaj xah xg5 xhr in
theorem zoF (F:Fun K "hidden" "hidden" ziz f fd):zX P w K mg base (CXd P w) 9 f fd ["valley","name","other","hour"] (zbT K Dp.zcu):=by
  refine zck (b:=Dp.zgk) F zcC Dp.znA Dp.znO (fun cdv A outer s H E hr _ ex hX hM=>?_)
  unfold Dp.zgk
  exact (zu (zG (i:=4) zcC.nd rfl (Or.inl rfl) (zaw xae hX hr (by decide) rfl (zc (zm 0) (zc (zm 1) zq))))
 (zu (zG (i:=5) zcC.nd rfl (Or.inl rfl) (zaw xae hX hr (by decide) rfl (zc (zm 0) (zc (zm 2) zq))))
 (zu (zae (zaw xah hX hr (by decide) rfl (zc (zm 0) (zc (zm 3) zq))))
 (zu (zT (zM (zcU hr) (zm 1) (zm 2)) (zy (zL zbP)) zQ)
 (zu (zG (i:=6) zcC.nd rfl (Or.inl rfl) (zF xaj hr (by decide) rfl (zc (zm 0) (zc (zm 4) (zc (zm 5) zq)))))
 (zu (zT (zM zfD (zm 6) zbP) (zy (zL (zm 6))) zQ)
 (zu (zaL PassesOwn.leaving rfl (zhm rfl xbd (zc (zan (zm 0) rfl) zq)) (zd6 (n:=2) rfl (zap (zac (i:=7) zcC.nd rfl (Or.inl rfl)) (zap (zac (i:=8) zcC.nd rfl (Or.inl rfl)) zd2))) (zu (zG (i:=9) zcC.nd rfl (Or.inl rfl) (zF xg5 hr (by decide) rfl (zc (zm 8) (zc (zm 3) zq))))
 (zy (zT (zbg (zcp (zM zfD (zm 9) zbP) (zcd (zbq (zF xhr hr (by decide) rfl (zc (zm 9) (zc (zm 4) (zc (zm 5) zq)))))))) (zy (zL (zag (zc zbQ (zc (zm 7) zq))))) zQ))))
 (zy (zL zbP)))))))))
variable (xcr:zeU P w K mg base 9 "hidden" ["valley","name","other","hour"] (zbT K Dp.zcu))
theorem zgu:zP ["valley","name"] ["valley","name"] (zK zcG):=zU
include xag xbc xbb in
theorem zgw (F:Fun K "refuse_no_beacon" "refuse_no_beacon" zcG f fd):zX P w K mg base (CXd P w) 2 f fd ["valley","name"] (zbT K Dp.zaZ):=by
 refine zck (b:=Dp.zbN) F zgu Dp.zgi Dp.zgy (fun cdv A outer s H E hr _ ex hX hM=>?_)
 unfold Dp.zbN
 exact (zy (zT (zfP (zgs hr) (zm 1) (zF xag hr (by decide) rfl (zc (zm 0) zq))) (zy (zeq hM rfl xbc xbb rfl (zc zbQ zq) (fun _ _ _ h=>h _))) zQ))
variable (xaz:zeU P w K mg base 2 "refuse_no_beacon" ["valley","name"] (zbT K Dp.zaZ))
theorem zbd:zP ["valley","hour","name","barred","found","k","other"] ["valley","hour","name","barred"] (zK zcV):=zU
include xq xag xcr in
theorem zhl (F:Fun K "company_without" "company_without" zcV f fd):zX P w K mg base CX0 10 f fd ["valley","hour","name","barred"] (upF K Dp.zbi):=by
  refine zV (b:=Dp.zbX) F zbd Dp.zgC Dp.zha (fun cdv A outer s H E hr=>?_)
  unfold Dp.zbX
  exact (zu (zG (i:=4) zbd.nd rfl (Or.inr rfl) (zat (zc (zm 2) zq)))
 (zu (zG (i:=5) zbd.nd rfl (Or.inl rfl) zp)
 (zu (zgR PassesOwn.never (zM zbn (zm 5) (zai zaI rfl xq boot_len (zc (zm 4) zq))) (zu (zaL PassesOwn.never rfl (zaH (zF xag hr (by decide) rfl (zc (zm 0) zq))) (zac (i:=6) zbd.nd rfl (Or.inl rfl)) (zy (zT (zbg (zcp (zfP (zgs hr) (zm 6) (zm 4)) (zcp (zfP (zgs hr) (zm 6) (zm 3)) (zcd (zM zuU (zaw xcr zko hr (by decide) rfl (zc (zm 0) (zc (zB (zm 4) (zm 5) (fun _ _=>rfl)) (zc (zm 6) (zc (zm 1) zq))))) zbP))))) (zy (zae (zeu PySem.F.slot_list_append PySem.F.type_list_append zbl (zm 4) (zc (zm 6) zq)))) zQ)))
 (zy (zmp (i:=5) zbd.nd rfl (Or.inl rfl) zp))))
 (zy (zL (zdi (own:=["each"]) (free:=["found"]) (fv:=[4]) rfl rfl rfl (by decide +kernel) (by decide +kernel) ⟨rfl,True.intro⟩ ⟨rfl,rfl,rfl,True.intro⟩ (zaH (zF xag hr (by decide) rfl (zc (zm 0) zq))) ⟨(zak 0 (by decide)),fun _ _ _ _ _=>(zaE (i:=0) (show List.Nodup (["each","found"]:List Str) by decide +kernel) rfl (Or.inl rfl) (Or.inr rfl))⟩ (fun _ _ _ _ _=>(zjp (zfP (zqU hr) (zm 0) (zm 1)))) (fun _ _ _ _ _=>(zm 0))))))))
variable (xbm:Got P w K mg base 10 "company_without" ["valley","hour","name","barred"] (upF K Dp.zbi))
theorem znn:zP ["valley","hour","name"] ["valley","hour","name"] (zK zhe):=zU
include xah xaz xbm in
theorem zm5 (F:Fun K "company" "company" zhe f fd):zX P w K mg base (CXd P w) 11 f fd ["valley","hour","name"] (zbT K Dp.zdK):=by
  refine zck (b:=Dp.zfd) F znn Dp.zlP Dp.zmy (fun cdv A outer s H E hr _ ex hX hM=>?_)
  unfold Dp.zfd
  exact (zu (zae (zaw xaz hX hr (by decide) rfl (zc (zm 0) (zc (zm 2) zq))))
 (zu (zae (zaw xah hX hr (by decide) rfl (zc (zm 0) (zc (zm 1) zq))))
 (zy (zL (zF xbm hr (by decide) rfl (zc (zm 0) (zc (zm 1) (zc (zm 2) (zc (zat zq) zq)))))))))
variable (xf3:zeU P w K mg base 11 "company" ["valley","hour","name"] (zbT K Dp.zdK))
variable (xdz:∃ Cc,mg "ValeError"=some (.ref Cc)/\∀ c C,(["BadGround","OffGround","BadFog","BadName","Twice","TooMany","BadHour","NoBeacon"]:List Str).contains c=true->W.nsIn K mainGlobals c=some (some (.ref C))->W.exmOne K (.ref C) (.ref Cc)=some true)
variable (xe4:∃ Cc,mg "NoBeacon"=some (.ref Cc)/\∀ c b C,([("BadGround",false),("OffGround",false),("BadFog",false),("BadName",false),("Twice",false),("TooMany",false),("BadHour",false),("NoBeacon",true)]:List (Str×Bool)).lookup c=some b->W.nsIn K mainGlobals c=some (some (.ref C))->IsC K C/\W.kitOne K (.ref C) (.ref Cc)=some b)
variable (xdh:mg "ValueError"=none/\∀ c b C,([("BadGround",true),("OffGround",true),("BadFog",true),("BadName",true),("Twice",true),("TooMany",true),("BadHour",true),("NoBeacon",true)]:List (Str×Bool)).lookup c=some b->W.nsIn K mainGlobals c=some (some (.ref C))->IsC K C/\W.kitOne K (.ref C) (.type "ValueError")=some b)
variable (xfk:∃ Cc,mg "BadHour"=some (.ref Cc)/\∀ c b C,([("BadGround",false),("OffGround",false),("BadFog",false),("BadName",false),("Twice",false),("TooMany",false),("BadHour",true),("NoBeacon",false)]:List (Str×Bool)).lookup c=some b->W.nsIn K mainGlobals c=some (some (.ref C))->IsC K C/\W.kitOne K (.ref C) (.ref Cc)=some b)
theorem zcL:zP ["deed","valley","name","other","told","e"] ["deed","valley","name","other"] (zK zex):=zU
include xu xae xgo xcr xf3 xdz xe4 xdh xfk in
theorem zjU (F:Fun K "_law_refused" "_law_refused" zex f fd):zX P w K mg base CX0 12 f fd ["deed","valley","name","other"] (upF K Dp.zb2):=by
  refine zV (b:=Dp.zde) F zcL Dp.zi6 Dp.zjo (fun cdv A outer s H E hr=>?_)
  unfold Dp.zde
  exact (zu (zG (i:=4) zcL.nd rfl (Or.inl rfl) (zat zq))
 (zu (zrV (i:=5) rfl rfl zcL.nd rfl rfl rfl xdz (fun _ _ ex hX=>(zy (zT (zM (zcU hr) (zm 0) zp) (zy (zae (zaw xae hX hr (by decide) rfl (zc (zm 1) (zc (zm 2) zq))))) (zy (zT (zM (zcU hr) (zm 0) zp) (zy (zae (zaw xgo hX hr (by decide) rfl (zc (zm 1) (zc (zm 3) (zc (zm 2) zq)))))) (zy (zT (zM (zcU hr) (zm 0) zp) (zy (zae (zaw xgo hX hr (by decide) rfl (zc (zm 1) (zc (zm 2) (zc (zm 3) zq)))))) (zy (zT (zM (zcU hr) (zm 0) zp) (zy (zae (zaw xcr hX hr (by decide) rfl (zc (zm 1) (zc (zm 3) (zc (zm 2) (zc (zY (zan (zm 1) rfl) zp) zq))))))) (zy (zT (zM (zcU hr) (zm 0) zp) (zy (zae (zaw xcr hX hr (by decide) rfl (zc (zm 1) (zc (zm 2) (zc (zm 3) (zc (z9 (zan (zm 1) rfl) zp) zq))))))) (zy (zae (zaw xf3 hX hr (by decide) rfl (zc (zm 1) (zc (zY (zan (zm 1) rfl) zp) (zc (zm 2) zq))))))))))))))))) (fun _=>(zy (zG (i:=4) zcL.nd rfl (Or.inl rfl) (zat (zc (zl0 rfl xu (zi3 (pv 5)) rfl xe4) (zc (zrP rfl xu (zi3 (pv 5)) rfl xdh (by decide +kernel)) (zc (zl0 rfl xu (zi3 (pv 5)) rfl xfk) zq))))))))
 (zy (zL (zm 4)))))
variable (xdi:Got P w K mg base 12 "_law_refused" ["deed","valley","name","other"] (upF K Dp.zb2))
theorem za3:zP ["script","vale","corners","beacons","mists","haze","first","last","delay","lists","valley","names","told","name","x","z","other","deed"] ["script"] (zK zeD):=zU
include xaa xfm xa0 xdk xu xgz xag xae xdi in
theorem ztY (F:Fun K "law" "law" zeD f fd):zX P w K mg base CX0 13 f fd ["script"] (upF K Dp.ze2):=by
  refine zV (b:=Dp.zkp) F za3 Dp.zrI Dp.zuu (fun cdv A outer s H E hr=>?_)
  unfold Dp.zkp
  exact (zu (zG (i:=1) za3.nd rfl (Or.inl rfl) (zF xfm hr (by decide) rfl (zc (zm 0) (zc zp (zc zp (zc zp zq))))))
 (zu (zhM (zm 1) (zd6 (n:=7) rfl (zap (zac (i:=2) za3.nd rfl (Or.inl rfl)) (zap (zac (i:=3) za3.nd rfl (Or.inl rfl)) (zap (zac (i:=4) za3.nd rfl (Or.inl rfl)) (zap (zac (i:=5) za3.nd rfl (Or.inl rfl)) (zap (zac (i:=6) za3.nd rfl (Or.inl rfl)) (zap (zac (i:=7) za3.nd rfl (Or.inl rfl)) (zap (zac (i:=8) za3.nd rfl (Or.inl rfl)) zd2)))))))))
 (zu (zG (i:=9) za3.nd rfl (Or.inl rfl) (zat (zc (zfZ zeM rfl xa0 boot_list (zc (zm 3) zq)) (zc (zfZ zeM rfl xa0 boot_list (zc (zm 4) zq)) zq))))
 (zu (zG (i:=10) za3.nd rfl (Or.inl rfl) (zkJ xgz hr (by decide) rfl (zc (zkJ xdk hr (by decide) rfl (zc (zfZ zeM rfl xa0 boot_list (zc (zm 2) zq)) zq)) (zc (zB (zm 9) zp (fun _ _=>rfl)) (zc (zB (zm 9) zp (fun _ _=>rfl)) (zc (zm 5) (zc (zm 6) (zc (zm 7) (zc (zm 8) zq)))))))))
 (zu (zhM (zag (zc (zB (zB (zB (zm 9) zp (fun _ _=>rfl)) zp (fun _ _=>rfl)) zp (fun _ _=>rfl)) (zc (zB (zB (zB (zm 9) zp (fun _ _=>rfl)) zp (fun _ _=>rfl)) zp (fun _ _=>rfl)) (zc (zY (zB (zB (zB (zm 9) zp (fun _ _=>rfl)) zp (fun _ _=>rfl)) zp (fun _ _=>rfl)) zp) zq)))) (zjS (zB (zm 9) zp (fun _ _=>rfl)) zp))
 (zu (zae (zeu PySem.F.slot_list_append PySem.F.type_list_append zbl (zB (zm 9) zp (fun _ _=>rfl)) (zc (zag (zc zbQ (zc (zB (zB (zm 2) zp (fun _ _=>rfl)) zp (fun _ _=>rfl)) (zc (zB (zB (zm 2) zp (fun _ _=>rfl)) zp (fun _ _=>rfl)) zq)))) zq)))
 (zu (zae (zeu PySem.F.slot_list_append PySem.F.type_list_append zbl (zB (zm 9) zp (fun _ _=>rfl)) (zc (zag (zc zp (zc zp (zc zp (zc zp (zc (zm 6) (zc (zm 7) (zc zp (zc zp zq))))))))) zq)))
 (zu (ziC (i:=11) za3.nd rfl rfl (own:=["beacon"]) (free:=[]) (fv:=[]) rfl rfl rfl (by decide +kernel) (by decide +kernel) True.intro True.intro (zaH (zm 3)) ⟨(zak 0 (by decide)),fun _ _ _ _ _=>(zaE (i:=0) (show List.Nodup (["beacon"]:List Str) by decide +kernel) rfl (Or.inl rfl) (Or.inr rfl))⟩ (fun _ _ _ _ _=>zbJ) (fun _ _ _ _ _=>(zB (zm 0) zp (fun _ _=>rfl))))
 (zu (zT (zbg (zdJ (zM (zeg hr) (zan (zm 10) rfl) (zm 3)) (zdJ (zM (zeg hr) (zan (zm 10) rfl) (zm 4)) (zdF (zM (zeg hr) (zan (zan (zm 10) rfl) rfl) (zm 2)))))) (zy (zL zcr)) zQ)
 (zu (zT (zM (zeg hr) (zat (zc (zan (zm 10) rfl) (zc (zan (zm 10) rfl) (zc (zan (zm 10) rfl) (zc (zan (zm 10) rfl) zq))))) (zat (zc (zm 5) (zc (zm 6) (zc (zm 7) (zc (zm 8) zq)))))) (zy (zL zcr)) zQ)
 (zu (zG (i:=12) za3.nd rfl (Or.inl rfl) (zF xag hr (by decide) rfl (zc (zm 10) zq)))
 (zu (zT (zbg (zdJ (zcT (zbq (zai zjg rfl xu boot_isinstance (zc (zm 12) (zc (zkr rfl xa0 boot_list) zq))))) (zdF (zM (zeg hr) (zm 12) (zm 11))))) (zy (zL zcr)) zQ)
 (zu (zae (zvM PySem.F.slot_list_reverse PySem.F.type_list_reverse zmJ (zm 12)))
 (zu (zae (zeu PySem.F.slot_list_append PySem.F.type_list_append zbl (zm 12) (zc zbQ zq)))
 (zu (zT (zM (zeg hr) (zF xag hr (by decide) rfl (zc (zm 10) zq)) (zm 11)) (zy (zL zcr)) zQ)
 (zu (zaL PassesOwn.never rfl (zaH (zm 3)) (zd6 (n:=3) rfl (zap (zac (i:=13) za3.nd rfl (Or.inl rfl)) (zap (zac (i:=14) za3.nd rfl (Or.inl rfl)) (zap (zac (i:=15) za3.nd rfl (Or.inl rfl)) zd2)))) (zu (zT (zM (zeg hr) (zaw xae zko hr (by decide) rfl (zc (zm 10) (zc (zm 13) zq))) (zag (zc (zm 14) (zc (zm 15) zq)))) (zy (zL zcr)) zQ)
 (zy (zaL PassesOwn.never rfl (zaH (zat (zc (zqE (zm 13) zsm (zjP (zbL zp))) (zc (zY (zm 13) zbQ) (zc zbQ (zc zbQ zq)))))) (zac (i:=16) za3.nd rfl (Or.inl rfl)) (zy (zaL PassesOwn.never rfl (zeO rfl xaa (zc zp zq)) (zac (i:=17) za3.nd rfl (Or.inl rfl)) (zy (zT (zbg (zcp (zfP (zgs hr) (zm 16) (zm 11)) (zcd (zM (zeg hr) (zF xdi hr (by decide) rfl (zc (zm 17) (zc (zm 10) (zc (zm 16) (zc (zm 13) zq))))) (zat (zc zcr (zc zcr (zc zcr zq)))))))) (zy (zL zcr)) zQ))))))))
 (zy (zL zcr))))))))))))))))))
end
theorem all_mk {l:W.OpenLaw}{w:World}{K:W.Frag}{h:Heap}{mg:Str->Option Value}{fa:Addr}(X:K.In h)(G:h.Ns mainGlobals mg)(hfa:mg "law"=some (.ref fa))
  {xlj xkq xkz xjb xjl xjx xjg xi6 xkp xkc xg3 xg7 xk9 xhh xl7 xly xh7 xj2 xju xjr xlb xhx xka xlf xhv xhc xkh xk3 xgm xhz xkw xln xh2 xie xl3 xk0 xl6 xl5 xjv xmc f_both xky xlw xh0 xlg xl1 xla xhd xht xks xi7:Addr}{xlp xk5 xk7 xja xjn xjw xjj xi9 xkt xj9 xgu xg2 xk6 xhf xmf xlx xh1 xj3 xjy xjs xli xhu xkl xlh xhs xhb xkk xkv xgp xhw xkr xld xh6 xid xl2 xk1 xl8 xlr xjt xmg xma xk4 xlv xh3 xll xl4 xlq xhe xhy xkn xi8:FuncData}
  {xin xit:Option Addr} {xir:Array (Option Value)} {xix xio xi3 xip xgr xiq:Value} {xdb:Addr} {xaf:Addr}
  {xi4 xi1:Option Addr} {xiu:Array (Option Value)} {xiv xis xi2 xiz xgn xil:Value} {xdj:Addr} {xr:Addr}
  {xme xko:Option Addr} {xmb:Array (Option Value)} {xl9 xku xk2 xkx xjp xk8:Value} {xki:Addr}
  {xam:Addr}
  {xca:Addr}
  {xa8:Addr}
  {xes:Addr}
  {xdq:Addr}
  {xft:Addr}
  {xdr:Addr}
  {xad:Addr}
  {xab:Addr}
  {xh5:Tok} {xh8:Tok} {xih:Tok} {xji:Tok} {xh9:Tok} {xke:Tok} {xkd:Tok} {xlz:Tok} {xlm:Tok} {xmd:Tok} {xl0:Tok} {xlk:Tok} {xlu:Tok} {xlc:Tok} {xls:Tok}
  (xg1:FH K "_law_at" zic xlj xlp)
  (xgb:FH K "_law_mix" zg0 xkq xk5)
  (xf7:FH K "_law_far" zhh xkz xk7)
  (xde:FH K "_law_corners" zeA xjb xja)
  (xdu:FH K "_law_folded" ze1 xjl xjn)
  (xe5:FH K "_law_names" zfq xjx xjw)
  (xdx:FH K "_law_height" zeY xjg xjj)
  (xdf:FH K "_law_beacons" zey xi6 xi9)
  (xgg:FH K "_law_fog" zgX xkp xkt)
  (xfi:FH K "_law_vale" zf1 xkc xj9)
  (xao:FH K "refuse_bad_corners" zcb xg3 xgu)
  (xb6:W.nsIn K mainGlobals "Ground"=some (some (.ref xaf))) (xfg:K.lookup xdb=some ⟨xix,xin,.func (W.fnOf "__init__" "Ground.__init__" (zbD zbK) (za4 zbK) (zK zbK) .none xio xi3 xip xit xgr xiq),xir⟩) (xfh:W.codeIn K xgr "Ground.__init__"=true) (xfb:W.keepIn K (.ref xdb)=true)
  (xeu:W.makesIn K xaf=true) (xet:W.findIn K (.ref xaf) "__init__"=some (some (.ref xdb))) (xei:W.isFn K (.ref xdb)=true) (xd1:W.keepIn K (.ref xaf)=true) (xd9:W.plainGet K xaf Str.empty=true) (xeg:W.hasDictIn K xaf=true) (xev:W.plainOver K xaf=true) (xd5:W.findIn K (.ref xaf) "__setattr__"=some (some (.builtin "object.__setattr__"))) (xej:W.findIn K (.ref xaf) "corners"=some none)
  (xap:FH K "refuse_bad_numbers" zce xg7 xg2)
  (xga:FH K "is_name" zhd xk9 xk6)
  (xa4:FH K "refuse_bad_names" zcH xhh xhf)
  (xib:FH K "less" zkM xl7 xmf)
  (xhq:FH K "is_on" zjH xly xlx)
  (xbu:FH K "common_divisor" zdn xh7 xh1)
  (xfr:FH K "fraction" zfX xj2 xj3)
  (xew:FH K "height_on" zfs xju xjy)
  (xe2:FH K "ground_at" zfp xjr xjs)
  (xg6:FH K "stands" zio xlb xli)
  (xbg:FH K "refuse_bad_tops" zcZ xhx xhu)
  (xfl:FH K "is_whole" zgq xka xkl)
  (xgy:FH K "is_fog" zir xlf xlh)
  (xbl:FH K "refuse_bad_fogs" zc1 xhv xhs)
  (xa6:FH K "refuse_bad_hours" zcF xhc xhb)
  (xac:W.nsIn K mainGlobals "Valley"=some (some (.ref xr))) (xfd:K.lookup xdj=some ⟨xiv,xi4,.func (W.fnOf "__init__" "Valley.__init__" (zbD zbH) (za4 zbH) (zK zbH) .none xis xi2 xiz xi1 xgn xil),xiu⟩) (xfc:W.codeIn K xgn "Valley.__init__"=true) (xfe:W.keepIn K (.ref xdj)=true)
  (xd2:W.makesIn K xr=true) (xek:W.findIn K (.ref xr) "__init__"=some (some (.ref xdj))) (xd4:W.isFn K (.ref xdj)=true) (xed:W.keepIn K (.ref xr)=true) (xer:W.plainGet K xr Str.empty=true) (xd8:W.hasDictIn K xr=true) (xef:W.plainOver K xr=true) (xen:W.findIn K (.ref xr) "__setattr__"=some (some (.builtin "object.__setattr__"))) (xd3:W.findIn K (.ref xr) "ground"=some none) (xeb:W.findIn K (.ref xr) "beacons"=some none) (xeq:W.findIn K (.ref xr) "fogs"=some none) (xd7:W.findIn K (.ref xr) "haze"=some none) (xem:W.findIn K (.ref xr) "first"=some none) (xeh:W.findIn K (.ref xr) "last"=some none) (xeo:W.findIn K (.ref xr) "delay"=some none)
  (xfp:FH K "names_of" zgn xkh xkk)
  (xf6:FH K "spot_of" zhc xk3 xkv)
  (xan:FH K "refuse_not_standing" zb3 xgm xgp)
  (xbi:FH K "numbers_between" zcY xhz xhw)
  (xf9:FH K "side_of" zhk xkw xkr)
  (xgs:FH K "hinder" zie xln xld)
  (xbw:FH K "square_between" zdq xh2 xh6)
  (xcl:FH K "hidden_always" zdP xie xid)
  (xho:FH K "moved" zjM xl3 xl2)
  (xfy:FH K "margins" zhq xk0 xk1)
  (xig:FH K "tidy" zlt xl6 xl8)
  (xhp:FH K "foggy" zjq xl5 xlr)
  (xe3:FH K "foggy_all" zfu xjv xjt)
  (xii:FH K "gaps" zkP xmc xmg)
  (xif:FH K "both" zk1 f_both xma)
  (xf2:FH K "without" zgO xky xk4)
  (xhm:FH K "sight" zji xlw xlv)
  (xb5:FH K "refuse_no_hour" zdp xh0 xh3)
  (xgt:FH K "box_at" ziB xlg xll)
  (xhl:FH K "meets" zjn xl1 xl4)
  (xg4:FH K "hidden" ziz xla xlq)
  (xa3:FH K "refuse_no_beacon" zcG xhd xhe)
  (xbf:FH K "company_without" zcV xht xhy)
  (xge:FH K "company" zhe xks xkn)
  (xdd:FH K "_law_refused" zex xi7 xi8)
  (xj4:W.nsIn K mainGlobals "law"=some (some (.ref xki))) (xj0:K.lookup xki=some ⟨xl9,xme,.func (W.fnOf "law" "law" (zbD zeD) (za4 zeD) (zK zeD) .none xku xk2 xkx xko xjp xk8),xmb⟩) (xkg:W.codeIn K xjp "law"=true) (xj6:W.keepIn K (.ref xki)=true)
  (xgl:W.nsIn K mainGlobals "ValeError"=some (some (.ref xam))) (xb9:W.nsIn K mainGlobals "BadGround"=some (some (.ref xca))) (xc6:isIn K xca=true) (xal:W.nsIn K mainGlobals "OffGround"=some (some (.ref xa8))) (xgk:zk5 K xa8=true) (xc8:isIn K xa8=true) (xd6:W.nsIn K mainGlobals "BadFog"=some (some (.ref xes))) (xfu:isIn K xes=true) (xdo:W.nsIn K mainGlobals "BadName"=some (some (.ref xdq))) (xe9:isIn K xdq=true) (xfs:W.nsIn K mainGlobals "Twice"=some (some (.ref xft))) (xgq:isIn K xft=true) (xdp:W.nsIn K mainGlobals "TooMany"=some (some (.ref xdr))) (xe8:isIn K xdr=true) (xas:W.nsIn K mainGlobals "BadHour"=some (some (.ref xad))) (xhg:zk5 K xad=true) (xe7:isIn K xad=true) (xak:W.nsIn K mainGlobals "NoBeacon"=some (some (.ref xab))) (xg0:zk5 K xab=true) (xdw:isIn K xab=true) (xbp:W.exmOne K (.ref xca) (.ref xam)=some true) (xbz:W.kitOne K (.ref xca) (.ref xab)=some false) (xba:W.kitOne K (.ref xca) (.type "ValueError")=some true) (xcd:W.kitOne K (.ref xca) (.ref xad)=some false) (xbq:W.exmOne K (.ref xa8) (.ref xam)=some true) (xb2:W.kitOne K (.ref xa8) (.ref xab)=some false) (xa9:W.kitOne K (.ref xa8) (.type "ValueError")=some true) (xcc:W.kitOne K (.ref xa8) (.ref xad)=some false) (xcs:W.exmOne K (.ref xes) (.ref xam)=some true) (xc5:W.kitOne K (.ref xes) (.ref xab)=some false) (xce:W.kitOne K (.ref xes) (.type "ValueError")=some true) (xdm:W.kitOne K (.ref xes) (.ref xad)=some false) (xcb:W.exmOne K (.ref xdq) (.ref xam)=some true) (xcm:W.kitOne K (.ref xdq) (.ref xab)=some false) (xbx:W.kitOne K (.ref xdq) (.type "ValueError")=some true) (xc4:W.kitOne K (.ref xdq) (.ref xad)=some false) (xc3:W.exmOne K (.ref xft) (.ref xam)=some true) (xdn:W.kitOne K (.ref xft) (.ref xab)=some false) (xcq:W.kitOne K (.ref xft) (.type "ValueError")=some true) (xdt:W.kitOne K (.ref xft) (.ref xad)=some false) (xcf:W.exmOne K (.ref xdr) (.ref xam)=some true) (xcn:W.kitOne K (.ref xdr) (.ref xab)=some false) (xby:W.kitOne K (.ref xdr) (.type "ValueError")=some true) (xc1:W.kitOne K (.ref xdr) (.ref xad)=some false) (xcg:W.exmOne K (.ref xad) (.ref xam)=some true) (xco:W.kitOne K (.ref xad) (.ref xab)=some false) (xb1:W.kitOne K (.ref xad) (.type "ValueError")=some true) (xc2:W.kitOne K (.ref xad) (.ref xad)=some true) (xb0:W.exmOne K (.ref xab) (.ref xam)=some true) (xch:W.kitOne K (.ref xab) (.ref xab)=some true) (xbr:W.kitOne K (.ref xab) (.type "ValueError")=some true) (xcp:W.kitOne K (.ref xab) (.ref xad)=some false) (xfw:W.nsIn K mainGlobals "ValueError"=some none)
  (xjz:W.nsIn K mainGlobals "len"=some none) (xim:W.nsIn K mainGlobals "range"=some none) (xkm:W.nsIn K mainGlobals "abs"=some none) (xjk:W.nsIn K mainGlobals "list"=some none) (xj5:W.nsIn K mainGlobals "all"=some none) (xkf:W.nsIn K mainGlobals "set"=some none) (xkb:W.nsIn K mainGlobals "int"=some none) (xfx:W.nsIn K mainGlobals "isinstance"=some none) (xjh:W.nsIn K mainGlobals "bool"=some none) (xi0:W.nsIn K mainGlobals "tuple"=some none) (xj7:W.nsIn K mainGlobals "min"=some none) (xj8:W.nsIn K mainGlobals "max"=some none) (xgj:W.nsIn K mainGlobals "enumerate"=some none) (xh4:W.nsIn K mainGlobals "sorted"=some none) (xkj:W.nsIn K mainGlobals "zip"=some none)
  (xd0:W.nsIn K mainGlobals "LEAST_CORNERS"=some (some (.int 2 xh5))) (xel:W.nsIn K mainGlobals "MOST_CORNERS"=some (some (.int 40 xh8))) (xep:W.nsIn K mainGlobals "MOST_BEACONS"=some (some (.int 12 xih))) (xgi:W.nsIn K mainGlobals "MOST_FOGS"=some (some (.int 12 xji))) (xee:W.nsIn K mainGlobals "MOST_LETTERS"=some (some (.int 8 xh9))) (xha:W.nsIn K mainGlobals "LETTERS"=some (some (.str "abcdefghijklmnopqrstuvwxyz" xke))) (xhj:W.nsIn K mainGlobals "NUMBERS"=some (some (.int 8 xkd))) (xjm:W.nsIn K mainGlobals "LEFT"=some (some (.int 0 xlz))) (xiw:W.nsIn K mainGlobals "RIGHT"=some (some (.int 1 xlm))) (xj1:W.nsIn K mainGlobals "LOW"=some (some (.int 2 xmd))) (xjo:W.nsIn K mainGlobals "HIGH"=some (some (.int 3 xl0))) (xiy:W.nsIn K mainGlobals "FIRST"=some (some (.int 4 xlk))) (xjq:W.nsIn K mainGlobals "LAST"=some (some (.int 5 xlu))) (xi5:W.nsIn K mainGlobals "DRIFT"=some (some (.int 6 xlc))) (xjf:W.nsIn K mainGlobals "RISE"=some (some (.int 7 xls))) :
  ∃ fd:FuncData,(∀ (s:Shared) (v:Value),BindsTo s fd ⟨[v],[]⟩ [("script",v)])/\∀ base:Heap,K.In base->base.Ns mainGlobals mg->zX l.prog w K mg base CX0 13 fa fd ["script"] (upF K Dp.ze2):=by
 have e:=hfa.symm.trans (W.mg_of X G xj4)
 cases e
 have xbh:∀ C,W.nsIn K mainGlobals "Ground"=some (some (.ref C))->zau K C "corners":=fun C hC=>by
  rw [xb6] at hC;cases hC;exact xej
 have xg8:=ziX (st:=zbK) xfg xfh xfb
 have zbI:=xg8.binds (ps:=["self","corners"]) fun _ _ _ _ _ _ us hl=>by obtain⟨_,_,rfl⟩:=zmV hl;rfl
 have xb4:∀ C,W.nsIn K mainGlobals "Valley"=some (some (.ref C))->zau K C "ground":=fun C hC=>by
  rw [xac] at hC;cases hC;exact xd3
 have xbo:∀ C,W.nsIn K mainGlobals "Valley"=some (some (.ref C))->zau K C "beacons":=fun C hC=>by
  rw [xac] at hC;cases hC;exact xeb
 have xcx:∀ C,W.nsIn K mainGlobals "Valley"=some (some (.ref C))->zau K C "fogs":=fun C hC=>by
  rw [xac] at hC;cases hC;exact xeq
 have xcv:∀ C,W.nsIn K mainGlobals "Valley"=some (some (.ref C))->zau K C "haze":=fun C hC=>by
  rw [xac] at hC;cases hC;exact xd7
 have xci:∀ C,W.nsIn K mainGlobals "Valley"=some (some (.ref C))->zau K C "first":=fun C hC=>by
  rw [xac] at hC;cases hC;exact xem
 have xcz:∀ C,W.nsIn K mainGlobals "Valley"=some (some (.ref C))->zau K C "last":=fun C hC=>by
  rw [xac] at hC;cases hC;exact xeh
 have xcj:∀ C,W.nsIn K mainGlobals "Valley"=some (some (.ref C))->zau K C "delay":=fun C hC=>by
  rw [xac] at hC;cases hC;exact xeo
 have xg9:=ziX (st:=zbH) xfd xfc xfe
 have zbE:=xg9.binds (ps:=["self","ground","beacons","fogs","haze","first","last","delay"]) fun _ _ _ _ _ _ us hl=>by obtain⟨_,_,_,_,_,_,_,_,rfl⟩:=zvw hl;rfl
 have xmh:=ziX (st:=zeD) xj0 xkg xj6
 have xav:∀ C,W.nsIn K mainGlobals "OffGround"=some (some (.ref C))->ExC K C:=fun C h=>by
  rw [xal] at h;cases h;exact ExC.of xgk
 have xau:∃ C,W.nsIn K mainGlobals "OffGround"=some (some (.ref C))/\mg "OffGround"=some (.ref C):=⟨_,xal,W.mg_of X G xal⟩
 have xbc:∀ C,W.nsIn K mainGlobals "NoBeacon"=some (some (.ref C))->ExC K C:=fun C h=>by
  rw [xak] at h;cases h;exact ExC.of xg0
 have xbb:∃ C,W.nsIn K mainGlobals "NoBeacon"=some (some (.ref C))/\mg "NoBeacon"=some (.ref C):=⟨_,xak,W.mg_of X G xak⟩
 have xfn:∀ C,W.nsIn K mainGlobals "BadHour"=some (some (.ref C))->ExC K C:=fun C h=>by
  rw [xas] at h;cases h;exact ExC.of xhg
 have xfj:∃ C,W.nsIn K mainGlobals "BadHour"=some (some (.ref C))/\mg "BadHour"=some (.ref C):=⟨_,xas,W.mg_of X G xas⟩
 have xdz:∃ Cc,mg "ValeError"=some (.ref Cc)/\∀ c C,(["BadGround","OffGround","BadFog","BadName","Twice","TooMany","BadHour","NoBeacon"]:List Str).contains c=true->W.nsIn K mainGlobals c=some (some (.ref C))->W.exmOne K (.ref C) (.ref Cc)=some true:=by
  refine⟨_,W.mg_of X G xgl,fun c C h hn=>?_⟩
  rcases zb9 h with rfl | h
  ·rw [xb9] at hn;cases hn;exact xbp
  rcases zb9 h with rfl | h
  ·rw [xal] at hn;cases hn;exact xbq
  rcases zb9 h with rfl | h
  ·rw [xd6] at hn;cases hn;exact xcs
  rcases zb9 h with rfl | h
  ·rw [xdo] at hn;cases hn;exact xcb
  rcases zb9 h with rfl | h
  ·rw [xfs] at hn;cases hn;exact xc3
  rcases zb9 h with rfl | h
  ·rw [xdp] at hn;cases hn;exact xcf
  rcases zb9 h with rfl | h
  ·rw [xas] at hn;cases hn;exact xcg
  rcases zb9 h with rfl | h
  ·rw [xak] at hn;cases hn;exact xb0
  cases h
 have xe4:∃ Cc,mg "NoBeacon"=some (.ref Cc)/\∀ c b C,([("BadGround",false),("OffGround",false),("BadFog",false),("BadName",false),("Twice",false),("TooMany",false),("BadHour",false),("NoBeacon",true)]:List (Str×Bool)).lookup c=some b->W.nsIn K mainGlobals c=some (some (.ref C))->IsC K C/\W.kitOne K (.ref C) (.ref Cc)=some b:=by
  refine⟨_,W.mg_of X G xak,fun c b C h hn=>?_⟩
  rcases zam h with ⟨rfl,rfl⟩ | h
  ·rw [xb9] at hn;cases hn;exact⟨IsC.of xc6,xbz⟩
  rcases zam h with ⟨rfl,rfl⟩ | h
  ·rw [xal] at hn;cases hn;exact⟨IsC.of xc8,xb2⟩
  rcases zam h with ⟨rfl,rfl⟩ | h
  ·rw [xd6] at hn;cases hn;exact⟨IsC.of xfu,xc5⟩
  rcases zam h with ⟨rfl,rfl⟩ | h
  ·rw [xdo] at hn;cases hn;exact⟨IsC.of xe9,xcm⟩
  rcases zam h with ⟨rfl,rfl⟩ | h
  ·rw [xfs] at hn;cases hn;exact⟨IsC.of xgq,xdn⟩
  rcases zam h with ⟨rfl,rfl⟩ | h
  ·rw [xdp] at hn;cases hn;exact⟨IsC.of xe8,xcn⟩
  rcases zam h with ⟨rfl,rfl⟩ | h
  ·rw [xas] at hn;cases hn;exact⟨IsC.of xe7,xco⟩
  rcases zam h with ⟨rfl,rfl⟩ | h
  ·rw [xak] at hn;cases hn;exact⟨IsC.of xdw,xch⟩
  cases h
 have xdh:mg "ValueError"=none/\∀ c b C,([("BadGround",true),("OffGround",true),("BadFog",true),("BadName",true),("Twice",true),("TooMany",true),("BadHour",true),("NoBeacon",true)]:List (Str×Bool)).lookup c=some b->W.nsIn K mainGlobals c=some (some (.ref C))->IsC K C/\W.kitOne K (.ref C) (.type "ValueError")=some b:=by
  refine⟨W.mg_none_of X G xfw,fun c b C h hn=>?_⟩
  rcases zam h with ⟨rfl,rfl⟩ | h
  ·rw [xb9] at hn;cases hn;exact⟨IsC.of xc6,xba⟩
  rcases zam h with ⟨rfl,rfl⟩ | h
  ·rw [xal] at hn;cases hn;exact⟨IsC.of xc8,xa9⟩
  rcases zam h with ⟨rfl,rfl⟩ | h
  ·rw [xd6] at hn;cases hn;exact⟨IsC.of xfu,xce⟩
  rcases zam h with ⟨rfl,rfl⟩ | h
  ·rw [xdo] at hn;cases hn;exact⟨IsC.of xe9,xbx⟩
  rcases zam h with ⟨rfl,rfl⟩ | h
  ·rw [xfs] at hn;cases hn;exact⟨IsC.of xgq,xcq⟩
  rcases zam h with ⟨rfl,rfl⟩ | h
  ·rw [xdp] at hn;cases hn;exact⟨IsC.of xe8,xby⟩
  rcases zam h with ⟨rfl,rfl⟩ | h
  ·rw [xas] at hn;cases hn;exact⟨IsC.of xe7,xb1⟩
  rcases zam h with ⟨rfl,rfl⟩ | h
  ·rw [xak] at hn;cases hn;exact⟨IsC.of xdw,xbr⟩
  cases h
 have xfk:∃ Cc,mg "BadHour"=some (.ref Cc)/\∀ c b C,([("BadGround",false),("OffGround",false),("BadFog",false),("BadName",false),("Twice",false),("TooMany",false),("BadHour",true),("NoBeacon",false)]:List (Str×Bool)).lookup c=some b->W.nsIn K mainGlobals c=some (some (.ref C))->IsC K C/\W.kitOne K (.ref C) (.ref Cc)=some b:=by
  refine⟨_,W.mg_of X G xas,fun c b C h hn=>?_⟩
  rcases zam h with ⟨rfl,rfl⟩ | h
  ·rw [xb9] at hn;cases hn;exact⟨IsC.of xc6,xcd⟩
  rcases zam h with ⟨rfl,rfl⟩ | h
  ·rw [xal] at hn;cases hn;exact⟨IsC.of xc8,xcc⟩
  rcases zam h with ⟨rfl,rfl⟩ | h
  ·rw [xd6] at hn;cases hn;exact⟨IsC.of xfu,xdm⟩
  rcases zam h with ⟨rfl,rfl⟩ | h
  ·rw [xdo] at hn;cases hn;exact⟨IsC.of xe9,xc4⟩
  rcases zam h with ⟨rfl,rfl⟩ | h
  ·rw [xfs] at hn;cases hn;exact⟨IsC.of xgq,xdt⟩
  rcases zam h with ⟨rfl,rfl⟩ | h
  ·rw [xdp] at hn;cases hn;exact⟨IsC.of xe8,xc1⟩
  rcases zam h with ⟨rfl,rfl⟩ | h
  ·rw [xas] at hn;cases hn;exact⟨IsC.of xe7,xc2⟩
  rcases zam h with ⟨rfl,rfl⟩ | h
  ·rw [xak] at hn;cases hn;exact⟨IsC.of xdw,xcp⟩
  cases h
 have xq:=W.mg_none_of X G xjz
 have xaa:=W.mg_none_of X G xim
 have xgf:=W.mg_none_of X G xkm
 have xa0:=W.mg_none_of X G xjk
 have xbe:=W.mg_none_of X G xj5
 have xjd:=W.mg_none_of X G xkf
 have xje:=W.mg_none_of X G xkb
 have xu:=W.mg_none_of X G xfx
 have xia:=W.mg_none_of X G xjh
 have xea:=W.mg_none_of X G xi0
 have xaw:=W.mg_none_of X G xj7
 have xax:=W.mg_none_of X G xj8
 have xbd:=W.mg_none_of X G xgj
 have xgw:=W.mg_none_of X G xh4
 have xjc:=W.mg_none_of X G xkj
 have xck:∃ t,mg "LEAST_CORNERS"=some (.int 2 t):=⟨_,W.mg_of X G xd0⟩
 have xcy:∃ t,mg "MOST_CORNERS"=some (.int 40 t):=⟨_,W.mg_of X G xel⟩
 have xcu:∃ t,mg "MOST_BEACONS"=some (.int 12 t):=⟨_,W.mg_of X G xep⟩
 have xex:∃ t,mg "MOST_FOGS"=some (.int 12 t):=⟨_,W.mg_of X G xgi⟩
 have xcw:∃ t,mg "MOST_LETTERS"=some (.int 8 t):=⟨_,W.mg_of X G xee⟩
 have xf5:∃ t,mg "LETTERS"=some (.str "abcdefghijklmnopqrstuvwxyz" t):=⟨_,W.mg_of X G xha⟩
 have xgd:∃ t,mg "NUMBERS"=some (.int 8 t):=⟨_,W.mg_of X G xhj⟩
 have xb7:∃ t,mg "LEFT"=some (.int 0 t):=⟨_,W.mg_of X G xjm⟩
 have xay:∃ t,mg "RIGHT"=some (.int 1 t):=⟨_,W.mg_of X G xiw⟩
 have xda:∃ t,mg "LOW"=some (.int 2 t):=⟨_,W.mg_of X G xj1⟩
 have xb8:∃ t,mg "HIGH"=some (.int 3 t):=⟨_,W.mg_of X G xjo⟩
 have xat:∃ t,mg "FIRST"=some (.int 4 t):=⟨_,W.mg_of X G xiy⟩
 have xc7:∃ t,mg "LAST"=some (.int 5 t):=⟨_,W.mg_of X G xjq⟩
 have xhk:∃ t,mg "DRIFT"=some (.int 6 t):=⟨_,W.mg_of X G xi5⟩
 have xij:∃ t,mg "RISE"=some (.int 7 t):=⟨_,W.mg_of X G xjf⟩
 refine⟨W.fnOf "law" "law" (zbD zeD) (za4 zeD) (zK zeD) .none xku xk2 xkx xko xjp xk8,fun s v=>.of_eq rfl,fun base _ _=>?_⟩
 have xfv:=zad l.prog w base X G xg1 (znY xq xg1.F)
 have xg:=zad l.prog w base X G xgb (znB xgb.F)
 have xfa:=zad l.prog w base X G xf7 (zm6 xg xf7.F)
 have xdc:=zad l.prog w base X G xde (zjR xg xfa xaa xde.F)
 have xdy:=zad l.prog w base X G xdu (zkg xq xaa xdu.F)
 have xe1:=zad l.prog w base X G xe5 (zkD xg xaa xe5.F)
 have xdv:=zad l.prog w base X G xdx (zkl xq xaa xdx.F)
 have xc9:=zad l.prog w base X G xdf (zjA xq xg xaa xdv xdf.F)
 have xfz:=zad l.prog w base X G xgg (zm2 xq xg xgf xgg.F)
 have xfm:=zad l.prog w base X G xfi (zlV xq xfv xg xaa xdc xdy xe1 xc9 xfz xfi.F)
 have xar:=zad l.prog w base X G xao (zfK xq xaa xck xcy xao.F)
 have xdk:zjz l.prog w K mg base 2 "Ground" (upF K Dp.zfk):=⟨⟨_,_,_,_,_,⟨xeu,xet,xei,xd1⟩,zjt xar xbh xa0 xg8,zbI,W.mg_of X G xb6,zmw ⟨xd9,xeg,xev,xd5⟩ xb6⟩⟩
 have xaq:=zad l.prog w base X G xap (zfC xq xcu xex xap.F)
 have xgh:=zad l.prog w base X G xga (zns xq xcw xf5 xbe xga.F)
 have xa7:=zad l.prog w base X G xa4 (zgx xq xbe xgh xjd xa4.F)
 have xct:=zad l.prog w base X G xib (zsn xib.F)
 have xec:=zad l.prog w base X G xhq (zp5 xct xhq.F)
 have xb3:=zad l.prog w base X G xbu (zhV xgf xbu.F)
 have xfq:=zad l.prog w base X G xfr (zlO xb3 xfr.F)
 have xe6:=zad l.prog w base X G xew (zku xfq xew.F)
 have xey:=zcQ l.prog w base X G xe2 (zkU xct xec xe6 xav xau xe2.F)
 have xdl:=zad l.prog w base X G xg6 (zoe xct xec xey xg6.F)
 have xbn:=zad l.prog w base X G xbg (zgH xbe xdl xbg.F)
 have xfo:=zad l.prog w base X G xfl (zlI xje xu xia xfl.F)
 have xgx:=zad l.prog w base X G xgy (zoi xq xbe xu xfo xgd xb7 xay xda xb8 xat xc7 xea xgy.F)
 have xbj:=zad l.prog w base X G xbl (zg8 xbe xgx xbl.F)
 have xa5:=zad l.prog w base X G xa6 (zgA xa6.F)
 have xgz:zjz l.prog w K mg base 7 "Valley" (upF K Dp.zgK):=⟨⟨_,_,_,_,_,⟨xd2,xek,xd4,xed⟩,zjr xa0 xdk xaq xa7 xbn xbj xa5 xb4 xbo xcx xcv xci xcz xcj xg9,zbE,W.mg_of X G xac,zmw ⟨xer,xd8,xef,xen⟩ xac⟩⟩
 have xag:=zad l.prog w base X G xfp (zlN xfp.F)
 have xae:=zcQ l.prog w base X G xf6 (zmC xbc xbb xf6.F)
 have xai:=zcQ l.prog w base X G xan (zft xav xau xdl xan.F)
 have xbk:=zad l.prog w base X G xbi (zhj xaw xax xbd xbi.F)
 have xf4:=zad l.prog w base X G xf9 (znp xf9.F)
 have xgv:=zcQ l.prog w base X G xgs (zn4 xai xbk xf4 xgs.F)
 have xbv:=zad l.prog w base X G xbw (zhU xbw.F)
 have xaj:=zad l.prog w base X G xcl (ziE xgv xbv xcl.F)
 have xds:=zad l.prog w base X G xho (zql xb7 xay xda xb8 xhk xij xho.F)
 have xbt:=zad l.prog w base X G xfy (znG xb7 xay xda xb8 xaw xax xfy.F)
 have xbs:=zad l.prog w base X G xig (zr5 xq xea xax xgw xig.F)
 have xhn:=zad l.prog w base X G xhp (zpt xat xc7 xaw xax xds xbt xbs xjc xhp.F)
 have xez:=zad l.prog w base X G xe3 (zly xbs xhn xe3.F)
 have xic:=zad l.prog w base X G xii (zsq xbs xii.F)
 have xik:=zad l.prog w base X G xif (zr9 xaw xax xbs xif.F)
 have xgc:=zad l.prog w base X G xf2 (znq xq xic xik xf2.F)
 have xgo:=zcQ l.prog w base X G xhm (zqs xae xaj xez xgc xhm.F)
 have xah:=zcQ l.prog w base X G xb5 (zhW xfn xfj xb5.F)
 have xg5:=zad l.prog w base X G xgt (znT xat xc7 xds xgt.F)
 have xhr:=zad l.prog w base X G xhl (zqp xaw xbt xhl.F)
 have xcr:=zcQ l.prog w base X G xg4 (zoF xae xbd xaj xah xg5 xhr xg4.F)
 have xaz:=zcQ l.prog w base X G xa3 (zgw xag xbc xbb xa3.F)
 have xbm:=zad l.prog w base X G xbf (zhl xq xag xcr xbf.F)
 have xf3:=zcQ l.prog w base X G xge (zm5 xah xaz xbm xge.F)
 have xdi:=zad l.prog w base X G xdd (zjU xu xae xgo xcr xf3 xdz xe4 xdh xfk xdd.F)
 exact ztY xaa xfm xa0 xdk xu xgz xag xae xdi xmh
theorem walk {l:W.OpenLaw}{q:Program}{loose:List Str}{XP:(Str->Option Value)->Heap->Prop}{YP:World->Heap->Prop}{d:DefRec}{K:Params->W.Frag}(hn:l.most=some 63)(hdf:d.params.defaults=[])
  (hY:∀ (w:World) (h:Heap),YP w h->(K w.params).In h)
  (F:∀ (w:World) (mg:Str->Option Value) (fa:Addr) (h:Heap),(K w.params).In h->h.Ns mainGlobals mg->mg d.name=some (.ref fa) ->
   ∃ fd:FuncData,(∀ (s:Shared) (u:Value),BindsTo s fd ⟨[u],[]⟩ [("script",u)])/\∀ base:Heap,(K w.params).In base->base.Ns mainGlobals mg->zX l.prog w (K w.params) mg base CX0 13 fa fd ["script"] (upF (K w.params) Dp.ze2)) :
  W.WalkO q loose XP YP l.row.toRowW d [] (fun f vs=>PySem.call f vs) :=
 Dp.zp6 (n:=63) (k:=13) (x:="script") (sp:=fun w=>upF (K w.params) Dp.ze2) hn (by decide) hdf ⟨rfl,by decide,by decide⟩ hY F fun _ _ _ _ hl hg hO hS=>zty hl hg hO hS
end Law
local macro_rules | `(tactic| walk_at "fh")=>`(tactic| (refine' Dp.zvg ?fa ?fl ?fc ?fk;(case fa=>k_is);(case fl=>k_is);(case fc=>k_is);(case fk=>k_is)))
open PySem PySem.W PyProof.Rows
namespace PySem.W.Fast
def tw869612474620279728:=()
def tw771911372617581298:=()
def tw6885606004917804989:=()
def tw16373732545883562403:=()
def tw4526843724004788791:=()
def tw15680209720028831703:=()
def tw534662618222998630:=()
def tw7182867530189132667:=()
def tw7702698313746325220:=()
def tw15769935490074087936:=()
def tw10270188567263628157:=()
def tw14135404520683357401:=()
def tw7047703426497775748:=()
def tw11635371264267702863:=()
def tw16001441999468899721:=()
def tw12191018907434253457:=()
def tw3695323587341252862:=()
def tw4910681212411768305:=()
def tw2597476816148255445:=()
def tw15266215301213141064:=()
def tw13647808835194303200:=()
def tw18309371471203439146:=()
def tw7863434873982943932:=()
def tw2358284302565505751:=()
def tw2090167563056034209:=()
def tw9978432850488495617:=()
def tw13539506956114109336:=()
def tw11460041767281539340:=()
def tw9250714591586470515:=()
def tw11464633443054903019:=()
def tw17934227052187521289:=()
def tw8372460323034329126:=()
def tw1048015539691973582:=()
def tw12085267095303334847:=()
def tw17753802878019042501:=()
def tw12862934328858838736:=()
def tw14604075116681394351:=()
def tw683624845578636690:=()
def tw15128128779821849377:=()
def tw3246827766501452036:=()
def tw12058074286869774099:=()
def tw11669875886025960519:=()
def tw9114129344959449514:=()
def tw1996949705206817341:=()
def tw17132832103592684314:=()
def tw995287891384138473:=()
def tw7465931230558184268:=()
def tw1996003040425258281:=()
def tw16169240005041682569:=()
def tw14802252817233022648:=()
def tw17161935999442025240:=()
def tw788355135678544984:=()
def tw11588163809156096760:=()
def tw15582443449441222021:=()
def tw8815241288393648781:=()
def tw11621964578787168936:=()
def tw7287112017554451767:=()
def tw12631829359378954825:=()
def tw15020706280167636961:=()
def tw16759717306096001778:=()
def tw7847187413107746406:=()
def tw4226031229303068762:=()
def tw13407882594466633131:=()
def tw6555210792038475622:=()
def tw2551977642916244731:=()
def tw5194883109606931811:=()
def tw7649673236274725651:=()
def tw3691445274818404443:=()
def tw8861120254728312526:=()
def tw5675776191256799010:=()
def tw3552416784098461185:=()
def tw9445164082044516611:=()
def tw9708388229976366391:=()
def tw14656401996077141856:=()
def tw15079491726154487803:=()
def tw13952869093073616833:=()
def tw9566493207596762089:=()
def tw2716890834270861100:=()
def tw14018699369433185081:=()
def tw8500482864013858687:=()
def tw647097820927530432:=()
def tw13482688007209340709:=()
def tw10902588176489675845:=()
def tw7773092791139168824:=()
def tw5552129475482082991:=()
def tw3003769289188744601:=()
def tw754236646622043670:=()
def tw11984756849468274735:=()
def tw10384126703250829265:=()
def tw5183258030973799228:=()
def tw6331494415612171934:=()
def tw17467308930056183045:=()
def tw16635549095825022639:=()
def tw14478108440657206552:=()
def tw5362168749936457571:=()
def tw16379696733855424264:=()
def tw15493592772711471104:=()
def tw17860202847794638332:=()
def tw10685269229972185627:=()
def tw14794290432102932392:=()
def tw5846669970879868511:=()
def tw14435667880211201307:=()
def tw10862092463426696771:=()
def tw3171752681413382657:=()
def tw9553554586813322689:=()
def tw8382805398060723071:=()
def tw9164812898976771137:=()
def tw9658469201990494124:=()
def tw3189750707402549095:=()
def tw5544215842397239186:=()
def tw2109945416901078583:=()
def tw8693235253563977921:=()
def tw10560983608471771291:=()
def tw3419379303790911019:=()
def tw1637152708766923819:=()
def tw18309806169665284198:=()
def tw6035848577188406614:=()
def tw3110113462412960904:=()
def tw15884600448554854848:=()
def tw9379018882693318934:=()
def tw6170426103237650:=()
def tw12135065161701375914:=()
def tw11209502259585842407:=()
def tw760718664045470977:=()
def tw15912630287425061176:=()
def tw11877495841191795047:=()
def tw14029564540797019597:=()
def tw810775525599055255:=()
def tw15784774809633035940:=()
def tw2262343772271390763:=()
def tw6340970748241009:=()
def tw2484120513460946001:=()
def tw15600548571666250278:=()
def tw16111685719591438022:=()
def tw10857336377244713086:=()
def tw3811190023147262834:=()
def tw11392698780268192093:=()
def tw12062173911929551927:=()
def tw14045719430067872274:=()
def tw1411542870081277072:=()
def tw16084670533568372306:=()
def tw4464420462038553599:=()
def tw16417405015857255576:=()
def tw4947635365505959978:=()
def tw14857014075317382222:=()
def tw4033084153670563190:=()
def tw11402186438650693386:=()
def tw17818263480022332445:=()
def tw3745562495125147862:=()
def tw13996313910928434174:=()
def tw11062344636770157831:=()
def tw16074691845014186692:=()
end PySem.W.Fast
set_option maxRecDepth 100000 in
set_option maxHeartbeats 0 in
theorem PySem.Challenge.cw_beaconvale_k42_names_and_tops_holds : PySem.Challenge.rw_beaconvale_k42_names_and_tops.Holds := by
 w_on; o_law; k_head; (case hw => w_witness2)
 k_fill
 refine Law.walk (l := PySem.Challenge.rw_beaconvale_k42_names_and_tops) rfl rfl (fun w h Y => PySem.W.kIn_of Y) ?F
 case F =>
  intro w mg fa h KX G hmg
  refine' Law.all_mk KX G hmg ?xg1 ?xgb ?xf7 ?xde ?xdu ?xe5 ?xdx ?xdf ?xgg ?xfi ?xao ?xb6 ?xfg ?xfh ?xfb ?xeu ?xet ?xei ?xd1 ?xd9 ?xeg ?xev ?xd5 ?xej ?xap ?xga ?xa4 ?xib ?xhq ?xbu ?xfr ?xew ?xe2 ?xg6 ?xbg ?xfl ?xgy ?xbl ?xa6 ?xac ?xfd ?xfc ?xfe ?xd2 ?xek ?xd4 ?xed ?xer ?xd8 ?xef ?xen ?xd3 ?xeb ?xeq ?xd7 ?xem ?xeh ?xeo ?xfp ?xf6 ?xan ?xbi ?xf9 ?xgs ?xbw ?xcl ?xho ?xfy ?xig ?xhp ?xe3 ?xii ?xif ?xf2 ?xhm ?xb5 ?xgt ?xhl ?xg4 ?xa3 ?xbf ?xge ?xdd ?xj4 ?xj0 ?xkg ?xj6 ?xgl ?xb9 ?xc6 ?xal ?xgk ?xc8 ?xd6 ?xfu ?xdo ?xe9 ?xfs ?xgq ?xdp ?xe8 ?xas ?xhg ?xe7 ?xak ?xg0 ?xdw ?xbp ?xbz ?xba ?xcd ?xbq ?xb2 ?xa9 ?xcc ?xcs ?xc5 ?xce ?xdm ?xcb ?xcm ?xbx ?xc4 ?xc3 ?xdn ?xcq ?xdt ?xcf ?xcn ?xby ?xc1 ?xcg ?xco ?xb1 ?xc2 ?xb0 ?xch ?xbr ?xcp ?xfw ?xjz ?xim ?xkm ?xjk ?xj5 ?xkf ?xkb ?xfx ?xjh ?xi0 ?xj7 ?xj8 ?xgj ?xh4 ?xkj ?xd0 ?xel ?xep ?xgi ?xee ?xha ?xhj ?xjm ?xiw ?xj1 ?xjo ?xiy ?xjq ?xi5 ?xjf
  (case xgl=>k_is)
  (case xb9=>k_is)
  (case xal=>k_is)
  (case xd6=>k_is)
  (case xdo=>k_is)
  (case xfs=>k_is)
  (case xdp=>k_is)
  (case xas=>k_is)
  (case xak=>k_is)
  (case xb6=>k_is)
  (case xac=>k_is)
  (case xet=>k_is)
  (case xek=>k_is)
  (case xg1=>walk_at "fh")
  (case xgb=>walk_at "fh")
  (case xf7=>walk_at "fh")
  (case xde=>walk_at "fh")
  (case xdu=>walk_at "fh")
  (case xe5=>walk_at "fh")
  (case xdx=>walk_at "fh")
  (case xdf=>walk_at "fh")
  (case xgg=>walk_at "fh")
  (case xfi=>walk_at "fh")
  (case xao=>walk_at "fh")
  (case xfg=>k_is)
  (case xfh=>k_is)
  (case xfb=>k_is)
  (case xeu=>k_is)
  (case xei=>k_is)
  (case xd1=>k_is)
  (case xd9=>k_is)
  (case xeg=>k_is)
  (case xev=>k_is)
  (case xd5=>k_is)
  (case xej=>k_is)
  (case xap=>walk_at "fh")
  (case xga=>walk_at "fh")
  (case xa4=>walk_at "fh")
  (case xib=>walk_at "fh")
  (case xhq=>walk_at "fh")
  (case xbu=>walk_at "fh")
  (case xfr=>walk_at "fh")
  (case xew=>walk_at "fh")
  (case xe2=>walk_at "fh")
  (case xg6=>walk_at "fh")
  (case xbg=>walk_at "fh")
  (case xfl=>walk_at "fh")
  (case xgy=>walk_at "fh")
  (case xbl=>walk_at "fh")
  (case xa6=>walk_at "fh")
  (case xfd=>k_is)
  (case xfc=>k_is)
  (case xfe=>k_is)
  (case xd2=>k_is)
  (case xd4=>k_is)
  (case xed=>k_is)
  (case xer=>k_is)
  (case xd8=>k_is)
  (case xef=>k_is)
  (case xen=>k_is)
  (case xd3=>k_is)
  (case xeb=>k_is)
  (case xeq=>k_is)
  (case xd7=>k_is)
  (case xem=>k_is)
  (case xeh=>k_is)
  (case xeo=>k_is)
  (case xfp=>walk_at "fh")
  (case xf6=>walk_at "fh")
  (case xan=>walk_at "fh")
  (case xbi=>walk_at "fh")
  (case xf9=>walk_at "fh")
  (case xgs=>walk_at "fh")
  (case xbw=>walk_at "fh")
  (case xcl=>walk_at "fh")
  (case xho=>walk_at "fh")
  (case xfy=>walk_at "fh")
  (case xig=>walk_at "fh")
  (case xhp=>walk_at "fh")
  (case xe3=>walk_at "fh")
  (case xii=>walk_at "fh")
  (case xif=>walk_at "fh")
  (case xf2=>walk_at "fh")
  (case xhm=>walk_at "fh")
  (case xb5=>walk_at "fh")
  (case xgt=>walk_at "fh")
  (case xhl=>walk_at "fh")
  (case xg4=>walk_at "fh")
  (case xa3=>walk_at "fh")
  (case xbf=>walk_at "fh")
  (case xge=>walk_at "fh")
  (case xdd=>walk_at "fh")
  (case xj4=>k_is)
  (case xj0=>k_is)
  (case xkg=>k_is)
  (case xj6=>k_is)
  (case xc6=>kernel_rfl)
  (case xgk=>kernel_rfl)
  (case xc8=>kernel_rfl)
  (case xfu=>kernel_rfl)
  (case xe9=>kernel_rfl)
  (case xgq=>kernel_rfl)
  (case xe8=>kernel_rfl)
  (case xhg=>kernel_rfl)
  (case xe7=>kernel_rfl)
  (case xg0=>kernel_rfl)
  (case xdw=>kernel_rfl)
  (case xbp=>kernel_rfl)
  (case xbz=>kernel_rfl)
  (case xba=>kernel_rfl)
  (case xcd=>kernel_rfl)
  (case xbq=>kernel_rfl)
  (case xb2=>kernel_rfl)
  (case xa9=>kernel_rfl)
  (case xcc=>kernel_rfl)
  (case xcs=>kernel_rfl)
  (case xc5=>kernel_rfl)
  (case xce=>kernel_rfl)
  (case xdm=>kernel_rfl)
  (case xcb=>kernel_rfl)
  (case xcm=>kernel_rfl)
  (case xbx=>kernel_rfl)
  (case xc4=>kernel_rfl)
  (case xc3=>kernel_rfl)
  (case xdn=>kernel_rfl)
  (case xcq=>kernel_rfl)
  (case xdt=>kernel_rfl)
  (case xcf=>kernel_rfl)
  (case xcn=>kernel_rfl)
  (case xby=>kernel_rfl)
  (case xc1=>kernel_rfl)
  (case xcg=>kernel_rfl)
  (case xco=>kernel_rfl)
  (case xb1=>kernel_rfl)
  (case xc2=>kernel_rfl)
  (case xb0=>kernel_rfl)
  (case xch=>kernel_rfl)
  (case xbr=>kernel_rfl)
  (case xcp=>kernel_rfl)
  (case xfw=>k_is)
  (case xjz=>k_is)
  (case xim=>k_is)
  (case xkm=>k_is)
  (case xjk=>k_is)
  (case xj5=>k_is)
  (case xkf=>k_is)
  (case xkb=>k_is)
  (case xfx=>k_is)
  (case xjh=>k_is)
  (case xi0=>k_is)
  (case xj7=>k_is)
  (case xj8=>k_is)
  (case xgj=>k_is)
  (case xh4=>k_is)
  (case xkj=>k_is)
  (case xd0=>k_is)
  (case xel=>k_is)
  (case xep=>k_is)
  (case xgi=>k_is)
  (case xee=>k_is)
  (case xha=>k_is)
  (case xhj=>k_is)
  (case xjm=>k_is)
  (case xiw=>k_is)
  (case xj1=>k_is)
  (case xjo=>k_is)
  (case xiy=>k_is)
  (case xjq=>k_is)
  (case xi5=>k_is)
  (case xjf=>k_is)
#print axioms PySem.Challenge.cw_beaconvale_k42_names_and_tops_holds
