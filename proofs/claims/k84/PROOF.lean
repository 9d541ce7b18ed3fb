import PyProof.Rows.All
import Wide.All
import OpenK.AllK
import Wide.FinOn
import Lean
import PyProof.EqAt
import PyProof.EqKinds
import PyProof.TupleCall
import PyProof.NeData
import PyProof.P3Eq
import PyProof.StrLawsIn
import PySem.Challenge.RW_beaconvale_k84_numbers_read
set_option Elab.async false
set_option linter.all false
set_option maxRecDepth 100000
set_option maxHeartbeats 4000000
set_option Elab.async false
set_option linter.all false
set_option maxRecDepth 100000
namespace L2
open PySem PySem.Spec PyProof.Rows
abbrev Key:=Sum Int Str
def zgt:Key->Value->Bool
 | .inl k,v=>Value.isInt k v
 | .inr x,v=>Value.isStrOf x v
def zj0 (w:World):Key->Int
 | .inl k=>hashInt k
 | .inr x=>hashStr w x
theorem zN:∀ {k:Key} {v:Value},zgt k v=true->(∃ i t,k=Sum.inl i/\v=Value.int i t)\/(∃ x t,k=Sum.inr x/\v=Value.str x t)
 | .inl i,v,h=>by
  obtain⟨t,e⟩:=Value.isInt_shape (k:=i) (v:=v) h
  exact .inl ⟨i,t,rfl,e⟩
 | .inr x,v,h=>by
  obtain⟨t,e⟩:=Value.isStrOf_shape (x:=x) (v:=v) h
  exact .inr ⟨x,t,rfl,e⟩
theorem ziF (a b:Int):decide ((Sum.inl a:Key)=Sum.inl b)=(a==b):=by
 by_cases e:a=b
 ·subst e;simp
 ·have h:¬ (Sum.inl a:Key)=Sum.inl b:=fun q=>e (Sum.inl.inj q)
  rw [decide_eq_false h]
  exact (beq_eq_false_iff_ne.mpr e).symm
theorem ziy (a b:Str):decide ((Sum.inr a:Key)=Sum.inr b)=decide (a=b):=by
 by_cases e:a=b
 ·subst e;simp
 ·have h:¬ (Sum.inr a:Key)=Sum.inr b:=fun q=>e (Sum.inr.inj q)
  rw [decide_eq_false h,decide_eq_false e]
theorem zhG (a:Int)(b:Str):decide ((Sum.inl a:Key)=Sum.inr b)=false:=decide_eq_false (fun q=>nomatch q)
theorem zhI (a:Str)(b:Int):decide ((Sum.inr a:Key)=Sum.inl b)=false:=decide_eq_false (fun q=>nomatch q)
def zey (prog:Program)(w:World):PySem.KeyKind prog w Key where
  is:=zgt
  hash:=zj0 w
  inj:=fun v a b ha hb=>by
    rcases zN ha with ⟨i,t,rfl,rfl⟩ | ⟨x,t,rfl,rfl⟩
    · rcases zN hb with ⟨j,u,rfl,e⟩ | ⟨y,u,rfl,e⟩
      · injection e with e1 _;rw [e1]
      · exact nomatch e
    · rcases zN hb with ⟨j,u,rfl,e⟩ | ⟨y,u,rfl,e⟩
      · exact nomatch e
      · injection e with e1 _;rw [e1]
  byValue:=fun k v h=>by
    rcases zN h with ⟨i,t,rfl,rfl⟩ | ⟨x,t,rfl,rfl⟩<;>rfl
  pyHash:=fun hv h=>by
    rcases zN hv with ⟨i,t,rfl,rfl⟩ | ⟨x,t,rfl,rfl⟩
    · exact wpAny_pyHash_int h
    · exact wpAny_pyHash_str h
  eqBool:=fun hu hv h=>by
    rcases zN hu with ⟨i,t,rfl,rfl⟩ | ⟨x,t,rfl,rfl⟩
    · rcases zN hv with ⟨j,u,rfl,rfl⟩ | ⟨y,u,rfl,rfl⟩
      · rw [ziF] at h;exact wpAny_eqBool_int h
      · rw [zhG] at h;exact SeqAt.EqAt.int_str i t y u _ _ _ _ h
    · rcases zN hv with ⟨j,u,rfl,rfl⟩ | ⟨y,u,rfl,rfl⟩
      · rw [zhI] at h;exact SeqAt.EqAt.str_int x t j u _ _ _ _ h
      · rw [ziy] at h;exact wpAny_eqBool_str h
  «strs»:=fun k x t v h=>by
    rcases zN h with ⟨i,u,rfl,e⟩ | ⟨y,u,rfl,e⟩
    · exact nomatch e
    · injection e with e1 _
      subst e1
      cases v<;>rfl
inductive V where
 | non | bl (b:Bool) | int (i:Int) | str (x:Str) | byt (b:Array UInt8) | flt (b:UInt64) | ref (a:Addr) | ty (n:String)
 deriving DecidableEq
def RelV:V->Value->Prop
 | .non,u=>u=Value.none
 | .bl b,u=>u=Value.bool b
 | .int i,u=>∃ t,u=Value.int i t
 | .str x,u=>∃ t,u=Value.str x t
 | .byt b,u=>∃ t,u=Value.bytes b t
 | .flt b,u=>∃ t,u=Value.float b t
 | .ref a,u=>u=Value.ref a
 | .ty n,u=>u=Value.type n
abbrev Vals:List V->List Value->Prop:=Paired RelV
theorem Vals.length {xs:List V}{us:List Value}(r:Vals xs us):xs.length=us.length:=Paired.length r
theorem Vals.get:∀ {xs:List V} {us:List Value} {i:Nat} {x:V},Vals xs us->xs[i]?=some x->∃ u,us[i]?=some u/\RelV x u
 | _,_,_,_,.nil,e=>by simp at e
 | _,_,0,_,.cons r _,e=>by simp at e;subst e;exact⟨_,rfl,r⟩
 | _,_,i+1,x,.cons _ t,e=>by
  obtain⟨u,h1,h2⟩:=Vals.get (i:=i) (x:=x) t (by simpa using e)
  exact⟨u,by simpa using h1,h2⟩
theorem Vals.append:∀ {xs ys:List V} {us ws:List Value},Vals xs us->Vals ys ws->Vals (xs++ys) (us++ws)
 | _,_,_,_,.nil,s=>s
 | _,_,_,_,.cons r t,s=>.cons r (Vals.append t s)
theorem Vals.take:∀ {xs:List V} {us:List Value} (n:Nat),Vals xs us->Vals (xs.take n) (us.take n)
 | _,_,0,_=>.nil
 | _,_,_+1,.nil=>.nil
 | _,_,n+1,.cons r t=>.cons r (Vals.take n t)
theorem Vals.drop:∀ {xs:List V} {us:List Value} (n:Nat),Vals xs us->Vals (xs.drop n) (us.drop n)
 | _,_,0,r=>r
 | _,_,_+1,.nil=>.nil
 | _,_,n+1,.cons _ t=>Vals.drop n t
def zgj:Option V->Option Value->Prop
 | some v,some u=>RelV v u
 | none,none=>True
 | _,_=>False
def KV {κ:Type}:List (κ×V)->List (κ×Value)->Prop:=Paired fun (p:κ×V) (q:κ×Value)=>p.1=q.1/\RelV p.2 q.2
def kV:Key->V
 | .inl i=>.int i
 | .inr x=>.str x
inductive HO where
 | lst (xs:List V)
 | tup (xs:List V)
 | dK (kvs:List (Key×V)) | dT (kvs:List (List Key×V))
 | set (S:Int->Bool) (n:Nat)
 | ins (C dx:Addr) (fs:List (Str×V))
 | own (x:Addr)
 | xd (fs:List (Str×V))
 | met (f x:Addr)
 | rng (lo hi:Int)
 | frz (o:Obj) (u:HO)
 | tbl (ps:Array Value)
 | ext (φ:Heap->Prop)
abbrev Hp:=Addr->Option HO
def upd (H:Hp)(a:Addr)(o:HO):Hp:=fun b=>if b=a then some o else H b
theorem zam {H:Hp}{a:Addr}{o:HO}:upd H a o a=some o:=by unfold upd;rw [if_pos rfl]
theorem zE {H:Hp}{a b:Addr}{o:HO}(h:b≠a):upd H a o b=H b:=by unfold upd;rw [if_neg h]
theorem zgr {H:Hp}{a b:Addr}{o u:HO}(h:H a=some o)(h':H b=some u)(d:o≠u):a≠b:=by
 intro e;subst e;rw [h] at h';exact d (Option.some.inj h')
theorem zV {H:Hp}{a b:Addr}{o:HO}(h:H a=some o)(h':H b=none):a≠b:=by
 intro e;subst e;rw [h] at h';cases h'
section
variable (P:Program)(w:World)
def zW (H:Hp)(h:Heap)(a:Addr):HO->Prop
 | .lst xs=>xs.length<=sizeLine/\∃ (its:List Value) (n:Nat),Vals xs its/\h.get? a=some { cls:=.type "list",data:=.seq its.toArray n }
 | .tup xs=>xs.length<=sizeLine/\∃ its:List Value,Vals xs its/\IsTup h a its.toArray
 | .dK kvs=>kvs.length<=sizeLine/\(a==sysModules)=false/\∃ vs,KV kvs vs/\h.DictOf (zey P w) a vs
 | .dT kvs=>kvs.length<=sizeLine/\(a==sysModules)=false/\∃ xs:List (List Key×Addr×Value),
   Paired (fun (p:List Key×V) (q:List Key×Addr×Value)=>p.1=q.1/\H q.2.1=some (.tup (p.1.map kV))/\RelV p.2 q.2.2) kvs xs /\
   ∃ o es ep,h.get? a=some o/\o.ExactDict/\o.data=.dict es ep/\es.toList=xs.map (entryOfKey (tupleKind (zey P w)))/\(xs.map (·.1)).Nodup
 | .set S n=>h.SetOf (intKind P w) a S n
 | .ins C dx fs=>H dx=some (.own a)/\fs.length<=1000/\dx≠a/\h.get? a=some (PySem.W.instObj C dx) /\
   ∃ mA,h.Ns1 dx mA/\(∀ f,zgj (fs.lookup f) (mA f))/\PySem.Within mA (fs.map (·.1))
 | .own _=>∃ o,h.get? a=some o
 | .xd fs=>∃ mA,h.Ns1 a mA/\∀ f,zgj (fs.lookup f) (mA f)
 | .rng lo hi=>∃ t u v,h.get? a=some { cls:=.type "range",data:=.fields #[.int lo t,.int hi u,.int 1 v] }
 | .frz o u=>h.get? a=some o/\zW H h a u
 | .tbl ps=>h.get? a=some { cls:=.none,data:=.fields ps }
 | .met f x=>h.get? a=some (PySem.W.methodObj (.ref f) (.ref x))
 | .ext φ=>φ h/\(∃ o,h.get? a=some o)/\∀ h1 h2:Heap,φ h1->(∀ o,h1.get? a=some o->h2.get? a=some o)->φ h2
def HOk (H:Hp)(h:Heap):Prop:=∀ a o,H a=some o->zW P w H h a o
end
section
variable {P:Program}{w:World}{H H':Hp}{h h':Heap}{a:Addr}{o:HO}
theorem zW.lt (x:zW P w H h a o):a<h.objs.size:=by
 cases o with
 | lst xs=>obtain⟨_,_,_,_,e⟩:=x;exact Heap.lt_size e
 | tup xs=>obtain⟨_,_,_,p⟩:=x;exact p.lt
 | dK kvs=>obtain⟨_,_,_,_,o,_,_,e,_⟩:=x;exact Heap.lt_size e
 | dT kvs=>obtain⟨_,_,_,_,o,_,_,e,_⟩:=x;exact Heap.lt_size e
 | set S n=>obtain⟨o,_,_,_,e,_⟩:=x;exact Heap.lt_size e
 | ins C dx fs=>obtain⟨_,_,_,e,_⟩:=x;exact Heap.lt_size e
 | own y=>obtain⟨_,e⟩:=x;exact Heap.lt_size e
 | xd fs=>obtain⟨_,⟨_,_,_,e,_⟩,_⟩:=x;exact Heap.lt_size e
 | rng lo hi=>obtain⟨_,_,_,e⟩:=x;exact Heap.lt_size e
 | frz ob u=>obtain⟨e,_⟩:=x;exact Heap.lt_size e
 | tbl ps=>exact Heap.lt_size (show h.get? a=some _ from x)
 | met f y=>exact Heap.lt_size (show h.get? a=some _ from x)
 | ext φ=>obtain⟨_,⟨_,e⟩,_⟩:=x;exact Heap.lt_size e
theorem Paired.mapP {α β:Type}{F G:α->β->Prop}:∀ {l₁:List α} {l₂:List β},Paired F l₁ l₂->(∀ a b,F a b->G a b)->Paired G l₁ l₂
 | _,_,.nil,_=>.nil
 | _,_,.cons r t,f=>.cons (f _ _ r) (Paired.mapP t f)
theorem zW.stay (x:zW P w H h a o)(k:∀ b u,(b=a\/H b=some (.own a))->h.get? b=some u->h'.get? b=some u)
  (ho:∀ b,H b=some (.own a)->H' b=some (.own a)) (ht:∀ b xs,H b=some (.tup xs)->H' b=some (.tup xs)):zW P w H' h' a o:=by
 induction o with
 | lst xs=>obtain⟨z,its,n,r,e⟩:=x;exact⟨z,its,n,r,k _ _ (.inl rfl) e⟩
 | tup xs=>obtain⟨z,its,r,ob,e,c⟩:=x;exact⟨z,its,r,ob,k _ _ (.inl rfl) e,c⟩
 | dK kvs=>obtain⟨z,y,vs,r,ob,es,ep,e,c⟩:=x;exact⟨z,y,vs,r,ob,es,ep,k _ _ (.inl rfl) e,c⟩
 | dT kvs =>
  obtain⟨z,y,xs,r,ob,es,ep,e,c⟩:=x
  exact⟨z,y,xs,Paired.mapP r fun p q z=>⟨z.1,ht _ _ z.2.1,z.2.2⟩,ob,es,ep,k _ _ (.inl rfl) e,c⟩
 | set S n=>obtain⟨ob,es,ep,t,e,c⟩:=x;exact⟨ob,es,ep,t,k _ _ (.inl rfl) e,c⟩
 | ins C dx fs =>
  obtain⟨d,z,ne,e,mA,⟨od,es,ep,e2,c⟩,r⟩:=x
  exact⟨ho _ d,z,ne,k _ _ (.inl rfl) e,mA,⟨od,es,ep,k _ _ (.inr d) e2,c⟩,r⟩
 | own y=>obtain⟨ob,e⟩:=x;exact⟨ob,k _ _ (.inl rfl) e⟩
 | xd fs=>obtain⟨mA,⟨od,es,ep,e,c⟩,r⟩:=x;exact⟨mA,⟨od,es,ep,k _ _ (.inl rfl) e,c⟩,r⟩
 | rng lo hi=>obtain⟨t,u,v,e⟩:=x;exact⟨t,u,v,k _ _ (.inl rfl) e⟩
 | frz ob u ih=>obtain⟨e,q⟩:=x;exact⟨k _ _ (.inl rfl) e,ih q⟩
 | tbl ps =>
  have e:h.get? a=some { cls:=.none,data:=.fields ps }:=x
  show h'.get? a=some { cls:=.none,data:=.fields ps }
  exact k a _ (.inl rfl) e
 | met f y =>
  have e:h.get? a=some (PySem.W.methodObj (.ref f) (.ref y)):=x
  show h'.get? a=some (PySem.W.methodObj (.ref f) (.ref y))
  exact k a _ (.inl rfl) e
 | ext φ=>obtain⟨p,⟨o,e⟩,st⟩:=x;exact⟨st _ _ p fun o q=>k _ _ (.inl rfl) q,⟨o,k _ _ (.inl rfl) e⟩,st⟩
theorem HOk.lt (x:HOk P w H h)(e:H a=some o):a<h.objs.size:=(x a o e).lt
theorem HOk.fresh (x:HOk P w H h)(e:h.objs.size<=a):H a=none:=by
 cases q:H a with
 | none=>rfl
 | some u=>exact absurd (Nat.lt_of_lt_of_le (x.lt q) e) (Nat.lt_irrefl _)
theorem HOk.kept (x:HOk P w H h)(k:∀ b u,h.get? b=some u->h'.get? b=some u):HOk P w H h':=fun a o e =>
 (x a o e).stay (fun b u _ q=>k b u q) (fun _ q=>q) fun _ _ q=>q
theorem HOk.laid (x:HOk P w H h)(k:∀ b u,h.get? b=some u->h'.get? b=some u)(hp:h.objs.size<=a)(new:zW P w (upd H a o) h' a o):HOk P w (upd H a o) h':=fun b u e=>by
 have hn:=x.fresh hp
 by_cases hb:b=a
 ·subst hb;rw [zam] at e;cases e;exact new
 ·rw [zE hb] at e
  exact (x b u e).stay (fun c v _ q=>k c v q) (fun c q=>by rw [zE (zV q hn)];exact q) fun c xs q=>by rw [zE (zV q hn)];exact q
end
def Rd (H:Hp)(a:Addr)(u:HO):Prop:=H a=some u\/∃ o,H a=some (.frz o u)
theorem Rd.ok {P:Program}{w:World}{H:Hp}{h:Heap}{a:Addr}{u:HO}(r:Rd H a u)(x:HOk P w H h):zW P w H h a u:=by
 rcases r with r | ⟨o,r⟩
 ·exact x a u r
 ·obtain⟨_,q⟩:=x a _ r
  exact q
def Mut:Option HO->Prop
 | some (.lst _)=>True
 | some (.dK _)=>True
 | some (.dT _)=>True
 | some (.set _ _)=>True
 | some (.ins _ _ _)=>True
 | some (.ext _)=>True
 | _=>False
section
variable {P:Program}{w:World}{H:Hp}{h h':Heap}{x e:Addr}{o':HO}
theorem HOk.write (ok:HOk P w H h)(mu:Mut (H x))(he:e=x\/H e=some (.own x))(k:∀ b u,b≠e->h.get? b=some u->h'.get? b=some u)(heo:∃ u,h'.get? e=some u)
  (new:zW P w (upd H x o') h' x o'):HOk P w (upd H x o') h':=fun b u q=>by
 have nown:∀ c y,H c=some (.own y)->c≠x:=fun c y r z=>by subst z;rw [r] at mu;exact mu
 have ntup:∀ c xs,H c=some (.tup xs)->c≠x:=fun c xs r z=>by subst z;rw [r] at mu;exact mu
 by_cases hb:b=x
 ·subst hb;rw [zam] at q;cases q;exact new
 ·rw [zE hb] at q
  by_cases hbe:b=e
  ·have q':H b=some (.own x):=by
    rcases he with z | z
    ·exact absurd (hbe.trans z) hb
    ·rw [hbe];exact z
   rw [q] at q';cases q'
   obtain⟨v,hv⟩:=heo
   exact⟨v,by rw [hbe];exact hv⟩
  ·refine (ok b u q).stay (fun c v hc r=>k c v ?_ r) (fun c r=>by rw [zE (nown c b r)];exact r) fun c xs r=>by rw [zE (ntup c xs r)];exact r
   rcases hc with rfl | hc
   ·exact hbe
   ·rintro rfl
    rcases he with z | z
    ·exact nown c b hc z
    ·rw [hc] at z;cases z;exact hb rfl
end
structure Un (fs ex:List Addr)(H H':Hp)(h h':Heap):Prop where
 keep:∀ b o,h.get? b=some o->H b=none->b∉fs->b∉ex->h'.get? b=some o
 slot:∀ b o,h.get? b=some o->H b=none->b∈fs->b∉ex->∃ sl,h'.get? b=some { o with slots:=sl }
 free:∀ b o,h.get? b=some o->H b=none->b∉ex->H' b=none
 there:∀ b o,h.get? b=some o->b∉ex->∃ o',h'.get? b=some o'
 tups:∀ b xs,H b=some (.tup xs)->H' b=some (.tup xs)
 frzs:∀ b o u,H b=some (.frz o u)->H' b=some (.frz o u)
 tbls:∀ b ps,H b=some (.tbl ps)->∃ more,H' b=some (.tbl (ps++more))
section
variable {fs fs' ex ex':List Addr}{H H1 H2:Hp}{h h1 h2 h':Heap}{a x e:Addr}{o:HO}
theorem Un.any (u:Un fs ex H H1 h h1){b:Addr}{ob:Obj}(q:h.get? b=some ob)(n:H b=none)(hx:b∉ex):∃ sl,h1.get? b=some { ob with slots:=sl }:=by
 by_cases hb:b∈fs
 ·exact u.slot b ob q n hb hx
 ·exact⟨ob.slots,u.keep b ob q n hb hx⟩
theorem Un.kept (k:∀ b u,h.get? b=some u->h'.get? b=some u):Un fs ex H H h h' :=
 ⟨fun b ob q _ _ _=>k b ob q,fun b ob q _ _ _=>⟨ob.slots,k b ob q⟩,fun _ _ _ n _=>n,fun b ob q _=>⟨ob,k b ob q⟩,fun _ _ q=>q,fun _ _ _ q=>q,fun _ ps q=>⟨#[],by rw [q];simp⟩⟩
theorem Un.refl:Un fs ex H H h h:=Un.kept fun _ _ q=>q
theorem Un.laid (k:∀ b u,h.get? b=some u->h'.get? b=some u)(hp:h.objs.size<=a)(hn:H a=none):Un fs ex H (upd H a o) h h' where
 keep:=fun b u q _ _ _=>k b u q
 slot:=fun b u q _ _ _=>⟨u.slots,k b u q⟩
 free:=fun b u q n _=>by rw [zE (Nat.ne_of_lt (Nat.lt_of_lt_of_le (Heap.lt_size q) hp))];exact n
 there:=fun b u q _=>⟨u,k b u q⟩
 tups:=fun b xs q=>by rw [zE (zV q hn)];exact q
 frzs:=fun b u xs q=>by rw [zE (zV q hn)];exact q
 tbls:=fun b ps q=>⟨#[],by rw [zE (zV q hn),q];simp⟩
theorem Un.write (mu:Mut (H x))(he:e=x\/H e=some (.own x))(k:∀ b u,b≠e->h.get? b=some u->h'.get? b=some u)(heo:∃ u,h'.get? e=some u):Un fs ex H (upd H x o) h h':=by
 have hx:∀ b,H b=none->b≠x:=fun b n z=>by subst z;rw [n] at mu;exact mu
 have hb:∀ b,H b=none->b≠e:=fun b n z=>by
  subst z
  rcases he with r | r
  ·exact hx b n r
  ·rw [n] at r;cases r
 have hm:∀ b u,H b=some u->¬ Mut (some u)->b≠x:=fun b u q nm z=>by subst z;rw [q] at mu;exact nm mu
 refine⟨fun b u q n _ _=>k b u (hb b n) q,fun b u q n _ _=>⟨u.slots,k b u (hb b n) q⟩,fun b u q n _=>by rw [zE (hx b n)];exact n,fun b u q _=>?_,
  fun b xs q=>by rw [zE (hm b _ q fun z=>z)];exact q,fun b u xs q=>by rw [zE (hm b _ q fun z=>z)];exact q,fun b ps q=>⟨#[],by rw [zE (hm b _ q fun z=>z),q];simp⟩⟩
 by_cases hbe:b=e
 ·subst hbe;exact heo
 ·exact⟨u,k b u hbe q⟩
end
def trk (h:Heap)(H:Hp):List Addr:=(List.range h.objs.size).filter fun a=>(H a).isSome
def zbz (h:Heap)(H:Hp):Heap:=PySem.W.hideAll h (trk h H)
theorem zfi (h:Heap)(H:Hp):(zbz h H).objs.size=h.objs.size:=PySem.W.hideAll_size _ _
theorem zgg {h:Heap}{H:Hp}{b:Addr}{o:Obj}(e:h.get? b=some o)(n:H b=none):(zbz h H).get? b=some o :=
 PySem.W.hideAll_get _ e fun hm=>by
  have q:(H b).isSome=true:=(List.mem_filter.mp hm).2
  rw [n] at q;simp at q
theorem zhw {h:Heap}{H:Hp}{b:Addr}{o:Obj}(e:(zbz h H).get? b=some o):h.get? b=some o/\H b=none:=by
 have e':h.get? b=some o:=PySem.W.of_hideAll (trk h H) e
 refine⟨e',?_⟩
 cases q:H b with
 | none=>rfl
 | some x =>
  have hm:b∈trk h H:=List.mem_filter.mpr ⟨List.mem_range.mpr (Heap.lt_size e'),by simp [q]⟩
  have z:(zbz h H).get? b=none:=PySem.W.hideAll_none (trk h H) hm
  rw [z] at e;cases e
def zgO (g h:Heap)(L:Addr):List (Addr×Obj):=(List.range h.objs.size).filterMap fun a=>if a=L\/(g.get? a).isSome=true then none else (h.get? a).map fun o=>(a,o)
def rest (g h:Heap)(L d:Addr):List (Addr×Obj):=(zgO g h L).filter fun p=>decide (p.1≠d)
structure Mod (K:PySem.W.Frag)(mg:Str->Option Value)(base:Heap):Prop where
 kin:K.In base
 glob:base.Ns mainGlobals mg
 blt:∃ mb,base.Ns builtinsNs mb/\∀ x:Str,x≠"__name__"->mb x=bootBuiltins x
 nolimit:base.NoLimit
/-- the context: a def's body (or a comprehension's block) running. base: fixed through the whole law; s₀, H₀: the entry; outer: the frames whose slots others may change (a def's callers); stack: all frames that run;
   ex: iterators that were made ahead of the entry and are walked here (a comprehension's);fn: the names whose cells were made at the entry (a def: all;a comprehension's block: its own);calm: not within an except suite;pn: pins that every state bears;xe: what is wanted of an exception that leaves the code -/
structure Cx where
 prog:Program
 w:World
 K:PySem.W.Frag
 mg:Str->Option Value
 base:Heap
 A:Around
 N:List Str
 s₀:Shared
 H₀:Hp
 env:Env
 outer:List Env
 stack:List Env
 ex:List Addr
 fn:Str->Bool
 calm:Bool
 pn:List (Addr×Obj)
 xe:Value->Shared->Prop
def frs (l:List Env):List Addr:=l.filterMap (·.frame)
abbrev Cx.fs (X:Cx):List Addr:=frs X.outer
def Vis (sc:Scope)(x:Str):Prop:=sc.names.lookup x=some .local\/sc.names.lookup x=some .cell\/sc.names.lookup x=some .free
def Loc (sc:Scope)(x:Str):Prop:=sc.names.lookup x=some .local\/sc.names.lookup x=some .cell
def Look (env:Env)(h:Heap)(m:Str->Option Value)(x:Str)(u:Value):Prop :=
 (env.kindOf x=some .local/\m x=some u)\/((env.kindOf x=some .cell\/env.kindOf x=some .free)/\∃ c,env.cells.lookup x=some c/\h.IsCell c (some u))
structure Cx.Ok (X:Cx):Prop where
 mod:Mod X.K X.mg X.base
 kind:X.env.scope.kind=.function
 glob:X.env.globals=mainGlobals
 blt:X.env.builtins=builtinsNs
 above:X.s₀.heap.objs.size<=X.env.locals
 inj:∀ x y c,X.env.cells.lookup x=some c->X.env.cells.lookup y=some c->x=y
 has:∀ x,(X.env.kindOf x=some .cell\/X.env.kindOf x=some .free)->∃ c,X.env.cells.lookup x=some c
 cab:∀ x c,X.fn x=true->X.env.cells.lookup x=some c->X.s₀.heap.objs.size<=c
 hd:X.calm=true->X.A.handled=none
 frames:X.A.frames=some X.stack
 stk:X.stack=X.outer\/(X.stack=X.env::X.outer/\X.env.frame=some X.env.locals)
 exf:∀ b∈X.ex,b≠X.env.locals/\∀ x c,X.env.cells.lookup x=some c->c≠b
 bs:∀ b o,X.base.get? b=some o->X.s₀.heap.get? b=some o/\X.H₀ b=none
 bsz:X.base.objs.size<=X.s₀.heap.objs.size
 noex:∀ b o,X.base.get? b=some o->b∉X.ex
 exfs:∀ b∈X.ex,b∉X.fs
 funs:X.s₀.heap.FunFrames X.base X.outer
 frf:∀ b∈X.fs,X.H₀ b=none
structure Inv (X:Cx)(pins:List (Addr×Obj))(σ:List (Option V))(H:Hp)(s:Shared):Prop where
 ok:X.Ok
 os:s.os=X.s₀.os
 bare:AllBare s.gens
 base:Un X.fs X.ex X.H₀ H X.s₀.heap s.heap
 loc:∃ m,s.heap.Ns X.env.locals m/\∀ (i:Nat) (x:Str) (v:V),X.N[i]?=some x->σ[i]?=some (some v)->Vis X.env.scope x->∃ u,RelV v u/\Look X.env s.heap m x u
 cell:∀ x c,X.env.cells.lookup x=some c->∃ v,s.heap.IsCell c v
 free:H X.env.locals=none
 freeC:∀ x c,X.env.cells.lookup x=some c->H c=none
 pin:∀ p∈X.pn++pins,s.heap.get? p.1=some p.2/\H p.1=none/\p.1≠X.env.locals/\p.1∉X.fs/\∀ v,p.2.data≠.cell v
 hok:HOk X.prog X.w H s.heap
 len:σ.length=X.N.length
section
variable {X:Cx}{pins:List (Addr×Obj)}{σ:List (Option V)}{H H':Hp}{s:Shared}{h':Heap}
theorem Cx.Ok.nofr (ok:X.Ok){b:Addr}{o:Obj}(e:X.base.get? b=some o):b∉X.fs:=fun hb=>by
 have:=(ok.funs.mem hb).1
 rw [e] at this;cases this
theorem Inv.bs (I:Inv X pins σ H s):∀ b o,X.base.get? b=some o->s.heap.get? b=some o/\H b=none:=fun b o e =>
 ⟨I.base.keep b o (I.ok.bs b o e).1 (I.ok.bs b o e).2 (I.ok.nofr e) (I.ok.noex b o e),I.base.free b o (I.ok.bs b o e).1 (I.ok.bs b o e).2 (I.ok.noex b o e)⟩
theorem Inv.bk (I:Inv X pins σ H s):∀ b o,X.base.get? b=some o->s.heap.get? b=some o:=fun b o e=>(I.bs b o e).1
theorem Inv.mod (I:Inv X pins σ H s):Mod X.K X.mg X.base:=I.ok.mod
theorem Inv.kIn (I:Inv X pins σ H s):X.K.In s.heap:=I.ok.mod.kin.keeps I.bk
theorem Inv.lt (I:Inv X pins σ H s):X.env.locals<s.heap.objs.size:=let ⟨_,hn,_⟩:=I.loc;hn.lt
theorem Inv.sz (I:Inv X pins σ H s):X.s₀.heap.objs.size<=s.heap.objs.size:=Nat.le_trans I.ok.above (Nat.le_of_lt I.lt)
theorem Inv.nofs (I:Inv X pins σ H s){a:Addr}(h:s.heap.objs.size<=a):a∉X.fs:=fun hb=>by
 obtain⟨_,o,ho,_⟩:=I.ok.funs.mem hb
 exact absurd (Nat.lt_of_lt_of_le (Heap.lt_size ho) (Nat.le_trans I.sz h)) (Nat.lt_irrefl _)
theorem Inv.cne (I:Inv X pins σ H s):∀ x c,X.env.cells.lookup x=some c->c≠X.env.locals:=fun x c e z=>by
 obtain⟨v,o,ho,hd⟩:=I.cell x c e
 obtain⟨m,⟨o',es,ep,ho',hd',_⟩,_⟩:=I.loc
 rw [z,ho'] at ho;cases ho;rw [hd'] at hd;cases hd
theorem Inv.funs (I:Inv X pins σ H s):s.heap.FunFrames X.base X.outer:=by
 have all:∀ (l:List Env),(∀ b∈frs l,b∈X.fs)->X.s₀.heap.FunFrames X.base l->s.heap.FunFrames X.base l:=by
  intro l
  induction l with
  | nil=>intro _ _;trivial
  | cons env r ih =>
   intro hs hl
   obtain⟨hk,⟨L,o,hf,hn,ho,hd⟩,hr⟩:=hl
   have hL:L∈X.fs:=hs L (by unfold frs;rw [List.filterMap_cons,hf];exact List.mem_cons_self)
   obtain⟨sl,e⟩:=I.base.slot L o ho (I.ok.frf L hL) hL fun z=>I.ok.exfs L z hL
   exact⟨hk,⟨L,_,hf,hn,e,hd⟩,ih (fun b hb=>hs b (by unfold frs;rw [List.filterMap_cons,hf];exact List.mem_cons_of_mem _ hb)) hr⟩
 exact all X.outer (fun _ hb=>hb) I.ok.funs
theorem Inv.stack (I:Inv X pins σ H s):s.heap.FunFrames X.base X.stack:=by
 rcases I.ok.stk with e | ⟨e,hf⟩
 ·rw [e];exact I.funs
 ·rw [e]
  obtain⟨m,hn,_⟩:=I.loc
  refine .cons (by rw [I.ok.kind];decide) hf hn ?_ I.funs
  exact Heap.get?_none_of_le (Nat.le_trans I.ok.bsz I.ok.above)
theorem Inv.stkSub (I:Inv X pins σ H s):∀ b∈frs X.stack,b∈X.env.locals::X.fs:=fun b hb=>by
 rcases I.ok.stk with e | ⟨e,hf⟩
 ·rw [e] at hb;exact List.mem_cons_of_mem _ hb
 ·rw [e] at hb
  unfold frs at hb
  rw [List.filterMap_cons,hf] at hb
  exact hb
theorem Inv.stkFree (I:Inv X pins σ H s):∀ b∈frs X.stack,H b=none:=fun b hb=>by
 rcases List.mem_cons.mp (I.stkSub b hb) with e | hb
 ·rw [e];exact I.free
 ·obtain⟨_,o,ho,_⟩:=I.ok.funs.mem hb
  exact I.base.free b o ho (I.ok.frf b hb) fun z=>I.ok.exfs b z hb
theorem Inv.step {g':Array GenState}{t':Nat}{d':Drawn}{ch:List Addr}(I:Inv X pins σ H s)
  (hch:∀ b∈ch,(b∈X.ex\/X.s₀.heap.objs.size<=b)/\b≠X.env.locals/\(∀ x c,X.env.cells.lookup x=some c->c≠b)/\∀ p∈X.pn++pins,p.1≠b)
  (keep:∀ b o,b≠X.env.locals->b∉X.fs->b∉ch->s.heap.get? b=some o->H b=none->h'.get? b=some o)
  (slot:∀ b o,b≠X.env.locals->b∈X.fs->b∉ch->s.heap.get? b=some o->H b=none->∃ sl,h'.get? b=some { o with slots:=sl }) (free:∀ b o,b∉ch->s.heap.get? b=some o->H b=none->H' b=none)
  (there:∀ b o,b∉ch->s.heap.get? b=some o->∃ o',h'.get? b=some o')
  (tups:∀ b xs,H b=some (.tup xs)->H' b=some (.tup xs)) (frzs:∀ b o u,H b=some (.frz o u)->H' b=some (.frz o u)) (tbls:∀ b ps,H b=some (.tbl ps)->∃ more,H' b=some (.tbl (ps++more)))
  (ns:∀ m,s.heap.Ns X.env.locals m->h'.Ns X.env.locals m) (hok:HOk X.prog X.w H' h') (hg:AllBare g') :
  Inv X pins σ H' { s with heap:=h',gens:=g',drawn:=d',toks:=t' }:=by
 have neL:∀ b o,X.s₀.heap.get? b=some o->b≠X.env.locals:=fun b o e=>Nat.ne_of_lt (Nat.lt_of_lt_of_le (Heap.lt_size e) I.ok.above)
 have neC:∀ b o,X.s₀.heap.get? b=some o->b∉X.ex->b∉ch:=fun b o e hx hb=>by
  rcases (hch b hb).1 with z | z
  ·exact hx z
  ·exact absurd (Nat.lt_of_lt_of_le (Heap.lt_size e) z) (Nat.lt_irrefl _)
 have cellK:∀ x c,X.env.cells.lookup x=some c->∀ v,s.heap.IsCell c v->h'.IsCell c v:=fun x c e v ⟨o,ho,hd⟩=>by
  have nch:c∉ch:=fun z=>(hch c z).2.2.1 x c e rfl
  by_cases hc:c∈X.fs
  ·obtain⟨sl,q⟩:=slot c o (I.cne x c e) hc nch ho (I.freeC x c e)
   exact⟨_,q,hd⟩
  ·exact⟨o,keep c o (I.cne x c e) hc nch ho (I.freeC x c e),hd⟩
 refine⟨I.ok,I.os,hg,⟨fun b o e n hb hx=>?_,fun b o e n hb hx=>?_,fun b o e n hx=>?_,fun b o e hx=>?_,fun b xs e=>tups b xs (I.base.tups b xs e),fun b o xs e=>frzs b o xs (I.base.frzs b o xs e),fun b ps e=>?_⟩,?_,fun x c e=>?_,?_,fun x c e=>?_,fun p hp=>?_,hok,I.len⟩
 ·exact keep b o (neL b o e) hb (neC b o e hx) (I.base.keep b o e n hb hx) (I.base.free b o e n hx)
 ·obtain⟨sl,e1⟩:=I.base.slot b o e n hb hx
  obtain⟨sl',e2⟩:=slot b _ (neL b o e) hb (neC b o e hx) e1 (I.base.free b o e n hx)
  exact⟨sl',e2⟩
 ·obtain⟨o',e1⟩:=I.base.there b o e hx
  exact free b o' (neC b o e hx) e1 (I.base.free b o e n hx)
 ·obtain⟨o',e1⟩:=I.base.there b o e hx
  exact there b o' (neC b o e hx) e1
 ·obtain⟨m1,e1⟩:=I.base.tbls b ps e
  obtain⟨m2,e2⟩:=tbls b _ e1
  exact⟨m1++m2,by rw [e2,Array.append_assoc]⟩
 ·obtain⟨m,hn,hl⟩:=I.loc
  refine⟨m,ns m hn,fun i x v e1 e2 e3=>?_⟩
  obtain⟨u,r,l⟩:=hl i x v e1 e2 e3
  refine⟨u,r,?_⟩
  rcases l with l | ⟨k,c,e,z⟩
  ·exact .inl l
  ·exact .inr ⟨k,c,e,cellK x c e _ z⟩
 ·obtain⟨v,z⟩:=I.cell x c e
  exact⟨v,cellK x c e v z⟩
 ·obtain⟨m,⟨o,_,_,ho,_⟩,_⟩:=I.loc
  exact free _ o (fun z=>(hch _ z).2.1 rfl) ho I.free
 ·obtain⟨v,o,ho,hd⟩:=I.cell x c e
  exact free c o (fun z=>(hch c z).2.2.1 x c e rfl) ho (I.freeC x c e)
 ·obtain⟨e,n,ne,nf,d⟩:=I.pin p hp
  have nch:p.1∉ch:=fun z=>(hch p.1 z).2.2.2 p hp rfl
  exact⟨keep p.1 p.2 ne nf nch e n,free p.1 p.2 nch e n,ne,nf,d⟩
theorem Inv.un {t':Nat}(I:Inv X pins σ H s)(u:Un X.fs [] H H' s.heap h')(hok:HOk X.prog X.w H' h'):Inv X pins σ H' { s with heap:=h',toks:=t' }:=by
 obtain⟨m,⟨o,es,ep,ho,r⟩,_⟩:=id I.loc
 obtain⟨sl,hL⟩:=u.any ho I.free (by simp)
 exact I.step (g':=s.gens) (d':=s.drawn) (ch:=[]) (fun _ z=>nomatch z) (fun b o _ hb _ e n=>u.keep b o e n hb (by simp)) (fun b o _ hb _ e n=>u.slot b o e n hb (by simp)) (fun b o _ e n=>u.free b o e n (by simp)) (fun b o _ e=>u.there b o e (by simp)) u.tups u.frzs u.tbls (fun m' hm=>by
  obtain⟨o',es',ep',ho',r'⟩:=hm
  rw [ho] at ho';cases ho'
  exact⟨_,es',ep',hL,r'⟩) hok I.bare
theorem Inv.call {g':Array GenState}{t':Nat}{d':Drawn}{ch:List Addr}(I:Inv X pins σ H s)(u:Un (frs X.stack) ch H H' s.heap h')(hok:HOk X.prog X.w H' h')(hg:AllBare g')
  (hch:∀ b∈ch,(b∈X.ex\/X.s₀.heap.objs.size<=b)/\b≠X.env.locals/\(∀ x c,X.env.cells.lookup x=some c->c≠b)/\∀ p∈X.pn++pins,p.1≠b) :
  Inv X pins σ H' { s with heap:=h',gens:=g',drawn:=d',toks:=t' }:=by
 obtain⟨m,⟨o,es,ep,ho,r⟩,_⟩:=id I.loc
 obtain⟨sl,hL⟩:=u.any ho I.free fun z=>(hch _ z).2.1 rfl
 exact I.step (ch:=ch) hch (fun b o hL hb hc e n=>u.keep b o e n (fun z=>(List.mem_cons.mp (I.stkSub b z)).elim hL hb) hc) (fun b o _ _ hc e n=>u.any e n hc) (fun b o hc e n=>u.free b o e n hc) (fun b o hc e=>u.there b o e hc) u.tups u.frzs u.tbls (fun m' hm=>by
  obtain⟨o',es',ep',ho',r'⟩:=hm
  rw [ho] at ho';cases ho'
  exact⟨_,es',ep',hL,r'⟩) hok hg
theorem Inv.turned {t':Nat}{it:Addr}(I:Inv X pins σ H s)(k:∀ b o,b≠it->s.heap.get? b=some o->h'.get? b=some o)(hn:H it=none)(hL:it≠X.env.locals)
  (h1:it∈X.ex\/X.s₀.heap.objs.size<=it) (h2:∀ x c,X.env.cells.lookup x=some c->c≠it) (h3:∀ p∈X.pn++pins,p.1≠it):Inv X pins σ H { s with heap:=h',toks:=t' }:=by
 have nit:∀ b u,H b=some u->b≠it:=fun b u e z=>by rw [z,hn] at e;cases e
 refine I.step (g':=s.gens) (d':=s.drawn) (ch:=[it]) (fun b hb=>?_) (fun b o _ _ hc e _=>k b o (fun z=>hc (by simp [z])) e) (fun b o _ _ hc e _=>⟨o.slots,k b o (fun z=>hc (by simp [z])) e⟩) (fun _ _ _ _ n=>n)
  (fun b o hc e=>⟨o,k b o (fun z=>hc (by simp [z])) e⟩) (fun _ _ e=>e) (fun _ _ _ e=>e) (fun b ps e=>⟨#[],by rw [e];simp⟩) (fun m hm=>?_) (fun b u e=>?_) I.bare
 ·have e:b=it:=by simpa using hb
  subst e
  exact⟨h1,hL,h2,h3⟩
 ·obtain⟨o,es,ep,ho,r⟩:=hm
  exact⟨o,es,ep,k _ o (Ne.symm hL) ho,r⟩
 ·refine (I.hok b u e).stay (fun c v hc q=>k c v ?_ q) (fun _ q=>q) fun _ _ q=>q
  rcases hc with z | z
  ·rw [z];exact nit b u e
  ·exact nit c _ z
theorem Inv.tok (I:Inv X pins σ H s)(t:Nat):Inv X pins σ H { s with toks:=t }:=I.un (h':=s.heap) (t':=t) Un.refl I.hok
theorem Inv.kept {t':Nat}(I:Inv X pins σ H s)(k:∀ b u,s.heap.get? b=some u->h'.get? b=some u):Inv X pins σ H { s with heap:=h',toks:=t' }:=I.un (Un.kept k) (I.hok.kept k)
theorem Inv.laid {a:Addr}{o:HO}{t':Nat}(I:Inv X pins σ H s)(k:∀ b u,s.heap.get? b=some u->h'.get? b=some u)(hp:s.heap.objs.size<=a)(new:zW X.prog X.w (upd H a o) h' a o) :
  Inv X pins σ (upd H a o) { s with heap:=h',toks:=t' }:=I.un (Un.laid k hp (I.hok.fresh hp)) (I.hok.laid k hp new)
theorem Inv.write {x e:Addr}{o:HO}{t':Nat}(I:Inv X pins σ H s)(mu:Mut (H x))(he:e=x\/H e=some (.own x))(k:∀ b u,b≠e->s.heap.get? b=some u->h'.get? b=some u)(heo:∃ u,h'.get? e=some u)
  (new:zW X.prog X.w (upd H x o) h' x o):Inv X pins σ (upd H x o) { s with heap:=h',toks:=t' }:=I.un (Un.write mu he k heo) (I.hok.write mu he k heo new)
theorem Inv.weak {σ':List (Option V)}(I:Inv X pins σ H s)(hl:σ'.length=σ.length)(w:∀ (i:Nat) v,σ'[i]?=some (some v)->σ[i]?=some (some v)):Inv X pins σ' H s :=
 ⟨I.ok,I.os,I.bare,I.base,let ⟨m,hn,hl'⟩:=I.loc;⟨m,hn,fun i x v e1 e2 e3=>hl' i x v e1 (w i v e2) e3⟩,I.cell,I.free,I.freeC,I.pin,I.hok,hl.trans I.len⟩
theorem Inv.pins_of {pins':List (Addr×Obj)}(I:Inv X pins σ H s)(h:∀ p∈pins',s.heap.get? p.1=some p.2/\H p.1=none/\p.1≠X.env.locals/\p.1∉X.fs/\∀ v,p.2.data≠.cell v):Inv X pins' σ H s :=
 ⟨I.ok,I.os,I.bare,I.base,I.loc,I.cell,I.free,I.freeC,fun p hp=>(List.mem_append.mp hp).elim (fun z=>I.pin p (List.mem_append_left _ z)) (h p),I.hok,I.len⟩
theorem zcm {N:List Str}(hN:N.Nodup){i j:Nat}{x:Str}(a:N[i]?=some x)(b:N[j]?=some x):i=j:=by
 obtain⟨h1,e1⟩:=List.getElem?_eq_some_iff.mp a
 obtain⟨h2,e2⟩:=List.getElem?_eq_some_iff.mp b
 exact (List.getElem_inj hN).mp (e1.trans e2.symm)
theorem zc8 {M:Model}{A:Around}{E:Value->Shared->Prop}{i:Nat}{x:Str}{v:V}{u:Value}{Q:Unit->Shared->Prop}(I:Inv X pins σ H s)(hN:X.N.Nodup)(hi:X.N[i]?=some x)(hx:Loc X.env.scope x)(r:RelV v u)
  (h:∀ s',Inv X pins (σ.set i (some v)) H s'->(∃ a,Heap.SameBut a s.heap s'.heap/\(a=X.env.locals\/X.env.cells.lookup x=some a))->Q () s') (hf:X.fn x=true\/X.env.scope.names.lookup x=some .local:=by first | exact .inl rfl | exact .inr rfl | assumption):wpAny M A (storeName X.env x u) Q E s:=by
 obtain⟨m,hn,hl⟩:=id I.loc
 have hcls:(X.env.scope.kind==.class||(X.env.scope.kind==.module&&X.env.locals != X.env.globals))=false:=by rw [I.ok.kind];rfl
 have hiσ:i<σ.length:=by rw [I.len];exact (List.getElem?_eq_some_iff.mp hi).1
 have cne:=I.cne
 have tracked:∀ {a:Addr} {h':Heap},(∃ o,s.heap.get? a=some o/\H a=none)->Heap.SameBut a s.heap h'->HOk X.prog X.w H h':=fun {a h'} ha hs b ob e=>by
  obtain⟨_,_,hfree⟩:=ha
  refine (I.hok b ob e).stay (fun c w' hc q=>(hs.2 c ?_).trans q) (fun _ q=>q) fun _ _ q=>q
  rintro rfl
  rcases hc with rfl | hc
  ·rw [hfree] at e;cases e
  ·rw [hfree] at hc;cases hc
 rcases hx with hk | hk
 ·refine wpAny_storeName_local hk hn (fun h' hn' hs=>?_) hcls
  obtain⟨oL,_,_,hoL,_⟩:=id hn
  refine h _ ⟨I.ok,I.os,I.bare,⟨fun b o e n hb hx=>?_,fun b o e n hb hx=>?_,I.base.free,fun b o e hx=>?_,I.base.tups,I.base.frzs,I.base.tbls⟩,⟨_,hn',fun j y v' e1 e2 e3=>?_⟩,fun y c e=>?_,I.free,I.freeC,fun p hp=>?_,tracked ⟨oL,hoL,I.free⟩ hs,by simpa using I.len⟩ ⟨_,hs,.inl rfl⟩
  ·exact (hs.2 b (Nat.ne_of_lt (Nat.lt_of_lt_of_le (Heap.lt_size e) I.ok.above))).trans (I.base.keep b o e n hb hx)
  ·obtain⟨sl,e1⟩:=I.base.slot b o e n hb hx
   exact⟨sl,(hs.2 b (Nat.ne_of_lt (Nat.lt_of_lt_of_le (Heap.lt_size e) I.ok.above))).trans e1⟩
  ·obtain⟨o',e1⟩:=I.base.there b o e hx
   exact⟨o',(hs.2 b (Nat.ne_of_lt (Nat.lt_of_lt_of_le (Heap.lt_size e) I.ok.above))).trans e1⟩
  ·by_cases hj:j=i
   ·subst hj
    rw [hi] at e1;cases e1
    rw [List.getElem?_set_self hiσ] at e2
    cases e2
    exact⟨u,r,.inl ⟨hk,by simp⟩⟩
   ·rw [List.getElem?_set_ne (Ne.symm hj)] at e2
    obtain⟨u',r',q⟩:=hl j y v' e1 e2 e3
    refine⟨u',r',?_⟩
    rcases q with ⟨k,e⟩ | ⟨k,c,e,z⟩
    ·refine .inl ⟨k,?_⟩
     have:y≠x:=fun e=>hj (zcm hN e1 (e▸hi))
     simp [this,e]
    ·exact .inr ⟨k,c,e,z.sameBut hs (cne y c e)⟩
  ·obtain⟨w',z⟩:=I.cell y c e
   exact⟨w',z.sameBut hs (cne y c e)⟩
  ·obtain⟨e,n,ne,nf,d⟩:=I.pin p hp
   exact⟨(hs.2 p.1 ne).trans e,n,ne,nf,d⟩
 ·have hfn:X.fn x=true:=by
   rcases hf with z | z
   ·exact z
   ·rw [z] at hk;cases hk
  obtain⟨c,hc⟩:=I.ok.has x (.inl hk)
  obtain⟨w',z⟩:=I.cell x c hc
  refine wpAny_storeName_cell I.ok.kind hk hc z (fun h' hc' hs=>?_)
  obtain⟨oc,hoc,hocd⟩:=id z
  refine h { s with heap:=h' } ⟨I.ok,I.os,I.bare,⟨fun b o e n hb hx=>?_,fun b o e n hb hx=>?_,I.base.free,fun b o e hx=>?_,I.base.tups,I.base.frzs,I.base.tbls⟩,⟨m,hn.sameBut hs (Ne.symm (cne x c hc)),fun j y v' e1 e2 e3=>?_⟩,fun y c' e=>?_,I.free,I.freeC,fun p hp=>?_,tracked ⟨oc,hoc,I.freeC x c hc⟩ hs,by simpa using I.len⟩ ⟨c,hs,.inr hc⟩
  ·exact (hs.2 b (Nat.ne_of_lt (Nat.lt_of_lt_of_le (Heap.lt_size e) (I.ok.cab x c hfn hc)))).trans (I.base.keep b o e n hb hx)
  ·obtain⟨sl,e1⟩:=I.base.slot b o e n hb hx
   exact⟨sl,(hs.2 b (Nat.ne_of_lt (Nat.lt_of_lt_of_le (Heap.lt_size e) (I.ok.cab x c hfn hc)))).trans e1⟩
  ·obtain⟨o',e1⟩:=I.base.there b o e hx
   exact⟨o',(hs.2 b (Nat.ne_of_lt (Nat.lt_of_lt_of_le (Heap.lt_size e) (I.ok.cab x c hfn hc)))).trans e1⟩
  ·by_cases hj:j=i
   ·subst hj
    rw [hi] at e1;cases e1
    rw [List.getElem?_set_self hiσ] at e2
    cases e2
    exact⟨u,r,.inr ⟨.inl hk,c,hc,hc'⟩⟩
   ·rw [List.getElem?_set_ne (Ne.symm hj)] at e2
    obtain⟨u',r',q⟩:=hl j y v' e1 e2 e3
    refine⟨u',r',?_⟩
    rcases q with q | ⟨k,c',e,z'⟩
    ·exact .inl q
    ·refine .inr ⟨k,c',e,z'.sameBut hs ?_⟩
     rintro rfl
     exact hj (zcm hN e1 (I.ok.inj _ _ _ e hc▸hi))
  ·by_cases hcc:c'=c
   ·subst hcc;exact⟨_,hc'⟩
   ·obtain⟨w2,z2⟩:=I.cell y c' e
    exact⟨w2,z2.sameBut hs hcc⟩
  ·obtain⟨e,n,ne,nf,d⟩:=I.pin p hp
   refine⟨(hs.2 p.1 ?_).trans e,n,ne,nf,d⟩
   intro q
   rw [q,hoc] at e
   have q':oc=p.2:=Option.some.inj e
   exact d w' (by rw [<- q'];exact hocd)
theorem zcg {M:Model}{A:Around}{E:Value->Shared->Prop}{i:Nat}{x:Str}{v:V}{u:Value}{Q:Unit->Shared->Prop}(I:Inv X pins σ H s)(hN:X.N.Nodup)(hi:X.N[i]?=some x)(hx:Loc X.env.scope x)(r:RelV v u)
  (h:∀ s',Inv X pins (σ.set i (some v)) H s'->Q () s') (hf:X.fn x=true\/X.env.scope.names.lookup x=some .local:=by first | exact .inl rfl | exact .inr rfl | assumption):wpAny M A (storeName X.env x u) Q E s :=
 zc8 I hN hi hx r (fun s' I' _=>h s' I') hf
theorem Inv.call' {s':Shared}{ch:List Addr}(I:Inv X pins σ H s)(ho:s'.os=s.os)(u:Un (frs X.stack) ch H H' s.heap s'.heap)(hok:HOk X.prog X.w H' s'.heap)(hg:AllBare s'.gens)
  (hch:∀ b∈ch,(b∈X.ex\/X.s₀.heap.objs.size<=b)/\b≠X.env.locals/\(∀ x c,X.env.cells.lookup x=some c->c≠b)/\∀ p∈X.pn++pins,p.1≠b):Inv X pins σ H' s':=by
 obtain⟨h',g',d',t',o'⟩:=s'
 have e:o'=s.os:=ho
 subst e
 exact I.call (g':=g') (t':=t') (d':=d') u hok hg hch
end
abbrev XK:=Value->Option Addr->Hp->Prop
abbrev St:=List (Option V)
abbrev VK:=V->Hp->Prop
abbrev TE:=St->Hp->VK->Prop
abbrev TT:=St->Hp->(Bool->Hp->Prop)->Prop
abbrev TA:=St->Hp->(List V->Hp->Prop)->Prop
structure Ends where
 nx:St->Hp->Prop
 rt:VK
 bk:St->Hp->Prop:=fun _ _=>False
 ct:St->Hp->Prop:=fun _ _=>False
abbrev TS:=Ends->St->Hp->Prop
def EP (X:Cx)(pins:List (Addr×Obj))(σ:St)(Q:VK)(u:Value)(s':Shared):Prop:=∃ v H',Inv X pins σ H' s'/\RelV v u/\Q v H'
def TP (X:Cx)(pins:List (Addr×Obj))(σ:St)(Q:Bool->Hp->Prop)(b:Bool)(s':Shared):Prop:=∃ H',Inv X pins σ H' s'/\Q b H'
def AP (X:Cx)(pins:List (Addr×Obj))(σ:St)(Q:List V->Hp->Prop)(us:List Value)(s':Shared):Prop:=∃ vs H',Inv X pins σ H' s'/\Vals vs us/\Q vs H'
def SP (X:Cx)(pins:List (Addr×Obj))(D:Ends)(f:Flow)(s':Shared):Prop :=
 match f with
 | .next=>∃ σ' H',Inv X pins σ' H' s'/\D.nx σ' H'
 | .brk=>∃ σ' H',Inv X pins σ' H' s'/\D.bk σ' H'
 | .cont=>∃ σ' H',Inv X pins σ' H' s'/\D.ct σ' H'
 | .ret u=>∃ v σ' H',Inv X pins σ' H' s'/\RelV v u/\D.rt v H'
def PE (X:Cx)(e:Expr)(t:TE):Prop :=
 ∀ (pins:List (Addr×Obj)) (s:Shared) (σ:St) (H:Hp) (Q:VK),Inv X pins σ H s->t σ H Q->wpAny (model X.prog X.w) X.A (eval e X.env) (EP X pins σ Q) X.xe s
def PT (X:Cx)(e:Expr)(t:TT):Prop :=
 ∀ (pins:List (Addr×Obj)) (s:Shared) (σ:St) (H:Hp) (Q:Bool->Hp->Prop),Inv X pins σ H s->t σ H Q->wpAny (model X.prog X.w) X.A (isTrue e X.env (eval e X.env)) (TP X pins σ Q) X.xe s
def PW (X:Cx)(e:Expr)(t:TT):Prop :=
 ∀ (whole:Sem Value) (pins:List (Addr×Obj)) (s:Shared) (σ:St) (H:Hp) (Q:Bool->Hp->Prop),Inv X pins σ H s->t σ H Q->wpAny (model X.prog X.w) X.A (isTrue e X.env whole) (TP X pins σ Q) X.xe s
def PA (X:Cx)(es:List Expr)(t:TA):Prop :=
 ∀ (pos:Pos) (pins:List (Addr×Obj)) (s:Shared) (σ:St) (H:Hp) (Q:List V->Hp->Prop),Inv X pins σ H s->t σ H Q->wpAny (model X.prog X.w) X.A (spliced (backTo pos (starEach es X.env))) (AP X pins σ Q) X.xe s
def PS (X:Cx)(st:Stmt)(t:TS):Prop :=
 ∀ (pins:List (Addr×Obj)) (s:Shared) (σ:St) (H:Hp) (D:Ends),Inv X pins σ H s->t D σ H->wpAny (model X.prog X.w) X.A (exec st X.env) (SP X pins D) X.xe s
def PSs (X:Cx)(st:List Stmt)(t:TS):Prop :=
 ∀ (pins:List (Addr×Obj)) (s:Shared) (σ:St) (H:Hp) (D:Ends),Inv X pins σ H s->t D σ H->wpAny (model X.prog X.w) X.A (execs st X.env) (SP X pins D) X.xe s
theorem thn {α:Type}{t:Sem α}{Q Q':α->Shared->Prop}{M:Model}{A:Around}{E:Value->Shared->Prop}{s:Shared}(h:wpAny M A t Q E s)(hQ:∀ a s,Q a s->Q' a s):wpAny M A t Q' E s:=wpAny_mono h hQ fun _ _ x=>x
section
variable {X:Cx}
def zf3 (i:Nat):TE:=fun σ H Q=>∃ v,σ[i]?=some (some v)/\Q v H
def tC (v:V):TE:=fun _ H Q=>Q v H
theorem ze0 {i:Nat}{x:Str}{pos:Pos}(hN:X.N[i]?=some x)(hv:Vis X.env.scope x)(hd:(x==("__debug__":Str))=false:=by decide)(hcd:(x==("__classdict__":Str))=false:=by decide):PE X (.Name x pos) (zf3 i):=by
 intro pins s σ H Q I h
 obtain⟨v,e,h⟩:=h
 obtain⟨m,hn,hl⟩:=I.loc
 obtain⟨u,r,l⟩:=hl i x v hN e hv
 have fin:EP X pins σ Q u s:=⟨v,H,I,r,h⟩
 rcases l with ⟨hk,hm⟩ | ⟨hk,c,hc,hcell⟩
 ·exact wpAny_Name (wpAny_loadName_local I.ok.kind hk hn hm fin) hd
 ·rcases hk with hk | hk
  ·exact wpAny_Name (wpAny_loadName_cell I.ok.kind hk hc hcell fin) hd
  ·exact wpAny_Name (wpAny_loadName_free I.ok.kind hk hc hcell fin hcd) hd
theorem zdY {i j pos}:PE X (.Constant (.int i) j pos) (tC (.int i)):=fun _ _ _ H _ I h=>wpAny_Constant_int ⟨.int i,H,I.tok _,⟨_,rfl⟩,h⟩
theorem ziX {b j pos}:PE X (.Constant (.bool b) j pos) (tC (.bl b)):=fun _ _ _ H _ I h=>Constant_bool ⟨.bl b,H,I,rfl,h⟩
theorem zhA {x j pos}:PE X (.Constant (.str x) j pos) (tC (.str x)):=fun _ _ _ H _ I h=>Calls.Constant_str ⟨.str x,H,I.tok _,⟨_,rfl⟩,h⟩
def Gl (X:Cx)(x:Str):Prop:=X.env.kindOf x=some .globalImplicit
theorem zaX {E:Value->Shared->Prop}{pins:List (Addr×Obj)}{s:Shared}{σ:St}{H:Hp}{x:Str}{u:Value}{pos:Pos}{Q:Value->Shared->Prop}(I:Inv X pins σ H s)(hg:Gl X x)(hm:X.mg x=some u)(h:Q u s)
  (hd:(x==("__debug__":Str))=false:=by decide):wpAny (model X.prog X.w) X.A (eval (.Name x pos) X.env) Q E s :=
 Calls.Name_function_global I.ok.kind hg (Calls.loadGlobal_global (by rw [I.ok.glob];exact I.mod.glob.keeps I.bk) hm h) hd
theorem zbn {E:Value->Shared->Prop}{pins:List (Addr×Obj)}{s:Shared}{σ:St}{H:Hp}{x:Str}{u:Value}{pos:Pos}{Q:Value->Shared->Prop}(I:Inv X pins σ H s)(hg:Gl X x)(hm:X.mg x=none)(hv:bootBuiltins x=some u)(h:Q u s)
  (hn:x≠"__name__":=by decide) (hd:(x==("__debug__":Str))=false:=by decide):wpAny (model X.prog X.w) X.A (eval (.Name x pos) X.env) Q E s:=by
 obtain⟨mb,h1,h2⟩:=I.mod.blt
 exact Calls.Name_function_global I.ok.kind hg (Calls.loadGlobal_builtin (by rw [I.ok.glob];exact I.mod.glob.keeps I.bk) hm (by rw [I.ok.blt];exact h1.keeps I.bk) ((h2 x hn).trans hv) h) hd
theorem zew {x:Str}{v:V}{u:Value}{pos:Pos}(hg:Gl X x)(hm:X.mg x=some u)(r:RelV v u)(hd:(x==("__debug__":Str))=false:=by decide):PE X (.Name x pos) (tC v) :=
 fun _ _ _ H _ I h=>zaX I hg hm ⟨v,H,I,r,h⟩ hd
theorem zhn {x:Str}{v:V}{u:Value}{pos:Pos}(hg:Gl X x)(hm:X.mg x=none)(hv:bootBuiltins x=some u)(r:RelV v u)(hn:x≠"__name__":=by decide)(hd:(x==("__debug__":Str))=false:=by decide):PE X (.Name x pos) (tC v) :=
 fun _ _ _ H _ I h=>zbn I hg hm hv ⟨v,H,I,r,h⟩ hn hd
variable {a b:Expr}{ta tb:TE}{pos:Pos}
def tB (t:TE):TT:=fun σ H Q=>t σ H fun x H1=>∃ c,x=.bl c/\Q c H1
theorem ziB {e:Expr}{t:TE}(h:PE X e t)(he:∀ whole,isTrue e X.env whole=(do let v <- whole;standAt e.pos;holding [v] (truthy v)):=by intro _;rfl):PT X e (tB t):=by
 intro pins s σ H Q I hw
 refine isTrue_plain (thn (h pins s σ H _ I hw) fun v s1 ⟨x,H1,I1,r1,q1⟩=>?_) (he _)
 obtain⟨d,rfl,q⟩:=q1
 cases r1
 exact wpAny_truthy_bool ⟨H1,I1,q⟩
variable {tA tB':TT}{rest:List Expr}
def zjY (t u:TT):TT:=fun σ H Q=>t σ H fun c H1=>if c=true then u σ H1 Q else Q false H1
def tOr (t u:TT):TT:=fun σ H Q=>t σ H fun c H1=>if c=true then Q true H1 else u σ H1 Q
def zkc (t:TT):TT:=fun σ H Q=>t σ H fun c H1=>Q (!c) H1
theorem zhd (ha:PT X a tA):PW X (.BoolOp .And [a] pos) tA:=by
 intro wh pins s σ H Q I h
 refine isTrue_and (thn (ha pins s σ H Q I h) fun c s1 e=>?_)
 cases c with
 | true=>exact isTrue_and_nil e
 | false=>exact e
theorem zhJ (ha:PT X a tA):PW X (.BoolOp .Or [a] pos) tA:=by
 intro wh pins s σ H Q I h
 refine isTrue_or (thn (ha pins s σ H Q I h) fun c s1 e=>?_)
 cases c with
 | false=>exact isTrue_or_nil e
 | true=>exact e
theorem zhF (ha:PT X a tA)(hb:PW X (.BoolOp .And (b::rest) pos) tB'):PW X (.BoolOp .And (a::b::rest) pos) (zjY tA tB'):=by
 intro wh pins s σ H Q I h
 refine isTrue_and (thn (ha pins s σ H _ I h) fun c s1 ⟨H1,I1,q1⟩=>?_)
 cases c with
 | true=>exact hb wh pins s1 σ H1 Q I1 q1
 | false=>exact⟨H1,I1,q1⟩
theorem zi6 (ha:PT X a tA)(hb:PW X (.BoolOp .Or (b::rest) pos) tB'):PW X (.BoolOp .Or (a::b::rest) pos) (tOr tA tB'):=by
 intro wh pins s σ H Q I h
 refine isTrue_or (thn (ha pins s σ H _ I h) fun c s1 ⟨H1,I1,q1⟩=>?_)
 cases c with
 | true=>exact⟨H1,I1,q1⟩
 | false=>exact hb wh pins s1 σ H1 Q I1 q1
theorem zhE (ha:PT X a tA):PT X (.UnaryOp .Not a pos) (zkc tA):=by
 intro pins s σ H Q I h
 exact isTrue_not (ha pins s σ H (fun c H1=>Q (!c) H1) I h)
def zkg (ta tb:TE):TE:=fun σ H Q=>ta σ H fun x H1=>∃ c,x=.bl c/\if c=true then Q (.bl true) H1 else tb σ H1 Q
theorem zhD {op}{t:TE}(h:PE X a t):PE X (.BoolOp op [a] pos) t:=fun pins s σ H Q I hw=>BoolOp_one (h pins s σ H Q I hw)
theorem zi3 (ha:PE X a ta)(hb:PE X (.BoolOp .Or (b::rest) pos) tb):PE X (.BoolOp .Or (a::b::rest) pos) (zkg ta tb):=by
 intro pins s σ H Q I h
 refine BoolOp_or (thn (ha pins s σ H _ I h) fun v s1 ⟨x,H1,I1,r1,q1⟩=>?_)
 obtain⟨c,rfl,q1⟩:=q1
 cases r1
 refine wpAny_truthy_bool ?_
 cases c with
 | false=>exact hb pins s1 σ H1 Q I1 q1
 | true=>exact⟨.bl true,H1,I1,rfl,q1⟩
def tIf (t:TT)(ta tb:TE):TE:=fun σ H Q=>t σ H fun c H1=>if c=true then ta σ H1 Q else tb σ H1 Q
theorem zfR {c:Expr}(hc:PT X c tA)(ha:PE X a ta)(hb:PE X b tb):PE X (.IfExp c a b pos) (tIf tA ta tb):=by
 intro pins s σ H Q I h
 refine wpAny_IfExp (thn (hc pins s σ H _ I h) fun d s1 ⟨H1,I1,q1⟩=>?_)
 cases d with
 | true=>exact ha pins s1 σ H1 Q I1 q1
 | false=>exact hb pins s1 σ H1 Q I1 q1
end
def SqL (K:PySem.W.Frag)(H:Hp)(a:Addr)(xs:List V):Prop :=
 Rd H a (.lst xs) \/
  ∃ (o:Obj) (its:Array Value) (n:Nat),K.lookup a=some o/\o.cls=.type "list"/\o.dict=none/\o.data=.seq its n/\its.size<=sizeLine/\Vals xs its.toList
def SqT (K:PySem.W.Frag)(H:Hp)(a:Addr)(xs:List V):Prop :=
 Rd H a (.tup xs) \/
  ∃ (o:Obj) (its:Array Value) (n:Nat),K.lookup a=some o/\o.cls=.type "tuple"/\o.data=.seq its n/\its.size<=sizeLine/\Vals xs its.toList
def zjR:Value->Option V
 | .none=>some .non
 | .bool b=>some (.bl b)
 | .int i _=>some (.int i)
 | .str x _=>some (.str x)
 | .bytes b _=>some (.byt b)
 | .float b _=>some (.flt b)
 | .ref a=>some (.ref a)
 | .type n=>some (.ty n)
 | _=>none
theorem RelV.abs {x:V}{u:Value}(r:RelV x u):zjR u=some x:=by
 cases x with
 | non=>cases r;rfl
 | bl _=>cases r;rfl
 | int _=>obtain⟨t,rfl⟩:=r;rfl
 | str _=>obtain⟨t,rfl⟩:=r;rfl
 | byt _=>obtain⟨t,rfl⟩:=r;rfl
 | flt _=>obtain⟨t,rfl⟩:=r;rfl
 | ref _=>cases r;rfl
 | ty _=>cases r;rfl
theorem RelV.inj {x y:V}{u:Value}(r:RelV x u)(q:RelV y u):x=y:=Option.some.inj (r.abs.symm.trans q.abs)
theorem Vals.inj:∀ {xs ys:List V} {us:List Value},Vals xs us->Vals ys us->xs=ys
 | _,_,_,.nil,.nil=>rfl
 | _,_,_,.cons r t,.cons r' t'=>by rw [r.inj r',Vals.inj t t']
section
variable {X:Cx}{pins:List (Addr×Obj)}{σ:St}{H:Hp}{s:Shared}{a:Addr}{xs ys:List V}
theorem SqL.of {K:PySem.W.Frag}(h:H a=some (.lst xs)):SqL K H a xs:=.inl (.inl h)
theorem SqT.of {K:PySem.W.Frag}(h:H a=some (.tup xs)):SqT K H a xs:=.inl (.inl h)
theorem Inv.list (I:Inv X pins σ H s)(h:SqL X.K H a xs):∃ its:List Value,Vals xs its/\PlainL s.heap a its.toArray/\xs.length<=sizeLine:=by
 rcases h with h | ⟨o,its,n,hk,hc,hd,hs,hz,r⟩
 ·obtain⟨z,its,n,r,e⟩:=h.ok I.hok
  exact⟨its,r,⟨_,n,e,rfl,rfl,rfl⟩,z⟩
 ·refine⟨its.toList,r,⟨o,n,I.kIn a o hk,hc,hd,by simpa using hs⟩,?_⟩
  have e:=r.length
  simp only [Array.length_toList] at e
  omega
theorem Inv.tuple (I:Inv X pins σ H s)(h:SqT X.K H a xs):∃ its:List Value,Vals xs its/\IsTup s.heap a its.toArray/\xs.length<=sizeLine:=by
 rcases h with h | ⟨o,its,n,hk,hc,hs,hz,r⟩
 ·obtain⟨z,its,r,p⟩:=h.ok I.hok
  exact⟨its,r,p,z⟩
 ·refine⟨its.toList,r,⟨o,I.kIn a o hk,hc,n,by simpa using hs⟩,?_⟩
  have e:=r.length
  simp only [Array.length_toList] at e
  omega
theorem Inv.list_inj (I:Inv X pins σ H s)(h:SqL X.K H a xs)(h':SqL X.K H a ys):xs=ys:=by
 obtain⟨its,r,⟨o,n,e,_,_,d⟩,_⟩:=I.list h
 obtain⟨its',r',⟨o',n',e',_,_,d'⟩,_⟩:=I.list h'
 rw [e] at e';cases e'
 rw [d] at d'
 injection d' with d1 _
 have:its=its':=by simpa using congrArg Array.toList d1
 subst this
 exact r.inj r'
theorem Inv.tuple_inj (I:Inv X pins σ H s)(h:SqT X.K H a xs)(h':SqT X.K H a ys):xs=ys:=by
 obtain⟨its,r,⟨o,e,_,n,d⟩,_⟩:=I.tuple h
 obtain⟨its',r',⟨o',e',_,n',d'⟩,_⟩:=I.tuple h'
 rw [e] at e';cases e'
 rw [d] at d'
 injection d' with d1 _
 have:its=its':=by simpa using congrArg Array.toList d1
 subst this
 exact r.inj r'
end
abbrev Cx.wish (X:Cx)(E:Value->Shared->Prop):Cx:={ X with xe:=E }
abbrev Cx.nox (X:Cx):Cx:=X.wish fun _ _=>False
theorem Cx.Ok.wish {X:Cx}(ok:X.Ok)(E:Value->Shared->Prop):(X.wish E).Ok :=
 ⟨ok.mod,ok.kind,ok.glob,ok.blt,ok.above,ok.inj,ok.has,ok.cab,ok.hd,ok.frames,ok.stk,ok.exf,ok.bs,ok.bsz,ok.noex,ok.exfs,ok.funs,ok.frf⟩
theorem Cx.Ok.unwish {X:Cx}{E:Value->Shared->Prop}(ok:(X.wish E).Ok):X.Ok :=
 ⟨ok.mod,ok.kind,ok.glob,ok.blt,ok.above,ok.inj,ok.has,ok.cab,ok.hd,ok.frames,ok.stk,ok.exf,ok.bs,ok.bsz,ok.noex,ok.exfs,ok.funs,ok.frf⟩
section
variable {X:Cx}{pins:List (Addr×Obj)}{σ:St}{H:Hp}{s:Shared}{E:Value->Shared->Prop}
theorem Inv.wish (I:Inv X pins σ H s)(E:Value->Shared->Prop):Inv (X.wish E) pins σ H s:=⟨I.ok.wish E,I.os,I.bare,I.base,I.loc,I.cell,I.free,I.freeC,I.pin,I.hok,I.len⟩
theorem Inv.unwish (I:Inv (X.wish E) pins σ H s):Inv X pins σ H s:=⟨I.ok.unwish,I.os,I.bare,I.base,I.loc,I.cell,I.free,I.freeC,I.pin,I.hok,I.len⟩
theorem SP.unwish {D:Ends}{f:Flow}{s':Shared}(h:SP (X.wish E) pins D f s'):SP X pins D f s':=by
 cases f with
 | next=>obtain⟨σ',H',I,q⟩:=h;exact⟨σ',H',I.unwish,q⟩
 | brk=>obtain⟨σ',H',I,q⟩:=h;exact⟨σ',H',I.unwish,q⟩
 | cont=>obtain⟨σ',H',I,q⟩:=h;exact⟨σ',H',I.unwish,q⟩
 | ret u=>obtain⟨v,σ',H',I,r,q⟩:=h;exact⟨v,σ',H',I.unwish,r,q⟩
theorem PSs.nox {st:List Stmt}{t:TS}(h:PSs X.nox st t):PSs X st t:=fun pins s σ H D I hw =>
 wpAny_mono (h pins s σ H D (I.wish _) hw) (fun _ _ q=>q.unwish) fun _ _ z=>False.elim z
end
section
variable {X:Cx}{st:Stmt}{rest:List Stmt}{t u:TS}{e:Expr}{te:TE}{pos:Pos}
def zjd:TS:=fun D σ H=>D.nx σ H
def zkh (t u:TS):TS:=fun D σ H=>t { D with nx:=u D } σ H
theorem zhi:PSs X [] zjd:=fun _ _ σ H _ I h=>wpAny_execs_nil ⟨σ,H,I,h⟩
theorem zfU (h1:PS X st t)(h2:PSs X rest u):PSs X (st::rest) (zkh t u):=by
 intro pins s σ H D I h
 refine wpAny_execs_cons (thn (h1 pins s σ H { D with nx:=u D } I h) fun f s1 q=>?_)
 cases f with
 | next =>
  obtain⟨σ',H',I',q⟩:=q
  exact h2 pins s1 σ' H' D I' q
 | ret v=>exact q
 | brk=>exact q
 | cont=>exact q
theorem zgH (h1:PS X st t):PSs X [st] t:=by
 intro pins s σ H D I h
 refine wpAny_execs_cons (thn (h1 pins s σ H D I h) fun f s1 q=>?_)
 cases f with
 | next=>exact wpAny_execs_nil q
 | ret v=>exact q
 | brk=>exact q
 | cont=>exact q
def zj1 (te:TE):TS:=fun D σ H=>te σ H D.rt
theorem ziD (he:PE X e te):PS X (.Return (some e) pos) (zj1 te):=by
 intro pins s σ H D I h
 exact wpAny_Return_some (thn (he pins s σ H _ I h) fun v s1 ⟨x,H1,I1,r1,q1⟩=>⟨x,σ,H1,I1,r1,q1⟩)
def zjP (c:TT)(t u:TS):TS:=fun D σ H=>c σ H fun b H1=>if b=true then t D σ H1 else u D σ H1
theorem zi5 {c:Expr}{a b:List Stmt}{tc:TT}(hc:PT X c tc)(ha:PSs X a t)(hb:PSs X b u):PS X (.If c a b pos) (zjP tc t u):=by
 intro pins s σ H D I h
 refine wpAny_If (thn (hc pins s σ H _ I h) fun d s1 ⟨H1,I1,q1⟩=>?_)
 cases d with
 | true=>exact ha pins s1 σ H1 D I1 q1
 | false=>exact hb pins s1 σ H1 D I1 q1
end
abbrev TG:=V->St->Hp->(St->Hp->Prop)->Prop
abbrev TGs:=List V->St->Hp->(St->Hp->Prop)->Prop
def PG (X:Cx)(target:Expr)(t:TG):Prop :=
 ∀ (pins:List (Addr×Obj)) (s:Shared) (σ:St) (H:Hp) (v:V) (u:Value) (Q:St->Hp->Prop),Inv X pins σ H s->RelV v u->t v σ H Q ->
  wpAny (model X.prog X.w) X.A (assign target X.env u) (fun _ s'=>∃ σ' H',Inv X pins σ' H' s'/\Q σ' H') X.xe s
def PGs (X:Cx)(ts:List Expr)(t:TGs):Prop :=
 ∀ (pins:List (Addr×Obj)) (s:Shared) (σ:St) (H:Hp) (vs:List V) (us:List Value) (Q:St->Hp->Prop),Inv X pins σ H s->Vals vs us->t vs σ H Q ->
  wpAny (model X.prog X.w) X.A (assignInOrder ((assignEach ts X.env).map (·.2)) us) (fun _ s'=>∃ σ' H',Inv X pins σ' H' s'/\Q σ' H') X.xe s
section
variable {X:Cx}{pos:Pos}
def zB (i:Nat):TG:=fun v σ H Q=>Q (σ.set i (some v)) H
theorem zcW {i:Nat}{x:Str}(hN:X.N.Nodup)(hi:X.N[i]?=some x)(hx:Loc X.env.scope x)(hf:X.fn x=true\/X.env.scope.names.lookup x=some .local:=by first | exact .inl rfl | exact .inr rfl | assumption):PG X (.Name x pos) (zB i):=by
 intro pins s σ H v u Q I r h
 exact wpAny_assign_Name (zcg I hN hi hx r (fun s' I'=>⟨_,H,I',h⟩) hf)
def zdp:TGs:=fun vs σ H Q=>vs=[]/\Q σ H
def zb3 (t:TG)(u:TGs):TGs:=fun vs σ H Q=>∃ v r,vs=v::r/\t v σ H fun σ' H'=>u r σ' H' Q
theorem zhf:PGs X [] zdp:=by
 intro pins s σ H vs us Q I r h
 obtain⟨e,h⟩:=h
 subst e
 cases r
 exact assignInOrder_nil ⟨σ,H,I,h⟩
theorem zfZ {e:Expr}{es:List Expr}{t:TG}{u:TGs}(h1:PG X e t)(h2:PGs X es u)
  (hs:(assignEach (e::es) X.env).map (·.2)=assign e X.env::(assignEach es X.env).map (·.2):=by rfl):PGs X (e::es) (zb3 t u):=by
 intro pins s σ H vs us Q I r h
 obtain⟨v,vr,e1,h⟩:=h
 subst e1
 cases r with
 | cons r rr =>
  rw [hs]
  refine assignInOrder_cons (thn (h1 pins s σ H _ _ _ I r h) fun _ s1 ⟨σ1,H1,I1,q1⟩=>?_)
  exact h2 pins s1 σ1 H1 _ _ Q I1 rr q1
def zds (K:PySem.W.Frag)(n:Nat)(t:TGs):TG:=fun v σ H Q=>∃ a xs,v=.ref a/\SqT K H a xs/\xs.length=n/\t xs σ H Q
theorem zh1 {es:List Expr}{k:Nat}{t:TGs}{n:Nat}(hc:X.calm=true)(h:PGs X es t)
  (hn:(assignEach es X.env).length=n:=by rfl) (hst:(assignEach es X.env).findIdx? (·.1)=none:=by rfl):PG X (.Tuple es k pos) (zds X.K n t):=by
 intro pins s σ H v u Q I r hw
 obtain⟨a,xs,e1,hq,hl,hw⟩:=hw
 subst e1
 cases r
 obtain⟨its,rv,ht,hz⟩:=I.tuple hq
 refine assign_Tuple_tuple (I.ok.hd hc) ht (by simp [hn,<- hl,rv.length]) hst fun h' hx=>?_
 have I1:Inv X pins σ H { s with heap:=h' }:=I.kept (t':=s.toks) fun b o e=>hx b o (Nat.ne_of_lt (Heap.lt_size e)) e
 exact h pins _ σ H xs _ Q I1 (by simpa using rv) hw
def zgb (te:TE)(g:TG):TS:=fun D σ H=>te σ H fun x H1=>g x σ H1 D.nx
theorem ziA {tg e:Expr}{te:TE}{g:TG}(he:PE X e te)(hg:PG X tg g)(hs:swapsWithSole [tg] e pos.line X.env=pure false:=by rfl)(hw:swappedStores [tg] e X.env=pure none:=by rfl)
  (h1:(assignEach [tg] X.env).map (·.2)=[assign tg X.env]:=by rfl):PS X (.Assign [tg] e pos) (zgb te g):=by
 intro pins s σ H D I h
 refine wpAny_Assign_stores (thn (he pins s σ H _ I h) fun v s1 ⟨x,H1,I1,r1,q1⟩=>?_) hs hw
 rw [h1]
 exact thn (hg pins s1 σ H1 x v _ I1 r1 q1) fun _ s2 q=>q
theorem zh2 {i:Nat}{x:Str}{e:Expr}{te:TE}{pos':Pos}(hN:X.N.Nodup)(hi:X.N[i]?=some x)(hx:Loc X.env.scope x)(he:PE X e te)(hs:swapsWith e (some (.Name x pos')) pos.line X.env=pure false:=by rfl)(hf:X.fn x=true\/X.env.scope.names.lookup x=some .local:=by first | exact .inl rfl | exact .inr rfl | assumption) :
  PS X (.Assign [.Name x pos'] e pos) (zgb te (zB i)):=by
 intro pins s σ H D I h
 refine wpAny_Assign_Name (thn (he pins s σ H _ I h) fun v s1 ⟨y,H1,I1,r1,q1⟩=>?_) hs
 exact zcg I1 hN hi hx r1 (fun s2 I2=>⟨_,H1,I2,q1⟩) hf
end
section
variable {X:Cx}{pos:Pos}
end
structure It where
 go:Nat->Hp->Prop
 yld:Nat->Hp->V->Hp->Prop
 stop:Nat->Hp->Prop
def zbE (X:Cx)(pins:List (Addr×Obj))(H:Hp)(b:Addr):Prop :=
 H b=none/\b≠X.env.locals/\b∉X.fs/\(b∈X.ex\/X.s₀.heap.objs.size<=b)/\(∀ x c,X.env.cells.lookup x=some c->c≠b)/\∀ p∈X.pn++pins,p.1≠b
theorem Inv.fpOk {X:Cx}{pins:List (Addr×Obj)}{σ:St}{H H':Hp}{s:Shared}{b:Addr}(I:Inv X pins σ H s)(hb:s.heap.objs.size<=b)(hn:H' b=none):zbE X pins H' b:=by
 refine⟨hn,Nat.ne_of_gt (Nat.lt_of_lt_of_le I.lt hb),I.nofs hb,.inr (Nat.le_trans I.sz hb),fun x c e z=>?_,fun p hp z=>?_⟩
 ·obtain⟨v,q⟩:=I.cell x c e
  exact absurd (Nat.lt_of_lt_of_le q.lt (by rw [z];exact hb)) (Nat.lt_irrefl _)
 ·exact absurd (Nat.lt_of_lt_of_le (Heap.lt_size (I.pin p hp).1) (by rw [z];exact hb)) (Nat.lt_irrefl _)
structure Turn (P:Program)(w:World)(K:PySem.W.Frag)(tg:Expr)(J:It)(fp:List Addr)(it:Addr)(tn:Nat->Heap->Prop):Prop where
 mem:it∈fp
 obj:∀ i h,tn i h->∀ b∈fp,∃ o,h.get? b=some o/\∀ v,o.data≠.cell v
 keep:∀ i h h',tn i h->(∀ b∈fp,∀ o,h.get? b=some o->h'.get? b=some o)->tn i h'
 item:∀ (X:Cx),X.prog=P->X.w=w->X.K=K->X.calm=true->∀ (i:Nat) (pins:List (Addr×Obj)) (s:Shared) (σ:St) (H:Hp) (E:Value->Shared->Prop),Inv X pins σ H s->(∀ b∈fp,zbE X pins H b)->tn i s.heap->J.go i H ->
  wpAny (model P w) X.A (pyNext (.ref it)) (fun r s1=>∃ u,r=some u /\
   wpAny (model P w) X.A (letOwnedTupleGo tg (.ref it) u) (fun _ s2=>∃ x H',Inv X pins σ H' s2/\RelV x u/\J.yld i H x H'/\tn (i+1) s2.heap/\∀ b∈fp,H' b=none) E s1) E s
 done:∀ (X:Cx),X.prog=P->X.w=w->X.K=K->X.calm=true->∀ (i:Nat) (pins:List (Addr×Obj)) (s:Shared) (σ:St) (H:Hp) (E:Value->Shared->Prop),Inv X pins σ H s->(∀ b∈fp,zbE X pins H b)->tn i s.heap->J.stop i H ->
  wpAny (model P w) X.A (pyNext (.ref it)) (fun r s1=>r=none/\Inv X pins σ H s1) E s
 self:∀ (A:Around) (i:Nat) (s:Shared) (Q:Value->Shared->Prop) (E:Value->Shared->Prop),tn i s.heap->Q (.ref it) s->wpAny (model P w) A (pyIter (.ref it)) Q E s
abbrev TI:=St->Hp->(It->Hp->Prop)->Prop
def PIE (X:Cx)(pins:List (Addr×Obj))(σ:St)(tg:Expr)(R:It->Hp->Prop)(itv:Value)(s2:Shared):Prop :=
 ∃ (it:Addr) (fp:List Addr) (tn:Nat->Heap->Prop) (J:It) (H':Hp),itv=.ref it/\Inv X pins σ H' s2/\Turn X.prog X.w X.K tg J fp it tn/\tn 0 s2.heap/\(∀ b∈fp,zbE X pins H' b)/\R J H'
def PI (X:Cx)(tg iter:Expr)(wi:TI):Prop :=
 ∀ (pins:List (Addr×Obj)) (s:Shared) (σ:St) (H:Hp) (R:It->Hp->Prop),Inv X pins σ H s->wi σ H R ->
  wpAny (model X.prog X.w) X.A (eval iter X.env) (fun v s1=>wpAny (model X.prog X.w) X.A (pyIter v) (PIE X pins σ tg R) X.xe s1) X.xe s
theorem zcA {M:Model}{A:Around}{E:Value->Shared->Prop}{s:Shared}{tg:Expr}{it:Addr}{u:Value}{o:Obj}{n:String}{vs:Array Value}{Q:Unit->Shared->Prop}(ho:s.heap.get? it=some o)(hc:o.cls=.type n)(hd:o.data=.fields vs)
    (hn:["enumerate","zip","dict_itemiterator","dict_reverseitemiterator","odict_iterator","itertools.zip_longest","itertools.pairwise"].contains n=false) (hQ:Q () s):wpAny M A (letOwnedTupleGo tg (.ref it) u) Q E s:=by
  unfold letOwnedTupleGo
  cases tg<;>first
    | exact wpAny_pure hQ
    | (cases u <;> first
        | exact wpAny_pure hQ
        | (refine wpAny_bind (wpAny_load ho ?_)
           rw [hc,hd]
           show wpAny M A (if (["enumerate","zip","dict_itemiterator","dict_reverseitemiterator","odict_iterator","itertools.zip_longest","itertools.pairwise"].contains n&&vs[0]?==some (rawInt _))=true then _ else _) Q E s
           rw [if_neg (by intro h;rw [hn,Bool.false_and] at h;cases h)]
           exact wpAny_pure hQ))
def Itl (K:PySem.W.Frag)(a:Addr):It :=
 ⟨fun i H=>∃ xs x,SqL K H a xs/\xs[i]?=some x,fun i H x H'=>H'=H/\∀ xs,SqL K H a xs->xs[i]?=some x,fun i H=>∃ xs,SqL K H a xs/\xs.length<=i⟩
def Itt (K:PySem.W.Frag)(a:Addr):It :=
 ⟨fun i H=>∃ xs x,SqT K H a xs/\xs[i]?=some x,fun i H x H'=>H'=H/\∀ xs,SqT K H a xs->xs[i]?=some x,fun i H=>∃ xs,SqT K H a xs/\xs.length<=i⟩
def Itr (lo:Int)(n:Nat):It:=⟨fun i _=>i<n,fun i H x H'=>H'=H/\x=.int (lo+i),fun i _=>n<=i⟩
theorem zfd {P:Program}{w:World}{K:PySem.W.Frag}{tg:Expr}(a it:Addr):Turn P w K tg (Itl K a) [it] it (fun i h=>h.IsListIter it a i) where
 mem:=by simp
 obj:=fun i h st b hb=>by
  have e:b=it:=by simpa using hb
  subst e
  obtain⟨o,e,c,d⟩:=st
  exact⟨o,e,fun v z=>by rw [d] at z;cases z⟩
 keep:=fun i h h' st k=>st.at fun o e=>k it (by simp) o e
 item:=by
  intro X hP hw hK hc i pins s σ H E I hf st hg
  subst hP hw hK
  obtain⟨xs,x,hq,hx⟩:=hg
  obtain⟨its,rv,p,hz⟩:=I.list hq
  obtain⟨u,hu,ru⟩:=rv.get hx
  obtain⟨f0,f1,f2,f3,f4,f5⟩:=hf it (by simp)
  refine wpAny_pyNext_list_item st p.isList (x:=u) (by simpa using hu) fun h' st' sb=>?_
  have I1:Inv X pins σ H { s with heap:=h' }:=I.turned (t':=s.toks) (fun b o hb e=>(sb.2 b hb).trans e) f0 f1 f3 f4 f5
  obtain⟨o,e,c,d⟩:=id st'
  exact⟨u,rfl,zcA (s:={ s with heap:=h' }) e c d (by decide) ⟨x,H,I1,ru,⟨rfl,fun ys hy=>by rw [I.list_inj hy hq];exact hx⟩,st',fun b hb=>(hf b hb).1⟩⟩
 done:=by
  intro X hP hw hK hc i pins s σ H E I hf st hg
  subst hP hw hK
  obtain⟨xs,hq,hx⟩:=hg
  obtain⟨its,rv,p,hz⟩:=I.list hq
  obtain⟨f0,f1,f2,f3,f4,f5⟩:=hf it (by simp)
  have hl:=rv.length
  exact wpAny_pyNext_list_end (I.ok.hd hc) st p.isList (by simp;omega) fun h' eb=>⟨rfl,I.turned (t':=s.toks) (fun b o hb e=>eb b o hb e) f0 f1 f3 f4 f5⟩
 self:=fun _ _ _ _ _ st h=>wpAny_pyIter_listiter st h
theorem zeT {P:Program}{w:World}{K:PySem.W.Frag}{tg:Expr}(a it:Addr):Turn P w K tg (Itt K a) [it] it (fun i h=>h.IsTupleIter it a i) where
 mem:=by simp
 obj:=fun i h st b hb=>by
  have e:b=it:=by simpa using hb
  subst e
  obtain⟨o,e,c,d⟩:=st
  exact⟨o,e,fun v z=>by rw [d] at z;cases z⟩
 keep:=fun i h h' st k=>st.at fun o e=>k it (by simp) o e
 item:=by
  intro X hP hw hK hc i pins s σ H E I hf st hg
  subst hP hw hK
  obtain⟨xs,x,hq,hx⟩:=hg
  obtain⟨its,rv,p,hz⟩:=I.tuple hq
  obtain⟨u,hu,ru⟩:=rv.get hx
  obtain⟨f0,f1,f2,f3,f4,f5⟩:=hf it (by simp)
  refine wpAny_pyNext_tuple_item st (show s.heap.IsTuple a its.toArray from p) (x:=u) (by simpa using hu) fun h' st' sb=>?_
  have I1:Inv X pins σ H { s with heap:=h' }:=I.turned (t':=s.toks) (fun b o hb e=>(sb.2 b hb).trans e) f0 f1 f3 f4 f5
  obtain⟨o,e,c,d⟩:=id st'
  exact⟨u,rfl,zcA (s:={ s with heap:=h' }) e c d (by decide) ⟨x,H,I1,ru,⟨rfl,fun ys hy=>by rw [I.tuple_inj hy hq];exact hx⟩,st',fun b hb=>(hf b hb).1⟩⟩
 done:=by
  intro X hP hw hK hc i pins s σ H E I hf st hg
  subst hP hw hK
  obtain⟨xs,hq,hx⟩:=hg
  obtain⟨its,rv,p,hz⟩:=I.tuple hq
  obtain⟨f0,f1,f2,f3,f4,f5⟩:=hf it (by simp)
  have hl:=rv.length
  exact wpAny_pyNext_tuple_end (I.ok.hd hc) st (show s.heap.IsTuple a its.toArray from p) (by simp;omega) fun h' eb=>⟨rfl,I.turned (t':=s.toks) (fun b o hb e=>eb b o hb e) f0 f1 f3 f4 f5⟩
 self:=fun _ _ _ _ _ st h=>wpAny_pyIter_tupleiter st h
theorem zeD {P:Program}{w:World}{K:PySem.W.Frag}{tg:Expr}(it:Addr)(lo:Int)(n:Nat):Turn P w K tg (Itr lo n) [it] it (fun i h=>IsRangeIter h it (lo+(i:Nat)*1) ((n:Int)-(i:Nat)) 1) where
 mem:=by simp
 obj:=fun i h st b hb=>by
  have e:b=it:=by simpa using hb
  subst e
  exact⟨_,st,fun v z=>by
   have z':Data.fields _=Data.cell v:=z
   cases z'⟩
 keep:=fun i h h' st k=>k it (by simp) _ st
 item:=by
  intro X hP hw hK hc i pins s σ H E I hf st hg
  subst hP hw hK
  obtain⟨f0,f1,f2,f3,f4,f5⟩:=hf it (by simp)
  have W:=Walks.range (prog:=X.prog) (w:=X.w) (I.ok.hd hc) it lo 1 n
  refine W.item i s _ _ hg st fun v h' tk hv st' kk=>?_
  obtain⟨t,rfl⟩:=hv
  have I1:Inv X pins σ H { s with heap:=h',toks:=tk }:=I.turned (fun b o hb e=>kk b o (by simpa using hb) e) f0 f1 f3 f4 f5
  refine⟨_,rfl,zcA (s:={ s with heap:=h',toks:=tk }) (n:="range_iterator") st' rfl rfl (by decide) ⟨.int (lo+i),H,I1,⟨t,?_⟩,⟨rfl,rfl⟩,st',fun b hb=>(hf b hb).1⟩⟩
  rw [Int.mul_one]
 done:=by
  intro X hP hw hK hc i pins s σ H E I hf st hg
  subst hP hw hK
  obtain⟨f0,f1,f2,f3,f4,f5⟩:=hf it (by simp)
  exact wpAny_pyNext_range_end (I.ok.hd hc) st (by have:n<=i:=hg;omega) fun h' eb=>⟨rfl,I.turned (t':=s.toks) (fun b o hb e=>eb b o hb e) f0 f1 f3 f4 f5⟩
 self:=fun _ _ _ _ _ st h=>wpAny_pyIter_rangeiter st h
section
variable {X:Cx}{tg:Expr}
theorem zfL {pins:List (Addr×Obj)}{σ:St}{H:Hp}{s:Shared}{R:It->Hp->Prop}{E:Value->Shared->Prop}{lo hi:Int}{t u v:Tok}{tk:Nat}(I:Inv X pins σ H s)(h1:-(2 ^ 62)<=lo)(h2:lo<2 ^ 62)(h3:-(2 ^ 62)<=hi)(h4:hi<2 ^ 62)
    (q:R (Itr lo (hi-lo).toNat) H):wpAny (model X.prog X.w) X.A (pyIter (.ref s.heap.objs.size)) (PIE X pins σ tg R) E { s with heap:=s.heap.push { cls:=.type "range",data:=.fields #[.int lo t,.int hi u,.int 1 v] },toks:=tk }:=by
  refine wpAny_pyIter_range (IsRange.new ..) (small_one h1 h2 h3 h4) ?_
  have I1:Inv X pins σ H { s with heap:=s.heap.push { cls:=.type "range",data:=.fields #[.int lo t,.int hi u,.int 1 v] },toks:=tk }:=I.kept fun b o e=>Heap.get?_push_of_some _ e
  refine⟨(s.heap.push { cls:=.type "range",data:=.fields #[.int lo t,.int hi u,.int 1 v] }).objs.size,[(s.heap.push { cls:=.type "range",data:=.fields #[.int lo t,.int hi u,.int 1 v] }).objs.size],_,_,H,rfl,
    I1.kept (t':=tk) fun b o e=>Heap.get?_push_of_some _ e,zeD _ lo (hi-lo).toNat,?_,fun b hb=>?_,q⟩
  · have e1:lo+((0:Nat):Int)*1=lo:=by simp
    have e2:(((hi-lo).toNat:Nat):Int)-((0:Nat):Int)=Builtin.Range.rangeSize lo hi 1:=by rw [rangeSize_one];split<;>omega
    show IsRangeIter _ _ (lo+((0:Nat):Int)*1) ((((hi-lo).toNat:Nat):Int)-((0:Nat):Int)) 1
    rw [e1,e2]
    exact Heap.get?_push_size _ rfl
  · have e:b=(s.heap.push { cls:=.type "range",data:=.fields #[.int lo t,.int hi u,.int 1 v] }).objs.size:=by simpa using hb
    subst e
    exact I1.fpOk (Nat.le_refl _) (I1.hok.fresh (Nat.le_refl _))
def zcG (ta:TA):TI:=fun σ H R=>ta σ H fun vs H1=>∃ j:Int,vs=[.int j]/\-(2 ^ 62)<=j/\j<2 ^ 62/\R (Itr 0 j.toNat) H1
theorem zfo {a:Expr}{ta:TA}{p pos:Pos}(hg:Gl X "range")(hm:X.mg "range"=none)(ha:PA X [a] ta)(hs:starEach [a] X.env=[(false,eval a X.env)]:=by rfl):PI X tg (.Call (.Name "range" p) [a] [] pos) (zcG ta):=by
 intro pins s σ H R I h
 refine Call_ (zbn I hg hm boot_range (PyProof.Rows.callWith_type1 (thn (ha pos pins s σ H _ I h) fun us s1 ⟨vs,H1,I1,r1,q1⟩=>?_) hs rfl))
 obtain⟨j,e,q1,q2,q⟩:=q1
 subst e
 cases r1 with
 | cons r rr =>
  cases rr
  obtain⟨t,rfl⟩:=r
  exact call_range_1 (zfL I1 (by omega) (by omega) q1 q2 (by simpa using q))
def zkd (wi:TI)(g:TG)(tb:TS):TS:=fun D σ H=>wi σ H fun J H1=>∃ W:Nat->Nat->St->Hp->Prop,(∃ m,W 0 m σ H1)/\∀ i m σ H,W i m σ H ->
 (J.stop i H/\D.nx σ H)\/(J.go i H/\∃ N:St->Hp->Prop,(∀ σ' H',N σ' H'->∃ m',m'<m/\W (i+1) m' σ' H')/\∀ x H',J.yld i H x H'->g x σ H' fun σ2 H2=>tb { D with nx:=N,ct:=N,bk:=D.nx } σ2 H2)
def zbH (fp:List Addr)(h:Heap):List (Addr×Obj):=fp.filterMap fun b=>(h.get? b).map fun o=>(b,o)
theorem zaU {fp:List Addr}{h:Heap}{b:Addr}{o:Obj}(hb:b∈fp)(e:h.get? b=some o):(b,o)∈zbH fp h:=List.mem_filterMap.mpr ⟨b,hb,by rw [e];rfl⟩
theorem zfB {fp:List Addr}{h:Heap}{p:Addr×Obj}(hp:p∈zbH fp h):p.1∈fp/\h.get? p.1=some p.2:=by
 obtain⟨b,hb,e⟩:=List.mem_filterMap.mp hp
 cases q:h.get? b with
 | none=>rw [q] at e;cases e
 | some o =>
  rw [q] at e
  have e':(b,o)=p:=Option.some.inj e
  subst e'
  exact⟨hb,q⟩
theorem Inv.pinned {pins:List (Addr×Obj)}{σ:St}{H:Hp}{s:Shared}{fp:List Addr}(I:Inv X pins σ H s)(hf:∀ b∈fp,zbE X pins H b)(ho:∀ b∈fp,∃ o,s.heap.get? b=some o/\∀ v,o.data≠.cell v):Inv X (pins++zbH fp s.heap) σ H s :=
 I.pins_of fun p hp=>(List.mem_append.mp hp).elim (fun z=>I.pin p (List.mem_append_right _ z)) fun z=>by
  obtain⟨hb,e⟩:=zfB z
  obtain⟨f0,f1,f2,_⟩:=hf p.1 hb
  obtain⟨o,e',d⟩:=ho p.1 hb
  rw [e] at e';cases e'
  exact⟨e,f0,f1,f2,d⟩
theorem Inv.unpinned {pins pl:List (Addr×Obj)}{σ:St}{H:Hp}{s:Shared}(I:Inv X (pins++pl) σ H s):Inv X pins σ H s:=I.pins_of fun p hp=>I.pin p (List.mem_append_right _ (List.mem_append_left _ hp))
theorem zhH {iter:Expr}{body:List Stmt}{wi:TI}{g:TG}{tb:TS}{pos:Pos}(hp:PassesOwn (model X.prog X.w) X.A X.env X.xe)(hc:X.calm=true)(hi:PI X tg iter wi)(hg:PG X tg g)(hb:PSs X body tb)
  (hs:∀ x,foldedSetIterable iter X.env x=pure x:=by intro _;rfl):PS X (.For tg iter body [] pos) (zkd wi g tb):=by
 intro pins s σ H D I h
 refine wpAny_For (thn (hi pins s σ H _ I h) fun v s1 h1=>thn h1 fun itv s2 h2=>?_) hs
 obtain⟨it,fp,tn,J,H2,e,I2,T,st2,f2,W,⟨m0,w0⟩,turn⟩:=h2
 subst e
 have stat:∀ {H':Hp},(∀ b∈fp,H' b=none)->∀ b∈fp,zbE X pins H' b:=fun hn b hb=>⟨hn b hb,(f2 b hb).2⟩
 refine codeAny_forLoop_any (fun n s'=>∃ i σ' H',Inv X pins σ' H' s'/\tn i s'.heap/\(∀ b∈fp,H' b=none)/\W i n σ' H') ?_ m0 ⟨0,σ,H2,I2,st2,fun b hb=>(f2 b hb).1,w0⟩
 rintro n s3 ⟨i,σ3,H3,I3,st3,fr3,w3⟩
 rcases turn i n σ3 H3 w3 with ⟨stop,qn⟩ | ⟨go,N,hN,step⟩
 ·refine wpAny_passesOwn hp (thn (T.done X rfl rfl rfl hc i pins s3 σ3 H3 X.xe I3 (stat fr3) st3 stop) fun r s4 ⟨hr,I4⟩=>?_)
  subst hr
  exact wpAny_execs_nil ⟨σ3,H3,I4,qn⟩
 ·refine wpAny_passesOwn hp (thn (T.item X rfl rfl rfl hc i pins s3 σ3 H3 X.xe I3 (stat fr3) st3 go) fun r s4 ⟨u,hr,h4⟩=>?_)
  subst hr
  refine wpAny_passesOwn hp (thn h4 fun _ s5 ⟨x,H5,I5,r5,y5,st5,fr5⟩=>?_)
  have I5':=I5.pinned (stat fr5) (T.obj _ _ st5)
  refine wpAny_passesOwn hp (thn (hg _ s5 σ3 H5 x u _ I5' r5 (step x H5 y5)) fun _ s6 ⟨σ6,H6,I6,q6⟩=>?_)
  refine wpAny_passesOwn hp (thn (hb _ s6 σ6 H6 _ I6 q6) fun f s7 q7=>?_)
  have again:∀ {σ7:St} {H7:Hp},Inv X (pins++zbH fp s5.heap) σ7 H7 s7->N σ7 H7->∃ m,m<n/\∃ i σ' H',Inv X pins σ' H' s7/\tn i s7.heap/\(∀ b∈fp,H' b=none)/\W i m σ' H':=fun {σ7 H7} I7 n7=>by
   obtain⟨m',hm,w7⟩:=hN σ7 H7 n7
   refine⟨m',hm,i+1,σ7,H7,I7.unpinned,T.keep _ _ _ st5 fun b hb o e=>(I7.pin (b,o) (List.mem_append_right _ (List.mem_append_right _ (zaU hb e)))).1,fun b hb=>?_,w7⟩
   obtain⟨o,e,d⟩:=T.obj _ _ st5 b hb
   exact (I7.pin (b,o) (List.mem_append_right _ (List.mem_append_right _ (zaU hb e)))).2.1
  cases f with
  | next=>obtain⟨σ7,H7,I7,n7⟩:=q7;exact again I7 n7
  | cont=>obtain⟨σ7,H7,I7,n7⟩:=q7;exact again I7 n7
  | brk=>obtain⟨σ7,H7,I7,q7⟩:=q7;exact⟨σ7,H7,I7.unpinned,q7⟩
  | ret v=>obtain⟨x7,σ7,H7,I7,r7,q7⟩:=q7;exact⟨x7,σ7,H7,I7.unpinned,r7,q7⟩
end
abbrev R2:=V->V->Hp->VK->Prop
def OpR (X:Cx)(f:Value->Value->Sem Value)(r:R2):Prop :=
 ∀ (pins:List (Addr×Obj)) (s:Shared) (σ:St) (H:Hp) (x y:V) (v u:Value) (Q:VK),Inv X pins σ H s->RelV x v->RelV y u->r x y H Q ->
  wpAny (model X.prog X.w) X.A (f v u) (EP X pins σ Q) X.xe s
def z9 (X:Cx)(f:Value)(r:List V->Hp->VK->Prop):Prop :=
 ∀ (pins:List (Addr×Obj)) (s:Shared) (σ:St) (H:Hp) (xs:List V) (us:List Value) (Q:VK),Inv X pins σ H s->Vals xs us->r xs H Q ->
  wpAny (model X.prog X.w) X.A (call f us) (EP X pins σ Q) X.xe s
def tOp (r:R2)(ta tb:TE):TE:=fun σ H Q=>ta σ H fun x H1=>tb σ H1 fun y H2=>r x y H2 Q
def rI (C:Int->Int->Prop)(g:Int->Int->V):R2:=fun x y H Q=>∃ i j,x=.int i/\y=.int j/\C i j/\Q (g i j) H
def rI0 (g:Int->Int->V):R2:=fun x y H Q=>∃ i j,x=.int i/\y=.int j/\Q (g i j) H
section
variable {X:Cx}{a b c:Expr}{ta tb tc:TE}{pos:Pos}
theorem zgf (ha:PE X a ta)(hb:PE X b tb){pins:List (Addr×Obj)}{s:Shared}{σ:St}{H:Hp}{R:V->V->Hp->Prop}(I:Inv X pins σ H s)
  (h:ta σ H fun x H1=>tb σ H1 fun y H2=>R x y H2) {Q:Value->Shared->Prop} {f:Value->Value->Sem Value}
  (hf:∀ v u s2 x y H2,Inv X pins σ H2 s2->RelV x v->RelV y u->R x y H2->wpAny (model X.prog X.w) X.A (f v u) Q X.xe s2) :
  wpAny (model X.prog X.w) X.A (eval a X.env) (fun v s₁=>wpAny (model X.prog X.w) X.A (eval b X.env) (fun u s₂=>wpAny (model X.prog X.w) X.A (f v u) Q X.xe s₂) X.xe s₁) X.xe s:=by
 refine thn (ha pins s σ H _ I h) fun v s1 ⟨x,H1,I1,r1,q1⟩=>?_
 refine thn (hb pins s1 σ H1 _ I1 q1) fun u s2 ⟨y,H2,I2,r2,q2⟩=>?_
 exact hf v u s2 x y H2 I2 r1 r2 q2
theorem zgv {op:Operator}{r:R2}(ho:OpR X (binaryOp op) r)(ha:PE X a ta)(hb:PE X b tb):PE X (.BinOp a op b pos) (tOp r ta tb):=by
 intro pins s σ H Q I h
 exact wpAny_BinOp (zgf ha hb I h fun v u s2 x y H2 I2 rx ry q=>ho pins s2 σ H2 x y v u Q I2 rx ry q)
theorem opI {f:Value->Value->Sem Value}{C:Int->Int->Prop}{g:Int->Int->Int}
  (rule:∀ (i j:Int) (t u:Tok) (s:Shared) (Q:Value->Shared->Prop) (E:Value->Shared->Prop),C i j->Q (.int (g i j) s.toks) { s with toks:=s.toks+1 }->wpAny (model X.prog X.w) X.A (f (.int i t) (.int j u)) Q E s) :
  OpR X f (rI C fun i j=>.int (g i j)):=by
 intro pins s σ H x y v u Q I rx ry h
 obtain⟨i,j,rfl,rfl,hc,q⟩:=h
 obtain⟨t,rfl⟩:=rx
 obtain⟨t',rfl⟩:=ry
 exact rule i j t t' s _ _ hc ⟨.int (g i j),H,I.tok _,⟨_,rfl⟩,q⟩
theorem ziz {f:Value->Value->Sem Value}{g:Int->Int->Int}
  (rule:∀ (i j:Int) (t u:Tok) (s:Shared) (Q:Value->Shared->Prop) (E:Value->Shared->Prop),Q (.int (g i j) s.toks) { s with toks:=s.toks+1 }->wpAny (model X.prog X.w) X.A (f (.int i t) (.int j u)) Q E s) :
  OpR X f (rI0 fun i j=>.int (g i j)):=by
 intro pins s σ H x y v u Q I rx ry h
 obtain⟨i,j,rfl,rfl,q⟩:=h
 obtain⟨t,rfl⟩:=rx
 obtain⟨t',rfl⟩:=ry
 exact rule i j t t' s _ _ ⟨.int (g i j),H,I.tok _,⟨_,rfl⟩,q⟩
theorem zh3 {f:Value->Value->Sem Value}{g:Int->Int->Bool}
  (rule:∀ (i j:Int) (t u:Tok) (s:Shared) (Q:Value->Shared->Prop) (E:Value->Shared->Prop),Q (.bool (g i j)) s->wpAny (model X.prog X.w) X.A (f (.int i t) (.int j u)) Q E s) :
  OpR X f (rI0 fun i j=>.bl (g i j)):=by
 intro pins s σ H x y v u Q I rx ry h
 obtain⟨i,j,rfl,rfl,q⟩:=h
 obtain⟨t,rfl⟩:=rx
 obtain⟨t',rfl⟩:=ry
 exact rule i j t t' s _ _ ⟨.bl (g i j),H,I,rfl,q⟩
def zj8 (i j:Int):Prop:=0<=j/\j<=1000000/\i.natAbs<2 ^ 64
def zeW (i j:Int):Prop:=(-(2 ^ 64)<i/\i<2 ^ 64)\/(-(2 ^ 64)<j/\j<2 ^ 64)
theorem zeW.ok {i j:Int}(h:zeW i j):IntMulOk i j:=by
 rcases h with ⟨h1,h2⟩ | ⟨h1,h2⟩
 ·exact .of_left (intBits_le_64 h1 h2)
 ·exact .of_right (intBits_le_64 h1 h2)
theorem zh0:OpR X (binaryOp .Add) (rI0 fun i j=>.int (i+j)):=ziz fun _ _ _ _ _ _ _ q=>add_int q
theorem ziK:OpR X (binaryOp .Sub) (rI0 fun i j=>.int (i-j)):=ziz fun _ _ _ _ _ _ _ q=>sub_int q
theorem zg2:OpR X (binaryOp .Mod) (rI (fun _ j=>j≠0) fun i j=>.int (i.fmod j)):=opI fun _ _ _ _ _ _ _ hc q=>mod_int' hc q
theorem zhZ:OpR X (binaryOp .Pow) (rI zj8 fun i j=>.int (i ^ j.toNat)):=opI fun _ _ _ _ _ _ _ hc q=>pow_int_small hc.1 hc.2.1 hc.2.2 q
end
section
variable {X:Cx}{a b c:Expr}{ta tb tc:TE}{pos:Pos}
theorem zeX {pins:List (Addr×Obj)}{σ:St}{H:Hp}{s:Shared}{Q:VK}{k k':Bool}(I:Inv X pins σ H s)(q:Q (.bl k) H)(e:k=k'):EP X pins σ Q (.bool k') s:=by
 subst e
 exact⟨.bl k,H,I,rfl,q⟩
theorem zjy:OpR X (compareOp .Lt) (rI0 fun i j=>.bl (decide (i<j))):=zh3 fun _ _ _ _ _ _ _ q=>lt_int q
theorem zjD:OpR X (compareOp .Gt) (rI0 fun i j=>.bl (decide (j<i))):=zh3 fun _ _ _ _ _ _ _ q=>gt_int q
theorem zfh:OpR X (compareOp .In) (fun x y H Q=>∃ i j,x=.str i/\y=.str j/\Q (.bl (!(Builtin.Str.occurrences j i 0 j.length 1).isEmpty)) H):=by
 intro pins s σ H x y v u Q I rx ry h
 obtain⟨i,j,rfl,rfl,q⟩:=h
 obtain⟨t,rfl⟩:=rx
 obtain⟨t',rfl⟩:=ry
 exact in_str (zeX I q rfl)
theorem zdO:OpR X (compareOp .NotIn) (fun x y H Q=>∃ i j,x=.str i/\y=.str j/\Q (.bl (!(!(Builtin.Str.occurrences j i 0 j.length 1).isEmpty))) H):=by
 intro pins s σ H x y v u Q I rx ry h
 obtain⟨i,j,rfl,rfl,q⟩:=h
 obtain⟨t,rfl⟩:=rx
 obtain⟨t',rfl⟩:=ry
 exact notIn_str (zeX I q rfl)
theorem OpR.or {f:Value->Value->Sem Value}{r r':R2}(h:OpR X f r)(h':OpR X f r'):OpR X f (fun x y H Q=>r x y H Q\/r' x y H Q):=by
 intro pins s σ H x y v u Q I rx ry q
 rcases q with q | q
 ·exact h pins s σ H x y v u Q I rx ry q
 ·exact h' pins s σ H x y v u Q I rx ry q
theorem zfs (b:Expr){op:CmpOp}(h:op≠.In:=by decide)(h2:op≠.NotIn:=by decide):behindInMarks op b=false:=by
  have e1:(op==CmpOp.In)=false:=by cases op<;>first | rfl | exact absurd rfl h
  have e2:(op==CmpOp.NotIn)=false:=by cases op<;>first | rfl | exact absurd rfl h2
  cases b<;>simp [behindInMarks,e1,e2]
theorem zei {op:CmpOp}{r:R2}(ho:OpR X (compareOp op) r)(ha:PE X a ta)(hb:PE X b tb)(hm:behindInMarks op b=false):PE X (.Compare a [op] [b] pos) (tOp r ta tb):=by
 intro pins s σ H Q I h
 exact wpAny_Compare1 (zgf ha hb I h fun v u s2 x y H2 I2 rx ry q=>ho pins s2 σ H2 x y v u Q I2 rx ry q) hm
def zi8 (t:TE):TT:=fun σ H Q=>t σ H fun x H'=>∃ k,x=.bl k/\Q k H'
theorem zem {op:CmpOp}{r:R2}(ho:OpR X (compareOp op) r)(ha:PE X a ta)(hb:PE X b tb)(hm:behindInMarks op b=false):PT X (.Compare a [op] [b] pos) (zi8 (tOp r ta tb)):=by
 intro pins s σ H Q I h
 refine wpAny_isTrue_Compare1 (thn (ha pins s σ H _ I h) fun v s1 ⟨x,H1,I1,r1,q1⟩=>thn (hb pins s1 σ H1 _ I1 q1) fun u s2 ⟨y,H2,I2,r2,q2⟩ =>
  thn (ho pins s2 σ H2 x y v u _ I2 r1 r2 q2) fun c s3 ⟨z,H3,I3,r3,k,e,q3⟩=>?_) hm
 subst e
 cases r3
 exact wpAny_truthy_bool ⟨H3,I3,q3⟩
theorem zbV:(sizeLine:Nat)<2 ^ 63:=by rw [sizeLine_eq];decide
theorem zeQ:OpR X (binaryOp .Add) (fun x y H Q=>∃ i j,x=.str i/\y=.str j/\i.length+j.length<=sizeLine/\Q (.str (i++j)) H):=by
 intro pins s σ H x y v u Q I rx ry h
 obtain⟨i,j,rfl,rfl,hz,q⟩:=h
 obtain⟨t,rfl⟩:=rx
 obtain⟨t',rfl⟩:=ry
 exact add_str (fun t' tk=>⟨.str (i++j),H,I.tok _,⟨_,rfl⟩,q⟩) hz
theorem vals1 {x:V}{us:List Value}(r:Vals [x] us):∃ u,us=[u]/\RelV x u:=by
 cases r with
 | cons r1 r2=>cases r2;exact⟨_,rfl,r1⟩
theorem vals2 {x y:V}{us:List Value}(r:Vals [x,y] us):∃ u w',us=[u,w']/\RelV x u/\RelV y w':=by
 cases r with
 | cons r1 r2 =>
  cases r2 with
  | cons r3 r4=>cases r4;exact⟨_,_,rfl,r1,r3⟩
theorem zdT:z9 X (.type "str") (fun xs H Q=>∃ i,xs=[.int i]/\i.natAbs.log2<1920/\Q (.str (toString i)) H):=by
 intro pins s σ H xs us Q I r h
 obtain⟨i,rfl,hz,q⟩:=h
 obtain⟨u,rfl,t,rfl⟩:=vals1 r
 exact PySem.P.str_of_int hz ⟨.str _,H,I.tok _,⟨_,rfl⟩,q⟩
end
structure zgk (h:Heap)(x dx C:Addr)(mA:Str->Option Value):Prop where
 obj:h.get? x=some (PySem.W.instObj C dx)
 ns:h.Ns1 dx mA
 ne:dx≠x
theorem zfA {h:Heap}{dx:Addr}{mA:Str->Option Value}(n:h.Ns1 dx mA):∃ od,h.get? dx=some od/\∀ name,PySem.W.lookIn name od=some (mA name):=by
 obtain⟨o,es,ep,ho,hd,hk,_,hm⟩:=n
 refine⟨o,ho,fun name=>?_⟩
 have e:=hm name
 unfold nsFind findBy at e
 rw [<- Array.find?_toList] at e
 unfold PySem.W.lookIn
 rw [hd]
 dsimp only
 split
 ·rename_i y q
  rw [q] at e
  exact congrArg some e
 ·rename_i q
  rw [q] at e
  have a:es.toList.any (·.refKey)=false:=by
   rw [List.any_eq_false]
   intro y hy
   obtain⟨z,t,hkey⟩:=hk y (Array.mem_toList_iff.mp hy)
   simp [DictEntry.refKey,hkey]
  have a':¬ es.toList.any (·.refKey)=true:=by rw [a];exact Bool.false_ne_true
  rw [if_neg a']
  exact congrArg some e
theorem zgk.look {h:Heap}{x dx C:Addr}{mA:Str->Option Value}(I:zgk h x dx C mA):∃ od,PySem.W.InstAt h x (PySem.W.instObj C dx) C (some od)/\∀ name,PySem.W.lookIn name od=some (mA name) :=
 let ⟨od,ho,hl⟩:=zfA I.ns
 ⟨od,⟨I.obj,rfl,rfl,ho⟩,hl⟩
section
variable {prog:Program}{w:World}{A:Around}{E:Value->Shared->Prop}{s:Shared}{K:PySem.W.Frag}{x dx C f:Addr}{mA:Str->Option Value}{name:Str}{v:Value}
end
section
variable {P:Program}{w:World}{H H':Hp}{h h':Heap}{a C dx:Addr}{fs fs':List (Str×V)}
theorem zhv (hok:HOk P w H h)(e:H a=some (.ins C dx fs)):∃ mA,zgk h a dx C mA/\(∀ f,zgj (fs.lookup f) (mA f))/\PySem.Within mA (fs.map (·.1))/\fs.length<=1000/\H dx=some (.own a):=by
 obtain⟨d,z,ne,ob,mA,n,r,q⟩:=(show zW P w H h a (.ins C dx fs) from hok a _ e)
 exact⟨mA,⟨ob,n,ne⟩,r,q,z,d⟩
end
structure Cls (K:PySem.W.Frag)(C:Addr):Prop where
 pg:PySem.W.plainGet K C Str.empty=true
 hd:PySem.W.hasDictIn K C=true
 po:PySem.W.plainOver K C=true
 sa:PySem.W.findIn K (.ref C) "__setattr__"=some (some (.builtin "object.__setattr__"))
theorem Cls.get {K:PySem.W.Frag}{C:Addr}(c:Cls K C)(f:Str):PySem.W.plainGet K C f=true:=c.pg
def zhC (K:PySem.W.Frag)(C:Addr)(f:Str):Prop:=PySem.W.findIn K (.ref C) f=some none
section
variable {X:Cx}{pins:List (Addr×Obj)}{σ:St}{H:Hp}{s:Shared}{a C dx:Addr}{fs:List (Str×V)}{f:Str}{v:V}{A:Around}{E:Value->Shared->Prop}
end
section
variable {X:Cx}{o e value:Expr}{f:Str}{pos pos' tpos:Pos}{ta tv:TE}
end
section
variable {X:Cx}{pins:List (Addr×Obj)}{σ:St}{H:Hp}{s:Shared}{A:Around}{E:Value->Shared->Prop}{Q:Value->Shared->Prop}{c:Value}{b:Bool}
inductive zaF (K:PySem.W.Frag)(H:Hp):V->Value->Prop where
 | non:zaF K H .non (.type "NoneType")
 | bl (x:Bool):zaF K H (.bl x) (.type "bool")
 | int (i:Int):zaF K H (.int i) (.type "int")
 | str (x:Str):zaF K H (.str x) (.type "str")
 | flt (x:UInt64):zaF K H (.flt x) (.type "float")
 | lst {a:Addr} {xs:List V} (e:H a=some (.lst xs)):zaF K H (.ref a) (.type "list")
 | frz {a:Addr} {o:Obj} {xs:List V} (e:H a=some (.frz o (.lst xs))):zaF K H (.ref a) (.type "list")
 | tup {a:Addr} {xs:List V} (e:H a=some (.tup xs)):zaF K H (.ref a) (.type "tuple")
 | dK {a:Addr} {kvs:List (Key×V)} (e:H a=some (.dK kvs)):zaF K H (.ref a) (.type "dict")
 | dT {a:Addr} {kvs:List (List Key×V)} (e:H a=some (.dT kvs)):zaF K H (.ref a) (.type "dict")
 | ins {a C dx:Addr} {fs:List (Str×V)} (e:H a=some (.ins C dx fs)) (cl:Cls K C) (ha:PySem.W.findIn K (.ref C) "__class__"=some (some (.builtin "object.__class__")))
   (hn:PySem.W.specialIn K (.builtin "object.__class__") "__get__"=some (some (.builtin "getset_descriptor.__get__"))) (htk:PySem.W.takesIn K (.builtin "object.__class__")=some true)
   (hm:PySem.W.mroIn K C (.type "object")=some true):zaF K H (.ref a) (.ref C)
theorem zfa {x:V}{u t:Value}(I:Inv X pins σ H s)(rx:RelV x u)(ty:zaF X.K H x t)(e:PySem.W.kitOne X.K t c=some b)(h:∀ tk,Q (.bool b) { s with toks:=tk }) :
  wpAny (model X.prog X.w) A (call (.builtin "isinstance") [u,c]) Q E s:=by
 cases ty with
 | non=>cases (show u=Value.none from rx);exact PySem.W.kia_one PySem.W.kitx_none I.kIn True.intro e (fun z=>nomatch z) h
 | bl y=>cases (show u=Value.bool y from rx);exact PySem.W.kia_one PySem.W.kitx_bool I.kIn True.intro e (fun z=>nomatch z) h
 | int i=>obtain⟨t,q⟩:=(show ∃ t,u=Value.int i t from rx);cases q;exact PySem.W.kia_one PySem.W.kitx_int I.kIn True.intro e (fun z=>nomatch z) h
 | str y=>obtain⟨t,q⟩:=(show ∃ t,u=Value.str y t from rx);cases q;exact PySem.W.kia_one PySem.W.kitx_str I.kIn True.intro e (fun z=>nomatch z) h
 | flt y=>obtain⟨t,q⟩:=(show ∃ t,u=Value.float y t from rx);cases q;exact PySem.W.kia_one PySem.W.kitx_float I.kIn True.intro e (fun z=>nomatch z) h
 | @lst a xs ea =>
  cases (show u=Value.ref a from rx)
  obtain⟨_,_,n,_,h1⟩:=(show zW X.prog X.w H s.heap a (.lst xs) from I.hok a _ ea)
  exact PySem.W.kia_one PySem.W.kitx_list I.kIn ⟨_,h1,rfl⟩ e (fun z=>nomatch z) h
 | @frz a ob xs ea =>
  cases (show u=Value.ref a from rx)
  obtain⟨_,_,_,n,_,h1⟩:=(show zW X.prog X.w H s.heap a (.frz ob (.lst xs)) from I.hok a _ ea)
  exact PySem.W.kia_one PySem.W.kitx_list I.kIn ⟨_,h1,rfl⟩ e (fun z=>nomatch z) h
 | @tup a xs ea =>
  cases (show u=Value.ref a from rx)
  obtain⟨_,_,_,p⟩:=(show zW X.prog X.w H s.heap a (.tup xs) from I.hok a _ ea)
  obtain⟨o,h1,h2,_⟩:=p
  exact PySem.W.kia_one PySem.W.kitx_tuple I.kIn ⟨o,h1,h2⟩ e (fun z=>nomatch z) h
 | @dK a kvs ea =>
  cases (show u=Value.ref a from rx)
  obtain⟨_,_,vs,_,p⟩:=(show zW X.prog X.w H s.heap a (.dK kvs) from I.hok a _ ea)
  obtain⟨o,es,ep,h1,h2,_⟩:=p
  exact PySem.W.kia_one PySem.W.kitx_dict I.kIn ⟨o,h1,h2.1⟩ e (fun z=>nomatch z) h
 | @dT a kvs ea =>
  cases (show u=Value.ref a from rx)
  obtain⟨_,_,xs,_,o,es,ep,h1,h2,_⟩:=(show zW X.prog X.w H s.heap a (.dT kvs) from I.hok a _ ea)
  exact PySem.W.kia_one PySem.W.kitx_dict I.kIn ⟨o,h1,h2.1⟩ e (fun z=>nomatch z) h
 | @ins a C dx fs ea cl ha hn htk hm =>
  cases (show u=Value.ref a from rx)
  obtain⟨mA,O,_⟩:=zhv I.hok ea
  obtain⟨od,J,_⟩:=O.look
  exact PySem.W.kia_one (PySem.W.kitx_own (cl.get _) cl.hd ha hn htk hm) I.kIn J e (fun z=>nomatch z) h
end
structure zO (k:Nat)(A:Around):Prop where
 hd:A.handled=none
 dp:A.depth+3*k+5<recursionLimit
 un:A.units+16*k+200<cLine
theorem zO.mono {j k:Nat}{A:Around}(r:zO k A)(h:j<=k):zO j A:=⟨r.hd,by have:=r.dp;omega,by have:=r.un;omega⟩
theorem zO.deeper {k:Nat}{A:Around}(r:zO (k+1) A)(env:Env):zO k (A.deeper env) :=
 ⟨r.hd,by have:=r.dp;show A.depth+1+3*k+5<_;omega,by have:=r.un;show A.units+3+16*k+200<_;omega⟩
theorem zO.depth {k:Nat}{A:Around}(r:zO k A):A.depth<recursionLimit:=by have:=r.dp;omega
theorem zO.units {k:Nat}{A:Around}(r:zO k A):A.units+64<cLine:=by have:=r.un;omega
def zjS:TA:=fun _ H Q=>Q [] H
def ziQ (ta:TE)(tr:TA):TA:=fun σ H Q=>ta σ H fun x H1=>tr σ H1 fun xs H2=>Q (x::xs) H2
section
variable {X:Cx}{e:Expr}{es:List Expr}{te:TE}{t:TA}{pos:Pos}
theorem zhB:PA X [] zjS:=fun _ _ _ _ H Q I h=>Calls.spliced_nil ⟨[],H,I,.nil,h⟩
theorem zgK (ha:PE X e te)(hr:PA X es t)(hs:starEach (e::es) X.env=(false,eval e X.env)::starEach es X.env:=by rfl):PA X (e::es) (ziQ te t):=by
 intro pos pins s σ H Q I h
 rw [hs]
 show wpAny _ _ (spliced ((false,eval e X.env)::backTo pos (starEach es X.env))) _ _ s
 refine Calls.spliced_cons (thn (ha pins s σ H _ I h) fun u s1 ⟨x,H1,I1,r1,q1⟩=>?_)
 exact thn (hr pos pins s1 σ H1 _ I1 q1) fun us s2 ⟨xs,H2,I2,r2,q2⟩=>⟨x::xs,H2,I2,.cons r1 r2,q2⟩
def zjW (t:TA):TE:=fun σ H Q=>t σ H fun xs H1=>xs.length<=sizeLine/\∀ p,H1 p=none->Q (.ref p) (upd H1 p (.tup xs))
def zjV (t:TA):TE:=fun σ H Q=>t σ H fun xs H1=>xs.length<=sizeLine/\∀ p,H1 p=none->Q (.ref p) (upd H1 p (.lst xs))
theorem zh8 {x1}(h:PA X es t):PE X (.Tuple es x1 pos) (zjW t):=by
 intro pins s σ H Q I hq
 refine wpAny_Tuple_spliced (thn (h pos pins s σ H _ I hq) fun us s1 ⟨xs,H1,I1,r,z,q⟩=>⟨by rw [<- r.length];exact z,?_⟩)
 have hf:H1 s1.heap.objs.size=none:=I1.hok.fresh (Nat.le_refl _)
 refine⟨.ref s1.heap.objs.size,upd H1 s1.heap.objs.size (.tup xs),I1.laid (t':=s1.toks) (fun b u e=>Heap.get?_push_of_some _ e) (Nat.le_refl _) ?_,rfl,q _ hf⟩
 exact⟨z,us,r,⟨_,Heap.get?_push_size _ rfl,rfl,_,rfl⟩⟩
theorem zhT (h:PA X es t):PE X (.List es pos) (zjV t):=by
 intro pins s σ H Q I hq
 refine wpAny_List_spliced (thn (h pos pins s σ H _ I hq) fun us s1 ⟨xs,H1,I1,r,z,q⟩=>⟨by rw [<- r.length];exact z,?_⟩)
 have hf:H1 s1.heap.objs.size=none:=I1.hok.fresh (Nat.le_refl _)
 refine⟨.ref s1.heap.objs.size,upd H1 s1.heap.objs.size (.lst xs),I1.laid (t':=s1.toks) (fun b u e=>Heap.get?_push_of_some _ e) (Nat.le_refl _) ?_,rfl,q _ hf⟩
 exact⟨z,us,0,r,Heap.get?_push_size _ rfl⟩
end
abbrev Sp:=List V->Hp->VK->XK->Prop
abbrev CXT:=List Env->Hp->Shared->XK->Value->Shared->Prop
structure zeV (P:Program)(w:World)(K:PySem.W.Frag)(mg:Str->Option Value)(base:Heap)(A:Around)(outer:List Env)(s:Shared)(H:Hp):Prop where
 frames:A.frames=some outer
 mod:Mod K mg base
 bs:∀ b o,base.get? b=some o->s.heap.get? b=some o/\H b=none
 bsz:base.objs.size<=s.heap.objs.size
 funs:s.heap.FunFrames base outer
 frf:∀ b∈frs outer,H b=none
 hok:HOk P w H s.heap
 bare:AllBare s.gens
def CE (outer:List Env)(P:Program)(w:World)(H:Hp)(s:Shared)(Q:VK)(u:Value)(s':Shared):Prop :=
 ∃ v H',s'.os=s.os/\AllBare s'.gens/\Un (frs outer) [] H H' s.heap s'.heap/\HOk P w H' s'.heap/\RelV v u/\Q v H'
def CR (CX:CXT)(outer:List Env)(P:Program)(w:World)(H:Hp)(s:Shared)(Q:VK)(E:XK)(r:Result)(s':Shared):Prop :=
 match r with
 | .ok (.ret u)=>CE outer P w H s Q u s'
 | .ok _=>False
 | .error e=>CX outer H s E e s'
structure zZ (P:Program)(w:World)(K:PySem.W.Frag)(mg:Str->Option Value)(base:Heap)(CX:CXT)(k:Nat)(f:Addr)(fd:FuncData)(ps:List Str)(sp:Sp):Prop where
 len:∀ vs H Q E,sp vs H Q E->vs.length=ps.length
 run:∀ (A:Around) (outer:List Env) (s:Shared) (H:Hp) (args:Args) (us:List Value) (vs:List V) (Q:VK) (E:XK),zO k A->zeV P w K mg base A outer s H->BindsTo s fd args (ps.zip us)->Vals vs us->sp vs H Q E ->
  codeAny (model P w) A (.call (.ref f) args) (CR CX outer P w H s Q E) s
theorem zZ.mono {P:Program}{w:World}{K:PySem.W.Frag}{mg:Str->Option Value}{base:Heap}{CX:CXT}{j k:Nat}{f:Addr}{fd:FuncData}{ps:List Str}{sp:Sp}(F:zZ P w K mg base CX j f fd ps sp)(h:j<=k) :
  zZ P w K mg base CX k f fd ps sp:=⟨F.len,fun A outer s H args us vs Q E hr=>F.run A outer s H args us vs Q E (hr.mono h)⟩
section
variable {X:Cx}{pins:List (Addr×Obj)}{σ:St}{H:Hp}{s s':Shared}
theorem Inv.env0 (I:Inv X pins σ H s):zeV X.prog X.w X.K X.mg X.base X.A X.stack s H :=
 ⟨I.ok.frames,I.ok.mod,I.bs,Nat.le_trans I.ok.bsz I.sz,I.stack,I.stkFree,I.hok,I.bare⟩
theorem Inv.after {Q:VK}{u:Value}(I:Inv X pins σ H s)(h:CE X.stack X.prog X.w H s Q u s'):EP X pins σ Q u s':=by
 obtain⟨v,H',os,bare,un,hok,r,q⟩:=h
 obtain⟨hh,g,d,t,os'⟩:=s'
 obtain rfl:os'=s.os:=os
 exact⟨v,H',I.call (h':=hh) (g':=g) (d':=d) (t':=t) (ch:=[]) un hok bare (fun b z=>absurd z (by simp)),r,q⟩
end
def zgo (sp:Sp)(dvs:List V)(E:XK)(t:TA):TE:=fun σ H Q=>t σ H fun vs H1=>sp (vs++dvs) H1 Q E
def Binds (K:PySem.W.Frag)(fd:FuncData)(ps:List Str)(ds:List Value):Prop :=
 ∀ (s:Shared) (us:List Value),K.In s.heap->(us++ds).length=ps.length->BindsTo s fd ⟨us,[]⟩ (ps.zip (us++ds))
theorem Binds.all {K:PySem.W.Frag}{fd:FuncData}{ps:List Str}(h:∀ us:List Value,us.length=ps.length->bindArgs fd ⟨us,[]⟩=pure (ps.zip us)):Binds K fd ps []:=fun s us _ hl=>by
 rw [List.append_nil] at hl ⊢
 exact .of_eq (h us hl)
def Passes (CX:CXT)(X:Cx)(E:XK):Prop:=∀ (pins:List (Addr×Obj)) (σ:St) (H:Hp) (s:Shared) (e:Value) (s':Shared),Inv X pins σ H s->CX X.stack H s E e s'->X.xe e s'
section
variable {X:Cx}{CX:CXT}{k:Nat}{f C:Addr}{fd:FuncData}{ps:List Str}{sp:Sp}{dvs:List V}{ds:List Value}{E:XK}{x m:Str}{p pos apos:Pos}{e o:Expr}{es:List Expr}{ta:TE}{t:TA}
theorem ziq {pins:List (Addr×Obj)}{σ:St}{H:Hp}{s:Shared}{Q:VK}{us:List Value}{vs:List V}(F:zZ X.prog X.w X.K X.mg X.base CX k f fd ps sp)(hr:zO k X.A)(hb:Binds X.K fd ps ds)(hd:Vals dvs ds)(hx:Passes CX X E)
  (I:Inv X pins σ H s) (r:Vals vs us) (h:sp (vs++dvs) H Q E):wpAny (model X.prog X.w) X.A (call (.ref f) us) (EP X pins σ Q) X.xe s:=by
 have r2:Vals (vs++dvs) (us++ds):=r.append hd
 have hl:(us++ds).length=ps.length:=by rw [<- r2.length];exact F.len _ _ _ _ h
 refine wpAny_call (codeAny_mono (F.run X.A X.stack s H ⟨us,[]⟩ (us++ds) (vs++dvs) Q E hr I.env0 (hb s us I.kIn hl) r2 h) fun r s' hq=>?_)
 cases r with
 | error e=>exact hx pins σ H s e s' I hq
 | ok fl =>
  cases fl with
  | ret u=>exact I.after hq
  | next=>exact False.elim hq
  | brk=>exact False.elim hq
  | cont=>exact False.elim hq
theorem zg7 (F:zZ X.prog X.w X.K X.mg X.base CX k f fd ps sp)(hr:zO k X.A)(hg:Gl X x)(hm:X.mg x=some (.ref f))(hk:PySem.W.keepIn X.K (.ref f)=true)(hb:Binds X.K fd ps ds)(hd:Vals dvs ds)(hx:Passes CX X E)
  (ha:PA X (e::es) t) (hdb:(x==("__debug__":Str))=false:=by decide) (he:starEach (e::es) X.env=(false,eval e X.env)::starEach es X.env:=by rfl) (hpl:(backTo pos (starEach es X.env)).any (·.1)=false:=by rfl) :
  PE X (.Call (.Name x p) (e::es) [] pos) (zgo sp dvs E t):=by
 intro pins s σ H Q I h
 refine wpAny_Call_Name_kw (zaX I hg hm ?_ hdb)
 refine PySem.W.callWith_K (h₀:=X.base) I.ok.mod.kin hk (thn (ha pos pins s σ H _ I h) fun us s1 ⟨vs,H1,I1,r,q⟩=>⟨I1.kIn,?_⟩) he hpl
 exact ziq F hr hb hd hx I1 r q
end
section
variable {X:Cx}{CX:CXT}{k:Nat}{f C:Addr}{fd:FuncData}{ps ks:List Str}{sp:Sp}{E:XK}{x m:Str}{p pos apos kpos:Pos}{e o:Expr}{es:List Expr}{kws:List Keyword}{te ta:TE}{t tk:TA}{nm:Option Str}
variable {g:List Value->List Value->List Value}{gV:List V->List V->List V}
end
structure z6 (N P:List Str)(sc:Scope):Prop where
 kind:sc.kind=.function
 co:sc.isCoroutine=false
 gen:sc.isGenerator=false
 nd:N.Nodup
 pre:N.take P.length=P
 par:∀ x∈P,sc.names.lookup x=some .local\/sc.names.lookup x=some .cell
 nofree:∀ y∈sc.names,y.2≠.free
theorem zc7 {kindOf:Str->Option NameKind}{x:Str}:∀ {binds:List (Str×Value)} {m:Str->Option Value},(∀ v,(x,v)∉binds)->bindL kindOf binds m x=m x
 | [],_,_=>rfl
 | (n,v)::r,m,h=>by
  unfold bindL
  rw [zc7 fun w hw=>h w (List.mem_cons_of_mem _ hw)]
  split
  ·have:x≠n:=by rintro rfl;exact h v List.mem_cons_self
   simp [this]
  ·rfl
theorem zc5 {kindOf:Str->Option NameKind}{x:Str}:∀ {binds:List (Str×Value)} {m:Str->Option Value},(∀ v,(x,v)∉binds)->bindC kindOf binds m x=m x
 | [],_,_=>rfl
 | (n,v)::r,m,h=>by
  unfold bindC
  rw [zc5 fun w hw=>h w (List.mem_cons_of_mem _ hw)]
  split
  ·rfl
  ·have:x≠n:=by rintro rfl;exact h v List.mem_cons_self
   simp [this]
theorem zcX {kindOf:Str->Option NameKind}{x:Str}{v:Value}:∀ {P:List Str} {vs:List Value} {i:Nat} {m:Str->Option Value},P.Nodup->P[i]?=some x->vs[i]?=some v->kindOf x=some .local ->
  bindL kindOf (P.zip vs) m x=some v
 | [],_,_,_,_,h,_,_=>by simp at h
 | _::_,[],_,_,_,_,h,_=>by simp at h
 | p::P,w::vs,0,m,nd,h1,h2,hk=>by
  simp at h1 h2;subst h1;subst h2
  show bindL kindOf ((p,w)::P.zip vs) m p=_
  unfold bindL
  rw [zc7 fun v hv=>(List.nodup_cons.mp nd).1 (List.of_mem_zip hv).1,if_pos hk]
  simp
 | p::P,w::vs,i+1,m,nd,h1,h2,hk=>by
  show bindL kindOf ((p,w)::P.zip vs) m x=_
  unfold bindL
  exact zcX (i:=i) (List.nodup_cons.mp nd).2 (by simpa using h1) (by simpa using h2) hk
theorem zc0 {kindOf:Str->Option NameKind}{x:Str}{v:Value}:∀ {P:List Str} {vs:List Value} {i:Nat} {m:Str->Option Value},P.Nodup->P[i]?=some x->vs[i]?=some v->kindOf x≠some .local ->
  bindC kindOf (P.zip vs) m x=some v
 | [],_,_,_,_,h,_,_=>by simp at h
 | _::_,[],_,_,_,_,h,_=>by simp at h
 | p::P,w::vs,0,m,nd,h1,h2,hk=>by
  simp at h1 h2;subst h1;subst h2
  show bindC kindOf ((p,w)::P.zip vs) m p=_
  unfold bindC
  rw [zc5 fun v hv=>(List.nodup_cons.mp nd).1 (List.of_mem_zip hv).1,if_neg hk]
  simp
 | p::P,w::vs,i+1,m,nd,h1,h2,hk=>by
  show bindC kindOf ((p,w)::P.zip vs) m x=_
  unfold bindC
  exact zc0 (i:=i) (List.nodup_cons.mp nd).2 (by simpa using h1) (by simpa using h2) hk
def start (N:List Str)(vs:List V):St:=vs.map some++List.replicate (N.length-vs.length) none
def zbk (CX:CXT)(P:Program)(w:World)(K:PySem.W.Frag)(mg:Str->Option Value)(base:Heap)(N:List Str)(qual:Str)(scope:Scope)(f:Addr)(cd:Value)(A:Around)(outer:List Env)(s:Shared)(H:Hp)(E:XK):Cx where
 prog:=P
 w:=w
 K:=K
 mg:=mg
 base:=base
 A:=A.deeper (envOfC qual scope s.heap.objs.size f cd)
 N:=N
 s₀:=s
 H₀:=H
 env:=envOfC qual scope s.heap.objs.size f cd
 outer:=outer
 stack:=envOfC qual scope s.heap.objs.size f cd::outer
 ex:=[]
 calm:=true
 fn:=fun _=>true
 pn:=[]
 xe:=fun e s'=>wpAny (model P w) (A.deeper (envOfC qual scope s.heap.objs.size f cd)) (leaving (envOfC qual scope s.heap.objs.size f cd) e) (fun _ s''=>CX outer H s E e s'') (fun e' s''=>CX outer H s E e' s'') s'
theorem zd2 {sc:Scope}{n:Nat}{x:Str}(h:sc.names.lookup x=some .cell):∃ c,(cellsFrom n sc.names []).lookup x=some c:=by
 have q:=PySem.W.cellsFrom_some sc.names n [] (.inl h)
 exact Option.isSome_iff_exists.mp q
theorem zfn {CX:CXT}{P:Program}{w:World}{K:PySem.W.Frag}{mg:Str->Option Value}{base:Heap}{N ps:List Str}{qual:Str}{scope:Scope}{f:Addr}{cd:Value}{A:Around}{outer:List Env}{s s1:Shared}{H:Hp}{E:XK}{us:List Value}{vs:List V}
    (S:z6 N ps scope) (hd:A.handled=none) (e0:zeV P w K mg base A outer s H) (hl:vs.length=ps.length) (r:Vals vs us)
    (x:InCallC s s.heap.objs.size (bindL (envOfC qual scope s.heap.objs.size f cd).kindOf (ps.zip us) fun _=>none) (cellsFrom (s.heap.objs.size+1) scope.names []) (bindC (envOfC qual scope s.heap.objs.size f cd).kindOf (ps.zip us) fun _=>none) s1) :
    Inv (zbk CX P w K mg base N qual scope f cd A outer s H E) [] (start N vs) H s1:=by
  have hpl:ps.length<=N.length:=by have:=congrArg List.length S.pre;rw [List.length_take] at this;omega
  obtain⟨h1,tk,rfl,hk⟩:=x.done
  have noA:∀ b:Addr,b∉(zbk CX P w K mg base N qual scope f cd A outer s H E).ex:=fun b z=>absurd (show b∈([]:List Addr) from z) (by simp)
  refine⟨⟨e0.mod,S.kind,rfl,rfl,Nat.le_refl _,fun y z c h1 h2=>?_,fun y hy=>?_,fun y c _ h=>?_,fun _=>hd,Around.frames_deeper e0.frames,.inr ⟨rfl,rfl⟩,fun b z=>absurd z (noA b),e0.bs,e0.bsz,fun b _ _=>noA b,fun b z=>absurd z (noA b),e0.funs,e0.frf⟩,
    rfl,e0.bare,Un.kept hk,⟨_,x.toInCall.ns,fun i y v h1 h2 h3=>?_⟩,fun y c h=>⟨_,x.cell y c h⟩,e0.hok.fresh (Nat.le_refl _),fun y c h=>?_,fun p hp=>absurd (show p∈([]:List (Addr×Obj)) from hp) (by simp),e0.hok.kept hk,?_⟩
  · exact name_of_addr x.apart (PySem.mem_of_lookup h1) (PySem.mem_of_lookup h2)
  · have hy:scope.names.lookup y=some .cell\/scope.names.lookup y=some .free:=hy
    rcases hy with hy | hy
    · exact zd2 hy
    · exact absurd rfl (S.nofree _ (PySem.mem_of_lookup hy))
  · exact Nat.le_of_lt (x.above y c (PySem.mem_of_lookup h))
  · have hi : i < vs.length := by
      unfold start at h2
      by_cases hi:i<vs.length
      · exact hi
      · rw [List.getElem?_append_right (by simpa using hi)] at h2
        rw [List.getElem?_replicate] at h2
        split at h2<;>cases h2
    have ha:vs[i]?=some v:=by
      unfold start at h2
      rw [List.getElem?_append_left (by simpa using hi),List.getElem?_map] at h2
      cases e:vs[i]? with
      | none=>rw [e] at h2;cases h2
      | some a=>rw [e] at h2;cases h2;rfl
    obtain⟨u,hu,rv⟩:=r.get ha
    have hp:ps[i]?=some y:=by
      rw [<- S.pre,List.getElem?_take_of_lt (by omega)];exact h1
    have ndP:ps.Nodup:=by rw [<- S.pre];exact S.nd.sublist (List.take_sublist _ _)
    refine⟨u,rv,?_⟩
    rcases S.par y (List.mem_of_getElem? hp) with k | k
    · exact .inl ⟨k,zcX ndP hp hu k⟩
    · obtain⟨c,e⟩:=zd2 (n:=s.heap.objs.size+1) k
      refine .inr ⟨.inl k,c,e,?_⟩
      have q:=x.cell y c e
      rw [zc0 ndP hp hu (by show scope.names.lookup y≠_;rw [k];decide)] at q
      exact q
  · exact e0.hok.fresh (Nat.le_of_lt (x.above y c (PySem.mem_of_lookup h)))
  · unfold start
    show _=N.length
    rw [List.length_append,List.length_map,List.length_replicate]
    omega
theorem zgl {CX:CXT}{P:Program}{w:World}{K:PySem.W.Frag}{mg:Str->Option Value}{base:Heap}{k:Nat}{f:Addr}{name qual:Str}{params:Arguments}{body:List Stmt}{scope:Scope}{dV kV doc pm cdv ct oc:Value}{an od:Option Addr}
  {osl:Array (Option Value)} {N ps:List Str} {sp:Sp} (lk:K.lookup f=some ⟨oc,od,.func (PySem.W.fnOf name qual params body scope dV kV doc pm an cdv ct),osl⟩) (hcd:PySem.W.codeIn K cdv qual=true) (S:z6 N ps scope)
  (len:∀ vs H Q E,sp vs H Q E->vs.length=ps.length)
  (hbody:∀ (A:Around) (outer:List Env) (s:Shared) (H:Hp) (vs:List V) (Q:VK) (E:XK),zO k (A.deeper (envOfC qual scope s.heap.objs.size f cdv))->sp vs H Q E ->
   ∃ t,PSs (zbk CX P w K mg base N qual scope f cdv A outer s H E) body t/\t { nx:=fun _ H'=>Q .non H',rt:=Q } (start N vs) H) :
  zZ P w K mg base CX (k+1) f (PySem.W.fnOf name qual params body scope dV kV doc pm an cdv ct) ps sp:=by
 refine⟨len,fun A outer s H args us vs Q E hr e0 hb r hsp=>?_⟩
 have hl:=len _ _ _ _ hsp
 have KX:K.In s.heap:=e0.mod.kin.keeps fun b o e=>(e0.bs b o e).1
 have lim:s.heap.NoLimit:=e0.mod.nolimit.keeps fun b o e=>(e0.bs b o e).1
 have hkind:∀ y∈ps.zip us,scope.names.lookup y.1=some .local\/(scope.names.lookup y.1=some .cell/\((cellsFrom (s.heap.objs.size+1) scope.names []).lookup y.1).isSome=true):=fun⟨n,v⟩ hy=>by
  rcases S.par n (List.of_mem_zip hy).1 with q | q
  ·exact .inl q
  ·exact .inr ⟨q,PySem.W.cellsFrom_some _ _ _ (.inl q)⟩
 refine codeAny_call_function hr.depth (KX _ _ lk) rfl S.co S.gen rfl (PySem.W.codeRec_of KX hcd) (hb _ _ _ _ ?_)
 refine wpAny_newFunctionEnv_cells S.kind hkind fun env he s1 x=>?_
 subst he
 refine⟨lim.keeps x.toInCall.keep,codeAny_func ?_⟩
 obtain⟨t,ht,hq⟩:=hbody A outer s H vs Q E (hr.deeper _) hsp
 have I:Inv (zbk CX P w K mg base N qual scope f cdv A outer s H E) [] (start N vs) H s1:=zfn S hr.hd e0 hl r x
 refine wpAny_mono (ht [] s1 (start N vs) H _ I hq) (fun fl s' hs=>?_) fun e s' hs=>hs
 have fin:∀ {σ':St} {H':Hp} {v:V} {u:Value},Inv (zbk CX P w K mg base N qual scope f cdv A outer s H E) [] σ' H' s'->RelV v u->Q v H'->CE outer P w H s Q u s' :=
  fun {σ' H' v u} J rv q=>⟨v,H',J.os,J.bare,J.base,J.hok,rv,q⟩
 cases fl with
 | ret u =>
  obtain⟨v,σ',H',J,rv,q⟩:=hs
  exact fin J rv q
 | next =>
  obtain⟨σ',H',J,q⟩:=hs
  exact fin (v:=V.non) (u:=Value.none) J rfl q
 | brk =>
  obtain⟨_,_,_,q⟩:=hs
  exact False.elim q
 | cont =>
  obtain⟨_,_,_,q⟩:=hs
  exact False.elim q
section
variable {X:Cx}{x:Str}{p pos:Pos}{e:Expr}{es:List Expr}{t:TA}{id T:String}{r:List V->Hp->VK->Prop}
def tCB (r:List V->Hp->VK->Prop)(t:TA):TE:=fun σ H Q=>t σ H fun vs H1=>r vs H1 Q
theorem zgc (hc:z9 X (.builtin id) r)(hg:Gl X x)(hm:X.mg x=none)(hv:bootBuiltins x=some (.builtin id))(ha:PA X (e::es) t)(hn:x≠"__name__":=by decide)(hdb:(x==("__debug__":Str))=false:=by decide)
  (he:starEach (e::es) X.env=(false,eval e X.env)::starEach es X.env:=by rfl) (hpl:(backTo pos (starEach es X.env)).any (·.1)=false:=by rfl):PE X (.Call (.Name x p) (e::es) [] pos) (tCB r t):=by
 intro pins s σ H Q I h
 refine wpAny_Call_Name_kw (zbn I hg hm hv ?_ hn hdb)
 exact PyProof.Rows.callWith_builtin1 (thn (ha pos pins s σ H _ I h) fun us s1 ⟨vs,H1,I1,r1,q1⟩=>hc pins s1 σ H1 vs us Q I1 r1 q1) he hpl
theorem zff (hc:z9 X (.type T) r)(hg:Gl X x)(hm:X.mg x=none)(hv:bootBuiltins x=some (.type T))(ha:PA X (e::es) t)(hn:x≠"__name__":=by decide)(hdb:(x==("__debug__":Str))=false:=by decide)
  (he:starEach (e::es) X.env=(false,eval e X.env)::starEach es X.env:=by rfl) (hpl:(backTo pos (starEach es X.env)).any (·.1)=false:=by rfl):PE X (.Call (.Name x p) (e::es) [] pos) (tCB r t):=by
 intro pins s σ H Q I h
 refine wpAny_Call_Name_kw (zbn I hg hm hv ?_ hn hdb)
 exact PyProof.Rows.callWith_type1 (thn (ha pos pins s σ H _ I h) fun us s1 ⟨vs,H1,I1,r1,q1⟩=>hc pins s1 σ H1 vs us Q I1 r1 q1) he hpl
end
end L2
namespace HT
open PySem PyProof.Rows
section
open PySem.SeqAt
open PySem.AutoSeq1 (wpAny_loadPart')
open PySem.MeetsSeq PySem.MeetsSeq2 PySem.MeetsSeq3
end
section
variable {prog:Program}{w:World}{A:Around}{E:Value->Shared->Prop}{s:Shared}
theorem zg6 {t b:Addr}{vs ws:List Value}{Q:Value->Shared->Prop}(ht:IsTup s.heap t vs.toArray)(hb:IsTup s.heap b ws.toArray)(hv:vs≠[])
  (h1:ws=[]->Q (.ref t) s) (h2:ws≠[]->Q (.ref s.heap.objs.size) { s with heap:=s.heap.push { cls:=.type "tuple",data:=.seq (vs++ws).toArray } })
  (hsz:vs.length+ws.length<=sizeLine):wpAny (model prog w) A (binaryOp .Add (.ref t) (.ref b)) Q E s:=by
 obtain⟨⟨cls,dd,data,sl⟩,ho,hc,n,hd⟩:=id ht
 obtain⟨⟨cls2,dd2,data2,sl2⟩,ho2,hc2,n2,hd2⟩:=id hb
 simp only at hc hd hc2 hd2
 subst hc hd hc2 hd2
 have e:vs.toArray++ws.toArray=(vs++ws).toArray:=by simp
 by_cases hw:ws=[]
 ·exact concat_meets ⟨_,ho,rfl⟩ ⟨_,ho2,rfl⟩ noFill_tuple_add seq_tuple_add PySem.F.slot_tuple_add PySem.F.entry_tuple_add (PySem.F.args_tuple_add_2 _ _)
   (tuple_addW1 t b vs.toArray ws.toArray n n2 dd dd2 sl sl2 (by simpa using hv) (by simp [hw])) ⟨ho,ho2,h1 hw⟩
 ·refine concat_meets ⟨_,ho,rfl⟩ ⟨_,ho2,rfl⟩ noFill_tuple_add seq_tuple_add PySem.F.slot_tuple_add PySem.F.entry_tuple_add (PySem.F.args_tuple_add_2 _ _)
   (tuple_addW2 t b vs.toArray ws.toArray n n2 dd dd2 sl sl2 (by simpa using hv) (by simpa using hw) (by rw [List.size_toArray,List.size_toArray];exact hsz)) ⟨ho,ho2,?_⟩
  rw [e]
  exact h2 hw
def sIx (n d:Nat):Option Int->Nat
 | none=>d
 | some v=>if v<0 then (v+(n:Int)).toNat else min v.toNat n
theorem zcC (n d:Nat)(hd:d<=n)(o:Option Int):sIx n d o<=n:=by
 cases o with
 | none=>exact hd
 | some v =>
  show (if v<0 then (v+(n:Int)).toNat else min v.toNat n)<=n
  by_cases hv:v<0
  ·rw [if_pos hv];omega
  ·rw [if_neg hv];exact Nat.min_le_right _ _
theorem zes (v:Int)(n d:Nat):(if v<0 then max (v+(n:Int)) 0 else min v (n:Int))=((sIx n d (some v):Nat):Int):=by
 show (if v<0 then max (v+(n:Int)) 0 else min v (n:Int))=(((if v<0 then (v+(n:Int)).toNat else min v.toNat n):Nat):Int)
 by_cases hv:v<0
 ·simp only [if_pos hv];omega
 ·simp only [if_neg hv];omega
theorem zeO (lo hi:Option Int)(n:Nat):Builtin.Slice.sliceAdjust lo hi 1 (n:Int)=(((sIx n 0 lo:Nat):Int),((sIx n n hi:Nat):Int)):=by
 have h1:¬ ((1:Int)<0):=by omega
 unfold Builtin.Slice.sliceAdjust
 simp only [h1,if_false]
 refine Prod.ext ?_ ?_
 ·cases lo with
  | none=>rfl
  | some v=>exact zes v n 0
 ·cases hi with
  | none=>rfl
  | some v=>exact zes v n n
theorem zeG (i j:Nat):Builtin.Slice.slicePlaces (i:Int) (j:Int) 1=j-i:=by
  unfold Builtin.Slice.slicePlaces
  have h1:(1:Int) > 0:=by omega
  simp only [h1,if_true,Int.ediv_one]
  split<;>omega
theorem zcB {v:Value}{o:Option Int}{Q:Option Int->Shared->Prop}(p:IsPart v o)(h:Q o s):wpAny (model prog w) A (Builtin.Slice.slicePartIndex v) Q E s:=by
 cases p with
 | none=>exact slicePart_none h
 | int i t=>exact slicePart_int h
theorem zba {sl:Addr}{vl vu:Value}{lo hi:Option Int}{n:Nat}{Q:Int×Int×Nat->Shared->Prop}(hs:s.heap.IsSliceOf sl vl vu .none)(pl:IsPart vl lo)(pu:IsPart vu hi)
  (h:Q (((sIx n 0 lo:Nat):Int),1,sIx n n hi-sIx n 0 lo) s):wpAny (model prog w) A (Builtin.Slice.sliceApplied (.ref sl) (pure (n:Int))) Q E s:=by
 obtain⟨os,hos,hcs,hds⟩:=id hs
 unfold Builtin.Slice.sliceApplied Builtin.Slice.sliceFields
 refine wpAny_bind (wpAny_bind (wpAny_field hos hds (x:=vl) rfl (wpAny_bind (wpAny_field hos hds (x:=vu) rfl (wpAny_bind (wpAny_field hos hds (x:=.none) rfl (wpAny_pure ?_)))))))
 refine wpAny_bind (slicePart_none ?_)
 show wpAny _ _ (if ((1:Int)==0)=true then _ else _) _ _ s
 rw [if_neg (by decide)]
 refine wpAny_bind (zcB pl (wpAny_bind (zcB pu (wpAny_bind (wpAny_pure ?_)))))
 show wpAny _ _ (match Builtin.Slice.sliceAdjust lo hi 1 (n:Int) with | (lo,hi)=>pure (lo,(1:Int),Builtin.Slice.slicePlaces lo hi 1)) _ _ s
 rw [zeO lo hi n]
 show wpAny _ _ (pure (((sIx n 0 lo:Nat):Int),(1:Int),Builtin.Slice.slicePlaces ((sIx n 0 lo:Nat):Int) ((sIx n n hi:Nat):Int) 1)) _ _ s
 rw [zeG]
 exact wpAny_pure h
theorem zfD (xs:Array Value)(i k:Nat):((List.range k).filterMap fun (m:Nat)=>xs[((i:Int)+(m:Int)*1).toNat]?).toArray=((xs.toList.drop i).take k).toArray:=by
 have e:(fun (m:Nat)=>xs[((i:Int)+(m:Int)*1).toNat]?)=fun m=>xs[i+m]?:=by
  funext m
  have:((i:Int)+(m:Int)*1).toNat=i+m:=by omega
  rw [this]
 rw [e]
 have:=pick_run xs i k
 rw [List.filterMap_map] at this
 have e2:((fun x=>xs[x]?) ∘ fun x=>i+x)=fun m=>xs[i+m]?:=rfl
 rw [e2] at this
 rw [this]
theorem zcb {t sl:Addr}{items:Array Value}{vl vu:Value}{lo hi:Option Int}{Q:Value->Shared->Prop}(ht:IsTup s.heap t items)(hs:s.heap.IsSliceOf sl vl vu .none)(pl:IsPart vl lo)(pu:IsPart vu hi)
  (hw:¬ (sIx items.size 0 lo=0/\sIx items.size items.size hi=items.size))
  (h:Q (.ref s.heap.objs.size) { s with heap:=s.heap.push { cls:=.type "tuple",data:=.seq ((items.toList.drop (sIx items.size 0 lo)).take (sIx items.size items.size hi-sIx items.size 0 lo)).toArray } })
  (hsz:items.size<=sizeLine):wpAny (model prog w) A (getItem (.ref t) (.ref sl)) Q E s:=by
 have htake:sizeOk (.seq ((items.toList.drop (sIx items.size 0 lo)).take (sIx items.size items.size hi-sIx items.size 0 lo)).toArray):=by
  show ((items.toList.drop (sIx items.size 0 lo)).take (sIx items.size items.size hi-sIx items.size 0 lo)).toArray.size<=sizeLine
  rw [List.size_toArray,List.length_take,List.length_drop,Array.length_toList]
  omega
 have hj:sIx items.size items.size hi<=items.size:=zcC _ _ (Nat.le_refl _) hi
 obtain⟨os,hos,hcs,hds⟩:=id hs
 have hTs:s.TypeIs (.ref sl) "slice":=⟨os,hos,hcs⟩
 unfold getItem
 try with_reducible refine wpAny_holding ?_
 first | refine wpAny_bind (wpAny_pure ?_) | skip
 refine wpAny_bind (wpAny_sequenceKey ht.typeIs (by decide) ?_)
 refine wpAny_bind (wpAny_callSpecial?_slot (name:=Str.ofString "__getitem__") ht.typeIs PyProof.Rows.slot_tuple_getitem
  (wpAny_call_entry PyProof.Rows.slot_tuple_getitem ht.typeIs entry_tuple_getitem ?_ (args_tuple_getitem _ _)))
 show wpAny _ _ (Builtin.Tuple.tupleItemsOf (.ref t) >>= _) _ _ s
 refine wpAny_bind (tupleItemsOf_ ht ?_)
 refine wpAny_bind (wpAny_typeOf hTs ?_)
 rw [if_pos (by decide)]
 refine wpAny_bind (zba hs pl pu ?_)
 have hno:¬ ((((sIx items.size 0 lo:Nat):Int)==0&&(1:Int)==1&&(sIx items.size items.size hi-sIx items.size 0 lo)==items.size)=true):=by
  intro q
  rw [Bool.and_eq_true,Bool.and_eq_true] at q
  have q1:((sIx items.size 0 lo:Nat):Int)=0:=eq_of_beq q.1.1
  have q2:sIx items.size items.size hi-sIx items.size 0 lo=items.size:=eq_of_beq q.2
  exact hw ⟨by omega,by omega⟩
 show wpAny _ _ (if (((sIx items.size 0 lo:Nat):Int)==0&&(1:Int)==1&&(sIx items.size items.size hi-sIx items.size 0 lo)==items.size)=true then _ else _) _ _ s
 rw [if_neg hno,zfD]
 first
  | exact wpAny_bind (m:=Builtin.Tuple.tupleExact _) (wpAny_newObj_type (wpAny_pure ⟨_,rfl,wpAny_pure h⟩) htake)
  | exact wpAny_bind (m:=Builtin.Tuple.tupleExact _) (wpAny_newObj_type (wpAny_bind (wpAny_pure (wpAny_pure ⟨_,rfl,wpAny_pure h⟩))) htake)
  | exact wpAny_bind (wpAny_bind (m:=Builtin.Tuple.tupleExact _) (wpAny_newObj_type (wpAny_pure (wpAny_pure ⟨_,rfl,wpAny_pure h⟩)) htake))
  | exact wpAny_bind (wpAny_bind (m:=Builtin.Tuple.tupleExact _) (wpAny_newObj_type (wpAny_pure ⟨_,rfl,wpAny_pure h⟩) htake))
end
end HT
namespace L2
open PySem PySem.Spec PyProof.Rows
abbrev TO:=St->Hp->(Option Int->Hp->Prop)->Prop
def PO (X:Cx)(e:Option Expr)(t:TO):Prop :=
 ∀ (pins:List (Addr×Obj)) (s:Shared) (σ:St) (H:Hp) (Q:Option Int->Hp->Prop),Inv X pins σ H s->t σ H Q ->
  wpAny (model X.prog X.w) X.A (evalPart e X.env) (fun u s'=>∃ o H',Inv X pins σ H' s'/\IsPart u o/\Q o H') X.xe s
def zgE:TO:=fun _ H Q=>Q none H
def zjk (t:TE):TO:=fun σ H Q=>t σ H fun x H1=>∃ i,x=.int i/\Q (some i) H1
section
variable {X:Cx}{e:Expr}{te:TE}{lo hi:Option Expr}{tl th:TO}{pos p2:Pos}
theorem zgJ:PO X none zgE:=by
 intro pins s σ H Q I h
 rw [evalPart_none]
 exact wpAny_pure ⟨none,H,I,.none,h⟩
theorem zgX (h:PE X e te):PO X (some e) (zjk te):=by
 intro pins s σ H Q I hw
 rw [evalPart_some]
 refine thn (h pins s σ H _ I hw) fun u s1 ⟨x,H1,I1,r1,q1⟩=>?_
 obtain⟨i,rfl,q⟩:=q1
 obtain⟨t,rfl⟩:=r1
 exact⟨some i,H1,I1,.int i t,q⟩
def SlR (X:Cx)(r:V->Option Int->Option Int->Hp->VK->Prop):Prop :=
 ∀ (pins:List (Addr×Obj)) (s:Shared) (σ:St) (H:Hp) (x:V) (v vl vu:Value) (lo hi:Option Int) (sl:Addr) (Q:VK),Inv X pins σ H s->RelV x v->s.heap.IsSliceOf sl vl vu .none->IsPart vl lo->IsPart vu hi->r x lo hi H Q ->
  ∃ T id,typeLookup (.type T) "__getitem__"=pure (some (.builtin id))/\s.TypeIs v T/\wpAny (model X.prog X.w) X.A (getItem v (.ref sl)) (EP X pins σ Q) X.xe s
theorem SlR.or {r r':V->Option Int->Option Int->Hp->VK->Prop}(h:SlR X r)(h':SlR X r'):SlR X (fun x lo hi H Q=>r x lo hi H Q\/r' x lo hi H Q):=by
 intro pins s σ H x v vl vu lo hi sl Q I rx hs pl pu q
 rcases q with q | q
 ·exact h pins s σ H x v vl vu lo hi sl Q I rx hs pl pu q
 ·exact h' pins s σ H x v vl vu lo hi sl Q I rx hs pl pu q
def tSl (r:V->Option Int->Option Int->Hp->VK->Prop)(te:TE)(tl th:TO):TE:=fun σ H Q=>te σ H fun x H1=>tl σ H1 fun l H2=>th σ H2 fun u H3=>r x l u H3 Q
theorem zfT {r:V->Option Int->Option Int->Hp->VK->Prop}(hr:SlR X r)(he:PE X e te)(hl:PO X lo tl)(hu:PO X hi th):PE X (.Subscript e (.Slice lo hi none p2) pos) (tSl r te tl th):=by
 intro pins s σ H Q I h
 refine Subscript_ (thn (he pins s σ H _ I h) fun v s1 ⟨x,H1,I1,r1,q1⟩=>?_)
 refine wpAny_Slice (thn (hl pins s1 σ H1 _ I1 q1) fun vl s2 ⟨l,H2,I2,pl,q2⟩=>thn (hu pins s2 σ H2 _ I2 q2) fun vu s3 ⟨u,H3,I3,pu,q3⟩=>?_)
 rw [evalPart_none]
 refine wpAny_pure ?_
 have I4:Inv X pins σ H3 { s3 with heap:=s3.heap.push { cls:=.type "slice",data:=.fields #[vl,vu,.none] } }:=I3.kept (t':=s3.toks) fun b ob q=>Heap.get?_push_of_some _ q
 obtain⟨T,id,hT,ht,hg⟩:=hr pins { s3 with heap:=s3.heap.push { cls:=.type "slice",data:=.fields #[vl,vu,.none] } } σ H3 x v vl vu l u s3.heap.objs.size Q I4 r1 (Heap.IsSliceOf.new ..) pl pu q3
 show wpAny (model X.prog X.w) X.A (subscriptTail e (.Slice lo hi none p2) v (.ref s3.heap.objs.size)) (EP X pins σ Q) X.xe { s3 with heap:=s3.heap.push { cls:=.type "slice",data:=.fields #[vl,vu,.none] } }
 exact tail_any (ops:=[.ref s3.heap.objs.size,v]) ht hT hg (by with_unfolding_all rfl)
def zbA (xs:List V)(lo hi:Option Int):List V:=(xs.drop (HT.sIx xs.length 0 lo)).take (HT.sIx xs.length xs.length hi-HT.sIx xs.length 0 lo)
theorem zcd (xs:List V)(lo hi:Option Int):(zbA xs lo hi).length<=xs.length:=by
 unfold zbA
 rw [List.length_take,List.length_drop]
 omega
def zkb (K:PySem.W.Frag):V->Option Int->Option Int->Hp->VK->Prop:=fun x lo hi H Q=>∃ a xs,x=.ref a/\SqT K H a xs /\
 ¬ (HT.sIx xs.length 0 lo=0/\HT.sIx xs.length xs.length hi=xs.length)/\∀ p,H p=none->Q (.ref p) (upd H p (.tup (zbA xs lo hi)))
theorem zh6:SlR X (zkb X.K):=by
 intro pins s σ H x v vl vu lo hi sl Q I rx hs pl pu h
 obtain⟨a,xs,rfl,hx,hw,q⟩:=h
 cases rx
 obtain⟨its,r,ht,hz⟩:=I.tuple hx
 have hlen:its.toArray.size=xs.length:=by rw [List.size_toArray];exact r.length.symm
 refine⟨"tuple",_,PyProof.Rows.slot_tuple_getitem.lookup,ht.typeIs,?_⟩
 refine HT.zcb ht hs pl pu (by rw [hlen];exact hw) ?_ (by rw [hlen];exact hz)
 rw [hlen]
 refine⟨.ref s.heap.objs.size,_,I.laid (t':=s.toks) (o:=.tup (zbA xs lo hi)) (fun b ob q=>Heap.get?_push_of_some _ q) (Nat.le_refl _) ?_,rfl,q _ (I.hok.fresh (Nat.le_refl _))⟩
 exact⟨Nat.le_trans (zcd xs lo hi) hz,_,(r.drop (HT.sIx xs.length 0 lo)).take (HT.sIx xs.length xs.length hi-HT.sIx xs.length 0 lo),IsTup.new _ _⟩
def ziS (K:PySem.W.Frag):R2:=fun x y H Q=>∃ a b xs ys,x=.ref a/\y=.ref b/\SqT K H a xs/\SqT K H b ys/\xs≠[]/\xs.length+ys.length<=sizeLine /\
 (ys=[]->Q (.ref a) H)/\(ys≠[]->∀ p,H p=none->Q (.ref p) (upd H p (.tup (xs++ys))))
theorem Vals.nil_iff {xs:List V}{us:List Value}(r:Vals xs us):us=[]↔xs=[]:=by
 cases r with
 | nil=>simp
 | cons _ _=>simp
theorem zgN:OpR X (binaryOp .Add) (ziS X.K):=by
 intro pins s σ H x y v u Q I rx ry h
 obtain⟨a,b,xs,ys,rfl,rfl,ha,hb,hx,hz,q1,q2⟩:=h
 cases rx
 cases ry
 obtain⟨its,r1,p1,_⟩:=I.tuple ha
 obtain⟨its2,r2,p2,_⟩:=I.tuple hb
 refine HT.zg6 p1 p2 (fun z=>hx (r1.nil_iff.mp z)) (fun z=>⟨.ref a,H,I,rfl,q1 (r2.nil_iff.mp z)⟩) (fun z=>?_) (by rw [<- r1.length,<- r2.length];exact hz)
 refine⟨.ref s.heap.objs.size,_,I.laid (t':=s.toks) (o:=.tup (xs++ys)) (fun b ob q=>Heap.get?_push_of_some _ q) (Nat.le_refl _) ?_,rfl,q2 (fun w=>z (r2.nil_iff.mpr w)) _ (I.hok.fresh (Nat.le_refl _))⟩
 exact⟨by rw [List.length_append];exact hz,_,r1.append r2,IsTup.new _ _⟩
end
def ixN (n:Nat)(i:Int):Option Nat:=if 0<=i then (if i<n then some i.toNat else none) else if -(n:Int)<=i then some (i+n).toNat else none
def atI {α:Type}(xs:List α)(i:Int):Option α:=(ixN xs.length i).bind fun j=>xs[j]?
theorem zhx {n:Nat}{i:Int}{j:Nat}(h:ixN n i=some j):seqIndex? i n=some j/\j<n/\-(n:Int)<=i/\i<n:=by
 unfold ixN at h
 by_cases h0:0<=i
 ·rw [if_pos h0] at h
  by_cases h1:i<n
  ·rw [if_pos h1] at h
   have e:i.toNat=j:=Option.some.inj h
   exact⟨by rw [seqIndex_of h0 h1,e],by omega,by omega,h1⟩
  ·rw [if_neg h1] at h;cases h
 ·rw [if_neg h0] at h
  by_cases h1:-(n:Int)<=i
  ·rw [if_pos h1] at h
   have e:(i+n).toNat=j:=Option.some.inj h
   exact⟨by rw [seqIndex_neg (by omega) h1,e],by omega,h1,by omega⟩
  ·rw [if_neg h1] at h;cases h
theorem zcM {α:Type}{xs:List α}{i:Int}{v:α}(h:atI xs i=some v):∃ j,seqIndex? i xs.length=some j/\xs[j]?=some v/\j<xs.length/\-(xs.length:Int)<=i/\i<xs.length:=by
 unfold atI at h
 cases e:ixN xs.length i with
 | none=>rw [e] at h;cases h
 | some j =>
  rw [e] at h
  obtain⟨h1,h2,h3,h4⟩:=zhx e
  exact⟨j,h1,h,h2,h3,h4⟩
def zee (b:Expr):Prop:=∀ o i,subscripted b false o i=operate [o,i] (getItem o i)
def IxR (X:Cx)(r:R2):Prop :=
 ∀ (value slice:Expr) (pins:List (Addr×Obj)) (s:Shared) (σ:St) (H:Hp) (x y:V) (v u:Value) (Q:VK),Inv X pins σ H s->RelV x v->RelV y u->r x y H Q ->
  subscripted slice false v u=operate [v,u] (getItem v u)->wpAny (model X.prog X.w) X.A (subscriptTail value slice v u) (EP X pins σ Q) X.xe s
section
variable {X:Cx}{a b:Expr}{ta tb:TE}{pos:Pos}
theorem IxR.or {r r':R2}(h:IxR X r)(h':IxR X r'):IxR X (fun x y H Q=>r x y H Q\/r' x y H Q):=by
 intro value slice pins s σ H x y v u Q I rx ry q hs
 rcases q with q | q
 ·exact h value slice pins s σ H x y v u Q I rx ry q hs
 ·exact h' value slice pins s σ H x y v u Q I rx ry q hs
theorem zjM {r:R2}(hr:IxR X r)(ha:PE X a ta)(hb:PE X b tb)(hs:zee b):PE X (.Subscript a b pos) (tOp r ta tb):=by
 intro pins s σ H Q I h
 exact Subscript_ (zgf ha hb I h fun v u s2 x y H2 I2 rx ry q=>hr a b pins s2 σ H2 x y v u Q I2 rx ry q (hs _ _))
def zkf (K:PySem.W.Frag):R2:=fun x y H Q=>∃ p xs i v,x=.ref p/\y=.int i/\SqL K H p xs/\atI xs i=some v/\Q v H
def zkj (K:PySem.W.Frag):R2:=fun x y H Q=>∃ p xs i v,x=.ref p/\y=.int i/\SqT K H p xs/\atI xs i=some v/\Q v H
def zka:R2:=fun x y H Q=>∃ z i c,x=.str z/\y=.int i/\z.length<=sizeLine/\atI z.cps.toList i=some c/\Q (.str ⟨#[c]⟩) H
theorem zht:IxR X (zkf X.K):=by
  intro value slice pins s σ H x y v u Q I rx ry h hs
  obtain⟨p,xs,i,z,rfl,rfl,hq,he,q⟩:=h
  cases rx
  obtain⟨t,rfl⟩:=ry
  obtain⟨its,r,pl,hz⟩:=I.list hq
  obtain⟨j,h1,h2,h3,h4,h5⟩:=zcM he
  obtain⟨w,ew,rw'⟩:=r.get h2
  have hl:=r.length
  have hn:=zbV
  have fin:EP X pins σ Q w s:=⟨z,H,I,rw',q⟩
  by_cases h0:0<=i
  · have hj : i.toNat = j := by
      rw [seqIndex_of h0 h5] at h1
      exact Option.some.inj h1
    exact item_listR pl.isList h0 (by omega) (by rw [hj];simpa using ew) fin hs
  · have hj : (i + (its.toArray.size : Int)).toNat = j := by
      rw [seqIndex_neg (by omega) h4] at h1
      rw [List.size_toArray,<- hl]
      exact Option.some.inj h1
    exact subscriptTail_builtinR (x:=w) pl.isList.typeIs slot_list_getitem.lookup
      (wpAny_getItem_list_neg (Q:=fun r s'=>r=w/\EP X pins σ Q r s') pl.isList (by omega) (by rw [List.size_toArray]<;>omega) (by omega) (by rw [hj];simpa using ew) ⟨rfl,fin⟩) hs
theorem ziE:IxR X (zkj X.K):=by
 intro value slice pins s σ H x y v u Q I rx ry h hs
 obtain⟨p,xs,i,z,rfl,rfl,hq,he,q⟩:=h
 cases rx
 obtain⟨t,rfl⟩:=ry
 obtain⟨its,r,pl,hz⟩:=I.tuple hq
 obtain⟨j,h1,h2,h3,h4,h5⟩:=zcM he
 obtain⟨w,ew,rw'⟩:=r.get h2
 have hl:=r.length
 have hn:=zbV
 have fin:EP X pins σ Q w s:=⟨z,H,I,rw',q⟩
 exact subscriptTail_builtinR (x:=w) pl.typeIs slot_tuple_getitem.lookup
  (getItem_tuple (j:=j) (Q:=fun r s'=>r=w/\EP X pins σ Q r s') pl (by omega) (by omega) (by rw [List.size_toArray,<- hl];exact h1) (by simpa using ew) ⟨rfl,fin⟩) hs
theorem zin:IxR X zka:=by
 intro value slice pins s σ H x y v u Q I rx ry h hs
 obtain⟨z,i,c,rfl,rfl,hz,he,q⟩:=h
 obtain⟨t,rfl⟩:=rx
 obtain⟨t',rfl⟩:=ry
 obtain⟨j,h1,h2,h3,h4,h5⟩:=zcM he
 have hl:z.cps.toList.length=z.length:=by simp [Str.length]
 rw [hl] at h1 h4 h5
 have hn:=zbV
 exact tail_any (typeIs_str s z t) slot_str_getitem.lookup (getItem_str (c:=c) (by
  have e1:decide (i < -(2 ^ 63:Int))=false:=decide_eq_false (by omega)
  have e2:decide (i ≥ 2 ^ 63)=false:=decide_eq_false (by omega)
  rw [e1,e2,Bool.or_false]) (by rw [h1];simpa using h2) ⟨.str ⟨#[c]⟩,H,I.tok _,⟨_,rfl⟩,q⟩) hs
theorem zdv (lo hi:Option Int)(n:Nat):(sliceBounds lo hi none n).1=((HT.sIx n 0 lo:Nat):Int)/\(sliceBounds lo hi none n).2.1=((HT.sIx n n hi:Nat):Int)/\(sliceBounds lo hi none n).2.2=1:=by
  refine⟨?_,?_,rfl⟩
  · cases lo with
    | none=>simp [sliceBounds,HT.sIx]
    | some i =>
      simp only [sliceBounds,HT.sIx,Option.getD_none,show (1:Int) > 0 by decide,if_true]
      by_cases h:i<0
      · simp only [h,if_true]<;>omega
      · simp only [h,if_false]<;>omega
  · cases hi with
    | none=>simp [sliceBounds,HT.sIx]
    | some i =>
      simp only [sliceBounds,HT.sIx,Option.getD_none,show (1:Int) > 0 by decide,if_true]
      by_cases h:i<0
      · simp only [h,if_true]<;>omega
      · simp only [h,if_false]<;>omega
theorem zde (its:List Value)(lo hi:Option Int):slicePick its.toArray lo hi none=((its.drop (HT.sIx its.length 0 lo)).take (HT.sIx its.length its.length hi-HT.sIx its.length 0 lo)).toArray:=by
  obtain⟨h1,h2,h3⟩:=zdv lo hi its.toArray.size
  unfold slicePick
  rw [h1,h2,h3]
  simp only [sliceRange_one,pick_run,List.size_toArray]<;>rfl
def zki (K:PySem.W.Frag):V->Option Int->Option Int->Hp->VK->Prop:=fun x lo hi H Q=>∃ a xs,x=.ref a/\SqL K H a xs/\∀ p,H p=none->Q (.ref p) (upd H p (.lst (zbA xs lo hi)))
theorem zhp:SlR X (zki X.K):=by
  intro pins s σ H x v vl vu lo hi sl Q I rx hs pl pu h
  obtain⟨a,xs,rfl,hx,q⟩:=h
  cases rx
  obtain⟨its,r,ht,hz⟩:=I.list hx
  have hlen:=r.length
  refine⟨"list",_,slot_list_getitem.lookup,ht.isList.typeIs,?_⟩
  refine wpAny_getItem_list_slice ht.isList hs pl pu .none (by simp) ?_ (by rw [List.size_toArray]<;>omega)
  rw [zde,<- hlen]
  refine⟨.ref s.heap.objs.size,_,I.laid (t':=s.toks) (o:=.lst (zbA xs lo hi)) (fun b ob q=>Heap.get?_push_of_some _ q) (Nat.le_refl _) ?_,rfl,q _ (I.hok.fresh (Nat.le_refl _))⟩
  exact⟨Nat.le_trans (zcd xs lo hi) hz,_,0,(r.drop (HT.sIx xs.length 0 lo)).take (HT.sIx xs.length xs.length hi-HT.sIx xs.length 0 lo),Heap.get?_push_size _ rfl⟩
theorem zdJ:z9 X (.builtin "len") (fun xs H Q=>∃ p ys,xs=[.ref p]/\(SqL X.K H p ys\/SqT X.K H p ys)/\Q (.int ys.length) H):=by
  intro pins s σ H xs us Q I r h
  obtain⟨p,ys,rfl,hq,q⟩:=h
  obtain⟨u,rfl,rx⟩:=vals1 r
  cases rx
  have hn:=zbV
  rcases hq with hq | hq
  · obtain⟨its,r',pl,hz⟩:=I.list hq
    have hlen:=r'.length
    exact Calls.call_len_list pl.isList (by simp only [List.size_toArray]<;>omega) ⟨.int ys.length,H,I.tok _,⟨s.toks+1,by rw [List.size_toArray,hlen]⟩,q⟩
  · obtain⟨its,r',pl,hz⟩:=I.tuple hq
    have hlen:=r'.length
    exact len_tuple pl (by simp only [List.size_toArray]<;>omega) ⟨.int ys.length,H,I.tok _,⟨s.toks+1,by rw [List.size_toArray,hlen]⟩,q⟩
theorem zdQ:z9 X (.builtin "len") (fun xs H Q=>∃ z,xs=[.str z]/\z.length<=sizeLine/\Q (.int z.length) H):=by
 intro pins s σ H xs us Q I r h
 obtain⟨z,rfl,hz,q⟩:=h
 obtain⟨u,rfl,t,rfl⟩:=vals1 r
 have hn:=zbV
 exact len_str (by omega) ⟨.int z.length,H,I.tok _,⟨_,rfl⟩,q⟩
theorem z9.or {f:Value}{r r':List V->Hp->VK->Prop}(h:z9 X f r)(h':z9 X f r'):z9 X f (fun xs H Q=>r xs H Q\/r' xs H Q):=by
 intro pins s σ H xs us Q I rs q
 rcases q with q | q
 ·exact h pins s σ H xs us Q I rs q
 ·exact h' pins s σ H xs us Q I rs q
theorem zd7:z9 X (.type "list") (fun xs H Q=>∃ p ys,xs=[.ref p]/\(SqL X.K H p ys\/SqT X.K H p ys)/\∀ l,H l=none->Q (.ref l) (upd H l (.lst ys))):=by
  intro pins s σ H xs us Q I r h
  obtain⟨p,ys,rfl,hq,q⟩:=h
  obtain⟨u,rfl,rx⟩:=vals1 r
  cases rx
  have fin : ∀ (its : List Value), Vals ys its → ys.length ≤ sizeLine → ∀ (h' : Heap) (c' : Nat), (∀ b o', s.heap.get? b = some o' → h'.get? b = some o') →
      h'.get? s.heap.objs.size=some { cls:=.type "list",dict:=none,data:=.seq its.toArray c',slots:=#[] }->EP X pins σ Q (.ref s.heap.objs.size) { s with heap:=h' }:=fun its r' hz h' c' kp e =>
    ⟨.ref s.heap.objs.size,_,I.laid (t':=s.toks) kp (Nat.le_refl _) (show zW X.prog X.w _ h' _ (.lst ys) from ⟨hz,its,c',r',e⟩),rfl,q _ (I.hok.fresh (Nat.le_refl _))⟩
  rcases hq with hq | hq
  · obtain⟨its,r',pl,hz⟩:=I.list hq
    have hlen:=r'.length
    obtain⟨o,ho,hc,n,hd⟩:=pl.isList
    exact call_list_seq p (.inl rfl) ho hc hd (fun h' c' kp e=>fin its r' hz h' c' kp e) (by simp only [List.size_toArray]<;>omega)
  · obtain⟨its,r',pl,hz⟩:=I.tuple hq
    have hlen:=r'.length
    obtain⟨o,ho,hc,n,hd⟩:=pl
    exact call_list_seq p (.inr rfl) ho hc hd (fun h' c' kp e=>fin its r' hz h' c' kp e) (by simp only [List.size_toArray]<;>omega)
variable {o e:Expr}{es:List Expr}{to:TE}{t:TA}{name:Str}{apos cpos:Pos}{T id:String}{r:V->List V->Hp->VK->Prop}
/- xs.append(e),list.index on a module's tuple .. are MtR facts of 06m -/
end
def MtM (X:Cx)(id:String)(r:V->List V->Hp->VK->Prop):Prop :=
 ∀ (pins:List (Addr×Obj)) (s:Shared) (σ:St) (H:Hp) (x:V) (xs:List V) (v:Value) (us:List Value) (Q:VK),Inv X pins σ H s->RelV x v->Vals xs us->r x xs H Q ->
  wpAny (model X.prog X.w) X.A (call (.builtin id) (v::us)) (EP X pins σ Q) X.xe s
theorem Vals.one:∀ {x:V} {us:List Value},Vals [x] us->∃ u,us=[u]/\RelV x u
 | _,_,.cons r .nil=>⟨_,rfl,r⟩
section
variable {X:Cx}{pins:List (Addr×Obj)}{σ:St}{H:Hp}{s:Shared}{l b:Addr}{xs ys zs:List V}
theorem Inv.lset {its its':List Value}{n:Nat}{f:Array Value->Array Value}{t':Nat}(I:Inv X pins σ H s)(hH:H l=some (.lst xs))
  (e:s.heap.get? l=some { cls:=.type "list",data:=.seq its.toArray n }) (hf:f its.toArray=its'.toArray) (hv:Vals ys its') (hz:ys.length<=sizeLine) :
  Inv X pins σ (upd H l (.lst ys)) { s with heap:=s.heap.update l (Obj.mapSeq f),toks:=t' }:=by
 have q:=PySem.IsL.update e f
 rw [hf] at q
 refine I.write (x:=l) (e:=l) (by rw [hH];exact trivial) (.inl rfl) (fun b' u hb hu=>(Heap.get?_update_other s.heap (Obj.mapSeq f) (Ne.symm hb)).trans hu) ⟨_,q⟩ ?_
 exact⟨hz,its',_,hv,q⟩
theorem Inv.lnew {its:List Value}{t':Nat}(I:Inv X pins σ H s)(hv:Vals ys its)(hz:ys.length<=sizeLine) :
  Inv X pins σ (upd H s.heap.objs.size (.lst ys)) { s with heap:=s.heap.push { cls:=.type "list",data:=.seq its.toArray },toks:=t' } :=
 I.laid (fun _ _ q=>Heap.get?_push_of_some _ q) (Nat.le_refl _) ⟨hz,its,0,hv,Heap.get?_push_size _ rfl⟩
theorem Inv.fresh (I:Inv X pins σ H s):H s.heap.objs.size=none:=I.hok.fresh (Nat.le_refl _)
theorem Inv.lstM (I:Inv X pins σ H s)(hH:H l=some (.lst xs)):xs.length<=sizeLine/\∃ (its:List Value) (n:Nat),Vals xs its/\xs.length=its.length/\s.heap.get? l=some { cls:=.type "list",data:=.seq its.toArray n }:=by
 obtain⟨z,its,n,r,e⟩:=I.hok l _ hH
 exact⟨z,its,n,r,r.length,e⟩
end
section
variable {X:Cx}
def zen:V->List V->Hp->VK->Prop:=fun x vs H Q=>∃ l xs y,x=.ref l/\vs=[y]/\H l=some (.lst xs)/\xs.length<sizeLine/\Q .non (upd H l (.lst (xs++[y])))
theorem zfk:MtM X "list.append" zen:=by
 intro pins s σ H x vs v us Q I rx rv h
 obtain⟨l,xs,y,rfl,rfl,hH,hz,q⟩:=h
 cases rx
 obtain⟨u,rfl,ru⟩:=rv.one
 obtain⟨z,its,n,r,hl,e⟩:=I.lstM hH
 refine call_meets F.slot_list_append ⟨_,e,rfl⟩ F.entry_list_append (F.args_list_append_2 _ _) (PySem.list_append l its.toArray n u (by rw [List.size_toArray];omega)) ⟨e,?_⟩
 refine⟨.non,_,I.lset (its':=its++[u]) hH e (by simp) (r.append (.cons ru .nil)) ?_,rfl,q⟩
 rw [List.length_append,List.length_singleton]
 omega
end
section
variable {prog:Program}{w:World}{A:Around}{E:Value->Shared->Prop}{s:Shared}
end
section
variable {X:Cx}
end
end L2
namespace Att
open PySem PySem.W PySem.Calls PyProof.Rows
theorem zcy {P:Params}{h:Heap}:∀ (ns:List Int) (vs:List Value),WellAll P h vs (ns.map WData.int)->IntsAre vs ns:=by
 intro ns
 induction ns with
 | nil =>
  intro vs w
  rw [List.map_nil] at w
  cases w
  exact .nil
 | cons n ns ih =>
  intro vs w
  rw [List.map_cons] at w
  cases w with
  | cons a b =>
   cases a
   exact .cons _ _ (ih _ b)
theorem zfw {l:OpenLaw}{n:Nat}(hn:l.most=some n){P:Params}{h:Heap}{args:List WData}{vals:List Value}
  (hpre:l.row.toRowW.claim.pre args=true) (hwl:WellAll P h vals args) :
  ∃ a vs ns,vals=[Value.ref a]/\args=[WData.list (ns.map WData.int)]/\h.get? a=some { cls:=.type "list",data:=.seq vs.toArray }/\IntsAre vs ns/\ns.length<=n:=by
 have hsh:WShape.hasAll [] args [.list .int]=true:=(pre_splitW hpre).1
 have hc:l.pre.holds [] { args:=args }=true:=(pre_splitW hpre).2
 obtain⟨d,r,rfl,h1,h2⟩:=hasAllW_cons hsh
 obtain rfl:=hasAllW_nil h2
 obtain⟨xs,rfl,h3⟩:=hasW_list h1
 obtain⟨ns,rfl⟩:=items_int h3
 have hlen:ns.length<=n:=by
  unfold OpenLaw.pre at hc
  have h4:(WTm.not (.lt (.lit (.int (n:Int))) (.len (.arg 0)))).holds [] { args:=[.list (ns.map .int)] }=true:=by
   have h4:=(holds_andW hc).1
   rw [hn] at h4
   exact h4
  have h5:=condW_of h4 (w_not (w_lt w_lit (w_len_list (w_arg rfl))))
  rw [List.length_map] at h5
  refine Nat.le_of_not_lt fun q=>?_
  have q':(n:Int)<((ns.length:Nat):Int):=by omega
  first
   | (rw [decide_eq_true q'] at h5;exact absurd h5 (by decide))
   | (simp at h5;omega)
 cases hwl with
 | cons w1 w2 =>
  cases w2
  cases w1 with
  | list ho hall=>exact⟨_,_,ns,rfl,rfl,ho,zcy ns _ hall,hlen⟩
theorem zfq (l:OpenLaw)(args:List WData):l.row.toRowW.claim.post args (.bool true) args=true :=
 postW_of (r:=l.row.toRowW) (X:=(true==true))
  (show WShape.has [] (.bool true) .bool=true by first | rfl | decide | simp [WShape.has,WShape.arms,WShape.armsAll])
  (show (WTm.eq .res (.lit (.bool true))).value [] { args:=args,res:=some (.bool true),after:=args }=some (.bool (true==true)) from w_eq_bool (w_res rfl) w_lit) rfl
section
variable {prog:Program}{w:World}{A:Around}{E:Value->Shared->Prop}{s:Shared}{K:Frag}
end
end Att
namespace L2
open PySem PySem.Spec PyProof.Rows
theorem zc2:∀ {vs:List Value} {ns:List Int},IntsAre vs ns->Vals (ns.map V.int) vs
 | _,_,.nil=>.nil
 | _,_,.cons n t h=>.cons ⟨t,rfl⟩ (zc2 h)
def Only (H:Hp):Prop:=∀ b,H b=none\/∃ o xs,H b=some (.frz o (.lst xs))
theorem zfI {P:Program}{w:World}{K:PySem.W.Frag}{mg mb:Str->Option Value}{CX:CXT}{k:Nat}{fa a:Addr}{fd:FuncData}{x:Str}{sp:Sp}{s₁:Shared}{vs:List Value}{ns:List Int}
  (KX:K.In s₁.heap) (hns:s₁.heap.Ns mainGlobals mg) (hb:s₁.heap.Ns builtinsNs mb) (hbb:∀ x:Str,x≠"__name__"->mb x=bootBuiltins x) (hlim:s₁.heap.NoLimit) (hg:s₁.gens=#[])
  (ha:s₁.heap.get? a=some { cls:=.type "list",data:=.seq vs.toArray }) (hi:IntsAre vs ns) (hl:ns.length<=sizeLine) (hr:zO k callerA)
  (F:∀ base:Heap,K.In base->base.Ns mainGlobals mg->zZ P w K mg base CX k fa fd [x] sp) (hbind:∀ (s:Shared) (u:Value),BindsTo s fd ⟨[u],[]⟩ [(x,u)])
  (hsp:∀ H:Hp,Only H->SqL K H a (ns.map V.int)->sp [.ref a] H (fun v _=>v=.bl true) fun _ _ _=>False)
  (hCX:∀ H e s',CX [] H s₁ (fun _ _ _=>False) e s'->False) :
  codeAny (model P w) callerA (.call (.ref fa) ⟨[.ref a],[]⟩) (fun r s'=>r=.ok (.ret (.bool true))/\OldK s₁.heap s'.heap/\s'.os=s₁.os/\AllBare s'.gens) s₁:=by
 have rv:=zc2 hi
 have lenV:=hi.length
 have core:∀ H:Hp,Only H->SqL K H a (ns.map V.int)->HOk P w H s₁.heap->(∀ b,H b≠none->b=a)->(H a≠none->K.lookup a=none) ->
   codeAny (model P w) callerA (.call (.ref fa) ⟨[.ref a],[]⟩) (fun r s'=>r=.ok (.ret (.bool true))/\OldK s₁.heap s'.heap/\s'.os=s₁.os/\AllBare s'.gens) s₁:=by
  intro H hO hS hok hA hK
  have base_of:∀ {b:Addr} {o:Obj},s₁.heap.get? b=some o->H b=none->(zbz s₁.heap H).get? b=some o:=fun e n=>zgg e n
  have noA:∀ {b:Addr} {o:Obj} {es:Array DictEntry} {ep:Nat},s₁.heap.get? b=some o->o.data=.dict es ep->H b=none:=fun {b o es ep} e d=>by
   cases q:H b with
   | none=>rfl
   | some u =>
    have e':b=a:=hA b (by rw [q];simp)
    subst e'
    rw [ha] at e;cases e
    have d':Data.seq vs.toArray _=Data.dict es ep:=d
    cases d'
  have nsK:∀ {b:Addr} {m:Str->Option Value},s₁.heap.Ns b m->(zbz s₁.heap H).Ns b m:=fun {b m} ⟨o,es,ep,e,d,r⟩=>⟨o,es,ep,base_of e (noA e d),d,r⟩
  have hKb:K.In (zbz s₁.heap H):=fun b o e=>base_of (KX b o e) (by
   cases q:H b with
   | none=>rfl
   | some u =>
    have e':b=a:=hA b (by rw [q];simp)
    subst e'
    rw [hK (by rw [q];simp)] at e;cases e)
  have hM:Mod K mg (zbz s₁.heap H):=⟨hKb,nsK hns,⟨mb,nsK hb,hbb⟩,let ⟨mc,h1,h2⟩:=hlim;⟨mc,nsK h1,h2⟩⟩
  have e0:zeV P w K mg (zbz s₁.heap H) callerA [] s₁ H:=⟨rfl,hM,fun b o e=>zhw e,Nat.le_of_eq (zfi _ _),trivial,fun b hb=>absurd (show b∈([]:List Addr) from hb) (by simp),hok,.of_eq hg⟩
  refine codeAny_mono ((F _ hKb (nsK hns)).run callerA [] s₁ H ⟨[.ref a],[]⟩ [.ref a] [.ref a] _ _ hr e0 (hbind s₁ (.ref a)) (.cons rfl .nil) (hsp H hO hS)) fun r s' h=>?_
  cases r with
  | error e=>exact (hCX H e s' h).elim
  | ok fl =>
   cases fl with
   | next=>exact False.elim h
   | brk=>exact False.elim h
   | cont=>exact False.elim h
   | ret u =>
    obtain⟨v,H',os,bare,un,hok',r',q⟩:=h
    have q':v=.bl true:=q
    subst q'
    obtain rfl:u=Value.bool true:=r'
    refine⟨rfl,OldK.of_keep fun b o e=>?_,os,bare⟩
    cases q:H b with
    | none=>exact un.keep b o e q (by intro z;exact absurd (show b∈([]:List Addr) from z) (by simp)) (by simp)
    | some u =>
     rcases hO b with z | ⟨ob,xs,z⟩
     ·rw [q] at z;cases z
     ·have z2:=un.frzs b ob _ z
      obtain⟨e1,_⟩:=hok b _ z
      obtain⟨e2,_⟩:=hok' b _ z2
      rw [e] at e1;cases e1
      exact e2
 cases hk:K.lookup a with
 | some o =>
  have e:=KX a o hk
  rw [ha] at e
  cases e
  refine core (fun _=>none) (fun _=>.inl rfl) (.inr ⟨_,vs.toArray,_,hk,rfl,rfl,rfl,by rw [List.size_toArray,lenV];exact hl,by simpa using rv⟩) (fun b u z=>by have z':(none:Option HO)=some u:=z;cases z') (fun b z=>absurd rfl z) fun z=>absurd rfl z
 | none =>
  refine core (fun b=>if b=a then some (.frz { cls:=.type "list",data:=.seq vs.toArray } (.lst (ns.map V.int))) else none) (fun b=>?_) (.inl (.inr ⟨{ cls:=.type "list",data:=.seq vs.toArray },if_pos rfl⟩)) (fun b u z=>?_) (fun b z=>?_) fun _=>hk
  ·by_cases hb:b=a
   ·exact .inr ⟨_,_,if_pos hb⟩
   ·exact .inl (if_neg hb)
  ·by_cases hb:b=a
   ·have z':=(if_pos hb).symm.trans z
    cases z'
    subst hb
    exact⟨ha,by rw [List.length_map];exact hl,vs,_,rv,ha⟩
   ·have z':=(if_neg hb).symm.trans z
    cases z'
  ·by_cases hb:b=a
   ·exact hb
   ·exact absurd (if_neg hb) z
def zah (s:Stmt):Arguments:=match s with
 | .FunctionDef _ a _ _ _ _ _ _ _ _=>a
 | _=>{ posonlyargs:=[],args:=[],vararg:=none,kwonlyargs:=[],kw_defaults:=[],kwarg:=none,defaults:=[] }
def zX (s:Stmt):List Stmt:=match s with
 | .FunctionDef _ _ b _ _ _ _ _ _ _=>b
 | _=>[]
def zx (s:Stmt):Scope:=match s with
 | .FunctionDef _ _ _ _ _ _ sc _ _ _=>sc
 | _=>{ kind:=.function,names:=[],isGenerator:=false,isCoroutine:=false }
abbrev CX0:CXT:=fun _ _ _ _ _ _=>False
abbrev E0:XK:=fun _ _ _=>False
theorem zi2 {X:Cx}:Passes CX0 X E0:=fun _ _ _ _ _ _ _ h=>h.elim
structure Fun (K:PySem.W.Frag)(x qual:Str)(st:Stmt)(f:Addr)(fd:FuncData):Prop where
 ex:∃ (oc:Value) (od:Option Addr) (kV doc pm:Value) (an:Option Addr) (cdv ct:Value) (osl:Array (Option Value)),
  fd=PySem.W.fnOf x qual (zah st) (zX st) (zx st) .none kV doc pm an cdv ct/\K.lookup f=some ⟨oc,od,.func fd,osl⟩/\PySem.W.codeIn K cdv qual=true
 kp:PySem.W.keepIn K (.ref f)=true
section
variable {P:Program}{w:World}{K:PySem.W.Frag}{mg:Str->Option Value}{base:Heap}
theorem Fun.ok {x qual:Str}{st:Stmt}{f:Addr}{fd:FuncData}{N ps:List Str}{k:Nat}{sp:Sp}(F:Fun K x qual st f fd)(S:z6 N ps (zx st))(len:∀ vs H Q E,sp vs H Q E->vs.length=ps.length)
  (hbody:∀ (cdv:Value) (A:Around) (outer:List Env) (s:Shared) (H:Hp) (vs:List V) (Q:VK) (E:XK),zO k (A.deeper (envOfC qual (zx st) s.heap.objs.size f cdv))->sp vs H Q E ->
   ∃ t,PSs (zbk CX0 P w K mg base N qual (zx st) f cdv A outer s H E).nox (zX st) t/\t { nx:=fun _ H'=>Q .non H',rt:=Q } (start N vs) H):zZ P w K mg base CX0 (k+1) f fd ps sp:=by
 obtain⟨oc,od,kV,doc,pm,an,cdv,ct,osl,rfl,lk,hcd⟩:=F.ex
 refine zgl lk hcd S len fun A outer s H vs Q E hr hsp=>?_
 obtain⟨t,h,q⟩:=hbody cdv A outer s H vs Q E hr hsp
 exact⟨t,h.nox,q⟩
theorem Fun.binds {x qual:Str}{st:Stmt}{f:Addr}{fd:FuncData}{ps:List Str}(F:Fun K x qual st f fd)
  (h:∀ (kV doc pm:Value) (an:Option Addr) (cdv ct:Value) (us:List Value),us.length=ps.length->bindArgs (PySem.W.fnOf x qual (zah st) (zX st) (zx st) .none kV doc pm an cdv ct) ⟨us,[]⟩=pure (ps.zip us)):Binds K fd ps []:=by
 obtain⟨oc,od,kV,doc,pm,an,cdv,ct,osl,rfl,lk,hcd⟩:=F.ex
 exact .all (h kV doc pm an cdv ct)
theorem ze7 {x qual:Str}{st:Stmt}{f:Addr}{oc:Value}{od an:Option Addr}{osl:Array (Option Value)}{kV doc pm cdv ct:Value}(l:K.lookup f=some ⟨oc,od,.func (PySem.W.fnOf x qual (zah st) (zX st) (zx st) .none kV doc pm an cdv ct),osl⟩)
  (c:PySem.W.codeIn K cdv qual=true) (k:PySem.W.keepIn K (.ref f)=true):Fun K x qual st f (PySem.W.fnOf x qual (zah st) (zX st) (zx st) .none kV doc pm an cdv ct):=⟨⟨oc,od,kV,doc,pm,an,cdv,ct,osl,rfl,l,c⟩,k⟩
end
section
variable {X:Cx}
theorem pv (i:Nat){x:Str}{pos:Pos}(hN:X.N[i]?=some x:=by rfl)(hv:Vis X.env.scope x:=by first | exact Or.inl rfl | exact Or.inr (Or.inl rfl) | exact Or.inr (Or.inr rfl))(hd:(x==("__debug__":Str))=false:=by decide)
  (hcd:(x==("__classdict__":Str))=false:=by decide):PE X (.Name x pos) (zf3 i):=ze0 hN hv hd hcd
end
section
variable {κ:Type}[DecidableEq κ]
end
section
variable {P:Program}{w:World}{H:Hp}{h:Heap}{a:Addr}
end
section
variable {X:Cx}{pins:List (Addr×Obj)}{σ:St}{H:Hp}{s:Shared}{a:Addr}{y v:V}{u r:Value}{o:Option V}{A:Around}{E:Value->Shared->Prop}
end
section
variable {X:Cx}{pins:List (Addr×Obj)}{σ:St}{H:Hp}{s:Shared}{a:Addr}{kvs:List (Key×V)}{k:Key}{u:Value}{A:Around}{E:Value->Shared->Prop}
end
section
variable {X:Cx}{o i e value:Expr}{pos pos' tpos:Pos}{td ty tv:TE}
end
section
variable {X:Cx}{pos:Pos}
end
section
variable {X:Cx}{pins:List (Addr×Obj)}{σ:St}{H:Hp}{s:Shared}{a:Addr}{y d:V}{u r:Value}{o:Option V}{A:Around}{E:Value->Shared->Prop}
end
section
variable {X:Cx}{o e f:Expr}{apos cpos:Pos}{td ty tx:TE}
end
section
variable {X:Cx}{pins:List (Addr×Obj)}{σ:St}{H:Hp}{s:Shared}{a:Addr}{kvs:List (Key×V)}{A:Around}{E:Value->Shared->Prop}
end
section
variable {X:Cx}{pins:List (Addr×Obj)}{σ:St}{H:Hp}{s:Shared}{a:Addr}{y:V}{u:Value}{A:Around}{E:Value->Shared->Prop}
end
end L2
namespace My
def Bd (n:Nat)(x:Int):Prop:=x.natAbs<2 ^ n
theorem Bd.mono {m n:Nat}{x:Int}(h:Bd m x)(hmn:m<=n):Bd n x:=Nat.lt_of_lt_of_le h (Nat.pow_le_pow_right (by decide) hmn)
theorem Bd.lit {n:Nat}{x:Int}(h:x.natAbs<2 ^ 200)(hn:200<=n):Bd n x:=Bd.mono (m:=200) h hn
open PySem PySem.Spec PyProof.Rows L2
def zi9 (_ j:Int):Prop:=j≠0/\Bd 8000 j
def zjq (_ j:Int):Prop:=j≠0
theorem zcw {j:Int}(h:Bd 8000 j):j.natAbs.log2<9000:=by
 rcases Nat.eq_zero_or_pos j.natAbs with e | e
 ·rw [e];decide
 ·have:j.natAbs.log2<8000:=(Nat.log2_lt (Nat.ne_of_gt e)).mpr h
  omega
theorem zcp {j:Int}(h:Bd 8000 j):Builtin.Int.intBits j<=2 ^ 20:=by
 unfold Builtin.Int.intBits
 split
 ·exact Nat.zero_le _
 ·have:=zcw h
  omega
section
variable {X:Cx}
theorem zf6:OpR X (binaryOp .FloorDiv) (rI zi9 fun i j=>.int (i.fdiv j)):=opI fun _ _ _ _ _ _ _ hc q=>floordiv_int hc.1 q (.inl (PyProof.noPylong_of_log2 (zcw hc.2)))
theorem zgZ:OpR X (binaryOp .Mod) (rI zjq fun i j=>.int (i.fmod j)):=zg2
theorem zhy {i j:Int}{a b:Nat}{p1 p2 pos:Pos}(c:Int)(h:i ^ j.toNat=c)(h0:0<=j/\j<=1000000/\i.natAbs<2 ^ 64):PE X (.BinOp (.Constant (.int i) a p1) .Pow (.Constant (.int j) b p2) pos) (tC (.int c)):=by
 intro pins s σ H Q I q
 have q':Q (.int c) H:=q
 rw [<- h] at q'
 exact zgv zhZ zdY zdY pins s σ H Q I ⟨i,j,rfl,rfl,h0,q'⟩
def zj6 (K:PySem.W.Frag):List V->Hp->VK->Prop:=fun xs H Q=>∃ p ys,xs=[.ref p]/\(SqL K H p ys\/SqT K H p ys)/\Q (.int ys.length) H
theorem zfr:z9 X (.builtin "len") (zj6 X.K):=zdJ
def zja (K:PySem.W.Frag):List V->Hp->VK->Prop:=fun xs H Q=>∃ p ys,xs=[.ref p]/\(SqL K H p ys\/SqT K H p ys)/\∀ l,H l=none->Q (.ref l) (upd H l (.lst ys))
theorem zeN:z9 X (.type "list") (zja X.K):=zd7
theorem zji {x:Str}{T:String}{pos:Pos}(hg:Gl X x)(hm:X.mg x=none)(hv:bootBuiltins x=some (.type T))(hn:x≠"__name__":=by decide)(hd:(x==("__debug__":Str))=false:=by decide):PE X (.Name x pos) (tC (.ty T)):=zhn (v:=.ty T) hg hm hv rfl hn hd
def zj2 (K:PySem.W.Frag):List V->Hp->VK->Prop:=fun xs H Q=>∃ x c t b,xs=[x,.ty c]/\zaF K H x t/\PySem.W.kitOne K t (.type c)=some b/\Q (.bl b) H
theorem zfY:z9 X (.builtin "isinstance") (zj2 X.K):=fun pins s σ H xs us Q I r h=>by
 obtain⟨x,c,t,b,rfl,ty,e,q⟩:=h
 obtain⟨u,w',rfl,ru,rw'⟩:=vals2 r
 cases rw'
 exact zfa I ru ty e fun tk=>⟨.bl b,H,I.tok _,rfl,q⟩
end
section
variable {X:Cx}{K:PySem.W.Frag}
end
structure Got (P:Program)(w:World)(K:PySem.W.Frag)(mg:Str->Option Value)(base:Heap)(k:Nat)(x:Str)(ps:List Str)(sp:Sp):Prop where
 ex:∃ f fd,zZ P w K mg base CX0 k f fd ps sp/\Binds K fd ps []/\PySem.W.keepIn K (.ref f)=true/\mg x=some (.ref f)
theorem zia {X:Cx}{k j:Nat}{x:Str}{ps:List Str}{sp:Sp}{p pos:Pos}{e:Expr}{es:List Expr}{t:TA}(G:Got X.prog X.w X.K X.mg X.base k x ps sp)(hr:zO j X.A)(hk:k<=j)(hg:Gl X x)
  (ha:PA X (e::es) t) (hdb:(x==("__debug__":Str))=false:=by decide) (he:starEach (e::es) X.env=(false,eval e X.env)::starEach es X.env:=by rfl) (hpl:(backTo pos (starEach es X.env)).any (·.1)=false:=by rfl) :
  PE X (.Call (.Name x p) (e::es) [] pos) (zgo sp [] E0 t):=by
 intro pins s σ H Q I h
 obtain⟨f,fd,F,b,kp,m⟩:=G.ex
 exact zg7 (F.mono hk) hr hg m kp b .nil zi2 ha hdb he hpl pins s σ H Q I h
section
variable {nx:L2.St->Hp->Prop}{rt:VK}{bk ct:L2.St->Hp->Prop}{σ:L2.St}{H:Hp}{K:PySem.W.Frag}
end
section
variable {σ:L2.St}{H:Hp}{K:PySem.W.Frag}
end
theorem zbh {H:Hp}{p b:Addr}{o u:HO}(hp:H p=none)(h:H b=some u):upd H p o b=some u:=by
 rw [zE (zV h hp)];exact h
theorem zeb {prog:Program}{w:World}{A:Around}{R:Result->Shared->Prop}{s:Shared}{elt target iter:Expr}{ifs:List Expr}{scope:Scope}{pos:Pos}{it acc:Value}{env:Env}(I:Nat->Shared->Prop)
  (turn:∀ n s,I n s->wpAny (model prog w) A (pyNext it) (fun r s₁=>match r with
   | none=>R (.ok .next) s₁
   | some v=>wpAny (model prog w) A (letOwnedTupleGo target it v) (fun _ s₁'=>wpAny (model prog w) A (assign target env v) (fun _ s₂ =>
     wpAny (model prog w) A (forIn ifs true fun c r=>if r=true then do let ok <- isTrue c env (eval c env);pure (ForInStep.yield ok) else pure (ForInStep.yield r)) (fun ok s₃ =>
      if ok=true then wpAny (model prog w) A (eval elt env) (fun x s₄ =>
       wpAny (model prog w) A (call (.builtin "list.append") [acc,x]) (fun _ s₅=>∃ m,m<n/\I m s₅) (fun _ _=>False) s₄) (fun _ _=>False) s₃
      else ∃ m,m<n/\I m s₃) (fun _ _=>False) s₂) (fun _ _=>False) s₁') (fun _ _=>False) s₁) (fun _ _=>False) s)
  (n:Nat) (h:I n s):codeAny (model prog w) A (.compLoop (.ListComp elt [⟨target,iter,ifs,0⟩] scope pos) 0 it acc env) R s:=by
 refine codeAny_loop rfl I (fun n s hI=>?_) n h
 show wpAny _ A ((compTurn (.ListComp elt [⟨target,iter,ifs,0⟩] scope pos) 0 it acc env).onRaise (fun x=>do noteFrame x env;theTreesLotGoes x)) _ _ s
 refine wpAny_noted ?_
 rw [compTurn_list]
 refine wpAny_bind (wpAny_standAt (wpAny_bind (wpAny_mono (turn n s hI) (fun r s₁ h₁=>?_) fun _ _ h'=>h'.elim)))
 cases r with
 | none=>exact wpAny_pure h₁
 | some v =>
  refine wpAny_bind (wpAny_mono h₁ (fun _ s₁' h₁'=>?_) fun _ _ h'=>h'.elim)
  refine wpAny_bind (wpAny_mono h₁' (fun _ s₂ h₂=>wpAny_bind (wpAny_mono h₂ (fun ok s₃ h₃=>?_) fun _ _ h'=>h'.elim)) fun _ _ h'=>h'.elim)
  cases ok with
  | false=>exact wpAny_pure ⟨rfl,h₃⟩
  | true =>
   exact wpAny_bind (wpAny_bind (wpAny_mono h₃ (fun x s₄ h₄=>wpAny_bind (wpAny_mono h₄ (fun _ s₅ h₅=>wpAny_pure (wpAny_pure ⟨rfl,h₅⟩)) fun _ _ h'=>h'.elim)) fun _ _ h'=>h'.elim))
def inner (X:Cx)(sc:Scope)(N:List Str)(cl:List (Str×Addr))(C:Addr)(s₀:Shared)(H₀:Hp)(ex:List Addr):Cx :=
  { X with N:=N,s₀:=s₀,H₀:=H₀,env:=compEnvC sc cl C X.env,outer:=X.stack,ex:=ex,fn:=fun _=>false,pn:=[] }
def PFs (X:Cx)(ifs:List Expr)(t:TT):Prop :=
 ∀ (pins:List (Addr×Obj)) (s:Shared) (σ:L2.St) (H:Hp) (Q:Bool->Hp->Prop),Inv X pins σ H s->t σ H Q ->
  wpAny (model X.prog X.w) X.A (forIn ifs true fun c r=>if r=true then do let ok <- isTrue c X.env (eval c X.env);pure (ForInStep.yield ok) else pure (ForInStep.yield r)) (TP X pins σ Q) X.xe s
def zjr:TT:=fun _ H Q=>Q true H
theorem ziu {X:Cx}:PFs X [] zjr:=fun _ _ _ H _ I h=>wpAny_tests_nil ⟨H,I,h⟩
def zbX (X:Cx)(sc:Scope):List Str->List Nat->Prop
 | [],[]=>True
 | x::xs,j::js=>X.N[j]?=some x/\sc.names.lookup x=some .free/\X.env.kindOf x=some .cell/\zbX X sc xs js
 | _,_=>False
def zaJ (P:Str->Prop):List (Str×NameKind)->Prop
 | []=>True
 | (n,.free)::r=>P n/\zaJ P r
 | _::r=>zaJ P r
theorem zaJ.of {P:Str->Prop}:∀ {l:List (Str×NameKind)},zaJ P l->∀ y∈l,y.2=.free->P y.1
  | (n,k)::r,h,y,hy,e=>by
    rcases List.mem_cons.mp hy with rfl | hy
    · dsimp only at e;subst e;exact h.1
    · refine zaJ.of (l:=r) ?_ y hy e
      cases k<;>first | exact h.2 | exact h
def cst (own:List Str)(fv:List Nat)(σ:L2.St):L2.St:=List.replicate own.length none++fv.map fun j=>(σ[j]?).join
def Agr:L2.St->L2.St->Prop
 | [],[]=>True
 | none::r,_::s=>Agr r s
 | some v::r,some w::s=>v=w/\Agr r s
 | _,_=>False
theorem Agr.len:∀ {a b:L2.St},Agr a b->b.length=a.length
  | [],[],_=>rfl
  | none::r,_::s,h=>congrArg (· + 1) (Agr.len (a:=r) (b:=s) h)
  | some v::r,some w::s,h=>congrArg (· + 1) (Agr.len (a:=r) (b:=s) h.2)
theorem Agr.get:∀ {a b:L2.St},Agr a b->∀ (i:Nat) (v:V),a[i]?=some (some v)->b[i]?=some (some v)
 | none::r,_::s,h,i,v,e=>by
  cases i with
  | zero=>simp at e
  | succ i=>simpa using Agr.get (a:=r) (b:=s) h i v (by simpa using e)
 | some v'::r,some w::s,h,i,v,e=>by
  cases i with
  | zero=>simp at e;subst e;simp [h.1]
  | succ i=>simpa using Agr.get (a:=r) (b:=s) h.2 i v (by simpa using e)
def tLC (own:List Str)(fv:List Nat)(wi:TI)(g:TG)(tc:TT)(te:TE):TE:=fun σ H Q=>wi σ H fun J H1=>∀ p,H1 p=none ->
 ∃ W:Nat->Nat->Hp->Prop,(∃ m,W 0 m (upd H1 p (.lst [])))/\∀ i m H2,W i m H2 ->
  (J.stop i H2/\Q (.ref p) H2)\/(J.go i H2/\∀ x H',J.yld i H2 x H'->g x (cst own fv σ) H' fun σ2 H3=>Agr (cst own fv σ) σ2/\tc σ2 H3 fun b H4 =>
   if b=true then te σ2 H4 fun y H5=>∃ ys,H5 p=some (.lst ys)/\ys.length<sizeLine/\∃ m',m'<m/\W (i+1) m' (upd H5 p (.lst (ys++[y])))
   else ∃ m',m'<m/\W (i+1) m' H4)
theorem zea {env:Env}{n:Str}{c:Addr}(h:env.cells.lookup n=some c):cellOf env n=pure c:=by
 unfold cellOf;rw [h]
theorem zbt {env:Env}:∀ (names:List (Str×NameKind)) (cs:List (Str×Addr)),(∀ y∈names,y.2=.free->∃ c,env.cells.lookup y.1=some c)->(∀ x c,cs.lookup x=some c->env.cells.lookup x=some c) ->
    ∃ cl,(forIn names cs fun (x:Str×NameKind) (r:List (Str×Addr))=>if (x.2==NameKind.free)=true then do let a <- cellOf env x.1;pure (ForInStep.yield ((x.1,a)::r)) else pure (ForInStep.yield r))=(pure cl:Sem (List (Str×Addr))) /\
      (∀ x c,cl.lookup x=some c->env.cells.lookup x=some c)/\(∀ x,(cs.lookup x).isSome=true->(cl.lookup x).isSome=true)/\∀ y∈names,y.2=.free->(cl.lookup y.1).isSome=true
  | [],cs,_,h2=>⟨cs,rfl,h2,fun _ h=>h,fun _ h=>nomatch h⟩
  | (n,k)::r,cs,h1,h2=>by
    rw [List.forIn_cons]
    by_cases hk:k=.free
    · subst hk
      obtain⟨c,hc⟩:=h1 (n,.free) List.mem_cons_self rfl
      obtain⟨cl,e,a1,a2,a3⟩:=zbt (env:=env) r ((n,c)::cs) (fun y hy=>h1 y (List.mem_cons_of_mem _ hy)) (fun x d hx=>by
        rw [List.lookup_cons] at hx
        by_cases hxn:x=n
        · subst hxn;simp at hx;subst hx;exact hc
        · have:(x==n)=false:=by simpa using hxn
          rw [this] at hx;exact h2 x d hx)
      refine⟨cl,?_,a1,fun x hx=>a2 x ?_,fun y hy e'=>?_⟩
      · simp only [beq_self_eq_true,if_true,zea hc]
        simpa using e
      · rw [List.lookup_cons];split<;>simp_all
      · rcases List.mem_cons.mp hy with rfl | hy
        · exact a2 _ (by simp [List.lookup_cons])
        · exact a3 y hy e'
    · have hb:(k==NameKind.free)=false:=by simpa using hk
      obtain⟨cl,e,a1,a2,a3⟩:=zbt (env:=env) r cs (fun y hy=>h1 y (List.mem_cons_of_mem _ hy)) h2
      refine⟨cl,?_,a1,a2,fun y hy e'=>?_⟩
      · simp only [hb,Bool.false_eq_true,if_false]
        simpa using e
      · rcases List.mem_cons.mp hy with rfl | hy
        · exact absurd e' hk
        · exact a3 y hy e'
theorem zcx {env:Env}{sc:Scope}(h:∀ y∈sc.names,y.2=.free->∃ c,env.cells.lookup y.1=some c) :
  ∃ cl,closureFor sc env=pure cl/\(∀ x c,cl.lookup x=some c->env.cells.lookup x=some c)/\∀ y∈sc.names,y.2=.free->(cl.lookup y.1).isSome=true:=by
 obtain⟨cl,e,a1,_,a3⟩:=zbt (env:=env) sc.names [] h (fun x c hx=>by simp at hx)
 refine⟨cl,?_,a1,a3⟩
 unfold closureFor
 have e2:=e
 first
  | exact e2
  | (show (do let cs <- forIn sc.names [] _;pure cs)=_;rw [show (forIn sc.names [] _:Sem (List (Str×Addr)))=pure cl from e2];rfl)
  | simpa using e2
theorem zaD {env:Env}{x:Str}:∀ {names:List (Str×NameKind)},(names.map fun (n,k)=>if (k==NameKind.free&&env.scope.kind==.function&&env.kindOf n==some .cell) then (n,NameKind.cell) else (n,k)).lookup x =
    (names.lookup x).map fun k=>if (k==NameKind.free&&env.scope.kind==.function&&env.kindOf x==some .cell) then NameKind.cell else k
  | []=>rfl
  | (n,k)::r=>by
    have ih:=zaD (env:=env) (x:=x) (names:=r)
    rw [List.map_cons]
    by_cases hx:x=n
    · subst hx
      dsimp only
      split<;>simp_all [List.lookup_cons]
    · have hb:(x==n)=false:=by simpa using hx
      dsimp only
      split<;>(rw [List.lookup_cons,List.lookup_cons,hb];exact ih)
theorem mem_of_lookup {β:Type}{x:Str}{k:β}:∀ {l:List (Str×β)},l.lookup x=some k->(x,k)∈l
 | (n,b)::r,h=>by
  rw [List.lookup_cons] at h
  by_cases hx:x=n
  ·subst hx;simp at h;subst h;exact List.mem_cons_self
  ·have hb:(x==n)=false:=by simpa using hx
   rw [hb] at h
   exact List.mem_cons_of_mem _ (mem_of_lookup h)
section
variable {X:Cx}{sc:Scope}{tg iter elt:Expr}{ifs:List Expr}{own free:List Str}{fv:List Nat}{wi:TI}{g:TG}{tc:TT}{te:TE}{pos:Pos}
theorem zgs {σ:L2.St}:∀ {free:List Str} {fv:List Nat},zbX X sc free fv->∀ (k:Nat) (x:Str) (v:V),free[k]?=some x->(fv.map fun j=>(σ[j]?).join)[k]?=some (some v) ->
  ∃ j:Nat,X.N[j]?=some x/\σ[j]?=some (some v)/\sc.names.lookup x=some .free/\X.env.kindOf x=some .cell
 | x'::xs,j::js,h,k,x,v,e1,e2=>by
  cases k with
  | zero =>
   simp at e1 e2
   subst e1
   refine⟨j,h.1,?_,h.2.1,h.2.2.1⟩
   cases q:σ[j]? with
   | none=>rw [q] at e2;simp at e2
   | some o=>rw [q] at e2;simp at e2;rw [e2]
  | succ k=>exact zgs (free:=xs) (fv:=js) h.2.2.2 k x v (by simpa using e1) (by simpa using e2)
 | [],[],_,k,x,v,e1,_=>by simp at e1
theorem zft:∀ {free:List Str} {fv:List Nat},zbX X sc free fv->fv.length=free.length
  | [],[],_=>rfl
  | _::_,_::_,h=>congrArg (· + 1) (zft h.2.2.2)
theorem zcu {RR:Value->Addr->Result->Shared->Prop}(hcalm:X.calm=true)(hxe:X.xe=fun _ _=>False)(hkind:sc.kind=.function)(hcell:∀ y∈sc.names,y.2≠.cell)
    (hfr:zaJ (fun x=>X.env.kindOf x=some .cell) sc.names) (hfv:zbX X sc free fv)
    (hg:∀ cl C s₀ H₀ ex,PG (inner X sc (own++free) cl C s₀ H₀ ex) tg g) (ht:∀ cl C s₀ H₀ ex,PFs (inner X sc (own++free) cl C s₀ H₀ ex) ifs tc) (he:∀ cl C s₀ H₀ ex,PE (inner X sc (own++free) cl C s₀ H₀ ex) elt te)
    {pins:List (Addr×Obj)} {s2:Shared} {σ:L2.St} {H2:Hp} {it:Addr} {fp:List Addr} {tn:Nat->Heap->Prop} {J:It} {Q:VK} (I2:Inv X pins σ H2 s2) (T:Turn X.prog X.w X.K tg J fp it tn) (st2:tn 0 s2.heap) (f2:∀ b∈fp,zbE X pins H2 b)
    (h:∀ p,H2 p=none->∃ W:Nat->Nat->Hp->Prop,(∃ m,W 0 m (upd H2 p (.lst [])))/\∀ i m H2,W i m H2 ->
      (J.stop i H2/\Q (.ref p) H2)\/(J.go i H2/\∀ x H',J.yld i H2 x H'->g x (cst own fv σ) H' fun σ2 H3=>Agr (cst own fv σ) σ2/\tc σ2 H3 fun b H4 =>
        if b=true then te σ2 H4 fun y H5=>∃ ys,H5 p=some (.lst ys)/\ys.length<sizeLine/\∃ m',m'<m/\W (i+1) m' (upd H5 p (.lst (ys++[y])))
        else ∃ m',m'<m/\W (i+1) m' H4))
    {cl:List (Str×Addr)} (hcl1:∀ x c,cl.lookup x=some c->X.env.cells.lookup x=some c) (hcl2:∀ y∈sc.names,y.2=.free->(cl.lookup y.1).isSome=true)
    (hRR:∀ (p C:Addr) (m:Str->Option Value) (H':Hp) (s':Shared),s'.heap.Ns C m->Inv X pins σ H' s'->H' C=none->C≠X.env.locals->X.s₀.heap.objs.size<=C->(∀ x c,X.env.cells.lookup x=some c->c≠C)->(∀ q∈X.pn++pins,q.1≠C)->Q (.ref p) H' ->
      RR (.ref p) C (.ok .next) s') :
    wpAny (model X.prog X.w) X.A (newList []) (fun acc s3=>wpAny (model X.prog X.w) X.A (newFunctionEnv sc X.env.globals cl [] X.env.qual none .none (some X.env)) (fun cenv s4 =>
      codeAny (model X.prog X.w) X.A (.compStart (.ListComp elt [⟨tg,iter,ifs,0⟩] sc pos) 0 (.ref it) acc { cenv with scope:=relabel sc X.env }) (RR acc cenv.locals) s4) X.xe s3) X.xe s2:=by
  rw [hxe]
  refine wpAny_newObj_type ?_
  have I3:Inv X pins σ (upd H2 s2.heap.objs.size (.lst [])) { s2 with heap:=s2.heap.push { cls:=.type "list",data:=.seq ([]:List Value).toArray } }:=I2.lnew (t':=s2.toks) .nil (Nat.zero_le _)
  generalize hs3:({ s2 with heap:=s2.heap.push { cls:=.type "list",data:=.seq ([]:List Value).toArray } }:Shared)=s3 at I3 ⊢
  have hp:H2 s2.heap.objs.size=none:=I2.fresh
  obtain⟨W,⟨m0,w0⟩,turn⟩:=h s2.heap.objs.size hp
  generalize hH3:upd H2 s2.heap.objs.size (.lst [])=H3 at I3 w0 ⊢
  have hk3:∀ b o,s2.heap.get? b=some o->s3.heap.get? b=some o:=fun b o e=>by rw [<- hs3];exact Heap.get?_push_of_some _ e
  have hz3:s3.heap.objs.size=s2.heap.objs.size+1:=by rw [<- hs3];exact Heap.size_push ..
  have st3:tn 0 s3.heap:=T.keep _ _ _ st2 fun b _ o e=>hk3 b o e
  have hfpo:∀ b∈fp,∃ o,s3.heap.get? b=some o:=fun b hb=>let ⟨o,e,_⟩:=T.obj _ _ st3 b hb;⟨o,e⟩
  have hfpn:∀ b∈fp,b≠s2.heap.objs.size:=fun b hb e=>by
    obtain⟨o,e',_⟩:=T.obj _ _ st2 b hb
    have:=Heap.lt_size e'
    rw [e] at this;exact Nat.lt_irrefl _ this
  have f3:∀ b∈fp,H3 b=none:=fun b hb=>by rw [<- hH3,zE (hfpn b hb)];exact (f2 b hb).1
  refine wpAny_newFunctionEnv hcell (by intro y hy;simp at hy) (fun h1 hns1 hsb1=>?_) hkind
  have hC0:H3 s3.heap.objs.size=none:=I3.fresh
  have old:∀ b o,s3.heap.get? b=some o->h1.get? b=some o:=fun b o e=>hsb1.extBut b o (Nat.ne_of_lt (Heap.lt_size e)) (Heap.get?_push_of_some _ e)
  have hlow:X.s₀.heap.objs.size<=s3.heap.objs.size:=I3.sz
  have hloc:X.env.locals<s3.heap.objs.size:=I3.lt
  have hcells:∀ x c,X.env.cells.lookup x=some c->c<s3.heap.objs.size:=fun x c e=>by
    obtain⟨v,o,ho,_⟩:=I3.cell x c e
    exact Heap.lt_size ho
  have YOk:(inner X sc (own++free) cl s3.heap.objs.size s3 H3 fp).Ok:={
    mod:=I3.ok.mod
    kind:=by show (relabel sc X.env).kind=.function;exact hkind
    glob:=I3.ok.glob
    blt:=I3.ok.blt
    above:=Nat.le_refl _
    inj:=fun x y c hx hy=>I3.ok.inj x y c (hcl1 x c hx) (hcl1 y c hy)
    has:=fun x hx=>by
      have e : (sc.names.lookup x).map (fun k => if (k == NameKind.free && X.env.scope.kind == .function && X.env.kindOf x == some .cell) then NameKind.cell else k) = some .cell ∨
          (sc.names.lookup x).map (fun k=>if (k==NameKind.free&&X.env.scope.kind==.function&&X.env.kindOf x==some .cell) then NameKind.cell else k)=some .free:=by
        have:=@zaD X.env x sc.names
        rcases hx with hx | hx
        · exact .inl (this.symm.trans hx)
        · exact .inr (this.symm.trans hx)
      cases q:sc.names.lookup x with
      | none=>rw [q] at e;simp at e
      | some k =>
        have hm:=mem_of_lookup q
        by_cases hkf:k=.free
        · subst hkf
          exact Option.isSome_iff_exists.mp (hcl2 (x,.free) hm rfl)
        · have hkc:k≠.cell:=hcell (x,k) hm
          rw [q] at e
          have hb:(k==NameKind.free)=false:=by simpa using hkf
          simp only [Option.map_some,hb,Bool.false_and,Bool.false_eq_true,if_false,Option.some.injEq] at e
          rcases e with e | e
          · exact absurd e hkc
          · exact absurd e hkf
    cab:=fun x c hx=>by cases hx
    hd:=I3.ok.hd
    frames:=I3.ok.frames
    stk:=.inl rfl
    exf:=fun b hb=>⟨fun e=>by obtain⟨o,e'⟩:=hfpo b hb;have:=Heap.lt_size e';rw [e] at this;exact Nat.lt_irrefl _ this,fun x c hx=>(f2 b hb).2.2.2.2.1 x c (hcl1 x c hx)⟩
    bs:=I3.bs
    bsz:=Nat.le_trans I3.ok.bsz I3.sz
    noex:=fun b o hb hm=>by
      rcases (f2 b hm).2.2.2.1 with hx | hx
      · exact I3.ok.noex b o hb hx
      · exact Nat.lt_irrefl _ (Nat.lt_of_lt_of_le (Nat.lt_of_lt_of_le (Heap.lt_size hb) I3.ok.bsz) hx)
    exfs:=fun b hb hm=>by
      rcases List.mem_cons.mp (I3.stkSub b hm) with e | e
      · exact (f2 b hb).2.1 e
      · exact (f2 b hb).2.2.1 e
    funs:=I3.stack
    frf:=I3.stkFree }
  have hlen0:(cst own fv σ).length=(own++free).length:=by
    unfold cst;rw [List.length_append,List.length_append,List.length_replicate,List.length_map,zft hfv]
  have I4:∀ tk,Inv (inner X sc (own++free) cl s3.heap.objs.size s3 H3 fp) [] (cst own fv σ) H3 { s3 with heap:=h1,toks:=tk }:=fun tk=>{
    ok:=YOk
    os:=rfl
    bare:=I3.bare
    base:=Un.kept old
    loc:=by
      refine⟨_,hns1,fun i x v hN hσ _=>?_⟩
      have hN':(own++free)[i]?=some x:=hN
      have hσ':(List.replicate own.length none++fv.map fun j=>(σ[j]?).join)[i]?=some (some v):=hσ
      by_cases hi:i<own.length
      · rw [List.getElem?_append_left (by rw [List.length_replicate];exact hi)] at hσ'
        rw [List.getElem?_replicate] at hσ'
        split at hσ'<;>simp at hσ'
      · rw [List.getElem?_append_right (by omega)] at hN'
        rw [List.getElem?_append_right (by rw [List.length_replicate];omega),List.length_replicate] at hσ'
        obtain⟨j,hj,hσj,hsx,hkx⟩:=zgs hfv _ x v hN' hσ'
        obtain⟨m,_,hall⟩:=I3.loc
        obtain⟨u,ru,lk⟩:=hall j x v hj hσj (.inr (.inl hkx))
        refine⟨u,ru,.inr ⟨?_,?_⟩⟩
        · have:=@zaD X.env x sc.names
          rw [hsx] at this
          have e2:Env.kindOf (inner X sc (own++free) cl s3.heap.objs.size s3 H3 fp).env x=(sc.names.map fun (n,k)=>if (k==NameKind.free&&X.env.scope.kind==.function&&X.env.kindOf n==some .cell) then (n,NameKind.cell) else (n,k)).lookup x:=rfl
          rw [e2,this]
          simp only [Option.map_some]
          split
          · exact .inl rfl
          · exact .inr rfl
        · rcases lk with ⟨hl,_⟩ | ⟨_,c,hc,hcell'⟩
          · rw [hkx] at hl;cases hl
          · obtain⟨c',hc'⟩:=Option.isSome_iff_exists.mp (hcl2 (x,.free) (mem_of_lookup hsx) rfl)
            have:=hcl1 x c' hc'
            rw [hc] at this
            cases this
            refine⟨c,hc',?_⟩
            obtain⟨o,ho,hd⟩:=hcell'
            exact⟨o,old _ _ ho,hd⟩
    cell:=fun x c hx=>by
      obtain⟨v,o,ho,hd⟩:=I3.cell x c (hcl1 x c hx)
      exact⟨v,o,old _ _ ho,hd⟩
    free:=hC0
    freeC:=fun x c hx=>I3.freeC x c (hcl1 x c hx)
    pin:=fun q hq=>nomatch hq
    hok:=I3.hok.kept old
    len:=hlen0 }
  have back:∀ (m:Str->Option Value) (H':Hp) (s':Shared),s'.heap.Ns s3.heap.objs.size m->Inv (inner X sc (own++free) cl s3.heap.objs.size s3 H3 fp) [] (cst own fv σ) H' s'->Q (.ref s2.heap.objs.size) H'->RR (.ref s2.heap.objs.size) s3.heap.objs.size (.ok .next) s':=fun m H' s' hm IY q=>by
    have u1:Un (frs X.stack) fp H3 H' s3.heap s'.heap:=IY.base
    have IX:Inv X pins σ H' s':=I3.call' (ch:=fp) (IY.os) u1 IY.hok IY.bare fun b hb=>⟨(f2 b hb).2.2.2.1,(f2 b hb).2.1,(f2 b hb).2.2.2.2.1,(f2 b hb).2.2.2.2.2⟩
    refine hRR _ _ m H' s' hm IX IY.free (Nat.ne_of_gt hloc) hlow (fun x c hx=>Nat.ne_of_lt (hcells x c hx)) (fun q' hq=>?_) q
    have:=(I3.pin q' hq).1
    exact Nat.ne_of_lt (Heap.lt_size this)
  have stat:∀ {H':Hp},(∀ b∈fp,H' b=none)->∀ b∈fp,zbE (inner X sc (own++free) cl s3.heap.objs.size s3 H3 fp) [] H' b:=fun hn b hb =>
    ⟨hn b hb,(YOk.exf b hb).1,YOk.exfs b hb,.inl hb,(YOk.exf b hb).2,fun q hq=>nomatch hq⟩
  have hYxe:(inner X sc (own++free) cl s3.heap.objs.size s3 H3 fp).xe=fun _ _=>False:=hxe
  have loop:∀ tk,codeAny (model X.prog X.w) X.A (.compLoop (.ListComp elt [⟨tg,iter,ifs,0⟩] sc pos) 0 (.ref it) (.ref s2.heap.objs.size) (compEnvC sc cl s3.heap.objs.size X.env)) (RR (.ref s2.heap.objs.size) s3.heap.objs.size) { s3 with heap:=h1,toks:=tk }:=fun tk=>by
    refine zeb (fun n s'=>∃ i H',Inv (inner X sc (own++free) cl s3.heap.objs.size s3 H3 fp) [] (cst own fv σ) H' s'/\tn i s'.heap/\(∀ b∈fp,H' b=none)/\W i n H') ?_ m0 ⟨0,H3,I4 tk,T.keep _ _ _ st3 (fun b _ o e=>old b o e),f3,w0⟩
    rintro n s5 ⟨i,H5,I5,st5,fr5,w5⟩
    rcases turn i n H5 w5 with ⟨stop,q⟩ | ⟨go,step⟩
    · refine thn (T.done (inner X sc (own++free) cl s3.heap.objs.size s3 H3 fp) rfl rfl rfl hcalm i [] s5 _ H5 _ I5 (stat fr5) st5 stop) fun r s6 ⟨hr,I6⟩=>?_
      subst hr
      obtain⟨m,hm,_⟩:=I6.loc
      exact back m H5 s6 hm I6 q
    · refine thn (T.item (inner X sc (own++free) cl s3.heap.objs.size s3 H3 fp) rfl rfl rfl hcalm i [] s5 _ H5 _ I5 (stat fr5) st5 go) fun r s6 ⟨u,hr,h6⟩=>?_
      subst hr
      refine thn h6 fun _ s7 ⟨x,H7,I7,r7,y7,st7,fr7⟩=>?_
      have I7':=I7.pinned (stat fr7) (T.obj _ _ st7)
      have hg':=hg cl s3.heap.objs.size s3 H3 fp _ s7 _ H7 x u _ I7' r7 (step x H7 y7)
      have ht':=ht cl s3.heap.objs.size s3 H3 fp
      have he':=he cl s3.heap.objs.size s3 H3 fp
      have ap:MtM (inner X sc (own++free) cl s3.heap.objs.size s3 H3 fp) "list.append" zen:=zfk
      unfold PFs at ht'
      unfold PE at he'
      unfold MtM at ap
      rw [hYxe] at hg' ht' he' ap
      have again : ∀ {pl : List (Addr × Obj)} {σ8 : L2.St} {H8 : Hp} {s8 : Shared}, pl = zbH fp s7.heap → Inv (inner X sc (own ++ free) cl s3.heap.objs.size s3 H3 fp) ([] ++ pl) σ8 H8 s8 → Agr (cst own fv σ) σ8 → (∃ m', m' < n ∧ W (i + 1) m' H8) →
          ∃ m,m<n/\∃ i H',Inv (inner X sc (own++free) cl s3.heap.objs.size s3 H3 fp) [] (cst own fv σ) H' s8/\tn i s8.heap/\(∀ b∈fp,H' b=none)/\W i m H':=fun {pl σ8 H8 s8} hpl I8 ag ⟨m',hm,w8⟩=>by
        subst hpl
        refine⟨m',hm,i+1,H8,(I8.unpinned).weak ag.len.symm (fun j v e=>ag.get j v e),T.keep _ _ _ st7 fun b hb o e=>(I8.pin (b,o) (List.mem_append_right _ (List.mem_append_right _ (zaU hb e)))).1,fun b hb=>?_,w8⟩
        obtain⟨o,e,d⟩:=T.obj _ _ st7 b hb
        exact (I8.pin (b,o) (List.mem_append_right _ (List.mem_append_right _ (zaU hb e)))).2.1
      refine thn hg' fun _ s8 ⟨σ8,H8,I8,ag,q8⟩=>?_
      refine thn (ht' _ s8 σ8 H8 _ I8 q8) fun b s9 ⟨H9,I9,q9⟩=>?_
      cases b with
      | false =>
        rw [if_neg Bool.false_ne_true] at q9 ⊢
        exact again rfl I9 ag q9
      | true =>
        rw [if_pos rfl] at q9 ⊢
        refine thn (he' _ s9 σ8 H9 _ I9 q9) fun y s10 ⟨yv,H10,I10,ry,ys,hy,hlt,q10⟩=>?_
        refine thn (ap _ s10 σ8 H10 (.ref s2.heap.objs.size) [yv] (.ref s2.heap.objs.size) [y] (fun v H'=>v=.non/\H'=upd H10 s2.heap.objs.size (.lst (ys++[yv]))) I10 rfl (.cons ry .nil) ⟨_,ys,yv,rfl,rfl,hy,hlt,rfl,rfl⟩) fun z s11 ⟨v11,H11,I11,_,_,e11⟩=>?_
        subst e11
        exact again rfl I11 ag q10
  refine codeAny_compStart_list (loop _) (T.self _ 0 _ _ _ (T.keep _ _ _ st3 fun b _ o e=>old b o e) (loop _))
theorem zjh (hcalm:X.calm=true)(hxe:X.xe=fun _ _=>False)(hkind:sc.kind=.function)(hcell:∀ y∈sc.names,y.2≠.cell)(hnames:∀ y∈sc.names,y.2=.local->sc.names.lookup y.1=some .local)
  (hfr:zaJ (fun x=>X.env.kindOf x=some .cell) sc.names) (hfv:zbX X sc free fv) (hi:PI X tg iter wi)
  (hg:∀ cl C s₀ H₀ ex,PG (inner X sc (own++free) cl C s₀ H₀ ex) tg g) (ht:∀ cl C s₀ H₀ ex,PFs (inner X sc (own++free) cl C s₀ H₀ ex) ifs tc) (he:∀ cl C s₀ H₀ ex,PE (inner X sc (own++free) cl C s₀ H₀ ex) elt te)
  (hs:∀ x,foldedSetIterable iter X.env x=pure x:=by intro _;rfl):PE X (.ListComp elt [⟨tg,iter,ifs,0⟩] sc pos) (tLC own fv wi g tc te):=by
 intro pins s σ H Q I q
 obtain⟨cl,hclos,hcl1,hcl2⟩:=zcx (env:=X.env) (sc:=sc) fun y hy e=>I.ok.has y.1 (.inl (hfr.of y hy e))
 rw [eval_ListComp]
 refine wpAny_comprehension_free (use:=none) rfl hs hclos hkind hnames (thn (hi pins s σ H _ I q) fun v s1 h1=>thn h1 fun itv s2 h2=>?_)
 obtain⟨it,fp,tn,J,H2,e,I2,T,st2,f2,q2⟩:=h2
 subst e
 refine zcu (RR:=fun acc C=>compPost (model X.prog X.w) X.A X.xe none (EP X pins σ Q) acc C) hcalm hxe hkind hcell hfr hfv hg ht he I2 T st2 f2 q2 hcl1 hcl2 ?_
 intro p C m H' s' hm I' hC hCl hC0 hCc hCp q'
 exact⟨m,hm,fun h' hs'=>⟨.ref p,H',I'.turned (t':=s'.toks) (fun b o hb e=>hs'.extBut b o hb e) hC hCl (.inr hC0) hCc hCp,rfl,q'⟩⟩
theorem zha {i:Nat}{y:Str}{py spos:Pos}(hN:X.N.Nodup)(hy:X.N[i]?=some y)(hyl:X.env.scope.names.lookup y=some .local)(hcalm:X.calm=true)(hxe:X.xe=fun _ _=>False)(hkind:sc.kind=.function)(hcell:∀ y∈sc.names,y.2≠.cell)(hnames:∀ y∈sc.names,y.2=.local->sc.names.lookup y.1=some .local)
  (hfr:zaJ (fun x=>X.env.kindOf x=some .cell) sc.names) (hfv:zbX X sc free fv) (hi:PI X tg iter wi)
  (hg:∀ cl C s₀ H₀ ex,PG (inner X sc (own++free) cl C s₀ H₀ ex) tg g) (ht:∀ cl C s₀ H₀ ex,PFs (inner X sc (own++free) cl C s₀ H₀ ex) ifs tc) (he:∀ cl C s₀ H₀ ex,PE (inner X sc (own++free) cl C s₀ H₀ ex) elt te)
  (hsw:swapsWith (.ListComp elt [⟨tg,iter,ifs,0⟩] sc pos) (some (.Name y py)) spos.line X.env=pure true:=by rfl)
  (hs:∀ x,foldedSetIterable iter X.env x=pure x:=by intro _;rfl):PS X (.Assign [.Name y py] (.ListComp elt [⟨tg,iter,ifs,0⟩] sc pos) spos) (zgb (tLC own fv wi g tc te) (zB i)):=by
 intro pins s σ H D I q
 obtain⟨cl,hclos,hcl1,hcl2⟩:=zcx (env:=X.env) (sc:=sc) fun y hy e=>I.ok.has y.1 (.inl (hfr.of y hy e))
 rw [exec_Assign_Name_used _ _ _ _ hsw]
 refine wpAny_bind (wpAny_standAt (wpAny_bind ?_))
 show wpAny _ X.A (do let _ <- comprehension (.ListComp elt [⟨tg,iter,ifs,0⟩] sc pos) sc X.env _ (newList []) false (eval iter X.env) (some (assign (.Name y py) X.env))) _ _ s
 refine wpAny_bind (wpAny_mono (wpAny_comprehension_free (use:=some (assign (.Name y py) X.env)) (Q:=fun _ s'=>SP X pins D .next s') rfl hs hclos hkind hnames
  (thn (hi pins s σ H _ I q) fun v s1 h1=>thn h1 fun itv s2 h2=>?_)) (fun _ s' hq=>wpAny_pure (wpAny_pure hq)) fun _ _ e=>e)
 obtain⟨it,fp,tn,J,H2,e,I2,T,st2,f2,q2⟩:=h2
 subst e
 refine zcu (RR:=fun acc C=>compPost (model X.prog X.w) X.A X.xe (some (assign (.Name y py) X.env)) (fun _ s'=>SP X pins D .next s') acc C) (Q:=fun x H1=>zB i x σ H1 D.nx) hcalm hxe hkind hcell hfr hfv hg ht he I2 T st2 f2 q2 hcl1 hcl2 ?_
 intro p C m H' s' hm I' hC hCl hC0 hCc hCp q'
 show wpAny _ X.A (assign (.Name y py) X.env (.ref p)) _ _ _
 refine wpAny_assign_Name (zc8 (v:=.ref p) I' hN hy (.inl hyl) rfl (fun s'' I'' hsb=>?_) (.inr hyl))
 obtain⟨a,hsb,ha⟩:=hsb
 have hCa:C≠a:=by
  rcases ha with rfl | ha
  ·exact hCl
  ·exact fun e=>hCc _ _ ha e.symm
 refine⟨m,hm.sameBut hsb hCa,fun h' hs'=>⟨_,H',I''.turned (t':=s''.toks) (fun b o hb e=>hs'.extBut b o hb e) hC hCl (.inr hC0) hCc hCp,q'⟩⟩
end
section
variable {σ:L2.St}{H:Hp}{K:PySem.W.Frag}
end
section
variable {X:Cx}{tg:Expr}
end
section
variable {X:Cx}{pins:List (Addr×Obj)}{σ:L2.St}{H:Hp}{s:Shared}
end
section
variable {X:Cx}{pins:List (Addr×Obj)}{σ:L2.St}{H:Hp}{s:Shared}
end
section
variable {X:Cx}
end
section
variable {X:Cx}
end
def hT (x1 z1 x2 z2 a b:Int):Int:=z1*(x2-x1)*b+(z2-z1)*(a-x1*b)
def hB (x1 x2 b:Int):Int:=(x2-x1)*b
section
variable {σ:L2.St}{H:Hp}
end
theorem zgQ {X:Cx}{x:Str}{n:Int}{pos:Pos}(hg:Gl X x)(hm:∃ t,X.mg x=some (.int n t))(hd:(x==("__debug__":Str))=false:=by decide):PE X (.Name x pos) (tC (.int n)):=by
 obtain⟨t,ht⟩:=hm
 exact zew (v:=.int n) hg ht ⟨t,rfl⟩ hd
section
variable {σ:L2.St}{H:Hp}{K:PySem.W.Frag}
end
section
variable {X:Cx}{K:PySem.W.Frag}
theorem zij {pins:List (Addr×Obj)}{σ:L2.St}{H:Hp}{s:Shared}{p:Addr}{its:List Value}(_:Inv X pins σ H s)(pl:PlainL s.heap p its.toArray) :
  p<s.heap.objs.size/\(s.heap.push { cls:=.type "list_iterator",data:=.fields #[.ref p,.int 0 0] }).IsListIter s.heap.objs.size p 0:=by
 obtain⟨o,ho,_⟩:=pl.isList
 exact⟨Heap.lt_size ho,_,Heap.get?_push_size _ rfl,rfl,rfl⟩
theorem zif {H:Hp}{pins:List (Addr×Obj)}{σ:L2.St}{s:Shared}{h':Heap}{tk:Nat}(I:Inv X pins σ H s){o:Obj}(hk:∀ b u,b∉[s.heap.objs.size]->(s.heap.push o).get? b=some u->h'.get? b=some u) :
  Inv X pins σ H { s with heap:=h',toks:=tk }:=I.kept (t':=tk) fun d u e=>hk d u (fun hm=>by
   have h1:d=s.heap.objs.size:=by simpa using hm
   have h2:=Heap.lt_size e
   rw [h1] at h2
   exact Nat.lt_irrefl _ h2) (Heap.get?_push_of_some _ e)
def zjZ (K:PySem.W.Frag):List V->Hp->VK->Prop:=fun xs H Q=>∃ (p:Addr) (bs:List Bool),xs=[.ref p]/\SqL K H p (bs.map V.bl)/\Q (.bl (bs.all id)) H
theorem zfJ {bs:List Bool}{its:List Value}(rv:Vals (bs.map V.bl) its){i:Nat}{v:Value}(h:its.toArray[i]?=some v):v=.bool (bs.getD i false):=by
 rw [<- Array.getElem?_toList] at h
 have hi:i<its.length:=by
  rcases Nat.lt_or_ge i its.length with g | g
  ·exact g
  ·rw [List.getElem?_eq_none (by simpa using g)] at h;cases h
 have hl:=rv.length
 rw [List.length_map] at hl
 have e:(bs.map V.bl)[i]?=some (.bl (bs.getD i false)):=by
  rw [List.getElem?_map,List.getElem?_eq_getElem (by omega)]
  simp [List.getD_eq_getElem?_getD,List.getElem?_eq_getElem (show i<bs.length by omega)]
 obtain⟨u,hu,ru⟩:=rv.get e
 rw [show its.toArray.toList=its from rfl,hu] at h
 cases h
 exact ru
theorem all_range (bs:List Bool):(List.range bs.length).all (fun i=>bs.getD i false)=bs.all id:=by
 rw [Bool.eq_iff_iff,List.all_eq_true,List.all_eq_true]
 constructor
 ·intro h b hb
  obtain⟨i,hi,rfl⟩:=List.mem_iff_getElem.mp hb
  simpa [List.getD_eq_getElem?_getD,List.getElem?_eq_getElem hi] using h i (List.mem_range.mpr hi)
 ·intro h i hi
  rw [List.mem_range] at hi
  have:=h bs[i] (List.getElem_mem hi)
  simpa [List.getD_eq_getElem?_getD,List.getElem?_eq_getElem hi] using this
theorem zfp (hK:X.K=K)(hc:X.calm=true):z9 X (.builtin "all") (zjZ K):=fun pins s σ H xs us Q I r h=>by
 subst hK
 obtain⟨p,bs,rfl,hS,q⟩:=h
 obtain⟨u,rfl,ru⟩:=vals1 r
 cases ru
 obtain⟨its,rv,pl,hz⟩:=I.list hS
 obtain⟨lt,st⟩:=zij I pl
 have hl:=rv.length
 rw [List.length_map] at hl
 have W:=Walks.list (prog:=X.prog) (w:=X.w) (A:=X.A.in1) (I.ok.hd hc) s.heap.objs.size p (Nat.ne_of_lt lt) its.toArray
 refine call_all_walk (wpAny_pyIter_list pl.isList ⟨s.heap.objs.size,[s.heap.objs.size,p],[s.heap.objs.size],_,_,_,fun i=>bs.getD i false,rfl,W,⟨st,pl.isList.push _⟩,?_,?_⟩)
 ·intro i v s' Q' E' hv hq
  rw [zfJ rv hv]
  exact wpAny_truthy_bool hq
 ·intro h' tk hk
  rw [List.size_toArray,<- hl,all_range]
  exact⟨.bl _,H,zif (s:=s) I hk,rfl,q⟩
end
section
variable {X:Cx}{K:PySem.W.Frag}
def ziY (K:PySem.W.Frag):R2:=fun x y H Q=>∃ l b xs zs,x=.ref l/\y=.ref b/\SqL K H l xs/\SqL K H b zs/\xs.length+zs.length<=sizeLine/\∀ p,H p=none->Q (.ref p) (upd H p (.lst (xs++zs)))
theorem zgR (hK:X.K=K):OpR X (binaryOp .Add) (ziY K):=by
 subst hK
 intro pins s σ H x y v u Q I rx ry h
 obtain⟨l,b,xs,zs,rfl,rfl,hH,hB,hz,q⟩:=h
 cases rx
 cases ry
 obtain⟨its,r,pl,_⟩:=I.list hH
 obtain⟨its2,r2,pl2,_⟩:=I.list hB
 obtain⟨⟨cls,dd,data,sl⟩,ho,hc,n,hd⟩:=pl.isList
 obtain⟨⟨cls2,dd2,data2,sl2⟩,ho2,hc2,n2,hd2⟩:=pl2.isList
 simp only at hc hd hc2 hd2
 subst hc hd hc2 hd2
 have e1:=r.length
 have e2:=r2.length
 refine concat_meets ⟨_,ho,rfl⟩ ⟨_,ho2,rfl⟩ noFill_list_add seq_list_add PySem.F.slot_list_add PySem.F.entry_list_add (PySem.F.args_list_add_2 _ _) (list_addW l b its.toArray its2.toArray n n2 dd dd2 sl sl2 (by rw [List.size_toArray,List.size_toArray];omega)) ⟨ho,ho2,?_⟩
 have ea:its.toArray++its2.toArray=(its++its2).toArray:=by simp
 rw [ea]
 exact⟨.ref _,_,I.lnew (t':=s.toks) (r.append r2) (by rw [List.length_append];omega),rfl,q _ I.fresh⟩
end
section
variable {σ:L2.St}{K:PySem.W.Frag}{own:List Str}{fv:List Nat}{g:TG}{tc:TT}{te:TE}{R:Hp->Prop}{H1:Hp}{p a:Addr}{xs:List V}
end
theorem zak {α:Type}{xs:List α}{i:Nat}{x:α}(h:xs[i]?=some x):i<xs.length:=by
 rcases Nat.lt_or_ge i xs.length with g | g
 ·exact g
 ·rw [List.getElem?_eq_none g] at h;cases h
open PySem PySem.W PyProof.Rows
section
variable {lt:Nat->Nat->Bool}
abbrev ga (p:Array Nat)(i:Nat):Nat:=p.getD i 0
end
open PySem PySem.Spec PySem.W PyProof.Rows L2
section
variable {prog:Program}{w:World}{A:Around}{E:Value->Shared->Prop}{s:Shared}
end
section
variable {K:PySem.W.Frag}{H:Hp}
end
def zhR (K:PySem.W.Frag):R2:=fun x y H Q=>∃ a b xs ys,x=.ref a/\y=.ref b/\SqT K H a xs/\SqT K H b ys/\xs.length+ys.length<=sizeLine/\(xs=[]->Q (.ref b) H)/\(xs≠[]->ys=[]->Q (.ref a) H)/\(xs≠[]->ys≠[]->∀ p,H p=none->Q (.ref p) (upd H p (.tup (xs++ys))))
theorem zfG {X:Cx}{K:PySem.W.Frag}(hK:X.K=K):OpR X (binaryOp .Add) (zhR K):=by
 subst hK
 intro pins s σ H x y v u Q I rx ry h
 obtain⟨a,b,xs,ys,rfl,rfl,ha,hb,hz,q0,q1,q2⟩:=h
 by_cases hx:xs=[]
 ·subst hx
  cases rx
  cases ry
  obtain⟨its,r1,p1,_⟩:=I.tuple ha
  obtain⟨its2,r2,p2,_⟩:=I.tuple hb
  cases r1
  obtain⟨⟨cls,dd,data,sl⟩,ho,hc,n,hd⟩:=id p1
  obtain⟨⟨cls2,dd2,data2,sl2⟩,ho2,hc2,n2,hd2⟩:=id p2
  simp only at hc hd hc2 hd2
  subst hc hd hc2 hd2
  exact concat_meets ⟨_,ho,rfl⟩ ⟨_,ho2,rfl⟩ noFill_tuple_add seq_tuple_add PySem.F.slot_tuple_add PySem.F.entry_tuple_add (PySem.F.args_tuple_add_2 _ _)
   (tuple_addW0 a b _ its2.toArray n n2 dd dd2 sl sl2 (by simp)) ⟨ho,ho2,⟨.ref b,H,I,rfl,q0 rfl⟩⟩
 ·exact zgN pins s σ H _ _ v u Q I rx ry ⟨a,b,xs,ys,rfl,rfl,ha,hb,hx,hz,q1 hx,q2 hx⟩
end My
namespace Dp
open PySem
inductive D where
 | non | bl (b:Bool) | int (i:Int) | str (x:Str) | tup (xs:List D) | ref (n:Nat) | ty (n:String) | rl (xs:List D) | exn (c:Str)
 deriving Inhabited
inductive Cell where
 | lst (xs:List D) | ins (c:Str) (fs:List (Str×D))
 | dk (kvs:List (Str×D)) | dt (kvs:List (List (Sum Int Str)×D))
 deriving Inhabited
abbrev Sto:=List Cell
abbrev Rho:=List (Option D)
abbrev DK:=D->Sto->Prop
abbrev DE:=Rho->Sto->DK->Prop
abbrev DT:=Rho->Sto->(Bool->Sto->Prop)->Prop
abbrev DA:=Rho->Sto->(List D->Sto->Prop)->Prop
abbrev DG:=D->Rho->Sto->(Rho->Sto->Prop)->Prop
abbrev DGs:=List D->Rho->Sto->(Rho->Sto->Prop)->Prop
structure zdh where
 nx:Rho->Sto->Prop
 rt:DK
 bk:Rho->Sto->Prop:=fun _ _=>False
 ct:Rho->Sto->Prop:=fun _ _=>False
abbrev DS:=zdh->Rho->Sto->Prop
structure DIt where
 items:List D
 ok:Sto->Prop
abbrev DI:=Rho->Sto->(DIt->Sto->Prop)->Prop
abbrev DSp:=List D->Sto->DK->Prop
def big:Nat:=1000000
def fl:Nat->D->Bool
  | _,.ref _=>false
  | _,.ty _=>false
  | _,.rl _=>false
  | _,.exn _=>false
  | 0,.tup _=>false
  | k+1,.tup xs=>xs.all (fl k)
  | _,.non=>true
  | _,.bl _=>true
  | _,.int _=>true
  | _,.str x=>x.cps.all (· < 0x110000)
mutual
def eqv:D->D->Bool
 | .non,.non=>true
 | .bl a,.bl b=>a==b
 | .bl a,.int j=>(if a then 1 else 0)==j
 | .int i,.bl b=>i==(if b then 1 else 0)
 | .int i,.int j=>decide (i=j)
 | .str x,.str y=>x==y
 | .tup xs,.tup ys=>eqvAll xs ys
 | _,_=>false
def eqvAll:List D->List D->Bool
 | [],[]=>true
 | x::xs,y::ys=>eqv x y&&eqvAll xs ys
 | _,_=>false
end
def Lst (S:Sto)(x:D)(xs:List D):Prop:=x=.rl xs\/∃ n,x=.ref n/\S[n]?=some (.lst xs)
def zcQ (S:Sto)(x:D)(xs:List D):Prop:=x=.tup xs\/Lst S x xs
def ixD (n:Nat)(k:Int):Option Nat:=if 0<=k then (if k<n then some k.toNat else none) else if -(n:Int)<=k then some (k+n).toNat else none
def atD (xs:List D)(k:Int):Option D:=(ixD xs.length k).bind fun j=>xs[j]?
def atS (z:Str)(k:Int):Option Nat:=(ixD z.cps.toList.length k).bind fun j=>z.cps.toList[j]?
def slD (n:Nat)(d:Nat):Option Int->Nat
 | none=>d
 | some k=>if k<0 then (k+n).toNat else min k.toNat n
def cutD {α:Type}(xs:List α)(lo hi:Option Int):List α:=(xs.drop (slD xs.length 0 lo)).take (slD xs.length xs.length hi-slD xs.length 0 lo)
def zj (i:Nat):DE:=fun ρ S Q=>∃ d,ρ[i]?=some (some d)/\Q d S
def dC (d:D):DE:=fun _ S Q=>Q d S
abbrev DR2:=D->D->Sto->DK->Prop
def dOp (r:DR2)(ta tb:DE):DE:=fun ρ S Q=>ta ρ S fun x S1=>tb ρ S1 fun y S2=>r x y S2 Q
def zK:DA:=fun _ S Q=>Q [] S
def zm (ta:DE)(tr:DA):DA:=fun ρ S Q=>ta ρ S fun x S1=>tr ρ S1 fun xs S2=>Q (x::xs) S2
def dTup (t:DA):DE:=fun ρ S Q=>t ρ S fun xs S1=>xs.length<=big/\Q (.tup xs) S1
def za5 (t:DA):DE:=fun ρ S Q=>t ρ S fun xs S1=>xs.length<=big/\Q (.ref S1.length) (S1++[.lst xs])
def dCall (f:DSp)(t:DA):DE:=fun ρ S Q=>t ρ S fun xs S1=>f xs S1 Q
abbrev DB:=List D->Sto->DK->Prop
def dB (r:DB)(t:DA):DE:=fun ρ S Q=>t ρ S fun xs S1=>r xs S1 Q
def dT (t:DE):DT:=fun ρ S Q=>t ρ S fun x S1=>∃ b,x=.bl b/\Q b S1
def zeJ (t u:DT):DT:=fun ρ S Q=>t ρ S fun c S1=>if c=true then u ρ S1 Q else Q false S1
def dOr (t u:DT):DT:=fun ρ S Q=>t ρ S fun c S1=>if c=true then Q true S1 else u ρ S1 Q
def zdr (t:DT):DT:=fun ρ S Q=>t ρ S fun c S1=>Q (!c) S1
def zfW (t u:DE):DE:=fun ρ S Q=>t ρ S fun x S1=>∃ c,x=.bl c/\if c=true then Q (.bl true) S1 else u ρ S1 Q
def zfK (c:DT)(ta tb:DE):DE:=fun ρ S Q=>c ρ S fun b S1=>if b=true then ta ρ S1 Q else tb ρ S1 Q
def zck:Option DE->Rho->Sto->(Option Int->Sto->Prop)->Prop
 | none=>fun _ S Q=>Q none S
 | some t=>fun ρ S Q=>t ρ S fun x S1=>∃ i,x=.int i/\Q (some i) S1
def dSl (r:D->Option Int->Option Int->Sto->DK->Prop)(ta:DE)(lo hi:Option DE):DE:=fun ρ S Q=>ta ρ S fun x S1=>zck lo ρ S1 fun l S2=>zck hi ρ S2 fun h S3=>r x l h S3 Q
def oI (C:Int->Int->Prop)(g:Int->Int->D):DR2:=fun x y S Q=>∃ i j,x=.int i/\y=.int j/\C i j/\Q (g i j) S
def oI0 (g:Int->Int->D):DR2:=fun x y S Q=>∃ i j,x=.int i/\y=.int j/\Q (g i j) S
def zca (i j:Int):Prop:=(My.Bd 8000 i/\My.Bd 8000 j)\/i.natAbs<2 ^ 64\/j.natAbs<2 ^ 64
def ziV (_ j:Int):Prop:=j≠0/\My.Bd 8000 j
def ziO (_ j:Int):Prop:=j≠0
def zap:DR2:=fun x y S Q=>(∃ i j,x=.int i/\y=.int j/\Q (.int (i+j)) S)\/(∃ xs ys,x=.tup xs/\y=.tup ys/\xs.length+ys.length<=big/\Q (.tup (xs++ys)) S) \/
 (∃ xs ys,Lst S x xs/\Lst S y ys/\xs.length+ys.length<=big/\Q (.ref S.length) (S++[.lst (xs++ys)])) \/
 (∃ i j:Str,x=.str i/\y=.str j/\i.length+j.length<=big/\Q (.str (i++j)) S)
def zdH:DR2:=oI0 fun i j=>.int (i-j)
def zcP (z:Str)(n:Int):Str:=if n<1 then Str.empty else if (n==1||z.length==0)=true then z else ⟨(List.replicate n.toNat z.cps).foldl (·++·) #[]⟩
@[irreducible] def Hg (x:Int):Prop:=x.natAbs<2 ^ 1048576
def zbM:DR2:=fun x y S Q=>oI zca (fun i j=>.int (i*j)) x y S Q\/(∃ (z:Str) (n:Int),x=.str z/\y=.int n/\z.length<=1000/\-1000<=n/\n<=1000/\Q (.str (zcP z n)) S)\/oI (fun i j=>Hg i/\Hg j) (fun i j=>.int (i*j)) x y S Q
def oDiv:DR2:=oI ziV fun i j=>.int (i.fdiv j)
def oMod:DR2:=oI ziO fun i j=>.int (i.fmod j)
def oLt:DR2:=oI0 fun i j=>.bl (decide (i<j))
def oGt:DR2:=oI0 fun i j=>.bl (decide (j<i))
def zcH (S:Sto):List D->List (List D)->Prop
 | [],[]=>True
 | x::xs,z::zs=>Lst S x z/\zcH S xs zs
 | _,_=>False
def zbC (xss:List (List D)):Bool:=xss.all fun zs=>zs.all (fl 20)
def EqD (S:Sto)(x y:D)(b:Bool):Prop:=(fl 20 x=true/\fl 20 y=true/\b=eqv x y)\/(∃ xs ys,Lst S x xs/\Lst S y ys/\xs.all (fl 20)=true/\ys.all (fl 20)=true/\b=eqvAll xs ys) \/
 (∃ xs ys xss yss,Lst S x xs/\Lst S y ys/\zcH S xs xss/\zcH S ys yss/\zbC xss=true/\zbC yss=true/\b=eqvAll (xss.map D.tup) (yss.map D.tup))
def oEq:DR2:=fun x y S Q=>∃ b,EqD S x y b/\Q (.bl b) S
def oNe:DR2:=fun x y S Q=>∃ b,EqD S x y b/\Q (.bl (!b)) S
def InD (S:Sto)(x y:D)(b:Bool):Prop:=∃ ys,zcQ S y ys/\fl 20 x=true/\ys.all (fl 20)=true/\b=ys.any fun z=>eqv z x
def oIn:DR2:=fun x y S Q=>(∃ b,InD S x y b/\Q (.bl b) S)\/(∃ (c:Nat) (z:Str),x=.str ⟨#[c]⟩/\y=.str z/\Q (.bl (decide (c∈z.cps.toList))) S)
def zdA:DR2:=fun x y S Q=>(∃ b,InD S x y b/\Q (.bl (!b)) S)\/(∃ (c:Nat) (z:Str),x=.str ⟨#[c]⟩/\y=.str z/\Q (.bl (!decide (c∈z.cps.toList))) S)
def oIx:DR2:=fun x y S Q=>(∃ i xs d,y=.int i/\zcQ S x xs/\atD xs i=some d/\Q d S)\/(∃ (z:Str) (i:Int) (c:Nat),x=.str z/\y=.int i/\z.length<=big/\atS z i=some c/\Q (.str ⟨#[c]⟩) S)
def zby (z:Str)(lo hi:Option Int):Str:=⟨(cutD z.cps.toList lo hi).toArray⟩
def za0:D->Option Int->Option Int->Sto->DK->Prop:=fun x lo hi S Q=>(∃ xs,x=.tup xs/\Q (.tup (cutD xs lo hi)) S)\/(∃ xs,Lst S x xs/\Q (.ref S.length) (S++[.lst (cutD xs lo hi)]))\/(∃ z:Str,x=.str z/\z.length<=big/\Q (.str (zby z lo hi)) S)
def za6:DB:=fun vs S Q=>(∃ x xs,vs=[x]/\zcQ S x xs/\Q (.int xs.length) S)\/(∃ z:Str,vs=[.str z]/\z.length<=big/\Q (.int z.length) S)
def zfX:DB:=fun vs S Q=>∃ x bs,vs=[x]/\Lst S x (List.map D.bl bs)/\Q (.bl (bs.all id)) S
def zeM:DB:=fun vs S Q=>∃ x xs,vs=[x]/\zcQ S x xs/\Q (.ref S.length) (S++[.lst xs])
def zar (cs:List Nat):Nat:=cs.foldl (fun acc c=>acc*10+(c-48)) 0
def zbw (cs:List Nat):Prop:=∀ c∈cs,48<=c/\c<=57
def zd5 (z:Str)(n:Int):Prop:=(zbw z.cps.toList/\z.cps.toList≠[]/\n=((zar z.cps.toList:Nat):Int))\/∃ cs,z.cps.toList=45::cs/\zbw cs/\cs≠[]/\n=-((zar cs:Nat):Int)
def zcJ:DB:=fun vs S Q=>∃ i:Int,vs=[.int i]/\My.Bd 1900 i/\Q (.str (Str.ofString (toString i))) S
def zdk:DB:=fun vs S Q=>∃ z n,vs=[.str z]/\z.length<=640/\zd5 z n/\Q (.int n) S
def zcU (ta tb:DE):DE:=fun ρ S Q=>ta ρ S fun x S1=>(∃ z,x=.str z)/\tb ρ S1 fun y S2=>∃ z c,x=.str z/\y=.str ⟨#[c]⟩/\Q (.bl (decide (z.cps.toList[0]?=some c))) S2
def zcL (t:String):Bool:=t=="int"||t=="bool"||t=="tuple"||t=="list"||t=="str"
def zhP (S:Sto)(t:String)(d:D):Option Bool:=if (!zcL t)=true then none else match d with
 | .non=>some false
 | .bl _=>some (t=="bool"||t=="int")
 | .int _=>some (t=="int")
 | .str _=>some (t=="str")
 | .tup _=>some (t=="tuple")
 | .ref n=>match S[n]? with
  | some (.lst _)=>some (t=="list")
  | _=>none
 | .ty _=>none
 | .rl _=>none
 | .exn _=>none
def zdD:DB:=fun vs S Q=>∃ x t b,vs=[x,.ty t]/\zhP S t x=some b/\Q (.bl b) S
abbrev p2 (c:Int×Int):D:=.tup [.int c.1,.int c.2]
def zB (i:Nat):DG:=fun d ρ S Q=>Q (ρ.set i (some d)) S
def zdp:DGs:=fun ds ρ S Q=>ds=[]/\Q ρ S
def zb3 (t:DG)(u:DGs):DGs:=fun ds ρ S Q=>∃ d r,ds=d::r/\t d ρ S fun ρ' S'=>u r ρ' S' Q
def zds (n:Nat)(t:DGs):DG:=fun d ρ S Q=>∃ xs,d=.tup xs/\xs.length=n/\t xs ρ S Q
def zP (t u:DS):DS:=fun E ρ S=>t { E with nx:=u E } ρ S
def zai:DS:=fun E ρ S=>E.nx ρ S
def zaG (t:DE):DS:=fun E ρ S=>t ρ S E.rt
def zY (t:DE)(g:DG):DS:=fun E ρ S=>t ρ S fun x S1=>g x ρ S1 E.nx
def sIf (c:DT)(t u:DS):DS:=fun E ρ S=>c ρ S fun b S1=>if b=true then t E ρ S1 else u E ρ S1
def sJ (t:DS):DS:=fun E ρ S=>∃ J:Rho->Sto->Prop,(∀ ρ S,J ρ S->E.nx ρ S)/\t { E with nx:=J } ρ S
def zeS (wi:DI)(g:DG)(t:DS):DS:=fun E ρ S=>wi ρ S fun J S1=>∃ W:Nat->Rho->Sto->Prop,W 0 ρ S1/\(∀ i ρ S,W i ρ S->J.ok S) /\
 (∀ i d ρ S,J.items[i]?=some d->W i ρ S->g d ρ S fun ρ2 S2=>t { E with nx:=W (i+1),ct:=W (i+1),bk:=E.nx } ρ2 S2)/\∀ ρ S,W J.items.length ρ S->E.nx ρ S
def signs (z:Str):List D:=z.cps.toList.map fun c=>.str ⟨#[c]⟩
def zdj (x:D)(S1:Sto)(R:DIt->Sto->Prop):Prop:=(∃ xs,x=.tup xs/\R ⟨xs,fun _=>True⟩ S1)\/(∃ xs,Lst S1 x xs/\R ⟨xs,fun S=>Lst S x xs⟩ S1)\/(∃ z:Str,x=.str z/\R ⟨signs z,fun _=>True⟩ S1)
def zdm (t:DE):DI:=fun ρ S R=>t ρ S fun x S1=>zdj x S1 R
def upto (lo:Int)(n:Nat):List D:=(List.range n).map fun k:Nat=>D.int (lo+(k:Int))
def zcG (t:DA):DI:=fun ρ S R=>t ρ S fun vs S1=>∃ j:Int,vs=[.int j]/\-(2 ^ 62)<=j/\j<2 ^ 62/\R ⟨upto 0 j.toNat,fun _=>True⟩ S1
def zch (own:Nat)(fv:List Nat)(ρ:Rho):Rho:=List.replicate own none++fv.map fun j=>(ρ[j]?).join
def zdl:DT:=fun _ S Q=>Q true S
def dLC (own:Nat)(fv:List Nat)(wi:DI)(g:DG)(tc:DT)(te:DE):DE:=fun ρ S Q=>wi ρ S fun J S1=>J.items.length<=big/\∃ W:Nat->List D->Sto->Prop,W 0 [] S1/\(∀ i ys S,W i ys S->J.ok S) /\
 (∀ i d ys S,J.items[i]?=some d->W i ys S->g d (zch own fv ρ) S fun ρ2 S2=>tc ρ2 S2 fun b S3=>if b=true then te ρ2 S3 fun y S4=>W (i+1) (ys++[y]) S4 else W (i+1) ys S3) /\
 ∀ ys S,W J.items.length ys S->Q (.ref S.length) (S++[.lst ys])
section
variable {κ:Type}[DecidableEq κ]
end
def fc:Cell->Bool
 | .lst xs=>xs.all (fl 20)
 | .ins _ _=>false
 | .dk _=>false
 | .dt _=>false
def Fin (S:Sto)(Q:DK):DK:=fun d S'=>Q d S'\/∃ S1,S1 <+: S'/\S.length<=S1.length/\(fl 20 d=true\/∃ n,d=.ref n/\n<S1.length)/\(∀ (n:Nat) c,S1[n]?=some c->S[n]?=some c\/fc c=true)/\Q d S1
def zaO (n:Nat)(ds:List D):Rho:=ds.map some++List.replicate (n-ds.length) none
def BodyOk (n:Nat)(b:DS)(f:DSp):Prop:=∀ ds S Q,f ds S Q->b ⟨fun _ S'=>Fin S Q .non S',Fin S Q,fun _ _=>False,fun _ _=>False⟩ (zaO n ds) S
abbrev XD:=Str->Sto->Prop
abbrev XR:=Rho->Str->Sto->Prop
abbrev zcl:=List D->Sto->DK->XD->Prop
def zdF (f:zcl)(ex:XR)(t:DA):DE:=fun ρ S Q=>t ρ S fun xs S1=>f xs S1 Q (ex ρ)
def zbN (ex:XR)(c:Str):DS:=fun _ ρ S=>ex ρ c S
def zci (tbl:List (Str×Bool))(t:DE):DE:=fun ρ S Q=>t ρ S fun x S1=>∃ c b,x=.exn c/\tbl.lookup c=some b/\Q (.bl b) S1
def zf9 (i:Nat)(ok:List Str)(b:XR->DS)(h:DS):DS:=fun E ρ S =>
 b (fun ρ' c S'=>ok.contains c=true/\h { nx:=fun ρ2 S2=>E.nx (ρ2.set i none) S2,rt:=E.rt,bk:=fun _ _=>False,ct:=fun _ _=>False } (ρ'.set i (some (.exn c))) S') E ρ S
def zeo (n:Nat)(b:XR->DS)(f:zcl):Prop:=∀ ds S Q ex,f ds S Q ex->b (fun _=>ex) ⟨fun _ S'=>Fin S Q .non S',Fin S Q,fun _ _=>False,fun _ _=>False⟩ (zaO n ds) S
def New (Q:DK)(S:Sto)(xs:List D):Prop:=Q (.ref S.length) (S++[.lst xs])
def zf5 (own:Nat)(fv:List Nat)(g:DG)(tc:DT)(te:DE)(ρ:Rho)(Q:DK)(J:DIt)(S:Sto):Prop:=J.items.length<=big/\∃ W:Nat->List D->Sto->Prop,W 0 [] S/\(∀ i ys S,W i ys S->J.ok S) /\
 (∀ i d ys S,J.items[i]?=some d->W i ys S->g d (zch own fv ρ) S fun ρ2 S2=>tc ρ2 S2 fun b S3=>if b=true then te ρ2 S3 fun y S4=>W (i+1) (ys++[y]) S4 else W (i+1) ys S3) /\
 ∀ ys S,W J.items.length ys S->New Q S ys
def zgu (nx:Rho->Sto->Prop)(rt:DK)(g:DG)(t:DS)(ρ:Rho)(J:DIt)(S:Sto):Prop:=∃ W:Nat->Rho->Sto->Prop,W 0 ρ S/\(∀ i ρ S,W i ρ S->J.ok S) /\
 (∀ i d ρ S,J.items[i]?=some d->W i ρ S->g d ρ S fun ρ2 S2=>t ⟨W (i+1),rt,nx,W (i+1)⟩ ρ2 S2)/\∀ ρ S,W J.items.length ρ S->nx ρ S
theorem ze3 {nx:Rho->Sto->Prop}{rt:DK}{g:DG}{t:DS}{ρ:Rho}{xs:List D}{ok:Sto->Prop}{S:Sto}(W:Nat->Rho->Sto->Prop)(h0:W 0 ρ S)(hok:∀ i ρ S,W i ρ S->ok S)
  (step:∀ i d ρ S,xs[i]?=some d->W i ρ S->g d ρ S fun ρ2 S2=>t ⟨W (i+1),rt,nx,W (i+1)⟩ ρ2 S2) (fin:∀ ρ S,W xs.length ρ S->nx ρ S):zgu nx rt g t ρ ⟨xs,ok⟩ S:=⟨W,h0,hok,step,fin⟩
theorem ziN {S:Sto}{Q:DK}{xs:List D}(h:Q (.ref S.length) (S++[.lst xs])):New Q S xs:=h
theorem zb4 {S T:Sto}{Q:DK}{xs:List D}(h:Q (.ref (S.length+T.length)) (S++(T++[.lst xs]))):New Q (S++T) xs:=by
 unfold New;rw [List.length_append,List.append_assoc];exact h
section
variable {S:Sto}{Q:DK}{xs:List D}{a b c d e f:Cell}
theorem zi7 (h:Q (.ref (S.length+1)) (S++[a,.lst xs])):New Q (S++[a]) xs:=zb4 h
theorem zjz (h:Q (.ref (S.length+2)) (S++[a,b,.lst xs])):New Q (S++[a,b]) xs:=zb4 h
theorem ziL (h:Q (.ref (S.length+3)) (S++[a,b,c,.lst xs])):New Q (S++[a,b,c]) xs:=zb4 h
end
section
variable {nx:Rho->Sto->Prop}{rt:DK}{bk ct:Rho->Sto->Prop}{ρ:Rho}{S:Sto}
theorem zjc {t u:DS}(h:t ⟨u ⟨nx,rt,bk,ct⟩,rt,bk,ct⟩ ρ S):zP t u ⟨nx,rt,bk,ct⟩ ρ S:=h
theorem r_J {t:DS}(J:Rho->Sto->Prop)(h:t ⟨J,rt,bk,ct⟩ ρ S)(hJ:∀ ρ S,J ρ S->nx ρ S):sJ t ⟨nx,rt,bk,ct⟩ ρ S:=⟨J,hJ,h⟩
theorem zdR (h:nx ρ S):zai ⟨nx,rt,bk,ct⟩ ρ S:=h
theorem zeU {t:DE}(h:t ρ S rt):zaG t ⟨nx,rt,bk,ct⟩ ρ S:=h
theorem zjb {t:DE}{g:DG}(h:t ρ S fun x S1=>g x ρ S1 nx):zY t g ⟨nx,rt,bk,ct⟩ ρ S:=h
theorem zjX {c:DT}{t u:DS}(h:c ρ S fun b S1=>if b=true then t ⟨nx,rt,bk,ct⟩ ρ S1 else u ⟨nx,rt,bk,ct⟩ ρ S1):sIf c t u ⟨nx,rt,bk,ct⟩ ρ S:=h
theorem zjI {wi:DI}{g:DG}{t:DS}(h:wi ρ S fun J S1=>zgu nx rt g t ρ J S1):zeS wi g t ⟨nx,rt,bk,ct⟩ ρ S:=h
theorem zgP {i:Nat}{d:D}{Q:Rho->Sto->Prop}(h:Q (ρ.set i (some d)) S):zB i d ρ S Q:=h
theorem zix {Q:Rho->Sto->Prop}(h:Q ρ S):zdp [] ρ S Q:=⟨rfl,h⟩
theorem zgF {t:DG}{u:DGs}{d:D}{r:List D}{Q:Rho->Sto->Prop}(h:t d ρ S fun ρ' S'=>u r ρ' S' Q):zb3 t u (d::r) ρ S Q:=⟨d,r,rfl,h⟩
theorem zh4 {n:Nat}{t:DGs}{xs:List D}{Q:Rho->Sto->Prop}(e:xs.length=n)(h:t xs ρ S Q):zds n t (.tup xs) ρ S Q:=⟨xs,rfl,e,h⟩
theorem ziW {i:Nat}{d:D}{Q:DK}(h:ρ[i]?=some (some d))(q:Q d S):zj i ρ S Q:=⟨d,h,q⟩
theorem r_c {d:D}{Q:DK}(q:Q d S):dC d ρ S Q:=q
theorem zj4 {r:DR2}{ta tb:DE}{Q:DK}(h:ta ρ S fun x S1=>tb ρ S1 fun y S2=>r x y S2 Q):dOp r ta tb ρ S Q:=h
theorem zi0 {Q:List D->Sto->Prop}(h:Q [] S):zK ρ S Q:=h
theorem zhQ {ta:DE}{tr:DA}{Q:List D->Sto->Prop}(h:ta ρ S fun x S1=>tr ρ S1 fun xs S2=>Q (x::xs) S2):zm ta tr ρ S Q:=h
theorem zjL {t:DA}{Q:DK}(h:t ρ S fun xs S1=>xs.length<=big/\Q (.tup xs) S1):dTup t ρ S Q:=h
theorem zjm {t:DA}{Q:DK}(h:t ρ S fun xs S1=>xs.length<=big/\New Q S1 xs):za5 t ρ S Q:=h
theorem zjN {xs:List D}{P:Prop}(h:Nat.ble xs.length big=true)(q:P):xs.length<=big/\P:=⟨Nat.le_of_ble_eq_true h,q⟩
theorem zid {f:DSp}{t:DA}{Q:DK}(h:t ρ S fun xs S1=>f xs S1 Q):dCall f t ρ S Q:=h
theorem r_b {r:DB}{t:DA}{Q:DK}(h:t ρ S fun xs S1=>r xs S1 Q):dB r t ρ S Q:=h
theorem r_t {t:DE}{Q:Bool->Sto->Prop}(h:t ρ S fun x S1=>∃ b,x=.bl b/\Q b S1):dT t ρ S Q:=h
theorem zkk {c:Bool}{P:Bool->Prop}(h:P c):∃ b,D.bl c=D.bl b/\P b:=⟨c,rfl,h⟩
theorem ziZ {c:Int}{P:Int->Prop}(h:P c):∃ b,D.int c=D.int b/\P b:=⟨c,rfl,h⟩
theorem zjj {t u:DT}{Q:Bool->Sto->Prop}(h:t ρ S fun c S1=>if c=true then u ρ S1 Q else Q false S1):zeJ t u ρ S Q:=h
theorem zjQ {t u:DT}{Q:Bool->Sto->Prop}(h:t ρ S fun c S1=>if c=true then Q true S1 else u ρ S1 Q):dOr t u ρ S Q:=h
theorem zjK {t:DT}{Q:Bool->Sto->Prop}(h:t ρ S fun c S1=>Q (!c) S1):zdr t ρ S Q:=h
theorem zjE {t u:DE}{Q:DK}(h:t ρ S fun x S1=>∃ c,x=.bl c/\if c=true then Q (.bl true) S1 else u ρ S1 Q):zfW t u ρ S Q:=h
theorem zjJ {c:DT}{ta tb:DE}{Q:DK}(h:c ρ S fun b S1=>if b=true then ta ρ S1 Q else tb ρ S1 Q):zfK c ta tb ρ S Q:=h
theorem zj9 {r:D->Option Int->Option Int->Sto->DK->Prop}{ta:DE}{lo hi:Option DE}{Q:DK}(h:ta ρ S fun x S1=>zck lo ρ S1 fun l S2=>zck hi ρ S2 fun h S3=>r x l h S3 Q):dSl r ta lo hi ρ S Q:=h
theorem zhV {Q:Option Int->Sto->Prop}(h:Q none S):zck none ρ S Q:=h
theorem zit {t:DE}{Q:Option Int->Sto->Prop}(h:t ρ S fun x S1=>∃ i,x=.int i/\Q (some i) S1):zck (some t) ρ S Q:=h
theorem zfN {ta tb:DE}{Q:DK}(h:ta ρ S fun x S1=>(∃ z,x=.str z)/\tb ρ S1 fun y S2=>∃ z c,x=.str z/\y=.str ⟨#[c]⟩/\Q (.bl (decide (z.cps.toList[0]?=some c))) S2):zcU ta tb ρ S Q:=h
theorem zhN {Q:Bool->Sto->Prop}(h:Q true S):zdl ρ S Q:=h
end
section
variable {S:Sto}{Q:DK}
theorem zjF {i j:Int}(q:Q (.int (i+j)) S):zap (.int i) (.int j) S Q:=.inl ⟨i,j,rfl,rfl,q⟩
theorem zfy {x y:D}{xs ys:List D}(hx:Lst S x xs)(hy:Lst S y ys)(h:xs.length+ys.length<=big)(q:New Q S (xs++ys)):zap x y S Q:=.inr (.inr (.inl ⟨xs,ys,hx,hy,h,q⟩))
theorem zcq {i j:Str}(h:i.length+j.length<=big)(q:Q (.str (i++j)) S):zap (.str i) (.str j) S Q:=.inr (.inr (.inr ⟨i,j,rfl,rfl,h,q⟩))
theorem zjG {i j:Int}(q:Q (.int (i-j)) S):zdH (.int i) (.int j) S Q:=⟨i,j,rfl,rfl,q⟩
theorem zjp {i j:Int}(c:zca i j)(q:Q (.int (i*j)) S):zbM (.int i) (.int j) S Q:=.inl ⟨i,j,rfl,rfl,c,q⟩
theorem zhO {z:Str}{n:Int}(hz:z.length<=1000)(h0:-1000<=n)(h1:n<=1000)(q:Q (.str (zcP z n)) S):zbM (.str z) (.int n) S Q:=.inr (.inl ⟨z,n,rfl,rfl,hz,h0,h1,q⟩)
theorem ziT {c:Nat}{z:Str}(q:Q (.bl (decide (c∈z.cps.toList))) S):oIn (.str ⟨#[c]⟩) (.str z) S Q:=.inr ⟨c,z,rfl,rfl,q⟩
theorem zfF {c:Nat}{z:Str}(q:Q (.bl (!decide (c∈z.cps.toList))) S):zdA (.str ⟨#[c]⟩) (.str z) S Q:=.inr ⟨c,z,rfl,rfl,q⟩
theorem ziM {i j:Int}(c:0<j/\My.Bd 8000 j)(q:Q (.int (i/j)) S):oDiv (.int i) (.int j) S Q:=⟨i,j,rfl,rfl,⟨by omega,c.2⟩,by show Q (.int (i.fdiv j)) S;rw [Int.fdiv_eq_ediv_of_nonneg i (by omega)];exact q⟩
theorem zjA {i j:Int}(c:0<j)(q:Q (.int (i%j)) S):oMod (.int i) (.int j) S Q:=⟨i,j,rfl,rfl,(by show j≠0;omega),by show Q (.int (i.fmod j)) S;rw [Int.fmod_eq_emod_of_nonneg i (by omega)];exact q⟩
theorem zjU {i j:Int}(q:Q (.bl (decide (i<j))) S):oLt (.int i) (.int j) S Q:=⟨i,j,rfl,rfl,q⟩
theorem zjT {i j:Int}(q:Q (.bl (decide (j<i))) S):oGt (.int i) (.int j) S Q:=⟨i,j,rfl,rfl,q⟩
theorem zjg {i j:Int}(q:Q (.bl (decide (i=j))) S):oEq (.int i) (.int j) S Q:=⟨_,.inl ⟨rfl,rfl,rfl⟩,q⟩
theorem zjx {i j:Int}(q:Q (.bl (!decide (i=j))) S):oNe (.int i) (.int j) S Q:=⟨_,.inl ⟨rfl,rfl,rfl⟩,q⟩
theorem zjv {x:D}{xs:List D}{i:Int}{d:D}(h:Lst S x xs)(e:atD xs i=some d)(q:Q d S):oIx x (.int i) S Q:=.inl ⟨i,xs,d,rfl,.inr h,e,q⟩
theorem zeE {z:Str}{i:Int}{c:Nat}(hz:z.length<=big)(e:atS z i=some c)(q:Q (.str ⟨#[c]⟩) S):oIx (.str z) (.int i) S Q:=.inr ⟨z,i,c,rfl,rfl,hz,e,q⟩
theorem ziw {x:D}{xs:List D}{lo hi:Option Int}(h:Lst S x xs)(q:New Q S (cutD xs lo hi)):za0 x lo hi S Q:=.inr (.inl ⟨xs,h,q⟩)
theorem zaZ {z:Str}{lo hi:Option Int}(hz:z.length<=big)(q:Q (.str (zby z lo hi)) S):za0 (.str z) lo hi S Q:=.inr (.inr ⟨z,rfl,hz,q⟩)
theorem zhM {x:D}{xs:List D}(h:Lst S x xs)(q:Q (.int xs.length) S):za6 [x] S Q:=.inl ⟨_,xs,rfl,.inr h,q⟩
theorem zbp {z:Str}(hz:z.length<=big)(q:Q (.int z.length) S):za6 [.str z] S Q:=.inr ⟨z,rfl,hz,q⟩
theorem zjo {x:D}{bs:List Bool}(h:Lst S x (bs.map D.bl))(q:Q (.bl (bs.all id)) S):zfX [x] S Q:=⟨x,bs,rfl,h,q⟩
theorem zgM {x:D}{xs:List D}(h:Lst S x xs)(q:New Q S xs):zeM [x] S Q:=⟨_,xs,rfl,.inr h,q⟩
theorem zdg {i:Int}(h:My.Bd 1900 i)(q:Q (.str (Str.ofString (toString i))) S):zcJ [.int i] S Q:=⟨i,rfl,h,q⟩
theorem ziH {z:Str}{n:Int}(hl:z.length<=640)(h:zd5 z n)(q:Q (.int n) S):zdk [.str z] S Q:=⟨z,n,rfl,hl,h,q⟩
end
section
variable {ρ:Rho}{S:Sto}{R:DIt->Sto->Prop}
theorem ziI {t:DE}(h:t ρ S fun x S1=>zdj x S1 R):zdm t ρ S R:=h
theorem zjO {x:D}{xs:List D}(h:Lst S x xs)(q:R ⟨xs,fun S=>Lst S x xs⟩ S):zdj x S R:=.inr (.inl ⟨xs,h,q⟩)
theorem ziU {z:Str}(q:R ⟨signs z,fun _=>True⟩ S):zdj (.str z) S R:=.inr (.inr ⟨z,rfl,q⟩)
theorem zii {t:DA}(h:t ρ S fun vs S1=>∃ j:Int,vs=[.int j]/\-(2 ^ 62)<=j/\j<2 ^ 62/\R ⟨upto 0 j.toNat,fun _=>True⟩ S1):zcG t ρ S R:=h
theorem zke {own:Nat}{fv:List Nat}{wi:DI}{g:DG}{tc:DT}{te:DE}{Q:DK}(h:wi ρ S fun J S1=>zf5 own fv g tc te ρ Q J S1):dLC own fv wi g tc te ρ S Q:=h
end
theorem zf1 {A B:Prop}(h:B):if false=true then A else B:=by rw [if_neg Bool.false_ne_true];exact h
theorem zgi {A B:Prop}(h:A):if true=true then A else B:=by rw [if_pos rfl];exact h
theorem r_d {c A B:Prop}[Decidable c](h1:c->A)(h2:¬ c->B):if decide c=true then A else B:=by
 by_cases h:c
 ·rw [decide_eq_true h,if_pos rfl];exact h1 h
 ·rw [decide_eq_false h,if_neg Bool.false_ne_true];exact h2 h
theorem zf8 {c A B:Prop}[Decidable c](h1:¬ c->A)(h2:c->B):if (!decide c)=true then A else B:=by
 by_cases h:c
 ·rw [decide_eq_true h];exact h2 h
 ·rw [decide_eq_false h];exact h1 h
theorem zbS (S T:Sto)(k:Nat):(S++T)[S.length+k]?=T[k]?:=by
 rw [List.getElem?_append_right (Nat.le_add_right _ _),Nat.add_sub_cancel_left]
theorem zgC (S T:Sto):(S++T)[S.length]?=T[0]?:=zbS S T 0
theorem ze1 {S T:Sto}{c:Cell}:(S++c::T)[S.length]?=some c:=(zbS S (c::T) 0).trans rfl
theorem zb8 {S T:Sto}{c:Cell}:(S++(T++[c]))[S.length+T.length]?=some c:=by rw [zbS,List.getElem?_append_right (Nat.le_refl _),Nat.sub_self];rfl
theorem zcR {S T:Sto}{n:Nat}{c:Cell}(h:S[n]?=some c):(S++T)[n]?=some c:=by
 have:n<S.length:=by
  rcases Nat.lt_or_ge n S.length with g | g
  ·exact g
  ·rw [List.getElem?_eq_none g] at h;cases h
 rw [List.getElem?_append_left this];exact h
theorem Lst.old {S T:Sto}{x:D}{xs:List D}(h:Lst S x xs):Lst (S++T) x xs:=h.imp id fun⟨n,e,h⟩=>⟨n,e,zcR h⟩
theorem Lst.at {S T:Sto}{k:Nat}{xs:List D}(h:T[k]?=some (.lst xs)):Lst (S++T) (.ref (S.length+k)) xs:=.inr ⟨_,rfl,by rw [zbS];exact h⟩
theorem Lst.at0 {S T:Sto}{xs:List D}:Lst (S++.lst xs::T) (.ref S.length) xs:=.inr ⟨_,rfl,by rw [zgC];rfl⟩
theorem Lst.new {S T:Sto}{xs:List D}:Lst (S++(T++[.lst xs])) (.ref (S.length+T.length)) xs:=.inr ⟨_,rfl,zb8⟩
theorem Lst.rl {S:Sto}{xs:List D}:Lst S (.rl xs) xs:=.inl rfl
theorem Lst.here {S:Sto}{n:Nat}{xs:List D}(h:S[n]?=some (.lst xs)):Lst S (.ref n) xs:=.inr ⟨n,rfl,h⟩
theorem fin_same {S S':Sto}{Q:DK}{d:D}(q:Q d S'):Fin S Q d S':=.inl q
section
variable {S:Sto}{Q:DK}
theorem zdb {i:Int}(q:Q (.bl true) S):zdD [.int i,.ty "int"] S Q:=⟨_,_,true,rfl,by rfl,q⟩
theorem zcS {i:Int}(q:Q (.bl false) S):zdD [.int i,.ty "bool"] S Q:=⟨_,_,false,rfl,by rfl,q⟩
end
theorem zjt {A B:Prop}(h:B):if (!true)=true then A else B:=zf1 h
theorem zjB {A B:Prop}(h:A):if (!false)=true then A else B:=zgi h
def LcW (S:Sto)(items:List D)(p:D->Bool)(f:D->D)(i:Nat)(ys:List D)(S':Sto):Prop:=S'=S/\ys=((items.take i).filter p).map f
theorem zct {α:Type}{xs:List α}{i:Nat}{x:α}(h:xs[i]?=some x):xs.take (i+1)=xs.take i++[x]:=by rw [List.take_succ,h];rfl
theorem zjs {S:Sto}{items:List D}{p:D->Bool}{f:D->D}{i:Nat}{ys:List D}{d y:D}(hd:items[i]?=some d)(hw:LcW S items p f i ys S)(hp:p d=true)(hy:y=f d):LcW S items p f (i+1) (ys++[y]) S :=
 ⟨rfl,by rw [zct hd,List.filter_append,List.map_append,<- hw.2,List.filter_cons_of_pos hp,hy];rfl⟩
theorem zhk {own:Nat}{fv:List Nat}{xs:List D}{ok:Sto->Prop}{g:DG}{tc:DT}{te:DE}{ρ:Rho}{S:Sto}{Q:DK}(p:D->Bool)(f:D->D)(hok:ok S)(hbig:xs.length<=big)
  (step:∀ i d ys,xs[i]?=some d->LcW S xs p f i ys S->g d (zch own fv ρ) S fun ρ2 S2=>tc ρ2 S2 fun b S3=>if b=true then te ρ2 S3 fun y S4=>LcW S xs p f (i+1) (ys++[y]) S4 else LcW S xs p f (i+1) ys S3)
  (q:New Q S ((xs.filter p).map f)):zf5 own fv g tc te ρ Q ⟨xs,ok⟩ S:=by
 refine⟨hbig,LcW S xs p f,⟨rfl,by simp⟩,fun i ys S' h=>by rw [h.1];exact hok,fun i d ys S' hd h=>?_,fun ys S' h=>?_⟩
 ·obtain⟨rfl,_⟩:=id h
  exact step i d ys hd h
 ·obtain⟨rfl,rfl⟩:=h
  rw [List.take_length];exact q
theorem filter_true {α:Type}(xs:List α):xs.filter (fun _=>true)=xs:=List.filter_eq_self.mpr fun _ _=>rfl
theorem zg0 {lo:Int}{n i:Nat}{d:D}(h:(upto lo n)[i]?=some d):i<n/\d=.int (lo+i):=by
 unfold upto at h
 rw [List.getElem?_map] at h
 by_cases hi:i<n
 ·rw [List.getElem?_range hi] at h
  exact⟨hi,by simpa using h.symm⟩
 ·rw [List.getElem?_eq_none (by simpa using hi)] at h;cases h
theorem zcc (lo:Int)(n:Nat):(upto lo n).length=n:=by unfold upto;simp
theorem zhX {zs:List Int}{k:Int}(h0:0<=k)(h:k<zs.length):∃ z,z∈zs/\atD (zs.map D.int) k=some (.int z):=by
 refine⟨zs[k.toNat]'(by omega),List.getElem_mem _,?_⟩
 unfold atD ixD
 rw [List.length_map,if_pos h0,if_pos h]
 simp only [Option.bind_some]
 rw [List.getElem?_map,List.getElem?_eq_getElem (by omega)];rfl
theorem zet {α:Type}{xs:List α}{i:Nat}{x:α}(h:xs[i]?=some x):i<xs.length:=by
 rcases Nat.lt_or_ge i xs.length with g | g
 ·exact g
 ·rw [List.getElem?_eq_none g] at h;cases h
def za3:DSp:=fun ds S Q=>∃ ns:List Int,ds=[.rl (ns.map D.int)]/\(S=[]/\∀ n∈ns,Hg n)/\ns.length<=63/\∀ S',Q (.bl true) S'
theorem zhh:∀ ds So Q,za3 ds So Q->ds.length=1:=fun ds So Q ⟨ns,e,_⟩=>by rw [e];rfl
theorem zhj {α β:Type}(f:α->β)(xs:List α)(lo hi:Option Int):cutD (xs.map f) lo hi=(cutD xs lo hi).map f:=by
 unfold cutD
 rw [List.length_map,List.map_take,List.map_drop]
theorem zg8 {α:Type}(xs:List α)(lo hi:Option Int):(cutD xs lo hi).length<=slD xs.length xs.length hi-slD xs.length 0 lo:=by
 unfold cutD
 rw [List.length_take];omega
section
variable {nx:Rho->Sto->Prop}{rt:DK}{bk ct:Rho->Sto->Prop}{ρ:Rho}{S:Sto}
theorem zhc {f:zcl}{ex:XR}{t:DA}{Q:DK}(h:t ρ S fun xs S1=>f xs S1 Q (ex ρ)):zdF f ex t ρ S Q:=h
theorem zhz {ex:XR}{c:Str}(h:ex ρ c S):zbN ex c ⟨nx,rt,bk,ct⟩ ρ S:=h
theorem zjl {tbl:List (Str×Bool)}{t:DE}{Q:DK}(h:t ρ S fun x S1=>∃ c b,x=.exn c/\tbl.lookup c=some b/\Q (.bl b) S1):zci tbl t ρ S Q:=h
theorem zib {tbl:List (Str×Bool)}{c:Str}{b:Bool}{P:Bool->Prop}(e:tbl.lookup c=some b)(q:P b):∃ c' b',D.exn c=.exn c'/\tbl.lookup c'=some b'/\P b':=⟨c,b,rfl,e,q⟩
theorem ziR {i:Nat}{ok:List Str}{b:XR->DS}{h:DS}(g:b (fun ρ' c S'=>ok.contains c=true/\h ⟨fun ρ2 S2=>nx (ρ2.set i none) S2,rt,fun _ _=>False,fun _ _=>False⟩ (ρ'.set i (some (.exn c))) S') ⟨nx,rt,bk,ct⟩ ρ S):zf9 i ok b h ⟨nx,rt,bk,ct⟩ ρ S:=g
end
theorem zju {S:Sto}{Q:DK}{x y:D}{xs ys:List D}{b:Bool}(hx:Lst S x xs)(hy:Lst S y ys)(fx:xs.all (fl 20)=true)(fy:ys.all (fl 20)=true)(e:eqvAll xs ys=b)(q:Q (.bl (!b)) S):oNe x y S Q:=⟨_,.inr (.inl ⟨xs,ys,hx,hy,fx,fy,rfl⟩),by rw [e];exact q⟩
theorem zeu {S:Sto}{Q:DK}{x y:Str}{b:Bool}(fx:fl 20 (.str x)=true)(fy:fl 20 (.str y)=true)(e:(x==y)=b)(q:Q (.bl b) S):oEq (.str x) (.str y) S Q:=⟨_,.inl ⟨fx,fy,rfl⟩,by show Q (.bl (x==y)) S;rw [e];exact q⟩
theorem zeB {S:Sto}{Q:DK}{x y:Str}{b:Bool}(fx:fl 20 (.str x)=true)(fy:fl 20 (.str y)=true)(e:(x==y)=b)(q:Q (.bl (!b)) S):oNe (.str x) (.str y) S Q:=⟨_,.inl ⟨fx,fy,rfl⟩,by show Q (.bl (!(x==y))) S;rw [e];exact q⟩
section
variable {nx:Rho->Sto->Prop}{rt:DK}{bk ct:Rho->Sto->Prop}{ρ:Rho}{S:Sto}{Q:DK}{td ti tz tv:DE}
end
section
variable {κ:Type}[DecidableEq κ]
end
end Dp
namespace Rm
structure Pc where
 lo:Int
 hi:Int
 to:Int
 st:Int
instance:DecidableEq Pc:=fun p q=>if h:p.lo=q.lo/\p.hi=q.hi/\p.to=q.to/\p.st=q.st then isTrue (by cases p;cases q;obtain⟨h1,h2,h3,h4⟩:=h;cases h1;cases h2;cases h3;cases h4;rfl) else isFalse (fun e=>h (by subst e;exact⟨rfl,rfl,rfl,rfl⟩))
def Pc.led (p:Pc)(h:Int):Int:=p.to+p.st*(h-p.lo)
def Pc.fin (p:Pc):Int:=p.led p.hi
def inP (p:Pc)(h:Int):Prop:=p.lo<=h/\h<=p.hi
instance (p:Pc) (h:Int):Decidable (inP p h):=by unfold inP;infer_instance
def at':List Pc->Int->Option Int
 | [],_=>none
 | p::r,h=>if inP p h then some (p.led h) else at' r h
end Rm
namespace Dp
open PySem Rm
open PySem Rm My
end Dp
namespace Rm
open My Dp
end Rm
namespace Dp
open PySem Rm My
end Dp
namespace Rm
open My Dp
end Rm
namespace Dp
open PySem Rm My
def flt (a b:Int×Int):Bool:=decide (a.1*b.2<b.1*a.2)
def lenV (ms:List (Int×Int)):Int:=(ms.map fun m=>m.2-m.1).sum
theorem zjC {own:Nat}{fv:List Nat}{xs:List D}{ok:Sto->Prop}{g:DG}{tc:DT}{te:DE}{ρ:Rho}{S:Sto}{Q:DK}(W:Nat->List D->Sto->Prop)(h0:W 0 [] S)(hok:∀ i ys S,W i ys S->ok S)(hbig:xs.length<=big)
  (step:∀ i d ys S,xs[i]?=some d->W i ys S->g d (zch own fv ρ) S fun ρ2 S2=>tc ρ2 S2 fun b S3=>if b=true then te ρ2 S3 fun y S4=>W (i+1) (ys++[y]) S4 else W (i+1) ys S3)
  (fin:∀ ys S,W xs.length ys S->New Q S ys):zf5 own fv g tc te ρ Q ⟨xs,ok⟩ S:=⟨hbig,W,h0,hok,step,fin⟩
section
variable {g:Int}{p q r s d t u v:Int×Int}
end
section
variable {cs:List (Int×Int)}{a b:Int×Int}{rp:List (Int×Int)}
end
section
variable {w h t m:Int}{cs:List (Int×Int)}
end
theorem zfM (c:Nat)(n:Int)(h:0<=n):zcP ⟨#[c]⟩ n=⟨(List.replicate n.toNat c).toArray⟩:=by
  unfold zcP
  split
  · have:n.toNat=0:=by omega
    rw [this];rfl
  · split
    · rename_i g g2
      have:n=1:=by
        rcases Bool.or_eq_true .. |>.mp g2 with z | z
        · exact eq_of_beq z
        · exact absurd (show ((1:Nat)==0)=true from z) (by decide)
      subst this;rfl
    · have : ∀ (m : Nat) (acc : Array Nat), (List.replicate m #[c]).foldl (· ++ ·) acc = acc ++ (List.replicate m c).toArray := by
        intro m
        induction m with
        | zero=>intro acc;simp
        | succ m ih =>
          intro acc
          rw [List.replicate_succ,List.foldl_cons,ih,List.replicate_succ]
          apply Array.toList_inj.mp
          simp
      show (⟨(List.replicate n.toNat #[c]).foldl (·++·) #[]⟩:Str)=_
      rw [this];simp
section
variable {S:Sto}{P:D->Prop}{n:Nat}{g b f h a l d:D}
end
section
variable {g b f h a l d:D}
end
theorem zge {α:Type}(xs:List α){k:Int}(h0:0<=k)(h1:k<=xs.length):cutD xs (some k) none=xs.drop k.toNat:=by
 unfold cutD slD
 dsimp only
 rw [if_neg (by omega),Nat.min_eq_left (by omega)]
 exact List.take_of_length_le (by rw [List.length_drop];exact Nat.le_refl _)
mutual
theorem eqv_refl:∀ (k:Nat) (d:D),fl k d=true->eqv d d=true
  | _,.non,_=>rfl
  | _,.bl b,_=>by show (b==b)=true;simp
  | _,.int i,_=>by show decide (i=i)=true;simp
  | _,.str x,_=>by show (x==x)=true;simp
  | 0,.tup _,h=>by cases h
  | k+1,.tup xs,h=>eqvAll_refl k xs h
  | k,.ref _,h=>by cases k<;>cases h
  | k,.ty _,h=>by cases k<;>cases h
  | k,.rl _,h=>by cases k<;>cases h
  | k,.exn _,h=>by cases k<;>cases h
theorem eqvAll_refl:∀ (k:Nat) (xs:List D),xs.all (fl k)=true->eqvAll xs xs=true
  | _,[],_=>rfl
  | k,x::xs,h=>by
    rw [List.all_cons,Bool.and_eq_true] at h
    show (eqv x x&&eqvAll xs xs)=true
    rw [eqv_refl k x h.1,eqvAll_refl k xs h.2];rfl
end
theorem zd9 {S:Sto}{Q:DK}{x y:D}{xs:List D}(hx:Lst S x xs)(hy:Lst S y xs)(f:xs.all (fl 20)=true)(q:Q (.bl false) S):oNe x y S Q:=zju hx hy f f (eqvAll_refl 20 xs f) q
theorem zhb {zs:List Str}{i:Nat}{d:D}(h:(zs.map D.str)[i]?=some d):∃ z,zs[i]?=some z/\d=.str z:=by
 rw [List.getElem?_map] at h
 cases e:zs[i]? with
 | none=>rw [e] at h;cases h
 | some p=>rw [e] at h;cases h;exact⟨p,rfl,rfl⟩
theorem zic {S:Sto}{Q:DK}{x y:Str}(fx:fl 20 (.str x)=true)(fy:fl 20 (.str y)=true)(q:Q (.bl (decide (x=y))) S):oEq (.str x) (.str y) S Q:=zeu fx fy (by
 by_cases h:x=y
 ·subst h;rw [decide_eq_true rfl];exact beq_self_eq_true x
 ·rw [decide_eq_false h];exact beq_eq_false_iff_ne.mpr h) q
open Classical in
theorem ze8 {S:Sto}{Q:DK}{x y:Str}(fx:fl 20 (.str x)=true)(fy:fl 20 (.str y)=true)(q:Q (.bl (!decide (x=y))) S):oNe (.str x) (.str y) S Q:=zeB fx fy (by
 by_cases h:x=y
 ·subst h;rw [decide_eq_true rfl];exact beq_self_eq_true x
 ·rw [decide_eq_false h];exact beq_eq_false_iff_ne.mpr h) q
def zaB (n:Int):Str:=Str.ofString (toString n)
theorem zbe:∀ d:Nat,d<10->(Nat.digitChar d).toNat=d+48:=by decide
theorem zco (m:Nat):(zaB ((m:Nat):Int)).cps.toList=(Nat.toDigits 10 m).map Char.toNat:=by
 unfold zaB
 rw [Str.ofString_eq_toList]
 show ((Nat.repr m).toList.map Char.toNat).toArray.toList=_
 rw [Nat.toList_repr]
theorem zdV {m:Nat}(h:0<m):(zaB (-((m:Nat):Int))).cps.toList=45::(Nat.toDigits 10 m).map Char.toNat:=by
 obtain⟨k,rfl⟩:∃ k,m=k+1:=⟨m-1,by omega⟩
 unfold zaB
 rw [Str.ofString_eq_toList,show -(((k+1:Nat)):Int)=Int.negSucc k from rfl]
 show (("-"++Nat.repr (k+1)).toList.map Char.toNat).toArray.toList=_
 rw [String.toList_append,Nat.toList_repr];rfl
theorem zc3 (cs:List Nat)(c:Nat):zar (cs++[c])=zar cs*10+(c-48):=by
 unfold zar
 rw [List.foldl_append];rfl
theorem zgw (cs:List Nat):∀ a:Nat,a<=cs.foldl (fun acc c=>acc*10+(c-48)) a:=by
 induction cs with
 | nil=>intro a;exact Nat.le_refl _
 | cons c cs ih =>
  intro a
  have:=ih (a*10+(c-48))
  rw [List.foldl_cons];omega
theorem zdB {c:Nat}{cs:List Nat}(h:49<=c):0<zar (c::cs):=by
 have:=zgw cs (0*10+(c-48))
 unfold zar
 rw [List.foldl_cons];omega
theorem zbO:∀ (n:Nat) (cs:List Nat),cs.length=n->cs≠[]->zbw cs->(cs=[48]\/cs[0]?≠some 48)->(Nat.toDigits 10 (zar cs)).map Char.toNat=cs
 | 0,cs,h,ne,_,_=>absurd (List.eq_nil_of_length_eq_zero h) ne
 | n+1,cs,h,ne,fg,h0=>by
  obtain⟨ds,c,rfl⟩:∃ ds c,cs=ds++[c]:=⟨cs.dropLast,cs.getLast ne,(List.dropLast_concat_getLast ne).symm⟩
  have hc:=fg c (by simp)
  have hd:c-48<10:=by omega
  have e:((Nat.toDigits 10 (c-48)).map Char.toNat)=[c]:=by
   rw [Nat.toDigits_of_lt_base hd]
   show [(Nat.digitChar (c-48)).toNat]=[c]
   rw [zbe _ hd,show c-48+48=c by omega]
  rw [zc3]
  cases ds with
  | nil=>rw [show zar []*10+(c-48)=c-48 from Nat.zero_add _];exact e
  | cons d ds =>
   have fd:=fg d (by simp)
   have hd48:d≠48:=fun z=>by
    rcases h0 with h0 | h0
    ·simp at h0
    ·exact h0 (by rw [z];rfl)
   have hp:0<zar (d::ds):=zdB (by omega)
   rw [Nat.mul_comm,<- Nat.toDigits_append_toDigits (by decide) hp hd,List.map_append,e,zbO n (d::ds) (by simpa using h) (by simp) (fun x hx=>fg x (List.mem_append_left _ hx)) (.inr fun z=>hd48 (Option.some.inj (show some d=some 48 from z)))]
theorem zgS:∀ (cs:List Nat),zbw cs->zar cs<10 ^ cs.length:=fun cs=>by
 suffices h:∀ (n:Nat) (cs:List Nat),cs.length=n->zbw cs->zar cs<10 ^ n from fun fg=>h _ cs rfl fg
 intro n
 induction n with
 | zero=>intro cs h _;rw [List.eq_nil_of_length_eq_zero h];decide
 | succ n ih =>
  intro cs h fg
  have ne:cs≠[]:=fun z=>by rw [z] at h;cases h
  obtain⟨ds,c,rfl⟩:∃ ds c,cs=ds++[c]:=⟨cs.dropLast,cs.getLast ne,(List.dropLast_concat_getLast ne).symm⟩
  have:=ih ds (by simpa using h) (fun x hx=>fg x (List.mem_append_left _ hx))
  have hc:=fg c (by simp)
  rw [zc3,Nat.pow_succ];omega
def zU (z:Str):List Nat:=if z.cps.toList[0]?=some 45 then z.cps.toList.drop 1 else z.cps.toList
def WrT (z:Str):Prop:=1<=(zU z).length/\(zU z).length<=60/\zbw (zU z)/\(z.cps.toList=[48]\/(zU z)[0]?≠some 48)
theorem zbo {x y:Str}(h:x.cps.toList=y.cps.toList):x=y:=by
 cases x;cases y
 congr 1
 exact Array.toList_inj.mp h
theorem Bd.ten {i:Int}(h:i.natAbs<10 ^ 62):Bd 1900 i:=by
 show i.natAbs<2 ^ 1900
 exact Nat.lt_of_lt_of_le h (Nat.le_trans (show 10 ^ 62<=2 ^ 210 by decide) (Nat.pow_le_pow_right (by decide) (by decide)))
theorem zgY {z:Str}(h:WrT z):z.length<=61/\∃ n,zd5 z n/\zaB n=z/\Bd 1900 n:=by
 obtain⟨h1,h2,h3,h4⟩:=h
 have zl:z.length=z.cps.toList.length:=Array.length_toList.symm
 have lt:=zgS (zU z) h3
 have lt2:zar (zU z)<10 ^ 62:=Nat.lt_of_lt_of_le lt (Nat.pow_le_pow_right (by decide) (by omega))
 by_cases m:z.cps.toList[0]?=some 45
 ·have ef:zU z=z.cps.toList.drop 1:=if_pos m
  have ez:z.cps.toList=45::zU z:=by
   rw [ef]
   cases e:z.cps.toList with
   | nil=>rw [e] at m;cases m
   | cons c cs=>rw [e] at m;cases m;rfl
  have n48:(zU z)[0]?≠some 48:=by
   rcases h4 with h4 | h4
   ·rw [h4] at m;cases m
   ·exact h4
  generalize zU z=cs at *
  have ne:cs≠[]:=fun e=>by rw [e] at h1;simp at h1
  have dt:=zbO _ cs rfl ne h3 (.inr n48)
  have pos:0<zar cs:=by
   cases cs with
   | nil=>exact absurd rfl ne
   | cons c cs =>
    have:=h3 c (by simp)
    exact zdB (by
     have:c≠48:=fun e=>n48 (by rw [e];rfl)
     omega)
  refine⟨by rw [zl,ez];simp;omega,-((zar cs:Nat):Int),.inr ⟨cs,ez,h3,ne,rfl⟩,zbo ?_,Bd.ten (by omega)⟩
  rw [zdV pos,dt,ez]
 ·have ef:zU z=z.cps.toList:=if_neg m
  rw [ef] at h1 h2 h3 h4 lt2
  have ne:z.cps.toList≠[]:=fun e=>by rw [e] at h1;simp at h1
  refine⟨by omega,((zar z.cps.toList:Nat):Int),.inl ⟨h3,ne,rfl⟩,zbo ?_,Bd.ten (by omega)⟩
  rw [zco,zbO _ _ rfl ne h3 h4]
theorem za9:∀ (k m:Nat),m<10 ^ (k+1)->(Nat.toDigits 10 m).length<=k+1/\∀ c∈(Nat.toDigits 10 m).map Char.toNat,c<128
 | 0,m,h=>by
  rw [Nat.toDigits_of_lt_base (by simpa using h)]
  refine⟨by simp,fun c hc=>?_⟩
  have:c=(Nat.digitChar m).toNat:=by simpa using hc
  rw [this,zbe m (by simpa using h)]
  have:m<10:=by simpa using h
  omega
 | k+1,m,h=>by
  by_cases hm:m<10
  ·obtain⟨a,b⟩:=za9 k m (Nat.lt_of_lt_of_le hm (by rw [Nat.pow_succ];have:0<10 ^ k:=Nat.pow_pos (by decide);omega))
   exact⟨by omega,b⟩
  ·have hd:m%10<10:=Nat.mod_lt m (by decide)
   have e:Nat.toDigits 10 m=Nat.toDigits 10 (m/10)++Nat.toDigits 10 (m%10):=by
    rw [Nat.toDigits_append_toDigits (by decide) (by omega) hd,Nat.div_add_mod]
   obtain⟨a,b⟩:=za9 k (m/10) (by rw [Nat.pow_succ] at h;omega)
   rw [e,Nat.toDigits_of_lt_base hd]
   refine⟨by simp;omega,fun c hc=>?_⟩
   rw [List.map_append] at hc
   rcases List.mem_append.mp hc with hc | hc
   ·exact b c hc
   ·have:c=(Nat.digitChar (m%10)).toNat:=by simpa using hc
    rw [this,zbe _ hd];omega
theorem zep {n:Int}(h:n.natAbs<10 ^ 62):(zaB n).length<=64/\∀ c∈(zaB n).cps.toList,c<128:=by
 obtain⟨a,b⟩:=za9 61 n.natAbs h
 have zl:(zaB n).length=(zaB n).cps.toList.length:=Array.length_toList.symm
 rcases Int.lt_or_le n 0 with g | g
 ·have e:=zdV (m:=n.natAbs) (by omega)
  rw [show -((n.natAbs:Nat):Int)=n by omega] at e
  rw [zl,e]
  refine⟨by simp;omega,fun c hc=>?_⟩
  rcases List.mem_cons.mp hc with rfl | hc
  ·decide
  ·exact b c hc
 ·have e:=zco n.natAbs
  rw [show ((n.natAbs:Nat):Int)=n by omega] at e
  rw [zl,e]
  exact⟨by simp;omega,b⟩
def Pln (k:Nat)(z:Str):Prop:=z.length<=k/\∀ c∈z.cps.toList,c<128
theorem Pln.fl {k:Nat}{z:Str}(h:Pln k z)(j:Nat):fl j (.str z)=true:=by
  have:z.cps.all (· < 0x110000)=true:=by
    rw [Array.all_eq_true']
    intro x hx
    have:=h.2 x (Array.mem_toList_iff.mpr hx)
    simp;omega
  cases j<;>exact this
theorem Pln.cut {k:Nat}{z:Str}(h:Pln k z)(lo hi:Option Int):Pln k (zby z lo hi):=by
 have zl:z.length=z.cps.toList.length:=Array.length_toList.symm
 have e:(zby z lo hi).cps.toList=cutD z.cps.toList lo hi:=rfl
 have el:(zby z lo hi).length=(cutD z.cps.toList lo hi).length:=by rw [<- e];exact Array.length_toList.symm
 have sub:(cutD z.cps.toList lo hi).Sublist z.cps.toList:=(List.take_sublist _ _).trans (List.drop_sublist _ _)
 refine⟨?_,fun c hc=>h.2 c (sub.subset (e▸hc))⟩
 rw [el]
 have:=sub.length_le
 have:=h.1
 omega
theorem Pln.app {j k:Nat}{x y:Str}(hx:Pln j x)(hy:Pln k y):Pln (j+k) (x++y):=by
 have e:(x++y).cps.toList=x.cps.toList++y.cps.toList:=by
  show (x.cps++y.cps).toList=_
  simp
 refine⟨?_,fun c hc=>?_⟩
 ·show (x.cps++y.cps).size<=_
  rw [Array.size_append]
  have h1:x.cps.size<=j:=hx.1
  have h2:y.cps.size<=k:=hy.1
  omega
 ·rw [e] at hc
  rcases List.mem_append.mp hc with hc | hc
  ·exact hx.2 c hc
  ·exact hy.2 c hc
theorem Pln.mul1 {c:Nat}{n:Int}(hc:c<128)(h0:0<=n)(h1:n<=100):Pln 100 (zcP ⟨#[c]⟩ n):=by
 rw [zfM c n h0]
 refine⟨?_,fun d hd=>?_⟩
 ·show (List.replicate n.toNat c).toArray.size<=100
  simp;omega
 ·have:d∈List.replicate n.toNat c:=by simpa using hd
  rw [List.eq_of_mem_replicate this];exact hc
theorem Pln.mono {j k:Nat}{z:Str}(h:Pln j z)(hk:j<=k):Pln k z:=⟨Nat.le_trans h.1 hk,h.2⟩
def onC (p:Nat->Bool):D->D
 | .str z=>.bl (p (z.cps.toList.headD 0))
 | d=>d
theorem zc4 {z:Str}{i:Nat}{d:D}(h:(signs z)[i]?=some d):∃ c,z.cps.toList[i]?=some c/\d=.str ⟨#[c]⟩:=by
 unfold signs at h
 rw [List.getElem?_map] at h
 cases e:z.cps.toList[i]? with
 | none=>rw [e] at h;cases h
 | some p=>rw [e] at h;cases h;exact⟨p,rfl,rfl⟩
theorem zfm (p:Nat->Bool)(z:Str):(signs z).map (onC p)=(z.cps.toList.map p).map D.bl:=by
 unfold signs
 rw [List.map_map,List.map_map];rfl
theorem zcZ (z:Str):(signs z).length=z.length:=by
 unfold signs
 rw [List.length_map];exact Array.length_toList
section
variable {see:Nat->Nat->Int->Prop}{dl:Int}{s:Nat}{h0:Int}
inductive Lt (see:Nat->Nat->Int->Prop)(dl:Int)(s:Nat)(h0:Int):Nat->Int->Prop
 | base:Lt see dl s h0 s h0
 | step {k j:Nat} {h u:Int}:Lt see dl s h0 k h->h<=u->see k j u->Lt see dl s h0 j (u+dl)
end
end Dp
namespace My
open PySem PySem.Spec PyProof.Rows L2
section
variable {prog:Program}{w:World}{A:Around}{E:Value->Shared->Prop}{s:Shared}
end
theorem zdu {α:Type}(xs:List α)(a:Nat):∀ m,a+m<=xs.length->((List.range m).map (a+·)).filterMap (xs[·]?)=(xs.drop a).take m
 | 0,_=>by simp
 | m+1,h=>by
  rw [List.range_succ,List.map_append,List.filterMap_append,zdu xs a m (by omega),List.take_succ,List.getElem?_drop]
  simp only [List.map_cons,List.map_nil,List.filterMap_cons,List.filterMap_nil]
  rw [List.getElem?_eq_getElem (by omega)];rfl
theorem zj7 (n:Nat)(lo hi:Option Int):Builtin.Str.strSliceIndices lo hi 1 n=(List.range (HT.sIx n n hi-HT.sIx n 0 lo)).map (HT.sIx n 0 lo+·):=by
 rw [<- sliceRange_one]
 unfold Builtin.Str.strSliceIndices
 have cl:∀ (o:Option Int) (d:Nat),(match o with | none=>(d:Int) | some i=>if (1:Int) > 0 then max 0 (min (if i<0 then i+(n:Int) else i) n) else max (-1) (min (if i<0 then i+(n:Int) else i) ((n:Int)-1)))=((HT.sIx n d o:Nat):Int):=fun o d=>by
  cases o with
  | none=>rfl
  | some i =>
   show (if (1:Int) > 0 then _ else _)=(((if i<0 then (i+n).toNat else min i.toNat n):Nat):Int)
   rw [if_pos (by decide)]
   by_cases h:i<0
   ·rw [if_pos h,if_pos h];omega
   ·rw [if_neg h,if_neg h];omega
 have h1:=cl lo 0
 have h2:=cl hi n
 simp only [show ((1:Int) > 0)=True by simp,if_true] at h1 h2 ⊢
 rw [<- h1,<- h2]
 rfl
theorem zcC (n:Nat)(o:Option Int)(d:Nat)(hd:d<=n):HT.sIx n d o<=n:=by
  cases o with
  | none=>exact hd
  | some i =>
    show (if i<0 then (i+n).toNat else min i.toNat n)<=n
    split<;>omega
theorem zfe (x:Str)(lo hi:Option Int):Txt.slice x lo hi=⟨((x.cps.toList.drop (HT.sIx x.length 0 lo)).take (HT.sIx x.length x.length hi-HT.sIx x.length 0 lo)).toArray⟩:=by
 have hl:x.cps.toList.length=x.length:=Array.length_toList
 have b1:=zcC x.length lo 0 (Nat.zero_le _)
 have b2:=zcC x.length hi x.length (Nat.le_refl _)
 unfold Txt.slice
 rw [zj7]
 have fm:((List.range (HT.sIx x.length x.length hi-HT.sIx x.length 0 lo)).map (HT.sIx x.length 0 lo+·)).filterMap (x.cps[·]?)=(x.cps.toList.drop (HT.sIx x.length 0 lo)).take (HT.sIx x.length x.length hi-HT.sIx x.length 0 lo):=by
  rcases Nat.lt_or_ge (HT.sIx x.length x.length hi) (HT.sIx x.length 0 lo) with g | g
  ·rw [show HT.sIx x.length x.length hi-HT.sIx x.length 0 lo=0 by omega];simp
  ·rw [<- zdu x.cps.toList _ _ (by rw [hl];omega)]
   congr 1
   funext i
   rw [Array.getElem?_toList]
 split
 ·rename_i h
  rw [Bool.and_eq_true] at h
  have h2:=eq_of_beq h.2
  rw [List.length_map,List.length_range] at h2
  have z1:HT.sIx x.length 0 lo=0:=by omega
  rw [h2,z1,List.drop_zero,List.take_of_length_le (by omega)]
 ·rw [fm]
def zj3:V->Option Int->Option Int->Hp->VK->Prop:=fun x lo hi H Q=>∃ z:Str,x=.str z/\z.length<=sizeLine/\Q (.str ⟨((z.cps.toList.drop (HT.sIx z.length 0 lo)).take (HT.sIx z.length z.length hi-HT.sIx z.length 0 lo)).toArray⟩) H
theorem zil {X:Cx}:SlR X zj3:=by
 intro pins s σ H x v vl vu lo hi sl Q I rx hs pl pu h
 obtain⟨z,rfl,hz,q⟩:=h
 obtain⟨t,rfl⟩:=rx
 refine⟨"str",_,F.slot_str_getitem.lookup,typeIs_str _ _ _,?_⟩
 have go:∀ (l u:Option (Int×Tok)),l.map (·.1)=lo->u.map (·.1)=hi->s.heap.IsSlice sl l u none->wpAny (model X.prog X.w) X.A (getItem (.str z t) (.ref sl)) (EP X pins σ Q) X.xe s:=fun l u el eu is=>by
  refine wpAny_getItem_str_slice is rfl ?_
  unfold sliceMade slicePicked
  rw [el,eu]
  refine post_val_or_str ⟨Nat.le_trans (Txt.slice_le z lo hi) hz,fun t' k=>?_⟩
  show EP X pins σ Q (.str (Txt.slice z lo hi) t') _
  rw [zfe]
  exact⟨.str _,H,I.tok _,⟨t',rfl⟩,q⟩
 obtain⟨o,ho,hc,hd⟩:=hs
 cases pl with
 | none =>
  cases pu with
  | none=>exact go none none rfl rfl ⟨o,ho,hc,hd⟩
  | int j tj=>exact go none (some (j,tj)) rfl rfl ⟨o,ho,hc,hd⟩
 | int i ti =>
  cases pu with
  | none=>exact go (some (i,ti)) none rfl rfl ⟨o,ho,hc,hd⟩
  | int j tj=>exact go (some (i,ti)) (some (j,tj)) rfl rfl ⟨o,ho,hc,hd⟩
section
open AutoSeq1 (wpAny_loadPart')
variable {prog:Program}{w:World}{A:Around}{E:Value->Shared->Prop}{s:Shared}
end
section
variable {X:Cx}
end
section
variable {prog:Program}{w:World}{A:Around}{E:Value->Shared->Prop}{s:Shared}
end
section
variable {prog:Program}{w:World}{A:Around}{E:Value->Shared->Prop}{s:Shared}
end
section
variable {X:Cx}
end
section
end
section
variable {X:Cx}
end
section
variable {prog:Program}{w:World}{A:Around}{E:Value->Shared->Prop}{s:Shared}
end
section
variable {X:Cx}
end
section
variable {X:Cx}
end
section
variable {X:Cx}
end
section
variable {prog:Program}{w:World}{A:Around}{E:Value->Shared->Prop}{s:Shared}
end
section
variable {prog:Program}{w:World}{A:Around}{E:Value->Shared->Prop}{s:Shared}
end
section
variable {prog:Program}{w:World}{A:Around}{E:Value->Shared->Prop}{s:Shared}
end
section
variable {prog:Program}{w:World}{A:Around}{s:Shared}
end
section
variable {prog:Program}{w:World}{A:Around}{E:Value->Shared->Prop}{s:Shared}
end
end My
namespace Dp
open PySem PySem.Spec PyProof.Rows L2 My
def isStar:Expr->Bool
 | .Starred _ _=>true
 | _=>false
theorem zao {e:Expr}{es:List Expr}{env:Env}(h:isStar e=false):starEach (e::es) env=(false,eval e env)::starEach es env:=by
  cases e<;>first | rfl | cases h
theorem za2 {pos:Pos}{env:Env}:∀ {es:List Expr},es.all (fun e=>!isStar e)=true->(backTo pos (starEach es env)).any (·.1)=false
 | [],_=>rfl
 | e::es,h=>by
  rw [List.all_cons,Bool.and_eq_true] at h
  rw [zao (by simpa using h.1)]
  show (false||(backTo pos (starEach es env)).any (·.1))=false
  rw [za2 h.2];rfl
theorem zdw {e:Expr}{env:Env}(h:isStar e=false):starEach [e] env=[(false,eval e env)]:=zao h
def zcn (K:PySem.W.Frag)(H:Hp)(a:Addr)(xs:List V):Prop :=
 (∃ o,H a=some (.frz o (.lst xs)))\/∃ (o:Obj) (its:Array Value) (n:Nat),K.lookup a=some o/\o.cls=.type "list"/\o.dict=none/\o.data=.seq its n/\its.size<=sizeLine/\Vals xs its.toList
theorem zcn.sq {K:PySem.W.Frag}{H:Hp}{a:Addr}{xs:List V}(h:zcn K H a xs):SqL K H a xs:=h.imp (fun h=>.inr h) id
mutual
inductive Rel (K:PySem.W.Frag)(ad:List Addr)(H:Hp):D->V->Prop
 | non:Rel K ad H .non .non
 | bl (b:Bool):Rel K ad H (.bl b) (.bl b)
 | int (i:Int):Rel K ad H (.int i) (.int i)
 | str (x:Str):Rel K ad H (.str x) (.str x)
 | ty (n:String):Rel K ad H (.ty n) (.ty n)
 | tup {a:Addr} {vs:List V} {ds:List D}:H a=some (.tup vs)->za K ad H ds vs->Rel K ad H (.tup ds) (.ref a)
 | rl {a:Addr} {vs:List V} {ds:List D}:zcn K H a vs->za K ad H ds vs->Rel K ad H (.rl ds) (.ref a)
 | ref {n:Nat} {a:Addr}:ad[n]?=some a->Rel K ad H (.ref n) (.ref a)
 | exn {c:Str} {a C:Addr} {o:Obj} {u:HO}:H a=some (.frz o u)->o.cls=.ref C->PySem.W.nsIn K mainGlobals c=some (some (.ref C))->Rel K ad H (.exn c) (.ref a)
inductive za (K:PySem.W.Frag)(ad:List Addr)(H:Hp):List D->List V->Prop
 | nil:za K ad H [] []
 | cons {d:D} {v:V} {ds:List D} {vs:List V}:Rel K ad H d v->za K ad H ds vs->za K ad H (d::ds) (v::vs)
end
structure Wd (ad:List Addr)(H:Hp)(ad':List Addr)(H':Hp):Prop where
 pre:ad <+: ad'
 keep:∀ b o,b∉ad->H b=some o->H' b=some o
 tup:∀ b xs,H b=some (.tup xs)->H' b=some (.tup xs)
 frz:∀ b o u,H b=some (.frz o u)->H' b=some (.frz o u)
 new:∀ b,b∈ad'->b∉ad->H b=none
theorem Wd.refl {ad:List Addr}{H:Hp}:Wd ad H ad H:=⟨List.prefix_refl _,fun _ _ _ h=>h,fun _ _ h=>h,fun _ _ _ h=>h,fun _ h n=>absurd h n⟩
theorem Wd.trans {ad ad1 ad2:List Addr}{H H1 H2:Hp}(a:Wd ad H ad1 H1)(b:Wd ad1 H1 ad2 H2):Wd ad H ad2 H2 where
 pre:=a.pre.trans b.pre
 keep:=fun c o hc h=>b.keep c o (fun h1=>by rw [a.new c h1 hc] at h;cases h) (a.keep c o hc h)
 tup:=fun c xs h=>b.tup c xs (a.tup c xs h)
 frz:=fun c o u h=>b.frz c o u (a.frz c o u h)
 new:=fun c h2 hc=>by
  by_cases h1:c∈ad1
  ·exact a.new c h1 hc
  ·have n1:=b.new c h2 h1
   cases e:H c with
   | none=>rfl
   | some o=>rw [a.keep c o hc e] at n1;cases n1
theorem zeh {α:Type}{l l':List α}(h:l <+: l'){n:Nat}{a:α}(e:l[n]?=some a):l'[n]?=some a:=by
 obtain⟨t,rfl⟩:=h
 rw [List.getElem?_append_left (My.zak e)];exact e
structure Wr (ad:List Addr)(H:Hp)(ad':List Addr)(H':Hp):Prop where
 pre:ad <+: ad'
 tup:∀ b xs,H b=some (.tup xs)->H' b=some (.tup xs)
 frz:∀ b o u,H b=some (.frz o u)->H' b=some (.frz o u)
theorem Wd.wr {ad ad':List Addr}{H H':Hp}(w:Wd ad H ad' H'):Wr ad H ad' H':=⟨w.pre,w.tup,w.frz⟩
theorem zcn.wr {K:PySem.W.Frag}{ad ad':List Addr}{H H':Hp}{a:Addr}{xs:List V}(w:Wr ad H ad' H')(h:zcn K H a xs):zcn K H' a xs:=h.imp (fun⟨o,e⟩=>⟨o,w.frz _ _ _ e⟩) id
mutual
theorem Rel.wr {K:PySem.W.Frag}{ad ad':List Addr}{H H':Hp}(w:Wr ad H ad' H'):∀ {d:D} {v:V},Rel K ad H d v->Rel K ad' H' d v
 | _,_,.non=>.non
 | _,_,.bl b=>.bl b
 | _,_,.int i=>.int i
 | _,_,.str x=>.str x
 | _,_,.ty n=>.ty n
 | _,_,.tup h r=>.tup (w.tup _ _ h) (za.wr w r)
 | _,_,.rl h r=>.rl (h.wr w) (za.wr w r)
 | _,_,.ref h=>.ref (zeh w.pre h)
 | _,_,.exn h e n=>.exn (w.frz _ _ _ h) e n
theorem za.wr {K:PySem.W.Frag}{ad ad':List Addr}{H H':Hp}(w:Wr ad H ad' H'):∀ {ds:List D} {vs:List V},za K ad H ds vs->za K ad' H' ds vs
 | _,_,.nil=>.nil
 | _,_,.cons r t=>.cons (Rel.wr w r) (za.wr w t)
end
theorem Rel.wd {K:PySem.W.Frag}{ad ad':List Addr}{H H':Hp}{d:D}{v:V}(r:Rel K ad H d v)(w:Wd ad H ad' H'):Rel K ad' H' d v:=Rel.wr w.wr r
theorem za.wd {K:PySem.W.Frag}{ad ad':List Addr}{H H':Hp}{ds:List D}{vs:List V}(r:za K ad H ds vs)(w:Wd ad H ad' H'):za K ad' H' ds vs:=za.wr w.wr r
section
variable {K:PySem.W.Frag}{ad:List Addr}{H:Hp}
theorem za.length:∀ {ds:List D} {vs:List V},za K ad H ds vs->ds.length=vs.length
  | _,_,.nil=>rfl
  | _,_,.cons _ t=>congrArg (· + 1) (za.length t)
theorem za.get:∀ {ds:List D} {vs:List V} {i:Nat} {d:D},za K ad H ds vs->ds[i]?=some d->∃ v,vs[i]?=some v/\Rel K ad H d v
 | _,_,_,_,.nil,e=>by simp at e
 | _,_,0,_,.cons r _,e=>by simp at e;subst e;exact⟨_,rfl,r⟩
 | _,_,i+1,d,.cons _ t,e=>by
  obtain⟨v,h1,h2⟩:=za.get (i:=i) (d:=d) t (by simpa using e)
  exact⟨v,by simpa using h1,h2⟩
theorem za.append:∀ {ds es:List D} {vs us:List V},za K ad H ds vs->za K ad H es us->za K ad H (ds++es) (vs++us)
 | _,_,_,_,.nil,s=>s
 | _,_,_,_,.cons r t,s=>.cons r (za.append t s)
theorem za.take:∀ {ds:List D} {vs:List V} (n:Nat),za K ad H ds vs->za K ad H (ds.take n) (vs.take n)
 | _,_,0,_=>.nil
 | _,_,_+1,.nil=>.nil
 | _,_,n+1,.cons r t=>.cons r (za.take n t)
theorem za.drop:∀ {ds:List D} {vs:List V} (n:Nat),za K ad H ds vs->za K ad H (ds.drop n) (vs.drop n)
 | _,_,0,r=>r
 | _,_,_+1,.nil=>.nil
 | _,_,n+1,.cons _ t=>za.drop n t
theorem za.bls:∀ {ns:List Bool} {vs:List V},za K ad H (ns.map D.bl) vs->vs=ns.map V.bl
 | [],_,.nil=>rfl
 | n::ns,_,.cons r t=>by cases r;rw [za.bls t];rfl
theorem za.mk_ints:∀ (ns:List Int),za K ad H (ns.map D.int) (ns.map V.int)
 | []=>.nil
 | n::ns=>.cons (.int n) (za.mk_ints ns)
end
inductive zav (K:PySem.W.Frag)(ad:List Addr)(H:Hp):List (Str×D)->List (Str×V)->Prop
 | nil:zav K ad H [] []
 | cons {f:Str} {d:D} {v:V} {fs:List (Str×D)} {vs:List (Str×V)}:Rel K ad H d v->zav K ad H fs vs->zav K ad H ((f,d)::fs) ((f,v)::vs)
theorem zav.wr {K:PySem.W.Frag}{ad ad':List Addr}{H H':Hp}(w:Wr ad H ad' H'):∀ {fs:List (Str×D)} {vs:List (Str×V)},zav K ad H fs vs->zav K ad' H' fs vs
 | _,_,.nil=>.nil
 | _,_,.cons r t=>.cons (Rel.wr w r) (zav.wr w t)
inductive RelK (K:PySem.W.Frag)(ad:List Addr)(H:Hp):List (Str×D)->List (Key×V)->Prop
 | nil:RelK K ad H [] []
 | cons {x:Str} {d:D} {v:V} {fs:List (Str×D)} {vs:List (Key×V)}:Rel K ad H d v->RelK K ad H fs vs->RelK K ad H ((x,d)::fs) ((.inr x,v)::vs)
inductive zaw (K:PySem.W.Frag)(ad:List Addr)(H:Hp):List (List Key×D)->List (List Key×V)->Prop
 | nil:zaw K ad H [] []
 | cons {x:List Key} {d:D} {v:V} {fs:List (List Key×D)} {vs:List (List Key×V)}:Rel K ad H d v->zaw K ad H fs vs->zaw K ad H ((x,d)::fs) ((x,v)::vs)
theorem RelK.wr {K:PySem.W.Frag}{ad ad':List Addr}{H H':Hp}(w:Wr ad H ad' H'):∀ {fs:List (Str×D)} {vs:List (Key×V)},RelK K ad H fs vs->RelK K ad' H' fs vs
 | _,_,.nil=>.nil
 | _,_,.cons r t=>.cons (Rel.wr w r) (RelK.wr w t)
theorem zaw.wr {K:PySem.W.Frag}{ad ad':List Addr}{H H':Hp}(w:Wr ad H ad' H'):∀ {fs:List (List Key×D)} {vs:List (List Key×V)},zaw K ad H fs vs->zaw K ad' H' fs vs
 | _,_,.nil=>.nil
 | _,_,.cons r t=>.cons (Rel.wr w r) (zaw.wr w t)
def zat (K:PySem.W.Frag)(ad:List Addr)(H:Hp)(a:Addr):Cell->Prop
 | .lst ds=>∃ vs,H a=some (.lst vs)/\za K ad H ds vs
 | .ins c fs=>∃ C dx vs,H a=some (.ins C dx vs)/\Cls K C/\PySem.W.nsIn K mainGlobals c=some (some (.ref C))/\zav K ad H fs vs/\∀ q∈fs,zhC K C q.1
 | .dk kvs=>∃ vs,H a=some (.dK vs)/\RelK K ad H kvs vs
 | .dt kvs=>∃ vs,H a=some (.dT vs)/\zaw K ad H kvs vs
class Bs where
 ad:List Addr
 H:Hp
structure zf [B:Bs](K:PySem.W.Frag)(ad:List Addr)(H:Hp)(S:Sto):Prop where
 wd:Wd B.ad B.H ad H
 len:ad.length=S.length
 nd:ad.Nodup
 cell:∀ (n:Nat) (a:Addr) (c:Cell),ad[n]?=some a->S[n]?=some c->zat K ad H a c
structure zH (K:PySem.W.Frag)(ad:List Addr)(H:Hp)(ρ:Rho)(σ:L2.St):Prop where
 len:ρ.length=σ.length
 val:∀ (i:Nat) (d:D),ρ[i]?=some (some d)->∃ v,σ[i]?=some (some v)/\Rel K ad H d v
theorem zH.wd {K:PySem.W.Frag}{ad ad':List Addr}{H H':Hp}{ρ:Rho}{σ:L2.St}(h:zH K ad H ρ σ)(w:Wd ad H ad' H'):zH K ad' H' ρ σ :=
 ⟨h.len,fun i d e=>let ⟨v,e',r⟩:=h.val i d e;⟨v,e',r.wd w⟩⟩
variable [B:Bs]
section
variable {K:PySem.W.Frag}{ad:List Addr}{H:Hp}{S:Sto}
theorem zf.get (st:zf K ad H S){n:Nat}{c:Cell}(h:S[n]?=some c):∃ a,ad[n]?=some a/\zat K ad H a c:=by
 have hn:n<ad.length:=by rw [st.len];exact My.zak h
 exact⟨ad[n],List.getElem?_eq_getElem hn,st.cell n _ c (List.getElem?_eq_getElem hn) h⟩
theorem zat.some {a:Addr}{c:Cell}(h:zat K ad H a c):∃ o,H a=some o:=by
 cases c with
 | lst ds=>obtain⟨vs,e,_⟩:=h;exact⟨_,e⟩
 | ins c fs=>obtain⟨C,dx,vs,e,_⟩:=h;exact⟨_,e⟩
 | dk kvs=>obtain⟨vs,e,_⟩:=h;exact⟨_,e⟩
 | dt kvs=>obtain⟨vs,e,_⟩:=h;exact⟨_,e⟩
theorem zf.there (st:zf K ad H S){a:Addr}(h:a∈ad):∃ o,H a=some o:=by
 obtain⟨n,hn,e⟩:=List.mem_iff_getElem.mp h
 have e':ad[n]?=some a:=by rw [List.getElem?_eq_getElem hn,e]
 have hs:n<S.length:=by rw [<- st.len];exact hn
 exact (st.cell n a S[n] e' (List.getElem?_eq_getElem hs)).some
theorem zf.fresh (st:zf K ad H S){l:Addr}(h:H l=none):l∉ad:=fun m=>by
 obtain⟨o,e⟩:=st.there m
 rw [h] at e;cases e
theorem zat.wr {ad':List Addr}{H':Hp}{a:Addr}{c:Cell}(h:zat K ad H a c)(w:Wr ad H ad' H')(same:H' a=H a):zat K ad' H' a c:=by
 cases c with
 | lst ds=>obtain⟨vs,e,r⟩:=h;exact⟨vs,same.trans e,za.wr w r⟩
 | ins c fs=>obtain⟨C,dx,vs,e,c1,c2,r,n⟩:=h;exact⟨C,dx,vs,same.trans e,c1,c2,zav.wr w r,n⟩
 | dk kvs=>obtain⟨vs,e,r⟩:=h;exact⟨vs,same.trans e,RelK.wr w r⟩
 | dt kvs=>obtain⟨vs,e,r⟩:=h;exact⟨vs,same.trans e,zaw.wr w r⟩
theorem zat.wd {ad':List Addr}{H':Hp}{a:Addr}{c:Cell}(h:zat K ad H a c)(w:Wd ad H ad' H')(same:H' a=H a):zat K ad' H' a c:=h.wr w.wr same
theorem Wd.laid {l:Addr}{o:HO}(h:H l=none):Wd ad H ad (upd H l o) :=
 ⟨List.prefix_refl _,fun b u _ e=>zbh h e,fun b u e=>zbh h e,fun b u w e=>zbh h e,fun _ m n=>absurd m n⟩
theorem zf.bfree (st:zf K ad H S){p:Addr}(h:H p=none):B.H p=none:=by
 cases e:B.H p with
 | none=>rfl
 | some o =>
  by_cases m:p∈B.ad
  ·obtain⟨u,hu⟩:=st.there (st.wd.pre.subset m)
   rw [h] at hu;cases hu
  ·rw [st.wd.keep p o m e] at h;cases h
theorem zf.laid (st:zf K ad H S){l:Addr}{o:HO}(h:H l=none):zf K ad (upd H l o) S :=
 ⟨st.wd.trans (Wd.laid h),st.len,st.nd,fun n a c e1 e2=>(st.cell n a c e1 e2).wd (Wd.laid h) (by
  obtain⟨u,e⟩:=(st.cell n a c e1 e2).some
  rw [zbh h e,e])⟩
theorem Wd.newL (st:zf K ad H S){l:Addr}{o:HO}(h:H l=none):Wd ad H (ad++[l]) (upd H l o) :=
 ⟨List.prefix_append _ _,fun b u _ e=>zbh h e,fun b u e=>zbh h e,fun b u w e=>zbh h e,fun b m n=>by
  rcases List.mem_append.mp m with m | m
  ·exact absurd m n
  ·have:b=l:=by simpa using m
   subst this;exact h⟩
theorem zf.newL (st:zf K ad H S){l:Addr}{vs:List V}{ds:List D}(h:H l=none)(r:za K ad H ds vs):zf K (ad++[l]) (upd H l (.lst vs)) (S++[.lst ds]) where
 wd:=st.wd.trans (Wd.newL st h)
 len:=by rw [List.length_append,List.length_append,st.len];rfl
 nd:=by
  rw [List.nodup_append]
  refine⟨st.nd,by simp,fun a ha b hb e=>?_⟩
  have:b=l:=by simpa using hb
  subst this;subst e
  exact st.fresh h ha
 cell:=fun n a c e1 e2=>by
  by_cases hn:n<ad.length
  ·rw [List.getElem?_append_left hn] at e1
   rw [List.getElem?_append_left (by rw [<- st.len];exact hn)] at e2
   have ok:=st.cell n a c e1 e2
   obtain⟨u,e⟩:=ok.some
   exact ok.wd (Wd.newL st h) (by rw [zbh h e,e])
  ·have hn':ad.length<=n:=Nat.le_of_not_lt hn
   rw [List.getElem?_append_right hn'] at e1
   rw [List.getElem?_append_right (by rw [<- st.len];exact hn'),<- st.len] at e2
   cases hk:n-ad.length with
   | zero =>
    rw [hk] at e1 e2
    have e1':l=a:=by simpa using e1
    have e2':Cell.lst ds=c:=by simpa using e2
    subst e1' e2'
    exact⟨vs,zam,r.wd (Wd.newL st h)⟩
   | succ k=>rw [hk] at e1;simp at e1
theorem zf.newRef (st:zf K ad H S){l:Addr}{o:HO}:Rel K (ad++[l]) (upd H l o) (.ref S.length) (.ref l):=.ref (by rw [<- st.len,List.getElem?_append_right (Nat.le_refl _),Nat.sub_self];rfl)
theorem Wd.hid {ad':List Addr}{H':Hp}{p:Addr}{o:HO}(w:Wd ad H ad' H')(hp:H p=none):Wd ad H ad' (upd H' p o) :=
 ⟨w.pre,fun b u hb q=>by rw [zE (zV q hp)];exact w.keep b u hb q,fun b u q=>by rw [zE (zV q hp)];exact w.tup b u q,fun b u v q=>by rw [zE (zV q hp)];exact w.frz b u v q,w.new⟩
theorem Wr.hid {p:Addr}{vs ws:List V}(h:H p=some (.lst vs)):Wr ad H ad (upd H p (.lst ws)) :=
 ⟨List.prefix_refl _,fun b xs q=>by rw [zE (zgr q h (by intro z;cases z))];exact q,fun b o u q=>by rw [zE (zgr q h (by intro z;cases z))];exact q⟩
theorem zf.hid (st:zf K ad H S){p:Addr}{vs ws:List V}(h:H p=some (.lst vs))(hp:p∉ad)(hb:B.H p=none):zf K ad (upd H p (.lst ws)) S :=
 ⟨st.wd.hid hb,st.len,st.nd,fun n a c e1 e2=>(st.cell n a c e1 e2).wr (Wr.hid h) (zE fun z=>hp (by rw [<- z];exact List.mem_of_getElem? e1))⟩
theorem Wd.add {ad':List Addr}{H':Hp}{p:Addr}(w:Wd ad H ad' H')(hp:H p=none):Wd ad H (ad'++[p]) H' :=
 ⟨w.pre.trans (List.prefix_append _ _),w.keep,w.tup,w.frz,fun b m n=>by
  rcases List.mem_append.mp m with m | m
  ·exact w.new b m n
  ·have:b=p:=by simpa using m
   subst this;exact hp⟩
theorem zf.add (st:zf K ad H S){p:Addr}{vs:List V}{ds:List D}(h:H p=some (.lst vs))(hp:p∉ad)(r:za K ad H ds vs)(hb:B.H p=none):zf K (ad++[p]) H (S++[.lst ds]) where
 wd:=st.wd.add hb
 len:=by rw [List.length_append,List.length_append,st.len];rfl
 nd:=by
  rw [List.nodup_append]
  refine⟨st.nd,by simp,fun a ha b hb e=>?_⟩
  have:b=p:=by simpa using hb
  subst this;subst e
  exact hp ha
 cell:=fun n a c e1 e2=>by
  have w:Wr ad H (ad++[p]) H:=⟨List.prefix_append _ _,fun _ _ q=>q,fun _ _ _ q=>q⟩
  by_cases hn:n<ad.length
  ·rw [List.getElem?_append_left hn] at e1
   rw [List.getElem?_append_left (by rw [<- st.len];exact hn)] at e2
   exact (st.cell n a c e1 e2).wr w rfl
  ·have hn':ad.length<=n:=Nat.le_of_not_lt hn
   rw [List.getElem?_append_right hn'] at e1
   rw [List.getElem?_append_right (by rw [<- st.len];exact hn'),<- st.len] at e2
   cases hk:n-ad.length with
   | zero =>
    rw [hk] at e1 e2
    have e1':p=a:=by simpa using e1
    have e2':Cell.lst ds=c:=by simpa using e2
    subst e1' e2'
    exact⟨vs,h,za.wr w r⟩
   | succ k=>rw [hk] at e1;simp at e1
theorem Lst.sq (st:zf K ad H S){x:D}{xs:List D}{v:V}(h:Lst S x xs)(r:Rel K ad H x v):∃ a vs,v=.ref a/\SqL K H a vs/\za K ad H xs vs:=by
 rcases h with rfl | ⟨n,rfl,h⟩
 ·cases r with
  | rl h r=>exact⟨_,_,rfl,h.sq,r⟩
 ·cases r with
  | ref e =>
   obtain⟨vs,e2,r⟩:=st.cell n _ _ e h
   exact⟨_,vs,rfl,SqL.of e2,r⟩
theorem zcQ.sq (st:zf K ad H S){x:D}{xs:List D}{v:V}(h:zcQ S x xs)(r:Rel K ad H x v):∃ a vs,v=.ref a/\(SqL K H a vs\/SqT K H a vs)/\za K ad H xs vs:=by
 rcases h with rfl | h
 ·cases r with
  | tup h r=>exact⟨_,_,rfl,.inr (SqT.of h),r⟩
 ·obtain⟨a,vs,e,s,r⟩:=Lst.sq st h r
  exact⟨a,vs,e,.inl s,r⟩
end
omit B in
theorem el8 {a b c d:Type}{p1 p2 p3 p4:a->b->c->d->Prop}{R:Prop}(h:∃ (x:a) (y:b) (z:c) (w:d),p1 x y z w/\p2 x y z w/\p3 x y z w/\p4 x y z w)(f:∀ (x:a) (y:b) (z:c) (w:d),p1 x y z w->p2 x y z w->p3 x y z w->p4 x y z w->R):R :=
 Exists.elim h fun x h=>Exists.elim h fun y h=>Exists.elim h fun z h=>Exists.elim h fun w h=>f x y z w h.1 h.2.1 h.2.2.1 h.2.2.2
def KK (K:PySem.W.Frag)(ad:List Addr)(H:Hp)(Q0:DK)(Q:VK):Prop:=∀ d S' v H' ad',Q0 d S'->Wd ad H ad' H'->zf K ad' H' S'->Rel K ad' H' d v->Q v H'
theorem KK.wd {K:PySem.W.Frag}{ad ad':List Addr}{H H':Hp}{Q0:DK}{Q:VK}(k:KK K ad H Q0 Q)(w:Wd ad H ad' H'):KK K ad' H' Q0 Q:=fun d S' v H' ad' q w'=>k d S' v H' ad' q (w.trans w')
def up (K:PySem.W.Frag)(t:DE):TE:=fun σ H Q=>∃ ad ρ S Q0,zf K ad H S/\zH K ad H ρ σ/\t ρ S Q0/\KK K ad H Q0 Q
def upT (K:PySem.W.Frag)(t:DT):TT:=fun σ H Q=>∃ ad ρ S Q0,zf K ad H S/\zH K ad H ρ σ/\t ρ S Q0/\∀ b S' H' ad',Q0 b S'->Wd ad H ad' H'->zf K ad' H' S'->Q b H'
def upA (K:PySem.W.Frag)(t:DA):TA:=fun σ H Q=>∃ ad ρ S Q0,zf K ad H S/\zH K ad H ρ σ/\t ρ S Q0/\∀ ds S' vs H' ad',Q0 ds S'->Wd ad H ad' H'->zf K ad' H' S'->za K ad' H' ds vs->Q vs H'
theorem zf.base {K:PySem.W.Frag}{ad:List Addr}{H:Hp}{S:Sto}(st:zf K ad H S):@zf ⟨ad,H⟩ K ad H S:=@zf.mk ⟨ad,H⟩ _ _ _ _ Wd.refl st.len st.nd st.cell
theorem zf.back {K:PySem.W.Frag}{ad ad':List Addr}{H H':Hp}{S S':Sto}(st:zf K ad H S)(st':@zf ⟨ad,H⟩ K ad' H' S'):zf K ad' H' S' :=
 ⟨st.wd.trans (@zf.wd ⟨ad,H⟩ _ _ _ _ st'),@zf.len ⟨ad,H⟩ _ _ _ _ st',@zf.nd ⟨ad,H⟩ _ _ _ _ st',@zf.cell ⟨ad,H⟩ _ _ _ _ st'⟩
theorem KK.base {K:PySem.W.Frag}{ad:List Addr}{H:Hp}{S:Sto}{Q0:DK}{Q:VK}(st:zf K ad H S)(k:KK K ad H Q0 Q):@KK ⟨ad,H⟩ K ad H Q0 Q:=fun d S' v H' ad' q w st' r=>k d S' v H' ad' q w (st.back st') r
def upF (K:PySem.W.Frag)(f:DSp):Sp:=fun vs H Q _=>∃ ad S ds Q0,@zf ⟨ad,H⟩ K ad H S/\za K ad H ds vs/\f ds S Q0/\@KK ⟨ad,H⟩ K ad H Q0 Q
structure zaR (K:PySem.W.Frag)(ad:List Addr)(H:Hp)(E0:zdh)(E:Ends):Prop where
 nx:∀ ρ S σ H' ad',E0.nx ρ S->Wd ad H ad' H'->zf K ad' H' S->zH K ad' H' ρ σ->E.nx σ H'
 rt:KK K ad H E0.rt E.rt
 bk:∀ ρ S σ H' ad',E0.bk ρ S->Wd ad H ad' H'->zf K ad' H' S->zH K ad' H' ρ σ->E.bk σ H'
 ct:∀ ρ S σ H' ad',E0.ct ρ S->Wd ad H ad' H'->zf K ad' H' S->zH K ad' H' ρ σ->E.ct σ H'
theorem zaR.wd {K:PySem.W.Frag}{ad ad':List Addr}{H H':Hp}{E0:zdh}{E:Ends}(k:zaR K ad H E0 E)(w:Wd ad H ad' H'):zaR K ad' H' E0 E :=
 ⟨fun ρ S σ H' ad' q w'=>k.nx ρ S σ H' ad' q (w.trans w'),k.rt.wd w,fun ρ S σ H' ad' q w'=>k.bk ρ S σ H' ad' q (w.trans w'),fun ρ S σ H' ad' q w'=>k.ct ρ S σ H' ad' q (w.trans w')⟩
def upS (K:PySem.W.Frag)(t:DS):TS:=fun E σ H=>∃ ad ρ S E0,zf K ad H S/\zH K ad H ρ σ/\t E0 ρ S/\zaR K ad H E0 E
@[irreducible] def PD (X:Cx)(e:Expr)(t:DE):Prop:=PE X e (up X.K t)
@[irreducible] def PTD (X:Cx)(e:Expr)(t:DT):Prop:=PT X e (upT X.K t)
@[irreducible] def PWD (X:Cx)(e:Expr)(t:DT):Prop:=PW X e (upT X.K t)
@[irreducible] def PAD (X:Cx)(es:List Expr)(t:DA):Prop:=PA X es (upA X.K t)
@[irreducible] def PSD (X:Cx)(st:Stmt)(t:DS):Prop:=PS X st (upS X.K t)
@[irreducible] def zaY (X:Cx)(st:List Stmt)(t:DS):Prop:=PSs X st (upS X.K t)
theorem zhu {X:Cx}{e:Expr}{t t':TE}(h:PE X e t)(m:∀ σ H Q,t' σ H Q->t σ H Q):PE X e t':=fun pins s σ H Q I q=>h pins s σ H Q I (m σ H Q q)
theorem zb0 {X:Cx}{e:Expr}{t t':TT}(h:PT X e t)(m:∀ σ H Q,t' σ H Q->t σ H Q):PT X e t':=fun pins s σ H Q I q=>h pins s σ H Q I (m σ H Q q)
theorem zer {X:Cx}{e:Expr}{t t':TT}(h:PW X e t)(m:∀ σ H Q,t' σ H Q->t σ H Q):PW X e t':=fun wh pins s σ H Q I q=>h wh pins s σ H Q I (m σ H Q q)
theorem zex {X:Cx}{e:List Expr}{t t':TA}(h:PA X e t)(m:∀ σ H Q,t' σ H Q->t σ H Q):PA X e t':=fun pos pins s σ H Q I q=>h pos pins s σ H Q I (m σ H Q q)
theorem zaH {X:Cx}{st:Stmt}{t t':TS}(h:PS X st t)(m:∀ D σ H,t' D σ H->t D σ H):PS X st t':=fun pins s σ H D I q=>h pins s σ H D I (m D σ H q)
theorem zd3 {X:Cx}{st:List Stmt}{t t':TS}(h:PSs X st t)(m:∀ D σ H,t' D σ H->t D σ H):PSs X st t':=fun pins s σ H D I q=>h pins s σ H D I (m D σ H q)
section
variable {X:Cx}{a b c:Expr}{ta tb tc:DE}{pos:Pos}
theorem z8 {e:Expr}{t:TE}{d:DE}(h:PE X e t)(m:∀ σ H Q,up X.K d σ H Q->t σ H Q):PD X e d:=by with_unfolding_all exact (zhu h m)
theorem zcF {e:Expr}{i:Nat}(h:PE X e (zf3 i)):PD X e (zj i):=by with_unfolding_all exact (z8 h fun σ H Q ⟨ad,ρ,S,Q0,st,rh,⟨d,e,q⟩,k⟩=>by
 obtain⟨v,ev,r⟩:=rh.val i d e
 exact⟨v,ev,k d S v H ad q Wd.refl st r⟩)
theorem zcf {e:Expr}{v:V}{d:D}(h:PE X e (tC v))(r:∀ ad H,Rel X.K ad H d v):PD X e (dC d):=by with_unfolding_all exact (z8 h fun σ H Q hh=>el8 hh fun ad ρ S Q0 st rh q k=>k d S v H ad q Wd.refl st (r _ _))
theorem zp {i j}:PD X (.Constant (.int i) j pos) (dC (.int i)):=by with_unfolding_all exact (zcf zdY fun _ _=>.int i)
theorem zaT {b j}:PD X (.Constant (.bool b) j pos) (dC (.bl b)):=by with_unfolding_all exact (zcf ziX fun _ _=>.bl b)
theorem zG {x j}:PD X (.Constant (.str x) j pos) (dC (.str x)):=by with_unfolding_all exact (zcf zhA fun _ _=>.str x)
theorem zgq {x:Str}{T:String}(hg:Gl X x)(hm:X.mg x=none)(hv:bootBuiltins x=some (.type T))(hn:x≠"__name__":=by decide)(hd:(x==("__debug__":Str))=false:=by decide):PD X (.Name x pos) (dC (.ty T)):=by with_unfolding_all exact (zcf (zji hg hm hv hn hd) fun _ _=>.ty T)
theorem zgV {x:Str}{n:Int}(hg:Gl X x)(hm:∃ t,X.mg x=some (.int n t))(hd:(x==("__debug__":Str))=false:=by decide):PD X (.Name x pos) (dC (.int n)):=by with_unfolding_all exact (zcf (zgQ hg hm hd) fun _ _=>.int n)
theorem zgU {x z:Str}(hg:Gl X x)(hm:∃ t,X.mg x=some (.str z t))(hd:(x==("__debug__":Str))=false:=by decide):PD X (.Name x pos) (dC (.str z)):=by with_unfolding_all exact (zcf (by obtain⟨t,hm⟩:=hm;exact zew (v:=.str z) hg hm ⟨t,rfl⟩ hd) fun _ _=>.str z)
theorem zef {i j:Int}{m n:Nat}{p1 p2:Pos}(c:Int)(h:i ^ j.toNat=c)(h0:0<=j/\j<=1000000/\i.natAbs<2 ^ 64):PD X (.BinOp (.Constant (.int i) m p1) .Pow (.Constant (.int j) n p2) pos) (dC (.int c)):=by with_unfolding_all exact (zcf (zhy c h h0) fun _ _=>.int c)
def OD (K:PySem.W.Frag)(r':DR2)(r:R2):Prop:=∀ ad H S x y v u Q0 Q,zf K ad H S->Rel K ad H x v->Rel K ad H y u->r' x y S Q0->KK K ad H Q0 Q->r v u H Q
theorem zbY {K:PySem.W.Frag}{r':DR2}{r:R2}(o:OD K r' r){σ:L2.St}{H:Hp}{Q:VK}(h:up K (dOp r' ta tb) σ H Q):tOp r (up K ta) (up K tb) σ H Q:=by
 obtain⟨ad,ρ,S,Q0,st,rh,q,k⟩:=h
 refine⟨ad,ρ,S,_,st,rh,q,fun x S1 v H1 ad1 q1 w1 st1 r1=>?_⟩
 refine⟨ad1,ρ,S1,_,st1,rh.wd w1,q1,fun y S2 u H2 ad2 q2 w2 st2 r2=>?_⟩
 exact o ad2 H2 S2 x y v u Q0 Q st2 (r1.wd w2) r2 q2 (k.wd (w1.trans w2))
theorem zcr {op:Operator}{r':DR2}{r:R2}(ho:OpR X (binaryOp op) r)(o:OD X.K r' r)(ha:PD X a ta)(hb:PD X b tb):PD X (.BinOp a op b pos) (dOp r' ta tb):=by with_unfolding_all exact (z8 (zgv ho ha hb) fun _ _ _=>zbY o)
theorem zeR {K:PySem.W.Frag}{C C':Int->Int->Prop}{g:Int->Int->D}{g':Int->Int->V}(hc:∀ i j,C i j->C' i j)(hg:∀ ad H i j,Rel K ad H (g i j) (g' i j)):OD K (oI C g) (rI C' g'):=fun ad H S x y v u Q0 Q st rx ry ⟨i,j,ex,ey,c,q⟩ k=>by
 subst ex ey
 cases rx
 cases ry
 exact⟨i,j,rfl,rfl,hc i j c,k _ S _ H ad q Wd.refl st (hg ad H i j)⟩
theorem zeF {K:PySem.W.Frag}{g:Int->Int->D}{g':Int->Int->V}(hg:∀ ad H i j,Rel K ad H (g i j) (g' i j)):OD K (oI0 g) (rI0 g'):=fun ad H S x y v u Q0 Q st rx ry ⟨i,j,ex,ey,q⟩ k=>by
 subst ex ey
 cases rx
 cases ry
 exact⟨i,j,rfl,rfl,k _ S _ H ad q Wd.refl st (hg ad H i j)⟩
theorem ze9 {i:Int}(h:i.natAbs<2 ^ 64):-(2 ^ 64)<i/\i<2 ^ 64:=⟨by omega,by omega⟩
def zje (i j:Int):Prop:=zca i j
theorem zgA:OpR X (binaryOp .Mult) (rI zje fun i j=>.int (i*j)):=opI fun i j _ _ _ _ _ hc q=>by
 rcases hc with h | h | h
 ·exact mul_int q (IntMulOk.of_bits (zcp h.1) (zcp h.2))
 ·exact mul_int q (zeW.ok (.inl (ze9 h)))
 ·exact mul_int q (zeW.ok (.inr (ze9 h)))
theorem zd0 (ha:PD X a ta)(hb:PD X b tb):PD X (.BinOp a .Sub b pos) (dOp zdH ta tb):=by with_unfolding_all exact (zcr ziK (zeF fun _ _ i j=>.int (i-j)) ha hb)
theorem zh5 {z:Str}{n:Int}(hz:z.length<=1000)(h0:-1000<=n)(h1:n<=1000):MulOk z n:=by
 refine⟨?_,fun _ _=>?_,fun h _=>?_⟩
 ·rw [decide_eq_false (by omega),decide_eq_false (by omega)];rfl
 ·have:(1000:Int)<=(2 ^ 63-1)/n\/n<1:=by
   rcases Int.lt_or_le n 1 with g | g
   ·exact .inr g
   ·exact .inl ((Int.le_ediv_iff_mul_le (by omega)).mpr (by omega))
  omega
 ·have:z.length*n.toNat<=1000*1000:=Nat.mul_le_mul hz (by omega)
  have hs:z.length*n.toNat<=sizeLine:=Nat.le_trans this (by decide)
  first
   | exact decide_eq_false (by omega)
   | (unfold tooLong;exact decide_eq_false (by omega))
   | simp [tooLong];omega
theorem zg3:OpR X (binaryOp .Mult) (fun x y H Q=>∃ z n,x=.str z/\y=.int n/\MulOk z n/\Q (.str (Txt.mul z n)) H):=by
 intro pins s σ H x y v u Q I rx ry h
 obtain⟨z,n,rfl,rfl,ok,q⟩:=h
 obtain⟨t,rfl⟩:=rx
 obtain⟨t',rfl⟩:=ry
 exact SB.mul ok fun t' k=>⟨.str (Txt.mul z n),H,I.tok _,⟨_,rfl⟩,q⟩
omit B in
theorem zez {i:Int}(h:Hg i):Builtin.Int.intBits i<=2 ^ 20:=by
 unfold Hg at h
 exact intBits_le h
omit B in
theorem zg1 {i:Int}(h:Builtin.Int.intBits i<=2 ^ 20):Hg i:=by
 unfold Hg
 exact Nat.lt_of_lt_of_le (natAbs_lt_pow_bits i) (Nat.pow_le_pow_right (by decide) h)
theorem zhm:OpR X (binaryOp .Mult) (rI (fun i j=>Hg i/\Hg j) fun i j=>.int (i*j)):=opI fun i j _ _ _ _ _ hc q=>mul_int q (IntMulOk.of_bits (zez hc.1) (zez hc.2))
theorem zbJ (ha:PD X a ta)(hb:PD X b tb):PD X (.BinOp a .Mult b pos) (dOp zbM ta tb):=by with_unfolding_all exact (zcr (zgA.or (zg3.or zhm)) (fun ad H S x y v u Q0 Q st rx ry h k=>by
 rcases h with h | ⟨z,n,rfl,rfl,hz,h0,h1,q⟩ | h
 ·exact .inl (zeR (fun _ _ h=>h) (fun _ _ i j=>.int (i*j)) ad H S x y v u Q0 Q st rx ry h k)
 ·cases rx
  cases ry
  exact .inr (.inl ⟨z,n,rfl,rfl,zh5 hz h0 h1,k _ S _ H ad q Wd.refl st (.str _)⟩)
 ·exact .inr (.inr (zeR (fun _ _ h=>h) (fun _ _ i j=>.int (i*j)) ad H S x y v u Q0 Q st rx ry h k))) ha hb)
theorem za7 (ha:PD X a ta)(hb:PD X b tb):PD X (.BinOp a .FloorDiv b pos) (dOp oDiv ta tb):=by with_unfolding_all exact (zcr zf6 (zeR (fun _ _ h=>h) fun _ _ i j=>.int (i.fdiv j)) ha hb)
theorem zae (ha:PD X a ta)(hb:PD X b tb):PD X (.BinOp a .Mod b pos) (dOp oMod ta tb):=by with_unfolding_all exact (zcr zgZ (zeR (fun _ _ h=>h) fun _ _ i j=>.int (i.fmod j)) ha hb)
theorem zaQ {n:Nat}(h:n<=big):n<=sizeLine:=Nat.le_trans h (by decide)
theorem ziC {n:Nat}(h:n<big):n<sizeLine:=Nat.lt_of_lt_of_le h (by decide)
theorem zcz {K:PySem.W.Frag}{ad:List Addr}{H:Hp}{S:Sto}{Q0:DK}{Q:VK}{ds:List D}{vs:List V}(st:zf K ad H S)(k:KK K ad H Q0 Q)(r:za K ad H ds vs)(q:Q0 (.ref S.length) (S++[.lst ds]))(l:Addr)(h:H l=none):Q (.ref l) (upd H l (.lst vs)) :=
 k _ _ _ _ _ q (Wd.newL st h) (st.newL h r) st.newRef
theorem zdX {K:PySem.W.Frag}{ad:List Addr}{H:Hp}{S:Sto}{Q0:DK}{Q:VK}{ds:List D}{vs:List V}(st:zf K ad H S)(k:KK K ad H Q0 Q)(r:za K ad H ds vs)(q:Q0 (.tup ds) S)(l:Addr)(h:H l=none):Q (.ref l) (upd H l (.tup vs)) :=
 k _ _ _ _ _ q (Wd.laid h) (st.laid h) (.tup zam (r.wd (Wd.laid h)))
theorem zad (ha:PD X a ta)(hb:PD X b tb):PD X (.BinOp a .Add b pos) (dOp zap ta tb):=by with_unfolding_all exact (zcr (zh0.or ((zfG rfl).or ((zgR rfl).or zeQ))) (fun ad H S x y v u Q0 Q st rx ry h k=>by
  rcases h with ⟨i,j,rfl,rfl,q⟩ | ⟨xs,ys,rfl,rfl,hz,q⟩ | ⟨xs,ys,hx,hy,hz,q⟩ | ⟨i,j,rfl,rfl,hz,q⟩
  ·cases rx
   cases ry
   exact .inl ⟨i,j,rfl,rfl,k _ S _ H ad q Wd.refl st (.int _)⟩
  ·cases rx with
   | tup h1 r1 =>
    cases ry with
    | tup h2 r2 =>
     have l1:=r1.length
     have l2:=r2.length
     refine .inr (.inl ⟨_,_,_,_,rfl,rfl,SqT.of h1,SqT.of h2,by rw [<- l1,<- l2];exact zaQ hz,fun e=>?_,fun _ e=>?_,fun _ _ p hp=>zdX st k (r1.append r2) q p hp⟩)
     ·have e':xs=[]:=List.length_eq_zero_iff.mp (by rw [l1,e];rfl)
      subst e'
      exact k _ S _ H ad q Wd.refl st (.tup h2 r2)
     ·have e':ys=[]:=List.length_eq_zero_iff.mp (by rw [l2,e];rfl)
      subst e'
      rw [List.append_nil] at q
      exact k _ S _ H ad q Wd.refl st (.tup h1 r1)
  ·obtain⟨a1,vs1,rfl,s1,r1⟩:=hx.sq st rx
   obtain⟨a2,vs2,rfl,s2,r2⟩:=hy.sq st ry
   exact .inr (.inr (.inl ⟨_,_,_,_,rfl,rfl,s1,s2,by rw [<- r1.length,<- r2.length];exact zaQ hz,fun p hp=>zcz st k (r1.append r2) q p hp⟩))
  ·cases rx
   cases ry
   exact .inr (.inr (.inr ⟨i,j,rfl,rfl,zaQ hz,k _ S _ H ad q Wd.refl st (.str _)⟩))) ha hb)
def OC (X:Cx)(op:CmpOp)(r':DR2):Prop:=∃ r,OpR X (compareOp op) r/\OD X.K r' r
theorem ziP:OC X .Lt oLt:=⟨_,zjy,zeF fun _ _ _ _=>.bl _⟩
theorem zeH:OC X .Gt oGt:=⟨_,zjD,zeF fun _ _ _ _=>.bl _⟩
mutual
def pyD:D->PyData
 | .non=>.none
 | .bl b=>.bool b
 | .int i=>.int i
 | .str x=>.str x
 | .tup xs=>.tuple (zJ xs)
 | .ref _=>.none
 | .ty _=>.none
 | .rl _=>.none
 | .exn _=>.none
def zJ:List D->List PyData
 | []=>[]
 | x::xs=>pyD x::zJ xs
end
section
variable {pins:List (Addr×Obj)}{σ:L2.St}{H:Hp}{s:Shared}{ad:List Addr}
theorem za1 (I:Inv X pins σ H s)(k:Nat)(h1:∀ d v u,fl k d=true->Rel X.K ad H d v->RelV v u->∃ as,Reads s.heap u (pyD d) as):∀ ds vs us,ds.all (fl k)=true->za X.K ad H ds vs->Vals vs us->∃ as,ReadsAll s.heap us (zJ ds) as:=by
 intro ds
 induction ds with
 | nil=>intro vs us _ r rv;cases r;cases rv;exact⟨_,.nil⟩
 | cons d ds ih =>
  intro vs us hf r rv
  rw [List.all_cons,Bool.and_eq_true] at hf
  cases r with
  | cons r t =>
   cases rv with
   | cons q qt =>
    obtain⟨as,ra⟩:=h1 d _ _ hf.1 r q
    obtain⟨bs,rb⟩:=ih _ _ hf.2 t qt
    exact⟨_,.cons ra rb⟩
theorem zal (I:Inv X pins σ H s):∀ (k:Nat) (d:D) (v:V) (u:Value),fl k d=true->Rel X.K ad H d v->RelV v u->∃ as,Reads s.heap u (pyD d) as:=by
 intro k
 induction k with
 | zero =>
  intro d v u hf r q
  cases r with
  | non=>cases q;exact⟨_,.none⟩
  | bl b=>cases q;exact⟨_,.bool b⟩
  | int i=>obtain⟨t,rfl⟩:=q;exact⟨_,.int i t⟩
  | str x=>obtain⟨t,rfl⟩:=q;exact⟨_,.str x t⟩
  | ty n=>cases hf
  | tup h r=>cases hf
  | rl h r=>cases hf
  | ref h=>cases hf
  | exn _ _ _=>cases hf
 | succ k ih =>
  intro d v u hf r q
  cases r with
  | non=>cases q;exact⟨_,.none⟩
  | bl b=>cases q;exact⟨_,.bool b⟩
  | int i=>obtain⟨t,rfl⟩:=q;exact⟨_,.int i t⟩
  | str x=>obtain⟨t,rfl⟩:=q;exact⟨_,.str x t⟩
  | ty n=>cases hf
  | tup h r =>
   cases q
   obtain⟨its,rv,ht,hz⟩:=I.tuple (SqT.of h)
   obtain⟨o,ho,hc,n,hd⟩:=ht
   obtain⟨as,ra⟩:=za1 I k ih _ _ _ hf r rv
   exact⟨_,.tuple ho hc hd (by simpa using ra)⟩
  | rl h r=>cases hf
  | ref h=>cases hf
  | exn _ _ _=>cases hf
end
theorem zbx:∀ (k:Nat) (d:D),fl k d=true->(pyD d).canLay0=true/\(pyD d).depth<=k:=by
 have all:∀ k,(∀ d,fl k d=true->(pyD d).canLay0=true/\(pyD d).depth<=k)->∀ ds:List D,ds.all (fl k)=true->PyData.canLayAll0 (zJ ds)=true/\PyData.depthAll (zJ ds)<=k:=by
  intro k h ds
  induction ds with
  | nil=>intro _;exact⟨rfl,Nat.zero_le _⟩
  | cons d ds ih =>
   intro hf
   rw [List.all_cons,Bool.and_eq_true] at hf
   obtain⟨a1,a2⟩:=h d hf.1
   obtain⟨b1,b2⟩:=ih hf.2
   refine⟨?_,?_⟩
   ·show (PyData.canLay0 (pyD d)&&PyData.canLayAll0 (zJ ds))=true
    rw [a1,b1];rfl
   ·show max (PyData.depth (pyD d)) (PyData.depthAll (zJ ds))<=k
    exact Nat.max_le.mpr ⟨a2,b2⟩
 intro k
 induction k with
 | zero =>
  intro d hf
  cases d with
  | non=>exact⟨rfl,Nat.zero_le _⟩
  | bl b=>exact⟨rfl,Nat.zero_le _⟩
  | int i=>exact⟨rfl,Nat.zero_le _⟩
  | str x=>exact⟨hf,Nat.zero_le _⟩
  | tup xs=>cases hf
  | ref n=>cases hf
  | exn _=>cases hf
  | ty n=>cases hf
  | rl xs=>cases hf
 | succ k ih =>
  intro d hf
  cases d with
  | non=>exact⟨rfl,Nat.zero_le _⟩
  | bl b=>exact⟨rfl,Nat.zero_le _⟩
  | int i=>exact⟨rfl,Nat.zero_le _⟩
  | str x=>exact⟨hf,Nat.zero_le _⟩
  | tup xs =>
   obtain⟨h1,h2⟩:=all k ih xs hf
   refine⟨h1,?_⟩
   show PyData.depthAll (zJ xs)+1<=k+1
   omega
  | ref n=>cases hf
  | exn _=>cases hf
  | ty n=>cases hf
  | rl xs=>cases hf
theorem zaI (k:Nat):∀ ds:List D,ds.all (fl k)=true->PyData.canLayAll0 (zJ ds)=true/\PyData.depthAll (zJ ds)<=k:=by
 intro ds
 induction ds with
 | nil=>intro _;exact⟨rfl,Nat.zero_le _⟩
 | cons d ds ih =>
  intro hf
  rw [List.all_cons,Bool.and_eq_true] at hf
  obtain⟨a1,a2⟩:=zbx k d hf.1
  obtain⟨b1,b2⟩:=ih hf.2
  refine⟨?_,?_⟩
  ·show (PyData.canLay0 (pyD d)&&PyData.canLayAll0 (zJ ds))=true
   rw [a1,b1];rfl
  ·show max (PyData.depth (pyD d)) (PyData.depthAll (zJ ds))<=k
   exact Nat.max_le.mpr ⟨a2,b2⟩
mutual
theorem zd4:∀ (k:Nat) (x y:D),fl k x=true->fl k y=true->PyData.eqv (pyD x) (pyD y)=eqv x y
  | k,.non,y,_,hy=>by cases y<;>first | rfl | (cases k<;>cases hy)
  | k,.bl a,y,_,hy=>by cases y<;>first | rfl | (cases k<;>cases hy)
  | k,.int i,y,_,hy=>by
    cases y with
    | int j=>show (i==j)=decide (i=j);rw [Bool.beq_eq_decide_eq]
    | ref n=>cases k<;>cases hy
    | exn n=>cases k<;>cases hy
    | ty n=>cases k<;>cases hy
    | rl n=>cases k<;>cases hy
    | _=>rfl
  | k,.str a,y,_,hy=>by cases y<;>first | rfl | (cases k<;>cases hy)
  | 0,.tup xs,y,hx,_=>by cases hx
  | k+1,.tup xs,y,hx,hy=>by
    cases y with
    | tup ys=>exact zbg k xs ys hx hy
    | ref n=>cases hy
    | ty n=>cases hy
    | rl n=>cases hy
    | _=>rfl
  | k,.ref n,y,hx,_=>by cases k<;>cases hx
  | k,.ty n,y,hx,_=>by cases k<;>cases hx
  | k,.rl n,y,hx,_=>by cases k<;>cases hx
  | k,.exn n,y,hx,_=>by cases k<;>cases hx
theorem zbg:∀ (k:Nat) (xs ys:List D),xs.all (fl k)=true->ys.all (fl k)=true->PyData.eqvAll (zJ xs) (zJ ys)=eqvAll xs ys
  | k,[],[],_,_=>rfl
  | k,[],y::ys,_,_=>rfl
  | k,x::xs,[],_,_=>rfl
  | k,x::xs,y::ys,hx,hy=>by
    rw [List.all_cons,Bool.and_eq_true] at hx hy
    show (PyData.eqv (pyD x) (pyD y)&&PyData.eqvAll (zJ xs) (zJ ys))=(eqv x y&&eqvAll xs ys)
    rw [zd4 k x y hx.1 hy.1,zbg k xs ys hx.2 hy.2]
end
def zaE (xss:List (List D)):List PyData:=xss.map fun zs=>.list (zJ zs)
theorem zdS:∀ xss:List (List D),zbC xss=true->PyData.canLayAll0 (zaE xss)=true/\PyData.depthAll (zaE xss)<=21
 | [],_=>⟨rfl,Nat.zero_le _⟩
 | zs::xss,h=>by
  unfold zbC at h
  rw [List.all_cons,Bool.and_eq_true] at h
  obtain⟨a1,a2⟩:=zaI 20 zs h.1
  obtain⟨b1,b2⟩:=zdS xss h.2
  refine⟨?_,?_⟩
  ·show (PyData.canLayAll0 (zJ zs)&&PyData.canLayAll0 (zaE xss))=true
   rw [a1,b1];rfl
  ·show max (PyData.depthAll (zJ zs)+1) (PyData.depthAll (zaE xss))<=21
   exact Nat.max_le.mpr ⟨by omega,b2⟩
theorem zfx:∀ xss yss:List (List D),zbC xss=true->zbC yss=true->PyData.eqvAll (zaE xss) (zaE yss)=eqvAll (xss.map D.tup) (yss.map D.tup)
 | [],[],_,_=>rfl
 | [],_::_,_,_=>rfl
 | _::_,[],_,_=>rfl
 | zs::xss,ws::yss,h,k=>by
  unfold zbC at h k
  rw [List.all_cons,Bool.and_eq_true] at h k
  show (PyData.eqvAll (zJ zs) (zJ ws)&&PyData.eqvAll (zaE xss) (zaE yss))=(eqvAll zs ws&&eqvAll (xss.map D.tup) (yss.map D.tup))
  rw [zbg 20 zs ws h.1 k.1,zfx xss yss h.2 k.2]
theorem zce {pins:List (Addr×Obj)}{σ:L2.St}{H:Hp}{s:Shared}{ad:List Addr}{S:Sto}(I:Inv X pins σ H s)(st:zf X.K ad H S):∀ (xs:List D) (xss:List (List D)) (vs:List V) (us:List Value),zcH S xs xss->zbC xss=true->za X.K ad H xs vs->Vals vs us->∃ as,ReadsAll s.heap us (zaE xss) as
 | [],[],_,_,_,_,r,rv=>by cases r;cases rv;exact⟨_,.nil⟩
 | [],_::_,_,_,h,_,_,_=>h.elim
 | _::_,[],_,_,h,_,_,_=>h.elim
 | x::xs,zs::xss,_,_,h,f,r,rv=>by
  unfold zbC at f
  rw [List.all_cons,Bool.and_eq_true] at f
  cases r with
  | cons r t =>
   obtain⟨a1,vs1,rfl,s1,r1⟩:=h.1.sq st r
   cases rv with
   | cons q qt =>
    cases q
    obtain⟨its,rv1,ht,hz⟩:=I.list s1
    obtain⟨o,ho,hc,n,hd⟩:=ht.isList
    obtain⟨as,ra⟩:=za1 I 20 (zal I 20) _ _ _ f.1 r1 rv1
    obtain⟨bs,rb⟩:=zce I st xs xss _ _ h.2 f.2 t qt
    exact⟨_,.cons (.list ho hc hd (by simpa using ra)) rb⟩
def zim (X:Cx)(g:Bool->Bool):R2:=fun x y H Q=>∃ ad S dx dy b,zf X.K ad H S/\Rel X.K ad H dx x/\Rel X.K ad H dy y/\EqD S dx dy b/\Q (.bl (g b)) H
theorem zc1 {pins:List (Addr×Obj)}{σ:L2.St}{H:Hp}{s:Shared}{ad:List Addr}{S:Sto}{dx dy:D}{x y:V}{v u:Value}{b:Bool}(I:Inv X pins σ H s)(st:zf X.K ad H S)(rx:Rel X.K ad H dx x)(ry:Rel X.K ad H dy y)(qx:RelV x v)(qy:RelV y u)(h:EqD S dx dy b) :
  ∃ px py as bs,Reads s.heap v px as/\Reads s.heap u py bs/\px.canLay0=true/\py.canLay0=true/\min px.depth py.depth<=60/\PyData.eqv px py=b:=by
 rcases h with ⟨fx,fy,rfl⟩ | ⟨xs,ys,hx,hy,fx,fy,rfl⟩ | ⟨xs,ys,xss,yss,hx,hy,lx,ly,fx,fy,rfl⟩
 ·obtain⟨as,ra⟩:=zal I 20 dx x v fx rx qx
  obtain⟨bs,rb⟩:=zal I 20 dy y u fy ry qy
  obtain⟨c1,d1⟩:=zbx 20 dx fx
  obtain⟨c2,d2⟩:=zbx 20 dy fy
  exact⟨_,_,as,bs,ra,rb,c1,c2,by omega,zd4 20 dx dy fx fy⟩
 ·obtain⟨a1,vs1,rfl,s1,r1⟩:=hx.sq st rx
  obtain⟨a2,vs2,rfl,s2,r2⟩:=hy.sq st ry
  cases qx
  cases qy
  obtain⟨its,rv,ht,hz⟩:=I.list s1
  obtain⟨its2,rv2,ht2,hz2⟩:=I.list s2
  obtain⟨o,ho,hc,n,hd⟩:=ht.isList
  obtain⟨o2,ho2,hc2,n2,hd2⟩:=ht2.isList
  obtain⟨as,ra⟩:=za1 I 20 (zal I 20) _ _ _ fx r1 rv
  obtain⟨bs,rb⟩:=za1 I 20 (zal I 20) _ _ _ fy r2 rv2
  obtain⟨c1,d1⟩:=zaI 20 xs fx
  obtain⟨c2,d2⟩:=zaI 20 ys fy
  refine⟨.list (zJ xs),.list (zJ ys),_,_,.list ho hc hd (by simpa using ra),.list ho2 hc2 hd2 (by simpa using rb),c1,c2,?_,zbg 20 xs ys fx fy⟩
  show min (PyData.depthAll (zJ xs)+1) (PyData.depthAll (zJ ys)+1)<=60
  omega
 ·obtain⟨a1,vs1,rfl,s1,r1⟩:=hx.sq st rx
  obtain⟨a2,vs2,rfl,s2,r2⟩:=hy.sq st ry
  cases qx
  cases qy
  obtain⟨its,rv,ht,hz⟩:=I.list s1
  obtain⟨its2,rv2,ht2,hz2⟩:=I.list s2
  obtain⟨o,ho,hc,n,hd⟩:=ht.isList
  obtain⟨o2,ho2,hc2,n2,hd2⟩:=ht2.isList
  obtain⟨as,ra⟩:=zce I st xs xss _ _ lx fx r1 rv
  obtain⟨bs,rb⟩:=zce I st ys yss _ _ ly fy r2 rv2
  obtain⟨c1,d1⟩:=zdS xss fx
  obtain⟨c2,d2⟩:=zdS yss fy
  refine⟨.list (zaE xss),.list (zaE yss),_,_,.list ho hc hd (by simpa using ra),.list ho2 hc2 hd2 (by simpa using rb),c1,c2,?_,zfx xss yss fx fy⟩
  show min (PyData.depthAll (zaE xss)+1) (PyData.depthAll (zaE yss)+1)<=60
  omega
theorem zbb {k:Nat}(hr:zO k X.A):OC X .Eq oEq:=⟨zim X id,fun pins s σ H x y v u Q I qx qy ⟨ad,S,dx,dy,b,st,rx,ry,h,q⟩=>by
  obtain⟨px,py,as,bs,ra,rb,c1,c2,hd,e⟩:=zc1 I st rx ry qx qy h
  have hu:=hr.units
  exact PySem.SeqAt.rcAt_reads ra rb c1 c2 (by omega) X.prog X.w X.xe _ ⟨.bl _,H,I,by rw [e];rfl,q⟩,
 fun ad H S x y v u Q0 Q st rx ry ⟨b,h,q⟩ k=>⟨ad,S,x,y,b,st,rx,ry,h,k _ S _ H ad q Wd.refl st (.bl _)⟩⟩
theorem zb5 {k:Nat}(hr:zO k X.A):OC X .NotEq oNe:=⟨zim X (!·),fun pins s σ H x y v u Q I qx qy ⟨ad,S,dx,dy,b,st,rx,ry,h,q⟩=>by
  obtain⟨px,py,as,bs,ra,rb,c1,c2,hd,e⟩:=zc1 I st rx ry qx qy h
  have hu:=hr.units
  exact PySem.SeqAt.rcNeAt_reads ra rb c1 c2 (by omega) X.prog X.w X.xe _ ⟨.bl _,H,I,by rw [e];rfl,q⟩,
 fun ad H S x y v u Q0 Q st rx ry ⟨b,h,q⟩ k=>⟨ad,S,x,y,b,st,rx,ry,h,k _ S _ H ad q Wd.refl st (.bl _)⟩⟩
theorem ze2 {op:CmpOp}{r':DR2}(o:OC X op r')(ha:PD X a ta)(hb:PD X b tb)(h:op≠.In:=by decide)(h2:op≠.NotIn:=by decide):PD X (.Compare a [op] [b] pos) (dOp r' ta tb):=by
 with_unfolding_all
  obtain⟨r,ho,od⟩:=o
  exact z8 (zei ho ha hb (zfs _ h h2)) fun _ _ _=>zbY od
theorem zM {op:CmpOp}{r':DR2}(o:OC X op r')(ha:PD X a ta)(hb:PD X b tb)(h:op≠.In:=by decide)(h2:op≠.NotIn:=by decide):PTD X (.Compare a [op] [b] pos) (dT (dOp r' ta tb)):=by
 with_unfolding_all
  obtain⟨r,ho,od⟩:=o
  refine zb0 (zem ho ha hb (zfs _ h h2)) fun σ H Q hh=>el8 hh fun ad ρ S Q0 st rh q k=>?_
  refine zbY (Q:=fun x H'=>∃ k,x=.bl k/\Q k H') od ⟨ad,ρ,S,_,st,rh,q,fun d S' v H' ad' ⟨b,e,q'⟩ w st' r=>?_⟩
  subst e
  cases r
  exact⟨b,rfl,k b S' H' ad' q' w st'⟩
theorem zbm {e:Expr}{t:DE}(h:PD X e t)(he:∀ whole,isTrue e X.env whole=(do let v <- whole;standAt e.pos;holding [v] (truthy v)):=by intro _;rfl):PTD X e (dT t):=by with_unfolding_all exact (zb0 (ziB h he) fun σ H Q hh=>el8 hh fun ad ρ S Q0 st rh q k =>
 ⟨ad,ρ,S,_,st,rh,q,fun d S' v H' ad' ⟨b,e,q'⟩ w st' r=>by
  subst e
  cases r
  exact⟨b,rfl,k b S' H' ad' q' w st'⟩⟩)
variable {tA tB':DT}{rest:List Expr}
theorem zcV (h:PTD X a tA):PTD X (.UnaryOp .Not a pos) (zdr tA):=by with_unfolding_all exact (zb0 (zhE h) fun σ H Q hh=>el8 hh fun ad ρ S Q0 st rh q k=>⟨ad,ρ,S,_,st,rh,q,fun b S' H' ad' q' w st'=>k _ S' H' ad' q' w st'⟩)
theorem zbr {e:Expr}{t:DT}(h:PWD X e t):PTD X e t:=by with_unfolding_all exact (h _)
theorem zdU (ha:PTD X a tA):PWD X (.BoolOp .And [a] pos) tA:=by with_unfolding_all exact (zhd ha)
theorem zb9 (ha:PTD X a tA):PWD X (.BoolOp .Or [a] pos) tA:=by with_unfolding_all exact (zhJ ha)
theorem zel (ha:PTD X a tA)(hb:PWD X (.BoolOp .And (b::rest) pos) tB'):PWD X (.BoolOp .And (a::b::rest) pos) (zeJ tA tB'):=by with_unfolding_all exact (zer (zhF ha hb) fun σ H Q hh=>el8 hh fun ad ρ S Q0 st rh q k =>
 ⟨ad,ρ,S,_,st,rh,q,fun b S' H' ad' q' w st'=>by
  cases b with
  | true=>rw [if_pos rfl] at q' ⊢;exact⟨ad',ρ,S',Q0,st',rh.wd w,q',fun b S' H' ad' q w'=>k b S' H' ad' q (w.trans w')⟩
  | false=>rw [if_neg Bool.false_ne_true] at q' ⊢;exact k _ S' H' ad' q' w st'⟩)
theorem zbU (ha:PTD X a tA)(hb:PWD X (.BoolOp .Or (b::rest) pos) tB'):PWD X (.BoolOp .Or (a::b::rest) pos) (dOr tA tB'):=by with_unfolding_all exact (zer (zi6 ha hb) fun σ H Q hh=>el8 hh fun ad ρ S Q0 st rh q k =>
 ⟨ad,ρ,S,_,st,rh,q,fun b S' H' ad' q' w st'=>by
  cases b with
  | false=>rw [if_neg Bool.false_ne_true] at q' ⊢;exact⟨ad',ρ,S',Q0,st',rh.wd w,q',fun b S' H' ad' q w'=>k b S' H' ad' q (w.trans w')⟩
  | true=>rw [if_pos rfl] at q' ⊢;exact k _ S' H' ad' q' w st'⟩)
theorem ziJ {op}{t:DE}(h:PD X a t):PD X (.BoolOp op [a] pos) t:=by with_unfolding_all exact (zhD h)
theorem zhL (ha:PD X a ta)(hb:PD X (.BoolOp .Or (b::rest) pos) tb):PD X (.BoolOp .Or (a::b::rest) pos) (zfW ta tb):=by with_unfolding_all exact (z8 (zi3 ha hb) fun σ H Q hh=>el8 hh fun ad ρ S Q0 st rh q k =>
 ⟨ad,ρ,S,_,st,rh,q,fun d S' v H' ad' ⟨c,e,q'⟩ w st' r=>by
  subst e
  cases r
  refine⟨c,rfl,?_⟩
  cases c with
  | false=>rw [if_neg Bool.false_ne_true] at q' ⊢;exact⟨ad',ρ,S',Q0,st',rh.wd w,q',k.wd w⟩
  | true=>rw [if_pos rfl] at q' ⊢;exact k _ S' _ H' ad' q' w st' (.bl _)⟩)
theorem zik (hc:PTD X c tA)(ha:PD X a ta)(hb:PD X b tb):PD X (.IfExp c a b pos) (zfK tA ta tb):=by with_unfolding_all exact (z8 (zfR hc ha hb) fun σ H Q hh=>el8 hh fun ad ρ S Q0 st rh q k =>
 ⟨ad,ρ,S,_,st,rh,q,fun b S' H' ad' q' w st'=>by
  cases b with
  | true=>rw [if_pos rfl] at q' ⊢;exact⟨ad',ρ,S',Q0,st',rh.wd w,q',k.wd w⟩
  | false=>rw [if_neg Bool.false_ne_true] at q' ⊢;exact⟨ad',ρ,S',Q0,st',rh.wd w,q',k.wd w⟩⟩)
end
section
variable {X:Cx}{a b e:Expr}{es:List Expr}{ta tb te:DE}{t:DA}{pos:Pos}
theorem zy:PAD X [] zK:=by with_unfolding_all exact (zex zhB fun σ H Q hh=>el8 hh fun ad ρ S Q0 st rh q k=>k [] S [] H ad q Wd.refl st .nil)
theorem zc (ha:PD X e te)(hr:PAD X es t)(hs:starEach (e::es) X.env=(false,eval e X.env)::starEach es X.env:=by exact zao rfl):PAD X (e::es) (zm te t):=by with_unfolding_all exact (zex (zgK ha hr hs) fun σ H Q hh=>el8 hh fun ad ρ S Q0 st rh q k =>
 ⟨ad,ρ,S,_,st,rh,q,fun d S1 v H1 ad1 q1 w1 st1 r1=>⟨ad1,ρ,S1,_,st1,rh.wd w1,q1,fun ds S2 vs H2 ad2 q2 w2 st2 r2=>k _ S2 _ H2 ad2 q2 (w1.trans w2) st2 (.cons (r1.wd w2) r2)⟩⟩)
theorem zie {x1}(h:PAD X es t):PD X (.Tuple es x1 pos) (dTup t):=by with_unfolding_all exact (z8 (zh8 h) fun σ H Q hh=>el8 hh fun ad ρ S Q0 st rh q k =>
 ⟨ad,ρ,S,_,st,rh,q,fun ds S1 vs H1 ad1 ⟨hz,q1⟩ w1 st1 r1=>⟨by rw [<- r1.length];exact zaQ hz,fun p hp=>zdX st1 (k.wd w1) r1 q1 p hp⟩⟩)
theorem zaA (h:PAD X es t):PD X (.List es pos) (za5 t):=by with_unfolding_all exact (z8 (zhT h) fun σ H Q hh=>el8 hh fun ad ρ S Q0 st rh q k =>
 ⟨ad,ρ,S,_,st,rh,q,fun ds S1 vs H1 ad1 ⟨hz,q1⟩ w1 st1 r1=>⟨by rw [<- r1.length];exact zaQ hz,fun p hp=>zcz st1 (k.wd w1) r1 q1 p hp⟩⟩)
theorem zir {xs:List D}{i:Int}{d:D}(h:atD xs i=some d){K:PySem.W.Frag}{ad:List Addr}{H:Hp}{vs:List V}(r:za K ad H xs vs):∃ v,atI vs i=some v/\Rel K ad H d v:=by
 have e:ixN vs.length i=ixD xs.length i:=by rw [r.length];rfl
 unfold atD at h
 unfold atI
 rw [e]
 cases q:ixD xs.length i with
 | none=>rw [q] at h;cases h
 | some j =>
  rw [q] at h
  exact r.get h
theorem zbd (ha:PD X a ta)(hb:PD X b tb)(hs:zee b:=by intro _ _;rfl):PD X (.Subscript a b pos) (dOp oIx ta tb):=by with_unfolding_all exact (z8 (zjM (zht.or (ziE.or zin)) ha hb hs) fun _ _ _=>zbY fun ad H S x y v u Q0 Q st rx ry h k=>by
 rcases h with ⟨i,xs,d,ey,hx,e,q⟩ | ⟨z,i,c,rfl,rfl,hz,e,q⟩
 case inr =>
  cases rx
  cases ry
  exact .inr (.inr ⟨z,i,c,rfl,rfl,zaQ hz,e,k _ S _ H ad q Wd.refl st (.str _)⟩)
 subst ey
 cases ry
 obtain⟨p,vs,rfl,hs,r⟩:=hx.sq st rx
 obtain⟨z,ez,rz⟩:=zir e r
 rcases hs with hs | hs
 ·exact .inl ⟨p,vs,i,z,rfl,rfl,hs,ez,k _ S _ H ad q Wd.refl st rz⟩
 ·exact .inr (.inl ⟨p,vs,i,z,rfl,rfl,hs,ez,k _ S _ H ad q Wd.refl st rz⟩))
def upO (K:PySem.W.Frag)(t:Option DE):TO:=fun σ H Q=>∃ ad ρ S Q0,zf K ad H S/\zH K ad H ρ σ/\zck t ρ S Q0/\∀ o S' H' ad',Q0 o S'->Wd ad H ad' H'->zf K ad' H' S'->Q o H'
theorem zay:PO X none (upO X.K none):=fun pins s σ H Q I hh=>el8 hh fun ad ρ S Q0 st rh q k=>zgJ pins s σ H Q I (k none S H ad q Wd.refl st)
theorem zaz {t:DE}(h:PD X e t):PO X (some e) (upO X.K (some t)):=by with_unfolding_all exact (fun pins s σ H Q I hh=>el8 hh fun ad ρ S Q0 st rh q k=>zgX h pins s σ H Q I ⟨ad,ρ,S,_,st,rh,q,fun d S' v H' ad' ⟨i,e,q'⟩ w st' r=>by
 subst e
 cases r
 exact⟨i,rfl,k _ S' H' ad' q' w st'⟩⟩)
theorem zek {K:PySem.W.Frag}{ad:List Addr}{H:Hp}{xs:List D}{vs:List V}(lo hi:Option Int)(r:za K ad H xs vs):za K ad H (cutD xs lo hi) (zbA vs lo hi):=by
  have e1:HT.sIx vs.length 0 lo=slD xs.length 0 lo:=by
    rw [r.length];cases lo with
    | none=>rfl
    | some k=>show HT.sIx _ _ (some k)=_;unfold HT.sIx slD;first | rfl | (simp only [];split<;>omega)
  have e2:HT.sIx vs.length vs.length hi=slD xs.length xs.length hi:=by
    rw [r.length];cases hi with
    | none=>rfl
    | some k=>show HT.sIx _ _ (some k)=_;unfold HT.sIx slD;first | rfl | (simp only [];split<;>omega)
  unfold cutD zbA
  rw [e1,e2]
  exact (r.drop _).take _
def zjf (K:PySem.W.Frag):V->Option Int->Option Int->Hp->VK->Prop:=fun x lo hi H Q=>∃ a xs,x=.ref a/\SqT K H a xs /\
 ((HT.sIx xs.length 0 lo=0/\HT.sIx xs.length xs.length hi=xs.length)->Q (.ref a) H)/\(¬ (HT.sIx xs.length 0 lo=0/\HT.sIx xs.length xs.length hi=xs.length)->∀ p,H p=none->Q (.ref p) (upd H p (.tup (zbA xs lo hi))))
theorem zdf {prog:Program}{w:World}{A:Around}{E:Value->Shared->Prop}{s:Shared}{t sl:Addr}{items:Array Value}{vl vu:Value}{lo hi:Option Int}{Q:Value->Shared->Prop}(ht:IsTup s.heap t items)(hs:s.heap.IsSliceOf sl vl vu .none)(pl:IsPart vl lo)(pu:IsPart vu hi)
  (hw:HT.sIx items.size 0 lo=0/\HT.sIx items.size items.size hi=items.size) (h:Q (.ref t) s):wpAny (model prog w) A (getItem (.ref t) (.ref sl)) Q E s:=by
 obtain⟨os,hos,hcs,hds⟩:=id hs
 have hTs:s.TypeIs (.ref sl) "slice":=⟨os,hos,hcs⟩
 unfold getItem
 try with_reducible refine wpAny_holding ?_
 first | refine wpAny_bind (wpAny_pure ?_) | skip
 refine wpAny_bind (wpAny_sequenceKey ht.typeIs (by decide) ?_)
 refine wpAny_bind (wpAny_callSpecial?_slot (name:=Str.ofString "__getitem__") ht.typeIs PyProof.Rows.slot_tuple_getitem
  (wpAny_call_entry PyProof.Rows.slot_tuple_getitem ht.typeIs PyProof.Rows.entry_tuple_getitem ?_ (PyProof.Rows.args_tuple_getitem _ _)))
 show wpAny _ _ (Builtin.Tuple.tupleItemsOf (.ref t) >>= _) _ _ s
 refine wpAny_bind (tupleItemsOf_ ht ?_)
 refine wpAny_bind (wpAny_typeOf hTs ?_)
 rw [if_pos (by decide)]
 refine wpAny_bind (HT.zba hs pl pu ?_)
 show wpAny _ _ (if (((HT.sIx items.size 0 lo:Nat):Int)==0&&(1:Int)==1&&(HT.sIx items.size items.size hi-HT.sIx items.size 0 lo)==items.size)=true then _ else _) _ _ s
 rw [if_pos (by rw [hw.1,hw.2];simp)]
 unfold Builtin.Tuple.tupleIsExact
 refine wpAny_bind (wpAny_bind (wpAny_typeOf ht.typeIs (wpAny_pure ?_)))
 rw [if_pos (by decide)]
 refine wpAny_bind (wpAny_rule ?_)
 first
  | exact wpAny_pure ⟨_,rfl,wpAny_pure h⟩
  | exact wpAny_bind (wpAny_pure ⟨_,rfl,wpAny_pure h⟩)
  | exact wpAny_bind (wpAny_pure (wpAny_pure ⟨_,rfl,wpAny_pure h⟩))
  | trace_state
theorem zg5:SlR X (zjf X.K):=by
 intro pins s σ H x v vl vu lo hi sl Q I rx hs pl pu h
 obtain⟨a,xs,rfl,hx,q1,q2⟩:=h
 by_cases hw:HT.sIx xs.length 0 lo=0/\HT.sIx xs.length xs.length hi=xs.length
 ·cases rx
  obtain⟨its,r,ht,hz⟩:=I.tuple hx
  have hlen:its.toArray.size=xs.length:=by rw [List.size_toArray];exact r.length.symm
  refine⟨"tuple",_,PyProof.Rows.slot_tuple_getitem.lookup,ht.typeIs,?_⟩
  exact zdf ht hs pl pu (by rw [hlen];exact hw) ⟨.ref a,H,I,rfl,q1 hw⟩
 ·exact zh6 pins s σ H (.ref a) v vl vu lo hi sl Q I rx hs pl pu ⟨a,xs,rfl,hx,hw,q2 hw⟩
theorem zfl {α:Type}(xs:List α)(lo hi:Option Int)(h1:slD xs.length 0 lo=0)(h2:slD xs.length xs.length hi=xs.length):cutD xs lo hi=xs:=by
 unfold cutD;rw [h1,h2];simp
theorem zcO (n d:Nat)(o:Option Int):HT.sIx n d o=slD n d o:=by
 cases o with
 | none=>rfl
 | some k=>rfl
theorem zbf {lo hi:Option Expr}{tl th:Option DE}{p2:Pos}(ha:PD X a ta)(hl:PO X lo (upO X.K tl))(hh:PO X hi (upO X.K th)):PD X (.Subscript a (.Slice lo hi none p2) pos) (dSl za0 ta tl th):=by with_unfolding_all exact (z8 (zfT (zhp.or (zg5.or zil)) ha hl hh) fun σ H Q hh=>el8 hh fun ad ρ S Q0 st rh q k =>
 ⟨ad,ρ,S,_,st,rh,q,fun x S1 v H1 ad1 q1 w1 st1 r1=>⟨ad1,ρ,S1,_,st1,rh.wd w1,q1,fun l S2 H2 ad2 q2 w2 st2=>⟨ad2,ρ,S2,_,st2,rh.wd (w1.trans w2),q2,fun h S3 H3 ad3 q3 w3 st3=>by
  have r3:=r1.wd (w2.trans w3)
  have k3:=k.wd ((w1.trans w2).trans w3)
  rcases q3 with ⟨xs,rfl,q3⟩ | ⟨xs,hx,q3⟩ | ⟨z,rfl,hz,q3⟩
  ·cases r3 with
   | tup h1 r =>
    refine .inr (.inl ⟨_,_,rfl,SqT.of h1,fun⟨z1,z2⟩=>?_,fun _ p hp=>zdX st3 k3 (zek _ _ r) q3 p hp⟩)
    rw [zcO,<- r.length] at z1 z2
    rw [zfl xs _ _ z1 z2] at q3
    exact k3 _ S3 _ H3 ad3 q3 Wd.refl st3 (.tup h1 r)
  ·obtain⟨p,vs,rfl,hs,r⟩:=hx.sq st3 r3
   exact .inl ⟨p,vs,rfl,hs,fun l hl=>zcz st3 k3 (zek _ _ r) q3 l hl⟩
  ·cases r3
   refine .inr (.inr ⟨z,rfl,zaQ hz,?_⟩)
   have e:(⟨((z.cps.toList.drop (HT.sIx z.length 0 l)).take (HT.sIx z.length z.length h-HT.sIx z.length 0 l)).toArray⟩:Str)=zby z l h:=by
    unfold zby cutD
    rw [zcO,zcO,show z.length=z.cps.toList.length from Array.length_toList.symm]
   rw [e]
   exact k3 _ S3 _ H3 ad3 q3 Wd.refl st3 (.str _)⟩⟩⟩)
end
end Dp
namespace Dp
open PySem PySem.Spec PyProof.Rows L2 My
variable [B:Bs]
section
variable {X:Cx}{a e:Expr}{es:List Expr}{ta te:DE}{t:DA}{pos p:Pos}
theorem zb2 {k j:Nat}{x:Str}{ps:List Str}{f:DSp}(G:Got X.prog X.w X.K X.mg X.base k x ps (upF X.K f))(hr:zO j X.A)
  (ha:PAD X (e::es) t) (hk:k<=j:=by decide) (hg:Gl X x:=by rfl) (hdb:(x==("__debug__":Str))=false:=by decide) (he:starEach (e::es) X.env=(false,eval e X.env)::starEach es X.env:=by exact zao rfl) (hpl:(backTo pos (starEach es X.env)).any (·.1)=false:=by exact za2 rfl) :
  PD X (.Call (.Name x p) (e::es) [] pos) (dCall f t):=by with_unfolding_all exact (z8 (zia G hr hk hg ha hdb he hpl) fun σ H Q hh=>el8 hh fun ad ρ S Q0 st rh q k =>
 ⟨ad,ρ,S,_,st,rh,q,fun ds S1 vs H1 ad1 q1 w1 st1 r1=>by
  show upF X.K f (vs++[]) H1 Q E0
  rw [List.append_nil];exact⟨ad1,S1,ds,Q0,st1.base,r1,q1,(k.wd w1).base st1⟩⟩)
def BD (K:PySem.W.Frag)(r':DB)(r:List V->Hp->VK->Prop):Prop:=∀ ad H S ds vs Q0 Q,zf K ad H S->za K ad H ds vs->r' ds S Q0->KK K ad H Q0 Q->r vs H Q
def BC (X:Cx)(f:Value)(r':DB):Prop:=∃ r,z9 X f r/\BD X.K r' r
theorem za4 {x:Str}{id:String}{r':DB}(o:BC X (.builtin id) r')(hm:X.mg x=none)(hv:bootBuiltins x=some (.builtin id))(ha:PAD X (e::es) t)(hg:Gl X x:=by rfl)(hn:x≠"__name__":=by decide)(hdb:(x==("__debug__":Str))=false:=by decide)
  (he:starEach (e::es) X.env=(false,eval e X.env)::starEach es X.env:=by exact zao rfl) (hpl:(backTo pos (starEach es X.env)).any (·.1)=false:=by exact za2 rfl):PD X (.Call (.Name x p) (e::es) [] pos) (dB r' t):=by
 with_unfolding_all
  obtain⟨r,ho,od⟩:=o
  exact z8 (zgc ho hg hm hv ha hn hdb he hpl) fun σ H Q hh=>el8 hh fun ad ρ S Q0 st rh q k =>
   ⟨ad,ρ,S,_,st,rh,q,fun ds S1 vs H1 ad1 q1 w1 st1 r1=>od ad1 H1 S1 ds vs Q0 Q st1 r1 q1 (k.wd w1)⟩
theorem zb1 {x:Str}{T:String}{r':DB}(o:BC X (.type T) r')(hm:X.mg x=none)(hv:bootBuiltins x=some (.type T))(ha:PAD X (e::es) t)(hg:Gl X x:=by rfl)(hn:x≠"__name__":=by decide)(hdb:(x==("__debug__":Str))=false:=by decide)
  (he:starEach (e::es) X.env=(false,eval e X.env)::starEach es X.env:=by exact zao rfl) (hpl:(backTo pos (starEach es X.env)).any (·.1)=false:=by exact za2 rfl):PD X (.Call (.Name x p) (e::es) [] pos) (dB r' t):=by
 with_unfolding_all
  obtain⟨r,ho,od⟩:=o
  exact z8 (zff ho hg hm hv ha hn hdb he hpl) fun σ H Q hh=>el8 hh fun ad ρ S Q0 st rh q k =>
   ⟨ad,ρ,S,_,st,rh,q,fun ds S1 vs H1 ad1 q1 w1 st1 r1=>od ad1 H1 S1 ds vs Q0 Q st1 r1 q1 (k.wd w1)⟩
theorem zbL {K:PySem.W.Frag}{ad:List Addr}{H:Hp}{d:D}{vs:List V}(r:za K ad H [d] vs):∃ v,vs=[v]/\Rel K ad H d v:=by
 cases r with
 | cons r t=>cases t;exact⟨_,rfl,r⟩
theorem zj5 {K:PySem.W.Frag}{ad:List Addr}{H:Hp}{d e:D}{vs:List V}(r:za K ad H [d,e] vs):∃ v u,vs=[v,u]/\Rel K ad H d v/\Rel K ad H e u:=by
 cases r with
 | cons r t =>
  obtain⟨u,rfl,r2⟩:=zbL t
  exact⟨_,_,rfl,r,r2⟩
theorem zaN:BC X (.builtin "len") za6:=⟨_,zfr.or zdQ,fun ad H S ds vs Q0 Q st r h k=>by
 rcases h with ⟨x,xs,e,hx,q⟩ | ⟨z,e,hz,q⟩
 case inr =>
  subst e
  obtain⟨v,rfl,rv⟩:=zbL r
  cases rv
  exact .inr ⟨z,rfl,zaQ hz,k _ S _ H ad q Wd.refl st (.int _)⟩
 subst e
 obtain⟨v,rfl,rv⟩:=zbL r
 obtain⟨a,ws,rfl,hs,rs⟩:=hx.sq st rv
 exact .inl ⟨a,ws,rfl,hs,k _ S _ H ad (by rw [rs.length] at q;exact q) Wd.refl st (.int _)⟩⟩
theorem ziG (hc:X.calm=true:=by rfl):BC X (.builtin "all") zfX:=⟨_,zfp rfl hc,fun ad H S ds vs Q0 Q st r ⟨x,ns,e,hx,q⟩ k=>by
 subst e
 obtain⟨v,rfl,rv⟩:=zbL r
 obtain⟨a,ws,rfl,hs,rs⟩:=hx.sq st rv
 cases rs.bls
 exact⟨a,ns,rfl,hs,k _ S _ H ad q Wd.refl st (.bl _)⟩⟩
theorem zhg:BC X (.type "list") zeM:=⟨_,zeN,fun ad H S ds vs Q0 Q st r ⟨x,xs,e,hx,q⟩ k=>by
 subst e
 obtain⟨v,rfl,rv⟩:=zbL r
 obtain⟨a,ws,rfl,hs,rs⟩:=hx.sq st rv
 exact⟨a,ws,rfl,hs,fun l hl=>zcz st k rs q l hl⟩⟩
section
variable {K:PySem.W.Frag}
theorem zgT (t:String)(h:zcL t=true):PySem.W.kitOne K (.type "NoneType") (.type t)=some false/\PySem.W.kitOne K (.type "bool") (.type t)=some (t=="bool"||t=="int")/\PySem.W.kitOne K (.type "int") (.type t)=some (t=="int") /\
  PySem.W.kitOne K (.type "str") (.type t)=some (t=="str")/\PySem.W.kitOne K (.type "tuple") (.type t)=some (t=="tuple")/\PySem.W.kitOne K (.type "list") (.type t)=some (t=="list"):=by
 unfold zcL at h
 simp only [Bool.or_eq_true,beq_iff_eq] at h
 rcases h with (((rfl | rfl) | rfl) | rfl) | rfl
 ·exact⟨by kernel_rfl,by kernel_rfl,by kernel_rfl,by kernel_rfl,by kernel_rfl,by kernel_rfl⟩
 ·exact⟨by kernel_rfl,by kernel_rfl,by kernel_rfl,by kernel_rfl,by kernel_rfl,by kernel_rfl⟩
 ·exact⟨by kernel_rfl,by kernel_rfl,by kernel_rfl,by kernel_rfl,by kernel_rfl,by kernel_rfl⟩
 ·exact⟨by kernel_rfl,by kernel_rfl,by kernel_rfl,by kernel_rfl,by kernel_rfl,by kernel_rfl⟩
 ·exact⟨by kernel_rfl,by kernel_rfl,by kernel_rfl,by kernel_rfl,by kernel_rfl,by kernel_rfl⟩
end
theorem zfz:BC X (.builtin "isinstance") zdD:=⟨_,zfY,fun ad H S ds vs Q0 Q st r ⟨x,t,b,e,h,q⟩ k=>by
 subst e
 obtain⟨v,u,rfl,rv,ru⟩:=zj5 r
 cases ru
 have fin:=k _ S _ H ad q Wd.refl st (.bl b)
 unfold zhP at h
 split at h
 ·cases h
 rename_i hty
 have hty':zcL t=true:=by
  cases hh:zcL t
  ·exact absurd (by show (!zcL t)=true;rw [hh];rfl) hty
  ·rfl
 obtain⟨k1,k2,k3,k4,k5,k6⟩:=zgT (K:=X.K) t hty'
 cases rv with
 | non=>cases h;exact⟨_,_,_,_,rfl,.non,k1,fin⟩
 | bl c=>cases h;exact⟨_,_,_,_,rfl,.bl c,k2,fin⟩
 | int i=>cases h;exact⟨_,_,_,_,rfl,.int i,k3,fin⟩
 | str y=>cases h;exact⟨_,_,_,_,rfl,.str y,k4,fin⟩
 | ty n=>cases h
 | exn _ _ _=>cases h
 | tup ht rt=>cases h;exact⟨_,_,_,_,rfl,.tup ht,k5,fin⟩
 | rl hl rl=>cases h
 | @ref n a hn =>
  have h:(match S[n]? with | some (.lst _)=>some (t=="list") | _=>none)=some b:=h
  cases hS:S[n]? with
  | none=>rw [hS] at h;cases h
  | some c =>
   rw [hS] at h
   cases c with
   | ins c fs=>cases h
   | dk _=>cases h
   | dt _=>cases h
   | lst xs =>
    cases h
    obtain⟨vs,hv,_⟩:=st.cell n a _ hn hS
    exact⟨_,_,_,_,rfl,.lst hv,k6,fin⟩⟩
end
end Dp
namespace Dp
open PySem PySem.Spec PyProof.Rows L2 My
variable [B:Bs]
def zdx (K:PySem.W.Frag)(b:Nat)(g':DG)(g:TG):Prop:=∀ ad H S ρ σ d v Q0 Q,zf K ad H S->zH K ad H ρ σ->Rel K ad H d v->g' d ρ S Q0 ->
 (∀ ρ' S' σ' H' ad',Q0 ρ' S'->Wd ad H ad' H'->zf K ad' H' S'->zH K ad' H' ρ' σ'->σ'.length=σ.length->(∀ j,b<=j->σ'[j]?=σ[j]?)->Q σ' H')->g v σ H Q
def zi4 (K:PySem.W.Frag)(b:Nat)(g':DGs)(g:TGs):Prop:=∀ ad H S ρ σ ds vs Q0 Q,zf K ad H S->zH K ad H ρ σ->za K ad H ds vs->g' ds ρ S Q0 ->
 (∀ ρ' S' σ' H' ad',Q0 ρ' S'->Wd ad H ad' H'->zf K ad' H' S'->zH K ad' H' ρ' σ'->σ'.length=σ.length->(∀ j,b<=j->σ'[j]?=σ[j]?)->Q σ' H')->g vs σ H Q
def PGD (X:Cx)(b:Nat)(tg:Expr)(g':DG):Prop:=∃ g,PG X tg g/\zdx X.K b g' g
def zeK (X:Cx)(b:Nat)(tgs:List Expr)(g':DGs):Prop:=∃ g,PGs X tgs g/\zi4 X.K b g' g
theorem zH.set {K:PySem.W.Frag}{ad:List Addr}{H:Hp}{ρ:Rho}{σ:L2.St}{d:D}{v:V}(h:zH K ad H ρ σ)(r:Rel K ad H d v)(i:Nat):zH K ad H (ρ.set i (some d)) (σ.set i (some v)) where
 len:=by rw [List.length_set,List.length_set];exact h.len
 val:=fun j e q=>by
  by_cases hj:j=i
  ·subst hj
   have hl:j<ρ.length:=by have:=My.zak q;rw [List.length_set] at this;exact this
   rw [List.getElem?_set_self hl] at q
   cases q
   exact⟨v,List.getElem?_set_self (by rw [<- h.len];exact hl),r⟩
  ·rw [List.getElem?_set_ne (Ne.symm hj)] at q
   obtain⟨u,e1,r1⟩:=h.val j e q
   exact⟨u,by rw [List.getElem?_set_ne (Ne.symm hj)];exact e1,r1⟩
section
variable {X:Cx}{pos:Pos}{b:Nat}
theorem zbI {K:PySem.W.Frag}(i:Nat)(hb:i<b):zdx K b (zB i) (L2.zB i):=fun ad H S ρ σ d v Q0 Q st rh r q k =>
 k _ S _ H ad q Wd.refl st (rh.set r i) (List.length_set ..) fun j hj=>List.getElem?_set_ne (by omega)
theorem zbu {i:Nat}{x:Str}(hN:X.N.Nodup)(hi:X.N[i]?=some x:=by rfl)(hx:Loc X.env.scope x:=by first | exact Or.inl rfl | exact Or.inr rfl)(hf:X.fn x=true\/X.env.scope.names.lookup x=some .local:=by first | exact .inl rfl | exact .inr rfl | assumption)(hb:i<b:=by decide):PGD X b (.Name x pos) (zB i) :=
 ⟨_,zcW hN hi hx hf,zbI i hb⟩
theorem zho:zeK X b [] zdp:=⟨_,zhf,fun ad H S ρ σ ds vs Q0 Q st rh r ⟨e,q⟩ k=>by
 subst e
 cases r
 exact⟨rfl,k ρ S σ H ad q Wd.refl st rh rfl fun _ _=>rfl⟩⟩
theorem zdN {e:Expr}{es:List Expr}{t:DG}{u:DGs}(h1:PGD X b e t)(h2:zeK X b es u)(hs:(assignEach (e::es) X.env).map (·.2)=assign e X.env::(assignEach es X.env).map (·.2):=by rfl):zeK X b (e::es) (zb3 t u):=by
 obtain⟨g1,p1,r1⟩:=h1
 obtain⟨g2,p2,r2⟩:=h2
 refine⟨_,zfZ p1 p2 hs,fun ad H S ρ σ ds vs Q0 Q st rh r ⟨d,rs,ed,q⟩ k=>?_⟩
 subst ed
 cases r with
 | cons r t =>
  refine⟨_,_,rfl,r1 ad H S ρ σ d _ _ _ st rh r q fun ρ1 S1 σ1 H1 ad1 q1 w1 st1 rh1 l1 a1=>?_⟩
  exact r2 ad1 H1 S1 ρ1 σ1 _ _ _ _ st1 rh1 (t.wd w1) q1 fun ρ2 S2 σ2 H2 ad2 q2 w2 st2 rh2 l2 a2=>k ρ2 S2 σ2 H2 ad2 q2 (w1.trans w2) st2 rh2 (l2.trans l1) fun j hj=>(a2 j hj).trans (a1 j hj)
theorem zhq {es:List Expr}{k n:Nat}{t:DGs}(hc:X.calm=true)(h:zeK X b es t)(hn:(assignEach es X.env).length=n:=by rfl)(hst:(assignEach es X.env).findIdx? (·.1)=none:=by rfl):PGD X b (.Tuple es k pos) (zds n t):=by
 obtain⟨g,p,r⟩:=h
 refine⟨_,zh1 hc p hn hst,fun ad H S ρ σ d v Q0 Q st rh rv ⟨xs,ed,hl,q⟩ k=>?_⟩
 subst ed
 cases rv with
 | tup h1 rs=>exact⟨_,_,rfl,SqT.of h1,by rw [<- rs.length];exact hl,r ad H S ρ σ xs _ _ _ st rh rs q k⟩
variable {st:Stmt}{sts:List Stmt}{t u:DS}{e:Expr}{te:DE}
theorem zR:zaY X [] zai:=by with_unfolding_all exact (zd3 zhi fun E σ H hh=>el8 hh fun ad ρ S E0 so rh q k=>k.nx ρ S σ H ad q Wd.refl so rh)
theorem zA (h:PSD X st t):zaY X [st] t:=by with_unfolding_all exact (zgH h)
theorem zu (h1:PSD X st t)(h2:zaY X sts u):zaY X (st::sts) (zP t u):=by with_unfolding_all exact (zd3 (zfU h1 h2) fun E σ H hh=>el8 hh fun ad ρ S E0 so rh q k =>
 ⟨ad,ρ,S,{ E0 with nx:=u E0 },so,rh,q,⟨fun ρ' S' σ' H' ad' q' w st' rh'=>⟨ad',ρ',S',E0,st',rh',q',k.wd w⟩,k.rt,k.bk,k.ct⟩⟩)
theorem zac (he:PD X e te):PSD X (.Return (some e) pos) (zaG te):=by with_unfolding_all exact (zaH (ziD he) fun E σ H hh=>el8 hh fun ad ρ S E0 so rh q k=>⟨ad,ρ,S,_,so,rh,q,k.rt⟩)
theorem zbZ (h:PSD X st t):PSD X st (sJ t):=by with_unfolding_all exact (zaH h fun E σ H ⟨ad,ρ,S,E0,so,rh,⟨J,hJ,q⟩,k⟩ =>
 ⟨ad,ρ,S,{ E0 with nx:=J },so,rh,q,⟨fun ρ' S' σ' H' ad' q' w st' rh'=>k.nx ρ' S' σ' H' ad' (hJ _ _ q') w st' rh',k.rt,k.bk,k.ct⟩⟩)
theorem z7 {c:Expr}{a b:List Stmt}{tc:DT}(hc:PTD X c tc)(ha:zaY X a t)(hb:zaY X b u):PSD X (.If c a b pos) (sIf tc t u):=by with_unfolding_all exact (zaH (zi5 hc ha hb) fun E σ H hh=>el8 hh fun ad ρ S E0 so rh q k =>
 ⟨ad,ρ,S,_,so,rh,q,fun b S' H' ad' q' w st'=>by
  cases b with
  | true=>rw [if_pos rfl] at q' ⊢;exact⟨ad',ρ,S',E0,st',rh.wd w,q',k.wd w⟩
  | false=>rw [if_neg Bool.false_ne_true] at q' ⊢;exact⟨ad',ρ,S',E0,st',rh.wd w,q',k.wd w⟩⟩)
theorem zL {i:Nat}{x:Str}{pos':Pos}(hN:X.N.Nodup)(he:PD X e te)(hi:X.N[i]?=some x:=by rfl)(hx:Loc X.env.scope x:=by first | exact Or.inl rfl | exact Or.inr rfl)(hs:swapsWith e (some (.Name x pos')) pos.line X.env=pure false:=by rfl)(hf:X.fn x=true\/X.env.scope.names.lookup x=some .local:=by first | exact .inl rfl | exact .inr rfl | assumption) :
  PSD X (.Assign [.Name x pos'] e pos) (zY te (zB i)):=by with_unfolding_all exact (zaH (zh2 hN hi hx he hs hf) fun E σ H hh=>el8 hh fun ad ρ S E0 so rh q k =>
 ⟨ad,ρ,S,_,so,rh,q,fun d S' v H' ad' q' w st' r=>k.nx _ S' _ H' ad' q' w st' ((rh.wd w).set r i)⟩)
theorem zgD {tg:Expr}{g:DG}(he:PD X e te)(hg:PGD X 1000 tg g)(hs:swapsWithSole [tg] e pos.line X.env=pure false:=by rfl)(hw:swappedStores [tg] e X.env=pure none:=by rfl)
  (h1:(assignEach [tg] X.env).map (·.2)=[assign tg X.env]:=by rfl):PSD X (.Assign [tg] e pos) (zY te g):=by
 with_unfolding_all
  obtain⟨g',p,r⟩:=hg
  exact zaH (ziA he p hs hw h1) fun E σ H hh=>el8 hh fun ad ρ S E0 so rh q k =>
   ⟨ad,ρ,S,_,so,rh,q,fun d S' v H' ad' q' w st' rv=>r ad' H' S' ρ σ d v _ _ st' (rh.wd w) rv q' fun ρ2 S2 σ2 H2 ad2 q2 w2 st2 rh2 _ _=>k.nx ρ2 S2 σ2 H2 ad2 q2 (w.trans w2) st2 rh2⟩
end
structure zdC (K:PySem.W.Frag)(ad0:List Addr)(H0:Hp)(J0:DIt)(J:It):Prop where
 go:∀ ad H S i,Wd ad0 H0 ad H->zf K ad H S->J0.ok S->i<J0.items.length->J.go i H
 yld:∀ ad H S i d x H',Wd ad0 H0 ad H->zf K ad H S->J0.ok S->J0.items[i]?=some d->J.yld i H x H'->Wd ad H ad H'/\zf K ad H' S/\Rel K ad H' d x
 stop:∀ ad H S,Wd ad0 H0 ad H->zf K ad H S->J0.ok S->J.stop J0.items.length H
def upI (K:PySem.W.Frag)(wi:DI):TI:=fun σ H R=>∃ ad ρ S R0,zf K ad H S/\zH K ad H ρ σ/\wi ρ S R0/\∀ J0 S' J H' ad',R0 J0 S'->Wd ad H ad' H'->zf K ad' H' S'->zdC K ad' H' J0 J->R J H'
@[irreducible] def PID (X:Cx)(tg iter:Expr)(wi:DI):Prop:=PI X tg iter (upI X.K wi)
theorem zeg {X:Cx}{tg iter:Expr}{w w':TI}(h:PI X tg iter w)(m:∀ σ H R,w' σ H R->w σ H R):PI X tg iter w':=fun pins s σ H R I q=>h pins s σ H R I (m σ H R q)
section
variable {X:Cx}{tg e:Expr}
def Its (z:Str):It:=⟨fun i _=>i<z.cps.size,fun i H x H'=>H'=H/\∃ c,z.cps[i]?=some c/\x=.str ⟨#[c]⟩,fun i _=>z.cps.size<=i⟩
theorem zfC {P:Program}{w:World}{K:PySem.W.Frag}{tg:Expr}(z:Str)(t:Tok)(it:Addr):Turn P w K tg (Its z) [it] it (fun i h=>h.IsStrIter it "str_ascii_iterator" z t i) where
 mem:=by simp
 obj:=fun i h st b hb=>by
  have e:b=it:=by simpa using hb
  subst e
  obtain⟨o,e,c,d⟩:=st
  exact⟨o,e,fun v y=>by rw [d] at y;cases y⟩
 keep:=fun i h h' st k=>let ⟨o,e,r⟩:=st;⟨o,k it (by simp) o e,r⟩
 item:=by
  intro X hP hw hK hc i pins s σ H E I hf st hg
  subst hP hw hK
  have hg:i<z.cps.size:=hg
  obtain⟨f0,f1,f2,f3,f4,f5⟩:=hf it (by simp)
  refine wpAny_pyNext_ascii_item st (c:=z.cps[i]) (by simp [hg]) fun h' st' sb=>?_
  have I1:Inv X pins σ H { s with heap:=h',toks:=s.toks+1 }:=I.turned (t':=s.toks+1) (fun b o hb e=>(sb.2 b hb).trans e) f0 f1 f3 f4 f5
  obtain⟨o,e,c,d⟩:=id st'
  exact⟨_,rfl,zcA (s:={ s with heap:=h',toks:=s.toks+1 }) e c d (by decide) ⟨.str ⟨#[z.cps[i]]⟩,H,I1,⟨_,rfl⟩,⟨rfl,z.cps[i],by simp [hg],rfl⟩,st',fun b hb=>(hf b hb).1⟩⟩
 done:=by
  intro X hP hw hK hc i pins s σ H E I hf st hg
  subst hP hw hK
  have hg:z.cps.size<=i:=hg
  obtain⟨f0,f1,f2,f3,f4,f5⟩:=hf it (by simp)
  exact wpAny_pyNext_ascii_end (I.ok.hd hc) st (by simp [hg]) fun h' eb=>⟨rfl,I.turned (t':=s.toks) (fun b o hb e=>eb b o hb e) f0 f1 f3 f4 f5⟩
 self:=fun _ _ _ _ _ st hQ=>wpAny_pyIter_striter_ascii st hQ
theorem ze6 {P:Program}{w:World}{K:PySem.W.Frag}{tg:Expr}(z:Str)(t:Tok)(it:Addr):Turn P w K tg (Its z) [it] it (fun i h=>h.IsStrIter it "str_iterator" z t i) where
 mem:=by simp
 obj:=fun i h st b hb=>by
  have e:b=it:=by simpa using hb
  subst e
  obtain⟨o,e,c,d⟩:=st
  exact⟨o,e,fun v y=>by rw [d] at y;cases y⟩
 keep:=fun i h h' st k=>let ⟨o,e,r⟩:=st;⟨o,k it (by simp) o e,r⟩
 item:=by
  intro X hP hw hK hc i pins s σ H E I hf st hg
  subst hP hw hK
  have hg:i<z.cps.size:=hg
  obtain⟨f0,f1,f2,f3,f4,f5⟩:=hf it (by simp)
  refine wpAny_pyNext_wide_item st (c:=z.cps[i]) (by simp [hg]) fun h' st' sb=>?_
  have I1:Inv X pins σ H { s with heap:=h',toks:=s.toks+1 }:=I.turned (t':=s.toks+1) (fun b o hb e=>(sb.2 b hb).trans e) f0 f1 f3 f4 f5
  obtain⟨o,e,c,d⟩:=id st'
  exact⟨_,rfl,zcA (s:={ s with heap:=h',toks:=s.toks+1 }) e c d (by decide) ⟨.str ⟨#[z.cps[i]]⟩,H,I1,⟨_,rfl⟩,⟨rfl,z.cps[i],by simp [hg],rfl⟩,st',fun b hb=>(hf b hb).1⟩⟩
 done:=by
  intro X hP hw hK hc i pins s σ H E I hf st hg
  subst hP hw hK
  have hg:z.cps.size<=i:=hg
  obtain⟨f0,f1,f2,f3,f4,f5⟩:=hf it (by simp)
  exact wpAny_pyNext_wide_end (I.ok.hd hc) st (by simp [hg]) fun h' eb=>⟨rfl,I.turned (t':=s.toks) (fun b o hb e=>eb b o hb e) f0 f1 f3 f4 f5⟩
 self:=fun _ _ _ _ _ st hQ=>wpAny_pyIter_striter_wide st hQ
def zg9 (K:PySem.W.Frag)(tl:TE):TI:=fun σ H R=>tl σ H fun x H1=>(∃ a,x=.ref a/\(((∃ xs,SqL K H1 a xs)/\R (Itl K a) H1)\/((∃ xs,SqT K H1 a xs)/\R (Itt K a) H1)))\/(∃ z,x=.str z/\R (Its z) H1)
theorem zfv {l:Expr}{tl:TE}(hl:PE X l tl):PI X tg l (zg9 X.K tl):=by
  intro pins s σ H R I h
  refine thn (hl pins s σ H _ I h) fun v s1 ⟨x,H1,I1,r1,q1⟩=>?_
  rcases q1 with ⟨a,e,q1⟩ | ⟨z,e,q⟩
  case inr =>
    subst e
    obtain⟨t,rfl⟩:=r1
    have fp:∀ b∈[s1.heap.objs.size],zbE X pins H1 b:=fun b hb=>by
      have e:b=s1.heap.objs.size:=by simpa using hb
      subst e
      exact I1.fpOk (Nat.le_refl _) (I1.hok.fresh (Nat.le_refl _))
    cases ha:z.cps.all (· < 128) with
    | true=>exact wpAny_pyIter_ascii ha ⟨s1.heap.objs.size,[s1.heap.objs.size],_,_,H1,rfl,I1.kept (t':=s1.toks) fun b o e=>Heap.get?_push_of_some _ e,zfC z t _,⟨_,Heap.get?_push_size _ rfl,rfl,rfl⟩,fp,q⟩
    | false=>exact wpAny_pyIter_wide ha ⟨s1.heap.objs.size,[s1.heap.objs.size],_,_,H1,rfl,I1.kept (t':=s1.toks) fun b o e=>Heap.get?_push_of_some _ e,ze6 z t _,⟨_,Heap.get?_push_size _ rfl,rfl,rfl⟩,fp,q⟩
  subst e
  cases r1
  rcases q1 with ⟨⟨xs,hq⟩,q⟩ | ⟨⟨xs,hq⟩,q⟩
  · obtain⟨its,rv,p,hz⟩:=I1.list hq
    refine wpAny_pyIter_list p.isList ?_
    refine⟨s1.heap.objs.size,[s1.heap.objs.size],_,_,H1,rfl,I1.kept (t':=s1.toks) fun b o e=>Heap.get?_push_of_some _ e,zfd a _,⟨_,Heap.get?_push_size _ rfl,rfl,rfl⟩,fun b hb=>?_,q⟩
    have e:b=s1.heap.objs.size:=by simpa using hb
    subst e
    exact I1.fpOk (Nat.le_refl _) (I1.hok.fresh (Nat.le_refl _))
  · obtain⟨its,rv,p,hz⟩:=I1.tuple hq
    refine wpAny_pyIter_tuple (show s1.heap.IsTuple a its.toArray from p) ?_
    refine⟨s1.heap.objs.size,[s1.heap.objs.size],_,_,H1,rfl,I1.kept (t':=s1.toks) fun b o e=>Heap.get?_push_of_some _ e,zeT a _,⟨_,Heap.get?_push_size _ rfl,rfl,rfl⟩,fun b hb=>?_,q⟩
    have e:b=s1.heap.objs.size:=by simpa using hb
    subst e
    exact I1.fpOk (Nat.le_refl _) (I1.hok.fresh (Nat.le_refl _))
theorem zio {K:PySem.W.Frag}{ad:List Addr}{H:Hp}(z:Str):zdC K ad H ⟨signs z,fun _=>True⟩ (Its z) where
 go:=fun ad1 H1 S i w st _ hi=>by
  show i<z.cps.size
  have:i<(signs z).length:=hi
  unfold signs at this
  rw [List.length_map] at this
  simpa using this
 yld:=fun ad1 H1 S i d x H' w st _ hd ⟨e,c,hc,hx⟩=>by
  subst e hx
  have hd:(signs z)[i]?=some d:=hd
  unfold signs at hd
  rw [List.getElem?_map,Array.getElem?_toList,hc] at hd
  cases hd
  exact⟨Wd.refl,st,.str _⟩
 stop:=fun ad1 H1 S w st _=>by
  show z.cps.size<=(signs z).length
  unfold signs
  rw [List.length_map];simp
theorem zhW {K:PySem.W.Frag}{ad:List Addr}{H:Hp}{a:Addr}{vs:List V}{ds:List D}(h:H a=some (.tup vs))(r:za K ad H ds vs):zdC K ad H ⟨ds,fun _=>True⟩ (Itt K a) where
 go:=fun ad1 H1 S i w st _ hi=>⟨vs,vs[i]'(by rw [<- r.length];exact hi),SqT.of (w.tup _ _ h),List.getElem?_eq_getElem _⟩
 yld:=fun ad1 H1 S i d x H' w st _ hd ⟨e,hx⟩=>by
  subst e
  obtain⟨v,ev,rv⟩:=r.get hd
  rw [hx vs (SqT.of (w.tup _ _ h))] at ev
  cases ev
  exact⟨Wd.refl,st,rv.wd w⟩
 stop:=fun ad1 H1 S w st _=>⟨vs,SqT.of (w.tup _ _ h),by rw [<- r.length];exact Nat.le_refl _⟩
theorem zhY {K:PySem.W.Frag}{ad:List Addr}{H:Hp}{a:Addr}{x:D}{ds:List D}(r:Rel K ad H x (.ref a)):zdC K ad H ⟨ds,fun S=>Lst S x ds⟩ (Itl K a) where
 go:=fun ad1 H1 S i w st ok hi=>by
  obtain⟨a',vs,e,s,rs⟩:=Lst.sq st ok (r.wd w)
  cases e
  exact⟨vs,vs[i]'(by rw [<- rs.length];exact hi),s,List.getElem?_eq_getElem _⟩
 yld:=fun ad1 H1 S i d y H' w st ok hd ⟨e,hx⟩=>by
  subst e
  obtain⟨a',vs,e,s,rs⟩:=Lst.sq st ok (r.wd w)
  cases e
  obtain⟨v,ev,rv⟩:=rs.get hd
  rw [hx vs s] at ev
  cases ev
  exact⟨Wd.refl,st,rv⟩
 stop:=fun ad1 H1 S w st ok=>by
  obtain⟨a',vs,e,s,rs⟩:=Lst.sq st ok (r.wd w)
  cases e
  exact⟨vs,s,by rw [<- rs.length];exact Nat.le_refl _⟩
theorem zd8 {t:DE}(h:PD X e t):PID X tg e (zdm t):=by with_unfolding_all exact (zeg (zfv h) fun σ H R hh=>el8 hh fun ad ρ S R0 st rh q k =>
 ⟨ad,ρ,S,_,st,rh,q,fun x S1 v H1 ad1 q1 w1 st1 r1=>by
  rcases q1 with ⟨xs,rfl,q1⟩ | ⟨xs,hx,q1⟩ | ⟨z,rfl,q1⟩
  ·cases r1 with
   | tup h1 rs=>exact .inl ⟨_,rfl,.inr ⟨⟨_,SqT.of h1⟩,k _ S1 _ H1 ad1 q1 w1 st1 (zhW h1 rs)⟩⟩
  ·obtain⟨a,vs,rfl,s,rs⟩:=hx.sq st1 r1
   exact .inl ⟨a,rfl,.inl ⟨⟨vs,s⟩,k _ S1 _ H1 ad1 q1 w1 st1 (zhY r1)⟩⟩
  ·cases r1
   exact .inr ⟨z,rfl,k _ S1 _ H1 ad1 q1 w1 st1 (zio z)⟩⟩)
theorem zfO {lo:Int}{n i:Nat}{d:D}(h:(upto lo n)[i]?=some d):i<n/\d=.int (lo+i):=by
 unfold upto at h
 rw [List.getElem?_map] at h
 have hi:=My.zak (xs:=List.range n) (i:=i) (x:=i)
 cases hr:(List.range n)[i]? with
 | none=>rw [hr] at h;cases h
 | some k =>
  rw [hr] at h
  have h1:=My.zak hr
  rw [List.length_range] at h1
  have h2:(List.range n)[i]?=some i:=List.getElem?_range h1
  rw [hr] at h2
  cases h2
  cases h
  exact⟨h1,rfl⟩
theorem zdZ (lo:Int)(n:Nat):(upto lo n).length=n:=by unfold upto;rw [List.length_map,List.length_range]
theorem zih {K:PySem.W.Frag}{ad:List Addr}{H:Hp}(lo:Int)(n:Nat):zdC K ad H ⟨upto lo n,fun _=>True⟩ (Itr lo n) where
 go:=fun ad1 H1 S i w st _ hi=>by rw [zdZ] at hi;exact hi
 yld:=fun ad1 H1 S i d x H' w st _ hd ⟨e,hx⟩=>by
  subst e
  obtain⟨_,rfl⟩:=zfO hd
  rw [hx]
  exact⟨Wd.refl,st,.int _⟩
 stop:=fun ad1 H1 S w st _=>by rw [zdZ];exact Nat.le_refl _
theorem zgL {a:Expr}{t:DA}{p pos:Pos}(hm:X.mg "range"=none)(ha:PAD X [a] t)(hg:Gl X "range":=by rfl)(hs:starEach [a] X.env=[(false,eval a X.env)]:=by exact zdw rfl):PID X tg (.Call (.Name "range" p) [a] [] pos) (zcG t):=by with_unfolding_all exact (zeg (zfo hg hm ha hs) fun σ H R hh=>el8 hh fun ad ρ S R0 st rh q k =>
 ⟨ad,ρ,S,_,st,rh,q,fun ds S1 vs H1 ad1 ⟨j,ed,b1,b2,q1⟩ w1 st1 r1=>by
  subst ed
  obtain⟨v,rfl,rv⟩:=zbL r1
  cases rv
  exact⟨j,rfl,b1,b2,k _ S1 _ H1 ad1 q1 w1 st1 (zih 0 j.toNat)⟩⟩)
theorem zej {iter:Expr}{body:List Stmt}{wi:DI}{g:DG}{t:DS}{pos:Pos}(hi:PID X tg iter wi)(hg:PGD X 1000 tg g)(hb:zaY X body t)(hp:PassesOwn (model X.prog X.w) X.A X.env X.xe:=by first | exact PassesOwn.never | exact PassesOwn.leaving)(hc:X.calm=true:=by rfl)(hs:∀ x,foldedSetIterable iter X.env x=pure x:=by intro _;rfl):PSD X (.For tg iter body [] pos) (zeS wi g t):=by
 with_unfolding_all
  obtain⟨g',pg,rg⟩:=hg
  refine zaH (zhH hp hc hi pg hb hs) fun E σ H hh=>el8 hh fun ad ρ S E0 so rh q k=>?_
  refine⟨ad,ρ,S,_,so,rh,q,fun J0 S1 J H1 ad1 ⟨W,w0,hok,step,fin⟩ d1 st1 it=>?_⟩
  refine⟨fun i m σ' H'=>m=J0.items.length-i/\i<=J0.items.length/\∃ ad' ρ' S',W i ρ' S'/\Wd ad1 H1 ad' H'/\zf X.K ad' H' S'/\zH X.K ad' H' ρ' σ',⟨J0.items.length,rfl,Nat.zero_le _,ad1,ρ,S1,w0,Wd.refl,st1,rh.wd d1⟩,?_⟩
  rintro i m σ2 H2 ⟨rfl,hi2,ad2,ρ2,S2,w2,d2,st2,rh2⟩
  by_cases hlt:i<J0.items.length
  ·have ed:J0.items[i]?=some J0.items[i]:=List.getElem?_eq_getElem hlt
   refine .inr ⟨it.go ad2 H2 S2 i d2 st2 (hok _ _ _ w2) hlt,fun σ' H'=>∃ ad' ρ' S',W (i+1) ρ' S'/\Wd ad1 H1 ad' H'/\zf X.K ad' H' S'/\zH X.K ad' H' ρ' σ',?_,fun x H' hy=>?_⟩
   ·rintro σ' H' ⟨ad',ρ',S',w',d',st',rh'⟩
    exact⟨J0.items.length-(i+1),by omega,rfl,hlt,ad',ρ',S',w',d',st',rh'⟩
   ·obtain⟨d3,st3,r3⟩:=it.yld ad2 H2 S2 i _ x H' d2 st2 (hok _ _ _ w2) ed hy
    refine rg ad2 H' S2 ρ2 σ2 _ x _ _ st3 (rh2.wd d3) r3 (step i _ ρ2 S2 ed w2) fun ρ4 S4 σ4 H4 ad4 q4 d4 st4 rh4 _ _=>?_
    have d14:=(d2.trans d3).trans d4
    have d04:=d1.trans d14
    exact⟨ad4,ρ4,S4,{ E0 with nx:=W (i+1),ct:=W (i+1),bk:=E0.nx },st4,rh4,q4,⟨fun ρ' S' σ' H' ad' q' w' st' rh'=>⟨ad',ρ',S',q',d14.trans w',st',rh'⟩,k.rt.wd d04,fun ρ' S' σ' H' ad' q' w' st' rh'=>k.nx ρ' S' σ' H' ad' q' (d04.trans w') st' rh',fun ρ' S' σ' H' ad' q' w' st' rh'=>⟨ad',ρ',S',q',d14.trans w',st',rh'⟩⟩⟩
  ·have e:i=J0.items.length:=by omega
   subst e
   exact .inl ⟨it.stop ad2 H2 S2 d2 st2 (hok _ _ _ w2),k.nx ρ2 S2 σ2 H2 ad2 (fin ρ2 S2 w2) (d1.trans d2) st2 rh2⟩
end
theorem zdq:∀ {a b:L2.St} (n:Nat),(∀ j,j<n->a[j]?=some none\/a.length<=j)->b.length=a.length->(∀ j,n<=j->b[j]?=a[j]?)->Agr a b
 | [],[],_,_,_,_=>True.intro
 | [],_::_,_,_,h,_=>by simp at h
 | _::_,[],_,_,h,_=>by simp at h
 | x::a,y::b,n,h0,hl,h=>by
  have hl':b.length=a.length:=by simpa using hl
  cases n with
  | zero =>
   have e:=h 0 (Nat.le_refl _)
   have e':y=x:=by simpa using e
   subst e'
   have rest:Agr a b:=zdq 0 (fun j hj=>absurd hj (Nat.not_lt_zero _)) hl' fun j _=>by simpa using h (j+1) (Nat.zero_le _)
   cases y with
   | none=>exact rest
   | some v=>exact⟨rfl,rest⟩
  | succ n =>
   have rest:Agr a b:=zdq n (fun j hj=>by
    rcases h0 (j+1) (by omega) with e | e
    ·exact .inl (by simpa using e)
    ·exact .inr (by simpa using e)) hl' fun j hj=>by simpa using h (j+1) (by omega)
   rcases h0 0 (Nat.succ_pos _) with e | e
   ·have e':x=none:=by simpa using e
    subst e'
    exact rest
   ·simp at e
theorem zgx {K:PySem.W.Frag}{ad:List Addr}{H:Hp}{ρ:Rho}{σ:L2.St}(h:zH K ad H ρ σ)(own:List Str)(fv:List Nat):zH K ad H (zch own.length fv ρ) (cst own fv σ) where
  len:=by unfold zch cst;rw [List.length_append,List.length_append,List.length_replicate,List.length_replicate,List.length_map,List.length_map]
  val:=fun i d e=>by
    unfold zch at e
    unfold cst
    by_cases hi:i<own.length
    · rw [List.getElem?_append_left (by rw [List.length_replicate];exact hi),List.getElem?_replicate] at e
      split at e<;>cases e
    · have hi':own.length<=i:=Nat.le_of_not_lt hi
      rw [List.getElem?_append_right (by rw [List.length_replicate];exact hi'),List.length_replicate,List.getElem?_map] at e
      rw [List.getElem?_append_right (by rw [List.length_replicate];exact hi'),List.length_replicate,List.getElem?_map]
      cases hf:fv[i-own.length]? with
      | none=>rw [hf] at e;cases e
      | some j =>
        rw [hf] at e
        simp only [Option.map_some,Option.some.injEq] at e ⊢
        cases hr:ρ[j]? with
        | none=>rw [hr] at e;cases e
        | some o =>
          rw [hr] at e
          have e':o=some d:=e
          subst e'
          obtain⟨v,ev,rv⟩:=h.val j d hr
          exact⟨v,by rw [ev];rfl,rv⟩
@[irreducible] def zgd (X:Cx)(ifs:List Expr)(t:DT):Prop:=PFs X ifs (upT X.K t)
theorem zeq {X:Cx}:zgd X [] zdl:=by with_unfolding_all exact (fun pins s σ H Q I hh=>el8 hh fun ad ρ S Q0 st rh q k=>ziu pins s σ H Q I (k true S H ad q Wd.refl st))
theorem ofT {A B:Prop}(h:if true=true then A else B):A:=by rw [if_pos rfl] at h;exact h
theorem ofF {A B:Prop}(h:if false=true then A else B):B:=by rw [if_neg Bool.false_ne_true] at h;exact h
theorem zgn {K:PySem.W.Frag}{own:List Str}{fv:List Nat}{wi:DI}{g:DG}{g':TG}{tc:DT}{te:DE}(rg:zdx K own.length g g'){σ:L2.St}{H:Hp}{Q:VK}(h:up K (dLC own.length fv wi g tc te) σ H Q):tLC own fv (upI K wi) g' (upT K tc) (up K te) σ H Q:=by
 obtain⟨ad,ρ,S,Q0,so,rh,q,k⟩:=h
 refine⟨ad,ρ,S,_,so,rh,q,fun J0 S1 J H1 ad1 ⟨hbig,W,w0,hok,step,fin⟩ d1 st1 it=>?_⟩
 intro p hp
 refine⟨fun i m H'=>m=J0.items.length-i/\i<=J0.items.length/\∃ ad' S' ys vs,W i ys S'/\Wd ad1 H1 ad' H'/\zf K ad' H' S'/\p∉ad'/\H' p=some (.lst vs)/\za K ad' H' ys vs/\vs.length<=i,
  ⟨J0.items.length,rfl,Nat.zero_le _,ad1,S1,[],[],w0,Wd.laid hp,st1.laid hp,st1.fresh hp,zam,.nil,Nat.le_refl _⟩,?_⟩
 rintro i m H2 ⟨rfl,hi2,ad2,S2,ys,vs,w2,d2,st2,hp2,hv2,r2,hl2⟩
 by_cases hlt:i<J0.items.length
 ·have ed:J0.items[i]?=some J0.items[i]:=List.getElem?_eq_getElem hlt
  refine .inr ⟨it.go ad2 H2 S2 i d2 st2 (hok _ _ _ w2) hlt,fun x H' hy=>?_⟩
  obtain⟨d3,st3,r3⟩:=it.yld ad2 H2 S2 i _ x H' d2 st2 (hok _ _ _ w2) ed hy
  have rh3:=zgx (rh.wd ((d1.trans d2).trans d3)) own fv
  refine rg ad2 H' S2 _ _ _ x _ _ st3 rh3 r3 (step i _ ys S2 ed w2) fun ρ4 S4 σ4 H4 ad4 q4 d4 st4 rh4 l4 a4=>?_
  refine⟨zdq own.length (fun j hj=>.inl ?_) l4 a4,ad4,ρ4,S4,_,st4,rh4,q4,fun b S5 H5 ad5 q5 d5 st5=>?_⟩
  ·unfold cst
   rw [List.getElem?_append_left (by rw [List.length_replicate];exact hj),List.getElem?_replicate,if_pos hj]
  have fwd:∀ {ad9:List Addr} {H9:Hp},Wd ad2 H2 ad9 H9->p∉ad9/\H9 p=some (.lst vs):=fun {ad9 H9} w=>⟨(fun m=>by
   have z:=w.new p m hp2
   rw [hv2] at z;cases z),w.keep p _ hp2 hv2⟩
  have d25:=(d3.trans d4).trans d5
  cases b with
  | true =>
   refine zgi ?_
   have q5:=Dp.ofT q5
   refine⟨ad5,ρ4,S5,_,st5,rh4.wd d5,q5,fun y S6 v H6 ad6 q6 d6 st6 r6=>?_⟩
   have d26:=d25.trans d6
   obtain⟨n6,e6⟩:=fwd d26
   have hw:Wr ad6 H6 ad6 (upd H6 p (.lst (vs++[v]))):=Wr.hid e6
   have hvl:vs.length<sizeLine:=ziC (by omega)
   exact⟨vs,e6,hvl,J0.items.length-(i+1),by omega,rfl,hlt,ad6,S6,ys++[y],vs++[v],q6,(d2.trans d26).hid hp,st6.hid e6 n6 (st1.bfree hp),n6,zam,za.wr hw ((r2.wd d26).append (.cons r6 .nil)),by rw [List.length_append];exact Nat.succ_le_succ hl2⟩
  | false =>
   refine zf1 ?_
   have q5:=Dp.ofF q5
   obtain⟨n5,e5⟩:=fwd d25
   exact⟨J0.items.length-(i+1),by omega,rfl,hlt,ad5,S5,ys,vs,q5,d2.trans d25,st5,n5,e5,r2.wd d25,by omega⟩
 ·have e:i=J0.items.length:=by omega
  subst e
  refine .inl ⟨it.stop ad2 H2 S2 d2 st2 (hok _ _ _ w2),?_⟩
  exact k _ _ _ _ (ad2++[p]) (fin ys S2 w2) (d1.trans (d2.add hp)) (st2.add hv2 hp2 r2 (st1.bfree hp)) (.ref (by rw [<- st2.len,List.getElem?_append_right (Nat.le_refl _),Nat.sub_self];rfl))
section
variable {X:Cx}{sc:Scope}{tg iter elt:Expr}{ifs:List Expr}{own free:List Str}{fv:List Nat}{wi:DI}{g:DG}{tc:DT}{te:DE}{pos:Pos}
theorem zjH {g':TG}(hfr:zaJ (fun x=>X.env.kindOf x=some .cell) sc.names)(hfv:zbX X sc free fv)(hi:PID X tg iter wi)
  (hg:zdx X.K own.length g g'/\∀ cl C s₀ H₀ ex,PG (inner X sc (own++free) cl C s₀ H₀ ex) tg g') (ht:∀ cl C s₀ H₀ ex,zgd (inner X sc (own++free) cl C s₀ H₀ ex) ifs tc) (he:∀ cl C s₀ H₀ ex,PD (inner X sc (own++free) cl C s₀ H₀ ex) elt te) (hcalm:X.calm=true:=by rfl) (hxe:(X.xe=fun _ _=>False):=by rfl) (hkind:sc.kind=.function:=by rfl) (hcell:∀ y∈sc.names,y.2≠.cell:=by decide +kernel) (hnames:∀ y∈sc.names,y.2=.local->sc.names.lookup y.1=some .local:=by decide +kernel)
  (hs:∀ x,foldedSetIterable iter X.env x=pure x:=by intro _;rfl):PD X (.ListComp elt [⟨tg,iter,ifs,0⟩] sc pos) (dLC own.length fv wi g tc te):=by with_unfolding_all exact (z8 (zjh (tc:=upT X.K tc) (te:=up X.K te) hcalm hxe hkind hcell hnames hfr hfv hi hg.2 ht he hs) fun _ _ _=>zgn hg.1)
theorem zfV {g':TG}{i:Nat}{y:Str}{py spos:Pos}(hN:X.N.Nodup)(hfr:zaJ (fun x=>X.env.kindOf x=some .cell) sc.names)(hfv:zbX X sc free fv)(hi:PID X tg iter wi)
  (hg:zdx X.K own.length g g'/\∀ cl C s₀ H₀ ex,PG (inner X sc (own++free) cl C s₀ H₀ ex) tg g') (ht:∀ cl C s₀ H₀ ex,zgd (inner X sc (own++free) cl C s₀ H₀ ex) ifs tc) (he:∀ cl C s₀ H₀ ex,PD (inner X sc (own++free) cl C s₀ H₀ ex) elt te) (hy:X.N[i]?=some y:=by rfl) (hyl:X.env.scope.names.lookup y=some .local:=by rfl) (hcalm:X.calm=true:=by rfl) (hxe:(X.xe=fun _ _=>False):=by rfl) (hkind:sc.kind=.function:=by rfl) (hcell:∀ y∈sc.names,y.2≠.cell:=by decide +kernel) (hnames:∀ y∈sc.names,y.2=.local->sc.names.lookup y.1=some .local:=by decide +kernel)
  (hsw:swapsWith (.ListComp elt [⟨tg,iter,ifs,0⟩] sc pos) (some (.Name y py)) spos.line X.env=pure true:=by rfl)
  (hs:∀ x,foldedSetIterable iter X.env x=pure x:=by intro _;rfl):PSD X (.Assign [.Name y py] (.ListComp elt [⟨tg,iter,ifs,0⟩] sc pos) spos) (zY (dLC own.length fv wi g tc te) (zB i)):=by with_unfolding_all exact (zaH (zha (tc:=upT X.K tc) (te:=up X.K te) hN hy hyl hcalm hxe hkind hcell hnames hfr hfv hi hg.2 ht he hsw hs) fun E σ H hh=>el8 hh fun ad ρ S E0 so rh q k =>
  zgn (Q:=fun x H1=>L2.zB i x σ H1 E.nx) hg.1 ⟨ad,ρ,S,_,so,rh,q,fun d S' v H' ad' q' w st' r=>k.nx _ S' _ H' ad' q' w st' ((rh.wd w).set r i)⟩)
end
theorem zdP {K:PySem.W.Frag}{ad:List Addr}{H:Hp}{ds:List D}{vs:List V}(N:List Str)(r:za K ad H ds vs):zH K ad H (zaO N.length ds) (L2.start N vs) where
  len:=by unfold zaO L2.start;rw [List.length_append,List.length_append,List.length_map,List.length_map,List.length_replicate,List.length_replicate,r.length]
  val:=fun i d e=>by
    unfold zaO at e
    unfold L2.start
    by_cases hi:i<ds.length
    · rw [List.getElem?_append_left (by rw [List.length_map];exact hi),List.getElem?_map] at e
      rw [List.getElem?_append_left (by rw [List.length_map,<- r.length];exact hi),List.getElem?_map]
      cases hd:ds[i]? with
      | none=>rw [hd] at e;cases e
      | some d' =>
        rw [hd] at e
        cases e
        obtain⟨v,ev,rv⟩:=r.get hd
        exact⟨v,by rw [ev];rfl,rv⟩
    · rw [List.getElem?_append_right (by rw [List.length_map];exact Nat.le_of_not_lt hi),List.getElem?_replicate] at e
      split at e<;>cases e
theorem za.cut1 {K:PySem.W.Frag}{ad ad':List Addr}{H:Hp}(k:Nat)(h1:∀ d v,fl k d=true->Rel K ad H d v->Rel K ad' H d v):∀ ds vs,ds.all (fl k)=true->za K ad H ds vs->za K ad' H ds vs:=by
 intro ds
 induction ds with
 | nil=>intro vs _ r;cases r;exact .nil
 | cons d ds ih =>
  intro vs hf r
  rw [List.all_cons,Bool.and_eq_true] at hf
  cases r with
  | cons r t=>exact .cons (h1 d _ hf.1 r) (ih _ hf.2 t)
theorem Rel.cut {K:PySem.W.Frag}{ad ad':List Addr}{H:Hp}:∀ (k:Nat) (d:D) (v:V),fl k d=true->Rel K ad H d v->Rel K ad' H d v:=by
 intro k
 induction k with
 | zero =>
  intro d v hf r
  cases r with
  | non=>exact .non
  | bl b=>exact .bl b
  | int i=>exact .int i
  | str x=>exact .str x
  | ty n=>cases hf
  | tup h r=>cases hf
  | rl h r=>cases hf
  | ref h=>cases hf
  | exn _ _ _=>cases hf
 | succ k ih =>
  intro d v hf r
  cases r with
  | non=>exact .non
  | bl b=>exact .bl b
  | int i=>exact .int i
  | str x=>exact .str x
  | ty n=>cases hf
  | tup h r=>exact .tup h (za.cut1 k ih _ _ hf r)
  | rl h r=>cases hf
  | ref h=>cases hf
  | exn _ _ _=>cases hf
theorem za.cut {K:PySem.W.Frag}{ad ad':List Addr}{H:Hp}(k:Nat)(ds:List D)(vs:List V)(hf:ds.all (fl k)=true)(r:za K ad H ds vs):za K ad' H ds vs:=za.cut1 k (Rel.cut k) ds vs hf r
end Dp
namespace Dp
open PySem PySem.Spec PyProof.Rows L2 My
variable [B:Bs]
mutual
theorem Rel.low {K:PySem.W.Frag}{ad ad':List Addr}{H H':Hp}{m:Nat}(hm:ad.length<=m):∀ {d:D} {u v:V},Rel K ad H d u->Rel K ad' H' d v->Rel K (ad'.take m) H' d v
 | _,_,_,.non,.non=>.non
 | _,_,_,.bl b,.bl _=>.bl b
 | _,_,_,.int i,.int _=>.int i
 | _,_,_,.str x,.str _=>.str x
 | _,_,_,.ty n,.ty _=>.ty n
 | _,_,_,.tup _ r,.tup h r'=>.tup h (za.low hm r r')
 | _,_,_,.rl _ r,.rl h r'=>.rl h (za.low hm r r')
 | _,_,_,.exn _ _ _,.exn h e n=>.exn h e n
 | _,_,_,.ref h,.ref h'=>.ref (by rw [List.getElem?_take_of_lt (Nat.lt_of_lt_of_le (My.zak h) hm)];exact h')
theorem za.low {K:PySem.W.Frag}{ad ad':List Addr}{H H':Hp}{m:Nat}(hm:ad.length<=m):∀ {ds:List D} {us vs:List V},za K ad H ds us->za K ad' H' ds vs->za K (ad'.take m) H' ds vs
 | _,_,_,.nil,.nil=>.nil
 | _,_,_,.cons r t,.cons r' t'=>.cons (Rel.low hm r r') (za.low hm t t')
end
theorem zav.low {K:PySem.W.Frag}{ad ad':List Addr}{H H':Hp}{m:Nat}(hm:ad.length<=m):∀ {fs:List (Str×D)} {us vs:List (Str×V)},zav K ad H fs us->zav K ad' H' fs vs->zav K (ad'.take m) H' fs vs
 | _,_,_,.nil,.nil=>.nil
 | _,_,_,.cons r t,.cons r' t'=>.cons (Rel.low hm r r') (zav.low hm t t')
theorem RelK.low {K:PySem.W.Frag}{ad ad':List Addr}{H H':Hp}{m:Nat}(hm:ad.length<=m):∀ {fs:List (Str×D)} {us vs:List (Key×V)},RelK K ad H fs us->RelK K ad' H' fs vs->RelK K (ad'.take m) H' fs vs
 | _,_,_,.nil,.nil=>.nil
 | _,_,_,.cons r t,.cons r' t'=>.cons (Rel.low hm r r') (RelK.low hm t t')
theorem zaw.low {K:PySem.W.Frag}{ad ad':List Addr}{H H':Hp}{m:Nat}(hm:ad.length<=m):∀ {fs:List (List Key×D)} {us vs:List (List Key×V)},zaw K ad H fs us->zaw K ad' H' fs vs->zaw K (ad'.take m) H' fs vs
 | _,_,_,.nil,.nil=>.nil
 | _,_,_,.cons r t,.cons r' t'=>.cons (Rel.low hm r r') (zaw.low hm t t')
theorem zcI {K:PySem.W.Frag}{ad:List Addr}{H:Hp}{S:Sto}{Q0:DK}{Q:VK}(st:zf K ad H S)(k:KK K ad H Q0 Q):KK K ad H (Fin S Q0) Q:=by
 intro d S' v H' ad' hf w st' r
 rcases hf with q | ⟨S1,pre,hlen,hd,hc,q⟩
 ·exact k d S' v H' ad' q w st' r
 have hS:S1.length<=S'.length:=pre.length_le
 have had:ad.length<=S1.length:=by rw [st.len];exact hlen
 have htk:∀ {n:Nat} {a:Addr},(ad'.take S1.length)[n]?=some a->ad'[n]?=some a:=fun {n a} e=>by
  have hn:=My.zak e
  rw [List.length_take] at hn
  rw [List.getElem?_take_of_lt (by omega)] at e
  exact e
 have w1:Wd ad H (ad'.take S1.length) H':=by
  refine⟨?_,w.keep,w.tup,w.frz,fun b m n=>w.new b (List.mem_of_mem_take m) n⟩
  obtain⟨t,rfl⟩:=w.pre
  rw [List.take_append,List.take_of_length_le had]
  exact List.prefix_append _ _
 refine k d S1 v H' _ q w1 ⟨st.wd.trans w1,by rw [List.length_take,st'.len];omega,st'.nd.sublist (List.take_sublist _ _),fun n a c e1 e2=>?_⟩ ?_
 ·have e1':=htk e1
  have ok:=st'.cell n a c e1' (zeh pre e2)
  rcases hc n c e2 with h | h
  ·obtain⟨a0,ea,ok0⟩:=st.get h
   cases c with
   | ins c fs =>
    obtain⟨C,dx,vs,hv,c1,c2,rv,hn⟩:=ok
    obtain⟨_,_,us,_,_,_,ru,_⟩:=ok0
    exact⟨C,dx,vs,hv,c1,c2,zav.low had ru rv,hn⟩
   | dk kvs =>
    obtain⟨vs,hv,rv⟩:=ok
    obtain⟨us,hu,ru⟩:=ok0
    exact⟨vs,hv,RelK.low had ru rv⟩
   | dt kvs =>
    obtain⟨vs,hv,rv⟩:=ok
    obtain⟨us,hu,ru⟩:=ok0
    exact⟨vs,hv,zaw.low had ru rv⟩
   | lst xs =>
    obtain⟨vs,hv,rv⟩:=ok
    obtain⟨us,hu,ru⟩:=ok0
    exact⟨vs,hv,za.low had ru rv⟩
  ·cases c with
   | ins c fs=>cases h
   | dk _=>cases h
   | dt _=>cases h
   | lst xs =>
    obtain⟨vs,hv,rv⟩:=ok
    exact⟨vs,hv,za.cut 20 _ _ h rv⟩
 ·rcases hd with h | ⟨n,rfl,hn⟩
  ·exact Rel.cut 20 _ _ h r
  ·cases r with
   | ref e=>exact .ref (by rw [List.getElem?_take_of_lt hn];exact e)
omit B in
theorem zbl {P:Program}{w:World}{K:PySem.W.Frag}{mg:Str->Option Value}{base:Heap}{x qual:Str}{st:Stmt}{f:Addr}{fd:FuncData}{N ps:List Str}{k:Nat}{sp:DSp}{b:DS}(F:Fun K x qual st f fd)(S:z6 N ps (zx st))
  (len:∀ ds So Q,sp ds So Q->ds.length=ps.length) (body:BodyOk N.length b sp)
  (term:∀ (cdv:Value) (A:Around) (outer:List Env) (s:Shared) (H:Hp) (E:XK),zO k (A.deeper (envOfC qual (zx st) s.heap.objs.size f cdv))->∀ [Bs],zaY (zbk CX0 P w K mg base N qual (zx st) f cdv A outer s H E).nox (zX st) b) :
  zZ P w K mg base CX0 (k+1) f fd ps (upF K sp):=by
 with_unfolding_all
  refine F.ok S (fun vs H Q E ⟨ad,So,ds,Q0,so,r,hf,kk⟩=>by rw [<- r.length];exact len ds So Q0 hf) fun cdv A outer s H vs Q E hr ⟨ad,So,ds,Q0,so,r,hf,kk⟩=>?_
  letI:Bs:=⟨ad,H⟩
  refine⟨_,term cdv A outer s H E hr,ad,zaO N.length ds,So,_,so,zdP N r,body ds So Q0 hf,⟨fun ρ S' σ H' ad' q w' st' rh=>zcI so kk .non S' .non H' ad' q w' st' .non,zcI so kk,fun _ _ _ _ _ q=>q.elim,fun _ _ _ _ _ q=>q.elim⟩⟩
omit B in
theorem zhS {K:PySem.W.Frag}{H:Hp}{a:Addr}{ns:List Int}(hl:ns.length<=63)(hg:∀ n∈ns,Hg n)(hO:Only H)(hS:SqL K H a (ns.map V.int)):upF K za3 [.ref a] H (fun v _=>v=.bl true) fun _ _ _=>False:=by
 have hr:zcn K H a (ns.map V.int):=by
  rcases hS with (h | h) | h
  ·rcases hO a with e | ⟨o,xs,e⟩
   ·rw [h] at e;cases e
   ·rw [h] at e;cases e
  ·exact .inl h
  ·exact .inr h
 refine⟨[],[],[.rl (ns.map D.int)],fun d _=>d=.bl true,@zf.mk ⟨[],H⟩ _ _ _ _ Wd.refl rfl List.nodup_nil (fun n a c e=>by simp at e),.cons (.rl hr (za.mk_ints ns)) .nil,⟨ns,rfl,⟨rfl,hg⟩,hl,fun _=>rfl⟩,fun d S' v H' ad' q w st' r=>?_⟩
 have q':d=.bl true:=q
 subst q'
 cases r
 rfl
omit B in
theorem zdz:∀ {ns:List Int} {n:Int},n∈ns->PySem.W.WData.weight (.int n)<=PySem.W.WData.weightAll (ns.map PySem.W.WData.int)
 | m::ns,n,h=>by
  rw [List.map_cons,PySem.W.WData.weightAll]
  rcases List.mem_cons.mp h with rfl | h
  ·omega
  ·have:=zdz h;omega
omit B in
theorem zfE {l:PySem.W.OpenLaw}{n k:Nat}{q:Program}{loose:List Str}{XP:(Str->Option Value)->Heap->Prop}{YP:World->Heap->Prop}{d:DefRec}{K:Params->PySem.W.Frag}{sp:World->Sp}{x:Str}
  (hn:l.most=some n) (hn2:n<=sizeLine) (hdf:d.params.defaults=[]) (hr:zO k callerA) (hY:∀ (w:World) (h:Heap),YP w h->(K w.params).In h)
  (F:∀ (w:World) (mg:Str->Option Value) (fa:Addr) (h:Heap),(K w.params).In h->h.Ns mainGlobals mg->mg d.name=some (.ref fa) ->
   ∃ fd:FuncData,(∀ (s:Shared) (u:Value),BindsTo s fd ⟨[u],[]⟩ [(x,u)])/\∀ base:Heap,(K w.params).In base->base.Ns mainGlobals mg->zZ l.prog w (K w.params) mg base CX0 k fa fd [x] (sp w))
  (hsp:∀ (w:World) (H:Hp) (a:Addr) (ns:List Int),ns.length<=n->(∀ m∈ns,Hg m)->Only H->SqL (K w.params) H a (ns.map V.int)->sp w [.ref a] H (fun v _=>v=.bl true) fun _ _ _=>False) :
  PySem.W.WalkO q loose XP YP l.row.toRowW d [] (fun f vs=>PySem.call f vs):=by
 intro w s₀ s₁ mg mb G Y fa o pm cd doc dV kV ho hd hcd hD hmg hg args vals as hpre hlay hrd hwl hlo
 obtain rfl:dV=.none:=PySem.W.Dflts.none hD hdf
 obtain rfl:kV=.none:=PySem.W.Dflts.noKw hD
 obtain⟨a,vs,ns,rfl,rfl,hobj,hints,hlen⟩:=Att.zfw hn hpre hwl
 have hbits:∀ m∈ns,Hg m:=fun m hm=>by
  have h1:PySem.W.WData.layable (.list (ns.map .int))=true:=by simpa [PySem.W.WData.layableAll] using hlay
  have h2:PySem.W.WData.weight (.list (ns.map PySem.W.WData.int))<=2 ^ 20:=by
   unfold PySem.W.WData.layable at h1
   rw [Bool.and_eq_true,decide_eq_true_eq] at h1
   exact h1.2
  have h3:=Nat.le_trans (zdz hm) (by simpa only [PySem.W.WData.weight] using h2)
  exact zg1 (by simpa only [PySem.W.WData.weight,Builtin.Int.intBits] using h3)
 have KX:=hY w _ Y
 obtain⟨fd,hb,hF⟩:=F w mg fa _ KX G.T.g hmg
 refine PySem.W.enter_call (codeAny_mono (zfI KX G.T.g G.T.b G.T.builtins G.T.nolimit hg hobj hints (Nat.le_trans hlen hn2) hr hF hb (fun H hO hS=>hsp w H a ns hlen hbits hO hS) fun _ _ _ z=>z) fun r s' hq=>?_)
 obtain⟨rfl,h2,h3,h4⟩:=hq
 exact⟨.inl ⟨.bool true,.bool true,[],rfl,fun _=>rfl,.bool true,Att.zfq l _,fun _=>⟨List.Pairwise.nil,fun _ hm=>(nomatch hm)⟩⟩,h2,h3,h4⟩
omit B in
theorem zgm {us:List Value}(hl:us.length=1):∃ a0,us=[a0]:=by
  cases us with
  | nil=>simp at hl
  | cons a0 us =>
  cases us with
  | nil=>exact⟨a0,rfl⟩
  | cons b us=>simp at hl
omit B in
theorem zgp {us:List Value}(hl:us.length=2):∃ a0 a1,us=[a0,a1]:=by
  cases us with
  | nil=>simp at hl
  | cons a0 us =>
  cases us with
  | nil=>simp at hl
  | cons a1 us =>
  cases us with
  | nil=>exact⟨a0,a1,rfl⟩
  | cons b us=>simp at hl
end Dp
namespace Dp
open PySem PySem.Spec PyProof.Rows L2 My
variable [B:Bs]
section
variable {X:Cx}
end
section
variable {X:Cx}{a b:Expr}{ta tb:DE}{pos:Pos}
theorem zd1 (x:D)(hx:fl 20 x=true):∀ ys:List D,ys.all (fl 20)=true->((zJ ys).any fun z=>PyData.eqv z (pyD x))=ys.any fun z=>eqv z x
 | [],_=>rfl
 | y::ys,h=>by
  rw [List.all_cons,Bool.and_eq_true] at h
  show (PyData.eqv (pyD y) (pyD x)||(zJ ys).any fun z=>PyData.eqv z (pyD x))=_
  rw [zd4 20 y x h.1 hx,zd1 x hx ys h.2]
  rfl
def zh7 (X:Cx)(g:Bool->Bool):R2:=fun x y H Q=>∃ ad S dx dy b,zf X.K ad H S/\Rel X.K ad H dx x/\Rel X.K ad H dy y/\InD S dx dy b/\Q (.bl (g b)) H
theorem zc6 {pins:List (Addr×Obj)}{σ:L2.St}{H:Hp}{s:Shared}{ad:List Addr}{S:Sto}{dx dy:D}{x y:V}{v u:Value}{b:Bool}(I:Inv X pins σ H s)(st:zf X.K ad H S)(rx:Rel X.K ad H dx x)(ry:Rel X.K ad H dy y)(qx:RelV x v)(qy:RelV y u)(h:InD S dx dy b) :
  ∃ pd ps as bs,Reads s.heap v pd as/\(Reads s.heap u (.list ps) bs\/Reads s.heap u (.tuple ps) bs)/\pd.canLay0=true/\PyData.canLayAll0 ps=true/\min (PyData.depthAll ps) pd.depth<=60/\(ps.any fun z=>PyData.eqv z pd)=b:=by
 obtain⟨ys,hy,fx,fy,rfl⟩:=h
 obtain⟨as,ra⟩:=zal I 20 dx x v fx rx qx
 obtain⟨c1,d1⟩:=zbx 20 dx fx
 obtain⟨c2,d2⟩:=zaI 20 ys fy
 rcases hy with rfl | hy
 ·obtain⟨bs,rb⟩:=zal I 21 (.tup ys) y u fy ry qy
  exact⟨pyD dx,zJ ys,as,bs,ra,.inr rb,c1,c2,by omega,zd1 dx fx ys fy⟩
 ·obtain⟨a2,vs2,rfl,s2,r2⟩:=hy.sq st ry
  cases qy
  obtain⟨its2,rv2,ht2,hz2⟩:=I.list s2
  obtain⟨o2,ho2,hc2,n2,hd2⟩:=ht2.isList
  obtain⟨bs,rb⟩:=za1 I 20 (zal I 20) _ _ _ fy r2 rv2
  exact⟨pyD dx,zJ ys,as,_,ra,.inl (.list ho2 hc2 hd2 (by simpa using rb)),c1,c2,by omega,zd1 dx fx ys fy⟩
theorem zjn {k:Nat}(hr:zO k X.A):OC X .In oIn:=⟨_,(OpR.or (r:=zh7 X id) (fun pins s σ H x y v u Q I qx qy ⟨ad,S,dx,dy,b,st,rx,ry,h,q⟩=>by
  obtain⟨pd,ps,as,bs,ra,rb,c1,c2,hd,e⟩:=zc6 I st rx ry qx qy h
  have hu:=hr.units
  rcases rb with rb | rb
  ·exact PySem.SeqAt.in_list_reads rb ra c2 c1 (by omega) ⟨.bl _,H,I,by rw [e];rfl,q⟩
  ·exact PySem.SeqAt.in_tuple_reads rb ra c2 c1 (by omega) ⟨.bl _,H,I,by rw [e];rfl,q⟩) zfh),
 fun ad H S x y v u Q0 Q st rx ry h k=>by
  rcases h with ⟨b,h,q⟩ | ⟨c,z,rfl,rfl,q⟩
  ·exact .inl ⟨ad,S,x,y,b,st,rx,ry,h,k _ S _ H ad q Wd.refl st (.bl _)⟩
  ·cases rx
   cases ry
   exact .inr ⟨_,z,rfl,rfl,by rw [PySem.StrLaws.found_one];exact k _ S _ H ad q Wd.refl st (.bl _)⟩⟩
theorem zf4 {k:Nat}(hr:zO k X.A):OC X .NotIn zdA:=⟨_,(OpR.or (r:=zh7 X (!·)) (fun pins s σ H x y v u Q I qx qy ⟨ad,S,dx,dy,b,st,rx,ry,h,q⟩=>by
  obtain⟨pd,ps,as,bs,ra,rb,c1,c2,hd,e⟩:=zc6 I st rx ry qx qy h
  have hu:=hr.units
  rcases rb with rb | rb
  ·exact PySem.SeqAt.notIn_list_reads rb ra c2 c1 (by omega) ⟨.bl _,H,I,by rw [e];rfl,q⟩
  ·exact PySem.SeqAt.notIn_tuple_reads rb ra c2 c1 (by omega) ⟨.bl _,H,I,by rw [e];rfl,q⟩) zdO),
 fun ad H S x y v u Q0 Q st rx ry h k=>by
  rcases h with ⟨b,h,q⟩ | ⟨c,z,rfl,rfl,q⟩
  ·exact .inl ⟨ad,S,x,y,b,st,rx,ry,h,k _ S _ H ad q Wd.refl st (.bl _)⟩
  ·cases rx
   cases ry
   exact .inr ⟨_,z,rfl,rfl,by rw [PySem.StrLaws.found_one];exact k _ S _ H ad q Wd.refl st (.bl _)⟩⟩
theorem zgG {op:CmpOp}{r':DR2}(o:OC X op r')(ha:PD X a ta)(hb:PD X b tb)(hm:behindInMarks op b=false:=by with_unfolding_all rfl):PD X (.Compare a [op] [b] pos) (dOp r' ta tb):=by
 with_unfolding_all
  obtain⟨r,ho,od⟩:=o
  exact z8 (zei ho ha hb hm) fun _ _ _=>zbY od
theorem zhs {op:CmpOp}{r':DR2}(o:OC X op r')(ha:PD X a ta)(hb:PD X b tb)(hm:behindInMarks op b=false:=by with_unfolding_all rfl):PTD X (.Compare a [op] [b] pos) (dT (dOp r' ta tb)):=by
 with_unfolding_all
  obtain⟨r,ho,od⟩:=o
  refine zb0 (zem ho ha hb hm) fun σ H Q hh=>el8 hh fun ad ρ S Q0 st rh q k=>?_
  refine zbY (Q:=fun x H'=>∃ k,x=.bl k/\Q k H') od ⟨ad,ρ,S,_,st,rh,q,fun d S' v H' ad' ⟨b,e,q'⟩ w st' r=>?_⟩
  subst e
  cases r
  exact⟨b,rfl,k b S' H' ad' q' w st'⟩
end
section
variable {X:Cx}
end
section
variable {X:Cx}{e:Expr}{pos p2 p3:Pos}{lo:Option Expr}
end
section
variable {X:Cx}{e:Expr}{t:DA}{p pos kp cp:Pos}{j:Nat}
end
section
variable {X:Cx}{e o value:Expr}{te to tv:DE}{f c:Str}{pos pos':Pos}
end
end Dp
namespace Dp
open PySem PySem.Spec PyProof.Rows L2 My
def Fly (h0 h:Heap)(e:Addr)(cls:Value)(H:Hp):Prop:=h0.get? e=none/\H e=none/\∃ (a0:Value) (oe:Obj) (vs:Array Value) (T:Addr) (oT:Obj) (ts:Array Value),h.get? e=some oe/\(oe.cls=cls/\vs[0]?=some a0)/\oe.data=.fields vs/\vs[1]?=some (.ref T)/\h0.get? T=none/\T≠e/\h.get? T=some oT/\oT.data=.fields ts/\ts[3]?=some .none/\H T=none
def CXd (P:Program)(w:World):CXT:=fun outer H s E e s'=>∃ (a C:Addr) (H':Hp),e=.ref a/\s'.os=s.os/\AllBare s'.gens/\Un (frs outer) [] H H' s.heap s'.heap/\HOk P w H' s'.heap/\Fly s.heap s'.heap a (.ref C) H'/\E (.ref C) none H'
def zab (h:Heap)(p:Addr->Bool):Heap:={ h with objs:=h.objs.mapIdx fun i o=>if p i=true then o else { cls:=.none,data:=.freed } }
theorem zax (h:Heap)(p:Addr->Bool)(b:Addr):(zab h p).get? b=if p b=true then h.get? b else none:=by
  unfold zab Heap.get?
  dsimp only
  rw [Array.getElem?_mapIdx]
  cases h.objs[b]? with
  | none=>cases p b<;>rfl
  | some o=>cases p b<;>rfl
theorem zbB (h:Heap)(p:Addr->Bool):(zab h p).StaysIn h:=fun b o e=>by
 rw [zax] at e
 split at e
 ·exact e
 ·cases e
theorem zb7 {h base base':Heap}:∀ {l:List Env},h.FunFrames base l->(∀ L∈frs l,base'.get? L=none)->h.FunFrames base' l
 | [],_,_=>True.intro
 | env::l,⟨h1,⟨L,o,h2,h3,h4,h5⟩,h6⟩,hb=>⟨h1,⟨L,o,h2,hb L (List.mem_filterMap.mpr ⟨env,by simp,h2⟩),h4,h5⟩,zb7 h6 fun L' hL=>hb L' (by
   obtain⟨e',he,e2⟩:=List.mem_filterMap.mp hL
   exact List.mem_filterMap.mpr ⟨e',List.mem_cons_of_mem _ he,e2⟩)⟩
section
variable {X:Cx}{pins:List (Addr×Obj)}{σ:L2.St}{H:Hp}{s:Shared}
theorem zfb (I:Inv X pins σ H s)(hex:X.ex=[]){b:Addr}{o:Obj}(e:X.s₀.heap.get? b=some o):∃ o',s.heap.get? b=some o':=I.base.there b o e (by rw [hex];simp)
theorem zaP (I:Inv X pins σ H s)(hex:X.ex=[]){b:Addr}(e:s.heap.get? b=none):X.s₀.heap.get? b=none:=by
 cases q:X.s₀.heap.get? b with
 | none=>rfl
 | some o=>obtain⟨o',h⟩:=zfb I hex q;rw [e] at h;cases h
theorem zcj (I:Inv X pins σ H s){b:Addr}(e:s.heap.get? b=none):H b=none:=by
 cases q:H b with
 | none=>rfl
 | some o =>
  have:=(I.hok b o q).lt
  exfalso
  cases o with
  | lst xs=>obtain⟨_,_,_,_,h⟩:=I.hok b _ q;rw [e] at h;cases h
  | tup xs=>obtain⟨_,_,_,ob,h,_⟩:=I.hok b _ q;rw [e] at h;cases h
  | dK kvs=>obtain⟨_,_,_,_,ob,_,_,h,_⟩:=I.hok b _ q;rw [e] at h;cases h
  | dT kvs=>obtain⟨_,_,_,_,ob,_,_,h,_⟩:=I.hok b _ q;rw [e] at h;cases h
  | set S n=>obtain⟨ob,_,_,_,h,_⟩:=I.hok b _ q;rw [e] at h;cases h
  | ins C dx fs=>obtain⟨_,_,_,h,_⟩:=I.hok b _ q;rw [e] at h;cases h
  | own y=>obtain⟨_,h⟩:=I.hok b _ q;rw [e] at h;cases h
  | xd fs=>obtain⟨_,⟨_,_,_,h,_⟩,_⟩:=I.hok b _ q;rw [e] at h;cases h
  | rng lo hi=>obtain⟨_,_,_,h⟩:=I.hok b _ q;rw [e] at h;cases h
  | frz ob u=>obtain⟨h,_⟩:=I.hok b _ q;rw [e] at h;cases h
  | tbl ps=>have h:s.heap.get? b=some _:=I.hok b _ q;rw [e] at h;cases h
  | met f y=>have h:s.heap.get? b=some _:=I.hok b _ q;rw [e] at h;cases h
  | ext φ=>obtain⟨_,⟨_,h⟩,_⟩:=I.hok b _ q;rw [e] at h;cases h
theorem zcY (I:Inv X pins σ H s)(hex:X.ex=[])(hst:X.stack=X.env::X.outer)(hfr:X.env.frame=some X.env.locals){e T0:Addr}{h':Heap}(he:X.s₀.heap.get? e=none)(hT:X.s₀.heap.get? T0=none)(He:H e=none)(HT:H T0=none)
  (hk:∀ b o,s.heap.get? b=some o->b≠e->b≠T0->b∉frs X.stack->h'.get? b=some o) (hs:∀ b∈frs X.stack,∀ o,s.heap.get? b=some o->∃ sl,h'.get? b=some { o with slots:=sl }) :
  Un X.fs [] X.H₀ H X.s₀.heap h'/\HOk X.prog X.w H h':=by
 have nfr:∀ {b:Addr} {o:Obj},X.s₀.heap.get? b=some o->b∉X.fs->b∉frs X.stack:=fun {b o} q n m=>by
  rw [hst] at m
  obtain⟨e',h1,h2⟩:=List.mem_filterMap.mp m
  rcases List.mem_cons.mp h1 with rfl | h1
  ·rw [hfr] at h2
   cases h2
   exact absurd (Heap.lt_size q) (Nat.not_lt.mpr I.ok.above)
  ·exact n (List.mem_filterMap.mpr ⟨e',h1,h2⟩)
 have sub:∀ {b:Addr},b∈X.fs->b∈frs X.stack:=fun {b} m=>by
  obtain⟨e',h1,h2⟩:=List.mem_filterMap.mp m
  rw [hst]
  exact List.mem_filterMap.mpr ⟨e',List.mem_cons_of_mem _ h1,h2⟩
 have nex:∀ b:Addr,b∉X.ex:=fun b=>by rw [hex];simp
 have ne:∀ {b:Addr} {o:Obj},X.s₀.heap.get? b=some o->b≠e/\b≠T0:=fun {b o} q=>⟨fun z=>(by rw [z,he] at q;cases q),fun z=>(by rw [z,hT] at q;cases q)⟩
 have ub:=I.base
 refine⟨⟨fun b o q n m _=>?_,fun b o q n m _=>?_,fun b o q n _=>ub.free b o q n (nex b),fun b o q _=>?_,ub.tups,ub.frzs,ub.tbls⟩,fun a o q=>?_⟩
 ·exact hk b o (ub.keep b o q n m (nex b)) (ne q).1 (ne q).2 (nfr q m)
 ·obtain⟨sl,h1⟩:=ub.slot b o q n m (nex b)
  obtain⟨sl',h2⟩:=hs b (sub m) _ h1
  exact⟨sl',h2⟩
 ·obtain⟨o',h1⟩:=ub.there b o q (nex b)
  by_cases m:b∈frs X.stack
  ·obtain⟨sl,h2⟩:=hs b m o' h1
   exact⟨_,h2⟩
  ·exact⟨o',hk b o' h1 (ne q).1 (ne q).2 m⟩
 ·have inn:∀ {b:Addr},H b≠none->b≠e/\b≠T0/\b∉frs X.stack:=fun {b} n=>⟨fun z=>n (by rw [z];exact He),fun z=>n (by rw [z];exact HT),fun z=>n (I.stkFree b z)⟩
  refine (I.hok a o q).stay (fun b u hb r=>?_) (fun _ r=>r) fun _ _ r=>r
  have n:H b≠none:=by
   rcases hb with rfl | hb
   ·rw [q];exact Option.some_ne_none _
   ·rw [hb];exact Option.some_ne_none _
  obtain⟨n1,n2,n3⟩:=inn n
  exact hk b u r n1 n2 n3
theorem zfj (I:Inv X pins σ H s)(hex:X.ex=[])(hst:X.stack=X.env::X.outer)(hfr:X.env.frame=some X.env.locals){e C:Addr}{E:Value->Shared->Prop}{Q:Unit->Shared->Prop}(F:Fly X.s₀.heap s.heap e (.ref C) H)
  (hQ:∀ s':Shared,s'.os=X.s₀.os->AllBare s'.gens->Un X.fs [] X.H₀ H X.s₀.heap s'.heap->HOk X.prog X.w H s'.heap->Fly X.s₀.heap s'.heap e (.ref C) H->Q () s'):wpAny (model X.prog X.w) X.A (leaving X.env (.ref e)) Q E s:=by
 obtain⟨he,He,a0,oe,vs,T,oT,ts,f1,f2,f3,f4,f5,f6,f7,f8,f9,HT⟩:=F
 have ff:s.heap.FunFrames X.base X.stack:=I.stack
 obtain⟨p,hp⟩:∃ p:Addr->Bool,∀ b,p b=true↔b≠e/\b≠T/\b∉frs X.stack:=⟨fun b=>decide (b≠e/\b≠T/\b∉frs X.stack),fun b=>decide_eq_true_iff⟩
 have mno:∀ {b:Addr},¬ (b≠e/\b≠T/\b∉frs X.stack)->(zab s.heap p).get? b=none:=fun {b} n=>by
  rw [zax,if_neg (fun z=>n ((hp b).mp z))]
 have myes:∀ {b:Addr} {o:Obj},s.heap.get? b=some o->b≠e->b≠T->b∉frs X.stack->(zab s.heap p).get? b=some o:=fun {b o} q n1 n2 n3=>by
  rw [zax,if_pos ((hp b).mpr ⟨n1,n2,n3⟩)];exact q
 have fb:s.heap.FunFrames (zab s.heap p) X.stack:=zb7 ff fun L hL=>mno fun z=>z.2.2 hL
 have fl:Heap.FlyingW (zab s.heap p) X.stack e (.ref C) a0 s.heap:=⟨zbB _ _,mno fun z=>z.1 rfl,fb,oe,vs,T,oT,ts,f1,f2,f3,f4,mno fun z=>z.2.1 rfl,f6,f7,f8,f9⟩
 have fr:=I.ok.frames
 rw [hst] at fr
 rw [hst] at fl
 refine wpAny_leaves_onW fr hfr fl fun h' ⟨k1,k2,k3,oe',vs',T',oT',ts',g1,g2,g3,g4,g5,g6,g7,g8,g9⟩ us=>?_
 have hs:∀ b∈frs X.stack,∀ o,s.heap.get? b=some o->∃ sl,h'.get? b=some { o with slots:=sl }:=fun b hb o q=>by
  obtain⟨_,o',h1,h2⟩:=ff.mem hb
  rw [q] at h1;cases h1
  exact us b o q h2
 have hk:∀ b o,s.heap.get? b=some o->b≠e->b≠T->b∉frs X.stack->h'.get? b=some o:=fun b o q n1 n2 n3=>k1 b o (myes q n1 n2 n3)
 obtain⟨u1,u2⟩:=zcY I hex hst hfr he f5 He HT hk hs
 have nT:X.s₀.heap.get? T'=none/\H T'=none:=by
  by_cases z1:T'=T
  ·rw [z1];exact⟨f5,HT⟩
  ·by_cases z2:T'∈frs X.stack
   ·exfalso
    obtain⟨_,o',h1,h2⟩:=ff.mem z2
    obtain⟨sl,h3⟩:=hs T' z2 o' h1
    rw [g7] at h3;cases h3
    exact h2 ts' g8
   ·have:s.heap.get? T'=none:=by
     cases q:s.heap.get? T' with
     | none=>rfl
     | some o=>rw [myes q g6 z1 z2] at g5;cases g5
    exact⟨zaP I hex this,zcj I this⟩
 exact hQ _ I.os I.bare u1 u2 ⟨he,He,a0,oe',vs',T',oT',ts',g1,g2,g3,g4,nT.1,g6,g7,g8,g9,nT.2⟩
theorem zeL (I:Inv X pins σ H s)(hex:X.ex=[])(hst:X.stack=X.env::X.outer)(hfr:X.env.frame=some X.env.locals){e C:Addr}{args:List Value}{h1:Heap}{E:Value->Shared->Prop}{Q:Unit->Shared->Prop}(hx:s.heap.MadeExcOf h1 e (.ref C) args)
  (hQ:∀ s':Shared,s'.os=X.s₀.os->AllBare s'.gens->Un X.fs [] X.H₀ H X.s₀.heap s'.heap->HOk X.prog X.w H s'.heap->Fly X.s₀.heap s'.heap e (.ref C) H->Q () s'):wpAny (model X.prog X.w) X.A (leaving X.env (.ref e)) Q E { s with heap:=h1 }:=by
 have ff:s.heap.FunFrames X.base X.stack:=I.stack
 obtain⟨p,hp⟩:∃ p:Addr->Bool,∀ b,p b=true↔b∉frs X.stack:=⟨fun b=>decide (b∉frs X.stack),fun b=>decide_eq_true_iff⟩
 have mno:∀ {b:Addr},b∈frs X.stack->(zab s.heap p).get? b=none:=fun {b} n=>by
  rw [zax,if_neg (fun z=>(hp b).mp z n)]
 have myes:∀ {b:Addr} {o:Obj},s.heap.get? b=some o->b∉frs X.stack->(zab s.heap p).get? b=some o:=fun {b o} q n3=>by
  rw [zax,if_pos ((hp b).mpr n3)];exact q
 have fb:s.heap.FunFrames (zab s.heap p) X.stack:=zb7 ff fun L hL=>mno hL
 have fr:=I.ok.frames
 rw [hst] at fr
 rw [hst] at fb
 refine wpAny_leaves_madeW (base:=zab s.heap p) (h:=s.heap) fr hfr (zbB _ _) fb hx fun h' t ⟨k1,k2,k3,oe',vs',T',oT',ts',g1,g2,g3,g4,g5,g6,g7,g8,g9⟩ _ _ us=>?_
 have us':s.heap.UpToSlots h':=fun b o q n=>us b o (hx.keeps b o q) n
 have hs:∀ b∈frs X.stack,∀ o,s.heap.get? b=some o->∃ sl,h'.get? b=some { o with slots:=sl }:=fun b hb o q=>by
  obtain⟨_,o',h1,h2⟩:=ff.mem hb
  rw [q] at h1;cases h1
  exact us' b o q h2
 have hk:∀ b o,s.heap.get? b=some o->b≠e->b≠e->b∉frs X.stack->h'.get? b=some o:=fun b o q _ _ n3=>k1 b o (myes q n3)
 have he:=zaP I hex hx.new
 have He:=zcj I hx.new
 obtain⟨u1,u2⟩:=zcY I hex hst hfr he he He He hk hs
 have nT:X.s₀.heap.get? T'=none/\H T'=none:=by
  by_cases z2:T'∈frs X.stack
  ·exfalso
   obtain⟨_,o',h1,h2⟩:=ff.mem z2
   obtain⟨sl,h3⟩:=hs T' z2 o' h1
   rw [g7] at h3;cases h3
   exact h2 ts' g8
  ·have:s.heap.get? T'=none:=by
    cases q:s.heap.get? T' with
    | none=>rfl
    | some o=>rw [myes q z2] at g5;cases g5
   exact⟨zaP I hex this,zcj I this⟩
 exact hQ _ I.os I.bare u1 u2 ⟨he,He,_,oe',vs',T',oT',ts',g1,g2,g3,g4,nT.1,g6,g7,g8,g9,nT.2⟩
end
def zdy (K:PySem.W.Frag)(f:zcl):Sp:=fun vs H Q E=>∃ ad S ds Q0 X0,@zf ⟨ad,H⟩ K ad H S/\za K ad H ds vs/\f ds S Q0 X0/\@KK ⟨ad,H⟩ K ad H Q0 Q /\
 ∀ (c:Str) (C:Addr) (S':Sto) (ad':List Addr) (H':Hp),X0 c S'->@zf ⟨ad,H⟩ K ad' H' S'->PySem.W.nsIn K mainGlobals c=some (some (.ref C))->E (.ref C) none H'
structure zf2 (P:Program)(w:World)(K:PySem.W.Frag)(mg:Str->Option Value)(base:Heap)(k:Nat)(x:Str)(ps:List Str)(sp:Sp):Prop where
 ex:∃ f fd,zZ P w K mg base (CXd P w) k f fd ps sp/\Binds K fd ps []/\PySem.W.keepIn K (.ref f)=true/\mg x=some (.ref f)
def XOk [B:Bs](X:Cx)(ex:XR):Prop:=∀ (pins:List (Addr×Obj)) (σ:L2.St) (H:Hp) (s s':Shared) (ad ad':List Addr) (ρ:Rho) (S S':Sto) (c:Str) (C a:Addr) (H':Hp),Inv X pins σ H s->zf X.K ad H S->zH X.K ad H ρ σ->ex ρ c S'->zf X.K ad' H' S'->Wd ad H ad' H' ->
 PySem.W.nsIn X.K mainGlobals c=some (some (.ref C))->s'.os=s.os->AllBare s'.gens->Un (frs X.stack) [] H H' s.heap s'.heap->HOk X.prog X.w H' s'.heap->Fly s.heap s'.heap a (.ref C) H'->X.xe (.ref a) s'
def XMk [B:Bs](X:Cx)(ex:XR):Prop:=∀ (pins:List (Addr×Obj)) (σ:L2.St) (H:Hp) (s:Shared) (ad:List Addr) (ρ:Rho) (S:Sto) (c:Str) (C e:Addr) (args:List Value) (h1:Heap),Inv X pins σ H s->zf X.K ad H S->zH X.K ad H ρ σ->ex ρ c S ->
 PySem.W.nsIn X.K mainGlobals c=some (some (.ref C))->s.heap.MadeExcOf h1 e (.ref C) args->X.xe (.ref e) { s with heap:=h1 }
section
variable [B:Bs]{X:Cx}
theorem zfS {k j:Nat}{x:Str}{ps:List Str}{f:zcl}{ex:XR}{p pos:Pos}{e:Expr}{es:List Expr}{t:DA}(G:zf2 X.prog X.w X.K X.mg X.base k x ps (zdy X.K f))(hX:XOk X ex)(hr:zO j X.A)
  (ha:PAD X (e::es) t) (hk:k<=j:=by decide) (hg:Gl X x:=by rfl) (hdb:(x==("__debug__":Str))=false:=by decide) (he:starEach (e::es) X.env=(false,eval e X.env)::starEach es X.env:=by exact zao rfl) (hpl:(backTo pos (starEach es X.env)).any (·.1)=false:=by exact za2 rfl) :
  PD X (.Call (.Name x p) (e::es) [] pos) (zdF f ex t):=by
 with_unfolding_all
  intro pins s σ H Q I h
  obtain⟨ad,ρ,S,Q0,st,rh,q,kk⟩:=h
  obtain⟨fa,fd,F,b,kp,m⟩:=G.ex
  have F:=F.mono hk
  refine wpAny_Call_Name_kw (zaX I hg m ?_ hdb)
  have hA:=ha pos pins s σ H (fun vs H1=>∃ ds S1 ad1,f ds S1 Q0 (ex ρ)/\Wd ad H ad1 H1/\zf X.K ad1 H1 S1/\za X.K ad1 H1 ds vs) I ⟨ad,ρ,S,_,st,rh,q,fun ds S1 vs H1 ad1 q1 w1 st1 r1=>⟨ds,S1,ad1,q1,w1,st1,r1⟩⟩
  refine PySem.W.callWith_K (h₀:=X.base) I.ok.mod.kin kp (thn hA fun us s1 ⟨vs,H1,I1,r,q1⟩=>⟨I1.kIn,?_⟩) he hpl
  obtain⟨ds,S1,ad1,q1,w1,st1,r1⟩:=q1
  have hsp:zdy X.K f vs H1 Q (fun cls _ H'=>∃ c C S' ad',cls=Value.ref C/\ex ρ c S'/\zf X.K ad' H' S'/\Wd ad1 H1 ad' H'/\PySem.W.nsIn X.K mainGlobals c=some (some (.ref C))) :=
   ⟨ad1,S1,ds,Q0,ex ρ,st1.base,r1,q1,(kk.wd w1).base st1,fun c C S' ad' H' hx st' hn=>⟨c,C,S',ad',rfl,hx,st1.back st',@zf.wd ⟨ad1,H1⟩ _ _ _ _ st',hn⟩⟩
  have hl:us.length=ps.length:=by rw [<- r.length];exact F.len _ _ _ _ hsp
  refine wpAny_call (codeAny_mono (F.run X.A X.stack s1 H1 ⟨us,[]⟩ us vs Q _ hr I1.env0 (by have:=b s1 us I1.kIn (by rw [List.append_nil];exact hl);rwa [List.append_nil] at this) r hsp) fun res s' hq=>?_)
  cases res with
  | error e =>
   obtain⟨a,C,H',rfl,os,bare,un,hok,fly,c,C',S',ad',hC,hx,st',wd',hn⟩:=hq
   cases hC
   exact hX pins σ H1 s1 s' ad1 ad' ρ S1 S' c C a H' I1 st1 (rh.wd w1) hx st' wd' hn os bare un hok fly
  | ok fl =>
   cases fl with
   | ret u=>exact I1.after hq
   | next=>exact False.elim hq
   | brk=>exact False.elim hq
   | cont=>exact False.elim hq
structure ExC (K:PySem.W.Frag)(C:Addr):Prop where
 ex:∃ nm q N bs bm hdct sn sub ab col dd k0 k1 k2 k3 k5,K.lookup C=some (excClassObj nm q C N bs bm hdct sn sub ab col dd k0 k1 k2 k3 k5 "ValueError.__new__")/\PySem.W.nsOkIn K N=true/\PySem.W.nsIn K N "__init__"=some none /\
  PySem.W.tailIn K [.type "ValueError",.type "Exception",.type "BaseException",.type "object"] bm=true
theorem zbW {x:Str}{ex:XR}{np cpos pos:Pos}{e:Expr}{t:DA}(hX:XMk X ex)(hc:X.calm=true)(hC:∀ C,PySem.W.nsIn X.K mainGlobals x=some (some (.ref C))->ExC X.K C)(hx:∃ C,PySem.W.nsIn X.K mainGlobals x=some (some (.ref C))/\X.mg x=some (.ref C))(hg:Gl X x)
  (ha:PAD X [e] t) (ht:∀ ρ S Q,(∀ d,Q [d] S)->t ρ S Q) (hdb:(x==("__debug__":Str))=false:=by decide) (he:starEach [e] X.env=(false,eval e X.env)::starEach [] X.env:=by rfl) :
  PSD X (.Raise (some (.Call (.Name x np) [e] [] cpos)) none pos) (zbN ex x):=by
 with_unfolding_all
  intro pins s σ H D I h
  obtain⟨ad,ρ,S,E0,st,rh,q,k⟩:=h
  obtain⟨C,hn,hm⟩:=hx
  obtain⟨nm,qn,N,bs,bm,hdct,sn,sub,ab,col,dd,k0,k1,k2,k3,k5,lk,no,ni,tl⟩:=(hC C hn).ex
  have kin:=I.kIn
  have T:=PySem.W.tail_of_in kin tl
  have hv:=ha cpos pins s σ H (fun vs H1=>vs.length=1/\∃ ad1,Wd ad H ad1 H1/\zf X.K ad1 H1 S) I ⟨ad,ρ,S,fun ds S'=>ds.length=1/\S'=S,st,rh,ht _ _ _ (fun d=>⟨rfl,rfl⟩),fun ds S' vs H' ad' e' w' st' r'=>⟨by rw [<- r'.length];exact e'.1,ad',w',e'.2▸st'⟩⟩
  refine wpAny_Raise_call_subT (C:=C) (nm:=nm) (q:=qn) (N:=N) (bs:=bs) (bm:=bm) (hdct:=hdct) (sn:=sn) (sub:=sub) (ab:=ab) (col:=col) (dd:=dd) (k0:=k0) (k1:=k1) (k2:=k2) (k3:=k3) (k5:=k5) PySem.F.excBase_ValueError (T.hasType PySem.F.excBase_ValueError.hasBase) (I.ok.hd hc) (by rw [he];rfl) (PySem.W.nsMap_none_of_in I.ok.mod.kin no ni) (zaX I hg hm ⟨rfl,?_⟩ hdb)
  rw [he] at hv ⊢
  refine Calls.evalArgs_plain (wpAny_mono hv (fun us s1 hq=>?_) fun _ _ y=>y)
  obtain⟨vs,H1,I1,r,hl,ad1,w1,st1⟩:=hq
  have k1':=I1.kIn
  have hlen:us.length<=sizeLine:=by rw [<- r.length,hl];decide
  exact⟨rfl,hlen,k1' _ _ lk,(Heap.Ns.of_isNs (PySem.W.isNs_of_in I.ok.mod.kin no)).keeps I1.bk,PySem.W.tail_of_in k1' tl,fun h' e' hx=>hX pins σ H1 s1 ad1 ρ S x C e' us h' I1 st1 (rh.wd w1) q hn hx⟩
abbrev nxX (X:Cx):Cx:={ X with xe:=fun _ _=>False }
omit B in
theorem ziv {pins:List (Addr×Obj)}{σ:L2.St}{H:Hp}{s:Shared}(I:Inv X pins σ H s):Inv (nxX X) pins σ H s :=
 ⟨⟨I.ok.mod,I.ok.kind,I.ok.glob,I.ok.blt,I.ok.above,I.ok.inj,I.ok.has,I.ok.cab,I.ok.hd,I.ok.frames,I.ok.stk,I.ok.exf,I.ok.bs,I.ok.bsz,I.ok.noex,I.ok.exfs,I.ok.funs,I.ok.frf⟩,I.os,I.bare,I.base,I.loc,I.cell,I.free,I.freeC,I.pin,I.hok,I.len⟩
omit B in
theorem zga {pins:List (Addr×Obj)}{σ:L2.St}{H:Hp}{s:Shared}(I:Inv (nxX X) pins σ H s):Inv X pins σ H s :=
 ⟨⟨I.ok.mod,I.ok.kind,I.ok.glob,I.ok.blt,I.ok.above,I.ok.inj,I.ok.has,I.ok.cab,I.ok.hd,I.ok.frames,I.ok.stk,I.ok.exf,I.ok.bs,I.ok.bsz,I.ok.noex,I.ok.exfs,I.ok.funs,I.ok.frf⟩,I.os,I.bare,I.base,I.loc,I.cell,I.free,I.freeC,I.pin,I.hok,I.len⟩
theorem zgI {e:Expr}{t:DE}(h:PD (nxX X) e t):PD X e t:=by with_unfolding_all exact (fun pins s σ H Q I q =>
 wpAny_mono (h pins s σ H Q (ziv I) q) (fun v s1 ⟨x,H1,I1,r⟩=>⟨x,H1,zga I1,r⟩) fun _ _ z=>z.elim)
omit B in
theorem zfH {P:Program}{w:World}{K:PySem.W.Frag}{mg:Str->Option Value}{base:Heap}{x qual:Str}{st:Stmt}{f:Addr}{fd:FuncData}{N ps:List Str}{k:Nat}{sp:zcl}{b:XR->DS}(F:Fun K x qual st f fd)(S:z6 N ps (zx st))
  (len:∀ ds So Q ex,sp ds So Q ex->ds.length=ps.length) (body:zeo N.length b sp)
  (term:∀ (cdv:Value) (A:Around) (outer:List Env) (s:Shared) (H:Hp) (E:XK),zO k (A.deeper (envOfC qual (zx st) s.heap.objs.size f cdv))->∀ [Bs] (ex:XR),XOk (zbk (CXd P w) P w K mg base N qual (zx st) f cdv A outer s H E) ex->XMk (zbk (CXd P w) P w K mg base N qual (zx st) f cdv A outer s H E) ex->zaY (zbk (CXd P w) P w K mg base N qual (zx st) f cdv A outer s H E) (zX st) (b ex)) :
  zZ P w K mg base (CXd P w) (k+1) f fd ps (zdy K sp):=by
 with_unfolding_all
  obtain⟨oc,od,kV,doc,pm,an,cdv,ct,osl,rfl,lk,hcd⟩:=F.ex
  refine zgl lk hcd S (fun vs H Q E ⟨ad,So,ds,Q0,X0,so,r,hf,kk,kx⟩=>by rw [<- r.length];exact len ds So Q0 X0 hf) fun A outer s H vs Q E hr ⟨ad,So,ds,Q0,X0,so,r,hf,kk,kx⟩=>?_
  letI:Bs:=⟨ad,H⟩
  have end1:∀ (c:Str) (C a:Addr) (S':Sto) (ad':List Addr) (H':Hp) (s':Shared),X0 c S'->zf K ad' H' S'->PySem.W.nsIn K mainGlobals c=some (some (.ref C))->s'.os=s.os->AllBare s'.gens->Un (frs outer) [] H H' s.heap s'.heap->HOk P w H' s'.heap->Fly s.heap s'.heap a (.ref C) H'->CXd P w outer H s E (.ref a) s' :=
   fun c C a S' ad' H' s' hx st' hn o1 o2 o3 o4 o5=>⟨a,C,H',rfl,o1,o2,o3,o4,o5,kx c C S' ad' H' hx st' hn⟩
  refine⟨_,term cdv A outer s H E hr (fun _=>X0) ?_ ?_,ad,zaO N.length ds,So,_,so,zdP N r,body ds So Q0 X0 hf,⟨fun ρ S' σ H' ad' q w' st' rh=>zcI so kk .non S' .non H' ad' q w' st' .non,zcI so kk,fun _ _ _ _ _ q=>q.elim,fun _ _ _ _ _ q=>q.elim⟩⟩
  ·intro pins σ H1 s1 s' ad1 ad' ρ S1 S' c C a H' I st1 rh hx st' wd' hn os bare un hok fly
   have I':=I.call' (ch:=[]) os un hok bare (fun b z=>absurd z (by simp))
   have f0:Fly s.heap s'.heap a (.ref C) H':=by
    obtain⟨g1,g2,a0,oe,vs,T,oT,ts,h1,h2,h3,h4,h5,h6⟩:=fly
    exact⟨zaP I rfl g1,g2,a0,oe,vs,T,oT,ts,h1,h2,h3,h4,zaP I rfl h5,h6⟩
   exact zfj I' rfl rfl rfl f0 fun s'' o1 o2 o3 o4 o5=>end1 c C a S' ad' H' s'' hx st' hn o1 o2 o3 o4 o5
  ·intro pins σ H1 s1 ad1 ρ S1 c C e args h1 I st1 rh hx hn hmade
   exact zeL I rfl rfl rfl hmade fun s'' o1 o2 o3 o4 o5=>end1 c C e S1 ad1 H1 s'' hx st1 hn o1 o2 o3 o4 o5
end
abbrev hand (X:Cx)(e:Addr):Cx:={ X with A:=X.A.mark (some (.ref e)),calm:=false,xe:=fun _ _=>False }
section
variable {X:Cx}{pins:List (Addr×Obj)}{σ:L2.St}{H H':Hp}{s s':Shared}
theorem zdL (I:L2.Inv X pins σ H s)(e:Addr):L2.Inv (hand X e) pins σ H s :=
 ⟨⟨I.ok.mod,I.ok.kind,I.ok.glob,I.ok.blt,I.ok.above,I.ok.inj,I.ok.has,I.ok.cab,(fun z=>nomatch z),I.ok.frames,I.ok.stk,I.ok.exf,I.ok.bs,I.ok.bsz,I.ok.noex,I.ok.exfs,I.ok.funs,I.ok.frf⟩,I.os,I.bare,I.base,I.loc,I.cell,I.free,I.freeC,I.pin,I.hok,I.len⟩
theorem zcE {e:Addr}(hd:X.calm=true->X.A.handled=none)(I:L2.Inv (hand X e) pins σ H s):L2.Inv X pins σ H s :=
 ⟨⟨I.ok.mod,I.ok.kind,I.ok.glob,I.ok.blt,I.ok.above,I.ok.inj,I.ok.has,I.ok.cab,hd,I.ok.frames,I.ok.stk,I.ok.exf,I.ok.bs,I.ok.bsz,I.ok.noex,I.ok.exfs,I.ok.funs,I.ok.frf⟩,I.os,I.bare,I.base,I.loc,I.cell,I.free,I.freeC,I.pin,I.hok,I.len⟩
theorem zeC (I:L2.Inv X pins σ H s)(un:Un (frs X.stack) [] H H' s.heap s'.heap)(hok:HOk X.prog X.w H' s'.heap){e T:Addr}{h2:Heap}{oe:Obj}(he:s.heap.get? e=none)(hT:s.heap.get? T=none)(He:H' e=none)(HT:H' T=none)
  (stkF:∀ b∈frs X.stack,H' b=none)
  (hk:∀ b o,s'.heap.get? b=some o->b≠e->b≠T->b∉frs X.stack->h2.get? b=some o) (hs:∀ b∈frs X.stack,∀ o,s'.heap.get? b=some o->∃ sl,h2.get? b=some { o with slots:=sl }) (hoe:h2.get? e=some oe) :
  Un (frs X.stack) [] H (upd H' e (.frz oe (.ext fun _=>True))) s.heap h2/\HOk X.prog X.w (upd H' e (.frz oe (.ext fun _=>True))) h2:=by
 have ne:∀ {b:Addr} {o:Obj},s.heap.get? b=some o->b≠e/\b≠T:=fun {b o} q=>⟨fun z=>(by rw [z,he] at q;cases q),fun z=>(by rw [z,hT] at q;cases q)⟩
 have ne':∀ {b:Addr} {u:HO},H' b=some u->b≠e:=fun {b u} q z=>by rw [z,He] at q;cases q
 refine⟨⟨fun b o q n m x=>?_,fun b o q n m x=>?_,fun b o q n x=>?_,fun b o q x=>?_,fun b xs q=>?_,fun b o u q=>?_,fun b ps q=>?_⟩,fun a o q=>?_⟩
 ·exact hk b o (un.keep b o q n m x) (ne q).1 (ne q).2 m
 ·obtain⟨sl,h1⟩:=un.slot b o q n m x
  obtain⟨sl',h3⟩:=hs b m _ h1
  exact⟨sl',h3⟩
 ·rw [zE (ne q).1];exact un.free b o q n x
 ·obtain⟨o',h1⟩:=un.there b o q x
  by_cases m:b∈frs X.stack
  ·obtain⟨sl,h3⟩:=hs b m o' h1
   exact⟨_,h3⟩
  ·exact⟨o',hk b o' h1 (ne q).1 (ne q).2 m⟩
 ·have:=un.tups b xs q
  rw [zE (ne' this)];exact this
 ·have:=un.frzs b o u q
  rw [zE (ne' this)];exact this
 ·obtain⟨more,h1⟩:=un.tbls b ps q
  exact⟨more,by rw [zE (ne' h1)];exact h1⟩
 ·by_cases ha:a=e
  ·subst ha
   rw [zam] at q
   cases q
   exact⟨hoe,True.intro,⟨oe,hoe⟩,fun _ _ _ _=>True.intro⟩
  ·rw [zE ha] at q
   refine (hok a o q).stay (fun b u hb r=>?_) (fun b r=>by rw [zE (ne' r)];exact r) fun b xs r=>by rw [zE (ne' r)];exact r
   have n:H' b≠none:=by
    rcases hb with rfl | hb
    ·rw [q];exact Option.some_ne_none _
    ·rw [hb];exact Option.some_ne_none _
   exact hk b u r (fun z=>n (by rw [z];exact He)) (fun z=>n (by rw [z];exact HT)) (fun z=>n (stkF b z))
theorem name_goes {M:Model}{A:Around}{E:Value->Shared->Prop}{i:Nat}{x:Str}{pos:Pos}{Q:Unit->Shared->Prop}(I:L2.Inv X pins σ H s)(hN:X.N.Nodup)(hi:X.N[i]?=some x)(hx:X.env.scope.names.lookup x=some .local)
    (h:∀ s',L2.Inv X pins (σ.set i none) H s'->Q () s'):wpAny M A (do bindName X.env x .none;unbindBehindTheSuite X.env x pos) Q E s:=by
  obtain⟨m,hn,hl⟩:=id I.loc
  have lo:∀ {b:Addr} {o:Obj},X.s₀.heap.get? b=some o->b≠X.env.locals:=fun {b o} e=>Nat.ne_of_lt (Nat.lt_of_lt_of_le (Heap.lt_size e) I.ok.above)
  refine wpAny_nameGoes_keeps hx hn (by rw [I.ok.kind];rfl) fun h' v hn' hs=>h _ ⟨I.ok,I.os,I.bare,⟨fun b o e n hb hx=>(hs.2 b (lo e)).trans (I.base.keep b o e n hb hx),fun b o e n hb hx=>?_,I.base.free,fun b o e hx=>?_,I.base.tups,I.base.frzs,I.base.tbls⟩,⟨_,hn',fun j y w e1 e2 e3=>?_⟩,fun y c e=>?_,I.free,I.freeC,fun p hp=>?_,fun a o e=>?_,?_⟩
  · obtain⟨sl,e1⟩:=I.base.slot b o e n hb hx
    exact⟨sl,(hs.2 b (lo e)).trans e1⟩
  · obtain⟨o',e1⟩:=I.base.there b o e hx
    exact⟨o',(hs.2 b (lo e)).trans e1⟩
  · have hj : j ≠ i := fun z => by
      subst z
      rw [List.getElem?_set] at e2
      split at e2
      · split at e2<;>cases e2
      · exact absurd rfl ‹_›
    rw [List.getElem?_set_ne (Ne.symm hj)] at e2
    obtain⟨u',r',q⟩:=hl j y w e1 e2 e3
    refine⟨u',r',?_⟩
    rcases q with ⟨k,e⟩ | ⟨k,c,e,z⟩
    · refine .inl ⟨k,?_⟩
      have:y≠x:=fun e=>hj (zcm hN e1 (e▸hi))
      simp [this,e]
    · exact .inr ⟨k,c,e,z.sameBut hs (I.cne y c e)⟩
  · obtain⟨w,z⟩:=I.cell y c e
    exact⟨w,z.sameBut hs (I.cne y c e)⟩
  · obtain⟨e,n,ne,nf,d⟩:=I.pin p hp
    exact⟨(hs.2 p.1 ne).trans e,n,ne,nf,d⟩
  · refine (I.hok a o e).stay (fun c w hc q=>(hs.2 c ?_).trans q) (fun _ q=>q) fun _ _ q=>q
    rintro rfl
    rcases hc with rfl | hc
    · rw [I.free] at e;cases e
    · rw [I.free] at hc;cases hc
  · rw [List.length_set];exact I.len
variable [B:Bs]
theorem zH.unset {K:PySem.W.Frag}{ad:List Addr}{H:Hp}{ρ:Rho}{σ:L2.St}(h:zH K ad H ρ σ)(i:Nat):zH K ad H (ρ.set i none) (σ.set i none):=by
  refine⟨by rw [List.length_set,List.length_set];exact h.len,fun j d e=>?_⟩
  rw [List.getElem?_set] at e
  split at e
  · split at e<;>cases e
  · rename_i hj
    obtain⟨v,ev,r⟩:=h.val j d e
    exact⟨v,by rw [List.getElem?_set_ne hj];exact ev,r⟩
abbrev zeP (X:Cx)(xe:Value->Shared->Prop)(pn:List (Addr×Obj)):Cx:={ X with xe:=xe,pn:=pn }
omit B in
theorem zgy (I:L2.Inv X pins σ H s)(xe:Value->Shared->Prop):L2.Inv (zeP X xe (X.pn++pins)) [] σ H s :=
 ⟨⟨I.ok.mod,I.ok.kind,I.ok.glob,I.ok.blt,I.ok.above,I.ok.inj,I.ok.has,I.ok.cab,I.ok.hd,I.ok.frames,I.ok.stk,I.ok.exf,I.ok.bs,I.ok.bsz,I.ok.noex,I.ok.exfs,I.ok.funs,I.ok.frf⟩,I.os,I.bare,I.base,I.loc,I.cell,I.free,I.freeC,fun p hp=>I.pin p (by rwa [List.append_nil] at hp),I.hok,I.len⟩
omit B in
theorem zaM {xe:Value->Shared->Prop}{pins':List (Addr×Obj)}(I:L2.Inv (zeP X xe (X.pn++pins)) pins' σ H s):L2.Inv X pins σ H s :=
 ⟨⟨I.ok.mod,I.ok.kind,I.ok.glob,I.ok.blt,I.ok.above,I.ok.inj,I.ok.has,I.ok.cab,I.ok.hd,I.ok.frames,I.ok.stk,I.ok.exf,I.ok.bs,I.ok.bsz,I.ok.noex,I.ok.exfs,I.ok.funs,I.ok.frf⟩,I.os,I.bare,I.base,I.loc,I.cell,I.free,I.freeC,fun p hp=>I.pin p (List.mem_append_left _ hp),I.hok,I.len⟩
theorem zaR.base {K:PySem.W.Frag}{ad:List Addr}{H:Hp}{S:Sto}{E0:zdh}{E:Ends}(st:zf K ad H S)(k:zaR K ad H E0 E):@zaR ⟨ad,H⟩ K ad H E0 E :=
 @zaR.mk ⟨ad,H⟩ _ _ _ _ _ (fun ρ S σ H' ad' q w st' r=>k.nx ρ S σ H' ad' q w (st.back st') r) (k.rt.base st) (fun ρ S σ H' ad' q w st' r=>k.bk ρ S σ H' ad' q w (st.back st') r) (fun ρ S σ H' ad' q w st' r=>k.ct ρ S σ H' ad' q w (st.back st') r)
theorem zhr {i:Nat}{x cls:Str}{ok:List Str}{b:XR->DS}{h:DS}{body:List Stmt}{b0:Stmt}{suite:List Stmt}{np hpos pos:Pos}(hst:X.stack=X.env::X.outer)(hfr:X.env.frame=some X.env.locals)(hN:X.N.Nodup)(hi:X.N[i]?=some x)(hx:X.env.scope.names.lookup x=some .local)(hg:Gl X cls)
  (hcls:∃ Cc,X.mg cls=some (.ref Cc)/\∀ c C,ok.contains c=true->PySem.W.nsIn X.K mainGlobals c=some (some (.ref C))->PySem.W.exmOne X.K (.ref C) (.ref Cc)=some true)
  (hb:∀ [Bs] (xe:Value->Shared->Prop) (pn:List (Addr×Obj)) (ex:XR),XOk (zeP X xe pn) ex->zaY (zeP X xe pn) body (b ex)) (hh:∀ e,zaY (hand X e) (b0::suite) h) (hdb:(cls==("__debug__":Str))=false:=by decide) :
  PSD X (.Try body [.ExceptHandler (some (.Name cls np)) (some x) (b0::suite) hpos] [] [] pos) (zf9 i ok b h):=by
 with_unfolding_all
  intro pins s σ H D I hq
  obtain⟨ad,ρ,S,E0,st,rh,q,k⟩:=hq
  obtain⟨Cc,hm,hexm⟩:=hcls
  refine wpAny_Try_except ?_
  have hbody:=@hb ⟨ad,H⟩ (fun e s₁=>wpAny (model X.prog X.w) X.A (noteFrame e X.env) (fun _ s₂=>wpAny (model X.prog X.w) X.A (setFlight e none) (fun _ s₃=>wpAny (model X.prog X.w) X.A (handleBy e X.env [.ExceptHandler (some (.Name cls np)) (some x) (b0::suite) hpos]) (SP X pins D) X.xe s₃) X.xe s₂) X.xe s₁) (X.pn++pins)
   (fun ρ' c S'=>ok.contains c=true/\h { nx:=fun ρ2 S2=>E0.nx (ρ2.set i none) S2,rt:=E0.rt,bk:=fun _ _=>False,ct:=fun _ _=>False } (ρ'.set i (some (.exn c))) S') ?hX
  ·refine wpAny_mono (hbody [] s σ H D (zgy I _) ⟨ad,ρ,S,E0,st.base,rh,q,k.base st⟩) (fun f s₁ hf=>?_) fun _ _ z=>z
   cases f with
   | next=>obtain⟨σ',H',I',q'⟩:=hf;exact wpAny_execs_nil ⟨σ',H',zaM I',q'⟩
   | brk=>obtain⟨σ',H',I',q'⟩:=hf;exact⟨σ',H',zaM I',q'⟩
   | cont=>obtain⟨σ',H',I',q'⟩:=hf;exact⟨σ',H',zaM I',q'⟩
   | ret u=>obtain⟨v,σ',H',I',r,q'⟩:=hf;exact⟨v,σ',H',zaM I',r,q'⟩
  intro pins' σ1 H1 s1 s' ad1 ad' ρ1 S1 S' c C a H' I1 st1 rh1 hx' st' wd' hn os bare un hok fly
  obtain⟨hok',hh'⟩:=hx'
  obtain⟨he,He,a0,oe,vs,T,oT,ts,f1,f2,f3,f4,f5,f6,f7,f8,f9,HT⟩:=fly
  have I0:L2.Inv X pins σ1 H1 s1:=zaM I1
  have nil0:∀ b∈([]:List Addr),(b∈X.ex\/X.s₀.heap.objs.size<=b)/\b≠X.env.locals/\(∀ x c,X.env.cells.lookup x=some c->c≠b)/\∀ p∈X.pn++pins,p.1≠b:=fun b z=>absurd z (by simp)
  have I':=I0.call' (ch:=[]) os un hok bare nil0
  have ff:s'.heap.FunFrames X.base X.stack:=I'.stack
  obtain⟨p,hp⟩:∃ p:Addr->Bool,∀ b,p b=true↔b≠a/\b≠T/\b∉frs X.stack:=⟨fun b=>decide (b≠a/\b≠T/\b∉frs X.stack),fun b=>decide_eq_true_iff⟩
  have mno:∀ {b:Addr},¬ (b≠a/\b≠T/\b∉frs X.stack)->(zab s'.heap p).get? b=none:=fun {b} n=>by
   rw [zax,if_neg (fun z=>n ((hp b).mp z))]
  have myes:∀ {b:Addr} {o:Obj},s'.heap.get? b=some o->b≠a->b≠T->b∉frs X.stack->(zab s'.heap p).get? b=some o:=fun {b o} q n1 n2 n3=>by
   rw [zax,if_pos ((hp b).mpr ⟨n1,n2,n3⟩)];exact q
  have fb:s'.heap.FunFrames (zab s'.heap p) X.stack:=zb7 ff fun L hL=>mno fun z=>z.2.2 hL
  have fl:Heap.FlyingW (zab s'.heap p) X.stack a (.ref C) a0 s'.heap:=⟨zbB _ _,mno fun z=>z.1 rfl,fb,oe,vs,T,oT,ts,f1,f2,f3,f4,mno fun z=>z.2.1 rfl,f6,f7,f8,f9⟩
  have fr:=I.ok.frames
  rw [hst] at fr
  rw [hst] at fl
  have keep:∀ {h2:Heap},(zab s'.heap p).StaysIn h2->∀ b o,s'.heap.get? b=some o->b≠a->b≠T->b∉frs X.stack->h2.get? b=some o:=fun {h2} k1 b o q n1 n2 n3=>k1 b o (myes q n1 n2 n3)
  have slot:∀ {h2:Heap},s'.heap.UpToSlots h2->∀ b∈frs X.stack,∀ o,s'.heap.get? b=some o->∃ sl,h2.get? b=some { o with slots:=sl }:=fun {h2} us b hb o q=>by
   obtain⟨_,o',h1,h2⟩:=ff.mem hb
   rw [q] at h1;cases h1
   exact us b o q h2
  show wpAny (model X.prog X.w) X.A (noteFrame (.ref a) X.env) _ _ s'
  refine wpAny_looks_onW fr hfr fl fun h1 hheld us1=>?_
  refine wpAny_landsW hheld fun h2 hfl2 us2=>?_
  obtain⟨k1,k2,k3,k4⟩:=id hfl2
  obtain⟨oe2,vs2,T2,oT2,ts2,g1,g2,_⟩:=id k4
  obtain⟨u2,hok2⟩:=zeC I0 un hok he f5 He HT I'.stkFree (keep k1) (slot (us1.trans us2)) g1
  have I2:=I0.call' (s':={ s' with heap:=h2 }) (ch:=[]) os u2 hok2 bare nil0
  refine wpAny_handleBy_cons (codeAny_handlers_test (zaX (zdL I2 a) hg hm ?_ hdb)) (by intro z;cases z)
  have LT:PySem.W.Looks (model X.prog X.w) h2 (typeOf (.ref a)) (.ref C):=g2.1▸(PySem.W.Looks.ld g1).andThen .now
  refine (PySem.W.exm_one (h:=h2) I2.kIn LT (hexm c C hok' hn)).here ?_
  refine codeAny_handlers_suite_as ?_
  refine wpAny_setFlight_noneW k1 k3 k4.at fun h3 b1 b2 b3 b4=>?_
  obtain⟨oe3,vs3,T3,oT3,ts3,e1,e2,_⟩:=id b3
  have us3:s'.heap.UpToSlots h3:=fun b o q n=>by
   obtain⟨sl,z⟩:=us1.trans us2 b o q n
   exact⟨sl,b4 b _ z n⟩
  obtain⟨u3,hok3⟩:=zeC I0 un hok he f5 He HT I'.stkFree (keep b1) (slot us3) e1
  have I3:=I0.call' (s':={ s' with heap:=h3 }) (ch:=[]) os u3 hok3 bare nil0
  refine zcg I3 hN hi (.inl hx) (show RelV (.ref a) (.ref a) from rfl) (fun s4 I4=>?_) (.inr hx)
  have wd0:Wd ad H ad' H':=@zf.wd ⟨ad,H⟩ _ _ _ _ st'
  have st3:zf X.K ad' (upd H' a (.frz oe3 (.ext fun _=>True))) S':=(st.back st').laid He
  have w3:Wd ad' H' ad' (upd H' a (.frz oe3 (.ext fun _=>True))):=Wd.laid He
  have rho:zH X.K ad' (upd H' a (.frz oe3 (.ext fun _=>True))) (ρ1.set i (some (.exn c))) (σ1.set i (some (.ref a))):=((rh1.wd wd').wd w3).set (.exn zam e2.1 hn) i
  have wAll:=wd0.trans w3
  have hs:=hh a pins s4 _ _ { nx:=fun σ2 H2=>D.nx (σ2.set i none) H2,rt:=D.rt,bk:=fun _ _=>False,ct:=fun _ _=>False } (zdL I4 a) ⟨ad',_,S',_,st3,rho,hh',⟨fun ρ2 S2 σ2 H2 ad2 q2 w2 st2 rh2=>k.nx (ρ2.set i none) S2 (σ2.set i none) H2 ad2 q2 (wAll.trans w2) st2 (rh2.unset i),k.rt.wd wAll,fun _ _ _ _ _ z=>z.elim,fun _ _ _ _ _ z=>z.elim⟩⟩
  refine wpAny_mono hs (fun f s5 hf=>?_) fun _ _ z=>z.elim
  cases f with
  | next=>obtain⟨σ5,H5,I5,q5⟩:=hf;exact name_goes (zcE I.ok.hd I5) hN hi hx fun s6 I6=>⟨_,H5,I6,q5⟩
  | brk=>obtain⟨_,_,_,z⟩:=hf;exact z.elim
  | cont=>obtain⟨_,_,_,z⟩:=hf;exact z.elim
  | ret u=>obtain⟨v,σ5,H5,I5,r5,q5⟩:=hf;exact name_goes (zcE I.ok.hd I5) hN hi hx fun s6 I6=>⟨v,_,H5,I6,r5,q5⟩
end
structure IsC (K:PySem.W.Frag)(C:Addr):Prop where
 ga:PySem.W.findIn K (.ref C) "__getattribute__"=some (some (.builtin "BaseException.__getattribute__"))
 hk:PySem.W.findIn K (.ref C) "__getattr__"=some none
 cl:PySem.W.findIn K (.ref C) "__class__"=some (some (.builtin "object.__class__"))
 mo:PySem.W.mroIn K C (.type "object")=some true
 mb:PySem.W.mroIn K C (.type "BaseException")=some true
section
open PySem.W PySem.Builtin PySem.Builtin.ObjectAttr PySem.Builtin.Getset_descriptor
variable {prog:Program}{w:World}{A:Around}{E:Value->Shared->Prop}{s:Shared}{K:Frag}{x C:Addr}{o:Obj}
theorem zf7 {M:Model}{h:Heap}(X:K.In h)(I:IsC K C):Looks M h (find (.ref x) (.ref C) "__class__") (.bind (.builtin "getset_descriptor.__get__") (.builtin "object.__class__")):=by
 have L1:=looks_findIn (M:=M) X I.cl
 have L2:=looks_specialIn (M:=M) (v:=.builtin "object.__class__") (name:="__get__") (r:=some (.builtin "getset_descriptor.__get__")) X (by rfl)
 have L3:=looks_takesIn (M:=M) (a:=.builtin "object.__class__") (r:=true) X (by rfl)
 have L2':Looks M h (getOf (some (.builtin "object.__class__"))) (some (.builtin "getset_descriptor.__get__")):=L2
 have L3':Looks M h (dataDescriptor? (some (.builtin "object.__class__")) (some (.builtin "getset_descriptor.__get__"))) (some (.builtin "getset_descriptor.__get__",.builtin "object.__class__")):=L3.andThen .now
 exact L1.andThen (L2'.andThen (L3'.andThen (Looks.tag .now)))
theorem zhe {tp:Value}{R:Result->Shared->Prop}(X:K.In s.heap)(I:IsC K C)(hx:s.heap.get? x=some o)(hc:o.cls=.ref C)(h:R (.ok (.ret (.ref C))) s) :
  codeAny (model prog w) A (.call (.builtin "getset_descriptor.__get__") ⟨[.builtin "object.__class__",.ref x,tp],[]⟩) R s:=by
 obtain⟨hh,g,dr,t,os⟩:=s
 have L0:Looks (model prog w) hh (typeOf (.ref x)) (.ref C):=hc▸(Looks.ld hx).andThen .now
 have L1:=looks_mroIn (M:=model prog w) X I.mo
 refine codeAny_call_builtin KF.slot_gs.plain KF.entry_gs (KF.slot_gs.check _ _ _ _ _ _ _ _ KF.type_class (KF.args_gs _ _ _) ?_)
 unfold Builtin.«getset_descriptor.__get__» descrGet
 rw [dga_obj]
 refine wpAny_bind (wpAny_pure ?_)
 unfold descrGetter descrCheckInstance descrNameAndClass isInstance
 simp only [KF.owner_class]
 repeat lk
 refine⟨Code.quiet_builtin _ (by decide +kernel),codeAny_builtin KF.entry_class ?_⟩
 unfold Builtin.«object.__class__» shownTypeOf
 repeat lk
 exact h
theorem zfg {M:Model}{nameV:Value}{Q:Unit->Shared->Prop}(X:K.In s.heap)(I:IsC K C)(hx:s.heap.get? x=some o)(hc:o.cls=.ref C)(hq:Q () s):wpAny M A (checkBuiltinCall "BaseException.__getattribute__" ⟨[.ref x,nameV],[]⟩) Q E s:=by
  obtain⟨hh,g,dr,t,os⟩:=s
  have L0:Looks M hh (typeOf (.ref x)) (.ref C):=hc▸(Looks.ld hx).andThen .now
  have L1:=looks_mroIn (M:=M) X I.mb
  have hk:builtinKind "BaseException.__getattribute__"=some .slot:=by decide +kernel
  have hsplit:splitId "BaseException.__getattribute__"=some ("BaseException","__getattribute__"):=by decide +kernel
  have ha:=F.args_bexc_ga (.ref x) nameV
  simp only [checkBuiltinCall,hk,hsplit]
  refine wpAny_bind ((show Looks M hh (isInstance (.ref x) (.type "BaseException")) true from L0.andThen L1).at ?_)
  repeat (first | wp_step)
  exact hq
theorem zfP {Q:Option Value->Shared->Prop}(X:K.In s.heap)(I:IsC K C)(hx:s.heap.get? x=some o)(hc:o.cls=.ref C)(h:Q (some (.ref C)) { s with toks:=s.toks+1 }):wpAny (model prog w) A (getAttr? (.ref x) "__class__") Q E s:=by
 obtain⟨hh,g,d,t,os⟩:=s
 have L0:Looks (model prog w) hh (typeOf (.ref x)) (.ref C):=hc▸(Looks.ld hx).andThen .now
 have L1:=looks_findIn (M:=model prog w) X I.ga
 have L2:=looks_findIn (M:=model prog w) X I.hk
 have L3:=zf7 (M:=model prog w) (x:=x) X I
 unfold getAttr? getAttrBy? getAttrBy
 refine wpAny_bind (wpAny_mkText (wpAny_bind (wpAny_attempt (wpAny_holding (wpAny_bind (L0.at (wpAny_bind (L1.at ?_))))))))
 show wpAny _ _ (getAttrByItsOwn _ _ _ _ _ _) _ _ _
 unfold getAttrByItsOwn
 refine wpAny_bind (L2.at (wpAny_bind (wpAny_attempt (wpAny_holding ?_))))
 show wpAny _ _ (boundAndCalled _ _ _) _ _ _
 unfold boundAndCalled
 rw [F.excAttr_ValueError.ga.bind (.ref x)]
 refine wpAny_bind (wpAny_pure ?_)
 refine wpAny_call (codeAny_call_builtin F.excAttr_ValueError.ga.plain F.entry_bexc_ga (zfg (s:=⟨hh,g,d,t+1,os⟩) X I hx hc ?_))
 unfold Builtin.«object.__getattribute__»
 refine wpAny_bind (wpAny_pure (wpAny_bind (wpAny_pure (wpAny_bind (L0.at (wpAny_bind (L3.at ?_)))))))
 show wpAny _ _ (bindTo _ _ _ _) _ _ _
 unfold bindTo
 refine wpAny_bind (wpAny_holding (wpAny_call (zhe (s:=⟨hh,g,d,t+1,os⟩) X I hx hc ?_)))
 refine wpAny_pure ?_
 exact handed_on rfl (wpAny_pure h)
theorem zgh (I:IsC K C):KitX K (.ref x) (.ref C) (fun h=>∃ o,h.get? x=some o/\o.cls=.ref C):=by
  obtain⟨cdD,hcD,_⟩:=Option.bind_eq_some_iff.mp I.mo
  unfold clsIn at hcD
  split at hcD
  · rename_i c' d' cd' sl' ho
    exact
      { ty:=fun M h _ ⟨o,h1,h2⟩=>h2▸(Looks.ld h1).andThen .now
        it:=fun _ _ X _=>by
          intro A' Q' E' s' k q
          unfold isType loadHead
          exact wpAny_bind (wpAny_loadPart (k _ _ (X _ _ ho)) (wpAny_pure q))
        ne:=fun h tp dd its n sl X htp=>by
          refine Bool.eq_false_iff.mpr fun q=>?_
          have e:C=tp:=Value.ref.inj (beq_iff_eq.mp q)
          subst e
          have z:=(X _ _ ho).symm.trans htp
          cases z
        ca:=fun X ⟨o,h1,h2⟩ k=>zfP X I h1 h2 k }
  · cases hcD
end
section
variable [B:Bs]{X:Cx}
def CV (X:Cx)(c:Str)(np:Pos)(cv:Value):Prop:=∀ (pins:List (Addr×Obj)) (σ:L2.St) (H:Hp) (s:Shared) (E:Value->Shared->Prop) (Q:Value->Shared->Prop),Inv X pins σ H s->Q cv s->wpAny (model X.prog X.w) X.A (eval (.Name c np) X.env) Q E s
omit B in
theorem zh9 {c:Str}{np:Pos}{C:Addr}(hg:Gl X c)(hm:X.mg c=some (.ref C))(hd:(c==("__debug__":Str))=false:=by decide):CV X c np (.ref C):=fun _ _ _ _ _ _ I q=>zaX I hg hm q hd
omit B in
theorem zjw {c:Str}{np:Pos}{T:String}(hg:Gl X c)(hm:X.mg c=none)(hv:bootBuiltins c=some (.type T))(hn:c≠"__name__":=by decide)(hd:(c==("__debug__":Str))=false:=by decide):CV X c np (.type T):=fun _ _ _ _ _ _ I q=>zbn I hg hm hv q hn hd
theorem zfc {e:Expr}{t:DE}{p np pos:Pos}{c:Str}{cv:Value}{tbl:List (Str×Bool)}(hg:Gl X "isinstance")(hm:X.mg "isinstance"=none)(he:PD X e t)(hc:CV X c np cv)
  (ht:∀ c' b C,tbl.lookup c'=some b->PySem.W.nsIn X.K mainGlobals c'=some (some (.ref C))->IsC X.K C/\PySem.W.kitOne X.K (.ref C) cv=some b)
  (hs:starEach [e,.Name c np] X.env=(false,eval e X.env)::starEach [.Name c np] X.env:=by rfl) (hpl:(backTo pos (starEach [.Name c np] X.env)).any (·.1)=false:=by rfl) :
  PD X (.Call (.Name "isinstance" p) [e,.Name c np] [] pos) (zci tbl t):=by
 with_unfolding_all
  intro pins s σ H Q I h
  obtain⟨ad,ρ,S,Q0,st,rh,q,k⟩:=h
  refine wpAny_Call_Name_kw (zbn I hg hm boot_isinstance ?_)
  have hA:wpAny (model X.prog X.w) X.A (spliced (backTo pos (starEach [e,.Name c np] X.env))) (fun us s1=>∃ u,us=[u,cv]/\EP X pins σ (fun v H1=>∃ c' b ad1,Rel X.K ad1 H1 (.exn c') v/\tbl.lookup c'=some b/\Q (.bl b) H1) u s1) X.xe s:=by
   rw [hs]
   show wpAny _ _ (spliced ((false,eval e X.env)::backTo pos (starEach [.Name c np] X.env))) _ _ s
   have hv:=he pins s σ H (fun v H1=>∃ c' b ad1,Rel X.K ad1 H1 (.exn c') v/\tbl.lookup c'=some b/\Q (.bl b) H1) I ⟨ad,ρ,S,_,st,rh,q,fun x S1 v H1 ad1 ⟨c',b,ex,hl,q1⟩ w1 st1 r1=>⟨c',b,ad1,ex▸r1,hl,k _ S1 _ H1 ad1 q1 w1 st1 (.bl b)⟩⟩
   refine Calls.spliced_cons (thn hv fun u s1 hu=>?_)
   show wpAny _ _ (spliced ((false,eval (.Name c np) X.env)::[])) _ _ s1
   obtain⟨v,H1,I1,r1,q1⟩:=hu
   exact Calls.spliced_cons (hc pins σ H1 s1 _ _ I1 (Calls.spliced_nil ⟨u,rfl,v,H1,I1,r1,q1⟩))
  refine PyProof.Rows.callWith_builtin1 (thn hA fun us s1 hu=>?_) hs hpl
  obtain⟨u,rfl,v,H1,I1,r1,c',b,ad1,rel,hl,q1⟩:=hu
  cases rel with
  | exn ha hcl hn =>
   cases r1
   obtain⟨ic,ki⟩:=ht _ _ _ hl hn
   refine PySem.W.kia_one (zgh ic) I1.kIn ?_ ki (by intro z;cases z) fun tk=>⟨.bl b,H1,I1.tok _,rfl,q1⟩
   obtain⟨h1,_⟩:=I1.hok _ _ ha
   exact⟨_,h1,hcl⟩
theorem zeA {e:Expr}{t:DE}{p np pos:Pos}{c:Str}{tbl:List (Str×Bool)}(hg:Gl X "isinstance")(hm:X.mg "isinstance"=none)(he:PD X e t)(hgc:Gl X c)
  (ht:∃ Cc,X.mg c=some (.ref Cc)/\∀ c' b C,tbl.lookup c'=some b->PySem.W.nsIn X.K mainGlobals c'=some (some (.ref C))->IsC X.K C/\PySem.W.kitOne X.K (.ref C) (.ref Cc)=some b) (hd:(c==("__debug__":Str))=false:=by decide)
  (hs:starEach [e,.Name c np] X.env=(false,eval e X.env)::starEach [.Name c np] X.env:=by rfl) (hpl:(backTo pos (starEach [.Name c np] X.env)).any (·.1)=false:=by rfl) :
  PD X (.Call (.Name "isinstance" p) [e,.Name c np] [] pos) (zci tbl t):=by
 with_unfolding_all
  obtain⟨Cc,h1,h2⟩:=ht
  exact zfc hg hm he (zh9 hgc h1 hd) h2 hs hpl
theorem zg4 {e:Expr}{t:DE}{p np pos:Pos}{c:Str}{T:String}{tbl:List (Str×Bool)}(hg:Gl X "isinstance")(hm:X.mg "isinstance"=none)(he:PD X e t)(hgc:Gl X c)
  (ht:X.mg c=none/\∀ c' b C,tbl.lookup c'=some b->PySem.W.nsIn X.K mainGlobals c'=some (some (.ref C))->IsC X.K C/\PySem.W.kitOne X.K (.ref C) (.type T)=some b) (hv:bootBuiltins c=some (.type T)) (hn:c≠"__name__":=by decide) (hd:(c==("__debug__":Str))=false:=by decide)
  (hs:starEach [e,.Name c np] X.env=(false,eval e X.env)::starEach [.Name c np] X.env:=by rfl) (hpl:(backTo pos (starEach [.Name c np] X.env)).any (·.1)=false:=by rfl) :
  PD X (.Call (.Name "isinstance" p) [e,.Name c np] [] pos) (zci tbl t):=by with_unfolding_all exact (zfc hg hm he (zjw hgc ht.1 hv hn hd) ht.2 hs hpl)
end
def zf0 (K:PySem.W.Frag)(C:Addr):Bool:=match K.lookup C with
 | some ⟨.type "type",_,.cls cd,sl⟩=>(match cd.mro,sl.toList with
  | .ref C'::bm,[_,_,_,_,some (.builtin n),_]=>C'==C&&!cd.hasDel&&n=="ValueError.__new__"&&PySem.W.nsOkIn K cd.ns&&PySem.W.nsIn K cd.ns "__init__"==some none&&PySem.W.tailIn K [.type "ValueError",.type "Exception",.type "BaseException",.type "object"] bm
  | _,_=>false)
 | _=>false
theorem ExC.of {K:PySem.W.Frag}{C:Addr}(q:zf0 K C=true):ExC K C:=by
 unfold zf0 at q
 split at q
 ·rename_i dd cd sl ho
  split at q
  ·rename_i C' bm k0 k1 k2 k3 n k5 hm hs
   simp only [Bool.and_eq_true,beq_iff_eq,Bool.not_eq_true'] at q
   obtain⟨⟨⟨⟨⟨rfl,hdel⟩,rfl⟩,h1⟩,h2⟩,h3⟩:=q
   obtain⟨nm,bs,mro,ns,qn,hd,sn,sub,ab,col,del⟩:=cd
   dsimp only at hm hdel
   subst hm hdel
   have hsl:sl=#[k0,k1,k2,k3,some (.builtin "ValueError.__new__"),k5]:=by
    obtain⟨l⟩:=sl
    simp only at hs
    rw [hs]
   subst hsl
   exact⟨nm,qn,ns,bs,bm,hd,sn,sub,ab,col,dd,k0,k1,k2,k3,k5,ho,h1,h2,h3⟩
  ·cases q
 ·cases q
def isIn (K:PySem.W.Frag)(C:Addr):Bool:=PySem.W.findIn K (.ref C) "__getattribute__"==some (some (.builtin "BaseException.__getattribute__"))&&PySem.W.findIn K (.ref C) "__getattr__"==some none&&PySem.W.findIn K (.ref C) "__class__"==some (some (.builtin "object.__class__")) &&
 PySem.W.mroIn K C (.type "object")==some true&&PySem.W.mroIn K C (.type "BaseException")==some true
theorem IsC.of {K:PySem.W.Frag}{C:Addr}(q:isIn K C=true):IsC K C:=by
 unfold isIn at q
 simp only [Bool.and_eq_true,beq_iff_eq] at q
 exact⟨q.1.1.1.1,q.1.1.1.2,q.1.1.2,q.1.2,q.2⟩
theorem zfu {a c:Str}{l:List Str}(h:(a::l).contains c=true):c=a\/l.contains c=true:=by
 rw [List.contains_cons,Bool.or_eq_true,beq_iff_eq] at h
 exact h
theorem zcN {a c:Str}{b b':Bool}{l:List (Str×Bool)}(h:((a,b')::l).lookup c=some b):(c=a/\b'=b)\/l.lookup c=some b:=by
 rw [List.lookup_cons] at h
 split at h
 ·rename_i e
  exact .inl ⟨beq_iff_eq.mp e,Option.some.inj h⟩
 ·exact .inr h
section
variable {X:Cx}[B:Bs]
end
section
variable {K:PySem.W.Frag}{ad:List Addr}{H:Hp}{S:Sto}[B:Bs]
end
section
variable {X:Cx}{a b c:Expr}{td ti tz tv:DE}{pos apos cpos:Pos}[B:Bs]
end
structure FH (K:PySem.W.Frag)(n:Str)(st:Stmt)(f:Addr)(fd:FuncData):Prop where
 a:PySem.W.nsIn K mainGlobals n=some (some (.ref f))
 F:Fun K n n st f fd
section
variable {K:PySem.W.Frag}{n:Str}{st:Stmt}{f:Addr}{fd:FuncData}{mg:Str->Option Value}{k:Nat}{h:Heap}{ps:List Str}{sp:Sp}
theorem zi1 {oc:Value}{od an:Option Addr}{osl:Array (Option Value)}{kV doc pm cdv ct:Value}(a:PySem.W.nsIn K mainGlobals n=some (some (.ref f)))
  (l:K.lookup f=some ⟨oc,od,.func (PySem.W.fnOf n n (zah st) (zX st) (zx st) .none kV doc pm an cdv ct),osl⟩) (c:PySem.W.codeIn K cdv n=true) (k:PySem.W.keepIn K (.ref f)=true) :
  FH K n st f (PySem.W.fnOf n n (zah st) (zX st) (zx st) .none kV doc pm an cdv ct):=⟨a,ze7 l c k⟩
theorem zcs (P:Program)(w:World)(base:Heap)(X:K.In h)(G:h.Ns mainGlobals mg)(H:FH K n st f fd)(ok:zZ P w K mg base CX0 k f fd ps sp)
  (b:∀ (kV doc pm:Value) (an:Option Addr) (cdv ct:Value) (us:List Value),us.length=ps.length->bindArgs (PySem.W.fnOf n n (zah st) (zX st) (zx st) .none kV doc pm an cdv ct) ⟨us,[]⟩=pure (ps.zip us):=by intro _ _ _ _ _ _ us hl;first | (obtain⟨_,e⟩:=zgm hl;subst e;rfl) | (obtain⟨_,_,e⟩:=zgp hl;subst e;rfl) | (obtain⟨_,_,_,e⟩:=len_3 hl;subst e;rfl) | (obtain⟨_,_,_,_,e⟩:=len_4 hl;subst e;rfl) | (obtain⟨_,_,_,_,_,e⟩:=len_5 hl;subst e;rfl) | (obtain⟨_,_,_,_,_,_,e⟩:=len_6 hl;subst e;rfl) | (obtain⟨_,_,_,_,_,_,_,e⟩:=len_7 hl;subst e;rfl)):Got P w K mg base k n ps sp:=⟨⟨f,fd,ok,H.F.binds b,H.F.kp,PySem.W.mg_of X G H.a⟩⟩
theorem zgB (P:Program)(w:World)(base:Heap)(X:K.In h)(G:h.Ns mainGlobals mg)(H:FH K n st f fd)(ok:zZ P w K mg base (CXd P w) k f fd ps sp)
  (b:∀ (kV doc pm:Value) (an:Option Addr) (cdv ct:Value) (us:List Value),us.length=ps.length->bindArgs (PySem.W.fnOf n n (zah st) (zX st) (zx st) .none kV doc pm an cdv ct) ⟨us,[]⟩=pure (ps.zip us):=by intro _ _ _ _ _ _ us hl;first | (obtain⟨_,e⟩:=zgm hl;subst e;rfl) | (obtain⟨_,_,e⟩:=zgp hl;subst e;rfl) | (obtain⟨_,_,_,e⟩:=len_3 hl;subst e;rfl) | (obtain⟨_,_,_,_,e⟩:=len_4 hl;subst e;rfl) | (obtain⟨_,_,_,_,_,e⟩:=len_5 hl;subst e;rfl) | (obtain⟨_,_,_,_,_,_,e⟩:=len_6 hl;subst e;rfl) | (obtain⟨_,_,_,_,_,_,_,e⟩:=len_7 hl;subst e;rfl)):zf2 P w K mg base k n ps sp:=⟨⟨f,fd,ok,H.F.binds b,H.F.kp,PySem.W.mg_of X G H.a⟩⟩
end
section
variable {X:Cx}
theorem zq [B:Bs](i:Nat){x:Str}{pos:Pos}(hN:X.N[i]?=some x:=by rfl)(hv:L2.Vis X.env.scope x:=by first | exact Or.inl rfl | exact Or.inr (Or.inl rfl) | exact Or.inr (Or.inr rfl))(hd:(x==("__debug__":Str))=false:=by decide)(hcd:(x==("__classdict__":Str))=false:=by decide):PD X (.Name x pos) (zj i):=by with_unfolding_all exact (zcF (ze0 hN hv hd hcd))
theorem zbq {N P:List Str}{sc:Scope}(h1:sc.kind=.function:=by rfl)(h2:sc.isCoroutine=false:=by rfl)(h3:sc.isGenerator=false:=by rfl)(h4:N.Nodup:=by decide +kernel)(h5:N.take P.length=P:=by rfl)(h6:∀ x∈P,sc.names.lookup x=some .local\/sc.names.lookup x=some .cell:=by decide +kernel)(h7:∀ y∈sc.names,y.2≠.free:=by decide +kernel):z6 N P sc:=⟨h1,h2,h3,h4,h5,h6,h7⟩
end
section
variable {X:Cx}{a b c:Expr}{ta tb:DE}{td ti tz tv:DE}{pos apos cpos:Pos}[B:Bs]
end
section
variable {X:Cx}{a b:Expr}{ta tb:DE}{pos apos cpos:Pos}[B:Bs]
theorem zhU {i:Int}(h:My.Bd 1900 i):i.natAbs.log2<1920:=by
 by_cases e:i.natAbs=0
 ·rw [e];decide
 ·exact Nat.lt_of_lt_of_le ((Nat.log2_lt e).mpr h) (by decide)
theorem zcv:BC X (.type "str") zcJ:=⟨_,zdT,fun ad H S ds vs Q0 Q st r h k=>by
 obtain⟨i,rfl,hb,q⟩:=h
 obtain⟨v,rfl,rv⟩:=zbL r
 cases rv
 exact⟨i,rfl,zhU hb,k _ S _ H ad q Wd.refl st (.str _)⟩⟩
theorem zeI {z:Str}{n:Int}(hl:z.length<=640)(h:zd5 z n):PySem.intText? z=some n:=by
 rcases h with ⟨h1,h2,rfl⟩ | ⟨cs,e,h1,h2,rfl⟩
 ·exact PySem.intText_digits h1 h2 (by omega)
 ·exact PySem.intText_neg e h1 h2 (by omega)
theorem zeZ:z9 X (.type "int") (fun xs H Q=>∃ z n,xs=[.str z]/\z.length<=640/\zd5 z n/\Q (.int n) H):=by
 intro pins s σ H xs us Q I r h
 obtain⟨z,n,rfl,hl,hn,q⟩:=h
 obtain⟨u,rfl,t,rfl⟩:=vals1 r
 exact PySem.W.KIN.call_text (zeI hl hn) hl ⟨.int n,H,I.tok _,⟨_,rfl⟩,q⟩
theorem zhl:BC X (.type "int") zdk:=⟨_,zeZ,fun ad H S ds vs Q0 Q st r h k=>by
 obtain⟨z,n,rfl,hl,hn,q⟩:=h
 obtain⟨v,rfl,rv⟩:=zbL r
 cases rv
 exact⟨z,n,rfl,hl,hn,k _ S _ H ad q Wd.refl st (.int _)⟩⟩
def zgW (ta tb:TE):TE:=fun σ H Q=>ta σ H fun x H1=>(∃ z,x=.str z)/\tb σ H1 fun y H2=>∃ z c,x=.str z/\y=.str ⟨#[c]⟩/\Q (.bl (decide (z.cps.toList[0]?=some c))) H2
theorem ze4 {ta tb:TE}(ha:PE X a ta)(hb:PE X b tb)(hbase:attributeBase a "startswith" X.env (eval a X.env)=eval a X.env)(hs:starEach [b] X.env=[(false,eval b X.env)])(hline:(apos.endLine==cpos.line)=true):PE X (.Call (.Attribute a "startswith" apos) [b] [] cpos) (zgW ta tb):=by
 intro pins s σ H Q I h
 refine PySem.Call_method1 hbase hs hline (thn (ha pins s σ H _ I h) fun u s1 ⟨x,H1,I1,rx,⟨z,ex⟩,q1⟩=>?_)
 subst ex
 obtain⟨t,rfl⟩:=rx
 refine PySem.SB.startswith (thn (hb pins s1 σ H1 _ I1 q1) fun v s2 ⟨y,H2,I2,ry,z',c,e1,e2,q2⟩=>?_)
 cases e1
 subst e2
 obtain⟨t',rfl⟩:=ry
 have e:PySem.Txt.startswith z ⟨#[c]⟩=decide (z.cps.toList[0]?=some c):=by
  rw [Bool.eq_iff_iff,decide_eq_true_eq,<- PySem.StrLaws.subAt_one z c 0]
  unfold PySem.Txt.startswith
  rw [Bool.and_eq_true,decide_eq_true_eq]
 exact⟨_,_,rfl,.bl (decide (z.cps.toList[0]?=some c)),H2,I2,by rw [e];rfl,q2⟩
theorem ze5 (ha:PD X a ta)(hb:PD X b tb)(hbase:attributeBase a "startswith" X.env (eval a X.env)=eval a X.env:=by rfl)(hl:isStar b=false:=by rfl)(hline:(apos.endLine==cpos.line)=true:=by rfl):PD X (.Call (.Attribute a "startswith" apos) [b] [] cpos) (zcU ta tb):=by with_unfolding_all exact (z8 (ze4 ha hb hbase (zdw hl) hline) fun σ H Q hh=>el8 hh fun ad ρ S Q0 st rh q k =>
 ⟨ad,ρ,S,_,st,rh,q,fun x S1 v H1 ad1 ⟨⟨z,ex⟩,q1⟩ w1 st1 r1=>by
  subst ex
  cases r1
  exact⟨⟨z,rfl⟩,ad1,ρ,S1,_,st1,rh.wd w1,q1,fun y S2 u H2 ad2 ⟨z',c,e1,e2,q2⟩ w2 st2 r2=>by
   cases e1
   subst e2
   cases r2
   exact⟨z,c,rfl,rfl,k _ S2 _ H2 ad2 q2 (w1.trans w2) st2 (.bl _)⟩⟩⟩)
end
end Dp
open PySem Dp
local macro_rules | `(tactic| walk_at "dat")=>`(tactic| first | assumption | exact ze1 | exact zb8 | (refine (zbS _ _ _).trans ?_;exact rfl) | exact zcR (by assumption))
local macro_rules | `(tactic| walk_at "dlat")=>`(tactic| first | assumption | exact Lst.rl | exact Lst.at0 | exact Lst.new | (refine Lst.at ?_;exact rfl) | exact Lst.old (by assumption) | exact Lst.here (by assumption) | exact Lst.here (zcR (by assumption)))
local macro_rules | `(tactic| walk_at "dseq")=>`(tactic| first | exact Or.inl rfl | (refine Or.inr ?_;walk_at "dlat"))
local macro_rules | `(tactic| walk_at "dbd")=>`(tactic| first | assumption | exact My.Bd.mono (by assumption) (by decide) | exact My.Bd.lit (by decide) (by decide) | (refine My.Bd.add ?_ ?_<;>walk_at "dbd") | (refine My.Bd.sub ?_ ?_<;>walk_at "dbd") | (refine My.Bd.neg ?_;walk_at "dbd") | (refine My.Bd.mulH ?_ ?_<;>walk_at "dbd") | (refine My.Bd.emod (by omega) ?_;walk_at "dbd") | (refine My.Bd.ediv ?_;walk_at "dbd"))
local macro_rules | `(tactic| walk_at "dmul")=>`(tactic| first | assumption | exact Or.inr (Or.inl (by omega)) | exact Or.inr (Or.inr (by omega)) | exact Or.inl ⟨by walk_at "dbd",by walk_at "dbd"⟩)
local macro_rules | `(tactic| walk_at "ddiv")=>`(tactic| first | assumption | exact⟨by omega,by walk_at "dbd"⟩)
local macro_rules | `(tactic| walk_at "dr1")=>`(tactic| with_reducible first|refine zii ?_|refine zke ?_|refine zfN ?_)
local macro_rules | `(tactic| walk_at "dr1")=>`(tactic| first|((with_reducible refine zjO (xs:=?rvx) ?rvl ?_);(case rvl=>walk_at "dlat")))
local macro_rules | `(tactic| walk_at "dr1")=>`(tactic| with_reducible first|refine zgi ?_|refine zf1 ?_|refine zjt ?_|refine zjB ?_|refine zjI ?_|refine ziI ?_|refine ziU ?_)
local macro_rules | `(tactic| walk_at "dr1")=>`(tactic| first|((with_reducible refine ziw (xs:=?rvx) ?rvl ?_);(case rvl=>walk_at "dlat")))
local macro_rules | `(tactic| walk_at "dr1")=>`(tactic| with_reducible first|refine zhN ?_|refine zj9 ?_|refine zhV ?_|refine zit ?_)
local macro_rules | `(tactic| walk_at "dr1")=>`(tactic| first|((with_reducible refine zh4 ?rvk ?_);(case rvk=>exact rfl)))
local macro_rules | `(tactic| walk_at "dr1")=>`(tactic| with_reducible first|refine zdb ?_|refine zcS ?_|refine zix ?_|refine zgF ?_)
local macro_rules | `(tactic| walk_at "dr1")=>`(tactic| first|((with_reducible refine zhM (xs:=?rvx) ?rvl ?_);(case rvl=>walk_at "dlat"))|((with_reducible refine zgM (xs:=?rvx) ?rvl ?_);(case rvl=>walk_at "dlat")))
local macro_rules | `(tactic| walk_at "dr1")=>`(tactic| with_reducible first|refine r_b ?_|refine zi7 ?_|refine zjz ?_|refine ziL ?_|refine zb4 ?_|refine ziN ?_)
local macro_rules | `(tactic| walk_at "dr1")=>`(tactic| first|((with_reducible refine zib (b:=?rvv) ?rvk ?_);(case rvk=>exact rfl)))
local macro_rules | `(tactic| walk_at "dr1")=>`(tactic| with_reducible first|refine zid ?_|refine zhc ?_|refine zjl ?_)
local macro_rules | `(tactic| walk_at "dr1")=>`(tactic| first|((with_reducible refine zjN ?rvk ?_);(case rvk=>exact rfl)))
local macro_rules | `(tactic| walk_at "dr1")=>`(tactic| with_reducible first|refine r_t ?_|refine zkk ?_|refine ziZ ?_|refine zjK ?_|refine zjQ ?_|refine zjj ?_|refine zjE ?_|refine zjJ ?_|refine zi0 ?_|refine zhQ ?_|refine zjL ?_|refine zjm ?_)
local macro_rules | `(tactic| walk_at "dr1")=>`(tactic| first|((with_reducible refine zjp ?rvk ?_);(case rvk=>walk_at "dmul"))|((with_reducible refine ziM ?rvk ?_);(case rvk=>walk_at "ddiv"))|((with_reducible refine zjA ?rvk ?_);(case rvk=>first | omega | assumption))|((with_reducible refine zjv (xs:=?rvx) (d:=?rvv) ?rvl ?rvk ?_);(case rvl=>walk_at "dlat");(case rvk=>first | assumption | exact rfl)))
local macro_rules | `(tactic| walk_at "dr1")=>`(tactic| with_reducible first|refine r_c ?_|refine zj4 ?_|refine zjF ?_|refine ziT ?_|refine zfF ?_|refine zjG ?_|refine zjU ?_|refine zjT ?_|refine zjg ?_|refine zjx ?_)
local macro_rules | `(tactic| walk_at "dr1")=>`(tactic| first|((with_reducible refine ziW (d:=?rvv) ?rvk ?_);(case rvk=>exact rfl)))
local macro_rules | `(tactic| walk_at "dr1")=>`(tactic| with_reducible first|refine zjc ?_|refine zdR ?_|refine zeU ?_|refine zhz ?_|refine ziR ?_|refine zjb ?_|refine zjX ?_|refine zgP ?_)
local macro_rules | `(tactic| walk_at "g")=>`(tactic| repeat walk_at "dr1")
local macro_rules | `(tactic| walk_at "drho")=>`(tactic| simp only [zaO,List.map_cons,List.map_nil,List.length_cons,List.length_nil,Nat.reduceSub,Nat.reduceAdd,List.replicate,List.cons_append,List.nil_append,List.set_cons_zero,List.set_cons_succ])
local macro_rules | `(tactic| walk_at "drho2")=>`(tactic| simp only [List.set_cons_zero,List.set_cons_succ])
namespace Dp
open PySem Rm My
def zan:DSp:=fun ds S Q=>∃ (c k:Int),ds=[.int c,.int k]/\0<=k/\k<3000/\∀ v,0<=v->v<2147483629->Q (.int v) S
def zaL:DS :=
    (zP (zY (dOp oMod (dOp zbM (dOp zap (dOp zap (dOp oMod (zj 0) (dC (.int 1000000007))) (dOp zbM (dC (.int 7919)) (zj 1))) (dC (.int 1))) (dC (.int 48271))) (dC (.int 2147483647))) (zB 2))
 (zaG (dOp oMod (dOp zbM (zj 2) (zj 2)) (dC (.int 2147483629)))))
theorem zdc:∀ ds So Q,zan ds So Q->ds.length=2:=by rintro ds So Q ⟨_,_,rfl,_⟩;rfl
theorem zdG:BodyOk 3 zaL zan:=by
 rintro ds S Q ⟨c,k,rfl,h0,hk,q⟩
 unfold zaL
 have h1:=Int.emod_nonneg c (b:=1000000007) (by decide)
 have h2:=Int.emod_lt_of_pos c (b:=1000000007) (by decide)
 have cm1:zca (c%1000000007+7919*k+1) 48271:=.inr (.inr (show (48271:Int).natAbs<2 ^ 64 by decide))
 have h3:=Int.emod_nonneg ((c%1000000007+7919*k+1)*48271) (b:=2147483647) (by decide)
 have h4:=Int.emod_lt_of_pos ((c%1000000007+7919*k+1)*48271) (b:=2147483647) (by decide)
 have cm2:zca ((c%1000000007+7919*k+1)*48271%2147483647) ((c%1000000007+7919*k+1)*48271%2147483647):=.inr (.inr (show _<2 ^ 64 by omega))
 walk_at "g"
 exact fin_same (q _ (Int.emod_nonneg _ (by decide)) (Int.emod_lt_of_pos _ (by decide)))
def zQ:DSp:=fun ds S Q=>∃ (c k:Int),ds=[.int c,.int k]/\0<=k/\k<3000/\∀ (T:Sto) (z:Str),Pln 400 z->Q (.str z) (S++T)
def zaa:DS :=
    (zP (zY (dCall zan (zm (zj 0) (zm (zj 1) zK))) (zB 2))
 (zP (zY (dB zcJ (zm (dOp zap (dOp zdH (dOp oMod (zj 0) (dOp zdH (dOp zbM (dC (.int 2)) (dC (.int 1000000000000000000000000000000000000000000000000000000000000))) (dC (.int 1)))) (dC (.int 1000000000000000000000000000000000000000000000000000000000000))) (dC (.int 1))) zK)) (zB 3))
 (zP (sJ (sIf (dT (dOp oEq (dOp oMod (zj 2) (dC (.int 3))) (dC (.int 0)))) (zY (dB zcJ (zm (dOp zdH (dOp oMod (dOp oDiv (zj 2) (dC (.int 3))) (dC (.int 25))) (dC (.int 12))) zK)) (zB 3)) zai))
 (zP (zY (dOp oMod (dOp oDiv (zj 2) (dC (.int 75))) (dC (.int 6))) (zB 4))
 (zP (zY (dOp oMod (dOp oDiv (zj 2) (dC (.int 450))) (dOp zap (dB za6 (zm (zj 3) zK)) (dC (.int 1)))) (zB 5))
 (zP (sJ (sIf (dT (dOp oEq (zj 4) (dC (.int 1)))) (zY (dOp zap (dOp zap (dSl za0 (zj 3) none (some (zj 5))) (dOp oIx (za5 (zm (dC (.str "0")) (zm (dC (.str "-")) (zm (dC (.str "_")) (zm (dC (.str " ")) (zm (dC (.str "+")) (zm (dC (.str ".")) (zm (dC (.str "9")) (zm (dC (.str ":")) zK))))))))) (dOp oMod (dOp oDiv (zj 2) (dC (.int 30000))) (dC (.int 8))))) (dSl za0 (zj 3) (some (zj 5)) none)) (zB 3)) zai))
 (zP (sJ (sIf (dT (dOp oEq (zj 4) (dC (.int 2)))) (zY (dOp zap (dSl za0 (zj 3) none (some (zj 5))) (dSl za0 (zj 3) (some (dOp zap (zj 5) (dC (.int 1)))) none)) (zB 3)) zai))
 (zP (sJ (sIf (dT (dOp oEq (zj 4) (dC (.int 3)))) (zY (dOp zap (dSl za0 (dC (.str "-")) none (some (dOp oMod (dOp oDiv (zj 2) (dC (.int 30000))) (dC (.int 2))))) (dOp zbM (dB zcJ (zm (dOp zap (dC (.int 1)) (dOp oMod (dOp oDiv (zj 2) (dC (.int 60000))) (dC (.int 9)))) zK)) (dOp zap (dC (.int 59)) (dOp oMod (dOp oDiv (zj 2) (dC (.int 540000))) (dC (.int 4)))))) (zB 3)) zai))
 (zaG (zj 3))))))))))
theorem zbF:∀ ds So Q,zQ ds So Q->ds.length=2:=by rintro ds So Q ⟨_,_,rfl,_⟩;rfl
theorem zbP:BodyOk 6 zaa zQ:=by
  rintro ds S Q ⟨c,k,rfl,h0,hk,q⟩
  unfold zaa
  walk_at "g"
  refine⟨c,k,rfl,h0,hk,fun m m0 m1=>?_⟩
  have cm:zca 2 1000000000000000000000000000000000000000000000000000000000000:=.inr (.inl (by decide))
  walk_at "g"
  have r0:=Int.emod_nonneg c (b:=2*1000000000000000000000000000000000000000000000000000000000000-1) (by decide)
  have r1:=Int.emod_lt_of_pos c (b:=2*1000000000000000000000000000000000000000000000000000000000000-1) (by decide)
  have nb:(c%(2*1000000000000000000000000000000000000000000000000000000000000-1)-1000000000000000000000000000000000000000000000000000000000000+1).natAbs<10 ^ 62:=by
    have:(10:Nat) ^ 62=100000000000000000000000000000000000000000000000000000000000000:=by decide
    rw [this];omega
  refine zdg (Bd.ten nb) ?_
  have p0:Pln 64 (zaB (c%(2*1000000000000000000000000000000000000000000000000000000000000-1)-1000000000000000000000000000000000000000000000000000000000000+1)):=zep nb
  unfold zaB at p0
  generalize Str.ofString (toString (c%(2*1000000000000000000000000000000000000000000000000000000000000-1)-1000000000000000000000000000000000000000000000000000000000000+1))=z0 at p0
  clear nb r0 r1 cm
  walk_at "g"
  walk_at "drho"
  refine r_J (fun ρ S'=>S'=S/\∃ z,Pln 64 z/\ρ=[some (.int c),some (.int k),some (.int m),some (.str z),none,none]) ?_ ?_
  · walk_at "g"
    refine r_d (fun e=>?_) (fun e=>?_)
    · have nb2:(m/3%25-12).natAbs<10 ^ 62:=Nat.lt_of_lt_of_le (show _<100 by omega) (by decide)
      walk_at "g"
      refine zdg (Bd.ten nb2) ?_
      walk_at "g"
      exact⟨rfl,_,zep nb2,rfl⟩
    · walk_at "g"
      exact⟨rfl,_,p0,rfl⟩
  clear p0 z0
  rintro ρ S' ⟨rfl,z,pz,rfl⟩
  have zl:=pz.1
  walk_at "g"
  refine zbp (by unfold big;omega) ?_
  walk_at "g"
  generalize m/450%((z.length:Nat)+1:Int)=at'
  generalize m/75%6=way
  refine r_J (fun ρ S2=>∃ (T:Sto) (z:Str),S2=S'++T/\Pln 130 z/\ρ=[some (.int c),some (.int k),some (.int m),some (.str z),some (.int way),some (.int at')]) ?_ ?_
  · walk_at "g"
    refine r_d (fun e=>?_) (fun e=>?_)
    · walk_at "g"
      refine zaZ (by unfold big;omega) ?_
      obtain⟨u,pu,au⟩:∃ u:Str,Pln 1 u/\atD [.str "0",.str "-",.str "_",.str " ",.str "+",.str ".",.str "9",.str ":"] (m/30000%8)=some (.str u):=by
        have:m/30000%8=0\/m/30000%8=1\/m/30000%8=2\/m/30000%8=3\/m/30000%8=4\/m/30000%8=5\/m/30000%8=6\/m/30000%8=7:=by omega
        rcases this with e | e | e | e | e | e | e | e<;>rw [e]
        · exact⟨"0",⟨by decide +kernel,by decide +kernel⟩,rfl⟩
        · exact⟨"-",⟨by decide +kernel,by decide +kernel⟩,rfl⟩
        · exact⟨"_",⟨by decide +kernel,by decide +kernel⟩,rfl⟩
        · exact⟨" ",⟨by decide +kernel,by decide +kernel⟩,rfl⟩
        · exact⟨"+",⟨by decide +kernel,by decide +kernel⟩,rfl⟩
        · exact⟨".",⟨by decide +kernel,by decide +kernel⟩,rfl⟩
        · exact⟨"9",⟨by decide +kernel,by decide +kernel⟩,rfl⟩
        · exact⟨":",⟨by decide +kernel,by decide +kernel⟩,rfl⟩
      walk_at "g"
      have c1:=pz.cut none (some at')
      have c2:=pz.cut (some at') none
      have a1:=c1.app pu
      have a2:=a1.app c2
      refine zcq (by have:=c1.1;have:=pu.1;unfold big;omega) ?_
      walk_at "g"
      refine zaZ (by unfold big;omega) ?_
      refine zcq (by have:=a1.1;have:=c2.1;unfold big;omega) ?_
      walk_at "g"
      exact⟨_,_,rfl,a2.mono (by decide),rfl⟩
    · walk_at "g"
      exact⟨[],z,by simp,pz.mono (by decide),rfl⟩
  clear pz zl z
  rintro ρ S2 ⟨T,z,rfl,pz,rfl⟩
  have zl:=pz.1
  walk_at "g"
  refine r_J (fun ρ S2=>∃ (T:Sto) (z:Str),S2=S'++T/\Pln 260 z/\ρ=[some (.int c),some (.int k),some (.int m),some (.str z),some (.int way),some (.int at')]) ?_ ?_
  · walk_at "g"
    refine r_d (fun e=>?_) (fun e=>?_)
    · walk_at "g"
      refine zaZ (by unfold big;omega) ?_
      walk_at "g"
      refine zaZ (by unfold big;omega) ?_
      have c1:=pz.cut none (some at')
      have c2:=pz.cut (some (at'+1)) none
      have a1:=c1.app c2
      refine zcq (by have:=c1.1;have:=c2.1;unfold big;omega) ?_
      walk_at "g"
      exact⟨_,_,rfl,a1,rfl⟩
    · walk_at "g"
      exact⟨T,z,rfl,pz.mono (by decide),rfl⟩
  clear pz zl z T
  rintro ρ S2 ⟨T,z,rfl,pz,rfl⟩
  walk_at "g"
  refine r_J (fun ρ S2=>∃ (T:Sto) (z:Str),S2=S'++T/\Pln 260 z/\ρ=[some (.int c),some (.int k),some (.int m),some (.str z),some (.int way),some (.int at')]) ?_ ?_
  · walk_at "g"
    refine r_d (fun e=>?_) (fun e=>?_)
    · walk_at "g"
      refine zaZ (by decide +kernel) ?_
      have pm:Pln 1 "-":=⟨by decide +kernel,by decide +kernel⟩
      have c1:=pm.cut none (some (m/30000%2))
      have n1:0<=m/60000%9/\m/60000%9<9:=by omega
      walk_at "g"
      have nb3:(1+m/60000%9).natAbs<10 ^ 62:=Nat.lt_of_lt_of_le (show _<100 by omega) (by decide)
      refine zdg (Bd.ten nb3) ?_
      obtain⟨d,hd1,hd2,ed⟩:∃ d:Nat,d<128/\48<=d/\Str.ofString (toString (1+m/60000%9))=⟨#[d]⟩:=by
        obtain⟨j,hj⟩:∃ j:Nat,1+m/60000%9=(j:Int):=⟨(1+m/60000%9).toNat,by omega⟩
        refine⟨j+48,by omega,by omega,zbo ?_⟩
        rw [hj]
        have:=zco j
        unfold zaB at this
        rw [this,Nat.toDigits_of_lt_base (by omega)]
        show [(Nat.digitChar j).toNat]=[j+48]
        rw [zbe j (by omega)]
      rw [ed]
      have n2:0<=m/540000%4/\m/540000%4<4:=by omega
      walk_at "g"
      refine zhO (by show 1<=1000;decide) (by omega) (by omega) ?_
      have pm2:Pln 100 (zcP ⟨#[d]⟩ (59+m/540000%4)):=Pln.mul1 hd1 (by omega) (by omega)
      have a1:=c1.app pm2
      refine zcq (by have:=c1.1;have:=pm2.1;unfold big;omega) ?_
      walk_at "g"
      exact⟨_,_,rfl,a1.mono (by decide),rfl⟩
    · walk_at "g"
      exact⟨T,z,rfl,pz,rfl⟩
  clear pz z T
  rintro ρ S2 ⟨T,z,rfl,pz,rfl⟩
  walk_at "g"
  exact fin_same (q _ _ (pz.mono (by decide)))
theorem zgz:("0123456789":Str).cps.toList=List.range' 48 10:=by decide +kernel
theorem zbv {c:Nat}:c∈("0123456789":Str).cps.toList↔48<=c/\c<=57:=by rw [zgz,List.mem_range'_1];omega
theorem zdo {cs:List Nat}:((cs.map fun c=>decide (c∈("0123456789":Str).cps.toList)).all id=true)↔zbw cs:=by
 rw [List.all_map,List.all_eq_true]
 unfold zbw
 constructor
 ·intro h c hc;exact zbv.mp (of_decide_eq_true (h c hc))
 ·intro h c hc;exact decide_eq_true (zbv.mpr (h c hc))
def zaS (z:Str):Str:=⟨(zU z).toArray⟩
theorem zdW {z:Str}(h:z.cps.toList[0]?=some 45):zby z (some 1) none=zaS z:=by
 have hl:=zet h
 unfold zby zaS zU
 rw [if_pos h,zge _ (by decide) (by omega)];rfl
theorem zbK {z:Str}(h:¬ z.cps.toList[0]?=some 45):z=zaS z:=by
 refine zbo ?_
 unfold zaS zU
 rw [if_neg h]
theorem zT (z:Str):(zaS z).length=(zU z).length:=by
 show (zU z).toArray.size=_
 simp
theorem zd6 (z:Str):(zU z).length<=z.length:=by
 have zl:z.length=z.cps.toList.length:=Array.length_toList.symm
 unfold zU
 split
 ·rw [List.length_drop];omega
 ·omega
theorem zcT {z:Str}{c:Nat}(h:z.cps.toList[0]?=some c):atS z 0=some c:=by
 have hl:=zet h
 unfold atS ixD
 rw [if_pos (by decide),if_pos (by omega)];exact h
theorem sign_eq {a b:Nat}:((⟨#[a]⟩:Str)==⟨#[b]⟩)=decide (a=b):=by
 by_cases h:a=b
 ·subst h;rw [decide_eq_true rfl];exact beq_self_eq_true _
 ·rw [decide_eq_false h]
  refine beq_eq_false_iff_ne.mpr fun e=>h ?_
  have:=congrArg (fun s:Str=>s.cps.toList) e
  simpa using this
theorem zb6 {a:Nat}(h:a<128):fl 20 (.str ⟨#[a]⟩)=true:=Pln.fl (k:=1) ⟨Nat.le_refl _,fun c hc=>by
 have:c=a:=by simpa using hc
 omega⟩ 20
theorem zdM:("-":Str)=⟨#[45]⟩:=by decide +kernel
theorem zbQ:("0":Str)=⟨#[48]⟩:=by decide +kernel
theorem zeY {S:Sto}{Q:DK}{a b:Nat}(ha:a<128)(hb:b<128)(q:Q (.bl (decide (a=b))) S):oEq (.str ⟨#[a]⟩) (.str ⟨#[b]⟩) S Q:=zeu (zb6 ha) (zb6 hb) sign_eq q
theorem zhK {S:Sto}{Q:DK}{a b:Nat}(ha:a<128)(hb:b<128)(q:Q (.bl (!decide (a=b))) S):oNe (.str ⟨#[a]⟩) (.str ⟨#[b]⟩) S Q:=zeB (zb6 ha) (zb6 hb) sign_eq q
theorem zbc {z:Str}:z="0"↔z.cps.toList=[48]:=by
 constructor
 ·intro h;rw [h];decide +kernel
 ·intro h;exact zbo (h.trans (by decide +kernel))
def zaj:zcl:=fun ds S Q ex=>∃ z:Str,ds=[.str z]/\Pln 400 z/\(¬ WrT z->∀ T,ex "BadNumber" (S++T))/\(WrT z->∀ T n,zaB n=z->Bd 1900 n->Q (.int n) (S++T))
def zaK (ex : XR) : DS :=
    (zP (sJ (zY (zfK (dT (zcU (zj 0) (dC (.str "-")))) (dSl za0 (zj 0) (some (dC (.int 1))) none) (zj 0)) (zB 1)))
 (zP (sIf (dOr (dT (dOp oLt (dB za6 (zm (zj 1) zK)) (dC (.int 1)))) (dT (dOp oGt (dB za6 (zm (zj 1) zK)) (dC (.int 60))))) (zbN ex "BadNumber") zai)
 (zP (sIf (zdr (dT (dB zfX (zm (dLC 1 [] (zdm (zj 1)) (zB 0) zdl (dOp oIn (zj 0) (dC (.str "0123456789")))) zK)))) (zbN ex "BadNumber") zai)
 (zP (sIf (zeJ (dT (dOp oEq (dOp oIx (zj 1) (dC (.int 0))) (dC (.str "0")))) (dT (dOp oNe (zj 0) (dC (.str "0"))))) (zbN ex "BadNumber") zai)
 (zaG (dB zdk (zm (zj 0) zK)))))))
theorem zda:∀ ds So Q ex,zaj ds So Q ex->ds.length=1:=by rintro ds So Q ex ⟨_,rfl,_⟩;rfl
theorem zdn:zeo 2 zaK zaj:=by
 rintro ds S Q ex ⟨z,rfl,pz,hbad,q⟩
 unfold zaK
 have zl:=pz.1
 have fl':=zd6 z
 have bad0:¬ WrT z->ex "BadNumber" S:=fun n=>by simpa using hbad n []
 walk_at "g"
 walk_at "drho"
 refine r_J (fun ρ S'=>S'=S/\ρ=[some (.str z),some (.str (zaS z))]) ?_ ?_
 ·rw [zdM]
  walk_at "g"
  refine⟨⟨z,rfl⟩,?_⟩
  walk_at "g"
  refine⟨z,45,rfl,rfl,?_⟩
  walk_at "g"
  refine r_d (fun e=>?_) (fun e=>?_)
  ·walk_at "g"
   refine zaZ (by unfold big;omega) ?_
   rw [zdW e]
   walk_at "g"
   exact⟨rfl,rfl⟩
  ·walk_at "g"
   exact⟨rfl,by rw [<- zbK e];rfl⟩
 rintro ρ S' ⟨rfl,rfl⟩
 walk_at "g"
 refine zbp (by rw [zT];unfold big;omega) ?_
 walk_at "g"
 rw [zT]
 refine r_d (fun e=>?_) (fun e=>?_)
 ·walk_at "g"
  exact bad0 fun w=>by have:=w.1;omega
 walk_at "g"
 refine zbp (by rw [zT];unfold big;omega) ?_
 walk_at "g"
 rw [zT]
 refine r_d (fun e2=>?_) (fun e2=>?_)
 ·walk_at "g"
  exact bad0 fun w=>by have:=w.2.1;omega
 walk_at "g"
 refine zhk (fun _=>true) (onC fun c=>decide (c∈("0123456789":Str).cps.toList)) True.intro (by rw [zcZ,zT];unfold big;omega) (fun i d ys hd hw=>?_) ?_
 ·obtain⟨c,hc,rfl⟩:=zc4 hd
  walk_at "g"
  exact zjs hd hw rfl rfl
 rw [filter_true,zfm]
 walk_at "g"
 refine zjo Lst.at0 ?_
 walk_at "g"
 rw [show (zaS z).cps.toList=zU z from rfl]
 cases hg:((zU z).map fun c=>decide (c∈("0123456789":Str).cps.toList)).all id with
 | false =>
  walk_at "g"
  refine hbad (fun w=>?_) _
  have:=zdo.mpr w.2.2.1
  rw [hg] at this;cases this
 | true =>
  have fg:=zdo.mp hg
  generalize ([Cell.lst (((zU z).map fun c=>decide (c∈("0123456789":Str).cps.toList)).map D.bl)]:Sto)=T1
  obtain⟨c0,g0⟩:∃ c0,(zU z)[0]?=some c0:=⟨_,List.getElem?_eq_getElem (by omega)⟩
  have hc0:=fg c0 (List.mem_of_getElem? g0)
  walk_at "g"
  refine zeE (c:=c0) (by rw [zT];unfold big;omega) (zcT (z:=zaS z) g0) ?_
  rw [zbQ]
  walk_at "g"
  refine zeY (a:=c0) (b:=48) (by omega) (by decide) ?_
  have good:WrT z->dB zdk (zm (zj 0) zK) [some (D.str z),some (D.str (zaS z))] (S'++T1) (Fin S' Q):=fun w=>by
   obtain⟨n61,n,hn,en,bn⟩:=zgY w
   walk_at "g"
   exact ziH (by omega) hn (fin_same (q w T1 n en bn))
  walk_at "g"
  refine r_d (fun e3=>?_) (fun e3=>?_)
  ·walk_at "g"
   rw [<- zbQ]
   refine ze8 (pz.fl 20) (by decide +kernel) ?_
   walk_at "g"
   refine zf8 (fun e4=>?_) (fun e4=>?_)
   ·walk_at "g"
    refine hbad (fun w=>?_) _
    rcases w.2.2.2 with h | h
    ·exact e4 (zbc.mpr h)
    ·exact h (by rw [g0,e3])
   ·have w:WrT z:=⟨by omega,by omega,fg,.inl (zbc.mp e4)⟩
    refine zdR ?_
    refine zeU ?_
    exact good w
  ·have w:WrT z:=⟨by omega,by omega,fg,.inr (by rw [g0];intro h;exact e3 (Option.some.inj h))⟩
   refine zdR ?_
   refine zeU ?_
   exact good w
def zas:DSp:=fun ds S Q=>∃ z:Str,ds=[.str z]/\Pln 400 z/\(WrT z->∀ T a b n,zaB n=z->Bd 1900 n->(S++T)[a]?=some (.lst [.int n])->Q (.tup [.ref a,.ref b]) (S++T))/\(¬ WrT z->∀ T a b,(S++T)[a]?=some (.lst [])->(S++T)[b]?=some (.lst [.bl true,.bl true,.bl false])->Q (.tup [.ref a,.ref b]) (S++T))
def zaV:DS :=
    (zP (zY (za5 zK) (zB 1))
 (zP (zY (za5 zK) (zB 2))
 (zP (zf9 3 ["BadNumber"] (fun ex=>(zY (za5 (zm (zdF zaj ex (zm (zj 0) zK)) zK)) (zB 1))) (zY (za5 (zm (zci [("BadNumber",true)] (zj 3)) (zm (zci [("BadNumber",true)] (zj 3)) (zm (zci [("BadNumber",false)] (zj 3)) zK)))) (zB 2)))
 (zaG (dTup (zm (zj 1) (zm (zj 2) zK)))))))
theorem zdK:∀ ds So Q,zas ds So Q->ds.length=1:=by rintro ds So Q ⟨_,rfl,_⟩;rfl
theorem zed:BodyOk 4 zaV zas:=by
 rintro ds S Q ⟨z,rfl,pz,q1,q2⟩
 unfold zaV
 walk_at "g"
 refine⟨z,rfl,pz,fun no T=>⟨rfl,?_⟩,fun ok T n en bn=>?_⟩
 ·walk_at "g"
  rw [List.append_assoc]
  refine fin_same (q2 no _ _ _ ze1 ?_)
  rw [<- List.append_assoc];exact zb8
 ·rw [List.append_assoc]
  walk_at "g"
  exact fin_same (q1 ok _ _ _ n en bn zb8)
def zaf:DSp:=fun ds S Q=>∃ z:Str,ds=[.str z]/\Pln 400 z/\∀ r:Bool,(r=true↔WrT z)->Q (.bl r) S
def zaC:DS :=
    (zP (zY (zj 0) (zB 1))
 (zP (sJ (sIf (zeJ (dT (dOp oGt (dB za6 (zm (zj 0) zK)) (dC (.int 0)))) (dT (dOp oEq (dOp oIx (zj 0) (dC (.int 0))) (dC (.str "-"))))) (zY (dSl za0 (zj 0) (some (dC (.int 1))) none) (zB 1)) zai))
 (zP (sIf (dOr (dT (dOp oEq (dB za6 (zm (zj 1) zK)) (dC (.int 0)))) (dT (dOp oGt (dB za6 (zm (zj 1) zK)) (dC (.int 60))))) (zaG (dC (.bl false))) zai)
 (zP (zeS (zdm (zj 1)) (zB 2) (sIf (dT (dOp zdA (zj 2) (dC (.str "0123456789")))) (zaG (dC (.bl false))) zai))
 (zaG (zfW (dOp oEq (zj 0) (dC (.str "0"))) (dOp oNe (dOp oIx (zj 1) (dC (.int 0))) (dC (.str "0")))))))))
theorem zcK:∀ ds So Q,zaf ds So Q->ds.length=1:=by rintro ds So Q ⟨_,rfl,_⟩;rfl
theorem zc9:BodyOk 3 zaC zaf:=by
 rintro ds S Q ⟨z,rfl,pz,q⟩
 unfold zaC
 have zl:=pz.1
 have zl2:z.length=z.cps.toList.length:=Array.length_toList.symm
 have fl':=zd6 z
 have bad:¬ WrT z->Q (.bl false) S:=fun n=>q false ⟨fun w=>absurd w (by decide),fun w=>absurd w n⟩
 walk_at "g"
 walk_at "drho"
 refine r_J (fun ρ S'=>S'=S/\∃ w2:Option D,ρ=[some (.str z),some (.str (zaS z)),w2]) ?_ ?_
 ·rw [zdM]
  walk_at "g"
  refine zbp (by unfold big;omega) ?_
  walk_at "g"
  refine r_d (fun e=>?_) (fun e=>?_)
  ·obtain⟨c0,g0⟩:∃ c0,z.cps.toList[0]?=some c0:=⟨_,List.getElem?_eq_getElem (by omega)⟩
   walk_at "g"
   refine zeE (c:=c0) (by unfold big;omega) (zcT g0) ?_
   walk_at "g"
   refine zeY (b:=45) (pz.2 c0 (List.mem_of_getElem? g0)) (by decide) ?_
   walk_at "g"
   refine r_d (fun e1=>?_) (fun e1=>?_)
   ·walk_at "g"
    refine zaZ (by unfold big;omega) ?_
    rw [zdW (by rw [g0,e1])]
    walk_at "g"
    exact⟨rfl,_,rfl⟩
   ·walk_at "g"
    exact⟨rfl,_,by rw [<- zbK (by rw [g0];intro h;exact e1 (Option.some.inj h))]⟩
  ·walk_at "g"
   exact⟨rfl,_,by rw [<- zbK (by rw [List.getElem?_eq_none (by omega)];intro h;cases h)]⟩
 rintro ρ S' ⟨rfl,w2,rfl⟩
 walk_at "g"
 refine zbp (by rw [zT];unfold big;omega) ?_
 walk_at "g"
 rw [zT]
 refine r_d (fun e=>?_) (fun e=>?_)
 ·walk_at "g"
  exact fin_same (bad fun w=>by have:=w.1;omega)
 walk_at "g"
 refine zbp (by rw [zT];unfold big;omega) ?_
 walk_at "g"
 rw [zT]
 refine r_d (fun e2=>?_) (fun e2=>?_)
 ·walk_at "g"
  exact fin_same (bad fun w=>by have:=w.2.1;omega)
 walk_at "g"
 refine ze3 (fun i ρ S2=>S2=S'/\∃ w2:Option D,ρ=[some (.str z),some (.str (zaS z)),w2]/\zbw ((zU z).take i)) ⟨rfl,_,rfl,by intro c hc;simp at hc⟩ (fun _ _ _ _=>True.intro) ?_ ?_
 ·rintro i d ρ S2 hd ⟨rfl,w2,rfl,fg⟩
  obtain⟨c,hc,rfl⟩:=zc4 hd
  walk_at "g"
  refine zf8 (fun e3=>?_) (fun e3=>?_)
  ·walk_at "g"
   exact fin_same (bad fun w=>e3 (zbv.mpr (w.2.2.1 c (List.mem_of_getElem? hc))))
  ·walk_at "g"
   refine⟨rfl,_,rfl,fun x hx=>?_⟩
   rw [zct (show (zU z)[i]?=some c from hc)] at hx
   rcases List.mem_append.mp hx with hx | hx
   ·exact fg x hx
   ·rw [List.mem_singleton.mp hx];exact zbv.mp e3
 ·rintro ρ S2 ⟨rfl,w2,rfl,fg⟩
  rw [zcZ,zT,List.take_length] at fg
  obtain⟨c0,g0⟩:∃ c0,(zU z)[0]?=some c0:=⟨_,List.getElem?_eq_getElem (by omega)⟩
  have hc0:=fg c0 (List.mem_of_getElem? g0)
  walk_at "g"
  refine zic (pz.fl 20) (by decide +kernel) ?_
  by_cases h0:z="0"
  ·rw [decide_eq_true h0]
   walk_at "g"
   exact fin_same (q true ⟨fun _=>⟨by omega,by omega,fg,.inl (zbc.mp h0)⟩,fun _=>rfl⟩)
  ·rw [decide_eq_false h0]
   walk_at "g"
   refine zeE (c:=c0) (by rw [zT];unfold big;omega) (zcT (z:=zaS z) g0) ?_
   rw [zbQ]
   walk_at "g"
   refine zhK (a:=c0) (b:=48) (by omega) (by decide) ?_
   refine fin_same (q _ ?_)
   rw [Bool.not_eq_true',decide_eq_false_iff_not]
   constructor
   ·intro h
    exact⟨by omega,by omega,fg,.inr (by rw [g0];intro w;exact h (Option.some.inj w))⟩
   ·intro w h
    rcases w.2.2.2 with w | w
    ·exact h0 (zbc.mpr w)
    ·exact w (by rw [g0,h])
def zcD:List Str:=["-0","00","-","","0","-1","1_0","+1"," 1"]
theorem zfQ:∀ z∈zcD,Pln 400 z:=fun z hz=>by
  have h:z="-0"\/z="00"\/z="-"\/z=""\/z="0"\/z="-1"\/z="1_0"\/z="+1"\/z=" 1":=by simpa [zcD] using hz
  rcases h with rfl | rfl | rfl | rfl | rfl | rfl | rfl | rfl | rfl<;>exact⟨by decide +kernel,by decide +kernel⟩
def zdi:DS :=
    (zP (zY (dOp zap (dB zeM (zm (dSl za0 (zj 0) none (some (dC (.int 60)))) zK)) (za5 (zm (dC (.int 0)) zK))) (zB 1))
 (zP (zY (dLC 1 [1] (zcG (zm (dB za6 (zm (zj 1) zK)) zK)) (zB 0) zdl (dCall zQ (zm (dOp oIx (zj 1) (zj 0)) (zm (zj 0) zK)))) (zB 2))
 (zP (zeS (zdm (dOp zap (zj 2) (za5 (zm (dC (.str "-0")) (zm (dC (.str "00")) (zm (dC (.str "-")) (zm (dC (.str "")) (zm (dC (.str "0")) (zm (dC (.str "-1")) (zm (dC (.str "1_0")) (zm (dC (.str "+1")) (zm (dC (.str " 1")) zK)))))))))))) (zB 3) (zP (zY (dCall zas (zm (zj 3) zK)) (zds 2 (zb3 (zB 4) (zb3 (zB 5) zdp))))
 (sIf (zdr (dT (dCall zaf (zm (zj 3) zK)))) (sIf (dOr (dT (dOp oNe (zj 4) (za5 zK))) (dT (dOp oNe (zj 5) (za5 (zm (dC (.bl true)) (zm (dC (.bl true)) (zm (dC (.bl false)) zK))))))) (zaG (dC (.bl false))) zai) (sIf (dOr (dT (dOp oNe (dB za6 (zm (zj 4) zK)) (dC (.int 1)))) (dOr (dT (dB zdD (zm (dOp oIx (zj 4) (dC (.int 0))) (zm (dC (.ty "bool")) zK)))) (zdr (dT (dB zdD (zm (dOp oIx (zj 4) (dC (.int 0))) (zm (dC (.ty "int")) zK))))))) (zaG (dC (.bl false))) (sIf (dT (dOp oNe (dB zcJ (zm (dOp oIx (zj 4) (dC (.int 0))) zK)) (zj 3))) (zaG (dC (.bl false))) zai)))))
 (zaG (dC (.bl true))))))
theorem zig:BodyOk 6 zdi za3:=by
  rintro ds S Q ⟨ns,rfl,⟨_,hg⟩,hl,q⟩
  unfold zdi
  walk_at "g"
  rw [zhj]
  have cl:(cutD ns none (some 60)).length<=63:=Nat.le_trans (zg8 _ _ _) (by unfold slD;dsimp only;split<;>omega)
  generalize cutD ns none (some 60)=cn at cl
  refine zfy (xs:=cn.map D.int) (ys:=[.int 0]) (Lst.at (k:=1) rfl) (Lst.at (k:=2) rfl) (by rw [List.length_map];show cn.length+1<=big;unfold big;omega) ?_
  rw [show cn.map D.int++[D.int 0]=(cn++[0]).map D.int by rw [List.map_append];rfl]
  have cl2:(cn++[0]).length<=64:=by simp;omega
  generalize cn++[0]=ce at cl2
  walk_at "g"
  rw [List.length_map]
  refine⟨_,rfl,by omega,by omega,?_⟩
  obtain⟨S1,hS1⟩:∃ S1:Sto,S1=S++[Cell.lst (cn.map D.int),.lst (cn.map D.int),.lst [.int 0],.lst (ce.map D.int)]:=⟨_,rfl⟩
  have kc:Lst S1 (.ref (S.length+3)) (ce.map D.int):=hS1▸Lst.at (k:=3) rfl
  rw [<- hS1]
  clear hS1
  refine zjC (fun i ys S'=>∃ (G:Sto) (zs:List Str),S'=S1++G/\ys=zs.map D.str/\zs.length=i/\∀ z∈zs,Pln 400 z) ⟨[],[],by simp,rfl,rfl,by simp⟩ (fun _ _ _ _=>True.intro) (by rw [zcc];unfold big;omega) ?_ ?_
  · rintro i d ys S' hd ⟨G,zs,rfl,rfl,hz,pz⟩
    obtain⟨hi,rfl⟩:=zg0 hd
    have kc1:Lst (S1++G) (.ref (S.length+3)) (ce.map D.int):=kc.old
    obtain⟨v,_,av⟩:=zhX (zs:=ce) (k:=0+(i:Int)) (by omega) (by omega)
    walk_at "g"
    refine⟨v,_,rfl,by omega,by omega,fun T z hz'=>?_⟩
    refine⟨G++T,zs++[z],by rw [List.append_assoc],by rw [List.map_append];rfl,by simp [hz],fun x hx=>?_⟩
    rcases List.mem_append.mp hx with hx | hx
    · exact pz x hx
    · rw [List.mem_singleton.mp hx];exact hz'
  rintro ys S' ⟨G,zs,rfl,rfl,hz,pz⟩
  rw [zcc] at hz
  refine zb4 ?_
  walk_at "g"
  refine zfy (xs:=zs.map D.str) (ys:=zcD.map D.str) (by rw [<- List.append_assoc];exact Lst.old Lst.new) Lst.new (by rw [List.length_map];show zs.length+9<=big;unfold big;omega) ?_
  rw [<- List.map_append]
  have pa:∀ z∈zs++zcD,Pln 400 z:=fun z hz'=>by
    rcases List.mem_append.mp hz' with h | h
    · exact pz z h
    · exact zfQ z h
  generalize zs++zcD=ts at pa
  refine zb4 ?_
  walk_at "g"
  walk_at "drho"
  obtain⟨G2,hG2⟩:∃ G2:Sto,G2=G++[Cell.lst (zs.map D.str)]++[Cell.lst [D.str "-0",D.str "00",D.str "-",D.str "",D.str "0",D.str "-1",D.str "1_0",D.str "+1",D.str " 1"]]:=⟨_,rfl⟩
  rw [<- hG2]
  clear hG2
  have kt:∀ T,Lst (S1++(G2++[Cell.lst (ts.map D.str)])++T) (.ref (S1.length+G2.length)) (ts.map D.str):=fun T=>Lst.old Lst.new
  refine ze3 (fun i ρ S'=>∃ (T:Sto) (w3 w4 w5:Option D),S'=S1++(G2++[Cell.lst (ts.map D.str)])++T/\ρ=[some (.rl (ns.map D.int)),some (.ref (S.length+3)),some (.ref (S1.length+G.length)),w3,w4,w5]) ⟨[],none,none,none,by simp,rfl⟩ (fun i ρ S' ⟨T,_,_,_,e,_⟩=>e▸kt T) ?_ ?_
  · rintro i d ρ S' hd ⟨T,w3,w4,w5,rfl,rfl⟩
    obtain⟨z,hz',rfl⟩:=zhb hd
    have pz':=pa z (List.mem_of_getElem? hz')
    generalize S1++(G2++[Cell.lst (ts.map D.str)])=S3
    walk_at "g"
    refine⟨z,rfl,pz',fun ok T2 a b n en bn ha=>?_,fun no T2 a b ha hb=>?_⟩
    · walk_at "g"
      refine⟨z,rfl,pz',fun r hr=>?_⟩
      have er:r=true:=hr.mpr ok
      subst er
      have ka:Lst (S3++T++T2) (.ref a) [.int n]:=Lst.here ha
      have a0:atD [D.int n] 0=some (.int n):=rfl
      walk_at "g"
      refine zf8 (fun e=>absurd rfl e) (fun _=>?_)
      walk_at "g"
      refine zdg bn ?_
      walk_at "g"
      rw [show Str.ofString (toString n)=z from en]
      refine ze8 (pz'.fl 20) (pz'.fl 20) ?_
      rw [decide_eq_true rfl]
      walk_at "g"
      exact⟨T++T2,_,_,_,by rw [List.append_assoc],rfl⟩
    · walk_at "g"
      refine⟨z,rfl,pz',fun r hr=>?_⟩
      have er:r=false:=by
        cases r with
        | false=>rfl
        | true=>exact absurd (hr.mp rfl) no
      subst er
      walk_at "g"
      have ha2:∀ X,Lst (S3++T++(T2++X)) (.ref a) []:=fun X=>by rw [<- List.append_assoc];exact Lst.old (Lst.here ha)
      have hb2:∀ X,Lst (S3++T++(T2++X)) (.ref b) [.bl true,.bl true,.bl false]:=fun X=>by rw [<- List.append_assoc];exact Lst.old (Lst.here hb)
      refine zd9 (xs:=[]) (ha2 _) Lst.new rfl ?_
      walk_at "g"
      refine zd9 (xs:=[.bl true,.bl true,.bl false]) (by rw [List.append_assoc T2];exact hb2 _) Lst.new rfl ?_
      walk_at "g"
      exact⟨T++(T2++[Cell.lst [],Cell.lst [D.bl true,D.bl true,D.bl false]]),_,_,_,by simp,rfl⟩
  · rintro ρ S' ⟨T,w3,w4,w5,rfl,rfl⟩
    walk_at "g"
    exact fin_same (q _)
end Dp
namespace Law
open PySem PySem.Spec PyProof.Rows L2 My Dp
def top (i:Nat):Stmt:=PySem.Challenge.pw_beaconvale_k84_numbers_read.main.body.getD i (.Pass ⟨0,0,0,0⟩)
abbrev zbj:Stmt:=top 9
abbrev zaq:Stmt:=top 11
abbrev zbi:Stmt:=top 7
abbrev zbD:Stmt:=top 12
abbrev za8:Stmt:=top 10
abbrev zaW:Stmt:=top 13
section
variable {P:Program}{w:World}{K:W.Frag}{mg:Str->Option Value}{base:Heap}{f:Addr}{fd:FuncData}
theorem zbT:z6 ["cell","k","stir"] ["cell","k"] (zx zbj):=zbq
theorem zdE (F:Fun K "_law_mixed" "_law_mixed" zbj f fd):zZ P w K mg base CX0 1 f fd ["cell","k"] (upF K Dp.zan):=by
  refine zbl (b:=Dp.zaL) F zbT Dp.zdc Dp.zdG (fun cdv A outer s H E hr=>?_)
  unfold Dp.zaL
  exact (zu (zL (i:=2) zbT.nd (zae (zbJ (zad (zad (zae (zq 0) zp) (zbJ zp (zq 1))) zp) zp) zp))
 (zA (zac (zae (zbJ (zq 2) (zq 2)) zp))))
variable (xar:Got P w K mg base 1 "_law_mixed" ["cell","k"] (upF K Dp.zan))
variable (xav:mg "str"=none)
variable (xu:mg "len"=none)
theorem zF:z6 ["cell","k","m","text","way","at"] ["cell","k"] (zx zaq):=zbq
include xar xav xu in
theorem zbR (F:Fun K "_law_number_text" "_law_number_text" zaq f fd):zZ P w K mg base CX0 2 f fd ["cell","k"] (upF K Dp.zQ):=by
  refine zbl (b:=Dp.zaa) F zF Dp.zbF Dp.zbP (fun cdv A outer s H E hr=>?_)
  unfold Dp.zaa
  exact (zu (zL (i:=2) zF.nd (zb2 xar hr (zc (zq 0) (zc (zq 1) zy))))
 (zu (zL (i:=3) zF.nd (zb1 zcv xav boot_str (zc (zad (zd0 (zae (zq 0) (zd0 (zbJ zp (zef 1000000000000000000000000000000000000000000000000000000000000 (by decide +kernel) ⟨by decide,by decide,by decide⟩)) zp)) (zef 1000000000000000000000000000000000000000000000000000000000000 (by decide +kernel) ⟨by decide,by decide,by decide⟩)) zp) zy)))
 (zu (zbZ (z7 (zM (zbb hr) (zae (zq 2) zp) zp) (zA (zL (i:=3) zF.nd (zb1 zcv xav boot_str (zc (zd0 (zae (za7 (zq 2) zp) zp) zp) zy)))) zR))
 (zu (zL (i:=4) zF.nd (zae (za7 (zq 2) zp) zp))
 (zu (zL (i:=5) zF.nd (zae (za7 (zq 2) zp) (zad (za4 zaN xu boot_len (zc (zq 3) zy)) zp)))
 (zu (zbZ (z7 (zM (zbb hr) (zq 4) zp) (zA (zL (i:=3) zF.nd (zad (zad (zbf (zq 3) zay (zaz (zq 5))) (zbd (zaA (zc zG (zc zG (zc zG (zc zG (zc zG (zc zG (zc zG (zc zG zy))))))))) (zae (za7 (zq 2) zp) zp))) (zbf (zq 3) (zaz (zq 5)) zay)))) zR))
 (zu (zbZ (z7 (zM (zbb hr) (zq 4) zp) (zA (zL (i:=3) zF.nd (zad (zbf (zq 3) zay (zaz (zq 5))) (zbf (zq 3) (zaz (zad (zq 5) zp)) zay)))) zR))
 (zu (zbZ (z7 (zM (zbb hr) (zq 4) zp) (zA (zL (i:=3) zF.nd (zad (zbf zG zay (zaz (zae (za7 (zq 2) zp) zp))) (zbJ (zb1 zcv xav boot_str (zc (zad zp (zae (za7 (zq 2) zp) zp)) zy)) (zad zp (zae (za7 (zq 2) zp) zp)))))) zR))
 (zA (zac (zq 3)))))))))))
variable (xab:Got P w K mg base 2 "_law_number_text" ["cell","k"] (upF K Dp.zQ))
variable (xai:∃ t,mg "MOST_FIGURES"=some (.int 60 t))
variable (xa0:∃ t,mg "FIGURES"=some (.str "0123456789" t))
variable (xbg:mg "all"=none)
variable (xa4:mg "int"=none)
variable (xae:∀ C,W.nsIn K mainGlobals "BadNumber"=some (some (.ref C))->ExC K C)
variable (xag:∃ C,W.nsIn K mainGlobals "BadNumber"=some (some (.ref C))/\mg "BadNumber"=some (.ref C))
theorem zbG:z6 ["text","figures"] ["text"] (zx zbi):=zbq
include xu xai xa0 xbg xa4 xae xag in
theorem zdI (F:Fun K "number_of" "number_of" zbi f fd):zZ P w K mg base (CXd P w) 1 f fd ["text"] (zdy K Dp.zaj):=by
  refine zfH (b:=Dp.zaK) F zbG Dp.zda Dp.zdn (fun cdv A outer s H E hr _ ex hX hM=>?_)
  unfold Dp.zaK
  exact (zu (zbZ (zL (i:=1) zbG.nd (zik (zbm (ze5 (zq 0) zG)) (zbf (zq 0) (zaz zp) zay) (zq 0))))
 (zu (z7 (zbr (zbU (zM ziP (za4 zaN xu boot_len (zc (zq 1) zy)) zp) (zb9 (zM zeH (za4 zaN xu boot_len (zc (zq 1) zy)) (zgV rfl xai))))) (zA (zbW hM rfl xae xag rfl (zc zG zy) (fun _ _ _ h=>h _))) zR)
 (zu (z7 (zcV (zbm (za4 ziG xbg boot_all (zc (zgI (zjH (own:=["sign"]) (free:=[]) (fv:=[]) True.intro True.intro (zd8 (zq 1)) ⟨(zbI 0 (by decide)),fun _ _ _ _ _=>(zcW (i:=0) (show List.Nodup (["sign"]:List Str) by decide +kernel) rfl (Or.inl rfl) (Or.inr rfl))⟩ (fun _ _ _ _ _=>zeq) (fun _ _ _ _ _=>(zgG (zjn hr) (zq 0) (zgU rfl xa0))))) zy)))) (zA (zbW hM rfl xae xag rfl (zc zG zy) (fun _ _ _ h=>h _))) zR)
 (zu (z7 (zbr (zel (zM (zbb hr) (zbd (zq 1) zp) zG) (zdU (zM (zb5 hr) (zq 0) zG)))) (zA (zbW hM rfl xae xag rfl (zc zG zy) (fun _ _ _ h=>h _))) zR)
 (zA (zac (zb1 zhl xa4 boot_int (zc (zq 0) zy))))))))
variable (xat:zf2 P w K mg base 1 "number_of" ["text"] (zdy K Dp.zaj))
variable (xg:mg "isinstance"=none)
variable (xan:∃ Cc,mg "ValeError"=some (.ref Cc)/\∀ c C,(["BadNumber"]:List Str).contains c=true->W.nsIn K mainGlobals c=some (some (.ref C))->W.exmOne K (.ref C) (.ref Cc)=some true)
variable (xal:∃ Cc,mg "BadNumber"=some (.ref Cc)/\∀ c b C,([("BadNumber",true)]:List (Str×Bool)).lookup c=some b->W.nsIn K mainGlobals c=some (some (.ref C))->IsC K C/\W.kitOne K (.ref C) (.ref Cc)=some b)
variable (xak:mg "ValueError"=none/\∀ c b C,([("BadNumber",true)]:List (Str×Bool)).lookup c=some b->W.nsIn K mainGlobals c=some (some (.ref C))->IsC K C/\W.kitOne K (.ref C) (.type "ValueError")=some b)
variable (xax:∃ Cc,mg "BadLine"=some (.ref Cc)/\∀ c b C,([("BadNumber",false)]:List (Str×Bool)).lookup c=some b->W.nsIn K mainGlobals c=some (some (.ref C))->IsC K C/\W.kitOne K (.ref C) (.ref Cc)=some b)
theorem zag:z6 ["text","told","kinds","e"] ["text"] (zx zbD):=zbq
include xat xg xan xal xak xax in
theorem zec (F:Fun K "_law_told" "_law_told" zbD f fd):zZ P w K mg base CX0 2 f fd ["text"] (upF K Dp.zas):=by
  refine zbl (b:=Dp.zaV) F zag Dp.zdK Dp.zed (fun cdv A outer s H E hr=>?_)
  unfold Dp.zaV
  exact (zu (zL (i:=1) zag.nd (zaA zy))
 (zu (zL (i:=2) zag.nd (zaA zy))
 (zu (zhr (i:=3) rfl rfl zag.nd rfl rfl rfl xan (fun _ _ ex hX=>(zA (zL (i:=1) zag.nd (zaA (zc (zfS xat hX hr (zc (zq 0) zy)) zy))))) (fun _=>(zA (zL (i:=2) zag.nd (zaA (zc (zeA rfl xg (zcF (pv 3)) rfl xal) (zc (zg4 rfl xg (zcF (pv 3)) rfl xak (by decide +kernel)) (zc (zeA rfl xg (zcF (pv 3)) rfl xax) zy))))))))
 (zA (zac (zie (zc (zq 1) (zc (zq 2) zy))))))))
variable (xau:Got P w K mg base 2 "_law_told" ["text"] (upF K Dp.zas))
theorem zau:z6 ["text","figures","sign"] ["text"] (zx za8):=zbq
include xu in
theorem zdd (F:Fun K "_law_writes" "_law_writes" za8 f fd):zZ P w K mg base CX0 1 f fd ["text"] (upF K Dp.zaf):=by
  refine zbl (b:=Dp.zaC) F zau Dp.zcK Dp.zc9 (fun cdv A outer s H E hr=>?_)
  unfold Dp.zaC
  exact (zu (zL (i:=1) zau.nd (zq 0))
 (zu (zbZ (z7 (zbr (zel (zM zeH (za4 zaN xu boot_len (zc (zq 0) zy)) zp) (zdU (zM (zbb hr) (zbd (zq 0) zp) zG)))) (zA (zL (i:=1) zau.nd (zbf (zq 0) (zaz zp) zay))) zR))
 (zu (z7 (zbr (zbU (zM (zbb hr) (za4 zaN xu boot_len (zc (zq 1) zy)) zp) (zb9 (zM zeH (za4 zaN xu boot_len (zc (zq 1) zy)) zp)))) (zA (zac zaT)) zR)
 (zu (zej (zd8 (zq 1)) (zbu (i:=2) zau.nd) (zA (z7 (zhs (zf4 hr) (zq 2) zG) (zA (zac zaT)) zR)))
 (zA (zac (zhL (ze2 (zbb hr) (zq 0) zG) (ziJ (ze2 (zb5 hr) (zbd (zq 1) zp) zG)))))))))
variable (xao:Got P w K mg base 1 "_law_writes" ["text"] (upF K Dp.zaf))
variable (xbd:mg "list"=none)
variable (xa7:mg "range"=none)
variable (xbc:mg "bool"=none)
theorem zbs:z6 ["script","cells","texts","text","told","kinds"] ["script"] (zx zaW):=zbq
include xav xu xab xa4 xg xau xao xbd xa7 xbc in
theorem zis (F:Fun K "law" "law" zaW f fd):zZ P w K mg base CX0 3 f fd ["script"] (upF K Dp.za3):=by
  refine zbl (b:=Dp.zdi) F zbs Dp.zhh Dp.zig (fun cdv A outer s H E hr=>?_)
  unfold Dp.zdi
  exact (zu (zL (i:=1) zbs.nd (zad (zb1 zhg xbd boot_list (zc (zbf (zq 0) zay (zaz zp)) zy)) (zaA (zc zp zy))))
 (zu (zfV (i:=2) zbs.nd (own:=["k"]) (free:=["cells"]) (fv:=[1]) ⟨rfl,True.intro⟩ ⟨rfl,rfl,rfl,True.intro⟩ (zgL xa7 (zc (za4 zaN xu boot_len (zc (zq 1) zy)) zy)) ⟨(zbI 0 (by decide)),fun _ _ _ _ _=>(zcW (i:=0) (show List.Nodup (["k","cells"]:List Str) by decide +kernel) rfl (Or.inl rfl) (Or.inr rfl))⟩ (fun _ _ _ _ _=>zeq) (fun _ _ _ _ _=>(zb2 xab hr (zc (zbd (zq 1) (zq 0)) (zc (zq 0) zy)))))
 (zu (zej (zd8 (zad (zq 2) (zaA (zc zG (zc zG (zc zG (zc zG (zc zG (zc zG (zc zG (zc zG (zc zG zy)))))))))))) (zbu (i:=3) zbs.nd) (zu (zgD (zb2 xau hr (zc (zq 3) zy)) (zhq (n:=2) rfl (zdN (zbu (i:=4) zbs.nd) (zdN (zbu (i:=5) zbs.nd) zho))))
 (zA (z7 (zcV (zbm (zb2 xao hr (zc (zq 3) zy)))) (zA (z7 (zbr (zbU (zM (zb5 hr) (zq 4) (zaA zy)) (zb9 (zM (zb5 hr) (zq 5) (zaA (zc zaT (zc zaT (zc zaT zy)))))))) (zA (zac zaT)) zR)) (zA (z7 (zbr (zbU (zM (zb5 hr) (za4 zaN xu boot_len (zc (zq 4) zy)) zp) (zbU (zbm (za4 zfz xg boot_isinstance (zc (zbd (zq 4) zp) (zc (zgq rfl xbc boot_bool) zy)))) (zb9 (zcV (zbm (za4 zfz xg boot_isinstance (zc (zbd (zq 4) zp) (zc (zgq rfl xa4 boot_int) zy))))))))) (zA (zac zaT)) (zA (z7 (zM (zb5 hr) (zb1 zcv xav boot_str (zc (zbd (zq 4) zp) zy)) (zq 3)) (zA (zac zaT)) zR))))))))
 (zA (zac zaT)))))
end
theorem all_mk {l:W.OpenLaw}{w:World}{K:W.Frag}{h:Heap}{mg:Str->Option Value}{fa:Addr}(X:K.In h)(G:h.Ns mainGlobals mg)(hfa:mg "law"=some (.ref fa))
  {xbo xa9 xbm xbx xbl:Addr}{xbp xa8 xbn xbw xbk:FuncData}
  {xb8 xb6:Option Addr} {xb7:Array (Option Value)} {xb9 xb3 xb4 xb2 xbj xb5:Value} {xbz:Addr}
  {xba:Addr}
  {xbf:Addr}
  {xr:Addr}
  {xbb:Tok} {xbu:Tok}
  (xas:FH K "_law_mixed" zbj xbo xbp)
  (xac:FH K "_law_number_text" zaq xa9 xa8)
  (xaq:FH K "number_of" zbi xbm xbn)
  (xaw:FH K "_law_told" zbD xbx xbw)
  (xam:FH K "_law_writes" za8 xbl xbk)
  (xbq:W.nsIn K mainGlobals "law"=some (some (.ref xbz))) (xbv:K.lookup xbz=some ⟨xb9,xb8,.func (W.fnOf "law" "law" (zah zaW) (zX zaW) (zx zaW) .none xb3 xb4 xb2 xb6 xbj xb5),xb7⟩) (xbt:W.codeIn K xbj "law"=true) (xb0:W.keepIn K (.ref xbz)=true)
  (xa3:W.nsIn K mainGlobals "ValeError"=some (some (.ref xba))) (xa6:W.nsIn K mainGlobals "BadLine"=some (some (.ref xbf))) (xq:W.nsIn K mainGlobals "BadNumber"=some (some (.ref xr))) (xa2:zf0 K xr=true) (xaj:isIn K xr=true) (xad:W.exmOne K (.ref xr) (.ref xba)=some true) (xaf:W.kitOne K (.ref xr) (.ref xr)=some true) (xaa:W.kitOne K (.ref xr) (.type "ValueError")=some true) (xah:W.kitOne K (.ref xr) (.ref xbf)=some false) (xay:W.nsIn K mainGlobals "ValueError"=some none)
  (xbs:W.nsIn K mainGlobals "str"=some none) (xbr:W.nsIn K mainGlobals "len"=some none) (xby:W.nsIn K mainGlobals "all"=some none) (xb1:W.nsIn K mainGlobals "int"=some none) (xaz:W.nsIn K mainGlobals "isinstance"=some none) (xbh:W.nsIn K mainGlobals "list"=some none) (xbe:W.nsIn K mainGlobals "range"=some none) (xbi:W.nsIn K mainGlobals "bool"=some none)
  (xap:W.nsIn K mainGlobals "MOST_FIGURES"=some (some (.int 60 xbb))) (xa5:W.nsIn K mainGlobals "FIGURES"=some (some (.str "0123456789" xbu))) :
  ∃ fd:FuncData,(∀ (s:Shared) (v:Value),BindsTo s fd ⟨[v],[]⟩ [("script",v)])/\∀ base:Heap,K.In base->base.Ns mainGlobals mg->zZ l.prog w K mg base CX0 3 fa fd ["script"] (upF K Dp.za3):=by
 have e:=hfa.symm.trans (W.mg_of X G xbq)
 cases e
 have xca:=ze7 (st:=zaW) xbv xbt xb0
 have xae:∀ C,W.nsIn K mainGlobals "BadNumber"=some (some (.ref C))->ExC K C:=fun C h=>by
  rw [xq] at h;cases h;exact ExC.of xa2
 have xag:∃ C,W.nsIn K mainGlobals "BadNumber"=some (some (.ref C))/\mg "BadNumber"=some (.ref C):=⟨_,xq,W.mg_of X G xq⟩
 have xan:∃ Cc,mg "ValeError"=some (.ref Cc)/\∀ c C,(["BadNumber"]:List Str).contains c=true->W.nsIn K mainGlobals c=some (some (.ref C))->W.exmOne K (.ref C) (.ref Cc)=some true:=by
  refine⟨_,W.mg_of X G xa3,fun c C h hn=>?_⟩
  rcases zfu h with rfl | h
  ·rw [xq] at hn;cases hn;exact xad
  cases h
 have xal:∃ Cc,mg "BadNumber"=some (.ref Cc)/\∀ c b C,([("BadNumber",true)]:List (Str×Bool)).lookup c=some b->W.nsIn K mainGlobals c=some (some (.ref C))->IsC K C/\W.kitOne K (.ref C) (.ref Cc)=some b:=by
  refine⟨_,W.mg_of X G xq,fun c b C h hn=>?_⟩
  rcases zcN h with ⟨rfl,rfl⟩ | h
  ·rw [xq] at hn;cases hn;exact⟨IsC.of xaj,xaf⟩
  cases h
 have xak:mg "ValueError"=none/\∀ c b C,([("BadNumber",true)]:List (Str×Bool)).lookup c=some b->W.nsIn K mainGlobals c=some (some (.ref C))->IsC K C/\W.kitOne K (.ref C) (.type "ValueError")=some b:=by
  refine⟨W.mg_none_of X G xay,fun c b C h hn=>?_⟩
  rcases zcN h with ⟨rfl,rfl⟩ | h
  ·rw [xq] at hn;cases hn;exact⟨IsC.of xaj,xaa⟩
  cases h
 have xax:∃ Cc,mg "BadLine"=some (.ref Cc)/\∀ c b C,([("BadNumber",false)]:List (Str×Bool)).lookup c=some b->W.nsIn K mainGlobals c=some (some (.ref C))->IsC K C/\W.kitOne K (.ref C) (.ref Cc)=some b:=by
  refine⟨_,W.mg_of X G xa6,fun c b C h hn=>?_⟩
  rcases zcN h with ⟨rfl,rfl⟩ | h
  ·rw [xq] at hn;cases hn;exact⟨IsC.of xaj,xah⟩
  cases h
 have xav:=W.mg_none_of X G xbs
 have xu:=W.mg_none_of X G xbr
 have xbg:=W.mg_none_of X G xby
 have xa4:=W.mg_none_of X G xb1
 have xg:=W.mg_none_of X G xaz
 have xbd:=W.mg_none_of X G xbh
 have xa7:=W.mg_none_of X G xbe
 have xbc:=W.mg_none_of X G xbi
 have xai:∃ t,mg "MOST_FIGURES"=some (.int 60 t):=⟨_,W.mg_of X G xap⟩
 have xa0:∃ t,mg "FIGURES"=some (.str "0123456789" t):=⟨_,W.mg_of X G xa5⟩
 refine⟨W.fnOf "law" "law" (zah zaW) (zX zaW) (zx zaW) .none xb3 xb4 xb2 xb6 xbj xb5,fun s v=>.of_eq rfl,fun base _ _=>?_⟩
 have xar:=zcs l.prog w base X G xas (zdE xas.F)
 have xab:=zcs l.prog w base X G xac (zbR xar xav xu xac.F)
 have xat:=zgB l.prog w base X G xaq (zdI xu xai xa0 xbg xa4 xae xag xaq.F)
 have xau:=zcs l.prog w base X G xaw (zec xat xg xan xal xak xax xaw.F)
 have xao:=zcs l.prog w base X G xam (zdd xu xam.F)
 exact zis xav xu xab xa4 xg xau xao xbd xa7 xbc xca
theorem walk {l:W.OpenLaw}{q:Program}{loose:List Str}{XP:(Str->Option Value)->Heap->Prop}{YP:World->Heap->Prop}{d:DefRec}{K:Params->W.Frag}(hn:l.most=some 63)(hdf:d.params.defaults=[])
  (hY:∀ (w:World) (h:Heap),YP w h->(K w.params).In h)
  (F:∀ (w:World) (mg:Str->Option Value) (fa:Addr) (h:Heap),(K w.params).In h->h.Ns mainGlobals mg->mg d.name=some (.ref fa) ->
   ∃ fd:FuncData,(∀ (s:Shared) (u:Value),BindsTo s fd ⟨[u],[]⟩ [("script",u)])/\∀ base:Heap,(K w.params).In base->base.Ns mainGlobals mg->zZ l.prog w (K w.params) mg base CX0 3 fa fd ["script"] (upF (K w.params) Dp.za3)) :
  W.WalkO q loose XP YP l.row.toRowW d [] (fun f vs=>PySem.call f vs) :=
 Dp.zfE (n:=63) (k:=3) (x:="script") (sp:=fun w=>upF (K w.params) Dp.za3) hn (by decide) hdf ⟨rfl,by decide,by decide⟩ hY F fun _ _ _ _ hl hg hO hS=>zhS hl hg hO hS
end Law
local macro_rules | `(tactic| walk_at "fh")=>`(tactic| (refine' Dp.zi1 ?fa ?fl ?fc ?fk;(case fa=>k_is);(case fl=>k_is);(case fc=>k_is);(case fk=>k_is)))
open PySem PySem.W PyProof.Rows
namespace PySem.W.Fast
def tw2220966557409550693:=()
def tw6523237259292980504:=()
def tw3800088200985992224:=()
def tw1729763601801764532:=()
def tw3179212642016749750:=()
def tw8047517897367462796:=()
def tw5902166844780141092:=()
def tw15667988295276464779:=()
def tw13339826236003587075:=()
def tw9485225712683206274:=()
def tw951489666256158744:=()
def tw6455674023842034155:=()
def tw14736765568735369881:=()
def tw15141935361890817100:=()
def tw5865836544041450273:=()
def tw17248672822209154878:=()
def tw3548523702450878999:=()
def tw9734310212000473406:=()
def tw6133980203558510518:=()
def tw15209022435920149329:=()
def tw13444668709539041636:=()
def tw1366271725666205630:=()
def tw17441813516535510249:=()
def tw10758961043822112894:=()
def tw6088046942287226298:=()
def tw15258886683764596390:=()
end PySem.W.Fast
set_option maxRecDepth 100000 in
set_option maxHeartbeats 0 in
theorem PySem.Challenge.cw_beaconvale_k84_numbers_read_holds : PySem.Challenge.rw_beaconvale_k84_numbers_read.Holds := by
 w_on; o_law; k_head; (case hw => w_witness2)
 k_fill
 refine Law.walk (l := PySem.Challenge.rw_beaconvale_k84_numbers_read) rfl rfl (fun w h Y => PySem.W.kIn_of Y) ?F
 case F =>
  intro w mg fa h KX G hmg
  refine' Law.all_mk KX G hmg ?aa ?ac ?ae ?af ?ah ?ai ?aj ?ak ?al ?am ?ao ?aq ?ar ?aw ?ax ?ay ?az ?aA ?aB ?aC ?aD ?aE ?aF ?aG ?aH ?aI ?aJ ?aK ?aL
  case am|ao|aq=>k_is
  case aa|ac|ae|af|ah=>walk_at "fh"
  case ai|aj|ak|al=>k_is
  case ar|aw|ax|ay|az|aA=>kernel_rfl
  case aB|aC|aD|aE|aF|aG|aH|aI|aJ|aK|aL=>k_is
#print axioms PySem.Challenge.cw_beaconvale_k84_numbers_read_holds
