import PyProof.Rows.All
import Wide.All
import OpenK.AllK
import Wide.FinOn
import Lean
import PyProof.EqAt
import PyProof.EqKinds
import PyProof.TupleCall
import PyProof.NeData
import PyProof.P3Eq
import PyProof.StrLawsIn
import PyProof.StrLawsJoin
import PyProof.StrBlockL
import PySem.Challenge.RW_beaconvale_k62_ways_looked_at
set_option Elab.async false
set_option linter.all false
set_option maxRecDepth 100000
set_option maxHeartbeats 4000000
set_option Elab.async false
set_option linter.all false
set_option maxRecDepth 100000
def qa:=@List.length_map
def qb:=@List.getElem?_eq_getElem
def qc:=@PySem.Heap.get?_push_of_some
def qd:=@List.mem_of_getElem?
def qe:=@List.length_append
def qf:=@Nat.le_refl
def qg:=@List.getElem?_map
def qh:=@List.mem_cons
def qi:=@List.size_toArray
def qj:=@List.lookup_cons
def qk:=@List.getElem?_append_right
namespace L2
open PySem PySem.Spec PyProof.Rows
abbrev Key:=Sum Int Str
def zr9:Key->Value->Bool
 | .inl k,v=>Value.isInt k v
 | .inr x,v=>Value.isStrOf x v
def zxX (w:World):Key->Int
 | .inl k=>hashInt k
 | .inr x=>hashStr w x
theorem zbi:∀ {k:Key} {v:Value},zr9 k v=true->(∃ i t,k=Sum.inl i/\v=Value.int i t)\/(∃ x t,k=Sum.inr x/\v=Value.str x t)
 | .inl i,v,h=>by
  obtain⟨t,e⟩:=Value.isInt_shape (k:=i) (v:=v) h
  exact .inl ⟨i,t,rfl,e⟩
 | .inr x,v,h=>by
  obtain⟨t,e⟩:=Value.isStrOf_shape (x:=x) (v:=v) h
  exact .inr ⟨x,t,rfl,e⟩
theorem zuW (a b:Int):decide ((Sum.inl a:Key)=Sum.inl b)=(a==b):=by
 by_cases e:a=b
 ·subst e;simp
 ·have h:¬ (Sum.inl a:Key)=Sum.inl b:=fun q=>e (Sum.inl.inj q)
  rw [decide_eq_false h]
  exact (beq_eq_false_iff_ne.mpr e).symm
theorem zuw (a b:Str):decide ((Sum.inr a:Key)=Sum.inr b)=decide (a=b):=by
 by_cases e:a=b
 ·subst e;simp
 ·have h:¬ (Sum.inr a:Key)=Sum.inr b:=fun q=>e (Sum.inr.inj q)
  rw [decide_eq_false h,decide_eq_false e]
theorem zvt (a:Int)(b:Str):decide ((Sum.inl a:Key)=Sum.inr b)=false:=decide_eq_false (fun q=>nomatch q)
theorem zvg (a:Str)(b:Int):decide ((Sum.inr a:Key)=Sum.inl b)=false:=decide_eq_false (fun q=>nomatch q)
def znG (prog:Program)(w:World):PySem.KeyKind prog w Key where
  is:=zr9
  hash:=zxX w
  inj:=fun v a b ha hb=>by
    rcases zbi ha with ⟨i,t,rfl,rfl⟩ | ⟨x,t,rfl,rfl⟩
    . rcases zbi hb with ⟨j,u,rfl,e⟩ | ⟨y,u,rfl,e⟩
      . injection e with e1 _;rw [e1]
      . exact nomatch e
    . rcases zbi hb with ⟨j,u,rfl,e⟩ | ⟨y,u,rfl,e⟩
      . exact nomatch e
      . injection e with e1 _;rw [e1]
  byValue:=fun k v h=>by
    rcases zbi h with ⟨i,t,rfl,rfl⟩ | ⟨x,t,rfl,rfl⟩<;>rfl
  pyHash:=fun hv h=>by
    rcases zbi hv with ⟨i,t,rfl,rfl⟩ | ⟨x,t,rfl,rfl⟩
    . exact wpAny_pyHash_int h
    . exact wpAny_pyHash_str h
  eqBool:=fun hu hv h=>by
    rcases zbi hu with ⟨i,t,rfl,rfl⟩ | ⟨x,t,rfl,rfl⟩
    . rcases zbi hv with ⟨j,u,rfl,rfl⟩ | ⟨y,u,rfl,rfl⟩
      . rw [zuW] at h;exact wpAny_eqBool_int h
      . rw [zvt] at h;exact SeqAt.EqAt.int_str i t y u _ _ _ _ h
    . rcases zbi hv with ⟨j,u,rfl,rfl⟩ | ⟨y,u,rfl,rfl⟩
      . rw [zvg] at h;exact SeqAt.EqAt.str_int x t j u _ _ _ _ h
      . rw [zuw] at h;exact wpAny_eqBool_str h
  «strs»:=fun k x t v h=>by
    rcases zbi h with ⟨i,u,rfl,e⟩ | ⟨y,u,rfl,e⟩
    . exact nomatch e
    . injection e with e1 _
      subst e1
      cases v<;>rfl
inductive V where
 | non | bl (b:Bool) | int (i:Int) | str (x:Str) | byt (b:Array UInt8) | flt (b:UInt64) | ref (a:Addr) | ty (n:String)
 deriving DecidableEq
def RelV:V->Value->Prop
 | .non,u=>u=Value.none
 | .bl b,u=>u=Value.bool b
 | .int i,u=>∃ t,u=Value.int i t
 | .str x,u=>∃ t,u=Value.str x t
 | .byt b,u=>∃ t,u=Value.bytes b t
 | .flt b,u=>∃ t,u=Value.float b t
 | .ref a,u=>u=Value.ref a
 | .ty n,u=>u=Value.type n
abbrev Vals:List V->List Value->Prop:=Paired RelV
theorem Vals.length {xs:List V}{us:List Value}(r:Vals xs us):xs.length=us.length:=Paired.length r
theorem Vals.get:∀ {xs:List V} {us:List Value} {i:Nat} {x:V},Vals xs us->xs[i]?=some x->∃ u,us[i]?=some u/\RelV x u
 | _,_,_,_,.nil,e=>by simp at e
 | _,_,0,_,.cons r _,e=>by simp at e;subst e;exact⟨_,rfl,r⟩
 | _,_,i+1,x,.cons _ t,e=>by
  obtain⟨u,h1,h2⟩:=Vals.get (i:=i) (x:=x) t (by simpa using e)
  exact⟨u,by simpa using h1,h2⟩
theorem Vals.set {x:V}{u:Value}(r:RelV x u):∀ {xs:List V} {us:List Value} (i:Nat),Vals xs us->Vals (xs.set i x) (us.set i u)
 | _,_,_,.nil=>.nil
 | _,_,0,.cons _ t=>.cons r t
 | _,_,i+1,.cons q t=>.cons q (Vals.set r i t)
theorem Vals.append:∀ {xs ys:List V} {us ws:List Value},Vals xs us->Vals ys ws->Vals (xs++ys) (us++ws)
 | _,_,_,_,.nil,s=>s
 | _,_,_,_,.cons r t,s=>.cons r (Vals.append t s)
theorem Vals.take:∀ {xs:List V} {us:List Value} (n:Nat),Vals xs us->Vals (xs.take n) (us.take n)
 | _,_,0,_=>.nil
 | _,_,_+1,.nil=>.nil
 | _,_,n+1,.cons r t=>.cons r (Vals.take n t)
theorem Vals.drop:∀ {xs:List V} {us:List Value} (n:Nat),Vals xs us->Vals (xs.drop n) (us.drop n)
 | _,_,0,r=>r
 | _,_,_+1,.nil=>.nil
 | _,_,n+1,.cons _ t=>Vals.drop n t
def zjf:Option V->Option Value->Prop
 | some v,some u=>RelV v u
 | none,none=>True
 | _,_=>False
def KV {κ:Type}:List (κ×V)->List (κ×Value)->Prop:=Paired fun (p:κ×V) (q:κ×Value)=>p.1=q.1/\RelV p.2 q.2
def kV:Key->V
 | .inl i=>.int i
 | .inr x=>.str x
inductive HO where
 | lst (xs:List V)
 | tup (xs:List V)
 | dK (kvs:List (Key×V)) | dT (kvs:List (List Key×V))
 | set (S:Int->Bool) (n:Nat)
 | ins (C dx:Addr) (fs:List (Str×V))
 | own (x:Addr)
 | xd (fs:List (Str×V))
 | met (f x:Addr)
 | rng (lo hi:Int)
 | frz (o:Obj) (u:HO)
 | tbl (ps:Array Value)
 | ext (φ:Heap->Prop)
abbrev Hp:=Addr->Option HO
def upd (H:Hp)(a:Addr)(o:HO):Hp:=fun b=>if b=a then some o else H b
theorem zaW {H:Hp}{a:Addr}{o:HO}:upd H a o a=some o:=by unfold upd;rw [if_pos rfl]
theorem zaf {H:Hp}{a b:Addr}{o:HO}(h:b≠a):upd H a o b=H b:=by unfold upd;rw [if_neg h]
theorem zic {H:Hp}{a b:Addr}{o u:HO}(h:H a=some o)(h':H b=some u)(d:o≠u):a≠b:=by
 intro e;subst e;rw [h] at h';exact d (Option.some.inj h')
theorem zbE {H:Hp}{a b:Addr}{o:HO}(h:H a=some o)(h':H b=none):a≠b:=by
 intro e;subst e;rw [h] at h';cases h'
section
variable (P:Program)(w:World)
def zbj (H:Hp)(h:Heap)(a:Addr):HO->Prop
 | .lst xs=>xs.length<=sizeLine/\∃ (its:List Value) (n:Nat),Vals xs its/\h.get? a=some { cls:=.type "list",data:=.seq its.toArray n }
 | .tup xs=>xs.length<=sizeLine/\∃ its:List Value,Vals xs its/\IsTup h a its.toArray
 | .dK kvs=>kvs.length<=sizeLine/\(a==sysModules)=false/\∃ vs,KV kvs vs/\h.DictOf (znG P w) a vs
 | .dT kvs=>kvs.length<=sizeLine/\(a==sysModules)=false/\∃ xs:List (List Key×Addr×Value),
   Paired (fun (p:List Key×V) (q:List Key×Addr×Value)=>p.1=q.1/\H q.2.1=some (.tup (p.1.map kV))/\RelV p.2 q.2.2) kvs xs /\
   ∃ o es ep,h.get? a=some o/\o.ExactDict/\o.data=.dict es ep/\es.toList=xs.map (entryOfKey (tupleKind (znG P w)))/\(xs.map (·.1)).Nodup
 | .set S n=>h.SetOf (intKind P w) a S n
 | .ins C dx fs=>H dx=some (.own a)/\fs.length<=1000/\dx≠a/\h.get? a=some (PySem.W.instObj C dx) /\
   ∃ mA,h.Ns1 dx mA/\(∀ f,zjf (fs.lookup f) (mA f))/\PySem.Within mA (fs.map (·.1))
 | .own _=>∃ o,h.get? a=some o
 | .xd fs=>∃ mA,h.Ns1 a mA/\∀ f,zjf (fs.lookup f) (mA f)
 | .rng lo hi=>∃ t u v,h.get? a=some { cls:=.type "range",data:=.fields #[.int lo t,.int hi u,.int 1 v] }
 | .frz o u=>h.get? a=some o/\zbj H h a u
 | .tbl ps=>h.get? a=some { cls:=.none,data:=.fields ps }
 | .met f x=>h.get? a=some (PySem.W.methodObj (.ref f) (.ref x))
 | .ext φ=>φ h/\(∃ o,h.get? a=some o)/\∀ h1 h2:Heap,φ h1->(∀ o,h1.get? a=some o->h2.get? a=some o)->φ h2
def HOk (H:Hp)(h:Heap):Prop:=∀ a o,H a=some o->zbj P w H h a o
end
section
variable {P:Program}{w:World}{H H':Hp}{h h':Heap}{a:Addr}{o:HO}
theorem zbj.lt (x:zbj P w H h a o):a<h.objs.size:=by
 cases o with
 | lst xs=>obtain⟨_,_,_,_,e⟩:=x;exact Heap.lt_size e
 | tup xs=>obtain⟨_,_,_,p⟩:=x;exact p.lt
 | dK kvs=>obtain⟨_,_,_,_,o,_,_,e,_⟩:=x;exact Heap.lt_size e
 | dT kvs=>obtain⟨_,_,_,_,o,_,_,e,_⟩:=x;exact Heap.lt_size e
 | set S n=>obtain⟨o,_,_,_,e,_⟩:=x;exact Heap.lt_size e
 | ins C dx fs=>obtain⟨_,_,_,e,_⟩:=x;exact Heap.lt_size e
 | own y=>obtain⟨_,e⟩:=x;exact Heap.lt_size e
 | xd fs=>obtain⟨_,⟨_,_,_,e,_⟩,_⟩:=x;exact Heap.lt_size e
 | rng lo hi=>obtain⟨_,_,_,e⟩:=x;exact Heap.lt_size e
 | frz ob u=>obtain⟨e,_⟩:=x;exact Heap.lt_size e
 | tbl ps=>exact Heap.lt_size (show h.get? a=some _ from x)
 | met f y=>exact Heap.lt_size (show h.get? a=some _ from x)
 | ext φ=>obtain⟨_,⟨_,e⟩,_⟩:=x;exact Heap.lt_size e
theorem Paired.mapP {α β:Type}{F G:α->β->Prop}:∀ {l₁:List α} {l₂:List β},Paired F l₁ l₂->(∀ a b,F a b->G a b)->Paired G l₁ l₂
 | _,_,.nil,_=>.nil
 | _,_,.cons r t,f=>.cons (f _ _ r) (Paired.mapP t f)
theorem Paired.imp' {α β:Type}{F G:α->β->Prop}(f:∀ a b,F a b->G a b){l₁:List α}{l₂:List β}(r:Paired F l₁ l₂):Paired G l₁ l₂:=Paired.mapP r f
theorem zbj.stay (x:zbj P w H h a o)(k:∀ b u,(b=a\/H b=some (.own a))->h.get? b=some u->h'.get? b=some u)
  (ho:∀ b,H b=some (.own a)->H' b=some (.own a)) (ht:∀ b xs,H b=some (.tup xs)->H' b=some (.tup xs)):zbj P w H' h' a o:=by
 induction o with
 | lst xs=>obtain⟨z,its,n,r,e⟩:=x;exact⟨z,its,n,r,k _ _ (.inl rfl) e⟩
 | tup xs=>obtain⟨z,its,r,ob,e,c⟩:=x;exact⟨z,its,r,ob,k _ _ (.inl rfl) e,c⟩
 | dK kvs=>obtain⟨z,y,vs,r,ob,es,ep,e,c⟩:=x;exact⟨z,y,vs,r,ob,es,ep,k _ _ (.inl rfl) e,c⟩
 | dT kvs =>
  obtain⟨z,y,xs,r,ob,es,ep,e,c⟩:=x
  exact⟨z,y,xs,Paired.mapP r fun p q z=>⟨z.1,ht _ _ z.2.1,z.2.2⟩,ob,es,ep,k _ _ (.inl rfl) e,c⟩
 | set S n=>obtain⟨ob,es,ep,t,e,c⟩:=x;exact⟨ob,es,ep,t,k _ _ (.inl rfl) e,c⟩
 | ins C dx fs =>
  obtain⟨d,z,ne,e,mA,⟨od,es,ep,e2,c⟩,r⟩:=x
  exact⟨ho _ d,z,ne,k _ _ (.inl rfl) e,mA,⟨od,es,ep,k _ _ (.inr d) e2,c⟩,r⟩
 | own y=>obtain⟨ob,e⟩:=x;exact⟨ob,k _ _ (.inl rfl) e⟩
 | xd fs=>obtain⟨mA,⟨od,es,ep,e,c⟩,r⟩:=x;exact⟨mA,⟨od,es,ep,k _ _ (.inl rfl) e,c⟩,r⟩
 | rng lo hi=>obtain⟨t,u,v,e⟩:=x;exact⟨t,u,v,k _ _ (.inl rfl) e⟩
 | frz ob u ih=>obtain⟨e,q⟩:=x;exact⟨k _ _ (.inl rfl) e,ih q⟩
 | tbl ps =>
  have e:h.get? a=some { cls:=.none,data:=.fields ps }:=x
  show h'.get? a=some { cls:=.none,data:=.fields ps }
  exact k a _ (.inl rfl) e
 | met f y =>
  have e:h.get? a=some (PySem.W.methodObj (.ref f) (.ref y)):=x
  show h'.get? a=some (PySem.W.methodObj (.ref f) (.ref y))
  exact k a _ (.inl rfl) e
 | ext φ=>obtain⟨p,⟨o,e⟩,st⟩:=x;exact⟨st _ _ p fun o q=>k _ _ (.inl rfl) q,⟨o,k _ _ (.inl rfl) e⟩,st⟩
theorem HOk.lt (x:HOk P w H h)(e:H a=some o):a<h.objs.size:=(x a o e).lt
theorem HOk.fresh (x:HOk P w H h)(e:h.objs.size<=a):H a=none:=by
 cases q:H a with
 | none=>rfl
 | some u=>exact absurd (Nat.lt_of_lt_of_le (x.lt q) e) (Nat.lt_irrefl _)
theorem HOk.kept (x:HOk P w H h)(k:∀ b u,h.get? b=some u->h'.get? b=some u):HOk P w H h':=fun a o e =>
 (x a o e).stay (fun b u _ q=>k b u q) (fun _ q=>q) fun _ _ q=>q
theorem HOk.laid (x:HOk P w H h)(k:∀ b u,h.get? b=some u->h'.get? b=some u)(hp:h.objs.size<=a)(new:zbj P w (upd H a o) h' a o):HOk P w (upd H a o) h':=fun b u e=>by
 have hn:=x.fresh hp
 by_cases hb:b=a
 ·subst hb;rw [zaW] at e;cases e;exact new
 ·rw [zaf hb] at e
  exact (x b u e).stay (fun c v _ q=>k c v q) (fun c q=>by rw [zaf (zbE q hn)];exact q) fun c xs q=>by rw [zaf (zbE q hn)];exact q
end
def Rd (H:Hp)(a:Addr)(u:HO):Prop:=H a=some u\/∃ o,H a=some (.frz o u)
theorem Rd.ok {P:Program}{w:World}{H:Hp}{h:Heap}{a:Addr}{u:HO}(r:Rd H a u)(x:HOk P w H h):zbj P w H h a u:=by
 rcases r with r | ⟨o,r⟩
 ·exact x a u r
 ·obtain⟨_,q⟩:=x a _ r
  exact q
def Mut:Option HO->Prop
 | some (.lst _)=>True
 | some (.dK _)=>True
 | some (.dT _)=>True
 | some (.set _ _)=>True
 | some (.ins _ _ _)=>True
 | some (.ext _)=>True
 | _=>False
section
variable {P:Program}{w:World}{H:Hp}{h h':Heap}{x e:Addr}{o':HO}
theorem HOk.write (ok:HOk P w H h)(mu:Mut (H x))(he:e=x\/H e=some (.own x))(k:∀ b u,b≠e->h.get? b=some u->h'.get? b=some u)(heo:∃ u,h'.get? e=some u)
  (new:zbj P w (upd H x o') h' x o'):HOk P w (upd H x o') h':=fun b u q=>by
 have nown:∀ c y,H c=some (.own y)->c≠x:=fun c y r z=>by subst z;rw [r] at mu;exact mu
 have ntup:∀ c xs,H c=some (.tup xs)->c≠x:=fun c xs r z=>by subst z;rw [r] at mu;exact mu
 by_cases hb:b=x
 ·subst hb;rw [zaW] at q;cases q;exact new
 ·rw [zaf hb] at q
  by_cases hbe:b=e
  ·have q':H b=some (.own x):=by
    rcases he with z | z
    ·exact absurd (hbe.trans z) hb
    ·rw [hbe];exact z
   rw [q] at q';cases q'
   obtain⟨v,hv⟩:=heo
   exact⟨v,by rw [hbe];exact hv⟩
  ·refine (ok b u q).stay (fun c v hc r=>k c v ?_ r) (fun c r=>by rw [zaf (nown c b r)];exact r) fun c xs r=>by rw [zaf (ntup c xs r)];exact r
   rcases hc with rfl | hc
   ·exact hbe
   ·rintro rfl
    rcases he with z | z
    ·exact nown c b hc z
    ·rw [hc] at z;cases z;exact hb rfl
end
structure Un (fs ex:List Addr)(H H':Hp)(h h':Heap):Prop where
 keep:∀ b o,h.get? b=some o->H b=none->b∉fs->b∉ex->h'.get? b=some o
 slot:∀ b o,h.get? b=some o->H b=none->b∈fs->b∉ex->∃ sl,h'.get? b=some { o with slots:=sl }
 free:∀ b o,h.get? b=some o->H b=none->b∉ex->H' b=none
 there:∀ b o,h.get? b=some o->b∉ex->∃ o',h'.get? b=some o'
 tups:∀ b xs,H b=some (.tup xs)->H' b=some (.tup xs)
 frzs:∀ b o u,H b=some (.frz o u)->H' b=some (.frz o u)
 tbls:∀ b ps,H b=some (.tbl ps)->∃ more,H' b=some (.tbl (ps++more))
section
variable {fs fs' ex ex':List Addr}{H H1 H2:Hp}{h h1 h2 h':Heap}{a x e:Addr}{o:HO}
theorem Un.any (u:Un fs ex H H1 h h1){b:Addr}{ob:Obj}(q:h.get? b=some ob)(n:H b=none)(hx:b∉ex):∃ sl,h1.get? b=some { ob with slots:=sl }:=by
 by_cases hb:b∈fs
 ·exact u.slot b ob q n hb hx
 ·exact⟨ob.slots,u.keep b ob q n hb hx⟩
theorem Un.kept (k:∀ b u,h.get? b=some u->h'.get? b=some u):Un fs ex H H h h' :=
 ⟨fun b ob q _ _ _=>k b ob q,fun b ob q _ _ _=>⟨ob.slots,k b ob q⟩,fun _ _ _ n _=>n,fun b ob q _=>⟨ob,k b ob q⟩,fun _ _ q=>q,fun _ _ _ q=>q,fun _ ps q=>⟨#[],by rw [q];simp⟩⟩
theorem Un.refl:Un fs ex H H h h:=Un.kept fun _ _ q=>q
theorem Un.laid (k:∀ b u,h.get? b=some u->h'.get? b=some u)(hp:h.objs.size<=a)(hn:H a=none):Un fs ex H (upd H a o) h h' where
 keep:=fun b u q _ _ _=>k b u q
 slot:=fun b u q _ _ _=>⟨u.slots,k b u q⟩
 free:=fun b u q n _=>by rw [zaf (Nat.ne_of_lt (Nat.lt_of_lt_of_le (Heap.lt_size q) hp))];exact n
 there:=fun b u q _=>⟨u,k b u q⟩
 tups:=fun b xs q=>by rw [zaf (zbE q hn)];exact q
 frzs:=fun b u xs q=>by rw [zaf (zbE q hn)];exact q
 tbls:=fun b ps q=>⟨#[],by rw [zaf (zbE q hn),q];simp⟩
theorem Un.write (mu:Mut (H x))(he:e=x\/H e=some (.own x))(k:∀ b u,b≠e->h.get? b=some u->h'.get? b=some u)(heo:∃ u,h'.get? e=some u):Un fs ex H (upd H x o) h h':=by
 have hx:∀ b,H b=none->b≠x:=fun b n z=>by subst z;rw [n] at mu;exact mu
 have hb:∀ b,H b=none->b≠e:=fun b n z=>by
  subst z
  rcases he with r | r
  ·exact hx b n r
  ·rw [n] at r;cases r
 have hm:∀ b u,H b=some u->¬ Mut (some u)->b≠x:=fun b u q nm z=>by subst z;rw [q] at mu;exact nm mu
 refine⟨fun b u q n _ _=>k b u (hb b n) q,fun b u q n _ _=>⟨u.slots,k b u (hb b n) q⟩,fun b u q n _=>by rw [zaf (hx b n)];exact n,fun b u q _=>?_,
  fun b xs q=>by rw [zaf (hm b _ q fun z=>z)];exact q,fun b u xs q=>by rw [zaf (hm b _ q fun z=>z)];exact q,fun b ps q=>⟨#[],by rw [zaf (hm b _ q fun z=>z),q];simp⟩⟩
 by_cases hbe:b=e
 ·subst hbe;exact heo
 ·exact⟨u,k b u hbe q⟩
end
def trk (h:Heap)(H:Hp):List Addr:=(List.range h.objs.size).filter fun a=>(H a).isSome
def zgz (h:Heap)(H:Hp):Heap:=PySem.W.hideAll h (trk h H)
theorem zpi (h:Heap)(H:Hp):(zgz h H).objs.size=h.objs.size:=PySem.W.hideAll_size _ _
theorem zrx {h:Heap}{H:Hp}{b:Addr}{o:Obj}(e:h.get? b=some o)(n:H b=none):(zgz h H).get? b=some o :=
 PySem.W.hideAll_get _ e fun hm=>by
  have q:(H b).isSome=true:=(List.mem_filter.mp hm).2
  rw [n] at q;simp at q
theorem zsJ {h:Heap}{H:Hp}{b:Addr}{o:Obj}(e:(zgz h H).get? b=some o):h.get? b=some o/\H b=none:=by
 have e':h.get? b=some o:=PySem.W.of_hideAll (trk h H) e
 refine⟨e',?_⟩
 cases q:H b with
 | none=>rfl
 | some x =>
  have hm:b∈trk h H:=List.mem_filter.mpr ⟨List.mem_range.mpr (Heap.lt_size e'),by simp [q]⟩
  have z:(zgz h H).get? b=none:=PySem.W.hideAll_none (trk h H) hm
  rw [z] at e;cases e
def ztT (g h:Heap)(L:Addr):List (Addr×Obj):=(List.range h.objs.size).filterMap fun a=>if a=L\/(g.get? a).isSome=true then none else (h.get? a).map fun o=>(a,o)
def rest (g h:Heap)(L d:Addr):List (Addr×Obj):=(ztT g h L).filter fun p=>decide (p.1≠d)
structure Mod (K:PySem.W.Frag)(mg:Str->Option Value)(base:Heap):Prop where
 kin:K.In base
 glob:base.Ns mainGlobals mg
 blt:∃ mb,base.Ns builtinsNs mb/\∀ x:Str,x≠"__name__"->mb x=bootBuiltins x
 nolimit:base.NoLimit
/-- the context: a def's body (or a comprehension's block) running. base: fixed through the whole law; s₀, H₀: the entry; outer: the frames whose slots others may change (a def's callers); stack: all frames that run;
   ex: iterators that were made ahead of the entry and are walked here (a comprehension's);fn: the names whose cells were made at the entry (a def: all;a comprehension's block: its own);calm: not within an except suite;pn: pins that every state bears;xe: what is wanted of an exception that leaves the code -/
structure Cx where
 prog:Program
 w:World
 K:PySem.W.Frag
 mg:Str->Option Value
 base:Heap
 A:Around
 N:List Str
 s₀:Shared
 H₀:Hp
 env:Env
 outer:List Env
 stack:List Env
 ex:List Addr
 fn:Str->Bool
 calm:Bool
 pn:List (Addr×Obj)
 xe:Value->Shared->Prop
def frs (l:List Env):List Addr:=l.filterMap (·.frame)
abbrev Cx.fs (X:Cx):List Addr:=frs X.outer
def Vis (sc:Scope)(x:Str):Prop:=sc.names.lookup x=some .local\/sc.names.lookup x=some .cell\/sc.names.lookup x=some .free
def Loc (sc:Scope)(x:Str):Prop:=sc.names.lookup x=some .local\/sc.names.lookup x=some .cell
def Look (env:Env)(h:Heap)(m:Str->Option Value)(x:Str)(u:Value):Prop :=
 (env.kindOf x=some .local/\m x=some u)\/((env.kindOf x=some .cell\/env.kindOf x=some .free)/\∃ c,env.cells.lookup x=some c/\h.IsCell c (some u))
structure Cx.Ok (X:Cx):Prop where
 mod:Mod X.K X.mg X.base
 kind:X.env.scope.kind=.function
 glob:X.env.globals=mainGlobals
 blt:X.env.builtins=builtinsNs
 above:X.s₀.heap.objs.size<=X.env.locals
 inj:∀ x y c,X.env.cells.lookup x=some c->X.env.cells.lookup y=some c->x=y
 has:∀ x,(X.env.kindOf x=some .cell\/X.env.kindOf x=some .free)->∃ c,X.env.cells.lookup x=some c
 cab:∀ x c,X.fn x=true->X.env.cells.lookup x=some c->X.s₀.heap.objs.size<=c
 hd:X.calm=true->X.A.handled=none
 frames:X.A.frames=some X.stack
 stk:X.stack=X.outer\/(X.stack=X.env::X.outer/\X.env.frame=some X.env.locals)
 exf:∀ b∈X.ex,b≠X.env.locals/\∀ x c,X.env.cells.lookup x=some c->c≠b
 bs:∀ b o,X.base.get? b=some o->X.s₀.heap.get? b=some o/\X.H₀ b=none
 bsz:X.base.objs.size<=X.s₀.heap.objs.size
 noex:∀ b o,X.base.get? b=some o->b∉X.ex
 exfs:∀ b∈X.ex,b∉X.fs
 funs:X.s₀.heap.FunFrames X.base X.outer
 frf:∀ b∈X.fs,X.H₀ b=none
structure Inv (X:Cx)(pins:List (Addr×Obj))(U:List (Option V))(H:Hp)(s:Shared):Prop where
 ok:X.Ok
 os:s.os=X.s₀.os
 bare:AllBare s.gens
 base:Un X.fs X.ex X.H₀ H X.s₀.heap s.heap
 loc:∃ m,s.heap.Ns X.env.locals m/\∀ (i:Nat) (x:Str) (v:V),X.N[i]?=some x->U[i]?=some (some v)->Vis X.env.scope x->∃ u,RelV v u/\Look X.env s.heap m x u
 cell:∀ x c,X.env.cells.lookup x=some c->∃ v,s.heap.IsCell c v
 free:H X.env.locals=none
 freeC:∀ x c,X.env.cells.lookup x=some c->H c=none
 pin:∀ p∈X.pn++pins,s.heap.get? p.1=some p.2/\H p.1=none/\p.1≠X.env.locals/\p.1∉X.fs/\∀ v,p.2.data≠.cell v
 hok:HOk X.prog X.w H s.heap
 len:U.length=X.N.length
section
variable {X:Cx}{pins:List (Addr×Obj)}{U:List (Option V)}{H H':Hp}{s:Shared}{h':Heap}
theorem Cx.Ok.nofr (ok:X.Ok){b:Addr}{o:Obj}(e:X.base.get? b=some o):b∉X.fs:=fun hb=>by
 have:=(ok.funs.mem hb).1
 rw [e] at this;cases this
theorem Inv.bs (I:Inv X pins U H s):∀ b o,X.base.get? b=some o->s.heap.get? b=some o/\H b=none:=fun b o e =>
 ⟨I.base.keep b o (I.ok.bs b o e).1 (I.ok.bs b o e).2 (I.ok.nofr e) (I.ok.noex b o e),I.base.free b o (I.ok.bs b o e).1 (I.ok.bs b o e).2 (I.ok.noex b o e)⟩
theorem Inv.bk (I:Inv X pins U H s):∀ b o,X.base.get? b=some o->s.heap.get? b=some o:=fun b o e=>(I.bs b o e).1
theorem Inv.mod (I:Inv X pins U H s):Mod X.K X.mg X.base:=I.ok.mod
theorem Inv.kIn (I:Inv X pins U H s):X.K.In s.heap:=I.ok.mod.kin.keeps I.bk
theorem Inv.lt (I:Inv X pins U H s):X.env.locals<s.heap.objs.size:=let ⟨_,hn,_⟩:=I.loc;hn.lt
theorem Inv.sz (I:Inv X pins U H s):X.s₀.heap.objs.size<=s.heap.objs.size:=Nat.le_trans I.ok.above (Nat.le_of_lt I.lt)
theorem Inv.nofs (I:Inv X pins U H s){a:Addr}(h:s.heap.objs.size<=a):a∉X.fs:=fun hb=>by
 obtain⟨_,o,ho,_⟩:=I.ok.funs.mem hb
 exact absurd (Nat.lt_of_lt_of_le (Heap.lt_size ho) (Nat.le_trans I.sz h)) (Nat.lt_irrefl _)
theorem Inv.cne (I:Inv X pins U H s):∀ x c,X.env.cells.lookup x=some c->c≠X.env.locals:=fun x c e z=>by
 obtain⟨v,o,ho,hd⟩:=I.cell x c e
 obtain⟨m,⟨o',es,ep,ho',hd',_⟩,_⟩:=I.loc
 rw [z,ho'] at ho;cases ho;rw [hd'] at hd;cases hd
theorem Inv.funs (I:Inv X pins U H s):s.heap.FunFrames X.base X.outer:=by
 have all:∀ (l:List Env),(∀ b∈frs l,b∈X.fs)->X.s₀.heap.FunFrames X.base l->s.heap.FunFrames X.base l:=by
  intro l
  induction l with
  | nil=>intro _ _;trivial
  | cons env r ih =>
   intro hs hl
   obtain⟨hk,⟨L,o,hf,hn,ho,hd⟩,hr⟩:=hl
   have hL:L∈X.fs:=hs L (by unfold frs;rw [List.filterMap_cons,hf];exact List.mem_cons_self)
   obtain⟨sl,e⟩:=I.base.slot L o ho (I.ok.frf L hL) hL fun z=>I.ok.exfs L z hL
   exact⟨hk,⟨L,_,hf,hn,e,hd⟩,ih (fun b hb=>hs b (by unfold frs;rw [List.filterMap_cons,hf];exact List.mem_cons_of_mem _ hb)) hr⟩
 exact all X.outer (fun _ hb=>hb) I.ok.funs
theorem Inv.stack (I:Inv X pins U H s):s.heap.FunFrames X.base X.stack:=by
 rcases I.ok.stk with e | ⟨e,hf⟩
 ·rw [e];exact I.funs
 ·rw [e]
  obtain⟨m,hn,_⟩:=I.loc
  refine .cons (by rw [I.ok.kind];decide) hf hn ?_ I.funs
  exact Heap.get?_none_of_le (Nat.le_trans I.ok.bsz I.ok.above)
theorem Inv.stkSub (I:Inv X pins U H s):∀ b∈frs X.stack,b∈X.env.locals::X.fs:=fun b hb=>by
 rcases I.ok.stk with e | ⟨e,hf⟩
 ·rw [e] at hb;exact List.mem_cons_of_mem _ hb
 ·rw [e] at hb
  unfold frs at hb
  rw [List.filterMap_cons,hf] at hb
  exact hb
theorem Inv.stkFree (I:Inv X pins U H s):∀ b∈frs X.stack,H b=none:=fun b hb=>by
 rcases qh.mp (I.stkSub b hb) with e | hb
 ·rw [e];exact I.free
 ·obtain⟨_,o,ho,_⟩:=I.ok.funs.mem hb
  exact I.base.free b o ho (I.ok.frf b hb) fun z=>I.ok.exfs b z hb
theorem Inv.step {g':Array GenState}{t':Nat}{d':Drawn}{ch:List Addr}(I:Inv X pins U H s)
  (hch:∀ b∈ch,(b∈X.ex\/X.s₀.heap.objs.size<=b)/\b≠X.env.locals/\(∀ x c,X.env.cells.lookup x=some c->c≠b)/\∀ p∈X.pn++pins,p.1≠b)
  (keep:∀ b o,b≠X.env.locals->b∉X.fs->b∉ch->s.heap.get? b=some o->H b=none->h'.get? b=some o)
  (slot:∀ b o,b≠X.env.locals->b∈X.fs->b∉ch->s.heap.get? b=some o->H b=none->∃ sl,h'.get? b=some { o with slots:=sl }) (free:∀ b o,b∉ch->s.heap.get? b=some o->H b=none->H' b=none)
  (there:∀ b o,b∉ch->s.heap.get? b=some o->∃ o',h'.get? b=some o')
  (tups:∀ b xs,H b=some (.tup xs)->H' b=some (.tup xs)) (frzs:∀ b o u,H b=some (.frz o u)->H' b=some (.frz o u)) (tbls:∀ b ps,H b=some (.tbl ps)->∃ more,H' b=some (.tbl (ps++more)))
  (ns:∀ m,s.heap.Ns X.env.locals m->h'.Ns X.env.locals m) (hok:HOk X.prog X.w H' h') (hg:AllBare g') :
  Inv X pins U H' { s with heap:=h',gens:=g',drawn:=d',toks:=t' }:=by
 have neL:∀ b o,X.s₀.heap.get? b=some o->b≠X.env.locals:=fun b o e=>Nat.ne_of_lt (Nat.lt_of_lt_of_le (Heap.lt_size e) I.ok.above)
 have neC:∀ b o,X.s₀.heap.get? b=some o->b∉X.ex->b∉ch:=fun b o e hx hb=>by
  rcases (hch b hb).1 with z | z
  ·exact hx z
  ·exact absurd (Nat.lt_of_lt_of_le (Heap.lt_size e) z) (Nat.lt_irrefl _)
 have cellK:∀ x c,X.env.cells.lookup x=some c->∀ v,s.heap.IsCell c v->h'.IsCell c v:=fun x c e v ⟨o,ho,hd⟩=>by
  have nch:c∉ch:=fun z=>(hch c z).2.2.1 x c e rfl
  by_cases hc:c∈X.fs
  ·obtain⟨sl,q⟩:=slot c o (I.cne x c e) hc nch ho (I.freeC x c e)
   exact⟨_,q,hd⟩
  ·exact⟨o,keep c o (I.cne x c e) hc nch ho (I.freeC x c e),hd⟩
 refine⟨I.ok,I.os,hg,⟨fun b o e n hb hx=>?_,fun b o e n hb hx=>?_,fun b o e n hx=>?_,fun b o e hx=>?_,fun b xs e=>tups b xs (I.base.tups b xs e),fun b o xs e=>frzs b o xs (I.base.frzs b o xs e),fun b ps e=>?_⟩,?_,fun x c e=>?_,?_,fun x c e=>?_,fun p hp=>?_,hok,I.len⟩
 ·exact keep b o (neL b o e) hb (neC b o e hx) (I.base.keep b o e n hb hx) (I.base.free b o e n hx)
 ·obtain⟨sl,e1⟩:=I.base.slot b o e n hb hx
  obtain⟨sl',e2⟩:=slot b _ (neL b o e) hb (neC b o e hx) e1 (I.base.free b o e n hx)
  exact⟨sl',e2⟩
 ·obtain⟨o',e1⟩:=I.base.there b o e hx
  exact free b o' (neC b o e hx) e1 (I.base.free b o e n hx)
 ·obtain⟨o',e1⟩:=I.base.there b o e hx
  exact there b o' (neC b o e hx) e1
 ·obtain⟨m1,e1⟩:=I.base.tbls b ps e
  obtain⟨m2,e2⟩:=tbls b _ e1
  exact⟨m1++m2,by rw [e2,Array.append_assoc]⟩
 ·obtain⟨m,hn,hl⟩:=I.loc
  refine⟨m,ns m hn,fun i x v e1 e2 e3=>?_⟩
  obtain⟨u,r,l⟩:=hl i x v e1 e2 e3
  refine⟨u,r,?_⟩
  rcases l with l | ⟨k,c,e,z⟩
  ·exact .inl l
  ·exact .inr ⟨k,c,e,cellK x c e _ z⟩
 ·obtain⟨v,z⟩:=I.cell x c e
  exact⟨v,cellK x c e v z⟩
 ·obtain⟨m,⟨o,_,_,ho,_⟩,_⟩:=I.loc
  exact free _ o (fun z=>(hch _ z).2.1 rfl) ho I.free
 ·obtain⟨v,o,ho,hd⟩:=I.cell x c e
  exact free c o (fun z=>(hch c z).2.2.1 x c e rfl) ho (I.freeC x c e)
 ·obtain⟨e,n,ne,nf,d⟩:=I.pin p hp
  have nch:p.1∉ch:=fun z=>(hch p.1 z).2.2.2 p hp rfl
  exact⟨keep p.1 p.2 ne nf nch e n,free p.1 p.2 nch e n,ne,nf,d⟩
theorem Inv.un {t':Nat}(I:Inv X pins U H s)(u:Un X.fs [] H H' s.heap h')(hok:HOk X.prog X.w H' h'):Inv X pins U H' { s with heap:=h',toks:=t' }:=by
 obtain⟨m,⟨o,es,ep,ho,r⟩,_⟩:=id I.loc
 obtain⟨sl,hL⟩:=u.any ho I.free (by simp)
 exact I.step (g':=s.gens) (d':=s.drawn) (ch:=[]) (fun _ z=>nomatch z) (fun b o _ hb _ e n=>u.keep b o e n hb (by simp)) (fun b o _ hb _ e n=>u.slot b o e n hb (by simp)) (fun b o _ e n=>u.free b o e n (by simp)) (fun b o _ e=>u.there b o e (by simp)) u.tups u.frzs u.tbls (fun m' hm=>by
  obtain⟨o',es',ep',ho',r'⟩:=hm
  rw [ho] at ho';cases ho'
  exact⟨_,es',ep',hL,r'⟩) hok I.bare
theorem Inv.call {g':Array GenState}{t':Nat}{d':Drawn}{ch:List Addr}(I:Inv X pins U H s)(u:Un (frs X.stack) ch H H' s.heap h')(hok:HOk X.prog X.w H' h')(hg:AllBare g')
  (hch:∀ b∈ch,(b∈X.ex\/X.s₀.heap.objs.size<=b)/\b≠X.env.locals/\(∀ x c,X.env.cells.lookup x=some c->c≠b)/\∀ p∈X.pn++pins,p.1≠b) :
  Inv X pins U H' { s with heap:=h',gens:=g',drawn:=d',toks:=t' }:=by
 obtain⟨m,⟨o,es,ep,ho,r⟩,_⟩:=id I.loc
 obtain⟨sl,hL⟩:=u.any ho I.free fun z=>(hch _ z).2.1 rfl
 exact I.step (ch:=ch) hch (fun b o hL hb hc e n=>u.keep b o e n (fun z=>(qh.mp (I.stkSub b z)).elim hL hb) hc) (fun b o _ _ hc e n=>u.any e n hc) (fun b o hc e n=>u.free b o e n hc) (fun b o hc e=>u.there b o e hc) u.tups u.frzs u.tbls (fun m' hm=>by
  obtain⟨o',es',ep',ho',r'⟩:=hm
  rw [ho] at ho';cases ho'
  exact⟨_,es',ep',hL,r'⟩) hok hg
theorem Inv.turned {t':Nat}{it:Addr}(I:Inv X pins U H s)(k:∀ b o,b≠it->s.heap.get? b=some o->h'.get? b=some o)(hn:H it=none)(hL:it≠X.env.locals)
  (h1:it∈X.ex\/X.s₀.heap.objs.size<=it) (h2:∀ x c,X.env.cells.lookup x=some c->c≠it) (h3:∀ p∈X.pn++pins,p.1≠it):Inv X pins U H { s with heap:=h',toks:=t' }:=by
 have nit:∀ b u,H b=some u->b≠it:=fun b u e z=>by rw [z,hn] at e;cases e
 refine I.step (g':=s.gens) (d':=s.drawn) (ch:=[it]) (fun b hb=>?_) (fun b o _ _ hc e _=>k b o (fun z=>hc (by simp [z])) e) (fun b o _ _ hc e _=>⟨o.slots,k b o (fun z=>hc (by simp [z])) e⟩) (fun _ _ _ _ n=>n)
  (fun b o hc e=>⟨o,k b o (fun z=>hc (by simp [z])) e⟩) (fun _ _ e=>e) (fun _ _ _ e=>e) (fun b ps e=>⟨#[],by rw [e];simp⟩) (fun m hm=>?_) (fun b u e=>?_) I.bare
 ·have e:b=it:=by simpa using hb
  subst e
  exact⟨h1,hL,h2,h3⟩
 ·obtain⟨o,es,ep,ho,r⟩:=hm
  exact⟨o,es,ep,k _ o (Ne.symm hL) ho,r⟩
 ·refine (I.hok b u e).stay (fun c v hc q=>k c v ?_ q) (fun _ q=>q) fun _ _ q=>q
  rcases hc with z | z
  ·rw [z];exact nit b u e
  ·exact nit c _ z
theorem Inv.tok (I:Inv X pins U H s)(t:Nat):Inv X pins U H { s with toks:=t }:=I.un (h':=s.heap) (t':=t) Un.refl I.hok
theorem Inv.kept {t':Nat}(I:Inv X pins U H s)(k:∀ b u,s.heap.get? b=some u->h'.get? b=some u):Inv X pins U H { s with heap:=h',toks:=t' }:=I.un (Un.kept k) (I.hok.kept k)
theorem Inv.laid {a:Addr}{o:HO}{t':Nat}(I:Inv X pins U H s)(k:∀ b u,s.heap.get? b=some u->h'.get? b=some u)(hp:s.heap.objs.size<=a)(new:zbj X.prog X.w (upd H a o) h' a o) :
  Inv X pins U (upd H a o) { s with heap:=h',toks:=t' }:=I.un (Un.laid k hp (I.hok.fresh hp)) (I.hok.laid k hp new)
theorem Inv.write {x e:Addr}{o:HO}{t':Nat}(I:Inv X pins U H s)(mu:Mut (H x))(he:e=x\/H e=some (.own x))(k:∀ b u,b≠e->s.heap.get? b=some u->h'.get? b=some u)(heo:∃ u,h'.get? e=some u)
  (new:zbj X.prog X.w (upd H x o) h' x o):Inv X pins U (upd H x o) { s with heap:=h',toks:=t' }:=I.un (Un.write mu he k heo) (I.hok.write mu he k heo new)
theorem Inv.weak {σ':List (Option V)}(I:Inv X pins U H s)(hl:σ'.length=U.length)(w:∀ (i:Nat) v,σ'[i]?=some (some v)->U[i]?=some (some v)):Inv X pins σ' H s :=
 ⟨I.ok,I.os,I.bare,I.base,let ⟨m,hn,hl'⟩:=I.loc;⟨m,hn,fun i x v e1 e2 e3=>hl' i x v e1 (w i v e2) e3⟩,I.cell,I.free,I.freeC,I.pin,I.hok,hl.trans I.len⟩
theorem Inv.pins_of {pins':List (Addr×Obj)}(I:Inv X pins U H s)(h:∀ p∈pins',s.heap.get? p.1=some p.2/\H p.1=none/\p.1≠X.env.locals/\p.1∉X.fs/\∀ v,p.2.data≠.cell v):Inv X pins' U H s :=
 ⟨I.ok,I.os,I.bare,I.base,I.loc,I.cell,I.free,I.freeC,fun p hp=>(List.mem_append.mp hp).elim (fun z=>I.pin p (List.mem_append_left _ z)) (h p),I.hok,I.len⟩
theorem zlt {N:List Str}(hN:N.Nodup){i j:Nat}{x:Str}(a:N[i]?=some x)(b:N[j]?=some x):i=j:=by
 obtain⟨h1,e1⟩:=List.getElem?_eq_some_iff.mp a
 obtain⟨h2,e2⟩:=List.getElem?_eq_some_iff.mp b
 exact (List.getElem_inj hN).mp (e1.trans e2.symm)
theorem zkM {M:Model}{A:Around}{E:Value->Shared->Prop}{i:Nat}{x:Str}{v:V}{u:Value}{Q:Unit->Shared->Prop}(I:Inv X pins U H s)(hN:X.N.Nodup)(hi:X.N[i]?=some x)(hx:Loc X.env.scope x)(r:RelV v u)
  (h:∀ s',Inv X pins (U.set i (some v)) H s'->(∃ a,Heap.SameBut a s.heap s'.heap/\(a=X.env.locals\/X.env.cells.lookup x=some a))->Q () s') (hf:X.fn x=true\/X.env.scope.names.lookup x=some .local:=by first | exact .inl rfl | exact .inr rfl | assumption):wpAny M A (storeName X.env x u) Q E s:=by
 obtain⟨m,hn,hl⟩:=id I.loc
 have hcls:(X.env.scope.kind==.class||(X.env.scope.kind==.module&&X.env.locals != X.env.globals))=false:=by rw [I.ok.kind];rfl
 have hiσ:i<U.length:=by rw [I.len];exact (List.getElem?_eq_some_iff.mp hi).1
 have cne:=I.cne
 have tracked:∀ {a:Addr} {h':Heap},(∃ o,s.heap.get? a=some o/\H a=none)->Heap.SameBut a s.heap h'->HOk X.prog X.w H h':=fun {a h'} ha hs b ob e=>by
  obtain⟨_,_,hfree⟩:=ha
  refine (I.hok b ob e).stay (fun c w' hc q=>(hs.2 c ?_).trans q) (fun _ q=>q) fun _ _ q=>q
  rintro rfl
  rcases hc with rfl | hc
  ·rw [hfree] at e;cases e
  ·rw [hfree] at hc;cases hc
 rcases hx with hk | hk
 ·refine wpAny_storeName_local hk hn (fun h' hn' hs=>?_) hcls
  obtain⟨oL,_,_,hoL,_⟩:=id hn
  refine h _ ⟨I.ok,I.os,I.bare,⟨fun b o e n hb hx=>?_,fun b o e n hb hx=>?_,I.base.free,fun b o e hx=>?_,I.base.tups,I.base.frzs,I.base.tbls⟩,⟨_,hn',fun j y v' e1 e2 e3=>?_⟩,fun y c e=>?_,I.free,I.freeC,fun p hp=>?_,tracked ⟨oL,hoL,I.free⟩ hs,by simpa using I.len⟩ ⟨_,hs,.inl rfl⟩
  ·exact (hs.2 b (Nat.ne_of_lt (Nat.lt_of_lt_of_le (Heap.lt_size e) I.ok.above))).trans (I.base.keep b o e n hb hx)
  ·obtain⟨sl,e1⟩:=I.base.slot b o e n hb hx
   exact⟨sl,(hs.2 b (Nat.ne_of_lt (Nat.lt_of_lt_of_le (Heap.lt_size e) I.ok.above))).trans e1⟩
  ·obtain⟨o',e1⟩:=I.base.there b o e hx
   exact⟨o',(hs.2 b (Nat.ne_of_lt (Nat.lt_of_lt_of_le (Heap.lt_size e) I.ok.above))).trans e1⟩
  ·by_cases hj:j=i
   ·subst hj
    rw [hi] at e1;cases e1
    rw [List.getElem?_set_self hiσ] at e2
    cases e2
    exact⟨u,r,.inl ⟨hk,by simp⟩⟩
   ·rw [List.getElem?_set_ne (Ne.symm hj)] at e2
    obtain⟨u',r',q⟩:=hl j y v' e1 e2 e3
    refine⟨u',r',?_⟩
    rcases q with ⟨k,e⟩ | ⟨k,c,e,z⟩
    ·refine .inl ⟨k,?_⟩
     have:y≠x:=fun e=>hj (zlt hN e1 (e▸hi))
     simp [this,e]
    ·exact .inr ⟨k,c,e,z.sameBut hs (cne y c e)⟩
  ·obtain⟨w',z⟩:=I.cell y c e
   exact⟨w',z.sameBut hs (cne y c e)⟩
  ·obtain⟨e,n,ne,nf,d⟩:=I.pin p hp
   exact⟨(hs.2 p.1 ne).trans e,n,ne,nf,d⟩
 ·have hfn:X.fn x=true:=by
   rcases hf with z | z
   ·exact z
   ·rw [z] at hk;cases hk
  obtain⟨c,hc⟩:=I.ok.has x (.inl hk)
  obtain⟨w',z⟩:=I.cell x c hc
  refine wpAny_storeName_cell I.ok.kind hk hc z (fun h' hc' hs=>?_)
  obtain⟨oc,hoc,hocd⟩:=id z
  refine h { s with heap:=h' } ⟨I.ok,I.os,I.bare,⟨fun b o e n hb hx=>?_,fun b o e n hb hx=>?_,I.base.free,fun b o e hx=>?_,I.base.tups,I.base.frzs,I.base.tbls⟩,⟨m,hn.sameBut hs (Ne.symm (cne x c hc)),fun j y v' e1 e2 e3=>?_⟩,fun y c' e=>?_,I.free,I.freeC,fun p hp=>?_,tracked ⟨oc,hoc,I.freeC x c hc⟩ hs,by simpa using I.len⟩ ⟨c,hs,.inr hc⟩
  ·exact (hs.2 b (Nat.ne_of_lt (Nat.lt_of_lt_of_le (Heap.lt_size e) (I.ok.cab x c hfn hc)))).trans (I.base.keep b o e n hb hx)
  ·obtain⟨sl,e1⟩:=I.base.slot b o e n hb hx
   exact⟨sl,(hs.2 b (Nat.ne_of_lt (Nat.lt_of_lt_of_le (Heap.lt_size e) (I.ok.cab x c hfn hc)))).trans e1⟩
  ·obtain⟨o',e1⟩:=I.base.there b o e hx
   exact⟨o',(hs.2 b (Nat.ne_of_lt (Nat.lt_of_lt_of_le (Heap.lt_size e) (I.ok.cab x c hfn hc)))).trans e1⟩
  ·by_cases hj:j=i
   ·subst hj
    rw [hi] at e1;cases e1
    rw [List.getElem?_set_self hiσ] at e2
    cases e2
    exact⟨u,r,.inr ⟨.inl hk,c,hc,hc'⟩⟩
   ·rw [List.getElem?_set_ne (Ne.symm hj)] at e2
    obtain⟨u',r',q⟩:=hl j y v' e1 e2 e3
    refine⟨u',r',?_⟩
    rcases q with q | ⟨k,c',e,z'⟩
    ·exact .inl q
    ·refine .inr ⟨k,c',e,z'.sameBut hs ?_⟩
     rintro rfl
     exact hj (zlt hN e1 (I.ok.inj _ _ _ e hc▸hi))
  ·by_cases hcc:c'=c
   ·subst hcc;exact⟨_,hc'⟩
   ·obtain⟨w2,z2⟩:=I.cell y c' e
    exact⟨w2,z2.sameBut hs hcc⟩
  ·obtain⟨e,n,ne,nf,d⟩:=I.pin p hp
   refine⟨(hs.2 p.1 ?_).trans e,n,ne,nf,d⟩
   intro q
   rw [q,hoc] at e
   have q':oc=p.2:=Option.some.inj e
   exact d w' (by rw [<- q'];exact hocd)
theorem zfn {M:Model}{A:Around}{E:Value->Shared->Prop}{i:Nat}{x:Str}{v:V}{u:Value}{Q:Unit->Shared->Prop}(I:Inv X pins U H s)(hN:X.N.Nodup)(hi:X.N[i]?=some x)(hx:Loc X.env.scope x)(r:RelV v u)
  (h:∀ s',Inv X pins (U.set i (some v)) H s'->Q () s') (hf:X.fn x=true\/X.env.scope.names.lookup x=some .local:=by first | exact .inl rfl | exact .inr rfl | assumption):wpAny M A (storeName X.env x u) Q E s :=
 zkM I hN hi hx r (fun s' I' _=>h s' I') hf
theorem Inv.call' {s':Shared}{ch:List Addr}(I:Inv X pins U H s)(ho:s'.os=s.os)(u:Un (frs X.stack) ch H H' s.heap s'.heap)(hok:HOk X.prog X.w H' s'.heap)(hg:AllBare s'.gens)
  (hch:∀ b∈ch,(b∈X.ex\/X.s₀.heap.objs.size<=b)/\b≠X.env.locals/\(∀ x c,X.env.cells.lookup x=some c->c≠b)/\∀ p∈X.pn++pins,p.1≠b):Inv X pins U H' s':=by
 obtain⟨h',g',d',t',o'⟩:=s'
 have e:o'=s.os:=ho
 subst e
 exact I.call (g':=g') (t':=t') (d':=d') u hok hg hch
end
abbrev XK:=Value->Option Addr->Hp->Prop
abbrev St:=List (Option V)
abbrev VK:=V->Hp->Prop
abbrev TE:=St->Hp->VK->Prop
abbrev TT:=St->Hp->(Bool->Hp->Prop)->Prop
abbrev TA:=St->Hp->(List V->Hp->Prop)->Prop
structure Ends where
 nx:St->Hp->Prop
 rt:VK
 bk:St->Hp->Prop:=fun _ _=>False
 ct:St->Hp->Prop:=fun _ _=>False
abbrev TS:=Ends->St->Hp->Prop
def EP (X:Cx)(pins:List (Addr×Obj))(U:St)(Q:VK)(u:Value)(s':Shared):Prop:=∃ v H',Inv X pins U H' s'/\RelV v u/\Q v H'
def TP (X:Cx)(pins:List (Addr×Obj))(U:St)(Q:Bool->Hp->Prop)(b:Bool)(s':Shared):Prop:=∃ H',Inv X pins U H' s'/\Q b H'
def AP (X:Cx)(pins:List (Addr×Obj))(U:St)(Q:List V->Hp->Prop)(us:List Value)(s':Shared):Prop:=∃ vs H',Inv X pins U H' s'/\Vals vs us/\Q vs H'
def SP (X:Cx)(pins:List (Addr×Obj))(D:Ends)(f:Flow)(s':Shared):Prop :=
 match f with
 | .next=>∃ σ' H',Inv X pins σ' H' s'/\D.nx σ' H'
 | .brk=>∃ σ' H',Inv X pins σ' H' s'/\D.bk σ' H'
 | .cont=>∃ σ' H',Inv X pins σ' H' s'/\D.ct σ' H'
 | .ret u=>∃ v σ' H',Inv X pins σ' H' s'/\RelV v u/\D.rt v H'
def PE (X:Cx)(e:Expr)(t:TE):Prop :=
 ∀ (pins:List (Addr×Obj)) (s:Shared) (U:St) (H:Hp) (Q:VK),Inv X pins U H s->t U H Q->wpAny (model X.prog X.w) X.A (eval e X.env) (EP X pins U Q) X.xe s
def PT (X:Cx)(e:Expr)(t:TT):Prop :=
 ∀ (pins:List (Addr×Obj)) (s:Shared) (U:St) (H:Hp) (Q:Bool->Hp->Prop),Inv X pins U H s->t U H Q->wpAny (model X.prog X.w) X.A (isTrue e X.env (eval e X.env)) (TP X pins U Q) X.xe s
def PW (X:Cx)(e:Expr)(t:TT):Prop :=
 ∀ (whole:Sem Value) (pins:List (Addr×Obj)) (s:Shared) (U:St) (H:Hp) (Q:Bool->Hp->Prop),Inv X pins U H s->t U H Q->wpAny (model X.prog X.w) X.A (isTrue e X.env whole) (TP X pins U Q) X.xe s
def PA (X:Cx)(es:List Expr)(t:TA):Prop :=
 ∀ (pos:Pos) (pins:List (Addr×Obj)) (s:Shared) (U:St) (H:Hp) (Q:List V->Hp->Prop),Inv X pins U H s->t U H Q->wpAny (model X.prog X.w) X.A (spliced (backTo pos (starEach es X.env))) (AP X pins U Q) X.xe s
def PS (X:Cx)(st:Stmt)(t:TS):Prop :=
 ∀ (pins:List (Addr×Obj)) (s:Shared) (U:St) (H:Hp) (D:Ends),Inv X pins U H s->t D U H->wpAny (model X.prog X.w) X.A (exec st X.env) (SP X pins D) X.xe s
def PSs (X:Cx)(st:List Stmt)(t:TS):Prop :=
 ∀ (pins:List (Addr×Obj)) (s:Shared) (U:St) (H:Hp) (D:Ends),Inv X pins U H s->t D U H->wpAny (model X.prog X.w) X.A (execs st X.env) (SP X pins D) X.xe s
theorem thn {α:Type}{t:Sem α}{Q Q':α->Shared->Prop}{M:Model}{A:Around}{E:Value->Shared->Prop}{s:Shared}(h:wpAny M A t Q E s)(hQ:∀ a s,Q a s->Q' a s):wpAny M A t Q' E s:=wpAny_mono h hQ fun _ _ x=>x
section
variable {X:Cx}
def zt4 (i:Nat):TE:=fun U H Q=>∃ v,U[i]?=some (some v)/\Q v H
def tC (v:V):TE:=fun _ H Q=>Q v H
theorem zvD {i:Nat}{x:Str}{pos:Pos}(hN:X.N[i]?=some x)(hv:Vis X.env.scope x)(hd:(x==("__debug__":Str))=false:=by decide)(hcd:(x==("__classdict__":Str))=false:=by decide):PE X (.Name x pos) (zt4 i):=by
 intro pins s U H Q I h
 obtain⟨v,e,h⟩:=h
 obtain⟨m,hn,hl⟩:=I.loc
 obtain⟨u,r,l⟩:=hl i x v hN e hv
 have fin:EP X pins U Q u s:=⟨v,H,I,r,h⟩
 rcases l with ⟨hk,hm⟩ | ⟨hk,c,hc,hcell⟩
 ·exact wpAny_Name (wpAny_loadName_local I.ok.kind hk hn hm fin) hd
 ·rcases hk with hk | hk
  ·exact wpAny_Name (wpAny_loadName_cell I.ok.kind hk hc hcell fin) hd
  ·exact wpAny_Name (wpAny_loadName_free I.ok.kind hk hc hcell fin hcd) hd
theorem zlo {i j pos}:PE X (.Constant (.int i) j pos) (tC (.int i)):=fun _ _ _ H _ I h=>wpAny_Constant_int ⟨.int i,H,I.tok _,⟨_,rfl⟩,h⟩
theorem zwN {b j pos}:PE X (.Constant (.bool b) j pos) (tC (.bl b)):=fun _ _ _ H _ I h=>Constant_bool ⟨.bl b,H,I,rfl,h⟩
theorem zuI {j pos}:PE X (.Constant .none j pos) (tC .non):=fun _ _ _ H _ I h=>Constant_none ⟨.non,H,I,rfl,h⟩
theorem zvV {x j pos}:PE X (.Constant (.str x) j pos) (tC (.str x)):=fun _ _ _ H _ I h=>Calls.Constant_str ⟨.str x,H,I.tok _,⟨_,rfl⟩,h⟩
def Gl (X:Cx)(x:Str):Prop:=X.env.kindOf x=some .globalImplicit
theorem zgh {E:Value->Shared->Prop}{pins:List (Addr×Obj)}{s:Shared}{U:St}{H:Hp}{x:Str}{u:Value}{pos:Pos}{Q:Value->Shared->Prop}(I:Inv X pins U H s)(hg:Gl X x)(hm:X.mg x=some u)(h:Q u s)
  (hd:(x==("__debug__":Str))=false:=by decide):wpAny (model X.prog X.w) X.A (eval (.Name x pos) X.env) Q E s :=
 Calls.Name_function_global I.ok.kind hg (Calls.loadGlobal_global (by rw [I.ok.glob];exact I.mod.glob.keeps I.bk) hm h) hd
theorem zc2 {E:Value->Shared->Prop}{pins:List (Addr×Obj)}{s:Shared}{U:St}{H:Hp}{x:Str}{u:Value}{pos:Pos}{Q:Value->Shared->Prop}(I:Inv X pins U H s)(hg:Gl X x)(hm:X.mg x=none)(hv:bootBuiltins x=some u)(h:Q u s)
  (hn:x≠"__name__":=by decide) (hd:(x==("__debug__":Str))=false:=by decide):wpAny (model X.prog X.w) X.A (eval (.Name x pos) X.env) Q E s:=by
 obtain⟨mb,h1,h2⟩:=I.mod.blt
 exact Calls.Name_function_global I.ok.kind hg (Calls.loadGlobal_builtin (by rw [I.ok.glob];exact I.mod.glob.keeps I.bk) hm (by rw [I.ok.blt];exact h1.keeps I.bk) ((h2 x hn).trans hv) h) hd
theorem znp {x:Str}{v:V}{u:Value}{pos:Pos}(hg:Gl X x)(hm:X.mg x=some u)(r:RelV v u)(hd:(x==("__debug__":Str))=false:=by decide):PE X (.Name x pos) (tC v) :=
 fun _ _ _ H _ I h=>zgh I hg hm ⟨v,H,I,r,h⟩ hd
theorem ztV {x:Str}{v:V}{u:Value}{pos:Pos}(hg:Gl X x)(hm:X.mg x=none)(hv:bootBuiltins x=some u)(r:RelV v u)(hn:x≠"__name__":=by decide)(hd:(x==("__debug__":Str))=false:=by decide):PE X (.Name x pos) (tC v) :=
 fun _ _ _ H _ I h=>zc2 I hg hm hv ⟨v,H,I,r,h⟩ hn hd
variable {a b:Expr}{ta tb:TE}{pos:Pos}
def tB (t:TE):TT:=fun U H Q=>t U H fun x H1=>∃ c,x=.bl c/\Q c H1
theorem zuz {e:Expr}{t:TE}(h:PE X e t)(he:∀ whole,isTrue e X.env whole=(do let v <- whole;standAt e.pos;holding [v] (truthy v)):=by intro _;rfl):PT X e (tB t):=by
 intro pins s U H Q I hw
 refine isTrue_plain (thn (h pins s U H _ I hw) fun v s1 ⟨x,H1,I1,r1,q1⟩=>?_) (he _)
 obtain⟨d,rfl,q⟩:=q1
 cases r1
 exact wpAny_truthy_bool ⟨H1,I1,q⟩
variable {tA tB':TT}{rest:List Expr}
def zx7 (t u:TT):TT:=fun U H Q=>t U H fun c H1=>if c=true then u U H1 Q else Q false H1
def tOr (t u:TT):TT:=fun U H Q=>t U H fun c H1=>if c=true then Q true H1 else u U H1 Q
def zxE (t:TT):TT:=fun U H Q=>t U H fun c H1=>Q (!c) H1
theorem ztj (ha:PT X a tA):PW X (.BoolOp .And [a] pos) tA:=by
 intro wh pins s U H Q I h
 refine isTrue_and (thn (ha pins s U H Q I h) fun c s1 e=>?_)
 cases c with
 | true=>exact isTrue_and_nil e
 | false=>exact e
theorem zve (ha:PT X a tA):PW X (.BoolOp .Or [a] pos) tA:=by
 intro wh pins s U H Q I h
 refine isTrue_or (thn (ha pins s U H Q I h) fun c s1 e=>?_)
 cases c with
 | false=>exact isTrue_or_nil e
 | true=>exact e
theorem zu8 (ha:PT X a tA)(hb:PW X (.BoolOp .And (b::rest) pos) tB'):PW X (.BoolOp .And (a::b::rest) pos) (zx7 tA tB'):=by
 intro wh pins s U H Q I h
 refine isTrue_and (thn (ha pins s U H _ I h) fun c s1 ⟨H1,I1,q1⟩=>?_)
 cases c with
 | true=>exact hb wh pins s1 U H1 Q I1 q1
 | false=>exact⟨H1,I1,q1⟩
theorem zwl (ha:PT X a tA)(hb:PW X (.BoolOp .Or (b::rest) pos) tB'):PW X (.BoolOp .Or (a::b::rest) pos) (tOr tA tB'):=by
 intro wh pins s U H Q I h
 refine isTrue_or (thn (ha pins s U H _ I h) fun c s1 ⟨H1,I1,q1⟩=>?_)
 cases c with
 | true=>exact⟨H1,I1,q1⟩
 | false=>exact hb wh pins s1 U H1 Q I1 q1
theorem zvm (ha:PT X a tA):PT X (.UnaryOp .Not a pos) (zxE tA):=by
 intro pins s U H Q I h
 exact isTrue_not (ha pins s U H (fun c H1=>Q (!c) H1) I h)
def zwj (ta tb:TE):TE:=fun U H Q=>ta U H fun x H1=>∃ c,x=.bl c/\if c=true then tb U H1 Q else Q (.bl false) H1
def zx2 (ta tb:TE):TE:=fun U H Q=>ta U H fun x H1=>∃ c,x=.bl c/\if c=true then Q (.bl true) H1 else tb U H1 Q
def zwU (ta:TE):TE:=fun U H Q=>ta U H fun x H1=>∃ c,x=.bl c/\Q (.bl (!c)) H1
theorem zvW {op}{t:TE}(h:PE X a t):PE X (.BoolOp op [a] pos) t:=fun pins s U H Q I hw=>BoolOp_one (h pins s U H Q I hw)
theorem zuh (ha:PE X a ta)(hb:PE X (.BoolOp .And (b::rest) pos) tb):PE X (.BoolOp .And (a::b::rest) pos) (zwj ta tb):=by
 intro pins s U H Q I h
 refine BoolOp_and (thn (ha pins s U H _ I h) fun v s1 ⟨x,H1,I1,r1,q1⟩=>?_)
 obtain⟨c,rfl,q1⟩:=q1
 cases r1
 refine wpAny_truthy_bool ?_
 cases c with
 | true=>exact hb pins s1 U H1 Q I1 q1
 | false=>exact⟨.bl false,H1,I1,rfl,q1⟩
theorem zwn (ha:PE X a ta)(hb:PE X (.BoolOp .Or (b::rest) pos) tb):PE X (.BoolOp .Or (a::b::rest) pos) (zx2 ta tb):=by
 intro pins s U H Q I h
 refine BoolOp_or (thn (ha pins s U H _ I h) fun v s1 ⟨x,H1,I1,r1,q1⟩=>?_)
 obtain⟨c,rfl,q1⟩:=q1
 cases r1
 refine wpAny_truthy_bool ?_
 cases c with
 | false=>exact hb pins s1 U H1 Q I1 q1
 | true=>exact⟨.bl true,H1,I1,rfl,q1⟩
theorem zvw (ha:PE X a ta):PE X (.UnaryOp .Not a pos) (zwU ta):=by
 intro pins s U H Q I h
 refine UnaryOp_ (thn (ha pins s U H _ I h) fun v s1 ⟨x,H1,I1,r1,q1⟩=>?_)
 obtain⟨c,rfl,q1⟩:=q1
 cases r1
 exact not_of (wpAny_truthy_bool ⟨.bl (!c),H1,I1,rfl,q1⟩)
end
def SqL (K:PySem.W.Frag)(H:Hp)(a:Addr)(xs:List V):Prop :=
 Rd H a (.lst xs) \/
  ∃ (o:Obj) (its:Array Value) (n:Nat),K.lookup a=some o/\o.cls=.type "list"/\o.dict=none/\o.data=.seq its n/\its.size<=sizeLine/\Vals xs its.toList
def SqT (K:PySem.W.Frag)(H:Hp)(a:Addr)(xs:List V):Prop :=
 Rd H a (.tup xs) \/
  ∃ (o:Obj) (its:Array Value) (n:Nat),K.lookup a=some o/\o.cls=.type "tuple"/\o.data=.seq its n/\its.size<=sizeLine/\Vals xs its.toList
def zx6:Value->Option V
 | .none=>some .non
 | .bool b=>some (.bl b)
 | .int i _=>some (.int i)
 | .str x _=>some (.str x)
 | .bytes b _=>some (.byt b)
 | .float b _=>some (.flt b)
 | .ref a=>some (.ref a)
 | .type n=>some (.ty n)
 | _=>none
theorem RelV.abs {x:V}{u:Value}(r:RelV x u):zx6 u=some x:=by
 cases x with
 | non=>cases r;rfl
 | bl _=>cases r;rfl
 | int _=>obtain⟨t,rfl⟩:=r;rfl
 | str _=>obtain⟨t,rfl⟩:=r;rfl
 | byt _=>obtain⟨t,rfl⟩:=r;rfl
 | flt _=>obtain⟨t,rfl⟩:=r;rfl
 | ref _=>cases r;rfl
 | ty _=>cases r;rfl
theorem RelV.inj {x y:V}{u:Value}(r:RelV x u)(q:RelV y u):x=y:=Option.some.inj (r.abs.symm.trans q.abs)
theorem Vals.inj:∀ {xs ys:List V} {us:List Value},Vals xs us->Vals ys us->xs=ys
 | _,_,_,.nil,.nil=>rfl
 | _,_,_,.cons r t,.cons r' t'=>by rw [r.inj r',Vals.inj t t']
section
variable {X:Cx}{pins:List (Addr×Obj)}{U:St}{H:Hp}{s:Shared}{a:Addr}{xs ys:List V}
theorem SqL.of {K:PySem.W.Frag}(h:H a=some (.lst xs)):SqL K H a xs:=.inl (.inl h)
theorem SqT.of {K:PySem.W.Frag}(h:H a=some (.tup xs)):SqT K H a xs:=.inl (.inl h)
theorem Inv.list (I:Inv X pins U H s)(h:SqL X.K H a xs):∃ its:List Value,Vals xs its/\PlainL s.heap a its.toArray/\xs.length<=sizeLine:=by
 rcases h with h | ⟨o,its,n,hk,hc,hd,hs,hz,r⟩
 ·obtain⟨z,its,n,r,e⟩:=h.ok I.hok
  exact⟨its,r,⟨_,n,e,rfl,rfl,rfl⟩,z⟩
 ·refine⟨its.toList,r,⟨o,n,I.kIn a o hk,hc,hd,by simpa using hs⟩,?_⟩
  have e:=r.length
  simp only [Array.length_toList] at e
  omega
theorem Inv.tuple (I:Inv X pins U H s)(h:SqT X.K H a xs):∃ its:List Value,Vals xs its/\IsTup s.heap a its.toArray/\xs.length<=sizeLine:=by
 rcases h with h | ⟨o,its,n,hk,hc,hs,hz,r⟩
 ·obtain⟨z,its,r,p⟩:=h.ok I.hok
  exact⟨its,r,p,z⟩
 ·refine⟨its.toList,r,⟨o,I.kIn a o hk,hc,n,by simpa using hs⟩,?_⟩
  have e:=r.length
  simp only [Array.length_toList] at e
  omega
theorem Inv.list_inj (I:Inv X pins U H s)(h:SqL X.K H a xs)(h':SqL X.K H a ys):xs=ys:=by
 obtain⟨its,r,⟨o,n,e,_,_,d⟩,_⟩:=I.list h
 obtain⟨its',r',⟨o',n',e',_,_,d'⟩,_⟩:=I.list h'
 rw [e] at e';cases e'
 rw [d] at d'
 injection d' with d1 _
 have:its=its':=by simpa using congrArg Array.toList d1
 subst this
 exact r.inj r'
theorem Inv.tuple_inj (I:Inv X pins U H s)(h:SqT X.K H a xs)(h':SqT X.K H a ys):xs=ys:=by
 obtain⟨its,r,⟨o,e,_,n,d⟩,_⟩:=I.tuple h
 obtain⟨its',r',⟨o',e',_,n',d'⟩,_⟩:=I.tuple h'
 rw [e] at e';cases e'
 rw [d] at d'
 injection d' with d1 _
 have:its=its':=by simpa using congrArg Array.toList d1
 subst this
 exact r.inj r'
end
abbrev Cx.wish (X:Cx)(E:Value->Shared->Prop):Cx:={ X with xe:=E }
abbrev Cx.nox (X:Cx):Cx:=X.wish fun _ _=>False
theorem Cx.Ok.wish {X:Cx}(ok:X.Ok)(E:Value->Shared->Prop):(X.wish E).Ok :=
 ⟨ok.mod,ok.kind,ok.glob,ok.blt,ok.above,ok.inj,ok.has,ok.cab,ok.hd,ok.frames,ok.stk,ok.exf,ok.bs,ok.bsz,ok.noex,ok.exfs,ok.funs,ok.frf⟩
theorem Cx.Ok.unwish {X:Cx}{E:Value->Shared->Prop}(ok:(X.wish E).Ok):X.Ok :=
 ⟨ok.mod,ok.kind,ok.glob,ok.blt,ok.above,ok.inj,ok.has,ok.cab,ok.hd,ok.frames,ok.stk,ok.exf,ok.bs,ok.bsz,ok.noex,ok.exfs,ok.funs,ok.frf⟩
section
variable {X:Cx}{pins:List (Addr×Obj)}{U:St}{H:Hp}{s:Shared}{E:Value->Shared->Prop}
theorem Inv.wish (I:Inv X pins U H s)(E:Value->Shared->Prop):Inv (X.wish E) pins U H s:=⟨I.ok.wish E,I.os,I.bare,I.base,I.loc,I.cell,I.free,I.freeC,I.pin,I.hok,I.len⟩
theorem Inv.unwish (I:Inv (X.wish E) pins U H s):Inv X pins U H s:=⟨I.ok.unwish,I.os,I.bare,I.base,I.loc,I.cell,I.free,I.freeC,I.pin,I.hok,I.len⟩
theorem SP.unwish {D:Ends}{f:Flow}{s':Shared}(h:SP (X.wish E) pins D f s'):SP X pins D f s':=by
 cases f with
 | next=>obtain⟨σ',H',I,q⟩:=h;exact⟨σ',H',I.unwish,q⟩
 | brk=>obtain⟨σ',H',I,q⟩:=h;exact⟨σ',H',I.unwish,q⟩
 | cont=>obtain⟨σ',H',I,q⟩:=h;exact⟨σ',H',I.unwish,q⟩
 | ret u=>obtain⟨v,σ',H',I,r,q⟩:=h;exact⟨v,σ',H',I.unwish,r,q⟩
theorem PSs.nox {st:List Stmt}{t:TS}(h:PSs X.nox st t):PSs X st t:=fun pins s U H D I hw =>
 wpAny_mono (h pins s U H D (I.wish _) hw) (fun _ _ q=>q.unwish) fun _ _ z=>False.elim z
end
section
variable {X:Cx}{st:Stmt}{rest:List Stmt}{t u:TS}{e:Expr}{te:TE}{pos:Pos}
def zwB:TS:=fun D U H=>D.nx U H
def zxH (t u:TS):TS:=fun D U H=>t { D with nx:=u D } U H
theorem ztN:PSs X [] zwB:=fun _ _ U H _ I h=>wpAny_execs_nil ⟨U,H,I,h⟩
theorem zrq (h1:PS X st t)(h2:PSs X rest u):PSs X (st::rest) (zxH t u):=by
 intro pins s U H D I h
 refine wpAny_execs_cons (thn (h1 pins s U H { D with nx:=u D } I h) fun f s1 q=>?_)
 cases f with
 | next =>
  obtain⟨σ',H',I',q⟩:=q
  exact h2 pins s1 σ' H' D I' q
 | ret v=>exact q
 | brk=>exact q
 | cont=>exact q
theorem ztZ (h1:PS X st t):PSs X [st] t:=by
 intro pins s U H D I h
 refine wpAny_execs_cons (thn (h1 pins s U H D I h) fun f s1 q=>?_)
 cases f with
 | next=>exact wpAny_execs_nil q
 | ret v=>exact q
 | brk=>exact q
 | cont=>exact q
theorem Inv.quiet {pins:List (Addr×Obj)}{U:St}{H:Hp}{s:Shared}(I:Inv X pins U H s):interactive X.env=false:=by simp [interactive,I.ok.kind]
def zxb (te:TE):TS:=fun D U H=>te U H fun _ H1=>D.nx U H1
theorem zsO (he:PE X e te)(hs:swapsWith e none pos.line X.env=pure false:=by rfl):PS X (.Expr e pos) (zxb te):=by
 intro pins s U H D I h
 exact wpAny_Expr_any (thn (he pins s U H _ I h) fun v s1 ⟨x,H1,I1,r1,q1⟩=>⟨U,H1,I1,q1⟩) I.quiet hs
def zxR (te:TE):TS:=fun D U H=>te U H D.rt
theorem zt6 (he:PE X e te):PS X (.Return (some e) pos) (zxR te):=by
 intro pins s U H D I h
 exact wpAny_Return_some (thn (he pins s U H _ I h) fun v s1 ⟨x,H1,I1,r1,q1⟩=>⟨x,U,H1,I1,r1,q1⟩)
def zxK (c:TT)(t u:TS):TS:=fun D U H=>c U H fun b H1=>if b=true then t D U H1 else u D U H1
theorem zxp {c:Expr}{a b:List Stmt}{tc:TT}(hc:PT X c tc)(ha:PSs X a t)(hb:PSs X b u):PS X (.If c a b pos) (zxK tc t u):=by
 intro pins s U H D I h
 refine wpAny_If (thn (hc pins s U H _ I h) fun d s1 ⟨H1,I1,q1⟩=>?_)
 cases d with
 | true=>exact ha pins s1 U H1 D I1 q1
 | false=>exact hb pins s1 U H1 D I1 q1
def zut:TS:=fun _ _ _=>False
theorem zqO:PS X st zut:=fun _ _ _ _ _ _ h=>h.elim
end
abbrev TG:=V->St->Hp->(St->Hp->Prop)->Prop
abbrev TGs:=List V->St->Hp->(St->Hp->Prop)->Prop
def PG (X:Cx)(target:Expr)(t:TG):Prop :=
 ∀ (pins:List (Addr×Obj)) (s:Shared) (U:St) (H:Hp) (v:V) (u:Value) (Q:St->Hp->Prop),Inv X pins U H s->RelV v u->t v U H Q ->
  wpAny (model X.prog X.w) X.A (assign target X.env u) (fun _ s'=>∃ σ' H',Inv X pins σ' H' s'/\Q σ' H') X.xe s
def PGs (X:Cx)(ts:List Expr)(t:TGs):Prop :=
 ∀ (pins:List (Addr×Obj)) (s:Shared) (U:St) (H:Hp) (vs:List V) (us:List Value) (Q:St->Hp->Prop),Inv X pins U H s->Vals vs us->t vs U H Q ->
  wpAny (model X.prog X.w) X.A (assignInOrder ((assignEach ts X.env).map (·.2)) us) (fun _ s'=>∃ σ' H',Inv X pins σ' H' s'/\Q σ' H') X.xe s
abbrev zrC:=V->V->V->Hp->(Hp->Prop)->Prop
def zuZ (X:Cx)(t:zrC):Prop :=
 ∀ (pins:List (Addr×Obj)) (s:Shared) (U:St) (H:Hp) (o i v:V) (ov iv u:Value) (Q:Hp->Prop),Inv X pins U H s->RelV o ov->RelV i iv->RelV v u->t o i v H Q ->
  wpAny (model X.prog X.w) X.A (setItem ov iv u) (fun _ s'=>∃ H',Inv X pins U H' s'/\Q H') X.xe s
abbrev TIp:=V->V->Hp->VK->Prop
def PIp (X:Cx)(op:Operator)(t:TIp):Prop :=
 ∀ (pins:List (Addr×Obj)) (s:Shared) (U:St) (H:Hp) (x y:V) (v u:Value) (Q:VK),Inv X pins U H s->RelV x v->RelV y u->t x y H Q ->
  wpAny (model X.prog X.w) X.A (inplaceOp op v u) (EP X pins U Q) X.xe s
section
variable {X:Cx}{pos:Pos}
def zE (i:Nat):TG:=fun v U H Q=>Q (U.set i (some v)) H
theorem zaq {i:Nat}{x:Str}(hN:X.N.Nodup)(hi:X.N[i]?=some x)(hx:Loc X.env.scope x)(hf:X.fn x=true\/X.env.scope.names.lookup x=some .local:=by first | exact .inl rfl | exact .inr rfl | assumption):PG X (.Name x pos) (zE i):=by
 intro pins s U H v u Q I r h
 exact wpAny_assign_Name (zfn I hN hi hx r (fun s' I'=>⟨_,H,I',h⟩) hf)
def zcH:TGs:=fun vs U H Q=>vs=[]/\Q U H
def zav (t:TG)(u:TGs):TGs:=fun vs U H Q=>∃ v r,vs=v::r/\t v U H fun σ' H'=>u r σ' H' Q
theorem zgt:PGs X [] zcH:=by
 intro pins s U H vs us Q I r h
 obtain⟨e,h⟩:=h
 subst e
 cases r
 exact assignInOrder_nil ⟨U,H,I,h⟩
theorem zb6 {e:Expr}{es:List Expr}{t:TG}{u:TGs}(h1:PG X e t)(h2:PGs X es u)
  (hs:(assignEach (e::es) X.env).map (·.2)=assign e X.env::(assignEach es X.env).map (·.2):=by rfl):PGs X (e::es) (zav t u):=by
 intro pins s U H vs us Q I r h
 obtain⟨v,vr,e1,h⟩:=h
 subst e1
 cases r with
 | cons r rr =>
  rw [hs]
  refine assignInOrder_cons (thn (h1 pins s U H _ _ _ I r h) fun _ s1 ⟨σ1,H1,I1,q1⟩=>?_)
  exact h2 pins s1 σ1 H1 _ _ Q I1 rr q1
def zcF (K:PySem.W.Frag)(n:Nat)(t:TGs):TG:=fun v U H Q=>∃ a xs,v=.ref a/\SqT K H a xs/\xs.length=n/\t xs U H Q
theorem zhy {es:List Expr}{k:Nat}{t:TGs}{n:Nat}(hc:X.calm=true)(h:PGs X es t)
  (hn:(assignEach es X.env).length=n:=by rfl) (hst:(assignEach es X.env).findIdx? (·.1)=none:=by rfl):PG X (.Tuple es k pos) (zcF X.K n t):=by
 intro pins s U H v u Q I r hw
 obtain⟨a,xs,e1,hq,hl,hw⟩:=hw
 subst e1
 cases r
 obtain⟨its,rv,ht,hz⟩:=I.tuple hq
 refine assign_Tuple_tuple (I.ok.hd hc) ht (by simp [hn,<- hl,rv.length]) hst fun h' hx=>?_
 have I1:Inv X pins U H { s with heap:=h' }:=I.kept (t':=s.toks) fun b o e=>hx b o (Nat.ne_of_lt (Heap.lt_size e)) e
 exact h pins _ U H xs _ Q I1 (by simpa using rv) hw
def zhI (to ti:TE)(t:zrC):TG:=fun v U H Q=>to U H fun o H1=>ti U H1 fun i H2=>t o i v H2 fun H3=>Q U H3
theorem zu6 {o i:Expr}{to ti:TE}{t:zrC}(ho:PE X o to)(hi:PE X i ti)(hs:zuZ X t)
  (ha:∀ v,assign (.Subscript o i pos) X.env v=(do
   let ov <- holding [v] (eval o X.env)
   let iv <- holding [v,ov] (eval i X.env)
   standAt pos
   holding [v,ov,iv] (setItem ov iv v)
   release [v,ov,iv] []):=by intro _;rfl):PG X (.Subscript o i pos) (zhI to ti t):=by
 intro pins s U H v u Q I r h
 rw [ha]
 refine wpAny_bind (wpAny_holding (thn (ho pins s U H _ I h) fun ov s1 ⟨x,H1,I1,r1,q1⟩=>?_))
 refine wpAny_bind (wpAny_holding (thn (hi pins s1 U H1 _ I1 q1) fun iv s2 ⟨y,H2,I2,r2,q2⟩=>?_))
 refine wpAny_bind (wpAny_standAt (wpAny_bind (wpAny_holding (thn (hs pins s2 U H2 x y v ov iv u _ I2 r1 r2 r q2) fun _ s3 ⟨H3,I3,q3⟩=>?_))))
 exact wpAny_release ⟨U,H3,I3,q3⟩
def zrm (te:TE)(g:TG):TS:=fun D U H=>te U H fun x H1=>g x U H1 D.nx
theorem zvH {tg e:Expr}{te:TE}{g:TG}(he:PE X e te)(hg:PG X tg g)(hs:swapsWithSole [tg] e pos.line X.env=pure false:=by rfl)(hw:swappedStores [tg] e X.env=pure none:=by rfl)
  (h1:(assignEach [tg] X.env).map (·.2)=[assign tg X.env]:=by rfl):PS X (.Assign [tg] e pos) (zrm te g):=by
 intro pins s U H D I h
 refine wpAny_Assign_stores (thn (he pins s U H _ I h) fun v s1 ⟨x,H1,I1,r1,q1⟩=>?_) hs hw
 rw [h1]
 exact thn (hg pins s1 U H1 x v _ I1 r1 q1) fun _ s2 q=>q
theorem zu3 {i:Nat}{x:Str}{e:Expr}{te:TE}{pos':Pos}(hN:X.N.Nodup)(hi:X.N[i]?=some x)(hx:Loc X.env.scope x)(he:PE X e te)(hs:swapsWith e (some (.Name x pos')) pos.line X.env=pure false:=by rfl)(hf:X.fn x=true\/X.env.scope.names.lookup x=some .local:=by first | exact .inl rfl | exact .inr rfl | assumption) :
  PS X (.Assign [.Name x pos'] e pos) (zrm te (zE i)):=by
 intro pins s U H D I h
 refine wpAny_Assign_Name (thn (he pins s U H _ I h) fun v s1 ⟨y,H1,I1,r1,q1⟩=>?_) hs
 exact zfn I1 hN hi hx r1 (fun s2 I2=>⟨_,H1,I2,q1⟩) hf
def zxO (i j:Nat)(ta:TA):TS:=fun D U H=>ta U H fun vs H1=>∃ v w,vs=[v,w]/\D.nx ((U.set i (some v)).set j (some w)) H1
theorem zup {i j:Nat}{x y:Str}{a b:Expr}{ta:TA}{px py pt:Pos}{kt k2 pt2}(hc:X.calm=true)(hN:X.N.Nodup)(hi:X.N[i]?=some x)(hj:X.N[j]?=some y)(hij:i≠j)
  (hx:X.env.scope.names.lookup x=some .local) (hy:X.env.scope.names.lookup y=some .local) (ha:PA X [a,b] ta)
  (hw:swappedStores [.Tuple [.Name x px,.Name y py] kt pt] (.Tuple [a,b] k2 pt2) X.env=pure (some [x,y]))
  (hs:swapsWithSole [.Tuple [.Name x px,.Name y py] kt pt] (.Tuple [a,b] k2 pt2) pos.line X.env=pure false:=by rfl) :
  PS X (.Assign [.Tuple [.Name x px,.Name y py] kt pt] (.Tuple [a,b] k2 pt2) pos) (zxO i j ta):=by
 intro pins s U H D I h
 rw [exec_Assign_arm]
 refine wpAny_bind (wpAny_standAt ?_)
 rw [hs]
 refine wpAny_bind (wpAny_pure ?_)
 rw [if_neg (by decide)]
 refine wpAny_bind (Tuple_ (thn (ha _ pins s U H _ I h) fun us s1 ⟨vs,H1,I1,r1,q1⟩=>?_))
 obtain⟨v,w,e1,q1⟩:=q1
 subst e1
 obtain⟨u1,u2,rfl,rv,rw'⟩:∃ u1 u2,us=[u1,u2]/\RelV v u1/\RelV w u2:=by
  cases r1 with
  | cons p q =>
   cases q with
   | cons p' q' =>
    cases q'
    exact⟨_,_,rfl,p,p'⟩
 refine wpAny_newObj_type ?_ (by show 2<=sizeLine;decide)
 have I2:Inv X pins U H1 { s1 with heap:=s1.heap.push { cls:=.type "tuple",data:=.seq [u1,u2].toArray } }:=I1.kept (t':=s1.toks) fun b o e=>qc _ e
 rw [hw]
 refine wpAny_bind (wpAny_pure ?_)
 show wpAny (model X.prog X.w) X.A (do rule "assign.swapped-stores";let items <- unpackItems (.ref s1.heap.objs.size) 2 none;assignInOrder [fun v=>bindName X.env y v,fun v=>bindName X.env x v] items.reverse;pure Flow.next) _ _ _
 refine wpAny_bind (wpAny_rule (wpAny_bind (unpackItems_tuple (items:=#[u1,u2]) (I.ok.hd hc) (IsTup.new s1.heap _) fun h' hx'=>?_)))
 have I3:=I2.kept (h':=h') (t':=s1.toks) fun b o e=>hx' b o (Nat.ne_of_lt (Heap.lt_size e)) e
 show wpAny _ _ (assignInOrder [fun v=>bindName X.env y v,fun v=>bindName X.env x v] [u2,u1] >>= fun _=>pure Flow.next) _ _ _
 refine wpAny_bind (assignInOrder_cons (wpAny_bindName (zfn I3 hN hj (.inl hy) rw' (fun s2 I4=>?_) (.inr hy))))
 refine assignInOrder_cons (wpAny_bindName (zfn I4 hN hi (.inl hx) rv (fun s3 I5=>assignInOrder_nil (wpAny_pure ?_)) (.inr hx)))
 rw [List.set_comm _ _ (Ne.symm hij)] at I5
 exact⟨_,H1,I5,q1⟩
def zxY (i:Nat)(te:TE)(ti:TIp):TS:=fun D U H=>∃ x,U[i]?=some (some x)/\te U H fun y H1=>ti x y H1 fun z H2=>D.nx (U.set i (some z)) H2
theorem zuk {i:Nat}{x:Str}{e:Expr}{te:TE}{op:Operator}{ti:TIp}{pos':Pos}(hN:X.N.Nodup)(hi:X.N[i]?=some x)(hx:Loc X.env.scope x)(he:PE X e te)(ho:PIp X op ti)(hf:X.fn x=true\/X.env.scope.names.lookup x=some .local:=by first | exact .inl rfl | exact .inr rfl | assumption) :
  PS X (.AugAssign (.Name x pos') op e pos) (zxY i te ti):=by
 intro pins s U H D I h
 obtain⟨v,e1,h⟩:=h
 obtain⟨m,hn,hl⟩:=I.loc
 have vis:Vis X.env.scope x:=by rcases hx with k | k;exact .inl k;exact .inr (.inl k)
 obtain⟨u,r,l⟩:=hl i x v hi e1 vis
 refine wpAny_AugAssign_Name ?_
 have go:wpAny (model X.prog X.w) X.A (eval e X.env) (fun w s₂=>wpAny (model X.prog X.w) X.A (inplaceOp op u w) (fun r s₃=>wpAny (model X.prog X.w) X.A (storeName X.env x r) (fun _=>SP X pins D .next) X.xe s₃) X.xe s₂) X.xe s:=by
  refine thn (he pins s U H _ I h) fun w s1 ⟨y,H1,I1,r1,q1⟩=>?_
  refine thn (ho pins s1 U H1 v y u w _ I1 r r1 q1) fun z s2 ⟨zv,H2,I2,r2,q2⟩=>?_
  exact zfn I2 hN hi hx r2 (fun s3 I3=>⟨_,H2,I3,q2⟩) hf
 rcases l with ⟨hk,hm⟩ | ⟨hk,c,hc,hcell⟩
 ·exact wpAny_loadName_local I.ok.kind hk hn hm go
 ·rcases hk with hk | hk
  ·exact wpAny_loadName_cell I.ok.kind hk hc hcell go
  ·rcases hx with k | k
   ·have:X.env.scope.names.lookup x=some .free:=hk
    rw [k] at this;cases this
   ·have:X.env.scope.names.lookup x=some .free:=hk
    rw [k] at this;cases this
def ipI (f:Int->Int->Int):TIp:=fun x y H Q=>∃ i j,x=.int i/\y=.int j/\Q (.int (f i j)) H
theorem zu7:PIp X .Add (ipI fun i j=>i+j):=by
 intro pins s U H x y v u Q I r1 r2 h
 obtain⟨i,j,e1,e2,q⟩:=h
 subst e1;subst e2
 obtain⟨t,rfl⟩:=r1
 obtain⟨t',rfl⟩:=r2
 exact iadd_int ⟨.int _,H,I.tok _,⟨_,rfl⟩,q⟩
end
section
variable {X:Cx}{pos:Pos}
def zuj (c:TT)(tb:TS):TS:=fun D U H=>∃ W:Nat->St->Hp->Prop,(∃ m,W m U H)/\∀ m U H,W m U H ->
 c U H fun b H1=>if b=true then ∃ N:St->Hp->Prop,(∀ σ' H',N σ' H'->∃ m',m'<m/\W m' σ' H')/\tb { D with nx:=N,ct:=N,bk:=D.nx } U H1 else D.nx U H1
theorem zrj {c:Expr}{body:List Stmt}{tc:TT}{tb:TS}(hp:PassesOwn (model X.prog X.w) X.A X.env X.xe)(hc:PT X c tc)(hb:PSs X body tb):PS X (.While c body [] pos) (zuj tc tb):=by
 intro pins s U H D I h
 obtain⟨W,⟨m0,w0⟩,turn⟩:=h
 refine wpAny_While (codeAny_whileLoop (fun n s'=>∃ σ' H',Inv X pins σ' H' s'/\W n σ' H') ?_ m0 ⟨U,H,I,w0⟩)
 rintro n s1 ⟨σ1,H1,I1,w1⟩
 refine wpAny_passesOwn hp (thn (hc pins s1 σ1 H1 _ I1 (turn n σ1 H1 w1)) fun b s2 ⟨H2,I2,q2⟩=>?_)
 cases b with
 | true =>
  obtain⟨N,hN,q2⟩:=q2
  rw [if_pos rfl]
  refine wpAny_passesOwn hp (thn (hb pins s2 σ1 H2 _ I2 q2) fun f s3 q3=>?_)
  cases f with
  | next =>
   obtain⟨σ3,H3,I3,n3⟩:=q3
   obtain⟨m',hm,w3⟩:=hN σ3 H3 n3
   exact⟨m',hm,σ3,H3,I3,w3⟩
  | cont =>
   obtain⟨σ3,H3,I3,n3⟩:=q3
   obtain⟨m',hm,w3⟩:=hN σ3 H3 n3
   exact⟨m',hm,σ3,H3,I3,w3⟩
  | brk=>exact q3
  | ret v=>exact q3
 | false =>
  rw [if_neg Bool.false_ne_true]
  exact wpAny_execs_nil ⟨σ1,H2,I2,q2⟩
end
structure It where
 go:Nat->Hp->Prop
 yld:Nat->Hp->V->Hp->Prop
 stop:Nat->Hp->Prop
def zfp (X:Cx)(pins:List (Addr×Obj))(H:Hp)(b:Addr):Prop :=
 H b=none/\b≠X.env.locals/\b∉X.fs/\(b∈X.ex\/X.s₀.heap.objs.size<=b)/\(∀ x c,X.env.cells.lookup x=some c->c≠b)/\∀ p∈X.pn++pins,p.1≠b
theorem Inv.fpOk {X:Cx}{pins:List (Addr×Obj)}{U:St}{H H':Hp}{s:Shared}{b:Addr}(I:Inv X pins U H s)(hb:s.heap.objs.size<=b)(hn:H' b=none):zfp X pins H' b:=by
 refine⟨hn,Nat.ne_of_gt (Nat.lt_of_lt_of_le I.lt hb),I.nofs hb,.inr (Nat.le_trans I.sz hb),fun x c e z=>?_,fun p hp z=>?_⟩
 ·obtain⟨v,q⟩:=I.cell x c e
  exact absurd (Nat.lt_of_lt_of_le q.lt (by rw [z];exact hb)) (Nat.lt_irrefl _)
 ·exact absurd (Nat.lt_of_lt_of_le (Heap.lt_size (I.pin p hp).1) (by rw [z];exact hb)) (Nat.lt_irrefl _)
structure Turn (P:Program)(w:World)(K:PySem.W.Frag)(tg:Expr)(J:It)(fp:List Addr)(it:Addr)(tn:Nat->Heap->Prop):Prop where
 mem:it∈fp
 obj:∀ i h,tn i h->∀ b∈fp,∃ o,h.get? b=some o/\∀ v,o.data≠.cell v
 keep:∀ i h h',tn i h->(∀ b∈fp,∀ o,h.get? b=some o->h'.get? b=some o)->tn i h'
 item:∀ (X:Cx),X.prog=P->X.w=w->X.K=K->X.calm=true->∀ (i:Nat) (pins:List (Addr×Obj)) (s:Shared) (U:St) (H:Hp) (E:Value->Shared->Prop),Inv X pins U H s->(∀ b∈fp,zfp X pins H b)->tn i s.heap->J.go i H ->
  wpAny (model P w) X.A (pyNext (.ref it)) (fun r s1=>∃ u,r=some u /\
   wpAny (model P w) X.A (letOwnedTupleGo tg (.ref it) u) (fun _ s2=>∃ x H',Inv X pins U H' s2/\RelV x u/\J.yld i H x H'/\tn (i+1) s2.heap/\∀ b∈fp,H' b=none) E s1) E s
 done:∀ (X:Cx),X.prog=P->X.w=w->X.K=K->X.calm=true->∀ (i:Nat) (pins:List (Addr×Obj)) (s:Shared) (U:St) (H:Hp) (E:Value->Shared->Prop),Inv X pins U H s->(∀ b∈fp,zfp X pins H b)->tn i s.heap->J.stop i H ->
  wpAny (model P w) X.A (pyNext (.ref it)) (fun r s1=>r=none/\Inv X pins U H s1) E s
 self:∀ (A:Around) (i:Nat) (s:Shared) (Q:Value->Shared->Prop) (E:Value->Shared->Prop),tn i s.heap->Q (.ref it) s->wpAny (model P w) A (pyIter (.ref it)) Q E s
abbrev TI:=St->Hp->(It->Hp->Prop)->Prop
def PIE (X:Cx)(pins:List (Addr×Obj))(U:St)(tg:Expr)(R:It->Hp->Prop)(itv:Value)(s2:Shared):Prop :=
 ∃ (it:Addr) (fp:List Addr) (tn:Nat->Heap->Prop) (J:It) (H':Hp),itv=.ref it/\Inv X pins U H' s2/\Turn X.prog X.w X.K tg J fp it tn/\tn 0 s2.heap/\(∀ b∈fp,zfp X pins H' b)/\R J H'
def PI (X:Cx)(tg iter:Expr)(wi:TI):Prop :=
 ∀ (pins:List (Addr×Obj)) (s:Shared) (U:St) (H:Hp) (R:It->Hp->Prop),Inv X pins U H s->wi U H R ->
  wpAny (model X.prog X.w) X.A (eval iter X.env) (fun v s1=>wpAny (model X.prog X.w) X.A (pyIter v) (PIE X pins U tg R) X.xe s1) X.xe s
theorem zib {M:Model}{A:Around}{E:Value->Shared->Prop}{s:Shared}{tg:Expr}{it:Addr}{u:Value}{o:Obj}{n:String}{vs:Array Value}{Q:Unit->Shared->Prop}(ho:s.heap.get? it=some o)(hc:o.cls=.type n)(hd:o.data=.fields vs)
    (hn:["enumerate","zip","dict_itemiterator","dict_reverseitemiterator","odict_iterator","itertools.zip_longest","itertools.pairwise"].contains n=false) (hQ:Q () s):wpAny M A (letOwnedTupleGo tg (.ref it) u) Q E s:=by
  unfold letOwnedTupleGo
  cases tg<;>first
    | exact wpAny_pure hQ
    | (cases u <;> first
        | exact wpAny_pure hQ
        | (refine wpAny_bind (wpAny_load ho ?_)
           rw [hc,hd]
           show wpAny M A (if (["enumerate","zip","dict_itemiterator","dict_reverseitemiterator","odict_iterator","itertools.zip_longest","itertools.pairwise"].contains n&&vs[0]?==some (rawInt _))=true then _ else _) Q E s
           rw [if_neg (by intro h;rw [hn,Bool.false_and] at h;cases h)]
           exact wpAny_pure hQ))
def Itl (K:PySem.W.Frag)(a:Addr):It :=
 ⟨fun i H=>∃ xs x,SqL K H a xs/\xs[i]?=some x,fun i H x H'=>H'=H/\∀ xs,SqL K H a xs->xs[i]?=some x,fun i H=>∃ xs,SqL K H a xs/\xs.length<=i⟩
def Itt (K:PySem.W.Frag)(a:Addr):It :=
 ⟨fun i H=>∃ xs x,SqT K H a xs/\xs[i]?=some x,fun i H x H'=>H'=H/\∀ xs,SqT K H a xs->xs[i]?=some x,fun i H=>∃ xs,SqT K H a xs/\xs.length<=i⟩
def Itr (lo:Int)(n:Nat):It:=⟨fun i _=>i<n,fun i H x H'=>H'=H/\x=.int (lo+i),fun i _=>n<=i⟩
theorem zpy {P:Program}{w:World}{K:PySem.W.Frag}{tg:Expr}(a it:Addr):Turn P w K tg (Itl K a) [it] it (fun i h=>h.IsListIter it a i) where
 mem:=by simp
 obj:=fun i h st b hb=>by
  have e:b=it:=by simpa using hb
  subst e
  obtain⟨o,e,c,d⟩:=st
  exact⟨o,e,fun v z=>by rw [d] at z;cases z⟩
 keep:=fun i h h' st k=>st.at fun o e=>k it (by simp) o e
 item:=by
  intro X hP hw hK hc i pins s U H E I hf st hg
  subst hP hw hK
  obtain⟨xs,x,hq,hx⟩:=hg
  obtain⟨its,rv,p,hz⟩:=I.list hq
  obtain⟨u,hu,ru⟩:=rv.get hx
  obtain⟨f0,f1,f2,f3,f4,f5⟩:=hf it (by simp)
  refine wpAny_pyNext_list_item st p.isList (x:=u) (by simpa using hu) fun h' st' sb=>?_
  have I1:Inv X pins U H { s with heap:=h' }:=I.turned (t':=s.toks) (fun b o hb e=>(sb.2 b hb).trans e) f0 f1 f3 f4 f5
  obtain⟨o,e,c,d⟩:=id st'
  exact⟨u,rfl,zib (s:={ s with heap:=h' }) e c d (by decide) ⟨x,H,I1,ru,⟨rfl,fun ys hy=>by rw [I.list_inj hy hq];exact hx⟩,st',fun b hb=>(hf b hb).1⟩⟩
 done:=by
  intro X hP hw hK hc i pins s U H E I hf st hg
  subst hP hw hK
  obtain⟨xs,hq,hx⟩:=hg
  obtain⟨its,rv,p,hz⟩:=I.list hq
  obtain⟨f0,f1,f2,f3,f4,f5⟩:=hf it (by simp)
  have hl:=rv.length
  exact wpAny_pyNext_list_end (I.ok.hd hc) st p.isList (by simp;omega) fun h' eb=>⟨rfl,I.turned (t':=s.toks) (fun b o hb e=>eb b o hb e) f0 f1 f3 f4 f5⟩
 self:=fun _ _ _ _ _ st h=>wpAny_pyIter_listiter st h
theorem zoh {P:Program}{w:World}{K:PySem.W.Frag}{tg:Expr}(a it:Addr):Turn P w K tg (Itt K a) [it] it (fun i h=>h.IsTupleIter it a i) where
 mem:=by simp
 obj:=fun i h st b hb=>by
  have e:b=it:=by simpa using hb
  subst e
  obtain⟨o,e,c,d⟩:=st
  exact⟨o,e,fun v z=>by rw [d] at z;cases z⟩
 keep:=fun i h h' st k=>st.at fun o e=>k it (by simp) o e
 item:=by
  intro X hP hw hK hc i pins s U H E I hf st hg
  subst hP hw hK
  obtain⟨xs,x,hq,hx⟩:=hg
  obtain⟨its,rv,p,hz⟩:=I.tuple hq
  obtain⟨u,hu,ru⟩:=rv.get hx
  obtain⟨f0,f1,f2,f3,f4,f5⟩:=hf it (by simp)
  refine wpAny_pyNext_tuple_item st (show s.heap.IsTuple a its.toArray from p) (x:=u) (by simpa using hu) fun h' st' sb=>?_
  have I1:Inv X pins U H { s with heap:=h' }:=I.turned (t':=s.toks) (fun b o hb e=>(sb.2 b hb).trans e) f0 f1 f3 f4 f5
  obtain⟨o,e,c,d⟩:=id st'
  exact⟨u,rfl,zib (s:={ s with heap:=h' }) e c d (by decide) ⟨x,H,I1,ru,⟨rfl,fun ys hy=>by rw [I.tuple_inj hy hq];exact hx⟩,st',fun b hb=>(hf b hb).1⟩⟩
 done:=by
  intro X hP hw hK hc i pins s U H E I hf st hg
  subst hP hw hK
  obtain⟨xs,hq,hx⟩:=hg
  obtain⟨its,rv,p,hz⟩:=I.tuple hq
  obtain⟨f0,f1,f2,f3,f4,f5⟩:=hf it (by simp)
  have hl:=rv.length
  exact wpAny_pyNext_tuple_end (I.ok.hd hc) st (show s.heap.IsTuple a its.toArray from p) (by simp;omega) fun h' eb=>⟨rfl,I.turned (t':=s.toks) (fun b o hb e=>eb b o hb e) f0 f1 f3 f4 f5⟩
 self:=fun _ _ _ _ _ st h=>wpAny_pyIter_tupleiter st h
theorem zjp {P:Program}{w:World}{K:PySem.W.Frag}{tg:Expr}(it:Addr)(lo:Int)(n:Nat):Turn P w K tg (Itr lo n) [it] it (fun i h=>IsRangeIter h it (lo+(i:Nat)*1) ((n:Int)-(i:Nat)) 1) where
 mem:=by simp
 obj:=fun i h st b hb=>by
  have e:b=it:=by simpa using hb
  subst e
  exact⟨_,st,fun v z=>by
   have z':Data.fields _=Data.cell v:=z
   cases z'⟩
 keep:=fun i h h' st k=>k it (by simp) _ st
 item:=by
  intro X hP hw hK hc i pins s U H E I hf st hg
  subst hP hw hK
  obtain⟨f0,f1,f2,f3,f4,f5⟩:=hf it (by simp)
  have W:=Walks.range (prog:=X.prog) (w:=X.w) (I.ok.hd hc) it lo 1 n
  refine W.item i s _ _ hg st fun v h' tk hv st' kk=>?_
  obtain⟨t,rfl⟩:=hv
  have I1:Inv X pins U H { s with heap:=h',toks:=tk }:=I.turned (fun b o hb e=>kk b o (by simpa using hb) e) f0 f1 f3 f4 f5
  refine⟨_,rfl,zib (s:={ s with heap:=h',toks:=tk }) (n:="range_iterator") st' rfl rfl (by decide) ⟨.int (lo+i),H,I1,⟨t,?_⟩,⟨rfl,rfl⟩,st',fun b hb=>(hf b hb).1⟩⟩
  rw [Int.mul_one]
 done:=by
  intro X hP hw hK hc i pins s U H E I hf st hg
  subst hP hw hK
  obtain⟨f0,f1,f2,f3,f4,f5⟩:=hf it (by simp)
  exact wpAny_pyNext_range_end (I.ok.hd hc) st (by have:n<=i:=hg;omega) fun h' eb=>⟨rfl,I.turned (t':=s.toks) (fun b o hb e=>eb b o hb e) f0 f1 f3 f4 f5⟩
 self:=fun _ _ _ _ _ st h=>wpAny_pyIter_rangeiter st h
section
variable {X:Cx}{tg:Expr}
theorem zqV {pins:List (Addr×Obj)}{U:St}{H:Hp}{s:Shared}{R:It->Hp->Prop}{E:Value->Shared->Prop}{lo hi:Int}{t u v:Tok}{tk:Nat}(I:Inv X pins U H s)(h1:-(2 ^ 62)<=lo)(h2:lo<2 ^ 62)(h3:-(2 ^ 62)<=hi)(h4:hi<2 ^ 62)
    (q:R (Itr lo (hi-lo).toNat) H):wpAny (model X.prog X.w) X.A (pyIter (.ref s.heap.objs.size)) (PIE X pins U tg R) E { s with heap:=s.heap.push { cls:=.type "range",data:=.fields #[.int lo t,.int hi u,.int 1 v] },toks:=tk }:=by
  refine wpAny_pyIter_range (IsRange.new ..) (small_one h1 h2 h3 h4) ?_
  have I1:Inv X pins U H { s with heap:=s.heap.push { cls:=.type "range",data:=.fields #[.int lo t,.int hi u,.int 1 v] },toks:=tk }:=I.kept fun b o e=>qc _ e
  refine⟨(s.heap.push { cls:=.type "range",data:=.fields #[.int lo t,.int hi u,.int 1 v] }).objs.size,[(s.heap.push { cls:=.type "range",data:=.fields #[.int lo t,.int hi u,.int 1 v] }).objs.size],_,_,H,rfl,
    I1.kept (t':=tk) fun b o e=>qc _ e,zjp _ lo (hi-lo).toNat,?_,fun b hb=>?_,q⟩
  . have e1:lo+((0:Nat):Int)*1=lo:=by simp
    have e2:(((hi-lo).toNat:Nat):Int)-((0:Nat):Int)=Builtin.Range.rangeSize lo hi 1:=by rw [rangeSize_one];split<;>omega
    show IsRangeIter _ _ (lo+((0:Nat):Int)*1) ((((hi-lo).toNat:Nat):Int)-((0:Nat):Int)) 1
    rw [e1,e2]
    exact Heap.get?_push_size _ rfl
  . have e:b=(s.heap.push { cls:=.type "range",data:=.fields #[.int lo t,.int hi u,.int 1 v] }).objs.size:=by simpa using hb
    subst e
    exact I1.fpOk (qf _) (I1.hok.fresh (qf _))
def zcJ (ta:TA):TI:=fun U H R=>ta U H fun vs H1=>∃ j:Int,vs=[.int j]/\-(2 ^ 62)<=j/\j<2 ^ 62/\R (Itr 0 j.toNat) H1
theorem zqI {a:Expr}{ta:TA}{p pos:Pos}(hg:Gl X "range")(hm:X.mg "range"=none)(ha:PA X [a] ta)(hs:starEach [a] X.env=[(false,eval a X.env)]:=by rfl):PI X tg (.Call (.Name "range" p) [a] [] pos) (zcJ ta):=by
 intro pins s U H R I h
 refine Call_ (zc2 I hg hm boot_range (PyProof.Rows.callWith_type1 (thn (ha pos pins s U H _ I h) fun us s1 ⟨vs,H1,I1,r1,q1⟩=>?_) hs rfl))
 obtain⟨j,e,q1,q2,q⟩:=q1
 subst e
 cases r1 with
 | cons r rr =>
  cases rr
  obtain⟨t,rfl⟩:=r
  exact call_range_1 (zqV I1 (by omega) (by omega) q1 q2 (by simpa using q))
def zyg (wi:TI)(g:TG)(tb:TS):TS:=fun D U H=>wi U H fun J H1=>∃ W:Nat->Nat->St->Hp->Prop,(∃ m,W 0 m U H1)/\∀ i m U H,W i m U H ->
 (J.stop i H/\D.nx U H)\/(J.go i H/\∃ N:St->Hp->Prop,(∀ σ' H',N σ' H'->∃ m',m'<m/\W (i+1) m' σ' H')/\∀ x H',J.yld i H x H'->g x U H' fun σ2 H2=>tb { D with nx:=N,ct:=N,bk:=D.nx } σ2 H2)
def zh2 (fp:List Addr)(h:Heap):List (Addr×Obj):=fp.filterMap fun b=>(h.get? b).map fun o=>(b,o)
theorem zfa {fp:List Addr}{h:Heap}{b:Addr}{o:Obj}(hb:b∈fp)(e:h.get? b=some o):(b,o)∈zh2 fp h:=List.mem_filterMap.mpr ⟨b,hb,by rw [e];rfl⟩
theorem zpS {fp:List Addr}{h:Heap}{p:Addr×Obj}(hp:p∈zh2 fp h):p.1∈fp/\h.get? p.1=some p.2:=by
 obtain⟨b,hb,e⟩:=List.mem_filterMap.mp hp
 cases q:h.get? b with
 | none=>rw [q] at e;cases e
 | some o =>
  rw [q] at e
  have e':(b,o)=p:=Option.some.inj e
  subst e'
  exact⟨hb,q⟩
theorem Inv.pinned {pins:List (Addr×Obj)}{U:St}{H:Hp}{s:Shared}{fp:List Addr}(I:Inv X pins U H s)(hf:∀ b∈fp,zfp X pins H b)(ho:∀ b∈fp,∃ o,s.heap.get? b=some o/\∀ v,o.data≠.cell v):Inv X (pins++zh2 fp s.heap) U H s :=
 I.pins_of fun p hp=>(List.mem_append.mp hp).elim (fun z=>I.pin p (List.mem_append_right _ z)) fun z=>by
  obtain⟨hb,e⟩:=zpS z
  obtain⟨f0,f1,f2,_⟩:=hf p.1 hb
  obtain⟨o,e',d⟩:=ho p.1 hb
  rw [e] at e';cases e'
  exact⟨e,f0,f1,f2,d⟩
theorem Inv.unpinned {pins pl:List (Addr×Obj)}{U:St}{H:Hp}{s:Shared}(I:Inv X (pins++pl) U H s):Inv X pins U H s:=I.pins_of fun p hp=>I.pin p (List.mem_append_right _ (List.mem_append_left _ hp))
theorem zuo {iter:Expr}{body:List Stmt}{wi:TI}{g:TG}{tb:TS}{pos:Pos}(hp:PassesOwn (model X.prog X.w) X.A X.env X.xe)(hc:X.calm=true)(hi:PI X tg iter wi)(hg:PG X tg g)(hb:PSs X body tb)
  (hs:∀ x,foldedSetIterable iter X.env x=pure x:=by intro _;rfl):PS X (.For tg iter body [] pos) (zyg wi g tb):=by
 intro pins s U H D I h
 refine wpAny_For (thn (hi pins s U H _ I h) fun v s1 h1=>thn h1 fun itv s2 h2=>?_) hs
 obtain⟨it,fp,tn,J,H2,e,I2,T,st2,f2,W,⟨m0,w0⟩,turn⟩:=h2
 subst e
 have stat:∀ {H':Hp},(∀ b∈fp,H' b=none)->∀ b∈fp,zfp X pins H' b:=fun hn b hb=>⟨hn b hb,(f2 b hb).2⟩
 refine codeAny_forLoop_any (fun n s'=>∃ i σ' H',Inv X pins σ' H' s'/\tn i s'.heap/\(∀ b∈fp,H' b=none)/\W i n σ' H') ?_ m0 ⟨0,U,H2,I2,st2,fun b hb=>(f2 b hb).1,w0⟩
 rintro n s3 ⟨i,σ3,H3,I3,st3,fr3,w3⟩
 rcases turn i n σ3 H3 w3 with ⟨stop,qn⟩ | ⟨go,N,hN,step⟩
 ·refine wpAny_passesOwn hp (thn (T.done X rfl rfl rfl hc i pins s3 σ3 H3 X.xe I3 (stat fr3) st3 stop) fun r s4 ⟨hr,I4⟩=>?_)
  subst hr
  exact wpAny_execs_nil ⟨σ3,H3,I4,qn⟩
 ·refine wpAny_passesOwn hp (thn (T.item X rfl rfl rfl hc i pins s3 σ3 H3 X.xe I3 (stat fr3) st3 go) fun r s4 ⟨u,hr,h4⟩=>?_)
  subst hr
  refine wpAny_passesOwn hp (thn h4 fun _ s5 ⟨x,H5,I5,r5,y5,st5,fr5⟩=>?_)
  have I5':=I5.pinned (stat fr5) (T.obj _ _ st5)
  refine wpAny_passesOwn hp (thn (hg _ s5 σ3 H5 x u _ I5' r5 (step x H5 y5)) fun _ s6 ⟨σ6,H6,I6,q6⟩=>?_)
  refine wpAny_passesOwn hp (thn (hb _ s6 σ6 H6 _ I6 q6) fun f s7 q7=>?_)
  have again:∀ {σ7:St} {H7:Hp},Inv X (pins++zh2 fp s5.heap) σ7 H7 s7->N σ7 H7->∃ m,m<n/\∃ i σ' H',Inv X pins σ' H' s7/\tn i s7.heap/\(∀ b∈fp,H' b=none)/\W i m σ' H':=fun {σ7 H7} I7 n7=>by
   obtain⟨m',hm,w7⟩:=hN σ7 H7 n7
   refine⟨m',hm,i+1,σ7,H7,I7.unpinned,T.keep _ _ _ st5 fun b hb o e=>(I7.pin (b,o) (List.mem_append_right _ (List.mem_append_right _ (zfa hb e)))).1,fun b hb=>?_,w7⟩
   obtain⟨o,e,d⟩:=T.obj _ _ st5 b hb
   exact (I7.pin (b,o) (List.mem_append_right _ (List.mem_append_right _ (zfa hb e)))).2.1
  cases f with
  | next=>obtain⟨σ7,H7,I7,n7⟩:=q7;exact again I7 n7
  | cont=>obtain⟨σ7,H7,I7,n7⟩:=q7;exact again I7 n7
  | brk=>obtain⟨σ7,H7,I7,q7⟩:=q7;exact⟨σ7,H7,I7.unpinned,q7⟩
  | ret v=>obtain⟨x7,σ7,H7,I7,r7,q7⟩:=q7;exact⟨x7,σ7,H7,I7.unpinned,r7,q7⟩
end
abbrev R2:=V->V->Hp->VK->Prop
def OpR (X:Cx)(f:Value->Value->Sem Value)(r:R2):Prop :=
 ∀ (pins:List (Addr×Obj)) (s:Shared) (U:St) (H:Hp) (x y:V) (v u:Value) (Q:VK),Inv X pins U H s->RelV x v->RelV y u->r x y H Q ->
  wpAny (model X.prog X.w) X.A (f v u) (EP X pins U Q) X.xe s
def UnR (X:Cx)(f:Value->Sem Value)(r:V->Hp->VK->Prop):Prop :=
 ∀ (pins:List (Addr×Obj)) (s:Shared) (U:St) (H:Hp) (x:V) (v:Value) (Q:VK),Inv X pins U H s->RelV x v->r x H Q ->
  wpAny (model X.prog X.w) X.A (f v) (EP X pins U Q) X.xe s
def zaI (X:Cx)(f:Value)(r:List V->Hp->VK->Prop):Prop :=
 ∀ (pins:List (Addr×Obj)) (s:Shared) (U:St) (H:Hp) (xs:List V) (us:List Value) (Q:VK),Inv X pins U H s->Vals xs us->r xs H Q ->
  wpAny (model X.prog X.w) X.A (call f us) (EP X pins U Q) X.xe s
def tOp (r:R2)(ta tb:TE):TE:=fun U H Q=>ta U H fun x H1=>tb U H1 fun y H2=>r x y H2 Q
def tUn (r:V->Hp->VK->Prop)(ta:TE):TE:=fun U H Q=>ta U H fun x H1=>r x H1 Q
def rI (C:Int->Int->Prop)(g:Int->Int->V):R2:=fun x y H Q=>∃ i j,x=.int i/\y=.int j/\C i j/\Q (g i j) H
def rI0 (g:Int->Int->V):R2:=fun x y H Q=>∃ i j,x=.int i/\y=.int j/\Q (g i j) H
def rU (g:Int->V):V->Hp->VK->Prop:=fun x H Q=>∃ i,x=.int i/\Q (g i) H
section
variable {X:Cx}{a b c:Expr}{ta tb tc:TE}{pos:Pos}
theorem zrZ (ha:PE X a ta)(hb:PE X b tb){pins:List (Addr×Obj)}{s:Shared}{U:St}{H:Hp}{R:V->V->Hp->Prop}(I:Inv X pins U H s)
  (h:ta U H fun x H1=>tb U H1 fun y H2=>R x y H2) {Q:Value->Shared->Prop} {f:Value->Value->Sem Value}
  (hf:∀ v u s2 x y H2,Inv X pins U H2 s2->RelV x v->RelV y u->R x y H2->wpAny (model X.prog X.w) X.A (f v u) Q X.xe s2) :
  wpAny (model X.prog X.w) X.A (eval a X.env) (fun v s₁=>wpAny (model X.prog X.w) X.A (eval b X.env) (fun u s₂=>wpAny (model X.prog X.w) X.A (f v u) Q X.xe s₂) X.xe s₁) X.xe s:=by
 refine thn (ha pins s U H _ I h) fun v s1 ⟨x,H1,I1,r1,q1⟩=>?_
 refine thn (hb pins s1 U H1 _ I1 q1) fun u s2 ⟨y,H2,I2,r2,q2⟩=>?_
 exact hf v u s2 x y H2 I2 r1 r2 q2
theorem zsd {op:Operator}{r:R2}(ho:OpR X (binaryOp op) r)(ha:PE X a ta)(hb:PE X b tb):PE X (.BinOp a op b pos) (tOp r ta tb):=by
 intro pins s U H Q I h
 exact wpAny_BinOp (zrZ ha hb I h fun v u s2 x y H2 I2 rx ry q=>ho pins s2 U H2 x y v u Q I2 rx ry q)
theorem zw4 {op:UnaryOp}{r:V->Hp->VK->Prop}(ho:UnR X (unaryOp op) r)(ha:PE X a ta):PE X (.UnaryOp op a pos) (tUn r ta):=by
 intro pins s U H Q I h
 exact UnaryOp_ (thn (ha pins s U H _ I h) fun v s1 ⟨x,H1,I1,r1,q1⟩=>ho pins s1 U H1 x v Q I1 r1 q1)
theorem opI {f:Value->Value->Sem Value}{C:Int->Int->Prop}{g:Int->Int->Int}
  (rule:∀ (i j:Int) (t u:Tok) (s:Shared) (Q:Value->Shared->Prop) (E:Value->Shared->Prop),C i j->Q (.int (g i j) s.toks) { s with toks:=s.toks+1 }->wpAny (model X.prog X.w) X.A (f (.int i t) (.int j u)) Q E s) :
  OpR X f (rI C fun i j=>.int (g i j)):=by
 intro pins s U H x y v u Q I rx ry h
 obtain⟨i,j,rfl,rfl,hc,q⟩:=h
 obtain⟨t,rfl⟩:=rx
 obtain⟨t',rfl⟩:=ry
 exact rule i j t t' s _ _ hc ⟨.int (g i j),H,I.tok _,⟨_,rfl⟩,q⟩
theorem zux {f:Value->Value->Sem Value}{g:Int->Int->Int}
  (rule:∀ (i j:Int) (t u:Tok) (s:Shared) (Q:Value->Shared->Prop) (E:Value->Shared->Prop),Q (.int (g i j) s.toks) { s with toks:=s.toks+1 }->wpAny (model X.prog X.w) X.A (f (.int i t) (.int j u)) Q E s) :
  OpR X f (rI0 fun i j=>.int (g i j)):=by
 intro pins s U H x y v u Q I rx ry h
 obtain⟨i,j,rfl,rfl,q⟩:=h
 obtain⟨t,rfl⟩:=rx
 obtain⟨t',rfl⟩:=ry
 exact rule i j t t' s _ _ ⟨.int (g i j),H,I.tok _,⟨_,rfl⟩,q⟩
theorem zn4 {f:Value->Value->Sem Value}{g:Int->Int->Bool}
  (rule:∀ (i j:Int) (t u:Tok) (s:Shared) (Q:Value->Shared->Prop) (E:Value->Shared->Prop),Q (.bool (g i j)) s->wpAny (model X.prog X.w) X.A (f (.int i t) (.int j u)) Q E s) :
  OpR X f (rI0 fun i j=>.bl (g i j)):=by
 intro pins s U H x y v u Q I rx ry h
 obtain⟨i,j,rfl,rfl,q⟩:=h
 obtain⟨t,rfl⟩:=rx
 obtain⟨t',rfl⟩:=ry
 exact rule i j t t' s _ _ ⟨.bl (g i j),H,I,rfl,q⟩
def zyc (i j:Int):Prop:=0<=j/\j<=1000000/\i.natAbs<2 ^ 64
def zop (i j:Int):Prop:=(-(2 ^ 64)<i/\i<2 ^ 64)\/(-(2 ^ 64)<j/\j<2 ^ 64)
theorem zop.ok {i j:Int}(h:zop i j):IntMulOk i j:=by
 rcases h with ⟨h1,h2⟩ | ⟨h1,h2⟩
 ·exact .of_left (intBits_le_64 h1 h2)
 ·exact .of_right (intBits_le_64 h1 h2)
theorem zuR:OpR X (binaryOp .Add) (rI0 fun i j=>.int (i+j)):=zux fun _ _ _ _ _ _ _ q=>add_int q
theorem zvY:OpR X (binaryOp .Sub) (rI0 fun i j=>.int (i-j)):=zux fun _ _ _ _ _ _ _ q=>sub_int q
theorem ztW:OpR X (binaryOp .Mod) (rI (fun _ j=>j≠0) fun i j=>.int (i.fmod j)):=opI fun _ _ _ _ _ _ _ hc q=>mod_int' hc q
theorem zt8:OpR X (binaryOp .Pow) (rI zyc fun i j=>.int (i ^ j.toNat)):=opI fun _ _ _ _ _ _ _ hc q=>pow_int_small hc.1 hc.2.1 hc.2.2 q
theorem unI {f:Value->Sem Value}{g:Int->Int}
  (rule:∀ (i:Int) (t:Tok) (s:Shared) (Q:Value->Shared->Prop) (E:Value->Shared->Prop),Q (.int (g i) s.toks) { s with toks:=s.toks+1 }->wpAny (model X.prog X.w) X.A (f (.int i t)) Q E s) :
  UnR X f (rU fun i=>.int (g i)):=by
 intro pins s U H x v Q I rx h
 obtain⟨i,rfl,q⟩:=h
 obtain⟨t,rfl⟩:=rx
 exact rule i t s _ _ ⟨.int (g i),H,I.tok _,⟨_,rfl⟩,q⟩
theorem zva:UnR X (unaryOp .USub) (rU fun i=>.int (-i)):=unI fun _ _ _ _ _ q=>neg_int q
end
section
variable {X:Cx}{a b c:Expr}{ta tb tc:TE}{pos:Pos}
theorem zlX {pins:List (Addr×Obj)}{U:St}{H:Hp}{s:Shared}{Q:VK}{k k':Bool}(I:Inv X pins U H s)(q:Q (.bl k) H)(e:k=k'):EP X pins U Q (.bool k') s:=by
 subst e
 exact⟨.bl k,H,I,rfl,q⟩
theorem zxi:OpR X (compareOp .Lt) (rI0 fun i j=>.bl (decide (i<j))):=zn4 fun _ _ _ _ _ _ _ q=>lt_int q
theorem zw0:OpR X (compareOp .LtE) (rI0 fun i j=>.bl (decide (i<=j))):=zn4 fun _ _ _ _ _ _ _ q=>le_int q
theorem zxn:OpR X (compareOp .Gt) (rI0 fun i j=>.bl (decide (j<i))):=zn4 fun _ _ _ _ _ _ _ q=>gt_int q
theorem zw6:OpR X (compareOp .GtE) (rI0 fun i j=>.bl (decide (j<=i))):=zn4 fun _ _ _ _ _ _ _ q=>ge_int q
theorem zpt:OpR X (compareOp .In) (fun x y H Q=>∃ i j,x=.str i/\y=.str j/\Q (.bl (!(Builtin.Str.occurrences j i 0 j.length 1).isEmpty)) H):=by
 intro pins s U H x y v u Q I rx ry h
 obtain⟨i,j,rfl,rfl,q⟩:=h
 obtain⟨t,rfl⟩:=rx
 obtain⟨t',rfl⟩:=ry
 exact in_str (zlX I q rfl)
theorem zte:OpR X (compareOp .IsNot) (fun x y H Q=>y=.non/\Q (.bl (!decide (x=.non))) H):=by
  intro pins s U H x y v u Q I rx ry h
  obtain⟨rfl,q⟩:=h
  cases ry
  refine isnot_none_gen (zlX I q ?_)
  cases x<;>first
    | (cases rx;rfl)
    | (obtain⟨t,rfl⟩:=rx;rfl)
theorem zlF:OpR X (compareOp .NotIn) (fun x y H Q=>∃ i j,x=.str i/\y=.str j/\Q (.bl (!(!(Builtin.Str.occurrences j i 0 j.length 1).isEmpty))) H):=by
 intro pins s U H x y v u Q I rx ry h
 obtain⟨i,j,rfl,rfl,q⟩:=h
 obtain⟨t,rfl⟩:=rx
 obtain⟨t',rfl⟩:=ry
 exact notIn_str (zlX I q rfl)
theorem OpR.or {f:Value->Value->Sem Value}{r r':R2}(h:OpR X f r)(h':OpR X f r'):OpR X f (fun x y H Q=>r x y H Q\/r' x y H Q):=by
 intro pins s U H x y v u Q I rx ry q
 rcases q with q | q
 ·exact h pins s U H x y v u Q I rx ry q
 ·exact h' pins s U H x y v u Q I rx ry q
theorem zpp (b:Expr){op:CmpOp}(h:op≠.In:=by decide)(h2:op≠.NotIn:=by decide):behindInMarks op b=false:=by
  have e1:(op==CmpOp.In)=false:=by cases op<;>first | rfl | exact absurd rfl h
  have e2:(op==CmpOp.NotIn)=false:=by cases op<;>first | rfl | exact absurd rfl h2
  cases b<;>simp [behindInMarks,e1,e2]
theorem zny {op:CmpOp}{r:R2}(ho:OpR X (compareOp op) r)(ha:PE X a ta)(hb:PE X b tb)(hm:behindInMarks op b=false):PE X (.Compare a [op] [b] pos) (tOp r ta tb):=by
 intro pins s U H Q I h
 exact wpAny_Compare1 (zrZ ha hb I h fun v u s2 x y H2 I2 rx ry q=>ho pins s2 U H2 x y v u Q I2 rx ry q) hm
def zsp (t:TE):TT:=fun U H Q=>t U H fun x H'=>∃ k,x=.bl k/\Q k H'
theorem znJ {op:CmpOp}{r:R2}(ho:OpR X (compareOp op) r)(ha:PE X a ta)(hb:PE X b tb)(hm:behindInMarks op b=false):PT X (.Compare a [op] [b] pos) (zsp (tOp r ta tb)):=by
 intro pins s U H Q I h
 refine wpAny_isTrue_Compare1 (thn (ha pins s U H _ I h) fun v s1 ⟨x,H1,I1,r1,q1⟩=>thn (hb pins s1 U H1 _ I1 q1) fun u s2 ⟨y,H2,I2,r2,q2⟩ =>
  thn (ho pins s2 U H2 x y v u _ I2 r1 r2 q2) fun c s3 ⟨z,H3,I3,r3,k,e,q3⟩=>?_) hm
 subst e
 cases r3
 exact wpAny_truthy_bool ⟨H3,I3,q3⟩
def zmF (r r':R2)(ta tb tc:TE):TE:=fun U H Q=>ta U H fun x H1=>tb U H1 fun y H2=>r x y H2 fun z H3=>∃ k,z=.bl k /\
 (if k=true then tc U H3 fun w' H4=>r' y w' H4 Q else Q (.bl false) H3)
theorem zrl {op op':CmpOp}{r r':R2}(ho:OpR X (compareOp op) r)(ho':OpR X (compareOp op') r')(ha:PE X a ta)(hb:PE X b tb)(hc:PE X c tc)
  (hm:lastMarks [op,op'] [b,c]=false:=by with_unfolding_all rfl):PE X (.Compare a [op,op'] [b,c] pos) (zmF r r' ta tb tc):=by
 intro pins s U H Q I h
 refine Compare_chain (thn (ha pins s U H _ I h) fun v s1 ⟨x,H1,I1,r1,q1⟩=>chain_link (thn (hb pins s1 U H1 _ I1 q1) fun u s2 ⟨y,H2,I2,r2,q2⟩ =>
  thn (ho pins s2 U H2 x y v u _ I2 r1 r2 q2) fun d s3 ⟨z,H3,I3,r3,k,e,q3⟩=>?_)) hm
 subst e
 cases r3
 refine wpAny_truthy_bool ?_
 cases k with
 | false=>exact ite_ff ⟨.bl false,H3,I3,rfl,q3⟩
 | true=>exact ite_tt (chain_last (thn (hc pins s3 U H3 _ I3 q3) fun w' s4 ⟨z',H4,I4,r4,q4⟩=>ho' pins s4 U H4 y z' u w' Q I4 r2 r4 q4))
theorem zqT {op op':CmpOp}{r r':R2}(ho:OpR X (compareOp op) r)(ho':OpR X (compareOp op') r')(ha:PE X a ta)(hb:PE X b tb)(hc:PE X c tc)
  (hm:lastMarks [op,op'] [b,c]=false:=by with_unfolding_all rfl):PT X (.Compare a [op,op'] [b,c] pos) (zsp (zmF r r' ta tb tc)):=by
 intro pins s U H Q I h
 refine isTrue_chain (thn (ha pins s U H _ I h) fun v s1 ⟨x,H1,I1,r1,q1⟩=>test_link (thn (hb pins s1 U H1 _ I1 q1) fun u s2 ⟨y,H2,I2,r2,q2⟩ =>
  thn (ho pins s2 U H2 x y v u _ I2 r1 r2 q2) fun d s3 ⟨z,H3,I3,r3,k,e,q3⟩=>?_)) hm
 subst e
 cases r3
 refine wpAny_truthy_bool ?_
 cases k with
 | false =>
  obtain⟨k',e',q'⟩:=q3
  cases e'
  exact ite_ff ⟨H3,I3,q'⟩
 | true =>
  refine ite_tt (test_last (thn (hc pins s3 U H3 _ I3 q3) fun w' s4 ⟨z',H4,I4,r4,q4⟩=>thn (ho' pins s4 U H4 y z' u w' _ I4 r2 r4 q4) fun d' s5 ⟨z2,H5,I5,r5,k2,e2,q5⟩=>?_))
  subst e2
  cases r5
  exact wpAny_truthy_bool ⟨H5,I5,q5⟩
theorem zgj:(sizeLine:Nat)<2 ^ 63:=by rw [sizeLine_eq];decide
theorem zod:OpR X (binaryOp .Add) (fun x y H Q=>∃ i j,x=.str i/\y=.str j/\i.length+j.length<=sizeLine/\Q (.str (i++j)) H):=by
 intro pins s U H x y v u Q I rx ry h
 obtain⟨i,j,rfl,rfl,hz,q⟩:=h
 obtain⟨t,rfl⟩:=rx
 obtain⟨t',rfl⟩:=ry
 exact add_str (fun t' tk=>⟨.str (i++j),H,I.tok _,⟨_,rfl⟩,q⟩) hz
theorem vals1 {x:V}{us:List Value}(r:Vals [x] us):∃ u,us=[u]/\RelV x u:=by
 cases r with
 | cons r1 r2=>cases r2;exact⟨_,rfl,r1⟩
theorem vals2 {x y:V}{us:List Value}(r:Vals [x,y] us):∃ u w',us=[u,w']/\RelV x u/\RelV y w':=by
 cases r with
 | cons r1 r2 =>
  cases r2 with
  | cons r3 r4=>cases r4;exact⟨_,_,rfl,r1,r3⟩
theorem zrR:zaI X (.builtin "abs") (fun xs H Q=>∃ i,xs=[.int i]/\Q (.int (if i<0 then -i else i)) H):=by
 intro pins s U H xs us Q I r h
 obtain⟨i,rfl,q⟩:=h
 obtain⟨u,rfl,t,rfl⟩:=vals1 r
 exact call_abs_int fun u tk=>⟨.int (if i<0 then -i else i),H,I.tok _,⟨_,rfl⟩,q⟩
theorem zp2 (hc:X.calm=true):zaI X (.builtin "max") (fun xs H Q=>∃ i j,xs=[.int i,.int j]/\Q (.int (if j > i then j else i)) H):=by
 intro pins s U H xs us Q I r h
 obtain⟨i,j,rfl,q⟩:=h
 obtain⟨u,w',rfl,⟨t,rfl⟩,⟨t',rfl⟩⟩:=vals2 r
 refine max_two_ints (I.ok.hd hc) fun h' tk k=>⟨_,H,I.kept k,?_,q⟩
 by_cases hj:j > i
 ·rw [if_pos hj,if_pos hj];exact⟨_,rfl⟩
 ·rw [if_neg hj,if_neg hj];exact⟨_,rfl⟩
theorem zqF (hc:X.calm=true):zaI X (.builtin "min") (fun xs H Q=>∃ i j,xs=[.int i,.int j]/\Q (.int (if j<i then j else i)) H):=by
 intro pins s U H xs us Q I r h
 obtain⟨i,j,rfl,q⟩:=h
 obtain⟨u,w',rfl,⟨t,rfl⟩,⟨t',rfl⟩⟩:=vals2 r
 refine min_two_ints (I.ok.hd hc) fun h' tk k=>⟨_,H,I.kept k,?_,q⟩
 by_cases hj:j<i
 ·rw [if_pos hj,if_pos hj];exact⟨_,rfl⟩
 ·rw [if_neg hj,if_neg hj];exact⟨_,rfl⟩
theorem zqg:zaI X (.type "int") (fun xs H Q=>(∃ i,xs=[.int i]/\Q (.int i) H)\/∃ k,xs=[.bl k]/\Q (.int (if k then 1 else 0)) H):=by
 intro pins s U H xs us Q I r h
 rcases h with ⟨i,rfl,q⟩ | ⟨k,rfl,q⟩
 ·obtain⟨u,rfl,t,rfl⟩:=vals1 r
  exact call_int_int ⟨.int i,H,I,⟨_,rfl⟩,q⟩
 ·obtain⟨u,rfl,r1⟩:=vals1 r
  cases r1
  exact call_int_bool ⟨.int (if k then 1 else 0),H,I.tok _,⟨_,rfl⟩,q⟩
end
structure zjZ (h:Heap)(x dx C:Addr)(mA:Str->Option Value):Prop where
 obj:h.get? x=some (PySem.W.instObj C dx)
 ns:h.Ns1 dx mA
 ne:dx≠x
theorem zqK {h:Heap}{dx:Addr}{mA:Str->Option Value}(n:h.Ns1 dx mA):∃ od,h.get? dx=some od/\∀ name,PySem.W.lookIn name od=some (mA name):=by
 obtain⟨o,es,ep,ho,hd,hk,_,hm⟩:=n
 refine⟨o,ho,fun name=>?_⟩
 have e:=hm name
 unfold nsFind findBy at e
 rw [<- Array.find?_toList] at e
 unfold PySem.W.lookIn
 rw [hd]
 dsimp only
 split
 ·rename_i y q
  rw [q] at e
  exact congrArg some e
 ·rename_i q
  rw [q] at e
  have a:es.toList.any (·.refKey)=false:=by
   rw [List.any_eq_false]
   intro y hy
   obtain⟨z,t,hkey⟩:=hk y (Array.mem_toList_iff.mp hy)
   simp [DictEntry.refKey,hkey]
  have a':¬ es.toList.any (·.refKey)=true:=by rw [a];exact Bool.false_ne_true
  rw [if_neg a']
  exact congrArg some e
theorem zjZ.look {h:Heap}{x dx C:Addr}{mA:Str->Option Value}(I:zjZ h x dx C mA):∃ od,PySem.W.InstAt h x (PySem.W.instObj C dx) C (some od)/\∀ name,PySem.W.lookIn name od=some (mA name) :=
 let ⟨od,ho,hl⟩:=zqK I.ns
 ⟨od,⟨I.obj,rfl,rfl,ho⟩,hl⟩
section
variable {prog:Program}{w:World}{A:Around}{E:Value->Shared->Prop}{s:Shared}{K:PySem.W.Frag}{x dx C f:Addr}{mA:Str->Option Value}{name:Str}{v:Value}
theorem get_map {expr:Bool}{Q:Value->Shared->Prop}(X:K.In s.heap)(I:zjZ s.heap x dx C mA)(hg:PySem.W.plainGet K C name=true)(hh:PySem.W.hasDictIn K C=true)
  (ha:PySem.W.findIn K (.ref C) name=some none) (hv:mA name=some v) (hv':PySem.W.handedIn v=true) (h:Q v { s with toks:=s.toks+1 }) :
  wpAny (model prog w) A (getAttr (.ref x) name expr) Q E s:=by
 obtain⟨od,J,hl⟩:=I.look
 exact PySem.W.get_value X J (PySem.W.plainGet_of hg).1 (PySem.W.findObj_own hh ha rfl (by rw [hl,hv])) hv' h
theorem ztP {ns:List Str}{Q:Unit->Shared->Prop}(X:K.In s.heap)(I:zjZ s.heap x dx C mA)
  (hs:PySem.W.findIn K (.ref C) "__setattr__"=some (some (.builtin "object.__setattr__"))) (hp:PySem.W.plainOver K C=true) (ht:PySem.W.takerIn K C name=some none) (hh:PySem.W.hasDictIn K C=true)
  (hw:PySem.Within mA ns) (hsz:ns.length<=sizeLine)
  (h:∀ h',zjZ h' x dx C (fun y=>if y=name then some v else mA y)->Heap.SameBut dx s.heap h'->Q () { s with heap:=h',toks:=s.toks+2 }) :
  wpAny (model prog w) A (setAttr (.ref x) name v) Q E s:=by
 obtain⟨od,J,hl⟩:=I.look
 refine PySem.W.set_plain X J hs (PySem.W.osa_open (s:={ s with toks:=s.toks+1 }) (r:=none) X J hp ht fun b=>?_)
 obtain⟨cd,hc,hd'⟩:=PySem.W.any_some hh
 have hx:s.heap.get? x=some ⟨.ref C,some dx,.plain,#[]⟩:=I.obj
 refine wpAny_bind (wpAny_pure (wpAny_bind (wpAny_bind (wpAny_loadPart hx (wpAny_bind (PySem.W.Looks.here (s:={ s with toks:=s.toks+1 }) (PySem.W.looks_clsIn X hc) ?_))))))
 rw [hd']
 refine wpAny_pure (a:=some dx) (wpAny_bind (wpAny_pure (wpAny_bind ?_)))
 refine wpAny_nsSet1 (s:={ s with toks:=s.toks+1 }) I.ns fun h' hn2 hs2=>?_
 obtain⟨oD,esD,epD,hoD,hdD,hcD⟩:=hn2.count (PySem.Within.cons name v hw)
 refine wpAny_bind (wpAny_lookBehind hoD (by rw [hdD];exact pastItsLine_dict (Nat.le_trans hcD (by rw [List.length_cons];omega))) ?_)
 exact wpAny_pure (h _ ⟨(hs2.2 _ (Ne.symm I.ne)).trans I.obj,hn2,I.ne⟩ hs2)
theorem zrG {R:Result->Shared->Prop}{vs:List Value}{kw:List (Str×Value)}(X:K.In s.heap)(hm:PySem.W.makesIn K C=true)
    (hi:PySem.W.findIn K (.ref C) "__init__"=some (some (.ref f))) (hf:PySem.W.typeIn K (.ref f)=some (.type "function"))
    (h:codeAny (model prog w) (A.under (.builtin "type.__call__" ⟨.ref C::vs,kw⟩)) (.call (.ref f) ⟨.ref (s.heap.objs.size+1)::vs,kw⟩) (PySem.W.InitBack (s.heap.objs.size+1) R)
      { s with heap:=(s.heap.push PySem.W.emptyDict).push (PySem.W.instObj C s.heap.objs.size) }) :
    codeAny (model prog w) A (.call (.ref C) ⟨vs,kw⟩) R s:=by
  obtain⟨hh,g,d,t,os⟩:=s
  exact PySem.W.make_core (PySem.W.makes_of X hm) (PySem.W.looks_findIn X hi) (fun self=>PySem.W.bind_fn X self hf) (.inl rfl) h
end
def zb3 (f:Str)(v:V):List (Str×V)->List (Str×V)
 | []=>[(f,v)]
 | (g,x)::r=>if g=f then (g,v)::r else (g,x)::zb3 f v r
theorem ziQ (f g:Str)(v:V):∀ fs:List (Str×V),(zb3 f v fs).lookup g=if g=f then some v else fs.lookup g
 | []=>by
  show List.lookup g [(f,v)]=_
  by_cases h:g=f
  ·have hb:(g==f)=true:=beq_iff_eq.mpr h
   simp only [List.lookup,hb,if_pos h]
  ·have hb:(g==f)=false:=beq_eq_false_iff_ne.mpr h
   simp only [List.lookup,hb,if_neg h]
 | (k,x)::r=>by
  have ih:=ziQ f g v r
  rw [show zb3 f v ((k,x)::r)=(if k=f then (k,v)::r else (k,x)::zb3 f v r) from rfl]
  by_cases hk:k=f
  ·rw [if_pos hk]
   by_cases h:g=k
   ·have hb:(g==k)=true:=beq_iff_eq.mpr h
    simp only [List.lookup,hb,if_pos (h.trans hk)]
   ·have hb:(g==k)=false:=beq_eq_false_iff_ne.mpr h
    simp only [List.lookup,hb,if_neg (fun e:g=f=>h (e.trans hk.symm))]
  ·rw [if_neg hk]
   by_cases h:g=k
   ·have hb:(g==k)=true:=beq_iff_eq.mpr h
    simp only [List.lookup,hb,if_neg (fun e:g=f=>hk (h.symm.trans e))]
   ·have hb:(g==k)=false:=beq_eq_false_iff_ne.mpr h
    simp only [List.lookup,hb]
    exact ih
theorem zhQ (f:Str)(v:V):∀ fs:List (Str×V),f∈(zb3 f v fs).map (·.1)/\∀ g,g∈fs.map (·.1)->g∈(zb3 f v fs).map (·.1)
 | []=>⟨by simp [zb3],fun g h=>by simp at h⟩
 | (k,x)::r=>by
  obtain⟨i1,i2⟩:=zhQ f v r
  rw [show zb3 f v ((k,x)::r)=(if k=f then (k,v)::r else (k,x)::zb3 f v r) from rfl]
  by_cases hk:k=f
  ·rw [if_pos hk]
   subst hk
   exact⟨by simp,fun g h=>by simpa using h⟩
  ·rw [if_neg hk]
   refine⟨?_,fun g h=>?_⟩
   ·rw [List.map_cons]
    exact List.mem_cons_of_mem _ i1
   ·rw [List.map_cons] at h ⊢
    rcases qh.mp h with e | e
    ·exact qh.mpr (.inl e)
    ·exact List.mem_cons_of_mem _ (i2 g e)
theorem ziS (f:Str)(v:V):∀ fs:List (Str×V),(zb3 f v fs).length<=fs.length+1
 | []=>by simp [zb3]
 | (k,x)::r=>by
  have ih:=ziS f v r
  rw [show zb3 f v ((k,x)::r)=(if k=f then (k,v)::r else (k,x)::zb3 f v r) from rfl]
  by_cases hk:k=f
  ·rw [if_pos hk,List.length_cons,List.length_cons];omega
  ·rw [if_neg hk,List.length_cons,List.length_cons];omega
theorem zjf.some_of {v:V}{o:Option Value}(r:zjf (some v) o):∃ u,o=some u/\RelV v u:=by
 cases o with
 | none=>exact (show False from r).elim
 | some u=>exact⟨u,rfl,r⟩
theorem zpv {v:V}{u:Value}(r:RelV v u):PySem.W.handedIn u=true:=by
 cases v with
 | non=>cases (show u=Value.none from r);rfl
 | bl b=>cases (show u=Value.bool b from r);rfl
 | int i=>obtain⟨t,e⟩:=(show ∃ t,u=Value.int i t from r);cases e;rfl
 | str x=>obtain⟨t,e⟩:=(show ∃ t,u=Value.str x t from r);cases e;rfl
 | byt b=>obtain⟨t,e⟩:=(show ∃ t,u=Value.bytes b t from r);cases e;rfl
 | flt b=>obtain⟨t,e⟩:=(show ∃ t,u=Value.float b t from r);cases e;rfl
 | ref a=>cases (show u=Value.ref a from r);rfl
 | ty n=>cases (show u=Value.type n from r);rfl
section
variable {P:Program}{w:World}{H H':Hp}{h h':Heap}{a C dx:Addr}{fs fs':List (Str×V)}
theorem zkk (hok:HOk P w H h)(e:H a=some (.ins C dx fs)):∃ mA,zjZ h a dx C mA/\(∀ f,zjf (fs.lookup f) (mA f))/\PySem.Within mA (fs.map (·.1))/\fs.length<=1000/\H dx=some (.own a):=by
 obtain⟨d,z,ne,ob,mA,n,r,q⟩:=(show zbj P w H h a (.ins C dx fs) from hok a _ e)
 exact⟨mA,⟨ob,n,ne⟩,r,q,z,d⟩
end
structure Cls (K:PySem.W.Frag)(C:Addr):Prop where
 pg:PySem.W.plainGet K C Str.empty=true
 hd:PySem.W.hasDictIn K C=true
 po:PySem.W.plainOver K C=true
 sa:PySem.W.findIn K (.ref C) "__setattr__"=some (some (.builtin "object.__setattr__"))
theorem Cls.get {K:PySem.W.Frag}{C:Addr}(c:Cls K C)(f:Str):PySem.W.plainGet K C f=true:=c.pg
def zaB (K:PySem.W.Frag)(C:Addr)(f:Str):Prop:=PySem.W.findIn K (.ref C) f=some none
theorem zaB.taker {K:PySem.W.Frag}{C:Addr}{f:Str}(n:zaB K C f):PySem.W.takerIn K C f=some none:=by
 unfold PySem.W.takerIn
 rw [show PySem.W.findIn K (.ref C) f=some none from n]
 rfl
section
variable {X:Cx}{pins:List (Addr×Obj)}{U:St}{H:Hp}{s:Shared}{a C dx:Addr}{fs:List (Str×V)}{f:Str}{v:V}{A:Around}{E:Value->Shared->Prop}
theorem zo1 {b:Bool}{Q:Value->Shared->Prop}(I:Inv X pins U H s)(e:H a=some (.ins C dx fs))(c:Cls X.K C)(n:zaB X.K C f)(l:fs.lookup f=some v)
  (h:∀ u s',Inv X pins U H s'->RelV v u->Q u s'):wpAny (model X.prog X.w) A (getAttr (.ref a) f b) Q E s:=by
 obtain⟨mA,O,r,_,_,_⟩:=zkk I.hok e
 obtain⟨u,hu,ru⟩:=zjf.some_of (v:=v) (o:=mA f) (by rw [<- l];exact r f)
 exact get_map I.kIn O (c.get f) c.hd n hu (zpv ru) (h u _ (I.tok _) ru)
theorem zoZ {y:V}{u:Value}{Q:Unit->Shared->Prop}(I:Inv X pins U H s)(e:H a=some (.ins C dx fs))(c:Cls X.K C)(n:zaB X.K C f)(hl:fs.length<1000)(ry:RelV y u)
  (h:∀ s',Inv X pins U (upd H a (.ins C dx (zb3 f y fs))) s'->Q () s'):wpAny (model X.prog X.w) A (setAttr (.ref a) f u) Q E s:=by
 obtain⟨mA,O,r,wi,_,ho⟩:=zkk I.hok e
 have hz:(fs.map (·.1)).length<=sizeLine:=by rw [qa,sizeLine_eq];omega
 refine ztP I.kIn O c.sa c.po n.taker c.hd wi hz fun h' O' sb=>h _ ?_
 have hd:∃ o,h'.get? dx=some o:=let ⟨o,_,_,e',_⟩:=O'.ns;⟨o,e'⟩
 refine I.write (x:=a) (e:=dx) (by rw [e];exact True.intro) (.inr ho) (fun b q hb z=>(sb.2 b hb).trans z) hd ?_
 refine⟨by rw [zaf O.ne];exact ho,?_,O.ne,O'.obj,_,O'.ns,fun g=>?_,fun g hg=>?_⟩
 ·have:=ziS f y fs;omega
 ·show zjf ((zb3 f y fs).lookup g) (if g=f then some u else mA g)
  rw [ziQ]
  by_cases q:g=f
  ·rw [if_pos q,if_pos q];exact ry
  ·rw [if_neg q,if_neg q];exact r g
 ·by_cases q:g=f
  ·rw [q];exact (zhQ f y fs).1
  ·refine (zhQ f y fs).2 g (wi g fun z=>hg ?_)
   show (if g=f then some u else mA g)=none
   rw [if_neg q];exact z
theorem Inv.made (I:Inv X pins U H s):Inv X pins U (upd (upd H s.heap.objs.size (.own (s.heap.objs.size+1))) (s.heap.objs.size+1) (.ins C s.heap.objs.size []))
    { s with heap:=(s.heap.push PySem.W.emptyDict).push (PySem.W.instObj C s.heap.objs.size) }:=by
  have e1:(s.heap.push PySem.W.emptyDict).get? s.heap.objs.size=some PySem.W.emptyDict:=Heap.get?_push_size s.heap rfl
  have e2:((s.heap.push PySem.W.emptyDict).push (PySem.W.instObj C s.heap.objs.size)).get? (s.heap.objs.size+1)=some (PySem.W.instObj C s.heap.objs.size):=by
    have:=Heap.get?_push_size (s.heap.push PySem.W.emptyDict) (o:=PySem.W.instObj C s.heap.objs.size) rfl
    rwa [Heap.size_push] at this
  have e3:(s.heap.push PySem.W.emptyDict).Ns s.heap.objs.size (fun _=>none):=⟨PySem.W.emptyDict,#[],_,e1,rfl,(fun e he=>absurd he (by simp)),fun _=>rfl⟩
  have I1:=I.laid (a:=s.heap.objs.size) (o:=.own (s.heap.objs.size+1)) (h':=s.heap.push PySem.W.emptyDict) (t':=s.toks) (fun b u q=>qc _ q) (qf _) ⟨_,e1⟩
  refine I1.laid (a:=s.heap.objs.size+1) (o:=.ins C s.heap.objs.size []) (t':=s.toks) (fun b u q=>qc _ q) (Nat.le_of_eq (Heap.size_push _ _)) ?_
  have ne:s.heap.objs.size≠s.heap.objs.size+1:=Nat.ne_of_lt (Nat.lt_succ_self _)
  refine⟨by rw [zaf ne,zaW],Nat.zero_le _,ne,e2,fun _=>none,(Heap.Ns1.of_empty e3).at fun o q=>qc _ q,fun _=>True.intro,fun y hy=>absurd rfl hy⟩
theorem zsQ {prog:Program}{w:World}{env:Env}{e:Expr}{f:Str}{pos:Pos}{s:Shared}{Q:Value->Shared->Prop}(hb:attributeBase e f env (eval e env)=eval e env)
  (h:wpAny (model prog w) A (eval e env) (fun o s₁=>wpAny (model prog w) A (getAttr o f true) Q E s₁) E s):wpAny (model prog w) A (eval (.Attribute e f pos) env) Q E s :=
 Attribute_any_ h (by rw [arm_eval_Attribute,hb])
end
def zxV (K:PySem.W.Frag)(ta:TE)(f:Str):TE:=fun U H Q=>ta U H fun x H1=>∃ a C dx fs v,x=.ref a/\H1 a=some (.ins C dx fs)/\Cls K C/\zaB K C f/\fs.lookup f=some v/\Q v H1
def zxW (K:PySem.W.Frag)(ta tv:TE)(f:Str):TS:=fun D U H=>tv U H fun y H1=>ta U H1 fun x H2=>∃ a C dx fs,x=.ref a/\H2 a=some (.ins C dx fs)/\Cls K C/\zaB K C f/\fs.length<1000 /\
 D.nx U (upd H2 a (.ins C dx (zb3 f y fs)))
section
variable {X:Cx}{o e value:Expr}{f:Str}{pos pos' tpos:Pos}{ta tv:TE}
theorem zvx (he:PE X e ta)(hb:attributeBase e f X.env (eval e X.env)=eval e X.env):PE X (.Attribute e f pos) (zxV X.K ta f):=by
 intro pins s U H Q I h
 refine zsQ hb (thn (he pins s U H _ I h) fun u s1 ⟨x,H1,I1,rx,a,C,dx,fs,v,ex,ea,c,n,l,q⟩=>?_)
 subst ex
 obtain rfl:u=Value.ref a:=rx
 exact zo1 I1 ea c n l fun u' s2 I2 ru=>⟨v,H1,I2,ru,q⟩
theorem zu9 (ha:PE X o ta)(hv:PE X value tv)(hs:swapsWith value (some (.Attribute o f pos')) pos.line X.env=pure false):PS X (.Assign [.Attribute o f pos'] value pos) (zxW X.K ta tv f):=by
 intro pins s U H D I h
 refine plainObj_wpAny_Assign_Attribute (thn (hv pins s U H _ I h) fun u s1 ⟨y,H1,I1,ry,q⟩=>thn (ha pins s1 U H1 _ I1 q) fun ov s2 ⟨x,H2,I2,rx,a,C,dx,fs,ex,ea,c,n,l,q2⟩=>?_) hs
 subst ex
 obtain rfl:ov=Value.ref a:=rx
 exact zoZ I2 ea c n l ry fun s3 I3=>⟨U,_,I3,q2⟩
end
section
variable {X:Cx}{pins:List (Addr×Obj)}{U:St}{H:Hp}{s:Shared}{A:Around}{E:Value->Shared->Prop}{Q:Value->Shared->Prop}{c:Value}{b:Bool}
inductive zex (K:PySem.W.Frag)(H:Hp):V->Value->Prop where
 | non:zex K H .non (.type "NoneType")
 | bl (x:Bool):zex K H (.bl x) (.type "bool")
 | int (i:Int):zex K H (.int i) (.type "int")
 | str (x:Str):zex K H (.str x) (.type "str")
 | flt (x:UInt64):zex K H (.flt x) (.type "float")
 | lst {a:Addr} {xs:List V} (e:H a=some (.lst xs)):zex K H (.ref a) (.type "list")
 | frz {a:Addr} {o:Obj} {xs:List V} (e:H a=some (.frz o (.lst xs))):zex K H (.ref a) (.type "list")
 | tup {a:Addr} {xs:List V} (e:H a=some (.tup xs)):zex K H (.ref a) (.type "tuple")
 | dK {a:Addr} {kvs:List (Key×V)} (e:H a=some (.dK kvs)):zex K H (.ref a) (.type "dict")
 | dT {a:Addr} {kvs:List (List Key×V)} (e:H a=some (.dT kvs)):zex K H (.ref a) (.type "dict")
 | ins {a C dx:Addr} {fs:List (Str×V)} (e:H a=some (.ins C dx fs)) (cl:Cls K C) (ha:PySem.W.findIn K (.ref C) "__class__"=some (some (.builtin "object.__class__")))
   (hn:PySem.W.specialIn K (.builtin "object.__class__") "__get__"=some (some (.builtin "getset_descriptor.__get__"))) (htk:PySem.W.takesIn K (.builtin "object.__class__")=some true)
   (hm:PySem.W.mroIn K C (.type "object")=some true):zex K H (.ref a) (.ref C)
theorem zpF {x:V}{u t:Value}(I:Inv X pins U H s)(rx:RelV x u)(ty:zex X.K H x t)(e:PySem.W.kitOne X.K t c=some b)(h:∀ tk,Q (.bool b) { s with toks:=tk }) :
  wpAny (model X.prog X.w) A (call (.builtin "isinstance") [u,c]) Q E s:=by
 cases ty with
 | non=>cases (show u=Value.none from rx);exact PySem.W.kia_one PySem.W.kitx_none I.kIn True.intro e (fun z=>nomatch z) h
 | bl y=>cases (show u=Value.bool y from rx);exact PySem.W.kia_one PySem.W.kitx_bool I.kIn True.intro e (fun z=>nomatch z) h
 | int i=>obtain⟨t,q⟩:=(show ∃ t,u=Value.int i t from rx);cases q;exact PySem.W.kia_one PySem.W.kitx_int I.kIn True.intro e (fun z=>nomatch z) h
 | str y=>obtain⟨t,q⟩:=(show ∃ t,u=Value.str y t from rx);cases q;exact PySem.W.kia_one PySem.W.kitx_str I.kIn True.intro e (fun z=>nomatch z) h
 | flt y=>obtain⟨t,q⟩:=(show ∃ t,u=Value.float y t from rx);cases q;exact PySem.W.kia_one PySem.W.kitx_float I.kIn True.intro e (fun z=>nomatch z) h
 | @lst a xs ea =>
  cases (show u=Value.ref a from rx)
  obtain⟨_,_,n,_,h1⟩:=(show zbj X.prog X.w H s.heap a (.lst xs) from I.hok a _ ea)
  exact PySem.W.kia_one PySem.W.kitx_list I.kIn ⟨_,h1,rfl⟩ e (fun z=>nomatch z) h
 | @frz a ob xs ea =>
  cases (show u=Value.ref a from rx)
  obtain⟨_,_,_,n,_,h1⟩:=(show zbj X.prog X.w H s.heap a (.frz ob (.lst xs)) from I.hok a _ ea)
  exact PySem.W.kia_one PySem.W.kitx_list I.kIn ⟨_,h1,rfl⟩ e (fun z=>nomatch z) h
 | @tup a xs ea =>
  cases (show u=Value.ref a from rx)
  obtain⟨_,_,_,p⟩:=(show zbj X.prog X.w H s.heap a (.tup xs) from I.hok a _ ea)
  obtain⟨o,h1,h2,_⟩:=p
  exact PySem.W.kia_one PySem.W.kitx_tuple I.kIn ⟨o,h1,h2⟩ e (fun z=>nomatch z) h
 | @dK a kvs ea =>
  cases (show u=Value.ref a from rx)
  obtain⟨_,_,vs,_,p⟩:=(show zbj X.prog X.w H s.heap a (.dK kvs) from I.hok a _ ea)
  obtain⟨o,es,ep,h1,h2,_⟩:=p
  exact PySem.W.kia_one PySem.W.kitx_dict I.kIn ⟨o,h1,h2.1⟩ e (fun z=>nomatch z) h
 | @dT a kvs ea =>
  cases (show u=Value.ref a from rx)
  obtain⟨_,_,xs,_,o,es,ep,h1,h2,_⟩:=(show zbj X.prog X.w H s.heap a (.dT kvs) from I.hok a _ ea)
  exact PySem.W.kia_one PySem.W.kitx_dict I.kIn ⟨o,h1,h2.1⟩ e (fun z=>nomatch z) h
 | @ins a C dx fs ea cl ha hn htk hm =>
  cases (show u=Value.ref a from rx)
  obtain⟨mA,O,_⟩:=zkk I.hok ea
  obtain⟨od,J,_⟩:=O.look
  exact PySem.W.kia_one (PySem.W.kitx_own (cl.get _) cl.hd ha hn htk hm) I.kIn J e (fun z=>nomatch z) h
end
structure zaO (k:Nat)(A:Around):Prop where
 hd:A.handled=none
 dp:A.depth+3*k+5<recursionLimit
 un:A.units+16*k+200<cLine
theorem zaO.mono {j k:Nat}{A:Around}(r:zaO k A)(h:j<=k):zaO j A:=⟨r.hd,by have:=r.dp;omega,by have:=r.un;omega⟩
theorem zaO.deeper {k:Nat}{A:Around}(r:zaO (k+1) A)(env:Env):zaO k (A.deeper env) :=
 ⟨r.hd,by have:=r.dp;show A.depth+1+3*k+5<_;omega,by have:=r.un;show A.units+3+16*k+200<_;omega⟩
theorem zoG {A:Around}{C:Addr}{us:List Value}{kw:List (Str×Value)}:(A.under (.builtin "type.__call__" ⟨.ref C::us,kw⟩)).depth=A.depth+1:=by
 first | rfl | simp [Around.under,Code.weight,Code.isCreation,Code.isGuard,Code.isCaller,Code.frames,Code.isFrame,guardIds]
theorem zpa {A:Around}{C:Addr}{us:List Value}{kw:List (Str×Value)}:(A.under (.builtin "type.__call__" ⟨.ref C::us,kw⟩)).units=A.units+1:=by
 first | rfl | simp [Around.under,Code.cUnits,Code.frames,Code.isFrame]
theorem zaO.make {k:Nat}{A:Around}(r:zaO (k+1) A)(C:Addr)(us:List Value)(kw:List (Str×Value)):zaO k (A.under (.builtin "type.__call__" ⟨.ref C::us,kw⟩)) :=
 ⟨r.hd,by have:=r.dp;rw [zoG];omega,by have:=r.un;rw [zpa];omega⟩
theorem zaO.depth {k:Nat}{A:Around}(r:zaO k A):A.depth<recursionLimit:=by have:=r.dp;omega
theorem zaO.units {k:Nat}{A:Around}(r:zaO k A):A.units+64<cLine:=by have:=r.un;omega
def zxM:TA:=fun _ H Q=>Q [] H
def zxc (ta:TE)(tr:TA):TA:=fun U H Q=>ta U H fun x H1=>tr U H1 fun xs H2=>Q (x::xs) H2
section
variable {X:Cx}{e:Expr}{es:List Expr}{te:TE}{t:TA}{pos:Pos}
theorem zvO:PA X [] zxM:=fun _ _ _ _ H Q I h=>Calls.spliced_nil ⟨[],H,I,.nil,h⟩
theorem ztM (ha:PE X e te)(hr:PA X es t)(hs:starEach (e::es) X.env=(false,eval e X.env)::starEach es X.env:=by rfl):PA X (e::es) (zxc te t):=by
 intro pos pins s U H Q I h
 rw [hs]
 show wpAny _ _ (spliced ((false,eval e X.env)::backTo pos (starEach es X.env))) _ _ s
 refine Calls.spliced_cons (thn (ha pins s U H _ I h) fun u s1 ⟨x,H1,I1,r1,q1⟩=>?_)
 exact thn (hr pos pins s1 U H1 _ I1 q1) fun us s2 ⟨xs,H2,I2,r2,q2⟩=>⟨x::xs,H2,I2,.cons r1 r2,q2⟩
def zx3 (t:TA):TE:=fun U H Q=>t U H fun xs H1=>xs.length<=sizeLine/\∀ p,H1 p=none->Q (.ref p) (upd H1 p (.tup xs))
def zxu (t:TA):TE:=fun U H Q=>t U H fun xs H1=>xs.length<=sizeLine/\∀ p,H1 p=none->Q (.ref p) (upd H1 p (.lst xs))
theorem zuE {x1}(h:PA X es t):PE X (.Tuple es x1 pos) (zx3 t):=by
 intro pins s U H Q I hq
 refine wpAny_Tuple_spliced (thn (h pos pins s U H _ I hq) fun us s1 ⟨xs,H1,I1,r,z,q⟩=>⟨by rw [<- r.length];exact z,?_⟩)
 have hf:H1 s1.heap.objs.size=none:=I1.hok.fresh (qf _)
 refine⟨.ref s1.heap.objs.size,upd H1 s1.heap.objs.size (.tup xs),I1.laid (t':=s1.toks) (fun b u e=>qc _ e) (qf _) ?_,rfl,q _ hf⟩
 exact⟨z,us,r,⟨_,Heap.get?_push_size _ rfl,rfl,_,rfl⟩⟩
theorem zvs (h:PA X es t):PE X (.List es pos) (zxu t):=by
 intro pins s U H Q I hq
 refine wpAny_List_spliced (thn (h pos pins s U H _ I hq) fun us s1 ⟨xs,H1,I1,r,z,q⟩=>⟨by rw [<- r.length];exact z,?_⟩)
 have hf:H1 s1.heap.objs.size=none:=I1.hok.fresh (qf _)
 refine⟨.ref s1.heap.objs.size,upd H1 s1.heap.objs.size (.lst xs),I1.laid (t':=s1.toks) (fun b u e=>qc _ e) (qf _) ?_,rfl,q _ hf⟩
 exact⟨z,us,0,r,Heap.get?_push_size _ rfl⟩
end
abbrev Sp:=List V->Hp->VK->XK->Prop
abbrev CXT:=List Env->Hp->Shared->XK->Value->Shared->Prop
structure ziX (P:Program)(w:World)(K:PySem.W.Frag)(mg:Str->Option Value)(base:Heap)(A:Around)(outer:List Env)(s:Shared)(H:Hp):Prop where
 frames:A.frames=some outer
 mod:Mod K mg base
 bs:∀ b o,base.get? b=some o->s.heap.get? b=some o/\H b=none
 bsz:base.objs.size<=s.heap.objs.size
 funs:s.heap.FunFrames base outer
 frf:∀ b∈frs outer,H b=none
 hok:HOk P w H s.heap
 bare:AllBare s.gens
def CE (outer:List Env)(P:Program)(w:World)(H:Hp)(s:Shared)(Q:VK)(u:Value)(s':Shared):Prop :=
 ∃ v H',s'.os=s.os/\AllBare s'.gens/\Un (frs outer) [] H H' s.heap s'.heap/\HOk P w H' s'.heap/\RelV v u/\Q v H'
def CR (CX:CXT)(outer:List Env)(P:Program)(w:World)(H:Hp)(s:Shared)(Q:VK)(E:XK)(r:Result)(s':Shared):Prop :=
 match r with
 | .ok (.ret u)=>CE outer P w H s Q u s'
 | .ok _=>False
 | .error e=>CX outer H s E e s'
structure zab (P:Program)(w:World)(K:PySem.W.Frag)(mg:Str->Option Value)(base:Heap)(CX:CXT)(k:Nat)(f:Addr)(fd:FuncData)(ps:List Str)(sp:Sp):Prop where
 len:∀ vs H Q E,sp vs H Q E->vs.length=ps.length
 run:∀ (A:Around) (outer:List Env) (s:Shared) (H:Hp) (args:Args) (us:List Value) (vs:List V) (Q:VK) (E:XK),zaO k A->ziX P w K mg base A outer s H->BindsTo s fd args (ps.zip us)->Vals vs us->sp vs H Q E ->
  codeAny (model P w) A (.call (.ref f) args) (CR CX outer P w H s Q E) s
theorem zab.mono {P:Program}{w:World}{K:PySem.W.Frag}{mg:Str->Option Value}{base:Heap}{CX:CXT}{j k:Nat}{f:Addr}{fd:FuncData}{ps:List Str}{sp:Sp}(F:zab P w K mg base CX j f fd ps sp)(h:j<=k) :
  zab P w K mg base CX k f fd ps sp:=⟨F.len,fun A outer s H args us vs Q E hr=>F.run A outer s H args us vs Q E (hr.mono h)⟩
theorem ziX.make {P:Program}{w:World}{K:PySem.W.Frag}{mg:Str->Option Value}{base:Heap}{A:Around}{outer:List Env}{s:Shared}{H:Hp}(e:ziX P w K mg base A outer s H)(C:Addr)(us:List Value)(kw:List (Str×Value)) :
  ziX P w K mg base (A.under (.builtin "type.__call__" ⟨.ref C::us,kw⟩)) outer s H:=⟨by first | exact e.frames | (simpa [Around.under,Code.envs,Code.isFrame,pushEnvs] using e.frames),e.mod,e.bs,e.bsz,e.funs,e.frf,e.hok,e.bare⟩
section
variable {X:Cx}{pins:List (Addr×Obj)}{U:St}{H:Hp}{s s':Shared}
theorem Inv.env0 (I:Inv X pins U H s):ziX X.prog X.w X.K X.mg X.base X.A X.stack s H :=
 ⟨I.ok.frames,I.ok.mod,I.bs,Nat.le_trans I.ok.bsz I.sz,I.stack,I.stkFree,I.hok,I.bare⟩
theorem Inv.after {Q:VK}{u:Value}(I:Inv X pins U H s)(h:CE X.stack X.prog X.w H s Q u s'):EP X pins U Q u s':=by
 obtain⟨v,H',os,bare,un,hok,r,q⟩:=h
 obtain⟨hh,g,d,t,os'⟩:=s'
 obtain rfl:os'=s.os:=os
 exact⟨v,H',I.call (h':=hh) (g':=g) (d':=d) (t':=t) (ch:=[]) un hok bare (fun b z=>absurd z (by simp)),r,q⟩
end
def zog (sp:Sp)(dvs:List V)(E:XK)(t:TA):TE:=fun U H Q=>t U H fun vs H1=>sp (vs++dvs) H1 Q E
def Binds (K:PySem.W.Frag)(fd:FuncData)(ps:List Str)(ds:List Value):Prop :=
 ∀ (s:Shared) (us:List Value),K.In s.heap->(us++ds).length=ps.length->BindsTo s fd ⟨us,[]⟩ (ps.zip (us++ds))
theorem Binds.all {K:PySem.W.Frag}{fd:FuncData}{ps:List Str}(h:∀ us:List Value,us.length=ps.length->bindArgs fd ⟨us,[]⟩=pure (ps.zip us)):Binds K fd ps []:=fun s us _ hl=>by
 rw [List.append_nil] at hl ⊢
 exact .of_eq (h us hl)
def Passes (CX:CXT)(X:Cx)(E:XK):Prop:=∀ (pins:List (Addr×Obj)) (U:St) (H:Hp) (s:Shared) (e:Value) (s':Shared),Inv X pins U H s->CX X.stack H s E e s'->X.xe e s'
section
variable {X:Cx}{CX:CXT}{k:Nat}{f C:Addr}{fd:FuncData}{ps:List Str}{sp:Sp}{dvs:List V}{ds:List Value}{E:XK}{x m:Str}{p pos apos:Pos}{e o:Expr}{es:List Expr}{ta:TE}{t:TA}
theorem zvJ {pins:List (Addr×Obj)}{U:St}{H:Hp}{s:Shared}{Q:VK}{us:List Value}{vs:List V}(F:zab X.prog X.w X.K X.mg X.base CX k f fd ps sp)(hr:zaO k X.A)(hb:Binds X.K fd ps ds)(hd:Vals dvs ds)(hx:Passes CX X E)
  (I:Inv X pins U H s) (r:Vals vs us) (h:sp (vs++dvs) H Q E):wpAny (model X.prog X.w) X.A (call (.ref f) us) (EP X pins U Q) X.xe s:=by
 have r2:Vals (vs++dvs) (us++ds):=r.append hd
 have hl:(us++ds).length=ps.length:=by rw [<- r2.length];exact F.len _ _ _ _ h
 refine wpAny_call (codeAny_mono (F.run X.A X.stack s H ⟨us,[]⟩ (us++ds) (vs++dvs) Q E hr I.env0 (hb s us I.kIn hl) r2 h) fun r s' hq=>?_)
 cases r with
 | error e=>exact hx pins U H s e s' I hq
 | ok fl =>
  cases fl with
  | ret u=>exact I.after hq
  | next=>exact False.elim hq
  | brk=>exact False.elim hq
  | cont=>exact False.elim hq
theorem ztm (F:zab X.prog X.w X.K X.mg X.base CX k f fd ps sp)(hr:zaO k X.A)(hg:Gl X x)(hm:X.mg x=some (.ref f))(hk:PySem.W.keepIn X.K (.ref f)=true)(hb:Binds X.K fd ps ds)(hd:Vals dvs ds)(hx:Passes CX X E)
  (ha:PA X (e::es) t) (hdb:(x==("__debug__":Str))=false:=by decide) (he:starEach (e::es) X.env=(false,eval e X.env)::starEach es X.env:=by rfl) (hpl:(backTo pos (starEach es X.env)).any (·.1)=false:=by rfl) :
  PE X (.Call (.Name x p) (e::es) [] pos) (zog sp dvs E t):=by
 intro pins s U H Q I h
 refine wpAny_Call_Name_kw (zgh I hg hm ?_ hdb)
 refine PySem.W.callWith_K (h₀:=X.base) I.ok.mod.kin hk (thn (ha pos pins s U H _ I h) fun us s1 ⟨vs,H1,I1,r,q⟩=>⟨I1.kIn,?_⟩) he hpl
 exact zvJ F hr hb hd hx I1 r q
structure Mk (K:PySem.W.Frag)(C f:Addr):Prop where
 makes:PySem.W.makesIn K C=true
 init:PySem.W.findIn K (.ref C) "__init__"=some (some (.ref f))
 fn:PySem.W.isFn K (.ref f)=true
 kp:PySem.W.keepIn K (.ref C)=true
theorem zqM {pins:List (Addr×Obj)}{U:St}{H:Hp}{s:Shared}{Q:VK}{us:List Value}{vs:List V}(M:Mk X.K C f)(F:zab X.prog X.w X.K X.mg X.base CX k f fd ps sp)(hr:zaO (k+1) X.A)(hb:Binds X.K fd ps ds)(hd:Vals dvs ds)
  (hx:Passes CX X E) (I:Inv X pins U H s) (r:Vals vs us)
  (h:∀ x dx,H x=none->H dx=none->dx≠x->sp (.ref x::(vs++dvs)) (upd (upd H dx (.own x)) x (.ins C dx [])) (fun v H2=>v=.non/\Q (.ref x) H2) E) :
  wpAny (model X.prog X.w) X.A (call (.ref C) us) (EP X pins U Q) X.xe s:=by
 have hq:=h (s.heap.objs.size+1) s.heap.objs.size (I.hok.fresh (Nat.le_succ _)) (I.hok.fresh (qf _)) (Nat.ne_of_lt (Nat.lt_succ_self _))
 have I2:=Inv.made (C:=C) I
 have r2:Vals (V.ref (s.heap.objs.size+1)::(vs++dvs)) (Value.ref (s.heap.objs.size+1)::(us++ds)):=.cons rfl (r.append hd)
 have hl:(Value.ref (s.heap.objs.size+1)::us++ds).length=ps.length:=by
  have e:=r2.length
  rw [F.len _ _ _ _ hq] at e
  exact e.symm
 refine wpAny_call (zrG (f:=f) I.kIn M.makes M.init (beq_iff_eq.mp M.fn) (codeAny_mono (F.run _ X.stack _ _ ⟨Value.ref (s.heap.objs.size+1)::us,[]⟩ (Value.ref (s.heap.objs.size+1)::(us++ds)) _ _ E (hr.make C us [])
  (I2.env0.make C us []) (hb _ (Value.ref (s.heap.objs.size+1)::us) I2.kIn hl) r2 hq) fun r s' hq'=>?_))
 cases r with
 | error e=>exact hx pins U _ _ e s' I2 hq'
 | ok fl =>
  cases fl with
  | ret u =>
   obtain⟨v,H',I3,rv,ev,q3⟩:=I2.after hq'
   subst ev
   exact⟨rv,⟨V.ref (s.heap.objs.size+1),H',I3,rfl,q3⟩⟩
  | next=>exact False.elim hq'
  | brk=>exact False.elim hq'
  | cont=>exact False.elim hq'
end
section
variable {X:Cx}{CX:CXT}{k:Nat}{f C:Addr}{fd:FuncData}{ps ks:List Str}{sp:Sp}{E:XK}{x m:Str}{p pos apos kpos:Pos}{e o:Expr}{es:List Expr}{kws:List Keyword}{te ta:TE}{t tk:TA}{nm:Option Str}
variable {g:List Value->List Value->List Value}{gV:List V->List V->List V}
end
structure zQ (N P:List Str)(sc:Scope):Prop where
 kind:sc.kind=.function
 co:sc.isCoroutine=false
 gen:sc.isGenerator=false
 nd:N.Nodup
 pre:N.take P.length=P
 par:∀ x∈P,sc.names.lookup x=some .local\/sc.names.lookup x=some .cell
 nofree:∀ y∈sc.names,y.2≠.free
theorem zkN {kindOf:Str->Option NameKind}{x:Str}:∀ {binds:List (Str×Value)} {m:Str->Option Value},(∀ v,(x,v)∉binds)->bindL kindOf binds m x=m x
 | [],_,_=>rfl
 | (n,v)::r,m,h=>by
  unfold bindL
  rw [zkN fun w hw=>h w (List.mem_cons_of_mem _ hw)]
  split
  ·have:x≠n:=by rintro rfl;exact h v List.mem_cons_self
   simp [this]
  ·rfl
theorem zkz {kindOf:Str->Option NameKind}{x:Str}:∀ {binds:List (Str×Value)} {m:Str->Option Value},(∀ v,(x,v)∉binds)->bindC kindOf binds m x=m x
 | [],_,_=>rfl
 | (n,v)::r,m,h=>by
  unfold bindC
  rw [zkz fun w hw=>h w (List.mem_cons_of_mem _ hw)]
  split
  ·rfl
  ·have:x≠n:=by rintro rfl;exact h v List.mem_cons_self
   simp [this]
theorem zkD {kindOf:Str->Option NameKind}{x:Str}{v:Value}:∀ {P:List Str} {vs:List Value} {i:Nat} {m:Str->Option Value},P.Nodup->P[i]?=some x->vs[i]?=some v->kindOf x=some .local ->
  bindL kindOf (P.zip vs) m x=some v
 | [],_,_,_,_,h,_,_=>by simp at h
 | _::_,[],_,_,_,_,h,_=>by simp at h
 | p::P,w::vs,0,m,nd,h1,h2,hk=>by
  simp at h1 h2;subst h1;subst h2
  show bindL kindOf ((p,w)::P.zip vs) m p=_
  unfold bindL
  rw [zkN fun v hv=>(List.nodup_cons.mp nd).1 (List.of_mem_zip hv).1,if_pos hk]
  simp
 | p::P,w::vs,i+1,m,nd,h1,h2,hk=>by
  show bindL kindOf ((p,w)::P.zip vs) m x=_
  unfold bindL
  exact zkD (i:=i) (List.nodup_cons.mp nd).2 (by simpa using h1) (by simpa using h2) hk
theorem zkQ {kindOf:Str->Option NameKind}{x:Str}{v:Value}:∀ {P:List Str} {vs:List Value} {i:Nat} {m:Str->Option Value},P.Nodup->P[i]?=some x->vs[i]?=some v->kindOf x≠some .local ->
  bindC kindOf (P.zip vs) m x=some v
 | [],_,_,_,_,h,_,_=>by simp at h
 | _::_,[],_,_,_,_,h,_=>by simp at h
 | p::P,w::vs,0,m,nd,h1,h2,hk=>by
  simp at h1 h2;subst h1;subst h2
  show bindC kindOf ((p,w)::P.zip vs) m p=_
  unfold bindC
  rw [zkz fun v hv=>(List.nodup_cons.mp nd).1 (List.of_mem_zip hv).1,if_neg hk]
  simp
 | p::P,w::vs,i+1,m,nd,h1,h2,hk=>by
  show bindC kindOf ((p,w)::P.zip vs) m x=_
  unfold bindC
  exact zkQ (i:=i) (List.nodup_cons.mp nd).2 (by simpa using h1) (by simpa using h2) hk
def start (N:List Str)(vs:List V):St:=vs.map some++List.replicate (N.length-vs.length) none
def zf5 (CX:CXT)(P:Program)(w:World)(K:PySem.W.Frag)(mg:Str->Option Value)(base:Heap)(N:List Str)(qual:Str)(scope:Scope)(f:Addr)(cd:Value)(A:Around)(outer:List Env)(s:Shared)(H:Hp)(E:XK):Cx where
 prog:=P
 w:=w
 K:=K
 mg:=mg
 base:=base
 A:=A.deeper (envOfC qual scope s.heap.objs.size f cd)
 N:=N
 s₀:=s
 H₀:=H
 env:=envOfC qual scope s.heap.objs.size f cd
 outer:=outer
 stack:=envOfC qual scope s.heap.objs.size f cd::outer
 ex:=[]
 calm:=true
 fn:=fun _=>true
 pn:=[]
 xe:=fun e s'=>wpAny (model P w) (A.deeper (envOfC qual scope s.heap.objs.size f cd)) (leaving (envOfC qual scope s.heap.objs.size f cd) e) (fun _ s''=>CX outer H s E e s'') (fun e' s''=>CX outer H s E e' s'') s'
theorem zlI {sc:Scope}{n:Nat}{x:Str}(h:sc.names.lookup x=some .cell):∃ c,(cellsFrom n sc.names []).lookup x=some c:=by
 have q:=PySem.W.cellsFrom_some sc.names n [] (.inl h)
 exact Option.isSome_iff_exists.mp q
theorem zp4 {CX:CXT}{P:Program}{w:World}{K:PySem.W.Frag}{mg:Str->Option Value}{base:Heap}{N ps:List Str}{qual:Str}{scope:Scope}{f:Addr}{cd:Value}{A:Around}{outer:List Env}{s s1:Shared}{H:Hp}{E:XK}{us:List Value}{vs:List V}
    (S:zQ N ps scope) (hd:A.handled=none) (e0:ziX P w K mg base A outer s H) (hl:vs.length=ps.length) (r:Vals vs us)
    (x:InCallC s s.heap.objs.size (bindL (envOfC qual scope s.heap.objs.size f cd).kindOf (ps.zip us) fun _=>none) (cellsFrom (s.heap.objs.size+1) scope.names []) (bindC (envOfC qual scope s.heap.objs.size f cd).kindOf (ps.zip us) fun _=>none) s1) :
    Inv (zf5 CX P w K mg base N qual scope f cd A outer s H E) [] (start N vs) H s1:=by
  have hpl:ps.length<=N.length:=by have:=congrArg List.length S.pre;rw [List.length_take] at this;omega
  obtain⟨h1,tk,rfl,hk⟩:=x.done
  have noA:∀ b:Addr,b∉(zf5 CX P w K mg base N qual scope f cd A outer s H E).ex:=fun b z=>absurd (show b∈([]:List Addr) from z) (by simp)
  refine⟨⟨e0.mod,S.kind,rfl,rfl,qf _,fun y z c h1 h2=>?_,fun y hy=>?_,fun y c _ h=>?_,fun _=>hd,Around.frames_deeper e0.frames,.inr ⟨rfl,rfl⟩,fun b z=>absurd z (noA b),e0.bs,e0.bsz,fun b _ _=>noA b,fun b z=>absurd z (noA b),e0.funs,e0.frf⟩,
    rfl,e0.bare,Un.kept hk,⟨_,x.toInCall.ns,fun i y v h1 h2 h3=>?_⟩,fun y c h=>⟨_,x.cell y c h⟩,e0.hok.fresh (qf _),fun y c h=>?_,fun p hp=>absurd (show p∈([]:List (Addr×Obj)) from hp) (by simp),e0.hok.kept hk,?_⟩
  . exact name_of_addr x.apart (PySem.mem_of_lookup h1) (PySem.mem_of_lookup h2)
  . have hy:scope.names.lookup y=some .cell\/scope.names.lookup y=some .free:=hy
    rcases hy with hy | hy
    . exact zlI hy
    . exact absurd rfl (S.nofree _ (PySem.mem_of_lookup hy))
  . exact Nat.le_of_lt (x.above y c (PySem.mem_of_lookup h))
  . have hi : i < vs.length := by
      unfold start at h2
      by_cases hi:i<vs.length
      . exact hi
      . rw [qk (by simpa using hi)] at h2
        rw [List.getElem?_replicate] at h2
        split at h2<;>cases h2
    have ha:vs[i]?=some v:=by
      unfold start at h2
      rw [List.getElem?_append_left (by simpa using hi),qg] at h2
      cases e:vs[i]? with
      | none=>rw [e] at h2;cases h2
      | some a=>rw [e] at h2;cases h2;rfl
    obtain⟨u,hu,rv⟩:=r.get ha
    have hp:ps[i]?=some y:=by
      rw [<- S.pre,List.getElem?_take_of_lt (by omega)];exact h1
    have ndP:ps.Nodup:=by rw [<- S.pre];exact S.nd.sublist (List.take_sublist _ _)
    refine⟨u,rv,?_⟩
    rcases S.par y (qd hp) with k | k
    . exact .inl ⟨k,zkD ndP hp hu k⟩
    . obtain⟨c,e⟩:=zlI (n:=s.heap.objs.size+1) k
      refine .inr ⟨.inl k,c,e,?_⟩
      have q:=x.cell y c e
      rw [zkQ ndP hp hu (by show scope.names.lookup y≠_;rw [k];decide)] at q
      exact q
  . exact e0.hok.fresh (Nat.le_of_lt (x.above y c (PySem.mem_of_lookup h)))
  . unfold start
    show _=N.length
    rw [qe,qa,List.length_replicate]
    omega
theorem zr8 {CX:CXT}{P:Program}{w:World}{K:PySem.W.Frag}{mg:Str->Option Value}{base:Heap}{k:Nat}{f:Addr}{name qual:Str}{params:Arguments}{body:List Stmt}{scope:Scope}{dV kV doc pm cdv ct oc:Value}{an od:Option Addr}
  {osl:Array (Option Value)} {N ps:List Str} {sp:Sp} (lk:K.lookup f=some ⟨oc,od,.func (PySem.W.fnOf name qual params body scope dV kV doc pm an cdv ct),osl⟩) (hcd:PySem.W.codeIn K cdv qual=true) (S:zQ N ps scope)
  (len:∀ vs H Q E,sp vs H Q E->vs.length=ps.length)
  (hbody:∀ (A:Around) (outer:List Env) (s:Shared) (H:Hp) (vs:List V) (Q:VK) (E:XK),zaO k (A.deeper (envOfC qual scope s.heap.objs.size f cdv))->sp vs H Q E ->
   ∃ t,PSs (zf5 CX P w K mg base N qual scope f cdv A outer s H E) body t/\t { nx:=fun _ H'=>Q .non H',rt:=Q } (start N vs) H) :
  zab P w K mg base CX (k+1) f (PySem.W.fnOf name qual params body scope dV kV doc pm an cdv ct) ps sp:=by
 refine⟨len,fun A outer s H args us vs Q E hr e0 hb r hsp=>?_⟩
 have hl:=len _ _ _ _ hsp
 have KX:K.In s.heap:=e0.mod.kin.keeps fun b o e=>(e0.bs b o e).1
 have lim:s.heap.NoLimit:=e0.mod.nolimit.keeps fun b o e=>(e0.bs b o e).1
 have hkind:∀ y∈ps.zip us,scope.names.lookup y.1=some .local\/(scope.names.lookup y.1=some .cell/\((cellsFrom (s.heap.objs.size+1) scope.names []).lookup y.1).isSome=true):=fun⟨n,v⟩ hy=>by
  rcases S.par n (List.of_mem_zip hy).1 with q | q
  ·exact .inl q
  ·exact .inr ⟨q,PySem.W.cellsFrom_some _ _ _ (.inl q)⟩
 refine codeAny_call_function hr.depth (KX _ _ lk) rfl S.co S.gen rfl (PySem.W.codeRec_of KX hcd) (hb _ _ _ _ ?_)
 refine wpAny_newFunctionEnv_cells S.kind hkind fun env he s1 x=>?_
 subst he
 refine⟨lim.keeps x.toInCall.keep,codeAny_func ?_⟩
 obtain⟨t,ht,hq⟩:=hbody A outer s H vs Q E (hr.deeper _) hsp
 have I:Inv (zf5 CX P w K mg base N qual scope f cdv A outer s H E) [] (start N vs) H s1:=zp4 S hr.hd e0 hl r x
 refine wpAny_mono (ht [] s1 (start N vs) H _ I hq) (fun fl s' hs=>?_) fun e s' hs=>hs
 have fin:∀ {σ':St} {H':Hp} {v:V} {u:Value},Inv (zf5 CX P w K mg base N qual scope f cdv A outer s H E) [] σ' H' s'->RelV v u->Q v H'->CE outer P w H s Q u s' :=
  fun {σ' H' v u} J rv q=>⟨v,H',J.os,J.bare,J.base,J.hok,rv,q⟩
 cases fl with
 | ret u =>
  obtain⟨v,σ',H',J,rv,q⟩:=hs
  exact fin J rv q
 | next =>
  obtain⟨σ',H',J,q⟩:=hs
  exact fin (v:=V.non) (u:=Value.none) J rfl q
 | brk =>
  obtain⟨_,_,_,q⟩:=hs
  exact False.elim q
 | cont =>
  obtain⟨_,_,_,q⟩:=hs
  exact False.elim q
section
variable {X:Cx}{x:Str}{p pos:Pos}{e:Expr}{es:List Expr}{t:TA}{id T:String}{r:List V->Hp->VK->Prop}
def tCB (r:List V->Hp->VK->Prop)(t:TA):TE:=fun U H Q=>t U H fun vs H1=>r vs H1 Q
theorem zrs (hc:zaI X (.builtin id) r)(hg:Gl X x)(hm:X.mg x=none)(hv:bootBuiltins x=some (.builtin id))(ha:PA X (e::es) t)(hn:x≠"__name__":=by decide)(hdb:(x==("__debug__":Str))=false:=by decide)
  (he:starEach (e::es) X.env=(false,eval e X.env)::starEach es X.env:=by rfl) (hpl:(backTo pos (starEach es X.env)).any (·.1)=false:=by rfl):PE X (.Call (.Name x p) (e::es) [] pos) (tCB r t):=by
 intro pins s U H Q I h
 refine wpAny_Call_Name_kw (zc2 I hg hm hv ?_ hn hdb)
 exact PyProof.Rows.callWith_builtin1 (thn (ha pos pins s U H _ I h) fun us s1 ⟨vs,H1,I1,r1,q1⟩=>hc pins s1 U H1 vs us Q I1 r1 q1) he hpl
theorem zpG (hc:zaI X (.type T) r)(hg:Gl X x)(hm:X.mg x=none)(hv:bootBuiltins x=some (.type T))(ha:PA X (e::es) t)(hn:x≠"__name__":=by decide)(hdb:(x==("__debug__":Str))=false:=by decide)
  (he:starEach (e::es) X.env=(false,eval e X.env)::starEach es X.env:=by rfl) (hpl:(backTo pos (starEach es X.env)).any (·.1)=false:=by rfl):PE X (.Call (.Name x p) (e::es) [] pos) (tCB r t):=by
 intro pins s U H Q I h
 refine wpAny_Call_Name_kw (zc2 I hg hm hv ?_ hn hdb)
 exact PyProof.Rows.callWith_type1 (thn (ha pos pins s U H _ I h) fun us s1 ⟨vs,H1,I1,r1,q1⟩=>hc pins s1 U H1 vs us Q I1 r1 q1) he hpl
end
end L2
namespace HT
open PySem PyProof.Rows
section
open PySem.SeqAt
open PySem.AutoSeq1 (wpAny_loadPart')
open PySem.MeetsSeq PySem.MeetsSeq2 PySem.MeetsSeq3
end
section
variable {prog:Program}{w:World}{A:Around}{E:Value->Shared->Prop}{s:Shared}
theorem zt0 {t b:Addr}{vs ws:List Value}{Q:Value->Shared->Prop}(ht:IsTup s.heap t vs.toArray)(hb:IsTup s.heap b ws.toArray)(hv:vs≠[])
  (h1:ws=[]->Q (.ref t) s) (h2:ws≠[]->Q (.ref s.heap.objs.size) { s with heap:=s.heap.push { cls:=.type "tuple",data:=.seq (vs++ws).toArray } })
  (hsz:vs.length+ws.length<=sizeLine):wpAny (model prog w) A (binaryOp .Add (.ref t) (.ref b)) Q E s:=by
 obtain⟨⟨cls,dd,data,sl⟩,ho,hc,n,hd⟩:=id ht
 obtain⟨⟨cls2,dd2,data2,sl2⟩,ho2,hc2,n2,hd2⟩:=id hb
 simp only at hc hd hc2 hd2
 subst hc hd hc2 hd2
 have e:vs.toArray++ws.toArray=(vs++ws).toArray:=by simp
 by_cases hw:ws=[]
 ·exact concat_meets ⟨_,ho,rfl⟩ ⟨_,ho2,rfl⟩ noFill_tuple_add seq_tuple_add PySem.F.slot_tuple_add PySem.F.entry_tuple_add (PySem.F.args_tuple_add_2 _ _)
   (tuple_addW1 t b vs.toArray ws.toArray n n2 dd dd2 sl sl2 (by simpa using hv) (by simp [hw])) ⟨ho,ho2,h1 hw⟩
 ·refine concat_meets ⟨_,ho,rfl⟩ ⟨_,ho2,rfl⟩ noFill_tuple_add seq_tuple_add PySem.F.slot_tuple_add PySem.F.entry_tuple_add (PySem.F.args_tuple_add_2 _ _)
   (tuple_addW2 t b vs.toArray ws.toArray n n2 dd dd2 sl sl2 (by simpa using hv) (by simpa using hw) (by rw [qi,qi];exact hsz)) ⟨ho,ho2,?_⟩
  rw [e]
  exact h2 hw
def sIx (n d:Nat):Option Int->Nat
 | none=>d
 | some v=>if v<0 then (v+(n:Int)).toNat else min v.toNat n
theorem zjs (n d:Nat)(hd:d<=n)(o:Option Int):sIx n d o<=n:=by
 cases o with
 | none=>exact hd
 | some v =>
  show (if v<0 then (v+(n:Int)).toNat else min v.toNat n)<=n
  by_cases hv:v<0
  ·rw [if_pos hv];omega
  ·rw [if_neg hv];exact Nat.min_le_right _ _
theorem znQ (v:Int)(n d:Nat):(if v<0 then max (v+(n:Int)) 0 else min v (n:Int))=((sIx n d (some v):Nat):Int):=by
 show (if v<0 then max (v+(n:Int)) 0 else min v (n:Int))=(((if v<0 then (v+(n:Int)).toNat else min v.toNat n):Nat):Int)
 by_cases hv:v<0
 ·simp only [if_pos hv];omega
 ·simp only [if_neg hv];omega
theorem zoX (lo hi:Option Int)(n:Nat):Builtin.Slice.sliceAdjust lo hi 1 (n:Int)=(((sIx n 0 lo:Nat):Int),((sIx n n hi:Nat):Int)):=by
 have h1:¬ ((1:Int)<0):=by omega
 unfold Builtin.Slice.sliceAdjust
 simp only [h1,if_false]
 refine Prod.ext ?_ ?_
 ·cases lo with
  | none=>rfl
  | some v=>exact znQ v n 0
 ·cases hi with
  | none=>rfl
  | some v=>exact znQ v n n
theorem zoB (i j:Nat):Builtin.Slice.slicePlaces (i:Int) (j:Int) 1=j-i:=by
  unfold Builtin.Slice.slicePlaces
  have h1:(1:Int) > 0:=by omega
  simp only [h1,if_true,Int.ediv_one]
  split<;>omega
theorem zjE {v:Value}{o:Option Int}{Q:Option Int->Shared->Prop}(p:IsPart v o)(h:Q o s):wpAny (model prog w) A (Builtin.Slice.slicePartIndex v) Q E s:=by
 cases p with
 | none=>exact slicePart_none h
 | int i t=>exact slicePart_int h
theorem zfq {sl:Addr}{vl vu:Value}{lo hi:Option Int}{n:Nat}{Q:Int×Int×Nat->Shared->Prop}(hs:s.heap.IsSliceOf sl vl vu .none)(pl:IsPart vl lo)(pu:IsPart vu hi)
  (h:Q (((sIx n 0 lo:Nat):Int),1,sIx n n hi-sIx n 0 lo) s):wpAny (model prog w) A (Builtin.Slice.sliceApplied (.ref sl) (pure (n:Int))) Q E s:=by
 obtain⟨os,hos,hcs,hds⟩:=id hs
 unfold Builtin.Slice.sliceApplied Builtin.Slice.sliceFields
 refine wpAny_bind (wpAny_bind (wpAny_field hos hds (x:=vl) rfl (wpAny_bind (wpAny_field hos hds (x:=vu) rfl (wpAny_bind (wpAny_field hos hds (x:=.none) rfl (wpAny_pure ?_)))))))
 refine wpAny_bind (slicePart_none ?_)
 show wpAny _ _ (if ((1:Int)==0)=true then _ else _) _ _ s
 rw [if_neg (by decide)]
 refine wpAny_bind (zjE pl (wpAny_bind (zjE pu (wpAny_bind (wpAny_pure ?_)))))
 show wpAny _ _ (match Builtin.Slice.sliceAdjust lo hi 1 (n:Int) with | (lo,hi)=>pure (lo,(1:Int),Builtin.Slice.slicePlaces lo hi 1)) _ _ s
 rw [zoX lo hi n]
 show wpAny _ _ (pure (((sIx n 0 lo:Nat):Int),(1:Int),Builtin.Slice.slicePlaces ((sIx n 0 lo:Nat):Int) ((sIx n n hi:Nat):Int) 1)) _ _ s
 rw [zoB]
 exact wpAny_pure h
theorem zre (xs:Array Value)(i k:Nat):((List.range k).filterMap fun (m:Nat)=>xs[((i:Int)+(m:Int)*1).toNat]?).toArray=((xs.toList.drop i).take k).toArray:=by
 have e:(fun (m:Nat)=>xs[((i:Int)+(m:Int)*1).toNat]?)=fun m=>xs[i+m]?:=by
  funext m
  have:((i:Int)+(m:Int)*1).toNat=i+m:=by omega
  rw [this]
 rw [e]
 have:=pick_run xs i k
 rw [List.filterMap_map] at this
 have e2:((fun x=>xs[x]?) ∘ fun x=>i+x)=fun m=>xs[i+m]?:=rfl
 rw [e2] at this
 rw [this]
theorem ziO {t sl:Addr}{items:Array Value}{vl vu:Value}{lo hi:Option Int}{Q:Value->Shared->Prop}(ht:IsTup s.heap t items)(hs:s.heap.IsSliceOf sl vl vu .none)(pl:IsPart vl lo)(pu:IsPart vu hi)
  (hw:¬ (sIx items.size 0 lo=0/\sIx items.size items.size hi=items.size))
  (h:Q (.ref s.heap.objs.size) { s with heap:=s.heap.push { cls:=.type "tuple",data:=.seq ((items.toList.drop (sIx items.size 0 lo)).take (sIx items.size items.size hi-sIx items.size 0 lo)).toArray } })
  (hsz:items.size<=sizeLine):wpAny (model prog w) A (getItem (.ref t) (.ref sl)) Q E s:=by
 have htake:sizeOk (.seq ((items.toList.drop (sIx items.size 0 lo)).take (sIx items.size items.size hi-sIx items.size 0 lo)).toArray):=by
  show ((items.toList.drop (sIx items.size 0 lo)).take (sIx items.size items.size hi-sIx items.size 0 lo)).toArray.size<=sizeLine
  rw [qi,List.length_take,List.length_drop,Array.length_toList]
  omega
 have hj:sIx items.size items.size hi<=items.size:=zjs _ _ (qf _) hi
 obtain⟨os,hos,hcs,hds⟩:=id hs
 have hTs:s.TypeIs (.ref sl) "slice":=⟨os,hos,hcs⟩
 unfold getItem
 try with_reducible refine wpAny_holding ?_
 first | refine wpAny_bind (wpAny_pure ?_) | skip
 refine wpAny_bind (wpAny_sequenceKey ht.typeIs (by decide) ?_)
 refine wpAny_bind (wpAny_callSpecial?_slot (name:=Str.ofString "__getitem__") ht.typeIs PyProof.Rows.slot_tuple_getitem
  (wpAny_call_entry PyProof.Rows.slot_tuple_getitem ht.typeIs entry_tuple_getitem ?_ (args_tuple_getitem _ _)))
 show wpAny _ _ (Builtin.Tuple.tupleItemsOf (.ref t) >>= _) _ _ s
 refine wpAny_bind (tupleItemsOf_ ht ?_)
 refine wpAny_bind (wpAny_typeOf hTs ?_)
 rw [if_pos (by decide)]
 refine wpAny_bind (zfq hs pl pu ?_)
 have hno:¬ ((((sIx items.size 0 lo:Nat):Int)==0&&(1:Int)==1&&(sIx items.size items.size hi-sIx items.size 0 lo)==items.size)=true):=by
  intro q
  rw [Bool.and_eq_true,Bool.and_eq_true] at q
  have q1:((sIx items.size 0 lo:Nat):Int)=0:=eq_of_beq q.1.1
  have q2:sIx items.size items.size hi-sIx items.size 0 lo=items.size:=eq_of_beq q.2
  exact hw ⟨by omega,by omega⟩
 show wpAny _ _ (if (((sIx items.size 0 lo:Nat):Int)==0&&(1:Int)==1&&(sIx items.size items.size hi-sIx items.size 0 lo)==items.size)=true then _ else _) _ _ s
 rw [if_neg hno,zre]
 first
  | exact wpAny_bind (m:=Builtin.Tuple.tupleExact _) (wpAny_newObj_type (wpAny_pure ⟨_,rfl,wpAny_pure h⟩) htake)
  | exact wpAny_bind (m:=Builtin.Tuple.tupleExact _) (wpAny_newObj_type (wpAny_bind (wpAny_pure (wpAny_pure ⟨_,rfl,wpAny_pure h⟩))) htake)
  | exact wpAny_bind (wpAny_bind (m:=Builtin.Tuple.tupleExact _) (wpAny_newObj_type (wpAny_pure (wpAny_pure ⟨_,rfl,wpAny_pure h⟩)) htake))
  | exact wpAny_bind (wpAny_bind (m:=Builtin.Tuple.tupleExact _) (wpAny_newObj_type (wpAny_pure ⟨_,rfl,wpAny_pure h⟩) htake))
end
end HT
namespace L2
open PySem PySem.Spec PyProof.Rows
abbrev TO:=St->Hp->(Option Int->Hp->Prop)->Prop
def PO (X:Cx)(e:Option Expr)(t:TO):Prop :=
 ∀ (pins:List (Addr×Obj)) (s:Shared) (U:St) (H:Hp) (Q:Option Int->Hp->Prop),Inv X pins U H s->t U H Q ->
  wpAny (model X.prog X.w) X.A (evalPart e X.env) (fun u s'=>∃ o H',Inv X pins U H' s'/\IsPart u o/\Q o H') X.xe s
def zsI:TO:=fun _ H Q=>Q none H
def zwL (t:TE):TO:=fun U H Q=>t U H fun x H1=>∃ i,x=.int i/\Q (some i) H1
section
variable {X:Cx}{e:Expr}{te:TE}{lo hi:Option Expr}{tl th:TO}{pos p2:Pos}
theorem zs6:PO X none zsI:=by
 intro pins s U H Q I h
 rw [evalPart_none]
 exact wpAny_pure ⟨none,H,I,.none,h⟩
theorem zsX (h:PE X e te):PO X (some e) (zwL te):=by
 intro pins s U H Q I hw
 rw [evalPart_some]
 refine thn (h pins s U H _ I hw) fun u s1 ⟨x,H1,I1,r1,q1⟩=>?_
 obtain⟨i,rfl,q⟩:=q1
 obtain⟨t,rfl⟩:=r1
 exact⟨some i,H1,I1,.int i t,q⟩
def SlR (X:Cx)(r:V->Option Int->Option Int->Hp->VK->Prop):Prop :=
 ∀ (pins:List (Addr×Obj)) (s:Shared) (U:St) (H:Hp) (x:V) (v vl vu:Value) (lo hi:Option Int) (sl:Addr) (Q:VK),Inv X pins U H s->RelV x v->s.heap.IsSliceOf sl vl vu .none->IsPart vl lo->IsPart vu hi->r x lo hi H Q ->
  ∃ T id,typeLookup (.type T) "__getitem__"=pure (some (.builtin id))/\s.TypeIs v T/\wpAny (model X.prog X.w) X.A (getItem v (.ref sl)) (EP X pins U Q) X.xe s
theorem SlR.or {r r':V->Option Int->Option Int->Hp->VK->Prop}(h:SlR X r)(h':SlR X r'):SlR X (fun x lo hi H Q=>r x lo hi H Q\/r' x lo hi H Q):=by
 intro pins s U H x v vl vu lo hi sl Q I rx hs pl pu q
 rcases q with q | q
 ·exact h pins s U H x v vl vu lo hi sl Q I rx hs pl pu q
 ·exact h' pins s U H x v vl vu lo hi sl Q I rx hs pl pu q
def tSl (r:V->Option Int->Option Int->Hp->VK->Prop)(te:TE)(tl th:TO):TE:=fun U H Q=>te U H fun x H1=>tl U H1 fun l H2=>th U H2 fun u H3=>r x l u H3 Q
theorem zrU {r:V->Option Int->Option Int->Hp->VK->Prop}(hr:SlR X r)(he:PE X e te)(hl:PO X lo tl)(hu:PO X hi th):PE X (.Subscript e (.Slice lo hi none p2) pos) (tSl r te tl th):=by
 intro pins s U H Q I h
 refine Subscript_ (thn (he pins s U H _ I h) fun v s1 ⟨x,H1,I1,r1,q1⟩=>?_)
 refine wpAny_Slice (thn (hl pins s1 U H1 _ I1 q1) fun vl s2 ⟨l,H2,I2,pl,q2⟩=>thn (hu pins s2 U H2 _ I2 q2) fun vu s3 ⟨u,H3,I3,pu,q3⟩=>?_)
 rw [evalPart_none]
 refine wpAny_pure ?_
 have I4:Inv X pins U H3 { s3 with heap:=s3.heap.push { cls:=.type "slice",data:=.fields #[vl,vu,.none] } }:=I3.kept (t':=s3.toks) fun b ob q=>qc _ q
 obtain⟨T,id,hT,ht,hg⟩:=hr pins { s3 with heap:=s3.heap.push { cls:=.type "slice",data:=.fields #[vl,vu,.none] } } U H3 x v vl vu l u s3.heap.objs.size Q I4 r1 (Heap.IsSliceOf.new ..) pl pu q3
 show wpAny (model X.prog X.w) X.A (subscriptTail e (.Slice lo hi none p2) v (.ref s3.heap.objs.size)) (EP X pins U Q) X.xe { s3 with heap:=s3.heap.push { cls:=.type "slice",data:=.fields #[vl,vu,.none] } }
 exact tail_any (ops:=[.ref s3.heap.objs.size,v]) ht hT hg (by with_unfolding_all rfl)
def zgR (xs:List V)(lo hi:Option Int):List V:=(xs.drop (HT.sIx xs.length 0 lo)).take (HT.sIx xs.length xs.length hi-HT.sIx xs.length 0 lo)
theorem ziT (xs:List V)(lo hi:Option Int):(zgR xs lo hi).length<=xs.length:=by
 unfold zgR
 rw [List.length_take,List.length_drop]
 omega
def zx5 (K:PySem.W.Frag):V->Option Int->Option Int->Hp->VK->Prop:=fun x lo hi H Q=>∃ a xs,x=.ref a/\SqT K H a xs /\
 ¬ (HT.sIx xs.length 0 lo=0/\HT.sIx xs.length xs.length hi=xs.length)/\∀ p,H p=none->Q (.ref p) (upd H p (.tup (zgR xs lo hi)))
theorem zuA:SlR X (zx5 X.K):=by
 intro pins s U H x v vl vu lo hi sl Q I rx hs pl pu h
 obtain⟨a,xs,rfl,hx,hw,q⟩:=h
 cases rx
 obtain⟨its,r,ht,hz⟩:=I.tuple hx
 have hlen:its.toArray.size=xs.length:=by rw [qi];exact r.length.symm
 refine⟨"tuple",_,PyProof.Rows.slot_tuple_getitem.lookup,ht.typeIs,?_⟩
 refine HT.ziO ht hs pl pu (by rw [hlen];exact hw) ?_ (by rw [hlen];exact hz)
 rw [hlen]
 refine⟨.ref s.heap.objs.size,_,I.laid (t':=s.toks) (o:=.tup (zgR xs lo hi)) (fun b ob q=>qc _ q) (qf _) ?_,rfl,q _ (I.hok.fresh (qf _))⟩
 exact⟨Nat.le_trans (ziT xs lo hi) hz,_,(r.drop (HT.sIx xs.length 0 lo)).take (HT.sIx xs.length xs.length hi-HT.sIx xs.length 0 lo),IsTup.new _ _⟩
def zxm (K:PySem.W.Frag):R2:=fun x y H Q=>∃ a b xs ys,x=.ref a/\y=.ref b/\SqT K H a xs/\SqT K H b ys/\xs≠[]/\xs.length+ys.length<=sizeLine /\
 (ys=[]->Q (.ref a) H)/\(ys≠[]->∀ p,H p=none->Q (.ref p) (upd H p (.tup (xs++ys))))
theorem Vals.nil_iff {xs:List V}{us:List Value}(r:Vals xs us):us=[]↔xs=[]:=by
 cases r with
 | nil=>simp
 | cons _ _=>simp
theorem ztG:OpR X (binaryOp .Add) (zxm X.K):=by
 intro pins s U H x y v u Q I rx ry h
 obtain⟨a,b,xs,ys,rfl,rfl,ha,hb,hx,hz,q1,q2⟩:=h
 cases rx
 cases ry
 obtain⟨its,r1,p1,_⟩:=I.tuple ha
 obtain⟨its2,r2,p2,_⟩:=I.tuple hb
 refine HT.zt0 p1 p2 (fun z=>hx (r1.nil_iff.mp z)) (fun z=>⟨.ref a,H,I,rfl,q1 (r2.nil_iff.mp z)⟩) (fun z=>?_) (by rw [<- r1.length,<- r2.length];exact hz)
 refine⟨.ref s.heap.objs.size,_,I.laid (t':=s.toks) (o:=.tup (xs++ys)) (fun b ob q=>qc _ q) (qf _) ?_,rfl,q2 (fun w=>z (r2.nil_iff.mpr w)) _ (I.hok.fresh (qf _))⟩
 exact⟨by rw [qe];exact hz,_,r1.append r2,IsTup.new _ _⟩
end
def ixN (n:Nat)(i:Int):Option Nat:=if 0<=i then (if i<n then some i.toNat else none) else if -(n:Int)<=i then some (i+n).toNat else none
def atI {α:Type}(xs:List α)(i:Int):Option α:=(ixN xs.length i).bind fun j=>xs[j]?
theorem zns {n:Nat}{i:Int}{j:Nat}(h:ixN n i=some j):seqIndex? i n=some j/\j<n/\-(n:Int)<=i/\i<n:=by
 unfold ixN at h
 by_cases h0:0<=i
 ·rw [if_pos h0] at h
  by_cases h1:i<n
  ·rw [if_pos h1] at h
   have e:i.toNat=j:=Option.some.inj h
   exact⟨by rw [seqIndex_of h0 h1,e],by omega,by omega,h1⟩
  ·rw [if_neg h1] at h;cases h
 ·rw [if_neg h0] at h
  by_cases h1:-(n:Int)<=i
  ·rw [if_pos h1] at h
   have e:(i+n).toNat=j:=Option.some.inj h
   exact⟨by rw [seqIndex_neg (by omega) h1,e],by omega,h1,by omega⟩
  ·rw [if_neg h1] at h;cases h
theorem zkv {α:Type}{xs:List α}{i:Int}{v:α}(h:atI xs i=some v):∃ j,seqIndex? i xs.length=some j/\xs[j]?=some v/\j<xs.length/\-(xs.length:Int)<=i/\i<xs.length:=by
 unfold atI at h
 cases e:ixN xs.length i with
 | none=>rw [e] at h;cases h
 | some j =>
  rw [e] at h
  obtain⟨h1,h2,h3,h4⟩:=zns e
  exact⟨j,h1,h,h2,h3,h4⟩
def znq (b:Expr):Prop:=∀ o i,subscripted b false o i=operate [o,i] (getItem o i)
def IxR (X:Cx)(r:R2):Prop :=
 ∀ (value slice:Expr) (pins:List (Addr×Obj)) (s:Shared) (U:St) (H:Hp) (x y:V) (v u:Value) (Q:VK),Inv X pins U H s->RelV x v->RelV y u->r x y H Q ->
  subscripted slice false v u=operate [v,u] (getItem v u)->wpAny (model X.prog X.w) X.A (subscriptTail value slice v u) (EP X pins U Q) X.xe s
def MtR (X:Cx)(id:String)(r:V->List V->Hp->VK->Prop):Prop :=
 ∀ (pins:List (Addr×Obj)) (s:Shared) (U:St) (H:Hp) (x:V) (xs:List V) (v:Value) (us:List Value) (Q:VK),Inv X pins U H s->RelV x v->Vals xs us->r x xs H Q ->
  wpAny (model X.prog X.w) X.A (call (.builtin id) (v::us)) (EP X pins U Q) X.xe s
section
variable {X:Cx}{a b:Expr}{ta tb:TE}{pos:Pos}
theorem IxR.or {r r':R2}(h:IxR X r)(h':IxR X r'):IxR X (fun x y H Q=>r x y H Q\/r' x y H Q):=by
 intro value slice pins s U H x y v u Q I rx ry q hs
 rcases q with q | q
 ·exact h value slice pins s U H x y v u Q I rx ry q hs
 ·exact h' value slice pins s U H x y v u Q I rx ry q hs
theorem zv7 {r:R2}(hr:IxR X r)(ha:PE X a ta)(hb:PE X b tb)(hs:znq b):PE X (.Subscript a b pos) (tOp r ta tb):=by
 intro pins s U H Q I h
 exact Subscript_ (zrZ ha hb I h fun v u s2 x y H2 I2 rx ry q=>hr a b pins s2 U H2 x y v u Q I2 rx ry q (hs _ _))
def zxw (K:PySem.W.Frag):R2:=fun x y H Q=>∃ p xs i v,x=.ref p/\y=.int i/\SqL K H p xs/\atI xs i=some v/\Q v H
def zxz (K:PySem.W.Frag):R2:=fun x y H Q=>∃ p xs i v,x=.ref p/\y=.int i/\SqT K H p xs/\atI xs i=some v/\Q v H
def zxF:R2:=fun x y H Q=>∃ z i c,x=.str z/\y=.int i/\z.length<=sizeLine/\atI z.cps.toList i=some c/\Q (.str ⟨#[c]⟩) H
theorem zs3:IxR X (zxw X.K):=by
  intro value slice pins s U H x y v u Q I rx ry h hs
  obtain⟨p,xs,i,z,rfl,rfl,hq,he,q⟩:=h
  cases rx
  obtain⟨t,rfl⟩:=ry
  obtain⟨its,r,pl,hz⟩:=I.list hq
  obtain⟨j,h1,h2,h3,h4,h5⟩:=zkv he
  obtain⟨w,ew,rw'⟩:=r.get h2
  have hl:=r.length
  have hn:=zgj
  have fin:EP X pins U Q w s:=⟨z,H,I,rw',q⟩
  by_cases h0:0<=i
  . have hj : i.toNat = j := by
      rw [seqIndex_of h0 h5] at h1
      exact Option.some.inj h1
    exact item_listR pl.isList h0 (by omega) (by rw [hj];simpa using ew) fin hs
  . have hj : (i + (its.toArray.size : Int)).toNat = j := by
      rw [seqIndex_neg (by omega) h4] at h1
      rw [qi,<- hl]
      exact Option.some.inj h1
    exact subscriptTail_builtinR (x:=w) pl.isList.typeIs slot_list_getitem.lookup
      (wpAny_getItem_list_neg (Q:=fun r s'=>r=w/\EP X pins U Q r s') pl.isList (by omega) (by rw [qi]<;>omega) (by omega) (by rw [hj];simpa using ew) ⟨rfl,fin⟩) hs
theorem zvl:IxR X (zxz X.K):=by
 intro value slice pins s U H x y v u Q I rx ry h hs
 obtain⟨p,xs,i,z,rfl,rfl,hq,he,q⟩:=h
 cases rx
 obtain⟨t,rfl⟩:=ry
 obtain⟨its,r,pl,hz⟩:=I.tuple hq
 obtain⟨j,h1,h2,h3,h4,h5⟩:=zkv he
 obtain⟨w,ew,rw'⟩:=r.get h2
 have hl:=r.length
 have hn:=zgj
 have fin:EP X pins U Q w s:=⟨z,H,I,rw',q⟩
 exact subscriptTail_builtinR (x:=w) pl.typeIs slot_tuple_getitem.lookup
  (getItem_tuple (j:=j) (Q:=fun r s'=>r=w/\EP X pins U Q r s') pl (by omega) (by omega) (by rw [qi,<- hl];exact h1) (by simpa using ew) ⟨rfl,fin⟩) hs
theorem zvr:IxR X zxF:=by
 intro value slice pins s U H x y v u Q I rx ry h hs
 obtain⟨z,i,c,rfl,rfl,hz,he,q⟩:=h
 obtain⟨t,rfl⟩:=rx
 obtain⟨t',rfl⟩:=ry
 obtain⟨j,h1,h2,h3,h4,h5⟩:=zkv he
 have hl:z.cps.toList.length=z.length:=by simp [Str.length]
 rw [hl] at h1 h4 h5
 have hn:=zgj
 exact tail_any (typeIs_str s z t) slot_str_getitem.lookup (getItem_str (c:=c) (by
  have e1:decide (i < -(2 ^ 63:Int))=false:=decide_eq_false (by omega)
  have e2:decide (i ≥ 2 ^ 63)=false:=decide_eq_false (by omega)
  rw [e1,e2,Bool.or_false]) (by rw [h1];simpa using h2) ⟨.str ⟨#[c]⟩,H,I.tok _,⟨_,rfl⟩,q⟩) hs
theorem zoQ (its:List Value)(n j:Nat)(u:Value):Obj.mapSeq (·.setIfInBounds j u) { cls:=.type "list",data:=.seq its.toArray n }={ cls:=.type "list",data:=.seq (its.set j u).toArray n }:=by
 simp [Obj.mapSeq]
theorem Inv.lst {pins:List (Addr×Obj)}{U:St}{H:Hp}{s:Shared}{p:Addr}{xs:List V}(I:Inv X pins U H s)(h:H p=some (.lst xs)) :
  ∃ (its:List Value) (n:Nat),Vals xs its/\s.heap.get? p=some { cls:=.type "list",data:=.seq its.toArray n }/\xs.length<=sizeLine:=by
 obtain⟨z,its,n,r,e⟩:=I.hok p _ h
 exact⟨its,n,r,e,z⟩
theorem Inv.lstUpd {pins:List (Addr×Obj)}{U:St}{H:Hp}{s:Shared}{p:Addr}{xs ys:List V}{its its':List Value}{n n':Nat}{f:Obj->Obj}(I:Inv X pins U H s)(h:H p=some (.lst xs))
    (ho:s.heap.get? p=some { cls:=.type "list",data:=.seq its.toArray n }) (hf:f { cls:=.type "list",data:=.seq its.toArray n }={ cls:=.type "list",data:=.seq its'.toArray n' }) (r:Vals ys its') (hz:ys.length<=sizeLine) (t:Nat) :
    Inv X pins U (upd H p (.lst ys)) { s with heap:=s.heap.update p f,toks:=t }:=by
  have e:(s.heap.update p f).get? p=some { cls:=.type "list",data:=.seq its'.toArray n' }:=by
    rw [Heap.get?_update_self f ho (by rw [hf]<;>rfl),hf]
  refine I.write (x:=p) (e:=p) (by rw [h];trivial) (.inl rfl) (fun b u hb q=>(Heap.get?_update_other _ _ (Ne.symm hb)).trans q) ⟨_,e⟩ ?_
  exact⟨hz,its',n',r,e⟩
def zww:V->V->V->Hp->(Hp->Prop)->Prop:=fun o i v H Q=>∃ p xs k j,o=.ref p/\i=.int k/\H p=some (.lst xs)/\ixN xs.length k=some j/\Q (upd H p (.lst (xs.set j v)))
theorem set_list:zuZ X zww:=by
 intro pins s U H o i v ov iv u Q I ro ri rv h
 obtain⟨p,xs,k,j,rfl,rfl,hp,hj,q⟩:=h
 cases ro
 obtain⟨t,rfl⟩:=ri
 obtain⟨its,n,r,ho,hz⟩:=I.lst hp
 obtain⟨h1,h2,h3,h4⟩:=zns hj
 have hl:=r.length
 have hn:=zgj
 have I':Inv X pins U (upd H p (.lst (xs.set j v))) { s with heap:=s.heap.update p (Obj.mapSeq (·.setIfInBounds j u)) } :=
  I.lstUpd hp ho (zoQ its n j u) (r.set rv j) (by rw [List.length_set];exact hz) s.toks
 by_cases h0:0<=k
 ·have hk:k.toNat=j:=by
   rw [seqIndex_of h0 h4] at h1
   exact Option.some.inj h1
  exact PySem.W.ki_setAt ho h0 (by omega) (by rw [qi,<- hl];exact h4) (by rw [hk];exact⟨_,I',q⟩)
 ·have hk:(k+(its.toArray.size:Int)).toNat=j:=by
   rw [seqIndex_neg (by omega) h3] at h1
   rw [qi,<- hl]
   exact Option.some.inj h1
  exact PySem.W.ki_setBack ho (by omega) (by rw [qi,<- hl];exact h3) (by omega) (by rw [hk];exact⟨_,I',q⟩)
theorem zl1 (lo hi:Option Int)(n:Nat):(sliceBounds lo hi none n).1=((HT.sIx n 0 lo:Nat):Int)/\(sliceBounds lo hi none n).2.1=((HT.sIx n n hi:Nat):Int)/\(sliceBounds lo hi none n).2.2=1:=by
  refine⟨?_,?_,rfl⟩
  . cases lo with
    | none=>simp [sliceBounds,HT.sIx]
    | some i =>
      simp only [sliceBounds,HT.sIx,Option.getD_none,show (1:Int) > 0 by decide,if_true]
      by_cases h:i<0
      . simp only [h,if_true]<;>omega
      . simp only [h,if_false]<;>omega
  . cases hi with
    | none=>simp [sliceBounds,HT.sIx]
    | some i =>
      simp only [sliceBounds,HT.sIx,Option.getD_none,show (1:Int) > 0 by decide,if_true]
      by_cases h:i<0
      . simp only [h,if_true]<;>omega
      . simp only [h,if_false]<;>omega
theorem zk5 (its:List Value)(lo hi:Option Int):slicePick its.toArray lo hi none=((its.drop (HT.sIx its.length 0 lo)).take (HT.sIx its.length its.length hi-HT.sIx its.length 0 lo)).toArray:=by
  obtain⟨h1,h2,h3⟩:=zl1 lo hi its.toArray.size
  unfold slicePick
  rw [h1,h2,h3]
  simp only [sliceRange_one,pick_run,qi]<;>rfl
def zyd (K:PySem.W.Frag):V->Option Int->Option Int->Hp->VK->Prop:=fun x lo hi H Q=>∃ a xs,x=.ref a/\SqL K H a xs/\∀ p,H p=none->Q (.ref p) (upd H p (.lst (zgR xs lo hi)))
theorem ztB:SlR X (zyd X.K):=by
  intro pins s U H x v vl vu lo hi sl Q I rx hs pl pu h
  obtain⟨a,xs,rfl,hx,q⟩:=h
  cases rx
  obtain⟨its,r,ht,hz⟩:=I.list hx
  have hlen:=r.length
  refine⟨"list",_,slot_list_getitem.lookup,ht.isList.typeIs,?_⟩
  refine wpAny_getItem_list_slice ht.isList hs pl pu .none (by simp) ?_ (by rw [qi]<;>omega)
  rw [zk5,<- hlen]
  refine⟨.ref s.heap.objs.size,_,I.laid (t':=s.toks) (o:=.lst (zgR xs lo hi)) (fun b ob q=>qc _ q) (qf _) ?_,rfl,q _ (I.hok.fresh (qf _))⟩
  exact⟨Nat.le_trans (ziT xs lo hi) hz,_,0,(r.drop (HT.sIx xs.length 0 lo)).take (HT.sIx xs.length xs.length hi-HT.sIx xs.length 0 lo),Heap.get?_push_size _ rfl⟩
theorem zlr:zaI X (.builtin "len") (fun xs H Q=>∃ p ys,xs=[.ref p]/\(SqL X.K H p ys\/SqT X.K H p ys)/\Q (.int ys.length) H):=by
  intro pins s U H xs us Q I r h
  obtain⟨p,ys,rfl,hq,q⟩:=h
  obtain⟨u,rfl,rx⟩:=vals1 r
  cases rx
  have hn:=zgj
  rcases hq with hq | hq
  . obtain⟨its,r',pl,hz⟩:=I.list hq
    have hlen:=r'.length
    exact Calls.call_len_list pl.isList (by simp only [qi]<;>omega) ⟨.int ys.length,H,I.tok _,⟨s.toks+1,by rw [qi,hlen]⟩,q⟩
  . obtain⟨its,r',pl,hz⟩:=I.tuple hq
    have hlen:=r'.length
    exact len_tuple pl (by simp only [qi]<;>omega) ⟨.int ys.length,H,I.tok _,⟨s.toks+1,by rw [qi,hlen]⟩,q⟩
theorem zln:zaI X (.builtin "len") (fun xs H Q=>∃ z,xs=[.str z]/\z.length<=sizeLine/\Q (.int z.length) H):=by
 intro pins s U H xs us Q I r h
 obtain⟨z,rfl,hz,q⟩:=h
 obtain⟨u,rfl,t,rfl⟩:=vals1 r
 have hn:=zgj
 exact len_str (by omega) ⟨.int z.length,H,I.tok _,⟨_,rfl⟩,q⟩
theorem zaI.or {f:Value}{r r':List V->Hp->VK->Prop}(h:zaI X f r)(h':zaI X f r'):zaI X f (fun xs H Q=>r xs H Q\/r' xs H Q):=by
 intro pins s U H xs us Q I rs q
 rcases q with q | q
 ·exact h pins s U H xs us Q I rs q
 ·exact h' pins s U H xs us Q I rs q
theorem zmk:zaI X (.type "list") (fun xs H Q=>∃ p ys,xs=[.ref p]/\(SqL X.K H p ys\/SqT X.K H p ys)/\∀ l,H l=none->Q (.ref l) (upd H l (.lst ys))):=by
  intro pins s U H xs us Q I r h
  obtain⟨p,ys,rfl,hq,q⟩:=h
  obtain⟨u,rfl,rx⟩:=vals1 r
  cases rx
  have fin : ∀ (its : List Value), Vals ys its → ys.length ≤ sizeLine → ∀ (h' : Heap) (c' : Nat), (∀ b o', s.heap.get? b = some o' → h'.get? b = some o') →
      h'.get? s.heap.objs.size=some { cls:=.type "list",dict:=none,data:=.seq its.toArray c',slots:=#[] }->EP X pins U Q (.ref s.heap.objs.size) { s with heap:=h' }:=fun its r' hz h' c' kp e =>
    ⟨.ref s.heap.objs.size,_,I.laid (t':=s.toks) kp (qf _) (show zbj X.prog X.w _ h' _ (.lst ys) from ⟨hz,its,c',r',e⟩),rfl,q _ (I.hok.fresh (qf _))⟩
  rcases hq with hq | hq
  . obtain⟨its,r',pl,hz⟩:=I.list hq
    have hlen:=r'.length
    obtain⟨o,ho,hc,n,hd⟩:=pl.isList
    exact call_list_seq p (.inl rfl) ho hc hd (fun h' c' kp e=>fin its r' hz h' c' kp e) (by simp only [qi]<;>omega)
  . obtain⟨its,r',pl,hz⟩:=I.tuple hq
    have hlen:=r'.length
    obtain⟨o,ho,hc,n,hd⟩:=pl
    exact call_list_seq p (.inr rfl) ho hc hd (fun h' c' kp e=>fin its r' hz h' c' kp e) (by simp only [qi]<;>omega)
theorem zk0:zaI X (.type "tuple") (fun xs H Q=>∃ p ys,xs=[.ref p]/\((SqL X.K H p ys/\∀ l,H l=none->Q (.ref l) (upd H l (.tup ys)))\/(SqT X.K H p ys/\Q (.ref p) H))):=by
  intro pins s U H xs us Q I r h
  obtain⟨p,ys,rfl,h⟩:=h
  obtain⟨u,rfl,rx⟩:=vals1 r
  cases rx
  rcases h with ⟨hq,q⟩ | ⟨hq,q⟩
  . obtain⟨its,r',pl,hz⟩:=I.list hq
    have hlen:=r'.length
    refine call_tuple_list pl.isList (fun h' kp=>?_) (by simp only [qi]<;>omega)
    have I1:Inv X pins U H { s with heap:=h' }:=I.kept (t':=s.toks) kp
    have I2:Inv X pins U (upd H h'.objs.size (.tup ys)) { s with heap:=h'.push { cls:=.type "tuple",data:=.seq its.toArray } } :=
      I1.laid (t':=s.toks) (fun b o e=>qc _ e) (qf _) (show zbj X.prog X.w _ _ _ (.tup ys) from ⟨hz,its,r',IsTup.new _ _⟩)
    exact⟨.ref h'.objs.size,_,I2,rfl,q _ (I1.hok.fresh (qf _))⟩
  . obtain⟨its,r',pl,hz⟩:=I.tuple hq
    exact call_tuple_same pl ⟨.ref p,H,I,rfl,q⟩
def tyV (K:PySem.W.Frag)(T:String)(x:V)(H:Hp):Prop:=match x with
 | .str _=>T="str"
 | .int _=>T="int"
 | .ref p=>(T="list"/\∃ xs,SqL K H p xs)\/(T="tuple"/\∃ o,K.lookup p=some o/\o.cls=.type "tuple"/\o.dict=none) \/
   (T="dict"/\((∃ kvs,H p=some (.dK kvs))\/∃ kvs,H p=some (.dT kvs)))\/(T="set"/\∃ S n,H p=some (.set S n))
 | _=>False
theorem zus {pins:List (Addr×Obj)}{U:St}{H:Hp}{s:Shared}{T:String}{x:V}{v:Value}(I:Inv X pins U H s)(r:RelV x v)(ty:tyV X.K T x H) :
  s.TypeIs v T/\∀ a,v=.ref a->∃ ob,s.heap.get? a=some ob/\ob.dict=none:=by
 cases x with
 | str z =>
  obtain⟨t,rfl⟩:=r
  cases (show T="str" from ty)
  exact⟨typeIs_str s z t,fun _ e=>nomatch e⟩
 | int i =>
  obtain⟨t,rfl⟩:=r
  cases (show T="int" from ty)
  exact⟨typeIs_int s i t,fun _ e=>nomatch e⟩
 | ref p =>
  cases r
  rcases ty with ⟨rfl,xs,hq⟩ | ⟨rfl,o,hk,hc,hd⟩ | ⟨rfl,hk⟩ | ⟨rfl,S,n,hk⟩
  ·obtain⟨its,_,pl,_⟩:=I.list hq
   refine⟨pl.isList.typeIs,fun a e=>?_⟩
   cases e
   obtain⟨o,n,e,c,hd,_⟩:=pl
   exact⟨o,e,hd⟩
  ·refine⟨⟨o,I.kIn p o hk,hc⟩,fun a e=>?_⟩
   cases e
   exact⟨o,I.kIn _ o hk,hd⟩
  ·have z:∃ o,s.heap.get? p=some o/\o.ExactDict:=by
    rcases hk with ⟨kvs,hk⟩ | ⟨kvs,hk⟩
    ·obtain⟨_,_,_,_,o,_,_,e,ex,_⟩:=I.hok p _ hk
     exact⟨o,e,ex⟩
    ·obtain⟨_,_,_,_,o,_,_,e,ex,_⟩:=I.hok p _ hk
     exact⟨o,e,ex⟩
   obtain⟨o,e,ex⟩:=z
   refine⟨⟨o,e,ex.1⟩,fun a e2=>?_⟩
   cases e2
   exact⟨o,e,ex.2.1⟩
  ·obtain⟨o,_,_,_,e,ex,_⟩:=I.hok p _ hk
   refine⟨⟨o,e,ex.1⟩,fun a e2=>?_⟩
   cases e2
   exact⟨o,e,ex.2.1⟩
 | _=>exact False.elim ty
def tBM (K:PySem.W.Frag)(T:String)(r:V->List V->Hp->VK->Prop)(to:TE)(t:TA):TE:=fun U H Q=>to U H fun x H1=>tyV K T x H1/\t U H1 fun xs H2=>r x xs H2 Q
variable {o e:Expr}{es:List Expr}{to:TE}{t:TA}{name:Str}{apos cpos:Pos}{T id:String}{r:V->List V->Hp->VK->Prop}
theorem zwx (pa:PlainAttrs T)(slot:Slot T name id)(hty:typeOf (.builtin id)=pure (.type "method_descriptor"))(hm:MtR X id r)(ho:PE X o to)(ha:PA X (e::es) t)
    (hbase:attributeBase o name X.env (eval o X.env)=eval o X.env:=by rfl)
    (hfew:((backTo cpos (starEach (e::es) X.env)).all (fun x=>!x.1)&&(backToKw cpos (keywordEach [] X.env)).all (fun x=>x.1.isSome)
     &&decide ((e::es).length+([]:List Keyword).length+(if ([]:List Keyword).isEmpty then 0 else 1)<30))=true:=by rfl)
    (hline:(apos.endLine==cpos.line)=true:=by rfl) (hs:starEach (e::es) X.env=(false,eval e X.env)::starEach es X.env:=by rfl) (hplain:(backTo cpos (starEach es X.env)).any (·.1)=false:=by rfl) :
    PE X (.Call (.Attribute o name apos) (e::es) [] cpos) (tBM X.K T r to t):=by
  intro pins s U H Q I h
  refine wpAny_Call_method_late hbase hfew hline rfl (thn (ho pins s U H _ I h) fun v s1 ⟨x,H1,I1,r1,ty,q1⟩=>?_)
  obtain⟨h1,h2⟩:=zus I1 r1 ty
  refine⟨T,id,pa,slot,hty,h1,h2,?_⟩
  have hA:=ha cpos pins s1 U H1 _ I1 q1
  rw [hs] at hA ⊢
  refine Calls.callWith_builtin (by show (false||(backTo cpos (starEach es X.env)).any (·.1))=false;rw [hplain]<;>rfl) (Calls.evalArgs_plain ?_)
  exact thn hA fun us s2 ⟨vs,H2,I2,r2,q2⟩=>hm pins s2 U H2 x vs v us Q I2 r1 r2 q2
/- xs.append(e),list.index on a module's tuple .. are MtR facts of 06m -/
end
def MtM (X:Cx)(id:String)(r:V->List V->Hp->VK->Prop):Prop :=
 ∀ (pins:List (Addr×Obj)) (s:Shared) (U:St) (H:Hp) (x:V) (xs:List V) (v:Value) (us:List Value) (Q:VK),Inv X pins U H s->RelV x v->Vals xs us->r x xs H Q ->
  wpAny (model X.prog X.w) X.A (call (.builtin id) (v::us)) (EP X pins U Q) X.xe s
theorem Vals.one:∀ {x:V} {us:List Value},Vals [x] us->∃ u,us=[u]/\RelV x u
 | _,_,.cons r .nil=>⟨_,rfl,r⟩
section
variable {X:Cx}{pins:List (Addr×Obj)}{U:St}{H:Hp}{s:Shared}{l b:Addr}{xs ys zs:List V}
theorem Inv.lset {its its':List Value}{n:Nat}{f:Array Value->Array Value}{t':Nat}(I:Inv X pins U H s)(hH:H l=some (.lst xs))
  (e:s.heap.get? l=some { cls:=.type "list",data:=.seq its.toArray n }) (hf:f its.toArray=its'.toArray) (hv:Vals ys its') (hz:ys.length<=sizeLine) :
  Inv X pins U (upd H l (.lst ys)) { s with heap:=s.heap.update l (Obj.mapSeq f),toks:=t' }:=by
 have q:=PySem.IsL.update e f
 rw [hf] at q
 refine I.write (x:=l) (e:=l) (by rw [hH];exact trivial) (.inl rfl) (fun b' u hb hu=>(Heap.get?_update_other s.heap (Obj.mapSeq f) (Ne.symm hb)).trans hu) ⟨_,q⟩ ?_
 exact⟨hz,its',_,hv,q⟩
theorem Inv.lnew {its:List Value}{t':Nat}(I:Inv X pins U H s)(hv:Vals ys its)(hz:ys.length<=sizeLine) :
  Inv X pins U (upd H s.heap.objs.size (.lst ys)) { s with heap:=s.heap.push { cls:=.type "list",data:=.seq its.toArray },toks:=t' } :=
 I.laid (fun _ _ q=>qc _ q) (qf _) ⟨hz,its,0,hv,Heap.get?_push_size _ rfl⟩
theorem Inv.fresh (I:Inv X pins U H s):H s.heap.objs.size=none:=I.hok.fresh (qf _)
theorem Inv.lstM (I:Inv X pins U H s)(hH:H l=some (.lst xs)):xs.length<=sizeLine/\∃ (its:List Value) (n:Nat),Vals xs its/\xs.length=its.length/\s.heap.get? l=some { cls:=.type "list",data:=.seq its.toArray n }:=by
 obtain⟨z,its,n,r,e⟩:=I.hok l _ hH
 exact⟨z,its,n,r,r.length,e⟩
theorem zlp {n:Nat}(h:n<=sizeLine):Builtin.List.listTooLong n=false:=by
 unfold Builtin.List.listTooLong
 exact decide_eq_false (by omega)
end
section
variable {X:Cx}
def znx:V->List V->Hp->VK->Prop:=fun x vs H Q=>∃ l xs y,x=.ref l/\vs=[y]/\H l=some (.lst xs)/\xs.length<sizeLine/\Q .non (upd H l (.lst (xs++[y])))
theorem zkC:MtM X "list.append" znx:=by
 intro pins s U H x vs v us Q I rx rv h
 obtain⟨l,xs,y,rfl,rfl,hH,hz,q⟩:=h
 cases rx
 obtain⟨u,rfl,ru⟩:=rv.one
 obtain⟨z,its,n,r,hl,e⟩:=I.lstM hH
 refine call_meets F.slot_list_append ⟨_,e,rfl⟩ F.entry_list_append (F.args_list_append_2 _ _) (PySem.list_append l its.toArray n u (by rw [qi];omega)) ⟨e,?_⟩
 refine⟨.non,_,I.lset (its':=its++[u]) hH e (by simp) (r.append (.cons ru .nil)) ?_,rfl,q⟩
 rw [qe,List.length_singleton]
 omega
def znT:V->List V->Hp->VK->Prop:=fun x vs H Q=>∃ l b xs zs,x=.ref l/\vs=[.ref b]/\H l=some (.lst xs)/\H b=some (.lst zs)/\xs.length+zs.length<=sizeLine/\Q .non (upd H l (.lst (xs++zs)))
theorem zqH:MtM X "list.extend" znT:=by
 intro pins s U H x vs v us Q I rx rv h
 obtain⟨l,b,xs,zs,rfl,rfl,hH,hB,hz,q⟩:=h
 cases rx
 obtain⟨u,rfl,ru⟩:=rv.one
 cases ru
 obtain⟨z,its,n,r,hl,e⟩:=I.lstM hH
 obtain⟨z2,its2,n2,r2,hl2,e2⟩:=I.lstM hB
 have hsz:its.toArray.size+its2.toArray.size<=sizeLine:=by rw [qi,qi];omega
 have hlong:¬ (!its.toArray.isEmpty&&Builtin.List.listTooLong (its.toArray.size+its2.toArray.size))=true:=by
  rw [zlp hsz,Bool.and_false]
  exact Bool.false_ne_true
 refine call_meets F.slot_list_extend ⟨_,e,rfl⟩ F.entry_list_extend (F.args_list_extend_2 _ _)
  (AutoSeq1.list_extend_list_list_0 l its.toArray n b its2.toArray n2 hlong (by rw [qi];omega) (by omega)) ⟨e,e2,?_⟩
 refine⟨.non,_,I.lset (its':=its++its2) hH e (by simp) (r.append r2) ?_,rfl,q⟩
 rw [qe]
 omega
end
section
variable {prog:Program}{w:World}{A:Around}{E:Value->Shared->Prop}{s:Shared}
end
section
variable {X:Cx}
end
end L2
namespace Att
open PySem PySem.W PySem.Calls PyProof.Rows
theorem zju {P:Params}{h:Heap}:∀ (ns:List Int) (vs:List Value),WellAll P h vs (ns.map WData.int)->IntsAre vs ns:=by
 intro ns
 induction ns with
 | nil =>
  intro vs w
  rw [List.map_nil] at w
  cases w
  exact .nil
 | cons n ns ih =>
  intro vs w
  rw [List.map_cons] at w
  cases w with
  | cons a b =>
   cases a
   exact .cons _ _ (ih _ b)
theorem zqm {l:OpenLaw}{n:Nat}(hn:l.most=some n){P:Params}{h:Heap}{args:List WData}{vals:List Value}
  (hpre:l.row.toRowW.claim.pre args=true) (hwl:WellAll P h vals args) :
  ∃ a vs ns,vals=[Value.ref a]/\args=[WData.list (ns.map WData.int)]/\h.get? a=some { cls:=.type "list",data:=.seq vs.toArray }/\IntsAre vs ns/\ns.length<=n:=by
 have hsh:WShape.hasAll [] args [.list .int]=true:=(pre_splitW hpre).1
 have hc:l.pre.holds [] { args:=args }=true:=(pre_splitW hpre).2
 obtain⟨d,r,rfl,h1,h2⟩:=hasAllW_cons hsh
 obtain rfl:=hasAllW_nil h2
 obtain⟨xs,rfl,h3⟩:=hasW_list h1
 obtain⟨ns,rfl⟩:=items_int h3
 have hlen:ns.length<=n:=by
  unfold OpenLaw.pre at hc
  have h4:(WTm.not (.lt (.lit (.int (n:Int))) (.len (.arg 0)))).holds [] { args:=[.list (ns.map .int)] }=true:=by
   have h4:=(holds_andW hc).1
   rw [hn] at h4
   exact h4
  have h5:=condW_of h4 (w_not (w_lt w_lit (w_len_list (w_arg rfl))))
  rw [qa] at h5
  refine Nat.le_of_not_lt fun q=>?_
  have q':(n:Int)<((ns.length:Nat):Int):=by omega
  first
   | (rw [decide_eq_true q'] at h5;exact absurd h5 (by decide))
   | (simp at h5;omega)
 cases hwl with
 | cons w1 w2 =>
  cases w2
  cases w1 with
  | list ho hall=>exact⟨_,_,ns,rfl,rfl,ho,zju ns _ hall,hlen⟩
theorem zqe (l:OpenLaw)(args:List WData):l.row.toRowW.claim.post args (.bool true) args=true :=
 postW_of (r:=l.row.toRowW) (X:=(true==true))
  (show WShape.has [] (.bool true) .bool=true by first | rfl | decide | simp [WShape.has,WShape.arms,WShape.armsAll])
  (show (WTm.eq .res (.lit (.bool true))).value [] { args:=args,res:=some (.bool true),after:=args }=some (.bool (true==true)) from w_eq_bool (w_res rfl) w_lit) rfl
section
variable {prog:Program}{w:World}{A:Around}{E:Value->Shared->Prop}{s:Shared}{K:Frag}
end
end Att
namespace L2
open PySem PySem.Spec PyProof.Rows
theorem zkI:∀ {vs:List Value} {ns:List Int},IntsAre vs ns->Vals (ns.map V.int) vs
 | _,_,.nil=>.nil
 | _,_,.cons n t h=>.cons ⟨t,rfl⟩ (zkI h)
def Only (H:Hp):Prop:=∀ b,H b=none\/∃ o xs,H b=some (.frz o (.lst xs))
theorem zrn {P:Program}{w:World}{K:PySem.W.Frag}{mg mb:Str->Option Value}{CX:CXT}{k:Nat}{fa a:Addr}{fd:FuncData}{x:Str}{sp:Sp}{s₁:Shared}{vs:List Value}{ns:List Int}
  (KX:K.In s₁.heap) (hns:s₁.heap.Ns mainGlobals mg) (hb:s₁.heap.Ns builtinsNs mb) (hbb:∀ x:Str,x≠"__name__"->mb x=bootBuiltins x) (hlim:s₁.heap.NoLimit) (hg:s₁.gens=#[])
  (ha:s₁.heap.get? a=some { cls:=.type "list",data:=.seq vs.toArray }) (hi:IntsAre vs ns) (hl:ns.length<=sizeLine) (hr:zaO k callerA)
  (F:∀ base:Heap,K.In base->base.Ns mainGlobals mg->zab P w K mg base CX k fa fd [x] sp) (hbind:∀ (s:Shared) (u:Value),BindsTo s fd ⟨[u],[]⟩ [(x,u)])
  (hsp:∀ H:Hp,Only H->SqL K H a (ns.map V.int)->sp [.ref a] H (fun v _=>v=.bl true) fun _ _ _=>False)
  (hCX:∀ H e s',CX [] H s₁ (fun _ _ _=>False) e s'->False) :
  codeAny (model P w) callerA (.call (.ref fa) ⟨[.ref a],[]⟩) (fun r s'=>r=.ok (.ret (.bool true))/\OldK s₁.heap s'.heap/\s'.os=s₁.os/\AllBare s'.gens) s₁:=by
 have rv:=zkI hi
 have lenV:=hi.length
 have core:∀ H:Hp,Only H->SqL K H a (ns.map V.int)->HOk P w H s₁.heap->(∀ b,H b≠none->b=a)->(H a≠none->K.lookup a=none) ->
   codeAny (model P w) callerA (.call (.ref fa) ⟨[.ref a],[]⟩) (fun r s'=>r=.ok (.ret (.bool true))/\OldK s₁.heap s'.heap/\s'.os=s₁.os/\AllBare s'.gens) s₁:=by
  intro H hO hS hok hA hK
  have base_of:∀ {b:Addr} {o:Obj},s₁.heap.get? b=some o->H b=none->(zgz s₁.heap H).get? b=some o:=fun e n=>zrx e n
  have noA:∀ {b:Addr} {o:Obj} {es:Array DictEntry} {ep:Nat},s₁.heap.get? b=some o->o.data=.dict es ep->H b=none:=fun {b o es ep} e d=>by
   cases q:H b with
   | none=>rfl
   | some u =>
    have e':b=a:=hA b (by rw [q];simp)
    subst e'
    rw [ha] at e;cases e
    have d':Data.seq vs.toArray _=Data.dict es ep:=d
    cases d'
  have nsK:∀ {b:Addr} {m:Str->Option Value},s₁.heap.Ns b m->(zgz s₁.heap H).Ns b m:=fun {b m} ⟨o,es,ep,e,d,r⟩=>⟨o,es,ep,base_of e (noA e d),d,r⟩
  have hKb:K.In (zgz s₁.heap H):=fun b o e=>base_of (KX b o e) (by
   cases q:H b with
   | none=>rfl
   | some u =>
    have e':b=a:=hA b (by rw [q];simp)
    subst e'
    rw [hK (by rw [q];simp)] at e;cases e)
  have hM:Mod K mg (zgz s₁.heap H):=⟨hKb,nsK hns,⟨mb,nsK hb,hbb⟩,let ⟨mc,h1,h2⟩:=hlim;⟨mc,nsK h1,h2⟩⟩
  have e0:ziX P w K mg (zgz s₁.heap H) callerA [] s₁ H:=⟨rfl,hM,fun b o e=>zsJ e,Nat.le_of_eq (zpi _ _),trivial,fun b hb=>absurd (show b∈([]:List Addr) from hb) (by simp),hok,.of_eq hg⟩
  refine codeAny_mono ((F _ hKb (nsK hns)).run callerA [] s₁ H ⟨[.ref a],[]⟩ [.ref a] [.ref a] _ _ hr e0 (hbind s₁ (.ref a)) (.cons rfl .nil) (hsp H hO hS)) fun r s' h=>?_
  cases r with
  | error e=>exact (hCX H e s' h).elim
  | ok fl =>
   cases fl with
   | next=>exact False.elim h
   | brk=>exact False.elim h
   | cont=>exact False.elim h
   | ret u =>
    obtain⟨v,H',os,bare,un,hok',r',q⟩:=h
    have q':v=.bl true:=q
    subst q'
    obtain rfl:u=Value.bool true:=r'
    refine⟨rfl,OldK.of_keep fun b o e=>?_,os,bare⟩
    cases q:H b with
    | none=>exact un.keep b o e q (by intro z;exact absurd (show b∈([]:List Addr) from z) (by simp)) (by simp)
    | some u =>
     rcases hO b with z | ⟨ob,xs,z⟩
     ·rw [q] at z;cases z
     ·have z2:=un.frzs b ob _ z
      obtain⟨e1,_⟩:=hok b _ z
      obtain⟨e2,_⟩:=hok' b _ z2
      rw [e] at e1;cases e1
      exact e2
 cases hk:K.lookup a with
 | some o =>
  have e:=KX a o hk
  rw [ha] at e
  cases e
  refine core (fun _=>none) (fun _=>.inl rfl) (.inr ⟨_,vs.toArray,_,hk,rfl,rfl,rfl,by rw [qi,lenV];exact hl,by simpa using rv⟩) (fun b u z=>by have z':(none:Option HO)=some u:=z;cases z') (fun b z=>absurd rfl z) fun z=>absurd rfl z
 | none =>
  refine core (fun b=>if b=a then some (.frz { cls:=.type "list",data:=.seq vs.toArray } (.lst (ns.map V.int))) else none) (fun b=>?_) (.inl (.inr ⟨{ cls:=.type "list",data:=.seq vs.toArray },if_pos rfl⟩)) (fun b u z=>?_) (fun b z=>?_) fun _=>hk
  ·by_cases hb:b=a
   ·exact .inr ⟨_,_,if_pos hb⟩
   ·exact .inl (if_neg hb)
  ·by_cases hb:b=a
   ·have z':=(if_pos hb).symm.trans z
    cases z'
    subst hb
    exact⟨ha,by rw [qa];exact hl,vs,_,rv,ha⟩
   ·have z':=(if_neg hb).symm.trans z
    cases z'
  ·by_cases hb:b=a
   ·exact hb
   ·exact absurd (if_neg hb) z
def inClass (s:Stmt)(j:Nat):Stmt:=match s with
 | .ClassDef _ _ _ body _ _ _ _ _ _ _=>body.getD j (.Pass ⟨0,0,0,0⟩)
 | _=>.Pass ⟨0,0,0,0⟩
def zbP (s:Stmt):Arguments:=match s with
 | .FunctionDef _ a _ _ _ _ _ _ _ _=>a
 | _=>{ posonlyargs:=[],args:=[],vararg:=none,kwonlyargs:=[],kw_defaults:=[],kwarg:=none,defaults:=[] }
def zbf (s:Stmt):List Stmt:=match s with
 | .FunctionDef _ _ b _ _ _ _ _ _ _=>b
 | _=>[]
def zJ (s:Stmt):Scope:=match s with
 | .FunctionDef _ _ _ _ _ _ sc _ _ _=>sc
 | _=>{ kind:=.function,names:=[],isGenerator:=false,isCoroutine:=false }
abbrev CX0:CXT:=fun _ _ _ _ _ _=>False
abbrev E0:XK:=fun _ _ _=>False
theorem zst {X:Cx}:Passes CX0 X E0:=fun _ _ _ _ _ _ _ h=>h.elim
structure Fun (K:PySem.W.Frag)(x qual:Str)(st:Stmt)(f:Addr)(fd:FuncData):Prop where
 ex:∃ (oc:Value) (od:Option Addr) (kV doc pm:Value) (an:Option Addr) (cdv ct:Value) (osl:Array (Option Value)),
  fd=PySem.W.fnOf x qual (zbP st) (zbf st) (zJ st) .none kV doc pm an cdv ct/\K.lookup f=some ⟨oc,od,.func fd,osl⟩/\PySem.W.codeIn K cdv qual=true
 kp:PySem.W.keepIn K (.ref f)=true
section
variable {P:Program}{w:World}{K:PySem.W.Frag}{mg:Str->Option Value}{base:Heap}
theorem Fun.ok {x qual:Str}{st:Stmt}{f:Addr}{fd:FuncData}{N ps:List Str}{k:Nat}{sp:Sp}(F:Fun K x qual st f fd)(S:zQ N ps (zJ st))(len:∀ vs H Q E,sp vs H Q E->vs.length=ps.length)
  (hbody:∀ (cdv:Value) (A:Around) (outer:List Env) (s:Shared) (H:Hp) (vs:List V) (Q:VK) (E:XK),zaO k (A.deeper (envOfC qual (zJ st) s.heap.objs.size f cdv))->sp vs H Q E ->
   ∃ t,PSs (zf5 CX0 P w K mg base N qual (zJ st) f cdv A outer s H E).nox (zbf st) t/\t { nx:=fun _ H'=>Q .non H',rt:=Q } (start N vs) H):zab P w K mg base CX0 (k+1) f fd ps sp:=by
 obtain⟨oc,od,kV,doc,pm,an,cdv,ct,osl,rfl,lk,hcd⟩:=F.ex
 refine zr8 lk hcd S len fun A outer s H vs Q E hr hsp=>?_
 obtain⟨t,h,q⟩:=hbody cdv A outer s H vs Q E hr hsp
 exact⟨t,h.nox,q⟩
theorem Fun.binds {x qual:Str}{st:Stmt}{f:Addr}{fd:FuncData}{ps:List Str}(F:Fun K x qual st f fd)
  (h:∀ (kV doc pm:Value) (an:Option Addr) (cdv ct:Value) (us:List Value),us.length=ps.length->bindArgs (PySem.W.fnOf x qual (zbP st) (zbf st) (zJ st) .none kV doc pm an cdv ct) ⟨us,[]⟩=pure (ps.zip us)):Binds K fd ps []:=by
 obtain⟨oc,od,kV,doc,pm,an,cdv,ct,osl,rfl,lk,hcd⟩:=F.ex
 exact .all (h kV doc pm an cdv ct)
theorem zjT {x qual:Str}{st:Stmt}{f:Addr}{oc:Value}{od an:Option Addr}{osl:Array (Option Value)}{kV doc pm cdv ct:Value}(l:K.lookup f=some ⟨oc,od,.func (PySem.W.fnOf x qual (zbP st) (zbf st) (zJ st) .none kV doc pm an cdv ct),osl⟩)
  (c:PySem.W.codeIn K cdv qual=true) (k:PySem.W.keepIn K (.ref f)=true):Fun K x qual st f (PySem.W.fnOf x qual (zbP st) (zbf st) (zJ st) .none kV doc pm an cdv ct):=⟨⟨oc,od,kV,doc,pm,an,cdv,ct,osl,rfl,l,c⟩,k⟩
end
theorem zp9 {n:Nat}(h:n<=1000):n<sizeLine:=Nat.lt_of_le_of_lt h (by decide)
section
variable {X:Cx}
end
section
variable {κ:Type}[DecidableEq κ]
end
section
variable {P:Program}{w:World}{H:Hp}{h:Heap}{a:Addr}
end
section
variable {X:Cx}{pins:List (Addr×Obj)}{U:St}{H:Hp}{s:Shared}{a:Addr}{y v:V}{u r:Value}{o:Option V}{A:Around}{E:Value->Shared->Prop}
end
section
variable {X:Cx}{pins:List (Addr×Obj)}{U:St}{H:Hp}{s:Shared}{a:Addr}{kvs:List (Key×V)}{k:Key}{u:Value}{A:Around}{E:Value->Shared->Prop}
end
section
variable {X:Cx}{o i e value:Expr}{pos pos' tpos:Pos}{td ty tv:TE}
end
section
variable {X:Cx}{pos:Pos}
end
section
variable {X:Cx}{pins:List (Addr×Obj)}{U:St}{H:Hp}{s:Shared}{a:Addr}{y d:V}{u r:Value}{o:Option V}{A:Around}{E:Value->Shared->Prop}
end
section
variable {X:Cx}{o e f:Expr}{apos cpos:Pos}{td ty tx:TE}
end
section
variable {X:Cx}{pins:List (Addr×Obj)}{U:St}{H:Hp}{s:Shared}{a:Addr}{kvs:List (Key×V)}{A:Around}{E:Value->Shared->Prop}
end
section
variable {X:Cx}{pins:List (Addr×Obj)}{U:St}{H:Hp}{s:Shared}{a:Addr}{y:V}{u:Value}{A:Around}{E:Value->Shared->Prop}
end
end L2
namespace My
def Bd (n:Nat)(x:Int):Prop:=x.natAbs<2 ^ n
theorem Bd.mono {m n:Nat}{x:Int}(h:Bd m x)(hmn:m<=n):Bd n x:=Nat.lt_of_lt_of_le h (Nat.pow_le_pow_right (by decide) hmn)
theorem Bd.add {n:Nat}{x y:Int}(h:Bd n x)(h':Bd n y):Bd (n+1) (x+y):=by
 unfold Bd at *;rw [Nat.pow_succ];omega
theorem Bd.sub {n:Nat}{x y:Int}(h:Bd n x)(h':Bd n y):Bd (n+1) (x-y):=by
 unfold Bd at *;rw [Nat.pow_succ];omega
theorem Bd.neg {n:Nat}{x:Int}(h:Bd n x):Bd n (-x):=by unfold Bd at *;omega
theorem Bd.mul {m n:Nat}{x y:Int}(h:Bd m x)(h':Bd n y):Bd (m+n) (x*y):=by
 unfold Bd at *;rw [Int.natAbs_mul,Nat.pow_add];exact Nat.mul_lt_mul'' h h'
theorem Bd.of_le {n:Nat}{x y:Int}(h:Bd n y)(h':x.natAbs<=y.natAbs):Bd n x:=Nat.lt_of_le_of_lt h' h
theorem Bd.dvd {n:Nat}{x y:Int}(h:Bd n y)(h0:y≠0)(d:x ∣ y):Bd n x :=
 h.of_le (Nat.le_of_dvd (by omega) (Int.natAbs_dvd_natAbs.mpr d))
theorem Bd.fdiv {n:Nat}{x y:Int}(h:Bd n x):Bd n (x.fdiv y):=h.of_le (Int.natAbs_fdiv_le_natAbs x y)
theorem Bd.lit {n:Nat}{x:Int}(h:x.natAbs<2 ^ 200)(hn:200<=n):Bd n x:=Bd.mono (m:=200) h hn
theorem Bd.emod {n:Nat}{x m:Int}(h0:0<m)(h:Bd n m):Bd n (x%m):=by
 have h1:=Int.emod_nonneg x (Int.ne_of_gt h0)
 have h2:=Int.emod_lt_of_pos x h0
 exact h.of_le (by omega)
theorem zrp (a b:Int):Int.gcd b (a.fmod b)=Int.gcd a b:=by
 have e:a.fmod b=a-b*a.fdiv b:=by have:=Int.mul_fdiv_add_fmod a b;omega
 rw [e,Int.gcd_sub_mul_left_right,Int.gcd_comm]
theorem zm9 {a b:Int}(h:b≠0):(a.fmod b).natAbs<b.natAbs:=by
 rcases Int.lt_or_gt_of_ne h with h1 | h1
 ·have e:(-(-a)).fmod (-(-b))=-((-a).fmod (-b)):=Int.neg_fmod_neg (-a) (-b)
  rw [Int.neg_neg,Int.neg_neg] at e
  have h2:=Int.fmod_nonneg_of_pos (-a) (b:=-b) (by omega)
  have h3:=Int.fmod_lt_of_pos (-a) (b:=-b) (by omega)
  omega
 ·have:=Int.fmod_nonneg_of_pos a h1
  have:=Int.fmod_lt_of_pos a h1
  omega
def gd (t b:Int):Int:=if b<0 then -((Int.gcd t b:Nat):Int) else ((Int.gcd t b:Nat):Int)
def frT (t b:Int):Int:=t.fdiv (gd t b)
def frB (t b:Int):Int:=b.fdiv (gd t b)
theorem zsa {t b:Int}(h:b≠0):gd t b≠0:=by
  have:Int.gcd t b≠0:=fun e=>h (Int.gcd_eq_zero_iff.mp e).2
  unfold gd;split<;>omega
theorem zm3 (t b:Int):gd t b ∣ t:=by
 unfold gd;split
 ·exact Int.neg_dvd.mpr (Int.gcd_dvd_left ..)
 ·exact Int.gcd_dvd_left ..
theorem zhA (t b:Int):gd t b ∣ b:=by
 unfold gd;split
 ·exact Int.neg_dvd.mpr (Int.gcd_dvd_right ..)
 ·exact Int.gcd_dvd_right ..
theorem znv (t b:Int):frT t b*gd t b=t:=Int.fdiv_mul_cancel (zm3 t b)
theorem zka (t b:Int):frB t b*gd t b=b:=Int.fdiv_mul_cancel (zhA t b)
theorem zrB (t b:Int):frT t b*b=frB t b*t:=by
 have h1:=znv t b
 have h2:=zka t b
 generalize frT t b=x at *
 generalize frB t b=y at *
 generalize gd t b=g at *
 subst h1 h2
 rw [Int.mul_comm y g,<- Int.mul_assoc,Int.mul_comm (x*g) y]
theorem zs8 {t b:Int}(h:b≠0):1<=frB t b:=by
  have h2:=zka t b
  have h3:gd t b≠0:=zsa h
  have h4:0<b->0<gd t b:=by
    intro hb;unfold gd at *;split<;>omega
  have h5:b<0->gd t b<0:=by
    intro hb;unfold gd at *;split<;>omega
  generalize frB t b=y at *
  generalize gd t b=g at *
  rcases Int.lt_or_gt_of_ne h with hb | hb
  . have hg:=h5 hb
    rcases Int.lt_or_le y 1 with hy | hy
    . have:0<=y*g:=Int.mul_nonneg_of_nonpos_of_nonpos (by omega) (by omega)
      omega
    . exact hy
  . have hg:=h4 hb
    rcases Int.lt_or_le y 1 with hy | hy
    . have:y*g<=0:=Int.mul_nonpos_of_nonpos_of_nonneg (by omega) (by omega)
      omega
    . exact hy
theorem zvn {t b:Int}(h:b≠0):Int.gcd (frT t b) (frB t b)=1:=by
  have h0:0<Int.gcd t b:=Nat.pos_of_ne_zero fun e=>h (Int.gcd_eq_zero_iff.mp e).2
  have h1:=znv t b
  have h2:=zka t b
  have e:Int.gcd (frT t b*gd t b) (frB t b*gd t b)=Int.gcd (frT t b) (frB t b)*(gd t b).natAbs:=Int.gcd_mul_right ..
  rw [h1,h2] at e
  have e2:(gd t b).natAbs=Int.gcd t b:=by unfold gd;split<;>omega
  rw [e2] at e
  exact Nat.eq_of_mul_eq_mul_right h0 (by omega)
theorem zxg {n:Nat}{t b:Int}(h:b≠0)(hb:Bd n b):Bd n (gd t b):=hb.dvd h (zhA t b)
theorem zug {n:Nat}{t b:Int}(hb:Bd n b):Bd n (frB t b):=hb.fdiv
theorem zuT {n:Nat}{t b:Int}(hb:Bd n t):Bd n (frT t b):=hb.fdiv
open PySem PySem.Spec PyProof.Rows L2
def zxr (_ j:Int):Prop:=j≠0/\Bd 8000 j
def zwC (_ j:Int):Prop:=j≠0
theorem zjr {j:Int}(h:Bd 8000 j):j.natAbs.log2<9000:=by
 rcases Nat.eq_zero_or_pos j.natAbs with e | e
 ·rw [e];decide
 ·have:j.natAbs.log2<8000:=(Nat.log2_lt (Nat.ne_of_gt e)).mpr h
  omega
theorem zjG {j:Int}(h:Bd 8000 j):Builtin.Int.intBits j<=2 ^ 20:=by
 unfold Builtin.Int.intBits
 split
 ·exact Nat.zero_le _
 ·have:=zjr h
  omega
section
variable {X:Cx}
theorem zr2:OpR X (binaryOp .FloorDiv) (rI zxr fun i j=>.int (i.fdiv j)):=opI fun _ _ _ _ _ _ _ hc q=>floordiv_int hc.1 q (.inl (PyProof.noPylong_of_log2 (zjr hc.2)))
theorem zsF:OpR X (binaryOp .Mod) (rI zwC fun i j=>.int (i.fmod j)):=ztW
def rB0 (g:Bool->Bool->V):R2:=fun x y H Q=>∃ i j,x=.bl i/\y=.bl j/\Q (g i j) H
theorem ztl {i j:Int}{a b:Nat}{p1 p2 pos:Pos}(c:Int)(h:i ^ j.toNat=c)(h0:0<=j/\j<=1000000/\i.natAbs<2 ^ 64):PE X (.BinOp (.Constant (.int i) a p1) .Pow (.Constant (.int j) b p2) pos) (tC (.int c)):=by
 intro pins s U H Q I q
 have q':Q (.int c) H:=q
 rw [<- h] at q'
 exact zsd zt8 zlo zlo pins s U H Q I ⟨i,j,rfl,rfl,h0,q'⟩
def zx9:List V->Hp->VK->Prop:=fun xs H Q=>∃ i,xs=[.int i]/\Q (.int (i.natAbs:Int)) H
theorem zpH:zaI X (.builtin "abs") zx9:=fun pins s U H xs us Q I r h=>by
  obtain⟨i,e,q⟩:=h
  refine zrR pins s U H xs us Q I r ⟨i,e,?_⟩
  have:(if i<0 then -i else i)=(i.natAbs:Int):=by split<;>omega
  rw [this];exact q
def zxA (K:PySem.W.Frag):List V->Hp->VK->Prop:=fun xs H Q=>∃ p ys,xs=[.ref p]/\(SqL K H p ys\/SqT K H p ys)/\Q (.int ys.length) H
theorem zqE:zaI X (.builtin "len") (zxA X.K):=zlr
def zwg (K:PySem.W.Frag):List V->Hp->VK->Prop:=fun xs H Q=>∃ p ys,xs=[.ref p]/\(SqL K H p ys\/SqT K H p ys)/\∀ l,H l=none->Q (.ref l) (upd H l (.lst ys))
theorem zoy:zaI X (.type "list") (zwg X.K):=zmk
def zxL:List V->Hp->VK->Prop:=fun xs H Q=>(∃ i,xs=[.int i]/\Q (.int i) H)\/∃ k,xs=[.bl k]/\Q (.int (if k then 1 else 0)) H
theorem zqJ:zaI X (.type "int") zxL:=zqg
def zyh:List V->Hp->VK->Prop:=fun xs H Q=>∃ i j,xs=[.int i,.int j]/\Q (.int (if j > i then j else i)) H
theorem zpl (hc:X.calm=true):zaI X (.builtin "max") zyh:=zp2 hc
def zxT:List V->Hp->VK->Prop:=fun xs H Q=>∃ i j,xs=[.int i,.int j]/\Q (.int (if j<i then j else i)) H
theorem zpW (hc:X.calm=true):zaI X (.builtin "min") zxT:=zqF hc
theorem zwy {x:Str}{T:String}{pos:Pos}(hg:Gl X x)(hm:X.mg x=none)(hv:bootBuiltins x=some (.type T))(hn:x≠"__name__":=by decide)(hd:(x==("__debug__":Str))=false:=by decide):PE X (.Name x pos) (tC (.ty T)):=ztV (v:=.ty T) hg hm hv rfl hn hd
def zxQ (K:PySem.W.Frag):List V->Hp->VK->Prop:=fun xs H Q=>∃ x c t b,xs=[x,.ty c]/\zex K H x t/\PySem.W.kitOne K t (.type c)=some b/\Q (.bl b) H
theorem zrK:zaI X (.builtin "isinstance") (zxQ X.K):=fun pins s U H xs us Q I r h=>by
 obtain⟨x,c,t,b,rfl,ty,e,q⟩:=h
 obtain⟨u,w',rfl,ru,rw'⟩:=vals2 r
 cases rw'
 exact zpF I ru ty e fun tk=>⟨.bl b,H,I.tok _,rfl,q⟩
end
section
variable {X:Cx}{K:PySem.W.Frag}
end
structure Got (P:Program)(w:World)(K:PySem.W.Frag)(mg:Str->Option Value)(base:Heap)(k:Nat)(x:Str)(ps:List Str)(sp:Sp):Prop where
 ex:∃ f fd,zab P w K mg base CX0 k f fd ps sp/\Binds K fd ps []/\PySem.W.keepIn K (.ref f)=true/\mg x=some (.ref f)
theorem zvU {X:Cx}{k j:Nat}{x:Str}{ps:List Str}{sp:Sp}{p pos:Pos}{e:Expr}{es:List Expr}{t:TA}(G:Got X.prog X.w X.K X.mg X.base k x ps sp)(hr:zaO j X.A)(hk:k<=j)(hg:Gl X x)
  (ha:PA X (e::es) t) (hdb:(x==("__debug__":Str))=false:=by decide) (he:starEach (e::es) X.env=(false,eval e X.env)::starEach es X.env:=by rfl) (hpl:(backTo pos (starEach es X.env)).any (·.1)=false:=by rfl) :
  PE X (.Call (.Name x p) (e::es) [] pos) (zog sp [] E0 t):=by
 intro pins s U H Q I h
 obtain⟨f,fd,F,b,kp,m⟩:=G.ex
 exact ztm (F.mono hk) hr hg m kp b .nil zst ha hdb he hpl pins s U H Q I h
section
variable {nx:L2.St->Hp->Prop}{rt:VK}{bk ct:L2.St->Hp->Prop}{U:L2.St}{H:Hp}{K:PySem.W.Frag}
end
section
variable {U:L2.St}{H:Hp}{K:PySem.W.Frag}
def zxq:R2:=fun x y H Q=>y=.non/\Q (.bl (!decide (x=.non))) H
theorem zvN {X:Cx}:OpR X (compareOp .IsNot) zxq:=zte
end
theorem ze6 {H:Hp}{p b:Addr}{o u:HO}(hp:H p=none)(h:H b=some u):upd H p o b=some u:=by
 rw [zaf (zbE h hp)];exact h
theorem zna {prog:Program}{w:World}{A:Around}{R:Result->Shared->Prop}{s:Shared}{elt target iter:Expr}{ifs:List Expr}{scope:Scope}{pos:Pos}{it acc:Value}{env:Env}(I:Nat->Shared->Prop)
  (turn:∀ n s,I n s->wpAny (model prog w) A (pyNext it) (fun r s₁=>match r with
   | none=>R (.ok .next) s₁
   | some v=>wpAny (model prog w) A (letOwnedTupleGo target it v) (fun _ s₁'=>wpAny (model prog w) A (assign target env v) (fun _ s₂ =>
     wpAny (model prog w) A (forIn ifs true fun c r=>if r=true then do let ok <- isTrue c env (eval c env);pure (ForInStep.yield ok) else pure (ForInStep.yield r)) (fun ok s₃ =>
      if ok=true then wpAny (model prog w) A (eval elt env) (fun x s₄ =>
       wpAny (model prog w) A (call (.builtin "list.append") [acc,x]) (fun _ s₅=>∃ m,m<n/\I m s₅) (fun _ _=>False) s₄) (fun _ _=>False) s₃
      else ∃ m,m<n/\I m s₃) (fun _ _=>False) s₂) (fun _ _=>False) s₁') (fun _ _=>False) s₁) (fun _ _=>False) s)
  (n:Nat) (h:I n s):codeAny (model prog w) A (.compLoop (.ListComp elt [⟨target,iter,ifs,0⟩] scope pos) 0 it acc env) R s:=by
 refine codeAny_loop rfl I (fun n s hI=>?_) n h
 show wpAny _ A ((compTurn (.ListComp elt [⟨target,iter,ifs,0⟩] scope pos) 0 it acc env).onRaise (fun x=>do noteFrame x env;theTreesLotGoes x)) _ _ s
 refine wpAny_noted ?_
 rw [compTurn_list]
 refine wpAny_bind (wpAny_standAt (wpAny_bind (wpAny_mono (turn n s hI) (fun r s₁ h₁=>?_) fun _ _ h'=>h'.elim)))
 cases r with
 | none=>exact wpAny_pure h₁
 | some v =>
  refine wpAny_bind (wpAny_mono h₁ (fun _ s₁' h₁'=>?_) fun _ _ h'=>h'.elim)
  refine wpAny_bind (wpAny_mono h₁' (fun _ s₂ h₂=>wpAny_bind (wpAny_mono h₂ (fun ok s₃ h₃=>?_) fun _ _ h'=>h'.elim)) fun _ _ h'=>h'.elim)
  cases ok with
  | false=>exact wpAny_pure ⟨rfl,h₃⟩
  | true =>
   exact wpAny_bind (wpAny_bind (wpAny_mono h₃ (fun x s₄ h₄=>wpAny_bind (wpAny_mono h₄ (fun _ s₅ h₅=>wpAny_pure (wpAny_pure ⟨rfl,h₅⟩)) fun _ _ h'=>h'.elim)) fun _ _ h'=>h'.elim))
def inner (X:Cx)(sc:Scope)(N:List Str)(cl:List (Str×Addr))(C:Addr)(s₀:Shared)(H₀:Hp)(ex:List Addr):Cx :=
  { X with N:=N,s₀:=s₀,H₀:=H₀,env:=compEnvC sc cl C X.env,outer:=X.stack,ex:=ex,fn:=fun _=>false,pn:=[] }
def PFs (X:Cx)(ifs:List Expr)(t:TT):Prop :=
 ∀ (pins:List (Addr×Obj)) (s:Shared) (U:L2.St) (H:Hp) (Q:Bool->Hp->Prop),Inv X pins U H s->t U H Q ->
  wpAny (model X.prog X.w) X.A (forIn ifs true fun c r=>if r=true then do let ok <- isTrue c X.env (eval c X.env);pure (ForInStep.yield ok) else pure (ForInStep.yield r)) (TP X pins U Q) X.xe s
def zw7:TT:=fun _ H Q=>Q true H
theorem zvp {X:Cx}:PFs X [] zw7:=fun _ _ _ H _ I h=>wpAny_tests_nil ⟨H,I,h⟩
theorem zur {X:Cx}{c:Expr}{t:TT}(h:PT X c t):PFs X [c] t:=fun pins s U H Q I q=>wpAny_tests_one (h pins s U H Q I q)
def zhO (X:Cx)(sc:Scope):List Str->List Nat->Prop
 | [],[]=>True
 | x::xs,j::js=>X.N[j]?=some x/\sc.names.lookup x=some .free/\X.env.kindOf x=some .cell/\zhO X sc xs js
 | _,_=>False
def zeB (P:Str->Prop):List (Str×NameKind)->Prop
 | []=>True
 | (n,.free)::r=>P n/\zeB P r
 | _::r=>zeB P r
theorem zeB.of {P:Str->Prop}:∀ {l:List (Str×NameKind)},zeB P l->∀ y∈l,y.2=.free->P y.1
  | (n,k)::r,h,y,hy,e=>by
    rcases qh.mp hy with rfl | hy
    . dsimp only at e;subst e;exact h.1
    . refine zeB.of (l:=r) ?_ y hy e
      cases k<;>first | exact h.2 | exact h
def cst (own:List Str)(fv:List Nat)(U:L2.St):L2.St:=List.replicate own.length none++fv.map fun j=>(U[j]?).join
def Agr:L2.St->L2.St->Prop
 | [],[]=>True
 | none::r,_::s=>Agr r s
 | some v::r,some w::s=>v=w/\Agr r s
 | _,_=>False
theorem Agr.len:∀ {a b:L2.St},Agr a b->b.length=a.length
  | [],[],_=>rfl
  | none::r,_::s,h=>congrArg (· + 1) (Agr.len (a:=r) (b:=s) h)
  | some v::r,some w::s,h=>congrArg (· + 1) (Agr.len (a:=r) (b:=s) h.2)
theorem Agr.get:∀ {a b:L2.St},Agr a b->∀ (i:Nat) (v:V),a[i]?=some (some v)->b[i]?=some (some v)
 | none::r,_::s,h,i,v,e=>by
  cases i with
  | zero=>simp at e
  | succ i=>simpa using Agr.get (a:=r) (b:=s) h i v (by simpa using e)
 | some v'::r,some w::s,h,i,v,e=>by
  cases i with
  | zero=>simp at e;subst e;simp [h.1]
  | succ i=>simpa using Agr.get (a:=r) (b:=s) h.2 i v (by simpa using e)
def tLC (own:List Str)(fv:List Nat)(wi:TI)(g:TG)(tc:TT)(te:TE):TE:=fun U H Q=>wi U H fun J H1=>∀ p,H1 p=none ->
 ∃ W:Nat->Nat->Hp->Prop,(∃ m,W 0 m (upd H1 p (.lst [])))/\∀ i m H2,W i m H2 ->
  (J.stop i H2/\Q (.ref p) H2)\/(J.go i H2/\∀ x H',J.yld i H2 x H'->g x (cst own fv U) H' fun σ2 H3=>Agr (cst own fv U) σ2/\tc σ2 H3 fun b H4 =>
   if b=true then te σ2 H4 fun y H5=>∃ ys,H5 p=some (.lst ys)/\ys.length<sizeLine/\∃ m',m'<m/\W (i+1) m' (upd H5 p (.lst (ys++[y])))
   else ∃ m',m'<m/\W (i+1) m' H4)
theorem zmO {env:Env}{n:Str}{c:Addr}(h:env.cells.lookup n=some c):cellOf env n=pure c:=by
 unfold cellOf;rw [h]
theorem zgI {env:Env}:∀ (names:List (Str×NameKind)) (cs:List (Str×Addr)),(∀ y∈names,y.2=.free->∃ c,env.cells.lookup y.1=some c)->(∀ x c,cs.lookup x=some c->env.cells.lookup x=some c) ->
    ∃ cl,(forIn names cs fun (x:Str×NameKind) (r:List (Str×Addr))=>if (x.2==NameKind.free)=true then do let a <- cellOf env x.1;pure (ForInStep.yield ((x.1,a)::r)) else pure (ForInStep.yield r))=(pure cl:Sem (List (Str×Addr))) /\
      (∀ x c,cl.lookup x=some c->env.cells.lookup x=some c)/\(∀ x,(cs.lookup x).isSome=true->(cl.lookup x).isSome=true)/\∀ y∈names,y.2=.free->(cl.lookup y.1).isSome=true
  | [],cs,_,h2=>⟨cs,rfl,h2,fun _ h=>h,fun _ h=>nomatch h⟩
  | (n,k)::r,cs,h1,h2=>by
    rw [List.forIn_cons]
    by_cases hk:k=.free
    . subst hk
      obtain⟨c,hc⟩:=h1 (n,.free) List.mem_cons_self rfl
      obtain⟨cl,e,a1,a2,a3⟩:=zgI (env:=env) r ((n,c)::cs) (fun y hy=>h1 y (List.mem_cons_of_mem _ hy)) (fun x d hx=>by
        rw [qj] at hx
        by_cases hxn:x=n
        . subst hxn;simp at hx;subst hx;exact hc
        . have:(x==n)=false:=by simpa using hxn
          rw [this] at hx;exact h2 x d hx)
      refine⟨cl,?_,a1,fun x hx=>a2 x ?_,fun y hy e'=>?_⟩
      . simp only [beq_self_eq_true,if_true,zmO hc]
        simpa using e
      . rw [qj];split<;>simp_all
      . rcases qh.mp hy with rfl | hy
        . exact a2 _ (by simp [qj])
        . exact a3 y hy e'
    . have hb:(k==NameKind.free)=false:=by simpa using hk
      obtain⟨cl,e,a1,a2,a3⟩:=zgI (env:=env) r cs (fun y hy=>h1 y (List.mem_cons_of_mem _ hy)) h2
      refine⟨cl,?_,a1,a2,fun y hy e'=>?_⟩
      . simp only [hb,Bool.false_eq_true,if_false]
        simpa using e
      . rcases qh.mp hy with rfl | hy
        . exact absurd e' hk
        . exact a3 y hy e'
theorem zjk {env:Env}{sc:Scope}(h:∀ y∈sc.names,y.2=.free->∃ c,env.cells.lookup y.1=some c) :
  ∃ cl,closureFor sc env=pure cl/\(∀ x c,cl.lookup x=some c->env.cells.lookup x=some c)/\∀ y∈sc.names,y.2=.free->(cl.lookup y.1).isSome=true:=by
 obtain⟨cl,e,a1,_,a3⟩:=zgI (env:=env) sc.names [] h (fun x c hx=>by simp at hx)
 refine⟨cl,?_,a1,a3⟩
 unfold closureFor
 have e2:=e
 first
  | exact e2
  | (show (do let cs <- forIn sc.names [] _;pure cs)=_;rw [show (forIn sc.names [] _:Sem (List (Str×Addr)))=pure cl from e2];rfl)
  | simpa using e2
theorem zes {env:Env}{x:Str}:∀ {names:List (Str×NameKind)},(names.map fun (n,k)=>if (k==NameKind.free&&env.scope.kind==.function&&env.kindOf n==some .cell) then (n,NameKind.cell) else (n,k)).lookup x =
    (names.lookup x).map fun k=>if (k==NameKind.free&&env.scope.kind==.function&&env.kindOf x==some .cell) then NameKind.cell else k
  | []=>rfl
  | (n,k)::r=>by
    have ih:=zes (env:=env) (x:=x) (names:=r)
    rw [List.map_cons]
    by_cases hx:x=n
    . subst hx
      dsimp only
      split<;>simp_all [qj]
    . have hb:(x==n)=false:=by simpa using hx
      dsimp only
      split<;>(rw [qj,qj,hb];exact ih)
theorem mem_of_lookup {β:Type}{x:Str}{k:β}:∀ {l:List (Str×β)},l.lookup x=some k->(x,k)∈l
 | (n,b)::r,h=>by
  rw [qj] at h
  by_cases hx:x=n
  ·subst hx;simp at h;subst h;exact List.mem_cons_self
  ·have hb:(x==n)=false:=by simpa using hx
   rw [hb] at h
   exact List.mem_cons_of_mem _ (mem_of_lookup h)
section
variable {X:Cx}{sc:Scope}{tg iter elt:Expr}{ifs:List Expr}{own free:List Str}{fv:List Nat}{wi:TI}{g:TG}{tc:TT}{te:TE}{pos:Pos}
theorem zsu {U:L2.St}:∀ {free:List Str} {fv:List Nat},zhO X sc free fv->∀ (k:Nat) (x:Str) (v:V),free[k]?=some x->(fv.map fun j=>(U[j]?).join)[k]?=some (some v) ->
  ∃ j:Nat,X.N[j]?=some x/\U[j]?=some (some v)/\sc.names.lookup x=some .free/\X.env.kindOf x=some .cell
 | x'::xs,j::js,h,k,x,v,e1,e2=>by
  cases k with
  | zero =>
   simp at e1 e2
   subst e1
   refine⟨j,h.1,?_,h.2.1,h.2.2.1⟩
   cases q:U[j]? with
   | none=>rw [q] at e2;simp at e2
   | some o=>rw [q] at e2;simp at e2;rw [e2]
  | succ k=>exact zsu (free:=xs) (fv:=js) h.2.2.2 k x v (by simpa using e1) (by simpa using e2)
 | [],[],_,k,x,v,e1,_=>by simp at e1
theorem zpz:∀ {free:List Str} {fv:List Nat},zhO X sc free fv->fv.length=free.length
  | [],[],_=>rfl
  | _::_,_::_,h=>congrArg (· + 1) (zpz h.2.2.2)
theorem zjK {RR:Value->Addr->Result->Shared->Prop}(hcalm:X.calm=true)(hxe:X.xe=fun _ _=>False)(hkind:sc.kind=.function)(hcell:∀ y∈sc.names,y.2≠.cell)
    (hfr:zeB (fun x=>X.env.kindOf x=some .cell) sc.names) (hfv:zhO X sc free fv)
    (hg:∀ cl C s₀ H₀ ex,PG (inner X sc (own++free) cl C s₀ H₀ ex) tg g) (ht:∀ cl C s₀ H₀ ex,PFs (inner X sc (own++free) cl C s₀ H₀ ex) ifs tc) (he:∀ cl C s₀ H₀ ex,PE (inner X sc (own++free) cl C s₀ H₀ ex) elt te)
    {pins:List (Addr×Obj)} {s2:Shared} {U:L2.St} {H2:Hp} {it:Addr} {fp:List Addr} {tn:Nat->Heap->Prop} {J:It} {Q:VK} (I2:Inv X pins U H2 s2) (T:Turn X.prog X.w X.K tg J fp it tn) (st2:tn 0 s2.heap) (f2:∀ b∈fp,zfp X pins H2 b)
    (h:∀ p,H2 p=none->∃ W:Nat->Nat->Hp->Prop,(∃ m,W 0 m (upd H2 p (.lst [])))/\∀ i m H2,W i m H2 ->
      (J.stop i H2/\Q (.ref p) H2)\/(J.go i H2/\∀ x H',J.yld i H2 x H'->g x (cst own fv U) H' fun σ2 H3=>Agr (cst own fv U) σ2/\tc σ2 H3 fun b H4 =>
        if b=true then te σ2 H4 fun y H5=>∃ ys,H5 p=some (.lst ys)/\ys.length<sizeLine/\∃ m',m'<m/\W (i+1) m' (upd H5 p (.lst (ys++[y])))
        else ∃ m',m'<m/\W (i+1) m' H4))
    {cl:List (Str×Addr)} (hcl1:∀ x c,cl.lookup x=some c->X.env.cells.lookup x=some c) (hcl2:∀ y∈sc.names,y.2=.free->(cl.lookup y.1).isSome=true)
    (hRR:∀ (p C:Addr) (m:Str->Option Value) (H':Hp) (s':Shared),s'.heap.Ns C m->Inv X pins U H' s'->H' C=none->C≠X.env.locals->X.s₀.heap.objs.size<=C->(∀ x c,X.env.cells.lookup x=some c->c≠C)->(∀ q∈X.pn++pins,q.1≠C)->Q (.ref p) H' ->
      RR (.ref p) C (.ok .next) s') :
    wpAny (model X.prog X.w) X.A (newList []) (fun acc s3=>wpAny (model X.prog X.w) X.A (newFunctionEnv sc X.env.globals cl [] X.env.qual none .none (some X.env)) (fun cenv s4 =>
      codeAny (model X.prog X.w) X.A (.compStart (.ListComp elt [⟨tg,iter,ifs,0⟩] sc pos) 0 (.ref it) acc { cenv with scope:=relabel sc X.env }) (RR acc cenv.locals) s4) X.xe s3) X.xe s2:=by
  rw [hxe]
  refine wpAny_newObj_type ?_
  have I3:Inv X pins U (upd H2 s2.heap.objs.size (.lst [])) { s2 with heap:=s2.heap.push { cls:=.type "list",data:=.seq ([]:List Value).toArray } }:=I2.lnew (t':=s2.toks) .nil (Nat.zero_le _)
  generalize hs3:({ s2 with heap:=s2.heap.push { cls:=.type "list",data:=.seq ([]:List Value).toArray } }:Shared)=s3 at I3 ⊢
  have hp:H2 s2.heap.objs.size=none:=I2.fresh
  obtain⟨W,⟨m0,w0⟩,turn⟩:=h s2.heap.objs.size hp
  generalize hH3:upd H2 s2.heap.objs.size (.lst [])=H3 at I3 w0 ⊢
  have hk3:∀ b o,s2.heap.get? b=some o->s3.heap.get? b=some o:=fun b o e=>by rw [<- hs3];exact qc _ e
  have hz3:s3.heap.objs.size=s2.heap.objs.size+1:=by rw [<- hs3];exact Heap.size_push ..
  have st3:tn 0 s3.heap:=T.keep _ _ _ st2 fun b _ o e=>hk3 b o e
  have hfpo:∀ b∈fp,∃ o,s3.heap.get? b=some o:=fun b hb=>let ⟨o,e,_⟩:=T.obj _ _ st3 b hb;⟨o,e⟩
  have hfpn:∀ b∈fp,b≠s2.heap.objs.size:=fun b hb e=>by
    obtain⟨o,e',_⟩:=T.obj _ _ st2 b hb
    have:=Heap.lt_size e'
    rw [e] at this;exact Nat.lt_irrefl _ this
  have f3:∀ b∈fp,H3 b=none:=fun b hb=>by rw [<- hH3,zaf (hfpn b hb)];exact (f2 b hb).1
  refine wpAny_newFunctionEnv hcell (by intro y hy;simp at hy) (fun h1 hns1 hsb1=>?_) hkind
  have hC0:H3 s3.heap.objs.size=none:=I3.fresh
  have old:∀ b o,s3.heap.get? b=some o->h1.get? b=some o:=fun b o e=>hsb1.extBut b o (Nat.ne_of_lt (Heap.lt_size e)) (qc _ e)
  have hlow:X.s₀.heap.objs.size<=s3.heap.objs.size:=I3.sz
  have hloc:X.env.locals<s3.heap.objs.size:=I3.lt
  have hcells:∀ x c,X.env.cells.lookup x=some c->c<s3.heap.objs.size:=fun x c e=>by
    obtain⟨v,o,ho,_⟩:=I3.cell x c e
    exact Heap.lt_size ho
  have YOk:(inner X sc (own++free) cl s3.heap.objs.size s3 H3 fp).Ok:={
    mod:=I3.ok.mod
    kind:=by show (relabel sc X.env).kind=.function;exact hkind
    glob:=I3.ok.glob
    blt:=I3.ok.blt
    above:=qf _
    inj:=fun x y c hx hy=>I3.ok.inj x y c (hcl1 x c hx) (hcl1 y c hy)
    has:=fun x hx=>by
      have e : (sc.names.lookup x).map (fun k => if (k == NameKind.free && X.env.scope.kind == .function && X.env.kindOf x == some .cell) then NameKind.cell else k) = some .cell ∨
          (sc.names.lookup x).map (fun k=>if (k==NameKind.free&&X.env.scope.kind==.function&&X.env.kindOf x==some .cell) then NameKind.cell else k)=some .free:=by
        have:=@zes X.env x sc.names
        rcases hx with hx | hx
        . exact .inl (this.symm.trans hx)
        . exact .inr (this.symm.trans hx)
      cases q:sc.names.lookup x with
      | none=>rw [q] at e;simp at e
      | some k =>
        have hm:=mem_of_lookup q
        by_cases hkf:k=.free
        . subst hkf
          exact Option.isSome_iff_exists.mp (hcl2 (x,.free) hm rfl)
        . have hkc:k≠.cell:=hcell (x,k) hm
          rw [q] at e
          have hb:(k==NameKind.free)=false:=by simpa using hkf
          simp only [Option.map_some,hb,Bool.false_and,Bool.false_eq_true,if_false,Option.some.injEq] at e
          rcases e with e | e
          . exact absurd e hkc
          . exact absurd e hkf
    cab:=fun x c hx=>by cases hx
    hd:=I3.ok.hd
    frames:=I3.ok.frames
    stk:=.inl rfl
    exf:=fun b hb=>⟨fun e=>by obtain⟨o,e'⟩:=hfpo b hb;have:=Heap.lt_size e';rw [e] at this;exact Nat.lt_irrefl _ this,fun x c hx=>(f2 b hb).2.2.2.2.1 x c (hcl1 x c hx)⟩
    bs:=I3.bs
    bsz:=Nat.le_trans I3.ok.bsz I3.sz
    noex:=fun b o hb hm=>by
      rcases (f2 b hm).2.2.2.1 with hx | hx
      . exact I3.ok.noex b o hb hx
      . exact Nat.lt_irrefl _ (Nat.lt_of_lt_of_le (Nat.lt_of_lt_of_le (Heap.lt_size hb) I3.ok.bsz) hx)
    exfs:=fun b hb hm=>by
      rcases qh.mp (I3.stkSub b hm) with e | e
      . exact (f2 b hb).2.1 e
      . exact (f2 b hb).2.2.1 e
    funs:=I3.stack
    frf:=I3.stkFree }
  have hlen0:(cst own fv U).length=(own++free).length:=by
    unfold cst;rw [qe,qe,List.length_replicate,qa,zpz hfv]
  have I4:∀ tk,Inv (inner X sc (own++free) cl s3.heap.objs.size s3 H3 fp) [] (cst own fv U) H3 { s3 with heap:=h1,toks:=tk }:=fun tk=>{
    ok:=YOk
    os:=rfl
    bare:=I3.bare
    base:=Un.kept old
    loc:=by
      refine⟨_,hns1,fun i x v hN hσ _=>?_⟩
      have hN':(own++free)[i]?=some x:=hN
      have hσ':(List.replicate own.length none++fv.map fun j=>(U[j]?).join)[i]?=some (some v):=hσ
      by_cases hi:i<own.length
      . rw [List.getElem?_append_left (by rw [List.length_replicate];exact hi)] at hσ'
        rw [List.getElem?_replicate] at hσ'
        split at hσ'<;>simp at hσ'
      . rw [qk (by omega)] at hN'
        rw [qk (by rw [List.length_replicate];omega),List.length_replicate] at hσ'
        obtain⟨j,hj,hσj,hsx,hkx⟩:=zsu hfv _ x v hN' hσ'
        obtain⟨m,_,hall⟩:=I3.loc
        obtain⟨u,ru,lk⟩:=hall j x v hj hσj (.inr (.inl hkx))
        refine⟨u,ru,.inr ⟨?_,?_⟩⟩
        . have:=@zes X.env x sc.names
          rw [hsx] at this
          have e2:Env.kindOf (inner X sc (own++free) cl s3.heap.objs.size s3 H3 fp).env x=(sc.names.map fun (n,k)=>if (k==NameKind.free&&X.env.scope.kind==.function&&X.env.kindOf n==some .cell) then (n,NameKind.cell) else (n,k)).lookup x:=rfl
          rw [e2,this]
          simp only [Option.map_some]
          split
          . exact .inl rfl
          . exact .inr rfl
        . rcases lk with ⟨hl,_⟩ | ⟨_,c,hc,hcell'⟩
          . rw [hkx] at hl;cases hl
          . obtain⟨c',hc'⟩:=Option.isSome_iff_exists.mp (hcl2 (x,.free) (mem_of_lookup hsx) rfl)
            have:=hcl1 x c' hc'
            rw [hc] at this
            cases this
            refine⟨c,hc',?_⟩
            obtain⟨o,ho,hd⟩:=hcell'
            exact⟨o,old _ _ ho,hd⟩
    cell:=fun x c hx=>by
      obtain⟨v,o,ho,hd⟩:=I3.cell x c (hcl1 x c hx)
      exact⟨v,o,old _ _ ho,hd⟩
    free:=hC0
    freeC:=fun x c hx=>I3.freeC x c (hcl1 x c hx)
    pin:=fun q hq=>nomatch hq
    hok:=I3.hok.kept old
    len:=hlen0 }
  have back:∀ (m:Str->Option Value) (H':Hp) (s':Shared),s'.heap.Ns s3.heap.objs.size m->Inv (inner X sc (own++free) cl s3.heap.objs.size s3 H3 fp) [] (cst own fv U) H' s'->Q (.ref s2.heap.objs.size) H'->RR (.ref s2.heap.objs.size) s3.heap.objs.size (.ok .next) s':=fun m H' s' hm IY q=>by
    have u1:Un (frs X.stack) fp H3 H' s3.heap s'.heap:=IY.base
    have IX:Inv X pins U H' s':=I3.call' (ch:=fp) (IY.os) u1 IY.hok IY.bare fun b hb=>⟨(f2 b hb).2.2.2.1,(f2 b hb).2.1,(f2 b hb).2.2.2.2.1,(f2 b hb).2.2.2.2.2⟩
    refine hRR _ _ m H' s' hm IX IY.free (Nat.ne_of_gt hloc) hlow (fun x c hx=>Nat.ne_of_lt (hcells x c hx)) (fun q' hq=>?_) q
    have:=(I3.pin q' hq).1
    exact Nat.ne_of_lt (Heap.lt_size this)
  have stat:∀ {H':Hp},(∀ b∈fp,H' b=none)->∀ b∈fp,zfp (inner X sc (own++free) cl s3.heap.objs.size s3 H3 fp) [] H' b:=fun hn b hb =>
    ⟨hn b hb,(YOk.exf b hb).1,YOk.exfs b hb,.inl hb,(YOk.exf b hb).2,fun q hq=>nomatch hq⟩
  have hYxe:(inner X sc (own++free) cl s3.heap.objs.size s3 H3 fp).xe=fun _ _=>False:=hxe
  have loop:∀ tk,codeAny (model X.prog X.w) X.A (.compLoop (.ListComp elt [⟨tg,iter,ifs,0⟩] sc pos) 0 (.ref it) (.ref s2.heap.objs.size) (compEnvC sc cl s3.heap.objs.size X.env)) (RR (.ref s2.heap.objs.size) s3.heap.objs.size) { s3 with heap:=h1,toks:=tk }:=fun tk=>by
    refine zna (fun n s'=>∃ i H',Inv (inner X sc (own++free) cl s3.heap.objs.size s3 H3 fp) [] (cst own fv U) H' s'/\tn i s'.heap/\(∀ b∈fp,H' b=none)/\W i n H') ?_ m0 ⟨0,H3,I4 tk,T.keep _ _ _ st3 (fun b _ o e=>old b o e),f3,w0⟩
    rintro n s5 ⟨i,H5,I5,st5,fr5,w5⟩
    rcases turn i n H5 w5 with ⟨stop,q⟩ | ⟨go,step⟩
    . refine thn (T.done (inner X sc (own++free) cl s3.heap.objs.size s3 H3 fp) rfl rfl rfl hcalm i [] s5 _ H5 _ I5 (stat fr5) st5 stop) fun r s6 ⟨hr,I6⟩=>?_
      subst hr
      obtain⟨m,hm,_⟩:=I6.loc
      exact back m H5 s6 hm I6 q
    . refine thn (T.item (inner X sc (own++free) cl s3.heap.objs.size s3 H3 fp) rfl rfl rfl hcalm i [] s5 _ H5 _ I5 (stat fr5) st5 go) fun r s6 ⟨u,hr,h6⟩=>?_
      subst hr
      refine thn h6 fun _ s7 ⟨x,H7,I7,r7,y7,st7,fr7⟩=>?_
      have I7':=I7.pinned (stat fr7) (T.obj _ _ st7)
      have hg':=hg cl s3.heap.objs.size s3 H3 fp _ s7 _ H7 x u _ I7' r7 (step x H7 y7)
      have ht':=ht cl s3.heap.objs.size s3 H3 fp
      have he':=he cl s3.heap.objs.size s3 H3 fp
      have ap:MtM (inner X sc (own++free) cl s3.heap.objs.size s3 H3 fp) "list.append" znx:=zkC
      unfold PFs at ht'
      unfold PE at he'
      unfold MtM at ap
      rw [hYxe] at hg' ht' he' ap
      have again : ∀ {pl : List (Addr × Obj)} {σ8 : L2.St} {H8 : Hp} {s8 : Shared}, pl = zh2 fp s7.heap → Inv (inner X sc (own ++ free) cl s3.heap.objs.size s3 H3 fp) ([] ++ pl) σ8 H8 s8 → Agr (cst own fv U) σ8 → (∃ m', m' < n ∧ W (i + 1) m' H8) →
          ∃ m,m<n/\∃ i H',Inv (inner X sc (own++free) cl s3.heap.objs.size s3 H3 fp) [] (cst own fv U) H' s8/\tn i s8.heap/\(∀ b∈fp,H' b=none)/\W i m H':=fun {pl σ8 H8 s8} hpl I8 ag ⟨m',hm,w8⟩=>by
        subst hpl
        refine⟨m',hm,i+1,H8,(I8.unpinned).weak ag.len.symm (fun j v e=>ag.get j v e),T.keep _ _ _ st7 fun b hb o e=>(I8.pin (b,o) (List.mem_append_right _ (List.mem_append_right _ (zfa hb e)))).1,fun b hb=>?_,w8⟩
        obtain⟨o,e,d⟩:=T.obj _ _ st7 b hb
        exact (I8.pin (b,o) (List.mem_append_right _ (List.mem_append_right _ (zfa hb e)))).2.1
      refine thn hg' fun _ s8 ⟨σ8,H8,I8,ag,q8⟩=>?_
      refine thn (ht' _ s8 σ8 H8 _ I8 q8) fun b s9 ⟨H9,I9,q9⟩=>?_
      cases b with
      | false =>
        rw [if_neg Bool.false_ne_true] at q9 ⊢
        exact again rfl I9 ag q9
      | true =>
        rw [if_pos rfl] at q9 ⊢
        refine thn (he' _ s9 σ8 H9 _ I9 q9) fun y s10 ⟨yv,H10,I10,ry,ys,hy,hlt,q10⟩=>?_
        refine thn (ap _ s10 σ8 H10 (.ref s2.heap.objs.size) [yv] (.ref s2.heap.objs.size) [y] (fun v H'=>v=.non/\H'=upd H10 s2.heap.objs.size (.lst (ys++[yv]))) I10 rfl (.cons ry .nil) ⟨_,ys,yv,rfl,rfl,hy,hlt,rfl,rfl⟩) fun z s11 ⟨v11,H11,I11,_,_,e11⟩=>?_
        subst e11
        exact again rfl I11 ag q10
  refine codeAny_compStart_list (loop _) (T.self _ 0 _ _ _ (T.keep _ _ _ st3 fun b _ o e=>old b o e) (loop _))
theorem zw2 (hcalm:X.calm=true)(hxe:X.xe=fun _ _=>False)(hkind:sc.kind=.function)(hcell:∀ y∈sc.names,y.2≠.cell)(hnames:∀ y∈sc.names,y.2=.local->sc.names.lookup y.1=some .local)
  (hfr:zeB (fun x=>X.env.kindOf x=some .cell) sc.names) (hfv:zhO X sc free fv) (hi:PI X tg iter wi)
  (hg:∀ cl C s₀ H₀ ex,PG (inner X sc (own++free) cl C s₀ H₀ ex) tg g) (ht:∀ cl C s₀ H₀ ex,PFs (inner X sc (own++free) cl C s₀ H₀ ex) ifs tc) (he:∀ cl C s₀ H₀ ex,PE (inner X sc (own++free) cl C s₀ H₀ ex) elt te)
  (hs:∀ x,foldedSetIterable iter X.env x=pure x:=by intro _;rfl):PE X (.ListComp elt [⟨tg,iter,ifs,0⟩] sc pos) (tLC own fv wi g tc te):=by
 intro pins s U H Q I q
 obtain⟨cl,hclos,hcl1,hcl2⟩:=zjk (env:=X.env) (sc:=sc) fun y hy e=>I.ok.has y.1 (.inl (hfr.of y hy e))
 rw [eval_ListComp]
 refine wpAny_comprehension_free (use:=none) rfl hs hclos hkind hnames (thn (hi pins s U H _ I q) fun v s1 h1=>thn h1 fun itv s2 h2=>?_)
 obtain⟨it,fp,tn,J,H2,e,I2,T,st2,f2,q2⟩:=h2
 subst e
 refine zjK (RR:=fun acc C=>compPost (model X.prog X.w) X.A X.xe none (EP X pins U Q) acc C) hcalm hxe hkind hcell hfr hfv hg ht he I2 T st2 f2 q2 hcl1 hcl2 ?_
 intro p C m H' s' hm I' hC hCl hC0 hCc hCp q'
 exact⟨m,hm,fun h' hs'=>⟨.ref p,H',I'.turned (t':=s'.toks) (fun b o hb e=>hs'.extBut b o hb e) hC hCl (.inr hC0) hCc hCp,rfl,q'⟩⟩
theorem zsT {i:Nat}{y:Str}{py spos:Pos}(hN:X.N.Nodup)(hy:X.N[i]?=some y)(hyl:X.env.scope.names.lookup y=some .local)(hcalm:X.calm=true)(hxe:X.xe=fun _ _=>False)(hkind:sc.kind=.function)(hcell:∀ y∈sc.names,y.2≠.cell)(hnames:∀ y∈sc.names,y.2=.local->sc.names.lookup y.1=some .local)
  (hfr:zeB (fun x=>X.env.kindOf x=some .cell) sc.names) (hfv:zhO X sc free fv) (hi:PI X tg iter wi)
  (hg:∀ cl C s₀ H₀ ex,PG (inner X sc (own++free) cl C s₀ H₀ ex) tg g) (ht:∀ cl C s₀ H₀ ex,PFs (inner X sc (own++free) cl C s₀ H₀ ex) ifs tc) (he:∀ cl C s₀ H₀ ex,PE (inner X sc (own++free) cl C s₀ H₀ ex) elt te)
  (hsw:swapsWith (.ListComp elt [⟨tg,iter,ifs,0⟩] sc pos) (some (.Name y py)) spos.line X.env=pure true:=by rfl)
  (hs:∀ x,foldedSetIterable iter X.env x=pure x:=by intro _;rfl):PS X (.Assign [.Name y py] (.ListComp elt [⟨tg,iter,ifs,0⟩] sc pos) spos) (zrm (tLC own fv wi g tc te) (zE i)):=by
 intro pins s U H D I q
 obtain⟨cl,hclos,hcl1,hcl2⟩:=zjk (env:=X.env) (sc:=sc) fun y hy e=>I.ok.has y.1 (.inl (hfr.of y hy e))
 rw [exec_Assign_Name_used _ _ _ _ hsw]
 refine wpAny_bind (wpAny_standAt (wpAny_bind ?_))
 show wpAny _ X.A (do let _ <- comprehension (.ListComp elt [⟨tg,iter,ifs,0⟩] sc pos) sc X.env _ (newList []) false (eval iter X.env) (some (assign (.Name y py) X.env))) _ _ s
 refine wpAny_bind (wpAny_mono (wpAny_comprehension_free (use:=some (assign (.Name y py) X.env)) (Q:=fun _ s'=>SP X pins D .next s') rfl hs hclos hkind hnames
  (thn (hi pins s U H _ I q) fun v s1 h1=>thn h1 fun itv s2 h2=>?_)) (fun _ s' hq=>wpAny_pure (wpAny_pure hq)) fun _ _ e=>e)
 obtain⟨it,fp,tn,J,H2,e,I2,T,st2,f2,q2⟩:=h2
 subst e
 refine zjK (RR:=fun acc C=>compPost (model X.prog X.w) X.A X.xe (some (assign (.Name y py) X.env)) (fun _ s'=>SP X pins D .next s') acc C) (Q:=fun x H1=>zE i x U H1 D.nx) hcalm hxe hkind hcell hfr hfv hg ht he I2 T st2 f2 q2 hcl1 hcl2 ?_
 intro p C m H' s' hm I' hC hCl hC0 hCc hCp q'
 show wpAny _ X.A (assign (.Name y py) X.env (.ref p)) _ _ _
 refine wpAny_assign_Name (zkM (v:=.ref p) I' hN hy (.inl hyl) rfl (fun s'' I'' hsb=>?_) (.inr hyl))
 obtain⟨a,hsb,ha⟩:=hsb
 have hCa:C≠a:=by
  rcases ha with rfl | ha
  ·exact hCl
  ·exact fun e=>hCc _ _ ha e.symm
 refine⟨m,hm.sameBut hsb hCa,fun h' hs'=>⟨_,H',I''.turned (t':=s''.toks) (fun b o hb e=>hs'.extBut b o hb e) hC hCl (.inr hC0) hCc hCp,q'⟩⟩
end
section
variable {U:L2.St}{H:Hp}{K:PySem.W.Frag}
end
section
variable {X:Cx}{tg:Expr}
end
mutual
inductive Dt (K:PySem.W.Frag)(H:Hp):V->PyData->Prop
 | non:Dt K H .non .none
 | bl (b:Bool):Dt K H (.bl b) (.bool b)
 | int (i:Int):Dt K H (.int i) (.int i)
 | tup {a:Addr} {xs:List V} {ds:List PyData}:SqT K H a xs->zjJ K H xs ds->Dt K H (.ref a) (.tuple ds)
 | lst {a:Addr} {xs:List V} {ds:List PyData}:SqL K H a xs->zjJ K H xs ds->Dt K H (.ref a) (.list ds)
inductive zjJ (K:PySem.W.Frag)(H:Hp):List V->List PyData->Prop
 | nil:zjJ K H [] []
 | cons {x:V} {xs:List V} {d:PyData} {ds:List PyData}:Dt K H x d->zjJ K H xs ds->zjJ K H (x::xs) (d::ds)
end
section
variable {X:Cx}{pins:List (Addr×Obj)}{U:L2.St}{H:Hp}{s:Shared}
end
section
variable {X:Cx}{pins:List (Addr×Obj)}{U:L2.St}{H:Hp}{s:Shared}
theorem _root_.L2.Inv.turnNew {h':Heap}{ch:List Addr}{a:Addr}{o:HO}{t':Nat}(I:Inv X pins U H s)(hf:∀ b∈ch,zfp X pins H b)(k:∀ b u,b∉ch->s.heap.get? b=some u->h'.get? b=some u)(ha:s.heap.objs.size<=a)
  (new:zbj X.prog X.w (upd H a o) h' a o):Inv X pins U (upd H a o) { s with heap:=h',toks:=t' }:=by
 have lt:∀ b u,s.heap.get? b=some u->b≠a:=fun b u e z=>by
  have:=Heap.lt_size e
  rw [z] at this;exact Nat.lt_irrefl _ (Nat.lt_of_lt_of_le this ha)
 have ltH:∀ b u,H b=some u->b≠a:=fun b u e z=>by
  have:=I.hok.lt e
  rw [z] at this;exact Nat.lt_irrefl _ (Nat.lt_of_lt_of_le this ha)
 have nch:∀ b u,H b=some u->b∉ch:=fun b u e z=>by rw [(hf b z).1] at e;cases e
 refine I.step (g':=s.gens) (d':=s.drawn) (ch:=ch) (fun b hb=>⟨(hf b hb).2.2.2.1,(hf b hb).2.1,(hf b hb).2.2.2.2.1,(hf b hb).2.2.2.2.2⟩) (fun b u _ _ hc e _=>k b u hc e) (fun b u _ _ hc e _=>⟨u.slots,k b u hc e⟩)
  (fun b u _ e n=>by rw [zaf (lt b u e)];exact n) (fun b u hc e=>⟨u,k b u hc e⟩) (fun b xs e=>by rw [zaf (ltH b _ e)];exact e) (fun b u v e=>by rw [zaf (ltH b _ e)];exact e)
  (fun b ps e=>⟨#[],by rw [zaf (ltH b _ e),e];simp⟩) (fun m hm=>?_) (fun b u e=>?_) I.bare
 ·obtain⟨ob,es,ep,ho,r⟩:=hm
  exact⟨ob,es,ep,k _ ob (fun z=>(hf _ z).2.1 rfl) ho,r⟩
 ·by_cases hb:b=a
  ·subst hb
   rw [zaW] at e
   cases e
   exact new
  ·rw [zaf hb] at e
   refine (I.hok b u e).stay (fun c v hc q=>k c v ?_ q) (fun c q=>by rw [zaf (ltH c _ q)];exact q) fun c ys q=>by rw [zaf (ltH c _ q)];exact q
   rcases hc with z | z
   ·rw [z];exact nch b u e
   ·exact nch c _ z
theorem _root_.L2.Inv.turnedL {h':Heap}{ch:List Addr}{t':Nat}(I:Inv X pins U H s)(hf:∀ b∈ch,zfp X pins H b)(k:∀ b u,b∉ch->s.heap.get? b=some u->h'.get? b=some u):Inv X pins U H { s with heap:=h',toks:=t' }:=by
 have nch:∀ b u,H b=some u->b∉ch:=fun b u e z=>by rw [(hf b z).1] at e;cases e
 refine I.step (g':=s.gens) (d':=s.drawn) (ch:=ch) (fun b hb=>⟨(hf b hb).2.2.2.1,(hf b hb).2.1,(hf b hb).2.2.2.2.1,(hf b hb).2.2.2.2.2⟩) (fun b u _ _ hc e _=>k b u hc e) (fun b u _ _ hc e _=>⟨u.slots,k b u hc e⟩)
  (fun b u _ e n=>n) (fun b u hc e=>⟨u,k b u hc e⟩) (fun b xs e=>e) (fun b u v e=>e) (fun b ps e=>⟨#[],by rw [e];simp⟩) (fun m hm=>?_) (fun b u e=>?_) I.bare
 ·obtain⟨ob,es,ep,ho,r⟩:=hm
  exact⟨ob,es,ep,k _ ob (fun z=>(hf _ z).2.1 rfl) ho,r⟩
 ·refine (I.hok b u e).stay (fun c v hc q=>k c v ?_ q) (fun c q=>q) fun c ys q=>q
  rcases hc with z | z
  ·rw [z];exact nch b u e
  ·exact nch c _ z
end
section
variable {X:Cx}
end
def Ite (K:PySem.W.Frag)(l:Addr):It :=
  ⟨fun i H=>∃ xs x,SqL K H l xs/\xs[i]?=some x,
   fun i H v H'=>∃ p,v=.ref p/\H p=none/\∀ xs x,SqL K H l xs->xs[i]?=some x->H'=upd H p (.tup [.int i,x]),
   fun i H=>∃ xs,SqL K H l xs/\xs.length<=i⟩
theorem zpB {P:Program}{w:World}{K:PySem.W.Frag}{es:List Expr}{kk:Nat}{pos:Pos}{e it l:Addr}(hne:e≠it) :
  Turn P w K (.Tuple es kk pos) (Ite K l) [e,it] e (fun i h=>(∃ old,IsEnum h e it i old)/\h.IsListIter it l i) where
 mem:=by simp
 obj:=fun i h st b hb=>by
  obtain⟨⟨old,he⟩,⟨o1,h1,_,h1d⟩⟩:=st
  simp only [qh,List.not_mem_nil,or_false] at hb
  rcases hb with rfl | rfl
  ·exact⟨_,he,fun v q=>by cases (show Data.fields _=Data.cell v from q)⟩
  ·exact⟨_,h1,fun v q=>by rw [h1d] at q;cases q⟩
 keep:=fun i h h' st k=>by
  obtain⟨⟨old,he⟩,h1⟩:=st
  exact⟨⟨old,k e (by simp) _ he⟩,h1.at fun o q=>k it (by simp) o q⟩
 item:=by
  intro X hP hw hK hc i pins s U H E I hf st hg
  subst hP hw hK
  obtain⟨⟨old,he⟩,h1⟩:=st
  obtain⟨xs,x,hx1,hx⟩:=hg
  obtain⟨its,rx,px,zx⟩:=I.list hx1
  obtain⟨u,hu,ru⟩:=Vals.get rx hx
  refine wpAny_pyNext_enum_item he h1 px.isList (by simpa using hu) hne fun h' a1 a2 a3 a4 hk=>?_
  refine⟨_,rfl,wpAny_letOwnedTupleGo_enum (s:={ s with heap:=h',toks:=s.toks+1 }) a1 fun h'' he'' hs''=>?_⟩
  have lt:∀ {c o},s.heap.get? c=some o->s.heap.objs.size≠c:=fun q=>Nat.ne_of_gt (Heap.lt_size q)
  have k2:∀ b u,b∉[e,it]->s.heap.get? b=some u->h''.get? b=some u:=fun b u hb q=>by
   simp only [qh,List.not_mem_nil,or_false,not_or] at hb
   exact hs''.extBut b u hb.1 (hk b u hb.1 hb.2 q)
  have new:h''.get? s.heap.objs.size=some { cls:=.type "tuple",data:=.seq #[.int i s.toks,u] }:=hs''.extBut _ _ (lt he) a3
  refine⟨.ref s.heap.objs.size,upd H s.heap.objs.size (.tup [.int i,x]),I.turnNew (t':=s.toks+1) hf k2 (qf _) ⟨by show 2<=sizeLine;decide,[.int i s.toks,u],.cons ⟨_,rfl⟩ (.cons ru .nil),_,new,rfl,_,rfl⟩,rfl,⟨_,rfl,I.fresh,?_⟩,?_,fun b hb=>?_⟩
  ·intro xs' x' hx1' hx'
   cases I.list_inj hx1 hx1'
   rw [hx] at hx'
   cases hx'
   rfl
  ·exact⟨⟨_,he''⟩,a2.extBut hs''.extBut (Ne.symm hne)⟩
  ·have:∃ o,s.heap.get? b=some o:=by
    simp only [qh,List.not_mem_nil,or_false] at hb
    obtain⟨o1,e1,_⟩:=h1
    rcases hb with rfl | rfl
    ·exact⟨_,he⟩
    ·exact⟨_,e1⟩
   obtain⟨o,q⟩:=this
   rw [zaf (lt q).symm]
   exact (hf b hb).1
 done:=by
  intro X hP hw hK hc i pins s U H E I hf st hg
  subst hP hw hK
  obtain⟨⟨old,he⟩,h1⟩:=st
  obtain⟨xs,hx1,hl⟩:=hg
  obtain⟨its,rx,px,zx⟩:=I.list hx1
  have n1:=rx.length
  refine wpAny_pyNext_enum_end (I.ok.hd hc) he h1 px.isList (by rw [List.getElem?_toArray];exact List.getElem?_eq_none (by omega)) fun h' hk=>⟨rfl,I.turnedL (t':=s.toks) hf fun b u hb q=>?_⟩
  simp only [qh,List.not_mem_nil,or_false,not_or] at hb
  exact hk b u hb.2 q
 self:=fun _ _ _ _ _ st h=>by
  obtain⟨⟨old,he⟩,_⟩:=st
  exact wpAny_pyIter_enum he h
section
variable {X:Cx}
end
def hT (x1 z1 x2 z2 a b:Int):Int:=z1*(x2-x1)*b+(z2-z1)*(a-x1*b)
def hB (x1 x2 b:Int):Int:=(x2-x1)*b
section
variable {U:L2.St}{H:Hp}
end
structure zkq (P:Program)(w:World)(K:PySem.W.Frag)(mg:Str->Option Value)(base:Heap)(k:Nat)(x:Str)(sp:Sp):Prop where
 ex:∃ (C f:Addr) (fd:FuncData) (ps:List Str) (sp0:Sp),Mk K C f/\zab P w K mg base CX0 k f fd ps sp0/\Binds K fd ps []/\mg x=some (.ref C) /\
  ∀ vs H Q,sp vs H Q E0->∀ x dx,H x=none->H dx=none->dx≠x->sp0 (.ref x::vs) (upd (upd H dx (.own x)) x (.ins C dx [])) (fun v H2=>v=.non/\Q (.ref x) H2) E0
theorem zw9 {X:Cx}{k j:Nat}{x:Str}{sp:Sp}{p pos:Pos}{e:Expr}{es:List Expr}{t:TA}(G:zkq X.prog X.w X.K X.mg X.base k x sp)(hr:zaO j X.A)(hk:k+1<=j)(hg:Gl X x)
  (ha:PA X (e::es) t) (hdb:(x==("__debug__":Str))=false:=by decide) (he:starEach (e::es) X.env=(false,eval e X.env)::starEach es X.env:=by rfl) (hpl:(backTo pos (starEach es X.env)).any (·.1)=false:=by rfl) :
  PE X (.Call (.Name x p) (e::es) [] pos) (zog sp [] E0 t):=by
 intro pins s U H Q I h
 obtain⟨C,f,fd,ps,sp0,M,F,b,hm,imp⟩:=G.ex
 refine wpAny_Call_Name_kw (zgh I hg hm ?_ hdb)
 refine PySem.W.callWith_K (h₀:=X.base) I.ok.mod.kin M.kp (thn (ha pos pins s U H _ I h) fun us s1 ⟨vs,H1,I1,r,q⟩=>⟨I1.kIn,?_⟩) he hpl
 have q':sp (vs++[]) H1 Q E0:=q
 rw [List.append_nil] at q'
 exact zqM (dvs:=[]) (ds:=[]) M F (hr.mono hk) b .nil zst I1 r fun x dx h1 h2 h3=>by rw [List.append_nil];exact imp vs H1 Q q' x dx h1 h2 h3
theorem zsD {X:Cx}{x:Str}{n:Int}{pos:Pos}(hg:Gl X x)(hm:∃ t,X.mg x=some (.int n t))(hd:(x==("__debug__":Str))=false:=by decide):PE X (.Name x pos) (tC (.int n)):=by
 obtain⟨t,ht⟩:=hm
 exact znp (v:=.int n) hg ht ⟨t,rfl⟩ hd
section
variable {U:L2.St}{H:Hp}{K:PySem.W.Frag}
end
section
variable {X:Cx}{K:PySem.W.Frag}
theorem zqn {pins:List (Addr×Obj)}{U:L2.St}{H:Hp}{s:Shared}{p:Addr}{its:List Value}(_:Inv X pins U H s)(pl:PlainL s.heap p its.toArray) :
  p<s.heap.objs.size/\(s.heap.push { cls:=.type "list_iterator",data:=.fields #[.ref p,.int 0 0] }).IsListIter s.heap.objs.size p 0:=by
 obtain⟨o,ho,_⟩:=pl.isList
 exact⟨Heap.lt_size ho,_,Heap.get?_push_size _ rfl,rfl,rfl⟩
theorem zqD {H:Hp}{pins:List (Addr×Obj)}{U:L2.St}{s:Shared}{h':Heap}{tk:Nat}(I:Inv X pins U H s){o:Obj}(hk:∀ b u,b∉[s.heap.objs.size]->(s.heap.push o).get? b=some u->h'.get? b=some u) :
  Inv X pins U H { s with heap:=h',toks:=tk }:=I.kept (t':=tk) fun d u e=>hk d u (fun hm=>by
   have h1:d=s.heap.objs.size:=by simpa using hm
   have h2:=Heap.lt_size e
   rw [h1] at h2
   exact Nat.lt_irrefl _ h2) (qc _ e)
def zxG (K:PySem.W.Frag):List V->Hp->VK->Prop:=fun xs H Q=>∃ (p:Addr) (bs:List Bool),xs=[.ref p]/\SqL K H p (bs.map V.bl)/\Q (.bl (bs.any id)) H
def zyb (K:PySem.W.Frag):List V->Hp->VK->Prop:=fun xs H Q=>∃ (p:Addr) (bs:List Bool),xs=[.ref p]/\SqL K H p (bs.map V.bl)/\Q (.bl (bs.all id)) H
theorem zmi {bs:List Bool}{its:List Value}(rv:Vals (bs.map V.bl) its){i:Nat}{v:Value}(h:its.toArray[i]?=some v):v=.bool (bs.getD i false):=by
 rw [<- Array.getElem?_toList] at h
 have hi:i<its.length:=by
  rcases Nat.lt_or_ge i its.length with g | g
  ·exact g
  ·rw [List.getElem?_eq_none (by simpa using g)] at h;cases h
 have hl:=rv.length
 rw [qa] at hl
 have e:(bs.map V.bl)[i]?=some (.bl (bs.getD i false)):=by
  rw [qg,qb (by omega)]
  simp [List.getD_eq_getElem?_getD,qb (show i<bs.length by omega)]
 obtain⟨u,hu,ru⟩:=rv.get e
 rw [show its.toArray.toList=its from rfl,hu] at h
 cases h
 exact ru
theorem any_range (bs:List Bool):(List.range bs.length).any (fun i=>bs.getD i false)=bs.any id:=by
 rw [Bool.eq_iff_iff,List.any_eq_true,List.any_eq_true]
 constructor
 ·rintro⟨i,hi,h⟩
  rw [List.mem_range] at hi
  refine⟨bs[i],List.getElem_mem hi,?_⟩
  simpa [List.getD_eq_getElem?_getD,qb hi] using h
 ·rintro⟨b,hb,h⟩
  obtain⟨i,hi,rfl⟩:=List.mem_iff_getElem.mp hb
  exact⟨i,List.mem_range.mpr hi,by simpa [List.getD_eq_getElem?_getD,qb hi] using h⟩
theorem all_range (bs:List Bool):(List.range bs.length).all (fun i=>bs.getD i false)=bs.all id:=by
 rw [Bool.eq_iff_iff,List.all_eq_true,List.all_eq_true]
 constructor
 ·intro h b hb
  obtain⟨i,hi,rfl⟩:=List.mem_iff_getElem.mp hb
  simpa [List.getD_eq_getElem?_getD,qb hi] using h i (List.mem_range.mpr hi)
 ·intro h i hi
  rw [List.mem_range] at hi
  have:=h bs[i] (List.getElem_mem hi)
  simpa [List.getD_eq_getElem?_getD,qb hi] using this
theorem zqr (hK:X.K=K)(hc:X.calm=true):zaI X (.builtin "any") (zxG K):=fun pins s U H xs us Q I r h=>by
 subst hK
 obtain⟨p,bs,rfl,hS,q⟩:=h
 obtain⟨u,rfl,ru⟩:=vals1 r
 cases ru
 obtain⟨its,rv,pl,hz⟩:=I.list hS
 obtain⟨lt,st⟩:=zqn I pl
 have hl:=rv.length
 rw [qa] at hl
 have W:=Walks.list (prog:=X.prog) (w:=X.w) (A:=X.A.in1) (I.ok.hd hc) s.heap.objs.size p (Nat.ne_of_lt lt) its.toArray
 refine call_any_walk (wpAny_pyIter_list pl.isList ⟨s.heap.objs.size,[s.heap.objs.size,p],[s.heap.objs.size],_,_,_,fun i=>bs.getD i false,rfl,W,⟨st,pl.isList.push _⟩,?_,?_⟩)
 ·intro i v s' Q' E' hv hq
  rw [zmi rv hv]
  exact wpAny_truthy_bool hq
 ·intro h' tk hk
  rw [qi,<- hl,any_range]
  exact⟨.bl _,H,zqD (s:=s) I hk,rfl,q⟩
theorem zqs (hK:X.K=K)(hc:X.calm=true):zaI X (.builtin "all") (zyb K):=fun pins s U H xs us Q I r h=>by
 subst hK
 obtain⟨p,bs,rfl,hS,q⟩:=h
 obtain⟨u,rfl,ru⟩:=vals1 r
 cases ru
 obtain⟨its,rv,pl,hz⟩:=I.list hS
 obtain⟨lt,st⟩:=zqn I pl
 have hl:=rv.length
 rw [qa] at hl
 have W:=Walks.list (prog:=X.prog) (w:=X.w) (A:=X.A.in1) (I.ok.hd hc) s.heap.objs.size p (Nat.ne_of_lt lt) its.toArray
 refine call_all_walk (wpAny_pyIter_list pl.isList ⟨s.heap.objs.size,[s.heap.objs.size,p],[s.heap.objs.size],_,_,_,fun i=>bs.getD i false,rfl,W,⟨st,pl.isList.push _⟩,?_,?_⟩)
 ·intro i v s' Q' E' hv hq
  rw [zmi rv hv]
  exact wpAny_truthy_bool hq
 ·intro h' tk hk
  rw [qi,<- hl,all_range]
  exact⟨.bl _,H,zqD (s:=s) I hk,rfl,q⟩
def zv8 (K:PySem.W.Frag):List V->Hp->VK->Prop:=fun xs H Q=>∃ (p:Addr) (ns:List Int),xs=[.ref p]/\SqL K H p (ns.map V.int)/\0<ns.length/\∀ m:Int,m∈ns->(∀ a∈ns,a<=m)->Q (.int m) H
def zwv (K:PySem.W.Frag):List V->Hp->VK->Prop:=fun xs H Q=>∃ (p:Addr) (ns:List Int),xs=[.ref p]/\SqL K H p (ns.map V.int)/\0<ns.length/\∀ m:Int,m∈ns->(∀ a∈ns,m<=a)->Q (.int m) H
theorem zhh:∀ {ns:List Int} {its:List Value},Vals (ns.map V.int) its->∃ xs:Array (Int×Tok),its.toArray=intItems xs/\xs.toList.map (·.1)=ns
 | [],_,h=>by cases h;exact⟨#[],by simp [intItems],rfl⟩
 | n::ns,_,h=>by
  cases h with
  | cons r t =>
   obtain⟨tk,rfl⟩:=r
   obtain⟨xs,e1,e2⟩:=zhh t
   refine⟨#[(n,tk)]++xs,?_,?_⟩
   ·apply Array.toList_inj.mp
    have:=congrArg Array.toList e1
    simp [intItems] at this ⊢
    exact this
   ·simp [e2]
theorem zpg (hK:X.K=K)(hc:X.calm=true):zaI X (.builtin "max") (zv8 K):=fun pins s U H xs us Q I r h=>by
 subst hK
 obtain⟨p,ns,rfl,hS,hne,q⟩:=h
 obtain⟨u,rfl,ru⟩:=vals1 r
 cases ru
 obtain⟨its,rv,pl,hz⟩:=I.list hS
 obtain⟨xs,e1,e2⟩:=zhh rv
 have hsz:0<xs.size:=by rw [<- Array.length_toList,<- qa (f:=(·.1)),e2];exact hne
 refine max_intList (I.ok.hd hc) (e1▸pl.isList) hsz fun v h' tk hv hk=>?_
 obtain⟨t,rfl⟩:=intItems_at hv
 obtain⟨h1,h2⟩:=argBest_gt (numAt xs) (xs.size-1)
 refine⟨.int _,H,I.kept (t':=tk) hk,⟨t,rfl⟩,q _ ?_ fun a ha=>?_⟩
 ·rw [<- e2,numAt_eq];exact getD_mem (by rw [qa,Array.length_toList];omega)
 ·rw [<- e2] at ha
  obtain⟨j,hj,rfl⟩:=mem_getD ha
  rw [qa,Array.length_toList] at hj
  rw [<- numAt_eq];exact h2 j (by omega)
theorem zqi (hK:X.K=K)(hc:X.calm=true):zaI X (.builtin "min") (zwv K):=fun pins s U H xs us Q I r h=>by
 subst hK
 obtain⟨p,ns,rfl,hS,hne,q⟩:=h
 obtain⟨u,rfl,ru⟩:=vals1 r
 cases ru
 obtain⟨its,rv,pl,hz⟩:=I.list hS
 obtain⟨xs,e1,e2⟩:=zhh rv
 have hsz:0<xs.size:=by rw [<- Array.length_toList,<- qa (f:=(·.1)),e2];exact hne
 refine min_intList (I.ok.hd hc) (e1▸pl.isList) hsz fun v h' tk hv hk=>?_
 obtain⟨t,rfl⟩:=intItems_at hv
 obtain⟨h1,h2⟩:=argBest_lt (numAt xs) (xs.size-1)
 refine⟨.int _,H,I.kept (t':=tk) hk,⟨t,rfl⟩,q _ ?_ fun a ha=>?_⟩
 ·rw [<- e2,numAt_eq];exact getD_mem (by rw [qa,Array.length_toList];omega)
 ·rw [<- e2] at ha
  obtain⟨j,hj,rfl⟩:=mem_getD ha
  rw [qa,Array.length_toList] at hj
  rw [<- numAt_eq];exact h2 j (by omega)
def zwk (K:PySem.W.Frag):List V->Hp->VK->Prop:=fun xs H Q=>∃ p ys,xs=[.ref p]/\((SqL K H p ys/\∀ l,H l=none->Q (.ref l) (upd H l (.tup ys)))\/(SqT K H p ys/\Q (.ref p) H))
theorem zpJ (hK:X.K=K):zaI X (.type "tuple") (zwk K):=hK▸zk0
end
section
variable {X:Cx}{K:PySem.W.Frag}
def zxs (K:PySem.W.Frag):R2:=fun x y H Q=>∃ l b xs zs,x=.ref l/\y=.ref b/\SqL K H l xs/\SqL K H b zs/\xs.length+zs.length<=sizeLine/\∀ p,H p=none->Q (.ref p) (upd H p (.lst (xs++zs)))
theorem ztX (hK:X.K=K):OpR X (binaryOp .Add) (zxs K):=by
 subst hK
 intro pins s U H x y v u Q I rx ry h
 obtain⟨l,b,xs,zs,rfl,rfl,hH,hB,hz,q⟩:=h
 cases rx
 cases ry
 obtain⟨its,r,pl,_⟩:=I.list hH
 obtain⟨its2,r2,pl2,_⟩:=I.list hB
 obtain⟨⟨cls,dd,data,sl⟩,ho,hc,n,hd⟩:=pl.isList
 obtain⟨⟨cls2,dd2,data2,sl2⟩,ho2,hc2,n2,hd2⟩:=pl2.isList
 simp only at hc hd hc2 hd2
 subst hc hd hc2 hd2
 have e1:=r.length
 have e2:=r2.length
 refine concat_meets ⟨_,ho,rfl⟩ ⟨_,ho2,rfl⟩ noFill_list_add seq_list_add PySem.F.slot_list_add PySem.F.entry_list_add (PySem.F.args_list_add_2 _ _) (list_addW l b its.toArray its2.toArray n n2 dd dd2 sl sl2 (by rw [qi,qi];omega)) ⟨ho,ho2,?_⟩
 have ea:its.toArray++its2.toArray=(its++its2).toArray:=by simp
 rw [ea]
 exact⟨.ref _,_,I.lnew (t':=s.toks) (r.append r2) (by rw [qe];omega),rfl,q _ I.fresh⟩
end
section
variable {U:L2.St}{K:PySem.W.Frag}{own:List Str}{fv:List Nat}{g:TG}{tc:TT}{te:TE}{R:Hp->Prop}{H1:Hp}{p a:Addr}{xs:List V}
end
def zfY (H:Hp)(ps:List Addr)(cs:List (Int×Int)):Prop:=Paired (fun (p:Addr) (c:Int×Int)=>H p=some (.tup [.int c.1,.int c.2])) ps cs
theorem zfY.length {H:Hp}{ps:List Addr}{cs:List (Int×Int)}(h:zfY H ps cs):ps.length=cs.length:=Paired.length h
theorem za8 {α:Type}{xs:List α}{i:Nat}{x:α}(h:xs[i]?=some x):i<xs.length:=by
 rcases Nat.lt_or_ge i xs.length with g | g
 ·exact g
 ·rw [List.getElem?_eq_none g] at h;cases h
open PySem PySem.W PyProof.Rows
def zam {α:Type}(lt:Nat->Nat->Bool):KasT α->α
 | .ret a=>a
 | .ask i j k=>zam lt (k (lt i j))
theorem zd0 {α β:Type}(lt:Nat->Nat->Bool)(f:α->KasT β):∀ t:KasT α,zam lt (t.bind f)=zam lt (f (zam lt t))
 | .ret _=>rfl
 | .ask i j k=>zd0 lt f (k (lt i j))
structure Swo (lt:Nat->Nat->Bool):Prop where
 asymm:∀ a b,lt a b=true->lt b a=false
 ntrans:∀ a b c,lt b a=false->lt c b=false->lt c a=false
section
variable {lt:Nat->Nat->Bool}
abbrev ga (p:Array Nat)(i:Nat):Nat:=p.getD i 0
theorem zhF (p:Array Nat)(i:Nat):ga p i=(p[i]?).getD 0:=by simp [ga,Array.getD_eq_getD_getElem?]
theorem zpQ {p:Array Nat}{src d:Nat}(hs:src<p.size)(hd:d<=src)(k:Nat):ga (bubble p src d) k=if k=src-d then ga p src else if src-d<k/\k<=src then ga p (k-1) else ga p k:=by
 rw [zhF,getElem?_bubble hs d hd]
 by_cases h1:k=src-d
 ·rw [if_pos h1,if_pos h1,zhF]
 ·rw [if_neg h1,if_neg h1]
  by_cases h2:src-d<k/\k<=src
  ·rw [if_pos h2,if_pos h2,zhF]
  ·rw [if_neg h2,if_neg h2,zhF]
theorem zdl {p:Array Nat}{i j:Nat}(hj:j<=p.size)(k:Nat):ga (kas_rev p i j) k=if i<=k/\k<j then ga p (i+j-1-k) else ga p k:=by
  unfold kas_rev
  rw [zhF,getElem?_mirror_all hj]
  split<;>rw [zhF]
def Asc (lt:Nat->Nat->Bool)(p:Array Nat)(n:Nat):Prop:=∀ i j,i<=j->j<n->lt (ga p j) (ga p i)=false
def Dsc (lt:Nat->Nat->Bool)(p:Array Nat)(n:Nat):Prop:=∀ i j,i<=j->j<n->lt (ga p i) (ga p j)=false
def Eqs (lt:Nat->Nat->Bool)(p:Array Nat)(a b:Nat):Prop:=∀ i j,a<=i->i<b->a<=j->j<b->lt (ga p i) (ga p j)=false
theorem irr (S:Swo lt)(a:Nat):lt a a=false:=by
 cases h:lt a a with
 | false=>rfl
 | true=>have:=S.asymm a a h;rw [h] at this;exact this
theorem Asc.snoc (S:Swo lt){p:Array Nat}{n:Nat}(h1:1<=n)(h:Asc lt p n)(hn:lt (ga p n) (ga p (n-1))=false):Asc lt p (n+1):=by
 intro i j hij hj
 rcases Nat.lt_or_ge j n with g | g
 ·exact h i j hij g
 ·have e:j=n:=by omega
  subst e
  rcases Nat.lt_or_ge i j with g' | g'
  ·exact S.ntrans (ga p i) (ga p (j-1)) (ga p j) (h i (j-1) (by omega) (by omega)) hn
  ·have:i=j:=by omega
   subst this
   exact irr S _
theorem Dsc.snoc (S:Swo lt){p:Array Nat}{n:Nat}(h1:1<=n)(h:Dsc lt p n)(hn:lt (ga p (n-1)) (ga p n)=false):Dsc lt p (n+1):=by
 intro i j hij hj
 rcases Nat.lt_or_ge j n with g | g
 ·exact h i j hij g
 ·have e:j=n:=by omega
  subst e
  rcases Nat.lt_or_ge i j with g' | g'
  ·exact S.ntrans (ga p j) (ga p (j-1)) (ga p i) hn (h i (j-1) (by omega) (by omega))
  ·have:i=j:=by omega
   subst this
   exact irr S _
theorem Dsc.rev {p:Array Nat}{n:Nat}(hn:n<=p.size)(h:Dsc lt p n):Asc lt (kas_rev p 0 n) n:=by
 intro i j hij hj
 rw [zdl hn,zdl hn,if_pos ⟨by omega,hj⟩,if_pos ⟨by omega,by omega⟩]
 exact h _ _ (by omega) (by omega)
theorem Asc.rev {p:Array Nat}{n:Nat}(hn:n<=p.size)(h:Asc lt p n):Dsc lt (kas_rev p 0 n) n:=by
 intro i j hij hj
 rw [zdl hn,zdl hn,if_pos ⟨by omega,by omega⟩,if_pos ⟨by omega,by omega⟩]
 exact h _ _ (by omega) (by omega)
theorem Dsc.turn (S:Swo lt){p:Array Nat}{n a:Nat}(hn:n<=p.size)(ha:a<=n)(h:Dsc lt p n)(he:Eqs lt p a n):Dsc lt (kas_rev p a n) n:=by
 intro i j hij hj
 rw [zdl hn,zdl hn]
 by_cases hi:a<=i
 ·rw [if_pos ⟨hi,by omega⟩,if_pos ⟨by omega,hj⟩]
  exact he _ _ (by omega) (by omega) (by omega) (by omega)
 ·rw [if_neg (by omega)]
  by_cases hj':a<=j
  ·rw [if_pos ⟨hj',hj⟩]
   exact h _ _ (by omega) (by omega)
  ·rw [if_neg (by omega)]
   exact h _ _ hij hj
theorem zdM {p:Array Nat}{i j:Nat}:(kas_rev p i j).size=p.size:=mirror_size _ _ _ _
theorem zcq {p:Array Nat}{i j:Nat}:(kas_rev p i j).Perm p:=mirror_perm _ _ _ _
theorem zl9 (S:Swo lt)(p:Array Nat):∀ f n,1<=n->Asc lt p n->Asc lt p (zam lt (kas_asc p f n))/\n<=zam lt (kas_asc p f n)/\zam lt (kas_asc p f n)<=n+f/\(zam lt (kas_asc p f n)<n+f->lt (ga p (zam lt (kas_asc p f n))) (ga p (zam lt (kas_asc p f n)-1))=true)
 | 0,n,_,h=>⟨h,qf _,qf _,fun z=>absurd z (Nat.lt_irrefl _)⟩
 | f+1,n,h1,h=>by
  cases hc:lt (ga p n) (ga p (n-1)) with
  | true =>
   have e:zam lt (kas_asc p (f+1) n)=n:=by
    show zam lt (if lt (ga p n) (ga p (n-1))=true then KasT.ret n else kas_asc p f (n+1))=n
    rw [if_pos hc];rfl
   rw [e]
   exact⟨h,qf _,by omega,fun _=>hc⟩
  | false =>
   have e:zam lt (kas_asc p (f+1) n)=zam lt (kas_asc p f (n+1)):=by
    show zam lt (if lt (ga p n) (ga p (n-1))=true then KasT.ret n else kas_asc p f (n+1))=_
    rw [if_neg (by rw [hc];exact Bool.false_ne_true)]
   rw [e]
   obtain⟨a1,a2,a3,a4⟩:=zl9 S p f (n+1) (by omega) (h.snoc S h1 hc)
   exact⟨a1,by omega,by omega,fun z=>a4 (by omega)⟩
theorem zil (S:Swo lt):∀ f (p:Array Nat) n q,1<=n->n+f<=p.size->q+1<=n->Dsc lt p n->Eqs lt p (n-(q+1)) n ->
    let r:=zam lt (kas_desc f p n q)
    r.1.size=p.size/\r.1.Perm p/\n<=r.2.1/\r.2.1<=n+f/\r.2.2+1<=r.2.1/\Dsc lt r.1 r.2.1/\Eqs lt r.1 (r.2.1-(r.2.2+1)) r.2.1
  | 0,p,n,q,h1,hz,hq,h,he=>⟨rfl,Array.Perm.refl _,qf _,qf _,hq,h,he⟩
  | f+1,p,n,q,h1,hz,hq,h,he=>by
    have one:∀ p':Array Nat,Eqs lt p' (n+1-(0+1)) (n+1):=fun p' i j a b c d=>by
      have e1:i=n:=by omega
      have e2:j=n:=by omega
      subst e1;subst e2
      exact irr S _
    cases hc:lt (ga p n) (ga p (n-1)) with
    | true =>
      have hn:lt (ga p (n-1)) (ga p n)=false:=S.asymm _ _ hc
      by_cases hq0:q > 0
      . have e : zam lt (kas_desc (f + 1) p n q) = zam lt (kas_desc f (kas_rev p (n - (q + 1)) n) (n + 1) 0) := by
          show zam lt (if lt (ga p n) (ga p (n-1))=true then (if q > 0 then kas_desc f (kas_rev p (n-(q+1)) n) (n+1) 0 else kas_desc f p (n+1) 0) else _)=_
          rw [if_pos hc,if_pos hq0]
        have ht:=h.turn S (a:=n-(q+1)) (by omega) (by omega) he
        have k1:ga (kas_rev p (n-(q+1)) n) n=ga p n:=by rw [zdl (by omega),if_neg (by omega)]
        have k2:ga (kas_rev p (n-(q+1)) n) (n-1)=ga p (n-(q+1)):=by
          rw [zdl (by omega),if_pos ⟨by omega,by omega⟩]
          congr 1;omega
        have hs:=Dsc.snoc S (p:=kas_rev p (n-(q+1)) n) h1 ht (by
          rw [k1,k2]
          exact S.ntrans (ga p n) (ga p (n-1)) (ga p (n-(q+1))) hn (he _ _ (by omega) (by omega) (by omega) (by omega)))
        have ih:=zil S f (kas_rev p (n-(q+1)) n) (n+1) 0 (by omega) (by rw [zdM];omega) (by omega) hs (one _)
        rw [e]
        obtain⟨a1,a2,a3,a4,a5,a6,a7⟩:=ih
        exact⟨a1.trans zdM,a2.trans zcq,by omega,by omega,a5,a6,a7⟩
      . have e : zam lt (kas_desc (f + 1) p n q) = zam lt (kas_desc f p (n + 1) 0) := by
          show zam lt (if lt (ga p n) (ga p (n-1))=true then (if q > 0 then kas_desc f (kas_rev p (n-(q+1)) n) (n+1) 0 else kas_desc f p (n+1) 0) else _)=_
          rw [if_pos hc,if_neg hq0]
        have ih:=zil S f p (n+1) 0 (by omega) (by omega) (by omega) (h.snoc S h1 hn) (one _)
        rw [e]
        obtain⟨a1,a2,a3,a4,a5,a6,a7⟩:=ih
        exact⟨a1,a2,by omega,by omega,a5,a6,a7⟩
    | false =>
      cases hd:lt (ga p (n-1)) (ga p n) with
      | true =>
        have e:zam lt (kas_desc (f+1) p n q)=(p,n,q):=by
          show zam lt (if lt (ga p n) (ga p (n-1))=true then _ else KasT.ask (ga p (n-1)) (ga p n) fun d=>if d=true then .ret (p,n,q) else kas_desc f p (n+1) (q+1))=_
          rw [if_neg (by rw [hc];exact Bool.false_ne_true)]
          show zam lt (if lt (ga p (n-1)) (ga p n)=true then _ else _)=_
          rw [if_pos hd];rfl
        rw [e]
        exact⟨rfl,Array.Perm.refl _,qf _,by show n<=_;omega,hq,h,he⟩
      | false =>
        have e:zam lt (kas_desc (f+1) p n q)=zam lt (kas_desc f p (n+1) (q+1)):=by
          show zam lt (if lt (ga p n) (ga p (n-1))=true then _ else KasT.ask (ga p (n-1)) (ga p n) fun d=>if d=true then .ret (p,n,q) else kas_desc f p (n+1) (q+1))=_
          rw [if_neg (by rw [hc];exact Bool.false_ne_true)]
          show zam lt (if lt (ga p (n-1)) (ga p n)=true then _ else _)=_
          rw [if_neg (by rw [hd];exact Bool.false_ne_true)]
        have heq:Eqs lt p (n+1-(q+1+1)) (n+1):=by
          intro i j a b c d
          rcases Nat.lt_or_ge i n with gi | gi<;>rcases Nat.lt_or_ge j n with gj | gj
          . exact he i j (by omega) gi (by omega) gj
          . have:j=n:=by omega
            subst this
            exact S.ntrans (ga p j) (ga p (j-1)) (ga p i) hd (he i (j-1) (by omega) gi (by omega) (by omega))
          . have:i=n:=by omega
            subst this
            exact S.ntrans (ga p j) (ga p (i-1)) (ga p i) (he (i-1) j (by omega) (by omega) (by omega) gj) hc
          . have e1:i=n:=by omega
            have e2:j=n:=by omega
            subst e1;subst e2
            exact irr S _
        have ih:=zil S f p (n+1) (q+1) (by omega) (by omega) (by omega) (h.snoc S h1 hd) heq
        rw [e]
        obtain⟨a1,a2,a3,a4,a5,a6,a7⟩:=ih
        exact⟨a1,a2,by omega,by omega,a5,a6,a7⟩
def ziE (lt:Nat->Nat->Bool)(p:Array Nat)(nrem:Nat)(r:Nat×Array Nat):Prop:=r.2.size=p.size/\r.2.Perm p/\1<=r.1/\r.1<=nrem/\Asc lt r.2 r.1
theorem znE (S:Swo lt){p:Array Nat}{n nrem:Nat}(h1:1<=n)(hn:n<=nrem)(hz:nrem<=p.size)(h:Dsc lt p n):ziE lt p nrem (zam lt (kas_tail3 n nrem p)):=by
 have e:zam lt (kas_tail3 n nrem p)=(zam lt (kas_asc (kas_rev p 0 n) (nrem-n) n),kas_rev p 0 n):=by
  unfold kas_tail3;rw [zd0];rfl
 rw [e]
 obtain⟨a1,a2,a3,_⟩:=zl9 S (kas_rev p 0 n) (nrem-n) n h1 (h.rev (by omega))
 exact⟨zdM,zcq,by show 1<=zam lt _;omega,by show zam lt _<=nrem;omega,a1⟩
theorem ziP (S:Swo lt){p:Array Nat}{n nrem:Nat}(h1:1<=n)(hn:n+1<=nrem)(hz:nrem<=p.size)(h:Dsc lt p (n+1)):ziE lt p nrem (zam lt (kas_descPart n nrem p)):=by
 unfold kas_descPart
 rw [zd0]
 have d:=zil S (nrem-(n+1)) p (n+1) 0 (by omega) (by omega) (by omega) h (fun i j a b c d=>by
  have e1:i=n:=by omega
  have e2:j=n:=by omega
  subst e1;subst e2
  exact irr S _)
 dsimp only at d
 generalize zam lt (kas_desc (nrem-(n+1)) p (n+1) 0)=r at d ⊢
 obtain⟨a1,a2,a3,a4,a5,a6,a7⟩:=d
 by_cases hq:r.2.2 > 0
 ·rw [if_pos hq]
  obtain⟨b1,b2,b3,b4,b5⟩:=znE S (p:=kas_rev r.1 (r.2.1-(r.2.2+1)) r.2.1) (n:=r.2.1) (nrem:=nrem) (by omega) (by omega) (by rw [zdM];omega) (a6.turn S (by omega) (by omega) a7)
  exact⟨b1.trans (zdM.trans a1),b2.trans (zcq.trans a2),b3,b4,b5⟩
 ·rw [if_neg hq]
  obtain⟨b1,b2,b3,b4,b5⟩:=znE S (p:=r.1) (n:=r.2.1) (nrem:=nrem) (by omega) (by omega) (by omega) a6
  exact⟨b1.trans a1,b2.trans a2,b3,b4,b5⟩
theorem zq1 (S:Swo lt){p:Array Nat}{nrem:Nat}(h1:1<=nrem)(hz:nrem<=p.size):ziE lt p nrem (zam lt (kas_count nrem p)):=by
 unfold kas_count
 rw [zd0]
 have h0:Asc lt p 1:=fun i j a b=>by
  have e1:i=0:=by omega
  have e2:j=0:=by omega
  subst e1;subst e2
  exact irr S _
 obtain⟨a1,a2,a3,a4⟩:=zl9 S p (nrem-1) 1 (qf _) h0
 generalize zam lt (kas_asc p (nrem-1) 1)=n at a1 a2 a3 a4 ⊢
 by_cases hn:(n==nrem)=true
 ·rw [if_pos hn]
  have:n=nrem:=by simpa using hn
  exact⟨rfl,Array.Perm.refl _,a2,by show n<=nrem;omega,a1⟩
 ·rw [if_neg hn]
  have hne:n≠nrem:=by simpa using hn
  have hlt:=a4 (by omega)
  by_cases hn1:n > 1
  ·rw [if_pos hn1]
   show ziE lt p nrem (zam lt (if lt (ga p 0) (ga p (n-1))=true then KasT.ret (n,p) else kas_descPart n nrem (kas_rev p 0 n)))
   cases hc:lt (ga p 0) (ga p (n-1)) with
   | true=>rw [if_pos rfl];exact⟨rfl,Array.Perm.refl _,a2,by show n<=nrem;omega,a1⟩
   | false =>
    rw [if_neg Bool.false_ne_true]
    have hd:=a1.rev (n:=n) (by omega)
    have hs:=Dsc.snoc S (p:=kas_rev p 0 n) a2 hd (by
     have k1:ga (kas_rev p 0 n) n=ga p n:=by rw [zdl (by omega),if_neg (by omega)]
     have k2:ga (kas_rev p 0 n) (n-1)=ga p 0:=by rw [zdl (by omega),if_pos ⟨by omega,by omega⟩];congr 1;omega
     rw [k1,k2]
     exact S.ntrans (ga p n) (ga p (n-1)) (ga p 0) (S.asymm _ _ hlt) hc)
    obtain⟨b1,b2,b3,b4,b5⟩:=ziP S (p:=kas_rev p 0 n) (n:=n) (nrem:=nrem) a2 (by omega) (by rw [zdM];omega) hs
    exact⟨b1.trans zdM,b2.trans zcq,b3,b4,b5⟩
  ·rw [if_neg hn1]
   have e:n=1:=by omega
   subst e
   exact ziP S (qf _) (by omega) hz (Dsc.snoc S (qf _) (fun i j a b=>by
    have e1:i=0:=by omega
    have e2:j=0:=by omega
    subst e1;subst e2
    exact irr S _) (S.asymm _ _ hlt))
theorem zi9 (S:Swo lt){p:Array Nat}{k:Nat}(h:Asc lt p k):∀ f l r,l<=r->r<=k->r-l<=f->(∀ i,i<l->lt (ga p k) (ga p i)=false)->(∀ i,r<=i->i<k->lt (ga p k) (ga p i)=true) ->
  let m:=zam lt (kas_place p k f l r)
  m<=k/\(∀ i,i<m->lt (ga p k) (ga p i)=false)/\(∀ i,m<=i->i<k->lt (ga p k) (ga p i)=true)
 | 0,l,r,h1,h2,h3,hl,hr=>by
  have:l=r:=by omega
  subst this
  exact⟨h2,hl,hr⟩
 | f+1,l,r,h1,h2,h3,hl,hr=>by
  by_cases hlr:l ≥ r
  ·have e:zam lt (kas_place p k (f+1) l r)=l:=by
    unfold kas_place;rw [if_pos hlr];rfl
   rw [e]
   have:l=r:=by omega
   subst this
   exact⟨h2,hl,hr⟩
  ·have e:zam lt (kas_place p k (f+1) l r)=zam lt (if lt (ga p k) (ga p ((l+r)/2))=true then kas_place p k f l ((l+r)/2) else kas_place p k f ((l+r)/2+1) r):=by
    conv=>lhs;unfold kas_place
    rw [if_neg hlr];rfl
   rw [e]
   cases hc:lt (ga p k) (ga p ((l+r)/2)) with
   | true =>
    rw [if_pos rfl]
    refine zi9 S h f l ((l+r)/2) (by omega) (by omega) (by omega) hl fun i hi hik=>?_
    cases hx:lt (ga p k) (ga p i) with
    | true=>rfl
    | false =>
     have:=S.ntrans (ga p ((l+r)/2)) (ga p i) (ga p k) (h _ _ hi hik) hx
     rw [hc] at this;exact this.symm
   | false =>
    rw [if_neg Bool.false_ne_true]
    refine zi9 S h f ((l+r)/2+1) r (by omega) h2 (by omega) (fun i hi=>?_) hr
    exact S.ntrans (ga p i) (ga p ((l+r)/2)) (ga p k) (h _ _ (by omega) (by omega)) hc
theorem zpr (S:Swo lt):∀ f (p:Array Nat) k,k+f<=p.size->Asc lt p k->let r:=zam lt (kas_bin f p k);r.size=p.size/\r.Perm p/\Asc lt r (k+f)
 | 0,p,k,_,h=>⟨rfl,Array.Perm.refl _,h⟩
 | f+1,p,k,hz,h=>by
  have e:zam lt (kas_bin (f+1) p k)=zam lt (kas_bin f (bubble p k (k-zam lt (kas_place p k k 0 k))) (k+1)):=by
   show zam lt ((kas_place p k k 0 k).bind fun l=>kas_bin f (bubble p k (k-l)) (k+1))=_
   rw [zd0]
  rw [e]
  obtain⟨m1,m2,m3⟩:=zi9 S h k 0 k (Nat.zero_le _) (qf _) (by omega) (fun i hi=>absurd hi (by omega)) (fun i hi hik=>absurd hi (by omega))
  generalize zam lt (kas_place p k k 0 k)=m at m1 m2 m3 ⊢
  have hb:∀ i,ga (bubble p k (k-m)) i=if i=m then ga p k else if m<i/\i<=k then ga p (i-1) else ga p i:=fun i=>by
   rw [zpQ (by omega) (by omega),show k-(k-m)=m by omega]
  have hs:Asc lt (bubble p k (k-m)) (k+1):=by
   intro i j hij hj
   rw [hb,hb]
   by_cases hi:i=m
   ·rw [if_pos hi]
    by_cases hjm:j=m
    ·rw [if_pos hjm];exact irr S _
    ·rw [if_neg hjm,if_pos ⟨by omega,by omega⟩]
     exact S.asymm _ _ (m3 (j-1) (by omega) (by omega))
   ·rw [if_neg hi]
    by_cases hjm:j=m
    ·rw [if_pos hjm,if_neg (by omega)]
     exact m2 i (by omega)
    ·rw [if_neg hjm]
     by_cases hi2:m<i
     ·rw [if_pos (show m<i/\i<=k from ⟨hi2,by omega⟩),if_pos (show m<j/\j<=k from ⟨by omega,by omega⟩)]
      exact h _ _ (by omega) (by omega)
     ·rw [if_neg (show ¬ (m<i/\i<=k) by omega)]
      by_cases hj2:m<j
      ·rw [if_pos (show m<j/\j<=k from ⟨hj2,by omega⟩)]
       exact h _ _ (by omega) (by omega)
      ·rw [if_neg (show ¬ (m<j/\j<=k) by omega)]
       exact h _ _ hij (by omega)
  obtain⟨a1,a2,a3⟩:=zpr S f (bubble p k (k-m)) (k+1) (by rw [bubble_size];omega) hs
  exact⟨a1.trans (bubble_size _ _ _),a2.trans (bubble_perm _ _ _),by rw [show k+(f+1)=k+1+f by omega];exact a3⟩
theorem zta (S:Swo lt){n:Nat}(h1:1<=n):(zam lt (kas_sort n)).size=n/\(zam lt (kas_sort n)).Perm (List.toArray (List.range n))/\Asc lt (zam lt (kas_sort n)) n:=by
 unfold kas_sort
 rw [zd0]
 obtain⟨a1,a2,a3,a4,a5⟩:=zq1 S (p:=List.toArray (List.range n)) (nrem:=n) h1 (by simp)
 generalize zam lt (kas_count n (List.toArray (List.range n)))=r at a1 a2 a3 a4 a5 ⊢
 have hsz:(List.toArray (List.range n)).size=n:=by simp
 by_cases hr:r.1<n
 ·rw [if_pos hr]
  have em:max r.1 1=r.1:=by omega
  rw [em]
  obtain⟨b1,b2,b3⟩:=zpr S (n-r.1) r.2 r.1 (by omega) a5
  exact⟨b1.trans (a1.trans hsz),b2.trans a2,by rw [show r.1+(n-r.1)=n by omega] at b3;exact b3⟩
 ·rw [if_neg hr]
  have e:r.1=n:=by omega
  rw [e] at a5
  exact⟨a1.trans hsz,a2,a5⟩
def KIn {α:Type}(n:Nat)(post:α->Prop):KasT α->Prop
 | .ret a=>post a
 | .ask i j k=>i<n/\j<n/\∀ b,KIn n post (k b)
theorem KIn.bind {α β:Type}{n:Nat}{post:α->Prop}{post':β->Prop}{f:α->KasT β}(hf:∀ a,post a->KIn n post' (f a)):∀ (t:KasT α),KIn n post t->KIn n post' (t.bind f)
 | .ret a,h=>hf a h
 | .ask i j k,h=>⟨h.1,h.2.1,fun b=>KIn.bind hf (k b) (h.2.2 b)⟩
def Ent (n:Nat)(p:Array Nat):Prop:=∀ x∈p.toList,x<n
theorem Ent.at {n:Nat}{p:Array Nat}(h0:0<n)(h:Ent n p)(i:Nat):ga p i<n:=by
 rw [zhF]
 cases e:p[i]? with
 | none=>exact h0
 | some x =>
  rw [<- Array.getElem?_toList] at e
  exact h x (qd e)
theorem Ent.perm {n:Nat}{p r:Array Nat}(hp:r.Perm p)(h:Ent n p):Ent n r:=fun x hx=>h x ((Array.perm_iff_toList_perm.mp hp).mem_iff.mp hx)
theorem zlZ {n:Nat}{p:Array Nat}(h0:0<n)(h:Ent n p):∀ f k,KIn n (fun _=>True) (kas_asc p f k)
 | 0,_=>trivial
 | f+1,k=>⟨h.at h0 _,h.at h0 _,fun b=>by
  cases b with
  | true=>exact trivial
  | false=>exact zlZ h0 h f (k+1)⟩
theorem ziz {n:Nat}(h0:0<n):∀ f (p:Array Nat) k q,Ent n p->KIn n (fun r=>Ent n r.1) (kas_desc f p k q)
 | 0,p,k,q,h=>h
 | f+1,p,k,q,h=>⟨h.at h0 _,h.at h0 _,fun b=>by
  cases b with
  | true =>
   show KIn n _ (if q > 0 then _ else _)
   by_cases hq:q > 0
   ·rw [if_pos hq];exact ziz h0 f _ _ _ (h.perm zcq)
   ·rw [if_neg hq];exact ziz h0 f _ _ _ h
  | false=>exact⟨h.at h0 _,h.at h0 _,fun d=>by
    cases d with
    | true=>exact h
    | false=>exact ziz h0 f _ _ _ h⟩⟩
theorem znD {n k m:Nat}{p:Array Nat}(h0:0<n)(h:Ent n p):KIn n (fun r=>Ent n r.2) (kas_tail3 k m p):=by
 refine KIn.bind (post:=fun _=>True) (fun r _=>?_) _ (zlZ h0 (h.perm zcq) _ _)
 exact h.perm zcq
theorem ziR {n k m:Nat}{p:Array Nat}(h0:0<n)(h:Ent n p):KIn n (fun r=>Ent n r.2) (kas_descPart k m p):=by
 refine KIn.bind (post:=fun r=>Ent n r.1) (fun r hr=>?_) _ (ziz h0 _ _ _ _ h)
 by_cases hq:r.2.2 > 0
 ·rw [if_pos hq];exact znD h0 (hr.perm zcq)
 ·rw [if_neg hq];exact znD h0 hr
theorem zrV {n m:Nat}{p:Array Nat}(h0:0<n)(h:Ent n p):KIn n (fun r=>Ent n r.2) (kas_count m p):=by
 refine KIn.bind (post:=fun _=>True) (fun k _=>?_) _ (zlZ h0 h _ _)
 by_cases hk:(k==m)=true
 ·rw [if_pos hk];exact h
 ·rw [if_neg hk]
  by_cases h1:k > 1
  ·rw [if_pos h1]
   refine⟨h.at h0 _,h.at h0 _,fun c=>?_⟩
   cases c with
   | true=>exact h
   | false=>exact ziR h0 (h.perm zcq)
  ·rw [if_neg h1];exact ziR h0 h
theorem zjd {n:Nat}{p:Array Nat}{k:Nat}(h0:0<n)(h:Ent n p):∀ f l r,KIn n (fun _=>True) (kas_place p k f l r)
 | 0,_,_=>trivial
 | f+1,l,r=>by
  unfold kas_place
  by_cases hl:l ≥ r
  ·rw [if_pos hl];exact trivial
  ·rw [if_neg hl]
   refine⟨h.at h0 _,h.at h0 _,fun c=>?_⟩
   cases c with
   | true=>exact zjd h0 h f _ _
   | false=>exact zjd h0 h f _ _
theorem zpI {n:Nat}(h0:0<n):∀ f (p:Array Nat) k,Ent n p->KIn n (fun r=>Ent n r) (kas_bin f p k)
 | 0,p,k,h=>h
 | f+1,p,k,h=>KIn.bind (post:=fun _=>True) (fun l _=>zpI h0 f _ _ (h.perm (bubble_perm _ _ _))) _ (zjd h0 h _ _ _)
theorem zsP {n:Nat}(h0:0<n):KIn n (fun _=>True) (kas_sort n):=by
 refine KIn.bind (post:=fun r=>Ent n r.2) (fun r hr=>?_) _ (zrV h0 (p:=List.toArray (List.range n)) (fun x hx=>by simpa using hx))
 by_cases h:r.1<n
 ·rw [if_pos h]
  have hb:=zpI h0 (n-max r.1 1) r.2 (max r.1 1) hr
  clear h
  generalize kas_bin (n-max r.1 1) r.2 (max r.1 1)=t at hb
  induction t with
  | ret a=>exact trivial
  | ask i j k ih=>exact⟨hb.1,hb.2.1,fun b=>ih b (hb.2.2 b)⟩
 ·rw [if_neg h];exact trivial
end
open PySem PySem.Spec PySem.W PyProof.Rows L2
def plt (a b:Int×Int):Bool:=if a.1=b.1 then decide (a.2<b.2) else decide (a.1<b.1)
theorem znu (cs:List (Int×Int)):Swo fun i j=>plt (cs.getD i (0,0)) (cs.getD j (0,0)) where
  asymm:=fun a b h=>by
    unfold plt at h ⊢
    generalize cs.getD a (0,0)=A at *
    generalize cs.getD b (0,0)=B at *
    split at h<;>split<;>simp at h ⊢<;>omega
  ntrans:=fun a b c h1 h2=>by
    unfold plt at h1 h2 ⊢
    generalize cs.getD a (0,0)=A at *
    generalize cs.getD b (0,0)=B at *
    generalize cs.getD c (0,0)=C at *
    split at h1<;>split at h2<;>split<;>simp at h1 h2 ⊢<;>omega
def PrV (h:Heap)(v:Value)(c:Int×Int):Prop:=∃ (a:Addr) (o:Obj) (n:Nat) (t u:Tok),v=.ref a/\h.get? a=some o/\o.cls=.type "tuple"/\o.data=.seq #[.int c.1 t,.int c.2 u] n
theorem kwp {α:Type}{cmp:Nat->Nat->(Bool->Shared->Prop)->Shared->Prop}{lt:Nat->Nat->Bool}{n:Nat}{s:Shared}(hc:∀ i j C,i<n->j<n->C (lt i j) s->cmp i j C s){post:α->Prop}(Q:α->Shared->Prop) :
  ∀ t:KasT α,KIn n post t->Q (zam lt t) s->t.kasWp cmp Q s
 | .ret _,_,q=>q
 | .ask i j k,h,q=>hc i j _ h.1 h.2.1 (kwp hc Q (k (lt i j)) (h.2.2 _) q)
section
variable {prog:Program}{w:World}{A:Around}{E:Value->Shared->Prop}{s:Shared}
theorem zq5 {v v':Value}{c d:Int×Int}{Q:Bool->Shared->Prop}(h1:PrV s.heap v c)(h2:PrV s.heap v' d)(q:Q (plt c d) s):wpAny (model prog w) A (keyLt' (tuples' true) v v') Q E s:=by
 obtain⟨a,o,n,t,u,rfl,ho,_,hd⟩:=h1
 obtain⟨a',o',n',t',u',rfl,ho',_,hd'⟩:=h2
 refine kat_lt ho hd ho' hd' ?_
 show KatLex prog w A true _ Q [(.int c.1 t,.int d.1 t'),(.int c.2 u,.int d.2 u')] 0 s
 refine kat_cons (wpAny_eqBool_int ?_)
 by_cases e:c.1=d.1
 ·rw [show (c.1==d.1)=true by simpa using e]
  refine kat_yes (kat_cons (wpAny_eqBool_int ?_))
  by_cases e2:c.2=d.2
  ·rw [show (c.2==d.2)=true by simpa using e2]
   refine kat_yes (kat_nil ?_)
   have:plt c d=false:=by unfold plt;rw [if_pos e,e2];simp
   rw [this] at q
   exact q
  ·rw [show (c.2==d.2)=false by simpa using e2]
   refine kat_no ?_
   show wpAny (model prog w) A (oneLt' false _ _) Q _ s
   refine kat_one _ _ (lt_int ?_)
   have:plt c d=decide (c.2<d.2):=by unfold plt;rw [if_pos e]
   rw [this] at q
   exact q
 ·rw [show (c.1==d.1)=false by simpa using e]
  refine kat_no ?_
  show wpAny (model prog w) A (oneLt' true _ _) Q _ s
  refine oneLt_int ?_
  have:plt c d=decide (c.1<d.1):=by unfold plt;rw [if_neg e]
  rw [this] at q
  exact q
theorem zls {h:Heap}:∀ {vs:List Value} {cs:List (Int×Int)},Paired (PrV h) vs cs->∃ fs:List Value,KatTups h vs fs/\fs.length=vs.length/\∀ f∈fs,∃ i t,f=.int i t
 | _,_,.nil=>⟨[],trivial,rfl,fun f hf=>absurd hf (by simp)⟩
 | _,_,.cons (a:=v) (b:=c) r t=>by
  obtain⟨fs,k,hl,hf⟩:=zls t
  obtain⟨a,o,n,tk,u,rfl,ho,hc,hd⟩:=r
  refine⟨.int c.1 tk::fs,KatTups.cons ho hc hd rfl k,by simp [hl],fun f hm=>?_⟩
  rcases qh.mp hm with rfl | hm
  ·exact⟨_,_,rfl⟩
  ·exact hf f hm
theorem zfQ {α β:Type}{F:α->β->Prop}{da:α}{db:β}:∀ {l:List α} {m:List β},Paired F l m->∀ i,i<l.length->F (l.getD i da) (m.getD i db)
 | _,_,.nil,i,h=>absurd h (by simp)
 | _,_,.cons r _,0,_=>r
 | _::_,_::_,.cons _ t,i+1,h=>zfQ (da:=da) (db:=db) t i (by simpa using h)
theorem zjm {a:Addr}{vs:List Value}{cs:List (Int×Int)}{n:Nat}{P:PySem.Fin->Shared->Prop}(ho:s.heap.get? a=some (seqObj "list" vs.toArray n))(hv:Paired (PrV s.heap) vs cs)(h64:vs.length<64)
  (h:∀ p:List Nat,p.Perm (List.range vs.length)->(∀ i j,i<=j->j<vs.length->plt (cs.getD (p.getD j 0) (0,0)) (cs.getD (p.getD i 0) (0,0))=false) ->
   P (.done (.ret .none)) { s with heap:=sortedHeap s.heap a vs (p.map fun i=>vs.getD i Value.none).toArray }) :
  wpAny (model prog w) A (Builtin.«list.sort» ⟨[.ref a],[]⟩) P E s:=by
 rw [list_sort_plain]
 have ha:a<s.heap.objs.size:=Heap.lt_size ho
 refine wpAny_bind (listItems_at ho rfl ?_)
 refine wpAny_bind (listUpdate_at ho rfl ?_)
 obtain⟨e1,ho1⟩:∃ e1,(s.heap.update a (Obj.mapSeq fun _=>#[])).get? a=some (seqObj "list" #[] e1):=⟨_,get?_update_seq ho (fun _=>#[])⟩
 refine wpAny_bind (seqEpoch_at ho1 rfl ?_)
 refine wpAny_bind (wpAny_newTuple ?_)
 refine wpAny_bind (wpAny_newList ?_)
 refine wpAny_holding ?_
 have ho6:(((s.heap.update a (Obj.mapSeq fun _=>#[])).push (seqObj "tuple" vs.toArray 0)).push (seqObj "list" #[] 0)).get? a=some (seqObj "list" #[] e1):=by
  rw [Heap.get?_push_ne _ _ _ (by rw [size_push',Heap.size_update];exact Nat.ne_of_lt (Nat.lt_succ_of_lt ha)),Heap.get?_push_ne _ _ _ (by rw [Heap.size_update];exact Nat.ne_of_lt ha)]
  exact ho1
 have keep:∀ b u,b≠a->s.heap.get? b=some u->(((s.heap.update a (Obj.mapSeq fun _=>#[])).push (seqObj "tuple" vs.toArray 0)).push (seqObj "list" #[] 0)).get? b=some u:=fun b u hb hu=>by
  have hlt:b<s.heap.objs.size:=Heap.lt_size hu
  rw [Heap.get?_push_ne _ _ _ (by rw [size_push',Heap.size_update];exact Nat.ne_of_lt (Nat.lt_succ_of_lt hlt)),Heap.get?_push_ne _ _ _ (by rw [Heap.size_update];exact Nat.ne_of_lt hlt),Heap.get?_update_ne _ _ _ _ hb]
  exact hu
 have hv6:Paired (PrV (((s.heap.update a (Obj.mapSeq fun _=>#[])).push (seqObj "tuple" vs.toArray 0)).push (seqObj "list" #[] 0))) vs cs:=Paired.imp' (fun v c hp=>by
  obtain⟨b,o,m,t,u,rfl,hb,hc,hd⟩:=hp
  refine⟨b,o,m,t,u,rfl,keep b o (fun e=>?_) hb,hc,hd⟩
  subst e
  rw [ho] at hb
  cases hb
  injection hc with hc
  exact absurd hc (by decide)) hv
 show wpAny (model prog w) A _ P E { s with heap:=((s.heap.update a (Obj.mapSeq fun _=>#[])).push (seqObj "tuple" vs.toArray 0)).push (seqObj "list" #[] 0) }
 have hh:sortedHeap s.heap a vs=fun out=>(((s.heap.update a (Obj.mapSeq fun _=>#[])).push (seqObj "tuple" vs.toArray 0)).push (seqObj "list" #[] 0)).update a (Obj.mapSeq fun _=>out):=rfl
 rw [hh] at h
 generalize ((s.heap.update a (Obj.mapSeq fun _=>#[])).push (seqObj "tuple" vs.toArray 0)).push (seqObj "list" #[] 0)=h6 at *
 dsimp only
 have hsz:vs.toArray.size=vs.length:=by simp
 by_cases h2:vs.toArray.size<2
 ·rw [if_pos h2,if_pos h2]
  refine wpAny_bind (wpAny_pure ?_)
  rw [StateT.run_pure]
  refine wpAny_bind (wpAny_pure ?_)
  dsimp only
  refine wpAny_bind (seqEpoch_at ho6 rfl ?_)
  refine wpAny_bind (listUpdate_at ho6 rfl ?_ (hsz2:=by rw [Array.size_map];show (pairsOf vs).size<=_;rw [pairsOf_size,sizeLine_eq];omega))
  simp only [bne_self_eq_false,Bool.false_eq_true,if_false]
  have q:=h (List.range vs.length) (List.Perm.refl _) (fun i j hij hj=>by
   have e1:i=0:=by omega
   have e2:j=0:=by omega
   subst e1;subst e2
   exact irr (znu cs) _)
  have eo:(List.map (fun i=>vs.getD i Value.none) (List.range vs.length)).toArray=Array.map (·.2) (vs.toArray.zip vs.toArray):=by
   have hz:vs.length<2:=by omega
   clear q h hv6 hh hv ho h64 hsz h2
   match vs,hz with
   | [],_=>simp
   | [x],_=>simp [List.range_succ]
  rw [eo] at q
  exact wpAny_pure q
 ·rw [if_neg h2,if_neg h2]
  have hn2:2<=vs.length:=by omega
  obtain⟨fs,kt,hfl,hfi⟩:=zls hv6
  refine wpAny_bind (kat_kind (s:={ s with heap:=h6 }) (T:=.type "int") kt (by omega) (fun v hm=>?_) (by rfl) ?_)
  ·obtain⟨i,t,rfl⟩:=hfi v hm
   exact Looks.of_pure rfl
  have cmp:∀ (i j:Nat) (C:Bool->Shared->Prop),i<vs.length->j<vs.length->C (plt (cs.getD i (0,0)) (cs.getD j (0,0))) { s with heap:=h6 }->kas_ask prog w A (tuples' (Value.type "int" != Value.type "tuple")) vs i j C { s with heap:=h6 }:=fun i j C hi hj hC =>
   zq5 (s:={ s with heap:=h6 }) (zfQ hv6 i hi) (zfQ hv6 j hj) hC
  refine wpAny_bind (wpAny_mono (kat_run (ks:=vs) (vs:=vs) (Q:=fun st' s'=>∃ p:Array Nat,p=zam (fun i j=>plt (cs.getD i (0,0)) (cs.getD j (0,0))) (kas_sort vs.length)/\s'={ s with heap:=h6 }/\arrOf st'=p.map (kas_item (vs.toArray.zip vs.toArray))/\failedOf st'=none)
   (G:=fun p s'=>p=zam (fun i j=>plt (cs.getD i (0,0)) (cs.getD j (0,0))) (kas_sort vs.length)/\s'={ s with heap:=h6 }) rfl hn2 h64 (fun p' st' s' a1 a2 a3 a4=>⟨p',a4.1,a4.2,a2,a3⟩) (kwp cmp _ _ (zsP (by omega)) ⟨rfl,rfl⟩)) ?_ fun _ _ e=>e)
  rintro⟨⟨⟩,st'⟩ s' ⟨p,hp,rfl,har,hf⟩
  dsimp only
  obtain⟨z1,z2,z3⟩:=zta (znu cs) (n:=vs.length) (by omega)
  rw [<- hp] at z1 z2 z3
  have hout:=kat_snds (vs:=vs) (ks:=vs) rfl har
  have hsz2:(List.toArray (p.toList.map fun i=>vs.getD i Value.none)).size=vs.length:=by rw [qi,qa,Array.length_toList,z1]
  rw [hout]
  refine wpAny_bind (seqEpoch_at ho6 rfl ?_)
  refine wpAny_bind (listUpdate_at ho6 rfl ?_ (hsz2:=by rw [hsz2,sizeLine_eq];omega))
  rw [hf]
  simp only [bne_self_eq_false,Bool.false_eq_true,if_false]
  refine wpAny_pure (h p.toList ?_ fun i j hij hj=>?_)
  ·have:=Array.perm_iff_toList_perm.mp z2
   simpa using this
  ·have e:∀ k,p.toList.getD k 0=ga p k:=fun k=>by rw [zhF,List.getD_eq_getElem?_getD,Array.getElem?_toList]
   rw [e,e]
   exact z3 i j hij hj
theorem zlv {l:Addr}{vs:List Value}{cs:List (Int×Int)}{Q:Value->Shared->Prop}(hl:s.heap.IsList l vs.toArray)(hv:Paired (PrV s.heap) vs cs)(h64:vs.length<64)
    (h:∀ p:List Nat,p.Perm (List.range vs.length)->(∀ i j,i<=j->j<vs.length->plt (cs.getD (p.getD j 0) (0,0)) (cs.getD (p.getD i 0) (0,0))=false) ->
      Q (.ref (s.heap.objs.size+1)) { s with heap:=sortedAll s.heap vs (p.map fun i=>vs.getD i Value.none).toArray }) :
    wpAny (model prog w) A (call (.builtin "sorted") [.ref l]) Q E s:=by
  refine Calls.call_function_entry kind_sorted plain_sorted entry_sorted (args_sorted1 _) ?_
  unfold Builtin.«sorted»
  refine wpAny_bind (m:=checkCount "sorted" 1 1 _) (wpAny_pure ?_)
  refine wpAny_bind (collect_list hl ?_)
  refine wpAny_bind (wpAny_newList ?_)
  have hsz:((s.heap.push (seqObj "list" #[] 0)).update s.heap.objs.size (Obj.mapSeq (·++vs.toArray))).objs.size=s.heap.objs.size+1:=by
    rw [Heap.size_update,size_push']
  have hoL:(((s.heap.push (seqObj "list" #[] 0)).update s.heap.objs.size (Obj.mapSeq (·++vs.toArray))).push (seqObj "list" vs.toArray 0)).get? (s.heap.objs.size+1)=some (seqObj "list" vs.toArray 0):=by
    rw [<- hsz];exact Heap.get?_push_size _ rfl
  have keep:∀ b o,s.heap.get? b=some o->(((s.heap.push (seqObj "list" #[] 0)).update s.heap.objs.size (Obj.mapSeq (·++vs.toArray))).push (seqObj "list" vs.toArray 0)).get? b=some o:=fun b o q=>by
    have hlt:b<s.heap.objs.size:=Heap.lt_size q
    rw [Heap.get?_push_ne _ _ _ (by rw [hsz];exact Nat.ne_of_lt (Nat.lt_succ_of_lt hlt)),Heap.get?_update_ne _ _ _ _ (Nat.ne_of_lt hlt),Heap.get?_push_ne _ _ _ (Nat.ne_of_lt hlt)]
    exact q
  show wpAny _ _ _ _ _ { s with heap:=((s.heap.push (seqObj "list" #[] 0)).update s.heap.objs.size (Obj.mapSeq (·++vs.toArray))).push (seqObj "list" vs.toArray 0) }
  rw [hsz]
  refine wpAny_bind (wpAny_holding (wpAny_call_entry slot_list_sort ⟨_,hoL,rfl⟩ entry_list_sort (zjm (s:={ s with heap:=((s.heap.push (seqObj "list" #[] 0)).update s.heap.objs.size (Obj.mapSeq (·++vs.toArray))).push (seqObj "list" vs.toArray 0) }) hoL (Paired.imp' (fun v c hp=>by
    obtain⟨b,o,m,t,u,e,hb,hc,hd⟩:=hp
    exact⟨b,o,m,t,u,e,keep b o hb,hc,hd⟩) hv) h64 fun p a1 a2=>⟨_,rfl,?_⟩) (args_list_sort _)))
  exact wpAny_pure ⟨_,rfl,h p a1 a2⟩
end
def zv3 (K:PySem.W.Frag):List V->Hp->VK->Prop:=fun xs H Q=>∃ (p:Addr) (ps:List Addr) (cs:List (Int×Int)),xs=[.ref p]/\SqL K H p (ps.map V.ref)/\zfY H ps cs/\cs.length<64 /\
 ∀ (l:Addr) (ps':List Addr) (cs':List (Int×Int)),H l=none->zfY H ps' cs'->cs'.Perm cs->cs'.Pairwise (fun a b=>plt b a=false)->Q (.ref l) (upd H l (.lst (ps'.map V.ref)))
theorem zkF:∀ {ps:List Addr} {its:List Value},Vals (ps.map V.ref) its->its=ps.map Value.ref
 | [],_,h=>by cases h;rfl
 | p::ps,_,h=>by
  cases h with
  | cons r t =>
   have:=zkF t
   cases r
   rw [this];rfl
theorem zky:∀ ps:List Addr,Vals (ps.map V.ref) (ps.map Value.ref)
 | []=>.nil
 | _::ps=>.cons rfl (zky ps)
theorem zkl {α:Type}(l:List α)(d:α){p:List Nat}(h:p.Perm (List.range l.length)):(p.map fun i=>l.getD i d).Perm l:=by
 have:=h.map fun i=>l.getD i d
 refine this.trans ?_
 have e:(List.range l.length).map (fun i=>l.getD i d)=l:=by
  apply List.ext_getElem
  ·simp
  ·intro i h1 h2
   simp [List.getD_eq_getElem?_getD,qb h2]
 rw [e]
theorem zlK {X:Cx}{K:PySem.W.Frag}(hK:X.K=K):zaI X (.builtin "sorted") (zv3 K):=fun pins s U H xs us Q I r h=>by
 subst hK
 obtain⟨p,ps,cs,rfl,hS,hP,h64,q⟩:=h
 obtain⟨u,rfl,ru⟩:=vals1 r
 cases ru
 obtain⟨its,rv,pl,hz⟩:=I.list hS
 have ei:=zkF rv
 subst ei
 have hlen:=hP.length
 have prv:∀ {ps:List Addr} {cs:List (Int×Int)},zfY H ps cs->Paired (PrV s.heap) (ps.map Value.ref) cs:=by
  intro ps cs hP
  induction hP with
  | nil=>exact .nil
  | cons r t ih =>
   refine .cons ?_ ih
   obtain⟨its2,r2,pl2,_⟩:=I.tuple (SqT.of r)
   obtain⟨o,ho,hc,n,hd⟩:=pl2
   cases r2 with | cons x1 r2=>cases r2 with | cons x2 r2 =>
   cases r2
   obtain⟨t1,rfl⟩:=x1
   obtain⟨t2,rfl⟩:=x2
   exact⟨_,o,n,t1,t2,rfl,ho,hc,hd⟩
 refine zlv pl.isList (prv hP) (by rw [qa];omega) fun pm hpm hso=>?_
 rw [qa] at hpm hso
 have eo:(pm.map fun i=>(ps.map Value.ref).getD i Value.none)=(pm.map fun i=>ps.getD i 0).map Value.ref:=by
  rw [List.map_map]
  apply List.map_congr_left
  intro i hi
  have hi':i<ps.length:=by simpa using hpm.mem_iff.mp hi
  simp [List.getD_eq_getElem?_getD,qb hi']
 rw [eo]
 have hPl:(pm.map fun i=>ps.getD i 0).length=ps.length:=by rw [qa,hpm.length_eq,List.length_range]
 obtain⟨e,he⟩:=sortedAll_at s.heap (ps.map Value.ref) ((pm.map fun i=>ps.getD i 0).map Value.ref).toArray
 have hPr:zfY H (pm.map fun i=>ps.getD i 0) (pm.map fun i=>cs.getD i (0,0)):=by
  have hb:∀ i∈pm,i<ps.length:=fun i hi=>by simpa using hpm.mem_iff.mp hi
  clear eo hPl he hpm hso
  induction pm with
  | nil=>exact .nil
  | cons i pm ih=>exact .cons (zfQ hP i (hb i (by simp))) (ih fun j hj=>hb j (by simp [hj]))
 refine⟨.ref (s.heap.objs.size+1),_,I.laid (t':=s.toks) (a:=s.heap.objs.size+1) (o:=.lst ((pm.map fun i=>ps.getD i 0).map V.ref)) (fun b o q=>sortedAll_old q) (Nat.le_succ _) ⟨by rw [qa,hPl];have:=hz;rw [qa] at this;exact this,_,e,zky _,he⟩,rfl,q _ _ _ (I.hok.fresh (Nat.le_succ _)) hPr ?_ ?_⟩
 ·rw [hlen] at hpm
  exact zkl cs (0,0) hpm
 ·rw [List.pairwise_map,List.pairwise_iff_getElem]
  intro i j hi hj hij
  have:=hso i j (Nat.le_of_lt hij) (by rw [<- List.length_range (n:=ps.length),<- hpm.length_eq];exact hj)
  simpa [List.getD_eq_getElem?_getD,qb hi,qb hj] using this
section
variable {K:PySem.W.Frag}{H:Hp}
end
def zuX (K:PySem.W.Frag):R2:=fun x y H Q=>∃ a b xs ys,x=.ref a/\y=.ref b/\SqT K H a xs/\SqT K H b ys/\xs.length+ys.length<=sizeLine/\(xs=[]->Q (.ref b) H)/\(xs≠[]->ys=[]->Q (.ref a) H)/\(xs≠[]->ys≠[]->∀ p,H p=none->Q (.ref p) (upd H p (.tup (xs++ys))))
theorem zq9 {X:Cx}{K:PySem.W.Frag}(hK:X.K=K):OpR X (binaryOp .Add) (zuX K):=by
 subst hK
 intro pins s U H x y v u Q I rx ry h
 obtain⟨a,b,xs,ys,rfl,rfl,ha,hb,hz,q0,q1,q2⟩:=h
 by_cases hx:xs=[]
 ·subst hx
  cases rx
  cases ry
  obtain⟨its,r1,p1,_⟩:=I.tuple ha
  obtain⟨its2,r2,p2,_⟩:=I.tuple hb
  cases r1
  obtain⟨⟨cls,dd,data,sl⟩,ho,hc,n,hd⟩:=id p1
  obtain⟨⟨cls2,dd2,data2,sl2⟩,ho2,hc2,n2,hd2⟩:=id p2
  simp only at hc hd hc2 hd2
  subst hc hd hc2 hd2
  exact concat_meets ⟨_,ho,rfl⟩ ⟨_,ho2,rfl⟩ noFill_tuple_add seq_tuple_add PySem.F.slot_tuple_add PySem.F.entry_tuple_add (PySem.F.args_tuple_add_2 _ _)
   (tuple_addW0 a b _ its2.toArray n n2 dd dd2 sl sl2 (by simp)) ⟨ho,ho2,⟨.ref b,H,I,rfl,q0 rfl⟩⟩
 ·exact ztG pins s U H _ _ v u Q I rx ry ⟨a,b,xs,ys,rfl,rfl,ha,hb,hx,hz,q1 hx,q2 hx⟩
end My
namespace Dp
open PySem
inductive D where
 | non | bl (b:Bool) | int (i:Int) | str (x:Str) | tup (xs:List D) | ref (n:Nat) | ty (n:String) | rl (xs:List D) | exn (c:Str)
 deriving Inhabited
inductive Cell where
 | lst (xs:List D) | ins (c:Str) (fs:List (Str×D))
 | dk (kvs:List (Str×D)) | dt (kvs:List (List (Sum Int Str)×D))
 deriving Inhabited
abbrev Sto:=List Cell
abbrev Rho:=List (Option D)
abbrev DK:=D->Sto->Prop
abbrev DE:=Rho->Sto->DK->Prop
abbrev DT:=Rho->Sto->(Bool->Sto->Prop)->Prop
abbrev DA:=Rho->Sto->(List D->Sto->Prop)->Prop
abbrev DG:=D->Rho->Sto->(Rho->Sto->Prop)->Prop
abbrev DGs:=List D->Rho->Sto->(Rho->Sto->Prop)->Prop
structure zoI where
 nx:Rho->Sto->Prop
 rt:DK
 bk:Rho->Sto->Prop:=fun _ _=>False
 ct:Rho->Sto->Prop:=fun _ _=>False
abbrev DS:=zoI->Rho->Sto->Prop
structure DIt where
 items:List D
 ok:Sto->Prop
abbrev DI:=Rho->Sto->(DIt->Sto->Prop)->Prop
abbrev DSp:=List D->Sto->DK->Prop
def big:Nat:=1000000
def fl:Nat->D->Bool
  | _,.ref _=>false
  | _,.ty _=>false
  | _,.rl _=>false
  | _,.exn _=>false
  | 0,.tup _=>false
  | k+1,.tup xs=>xs.all (fl k)
  | _,.non=>true
  | _,.bl _=>true
  | _,.int _=>true
  | _,.str x=>x.cps.all (· < 0x110000)
mutual
def eqv:D->D->Bool
 | .non,.non=>true
 | .bl a,.bl b=>a==b
 | .bl a,.int j=>(if a then 1 else 0)==j
 | .int i,.bl b=>i==(if b then 1 else 0)
 | .int i,.int j=>decide (i=j)
 | .str x,.str y=>x==y
 | .tup xs,.tup ys=>eqvAll xs ys
 | _,_=>false
def eqvAll:List D->List D->Bool
 | [],[]=>true
 | x::xs,y::ys=>eqv x y&&eqvAll xs ys
 | _,_=>false
end
def Lst (S:Sto)(x:D)(xs:List D):Prop:=x=.rl xs\/∃ n,x=.ref n/\S[n]?=some (.lst xs)
def zer (S:Sto)(x:D)(xs:List D):Prop:=x=.tup xs\/Lst S x xs
def ixD (n:Nat)(k:Int):Option Nat:=if 0<=k then (if k<n then some k.toNat else none) else if -(n:Int)<=k then some (k+n).toNat else none
def atD (xs:List D)(k:Int):Option D:=(ixD xs.length k).bind fun j=>xs[j]?
def atS (z:Str)(k:Int):Option Nat:=(ixD z.cps.toList.length k).bind fun j=>z.cps.toList[j]?
def slD (n:Nat)(d:Nat):Option Int->Nat
 | none=>d
 | some k=>if k<0 then (k+n).toNat else min k.toNat n
def cutD {α:Type}(xs:List α)(lo hi:Option Int):List α:=(xs.drop (slD xs.length 0 lo)).take (slD xs.length xs.length hi-slD xs.length 0 lo)
def zf (i:Nat):DE:=fun Z S Q=>∃ d,Z[i]?=some (some d)/\Q d S
def dC (d:D):DE:=fun _ S Q=>Q d S
abbrev DR2:=D->D->Sto->DK->Prop
def dOp (r:DR2)(ta tb:DE):DE:=fun Z S Q=>ta Z S fun x S1=>tb Z S1 fun y S2=>r x y S2 Q
def dUn (r:D->Sto->DK->Prop)(ta:DE):DE:=fun Z S Q=>ta Z S fun x S1=>r x S1 Q
def zB:DA:=fun _ S Q=>Q [] S
def zm (ta:DE)(tr:DA):DA:=fun Z S Q=>ta Z S fun x S1=>tr Z S1 fun xs S2=>Q (x::xs) S2
def dTup (t:DA):DE:=fun Z S Q=>t Z S fun xs S1=>xs.length<=big/\Q (.tup xs) S1
def zba (t:DA):DE:=fun Z S Q=>t Z S fun xs S1=>xs.length<=big/\Q (.ref S1.length) (S1++[.lst xs])
def dCall (f:DSp)(t:DA):DE:=fun Z S Q=>t Z S fun xs S1=>f xs S1 Q
abbrev DB:=List D->Sto->DK->Prop
def dB (r:DB)(t:DA):DE:=fun Z S Q=>t Z S fun xs S1=>r xs S1 Q
def dT (t:DE):DT:=fun Z S Q=>t Z S fun x S1=>∃ b,x=.bl b/\Q b S1
def zfB (t u:DT):DT:=fun Z S Q=>t Z S fun c S1=>if c=true then u Z S1 Q else Q false S1
def dOr (t u:DT):DT:=fun Z S Q=>t Z S fun c S1=>if c=true then Q true S1 else u Z S1 Q
def zd8 (t:DT):DT:=fun Z S Q=>t Z S fun c S1=>Q (!c) S1
def ziq (t u:DE):DE:=fun Z S Q=>t Z S fun x S1=>∃ c,x=.bl c/\if c=true then u Z S1 Q else Q (.bl false) S1
def zrQ (t u:DE):DE:=fun Z S Q=>t Z S fun x S1=>∃ c,x=.bl c/\if c=true then Q (.bl true) S1 else u Z S1 Q
def ziu (t:DE):DE:=fun Z S Q=>t Z S fun x S1=>∃ c,x=.bl c/\Q (.bl (!c)) S1
def zgi (r r':DR2)(ta tb tc:DE):DE:=fun Z S Q=>ta Z S fun x S1=>tb Z S1 fun y S2=>r x y S2 fun z S3=>∃ c,z=.bl c/\if c=true then tc Z S3 fun w S4=>r' y w S4 Q else Q (.bl false) S3
def zi8:Option DE->Rho->Sto->(Option Int->Sto->Prop)->Prop
 | none=>fun _ S Q=>Q none S
 | some t=>fun Z S Q=>t Z S fun x S1=>∃ i,x=.int i/\Q (some i) S1
def dSl (r:D->Option Int->Option Int->Sto->DK->Prop)(ta:DE)(lo hi:Option DE):DE:=fun Z S Q=>ta Z S fun x S1=>zi8 lo Z S1 fun l S2=>zi8 hi Z S2 fun h S3=>r x l h S3 Q
def zct (f:Str)(ta:DE):DE:=fun Z S Q=>ta Z S fun x S1=>∃ n c fs d,x=.ref n/\S1[n]?=some (.ins c fs)/\fs.lookup f=some d/\Q d S1
def putD (f:Str)(v:D):List (Str×D)->List (Str×D)
 | []=>[(f,v)]
 | (g,x)::r=>if g=f then (g,v)::r else (g,x)::putD f v r
def zo3 (c:Str)(init:DSp):DSp:=fun ds S Q=>init (.ref S.length::ds) (S++[.ins c []]) fun d S2=>d=.non/\Q (.ref S.length) S2
abbrev DM:=D->List D->Sto->DK->Prop
def dM (r:DM)(ta:DE)(t:DA):DE:=fun Z S Q=>ta Z S fun x S1=>(∃ n ys,x=.ref n/\S1[n]?=some (.lst ys))/\t Z S1 fun xs S2=>r x xs S2 Q
def oI (C:Int->Int->Prop)(g:Int->Int->D):DR2:=fun x y S Q=>∃ i j,x=.int i/\y=.int j/\C i j/\Q (g i j) S
def oI0 (g:Int->Int->D):DR2:=fun x y S Q=>∃ i j,x=.int i/\y=.int j/\Q (g i j) S
def oU (g:Int->D):D->Sto->DK->Prop:=fun x S Q=>∃ i,x=.int i/\Q (g i) S
def zar (i j:Int):Prop:=(My.Bd 8000 i/\My.Bd 8000 j)\/i.natAbs<2 ^ 64\/j.natAbs<2 ^ 64
def zsv (_ j:Int):Prop:=j≠0/\My.Bd 8000 j
def zwr (_ j:Int):Prop:=j≠0
def zad:DR2:=fun x y S Q=>(∃ i j,x=.int i/\y=.int j/\Q (.int (i+j)) S)\/(∃ xs ys,x=.tup xs/\y=.tup ys/\xs.length+ys.length<=big/\Q (.tup (xs++ys)) S) \/
 (∃ xs ys,Lst S x xs/\Lst S y ys/\xs.length+ys.length<=big/\Q (.ref S.length) (S++[.lst (xs++ys)])) \/
 (∃ i j:Str,x=.str i/\y=.str j/\i.length+j.length<=big/\Q (.str (i++j)) S)
def zah:DR2:=oI0 fun i j=>.int (i-j)
def zo2 (z:Str)(n:Int):Str:=if n<1 then Str.empty else if (n==1||z.length==0)=true then z else ⟨(List.replicate n.toNat z.cps).foldl (·++·) #[]⟩
@[irreducible] def Hg (x:Int):Prop:=x.natAbs<2 ^ 1048576
def zau:DR2:=fun x y S Q=>oI zar (fun i j=>.int (i*j)) x y S Q\/(∃ (z:Str) (n:Int),x=.str z/\y=.int n/\z.length<=1000/\-1000<=n/\n<=1000/\Q (.str (zo2 z n)) S)\/oI (fun i j=>Hg i/\Hg j) (fun i j=>.int (i*j)) x y S Q
def oDiv:DR2:=oI zsv fun i j=>.int (i.fdiv j)
def oMod:DR2:=oI zwr fun i j=>.int (i.fmod j)
def zcG:D->Sto->DK->Prop:=oU fun i=>.int (-i)
def oLt:DR2:=oI0 fun i j=>.bl (decide (i<j))
def oLe:DR2:=oI0 fun i j=>.bl (decide (i<=j))
def oGt:DR2:=oI0 fun i j=>.bl (decide (j<i))
def oGe:DR2:=oI0 fun i j=>.bl (decide (j<=i))
def zjN (S:Sto):List D->List (List D)->Prop
 | [],[]=>True
 | x::xs,z::zs=>Lst S x z/\zjN S xs zs
 | _,_=>False
def zgG (xss:List (List D)):Bool:=xss.all fun zs=>zs.all (fl 20)
def EqD (S:Sto)(x y:D)(b:Bool):Prop:=(fl 20 x=true/\fl 20 y=true/\b=eqv x y)\/(∃ xs ys,Lst S x xs/\Lst S y ys/\xs.all (fl 20)=true/\ys.all (fl 20)=true/\b=eqvAll xs ys) \/
 (∃ xs ys xss yss,Lst S x xs/\Lst S y ys/\zjN S xs xss/\zjN S ys yss/\zgG xss=true/\zgG yss=true/\b=eqvAll (xss.map D.tup) (yss.map D.tup))
def oEq:DR2:=fun x y S Q=>∃ b,EqD S x y b/\Q (.bl b) S
def oNe:DR2:=fun x y S Q=>∃ b,EqD S x y b/\Q (.bl (!b)) S
def InD (S:Sto)(x y:D)(b:Bool):Prop:=∃ ys,zer S y ys/\fl 20 x=true/\ys.all (fl 20)=true/\b=ys.any fun z=>eqv z x
def oIn:DR2:=fun x y S Q=>(∃ b,InD S x y b/\Q (.bl b) S)\/(∃ (c:Nat) (z:Str),x=.str ⟨#[c]⟩/\y=.str z/\Q (.bl (decide (c∈z.cps.toList))) S)
def zgl:DR2:=fun x y S Q=>(∃ b,InD S x y b/\Q (.bl (!b)) S)\/(∃ (c:Nat) (z:Str),x=.str ⟨#[c]⟩/\y=.str z/\Q (.bl (!decide (c∈z.cps.toList))) S)
def zhg:D->Bool
 | .non=>true
 | _=>false
def zfH:DR2:=fun x y S Q=>(y=.non/\Q (.bl (!zhg x)) S)\/(∃ a b,x=.bl a/\y=.bl b/\Q (.bl (!(a==b))) S)
def oIx:DR2:=fun x y S Q=>(∃ i xs d,y=.int i/\zer S x xs/\atD xs i=some d/\Q d S)\/(∃ (z:Str) (i:Int) (c:Nat),x=.str z/\y=.int i/\z.length<=big/\atS z i=some c/\Q (.str ⟨#[c]⟩) S)
def zrc (z:Str)(lo hi:Option Int):Str:=⟨(cutD z.cps.toList lo hi).toArray⟩
def zcX:D->Option Int->Option Int->Sto->DK->Prop:=fun x lo hi S Q=>(∃ xs,x=.tup xs/\Q (.tup (cutD xs lo hi)) S)\/(∃ xs,Lst S x xs/\Q (.ref S.length) (S++[.lst (cutD xs lo hi)]))\/(∃ z:Str,x=.str z/\z.length<=big/\Q (.str (zrc z lo hi)) S)
def zaH:DB:=fun vs S Q=>(∃ x xs,vs=[x]/\zer S x xs/\Q (.int xs.length) S)\/(∃ z:Str,vs=[.str z]/\z.length<=big/\Q (.int z.length) S)
def zl8:DB:=fun vs S Q=>∃ i,vs=[.int i]/\Q (.int (i.natAbs:Int)) S
def zfW:DB:=fun vs S Q=>∃ i j,vs=[.int i,.int j]/\Q (.int (max i j)) S
def zgS:DB:=fun vs S Q=>∃ i j,vs=[.int i,.int j]/\Q (.int (min i j)) S
def zo4:DB:=fun vs S Q=>∃ x ns,vs=[x]/\Lst S x (List.map D.int ns)/\0<ns.length/\∀ m:Int,m∈ns->(∀ a∈ns,a<=m)->Q (.int m) S
def zoj:DB:=fun vs S Q=>∃ x ns,vs=[x]/\Lst S x (List.map D.int ns)/\0<ns.length/\∀ m:Int,m∈ns->(∀ a∈ns,m<=a)->Q (.int m) S
def zoD:DB:=fun vs S Q=>∃ x bs,vs=[x]/\Lst S x (List.map D.bl bs)/\Q (.bl (bs.any id)) S
def zhS:DB:=fun vs S Q=>∃ x bs,vs=[x]/\Lst S x (List.map D.bl bs)/\Q (.bl (bs.all id)) S
def zl5:DB:=fun vs S Q=>∃ x xs,vs=[x]/\zer S x xs/\Q (.tup xs) S
def zeA:DB:=fun vs S Q=>∃ x xs,vs=[x]/\zer S x xs/\Q (.ref S.length) (S++[.lst xs])
def zrO:DB:=fun vs S Q=>(∃ i,vs=[.int i]/\Q (.int i) S)\/∃ b,vs=[.bl b]/\Q (.int (if b then 1 else 0)) S
def zj9 (t:String):Bool:=t=="int"||t=="bool"||t=="tuple"||t=="list"||t=="str"
def zvL (S:Sto)(t:String)(d:D):Option Bool:=if (!zj9 t)=true then none else match d with
 | .non=>some false
 | .bl _=>some (t=="bool"||t=="int")
 | .int _=>some (t=="int")
 | .str _=>some (t=="str")
 | .tup _=>some (t=="tuple")
 | .ref n=>match S[n]? with
  | some (.lst _)=>some (t=="list")
  | _=>none
 | .ty _=>none
 | .rl _=>none
 | .exn _=>none
def zg7:DB:=fun vs S Q=>∃ x t b,vs=[x,.ty t]/\zvL S t x=some b/\Q (.bl b) S
abbrev p2 (c:Int×Int):D:=.tup [.int c.1,.int c.2]
def zjh (a b:Int×Int):Bool:=decide (a.1<b.1\/(a.1=b.1/\a.2<b.2))
def zpK:DB:=fun vs S Q=>∃ x cs,vs=[x]/\Lst S x (List.map p2 cs)/\cs.length<64/\∀ ss:List (Int×Int),ss.Perm cs->ss.Pairwise (fun a b=>zjh b a=false)->Q (.ref S.length) (S++[.lst (ss.map p2)])
def zp1:DB:=fun vs S Q=>∃ x ns,vs=[x]/\Lst S x (List.map D.int ns)/\ns.length<64/\∀ ss:List Int,ss.Perm ns->ss.Pairwise (fun a b=>a<=b)->Q (.ref S.length) (S++[.lst (ss.map D.int)])
def zoF:DB:=fun vs S Q=>zpK vs S Q\/zp1 vs S Q
def zbt:DM:=fun x vs S Q=>∃ n xs y,x=.ref n/\vs=[y]/\S[n]?=some (.lst xs)/\xs.length<big/\Q .non (S.set n (.lst (xs++[y])))
def zsH:DM:=fun x vs S Q=>∃ n xs m ys,x=.ref n/\vs=[.ref m]/\S[n]?=some (.lst xs)/\S[m]?=some (.lst ys)/\m≠n/\xs.length+ys.length<=big/\Q .non (S.set n (.lst (xs++ys)))
def zjg:DM:=fun x vs S Q=>zsH x vs S Q\/∃ n xs ys,x=.ref n/\vs=[.tup ys]/\S[n]?=some (.lst xs)/\xs.length+ys.length<=big/\Q .non (S.set n (.lst (xs++ys)))
def zkr:DM:=fun x vs S Q=>∃ n xs k y,x=.ref n/\vs=[.int k,y]/\S[n]?=some (.lst xs)/\0<=k/\k<2 ^ 40/\xs.length<big/\Q .non (S.set n (.lst (xs.take k.toNat++y::xs.drop k.toNat)))
def zh1:DM:=fun x vs S Q=>∃ n xs y j e,x=.ref n/\vs=[y]/\S[n]?=some (.lst xs)/\xs.all (fl 20)=true/\fl 20 y=true/\xs.length<=big/\xs[j]?=some e/\eqv e y=true/\(∀ (m:Nat) e',m<j->xs[m]?=some e'->eqv e' y=false)/\Q (.int (j:Nat)) S
def zE (i:Nat):DG:=fun d Z S Q=>Q (Z.set i (some d)) S
def zcH:DGs:=fun ds Z S Q=>ds=[]/\Q Z S
def zav (t:DG)(u:DGs):DGs:=fun ds Z S Q=>∃ d r,ds=d::r/\t d Z S fun ρ' S'=>u r ρ' S' Q
def zcF (n:Nat)(t:DGs):DG:=fun d Z S Q=>∃ xs,d=.tup xs/\xs.length=n/\t xs Z S Q
def zhI (to ti:DE):DG:=fun d Z S Q=>to Z S fun o S1=>ti Z S1 fun i S2=>∃ n xs k j,o=.ref n/\i=.int k/\S2[n]?=some (.lst xs)/\ixD xs.length k=some j/\Q Z (S2.set n (.lst (xs.set j d)))
def zG (t u:DS):DS:=fun E Z S=>t { E with nx:=u E } Z S
def z9:DS:=fun E Z S=>E.nx Z S
def zY (t:DE):DS:=fun E Z S=>t Z S E.rt
def zaR (t:DE):DS:=fun E Z S=>t Z S fun _ S1=>E.nx Z S1
def zM (t:DE)(g:DG):DS:=fun E Z S=>t Z S fun x S1=>g x Z S1 E.nx
def sIf (c:DT)(t u:DS):DS:=fun E Z S=>c Z S fun b S1=>if b=true then t E Z S1 else u E Z S1
def sJ (t:DS):DS:=fun E Z S=>∃ J:Rho->Sto->Prop,(∀ Z S,J Z S->E.nx Z S)/\t { E with nx:=J } Z S
def zcw:DS:=fun _ _ _=>False
def zo8 (i j:Nat)(t:DA):DS:=fun E Z S=>t Z S fun vs S1=>∃ a b,vs=[a,b]/\E.nx ((Z.set i (some a)).set j (some b)) S1
def zeM (c f:Str)(to tv:DE):DS:=fun E Z S=>tv Z S fun y S1=>to Z S1 fun x S2=>∃ n fs,x=.ref n/\S2[n]?=some (.ins c fs)/\fs.length<100/\E.nx Z (S2.set n (.ins c (putD f y fs)))
def zr6 (i:Nat)(t:DE):DS:=fun E Z S=>∃ a,Z[i]?=some (some (.int a))/\t Z S fun y S1=>∃ b,y=.int b/\E.nx (Z.set i (some (.int (a+b)))) S1
def zjS (c:DT)(t:DS):DS:=fun E Z S=>∃ W:Nat->Rho->Sto->Prop,(∃ m,W m Z S)/\∀ m Z S,W m Z S ->
 c Z S fun b S1=>if b=true then ∃ N:Rho->Sto->Prop,(∀ ρ' S',N ρ' S'->∃ m',m'<m/\W m' ρ' S')/\t { E with nx:=N,ct:=N,bk:=E.nx } Z S1 else E.nx Z S1
def zbu (wi:DI)(g:DG)(t:DS):DS:=fun E Z S=>wi Z S fun J S1=>∃ W:Nat->Rho->Sto->Prop,W 0 Z S1/\(∀ i Z S,W i Z S->J.ok S) /\
 (∀ i d Z S,J.items[i]?=some d->W i Z S->g d Z S fun ρ2 S2=>t { E with nx:=W (i+1),ct:=W (i+1),bk:=E.nx } ρ2 S2)/\∀ Z S,W J.items.length Z S->E.nx Z S
def signs (z:Str):List D:=z.cps.toList.map fun c=>.str ⟨#[c]⟩
def zin (x:D)(S1:Sto)(R:DIt->Sto->Prop):Prop:=(∃ xs,x=.tup xs/\R ⟨xs,fun _=>True⟩ S1)\/(∃ xs,Lst S1 x xs/\R ⟨xs,fun S=>Lst S x xs⟩ S1)\/(∃ z:Str,x=.str z/\R ⟨signs z,fun _=>True⟩ S1)
def zaY (t:DE):DI:=fun Z S R=>t Z S fun x S1=>zin x S1 R
def upto (lo:Int)(n:Nat):List D:=(List.range n).map fun k:Nat=>D.int (lo+(k:Int))
def zcJ (t:DA):DI:=fun Z S R=>t Z S fun vs S1=>∃ j:Int,vs=[.int j]/\-(2 ^ 62)<=j/\j<2 ^ 62/\R ⟨upto 0 j.toNat,fun _=>True⟩ S1
def zir (t:DA):DI:=fun Z S R=>t Z S fun vs S1=>∃ i j:Int,vs=[.int i,.int j]/\R ⟨upto i (j-i).toNat,fun _=>True⟩ S1
def zdc:Nat->List D->List D
 | _,[]=>[]
 | k,x::xs=>.tup [.int (k:Nat),x]::zdc (k+1) xs
def zcs:List D->List D->List D
 | x::xs,y::ys=>.tup [x,y]::zcs xs ys
 | _,_=>[]
def zov:DB:=fun vs S Q=>∃ i j:Int,vs=[.int i,.int j]/\j-i<=900/\Q (.ref S.length) (S++[.lst (upto i (j-i).toNat)])
def zh0 (c:List Str)(z:Str):List Str:=if c.any (·==z)=true then c else c++[z]
def zc3 (f:Nat->Str):Nat->List Str
 | 0=>[]
 | i+1=>zh0 (zc3 f i) (f i)
def zq0 (zs:List Str):Nat:=(zc3 (fun i=>zs.getD i Str.empty) zs.length).length
def zom:DB:=fun vs S Q=>∃ x,∃ zs:List Str,vs=[x]/\Lst S x (zs.map D.str)/\zs.length<=4000/\Q (.int (zq0 zs)) S
def zmr (R:DIt->Sto->Prop)(vs:List D)(S1:Sto):Prop:=(∃ x xs,vs=[x]/\Lst S1 x xs/\R ⟨zdc 0 xs,fun S=>Lst S x xs⟩ S1)\/(∃ xs,vs=[.tup xs]/\R ⟨zdc 0 xs,fun _=>True⟩ S1)
def zoO (t:DA):DI:=fun Z S R=>t Z S (zmr R)
def zoa (R:DIt->Sto->Prop)(vs:List D)(S1:Sto):Prop:=(∃ x y xs ys,vs=[x,y]/\Lst S1 x xs/\Lst S1 y ys/\R ⟨zcs xs ys,fun S=>Lst S x xs/\Lst S y ys⟩ S1)\/(∃ xs ys,vs=[.tup xs,.tup ys]/\R ⟨zcs xs ys,fun _=>True⟩ S1)
def zrL (t:DA):DI:=fun Z S R=>t Z S (zoa R)
def zjb (own:Nat)(fv:List Nat)(Z:Rho):Rho:=List.replicate own none++fv.map fun j=>(Z[j]?).join
def zbz:DT:=fun _ S Q=>Q true S
def dLC (own:Nat)(fv:List Nat)(wi:DI)(g:DG)(tc:DT)(te:DE):DE:=fun Z S Q=>wi Z S fun J S1=>J.items.length<=big/\∃ W:Nat->List D->Sto->Prop,W 0 [] S1/\(∀ i ys S,W i ys S->J.ok S) /\
 (∀ i d ys S,J.items[i]?=some d->W i ys S->g d (zjb own fv Z) S fun ρ2 S2=>tc ρ2 S2 fun b S3=>if b=true then te ρ2 S3 fun y S4=>W (i+1) (ys++[y]) S4 else W (i+1) ys S3) /\
 ∀ ys S,W J.items.length ys S->Q (.ref S.length) (S++[.lst ys])
section
variable {κ:Type}[DecidableEq κ]
end
def fc:Cell->Bool
 | .lst xs=>xs.all (fl 20)
 | .ins _ _=>false
 | .dk _=>false
 | .dt _=>false
def Fin (S:Sto)(Q:DK):DK:=fun d S'=>Q d S'\/∃ S1,S1 <+: S'/\S.length<=S1.length/\(fl 20 d=true\/∃ n,d=.ref n/\n<S1.length)/\(∀ (n:Nat) c,S1[n]?=some c->S[n]?=some c\/fc c=true)/\Q d S1
def zeO (n:Nat)(ds:List D):Rho:=ds.map some++List.replicate (n-ds.length) none
def BodyOk (n:Nat)(b:DS)(f:DSp):Prop:=∀ ds S Q,f ds S Q->b ⟨fun _ S'=>Fin S Q .non S',Fin S Q,fun _ _=>False,fun _ _=>False⟩ (zeO n ds) S
abbrev XD:=Str->Sto->Prop
abbrev XR:=Rho->Str->Sto->Prop
abbrev zep:=List D->Sto->DK->XD->Prop
def zc4 (f:zep)(ex:XR)(t:DA):DE:=fun Z S Q=>t Z S fun xs S1=>f xs S1 Q (ex Z)
def xF:XR:=fun _ _ _=>False
def zfC (ex:XR)(c:Str):DS:=fun _ Z S=>ex Z c S
def zdY (n:Nat)(b:XR->DS)(f:zep):Prop:=∀ ds S Q ex,f ds S Q ex->b (fun _=>ex) ⟨fun _ S'=>Fin S Q .non S',Fin S Q,fun _ _=>False,fun _ _=>False⟩ (zeO n ds) S
def New (Q:DK)(S:Sto)(xs:List D):Prop:=Q (.ref S.length) (S++[.lst xs])
def Put (Q:Sto->Prop)(S:Sto)(n:Nat)(c:Cell):Prop:=Q (S.set n c)
def zoS (own:Nat)(fv:List Nat)(g:DG)(tc:DT)(te:DE)(Z:Rho)(Q:DK)(J:DIt)(S:Sto):Prop:=J.items.length<=big/\∃ W:Nat->List D->Sto->Prop,W 0 [] S/\(∀ i ys S,W i ys S->J.ok S) /\
 (∀ i d ys S,J.items[i]?=some d->W i ys S->g d (zjb own fv Z) S fun ρ2 S2=>tc ρ2 S2 fun b S3=>if b=true then te ρ2 S3 fun y S4=>W (i+1) (ys++[y]) S4 else W (i+1) ys S3) /\
 ∀ ys S,W J.items.length ys S->New Q S ys
def zsy (d:D)(Z:Rho)(Q:Rho->Sto->Prop)(o i:D)(S2:Sto):Prop:=∃ n xs k j,o=.ref n/\i=.int k/\S2[n]?=some (.lst xs)/\ixD xs.length k=some j/\Q Z (S2.set n (.lst (xs.set j d)))
def zoC (nx:Rho->Sto->Prop)(rt:DK)(g:DG)(t:DS)(Z:Rho)(J:DIt)(S:Sto):Prop:=∃ W:Nat->Rho->Sto->Prop,W 0 Z S/\(∀ i Z S,W i Z S->J.ok S) /\
 (∀ i d Z S,J.items[i]?=some d->W i Z S->g d Z S fun ρ2 S2=>t ⟨W (i+1),rt,nx,W (i+1)⟩ ρ2 S2)/\∀ Z S,W J.items.length Z S->nx Z S
def zsw (W:Nat->Rho->Sto->Prop)(m:Nat)(t:DS)(rt:DK)(nx:Rho->Sto->Prop)(Z:Rho)(S:Sto):Prop:=∃ N:Rho->Sto->Prop,(∀ ρ' S',N ρ' S'->∃ m',m'<m/\W m' ρ' S')/\t ⟨N,rt,nx,N⟩ Z S
theorem zaM {nx:Rho->Sto->Prop}{rt:DK}{g:DG}{t:DS}{Z:Rho}{xs:List D}{ok:Sto->Prop}{S:Sto}(W:Nat->Rho->Sto->Prop)(h0:W 0 Z S)(hok:∀ i Z S,W i Z S->ok S)
  (step:∀ i d Z S,xs[i]?=some d->W i Z S->g d Z S fun ρ2 S2=>t ⟨W (i+1),rt,nx,W (i+1)⟩ ρ2 S2) (fin:∀ Z S,W xs.length Z S->nx Z S):zoC nx rt g t Z ⟨xs,ok⟩ S:=⟨W,h0,hok,step,fin⟩
theorem zsA {S:Sto}{Q:DK}{xs:List D}(h:Q (.ref S.length) (S++[.lst xs])):New Q S xs:=h
theorem zig {S T:Sto}{Q:DK}{xs:List D}(h:Q (.ref (S.length+T.length)) (S++(T++[.lst xs]))):New Q (S++T) xs:=by
 unfold New;rw [qe,List.append_assoc];exact h
section
variable {S:Sto}{Q:DK}{xs:List D}{a b c d e f:Cell}
theorem zwo (h:Q (.ref (S.length+1)) (S++[a,.lst xs])):New Q (S++[a]) xs:=zig h
theorem zw3 (h:Q (.ref (S.length+2)) (S++[a,b,.lst xs])):New Q (S++[a,b]) xs:=zig h
theorem zxa (h:Q (.ref (S.length+3)) (S++[a,b,c,.lst xs])):New Q (S++[a,b,c]) xs:=zig h
theorem zwX (h:Q (.ref (S.length+4)) (S++[a,b,c,d,.lst xs])):New Q (S++[a,b,c,d]) xs:=zig h
theorem zwd (h:Q (.ref (S.length+5)) (S++[a,b,c,d,e,.lst xs])):New Q (S++[a,b,c,d,e]) xs:=zig h
end
theorem zqu {S:Sto}{a:Cell}{T:Sto}{Q:Sto->Prop}{c:Cell}(h:Q (S++c::T)):Put Q (S++a::T) S.length c:=by
 unfold Put;rw [List.set_append_right _ _ (qf _),Nat.sub_self];exact h
theorem zvq {S:Sto}{a:Cell}{G T:Sto}{Q:Sto->Prop}{c:Cell}(h:Q (S++c::(G++T))):Put Q (S++(a::G++T)) S.length c:=zqu h
theorem zsz {S T:Sto}{Q:Sto->Prop}{k:Nat}{c:Cell}(h:Q (S++T.set k c)):Put Q (S++T) (S.length+k) c:=by
 unfold Put;rw [List.set_append_right _ _ (Nat.le_add_right _ _),Nat.add_sub_cancel_left];exact h
section
variable {nx:Rho->Sto->Prop}{rt:DK}{bk ct:Rho->Sto->Prop}{Z:Rho}{S:Sto}
theorem zoU {t u:DS}(h:t ⟨u ⟨nx,rt,bk,ct⟩,rt,bk,ct⟩ Z S):zG t u ⟨nx,rt,bk,ct⟩ Z S:=h
theorem r_J {t:DS}(J:Rho->Sto->Prop)(h:t ⟨J,rt,bk,ct⟩ Z S)(hJ:∀ Z S,J Z S->nx Z S):sJ t ⟨nx,rt,bk,ct⟩ Z S:=⟨J,hJ,h⟩
theorem zwb {i j:Nat}{t:DA}(h:t Z S fun vs S1=>∃ a b,vs=[a,b]/\nx ((Z.set i (some a)).set j (some b)) S1):zo8 i j t ⟨nx,rt,bk,ct⟩ Z S:=h
theorem zun {a b:D}{P:D->D->Prop}(h:P a b):∃ x y,[a,b]=[x,y]/\P x y:=⟨a,b,rfl,h⟩
theorem zvk (h:nx Z S):z9 ⟨nx,rt,bk,ct⟩ Z S:=h
theorem zsk {t:DE}(h:t Z S rt):zY t ⟨nx,rt,bk,ct⟩ Z S:=h
theorem zue {t:DE}(h:t Z S fun _ S1=>nx Z S1):zaR t ⟨nx,rt,bk,ct⟩ Z S:=h
theorem zsh {t:DE}{g:DG}(h:t Z S fun x S1=>g x Z S1 nx):zM t g ⟨nx,rt,bk,ct⟩ Z S:=h
theorem zxJ {c:DT}{t u:DS}(h:c Z S fun b S1=>if b=true then t ⟨nx,rt,bk,ct⟩ Z S1 else u ⟨nx,rt,bk,ct⟩ Z S1):sIf c t u ⟨nx,rt,bk,ct⟩ Z S:=h
theorem zvZ {c f:Str}{to tv:DE}(h:tv Z S fun y S1=>to Z S1 fun x S2=>∃ n fs,x=.ref n/\S2[n]?=some (.ins c fs)/\fs.length<100/\nx Z (S2.set n (.ins c (putD f y fs)))):zeM c f to tv ⟨nx,rt,bk,ct⟩ Z S:=h
theorem zv5 {i:Nat}{t:DE}{a:Int}(e:Z[i]?=some (some (.int a)))(h:t Z S fun y S1=>∃ b,y=.int b/\nx (Z.set i (some (.int (a+b)))) S1):zr6 i t ⟨nx,rt,bk,ct⟩ Z S:=⟨a,e,h⟩
theorem zw8 {wi:DI}{g:DG}{t:DS}(h:wi Z S fun J S1=>zoC nx rt g t Z J S1):zbu wi g t ⟨nx,rt,bk,ct⟩ Z S:=h
theorem zuF {c:DT}{t:DS}(W:Nat->Rho->Sto->Prop)(m:Nat)(h0:W m Z S)(h:∀ m Z S,W m Z S->c Z S fun b S1=>if b=true then zsw W m t rt nx Z S1 else nx Z S1):zjS c t ⟨nx,rt,bk,ct⟩ Z S:=⟨W,⟨m,h0⟩,h⟩
theorem zqv {t:DS}{W:Nat->Rho->Sto->Prop}{m:Nat}(h:t ⟨fun ρ' S'=>∃ m',m'<m/\W m' ρ' S',rt,nx,fun ρ' S'=>∃ m',m'<m/\W m' ρ' S'⟩ Z S):zsw W m t rt nx Z S:=⟨_,fun _ _ z=>z,h⟩
theorem znC {i:Nat}{d:D}{Q:Rho->Sto->Prop}(h:Q (Z.set i (some d)) S):zE i d Z S Q:=h
theorem zv1 {Q:Rho->Sto->Prop}(h:Q Z S):zcH [] Z S Q:=⟨rfl,h⟩
theorem zsU {t:DG}{u:DGs}{d:D}{r:List D}{Q:Rho->Sto->Prop}(h:t d Z S fun ρ' S'=>u r ρ' S' Q):zav t u (d::r) Z S Q:=⟨d,r,rfl,h⟩
theorem zvj {n:Nat}{t:DGs}{xs:List D}{Q:Rho->Sto->Prop}(e:xs.length=n)(h:t xs Z S Q):zcF n t (.tup xs) Z S Q:=⟨xs,rfl,e,h⟩
theorem zuc {to ti:DE}{d:D}{Q:Rho->Sto->Prop}(h:to Z S fun o S1=>ti Z S1 fun i S2=>zsy d Z Q o i S2):zhI to ti d Z S Q:=h
theorem zgy {i:Nat}{d:D}{Q:DK}(h:Z[i]?=some (some d))(q:Q d S):zf i Z S Q:=⟨d,h,q⟩
theorem r_c {d:D}{Q:DK}(q:Q d S):dC d Z S Q:=q
theorem zn6 {r:DR2}{ta tb:DE}{Q:DK}(h:ta Z S fun x S1=>tb Z S1 fun y S2=>r x y S2 Q):dOp r ta tb Z S Q:=h
theorem zxy {r:D->Sto->DK->Prop}{ta:DE}{Q:DK}(h:ta Z S fun x S1=>r x S1 Q):dUn r ta Z S Q:=h
theorem zse {Q:List D->Sto->Prop}(h:Q [] S):zB Z S Q:=h
theorem zmE {ta:DE}{tr:DA}{Q:List D->Sto->Prop}(h:ta Z S fun x S1=>tr Z S1 fun xs S2=>Q (x::xs) S2):zm ta tr Z S Q:=h
theorem zsr {t:DA}{Q:DK}(h:t Z S fun xs S1=>xs.length<=big/\Q (.tup xs) S1):dTup t Z S Q:=h
theorem zsx {t:DA}{Q:DK}(h:t Z S fun xs S1=>xs.length<=big/\New Q S1 xs):zba t Z S Q:=h
theorem zr7 {xs:List D}{P:Prop}(h:Nat.ble xs.length big=true)(q:P):xs.length<=big/\P:=⟨Nat.le_of_ble_eq_true h,q⟩
theorem zvK {f:DSp}{t:DA}{Q:DK}(h:t Z S fun xs S1=>f xs S1 Q):dCall f t Z S Q:=h
theorem r_b {r:DB}{t:DA}{Q:DK}(h:t Z S fun xs S1=>r xs S1 Q):dB r t Z S Q:=h
theorem r_m {r:DM}{ta:DE}{t:DA}{Q:DK}(h:ta Z S fun x S1=>(∃ n ys,x=.ref n/\S1[n]?=some (.lst ys))/\t Z S1 fun xs S2=>r x xs S2 Q):dM r ta t Z S Q:=h
theorem zxk {n:Nat}{ys:List D}{P:Prop}(h:S[n]?=some (.lst ys))(q:P):(∃ m ys,D.ref n=.ref m/\S[m]?=some (.lst ys))/\P:=⟨⟨n,ys,rfl,h⟩,q⟩
theorem r_t {t:DE}{Q:Bool->Sto->Prop}(h:t Z S fun x S1=>∃ b,x=.bl b/\Q b S1):dT t Z S Q:=h
theorem zxZ {c:Bool}{P:Bool->Prop}(h:P c):∃ b,D.bl c=D.bl b/\P b:=⟨c,rfl,h⟩
theorem zxl {c:Int}{P:Int->Prop}(h:P c):∃ b,D.int c=D.int b/\P b:=⟨c,rfl,h⟩
theorem zxe {t u:DT}{Q:Bool->Sto->Prop}(h:t Z S fun c S1=>if c=true then u Z S1 Q else Q false S1):zfB t u Z S Q:=h
theorem zxI {t u:DT}{Q:Bool->Sto->Prop}(h:t Z S fun c S1=>if c=true then Q true S1 else u Z S1 Q):dOr t u Z S Q:=h
theorem zwq {t:DT}{Q:Bool->Sto->Prop}(h:t Z S fun c S1=>Q (!c) S1):zd8 t Z S Q:=h
theorem zvv {t u:DE}{Q:DK}(h:t Z S fun x S1=>∃ c,x=.bl c/\if c=true then u Z S1 Q else Q (.bl false) S1):ziq t u Z S Q:=h
theorem zwJ {t u:DE}{Q:DK}(h:t Z S fun x S1=>∃ c,x=.bl c/\if c=true then Q (.bl true) S1 else u Z S1 Q):zrQ t u Z S Q:=h
theorem zvF {t:DE}{Q:DK}(h:t Z S fun x S1=>∃ c,x=.bl c/\Q (.bl (!c)) S1):ziu t Z S Q:=h
theorem ztI {r r':DR2}{ta tb tc:DE}{Q:DK}(h:ta Z S fun x S1=>tb Z S1 fun y S2=>r x y S2 fun z S3=>∃ c,z=.bl c/\if c=true then tc Z S3 fun w S4=>r' y w S4 Q else Q (.bl false) S3):zgi r r' ta tb tc Z S Q:=h
theorem zxd {f:Str}{ta:DE}{Q:DK}(h:ta Z S fun x S1=>∃ n c fs d,x=.ref n/\S1[n]?=some (.ins c fs)/\fs.lookup f=some d/\Q d S1):zct f ta Z S Q:=h
theorem zxN {r:D->Option Int->Option Int->Sto->DK->Prop}{ta:DE}{lo hi:Option DE}{Q:DK}(h:ta Z S fun x S1=>zi8 lo Z S1 fun l S2=>zi8 hi Z S2 fun h S3=>r x l h S3 Q):dSl r ta lo hi Z S Q:=h
theorem zvP {Q:Option Int->Sto->Prop}(h:Q none S):zi8 none Z S Q:=h
theorem zuq {t:DE}{Q:Option Int->Sto->Prop}(h:t Z S fun x S1=>∃ i,x=.int i/\Q (some i) S1):zi8 (some t) Z S Q:=h
theorem zqy {Q:Bool->Sto->Prop}(h:Q true S):zbz Z S Q:=h
end
section
variable {S:Sto}{Q:DK}
theorem zwD {i j:Int}(q:Q (.int (i+j)) S):zad (.int i) (.int j) S Q:=.inl ⟨i,j,rfl,rfl,q⟩
theorem zeT {x y:D}{xs ys:List D}(hx:Lst S x xs)(hy:Lst S y ys)(h:xs.length+ys.length<=big)(q:New Q S (xs++ys)):zad x y S Q:=.inr (.inr (.inl ⟨xs,ys,hx,hy,h,q⟩))
theorem zmH {i j:Str}(h:i.length+j.length<=big)(q:Q (.str (i++j)) S):zad (.str i) (.str j) S Q:=.inr (.inr (.inr ⟨i,j,rfl,rfl,h,q⟩))
theorem zwE {i j:Int}(q:Q (.int (i-j)) S):zah (.int i) (.int j) S Q:=⟨i,j,rfl,rfl,q⟩
theorem zw1 {i j:Int}(c:zar i j)(q:Q (.int (i*j)) S):zau (.int i) (.int j) S Q:=.inl ⟨i,j,rfl,rfl,c,q⟩
theorem zqB {z:Str}{n:Int}(hz:z.length<=1000)(h0:-1000<=n)(h1:n<=1000)(q:Q (.str (zo2 z n)) S):zau (.str z) (.int n) S Q:=.inr (.inl ⟨z,n,rfl,rfl,hz,h0,h1,q⟩)
theorem zpP {i j:Int}(hi:Hg i)(hj:Hg j)(q:Q (.int (i*j)) S):zau (.int i) (.int j) S Q:=.inr (.inr ⟨i,j,rfl,rfl,⟨hi,hj⟩,q⟩)
theorem zwP {c:Nat}{z:Str}(q:Q (.bl (decide (c∈z.cps.toList))) S):oIn (.str ⟨#[c]⟩) (.str z) S Q:=.inr ⟨c,z,rfl,rfl,q⟩
theorem zwc {i j:Int}(c:0<j/\My.Bd 8000 j)(q:Q (.int (i/j)) S):oDiv (.int i) (.int j) S Q:=⟨i,j,rfl,rfl,⟨by omega,c.2⟩,by show Q (.int (i.fdiv j)) S;rw [Int.fdiv_eq_ediv_of_nonneg i (by omega)];exact q⟩
theorem zwZ {i j:Int}(c:0<j)(q:Q (.int (i%j)) S):oMod (.int i) (.int j) S Q:=⟨i,j,rfl,rfl,(by show j≠0;omega),by show Q (.int (i.fmod j)) S;rw [Int.fmod_eq_emod_of_nonneg i (by omega)];exact q⟩
theorem zp6 {i j:Int}(c:zsv i j)(q:Q (.int (i.fdiv j)) S):oDiv (.int i) (.int j) S Q:=⟨i,j,rfl,rfl,c,q⟩
theorem zvI {i j:Int}(c:j≠0)(q:Q (.int (i.fmod j)) S):oMod (.int i) (.int j) S Q:=⟨i,j,rfl,rfl,c,q⟩
theorem zwA {i:Int}(q:Q (.int (-i)) S):zcG (.int i) S Q:=⟨i,rfl,q⟩
theorem zxB {i j:Int}(q:Q (.bl (decide (i<j))) S):oLt (.int i) (.int j) S Q:=⟨i,j,rfl,rfl,q⟩
theorem zyf {i j:Int}(q:Q (.bl (decide (i<=j))) S):oLe (.int i) (.int j) S Q:=⟨i,j,rfl,rfl,q⟩
theorem zx0 {i j:Int}(q:Q (.bl (decide (j<i))) S):oGt (.int i) (.int j) S Q:=⟨i,j,rfl,rfl,q⟩
theorem zx8 {i j:Int}(q:Q (.bl (decide (j<=i))) S):oGe (.int i) (.int j) S Q:=⟨i,j,rfl,rfl,q⟩
theorem zv6 {i j:Int}(q:Q (.bl (decide (i=j))) S):oEq (.int i) (.int j) S Q:=⟨_,.inl ⟨rfl,rfl,rfl⟩,q⟩
theorem zv9 {i j:Int}(q:Q (.bl (!decide (i=j))) S):oNe (.int i) (.int j) S Q:=⟨_,.inl ⟨rfl,rfl,rfl⟩,q⟩
theorem zuv (q:Q (.bl false) S):zfH .non .non S Q:=.inl ⟨rfl,q⟩
theorem zvX {i:Int}(q:Q (.bl true) S):zfH (.int i) .non S Q:=.inl ⟨rfl,q⟩
theorem ztR (q:Q (.bl false) S):zfH (.bl true) (.bl true) S Q:=.inr ⟨_,_,rfl,rfl,q⟩
theorem zsn {x:D}(q:Q (.bl (!zhg x)) S):zfH x .non S Q:=.inl ⟨rfl,q⟩
theorem zwi {xs:List D}{i:Int}{d:D}(e:atD xs i=some d)(q:Q d S):oIx (.tup xs) (.int i) S Q:=.inl ⟨i,xs,d,rfl,.inl rfl,e,q⟩
theorem zlj {x:D}{xs:List D}{i:Int}{d:D}(h:Lst S x xs)(e:atD xs i=some d)(q:Q d S):oIx x (.int i) S Q:=.inl ⟨i,xs,d,rfl,.inr h,e,q⟩
theorem zo7 {z:Str}{i:Int}{c:Nat}(hz:z.length<=big)(e:atS z i=some c)(q:Q (.str ⟨#[c]⟩) S):oIx (.str z) (.int i) S Q:=.inr ⟨z,i,c,rfl,rfl,hz,e,q⟩
theorem zul {xs:List D}{lo hi:Option Int}(q:Q (.tup (cutD xs lo hi)) S):zcX (.tup xs) lo hi S Q:=.inl ⟨xs,rfl,q⟩
theorem zuS {x:D}{xs:List D}{lo hi:Option Int}(h:Lst S x xs)(q:New Q S (cutD xs lo hi)):zcX x lo hi S Q:=.inr (.inl ⟨xs,h,q⟩)
theorem zv0 {xs:List D}(q:Q (.int xs.length) S):zaH [.tup xs] S Q:=.inl ⟨_,xs,rfl,.inl rfl,q⟩
theorem zuP {x:D}{xs:List D}(h:Lst S x xs)(q:Q (.int xs.length) S):zaH [x] S Q:=.inl ⟨_,xs,rfl,.inr h,q⟩
theorem zqh {z:Str}(hz:z.length<=big)(q:Q (.int z.length) S):zaH [.str z] S Q:=.inr ⟨z,rfl,hz,q⟩
theorem zwY {i:Int}(q:Q (.int (i.natAbs:Int)) S):zl8 [.int i] S Q:=⟨i,rfl,q⟩
theorem zu4 {i j:Int}(q:Q (.int (max i j)) S):zfW [.int i,.int j] S Q:=⟨i,j,rfl,q⟩
theorem zvM {i j:Int}(q:Q (.int (min i j)) S):zgS [.int i,.int j] S Q:=⟨i,j,rfl,q⟩
theorem zub {x:D}{ns:List Int}(h:Lst S x (ns.map D.int))(h0:0<ns.length)(q:∀ m:Int,m∈ns->(∀ a∈ns,a<=m)->Q (.int m) S):zo4 [x] S Q:=⟨x,ns,rfl,h,h0,q⟩
theorem zuG {x:D}{ns:List Int}(h:Lst S x (ns.map D.int))(h0:0<ns.length)(q:∀ m:Int,m∈ns->(∀ a∈ns,m<=a)->Q (.int m) S):zoj [x] S Q:=⟨x,ns,rfl,h,h0,q⟩
theorem zwt {x:D}{bs:List Bool}(h:Lst S x (bs.map D.bl))(q:Q (.bl (bs.any id)) S):zoD [x] S Q:=⟨x,bs,rfl,h,q⟩
theorem zwa {x:D}{bs:List Bool}(h:Lst S x (bs.map D.bl))(q:Q (.bl (bs.all id)) S):zhS [x] S Q:=⟨x,bs,rfl,h,q⟩
theorem zri {x:D}{xs:List D}(h:Lst S x xs)(q:Q (.tup xs) S):zl5 [x] S Q:=⟨_,xs,rfl,.inr h,q⟩
theorem ztz {x:D}{xs:List D}(h:Lst S x xs)(q:New Q S xs):zeA [x] S Q:=⟨_,xs,rfl,.inr h,q⟩
theorem zvB {b:Bool}(q:Q (.int (if b then 1 else 0)) S):zrO [.bl b] S Q:=.inr ⟨b,rfl,q⟩
theorem zsB {x:D}{cs:List (Int×Int)}(h:Lst S x (cs.map p2))(hl:cs.length<64)(q:∀ ss:List (Int×Int),ss.Perm cs->ss.Pairwise (fun a b=>zjh b a=false)->New Q S (ss.map p2)):zoF [x] S Q:=.inl ⟨x,cs,rfl,h,hl,q⟩
theorem zr1 {n:Nat}{xs:List D}{y:D}(h:S[n]?=some (.lst xs))(hl:xs.length<big)(q:Put (Q .non) S n (.lst (xs++[y]))):zbt (.ref n) [y] S Q:=⟨n,xs,y,rfl,rfl,h,hl,q⟩
theorem zp0 {n:Nat}{xs:List D}{k:Int}{y:D}(h:S[n]?=some (.lst xs))(h0:0<=k)(h1:k<2 ^ 40)(hl:xs.length<big)(q:Put (Q .non) S n (.lst (xs.take k.toNat++y::xs.drop k.toNat))):zkr (.ref n) [.int k,y] S Q:=⟨n,xs,k,y,rfl,rfl,h,h0,h1,hl,q⟩
theorem zpY {n:Nat}{xs ys:List D}(h:S[n]?=some (.lst xs))(hl:xs.length+ys.length<=big)(q:Put (Q .non) S n (.lst (xs++ys))):zjg (.ref n) [.tup ys] S Q:=.inr ⟨n,xs,ys,rfl,rfl,h,hl,q⟩
theorem ztw {n j:Nat}{xs:List D}{y e:D}(h:S[n]?=some (.lst xs))(f:xs.all (fl 20)=true)(g:fl 20 y=true)(hl:xs.length<=big)(hj:xs[j]?=some e)(h1:eqv e y=true)(h2:∀ (m:Nat) e',m<j->xs[m]?=some e'->eqv e' y=false)(q:Q (.int (j:Nat)) S):zh1 (.ref n) [y] S Q:=⟨n,xs,y,j,e,rfl,rfl,h,f,g,hl,hj,h1,h2,q⟩
theorem zlf {n:Nat}{xs:List D}{k:Int}{j:Nat}{d:D}{Z:Rho}{Q:Rho->Sto->Prop}(h:S[n]?=some (.lst xs))(e:ixD xs.length k=some j)(q:Put (Q Z) S n (.lst (xs.set j d))):zsy d Z Q (.ref n) (.int k) S:=⟨n,xs,k,j,rfl,rfl,h,e,q⟩
end
section
variable {Z:Rho}{S:Sto}{R:DIt->Sto->Prop}
theorem zuy {t:DE}(h:t Z S fun x S1=>zin x S1 R):zaY t Z S R:=h
theorem zwI {xs:List D}(q:R ⟨xs,fun _=>True⟩ S):zin (.tup xs) S R:=.inl ⟨xs,rfl,q⟩
theorem zwe {x:D}{xs:List D}(h:Lst S x xs)(q:R ⟨xs,fun S=>Lst S x xs⟩ S):zin x S R:=.inr (.inl ⟨xs,h,q⟩)
theorem zxf {z:Str}(q:R ⟨signs z,fun _=>True⟩ S):zin (.str z) S R:=.inr (.inr ⟨z,rfl,q⟩)
theorem zvc {t:DA}(h:t Z S fun vs S1=>∃ j:Int,vs=[.int j]/\-(2 ^ 62)<=j/\j<2 ^ 62/\R ⟨upto 0 j.toNat,fun _=>True⟩ S1):zcJ t Z S R:=h
theorem zuH {t:DA}(h:t Z S fun vs S1=>∃ i j:Int,vs=[.int i,.int j]/\R ⟨upto i (j-i).toNat,fun _=>True⟩ S1):zir t Z S R:=h
theorem zv4 {t:DA}(h:t Z S (zmr R)):zoO t Z S R:=h
theorem zxD {x:D}{xs:List D}(h:Lst S x xs)(q:R ⟨zdc 0 xs,fun S=>Lst S x xs⟩ S):zmr R [x] S:=.inl ⟨x,xs,rfl,h,q⟩
theorem zuY {Q:DK}{i j:Int}(h:j-i<=900)(q:New Q S (upto i (j-i).toNat)):zov [.int i,.int j] S Q:=⟨i,j,rfl,h,q⟩
theorem zuK {Q:DK}{x:D}{zs:List Str}(hx:Lst S x (zs.map D.str))(hl:zs.length<=4000)(q:Q (.int (zq0 zs)) S):zom [x] S Q:=⟨x,zs,rfl,hx,hl,q⟩
theorem zwp {t:DA}(h:t Z S (zoa R)):zrL t Z S R:=h
theorem zxx {x y:D}{xs ys:List D}(hx:Lst S x xs)(hy:Lst S y ys)(q:R ⟨zcs xs ys,fun S=>Lst S x xs/\Lst S y ys⟩ S):zoa R [x,y] S:=.inl ⟨x,y,xs,ys,rfl,hx,hy,q⟩
theorem zxC {own:Nat}{fv:List Nat}{wi:DI}{g:DG}{tc:DT}{te:DE}{Q:DK}(h:wi Z S fun J S1=>zoS own fv g tc te Z Q J S1):dLC own fv wi g tc te Z S Q:=h
end
theorem zq3 {A B:Prop}(h:B):if false=true then A else B:=by rw [if_neg Bool.false_ne_true];exact h
theorem zol {A B:Prop}(h:A):if true=true then A else B:=by rw [if_pos rfl];exact h
theorem r_d {c A B:Prop}[Decidable c](h1:c->A)(h2:¬ c->B):if decide c=true then A else B:=by
 by_cases h:c
 ·rw [decide_eq_true h,if_pos rfl];exact h1 h
 ·rw [decide_eq_false h,if_neg Bool.false_ne_true];exact h2 h
theorem zfF {c A B:Prop}[Decidable c](h1:¬ c->A)(h2:c->B):if (!decide c)=true then A else B:=by
 by_cases h:c
 ·rw [decide_eq_true h];exact h2 h
 ·rw [decide_eq_false h];exact h1 h
theorem zbk (S T:Sto)(k:Nat):(S++T)[S.length+k]?=T[k]?:=by
 rw [qk (Nat.le_add_right _ _),Nat.add_sub_cancel_left]
theorem zto (S T:Sto):(S++T)[S.length]?=T[0]?:=zbk S T 0
theorem zaU {S T:Sto}{c:Cell}:(S++c::T)[S.length]?=some c:=(zbk S (c::T) 0).trans rfl
theorem znw {S T:Sto}{c:Cell}:(S++(T++[c]))[S.length+T.length]?=some c:=by rw [zbk,qk (qf _),Nat.sub_self];rfl
theorem ztr (S T:Sto)(k:Nat)(c:Cell):(S++T).set (S.length+k) c=S++T.set k c:=by
 rw [List.set_append_right _ _ (Nat.le_add_right _ _),Nat.add_sub_cancel_left]
theorem zcY (S T:Sto)(a c:Cell):(S++a::T).set S.length c=S++c::T:=ztr S (a::T) 0 c
theorem zal {S T:Sto}{n:Nat}{c:Cell}(h:S[n]?=some c):(S++T)[n]?=some c:=by
 have:n<S.length:=by
  rcases Nat.lt_or_ge n S.length with g | g
  ·exact g
  ·rw [List.getElem?_eq_none g] at h;cases h
 rw [List.getElem?_append_left this];exact h
theorem Lst.old {S T:Sto}{x:D}{xs:List D}(h:Lst S x xs):Lst (S++T) x xs:=h.imp id fun⟨n,e,h⟩=>⟨n,e,zal h⟩
theorem Lst.at {S T:Sto}{k:Nat}{xs:List D}(h:T[k]?=some (.lst xs)):Lst (S++T) (.ref (S.length+k)) xs:=.inr ⟨_,rfl,by rw [zbk];exact h⟩
theorem Lst.at0 {S T:Sto}{xs:List D}:Lst (S++.lst xs::T) (.ref S.length) xs:=.inr ⟨_,rfl,by rw [zto];rfl⟩
theorem Lst.new {S T:Sto}{xs:List D}:Lst (S++(T++[.lst xs])) (.ref (S.length+T.length)) xs:=.inr ⟨_,rfl,znw⟩
theorem Lst.rl {S:Sto}{xs:List D}:Lst S (.rl xs) xs:=.inl rfl
theorem Lst.here {S:Sto}{n:Nat}{xs:List D}(h:S[n]?=some (.lst xs)):Lst S (.ref n) xs:=.inr ⟨n,rfl,h⟩
theorem zan {S T:Sto}{Q:DK}{d:D}(h:fl 20 d=true)(q:Q d S):Fin S Q d (S++T):=.inr ⟨S,List.prefix_append _ _,qf _,.inl h,fun _ _ e=>.inl e,q⟩
theorem fin_same {S S':Sto}{Q:DK}{d:D}(q:Q d S'):Fin S Q d S':=.inl q
section
variable {S:Sto}{Q:DK}
theorem zk7 {i:Int}(q:Q (.bl true) S):zg7 [.int i,.ty "int"] S Q:=⟨_,_,true,rfl,by rfl,q⟩
theorem zj6 {i:Int}(q:Q (.bl false) S):zg7 [.int i,.ty "bool"] S Q:=⟨_,_,false,rfl,by rfl,q⟩
theorem zk9 {i:Bool}(q:Q (.bl true) S):zg7 [.bl i,.ty "bool"] S Q:=⟨_,_,true,rfl,by rfl,q⟩
theorem zjt {xs:List D}(q:Q (.bl true) S):zg7 [.tup xs,.ty "tuple"] S Q:=⟨_,_,true,rfl,by rfl,q⟩
end
theorem zws {A B:Prop}(h:B):if (!true)=true then A else B:=zq3 h
theorem zwQ {A B:Prop}(h:A):if (!false)=true then A else B:=zol h
theorem zh9 {S:Sto}{Q:DK}{x:D}{bs:List Bool}{b:Bool}(h:Lst S x (bs.map D.bl))(e:bs.all id=b)(q:Q (.bl b) S):zhS [x] S Q:=zwa h (by rw [e];exact q)
theorem zu1 {S:Sto}{Q:DK}{x:D}{bs:List Bool}{b:Bool}(h:Lst S x (bs.map D.bl))(e:bs.any id=b)(q:Q (.bl b) S):zoD [x] S Q:=zwt h (by rw [e];exact q)
def LcW (S:Sto)(items:List D)(p:D->Bool)(f:D->D)(i:Nat)(ys:List D)(S':Sto):Prop:=S'=S/\ys=((items.take i).filter p).map f
theorem zat {α:Type}{xs:List α}{i:Nat}{x:α}(h:xs[i]?=some x):xs.take (i+1)=xs.take i++[x]:=by rw [List.take_succ,h];rfl
theorem zbL {S:Sto}{items:List D}{p:D->Bool}{f:D->D}{i:Nat}{ys:List D}{d y:D}(hd:items[i]?=some d)(hw:LcW S items p f i ys S)(hp:p d=true)(hy:y=f d):LcW S items p f (i+1) (ys++[y]) S :=
 ⟨rfl,by rw [zat hd,List.filter_append,List.map_append,<- hw.2,List.filter_cons_of_pos hp,hy];rfl⟩
theorem zn2 {S:Sto}{items:List D}{p:D->Bool}{f:D->D}{i:Nat}{ys:List D}{d:D}(hd:items[i]?=some d)(hw:LcW S items p f i ys S)(hp:p d=false):LcW S items p f (i+1) ys S :=
 ⟨rfl,by rw [zat hd,List.filter_append,List.map_append,<- hw.2,List.filter_cons_of_neg (by rw [hp];exact Bool.false_ne_true)];simp⟩
theorem za3 {own:Nat}{fv:List Nat}{xs:List D}{ok:Sto->Prop}{g:DG}{tc:DT}{te:DE}{Z:Rho}{S:Sto}{Q:DK}(p:D->Bool)(f:D->D)(hok:ok S)(hbig:xs.length<=big)
  (step:∀ i d ys,xs[i]?=some d->LcW S xs p f i ys S->g d (zjb own fv Z) S fun ρ2 S2=>tc ρ2 S2 fun b S3=>if b=true then te ρ2 S3 fun y S4=>LcW S xs p f (i+1) (ys++[y]) S4 else LcW S xs p f (i+1) ys S3)
  (q:New Q S ((xs.filter p).map f)):zoS own fv g tc te Z Q ⟨xs,ok⟩ S:=by
 refine⟨hbig,LcW S xs p f,⟨rfl,by simp⟩,fun i ys S' h=>by rw [h.1];exact hok,fun i d ys S' hd h=>?_,fun ys S' h=>?_⟩
 ·obtain⟨rfl,_⟩:=id h
  exact step i d ys hd h
 ·obtain⟨rfl,rfl⟩:=h
  rw [List.take_length];exact q
theorem filter_true {α:Type}(xs:List α):xs.filter (fun _=>true)=xs:=List.filter_eq_self.mpr fun _ _=>rfl
theorem za5 {ds:List D}{i:Nat}{d:D}(h:ds[i]?=some d):atD ds (i:Int)=some d:=by
 have hl:i<ds.length:=by
  rcases Nat.lt_or_ge i ds.length with g | g
  ·exact g
  ·rw [List.getElem?_eq_none g] at h;cases h
 unfold atD ixD
 rw [if_pos (by omega),if_pos (by omega)]
 simpa using h
theorem zbq {lo:Int}{n i:Nat}{d:D}(h:(upto lo n)[i]?=some d):i<n/\d=.int (lo+i):=by
 unfold upto at h
 rw [qg] at h
 by_cases hi:i<n
 ·rw [List.getElem?_range hi] at h
  exact⟨hi,by simpa using h.symm⟩
 ·rw [List.getElem?_eq_none (by simpa using hi)] at h;cases h
theorem zaE (lo:Int)(n:Nat):(upto lo n).length=n:=by unfold upto;simp
theorem zeN {zs:List Int}{k:Int}(h0:0<=k)(h:k<zs.length):∃ z,z∈zs/\atD (zs.map D.int) k=some (.int z):=by
 refine⟨zs[k.toNat]'(by omega),List.getElem_mem _,?_⟩
 unfold atD ixD
 rw [qa,if_pos h0,if_pos h]
 simp only [Option.bind_some]
 rw [qg,qb (by omega)];rfl
theorem zuN {zs:List Int}{k:Int}(h0:0<=k)(h:k<zs.length):ixD (zs.map D.int).length k=some k.toNat:=by
 unfold ixD
 rw [qa,if_pos h0,if_pos h]
theorem zrk {zs:List Int}{i:Nat}{v z:Int}(h:z∈zs.set i v):z∈zs\/z=v:=by
 rcases List.mem_or_eq_of_mem_set h with h | h
 ·exact .inl h
 ·exact .inr h
theorem zc6 {zs:List Int}{i:Nat}{d:D}(h:(zs.map D.int)[i]?=some d):∃ z,zs[i]?=some z/\d=.int z:=by
 rw [qg] at h
 cases e:zs[i]? with
 | none=>rw [e] at h;cases h
 | some p=>rw [e] at h;cases h;exact⟨p,rfl,rfl⟩
theorem zcL {cs:List (Int×Int)}{i:Nat}{d:D}(h:(cs.map p2)[i]?=some d):∃ c,cs[i]?=some c/\d=p2 c:=by
 rw [qg] at h
 cases e:cs[i]? with
 | none=>rw [e] at h;cases h
 | some p=>rw [e] at h;cases h;exact⟨p,rfl,rfl⟩
theorem zae {α:Type}{xs:List α}{i:Nat}{x:α}(h:xs[i]?=some x):i<xs.length:=by
 rcases Nat.lt_or_ge i xs.length with g | g
 ·exact g
 ·rw [List.getElem?_eq_none g] at h;cases h
def zea:Option Int->D
 | none=>.non
 | some v=>.int v
theorem zsE {S G:Sto}{Q:DK}{xs:List D}(h:fc (.lst xs)=true)(q:New Q S xs):Fin S Q (.ref S.length) (S++Cell.lst xs::G) :=
 .inr ⟨S++[Cell.lst xs],⟨G,by simp⟩,by simp,.inr ⟨_,rfl,by simp⟩,(fun n c hn=>by
  rcases Nat.lt_or_ge n S.length with g | g
  ·rw [List.getElem?_append_left g] at hn;exact .inl hn
  ·have hl2:=zae hn
   rw [qe] at hl2
   have e:n=S.length:=by simp at hl2;omega
   subst e
   rw [qk (qf _),Nat.sub_self] at hn
   have:Cell.lst xs=c:=by simpa using hn
   subst this
   exact .inr h),q⟩
theorem zfX:∀ {xs:List D} {k i:Nat} {d:D},(zdc k xs)[i]?=some d->∃ x,xs[i]?=some x/\d=.tup [.int ((k+i:Nat):Int),x]
 | [],k,i,d,h=>by simp [zdc] at h
 | x::xs,k,0,d,h=>⟨x,rfl,by simpa [zdc] using h.symm⟩
 | x::xs,k,i+1,d,h=>by
  obtain⟨y,e1,e2⟩:=zfX (xs:=xs) (k:=k+1) (i:=i) (d:=d) (by simpa [zdc] using h)
  exact⟨y,by simpa using e1,by rw [e2,show k+1+i=k+(i+1) by omega]⟩
theorem zcZ:∀ (k:Nat) (xs:List D),(zdc k xs).length=xs.length
  | _,[]=>rfl
  | k,x::xs=>congrArg (· + 1) (zcZ (k+1) xs)
theorem zhc:∀ {xs ys:List D} {i:Nat} {d:D},(zcs xs ys)[i]?=some d->∃ x y,xs[i]?=some x/\ys[i]?=some y/\d=.tup [x,y]
 | [],ys,i,d,h=>by simp [zcs] at h
 | x::xs,[],i,d,h=>by simp [zcs] at h
 | x::xs,y::ys,0,d,h=>⟨x,y,rfl,rfl,by simpa [zcs] using h.symm⟩
 | x::xs,y::ys,i+1,d,h=>by
  obtain⟨a,b,e1,e2,e3⟩:=zhc (xs:=xs) (ys:=ys) (i:=i) (d:=d) (by simpa [zcs] using h)
  exact⟨a,b,by simpa using e1,by simpa using e2,e3⟩
theorem zeu:∀ (xs ys:List D),(zcs xs ys).length=min xs.length ys.length
 | [],ys=>by simp [zcs]
 | x::xs,[]=>by simp [zcs]
 | x::xs,y::ys=>by
  show (zcs xs ys).length+1=min (xs.length+1) (ys.length+1)
  rw [zeu xs ys];omega
theorem Hg.of {n:Nat}{x:Int}(h:My.Bd n x)(hn:n<=1048576):Hg x:=by
 unfold Hg;exact Nat.lt_of_lt_of_le h (Nat.pow_le_pow_right (by decide) hn)
def zfz:DSp:=fun ds S Q=>∃ ns:List Int,ds=[.rl (ns.map D.int)]/\(S=[]/\∀ n∈ns,Hg n)/\ns.length<=63/\∀ S',Q (.bl true) S'
theorem ztE:∀ ds So Q,zfz ds So Q->ds.length=1:=fun ds So Q ⟨ns,e,_⟩=>by rw [e];rfl
theorem zfj {α β:Type}(f:α->β)(xs:List α)(lo hi:Option Int):cutD (xs.map f) lo hi=(cutD xs lo hi).map f:=by
 unfold cutD
 rw [qa,List.map_take,List.map_drop]
theorem zid {α:Type}(xs:List α)(lo hi:Option Int):(cutD xs lo hi).length<=slD xs.length xs.length hi-slD xs.length 0 lo:=by
 unfold cutD
 rw [List.length_take];omega
def onI (f:Int->D):D->D
 | .int h=>f h
 | d=>d
def onB (p:Int->Bool):D->Bool
 | .int h=>p h
 | _=>false
theorem znt (p:Int->Bool)(hs:List Int):(hs.map D.int).filter (onB p)=(hs.filter p).map D.int:=by rw [List.filter_map];rfl
section
variable {nx:Rho->Sto->Prop}{rt:DK}{bk ct:Rho->Sto->Prop}{Z:Rho}{S:Sto}
theorem ztv {f:zep}{ex:XR}{t:DA}{Q:DK}(h:t Z S fun xs S1=>f xs S1 Q (ex Z)):zc4 f ex t Z S Q:=h
theorem ztu {ex:XR}{c:Str}(h:ex Z c S):zfC ex c ⟨nx,rt,bk,ct⟩ Z S:=h
end
theorem zwT {S:Sto}{Q:DK}{x y:D}{xs ys:List D}{b:Bool}(hx:Lst S x xs)(hy:Lst S y ys)(fx:xs.all (fl 20)=true)(fy:ys.all (fl 20)=true)(e:eqvAll xs ys=b)(q:Q (.bl (!b)) S):oNe x y S Q:=⟨_,.inr (.inl ⟨xs,ys,hx,hy,fx,fy,rfl⟩),by rw [e];exact q⟩
theorem ztL {S:Sto}{Q:DK}{x y:Str}{b:Bool}(fx:fl 20 (.str x)=true)(fy:fl 20 (.str y)=true)(e:(x==y)=b)(q:Q (.bl b) S):oEq (.str x) (.str y) S Q:=⟨_,.inl ⟨fx,fy,rfl⟩,by show Q (.bl (x==y)) S;rw [e];exact q⟩
section
variable {nx:Rho->Sto->Prop}{rt:DK}{bk ct:Rho->Sto->Prop}{Z:Rho}{S:Sto}{Q:DK}{td ti tz tv:DE}
end
section
variable {κ:Type}[DecidableEq κ]
end
theorem ziV (c:List Str)(z:Str):(zh0 c z).length=if c.any (·==z) then c.length else c.length+1:=by
  unfold zh0;split<;>simp
theorem zmC (c:List Str)(z y:Str):(zh0 c z).any (·==y)=(c.any (·==y)||decide (y=z)):=by
  unfold zh0
  by_cases h:c.any (·==z)=true
  . rw [if_pos h]
    by_cases e:y=z
    . subst e;rw [h];rfl
    . rw [decide_eq_false e,Bool.or_false]
  . rw [if_neg h,List.any_append]
    congr 1
    by_cases e:y=z
    . subst e;simp
    . rw [decide_eq_false e]
      have:(z==y)=false:=beq_eq_false_iff_ne.mpr fun q=>e q.symm
      simp [this]
theorem zj8 (f:Nat->Str):∀ i,(zc3 f i).length<=i
  | 0=>qf _
  | i+1=>by
    have:=zj8 f i
    show (zh0 (zc3 f i) (f i)).length<=i+1
    rw [ziV];split<;>omega
theorem zlk (f:Nat->Str)(y:Str):∀ i,((zc3 f i).any (·==y)=true↔∃ j,j<i/\f j=y)
  | 0=>⟨fun h=>(by simp [zc3] at h),fun⟨j,hj,_⟩=>(by omega)⟩
  | i+1=>by
    show ((zh0 (zc3 f i) (f i)).any (·==y)=true)↔_
    rw [zmC,Bool.or_eq_true,zlk f y i,decide_eq_true_eq]
    constructor
    . rintro (⟨j,hj,e⟩ | e)
      . exact⟨j,by omega,e⟩
      . exact⟨i,by omega,e.symm⟩
    . rintro⟨j,hj,e⟩
      rcases Nat.lt_or_ge j i with h | h
      . exact .inl ⟨j,h,e⟩
      . have:j=i:=by omega
        subst this;exact .inr e.symm
theorem zmA (f:Nat->Str):∀ i,(∀ a b,a<b->b<i->f a≠f b)->(zc3 f i).length=i
 | 0,_=>rfl
 | i+1,h=>by
  show (zh0 (zc3 f i) (f i)).length=i+1
  rw [ziV,zmA f i fun a b x y=>h a b x (by omega)]
  rw [if_neg]
  intro z
  obtain⟨j,hj,e⟩:=(zlk f (f i) i).mp z
  exact h j i hj (by omega) e
theorem zoT {zs:List Str}(h:zs.Nodup):zq0 zs=zs.length:=zmA _ _ fun a b hab hb=>by
 show zs.getD a Str.empty≠zs.getD b Str.empty
 rw [List.getD_eq_getElem?_getD,List.getD_eq_getElem?_getD,qb hb,qb (show a<zs.length by omega)]
 exact List.pairwise_iff_getElem.mp h a b (by omega) hb hab
end Dp
namespace Rm
structure Pc where
 lo:Int
 hi:Int
 to:Int
 st:Int
instance:DecidableEq Pc:=fun p q=>if h:p.lo=q.lo/\p.hi=q.hi/\p.to=q.to/\p.st=q.st then isTrue (by cases p;cases q;obtain⟨h1,h2,h3,h4⟩:=h;cases h1;cases h2;cases h3;cases h4;rfl) else isFalse (fun e=>h (by subst e;exact⟨rfl,rfl,rfl,rfl⟩))
def Pc.led (p:Pc)(h:Int):Int:=p.to+p.st*(h-p.lo)
def Pc.fin (p:Pc):Int:=p.led p.hi
def inP (p:Pc)(h:Int):Prop:=p.lo<=h/\h<=p.hi
instance (p:Pc) (h:Int):Decidable (inP p h):=by unfold inP;infer_instance
def at':List Pc->Int->Option Int
 | [],_=>none
 | p::r,h=>if inP p h then some (p.led h) else at' r h
end Rm
namespace Dp
open PySem Rm
open PySem Rm My
theorem ziC (cs:List (Int×Int)):fl 20 (.tup (cs.map p2))=true:=by
 show (cs.map p2).all (fl 19)=true
 rw [List.all_map,List.all_eq_true]
 intro p _;rfl
theorem zlO {xs:List D}{x:D}:ixD (xs++[x]).length (-1)=some xs.length:=by
 have hl:((xs++[x]).length:Int)=xs.length+1:=by simp
 unfold ixD
 rw [if_neg (by omega),if_pos (by omega)]
 congr 1;omega
theorem zfy {xs:List D}{x:D}:atD (xs++[x]) (-1)=some x:=by
 unfold atD
 rw [zlO]
 simp
end Dp
namespace Rm
open My Dp
def inS (h:Int)(c:Int×Int):Bool:=decide (c.1<=h)&&decide (h<=c.2)
def lec (c:Int×Int):Bool:=decide (c.1<=c.2)
structure zaA (cs:List (Int×Int)):Prop where
 le:∀ c∈cs,c.1<=c.2
 ap:cs.Pairwise fun a b=>a.2+2<=b.1
theorem zfh {h:Int}{c:Int×Int}:inS h c=true↔c.1<=h/\h<=c.2:=by unfold inS;simp
theorem zbS {h:Int}{cs:List (Int×Int)}:cs.any (inS h)=true↔∃ c∈cs,c.1<=h/\h<=c.2:=by
 rw [List.any_eq_true]
 constructor
 ·rintro⟨c,hc,g⟩;exact⟨c,hc,zfh.mp g⟩
 ·rintro⟨c,hc,g⟩;exact⟨c,hc,zfh.mpr g⟩
theorem zaA.nil:zaA []:=⟨fun c hc=>absurd hc (by simp),.nil⟩
theorem zaA.snoc {ms:List (Int×Int)}{c:Int×Int}(s:zaA ms)(hc:c.1<=c.2)(h:∀ m∈ms,m.2+2<=c.1):zaA (ms++[c]):=by
 refine⟨fun d hd=>?_,List.pairwise_append.mpr ⟨s.ap,List.pairwise_singleton _ _,fun a ha b hb=>?_⟩⟩
 ·rcases List.mem_append.mp hd with g | g
  ·exact s.le d g
  ·have:d=c:=by simpa using g
   subst this;exact hc
 ·have:b=c:=by simpa using hb
  subst this;exact h a ha
theorem zaA.init {ms:List (Int×Int)}{c:Int×Int}(s:zaA (ms++[c])):zaA ms/\c.1<=c.2/\∀ m∈ms,m.2+2<=c.1:=by
 obtain⟨h1,h2,h3⟩:=List.pairwise_append.mp s.ap
 exact⟨⟨fun d hd=>s.le d (List.mem_append_left _ hd),h1⟩,s.le c (by simp),fun m hm=>h3 m hm c (by simp)⟩
theorem zqZ {ms:List (Int×Int)}{l c:Int×Int}(s:zaA (ms++[l]))(hc:c.1<=c.2)(h1:l.1<=c.1)(h2:c.1<=l.2+1) :
  zaA (ms++[(l.1,max l.2 c.2)])/\∀ h,(ms++[(l.1,max l.2 c.2)]).any (inS h)=((ms++[l]).any (inS h)||inS h c):=by
 obtain⟨s0,hl,hm⟩:=s.init
 refine⟨s0.snoc (by show l.1<=max l.2 c.2;omega) hm,fun h=>?_⟩
 rw [List.any_append,List.any_append,Bool.or_assoc]
 congr 1
 rw [Bool.eq_iff_iff,Bool.or_eq_true]
 simp only [List.any_cons,List.any_nil,Bool.or_false,zfh]
 omega
theorem zvd {a b:Int×Int}(h:zjh b a=false):a.1<=b.1:=by
 unfold zjh at h
 rw [decide_eq_false_iff_not] at h
 omega
theorem any_filter (cs:List (Int×Int))(h:Int):(cs.filter fun c=>decide (c.1<=c.2)).any (inS h)=cs.any (inS h):=by
 rw [Bool.eq_iff_iff,zbS,zbS]
 constructor
 ·rintro⟨c,hc,g⟩;exact⟨c,(List.mem_filter.mp hc).1,g⟩
 ·rintro⟨c,hc,g⟩;exact⟨c,List.mem_filter.mpr ⟨hc,decide_eq_true (by omega)⟩,g⟩
theorem zrr {a b:List (Int×Int)}(p:a.Perm b)(h:Int):a.any (inS h)=b.any (inS h):=by
 rw [Bool.eq_iff_iff,zbS,zbS]
 constructor
 ·rintro⟨c,hc,g⟩;exact⟨c,p.mem_iff.mp hc,g⟩
 ·rintro⟨c,hc,g⟩;exact⟨c,p.mem_iff.mpr hc,g⟩
def zbh (a b:Int×Int):Int×Int:=(max a.1 b.1,min a.2 b.2)
def zaZ (as bs:List (Int×Int)):List (Int×Int):=as.flatMap fun a=>bs.map (zbh a)
theorem zn0 (as bs:List (Int×Int))(h:Int):(zaZ as bs).any (inS h)=(as.any (inS h)&&bs.any (inS h)):=by
  rw [Bool.eq_iff_iff,Bool.and_eq_true,zbS,zbS,zbS]
  unfold zaZ
  constructor
  . rintro⟨c,hc,g1,g2⟩
    obtain⟨a,ha,hm⟩:=List.mem_flatMap.mp hc
    obtain⟨b,hb,rfl⟩:=List.mem_map.mp hm
    unfold zbh at g1 g2
    dsimp only at g1 g2
    refine⟨⟨a,ha,?_⟩,⟨b,hb,?_⟩⟩<;>omega
  . rintro⟨⟨a,ha,g1,g2⟩,⟨b,hb,k1,k2⟩⟩
    refine⟨zbh a b,List.mem_flatMap.mpr ⟨a,ha,List.mem_map.mpr ⟨b,hb,rfl⟩⟩,?_⟩
    unfold zbh
    dsimp only
    constructor<;>omega
theorem zlJ {a b:Int×Int}(ha:a.1<=a.2)(hb:b.1<=b.2):(zbh a b).1<=(zbh a b).2↔b.1<=a.2/\a.1<=b.2:=by
 unfold zbh
 dsimp only
 omega
theorem znM {a:Int×Int}(ha:a.1<=a.2):∀ {bs:List (Int×Int)},zaA bs->((bs.map (zbh a)).filter fun c=>decide (c.1<=c.2)).length<=(bs.filter fun b=>decide (b.2<=a.2)).length+1
  | [],_=>by simp
  | b::bs,s=>by
    obtain⟨cb,pb⟩:=List.pairwise_cons.mp s.ap
    have hb:=s.le b (by simp)
    have s':zaA bs:=⟨fun x hx=>s.le x (by simp [hx]),pb⟩
    have ih:=znM ha s'
    rw [List.map_cons]
    by_cases h1:b.2<=a.2
    . rw [List.filter_cons_of_pos (p:=fun b:Int×Int=>decide (b.2<=a.2)) (decide_eq_true h1)]
      have:(((zbh a b)::bs.map (zbh a)).filter fun c=>decide (c.1<=c.2)).length<=((bs.map (zbh a)).filter fun c=>decide (c.1<=c.2)).length+1:=by
        rw [List.filter_cons];split<;>simp
      simp only [List.length_cons]
      omega
    . have none : (bs.map (zbh a)).filter (fun c => decide (c.1 ≤ c.2)) = [] := by
        rw [List.filter_eq_nil_iff]
        intro c hc
        obtain⟨x,hx,rfl⟩:=List.mem_map.mp hc
        have:=cb x hx
        have hx2:=s'.le x hx
        rw [decide_eq_true_eq,zlJ ha hx2]
        omega
      rw [List.filter_cons,none]
      split<;>simp
theorem zl4:∀ {as bs:List (Int×Int)},zaA as->zaA bs->((zaZ as bs).filter fun c=>decide (c.1<=c.2)).length<=as.length+bs.length
 | [],bs,_,_=>by simp [zaZ]
 | a::as,bs,sa,sb=>by
  obtain⟨ca,pa⟩:=List.pairwise_cons.mp sa.ap
  have ha:=sa.le a (by simp)
  have sa':zaA as:=⟨fun x hx=>sa.le x (by simp [hx]),pa⟩
  have sb2:zaA (bs.filter fun b=>!decide (b.2<=a.2)):=⟨fun x hx=>sb.le x (List.mem_filter.mp hx).1,sb.ap.filter _⟩
  have ih:=zl4 sa' sb2
  have one:=znM ha sb
  have same:((zaZ as bs).filter fun c=>decide (c.1<=c.2)).length=((zaZ as (bs.filter fun b=>!decide (b.2<=a.2))).filter fun c=>decide (c.1<=c.2)).length:=by
   clear ih one
   induction as with
   | nil=>rfl
   | cons d ds ihd =>
    have hd:a.2+2<=d.1:=ca d (by simp)
    have hd2:=sa.le d (by simp)
    unfold zaZ at ihd ⊢
    rw [List.flatMap_cons,List.flatMap_cons,List.filter_append,List.filter_append,qe,qe]
    have e1:((bs.map (zbh d)).filter fun c=>decide (c.1<=c.2)).length=(((bs.filter fun b=>!decide (b.2<=a.2)).map (zbh d)).filter fun c=>decide (c.1<=c.2)).length:=by
     have hle:=sb.le
     clear ihd sb sb2
     induction bs with
     | nil=>rfl
     | cons b bs ihb =>
      have ih':=ihb fun x hx=>hle x (by simp [hx])
      have hb:=hle b (by simp)
      by_cases h1:b.2<=a.2
      ·rw [List.filter_cons_of_neg (p:=fun b:Int×Int=>!decide (b.2<=a.2)) (by simp [h1]),List.map_cons,List.filter_cons_of_neg (by rw [decide_eq_true_eq,zlJ hd2 hb];omega)]
       exact ih'
      ·rw [List.filter_cons_of_pos (p:=fun b:Int×Int=>!decide (b.2<=a.2)) (by simp [h1]),List.map_cons,List.map_cons,List.filter_cons,List.filter_cons]
       split
       ·simp only [List.length_cons];omega
       ·exact ih'
    have pa2:=List.pairwise_cons.mp (List.pairwise_cons.mp sa.ap).2
    have sd:zaA (a::ds):=⟨fun x hx=>by
     rcases qh.mp hx with rfl | hx
     ·exact ha
     ·exact sa.le x (by simp [hx]),List.pairwise_cons.mpr ⟨fun x hx=>ca x (by simp [hx]),pa2.2⟩⟩
    have e2:=ihd sd (fun x hx=>ca x (by simp [hx])) pa2.2 ⟨fun x hx=>sd.le x (by simp [hx]),pa2.2⟩
    rw [e1,e2]
  have split2:bs.length=(bs.filter fun b=>decide (b.2<=a.2)).length+(bs.filter fun b=>!decide (b.2<=a.2)).length:=by
   clear ih one same sb sb2
   induction bs with
   | nil=>rfl
   | cons b bs ihb =>
    rw [List.filter_cons,List.filter_cons]
    by_cases h1:b.2<=a.2
    ·simp [h1];omega
    ·simp [h1];omega
  unfold zaZ at same ih ⊢
  rw [List.flatMap_cons,List.filter_append,qe,same]
  simp only [List.length_cons]
  omega
end Rm
namespace Dp
open PySem Rm My
def on2 (f:Int×Int->D):D->D
 | .tup [.int a,.int b]=>f (a,b)
 | d=>d
def zuM (p:Int×Int->Bool):D->Bool
 | .tup [.int a,.int b]=>p (a,b)
 | _=>false
theorem znV (f:Int×Int->D)(cs:List (Int×Int)):(cs.map p2).map (on2 f)=cs.map f:=by rw [List.map_map];rfl
theorem zrM (p:Int×Int->Bool)(cs:List (Int×Int)):(cs.map p2).filter (zuM p)=(cs.filter p).map p2:=by rw [List.filter_map];rfl
theorem zua {S:Sto}{x:D}{xs:List D}{R:DIt->Sto->Prop}(h:zer S x xs)(q:∀ ok:Sto->Prop,(∀ T,ok (S++T))->R ⟨xs,ok⟩ S):zin x S R:=by
 rcases h with rfl | h
 ·exact .inl ⟨xs,rfl,q _ fun _=>True.intro⟩
 ·exact .inr (.inl ⟨xs,h,q _ fun T=>h.old⟩)
theorem zer.old {S T:Sto}{x:D}{xs:List D}(h:zer S x xs):zer (S++T) x xs:=h.imp id Lst.old
theorem zjV (as bs:List (Int×Int)):(zaZ as bs).length=as.length*bs.length:=by
 unfold zaZ
 induction as with
 | nil=>simp
 | cons a as ih=>rw [List.flatMap_cons,qe,ih,qa,List.length_cons,Nat.succ_mul,Nat.add_comm]
theorem zng {as bs:List (Int×Int)}{i:Nat}{a:Int×Int}(h:as[i]?=some a):zaZ (as.take (i+1)) bs=zaZ (as.take i) bs++bs.map (zbh a):=by
 unfold zaZ
 rw [zat h,List.flatMap_append];simp
def zaJ:Int->List (Int×Int)->List (Int×Int)×Int
 | st,[]=>([],st)
 | st,c::cs=>((st,c.1-1)::(zaJ (c.2+1) cs).1,(zaJ (c.2+1) cs).2)
theorem zeQ:∀ (st:Int) (cs:List (Int×Int)),(zaJ st cs).1.length=cs.length
 | _,[]=>rfl
 | st,c::cs=>by show ((zaJ (c.2+1) cs).1.length+1)=_;rw [zeQ];rfl
theorem zgV:∀ (st:Int) (cs:List (Int×Int)) (c:Int×Int),zaJ st (cs++[c])=((zaJ st cs).1++[((zaJ st cs).2,c.1-1)],c.2+1)
 | st,[],c=>rfl
 | st,d::cs,c=>by
  show ((st,d.1-1)::(zaJ (d.2+1) (cs++[c])).1,(zaJ (d.2+1) (cs++[c])).2)=_
  rw [zgV];rfl
theorem zlY {hi h:Int}(hh:h<=hi):∀ (st:Int) {cs:List (Int×Int)},zaA cs->st<=h->(∀ c∈cs,c.2<=h->True)->(((zaJ st cs).1++[((zaJ st cs).2,hi)]).any (inS h)=true↔¬ ∃ c∈cs,c.1<=h/\h<=c.2)
  | st,[],_,hs,_=>by
    simp [zaJ,zfh,hs,hh]
  | st,c::cs,s,hs,_=>by
    obtain⟨cb,pb⟩:=List.pairwise_cons.mp s.ap
    have hc:=s.le c (by simp)
    have s':zaA cs:=⟨fun x hx=>s.le x (by simp [hx]),pb⟩
    show (((st,c.1-1)::((zaJ (c.2+1) cs).1++[((zaJ (c.2+1) cs).2,hi)])).any (inS h)=true↔_)
    rw [List.any_cons,Bool.or_eq_true,zfh]
    rcases (by omega:h<c.1\/(c.1<=h/\h<=c.2)\/c.2<h) with g | g | g
    . constructor
      . rintro-⟨x,hx,k1,k2⟩
        rcases qh.mp hx with rfl | hx
        . omega
        . have:=cb x hx;omega
      . intro _
        exact .inl ⟨hs,by show h<=c.1-1;omega⟩
    . constructor
      . intro z
        exfalso
        rcases z with ⟨_,z⟩ | z
        . have:h<=c.1-1:=z
          omega
        . obtain⟨x,hx,k1,k2⟩:=zbS.mp z
          have low:∀ (st:Int) (cs:List (Int×Int)),zaA cs->(∀ d∈cs,st<=d.1)->∀ x∈(zaJ st cs).1++[((zaJ st cs).2,hi)],st<=x.1:=by
            intro st cs
            induction cs generalizing st with
            | nil => intro _ _ x hx; have : x = (st, hi) := by simpa [zaJ] using hx
                     subst this;exact Int.le_refl _
            | cons d ds ih =>
              intro sd hd x hx
              obtain⟨c2,p2⟩:=List.pairwise_cons.mp sd.ap
              have hd1:=hd d (by simp)
              have hd2:=sd.le d (by simp)
              have hx:x∈(st,d.1-1)::((zaJ (d.2+1) ds).1++[((zaJ (d.2+1) ds).2,hi)]):=hx
              rcases qh.mp hx with rfl | hx
              . exact Int.le_refl _
              . have:=ih (d.2+1) ⟨fun y hy=>sd.le y (by simp [hy]),p2⟩ (fun y hy=>by have:=c2 y hy;omega) x hx
                omega
          have:=low (c.2+1) cs s' (fun d hd=>by have:=cb d hd;omega) x hx
          omega
      . intro z
        exact absurd ⟨c,by simp,g.1,g.2⟩ z
    . have ih:=zlY hh (c.2+1) s' (by omega) (fun _ _ _=>trivial)
      constructor
      . rintro z ⟨x,hx,k1,k2⟩
        rcases qh.mp hx with rfl | hx
        . omega
        . rcases z with ⟨_,z⟩ | z
          . have:h<=c.1-1:=z
            omega
          . exact ih.mp z ⟨x,hx,k1,k2⟩
      . intro z
        exact .inr (ih.mpr fun⟨x,hx,k⟩=>z ⟨x,by simp [hx],k⟩)
end Dp
namespace Rm
open My Dp
def acr (L R B T x1 z1 x2 z2:Int):List Int :=
 [(x2-x1)*(B-z1)-(z2-z1)*(L-x1),(x2-x1)*(T-z1)-(z2-z1)*(L-x1),(x2-x1)*(B-z1)-(z2-z1)*(R-x1),(x2-x1)*(T-z1)-(z2-z1)*(R-x1)]
def zet (L R B T x1 z1 x2 z2:Int):Prop :=
 L<=(max x1 x2)/\(min x1 x2)<=R/\B<=(max z1 z2)/\(min z1 z2)<=T/\(∃ a∈acr L R B T x1 z1 x2 z2,0<=a)/\∃ a∈acr L R B T x1 z1 x2 z2,a<=0
def zfe (lo hi st sp e1 e2 x1 x2:Int):Prop :=
 (sp=0/\lo<=st/\st<=hi/\e1=0/\e2=1/\x1=1/\x2=1)\/(sp=0/\(st<lo\/hi<st)/\e1=1/\e2=1/\x1=0/\x2=1) \/
 (0<sp/\e1=lo-st/\e2=sp/\x1=hi-st/\x2=sp)\/(sp<0/\e1=st-hi/\e2=-sp/\x1=st-lo/\x2=-sp)
def zix (ea1 ea2 xa1 xa2 eu1 eu2 xu1 xu2:Int):Prop:=∀ e∈[((0:Int),(1:Int)),(ea1,ea2),(eu1,eu2)],∀ x∈[((1:Int),(1:Int)),(xa1,xa2),(xu1,xu2)],e.1*x.2<=x.1*e.2
theorem zcT {u a b:Int}(h:0<=u)(h':a<=b):u*a<=u*b:=Int.mul_le_mul_of_nonneg_left h' h
theorem zrP {p r P R:Int}{L x:Int}:(∃ a∈[P-L,R-L,P-x,R-x],p<=a)↔(p<=P-L\/p<=R-L\/p<=P-x\/p<=R-x):=by simp
theorem zpq {p P R:Int}{L x:Int}:(∃ a∈[P-L,R-L,P-x,R-x],a<=p)↔(P-L<=p\/R-L<=p\/P-x<=p\/R-x<=p):=by simp
theorem zcO {ea1 ea2 xa1 xa2 eu1 eu2 xu1 xu2:Int}:zix ea1 ea2 xa1 xa2 eu1 eu2 xu1 xu2 ↔
  (0<=xa1/\0<=xu1)/\(ea1<=ea2/\ea1*xa2<=xa1*ea2/\ea1*xu2<=xu1*ea2)/\(eu1<=eu2/\eu1*xa2<=xa1*eu2/\eu1*xu2<=xu1*eu2):=by
 unfold zix
 simp
def zlg (lo hi st sp e1 e2 x1 x2:Int):Prop :=
 (sp=0/\lo<=st/\st<=hi/\e1=0/\e2=1/\x1=1/\x2=1)\/(sp=0/\(st<lo\/hi<st)/\e1=1/\e2=1/\x1=0/\x2=1)\/(0<sp/\e1=lo-st/\e2=sp/\x1=hi-st/\x2=sp)
theorem zmc {lo hi st s t e1 e2 x1 x2:Int}(h:zfe lo hi st (t-s) e1 e2 x1 x2):zlg lo hi st (t-s) e1 e2 x1 x2\/zlg (-hi) (-lo) (-st) (-t - -s) e1 e2 x1 x2:=by
 rcases h with h | h | h | ⟨h,rfl,rfl,rfl,rfl⟩
 ·exact .inl (.inl h)
 ·exact .inl (.inr (.inl h))
 ·exact .inl (.inr (.inr h))
 ·exact .inr (.inr (.inr ⟨by omega,by omega,by omega,by omega,by omega⟩))
theorem zmG {as bs:List Int}(h:∀ a,a∈bs↔-a∈as):((∃ a∈bs,0<=a)↔∃ a∈as,a<=0)/\((∃ a∈bs,a<=0)↔∃ a∈as,0<=a):=by
  have back:∀ a,a∈as->-a∈bs:=fun a ha=>(h (-a)).mpr (by rw [Int.neg_neg];exact ha)
  refine⟨⟨?_,?_⟩,?_,?_⟩<;>rintro⟨a,ha,h0⟩
  . exact⟨-a,(h a).mp ha,by omega⟩
  . exact⟨-a,back a ha,by omega⟩
  . exact⟨-a,(h a).mp ha,by omega⟩
  . exact⟨-a,back a ha,by omega⟩
theorem zra {a p q r t:Int}:a∈[-p,-q,-r,-t]↔-a∈[r,t,p,q]:=by
 have e:∀ x,a=-x↔-a=x:=fun x=>⟨fun h=>by rw [h,Int.neg_neg],fun h=>by rw [<- h,Int.neg_neg]⟩
 simp only [qh,List.not_mem_nil,or_false,e]
 exact⟨fun h=>h.elim (fun h=>.inr (.inr (.inl h))) (fun h=>h.elim (fun h=>.inr (.inr (.inr h))) (fun h=>h.elim .inl (fun h=>.inr (.inl h)))),fun h=>h.elim (fun h=>.inr (.inr (.inl h))) (fun h=>h.elim (fun h=>.inr (.inr (.inr h))) (fun h=>h.elim .inl (fun h=>.inr (.inl h))))⟩
theorem zxv (a b c d e:Int):(-a - -b)*c-d*(-e - -b)=-((a-b)*c-d*(e-b)):=by
 rw [show -a - -b=-(a-b) by omega,show -e - -b=-(e-b) by omega,Int.neg_mul,Int.mul_neg];omega
theorem zxS (a b c d e:Int):c*(-a - -b)-(-d - -b)*e=-(c*(a-b)-(d-b)*e):=by
 rw [show -a - -b=-(a-b) by omega,show -d - -b=-(d-b) by omega,Int.neg_mul,Int.mul_neg];omega
theorem zlH (a b:Int):max (-a) (-b)=-(min a b):=by omega
theorem zlU (a b:Int):min (-a) (-b)=-(max a b):=by omega
theorem zkR {L R B T x1 z1 x2 z2:Int}:zet (-R) (-L) B T (-x1) z1 (-x2) z2↔zet L R B T x1 z1 x2 z2:=by
 have e:acr (-R) (-L) B T (-x1) z1 (-x2) z2=[-((x2-x1)*(B-z1)-(z2-z1)*(R-x1)),-((x2-x1)*(T-z1)-(z2-z1)*(R-x1)),-((x2-x1)*(B-z1)-(z2-z1)*(L-x1)),-((x2-x1)*(T-z1)-(z2-z1)*(L-x1))]:=by
  unfold acr
  simp only [zxv]
 have k:=zmG (as:=acr L R B T x1 z1 x2 z2) (bs:=acr (-R) (-L) B T (-x1) z1 (-x2) z2) (fun a=>by rw [e];exact zra)
 unfold zet
 rw [k.1,k.2,zlH,zlU]
 generalize max x1 x2=a1
 generalize min x1 x2=a2
 generalize (∃ a∈acr L R B T x1 z1 x2 z2,0<=a)=P
 generalize (∃ a∈acr L R B T x1 z1 x2 z2,a<=0)=Q
 constructor
 ·rintro⟨h1,h2,h3,h4,h5,h6⟩;exact⟨by omega,by omega,h3,h4,h6,h5⟩
 ·rintro⟨h1,h2,h3,h4,h5,h6⟩;exact⟨by omega,by omega,h3,h4,h6,h5⟩
theorem zpV {a p q r t:Int}:a∈[-p,-q,-r,-t]↔-a∈[q,p,t,r]:=by
 have e:∀ x,a=-x↔-a=x:=fun x=>⟨fun h=>by rw [h,Int.neg_neg],fun h=>by rw [<- h,Int.neg_neg]⟩
 simp only [qh,List.not_mem_nil,or_false,e]
 exact⟨fun h=>h.elim (fun h=>.inr (.inl h)) (fun h=>h.elim .inl (fun h=>h.elim (fun h=>.inr (.inr (.inr h))) (fun h=>.inr (.inr (.inl h))))),fun h=>h.elim (fun h=>.inr (.inl h)) (fun h=>h.elim .inl (fun h=>h.elim (fun h=>.inr (.inr (.inr h))) (fun h=>.inr (.inr (.inl h)))))⟩
theorem zkA {L R B T x1 z1 x2 z2:Int}:zet L R (-T) (-B) x1 (-z1) x2 (-z2)↔zet L R B T x1 z1 x2 z2:=by
 have e:acr L R (-T) (-B) x1 (-z1) x2 (-z2)=[-((x2-x1)*(T-z1)-(z2-z1)*(L-x1)),-((x2-x1)*(B-z1)-(z2-z1)*(L-x1)),-((x2-x1)*(T-z1)-(z2-z1)*(R-x1)),-((x2-x1)*(B-z1)-(z2-z1)*(R-x1))]:=by
  unfold acr
  simp only [zxS]
 have k:=zmG (as:=acr L R B T x1 z1 x2 z2) (bs:=acr L R (-T) (-B) x1 (-z1) x2 (-z2)) (fun a=>by rw [e];exact zpV)
 unfold zet
 rw [k.1,k.2,zlH,zlU]
 generalize max z1 z2=a1
 generalize min z1 z2=a2
 generalize (∃ a∈acr L R B T x1 z1 x2 z2,0<=a)=P
 generalize (∃ a∈acr L R B T x1 z1 x2 z2,a<=0)=Q
 constructor
 ·rintro⟨h1,h2,h3,h4,h5,h6⟩;exact⟨h1,h2,by omega,by omega,h6,h5⟩
 ·rintro⟨h1,h2,h3,h4,h5,h6⟩;exact⟨h1,h2,by omega,by omega,h6,h5⟩
theorem zs5 {P Q p q:Int}(h:P<=Q)(g:p<=q):(0<=P-p\/0<=Q-p\/0<=P-q\/0<=Q-q)↔p<=Q:=⟨fun k=>by rcases k with k | k | k | k<;>omega,fun k=>.inr (.inl (by omega))⟩
theorem ztg {P Q p q:Int}(h:P<=Q)(g:p<=q):(P-p<=0\/Q-p<=0\/P-q<=0\/Q-q<=0)↔P<=q:=⟨fun k=>by rcases k with k | k | k | k<;>omega,fun k=>.inr (.inr (.inl (by omega)))⟩
theorem zhb {L R B T x1 z1 x2 z2 ea1 ea2 xa1 xa2 eu1 eu2 xu1 xu2:Int}(hx:L<=R)(hz:B<=T)(pa:zlg L R x1 (x2-x1) ea1 ea2 xa1 xa2)(pu:zlg B T z1 (z2-z1) eu1 eu2 xu1 xu2) :
    zix ea1 ea2 xa1 xa2 eu1 eu2 xu1 xu2↔zet L R B T x1 z1 x2 z2:=by
  have u0:0<=x2-x1:=by rcases pa with h | h | h<;>omega
  have v0:0<=z2-z1:=by rcases pu with h | h | h<;>omega
  rw [zcO]
  unfold zet acr
  rw [zrP (r:=0),zpq,show max x1 x2=x1+(x2-x1) by omega,show min x1 x2=x1 by omega,show max z1 z2=z1+(z2-z1) by omega,show min z1 z2=z1 by omega]
  generalize x2-x1=u at *
  generalize z2-z1=v at *
  have k1:=zcT u0 (show B-z1<=T-z1 by omega)
  have k2:=zcT v0 (show L-x1<=R-x1 by omega)
  rw [zs5 k1 k2,ztg k1 k2]
  have c1:∀ s t:Int,(s-x1)*t=t*(s-x1):=fun s t=>Int.mul_comm _ _
  have c3:∀ s t:Int,(s-z1)*t=t*(s-z1):=fun s t=>Int.mul_comm _ _
  have k5:B<=z1->u*(B-z1)<=0:=fun h=>by have:=zcT u0 (show B-z1<=0 by omega);rwa [Int.mul_zero] at this
  have k6:z1<=T->0<=u*(T-z1):=fun h=>by have:=zcT u0 (show 0<=T-z1 by omega);rwa [Int.mul_zero] at this
  have k8:=zcT v0 (show B-z1<=T-z1 by omega)
  rcases pa with ⟨hu,h1,h2,rfl,rfl,rfl,rfl⟩ | ⟨hu,h1,rfl,rfl,rfl,rfl⟩ | ⟨hu,rfl,rfl,rfl,rfl⟩
  . clear k5 k6
    subst hu
    have k3:=zcT v0 (show L-x1<=0 by omega)
    have k4:=zcT v0 (show 0<=R-x1 by omega)
    rcases pu with ⟨hv,g1,g2,rfl,rfl,rfl,rfl⟩ | ⟨hv,g1,rfl,rfl,rfl,rfl⟩ | ⟨hv,rfl,rfl,rfl,rfl⟩ <;>
    simp only [c3,Int.zero_mul,Int.mul_zero,Int.one_mul,Int.mul_one] at *<;>omega
  . simp only [Int.one_mul,Int.mul_one]
    omega
  . have k7:=zcT u0 (show L-x1<=R-x1 by omega)
    rcases pu with ⟨hv,g1,g2,rfl,rfl,rfl,rfl⟩ | ⟨hv,g1,rfl,rfl,rfl,rfl⟩ | ⟨hv,rfl,rfl,rfl,rfl⟩
    . subst hv
      have k5:=k5 g1
      have k6:=k6 g2
      simp only [c1,c3,Int.zero_mul,Int.mul_zero,Int.one_mul,Int.mul_one] at *
      omega
    . simp only [Int.one_mul,Int.mul_one]
      omega
    . simp only [c1,c3]
      exact⟨fun⟨⟨a,b⟩,⟨c,_,d⟩,e,f,_⟩=>⟨by omega,by omega,by omega,by omega,d,f⟩,fun⟨a,b,c,d,e,f⟩=>⟨⟨by omega,by omega⟩,⟨by omega,k7,e⟩,by omega,f,k8⟩⟩
theorem zfw {L R B T x1 z1 x2 z2 ea1 ea2 xa1 xa2 eu1 eu2 xu1 xu2:Int}(hx:L<=R)(hz:B<=T)(pa:zfe L R x1 (x2-x1) ea1 ea2 xa1 xa2)(pu:zfe B T z1 (z2-z1) eu1 eu2 xu1 xu2) :
    zix ea1 ea2 xa1 xa2 eu1 eu2 xu1 xu2↔zet L R B T x1 z1 x2 z2:=by
  rcases zmc pa with pa | pa<;>rcases zmc pu with pu | pu
  . exact zhb hx hz pa pu
  . rw [<- zkA];exact zhb hx (by omega) pa pu
  . rw [<- zkR];exact zhb (by omega) hz pa pu
  . rw [<- zkR,<- zkA];exact zhb (by omega) (by omega) pa pu
theorem zlL (L R B T x1 z1 x2 z2 g s k:Int):acr (L+g*k) (R+g*k) (B+s*k) (T+s*k) x1 z1 x2 z2=(acr L R B T x1 z1 x2 z2).map fun a=>a+k*((x2-x1)*s-(z2-z1)*g):=by
  unfold acr
  simp only [List.map_cons,List.map_nil,List.cons.injEq,and_true]
  refine⟨?_,?_,?_,?_⟩<;>grind
theorem zrS {as:List Int}{m m' d:Int}(h1:m∈as)(h2:∀ a∈as,a<=m)(h3:m'∈as.map fun a=>a+d)(h4:∀ a∈as.map (fun a=>a+d),a<=m'):m'=m+d:=by
 obtain⟨b,hb,rfl⟩:=List.mem_map.mp h3
 have e1:=h2 b hb
 have e2:=h4 (m+d) (List.mem_map.mpr ⟨m,h1,rfl⟩)
 omega
theorem zrW {as:List Int}{m m' d:Int}(h1:m∈as)(h2:∀ a∈as,m<=a)(h3:m'∈as.map fun a=>a+d)(h4:∀ a∈as.map (fun a=>a+d),m'<=a):m'=m+d:=by
 obtain⟨b,hb,rfl⟩:=List.mem_map.mp h3
 have e1:=h2 b hb
 have e2:=h4 (m+d) (List.mem_map.mpr ⟨m,h1,rfl⟩)
 omega
def six (L R B T x1 z1 x2 z2 mx mn:Int):List Int:=[(max x1 x2)-L,R-(min x1 x2),(max z1 z2)-B,T-(min z1 z2),mx,-mn]
theorem zqp {L R B T x1 z1 x2 z2 g s mx mn mx' mn' k:Int}(m1:mx∈acr (L+g*0) (R+g*0) (B+s*0) (T+s*0) x1 z1 x2 z2)(m2:∀ a∈acr (L+g*0) (R+g*0) (B+s*0) (T+s*0) x1 z1 x2 z2,a<=mx)
    (n1:mn∈acr (L+g*0) (R+g*0) (B+s*0) (T+s*0) x1 z1 x2 z2) (n2:∀ a∈acr (L+g*0) (R+g*0) (B+s*0) (T+s*0) x1 z1 x2 z2,mn<=a)
    (m1':mx'∈acr (L+g*1) (R+g*1) (B+s*1) (T+s*1) x1 z1 x2 z2) (m2':∀ a∈acr (L+g*1) (R+g*1) (B+s*1) (T+s*1) x1 z1 x2 z2,a<=mx')
    (n1':mn'∈acr (L+g*1) (R+g*1) (B+s*1) (T+s*1) x1 z1 x2 z2) (n2':∀ a∈acr (L+g*1) (R+g*1) (B+s*1) (T+s*1) x1 z1 x2 z2,mn'<=a) :
    (∀ i,i<6->0<=(six (L+g*0) (R+g*0) (B+s*0) (T+s*0) x1 z1 x2 z2 mx mn).getD i 0+k*((six (L+g*1) (R+g*1) (B+s*1) (T+s*1) x1 z1 x2 z2 mx' mn').getD i 0-(six (L+g*0) (R+g*0) (B+s*0) (T+s*0) x1 z1 x2 z2 mx mn).getD i 0)) ↔
    zet (L+g*k) (R+g*k) (B+s*k) (T+s*k) x1 z1 x2 z2:=by
  rw [zlL] at m1 m2 n1 n2 m1' m2' n1' n2'
  have id0:(acr L R B T x1 z1 x2 z2).map (fun a=>a+0*((x2-x1)*s-(z2-z1)*g))=acr L R B T x1 z1 x2 z2:=by
    simp
  rw [id0] at m1 m2 n1 n2
  rw [show (fun a:Int=>a+1*((x2-x1)*s-(z2-z1)*g))=fun a=>a+((x2-x1)*s-(z2-z1)*g) by funext a;rw [Int.one_mul]] at m1' m2' n1' n2'
  have e1:=zrS m1 m2 m1' m2'
  have e2:=zrW n1 n2 n1' n2'
  unfold zet
  rw [zlL]
  generalize (x2-x1)*s-(z2-z1)*g=d at *
  have f1:(∃ a∈(acr L R B T x1 z1 x2 z2).map (fun a=>a+k*d),0<=a)↔0<=mx+k*d:=by
    constructor
    . rintro⟨a,ha,h⟩
      obtain⟨b,hb,rfl⟩:=List.mem_map.mp ha
      have:=m2 b hb
      omega
    . intro h
      exact⟨_,List.mem_map.mpr ⟨mx,m1,rfl⟩,h⟩
  have f2:(∃ a∈(acr L R B T x1 z1 x2 z2).map (fun a=>a+k*d),a<=0)↔mn+k*d<=0:=by
    constructor
    . rintro⟨a,ha,h⟩
      obtain⟨b,hb,rfl⟩:=List.mem_map.mp ha
      have:=n2 b hb
      omega
    . intro h
      exact⟨_,List.mem_map.mpr ⟨mn,n1,rfl⟩,h⟩
  rw [f1,f2]
  subst e1 e2
  unfold six
  generalize (max x1 x2)=q1
  generalize (min x1 x2)=q2
  generalize (max z1 z2)=q3
  generalize (min z1 z2)=q4
  have h0:k*(q1-(L+g*1)-(q1-(L+g*0)))=-(g*k):=by grind
  have h1:k*(R+g*1-q2-(R+g*0-q2))=g*k:=by grind
  have h2:k*(q3-(B+s*1)-(q3-(B+s*0)))=-(s*k):=by grind
  have h3:k*(T+s*1-q4-(T+s*0-q4))=s*k:=by grind
  have h4:k*(mx+d-mx)=k*d:=by grind
  have h5:k*(-(mn+d) - -mn)=-(k*d):=by grind
  constructor
  . intro h
    have a0:=h 0 (by decide)
    have a1:=h 1 (by decide)
    have a2:=h 2 (by decide)
    have a3:=h 3 (by decide)
    have a4:=h 4 (by decide)
    have a5:=h 5 (by decide)
    simp only [List.getD_cons_zero,List.getD_cons_succ] at a0 a1 a2 a3 a4 a5
    rw [h0] at a0
    rw [h1] at a1
    rw [h2] at a2
    rw [h3] at a3
    rw [h4] at a4
    rw [h5] at a5
    refine⟨?_,?_,?_,?_,?_,?_⟩<;>omega
  . rintro⟨a0,a1,a2,a3,a4,a5⟩ i hi
    match i,hi with
    | 0,_=>simp only [List.getD_cons_zero,List.getD_cons_succ];rw [h0];omega
    | 1,_=>simp only [List.getD_cons_zero,List.getD_cons_succ];rw [h1];omega
    | 2,_=>simp only [List.getD_cons_zero,List.getD_cons_succ];rw [h2];omega
    | 3,_=>simp only [List.getD_cons_zero,List.getD_cons_succ];rw [h3];omega
    | 4,_=>simp only [List.getD_cons_zero,List.getD_cons_succ];rw [h4];omega
    | 5,_=>simp only [List.getD_cons_zero,List.getD_cons_succ];rw [h5];omega
theorem zty {S T k:Int}(h:0<T):-(S/T)<=k↔0<=S+k*T:=by
 have:-k<=S/T↔-k*T<=S:=Int.le_ediv_iff_mul_le h
 rw [Int.neg_mul] at this
 omega
theorem zqb {S T k:Int}(h:T<0):k<=S / -T↔0<=S+k*T:=by
 have:k<=S / -T↔k * -T<=S:=Int.le_ediv_iff_mul_le (by omega)
 rw [Int.mul_neg] at this
 omega
def Hit (L R B T x1 z1 x2 z2:Int):Prop:=∃ p q:Int,0<q/\0<=p/\p<=q/\L*q<=x1*q+p*(x2-x1)/\x1*q+p*(x2-x1)<=R*q/\B*q<=z1*q+p*(z2-z1)/\z1*q+p*(z2-z1)<=T*q
theorem mulL {k a b:Int}(h:0<=k)(g:a<=b):k*a<=k*b:=Int.mul_le_mul_of_nonneg_left g h
theorem zqX {k a b:Int}(h:0<k)(g:k*a<=k*b):a<=b:=Int.le_of_mul_le_mul_left g h
theorem ftr {a b c d e f:Int}(hb:0<=b)(hf:0<=f)(hd:0<d)(h1:a*d<=c*b)(h2:c*f<=e*d):a*f<=e*b:=by
 refine zqX hd ?_
 have k1:=mulL hf h1
 have k2:=mulL hb h2
 have e1:d*(a*f)=f*(a*d):=by grind
 have e2:f*(c*b)=b*(c*f):=by grind
 have e3:b*(e*d)=d*(e*b):=by grind
 omega
theorem fmax:∀ {l:List (Int×Int)},l≠[]->(∀ e∈l,0<e.2)->∃ e∈l,∀ f∈l,f.1*e.2<=e.1*f.2
 | [],h,_=>absurd rfl h
 | [x],_,_=>⟨x,by simp,fun f hf=>by simp at hf;subst hf;exact Int.le_refl _⟩
 | x::y::l,_,h=>by
  obtain⟨m,hm,g⟩:=fmax (l:=y::l) (by simp) fun e he=>h e (by simp [he])
  have hx:=h x (by simp)
  have hm2:=h m (by simp [hm])
  rcases Int.le_total (x.1*m.2) (m.1*x.2) with c | c
  ·refine⟨m,by simp [hm],fun f hf=>?_⟩
   rcases qh.mp hf with rfl | hf
   ·exact c
   ·exact g f hf
  ·refine⟨x,by simp,fun f hf=>?_⟩
   rcases qh.mp hf with rfl | hf
   ·exact Int.le_refl _
   ·exact ftr (Int.le_of_lt (h f (by simp [hf]))) (Int.le_of_lt hx) hm2 (g f hf) c
theorem znU (lo hi st sp:Int):∃ e1 e2 x1 x2,zfe lo hi st sp e1 e2 x1 x2/\0<e2/\0<x2:=by
 unfold zfe
 rcases Int.lt_trichotomy sp 0 with h | h | h
 ·exact⟨st-hi,-sp,st-lo,-sp,.inr (.inr (.inr ⟨h,rfl,rfl,rfl,rfl⟩)),by omega,by omega⟩
 ·by_cases g:lo<=st/\st<=hi
  ·exact⟨0,1,1,1,.inl ⟨h,g.1,g.2,rfl,rfl,rfl,rfl⟩,by omega,by omega⟩
  ·exact⟨1,1,0,1,.inr (.inl ⟨h,by omega,rfl,rfl,rfl,rfl⟩),by omega,by omega⟩
 ·exact⟨lo-st,sp,hi-st,sp,.inr (.inr (.inl ⟨h,rfl,rfl,rfl,rfl⟩)),h,h⟩
theorem znN {lo hi st sp e1 e2 x1 x2 p q:Int}(P:zfe lo hi st sp e1 e2 x1 x2)(hq:0<q)(h0:0<=p)(h1:p<=q)(h2:e1*q<=p*e2)(h3:p*x2<=x1*q):lo*q<=st*q+p*sp/\st*q+p*sp<=hi*q:=by
 rcases P with ⟨hu,g1,g2,rfl,rfl,rfl,rfl⟩ | ⟨hu,g1,rfl,rfl,rfl,rfl⟩ | ⟨hu,rfl,rfl,rfl,rfl⟩ | ⟨hu,rfl,rfl,rfl,rfl⟩
 ·subst hu
  have k1:=mulL (Int.le_of_lt hq) g1
  have k2:=mulL (Int.le_of_lt hq) g2
  rw [Int.mul_comm q,Int.mul_comm q] at k1 k2
  rw [Int.mul_zero];omega
 ·omega
 ·rw [Int.sub_mul] at h2 h3;omega
 ·rw [Int.sub_mul,Int.mul_neg] at h2 h3;omega
theorem zmD {lo hi st sp e1 e2 x1 x2 p q:Int}(P:zfe lo hi st sp e1 e2 x1 x2)(hq:0<q)(h0:0<=p)(h1:p<=q)(h2:lo*q<=st*q+p*sp)(h3:st*q+p*sp<=hi*q):e1*q<=p*e2/\p*x2<=x1*q:=by
 rcases P with ⟨hu,g1,g2,rfl,rfl,rfl,rfl⟩ | ⟨hu,g1,rfl,rfl,rfl,rfl⟩ | ⟨hu,rfl,rfl,rfl,rfl⟩ | ⟨hu,rfl,rfl,rfl,rfl⟩
 ·omega
 ·subst hu
  rw [Int.mul_zero,Int.add_zero,Int.mul_comm lo,Int.mul_comm st] at h2
  rw [Int.mul_zero,Int.add_zero,Int.mul_comm hi,Int.mul_comm st] at h3
  have k1:=zqX hq h2
  have k2:=zqX hq h3
  omega
 ·rw [Int.sub_mul,Int.sub_mul];omega
 ·rw [Int.sub_mul,Int.sub_mul,Int.mul_neg];omega
theorem zkn {L R B T x1 z1 x2 z2:Int}(hx:L<=R)(hz:B<=T):zet L R B T x1 z1 x2 z2↔Hit L R B T x1 z1 x2 z2:=by
  obtain⟨a1,a2,a3,a4,pa,ha2,ha4⟩:=znU L R x1 (x2-x1)
  obtain⟨u1,u2,u3,u4,pu,hu2,hu4⟩:=znU B T z1 (z2-z1)
  rw [<- zfw hx hz pa pu]
  constructor
  . intro h
    obtain⟨⟨p,q⟩,he,mx⟩:=fmax (l:=[((0:Int),(1:Int)),(a1,a2),(u1,u2)]) (by simp) (by
      intro e he
      simp only [qh,List.not_mem_nil,or_false] at he
      rcases he with rfl | rfl | rfl
      . exact Int.one_pos
      . exact ha2
      . exact hu2)
    have hq:0<q:=by
      simp only [qh,List.not_mem_nil,or_false,Prod.mk.injEq] at he
      rcases he with he | he | he<;>omega
    have m0:=mx (0,1) (by simp)
    have m1:=mx (a1,a2) (by simp)
    have m2:=mx (u1,u2) (by simp)
    have n0:=h _ he (1,1) (by simp)
    have n1:=h _ he (a3,a4) (by simp)
    have n2:=h _ he (u3,u4) (by simp)
    dsimp only at m0 m1 m2 n0 n1 n2
    have h0:0<=p:=by omega
    have h1:p<=q:=by omega
    obtain⟨k1,k2⟩:=znN pa hq h0 h1 m1 n1
    obtain⟨k3,k4⟩:=znN pu hq h0 h1 m2 n2
    exact⟨p,q,hq,h0,h1,k1,k2,k3,k4⟩
  . rintro⟨p,q,hq,h0,h1,k1,k2,k3,k4⟩
    obtain⟨g1,g2⟩:=zmD pa hq h0 h1 k1 k2
    obtain⟨g3,g4⟩:=zmD pu hq h0 h1 k3 k4
    intro e he x hx
    have ee:0<e.2/\e.1*q<=p*e.2:=by
      simp only [qh,List.not_mem_nil,or_false] at he
      rcases he with rfl | rfl | rfl
      . exact⟨Int.one_pos,by omega⟩
      . exact⟨ha2,g1⟩
      . exact⟨hu2,g3⟩
    have xx:0<x.2/\p*x.2<=x.1*q:=by
      simp only [qh,List.not_mem_nil,or_false] at hx
      rcases hx with rfl | rfl | rfl
      . exact⟨Int.one_pos,by omega⟩
      . exact⟨ha4,g2⟩
      . exact⟨hu4,g4⟩
    exact ftr (Int.le_of_lt ee.1) (Int.le_of_lt xx.1) hq ee.2 xx.2
end Rm
namespace Dp
open PySem Rm My
structure Fg where
 x0:Int
 x1:Int
 z0:Int
 z1:Int
 f:Int
 l:Int
 g:Int
 s:Int
abbrev fgD (F:Fg):D:=.tup [.int F.x0,.int F.x1,.int F.z0,.int F.z1,.int F.f,.int F.l,.int F.g,.int F.s]
structure FgB (F:Fg):Prop where
 x:F.x0<=F.x1
 z:F.z0<=F.z1
 b0:Bd 600 F.x0
 b1:Bd 600 F.x1
 b2:Bd 600 F.z0
 b3:Bd 600 F.z1
 bg:Bd 200 F.g
 bs:Bd 200 F.s
def zbT (F:Fg)(px pz qx qz h:Int):Prop:=F.f<=h/\h<=F.l/\Hit (F.x0+F.g*(h-F.f)) (F.x1+F.g*(h-F.f)) (F.z0+F.s*(h-F.f)) (F.z1+F.s*(h-F.f)) px pz qx qz
def zsi (ms:List (Int×Int))(F:Fg)(px pz qx qz:Int):Prop:=zaA ms/\ms.length<=1/\∀ h,ms.any (inS h)=true↔zbT F px pz qx qz h
theorem zjz {fs:List Fg}{i:Nat}{d:D}(h:(fs.map fgD)[i]?=some d):∃ F,fs[i]?=some F/\d=fgD F:=by
 rw [qg] at h
 cases e:fs[i]? with
 | none=>rw [e] at h;cases h
 | some p=>rw [e] at h;cases h;exact⟨p,rfl,rfl⟩
theorem Bd.btw {n:Nat}{a b x:Int}(ha:Bd n a)(hb:Bd n b)(h1:a<=x)(h2:x<=b):Bd n x:=by
 unfold Bd at *;omega
theorem Bd.max2 {n:Nat}{a b:Int}(ha:Bd n a)(hb:Bd n b):Bd n (max a b):=by
 rcases Int.le_total a b with h | h
 ·rw [Int.max_eq_right h];exact hb
 ·rw [Int.max_eq_left h];exact ha
theorem Bd.min2 {n:Nat}{a b:Int}(ha:Bd n a)(hb:Bd n b):Bd n (min a b):=by
 rcases Int.le_total a b with h | h
 ·rw [Int.min_eq_left h];exact ha
 ·rw [Int.min_eq_right h];exact hb
theorem zqc {L R B T x1 z1 x2 z2 mx mn:Int}(bL:Bd 700 L)(bR:Bd 700 R)(bB:Bd 700 B)(bT:Bd 700 T)(b1:Bd 700 x1)(b2:Bd 700 z1)(b3:Bd 700 x2)(b4:Bd 700 z2)(m1:mx∈acr L R B T x1 z1 x2 z2)(n1:mn∈acr L R B T x1 z1 x2 z2) :
    ∀ v∈six L R B T x1 z1 x2 z2 mx mn,Bd 1500 v:=by
  have pr:∀ {u v w t:Int},Bd 701 u->Bd 701 v->Bd 701 w->Bd 701 t->Bd 1500 (u*v-w*t):=fun h1 h2 h3 h4=>(Bd.sub (n:=1402) (Bd.mul h1 h2) (Bd.mul h3 h4)).mono (by decide)
  have ba:∀ a∈acr L R B T x1 z1 x2 z2,Bd 1500 a:=by
    intro a ha
    unfold acr at ha
    simp only [qh,List.not_mem_nil,or_false] at ha
    rcases ha with rfl | rfl | rfl | rfl<;>exact pr (Bd.sub (by assumption) (by assumption)) (Bd.sub (by assumption) (by assumption)) (Bd.sub (by assumption) (by assumption)) (Bd.sub (by assumption) (by assumption))
  intro v hv
  unfold six at hv
  simp only [qh,List.not_mem_nil,or_false] at hv
  rcases hv with rfl | rfl | rfl | rfl | rfl | rfl
  . exact (Bd.sub (Bd.max2 b1 b3) bL).mono (by decide)
  . exact (Bd.sub bR (Bd.min2 b1 b3)).mono (by decide)
  . exact (Bd.sub (Bd.max2 b2 b4) bB).mono (by decide)
  . exact (Bd.sub bT (Bd.min2 b2 b4)).mono (by decide)
  . exact ba _ m1
  . exact (ba _ n1).neg
theorem zrh {ms:List (Int×Int)}{F:Fg}{px pz qx qz lo hi:Int}(B:FgB F)(ok:zaA ms)(one:ms.length<=1)(hany:∀ h,ms.any (inS h)=[(F.f+lo,F.f+hi)].any (inS h))
  (hk:∀ k,(lo<=k/\k<=hi)↔(0<=k/\k<=F.l-F.f/\zet (F.x0+F.g*k) (F.x1+F.g*k) (F.z0+F.s*k) (F.z1+F.s*k) px pz qx qz)):zsi ms F px pz qx qz:=by
 refine⟨ok,one,fun h=>?_⟩
 rw [hany h]
 have:=hk (h-F.f)
 rw [zkn (by have:=B.x;omega) (by have:=B.z;omega)] at this
 simp only [List.any_cons,List.any_nil,Bool.or_false,zfh]
 unfold zbT
 constructor
 ·rintro⟨a,b⟩
  obtain⟨c1,c2,c3⟩:=this.mp ⟨by omega,by omega⟩
  exact⟨by omega,by omega,c3⟩
 ·rintro⟨a,b,c⟩
  obtain⟨d1,d2⟩:=this.mpr ⟨by omega,by omega,c⟩
  exact⟨by omega,by omega⟩
def flt (a b:Int×Int):Bool:=decide (a.1*b.2<b.1*a.2)
abbrev St2:=(Int×Int)×(Int×Int)
def rk (R:Int×Int->Int)(s:St2):Int×Int:=(R s.1,R s.2)
theorem zgQ {cs:List (Int×Int)}{k:Int}(h0:0<=k)(h:k<cs.length):∃ c,cs[k.toNat]?=some c/\atD (cs.map p2) k=some (p2 c):=by
 have hk:k.toNat<cs.length:=by omega
 refine⟨cs[k.toNat],qb hk,?_⟩
 have:=za5 (ds:=cs.map p2) (i:=k.toNat) (d:=p2 (cs[k.toNat])) (by rw [qg,qb hk];rfl)
 rwa [show ((k.toNat:Nat):Int)=k by omega] at this
def lenV (ms:List (Int×Int)):Int:=(ms.map fun m=>m.2-m.1).sum
def Sv (c:Int×Int)(t b:Int):Prop:=0<c.2/\c.1*b=t*c.2
def hvT (a b p:Int×Int):Int:=if 0<b.1-a.1 then a.2*(b.1-a.1)*p.2+(b.2-a.2)*(p.1-a.1*p.2) else -(a.2*(b.1-a.1)*p.2+(b.2-a.2)*(p.1-a.1*p.2))
def hvB (a b p:Int×Int):Int:=if 0<b.1-a.1 then (b.1-a.1)*p.2 else -((b.1-a.1)*p.2)
theorem znL {a b p:Int×Int}(h:b.1≠a.1)(hp:0<p.2):0<hvB a b p:=by
 unfold hvB
 split
 ·exact Int.mul_pos (by omega) hp
 ·have:=Int.mul_pos (show 0 < -(b.1-a.1) by omega) hp
  rw [Int.neg_mul] at this
  exact this
theorem zuL {c d:Int×Int}{t b u e:Int}(hb:0<b)(he:0<e)(hc:Sv c t b)(hd:Sv d u e):flt c d=decide (t*e<u*b):=by
 obtain⟨c0,c1⟩:=hc
 obtain⟨d0,d1⟩:=hd
 unfold flt
 refine decide_eq_decide.mpr ?_
 have hbe:0<b*e:=Int.mul_pos hb he
 have hcd:0<c.2*d.2:=Int.mul_pos c0 d0
 rw [<- Int.mul_lt_mul_right hbe,<- Int.mul_lt_mul_right (b:=t*e) (c:=u*b) hcd]
 have e1:c.1*d.2*(b*e)=t*e*(c.2*d.2):=by
  have:c.1*d.2*(b*e)=c.1*b*(d.2*e):=by grind
  rw [this,c1];grind
 have e2:d.1*c.2*(b*e)=u*b*(c.2*d.2):=by
  have:d.1*c.2*(b*e)=d.1*e*(c.2*b):=by grind
  rw [this,d1];grind
 rw [e1,e2]
structure Grd (cs:List (Int×Int)):Prop where
 two:2<=cs.length
 most:cs.length<=40
 asc:cs.Pairwise fun a b=>a.1<b.1
 bd:∀ c∈cs,Bd 170 c.1/\Bd 190 c.2
def zi3 (cs:List (Int×Int)):Int:=(cs.getD 0 (0,0)).1
def zhj (cs:List (Int×Int)):Int:=(cs.getD (cs.length-1) (0,0)).1
def OnG (cs:List (Int×Int))(p:Int×Int):Prop:=zi3 cs*p.2<=p.1/\p.1<=zhj cs*p.2
def zgX:List (Int×Int)->Int×Int->Option ((Int×Int)×(Int×Int))
 | a::b::r,p=>if p.1<=b.1*p.2 then some (a,b) else zgX (b::r) p
 | _,_=>none
theorem seg_at:∀ {cs:List (Int×Int)} {p:Int×Int} {k:Nat} {a b:Int×Int},cs[k]?=some a->cs[k+1]?=some b->p.1<=b.1*p.2->(∀ j c,1<=j->j<=k->cs[j]?=some c->c.1*p.2<p.1)->zgX cs p=some (a,b)
 | [],p,k,a,b,h,_,_,_=>by simp at h
 | [x],p,0,a,b,_,h,_,_=>by simp at h
 | [x],p,k+1,a,b,h,_,_,_=>by simp at h
 | x::y::r,p,0,a,b,h1,h2,h3,_=>by
  simp at h1 h2
  subst h1 h2
  unfold zgX
  rw [if_pos h3]
 | x::y::r,p,k+1,a,b,h1,h2,h3,h4=>by
  have:=h4 1 y (by omega) (by omega) rfl
  unfold zgX
  rw [if_neg (by omega)]
  exact seg_at (by simpa using h1) (by simpa using h2) h3 fun j c j1 j2 hc=>h4 (j+1) c (by omega) (by omega) (by simpa using hc)
theorem zjx:∀ {cs:List (Int×Int)} {p:Int×Int},2<=cs.length->p.1<=zhj cs*p.2->∃ k a b,cs[k]?=some a/\cs[k+1]?=some b/\p.1<=b.1*p.2/\∀ j c,1<=j->j<=k->cs[j]?=some c->c.1*p.2<p.1
 | [],p,h,_=>by simp at h
 | [x],p,h,_=>by simp at h
 | [x,y],p,_,h=>⟨0,x,y,rfl,rfl,h,fun j c j1 j2=>by omega⟩
 | x::y::z::r,p,_,h=>by
  by_cases g:p.1<=y.1*p.2
  ·exact⟨0,x,y,rfl,rfl,g,fun j c j1 j2=>by omega⟩
  ·obtain⟨k,a,b,h1,h2,h3,h4⟩:=zjx (cs:=y::z::r) (p:=p) (by simp) h
   refine⟨k+1,a,b,by simpa using h1,by simpa using h2,h3,fun j c j1 j2 hc=>?_⟩
   cases j with
   | zero=>omega
   | succ j =>
    cases j with
    | zero=>simp at hc;subst hc;omega
    | succ j=>exact h4 (j+1) c (by omega) (by omega) (by simpa using hc)
theorem zdr {cs:List (Int×Int)}(g:Grd cs){i j:Nat}{a b:Int×Int}(hij:i<j)(ha:cs[i]?=some a)(hb:cs[j]?=some b):a.1<b.1:=by
 have h1:=zae ha
 have h2:=zae hb
 rw [qb h1] at ha
 rw [qb h2] at hb
 cases ha;cases hb
 exact List.pairwise_iff_getElem.mp g.asc i j h1 h2 hij
theorem zdT {cs:List (Int×Int)}(g:Grd cs):∃ a,cs[0]?=some a/\zi3 cs=a.1:=by
 have:=g.two
 obtain⟨a,h⟩:∃ a,cs[0]?=some a:=⟨cs[0],qb (by omega)⟩
 exact⟨a,h,by unfold zi3;rw [List.getD_eq_getElem?_getD,h];rfl⟩
theorem zje {cs:List (Int×Int)}(g:Grd cs):∃ a,cs[cs.length-1]?=some a/\zhj cs=a.1:=by
 have:=g.two
 obtain⟨a,h⟩:∃ a,cs[cs.length-1]?=some a:=⟨cs[cs.length-1],qb (by omega)⟩
 exact⟨a,h,by unfold zhj;rw [List.getD_eq_getElem?_getD,h];rfl⟩
def GAt (S:Sto)(g:D)(cs:List (Int×Int)):Prop:=∃ n l,g=.ref n/\S[n]?=some (.ins "Ground" [("corners",.ref l)])/\S[l]?=some (.lst (cs.map p2))
theorem GAt.old {S T:Sto}{g:D}{cs:List (Int×Int)}(h:GAt S g cs):GAt (S++T) g cs:=let ⟨n,l,e,h1,h2⟩:=h;⟨n,l,e,zal h1,zal h2⟩
theorem zwR {S:Sto}{P:D->Prop}{n l:Nat}(h:S[n]?=some (.ins "Ground" [("corners",.ref l)]))(q:P (.ref l)):∃ m c fs d,D.ref n=.ref m/\S[m]?=some (.ins c fs)/\fs.lookup ("corners":Str)=some d/\P d:=⟨n,_,_,_,rfl,h,by simp [qj],q⟩
def sdO (a b c:Int×Int):Int:=(c.2-a.2)*(b.1-a.1)-(c.1-a.1)*(b.2-a.2)
def sdI (a b c:Int×Int):Int:=if 0<(if b.1-a.1<0 then -sdO a b c else sdO a b c) then 1 else if (if b.1-a.1<0 then -sdO a b c else sdO a b c)<0 then -1 else 0
def Std (cs:List (Int×Int))(s:Int×Int):Prop:=Bd 180 s.1/\Bd 200 s.2/\OnG cs (s.1,1)/\∀ a b,zgX cs (s.1,1)=some (a,b)->hvT a b (s.1,1)<=s.2*hvB a b (s.1,1)
theorem zrI {cs:List (Int×Int)}(gr:Grd cs):∃ z,cs[cs.length-1]?=some z/\zhj cs=z.1/\atD (cs.map p2) (-1)=some (p2 z):=by
 have g1:=gr.two
 obtain⟨z,hz,ez⟩:=zje gr
 refine⟨z,hz,ez,?_⟩
 have hne:cs≠[]:=fun e=>by rw [e] at g1;simp at g1
 have en:cs=cs.dropLast++[z]:=by
  have h2:=List.dropLast_concat_getLast hne
  have h3:cs.getLast hne=z:=by
   rw [List.getLast_eq_getElem]
   have hl':=zae hz
   rw [qb hl'] at hz
   cases hz;rfl
  rw [h3] at h2
  exact h2.symm
 rw [en,List.map_append];exact zfy
theorem zum {cs:List (Int×Int)}(gr:Grd cs){c:Int×Int}(h:c∈cs):zi3 cs<=c.1/\c.1<=zhj cs:=by
 obtain⟨a,ha,ea⟩:=zdT gr
 obtain⟨z,hz,ez⟩:=zje gr
 obtain⟨i,hi,e⟩:=List.mem_iff_getElem.mp h
 have hc:cs[i]?=some c:=by rw [qb hi,e]
 rw [ea,ez]
 constructor
 ·cases i with
  | zero=>rw [ha] at hc;cases hc;exact Int.le_refl _
  | succ i=>exact Int.le_of_lt (zdr gr (by omega) ha hc)
 ·rcases Nat.lt_or_ge i (cs.length-1) with g | g
  ·exact Int.le_of_lt (zdr gr g hc hz)
  ·have:i=cs.length-1:=by omega
   subst this
   rw [hz] at hc;cases hc;exact Int.le_refl _
structure Brk (cs:List (Int×Int))(p a b:Int×Int):Prop where
 ma:a∈cs
 mb:b∈cs
 lt:a.1<b.1
 lo:a.1*p.2<=p.1
 hi:p.1<=b.1*p.2
 no:∀ c∈cs,¬ (a.1<c.1/\c.1<b.1)
theorem znI {cs:List (Int×Int)}(gr:Grd cs){p:Int×Int}(on:OnG cs p):∃ a b,zgX cs p=some (a,b)/\Brk cs p a b:=by
 obtain⟨k,a,b,ha,hb,hle,hlt⟩:=zjx gr.two on.2
 refine⟨a,b,seg_at ha hb hle hlt,qd ha,qd hb,zdr gr (by omega) ha hb,?_,hle,fun c hc h=>?_⟩
 ·cases k with
  | zero =>
   obtain⟨f,hf,ef⟩:=zdT gr
   rw [ha] at hf
   cases hf
   have:=on.1
   rw [ef] at this
   exact this
  | succ k=>exact Int.le_of_lt (hlt (k+1) a (by omega) (by omega) ha)
 ·obtain⟨j,hj⟩:=List.mem_iff_getElem?.mp hc
  rcases Nat.lt_trichotomy j k with g | g | g
  ·have:=zdr gr g hj ha;omega
  ·subst g;rw [ha] at hj;cases hj;omega
  ·rcases Nat.lt_or_ge (k+1) j with g2 | g2
   ·have:=zdr gr g2 hb hj;omega
   ·have:j=k+1:=by omega
    subst this;rw [hb] at hj;cases hj;omega
theorem zjY {own:Nat}{fv:List Nat}{xs:List D}{ok:Sto->Prop}{g:DG}{tc:DT}{te:DE}{Z:Rho}{S:Sto}{Q:DK}(W:Nat->List D->Sto->Prop)(h0:W 0 [] S)(hok:∀ i ys S,W i ys S->ok S)(hbig:xs.length<=big)
  (step:∀ i d ys S,xs[i]?=some d->W i ys S->g d (zjb own fv Z) S fun ρ2 S2=>tc ρ2 S2 fun b S3=>if b=true then te ρ2 S3 fun y S4=>W (i+1) (ys++[y]) S4 else W (i+1) ys S3)
  (fin:∀ ys S,W xs.length ys S->New Q S ys):zoS own fv g tc te Z Q ⟨xs,ok⟩ S:=⟨hbig,W,h0,hok,step,fin⟩
theorem zqL {s c d:Int×Int}(h:(0<d.1-s.1/\0<c.1-d.1)\/(d.1-s.1<0/\c.1-d.1<0)):0<sdI s c d↔(c.2-s.2)*((d.1-s.1).natAbs:Int)<(d.2-s.2)*((c.1-s.1).natAbs:Int):=by
 have e:(if c.1-s.1<0 then -sdO s c d else sdO s c d)=(d.2-s.2)*((c.1-s.1).natAbs:Int)-(c.2-s.2)*((d.1-s.1).natAbs:Int):=by
  rcases h with h | h
  ·rw [if_neg (by omega),show ((c.1-s.1).natAbs:Int)=c.1-s.1 by omega,show ((d.1-s.1).natAbs:Int)=d.1-s.1 by omega]
   unfold sdO;grind
  ·rw [if_pos (by omega),show ((c.1-s.1).natAbs:Int)=-(c.1-s.1) by omega,show ((d.1-s.1).natAbs:Int)=-(d.1-s.1) by omega]
   unfold sdO;grind
 unfold sdI
 rw [e]
 generalize (d.2-s.2)*((c.1-s.1).natAbs:Int)=x
 generalize (c.2-s.2)*((d.1-s.1).natAbs:Int)=y
 split
 ·exact⟨fun _=>by omega,fun _=>by decide⟩
 ·split
  ·exact⟨fun h=>by omega,fun h=>by omega⟩
  ·exact⟨fun h=>by omega,fun h=>by omega⟩
theorem zsW {a b d:Int×Int}(h:a.1≠b.1):sdI a b d=sdI b a d:=by
 have e:(if b.1-a.1<0 then -sdO a b d else sdO a b d)=(if a.1-b.1<0 then -sdO b a d else sdO b a d):=by
  by_cases z:b.1-a.1<0
  ·rw [if_pos z,if_neg (by omega)]
   unfold sdO;grind
  ·rw [if_neg z,if_pos (by omega)]
   unfold sdO;grind
 unfold sdI
 rw [e]
def zdJ (cs:List (Int×Int))(s:Int×Int):Prop:=OnG cs (s.1,1)/\∀ a b,zgX cs (s.1,1)=some (a,b)->hvT a b (s.1,1)<=s.2*hvB a b (s.1,1)
def zeH (t b:Int):Int:=-(-t/b)
theorem ztk {t b:Int}(hb:0<b):t<=zeH t b*b/\(zeH t b-1)*b<t:=by
 unfold zeH
 have h1:=Int.ediv_mul_le (-t) (b:=b) (by omega)
 have h2:=Int.lt_ediv_add_one_mul_self (-t) hb
 rw [Int.neg_mul,Int.sub_mul,Int.neg_mul,Int.one_mul]
 rw [Int.add_mul,Int.one_mul] at h2
 omega
theorem ztp {t b z:Int}(hb:0<b):zeH t b<=z↔t<=z*b:=by
 obtain⟨h1,h2⟩:=ztk (t:=t) hb
 constructor
 ·intro h
  exact Int.le_trans h1 (Int.mul_le_mul_of_nonneg_right h (Int.le_of_lt hb))
 ·intro h
  rcases Int.lt_or_le z (zeH t b) with g | g
  ·have:=Int.mul_le_mul_of_nonneg_right (show z<=zeH t b-1 by omega) (Int.le_of_lt hb)
   omega
  ·exact g
theorem znF {cs:List (Int×Int)}(gr:Grd cs){p r:Int×Int}{xx:Int}(bk:Brk cs (xx,1) p r):0<hvB p r (xx,1)/\Bd 171 (hvB p r (xx,1))/\Bd 400 (hvT p r (xx,1))/\Bd 192 (zeH (hvT p r (xx,1)) (hvB p r (xx,1))):=by
 have hpr:=bk.lt
 have hB:0<hvB p r (xx,1):=znL (by omega) (show (0:Int)<1 by decide)
 obtain⟨bp1,bp2⟩:=gr.bd p bk.ma
 obtain⟨br1,br2⟩:=gr.bd r bk.mb
 have h1':p.1<=xx:=by have:p.1*1<=xx:=bk.lo;omega
 have h2':xx<=r.1:=by have:xx<=r.1*1:=bk.hi;omega
 have bx:Bd 171 xx:=(Bd.btw (n:=170) bp1 br1 h1' h2').mono (by decide)
 have bT:Bd 400 (hvT p r (xx,1)):=by
  have r1:Bd 171 (r.1-p.1):=Bd.sub br1 bp1
  have r2:Bd 191 (r.2-p.2):=Bd.sub br2 bp2
  have m1:Bd 361 (p.2*(r.1-p.1)):=Bd.mul bp2 r1
  have m2:Bd 172 (xx-p.1):=Bd.sub bx (bp1.mono (by decide))
  have m3:Bd 363 ((r.2-p.2)*(xx-p.1)):=Bd.mul r2 m2
  unfold hvT
  rw [if_pos (by omega)]
  dsimp only
  rw [Int.mul_one,Int.mul_one]
  exact (Bd.add (n:=363) (m1.mono (by decide)) m3).mono (by decide)
 have bB:Bd 171 (hvB p r (xx,1)):=by
  unfold hvB
  rw [if_pos (by omega)]
  dsimp only
  rw [Int.mul_one]
  exact Bd.sub br1 bp1
 refine⟨hB,bB,bT,?_⟩
 have eT:hvT p r (xx,1)=p.2*(r.1-xx)+r.2*(xx-p.1):=by
  unfold hvT
  rw [if_pos (by omega)]
  dsimp only
  grind
 have eB:hvB p r (xx,1)=(r.1-xx)+(xx-p.1):=by
  unfold hvB
  rw [if_pos (by omega)]
  dsimp only
  omega
 have lo:-(2 ^ 190)*hvB p r (xx,1)<=hvT p r (xx,1):=by
  rw [eT,eB]
  have k1:=Int.mul_le_mul_of_nonneg_right (show -(2 ^ 190:Int)<=p.2 by unfold Bd at bp2;omega) (show 0<=r.1-xx by omega)
  have k2:=Int.mul_le_mul_of_nonneg_right (show -(2 ^ 190:Int)<=r.2 by unfold Bd at br2;omega) (show 0<=xx-p.1 by omega)
  rw [Int.mul_add]
  omega
 have hi:hvT p r (xx,1)<=2 ^ 190*hvB p r (xx,1):=by
  rw [eT,eB]
  have k1:=Int.mul_le_mul_of_nonneg_right (show p.2<=(2 ^ 190:Int) by unfold Bd at bp2;omega) (show 0<=r.1-xx by omega)
  have k2:=Int.mul_le_mul_of_nonneg_right (show r.2<=(2 ^ 190:Int) by unfold Bd at br2;omega) (show 0<=xx-p.1 by omega)
  rw [Int.mul_add]
  omega
 have d1:-(2 ^ 190)<=-hvT p r (xx,1)/hvB p r (xx,1):=(Int.le_ediv_iff_mul_le hB).mpr (by rw [Int.neg_mul];omega)
 have d2:-hvT p r (xx,1)/hvB p r (xx,1)<=2 ^ 190:=Int.ediv_le_of_le_mul hB (by
  have:=lo
  rw [Int.neg_mul] at this
  omega)
 unfold zeH
 show _<2 ^ 192
 omega
def zdD (cs:List (Int×Int))(x:Int):Int:=match zgX cs (x,1) with
 | some (a,b)=>zeH (hvT a b (x,1)) (hvB a b (x,1))
 | none=>0
theorem zqS {cs:List (Int×Int)}(gr:Grd cs){s:Int×Int}(on:OnG cs (s.1,1)):zdJ cs s↔zdD cs s.1<=s.2:=by
 obtain⟨a,b,seg,bk⟩:=znI gr on
 have hB:=(znF gr bk).1
 unfold zdD
 rw [seg]
 dsimp only
 rw [ztp hB]
 constructor
 ·intro h;exact h.2 a b seg
 ·intro h
  refine⟨on,fun a' b' seg'=>?_⟩
  rw [seg] at seg';cases seg';exact h
theorem zrF {cs:List (Int×Int)}(gr:Grd cs){x:Int}(on:OnG cs (x,1)):Bd 192 (zdD cs x):=by
 obtain⟨a,b,seg,bk⟩:=znI gr on
 unfold zdD
 rw [seg]
 exact (znF gr bk).2.2.2
theorem Std.of {cs:List (Int×Int)}{s:Int×Int}(b1:Bd 180 s.1)(b2:Bd 200 s.2)(h:zdJ cs s):Std cs s:=⟨b1,b2,h.1,h.2⟩
def nbP (cs:List (Int×Int))(x y:Int)(k:Nat):Bool:=decide (min x y<(cs.getD k (0,0)).1)&&decide ((cs.getD k (0,0)).1<max x y)
def nbK (cs:List (Int×Int))(x y:Int)(n:Nat):List Int:=((List.range n).filter (nbP cs x y)).map fun k:Nat=>(k:Int)
theorem zxo {cs:List (Int×Int)}{x y:Int}{i:Nat}(h:nbP cs x y i=true):(nbK cs x y (i+1)).map D.int=(nbK cs x y i).map D.int++[.int (i:Int)]:=by
 unfold nbK
 rw [List.range_succ,List.filter_append,List.filter_cons_of_pos h]
 simp
theorem zsg {cs:List (Int×Int)}{x y:Int}{i:Nat}(h:nbP cs x y i=false):nbK cs x y (i+1)=nbK cs x y i:=by
 unfold nbK
 rw [List.range_succ,List.filter_append,List.filter_cons_of_neg (by rw [h];exact Bool.false_ne_true)]
 simp
def zi4 (cs:List (Int×Int))(a b:Int×Int)(k:Int):Bool:=decide (0<sdI a b (cs.getD k.toNat (0,0)))
def zdF (cs:List (Int×Int))(a b:Int×Int):Option Int:=(nbK cs a.1 b.1 cs.length).find? (zi4 cs a b)
theorem znX {p:Int->Bool}:∀ {ks:List Int} {i:Nat} {k:Int},ks[i]?=some k->(∀ x∈ks.take i,p x=false)->p k=true->ks.find? p=some k
 | [],i,k,h,_,_=>by simp at h
 | x::ks,0,k,h,_,hp=>by
  have e:x=k:=by simpa using h
  rw [List.find?_cons,e,hp]
 | x::ks,i+1,k,h,hn,hp=>by
  rw [List.find?_cons,hn x (by simp)]
  exact znX (by simpa using h) (fun y hy=>hn y (by rw [List.take_succ_cons];exact List.mem_cons_of_mem _ hy)) hp
theorem ztK {p:Int->Bool}{ks:List Int}(hn:∀ x∈ks,p x=false):ks.find? p=none:=List.find?_eq_none.mpr fun x hx=>by rw [hn x hx];exact Bool.false_ne_true
theorem zuV {cs:List (Int×Int)}{x y k:Int}{n:Nat}(h:k∈nbK cs x y n):0<=k/\k<n:=by
 unfold nbK at h
 obtain⟨j,hj,rfl⟩:=List.mem_map.mp h
 have:=List.mem_range.mp (List.mem_filter.mp hj).1
 omega
theorem zr4 {cs:List (Int×Int)}{a b:Int×Int}:(zdF cs a b).isNone=true↔∀ d∈cs,min a.1 b.1<d.1->d.1<max a.1 b.1->¬ 0<sdI a b d:=by
 unfold zdF
 rw [Option.isNone_iff_eq_none,List.find?_eq_none]
 constructor
 ·intro h d hd d1 d2 hp
  obtain⟨j,hj⟩:=List.mem_iff_getElem?.mp hd
  have hl:=zae hj
  have eg:cs.getD j (0,0)=d:=by rw [List.getD_eq_getElem?_getD,hj];rfl
  refine h (j:Int) ?_ ?_
  ·unfold nbK
   refine List.mem_map.mpr ⟨j,List.mem_filter.mpr ⟨List.mem_range.mpr hl,?_⟩,rfl⟩
   unfold nbP
   rw [eg,decide_eq_true d1,decide_eq_true d2];rfl
  ·unfold zi4
   rw [Int.toNat_natCast,eg];exact decide_eq_true hp
 ·intro h k hk
  unfold nbK at hk
  obtain⟨j,hj,rfl⟩:=List.mem_map.mp hk
  obtain⟨h1,h2⟩:=List.mem_filter.mp hj
  have hl:=List.mem_range.mp h1
  unfold nbP at h2
  rw [Bool.and_eq_true,decide_eq_true_eq,decide_eq_true_eq] at h2
  have eg:cs.getD j (0,0)=cs[j]:=by rw [List.getD_eq_getElem?_getD,qb hl];rfl
  rw [eg] at h2
  unfold zi4
  rw [Int.toNat_natCast,eg,decide_eq_true_eq]
  exact h cs[j] (List.getElem_mem hl) h2.1 h2.2
theorem zll {cs:List (Int×Int)}{a b:Int×Int}:zdF cs a b=zdF cs b a:=by
 by_cases h:a.1=b.1
 ·have e:∀ x:Int×Int,x.1=x.1->nbK cs a.1 b.1 cs.length=[]:=fun _ _=>by
   unfold nbK
   rw [List.filter_eq_nil_iff.mpr fun k _=>?_]
   ·rfl
   ·unfold nbP
    rw [h]
    simp only [Bool.and_eq_true,decide_eq_true_eq]
    omega
  have e1:=e a rfl
  have e2:nbK cs b.1 a.1 cs.length=[]:=by rw [h] at e1 ⊢;exact e1
  unfold zdF
  rw [e1,e2];rfl
 ·have en:nbK cs a.1 b.1 cs.length=nbK cs b.1 a.1 cs.length:=by
   unfold nbK nbP
   rw [Int.min_comm,Int.max_comm]
  unfold zdF
  rw [en]
  congr 1
  funext k
  unfold zi4
  rw [zsW h]
section
variable {g:Int}{p q r s d t u v:Int×Int}
end
section
variable {cs:List (Int×Int)}{a b:Int×Int}{rp:List (Int×Int)}
end
section
variable {w h t m:Int}{cs:List (Int×Int)}
end
abbrev bcD (b:Str×(Int×Int)):D:=.tup [.str b.1,.int b.2.1,.int b.2.2]
def abc:List Nat:=List.range' 97 26
theorem zvT:("abcdefghijklmnopqrstuvwxyz":Str).cps.toList=abc:=by decide +kernel
theorem ziD {c:Nat}:c∈abc↔97<=c/\c<=122:=by unfold abc;rw [List.mem_range'_1];omega
def nmB (z:Str):Bool:=decide (1<=z.length)&&(decide (z.length<=8)&&z.cps.toList.all fun c=>decide (c∈abc))
theorem ziy {z:Str}:nmB z=true↔1<=z.length/\z.length<=8/\∀ c∈z.cps.toList,c∈abc:=by
 unfold nmB
 rw [Bool.and_eq_true,Bool.and_eq_true,decide_eq_true_eq,decide_eq_true_eq,List.all_eq_true]
 simp only [decide_eq_true_eq]
theorem zgs {z:Str}(h:nmB z=true)(k:Nat):fl k (.str z)=true:=by
  have h3:=(ziy.mp h).2.2
  have:z.cps.all (· < 0x110000)=true:=by
    rw [Array.all_eq_true']
    intro x hx
    have:=ziD.mp (h3 x (Array.mem_toList_iff.mpr hx))
    simp;omega
  cases k<;>exact this
theorem zwW {b:Str×(Int×Int)}(h:nmB b.1=true):fl 20 (bcD b)=true:=by
 show (fl 19 (.str b.1)&&true)=true
 rw [Bool.and_true];exact zgs h 19
def nmW (a h c b t:Nat):Str:=⟨(List.replicate h a++c::List.replicate t b).toArray⟩
theorem ztx (a h c b t:Nat):(nmW a h c b t).length=h+1+t:=by
 show (List.replicate h a++c::List.replicate t b).toArray.size=_
 simp;omega
theorem zt5 {a h c b t:Nat}(ha:a∈abc)(hb:b∈abc)(hc:c∈abc)(h3:h<=3)(h4:t<=4):nmB (nmW a h c b t)=true:=by
 rw [ziy,ztx]
 refine⟨by omega,by omega,fun x hx=>?_⟩
 have hx':x∈List.replicate h a++c::List.replicate t b:=by simpa [nmW] using hx
 rcases List.mem_append.mp hx' with z | z
 ·rw [List.eq_of_mem_replicate z];exact ha
 ·rcases qh.mp z with z | z
  ·rw [z];exact hc
  ·rw [List.eq_of_mem_replicate z];exact hb
theorem zsY {a h c d b t:Nat}(e:nmW a h c b t=nmW a h d b t):c=d:=by
 have:List.replicate h a++c::List.replicate t b=List.replicate h a++d::List.replicate t b:=by
  have:=congrArg (fun z:Str=>z.cps.toList) e
  simpa [nmW] using this
 have:=List.append_cancel_left this
 simpa using this
theorem znZ (x y:List Nat):(⟨x.toArray⟩:Str)++(⟨y.toArray⟩:Str)=⟨(x++y).toArray⟩:=by
 show (⟨x.toArray++y.toArray⟩:Str)=_
 simp
theorem zms (c:Nat)(n:Int)(h:0<=n):zo2 ⟨#[c]⟩ n=⟨(List.replicate n.toNat c).toArray⟩:=by
  unfold zo2
  split
  . have:n.toNat=0:=by omega
    rw [this];rfl
  . split
    . rename_i g g2
      have:n=1:=by
        rcases Bool.or_eq_true .. |>.mp g2 with z | z
        . exact eq_of_beq z
        . exact absurd (show ((1:Nat)==0)=true from z) (by decide)
      subst this;rfl
    . have : ∀ (m : Nat) (acc : Array Nat), (List.replicate m #[c]).foldl (· ++ ·) acc = acc ++ (List.replicate m c).toArray := by
        intro m
        induction m with
        | zero=>intro acc;simp
        | succ m ih =>
          intro acc
          rw [List.replicate_succ,List.foldl_cons,ih,List.replicate_succ]
          apply Array.toList_inj.mp
          simp
      show (⟨(List.replicate n.toNat #[c]).foldl (·++·) #[]⟩:Str)=_
      rw [this];simp
structure Vl where
 cs:List (Int×Int)
 bs:List (Str×(Int×Int))
 fs:List Fg
 hz:Option Int
 h0:Int
 h1:Int
 dl:Int
structure FgV (F:Fg):Prop where
 b:FgB F
 o:F.f<=F.l
 f:Bd 300 F.f
 l:Bd 300 F.l
structure zch (V:Vl):Prop where
 gr:Grd V.cs
 b1:1<=V.bs.length
 b12:V.bs.length<=12
 nm:∀ b∈V.bs,nmB b.1=true
 nd:(V.bs.map (·.1)).Nodup
 st:∀ b∈V.bs,zdJ V.cs b.2
 bd:∀ b∈V.bs,Bd 180 b.2.1/\Bd 200 b.2.2
 f12:V.fs.length<=12
 fg:∀ F∈V.fs,FgV F
 hz:∀ z,V.hz=some z->0<=z
 hh:V.h0<=V.h1
 b0:Bd 250 V.h0
 bl:Bd 250 V.h1
 dl:0<=V.dl
abbrev vF (g b f h a l d:D):List (Str×D):=[("ground",g),("beacons",b),("fogs",f),("haze",h),("first",a),("last",l),("delay",d)]
def VAt (S:Sto)(v:D)(V:Vl):Prop:=∃ n g b f,v=.ref n/\S[n]?=some (.ins "Valley" (vF (.ref g) (.ref b) (.ref f) (zea V.hz) (.int V.h0) (.int V.h1) (.int V.dl)))/\GAt S (.ref g) V.cs/\S[b]?=some (.lst (V.bs.map bcD))/\S[f]?=some (.lst (V.fs.map fgD))
theorem VAt.old {S T:Sto}{v:D}{V:Vl}(h:VAt S v V):VAt (S++T) v V:=let ⟨n,g,b,f,e,h1,h2,h3,h4⟩:=h;⟨n,g,b,f,e,zal h1,h2.old,zal h3,zal h4⟩
section
variable {S:Sto}{P:D->Prop}{n:Nat}{g b f h a l d:D}
theorem zqY (k:S[n]?=some (.ins "Valley" (vF g b f h a l d)))(q:P g):∃ m c fs x,D.ref n=.ref m/\S[m]?=some (.ins c fs)/\fs.lookup ("ground":Str)=some x/\P x:=⟨n,_,_,g,rfl,k,by simp [qj],q⟩
theorem zph (k:S[n]?=some (.ins "Valley" (vF g b f h a l d)))(q:P b):∃ m c fs x,D.ref n=.ref m/\S[m]?=some (.ins c fs)/\fs.lookup ("beacons":Str)=some x/\P x:=⟨n,_,_,b,rfl,k,by rw [qj,show ((("beacons":Str)=="ground")=false) by decide +kernel];simp [qj],q⟩
theorem zvb (k:S[n]?=some (.ins "Valley" (vF g b f h a l d)))(q:P f):∃ m c fs x,D.ref n=.ref m/\S[m]?=some (.ins c fs)/\fs.lookup ("fogs":Str)=some x/\P x:=⟨n,_,_,f,rfl,k,by rw [qj,show ((("fogs":Str)=="ground")=false) by decide +kernel];dsimp only;rw [qj,show ((("fogs":Str)=="beacons")=false) by decide +kernel];simp [qj],q⟩
theorem zu0 (k:S[n]?=some (.ins "Valley" (vF g b f h a l d)))(q:P h):∃ m c fs x,D.ref n=.ref m/\S[m]?=some (.ins c fs)/\fs.lookup ("haze":Str)=some x/\P x:=⟨n,_,_,h,rfl,k,by rw [qj,show ((("haze":Str)=="ground")=false) by decide +kernel];dsimp only;rw [qj,show ((("haze":Str)=="beacons")=false) by decide +kernel];dsimp only;rw [qj,show ((("haze":Str)=="fogs")=false) by decide +kernel];simp [qj],q⟩
theorem ztU (k:S[n]?=some (.ins "Valley" (vF g b f h a l d)))(q:P a):∃ m c fs x,D.ref n=.ref m/\S[m]?=some (.ins c fs)/\fs.lookup ("first":Str)=some x/\P x:=⟨n,_,_,a,rfl,k,by rw [qj,show ((("first":Str)=="ground")=false) by decide +kernel];dsimp only;rw [qj,show ((("first":Str)=="beacons")=false) by decide +kernel];dsimp only;rw [qj,show ((("first":Str)=="fogs")=false) by decide +kernel];dsimp only;rw [qj,show ((("first":Str)=="haze")=false) by decide +kernel];simp [qj],q⟩
theorem zvE (k:S[n]?=some (.ins "Valley" (vF g b f h a l d)))(q:P l):∃ m c fs x,D.ref n=.ref m/\S[m]?=some (.ins c fs)/\fs.lookup ("last":Str)=some x/\P x:=⟨n,_,_,l,rfl,k,by rw [qj,show ((("last":Str)=="ground")=false) by decide +kernel];dsimp only;rw [qj,show ((("last":Str)=="beacons")=false) by decide +kernel];dsimp only;rw [qj,show ((("last":Str)=="fogs")=false) by decide +kernel];dsimp only;rw [qj,show ((("last":Str)=="haze")=false) by decide +kernel];dsimp only;rw [qj,show ((("last":Str)=="first")=false) by decide +kernel];simp [qj],q⟩
theorem zt3 (k:S[n]?=some (.ins "Valley" (vF g b f h a l d)))(q:P d):∃ m c fs x,D.ref n=.ref m/\S[m]?=some (.ins c fs)/\fs.lookup ("delay":Str)=some x/\P x:=⟨n,_,_,d,rfl,k,by rw [qj,show ((("delay":Str)=="ground")=false) by decide +kernel];dsimp only;rw [qj,show ((("delay":Str)=="beacons")=false) by decide +kernel];dsimp only;rw [qj,show ((("delay":Str)=="fogs")=false) by decide +kernel];dsimp only;rw [qj,show ((("delay":Str)=="haze")=false) by decide +kernel];dsimp only;rw [qj,show ((("delay":Str)=="first")=false) by decide +kernel];dsimp only;rw [qj,show ((("delay":Str)=="last")=false) by decide +kernel];simp [qj],q⟩
end
theorem zhN {bs:List (Str×(Int×Int))}{i:Nat}{d:D}(h:(bs.map bcD)[i]?=some d):∃ b,bs[i]?=some b/\d=bcD b:=by
 rw [qg] at h
 cases e:bs[i]? with
 | none=>rw [e] at h;cases h
 | some p=>rw [e] at h;cases h;exact⟨p,rfl,rfl⟩
theorem zdz {bs:List (Str×(Int×Int))}{k:Int}(h0:0<=k)(h:k<bs.length):∃ b,bs[k.toNat]?=some b/\atD (bs.map bcD) k=some (bcD b):=by
 have e:bs[k.toNat]?=some (bs[k.toNat]'(by omega)):=qb (by omega)
 refine⟨_,e,?_⟩
 have:=za5 (ds:=bs.map bcD) (i:=k.toNat) (by rw [qg,e];rfl)
 rwa [show ((k.toNat:Nat):Int)=k by omega] at this
def zmK (f:Str×(Int×Int)->D):D->D
 | .tup [.str z,.int a,.int b]=>f (z,a,b)
 | d=>d
theorem zgD (f:Str×(Int×Int)->D)(bs:List (Str×(Int×Int))):(bs.map bcD).map (zmK f)=bs.map f:=by rw [List.map_map];rfl
def sqr (a b:Int×Int):Int:=(b.1-a.1)*(b.1-a.1)+(b.2-a.2)*(b.2-a.2)
theorem zqQ (a b:Int×Int):sqr a b=sqr b a:=by unfold sqr;grind
def hzy (z:Option Int)(q:Int):Bool:=match z with
 | some z=>decide (z<q)
 | none=>false
def ziF (V:Vl)(a b:Int×Int):D:=match zdF V.cs a b with
 | some k=>.tup [.str "ground",.int k]
 | none=>if hzy V.hz (sqr a b)=true then .tup [.str "haze",.int (sqr a b)] else .non
def Alw (V:Vl)(a b:Int×Int):Prop:=zdF V.cs a b=none/\hzy V.hz (sqr a b)=false
theorem zkL {V:Vl}{a b:Int×Int}:ziF V a b=.non↔Alw V a b:=by
 unfold ziF Alw
 cases zdF V.cs a b with
 | some k=>simp
 | none =>
  cases h:hzy V.hz (sqr a b) with
  | true=>simp
  | false=>simp
def zjc (V:Vl)(a b:Int×Int)(h:Int):Prop:=Alw V a b/\¬ ∃ F∈V.fs,zbT F a.1 a.2 b.1 b.2 h
structure zsf (V:Vl)(n m:Str)(s t:Int×Int)(ms:List (Int×Int)):Prop where
 ok:zaA ms
 iff:∀ h,ms.any (inS h)=true↔V.h0<=h/\h<=V.h1/\(n=m\/zjc V s t h)
 len:ms.length<=14
theorem zqz {V:Vl}(ok:zch V){b c:Str×(Int×Int)}(hb:b∈V.bs)(hc:c∈V.bs)(e:b.1=c.1):b=c:=by
 obtain⟨i,hi,rfl⟩:=List.mem_iff_getElem.mp hb
 obtain⟨j,hj,rfl⟩:=List.mem_iff_getElem.mp hc
 have nd:=List.pairwise_iff_getElem.mp ok.nd
 rcases Nat.lt_trichotomy i j with h | h | h
 ·exact absurd (by rw [List.getElem_map,List.getElem_map];exact e) (nd i j (by simpa using hi) (by simpa using hj) h)
 ·subst h;rfl
 ·exact absurd (by rw [List.getElem_map,List.getElem_map];exact e.symm) (nd j i (by simpa using hj) (by simpa using hi) h)
theorem zis {V:Vl}(ok:zch V){i j:Nat}{b c:Str×(Int×Int)}(hb:V.bs[i]?=some b)(hc:V.bs[j]?=some c):b.1=c.1↔i=j:=by
 have li:=zae hb
 have lj:=zae hc
 rw [qb li] at hb
 rw [qb lj] at hc
 cases hb;cases hc
 have nd:=List.pairwise_iff_getElem.mp ok.nd
 constructor
 ·intro e
  rcases Nat.lt_trichotomy i j with h | h | h
  ·exact absurd (by rw [List.getElem_map,List.getElem_map];exact e) (nd i j (by simpa using li) (by simpa using lj) h)
  ·exact h
  ·exact absurd (by rw [List.getElem_map,List.getElem_map];exact e.symm) (nd j i (by simpa using lj) (by simpa using li) h)
 ·rintro rfl;rfl
theorem zcd {S A B X:Sto}(h:∃ T,A=S++T)(e:B=A++X):∃ T,B=S++T:=let ⟨T,h⟩:=h;⟨T++X,by rw [e,h,List.append_assoc]⟩
theorem zq8 {f:Str}{v:D}:putD f v []=[(f,v)]:=rfl
theorem zaD {f g:Str}{v x:D}{r:List (Str×D)}(h:g≠f):putD f v ((g,x)::r)=(g,x)::putD f v r:=by
 show (if g=f then _ else _)=_
 rw [if_neg h]
section
variable {g b f h a l d:D}
theorem vp2:putD "beacons" b ([("ground",g)]:List (Str×D))=([("ground",g),("beacons",b)]:List (Str×D)):=by rw [zaD (by decide +kernel)];rfl
theorem vp3:putD "fogs" f ([("ground",g),("beacons",b)]:List (Str×D))=([("ground",g),("beacons",b),("fogs",f)]:List (Str×D)):=by rw [zaD (by decide +kernel),zaD (by decide +kernel)];rfl
theorem vp4:putD "haze" h ([("ground",g),("beacons",b),("fogs",f)]:List (Str×D))=([("ground",g),("beacons",b),("fogs",f),("haze",h)]:List (Str×D)):=by rw [zaD (by decide +kernel),zaD (by decide +kernel),zaD (by decide +kernel)];rfl
theorem vp5:putD "first" a ([("ground",g),("beacons",b),("fogs",f),("haze",h)]:List (Str×D))=([("ground",g),("beacons",b),("fogs",f),("haze",h),("first",a)]:List (Str×D)):=by rw [zaD (by decide +kernel),zaD (by decide +kernel),zaD (by decide +kernel),zaD (by decide +kernel)];rfl
theorem vp6:putD "last" l ([("ground",g),("beacons",b),("fogs",f),("haze",h),("first",a)]:List (Str×D))=([("ground",g),("beacons",b),("fogs",f),("haze",h),("first",a),("last",l)]:List (Str×D)):=by rw [zaD (by decide +kernel),zaD (by decide +kernel),zaD (by decide +kernel),zaD (by decide +kernel),zaD (by decide +kernel)];rfl
theorem vp7:putD "delay" d ([("ground",g),("beacons",b),("fogs",f),("haze",h),("first",a),("last",l)]:List (Str×D))=vF g b f h a l d:=by rw [zaD (by decide +kernel),zaD (by decide +kernel),zaD (by decide +kernel),zaD (by decide +kernel),zaD (by decide +kernel),zaD (by decide +kernel)];rfl
end
def zli (lo hi st sp e1 e2 x1 x2:Int):Prop:=zfe lo hi st sp e1 e2 x1 x2\/(sp=0/\(st<lo\/hi<st)/\e1=2/\e2=1/\x1=0/\x2=1)
theorem zwz {L R B T x1 z1 x2 z2 ea1 ea2 xa1 xa2 eu1 eu2 xu1 xu2:Int}(hx:L<=R)(hz:B<=T)(pa:zli L R x1 (x2-x1) ea1 ea2 xa1 xa2)(pu:zli B T z1 (z2-z1) eu1 eu2 xu1 xu2):zix ea1 ea2 xa1 xa2 eu1 eu2 xu1 xu2↔Hit L R B T x1 z1 x2 z2:=by
 have off:∀ {lo hi st sp e1 e2 x1 x2:Int},(sp=0/\(st<lo\/hi<st)/\e1=2/\e2=1/\x1=0/\x2=1)->zfe lo hi st sp 1 1 0 1:=fun h=>.inr (.inl ⟨h.1,h.2.1,rfl,rfl,rfl,rfl⟩)
 rw [<- zkn hx hz]
 rcases pa with pa | pa
 ·rcases pu with pu | pu
  ·exact zfw hx hz pa pu
  ·rw [<- zfw hx hz pa (off pu)]
   obtain⟨_,_,rfl,rfl,rfl,rfl⟩:=pu
   rw [zcO,zcO]
   omega
 ·rcases pu with pu | pu
  ·rw [<- zfw hx hz (off pa) pu]
   obtain⟨_,_,rfl,rfl,rfl,rfl⟩:=pa
   rw [zcO,zcO]
   omega
  ·rw [<- zfw hx hz (off pa) (off pu)]
   obtain⟨_,_,rfl,rfl,rfl,rfl⟩:=pa
   obtain⟨_,_,rfl,rfl,rfl,rfl⟩:=pu
   rw [zcO,zcO]
   omega
theorem zl6 {n:Nat}{lo hi st sp e1 e2 x1 x2:Int}(h:zli lo hi st sp e1 e2 x1 x2)(hn:200<=n)(b1:Bd n lo)(b2:Bd n hi)(b3:Bd n st)(b4:Bd (n+1) sp):Bd (n+1) e1/\Bd (n+1) e2/\Bd (n+1) x1/\Bd (n+1) x2:=by
 have l:∀ c:Int,0<=c->c<=2->Bd (n+1) c:=fun c h0 h1=>by
  have:Bd 2 c:=by show _<2 ^ 2;omega
  exact this.mono (by omega)
 rcases h with (⟨_,_,_,rfl,rfl,rfl,rfl⟩ | ⟨_,_,rfl,rfl,rfl,rfl⟩ | ⟨_,rfl,rfl,rfl,rfl⟩ | ⟨_,rfl,rfl,rfl,rfl⟩) | ⟨_,_,rfl,rfl,rfl,rfl⟩
 ·exact⟨l _ (by decide) (by decide),l _ (by decide) (by decide),l _ (by decide) (by decide),l _ (by decide) (by decide)⟩
 ·exact⟨l _ (by decide) (by decide),l _ (by decide) (by decide),l _ (by decide) (by decide),l _ (by decide) (by decide)⟩
 ·exact⟨Bd.sub b1 b3,b4,Bd.sub b2 b3,b4⟩
 ·exact⟨Bd.sub b3 b2,b4.neg,Bd.sub b3 b1,b4.neg⟩
 ·exact⟨l _ (by decide) (by decide),l _ (by decide) (by decide),l _ (by decide) (by decide),l _ (by decide) (by decide)⟩
def onF:D->D
 | .tup [a,_]=>a
 | d=>d
def onL:D->D
 | .tup [_,b]=>b
 | d=>d
theorem zkK (z:Int):zea (some z)=.int z:=rfl
theorem zpD:zea none=.non:=rfl
theorem zrX {L R B T x1 z1 x2 z2:Int}:Hit L R B T x2 z2 x1 z1↔Hit L R B T x1 z1 x2 z2:=by
 have one:∀ {x1 z1 x2 z2:Int},Hit L R B T x1 z1 x2 z2->Hit L R B T x2 z2 x1 z1:=fun {x1 z1 x2 z2} ⟨p,q,h1,h2,h3,h4,h5,h6,h7⟩=>by
  have e1:x2*q+(q-p)*(x1-x2)=x1*q+p*(x2-x1):=by grind
  have e2:z2*q+(q-p)*(z1-z2)=z1*q+p*(z2-z1):=by grind
  exact⟨q-p,q,h1,by omega,by omega,by rw [e1];exact h4,by rw [e1];exact h5,by rw [e2];exact h6,by rw [e2];exact h7⟩
 exact⟨one,one⟩
theorem zn3 {F:Fg}{a b:Int×Int}{h:Int}:zbT F b.1 b.2 a.1 a.2 h↔zbT F a.1 a.2 b.1 b.2 h:=by
 unfold zbT
 rw [zrX]
theorem zpM {V:Vl}{a b:Int×Int}{h:Int}:zjc V b a h↔zjc V a b h:=by
 unfold zjc Alw
 rw [zll,zqQ b a]
 simp only [zn3]
theorem zqR {α:Type}(xs:List α){k:Int}(h0:0<=k)(h1:k<=xs.length):cutD xs none (some k)=xs.take k.toNat:=by
 unfold cutD slD
 dsimp only
 rw [if_neg (by omega),List.drop_zero,Nat.sub_zero,Nat.min_eq_left (by omega)]
theorem zmb {α:Type}(xs:List α){k:Int}(h0:0<=k)(h1:k<=xs.length):cutD xs (some k) none=xs.drop k.toNat:=by
 unfold cutD slD
 dsimp only
 rw [if_neg (by omega),Nat.min_eq_left (by omega)]
 exact List.take_of_length_le (by rw [List.length_drop];exact qf _)
theorem zen {α β:Type}(f:α->β)(xs ys:List α):xs.map f++ys.map f=(xs++ys).map f:=List.map_append.symm
theorem znR (n:Str):∀ zs:List Str,((zs.map D.str).any fun z=>eqv z (.str n))=decide (n∈zs)
 | []=>by simp
 | z::zs=>by
  rw [List.map_cons,List.any_cons,znR n zs]
  show ((z==n)||decide (n∈zs))=decide (n∈z::zs)
  rw [Bool.eq_iff_iff,Bool.or_eq_true,beq_iff_eq,decide_eq_true_eq,decide_eq_true_eq,qh]
  exact⟨fun h=>h.imp (·.symm) id,fun h=>h.imp (·.symm) id⟩
theorem znr {zs:List Str}(h:∀ z∈zs,fl 20 (.str z)=true):(zs.map D.str).all (fl 20)=true:=by
 rw [List.all_map,List.all_eq_true];exact h
theorem zhB {S:Sto}{Q:DK}{x:D}{zs:List Str}{n:Str}(hx:zer S x (zs.map D.str))(hn:fl 20 (.str n)=true)(h:∀ z∈zs,fl 20 (.str z)=true)(q:Q (.bl (!decide (n∈zs))) S):zgl (.str n) x S Q:=.inl ⟨_,⟨_,hx,hn,znr h,rfl⟩,by rw [znR];exact q⟩
theorem zch.flN {V:Vl}(ok:zch V):∀ z∈V.bs.map (·.1),fl 20 (.str z)=true:=fun z hz=>by
 obtain⟨b,hb,rfl⟩:=List.mem_map.mp hz
 exact zgs (ok.nm b hb) 20
mutual
theorem eqv_refl:∀ (k:Nat) (d:D),fl k d=true->eqv d d=true
  | _,.non,_=>rfl
  | _,.bl b,_=>by show (b==b)=true;simp
  | _,.int i,_=>by show decide (i=i)=true;simp
  | _,.str x,_=>by show (x==x)=true;simp
  | 0,.tup _,h=>by cases h
  | k+1,.tup xs,h=>eqvAll_refl k xs h
  | k,.ref _,h=>by cases k<;>cases h
  | k,.ty _,h=>by cases k<;>cases h
  | k,.rl _,h=>by cases k<;>cases h
  | k,.exn _,h=>by cases k<;>cases h
theorem eqvAll_refl:∀ (k:Nat) (xs:List D),xs.all (fl k)=true->eqvAll xs xs=true
  | _,[],_=>rfl
  | k,x::xs,h=>by
    rw [List.all_cons,Bool.and_eq_true] at h
    show (eqv x x&&eqvAll xs xs)=true
    rw [eqv_refl k x h.1,eqvAll_refl k xs h.2];rfl
end
theorem zrv {S:Sto}{Q:DK}{x y:D}{xs:List D}(hx:Lst S x xs)(hy:Lst S y xs)(f:xs.all (fl 20)=true)(q:Q (.bl false) S):oNe x y S Q:=zwT hx hy f f (eqvAll_refl 20 xs f) q
theorem zxh {S:Sto}{Q:DK}{x:D}(f:fl 20 x=true)(q:Q (.bl false) S):oNe x x S Q:=⟨true,.inl ⟨f,f,(eqv_refl 20 x f).symm⟩,q⟩
theorem zvz {P:Sto->Prop}(S':Sto){S:Sto}(e:S=S')(h:∀ S3,S3=S'->P S3):P S:=h S e
theorem zjO {S T:Sto}{n:Nat}{c:Cell}(h:S.length<=n):(S++T).set n c=S++T.set (n-S.length) c:=List.set_append_right _ _ h
def onS (p:Str->D):D->D
 | .str z=>p z
 | d=>d
theorem zsS {zs:List Str}{i:Nat}{d:D}(h:(zs.map D.str)[i]?=some d):∃ z,zs[i]?=some z/\d=.str z:=by
 rw [qg] at h
 cases e:zs[i]? with
 | none=>rw [e] at h;cases h
 | some p=>rw [e] at h;cases h;exact⟨p,rfl,rfl⟩
theorem zt2 (f:Str->D)(zs:List Str):(zs.map D.str).map (onS f)=zs.map f:=by rw [List.map_map];rfl
theorem zjQ {S:Sto}{Q:DK}{x y:Str}(fx:fl 20 (.str x)=true)(fy:fl 20 (.str y)=true)(q:Q (.bl (decide (x=y))) S):oEq (.str x) (.str y) S Q:=ztL fx fy (by
 by_cases h:x=y
 ·subst h;rw [decide_eq_true rfl];exact beq_self_eq_true x
 ·rw [decide_eq_false h];exact beq_eq_false_iff_ne.mpr h) q
open Classical in
abbrev vlD (x y z:D)(V:Vl):D:=.tup [x,y,z,zea V.hz,.int V.h0,.int V.h1,.int V.dl]
def VlS (S:Sto)(x y z:D)(V:Vl):Prop:=Lst S x (V.cs.map p2)/\Lst S y (V.bs.map bcD)/\Lst S z (V.fs.map fgD)
theorem VlS.old {S T:Sto}{x y z:D}{V:Vl}(h:VlS S x y z V):VlS (S++T) x y z V:=⟨h.1.old,h.2.1.old,h.2.2.old⟩
def onC (p:Nat->Bool):D->D
 | .str z=>.bl (p (z.cps.toList.headD 0))
 | d=>d
theorem zpT {z:Str}{i:Nat}{d:D}(h:(signs z)[i]?=some d):∃ c,z.cps.toList[i]?=some c/\d=.str ⟨#[c]⟩:=by
 unfold signs at h
 rw [qg] at h
 cases e:z.cps.toList[i]? with
 | none=>rw [e] at h;cases h
 | some p=>rw [e] at h;cases h;exact⟨p,rfl,rfl⟩
theorem zpd (p:Nat->Bool)(z:Str):(signs z).map (onC p)=(z.cps.toList.map p).map D.bl:=by
 unfold signs
 rw [List.map_map,List.map_map];rfl
theorem zqt (z:Str):(signs z).length=z.length:=by
 unfold signs
 rw [qa];exact Array.length_toList
section
variable {see:Nat->Nat->Int->Prop}{dl:Int}{s:Nat}{h0:Int}
inductive Lt (see:Nat->Nat->Int->Prop)(dl:Int)(s:Nat)(h0:Int):Nat->Int->Prop
 | base:Lt see dl s h0 s h0
 | step {k j:Nat} {h u:Int}:Lt see dl s h0 k h->h<=u->see k j u->Lt see dl s h0 j (u+dl)
end
noncomputable def ze0 (V:Vl) (k j:Nat) (h:Int):Bool:=@decide (k≠j/\∃ b c,V.bs[k]?=some b/\V.bs[j]?=some c/\zjc V b.2 c.2 h) (Classical.propDecidable _)
theorem zfx {V:Vl}{k j:Nat}{h:Int}:ze0 V k j h=true↔k≠j/\∃ b c,V.bs[k]?=some b/\V.bs[j]?=some c/\zjc V b.2 c.2 h:=by unfold ze0;exact @decide_eq_true_iff _ (Classical.propDecidable _)
theorem zqj {V:Vl}{k j:Nat}{h:Int}:ze0 V k j h=ze0 V j k h:=by
 have one:∀ {k j},ze0 V k j h=true->ze0 V j k h=true:=fun {k j} w=>by
  obtain⟨ne,b,c,hb,hc,s⟩:=zfx.mp w
  exact zfx.mpr ⟨Ne.symm ne,c,b,hc,hb,zpM.mpr s⟩
 rw [Bool.eq_iff_iff];exact⟨one,one⟩
def hrs (V:Vl):List Int:=(List.range (V.h1-V.h0+1).toNat).map fun i:Nat=>V.h0+(i:Int)
theorem znB {V:Vl}{h:Int}:h∈hrs V↔V.h0<=h/\h<=V.h1:=by
 unfold hrs
 rw [List.mem_map]
 constructor
 ·rintro⟨i,hi,rfl⟩
  have:=List.mem_range.mp hi
  omega
 ·rintro⟨h0,h1⟩
  exact⟨(h-V.h0).toNat,List.mem_range.mpr (by omega),by omega⟩
noncomputable def zao (V:Vl) (k j:Nat):List Int:=(hrs V).filter (ze0 V k j)
theorem zoL {V:Vl}{k j:Nat}:zao V k j=zao V j k:=by
 unfold zao
 exact List.filter_congr fun h _=>zqj
theorem zn5 {V:Vl}{k:Nat}:zao V k k=[]:=by
 unfold zao
 rw [List.filter_eq_nil_iff]
 intro h _ z
 exact (zfx.mp z).1 rfl
theorem zqx {V:Vl}{k j:Nat}{h:Int}:h∈zao V k j↔V.h0<=h/\h<=V.h1/\ze0 V k j h=true:=by
 unfold zao
 rw [List.mem_filter,znB,and_assoc]
theorem zpc {V:Vl}{k j:Nat}{m:Nat}(h:V.h1-V.h0+1<=m):(zao V k j).length<=m:=by
 unfold zao
 refine Nat.le_trans (List.length_filter_le _ _) ?_
 unfold hrs
 rw [qa,List.length_range];omega
structure zf4 (S:Sto)(lo t:Nat)(rs:List Nat)(n:Nat)(F:Nat->Nat->List Int):Prop where
 tt:S[t]?=some (.lst (rs.map D.ref))
 len:rs.length=n
 nd:rs.Nodup
 lt:lo<=t
 row:∀ (k r:Nat),rs[k]?=some r->lo<=r/\r≠t/\∃ cs:List Nat,S[r]?=some (.lst (cs.map D.ref))/\cs.length=n/\∀ (j c:Nat),cs[j]?=some c->c≠t/\c∉rs/\S[c]?=some (.lst ((F k j).map D.int))
theorem zf4.old {S T:Sto}{lo t n:Nat}{rs:List Nat}{F:Nat->Nat->List Int}(h:zf4 S lo t rs n F):zf4 (S++T) lo t rs n F :=
 ⟨zal h.tt,h.len,h.nd,h.lt,fun k r hk=>let ⟨a,b,cs,c1,c2,c3⟩:=h.row k r hk;⟨a,b,cs,zal c1,c2,fun j c hc=>let ⟨d1,d2,d3⟩:=c3 j c hc;⟨d1,d2,zal d3⟩⟩⟩
def zcn (F:Nat->Nat->List Int)(k j:Nat)(L:List Int):Nat->Nat->List Int:=fun a b=>if a=k/\b=j then L else F a b
theorem zwO {rs:List Nat}(nd:rs.Nodup){i j:Nat}{r:Nat}(hi:rs[i]?=some r)(hj:rs[j]?=some r):i=j:=by
 have li:=zae hi
 have lj:=zae hj
 rw [qb li] at hi
 rw [qb lj] at hj
 have e:rs[i]=rs[j]:=Option.some.inj (hi.trans hj.symm)
 have:=List.pairwise_iff_getElem.mp nd
 rcases Nat.lt_trichotomy i j with g | g | g
 ·exact absurd e (this i j li lj g)
 ·exact g
 ·exact absurd e.symm (this j i lj li g)
theorem zf4.put {S:Sto}{lo t n:Nat}{rs:List Nat}{F:Nat->Nat->List Int}(h:zf4 S lo t rs n F){k j r c':Nat}{cs:List Nat}{L:List Int}(hk:rs[k]?=some r)(hr:S[r]?=some (.lst (cs.map D.ref)))(hc:S[c']?=some (.lst (L.map D.int)))(n1:c'≠t)(n2:c'∉rs):zf4 (S.set r (.lst ((cs.set j c').map D.ref))) lo t rs n (zcn F k j L):=by
 have lr:r<S.length:=zae hr
 have mr:r∈rs:=qd hk
 obtain⟨a1,a2,cs0,b1,b2,b3⟩:=h.row k r hk
 have e0:cs0=cs:=by
  rw [hr] at b1
  have e:cs.map D.ref=cs0.map D.ref:=Cell.lst.inj (Option.some.inj b1)
  exact (List.map_inj_right fun a b z=>D.ref.inj z).mp e.symm
 subst e0
 have ot:∀ {x:Nat} {c:Cell},x≠r->S[x]?=some c->(S.set r (.lst ((cs0.set j c').map D.ref)))[x]?=some c:=fun {x c} hx e=>by rw [List.getElem?_set_ne (Ne.symm hx)];exact e
 refine⟨ot (Ne.symm a2) h.tt,h.len,h.nd,h.lt,fun k' r' hk'=>?_⟩
 by_cases er:r'=r
 ·subst er
  have ek:=zwO h.nd hk' hk
  subst ek
  refine⟨a1,a2,cs0.set j c',by rw [List.getElem?_set_self lr],by rw [List.length_set];exact b2,fun j' c hc'=>?_⟩
  by_cases ej:j'=j
  ·subst ej
   have lj:=zae hc'
   rw [List.length_set] at lj
   rw [List.getElem?_set_self lj] at hc'
   cases hc'
   refine⟨n1,n2,?_⟩
   unfold zcn
   rw [if_pos ⟨rfl,rfl⟩]
   exact ot (fun z=>n2 (z▸mr)) hc
  ·rw [List.getElem?_set_ne (Ne.symm ej)] at hc'
   obtain⟨d1,d2,d3⟩:=b3 j' c hc'
   refine⟨d1,d2,?_⟩
   unfold zcn
   rw [if_neg (fun z=>ej z.2)]
   exact ot (fun z=>d2 (z▸mr)) d3
 ·obtain⟨x1,x2,cs',y1,y2,y3⟩:=h.row k' r' hk'
  refine⟨x1,x2,cs',ot er y1,y2,fun j' c hc'=>?_⟩
  obtain⟨d1,d2,d3⟩:=y3 j' c hc'
  refine⟨d1,d2,?_⟩
  unfold zcn
  rw [if_neg (fun z=>er (by have h1:=z.1;subst h1;rw [hk] at hk';exact (Option.some.inj hk').symm))]
  exact ot (fun z=>d2 (z▸mr)) d3
def TabAt (S:Sto)(t:D)(n:Nat)(F:Nat->Nat->List Int):Prop:=∃ rs:List Nat,Lst S t (rs.map D.ref)/\rs.length=n/\∀ (k r:Nat),rs[k]?=some r->∃ cs:List Nat,S[r]?=some (.lst (cs.map D.ref))/\cs.length=n/\∀ (j c:Nat),cs[j]?=some c->S[c]?=some (.lst ((F k j).map D.int))
theorem TabAt.old {S T:Sto}{t:D}{n:Nat}{F:Nat->Nat->List Int}(h:TabAt S t n F):TabAt (S++T) t n F :=
 let ⟨rs,h1,h2,h3⟩:=h
 ⟨rs,h1.old,h2,fun k r hk=>let ⟨cs,c1,c2,c3⟩:=h3 k r hk;⟨cs,zal c1,c2,fun j c hc=>zal (c3 j c hc)⟩⟩
theorem TabAt.get {S:Sto}{t:D}{n:Nat}{F:Nat->Nat->List Int}(h:TabAt S t n F){k j:Nat}(hk:k<n)(hj:j<n):∃ (rows cells:List D) (r c:Nat),Lst S t rows/\atD rows (k:Int)=some (.ref r)/\Lst S (.ref r) cells/\atD cells (j:Int)=some (.ref c)/\Lst S (.ref c) ((F k j).map D.int):=by
 obtain⟨rs,h1,h2,h3⟩:=h
 have ek:rs[k]?=some (rs[k]'(by omega)):=qb (by omega)
 obtain⟨cs,c1,c2,c3⟩:=h3 k _ ek
 have ej:cs[j]?=some (cs[j]'(by omega)):=qb (by omega)
 exact⟨rs.map D.ref,cs.map D.ref,_,_,h1,za5 (by rw [qg,ek];rfl),Lst.here c1,za5 (by rw [qg,ej];rfl),Lst.here (c3 j _ ej)⟩
def zdf (V:Vl)(i:Nat)(z:Str):Prop:=∃ b,V.bs[i]?=some b/\b.1=z
def zgF (V:Vl)(a c:Str×(Int×Int)):Prop:=c.1≠a.1/\a.2.2<=c.2.1/\c.2.2=c.2.1+V.dl/\∃ i j,zdf V i a.1/\zdf V j c.1/\c.2.1∈zao V i j
theorem zdf.uniq {V:Vl}(ok:zch V){i j:Nat}{z:Str}(a:zdf V i z)(b:zdf V j z):i=j:=by
 obtain⟨x,hx,rfl⟩:=a
 obtain⟨y,hy,e⟩:=b
 exact (zis ok hx hy).mp e.symm
theorem zdf.mem {V:Vl}{i:Nat}{z:Str}(a:zdf V i z):z∈V.bs.map (·.1):=by
 obtain⟨x,hx,rfl⟩:=a
 exact List.mem_map.mpr ⟨x,qd hx,rfl⟩
theorem znW {V:Vl}{z:Str}(h:z∈V.bs.map (·.1)):∃ i,zdf V i z:=by
 obtain⟨b,hb,rfl⟩:=List.mem_map.mp h
 obtain⟨i,hi,e⟩:=List.mem_iff_getElem.mp hb
 exact⟨i,b,by rw [qb hi,e],rfl⟩
theorem zpL {V:Vl}(ok:zch V){i j:Nat}{b c:Str×(Int×Int)}(hb:V.bs[i]?=some b)(hc:V.bs[j]?=some c)(hij:i≠j){ms:List (Int×Int)}(hm:zsf V b.1 c.1 b.2 c.2 ms)(u:Int):u∈zao V i j↔ms.any (inS u)=true:=by
 have ne:b.1≠c.1:=fun e=>hij ((zis ok hb hc).mp e)
 rw [zqx,hm.iff,zfx]
 constructor
 ·rintro⟨h1,h2,_,b',c',hb',hc',z⟩
  rw [hb] at hb';rw [hc] at hc';cases hb';cases hc'
  exact⟨h1,h2,.inr z⟩
 ·rintro⟨h1,h2,z | z⟩
  ·exact absurd z ne
  ·exact⟨h1,h2,hij,b,c,hb,hc,z⟩
theorem zu5 (a b:Str×(Int×Int)):eqv (bcD a) (bcD b)=decide (a=b):=by
 show ((a.1==b.1)&&(decide (a.2.1=b.2.1)&&(decide (a.2.2=b.2.2)&&true)))=_
 rw [Bool.eq_iff_iff]
 simp only [Bool.and_eq_true,beq_iff_eq,decide_eq_true_eq,and_true]
 constructor
 ·rintro⟨h1,h2,h3⟩;exact Prod.ext h1 (Prod.ext h2 h3)
 ·rintro rfl;exact⟨rfl,rfl,rfl⟩
theorem zlP {b:Str×(Int×Int)}(h:fl 20 (.str b.1)=true):fl 20 (bcD b)=true:=by
 have h':fl 19 (.str b.1)=true:=h
 show (fl 19 (.str b.1)&&true)=true
 rw [h'];rfl
theorem zpk {S:Sto}{Q:DK}{a b:Str×(Int×Int)}(fa:fl 20 (.str a.1)=true)(fb:fl 20 (.str b.1)=true)(q:Q (.bl (!decide (a=b))) S):oNe (bcD a) (bcD b) S Q:=⟨_,.inl ⟨zlP fa,zlP fb,rfl⟩,by rw [zu5];exact q⟩
def zhP (V:Vl)(n:Str)(h:Int)(ws:List (Str×(Int×Int))):Prop:=ws[0]?=some (n,h,h)/\∀ (k:Nat) a c,ws[k]?=some a->ws[k+1]?=some c->zgF V a c
end Dp
namespace My
open PySem PySem.Spec PyProof.Rows L2
section
variable {prog:Program}{w:World}{A:Around}{E:Value->Shared->Prop}{s:Shared}
theorem zx4 {R:Result->Shared->Prop}{r:Addr}{a b c:Int}{t u v:Tok}{n:Nat}(hh:A.in1.handled=none)(hr:IsRange s.heap r a b c t u v)(hbig:Builtin.Range.small a b c=false)(hn:Builtin.Range.rangeSize a b c=n)(hlen:n<=2 ^ 24)(S:Addr)(res:Value)(c₀:Nat)
  (hS:s.heap.get? S=some { cls:=.type "list",data:=.seq #[] c₀ })
  (hR:∀ h' tk acc' c',(∀ b o,b≠S->s.heap.get? b=some o->h'.get? b=some o)->h'.get? S=some { cls:=.type "list",dict:=none,data:=.seq acc' c',slots:=#[] }->ItemsOf (fun i v=>∃ t,v=.int (a+i*c) t) acc' n->R (.ok (.ret res)) { s with heap:=h',toks:=tk }) :
  wpAny (model prog w) A.in1 (Builtin.List.listExtendWith (.ref S) (.ref r) res)
   (fun fin s'=>match fin with | .done f=>R (.ok f) s' | .again c'=>c'.quiet=true/\codeAny (model prog w) A c' R s') (fun e s'=>R (.error e) s') s:=by
 have q1:S≠r:=fun z=>by rw [z,hr] at hS;simp at hS
 have q2:S<s.heap.objs.size:=Heap.lt_size hS
 have q3:S≠s.heap.objs.size:=Nat.ne_of_lt q2
 have q4:S∉[s.heap.objs.size]:=fun z=>q3 (List.mem_singleton.mp z)
 have W:=(Walks.longrange (prog:=prog) (w:=w) (A:=A.in1) hh s.heap.objs.size a c n).toS
 have go:∀ (h:Heap) (c₁ tk:Nat),IsLongIter h s.heap.objs.size (a+((0:Nat):Int)*c) ((n:Int)-((0:Nat):Int)) c->(∀ b o,b≠S->s.heap.get? b=some o->h.get? b=some o) ->
   h.get? S=some { cls:=.type "list",data:=.seq #[] c₁ }->codeAny (model prog w) A (.builtin "list.extend.loop" ⟨[.ref S,.ref s.heap.objs.size,res],[]⟩) R { s with heap:=h,toks:=tk }:=fun h c₁ tk g1 g2 g3=>by
  refine codeAny_extend_loopS W (by rw [sizeLine_eq];omega) S q4 res n 0 _ #[] c₁ rfl (Nat.zero_le _) g1 g3 (ItemsOf.nil _) fun s' acc' c' m1 m2 m3=>?_
  rw [Moved.eq_with m1]
  refine hR s'.heap s'.toks acc' c' (fun x o z1 z2=>m1.heap x o (fun z=>?_) (g2 x o z1 z2)) m2 m3
  rcases qh.mp z with z3 | z3
  ·exact z1 z3
  ·exact absurd (Heap.lt_size z2) (by rw [List.mem_singleton.mp z3];exact Nat.lt_irrefl _)
 unfold Builtin.List.listExtendWith
 refine wpAny_bind (wpAny_typeOf (T:="range") ⟨_,hr,rfl⟩ ?_)
 have e1:Builtin.List.listSameRef (.ref S) (.ref r)=false:=by simp [Builtin.List.listSameRef,q1]
 simp only [e1,show (Value.type "range"==Value.type "list")=false by decide,show (Value.type "range"==Value.type "tuple")=false by decide,Bool.or_false,Bool.false_eq_true,if_false]
 refine wpAny_bind (wpAny_pyIter_longrange hr hbig ?_)
 refine wpAny_bind (wpAny_holding (wpAny_hint_range (n:=n) (qc _ hr) hn hlen ?_))
 have i1:IsLongIter (s.heap.push { cls:=.type "longrange_iterator",data:=.fields #[rawInt a,rawInt (Builtin.Range.rangeSize a b c),rawInt c] }) s.heap.objs.size (a+((0:Nat):Int)*c) ((n:Int)-((0:Nat):Int)) c:=by
  show IsLongIter _ _ _ _ _;rw [hn];simpa using Heap.get?_push_size _ rfl
 have i2:=qc { cls:=.type "longrange_iterator",data:=.fields #[rawInt a,rawInt (Builtin.Range.rangeSize a b c),rawInt c] } hS
 refine wpAny_ite_split (fun _=>?_) (fun _=>wpAny_pure ⟨plainId_quiet F.plain_extend_loop _,go _ c₀ _ i1 (fun _ _ _ z=>qc _ z) i2⟩)
 refine wpAny_bind (wpAny_rule ?_)
 refine wpAny_bind ?_
 show wpAny _ A.in1 (updateSeq S (·.push .none) >>= fun _=>updateSeq S (·.pop)) _ _ _
 refine wpAny_bind (wpAny_updateSeq i2 rfl ?_)
 have i3:=Heap.get?_update_self (Obj.mapSeq (·.push Value.none)) i2 rfl
 refine wpAny_updateSeq (hz:=by seq_fits) i3 rfl ?_
 have i4:=Heap.get?_update_self (Obj.mapSeq (·.pop)) i3 rfl
 refine wpAny_pure ⟨plainId_quiet F.plain_extend_loop _,go _ _ _ ?_ (fun x o z1 z2=>?_) i4⟩
 ·exact (Heap.get?_update_other _ _ q3).trans ((Heap.get?_update_other _ _ q3).trans i1)
 ·exact (Heap.get?_update_other _ _ (Ne.symm z1)).trans ((Heap.get?_update_other _ _ (Ne.symm z1)).trans (qc _ z2))
theorem zoK {Q:Value->Shared->Prop}{r:Addr}{a b c:Int}{t u v:Tok}{n:Nat}(hh:A.in1.in1.handled=none)(hr:IsRange s.heap r a b c t u v)(hbig:Builtin.Range.small a b c=false)(hn:Builtin.Range.rangeSize a b c=n)(hlen:n<=2 ^ 24)
  (hQ:∀ h' tk acc' c',(∀ b o,s.heap.get? b=some o->h'.get? b=some o)->h'.get? s.heap.objs.size=some { cls:=.type "list",dict:=none,data:=.seq acc' c',slots:=#[] }->ItemsOf (fun i v=>∃ t,v=.int (a+i*c) t) acc' n->Q (.ref s.heap.objs.size) { s with heap:=h',toks:=tk }) :
  wpAny (model prog w) A (call (.type "list") [.ref r]) Q E s:=by
 refine callType_codes (Q₁:=fun x y=>x=.ref s.heap.objs.size/\y={ s with heap:=s.heap.push { cls:=.type "list",data:=.seq #[] } }) F.called_list (F.typeCall_list_1 _) F.entry_list_init (code_list_new _ ⟨rfl,rfl⟩) fun x y z=>?_
 obtain⟨rfl,rfl⟩:=z
 generalize hSz:s.heap.objs.size=S at *
 have hS:(s.heap.push { cls:=.type "list",data:=.seq #[] }).get? S=some { cls:=.type "list",data:=.seq #[] }:=by rw [<- hSz];exact Heap.get?_push_size _ rfl
 refine⟨⟨_,hS,rfl⟩,F.args_list_init_2 _ _,?_⟩
 have hr':=qc { cls:=.type "list",data:=.seq #[] } hr
 have old:∀ b o,s.heap.get? b=some o->b≠S:=fun b o e=>by rw [<- hSz];exact Nat.ne_of_lt (Heap.lt_size e)
 have up:∀ b o,s.heap.get? b=some o->(s.heap.push { cls:=.type "list",data:=.seq #[] }).get? b=some o:=fun b o e=>qc _ e
 generalize s.heap.push { cls:=.type "list",data:=.seq #[] }=hp at hS hr' up
 have nSr:S≠r:=fun z=>by rw [z,hr'] at hS;simp at hS
 show wpAny _ A.in1.in1 (do let old <- Builtin.List.listItems (.ref S);Builtin.List.listUpdate (.ref S) (fun _=>#[]);letGo old.toList.reverse;Builtin.List.listExtendWith (.ref S) (.ref r) .none) _ _ _
 refine wpAny_bind ?_
 unfold Builtin.List.listItems
 refine wpAny_bind (wpAny_seqItems hS rfl (wpAny_pure ?_))
 show wpAny _ A.in1.in1 (updateSeq S (fun _=>#[]) >>= fun _=>letGo (#[]:Array Value).toList.reverse >>= fun _=>Builtin.List.listExtendWith (.ref S) (.ref r) .none) _ _ _
 refine wpAny_bind (wpAny_updateSeq hS rfl ?_)
 have j1:=Heap.get?_update_self (Obj.mapSeq (fun _=>(#[]:Array Value))) hS rfl
 have j2:∀ b o,b≠S->hp.get? b=some o->(hp.update S (Obj.mapSeq (fun _=>(#[]:Array Value)))).get? b=some o:=fun b o hb e=>(Heap.get?_update_other _ _ (Ne.symm hb)).trans e
 refine wpAny_bind (wpAny_letGo ?_)
 refine zx4 (A:=A.in1) hh (j2 r _ (Ne.symm nSr) hr') hbig hn hlen S .none _ j1 fun h' tk acc' c' k1 k2 k3=>?_
 exact⟨rfl,hQ h' tk acc' c' (fun b o e=>k1 b o (old b o e) (j2 b o (old b o e) (up b o e))) k2 k3⟩
end
def zx1 (ta:TA):TE:=fun U H Q=>ta U H fun vs H1=>∃ i j:Int,vs=[.int i,.int j]/\j-i<=900/\∀ l,H1 l=none->Q (.ref l) (upd H1 l (.lst (((List.range (j-i).toNat).map fun k:Nat=>i+(k:Int)).map V.int)))
theorem zxj {P:Nat->Int}:∀ {n:Nat} {us:List Value},us.length=n->(∀ k v,us[k]?=some v->∃ t,v=Value.int (P k) t)->Vals (((List.range n).map P).map V.int) us:=fun {n us}=>by
 induction n generalizing us P with
 | zero=>intro h _;cases us with | nil=>exact .nil | cons _ _=>cases h
 | succ n ih =>
  intro h g
  cases us with
  | nil=>cases h
  | cons u us =>
   have e0:List.map P (List.map Nat.succ (List.range n))=List.map (P ∘ Nat.succ) (List.range n):=by rw [List.map_map]
   rw [List.range_succ_eq_map,List.map_cons,List.map_cons,e0]
   obtain⟨t,e⟩:=g 0 u rfl
   exact .cons ⟨t,e⟩ (ih (P:=P ∘ Nat.succ) (by simpa using h) fun k v hk=>g (k+1) v (by simpa using hk))
theorem zob {X:Cx}{a b:Expr}{ta:TA}{p1 p2 pos1 pos2:Pos}(hc:X.calm=true)(hgl:Gl X "list")(hml:X.mg "list"=none)(hgr:Gl X "range")(hmr:X.mg "range"=none)(ha:PA X [a,b] ta)
    (hs:starEach [a,b] X.env=[(false,eval a X.env),(false,eval b X.env)]) (hs2:starEach [b] X.env=[(false,eval b X.env)]) :
    PE X (.Call (.Name "list" p1) [.Call (.Name "range" p2) [a,b] [] pos2] [] pos1) (zx1 ta):=by
  have hs3:starEach [.Call (.Name "range" p2) [a,b] [] pos2] X.env=[(false,eval (.Call (.Name "range" p2) [a,b] [] pos2) X.env)]:=by rfl
  intro pins s U H Q I h
  refine Call_ (zc2 I hgl hml boot_list (PyProof.Rows.callWith_type1 ?_ (by rw [hs3];rfl) (by rfl)))
  rw [hs3]
  show wpAny _ X.A (spliced ((false,eval (.Call (.Name "range" p2) [a,b] [] pos2) X.env)::backTo pos1 [])) _ _ s
  refine Calls.spliced_cons (Call_ (zc2 I hgr hmr boot_range (PyProof.Rows.callWith_type1 (thn (ha pos2 pins s U H _ I h) fun us s1 ⟨vs,H1,I1,r1,q1⟩=>?_) (by rw [hs,hs2]) (by rw [hs2];rfl))))
  obtain⟨i,j,e,hlen,q⟩:=q1
  subst e
  cases r1 with | cons r rr=>cases rr with | cons r' rr =>
  cases rr
  obtain⟨t,rfl⟩:=r
  obtain⟨t',rfl⟩:=r'
  refine call_range_2 (Calls.spliced_nil ?_)
  have I2:Inv X pins U H1 { s1 with heap:=s1.heap.push { cls:=.type "range",data:=.fields #[.int i t,.int j t',.int 1 s1.toks] },toks:=s1.toks+1 }:=I1.kept fun b o e=>qc _ e
  have fin : ∀ h' tk acc' c', (∀ b o, (s1.heap.push { cls := .type "range", data := .fields #[.int i t, .int j t', .int 1 s1.toks] }).get? b = some o → h'.get? b = some o) →
      h'.get? (s1.heap.push { cls:=.type "range",data:=.fields #[.int i t,.int j t',.int 1 s1.toks] }).objs.size=some { cls:=.type "list",dict:=none,data:=.seq acc' c',slots:=#[] }->ItemsOf (fun k v=>∃ t,v=Value.int (i+k*1) t) acc' (j-i).toNat ->
      EP X pins U Q (.ref (s1.heap.push { cls:=.type "range",data:=.fields #[.int i t,.int j t',.int 1 s1.toks] }).objs.size) { s1 with heap:=h',toks:=tk }:=fun h' tk acc' c' hk he hacc=>by
    have hv:Vals (((List.range (j-i).toNat).map fun k:Nat=>i+(k:Int)).map V.int) acc'.toList:=by
      refine zxj (P:=fun k:Nat=>i+(k:Int)) (by rw [Array.length_toList];exact hacc.1) fun k v hv=>?_
      rw [Array.getElem?_toList] at hv
      obtain⟨t,e⟩:=hacc.2 k v hv
      exact⟨t,by rw [e,Int.mul_one]⟩
    exact⟨.ref _,_,I2.laid (t':=tk) (o:=.lst (((List.range (j-i).toNat).map fun k:Nat=>i+(k:Int)).map V.int)) hk (qf _) ⟨by rw [qa,qa,List.length_range];exact Nat.le_of_lt (zp9 (by omega)),acc'.toList,c',hv,by rw [Array.toArray_toList];exact he⟩,rfl,q _ I2.fresh⟩
  have hz:Builtin.Range.rangeSize i j 1=((j-i).toNat:Nat):=by rw [rangeSize_one];split<;>omega
  cases hsm:Builtin.Range.small i j 1 with
  | true=>exact call_list_range (n:=(j-i).toNat) (I2.ok.hd hc) (IsRange.new ..) hsm hz (by omega) fun h' tk acc' c' hk he hacc=>fin h' tk acc' c' hk he hacc
  | false=>exact zoK (n:=(j-i).toNat) (I2.ok.hd hc) (IsRange.new ..) hsm hz (by omega) fun h' tk acc' c' hk he hacc=>fin h' tk acc' c' hk he hacc
theorem zlw {α:Type}(xs:List α)(a:Nat):∀ m,a+m<=xs.length->((List.range m).map (a+·)).filterMap (xs[·]?)=(xs.drop a).take m
 | 0,_=>by simp
 | m+1,h=>by
  rw [List.range_succ,List.map_append,List.filterMap_append,zlw xs a m (by omega),List.take_succ,List.getElem?_drop]
  simp only [List.map_cons,List.map_nil,List.filterMap_cons,List.filterMap_nil]
  rw [qb (by omega)];rfl
theorem zya (n:Nat)(lo hi:Option Int):Builtin.Str.strSliceIndices lo hi 1 n=(List.range (HT.sIx n n hi-HT.sIx n 0 lo)).map (HT.sIx n 0 lo+·):=by
 rw [<- sliceRange_one]
 unfold Builtin.Str.strSliceIndices
 have cl:∀ (o:Option Int) (d:Nat),(match o with | none=>(d:Int) | some i=>if (1:Int) > 0 then max 0 (min (if i<0 then i+(n:Int) else i) n) else max (-1) (min (if i<0 then i+(n:Int) else i) ((n:Int)-1)))=((HT.sIx n d o:Nat):Int):=fun o d=>by
  cases o with
  | none=>rfl
  | some i =>
   show (if (1:Int) > 0 then _ else _)=(((if i<0 then (i+n).toNat else min i.toNat n):Nat):Int)
   rw [if_pos (by decide)]
   by_cases h:i<0
   ·rw [if_pos h,if_pos h];omega
   ·rw [if_neg h,if_neg h];omega
 have h1:=cl lo 0
 have h2:=cl hi n
 simp only [show ((1:Int) > 0)=True by simp,if_true] at h1 h2 ⊢
 rw [<- h1,<- h2]
 rfl
theorem zjs (n:Nat)(o:Option Int)(d:Nat)(hd:d<=n):HT.sIx n d o<=n:=by
  cases o with
  | none=>exact hd
  | some i =>
    show (if i<0 then (i+n).toNat else min i.toNat n)<=n
    split<;>omega
theorem zpU (x:Str)(lo hi:Option Int):Txt.slice x lo hi=⟨((x.cps.toList.drop (HT.sIx x.length 0 lo)).take (HT.sIx x.length x.length hi-HT.sIx x.length 0 lo)).toArray⟩:=by
 have hl:x.cps.toList.length=x.length:=Array.length_toList
 have b1:=zjs x.length lo 0 (Nat.zero_le _)
 have b2:=zjs x.length hi x.length (qf _)
 unfold Txt.slice
 rw [zya]
 have fm:((List.range (HT.sIx x.length x.length hi-HT.sIx x.length 0 lo)).map (HT.sIx x.length 0 lo+·)).filterMap (x.cps[·]?)=(x.cps.toList.drop (HT.sIx x.length 0 lo)).take (HT.sIx x.length x.length hi-HT.sIx x.length 0 lo):=by
  rcases Nat.lt_or_ge (HT.sIx x.length x.length hi) (HT.sIx x.length 0 lo) with g | g
  ·rw [show HT.sIx x.length x.length hi-HT.sIx x.length 0 lo=0 by omega];simp
  ·rw [<- zlw x.cps.toList _ _ (by rw [hl];omega)]
   congr 1
   funext i
   rw [Array.getElem?_toList]
 split
 ·rename_i h
  rw [Bool.and_eq_true] at h
  have h2:=eq_of_beq h.2
  rw [qa,List.length_range] at h2
  have z1:HT.sIx x.length 0 lo=0:=by omega
  rw [h2,z1,List.drop_zero,List.take_of_length_le (by omega)]
 ·rw [fm]
def zye:V->Option Int->Option Int->Hp->VK->Prop:=fun x lo hi H Q=>∃ z:Str,x=.str z/\z.length<=sizeLine/\Q (.str ⟨((z.cps.toList.drop (HT.sIx z.length 0 lo)).take (HT.sIx z.length z.length hi-HT.sIx z.length 0 lo)).toArray⟩) H
theorem zvh {X:Cx}:SlR X zye:=by
 intro pins s U H x v vl vu lo hi sl Q I rx hs pl pu h
 obtain⟨z,rfl,hz,q⟩:=h
 obtain⟨t,rfl⟩:=rx
 refine⟨"str",_,F.slot_str_getitem.lookup,typeIs_str _ _ _,?_⟩
 have go:∀ (l u:Option (Int×Tok)),l.map (·.1)=lo->u.map (·.1)=hi->s.heap.IsSlice sl l u none->wpAny (model X.prog X.w) X.A (getItem (.str z t) (.ref sl)) (EP X pins U Q) X.xe s:=fun l u el eu is=>by
  refine wpAny_getItem_str_slice is rfl ?_
  unfold sliceMade slicePicked
  rw [el,eu]
  refine post_val_or_str ⟨Nat.le_trans (Txt.slice_le z lo hi) hz,fun t' k=>?_⟩
  show EP X pins U Q (.str (Txt.slice z lo hi) t') _
  rw [zpU]
  exact⟨.str _,H,I.tok _,⟨t',rfl⟩,q⟩
 obtain⟨o,ho,hc,hd⟩:=hs
 cases pl with
 | none =>
  cases pu with
  | none=>exact go none none rfl rfl ⟨o,ho,hc,hd⟩
  | int j tj=>exact go none (some (j,tj)) rfl rfl ⟨o,ho,hc,hd⟩
 | int i ti =>
  cases pu with
  | none=>exact go (some (i,ti)) none rfl rfl ⟨o,ho,hc,hd⟩
  | int j tj=>exact go (some (i,ti)) (some (j,tj)) rfl rfl ⟨o,ho,hc,hd⟩
section
open AutoSeq1 (wpAny_loadPart')
variable {prog:Program}{w:World}{A:Around}{E:Value->Shared->Prop}{s:Shared}
theorem zjD {it t:Addr}{i:Nat}{items:Array Value}{x:Value}{Q:Value->Shared->Prop}(hit:s.heap.IsTupleIter it t i)(ht:s.heap.IsTuple t items)(hx:items[i]?=some x)
  (hQ:∀ h',h'.IsTupleIter it t (i+1)->Heap.SameBut it s.heap h'->Q x { s with heap:=h' }):wpAny (model prog w) A (Builtin.SmallTypes.nextOf (.ref it)) Q E s:=by
 obtain⟨o,ho,hc,hd⟩:=id hit
 obtain⟨ol,hol,_,nl,hdl⟩:=ht
 unfold Builtin.SmallTypes.nextOf
 refine wpAny_bind (wpAny_callSpecial?_slot (name:=Str.ofString "__next__") hit.typeIs F.slot_tuple_iterator_next (wpAny_call_entry F.slot_tuple_iterator_next hit.typeIs F.entry_tuple_iterator_next ?_ (F.args_tuple_iterator_next_1 _)))
 show wpAny _ _ (field (.ref it) 0 >>= _) _ _ s
 refine wpAny_bind (wpAny_field ho hd (x:=.ref t) rfl ?_)
 show wpAny _ _ (if (Value.ref t==Value.none)=true then _ else _) _ _ s
 rw [if_neg (show ¬ ((Value.ref t==Value.none)=true) from Bool.false_ne_true)]
 show wpAny _ _ (field (.ref it) 1 >>= _) _ _ s
 refine wpAny_bind (wpAny_field ho hd (x:=.int i 0) rfl ?_)
 show wpAny _ _ (seqItems? (.ref t) >>= _) _ _ s
 refine wpAny_bind (wpAny_seqItems hol hdl ?_)
 simp only [Int.toNat_natCast,hx]
 refine wpAny_bind (wpAny_setField ho hd (by simp) (wpAny_pure ⟨x,rfl,wpAny_pure (hQ _ ?_ (Heap.SameBut.update ..))⟩))
 exact⟨_,Heap.get?_update_self _ ho (Obj.isFreed_of_fields (Obj.data_mapFields hd _)),(Obj.cls_mapFields ..).trans hc,by rw [Obj.data_mapFields hd];simp [rawInt]⟩
theorem zhR {it t:Addr}{i:Nat}{items:Array Value}{Q:Value->Shared->Prop}(hh:A.handled=none)(hit:s.heap.IsTupleIter it t i)(ht:s.heap.IsTuple t items)(hx:items[i]?=none)
  (hE:∀ h' e,Heap.ExtBut it s.heap h'->(∃ o,h'.get? e=some o/\o.cls=.type "StopIteration")->E (.ref e) { s with heap:=h' }):wpAny (model prog w) A (Builtin.SmallTypes.nextOf (.ref it)) Q E s:=by
 obtain⟨o,ho,hc,hd⟩:=id hit
 obtain⟨ol,hol,_,nl,hdl⟩:=ht
 unfold Builtin.SmallTypes.nextOf
 refine wpAny_bind (wpAny_callSpecial?_slot (name:=Str.ofString "__next__") hit.typeIs F.slot_tuple_iterator_next (wpAny_call_entry F.slot_tuple_iterator_next hit.typeIs F.entry_tuple_iterator_next ?_ (F.args_tuple_iterator_next_1 _)))
 show wpAny _ _ (field (.ref it) 0 >>= _) _ _ s
 refine wpAny_bind (wpAny_field ho hd (x:=.ref t) rfl ?_)
 show wpAny _ _ (if (Value.ref t==Value.none)=true then _ else _) _ _ s
 rw [if_neg (show ¬ ((Value.ref t==Value.none)=true) from Bool.false_ne_true)]
 show wpAny _ _ (field (.ref it) 1 >>= _) _ _ s
 refine wpAny_bind (wpAny_field ho hd (x:=.int i 0) rfl ?_)
 show wpAny _ _ (seqItems? (.ref t) >>= _) _ _ s
 refine wpAny_bind (wpAny_seqItems hol hdl ?_)
 simp only [Int.toNat_natCast,hx]
 refine wpAny_bind (wpAny_rule (wpAny_bind (wpAny_setField ho hd (by simp) ?_)))
 show wpAny _ _ (newExc (.type "StopIteration") [] >>= _) _ _ _
 refine wpAny_bind ?_
 simp only [newExc,newTuple]
 refine wpAny_bind (wpAny_newObj_type ?_ (by size_fits))
 refine wpAny_bind (m:=firstArgMember _ _) (wpAny_of_eq (a:=Value.none) (by first | rfl | (simp only [firstArgMember];rfl)) ?_)
 refine wpAny_newObj_type ?_ (by size_fits)
 simp only [raiseNew]
 refine wpAny_bind (wpAny_handled ?_)
 first | rw [show A.in1.handled=none from hh] | rw [hh]
 refine wpAny_bind (wpAny_pure (wpAny_throw ?_))
 exact hE _ _ (((Heap.SameBut.update ..).extBut.push _).push _) ⟨_,Heap.get?_push_size _ rfl,rfl⟩
theorem zvA (hh:A.handled=none)(it t:Addr)(hne:t≠it)(items:Array Value) :
  Draws prog w A it [it,t] items.size (fun i v=>items[i]?=some v) (fun i h=>h.IsTupleIter it t i/\h.IsTuple t items) where
 live:=fun _ _ st=>let ⟨o,ho,_⟩:=st.1;⟨o,ho⟩
 frame:=fun _ _ _ st hk=>⟨let ⟨o,ho,r⟩:=st.1;⟨o,hk it (by simp) o ho,r⟩,let ⟨o,ho,r⟩:=st.2;⟨o,hk t (by simp) o ho,r⟩⟩
 item:=fun i s Q E hi st hQ=>zjD st.1 st.2 (x:=items[i]) (by simp [hi]) fun h' hit' hs'=>hQ _ h' s.toks (by simp [hi]) ⟨hit',st.2.extBut hs'.extBut hne⟩ hs'
 done:=fun s Q E st hE=>zhR hh st.1 st.2 (by simp) hE
theorem zvo (hh:A.handled=none)(it t:Addr)(items:Array Value)(i:Nat)(hx:items[i]?=none) :
  Draws prog w A it [it,t] 0 (fun _ _=>True) (fun _ h=>h.IsTupleIter it t i/\h.IsTuple t items) where
 live:=fun _ _ st=>let ⟨o,ho,_⟩:=st.1;⟨o,ho⟩
 frame:=fun _ _ _ st hk=>⟨let ⟨o,ho,r⟩:=st.1;⟨o,hk it (by simp) o ho,r⟩,let ⟨o,ho,r⟩:=st.2;⟨o,hk t (by simp) o ho,r⟩⟩
 item:=fun i s Q E hi=>absurd hi (Nat.not_lt_zero _)
 done:=fun s Q E st hE=>zhR hh st.1 st.2 hx hE
theorem newT (l:Addr)(items:Array Value)(n:Nat)(dct:Option Addr)(sl:Array (Option Value)) :
    Meets (Builtin.«enumerate.__new__» ⟨[.type "enumerate",.ref l],[]⟩) (fun _ R s=>s.heap.get? l=some { cls:=.type "tuple",dict:=dct,data:=.seq items n,slots:=sl } /\
      R (.ok (.ret (.ref (s.heap.push { cls:=.type "tuple_iterator",data:=.fields #[.ref l,.int 0 0] }).objs.size)))
        { s with heap:=(s.heap.push { cls:=.type "tuple_iterator",data:=.fields #[.ref l,.int 0 0] }).push { cls:=.type "enumerate",data:=.fields #[.none,.bool false,.ref s.heap.objs.size,rawInt 0,.none,.none] } }) :=
  .of_wp fun prog w A R s h=>by
    obtain⟨hp,g,d,tk,os⟩:=s
    obtain⟨hl,h⟩:=h
    have hsub:=sub_enumerate
    have hL:Heap.IsTuple (Shared.heap ⟨hp,g,d,tk,os⟩) l items:=⟨_,hl,rfl,n,rfl⟩
    wp_walk using wpAny_loadPart' hl
    refine wpAny_stack_any fun st=>wpAny_pure ?_
    split
    . rename_i c _ _ _ _ _
      cases (c==Value.type "enumerate")
      . wp_walk using wpAny_loadPart' hl,wpAny_pyIter_tuple hL
        exact⟨_,rfl,h⟩
      . wp_walk using wpAny_loadPart' hl,wpAny_pyIter_tuple hL
        exact⟨_,rfl,h⟩
    . wp_walk using wpAny_loadPart' hl,wpAny_pyIter_tuple hL
      exact⟨_,rfl,h⟩
theorem zwS {l:Addr}{items:Array Value}{Q:Value->Shared->Prop}(hL:s.heap.IsTuple l items)
    (h:∀ h',IsEnum h' (s.heap.objs.size+1) s.heap.objs.size 0 .none->h'.IsTupleIter s.heap.objs.size l 0->h'.objs.size=s.heap.objs.size+2 ->
      (∀ b o,s.heap.get? b=some o->h'.get? b=some o)->Q (.ref (s.heap.objs.size+1)) { s with heap:=h' }):wpAny (model prog w) A (call (.type "enumerate") [.ref l]) Q E s:=by
  obtain⟨⟨c,dct,dt,sl⟩,hl,hc,n,hd⟩:=hL
  replace hc:c=.type "tuple":=hc
  replace hd:dt=.seq items n:=hd
  subst hc hd
  refine callType_new F.called_enumerate (by decide) (F.typeCall_enumerate_1 _) (F.newCall_enumerate_1 _) (fun obj=>F.args_object_init_2 obj _) F.entry_enumerate_new (newT l items n dct sl) ⟨hl,?_⟩
  have hz:(s.heap.push { cls:=.type "tuple_iterator",data:=.fields #[.ref l,.int 0 0] }).objs.size=s.heap.objs.size+1:=Heap.size_push ..
  show _/\_
  rw [hz]
  have he : IsEnum ((s.heap.push { cls := .type "tuple_iterator", data := .fields #[.ref l, .int 0 0] }).push
      { cls:=.type "enumerate",data:=.fields #[.none,.bool false,.ref s.heap.objs.size,rawInt 0,.none,.none] }) (s.heap.objs.size+1) s.heap.objs.size 0 .none:=by
    have:=Heap.get?_push_size (s.heap.push { cls:=.type "tuple_iterator",data:=.fields #[.ref l,.int 0 0] })
      (o:={ cls:=.type "enumerate",data:=.fields #[.none,.bool false,.ref s.heap.objs.size,rawInt 0,.none,.none] }) rfl
    rw [hz] at this;exact this
  exact⟨⟨_,he,rfl⟩,h _ he ⟨_,qc _ (Heap.get?_push_size _ rfl),rfl,rfl⟩ (by rw [Heap.size_push,hz]) fun b o x=>qc _ (qc _ x)⟩
end
def zrf (K:PySem.W.Frag)(l:Addr):It :=
  ⟨fun i H=>∃ xs x,SqT K H l xs/\xs[i]?=some x,
   fun i H v H'=>∃ p,v=.ref p/\H p=none/\∀ xs x,SqT K H l xs->xs[i]?=some x->H'=upd H p (.tup [.int i,x]),
   fun i H=>∃ xs,SqT K H l xs/\xs.length<=i⟩
theorem zpb {h:Heap}{a b:Addr}{o u:Obj}(ha:h.get? a=some o)(hb:h.get? b=some u)(hc:o.cls≠u.cls):a≠b:=fun e=>by
 subst e
 rw [ha] at hb
 cases hb
 exact hc rfl
theorem zn8 {P:Program}{w:World}{K:PySem.W.Frag}{es:List Expr}{kk:Nat}{pos:Pos}{e it l:Addr}(hne:e≠it) :
  Turn P w K (.Tuple es kk pos) (zrf K l) [e,it] e (fun i h=>(∃ old,IsEnum h e it i old)/\h.IsTupleIter it l i) where
 mem:=by simp
 obj:=fun i h st b hb=>by
  obtain⟨⟨old,he⟩,⟨o1,h1,_,h1d⟩⟩:=st
  simp only [qh,List.not_mem_nil,or_false] at hb
  rcases hb with rfl | rfl
  ·exact⟨_,he,fun v q=>by cases (show Data.fields _=Data.cell v from q)⟩
  ·exact⟨_,h1,fun v q=>by rw [h1d] at q;cases q⟩
 keep:=fun i h h' st k=>by
  obtain⟨⟨old,he⟩,⟨o,ho,r⟩⟩:=st
  exact⟨⟨old,k e (by simp) _ he⟩,⟨o,k it (by simp) o ho,r⟩⟩
 item:=by
  intro X hP hw hK hc i pins s U H E I hf st hg
  subst hP hw hK
  obtain⟨⟨old,he⟩,h1⟩:=st
  obtain⟨xs,x,hx1,hx⟩:=hg
  obtain⟨its,rx,px,zx⟩:=I.tuple hx1
  obtain⟨u,hu,ru⟩:=Vals.get rx hx
  have pt:s.heap.IsTuple l its.toArray:=px
  obtain⟨oi,ei,ci,_⟩:=id h1
  obtain⟨ol,el,cl,_⟩:=id pt
  have n1:l≠it:=zpb el ei (by rw [cl,ci];decide)
  have n2:e≠l:=zpb he el (by rw [cl];show Value.type "enumerate"≠Value.type "tuple";decide)
  have hlt:i<its.toArray.size:=by
   have:=(List.getElem?_eq_some_iff.mp hu).1
   simpa using this
  refine wpAny_pyNext_enum_itemD (zvA (A:=X.A.in1) (show X.A.in1.handled=none from I.ok.hd hc) it l n1 its.toArray) he ⟨h1,pt⟩ hlt hne (by simp [hne,n2]) fun u' h' tk hP a1 a2 a3 a4 hk=>?_
  have eu:u'=u:=by
   have hP':its.toArray[i]?=some u':=hP
   rw [List.getElem?_toArray,hu] at hP'
   cases hP';rfl
  subst eu
  refine⟨_,rfl,wpAny_letOwnedTupleGo_enum (s:={ s with heap:=h',toks:=tk+1 }) a1 fun h'' he'' hs''=>?_⟩
  have lt:∀ {c o},s.heap.get? c=some o->s.heap.objs.size≠c:=fun q=>Nat.ne_of_gt (Heap.lt_size q)
  have k2:∀ b u,b∉[e,it]->s.heap.get? b=some u->h''.get? b=some u:=fun b u hb q=>by
   simp only [qh,List.not_mem_nil,or_false,not_or] at hb
   exact hs''.extBut b u hb.1 (hk b u hb.1 hb.2 q)
  have new:h''.get? s.heap.objs.size=some { cls:=.type "tuple",data:=.seq #[.int i tk,u'] }:=hs''.extBut _ _ (lt he) a3
  refine⟨.ref s.heap.objs.size,upd H s.heap.objs.size (.tup [.int i,x]),I.turnNew (t':=tk+1) hf k2 (qf _) ⟨by show 2<=sizeLine;decide,[.int i tk,u'],.cons ⟨_,rfl⟩ (.cons ru .nil),_,new,rfl,_,rfl⟩,rfl,⟨_,rfl,I.fresh,?_⟩,?_,fun b hb=>?_⟩
  ·intro xs' x' hx1' hx'
   cases I.tuple_inj hx1 hx1'
   rw [hx] at hx'
   cases hx'
   rfl
  ·exact⟨⟨_,he''⟩,a2.1.extBut hs''.extBut (Ne.symm hne)⟩
  ·have:∃ o,s.heap.get? b=some o:=by
    simp only [qh,List.not_mem_nil,or_false] at hb
    rcases hb with rfl | rfl
    ·exact⟨_,he⟩
    ·exact⟨_,ei⟩
   obtain⟨o,q⟩:=this
   rw [zaf (lt q).symm]
   exact (hf b hb).1
 done:=by
  intro X hP hw hK hc i pins s U H E I hf st hg
  subst hP hw hK
  obtain⟨⟨old,he⟩,h1⟩:=st
  obtain⟨xs,hx1,hl⟩:=hg
  obtain⟨its,rx,px,zx⟩:=I.tuple hx1
  have n1:=rx.length
  have pt:s.heap.IsTuple l its.toArray:=px
  have hnone:its.toArray[i]?=none:=by rw [List.getElem?_toArray];exact List.getElem?_eq_none (by omega)
  refine wpAny_pyNext_enum_endD (zvo (A:=X.A.in1) (show X.A.in1.handled=none from I.ok.hd hc) it l its.toArray i hnone) he ⟨h1,pt⟩ fun h' hk=>⟨rfl,I.turnedL (t':=s.toks) hf fun b u hb q=>?_⟩
  simp only [qh,List.not_mem_nil,or_false,not_or] at hb
  exact hk b u hb.2 q
 self:=fun _ _ _ _ _ st h=>by
  obtain⟨⟨old,he⟩,_⟩:=st
  exact wpAny_pyIter_enum he h
section
variable {X:Cx}
def zt7 (K:PySem.W.Frag)(ta:TA):TI:=fun U H R=>ta U H fun vs H1=>∃ l,vs=[.ref l]/\(((∃ xs,SqL K H1 l xs)/\R (Ite K l) H1)\/((∃ xs,SqT K H1 l xs)/\R (zrf K l) H1))
theorem zrE {es:List Expr}{kk:Nat}{tpos:Pos}{a:Expr}{ta:TA}{p pos:Pos}(hg:Gl X "enumerate")(hm:X.mg "enumerate"=none)(ha:PA X [a] ta)(hs:starEach [a] X.env=[(false,eval a X.env)]:=by rfl) :
    PI X (.Tuple es kk tpos) (.Call (.Name "enumerate" p) [a] [] pos) (zt7 X.K ta):=by
  intro pins s U H R I h
  refine Call_ (zc2 I hg hm boot_enumerate (PyProof.Rows.callWith_type1 (thn (ha pos pins s U H _ I h) fun us s1 ⟨vs,H1,I1,r1,q1⟩=>?_) hs rfl))
  obtain⟨l,e,q⟩:=q1
  subst e
  obtain⟨u,rfl,ru⟩:=vals1 r1
  cases ru
  rcases q with ⟨⟨xs,hx⟩,q⟩ | ⟨⟨xs,hx⟩,q⟩
  . obtain⟨its,rx,px,zx⟩:=I1.list hx
    refine call_enumerate_list px.isList fun h' he hit hsz hk=>?_
    have I2:Inv X pins U H1 { s1 with heap:=h' }:=I1.kept (t':=s1.toks) hk
    refine wpAny_pyIter_enum (s:={ s1 with heap:=h' }) he ?_
    refine⟨_,_,_,_,H1,rfl,I2,zpB (Nat.ne_of_gt (Nat.lt_succ_self _)),⟨⟨_,he⟩,hit⟩,fun b hb=>?_,q⟩
    have hb':s1.heap.objs.size<=b:=by
      simp only [qh,List.not_mem_nil,or_false] at hb
      rcases hb with rfl | rfl<;>first | exact Nat.le_add_right _ _ | exact qf _
    exact I1.fpOk hb' (I1.hok.fresh hb')
  . obtain⟨its,rx,px,zx⟩:=I1.tuple hx
    have pt:s1.heap.IsTuple l its.toArray:=px
    refine zwS pt fun h' he hit hsz hk=>?_
    have I2:Inv X pins U H1 { s1 with heap:=h' }:=I1.kept (t':=s1.toks) hk
    refine wpAny_pyIter_enum (s:={ s1 with heap:=h' }) he ?_
    refine⟨_,_,_,_,H1,rfl,I2,zn8 (Nat.ne_of_gt (Nat.lt_succ_self _)),⟨⟨_,he⟩,hit⟩,fun b hb=>?_,q⟩
    have hb':s1.heap.objs.size<=b:=by
      simp only [qh,List.not_mem_nil,or_false] at hb
      rcases hb with rfl | rfl<;>first | exact Nat.le_add_right _ _ | exact qf _
    exact I1.fpOk hb' (I1.hok.fresh hb')
end
def zbD:Bool->Heap->Addr->Addr->Nat->Prop
 | true,h,it,l,k=>h.IsListIter it l k
 | false,h,it,l,k=>h.IsTupleIter it l k
def zcg:Bool->Heap->Addr->Array Value->Prop
 | true,h,l,xs=>h.IsList l xs
 | false,h,l,xs=>h.IsTuple l xs
theorem zbD.grow {b:Bool}{h h':Heap}{c it l:Addr}{k:Nat}(x:zbD b h it l k)(e:Heap.ExtBut c h h')(n:it≠c):zbD b h' it l k:=by
 cases b
 ·exact Heap.IsTupleIter.extBut (show h.IsTupleIter it l k from x) e n
 ·exact Heap.IsListIter.extBut (show h.IsListIter it l k from x) e n
theorem zcg.grow {b:Bool}{h h':Heap}{c l:Addr}{xs:Array Value}(x:zcg b h l xs)(e:Heap.ExtBut c h h')(n:l≠c):zcg b h' l xs:=by
 cases b
 ·exact Heap.IsTuple.extBut (show h.IsTuple l xs from x) e n
 ·exact Heap.IsList.extBut (show h.IsList l xs from x) e n
theorem zbD.obj {b:Bool}{h:Heap}{it l:Addr}{k:Nat}(x:zbD b h it l k):∃ o,h.get? it=some o/\(o.cls=.type "list_iterator"\/o.cls=.type "tuple_iterator")/\∃ vs,o.data=.fields vs:=by
 cases b
 ·obtain⟨o,ho,hc,hd⟩:h.IsTupleIter it l k:=x
  exact⟨o,ho,.inr hc,_,hd⟩
 ·obtain⟨o,ho,hc,hd⟩:h.IsListIter it l k:=x
  exact⟨o,ho,.inl hc,_,hd⟩
theorem zbD.at {b:Bool}{h h':Heap}{it l:Addr}{k:Nat}(x:zbD b h it l k)(e:∀ o,h.get? it=some o->h'.get? it=some o):zbD b h' it l k:=by
 cases b
 ·obtain⟨o,ho,hc,hd⟩:h.IsTupleIter it l k:=x
  exact (⟨o,e o ho,hc,hd⟩:h'.IsTupleIter it l k)
 ·obtain⟨o,ho,hc,hd⟩:h.IsListIter it l k:=x
  exact (⟨o,e o ho,hc,hd⟩:h'.IsListIter it l k)
theorem zcg.lt {b:Bool}{h:Heap}{l:Addr}{xs:Array Value}(x:zcg b h l xs):l<h.objs.size:=by
 cases b
 ·obtain⟨o,ho,_⟩:h.IsTuple l xs:=x
  exact Heap.lt_size ho
 ·obtain⟨o,ho,_⟩:h.IsList l xs:=x
  exact Heap.lt_size ho
section
variable {prog:Program}{w:World}{A:Around}{E:Value->Shared->Prop}{s:Shared}
theorem zgJ {b:Bool}{it t:Addr}{i:Nat}{items:Array Value}{x:Value}{Q:Value->Shared->Prop}(hit:zbD b s.heap it t i)(ht:zcg b s.heap t items)(hx:items[i]?=some x)
  (hQ:∀ h',zbD b h' it t (i+1)->Heap.SameBut it s.heap h'->Q x { s with heap:=h' }):wpAny (model prog w) A (Builtin.SmallTypes.nextOf (.ref it)) Q E s:=by
 cases b
 ·exact zjD hit ht hx hQ
 ·exact wpAny_nextOf_list_item hit ht hx hQ
theorem zkH {b:Bool}{it t:Addr}{i:Nat}{items:Array Value}{Q:Value->Shared->Prop}(hh:A.handled=none)(hit:zbD b s.heap it t i)(ht:zcg b s.heap t items)(hx:items[i]?=none)
  (hE:∀ h' e,Heap.ExtBut it s.heap h'->(∃ o,h'.get? e=some o/\o.cls=.type "StopIteration")->E (.ref e) { s with heap:=h' }):wpAny (model prog w) A (Builtin.SmallTypes.nextOf (.ref it)) Q E s:=by
 cases b
 ·exact zhR hh hit ht hx hE
 ·exact wpAny_nextOf_list_end hh hit ht hx hE
theorem zok {b1 b2:Bool}{z TI TO i1 i2 l1 l2:Addr}{k:Nat}{xs ys:Array Value}{x y a b:Value}{Q:Option Value->Shared->Prop}(D:ZipApart z TI TO i1 i2 l1 l2)
  (hz:IsZip s.heap z TI TO .none) (hTI:IsPair s.heap TI (.ref i1) (.ref i2)) (hTO:IsPair s.heap TO a b) (h1:zbD b1 s.heap i1 l1 k) (h2:zbD b2 s.heap i2 l2 k) (hl1:zcg b1 s.heap l1 xs) (hl2:zcg b2 s.heap l2 ys) (hx:xs[k]?=some x) (hy:ys[k]?=some y)
  (hQ:∀ h',IsZip h' z TI TO (rawInt s.heap.objs.size)->IsPair h' TO x y->zbD b1 h' i1 l1 (k+1)->zbD b2 h' i2 l2 (k+1)->IsPair h' s.heap.objs.size x y ->
   (∀ c o,c≠z->c≠TO->c≠i1->c≠i2->s.heap.get? c=some o->h'.get? c=some o)->Q (some (.ref s.heap.objs.size)) { s with heap:=h' }):wpAny (model prog w) A (pyNext (.ref z)) Q E s:=by
 have hT:s.TypeIs (.ref z) "zip":=⟨_,hz,rfl⟩
 unfold pyNext
 refine wpAny_bind (wpAny_attempt (wpAny_callSpecial?_slot (name:=Str.ofString "__next__") hT F.slot_zip_next (wpAny_call_entry F.slot_zip_next hT F.entry_zip_next ?_ (F.args_zip_next_1 _))))
 show wpAny _ _ (field (.ref z) 2 >>= _) _ _ _
 refine wpAny_bind (wpAny_field hz rfl (x:=.bool false) rfl ?_);show wpAny _ _ (field (.ref z) 3 >>= _) _ _ _
 refine wpAny_bind (wpAny_field hz rfl (x:=.ref TI) rfl (wpAny_bind (wpAny_seqItems hTI rfl ?_)));show wpAny _ _ (Builtin.SmallTypes.ownedTupleIsFree (.ref z) >>= _) _ _ _
 refine wpAny_bind ?_;unfold Builtin.SmallTypes.ownedTupleIsFree
 refine wpAny_bind (wpAny_field hz rfl (x:=.none) rfl (wpAny_pure ?_));simp only [if_true]
 refine wpAny_bind (wpAny_rule (wpAny_bind (wpAny_field hz rfl (x:=.ref TO) rfl (wpAny_bind (wpAny_setField_rec hz (by simp) fun g1 z1 e1=>?_)))))
 replace z1:IsZip g1 z TI TO .ellipsis:=z1
 refine wpAny_bind ?_;simp only [List.zipIdx_cons,List.zipIdx_nil,List.forIn_cons,List.forIn_nil]
 refine wpAny_bind (wpAny_bind (wpAny_onRaise ?_));show wpAny _ _ (Builtin.SmallTypes.nextOf (.ref i1) >>= _) _ _ _
 refine wpAny_bind (zgJ (h1.grow e1.extBut D.i1z) (hl1.grow e1.extBut D.l1z) hx fun g2 t1 e2=>wpAny_pure ?_)
 have p2:IsPair g2 TO a b:=e2.extBut _ _ D.TOi1 (e1.extBut _ _ D.TOz hTO)
 refine wpAny_bind (wpAny_seqItems p2 rfl (wpAny_bind (wpAny_updateSeq_pair p2 fun g3 p3 e3=>wpAny_bind (wpAny_letGo (wpAny_pure ?_)))))
 replace p3:IsPair g3 TO x b:=p3
 refine wpAny_bind (wpAny_bind (wpAny_onRaise ?_));show wpAny _ _ (Builtin.SmallTypes.nextOf (.ref i2) >>= _) _ _ _
 refine wpAny_bind (zgJ (((h2.grow e1.extBut D.i2z).grow e2.extBut D.i12.symm).grow e3.extBut D.TOi2.symm) (((hl2.grow e1.extBut D.l2z).grow e2.extBut D.l2i1).grow e3.extBut D.l2TO) hy fun g4 t2 e4=>wpAny_pure ?_)
 have p4:IsPair g4 TO x b:=e4.extBut _ _ D.TOi2 p3
 refine wpAny_bind (wpAny_seqItems p4 rfl (wpAny_bind (wpAny_updateSeq_pair p4 fun g5 p5 e5=>wpAny_bind (wpAny_letGo (wpAny_pure (wpAny_pure ?_))))))
 replace p5:IsPair g5 TO x y:=p5
 refine wpAny_bind (wpAny_seqItems p5 rfl (wpAny_bind (wpAny_newTuple ?_)))
 have sz:g5.objs.size=s.heap.objs.size:=by rw [e5.1,e4.1,e3.1,e2.1,e1.1]
 have z5:IsZip g5 z TI TO .ellipsis:=e5.extBut _ _ D.TOz.symm (e4.extBut _ _ D.i2z.symm (e3.extBut _ _ D.TOz.symm (e2.extBut _ _ D.i1z.symm z1)))
 have k5:∀ c o,c≠z->c≠TO->c≠i1->c≠i2->s.heap.get? c=some o->g5.get? c=some o:=fun c o c1 c2 c3 c4 e=>e5.extBut _ _ c2 (e4.extBut _ _ c4 (e3.extBut _ _ c2 (e2.extBut _ _ c3 (e1.extBut _ _ c1 e))))
 have u1:zbD b1 g5 i1 l1 (k+1):=((t1.grow e3.extBut D.TOi1.symm).grow e4.extBut D.i12).grow e5.extBut D.TOi1.symm
 have u2:zbD b2 g5 i2 l2 (k+1):=t2.grow e5.extBut D.TOi2.symm
 have zl:z<g5.objs.size:=Heap.lt_size z5
 show wpAny _ _ (Builtin.SmallTypes.ownedTupleHandOut (.ref z) (.ref g5.objs.size) >>= _) _ _ _
 refine wpAny_bind ?_;unfold Builtin.SmallTypes.ownedTupleHandOut
 have z6:IsZip (g5.push { cls:=.type "tuple",data:=.seq #[x,y] }) z TI TO .ellipsis:=qc _ z5
 refine wpAny_bind (wpAny_setField_rec z6 (by simp) fun g7 z7 e7=>?_)
 replace z7:IsZip g7 z TI TO (rawInt g5.objs.size):=z7
 refine wpAny_setField_rec z7 (by simp) fun g8 z8 e8=>?_
 replace z8:IsZip g8 z TI TO (rawInt g5.objs.size):=z8
 have up:∀ c o,c≠z->g5.get? c=some o->g8.get? c=some o:=fun c o c1 e=>e8.extBut _ _ c1 (e7.extBut _ _ c1 (qc _ e))
 have t8:IsPair g8 g5.objs.size x y:=e8.extBut _ _ (Nat.ne_of_gt zl) (e7.extBut _ _ (Nat.ne_of_gt zl) (Heap.get?_push_size _ rfl))
 rw [sz] at z8 t8
 refine wpAny_pure ⟨_,rfl,wpAny_pure ?_⟩
 show Q (some (.ref g5.objs.size)) _
 rw [sz]
 exact hQ g8 z8 (up _ _ D.TOz p5) (u1.at fun o e=>up _ o D.i1z e) (u2.at fun o e=>up _ o D.i2z e) t8 fun c o c1 c2 c3 c4 e=>up c o c1 (k5 c o c1 c2 c3 c4 e)
theorem zp3 {b1 b2:Bool}{z TI TO i1 i2 l1 l2:Addr}{k:Nat}{xs ys:Array Value}{a b:Value}{Q:Option Value->Shared->Prop}(hh:A.handled=none)(D:ZipApart z TI TO i1 i2 l1 l2)
  (hz:IsZip s.heap z TI TO .none) (hTI:IsPair s.heap TI (.ref i1) (.ref i2)) (hTO:IsPair s.heap TO a b) (h1:zbD b1 s.heap i1 l1 k) (h2:zbD b2 s.heap i2 l2 k) (hl1:zcg b1 s.heap l1 xs) (hl2:zcg b2 s.heap l2 ys) (hend:xs[k]?=none\/ys[k]?=none)
  (hQ:∀ h',(∀ c o,c≠z->c≠TO->c≠i1->c≠i2->s.heap.get? c=some o->h'.get? c=some o)->Q none { s with heap:=h' }):wpAny (model prog w) A (pyNext (.ref z)) Q E s:=by
 have hT:s.TypeIs (.ref z) "zip":=⟨_,hz,rfl⟩
 unfold pyNext
 refine wpAny_bind (wpAny_attempt (wpAny_callSpecial?_slot (name:=Str.ofString "__next__") hT F.slot_zip_next (wpAny_call_entry F.slot_zip_next hT F.entry_zip_next ?_ (F.args_zip_next_1 _))))
 have out:∀ h' e,(∀ c o,c≠z->c≠TO->c≠i1->c≠i2->s.heap.get? c=some o->h'.get? c=some o)->(∃ o,h'.get? e=some o/\o.cls=.type "StopIteration") ->
   wpAny (model prog w) A ((isInstance (.ref e) (.type "StopIteration")) >>= fun b=>if b=true then pure none else throw (.ref e)) Q E { s with heap:=h' }:=fun h' e hk he=>by
  obtain⟨o,ho,hc⟩:=he
  exact wpAny_bind (wpAny_isInstance (T:="StopIteration") (b:=true) ⟨o,ho,hc⟩ isSubtype_stop (wpAny_pure (hQ _ hk)))
 show wpAny _ _ (field (.ref z) 2 >>= _) _ _ _
 refine wpAny_bind (wpAny_field hz rfl (x:=.bool false) rfl ?_);show wpAny _ _ (field (.ref z) 3 >>= _) _ _ _
 refine wpAny_bind (wpAny_field hz rfl (x:=.ref TI) rfl (wpAny_bind (wpAny_seqItems hTI rfl ?_)));show wpAny _ _ (Builtin.SmallTypes.ownedTupleIsFree (.ref z) >>= _) _ _ _
 refine wpAny_bind ?_;unfold Builtin.SmallTypes.ownedTupleIsFree
 refine wpAny_bind (wpAny_field hz rfl (x:=.none) rfl (wpAny_pure ?_));simp only [if_true]
 refine wpAny_bind (wpAny_rule (wpAny_bind (wpAny_field hz rfl (x:=.ref TO) rfl (wpAny_bind (wpAny_setField_rec hz (by simp) fun g1 z1 e1=>?_)))))
 replace z1:IsZip g1 z TI TO .ellipsis:=z1
 refine wpAny_bind ?_;simp only [List.zipIdx_cons,List.zipIdx_nil,List.forIn_cons,List.forIn_nil]
 refine wpAny_bind (wpAny_bind (wpAny_onRaise ?_));show wpAny _ _ (Builtin.SmallTypes.nextOf (.ref i1) >>= _) _ _ _
 cases hx:xs[k]? with
 | none =>
  refine wpAny_bind (zkH hh (h1.grow e1.extBut D.i1z) (hl1.grow e1.extBut D.l1z) hx fun g2 e e2 ⟨oe,hoe,hce⟩=>?_)
  have z2:IsZip g2 z TI TO .ellipsis:=e2 _ _ D.i1z.symm z1
  have ne:e≠z:=fun q=>by subst q;rw [z2] at hoe;cases hoe;simp at hce
  exact wpAny_setField_rec z2 (by simp) fun g3 _ e3=>out g3 e (fun c o c1 _ c3 _ q=>e3.extBut _ _ c1 (e2 _ _ c3 (e1.extBut _ _ c1 q))) ⟨oe,e3.extBut _ _ ne hoe,hce⟩
 | some x =>
  have hy:ys[k]?=none:=by rcases hend with h | h;rw [hx] at h;cases h;exact h
  refine wpAny_bind (zgJ (h1.grow e1.extBut D.i1z) (hl1.grow e1.extBut D.l1z) hx fun g2 t1 e2=>wpAny_pure ?_)
  have p2:IsPair g2 TO a b:=e2.extBut _ _ D.TOi1 (e1.extBut _ _ D.TOz hTO)
  refine wpAny_bind (wpAny_seqItems p2 rfl (wpAny_bind (wpAny_updateSeq_pair p2 fun g3 p3 e3=>wpAny_bind (wpAny_letGo (wpAny_pure ?_)))))
  refine wpAny_bind (wpAny_bind (wpAny_onRaise ?_));show wpAny _ _ (Builtin.SmallTypes.nextOf (.ref i2) >>= _) _ _ _
  refine wpAny_bind (zkH hh (((h2.grow e1.extBut D.i2z).grow e2.extBut D.i12.symm).grow e3.extBut D.TOi2.symm) (((hl2.grow e1.extBut D.l2z).grow e2.extBut D.l2i1).grow e3.extBut D.l2TO) hy fun g4 e e4 ⟨oe,hoe,hce⟩=>?_)
  have z4:IsZip g4 z TI TO .ellipsis:=e4 _ _ D.i2z.symm (e3.extBut _ _ D.TOz.symm (e2.extBut _ _ D.i1z.symm z1))
  have ne:e≠z:=fun q=>by subst q;rw [z4] at hoe;cases hoe;simp at hce
  exact wpAny_setField_rec z4 (by simp) fun g5 _ e5=>out g5 e (fun c o c1 c2 c3 c4 q=>e5.extBut _ _ c1 (e4 _ _ c4 (e3.extBut _ _ c2 (e2.extBut _ _ c3 (e1.extBut _ _ c1 q))))) ⟨oe,e5.extBut _ _ ne hoe,hce⟩
end
abbrev itN (b:Bool):String:=if b=true then "list_iterator" else "tuple_iterator"
abbrev zg1 (b:Bool)(h:Heap)(l:Addr):Heap:=h.push { cls:=.type (itN b),data:=.fields #[.ref l,.int 0 0] }
abbrev zg2 (b1 b2:Bool)(h:Heap)(l1 l2:Addr):Heap:=zg1 b2 (zg1 b1 h l1) l2
abbrev zg3 (b1 b2:Bool)(h:Heap)(l1 l2:Addr):Heap:=(zg2 b1 b2 h l1 l2).push { cls:=.type "tuple",data:=.seq #[.ref h.objs.size,.ref (zg1 b1 h l1).objs.size] }
abbrev zg4 (b1 b2:Bool)(h:Heap)(l1 l2:Addr):Heap:=(zg3 b1 b2 h l1 l2).push { cls:=.type "tuple",data:=.seq #[.none,.none] }
abbrev zg5 (b1 b2:Bool)(h:Heap)(l1 l2:Addr):Heap:=(zg4 b1 b2 h l1 l2).push { cls:=.type "zip",data:=.fields #[.none,.bool false,.bool false,.ref (zg2 b1 b2 h l1 l2).objs.size,.ref (zg3 b1 b2 h l1 l2).objs.size] }
theorem zcg.push {b:Bool}{h:Heap}{l:Addr}{xs:Array Value}(x:zcg b h l xs)(o:Obj):zcg b (h.push o) l xs:=by
 cases b
 ·obtain⟨u,hu,r⟩:h.IsTuple l xs:=x
  exact (⟨u,qc _ hu,r⟩:(h.push o).IsTuple l xs)
 ·obtain⟨u,hu,r⟩:h.IsList l xs:=x
  exact (⟨u,qc _ hu,r⟩:(h.push o).IsList l xs)
theorem zxU (b:Bool)(l1 l2:Addr)(xs ys:Array Value) :
  Meets (Builtin.«zip.__new__» ⟨[.type "zip",.ref l1,.ref l2],[]⟩) (fun _ R s=>zcg b s.heap l1 xs/\zcg b s.heap l2 ys/\R (.ok (.ret (.ref (zg4 b b s.heap l1 l2).objs.size))) { s with heap:=zg5 b b s.heap l1 l2 }):=by
 cases b
 ·exact .of_wp fun prog w A R s h=>by
   obtain⟨hp,g,d,tk,os⟩:=s
   obtain⟨h1,h2,h⟩:=h
   have hsub:=sub_zip
   have q1:Heap.IsTuple (Shared.heap ⟨hp,g,d,tk,os⟩) l1 xs:=h1
   have q2:Heap.IsTuple (Shared.heap ⟨hp.push { cls:=.type "tuple_iterator",data:=.fields #[.ref l1,.int 0 0] },g,d,tk,os⟩) l2 ys:=zcg.push (b:=false) h2 _
   wp_walk using wpAny_pyIter_tuple q1,wpAny_pyIter_tuple q2
   exact⟨_,rfl,h⟩
 ·exact meets_zip_new l1 l2 xs ys
theorem zsl {b:Bool}{h:Heap}{it l:Addr}(e:h.get? it=some { cls:=.type (itN b),data:=.fields #[.ref l,.int 0 0] }):zbD b h it l 0:=by
 cases b
 ·exact (⟨_,e,rfl,rfl⟩:h.IsTupleIter it l 0)
 ·exact (⟨_,e,rfl,rfl⟩:h.IsListIter it l 0)
section
variable {prog:Program}{w:World}{A:Around}{E:Value->Shared->Prop}{s:Shared}
theorem zwf {b:Bool}{l1 l2:Addr}{xs ys:Array Value}{Q:Value->Shared->Prop}(hl1:zcg b s.heap l1 xs)(hl2:zcg b s.heap l2 ys)
  (h:∀ h',IsZip h' (s.heap.objs.size+4) (s.heap.objs.size+2) (s.heap.objs.size+3) .none->IsPair h' (s.heap.objs.size+2) (.ref s.heap.objs.size) (.ref (s.heap.objs.size+1))->IsPair h' (s.heap.objs.size+3) .none .none->zbD b h' s.heap.objs.size l1 0->zbD b h' (s.heap.objs.size+1) l2 0 ->
   (∀ c o,s.heap.get? c=some o->h'.get? c=some o)->Q (.ref (s.heap.objs.size+4)) { s with heap:=h' }):wpAny (model prog w) A (call (.type "zip") [.ref l1,.ref l2]) Q E s:=by
 refine callType_new F.called_zip (by decide) (F.typeCall_zip_2 _ _) (F.newCall_zip_2 _ _) (fun obj=>F.args_object_init_3 obj _ _) F.entry_zip_new (zxU b l1 l2 xs ys) ⟨hl1,hl2,?_⟩
 have s1:(zg1 b s.heap l1).objs.size=s.heap.objs.size+1:=Heap.size_push ..
 have s2:(zg2 b b s.heap l1 l2).objs.size=s.heap.objs.size+2:=by rw [Heap.size_push,s1]
 have s3:(zg3 b b s.heap l1 l2).objs.size=s.heap.objs.size+3:=by rw [Heap.size_push,s2]
 have s4:(zg4 b b s.heap l1 l2).objs.size=s.heap.objs.size+4:=by rw [Heap.size_push,s3]
 have v1:(zg5 b b s.heap l1 l2).get? s.heap.objs.size=some _:=(fun c o q=>qc _ (qc _ (qc _ (qc _ q))):∀ c o,(zg1 b s.heap l1).get? c=some o->(zg5 b b s.heap l1 l2).get? c=some o) _ _ (Heap.get?_push_size _ rfl)
 have v2:(zg5 b b s.heap l1 l2).get? (zg1 b s.heap l1).objs.size=some _:=(fun c o q=>qc _ (qc _ (qc _ q)):∀ c o,(zg2 b b s.heap l1 l2).get? c=some o->(zg5 b b s.heap l1 l2).get? c=some o) _ _ (Heap.get?_push_size _ rfl)
 have v3:(zg5 b b s.heap l1 l2).get? (zg2 b b s.heap l1 l2).objs.size=some _:=(fun c o q=>qc _ (qc _ q):∀ c o,(zg3 b b s.heap l1 l2).get? c=some o->(zg5 b b s.heap l1 l2).get? c=some o) _ _ (Heap.get?_push_size _ rfl)
 have v4:(zg5 b b s.heap l1 l2).get? (zg3 b b s.heap l1 l2).objs.size=some _:=qc _ (Heap.get?_push_size _ rfl)
 have v5:(zg5 b b s.heap l1 l2).get? (zg4 b b s.heap l1 l2).objs.size=some _:=Heap.get?_push_size _ rfl
 show _/\_
 rw [s2,s3,s4] at v5
 rw [s1,s2] at v3
 rw [s3] at v4
 rw [s1] at v2
 rw [s4]
 exact⟨⟨_,v5,rfl⟩,h _ v5 v3 v4 (zsl v1) (zsl v2) fun c o x=>qc _ (qc _ (qc _ (qc _ (qc _ x))))⟩
end
def SqB (K:PySem.W.Frag)(b:Bool)(H:Hp)(l:Addr)(xs:List V):Prop:=match b with
 | true=>SqL K H l xs
 | false=>SqT K H l xs
theorem SqB.items {X:Cx}{pins:List (Addr×Obj)}{U:L2.St}{H:Hp}{s:Shared}{b:Bool}{l:Addr}{xs:List V}(I:Inv X pins U H s)(h:SqB X.K b H l xs):∃ its:List Value,Vals xs its/\zcg b s.heap l its.toArray:=by
 cases b
 ·obtain⟨its,r,p,_⟩:=I.tuple (show SqT X.K H l xs from h)
  exact⟨its,r,p⟩
 ·obtain⟨its,r,p,_⟩:=I.list (show SqL X.K H l xs from h)
  exact⟨its,r,p.isList⟩
theorem SqB.inj {X:Cx}{pins:List (Addr×Obj)}{U:L2.St}{H:Hp}{s:Shared}{b:Bool}{l:Addr}{xs ys:List V}(I:Inv X pins U H s)(h:SqB X.K b H l xs)(h':SqB X.K b H l ys):xs=ys:=by
 cases b
 ·exact I.tuple_inj (show SqT X.K H l xs from h) h'
 ·exact I.list_inj (show SqL X.K H l xs from h) h'
def zoR (K:PySem.W.Frag)(b1 b2:Bool)(l1 l2:Addr):It :=
  ⟨fun i H=>∃ xs ys x y,SqB K b1 H l1 xs/\SqB K b2 H l2 ys/\xs[i]?=some x/\ys[i]?=some y,
   fun i H v H'=>∃ p,v=.ref p/\H p=none/\∀ xs ys x y,SqB K b1 H l1 xs->SqB K b2 H l2 ys->xs[i]?=some x->ys[i]?=some y->H'=upd H p (.tup [x,y]),
   fun i H=>∃ xs ys,SqB K b1 H l1 xs/\SqB K b2 H l2 ys/\(xs.length<=i\/ys.length<=i)⟩
theorem zpj {P:Program}{w:World}{K:PySem.W.Frag}{es:List Expr}{kk:Nat}{pos:Pos}{b1 b2:Bool}{z TI TO i1 i2 l1 l2:Addr}(D:ZipApart z TI TO i1 i2 l1 l2) :
  Turn P w K (.Tuple es kk pos) (zoR K b1 b2 l1 l2) [z,TI,TO,i1,i2] z (fun i h=>IsZip h z TI TO .none/\IsPair h TI (.ref i1) (.ref i2)/\(∃ a b,IsPair h TO a b)/\zbD b1 h i1 l1 i/\zbD b2 h i2 l2 i) where
 mem:=by simp
 obj:=fun i h st b hb=>by
  obtain⟨hz,hTI,⟨a,c,hTO⟩,q1,q2⟩:=st
  obtain⟨o1,g1,_,_,d1⟩:=q1.obj
  obtain⟨o2,g2,_,_,d2⟩:=q2.obj
  simp only [qh,List.not_mem_nil,or_false] at hb
  rcases hb with rfl | rfl | rfl | rfl | rfl
  ·exact⟨_,hz,fun v q=>by cases (show Data.fields _=Data.cell v from q)⟩
  ·exact⟨_,hTI,fun v q=>by cases (show Data.seq _ _=Data.cell v from q)⟩
  ·exact⟨_,hTO,fun v q=>by cases (show Data.seq _ _=Data.cell v from q)⟩
  ·exact⟨_,g1,fun v q=>by rw [d1] at q;cases q⟩
  ·exact⟨_,g2,fun v q=>by rw [d2] at q;cases q⟩
 keep:=fun i h h' st k=>by
  obtain⟨hz,hTI,⟨a,c,hTO⟩,q1,q2⟩:=st
  exact⟨k z (by simp) _ hz,k TI (by simp) _ hTI,⟨a,c,k TO (by simp) _ hTO⟩,q1.at fun o e=>k i1 (by simp) o e,q2.at fun o e=>k i2 (by simp) o e⟩
 item:=by
  intro X hP hw hK hc i pins s U H E I hf st hg
  subst hP hw hK
  obtain⟨hz,hTI,⟨a,c,hTO⟩,q1,q2⟩:=st
  obtain⟨xs,ys,x,y,hx1,hy1,hx,hy⟩:=hg
  obtain⟨its,rx,px⟩:=hx1.items I
  obtain⟨jts,ry,py⟩:=hy1.items I
  obtain⟨u,hu,ru⟩:=Vals.get rx hx
  obtain⟨v,hv,rv⟩:=Vals.get ry hy
  refine zok D hz hTI hTO q1 q2 px py (by simpa using hu) (by simpa using hv) fun h' a1 a2 a3 a4 a5 hk=>?_
  refine⟨_,rfl,wpAny_letOwnedTupleGo_zip a1 fun h'' hz'' hs''=>?_⟩
  have lt:∀ {c o},s.heap.get? c=some o->s.heap.objs.size≠c:=fun e=>Nat.ne_of_gt (Heap.lt_size e)
  have k2:∀ b u,b∉[z,TI,TO,i1,i2]->s.heap.get? b=some u->h''.get? b=some u:=fun b u hb e=>by
   simp only [qh,List.not_mem_nil,or_false,not_or] at hb
   exact hs''.extBut b u hb.1 (hk b u hb.1 hb.2.2.1 hb.2.2.2.1 hb.2.2.2.2 e)
  have new:h''.get? s.heap.objs.size=some { cls:=.type "tuple",data:=.seq #[u,v] }:=hs''.extBut _ _ (lt hz) a5
  refine⟨.ref s.heap.objs.size,upd H s.heap.objs.size (.tup [x,y]),I.turnNew (t':=s.toks) hf k2 (qf _) ⟨by show 2<=sizeLine;decide,[u,v],.cons ru (.cons rv .nil),_,new,rfl,_,rfl⟩,rfl,⟨_,rfl,I.fresh,?_⟩,?_,fun b hb=>?_⟩
  ·intro xs' ys' x' y' hx1' hy1' hx' hy'
   cases hx1.inj I hx1'
   cases hy1.inj I hy1'
   rw [hx] at hx';rw [hy] at hy'
   cases hx';cases hy'
   rfl
  ·exact⟨hz'',hs''.extBut _ _ D.TIz (hk _ _ D.TIz D.TITO D.TIi1 D.TIi2 hTI),⟨_,_,hs''.extBut _ _ D.TOz a2⟩,a3.grow hs''.extBut D.i1z,a4.grow hs''.extBut D.i2z⟩
  ·have:∃ o,s.heap.get? b=some o:=by
    simp only [qh,List.not_mem_nil,or_false] at hb
    obtain⟨o1,e1,_⟩:=q1.obj
    obtain⟨o2,e2,_⟩:=q2.obj
    rcases hb with rfl | rfl | rfl | rfl | rfl
    ·exact⟨_,hz⟩
    ·exact⟨_,hTI⟩
    ·exact⟨_,hTO⟩
    ·exact⟨_,e1⟩
    ·exact⟨_,e2⟩
   obtain⟨o,e⟩:=this
   rw [zaf (lt e).symm]
   exact (hf b hb).1
 done:=by
  intro X hP hw hK hc i pins s U H E I hf st hg
  subst hP hw hK
  obtain⟨hz,hTI,⟨a,c,hTO⟩,q1,q2⟩:=st
  obtain⟨xs,ys,hx1,hy1,hl⟩:=hg
  obtain⟨its,rx,px⟩:=hx1.items I
  obtain⟨jts,ry,py⟩:=hy1.items I
  have n1:=rx.length
  have n2:=ry.length
  refine zp3 (I.ok.hd hc) D hz hTI hTO q1 q2 px py ?_ fun h' hk=>⟨rfl,I.turnedL (t':=s.toks) hf fun b u hb e=>?_⟩
  ·rcases hl with hl | hl
   ·exact .inl (by rw [List.getElem?_toArray];exact List.getElem?_eq_none (by omega))
   ·exact .inr (by rw [List.getElem?_toArray];exact List.getElem?_eq_none (by omega))
  ·simp only [qh,List.not_mem_nil,or_false,not_or] at hb
   exact hk b u hb.1 hb.2.2.1 hb.2.2.2.1 hb.2.2.2.2 e
 self:=fun _ _ _ _ _ st h=>wpAny_pyIter_zip st.1 h
section
variable {X:Cx}
def zwV (K:PySem.W.Frag)(ta:TA):TI:=fun U H R=>ta U H fun vs H1=>∃ b l1 l2,vs=[.ref l1,.ref l2]/\(∃ xs,SqB K b H1 l1 xs)/\(∃ ys,SqB K b H1 l2 ys)/\R (zoR K b b l1 l2) H1
theorem ztf {es:List Expr}{kk:Nat}{tpos:Pos}{a b:Expr}{ta:TA}{p pos:Pos}(hg:Gl X "zip")(hm:X.mg "zip"=none)(ha:PA X [a,b] ta)(hs:starEach [a,b] X.env=[(false,eval a X.env),(false,eval b X.env)]:=by rfl)(hs2:starEach [b] X.env=[(false,eval b X.env)]:=by rfl) :
    PI X (.Tuple es kk tpos) (.Call (.Name "zip" p) [a,b] [] pos) (zwV X.K ta):=by
  intro pins s U H R I h
  refine Call_ (zc2 I hg hm boot_zip (PyProof.Rows.callWith_type1 (thn (ha pos pins s U H _ I h) fun us s1 ⟨vs,H1,I1,r1,q1⟩=>?_) (by rw [hs,hs2]) (by rw [hs2];rfl)))
  obtain⟨b',l1,l2,e,⟨xs,hx⟩,⟨ys,hy⟩,q⟩:=q1
  subst e
  obtain⟨u,v,rfl,ru,rv⟩:=vals2 r1
  cases ru
  cases rv
  obtain⟨its,rx,px⟩:=hx.items I1
  obtain⟨jts,ry,py⟩:=hy.items I1
  refine zwf px py fun h' hz hTI hTO h1 h2 hk=>?_
  have I2:Inv X pins U H1 { s1 with heap:=h' }:=I1.kept (t':=s1.toks) hk
  refine wpAny_pyIter_zip (s:={ s1 with heap:=h' }) hz ⟨_,_,_,_,H1,rfl,I2,zpj (PyProof.Rows.zipApart_new px.lt py.lt),⟨hz,hTI,⟨_,_,hTO⟩,h1,h2⟩,fun b hb=>?_,q⟩
  have hb':s1.heap.objs.size<=b:=by
    simp only [qh,List.not_mem_nil,or_false] at hb
    rcases hb with rfl | rfl | rfl | rfl | rfl<;>first | exact Nat.le_add_right _ _ | exact qf _
  exact I1.fpOk hb' (I1.hok.fresh hb')
end
theorem zrY:sizeLine<2 ^ 62:=by decide
section
theorem zxP (l:Addr)(items:Array Value)(n:Nat)(b:Addr)(items2:Array Value)(n2:Nat)(dct:Option Addr)(sl:Array (Option Value))(hs0:¬(!items.isEmpty&&Builtin.List.listTooLong (items.size+items2.size))=true)(hs1:items.size<=sizeLine)(hs2:items.size+items2.size<=sizeLine+1) :
  Meets (Builtin.«list.extend» ⟨[.ref l,.ref b],[]⟩) (fun _ R s=>s.heap.get? l=some { cls:=.type "list",dict:=none,data:=.seq items n,slots:=#[] }/\s.heap.get? b=some { cls:=.type "tuple",dict:=dct,data:=.seq items2 n2,slots:=sl }/\R (.ok (.ret Value.none)) { s with heap:=s.heap.update l (Obj.mapSeq fun x=>x++items2),toks:=s.toks }) :=
 .of_wp fun prog w A R s h=>by
  obtain⟨hp,g,d,tk,os⟩:=s
  obtain⟨hl,hb,h⟩:=h
  have f1:=AutoSeq1.idx_int
  have f2:=AutoSeq1.sub_tuple_tuple
  have f3:=AutoSeq1.sub_list_list
  have f4:=AutoSeq1.sub_tuple_list
  have f5:=AutoSeq1.sub_list_tuple
  have hz':(items++items2).size<=sizeLine+1:=by rw [Array.size_append];exact hs2
  wp_walk using (wpAny_updateSeq hl rfl (hz:=hs1) (_hz':=hz')),wpAny_loadPart' hl,wpAny_loadPart' hb
  exact⟨_,rfl,h⟩
end
section
variable {X:Cx}
def zrA (K:PySem.W.Frag):V->List V->Hp->VK->Prop:=fun x vs H Q=>znT x vs H Q\/∃ l b xs zs,x=.ref l/\vs=[.ref b]/\H l=some (.lst xs)/\SqT K H b zs/\xs.length+zs.length<=sizeLine/\Q .non (upd H l (.lst (xs++zs)))
theorem zo9:MtM X "list.extend" (zrA X.K):=by
 intro pins s U H x vs v us Q I rx rv h
 rcases h with h | ⟨l,b,xs,zs,rfl,rfl,hH,hB,hz,q⟩
 ·exact zqH pins s U H x vs v us Q I rx rv h
 cases rx
 obtain⟨u,rfl,ru⟩:=rv.one
 cases ru
 obtain⟨z,its,n,r,hl,e⟩:=I.lstM hH
 obtain⟨its2,r2,⟨⟨c,dct,dt,sl⟩,e2,hc,n2,hd⟩,z2⟩:=I.tuple hB
 replace hc:c=.type "tuple":=hc
 replace hd:dt=.seq its2.toArray n2:=hd
 subst hc hd
 have hl2:=r2.length
 have hsz:its.toArray.size+its2.toArray.size<=sizeLine:=by rw [qi,qi];omega
 have hlong:¬ (!its.toArray.isEmpty&&Builtin.List.listTooLong (its.toArray.size+its2.toArray.size))=true:=by
  rw [zlp hsz,Bool.and_false]
  exact Bool.false_ne_true
 refine call_meets F.slot_list_extend ⟨_,e,rfl⟩ F.entry_list_extend (F.args_list_extend_2 _ _)
  (zxP l its.toArray n b its2.toArray n2 dct sl hlong (by rw [qi];omega) (by omega)) ⟨e,e2,?_⟩
 refine⟨.non,_,I.lset (its':=its++its2) hH e (by simp) (r.append r2) ?_,rfl,q⟩
 rw [qe]
 omega
def zsZ:V->List V->Hp->VK->Prop:=fun x vs H Q=>∃ l xs k y,x=.ref l/\vs=[.int k,y]/\H l=some (.lst xs)/\0<=k/\k<2 ^ 40/\xs.length<sizeLine/\Q .non (upd H l (.lst (xs.take k.toNat++y::xs.drop k.toNat)))
theorem Vals.take':∀ {xs:List V} {us:List Value} (n:Nat),Vals xs us->Vals (xs.take n) (us.take n)
 | _,_,0,_=>.nil
 | _,_,_+1,.nil=>.nil
 | _,_,n+1,.cons r t=>.cons r (Vals.take' n t)
theorem Vals.drop':∀ {xs:List V} {us:List Value} (n:Nat),Vals xs us->Vals (xs.drop n) (us.drop n)
 | _,_,0,r=>r
 | _,_,_+1,.nil=>.nil
 | _,_,n+1,.cons _ t=>Vals.drop' n t
theorem zpN:MtM X "list.insert" zsZ:=by
 intro pins s U H x vs v us Q I rx rv h
 obtain⟨l,xs,k,y,rfl,rfl,hH,h0,h1,hz,q⟩:=h
 cases rx
 cases rv with
 | cons r1 r2 =>
  cases r2 with
  | cons r3 r4 =>
   cases r4
   obtain⟨tk,rfl⟩:=r1
   obtain⟨z,its,n,r,hl,e⟩:=I.lstM hH
   have hfit:¬ (!Builtin.List.listFitsIndex k)=true:=by
    have:=zrY
    unfold Builtin.List.listFitsIndex
    simp only [Bool.not_eq_true',Bool.not_eq_false',Bool.not_eq_true,Bool.not_eq_false]
    rw [Bool.and_eq_true,decide_eq_true_eq,decide_eq_true_eq]
    omega
   refine call_meets F.slot_list_insert ⟨_,e,rfl⟩ F.entry_list_insert (F.args_list_insert_3 _ _ _)
    (AutoSeq1.list_insert_list_int_val_1 l its.toArray n k tk _ hfit (by rw [qi];omega)) ⟨e,?_⟩
   refine⟨.non,_,I.lset (its':=its.take k.toNat++_::its.drop k.toNat) hH e ?_ ((Vals.take' k.toNat r).append (.cons r3 (Vals.drop' k.toNat r))) ?_,rfl,q⟩
   ·rw [if_neg (by omega)]
    apply Array.toList_inj.mp
    rcases Nat.lt_or_ge its.length k.toNat with g | g
    ·have:min k.toNat its.toArray.size=its.length:=by rw [qi];omega
     rw [this,List.take_of_length_le (Nat.le_of_lt g),List.drop_of_length_le (Nat.le_of_lt g)]
     simp
    ·have:min k.toNat its.toArray.size=k.toNat:=by rw [qi];omega
     rw [this]
     simp
     exact List.take_of_length_le (by rw [List.length_drop];exact qf _)
   ·rw [qe,List.length_cons,List.length_take,List.length_drop]
    omega
end
section
variable {prog:Program}{w:World}{A:Around}{E:Value->Shared->Prop}{s:Shared}
end
section
variable {X:Cx}
end
section
variable {X:Cx}
end
section
variable {X:Cx}
end
section
variable {prog:Program}{w:World}{A:Around}{E:Value->Shared->Prop}{s:Shared}
end
section
variable {prog:Program}{w:World}{A:Around}{E:Value->Shared->Prop}{s:Shared}
end
section
variable {prog:Program}{w:World}{A:Around}{E:Value->Shared->Prop}{s:Shared}
end
section
variable {prog:Program}{w:World}{A:Around}{s:Shared}
abbrev zhi (prog:Program)(w:World)(h:Heap)(a:Addr)(c:List Str):Prop:=h.SetOf (PySem.strKind prog w) a (fun y=>c.any (·==y)) c.length
theorem zhi.at {h h':Heap}{a:Addr}{c:List Str}(x:zhi prog w h a c)(k:∀ o,h.get? a=some o->h'.get? a=some o):zhi prog w h' a c :=
 let ⟨o,es,ep,t,ho,r⟩:=x;⟨o,es,ep,t,k o ho,r⟩
theorem loopS {R:Result->Shared->Prop}{it a:Addr}{fp wr:List Addr}{G:Array GenState->Array GenState->Prop}{n:Nat}{P:Nat->Value->Prop}{St:Nat->Shared->Prop}
  (W:WalksS prog w A.in1 it fp wr G n P St) (na:a∉fp) (f:Nat->Str) (hf:∀ i v,P i v->∃ t,v=.str (f i) t) (hb:n+1<scanBound) :
  ∀ (k i:Nat) (s:Shared),n-i=k->i<=n->St i s->zhi prog w s.heap a (Dp.zc3 f i) ->
   (∀ s',Moved (a::wr) G s s'->zhi prog w s'.heap a (Dp.zc3 f n)->R (.ok (.ret .none)) s') ->
   codeAny (model prog w) A (.builtin "set.update.loop" ⟨[.ref a,.ref it],[]⟩) R s
 | 0,i,s,hk,hi,st,hS,hR=>by
  have e:i=n:=by omega
  subst e
  refine codeAny_builtin PyProof.Rows.F.entry_set_update_loop ?_
  rw [Around.under_plainId PyProof.Rows.F.plain_set_update_loop]
  show wpAny _ A.in1 (pyNext (.ref it) >>= _) _ _ _
  refine wpAny_bind (W.done s _ _ st fun s' m=>wpAny_pure (hR s' (m.mono fun b q=>List.mem_cons_of_mem _ q) ?_))
  exact hS.at fun o q=>m.heap a o (fun z=>na (W.sub _ z)) q
 | k+1,i,s,hk,hi,st,hS,hR=>by
  refine codeAny_builtin PyProof.Rows.F.entry_set_update_loop ?_
  rw [Around.under_plainId PyProof.Rows.F.plain_set_update_loop]
  show wpAny _ A.in1 (pyNext (.ref it) >>= _) _ _ _
  refine wpAny_bind (W.item i s _ _ (by omega) st fun v s1 pv st1 m=>?_)
  obtain⟨t,rfl⟩:=hf i v pv
  have h1:zhi prog w s1.heap a (Dp.zc3 f i):=hS.at fun o q=>m.heap a o (fun z=>na (W.sub _ z)) q
  show wpAny _ A.in1 (holding [Value.str (f i) t] (setAdd a (Value.str (f i) t)) >>= _) _ _ _
  refine wpAny_bind (wpAny_holding ?_)
  unfold setAdd
  refine wpAny_holding (wpAny_bind ((PySem.strKind prog w).pyHash (k:=f i) (strKind_is _ _ _ _) ?_))
  have room:(Dp.zc3 f i).length+1<scanBound:=by have:=Dp.zj8 f i;omega
  refine wpAny_setAddHashed_of (knd:=PySem.strKind prog w) (s:={ s1 with toks:=s1.toks+1 }) (strKind_is _ _ _ _) rfl h1 room fun h2 sb hS2=>?_
  have h3:zhi prog w h2 a (Dp.zc3 f (i+1)):=SetOf_congr hS2 (fun y=>(Dp.zmC _ _ _).symm) (Dp.ziV _ _).symm
  refine wpAny_pure ⟨plainId_quiet PyProof.Rows.F.plain_set_update_loop _,loopS W na f hf hb k (i+1) _ (by omega) (by omega) (W.frame _ s1 _ _ st1 (Nat.le_succ _) fun b q o e=>?_) h3 fun s' m' hS'=>?_⟩
  ·exact (sb.2 b fun z=>na (z▸q)).trans e
  ·refine hR s' (Moved.trans W.gtrans ((m.mono fun b q=>List.mem_cons_of_mem _ q).then_heap (Nat.le_succ _) fun b o q e=>?_) m') hS'
   exact (sb.2 b fun z=>q (z▸List.mem_cons_self)).trans e
end
section
variable {prog:Program}{w:World}{A:Around}{E:Value->Shared->Prop}{s:Shared}
abbrev zhX (led:Bool):Obj:={ cls:=.type "set",dict:=none,data:=.set #[] 0 (.fresh 0 0 led) }
theorem zpw {l:Addr}{its:Array Value}(f:Nat->Str){Q:Value->Shared->Prop}(hh:A.handled=none)(hl:s.heap.IsList l its)(hf:∀ (i:Nat) v,its[i]?=some v->∃ t,v=.str (f i) t)(hb:its.size+1<scanBound)
    (h:∀ (h':Heap) (tk:Nat),zhi prog w h' s.heap.objs.size (Dp.zc3 f its.size)->(∀ b o,b<s.heap.objs.size->s.heap.get? b=some o->h'.get? b=some o)->Q (.ref s.heap.objs.size) { s with heap:=h',toks:=tk }) :
    wpAny (model prog w) A (call (.type "set") [.ref l]) Q E s:=by
  have ft:=F.called_set
  obtain⟨c,tl,hmro⟩:=ft.mro
  have hmade:=ft.made
  have hsub:=ft.sub
  have h1:=ft.notType
  have h2:=ft.canCreate
  have hct:=F.typeCall_set_1 (.ref l)
  refine wpAny_call (codeAny_of_tree ?_)
  show wpAny _ _ (callAny (.type "set") _) _ _ s
  refine wpAny_pure ⟨Code.quiet_builtin _ (by decide +kernel),codeAny_builtin F.entry_type_call ?_⟩
  rw [Around.under_plain (weight_type_call_type "set" [Value.ref l] []) rfl]
  repeat (any_goals (first | assumption | wp_step))
  refine codeAny_mono (code_set_new_1 (.ref l) (E:=E) (Q₁:=fun v s1=>∃ led:Bool,v=.ref s.heap.objs.size/\s1={ s with heap:=s.heap.push (zhX led) }) fun led=>⟨led,rfl,rfl⟩) fun r s1 hr=>?_
  cases r with
  | error e=>exact hr
  | ok fl =>
    cases fl with
    | ret v =>
      obtain⟨led,rfl,rfl⟩:=hr
      have e0:(s.heap.push (zhX led)).get? s.heap.objs.size=some (zhX led):=Heap.get?_push_size _ rfl
      have hT:Shared.TypeIs { s with heap:=s.heap.push (zhX led) } (.ref s.heap.objs.size) "set":=⟨_,e0,rfl⟩
      have hli:=ft.init.lookup
      have hbi:=ft.init.bind (.ref s.heap.objs.size)
      repeat (any_goals (first | assumption | wp_step))
      refine codeAny_mono (codeAny_call_builtin (R:=wants (fun r s2=>r=.none/\∃ h' tk,s2={ s with heap:=h',toks:=tk }/\zhi prog w h' s.heap.objs.size (Dp.zc3 f its.size)/\∀ b o,b<s.heap.objs.size->s.heap.get? b=some o->h'.get? b=some o) E) ft.init.plain F.entry_set_init (check_set_init_1 hT ?_)) fun r2 s2 hr2=>?_
      . obtain⟨ol,hol,hcl,nl,hdl⟩:=hl
        obtain⟨ocl,odi,oda,osl⟩:=ol
        simp only at hcl hdl
        subst hcl hdl
        have hol2:(s.heap.push (zhX led)).get? l=some { cls:=.type "list",dict:=odi,data:=.seq its nl,slots:=osl }:=qc _ hol
        have k1:=F.sub_list_set
        have k2:=F.sub_list_frozenset
        have k3:(Value.type "list"==Value.type "dict")=false:=by decide
        have hl1:(s.heap.push (zhX led)).IsList l its:=⟨_,hol2,rfl,nl,rfl⟩
        unfold Builtin.«set.__init__» noKeywords Builtin.Frozenset.updateFrom
        generalize hPI:pyIter=PI
        wp_walk
        subst hPI
        refine wpAny_pyIter_list hl1 (wpAny_bind (wpAny_runValue ?_))
        have ll:l<s.heap.objs.size:=Heap.lt_size hol
        have n1:l≠(s.heap.push (zhX led)).objs.size:=by rw [Heap.size_push];exact Nat.ne_of_lt (Nat.lt_succ_of_lt ll)
        have n2:s.heap.objs.size∉[(s.heap.push (zhX led)).objs.size,l]:=by
          rw [Heap.size_push]
          intro z
          rcases qh.mp z with z | z
          . exact Nat.ne_of_lt (Nat.lt_succ_self _) z
          . exact Nat.ne_of_gt ll (List.mem_singleton.mp z)
        refine loopS ((Walks.list (show _=none by simp [hh]) _ l n1 its).toS) n2 f hf hb (its.size-0) 0 _ (by omega) (Nat.zero_le _) ⟨⟨_,Heap.get?_push_size _ rfl,rfl,rfl⟩,hl1.push _⟩ ?_ fun s' m hS'=>?_
        . exact SetOf_congr ((setObjOf_fresh (knd:=PySem.strKind prog w) led).setOf (qc _ e0) (by unfold scanBound;omega)) (fun _=>rfl) rfl
        . obtain⟨h',g',d',tk',os'⟩:=s'
          cases (show g'=s.gens from m.gens)
          cases (show d'=s.drawn from m.drawn)
          cases (show os'=s.os from m.os)
          show wpAny _ _ _ _ _ _
          refine wpAny_pure (wpAny_pure ⟨rfl,h',tk',rfl,hS',fun b o q e=>?_⟩)
          refine m.heap b o (fun z=>?_) (qc _ (qc _ e))
          rcases qh.mp z with z | z
          . exact Nat.ne_of_lt q z
          . have z':=List.mem_singleton.mp z
            rw [Heap.size_push] at z'
            exact Nat.ne_of_lt (Nat.lt_succ_of_lt q) z'
      . cases r2 with
        | error e=>exact hr2
        | ok fl2 =>
          cases fl2 with
          | ret r =>
            obtain⟨rfl,h',tk,rfl,hS',kp⟩:=hr2
            repeat (any_goals (first | assumption | wp_step))
            exact h _ _ hS' kp
          | _=>exact hr2.elim
    | _=>exact hr.elim
end
def zwH (K:PySem.W.Frag)(ta:TA):TE:=fun U H Q=>ta U H fun vs H1=>∃ l,∃ zs:List Str,vs=[.ref l]/\SqL K H1 l (zs.map V.str)/\zs.length<=4000/\Q (.int (Dp.zc3 (fun i=>zs.getD i Str.empty) zs.length).length) H1
theorem zlQ:∀ {zs:List Str} {us:List Value},Vals (zs.map V.str) us->∀ (i:Nat) v,us[i]?=some v->∃ t,v=.str (zs.getD i Str.empty) t
 | [],_,.nil,i,v,e=>by simp at e
 | z::zs,_,.cons r t,0,v,e=>by
  obtain⟨t,rfl⟩:=r
  simp at e
  exact⟨t,e.symm⟩
 | z::zs,_,.cons r t,i+1,v,e=>by
  obtain⟨t,h⟩:=zlQ t i v (by simpa using e)
  exact⟨t,by rw [h];simp⟩
theorem ztC {X:Cx}{a:Expr}{ta:TA}{p1 p2 pos1 pos2:Pos}(hc:X.calm=true)(hgl:Gl X "len")(hml:X.mg "len"=none)(hgr:Gl X "set")(hmr:X.mg "set"=none)(ha:PA X [a] ta)
  (hs:starEach [a] X.env=[(false,eval a X.env)]:=by rfl)
  (hs3:starEach [.Call (.Name "set" p2) [a] [] pos2] X.env=[(false,eval (.Call (.Name "set" p2) [a] [] pos2) X.env)]:=by rfl) :
  PE X (.Call (.Name "len" p1) [.Call (.Name "set" p2) [a] [] pos2] [] pos1) (zwH X.K ta):=by
 intro pins s U H Q I h
 refine Call_ (zc2 I hgl hml boot_len (PyProof.Rows.callWith_builtin1 ?_ (by rw [hs3];rfl) (by rfl)))
 rw [hs3]
 show wpAny _ _ (spliced ((false,eval (.Call (.Name "set" p2) [a] [] pos2) X.env)::backTo pos1 [])) _ _ s
 refine Calls.spliced_cons (Call_ (zc2 I hgr hmr boot_set (PyProof.Rows.callWith_type1 (thn (ha pos2 pins s U H _ I h) fun us s1 ⟨vs,H1,I1,r1,q1⟩=>?_) hs rfl)))
 obtain⟨l,zs,e,hx,h4,q⟩:=q1
 subst e
 obtain⟨u,rfl,ru⟩:=vals1 r1
 cases ru
 obtain⟨its,rx,px,zx⟩:=I1.list hx
 have sz:its.toArray.size=zs.length:=by rw [qi,<- rx.length,qa]
 refine zpw (fun i=>zs.getD i Str.empty) (show _=none from I1.ok.hd hc) px.isList (fun i v e=>zlQ rx i v (by simpa using e)) (by rw [sz];unfold scanBound;omega) fun h' tk hS kp=>Calls.spliced_nil ?_
 rw [sz] at hS
 have le:=Dp.zj8 (fun i=>zs.getD i Str.empty) zs.length
 obtain⟨o,es,ep,t,ho,hex,hd,_,_,_,hf,hn⟩:=hS
 refine call_len_set ho hex hd hf (by omega) ?_
 rw [hn]
 exact⟨.int _,H1,I1.kept (t':=tk+1+1) (fun b o q=>kp b o (Heap.lt_size q) q),⟨_,rfl⟩,q⟩
end My
namespace Dp
open PySem PySem.Spec PyProof.Rows L2 My
def isStar:Expr->Bool
 | .Starred _ _=>true
 | _=>false
theorem zbG {e:Expr}{es:List Expr}{env:Env}(h:isStar e=false):starEach (e::es) env=(false,eval e env)::starEach es env:=by
  cases e<;>first | rfl | cases h
theorem zdG {pos:Pos}{env:Env}:∀ {es:List Expr},es.all (fun e=>!isStar e)=true->(backTo pos (starEach es env)).any (·.1)=false
 | [],_=>rfl
 | e::es,h=>by
  rw [List.all_cons,Bool.and_eq_true] at h
  rw [zbG (by simpa using h.1)]
  show (false||(backTo pos (starEach es env)).any (·.1))=false
  rw [zdG h.2];rfl
theorem zdH {e:Expr}{env:Env}(h:isStar e=false):starEach [e] env=[(false,eval e env)]:=zbG h
theorem ziY {e g:Expr}{env:Env}(h:isStar e=false)(k:isStar g=false):starEach [e,g] env=[(false,eval e env),(false,eval g env)]:=by rw [zbG h,zdH k]
def zi6 (K:PySem.W.Frag)(H:Hp)(a:Addr)(xs:List V):Prop :=
 (∃ o,H a=some (.frz o (.lst xs)))\/∃ (o:Obj) (its:Array Value) (n:Nat),K.lookup a=some o/\o.cls=.type "list"/\o.dict=none/\o.data=.seq its n/\its.size<=sizeLine/\Vals xs its.toList
theorem zi6.sq {K:PySem.W.Frag}{H:Hp}{a:Addr}{xs:List V}(h:zi6 K H a xs):SqL K H a xs:=h.imp (fun h=>.inr h) id
mutual
inductive Rel (K:PySem.W.Frag)(ad:List Addr)(H:Hp):D->V->Prop
 | non:Rel K ad H .non .non
 | bl (b:Bool):Rel K ad H (.bl b) (.bl b)
 | int (i:Int):Rel K ad H (.int i) (.int i)
 | str (x:Str):Rel K ad H (.str x) (.str x)
 | ty (n:String):Rel K ad H (.ty n) (.ty n)
 | tup {a:Addr} {vs:List V} {ds:List D}:H a=some (.tup vs)->zK K ad H ds vs->Rel K ad H (.tup ds) (.ref a)
 | rl {a:Addr} {vs:List V} {ds:List D}:zi6 K H a vs->zK K ad H ds vs->Rel K ad H (.rl ds) (.ref a)
 | ref {n:Nat} {a:Addr}:ad[n]?=some a->Rel K ad H (.ref n) (.ref a)
 | exn {c:Str} {a C:Addr} {o:Obj} {u:HO}:H a=some (.frz o u)->o.cls=.ref C->PySem.W.nsIn K mainGlobals c=some (some (.ref C))->Rel K ad H (.exn c) (.ref a)
inductive zK (K:PySem.W.Frag)(ad:List Addr)(H:Hp):List D->List V->Prop
 | nil:zK K ad H [] []
 | cons {d:D} {v:V} {ds:List D} {vs:List V}:Rel K ad H d v->zK K ad H ds vs->zK K ad H (d::ds) (v::vs)
end
structure Wd (ad:List Addr)(H:Hp)(ad':List Addr)(H':Hp):Prop where
 pre:ad <+: ad'
 keep:∀ b o,b∉ad->H b=some o->H' b=some o
 tup:∀ b xs,H b=some (.tup xs)->H' b=some (.tup xs)
 frz:∀ b o u,H b=some (.frz o u)->H' b=some (.frz o u)
 new:∀ b,b∈ad'->b∉ad->H b=none
theorem Wd.refl {ad:List Addr}{H:Hp}:Wd ad H ad H:=⟨List.prefix_refl _,fun _ _ _ h=>h,fun _ _ h=>h,fun _ _ _ h=>h,fun _ h n=>absurd h n⟩
theorem Wd.trans {ad ad1 ad2:List Addr}{H H1 H2:Hp}(a:Wd ad H ad1 H1)(b:Wd ad1 H1 ad2 H2):Wd ad H ad2 H2 where
 pre:=a.pre.trans b.pre
 keep:=fun c o hc h=>b.keep c o (fun h1=>by rw [a.new c h1 hc] at h;cases h) (a.keep c o hc h)
 tup:=fun c xs h=>b.tup c xs (a.tup c xs h)
 frz:=fun c o u h=>b.frz c o u (a.frz c o u h)
 new:=fun c h2 hc=>by
  by_cases h1:c∈ad1
  ·exact a.new c h1 hc
  ·have n1:=b.new c h2 h1
   cases e:H c with
   | none=>rfl
   | some o=>rw [a.keep c o hc e] at n1;cases n1
theorem zkt {α:Type}{l l':List α}(h:l <+: l'){n:Nat}{a:α}(e:l[n]?=some a):l'[n]?=some a:=by
 obtain⟨t,rfl⟩:=h
 rw [List.getElem?_append_left (My.za8 e)];exact e
structure Wr (ad:List Addr)(H:Hp)(ad':List Addr)(H':Hp):Prop where
 pre:ad <+: ad'
 tup:∀ b xs,H b=some (.tup xs)->H' b=some (.tup xs)
 frz:∀ b o u,H b=some (.frz o u)->H' b=some (.frz o u)
theorem Wd.wr {ad ad':List Addr}{H H':Hp}(w:Wd ad H ad' H'):Wr ad H ad' H':=⟨w.pre,w.tup,w.frz⟩
theorem zi6.wr {K:PySem.W.Frag}{ad ad':List Addr}{H H':Hp}{a:Addr}{xs:List V}(w:Wr ad H ad' H')(h:zi6 K H a xs):zi6 K H' a xs:=h.imp (fun⟨o,e⟩=>⟨o,w.frz _ _ _ e⟩) id
mutual
theorem Rel.wr {K:PySem.W.Frag}{ad ad':List Addr}{H H':Hp}(w:Wr ad H ad' H'):∀ {d:D} {v:V},Rel K ad H d v->Rel K ad' H' d v
 | _,_,.non=>.non
 | _,_,.bl b=>.bl b
 | _,_,.int i=>.int i
 | _,_,.str x=>.str x
 | _,_,.ty n=>.ty n
 | _,_,.tup h r=>.tup (w.tup _ _ h) (zK.wr w r)
 | _,_,.rl h r=>.rl (h.wr w) (zK.wr w r)
 | _,_,.ref h=>.ref (zkt w.pre h)
 | _,_,.exn h e n=>.exn (w.frz _ _ _ h) e n
theorem zK.wr {K:PySem.W.Frag}{ad ad':List Addr}{H H':Hp}(w:Wr ad H ad' H'):∀ {ds:List D} {vs:List V},zK K ad H ds vs->zK K ad' H' ds vs
 | _,_,.nil=>.nil
 | _,_,.cons r t=>.cons (Rel.wr w r) (zK.wr w t)
end
theorem Rel.wd {K:PySem.W.Frag}{ad ad':List Addr}{H H':Hp}{d:D}{v:V}(r:Rel K ad H d v)(w:Wd ad H ad' H'):Rel K ad' H' d v:=Rel.wr w.wr r
theorem zK.wd {K:PySem.W.Frag}{ad ad':List Addr}{H H':Hp}{ds:List D}{vs:List V}(r:zK K ad H ds vs)(w:Wd ad H ad' H'):zK K ad' H' ds vs:=zK.wr w.wr r
section
variable {K:PySem.W.Frag}{ad:List Addr}{H:Hp}
theorem zK.length:∀ {ds:List D} {vs:List V},zK K ad H ds vs->ds.length=vs.length
  | _,_,.nil=>rfl
  | _,_,.cons _ t=>congrArg (· + 1) (zK.length t)
theorem zK.get:∀ {ds:List D} {vs:List V} {i:Nat} {d:D},zK K ad H ds vs->ds[i]?=some d->∃ v,vs[i]?=some v/\Rel K ad H d v
 | _,_,_,_,.nil,e=>by simp at e
 | _,_,0,_,.cons r _,e=>by simp at e;subst e;exact⟨_,rfl,r⟩
 | _,_,i+1,d,.cons _ t,e=>by
  obtain⟨v,h1,h2⟩:=zK.get (i:=i) (d:=d) t (by simpa using e)
  exact⟨v,by simpa using h1,h2⟩
theorem zK.append:∀ {ds es:List D} {vs us:List V},zK K ad H ds vs->zK K ad H es us->zK K ad H (ds++es) (vs++us)
 | _,_,_,_,.nil,s=>s
 | _,_,_,_,.cons r t,s=>.cons r (zK.append t s)
theorem zK.take:∀ {ds:List D} {vs:List V} (n:Nat),zK K ad H ds vs->zK K ad H (ds.take n) (vs.take n)
 | _,_,0,_=>.nil
 | _,_,_+1,.nil=>.nil
 | _,_,n+1,.cons r t=>.cons r (zK.take n t)
theorem zK.drop:∀ {ds:List D} {vs:List V} (n:Nat),zK K ad H ds vs->zK K ad H (ds.drop n) (vs.drop n)
 | _,_,0,r=>r
 | _,_,_+1,.nil=>.nil
 | _,_,n+1,.cons _ t=>zK.drop n t
theorem zK.set {d:D}{v:V}(r:Rel K ad H d v):∀ {ds:List D} {vs:List V} (i:Nat),zK K ad H ds vs->zK K ad H (ds.set i d) (vs.set i v)
 | _,_,_,.nil=>.nil
 | _,_,0,.cons _ t=>.cons r t
 | _,_,i+1,.cons q t=>.cons q (zK.set r i t)
theorem zK.ints:∀ {ns:List Int} {vs:List V},zK K ad H (ns.map D.int) vs->vs=ns.map V.int
 | [],_,.nil=>rfl
 | n::ns,_,.cons r t=>by cases r;rw [zK.ints t];rfl
theorem zK.bls:∀ {ns:List Bool} {vs:List V},zK K ad H (ns.map D.bl) vs->vs=ns.map V.bl
 | [],_,.nil=>rfl
 | n::ns,_,.cons r t=>by cases r;rw [zK.bls t];rfl
theorem zK.mk_ints:∀ (ns:List Int),zK K ad H (ns.map D.int) (ns.map V.int)
 | []=>.nil
 | n::ns=>.cons (.int n) (zK.mk_ints ns)
end
inductive zaX (K:PySem.W.Frag)(ad:List Addr)(H:Hp):List (Str×D)->List (Str×V)->Prop
 | nil:zaX K ad H [] []
 | cons {f:Str} {d:D} {v:V} {fs:List (Str×D)} {vs:List (Str×V)}:Rel K ad H d v->zaX K ad H fs vs->zaX K ad H ((f,d)::fs) ((f,v)::vs)
theorem zaX.wr {K:PySem.W.Frag}{ad ad':List Addr}{H H':Hp}(w:Wr ad H ad' H'):∀ {fs:List (Str×D)} {vs:List (Str×V)},zaX K ad H fs vs->zaX K ad' H' fs vs
 | _,_,.nil=>.nil
 | _,_,.cons r t=>.cons (Rel.wr w r) (zaX.wr w t)
theorem zaX.look {K:PySem.W.Frag}{ad:List Addr}{H:Hp}{f:Str}:∀ {fs:List (Str×D)} {vs:List (Str×V)} {d:D},zaX K ad H fs vs->fs.lookup f=some d->∃ v,vs.lookup f=some v/\Rel K ad H d v
 | _,_,d,.nil,e=>by simp at e
 | _,_,d,@zaX.cons _ _ _ g x v fs vs r t,e=>by
  rw [qj] at e ⊢
  cases h:f==g with
  | true=>rw [h] at e;cases e;exact⟨v,rfl,r⟩
  | false=>rw [h] at e;exact zaX.look t e
theorem zaX.put {K:PySem.W.Frag}{ad:List Addr}{H:Hp}{f:Str}{d:D}{v:V}(rd:Rel K ad H d v):∀ {fs:List (Str×D)} {vs:List (Str×V)},zaX K ad H fs vs->zaX K ad H (putD f d fs) (zb3 f v vs)
 | _,_,.nil=>.cons rd .nil
 | _,_,@zaX.cons _ _ _ g x u fs vs r t=>by
  show zaX K ad H (if g=f then (g,d)::fs else (g,x)::putD f d fs) (if g=f then (g,v)::vs else (g,u)::zb3 f v vs)
  by_cases h:g=f
  ·rw [if_pos h,if_pos h];exact .cons rd t
  ·rw [if_neg h,if_neg h];exact .cons r (zaX.put rd t)
theorem zaX.length {K:PySem.W.Frag}{ad:List Addr}{H:Hp}:∀ {fs:List (Str×D)} {vs:List (Str×V)},zaX K ad H fs vs->fs.length=vs.length
  | _,_,.nil=>rfl
  | _,_,.cons _ t=>congrArg (· + 1) (zaX.length t)
theorem zlB {f:Str}{d:D}{q:Str×D}:∀ {fs:List (Str×D)},q∈putD f d fs->q.1=f\/q∈fs
 | [],h=>by
  have:q=(f,d):=by simpa [putD] using h
  subst this;exact .inl rfl
 | (g,x)::fs,h=>by
  have h:q∈if g=f then (g,d)::fs else (g,x)::putD f d fs:=h
  by_cases e:g=f
  ·rw [if_pos e] at h
   rcases qh.mp h with rfl | h
   ·exact .inl e
   ·exact .inr (List.mem_cons_of_mem _ h)
  ·rw [if_neg e] at h
   rcases qh.mp h with rfl | h
   ·exact .inr (by simp)
   ·exact (zlB h).imp id (List.mem_cons_of_mem _)
theorem zmJ {f:Str}{d:D}:∀ {fs:List (Str×D)},fs.lookup f=some d->∃ q∈fs,q.1=f
 | [],e=>by simp at e
 | (g,x)::fs,e=>by
  rw [qj] at e
  cases h:f==g with
  | true=>exact⟨(g,x),by simp,(eq_of_beq h).symm⟩
  | false =>
   rw [h] at e
   obtain⟨q,hq,e'⟩:=zmJ e
   exact⟨q,List.mem_cons_of_mem _ hq,e'⟩
inductive RelK (K:PySem.W.Frag)(ad:List Addr)(H:Hp):List (Str×D)->List (Key×V)->Prop
 | nil:RelK K ad H [] []
 | cons {x:Str} {d:D} {v:V} {fs:List (Str×D)} {vs:List (Key×V)}:Rel K ad H d v->RelK K ad H fs vs->RelK K ad H ((x,d)::fs) ((.inr x,v)::vs)
inductive zdE (K:PySem.W.Frag)(ad:List Addr)(H:Hp):List (List Key×D)->List (List Key×V)->Prop
 | nil:zdE K ad H [] []
 | cons {x:List Key} {d:D} {v:V} {fs:List (List Key×D)} {vs:List (List Key×V)}:Rel K ad H d v->zdE K ad H fs vs->zdE K ad H ((x,d)::fs) ((x,v)::vs)
theorem RelK.wr {K:PySem.W.Frag}{ad ad':List Addr}{H H':Hp}(w:Wr ad H ad' H'):∀ {fs:List (Str×D)} {vs:List (Key×V)},RelK K ad H fs vs->RelK K ad' H' fs vs
 | _,_,.nil=>.nil
 | _,_,.cons r t=>.cons (Rel.wr w r) (RelK.wr w t)
theorem zdE.wr {K:PySem.W.Frag}{ad ad':List Addr}{H H':Hp}(w:Wr ad H ad' H'):∀ {fs:List (List Key×D)} {vs:List (List Key×V)},zdE K ad H fs vs->zdE K ad' H' fs vs
 | _,_,.nil=>.nil
 | _,_,.cons r t=>.cons (Rel.wr w r) (zdE.wr w t)
def zdx (K:PySem.W.Frag)(ad:List Addr)(H:Hp)(a:Addr):Cell->Prop
 | .lst ds=>∃ vs,H a=some (.lst vs)/\zK K ad H ds vs
 | .ins c fs=>∃ C dx vs,H a=some (.ins C dx vs)/\Cls K C/\PySem.W.nsIn K mainGlobals c=some (some (.ref C))/\zaX K ad H fs vs/\∀ q∈fs,zaB K C q.1
 | .dk kvs=>∃ vs,H a=some (.dK vs)/\RelK K ad H kvs vs
 | .dt kvs=>∃ vs,H a=some (.dT vs)/\zdE K ad H kvs vs
class Bs where
 ad:List Addr
 H:Hp
structure zU [B:Bs](K:PySem.W.Frag)(ad:List Addr)(H:Hp)(S:Sto):Prop where
 wd:Wd B.ad B.H ad H
 len:ad.length=S.length
 nd:ad.Nodup
 cell:∀ (n:Nat) (a:Addr) (c:Cell),ad[n]?=some a->S[n]?=some c->zdx K ad H a c
structure zaK (K:PySem.W.Frag)(ad:List Addr)(H:Hp)(Z:Rho)(U:L2.St):Prop where
 len:Z.length=U.length
 val:∀ (i:Nat) (d:D),Z[i]?=some (some d)->∃ v,U[i]?=some (some v)/\Rel K ad H d v
theorem zaK.wd {K:PySem.W.Frag}{ad ad':List Addr}{H H':Hp}{Z:Rho}{U:L2.St}(h:zaK K ad H Z U)(w:Wd ad H ad' H'):zaK K ad' H' Z U :=
 ⟨h.len,fun i d e=>let ⟨v,e',r⟩:=h.val i d e;⟨v,e',r.wd w⟩⟩
variable [B:Bs]
section
variable {K:PySem.W.Frag}{ad:List Addr}{H:Hp}{S:Sto}
theorem zU.get (st:zU K ad H S){n:Nat}{c:Cell}(h:S[n]?=some c):∃ a,ad[n]?=some a/\zdx K ad H a c:=by
 have hn:n<ad.length:=by rw [st.len];exact My.za8 h
 exact⟨ad[n],qb hn,st.cell n _ c (qb hn) h⟩
theorem zdx.some {a:Addr}{c:Cell}(h:zdx K ad H a c):∃ o,H a=some o:=by
 cases c with
 | lst ds=>obtain⟨vs,e,_⟩:=h;exact⟨_,e⟩
 | ins c fs=>obtain⟨C,dx,vs,e,_⟩:=h;exact⟨_,e⟩
 | dk kvs=>obtain⟨vs,e,_⟩:=h;exact⟨_,e⟩
 | dt kvs=>obtain⟨vs,e,_⟩:=h;exact⟨_,e⟩
theorem zU.there (st:zU K ad H S){a:Addr}(h:a∈ad):∃ o,H a=some o:=by
 obtain⟨n,hn,e⟩:=List.mem_iff_getElem.mp h
 have e':ad[n]?=some a:=by rw [qb hn,e]
 have hs:n<S.length:=by rw [<- st.len];exact hn
 exact (st.cell n a S[n] e' (qb hs)).some
theorem zU.fresh (st:zU K ad H S){l:Addr}(h:H l=none):l∉ad:=fun m=>by
 obtain⟨o,e⟩:=st.there m
 rw [h] at e;cases e
theorem zdx.wr {ad':List Addr}{H':Hp}{a:Addr}{c:Cell}(h:zdx K ad H a c)(w:Wr ad H ad' H')(same:H' a=H a):zdx K ad' H' a c:=by
 cases c with
 | lst ds=>obtain⟨vs,e,r⟩:=h;exact⟨vs,same.trans e,zK.wr w r⟩
 | ins c fs=>obtain⟨C,dx,vs,e,c1,c2,r,n⟩:=h;exact⟨C,dx,vs,same.trans e,c1,c2,zaX.wr w r,n⟩
 | dk kvs=>obtain⟨vs,e,r⟩:=h;exact⟨vs,same.trans e,RelK.wr w r⟩
 | dt kvs=>obtain⟨vs,e,r⟩:=h;exact⟨vs,same.trans e,zdE.wr w r⟩
theorem zdx.wd {ad':List Addr}{H':Hp}{a:Addr}{c:Cell}(h:zdx K ad H a c)(w:Wd ad H ad' H')(same:H' a=H a):zdx K ad' H' a c:=h.wr w.wr same
theorem Wd.laid {l:Addr}{o:HO}(h:H l=none):Wd ad H ad (upd H l o) :=
 ⟨List.prefix_refl _,fun b u _ e=>ze6 h e,fun b u e=>ze6 h e,fun b u w e=>ze6 h e,fun _ m n=>absurd m n⟩
theorem zU.bfree (st:zU K ad H S){p:Addr}(h:H p=none):B.H p=none:=by
 cases e:B.H p with
 | none=>rfl
 | some o =>
  by_cases m:p∈B.ad
  ·obtain⟨u,hu⟩:=st.there (st.wd.pre.subset m)
   rw [h] at hu;cases hu
  ·rw [st.wd.keep p o m e] at h;cases h
theorem zU.laid (st:zU K ad H S){l:Addr}{o:HO}(h:H l=none):zU K ad (upd H l o) S :=
 ⟨st.wd.trans (Wd.laid h),st.len,st.nd,fun n a c e1 e2=>(st.cell n a c e1 e2).wd (Wd.laid h) (by
  obtain⟨u,e⟩:=(st.cell n a c e1 e2).some
  rw [ze6 h e,e])⟩
theorem Wd.newL (st:zU K ad H S){l:Addr}{o:HO}(h:H l=none):Wd ad H (ad++[l]) (upd H l o) :=
 ⟨List.prefix_append _ _,fun b u _ e=>ze6 h e,fun b u e=>ze6 h e,fun b u w e=>ze6 h e,fun b m n=>by
  rcases List.mem_append.mp m with m | m
  ·exact absurd m n
  ·have:b=l:=by simpa using m
   subst this;exact h⟩
theorem zU.newL (st:zU K ad H S){l:Addr}{vs:List V}{ds:List D}(h:H l=none)(r:zK K ad H ds vs):zU K (ad++[l]) (upd H l (.lst vs)) (S++[.lst ds]) where
 wd:=st.wd.trans (Wd.newL st h)
 len:=by rw [qe,qe,st.len];rfl
 nd:=by
  rw [List.nodup_append]
  refine⟨st.nd,by simp,fun a ha b hb e=>?_⟩
  have:b=l:=by simpa using hb
  subst this;subst e
  exact st.fresh h ha
 cell:=fun n a c e1 e2=>by
  by_cases hn:n<ad.length
  ·rw [List.getElem?_append_left hn] at e1
   rw [List.getElem?_append_left (by rw [<- st.len];exact hn)] at e2
   have ok:=st.cell n a c e1 e2
   obtain⟨u,e⟩:=ok.some
   exact ok.wd (Wd.newL st h) (by rw [ze6 h e,e])
  ·have hn':ad.length<=n:=Nat.le_of_not_lt hn
   rw [qk hn'] at e1
   rw [qk (by rw [<- st.len];exact hn'),<- st.len] at e2
   cases hk:n-ad.length with
   | zero =>
    rw [hk] at e1 e2
    have e1':l=a:=by simpa using e1
    have e2':Cell.lst ds=c:=by simpa using e2
    subst e1' e2'
    exact⟨vs,zaW,r.wd (Wd.newL st h)⟩
   | succ k=>rw [hk] at e1;simp at e1
theorem zU.newRef (st:zU K ad H S){l:Addr}{o:HO}:Rel K (ad++[l]) (upd H l o) (.ref S.length) (.ref l):=.ref (by rw [<- st.len,qk (qf _),Nat.sub_self];rfl)
theorem Wd.put {n:Nat}{a:Addr}{vs ws:List V}(e:ad[n]?=some a)(h:H a=some (.lst vs)):Wd ad H ad (upd H a (.lst ws)) :=
 ⟨List.prefix_refl _,fun b u hb q=>by
   have:b≠a:=fun z=>hb (by rw [z];exact qd e)
   rw [zaf this];exact q,
  fun b xs q=>by rw [zaf (zic q h (by intro z;cases z))];exact q,fun b o u q=>by rw [zaf (zic q h (by intro z;cases z))];exact q,fun _ m n=>absurd m n⟩
theorem zU.put (st:zU K ad H S){n:Nat}{a:Addr}{vs ws:List V}{ds:List D}(e:ad[n]?=some a)(h:H a=some (.lst vs))(r:zK K ad H ds ws):zU K ad (upd H a (.lst ws)) (S.set n (.lst ds)) where
 wd:=st.wd.trans (Wd.put e h)
 len:=by rw [List.length_set];exact st.len
 nd:=st.nd
 cell:=fun m b c e1 e2=>by
  have w:=Wd.put (ws:=ws) e h
  by_cases hm:m=n
  ·subst hm
   rw [e] at e1;cases e1
   rw [List.getElem?_set_self (by rw [<- st.len];exact My.za8 e)] at e2
   cases e2
   exact⟨ws,zaW,r.wd w⟩
  ·rw [List.getElem?_set_ne (Ne.symm hm)] at e2
   have ne:b≠a:=fun z=>by
    subst z
    have h1:=My.za8 e1
    have h2:=My.za8 e
    have q1:=(List.getElem?_eq_some_iff.mp e1).2
    have q2:=(List.getElem?_eq_some_iff.mp e).2
    exact hm ((List.getElem_inj st.nd).mp (q1.trans q2.symm))
   exact (st.cell m b c e1 e2).wd w (zaf ne)
theorem zU.newI (st:zU K ad H S){x dx C:Addr}{c:Str}(h:H x=none)(h2:H dx=none)(hne:dx≠x)(hc:Cls K C)(hn:PySem.W.nsIn K mainGlobals c=some (some (.ref C))) :
  Wd ad H (ad++[x]) (upd (upd H dx (.own x)) x (.ins C dx []))/\zU K (ad++[x]) (upd (upd H dx (.own x)) x (.ins C dx [])) (S++[.ins c []]):=by
 have st1:=st.laid (o:=.own x) h2
 have hx:upd H dx (.own x) x=none:=by rw [zaf (Ne.symm hne)];exact h
 have w1:Wd ad H ad (upd H dx (.own x)):=Wd.laid h2
 have w2:Wd ad (upd H dx (.own x)) (ad++[x]) (upd (upd H dx (.own x)) x (.ins C dx [])):=Wd.newL st1 hx
 refine⟨w1.trans w2,st.wd.trans (w1.trans w2),?_,?_,fun n a c' e1 e2=>?_⟩
 ·rw [qe,qe,st.len];rfl
 ·rw [List.nodup_append]
  refine⟨st.nd,by simp,fun a ha b hb e=>?_⟩
  have:b=x:=by simpa using hb
  subst this;subst e
  exact st.fresh h ha
 ·by_cases hn':n<ad.length
  ·rw [List.getElem?_append_left hn'] at e1
   rw [List.getElem?_append_left (by rw [<- st.len];exact hn')] at e2
   have ok:=st1.cell n a c' e1 e2
   obtain⟨u,e⟩:=ok.some
   exact ok.wd w2 (by rw [ze6 hx e,e])
  ·have hn':ad.length<=n:=Nat.le_of_not_lt hn'
   rw [qk hn'] at e1
   rw [qk (by rw [<- st.len];exact hn'),<- st.len] at e2
   cases hk:n-ad.length with
   | zero =>
    rw [hk] at e1 e2
    have e1':x=a:=by simpa using e1
    have e2':Cell.ins c []=c':=by simpa using e2
    subst e1' e2'
    exact⟨C,dx,[],zaW,hc,hn,.nil,fun q hq=>by cases hq⟩
   | succ k=>rw [hk] at e1;simp at e1
theorem Wd.putI {n:Nat}{a C dx C' dx':Addr}{vs ws:List (Str×V)}(e:ad[n]?=some a)(h:H a=some (.ins C dx vs)):Wd ad H ad (upd H a (.ins C' dx' ws)) :=
 ⟨List.prefix_refl _,fun b u hb q=>by
   have:b≠a:=fun z=>hb (by rw [z];exact qd e)
   rw [zaf this];exact q,
  fun b xs q=>by rw [zaf (zic q h (by intro z;cases z))];exact q,fun b o u q=>by rw [zaf (zic q h (by intro z;cases z))];exact q,fun _ m n=>absurd m n⟩
theorem zU.putI (st:zU K ad H S){n:Nat}{a C dx:Addr}{c f:Str}{vs:List (Str×V)}{fs:List (Str×D)}{d:D}{v:V}(e:ad[n]?=some a)(h:H a=some (.ins C dx vs))(hc:Cls K C)(hn:PySem.W.nsIn K mainGlobals c=some (some (.ref C)))(rf:zaX K ad H fs vs)(hna:∀ q∈fs,zaB K C q.1)(hf:zaB K C f)(r:Rel K ad H d v) :
  zU K ad (upd H a (.ins C dx (zb3 f v vs))) (S.set n (.ins c (putD f d fs))) where
 wd:=st.wd.trans (Wd.putI e h)
 len:=by rw [List.length_set];exact st.len
 nd:=st.nd
 cell:=fun m b c' e1 e2=>by
  have w:Wd ad H ad (upd H a (.ins C dx (zb3 f v vs))):=Wd.putI e h
  by_cases hm:m=n
  ·subst hm
   rw [e] at e1;cases e1
   rw [List.getElem?_set_self (by rw [<- st.len];exact My.za8 e)] at e2
   cases e2
   refine⟨C,dx,_,zaW,hc,hn,zaX.wr w.wr (zaX.put r rf),fun q hq=>?_⟩
   rcases zlB hq with h1 | h1
   ·rw [h1];exact hf
   ·exact hna q h1
  ·rw [List.getElem?_set_ne (Ne.symm hm)] at e2
   have ne:b≠a:=fun z=>by
    subst z
    have q1:=(List.getElem?_eq_some_iff.mp e1).2
    have q2:=(List.getElem?_eq_some_iff.mp e).2
    exact hm ((List.getElem_inj st.nd).mp (q1.trans q2.symm))
   exact (st.cell m b c' e1 e2).wd w (zaf ne)
theorem Wd.hid {ad':List Addr}{H':Hp}{p:Addr}{o:HO}(w:Wd ad H ad' H')(hp:H p=none):Wd ad H ad' (upd H' p o) :=
 ⟨w.pre,fun b u hb q=>by rw [zaf (zbE q hp)];exact w.keep b u hb q,fun b u q=>by rw [zaf (zbE q hp)];exact w.tup b u q,fun b u v q=>by rw [zaf (zbE q hp)];exact w.frz b u v q,w.new⟩
theorem Wr.hid {p:Addr}{vs ws:List V}(h:H p=some (.lst vs)):Wr ad H ad (upd H p (.lst ws)) :=
 ⟨List.prefix_refl _,fun b xs q=>by rw [zaf (zic q h (by intro z;cases z))];exact q,fun b o u q=>by rw [zaf (zic q h (by intro z;cases z))];exact q⟩
theorem zU.hid (st:zU K ad H S){p:Addr}{vs ws:List V}(h:H p=some (.lst vs))(hp:p∉ad)(hb:B.H p=none):zU K ad (upd H p (.lst ws)) S :=
 ⟨st.wd.hid hb,st.len,st.nd,fun n a c e1 e2=>(st.cell n a c e1 e2).wr (Wr.hid h) (zaf fun z=>hp (by rw [<- z];exact qd e1))⟩
theorem Wd.add {ad':List Addr}{H':Hp}{p:Addr}(w:Wd ad H ad' H')(hp:H p=none):Wd ad H (ad'++[p]) H' :=
 ⟨w.pre.trans (List.prefix_append _ _),w.keep,w.tup,w.frz,fun b m n=>by
  rcases List.mem_append.mp m with m | m
  ·exact w.new b m n
  ·have:b=p:=by simpa using m
   subst this;exact hp⟩
theorem zU.add (st:zU K ad H S){p:Addr}{vs:List V}{ds:List D}(h:H p=some (.lst vs))(hp:p∉ad)(r:zK K ad H ds vs)(hb:B.H p=none):zU K (ad++[p]) H (S++[.lst ds]) where
 wd:=st.wd.add hb
 len:=by rw [qe,qe,st.len];rfl
 nd:=by
  rw [List.nodup_append]
  refine⟨st.nd,by simp,fun a ha b hb e=>?_⟩
  have:b=p:=by simpa using hb
  subst this;subst e
  exact hp ha
 cell:=fun n a c e1 e2=>by
  have w:Wr ad H (ad++[p]) H:=⟨List.prefix_append _ _,fun _ _ q=>q,fun _ _ _ q=>q⟩
  by_cases hn:n<ad.length
  ·rw [List.getElem?_append_left hn] at e1
   rw [List.getElem?_append_left (by rw [<- st.len];exact hn)] at e2
   exact (st.cell n a c e1 e2).wr w rfl
  ·have hn':ad.length<=n:=Nat.le_of_not_lt hn
   rw [qk hn'] at e1
   rw [qk (by rw [<- st.len];exact hn'),<- st.len] at e2
   cases hk:n-ad.length with
   | zero =>
    rw [hk] at e1 e2
    have e1':p=a:=by simpa using e1
    have e2':Cell.lst ds=c:=by simpa using e2
    subst e1' e2'
    exact⟨vs,h,zK.wr w r⟩
   | succ k=>rw [hk] at e1;simp at e1
theorem Lst.sq (st:zU K ad H S){x:D}{xs:List D}{v:V}(h:Lst S x xs)(r:Rel K ad H x v):∃ a vs,v=.ref a/\SqL K H a vs/\zK K ad H xs vs:=by
 rcases h with rfl | ⟨n,rfl,h⟩
 ·cases r with
  | rl h r=>exact⟨_,_,rfl,h.sq,r⟩
 ·cases r with
  | ref e =>
   obtain⟨vs,e2,r⟩:=st.cell n _ _ e h
   exact⟨_,vs,rfl,SqL.of e2,r⟩
theorem zer.sq (st:zU K ad H S){x:D}{xs:List D}{v:V}(h:zer S x xs)(r:Rel K ad H x v):∃ a vs,v=.ref a/\(SqL K H a vs\/SqT K H a vs)/\zK K ad H xs vs:=by
 rcases h with rfl | h
 ·cases r with
  | tup h r=>exact⟨_,_,rfl,.inr (SqT.of h),r⟩
 ·obtain⟨a,vs,e,s,r⟩:=Lst.sq st h r
  exact⟨a,vs,e,.inl s,r⟩
end
omit B in
theorem el8 {a b c d:Type}{p1 p2 p3 p4:a->b->c->d->Prop}{R:Prop}(h:∃ (x:a) (y:b) (z:c) (w:d),p1 x y z w/\p2 x y z w/\p3 x y z w/\p4 x y z w)(f:∀ (x:a) (y:b) (z:c) (w:d),p1 x y z w->p2 x y z w->p3 x y z w->p4 x y z w->R):R :=
 Exists.elim h fun x h=>Exists.elim h fun y h=>Exists.elim h fun z h=>Exists.elim h fun w h=>f x y z w h.1 h.2.1 h.2.2.1 h.2.2.2
def KK (K:PySem.W.Frag)(ad:List Addr)(H:Hp)(Q0:DK)(Q:VK):Prop:=∀ d S' v H' ad',Q0 d S'->Wd ad H ad' H'->zU K ad' H' S'->Rel K ad' H' d v->Q v H'
theorem KK.wd {K:PySem.W.Frag}{ad ad':List Addr}{H H':Hp}{Q0:DK}{Q:VK}(k:KK K ad H Q0 Q)(w:Wd ad H ad' H'):KK K ad' H' Q0 Q:=fun d S' v H' ad' q w'=>k d S' v H' ad' q (w.trans w')
def up (K:PySem.W.Frag)(t:DE):TE:=fun U H Q=>∃ ad Z S Q0,zU K ad H S/\zaK K ad H Z U/\t Z S Q0/\KK K ad H Q0 Q
def upT (K:PySem.W.Frag)(t:DT):TT:=fun U H Q=>∃ ad Z S Q0,zU K ad H S/\zaK K ad H Z U/\t Z S Q0/\∀ b S' H' ad',Q0 b S'->Wd ad H ad' H'->zU K ad' H' S'->Q b H'
def upA (K:PySem.W.Frag)(t:DA):TA:=fun U H Q=>∃ ad Z S Q0,zU K ad H S/\zaK K ad H Z U/\t Z S Q0/\∀ ds S' vs H' ad',Q0 ds S'->Wd ad H ad' H'->zU K ad' H' S'->zK K ad' H' ds vs->Q vs H'
theorem zU.base {K:PySem.W.Frag}{ad:List Addr}{H:Hp}{S:Sto}(st:zU K ad H S):@zU ⟨ad,H⟩ K ad H S:=@zU.mk ⟨ad,H⟩ _ _ _ _ Wd.refl st.len st.nd st.cell
theorem zU.back {K:PySem.W.Frag}{ad ad':List Addr}{H H':Hp}{S S':Sto}(st:zU K ad H S)(st':@zU ⟨ad,H⟩ K ad' H' S'):zU K ad' H' S' :=
 ⟨st.wd.trans (@zU.wd ⟨ad,H⟩ _ _ _ _ st'),@zU.len ⟨ad,H⟩ _ _ _ _ st',@zU.nd ⟨ad,H⟩ _ _ _ _ st',@zU.cell ⟨ad,H⟩ _ _ _ _ st'⟩
theorem KK.base {K:PySem.W.Frag}{ad:List Addr}{H:Hp}{S:Sto}{Q0:DK}{Q:VK}(st:zU K ad H S)(k:KK K ad H Q0 Q):@KK ⟨ad,H⟩ K ad H Q0 Q:=fun d S' v H' ad' q w st' r=>k d S' v H' ad' q w (st.back st') r
def upF (K:PySem.W.Frag)(f:DSp):Sp:=fun vs H Q _=>∃ ad S ds Q0,@zU ⟨ad,H⟩ K ad H S/\zK K ad H ds vs/\f ds S Q0/\@KK ⟨ad,H⟩ K ad H Q0 Q
structure zjF (K:PySem.W.Frag)(ad:List Addr)(H:Hp)(E0:zoI)(E:Ends):Prop where
 nx:∀ Z S U H' ad',E0.nx Z S->Wd ad H ad' H'->zU K ad' H' S->zaK K ad' H' Z U->E.nx U H'
 rt:KK K ad H E0.rt E.rt
 bk:∀ Z S U H' ad',E0.bk Z S->Wd ad H ad' H'->zU K ad' H' S->zaK K ad' H' Z U->E.bk U H'
 ct:∀ Z S U H' ad',E0.ct Z S->Wd ad H ad' H'->zU K ad' H' S->zaK K ad' H' Z U->E.ct U H'
theorem zjF.wd {K:PySem.W.Frag}{ad ad':List Addr}{H H':Hp}{E0:zoI}{E:Ends}(k:zjF K ad H E0 E)(w:Wd ad H ad' H'):zjF K ad' H' E0 E :=
 ⟨fun Z S U H' ad' q w'=>k.nx Z S U H' ad' q (w.trans w'),k.rt.wd w,fun Z S U H' ad' q w'=>k.bk Z S U H' ad' q (w.trans w'),fun Z S U H' ad' q w'=>k.ct Z S U H' ad' q (w.trans w')⟩
def upS (K:PySem.W.Frag)(t:DS):TS:=fun E U H=>∃ ad Z S E0,zU K ad H S/\zaK K ad H Z U/\t E0 Z S/\zjF K ad H E0 E
@[irreducible] def PD (X:Cx)(e:Expr)(t:DE):Prop:=PE X e (up X.K t)
@[irreducible] def PTD (X:Cx)(e:Expr)(t:DT):Prop:=PT X e (upT X.K t)
@[irreducible] def PWD (X:Cx)(e:Expr)(t:DT):Prop:=PW X e (upT X.K t)
@[irreducible] def PAD (X:Cx)(es:List Expr)(t:DA):Prop:=PA X es (upA X.K t)
@[irreducible] def PSD (X:Cx)(st:Stmt)(t:DS):Prop:=PS X st (upS X.K t)
@[irreducible] def zf0 (X:Cx)(st:List Stmt)(t:DS):Prop:=PSs X st (upS X.K t)
theorem ztA {X:Cx}{e:Expr}{t t':TE}(h:PE X e t)(m:∀ U H Q,t' U H Q->t U H Q):PE X e t':=fun pins s U H Q I q=>h pins s U H Q I (m U H Q q)
theorem zgk {X:Cx}{e:Expr}{t t':TT}(h:PT X e t)(m:∀ U H Q,t' U H Q->t U H Q):PT X e t':=fun pins s U H Q I q=>h pins s U H Q I (m U H Q q)
theorem znH {X:Cx}{e:Expr}{t t':TT}(h:PW X e t)(m:∀ U H Q,t' U H Q->t U H Q):PW X e t':=fun wh pins s U H Q I q=>h wh pins s U H Q I (m U H Q q)
theorem znO {X:Cx}{e:List Expr}{t t':TA}(h:PA X e t)(m:∀ U H Q,t' U H Q->t U H Q):PA X e t':=fun pos pins s U H Q I q=>h pos pins s U H Q I (m U H Q q)
theorem zbJ {X:Cx}{st:Stmt}{t t':TS}(h:PS X st t)(m:∀ D U H,t' D U H->t D U H):PS X st t':=fun pins s U H D I q=>h pins s U H D I (m D U H q)
theorem zlW {X:Cx}{st:List Stmt}{t t':TS}(h:PSs X st t)(m:∀ D U H,t' D U H->t D U H):PSs X st t':=fun pins s U H D I q=>h pins s U H D I (m D U H q)
section
variable {X:Cx}{a b c:Expr}{ta tb tc:DE}{pos:Pos}
theorem za7 {e:Expr}{t:TE}{d:DE}(h:PE X e t)(m:∀ U H Q,up X.K d U H Q->t U H Q):PD X e d:=by with_unfolding_all exact (ztA h m)
theorem zuu {e:Expr}{i:Nat}(h:PE X e (zt4 i)):PD X e (zf i):=by with_unfolding_all exact (za7 h fun U H Q ⟨ad,Z,S,Q0,st,rh,⟨d,e,q⟩,k⟩=>by
 obtain⟨v,ev,r⟩:=rh.val i d e
 exact⟨v,ev,k d S v H ad q Wd.refl st r⟩)
theorem zh7 {e:Expr}{v:V}{d:D}(h:PE X e (tC v))(r:∀ ad H,Rel X.K ad H d v):PD X e (dC d):=by with_unfolding_all exact (za7 h fun U H Q hh=>el8 hh fun ad Z S Q0 st rh q k=>k d S v H ad q Wd.refl st (r _ _))
theorem zp {i j}:PD X (.Constant (.int i) j pos) (dC (.int i)):=by with_unfolding_all exact (zh7 zlo fun _ _=>.int i)
theorem zaN {b j}:PD X (.Constant (.bool b) j pos) (dC (.bl b)):=by with_unfolding_all exact (zh7 zwN fun _ _=>.bl b)
theorem zem {j}:PD X (.Constant .none j pos) (dC .non):=by with_unfolding_all exact (zh7 zuI fun _ _=>.non)
theorem zd2 {x j}:PD X (.Constant (.str x) j pos) (dC (.str x)):=by with_unfolding_all exact (zh7 zvV fun _ _=>.str x)
theorem zlh {x:Str}{T:String}(hg:Gl X x)(hm:X.mg x=none)(hv:bootBuiltins x=some (.type T))(hn:x≠"__name__":=by decide)(hd:(x==("__debug__":Str))=false:=by decide):PD X (.Name x pos) (dC (.ty T)):=by with_unfolding_all exact (zh7 (zwy hg hm hv hn hd) fun _ _=>.ty T)
theorem zai {x:Str}{n:Int}(hg:Gl X x)(hm:∃ t,X.mg x=some (.int n t))(hd:(x==("__debug__":Str))=false:=by decide):PD X (.Name x pos) (dC (.int n)):=by with_unfolding_all exact (zh7 (zsD hg hm hd) fun _ _=>.int n)
theorem ztc {x z:Str}(hg:Gl X x)(hm:∃ t,X.mg x=some (.str z t))(hd:(x==("__debug__":Str))=false:=by decide):PD X (.Name x pos) (dC (.str z)):=by with_unfolding_all exact (zh7 (by obtain⟨t,hm⟩:=hm;exact znp (v:=.str z) hg hm ⟨t,rfl⟩ hd) fun _ _=>.str z)
theorem zbr {i j:Int}{m n:Nat}{p1 p2:Pos}(c:Int)(h:i ^ j.toNat=c)(h0:0<=j/\j<=1000000/\i.natAbs<2 ^ 64):PD X (.BinOp (.Constant (.int i) m p1) .Pow (.Constant (.int j) n p2) pos) (dC (.int c)):=by with_unfolding_all exact (zh7 (ztl c h h0) fun _ _=>.int c)
def OD (K:PySem.W.Frag)(r':DR2)(r:R2):Prop:=∀ ad H S x y v u Q0 Q,zU K ad H S->Rel K ad H x v->Rel K ad H y u->r' x y S Q0->KK K ad H Q0 Q->r v u H Q
theorem zik {K:PySem.W.Frag}{r':DR2}{r:R2}(o:OD K r' r){U:L2.St}{H:Hp}{Q:VK}(h:up K (dOp r' ta tb) U H Q):tOp r (up K ta) (up K tb) U H Q:=by
 obtain⟨ad,Z,S,Q0,st,rh,q,k⟩:=h
 refine⟨ad,Z,S,_,st,rh,q,fun x S1 v H1 ad1 q1 w1 st1 r1=>?_⟩
 refine⟨ad1,Z,S1,_,st1,rh.wd w1,q1,fun y S2 u H2 ad2 q2 w2 st2 r2=>?_⟩
 exact o ad2 H2 S2 x y v u Q0 Q st2 (r1.wd w2) r2 q2 (k.wd (w1.trans w2))
theorem zjI {op:Operator}{r':DR2}{r:R2}(ho:OpR X (binaryOp op) r)(o:OD X.K r' r)(ha:PD X a ta)(hb:PD X b tb):PD X (.BinOp a op b pos) (dOp r' ta tb):=by with_unfolding_all exact (za7 (zsd ho ha hb) fun _ _ _=>zik o)
theorem zo6 {K:PySem.W.Frag}{C C':Int->Int->Prop}{g:Int->Int->D}{g':Int->Int->V}(hc:∀ i j,C i j->C' i j)(hg:∀ ad H i j,Rel K ad H (g i j) (g' i j)):OD K (oI C g) (rI C' g'):=fun ad H S x y v u Q0 Q st rx ry ⟨i,j,ex,ey,c,q⟩ k=>by
 subst ex ey
 cases rx
 cases ry
 exact⟨i,j,rfl,rfl,hc i j c,k _ S _ H ad q Wd.refl st (hg ad H i j)⟩
theorem zjw {K:PySem.W.Frag}{g:Int->Int->D}{g':Int->Int->V}(hg:∀ ad H i j,Rel K ad H (g i j) (g' i j)):OD K (oI0 g) (rI0 g'):=fun ad H S x y v u Q0 Q st rx ry ⟨i,j,ex,ey,q⟩ k=>by
 subst ex ey
 cases rx
 cases ry
 exact⟨i,j,rfl,rfl,k _ S _ H ad q Wd.refl st (hg ad H i j)⟩
theorem zp5 {i:Int}(h:i.natAbs<2 ^ 64):-(2 ^ 64)<i/\i<2 ^ 64:=⟨by omega,by omega⟩
def zw5 (i j:Int):Prop:=zar i j
theorem zs7:OpR X (binaryOp .Mult) (rI zw5 fun i j=>.int (i*j)):=opI fun i j _ _ _ _ _ hc q=>by
 rcases hc with h | h | h
 ·exact mul_int q (IntMulOk.of_bits (zjG h.1) (zjG h.2))
 ·exact mul_int q (zop.ok (.inl (zp5 h)))
 ·exact mul_int q (zop.ok (.inr (zp5 h)))
theorem zW (ha:PD X a ta)(hb:PD X b tb):PD X (.BinOp a .Sub b pos) (dOp zah ta tb):=by with_unfolding_all exact (zjI zvY (zjw fun _ _ i j=>.int (i-j)) ha hb)
theorem zuf {z:Str}{n:Int}(hz:z.length<=1000)(h0:-1000<=n)(h1:n<=1000):MulOk z n:=by
 refine⟨?_,fun _ _=>?_,fun h _=>?_⟩
 ·rw [decide_eq_false (by omega),decide_eq_false (by omega)];rfl
 ·have:(1000:Int)<=(2 ^ 63-1)/n\/n<1:=by
   rcases Int.lt_or_le n 1 with g | g
   ·exact .inr g
   ·exact .inl ((Int.le_ediv_iff_mul_le (by omega)).mpr (by omega))
  omega
 ·have:z.length*n.toNat<=1000*1000:=Nat.mul_le_mul hz (by omega)
  have hs:z.length*n.toNat<=sizeLine:=Nat.le_trans this (by decide)
  first
   | exact decide_eq_false (by omega)
   | (unfold tooLong;exact decide_eq_false (by omega))
   | simp [tooLong];omega
theorem ztQ:OpR X (binaryOp .Mult) (fun x y H Q=>∃ z n,x=.str z/\y=.int n/\MulOk z n/\Q (.str (Txt.mul z n)) H):=by
 intro pins s U H x y v u Q I rx ry h
 obtain⟨z,n,rfl,rfl,ok,q⟩:=h
 obtain⟨t,rfl⟩:=rx
 obtain⟨t',rfl⟩:=ry
 exact SB.mul ok fun t' k=>⟨.str (Txt.mul z n),H,I.tok _,⟨_,rfl⟩,q⟩
omit B in
theorem znY {i:Int}(h:Hg i):Builtin.Int.intBits i<=2 ^ 20:=by
 unfold Hg at h
 exact intBits_le h
omit B in
theorem zs4 {i:Int}(h:Builtin.Int.intBits i<=2 ^ 20):Hg i:=by
 unfold Hg
 exact Nat.lt_of_lt_of_le (natAbs_lt_pow_bits i) (Nat.pow_le_pow_right (by decide) h)
theorem zti:OpR X (binaryOp .Mult) (rI (fun i j=>Hg i/\Hg j) fun i j=>.int (i*j)):=opI fun i j _ _ _ _ _ hc q=>mul_int q (IntMulOk.of_bits (znY hc.1) (znY hc.2))
theorem zaj (ha:PD X a ta)(hb:PD X b tb):PD X (.BinOp a .Mult b pos) (dOp zau ta tb):=by with_unfolding_all exact (zjI (zs7.or (ztQ.or zti)) (fun ad H S x y v u Q0 Q st rx ry h k=>by
 rcases h with h | ⟨z,n,rfl,rfl,hz,h0,h1,q⟩ | h
 ·exact .inl (zo6 (fun _ _ h=>h) (fun _ _ i j=>.int (i*j)) ad H S x y v u Q0 Q st rx ry h k)
 ·cases rx
  cases ry
  exact .inr (.inl ⟨z,n,rfl,rfl,zuf hz h0 h1,k _ S _ H ad q Wd.refl st (.str _)⟩)
 ·exact .inr (.inr (zo6 (fun _ _ h=>h) (fun _ _ i j=>.int (i*j)) ad H S x y v u Q0 Q st rx ry h k))) ha hb)
theorem zdj (ha:PD X a ta)(hb:PD X b tb):PD X (.BinOp a .FloorDiv b pos) (dOp oDiv ta tb):=by with_unfolding_all exact (zjI zr2 (zo6 (fun _ _ h=>h) fun _ _ i j=>.int (i.fdiv j)) ha hb)
theorem za6 (ha:PD X a ta)(hb:PD X b tb):PD X (.BinOp a .Mod b pos) (dOp oMod ta tb):=by with_unfolding_all exact (zjI zsF (zo6 (fun _ _ h=>h) fun _ _ i j=>.int (i.fmod j)) ha hb)
theorem zds {n:Nat}(h:n<=big):n<=sizeLine:=Nat.le_trans h (by decide)
theorem zmI {n:Nat}(h:n<big):n<sizeLine:=Nat.lt_of_lt_of_le h (by decide)
theorem zfv {K:PySem.W.Frag}{ad:List Addr}{H:Hp}{S:Sto}{Q0:DK}{Q:VK}{ds:List D}{vs:List V}(st:zU K ad H S)(k:KK K ad H Q0 Q)(r:zK K ad H ds vs)(q:Q0 (.ref S.length) (S++[.lst ds]))(l:Addr)(h:H l=none):Q (.ref l) (upd H l (.lst vs)) :=
 k _ _ _ _ _ q (Wd.newL st h) (st.newL h r) st.newRef
theorem zjR {K:PySem.W.Frag}{ad:List Addr}{H:Hp}{S:Sto}{Q0:DK}{Q:VK}{ds:List D}{vs:List V}(st:zU K ad H S)(k:KK K ad H Q0 Q)(r:zK K ad H ds vs)(q:Q0 (.tup ds) S)(l:Addr)(h:H l=none):Q (.ref l) (upd H l (.tup vs)) :=
 k _ _ _ _ _ q (Wd.laid h) (st.laid h) (.tup zaW (r.wd (Wd.laid h)))
theorem zR (ha:PD X a ta)(hb:PD X b tb):PD X (.BinOp a .Add b pos) (dOp zad ta tb):=by with_unfolding_all exact (zjI (zuR.or ((zq9 rfl).or ((ztX rfl).or zod))) (fun ad H S x y v u Q0 Q st rx ry h k=>by
  rcases h with ⟨i,j,rfl,rfl,q⟩ | ⟨xs,ys,rfl,rfl,hz,q⟩ | ⟨xs,ys,hx,hy,hz,q⟩ | ⟨i,j,rfl,rfl,hz,q⟩
  ·cases rx
   cases ry
   exact .inl ⟨i,j,rfl,rfl,k _ S _ H ad q Wd.refl st (.int _)⟩
  ·cases rx with
   | tup h1 r1 =>
    cases ry with
    | tup h2 r2 =>
     have l1:=r1.length
     have l2:=r2.length
     refine .inr (.inl ⟨_,_,_,_,rfl,rfl,SqT.of h1,SqT.of h2,by rw [<- l1,<- l2];exact zds hz,fun e=>?_,fun _ e=>?_,fun _ _ p hp=>zjR st k (r1.append r2) q p hp⟩)
     ·have e':xs=[]:=List.length_eq_zero_iff.mp (by rw [l1,e];rfl)
      subst e'
      exact k _ S _ H ad q Wd.refl st (.tup h2 r2)
     ·have e':ys=[]:=List.length_eq_zero_iff.mp (by rw [l2,e];rfl)
      subst e'
      rw [List.append_nil] at q
      exact k _ S _ H ad q Wd.refl st (.tup h1 r1)
  ·obtain⟨a1,vs1,rfl,s1,r1⟩:=hx.sq st rx
   obtain⟨a2,vs2,rfl,s2,r2⟩:=hy.sq st ry
   exact .inr (.inr (.inl ⟨_,_,_,_,rfl,rfl,s1,s2,by rw [<- r1.length,<- r2.length];exact zds hz,fun p hp=>zfv st k (r1.append r2) q p hp⟩))
  ·cases rx
   cases ry
   exact .inr (.inr (.inr ⟨i,j,rfl,rfl,zds hz,k _ S _ H ad q Wd.refl st (.str _)⟩))) ha hb)
theorem zby (ha:PD X a ta):PD X (.UnaryOp .USub a pos) (dUn zcG ta):=by with_unfolding_all exact (za7 (zw4 zva ha) fun U H Q hh=>el8 hh fun ad Z S Q0 st rh q k=>by
 refine⟨ad,Z,S,_,st,rh,q,fun x S1 v H1 ad1 q1 w1 st1 r1=>?_⟩
 obtain⟨i,rfl,q1⟩:=q1
 cases r1
 exact⟨i,rfl,k _ _ _ _ _ q1 w1 st1 (.int _)⟩)
def OC (X:Cx)(op:CmpOp)(r':DR2):Prop:=∃ r,OpR X (compareOp op) r/\OD X.K r' r
theorem zaL:OC X .Lt oLt:=⟨_,zxi,zjw fun _ _ _ _=>.bl _⟩
theorem zeC:OC X .LtE oLe:=⟨_,zw0,zjw fun _ _ _ _=>.bl _⟩
theorem zb1:OC X .Gt oGt:=⟨_,zxn,zjw fun _ _ _ _=>.bl _⟩
theorem zwF:OC X .GtE oGe:=⟨_,zw6,zjw fun _ _ _ _=>.bl _⟩
mutual
def pyD:D->PyData
 | .non=>.none
 | .bl b=>.bool b
 | .int i=>.int i
 | .str x=>.str x
 | .tup xs=>.tuple (zay xs)
 | .ref _=>.none
 | .ty _=>.none
 | .rl _=>.none
 | .exn _=>.none
def zay:List D->List PyData
 | []=>[]
 | x::xs=>pyD x::zay xs
end
section
variable {pins:List (Addr×Obj)}{U:L2.St}{H:Hp}{s:Shared}{ad:List Addr}
theorem zeo (I:Inv X pins U H s)(k:Nat)(h1:∀ d v u,fl k d=true->Rel X.K ad H d v->RelV v u->∃ as,Reads s.heap u (pyD d) as):∀ ds vs us,ds.all (fl k)=true->zK X.K ad H ds vs->Vals vs us->∃ as,ReadsAll s.heap us (zay ds) as:=by
 intro ds
 induction ds with
 | nil=>intro vs us _ r rv;cases r;cases rv;exact⟨_,.nil⟩
 | cons d ds ih =>
  intro vs us hf r rv
  rw [List.all_cons,Bool.and_eq_true] at hf
  cases r with
  | cons r t =>
   cases rv with
   | cons q qt =>
    obtain⟨as,ra⟩:=h1 d _ _ hf.1 r q
    obtain⟨bs,rb⟩:=ih _ _ hf.2 t qt
    exact⟨_,.cons ra rb⟩
theorem zb4 (I:Inv X pins U H s):∀ (k:Nat) (d:D) (v:V) (u:Value),fl k d=true->Rel X.K ad H d v->RelV v u->∃ as,Reads s.heap u (pyD d) as:=by
 intro k
 induction k with
 | zero =>
  intro d v u hf r q
  cases r with
  | non=>cases q;exact⟨_,.none⟩
  | bl b=>cases q;exact⟨_,.bool b⟩
  | int i=>obtain⟨t,rfl⟩:=q;exact⟨_,.int i t⟩
  | str x=>obtain⟨t,rfl⟩:=q;exact⟨_,.str x t⟩
  | ty n=>cases hf
  | tup h r=>cases hf
  | rl h r=>cases hf
  | ref h=>cases hf
  | exn _ _ _=>cases hf
 | succ k ih =>
  intro d v u hf r q
  cases r with
  | non=>cases q;exact⟨_,.none⟩
  | bl b=>cases q;exact⟨_,.bool b⟩
  | int i=>obtain⟨t,rfl⟩:=q;exact⟨_,.int i t⟩
  | str x=>obtain⟨t,rfl⟩:=q;exact⟨_,.str x t⟩
  | ty n=>cases hf
  | tup h r =>
   cases q
   obtain⟨its,rv,ht,hz⟩:=I.tuple (SqT.of h)
   obtain⟨o,ho,hc,n,hd⟩:=ht
   obtain⟨as,ra⟩:=zeo I k ih _ _ _ hf r rv
   exact⟨_,.tuple ho hc hd (by simpa using ra)⟩
  | rl h r=>cases hf
  | ref h=>cases hf
  | exn _ _ _=>cases hf
end
theorem zfD:∀ (k:Nat) (d:D),fl k d=true->(pyD d).canLay0=true/\(pyD d).depth<=k:=by
 have all:∀ k,(∀ d,fl k d=true->(pyD d).canLay0=true/\(pyD d).depth<=k)->∀ ds:List D,ds.all (fl k)=true->PyData.canLayAll0 (zay ds)=true/\PyData.depthAll (zay ds)<=k:=by
  intro k h ds
  induction ds with
  | nil=>intro _;exact⟨rfl,Nat.zero_le _⟩
  | cons d ds ih =>
   intro hf
   rw [List.all_cons,Bool.and_eq_true] at hf
   obtain⟨a1,a2⟩:=h d hf.1
   obtain⟨b1,b2⟩:=ih hf.2
   refine⟨?_,?_⟩
   ·show (PyData.canLay0 (pyD d)&&PyData.canLayAll0 (zay ds))=true
    rw [a1,b1];rfl
   ·show max (PyData.depth (pyD d)) (PyData.depthAll (zay ds))<=k
    exact Nat.max_le.mpr ⟨a2,b2⟩
 intro k
 induction k with
 | zero =>
  intro d hf
  cases d with
  | non=>exact⟨rfl,Nat.zero_le _⟩
  | bl b=>exact⟨rfl,Nat.zero_le _⟩
  | int i=>exact⟨rfl,Nat.zero_le _⟩
  | str x=>exact⟨hf,Nat.zero_le _⟩
  | tup xs=>cases hf
  | ref n=>cases hf
  | exn _=>cases hf
  | ty n=>cases hf
  | rl xs=>cases hf
 | succ k ih =>
  intro d hf
  cases d with
  | non=>exact⟨rfl,Nat.zero_le _⟩
  | bl b=>exact⟨rfl,Nat.zero_le _⟩
  | int i=>exact⟨rfl,Nat.zero_le _⟩
  | str x=>exact⟨hf,Nat.zero_le _⟩
  | tup xs =>
   obtain⟨h1,h2⟩:=all k ih xs hf
   refine⟨h1,?_⟩
   show PyData.depthAll (zay xs)+1<=k+1
   omega
  | ref n=>cases hf
  | exn _=>cases hf
  | ty n=>cases hf
  | rl xs=>cases hf
theorem zdu (k:Nat):∀ ds:List D,ds.all (fl k)=true->PyData.canLayAll0 (zay ds)=true/\PyData.depthAll (zay ds)<=k:=by
 intro ds
 induction ds with
 | nil=>intro _;exact⟨rfl,Nat.zero_le _⟩
 | cons d ds ih =>
  intro hf
  rw [List.all_cons,Bool.and_eq_true] at hf
  obtain⟨a1,a2⟩:=zfD k d hf.1
  obtain⟨b1,b2⟩:=ih hf.2
  refine⟨?_,?_⟩
  ·show (PyData.canLay0 (pyD d)&&PyData.canLayAll0 (zay ds))=true
   rw [a1,b1];rfl
  ·show max (PyData.depth (pyD d)) (PyData.depthAll (zay ds))<=k
   exact Nat.max_le.mpr ⟨a2,b2⟩
mutual
theorem zjC:∀ (k:Nat) (x y:D),fl k x=true->fl k y=true->PyData.eqv (pyD x) (pyD y)=eqv x y
  | k,.non,y,_,hy=>by cases y<;>first | rfl | (cases k<;>cases hy)
  | k,.bl a,y,_,hy=>by cases y<;>first | rfl | (cases k<;>cases hy)
  | k,.int i,y,_,hy=>by
    cases y with
    | int j=>show (i==j)=decide (i=j);rw [Bool.beq_eq_decide_eq]
    | ref n=>cases k<;>cases hy
    | exn n=>cases k<;>cases hy
    | ty n=>cases k<;>cases hy
    | rl n=>cases k<;>cases hy
    | _=>rfl
  | k,.str a,y,_,hy=>by cases y<;>first | rfl | (cases k<;>cases hy)
  | 0,.tup xs,y,hx,_=>by cases hx
  | k+1,.tup xs,y,hx,hy=>by
    cases y with
    | tup ys=>exact zfP k xs ys hx hy
    | ref n=>cases hy
    | ty n=>cases hy
    | rl n=>cases hy
    | _=>rfl
  | k,.ref n,y,hx,_=>by cases k<;>cases hx
  | k,.ty n,y,hx,_=>by cases k<;>cases hx
  | k,.rl n,y,hx,_=>by cases k<;>cases hx
  | k,.exn n,y,hx,_=>by cases k<;>cases hx
theorem zfP:∀ (k:Nat) (xs ys:List D),xs.all (fl k)=true->ys.all (fl k)=true->PyData.eqvAll (zay xs) (zay ys)=eqvAll xs ys
  | k,[],[],_,_=>rfl
  | k,[],y::ys,_,_=>rfl
  | k,x::xs,[],_,_=>rfl
  | k,x::xs,y::ys,hx,hy=>by
    rw [List.all_cons,Bool.and_eq_true] at hx hy
    show (PyData.eqv (pyD x) (pyD y)&&PyData.eqvAll (zay xs) (zay ys))=(eqv x y&&eqvAll xs ys)
    rw [zjC k x y hx.1 hy.1,zfP k xs ys hx.2 hy.2]
end
def zey (xss:List (List D)):List PyData:=xss.map fun zs=>.list (zay zs)
theorem zl2:∀ xss:List (List D),zgG xss=true->PyData.canLayAll0 (zey xss)=true/\PyData.depthAll (zey xss)<=21
 | [],_=>⟨rfl,Nat.zero_le _⟩
 | zs::xss,h=>by
  unfold zgG at h
  rw [List.all_cons,Bool.and_eq_true] at h
  obtain⟨a1,a2⟩:=zdu 20 zs h.1
  obtain⟨b1,b2⟩:=zl2 xss h.2
  refine⟨?_,?_⟩
  ·show (PyData.canLayAll0 (zay zs)&&PyData.canLayAll0 (zey xss))=true
   rw [a1,b1];rfl
  ·show max (PyData.depthAll (zay zs)+1) (PyData.depthAll (zey xss))<=21
   exact Nat.max_le.mpr ⟨by omega,b2⟩
theorem zpR:∀ xss yss:List (List D),zgG xss=true->zgG yss=true->PyData.eqvAll (zey xss) (zey yss)=eqvAll (xss.map D.tup) (yss.map D.tup)
 | [],[],_,_=>rfl
 | [],_::_,_,_=>rfl
 | _::_,[],_,_=>rfl
 | zs::xss,ws::yss,h,k=>by
  unfold zgG at h k
  rw [List.all_cons,Bool.and_eq_true] at h k
  show (PyData.eqvAll (zay zs) (zay ws)&&PyData.eqvAll (zey xss) (zey yss))=(eqvAll zs ws&&eqvAll (xss.map D.tup) (yss.map D.tup))
  rw [zfP 20 zs ws h.1 k.1,zpR xss yss h.2 k.2]
theorem zi7 {pins:List (Addr×Obj)}{U:L2.St}{H:Hp}{s:Shared}{ad:List Addr}{S:Sto}(I:Inv X pins U H s)(st:zU X.K ad H S):∀ (xs:List D) (xss:List (List D)) (vs:List V) (us:List Value),zjN S xs xss->zgG xss=true->zK X.K ad H xs vs->Vals vs us->∃ as,ReadsAll s.heap us (zey xss) as
 | [],[],_,_,_,_,r,rv=>by cases r;cases rv;exact⟨_,.nil⟩
 | [],_::_,_,_,h,_,_,_=>h.elim
 | _::_,[],_,_,h,_,_,_=>h.elim
 | x::xs,zs::xss,_,_,h,f,r,rv=>by
  unfold zgG at f
  rw [List.all_cons,Bool.and_eq_true] at f
  cases r with
  | cons r t =>
   obtain⟨a1,vs1,rfl,s1,r1⟩:=h.1.sq st r
   cases rv with
   | cons q qt =>
    cases q
    obtain⟨its,rv1,ht,hz⟩:=I.list s1
    obtain⟨o,ho,hc,n,hd⟩:=ht.isList
    obtain⟨as,ra⟩:=zeo I 20 (zb4 I 20) _ _ _ f.1 r1 rv1
    obtain⟨bs,rb⟩:=zi7 I st xs xss _ _ h.2 f.2 t qt
    exact⟨_,.cons (.list ho hc hd (by simpa using ra)) rb⟩
def zud (X:Cx)(g:Bool->Bool):R2:=fun x y H Q=>∃ ad S dx dy b,zU X.K ad H S/\Rel X.K ad H dx x/\Rel X.K ad H dy y/\EqD S dx dy b/\Q (.bl (g b)) H
theorem zkO {pins:List (Addr×Obj)}{U:L2.St}{H:Hp}{s:Shared}{ad:List Addr}{S:Sto}{dx dy:D}{x y:V}{v u:Value}{b:Bool}(I:Inv X pins U H s)(st:zU X.K ad H S)(rx:Rel X.K ad H dx x)(ry:Rel X.K ad H dy y)(qx:RelV x v)(qy:RelV y u)(h:EqD S dx dy b) :
  ∃ px py as bs,Reads s.heap v px as/\Reads s.heap u py bs/\px.canLay0=true/\py.canLay0=true/\min px.depth py.depth<=60/\PyData.eqv px py=b:=by
 rcases h with ⟨fx,fy,rfl⟩ | ⟨xs,ys,hx,hy,fx,fy,rfl⟩ | ⟨xs,ys,xss,yss,hx,hy,lx,ly,fx,fy,rfl⟩
 ·obtain⟨as,ra⟩:=zb4 I 20 dx x v fx rx qx
  obtain⟨bs,rb⟩:=zb4 I 20 dy y u fy ry qy
  obtain⟨c1,d1⟩:=zfD 20 dx fx
  obtain⟨c2,d2⟩:=zfD 20 dy fy
  exact⟨_,_,as,bs,ra,rb,c1,c2,by omega,zjC 20 dx dy fx fy⟩
 ·obtain⟨a1,vs1,rfl,s1,r1⟩:=hx.sq st rx
  obtain⟨a2,vs2,rfl,s2,r2⟩:=hy.sq st ry
  cases qx
  cases qy
  obtain⟨its,rv,ht,hz⟩:=I.list s1
  obtain⟨its2,rv2,ht2,hz2⟩:=I.list s2
  obtain⟨o,ho,hc,n,hd⟩:=ht.isList
  obtain⟨o2,ho2,hc2,n2,hd2⟩:=ht2.isList
  obtain⟨as,ra⟩:=zeo I 20 (zb4 I 20) _ _ _ fx r1 rv
  obtain⟨bs,rb⟩:=zeo I 20 (zb4 I 20) _ _ _ fy r2 rv2
  obtain⟨c1,d1⟩:=zdu 20 xs fx
  obtain⟨c2,d2⟩:=zdu 20 ys fy
  refine⟨.list (zay xs),.list (zay ys),_,_,.list ho hc hd (by simpa using ra),.list ho2 hc2 hd2 (by simpa using rb),c1,c2,?_,zfP 20 xs ys fx fy⟩
  show min (PyData.depthAll (zay xs)+1) (PyData.depthAll (zay ys)+1)<=60
  omega
 ·obtain⟨a1,vs1,rfl,s1,r1⟩:=hx.sq st rx
  obtain⟨a2,vs2,rfl,s2,r2⟩:=hy.sq st ry
  cases qx
  cases qy
  obtain⟨its,rv,ht,hz⟩:=I.list s1
  obtain⟨its2,rv2,ht2,hz2⟩:=I.list s2
  obtain⟨o,ho,hc,n,hd⟩:=ht.isList
  obtain⟨o2,ho2,hc2,n2,hd2⟩:=ht2.isList
  obtain⟨as,ra⟩:=zi7 I st xs xss _ _ lx fx r1 rv
  obtain⟨bs,rb⟩:=zi7 I st ys yss _ _ ly fy r2 rv2
  obtain⟨c1,d1⟩:=zl2 xss fx
  obtain⟨c2,d2⟩:=zl2 yss fy
  refine⟨.list (zey xss),.list (zey yss),_,_,.list ho hc hd (by simpa using ra),.list ho2 hc2 hd2 (by simpa using rb),c1,c2,?_,zpR xss yss fx fy⟩
  show min (PyData.depthAll (zey xss)+1) (PyData.depthAll (zey yss)+1)<=60
  omega
theorem zb0 {k:Nat}(hr:zaO k X.A):OC X .Eq oEq:=⟨zud X id,fun pins s U H x y v u Q I qx qy ⟨ad,S,dx,dy,b,st,rx,ry,h,q⟩=>by
  obtain⟨px,py,as,bs,ra,rb,c1,c2,hd,e⟩:=zkO I st rx ry qx qy h
  have hu:=hr.units
  exact PySem.SeqAt.rcAt_reads ra rb c1 c2 (by omega) X.prog X.w X.xe _ ⟨.bl _,H,I,by rw [e];rfl,q⟩,
 fun ad H S x y v u Q0 Q st rx ry ⟨b,h,q⟩ k=>⟨ad,S,x,y,b,st,rx,ry,h,k _ S _ H ad q Wd.refl st (.bl _)⟩⟩
theorem ze4 {k:Nat}(hr:zaO k X.A):OC X .NotEq oNe:=⟨zud X (!·),fun pins s U H x y v u Q I qx qy ⟨ad,S,dx,dy,b,st,rx,ry,h,q⟩=>by
  obtain⟨px,py,as,bs,ra,rb,c1,c2,hd,e⟩:=zkO I st rx ry qx qy h
  have hu:=hr.units
  exact PySem.SeqAt.rcNeAt_reads ra rb c1 c2 (by omega) X.prog X.w X.xe _ ⟨.bl _,H,I,by rw [e];rfl,q⟩,
 fun ad H S x y v u Q0 Q st rx ry ⟨b,h,q⟩ k=>⟨ad,S,x,y,b,st,rx,ry,h,k _ S _ H ad q Wd.refl st (.bl _)⟩⟩
theorem zpZ {K:PySem.W.Frag}{ad:List Addr}{H:Hp}{d:D}{v:V}(r:Rel K ad H d v):decide (v=.non)=zhg d:=by
  cases r<;>rfl
theorem zs0:OpR X (compareOp .IsNot) (rB0 fun i j=>.bl (!(i==j))):=fun pins s U H x y v u Q I rx ry ⟨i,j,ex,ey,q⟩=>by
 subst ex ey
 cases rx
 cases ry
 exact isnot_bool ⟨.bl _,H,I,rfl,q⟩
theorem zgr:OC X .IsNot zfH:=⟨_,zvN.or zs0,fun ad H S x y v u Q0 Q st rx ry h k=>by
 rcases h with ⟨rfl,q⟩ | ⟨a,b,rfl,rfl,q⟩
 ·cases ry
  exact .inl ⟨rfl,by rw [zpZ rx];exact k _ S _ H ad q Wd.refl st (.bl _)⟩
 ·cases rx
  cases ry
  exact .inr ⟨a,b,rfl,rfl,k _ S _ H ad q Wd.refl st (.bl _)⟩⟩
theorem zeU {op:CmpOp}{r':DR2}(o:OC X op r')(ha:PD X a ta)(hb:PD X b tb)(h:op≠.In:=by decide)(h2:op≠.NotIn:=by decide):PD X (.Compare a [op] [b] pos) (dOp r' ta tb):=by
 with_unfolding_all
  obtain⟨r,ho,od⟩:=o
  exact za7 (zny ho ha hb (zpp _ h h2)) fun _ _ _=>zik od
theorem zN {op:CmpOp}{r':DR2}(o:OC X op r')(ha:PD X a ta)(hb:PD X b tb)(h:op≠.In:=by decide)(h2:op≠.NotIn:=by decide):PTD X (.Compare a [op] [b] pos) (dT (dOp r' ta tb)):=by
 with_unfolding_all
  obtain⟨r,ho,od⟩:=o
  refine zgk (znJ ho ha hb (zpp _ h h2)) fun U H Q hh=>el8 hh fun ad Z S Q0 st rh q k=>?_
  refine zik (Q:=fun x H'=>∃ k,x=.bl k/\Q k H') od ⟨ad,Z,S,_,st,rh,q,fun d S' v H' ad' ⟨b,e,q'⟩ w st' r=>?_⟩
  subst e
  cases r
  exact⟨b,rfl,k b S' H' ad' q' w st'⟩
theorem zmz {K:PySem.W.Frag}{r1' r2':DR2}{r1 r2:R2}(o1:OD K r1' r1)(o2:OD K r2' r2){U:L2.St}{H:Hp}{Q:VK}(h:up K (zgi r1' r2' ta tb tc) U H Q):zmF r1 r2 (up K ta) (up K tb) (up K tc) U H Q:=by
 obtain⟨ad,Z,S,Q0,st,rh,q,k⟩:=h
 refine⟨ad,Z,S,_,st,rh,q,fun x S1 v H1 ad1 q1 w1 st1 rx=>?_⟩
 refine⟨ad1,Z,S1,_,st1,rh.wd w1,q1,fun y S2 u H2 ad2 q2 w2 st2 ry=>?_⟩
 refine o1 ad2 H2 S2 x y v u _ _ st2 (rx.wd w2) ry q2 fun z S3 z' H3 ad3 ⟨c,e,q3⟩ w3 st3 rz=>?_
 subst e
 cases rz
 refine⟨c,rfl,?_⟩
 cases c with
 | true =>
  rw [if_pos rfl] at q3 ⊢
  refine⟨ad3,Z,S3,_,st3,rh.wd ((w1.trans w2).trans w3),q3,fun z S4 z' H4 ad4 q4 w4 st4 rz=>?_⟩
  exact o2 ad4 H4 S4 y z u z' Q0 Q st4 (ry.wd (w3.trans w4)) rz q4 (k.wd (((w1.trans w2).trans w3).trans w4))
 | false =>
  rw [if_neg Bool.false_ne_true] at q3 ⊢
  exact k _ S3 _ H3 ad3 q3 ((w1.trans w2).trans w3) st3 (.bl _)
theorem zrD {op op':CmpOp}{r1 r2:DR2}(o1:OC X op r1)(o2:OC X op' r2)(ha:PD X a ta)(hb:PD X b tb)(hc:PD X c tc)(hm:lastMarks [op,op'] [b,c]=false:=by with_unfolding_all rfl):PD X (.Compare a [op,op'] [b,c] pos) (zgi r1 r2 ta tb tc):=by
 with_unfolding_all
  obtain⟨s1,h1,d1⟩:=o1
  obtain⟨s2,h2,d2⟩:=o2
  exact za7 (zrl h1 h2 ha hb hc hm) fun _ _ _=>zmz d1 d2
theorem zaS {e:Expr}{t:DE}(h:PD X e t)(he:∀ whole,isTrue e X.env whole=(do let v <- whole;standAt e.pos;holding [v] (truthy v)):=by intro _;rfl):PTD X e (dT t):=by with_unfolding_all exact (zgk (zuz h he) fun U H Q hh=>el8 hh fun ad Z S Q0 st rh q k =>
 ⟨ad,Z,S,_,st,rh,q,fun d S' v H' ad' ⟨b,e,q'⟩ w st' r=>by
  subst e
  cases r
  exact⟨b,rfl,k b S' H' ad' q' w st'⟩⟩)
theorem zp7 {op op':CmpOp}{r1 r2:DR2}(o1:OC X op r1)(o2:OC X op' r2)(ha:PD X a ta)(hb:PD X b tb)(hc:PD X c tc)(hm:lastMarks [op,op'] [b,c]=false:=by with_unfolding_all rfl):PTD X (.Compare a [op,op'] [b,c] pos) (dT (zgi r1 r2 ta tb tc)):=by
 with_unfolding_all
  obtain⟨s1,h1,d1⟩:=o1
  obtain⟨s2,h2,d2⟩:=o2
  refine zgk (zqT h1 h2 ha hb hc hm) fun U H Q hh=>el8 hh fun ad Z S Q0 st rh q k=>?_
  refine zmz (Q:=fun x H'=>∃ k,x=.bl k/\Q k H') d1 d2 ⟨ad,Z,S,_,st,rh,q,fun d S' v H' ad' ⟨b,e,q'⟩ w st' r=>?_⟩
  subst e
  cases r
  exact⟨b,rfl,k b S' H' ad' q' w st'⟩
variable {tA tB':DT}{rest:List Expr}
theorem zbQ (h:PTD X a tA):PTD X (.UnaryOp .Not a pos) (zd8 tA):=by with_unfolding_all exact (zgk (zvm h) fun U H Q hh=>el8 hh fun ad Z S Q0 st rh q k=>⟨ad,Z,S,_,st,rh,q,fun b S' H' ad' q' w st'=>k _ S' H' ad' q' w st'⟩)
theorem zaQ {e:Expr}{t:DT}(h:PWD X e t):PTD X e t:=by with_unfolding_all exact (h _)
theorem zcr (ha:PTD X a tA):PWD X (.BoolOp .And [a] pos) tA:=by with_unfolding_all exact (ztj ha)
theorem zbH (ha:PTD X a tA):PWD X (.BoolOp .Or [a] pos) tA:=by with_unfolding_all exact (zve ha)
theorem zc7 (ha:PTD X a tA)(hb:PWD X (.BoolOp .And (b::rest) pos) tB'):PWD X (.BoolOp .And (a::b::rest) pos) (zfB tA tB'):=by with_unfolding_all exact (znH (zu8 ha hb) fun U H Q hh=>el8 hh fun ad Z S Q0 st rh q k =>
 ⟨ad,Z,S,_,st,rh,q,fun b S' H' ad' q' w st'=>by
  cases b with
  | true=>rw [if_pos rfl] at q' ⊢;exact⟨ad',Z,S',Q0,st',rh.wd w,q',fun b S' H' ad' q w'=>k b S' H' ad' q (w.trans w')⟩
  | false=>rw [if_neg Bool.false_ne_true] at q' ⊢;exact k _ S' H' ad' q' w st'⟩)
theorem zbX (ha:PTD X a tA)(hb:PWD X (.BoolOp .Or (b::rest) pos) tB'):PWD X (.BoolOp .Or (a::b::rest) pos) (dOr tA tB'):=by with_unfolding_all exact (znH (zwl ha hb) fun U H Q hh=>el8 hh fun ad Z S Q0 st rh q k =>
 ⟨ad,Z,S,_,st,rh,q,fun b S' H' ad' q' w st'=>by
  cases b with
  | false=>rw [if_neg Bool.false_ne_true] at q' ⊢;exact⟨ad',Z,S',Q0,st',rh.wd w,q',fun b S' H' ad' q w'=>k b S' H' ad' q (w.trans w')⟩
  | true=>rw [if_pos rfl] at q' ⊢;exact k _ S' H' ad' q' w st'⟩)
theorem zjU {op}{t:DE}(h:PD X a t):PD X (.BoolOp op [a] pos) t:=by with_unfolding_all exact (zvW h)
theorem ziA (ha:PD X a ta)(hb:PD X (.BoolOp .And (b::rest) pos) tb):PD X (.BoolOp .And (a::b::rest) pos) (ziq ta tb):=by with_unfolding_all exact (za7 (zuh ha hb) fun U H Q hh=>el8 hh fun ad Z S Q0 st rh q k =>
 ⟨ad,Z,S,_,st,rh,q,fun d S' v H' ad' ⟨c,e,q'⟩ w st' r=>by
  subst e
  cases r
  refine⟨c,rfl,?_⟩
  cases c with
  | true=>rw [if_pos rfl] at q' ⊢;exact⟨ad',Z,S',Q0,st',rh.wd w,q',k.wd w⟩
  | false=>rw [if_neg Bool.false_ne_true] at q' ⊢;exact k _ S' _ H' ad' q' w st' (.bl _)⟩)
theorem zt9 (ha:PD X a ta)(hb:PD X (.BoolOp .Or (b::rest) pos) tb):PD X (.BoolOp .Or (a::b::rest) pos) (zrQ ta tb):=by with_unfolding_all exact (za7 (zwn ha hb) fun U H Q hh=>el8 hh fun ad Z S Q0 st rh q k =>
 ⟨ad,Z,S,_,st,rh,q,fun d S' v H' ad' ⟨c,e,q'⟩ w st' r=>by
  subst e
  cases r
  refine⟨c,rfl,?_⟩
  cases c with
  | false=>rw [if_neg Bool.false_ne_true] at q' ⊢;exact⟨ad',Z,S',Q0,st',rh.wd w,q',k.wd w⟩
  | true=>rw [if_pos rfl] at q' ⊢;exact k _ S' _ H' ad' q' w st' (.bl _)⟩)
theorem ziv (ha:PD X a ta):PD X (.UnaryOp .Not a pos) (ziu ta):=by with_unfolding_all exact (za7 (zvw ha) fun U H Q hh=>el8 hh fun ad Z S Q0 st rh q k =>
 ⟨ad,Z,S,_,st,rh,q,fun d S' v H' ad' ⟨c,e,q'⟩ w st' r=>by
  subst e
  cases r
  exact⟨c,rfl,k _ S' _ H' ad' q' w st' (.bl _)⟩⟩)
end
section
variable {X:Cx}{a b e:Expr}{es:List Expr}{ta tb te:DE}{t:DA}{pos:Pos}
theorem zq:PAD X [] zB:=by with_unfolding_all exact (znO zvO fun U H Q hh=>el8 hh fun ad Z S Q0 st rh q k=>k [] S [] H ad q Wd.refl st .nil)
theorem zc (ha:PD X e te)(hr:PAD X es t)(hs:starEach (e::es) X.env=(false,eval e X.env)::starEach es X.env:=by exact zbG rfl):PAD X (e::es) (zm te t):=by with_unfolding_all exact (znO (ztM ha hr hs) fun U H Q hh=>el8 hh fun ad Z S Q0 st rh q k =>
 ⟨ad,Z,S,_,st,rh,q,fun d S1 v H1 ad1 q1 w1 st1 r1=>⟨ad1,Z,S1,_,st1,rh.wd w1,q1,fun ds S2 vs H2 ad2 q2 w2 st2 r2=>k _ S2 _ H2 ad2 q2 (w1.trans w2) st2 (.cons (r1.wd w2) r2)⟩⟩)
theorem zZ {x1}(h:PAD X es t):PD X (.Tuple es x1 pos) (dTup t):=by with_unfolding_all exact (za7 (zuE h) fun U H Q hh=>el8 hh fun ad Z S Q0 st rh q k =>
 ⟨ad,Z,S,_,st,rh,q,fun ds S1 vs H1 ad1 ⟨hz,q1⟩ w1 st1 r1=>⟨by rw [<- r1.length];exact zds hz,fun p hp=>zjR st1 (k.wd w1) r1 q1 p hp⟩⟩)
theorem zaC (h:PAD X es t):PD X (.List es pos) (zba t):=by with_unfolding_all exact (za7 (zvs h) fun U H Q hh=>el8 hh fun ad Z S Q0 st rh q k =>
 ⟨ad,Z,S,_,st,rh,q,fun ds S1 vs H1 ad1 ⟨hz,q1⟩ w1 st1 r1=>⟨by rw [<- r1.length];exact zds hz,fun p hp=>zfv st1 (k.wd w1) r1 q1 p hp⟩⟩)
theorem zvf {xs:List D}{i:Int}{d:D}(h:atD xs i=some d){K:PySem.W.Frag}{ad:List Addr}{H:Hp}{vs:List V}(r:zK K ad H xs vs):∃ v,atI vs i=some v/\Rel K ad H d v:=by
 have e:ixN vs.length i=ixD xs.length i:=by rw [r.length];rfl
 unfold atD at h
 unfold atI
 rw [e]
 cases q:ixD xs.length i with
 | none=>rw [q] at h;cases h
 | some j =>
  rw [q] at h
  exact r.get h
theorem zy (ha:PD X a ta)(hb:PD X b tb)(hs:znq b:=by intro _ _;rfl):PD X (.Subscript a b pos) (dOp oIx ta tb):=by with_unfolding_all exact (za7 (zv7 (zs3.or (zvl.or zvr)) ha hb hs) fun _ _ _=>zik fun ad H S x y v u Q0 Q st rx ry h k=>by
 rcases h with ⟨i,xs,d,ey,hx,e,q⟩ | ⟨z,i,c,rfl,rfl,hz,e,q⟩
 case inr =>
  cases rx
  cases ry
  exact .inr (.inr ⟨z,i,c,rfl,rfl,zds hz,e,k _ S _ H ad q Wd.refl st (.str _)⟩)
 subst ey
 cases ry
 obtain⟨p,vs,rfl,hs,r⟩:=hx.sq st rx
 obtain⟨z,ez,rz⟩:=zvf e r
 rcases hs with hs | hs
 ·exact .inl ⟨p,vs,i,z,rfl,rfl,hs,ez,k _ S _ H ad q Wd.refl st rz⟩
 ·exact .inr (.inl ⟨p,vs,i,z,rfl,rfl,hs,ez,k _ S _ H ad q Wd.refl st rz⟩))
def upO (K:PySem.W.Frag)(t:Option DE):TO:=fun U H Q=>∃ ad Z S Q0,zU K ad H S/\zaK K ad H Z U/\zi8 t Z S Q0/\∀ o S' H' ad',Q0 o S'->Wd ad H ad' H'->zU K ad' H' S'->Q o H'
theorem zbI:PO X none (upO X.K none):=fun pins s U H Q I hh=>el8 hh fun ad Z S Q0 st rh q k=>zs6 pins s U H Q I (k none S H ad q Wd.refl st)
theorem zbe {t:DE}(h:PD X e t):PO X (some e) (upO X.K (some t)):=by with_unfolding_all exact (fun pins s U H Q I hh=>el8 hh fun ad Z S Q0 st rh q k=>zsX h pins s U H Q I ⟨ad,Z,S,_,st,rh,q,fun d S' v H' ad' ⟨i,e,q'⟩ w st' r=>by
 subst e
 cases r
 exact⟨i,rfl,k _ S' H' ad' q' w st'⟩⟩)
theorem znz {K:PySem.W.Frag}{ad:List Addr}{H:Hp}{xs:List D}{vs:List V}(lo hi:Option Int)(r:zK K ad H xs vs):zK K ad H (cutD xs lo hi) (zgR vs lo hi):=by
  have e1:HT.sIx vs.length 0 lo=slD xs.length 0 lo:=by
    rw [r.length];cases lo with
    | none=>rfl
    | some k=>show HT.sIx _ _ (some k)=_;unfold HT.sIx slD;first | rfl | (simp only [];split<;>omega)
  have e2:HT.sIx vs.length vs.length hi=slD xs.length xs.length hi:=by
    rw [r.length];cases hi with
    | none=>rfl
    | some k=>show HT.sIx _ _ (some k)=_;unfold HT.sIx slD;first | rfl | (simp only [];split<;>omega)
  unfold cutD zgR
  rw [e1,e2]
  exact (r.drop _).take _
def zwh (K:PySem.W.Frag):V->Option Int->Option Int->Hp->VK->Prop:=fun x lo hi H Q=>∃ a xs,x=.ref a/\SqT K H a xs /\
 ((HT.sIx xs.length 0 lo=0/\HT.sIx xs.length xs.length hi=xs.length)->Q (.ref a) H)/\(¬ (HT.sIx xs.length 0 lo=0/\HT.sIx xs.length xs.length hi=xs.length)->∀ p,H p=none->Q (.ref p) (upd H p (.tup (zgR xs lo hi))))
theorem zkY {prog:Program}{w:World}{A:Around}{E:Value->Shared->Prop}{s:Shared}{t sl:Addr}{items:Array Value}{vl vu:Value}{lo hi:Option Int}{Q:Value->Shared->Prop}(ht:IsTup s.heap t items)(hs:s.heap.IsSliceOf sl vl vu .none)(pl:IsPart vl lo)(pu:IsPart vu hi)
  (hw:HT.sIx items.size 0 lo=0/\HT.sIx items.size items.size hi=items.size) (h:Q (.ref t) s):wpAny (model prog w) A (getItem (.ref t) (.ref sl)) Q E s:=by
 obtain⟨os,hos,hcs,hds⟩:=id hs
 have hTs:s.TypeIs (.ref sl) "slice":=⟨os,hos,hcs⟩
 unfold getItem
 try with_reducible refine wpAny_holding ?_
 first | refine wpAny_bind (wpAny_pure ?_) | skip
 refine wpAny_bind (wpAny_sequenceKey ht.typeIs (by decide) ?_)
 refine wpAny_bind (wpAny_callSpecial?_slot (name:=Str.ofString "__getitem__") ht.typeIs PyProof.Rows.slot_tuple_getitem
  (wpAny_call_entry PyProof.Rows.slot_tuple_getitem ht.typeIs PyProof.Rows.entry_tuple_getitem ?_ (PyProof.Rows.args_tuple_getitem _ _)))
 show wpAny _ _ (Builtin.Tuple.tupleItemsOf (.ref t) >>= _) _ _ s
 refine wpAny_bind (tupleItemsOf_ ht ?_)
 refine wpAny_bind (wpAny_typeOf hTs ?_)
 rw [if_pos (by decide)]
 refine wpAny_bind (HT.zfq hs pl pu ?_)
 show wpAny _ _ (if (((HT.sIx items.size 0 lo:Nat):Int)==0&&(1:Int)==1&&(HT.sIx items.size items.size hi-HT.sIx items.size 0 lo)==items.size)=true then _ else _) _ _ s
 rw [if_pos (by rw [hw.1,hw.2];simp)]
 unfold Builtin.Tuple.tupleIsExact
 refine wpAny_bind (wpAny_bind (wpAny_typeOf ht.typeIs (wpAny_pure ?_)))
 rw [if_pos (by decide)]
 refine wpAny_bind (wpAny_rule ?_)
 first
  | exact wpAny_pure ⟨_,rfl,wpAny_pure h⟩
  | exact wpAny_bind (wpAny_pure ⟨_,rfl,wpAny_pure h⟩)
  | exact wpAny_bind (wpAny_pure (wpAny_pure ⟨_,rfl,wpAny_pure h⟩))
  | trace_state
theorem ztS:SlR X (zwh X.K):=by
 intro pins s U H x v vl vu lo hi sl Q I rx hs pl pu h
 obtain⟨a,xs,rfl,hx,q1,q2⟩:=h
 by_cases hw:HT.sIx xs.length 0 lo=0/\HT.sIx xs.length xs.length hi=xs.length
 ·cases rx
  obtain⟨its,r,ht,hz⟩:=I.tuple hx
  have hlen:its.toArray.size=xs.length:=by rw [qi];exact r.length.symm
  refine⟨"tuple",_,PyProof.Rows.slot_tuple_getitem.lookup,ht.typeIs,?_⟩
  exact zkY ht hs pl pu (by rw [hlen];exact hw) ⟨.ref a,H,I,rfl,q1 hw⟩
 ·exact zuA pins s U H (.ref a) v vl vu lo hi sl Q I rx hs pl pu ⟨a,xs,rfl,hx,hw,q2 hw⟩
theorem zpn {α:Type}(xs:List α)(lo hi:Option Int)(h1:slD xs.length 0 lo=0)(h2:slD xs.length xs.length hi=xs.length):cutD xs lo hi=xs:=by
 unfold cutD;rw [h1,h2];simp
theorem zke (n d:Nat)(o:Option Int):HT.sIx n d o=slD n d o:=by
 cases o with
 | none=>rfl
 | some k=>rfl
theorem zcK {lo hi:Option Expr}{tl th:Option DE}{p2:Pos}(ha:PD X a ta)(hl:PO X lo (upO X.K tl))(hh:PO X hi (upO X.K th)):PD X (.Subscript a (.Slice lo hi none p2) pos) (dSl zcX ta tl th):=by with_unfolding_all exact (za7 (zrU (ztB.or (ztS.or zvh)) ha hl hh) fun U H Q hh=>el8 hh fun ad Z S Q0 st rh q k =>
 ⟨ad,Z,S,_,st,rh,q,fun x S1 v H1 ad1 q1 w1 st1 r1=>⟨ad1,Z,S1,_,st1,rh.wd w1,q1,fun l S2 H2 ad2 q2 w2 st2=>⟨ad2,Z,S2,_,st2,rh.wd (w1.trans w2),q2,fun h S3 H3 ad3 q3 w3 st3=>by
  have r3:=r1.wd (w2.trans w3)
  have k3:=k.wd ((w1.trans w2).trans w3)
  rcases q3 with ⟨xs,rfl,q3⟩ | ⟨xs,hx,q3⟩ | ⟨z,rfl,hz,q3⟩
  ·cases r3 with
   | tup h1 r =>
    refine .inr (.inl ⟨_,_,rfl,SqT.of h1,fun⟨z1,z2⟩=>?_,fun _ p hp=>zjR st3 k3 (znz _ _ r) q3 p hp⟩)
    rw [zke,<- r.length] at z1 z2
    rw [zpn xs _ _ z1 z2] at q3
    exact k3 _ S3 _ H3 ad3 q3 Wd.refl st3 (.tup h1 r)
  ·obtain⟨p,vs,rfl,hs,r⟩:=hx.sq st3 r3
   exact .inl ⟨p,vs,rfl,hs,fun l hl=>zfv st3 k3 (znz _ _ r) q3 l hl⟩
  ·cases r3
   refine .inr (.inr ⟨z,rfl,zds hz,?_⟩)
   have e:(⟨((z.cps.toList.drop (HT.sIx z.length 0 l)).take (HT.sIx z.length z.length h-HT.sIx z.length 0 l)).toArray⟩:Str)=zrc z l h:=by
    unfold zrc cutD
    rw [zke,zke,show z.length=z.cps.toList.length from Array.length_toList.symm]
   rw [e]
   exact k3 _ S3 _ H3 ad3 q3 Wd.refl st3 (.str _)⟩⟩⟩)
end
end Dp
namespace Dp
open PySem PySem.Spec PyProof.Rows L2 My
variable [B:Bs]
section
variable {X:Cx}{a e:Expr}{es:List Expr}{ta te:DE}{t:DA}{pos p:Pos}
theorem zH {k j:Nat}{x:Str}{ps:List Str}{f:DSp}(G:Got X.prog X.w X.K X.mg X.base k x ps (upF X.K f))(hr:zaO j X.A)
  (ha:PAD X (e::es) t) (hk:k<=j:=by decide) (hg:Gl X x:=by rfl) (hdb:(x==("__debug__":Str))=false:=by decide) (he:starEach (e::es) X.env=(false,eval e X.env)::starEach es X.env:=by exact zbG rfl) (hpl:(backTo pos (starEach es X.env)).any (·.1)=false:=by exact zdG rfl) :
  PD X (.Call (.Name x p) (e::es) [] pos) (dCall f t):=by with_unfolding_all exact (za7 (zvU G hr hk hg ha hdb he hpl) fun U H Q hh=>el8 hh fun ad Z S Q0 st rh q k =>
 ⟨ad,Z,S,_,st,rh,q,fun ds S1 vs H1 ad1 q1 w1 st1 r1=>by
  show upF X.K f (vs++[]) H1 Q E0
  rw [List.append_nil];exact⟨ad1,S1,ds,Q0,st1.base,r1,q1,(k.wd w1).base st1⟩⟩)
def BD (K:PySem.W.Frag)(r':DB)(r:List V->Hp->VK->Prop):Prop:=∀ ad H S ds vs Q0 Q,zU K ad H S->zK K ad H ds vs->r' ds S Q0->KK K ad H Q0 Q->r vs H Q
def BC (X:Cx)(f:Value)(r':DB):Prop:=∃ r,zaI X f r/\BD X.K r' r
theorem zak {x:Str}{id:String}{r':DB}(o:BC X (.builtin id) r')(hm:X.mg x=none)(hv:bootBuiltins x=some (.builtin id))(ha:PAD X (e::es) t)(hg:Gl X x:=by rfl)(hn:x≠"__name__":=by decide)(hdb:(x==("__debug__":Str))=false:=by decide)
  (he:starEach (e::es) X.env=(false,eval e X.env)::starEach es X.env:=by exact zbG rfl) (hpl:(backTo pos (starEach es X.env)).any (·.1)=false:=by exact zdG rfl):PD X (.Call (.Name x p) (e::es) [] pos) (dB r' t):=by
 with_unfolding_all
  obtain⟨r,ho,od⟩:=o
  exact za7 (zrs ho hg hm hv ha hn hdb he hpl) fun U H Q hh=>el8 hh fun ad Z S Q0 st rh q k =>
   ⟨ad,Z,S,_,st,rh,q,fun ds S1 vs H1 ad1 q1 w1 st1 r1=>od ad1 H1 S1 ds vs Q0 Q st1 r1 q1 (k.wd w1)⟩
theorem zeD {x:Str}{T:String}{r':DB}(o:BC X (.type T) r')(hm:X.mg x=none)(hv:bootBuiltins x=some (.type T))(ha:PAD X (e::es) t)(hg:Gl X x:=by rfl)(hn:x≠"__name__":=by decide)(hdb:(x==("__debug__":Str))=false:=by decide)
  (he:starEach (e::es) X.env=(false,eval e X.env)::starEach es X.env:=by exact zbG rfl) (hpl:(backTo pos (starEach es X.env)).any (·.1)=false:=by exact zdG rfl):PD X (.Call (.Name x p) (e::es) [] pos) (dB r' t):=by
 with_unfolding_all
  obtain⟨r,ho,od⟩:=o
  exact za7 (zpG ho hg hm hv ha hn hdb he hpl) fun U H Q hh=>el8 hh fun ad Z S Q0 st rh q k =>
   ⟨ad,Z,S,_,st,rh,q,fun ds S1 vs H1 ad1 q1 w1 st1 r1=>od ad1 H1 S1 ds vs Q0 Q st1 r1 q1 (k.wd w1)⟩
theorem zbM {K:PySem.W.Frag}{ad:List Addr}{H:Hp}{d:D}{vs:List V}(r:zK K ad H [d] vs):∃ v,vs=[v]/\Rel K ad H d v:=by
 cases r with
 | cons r t=>cases t;exact⟨_,rfl,r⟩
theorem zgN {K:PySem.W.Frag}{ad:List Addr}{H:Hp}{d e:D}{vs:List V}(r:zK K ad H [d,e] vs):∃ v u,vs=[v,u]/\Rel K ad H d v/\Rel K ad H e u:=by
 cases r with
 | cons r t =>
  obtain⟨u,rfl,r2⟩:=zbM t
  exact⟨_,_,rfl,r,r2⟩
theorem zap:BC X (.builtin "len") zaH:=⟨_,zqE.or zln,fun ad H S ds vs Q0 Q st r h k=>by
 rcases h with ⟨x,xs,e,hx,q⟩ | ⟨z,e,hz,q⟩
 case inr =>
  subst e
  obtain⟨v,rfl,rv⟩:=zbM r
  cases rv
  exact .inr ⟨z,rfl,zds hz,k _ S _ H ad q Wd.refl st (.int _)⟩
 subst e
 obtain⟨v,rfl,rv⟩:=zbM r
 obtain⟨a,ws,rfl,hs,rs⟩:=hx.sq st rv
 exact .inl ⟨a,ws,rfl,hs,k _ S _ H ad (by rw [rs.length] at q;exact q) Wd.refl st (.int _)⟩⟩
theorem zlN:BC X (.builtin "abs") zl8:=⟨_,zpH,fun ad H S ds vs Q0 Q st r ⟨i,e,q⟩ k=>by
 subst e
 obtain⟨v,rfl,rv⟩:=zbM r
 cases rv
 exact⟨i,rfl,k _ S _ H ad q Wd.refl st (.int _)⟩⟩
theorem zvQ (i j:Int):(if j > i then j else i)=max i j:=by
  rw [Int.max_def];split<;>split<;>omega
theorem zvu (i j:Int):(if j<i then j else i)=min i j:=by
  rw [Int.min_def];split<;>split<;>omega
theorem zfi (hc:X.calm=true:=by rfl):BC X (.builtin "max") zfW:=⟨_,zpl hc,fun ad H S ds vs Q0 Q st r ⟨i,j,e,q⟩ k=>by
 subst e
 obtain⟨v,u,rfl,rv,ru⟩:=zgN r
 cases rv
 cases ru
 exact⟨i,j,rfl,by rw [zvQ];exact k _ S _ H ad q Wd.refl st (.int _)⟩⟩
theorem zgv (hc:X.calm=true:=by rfl):BC X (.builtin "min") zgS:=⟨_,zpW hc,fun ad H S ds vs Q0 Q st r ⟨i,j,e,q⟩ k=>by
 subst e
 obtain⟨v,u,rfl,rv,ru⟩:=zgN r
 cases rv
 cases ru
 exact⟨i,j,rfl,by rw [zvu];exact k _ S _ H ad q Wd.refl st (.int _)⟩⟩
theorem zsR (hc:X.calm=true:=by rfl):BC X (.builtin "max") zo4:=⟨_,zpg rfl hc,fun ad H S ds vs Q0 Q st r ⟨x,ns,e,hx,h0,q⟩ k=>by
 subst e
 obtain⟨v,rfl,rv⟩:=zbM r
 obtain⟨a,ws,rfl,hs,rs⟩:=hx.sq st rv
 cases rs.ints
 exact⟨a,ns,rfl,hs,h0,fun m h1 h2=>k _ S _ H ad (q m h1 h2) Wd.refl st (.int _)⟩⟩
theorem ztH (hc:X.calm=true:=by rfl):BC X (.builtin "min") zoj:=⟨_,zqi rfl hc,fun ad H S ds vs Q0 Q st r ⟨x,ns,e,hx,h0,q⟩ k=>by
 subst e
 obtain⟨v,rfl,rv⟩:=zbM r
 obtain⟨a,ws,rfl,hs,rs⟩:=hx.sq st rv
 cases rs.ints
 exact⟨a,ns,rfl,hs,h0,fun m h1 h2=>k _ S _ H ad (q m h1 h2) Wd.refl st (.int _)⟩⟩
theorem zvR (hc:X.calm=true:=by rfl):BC X (.builtin "any") zoD:=⟨_,zqr rfl hc,fun ad H S ds vs Q0 Q st r ⟨x,ns,e,hx,q⟩ k=>by
 subst e
 obtain⟨v,rfl,rv⟩:=zbM r
 obtain⟨a,ws,rfl,hs,rs⟩:=hx.sq st rv
 cases rs.bls
 exact⟨a,ns,rfl,hs,k _ S _ H ad q Wd.refl st (.bl _)⟩⟩
theorem zh4 (hc:X.calm=true:=by rfl):BC X (.builtin "all") zhS:=⟨_,zqs rfl hc,fun ad H S ds vs Q0 Q st r ⟨x,ns,e,hx,q⟩ k=>by
 subst e
 obtain⟨v,rfl,rv⟩:=zbM r
 obtain⟨a,ws,rfl,hs,rs⟩:=hx.sq st rv
 cases rs.bls
 exact⟨a,ns,rfl,hs,k _ S _ H ad q Wd.refl st (.bl _)⟩⟩
theorem zru:BC X (.type "tuple") zl5:=⟨_,zpJ rfl,fun ad H S ds vs Q0 Q st r ⟨x,xs,e,hx,q⟩ k=>by
 subst e
 obtain⟨v,rfl,rv⟩:=zbM r
 rcases hx with rfl | hx
 ·cases rv with
  | tup h rr=>exact⟨_,_,rfl,.inr ⟨SqT.of h,k _ S _ H ad q Wd.refl st (.tup h rr)⟩⟩
 ·obtain⟨a,ws,rfl,hs,rs⟩:=hx.sq st rv
  exact⟨a,ws,rfl,.inl ⟨hs,fun l hl=>zjR st k rs q l hl⟩⟩⟩
theorem zdS:BC X (.type "list") zeA:=⟨_,zoy,fun ad H S ds vs Q0 Q st r ⟨x,xs,e,hx,q⟩ k=>by
 subst e
 obtain⟨v,rfl,rv⟩:=zbM r
 obtain⟨a,ws,rfl,hs,rs⟩:=hx.sq st rv
 exact⟨a,ws,rfl,hs,fun l hl=>zfv st k rs q l hl⟩⟩
theorem zvi:BC X (.type "int") zrO:=⟨_,zqJ,fun ad H S ds vs Q0 Q st r h k=>by
 rcases h with ⟨i,rfl,q⟩ | ⟨b,rfl,q⟩
 ·obtain⟨v,rfl,rv⟩:=zbM r
  cases rv
  exact .inl ⟨i,rfl,k _ S _ H ad q Wd.refl st (.int _)⟩
 ·obtain⟨v,rfl,rv⟩:=zbM r
  cases rv
  exact .inr ⟨b,rfl,k _ S _ H ad q Wd.refl st (.int _)⟩⟩
section
variable {K:PySem.W.Frag}
theorem ztb (t:String)(h:zj9 t=true):PySem.W.kitOne K (.type "NoneType") (.type t)=some false/\PySem.W.kitOne K (.type "bool") (.type t)=some (t=="bool"||t=="int")/\PySem.W.kitOne K (.type "int") (.type t)=some (t=="int") /\
  PySem.W.kitOne K (.type "str") (.type t)=some (t=="str")/\PySem.W.kitOne K (.type "tuple") (.type t)=some (t=="tuple")/\PySem.W.kitOne K (.type "list") (.type t)=some (t=="list"):=by
 unfold zj9 at h
 simp only [Bool.or_eq_true,beq_iff_eq] at h
 rcases h with (((rfl | rfl) | rfl) | rfl) | rfl
 ·exact⟨by kernel_rfl,by kernel_rfl,by kernel_rfl,by kernel_rfl,by kernel_rfl,by kernel_rfl⟩
 ·exact⟨by kernel_rfl,by kernel_rfl,by kernel_rfl,by kernel_rfl,by kernel_rfl,by kernel_rfl⟩
 ·exact⟨by kernel_rfl,by kernel_rfl,by kernel_rfl,by kernel_rfl,by kernel_rfl,by kernel_rfl⟩
 ·exact⟨by kernel_rfl,by kernel_rfl,by kernel_rfl,by kernel_rfl,by kernel_rfl,by kernel_rfl⟩
 ·exact⟨by kernel_rfl,by kernel_rfl,by kernel_rfl,by kernel_rfl,by kernel_rfl,by kernel_rfl⟩
end
theorem zjq:BC X (.builtin "isinstance") zg7:=⟨_,zrK,fun ad H S ds vs Q0 Q st r ⟨x,t,b,e,h,q⟩ k=>by
 subst e
 obtain⟨v,u,rfl,rv,ru⟩:=zgN r
 cases ru
 have fin:=k _ S _ H ad q Wd.refl st (.bl b)
 unfold zvL at h
 split at h
 ·cases h
 rename_i hty
 have hty':zj9 t=true:=by
  cases hh:zj9 t
  ·exact absurd (by show (!zj9 t)=true;rw [hh];rfl) hty
  ·rfl
 obtain⟨k1,k2,k3,k4,k5,k6⟩:=ztb (K:=X.K) t hty'
 cases rv with
 | non=>cases h;exact⟨_,_,_,_,rfl,.non,k1,fin⟩
 | bl c=>cases h;exact⟨_,_,_,_,rfl,.bl c,k2,fin⟩
 | int i=>cases h;exact⟨_,_,_,_,rfl,.int i,k3,fin⟩
 | str y=>cases h;exact⟨_,_,_,_,rfl,.str y,k4,fin⟩
 | ty n=>cases h
 | exn _ _ _=>cases h
 | tup ht rt=>cases h;exact⟨_,_,_,_,rfl,.tup ht,k5,fin⟩
 | rl hl rl=>cases h
 | @ref n a hn =>
  have h:(match S[n]? with | some (.lst _)=>some (t=="list") | _=>none)=some b:=h
  cases hS:S[n]? with
  | none=>rw [hS] at h;cases h
  | some c =>
   rw [hS] at h
   cases c with
   | ins c fs=>cases h
   | dk _=>cases h
   | dt _=>cases h
   | lst xs =>
    cases h
    obtain⟨vs,hv,_⟩:=st.cell n a _ hn hS
    exact⟨_,_,_,_,rfl,.lst hv,k6,fin⟩⟩
theorem znP:∀ {K:PySem.W.Frag} {ad:List Addr} {H:Hp} {cs:List (Int×Int)} {vs:List V},zK K ad H (cs.map p2) vs->∃ ps:List Addr,vs=ps.map V.ref/\zfY H ps cs
 | _,_,_,[],_,.nil=>⟨[],rfl,.nil⟩
 | _,_,_,c::cs,_,.cons r t=>by
  obtain⟨ps,rfl,h⟩:=znP t
  cases r with
  | tup h1 r1 =>
   obtain⟨v,u,rfl,rv,ru⟩:=zgN r1
   cases rv
   cases ru
   exact⟨_::ps,rfl,.cons h1 h⟩
theorem zss:∀ {K:PySem.W.Frag} {ad:List Addr} {H:Hp} {cs:List (Int×Int)} {ps:List Addr},zfY H ps cs->zK K ad H (cs.map p2) (ps.map V.ref)
 | _,_,_,_,_,.nil=>.nil
 | _,_,_,_,_,.cons r t=>.cons (.tup r (.cons (.int _) (.cons (.int _) .nil))) (zss t)
theorem zuQ (a b:Int×Int):plt a b=zjh a b:=by
 unfold plt zjh
 by_cases h:a.1=b.1
 ·simp [h]
 ·simp [h]
theorem zry:BC X (.builtin "sorted") zpK:=⟨_,zlK rfl,fun ad H S ds vs Q0 Q st r ⟨x,cs,e,hx,h64,q⟩ k=>by
 subst e
 obtain⟨v,rfl,rv⟩:=zbM r
 obtain⟨a,ws,rfl,hs,rs⟩:=hx.sq st rv
 obtain⟨ps,rfl,hp⟩:=znP rs
 exact⟨a,ps,cs,rfl,hs,hp,h64,fun l ps' cs' hl hp' hperm hpw=>zfv st k (zss hp') (q cs' hperm (hpw.imp fun h=>by rw [<- zuQ];exact h)) l hl⟩⟩
def MD (X:Cx)(id:String)(r':DM):Prop:=∃ r,MtR X id r/\∀ ad H S x ds v vs Q0 Q,zU X.K ad H S->Rel X.K ad H x v->zK X.K ad H ds vs->r' x ds S Q0->KK X.K ad H Q0 Q->r v vs H Q
theorem zuU {K:PySem.W.Frag}{ad:List Addr}{H:Hp}{S:Sto}{x:D}{v:V}(st:zU K ad H S)(h:∃ n ys,x=.ref n/\S[n]?=some (.lst ys))(r:Rel K ad H x v):tyV K "list" v H:=by
 obtain⟨n,ys,rfl,h⟩:=h
 cases r with
 | ref e =>
  obtain⟨vs,hv,_⟩:=st.cell n _ _ e h
  exact .inl ⟨rfl,vs,SqL.of hv⟩
theorem zde {o:Expr}{to:DE}{name:Str}{id:String}{apos cpos:Pos}{r':DM}(slot:Slot "list" name id)(hty:typeOf (.builtin id)=pure (.type "method_descriptor"))(hm:MD X id r')(ho:PD X o to)(ha:PAD X (e::es) t)
  (hbase:attributeBase o name X.env (eval o X.env)=eval o X.env:=by rfl)
  (hfew:((backTo cpos (starEach (e::es) X.env)).all (fun x=>!x.1)&&(backToKw cpos (keywordEach [] X.env)).all (fun x=>x.1.isSome)
  &&decide ((e::es).length+([]:List Keyword).length+(if ([]:List Keyword).isEmpty then 0 else 1)<30))=true:=by rfl)
  (hline:(apos.endLine==cpos.line)=true:=by rfl) (hs:starEach (e::es) X.env=(false,eval e X.env)::starEach es X.env:=by exact zbG rfl) (hplain:(backTo cpos (starEach es X.env)).any (·.1)=false:=by exact zdG rfl) :
  PD X (.Call (.Attribute o name apos) (e::es) [] cpos) (dM r' to t):=by
 with_unfolding_all
  obtain⟨r,hr,od⟩:=hm
  exact za7 (zwx PySem.F.plainAttrs_list slot hty hr ho ha hbase hfew hline hs hplain) fun U H Q hh=>el8 hh fun ad Z S Q0 st rh q k =>
   ⟨ad,Z,S,_,st,rh,q,fun x S1 v H1 ad1 ⟨hl,q1⟩ w1 st1 r1=>⟨zuU st1 hl r1,ad1,Z,S1,_,st1,rh.wd w1,q1,fun ds S2 vs H2 ad2 q2 w2 st2 r2 =>
    od ad2 H2 S2 x ds v vs Q0 Q st2 (r1.wd w2) r2 q2 (k.wd (w1.trans w2))⟩⟩
theorem za9:MD X "list.append" zbt:=⟨_,zkC,fun ad H S x ds v vs Q0 Q st rx r ⟨n,xs,y,ex,ey,hn,hl,q⟩ k=>by
 subst ex ey
 obtain⟨u,rfl,ru⟩:=zbM r
 cases rx with
 | ref e =>
  obtain⟨ws,hw,rw⟩:=st.cell n _ _ e hn
  exact⟨_,ws,u,rfl,rfl,hw,by rw [<- rw.length];exact zmI hl,k _ _ _ _ ad q (Wd.put e hw) (st.put e hw (rw.append (.cons ru .nil))) .non⟩⟩
theorem zoJ:MD X "list.extend" zjg:=⟨_,zo9,fun ad H S x ds v vs Q0 Q st rx r h k=>by
 rcases h with ⟨n,xs,m,ys,ex,ey,hn,hm,hne,hl,q⟩ | ⟨n,xs,ys,ex,ey,hn,hl,q⟩
 ·subst ex ey
  obtain⟨u,rfl,ru⟩:=zbM r
  cases rx with
  | ref e =>
   cases ru with
   | ref e2 =>
    obtain⟨ws,hw,rw⟩:=st.cell n _ _ e hn
    obtain⟨ws2,hw2,rw2⟩:=st.cell m _ _ e2 hm
    exact .inl ⟨_,_,ws,ws2,rfl,rfl,hw,hw2,by rw [<- rw.length,<- rw2.length];exact zds hl,k _ _ _ _ ad q (Wd.put e hw) (st.put e hw (rw.append rw2)) .non⟩
 ·subst ex ey
  obtain⟨u,rfl,ru⟩:=zbM r
  cases rx with
  | ref e =>
   cases ru with
   | tup h2 rw2 =>
    obtain⟨ws,hw,rw⟩:=st.cell n _ _ e hn
    exact .inr ⟨_,_,ws,_,rfl,rfl,hw,SqT.of h2,by rw [<- rw.length,<- rw2.length];exact zds hl,k _ _ _ _ ad q (Wd.put e hw) (st.put e hw (rw.append rw2)) .non⟩⟩
theorem zpx:MD X "list.insert" zkr:=⟨_,zpN,fun ad H S x ds v vs Q0 Q st rx r ⟨n,xs,k,y,ex,ey,hn,h0,h1,hl,q⟩ kk=>by
 subst ex ey
 obtain⟨u,w,rfl,ru,rw'⟩:=zgN r
 cases ru
 cases rx with
 | ref e =>
  obtain⟨ws,hw,rw⟩:=st.cell n _ _ e hn
  exact⟨_,ws,k,w,rfl,rfl,hw,h0,h1,by rw [<- rw.length];exact zmI hl,kk _ _ _ _ ad q (Wd.put e hw) (st.put e hw ((rw.take k.toNat).append (.cons rw' (rw.drop k.toNat)))) .non⟩⟩
end
end Dp
namespace Dp
open PySem PySem.Spec PyProof.Rows L2 My
variable [B:Bs]
def ziZ (K:PySem.W.Frag)(b:Nat)(g':DG)(g:TG):Prop:=∀ ad H S Z U d v Q0 Q,zU K ad H S->zaK K ad H Z U->Rel K ad H d v->g' d Z S Q0 ->
 (∀ ρ' S' σ' H' ad',Q0 ρ' S'->Wd ad H ad' H'->zU K ad' H' S'->zaK K ad' H' ρ' σ'->σ'.length=U.length->(∀ j,b<=j->σ'[j]?=U[j]?)->Q σ' H')->g v U H Q
def zjH (K:PySem.W.Frag)(b:Nat)(g':DGs)(g:TGs):Prop:=∀ ad H S Z U ds vs Q0 Q,zU K ad H S->zaK K ad H Z U->zK K ad H ds vs->g' ds Z S Q0 ->
 (∀ ρ' S' σ' H' ad',Q0 ρ' S'->Wd ad H ad' H'->zU K ad' H' S'->zaK K ad' H' ρ' σ'->σ'.length=U.length->(∀ j,b<=j->σ'[j]?=U[j]?)->Q σ' H')->g vs U H Q
def PGD (X:Cx)(b:Nat)(tg:Expr)(g':DG):Prop:=∃ g,PG X tg g/\ziZ X.K b g' g
def zoV (X:Cx)(b:Nat)(tgs:List Expr)(g':DGs):Prop:=∃ g,PGs X tgs g/\zjH X.K b g' g
theorem zaK.set {K:PySem.W.Frag}{ad:List Addr}{H:Hp}{Z:Rho}{U:L2.St}{d:D}{v:V}(h:zaK K ad H Z U)(r:Rel K ad H d v)(i:Nat):zaK K ad H (Z.set i (some d)) (U.set i (some v)) where
 len:=by rw [List.length_set,List.length_set];exact h.len
 val:=fun j e q=>by
  by_cases hj:j=i
  ·subst hj
   have hl:j<Z.length:=by have:=My.za8 q;rw [List.length_set] at this;exact this
   rw [List.getElem?_set_self hl] at q
   cases q
   exact⟨v,List.getElem?_set_self (by rw [<- h.len];exact hl),r⟩
  ·rw [List.getElem?_set_ne (Ne.symm hj)] at q
   obtain⟨u,e1,r1⟩:=h.val j e q
   exact⟨u,by rw [List.getElem?_set_ne (Ne.symm hj)];exact e1,r1⟩
section
variable {X:Cx}{pos:Pos}{b:Nat}
theorem zag {K:PySem.W.Frag}(i:Nat)(hb:i<b):ziZ K b (zE i) (L2.zE i):=fun ad H S Z U d v Q0 Q st rh r q k =>
 k _ S _ H ad q Wd.refl st (rh.set r i) (List.length_set ..) fun j hj=>List.getElem?_set_ne (by omega)
theorem zaa {i:Nat}{x:Str}(hN:X.N.Nodup)(hi:X.N[i]?=some x:=by rfl)(hx:Loc X.env.scope x:=by first | exact Or.inl rfl | exact Or.inr rfl)(hf:X.fn x=true\/X.env.scope.names.lookup x=some .local:=by first | exact .inl rfl | exact .inr rfl | assumption)(hb:i<b:=by decide):PGD X b (.Name x pos) (zE i) :=
 ⟨_,zaq hN hi hx hf,zag i hb⟩
theorem zdQ:zoV X b [] zcH:=⟨_,zgt,fun ad H S Z U ds vs Q0 Q st rh r ⟨e,q⟩ k=>by
 subst e
 cases r
 exact⟨rfl,k Z S U H ad q Wd.refl st rh rfl fun _ _=>rfl⟩⟩
theorem zax {e:Expr}{es:List Expr}{t:DG}{u:DGs}(h1:PGD X b e t)(h2:zoV X b es u)(hs:(assignEach (e::es) X.env).map (·.2)=assign e X.env::(assignEach es X.env).map (·.2):=by rfl):zoV X b (e::es) (zav t u):=by
 obtain⟨g1,p1,r1⟩:=h1
 obtain⟨g2,p2,r2⟩:=h2
 refine⟨_,zb6 p1 p2 hs,fun ad H S Z U ds vs Q0 Q st rh r ⟨d,rs,ed,q⟩ k=>?_⟩
 subst ed
 cases r with
 | cons r t =>
  refine⟨_,_,rfl,r1 ad H S Z U d _ _ _ st rh r q fun ρ1 S1 σ1 H1 ad1 q1 w1 st1 rh1 l1 a1=>?_⟩
  exact r2 ad1 H1 S1 ρ1 σ1 _ _ _ _ st1 rh1 (t.wd w1) q1 fun ρ2 S2 σ2 H2 ad2 q2 w2 st2 rh2 l2 a2=>k ρ2 S2 σ2 H2 ad2 q2 (w1.trans w2) st2 rh2 (l2.trans l1) fun j hj=>(a2 j hj).trans (a1 j hj)
theorem zdX {es:List Expr}{k n:Nat}{t:DGs}(hc:X.calm=true)(h:zoV X b es t)(hn:(assignEach es X.env).length=n:=by rfl)(hst:(assignEach es X.env).findIdx? (·.1)=none:=by rfl):PGD X b (.Tuple es k pos) (zcF n t):=by
 obtain⟨g,p,r⟩:=h
 refine⟨_,zhy hc p hn hst,fun ad H S Z U d v Q0 Q st rh rv ⟨xs,ed,hl,q⟩ k=>?_⟩
 subst ed
 cases rv with
 | tup h1 rs=>exact⟨_,_,rfl,SqT.of h1,by rw [<- rs.length];exact hl,r ad H S Z U xs _ _ _ st rh rs q k⟩
theorem zia {o i:Expr}{to ti:DE}(ho:PD X o to)(hi:PD X i ti)
  (ha:∀ v,assign (.Subscript o i pos) X.env v=(do
   let ov <- holding [v] (eval o X.env)
   let iv <- holding [v,ov] (eval i X.env)
   standAt pos
   holding [v,ov,iv] (setItem ov iv v)
   release [v,ov,iv] []):=by intro _;rfl):PGD X b (.Subscript o i pos) (zhI to ti):=by with_unfolding_all exact (⟨_,zu6 ho hi set_list ha,fun ad H S Z U d v Q0 Q st rh r q k=>⟨ad,Z,S,_,st,rh,q,fun x S1 u H1 ad1 q1 w1 st1 r1=>⟨ad1,Z,S1,_,st1,rh.wd w1,q1,fun y S2 z H2 ad2 q2 w2 st2 r2=>by
  obtain⟨n,xs,kk,j,ex,ey,hn,hj,q3⟩:=q2
  subst ex ey
  cases r2
  cases r1 with
  | ref e =>
   have e2:=zkt w2.pre e
   obtain⟨ws,hw,rw⟩:=st2.cell n _ _ e2 hn
   have rd:=r.wd (w1.trans w2)
   exact⟨_,ws,kk,j,rfl,rfl,hw,by rw [<- rw.length];exact hj,k Z _ U _ ad2 q3 ((w1.trans w2).trans (Wd.put e2 hw)) (st2.put e2 hw (rw.set rd j)) (rh.wd ((w1.trans w2).trans (Wd.put e2 hw))) rfl fun _ _=>rfl⟩⟩⟩⟩)
variable {st:Stmt}{sts:List Stmt}{t u:DS}{e:Expr}{te:DE}
theorem zO:zf0 X [] z9:=by with_unfolding_all exact (zlW ztN fun E U H hh=>el8 hh fun ad Z S E0 so rh q k=>k.nx Z S U H ad q Wd.refl so rh)
theorem zA (h:PSD X st t):zf0 X [st] t:=by with_unfolding_all exact (ztZ h)
theorem zu (h1:PSD X st t)(h2:zf0 X sts u):zf0 X (st::sts) (zG t u):=by with_unfolding_all exact (zlW (zrq h1 h2) fun E U H hh=>el8 hh fun ad Z S E0 so rh q k =>
 ⟨ad,Z,S,{ E0 with nx:=u E0 },so,rh,q,⟨fun ρ' S' σ' H' ad' q' w st' rh'=>⟨ad',ρ',S',E0,st',rh',q',k.wd w⟩,k.rt,k.bk,k.ct⟩⟩)
theorem zbp:PSD X st zcw:=by with_unfolding_all exact (zbJ zqO fun E U H hh=>el8 hh fun ad Z S E0 so rh q k=>q)
theorem zas (he:PD X e te)(hs:swapsWith e none pos.line X.env=pure false:=by rfl):PSD X (.Expr e pos) (zaR te):=by with_unfolding_all exact (zbJ (zsO he hs) fun E U H hh=>el8 hh fun ad Z S E0 so rh q k =>
 ⟨ad,Z,S,_,so,rh,q,fun d S' v H' ad' q' w st' r=>k.nx Z S' U H' ad' q' w st' (rh.wd w)⟩)
theorem zL (he:PD X e te):PSD X (.Return (some e) pos) (zY te):=by with_unfolding_all exact (zbJ (zt6 he) fun E U H hh=>el8 hh fun ad Z S E0 so rh q k=>⟨ad,Z,S,_,so,rh,q,k.rt⟩)
theorem zfU (h:PSD X st t):PSD X st (sJ t):=by with_unfolding_all exact (zbJ h fun E U H ⟨ad,Z,S,E0,so,rh,⟨J,hJ,q⟩,k⟩ =>
 ⟨ad,Z,S,{ E0 with nx:=J },so,rh,q,⟨fun ρ' S' σ' H' ad' q' w st' rh'=>k.nx ρ' S' σ' H' ad' (hJ _ _ q') w st' rh',k.rt,k.bk,k.ct⟩⟩)
theorem zT {c:Expr}{a b:List Stmt}{tc:DT}(hc:PTD X c tc)(ha:zf0 X a t)(hb:zf0 X b u):PSD X (.If c a b pos) (sIf tc t u):=by with_unfolding_all exact (zbJ (zxp hc ha hb) fun E U H hh=>el8 hh fun ad Z S E0 so rh q k =>
 ⟨ad,Z,S,_,so,rh,q,fun b S' H' ad' q' w st'=>by
  cases b with
  | true=>rw [if_pos rfl] at q' ⊢;exact⟨ad',Z,S',E0,st',rh.wd w,q',k.wd w⟩
  | false=>rw [if_neg Bool.false_ne_true] at q' ⊢;exact⟨ad',Z,S',E0,st',rh.wd w,q',k.wd w⟩⟩)
theorem zF {i:Nat}{x:Str}{pos':Pos}(hN:X.N.Nodup)(he:PD X e te)(hi:X.N[i]?=some x:=by rfl)(hx:Loc X.env.scope x:=by first | exact Or.inl rfl | exact Or.inr rfl)(hs:swapsWith e (some (.Name x pos')) pos.line X.env=pure false:=by rfl)(hf:X.fn x=true\/X.env.scope.names.lookup x=some .local:=by first | exact .inl rfl | exact .inr rfl | assumption) :
  PSD X (.Assign [.Name x pos'] e pos) (zM te (zE i)):=by with_unfolding_all exact (zbJ (zu3 hN hi hx he hs hf) fun E U H hh=>el8 hh fun ad Z S E0 so rh q k =>
 ⟨ad,Z,S,_,so,rh,q,fun d S' v H' ad' q' w st' r=>k.nx _ S' _ H' ad' q' w st' ((rh.wd w).set r i)⟩)
theorem zdV {tg:Expr}{g:DG}(he:PD X e te)(hg:PGD X 1000 tg g)(hs:swapsWithSole [tg] e pos.line X.env=pure false:=by rfl)(hw:swappedStores [tg] e X.env=pure none:=by rfl)
  (h1:(assignEach [tg] X.env).map (·.2)=[assign tg X.env]:=by rfl):PSD X (.Assign [tg] e pos) (zM te g):=by
 with_unfolding_all
  obtain⟨g',p,r⟩:=hg
  exact zbJ (zvH he p hs hw h1) fun E U H hh=>el8 hh fun ad Z S E0 so rh q k =>
   ⟨ad,Z,S,_,so,rh,q,fun d S' v H' ad' q' w st' rv=>r ad' H' S' Z U d v _ _ st' (rh.wd w) rv q' fun ρ2 S2 σ2 H2 ad2 q2 w2 st2 rh2 _ _=>k.nx ρ2 S2 σ2 H2 ad2 q2 (w.trans w2) st2 rh2⟩
theorem znA {i j:Nat}{x y:Str}{a b:Expr}{t:DA}{px py pt:Pos}{kt k2 pt2}(hc:X.calm=true)(hN:X.N.Nodup)(hi:X.N[i]?=some x)(hj:X.N[j]?=some y)(hij:i≠j)
  (hx:X.env.scope.names.lookup x=some .local) (hy:X.env.scope.names.lookup y=some .local) (ha:PAD X [a,b] t)
  (hw:swappedStores [.Tuple [.Name x px,.Name y py] kt pt] (.Tuple [a,b] k2 pt2) X.env=pure (some [x,y]))
  (hs:swapsWithSole [.Tuple [.Name x px,.Name y py] kt pt] (.Tuple [a,b] k2 pt2) pos.line X.env=pure false:=by rfl) :
  PSD X (.Assign [.Tuple [.Name x px,.Name y py] kt pt] (.Tuple [a,b] k2 pt2) pos) (zo8 i j t):=by with_unfolding_all exact (zbJ (zup hc hN hi hj hij hx hy ha hw hs) fun E U H hh=>el8 hh fun ad Z S E0 so rh q k =>
 ⟨ad,Z,S,_,so,rh,q,fun ds S' vs H' ad' q' w st' r=>by
  obtain⟨d1,d2,e,q'⟩:=q'
  subst e
  cases r with
  | cons r1 r' =>
   cases r' with
   | cons r2 r'' =>
    cases r''
    exact⟨_,_,rfl,k.nx _ S' _ H' ad' q' w st' (((rh.wd w).set r1 i).set r2 j)⟩⟩)
theorem ztt {i:Nat}{x:Str}{pos':Pos}(hN:X.N.Nodup)(he:PD X e te)(hi:X.N[i]?=some x:=by rfl)(hx:Loc X.env.scope x:=by first | exact Or.inl rfl | exact Or.inr rfl)(hf:X.fn x=true\/X.env.scope.names.lookup x=some .local:=by first | exact .inl rfl | exact .inr rfl | assumption) :
  PSD X (.AugAssign (.Name x pos') .Add e pos) (zr6 i te):=by with_unfolding_all exact (zbJ (zuk hN hi hx he zu7 hf) fun E U H ⟨ad,Z,S,E0,so,rh,⟨a,ea,q⟩,k⟩=>by
 obtain⟨v,ev,rv⟩:=rh.val i _ ea
 cases rv
 refine⟨_,ev,ad,Z,S,_,so,rh,q,fun d S' v H' ad' ⟨b,eb,q'⟩ w st' r=>?_⟩
 subst eb
 cases r
 exact⟨a,b,rfl,rfl,k.nx _ S' _ H' ad' q' w st' ((rh.wd w).set (.int _) i)⟩)
theorem zkB {c:Expr}{body:List Stmt}{tc:DT}(hc:PTD X c tc)(hb:zf0 X body t)(hp:PassesOwn (model X.prog X.w) X.A X.env X.xe:=by first | exact PassesOwn.never | exact PassesOwn.leaving):PSD X (.While c body [] pos) (zjS tc t):=by with_unfolding_all exact (zbJ (zrj hp hc hb) fun E U H ⟨ad,Z,S,E0,so,rh,⟨W,⟨m0,w0⟩,turn⟩,k⟩=>by
 refine⟨fun m σ' H'=>∃ ad' ρ' S',W m ρ' S'/\Wd ad H ad' H'/\zU X.K ad' H' S'/\zaK X.K ad' H' ρ' σ',⟨m0,ad,Z,S,w0,Wd.refl,so,rh⟩,?_⟩
 rintro m σ1 H1 ⟨ad1,ρ1,S1,w1,d1,st1,rh1⟩
 refine⟨ad1,ρ1,S1,_,st1,rh1,turn m ρ1 S1 w1,fun b S2 H2 ad2 q2 d2 st2=>?_⟩
 cases b with
 | true =>
  rw [if_pos rfl] at q2 ⊢
  obtain⟨N,hN,q2⟩:=q2
  refine⟨fun σ' H'=>∃ ad' ρ' S',N ρ' S'/\Wd ad H ad' H'/\zU X.K ad' H' S'/\zaK X.K ad' H' ρ' σ',?_,ad2,ρ1,S2,{ E0 with nx:=N,ct:=N,bk:=E0.nx },st2,rh1.wd d2,q2,?_⟩
  ·rintro σ' H' ⟨ad',ρ',S',n',d',st',rh'⟩
   obtain⟨m',hm,w'⟩:=hN ρ' S' n'
   exact⟨m',hm,ad',ρ',S',w',d',st',rh'⟩
  ·have d12:=d1.trans d2
   exact⟨fun ρ' S' σ' H' ad' q' w' st' rh'=>⟨ad',ρ',S',q',d12.trans w',st',rh'⟩,k.rt.wd d12,fun ρ' S' σ' H' ad' q' w' st' rh'=>k.nx ρ' S' σ' H' ad' q' (d12.trans w') st' rh',fun ρ' S' σ' H' ad' q' w' st' rh'=>⟨ad',ρ',S',q',d12.trans w',st',rh'⟩⟩
 | false =>
  rw [if_neg Bool.false_ne_true] at q2 ⊢
  exact k.nx ρ1 S2 σ1 H2 ad2 q2 (d1.trans d2) st2 (rh1.wd d2))
end
structure zgB (K:PySem.W.Frag)(ad0:List Addr)(H0:Hp)(J0:DIt)(J:It):Prop where
 go:∀ ad H S i,Wd ad0 H0 ad H->zU K ad H S->J0.ok S->i<J0.items.length->J.go i H
 yld:∀ ad H S i d x H',Wd ad0 H0 ad H->zU K ad H S->J0.ok S->J0.items[i]?=some d->J.yld i H x H'->Wd ad H ad H'/\zU K ad H' S/\Rel K ad H' d x
 stop:∀ ad H S,Wd ad0 H0 ad H->zU K ad H S->J0.ok S->J.stop J0.items.length H
def upI (K:PySem.W.Frag)(wi:DI):TI:=fun U H R=>∃ ad Z S R0,zU K ad H S/\zaK K ad H Z U/\wi Z S R0/\∀ J0 S' J H' ad',R0 J0 S'->Wd ad H ad' H'->zU K ad' H' S'->zgB K ad' H' J0 J->R J H'
@[irreducible] def PID (X:Cx)(tg iter:Expr)(wi:DI):Prop:=PI X tg iter (upI X.K wi)
theorem zih {X:Cx}{tg iter:Expr}{w w':TI}(h:PI X tg iter w)(m:∀ U H R,w' U H R->w U H R):PI X tg iter w':=fun pins s U H R I q=>h pins s U H R I (m U H R q)
section
variable {X:Cx}{tg e:Expr}
def Its (z:Str):It:=⟨fun i _=>i<z.cps.size,fun i H x H'=>H'=H/\∃ c,z.cps[i]?=some c/\x=.str ⟨#[c]⟩,fun i _=>z.cps.size<=i⟩
theorem zpX {P:Program}{w:World}{K:PySem.W.Frag}{tg:Expr}(z:Str)(t:Tok)(it:Addr):Turn P w K tg (Its z) [it] it (fun i h=>h.IsStrIter it "str_ascii_iterator" z t i) where
 mem:=by simp
 obj:=fun i h st b hb=>by
  have e:b=it:=by simpa using hb
  subst e
  obtain⟨o,e,c,d⟩:=st
  exact⟨o,e,fun v y=>by rw [d] at y;cases y⟩
 keep:=fun i h h' st k=>let ⟨o,e,r⟩:=st;⟨o,k it (by simp) o e,r⟩
 item:=by
  intro X hP hw hK hc i pins s U H E I hf st hg
  subst hP hw hK
  have hg:i<z.cps.size:=hg
  obtain⟨f0,f1,f2,f3,f4,f5⟩:=hf it (by simp)
  refine wpAny_pyNext_ascii_item st (c:=z.cps[i]) (by simp [hg]) fun h' st' sb=>?_
  have I1:Inv X pins U H { s with heap:=h',toks:=s.toks+1 }:=I.turned (t':=s.toks+1) (fun b o hb e=>(sb.2 b hb).trans e) f0 f1 f3 f4 f5
  obtain⟨o,e,c,d⟩:=id st'
  exact⟨_,rfl,zib (s:={ s with heap:=h',toks:=s.toks+1 }) e c d (by decide) ⟨.str ⟨#[z.cps[i]]⟩,H,I1,⟨_,rfl⟩,⟨rfl,z.cps[i],by simp [hg],rfl⟩,st',fun b hb=>(hf b hb).1⟩⟩
 done:=by
  intro X hP hw hK hc i pins s U H E I hf st hg
  subst hP hw hK
  have hg:z.cps.size<=i:=hg
  obtain⟨f0,f1,f2,f3,f4,f5⟩:=hf it (by simp)
  exact wpAny_pyNext_ascii_end (I.ok.hd hc) st (by simp [hg]) fun h' eb=>⟨rfl,I.turned (t':=s.toks) (fun b o hb e=>eb b o hb e) f0 f1 f3 f4 f5⟩
 self:=fun _ _ _ _ _ st hQ=>wpAny_pyIter_striter_ascii st hQ
theorem zqC {P:Program}{w:World}{K:PySem.W.Frag}{tg:Expr}(z:Str)(t:Tok)(it:Addr):Turn P w K tg (Its z) [it] it (fun i h=>h.IsStrIter it "str_iterator" z t i) where
 mem:=by simp
 obj:=fun i h st b hb=>by
  have e:b=it:=by simpa using hb
  subst e
  obtain⟨o,e,c,d⟩:=st
  exact⟨o,e,fun v y=>by rw [d] at y;cases y⟩
 keep:=fun i h h' st k=>let ⟨o,e,r⟩:=st;⟨o,k it (by simp) o e,r⟩
 item:=by
  intro X hP hw hK hc i pins s U H E I hf st hg
  subst hP hw hK
  have hg:i<z.cps.size:=hg
  obtain⟨f0,f1,f2,f3,f4,f5⟩:=hf it (by simp)
  refine wpAny_pyNext_wide_item st (c:=z.cps[i]) (by simp [hg]) fun h' st' sb=>?_
  have I1:Inv X pins U H { s with heap:=h',toks:=s.toks+1 }:=I.turned (t':=s.toks+1) (fun b o hb e=>(sb.2 b hb).trans e) f0 f1 f3 f4 f5
  obtain⟨o,e,c,d⟩:=id st'
  exact⟨_,rfl,zib (s:={ s with heap:=h',toks:=s.toks+1 }) e c d (by decide) ⟨.str ⟨#[z.cps[i]]⟩,H,I1,⟨_,rfl⟩,⟨rfl,z.cps[i],by simp [hg],rfl⟩,st',fun b hb=>(hf b hb).1⟩⟩
 done:=by
  intro X hP hw hK hc i pins s U H E I hf st hg
  subst hP hw hK
  have hg:z.cps.size<=i:=hg
  obtain⟨f0,f1,f2,f3,f4,f5⟩:=hf it (by simp)
  exact wpAny_pyNext_wide_end (I.ok.hd hc) st (by simp [hg]) fun h' eb=>⟨rfl,I.turned (t':=s.toks) (fun b o hb e=>eb b o hb e) f0 f1 f3 f4 f5⟩
 self:=fun _ _ _ _ _ st hQ=>wpAny_pyIter_striter_wide st hQ
def zts (K:PySem.W.Frag)(tl:TE):TI:=fun U H R=>tl U H fun x H1=>(∃ a,x=.ref a/\(((∃ xs,SqL K H1 a xs)/\R (Itl K a) H1)\/((∃ xs,SqT K H1 a xs)/\R (Itt K a) H1)))\/(∃ z,x=.str z/\R (Its z) H1)
theorem zqA {l:Expr}{tl:TE}(hl:PE X l tl):PI X tg l (zts X.K tl):=by
  intro pins s U H R I h
  refine thn (hl pins s U H _ I h) fun v s1 ⟨x,H1,I1,r1,q1⟩=>?_
  rcases q1 with ⟨a,e,q1⟩ | ⟨z,e,q⟩
  case inr =>
    subst e
    obtain⟨t,rfl⟩:=r1
    have fp:∀ b∈[s1.heap.objs.size],zfp X pins H1 b:=fun b hb=>by
      have e:b=s1.heap.objs.size:=by simpa using hb
      subst e
      exact I1.fpOk (qf _) (I1.hok.fresh (qf _))
    cases ha:z.cps.all (· < 128) with
    | true=>exact wpAny_pyIter_ascii ha ⟨s1.heap.objs.size,[s1.heap.objs.size],_,_,H1,rfl,I1.kept (t':=s1.toks) fun b o e=>qc _ e,zpX z t _,⟨_,Heap.get?_push_size _ rfl,rfl,rfl⟩,fp,q⟩
    | false=>exact wpAny_pyIter_wide ha ⟨s1.heap.objs.size,[s1.heap.objs.size],_,_,H1,rfl,I1.kept (t':=s1.toks) fun b o e=>qc _ e,zqC z t _,⟨_,Heap.get?_push_size _ rfl,rfl,rfl⟩,fp,q⟩
  subst e
  cases r1
  rcases q1 with ⟨⟨xs,hq⟩,q⟩ | ⟨⟨xs,hq⟩,q⟩
  . obtain⟨its,rv,p,hz⟩:=I1.list hq
    refine wpAny_pyIter_list p.isList ?_
    refine⟨s1.heap.objs.size,[s1.heap.objs.size],_,_,H1,rfl,I1.kept (t':=s1.toks) fun b o e=>qc _ e,zpy a _,⟨_,Heap.get?_push_size _ rfl,rfl,rfl⟩,fun b hb=>?_,q⟩
    have e:b=s1.heap.objs.size:=by simpa using hb
    subst e
    exact I1.fpOk (qf _) (I1.hok.fresh (qf _))
  . obtain⟨its,rv,p,hz⟩:=I1.tuple hq
    refine wpAny_pyIter_tuple (show s1.heap.IsTuple a its.toArray from p) ?_
    refine⟨s1.heap.objs.size,[s1.heap.objs.size],_,_,H1,rfl,I1.kept (t':=s1.toks) fun b o e=>qc _ e,zoh a _,⟨_,Heap.get?_push_size _ rfl,rfl,rfl⟩,fun b hb=>?_,q⟩
    have e:b=s1.heap.objs.size:=by simpa using hb
    subst e
    exact I1.fpOk (qf _) (I1.hok.fresh (qf _))
theorem zuO {K:PySem.W.Frag}{ad:List Addr}{H:Hp}(z:Str):zgB K ad H ⟨signs z,fun _=>True⟩ (Its z) where
 go:=fun ad1 H1 S i w st _ hi=>by
  show i<z.cps.size
  have:i<(signs z).length:=hi
  unfold signs at this
  rw [qa] at this
  simpa using this
 yld:=fun ad1 H1 S i d x H' w st _ hd ⟨e,c,hc,hx⟩=>by
  subst e hx
  have hd:(signs z)[i]?=some d:=hd
  unfold signs at hd
  rw [qg,Array.getElem?_toList,hc] at hd
  cases hd
  exact⟨Wd.refl,st,.str _⟩
 stop:=fun ad1 H1 S w st _=>by
  show z.cps.size<=(signs z).length
  unfold signs
  rw [qa];simp
theorem zv2 {K:PySem.W.Frag}{ad:List Addr}{H:Hp}{a:Addr}{vs:List V}{ds:List D}(h:H a=some (.tup vs))(r:zK K ad H ds vs):zgB K ad H ⟨ds,fun _=>True⟩ (Itt K a) where
 go:=fun ad1 H1 S i w st _ hi=>⟨vs,vs[i]'(by rw [<- r.length];exact hi),SqT.of (w.tup _ _ h),qb _⟩
 yld:=fun ad1 H1 S i d x H' w st _ hd ⟨e,hx⟩=>by
  subst e
  obtain⟨v,ev,rv⟩:=r.get hd
  rw [hx vs (SqT.of (w.tup _ _ h))] at ev
  cases ev
  exact⟨Wd.refl,st,rv.wd w⟩
 stop:=fun ad1 H1 S w st _=>⟨vs,SqT.of (w.tup _ _ h),by rw [<- r.length];exact qf _⟩
theorem zvS {K:PySem.W.Frag}{ad:List Addr}{H:Hp}{a:Addr}{x:D}{ds:List D}(r:Rel K ad H x (.ref a)):zgB K ad H ⟨ds,fun S=>Lst S x ds⟩ (Itl K a) where
 go:=fun ad1 H1 S i w st ok hi=>by
  obtain⟨a',vs,e,s,rs⟩:=Lst.sq st ok (r.wd w)
  cases e
  exact⟨vs,vs[i]'(by rw [<- rs.length];exact hi),s,qb _⟩
 yld:=fun ad1 H1 S i d y H' w st ok hd ⟨e,hx⟩=>by
  subst e
  obtain⟨a',vs,e,s,rs⟩:=Lst.sq st ok (r.wd w)
  cases e
  obtain⟨v,ev,rv⟩:=rs.get hd
  rw [hx vs s] at ev
  cases ev
  exact⟨Wd.refl,st,rv⟩
 stop:=fun ad1 H1 S w st ok=>by
  obtain⟨a',vs,e,s,rs⟩:=Lst.sq st ok (r.wd w)
  cases e
  exact⟨vs,s,by rw [<- rs.length];exact qf _⟩
theorem zaw {t:DE}(h:PD X e t):PID X tg e (zaY t):=by with_unfolding_all exact (zih (zqA h) fun U H R hh=>el8 hh fun ad Z S R0 st rh q k =>
 ⟨ad,Z,S,_,st,rh,q,fun x S1 v H1 ad1 q1 w1 st1 r1=>by
  rcases q1 with ⟨xs,rfl,q1⟩ | ⟨xs,hx,q1⟩ | ⟨z,rfl,q1⟩
  ·cases r1 with
   | tup h1 rs=>exact .inl ⟨_,rfl,.inr ⟨⟨_,SqT.of h1⟩,k _ S1 _ H1 ad1 q1 w1 st1 (zv2 h1 rs)⟩⟩
  ·obtain⟨a,vs,rfl,s,rs⟩:=hx.sq st1 r1
   exact .inl ⟨a,rfl,.inl ⟨⟨vs,s⟩,k _ S1 _ H1 ad1 q1 w1 st1 (zvS r1)⟩⟩
  ·cases r1
   exact .inr ⟨z,rfl,k _ S1 _ H1 ad1 q1 w1 st1 (zuO z)⟩⟩)
theorem zr5 {lo:Int}{n i:Nat}{d:D}(h:(upto lo n)[i]?=some d):i<n/\d=.int (lo+i):=by
 unfold upto at h
 rw [qg] at h
 have hi:=My.za8 (xs:=List.range n) (i:=i) (x:=i)
 cases hr:(List.range n)[i]? with
 | none=>rw [hr] at h;cases h
 | some k =>
  rw [hr] at h
  have h1:=My.za8 hr
  rw [List.length_range] at h1
  have h2:(List.range n)[i]?=some i:=List.getElem?_range h1
  rw [hr] at h2
  cases h2
  cases h
  exact⟨h1,rfl⟩
theorem zmp (lo:Int)(n:Nat):(upto lo n).length=n:=by unfold upto;rw [qa,List.length_range]
theorem zpu {K:PySem.W.Frag}{ad:List Addr}{H:Hp}(lo:Int)(n:Nat):zgB K ad H ⟨upto lo n,fun _=>True⟩ (Itr lo n) where
 go:=fun ad1 H1 S i w st _ hi=>by rw [zmp] at hi;exact hi
 yld:=fun ad1 H1 S i d x H' w st _ hd ⟨e,hx⟩=>by
  subst e
  obtain⟨_,rfl⟩:=zr5 hd
  rw [hx]
  exact⟨Wd.refl,st,.int _⟩
 stop:=fun ad1 H1 S w st _=>by rw [zmp];exact qf _
theorem zpo {P:Program}{w:World}{K:PySem.W.Frag}{tg:Expr}(it:Addr)(lo:Int)(n:Nat):Turn P w K tg (Itr lo n) [it] it (fun i h=>IsLongIter h it (lo+(i:Nat)*1) ((n:Int)-(i:Nat)) 1) where
 mem:=by simp
 obj:=fun i h st b hb=>by
  have e:b=it:=by simpa using hb
  subst e
  exact⟨_,st,fun v z=>by
   have z':Data.fields _=Data.cell v:=z
   cases z'⟩
 keep:=fun i h h' st k=>k it (by simp) _ st
 item:=by
  intro X hP hw hK hc i pins s U H E I hf st' hg
  subst hP hw hK
  obtain⟨f0,f1,f2,f3,f4,f5⟩:=hf it (by simp)
  have W:=Walks.longrange (prog:=X.prog) (w:=X.w) (I.ok.hd hc) it lo 1 n
  refine W.item i s _ _ hg st' fun v h' tk hv st'' kk=>?_
  obtain⟨t,rfl⟩:=hv
  have I1:Inv X pins U H { s with heap:=h',toks:=tk }:=I.turned (fun b o hb e=>kk b o (by simpa using hb) e) f0 f1 f3 f4 f5
  rw [Int.mul_one]
  exact⟨_,rfl,zib (s:={ s with heap:=h',toks:=tk }) (n:="longrange_iterator") st'' rfl rfl (by decide) ⟨.int (lo+i),H,I1,⟨t,rfl⟩,⟨rfl,rfl⟩,st'',fun b hb=>(hf b hb).1⟩⟩
 done:=by
  intro X hP hw hK hc i pins s U H E I hf st' hg
  subst hP hw hK
  obtain⟨f0,f1,f2,f3,f4,f5⟩:=hf it (by simp)
  exact wpAny_pyNext_long_end (I.ok.hd hc) st' (by have:n<=i:=hg;omega) fun h' eb=>⟨rfl,I.turned (t':=s.toks) (fun b o hb e=>eb b o hb e) f0 f1 f3 f4 f5⟩
 self:=fun _ _ _ _ _ st h=>wpAny_pyIter_longiter st h
theorem range_any {pins:List (Addr×Obj)}{U:L2.St}{H:Hp}{s:Shared}{R:It->Hp->Prop}{E:Value->Shared->Prop}{lo hi:Int}{t u v:Tok}{tk:Nat}(I:Inv X pins U H s)
    (q:R (Itr lo (hi-lo).toNat) H):wpAny (model X.prog X.w) X.A (pyIter (.ref s.heap.objs.size)) (PIE X pins U tg R) E { s with heap:=s.heap.push { cls:=.type "range",data:=.fields #[.int lo t,.int hi u,.int 1 v] },toks:=tk }:=by
  have I1:Inv X pins U H { s with heap:=s.heap.push { cls:=.type "range",data:=.fields #[.int lo t,.int hi u,.int 1 v] },toks:=tk }:=I.kept fun b o e=>qc _ e
  have e1:lo+((0:Nat):Int)*1=lo:=by simp
  have e2:(((hi-lo).toNat:Nat):Int)-((0:Nat):Int)=Builtin.Range.rangeSize lo hi 1:=by rw [rangeSize_one];split<;>omega
  cases hsm:Builtin.Range.small lo hi 1 with
  | true =>
    refine wpAny_pyIter_range (IsRange.new ..) hsm ?_
    refine⟨(s.heap.push { cls:=.type "range",data:=.fields #[.int lo t,.int hi u,.int 1 v] }).objs.size,[(s.heap.push { cls:=.type "range",data:=.fields #[.int lo t,.int hi u,.int 1 v] }).objs.size],_,_,H,rfl,
      I1.kept (t':=tk) fun b o e=>qc _ e,zjp _ lo (hi-lo).toNat,?_,fun b hb=>?_,q⟩
    . show IsRangeIter _ _ (lo+((0:Nat):Int)*1) ((((hi-lo).toNat:Nat):Int)-((0:Nat):Int)) 1
      rw [e1,e2]
      exact Heap.get?_push_size _ rfl
    . have e:b=(s.heap.push { cls:=.type "range",data:=.fields #[.int lo t,.int hi u,.int 1 v] }).objs.size:=by simpa using hb
      subst e
      exact I1.fpOk (qf _) (I1.hok.fresh (qf _))
  | false =>
    refine wpAny_pyIter_longrange (IsRange.new ..) hsm ?_
    refine⟨(s.heap.push { cls:=.type "range",data:=.fields #[.int lo t,.int hi u,.int 1 v] }).objs.size,[(s.heap.push { cls:=.type "range",data:=.fields #[.int lo t,.int hi u,.int 1 v] }).objs.size],_,_,H,rfl,
      I1.kept (t':=tk) fun b o e=>qc _ e,zpo _ lo (hi-lo).toNat,?_,fun b hb=>?_,q⟩
    . show IsLongIter _ _ (lo+((0:Nat):Int)*1) ((((hi-lo).toNat:Nat):Int)-((0:Nat):Int)) 1
      rw [e1,e2]
      exact Heap.get?_push_size _ rfl
    . have e:b=(s.heap.push { cls:=.type "range",data:=.fields #[.int lo t,.int hi u,.int 1 v] }).objs.size:=by simpa using hb
      subst e
      exact I1.fpOk (qf _) (I1.hok.fresh (qf _))
theorem zcA {a:Expr}{t:DA}{p pos:Pos}(hm:X.mg "range"=none)(ha:PAD X [a] t)(hg:Gl X "range":=by rfl)(hs:starEach [a] X.env=[(false,eval a X.env)]:=by exact zdH rfl):PID X tg (.Call (.Name "range" p) [a] [] pos) (zcJ t):=by with_unfolding_all exact (zih (zqI hg hm ha hs) fun U H R hh=>el8 hh fun ad Z S R0 st rh q k =>
 ⟨ad,Z,S,_,st,rh,q,fun ds S1 vs H1 ad1 ⟨j,ed,b1,b2,q1⟩ w1 st1 r1=>by
  subst ed
  obtain⟨v,rfl,rv⟩:=zbM r1
  cases rv
  exact⟨j,rfl,b1,b2,k _ S1 _ H1 ad1 q1 w1 st1 (zpu 0 j.toNat)⟩⟩)
theorem zie {a b:Expr}{t:DA}{p pos:Pos}(hm:X.mg "range"=none)(ha:PAD X [a,b] t)(hg:Gl X "range":=by rfl)(hs:starEach [a,b] X.env=[(false,eval a X.env),(false,eval b X.env)]:=by exact ziY rfl rfl)(hs2:starEach [b] X.env=[(false,eval b X.env)]:=by exact zdH rfl) :
  PID X tg (.Call (.Name "range" p) [a,b] [] pos) (zir t):=by
 with_unfolding_all
  rintro pins s U H R I ⟨ad,Z,S,R0,st,rh,q,k⟩
  refine Call_ (zc2 I hg hm boot_range (PyProof.Rows.callWith_type1 (thn (ha pos pins s U H (fun vs H1=>∃ i j:Int,vs=[.int i,.int j]/\R (Itr i (j-i).toNat) H1) I ⟨ad,Z,S,_,st,rh,q,fun ds S1 vs H1 ad1 ⟨i,j,ed,q1⟩ w1 st1 r1=>by
   subst ed
   obtain⟨v,u,rfl,rv,ru⟩:=zgN r1
   cases rv
   cases ru
   exact⟨i,j,rfl,k _ S1 _ H1 ad1 q1 w1 st1 (zpu i _)⟩⟩) fun us s1 ⟨vs,H1,I1,r1,q1⟩=>?_) (by rw [hs,hs2]) (by rw [hs2];rfl)))
  obtain⟨i,j,e,q⟩:=q1
  subst e
  cases r1 with
  | cons r rr =>
   cases rr with
   | cons r' rr =>
    cases rr
    obtain⟨t,rfl⟩:=r
    obtain⟨t',rfl⟩:=r'
    exact call_range_2 (range_any I1 q)
theorem zaz {iter:Expr}{body:List Stmt}{wi:DI}{g:DG}{t:DS}{pos:Pos}(hi:PID X tg iter wi)(hg:PGD X 1000 tg g)(hb:zf0 X body t)(hp:PassesOwn (model X.prog X.w) X.A X.env X.xe:=by first | exact PassesOwn.never | exact PassesOwn.leaving)(hc:X.calm=true:=by rfl)(hs:∀ x,foldedSetIterable iter X.env x=pure x:=by intro _;rfl):PSD X (.For tg iter body [] pos) (zbu wi g t):=by
 with_unfolding_all
  obtain⟨g',pg,rg⟩:=hg
  refine zbJ (zuo hp hc hi pg hb hs) fun E U H hh=>el8 hh fun ad Z S E0 so rh q k=>?_
  refine⟨ad,Z,S,_,so,rh,q,fun J0 S1 J H1 ad1 ⟨W,w0,hok,step,fin⟩ d1 st1 it=>?_⟩
  refine⟨fun i m σ' H'=>m=J0.items.length-i/\i<=J0.items.length/\∃ ad' ρ' S',W i ρ' S'/\Wd ad1 H1 ad' H'/\zU X.K ad' H' S'/\zaK X.K ad' H' ρ' σ',⟨J0.items.length,rfl,Nat.zero_le _,ad1,Z,S1,w0,Wd.refl,st1,rh.wd d1⟩,?_⟩
  rintro i m σ2 H2 ⟨rfl,hi2,ad2,ρ2,S2,w2,d2,st2,rh2⟩
  by_cases hlt:i<J0.items.length
  ·have ed:J0.items[i]?=some J0.items[i]:=qb hlt
   refine .inr ⟨it.go ad2 H2 S2 i d2 st2 (hok _ _ _ w2) hlt,fun σ' H'=>∃ ad' ρ' S',W (i+1) ρ' S'/\Wd ad1 H1 ad' H'/\zU X.K ad' H' S'/\zaK X.K ad' H' ρ' σ',?_,fun x H' hy=>?_⟩
   ·rintro σ' H' ⟨ad',ρ',S',w',d',st',rh'⟩
    exact⟨J0.items.length-(i+1),by omega,rfl,hlt,ad',ρ',S',w',d',st',rh'⟩
   ·obtain⟨d3,st3,r3⟩:=it.yld ad2 H2 S2 i _ x H' d2 st2 (hok _ _ _ w2) ed hy
    refine rg ad2 H' S2 ρ2 σ2 _ x _ _ st3 (rh2.wd d3) r3 (step i _ ρ2 S2 ed w2) fun ρ4 S4 σ4 H4 ad4 q4 d4 st4 rh4 _ _=>?_
    have d14:=(d2.trans d3).trans d4
    have d04:=d1.trans d14
    exact⟨ad4,ρ4,S4,{ E0 with nx:=W (i+1),ct:=W (i+1),bk:=E0.nx },st4,rh4,q4,⟨fun ρ' S' σ' H' ad' q' w' st' rh'=>⟨ad',ρ',S',q',d14.trans w',st',rh'⟩,k.rt.wd d04,fun ρ' S' σ' H' ad' q' w' st' rh'=>k.nx ρ' S' σ' H' ad' q' (d04.trans w') st' rh',fun ρ' S' σ' H' ad' q' w' st' rh'=>⟨ad',ρ',S',q',d14.trans w',st',rh'⟩⟩⟩
  ·have e:i=J0.items.length:=by omega
   subst e
   exact .inl ⟨it.stop ad2 H2 S2 d2 st2 (hok _ _ _ w2),k.nx ρ2 S2 σ2 H2 ad2 (fin ρ2 S2 w2) (d1.trans d2) st2 rh2⟩
end
theorem zlT:∀ {a b:L2.St} (n:Nat),(∀ j,j<n->a[j]?=some none\/a.length<=j)->b.length=a.length->(∀ j,n<=j->b[j]?=a[j]?)->Agr a b
 | [],[],_,_,_,_=>True.intro
 | [],_::_,_,_,h,_=>by simp at h
 | _::_,[],_,_,h,_=>by simp at h
 | x::a,y::b,n,h0,hl,h=>by
  have hl':b.length=a.length:=by simpa using hl
  cases n with
  | zero =>
   have e:=h 0 (qf _)
   have e':y=x:=by simpa using e
   subst e'
   have rest:Agr a b:=zlT 0 (fun j hj=>absurd hj (Nat.not_lt_zero _)) hl' fun j _=>by simpa using h (j+1) (Nat.zero_le _)
   cases y with
   | none=>exact rest
   | some v=>exact⟨rfl,rest⟩
  | succ n =>
   have rest:Agr a b:=zlT n (fun j hj=>by
    rcases h0 (j+1) (by omega) with e | e
    ·exact .inl (by simpa using e)
    ·exact .inr (by simpa using e)) hl' fun j hj=>by simpa using h (j+1) (by omega)
   rcases h0 0 (Nat.succ_pos _) with e | e
   ·have e':x=none:=by simpa using e
    subst e'
    exact rest
   ·simp at e
theorem ztO {K:PySem.W.Frag}{ad:List Addr}{H:Hp}{Z:Rho}{U:L2.St}(h:zaK K ad H Z U)(own:List Str)(fv:List Nat):zaK K ad H (zjb own.length fv Z) (cst own fv U) where
  len:=by unfold zjb cst;rw [qe,qe,List.length_replicate,List.length_replicate,qa,qa]
  val:=fun i d e=>by
    unfold zjb at e
    unfold cst
    by_cases hi:i<own.length
    . rw [List.getElem?_append_left (by rw [List.length_replicate];exact hi),List.getElem?_replicate] at e
      split at e<;>cases e
    . have hi':own.length<=i:=Nat.le_of_not_lt hi
      rw [qk (by rw [List.length_replicate];exact hi'),List.length_replicate,qg] at e
      rw [qk (by rw [List.length_replicate];exact hi'),List.length_replicate,qg]
      cases hf:fv[i-own.length]? with
      | none=>rw [hf] at e;cases e
      | some j =>
        rw [hf] at e
        simp only [Option.map_some,Option.some.injEq] at e ⊢
        cases hr:Z[j]? with
        | none=>rw [hr] at e;cases e
        | some o =>
          rw [hr] at e
          have e':o=some d:=e
          subst e'
          obtain⟨v,ev,rv⟩:=h.val j d hr
          exact⟨v,by rw [ev];rfl,rv⟩
@[irreducible] def zn7 (X:Cx)(ifs:List Expr)(t:DT):Prop:=PFs X ifs (upT X.K t)
theorem za1 {X:Cx}:zn7 X [] zbz:=by with_unfolding_all exact (fun pins s U H Q I hh=>el8 hh fun ad Z S Q0 st rh q k=>zvp pins s U H Q I (k true S H ad q Wd.refl st))
theorem zgx {X:Cx}{c:Expr}{t:DT}(h:PTD X c t):zn7 X [c] t:=by with_unfolding_all exact (zur h)
theorem ofT {A B:Prop}(h:if true=true then A else B):A:=by rw [if_pos rfl] at h;exact h
theorem ofF {A B:Prop}(h:if false=true then A else B):B:=by rw [if_neg Bool.false_ne_true] at h;exact h
theorem zsc {K:PySem.W.Frag}{own:List Str}{fv:List Nat}{wi:DI}{g:DG}{g':TG}{tc:DT}{te:DE}(rg:ziZ K own.length g g'){U:L2.St}{H:Hp}{Q:VK}(h:up K (dLC own.length fv wi g tc te) U H Q):tLC own fv (upI K wi) g' (upT K tc) (up K te) U H Q:=by
 obtain⟨ad,Z,S,Q0,so,rh,q,k⟩:=h
 refine⟨ad,Z,S,_,so,rh,q,fun J0 S1 J H1 ad1 ⟨hbig,W,w0,hok,step,fin⟩ d1 st1 it=>?_⟩
 intro p hp
 refine⟨fun i m H'=>m=J0.items.length-i/\i<=J0.items.length/\∃ ad' S' ys vs,W i ys S'/\Wd ad1 H1 ad' H'/\zU K ad' H' S'/\p∉ad'/\H' p=some (.lst vs)/\zK K ad' H' ys vs/\vs.length<=i,
  ⟨J0.items.length,rfl,Nat.zero_le _,ad1,S1,[],[],w0,Wd.laid hp,st1.laid hp,st1.fresh hp,zaW,.nil,qf _⟩,?_⟩
 rintro i m H2 ⟨rfl,hi2,ad2,S2,ys,vs,w2,d2,st2,hp2,hv2,r2,hl2⟩
 by_cases hlt:i<J0.items.length
 ·have ed:J0.items[i]?=some J0.items[i]:=qb hlt
  refine .inr ⟨it.go ad2 H2 S2 i d2 st2 (hok _ _ _ w2) hlt,fun x H' hy=>?_⟩
  obtain⟨d3,st3,r3⟩:=it.yld ad2 H2 S2 i _ x H' d2 st2 (hok _ _ _ w2) ed hy
  have rh3:=ztO (rh.wd ((d1.trans d2).trans d3)) own fv
  refine rg ad2 H' S2 _ _ _ x _ _ st3 rh3 r3 (step i _ ys S2 ed w2) fun ρ4 S4 σ4 H4 ad4 q4 d4 st4 rh4 l4 a4=>?_
  refine⟨zlT own.length (fun j hj=>.inl ?_) l4 a4,ad4,ρ4,S4,_,st4,rh4,q4,fun b S5 H5 ad5 q5 d5 st5=>?_⟩
  ·unfold cst
   rw [List.getElem?_append_left (by rw [List.length_replicate];exact hj),List.getElem?_replicate,if_pos hj]
  have fwd:∀ {ad9:List Addr} {H9:Hp},Wd ad2 H2 ad9 H9->p∉ad9/\H9 p=some (.lst vs):=fun {ad9 H9} w=>⟨(fun m=>by
   have z:=w.new p m hp2
   rw [hv2] at z;cases z),w.keep p _ hp2 hv2⟩
  have d25:=(d3.trans d4).trans d5
  cases b with
  | true =>
   refine zol ?_
   have q5:=Dp.ofT q5
   refine⟨ad5,ρ4,S5,_,st5,rh4.wd d5,q5,fun y S6 v H6 ad6 q6 d6 st6 r6=>?_⟩
   have d26:=d25.trans d6
   obtain⟨n6,e6⟩:=fwd d26
   have hw:Wr ad6 H6 ad6 (upd H6 p (.lst (vs++[v]))):=Wr.hid e6
   have hvl:vs.length<sizeLine:=zmI (by omega)
   exact⟨vs,e6,hvl,J0.items.length-(i+1),by omega,rfl,hlt,ad6,S6,ys++[y],vs++[v],q6,(d2.trans d26).hid hp,st6.hid e6 n6 (st1.bfree hp),n6,zaW,zK.wr hw ((r2.wd d26).append (.cons r6 .nil)),by rw [qe];exact Nat.succ_le_succ hl2⟩
  | false =>
   refine zq3 ?_
   have q5:=Dp.ofF q5
   obtain⟨n5,e5⟩:=fwd d25
   exact⟨J0.items.length-(i+1),by omega,rfl,hlt,ad5,S5,ys,vs,q5,d2.trans d25,st5,n5,e5,r2.wd d25,by omega⟩
 ·have e:i=J0.items.length:=by omega
  subst e
  refine .inl ⟨it.stop ad2 H2 S2 d2 st2 (hok _ _ _ w2),?_⟩
  exact k _ _ _ _ (ad2++[p]) (fin ys S2 w2) (d1.trans (d2.add hp)) (st2.add hv2 hp2 r2 (st1.bfree hp)) (.ref (by rw [<- st2.len,qk (qf _),Nat.sub_self];rfl))
section
variable {X:Cx}{sc:Scope}{tg iter elt:Expr}{ifs:List Expr}{own free:List Str}{fv:List Nat}{wi:DI}{g:DG}{tc:DT}{te:DE}{pos:Pos}
theorem zbZ {g':TG}(hfr:zeB (fun x=>X.env.kindOf x=some .cell) sc.names)(hfv:zhO X sc free fv)(hi:PID X tg iter wi)
  (hg:ziZ X.K own.length g g'/\∀ cl C s₀ H₀ ex,PG (inner X sc (own++free) cl C s₀ H₀ ex) tg g') (ht:∀ cl C s₀ H₀ ex,zn7 (inner X sc (own++free) cl C s₀ H₀ ex) ifs tc) (he:∀ cl C s₀ H₀ ex,PD (inner X sc (own++free) cl C s₀ H₀ ex) elt te) (hcalm:X.calm=true:=by rfl) (hxe:(X.xe=fun _ _=>False):=by rfl) (hkind:sc.kind=.function:=by rfl) (hcell:∀ y∈sc.names,y.2≠.cell:=by decide +kernel) (hnames:∀ y∈sc.names,y.2=.local->sc.names.lookup y.1=some .local:=by decide +kernel)
  (hs:∀ x,foldedSetIterable iter X.env x=pure x:=by intro _;rfl):PD X (.ListComp elt [⟨tg,iter,ifs,0⟩] sc pos) (dLC own.length fv wi g tc te):=by with_unfolding_all exact (za7 (zw2 (tc:=upT X.K tc) (te:=up X.K te) hcalm hxe hkind hcell hnames hfr hfv hi hg.2 ht he hs) fun _ _ _=>zsc hg.1)
theorem zfr {g':TG}{i:Nat}{y:Str}{py spos:Pos}(hN:X.N.Nodup)(hfr:zeB (fun x=>X.env.kindOf x=some .cell) sc.names)(hfv:zhO X sc free fv)(hi:PID X tg iter wi)
  (hg:ziZ X.K own.length g g'/\∀ cl C s₀ H₀ ex,PG (inner X sc (own++free) cl C s₀ H₀ ex) tg g') (ht:∀ cl C s₀ H₀ ex,zn7 (inner X sc (own++free) cl C s₀ H₀ ex) ifs tc) (he:∀ cl C s₀ H₀ ex,PD (inner X sc (own++free) cl C s₀ H₀ ex) elt te) (hy:X.N[i]?=some y:=by rfl) (hyl:X.env.scope.names.lookup y=some .local:=by rfl) (hcalm:X.calm=true:=by rfl) (hxe:(X.xe=fun _ _=>False):=by rfl) (hkind:sc.kind=.function:=by rfl) (hcell:∀ y∈sc.names,y.2≠.cell:=by decide +kernel) (hnames:∀ y∈sc.names,y.2=.local->sc.names.lookup y.1=some .local:=by decide +kernel)
  (hsw:swapsWith (.ListComp elt [⟨tg,iter,ifs,0⟩] sc pos) (some (.Name y py)) spos.line X.env=pure true:=by rfl)
  (hs:∀ x,foldedSetIterable iter X.env x=pure x:=by intro _;rfl):PSD X (.Assign [.Name y py] (.ListComp elt [⟨tg,iter,ifs,0⟩] sc pos) spos) (zM (dLC own.length fv wi g tc te) (zE i)):=by with_unfolding_all exact (zbJ (zsT (tc:=upT X.K tc) (te:=up X.K te) hN hy hyl hcalm hxe hkind hcell hnames hfr hfv hi hg.2 ht he hsw hs) fun E U H hh=>el8 hh fun ad Z S E0 so rh q k =>
  zsc (Q:=fun x H1=>L2.zE i x U H1 E.nx) hg.1 ⟨ad,Z,S,_,so,rh,q,fun d S' v H' ad' q' w st' r=>k.nx _ S' _ H' ad' q' w st' ((rh.wd w).set r i)⟩)
theorem zfN {K:PySem.W.Frag}{b:Nat}:zjH K b zcH L2.zcH:=fun ad H S Z U ds vs Q0 Q st rh r ⟨e,q⟩ k=>by
 subst e
 cases r
 exact⟨rfl,k Z S U H ad q Wd.refl st rh rfl fun _ _=>rfl⟩
theorem zbB {K:PySem.W.Frag}{b:Nat}{t:DG}{u:DGs}{t':TG}{u':TGs}(r1:ziZ K b t t')(r2:zjH K b u u'):zjH K b (zav t u) (L2.zav t' u'):=fun ad H S Z U ds vs Q0 Q st rh r ⟨d,rs,ed,q⟩ k=>by
 subst ed
 cases r with
 | cons r t =>
  refine⟨_,_,rfl,r1 ad H S Z U d _ _ _ st rh r q fun ρ1 S1 σ1 H1 ad1 q1 w1 st1 rh1 l1 a1=>?_⟩
  exact r2 ad1 H1 S1 ρ1 σ1 _ _ _ _ st1 rh1 (t.wd w1) q1 fun ρ2 S2 σ2 H2 ad2 q2 w2 st2 rh2 l2 a2=>k ρ2 S2 σ2 H2 ad2 q2 (w1.trans w2) st2 rh2 (l2.trans l1) fun j hj=>(a2 j hj).trans (a1 j hj)
theorem zha {K:PySem.W.Frag}{b n:Nat}{t:DGs}{t':TGs}(r:zjH K b t t'):ziZ K b (zcF n t) (L2.zcF K n t'):=fun ad H S Z U d v Q0 Q st rh rv ⟨xs,ed,hl,q⟩ k=>by
 subst ed
 cases rv with
 | tup h1 rs=>exact⟨_,_,rfl,SqT.of h1,by rw [<- rs.length];exact hl,r ad H S Z U xs _ _ _ st rh rs q k⟩
end
theorem zmj {K:PySem.W.Frag}{ad:List Addr}{H:Hp}{ds:List D}{vs:List V}(N:List Str)(r:zK K ad H ds vs):zaK K ad H (zeO N.length ds) (L2.start N vs) where
  len:=by unfold zeO L2.start;rw [qe,qe,qa,qa,List.length_replicate,List.length_replicate,r.length]
  val:=fun i d e=>by
    unfold zeO at e
    unfold L2.start
    by_cases hi:i<ds.length
    . rw [List.getElem?_append_left (by rw [qa];exact hi),qg] at e
      rw [List.getElem?_append_left (by rw [qa,<- r.length];exact hi),qg]
      cases hd:ds[i]? with
      | none=>rw [hd] at e;cases e
      | some d' =>
        rw [hd] at e
        cases e
        obtain⟨v,ev,rv⟩:=r.get hd
        exact⟨v,by rw [ev];rfl,rv⟩
    . rw [qk (by rw [qa];exact Nat.le_of_not_lt hi),List.getElem?_replicate] at e
      split at e<;>cases e
theorem zK.cut1 {K:PySem.W.Frag}{ad ad':List Addr}{H:Hp}(k:Nat)(h1:∀ d v,fl k d=true->Rel K ad H d v->Rel K ad' H d v):∀ ds vs,ds.all (fl k)=true->zK K ad H ds vs->zK K ad' H ds vs:=by
 intro ds
 induction ds with
 | nil=>intro vs _ r;cases r;exact .nil
 | cons d ds ih =>
  intro vs hf r
  rw [List.all_cons,Bool.and_eq_true] at hf
  cases r with
  | cons r t=>exact .cons (h1 d _ hf.1 r) (ih _ hf.2 t)
theorem Rel.cut {K:PySem.W.Frag}{ad ad':List Addr}{H:Hp}:∀ (k:Nat) (d:D) (v:V),fl k d=true->Rel K ad H d v->Rel K ad' H d v:=by
 intro k
 induction k with
 | zero =>
  intro d v hf r
  cases r with
  | non=>exact .non
  | bl b=>exact .bl b
  | int i=>exact .int i
  | str x=>exact .str x
  | ty n=>cases hf
  | tup h r=>cases hf
  | rl h r=>cases hf
  | ref h=>cases hf
  | exn _ _ _=>cases hf
 | succ k ih =>
  intro d v hf r
  cases r with
  | non=>exact .non
  | bl b=>exact .bl b
  | int i=>exact .int i
  | str x=>exact .str x
  | ty n=>cases hf
  | tup h r=>exact .tup h (zK.cut1 k ih _ _ hf r)
  | rl h r=>cases hf
  | ref h=>cases hf
  | exn _ _ _=>cases hf
theorem zK.cut {K:PySem.W.Frag}{ad ad':List Addr}{H:Hp}(k:Nat)(ds:List D)(vs:List V)(hf:ds.all (fl k)=true)(r:zK K ad H ds vs):zK K ad' H ds vs:=zK.cut1 k (Rel.cut k) ds vs hf r
end Dp
namespace Dp
open PySem PySem.Spec PyProof.Rows L2 My
variable [B:Bs]
mutual
theorem Rel.low {K:PySem.W.Frag}{ad ad':List Addr}{H H':Hp}{m:Nat}(hm:ad.length<=m):∀ {d:D} {u v:V},Rel K ad H d u->Rel K ad' H' d v->Rel K (ad'.take m) H' d v
 | _,_,_,.non,r=>by cases r;exact .non
 | _,_,_,.bl b,r=>by cases r;exact .bl b
 | _,_,_,.int i,r=>by cases r;exact .int i
 | _,_,_,.str x,r=>by cases r;exact .str x
 | _,_,_,.ty n,r=>by cases r;exact .ty n
 | _,_,_,.tup _ t,r=>by
  cases r with
  | tup h t'=>exact .tup h (zK.low hm t t')
 | _,_,_,.rl _ t,r=>by
  cases r with
  | rl h t'=>exact .rl h (zK.low hm t t')
 | _,_,_,.exn _ _ _,r=>by
  cases r with
  | exn h e n=>exact .exn h e n
 | _,_,_,.ref h,r=>by
  cases r with
  | ref h'=>exact .ref (by rw [List.getElem?_take_of_lt (Nat.lt_of_lt_of_le (My.za8 h) hm)];exact h')
theorem zK.low {K:PySem.W.Frag}{ad ad':List Addr}{H H':Hp}{m:Nat}(hm:ad.length<=m):∀ {ds:List D} {us vs:List V},zK K ad H ds us->zK K ad' H' ds vs->zK K (ad'.take m) H' ds vs
 | _,_,_,.nil,r=>by cases r;exact .nil
 | _,_,_,.cons r t,q=>by
  cases q with
  | cons r' t'=>exact .cons (Rel.low hm r r') (zK.low hm t t')
end
theorem zaX.low {K:PySem.W.Frag}{ad ad':List Addr}{H H':Hp}{m:Nat}(hm:ad.length<=m):∀ {fs:List (Str×D)} {us vs:List (Str×V)},zaX K ad H fs us->zaX K ad' H' fs vs->zaX K (ad'.take m) H' fs vs
 | _,_,_,.nil,r=>by cases r;exact .nil
 | _,_,_,.cons r t,q=>by
  cases q with
  | cons r' t'=>exact .cons (Rel.low hm r r') (zaX.low hm t t')
theorem RelK.low {K:PySem.W.Frag}{ad ad':List Addr}{H H':Hp}{m:Nat}(hm:ad.length<=m):∀ {fs:List (Str×D)} {us vs:List (Key×V)},RelK K ad H fs us->RelK K ad' H' fs vs->RelK K (ad'.take m) H' fs vs
 | _,_,_,.nil,r=>by cases r;exact .nil
 | _,_,_,.cons r t,q=>by
  cases q with
  | cons r' t'=>exact .cons (Rel.low hm r r') (RelK.low hm t t')
theorem zdE.low {K:PySem.W.Frag}{ad ad':List Addr}{H H':Hp}{m:Nat}(hm:ad.length<=m):∀ {fs:List (List Key×D)} {us vs:List (List Key×V)},zdE K ad H fs us->zdE K ad' H' fs vs->zdE K (ad'.take m) H' fs vs
 | _,_,_,.nil,r=>by cases r;exact .nil
 | _,_,_,.cons r t,q=>by
  cases q with
  | cons r' t'=>exact .cons (Rel.low hm r r') (zdE.low hm t t')
theorem zjM {K:PySem.W.Frag}{ad:List Addr}{H:Hp}{S:Sto}{Q0:DK}{Q:VK}(st:zU K ad H S)(k:KK K ad H Q0 Q):KK K ad H (Fin S Q0) Q:=by
 intro d S' v H' ad' hf w st' r
 rcases hf with q | ⟨S1,pre,hlen,hd,hc,q⟩
 ·exact k d S' v H' ad' q w st' r
 have hS:S1.length<=S'.length:=pre.length_le
 have had:ad.length<=S1.length:=by rw [st.len];exact hlen
 have htk:∀ {n:Nat} {a:Addr},(ad'.take S1.length)[n]?=some a->ad'[n]?=some a:=fun {n a} e=>by
  have hn:=My.za8 e
  rw [List.length_take] at hn
  rw [List.getElem?_take_of_lt (by omega)] at e
  exact e
 have w1:Wd ad H (ad'.take S1.length) H':=by
  refine⟨?_,w.keep,w.tup,w.frz,fun b m n=>w.new b (List.mem_of_mem_take m) n⟩
  obtain⟨t,rfl⟩:=w.pre
  rw [List.take_append,List.take_of_length_le had]
  exact List.prefix_append _ _
 refine k d S1 v H' _ q w1 ⟨st.wd.trans w1,by rw [List.length_take,st'.len];omega,st'.nd.sublist (List.take_sublist _ _),fun n a c e1 e2=>?_⟩ ?_
 ·have e1':=htk e1
  have ok:=st'.cell n a c e1' (zkt pre e2)
  rcases hc n c e2 with h | h
  ·obtain⟨a0,ea,ok0⟩:=st.get h
   cases c with
   | ins c fs =>
    obtain⟨C,dx,vs,hv,c1,c2,rv,hn⟩:=ok
    obtain⟨_,_,us,_,_,_,ru,_⟩:=ok0
    exact⟨C,dx,vs,hv,c1,c2,zaX.low had ru rv,hn⟩
   | dk kvs =>
    obtain⟨vs,hv,rv⟩:=ok
    obtain⟨us,hu,ru⟩:=ok0
    exact⟨vs,hv,RelK.low had ru rv⟩
   | dt kvs =>
    obtain⟨vs,hv,rv⟩:=ok
    obtain⟨us,hu,ru⟩:=ok0
    exact⟨vs,hv,zdE.low had ru rv⟩
   | lst xs =>
    obtain⟨vs,hv,rv⟩:=ok
    obtain⟨us,hu,ru⟩:=ok0
    exact⟨vs,hv,zK.low had ru rv⟩
  ·cases c with
   | ins c fs=>cases h
   | dk _=>cases h
   | dt _=>cases h
   | lst xs =>
    obtain⟨vs,hv,rv⟩:=ok
    exact⟨vs,hv,zK.cut 20 _ _ h rv⟩
 ·rcases hd with h | ⟨n,rfl,hn⟩
  ·exact Rel.cut 20 _ _ h r
  ·cases r with
   | ref e=>exact .ref (by rw [List.getElem?_take_of_lt hn];exact e)
omit B in
theorem zV {P:Program}{w:World}{K:PySem.W.Frag}{mg:Str->Option Value}{base:Heap}{x qual:Str}{st:Stmt}{f:Addr}{fd:FuncData}{N ps:List Str}{k:Nat}{sp:DSp}{b:DS}(F:Fun K x qual st f fd)(S:zQ N ps (zJ st))
  (len:∀ ds So Q,sp ds So Q->ds.length=ps.length) (body:BodyOk N.length b sp)
  (term:∀ (cdv:Value) (A:Around) (outer:List Env) (s:Shared) (H:Hp) (E:XK),zaO k (A.deeper (envOfC qual (zJ st) s.heap.objs.size f cdv))->∀ [Bs],zf0 (zf5 CX0 P w K mg base N qual (zJ st) f cdv A outer s H E).nox (zbf st) b) :
  zab P w K mg base CX0 (k+1) f fd ps (upF K sp):=by
 with_unfolding_all
  refine F.ok S (fun vs H Q E ⟨ad,So,ds,Q0,so,r,hf,kk⟩=>by rw [<- r.length];exact len ds So Q0 hf) fun cdv A outer s H vs Q E hr ⟨ad,So,ds,Q0,so,r,hf,kk⟩=>?_
  letI:Bs:=⟨ad,H⟩
  refine⟨_,term cdv A outer s H E hr,ad,zeO N.length ds,So,_,so,zmj N r,body ds So Q0 hf,⟨fun Z S' U H' ad' q w' st' rh=>zjM so kk .non S' .non H' ad' q w' st' .non,zjM so kk,fun _ _ _ _ _ q=>q.elim,fun _ _ _ _ _ q=>q.elim⟩⟩
omit B in
theorem zvy {K:PySem.W.Frag}{H:Hp}{a:Addr}{ns:List Int}(hl:ns.length<=63)(hg:∀ n∈ns,Hg n)(hO:Only H)(hS:SqL K H a (ns.map V.int)):upF K zfz [.ref a] H (fun v _=>v=.bl true) fun _ _ _=>False:=by
 have hr:zi6 K H a (ns.map V.int):=by
  rcases hS with (h | h) | h
  ·rcases hO a with e | ⟨o,xs,e⟩
   ·rw [h] at e;cases e
   ·rw [h] at e;cases e
  ·exact .inl h
  ·exact .inr h
 refine⟨[],[],[.rl (ns.map D.int)],fun d _=>d=.bl true,@zU.mk ⟨[],H⟩ _ _ _ _ Wd.refl rfl List.nodup_nil (fun n a c e=>by simp at e),.cons (.rl hr (zK.mk_ints ns)) .nil,⟨ns,rfl,⟨rfl,hg⟩,hl,fun _=>rfl⟩,fun d S' v H' ad' q w st' r=>?_⟩
 have q':d=.bl true:=q
 subst q'
 cases r
 rfl
omit B in
theorem zma:∀ {ns:List Int} {n:Int},n∈ns->PySem.W.WData.weight (.int n)<=PySem.W.WData.weightAll (ns.map PySem.W.WData.int)
 | m::ns,n,h=>by
  rw [List.map_cons,PySem.W.WData.weightAll]
  rcases qh.mp h with rfl | h
  ·omega
  ·have:=zma h;omega
omit B in
theorem zq2 {l:PySem.W.OpenLaw}{n k:Nat}{q:Program}{loose:List Str}{XP:(Str->Option Value)->Heap->Prop}{YP:World->Heap->Prop}{d:DefRec}{K:Params->PySem.W.Frag}{sp:World->Sp}{x:Str}
  (hn:l.most=some n) (hn2:n<=sizeLine) (hdf:d.params.defaults=[]) (hr:zaO k callerA) (hY:∀ (w:World) (h:Heap),YP w h->(K w.params).In h)
  (F:∀ (w:World) (mg:Str->Option Value) (fa:Addr) (h:Heap),(K w.params).In h->h.Ns mainGlobals mg->mg d.name=some (.ref fa) ->
   ∃ fd:FuncData,(∀ (s:Shared) (u:Value),BindsTo s fd ⟨[u],[]⟩ [(x,u)])/\∀ base:Heap,(K w.params).In base->base.Ns mainGlobals mg->zab l.prog w (K w.params) mg base CX0 k fa fd [x] (sp w))
  (hsp:∀ (w:World) (H:Hp) (a:Addr) (ns:List Int),ns.length<=n->(∀ m∈ns,Hg m)->Only H->SqL (K w.params) H a (ns.map V.int)->sp w [.ref a] H (fun v _=>v=.bl true) fun _ _ _=>False) :
  PySem.W.WalkO q loose XP YP l.row.toRowW d [] (fun f vs=>PySem.call f vs):=by
 intro w s₀ s₁ mg mb G Y fa o pm cd doc dV kV ho hd hcd hD hmg hg args vals as hpre hlay hrd hwl hlo
 obtain rfl:dV=.none:=PySem.W.Dflts.none hD hdf
 obtain rfl:kV=.none:=PySem.W.Dflts.noKw hD
 obtain⟨a,vs,ns,rfl,rfl,hobj,hints,hlen⟩:=Att.zqm hn hpre hwl
 have hbits:∀ m∈ns,Hg m:=fun m hm=>by
  have h1:PySem.W.WData.layable (.list (ns.map .int))=true:=by simpa [PySem.W.WData.layableAll] using hlay
  have h2:PySem.W.WData.weight (.list (ns.map PySem.W.WData.int))<=2 ^ 20:=by
   unfold PySem.W.WData.layable at h1
   rw [Bool.and_eq_true,decide_eq_true_eq] at h1
   exact h1.2
  have h3:=Nat.le_trans (zma hm) (by simpa only [PySem.W.WData.weight] using h2)
  exact zs4 (by simpa only [PySem.W.WData.weight,Builtin.Int.intBits] using h3)
 have KX:=hY w _ Y
 obtain⟨fd,hb,hF⟩:=F w mg fa _ KX G.T.g hmg
 refine PySem.W.enter_call (codeAny_mono (zrn KX G.T.g G.T.b G.T.builtins G.T.nolimit hg hobj hints (Nat.le_trans hlen hn2) hr hF hb (fun H hO hS=>hsp w H a ns hlen hbits hO hS) fun _ _ _ z=>z) fun r s' hq=>?_)
 obtain⟨rfl,h2,h3,h4⟩:=hq
 exact⟨.inl ⟨.bool true,.bool true,[],rfl,fun _=>rfl,.bool true,Att.zqe l _,fun _=>⟨List.Pairwise.nil,fun _ hm=>(nomatch hm)⟩⟩,h2,h3,h4⟩
omit B in
theorem zso {us:List Value}(hl:us.length=1):∃ a0,us=[a0]:=by
  cases us with
  | nil=>simp at hl
  | cons a0 us =>
  cases us with
  | nil=>exact⟨a0,rfl⟩
  | cons b us=>simp at hl
omit B in
theorem zoc {us:List Value}(hl:us.length=2):∃ a0 a1,us=[a0,a1]:=by
  cases us with
  | nil=>simp at hl
  | cons a0 us =>
  cases us with
  | nil=>simp at hl
  | cons a1 us =>
  cases us with
  | nil=>exact⟨a0,a1,rfl⟩
  | cons b us=>simp at hl
omit B in
theorem zsq {us:List Value}(hl:us.length=3):∃ a0 a1 a2,us=[a0,a1,a2]:=by
  cases us with
  | nil=>simp at hl
  | cons a0 us =>
  cases us with
  | nil=>simp at hl
  | cons a1 us =>
  cases us with
  | nil=>simp at hl
  | cons a2 us =>
  cases us with
  | nil=>exact⟨a0,a1,a2,rfl⟩
  | cons b us=>simp at hl
omit B in
theorem zsm {us:List Value}(hl:us.length=4):∃ a0 a1 a2 a3,us=[a0,a1,a2,a3]:=by
  cases us with
  | nil=>simp at hl
  | cons a0 us =>
  cases us with
  | nil=>simp at hl
  | cons a1 us =>
  cases us with
  | nil=>simp at hl
  | cons a2 us =>
  cases us with
  | nil=>simp at hl
  | cons a3 us =>
  cases us with
  | nil=>exact⟨a0,a1,a2,a3,rfl⟩
  | cons b us=>simp at hl
omit B in
theorem zsb {us:List Value}(hl:us.length=5):∃ a0 a1 a2 a3 a4,us=[a0,a1,a2,a3,a4]:=by
  cases us with
  | nil=>simp at hl
  | cons a0 us =>
  cases us with
  | nil=>simp at hl
  | cons a1 us =>
  cases us with
  | nil=>simp at hl
  | cons a2 us =>
  cases us with
  | nil=>simp at hl
  | cons a3 us =>
  cases us with
  | nil=>simp at hl
  | cons a4 us =>
  cases us with
  | nil=>exact⟨a0,a1,a2,a3,a4,rfl⟩
  | cons b us=>simp at hl
omit B in
theorem zwM {us:List Value}(hl:us.length=8):∃ a0 a1 a2 a3 a4 a5 a6 a7,us=[a0,a1,a2,a3,a4,a5,a6,a7]:=by
  cases us with
  | nil=>simp at hl
  | cons a0 us =>
  cases us with
  | nil=>simp at hl
  | cons a1 us =>
  cases us with
  | nil=>simp at hl
  | cons a2 us =>
  cases us with
  | nil=>simp at hl
  | cons a3 us =>
  cases us with
  | nil=>simp at hl
  | cons a4 us =>
  cases us with
  | nil=>simp at hl
  | cons a5 us =>
  cases us with
  | nil=>simp at hl
  | cons a6 us =>
  cases us with
  | nil=>simp at hl
  | cons a7 us =>
  cases us with
  | nil=>exact⟨a0,a1,a2,a3,a4,a5,a6,a7,rfl⟩
  | cons b us=>simp at hl
end Dp
namespace Dp
open PySem PySem.Spec PyProof.Rows L2 My
variable [B:Bs]
section
variable {X:Cx}
theorem ztn {K:PySem.W.Frag}{ad:List Addr}{H:Hp}{a:Addr}{x:D}{ds:List D}(r:Rel K ad H x (.ref a)):zgB K ad H ⟨zdc 0 ds,fun S=>Lst S x ds⟩ (Ite K a) where
 go:=fun ad1 H1 S i w st ok hi=>by
  obtain⟨a',vs,e,s,rs⟩:=Lst.sq st ok (r.wd w)
  cases e
  have hi':i<ds.length:=by rw [<- zcZ 0 ds];exact hi
  exact⟨vs,vs[i]'(by rw [<- rs.length];exact hi'),s,qb _⟩
 yld:=fun ad1 H1 S i d y H' w st ok hd ⟨p,ey,hp,he⟩=>by
  obtain⟨a',vs,e,s,rs⟩:=Lst.sq st ok (r.wd w)
  cases e
  obtain⟨z,hz,rfl⟩:=zfX hd
  obtain⟨v,ev,rv⟩:=rs.get hz
  rw [he vs v s ev,ey]
  refine⟨Wd.laid hp,st.laid hp,.tup zaW (.cons ?_ (.cons (rv.wd (Wd.laid hp)) .nil))⟩
  rw [Nat.zero_add];exact .int _
 stop:=fun ad1 H1 S w st ok=>by
  obtain⟨a',vs,e,s,rs⟩:=Lst.sq st ok (r.wd w)
  cases e
  exact⟨vs,s,by show _<=(zdc 0 ds).length;rw [zcZ,rs.length];exact qf _⟩
theorem zqP {K:PySem.W.Frag}{ad:List Addr}{H:Hp}{a:Addr}{vs:List V}{ds:List D}(h:H a=some (.tup vs))(r:zK K ad H ds vs):zgB K ad H ⟨zdc 0 ds,fun _=>True⟩ (zrf K a) where
 go:=fun ad1 H1 S i w st _ hi=>by
  have hi':i<ds.length:=by rw [<- zcZ 0 ds];exact hi
  exact⟨vs,vs[i]'(by rw [<- r.length];exact hi'),SqT.of (w.tup _ _ h),qb _⟩
 yld:=fun ad1 H1 S i d y H' w st _ hd ⟨p,ey,hp,he⟩=>by
  obtain⟨z,hz,rfl⟩:=zfX hd
  obtain⟨v,ev,rv⟩:=r.get hz
  rw [he vs v (SqT.of (w.tup _ _ h)) ev,ey]
  refine⟨Wd.laid hp,st.laid hp,.tup zaW (.cons ?_ (.cons ((rv.wd w).wd (Wd.laid hp)) .nil))⟩
  rw [Nat.zero_add];exact .int _
 stop:=fun ad1 H1 S w st _=>⟨vs,SqT.of (w.tup _ _ h),by show _<=(zdc 0 ds).length;rw [zcZ,r.length];exact qf _⟩
theorem zmt {es:List Expr}{kk:Nat}{tpos:Pos}{a:Expr}{t:DA}{p pos:Pos}(hg:Gl X "enumerate")(hm:X.mg "enumerate"=none)(ha:PAD X [a] t)(hs:starEach [a] X.env=[(false,eval a X.env)]:=by exact zdH rfl) :
  PID X (.Tuple es kk tpos) (.Call (.Name "enumerate" p) [a] [] pos) (Dp.zoO t):=by with_unfolding_all exact (zih (zrE hg hm ha hs) fun U H R hh=>el8 hh fun ad Z S R0 st rh q k =>
 ⟨ad,Z,S,_,st,rh,q,fun ds S1 vs H1 ad1 q0 w1 st1 r1=>by
  rcases q0 with ⟨x,xs,ed,hx,q1⟩ | ⟨xs,ed,q1⟩
  ·subst ed
   obtain⟨v,rfl,rv⟩:=zbM r1
   obtain⟨b,ws,rfl,s,rs⟩:=hx.sq st1 rv
   exact⟨b,rfl,.inl ⟨⟨ws,s⟩,k _ S1 _ H1 ad1 q1 w1 st1 (ztn rv)⟩⟩
  ·subst ed
   obtain⟨v,rfl,rv⟩:=zbM r1
   cases rv with
   | tup h r=>exact⟨_,rfl,.inr ⟨⟨_,SqT.of h⟩,k _ S1 _ H1 ad1 q1 w1 st1 (zqP h r)⟩⟩⟩)
theorem zuJ {K:PySem.W.Frag}{ad:List Addr}{H:Hp}{a b:Addr}{x y:D}{ds es:List D}(r:Rel K ad H x (.ref a))(r2:Rel K ad H y (.ref b)):zgB K ad H ⟨zcs ds es,fun S=>Lst S x ds/\Lst S y es⟩ (zoR K true true a b) where
 go:=fun ad1 H1 S i w st ok hi=>by
  obtain⟨a',vs,e,s,rs⟩:=Lst.sq st ok.1 (r.wd w)
  obtain⟨b',us,e',s',rs'⟩:=Lst.sq st ok.2 (r2.wd w)
  cases e
  cases e'
  have hi':i<min ds.length es.length:=by rw [<- zeu ds es];exact hi
  exact⟨vs,us,vs[i]'(by rw [<- rs.length];omega),us[i]'(by rw [<- rs'.length];omega),s,s',qb _,qb _⟩
 yld:=fun ad1 H1 S i d z H' w st ok hd ⟨p,ey,hp,he⟩=>by
  obtain⟨a',vs,e,s,rs⟩:=Lst.sq st ok.1 (r.wd w)
  obtain⟨b',us,e',s',rs'⟩:=Lst.sq st ok.2 (r2.wd w)
  cases e
  cases e'
  obtain⟨u1,u2,h1,h2,rfl⟩:=zhc hd
  obtain⟨v,ev,rv⟩:=rs.get h1
  obtain⟨u,eu,ru⟩:=rs'.get h2
  rw [he vs us v u s s' ev eu,ey]
  exact⟨Wd.laid hp,st.laid hp,.tup zaW (.cons (rv.wd (Wd.laid hp)) (.cons (ru.wd (Wd.laid hp)) .nil))⟩
 stop:=fun ad1 H1 S w st ok=>by
  obtain⟨a',vs,e,s,rs⟩:=Lst.sq st ok.1 (r.wd w)
  obtain⟨b',us,e',s',rs'⟩:=Lst.sq st ok.2 (r2.wd w)
  cases e
  cases e'
  refine⟨vs,us,s,s',?_⟩
  show vs.length<=(zcs ds es).length\/us.length<=(zcs ds es).length
  rw [zeu,rs.length,rs'.length];omega
theorem ztD {K:PySem.W.Frag}{ad:List Addr}{H:Hp}{a b:Addr}{vs us:List V}{ds es:List D}(h:H a=some (.tup vs))(r:zK K ad H ds vs)(h2:H b=some (.tup us))(r2:zK K ad H es us):zgB K ad H ⟨zcs ds es,fun _=>True⟩ (zoR K false false a b) where
 go:=fun ad1 H1 S i w st _ hi=>by
  have hi':i<min ds.length es.length:=by rw [<- zeu ds es];exact hi
  exact⟨vs,us,vs[i]'(by rw [<- r.length];omega),us[i]'(by rw [<- r2.length];omega),SqT.of (w.tup _ _ h),SqT.of (w.tup _ _ h2),qb _,qb _⟩
 yld:=fun ad1 H1 S i d z H' w st _ hd ⟨p,ey,hp,he⟩=>by
  obtain⟨u1,u2,h1,h2',rfl⟩:=zhc hd
  obtain⟨v,ev,rv⟩:=r.get h1
  obtain⟨u,eu,ru⟩:=r2.get h2'
  rw [he vs us v u (SqT.of (w.tup _ _ h)) (SqT.of (w.tup _ _ h2)) ev eu,ey]
  exact⟨Wd.laid hp,st.laid hp,.tup zaW (.cons ((rv.wd w).wd (Wd.laid hp)) (.cons ((ru.wd w).wd (Wd.laid hp)) .nil))⟩
 stop:=fun ad1 H1 S w st _=>by
  refine⟨vs,us,SqT.of (w.tup _ _ h),SqT.of (w.tup _ _ h2),?_⟩
  show vs.length<=(zcs ds es).length\/us.length<=(zcs ds es).length
  rw [zeu,r.length,r2.length];omega
theorem zu2 {es:List Expr}{kk:Nat}{tpos:Pos}{a b:Expr}{t:DA}{p pos:Pos}(hg:Gl X "zip")(hm:X.mg "zip"=none)(ha:PAD X [a,b] t)(hs:starEach [a,b] X.env=[(false,eval a X.env),(false,eval b X.env)]:=by exact ziY rfl rfl)(hs2:starEach [b] X.env=[(false,eval b X.env)]:=by exact zdH rfl) :
  PID X (.Tuple es kk tpos) (.Call (.Name "zip" p) [a,b] [] pos) (Dp.zrL t):=by with_unfolding_all exact (zih (ztf hg hm ha hs hs2) fun U H R hh=>el8 hh fun ad Z S R0 st rh q k =>
 ⟨ad,Z,S,_,st,rh,q,fun ds S1 vs H1 ad1 q0 w1 st1 r1=>by
  rcases q0 with ⟨x,y,xs,ys,ed,hx,hy,q1⟩ | ⟨xs,ys,ed,q1⟩
  ·subst ed
   obtain⟨v,u,rfl,rv,ru⟩:=zgN r1
   obtain⟨b1,ws,rfl,s,rs⟩:=hx.sq st1 rv
   obtain⟨b2,ws2,rfl,s2,rs2⟩:=hy.sq st1 ru
   exact⟨true,b1,b2,rfl,⟨ws,s⟩,⟨ws2,s2⟩,k _ S1 _ H1 ad1 q1 w1 st1 (zuJ rv ru)⟩
  ·subst ed
   obtain⟨v,u,rfl,rv,ru⟩:=zgN r1
   cases rv with
   | tup h r =>
    cases ru with
    | tup h2 r2=>exact⟨false,_,_,rfl,⟨_,SqT.of h⟩,⟨_,SqT.of h2⟩,k _ S1 _ H1 ad1 q1 w1 st1 (ztD h r h2 r2)⟩⟩)
end
section
variable {X:Cx}{a b:Expr}{ta tb:DE}{pos:Pos}
theorem zlG (x:D)(hx:fl 20 x=true):∀ ys:List D,ys.all (fl 20)=true->((zay ys).any fun z=>PyData.eqv z (pyD x))=ys.any fun z=>eqv z x
 | [],_=>rfl
 | y::ys,h=>by
  rw [List.all_cons,Bool.and_eq_true] at h
  show (PyData.eqv (pyD y) (pyD x)||(zay ys).any fun z=>PyData.eqv z (pyD x))=_
  rw [zjC 20 y x h.1 hx,zlG x hx ys h.2]
  rfl
def zui (X:Cx)(g:Bool->Bool):R2:=fun x y H Q=>∃ ad S dx dy b,zU X.K ad H S/\Rel X.K ad H dx x/\Rel X.K ad H dy y/\InD S dx dy b/\Q (.bl (g b)) H
theorem zkJ {pins:List (Addr×Obj)}{U:L2.St}{H:Hp}{s:Shared}{ad:List Addr}{S:Sto}{dx dy:D}{x y:V}{v u:Value}{b:Bool}(I:Inv X pins U H s)(st:zU X.K ad H S)(rx:Rel X.K ad H dx x)(ry:Rel X.K ad H dy y)(qx:RelV x v)(qy:RelV y u)(h:InD S dx dy b) :
  ∃ pd ps as bs,Reads s.heap v pd as/\(Reads s.heap u (.list ps) bs\/Reads s.heap u (.tuple ps) bs)/\pd.canLay0=true/\PyData.canLayAll0 ps=true/\min (PyData.depthAll ps) pd.depth<=60/\(ps.any fun z=>PyData.eqv z pd)=b:=by
 obtain⟨ys,hy,fx,fy,rfl⟩:=h
 obtain⟨as,ra⟩:=zb4 I 20 dx x v fx rx qx
 obtain⟨c1,d1⟩:=zfD 20 dx fx
 obtain⟨c2,d2⟩:=zdu 20 ys fy
 rcases hy with rfl | hy
 ·obtain⟨bs,rb⟩:=zb4 I 21 (.tup ys) y u fy ry qy
  exact⟨pyD dx,zay ys,as,bs,ra,.inr rb,c1,c2,by omega,zlG dx fx ys fy⟩
 ·obtain⟨a2,vs2,rfl,s2,r2⟩:=hy.sq st ry
  cases qy
  obtain⟨its2,rv2,ht2,hz2⟩:=I.list s2
  obtain⟨o2,ho2,hc2,n2,hd2⟩:=ht2.isList
  obtain⟨bs,rb⟩:=zeo I 20 (zb4 I 20) _ _ _ fy r2 rv2
  exact⟨pyD dx,zay ys,as,_,ra,.inl (.list ho2 hc2 hd2 (by simpa using rb)),c1,c2,by omega,zlG dx fx ys fy⟩
theorem zwG {k:Nat}(hr:zaO k X.A):OC X .In oIn:=⟨_,(OpR.or (r:=zui X id) (fun pins s U H x y v u Q I qx qy ⟨ad,S,dx,dy,b,st,rx,ry,h,q⟩=>by
  obtain⟨pd,ps,as,bs,ra,rb,c1,c2,hd,e⟩:=zkJ I st rx ry qx qy h
  have hu:=hr.units
  rcases rb with rb | rb
  ·exact PySem.SeqAt.in_list_reads rb ra c2 c1 (by omega) ⟨.bl _,H,I,by rw [e];rfl,q⟩
  ·exact PySem.SeqAt.in_tuple_reads rb ra c2 c1 (by omega) ⟨.bl _,H,I,by rw [e];rfl,q⟩) zpt),
 fun ad H S x y v u Q0 Q st rx ry h k=>by
  rcases h with ⟨b,h,q⟩ | ⟨c,z,rfl,rfl,q⟩
  ·exact .inl ⟨ad,S,x,y,b,st,rx,ry,h,k _ S _ H ad q Wd.refl st (.bl _)⟩
  ·cases rx
   cases ry
   exact .inr ⟨_,z,rfl,rfl,by rw [PySem.StrLaws.found_one];exact k _ S _ H ad q Wd.refl st (.bl _)⟩⟩
theorem zgH {k:Nat}(hr:zaO k X.A):OC X .NotIn zgl:=⟨_,(OpR.or (r:=zui X (!·)) (fun pins s U H x y v u Q I qx qy ⟨ad,S,dx,dy,b,st,rx,ry,h,q⟩=>by
  obtain⟨pd,ps,as,bs,ra,rb,c1,c2,hd,e⟩:=zkJ I st rx ry qx qy h
  have hu:=hr.units
  rcases rb with rb | rb
  ·exact PySem.SeqAt.notIn_list_reads rb ra c2 c1 (by omega) ⟨.bl _,H,I,by rw [e];rfl,q⟩
  ·exact PySem.SeqAt.notIn_tuple_reads rb ra c2 c1 (by omega) ⟨.bl _,H,I,by rw [e];rfl,q⟩) zlF),
 fun ad H S x y v u Q0 Q st rx ry h k=>by
  rcases h with ⟨b,h,q⟩ | ⟨c,z,rfl,rfl,q⟩
  ·exact .inl ⟨ad,S,x,y,b,st,rx,ry,h,k _ S _ H ad q Wd.refl st (.bl _)⟩
  ·cases rx
   cases ry
   exact .inr ⟨_,z,rfl,rfl,by rw [PySem.StrLaws.found_one];exact k _ S _ H ad q Wd.refl st (.bl _)⟩⟩
theorem zsN {op:CmpOp}{r':DR2}(o:OC X op r')(ha:PD X a ta)(hb:PD X b tb)(hm:behindInMarks op b=false:=by with_unfolding_all rfl):PD X (.Compare a [op] [b] pos) (dOp r' ta tb):=by
 with_unfolding_all
  obtain⟨r,ho,od⟩:=o
  exact za7 (zny ho ha hb hm) fun _ _ _=>zik od
theorem ziB {op:CmpOp}{r':DR2}(o:OC X op r')(ha:PD X a ta)(hb:PD X b tb)(hm:behindInMarks op b=false:=by with_unfolding_all rfl):PTD X (.Compare a [op] [b] pos) (dT (dOp r' ta tb)):=by
 with_unfolding_all
  obtain⟨r,ho,od⟩:=o
  refine zgk (znJ ho ha hb hm) fun U H Q hh=>el8 hh fun ad Z S Q0 st rh q k=>?_
  refine zik (Q:=fun x H'=>∃ k,x=.bl k/\Q k H') od ⟨ad,Z,S,_,st,rh,q,fun d S' v H' ad' ⟨b,e,q'⟩ w st' r=>?_⟩
  subst e
  cases r
  exact⟨b,rfl,k b S' H' ad' q' w st'⟩
end
section
variable {X:Cx}
theorem ints_of:∀ {ns:List Int} {its:List Value},Vals (ns.map V.int) its->IntsAre its ns
 | [],_,r=>by cases r;exact .nil
 | n::ns,_,r=>by
  cases r with
  | cons h t =>
   obtain⟨k,rfl⟩:=h
   exact .cons _ _ (ints_of t)
theorem znS:∀ {ns:List Int} {its:List Value},IntsAre its ns->Vals (ns.map V.int) its
 | [],_,r=>by cases r;exact .nil
 | n::ns,_,r=>by
  cases r with
  | cons _ _ t=>exact .cons ⟨_,rfl⟩ (znS t)
def zuD (K:PySem.W.Frag):List V->Hp->VK->Prop:=fun xs H Q=>∃ (p:Addr) (ns:List Int),xs=[.ref p]/\SqL K H p (ns.map V.int)/\ns.length<64/\∀ (l:Addr) (ss:List Int),H l=none->ss.Perm ns->ss.Pairwise (fun a b=>a<=b)->Q (.ref l) (upd H l (.lst (ss.map V.int)))
theorem zmM {K:PySem.W.Frag}(hK:X.K=K):zaI X (.builtin "sorted") (zuD K):=fun pins s U H xs us Q I r h=>by
 subst hK
 obtain⟨p,ns,rfl,hS,h64,q⟩:=h
 obtain⟨u,rfl,ru⟩:=vals1 r
 cases ru
 obtain⟨its,rv,pl,hz⟩:=I.list hS
 have hI:=ints_of rv
 have hlen:=rv.length
 rw [qa] at hlen hz
 refine sorted_ints pl.isList hI (by omega) fun out ss h1 h2 h3=>?_
 obtain⟨e,he⟩:=sortedAll_at s.heap its out
 have hv:=znS h1
 refine⟨.ref (s.heap.objs.size+1),_,I.laid (t':=s.toks) (a:=s.heap.objs.size+1) (o:=.lst (ss.map V.int)) (fun b o q=>sortedAll_old q) (Nat.le_succ _) ⟨?_,out.toList,e,hv,?_⟩,rfl,q _ ss (I.hok.fresh (Nat.le_succ _)) h2 h3⟩
 ·rw [qa,h2.length_eq];exact hz
 ·rw [he]
theorem zr0:BC X (.builtin "sorted") zp1:=⟨_,zmM rfl,fun ad H S ds vs Q0 Q st r ⟨x,ns,e,hx,h64,q⟩ k=>by
 subst e
 obtain⟨v,rfl,rv⟩:=zbM r
 obtain⟨a,ws,rfl,hs,rs⟩:=hx.sq st rv
 cases rs.ints
 exact⟨a,ns,rfl,hs,h64,fun l ss hl hp hw=>zfv st k (zK.mk_ints ss) (q ss hp hw) l hl⟩⟩
theorem ztJ:BC X (.builtin "sorted") zoF:=by
 obtain⟨r1,c1,d1⟩:=zry (X:=X)
 obtain⟨r2,c2,d2⟩:=zr0 (X:=X)
 refine⟨fun xs H Q=>r1 xs H Q\/r2 xs H Q,fun pins s U H xs us Q I r h=>?_,fun ad H S ds vs Q0 Q st r h k=>?_⟩
 ·rcases h with h | h
  ·exact c1 pins s U H xs us Q I r h
  ·exact c2 pins s U H xs us Q I r h
 ·rcases h with h | h
  ·exact .inl (d1 ad H S ds vs Q0 Q st r h k)
  ·exact .inr (d2 ad H S ds vs Q0 Q st r h k)
end
section
variable {X:Cx}{e:Expr}{pos p2 p3:Pos}{lo:Option Expr}
end
theorem zme {K:PySem.W.Frag}{ad:List Addr}{H:Hp}:∀ {zs:List Str} {vs:List V},zK K ad H (zs.map D.str) vs->vs=zs.map V.str
 | [],_,.nil=>rfl
 | z::zs,_,.cons r t=>by cases r;rw [zme t];rfl
theorem zs9 {X:Cx}{a:Expr}{t:DA}{p1 p2 pos1 pos2:Pos}(hgl:Gl X "len")(hml:X.mg "len"=none)(hgr:Gl X "set")(hmr:X.mg "set"=none)(ha:PAD X [a] t)(hc:X.calm=true:=by rfl)
  (hs:starEach [a] X.env=[(false,eval a X.env)]:=by exact zdH rfl)
  (hs3:starEach [.Call (.Name "set" p2) [a] [] pos2] X.env=[(false,eval (.Call (.Name "set" p2) [a] [] pos2) X.env)]:=by rfl) :
  PD X (.Call (.Name "len" p1) [.Call (.Name "set" p2) [a] [] pos2] [] pos1) (dB zom t):=by with_unfolding_all exact (za7 (ztC hc hgl hml hgr hmr ha hs hs3) fun U H Q hh=>el8 hh fun ad Z S Q0 st rh q k =>
  ⟨ad,Z,S,_,st,rh,q,fun ds S1 vs H1 ad1 ⟨x,zs,ed,hx,hl,q1⟩ w1 st1 r1=>by
   subst ed
   obtain⟨v,rfl,rv⟩:=zbM r1
   obtain⟨a1,ws,rfl,hs,rs⟩:=hx.sq st1 rv
   cases zme rs
   exact⟨a1,zs,rfl,hs,hl,k _ S1 _ H1 ad1 q1 w1 st1 (.int _)⟩⟩)
section
variable {X:Cx}{e:Expr}{t:DA}{p pos kp cp:Pos}{j:Nat}
end
section
variable {X:Cx}{e o value:Expr}{te to tv:DE}{f c:Str}{pos pos':Pos}
theorem zbo (he:PD X e te)(hb:attributeBase e f X.env (eval e X.env)=eval e X.env):PD X (.Attribute e f pos) (zct f te):=by with_unfolding_all exact (za7 (zvx he hb) fun U H Q hh=>el8 hh fun ad Z S Q0 st rh q k =>
  ⟨ad,Z,S,_,st,rh,q,fun x S1 v H1 ad1 ⟨n,c,fs,d,ex,hn,hl,q1⟩ w1 st1 r1=>by
   subst ex
   cases r1 with
   | ref en =>
    obtain⟨C,dx,vs,h1,hc,hns,rf,hna⟩:=st1.cell n _ _ en hn
    obtain⟨v,hv,rv⟩:=rf.look hl
    obtain⟨q2,hq2,e2⟩:=zmJ hl
    exact⟨_,C,dx,vs,v,rfl,h1,hc,e2▸hna q2 hq2,hv,k d S1 v H1 ad1 q1 w1 st1 rv⟩⟩)
theorem zdW (hna:∀ C,PySem.W.nsIn X.K mainGlobals c=some (some (.ref C))->zaB X.K C f)(ho:PD X o to)(hv:PD X value tv)(hs:swapsWith value (some (.Attribute o f pos')) pos.line X.env=pure false:=by rfl) :
  PSD X (.Assign [.Attribute o f pos'] value pos) (zeM c f to tv):=by with_unfolding_all exact (zbJ (zu9 ho hv hs) fun E U H hh=>el8 hh fun ad Z S E0 so rh q k =>
 ⟨ad,Z,S,_,so,rh,q,fun y S1 vy H1 ad1 q1 w1 st1 r1=>⟨ad1,Z,S1,_,st1,rh.wd w1,q1,fun x S2 vx H2 ad2 ⟨n,fs,ex,hn,hl,q2⟩ w2 st2 r2=>by
  subst ex
  cases r2 with
  | ref en =>
   obtain⟨C,dx,vs,h1,hc,hns,rf,hna'⟩:=st2.cell n _ _ en hn
   have w3:Wd ad2 H2 ad2 (upd H2 _ (.ins C dx (zb3 f vy vs))):=Wd.putI en h1
   exact⟨_,C,dx,vs,rfl,h1,hc,hna C hns,by rw [<- rf.length];omega,k.nx Z _ U _ ad2 q2 ((w1.trans w2).trans w3) (st2.putI en h1 hc hns rf hna' (hna C hns) (r1.wd w2)) (((rh.wd w1).wd w2).wd w3)⟩⟩⟩)
omit B in
theorem znK {K:PySem.W.Frag}{C:Addr}{c:Str}{init:DSp}(hc:Cls K C)(hn:PySem.W.nsIn K mainGlobals c=some (some (.ref C))):∀ vs H Q,upF K (zo3 c init) vs H Q E0->∀ x dx,H x=none->H dx=none->dx≠x ->
  upF K init (.ref x::vs) (upd (upd H dx (.own x)) x (.ins C dx [])) (fun v H2=>v=.non/\Q (.ref x) H2) E0:=by
 rintro vs H Q ⟨ad,S,ds,Q0,st,r,hf,k⟩ x dx hx hdx hne
 letI:Bs:=⟨ad,H⟩
 obtain⟨w,st'⟩:=st.newI (c:=c) hx hdx hne hc hn
 have rx:Rel K (ad++[x]) (upd (upd H dx (.own x)) x (.ins C dx [])) (.ref S.length) (.ref x):=.ref (by rw [<- st.len,qk (qf _),Nat.sub_self];rfl)
 have hf':init (.ref S.length::ds) (S++[.ins c []]) (fun d S2=>d=.non/\Q0 (.ref S.length) S2):=hf
 refine⟨ad++[x],S++[.ins c []],.ref S.length::ds,_,st'.base,.cons rx (r.wd w),hf',fun d S' v H' ad' q w' st2 rv=>?_⟩
 obtain⟨rfl,q⟩:=q
 cases rv
 exact⟨rfl,k _ S' _ H' ad' q (w.trans w') (st'.back st2) (rx.wd w')⟩
theorem zlx {k j:Nat}{x:Str}{e:Expr}{es:List Expr}{t:DA}{p:Pos}{f:DSp}(G:zkq X.prog X.w X.K X.mg X.base k x (upF X.K f))(hr:zaO j X.A)
  (ha:PAD X (e::es) t) (hk:k+1<=j:=by decide) (hg:Gl X x:=by rfl) (hdb:(x==("__debug__":Str))=false:=by decide) (he:starEach (e::es) X.env=(false,eval e X.env)::starEach es X.env:=by exact zbG rfl) (hpl:(backTo pos (starEach es X.env)).any (·.1)=false:=by exact zdG rfl) :
  PD X (.Call (.Name x p) (e::es) [] pos) (dCall f t):=by with_unfolding_all exact (za7 (zw9 G hr hk hg ha hdb he hpl) fun U H Q hh=>el8 hh fun ad Z S Q0 st rh q k =>
 ⟨ad,Z,S,_,st,rh,q,fun ds S1 vs H1 ad1 q1 w1 st1 r1=>by
  show upF X.K f (vs++[]) H1 Q E0
  rw [List.append_nil];exact⟨ad1,S1,ds,Q0,st1.base,r1,q1,(k.wd w1).base st1⟩⟩)
end
end Dp
namespace Dp
open PySem PySem.Spec PyProof.Rows L2 My
def Fly (h0 h:Heap)(e:Addr)(cls:Value)(H:Hp):Prop:=h0.get? e=none/\H e=none/\∃ (a0:Value) (oe:Obj) (vs:Array Value) (T:Addr) (oT:Obj) (ts:Array Value),h.get? e=some oe/\(oe.cls=cls/\vs[0]?=some a0)/\oe.data=.fields vs/\vs[1]?=some (.ref T)/\h0.get? T=none/\T≠e/\h.get? T=some oT/\oT.data=.fields ts/\ts[3]?=some .none/\H T=none
def CXd (P:Program)(w:World):CXT:=fun outer H s E e s'=>∃ (a C:Addr) (H':Hp),e=.ref a/\s'.os=s.os/\AllBare s'.gens/\Un (frs outer) [] H H' s.heap s'.heap/\HOk P w H' s'.heap/\Fly s.heap s'.heap a (.ref C) H'/\E (.ref C) none H'
def zef (h:Heap)(p:Addr->Bool):Heap:={ h with objs:=h.objs.mapIdx fun i o=>if p i=true then o else { cls:=.none,data:=.freed } }
theorem zfE (h:Heap)(p:Addr->Bool)(b:Addr):(zef h p).get? b=if p b=true then h.get? b else none:=by
  unfold zef Heap.get?
  dsimp only
  rw [Array.getElem?_mapIdx]
  cases h.objs[b]? with
  | none=>cases p b<;>rfl
  | some o=>cases p b<;>rfl
theorem zjy (h:Heap)(p:Addr->Bool):(zef h p).StaysIn h:=fun b o e=>by
 rw [zfE] at e
 split at e
 ·exact e
 ·cases e
theorem zkb {h base base':Heap}:∀ {l:List Env},h.FunFrames base l->(∀ L∈frs l,base'.get? L=none)->h.FunFrames base' l
 | [],_,_=>True.intro
 | env::l,⟨h1,⟨L,o,h2,h3,h4,h5⟩,h6⟩,hb=>⟨h1,⟨L,o,h2,hb L (List.mem_filterMap.mpr ⟨env,by simp,h2⟩),h4,h5⟩,zkb h6 fun L' hL=>hb L' (by
   obtain⟨e',he,e2⟩:=List.mem_filterMap.mp hL
   exact List.mem_filterMap.mpr ⟨e',List.mem_cons_of_mem _ he,e2⟩)⟩
section
variable {X:Cx}{pins:List (Addr×Obj)}{U:L2.St}{H:Hp}{s:Shared}
theorem zpe (I:Inv X pins U H s)(hex:X.ex=[]){b:Addr}{o:Obj}(e:X.s₀.heap.get? b=some o):∃ o',s.heap.get? b=some o':=I.base.there b o e (by rw [hex];simp)
theorem zeS (I:Inv X pins U H s)(hex:X.ex=[]){b:Addr}(e:s.heap.get? b=none):X.s₀.heap.get? b=none:=by
 cases q:X.s₀.heap.get? b with
 | none=>rfl
 | some o=>obtain⟨o',h⟩:=zpe I hex q;rw [e] at h;cases h
theorem zja (I:Inv X pins U H s){b:Addr}(e:s.heap.get? b=none):H b=none:=by
 cases q:H b with
 | none=>rfl
 | some o =>
  have:=(I.hok b o q).lt
  exfalso
  cases o with
  | lst xs=>obtain⟨_,_,_,_,h⟩:=I.hok b _ q;rw [e] at h;cases h
  | tup xs=>obtain⟨_,_,_,ob,h,_⟩:=I.hok b _ q;rw [e] at h;cases h
  | dK kvs=>obtain⟨_,_,_,_,ob,_,_,h,_⟩:=I.hok b _ q;rw [e] at h;cases h
  | dT kvs=>obtain⟨_,_,_,_,ob,_,_,h,_⟩:=I.hok b _ q;rw [e] at h;cases h
  | set S n=>obtain⟨ob,_,_,_,h,_⟩:=I.hok b _ q;rw [e] at h;cases h
  | ins C dx fs=>obtain⟨_,_,_,h,_⟩:=I.hok b _ q;rw [e] at h;cases h
  | own y=>obtain⟨_,h⟩:=I.hok b _ q;rw [e] at h;cases h
  | xd fs=>obtain⟨_,⟨_,_,_,h,_⟩,_⟩:=I.hok b _ q;rw [e] at h;cases h
  | rng lo hi=>obtain⟨_,_,_,h⟩:=I.hok b _ q;rw [e] at h;cases h
  | frz ob u=>obtain⟨h,_⟩:=I.hok b _ q;rw [e] at h;cases h
  | tbl ps=>have h:s.heap.get? b=some _:=I.hok b _ q;rw [e] at h;cases h
  | met f y=>have h:s.heap.get? b=some _:=I.hok b _ q;rw [e] at h;cases h
  | ext φ=>obtain⟨_,⟨_,h⟩,_⟩:=I.hok b _ q;rw [e] at h;cases h
theorem zkx (I:Inv X pins U H s)(hex:X.ex=[])(hst:X.stack=X.env::X.outer)(hfr:X.env.frame=some X.env.locals){e T0:Addr}{h':Heap}(he:X.s₀.heap.get? e=none)(hT:X.s₀.heap.get? T0=none)(He:H e=none)(HT:H T0=none)
  (hk:∀ b o,s.heap.get? b=some o->b≠e->b≠T0->b∉frs X.stack->h'.get? b=some o) (hs:∀ b∈frs X.stack,∀ o,s.heap.get? b=some o->∃ sl,h'.get? b=some { o with slots:=sl }) :
  Un X.fs [] X.H₀ H X.s₀.heap h'/\HOk X.prog X.w H h':=by
 have nfr:∀ {b:Addr} {o:Obj},X.s₀.heap.get? b=some o->b∉X.fs->b∉frs X.stack:=fun {b o} q n m=>by
  rw [hst] at m
  obtain⟨e',h1,h2⟩:=List.mem_filterMap.mp m
  rcases qh.mp h1 with rfl | h1
  ·rw [hfr] at h2
   cases h2
   exact absurd (Heap.lt_size q) (Nat.not_lt.mpr I.ok.above)
  ·exact n (List.mem_filterMap.mpr ⟨e',h1,h2⟩)
 have sub:∀ {b:Addr},b∈X.fs->b∈frs X.stack:=fun {b} m=>by
  obtain⟨e',h1,h2⟩:=List.mem_filterMap.mp m
  rw [hst]
  exact List.mem_filterMap.mpr ⟨e',List.mem_cons_of_mem _ h1,h2⟩
 have nex:∀ b:Addr,b∉X.ex:=fun b=>by rw [hex];simp
 have ne:∀ {b:Addr} {o:Obj},X.s₀.heap.get? b=some o->b≠e/\b≠T0:=fun {b o} q=>⟨fun z=>(by rw [z,he] at q;cases q),fun z=>(by rw [z,hT] at q;cases q)⟩
 have ub:=I.base
 refine⟨⟨fun b o q n m _=>?_,fun b o q n m _=>?_,fun b o q n _=>ub.free b o q n (nex b),fun b o q _=>?_,ub.tups,ub.frzs,ub.tbls⟩,fun a o q=>?_⟩
 ·exact hk b o (ub.keep b o q n m (nex b)) (ne q).1 (ne q).2 (nfr q m)
 ·obtain⟨sl,h1⟩:=ub.slot b o q n m (nex b)
  obtain⟨sl',h2⟩:=hs b (sub m) _ h1
  exact⟨sl',h2⟩
 ·obtain⟨o',h1⟩:=ub.there b o q (nex b)
  by_cases m:b∈frs X.stack
  ·obtain⟨sl,h2⟩:=hs b m o' h1
   exact⟨_,h2⟩
  ·exact⟨o',hk b o' h1 (ne q).1 (ne q).2 m⟩
 ·have inn:∀ {b:Addr},H b≠none->b≠e/\b≠T0/\b∉frs X.stack:=fun {b} n=>⟨fun z=>n (by rw [z];exact He),fun z=>n (by rw [z];exact HT),fun z=>n (I.stkFree b z)⟩
  refine (I.hok a o q).stay (fun b u hb r=>?_) (fun _ r=>r) fun _ _ r=>r
  have n:H b≠none:=by
   rcases hb with rfl | hb
   ·rw [q];exact Option.some_ne_none _
   ·rw [hb];exact Option.some_ne_none _
  obtain⟨n1,n2,n3⟩:=inn n
  exact hk b u r n1 n2 n3
theorem zpC (I:Inv X pins U H s)(hex:X.ex=[])(hst:X.stack=X.env::X.outer)(hfr:X.env.frame=some X.env.locals){e C:Addr}{E:Value->Shared->Prop}{Q:Unit->Shared->Prop}(F:Fly X.s₀.heap s.heap e (.ref C) H)
  (hQ:∀ s':Shared,s'.os=X.s₀.os->AllBare s'.gens->Un X.fs [] X.H₀ H X.s₀.heap s'.heap->HOk X.prog X.w H s'.heap->Fly X.s₀.heap s'.heap e (.ref C) H->Q () s'):wpAny (model X.prog X.w) X.A (leaving X.env (.ref e)) Q E s:=by
 obtain⟨he,He,a0,oe,vs,T,oT,ts,f1,f2,f3,f4,f5,f6,f7,f8,f9,HT⟩:=F
 have ff:s.heap.FunFrames X.base X.stack:=I.stack
 obtain⟨p,hp⟩:∃ p:Addr->Bool,∀ b,p b=true↔b≠e/\b≠T/\b∉frs X.stack:=⟨fun b=>decide (b≠e/\b≠T/\b∉frs X.stack),fun b=>decide_eq_true_iff⟩
 have mno:∀ {b:Addr},¬ (b≠e/\b≠T/\b∉frs X.stack)->(zef s.heap p).get? b=none:=fun {b} n=>by
  rw [zfE,if_neg (fun z=>n ((hp b).mp z))]
 have myes:∀ {b:Addr} {o:Obj},s.heap.get? b=some o->b≠e->b≠T->b∉frs X.stack->(zef s.heap p).get? b=some o:=fun {b o} q n1 n2 n3=>by
  rw [zfE,if_pos ((hp b).mpr ⟨n1,n2,n3⟩)];exact q
 have fb:s.heap.FunFrames (zef s.heap p) X.stack:=zkb ff fun L hL=>mno fun z=>z.2.2 hL
 have fl:Heap.FlyingW (zef s.heap p) X.stack e (.ref C) a0 s.heap:=⟨zjy _ _,mno fun z=>z.1 rfl,fb,oe,vs,T,oT,ts,f1,f2,f3,f4,mno fun z=>z.2.1 rfl,f6,f7,f8,f9⟩
 have fr:=I.ok.frames
 rw [hst] at fr
 rw [hst] at fl
 refine wpAny_leaves_onW fr hfr fl fun h' ⟨k1,k2,k3,oe',vs',T',oT',ts',g1,g2,g3,g4,g5,g6,g7,g8,g9⟩ us=>?_
 have hs:∀ b∈frs X.stack,∀ o,s.heap.get? b=some o->∃ sl,h'.get? b=some { o with slots:=sl }:=fun b hb o q=>by
  obtain⟨_,o',h1,h2⟩:=ff.mem hb
  rw [q] at h1;cases h1
  exact us b o q h2
 have hk:∀ b o,s.heap.get? b=some o->b≠e->b≠T->b∉frs X.stack->h'.get? b=some o:=fun b o q n1 n2 n3=>k1 b o (myes q n1 n2 n3)
 obtain⟨u1,u2⟩:=zkx I hex hst hfr he f5 He HT hk hs
 have nT:X.s₀.heap.get? T'=none/\H T'=none:=by
  by_cases z1:T'=T
  ·rw [z1];exact⟨f5,HT⟩
  ·by_cases z2:T'∈frs X.stack
   ·exfalso
    obtain⟨_,o',h1,h2⟩:=ff.mem z2
    obtain⟨sl,h3⟩:=hs T' z2 o' h1
    rw [g7] at h3;cases h3
    exact h2 ts' g8
   ·have:s.heap.get? T'=none:=by
     cases q:s.heap.get? T' with
     | none=>rfl
     | some o=>rw [myes q g6 z1 z2] at g5;cases g5
    exact⟨zeS I hex this,zja I this⟩
 exact hQ _ I.os I.bare u1 u2 ⟨he,He,a0,oe',vs',T',oT',ts',g1,g2,g3,g4,nT.1,g6,g7,g8,g9,nT.2⟩
theorem zoe (I:Inv X pins U H s)(hex:X.ex=[])(hst:X.stack=X.env::X.outer)(hfr:X.env.frame=some X.env.locals){e C:Addr}{args:List Value}{h1:Heap}{E:Value->Shared->Prop}{Q:Unit->Shared->Prop}(hx:s.heap.MadeExcOf h1 e (.ref C) args)
  (hQ:∀ s':Shared,s'.os=X.s₀.os->AllBare s'.gens->Un X.fs [] X.H₀ H X.s₀.heap s'.heap->HOk X.prog X.w H s'.heap->Fly X.s₀.heap s'.heap e (.ref C) H->Q () s'):wpAny (model X.prog X.w) X.A (leaving X.env (.ref e)) Q E { s with heap:=h1 }:=by
 have ff:s.heap.FunFrames X.base X.stack:=I.stack
 obtain⟨p,hp⟩:∃ p:Addr->Bool,∀ b,p b=true↔b∉frs X.stack:=⟨fun b=>decide (b∉frs X.stack),fun b=>decide_eq_true_iff⟩
 have mno:∀ {b:Addr},b∈frs X.stack->(zef s.heap p).get? b=none:=fun {b} n=>by
  rw [zfE,if_neg (fun z=>(hp b).mp z n)]
 have myes:∀ {b:Addr} {o:Obj},s.heap.get? b=some o->b∉frs X.stack->(zef s.heap p).get? b=some o:=fun {b o} q n3=>by
  rw [zfE,if_pos ((hp b).mpr n3)];exact q
 have fb:s.heap.FunFrames (zef s.heap p) X.stack:=zkb ff fun L hL=>mno hL
 have fr:=I.ok.frames
 rw [hst] at fr
 rw [hst] at fb
 refine wpAny_leaves_madeW (base:=zef s.heap p) (h:=s.heap) fr hfr (zjy _ _) fb hx fun h' t ⟨k1,k2,k3,oe',vs',T',oT',ts',g1,g2,g3,g4,g5,g6,g7,g8,g9⟩ _ _ us=>?_
 have us':s.heap.UpToSlots h':=fun b o q n=>us b o (hx.keeps b o q) n
 have hs:∀ b∈frs X.stack,∀ o,s.heap.get? b=some o->∃ sl,h'.get? b=some { o with slots:=sl }:=fun b hb o q=>by
  obtain⟨_,o',h1,h2⟩:=ff.mem hb
  rw [q] at h1;cases h1
  exact us' b o q h2
 have hk:∀ b o,s.heap.get? b=some o->b≠e->b≠e->b∉frs X.stack->h'.get? b=some o:=fun b o q _ _ n3=>k1 b o (myes q n3)
 have he:=zeS I hex hx.new
 have He:=zja I hx.new
 obtain⟨u1,u2⟩:=zkx I hex hst hfr he he He He hk hs
 have nT:X.s₀.heap.get? T'=none/\H T'=none:=by
  by_cases z2:T'∈frs X.stack
  ·exfalso
   obtain⟨_,o',h1,h2⟩:=ff.mem z2
   obtain⟨sl,h3⟩:=hs T' z2 o' h1
   rw [g7] at h3;cases h3
   exact h2 ts' g8
  ·have:s.heap.get? T'=none:=by
    cases q:s.heap.get? T' with
    | none=>rfl
    | some o=>rw [myes q z2] at g5;cases g5
   exact⟨zeS I hex this,zja I this⟩
 exact hQ _ I.os I.bare u1 u2 ⟨he,He,_,oe',vs',T',oT',ts',g1,g2,g3,g4,nT.1,g6,g7,g8,g9,nT.2⟩
end
def zcW (K:PySem.W.Frag)(f:zep):Sp:=fun vs H Q E=>∃ ad S ds Q0 X0,@zU ⟨ad,H⟩ K ad H S/\zK K ad H ds vs/\f ds S Q0 X0/\@KK ⟨ad,H⟩ K ad H Q0 Q /\
 ∀ (c:Str) (C:Addr) (S':Sto) (ad':List Addr) (H':Hp),X0 c S'->@zU ⟨ad,H⟩ K ad' H' S'->PySem.W.nsIn K mainGlobals c=some (some (.ref C))->E (.ref C) none H'
structure zgO (P:Program)(w:World)(K:PySem.W.Frag)(mg:Str->Option Value)(base:Heap)(k:Nat)(x:Str)(ps:List Str)(sp:Sp):Prop where
 ex:∃ f fd,zab P w K mg base (CXd P w) k f fd ps sp/\Binds K fd ps []/\PySem.W.keepIn K (.ref f)=true/\mg x=some (.ref f)
def XOk [B:Bs](X:Cx)(ex:XR):Prop:=∀ (pins:List (Addr×Obj)) (U:L2.St) (H:Hp) (s s':Shared) (ad ad':List Addr) (Z:Rho) (S S':Sto) (c:Str) (C a:Addr) (H':Hp),Inv X pins U H s->zU X.K ad H S->zaK X.K ad H Z U->ex Z c S'->zU X.K ad' H' S'->Wd ad H ad' H' ->
 PySem.W.nsIn X.K mainGlobals c=some (some (.ref C))->s'.os=s.os->AllBare s'.gens->Un (frs X.stack) [] H H' s.heap s'.heap->HOk X.prog X.w H' s'.heap->Fly s.heap s'.heap a (.ref C) H'->X.xe (.ref a) s'
def XMk [B:Bs](X:Cx)(ex:XR):Prop:=∀ (pins:List (Addr×Obj)) (U:L2.St) (H:Hp) (s:Shared) (ad:List Addr) (Z:Rho) (S:Sto) (c:Str) (C e:Addr) (args:List Value) (h1:Heap),Inv X pins U H s->zU X.K ad H S->zaK X.K ad H Z U->ex Z c S ->
 PySem.W.nsIn X.K mainGlobals c=some (some (.ref C))->s.heap.MadeExcOf h1 e (.ref C) args->X.xe (.ref e) { s with heap:=h1 }
section
variable [B:Bs]{X:Cx}
theorem zck {k j:Nat}{x:Str}{ps:List Str}{f:zep}{ex:XR}{p pos:Pos}{e:Expr}{es:List Expr}{t:DA}(G:zgO X.prog X.w X.K X.mg X.base k x ps (zcW X.K f))(hX:XOk X ex)(hr:zaO j X.A)
  (ha:PAD X (e::es) t) (hk:k<=j:=by decide) (hg:Gl X x:=by rfl) (hdb:(x==("__debug__":Str))=false:=by decide) (he:starEach (e::es) X.env=(false,eval e X.env)::starEach es X.env:=by exact zbG rfl) (hpl:(backTo pos (starEach es X.env)).any (·.1)=false:=by exact zdG rfl) :
  PD X (.Call (.Name x p) (e::es) [] pos) (zc4 f ex t):=by
 with_unfolding_all
  intro pins s U H Q I h
  obtain⟨ad,Z,S,Q0,st,rh,q,kk⟩:=h
  obtain⟨fa,fd,F,b,kp,m⟩:=G.ex
  have F:=F.mono hk
  refine wpAny_Call_Name_kw (zgh I hg m ?_ hdb)
  have hA:=ha pos pins s U H (fun vs H1=>∃ ds S1 ad1,f ds S1 Q0 (ex Z)/\Wd ad H ad1 H1/\zU X.K ad1 H1 S1/\zK X.K ad1 H1 ds vs) I ⟨ad,Z,S,_,st,rh,q,fun ds S1 vs H1 ad1 q1 w1 st1 r1=>⟨ds,S1,ad1,q1,w1,st1,r1⟩⟩
  refine PySem.W.callWith_K (h₀:=X.base) I.ok.mod.kin kp (thn hA fun us s1 ⟨vs,H1,I1,r,q1⟩=>⟨I1.kIn,?_⟩) he hpl
  obtain⟨ds,S1,ad1,q1,w1,st1,r1⟩:=q1
  have hsp:zcW X.K f vs H1 Q (fun cls _ H'=>∃ c C S' ad',cls=Value.ref C/\ex Z c S'/\zU X.K ad' H' S'/\Wd ad1 H1 ad' H'/\PySem.W.nsIn X.K mainGlobals c=some (some (.ref C))) :=
   ⟨ad1,S1,ds,Q0,ex Z,st1.base,r1,q1,(kk.wd w1).base st1,fun c C S' ad' H' hx st' hn=>⟨c,C,S',ad',rfl,hx,st1.back st',@zU.wd ⟨ad1,H1⟩ _ _ _ _ st',hn⟩⟩
  have hl:us.length=ps.length:=by rw [<- r.length];exact F.len _ _ _ _ hsp
  refine wpAny_call (codeAny_mono (F.run X.A X.stack s1 H1 ⟨us,[]⟩ us vs Q _ hr I1.env0 (by have:=b s1 us I1.kIn (by rw [List.append_nil];exact hl);rwa [List.append_nil] at this) r hsp) fun res s' hq=>?_)
  cases res with
  | error e =>
   obtain⟨a,C,H',rfl,os,bare,un,hok,fly,c,C',S',ad',hC,hx,st',wd',hn⟩:=hq
   cases hC
   exact hX pins U H1 s1 s' ad1 ad' Z S1 S' c C a H' I1 st1 (rh.wd w1) hx st' wd' hn os bare un hok fly
  | ok fl =>
   cases fl with
   | ret u=>exact I1.after hq
   | next=>exact False.elim hq
   | brk=>exact False.elim hq
   | cont=>exact False.elim hq
theorem zjv:XOk X xF:=fun _ _ _ _ _ _ _ _ _ _ _ _ _ _ _ _ _ h=>h.elim
structure ExC (K:PySem.W.Frag)(C:Addr):Prop where
 ex:∃ nm q N bs bm hdct sn sub ab col dd k0 k1 k2 k3 k5,K.lookup C=some (excClassObj nm q C N bs bm hdct sn sub ab col dd k0 k1 k2 k3 k5 "ValueError.__new__")/\PySem.W.nsOkIn K N=true/\PySem.W.nsIn K N "__init__"=some none /\
  PySem.W.tailIn K [.type "ValueError",.type "Exception",.type "BaseException",.type "object"] bm=true
theorem zeV {x:Str}{ex:XR}{np cpos pos:Pos}{e:Expr}{t:DA}(hX:XMk X ex)(hc:X.calm=true)(hC:∀ C,PySem.W.nsIn X.K mainGlobals x=some (some (.ref C))->ExC X.K C)(hx:∃ C,PySem.W.nsIn X.K mainGlobals x=some (some (.ref C))/\X.mg x=some (.ref C))(hg:Gl X x)
  (ha:PAD X [e] t) (ht:∀ Z S Q,(∀ d,Q [d] S)->t Z S Q) (hdb:(x==("__debug__":Str))=false:=by decide) (he:starEach [e] X.env=(false,eval e X.env)::starEach [] X.env:=by rfl) :
  PSD X (.Raise (some (.Call (.Name x np) [e] [] cpos)) none pos) (zfC ex x):=by
 with_unfolding_all
  intro pins s U H D I h
  obtain⟨ad,Z,S,E0,st,rh,q,k⟩:=h
  obtain⟨C,hn,hm⟩:=hx
  obtain⟨nm,qn,N,bs,bm,hdct,sn,sub,ab,col,dd,k0,k1,k2,k3,k5,lk,no,ni,tl⟩:=(hC C hn).ex
  have kin:=I.kIn
  have T:=PySem.W.tail_of_in kin tl
  have hv:=ha cpos pins s U H (fun vs H1=>vs.length=1/\∃ ad1,Wd ad H ad1 H1/\zU X.K ad1 H1 S) I ⟨ad,Z,S,fun ds S'=>ds.length=1/\S'=S,st,rh,ht _ _ _ (fun d=>⟨rfl,rfl⟩),fun ds S' vs H' ad' e' w' st' r'=>⟨by rw [<- r'.length];exact e'.1,ad',w',e'.2▸st'⟩⟩
  refine wpAny_Raise_call_subT (C:=C) (nm:=nm) (q:=qn) (N:=N) (bs:=bs) (bm:=bm) (hdct:=hdct) (sn:=sn) (sub:=sub) (ab:=ab) (col:=col) (dd:=dd) (k0:=k0) (k1:=k1) (k2:=k2) (k3:=k3) (k5:=k5) PySem.F.excBase_ValueError (T.hasType PySem.F.excBase_ValueError.hasBase) (I.ok.hd hc) (by rw [he];rfl) (PySem.W.nsMap_none_of_in I.ok.mod.kin no ni) (zgh I hg hm ⟨rfl,?_⟩ hdb)
  rw [he] at hv ⊢
  refine Calls.evalArgs_plain (wpAny_mono hv (fun us s1 hq=>?_) fun _ _ y=>y)
  obtain⟨vs,H1,I1,r,hl,ad1,w1,st1⟩:=hq
  have k1':=I1.kIn
  have hlen:us.length<=sizeLine:=by rw [<- r.length,hl];decide
  exact⟨rfl,hlen,k1' _ _ lk,(Heap.Ns.of_isNs (PySem.W.isNs_of_in I.ok.mod.kin no)).keeps I1.bk,PySem.W.tail_of_in k1' tl,fun h' e' hx=>hX pins U H1 s1 ad1 Z S x C e' us h' I1 st1 (rh.wd w1) q hn hx⟩
omit B in
theorem zdO {P:Program}{w:World}{K:PySem.W.Frag}{mg:Str->Option Value}{base:Heap}{x qual:Str}{st:Stmt}{f:Addr}{fd:FuncData}{N ps:List Str}{k:Nat}{sp:zep}{b:XR->DS}(F:Fun K x qual st f fd)(S:zQ N ps (zJ st))
  (len:∀ ds So Q ex,sp ds So Q ex->ds.length=ps.length) (body:zdY N.length b sp)
  (term:∀ (cdv:Value) (A:Around) (outer:List Env) (s:Shared) (H:Hp) (E:XK),zaO k (A.deeper (envOfC qual (zJ st) s.heap.objs.size f cdv))->∀ [Bs] (ex:XR),XOk (zf5 (CXd P w) P w K mg base N qual (zJ st) f cdv A outer s H E) ex->XMk (zf5 (CXd P w) P w K mg base N qual (zJ st) f cdv A outer s H E) ex->zf0 (zf5 (CXd P w) P w K mg base N qual (zJ st) f cdv A outer s H E) (zbf st) (b ex)) :
  zab P w K mg base (CXd P w) (k+1) f fd ps (zcW K sp):=by
 with_unfolding_all
  obtain⟨oc,od,kV,doc,pm,an,cdv,ct,osl,rfl,lk,hcd⟩:=F.ex
  refine zr8 lk hcd S (fun vs H Q E ⟨ad,So,ds,Q0,X0,so,r,hf,kk,kx⟩=>by rw [<- r.length];exact len ds So Q0 X0 hf) fun A outer s H vs Q E hr ⟨ad,So,ds,Q0,X0,so,r,hf,kk,kx⟩=>?_
  letI:Bs:=⟨ad,H⟩
  have end1:∀ (c:Str) (C a:Addr) (S':Sto) (ad':List Addr) (H':Hp) (s':Shared),X0 c S'->zU K ad' H' S'->PySem.W.nsIn K mainGlobals c=some (some (.ref C))->s'.os=s.os->AllBare s'.gens->Un (frs outer) [] H H' s.heap s'.heap->HOk P w H' s'.heap->Fly s.heap s'.heap a (.ref C) H'->CXd P w outer H s E (.ref a) s' :=
   fun c C a S' ad' H' s' hx st' hn o1 o2 o3 o4 o5=>⟨a,C,H',rfl,o1,o2,o3,o4,o5,kx c C S' ad' H' hx st' hn⟩
  refine⟨_,term cdv A outer s H E hr (fun _=>X0) ?_ ?_,ad,zeO N.length ds,So,_,so,zmj N r,body ds So Q0 X0 hf,⟨fun Z S' U H' ad' q w' st' rh=>zjM so kk .non S' .non H' ad' q w' st' .non,zjM so kk,fun _ _ _ _ _ q=>q.elim,fun _ _ _ _ _ q=>q.elim⟩⟩
  ·intro pins U H1 s1 s' ad1 ad' Z S1 S' c C a H' I st1 rh hx st' wd' hn os bare un hok fly
   have I':=I.call' (ch:=[]) os un hok bare (fun b z=>absurd z (by simp))
   have f0:Fly s.heap s'.heap a (.ref C) H':=by
    obtain⟨g1,g2,a0,oe,vs,T,oT,ts,h1,h2,h3,h4,h5,h6⟩:=fly
    exact⟨zeS I rfl g1,g2,a0,oe,vs,T,oT,ts,h1,h2,h3,h4,zeS I rfl h5,h6⟩
   exact zpC I' rfl rfl rfl f0 fun s'' o1 o2 o3 o4 o5=>end1 c C a S' ad' H' s'' hx st' hn o1 o2 o3 o4 o5
  ·intro pins U H1 s1 ad1 Z S1 c C e args h1 I st1 rh hx hn hmade
   exact zoe I rfl rfl rfl hmade fun s'' o1 o2 o3 o4 o5=>end1 c C e S1 ad1 H1 s'' hx st1 hn o1 o2 o3 o4 o5
end
section
variable {X:Cx}{pins:List (Addr×Obj)}{U:L2.St}{H H':Hp}{s s':Shared}
variable [B:Bs]
end
section
open PySem.W PySem.Builtin PySem.Builtin.ObjectAttr PySem.Builtin.Getset_descriptor
variable {prog:Program}{w:World}{A:Around}{E:Value->Shared->Prop}{s:Shared}{K:Frag}{x C:Addr}{o:Obj}
end
section
variable [B:Bs]{X:Cx}
end
def zlq (K:PySem.W.Frag)(C:Addr):Bool:=match K.lookup C with
 | some ⟨.type "type",_,.cls cd,sl⟩=>(match cd.mro,sl.toList with
  | .ref C'::bm,[_,_,_,_,some (.builtin n),_]=>C'==C&&!cd.hasDel&&n=="ValueError.__new__"&&PySem.W.nsOkIn K cd.ns&&PySem.W.nsIn K cd.ns "__init__"==some none&&PySem.W.tailIn K [.type "ValueError",.type "Exception",.type "BaseException",.type "object"] bm
  | _,_=>false)
 | _=>false
theorem ExC.of {K:PySem.W.Frag}{C:Addr}(q:zlq K C=true):ExC K C:=by
 unfold zlq at q
 split at q
 ·rename_i dd cd sl ho
  split at q
  ·rename_i C' bm k0 k1 k2 k3 n k5 hm hs
   simp only [Bool.and_eq_true,beq_iff_eq,Bool.not_eq_true'] at q
   obtain⟨⟨⟨⟨⟨rfl,hdel⟩,rfl⟩,h1⟩,h2⟩,h3⟩:=q
   obtain⟨nm,bs,mro,ns,qn,hd,sn,sub,ab,col,del⟩:=cd
   dsimp only at hm hdel
   subst hm hdel
   have hsl:sl=#[k0,k1,k2,k3,some (.builtin "ValueError.__new__"),k5]:=by
    obtain⟨l⟩:=sl
    simp only at hs
    rw [hs]
   subst hsl
   exact⟨nm,qn,ns,bs,bm,hd,sn,sub,ab,col,dd,k0,k1,k2,k3,k5,ho,h1,h2,h3⟩
  ·cases q
 ·cases q
section
variable {X:Cx}[B:Bs]
theorem zkE:∀ {ds:List D} {j:Nat} {d:D},ds[j]?=some d->(zay ds)[j]?=some (pyD d)
 | [],_,_,h=>by simp at h
 | x::xs,0,d,h=>by
  have:x=d:=by simpa using h
  subst this;rfl
 | x::xs,j+1,d,h=>by
  show (zay xs)[j]?=_
  exact zkE (by simpa using h)
def zt1 (X:Cx):V->List V->Hp->VK->Prop:=fun x vs H Q=>∃ l ws y ad ds d,∃ j:Nat,∃ e,x=.ref l/\vs=[y]/\H l=some (.lst ws)/\zK X.K ad H ds ws/\Rel X.K ad H d y/\ds.all (fl 20)=true/\fl 20 d=true/\ds[j]?=some e/\eqv e d=true/\(∀ (m:Nat) e',m<j->ds[m]?=some e'->eqv e' d=false)/\Q (.int (j:Nat)) H
theorem zrN {k:Nat}(hr:zaO k X.A):MtR X "list.index" (zt1 X):=by
 intro pins s U H x vs v us Q I rx rv h
 obtain⟨l,ws,y,ad,ds,d,j,e,rfl,rfl,hH,r,ry,fds,fd,hj,he,hno,q⟩:=h
 cases rx
 obtain⟨u,rfl,ru⟩:=rv.one
 obtain⟨hz,its,n,rr,hl,ho⟩:=I.lstM hH
 obtain⟨as,ra⟩:=zeo I 20 (zb4 I 20) _ _ _ fds r rr
 obtain⟨bs,rb⟩:=zb4 I 20 d y u fd ry ru
 obtain⟨c1,d1⟩:=zdu 20 ds fds
 obtain⟨c2,d2⟩:=zfD 20 d fd
 have hlen:=r.length
 have hu:=hr.units
 have hjl:j<its.length:=by
  have:=My.za8 hj
  omega
 have hm:=SeqAt.readsAll_map (zay ds) _ _ c1 ra
 have rd:∀ (m:Nat) (hm':m<its.length) e',ds[m]?=some e'->PyData.eqv (SeqAt.readOf s.heap its[m]) (pyD d)=eqv e' d:=fun m hm' e' h'=>by
  have h1:(its.map (SeqAt.readOf s.heap))[m]?=some (pyD e'):=by rw [hm];exact zkE h'
  rw [qg,qb hm'] at h1
  have h2:SeqAt.readOf s.heap its[m]=pyD e':=by simpa using h1
  rw [h2]
  have fe:fl 20 e'=true:=List.all_eq_true.mp fds e' (qd h')
  exact zjC 20 e' d fe fd
 refine call_meets F.slot_list_index ⟨_,ho,rfl⟩ F.entry_list_index (F.args_list_index_2 _ _)
  (SeqAt.list_indexAt l its.toArray n none #[] u (fun z=>PyData.eqv (SeqAt.readOf s.heap z) (pyD d)) j (by rw [qi];exact hjl) (by rw [sizeLine_eq] at hz;omega) ?_ ?_) ⟨ho,SeqAt.items_eqAt (vs:=its.toArray) (by simpa using ra) rb c1 c2 ?_,?_⟩
 ·exact (rd j hjl e hj).trans he
 ·intro m hm1 hm2
  have hm3:m<its.length:=by simpa using hm1
  have hml:m<ds.length:=by omega
  exact (rd m hm3 _ (qb hml)).trans (hno m _ hm2 (qb hml))
 ·show X.A.units+1+min (PyData.depthAll (zay ds)) (pyD d).depth<cLine
  omega
 ·exact⟨.int (j:Nat),H,I.tok _,⟨_,rfl⟩,q⟩
theorem zlu {k:Nat}(hr:zaO k X.A):MD X "list.index" zh1:=⟨_,zrN hr,fun ad H S x ds v vs Q0 Q st rx r ⟨n,xs,y,j,e,ex,ey,hn,f,g,hl,hj,h1,h2,q⟩ kk=>by
 subst ex ey
 obtain⟨u,rfl,ru⟩:=zbM r
 cases rx with
 | ref ea =>
  obtain⟨ws,hw,rw⟩:=st.cell n _ _ ea hn
  exact⟨_,ws,u,ad,xs,y,j,e,rfl,rfl,hw,rw,ru,f,g,hj,h1,h2,kk _ S _ H ad q Wd.refl st (.int _)⟩⟩
theorem zK.upto {K:PySem.W.Frag}{ad:List Addr}{H:Hp}(i:Int)(n:Nat):zK K ad H (upto i n) (((List.range n).map fun k:Nat=>i+(k:Int)).map V.int):=by
 unfold Dp.upto
 rw [List.map_map]
 induction List.range n with
 | nil=>exact .nil
 | cons k ks ih=>exact .cons (.int _) ih
theorem zsG {a b:Expr}{t:DA}{p1 p2 pos1 pos2:Pos}(hgl:Gl X "list")(hml:X.mg "list"=none)(hgr:Gl X "range")(hmr:X.mg "range"=none)(ha:PAD X [a,b] t)(hc:X.calm=true:=by rfl)(h1:isStar a=false:=by rfl)(h2:isStar b=false:=by rfl) :
  PD X (.Call (.Name "list" p1) [.Call (.Name "range" p2) [a,b] [] pos2] [] pos1) (dB zov t):=by with_unfolding_all exact (za7 (zob hc hgl hml hgr hmr ha (ziY h1 h2) (zdH h2)) fun U H Q hh=>el8 hh fun ad Z S Q0 st rh q k =>
 ⟨ad,Z,S,_,st,rh,q,fun ds S1 vs H1 ad1 ⟨i,j,e,hl,q1⟩ w1 st1 r1=>by
  subst e
  obtain⟨u,w,rfl,ru,rw'⟩:=zgN r1
  cases ru
  cases rw'
  exact⟨i,j,rfl,hl,fun l hl'=>zfv st1 (k.wd w1) (zK.upto i _) q1 l hl'⟩⟩)
end
section
variable {K:PySem.W.Frag}{ad:List Addr}{H:Hp}{S:Sto}[B:Bs]
end
section
variable {X:Cx}{a b c:Expr}{td ti tz tv:DE}{pos apos cpos:Pos}[B:Bs]
end
structure FH (K:PySem.W.Frag)(n:Str)(st:Stmt)(f:Addr)(fd:FuncData):Prop where
 a:PySem.W.nsIn K mainGlobals n=some (some (.ref f))
 F:Fun K n n st f fd
section
variable {K:PySem.W.Frag}{n:Str}{st:Stmt}{f:Addr}{fd:FuncData}{mg:Str->Option Value}{k:Nat}{h:Heap}{ps:List Str}{sp:Sp}
theorem zwK {oc:Value}{od an:Option Addr}{osl:Array (Option Value)}{kV doc pm cdv ct:Value}(a:PySem.W.nsIn K mainGlobals n=some (some (.ref f)))
  (l:K.lookup f=some ⟨oc,od,.func (PySem.W.fnOf n n (zbP st) (zbf st) (zJ st) .none kV doc pm an cdv ct),osl⟩) (c:PySem.W.codeIn K cdv n=true) (k:PySem.W.keepIn K (.ref f)=true) :
  FH K n st f (PySem.W.fnOf n n (zbP st) (zbf st) (zJ st) .none kV doc pm an cdv ct):=⟨a,zjT l c k⟩
theorem zac (P:Program)(w:World)(base:Heap)(X:K.In h)(G:h.Ns mainGlobals mg)(H:FH K n st f fd)(ok:zab P w K mg base CX0 k f fd ps sp)
  (b:∀ (kV doc pm:Value) (an:Option Addr) (cdv ct:Value) (us:List Value),us.length=ps.length->bindArgs (PySem.W.fnOf n n (zbP st) (zbf st) (zJ st) .none kV doc pm an cdv ct) ⟨us,[]⟩=pure (ps.zip us):=by intro _ _ _ _ _ _ us hl;first | (obtain⟨_,e⟩:=zso hl;subst e;rfl) | (obtain⟨_,_,e⟩:=zoc hl;subst e;rfl) | (obtain⟨_,_,_,e⟩:=zsq hl;subst e;rfl) | (obtain⟨_,_,_,_,e⟩:=zsm hl;subst e;rfl) | (obtain⟨_,_,_,_,_,e⟩:=zsb hl;subst e;rfl) | (obtain⟨_,_,_,_,_,_,e⟩:=len_6 hl;subst e;rfl) | (obtain⟨_,_,_,_,_,_,_,e⟩:=len_7 hl;subst e;rfl)):Got P w K mg base k n ps sp:=⟨⟨f,fd,ok,H.F.binds b,H.F.kp,PySem.W.mg_of X G H.a⟩⟩
theorem zez (P:Program)(w:World)(base:Heap)(X:K.In h)(G:h.Ns mainGlobals mg)(H:FH K n st f fd)(ok:zab P w K mg base (CXd P w) k f fd ps sp)
  (b:∀ (kV doc pm:Value) (an:Option Addr) (cdv ct:Value) (us:List Value),us.length=ps.length->bindArgs (PySem.W.fnOf n n (zbP st) (zbf st) (zJ st) .none kV doc pm an cdv ct) ⟨us,[]⟩=pure (ps.zip us):=by intro _ _ _ _ _ _ us hl;first | (obtain⟨_,e⟩:=zso hl;subst e;rfl) | (obtain⟨_,_,e⟩:=zoc hl;subst e;rfl) | (obtain⟨_,_,_,e⟩:=zsq hl;subst e;rfl) | (obtain⟨_,_,_,_,e⟩:=zsm hl;subst e;rfl) | (obtain⟨_,_,_,_,_,e⟩:=zsb hl;subst e;rfl) | (obtain⟨_,_,_,_,_,_,e⟩:=len_6 hl;subst e;rfl) | (obtain⟨_,_,_,_,_,_,_,e⟩:=len_7 hl;subst e;rfl)):zgO P w K mg base k n ps sp:=⟨⟨f,fd,ok,H.F.binds b,H.F.kp,PySem.W.mg_of X G H.a⟩⟩
end
section
variable {X:Cx}
theorem zj [B:Bs](i:Nat){x:Str}{pos:Pos}(hN:X.N[i]?=some x:=by rfl)(hv:L2.Vis X.env.scope x:=by first | exact Or.inl rfl | exact Or.inr (Or.inl rfl) | exact Or.inr (Or.inr rfl))(hd:(x==("__debug__":Str))=false:=by decide)(hcd:(x==("__classdict__":Str))=false:=by decide):PD X (.Name x pos) (zf i):=by with_unfolding_all exact (zuu (zvD hN hv hd hcd))
theorem zX {N P:List Str}{sc:Scope}(h1:sc.kind=.function:=by rfl)(h2:sc.isCoroutine=false:=by rfl)(h3:sc.isGenerator=false:=by rfl)(h4:N.Nodup:=by decide +kernel)(h5:N.take P.length=P:=by rfl)(h6:∀ x∈P,sc.names.lookup x=some .local\/sc.names.lookup x=some .cell:=by decide +kernel)(h7:∀ y∈sc.names,y.2≠.free:=by decide +kernel):zQ N P sc:=⟨h1,h2,h3,h4,h5,h6,h7⟩
end
section
variable {X:Cx}{a b c:Expr}{ta tb:DE}{td ti tz tv:DE}{pos apos cpos:Pos}[B:Bs]
end
section
variable {X:Cx}{a b:Expr}{ta tb:DE}{pos apos cpos:Pos}[B:Bs]
end
section
variable {X:Cx}{a b:Expr}{ta tb:DE}{pos apos cpos:Pos}[B:Bs]
end
end Dp
open PySem Dp
local macro_rules | `(tactic| walk_at "dat")=>`(tactic| first | assumption | exact zaU | exact znw | (refine (zbk _ _ _).trans ?_;exact rfl) | exact zal (by assumption))
local macro_rules | `(tactic| walk_at "dlat")=>`(tactic| first | assumption | exact Lst.rl | exact Lst.at0 | exact Lst.new | (refine Lst.at ?_;exact rfl) | exact Lst.old (by assumption) | exact Lst.here (by assumption) | exact Lst.here (zal (by assumption)))
local macro_rules | `(tactic| walk_at "dseq")=>`(tactic| first | exact Or.inl rfl | (refine Or.inr ?_;walk_at "dlat"))
local macro_rules | `(tactic| walk_at "dbd")=>`(tactic| first | assumption | exact My.Bd.mono (by assumption) (by decide) | exact My.Bd.lit (by decide) (by decide) | (refine My.Bd.add ?_ ?_<;>walk_at "dbd") | (refine My.Bd.sub ?_ ?_<;>walk_at "dbd") | (refine My.Bd.neg ?_;walk_at "dbd") | (refine My.Bd.mulH ?_ ?_<;>walk_at "dbd") | (refine My.Bd.emod (by omega) ?_;walk_at "dbd") | (refine My.Bd.ediv ?_;walk_at "dbd"))
local macro_rules | `(tactic| walk_at "dmul")=>`(tactic| first | assumption | exact Or.inr (Or.inl (by omega)) | exact Or.inr (Or.inr (by omega)) | exact Or.inl ⟨by walk_at "dbd",by walk_at "dbd"⟩)
local macro_rules | `(tactic| walk_at "ddiv")=>`(tactic| first | assumption | exact⟨by omega,by walk_at "dbd"⟩)
local macro_rules | `(tactic| walk_at "dr1")=>`(tactic| with_reducible first|refine zvc ?_|refine zuH ?_|refine zv4 ?_|refine zwp ?_|refine zxC ?_)
local macro_rules | `(tactic| walk_at "dr1")=>`(tactic| first|((with_reducible refine zwe (xs:=?rvx) ?rvl ?_);(case rvl=>walk_at "dlat")))
local macro_rules | `(tactic| walk_at "dr1")=>`(tactic| with_reducible first|refine zol ?_|refine zq3 ?_|refine zws ?_|refine zwQ ?_|refine zw8 ?_|refine zqv ?_|refine zuy ?_|refine zwI ?_|refine zxf ?_)
local macro_rules | `(tactic| walk_at "dr1")=>`(tactic| first|((with_reducible refine zuS (xs:=?rvx) ?rvl ?_);(case rvl=>walk_at "dlat"))|((with_reducible refine zv5 (a:=?rvv) ?rvk ?_);(case rvk=>exact rfl))|((with_reducible refine zr1 (xs:=?rvx) ?rvk ?rvl ?_);(case rvk=>walk_at "dat");(case rvl=>first | exact Nat.lt_of_ble_eq_true rfl | assumption | (simp only [big,qe,List.length_cons,List.length_nil,qa] at *;omega))))
local macro_rules | `(tactic| walk_at "dr1")=>`(tactic| with_reducible first|refine zuc ?_|refine zqy ?_|refine zuv ?_|refine zvX ?_|refine ztR ?_|refine zsn ?_|refine zxN ?_|refine zvP ?_|refine zuq ?_|refine zul ?_)
local macro_rules | `(tactic| walk_at "dr1")=>`(tactic| first|((with_reducible refine zvj ?rvk ?_);(case rvk=>exact rfl)))
local macro_rules | `(tactic| walk_at "dr1")=>`(tactic| with_reducible first|refine zk7 ?_|refine zj6 ?_|refine zk9 ?_|refine zjt ?_|refine zv1 ?_|refine zsU ?_)
local macro_rules | `(tactic| walk_at "dr1")=>`(tactic| first|((with_reducible refine zri (xs:=?rvx) ?rvl ?_);(case rvl=>walk_at "dlat"))|((with_reducible refine ztz (xs:=?rvx) ?rvl ?_);(case rvl=>walk_at "dlat")))
local macro_rules | `(tactic| walk_at "dr1")=>`(tactic| with_reducible first|refine zvB ?_)
local macro_rules | `(tactic| walk_at "dr1")=>`(tactic| first|((with_reducible refine zuP (xs:=?rvx) ?rvl ?_);(case rvl=>walk_at "dlat")))
local macro_rules | `(tactic| walk_at "dr1")=>`(tactic| with_reducible first|refine zvM ?_|refine zv0 ?_)
local macro_rules | `(tactic| walk_at "dr1")=>`(tactic| with_reducible first|refine zwo ?_|refine zw3 ?_|refine zxa ?_|refine zwX ?_|refine zwd ?_|refine zig ?_|refine zsA ?_|refine zqu ?_|refine zvq ?_|refine zsz ?_|refine zwY ?_|refine zu4 ?_)
local macro_rules | `(tactic| walk_at "dr1")=>`(tactic| first|((with_reducible refine zxk (ys:=?rvx) ?rvk ?_);(case rvk=>walk_at "dat")))
local macro_rules | `(tactic| walk_at "dr1")=>`(tactic| with_reducible first|refine zvK ?_|refine ztv ?_|refine r_b ?_|refine r_m ?_)
local macro_rules | `(tactic| walk_at "dr1")=>`(tactic| first|((with_reducible refine zr7 ?rvk ?_);(case rvk=>exact rfl)))
local macro_rules | `(tactic| walk_at "dr1")=>`(tactic| with_reducible first|refine zsr ?_|refine zsx ?_)
local macro_rules | `(tactic| walk_at "dr1")=>`(tactic| with_reducible first|refine r_t ?_|refine zxZ ?_|refine zxl ?_|refine zwq ?_|refine zxI ?_|refine zxe ?_|refine zwJ ?_|refine zvv ?_|refine zvF ?_|refine ztI ?_|refine zse ?_|refine zmE ?_)
local macro_rules | `(tactic| walk_at "dr1")=>`(tactic| first|((with_reducible refine zw1 ?rvk ?_);(case rvk=>walk_at "dmul"))|((with_reducible refine zwc ?rvk ?_);(case rvk=>walk_at "ddiv"))|((with_reducible refine zwZ ?rvk ?_);(case rvk=>first | omega | assumption))|((with_reducible refine zwi (d:=?rvv) ?rvk ?_);(case rvk=>first | assumption | exact rfl))|((with_reducible refine zlj (xs:=?rvx) (d:=?rvv) ?rvl ?rvk ?_);(case rvl=>walk_at "dlat");(case rvk=>first | assumption | exact rfl)))
local macro_rules | `(tactic| walk_at "dr1")=>`(tactic| with_reducible first|refine zwA ?_)
local macro_rules | `(tactic| walk_at "dr1")=>`(tactic| with_reducible first|refine r_c ?_|refine zn6 ?_|refine zxy ?_|refine zwD ?_|refine zwP ?_|refine zwE ?_|refine zxB ?_|refine zyf ?_|refine zx0 ?_|refine zx8 ?_|refine zv6 ?_|refine zv9 ?_)
local macro_rules | `(tactic| walk_at "dr1")=>`(tactic| first|((with_reducible refine zgy (d:=?rvv) ?rvk ?_);(case rvk=>exact rfl)))
local macro_rules | `(tactic| walk_at "dr1")=>`(tactic| with_reducible first|refine zxJ ?_|refine znC ?_)
local macro_rules | `(tactic| walk_at "dr1")=>`(tactic| first|((with_reducible refine ztU (g:=?rv1) (b:=?rv2) (f:=?rv3) (h:=?rv4) (a:=?rv5) (l:=?rv6) (d:=?rv7) ?rvk ?_);(case rvk=>walk_at "dat"))|((with_reducible refine zvE (g:=?rv1) (b:=?rv2) (f:=?rv3) (h:=?rv4) (a:=?rv5) (l:=?rv6) (d:=?rv7) ?rvk ?_);(case rvk=>walk_at "dat"))|((with_reducible refine zt3 (g:=?rv1) (b:=?rv2) (f:=?rv3) (h:=?rv4) (a:=?rv5) (l:=?rv6) (d:=?rv7) ?rvk ?_);(case rvk=>walk_at "dat")))
local macro_rules | `(tactic| walk_at "dr1")=>`(tactic| first|((with_reducible refine zwR (l:=?rvx) ?rvk ?_);(case rvk=>walk_at "dat"))|((with_reducible refine zqY (g:=?rv1) (b:=?rv2) (f:=?rv3) (h:=?rv4) (a:=?rv5) (l:=?rv6) (d:=?rv7) ?rvk ?_);(case rvk=>walk_at "dat"))|((with_reducible refine zph (g:=?rv1) (b:=?rv2) (f:=?rv3) (h:=?rv4) (a:=?rv5) (l:=?rv6) (d:=?rv7) ?rvk ?_);(case rvk=>walk_at "dat"))|((with_reducible refine zvb (g:=?rv1) (b:=?rv2) (f:=?rv3) (h:=?rv4) (a:=?rv5) (l:=?rv6) (d:=?rv7) ?rvk ?_);(case rvk=>walk_at "dat"))|((with_reducible refine zu0 (g:=?rv1) (b:=?rv2) (f:=?rv3) (h:=?rv4) (a:=?rv5) (l:=?rv6) (d:=?rv7) ?rvk ?_);(case rvk=>walk_at "dat")))
local macro_rules | `(tactic| walk_at "dr1")=>`(tactic| with_reducible first|refine zoU ?_|refine zvk ?_|refine zwb ?_|refine zun ?_|refine zsk ?_|refine ztu ?_|refine zue ?_|refine zsh ?_|refine zvZ ?_|refine zxd ?_)
local macro_rules | `(tactic| walk_at "g")=>`(tactic| repeat walk_at "dr1")
local macro_rules | `(tactic| walk_at "drho")=>`(tactic| simp only [zeO,List.map_cons,List.map_nil,List.length_cons,List.length_nil,Nat.reduceSub,Nat.reduceAdd,List.replicate,List.cons_append,List.nil_append,List.set_cons_zero,List.set_cons_succ])
local macro_rules | `(tactic| walk_at "drho2")=>`(tactic| simp only [List.set_cons_zero,List.set_cons_succ])
namespace Dp
open PySem Rm My
def zcV:DSp:=fun ds S Q=>∃ (ns:List Int) (k:Int),ds=[.rl (ns.map D.int),.int k]/\(∀ n∈ns,Hg n)/\0<=k/\∀ v,Hg v->Q (.int v) S
def zhe:DS :=
    (zG (sIf (dT (dOp oLt (zf 1) (dB zaH (zm (zf 0) zB)))) (zY (dOp oIx (zf 0) (zf 1))) z9)
 (zY (dC (.int 0))))
theorem zor:∀ ds So Q,zcV ds So Q->ds.length=2:=by rintro ds So Q ⟨_,_,rfl,_⟩;rfl
theorem zpf:BodyOk 2 zhe zcV:=by
 rintro ds S Q ⟨ns,k,rfl,hg,k0,q⟩
 unfold zhe
 walk_at "g"
 rw [qa]
 refine r_d (fun h=>?_) (fun h=>?_)
 ·obtain⟨z,hz,az⟩:=zeN (zs:=ns) k0 h
  walk_at "g"
  exact fin_same (q z (hg z hz))
 ·walk_at "g"
  exact fin_same (q 0 (Hg.of (n:=1) (by show (0:Int).natAbs<2 ^ 1;decide) (by decide)))
def zrd (c k:Int):Int:=(c%1000000000000000000000000000000000000000000000000000000000000+7907*k+1)*271828182845904523536028747135266249775*((c%1000000000000000000000000000000000000000000000000000000000000+7907*k+1)*271828182845904523536028747135266249775)%618970019642690137449562111
def zgf (c k s:Int):Int:=(zrd c k+104729*(k+1))*zrd c k%618970019642690137449562111/8%s
def zP:DSp:=fun ds S Q=>∃ (c k s:Int),ds=[.int c,.int k,.int s]/\0<=k/\k<1000/\0<s/\∀ v,0<=v->v<s->v=zgf c k s->Q (.int v) S
def zfK:DS :=
    (zG (zM (dC (.int 618970019642690137449562111)) (zE 3))
 (zG (zM (dOp zau (dOp zad (dOp zad (dOp oMod (zf 0) (dC (.int 1000000000000000000000000000000000000000000000000000000000000))) (dOp zau (dC (.int 7907)) (zf 1))) (dC (.int 1))) (dC (.int 271828182845904523536028747135266249775))) (zE 4))
 (zG (zM (dOp oMod (dOp zau (zf 4) (zf 4)) (zf 3)) (zE 5))
 (zG (zM (dOp oMod (dOp zau (dOp zad (zf 5) (dOp zau (dC (.int 104729)) (dOp zad (zf 1) (dC (.int 1))))) (zf 5)) (zf 3)) (zE 5))
 (zY (dOp oMod (dOp oDiv (zf 5) (dC (.int 8))) (zf 2)))))))
theorem zm7:∀ ds So Q,zP ds So Q->ds.length=3:=by rintro ds So Q ⟨_,_,_,rfl,_⟩;rfl
theorem zoz:BodyOk 6 zfK zP:=by
 rintro ds S Q ⟨c,k,s,rfl,h0,hk,hs,q⟩
 unfold zfK
 have b1:My.Bd 300 (c%1000000000000000000000000000000000000000000000000000000000000+7907*k+1):=by
  have h1:=Int.emod_nonneg c (b:=1000000000000000000000000000000000000000000000000000000000000) (by decide)
  have h2:=Int.emod_lt_of_pos c (b:=1000000000000000000000000000000000000000000000000000000000000) (by decide)
  show _<2 ^ 300
  omega
 have b2:My.Bd 200 (271828182845904523536028747135266249775:Int):=My.Bd.lit (by decide) (by decide)
 have b3:=My.Bd.mul b1 b2
 have cm1:zar (c%1000000000000000000000000000000000000000000000000000000000000+7907*k+1) 271828182845904523536028747135266249775:=.inl ⟨b1.mono (by decide),b2.mono (by decide)⟩
 generalize hb:c%1000000000000000000000000000000000000000000000000000000000000+7907*k+1=u at *
 have cm2:zar (u*271828182845904523536028747135266249775) (u*271828182845904523536028747135266249775):=.inl ⟨b3.mono (by decide),b3.mono (by decide)⟩
 walk_at "g"
 rw [hb]
 walk_at "g"
 have b4:My.Bd 200 (u*271828182845904523536028747135266249775*(u*271828182845904523536028747135266249775)%618970019642690137449562111):=My.Bd.emod (by decide) (My.Bd.lit (by decide) (by decide))
 generalize hm:u*271828182845904523536028747135266249775*(u*271828182845904523536028747135266249775)%618970019642690137449562111=m at *
 have b5:My.Bd 200 (104729*(k+1)):=by
  show _<2 ^ 200
  omega
 have cm3:zar (m+104729*(k+1)) m:=.inl ⟨(My.Bd.add b4 b5).mono (by decide),b4.mono (by decide)⟩
 walk_at "g"
 exact fin_same (q _ (Int.emod_nonneg _ (by omega)) (Int.emod_lt_of_pos _ (by omega)) (by unfold zgf zrd;rw [hb,hm]))
def zc9:DSp:=fun ds S Q=>∃ (c k nr:Int) (far:Bool),ds=[.int c,.int k,.int nr,.bl far]/\Hg c/\0<=k/\k<900/\0<nr/\nr<1000/\∀ v:Int,-(5*10 ^ 49)<=v->v<5*10 ^ 49->Q (.int v) S
def zfL:DS :=
    (zG (sIf (dT (zf 3)) (zY (dOp zah (dOp oMod (dOp zau (dOp zau (zf 0) (dC (.int 1422907482840247632891030073750636927810831))) (dOp zad (zf 1) (dC (.int 2)))) (dC (.int 100000000000000000000000000000000000000000000000000))) (dOp zau (dC (.int 5)) (dC (.int 10000000000000000000000000000000000000000000000000))))) z9)
 (zY (dCall zP (zm (zf 0) (zm (zf 1) (zm (zf 2) zB))))))
theorem znj:∀ ds So Q,zc9 ds So Q->ds.length=4:=by rintro ds So Q ⟨_,_,_,_,rfl,_⟩;rfl
theorem zoY:BodyOk 4 zfL zc9:=by
 rintro ds S Q ⟨c,k,nr,far,rfl,hc,k0,k1,n0,n1,q⟩
 unfold zfL
 cases far with
 | true =>
  walk_at "g"
  refine zpP hc (Hg.of (n:=200) (by show _<2 ^ 200;decide) (by decide)) ?_
  generalize c*1422907482840247632891030073750636927810831=u
  have cm:zar u (k+2):=.inr (.inr (by omega))
  walk_at "g"
  have r1:=Int.emod_nonneg (u*(k+2)) (show (100000000000000000000000000000000000000000000000000:Int)≠0 by decide)
  have r2:=Int.emod_lt_of_pos (u*(k+2)) (show (0:Int)<100000000000000000000000000000000000000000000000000 by decide)
  exact fin_same (q _ (by omega) (by omega))
 | false =>
  walk_at "g"
  refine⟨c,k,nr,rfl,k0,by omega,n0,fun v v0 v1 _=>?_⟩
  exact fin_same (q v (by omega) (by omega))
def zcf:DSp:=fun ds S Q=>∃ (c n:Int) (far:Bool),ds=[.int c,.int n,.bl far]/\Hg c/\2<=n/\n<=40/\∀ cs:List (Int×Int),(cs.length:Int)=n->Grd cs->(∀ c∈cs,Bd 169 c.1/\Bd 169 c.2)->New Q S (cs.map p2)
def zdB:DS :=
    (zG (zM (zba zB) (zE 3))
 (zG (zM (dOp zah (dCall zc9 (zm (zf 0) (zm (dC (.int 0)) (zm (dC (.int 9)) (zm (zf 2) zB))))) (dC (.int 9))) (zE 4))
 (zG (zbu (zcJ (zm (zf 1) zB)) (zE 5) (zG (zM (dCall zP (zm (zf 0) (zm (dOp zad (dOp zau (dC (.int 2)) (zf 5)) (dC (.int 1))) (zm (dC (.int 9)) zB)))) (zE 6))
 (zG (sJ (sIf (zfB (dT (zf 2)) (dT (dOp oEq (dOp oMod (zf 5) (dC (.int 3))) (dC (.int 1))))) (zM (dCall zc9 (zm (zf 0) (zm (zf 5) (zm (dC (.int 9)) (zm (zf 2) zB))))) (zE 6)) z9))
 (zG (zaR (dM zbt (zf 3) (zm (dTup (zm (zf 4) (zm (zf 6) zB))) zB)))
 (zG (zM (dOp zad (dC (.int 1)) (dCall zP (zm (zf 0) (zm (dOp zad (dOp zau (dC (.int 2)) (zf 5)) (dC (.int 2))) (zm (dC (.int 7)) zB))))) (zE 7))
 (zG (sJ (sIf (zfB (dT (zf 2)) (dT (dOp oEq (dOp oMod (zf 5) (dC (.int 2))) (dC (.int 0))))) (zM (dOp zad (dC (.int 1)) (dOp oMod (dOp zau (dOp zau (zf 0) (dC (.int 7928331467292760530673834318599741))) (dOp zad (zf 5) (dC (.int 3)))) (dC (.int 1000000000000000000000000000000000000000000000000)))) (zE 7)) z9))
 (zM (dOp zad (zf 4) (zf 7)) (zE 4))))))))
 (zY (zf 3)))))
theorem zjA:∀ ds So Q,zcf ds So Q->ds.length=3:=by rintro ds So Q ⟨_,_,_,rfl,_⟩;rfl
theorem zj0:BodyOk 8 zdB zcf:=by
 rintro ds S Q ⟨c,n,far,rfl,hc,n0,n1,q⟩
 unfold zdB
 walk_at "g"
 refine⟨c,0,9,far,rfl,hc,by decide,by decide,by decide,by decide,fun v0 v1 v2=>?_⟩
 walk_at "g"
 walk_at "drho"
 refine⟨n,rfl,by omega,by omega,?_⟩
 refine zaM (fun i Z S'=>∃ (cs:List (Int×Int)) (pl:Int) (w5 w6 w7:Option D),S'=S++[.lst (cs.map p2)]/\Z=[some (.int c),some (.int n),some (.bl far),some (.ref S.length),some (.int pl),w5,w6,w7]/\cs.length=i/\cs.Pairwise (fun a b=>a.1<b.1)/\(∀ x∈cs,x.1<pl/\-(6*10 ^ 49)<=x.1/\Bd 169 x.2)/\v0-9<=pl/\pl<=v0-9+i*(10 ^ 48)) ⟨[],v0-9,none,none,none,rfl,rfl,rfl,.nil,by simp,by omega,by omega⟩ (fun _ _ _ _=>True.intro) ?_ ?_
 ·rintro i d Z S' hd ⟨cs,pl,w5,w6,w7,rfl,rfl,hl,asc,hcs,p0,p1⟩
  obtain⟨hi,rfl⟩:=zbq hd
  have cm1:zar 2 (0+(i:Int)):=.inr (.inl (by decide))
  walk_at "g"
  refine⟨c,_,9,rfl,by omega,by omega,by decide,fun m m0 m1 _=>?_⟩
  walk_at "g"
  refine r_J (fun Z S'=>S'=S++[.lst (cs.map p2)]/\∃ hh:Int,Bd 169 hh/\Z=[some (.int c),some (.int n),some (.bl far),some (.ref S.length),some (.int pl),some (.int (0+(i:Int))),some (.int hh),w7]) ?_ ?_
  ·have b0:Bd 169 m:=by show _<2 ^ 169;omega
   walk_at "g"
   cases far with
   | true =>
    walk_at "g"
    refine r_d (fun _=>?_) (fun _=>?_)
    ·walk_at "g"
     refine⟨c,_,9,true,rfl,hc,by omega,by omega,by decide,by decide,fun u u0 u1=>?_⟩
     walk_at "g"
     exact⟨rfl,u,by show _<2 ^ 169;omega,rfl⟩
    ·walk_at "g"
     exact⟨rfl,m,b0,rfl⟩
   | false =>
    walk_at "g"
    exact⟨rfl,m,b0,rfl⟩
  rintro Z S' ⟨rfl,hh,bh,rfl⟩
  have hlim:(cs.map p2).length<big:=by rw [qa];unfold big;omega
  walk_at "g"
  refine⟨c,_,7,rfl,by omega,by omega,by decide,fun m' m0' m1' _=>?_⟩
  walk_at "g"
  refine r_J (fun Z S'=>S'=S++[.lst (cs.map p2++[p2 (pl,hh)])]/\∃ wd:Int,1<=wd/\wd<=10 ^ 48/\Z=[some (.int c),some (.int n),some (.bl far),some (.ref S.length),some (.int pl),some (.int (0+(i:Int))),some (.int hh),some (.int wd)]) ?_ ?_
  ·walk_at "g"
   cases far with
   | true =>
    walk_at "g"
    refine r_d (fun _=>?_) (fun _=>?_)
    ·walk_at "g"
     refine zpP hc (Hg.of (n:=200) (by show _<2 ^ 200;decide) (by decide)) ?_
     generalize c*7928331467292760530673834318599741=u
     have cm:zar u (0+(i:Int)+3):=.inr (.inr (by omega))
     walk_at "g"
     have r1:=Int.emod_nonneg (u*(0+(i:Int)+3)) (show (1000000000000000000000000000000000000000000000000:Int)≠0 by decide)
     have r2:=Int.emod_lt_of_pos (u*(0+(i:Int)+3)) (show (0:Int)<1000000000000000000000000000000000000000000000000 by decide)
     exact⟨rfl,_,by omega,by omega,rfl⟩
    ·walk_at "g"
     exact⟨rfl,_,by omega,by omega,rfl⟩
   | false =>
    walk_at "g"
    exact⟨rfl,_,by omega,by omega,rfl⟩
  rintro Z S' ⟨rfl,wd,d0,d1,rfl⟩
  walk_at "g"
  refine⟨cs++[(pl,hh)],pl+wd,_,_,_,by rw [List.map_append];rfl,rfl,by simp [hl],?_,?_,by omega,by omega⟩
  ·rw [List.pairwise_append]
   refine⟨asc,List.pairwise_singleton _ _,fun a ha b hb=>?_⟩
   have:b=(pl,hh):=by simpa using hb
   subst this
   exact (hcs a ha).1
  ·intro x hx
   rcases List.mem_append.mp hx with hx | hx
   ·obtain⟨a1,a2,a3⟩:=hcs x hx
    exact⟨by omega,a2,a3⟩
   ·have:x=(pl,hh):=by simpa using hx
    subst this
    exact⟨by show pl<pl+wd;omega,by show -(6*10 ^ 49)<=pl;omega,bh⟩
 ·rintro Z S' ⟨cs,pl,w5,w6,w7,rfl,rfl,hl,asc,hcs,p0,p1⟩
  rw [zaE] at hl p1
  walk_at "g"
  have hb:∀ x∈cs,Bd 169 x.1/\Bd 169 x.2:=fun x hx=>by
   obtain⟨a1,a2,a3⟩:=hcs x hx
   exact⟨by show _<2 ^ 169;omega,a3⟩
  refine fin_same (q cs (by omega) ⟨by omega,by omega,asc,fun x hx=>⟨(hb x hx).1.mono (by decide),(hb x hx).2.mono (by decide)⟩⟩ hb)
def zcv:DSp:=fun ds S Q=>∃ (ns:List Int) (st most:Int),ds=[.rl (ns.map D.int),.int st,.int most]/\ns.length<=63/\0<=st/\0<most/\most<60/\∀ zs:List Int,(zs.length:Int)<=most->(∀ z∈zs,0<=z/\z<10 ^ 60)->New Q S (zs.map D.int)
def zee:DS :=
    (zG (zM (zba zB) (zE 3))
 (zG (zbu (zir (zm (zf 1) (zm (dB zaH (zm (zf 0) zB)) zB))) (zE 4) (sIf (dT (dOp oLt (dB zaH (zm (zf 3) zB)) (zf 2))) (zaR (dM zbt (zf 3) (zm (dOp oMod (dOp oIx (zf 0) (zf 4)) (dC (.int 1000000000000000000000000000000000000000000000000000000000000))) zB))) (zG (zM (dOp zad (dOp zau (dOp oIx (zf 3) (dOp oMod (zf 4) (zf 2))) (dC (.int 10007))) (dOp oMod (dOp oIx (zf 0) (zf 4)) (dC (.int 1000000000000000000000000000000000000000000000000000000000000)))) (zE 5))
 (zM (dOp oMod (zf 5) (dC (.int 1000000000000000000000000000000000000000000000000000000000000))) (zhI (zf 3) (dOp oMod (zf 4) (zf 2)))))))
 (zY (zf 3))))
theorem zkh:∀ ds So Q,zcv ds So Q->ds.length=3:=by rintro ds So Q ⟨_,_,_,rfl,_⟩;rfl
theorem zk3:BodyOk 6 zee zcv:=by
 rintro ds S Q ⟨ns,st,most,rfl,hl,hst,h0,h1,q⟩
 unfold zee
 walk_at "g"
 refine⟨_,_,rfl,?_⟩
 refine zaM (fun i Z S'=>∃ zs w1 w2,Z=[some (.rl (ns.map D.int)),some (.int st),some (.int most),some (.ref S.length),w1,w2]/\S'=S++[.lst (zs.map D.int)]/\(zs.length:Int)<=most/\∀ z∈zs,0<=z/\z<10 ^ 60)
  ⟨[],none,none,rfl,rfl,by show (0:Int)<=most;omega,by simp⟩ (fun _ _ _ _=>True.intro) ?_ ?_
 ·rintro i d Z S' hd ⟨zs,w1,w2,rfl,rfl,hz,hb⟩
  obtain⟨hi,rfl⟩:=zbq hd
  rw [qa] at hi
  obtain⟨v,_,av⟩:=zeN (zs:=ns) (k:=st+i) (by omega) (by omega)
  have hv1:=Int.emod_nonneg v (b:=1000000000000000000000000000000000000000000000000000000000000) (by decide)
  have hv2:=Int.emod_lt_of_pos v (b:=1000000000000000000000000000000000000000000000000000000000000) (by decide)
  walk_at "g"
  rw [qa]
  refine r_d (fun g=>?_) (fun g=>?_)
  ·walk_at "g"
   refine⟨zs++[v%1000000000000000000000000000000000000000000000000000000000000],_,_,rfl,by rw [List.map_append];rfl,by rw [qe];show ((zs.length+1:Nat):Int)<=most;omega,fun z hz=>?_⟩
   rcases List.mem_append.mp hz with hz | hz
   ·exact hb z hz
   ·have:z=v%1000000000000000000000000000000000000000000000000000000000000:=by simpa using hz
    subst this;exact⟨hv1,by omega⟩
  ·have m1:=Int.emod_nonneg (st+i) (b:=most) (by omega)
   have m2:=Int.emod_lt_of_pos (st+i) (b:=most) (by omega)
   obtain⟨u,hu,au⟩:=zeN (zs:=zs) (k:=(st+i)%most) m1 (by omega)
   have iu:=zuN (zs:=zs) (k:=(st+i)%most) m1 (by omega)
   walk_at "g"
   refine zlf zaU iu ?_
   walk_at "g"
   refine⟨zs.set _ _,_,_,rfl,by rw [List.map_set],by simpa using hz,fun z hz'=>?_⟩
   rcases zrk hz' with h | h
   ·exact hb z h
   ·subst h
    exact⟨Int.emod_nonneg _ (by decide),Int.lt_of_lt_of_le (Int.emod_lt_of_pos _ (by decide)) (by decide)⟩
 ·rintro Z S' ⟨zs,w1,w2,rfl,rfl,hz,hb⟩
  walk_at "g"
  exact fin_same (q zs hz hb)
theorem zmf (i:Int)(h0:0<=i)(h1:i<26):atS "abcdefghijklmnopqrstuvwxyz" i=some (97+i.toNat):=by
 have:∀ j:_root_.Fin 26,atS "abcdefghijklmnopqrstuvwxyz" ((j.val:Nat):Int)=some (97+j.val):=by decide +kernel
 have:=this ⟨i.toNat,by omega⟩
 rwa [show ((i.toNat:Nat):Int)=i by omega] at this
def zim (zs:List Str):Prop:=∃ a h b t:Nat,a∈abc/\b∈abc/\h<=3/\t<=4/\zs.Nodup/\∀ z∈zs,∃ c∈abc,z=nmW a h c b t
theorem zim.nm {zs:List Str}(h:zim zs){z:Str}(hz:z∈zs):nmB z=true:=by
 obtain⟨a,h,b,t,ha,hb,h3,h4,_,hs⟩:=h
 obtain⟨c,hc,rfl⟩:=hs z hz
 exact zt5 ha hb hc h3 h4
def zcS:DSp:=fun ds S Q=>∃ (c n:Int),ds=[.int c,.int n]/\0<=n/\n<=12/\∀ zs:List Str,(zs.length:Int)=n->zim zs->New Q S (zs.map D.str)
def zeE:DS :=
    (zG (zM (dC (.str "abcdefghijklmnopqrstuvwxyz")) (zE 2))
 (zG (zM (dOp zau (dOp oIx (zf 2) (dCall zP (zm (zf 0) (zm (dC (.int 70)) (zm (dC (.int 26)) zB))))) (dCall zP (zm (zf 0) (zm (dC (.int 71)) (zm (dC (.int 4)) zB))))) (zE 3))
 (zG (zM (dOp zau (dOp oIx (zf 2) (dCall zP (zm (zf 0) (zm (dC (.int 72)) (zm (dC (.int 26)) zB))))) (dCall zP (zm (zf 0) (zm (dC (.int 73)) (zm (dC (.int 5)) zB))))) (zE 4))
 (zY (dLC 1 [3,2,0,4] (zcJ (zm (zf 1) zB)) (zE 0) zbz (dOp zad (dOp zad (zf 1) (dOp oIx (zf 2) (dOp oMod (dOp zad (dCall zP (zm (zf 3) (zm (dC (.int 74)) (zm (dC (.int 26)) zB)))) (dOp zau (dC (.int 3)) (zf 0))) (dC (.int 26))))) (zf 4)))))))
theorem zk2:∀ ds So Q,zcS ds So Q->ds.length=2:=by rintro ds So Q ⟨_,_,rfl,_⟩;rfl
theorem zlC:BodyOk 5 zeE zcS:=by
 rintro ds S Q ⟨c,n,rfl,n0,n1,q⟩
 unfold zeE
 walk_at "g"
 refine⟨c,_,_,rfl,by decide,by decide,by decide,fun m m0 m1 _=>?_⟩
 refine zo7 (c:=97+m.toNat) (by decide +kernel) (zmf m m0 m1) ?_
 walk_at "g"
 refine⟨c,_,_,rfl,by decide,by decide,by decide,fun h h0 h1 _=>?_⟩
 refine zqB (by show 1<=1000;decide) (by omega) (by omega) ?_
 rw [zms _ _ h0]
 walk_at "g"
 refine⟨c,_,_,rfl,by decide,by decide,by decide,fun l l0 l1 _=>?_⟩
 refine zo7 (c:=97+l.toNat) (by decide +kernel) (zmf l l0 l1) ?_
 walk_at "g"
 refine⟨c,_,_,rfl,by decide,by decide,by decide,fun t t0 t1 _=>?_⟩
 refine zqB (by show 1<=1000;decide) (by omega) (by omega) ?_
 rw [zms _ _ t0]
 walk_at "g"
 refine⟨_,rfl,by omega,by omega,?_⟩
 have ha:97+m.toNat∈abc:=ziD.mpr (by omega)
 have hb:97+l.toNat∈abc:=ziD.mpr (by omega)
 have hq:∀ k:Nat,97+((zgf c 74 26+3*(0+(k:Int)))%26).toNat∈abc:=fun k=>ziD.mpr (by omega)
 refine za3 (fun _=>true) (onI fun k=>.str (nmW (97+m.toNat) h.toNat (97+((zgf c 74 26+3*k)%26).toNat) (97+l.toNat) t.toNat)) True.intro (by rw [zaE];unfold big;omega) (fun i d ys hd hw=>?_) ?_
 ·obtain⟨hi,rfl⟩:=zbq hd
  walk_at "g"
  refine⟨c,_,_,rfl,by decide,by decide,by decide,fun u u0 u1 ue=>?_⟩
  subst ue
  have cm:zar 3 (0+(i:Int)):=.inr (.inl (by decide))
  walk_at "g"
  refine zo7 (c:=97+((zgf c 74 26+3*(0+(i:Int)))%26).toNat) (by decide +kernel) (zmf _ (by omega) (by omega)) ?_
  have lh:(⟨(List.replicate h.toNat (97+m.toNat)).toArray⟩:Str).length=h.toNat:=by show (List.replicate h.toNat (97+m.toNat)).toArray.size=_;simp
  refine zmH (by rw [lh];show h.toNat+1<=big;unfold big;omega) ?_
  rw [show (⟨#[97+((zgf c 74 26+3*(0+(i:Int)))%26).toNat]⟩:Str)=⟨[97+((zgf c 74 26+3*(0+(i:Int)))%26).toNat].toArray⟩ from rfl,znZ]
  walk_at "g"
  refine zmH (by show (List.toArray _).size+(List.toArray _).size<=big;simp;unfold big;omega) ?_
  rw [znZ]
  refine zbL hd hw rfl ?_
  show _=D.str (nmW _ _ _ _ _)
  unfold nmW
  rw [List.append_assoc];rfl
 rw [filter_true]
 obtain⟨zs,hzs,hzl,hzg⟩:∃ zs:List Str,(upto 0 n.toNat).map (onI fun k=>D.str (nmW (97+m.toNat) h.toNat (97+((zgf c 74 26+3*k)%26).toNat) (97+l.toNat) t.toNat))=zs.map D.str/\zs.length=n.toNat/\∀ (i:Nat) z,zs[i]?=some z->i<n.toNat/\z=nmW (97+m.toNat) h.toNat (97+((zgf c 74 26+3*(0+(i:Int)))%26).toNat) (97+l.toNat) t.toNat:=by
  refine⟨(List.range n.toNat).map fun k:Nat=>nmW (97+m.toNat) h.toNat (97+((zgf c 74 26+3*(0+(k:Int)))%26).toNat) (97+l.toNat) t.toNat,?_,by simp,fun i z hz=>?_⟩
  ·unfold upto
   rw [List.map_map,List.map_map];rfl
  ·rw [qg] at hz
   by_cases hi:i<n.toNat
   ·rw [List.getElem?_range hi] at hz
    exact⟨hi,by simpa using hz.symm⟩
   ·rw [List.getElem?_eq_none (by simpa using hi)] at hz;cases hz
 rw [hzs]
 refine zsA (fin_same (q zs (by omega) ⟨97+m.toNat,h.toNat,97+l.toNat,t.toNat,ha,hb,by omega,by omega,?_,fun z hz=>?_⟩))
 ·refine List.pairwise_iff_getElem.mpr fun i j hi hj hij e=>?_
  obtain⟨i1,ei⟩:=hzg i _ (qb hi)
  obtain⟨j1,ej⟩:=hzg j _ (qb hj)
  rw [ei,ej] at e
  have:=zsY e
  omega
 ·obtain⟨i,hi,e⟩:=List.mem_iff_getElem.mp hz
  obtain⟨_,ez⟩:=hzg i z (by rw [qb hi,e])
  exact⟨_,hq i,ez⟩
def zcz:DSp:=fun ds S Q=>∃ (x:D) (cs:List (Int×Int)) (a:Int),ds=[x,.int a]/\Lst S x (cs.map p2)/\Grd cs/\Bd 180 a/\OnG cs (a,1)/\Q (.int (zdD cs a)) S
def zd7:DS :=
    (zG (zbu (zcJ (zm (dOp zah (dB zaH (zm (zf 0) zB)) (dC (.int 1))) zB)) (zE 2) (zG (zo8 3 4 (zm (dOp oIx (zf 0) (zf 2)) (zm (dOp oIx (zf 0) (dOp zad (zf 2) (dC (.int 1)))) zB)))
 (sIf (zfB (dT (dOp oLe (dOp oIx (zf 3) (dC (.int 0))) (zf 1))) (dT (dOp oLe (zf 1) (dOp oIx (zf 4) (dC (.int 0)))))) (zG (zM (dOp zau (dOp zah (dOp oIx (zf 3) (dC (.int 1))) (dOp oIx (zf 4) (dC (.int 1)))) (dOp zah (zf 1) (dOp oIx (zf 3) (dC (.int 0))))) (zE 5))
 (zY (dOp zah (dOp oIx (zf 3) (dC (.int 1))) (dOp oDiv (zf 5) (dOp zah (dOp oIx (zf 4) (dC (.int 0))) (dOp oIx (zf 3) (dC (.int 0)))))))) z9)))
 (zY (dC .non)))
theorem zku:∀ ds So Q,zcz ds So Q->ds.length=2:=by rintro ds So Q ⟨_,_,_,rfl,_⟩;rfl
theorem zlc:BodyOk 6 zd7 zcz:=by
 rintro ds S Q ⟨x,cs,a,rfl,hx,gr,ba,on,q⟩
 unfold zd7
 have g1:=gr.two
 obtain⟨kk,l,r,hkl,hkr,hle,hlt⟩:=zjx gr.two on.2
 have seg:=seg_at hkl hkr hle hlt
 have hle':a<=r.1:=by have:a<=r.1*1:=hle;omega
 have hab:=zdr gr (show kk<kk+1 by omega) hkl hkr
 have hlo:l.1<=a:=by
  cases kk with
  | zero =>
   obtain⟨f,hf,ef⟩:=zdT gr
   have h:=on.1
   rw [ef] at h
   rw [hkl] at hf;cases hf
   have:l.1*1<=a:=h
   omega
  | succ j =>
   have:=hlt (j+1) l (by omega) (by omega) hkl
   have:l.1*1<a:=this
   omega
 have q':Q (.int (l.2-((l.2-r.2)*(a-l.1))/(r.1-l.1))) S:=by
  have e:l.2-((l.2-r.2)*(a-l.1))/(r.1-l.1)=zdD cs a:=by
   unfold zdD
   rw [seg]
   unfold zeH hvT hvB
   dsimp only
   rw [if_pos (by omega),if_pos (by omega),Int.mul_one,Int.mul_one,Int.mul_one]
   have e2:-(l.2*(r.1-l.1)+(r.2-l.2)*(a-l.1))=(l.2-r.2)*(a-l.1)+(-l.2)*(r.1-l.1):=by grind
   rw [e2,Int.add_mul_ediv_right _ _ (by omega)]
   omega
  rw [e];exact q
 walk_at "g"
 rw [qa]
 refine⟨_,rfl,by have:=gr.most;omega,by have:=gr.most;omega,?_⟩
 refine zaM (fun i Z S'=>S'=S/\(∃ w2 w3 w4 w5:Option D,Z=[some x,some (.int a),w2,w3,w4,w5])/\i<=kk) ⟨rfl,⟨none,none,none,none,rfl⟩,by omega⟩ (fun _ _ _ _=>True.intro) ?_ ?_
 ·rintro i d Z S' hd ⟨rfl,⟨w2,w3,w4,w5,rfl⟩,hik⟩
  obtain⟨hi,rfl⟩:=zbq hd
  obtain⟨b,hb,ab⟩:=zgQ (cs:=cs) (k:=0+(i:Int)) (by omega) (by omega)
  obtain⟨c,hc,ac⟩:=zgQ (cs:=cs) (k:=0+(i:Int)+1) (by omega) (by omega)
  rw [show (0+(i:Int)).toNat=i by omega] at hb
  rw [show (0+(i:Int)+1).toNat=i+1 by omega] at hc
  have hbc:=zdr gr (show i<i+1 by omega) hb hc
  obtain⟨bb1,bb2⟩:=gr.bd b (qd hb)
  obtain⟨bc1,bc2⟩:=gr.bd c (qd hc)
  have cm:zar (b.2-c.2) (a-b.1):=.inl ⟨(Bd.sub bb2 bc2).mono (by decide),(Bd.sub ba (bb1.mono (by decide))).mono (by decide)⟩
  have dv:0<c.1-b.1/\Bd 8000 (c.1-b.1):=⟨by omega,(Bd.sub bc1 bb1).mono (by decide)⟩
  walk_at "g"
  refine r_d (fun h1=>?_) (fun h1=>?_)
  ·walk_at "g"
   refine r_d (fun h2=>?_) (fun h2=>?_)
   ·have e:i=kk:=by
     rcases Nat.lt_or_ge i kk with z | z
     ·have:=hlt (i+1) c (by omega) (by omega) hc
      have:c.1*1<a:=this
      omega
     ·omega
    subst e
    rw [hkl] at hb;cases hb
    rw [hkr] at hc;cases hc
    walk_at "g"
    exact fin_same q'
   ·walk_at "g"
    refine⟨rfl,⟨_,_,_,_,rfl⟩,?_⟩
    rcases Nat.lt_or_ge i kk with z | z
    ·omega
    ·have:i=kk:=by omega
     subst this
     rw [hkr] at hc;cases hc;omega
  ·exfalso
   rcases Nat.lt_or_ge i kk with z | z
   ·rcases Nat.eq_zero_or_pos i with e | e
    ·subst e
     obtain⟨f,hf,ef⟩:=zdT gr
     rw [hb] at hf;cases hf
     have h:=on.1
     rw [ef] at h
     have:b.1*1<=a:=h
     omega
    ·have:=hlt i b e (by omega) hb
     have:b.1*1<a:=this
     omega
   ·have:i=kk:=by omega
    subst this
    rw [hkl] at hb;cases hb;omega
 ·rintro Z S' ⟨rfl,_,hik⟩
  rw [zaE] at hik
  have:=zae hkr
  omega
structure zwu (cs:List (Int×Int))(bs:List (Str×(Int×Int))):Prop where
 nm:zim (bs.map (·.1))
 st:∀ b∈bs,zdJ cs b.2/\Bd 175 b.2.1/\Bd 198 b.2.2
def zcb:DSp:=fun ds S Q=>∃ (u x y:D) (ns:List Int) (cs:List (Int×Int)) (zs:List Str),ds=[u,x,y]/\Lst S u (ns.map D.int)/\Lst S x (cs.map p2)/\Lst S y (zs.map D.str)/\zs.length<=ns.length/\zs.length<=12/\(∀ n∈ns,0<=n/\n<10 ^ 60)/\Grd cs/\zim zs/\∀ bs:List (Str×(Int×Int)),bs.length=zs.length->zwu cs bs->New Q S (bs.map bcD)
def zdA:DS :=
    (zG (zM (zba zB) (zE 3))
 (zG (zM (dOp zad (dOp zah (dOp oIx (dOp oIx (zf 1) (dUn zcG (dC (.int 1)))) (dC (.int 0))) (dOp oIx (dOp oIx (zf 1) (dC (.int 0))) (dC (.int 0)))) (dC (.int 1))) (zE 4))
 (zG (zbu (zcJ (zm (dB zaH (zm (zf 2) zB)) zB)) (zE 5) (zG (zM (dOp oIx (zf 0) (zf 5)) (zE 6))
 (zG (zM (dOp zad (dOp oIx (dOp oIx (zf 1) (dC (.int 0))) (dC (.int 0))) (dCall zP (zm (zf 6) (zm (dC (.int 40)) (zm (zf 4) zB))))) (zE 7))
 (zG (sJ (sIf (dT (dOp oGt (zf 4) (dC (.int 100000000000000000000)))) (zM (dOp zad (dOp oIx (dOp oIx (zf 1) (dC (.int 0))) (dC (.int 0))) (dOp oMod (zf 6) (zf 4))) (zE 7)) z9))
 (zG (sJ (sIf (dT (dOp oEq (dCall zP (zm (zf 6) (zm (dC (.int 41)) (zm (dC (.int 3)) zB)))) (dC (.int 0)))) (zM (dOp oIx (dOp oIx (zf 1) (dCall zP (zm (zf 6) (zm (dC (.int 42)) (zm (dB zaH (zm (zf 1) zB)) zB))))) (dC (.int 0))) (zE 7)) z9))
 (zG (zM (dOp oIx (zba (zm (dC (.int 0)) (zm (dCall zP (zm (zf 6) (zm (dC (.int 43)) (zm (dC (.int 4)) zB)))) (zm (dCall zP (zm (zf 6) (zm (dC (.int 44)) (zm (dC (.int 13)) zB)))) (zm (dOp oMod (zf 6) (dC (.int 10000000000000000000000000000000000000000))) zB))))) (dCall zP (zm (zf 6) (zm (dC (.int 45)) (zm (dC (.int 4)) zB))))) (zE 8))
 (zG (sJ (sIf (dT (dOp oLt (zf 4) (dC (.int 100000000000000000000)))) (zM (dOp oMod (zf 8) (dC (.int 20))) (zE 8)) z9))
 (zaR (dM zbt (zf 3) (zm (dTup (zm (dOp oIx (zf 2) (zf 5)) (zm (zf 7) (zm (dOp zad (dCall zcz (zm (zf 1) (zm (zf 7) zB))) (zf 8)) zB)))) zB))))))))))
 (zY (zf 3)))))
theorem zjX:∀ ds So Q,zcb ds So Q->ds.length=3:=by rintro ds So Q ⟨_,_,_,_,_,_,rfl,_⟩;rfl
theorem zkc:BodyOk 9 zdA zcb:=by
  rintro ds S Q ⟨u,x,y,ns,cs,zs,rfl,hu,hx,hy,zn,z12,hns,gr,nms,q⟩
  unfold zdA
  obtain⟨f,hf,ef⟩:=zdT gr
  obtain⟨lc,hlc,elc,alc⟩:=zrI gr
  have af:atD (cs.map p2) 0=some (p2 f):=za5 (i:=0) (by rw [qg,hf];rfl)
  have bf:=(gr.bd f (qd hf)).1
  have bl:=(gr.bd lc (qd hlc)).1
  have g1:=gr.two
  have g40:=gr.most
  have hfl:=zdr gr (show 0<cs.length-1 by omega) hf hlc
  have hx0:Lst (S++[.lst []]) x (cs.map p2):=hx.old
  have hy0:Lst (S++[.lst []]) y (zs.map D.str):=hy.old
  walk_at "g"
  walk_at "drho"
  rw [qa]
  refine⟨_,rfl,by omega,by omega,?_⟩
  generalize hwd:lc.1-f.1+1=wd
  refine zaM (fun i Z S'=>∃ (bs:List (Str×(Int×Int))) (G:Sto) (w5 w6 w7 w8:Option D),S'=S++Cell.lst (bs.map bcD)::G/\Z=[some u,some x,some y,some (.ref S.length),some (.int wd),w5,w6,w7,w8]/\bs.length=i/\bs.map (·.1)=zs.take i/\∀ b∈bs,zdJ cs b.2/\Bd 175 b.2.1/\Bd 198 b.2.2) ⟨[],[],none,none,none,none,rfl,rfl,rfl,by simp,by simp⟩ (fun _ _ _ _=>True.intro) ?_ ?_
  . rintro i d Z S' hd ⟨bs,G,w5,w6,w7,w8,rfl,rfl,hl,hnm,hst⟩
    obtain⟨hi,rfl⟩:=zbq hd
    have hin:0+(i:Int)<ns.length:=by omega
    obtain⟨c,hc,ac⟩:=zeN (zs:=ns) (k:=0+(i:Int)) (by omega) hin
    obtain⟨c0,c1⟩:=hns c hc
    have hu1:Lst (S++Cell.lst (bs.map bcD)::G) u (ns.map D.int):=hu.old
    have hx1:Lst (S++Cell.lst (bs.map bcD)::G) x (cs.map p2):=hx.old
    walk_at "g"
    refine⟨c,_,wd,rfl,by decide,by decide,by omega,fun m m0 m1 _=>?_⟩
    walk_at "g"
    refine r_J (fun Z S'=>S'=S++Cell.lst (bs.map bcD)::G/\∃ pl:Int,f.1<=pl/\pl<=lc.1/\Z=[some u,some x,some y,some (.ref S.length),some (.int wd),some (.int (0+(i:Int))),some (.int c),some (.int pl),w8]) ?_ ?_
    . walk_at "g"
      refine r_d (fun _=>?_) (fun _=>?_)
      . have r1:=Int.emod_nonneg c (show wd≠0 by omega)
        have r2:=Int.emod_lt_of_pos c (show 0<wd by omega)
        walk_at "g"
        exact⟨rfl,f.1+c%wd,by omega,by omega,rfl⟩
      . walk_at "g"
        exact⟨rfl,f.1+m,by omega,by omega,rfl⟩
    rintro Z S' ⟨rfl,pl,p0,p1,rfl⟩
    walk_at "g"
    refine r_J (fun Z S'=>S'=S++Cell.lst (bs.map bcD)::G/\∃ pl:Int,f.1<=pl/\pl<=lc.1/\Z=[some u,some x,some y,some (.ref S.length),some (.int wd),some (.int (0+(i:Int))),some (.int c),some (.int pl),w8]) ?_ ?_
    . walk_at "g"
      refine⟨c,_,3,rfl,by decide,by decide,by decide,fun m' m0' m1' _=>?_⟩
      walk_at "g"
      refine r_d (fun _=>?_) (fun _=>?_)
      . walk_at "g"
        rw [qa]
        refine⟨c,_,_,rfl,by decide,by decide,by omega,fun j j0 j1 _=>?_⟩
        obtain⟨cc,hcc,acc⟩:=zgQ (cs:=cs) j0 j1
        have on:=zum gr (qd hcc)
        rw [ef,elc] at on
        walk_at "g"
        exact⟨rfl,cc.1,on.1,on.2,rfl⟩
      . walk_at "g"
        exact⟨rfl,pl,p0,p1,rfl⟩
    clear p0 p1 pl
    rintro Z S' ⟨rfl,pl,p0,p1,rfl⟩
    walk_at "g"
    refine⟨c,_,4,rfl,by decide,by decide,by decide,fun a1 a10 a11 _=>?_⟩
    walk_at "g"
    refine⟨c,_,13,rfl,by decide,by decide,by decide,fun a2 a20 a21 _=>?_⟩
    have r1:=Int.emod_nonneg c (show (10000000000000000000000000000000000000000:Int)≠0 by decide)
    have r2:=Int.emod_lt_of_pos c (show (0:Int)<10000000000000000000000000000000000000000 by decide)
    walk_at "g"
    refine⟨c,_,4,rfl,by decide,by decide,by decide,fun a3 a30 a31 _=>?_⟩
    obtain⟨tw,htw,atw⟩:=zeN (zs:=[0,a1,a2,c%10000000000000000000000000000000000000000]) (k:=a3) a30 a31
    have tw0:0<=tw/\tw<10 ^ 40:=by
      simp only [qh,List.not_mem_nil,or_false] at htw
      rcases htw with rfl | rfl | rfl | rfl<;>omega
    clear htw
    have atw':atD [.int 0,.int a1,.int a2,.int (c%10000000000000000000000000000000000000000)] a3=some (.int tw):=atw
    refine zlj (xs:=[.int 0,.int a1,.int a2,.int (c%10000000000000000000000000000000000000000)]) (by walk_at "dlat") atw' ?_
    obtain⟨G2,hG2⟩:∃ G2:Sto,G2=G++[Cell.lst [.int 0,.int a1,.int a2,.int (c%10000000000000000000000000000000000000000)]]:=⟨_,rfl⟩
    rw [show S++(Cell.lst (bs.map bcD)::G++[Cell.lst [D.int 0,.int a1,.int a2,.int (c%10000000000000000000000000000000000000000)]])=S++Cell.lst (bs.map bcD)::G2 by rw [hG2];simp]
    walk_at "g"
    walk_at "drho2"
    refine r_J (fun Z S'=>S'=S++Cell.lst (bs.map bcD)::G2/\∃ tw:Int,0<=tw/\tw<10 ^ 40/\Z=[some u,some x,some y,some (.ref S.length),some (.int wd),some (.int (0+(i:Int))),some (.int c),some (.int pl),some (.int tw)]) ?_ ?_
    . walk_at "g"
      refine r_d (fun _=>?_) (fun _=>?_)
      . walk_at "g"
        exact⟨rfl,tw%20,by omega,by omega,rfl⟩
      . walk_at "g"
        exact⟨rfl,tw,by omega,by omega,rfl⟩
    clear atw' atw tw0 tw hG2
    rintro Z S' ⟨rfl,tw,t0,t1,rfl⟩
    have hlim:(bs.map bcD).length<big:=by rw [qa];unfold big;omega
    obtain⟨z,hz⟩:∃ z,zs[i]?=some z:=⟨zs[i]'(by omega),qb (by omega)⟩
    have az:atD (zs.map D.str) (0+(i:Int))=some (.str z):=by
      rw [show (0:Int)+(i:Int)=(i:Int) by omega]
      exact za5 (by rw [qg,hz];rfl)
    have hy2:Lst (S++Cell.lst (bs.map bcD)::G2) y (zs.map D.str):=hy.old
    have hx2:Lst (S++Cell.lst (bs.map bcD)::G2) x (cs.map p2):=hx.old
    walk_at "g"
    have on:OnG cs (pl,1):=⟨by rw [ef];show f.1*1<=pl;omega,by rw [elc];show pl<=lc.1*1;omega⟩
    have bp:Bd 170 pl:=Bd.btw bf bl p0 p1
    refine⟨x,cs,pl,rfl,hx2,gr,bp.mono (by decide),on,?_⟩
    have bF:=zrF gr on
    walk_at "g"
    refine⟨bs++[(z,(pl,zdD cs pl+tw))],G2,_,_,_,_,by rw [List.map_append];rfl,rfl,by simp [hl],by rw [List.map_append,hnm,zat hz];rfl,fun b hb=>?_⟩
    rcases List.mem_append.mp hb with hb | hb
    . exact hst b hb
    . have:b=(z,(pl,zdD cs pl+tw)):=by simpa using hb
      subst this
      refine⟨(zqS gr (s:=(pl,zdD cs pl+tw)) on).mpr (by show zdD cs pl<=zdD cs pl+tw;omega),bp.mono (by decide),?_⟩
      exact (Bd.add (n:=192) bF (by show _<2 ^ 192;omega)).mono (by decide)
  rintro Z S' ⟨bs,G,w5,w6,w7,w8,rfl,rfl,hl,hnm,hst⟩
  rw [zaE] at hl hnm
  rw [List.take_of_length_le (by omega)] at hnm
  walk_at "g"
  refine zsE ?_ (q bs (by omega) ⟨by rw [hnm];exact nms,hst⟩)
  show (bs.map bcD).all (fl 20)=true
  rw [List.all_map,List.all_eq_true]
  intro b hb
  exact zwW (nms.nm (by rw [<- hnm];exact List.mem_map.mpr ⟨b,hb,rfl⟩))
theorem at3 {a b c:Int}{k:Int}{P:Int->Prop}(h0:0<=k)(h1:k<3)(pa:P a)(pb:P b)(pc:P c):∃ v,P v/\atD [.int a,.int b,.int c] k=some (.int v):=by
  obtain⟨v,hv,av⟩:=zeN (zs:=[a,b,c]) (k:=k) h0 h1
  refine⟨v,?_,av⟩
  simp only [qh,List.not_mem_nil,or_false] at hv
  rcases hv with rfl | rfl | rfl<;>assumption
theorem fb1 {x y m k:Int}(hx:Bd 198 x)(hy:Bd 198 y)(m0:0<=m)(m1:m<100)(k0:0<=k)(k1:k<100):Bd 230 ((x+y)/2+m-k):=by
 unfold Bd at *;omega
theorem fb2 {x w:Int}(hx:Bd 230 x)(hw:Bd 190 w):Bd 250 (x+w):=by
 unfold Bd at *;omega
theorem fb3 {a b m:Int}(ha:Bd 250 a)(hb:Bd 250 b)(m0:0<=m)(m1:m<b-a+3):Bd 260 (a+m-1):=by
 unfold Bd at *;omega
theorem fb4 {a e:Int}(ha:Bd 260 a)(e0:0<=e)(e1:e<=1000):Bd 280 (a+e):=by
 unfold Bd at *;omega
theorem fb5 {x y:Int}(hx:Bd 175 x)(hy:Bd 175 y):(0:Int)<=(x-y).natAbs/\Bd 190 ((x-y).natAbs:Int)/\Bd 190 ((x-y).natAbs/3:Int):=by
 unfold Bd at *
 have h:(x-y).natAbs<2 ^ 190:=by omega
 generalize (x-y).natAbs=k at h
 exact⟨Int.natCast_nonneg _,h,by omega⟩
theorem fb6 {m:Int}(m0:-10<=m)(m1:m<100):Bd 190 m:=by
 show _<2 ^ 190;omega
structure FgW (h0 h1:Int)(F:Fg):Prop where
 v:FgV F
 a:h0-1<=F.f
 b:F.f<=h1+1
 c:F.l<=F.f+1000
theorem zvG {h0 h1 a w b r m e g s:Int}(u0:Bd 250 a)(u1:Bd 250 (a+w))(u2:Bd 250 b)(u3:Bd 250 (b+r))(u4:Bd 260 (h0+m-1))(u5:Bd 280 (h0+m-1+e))(bg:Bd 190 g)(bs:Bd 190 s)(w0:0<=w)(r0:0<=r)(m0:0<=m)(m1:m<h1-h0+3)(e0:0<=e)(e1:e<=1000):FgW h0 h1 ⟨a,a+w,b,b+r,h0+m-1,h0+m-1+e,g,s⟩ :=
 ⟨⟨⟨by dsimp only;omega,by dsimp only;omega,u0.mono (by decide),u1.mono (by decide),u2.mono (by decide),u3.mono (by decide),bg.mono (by decide),bs.mono (by decide)⟩,by dsimp only;omega,u4.mono (by decide),u5.mono (by decide)⟩,by dsimp only;omega,by dsimp only;omega,by dsimp only;omega⟩
def zd3:DSp:=fun ds S Q=>∃ (c:Int) (x y:D) (bs:List (Str×(Int×Int))) (h0 h1:Int),ds=[.int c,x,y,.int h0,.int h1]/\Lst S y (bs.map bcD)/\1<=bs.length/\bs.length<=12/\(∀ b∈bs,Bd 175 b.2.1/\Bd 198 b.2.2)/\h0<=h1/\Bd 250 h0/\Bd 250 h1/\∀ F:Fg,FgW h0 h1 F->Q (fgD F) S
def zfR:DS :=
    (zG (zM (dOp oIx (zf 2) (dCall zP (zm (zf 0) (zm (dC (.int 50)) (zm (dB zaH (zm (zf 2) zB)) zB))))) (zE 5))
 (zG (zM (dOp oIx (zf 2) (dCall zP (zm (zf 0) (zm (dC (.int 51)) (zm (dB zaH (zm (zf 2) zB)) zB))))) (zE 6))
 (zG (zM (dOp zah (dOp zad (dOp oDiv (dOp zad (dOp oIx (zf 5) (dC (.int 1))) (dOp oIx (zf 6) (dC (.int 1)))) (dC (.int 2))) (dCall zP (zm (zf 0) (zm (dC (.int 52)) (zm (dC (.int 7)) zB))))) (dC (.int 3))) (zE 7))
 (zG (zM (dOp zah (dOp zad (dOp oDiv (dOp zad (dOp oIx (zf 5) (dC (.int 2))) (dOp oIx (zf 6) (dC (.int 2)))) (dC (.int 2))) (dCall zP (zm (zf 0) (zm (dC (.int 53)) (zm (dC (.int 9)) zB))))) (dC (.int 5))) (zE 8))
 (zG (zM (dOp zah (dOp zad (zf 3) (dCall zP (zm (zf 0) (zm (dC (.int 54)) (zm (dOp zad (dOp zah (zf 4) (zf 3)) (dC (.int 3))) zB))))) (dC (.int 1))) (zE 9))
 (zG (zM (dOp zad (zf 9) (dOp oIx (zba (zm (dCall zP (zm (zf 0) (zm (dC (.int 55)) (zm (dC (.int 4)) zB)))) (zm (dCall zP (zm (zf 0) (zm (dC (.int 55)) (zm (dC (.int 12)) zB)))) (zm (dC (.int 1000)) zB)))) (dCall zP (zm (zf 0) (zm (dC (.int 56)) (zm (dC (.int 3)) zB)))))) (zE 10))
 (zG (zM (dOp oIx (zba (zm (dCall zP (zm (zf 0) (zm (dC (.int 57)) (zm (dC (.int 3)) zB)))) (zm (dCall zP (zm (zf 0) (zm (dC (.int 57)) (zm (dC (.int 9)) zB)))) (zm (dB zl8 (zm (dOp zah (dOp oIx (zf 5) (dC (.int 1))) (dOp oIx (zf 6) (dC (.int 1)))) zB)) zB)))) (dCall zP (zm (zf 0) (zm (dC (.int 58)) (zm (dC (.int 3)) zB))))) (zE 11))
 (zG (zM (dOp oIx (zba (zm (dC (.int 0)) (zm (dOp zah (dCall zP (zm (zf 0) (zm (dC (.int 59)) (zm (dC (.int 5)) zB)))) (dC (.int 2))) (zm (dOp oDiv (dB zl8 (zm (dOp zah (dOp oIx (zf 5) (dC (.int 1))) (dOp oIx (zf 6) (dC (.int 1)))) zB)) (dC (.int 3))) zB)))) (dCall zP (zm (zf 0) (zm (dC (.int 60)) (zm (dC (.int 3)) zB))))) (zE 12))
 (zG (zM (dOp oIx (zba (zm (dC (.int 0)) (zm (dC (.int 0)) (zm (dOp zah (dCall zP (zm (zf 0) (zm (dC (.int 61)) (zm (dC (.int 5)) zB)))) (dC (.int 2))) zB)))) (dCall zP (zm (zf 0) (zm (dC (.int 62)) (zm (dC (.int 3)) zB))))) (zE 13))
 (zY (dTup (zm (zf 7) (zm (dOp zad (zf 7) (zf 11)) (zm (zf 8) (zm (dOp zad (zf 8) (dCall zP (zm (zf 0) (zm (dC (.int 63)) (zm (dC (.int 9)) zB))))) (zm (zf 9) (zm (zf 10) (zm (zf 12) (zm (zf 13) zB)))))))))))))))))))
theorem zmW:∀ ds So Q,zd3 ds So Q->ds.length=5:=by rintro ds So Q ⟨_,_,_,_,_,_,rfl,_⟩;rfl
theorem zof:BodyOk 14 zfR zd3:=by
 rintro ds S Q ⟨c,x,y,bs,h0,h1,rfl,hy,l1,l12,hbs,hh,b0,b1,q⟩
 unfold zfR
 walk_at "g"
 try walk_at "drho"
 rw [qa]
 refine⟨c,_,_,rfl,by decide,by decide,by omega,fun i i0 i1 _=>?_⟩
 obtain⟨o,ho,ao⟩:=zdz (bs:=bs) i0 i1
 obtain⟨bo1,bo2⟩:=hbs o (qd ho)
 walk_at "g"
 try walk_at "drho2"
 rw [qa]
 refine⟨c,_,_,rfl,by decide,by decide,by omega,fun j j0 j1 _=>?_⟩
 obtain⟨t,ht,at'⟩:=zdz (bs:=bs) j0 j1
 obtain⟨bt1,bt2⟩:=hbs t (qd ht)
 clear ho ht ao hbs
 walk_at "g"
 try walk_at "drho2"
 refine⟨c,_,_,rfl,by decide,by decide,by decide,fun m1 m10 m11 _=>?_⟩
 walk_at "g"
 try walk_at "drho2"
 refine⟨c,_,_,rfl,by decide,by decide,by decide,fun m2 m20 m21 _=>?_⟩
 walk_at "g"
 try walk_at "drho2"
 refine⟨c,_,_,rfl,by decide,by decide,by omega,fun m3 m30 m31 _=>?_⟩
 walk_at "g"
 refine⟨c,_,_,rfl,by decide,by decide,by omega,fun m4 m40 m41 _=>?_⟩
 walk_at "g"
 refine⟨c,_,_,rfl,by decide,by decide,by omega,fun m5 m50 m51 _=>?_⟩
 walk_at "g"
 try walk_at "drho2"
 refine⟨c,_,_,rfl,by decide,by decide,by omega,fun m6 m60 m61 _=>?_⟩
 obtain⟨e,⟨e0,e1⟩,ae⟩:=at3 (a:=m4) (b:=m5) (c:=1000) (k:=m6) (P:=fun v=>0<=v/\v<=1000) m60 m61 (by omega) (by omega) (by omega)
 walk_at "g"
 refine⟨c,_,_,rfl,by decide,by decide,by omega,fun n4 n40 n41 _=>?_⟩
 walk_at "g"
 refine⟨c,_,_,rfl,by decide,by decide,by omega,fun n5 n50 n51 _=>?_⟩
 walk_at "g"
 try walk_at "drho2"
 refine⟨c,_,_,rfl,by decide,by decide,by omega,fun n6 n60 n61 _=>?_⟩
 obtain⟨wd,⟨wd0,bwd⟩,awd⟩:=at3 (a:=n4) (b:=n5) (c:=(o.2.1-t.2.1).natAbs) (k:=n6) (P:=fun v=>0<=v/\Bd 190 v) n60 n61 ⟨n40,fb6 (by omega) (by omega)⟩ ⟨n50,fb6 (by omega) (by omega)⟩ ⟨(fb5 bo1 bt1).1,(fb5 bo1 bt1).2.1⟩
 walk_at "g"
 refine⟨c,_,_,rfl,by decide,by decide,by omega,fun p4 p40 p41 _=>?_⟩
 walk_at "g"
 try walk_at "drho2"
 refine⟨c,_,_,rfl,by decide,by decide,by omega,fun p6 p60 p61 _=>?_⟩
 obtain⟨dr,bdr,adr⟩:=at3 (a:=0) (b:=p4-2) (c:=(o.2.1-t.2.1).natAbs/3) (k:=p6) (P:=fun v=>Bd 190 v) p60 p61 (fb6 (by decide) (by decide)) (fb6 (by omega) (by omega)) (fb5 bo1 bt1).2.2
 walk_at "g"
 refine⟨c,_,_,rfl,by decide,by decide,by omega,fun q4 q40 q41 _=>?_⟩
 walk_at "g"
 try walk_at "drho2"
 refine⟨c,_,_,rfl,by decide,by decide,by omega,fun q6 q60 q61 _=>?_⟩
 obtain⟨rs,brs,ars⟩:=at3 (a:=0) (b:=0) (c:=q4-2) (k:=q6) (P:=fun v=>Bd 190 v) q60 q61 (fb6 (by decide) (by decide)) (fb6 (by decide) (by decide)) (fb6 (by omega) (by omega))
 walk_at "g"
 refine⟨c,_,_,rfl,by decide,by decide,by omega,fun r4 r40 r41 _=>?_⟩
 walk_at "g"
 have v0:=fb1 (k:=3) (bo1.mono (by decide)) (bt1.mono (by decide)) m10 (by omega) (by decide) (by decide)
 have v2:=fb1 (k:=5) (bo2.mono (by decide)) (bt2.mono (by decide)) m20 (by omega) (by decide) (by decide)
 have v4:=fb3 b0 b1 m30 m31
 exact zan rfl (q _ (zvG (v0.mono (by decide)) (fb2 v0 bwd) (v2.mono (by decide)) (fb2 v2 (fb6 (by omega) (by omega))) v4 (fb4 v4 e0 e1) bdr brs wd0 r40 m30 m31 e0 e1))
structure VlW (V:Vl)(most fogs hours:Int):Prop where
 ok:zch V
 nm:zim (V.bs.map (·.1))
 mb:(V.bs.length:Int)<=most
 mf:(V.fs.length:Int)<=fogs
 hr:V.h1<V.h0+hours
 d3:V.dl<=3
 h59:∀ z,V.hz=some z->z<=10 ^ 59
 st:∀ b∈V.bs,Bd 175 b.2.1/\Bd 198 b.2.2
 cb:∀ c∈V.cs,Bd 169 c.1/\Bd 169 c.2
 fw:∀ F∈V.fs,FgW V.h0 V.h1 F
 b0:Bd 170 V.h0
def zdn:DSp:=fun ds S Q=>∃ (ns:List Int) (most fogs hours:Int),ds=[.rl (ns.map D.int),.int most,.int fogs,.int hours]/\ns.length<=63/\(∀ n∈ns,Hg n)/\1<=most/\most<=12/\0<=fogs/\fogs<=12/\1<=hours/\hours<=10 ^ 49/\∀ (T:Sto) (x y z:D) (V:Vl),VlW V most fogs hours->VlS (S++T) x y z V->Q (vlD x y z V) (S++T)
def ze5:DS :=
    (zG (zM (dCall zcV (zm (zf 0) (zm (dC (.int 0)) zB))) (zE 4))
 (zG (zM (dOp oEq (dCall zP (zm (zf 4) (zm (dC (.int 0)) (zm (dC (.int 3)) zB)))) (dC (.int 0))) (zE 5))
 (zG (zM (dOp zad (dC (.int 1)) (dCall zP (zm (zf 4) (zm (dC (.int 1)) (zm (zf 1) zB))))) (zE 6))
 (zG (zM (dCall zcf (zm (dCall zcV (zm (zf 0) (zm (dC (.int 1)) zB))) (zm (dOp zad (dC (.int 2)) (dCall zP (zm (zf 4) (zm (dC (.int 2)) (zm (dC (.int 6)) zB))))) (zm (zf 5) zB)))) (zE 7))
 (zG (zM (dOp zad (dCall zcv (zm (zf 0) (zm (dC (.int 2)) (zm (dOp zad (zf 6) (zf 2)) zB)))) (dLC 1 [] (zcJ (zm (zf 6) zB)) (zE 0) zbz (dC (.int 0)))) (zE 8))
 (zG (zM (dCall zcb (zm (zf 8) (zm (zf 7) (zm (dCall zcS (zm (zf 4) (zm (zf 6) zB))) zB)))) (zE 9))
 (zG (zM (dOp oIx (zba (zm (dOp zah (dCall zP (zm (zf 4) (zm (dC (.int 3)) (zm (dC (.int 9)) zB)))) (dC (.int 4))) (zm (dOp oMod (zf 4) (dC (.int 100000000000000000000000000000000000000000000000000))) zB))) (dOp oDiv (dCall zP (zm (zf 4) (zm (dC (.int 4)) (zm (dC (.int 3)) zB)))) (dC (.int 2)))) (zE 10))
 (zG (zM (dOp zad (zf 10) (dCall zP (zm (zf 4) (zm (dC (.int 5)) (zm (zf 3) zB))))) (zE 11))
 (zG (zM (dLC 1 [7,9,10,11] (zaY (dSl zcX (zf 8) (some (zf 6)) (some (dOp zah (dB zaH (zm (zf 8) zB)) (zf 6))))) (zE 0) zbz (dCall zd3 (zm (zf 0) (zm (zf 1) (zm (zf 2) (zm (zf 3) (zm (zf 4) zB))))))) (zE 12))
 (zG (zM (dOp oIx (zba (zm (dC .non) (zm (dCall zP (zm (zf 4) (zm (dC (.int 6)) (zm (dC (.int 400)) zB)))) (zm (dC (.int 100000000000000000000000000000000000000000000000000000000000)) zB)))) (dCall zP (zm (zf 4) (zm (dC (.int 7)) (zm (dC (.int 3)) zB))))) (zE 13))
 (zY (dTup (zm (zf 7) (zm (zf 9) (zm (zf 12) (zm (zf 13) (zm (zf 10) (zm (zf 11) (zm (dCall zP (zm (zf 4) (zm (dC (.int 8)) (zm (dC (.int 4)) zB)))) zB)))))))))))))))))))
theorem zlR:∀ ds So Q,zdn ds So Q->ds.length=4:=by rintro ds So Q ⟨_,_,_,_,rfl,_⟩;rfl
theorem znd:BodyOk 14 ze5 zdn:=by
  rintro ds S Q ⟨ns,most,fogs,hours,rfl,hl,hg,m1,m12,f0,f12,hr1,hr2,q⟩
  unfold ze5
  walk_at "g"
  refine⟨ns,0,rfl,hg,by decide,fun hd hhd=>?_⟩
  walk_at "g"
  refine⟨hd,0,3,rfl,by decide,by decide,by decide,fun a0 _ _ _=>?_⟩
  walk_at "g"
  refine⟨hd,1,most,rfl,by decide,by decide,by omega,fun a1 a10 a11 _=>?_⟩
  walk_at "g"
  refine⟨ns,1,rfl,hg,by decide,fun c1 hc1=>?_⟩
  walk_at "g"
  refine⟨hd,2,6,rfl,by decide,by decide,by decide,fun a2 a20 a21 _=>?_⟩
  walk_at "g"
  refine⟨c1,_,_,rfl,hc1,by omega,by omega,fun cs hcl gr hcb=>?_⟩
  unfold New
  walk_at "drho"
  obtain⟨S1,hS1⟩:∃ S1:Sto,S1=S++[.lst (cs.map p2)]:=⟨_,rfl⟩
  have kc1:Lst S1 (.ref S.length) (cs.map p2):=hS1▸Lst.at0
  rw [<- hS1]
  walk_at "g"
  refine⟨ns,2,1+a1+fogs,rfl,hl,by decide,by omega,by omega,fun zs hzl hzs=>?_⟩
  walk_at "g"
  refine⟨1+a1,rfl,by omega,by omega,?_⟩
  refine za3 (fun _=>true) (onI fun _=>.int 0) True.intro (by rw [zaE];unfold big;omega) (fun i d ys hd hw=>?_) ?_
  . obtain⟨hi,rfl⟩:=zbq hd
    walk_at "g"
    exact zbL hd hw rfl rfl
  rw [filter_true]
  obtain⟨os,hos,hol,hoz⟩:∃ os:List Int,(upto 0 (1+a1).toNat).map (onI fun _=>D.int 0)=os.map D.int/\os.length=(1+a1).toNat/\∀ z∈os,z=0:=by
    refine⟨List.replicate (1+a1).toNat 0,?_,by simp,fun z hz=>List.eq_of_mem_replicate hz⟩
    unfold upto
    rw [List.map_map,List.map_replicate]
    refine List.ext_getElem (by simp) fun j h1 h2=>?_
    simp [onI]
  rw [hos]
  clear hos
  walk_at "g"
  refine zeT (xs:=zs.map D.int) (ys:=os.map D.int) (by walk_at "dlat") (by walk_at "dlat") (by rw [qa,qa];unfold big;omega) ?_
  rw [<- List.map_append]
  have hmn:∀ n∈zs++os,0<=n/\n<10 ^ 60:=fun n hn=>by
    rcases List.mem_append.mp hn with h | h
    . exact hzs n h
    . rw [hoz n h];decide
  have hml:(zs++os).length=zs.length+(1+a1).toNat:=by rw [qe,hol]
  generalize zs++os=nb at hmn hml
  walk_at "g"
  walk_at "drho2"
  obtain⟨S2,hS2⟩:∃ S2:Sto,S2=S1++[.lst (zs.map D.int),.lst (os.map D.int),.lst (nb.map D.int)]:=⟨_,rfl⟩
  have kn2:Lst S2 (.ref (S1.length+2)) (nb.map D.int):=hS2▸Lst.at rfl
  have kc2:Lst S2 (.ref S.length) (cs.map p2):=hS2▸kc1.old
  rw [<- hS2]
  walk_at "g"
  refine⟨hd,_,rfl,by omega,by omega,fun nm hnl hnm=>?_⟩
  unfold New
  obtain⟨S3,hS3⟩:∃ S3:Sto,S3=S2++[.lst (nm.map D.str)]:=⟨_,rfl⟩
  have ks3:Lst S3 (.ref S2.length) (nm.map D.str):=hS3▸Lst.at0
  have kn3:Lst S3 (.ref (S1.length+2)) (nb.map D.int):=hS3▸kn2.old
  have kc3:Lst S3 (.ref S.length) (cs.map p2):=hS3▸kc2.old
  rw [<- hS3]
  walk_at "g"
  refine⟨_,_,_,nb,cs,nm,rfl,kn3,kc3,ks3,by omega,by omega,hmn,gr,hnm,fun bs hbl hbo=>?_⟩
  unfold New
  obtain⟨S4,hS4⟩:∃ S4:Sto,S4=S3++[.lst (bs.map bcD)]:=⟨_,rfl⟩
  have kb4:Lst S4 (.ref S3.length) (bs.map bcD):=hS4▸Lst.at0
  have kn4:Lst S4 (.ref (S1.length+2)) (nb.map D.int):=hS4▸kn3.old
  have kc4:Lst S4 (.ref S.length) (cs.map p2):=hS4▸kc3.old
  rw [<- hS4]
  walk_at "g"
  refine⟨hd,3,9,rfl,by decide,by decide,by decide,fun a3 a30 a31 _=>?_⟩
  walk_at "g"
  refine⟨hd,4,3,rfl,by decide,by decide,by decide,fun a4 a40 a41 _=>?_⟩
  have r1:=Int.emod_nonneg hd (show (100000000000000000000000000000000000000000000000000:Int)≠0 by decide)
  have r2:=Int.emod_lt_of_pos hd (show (0:Int)<100000000000000000000000000000000000000000000000000 by decide)
  walk_at "g"
  obtain⟨h0,hh0,ah0⟩:=zeN (zs:=[a3-4,hd%100000000000000000000000000000000000000000000000000]) (k:=a4/2) (by omega) (by show _<(2:Int);omega)
  have ah0':atD [.int (a3-4),.int (hd%100000000000000000000000000000000000000000000000000)] (a4/2)=some (.int h0):=ah0
  have bh0:-4<=h0/\h0<10 ^ 50:=by
    simp only [qh,List.not_mem_nil,or_false] at hh0
    rcases hh0 with rfl | rfl<;>omega
  clear hh0 ah0
  walk_at "g"
  refine⟨hd,5,hours,rfl,by decide,by decide,by omega,fun a5 a50 a51 _=>?_⟩
  obtain⟨S5,hS5⟩:∃ S5:Sto,S5=S4++[.lst [.int (a3-4),.int (hd%100000000000000000000000000000000000000000000000000)]]:=⟨_,rfl⟩
  have kb5:Lst S5 (.ref S3.length) (bs.map bcD):=hS5▸kb4.old
  have kn5:Lst S5 (.ref (S1.length+2)) (nb.map D.int):=hS5▸kn4.old
  have kc5:Lst S5 (.ref S.length) (cs.map p2):=hS5▸kc4.old
  rw [<- hS5]
  walk_at "drho2"
  walk_at "g"
  rw [qa,zfj]
  have hfl:(cutD nb (some (1+a1)) (some ((nb.length:Int)-(1+a1)))).length<=fogs.toNat:=by
    refine Nat.le_trans (zid _ _ _) ?_
    unfold slD
    dsimp only
    rw [if_neg (by omega),if_neg (by omega)]
    omega
  generalize cutD nb (some (1+a1)) (some ((nb.length:Int)-(1+a1)))=fcs at hfl
  obtain⟨S6,hS6⟩:∃ S6:Sto,S6=S5++[.lst (fcs.map D.int)]:=⟨_,rfl⟩
  have kf6:Lst S6 (.ref S5.length) (fcs.map D.int):=hS6▸Lst.at0
  have kb6:Lst S6 (.ref S3.length) (bs.map bcD):=hS6▸kb5.old
  have kc6:Lst S6 (.ref S.length) (cs.map p2):=hS6▸kc5.old
  rw [<- hS6]
  have hb250:Bd 250 h0/\Bd 250 (h0+a5)/\Bd 170 h0:=⟨by show _<2 ^ 250;omega,by show _<2 ^ 250;omega,by show _<2 ^ 170;omega⟩
  refine zjY (fun i ys S'=>S'=S6/\∃ fs:List Fg,ys=fs.map fgD/\fs.length=i/\∀ F∈fs,FgW h0 (h0+a5) F) ⟨rfl,[],rfl,rfl,by simp⟩ (fun i ys S' h=>h.1▸kf6) (by rw [qa];unfold big;omega) ?_ ?_
  . rintro i d ys S' hd ⟨rfl,fs,rfl,hfl',hfs⟩
    obtain⟨v,_,rfl⟩:=zc6 hd
    walk_at "g"
    refine⟨v,_,_,bs,h0,h0+a5,rfl,kb6,by omega,by omega,fun b hb=>(hbo.st b hb).2,by omega,hb250.1,hb250.2.1,fun F hF=>?_⟩
    refine⟨rfl,fs++[F],by rw [List.map_append];rfl,by simp [hfl'],fun G hG=>?_⟩
    rcases List.mem_append.mp hG with h | h
    . exact hfs G h
    . have:G=F:=by simpa using h
      subst this;exact hF
  rintro ys S' ⟨rfl,fs,rfl,hfl2,hfs⟩
  rw [qa] at hfl2
  unfold New
  obtain⟨S7,hS7⟩:∃ S7:Sto,S7=S'++[.lst (fs.map fgD)]:=⟨_,rfl⟩
  have kf7:Lst S7 (.ref S'.length) (fs.map fgD):=hS7▸Lst.at0
  have kb7:Lst S7 (.ref S3.length) (bs.map bcD):=hS7▸kb6.old
  have kc7:Lst S7 (.ref S.length) (cs.map p2):=hS7▸kc6.old
  have e7:∃ T,S7=S++T:=zcd (zcd (zcd (zcd (zcd (zcd ⟨_,hS1⟩ hS2) hS3) hS4) hS5) hS6) hS7
  rw [<- hS7]
  clear hS7 hS6 hS5 hS4 hS3 hS2 hS1
  walk_at "g"
  refine⟨hd,6,400,rfl,by decide,by decide,by decide,fun a6 a60 a61 _=>?_⟩
  walk_at "g"
  refine⟨hd,7,3,rfl,by decide,by decide,by decide,fun a7 a70 a71 _=>?_⟩
  obtain⟨hz,ahz,hz0⟩:∃ hz:Option Int,atD [.non,.int a6,.int 100000000000000000000000000000000000000000000000000000000000] a7=some (zea hz)/\∀ z,hz=some z->0<=z/\z<=10 ^ 59:=by
    have:a7=0\/a7=1\/a7=2:=by omega
    rcases this with rfl | rfl | rfl
    . exact⟨none,rfl,fun z h=>by cases h⟩
    . exact⟨some a6,rfl,fun z h=>by cases h;omega⟩
    . exact⟨some 100000000000000000000000000000000000000000000000000000000000,rfl,fun z h=>by cases h;decide⟩
  walk_at "g"
  refine⟨hd,8,4,rfl,by decide,by decide,by decide,fun a8 a80 a81 _=>?_⟩
  walk_at "g"
  obtain⟨T7,rfl⟩:=e7
  rw [List.append_assoc]
  have hbl':(bs.length:Int)=1+a1:=by omega
  refine fin_same (q _ _ _ _ ⟨cs,bs,fs,hz,h0,h0+a5,a8⟩ ?_ (by rw [<- List.append_assoc];exact VlS.old ⟨kc7,kb7,kf7⟩))
  exact { ok:={ gr:=gr,b1:=by show 1<=bs.length;omega,b12:=by show bs.length<=12;omega,nm:=fun b hb=>hbo.nm.nm (List.mem_map.mpr ⟨b,hb,rfl⟩),nd:=let ⟨_,_,_,_,_,_,_,_,h,_⟩:=hbo.nm;h,st:=fun b hb=>(hbo.st b hb).1,bd:=fun b hb=>⟨(hbo.st b hb).2.1.mono (by decide),(hbo.st b hb).2.2.mono (by decide)⟩,f12:=by show fs.length<=12;omega,fg:=fun F hF=>(hfs F hF).v,hz:=fun z h=>(hz0 z h).1,hh:=by show h0<=h0+a5;omega,b0:=hb250.1,bl:=hb250.2.1,dl:=a80 },nm:=hbo.nm,mb:=by show (bs.length:Int)<=most;omega,mf:=by show (fs.length:Int)<=fogs;omega,hr:=by show h0+a5<h0+hours;omega,d3:=by show a8<=3;omega,h59:=fun z h=>(hz0 z h).2,st:=fun b hb=>(hbo.st b hb).2,cb:=hcb,fw:=hfs,b0:=hb250.2.2 }
def za0:DSp:=fun ds S Q=>∃ (x:D) (cs:List (Int×Int)),ds=[x]/\Lst S x (cs.map p2)/\Grd cs/\Q .non S
def zbA:DS :=
    (zG (sIf (dOr (dT (dOp oLt (dB zaH (zm (zf 0) zB)) (dC (.int 2)))) (dT (dOp oGt (dB zaH (zm (zf 0) zB)) (dC (.int 40))))) zcw z9)
 (zbu (zir (zm (dC (.int 1)) (zm (dB zaH (zm (zf 0) zB)) zB))) (zE 1) (sIf (dT (dOp oLe (dOp oIx (dOp oIx (zf 0) (zf 1)) (dC (.int 0))) (dOp oIx (dOp oIx (zf 0) (dOp zah (zf 1) (dC (.int 1)))) (dC (.int 0))))) zcw z9)))
theorem zf1:∀ ds So Q,za0 ds So Q->ds.length=1:=by rintro ds So Q ⟨_,_,rfl,_⟩;rfl
theorem zgm:BodyOk 2 zbA za0:=by
 rintro ds S Q ⟨x,cs,rfl,hx,g,q⟩
 unfold zbA
 have g1:=g.two
 have g2:=g.most
 walk_at "g"
 rw [qa]
 refine r_d (fun z=>absurd z (by omega)) (fun _=>?_)
 walk_at "g"
 rw [qa]
 refine r_d (fun z=>absurd z (by omega)) (fun _=>?_)
 walk_at "g"
 rw [qa]
 refine⟨_,_,rfl,?_⟩
 refine zaM (fun i Z S'=>S'=S/\∃ w:Option D,Z=[some x,w]) ⟨rfl,none,rfl⟩ (fun _ _ _ _=>True.intro) ?_ ?_
 ·rintro i d Z S' hd ⟨rfl,w,rfl⟩
  obtain⟨hi,rfl⟩:=zbq hd
  obtain⟨a,ha,aa⟩:=zgQ (cs:=cs) (k:=1+(i:Int)) (by omega) (by omega)
  obtain⟨b,hb,ab⟩:=zgQ (cs:=cs) (k:=1+(i:Int)-1) (by omega) (by omega)
  have hlt:=zdr g (show (1+(i:Int)-1).toNat<(1+(i:Int)).toNat by omega) hb ha
  walk_at "g"
  refine r_d (fun z=>absurd z (by omega)) (fun _=>?_)
  walk_at "g"
  exact⟨rfl,_,rfl⟩
 ·rintro Z S' ⟨rfl,w,rfl⟩
  exact fin_same q
def zc5:DSp:=fun ds S Q=>∃ (S0:Sto) (x:D) (cs:List (Int×Int)),ds=[.ref S0.length,x]/\S=S0++[.ins "Ground" []]/\Lst S0 x (cs.map p2)/\Grd cs/\Q .non (S0++[.ins "Ground" [("corners",.ref (S0.length+1))],.lst (cs.map p2)])
def zbU:DS :=
    (zG (zaR (dCall za0 (zm (zf 1) zB)))
 (zeM "Ground" "corners" (zf 0) (dB zeA (zm (zf 1) zB))))
theorem zjP:∀ ds So Q,zc5 ds So Q->ds.length=2:=by rintro ds So Q ⟨_,_,_,rfl,_⟩;rfl
theorem zkp:BodyOk 2 zbU zc5:=by
 rintro ds S Q ⟨S0,x,cs,rfl,rfl,hx,g,q⟩
 unfold zbU
 have hx':Lst (S0++[.ins "Ground" []]) x (cs.map p2):=hx.old
 walk_at "g"
 refine⟨x,cs,rfl,hx',g,?_⟩
 walk_at "g"
 refine⟨S0.length,[],rfl,zaU,by decide,?_⟩
 rw [zcY]
 exact fin_same q
def zfM:DSp:=zo3 "Ground" zc5
def za2:DSp:=fun ds S Q=>∃ (x y:D) (xs ys:List D),ds=[x,y]/\Lst S x xs/\Lst S y ys/\1<=xs.length/\xs.length<=12/\ys.length<=12/\Q .non S
def zbC:DS :=
    (zG (sIf (dOr (dT (dOp oLt (dB zaH (zm (zf 0) zB)) (dC (.int 1)))) (dT (dOp oGt (dB zaH (zm (zf 0) zB)) (dC (.int 12))))) zcw z9)
 (sIf (dT (dOp oGt (dB zaH (zm (zf 1) zB)) (dC (.int 12)))) zcw z9))
theorem zgd:∀ ds So Q,za2 ds So Q->ds.length=2:=by rintro ds So Q ⟨_,_,_,_,rfl,_⟩;rfl
theorem zgu:BodyOk 2 zbC za2:=by
 rintro ds S Q ⟨x,y,xs,ys,rfl,hx,hy,h1,h2,h3,q⟩
 unfold zbC
 walk_at "g"
 rw [decide_eq_false (show ¬ ((xs.length:Int)<1) by omega)]
 walk_at "g"
 rw [decide_eq_false (show ¬ ((12:Int)<xs.length) by omega)]
 walk_at "g"
 rw [decide_eq_false (show ¬ ((12:Int)<ys.length) by omega)]
 walk_at "g"
 exact fin_same q
def zd4:DSp:=fun ds S Q=>∃ z:Str,ds=[.str z]/\z.length<=1000/\Q (.bl (nmB z)) S
def zfV:DS :=
    (zG (sIf (dOr (dT (dOp oLt (dB zaH (zm (zf 0) zB)) (dC (.int 1)))) (dT (dOp oGt (dB zaH (zm (zf 0) zB)) (dC (.int 8))))) (zY (dC (.bl false))) z9)
 (zY (dB zhS (zm (dLC 1 [] (zaY (zf 0)) (zE 0) zbz (dOp oIn (zf 0) (dC (.str "abcdefghijklmnopqrstuvwxyz")))) zB))))
theorem znk:∀ ds So Q,zd4 ds So Q->ds.length=1:=by rintro ds So Q ⟨_,rfl,_⟩;rfl
theorem zos:BodyOk 1 zfV zd4:=by
 rintro ds S Q ⟨z,rfl,hz,q⟩
 unfold zfV
 have hb:z.length<=big:=by unfold big;omega
 walk_at "g"
 refine zqh hb ?_
 walk_at "g"
 unfold nmB at q
 refine r_d (fun h=>?_) (fun h=>?_)
 ·walk_at "g"
  rw [decide_eq_false (show ¬ 1<=z.length by omega)] at q
  exact fin_same q
 rw [decide_eq_true (show 1<=z.length by omega)] at q
 walk_at "g"
 refine zqh hb ?_
 walk_at "g"
 refine r_d (fun h=>?_) (fun h=>?_)
 ·walk_at "g"
  rw [decide_eq_false (show ¬ z.length<=8 by omega)] at q
  exact fin_same q
 rw [decide_eq_true (show z.length<=8 by omega)] at q
 walk_at "g"
 refine za3 (fun _=>true) (onC fun c=>decide (c∈abc)) True.intro (by rw [zqt];exact hb) (fun i d ys hd hw=>?_) ?_
 ·obtain⟨c,_,rfl⟩:=zpT hd
  walk_at "g"
  rw [zvT]
  exact zbL hd hw rfl rfl
 rw [filter_true,zpd]
 walk_at "g"
 refine zh9 Lst.at0 rfl ?_
 refine zan rfl ?_
 rw [List.all_map]
 exact q
def zbd:DSp:=fun ds S Q=>∃ (x:D) (zs:List Str),ds=[x]/\Lst S x (zs.map D.str)/\zs.length<=100/\(∀ z∈zs,nmB z=true)/\zs.Nodup/\Q .non S
def zbW:DS :=
    (zG (sIf (zd8 (dT (dB zhS (zm (dLC 1 [] (zaY (zf 0)) (zE 0) zbz (dCall zd4 (zm (zf 0) zB))) zB)))) zcw z9)
 (sIf (dT (dOp oLt (dB zom (zm (zf 0) zB)) (dB zaH (zm (zf 0) zB)))) zcw z9))
theorem zg9:∀ ds So Q,zbd ds So Q->ds.length=1:=by rintro ds So Q ⟨_,_,rfl,_⟩;rfl
theorem zhs:BodyOk 1 zbW zbd:=by
 rintro ds S Q ⟨x,zs,rfl,hx,hl,hn,nd,q⟩
 unfold zbW
 walk_at "g"
 refine za3 (fun _=>true) (onS fun z=>.bl (nmB z)) hx (by rw [qa];unfold big;omega) (fun i d ys hd hw=>?_) ?_
 ·obtain⟨z,hz,rfl⟩:=zsS hd
  walk_at "g"
  refine⟨z,rfl,by have:=(ziy.mp (hn z (qd hz))).2.1;omega,?_⟩
  exact zbL hd hw rfl rfl
 rw [filter_true,zt2,show zs.map (fun z=>D.bl (nmB z))=(zs.map nmB).map D.bl by rw [List.map_map];rfl]
 walk_at "g"
 refine zh9 (b:=true) Lst.at0 (by rw [List.all_map,List.all_eq_true];exact hn) ?_
 walk_at "g"
 refine zuK (zs:=zs) hx.old (by omega) ?_
 rw [zoT nd]
 have hx1:Lst (S++[Cell.lst ((zs.map nmB).map D.bl)]) x (zs.map D.str):=hx.old
 walk_at "g"
 rw [qa,decide_eq_false (show ¬ ((zs.length:Int)<zs.length) by omega)]
 walk_at "g"
 exact zan rfl q
def zdP:DSp:=fun ds S Q=>∃ (a b:Int×Int),ds=[p2 a,p2 b]/\zar a.1 b.2/\zar b.1 a.2/\Q (.bl (flt a b)) S
def zjL:DS :=
  (zY (dOp oLt (dOp zau (dOp oIx (zf 0) (dC (.int 0))) (dOp oIx (zf 1) (dC (.int 1)))) (dOp zau (dOp oIx (zf 1) (dC (.int 0))) (dOp oIx (zf 0) (dC (.int 1))))))
theorem zrH:∀ ds So Q,zdP ds So Q->ds.length=2:=by rintro ds So Q ⟨_,_,rfl,_⟩;rfl
theorem zsK:BodyOk 2 zjL zdP:=by
 rintro ds S Q ⟨a,b,rfl,c1,c2,q⟩
 unfold zjL
 walk_at "g"
 exact fin_same q
def zeq:DSp:=fun ds S Q=>∃ (g:D) (cs:List (Int×Int)) (p:Int×Int),ds=[g,p2 p]/\GAt S g cs/\Grd cs/\Bd 1000 p.1/\Bd 1000 p.2/\Q (.bl (decide (zi3 cs*p.2<=p.1)&&decide (p.1<=zhj cs*p.2))) S
def zii:DS :=
    (zG (zM (dTup (zm (dOp oIx (dOp oIx (zct "corners" (zf 0)) (dC (.int 0))) (dC (.int 0))) (zm (dC (.int 1)) zB))) (zE 2))
 (zG (zM (dTup (zm (dOp oIx (dOp oIx (zct "corners" (zf 0)) (dUn zcG (dC (.int 1)))) (dC (.int 0))) (zm (dC (.int 1)) zB))) (zE 3))
 (zY (ziq (ziu (dCall zdP (zm (zf 1) (zm (zf 2) zB)))) (ziu (dCall zdP (zm (zf 3) (zm (zf 1) zB))))))))
theorem zpA:∀ ds So Q,zeq ds So Q->ds.length=2:=by rintro ds So Q ⟨_,_,_,rfl,_⟩;rfl
theorem zqU:BodyOk 4 zii zeq:=by
 rintro ds S Q ⟨g,cs,p,rfl,⟨n,l,rfl,hn,hl⟩,gr,b1,b2,q⟩
 unfold zii
 have g1:=gr.two
 obtain⟨a,ha,ea⟩:=zdT gr
 obtain⟨z,hz,ez⟩:=zje gr
 have aa:atD (cs.map p2) 0=some (p2 a):=za5 (i:=0) (by rw [qg,ha];rfl)
 have az:atD (cs.map p2) (-1)=some (p2 z):=by
  have hne:cs≠[]:=fun e=>by rw [e] at g1;simp at g1
  have en:cs=cs.dropLast++[z]:=by
   have h2:=List.dropLast_concat_getLast hne
   have h3:cs.getLast hne=z:=by
    rw [List.getLast_eq_getElem]
    have hl':=zae hz
    rw [qb hl'] at hz
    cases hz;rfl
   rw [h3] at h2
   exact h2.symm
  rw [en,List.map_append];exact zfy
 obtain⟨ba,_⟩:=gr.bd a (qd ha)
 obtain⟨bz,_⟩:=gr.bd z (qd hz)
 rw [ea,ez] at q
 have e1:flt p (a.1,1)=decide (p.1<a.1*p.2):=by unfold flt;dsimp only;rw [Int.mul_one]
 have e2:flt (z.1,1) p=decide (z.1*p.2<p.1):=by unfold flt;dsimp only;rw [Int.mul_one]
 have c1:zar a.1 p.2:=.inl ⟨ba.mono (by decide),b2.mono (by decide)⟩
 have c2:zar z.1 p.2:=.inl ⟨bz.mono (by decide),b2.mono (by decide)⟩
 have c3:∀ u:Int,zar u 1:=fun u=>.inr (.inr (by decide))
 walk_at "g"
 refine⟨p,(a.1,1),rfl,c3 _,c1,?_⟩
 rw [e1]
 walk_at "g"
 refine zfF (fun g=>?_) (fun g=>?_)
 ·walk_at "g"
  refine⟨(z.1,1),p,rfl,c2,c3 _,?_⟩
  rw [e2]
  walk_at "g"
  rw [decide_eq_true (show a.1*p.2<=p.1 by omega),Bool.true_and] at q
  rw [show (!decide (z.1*p.2<p.1))=decide (p.1<=z.1*p.2) by rw [<- decide_not];exact decide_eq_decide.mpr (by omega)]
  exact fin_same q
 ·rw [decide_eq_false (show ¬ a.1*p.2<=p.1 by omega),Bool.false_and] at q
  exact fin_same q
def zbv:DSp:=fun ds S Q=>∃ (t b:Int),ds=[.int t,.int b]/\Q (.int ((Int.gcd t b:Nat):Int)) S
def zcj:DS :=
    (zG (zjS (dT (dOp oNe (zf 1) (dC (.int 0)))) (zG (zM (dOp oMod (zf 0) (zf 1)) (zE 2))
 (zG (zM (zf 1) (zE 0))
 (zM (zf 2) (zE 1)))))
 (zY (dB zl8 (zm (zf 0) zB))))
theorem zhT:∀ ds So Q,zbv ds So Q->ds.length=2:=by rintro ds So Q ⟨_,_,rfl,_⟩;rfl
theorem ziJ:BodyOk 3 zcj zbv:=by
 rintro ds S Q ⟨t,b,rfl,q⟩
 unfold zcj
 refine Dp.zoU ?_
 refine zuF (fun m Z S'=>S'=S/\∃ (x y:Int) (w:Option D),Z=[some (.int x),some (.int y),w]/\m=y.natAbs/\Int.gcd x y=Int.gcd t b) b.natAbs ⟨rfl,_,_,none,rfl,rfl,rfl⟩ ?_
 rintro m Z S' ⟨rfl,x,y,w,rfl,rfl,e⟩
 walk_at "g"
 refine zfF (fun h0=>?_) (fun h0=>?_)
 ·refine zqv ?_
  refine Dp.zoU ?_
  refine Dp.zsh ?_
  refine Dp.zn6 ?_
  refine Dp.zgy rfl ?_
  refine Dp.zgy rfl ?_
  refine zvI h0 ?_
  walk_at "g"
  exact⟨_,zm9 h0,rfl,_,_,_,rfl,rfl,(zrp x y).trans e⟩
 ·subst h0
  rw [Int.gcd_zero] at e
  walk_at "g"
  rw [<- e] at q
  exact fin_same q
def zdm:DSp:=fun ds S Q=>∃ (t b:Int),ds=[.int t,.int b]/\b≠0/\Bd 8000 b/\Q (p2 (frT t b,frB t b)) S
def ze8:DS :=
    (zG (zM (dCall zbv (zm (zf 0) (zm (zf 1) zB))) (zE 2))
 (zG (sJ (sIf (dT (dOp oLt (zf 1) (dC (.int 0)))) (zM (dUn zcG (zf 2)) (zE 2)) z9))
 (zY (dTup (zm (dOp oDiv (zf 0) (zf 2)) (zm (dOp oDiv (zf 1) (zf 2)) zB))))))
theorem zmo:∀ ds So Q,zdm ds So Q->ds.length=2:=by rintro ds So Q ⟨_,_,rfl,_⟩;rfl
theorem znn:BodyOk 3 ze8 zdm:=by
 rintro ds S Q ⟨t,b,rfl,hb,bb,q⟩
 unfold ze8
 have hgn:=zsa (t:=t) (b:=b) hb
 have hgb:=zxg (t:=t) (b:=b) hb bb
 walk_at "g"
 refine⟨t,b,rfl,?_⟩
 walk_at "g"
 refine r_J (fun Z S'=>S'=S/\Z=[some (.int t),some (.int b),some (.int (gd t b))]) ?_ ?_
 ·walk_at "g"
  refine r_d (fun g=>?_) (fun g=>?_)
  ·have hg:gd t b=-((Int.gcd t b:Nat):Int):=if_pos g
   walk_at "g"
   exact⟨rfl,by rw [hg];rfl⟩
  ·have hg:gd t b=((Int.gcd t b:Nat):Int):=if_neg g
   walk_at "g"
   exact⟨rfl,by rw [hg];rfl⟩
 rintro Z S' ⟨rfl,rfl⟩
 refine Dp.zsk ?_
 refine Dp.zsr ?_
 refine Dp.zmE ?_
 refine Dp.zn6 ?_
 refine Dp.zgy rfl ?_
 refine Dp.zgy rfl ?_
 refine zp6 ⟨hgn,hgb⟩ ?_
 refine Dp.zmE ?_
 refine Dp.zn6 ?_
 refine Dp.zgy rfl ?_
 refine Dp.zgy rfl ?_
 refine zp6 ⟨hgn,hgb⟩ ?_
 walk_at "g"
 exact fin_same q
def zcM:DSp:=fun ds S Q=>∃ (a b p:Int×Int),ds=[p2 a,p2 b,p2 p]/\b.1≠a.1/\0<p.2/\Bd 180 a.1/\Bd 200 a.2/\Bd 180 b.1/\Bd 200 b.2/\Bd 1000 p.1/\Bd 1000 p.2/\∀ c:Int×Int,Sv c (hvT a b p) (hvB a b p)->Int.gcd c.1 c.2=1->Bd 1400 c.1->Bd 1400 c.2->Q (p2 c) S
theorem zwm {t b:Int}(hb:b≠0):Sv (frT t b,frB t b) (if 0<b then t else -t) (if 0<b then b else -b):=by
 have h1:=zrB t b
 have h2:=zs8 (t:=t) hb
 refine⟨by show 0<frB t b;omega,?_⟩
 show frT t b*_=_*frB t b
 split
 ·rw [h1,Int.mul_comm]
 ·rw [Int.mul_neg,h1,Int.neg_mul,Int.mul_comm]
def zeG:DS :=
    (zG (zM (dOp zah (dOp oIx (zf 1) (dC (.int 0))) (dOp oIx (zf 0) (dC (.int 0)))) (zE 3))
 (zG (zM (dOp zah (dOp oIx (zf 1) (dC (.int 1))) (dOp oIx (zf 0) (dC (.int 1)))) (zE 4))
 (zG (zM (dOp zad (dOp zau (dOp zau (dOp oIx (zf 0) (dC (.int 1))) (zf 3)) (dOp oIx (zf 2) (dC (.int 1)))) (dOp zau (zf 4) (dOp zah (dOp oIx (zf 2) (dC (.int 0))) (dOp zau (dOp oIx (zf 0) (dC (.int 0))) (dOp oIx (zf 2) (dC (.int 1))))))) (zE 5))
 (zY (dCall zdm (zm (zf 5) (zm (dOp zau (zf 3) (dOp oIx (zf 2) (dC (.int 1)))) zB)))))))
theorem zk8:∀ ds So Q,zcM ds So Q->ds.length=3:=by rintro ds So Q ⟨_,_,_,rfl,_⟩;rfl
theorem zmd:BodyOk 6 zeG zcM:=by
 rintro ds S Q ⟨a,b,p,rfl,hne,hp,b1,b2,b3,b4,b5,b6,q⟩
 unfold zeG
 have r1:Bd 181 (b.1-a.1):=Bd.sub b3 b1
 have r2:Bd 201 (b.2-a.2):=Bd.sub b4 b2
 have m1:Bd 381 (a.2*(b.1-a.1)):=Bd.mul b2 r1
 have m2:Bd 1381 (a.2*(b.1-a.1)*p.2):=Bd.mul m1 b6
 have m3:Bd 1180 (a.1*p.2):=Bd.mul b1 b6
 have m4:Bd 1181 (p.1-a.1*p.2):=Bd.sub (b5.mono (by decide)) m3
 have m5:Bd 1382 ((b.2-a.2)*(p.1-a.1*p.2)):=Bd.mul r2 m4
 have m6:Bd 1181 ((b.1-a.1)*p.2):=Bd.mul r1 b6
 have bT:Bd 1400 (a.2*(b.1-a.1)*p.2+(b.2-a.2)*(p.1-a.1*p.2)):=(Bd.add (n:=1382) (m2.mono (by decide)) m5).mono (by decide)
 have c1:zar a.2 (b.1-a.1):=.inl ⟨b2.mono (by decide),r1.mono (by decide)⟩
 have c2:zar (a.2*(b.1-a.1)) p.2:=.inl ⟨m1.mono (by decide),b6.mono (by decide)⟩
 have c3:zar a.1 p.2:=.inl ⟨b1.mono (by decide),b6.mono (by decide)⟩
 have c4:zar (b.2-a.2) (p.1-a.1*p.2):=.inl ⟨r2.mono (by decide),m4.mono (by decide)⟩
 have c5:zar (b.1-a.1) p.2:=.inl ⟨r1.mono (by decide),b6.mono (by decide)⟩
 walk_at "g"
 have hr:(b.1-a.1)*p.2≠0:=Int.mul_ne_zero (by omega) (by omega)
 refine⟨_,_,rfl,hr,m6.mono (by decide),?_⟩
 refine fin_same (q _ ?_ (zvn hr) (zuT bT) ((zug m6).mono (by decide)))
 have hs:=zwm (t:=a.2*(b.1-a.1)*p.2+(b.2-a.2)*(p.1-a.1*p.2)) hr
 unfold hvT hvB
 by_cases g:0<b.1-a.1
 ·have:0<(b.1-a.1)*p.2:=Int.mul_pos g hp
  rw [if_pos this,if_pos this] at hs
  rw [if_pos g,if_pos g];exact hs
 ·have:¬ 0<(b.1-a.1)*p.2:=fun z=>by
   have:=Int.mul_pos (show 0 < -(b.1-a.1) by omega) hp
   rw [Int.neg_mul] at this
   omega
  rw [if_neg this,if_neg this] at hs
  rw [if_neg g,if_neg g];exact hs
def zc0:zep:=fun ds S Q ex=>∃ (g:D) (cs:List (Int×Int)) (p:Int×Int),ds=[g,p2 p]/\GAt S g cs/\Grd cs/\0<p.2/\Bd 1000 p.1/\Bd 1000 p.2/\(¬ OnG cs p->ex "OffGround" S)/\(OnG cs p->∀ a b c:Int×Int,zgX cs p=some (a,b)->Sv c (hvT a b p) (hvB a b p)->0<hvB a b p->Int.gcd c.1 c.2=1->Bd 1400 c.1->Bd 1400 c.2->Q (p2 c) S)
def zeF (ex : XR) : DS :=
    (zG (sIf (zd8 (dT (dCall zeq (zm (zf 0) (zm (zf 1) zB))))) (zfC ex "OffGround") z9)
 (zG (zM (zct "corners" (zf 0)) (zE 2))
 (zG (zM (dC (.int 1)) (zE 3))
 (zG (zjS (dT (dCall zdP (zm (dTup (zm (dOp oIx (dOp oIx (zf 2) (zf 3)) (dC (.int 0))) (zm (dC (.int 1)) zB))) (zm (zf 1) zB)))) (zr6 3 (dC (.int 1))))
 (zY (dCall zcM (zm (dOp oIx (zf 2) (dOp zah (zf 3) (dC (.int 1)))) (zm (dOp oIx (zf 2) (zf 3)) (zm (zf 1) zB)))))))))
theorem zk6:∀ ds So Q ex,zc0 ds So Q ex->ds.length=2:=by rintro ds So Q ex ⟨_,_,_,rfl,_⟩;rfl
theorem zmu:zdY 4 zeF zc0:=by
 rintro ds S Q ex ⟨g,cs,p,rfl,hg,gr,hp,b1,b2,hx,q⟩
 unfold zeF
 obtain⟨n,l,rfl,hn,hl⟩:=id hg
 walk_at "g"
 refine⟨_,cs,p,rfl,hg,gr,b1,b2,?_⟩
 by_cases on:OnG cs p
 case neg =>
  have e:(decide (zi3 cs*p.2<=p.1)&&decide (p.1<=zhj cs*p.2))=false:=Bool.eq_false_iff.mpr fun z=>on (by rw [Bool.and_eq_true,decide_eq_true_eq,decide_eq_true_eq] at z;exact z)
  rw [e]
  walk_at "g"
  exact hx on
 have q:=q on
 obtain⟨kk,a,b,ha,hb,hle,hlt⟩:=zjx gr.two on.2
 have seg:=seg_at ha hb hle hlt
 have hk:=zae hb
 rw [decide_eq_true on.1,decide_eq_true on.2,show (true&&true)=true from rfl]
 walk_at "g"
 refine zuF (fun m Z S'=>S'=S/\∃ j:Nat,Z=[some (.ref n),some (p2 p),some (.ref l),some (.int ((j:Int)+1))]/\m=kk-j/\j<=kk) kk ⟨rfl,0,rfl,rfl,by omega⟩ ?_
 rintro m Z S' ⟨rfl,j,rfl,rfl,hj⟩
 obtain⟨c,hc,ac⟩:=zgQ (cs:=cs) (k:=(j:Int)+1) (by omega) (by omega)
 have hc':cs[j+1]?=some c:=by rwa [show ((j:Int)+1).toNat=j+1 by omega] at hc
 obtain⟨bc,bc2⟩:=gr.bd c (qd hc)
 have e1:flt (c.1,1) p=decide (c.1*p.2<p.1):=by unfold flt;dsimp only;rw [Int.mul_one]
 walk_at "g"
 refine⟨(c.1,1),p,rfl,.inl ⟨bc.mono (by decide),b2.mono (by decide)⟩,.inr (.inr (show (1:Int).natAbs<2 ^ 64 by decide)),?_⟩
 rw [e1]
 walk_at "g"
 refine r_d (fun h=>?_) (fun h=>?_)
 ·walk_at "g"
  have hjk:j<kk:=by
   rcases Nat.lt_or_ge j kk with z | z
   ·exact z
   ·have:j=kk:=by omega
    subst this
    rw [hb] at hc'
    cases hc'
    omega
  exact⟨kk-(j+1),by omega,rfl,j+1,by simp,rfl,by omega⟩
 ·have hjk:j=kk:=by
   rcases Nat.lt_or_ge j kk with z | z
   ·have:=hlt (j+1) c (by omega) (by omega) hc'
    omega
   ·omega
  subst hjk
  rw [hb] at hc'
  cases hc'
  have aa:atD (cs.map p2) ((j:Int)+1-1)=some (p2 a):=by
   rw [show (j:Int)+1-1=(j:Int) by omega]
   exact za5 (by rw [qg,ha];rfl)
  obtain⟨ba1,ba2⟩:=gr.bd a (qd ha)
  have hab:=zdr gr (show j<j+1 by omega) ha hb
  walk_at "g"
  refine⟨a,b,p,rfl,by omega,hp,ba1.mono (by decide),ba2.mono (by decide),bc.mono (by decide),bc2.mono (by decide),b1,b2,fun c hs hg d1 d2=>?_⟩
  exact fin_same (q a b c seg hs (znL (by omega) hp) hg d1 d2)
def zdZ:DSp:=fun ds S Q=>∃ (g:D) (cs:List (Int×Int)) (s:Int×Int),ds=[g,p2 s]/\GAt S g cs/\Grd cs/\Bd 180 s.1/\Bd 200 s.2/\∀ b:Bool,(b=true↔zdJ cs s)->Q (.bl b) S
def zg0:DS :=
    (zG (zM (dTup (zm (dOp oIx (zf 1) (dC (.int 0))) (zm (dC (.int 1)) zB))) (zE 2))
 (zG (sIf (zd8 (dT (dCall zeq (zm (zf 0) (zm (zf 2) zB))))) (zY (dC (.bl false))) z9)
 (zY (ziu (dCall zdP (zm (dTup (zm (dOp oIx (zf 1) (dC (.int 1))) (zm (dC (.int 1)) zB))) (zm (zc4 zc0 xF (zm (zf 0) (zm (zf 2) zB))) zB)))))))
theorem zoi:∀ ds So Q,zdZ ds So Q->ds.length=2:=by rintro ds So Q ⟨_,_,_,rfl,_⟩;rfl
theorem zql:BodyOk 3 zg0 zdZ:=by
 rintro ds S Q ⟨g,cs,s,rfl,hg,gr,b1,b2,q⟩
 unfold zg0
 have bo:Bd 1000 (1:Int):=Bd.lit (by decide) (by decide)
 walk_at "g"
 refine⟨g,cs,(s.1,1),rfl,hg,gr,b1.mono (by decide),bo,?_⟩
 by_cases on:OnG cs (s.1,1)
 case neg =>
  have e:(decide (zi3 cs*(s.1,(1:Int)).2<=(s.1,(1:Int)).1)&&decide ((s.1,(1:Int)).1<=zhj cs*(s.1,(1:Int)).2))=false:=Bool.eq_false_iff.mpr fun z=>on (by rw [Bool.and_eq_true,decide_eq_true_eq,decide_eq_true_eq] at z;exact z)
  rw [e]
  walk_at "g"
  exact fin_same (q false ⟨fun z=>(by cases z),fun z=>absurd z.1 on⟩)
 rw [decide_eq_true on.1,decide_eq_true on.2,show (true&&true)=true from rfl]
 walk_at "g"
 refine⟨g,cs,(s.1,1),rfl,hg,gr,(show (0:Int)<1 by decide),b1.mono (by decide),bo,fun off=>absurd on off,fun _ a b c seg sv hb hgcd d1 d2=>?_⟩
 walk_at "g"
 refine⟨(s.2,1),c,rfl,.inl ⟨b2.mono (by decide),d2.mono (by decide)⟩,.inr (.inr (show (1:Int).natAbs<2 ^ 64 by decide)),?_⟩
 rw [zuL (t:=s.2) (b:=1) (by decide) hb ⟨(show (0:Int)<1 by decide),rfl⟩ sv]
 walk_at "g"
 refine fin_same (q _ ?_)
 rw [Bool.not_eq_true',decide_eq_false_iff_not]
 constructor
 ·intro h
  refine⟨on,fun a' b' seg'=>?_⟩
  rw [seg] at seg';cases seg';omega
 ·intro h
  have:=h.2 a b seg
  omega
def zbm:DSp:=fun ds S Q=>∃ (g y:D) (cs:List (Int×Int)) (bs:List (Str×(Int×Int))),ds=[g,y]/\GAt S g cs/\Grd cs/\Lst S y (bs.map bcD)/\bs.length<=100/\(∀ b∈bs,zdJ cs b.2/\Bd 180 b.2.1/\Bd 200 b.2.2)/\Q .non S
def zb9:DS :=
  (sIf (zd8 (dT (dB zhS (zm (dLC 3 [0] (zaY (zf 1)) (zcF 3 (zav (zE 0) (zav (zE 1) (zav (zE 2) zcH)))) zbz (dCall zdZ (zm (zf 3) (zm (dTup (zm (zf 1) (zm (zf 2) zB))) zB)))) zB)))) zcw z9)
theorem zhn:∀ ds So Q,zbm ds So Q->ds.length=2:=by rintro ds So Q ⟨_,_,_,_,rfl,_⟩;rfl
theorem zhD:BodyOk 2 zb9 zbm:=by
 rintro ds S Q ⟨g,y,cs,bs,rfl,hg,gr,hy,hl,hb,q⟩
 unfold zb9
 walk_at "g"
 refine za3 (fun _=>true) (zmK fun _=>.bl true) hy (by rw [qa];unfold big;omega) (fun i d ys hd hw=>?_) ?_
 ·obtain⟨b,hbi,rfl⟩:=zhN hd
  obtain⟨s1,s2,s3⟩:=hb b (qd hbi)
  walk_at "g"
  refine⟨g,cs,b.2,rfl,hg,gr,s2,s3,fun r hr=>?_⟩
  rw [hr.mpr s1]
  exact zbL hd hw rfl rfl
 rw [filter_true,zgD,show bs.map (fun _=>D.bl true)=(bs.map fun _=>true).map D.bl by rw [List.map_map];rfl]
 walk_at "g"
 refine zh9 (b:=true) Lst.at0 (by rw [List.all_map,List.all_eq_true];intro _ _;rfl) ?_
 walk_at "g"
 exact zan rfl q
def zcD:DSp:=fun ds S Q=>∃ i:Int,ds=[.int i]/\Q (.bl true) S
def zfc:DS :=
  (zY (ziq (dB zg7 (zm (zf 0) (zm (dC (.ty "int")) zB))) (ziu (dB zg7 (zm (zf 0) (zm (dC (.ty "bool")) zB))))))
theorem zlA:∀ ds So Q,zcD ds So Q->ds.length=1:=by rintro ds So Q ⟨_,rfl,_⟩;rfl
theorem zni:BodyOk 1 zfc zcD:=by
 rintro ds S Q ⟨i,rfl,q⟩
 unfold zfc
 walk_at "g"
 exact fin_same q
def zeR:DSp:=fun ds S Q=>∃ F:Fg,ds=[fgD F]/\F.x0<=F.x1/\F.z0<=F.z1/\F.f<=F.l/\Q (.bl true) S
def zhf:DS :=
    (zG (sIf (dOr (zd8 (dT (dB zg7 (zm (zf 0) (zm (dC (.ty "tuple")) zB))))) (dT (dOp oNe (dB zaH (zm (zf 0) zB)) (dC (.int 8))))) (zY (dC (.bl false))) z9)
 (zG (sIf (zd8 (dT (dB zhS (zm (dLC 1 [] (zaY (zf 0)) (zE 0) zbz (dCall zcD (zm (zf 0) zB))) zB)))) (zY (dC (.bl false))) z9)
 (zY (ziq (dOp oLe (dOp oIx (zf 0) (dC (.int 0))) (dOp oIx (zf 0) (dC (.int 1)))) (ziq (dOp oLe (dOp oIx (zf 0) (dC (.int 2))) (dOp oIx (zf 0) (dC (.int 3)))) (dOp oLe (dOp oIx (zf 0) (dC (.int 4))) (dOp oIx (zf 0) (dC (.int 5)))))))))
theorem zoP:∀ ds So Q,zeR ds So Q->ds.length=1:=by rintro ds So Q ⟨_,rfl,_⟩;rfl
theorem zpO:BodyOk 1 zhf zeR:=by
 rintro ds S Q ⟨F,rfl,h1,h2,h3,q⟩
 unfold zhf
 walk_at "g"
 rw [show (!decide ((([D.int F.x0,D.int F.x1,D.int F.z0,D.int F.z1,D.int F.f,D.int F.l,D.int F.g,D.int F.s]:List D).length:Int)=8))=false by rfl]
 walk_at "g"
 refine za3 (fun _=>true) (fun _=>.bl true) True.intro (by show 8<=big;unfold big;decide) (fun i d ys hd hw=>?_) ?_
 ·obtain⟨z,_,rfl⟩:=zc6 (zs:=[F.x0,F.x1,F.z0,F.z1,F.f,F.l,F.g,F.s]) hd
  walk_at "g"
  refine⟨z,rfl,?_⟩
  exact zbL hd hw rfl rfl
 walk_at "g"
 refine zh9 (bs:=List.replicate 8 true) (b:=true) Lst.at0 rfl ?_
 walk_at "g"
 rw [decide_eq_true h1]
 walk_at "g"
 rw [decide_eq_true h2]
 walk_at "g"
 rw [decide_eq_true h3]
 exact zan rfl q
theorem zvC {α:Type}(xs:List α)(f:α->D):(xs.map f).map (fun _=>D.bl true)=(xs.map fun _=>true).map D.bl:=by rw [List.map_map,List.map_map];rfl
def zbn:DSp:=fun ds S Q=>∃ (z:D) (fs:List Fg),ds=[z]/\Lst S z (fs.map fgD)/\fs.length<=100/\(∀ F∈fs,FgV F)/\Q .non S
def zb7:DS :=
  (sIf (zd8 (dT (dB zhS (zm (dLC 1 [] (zaY (zf 0)) (zE 0) zbz (dCall zeR (zm (zf 0) zB))) zB)))) zcw z9)
theorem zhu:∀ ds So Q,zbn ds So Q->ds.length=1:=by rintro ds So Q ⟨_,_,rfl,_⟩;rfl
theorem zhE:BodyOk 1 zb7 zbn:=by
 rintro ds S Q ⟨z,fs,rfl,hz,hl,hf,q⟩
 unfold zb7
 walk_at "g"
 refine za3 (fun _=>true) (fun _=>.bl true) hz (by rw [qa];unfold big;omega) (fun i d ys hd hw=>?_) ?_
 ·obtain⟨F,hF,rfl⟩:=zjz hd
  have k:=hf F (qd hF)
  walk_at "g"
  refine⟨F,rfl,k.b.x,k.b.z,k.o,?_⟩
  exact zbL hd hw rfl rfl
 rw [filter_true,zvC]
 walk_at "g"
 refine zh9 (b:=true) Lst.at0 (by rw [List.all_map,List.all_eq_true];intro _ _;rfl) ?_
 walk_at "g"
 exact zan rfl q
def zbc:DSp:=fun ds S Q=>∃ (hz:Option Int) (a b d:Int),ds=[zea hz,.int a,.int b,.int d]/\a<=b/\0<=d/\(∀ z,hz=some z->0<=z)/\Q .non S
def zbY:DS :=
    (zG (sIf (dT (dOp oGt (zf 1) (zf 2))) zcw z9)
 (zG (sIf (dT (dOp oLt (zf 3) (dC (.int 0)))) zcw z9)
 (sIf (zfB (dT (dOp zfH (zf 0) (dC .non))) (dT (dOp oLt (zf 0) (dC (.int 0))))) zcw z9)))
theorem zg6:∀ ds So Q,zbc ds So Q->ds.length=4:=by rintro ds So Q ⟨_,_,_,_,rfl,_⟩;rfl
theorem zhm:BodyOk 4 zbY zbc:=by
 rintro ds S Q ⟨hz,a,b,d,rfl,hab,hd,hh,q⟩
 unfold zbY
 walk_at "g"
 rw [decide_eq_false (show ¬ b<a by omega)]
 walk_at "g"
 rw [decide_eq_false (show ¬ d<0 by omega)]
 cases hz with
 | none =>
  walk_at "g"
  exact fin_same q
 | some z =>
  have:=hh z rfl
  unfold zea
  walk_at "g"
  rw [decide_eq_false (show ¬ z<0 by omega)]
  walk_at "g"
  exact fin_same q
def zdb:DSp:=fun ds S Q=>∃ (S0:Sto) (g y z:D) (V:Vl),ds=[.ref S0.length,g,y,z,zea V.hz,.int V.h0,.int V.h1,.int V.dl]/\S=S0++[.ins "Valley" []]/\GAt S0 g V.cs/\Lst S0 y (V.bs.map bcD)/\Lst S0 z (V.fs.map fgD)/\zch V/\∀ T,VAt (S0++T) (.ref S0.length) V->Q .non (S0++T)
def zbR:DS :=
    (zG (zaR (dCall za2 (zm (zf 2) (zm (zf 3) zB))))
 (zG (zaR (dCall zbd (zm (dLC 1 [] (zaY (zf 2)) (zE 0) zbz (dOp oIx (zf 0) (dC (.int 0)))) zB)))
 (zG (zaR (dCall zbm (zm (zf 1) (zm (zf 2) zB))))
 (zG (zaR (dCall zbn (zm (zf 3) zB)))
 (zG (zaR (dCall zbc (zm (zf 4) (zm (zf 5) (zm (zf 6) (zm (zf 7) zB))))))
 (zG (zeM "Valley" "ground" (zf 0) (dCall zfM (zm (zct "corners" (zf 1)) zB)))
 (zG (zeM "Valley" "beacons" (zf 0) (dB zeA (zm (zf 2) zB)))
 (zG (zeM "Valley" "fogs" (zf 0) (dB zeA (zm (zf 3) zB)))
 (zG (zeM "Valley" "haze" (zf 0) (zf 4))
 (zG (zeM "Valley" "first" (zf 0) (zf 5))
 (zG (zeM "Valley" "last" (zf 0) (zf 6))
 (zeM "Valley" "delay" (zf 0) (zf 7)))))))))))))
theorem zjW:∀ ds So Q,zdb ds So Q->ds.length=8:=by rintro ds So Q ⟨_,_,_,_,_,rfl,_⟩;rfl
theorem zki:BodyOk 8 zbR zdb:=by
 rintro ds S Q ⟨S0,g,y,z,V,rfl,rfl,hg,hy,hz,ok,q⟩
 unfold zbR
 obtain⟨Sa,hSa⟩:∃ Sa:Sto,Sa=S0++[.ins "Valley" []]:=⟨_,rfl⟩
 have hya:Lst Sa y (V.bs.map bcD):=hSa▸hy.old
 have hza:Lst Sa z (V.fs.map fgD):=hSa▸hz.old
 rw [<- hSa]
 walk_at "g"
 refine⟨y,z,_,_,rfl,hya,hza,by rw [qa];exact ok.b1,by rw [qa];exact ok.b12,by rw [qa];exact ok.f12,?_⟩
 walk_at "g"
 have b12:=ok.b12
 have f12:=ok.f12
 refine za3 (fun _=>true) (zmK fun b=>.str b.1) hya (by rw [qa];unfold big;omega) (fun i d ys hd hw=>?_) ?_
 ·obtain⟨b,_,rfl⟩:=zhN hd
  walk_at "g"
  exact zbL hd hw rfl rfl
 rw [filter_true,zgD,show V.bs.map (fun b=>D.str b.1)=(V.bs.map (·.1)).map D.str by rw [List.map_map];rfl,hSa]
 walk_at "g"
 refine⟨_,V.bs.map (·.1),rfl,Lst.at rfl,by rw [qa];omega,fun n hn=>?_,ok.nd,?_⟩
 ·obtain⟨b,hb,rfl⟩:=List.mem_map.mp hn
  exact ok.nm b hb
 walk_at "g"
 generalize (V.bs.map (·.1)).map D.str=nms
 refine⟨g,y,V.cs,V.bs,rfl,hg.old,ok.gr,hy.old,by omega,fun b hb=>⟨ok.st b hb,ok.bd b hb⟩,?_⟩
 walk_at "g"
 refine⟨z,V.fs,rfl,hz.old,by omega,ok.fg,?_⟩
 walk_at "g"
 refine⟨V.hz,_,_,_,rfl,ok.hh,ok.dl,ok.hz,?_⟩
 obtain⟨gn,gl,rfl,hgn,hgl⟩:=hg
 have hgn1:(S0++[.ins "Valley" [],.lst nms])[gn]?=some (.ins "Ground" [("corners",.ref gl)]):=zal hgn
 walk_at "g"
 refine⟨_,_,V.cs,rfl,rfl,.inr ⟨gl,rfl,zal hgl⟩,ok.gr,⟨rfl,?_⟩⟩
 rw [List.append_assoc,show (S0++[Cell.ins "Valley" [],.lst nms]).length=S0.length+2 by simp,show ([Cell.ins "Valley" [],.lst nms]:Sto)++[.ins "Ground" [("corners",.ref (S0.length+2+1))],.lst (V.cs.map p2)]=[.ins "Valley" [],.lst nms,.ins "Ground" [("corners",.ref (S0.length+3))],.lst (V.cs.map p2)] from rfl]
 walk_at "g"
 refine⟨S0.length,[],rfl,zaU,by decide,?_⟩
 rw [zcY,zq8]
 have hy2:∀ T,Lst (S0++T) y (V.bs.map bcD):=fun T=>hy.old
 have hz2:∀ T,Lst (S0++T) z (V.fs.map fgD):=fun T=>hz.old
 walk_at "g"
 refine⟨S0.length,_,rfl,zaU,by simp,?_⟩
 rw [zcY,vp2]
 walk_at "g"
 refine⟨S0.length,_,rfl,zaU,by simp,?_⟩
 rw [zcY,vp3]
 walk_at "g"
 refine⟨S0.length,_,rfl,zaU,by simp,?_⟩
 rw [zcY,vp4]
 walk_at "g"
 refine⟨S0.length,_,rfl,zaU,by simp,?_⟩
 rw [zcY,vp5]
 walk_at "g"
 refine⟨S0.length,_,rfl,zaU,by simp,?_⟩
 rw [zcY,vp6]
 walk_at "g"
 refine⟨S0.length,_,rfl,zaU,by simp,?_⟩
 rw [zcY,vp7]
 refine fin_same (q _ ⟨S0.length,_,_,_,rfl,zaU,⟨_,_,rfl,(zbk _ _ 2).trans rfl,(zbk _ _ 3).trans rfl⟩,(zbk _ _ 4).trans rfl,(zbk _ _ 5).trans rfl⟩)
def zhC:DSp:=zo3 "Valley" zdb
def zcu:DSp:=fun ds S Q=>∃ (x y z:D) (V:Vl),ds=[vlD x y z V]/\VlS S x y z V/\zch V/\∀ (T:Sto) (v:D),VAt (S++T) v V->Q v (S++T)
def zd9:DS :=
  (zY (dCall zhC (zm (dCall zfM (zm (dB zeA (zm (dOp oIx (zf 0) (dC (.int 0))) zB)) zB)) (zm (dB zeA (zm (dOp oIx (zf 0) (dC (.int 1))) zB)) (zm (dB zeA (zm (dOp oIx (zf 0) (dC (.int 2))) zB)) (zm (dOp oIx (zf 0) (dC (.int 3))) (zm (dOp oIx (zf 0) (dC (.int 4))) (zm (dOp oIx (zf 0) (dC (.int 5))) (zm (dOp oIx (zf 0) (dC (.int 6))) zB)))))))))
theorem zkg:∀ ds So Q,zcu ds So Q->ds.length=1:=by rintro ds So Q ⟨_,_,_,_,rfl,_⟩;rfl
theorem zlb:BodyOk 1 zd9 zcu:=by
 rintro ds S Q ⟨x,y,z,V,rfl,hs,ok,q⟩
 unfold zd9
 obtain⟨kx,ky,kz⟩:=hs
 walk_at "g"
 refine⟨S++[.lst (V.cs.map p2)],_,V.cs,by simp,rfl,Lst.at0,ok.gr,⟨rfl,?_⟩⟩
 obtain⟨Sb,hSb⟩:∃ Sb:Sto,Sb=S++[Cell.lst (V.cs.map p2)]++[.ins "Ground" [("corners",.ref ((S++[Cell.lst (V.cs.map p2)]).length+1))],.lst (V.cs.map p2)]:=⟨_,rfl⟩
 have hg:GAt Sb (.ref (S.length+1)) V.cs:=hSb▸⟨_,_,by rw [show S.length+1=(S++[Cell.lst (V.cs.map p2)]).length by simp],zaU,(zbk _ _ 1).trans rfl⟩
 have e1:∃ T,Sb=S++T:=zcd ⟨_,rfl⟩ hSb
 have ky1:Lst Sb y (V.bs.map bcD):=by obtain⟨T,rfl⟩:=e1;exact ky.old
 have kz1:Lst Sb z (V.fs.map fgD):=by obtain⟨T,rfl⟩:=e1;exact kz.old
 rw [<- hSb]
 clear hSb
 walk_at "g"
 have kz2:Lst (Sb++[.lst (V.bs.map bcD)]) z (V.fs.map fgD):=kz1.old
 walk_at "g"
 refine⟨Sb++[.lst (V.bs.map bcD),.lst (V.fs.map fgD)],_,_,_,V,by simp,rfl,hg.old,Lst.at0,Lst.at (k:=1) rfl,ok,fun T hv=>⟨rfl,?_⟩⟩
 obtain⟨T1,rfl⟩:=e1
 have hv':VAt (S++(T1++([.lst (V.bs.map bcD),.lst (V.fs.map fgD)]++T))) (.ref ((S++T1)++[Cell.lst (V.bs.map bcD),.lst (V.fs.map fgD)]).length) V:=by
  have e:S++(T1++([Cell.lst (V.bs.map bcD),.lst (V.fs.map fgD)]++T))=S++T1++[Cell.lst (V.bs.map bcD),.lst (V.fs.map fgD)]++T:=by simp
  rw [e];exact hv
 have:=q _ _ hv'
 have e2:S++T1++[Cell.lst (V.bs.map bcD),.lst (V.fs.map fgD)]++T=S++(T1++([Cell.lst (V.bs.map bcD),.lst (V.fs.map fgD)]++T)):=by simp
 rw [e2]
 refine fin_same ?_
 simpa using this
def zc1:DSp:=fun ds S Q=>∃ (x:D) (cs:List (Int×Int)) (a b:Int×Int),ds=[x,p2 a,p2 b]/\Lst S x (cs.map p2)/\(∀ c∈cs,Bd 170 c.1/\Bd 190 c.2)/\(Bd 200 a.1/\Bd 600 a.2)/\(Bd 200 b.1/\Bd 600 b.2)/\∀ r:Bool,(r=true↔zdF cs a b=none)->Q (.bl r) S
def zeL:DS :=
    (zG (sJ (sIf (dT (dOp oLt (dOp oIx (zf 2) (dC (.int 0))) (dOp oIx (zf 1) (dC (.int 0))))) (zo8 1 2 (zm (zf 2) (zm (zf 1) zB))) z9))
 (zG (zbu (zaY (zf 0)) (zE 3) (sIf (zfB (dT (dOp oLt (dOp oIx (zf 1) (dC (.int 0))) (dOp oIx (zf 3) (dC (.int 0))))) (dT (dOp oLt (dOp oIx (zf 3) (dC (.int 0))) (dOp oIx (zf 2) (dC (.int 0)))))) (zG (zM (dOp zau (dOp zah (dOp oIx (zf 2) (dC (.int 1))) (dOp oIx (zf 1) (dC (.int 1)))) (dOp zah (dOp oIx (zf 3) (dC (.int 0))) (dOp oIx (zf 1) (dC (.int 0))))) (zE 4))
 (sIf (dT (dOp oGt (dOp zau (dOp zah (dOp oIx (zf 3) (dC (.int 1))) (dOp oIx (zf 1) (dC (.int 1)))) (dOp zah (dOp oIx (zf 2) (dC (.int 0))) (dOp oIx (zf 1) (dC (.int 0))))) (zf 4))) (zY (dC (.bl false))) z9)) z9))
 (zY (dC (.bl true)))))
theorem zla:∀ ds So Q,zc1 ds So Q->ds.length=3:=by rintro ds So Q ⟨_,_,_,_,rfl,_⟩;rfl
theorem zmg:BodyOk 5 zeL zc1:=by
 rintro ds S Q ⟨x,cs,a,b,rfl,hx,gr,⟨ba1,ba2⟩,⟨bb1,bb2⟩,q⟩
 unfold zeL
 walk_at "g"
 refine r_J (fun Z S'=>S'=S/\∃ o t:Int×Int,Z=[some x,some (p2 o),some (p2 t),none,none]/\o.1<=t.1/\(Bd 200 o.1/\Bd 600 o.2)/\(Bd 200 t.1/\Bd 600 t.2)/\∀ r:Bool,(r=true↔zdF cs o t=none)->Q (.bl r) S) ?_ ?_
 ·walk_at "g"
  refine r_d (fun h=>?_) (fun h=>?_)
  ·walk_at "g"
   exact⟨rfl,b,a,rfl,by omega,⟨bb1,bb2⟩,⟨ba1,ba2⟩,fun r hr=>q r (by rw [hr,zll])⟩
  ·walk_at "g"
   exact⟨rfl,a,b,rfl,by omega,⟨ba1,ba2⟩,⟨bb1,bb2⟩,q⟩
 clear ba1 ba2 bb1 bb2 q
 rintro Z S' ⟨rfl,o,t,rfl,hot,⟨bo1,bo2⟩,⟨bt1,bt2⟩,q⟩
 have e1:zdF cs o t=none↔∀ d∈cs,o.1<d.1->d.1<t.1->¬ (t.2-o.2)*(d.1-o.1)<(d.2-o.2)*(t.1-o.1):=by
  rw [<- Option.isNone_iff_eq_none,zr4,Int.min_eq_left hot,Int.max_eq_right hot]
  constructor
  ·intro h d hd d1 d2
   have:=h d hd d1 d2
   rwa [zqL (.inl ⟨by omega,by omega⟩),show ((d.1-o.1).natAbs:Int)=d.1-o.1 by omega,show ((t.1-o.1).natAbs:Int)=t.1-o.1 by omega] at this
  ·intro h d hd d1 d2
   have:=h d hd d1 d2
   rwa [zqL (.inl ⟨by omega,by omega⟩),show ((d.1-o.1).natAbs:Int)=d.1-o.1 by omega,show ((t.1-o.1).natAbs:Int)=t.1-o.1 by omega]
 walk_at "g"
 refine zaM (fun i Z S2=>S2=S'/\(∃ w1 w2:Option D,Z=[some x,some (p2 o),some (p2 t),w1,w2])/\∀ d∈cs.take i,o.1<d.1->d.1<t.1->¬ (t.2-o.2)*(d.1-o.1)<(d.2-o.2)*(t.1-o.1)) ⟨rfl,⟨none,none,rfl⟩,by simp⟩ (fun i Z S2 h=>h.1▸hx) ?_ ?_
 ·rintro i d Z S2 hd ⟨rfl,⟨w1,w2,rfl⟩,hn⟩
  obtain⟨c,hc,rfl⟩:=zcL hd
  have mc:=qd hc
  obtain⟨bc1,bc2⟩:=gr c mc
  have cm1:zar (c.2-o.2) (t.1-o.1):=.inl ⟨(Bd.sub (bc2.mono (by decide:(190:Nat)<=600)) bo2).mono (by decide),(Bd.sub bt1 bo1).mono (by decide)⟩
  have cm2:zar (t.2-o.2) (c.1-o.1):=.inl ⟨(Bd.sub bt2 bo2).mono (by decide),(Bd.sub (bc1.mono (by decide:(170:Nat)<=200)) bo1).mono (by decide)⟩
  have nxt:(o.1<c.1->c.1<t.1->¬ (t.2-o.2)*(c.1-o.1)<(c.2-o.2)*(t.1-o.1))->∀ d∈cs.take (i+1),o.1<d.1->d.1<t.1->¬ (t.2-o.2)*(d.1-o.1)<(d.2-o.2)*(t.1-o.1):=fun h d hd=>by
   rw [zat hc] at hd
   rcases List.mem_append.mp hd with hd | hd
   ·exact hn d hd
   ·have:d=c:=by simpa using hd
    subst this;exact h
  walk_at "g"
  refine r_d (fun h1=>?_) (fun h1=>?_)
  ·walk_at "g"
   refine r_d (fun h2=>?_) (fun h2=>?_)
   ·walk_at "g"
    refine r_d (fun h3=>?_) (fun h3=>?_)
    ·walk_at "g"
     exact fin_same (q false ⟨fun z=>(by cases z),fun z=>absurd h3 (e1.mp z c mc h1 h2)⟩)
    ·walk_at "g"
     exact⟨rfl,⟨_,_,rfl⟩,nxt fun _ _=>h3⟩
   ·walk_at "g"
    exact⟨rfl,⟨_,_,rfl⟩,nxt fun _ z=>absurd z h2⟩
  ·walk_at "g"
   exact⟨rfl,⟨_,_,rfl⟩,nxt fun z=>absurd z h1⟩
 ·rintro Z S2 ⟨rfl,⟨w1,w2,rfl⟩,hn⟩
  rw [qa,List.take_length] at hn
  walk_at "g"
  exact fin_same (q true ⟨fun _=>e1.mpr hn,fun _=>rfl⟩)
def zcE:DSp:=fun ds S Q=>∃ (a w lo hi:Int),ds=[.int a,.int w,.int lo,.int hi]/\∀ e1 e2 x1 x2:Int,zli lo hi a w e1 e2 x1 x2->Q (.tup [p2 (e1,e2),p2 (x1,x2)]) S
def zfb:DS :=
    (zG (sIf (dT (dOp oEq (zf 1) (dC (.int 0)))) (zY (dOp oIx (zba (zm (dTup (zm (dTup (zm (dC (.int 0)) (zm (dC (.int 1)) zB))) (zm (dTup (zm (dC (.int 1)) (zm (dC (.int 1)) zB))) zB))) (zm (dTup (zm (dTup (zm (dC (.int 2)) (zm (dC (.int 1)) zB))) (zm (dTup (zm (dC (.int 0)) (zm (dC (.int 1)) zB))) zB))) zB))) (dB zrO (zm (zrQ (dOp oLt (zf 0) (zf 2)) (dOp oLt (zf 3) (zf 0))) zB)))) z9)
 (zG (sIf (dT (dOp oGt (zf 1) (dC (.int 0)))) (zY (dTup (zm (dTup (zm (dOp zah (zf 2) (zf 0)) (zm (zf 1) zB))) (zm (dTup (zm (dOp zah (zf 3) (zf 0)) (zm (zf 1) zB))) zB)))) z9)
 (zY (dTup (zm (dTup (zm (dOp zah (zf 0) (zf 3)) (zm (dUn zcG (zf 1)) zB))) (zm (dTup (zm (dOp zah (zf 0) (zf 2)) (zm (dUn zcG (zf 1)) zB))) zB))))))
theorem zmx:∀ ds So Q,zcE ds So Q->ds.length=4:=by rintro ds So Q ⟨_,_,_,_,rfl,_⟩;rfl
theorem zmZ:BodyOk 4 zfb zcE:=by
 rintro ds S Q ⟨a,w,lo,hi,rfl,q⟩
 unfold zfb
 walk_at "g"
 refine r_d (fun h=>?_) (fun h=>?_)
 ·walk_at "g"
  refine r_d (fun h1=>?_) (fun h1=>?_)
  ·walk_at "g"
   exact zan rfl (q 2 1 0 1 (.inr ⟨h,.inl h1,rfl,rfl,rfl,rfl⟩))
  ·walk_at "g"
   rcases Int.lt_or_le hi a with g | g
   ·rw [decide_eq_true g]
    refine zlj (xs:=[.tup [.tup [.int 0,.int 1],.tup [.int 1,.int 1]],.tup [.tup [.int 2,.int 1],.tup [.int 0,.int 1]]]) Lst.at0 (i:=1) rfl ?_
    exact zan rfl (q 2 1 0 1 (.inr ⟨h,.inr g,rfl,rfl,rfl,rfl⟩))
   ·rw [decide_eq_false (show ¬ hi<a by omega)]
    refine zlj (xs:=[.tup [.tup [.int 0,.int 1],.tup [.int 1,.int 1]],.tup [.tup [.int 2,.int 1],.tup [.int 0,.int 1]]]) Lst.at0 (i:=0) rfl ?_
    exact zan rfl (q 0 1 1 1 (.inl (.inl ⟨h,by omega,g,rfl,rfl,rfl,rfl⟩)))
 ·walk_at "g"
  refine r_d (fun h1=>?_) (fun h1=>?_)
  ·walk_at "g"
   exact fin_same (q _ _ _ _ (.inl (.inr (.inr (.inl ⟨h1,rfl,rfl,rfl,rfl⟩)))))
  ·walk_at "g"
   exact fin_same (q _ _ _ _ (.inl (.inr (.inr (.inr ⟨by omega,rfl,rfl,rfl,rfl⟩)))))
def zdq:DSp:=fun ds S Q=>∃ (L R B T:Int) (a b:Int×Int),ds=[.tup [.int L,.int R,.int B,.int T],p2 a,p2 b]/\L<=R/\B<=T/\(Bd 700 L/\Bd 700 R/\Bd 700 B/\Bd 700 T)/\(Bd 700 a.1/\Bd 700 a.2)/\(Bd 700 b.1/\Bd 700 b.2)/\∀ r:Bool,(r=true↔Hit L R B T a.1 a.2 b.1 b.2)->Q (.bl r) S
def zff:DS :=
    (zG (zM (zba (zm (dTup (zm (dTup (zm (dC (.int 0)) (zm (dC (.int 1)) zB))) (zm (dTup (zm (dC (.int 1)) (zm (dC (.int 1)) zB))) zB))) (zm (dCall zcE (zm (dOp oIx (zf 1) (dC (.int 0))) (zm (dOp zah (dOp oIx (zf 2) (dC (.int 0))) (dOp oIx (zf 1) (dC (.int 0)))) (zm (dOp oIx (zf 0) (dC (.int 0))) (zm (dOp oIx (zf 0) (dC (.int 1))) zB))))) zB))) (zE 3))
 (zG (zaR (dM zbt (zf 3) (zm (dCall zcE (zm (dOp oIx (zf 1) (dC (.int 1))) (zm (dOp zah (dOp oIx (zf 2) (dC (.int 1))) (dOp oIx (zf 1) (dC (.int 1)))) (zm (dOp oIx (zf 0) (dC (.int 2))) (zm (dOp oIx (zf 0) (dC (.int 3))) zB))))) zB)))
 (zG (zbu (zaY (dLC 1 [] (zaY (zf 3)) (zE 0) zbz (dOp oIx (zf 0) (dC (.int 0))))) (zE 4) (zbu (zaY (dLC 1 [] (zaY (zf 3)) (zE 0) zbz (dOp oIx (zf 0) (dC (.int 1))))) (zE 5) (sIf (dT (dOp oGt (dOp zau (dOp oIx (zf 4) (dC (.int 0))) (dOp oIx (zf 5) (dC (.int 1)))) (dOp zau (dOp oIx (zf 5) (dC (.int 0))) (dOp oIx (zf 4) (dC (.int 1)))))) (zY (dC (.bl false))) z9)))
 (zY (dC (.bl true))))))
theorem zlS:∀ ds So Q,zdq ds So Q->ds.length=3:=by rintro ds So Q ⟨_,_,_,_,_,_,rfl,_⟩;rfl
theorem znf:BodyOk 6 zff zdq:=by
 rintro ds S Q ⟨L,R,B,T,a,b,rfl,hx,hz,⟨bL,bR,bB,bT⟩,⟨ba1,ba2⟩,⟨bb1,bb2⟩,q⟩
 unfold zff
 walk_at "g"
 refine⟨_,_,_,_,rfl,fun e1 e2 x1 x2 pa=>?_⟩
 walk_at "g"
 refine⟨_,_,_,_,rfl,fun f1 f2 y1 y2 pu=>?_⟩
 walk_at "drho"
 obtain⟨d1,d2,d3,d4⟩:=zl6 pa (by decide) bL bR ba1 (Bd.sub bb1 ba1)
 obtain⟨g1,g2,g3,g4⟩:=zl6 pu (by decide) bB bT ba2 (Bd.sub bb2 ba2)
 have hit:=zwz hx hz pa pu
 unfold zix at hit
 clear pa pu
 obtain⟨ls,hls⟩:∃ ls:List (Int×Int),ls=[(0,1),(e1,e2),(f1,f2)]:=⟨_,rfl⟩
 obtain⟨hs,hhs⟩:∃ hs:List (Int×Int),hs=[(1,1),(x1,x2),(y1,y2)]:=⟨_,rfl⟩
 have bo:∀ c:Int,0<=c->c<=2->Bd 701 c:=fun c h0 h1=>by
  have:Bd 2 c:=by show _<2 ^ 2;omega
  exact this.mono (by decide)
 have bl:∀ c∈ls,Bd 701 c.1/\Bd 701 c.2:=fun c hc=>by
  rw [hls] at hc
  simp only [qh,List.not_mem_nil,or_false] at hc
  rcases hc with rfl | rfl | rfl
  ·exact⟨bo _ (by decide) (by decide),bo _ (by decide) (by decide)⟩
  ·exact⟨d1,d2⟩
  ·exact⟨g1,g2⟩
 have bh:∀ c∈hs,Bd 701 c.1/\Bd 701 c.2:=fun c hc=>by
  rw [hhs] at hc
  simp only [qh,List.not_mem_nil,or_false] at hc
  rcases hc with rfl | rfl | rfl
  ·exact⟨bo _ (by decide) (by decide),bo _ (by decide) (by decide)⟩
  ·exact⟨d3,d4⟩
  ·exact⟨g3,g4⟩
 have hit':(∀ e∈ls,∀ x∈hs,e.1*x.2<=x.1*e.2)↔Hit L R B T a.1 a.2 b.1 b.2:=by rw [hls,hhs];exact hit
 clear hit
 have lh:hs.length=3:=by rw [hhs];rfl
 have ll:ls.length=3:=by rw [hls];rfl
 have ep:([.tup [p2 (0,1),p2 (1,1)],.tup [p2 (e1,e2),p2 (x1,x2)]]:List D)++[.tup [p2 (f1,f2),p2 (y1,y2)]]=[.tup [p2 (0,1),p2 (1,1)],.tup [p2 (e1,e2),p2 (x1,x2)],.tup [p2 (f1,f2),p2 (y1,y2)]]:=rfl
 have eF:([.tup [p2 (0,1),p2 (1,1)],.tup [p2 (e1,e2),p2 (x1,x2)],.tup [p2 (f1,f2),p2 (y1,y2)]]:List D).map onF=ls.map p2:=by rw [hls];rfl
 have eL:([.tup [p2 (0,1),p2 (1,1)],.tup [p2 (e1,e2),p2 (x1,x2)],.tup [p2 (f1,f2),p2 (y1,y2)]]:List D).map onL=hs.map p2:=by rw [hhs];rfl
 obtain⟨ps,hps⟩:∃ ps:List D,ps=[.tup [p2 (0,1),p2 (1,1)],.tup [p2 (e1,e2),p2 (x1,x2)],.tup [p2 (f1,f2),p2 (y1,y2)]]:=⟨_,rfl⟩
 have lp:ps.length=3:=by rw [hps];rfl
 rw [<- hps] at ep eF eL
 have hpi:∀ (i:Nat) d,ps[i]?=some d->∃ u v:Int×Int,d=.tup [p2 u,p2 v]:=fun i d hd=>by
  have hm:=qd hd
  rw [hps] at hm
  simp only [qh,List.not_mem_nil,or_false] at hm
  rcases hm with rfl | rfl | rfl
  ·exact⟨_,_,rfl⟩
  ·exact⟨_,_,rfl⟩
  ·exact⟨_,_,rfl⟩
 clear hls hhs
 walk_at "g"
 show zoS _ _ _ _ _ _ _ ⟨([D.tup [p2 (0,1),p2 (1,1)],.tup [p2 (e1,e2),p2 (x1,x2)]]++[.tup [p2 (f1,f2),p2 (y1,y2)]]:List D),_⟩ (S++[.lst ([D.tup [p2 (0,1),p2 (1,1)],.tup [p2 (e1,e2),p2 (x1,x2)]]++[.tup [p2 (f1,f2),p2 (y1,y2)]])])
 rw [ep]
 refine za3 (fun _=>true) onF Lst.at0 (by rw [lp];decide) (fun i d ys hd hw=>?_) ?_
 ·obtain⟨u,v,rfl⟩:=hpi i d hd
  walk_at "g"
  exact zbL hd hw rfl rfl
 rw [filter_true,eF]
 walk_at "g"
 refine zaM (fun i Z S'=>∃ (G:Sto) (w1 w2:Option D),S'=S++(Cell.lst ps::Cell.lst (ls.map p2)::G)/\Z=[some (.tup [.int L,.int R,.int B,.int T]),some (p2 a),some (p2 b),some (.ref S.length),w1,w2]/\∀ e∈ls.take i,∀ x∈hs,e.1*x.2<=x.1*e.2) ⟨[],none,none,rfl,rfl,by simp⟩ (fun i Z S' ⟨G,w1,w2,e,_⟩=>e▸Lst.at (k:=1) rfl) ?_ ?_
 ·rintro i d Z S' hd ⟨G,w1,w2,rfl,rfl,hle⟩
  obtain⟨e,he,rfl⟩:=zcL hd
  have me:=qd he
  have kp:Lst (S++(Cell.lst ps::Cell.lst (ls.map p2)::G)) (.ref S.length) ps:=Lst.at0
  walk_at "g"
  refine za3 (fun _=>true) onL kp (by rw [lp];decide) (fun i d ys hd hw=>?_) ?_
  ·obtain⟨u,v,rfl⟩:=hpi i d hd
   walk_at "g"
   exact zbL hd hw rfl rfl
  rw [filter_true,eL]
  walk_at "g"
  obtain⟨S2,hS2⟩:∃ S2:Sto,S2=S++(Cell.lst ps::Cell.lst (ls.map p2)::G++[.lst (hs.map p2)]):=⟨_,rfl⟩
  have kh:Lst S2 (.ref (S.length+(Cell.lst ps::Cell.lst (ls.map p2)::G).length)) (hs.map p2):=hS2▸Lst.new
  rw [<- hS2]
  refine zaM (fun j Z S'=>S'=S2/\(∃ w2:Option D,Z=[some (.tup [.int L,.int R,.int B,.int T]),some (p2 a),some (p2 b),some (.ref S.length),some (p2 e),w2])/\∀ x∈hs.take j,e.1*x.2<=x.1*e.2) ⟨rfl,⟨_,rfl⟩,by simp⟩ (fun j Z S' h=>h.1▸kh) ?_ ?_
  ·rintro j d Z S' hd ⟨rfl,⟨w2,rfl⟩,hlj⟩
   obtain⟨x,hx',rfl⟩:=zcL hd
   have mx:=qd hx'
   have cm1:zar e.1 x.2:=.inl ⟨(bl e me).1.mono (by decide),(bh x mx).2.mono (by decide)⟩
   have cm2:zar x.1 e.2:=.inl ⟨(bh x mx).1.mono (by decide),(bl e me).2.mono (by decide)⟩
   walk_at "g"
   refine r_d (fun h=>?_) (fun h=>?_)
   ·walk_at "g"
    rw [hS2]
    refine zan rfl (q false ⟨fun z=>(by cases z),fun z=>?_⟩)
    have:=hit'.mpr z e me x mx
    omega
   ·walk_at "g"
    refine⟨rfl,⟨_,rfl⟩,fun y hy=>?_⟩
    rw [zat hx'] at hy
    rcases List.mem_append.mp hy with hy | hy
    ·exact hlj y hy
    ·have:y=x:=by simpa using hy
     subst this;omega
  ·rintro Z S' ⟨rfl,⟨w2,rfl⟩,hlj⟩
   rw [qa,List.take_length] at hlj
   refine⟨G++[.lst (hs.map p2)],_,_,by rw [hS2];rfl,rfl,fun y hy=>?_⟩
   rw [zat he] at hy
   rcases List.mem_append.mp hy with hy | hy
   ·exact hle y hy
   ·have:y=e:=by simpa using hy
    subst this;exact hlj
 ·rintro Z S' ⟨G,w1,w2,rfl,rfl,hle⟩
  rw [qa,List.take_length] at hle
  walk_at "g"
  exact zan rfl (q true ⟨fun _=>hit'.mp hle,fun _=>rfl⟩)
def zcx:DSp:=fun ds S Q=>∃ (F:Fg) (a b:Int×Int) (h:Int),ds=[fgD F,p2 a,p2 b,.int h]/\FgV F/\(Bd 180 a.1/\Bd 200 a.2)/\(Bd 180 b.1/\Bd 200 b.2)/\Bd 300 h/\∀ r:Bool,(r=true↔zbT F a.1 a.2 b.1 b.2 h)->Q (.bl r) S
def zed:DS :=
    (zG (sIf (dOr (dT (dOp oLt (zf 3) (dOp oIx (zf 0) (dC (.int 4))))) (dT (dOp oLt (dOp oIx (zf 0) (dC (.int 5))) (zf 3)))) (zY (dC (.bl false))) z9)
 (zG (zM (dOp zau (dOp oIx (zf 0) (dC (.int 6))) (dOp zah (zf 3) (dOp oIx (zf 0) (dC (.int 4))))) (zE 4))
 (zG (zM (dOp zau (dOp oIx (zf 0) (dC (.int 7))) (dOp zah (zf 3) (dOp oIx (zf 0) (dC (.int 4))))) (zE 5))
 (zY (dCall zdq (zm (dTup (zm (dOp zad (dOp oIx (zf 0) (dC (.int 0))) (zf 4)) (zm (dOp zad (dOp oIx (zf 0) (dC (.int 1))) (zf 4)) (zm (dOp zad (dOp oIx (zf 0) (dC (.int 2))) (zf 5)) (zm (dOp zad (dOp oIx (zf 0) (dC (.int 3))) (zf 5)) zB))))) (zm (zf 1) (zm (zf 2) zB))))))))
theorem zkm:∀ ds So Q,zcx ds So Q->ds.length=4:=by rintro ds So Q ⟨_,_,_,_,rfl,_⟩;rfl
theorem zld:BodyOk 6 zed zcx:=by
 rintro ds S Q ⟨F,a,b,h,rfl,ok,⟨ba1,ba2⟩,⟨bb1,bb2⟩,bh,q⟩
 unfold zed
 walk_at "g"
 refine r_d (fun h1=>?_) (fun h1=>?_)
 ·walk_at "g"
  exact fin_same (q false ⟨fun z=>(by cases z),fun z=>by have:=z.1;omega⟩)
 walk_at "g"
 refine r_d (fun h2=>?_) (fun h2=>?_)
 ·walk_at "g"
  exact fin_same (q false ⟨fun z=>(by cases z),fun z=>by have:=z.2.1;omega⟩)
 have bk:Bd 301 (h-F.f):=Bd.sub bh ok.f
 have cm1:zar F.g (h-F.f):=.inl ⟨ok.b.bg.mono (by decide),bk.mono (by decide)⟩
 have cm2:zar F.s (h-F.f):=.inl ⟨ok.b.bs.mono (by decide),bk.mono (by decide)⟩
 have p1:Bd 501 (F.g*(h-F.f)):=Bd.mul ok.b.bg bk
 have p2':Bd 501 (F.s*(h-F.f)):=Bd.mul ok.b.bs bk
 have ad:∀ {x y:Int},Bd 600 x->Bd 501 y->Bd 700 (x+y):=fun hx hy=>(Bd.add (n:=600) hx (hy.mono (by decide))).mono (by decide)
 walk_at "g"
 refine⟨_,_,_,_,a,b,rfl,by have:=ok.b.x;omega,by have:=ok.b.z;omega,⟨ad ok.b.b0 p1,ad ok.b.b1 p1,ad ok.b.b2 p2',ad ok.b.b3 p2'⟩,⟨ba1.mono (by decide),ba2.mono (by decide)⟩,⟨bb1.mono (by decide),bb2.mono (by decide)⟩,fun r hr=>?_⟩
 refine fin_same (q r ?_)
 rw [hr]
 exact⟨fun z=>⟨by omega,by omega,z⟩,fun z=>z.2.2⟩
theorem zpE (b:Str×(Int×Int)):D.tup (cutD [.str b.1,.int b.2.1,.int b.2.2] (some 1) none)=p2 b.2:=rfl
theorem zxt (a b c d e f g:D):cutD [a,b,c,d,e,f,g] none (some 4)=[a,b,c,d]:=rfl
def zdp:DSp:=fun ds S Q=>∃ (x y z:D) (V:Vl) (k j h:Int) (b c:Str×(Int×Int)),ds=[vlD x y z V,.int k,.int j,.int h]/\VlS S x y z V/\zch V/\0<=k/\0<=j/\V.bs[k.toNat]?=some b/\V.bs[j.toNat]?=some c/\Bd 300 h/\∀ r:Bool,(r=true↔b.1=c.1\/zjc V b.2 c.2 h)->Q (.bl r) S
def ze3:DS :=
    (zG (zM (dSl zcX (zf 0) none (some (dC (.int 4)))) (zcF 4 (zav (zE 4) (zav (zE 5) (zav (zE 6) (zav (zE 7) zcH))))))
 (zG (sIf (dT (dOp oEq (zf 1) (zf 2))) (zY (dC (.bl true))) z9)
 (zG (zM (dSl zcX (dOp oIx (zf 5) (zf 1)) (some (dC (.int 1))) none) (zE 8))
 (zG (zM (dSl zcX (dOp oIx (zf 5) (zf 2)) (some (dC (.int 1))) none) (zE 9))
 (zG (sIf (zd8 (dT (dCall zc1 (zm (zf 4) (zm (zf 8) (zm (zf 9) zB)))))) (zY (dC (.bl false))) z9)
 (zG (zM (dOp zad (dOp zau (dOp zah (dOp oIx (zf 8) (dC (.int 0))) (dOp oIx (zf 9) (dC (.int 0)))) (dOp zah (dOp oIx (zf 8) (dC (.int 0))) (dOp oIx (zf 9) (dC (.int 0))))) (dOp zau (dOp zah (dOp oIx (zf 8) (dC (.int 1))) (dOp oIx (zf 9) (dC (.int 1)))) (dOp zah (dOp oIx (zf 8) (dC (.int 1))) (dOp oIx (zf 9) (dC (.int 1)))))) (zE 10))
 (zG (sIf (zfB (dT (dOp zfH (zf 7) (dC .non))) (dT (dOp oGt (zf 10) (zf 7)))) (zY (dC (.bl false))) z9)
 (zY (dOp oEq (dB zaH (zm (dLC 1 [8,9,3] (zaY (zf 6)) (zE 0) (dT (dCall zcx (zm (zf 0) (zm (zf 1) (zm (zf 2) (zm (zf 3) zB)))))) (zf 0)) zB)) (dC (.int 0)))))))))))
theorem zmB:∀ ds So Q,zdp ds So Q->ds.length=4:=by rintro ds So Q ⟨_,_,_,_,_,_,_,_,_,rfl,_⟩;rfl
theorem zmR:BodyOk 11 ze3 zdp:=by
 rintro ds S Q ⟨x,y,z,V,k,j,h,b,c,rfl,⟨hx,hy,hz⟩,ok,k0,j0,hb,hc,bh,q⟩
 unfold ze3
 walk_at "g"
 rw [zxt]
 walk_at "g"
 refine r_d (fun e=>?_) (fun e=>?_)
 ·walk_at "g"
  refine fin_same (q true ⟨fun _=>.inl ?_,fun _=>rfl⟩)
  rw [e] at hb;rw [hb] at hc;cases hc;rfl
 have hne:b.1≠c.1:=fun z=>e (by have:=(zis ok hb hc).mp z;omega)
 have mb:=qd hb
 have mc:=qd hc
 have bb:=ok.bd b mb
 have bc:=ok.bd c mc
 have ab:atD (V.bs.map bcD) k=some (bcD b):=by
  have:=za5 (ds:=V.bs.map bcD) (i:=k.toNat) (by rw [qg,hb];rfl)
  rwa [show ((k.toNat:Nat):Int)=k by omega] at this
 have ac:atD (V.bs.map bcD) j=some (bcD c):=by
  have:=za5 (ds:=V.bs.map bcD) (i:=j.toNat) (by rw [qg,hc];rfl)
  rwa [show ((j.toNat:Nat):Int)=j by omega] at this
 walk_at "g"
 rw [zpE,zpE]
 walk_at "drho"
 refine⟨x,V.cs,b.2,c.2,rfl,hx,ok.gr.bd,⟨bb.1.mono (by decide),bb.2.mono (by decide)⟩,⟨bc.1.mono (by decide),bc.2.mono (by decide)⟩,fun r hr=>?_⟩
 have c1:Bd 8000 (b.2.1-c.2.1):=(Bd.sub bb.1 bc.1).mono (by decide)
 have c2:Bd 8000 (b.2.2-c.2.2):=(Bd.sub bb.2 bc.2).mono (by decide)
 have m1:zar (b.2.1-c.2.1) (b.2.1-c.2.1):=.inl ⟨c1,c1⟩
 have m2:zar (b.2.2-c.2.2) (b.2.2-c.2.2):=.inl ⟨c2,c2⟩
 have esq:(b.2.1-c.2.1)*(b.2.1-c.2.1)+(b.2.2-c.2.2)*(b.2.2-c.2.2)=sqr b.2 c.2:=by unfold sqr;grind
 cases r with
 | false =>
  walk_at "g"
  refine fin_same (q false ⟨fun z=>(by cases z),fun z=>?_⟩)
  rcases z with z | z
  ·exact absurd z hne
  ·exact absurd (hr.mpr z.1.1) (by decide)
 | true =>
  have hin:=hr.mp rfl
  clear hr
  walk_at "g"
  rw [esq]
  cases hhz:hzy V.hz (sqr b.2 c.2) with
  | true =>
   obtain⟨zz,hV,lt⟩:∃ zz,V.hz=some zz/\zz<sqr b.2 c.2:=by
    cases hV:V.hz with
    | none=>rw [hV] at hhz;cases hhz
    | some zz=>rw [hV] at hhz;exact⟨zz,rfl,of_decide_eq_true hhz⟩
   rw [hV,zkK,show zhg (D.int zz)=false from rfl]
   walk_at "g"
   rw [decide_eq_true lt]
   walk_at "g"
   refine fin_same (q false ⟨fun z=>(by cases z),fun z=>?_⟩)
   rcases z with z | z
   ·exact absurd z hne
   ·have:=z.1.2;rw [hhz] at this;cases this
  | false =>
   have hzF:V.hz=none\/∃ zz,V.hz=some zz/\¬ zz<sqr b.2 c.2:=by
    cases hV:V.hz with
    | none=>exact .inl rfl
    | some zz=>rw [hV] at hhz;exact .inr ⟨zz,rfl,of_decide_eq_false hhz⟩
   have f12:=ok.f12
   rcases hzF with hV | ⟨zz,hV,nlt⟩
   ·rw [hV,zpD,show zhg D.non=true from rfl]
    walk_at "g"
    refine zjY (fun i ys S'=>S'=S/\(ys=[]↔∀ F∈V.fs.take i,¬ zbT F b.2.1 b.2.2 c.2.1 c.2.2 h)) ⟨rfl,by simp⟩ (fun i ys S' w=>w.1▸hz) (by rw [qa];unfold big;omega) ?_ ?_
    ·rintro i d ys S' hd ⟨rfl,hys⟩
     obtain⟨F,hF,rfl⟩:=zjz hd
     walk_at "g"
     refine⟨F,b.2,c.2,h,rfl,ok.fg F (qd hF),bb,bc,bh,fun r hr=>?_⟩
     rw [zat hF]
     cases r with
     | true =>
      walk_at "g"
      refine⟨rfl,⟨fun z=>absurd z (by simp),fun z=>absurd (hr.mp rfl) (z F (by simp))⟩⟩
     | false =>
      walk_at "g"
      refine⟨rfl,hys.trans ⟨fun g G hG=>?_,fun g G hG=>g G (List.mem_append_left _ hG)⟩⟩
      rcases List.mem_append.mp hG with hG | hG
      ·exact g G hG
      ·have:G=F:=by simpa using hG
       subst this
       exact fun z=>absurd (hr.mpr z) (by decide)
    ·rintro ys S' ⟨rfl,hys⟩
     rw [qa,List.take_length] at hys
     walk_at "g"
     refine zan rfl (q _ ?_)
     rw [decide_eq_true_eq]
     constructor
     ·intro z
      exact .inr ⟨⟨hin,hhz⟩,fun⟨F,hF,hd⟩=>hys.mp (List.length_eq_zero_iff.mp (by omega)) F hF hd⟩
     ·rintro (z | z)
      ·exact absurd z hne
      ·have:=hys.mpr fun F hF hd=>z.2 ⟨F,hF,hd⟩
       rw [this];rfl
   ·rw [hV,zkK,show zhg (D.int zz)=false from rfl]
    walk_at "g"
    rw [decide_eq_false nlt]
    walk_at "g"
    refine zjY (fun i ys S'=>S'=S/\(ys=[]↔∀ F∈V.fs.take i,¬ zbT F b.2.1 b.2.2 c.2.1 c.2.2 h)) ⟨rfl,by simp⟩ (fun i ys S' w=>w.1▸hz) (by rw [qa];unfold big;omega) ?_ ?_
    ·rintro i d ys S' hd ⟨rfl,hys⟩
     obtain⟨F,hF,rfl⟩:=zjz hd
     walk_at "g"
     refine⟨F,b.2,c.2,h,rfl,ok.fg F (qd hF),bb,bc,bh,fun r hr=>?_⟩
     rw [zat hF]
     cases r with
     | true =>
      walk_at "g"
      refine⟨rfl,⟨fun z=>absurd z (by simp),fun z=>absurd (hr.mp rfl) (z F (by simp))⟩⟩
     | false =>
      walk_at "g"
      refine⟨rfl,hys.trans ⟨fun g G hG=>?_,fun g G hG=>g G (List.mem_append_left _ hG)⟩⟩
      rcases List.mem_append.mp hG with hG | hG
      ·exact g G hG
      ·have:G=F:=by simpa using hG
       subst this
       exact fun z=>absurd (hr.mpr z) (by decide)
    ·rintro ys S' ⟨rfl,hys⟩
     rw [qa,List.take_length] at hys
     walk_at "g"
     refine zan rfl (q _ ?_)
     rw [decide_eq_true_eq]
     constructor
     ·intro z
      exact .inr ⟨⟨hin,hhz⟩,fun⟨F,hF,hd⟩=>hys.mp (List.length_eq_zero_iff.mp (by omega)) F hF hd⟩
     ·rintro (z | z)
      ·exact absurd z hne
      ·have:=hys.mpr fun F hF hd=>z.2 ⟨F,hF,hd⟩
       rw [this];rfl
def zdk:DSp:=fun ds S Q=>∃ (x y z:D) (V:Vl),ds=[vlD x y z V]/\VlS S x y z V/\zch V/\V.h1-V.h0<=800/\∀ (T:Sto) (t:D),TabAt (S++T) t V.bs.length (zao V)->Q t (S++T)
def ze2:DS :=
    (zG (zM (dB zaH (zm (dOp oIx (zf 0) (dC (.int 1))) zB)) (zE 1))
 (zG (zM (dB zov (zm (dOp oIx (zf 0) (dC (.int 4))) (zm (dOp zad (dOp oIx (zf 0) (dC (.int 5))) (dC (.int 1))) zB))) (zE 2))
 (zG (zM (dLC 1 [1] (zcJ (zm (zf 1) zB)) (zE 0) zbz (dLC 1 [] (zcJ (zm (zf 1) zB)) (zE 0) zbz (zba zB))) (zE 3))
 (zG (zbu (zcJ (zm (zf 1) zB)) (zE 4) (zbu (zcJ (zm (zf 4) zB)) (zE 5) (zG (zM (dLC 1 [0,4,5] (zaY (zf 2)) (zE 0) (dT (dCall zdp (zm (zf 1) (zm (zf 2) (zm (zf 3) (zm (zf 0) zB)))))) (zf 0)) (zhI (dOp oIx (zf 3) (zf 4)) (zf 5)))
 (zM (dOp oIx (dOp oIx (zf 3) (zf 4)) (zf 5)) (zhI (dOp oIx (zf 3) (zf 5)) (zf 4))))))
 (zY (zf 3))))))
theorem zl7:∀ ds So Q,zdk ds So Q->ds.length=1:=by rintro ds So Q ⟨_,_,_,_,rfl,_⟩;rfl
theorem zm8:BodyOk 6 ze2 zdk:=by
 rintro ds S Q ⟨x,y,z,V,rfl,hs,ok,hr,q⟩
 unfold ze2
 obtain⟨hx,hy,hz⟩:=id hs
 have b12:=ok.b12
 have hh:=ok.hh
 walk_at "g"
 rw [qa]
 refine zuY (by omega) ?_
 have eh:upto V.h0 (V.h1+1-V.h0).toNat=(hrs V).map D.int:=by
  unfold upto hrs
  rw [List.map_map,show V.h1+1-V.h0=V.h1-V.h0+1 by omega];rfl
 rw [eh]
 have lh:(hrs V).length<=801:=by unfold hrs;rw [qa,List.length_range];omega
 walk_at "g"
 walk_at "drho"
 obtain⟨S1,hS1⟩:∃ S1:Sto,S1=S++[.lst ((hrs V).map D.int)]:=⟨_,rfl⟩
 have kh:Lst S1 (.ref S.length) ((hrs V).map D.int):=hS1▸Lst.at0
 have hs1:VlS S1 x y z V:=hS1▸hs.old
 have l1:S.length<=S1.length:=by rw [hS1];simp
 rw [<- hS1]
 generalize S.length=hr' at kh
 refine⟨_,rfl,by omega,by omega,?_⟩
 refine zjY (fun i ys S'=>∃ (G:Sto) (rs:List Nat),S'=S1++G/\ys=rs.map D.ref/\rs.length=i/\rs.Nodup/\∀ r∈rs,S1.length<=r/\r<S'.length/\∃ cs:List Nat,S'[r]?=some (.lst (cs.map D.ref))/\cs.length=V.bs.length/\∀ c∈cs,c∉rs/\c<S'.length/\S'[c]?=some (.lst [])) ⟨[],[],by simp,rfl,rfl,by simp,by simp⟩ (fun _ _ _ _=>True.intro) (by rw [zaE];unfold big;omega) ?_ ?_
 ·rintro i d ys S' hd ⟨G,rs,rfl,rfl,hi,nd,hrs'⟩
  obtain⟨hi',rfl⟩:=zbq hd
  obtain⟨S2,hS2⟩:∃ S2:Sto,S2=S1++G:=⟨_,rfl⟩
  rw [<- hS2] at hrs' ⊢
  walk_at "g"
  refine⟨_,rfl,by omega,by omega,?_⟩
  refine zjY (fun j ys S'=>∃ (G:Sto) (cs:List Nat),S'=S2++G/\ys=cs.map D.ref/\cs.length=j/\∀ c∈cs,S2.length<=c/\c<S'.length/\S'[c]?=some (.lst [])) ⟨[],[],by simp,rfl,rfl,by simp⟩ (fun _ _ _ _=>True.intro) (by rw [zaE];unfold big;omega) ?_ ?_
  ·rintro j d ys S' hd' ⟨G',cs,rfl,rfl,hj,hcs⟩
   obtain⟨hj',rfl⟩:=zbq hd'
   refine znC (zqy ?_)
   refine zol ?_
   refine zsx (zse (zr7 rfl ?_))
   unfold New
   refine⟨G'++[.lst []],cs++[(S2++G').length],by rw [List.append_assoc],by rw [List.map_append];rfl,by simp [hj],fun c hc=>?_⟩
   rcases List.mem_append.mp hc with hc | hc
   ·obtain⟨h1,h2,h3⟩:=hcs c hc
    exact⟨h1,by rw [qe];omega,zal h3⟩
   ·have e:c=(S2++G').length:=by simpa using hc
    subst e
    exact⟨by simp,by simp,zaU⟩
  rintro ys S' ⟨G',cs,rfl,rfl,hj,hcs⟩
  rw [zaE] at hj
  unfold New
  have hlen:S2.length<=(S2++G').length:=by simp
  have l12:S1.length<=S2.length:=by rw [hS2];simp
  refine⟨G++G'++[.lst (cs.map D.ref)],rs++[(S2++G').length],by rw [hS2];simp,by rw [List.map_append];rfl,by simp [hi],?_,fun r hr2=>?_⟩
  ·rw [List.nodup_append]
   refine⟨nd,by simp,fun a ha b hb e=>?_⟩
   have eb:b=(S2++G').length:=by simpa using hb
   have:=(hrs' a ha).2.1
   omega
  ·rcases List.mem_append.mp hr2 with hr2 | hr2
   ·obtain⟨a1,a2,cs',a3,a4,a5⟩:=hrs' r hr2
    refine⟨a1,by rw [qe];omega,cs',zal (zal a3),a4,fun c hc=>?_⟩
    obtain⟨c1,c2,c3⟩:=a5 c hc
    refine⟨fun z=>?_,by rw [qe];omega,zal (zal c3)⟩
    rcases List.mem_append.mp z with z | z
    ·exact c1 z
    ·have:c=(S2++G').length:=by simpa using z
     omega
   ·have e:r=(S2++G').length:=by simpa using hr2
    subst e
    refine⟨by omega,by simp,cs,zaU,by omega,fun c hc=>?_⟩
    obtain⟨c1,c2,c3⟩:=hcs c hc
    refine⟨fun z=>?_,by rw [qe];omega,zal c3⟩
    rcases List.mem_append.mp z with z | z
    ·have:=(hrs' c z).2.1
     omega
    ·have:c=(S2++G').length:=by simpa using z
     omega
 rintro ys S' ⟨G,rs,rfl,rfl,hi,nd,hrs'⟩
 rw [zaE,show ((V.bs.length:Nat):Int).toNat=V.bs.length by omega] at hi
 unfold New
 have t0:zf4 (S1++G++[.lst (rs.map D.ref)]) S1.length (S1++G).length rs V.bs.length (fun _ _=>[]):=by
  refine⟨zaU,hi,nd,by simp,fun k r hk=>?_⟩
  obtain⟨a1,a2,cs,a3,a4,a5⟩:=hrs' r (qd hk)
  refine⟨a1,by omega,cs,zal a3,a4,fun j c hc=>?_⟩
  obtain⟨c1,c2,c3⟩:=a5 c (qd hc)
  exact⟨by omega,c1,zal c3⟩
 have e0:∃ G',S1++G++[Cell.lst (rs.map D.ref)]=S1++G':=⟨G++[.lst (rs.map D.ref)],by rw [List.append_assoc]⟩
 generalize S1++G++[Cell.lst (rs.map D.ref)]=S3 at t0 e0
 generalize (S1++G).length=t at t0
 clear hrs'
 walk_at "g"
 walk_at "drho2"
 refine⟨_,rfl,by omega,by omega,?_⟩
 refine zaM (fun k Z S'=>∃ (G:Sto) (F:Nat->Nat->List Int) (w4 w5:Option D),S'=S1++G/\zf4 S' S1.length t rs V.bs.length F/\(∀ a b,b<a->a<k->F a b=zao V a b/\F b a=zao V b a)/\(∀ a,F a a=[])/\Z=[some (vlD x y z V),some (.int V.bs.length),some (.ref hr'),some (.ref t),w4,w5]) (by obtain⟨G',e0⟩:=e0;exact⟨G',_,_,_,e0,t0,fun a b _ h=>by omega,fun _=>rfl,rfl⟩) (fun _ _ _ _=>True.intro) ?_ ?_
 ·rintro k d Z S' hd ⟨G,F,w4,w5,rfl,tb,hF,hF0,rfl⟩
  obtain⟨hk,rfl⟩:=zbq hd
  walk_at "g"
  refine⟨_,rfl,by omega,by omega,?_⟩
  refine zaM (fun j Z S'=>∃ (G:Sto) (F:Nat->Nat->List Int) (w5:Option D),S'=S1++G/\zf4 S' S1.length t rs V.bs.length F/\(∀ a b,b<a->(a<k\/(a=k/\b<j))->F a b=zao V a b/\F b a=zao V b a)/\(∀ a,F a a=[])/\Z=[some (vlD x y z V),some (.int V.bs.length),some (.ref hr'),some (.ref t),some (.int (0+(k:Int))),w5]) ⟨G,F,_,rfl,tb,fun a b h1 h2=>hF a b h1 (by omega),hF0,rfl⟩ (fun _ _ _ _=>True.intro) ?_ ?_
  ·rintro j d Z S' hd' ⟨G,F,w5,rfl,tb,hF,hF0,rfl⟩
   obtain⟨hj,rfl⟩:=zbq hd'
   have hjk:j<k:=by omega
   have hkn:k<V.bs.length:=by omega
   obtain⟨b,hb,ab⟩:=zdz (bs:=V.bs) (k:=0+(k:Int)) (by omega) (by omega)
   obtain⟨c,hc,ac⟩:=zdz (bs:=V.bs) (k:=0+(j:Int)) (by omega) (by omega)
   have ek:(0+(k:Int)).toNat=k:=by omega
   have ej:(0+(j:Int)).toNat=j:=by omega
   have kh2:Lst (S1++G) (.ref hr') ((hrs V).map D.int):=kh.old
   have hs2:VlS (S1++G) x y z V:=hs1.old
   walk_at "g"
   refine za3 (onB (ze0 V k j)) id kh2 (by rw [qa];unfold big;omega) (fun i d ys hd3 hw=>?_) ?_
   ·obtain⟨h,hh',rfl⟩:=zc6 hd3
    have mh:=znB.mp (qd hh')
    walk_at "g"
    refine⟨x,y,z,V,_,_,h,b,c,rfl,hs2,ok,by omega,by omega,hb,hc,(Bd.btw (n:=250) ok.b0 ok.bl mh.1 mh.2).mono (by decide),fun r hr3=>?_⟩
    rw [ek] at hb
    rw [ej] at hc
    have ne:b.1≠c.1:=fun z=>by have:=(zis ok hb hc).mp z;omega
    have er:r=ze0 V k j h:=by
     rw [Bool.eq_iff_iff,hr3,zfx]
     constructor
     ·rintro (z | z)
      ·exact absurd z ne
      ·exact⟨by omega,b,c,hb,hc,z⟩
     ·rintro⟨_,b',c',hb',hc',z⟩
      rw [hb] at hb';rw [hc] at hc'
      cases hb';cases hc'
      exact .inr z
    cases hr4:r with
    | true =>
     walk_at "g"
     exact zbL hd3 hw (by show ze0 V k j h=true;rw [<- er];exact hr4) rfl
    | false =>
     walk_at "g"
     exact zn2 hd3 hw (by show ze0 V k j h=false;rw [<- er];exact hr4)
   rw [znt,List.map_id]
   show New _ (S1++G) ((zao V k j).map D.int)
   unfold New
   obtain⟨S4,hS4⟩:∃ S4:Sto,S4=S1++G++[.lst ((zao V k j).map D.int)]:=⟨_,rfl⟩
   have tb4:zf4 S4 S1.length t rs V.bs.length F:=hS4▸tb.old
   have hc4:S4[(S1++G).length]?=some (.lst ((zao V k j).map D.int)):=hS4▸zaU
   have nt:(S1++G).length≠t:=fun e=>by
    have:=tb.tt
    rw [<- e,List.getElem?_eq_none (qf _)] at this;cases this
   have nr:(S1++G).length∉rs:=fun e=>by
    obtain⟨i,hi2,e2⟩:=List.mem_iff_getElem.mp e
    obtain⟨_,_,cs,c1,_⟩:=tb.row i _ (qb hi2)
    rw [e2,List.getElem?_eq_none (qf _)] at c1;cases c1
   have e4:∃ G',S4=S1++G':=zcd ⟨G,rfl⟩ hS4
   rw [<- hS4]
   generalize (S1++G).length=cN at hc4 nt nr
   clear hS4 kh2 hs2 tb
   have lrs:=tb4.len
   obtain⟨rk,hrk⟩:∃ rk,rs[k]?=some rk:=⟨rs[k]'(by omega),qb (by omega)⟩
   obtain⟨rj,hrj⟩:∃ rj,rs[j]?=some rj:=⟨rs[j]'(by omega),qb (by omega)⟩
   obtain⟨l1k,ntk,csk,hk1,hk2,hk3⟩:=tb4.row k rk hrk
   have ark:atD (rs.map D.ref) (0+(k:Int))=some (.ref rk):=by
    have:=za5 (ds:=rs.map D.ref) (i:=k) (by rw [qg,hrk];rfl)
    rwa [show ((k:Nat):Int)=0+(k:Int) by omega] at this
   have arj:atD (rs.map D.ref) (0+(j:Int))=some (.ref rj):=by
    have:=za5 (ds:=rs.map D.ref) (i:=j) (by rw [qg,hrj];rfl)
    rwa [show ((j:Nat):Int)=0+(j:Int) by omega] at this
   have tt4:=Lst.here tb4.tt
   walk_at "g"
   refine zlf hk1 (j:=j) (by unfold ixD;rw [qa,if_pos (by omega),if_pos (by omega)];exact congrArg some (by omega)) ?_
   unfold Put
   rw [show ((csk.map D.ref).set j (.ref cN))=(csk.set j cN).map D.ref by rw [List.map_set]]
   have tb5:=tb4.put (j:=j) (c':=cN) hrk hk1 hc4 nt nr
   have nkc:cN≠rk:=fun e=>nr (e▸qd hrk)
   have hc5:(S4.set rk (.lst ((csk.set j cN).map D.ref)))[cN]?=some (.lst ((zao V k j).map D.int)):=by rw [List.getElem?_set_ne (Ne.symm nkc)];exact hc4
   have hk5:(S4.set rk (.lst ((csk.set j cN).map D.ref)))[rk]?=some (.lst ((csk.set j cN).map D.ref)):=by rw [List.getElem?_set_self (zae hk1)]
   have e5:∃ G',S4.set rk (.lst ((csk.set j cN).map D.ref))=S1++G':=by
    obtain⟨G',rfl⟩:=e4
    exact⟨_,zjO l1k⟩
   generalize S4.set rk (.lst ((csk.set j cN).map D.ref))=S5 at tb5 hc5 hk5 e5
   clear tb4 hc4 hk1 e4 tt4 hk3
   obtain⟨l1j,ntj,csj,hj1,hj2,hj3⟩:=tb5.row j rj hrj
   have tt5:=Lst.here tb5.tt
   have kk5:=Lst.here hk5
   have acN:atD ((csk.set j cN).map D.ref) (0+(j:Int))=some (.ref cN):=by
    have:=za5 (ds:=(csk.set j cN).map D.ref) (i:=j) (by rw [qg,List.getElem?_set_self (by omega)];rfl)
    rwa [show ((j:Nat):Int)=0+(j:Int) by omega] at this
   walk_at "g"
   refine zlf hj1 (j:=k) (by unfold ixD;rw [qa,if_pos (by omega),if_pos (by omega)];exact congrArg some (by omega)) ?_
   unfold Put
   rw [show ((csj.map D.ref).set k (.ref cN))=(csj.set k cN).map D.ref by rw [List.map_set]]
   have tb6:=tb5.put (j:=k) (c':=cN) hrj hj1 hc5 nt nr
   obtain⟨G5,rfl⟩:=e5
   refine⟨_,_,_,zjO l1j,tb6,fun a b' h1 h2=>?_,fun a=>?_,rfl⟩
   ·by_cases e1:a=k/\b'=j
    ·obtain⟨rfl,rfl⟩:=e1
     constructor
     ·show zcn (zcn F a b' (zao V a b')) b' a (zao V a b') a b'=_
      unfold zcn
      rw [if_neg (by omega),if_pos ⟨rfl,rfl⟩]
     ·show zcn (zcn F a b' (zao V a b')) b' a (zao V a b') b' a=_
      unfold zcn
      rw [if_pos ⟨rfl,rfl⟩];exact zoL
    ·have h3:a<k\/(a=k/\b'<j):=by
      rcases h2 with h2 | ⟨h2,h3⟩
      ·exact .inl h2
      ·exact .inr ⟨h2,by have:b'≠j:=fun z=>e1 ⟨h2,z⟩;omega⟩
     obtain⟨f1,f2⟩:=hF a b' h1 h3
     constructor
     ·show zcn (zcn F k j _) j k _ a b'=_
      unfold zcn
      rw [if_neg (by omega),if_neg e1];exact f1
     ·show zcn (zcn F k j _) j k _ b' a=_
      unfold zcn
      rw [if_neg (by omega),if_neg (by omega)];exact f2
   ·show zcn (zcn F k j _) j k _ a a=_
    unfold zcn
    rw [if_neg (by omega),if_neg (by omega)];exact hF0 a
  ·rintro Z S' ⟨G,F,w5,rfl,tb,hF,hF0,rfl⟩
   rw [zaE,show (0+(k:Int)).toNat=k by omega] at hF
   exact⟨G,F,_,_,rfl,tb,fun a b h1 h2=>hF a b h1 (by omega),hF0,rfl⟩
 ·rintro Z S' ⟨G,F,w4,w5,rfl,tb,hF,hF0,rfl⟩
  rw [zaE,show ((V.bs.length:Nat):Int).toNat=V.bs.length by omega] at hF
  walk_at "g"
  have fe:∀ a b,a<V.bs.length->b<V.bs.length->F a b=zao V a b:=fun a b ha hb=>by
   rcases Nat.lt_trichotomy a b with g | g | g
   ·exact (hF b a g hb).2
   ·subst g;rw [hF0 a,zn5]
   ·exact (hF a b g ha).1
  rw [hS1,List.append_assoc] at tb ⊢
  refine fin_same (q _ _ ⟨rs,Lst.here tb.tt,tb.len,fun k r hk=>?_⟩)
  obtain⟨_,_,cs,c1,c2,c3⟩:=tb.row k r hk
  have lk:k<V.bs.length:=by have:=zae hk;have:=tb.len;omega
  refine⟨cs,c1,c2,fun j c hc=>?_⟩
  have lj:j<V.bs.length:=by have:=zae hc;omega
  rw [<- fe k j lk lj]
  exact (c3 j c hc).2.2
theorem zq6 {V:Vl}{n:Str}{h:Int}{ws:List (Str×(Int×Int))}{a c:Str×(Int×Int)}(w:zhP V n h (ws++[a]))(hs:zgF V a c):zhP V n h (ws++[a]++[c]):=by
 refine⟨by rw [List.getElem?_append_left (by simp)];exact w.1,fun k a' c' ha hc=>?_⟩
 have lc:=zae hc
 simp only [qe,List.length_cons,List.length_nil] at lc
 rcases Nat.lt_or_ge (k+1) (ws.length+1) with g | g
 ·rw [List.getElem?_append_left (by simp;omega)] at ha hc
  exact w.2 k a' c' ha hc
 ·have e:k=ws.length:=by omega
  subst e
  rw [List.getElem?_append_left (by simp),qk (qf _),Nat.sub_self] at ha
  rw [qk (by simp)] at hc
  simp at ha hc
  subst ha hc;exact hs
def zdo:DSp:=fun ds S Q=>∃ (x y z:D) (V:Vl) (t:D) (nr s:Nat) (b:Str×(Int×Int)) (h:Int) (o:D) (cs:List Int) (u:Unit),ds=[.tup [vlD x y z V,t,.ref nr],.int (s:Nat),.int h,o]/\zch V/\V.h1-V.h0<=800/\TabAt S t V.bs.length (zao V)/\S[nr]?=some (.lst ((V.bs.map (·.1)).map D.str))/\V.bs[s]?=some b/\Lst S o (cs.map D.int)/\cs.length<=7/\∀ (T:Sto) (k:Nat) (ws:List (Str×(Int×Int))),zhP V b.1 h ws->ws.length<=8->(∀ w∈ws,w.1∈V.bs.map (·.1))->(S++T)[k]?=some (.lst (ws.map bcD))->S.length<=k->Q (.ref k) (S++T)
def zfg:DS :=
    (zG (zM (zf 0) (zcF 3 (zav (zE 4) (zav (zE 5) (zav (zE 6) zcH)))))
 (zG (zM (zba (zm (dTup (zm (dOp oIx (zf 6) (zf 1)) (zm (zf 2) (zm (zf 2) zB)))) zB)) (zE 7))
 (zG (zM (zf 1) (zE 8))
 (zG (zbu (zaY (zf 3)) (zE 9) (zG (zM (dCall zP (zm (zf 9) (zm (dC (.int 36)) (zm (dB zaH (zm (zf 6) zB)) zB)))) (zE 10))
 (zG (zM (dLC 1 [7] (zaY (dOp oIx (dOp oIx (zf 5) (zf 8)) (zf 10))) (zE 0) (dT (dOp oGe (zf 0) (dOp oIx (dOp oIx (zf 1) (dUn zcG (dC (.int 1)))) (dC (.int 2))))) (zf 0)) (zE 11))
 (sIf (zfB (dT (dOp oNe (zf 10) (zf 8))) (dT (dOp oGt (dB zaH (zm (zf 11) zB)) (dC (.int 0))))) (zG (zM (dOp oIx (zf 11) (dOp zau (dCall zP (zm (zf 9) (zm (dC (.int 37)) (zm (dB zaH (zm (zf 11) zB)) zB)))) (dCall zP (zm (zf 9) (zm (dC (.int 38)) (zm (dC (.int 2)) zB)))))) (zE 12))
 (zG (zaR (dM zbt (zf 7) (zm (dTup (zm (dOp oIx (zf 6) (zf 10)) (zm (zf 12) (zm (dOp zad (zf 12) (dOp oIx (zf 4) (dC (.int 6)))) zB)))) zB)))
 (zM (zf 10) (zE 8)))) z9))))
 (zY (zf 7))))))
theorem zl0:∀ ds So Q,zdo ds So Q->ds.length=4:=by rintro ds So Q ⟨_,_,_,_,_,_,_,_,_,_,_,_,rfl,_⟩;rfl
theorem zm2:BodyOk 13 zfg zdo:=by
 rintro ds S Q ⟨x,y,z,V,t,nr,s,b,h,o,cs,_,rfl,ok,h8,ht,hn,hb,ho,lc,q⟩
 unfold zfg
 have b12:=ok.b12
 have b1:=ok.b1
 have hsn:=zae hb
 have kn:=Lst.here hn
 have as':atD ((V.bs.map (·.1)).map D.str) (s:Int)=some (.str b.1):=za5 (by rw [qg,qg,hb];rfl)
 walk_at "g"
 walk_at "drho"
 have hoT:∀ T,Lst (S++T) o (cs.map D.int):=fun T=>ho.old
 have ho1:=hoT [.lst [.tup [.str b.1,.int h,.int h]]]
 walk_at "g"
 have ini:∀ w∈[]++[(b.1,h,h)],w.1∈V.bs.map (·.1):=fun w hw=>by
  have:w=(b.1,h,h):=by simpa using hw
  subst this;exact List.mem_map.mpr ⟨b,qd hb,rfl⟩
 refine zaM (fun i Z S'=>∃ (G:Sto) (w9 w10 w11 w12:Option D) (ws:List (Str×(Int×Int))) (a c:Str×(Int×Int)) (l:Nat),S'=S++Cell.lst ((ws++[a]).map bcD)::G/\zhP V b.1 h (ws++[a])/\V.bs[l]?=some c/\a.1=c.1/\ws.length<=i/\(∀ w∈ws++[a],w.1∈V.bs.map (·.1))/\Z=[some (.tup [vlD x y z V,t,.ref nr]),some (.int (s:Nat)),some (.int h),some o,some (vlD x y z V),some t,some (.ref nr),some (.ref S.length),some (.int (l:Nat)),w9,w10,w11,w12]) ⟨[],_,_,_,_,[],(b.1,h,h),b,s,rfl,⟨rfl,fun k a c ha hc=>by simp at hc⟩,hb,rfl,qf _,ini,rfl⟩ (fun i Z S' ⟨G,_,_,_,_,_,_,_,_,e,_⟩=>e▸hoT _) ?_ ?_
 ·rintro i d Z S' hd ⟨G,w9,w10,w11,w12,ws,a,c,l,rfl,hW,hc,eac,lw,hnm,rfl⟩
  obtain⟨cell,hcell,rfl⟩:=zc6 hd
  have li:=zae hcell
  have ll:=zae hc
  have kn1:Lst (S++Cell.lst ((ws++[a]).map bcD)::G) (.ref nr) ((V.bs.map (·.1)).map D.str):=kn.old
  walk_at "g"
  rw [qa,qa]
  refine⟨cell,36,_,rfl,by decide,by decide,by omega,fun tt t0 t1 _=>?_⟩
  obtain⟨ti,rfl⟩:∃ ti:Nat,tt=(ti:Int):=⟨tt.toNat,by omega⟩
  have lti:ti<V.bs.length:=by omega
  obtain⟨rows,cells,rr,cc,q1,q2,q3,q4,q5⟩:=ht.get ll lti
  have q1':Lst (S++Cell.lst ((ws++[a]).map bcD)::G) t rows:=q1.old
  have q3':Lst (S++Cell.lst ((ws++[a]).map bcD)::G) (.ref rr) cells:=q3.old
  have q5':Lst (S++Cell.lst ((ws++[a]).map bcD)::G) (.ref cc) ((zao V l ti).map D.int):=q5.old
  have ls:(zao V l ti).length<=801:=zpc (by omega)
  have kw:Lst (S++Cell.lst ((ws++[a]).map bcD)::G) (.ref S.length) ((ws++[a]).map bcD):=Lst.at0
  have am:atD ((ws++[a]).map bcD) (-1)=some (bcD a):=by rw [List.map_append];exact zfy
  walk_at "g"
  refine za3 (onB fun u=>decide (a.2.2<=u)) id q5' (by rw [qa];unfold big;omega) (fun i d ys hd3 hw=>?_) ?_
  ·obtain⟨u,hu,rfl⟩:=zc6 hd3
   walk_at "g"
   refine r_d (fun g=>?_) (fun g=>?_)
   ·walk_at "g"
    exact zbL hd3 hw (decide_eq_true g) rfl
   ·exact zn2 hd3 hw (decide_eq_false g)
  rw [znt,List.map_id]
  have hsm:∀ u∈(zao V l ti).filter (fun u=>decide (a.2.2<=u)),u∈zao V l ti/\a.2.2<=u:=fun u hu=>by
   obtain⟨h1,h2⟩:=List.mem_filter.mp hu
   exact⟨h1,of_decide_eq_true h2⟩
  have lsp:((zao V l ti).filter (fun u=>decide (a.2.2<=u))).length<=801:=Nat.le_trans (List.length_filter_le _ _) ls
  generalize (zao V l ti).filter (fun u=>decide (a.2.2<=u))=sp at hsm lsp
  walk_at "g"
  refine zfF (fun e1=>?_) (fun e1=>?_)
  case refine_2 =>
   walk_at "g"
   exact⟨_,_,_,_,_,ws,a,c,l,rfl,hW,hc,eac,by omega,hnm,rfl⟩
  walk_at "g"
  rw [qa]
  refine r_d (fun e2=>?_) (fun e2=>?_)
  case refine_2 =>
   walk_at "g"
   exact⟨_,_,_,_,_,ws,a,c,l,rfl,hW,hc,eac,by omega,hnm,rfl⟩
  walk_at "g"
  rw [qa]
  refine⟨cell,37,_,rfl,by decide,by decide,by omega,fun m m0 m1 _=>?_⟩
  walk_at "g"
  refine⟨cell,38,2,rfl,by decide,by decide,by decide,fun m' m0' m1' _=>?_⟩
  have hmm:0<=m*m'/\m*m'<sp.length:=by
   have:m'=0\/m'=1:=by omega
   rcases this with rfl | rfl
   ·rw [Int.mul_zero];omega
   ·rw [Int.mul_one];omega
  have cm:zar m m':=.inr (.inr (by omega))
  obtain⟨u,hu,au⟩:=zeN (zs:=sp) (k:=m*m') hmm.1 hmm.2
  obtain⟨u1,u2⟩:=hsm u hu
  obtain⟨d,hd2,ad⟩:∃ d,V.bs[ti]?=some d/\atD ((V.bs.map (·.1)).map D.str) (ti:Int)=some (.str d.1):=⟨_,qb lti,za5 (by rw [qg,qg,qb lti];rfl)⟩
  have kn2:Lst (S++(Cell.lst ((ws++[a]).map bcD)::G++[Cell.lst (sp.map D.int)])) (.ref nr) ((V.bs.map (·.1)).map D.str):=kn.old
  have hlim:((ws++[a]).map bcD).length<big:=by rw [qa,qe];unfold big;simp;omega
  walk_at "g"
  have hst:zgF V a (d.1,u,u+V.dl):=by
   refine⟨fun e=>?_,u2,rfl,l,ti,⟨c,hc,eac.symm⟩,⟨d,hd2,rfl⟩,u1⟩
   have:=(zis ok hd2 hc).mp (e.trans eac)
   omega
  refine⟨_,_,_,_,_,ws++[a],(d.1,u,u+V.dl),d,ti,by rw [List.map_append (l₁:=ws++[a])];rfl,zq6 hW hst,hd2,rfl,by rw [qe];simp;omega,fun w hw=>?_,rfl⟩
  rcases List.mem_append.mp hw with hw | hw
  ·exact hnm w hw
  ·have:w=(d.1,u,u+V.dl):=by simpa using hw
   subst this
   exact List.mem_map.mpr ⟨d,qd hd2,rfl⟩
 ·rintro Z S' ⟨G,w9,w10,w11,w12,ws,a,c,l,rfl,hW,hc,eac,lw,hnm,rfl⟩
  rw [qa] at lw
  walk_at "g"
  exact fin_same (q _ _ (ws++[a]) hW (by rw [qe];simp;omega) hnm zaU (qf _))
def zcB:DSp:=fun ds S Q=>∃ (v:D) (V:Vl),ds=[v]/\VAt S v V/\V.bs.length<=100/\New Q S ((V.bs.map (·.1)).map D.str)
def ze9:DS :=
  (zY (dLC 1 [] (zaY (zct "beacons" (zf 0))) (zE 0) zbz (dOp oIx (zf 0) (dC (.int 0)))))
theorem zlM:∀ ds So Q,zcB ds So Q->ds.length=1:=by rintro ds So Q ⟨_,_,rfl,_⟩;rfl
theorem znm:BodyOk 1 ze9 zcB:=by
 rintro ds S Q ⟨v,V,rfl,hv,hl,q⟩
 unfold ze9
 obtain⟨m,g,b',f,rfl,hm,hg,hb,_⟩:=hv
 walk_at "g"
 refine za3 (fun _=>true) (zmK fun b=>.str b.1) (Lst.here hb) (by rw [qa];unfold big;omega) (fun i d ys hd hw=>?_) ?_
 ·obtain⟨b,_,rfl⟩:=zhN hd
  walk_at "g"
  exact zbL hd hw rfl rfl
 rw [filter_true,zgD,show V.bs.map (fun b=>D.str b.1)=(V.bs.map (·.1)).map D.str by rw [List.map_map];rfl]
 exact fin_same q
def zbb:zep:=fun ds S Q ex=>∃ (v:D) (V:Vl) (n:Str),ds=[v,.str n]/\VAt S v V/\zch V/\fl 20 (.str n)=true/\(n∉V.bs.map (·.1)->∀ T,ex "NoBeacon" (S++T))/\(n∈V.bs.map (·.1)->Q .non S)
def zbV (ex:XR):DS :=
  (sIf (dT (dOp zgl (zf 1) (dCall zcB (zm (zf 0) zB)))) (zfC ex "NoBeacon") z9)
theorem zg8:∀ ds So Q ex,zbb ds So Q ex->ds.length=2:=by rintro ds So Q ex ⟨_,_,_,rfl,_⟩;rfl
theorem zhr:zdY 2 zbV zbb:=by
 rintro ds S Q ex ⟨v,V,n,rfl,hv,ok,hn,hx,q⟩
 unfold zbV
 have b12:=ok.b12
 walk_at "g"
 refine⟨v,V,rfl,hv,by omega,?_⟩
 walk_at "g"
 refine zhB (.inr Lst.at0) hn ok.flN ?_
 walk_at "g"
 refine zfF (fun h=>?_) (fun h=>?_)
 ·walk_at "g"
  exact hx h _
 ·walk_at "g"
  exact zan rfl (q h)
def zbw:zep:=fun ds S Q ex=>∃ (v:D) (V:Vl) (h:Int),ds=[v,.int h]/\VAt S v V/\(¬ (V.h0<=h/\h<=V.h1)->ex "BadHour" S)/\(V.h0<=h->h<=V.h1->Q .non S)
def zcm (ex:XR):DS :=
  (sIf (dOr (dT (dOp oLt (zf 1) (zct "first" (zf 0)))) (dT (dOp oGt (zf 1) (zct "last" (zf 0))))) (zfC ex "BadHour") z9)
theorem zhH:∀ ds So Q ex,zbw ds So Q ex->ds.length=2:=by rintro ds So Q ex ⟨_,_,_,rfl,_⟩;rfl
theorem ziM:zdY 2 zcm zbw:=by
 rintro ds S Q ex ⟨v,V,h,rfl,hv,hx,q⟩
 unfold zcm
 obtain⟨m,g,b',f,rfl,hm,hg,hb,_⟩:=hv
 walk_at "g"
 refine r_d (fun h1=>?_) (fun h1=>?_)
 ·walk_at "g"
  exact hx (by omega)
 walk_at "g"
 refine r_d (fun h2=>?_) (fun h2=>?_)
 ·walk_at "g"
  exact hx (by omega)
 walk_at "g"
 exact fin_same (q (by omega) (by omega))
def zc8:zep:=fun ds S Q ex=>∃ (v:D) (V:Vl) (n:Str),ds=[v,.str n]/\VAt S v V/\zch V/\fl 20 (.str n)=true/\((∀ b∈V.bs,b.1≠n)->ex "NoBeacon" S)/\∀ s,(n,s)∈V.bs->Q (p2 s) S
def zfS (ex : XR) : DS :=
    (zG (zbu (zaY (zct "beacons" (zf 0))) (zE 2) (sIf (dT (dOp oEq (dOp oIx (zf 2) (dC (.int 0))) (zf 1))) (zY (dTup (zm (dOp oIx (zf 2) (dC (.int 1))) (zm (dOp oIx (zf 2) (dC (.int 2))) zB)))) z9))
 (zfC ex "NoBeacon"))
theorem zmU:∀ ds So Q ex,zc8 ds So Q ex->ds.length=2:=by rintro ds So Q ex ⟨_,_,_,rfl,_⟩;rfl
theorem zox:zdY 3 zfS zc8:=by
 rintro ds S Q ex ⟨v,V,n,rfl,hv,ok,hn,hx,q⟩
 unfold zfS
 obtain⟨m,g,b',f,rfl,hm,hg,hb,_⟩:=hv
 walk_at "g"
 refine zaM (fun i Z S'=>S'=S/\(∃ w,Z=[some (.ref m),some (.str n),w])/\∀ b∈V.bs.take i,b.1≠n) ⟨rfl,⟨none,rfl⟩,by simp⟩ (fun i Z S' h=>h.1▸Lst.here hb) ?_ ?_
 ·rintro i d Z S' hd ⟨rfl,⟨w,rfl⟩,hno⟩
  obtain⟨b,hbi,rfl⟩:=zhN hd
  have mb:=qd hbi
  walk_at "g"
  refine zjQ (zgs (ok.nm b mb) 20) hn ?_
  walk_at "g"
  refine r_d (fun h=>?_) (fun h=>?_)
  ·walk_at "g"
   exact fin_same (q b.2 (by rw [<- h];exact mb))
  ·walk_at "g"
   refine⟨rfl,⟨_,rfl⟩,fun c hc=>?_⟩
   rw [zat hbi] at hc
   rcases List.mem_append.mp hc with hc | hc
   ·exact hno c hc
   ·have:c=b:=by simpa using hc
    subst this;exact h
 ·rintro Z S' ⟨rfl,⟨w,rfl⟩,hno⟩
  rw [qa,List.take_length] at hno
  walk_at "g"
  exact hx hno
def zaG:zep:=fun ds S Q ex=>∃ (g:D) (cs:List (Int×Int)) (s:Int×Int),ds=[g,p2 s]/\GAt S g cs/\Grd cs/\Bd 180 s.1/\Bd 200 s.2/\(¬ zdJ cs s->ex "OffGround" S)/\(zdJ cs s->Q .non S)
def zbs (ex:XR):DS :=
  (sIf (zd8 (dT (dCall zdZ (zm (zf 0) (zm (zf 1) zB))))) (zfC ex "OffGround") z9)
theorem zfJ:∀ ds So Q ex,zaG ds So Q ex->ds.length=2:=by rintro ds So Q ex ⟨_,_,_,rfl,_⟩;rfl
theorem zge:zdY 2 zbs zaG:=by
 rintro ds S Q ex ⟨g,cs,s,rfl,hg,gr,b1,b2,hx,q⟩
 unfold zbs
 walk_at "g"
 refine⟨g,cs,s,rfl,hg,gr,b1,b2,fun b hb=>?_⟩
 cases b with
 | true=>walk_at "g";exact fin_same (q (hb.mp rfl))
 | false=>walk_at "g";exact hx fun z=>(by have:=hb.mpr z;cases this)
def zbl:DSp:=fun ds S Q=>∃ (g:D) (cs:List (Int×Int)) (x y:Int),ds=[g,.int x,.int y]/\GAt S g cs/\cs.length<=40/\New Q S ((nbK cs x y cs.length).map D.int)
def zb8:DS :=
    (zG (zM (dB zgS (zm (zf 1) (zm (zf 2) zB))) (zE 3))
 (zG (zM (dB zfW (zm (zf 1) (zm (zf 2) zB))) (zE 4))
 (zY (dLC 2 [3,4] (zoO (zm (zct "corners" (zf 0)) zB)) (zcF 2 (zav (zE 0) (zav (zE 1) zcH))) (dT (zgi oLt oLt (zf 2) (dOp oIx (zf 1) (dC (.int 0))) (zf 3))) (zf 0)))))
theorem zhl:∀ ds So Q,zbl ds So Q->ds.length=3:=by rintro ds So Q ⟨_,_,_,_,rfl,_⟩;rfl
theorem zhY:BodyOk 5 zb8 zbl:=by
 rintro ds S Q ⟨g,cs,x,y,rfl,⟨n,l,rfl,hn,hl⟩,h40,q⟩
 unfold zb8
 walk_at "g"
 refine zxD (xs:=cs.map p2) (Lst.here hl) ?_
 refine⟨by rw [zcZ,qa];unfold big;omega,fun i ys S'=>S'=S/\ys=(nbK cs x y i).map D.int,⟨rfl,rfl⟩,fun i ys S' ⟨e,_⟩=>e▸Lst.here hl,?_,?_⟩
 ·rintro i d ys S' hd ⟨rfl,rfl⟩
  obtain⟨u,hu,rfl⟩:=zfX hd
  obtain⟨c,hc,rfl⟩:=zcL hu
  have e0:((0+i:Nat):Int)=(i:Int):=by omega
  have eg:cs.getD i (0,0)=c:=by rw [List.getD_eq_getElem?_getD,hc];rfl
  rw [e0]
  walk_at "g"
  refine r_d (fun g1=>?_) (fun g1=>?_)
  ·walk_at "g"
   refine r_d (fun g2=>?_) (fun g2=>?_)
   ·walk_at "g"
    exact⟨rfl,(zxo (by unfold nbP;rw [eg,decide_eq_true g1,decide_eq_true g2];rfl)).symm⟩
   ·walk_at "g"
    exact⟨rfl,by rw [zsg (by unfold nbP;rw [eg,decide_eq_false g2,Bool.and_false])]⟩
  ·walk_at "g"
   exact⟨rfl,by rw [zsg (by unfold nbP;rw [eg,decide_eq_false g1,Bool.false_and])]⟩
 ·rintro ys S' ⟨rfl,rfl⟩
  rw [zcZ,qa]
  exact fin_same q
def zeb:DSp:=fun ds S Q=>∃ (a b c:Int×Int),ds=[p2 a,p2 b,p2 c]/\zar (c.2-a.2) (b.1-a.1)/\zar (c.1-a.1) (b.2-a.2)/\Q (.int (sdI a b c)) S
def zfZ:DS :=
    (zG (zM (dOp zah (dOp oIx (zf 1) (dC (.int 0))) (dOp oIx (zf 0) (dC (.int 0)))) (zE 3))
 (zG (zM (dOp zah (dOp oIx (zf 1) (dC (.int 1))) (dOp oIx (zf 0) (dC (.int 1)))) (zE 4))
 (zG (zM (dOp zah (dOp zau (dOp zah (dOp oIx (zf 2) (dC (.int 1))) (dOp oIx (zf 0) (dC (.int 1)))) (zf 3)) (dOp zau (dOp zah (dOp oIx (zf 2) (dC (.int 0))) (dOp oIx (zf 0) (dC (.int 0)))) (zf 4))) (zE 5))
 (zG (sJ (sIf (dT (dOp oLt (zf 3) (dC (.int 0)))) (zM (dUn zcG (zf 5)) (zE 5)) z9))
 (zG (sIf (dT (dOp oGt (zf 5) (dC (.int 0)))) (zY (dC (.int 1))) z9)
 (zG (sIf (dT (dOp oLt (zf 5) (dC (.int 0)))) (zY (dUn zcG (dC (.int 1)))) z9)
 (zY (dC (.int 0)))))))))
theorem zmS:∀ ds So Q,zeb ds So Q->ds.length=3:=by rintro ds So Q ⟨_,_,_,rfl,_⟩;rfl
theorem zoE:BodyOk 6 zfZ zeb:=by
 rintro ds S Q ⟨a,b,c,rfl,c1,c2,q⟩
 unfold zfZ
 walk_at "g"
 unfold sdI at q
 have key:∀ o:Int,o=(if b.1-a.1<0 then -sdO a b c else sdO a b c)->(if 0<o then Q (.int 1) S else if o<0 then Q (.int (-1)) S else Q (.int 0) S):=fun o e=>by
  rw [<- e] at q
  by_cases h:0<o
  ·rw [if_pos h] at q ⊢;exact q
  ·rw [if_neg h] at q ⊢
   by_cases h2:o<0
   ·rw [if_pos h2] at q ⊢;exact q
   ·rw [if_neg h2] at q ⊢;exact q
 refine r_J (fun Z S'=>S'=S/\Z=[some (p2 a),some (p2 b),some (p2 c),some (.int (b.1-a.1)),some (.int (b.2-a.2)),some (.int (if b.1-a.1<0 then -sdO a b c else sdO a b c))]) ?_ ?_
 ·walk_at "g"
  refine r_d (fun g=>?_) (fun g=>?_)
  ·walk_at "g"
   exact⟨rfl,by rw [if_pos g];rfl⟩
  ·walk_at "g"
   exact⟨rfl,by rw [if_neg g];rfl⟩
 rintro Z S' ⟨rfl,rfl⟩
 have k:=key _ rfl
 generalize (if b.1-a.1<0 then -sdO a b c else sdO a b c)=o at k
 walk_at "g"
 refine r_d (fun g=>?_) (fun g=>?_)
 ·rw [if_pos g] at k
  walk_at "g"
  exact fin_same k
 ·rw [if_neg g] at k
  walk_at "g"
  refine r_d (fun g2=>?_) (fun g2=>?_)
  ·rw [if_pos g2] at k
   walk_at "g"
   exact fin_same k
  ·rw [if_neg g2] at k
   walk_at "g"
   exact fin_same k
def zeP:zep:=fun ds S Q ex=>∃ (g:D) (cs:List (Int×Int)) (a b:Int×Int),ds=[g,p2 a,p2 b]/\GAt S g cs/\Grd cs/\(Bd 180 a.1/\Bd 200 a.2)/\(Bd 180 b.1/\Bd 200 b.2)/\(¬ (zdJ cs a/\zdJ cs b)->ex "OffGround" S)/\(zdJ cs a->zdJ cs b->Q (zea (zdF cs a b)) S)
def zgK (ex : XR) : DS :=
    (zG (zaR (zc4 zaG ex (zm (zf 0) (zm (zf 1) zB))))
 (zG (zaR (zc4 zaG ex (zm (zf 0) (zm (zf 2) zB))))
 (zG (zbu (zaY (dCall zbl (zm (zf 0) (zm (dOp oIx (zf 1) (dC (.int 0))) (zm (dOp oIx (zf 2) (dC (.int 0))) zB))))) (zE 3) (sIf (dT (dOp oGt (dCall zeb (zm (zf 1) (zm (zf 2) (zm (dOp oIx (zct "corners" (zf 0)) (zf 3)) zB)))) (dC (.int 0)))) (zY (zf 3)) z9))
 (zY (dC .non)))))
theorem zou:∀ ds So Q ex,zeP ds So Q ex->ds.length=3:=by rintro ds So Q ex ⟨_,_,_,_,rfl,_⟩;rfl
theorem zp8:zdY 4 zgK zeP:=by
 rintro ds S Q ex ⟨g,cs,a,b,rfl,hg,gr,ba,bb,hx,q⟩
 unfold zgK
 walk_at "g"
 refine⟨g,cs,a,rfl,hg,gr,ba.1,ba.2,fun z=>hx fun y=>z y.1,fun za=>?_⟩
 walk_at "g"
 refine⟨g,cs,b,rfl,hg,gr,bb.1,bb.2,fun z=>hx fun y=>z y.2,fun zb=>?_⟩
 have sa:=Std.of ba.1 ba.2 za
 have sb:=Std.of bb.1 bb.2 zb
 have q:=q za zb
 walk_at "g"
 refine⟨g,cs,_,_,rfl,hg,gr.most,?_⟩
 have kl:∀ k∈nbK cs a.1 b.1 cs.length,0<=k/\k<cs.length:=fun k hk=>zuV hk
 unfold zdF at q
 generalize nbK cs a.1 b.1 cs.length=ks at q kl
 unfold New
 walk_at "g"
 refine zaM (fun i Z S'=>∃ w1,Z=[some g,some (p2 a),some (p2 b),w1]/\S'=S++[.lst (ks.map D.int)]/\∀ x∈ks.take i,zi4 cs a b x=false) ⟨none,rfl,rfl,by simp⟩ (fun i Z S' ⟨w1,_,e,_⟩=>e▸Lst.at0) ?_ ?_
 ·rintro i d Z S' hd ⟨w1,rfl,rfl,hn⟩
  obtain⟨k,hk,rfl⟩:=zc6 hd
  obtain⟨k0,k1⟩:=kl k (qd hk)
  obtain⟨c,hc,ac⟩:=zgQ (cs:=cs) k0 k1
  have eg:cs.getD k.toNat (0,0)=c:=by rw [List.getD_eq_getElem?_getD,hc];rfl
  obtain⟨bc1,bc2⟩:=gr.bd c (qd hc)
  obtain⟨n,l,rfl,hgn,hgl⟩:=hg.old (T:=[.lst (ks.map D.int)])
  walk_at "g"
  refine⟨a,b,c,rfl,.inl ⟨(Bd.sub (bc2.mono (by decide:(190:Nat)<=200)) sa.2.1).mono (by decide),(Bd.sub sb.1 sa.1).mono (by decide)⟩,.inl ⟨(Bd.sub (bc1.mono (by decide:(170:Nat)<=180)) sa.1).mono (by decide),(Bd.sub sb.2.1 sa.2.1).mono (by decide)⟩,?_⟩
  walk_at "g"
  refine r_d (fun g1=>?_) (fun g1=>?_)
  ·walk_at "g"
   rw [znX hk hn (by unfold zi4;rw [eg];exact decide_eq_true g1)] at q
   exact zan rfl q
  ·walk_at "g"
   refine⟨_,rfl,rfl,fun x hx=>?_⟩
   rw [zat hk] at hx
   rcases List.mem_append.mp hx with hx | hx
   ·exact hn x hx
   ·have:x=k:=by simpa using hx
    subst this
    unfold zi4;rw [eg];exact decide_eq_false g1
 ·rintro Z S' ⟨w1,rfl,rfl,hn⟩
  rw [qa,List.take_length] at hn
  rw [ztK hn] at q
  walk_at "g"
  exact zan rfl q
def zbx:DSp:=fun ds S Q=>∃ (a b:Int×Int),ds=[p2 a,p2 b]/\(Bd 180 a.1/\Bd 200 a.2)/\(Bd 180 b.1/\Bd 200 b.2)/\Q (.int (sqr a b)) S
def zcp:DS :=
    (zG (zM (dOp zah (dOp oIx (zf 1) (dC (.int 0))) (dOp oIx (zf 0) (dC (.int 0)))) (zE 2))
 (zG (zM (dOp zah (dOp oIx (zf 1) (dC (.int 1))) (dOp oIx (zf 0) (dC (.int 1)))) (zE 3))
 (zY (dOp zad (dOp zau (zf 2) (zf 2)) (dOp zau (zf 3) (zf 3))))))
theorem zhJ:∀ ds So Q,zbx ds So Q->ds.length=2:=by rintro ds So Q ⟨_,_,rfl,_⟩;rfl
theorem ziL:BodyOk 4 zcp zbx:=by
 rintro ds S Q ⟨a,b,rfl,⟨a1,a2⟩,⟨b1,b2⟩,q⟩
 unfold zcp
 have c1:Bd 8000 (b.1-a.1):=(Bd.sub b1 a1).mono (by decide)
 have c2:Bd 8000 (b.2-a.2):=(Bd.sub b2 a2).mono (by decide)
 have m1:zar (b.1-a.1) (b.1-a.1):=.inl ⟨c1,c1⟩
 have m2:zar (b.2-a.2) (b.2-a.2):=.inl ⟨c2,c2⟩
 walk_at "g"
 exact fin_same q
def zbK:DSp:=fun ds S Q=>∃ (v:D) (V:Vl) (a b:Int×Int),ds=[v,p2 a,p2 b]/\VAt S v V/\zch V/\((Bd 180 a.1/\Bd 200 a.2)/\zdJ V.cs a)/\((Bd 180 b.1/\Bd 200 b.2)/\zdJ V.cs b)/\Q (ziF V a b) S
def zcI:DS :=
    (zG (zM (zc4 zeP xF (zm (zct "ground" (zf 0)) (zm (zf 1) (zm (zf 2) zB)))) (zE 3))
 (zG (sIf (dT (dOp zfH (zf 3) (dC .non))) (zY (dTup (zm (dC (.str "ground")) (zm (zf 3) zB)))) z9)
 (zG (zM (dCall zbx (zm (zf 1) (zm (zf 2) zB))) (zE 4))
 (zG (sIf (zfB (dT (dOp zfH (zct "haze" (zf 0)) (dC .non))) (dT (dOp oGt (zf 4) (zct "haze" (zf 0))))) (zY (dTup (zm (dC (.str "haze")) (zm (zf 4) zB)))) z9)
 (zY (dC .non))))))
theorem ziI:∀ ds So Q,zbK ds So Q->ds.length=3:=by rintro ds So Q ⟨_,_,_,_,rfl,_⟩;rfl
theorem zi2:BodyOk 5 zcI zbK:=by
 rintro ds S Q ⟨v,V,a,b,rfl,hv,ok,⟨ba,sa⟩,⟨bb,sb⟩,q⟩
 unfold zcI
 obtain⟨n,g,bb',f,rfl,hn,hg,_,_⟩:=hv
 walk_at "g"
 refine⟨_,V.cs,a,b,rfl,hg,ok.gr,ba,bb,fun no=>(no ⟨sa,sb⟩).elim,fun _ _=>?_⟩
 unfold ziF at q
 cases e:zdF V.cs a b with
 | some k =>
  rw [e] at q
  unfold zea
  walk_at "g"
  exact fin_same q
 | none =>
  rw [e] at q
  unfold zea
  walk_at "g"
  refine⟨a,b,rfl,ba,bb,?_⟩
  dsimp only at q
  have hn':S[n]?=some (.ins "Valley" (vF (.ref g) (.ref bb') (.ref f) (zea V.hz) (.int V.h0) (.int V.h1) (.int V.dl))):=hn
  generalize sqr a b=sq at q
  generalize V.hz=hz at q hn'
  cases hz with
  | none =>
   have q2:Q .non S:=q
   unfold zea at hn'
   walk_at "g"
   exact fin_same q2
  | some z =>
   have q2:Q (if decide (z<sq)=true then .tup [.str "haze",.int sq] else .non) S:=q
   unfold zea at hn'
   walk_at "g"
   refine r_d (fun h=>?_) (fun h=>?_)
   ·rw [if_pos (decide_eq_true h)] at q2
    walk_at "g"
    exact fin_same q2
   ·rw [if_neg (by rw [decide_eq_false h];decide)] at q2
    walk_at "g"
    exact fin_same q2
def zew:DSp:=fun ds S Q=>∃ (F:Fg) (h:Int),ds=[fgD F,.int h]/\zar F.g h/\zar F.s h/\Q (.tup [.int (F.x0+F.g*h),.int (F.x1+F.g*h),.int (F.z0+F.s*h),.int (F.z1+F.s*h)]) S
def zij:DS :=
    (zG (zM (dOp zau (dOp oIx (zf 0) (dC (.int 6))) (zf 1)) (zE 2))
 (zG (zM (dOp zau (dOp oIx (zf 0) (dC (.int 7))) (zf 1)) (zE 3))
 (zY (dTup (zm (dOp zad (dOp oIx (zf 0) (dC (.int 0))) (zf 2)) (zm (dOp zad (dOp oIx (zf 0) (dC (.int 1))) (zf 2)) (zm (dOp zad (dOp oIx (zf 0) (dC (.int 2))) (zf 3)) (zm (dOp zad (dOp oIx (zf 0) (dC (.int 3))) (zf 3)) zB))))))))
theorem zqw:∀ ds So Q,zew ds So Q->ds.length=2:=by rintro ds So Q ⟨_,_,rfl,_⟩;rfl
theorem zrz:BodyOk 4 zij zew:=by
 rintro ds S Q ⟨F,h,rfl,c1,c2,q⟩
 unfold zij
 walk_at "g"
 exact fin_same q
def zda:DSp:=fun ds S Q=>∃ (L R B T x1 z1 x2 z2:Int),ds=[.tup [.int L,.int R,.int B,.int T],.tup [.int x1,.int z1],.tup [.int x2,.int z2]]/\Bd 1000 L/\Bd 1000 R/\Bd 1000 B/\Bd 1000 T/\Bd 1000 x1/\Bd 1000 z1/\Bd 1000 x2/\Bd 1000 z2 /\
 ∀ (ca cb:Cell) (mx mn:Int),mx∈acr L R B T x1 z1 x2 z2->(∀ a∈acr L R B T x1 z1 x2 z2,a<=mx)->mn∈acr L R B T x1 z1 x2 z2->(∀ a∈acr L R B T x1 z1 x2 z2,mn<=a)->Q (.ref (S.length+2)) (S++[ca,cb,.lst ((six L R B T x1 z1 x2 z2 mx mn).map D.int)])
def zfT:DS :=
    (zG (zM (dOp zah (dOp oIx (zf 2) (dC (.int 0))) (dOp oIx (zf 1) (dC (.int 0)))) (zE 3))
 (zG (zM (dOp zah (dOp oIx (zf 2) (dC (.int 1))) (dOp oIx (zf 1) (dC (.int 1)))) (zE 4))
 (zG (zM (zba (zm (dTup (zm (dOp oIx (zf 0) (dC (.int 0))) (zm (dOp oIx (zf 0) (dC (.int 2))) zB))) (zm (dTup (zm (dOp oIx (zf 0) (dC (.int 0))) (zm (dOp oIx (zf 0) (dC (.int 3))) zB))) (zm (dTup (zm (dOp oIx (zf 0) (dC (.int 1))) (zm (dOp oIx (zf 0) (dC (.int 2))) zB))) (zm (dTup (zm (dOp oIx (zf 0) (dC (.int 1))) (zm (dOp oIx (zf 0) (dC (.int 3))) zB))) zB))))) (zE 5))
 (zG (zM (dLC 2 [3,1,4] (zaY (zf 5)) (zcF 2 (zav (zE 0) (zav (zE 1) zcH))) zbz (dOp zah (dOp zau (zf 2) (dOp zah (zf 1) (dOp oIx (zf 3) (dC (.int 1))))) (dOp zau (zf 4) (dOp zah (zf 0) (dOp oIx (zf 3) (dC (.int 0))))))) (zE 6))
 (zY (zba (zm (dOp zah (dB zfW (zm (dOp oIx (zf 1) (dC (.int 0))) (zm (dOp oIx (zf 2) (dC (.int 0))) zB))) (dOp oIx (zf 0) (dC (.int 0)))) (zm (dOp zah (dOp oIx (zf 0) (dC (.int 1))) (dB zgS (zm (dOp oIx (zf 1) (dC (.int 0))) (zm (dOp oIx (zf 2) (dC (.int 0))) zB)))) (zm (dOp zah (dB zfW (zm (dOp oIx (zf 1) (dC (.int 1))) (zm (dOp oIx (zf 2) (dC (.int 1))) zB))) (dOp oIx (zf 0) (dC (.int 2)))) (zm (dOp zah (dOp oIx (zf 0) (dC (.int 3))) (dB zgS (zm (dOp oIx (zf 1) (dC (.int 1))) (zm (dOp oIx (zf 2) (dC (.int 1))) zB)))) (zm (dB zo4 (zm (zf 6) zB)) (zm (dUn zcG (dB zoj (zm (zf 6) zB))) zB))))))))))))
theorem zmV:∀ ds So Q,zda ds So Q->ds.length=3:=by rintro ds So Q ⟨_,_,_,_,_,_,_,_,rfl,_⟩;rfl
theorem zo5:BodyOk 7 zfT zda:=by
 rintro ds S Q ⟨L,R,B,T,x1,z1,x2,z2,rfl,bL,bR,bB,bT,b1,b2,b3,b4,q⟩
 unfold zfT
 walk_at "g"
 refine za3 (fun _=>true) (on2 fun c=>.int ((x2-x1)*(c.2-z1)-(z2-z1)*(c.1-x1))) (by walk_at "dlat") (Nat.le_of_ble_eq_true rfl) (fun i d ys hd hw=>?_) ?_
 ·obtain⟨c,hc,rfl⟩:=zcL (cs:=[(L,B),(L,T),(R,B),(R,T)]) hd
  have hm:=qd hc
  have hb:Bd 1000 c.1/\Bd 1000 c.2:=by
   simp only [qh,List.not_mem_nil,or_false] at hm
   rcases hm with rfl | rfl | rfl | rfl
   ·exact⟨bL,bB⟩
   ·exact⟨bL,bT⟩
   ·exact⟨bR,bB⟩
   ·exact⟨bR,bT⟩
  have hb1:=hb.1
  have hb2:=hb.2
  have c1:zar (x2-x1) (c.2-z1):=.inl ⟨(Bd.sub b3 b1).mono (by decide),(Bd.sub hb2 b2).mono (by decide)⟩
  have c2:zar (z2-z1) (c.1-x1):=.inl ⟨(Bd.sub b4 b2).mono (by decide),(Bd.sub hb1 b1).mono (by decide)⟩
  walk_at "g"
  exact zbL hd hw rfl rfl
 rw [filter_true]
 show New _ _ ((acr L R B T x1 z1 x2 z2).map D.int)
 walk_at "g"
 refine zub (ns:=acr L R B T x1 z1 x2 z2) (by walk_at "dlat") (Nat.le_of_ble_eq_true rfl) fun mx m1 m2=>?_
 walk_at "g"
 refine zuG (ns:=acr L R B T x1 z1 x2 z2) (by walk_at "dlat") (Nat.le_of_ble_eq_true rfl) fun mn n1 n2=>?_
 walk_at "g"
 exact fin_same (q _ _ mx mn m1 m2 n1 n2)
def zdR:DSp:=fun ds S Q=>∃ (x:D) (cs:List (Int×Int)),ds=[x]/\zer S x (cs.map p2)/\cs.length<=4000/\(cs.filter lec).length<64 /\
 ∀ ms:List (Int×Int),zaA ms->(∀ h,ms.any (inS h)=cs.any (inS h))->ms.length<=(cs.filter lec).length->Q (.tup (ms.map p2)) S
theorem zow {ss:List (Int×Int)}(srt:ss.Pairwise fun a b=>zjh b a=false){i:Nat}{c d:Int×Int}(hc:ss[i]?=some c)(hd:d∈ss.take i):d.1<=c.1:=by
 obtain⟨j,hj,e⟩:=List.mem_iff_getElem.mp hd
 rw [List.length_take] at hj
 rw [List.getElem_take] at e
 have hi:=zae hc
 rw [qb hi] at hc
 cases hc
 subst e
 exact zvd (List.pairwise_iff_getElem.mp srt j i (by omega) hi (by omega))
theorem zhk {ss:List (Int×Int)}{i:Nat}{c:Int×Int}(hc:ss[i]?=some c)(h:Int):(ss.take (i+1)).any (inS h)=((ss.take i).any (inS h)||inS h c):=by
 rw [zat hc,List.any_append];simp
theorem zsj {α:Type}{l:List α}(h:0<l.length):∃ i x,l=i++[x]:=by
 have:l≠[]:=fun e=>by rw [e] at h;cases h
 exact⟨l.dropLast,l.getLast this,(List.dropLast_concat_getLast this).symm⟩
def zjB:DS :=
    (zG (zM (zba zB) (zE 1))
 (zG (zbu (zaY (dB zoF (zm (dLC 1 [] (zaY (zf 0)) (zE 0) (dT (dOp oLe (dOp oIx (zf 0) (dC (.int 0))) (dOp oIx (zf 0) (dC (.int 1))))) (dTup (zm (dOp oIx (zf 0) (dC (.int 0))) (zm (dOp oIx (zf 0) (dC (.int 1))) zB)))) zB))) (zcF 2 (zav (zE 2) (zav (zE 3) zcH))) (sIf (zfB (dT (dOp oGt (dB zaH (zm (zf 1) zB)) (dC (.int 0)))) (dT (dOp oLe (zf 2) (dOp zad (dOp oIx (dOp oIx (zf 1) (dUn zcG (dC (.int 1)))) (dC (.int 1))) (dC (.int 1)))))) (zM (dTup (zm (dOp oIx (dOp oIx (zf 1) (dUn zcG (dC (.int 1)))) (dC (.int 0))) (zm (dB zfW (zm (dOp oIx (dOp oIx (zf 1) (dUn zcG (dC (.int 1)))) (dC (.int 1))) (zm (zf 3) zB))) zB))) (zhI (zf 1) (dUn zcG (dC (.int 1))))) (zaR (dM zbt (zf 1) (zm (dTup (zm (zf 2) (zm (zf 3) zB))) zB)))))
 (zY (dB zl5 (zm (zf 1) zB)))))
theorem zrb:∀ ds So Q,zdR ds So Q->ds.length=1:=by rintro ds So Q ⟨_,_,rfl,_⟩;rfl
theorem ztq:BodyOk 4 zjB zdR:=by
 rintro ds S Q ⟨x,cs,rfl,hx,hcl,hfl,q⟩
 unfold zjB
 walk_at "g"
 refine zua (xs:=cs.map p2) hx.old fun ok hok=>?_
 refine za3 (zuM lec) (on2 p2) (by have:=hok [];rwa [List.append_nil] at this) ?_ (fun i d ys hd hw=>?_) ?_
 ·rw [qa];unfold big;omega
 ·obtain⟨c,hc,rfl⟩:=zcL hd
  walk_at "g"
  refine r_d (fun g=>?_) (fun g=>?_)
  ·walk_at "g"
   exact zbL hd hw (decide_eq_true g) rfl
  ·walk_at "g"
   exact zn2 hd hw (decide_eq_false g)
 rw [zrM,znV]
 walk_at "g"
 refine zsB (cs:=cs.filter lec) (Lst.at rfl) hfl fun ss perm srt=>?_
 have hsl:ss.length=(cs.filter lec).length:=perm.length_eq
 have hsle:∀ c∈ss,c.1<=c.2:=fun c hc=>of_decide_eq_true (List.mem_filter.mp (perm.mem_iff.mp hc)).2
 walk_at "g"
 refine zaM (fun i Z S'=>∃ (ms:List (Int×Int)) (w1 w2:Option D),Z=[some x,some (.ref S.length),w1,w2]/\S'=S++[.lst (ms.map p2),.lst ((cs.filter lec).map p2),.lst (ss.map p2)]/\zaA ms/\ms.length<=i /\
  (∀ h,ms.any (inS h)=(ss.take i).any (inS h))/\∀ m∈ms,∃ d∈ss.take i,m.1=d.1)
  ⟨[],none,none,rfl,rfl,zaA.nil,qf _,fun h=>rfl,by simp⟩ (fun i Z S' ⟨ms,w1,w2,_,e,_⟩=>e▸Lst.at rfl) ?_ ?_
 ·rintro i d Z S' hd ⟨ms,w1,w2,rfl,rfl,ok,hml,hany,hlow⟩
  obtain⟨c,hc,rfl⟩:=zcL hd
  have hil:=zae hc
  have hcle:=hsle c (qd hc)
  have low:∀ m∈ms,m.1<=c.1:=fun m hm=>by
   obtain⟨d,hd,e⟩:=hlow m hm
   rw [e]
   exact zow srt hc hd
  have hlow':∀ m,(∃ d∈ss.take i,m=d.1)->∃ d∈ss.take (i+1),m=d.1:=fun m ⟨d,hd,e⟩=>⟨d,by rw [zat hc];exact List.mem_append_left _ hd,e⟩
  have hnew:∃ d∈ss.take (i+1),c.1=d.1:=⟨c,by rw [zat hc];simp,rfl⟩
  have app:(∀ m∈ms,m.2+2<=c.1)->∃ (ms':List (Int×Int)) (w1 w2:Option D),([some x,some (.ref S.length),some (.int c.1),some (.int c.2)]:Rho)=[some x,some (.ref S.length),w1,w2]/\S++[Cell.lst (ms.map p2++[p2 c]),.lst ((cs.filter lec).map p2),.lst (ss.map p2)]=S++[.lst (ms'.map p2),.lst ((cs.filter lec).map p2),.lst (ss.map p2)]/\zaA ms'/\ms'.length<=i+1 /\
    (∀ h,ms'.any (inS h)=(ss.take (i+1)).any (inS h))/\∀ m∈ms',∃ d∈ss.take (i+1),m.1=d.1:=fun ap=>by
   refine⟨ms++[c],_,_,rfl,by rw [List.map_append];rfl,ok.snoc hcle ap,by rw [qe];exact Nat.succ_le_succ hml,fun h=>by rw [List.any_append,hany h,zhk hc];simp,fun y hy=>?_⟩
   rcases List.mem_append.mp hy with hy | hy
   ·exact hlow' _ (hlow y hy)
   ·have:y=c:=by simpa using hy
    subst this
    exact hnew
  walk_at "g"
  rw [qa]
  refine r_d (fun h0=>?_) (fun h0=>?_)
  ·obtain⟨ms0,m,rfl⟩:=zsj (l:=ms) (by omega)
   have hm1:=low m (by simp)
   have am:atD (List.map p2 (ms0++[m])) (-1)=some (p2 m):=by rw [List.map_append];exact zfy
   have im:ixD (List.map p2 (ms0++[m])).length (-1)=some (ms0.map p2).length:=by rw [List.map_append];exact zlO
   walk_at "g"
   refine r_d (fun h1=>?_) (fun h1=>?_)
   ·walk_at "g"
    refine zlf zaU im ?_
    walk_at "g"
    obtain⟨ok2,any2⟩:=zqZ ok hcle hm1 h1
    refine⟨ms0++[(m.1,max m.2 c.2)],_,_,rfl,?_,ok2,by rw [qe] at hml ⊢;exact Nat.le_succ_of_le hml,fun h=>by rw [any2 h,hany h,zhk hc],fun y hy=>?_⟩
    ·rw [List.map_append,List.map_append,List.set_append_right _ _ (qf _),Nat.sub_self];rfl
    ·rcases List.mem_append.mp hy with hy | hy
     ·exact hlow' _ (hlow y (List.mem_append_left _ hy))
     ·have:y=(m.1,max m.2 c.2):=by simpa using hy
      subst this
      exact hlow' _ (hlow m (by simp))
   ·walk_at "g"
    obtain⟨ok0,hmle,hap⟩:=ok.init
    exact app fun y hy=>by
     rcases List.mem_append.mp hy with hy | hy
     ·have:=hap y hy
      omega
     ·have:y=m:=by simpa using hy
      subst this
      omega
  ·have em:ms=[]:=List.length_eq_zero_iff.mp (by omega)
   walk_at "g"
   exact app (by rw [em];simp)
 ·rintro Z S' ⟨ms,w1,w2,rfl,rfl,ok,hml,hany,hlow⟩
  rw [qa] at hml hany
  walk_at "g"
  exact zan (ziC ms) (q ms ok (fun h=>by rw [hany h,List.take_length,zrr perm,show cs.filter lec=cs.filter (fun c=>decide (c.1<=c.2)) from rfl,any_filter]) (by omega))
def zfA:DSp:=fun ds S Q=>∃ (F:Fg) (px pz qx qz:Int),ds=[fgD F,.tup [.int px,.int pz],.tup [.int qx,.int qz]]/\FgB F/\Bd 600 px/\Bd 600 pz/\Bd 600 qx/\Bd 600 qz/\∀ ms:List (Int×Int),zsi ms F px pz qx qz->Q (.tup (ms.map p2)) S
def zit:DS :=
    (zG (zM (dC (.int 0)) (zE 3))
 (zG (zM (dOp zah (dOp oIx (zf 0) (dC (.int 5))) (dOp oIx (zf 0) (dC (.int 4)))) (zE 4))
 (zG (zM (dCall zda (zm (dCall zew (zm (zf 0) (zm (dC (.int 0)) zB))) (zm (zf 1) (zm (zf 2) zB)))) (zE 5))
 (zG (zM (dCall zda (zm (dCall zew (zm (zf 0) (zm (dC (.int 1)) zB))) (zm (zf 1) (zm (zf 2) zB)))) (zE 6))
 (zG (zbu (zrL (zm (zf 5) (zm (zf 6) zB))) (zcF 2 (zav (zE 7) (zav (zE 8) zcH))) (zG (zM (dOp zah (zf 8) (zf 7)) (zE 9))
 (sIf (dT (dOp oGt (zf 9) (dC (.int 0)))) (zM (dB zfW (zm (zf 3) (zm (dUn zcG (dOp oDiv (zf 7) (zf 9))) zB))) (zE 3)) (sIf (dT (dOp oLt (zf 9) (dC (.int 0)))) (zM (dB zgS (zm (zf 4) (zm (dOp oDiv (zf 7) (dUn zcG (zf 9))) zB))) (zE 4)) (sIf (dT (dOp oLt (zf 7) (dC (.int 0)))) (zY (dTup zB)) z9)))))
 (zY (dCall zdR (zm (zba (zm (dTup (zm (dOp zad (dOp oIx (zf 0) (dC (.int 4))) (zf 3)) (zm (dOp zad (dOp oIx (zf 0) (dC (.int 4))) (zf 4)) zB))) zB)) zB))))))))
theorem zqq:∀ ds So Q,zfA ds So Q->ds.length=3:=by rintro ds So Q ⟨_,_,_,_,_,rfl,_⟩;rfl
theorem zrt:BodyOk 10 zit zfA:=by
  rintro ds S Q ⟨F,px,pz,qx,qz,rfl,B,bpx,bpz,bqx,bqz,q⟩
  unfold zit
  have bmv:∀ {x y c:Int},Bd 600 x->Bd 200 y->(c=0\/c=1)->Bd 700 (x+y*c):=fun {x y c} hx hy hc=>(Bd.add (n:=600) hx (by
    rcases hc with rfl | rfl
    . rw [Int.mul_zero];exact Bd.lit (by decide) (by decide)
    . rw [Int.mul_one];exact hy.mono (by decide))).mono (by decide)
  have cs:∀ {y c:Int},(c=0\/c=1)->zar y c:=fun hc=>.inr (.inr (by rcases hc with rfl | rfl<;>decide))
  walk_at "g"
  refine⟨F,0,rfl,cs (.inl rfl),cs (.inl rfl),?_⟩
  walk_at "g"
  refine⟨_,_,_,_,px,pz,qx,qz,rfl,(bmv B.b0 B.bg (.inl rfl)).mono (by decide),(bmv B.b1 B.bg (.inl rfl)).mono (by decide),(bmv B.b2 B.bs (.inl rfl)).mono (by decide),(bmv B.b3 B.bs (.inl rfl)).mono (by decide),bpx.mono (by decide),bpz.mono (by decide),bqx.mono (by decide),bqz.mono (by decide),fun ca cb mx mn m1 m2 n1 n2=>?_⟩
  walk_at "g"
  refine⟨F,1,rfl,cs (.inr rfl),cs (.inr rfl),?_⟩
  walk_at "g"
  refine⟨_,_,_,_,px,pz,qx,qz,rfl,(bmv B.b0 B.bg (.inr rfl)).mono (by decide),(bmv B.b1 B.bg (.inr rfl)).mono (by decide),(bmv B.b2 B.bs (.inr rfl)).mono (by decide),(bmv B.b3 B.bs (.inr rfl)).mono (by decide),bpx.mono (by decide),bpz.mono (by decide),bqx.mono (by decide),bqz.mono (by decide),fun ca' cb' mx' mn' m1' m2' n1' n2'=>?_⟩
  have mm:∀ k,_↔_:=fun k=>zqp (k:=k) m1 m2 n1 n2 m1' m2' n1' n2'
  have sb:=zqc (bmv B.b0 B.bg (.inl rfl)) (bmv B.b1 B.bg (.inl rfl)) (bmv B.b2 B.bs (.inl rfl)) (bmv B.b3 B.bs (.inl rfl)) (bpx.mono (by decide)) (bpz.mono (by decide)) (bqx.mono (by decide)) (bqz.mono (by decide)) m1 n1
  have ab:=zqc (bmv B.b0 B.bg (.inr rfl)) (bmv B.b1 B.bg (.inr rfl)) (bmv B.b2 B.bs (.inr rfl)) (bmv B.b3 B.bs (.inr rfl)) (bpx.mono (by decide)) (bpz.mono (by decide)) (bqx.mono (by decide)) (bqz.mono (by decide)) m1' n1'
  have l1:(six (F.x0+F.g*0) (F.x1+F.g*0) (F.z0+F.s*0) (F.z1+F.s*0) px pz qx qz mx mn).length=6:=rfl
  have l2:(six (F.x0+F.g*1) (F.x1+F.g*1) (F.z0+F.s*1) (F.z1+F.s*1) px pz qx qz mx' mn').length=6:=rfl
  generalize six (F.x0+F.g*0) (F.x1+F.g*0) (F.z0+F.s*0) (F.z1+F.s*0) px pz qx qz mx mn=A at *
  generalize six (F.x0+F.g*1) (F.x1+F.g*1) (F.z0+F.s*1) (F.z1+F.s*1) px pz qx qz mx' mn'=A' at *
  clear m1 m2 n1 n2 m1' m2' n1' n2'
  have kA:(S++[ca,cb,Cell.lst (A.map D.int)]++[ca',cb',Cell.lst (A'.map D.int)])[S.length+2]?=some (.lst (A.map D.int)):=zal ((zbk _ _ _).trans rfl)
  have kA':(S++[ca,cb,Cell.lst (A.map D.int)]++[ca',cb',Cell.lst (A'.map D.int)])[(S++[ca,cb,Cell.lst (A.map D.int)]).length+2]?=some (.lst (A'.map D.int)):=(zbk _ _ _).trans rfl
  have eS:S++[ca,cb,Cell.lst (A.map D.int)]++[ca',cb',Cell.lst (A'.map D.int)]=S++[ca,cb,Cell.lst (A.map D.int),ca',cb',Cell.lst (A'.map D.int)]:=by simp
  generalize (S++[ca,cb,Cell.lst (A.map D.int)]).length+2=na at *
  generalize S++[ca,cb,Cell.lst (A.map D.int)]++[ca',cb',Cell.lst (A'.map D.int)]=S1 at *
  walk_at "g"
  refine zxx (xs:=A.map D.int) (ys:=A'.map D.int) (Lst.here kA) (Lst.here kA') ?_
  refine zaM (fun i Z S'=>S'=S1/\∃ (lo hi:Int) (w1 w2 w3:Option D),Z=[some (fgD F),some (.tup [.int px,.int pz]),some (.tup [.int qx,.int qz]),some (.int lo),some (.int hi),some (.ref (S.length+2)),some (.ref na),w1,w2,w3] /\
    ∀ k,(lo<=k/\k<=hi)↔(0<=k/\k<=F.l-F.f/\∀ j,j<i->0<=A.getD j 0+k*(A'.getD j 0-A.getD j 0))) ⟨rfl,0,F.l-F.f,none,none,none,rfl,fun k=>⟨fun h=>⟨h.1,h.2,fun j hj=>absurd hj (by omega)⟩,fun h=>⟨h.1,h.2.1⟩⟩⟩ (fun i Z S' z=>z.1▸⟨Lst.here kA,Lst.here kA'⟩) ?_ ?_
  . rintro i d Z S' hd ⟨rfl,lo,hi,w1,w2,w3,rfl,hk⟩
    obtain⟨x,y,hx,hy,rfl⟩:=zhc hd
    obtain⟨sv,hs,rfl⟩:=zc6 hx
    obtain⟨av,ha,rfl⟩:=zc6 hy
    have es:A.getD i 0=sv:=by rw [List.getD_eq_getElem?_getD,hs];rfl
    have ea:A'.getD i 0=av:=by rw [List.getD_eq_getElem?_getD,ha];rfl
    have bsv:=sb sv (qd hs)
    have bav:=ab av (qd ha)
    have bst:Bd 1600 (av-sv):=(Bd.sub bav bsv).mono (by decide)
    have bst':Bd 1600 (-(av-sv)):=bst.neg
    have next:∀ {P:Int->Prop},(∀ k,P k↔0<=sv+k*(av-sv))->∀ k,((0<=k/\k<=F.l-F.f/\∀ j,j<i->0<=A.getD j 0+k*(A'.getD j 0-A.getD j 0))/\P k)↔(0<=k/\k<=F.l-F.f/\∀ j,j<i+1->0<=A.getD j 0+k*(A'.getD j 0-A.getD j 0)):=fun {P} hP k=>by
      constructor
      . rintro⟨⟨c1,c2,c3⟩,c4⟩
        refine⟨c1,c2,fun j hj=>?_⟩
        rcases Nat.lt_or_ge j i with h | h
        . exact c3 j h
        . have:j=i:=by omega
          subst this
          rw [es,ea]
          exact (hP k).mp c4
      . rintro⟨c1,c2,c3⟩
        refine⟨⟨c1,c2,fun j hj=>c3 j (by omega)⟩,(hP k).mpr ?_⟩
        have:=c3 i (by omega)
        rw [es,ea] at this
        exact this
    walk_at "g"
    refine r_d (fun g1=>?_) (fun g1=>?_)
    . walk_at "g"
      refine⟨rfl,_,_,_,_,_,rfl,fun k=>?_⟩
      rw [<- next (fun k=>zty (S:=sv) (T:=av-sv) (k:=k) (by omega)) k,<- hk k]
      omega
    . walk_at "g"
      refine r_d (fun g2=>?_) (fun g2=>?_)
      . walk_at "g"
        refine⟨rfl,_,_,_,_,_,rfl,fun k=>?_⟩
        rw [<- next (fun k=>zqb (S:=sv) (T:=av-sv) (k:=k) (by omega)) k,<- hk k]
        omega
      . have e0:av-sv=0:=by omega
        have flat:∀ k,(0<=sv)↔0<=sv+k*(av-sv):=fun k=>by rw [e0,Int.mul_zero,Int.add_zero]
        walk_at "g"
        refine r_d (fun g3=>?_) (fun g3=>?_)
        . walk_at "g"
          rw [eS]
          refine zan (ziC []) (q [] ⟨zaA.nil,by decide,fun h=>⟨fun z=>absurd z (by simp),fun z=>?_⟩⟩)
          have:=(mm (h-F.f)).mpr ((zkn (by have:=B.x;omega) (by have:=B.z;omega)).mpr z.2.2) i (by have:=zae hs;omega)
          rw [es,ea,<- flat] at this
          omega
        . walk_at "g"
          refine⟨rfl,_,_,_,_,_,rfl,fun k=>?_⟩
          rw [<- next flat k,<- hk k]
          constructor
          . intro h;exact⟨h,by omega⟩
          . intro h;exact h.1
  . rintro Z S' ⟨rfl,lo,hi,w1,w2,w3,rfl,hk⟩
    rw [zeu,qa,qa,l1,l2] at hk
    walk_at "g"
    refine⟨_,[(F.f+lo,F.f+hi)],rfl,.inr (by walk_at "dlat"),Nat.le_of_ble_eq_true rfl,?_,fun ms ok hany hml=>?_⟩
    . exact Nat.lt_of_le_of_lt (List.length_filter_le _ _) (Nat.le_of_ble_eq_true rfl)
    . rw [eS,List.append_assoc]
      exact zan (ziC ms) (q ms (zrh B ok (Nat.le_trans hml (List.length_filter_le _ _)) hany fun k=>by rw [hk k];exact and_congr_right fun _=>and_congr_right fun _=>mm k))
def zcN:DSp:=fun ds S Q=>∃ (x:D) (fs:List Fg) (px pz qx qz:Int),ds=[x,.tup [.int px,.int pz],.tup [.int qx,.int qz]]/\Lst S x (fs.map fgD)/\fs.length<64/\(∀ F∈fs,FgB F)/\Bd 600 px/\Bd 600 pz/\Bd 600 qx/\Bd 600 qz /\
 ∀ ms:List (Int×Int),zaA ms->(∀ h,ms.any (inS h)=true↔∃ F∈fs,zbT F px pz qx qz h)->ms.length<=fs.length->Q (.tup (ms.map p2)) S
def zeK:DS :=
    (zG (zM (zba zB) (zE 3))
 (zG (zbu (zaY (zf 0)) (zE 4) (zaR (dM zjg (zf 3) (zm (dCall zfA (zm (zf 4) (zm (zf 1) (zm (zf 2) zB)))) zB))))
 (zY (dCall zdR (zm (zf 3) zB)))))
theorem zk4:∀ ds So Q,zcN ds So Q->ds.length=3:=by rintro ds So Q ⟨_,_,_,_,_,_,rfl,_⟩;rfl
theorem zlm:BodyOk 5 zeK zcN:=by
 rintro ds S Q ⟨x,fs,px,pz,qx,qz,rfl,hx,hl,hB,bpx,bpz,bqx,bqz,q⟩
 unfold zeK
 walk_at "g"
 refine zaM (fun i Z S'=>∃ (cs:List (Int×Int)) (w:Option D),Z=[some x,some (.tup [.int px,.int pz]),some (.tup [.int qx,.int qz]),some (.ref S.length),w]/\S'=S++[.lst (cs.map p2)]/\cs.length<=i/\∀ h,cs.any (inS h)=true↔∃ F∈fs.take i,zbT F px pz qx qz h)
  ⟨[],none,rfl,rfl,qf _,fun h=>by simp⟩ (fun i Z S' ⟨cs,w,_,e,_⟩=>e▸hx.old) ?_ ?_
 ·rintro i d Z S' hd ⟨cs,w,rfl,rfl,hc,hh⟩
  obtain⟨F,hF,rfl⟩:=zjz hd
  have hi:=zae hF
  walk_at "g"
  refine⟨F,px,pz,qx,qz,rfl,hB F (qd hF),bpx,bpz,bqx,bqz,fun ms hm=>?_⟩
  obtain⟨ok,hone,hat⟩:=hm
  walk_at "g"
  refine zpY (n:=S.length) zaU (by rw [qa,qa];unfold big;omega) ?_
  walk_at "g"
  refine⟨cs++ms,_,rfl,by rw [List.map_append],by rw [qe];omega,fun h=>?_⟩
  rw [List.any_append,Bool.or_eq_true,hh,hat,zat hF]
  constructor
  ·rintro (⟨G,hG,g⟩ | g)
   ·exact⟨G,List.mem_append_left _ hG,g⟩
   ·exact⟨F,by simp,g⟩
  ·rintro⟨G,hG,g⟩
   rcases List.mem_append.mp hG with hG | hG
   ·exact .inl ⟨G,hG,g⟩
   ·have:G=F:=by simpa using hG
    subst this
    exact .inr g
 ·rintro Z S' ⟨cs,w,rfl,rfl,hc,hh⟩
  rw [qa] at hc hh
  rw [List.take_length] at hh
  have hf:=List.length_filter_le lec cs
  walk_at "g"
  refine⟨_,cs,rfl,.inr Lst.at0,by omega,by omega,fun ms ok hany hml=>?_⟩
  exact zan (ziC ms) (q ms ok (fun h=>by rw [hany h];exact hh h) (by omega))
def zgo:DSp:=fun ds S Q=>∃ (cs:List (Int×Int)) (lo hi:Int),ds=[.tup (cs.map p2),.int lo,.int hi]/\zaA cs/\cs.length<63 /\
 ∀ ms:List (Int×Int),zaA ms->(∀ h,lo<=h->h<=hi->ms.any (inS h)=!(cs.any (inS h)))->ms.length<=cs.length+1->Q (.tup (ms.map p2)) S
def zjo:DS :=
    (zG (zM (zba zB) (zE 3))
 (zG (zM (zf 1) (zE 4))
 (zG (zbu (zaY (zf 0)) (zE 5) (zG (zaR (dM zbt (zf 3) (zm (dTup (zm (zf 4) (zm (dOp zah (dOp oIx (zf 5) (dC (.int 0))) (dC (.int 1))) zB))) zB)))
 (zM (dOp zad (dOp oIx (zf 5) (dC (.int 1))) (dC (.int 1))) (zE 4))))
 (zG (zaR (dM zbt (zf 3) (zm (dTup (zm (zf 4) (zm (zf 2) zB))) zB)))
 (zY (dCall zdR (zm (zf 3) zB)))))))
theorem zq7:∀ ds So Q,zgo ds So Q->ds.length=3:=by rintro ds So Q ⟨_,_,_,rfl,_⟩;rfl
theorem zth:BodyOk 6 zjo zgo:=by
  rintro ds S Q ⟨cs,lo,hi,rfl,ok,h31,q⟩
  unfold zjo
  walk_at "g"
  refine zaM (fun i Z S'=>∃ (w:Option D),Z=[some (.tup (cs.map p2)),some (.int lo),some (.int hi),some (.ref S.length),some (.int (zaJ lo (cs.take i)).2),w]/\S'=S++[.lst ((zaJ lo (cs.take i)).1.map p2)]) ⟨none,rfl,rfl⟩ (fun _ _ _ _=>True.intro) ?_ ?_
  . rintro i d Z S' hd ⟨w,rfl,rfl⟩
    obtain⟨c,hc,rfl⟩:=zcL hd
    have hi':=zae hc
    have hlim:(List.map p2 (zaJ lo (cs.take i)).1).length<big:=by
      rw [qa,zeQ,List.length_take];unfold big;omega
    walk_at "g"
    refine⟨some (p2 c),?_,?_⟩
    . rw [zat hc,zgV];rfl
    . rw [zat hc,zgV,List.map_append];rfl
  . rintro Z S' ⟨w,rfl,rfl⟩
    rw [qa,List.take_length]
    have hlim:(List.map p2 (zaJ lo cs).1).length<big:=by
      rw [qa,zeQ];unfold big;omega
    have hf:=List.length_filter_le lec ((zaJ lo cs).1++[((zaJ lo cs).2,hi)])
    rw [qe,zeQ] at hf
    have hf:((((zaJ lo cs).1++[((zaJ lo cs).2,hi)])).filter lec).length<=cs.length+1:=hf
    walk_at "g"
    refine⟨_,(zaJ lo cs).1++[((zaJ lo cs).2,hi)],rfl,.inr (by rw [List.map_append];exact Lst.at0),by rw [qe,zeQ];show cs.length+1<=4000;omega,by omega,fun ms okm hany hml=>?_⟩
    refine zan (ziC ms) (q ms okm (fun h h0 h1=>?_) (by omega))
    rw [hany h,Bool.eq_iff_iff,zlY h1 lo ok h0 (fun _ _ _=>trivial),<- zbS]
    cases cs.any (inS h)<;>simp
def zgp:DSp:=fun ds S Q=>∃ (as bs:List (Int×Int)),ds=[.tup (as.map p2),.tup (bs.map p2)]/\zaA as/\zaA bs/\as.length+bs.length<64 /\
 ∀ ms:List (Int×Int),zaA ms->(∀ h,ms.any (inS h)=(as.any (inS h)&&bs.any (inS h)))->ms.length<=as.length+bs.length->Q (.tup (ms.map p2)) S
def zjn:DS :=
    (zG (zM (zba zB) (zE 2))
 (zG (zbu (zaY (zf 0)) (zcF 2 (zav (zE 3) (zav (zE 4) zcH))) (zbu (zaY (zf 1)) (zcF 2 (zav (zE 5) (zav (zE 6) zcH))) (zaR (dM zbt (zf 2) (zm (dTup (zm (dB zfW (zm (zf 3) (zm (zf 5) zB))) (zm (dB zgS (zm (zf 4) (zm (zf 6) zB))) zB))) zB)))))
 (zY (dCall zdR (zm (zf 2) zB)))))
theorem zrw:∀ ds So Q,zgp ds So Q->ds.length=2:=by rintro ds So Q ⟨_,_,rfl,_⟩;rfl
theorem ztF:BodyOk 7 zjn zgp:=by
 rintro ds S Q ⟨as,bs,rfl,oka,okb,hlen,q⟩
 unfold zjn
 have hmul:as.length*bs.length<=3969:=Nat.le_trans (Nat.mul_le_mul (show as.length<=63 by omega) (show bs.length<=63 by omega)) (by decide)
 walk_at "g"
 refine zaM (fun i Z S'=>∃ (w1 w2 w3 w4:Option D),Z=[some (.tup (as.map p2)),some (.tup (bs.map p2)),some (.ref S.length),w1,w2,w3,w4]/\S'=S++[.lst ((zaZ (as.take i) bs).map p2)]) ⟨none,none,none,none,rfl,rfl⟩ (fun _ _ _ _=>True.intro) ?_ ?_
 ·rintro i d Z S' hd ⟨w1,w2,w3,w4,rfl,rfl⟩
  obtain⟨a,ha,rfl⟩:=zcL hd
  have hi:=zae ha
  walk_at "g"
  refine zaM (fun j Z S'=>∃ (w3 w4:Option D),Z=[some (.tup (as.map p2)),some (.tup (bs.map p2)),some (.ref S.length),some (.int a.1),some (.int a.2),w3,w4]/\S'=S++[.lst ((zaZ (as.take i) bs++(bs.take j).map (zbh a)).map p2)]) ⟨w3,w4,rfl,by simp⟩ (fun _ _ _ _=>True.intro) ?_ ?_
  ·rintro j d Z S' hd ⟨w3,w4,rfl,rfl⟩
   obtain⟨b,hb,rfl⟩:=zcL hd
   have hj:=zae hb
   have hlim:(List.map p2 (zaZ (as.take i) bs++(bs.take j).map (zbh a))).length<big:=by
    rw [qa,qe,zjV,qa,List.length_take,List.length_take]
    have:min i as.length*bs.length<=as.length*bs.length:=Nat.mul_le_mul (Nat.min_le_right _ _) (qf _)
    unfold big;omega
   walk_at "g"
   refine⟨_,_,rfl,?_⟩
   have e:zaZ (as.take i) bs++(bs.take (j+1)).map (zbh a)=zaZ (as.take i) bs++(bs.take j).map (zbh a)++[zbh a b]:=by
    rw [zat hb,List.map_append,<- List.append_assoc];rfl
   rw [e,List.map_append (l₂:=[zbh a b])]
   rfl
  ·rintro Z S' ⟨w3,w4,rfl,rfl⟩
   refine⟨_,_,_,_,rfl,?_⟩
   rw [qa,List.take_length,zng ha]
 ·rintro Z S' ⟨w1,w2,w3,w4,rfl,rfl⟩
  rw [qa,List.take_length]
  have hf:((zaZ as bs).filter lec).length<=as.length+bs.length:=zl4 oka okb
  walk_at "g"
  refine⟨_,zaZ as bs,rfl,.inr Lst.at0,by rw [zjV];omega,by omega,fun ms ok hany hml=>?_⟩
  exact zan (ziC ms) (q ms ok (fun h=>by rw [hany h,zn0]) (by omega))
def zd5:DSp:=fun ds S Q=>∃ (as bs:List (Int×Int)),ds=[.tup (as.map p2),.tup (bs.map p2)]/\zaA as/\zaA bs/\as.length+bs.length<63 /\
 ∀ ms:List (Int×Int),zaA ms->(∀ h,ms.any (inS h)=(as.any (inS h)&&!(bs.any (inS h))))->ms.length<=as.length+bs.length+1->Q (.tup (ms.map p2)) S
def zfO:DS :=
    (zG (sIf (dT (dOp oEq (dB zaH (zm (zf 0) zB)) (dC (.int 0)))) (zY (dTup zB)) z9)
 (zY (dCall zgp (zm (zf 0) (zm (dCall zgo (zm (zf 1) (zm (dOp oIx (dOp oIx (zf 0) (dC (.int 0))) (dC (.int 0))) (zm (dOp oIx (dOp oIx (zf 0) (dUn zcG (dC (.int 1)))) (dC (.int 1))) zB)))) zB)))))
theorem znl:∀ ds So Q,zd5 ds So Q->ds.length=2:=by rintro ds So Q ⟨_,_,rfl,_⟩;rfl
theorem zo0:BodyOk 2 zfO zd5:=by
 rintro ds S Q ⟨as,bs,rfl,oka,okb,hlen,q⟩
 unfold zfO
 walk_at "g"
 rw [qa]
 refine r_d (fun g=>?_) (fun g=>?_)
 ·have ea:as=[]:=List.length_eq_zero_iff.mp (by omega)
  subst ea
  walk_at "g"
  exact fin_same (q [] zaA.nil (fun h=>rfl) (by simp))
 ·obtain⟨c,as',rfl⟩:∃ c as',as=c::as':=by
   cases as with
   | nil=>exact absurd (by simp) g
   | cons c as'=>exact⟨c,as',rfl⟩
  obtain⟨ms0,m,em⟩:=zsj (l:=c::as') (by simp)
  have a0:atD (List.map p2 (c::as')) 0=some (p2 c):=za5 (i:=0) rfl
  have am:atD (List.map p2 (c::as')) (-1)=some (p2 m):=by rw [em,List.map_append];exact zfy
  walk_at "g"
  refine⟨bs,c.1,m.2,rfl,okb,by omega,fun gs okg hg hgl=>?_⟩
  walk_at "g"
  refine⟨c::as',gs,rfl,oka,okg,by omega,fun ms ok hany hml=>?_⟩
  refine fin_same (q ms ok (fun h=>?_) (by omega))
  rw [hany h]
  cases hA:(c::as').any (inS h) with
  | false=>rfl
  | true =>
   obtain⟨x,hx,x1,x2⟩:=zbS.mp hA
   have lo:c.1<=h:=by
    rcases qh.mp hx with rfl | hx
    ·exact x1
    ·have:=(List.pairwise_cons.mp oka.ap).1 x hx
     have:=oka.le c (by simp)
     omega
   have hi:h<=m.2:=by
    rw [em] at hx oka
    obtain⟨_,hm,hap⟩:=oka.init
    rcases List.mem_append.mp hx with hx | hx
    ·have:=hap x hx
     omega
    ·have:x=m:=by simpa using hx
     subst this
     exact x2
   rw [hg h lo hi]
def zft:zep:=fun ds S Q ex=>∃ (v:D) (V:Vl) (n m:Str),ds=[v,.str n,.str m]/\VAt S v V/\zch V/\fl 20 (.str n)=true/\fl 20 (.str m)=true/\((∀ b∈V.bs,b.1≠n)\/(∀ b∈V.bs,b.1≠m)->ex "NoBeacon" S)/\∀ s t,(n,s)∈V.bs->(m,t)∈V.bs->∀ ms,zsf V n m s t ms->Q (.tup (ms.map p2)) S
def zif (ex : XR) : DS :=
    (zG (zM (zc4 zc8 ex (zm (zf 0) (zm (zf 1) zB))) (zE 3))
 (zG (zM (zc4 zc8 ex (zm (zf 0) (zm (zf 2) zB))) (zE 4))
 (zG (zM (dTup (zm (dTup (zm (zct "first" (zf 0)) (zm (zct "last" (zf 0)) zB))) zB)) (zE 5))
 (zG (sIf (dT (dOp oEq (zf 1) (zf 2))) (zY (zf 5)) z9)
 (zG (sIf (dT (dOp zfH (dCall zbK (zm (zf 0) (zm (zf 3) (zm (zf 4) zB)))) (dC .non))) (zY (dTup zB)) z9)
 (zY (dCall zd5 (zm (zf 5) (zm (dCall zcN (zm (zct "fogs" (zf 0)) (zm (zf 3) (zm (zf 4) zB)))) zB)))))))))
theorem zqG:∀ ds So Q ex,zft ds So Q ex->ds.length=3:=by rintro ds So Q ex ⟨_,_,_,_,rfl,_⟩;rfl
theorem zro:zdY 6 zif zft:=by
  rintro ds S Q ex ⟨v,V,n,m,rfl,hv,ok,hn,hm,hx,q⟩
  unfold zif
  walk_at "g"
  refine⟨v,V,n,rfl,hv,ok,hn,fun no=>hx (.inl no),fun s hs=>?_⟩
  walk_at "g"
  refine⟨v,V,m,rfl,hv,ok,hm,fun no=>hx (.inr no),fun t ht=>?_⟩
  have q':=q s t hs ht
  clear hx q
  have bs:=ok.bd _ hs
  have bt:=ok.bd _ ht
  have ss:=ok.st _ hs
  have st:=ok.st _ ht
  obtain⟨a,g,b',f,rfl,ha,hg,hb,hf⟩:=id hv
  walk_at "g"
  refine zjQ hn hm ?_
  walk_at "g"
  have one:zaA [(V.h0,V.h1)]:=by
    refine⟨fun c hc=>?_,List.pairwise_singleton _ _⟩
    have:c=(V.h0,V.h1):=by simpa using hc
    subst this;exact ok.hh
  refine r_d (fun h=>?_) (fun h=>?_)
  . walk_at "g"
    refine fin_same (q' [(V.h0,V.h1)] ⟨one,fun k=>?_,by show 1<=14;decide⟩)
    rw [zbS]
    constructor
    . rintro⟨c,hc,h1,h2⟩
      have:c=(V.h0,V.h1):=by simpa using hc
      subst this
      exact⟨h1,h2,.inl h⟩
    . rintro⟨h1,h2,_⟩
      exact⟨(V.h0,V.h1),by simp,h1,h2⟩
  walk_at "g"
  refine⟨_,V,s,t,rfl,hv,ok,⟨bs,ss⟩,⟨bt,st⟩,?_⟩
  by_cases al:Alw V s t
  case neg =>
    have e:zhg (ziF V s t)=false:=by
      cases h:ziF V s t with
      | non=>exact absurd (zkL.mp h) al
      | _=>rfl
    refine r_c (zsn ?_)
    rw [e]
    walk_at "g"
    refine fin_same (q' [] ⟨zaA.nil,fun k=>?_,by show 0<=14;decide⟩)
    constructor
    . intro z;simp at z
    . rintro⟨_,_,z | z⟩
      . exact absurd z h
      . exact absurd z.1 al
  rw [zkL.mpr al]
  walk_at "g"
  have f12:=ok.f12
  refine⟨_,V.fs,s.1,s.2,t.1,t.2,rfl,Lst.here hf,by omega,fun F hF=>(ok.fg F hF).b,bs.1.mono (by decide),bs.2.mono (by decide),bt.1.mono (by decide),bt.2.mono (by decide),fun fs fok fh fl=>?_⟩
  walk_at "g"
  refine⟨[(V.h0,V.h1)],fs,rfl,one,fok,by show 1+fs.length<63;omega,fun ms mok mh ml=>?_⟩
  refine fin_same (q' ms ⟨mok,fun k=>?_,by have:ms.length<=1+fs.length+1:=ml;omega⟩)
  rw [mh k,Bool.and_eq_true,zbS]
  have e:(!fs.any (inS k))=true↔¬ ∃ F∈V.fs,zbT F s.1 s.2 t.1 t.2 k:=by
    rw [<- fh k]
    cases fs.any (inS k)<;>simp
  rw [e]
  constructor
  . rintro⟨⟨c,hc,h1,h2⟩,h3⟩
    have:c=(V.h0,V.h1):=by simpa using hc
    subst this
    exact⟨h1,h2,.inr ⟨al,h3⟩⟩
  . rintro⟨h1,h2,z | z⟩
    . exact absurd z h
    . exact⟨⟨(V.h0,V.h1),by simp,h1,h2⟩,z.2⟩
def zfm:DSp:=fun ds S Q=>∃ (cs:List (Int×Int)) (h:Int),ds=[.tup (cs.map p2),.int h]/\cs.length<=400/\Q (.bl (cs.any (inS h))) S
def ziw:DS :=
  (zY (dB zoD (zm (dLC 2 [1] (zaY (zf 0)) (zcF 2 (zav (zE 0) (zav (zE 1) zcH))) zbz (zgi oLe oLe (zf 0) (zf 2) (zf 1))) zB)))
theorem zqa:∀ ds So Q,zfm ds So Q->ds.length=2:=by rintro ds So Q ⟨_,_,rfl,_⟩;rfl
theorem zq4:BodyOk 2 ziw zfm:=by
 rintro ds S Q ⟨cs,h,rfl,h4,q⟩
 unfold ziw
 walk_at "g"
 refine za3 (fun _=>true) (on2 fun c=>.bl (inS h c)) True.intro ?_ (fun i d ys hd hw=>?_) ?_
 ·rw [qa];unfold big;omega
 ·obtain⟨c,hc,rfl⟩:=zcL hd
  walk_at "g"
  refine r_d (fun g=>?_) (fun g=>?_)
  ·walk_at "g"
   exact zbL hd hw rfl (by show _=D.bl (inS h c);unfold inS;rw [decide_eq_true g];rfl)
  ·walk_at "g"
   exact zbL hd hw rfl (by show _=D.bl (inS h c);unfold inS;rw [decide_eq_false g];rfl)
 rw [filter_true,znV,show (cs.map fun c=>D.bl (inS h c))=(cs.map (inS h)).map D.bl by rw [List.map_map];rfl]
 walk_at "g"
 refine zu1 (bs:=cs.map (inS h)) (b:=cs.any (inS h)) Lst.at0 (by rw [List.any_map];rfl) ?_
 exact zan rfl q
def zcy:DSp:=fun ds S Q=>∃ (v:D) (V:Vl) (i:Nat) (a c:Str×(Int×Int)),ds=[v,bcD a,bcD c]/\VAt S v V/\zch V/\zdf V i a.1/\fl 20 (.str c.1)=true/\∀ r:Bool,(r=true↔zgF V a c)->Q (.bl r) S
def zeh:DS :=
    (zG (zM (dOp oIx (zf 2) (dC (.int 0))) (zE 3))
 (zG (zM (dOp oIx (zf 2) (dC (.int 1))) (zE 4))
 (zG (sIf (dOr (dT (dOp oEq (zf 3) (dOp oIx (zf 1) (dC (.int 0))))) (dOr (dT (dOp zgl (zf 3) (dCall zcB (zm (zf 0) zB)))) (zd8 (dT (dCall zcD (zm (zf 4) zB)))))) (zY (dC (.bl false))) z9)
 (zG (sIf (dOr (dT (dOp oLt (zf 4) (dOp oIx (zf 1) (dC (.int 2))))) (dT (dOp oNe (dOp oIx (zf 2) (dC (.int 2))) (dOp zad (zf 4) (zct "delay" (zf 0)))))) (zY (dC (.bl false))) z9)
 (zY (dCall zfm (zm (zc4 zft xF (zm (zf 0) (zm (dOp oIx (zf 1) (dC (.int 0))) (zm (zf 3) zB)))) (zm (zf 4) zB))))))))
theorem zj2:∀ ds So Q,zcy ds So Q->ds.length=3:=by rintro ds So Q ⟨_,_,_,_,_,rfl,_⟩;rfl
theorem zkW:BodyOk 5 zeh zcy:=by
 rintro ds S Q ⟨v,V,i,a,c,rfl,hv,ok,ha,fc,q⟩
 unfold zeh
 have b12:=ok.b12
 have fa:=ok.flN _ ha.mem
 walk_at "g"
 refine zjQ fc fa ?_
 walk_at "g"
 walk_at "drho"
 have bad:¬ zgF V a c->Q (.bl false) S:=fun z=>q false ⟨fun e=>(by cases e),fun e=>absurd e z⟩
 refine r_d (fun e=>?_) (fun e=>?_)
 ·walk_at "g"
  exact fin_same (bad fun z=>z.1 e)
 walk_at "g"
 refine⟨v,V,rfl,hv,by omega,?_⟩
 walk_at "g"
 refine zhB (.inr Lst.at0) fc ok.flN ?_
 walk_at "g"
 refine zfF (fun hn=>?_) (fun hn=>?_)
 ·walk_at "g"
  exact zan rfl (bad fun⟨_,_,_,_,j,_,hj,_⟩=>hn hj.mem)
 walk_at "g"
 refine⟨_,rfl,?_⟩
 have hv1:VAt (S++[Cell.lst ((V.bs.map (·.1)).map D.str)]) v V:=hv.old
 generalize hT:[Cell.lst ((V.bs.map (·.1)).map D.str)]=T at hv1
 obtain⟨vn,g,b',f,rfl,hvn,hg,hb',hf⟩:=id hv1
 walk_at "g"
 refine r_d (fun h1=>?_) (fun h1=>?_)
 ·walk_at "g"
  exact zan rfl (bad fun z=>by have:=z.2.1;omega)
 walk_at "g"
 refine zfF (fun h2=>?_) (fun h2=>?_)
 ·walk_at "g"
  exact zan rfl (bad fun z=>h2 z.2.2.1)
 walk_at "g"
 obtain⟨j,hj⟩:=znW hn
 obtain⟨b,hb,eb⟩:=ha
 obtain⟨d,hd,ed⟩:=hj
 have mb:=qd hb
 have md:=qd hd
 refine⟨_,V,a.1,c.1,rfl,hv1,ok,fa,fc,fun no=>?_,fun s t hs ht ms hm=>?_⟩
 ·rcases no with no | no
  ·exact no b mb eb
  ·exact no d md ed
 have es:s=b.2:=congrArg Prod.snd (zqz ok hs mb eb.symm)
 have et:t=d.2:=congrArg Prod.snd (zqz ok ht md ed.symm)
 subst es et
 walk_at "g"
 refine⟨ms,_,rfl,by have:=hm.len;omega,?_⟩
 have hij:i≠j:=fun z=>by
  subst z
  rw [hb] at hd;cases hd
  exact e (ed.symm.trans eb)
 rw [<- eb,<- ed] at hm
 have ss:=zpL ok hb hd hij hm c.2.1
 refine zan rfl (q _ ?_)
 rw [<- ss]
 constructor
 ·intro z
  exact⟨e,by omega,h2,i,j,⟨b,hb,eb⟩,⟨d,hd,ed⟩,z⟩
 ·rintro⟨_,_,_,i',j',hi',hj',z⟩
  rw [zdf.uniq ok ⟨b,hb,eb⟩ hi',zdf.uniq ok ⟨d,hd,ed⟩ hj'];exact z
def zce:DSp:=fun ds S Q=>∃ (v:D) (V:Vl) (s:Nat) (b:Str×(Int×Int)) (h:Int) (y:D) (ws:List (Str×(Int×Int))) (u:Unit),ds=[v,.str b.1,.int h,y]/\VAt S v V/\zch V/\V.bs[s]?=some b/\V.h0<=h/\h<=V.h1/\Lst S y (ws.map bcD)/\ws.length<=100/\(∀ w∈ws,fl 20 (.str w.1)=true)/\∀ r:Bool,(r=true↔zhP V b.1 h ws)->Q (.bl r) S
def zeI:DS :=
    (zG (zaR (zc4 zbb xF (zm (zf 0) (zm (zf 1) zB))))
 (zG (zaR (zc4 zbw xF (zm (zf 0) (zm (zf 2) zB))))
 (zG (sIf (dOr (dT (dOp oEq (dB zaH (zm (zf 3) zB)) (dC (.int 0)))) (dT (dOp oNe (dOp oIx (zf 3) (dC (.int 0))) (dTup (zm (zf 1) (zm (zf 2) (zm (zf 2) zB))))))) (zY (dC (.bl false))) z9)
 (zG (zbu (zir (zm (dC (.int 1)) (zm (dB zaH (zm (zf 3) zB)) zB))) (zE 4) (sIf (zd8 (dT (dCall zcy (zm (zf 0) (zm (dOp oIx (zf 3) (dOp zah (zf 4) (dC (.int 1)))) (zm (dOp oIx (zf 3) (zf 4)) zB)))))) (zY (dC (.bl false))) z9))
 (zY (dC (.bl true)))))))
theorem zkU:∀ ds So Q,zce ds So Q->ds.length=4:=by rintro ds So Q ⟨_,_,_,_,_,_,_,_,rfl,_⟩;rfl
theorem zlz:BodyOk 5 zeI zce:=by
 rintro ds S Q ⟨v,V,s,b,h,y,ws,_,rfl,hv,ok,hb,h0,h1,hy,lw,fw,q⟩
 unfold zeI
 have mb:=qd hb
 have fb:=zgs (ok.nm b mb) 20
 walk_at "g"
 refine⟨v,V,b.1,rfl,hv,ok,fb,fun no=>absurd (List.mem_map.mpr ⟨b,mb,rfl⟩) no,fun _=>?_⟩
 walk_at "g"
 refine⟨v,V,h,rfl,hv,fun no=>absurd ⟨h0,h1⟩ no,fun _ _=>?_⟩
 walk_at "g"
 rw [qa]
 have bad:¬ zhP V b.1 h ws->Q (.bl false) S:=fun z=>q false ⟨fun e=>(by cases e),fun e=>absurd e z⟩
 refine r_d (fun e=>?_) (fun e=>?_)
 ·walk_at "g"
  refine fin_same (bad fun z=>?_)
  have:=zae z.1
  omega
 obtain⟨w0,hw0,aw0⟩:=zdz (bs:=ws) (k:=0) (by decide) (by omega)
 walk_at "g"
 refine zpk (b:=(b.1,h,h)) (fw w0 (qd hw0)) fb ?_
 walk_at "g"
 refine zfF (fun e1=>?_) (fun e1=>?_)
 ·walk_at "g"
  refine fin_same (bad fun z=>e1 ?_)
  have:=hw0.symm.trans z.1
  exact Option.some.inj this
 walk_at "g"
 rw [qa]
 refine⟨_,_,rfl,?_⟩
 refine zaM (fun i Z S'=>S'=S/\(∀ (k:Nat) a c,k<i->ws[k]?=some a->ws[k+1]?=some c->zgF V a c)/\∃ w4:Option D,Z=[some v,some (.str b.1),some (.int h),some y,w4]) ⟨rfl,fun k a c hk=>by omega,_,rfl⟩ (fun _ _ _ _=>True.intro) ?_ ?_
 ·rintro i d Z S' hd ⟨rfl,hi,w4,rfl⟩
  obtain⟨li,rfl⟩:=zbq hd
  obtain⟨a,ha,aa⟩:=zdz (bs:=ws) (k:=1+(i:Int)-1) (by omega) (by omega)
  obtain⟨c,hc,ac⟩:=zdz (bs:=ws) (k:=1+(i:Int)) (by omega) (by omega)
  rw [show (1+(i:Int)-1).toNat=i by omega] at ha
  rw [show (1+(i:Int)).toNat=i+1 by omega] at hc
  have hnm:∃ j,zdf V j a.1:=by
   cases i with
   | zero =>
    have e2:w0=a:=Option.some.inj (hw0.symm.trans ha)
    subst e2
    exact⟨s,b,hb,by rw [e1]⟩
   | succ i =>
    have lj:i<ws.length:=by have:=zae ha;omega
    obtain⟨_,_,_,_,j,_,hj,_⟩:=hi i _ a (by omega) (qb lj) ha
    exact⟨j,hj⟩
  obtain⟨j,hj⟩:=hnm
  walk_at "g"
  refine⟨v,V,j,a,c,rfl,hv,ok,hj,fw c (qd hc),fun r hr=>?_⟩
  cases r with
  | true =>
   walk_at "g"
   refine⟨rfl,fun k a' c' hk ha' hc'=>?_,_,rfl⟩
   rcases Nat.lt_or_ge k i with g | g
   ·exact hi k a' c' g ha' hc'
   ·have e2:k=i:=by omega
    subst e2
    rw [ha] at ha';rw [hc] at hc';cases ha';cases hc'
    exact hr.mp rfl
  | false =>
   walk_at "g"
   exact fin_same (bad fun z=>absurd (hr.mpr (z.2 i a c ha hc)) (by decide))
 ·rintro Z S' ⟨rfl,hi,w4,rfl⟩
  rw [zaE] at hi
  walk_at "g"
  refine fin_same (q true ⟨fun _=>⟨by rw [<- e1];exact hw0,fun k a c ha hc=>hi k a c (by have:=zae hc;omega) ha hc⟩,fun _=>rfl⟩)
theorem ztY {z y:Str}(h:fl 20 (.str z)=true)(g:fl 20 (.str y)=true):fl 20 (.str (z++y))=true:=by
  have h':z.cps.all (· < 0x110000)=true:=h
  have g':y.cps.all (· < 0x110000)=true:=g
  show (z.cps++y.cps).all (· < 0x110000)=true
  rw [Array.all_append,h',g'];rfl
def zdv:DSp:=fun ds S Q=>∃ (o p:D) (ws:List (Str×(Int×Int))) (zs:List Str) (c:Int),ds=[o,p,.int c]/\Lst S o (ws.map bcD)/\Lst S p (zs.map D.str)/\1<=ws.length/\ws.length<=20/\1<=zs.length/\zs.length<=12/\(∀ w∈ws,w.1∈zs)/\(∀ z∈zs,fl 20 (.str z)=true/\z.length<=8)/\∀ (T:Sto) (k:Nat) (vs:List (Str×(Int×Int))),vs.length<=30->(∀ w∈vs,fl 20 (.str w.1)=true)->(S++T)[k]?=some (.lst (vs.map bcD))->S.length<=k->Q (.ref k) (S++T)
def ze7:DS :=
    (zG (zM (dCall zP (zm (zf 2) (zm (dC (.int 40)) (zm (dB zaH (zm (zf 0) zB)) zB)))) (zE 3))
 (zG (zM (dOp oIx (zf 0) (zf 3)) (zcF 3 (zav (zE 4) (zav (zE 5) (zav (zE 6) zcH)))))
 (zG (zM (dCall zP (zm (zf 2) (zm (dC (.int 39)) (zm (dC (.int 9)) zB)))) (zE 7))
 (zG (zM (dOp zah (dOp zau (dCall zP (zm (zf 2) (zm (dC (.int 41)) (zm (dC (.int 2)) zB)))) (dC (.int 2))) (dC (.int 1))) (zE 8))
 (zG (zM (zba (zm (dTup (zm (zf 4) (zm (dOp zad (zf 5) (zf 8)) (zm (zf 6) zB)))) (zm (dTup (zm (zf 4) (zm (zf 5) (zm (dOp zad (zf 6) (zf 8)) zB)))) zB))) (zE 9))
 (zG (zaR (dM zbt (zf 9) (zm (dTup (zm (zf 4) (zm (dOp zad (zf 5) (zf 8)) (zm (dOp zad (zf 6) (zf 8)) zB)))) zB)))
 (zG (zaR (dM zbt (zf 9) (zm (dTup (zm (dOp oIx (zf 1) (dCall zP (zm (zf 2) (zm (dC (.int 42)) (zm (dB zaH (zm (zf 1) zB)) zB))))) (zm (zf 5) (zm (zf 6) zB)))) zB)))
 (zG (zaR (dM zbt (zf 9) (zm (dTup (zm (dOp zad (zf 4) (dC (.str "q"))) (zm (zf 5) (zm (zf 6) zB)))) zB)))
 (zG (sIf (dT (dOp oLt (zf 7) (dC (.int 5)))) (zY (dOp zad (dOp zad (dSl zcX (zf 0) none (some (zf 3))) (zba (zm (dOp oIx (zf 9) (zf 7)) zB))) (dSl zcX (zf 0) (some (dOp zad (zf 3) (dC (.int 1)))) none))) z9)
 (zG (sIf (dT (dOp oEq (zf 7) (dC (.int 5)))) (zY (dOp zad (dSl zcX (zf 0) none (some (zf 3))) (dSl zcX (zf 0) (some (dOp zad (zf 3) (dC (.int 1)))) none))) z9)
 (zG (sIf (dT (dOp oEq (zf 7) (dC (.int 6)))) (zY (dOp zad (dOp zad (dSl zcX (zf 0) none (some (zf 3))) (zba (zm (dOp oIx (zf 0) (zf 3)) zB))) (dSl zcX (zf 0) (some (zf 3)) none))) z9)
 (zG (sIf (dT (dOp oEq (zf 7) (dC (.int 7)))) (zG (zM (dOp oIx (zf 0) (zf 3)) (zE 10))
 (zG (zM (dOp zad (dSl zcX (zf 0) none (some (zf 3))) (dSl zcX (zf 0) (some (dOp zad (zf 3) (dC (.int 1)))) none)) (zE 11))
 (zG (zaR (dM zkr (zf 11) (zm (dOp zad (zf 3) (dC (.int 1))) (zm (zf 10) zB))))
 (zY (zf 11))))) z9)
 (zY (zba zB))))))))))))))
theorem zmq:∀ ds So Q,zdv ds So Q->ds.length=3:=by rintro ds So Q ⟨_,_,_,_,_,rfl,_⟩;rfl
theorem zno:BodyOk 12 ze7 zdv:=by
 rintro ds S Q ⟨o,p,ws,zs,c,rfl,ho,hp,l1,l20,z1,z12,hwz,hz,q⟩
 unfold ze7
 have fw:∀ w∈ws,fl 20 (.str w.1)=true:=fun w hw=>(hz _ (hwz w hw)).1
 walk_at "g"
 rw [qa]
 refine⟨c,40,_,rfl,by decide,by decide,by omega,fun at' a0 a1 _=>?_⟩
 obtain⟨w0,hw0,aw0⟩:=zdz (bs:=ws) (k:=at') a0 a1
 have mw0:=qd hw0
 have f0:=fw w0 mw0
 have ln0:=(hz _ (hwz w0 mw0)).2
 walk_at "g"
 refine⟨c,39,9,rfl,by decide,by decide,by decide,fun kd k0 k1 _=>?_⟩
 walk_at "g"
 refine⟨c,41,2,rfl,by decide,by decide,by decide,fun m m0 m1 _=>?_⟩
 walk_at "g"
 walk_at "drho"
 have hpT:∀ T,Lst (S++T) p (zs.map D.str):=fun T=>hp.old
 generalize m*2-1=off
 have hp1:=hpT [.lst [bcD (w0.1,w0.2.1+off,w0.2.2),bcD (w0.1,w0.2.1,w0.2.2+off),bcD (w0.1,w0.2.1+off,w0.2.2+off)]]
 walk_at "g"
 rw [qa]
 refine⟨c,42,_,rfl,by decide,by decide,by omega,fun zi i0 i1 _=>?_⟩
 obtain⟨zz,mz,az⟩:∃ zz,zz∈zs/\atD (zs.map D.str) zi=some (.str zz):=by
  have e:zs[zi.toNat]?=some (zs[zi.toNat]'(by omega)):=qb (by omega)
  refine⟨zs[zi.toNat]'(by omega),List.getElem_mem _,?_⟩
  have:=za5 (ds:=zs.map D.str) (i:=zi.toNat) (by rw [qg,e];rfl)
  rwa [show ((zi.toNat:Nat):Int)=zi by omega] at this
 walk_at "g"
 refine⟨Nat.le_of_ble_eq_true rfl,?_⟩
 walk_at "g"
 refine zmH (by show w0.1.length+1<=big;unfold big;omega) ?_
 walk_at "g"
 obtain⟨rs,hrs,lrs,frs⟩:∃ rs:List (Str×(Int×Int)),[bcD (w0.1,w0.2.1+off,w0.2.2),bcD (w0.1,w0.2.1,w0.2.2+off),bcD (w0.1,w0.2.1+off,w0.2.2+off),bcD (zz,w0.2.1,w0.2.2),bcD (w0.1++"q",w0.2.1,w0.2.2)]=rs.map bcD/\rs.length=5/\∀ r∈rs,fl 20 (.str r.1)=true:=⟨[(w0.1,w0.2.1+off,w0.2.2),(w0.1,w0.2.1,w0.2.2+off),(w0.1,w0.2.1+off,w0.2.2+off),(zz,w0.2.1,w0.2.2),(w0.1++"q",w0.2.1,w0.2.2)],rfl,rfl,fun r hr=>by
  simp only [qh,List.not_mem_nil,or_false] at hr
  rcases hr with rfl | rfl | rfl | rfl | rfl
  ·exact f0
  ·exact f0
  ·exact f0
  ·exact (hz zz mz).1
  ·exact ztY f0 (by decide +kernel)⟩
 try simp only [List.cons_append,List.nil_append]
 rw [hrs]
 generalize hS1':S++[Cell.lst (rs.map bcD)]=S1
 have hS1:=hS1'.symm
 clear hS1'
 have kr:Lst S1 (.ref S.length) (rs.map bcD):=hS1▸Lst.at0
 have ko:Lst S1 o (ws.map bcD):=hS1▸ho.old
 have e1:∃ T,S1=S++T:=⟨_,hS1⟩
 have ls1:S.length<=S1.length:=by rw [hS1];simp
 have q1:∀ (T:Sto) (k:Nat) (vs:List (Str×(Int×Int))),vs.length<=30->(∀ w∈vs,fl 20 (.str w.1)=true)->(S1++T)[k]?=some (.lst (vs.map bcD))->S1.length<=k->Q (.ref k) (S1++T):=fun T k vs h1 h2 h3 h4=>by
  obtain⟨T1,rfl⟩:=e1
  rw [List.append_assoc] at h3 ⊢
  exact q _ k vs h1 h2 h3 (by omega)
 generalize S.length=rr at kr ls1
 clear hS1 hp1 hpT hp ho q
 obtain⟨ai,rfl⟩:∃ ai:Nat,at'=(ai:Int):=⟨at'.toNat,by omega⟩
 have lai:ai<ws.length:=by omega
 rw [show (ai:Int).toNat=ai by omega] at hw0
 have ct:cutD (ws.map bcD) none (some (ai:Int))=(ws.take ai).map bcD:=by rw [zfj,zqR _ (by omega) (by omega)];rfl
 have cd1:cutD (ws.map bcD) (some ((ai:Int)+1)) none=(ws.drop (ai+1)).map bcD:=by rw [zfj,zmb _ (by omega) (by omega)];rfl
 have cd0:cutD (ws.map bcD) (some (ai:Int)) none=(ws.drop ai).map bcD:=by rw [zfj,zmb _ (by omega) (by omega)];rfl
 have ft:∀ w∈ws.take ai,fl 20 (.str w.1)=true:=fun w hw=>fw w (List.mem_of_mem_take hw)
 have fd1:∀ w∈ws.drop (ai+1),fl 20 (.str w.1)=true:=fun w hw=>fw w (List.mem_of_mem_drop hw)
 have fd0:∀ w∈ws.drop ai,fl 20 (.str w.1)=true:=fun w hw=>fw w (List.mem_of_mem_drop hw)
 have lt':(ws.take ai).length<=20:=by rw [List.length_take];omega
 have ld1:(ws.drop (ai+1)).length<=20:=by rw [List.length_drop];omega
 have ld0:(ws.drop ai).length<=20:=by rw [List.length_drop];omega
 have lta:(ws.take ai).length=ai:=by rw [List.length_take];omega
 have ltd:(ws.take ai).length+(ws.drop (ai+1)).length<=20:=by rw [List.length_take,List.length_drop];omega
 have ltd0:(ws.take ai).length+(ws.drop ai).length<=20:=by rw [List.length_take,List.length_drop];omega
 generalize ws.take ai=A at ct ft lt' lta ltd ltd0
 generalize ws.drop (ai+1)=B at cd1 fd1 ld1 ltd
 generalize ws.drop ai=C at cd0 fd0 ld0 ltd0
 have bl:∀ n:Nat,n<=100->n<=big:=fun n h=>by unfold big;omega
 have koT:∀ T,Lst (S1++T) o (ws.map bcD):=fun T=>ko.old
 walk_at "g"
 refine r_d (fun e5=>?_) (fun e5=>?_)
 ·obtain⟨r,hr,ar⟩:=zdz (bs:=rs) (k:=kd) (by omega) (by omega)
  have fr:=frs r (qd hr)
  have kr1:∀ T,Lst (S1++T) (.ref rr) (rs.map bcD):=fun T=>kr.old
  walk_at "g"
  rw [ct]
  have kr2:=kr1 [.lst (A.map bcD)]
  walk_at "g"
  refine zeT (xs:=A.map bcD) (ys:=[r].map bcD) Lst.at0 (Lst.at (k:=1) rfl) (bl _ (by rw [qa];simp;omega)) ?_
  rw [zen]
  have ko2:=koT [.lst (A.map bcD),.lst ([r].map bcD),.lst ((A++[r]).map bcD)]
  walk_at "g"
  rw [cd1]
  refine zeT (xs:=(A++[r]).map bcD) (ys:=B.map bcD) (Lst.at (k:=2) rfl) (Lst.at (k:=3) rfl) (bl _ (by rw [qa,qa];simp;omega)) ?_
  rw [zen]
  walk_at "g"
  refine fin_same (q1 _ _ (A++[r]++B) (by simp;omega) (fun w hw=>?_) ((zbk _ _ 4).trans rfl) (by omega))
  rcases List.mem_append.mp hw with hw | hw
  ·rcases List.mem_append.mp hw with hw | hw
   ·exact ft w hw
   ·have:w=r:=by simpa using hw
    subst this;exact fr
  ·exact fd1 w hw
 walk_at "g"
 refine r_d (fun e6=>?_) (fun e6=>?_)
 ·walk_at "g"
  rw [ct]
  have ko2:=koT [.lst (A.map bcD)]
  walk_at "g"
  rw [cd1]
  refine zeT (xs:=A.map bcD) (ys:=B.map bcD) Lst.at0 (Lst.at (k:=1) rfl) (bl _ (by rw [qa,qa];omega)) ?_
  rw [zen]
  walk_at "g"
  refine fin_same (q1 _ _ (A++B) (by simp;omega) (fun w hw=>?_) ((zbk _ _ 2).trans rfl) (by omega))
  rcases List.mem_append.mp hw with hw | hw
  ·exact ft w hw
  ·exact fd1 w hw
 walk_at "g"
 refine r_d (fun e7=>?_) (fun e7=>?_)
 ·walk_at "g"
  rw [ct]
  have ko2:=koT [.lst (A.map bcD)]
  walk_at "g"
  refine zeT (xs:=A.map bcD) (ys:=[w0].map bcD) Lst.at0 (Lst.at (k:=1) rfl) (bl _ (by rw [qa];simp;omega)) ?_
  rw [zen]
  have ko3:=koT [.lst (A.map bcD),.lst ([w0].map bcD),.lst ((A++[w0]).map bcD)]
  walk_at "g"
  rw [cd0]
  refine zeT (xs:=(A++[w0]).map bcD) (ys:=C.map bcD) (Lst.at (k:=2) rfl) (Lst.at (k:=3) rfl) (bl _ (by rw [qa,qa];simp;omega)) ?_
  rw [zen]
  walk_at "g"
  refine fin_same (q1 _ _ (A++[w0]++C) (by simp;omega) (fun w hw=>?_) ((zbk _ _ 4).trans rfl) (by omega))
  rcases List.mem_append.mp hw with hw | hw
  ·rcases List.mem_append.mp hw with hw | hw
   ·exact ft w hw
   ·have:w=w0:=by simpa using hw
    subst this;exact f0
  ·exact fd0 w hw
 walk_at "g"
 refine r_d (fun e8=>?_) (fun e8=>?_)
 ·walk_at "g"
  rw [ct]
  have ko2:=koT [.lst (A.map bcD)]
  walk_at "g"
  rw [cd1]
  refine zeT (xs:=A.map bcD) (ys:=B.map bcD) Lst.at0 (Lst.at (k:=1) rfl) (bl _ (by rw [qa,qa];omega)) ?_
  rw [zen]
  walk_at "g"
  refine zp0 (n:=S1.length+2) (xs:=(A++B).map bcD) ((zbk _ _ 2).trans rfl) (by omega) (by omega) (by rw [qa,qe];unfold big;omega) (zsz ?_)
  walk_at "drho2"
  rw [show ((A++B).map bcD).take ((ai:Int)+1).toNat++bcD w0::((A++B).map bcD).drop ((ai:Int)+1).toNat=((A++B).take ((ai:Int)+1).toNat++w0::(A++B).drop ((ai:Int)+1).toNat).map bcD by rw [<- List.map_take,<- List.map_drop,<- List.map_cons,<- List.map_append]]
  have fAB:∀ w∈A++B,fl 20 (.str w.1)=true:=fun w hw=>by
   rcases List.mem_append.mp hw with hw | hw
   ·exact ft w hw
   ·exact fd1 w hw
  walk_at "g"
  refine fin_same (q1 _ _ _ (by rw [qe,List.length_cons,List.length_take,List.length_drop,qe];omega) (fun w hw=>?_) ((zbk _ _ 2).trans rfl) (by omega))
  rcases List.mem_append.mp hw with hw | hw
  ·exact fAB w (List.mem_of_mem_take hw)
  ·rcases qh.mp hw with rfl | hw
   ·exact f0
   ·exact fAB w (List.mem_of_mem_drop hw)
 walk_at "g"
 refine fin_same (q1 _ _ [] (by simp) (fun w hw=>by simp at hw) zaU (qf _))
theorem zlE (z n:Str):eqv (.str z) (.str n)=decide (z=n):=by
 show (z==n)=_
 rw [Bool.eq_iff_iff,beq_iff_eq,decide_eq_true_eq]
theorem zmh {V:Vl}(ok:zch V){i:Nat}{z:Str}(h:zdf V i z){S:Sto}{n:Nat}{Q:DK}(hn:S[n]?=some (.lst ((V.bs.map (·.1)).map D.str)))(q:Q (.int (i:Nat)) S):zh1 (.ref n) [.str z] S Q:=by
 obtain⟨b,hb,rfl⟩:=h
 have b12:=ok.b12
 have lb:=zae hb
 have gN:∀ (i:Nat) c,V.bs[i]?=some c->((V.bs.map (·.1)).map D.str)[i]?=some (.str c.1):=fun i c hc=>by rw [qg,qg,hc];rfl
 refine ztw (j:=i) (e:=.str b.1) hn (znr ok.flN) (zgs (ok.nm b (qd hb)) 20) (by rw [qa,qa];unfold big;omega) (gN i b hb) (by rw [zlE,decide_eq_true rfl]) (fun m e' hm he=>?_) q
 have lm:m<V.bs.length:=by omega
 rw [gN m _ (qb lm)] at he
 cases he
 rw [zlE]
 refine decide_eq_false fun z=>?_
 have:=(zis ok (qb lm) hb).mp z
 omega
def zdw:DSp:=fun ds S Q=>∃ (x y z:D) (V:Vl) (t:D) (nr s:Nat) (b:Str×(Int×Int)) (h:Int) (o:D) (ws:List (Str×(Int×Int))),ds=[.tup [vlD x y z V,t,.ref nr],.int (s:Nat),.int h,o]/\zch V/\V.h1-V.h0<=800/\TabAt S t V.bs.length (zao V)/\S[nr]?=some (.lst ((V.bs.map (·.1)).map D.str))/\V.bs[s]?=some b/\Lst S o (ws.map bcD)/\ws.length<=100/\(∀ w∈ws,fl 20 (.str w.1)=true)/\∀ r:Bool,(r=true↔zhP V b.1 h ws)->Q (.bl r) S
def zfd:DS :=
    (zG (zM (zf 0) (zcF 3 (zav (zE 4) (zav (zE 5) (zav (zE 6) zcH)))))
 (zG (sIf (dOr (dT (dOp oEq (dB zaH (zm (zf 3) zB)) (dC (.int 0)))) (dT (dOp oNe (dOp oIx (zf 3) (dC (.int 0))) (dTup (zm (dOp oIx (zf 6) (zf 1)) (zm (zf 2) (zm (zf 2) zB))))))) (zY (dC (.bl false))) z9)
 (zG (zbu (zir (zm (dC (.int 1)) (zm (dB zaH (zm (zf 3) zB)) zB))) (zE 7) (zG (zM (dOp oIx (zf 3) (dOp zah (zf 7) (dC (.int 1)))) (zE 8))
 (zG (zM (dOp oIx (zf 3) (zf 7)) (zE 9))
 (zG (sIf (dOr (dT (dOp zgl (dOp oIx (zf 9) (dC (.int 0))) (zf 6))) (dT (dOp oEq (dOp oIx (zf 9) (dC (.int 0))) (dOp oIx (zf 8) (dC (.int 0)))))) (zY (dC (.bl false))) z9)
 (zG (sIf (dOr (dT (dOp oLt (dOp oIx (zf 9) (dC (.int 1))) (dOp oIx (zf 8) (dC (.int 2))))) (dT (dOp oNe (dOp oIx (zf 9) (dC (.int 2))) (dOp zad (dOp oIx (zf 9) (dC (.int 1))) (dOp oIx (zf 4) (dC (.int 6))))))) (zY (dC (.bl false))) z9)
 (sIf (dT (dOp zgl (dOp oIx (zf 9) (dC (.int 1))) (dOp oIx (dOp oIx (zf 5) (dM zh1 (zf 6) (zm (dOp oIx (zf 8) (dC (.int 0))) zB))) (dM zh1 (zf 6) (zm (dOp oIx (zf 9) (dC (.int 0))) zB))))) (zY (dC (.bl false))) z9))))))
 (zY (dC (.bl true))))))
theorem zlV:∀ ds So Q,zdw ds So Q->ds.length=4:=by rintro ds So Q ⟨_,_,_,_,_,_,_,_,_,_,_,rfl,_⟩;rfl
theorem zmQ:BodyOk 10 zfd zdw:=by
 rintro ds S Q ⟨x,y,z,V,t,nr,s,b,h,o,ws,rfl,ok,h8,ht,hn,hb,ho,lw,fw,q⟩
 unfold zfd
 have b12:=ok.b12
 have mb:=qd hb
 have fb:=zgs (ok.nm b mb) 20
 have hsn:=zae hb
 have kn:=Lst.here hn
 walk_at "g"
 walk_at "drho"
 rw [qa]
 have bad:¬ zhP V b.1 h ws->Q (.bl false) S:=fun z=>q false ⟨fun e=>(by cases e),fun e=>absurd e z⟩
 refine r_d (fun e=>?_) (fun e=>?_)
 ·walk_at "g"
  refine fin_same (bad fun z=>?_)
  have:=zae z.1
  omega
 obtain⟨w0,hw0,aw0⟩:=zdz (bs:=ws) (k:=0) (by decide) (by omega)
 have as':atD ((V.bs.map (·.1)).map D.str) (s:Int)=some (.str b.1):=za5 (by rw [qg,qg,hb];rfl)
 walk_at "g"
 refine zpk (b:=(b.1,h,h)) (fw w0 (qd hw0)) fb ?_
 walk_at "g"
 refine zfF (fun e1=>?_) (fun e1=>?_)
 ·walk_at "g"
  refine fin_same (bad fun z=>e1 ?_)
  exact Option.some.inj (hw0.symm.trans z.1)
 walk_at "g"
 rw [qa]
 refine⟨_,_,rfl,?_⟩
 refine zaM (fun i Z S'=>S'=S/\(∀ (k:Nat) a c,k<i->ws[k]?=some a->ws[k+1]?=some c->zgF V a c)/\∃ w7 w8 w9:Option D,Z=[some (.tup [vlD x y z V,t,.ref nr]),some (.int (s:Nat)),some (.int h),some o,some (vlD x y z V),some t,some (.ref nr),w7,w8,w9]) ⟨rfl,fun k a c hk=>by omega,_,_,_,rfl⟩ (fun _ _ _ _=>True.intro) ?_ ?_
 ·rintro i d Z S' hd ⟨rfl,hi,w7,w8,w9,rfl⟩
  obtain⟨li,rfl⟩:=zbq hd
  obtain⟨a,ha,aa⟩:=zdz (bs:=ws) (k:=1+(i:Int)-1) (by omega) (by omega)
  obtain⟨c,hc,ac⟩:=zdz (bs:=ws) (k:=1+(i:Int)) (by omega) (by omega)
  rw [show (1+(i:Int)-1).toNat=i by omega] at ha
  rw [show (1+(i:Int)).toNat=i+1 by omega] at hc
  have fa:=fw a (qd ha)
  have fc:=fw c (qd hc)
  have hnm:∃ j,zdf V j a.1:=by
   cases i with
   | zero =>
    have e2:w0=a:=Option.some.inj (hw0.symm.trans ha)
    subst e2
    exact⟨s,b,hb,by rw [e1]⟩
   | succ i =>
    have lj:i<ws.length:=by have:=zae ha;omega
    obtain⟨_,_,_,_,j,_,hj,_⟩:=hi i _ a (by omega) (qb lj) ha
    exact⟨j,hj⟩
  obtain⟨j,hj⟩:=hnm
  have bad2:¬ zgF V a c->Q (.bl false) S':=fun z=>bad fun w=>z (w.2 i a c ha hc)
  walk_at "g"
  refine zhB (.inr kn) fc ok.flN ?_
  walk_at "g"
  refine zfF (fun hx=>?_) (fun hx=>?_)
  ·walk_at "g"
   exact fin_same (bad2 fun⟨_,_,_,_,j,_,hj,_⟩=>hx hj.mem)
  walk_at "g"
  refine zjQ fc fa ?_
  walk_at "g"
  refine r_d (fun g1=>?_) (fun g1=>?_)
  ·walk_at "g"
   exact fin_same (bad2 fun z=>z.1 g1)
  walk_at "g"
  refine r_d (fun g2=>?_) (fun g2=>?_)
  ·walk_at "g"
   exact fin_same (bad2 fun z=>by have:=z.2.1;omega)
  walk_at "g"
  refine zfF (fun g3=>?_) (fun g3=>?_)
  ·walk_at "g"
   exact fin_same (bad2 fun z=>g3 z.2.2.1)
  obtain⟨l,hlm⟩:=znW hx
  have lj:j<V.bs.length:=by obtain⟨_,e3,_⟩:=id hj;exact zae e3
  have ll:l<V.bs.length:=by obtain⟨_,e3,_⟩:=id hlm;exact zae e3
  obtain⟨rows,cells,rr,cc,t1,t2,t3,t4,t5⟩:=ht.get lj ll
  walk_at "g"
  refine zmh ok hj hn ?_
  walk_at "g"
  refine zmh ok hlm hn ?_
  walk_at "g"
  refine .inl ⟨_,⟨_,.inr t5,rfl,by rw [List.all_map,List.all_eq_true];intro _ _;rfl,rfl⟩,?_⟩
  have eany:((zao V j l).map D.int).any (fun z=>eqv z (.int c.2.1))=decide (c.2.1∈zao V j l):=by
   rw [List.any_map,Bool.eq_iff_iff,List.any_eq_true,decide_eq_true_eq]
   constructor
   ·rintro⟨u,hu,e2⟩
    have:u=c.2.1:=of_decide_eq_true e2
    rw [<- this];exact hu
   ·intro hu;exact⟨_,hu,decide_eq_true rfl⟩
  rw [eany]
  walk_at "g"
  have iff:zgF V a c↔c.2.1∈zao V j l:=by
   constructor
   ·rintro⟨_,_,_,i',j',hi',hj',z⟩
    rw [zdf.uniq ok hj hi',zdf.uniq ok hlm hj'];exact z
   ·intro z;exact⟨g1,by omega,g3,j,l,hj,hlm,z⟩
  refine zfF (fun g4=>?_) (fun g4=>?_)
  ·walk_at "g"
   exact fin_same (bad2 fun z=>g4 (iff.mp z))
  ·walk_at "g"
   refine⟨rfl,fun k a' c' hk ha' hc'=>?_,_,_,_,rfl⟩
   rcases Nat.lt_or_ge k i with g | g
   ·exact hi k a' c' g ha' hc'
   ·have e2:k=i:=by omega
    subst e2
    rw [ha] at ha';rw [hc] at hc';cases ha';cases hc'
    exact iff.mpr g4
 ·rintro Z S' ⟨rfl,hi,w7,w8,w9,rfl⟩
  rw [zaE] at hi
  walk_at "g"
  exact fin_same (q true ⟨fun _=>⟨by rw [<- e1];exact hw0,fun k a c ha hc=>hi k a c (by have:=zae hc;omega) ha hc⟩,fun _=>rfl⟩)
def zle:DS :=
    (zG (zM (dCall zdn (zm (zf 0) (zm (dC (.int 4)) (zm (dC (.int 6)) (zm (dC (.int 16)) zB))))) (zE 1))
 (zG (zM (dCall zcu (zm (zf 1) zB)) (zE 2))
 (zG (zM (dCall zdk (zm (zf 1) zB)) (zE 3))
 (zG (zM (dLC 1 [] (zaY (dOp oIx (zf 1) (dC (.int 1)))) (zE 0) zbz (dOp oIx (zf 0) (dC (.int 0)))) (zE 4))
 (zG (zM (dTup (zm (zf 1) (zm (zf 3) (zm (zf 4) zB)))) (zE 5))
 (zG (zbu (zcJ (zm (dB zaH (zm (zf 4) zB)) zB)) (zE 6) (zG (zM (dOp zad (dOp oIx (zf 1) (dC (.int 4))) (dCall zP (zm (dCall zcV (zm (zf 0) (zm (zf 6) zB))) (zm (dC (.int 35)) (zm (dOp zad (dOp zah (dOp oIx (zf 1) (dC (.int 5))) (dOp oIx (zf 1) (dC (.int 4)))) (dC (.int 1))) zB))))) (zE 7))
 (zG (zM (dCall zdo (zm (zf 5) (zm (zf 6) (zm (zf 7) (zm (dSl zcX (zf 0) none (some (dC (.int 7)))) zB))))) (zE 8))
 (zG (sIf (dT (dOp zfH (dCall zce (zm (zf 2) (zm (dOp oIx (zf 4) (zf 6)) (zm (zf 7) (zm (dB zeA (zm (zf 8) zB)) zB))))) (dC (.bl true)))) (zY (dC (.bl false))) z9)
 (zbu (zaY (dOp zad (dSl zcX (zf 0) none (some (dC (.int 6)))) (zba (zm (dC (.int 0)) (zm (dC (.int 5)) (zm (dC (.int 9)) zB)))))) (zE 9) (zG (zM (dCall zdv (zm (zf 8) (zm (zf 4) (zm (zf 9) zB)))) (zE 10))
 (zG (zM (dB zeA (zm (zf 10) zB)) (zE 11))
 (zG (zM (dCall zce (zm (zf 2) (zm (dOp oIx (zf 4) (zf 6)) (zm (zf 7) (zm (zf 11) zB))))) (zE 12))
 (zG (sIf (dOr (zd8 (dT (dB zg7 (zm (zf 12) (zm (dC (.ty "bool")) zB))))) (dT (dOp oNe (zf 11) (zf 10)))) (zY (dC (.bl false))) z9)
 (sIf (dT (dOp oNe (zf 12) (dCall zdw (zm (zf 5) (zm (zf 6) (zm (zf 7) (zm (zf 10) zB))))))) (zY (dC (.bl false))) z9))))))))))
 (zY (dC (.bl true)))))))))
theorem zuB:BodyOk 13 zle zfz:=by
 rintro ds S Q ⟨ns,rfl,⟨_,hg⟩,hl,q⟩
 unfold zle
 walk_at "g"
 refine⟨ns,4,6,16,rfl,hl,hg,by decide,by decide,by decide,by decide,by decide,by decide,fun T x y z V w hs=>?_⟩
 generalize S++T=S1 at hs
 have ok:=w.ok
 have b1:=ok.b1
 have b12:=ok.b12
 have hr:=w.hr
 have hh:=ok.hh
 walk_at "g"
 refine⟨x,y,z,V,rfl,hs,ok,fun T v hv=>?_⟩
 have hs2:VlS (S1++T) x y z V:=hs.old
 generalize S1++T=S2 at hv hs2
 walk_at "g"
 refine⟨x,y,z,V,rfl,hs2,ok,by omega,fun T t ht=>?_⟩
 have hs3:VlS (S2++T) x y z V:=hs2.old
 have hv3:VAt (S2++T) v V:=hv.old
 generalize S2++T=S3 at ht hs3 hv3
 clear hs hs2 hv w
 obtain⟨hx,hy,hz⟩:=id hs3
 walk_at "g"
 refine za3 (fun _=>true) (zmK fun b=>.str b.1) hy (by rw [qa];unfold big;omega) (fun i d ys hd hw=>?_) ?_
 ·obtain⟨b,_,rfl⟩:=zhN hd
  walk_at "g"
  exact zbL hd hw rfl rfl
 rw [filter_true,zgD,show V.bs.map (fun b=>D.str b.1)=(V.bs.map (·.1)).map D.str by rw [List.map_map];rfl]
 unfold New
 obtain⟨S4,hS4⟩:∃ S4:Sto,S4=S3++[.lst ((V.bs.map (·.1)).map D.str)]:=⟨_,rfl⟩
 have hn4:S4[S3.length]?=some (.lst ((V.bs.map (·.1)).map D.str)):=hS4▸zaU
 have kn4:=Lst.here hn4
 have hv4:VAt S4 v V:=hS4▸hv3.old
 have ht4:TabAt S4 t V.bs.length (zao V):=hS4▸ht.old
 rw [<- hS4]
 generalize S3.length=nr at hn4 kn4
 clear hS4 ht hv3 hs3 hx hy hz
 walk_at "g"
 walk_at "drho"
 rw [qa,qa]
 refine⟨_,rfl,by omega,by omega,?_⟩
 have flN:=ok.flN
 have l8:∀ zz∈V.bs.map (·.1),fl 20 (.str zz)=true/\zz.length<=8:=fun zz hz=>⟨flN zz hz,by
  obtain⟨b,hb,rfl⟩:=List.mem_map.mp hz
  exact (ziy.mp (ok.nm b hb)).2.1⟩
 refine zaM (fun i Z S'=>∃ (G:Sto) (w6 w7 w8 w9 w10 w11 w12:Option D),S'=S4++G/\Z=[some (.rl (ns.map D.int)),some (vlD x y z V),some v,some t,some (.ref nr),some (.tup [vlD x y z V,t,.ref nr]),w6,w7,w8,w9,w10,w11,w12]) ⟨[],_,_,_,_,_,_,_,by simp,rfl⟩ (fun _ _ _ _=>True.intro) ?_ ?_
 ·rintro i d Z S' hd' ⟨G,w6,w7,w8,w9,w10,w11,w12,rfl,rfl⟩
  obtain⟨hi,rfl⟩:=zbq hd'
  have hin:i<V.bs.length:=by omega
  obtain⟨b,hb⟩:∃ b,V.bs[i]?=some b:=⟨_,qb hin⟩
  have ab:atD ((V.bs.map (·.1)).map D.str) (0+(i:Int))=some (.str b.1):=by
   have:=za5 (ds:=(V.bs.map (·.1)).map D.str) (i:=i) (by rw [qg,qg,hb];rfl)
   rwa [show ((i:Nat):Int)=0+(i:Int) by omega] at this
  have hn5:(S4++G)[nr]?=some (.lst ((V.bs.map (·.1)).map D.str)):=zal hn4
  have hv5:VAt (S4++G) v V:=hv4.old
  have ht5:TabAt (S4++G) t V.bs.length (zao V):=ht4.old
  have e5:∃ G',S4++G=S4++G':=⟨G,rfl⟩
  generalize S4++G=S5 at hn5 hv5 ht5 e5
  walk_at "g"
  refine⟨ns,_,rfl,hg,by omega,fun c0 _=>?_⟩
  walk_at "g"
  refine⟨c0,35,_,rfl,by decide,by decide,by omega,fun m m0 m1 _=>?_⟩
  have hin':V.h0<=V.h0+m/\V.h0+m<=V.h1:=by omega
  walk_at "g"
  generalize V.h0+m=hour at hin'
  rw [zfj]
  have lc7:(cutD ns none (some 7)).length<=7:=by have:=zid ns none (some 7);unfold slD at this;simp at this;omega
  refine⟨x,y,z,V,t,nr,i,b,hour,_,cutD ns none (some 7),(),by rw [show (0+(i:Int))=((i:Nat):Int) by omega],ok,by omega,ht5.old,zal hn5,hb,Lst.at0,lc7,fun T kw ws hW lw hnm hk lk=>?_⟩
  have kw6:Lst (S5++[Cell.lst ((cutD ns none (some 7)).map D.int)]++T) (.ref kw) (ws.map bcD):=Lst.here hk
  have hn6:(S5++[Cell.lst ((cutD ns none (some 7)).map D.int)]++T)[nr]?=some (.lst ((V.bs.map (·.1)).map D.str)):=zal (zal hn5)
  have hv6:VAt (S5++[Cell.lst ((cutD ns none (some 7)).map D.int)]++T) v V:=hv5.old.old
  have ht6:TabAt (S5++[Cell.lst ((cutD ns none (some 7)).map D.int)]++T) t V.bs.length (zao V):=ht5.old.old
  have e6:∃ G',S5++[Cell.lst ((cutD ns none (some 7)).map D.int)]++T=S4++G':=zcd (zcd e5 rfl) rfl
  generalize S5++[Cell.lst ((cutD ns none (some 7)).map D.int)]++T=S6 at kw6 hn6 hv6 ht6 e6
  clear hn5 hv5 ht5 e5 hk lk
  have kn6:=Lst.here hn6
  have lw1:1<=ws.length:=zae hW.1
  have fws:∀ w∈ws,fl 20 (.str w.1)=true:=fun w hw=>flN _ (hnm w hw)
  walk_at "g"
  refine⟨v,V,i,b,hour,_,ws,(),rfl,hv6.old,ok,hb,hin'.1,hin'.2,Lst.at0,by omega,fws,fun r hr'=>?_⟩
  have er:r=true:=hr'.mpr hW
  subst er
  walk_at "g"
  rw [zfj]
  refine zeT (xs:=(cutD ns none (some 6)).map D.int) (ys:=([0,5,9]:List Int).map D.int) (Lst.at (k:=1) rfl) (Lst.at (k:=2) rfl) (by rw [qa];have:=zid ns none (some 6);unfold slD at this;simp at this;unfold big;simp;omega) ?_
  rw [zen]
  have lcs:(cutD ns none (some 6)++[0,5,9]).length<=9:=by have:=zid ns none (some 6);unfold slD at this;simp at this;rw [qe];simp;omega
  generalize cutD ns none (some 6)++[0,5,9]=cells at lcs
  walk_at "g"
  obtain⟨S7,hS7⟩:∃ S7:Sto,S7=S6++[Cell.lst (ws.map bcD),.lst ((cutD ns none (some 6)).map D.int),.lst [.int 0,.int 5,.int 9],.lst (cells.map D.int)]:=⟨_,rfl⟩
  refine zvz (P:=fun S=>zoC _ _ _ _ _ _ S) S7 hS7.symm fun S8 e8=>?_
  subst e8
  have kc8:Lst S8 (.ref (S6.length+3)) (cells.map D.int):=hS7▸Lst.at (k:=3) rfl
  have kw8:Lst S8 (.ref kw) (ws.map bcD):=hS7▸kw6.old
  have hn8:S8[nr]?=some (.lst ((V.bs.map (·.1)).map D.str)):=hS7▸zal hn6
  have hv8:VAt S8 v V:=hS7▸hv6.old
  have ht8:TabAt S8 t V.bs.length (zao V):=hS7▸ht6.old
  have e8:∃ G',S8=S4++G':=zcd e6 hS7
  clear hS7 kw6 hn6 hv6 ht6 e6 kn6
  generalize S6.length+3=cr at kc8
  refine zaM (fun j Z S'=>∃ (G:Sto) (w9 w10 w11 w12:Option D),S'=S8++G/\Z=[some (.rl (ns.map D.int)),some (vlD x y z V),some v,some t,some (.ref nr),some (.tup [vlD x y z V,t,.ref nr]),some (.int (0+(i:Int))),some (.int hour),some (.ref kw),w9,w10,w11,w12]) ⟨[],_,_,_,_,by simp,rfl⟩ (fun j Z S' ⟨G,_,_,_,_,e,_⟩=>e▸kc8.old) ?_ ?_
  ·rintro j d Z S' hd3 ⟨G,w9,w10,w11,w12,rfl,rfl⟩
   obtain⟨c,hc,rfl⟩:=zc6 hd3
   have kn9:Lst (S8++G) (.ref nr) ((V.bs.map (·.1)).map D.str):=Lst.here (zal hn8)
   walk_at "g"
   refine⟨_,_,ws,V.bs.map (·.1),c,rfl,kw8.old,kn9,lw1,by omega,by rw [qa];omega,by rw [qa];omega,hnm,l8,fun T kb vs lv fv hkb lkb=>?_⟩
   have kb9:Lst (S8++G++T) (.ref kb) (vs.map bcD):=Lst.here hkb
   have hn9:(S8++G++T)[nr]?=some (.lst ((V.bs.map (·.1)).map D.str)):=zal (zal hn8)
   have hv9:VAt (S8++G++T) v V:=hv8.old.old
   have ht9:TabAt (S8++G++T) t V.bs.length (zao V):=ht8.old.old
   have e9:∃ G',S8++G++T=S8++G':=⟨G++T,List.append_assoc ..⟩
   generalize S8++G++T=S9 at kb9 hn9 hv9 ht9 e9
   clear hkb lkb kn9
   have kn9:=Lst.here hn9
   have kn10:Lst (S9++[.lst (vs.map bcD)]) (.ref nr) ((V.bs.map (·.1)).map D.str):=kn9.old
   walk_at "g"
   refine⟨v,V,i,b,hour,_,vs,(),rfl,hv9.old,ok,hb,hin'.1,hin'.2,Lst.at0,by omega,fv,fun r hr2=>?_⟩
   have kb10:Lst (S9++[.lst (vs.map bcD)]) (.ref kb) (vs.map bcD):=kb9.old
   have flv:(vs.map bcD).all (fl 20)=true:=by
    rw [List.all_map,List.all_eq_true];intro w hw;exact zlP (fv w hw)
   walk_at "g"
   refine zrv Lst.at0 kb10 flv ?_
   walk_at "g"
   refine⟨x,y,z,V,t,nr,i,b,hour,_,vs,by rw [show (0+(i:Int))=((i:Nat):Int) by omega],ok,by omega,ht9.old,zal hn9,hb,kb10,by omega,fv,fun r3 hr3=>?_⟩
   have er:r3=r:=by rw [Bool.eq_iff_iff,hr3,hr2]
   subst er
   refine zxh rfl ?_
   walk_at "g"
   obtain⟨G',e9⟩:=e9
   exact⟨G'++[.lst (vs.map bcD)],_,_,_,_,by rw [e9,List.append_assoc],rfl⟩
  ·rintro Z S' ⟨G,w9,w10,w11,w12,rfl,rfl⟩
   obtain⟨G',e8⟩:=e8
   exact⟨G'++G,_,_,_,_,_,_,_,by rw [e8,List.append_assoc],rfl⟩
 ·rintro Z S' ⟨G,w6,w7,w8,w9,w10,w11,w12,rfl,rfl⟩
  walk_at "g"
  exact fin_same (q _)
end Dp
namespace Law
open PySem PySem.Spec PyProof.Rows L2 My Dp
def top (i:Nat):Stmt:=PySem.Challenge.pw_beaconvale_k62_ways_looked_at.main.body.getD i (.Pass ⟨0,0,0,0⟩)
abbrev ziU:Stmt:=top 74
abbrev zhM:Stmt:=top 75
abbrev zhU:Stmt:=top 77
abbrev zeY:Stmt:=top 78
abbrev zfu:Stmt:=top 76
abbrev zf2:Stmt:=top 82
abbrev zfo:Stmt:=top 79
abbrev zeZ:Stmt:=top 80
abbrev zh5:Stmt:=top 81
abbrev zgP:Stmt:=top 83
abbrev zcl:Stmt:=top 42
abbrev zbO:Stmt:=inClass (top 43) 0
abbrev zco:Stmt:=top 56
abbrev zh8:Stmt:=top 55
abbrev zcQ:Stmt:=top 57
abbrev zmy:Stmt:=top 36
abbrev zko:Stmt:=top 44
abbrev zdI:Stmt:=top 34
abbrev zgE:Stmt:=top 35
abbrev zgb:Stmt:=top 38
abbrev zf6:Stmt:=top 45
abbrev zi1:Stmt:=top 46
abbrev zdd:Stmt:=top 58
abbrev zgL:Stmt:=top 1
abbrev zi0:Stmt:=top 28
abbrev zdi:Stmt:=top 59
abbrev zcP:Stmt:=top 60
abbrev zbN:Stmt:=inClass (top 61) 0
abbrev zfG:Stmt:=top 84
abbrev zf8:Stmt:=top 85
abbrev zgZ:Stmt:=top 86
abbrev zgC:Stmt:=top 87
abbrev zfl:Stmt:=top 88
abbrev zgA:Stmt:=top 89
abbrev zgW:Stmt:=top 90
abbrev zgY:Stmt:=top 92
abbrev zhd:Stmt:=top 62
abbrev zcU:Stmt:=top 64
abbrev zdL:Stmt:=top 65
abbrev zhG:Stmt:=top 63
abbrev zcc:Stmt:=top 47
abbrev zdh:Stmt:=top 48
abbrev zhz:Stmt:=top 37
abbrev zi5:Stmt:=top 49
abbrev zdK:Stmt:=top 66
abbrev zeg:Stmt:=top 67
abbrev zks:Stmt:=top 29
abbrev zhL:Stmt:=top 30
abbrev zmL:Stmt:=top 3
abbrev zj1:Stmt:=top 31
abbrev zf7:Stmt:=top 32
abbrev zmw:Stmt:=top 5
abbrev zly:Stmt:=top 4
abbrev zhK:Stmt:=top 6
abbrev zkf:Stmt:=top 68
abbrev zj5:Stmt:=top 7
abbrev zfI:Stmt:=top 71
abbrev zgc:Stmt:=top 72
abbrev zgM:Stmt:=top 93
abbrev zgT:Stmt:=top 91
abbrev ze1:Stmt:=top 94
section
variable {P:Program}{w:World}{K:W.Frag}{mg:Str->Option Value}{base:Heap}{f:Addr}{fd:FuncData}
variable (xq:mg "len"=none)
theorem zpm:zQ ["script","k"] ["script","k"] (zJ ziU):=zX
include xq in
theorem zqk (F:Fun K "_law_at" "_law_at" ziU f fd):zab P w K mg base CX0 1 f fd ["script","k"] (upF K Dp.zcV):=by
  refine zV (b:=Dp.zhe) F zpm Dp.zor Dp.zpf (fun cdv A outer s H E hr=>?_)
  unfold Dp.zhe
  exact (zu (zT (zN zaL (zj 1) (zak zap xq boot_len (zc (zj 0) zq))) (zA (zL (zy (zj 0) (zj 1)))) zO)
 (zA (zL zp)))
variable (xbr:Got P w K mg base 1 "_law_at" ["script","k"] (upF K Dp.zcV))
theorem zek:zQ ["cell","k","size","prime","base","mixed"] ["cell","k","size"] (zJ zhM):=zX
theorem zoA (F:Fun K "_law_mix" "_law_mix" zhM f fd):zab P w K mg base CX0 1 f fd ["cell","k","size"] (upF K Dp.zP):=by
  refine zV (b:=Dp.zfK) F zek Dp.zm7 Dp.zoz (fun cdv A outer s H E hr=>?_)
  unfold Dp.zfK
  exact (zu (zF (i:=3) zek.nd zp)
 (zu (zF (i:=4) zek.nd (zaj (zR (zR (za6 (zj 0) (zbr 1000000000000000000000000000000000000000000000000000000000000 (by decide +kernel) ⟨by decide,by decide,by decide⟩)) (zaj zp (zj 1))) zp) zp))
 (zu (zF (i:=5) zek.nd (za6 (zaj (zj 4) (zj 4)) (zj 3)))
 (zu (zF (i:=5) zek.nd (za6 (zaj (zR (zj 5) (zaj zp (zR (zj 1) zp))) (zj 5)) (zj 3)))
 (zA (zL (za6 (zdj (zj 5) zp) (zj 2))))))))
variable (xg:Got P w K mg base 1 "_law_mix" ["cell","k","size"] (upF K Dp.zP))
theorem zon:zQ ["cell","k","near","far"] ["cell","k","near","far"] (zJ zhU):=zX
include xg in
theorem zoN (F:Fun K "_law_far" "_law_far" zhU f fd):zab P w K mg base CX0 2 f fd ["cell","k","near","far"] (upF K Dp.zc9):=by
  refine zV (b:=Dp.zfL) F zon Dp.znj Dp.zoY (fun cdv A outer s H E hr=>?_)
  unfold Dp.zfL
  exact (zu (zT (zaS (zj 3)) (zA (zL (zW (za6 (zaj (zaj (zj 0) (zbr 1422907482840247632891030073750636927810831 (by decide +kernel) ⟨by decide,by decide,by decide⟩)) (zR (zj 1) zp)) (zbr 100000000000000000000000000000000000000000000000000 (by decide +kernel) ⟨by decide,by decide,by decide⟩)) (zaj zp (zbr 10000000000000000000000000000000000000000000000000 (by decide +kernel) ⟨by decide,by decide,by decide⟩))))) zO)
 (zA (zL (zH xg hr (zc (zj 0) (zc (zj 1) (zc (zj 2) zq)))))))
variable (xdy:Got P w K mg base 2 "_law_far" ["cell","k","near","far"] (upF K Dp.zc9))
variable (xr:mg "range"=none)
theorem zaP:zQ ["cell","count","far","corners","place","k","height","wide"] ["cell","count","far"] (zJ zeY):=zX
include xg xdy xr in
theorem zj7 (F:Fun K "_law_corners" "_law_corners" zeY f fd):zab P w K mg base CX0 3 f fd ["cell","count","far"] (upF K Dp.zcf):=by
  refine zV (b:=Dp.zdB) F zaP Dp.zjA Dp.zj0 (fun cdv A outer s H E hr=>?_)
  unfold Dp.zdB
  exact (zu (zF (i:=3) zaP.nd (zaC zq))
 (zu (zF (i:=4) zaP.nd (zW (zH xdy hr (zc (zj 0) (zc zp (zc zp (zc (zj 2) zq))))) zp))
 (zu (zaz (zcA xr (zc (zj 1) zq)) (zaa (i:=5) zaP.nd) (zu (zF (i:=6) zaP.nd (zH xg hr (zc (zj 0) (zc (zR (zaj zp (zj 5)) zp) (zc zp zq)))))
 (zu (zfU (zT (zaQ (zc7 (zaS (zj 2)) (zcr (zN (zb0 hr) (za6 (zj 5) zp) zp)))) (zA (zF (i:=6) zaP.nd (zH xdy hr (zc (zj 0) (zc (zj 5) (zc zp (zc (zj 2) zq))))))) zO))
 (zu (zas (zde PySem.F.slot_list_append PySem.F.type_list_append za9 (zj 3) (zc (zZ (zc (zj 4) (zc (zj 6) zq))) zq)))
 (zu (zF (i:=7) zaP.nd (zR zp (zH xg hr (zc (zj 0) (zc (zR (zaj zp (zj 5)) zp) (zc zp zq))))))
 (zu (zfU (zT (zaQ (zc7 (zaS (zj 2)) (zcr (zN (zb0 hr) (za6 (zj 5) zp) zp)))) (zA (zF (i:=7) zaP.nd (zR zp (za6 (zaj (zaj (zj 0) (zbr 7928331467292760530673834318599741 (by decide +kernel) ⟨by decide,by decide,by decide⟩)) (zR (zj 5) zp)) (zbr 1000000000000000000000000000000000000000000000000 (by decide +kernel) ⟨by decide,by decide,by decide⟩))))) zO))
 (zA (zF (i:=4) zaP.nd (zR (zj 4) (zj 7))))))))))
 (zA (zL (zj 3))))))
variable (xb6:Got P w K mg base 3 "_law_corners" ["cell","count","far"] (upF K Dp.zcf))
theorem zdy:zQ ["script","first","most","numbers","k","kept"] ["script","first","most"] (zJ zfu):=zX
include xq xr in
theorem zkS (F:Fun K "_law_folded" "_law_folded" zfu f fd):zab P w K mg base CX0 1 f fd ["script","first","most"] (upF K Dp.zcv):=by
  refine zV (b:=Dp.zee) F zdy Dp.zkh Dp.zk3 (fun cdv A outer s H E hr=>?_)
  unfold Dp.zee
  exact (zu (zF (i:=3) zdy.nd (zaC zq))
 (zu (zaz (zie xr (zc (zj 1) (zc (zak zap xq boot_len (zc (zj 0) zq)) zq))) (zaa (i:=4) zdy.nd) (zA (zT (zN zaL (zak zap xq boot_len (zc (zj 3) zq)) (zj 2)) (zA (zas (zde PySem.F.slot_list_append PySem.F.type_list_append za9 (zj 3) (zc (za6 (zy (zj 0) (zj 4)) (zbr 1000000000000000000000000000000000000000000000000000000000000 (by decide +kernel) ⟨by decide,by decide,by decide⟩)) zq)))) (zu (zF (i:=5) zdy.nd (zR (zaj (zy (zj 3) (za6 (zj 4) (zj 2))) zp) (za6 (zy (zj 0) (zj 4)) (zbr 1000000000000000000000000000000000000000000000000000000000000 (by decide +kernel) ⟨by decide,by decide,by decide⟩))))
 (zA (zdV (za6 (zj 5) (zbr 1000000000000000000000000000000000000000000000000000000000000 (by decide +kernel) ⟨by decide,by decide,by decide⟩)) (zia (zj 3) (za6 (zj 4) (zj 2)))))))))
 (zA (zL (zj 3)))))
variable (xcj:Got P w K mg base 1 "_law_folded" ["script","first","most"] (upF K Dp.zcv))
theorem zec:zQ ["cell","count","letters","head","tail"] ["cell","count"] (zJ zf2):=zX
include xg xr in
theorem zmv (F:Fun K "_law_names" "_law_names" zf2 f fd):zab P w K mg base CX0 2 f fd ["cell","count"] (upF K Dp.zcS):=by
  refine zV (b:=Dp.zeE) F zec Dp.zk2 Dp.zlC (fun cdv A outer s H E hr=>?_)
  unfold Dp.zeE
  exact (zu (zF (i:=2) zec.nd zd2)
 (zu (zF (i:=3) zec.nd (zaj (zy (zj 2) (zH xg hr (zc (zj 0) (zc zp (zc zp zq))))) (zH xg hr (zc (zj 0) (zc zp (zc zp zq))))))
 (zu (zF (i:=4) zec.nd (zaj (zy (zj 2) (zH xg hr (zc (zj 0) (zc zp (zc zp zq))))) (zH xg hr (zc (zj 0) (zc zp (zc zp zq))))))
 (zA (zL (zbZ (own:=["k"]) (free:=["head","letters","cell","tail"]) (fv:=[3,2,0,4]) ⟨rfl,rfl,rfl,rfl,True.intro⟩ ⟨rfl,rfl,rfl,rfl,rfl,rfl,rfl,rfl,rfl,rfl,rfl,rfl,True.intro⟩ (zcA xr (zc (zj 1) zq)) ⟨(zag 0 (by decide)),fun _ _ _ _ _=>(zaq (i:=0) (show List.Nodup (["k","head","letters","cell","tail"]:List Str) by decide +kernel) rfl (Or.inl rfl) (Or.inr rfl))⟩ (fun _ _ _ _ _=>za1) (fun _ _ _ _ _=>(zR (zR (zj 1) (zy (zj 2) (za6 (zR (zH xg hr (zc (zj 3) (zc zp (zc zp zq)))) (zaj zp (zj 0))) zp))) (zj 4)))))))))
variable (xdn:Got P w K mg base 2 "_law_names" ["cell","count"] (upF K Dp.zcS))
theorem zdC:zQ ["corners","place","k","one","other","fall"] ["corners","place"] (zJ zfo):=zX
include xq xr in
theorem zkZ (F:Fun K "_law_height" "_law_height" zfo f fd):zab P w K mg base CX0 1 f fd ["corners","place"] (upF K Dp.zcz):=by
  refine zV (b:=Dp.zd7) F zdC Dp.zku Dp.zlc (fun cdv A outer s H E hr=>?_)
  unfold Dp.zd7
  exact (zu (zaz (zcA xr (zc (zW (zak zap xq boot_len (zc (zj 0) zq)) zp) zq)) (zaa (i:=2) zdC.nd) (zu (znA (i:=3) (j:=4) rfl zdC.nd rfl rfl (by decide) rfl rfl (zc (zy (zj 0) (zj 2)) (zc (zy (zj 0) (zR (zj 2) zp)) zq)) rfl)
 (zA (zT (zaQ (zc7 (zN zeC (zy (zj 3) zp) (zj 1)) (zcr (zN zeC (zj 1) (zy (zj 4) zp))))) (zu (zF (i:=5) zdC.nd (zaj (zW (zy (zj 3) zp) (zy (zj 4) zp)) (zW (zj 1) (zy (zj 3) zp))))
 (zA (zL (zW (zy (zj 3) zp) (zdj (zj 5) (zW (zy (zj 4) zp) (zy (zj 3) zp))))))) zO))))
 (zA (zL zem)))
variable (xcb:Got P w K mg base 1 "_law_height" ["corners","place"] (upF K Dp.zcz))
theorem zaF:zQ ["numbers","corners","names","beacons","wide","k","cell","place","tower"] ["numbers","corners","names"] (zJ zeZ):=zX
include xq xg xr xcb in
theorem zkj (F:Fun K "_law_beacons" "_law_beacons" zeZ f fd):zab P w K mg base CX0 2 f fd ["numbers","corners","names"] (upF K Dp.zcb):=by
  refine zV (b:=Dp.zdA) F zaF Dp.zjX Dp.zkc (fun cdv A outer s H E hr=>?_)
  unfold Dp.zdA
  exact (zu (zF (i:=3) zaF.nd (zaC zq))
 (zu (zF (i:=4) zaF.nd (zR (zW (zy (zy (zj 1) (zby zp)) zp) (zy (zy (zj 1) zp) zp)) zp))
 (zu (zaz (zcA xr (zc (zak zap xq boot_len (zc (zj 2) zq)) zq)) (zaa (i:=5) zaF.nd) (zu (zF (i:=6) zaF.nd (zy (zj 0) (zj 5)))
 (zu (zF (i:=7) zaF.nd (zR (zy (zy (zj 1) zp) zp) (zH xg hr (zc (zj 6) (zc zp (zc (zj 4) zq))))))
 (zu (zfU (zT (zN zb1 (zj 4) (zbr 100000000000000000000 (by decide +kernel) ⟨by decide,by decide,by decide⟩)) (zA (zF (i:=7) zaF.nd (zR (zy (zy (zj 1) zp) zp) (za6 (zj 6) (zj 4))))) zO))
 (zu (zfU (zT (zN (zb0 hr) (zH xg hr (zc (zj 6) (zc zp (zc zp zq)))) zp) (zA (zF (i:=7) zaF.nd (zy (zy (zj 1) (zH xg hr (zc (zj 6) (zc zp (zc (zak zap xq boot_len (zc (zj 1) zq)) zq))))) zp))) zO))
 (zu (zF (i:=8) zaF.nd (zy (zaC (zc zp (zc (zH xg hr (zc (zj 6) (zc zp (zc zp zq)))) (zc (zH xg hr (zc (zj 6) (zc zp (zc zp zq)))) (zc (za6 (zj 6) (zbr 10000000000000000000000000000000000000000 (by decide +kernel) ⟨by decide,by decide,by decide⟩)) zq))))) (zH xg hr (zc (zj 6) (zc zp (zc zp zq))))))
 (zu (zfU (zT (zN zaL (zj 4) (zbr 100000000000000000000 (by decide +kernel) ⟨by decide,by decide,by decide⟩)) (zA (zF (i:=8) zaF.nd (za6 (zj 8) zp))) zO))
 (zA (zas (zde PySem.F.slot_list_append PySem.F.type_list_append za9 (zj 3) (zc (zZ (zc (zy (zj 2) (zj 5)) (zc (zj 7) (zc (zR (zH xcb hr (zc (zj 1) (zc (zj 7) zq))) (zj 8)) zq)))) zq)))))))))))
 (zA (zL (zj 3))))))
variable (xb5:Got P w K mg base 2 "_law_beacons" ["numbers","corners","names"] (upF K Dp.zcb))
variable (xe6:mg "abs"=none)
theorem zbg:zQ ["cell","corners","beacons","first","last","one","other","left","low","begin","end","wide","drift","rise"] ["cell","corners","beacons","first","last"] (zJ zh5):=zX
include xq xg xe6 in
theorem zn1 (F:Fun K "_law_fog" "_law_fog" zh5 f fd):zab P w K mg base CX0 2 f fd ["cell","corners","beacons","first","last"] (upF K Dp.zd3):=by
  refine zV (b:=Dp.zfR) F zbg Dp.zmW Dp.zof (fun cdv A outer s H E hr=>?_)
  unfold Dp.zfR
  exact (zu (zF (i:=5) zbg.nd (zy (zj 2) (zH xg hr (zc (zj 0) (zc zp (zc (zak zap xq boot_len (zc (zj 2) zq)) zq))))))
 (zu (zF (i:=6) zbg.nd (zy (zj 2) (zH xg hr (zc (zj 0) (zc zp (zc (zak zap xq boot_len (zc (zj 2) zq)) zq))))))
 (zu (zF (i:=7) zbg.nd (zW (zR (zdj (zR (zy (zj 5) zp) (zy (zj 6) zp)) zp) (zH xg hr (zc (zj 0) (zc zp (zc zp zq))))) zp))
 (zu (zF (i:=8) zbg.nd (zW (zR (zdj (zR (zy (zj 5) zp) (zy (zj 6) zp)) zp) (zH xg hr (zc (zj 0) (zc zp (zc zp zq))))) zp))
 (zu (zF (i:=9) zbg.nd (zW (zR (zj 3) (zH xg hr (zc (zj 0) (zc zp (zc (zR (zW (zj 4) (zj 3)) zp) zq))))) zp))
 (zu (zF (i:=10) zbg.nd (zR (zj 9) (zy (zaC (zc (zH xg hr (zc (zj 0) (zc zp (zc zp zq)))) (zc (zH xg hr (zc (zj 0) (zc zp (zc zp zq)))) (zc zp zq)))) (zH xg hr (zc (zj 0) (zc zp (zc zp zq)))))))
 (zu (zF (i:=11) zbg.nd (zy (zaC (zc (zH xg hr (zc (zj 0) (zc zp (zc zp zq)))) (zc (zH xg hr (zc (zj 0) (zc zp (zc zp zq)))) (zc (zak zlN xe6 boot_abs (zc (zW (zy (zj 5) zp) (zy (zj 6) zp)) zq)) zq)))) (zH xg hr (zc (zj 0) (zc zp (zc zp zq))))))
 (zu (zF (i:=12) zbg.nd (zy (zaC (zc zp (zc (zW (zH xg hr (zc (zj 0) (zc zp (zc zp zq)))) zp) (zc (zdj (zak zlN xe6 boot_abs (zc (zW (zy (zj 5) zp) (zy (zj 6) zp)) zq)) zp) zq)))) (zH xg hr (zc (zj 0) (zc zp (zc zp zq))))))
 (zu (zF (i:=13) zbg.nd (zy (zaC (zc zp (zc zp (zc (zW (zH xg hr (zc (zj 0) (zc zp (zc zp zq)))) zp) zq)))) (zH xg hr (zc (zj 0) (zc zp (zc zp zq))))))
 (zA (zL (zZ (zc (zj 7) (zc (zR (zj 7) (zj 11)) (zc (zj 8) (zc (zR (zj 8) (zH xg hr (zc (zj 0) (zc zp (zc zp zq))))) (zc (zj 9) (zc (zj 10) (zc (zj 12) (zc (zj 13) zq))))))))))))))))))))
variable (xew:Got P w K mg base 2 "_law_fog" ["cell","corners","beacons","first","last"] (upF K Dp.zd3))
theorem zaT:zQ ["script","most","fogs","hours","head","far","count","corners","numbers","beacons","first","last","mists","haze"] ["script","most","fogs","hours"] (zJ zgP):=zX
include xq xbr xg xr xb6 xcj xdn xb5 xew in
theorem zne (F:Fun K "_law_vale" "_law_vale" zgP f fd):zab P w K mg base CX0 4 f fd ["script","most","fogs","hours"] (upF K Dp.zdn):=by
  refine zV (b:=Dp.ze5) F zaT Dp.zlR Dp.znd (fun cdv A outer s H E hr=>?_)
  unfold Dp.ze5
  exact (zu (zF (i:=4) zaT.nd (zH xbr hr (zc (zj 0) (zc zp zq))))
 (zu (zF (i:=5) zaT.nd (zeU (zb0 hr) (zH xg hr (zc (zj 4) (zc zp (zc zp zq)))) zp))
 (zu (zF (i:=6) zaT.nd (zR zp (zH xg hr (zc (zj 4) (zc zp (zc (zj 1) zq))))))
 (zu (zF (i:=7) zaT.nd (zH xb6 hr (zc (zH xbr hr (zc (zj 0) (zc zp zq))) (zc (zR zp (zH xg hr (zc (zj 4) (zc zp (zc zp zq))))) (zc (zj 5) zq)))))
 (zu (zF (i:=8) zaT.nd (zR (zH xcj hr (zc (zj 0) (zc zp (zc (zR (zj 6) (zj 2)) zq)))) (zbZ (own:=["k"]) (free:=[]) (fv:=[]) True.intro True.intro (zcA xr (zc (zj 6) zq)) ⟨(zag 0 (by decide)),fun _ _ _ _ _=>(zaq (i:=0) (show List.Nodup (["k"]:List Str) by decide +kernel) rfl (Or.inl rfl) (Or.inr rfl))⟩ (fun _ _ _ _ _=>za1) (fun _ _ _ _ _=>zp))))
 (zu (zF (i:=9) zaT.nd (zH xb5 hr (zc (zj 8) (zc (zj 7) (zc (zH xdn hr (zc (zj 4) (zc (zj 6) zq))) zq)))))
 (zu (zF (i:=10) zaT.nd (zy (zaC (zc (zW (zH xg hr (zc (zj 4) (zc zp (zc zp zq)))) zp) (zc (za6 (zj 4) (zbr 100000000000000000000000000000000000000000000000000 (by decide +kernel) ⟨by decide,by decide,by decide⟩)) zq))) (zdj (zH xg hr (zc (zj 4) (zc zp (zc zp zq)))) zp)))
 (zu (zF (i:=11) zaT.nd (zR (zj 10) (zH xg hr (zc (zj 4) (zc zp (zc (zj 3) zq))))))
 (zu (zfr (i:=12) zaT.nd (own:=["cell"]) (free:=["corners","beacons","first","last"]) (fv:=[7,9,10,11]) ⟨rfl,rfl,rfl,rfl,True.intro⟩ ⟨rfl,rfl,rfl,rfl,rfl,rfl,rfl,rfl,rfl,rfl,rfl,rfl,True.intro⟩ (zaw (zcK (zj 8) (zbe (zj 6)) (zbe (zW (zak zap xq boot_len (zc (zj 8) zq)) (zj 6))))) ⟨(zag 0 (by decide)),fun _ _ _ _ _=>(zaq (i:=0) (show List.Nodup (["cell","corners","beacons","first","last"]:List Str) by decide +kernel) rfl (Or.inl rfl) (Or.inr rfl))⟩ (fun _ _ _ _ _=>za1) (fun _ _ _ _ _=>(zH xew hr (zc (zj 0) (zc (zj 1) (zc (zj 2) (zc (zj 3) (zc (zj 4) zq))))))))
 (zu (zF (i:=13) zaT.nd (zy (zaC (zc zem (zc (zH xg hr (zc (zj 4) (zc zp (zc zp zq)))) (zc (zbr 100000000000000000000000000000000000000000000000000000000000 (by decide +kernel) ⟨by decide,by decide,by decide⟩) zq)))) (zH xg hr (zc (zj 4) (zc zp (zc zp zq))))))
 (zA (zL (zZ (zc (zj 7) (zc (zj 9) (zc (zj 12) (zc (zj 13) (zc (zj 10) (zc (zj 11) (zc (zH xg hr (zc (zj 4) (zc zp (zc zp zq)))) zq))))))))))))))))))))
variable (xec:Got P w K mg base 4 "_law_vale" ["script","most","fogs","hours"] (upF K Dp.zdn))
variable (xbo:∃ t,mg "LEAST_CORNERS"=some (.int 2 t))
variable (xbt:∃ t,mg "MOST_CORNERS"=some (.int 40 t))
theorem zdU:zQ ["corners","k"] ["corners"] (zJ zcl):=zX
include xq xr xbo xbt in
theorem zgn (F:Fun K "refuse_bad_corners" "refuse_bad_corners" zcl f fd):zab P w K mg base CX0 1 f fd ["corners"] (upF K Dp.za0):=by
  refine zV (b:=Dp.zbA) F zdU Dp.zf1 Dp.zgm (fun cdv A outer s H E hr=>?_)
  unfold Dp.zbA
  exact (zu (zT (zaQ (zbX (zN zaL (zak zap xq boot_len (zc (zj 0) zq)) (zai rfl xbo)) (zbH (zN zb1 (zak zap xq boot_len (zc (zj 0) zq)) (zai rfl xbt))))) (zA zbp) zO)
 (zA (zaz (zie xr (zc zp (zc (zak zap xq boot_len (zc (zj 0) zq)) zq))) (zaa (i:=1) zdU.nd) (zA (zT (zN zeC (zy (zy (zj 0) (zj 1)) zp) (zy (zy (zj 0) (zW (zj 1) zp)) zp)) (zA zbp) zO)))))
variable (xag:Got P w K mg base 1 "refuse_bad_corners" ["corners"] (upF K Dp.za0))
variable (xaw:∀ C,W.nsIn K mainGlobals "Ground"=some (some (.ref C))->zaB K C "corners")
variable (xae:mg "list"=none)
theorem zkw:zQ ["self","corners"] ["self","corners"] (zJ zbO):=zX
include xag xaw xae in
theorem zj3 (F:Fun K "__init__" "Ground.__init__" zbO f fd):zab P w K mg base CX0 2 f fd ["self","corners"] (upF K Dp.zc5):=by
  refine zV (b:=Dp.zbU) F zkw Dp.zjP Dp.zkp (fun cdv A outer s H E hr=>?_)
  unfold Dp.zbU
  exact (zu (zas (zH xag hr (zc (zj 1) zq)))
 (zA (zdW xaw (zj 0) (zeD zdS xae boot_list (zc (zj 1) zq)))))
variable (xb8:zkq P w K mg base 2 "Ground" (upF K Dp.zfM))
variable (xbu:∃ t,mg "MOST_BEACONS"=some (.int 12 t))
variable (xdj:∃ t,mg "MOST_FOGS"=some (.int 12 t))
theorem zgq:zQ ["beacons","fogs"] ["beacons","fogs"] (zJ zco):=zX
include xq xbu xdj in
theorem zgw (F:Fun K "refuse_bad_numbers" "refuse_bad_numbers" zco f fd):zab P w K mg base CX0 1 f fd ["beacons","fogs"] (upF K Dp.za2):=by
  refine zV (b:=Dp.zbC) F zgq Dp.zgd Dp.zgu (fun cdv A outer s H E hr=>?_)
  unfold Dp.zbC
  exact (zu (zT (zaQ (zbX (zN zaL (zak zap xq boot_len (zc (zj 0) zq)) zp) (zbH (zN zb1 (zak zap xq boot_len (zc (zj 0) zq)) (zai rfl xbu))))) (zA zbp) zO)
 (zA (zT (zN zb1 (zak zap xq boot_len (zc (zj 1) zq)) (zai rfl xdj)) (zA zbp) zO)))
variable (xai:Got P w K mg base 1 "refuse_bad_numbers" ["beacons","fogs"] (upF K Dp.za2))
variable (xbs:∃ t,mg "MOST_LETTERS"=some (.int 8 t))
variable (xeu:∃ t,mg "LETTERS"=some (.str "abcdefghijklmnopqrstuvwxyz" t))
variable (xa0:mg "all"=none)
theorem zn9:zQ ["text"] ["text"] (zJ zh8):=zX
include xq xbs xeu xa0 in
theorem zoM (F:Fun K "is_name" "is_name" zh8 f fd):zab P w K mg base CX0 1 f fd ["text"] (upF K Dp.zd4):=by
  refine zV (b:=Dp.zfV) F zn9 Dp.znk Dp.zos (fun cdv A outer s H E hr=>?_)
  unfold Dp.zfV
  exact (zu (zT (zaQ (zbX (zN zaL (zak zap xq boot_len (zc (zj 0) zq)) zp) (zbH (zN zb1 (zak zap xq boot_len (zc (zj 0) zq)) (zai rfl xbs))))) (zA (zL zaN)) zO)
 (zA (zL (zak zh4 xa0 boot_all (zc (zbZ (own:=["sign"]) (free:=[]) (fv:=[]) True.intro True.intro (zaw (zj 0)) ⟨(zag 0 (by decide)),fun _ _ _ _ _=>(zaq (i:=0) (show List.Nodup (["sign"]:List Str) by decide +kernel) rfl (Or.inl rfl) (Or.inr rfl))⟩ (fun _ _ _ _ _=>za1) (fun _ _ _ _ _=>(zsN (zwG hr) (zj 0) (ztc rfl xeu)))) zq)))))
variable (xev:Got P w K mg base 1 "is_name" ["text"] (upF K Dp.zd4))
variable (xh5:mg "set"=none)
theorem zhp:zQ ["names"] ["names"] (zJ zcQ):=zX
include xq xa0 xev xh5 in
theorem zhq (F:Fun K "refuse_bad_names" "refuse_bad_names" zcQ f fd):zab P w K mg base CX0 2 f fd ["names"] (upF K Dp.zbd):=by
  refine zV (b:=Dp.zbW) F zhp Dp.zg9 Dp.zhs (fun cdv A outer s H E hr=>?_)
  unfold Dp.zbW
  exact (zu (zT (zbQ (zaS (zak zh4 xa0 boot_all (zc (zbZ (own:=["name"]) (free:=[]) (fv:=[]) True.intro True.intro (zaw (zj 0)) ⟨(zag 0 (by decide)),fun _ _ _ _ _=>(zaq (i:=0) (show List.Nodup (["name"]:List Str) by decide +kernel) rfl (Or.inl rfl) (Or.inr rfl))⟩ (fun _ _ _ _ _=>za1) (fun _ _ _ _ _=>(zH xev hr (zc (zj 0) zq)))) zq)))) (zA zbp) zO)
 (zA (zT (zN zaL (zs9 rfl xq rfl xh5 (zc (zj 0) zq)) (zak zap xq boot_len (zc (zj 0) zq))) (zA zbp) zO)))
variable (xat:Got P w K mg base 2 "refuse_bad_names" ["names"] (upF K Dp.zbd))
theorem ztd:zQ ["one","other"] ["one","other"] (zJ zmy):=zX
theorem zsL (F:Fun K "less" "less" zmy f fd):zab P w K mg base CX0 1 f fd ["one","other"] (upF K Dp.zdP):=by
 refine zV (b:=Dp.zjL) F ztd Dp.zrH Dp.zsK (fun cdv A outer s H E hr=>?_)
 unfold Dp.zjL
 exact (zA (zL (zeU zaL (zaj (zy (zj 0) zp) (zy (zj 1) zp)) (zaj (zy (zj 1) zp) (zy (zj 0) zp)))))
variable (xbq:Got P w K mg base 1 "less" ["one","other"] (upF K Dp.zdP))
theorem ziW:zQ ["ground","place","first","last"] ["ground","place"] (zJ zko):=zX
include xbq in
theorem zrJ (F:Fun K "is_on" "is_on" zko f fd):zab P w K mg base CX0 2 f fd ["ground","place"] (upF K Dp.zeq):=by
  refine zV (b:=Dp.zii) F ziW Dp.zpA Dp.zqU (fun cdv A outer s H E hr=>?_)
  unfold Dp.zii
  exact (zu (zF (i:=2) ziW.nd (zZ (zc (zy (zy (zbo (zj 0) rfl) zp) zp) (zc zp zq))))
 (zu (zF (i:=3) ziW.nd (zZ (zc (zy (zy (zbo (zj 0) rfl) (zby zp)) zp) (zc zp zq))))
 (zA (zL (ziA (ziv (zH xbq hr (zc (zj 1) (zc (zj 2) zq)))) (zjU (ziv (zH xbq hr (zc (zj 3) (zc (zj 1) zq))))))))))
variable (xdb:Got P w K mg base 2 "is_on" ["ground","place"] (upF K Dp.zeq))
theorem zca:zQ ["one","other","rest"] ["one","other"] (zJ zdI):=zX
include xe6 in
theorem ziG (F:Fun K "common_divisor" "common_divisor" zdI f fd):zab P w K mg base CX0 1 f fd ["one","other"] (upF K Dp.zbv):=by
  refine zV (b:=Dp.zcj) F zca Dp.zhT Dp.ziJ (fun cdv A outer s H E hr=>?_)
  unfold Dp.zcj
  exact (zu (zkB (zN (ze4 hr) (zj 1) zp) (zu (zF (i:=2) zca.nd (za6 (zj 0) (zj 1)))
 (zu (zF (i:=0) zca.nd (zj 1))
 (zA (zF (i:=1) zca.nd (zj 2))))))
 (zA (zL (zak zlN xe6 boot_abs (zc (zj 0) zq)))))
variable (xbb:Got P w K mg base 1 "common_divisor" ["one","other"] (upF K Dp.zbv))
theorem zga:zQ ["top","bottom","divisor"] ["top","bottom"] (zJ zgE):=zX
include xbb in
theorem zmX (F:Fun K "fraction" "fraction" zgE f fd):zab P w K mg base CX0 2 f fd ["top","bottom"] (upF K Dp.zdm):=by
  refine zV (b:=Dp.ze8) F zga Dp.zmo Dp.znn (fun cdv A outer s H E hr=>?_)
  unfold Dp.ze8
  exact (zu (zF (i:=2) zga.nd (zH xbb hr (zc (zj 0) (zc (zj 1) zq))))
 (zu (zfU (zT (zN zaL (zj 1) zp) (zA (zF (i:=2) zga.nd (zby (zj 2)))) zO))
 (zA (zL (zZ (zc (zdj (zj 0) (zj 2)) (zc (zdj (zj 1) (zj 2)) zq)))))))
variable (xem:Got P w K mg base 2 "fraction" ["top","bottom"] (upF K Dp.zdm))
theorem zel:zQ ["one","other","place","run","rise","top"] ["one","other","place"] (zJ zgb):=zX
include xem in
theorem zmn (F:Fun K "height_on" "height_on" zgb f fd):zab P w K mg base CX0 3 f fd ["one","other","place"] (upF K Dp.zcM):=by
  refine zV (b:=Dp.zeG) F zel Dp.zk8 Dp.zmd (fun cdv A outer s H E hr=>?_)
  unfold Dp.zeG
  exact (zu (zF (i:=3) zel.nd (zW (zy (zj 1) zp) (zy (zj 0) zp)))
 (zu (zF (i:=4) zel.nd (zW (zy (zj 1) zp) (zy (zj 0) zp)))
 (zu (zF (i:=5) zel.nd (zR (zaj (zaj (zy (zj 0) zp) (zj 3)) (zy (zj 2) zp)) (zaj (zj 4) (zW (zy (zj 2) zp) (zaj (zy (zj 0) zp) (zy (zj 2) zp))))))
 (zA (zL (zH xem hr (zc (zj 5) (zc (zaj (zj 3) (zy (zj 2) zp)) zq))))))))
variable (xdk:Got P w K mg base 3 "height_on" ["one","other","place"] (upF K Dp.zcM))
variable (xak:∀ C,W.nsIn K mainGlobals "OffGround"=some (some (.ref C))->ExC K C)
variable (xal:∃ C,W.nsIn K mainGlobals "OffGround"=some (some (.ref C))/\mg "OffGround"=some (.ref C))
theorem zd6:zQ ["ground","place","corners","k"] ["ground","place"] (zJ zf6):=zX
include xbq xdb xdk xak xal in
theorem zl3 (F:Fun K "ground_at" "ground_at" zf6 f fd):zab P w K mg base (CXd P w) 4 f fd ["ground","place"] (zcW K Dp.zc0):=by
  refine zdO (b:=Dp.zeF) F zd6 Dp.zk6 Dp.zmu (fun cdv A outer s H E hr _ ex hX hM=>?_)
  unfold Dp.zeF
  exact (zu (zT (zbQ (zaS (zH xdb hr (zc (zj 0) (zc (zj 1) zq))))) (zA (zeV hM rfl xak xal rfl (zc zd2 zq) (fun _ _ _ h=>h _))) zO)
 (zu (zF (i:=2) zd6.nd (zbo (zj 0) rfl))
 (zu (zF (i:=3) zd6.nd zp)
 (zu (zkB (zaS (zH xbq hr (zc (zZ (zc (zy (zy (zj 2) (zj 3)) zp) (zc zp zq))) (zc (zj 1) zq)))) (zA (ztt (i:=3) zd6.nd zp)))
 (zA (zL (zH xdk hr (zc (zy (zj 2) (zW (zj 3) zp)) (zc (zy (zj 2) (zj 3)) (zc (zj 1) zq))))))))))
variable (xdm:zgO P w K mg base 4 "ground_at" ["ground","place"] (zcW K Dp.zc0))
theorem zkG:zQ ["ground","spot","place"] ["ground","spot"] (zJ zi1):=zX
include xbq xdb xdm in
theorem zqo (F:Fun K "stands" "stands" zi1 f fd):zab P w K mg base CX0 5 f fd ["ground","spot"] (upF K Dp.zdZ):=by
  refine zV (b:=Dp.zg0) F zkG Dp.zoi Dp.zql (fun cdv A outer s H E hr=>?_)
  unfold Dp.zg0
  exact (zu (zF (i:=2) zkG.nd (zZ (zc (zy (zj 1) zp) (zc zp zq))))
 (zu (zT (zbQ (zaS (zH xdb hr (zc (zj 0) (zc (zj 2) zq))))) (zA (zL zaN)) zO)
 (zA (zL (ziv (zH xbq hr (zc (zZ (zc (zy (zj 1) zp) (zc zp zq))) (zc (zck xdm zjv hr (zc (zj 0) (zc (zj 2) zq))) zq))))))))
variable (xb9:Got P w K mg base 5 "stands" ["ground","spot"] (upF K Dp.zdZ))
theorem zhx:zQ ["ground","beacons"] ["ground","beacons"] (zJ zdd):=zX
include xa0 xb9 in
theorem zh3 (F:Fun K "refuse_bad_tops" "refuse_bad_tops" zdd f fd):zab P w K mg base CX0 6 f fd ["ground","beacons"] (upF K Dp.zbm):=by
 refine zV (b:=Dp.zb9) F zhx Dp.zhn Dp.zhD (fun cdv A outer s H E hr=>?_)
 unfold Dp.zb9
 exact (zA (zT (zbQ (zaS (zak zh4 xa0 boot_all (zc (zbZ (own:=["name","x","z"]) (free:=["ground"]) (fv:=[0]) ⟨rfl,True.intro⟩ ⟨rfl,rfl,rfl,True.intro⟩ (zaw (zj 1)) ⟨(zha (zbB (zag 0 (by decide)) (zbB (zag 1 (by decide)) (zbB (zag 2 (by decide)) zfN)))),fun _ _ _ _ _=>(zhy (n:=3) rfl (zb6 (zaq (i:=0) (show List.Nodup (["name","x","z","ground"]:List Str) by decide +kernel) rfl (Or.inl rfl) (Or.inr rfl)) (zb6 (zaq (i:=1) (show List.Nodup (["name","x","z","ground"]:List Str) by decide +kernel) rfl (Or.inl rfl) (Or.inr rfl)) (zb6 (zaq (i:=2) (show List.Nodup (["name","x","z","ground"]:List Str) by decide +kernel) rfl (Or.inl rfl) (Or.inr rfl)) zgt))))⟩ (fun _ _ _ _ _=>za1) (fun _ _ _ _ _=>(zH xb9 hr (zc (zj 3) (zc (zZ (zc (zj 1) (zc (zj 2) zq))) zq))))) zq)))) (zA zbp) zO))
variable (xaz:Got P w K mg base 6 "refuse_bad_tops" ["ground","beacons"] (upF K Dp.zbm))
variable (xfv:mg "int"=none)
variable (xab:mg "isinstance"=none)
variable (xeq:mg "bool"=none)
theorem zm6:zQ ["value"] ["value"] (zJ zgL):=zX
include xfv xab xeq in
theorem zm5 (F:Fun K "is_whole" "is_whole" zgL f fd):zab P w K mg base CX0 1 f fd ["value"] (upF K Dp.zcD):=by
 refine zV (b:=Dp.zfc) F zm6 Dp.zlA Dp.zni (fun cdv A outer s H E hr=>?_)
 unfold Dp.zfc
 exact (zA (zL (ziA (zak zjq xab boot_isinstance (zc (zj 0) (zc (zlh rfl xfv boot_int) zq))) (zjU (ziv (zak zjq xab boot_isinstance (zc (zj 0) (zc (zlh rfl xeq boot_bool) zq))))))))
variable (xbf:Got P w K mg base 1 "is_whole" ["value"] (upF K Dp.zcD))
variable (xe4:∃ t,mg "NUMBERS"=some (.int 8 t))
variable (xbi:∃ t,mg "LEFT"=some (.int 0 t))
variable (xan:∃ t,mg "RIGHT"=some (.int 1 t))
variable (xb4:∃ t,mg "LOW"=some (.int 2 t))
variable (xbj:∃ t,mg "HIGH"=some (.int 3 t))
variable (xby:∃ t,mg "FIRST"=some (.int 4 t))
variable (xer:∃ t,mg "LAST"=some (.int 5 t))
variable (xcx:mg "tuple"=none)
theorem zqf:zQ ["value"] ["value"] (zJ zi0):=zX
include xq xa0 xab xbf xe4 xbi xan xb4 xbj xby xer xcx in
theorem zps (F:Fun K "is_fog" "is_fog" zi0 f fd):zab P w K mg base CX0 2 f fd ["value"] (upF K Dp.zeR):=by
  refine zV (b:=Dp.zhf) F zqf Dp.zoP Dp.zpO (fun cdv A outer s H E hr=>?_)
  unfold Dp.zhf
  exact (zu (zT (zaQ (zbX (zbQ (zaS (zak zjq xab boot_isinstance (zc (zj 0) (zc (zlh rfl xcx boot_tuple) zq))))) (zbH (zN (ze4 hr) (zak zap xq boot_len (zc (zj 0) zq)) (zai rfl xe4))))) (zA (zL zaN)) zO)
 (zu (zT (zbQ (zaS (zak zh4 xa0 boot_all (zc (zbZ (own:=["number"]) (free:=[]) (fv:=[]) True.intro True.intro (zaw (zj 0)) ⟨(zag 0 (by decide)),fun _ _ _ _ _=>(zaq (i:=0) (show List.Nodup (["number"]:List Str) by decide +kernel) rfl (Or.inl rfl) (Or.inr rfl))⟩ (fun _ _ _ _ _=>za1) (fun _ _ _ _ _=>(zH xbf hr (zc (zj 0) zq)))) zq)))) (zA (zL zaN)) zO)
 (zA (zL (ziA (zeU zeC (zy (zj 0) (zai rfl xbi)) (zy (zj 0) (zai rfl xan))) (ziA (zeU zeC (zy (zj 0) (zai rfl xb4)) (zy (zj 0) (zai rfl xbj))) (zjU (zeU zeC (zy (zj 0) (zai rfl xby)) (zy (zj 0) (zai rfl xer))))))))))
variable (xfl:Got P w K mg base 2 "is_fog" ["value"] (upF K Dp.zeR))
theorem zhZ:zQ ["fogs"] ["fogs"] (zJ zdi):=zX
include xa0 xfl in
theorem zhW (F:Fun K "refuse_bad_fogs" "refuse_bad_fogs" zdi f fd):zab P w K mg base CX0 3 f fd ["fogs"] (upF K Dp.zbn):=by
 refine zV (b:=Dp.zb7) F zhZ Dp.zhu Dp.zhE (fun cdv A outer s H E hr=>?_)
 unfold Dp.zb7
 exact (zA (zT (zbQ (zaS (zak zh4 xa0 boot_all (zc (zbZ (own:=["fog"]) (free:=[]) (fv:=[]) True.intro True.intro (zaw (zj 0)) ⟨(zag 0 (by decide)),fun _ _ _ _ _=>(zaq (i:=0) (show List.Nodup (["fog"]:List Str) by decide +kernel) rfl (Or.inl rfl) (Or.inr rfl))⟩ (fun _ _ _ _ _=>za1) (fun _ _ _ _ _=>(zH xfl hr (zc (zj 0) zq)))) zq)))) (zA zbp) zO))
variable (xa4:Got P w K mg base 3 "refuse_bad_fogs" ["fogs"] (upF K Dp.zbn))
theorem zht:zQ ["haze","first","last","delay"] ["haze","first","last","delay"] (zJ zcP):=zX
theorem zhw (F:Fun K "refuse_bad_hours" "refuse_bad_hours" zcP f fd):zab P w K mg base CX0 1 f fd ["haze","first","last","delay"] (upF K Dp.zbc):=by
  refine zV (b:=Dp.zbY) F zht Dp.zg6 Dp.zhm (fun cdv A outer s H E hr=>?_)
  unfold Dp.zbY
  exact (zu (zT (zN zb1 (zj 1) (zj 2)) (zA zbp) zO)
 (zu (zT (zN zaL (zj 3) zp) (zA zbp) zO)
 (zA (zT (zaQ (zc7 (zN zgr (zj 0) zem) (zcr (zN zaL (zj 0) zp)))) (zA zbp) zO))))
variable (xaq:Got P w K mg base 1 "refuse_bad_hours" ["haze","first","last","delay"] (upF K Dp.zbc))
variable (xbd:∀ C,W.nsIn K mainGlobals "Valley"=some (some (.ref C))->zaB K C "ground")
variable (xa5:∀ C,W.nsIn K mainGlobals "Valley"=some (some (.ref C))->zaB K C "beacons")
variable (xbw:∀ C,W.nsIn K mainGlobals "Valley"=some (some (.ref C))->zaB K C "fogs")
variable (xbv:∀ C,W.nsIn K mainGlobals "Valley"=some (some (.ref C))->zaB K C "haze")
variable (xbn:∀ C,W.nsIn K mainGlobals "Valley"=some (some (.ref C))->zaB K C "first")
variable (xbx:∀ C,W.nsIn K mainGlobals "Valley"=some (some (.ref C))->zaB K C "last")
variable (xbl:∀ C,W.nsIn K mainGlobals "Valley"=some (some (.ref C))->zaB K C "delay")
theorem zj4:zQ ["self","ground","beacons","fogs","haze","first","last","delay"] ["self","ground","beacons","fogs","haze","first","last","delay"] (zJ zbN):=zX
include xae xb8 xai xat xaz xa4 xaq xbd xa5 xbw xbv xbn xbx xbl in
theorem zkd (F:Fun K "__init__" "Valley.__init__" zbN f fd):zab P w K mg base CX0 7 f fd ["self","ground","beacons","fogs","haze","first","last","delay"] (upF K Dp.zdb):=by
  refine zV (b:=Dp.zbR) F zj4 Dp.zjW Dp.zki (fun cdv A outer s H E hr=>?_)
  unfold Dp.zbR
  exact (zu (zas (zH xai hr (zc (zj 2) (zc (zj 3) zq))))
 (zu (zas (zH xat hr (zc (zbZ (own:=["beacon"]) (free:=[]) (fv:=[]) True.intro True.intro (zaw (zj 2)) ⟨(zag 0 (by decide)),fun _ _ _ _ _=>(zaq (i:=0) (show List.Nodup (["beacon"]:List Str) by decide +kernel) rfl (Or.inl rfl) (Or.inr rfl))⟩ (fun _ _ _ _ _=>za1) (fun _ _ _ _ _=>(zy (zj 0) zp))) zq)))
 (zu (zas (zH xaz hr (zc (zj 1) (zc (zj 2) zq))))
 (zu (zas (zH xa4 hr (zc (zj 3) zq)))
 (zu (zas (zH xaq hr (zc (zj 4) (zc (zj 5) (zc (zj 6) (zc (zj 7) zq))))))
 (zu (zdW xbd (zj 0) (zlx xb8 hr (zc (zbo (zj 1) rfl) zq)))
 (zu (zdW xa5 (zj 0) (zeD zdS xae boot_list (zc (zj 2) zq)))
 (zu (zdW xbw (zj 0) (zeD zdS xae boot_list (zc (zj 3) zq)))
 (zu (zdW xbv (zj 0) (zj 4))
 (zu (zdW xbn (zj 0) (zj 5))
 (zu (zdW xbx (zj 0) (zj 6))
 (zA (zdW xbl (zj 0) (zj 7))))))))))))))
variable (xfs:zkq P w K mg base 7 "Valley" (upF K Dp.zhC))
theorem zkX:zQ ["vale"] ["vale"] (zJ zfG):=zX
include xae xb8 xfs in
theorem zkT (F:Fun K "_law_valley" "_law_valley" zfG f fd):zab P w K mg base CX0 9 f fd ["vale"] (upF K Dp.zcu):=by
 refine zV (b:=Dp.zd9) F zkX Dp.zkg Dp.zlb (fun cdv A outer s H E hr=>?_)
 unfold Dp.zd9
 exact (zA (zL (zlx xfs hr (zc (zlx xb8 hr (zc (zeD zdS xae boot_list (zc (zy (zj 0) zp) zq)) zq)) (zc (zeD zdS xae boot_list (zc (zy (zj 0) zp) zq)) (zc (zeD zdS xae boot_list (zc (zy (zj 0) zp) zq)) (zc (zy (zj 0) zp) (zc (zy (zj 0) zp) (zc (zy (zj 0) zp) (zc (zy (zj 0) zp) zq))))))))))
variable (xcc:Got P w K mg base 9 "_law_valley" ["vale"] (upF K Dp.zcu))
theorem zei:zQ ["corners","one","other","spot","rise"] ["corners","one","other"] (zJ zf8):=zX
theorem zlD (F:Fun K "_law_clear" "_law_clear" zf8 f fd):zab P w K mg base CX0 1 f fd ["corners","one","other"] (upF K Dp.zc1):=by
  refine zV (b:=Dp.zeL) F zei Dp.zla Dp.zmg (fun cdv A outer s H E hr=>?_)
  unfold Dp.zeL
  exact (zu (zfU (zT (zN zaL (zy (zj 2) zp) (zy (zj 1) zp)) (zA (znA (i:=1) (j:=2) rfl zei.nd rfl rfl (by decide) rfl rfl (zc (zj 2) (zc (zj 1) zq)) rfl)) zO))
 (zu (zaz (zaw (zj 0)) (zaa (i:=3) zei.nd) (zA (zT (zaQ (zc7 (zN zaL (zy (zj 1) zp) (zy (zj 3) zp)) (zcr (zN zaL (zy (zj 3) zp) (zy (zj 2) zp))))) (zu (zF (i:=4) zei.nd (zaj (zW (zy (zj 2) zp) (zy (zj 1) zp)) (zW (zy (zj 3) zp) (zy (zj 1) zp))))
 (zA (zT (zN zb1 (zaj (zW (zy (zj 3) zp) (zy (zj 1) zp)) (zW (zy (zj 2) zp) (zy (zj 1) zp))) (zj 4)) (zA (zL zaN)) zO))) zO)))
 (zA (zL zaN))))
variable (xds:Got P w K mg base 1 "_law_clear" ["corners","one","other"] (upF K Dp.zc1))
theorem znc:zQ ["at","way","low","high"] ["at","way","low","high"] (zJ zgZ):=zX
include xfv in
theorem zm4 (F:Fun K "_law_part" "_law_part" zgZ f fd):zab P w K mg base CX0 1 f fd ["at","way","low","high"] (upF K Dp.zcE):=by
  refine zV (b:=Dp.zfb) F znc Dp.zmx Dp.zmZ (fun cdv A outer s H E hr=>?_)
  unfold Dp.zfb
  exact (zu (zT (zN (zb0 hr) (zj 1) zp) (zA (zL (zy (zaC (zc (zZ (zc (zZ (zc zp (zc zp zq))) (zc (zZ (zc zp (zc zp zq))) zq))) (zc (zZ (zc (zZ (zc zp (zc zp zq))) (zc (zZ (zc zp (zc zp zq))) zq))) zq))) (zeD zvi xfv boot_int (zc (zt9 (zeU zaL (zj 0) (zj 2)) (zjU (zeU zaL (zj 3) (zj 0)))) zq))))) zO)
 (zu (zT (zN zb1 (zj 1) zp) (zA (zL (zZ (zc (zZ (zc (zW (zj 2) (zj 0)) (zc (zj 1) zq))) (zc (zZ (zc (zW (zj 3) (zj 0)) (zc (zj 1) zq))) zq))))) zO)
 (zA (zL (zZ (zc (zZ (zc (zW (zj 0) (zj 3)) (zc (zby (zj 1)) zq))) (zc (zZ (zc (zW (zj 0) (zj 2)) (zc (zby (zj 1)) zq))) zq)))))))
variable (xci:Got P w K mg base 1 "_law_part" ["at","way","low","high"] (upF K Dp.zcE))
theorem zeJ:zQ ["box","one","other","parts","low","high"] ["box","one","other"] (zJ zgC):=zX
include xci in
theorem zmN (F:Fun K "_law_meet" "_law_meet" zgC f fd):zab P w K mg base CX0 2 f fd ["box","one","other"] (upF K Dp.zdq):=by
  refine zV (b:=Dp.zff) F zeJ Dp.zlS Dp.znf (fun cdv A outer s H E hr=>?_)
  unfold Dp.zff
  exact (zu (zF (i:=3) zeJ.nd (zaC (zc (zZ (zc (zZ (zc zp (zc zp zq))) (zc (zZ (zc zp (zc zp zq))) zq))) (zc (zH xci hr (zc (zy (zj 1) zp) (zc (zW (zy (zj 2) zp) (zy (zj 1) zp)) (zc (zy (zj 0) zp) (zc (zy (zj 0) zp) zq))))) zq))))
 (zu (zas (zde PySem.F.slot_list_append PySem.F.type_list_append za9 (zj 3) (zc (zH xci hr (zc (zy (zj 1) zp) (zc (zW (zy (zj 2) zp) (zy (zj 1) zp)) (zc (zy (zj 0) zp) (zc (zy (zj 0) zp) zq))))) zq)))
 (zu (zaz (zaw (zbZ (own:=["part"]) (free:=[]) (fv:=[]) True.intro True.intro (zaw (zj 3)) ⟨(zag 0 (by decide)),fun _ _ _ _ _=>(zaq (i:=0) (show List.Nodup (["part"]:List Str) by decide +kernel) rfl (Or.inl rfl) (Or.inr rfl))⟩ (fun _ _ _ _ _=>za1) (fun _ _ _ _ _=>(zy (zj 0) zp)))) (zaa (i:=4) zeJ.nd) (zA (zaz (zaw (zbZ (own:=["part"]) (free:=[]) (fv:=[]) True.intro True.intro (zaw (zj 3)) ⟨(zag 0 (by decide)),fun _ _ _ _ _=>(zaq (i:=0) (show List.Nodup (["part"]:List Str) by decide +kernel) rfl (Or.inl rfl) (Or.inr rfl))⟩ (fun _ _ _ _ _=>za1) (fun _ _ _ _ _=>(zy (zj 0) zp)))) (zaa (i:=5) zeJ.nd) (zA (zT (zN zb1 (zaj (zy (zj 4) zp) (zy (zj 5) zp)) (zaj (zy (zj 5) zp) (zy (zj 4) zp))) (zA (zL zaN)) zO)))))
 (zA (zL zaN)))))
variable (xd7:Got P w K mg base 2 "_law_meet" ["box","one","other"] (upF K Dp.zdq))
theorem zeX:zQ ["fog","one","other","hour","along","upward"] ["fog","one","other","hour"] (zJ zfl):=zX
include xd7 in
theorem zk1 (F:Fun K "_law_fogged" "_law_fogged" zfl f fd):zab P w K mg base CX0 3 f fd ["fog","one","other","hour"] (upF K Dp.zcx):=by
  refine zV (b:=Dp.zed) F zeX Dp.zkm Dp.zld (fun cdv A outer s H E hr=>?_)
  unfold Dp.zed
  exact (zu (zT (zaQ (zbX (zN zaL (zj 3) (zy (zj 0) zp)) (zbH (zN zaL (zy (zj 0) zp) (zj 3))))) (zA (zL zaN)) zO)
 (zu (zF (i:=4) zeX.nd (zaj (zy (zj 0) zp) (zW (zj 3) (zy (zj 0) zp))))
 (zu (zF (i:=5) zeX.nd (zaj (zy (zj 0) zp) (zW (zj 3) (zy (zj 0) zp))))
 (zA (zL (zH xd7 hr (zc (zZ (zc (zR (zy (zj 0) zp) (zj 4)) (zc (zR (zy (zj 0) zp) (zj 4)) (zc (zR (zy (zj 0) zp) (zj 5)) (zc (zR (zy (zj 0) zp) (zj 5)) zq))))) (zc (zj 1) (zc (zj 2) zq)))))))))
variable (xcg:Got P w K mg base 3 "_law_fogged" ["fog","one","other","hour"] (upF K Dp.zcx))
theorem zbF:zQ ["vale","k","j","hour","corners","beacons","mists","haze","one","other","square"] ["vale","k","j","hour"] (zJ zgA):=zX
include xq xds xcg in
theorem zm1 (F:Fun K "_law_sees" "_law_sees" zgA f fd):zab P w K mg base CX0 4 f fd ["vale","k","j","hour"] (upF K Dp.zdp):=by
  refine zV (b:=Dp.ze3) F zbF Dp.zmB Dp.zmR (fun cdv A outer s H E hr=>?_)
  unfold Dp.ze3
  exact (zu (zdV (zcK (zj 0) zbI (zbe zp)) (zdX (n:=4) rfl (zax (zaa (i:=4) zbF.nd) (zax (zaa (i:=5) zbF.nd) (zax (zaa (i:=6) zbF.nd) (zax (zaa (i:=7) zbF.nd) zdQ))))))
 (zu (zT (zN (zb0 hr) (zj 1) (zj 2)) (zA (zL zaN)) zO)
 (zu (zF (i:=8) zbF.nd (zcK (zy (zj 5) (zj 1)) (zbe zp) zbI))
 (zu (zF (i:=9) zbF.nd (zcK (zy (zj 5) (zj 2)) (zbe zp) zbI))
 (zu (zT (zbQ (zaS (zH xds hr (zc (zj 4) (zc (zj 8) (zc (zj 9) zq)))))) (zA (zL zaN)) zO)
 (zu (zF (i:=10) zbF.nd (zR (zaj (zW (zy (zj 8) zp) (zy (zj 9) zp)) (zW (zy (zj 8) zp) (zy (zj 9) zp))) (zaj (zW (zy (zj 8) zp) (zy (zj 9) zp)) (zW (zy (zj 8) zp) (zy (zj 9) zp)))))
 (zu (zT (zaQ (zc7 (zN zgr (zj 7) zem) (zcr (zN zb1 (zj 10) (zj 7))))) (zA (zL zaN)) zO)
 (zA (zL (zeU (zb0 hr) (zak zap xq boot_len (zc (zbZ (own:=["fog"]) (free:=["one","other","hour"]) (fv:=[8,9,3]) ⟨rfl,rfl,rfl,True.intro⟩ ⟨rfl,rfl,rfl,rfl,rfl,rfl,rfl,rfl,rfl,True.intro⟩ (zaw (zj 6)) ⟨(zag 0 (by decide)),fun _ _ _ _ _=>(zaq (i:=0) (show List.Nodup (["fog","one","other","hour"]:List Str) by decide +kernel) rfl (Or.inl rfl) (Or.inr rfl))⟩ (fun _ _ _ _ _=>(zgx (zaS (zH xcg hr (zc (zj 0) (zc (zj 1) (zc (zj 2) (zc (zj 3) zq)))))))) (fun _ _ _ _ _=>(zj 0))) zq)) zp))))))))))
variable (xeb:Got P w K mg base 4 "_law_sees" ["vale","k","j","hour"] (upF K Dp.zdp))
theorem zcC:zQ ["vale","count","hours","table","k","j"] ["vale"] (zJ zgW):=zX
include xq xr xae xeb in
theorem znh (F:Fun K "_law_seen" "_law_seen" zgW f fd):zab P w K mg base CX0 5 f fd ["vale"] (upF K Dp.zdk):=by
  refine zV (b:=Dp.ze2) F zcC Dp.zl7 Dp.zm8 (fun cdv A outer s H E hr=>?_)
  unfold Dp.ze2
  exact (zu (zF (i:=1) zcC.nd (zak zap xq boot_len (zc (zy (zj 0) zp) zq)))
 (zu (zF (i:=2) zcC.nd (zsG rfl xae rfl xr (zc (zy (zj 0) zp) (zc (zR (zy (zj 0) zp) zp) zq))))
 (zu (zfr (i:=3) zcC.nd (own:=["k"]) (free:=["count"]) (fv:=[1]) ⟨rfl,True.intro⟩ ⟨rfl,rfl,rfl,True.intro⟩ (zcA xr (zc (zj 1) zq)) ⟨(zag 0 (by decide)),fun _ _ _ _ _=>(zaq (i:=0) (show List.Nodup (["k","count"]:List Str) by decide +kernel) rfl (Or.inl rfl) (Or.inr rfl))⟩ (fun _ _ _ _ _=>za1) (fun _ _ _ _ _=>(zbZ (own:=["j"]) (free:=[]) (fv:=[]) True.intro True.intro (zcA xr (zc (zj 1) zq)) ⟨(zag 0 (by decide)),fun _ _ _ _ _=>(zaq (i:=0) (show List.Nodup (["j"]:List Str) by decide +kernel) rfl (Or.inl rfl) (Or.inr rfl))⟩ (fun _ _ _ _ _=>za1) (fun _ _ _ _ _=>(zaC zq)))))
 (zu (zaz (zcA xr (zc (zj 1) zq)) (zaa (i:=4) zcC.nd) (zA (zaz (zcA xr (zc (zj 4) zq)) (zaa (i:=5) zcC.nd) (zu (zdV (zbZ (own:=["hour"]) (free:=["vale","k","j"]) (fv:=[0,4,5]) ⟨rfl,rfl,rfl,True.intro⟩ ⟨rfl,rfl,rfl,rfl,rfl,rfl,rfl,rfl,rfl,True.intro⟩ (zaw (zj 2)) ⟨(zag 0 (by decide)),fun _ _ _ _ _=>(zaq (i:=0) (show List.Nodup (["hour","vale","k","j"]:List Str) by decide +kernel) rfl (Or.inl rfl) (Or.inr rfl))⟩ (fun _ _ _ _ _=>(zgx (zaS (zH xeb hr (zc (zj 1) (zc (zj 2) (zc (zj 3) (zc (zj 0) zq)))))))) (fun _ _ _ _ _=>(zj 0))) (zia (zy (zj 3) (zj 4)) (zj 5)))
 (zA (zdV (zy (zy (zj 3) (zj 4)) (zj 5)) (zia (zy (zj 3) (zj 5)) (zj 4))))))))
 (zA (zL (zj 3)))))))
variable (xd8:Got P w K mg base 5 "_law_seen" ["vale"] (upF K Dp.zdk))
theorem zaV:zQ ["known","start","hour","cells","vale","table","names","way","at","cell","to","hours","spied"] ["known","start","hour","cells"] (zJ zgY):=zX
include xq xg in
theorem zmT (F:Fun K "_law_made" "_law_made" zgY f fd):zab P w K mg base CX0 2 f fd ["known","start","hour","cells"] (upF K Dp.zdo):=by
  refine zV (b:=Dp.zfg) F zaV Dp.zl0 Dp.zm2 (fun cdv A outer s H E hr=>?_)
  unfold Dp.zfg
  exact (zu (zdV (zj 0) (zdX (n:=3) rfl (zax (zaa (i:=4) zaV.nd) (zax (zaa (i:=5) zaV.nd) (zax (zaa (i:=6) zaV.nd) zdQ)))))
 (zu (zF (i:=7) zaV.nd (zaC (zc (zZ (zc (zy (zj 6) (zj 1)) (zc (zj 2) (zc (zj 2) zq)))) zq)))
 (zu (zF (i:=8) zaV.nd (zj 1))
 (zu (zaz (zaw (zj 3)) (zaa (i:=9) zaV.nd) (zu (zF (i:=10) zaV.nd (zH xg hr (zc (zj 9) (zc zp (zc (zak zap xq boot_len (zc (zj 6) zq)) zq)))))
 (zu (zfr (i:=11) zaV.nd (own:=["u"]) (free:=["way"]) (fv:=[7]) ⟨rfl,True.intro⟩ ⟨rfl,rfl,rfl,True.intro⟩ (zaw (zy (zy (zj 5) (zj 8)) (zj 10))) ⟨(zag 0 (by decide)),fun _ _ _ _ _=>(zaq (i:=0) (show List.Nodup (["u","way"]:List Str) by decide +kernel) rfl (Or.inl rfl) (Or.inr rfl))⟩ (fun _ _ _ _ _=>(zgx (zN zwF (zj 0) (zy (zy (zj 1) (zby zp)) zp)))) (fun _ _ _ _ _=>(zj 0)))
 (zA (zT (zaQ (zc7 (zN (ze4 hr) (zj 10) (zj 8)) (zcr (zN zb1 (zak zap xq boot_len (zc (zj 11) zq)) zp)))) (zu (zF (i:=12) zaV.nd (zy (zj 11) (zaj (zH xg hr (zc (zj 9) (zc zp (zc (zak zap xq boot_len (zc (zj 11) zq)) zq)))) (zH xg hr (zc (zj 9) (zc zp (zc zp zq)))))))
 (zu (zas (zde PySem.F.slot_list_append PySem.F.type_list_append za9 (zj 7) (zc (zZ (zc (zy (zj 6) (zj 10)) (zc (zj 12) (zc (zR (zj 12) (zy (zj 4) zp)) zq)))) zq)))
 (zA (zF (i:=8) zaV.nd (zj 10))))) zO)))))
 (zA (zL (zj 7)))))))
variable (xen:Got P w K mg base 2 "_law_made" ["known","start","hour","cells"] (upF K Dp.zdo))
theorem zmY:zQ ["valley"] ["valley"] (zJ zhd):=zX
theorem zm0 (F:Fun K "names_of" "names_of" zhd f fd):zab P w K mg base CX0 1 f fd ["valley"] (upF K Dp.zcB):=by
 refine zV (b:=Dp.ze9) F zmY Dp.zlM Dp.znm (fun cdv A outer s H E hr=>?_)
 unfold Dp.ze9
 exact (zA (zL (zbZ (own:=["beacon"]) (free:=[]) (fv:=[]) True.intro True.intro (zaw (zbo (zj 0) rfl)) ⟨(zag 0 (by decide)),fun _ _ _ _ _=>(zaq (i:=0) (show List.Nodup (["beacon"]:List Str) by decide +kernel) rfl (Or.inl rfl) (Or.inr rfl))⟩ (fun _ _ _ _ _=>za1) (fun _ _ _ _ _=>(zy (zj 0) zp)))))
variable (xbc:Got P w K mg base 1 "names_of" ["valley"] (upF K Dp.zcB))
variable (xav:∀ C,W.nsIn K mainGlobals "NoBeacon"=some (some (.ref C))->ExC K C)
variable (xau:∃ C,W.nsIn K mainGlobals "NoBeacon"=some (some (.ref C))/\mg "NoBeacon"=some (.ref C))
theorem zhv:zQ ["valley","name"] ["valley","name"] (zJ zcU):=zX
include xbc xav xau in
theorem zho (F:Fun K "refuse_no_beacon" "refuse_no_beacon" zcU f fd):zab P w K mg base (CXd P w) 2 f fd ["valley","name"] (zcW K Dp.zbb):=by
 refine zdO (b:=Dp.zbV) F zhv Dp.zg8 Dp.zhr (fun cdv A outer s H E hr _ ex hX hM=>?_)
 unfold Dp.zbV
 exact (zA (zT (ziB (zgH hr) (zj 1) (zH xbc hr (zc (zj 0) zq))) (zA (zeV hM rfl xav xau rfl (zc zd2 zq) (fun _ _ _ h=>h _))) zO))
variable (xap:zgO P w K mg base 2 "refuse_no_beacon" ["valley","name"] (zcW K Dp.zbb))
variable (xeh:∀ C,W.nsIn K mainGlobals "BadHour"=some (some (.ref C))->ExC K C)
variable (xd5:∃ C,W.nsIn K mainGlobals "BadHour"=some (some (.ref C))/\mg "BadHour"=some (.ref C))
theorem ziH:zQ ["valley","hour"] ["valley","hour"] (zJ zdL):=zX
include xeh xd5 in
theorem ziK (F:Fun K "refuse_no_hour" "refuse_no_hour" zdL f fd):zab P w K mg base (CXd P w) 1 f fd ["valley","hour"] (zcW K Dp.zbw):=by
 refine zdO (b:=Dp.zcm) F ziH Dp.zhH Dp.ziM (fun cdv A outer s H E hr _ ex hX hM=>?_)
 unfold Dp.zcm
 exact (zA (zT (zaQ (zbX (zN zaL (zj 1) (zbo (zj 0) rfl)) (zbH (zN zb1 (zj 1) (zbo (zj 0) rfl))))) (zA (zeV hM rfl xeh xd5 rfl (zc zd2 zq) (fun _ _ _ h=>h _))) zO))
variable (xa9:zgO P w K mg base 1 "refuse_no_hour" ["valley","hour"] (zcW K Dp.zbw))
theorem zjl:zQ ["valley","name","beacon"] ["valley","name"] (zJ zhG):=zX
include xav xau in
theorem zoo (F:Fun K "spot_of" "spot_of" zhG f fd):zab P w K mg base (CXd P w) 1 f fd ["valley","name"] (zcW K Dp.zc8):=by
  refine zdO (b:=Dp.zfS) F zjl Dp.zmU Dp.zox (fun cdv A outer s H E hr _ ex hX hM=>?_)
  unfold Dp.zfS
  exact (zu (zaz (zaw (zbo (zj 0) rfl)) (zaa (i:=2) zjl.nd) (zA (zT (zN (zb0 hr) (zy (zj 2) zp) (zj 1)) (zA (zL (zZ (zc (zy (zj 2) zp) (zc (zy (zj 2) zp) zq))))) zO)))
 (zA (zeV hM rfl xav xau rfl (zc zd2 zq) (fun _ _ _ h=>h _))))
variable (xdv:zgO P w K mg base 1 "spot_of" ["valley","name"] (zcW K Dp.zc8))
theorem zf9:zQ ["ground","spot"] ["ground","spot"] (zJ zcc):=zX
include xak xal xb9 in
theorem zf3 (F:Fun K "refuse_not_standing" "refuse_not_standing" zcc f fd):zab P w K mg base (CXd P w) 6 f fd ["ground","spot"] (zcW K Dp.zaG):=by
 refine zdO (b:=Dp.zbs) F zf9 Dp.zfJ Dp.zge (fun cdv A outer s H E hr _ ex hX hM=>?_)
 unfold Dp.zbs
 exact (zA (zT (zbQ (zaS (zH xb9 hr (zc (zj 0) (zc (zj 1) zq))))) (zA (zeV hM rfl xak xal rfl (zc zd2 zq) (fun _ _ _ h=>h _))) zO))
variable (xad:zgO P w K mg base 6 "refuse_not_standing" ["ground","spot"] (zcW K Dp.zaG))
variable (xbg:mg "min"=none)
variable (xam:mg "max"=none)
variable (xdu:mg "enumerate"=none)
theorem zcR:zQ ["ground","x","other_x","low","high"] ["ground","x","other_x"] (zJ zdh):=zX
include xbg xam xdu in
theorem zh6 (F:Fun K "numbers_between" "numbers_between" zdh f fd):zab P w K mg base CX0 1 f fd ["ground","x","other_x"] (upF K Dp.zbl):=by
  refine zV (b:=Dp.zb8) F zcR Dp.zhl Dp.zhY (fun cdv A outer s H E hr=>?_)
  unfold Dp.zb8
  exact (zu (zF (i:=3) zcR.nd (zak zgv xbg boot_min (zc (zj 1) (zc (zj 2) zq))))
 (zu (zF (i:=4) zcR.nd (zak zfi xam boot_max (zc (zj 1) (zc (zj 2) zq))))
 (zA (zL (zbZ (own:=["k","corner"]) (free:=["low","high"]) (fv:=[3,4]) ⟨rfl,rfl,True.intro⟩ ⟨rfl,rfl,rfl,rfl,rfl,rfl,True.intro⟩ (zmt rfl xdu (zc (zbo (zj 0) rfl) zq)) ⟨(zha (zbB (zag 0 (by decide)) (zbB (zag 1 (by decide)) zfN))),fun _ _ _ _ _=>(zhy (n:=2) rfl (zb6 (zaq (i:=0) (show List.Nodup (["k","corner","low","high"]:List Str) by decide +kernel) rfl (Or.inl rfl) (Or.inr rfl)) (zb6 (zaq (i:=1) (show List.Nodup (["k","corner","low","high"]:List Str) by decide +kernel) rfl (Or.inl rfl) (Or.inr rfl)) zgt)))⟩ (fun _ _ _ _ _=>(zgx (zp7 zaL zaL (zj 2) (zy (zj 1) zp) (zj 3)))) (fun _ _ _ _ _=>(zj 0)))))))
variable (xax:Got P w K mg base 1 "numbers_between" ["ground","x","other_x"] (upF K Dp.zbl))
theorem zej:zQ ["one","other","spot","run","rise","over"] ["one","other","spot"] (zJ zhz):=zX
theorem zoH (F:Fun K "side_of" "side_of" zhz f fd):zab P w K mg base CX0 1 f fd ["one","other","spot"] (upF K Dp.zeb):=by
  refine zV (b:=Dp.zfZ) F zej Dp.zmS Dp.zoE (fun cdv A outer s H E hr=>?_)
  unfold Dp.zfZ
  exact (zu (zF (i:=3) zej.nd (zW (zy (zj 1) zp) (zy (zj 0) zp)))
 (zu (zF (i:=4) zej.nd (zW (zy (zj 1) zp) (zy (zj 0) zp)))
 (zu (zF (i:=5) zej.nd (zW (zaj (zW (zy (zj 2) zp) (zy (zj 0) zp)) (zj 3)) (zaj (zW (zy (zj 2) zp) (zy (zj 0) zp)) (zj 4))))
 (zu (zfU (zT (zN zaL (zj 3) zp) (zA (zF (i:=5) zej.nd (zby (zj 5)))) zO))
 (zu (zT (zN zb1 (zj 5) zp) (zA (zL zp)) zO)
 (zu (zT (zN zaL (zj 5) zp) (zA (zL (zby zp))) zO)
 (zA (zL zp))))))))
variable (xez:Got P w K mg base 1 "side_of" ["one","other","spot"] (upF K Dp.zeb))
theorem zkP:zQ ["ground","one","other","k"] ["ground","one","other"] (zJ zi5):=zX
include xad xax xez in
theorem zqd (F:Fun K "hinder" "hinder" zi5 f fd):zab P w K mg base (CXd P w) 7 f fd ["ground","one","other"] (zcW K Dp.zeP):=by
  refine zdO (b:=Dp.zgK) F zkP Dp.zou Dp.zp8 (fun cdv A outer s H E hr _ ex hX hM=>?_)
  unfold Dp.zgK
  exact (zu (zas (zck xad hX hr (zc (zj 0) (zc (zj 1) zq))))
 (zu (zas (zck xad hX hr (zc (zj 0) (zc (zj 2) zq))))
 (zu (zaz (zaw (zH xax hr (zc (zj 0) (zc (zy (zj 1) zp) (zc (zy (zj 2) zp) zq))))) (zaa (i:=3) zkP.nd) (zA (zT (zN zb1 (zH xez hr (zc (zj 1) (zc (zj 2) (zc (zy (zbo (zj 0) rfl) (zj 3)) zq)))) zp) (zA (zL (zj 3))) zO)))
 (zA (zL zem)))))
variable (xfk:zgO P w K mg base 7 "hinder" ["ground","one","other"] (zcW K Dp.zeP))
theorem zdg:zQ ["one","other","run","climb"] ["one","other"] (zJ zdK):=zX
theorem ziN (F:Fun K "square_between" "square_between" zdK f fd):zab P w K mg base CX0 1 f fd ["one","other"] (upF K Dp.zbx):=by
  refine zV (b:=Dp.zcp) F zdg Dp.zhJ Dp.ziL (fun cdv A outer s H E hr=>?_)
  unfold Dp.zcp
  exact (zu (zF (i:=2) zdg.nd (zW (zy (zj 1) zp) (zy (zj 0) zp)))
 (zu (zF (i:=3) zdg.nd (zW (zy (zj 1) zp) (zy (zj 0) zp)))
 (zA (zL (zR (zaj (zj 2) (zj 2)) (zaj (zj 3) (zj 3)))))))
variable (xbh:Got P w K mg base 1 "square_between" ["one","other"] (upF K Dp.zbx))
theorem zdN:zQ ["valley","one","other","corner","square"] ["valley","one","other"] (zJ zeg):=zX
include xfk xbh in
theorem zji (F:Fun K "hidden_always" "hidden_always" zeg f fd):zab P w K mg base CX0 8 f fd ["valley","one","other"] (upF K Dp.zbK):=by
  refine zV (b:=Dp.zcI) F zdN Dp.ziI Dp.zi2 (fun cdv A outer s H E hr=>?_)
  unfold Dp.zcI
  exact (zu (zF (i:=3) zdN.nd (zck xfk zjv hr (zc (zbo (zj 0) rfl) (zc (zj 1) (zc (zj 2) zq)))))
 (zu (zT (zN zgr (zj 3) zem) (zA (zL (zZ (zc zd2 (zc (zj 3) zq))))) zO)
 (zu (zF (i:=4) zdN.nd (zH xbh hr (zc (zj 1) (zc (zj 2) zq))))
 (zu (zT (zaQ (zc7 (zN zgr (zbo (zj 0) rfl) zem) (zcr (zN zb1 (zj 4) (zbo (zj 0) rfl))))) (zA (zL (zZ (zc zd2 (zc (zj 4) zq))))) zO)
 (zA (zL zem))))))
variable (xbp:Got P w K mg base 8 "hidden_always" ["valley","one","other"] (upF K Dp.zbK))
variable (xgf:∃ t,mg "DRIFT"=some (.int 6 t))
variable (xg9:∃ t,mg "RISE"=some (.int 7 t))
theorem zjj:zQ ["fog","hours","along","upwards"] ["fog","hours"] (zJ zks):=zX
include xbi xan xb4 xbj xgf xg9 in
theorem zr3 (F:Fun K "moved" "moved" zks f fd):zab P w K mg base CX0 1 f fd ["fog","hours"] (upF K Dp.zew):=by
  refine zV (b:=Dp.zij) F zjj Dp.zqw Dp.zrz (fun cdv A outer s H E hr=>?_)
  unfold Dp.zij
  exact (zu (zF (i:=2) zjj.nd (zaj (zy (zj 0) (zai rfl xgf)) (zj 1)))
 (zu (zF (i:=3) zjj.nd (zaj (zy (zj 0) (zai rfl xg9)) (zj 1)))
 (zA (zL (zZ (zc (zR (zy (zj 0) (zai rfl xbi)) (zj 2)) (zc (zR (zy (zj 0) (zai rfl xan)) (zj 2)) (zc (zR (zy (zj 0) (zai rfl xb4)) (zj 3)) (zc (zR (zy (zj 0) (zai rfl xbj)) (zj 3)) zq)))))))))
variable (xfc:Got P w K mg base 1 "moved" ["fog","hours"] (upF K Dp.zew))
theorem zd1:zQ ["box","one","other","run","climb","corners","across"] ["box","one","other"] (zJ zhL):=zX
include xbi xan xb4 xbj xbg xam in
theorem zoW (F:Fun K "margins" "margins" zhL f fd):zab P w K mg base CX0 1 f fd ["box","one","other"] (upF K Dp.zda):=by
  refine zV (b:=Dp.zfT) F zd1 Dp.zmV Dp.zo5 (fun cdv A outer s H E hr=>?_)
  unfold Dp.zfT
  exact (zu (zF (i:=3) zd1.nd (zW (zy (zj 2) zp) (zy (zj 1) zp)))
 (zu (zF (i:=4) zd1.nd (zW (zy (zj 2) zp) (zy (zj 1) zp)))
 (zu (zF (i:=5) zd1.nd (zaC (zc (zZ (zc (zy (zj 0) (zai rfl xbi)) (zc (zy (zj 0) (zai rfl xb4)) zq))) (zc (zZ (zc (zy (zj 0) (zai rfl xbi)) (zc (zy (zj 0) (zai rfl xbj)) zq))) (zc (zZ (zc (zy (zj 0) (zai rfl xan)) (zc (zy (zj 0) (zai rfl xb4)) zq))) (zc (zZ (zc (zy (zj 0) (zai rfl xan)) (zc (zy (zj 0) (zai rfl xbj)) zq))) zq))))))
 (zu (zfr (i:=6) zd1.nd (own:=["x","z"]) (free:=["run","one","climb"]) (fv:=[3,1,4]) ⟨rfl,rfl,rfl,True.intro⟩ ⟨rfl,rfl,rfl,rfl,rfl,rfl,rfl,rfl,rfl,True.intro⟩ (zaw (zj 5)) ⟨(zha (zbB (zag 0 (by decide)) (zbB (zag 1 (by decide)) zfN))),fun _ _ _ _ _=>(zhy (n:=2) rfl (zb6 (zaq (i:=0) (show List.Nodup (["x","z","run","one","climb"]:List Str) by decide +kernel) rfl (Or.inl rfl) (Or.inr rfl)) (zb6 (zaq (i:=1) (show List.Nodup (["x","z","run","one","climb"]:List Str) by decide +kernel) rfl (Or.inl rfl) (Or.inr rfl)) zgt)))⟩ (fun _ _ _ _ _=>za1) (fun _ _ _ _ _=>(zW (zaj (zj 2) (zW (zj 1) (zy (zj 3) zp))) (zaj (zj 4) (zW (zj 0) (zy (zj 3) zp))))))
 (zA (zL (zaC (zc (zW (zak zfi xam boot_max (zc (zy (zj 1) zp) (zc (zy (zj 2) zp) zq))) (zy (zj 0) (zai rfl xbi))) (zc (zW (zy (zj 0) (zai rfl xan)) (zak zgv xbg boot_min (zc (zy (zj 1) zp) (zc (zy (zj 2) zp) zq)))) (zc (zW (zak zfi xam boot_max (zc (zy (zj 1) zp) (zc (zy (zj 2) zp) zq))) (zy (zj 0) (zai rfl xb4))) (zc (zW (zy (zj 0) (zai rfl xbj)) (zak zgv xbg boot_min (zc (zy (zj 1) zp) (zc (zy (zj 2) zp) zq)))) (zc (zak zsR xam boot_max (zc (zj 6) zq)) (zc (zby (zak ztH xbg boot_min (zc (zj 6) zq))) zq)))))))))))))
variable (xdx:Got P w K mg base 1 "margins" ["box","one","other"] (upF K Dp.zda))
variable (xft:mg "sorted"=none)
theorem zio:zQ ["pairs","found","low","high"] ["pairs"] (zJ zmL):=zX
include xq xcx xam xft in
theorem zsM (F:Fun K "tidy" "tidy" zmL f fd):zab P w K mg base CX0 1 f fd ["pairs"] (upF K Dp.zdR):=by
  refine zV (b:=Dp.zjB) F zio Dp.zrb Dp.ztq (fun cdv A outer s H E hr=>?_)
  unfold Dp.zjB
  exact (zu (zF (i:=1) zio.nd (zaC zq))
 (zu (zaz (zaw (zak ztJ xft boot_sorted (zc (zbZ (own:=["pair"]) (free:=[]) (fv:=[]) True.intro True.intro (zaw (zj 0)) ⟨(zag 0 (by decide)),fun _ _ _ _ _=>(zaq (i:=0) (show List.Nodup (["pair"]:List Str) by decide +kernel) rfl (Or.inl rfl) (Or.inr rfl))⟩ (fun _ _ _ _ _=>(zgx (zN zeC (zy (zj 0) zp) (zy (zj 0) zp)))) (fun _ _ _ _ _=>(zZ (zc (zy (zj 0) zp) (zc (zy (zj 0) zp) zq))))) zq))) (zdX (n:=2) rfl (zax (zaa (i:=2) zio.nd) (zax (zaa (i:=3) zio.nd) zdQ))) (zA (zT (zaQ (zc7 (zN zb1 (zak zap xq boot_len (zc (zj 1) zq)) zp) (zcr (zN zeC (zj 2) (zR (zy (zy (zj 1) (zby zp)) zp) zp))))) (zA (zdV (zZ (zc (zy (zy (zj 1) (zby zp)) zp) (zc (zak zfi xam boot_max (zc (zy (zy (zj 1) (zby zp)) zp) (zc (zj 3) zq))) zq))) (zia (zj 1) (zby zp)))) (zA (zas (zde PySem.F.slot_list_append PySem.F.type_list_append za9 (zj 1) (zc (zZ (zc (zj 2) (zc (zj 3) zq))) zq)))))))
 (zA (zL (zeD zru xcx boot_tuple (zc (zj 1) zq))))))
variable (xa7:Got P w K mg base 1 "tidy" ["pairs"] (upF K Dp.zdR))
variable (xh4:mg "zip"=none)
theorem zb5:zQ ["fog","one","other","low","high","starts","afters","start","after","step"] ["fog","one","other"] (zJ zj1):=zX
include xby xer xbg xam xfc xdx xa7 xh4 in
theorem zrg (F:Fun K "foggy" "foggy" zj1 f fd):zab P w K mg base CX0 2 f fd ["fog","one","other"] (upF K Dp.zfA):=by
  refine zV (b:=Dp.zit) F zb5 Dp.zqq Dp.zrt (fun cdv A outer s H E hr=>?_)
  unfold Dp.zit
  exact (zu (zF (i:=3) zb5.nd zp)
 (zu (zF (i:=4) zb5.nd (zW (zy (zj 0) (zai rfl xer)) (zy (zj 0) (zai rfl xby))))
 (zu (zF (i:=5) zb5.nd (zH xdx hr (zc (zH xfc hr (zc (zj 0) (zc zp zq))) (zc (zj 1) (zc (zj 2) zq)))))
 (zu (zF (i:=6) zb5.nd (zH xdx hr (zc (zH xfc hr (zc (zj 0) (zc zp zq))) (zc (zj 1) (zc (zj 2) zq)))))
 (zu (zaz (zu2 rfl xh4 (zc (zj 5) (zc (zj 6) zq))) (zdX (n:=2) rfl (zax (zaa (i:=7) zb5.nd) (zax (zaa (i:=8) zb5.nd) zdQ))) (zu (zF (i:=9) zb5.nd (zW (zj 8) (zj 7)))
 (zA (zT (zN zb1 (zj 9) zp) (zA (zF (i:=3) zb5.nd (zak zfi xam boot_max (zc (zj 3) (zc (zby (zdj (zj 7) (zj 9))) zq))))) (zA (zT (zN zaL (zj 9) zp) (zA (zF (i:=4) zb5.nd (zak zgv xbg boot_min (zc (zj 4) (zc (zdj (zj 7) (zby (zj 9))) zq))))) (zA (zT (zN zaL (zj 7) zp) (zA (zL (zZ zq))) zO))))))))
 (zA (zL (zH xa7 hr (zc (zaC (zc (zZ (zc (zR (zy (zj 0) (zai rfl xby)) (zj 3)) (zc (zR (zy (zj 0) (zai rfl xby)) (zj 4)) zq))) zq)) zq)))))))))
variable (xgc:Got P w K mg base 2 "foggy" ["fog","one","other"] (upF K Dp.zfA))
theorem zfs:zQ ["fogs","one","other","found","fog"] ["fogs","one","other"] (zJ zf7):=zX
include xa7 xgc in
theorem zml (F:Fun K "foggy_all" "foggy_all" zf7 f fd):zab P w K mg base CX0 3 f fd ["fogs","one","other"] (upF K Dp.zcN):=by
  refine zV (b:=Dp.zeK) F zfs Dp.zk4 Dp.zlm (fun cdv A outer s H E hr=>?_)
  unfold Dp.zeK
  exact (zu (zF (i:=3) zfs.nd (zaC zq))
 (zu (zaz (zaw (zj 0)) (zaa (i:=4) zfs.nd) (zA (zas (zde PySem.F.slot_list_extend PySem.F.type_list_extend zoJ (zj 3) (zc (zH xgc hr (zc (zj 4) (zc (zj 1) (zc (zj 2) zq)))) zq)))))
 (zA (zL (zH xa7 hr (zc (zj 3) zq))))))
variable (xdt:Got P w K mg base 3 "foggy_all" ["fogs","one","other"] (upF K Dp.zcN))
theorem zgg:zQ ["spans","low","high","found","start","span"] ["spans","low","high"] (zJ zmw):=zX
include xa7 in
theorem zsV (F:Fun K "gaps" "gaps" zmw f fd):zab P w K mg base CX0 2 f fd ["spans","low","high"] (upF K Dp.zgo):=by
  refine zV (b:=Dp.zjo) F zgg Dp.zq7 Dp.zth (fun cdv A outer s H E hr=>?_)
  unfold Dp.zjo
  exact (zu (zF (i:=3) zgg.nd (zaC zq))
 (zu (zF (i:=4) zgg.nd (zj 1))
 (zu (zaz (zaw (zj 0)) (zaa (i:=5) zgg.nd) (zu (zas (zde PySem.F.slot_list_append PySem.F.type_list_append za9 (zj 3) (zc (zZ (zc (zj 4) (zc (zW (zy (zj 5) zp) zp) zq))) zq)))
 (zA (zF (i:=4) zgg.nd (zR (zy (zj 5) zp) zp)))))
 (zu (zas (zde PySem.F.slot_list_append PySem.F.type_list_append za9 (zj 3) (zc (zZ (zc (zj 4) (zc (zj 2) zq))) zq)))
 (zA (zL (zH xa7 hr (zc (zj 3) zq))))))))
variable (xg7:Got P w K mg base 2 "gaps" ["spans","low","high"] (upF K Dp.zgo))
theorem zfk:zQ ["one","other","found","low","high","other_low","other_high"] ["one","other"] (zJ zly):=zX
include xbg xam xa7 in
theorem zsC (F:Fun K "both" "both" zly f fd):zab P w K mg base CX0 2 f fd ["one","other"] (upF K Dp.zgp):=by
  refine zV (b:=Dp.zjn) F zfk Dp.zrw Dp.ztF (fun cdv A outer s H E hr=>?_)
  unfold Dp.zjn
  exact (zu (zF (i:=2) zfk.nd (zaC zq))
 (zu (zaz (zaw (zj 0)) (zdX (n:=2) rfl (zax (zaa (i:=3) zfk.nd) (zax (zaa (i:=4) zfk.nd) zdQ))) (zA (zaz (zaw (zj 1)) (zdX (n:=2) rfl (zax (zaa (i:=5) zfk.nd) (zax (zaa (i:=6) zfk.nd) zdQ))) (zA (zas (zde PySem.F.slot_list_append PySem.F.type_list_append za9 (zj 2) (zc (zZ (zc (zak zfi xam boot_max (zc (zj 3) (zc (zj 5) zq))) (zc (zak zgv xbg boot_min (zc (zj 4) (zc (zj 6) zq))) zq))) zq)))))))
 (zA (zL (zH xa7 hr (zc (zj 2) zq))))))
variable (xg1:Got P w K mg base 2 "both" ["one","other"] (upF K Dp.zgp))
theorem zoq:zQ ["one","other"] ["one","other"] (zJ zhK):=zX
include xq xg7 xg1 in
theorem zot (F:Fun K "without" "without" zhK f fd):zab P w K mg base CX0 3 f fd ["one","other"] (upF K Dp.zd5):=by
  refine zV (b:=Dp.zfO) F zoq Dp.znl Dp.zo0 (fun cdv A outer s H E hr=>?_)
  unfold Dp.zfO
  exact (zu (zT (zN (zb0 hr) (zak zap xq boot_len (zc (zj 0) zq)) zp) (zA (zL (zZ zq))) zO)
 (zA (zL (zH xg1 hr (zc (zj 0) (zc (zH xg7 hr (zc (zj 1) (zc (zy (zy (zj 0) zp) zp) (zc (zy (zy (zj 0) (zby zp)) zp) zq)))) zq))))))
variable (xe8:Got P w K mg base 3 "without" ["one","other"] (upF K Dp.zd5))
theorem zgU:zQ ["valley","name","other","one_top","other_top","hours"] ["valley","name","other"] (zJ zkf):=zX
include xdv xbp xdt xe8 in
theorem zrT (F:Fun K "sight" "sight" zkf f fd):zab P w K mg base (CXd P w) 9 f fd ["valley","name","other"] (zcW K Dp.zft):=by
  refine zdO (b:=Dp.zif) F zgU Dp.zqG Dp.zro (fun cdv A outer s H E hr _ ex hX hM=>?_)
  unfold Dp.zif
  exact (zu (zF (i:=3) zgU.nd (zck xdv hX hr (zc (zj 0) (zc (zj 1) zq))))
 (zu (zF (i:=4) zgU.nd (zck xdv hX hr (zc (zj 0) (zc (zj 2) zq))))
 (zu (zF (i:=5) zgU.nd (zZ (zc (zZ (zc (zbo (zj 0) rfl) (zc (zbo (zj 0) rfl) zq))) zq)))
 (zu (zT (zN (zb0 hr) (zj 1) (zj 2)) (zA (zL (zj 5))) zO)
 (zu (zT (zN zgr (zH xbp hr (zc (zj 0) (zc (zj 3) (zc (zj 4) zq)))) zem) (zA (zL (zZ zq))) zO)
 (zA (zL (zH xe8 hr (zc (zj 5) (zc (zH xdt hr (zc (zbo (zj 0) rfl) (zc (zj 3) (zc (zj 4) zq)))) zq))))))))))
variable (xgd:zgO P w K mg base 9 "sight" ["valley","name","other"] (zcW K Dp.zft))
variable (xh3:mg "any"=none)
theorem zqW:zQ ["spans","hour"] ["spans","hour"] (zJ zj5):=zX
include xh3 in
theorem zqN (F:Fun K "holds" "holds" zj5 f fd):zab P w K mg base CX0 1 f fd ["spans","hour"] (upF K Dp.zfm):=by
 refine zV (b:=Dp.ziw) F zqW Dp.zqa Dp.zq4 (fun cdv A outer s H E hr=>?_)
 unfold Dp.ziw
 exact (zA (zL (zak zvR xh3 boot_any (zc (zbZ (own:=["low","high"]) (free:=["hour"]) (fv:=[1]) ⟨rfl,True.intro⟩ ⟨rfl,rfl,rfl,True.intro⟩ (zaw (zj 0)) ⟨(zha (zbB (zag 0 (by decide)) (zbB (zag 1 (by decide)) zfN))),fun _ _ _ _ _=>(zhy (n:=2) rfl (zb6 (zaq (i:=0) (show List.Nodup (["low","high","hour"]:List Str) by decide +kernel) rfl (Or.inl rfl) (Or.inr rfl)) (zb6 (zaq (i:=1) (show List.Nodup (["low","high","hour"]:List Str) by decide +kernel) rfl (Or.inl rfl) (Or.inr rfl)) zgt)))⟩ (fun _ _ _ _ _=>za1) (fun _ _ _ _ _=>(zrD zeC zeC (zj 0) (zj 2) (zj 1)))) zq))))
variable (xgg:Got P w K mg base 1 "holds" ["spans","hour"] (upF K Dp.zfm))
variable (xha:∃ t,mg "LIT"=some (.int 2 t))
theorem zeW:zQ ["valley","ahead","triple","name","seen"] ["valley","ahead","triple"] (zJ zfI):=zX
include xbf xbc xgd xgg xha in
theorem zkV (F:Fun K "step_holds" "step_holds" zfI f fd):zab P w K mg base CX0 10 f fd ["valley","ahead","triple"] (upF K Dp.zcy):=by
  refine zV (b:=Dp.zeh) F zeW Dp.zj2 Dp.zkW (fun cdv A outer s H E hr=>?_)
  unfold Dp.zeh
  exact (zu (zF (i:=3) zeW.nd (zy (zj 2) zp))
 (zu (zF (i:=4) zeW.nd (zy (zj 2) zp))
 (zu (zT (zaQ (zbX (zN (zb0 hr) (zj 3) (zy (zj 1) zp)) (zbX (ziB (zgH hr) (zj 3) (zH xbc hr (zc (zj 0) zq))) (zbH (zbQ (zaS (zH xbf hr (zc (zj 4) zq)))))))) (zA (zL zaN)) zO)
 (zu (zT (zaQ (zbX (zN zaL (zj 4) (zy (zj 1) (zai rfl xha))) (zbH (zN (ze4 hr) (zy (zj 2) (zai rfl xha)) (zR (zj 4) (zbo (zj 0) rfl)))))) (zA (zL zaN)) zO)
 (zA (zL (zH xgg hr (zc (zck xgd zjv hr (zc (zj 0) (zc (zy (zj 1) zp) (zc (zj 3) zq)))) (zc (zj 4) zq)))))))))
variable (xch:Got P w K mg base 10 "step_holds" ["valley","ahead","triple"] (upF K Dp.zcy))
theorem zhV:zQ ["valley","name","hour","way","k"] ["valley","name","hour","way"] (zJ zgc):=zX
include xq xr xap xa9 xch in
theorem zmm (F:Fun K "way_holds" "way_holds" zgc f fd):zab P w K mg base CX0 11 f fd ["valley","name","hour","way"] (upF K Dp.zce):=by
  refine zV (b:=Dp.zeI) F zhV Dp.zkU Dp.zlz (fun cdv A outer s H E hr=>?_)
  unfold Dp.zeI
  exact (zu (zas (zck xap zjv hr (zc (zj 0) (zc (zj 1) zq))))
 (zu (zas (zck xa9 zjv hr (zc (zj 0) (zc (zj 2) zq))))
 (zu (zT (zaQ (zbX (zN (zb0 hr) (zak zap xq boot_len (zc (zj 3) zq)) zp) (zbH (zN (ze4 hr) (zy (zj 3) zp) (zZ (zc (zj 1) (zc (zj 2) (zc (zj 2) zq)))))))) (zA (zL zaN)) zO)
 (zu (zaz (zie xr (zc zp (zc (zak zap xq boot_len (zc (zj 3) zq)) zq))) (zaa (i:=4) zhV.nd) (zA (zT (zbQ (zaS (zH xch hr (zc (zj 0) (zc (zy (zj 3) (zW (zj 4) zp)) (zc (zy (zj 3) (zj 4)) zq)))))) (zA (zL zaN)) zO)))
 (zA (zL zaN))))))
variable (xb0:Got P w K mg base 11 "way_holds" ["valley","name","hour","way"] (upF K Dp.zce))
theorem za4:zQ ["way","names","cell","at","name","spied","lit","kind","off","rows","row","bent"] ["way","names","cell"] (zJ zgM):=zX
include xq xg in
theorem znb (F:Fun K "_law_bent" "_law_bent" zgM f fd):zab P w K mg base CX0 2 f fd ["way","names","cell"] (upF K Dp.zdv):=by
  refine zV (b:=Dp.ze7) F za4 Dp.zmq Dp.zno (fun cdv A outer s H E hr=>?_)
  unfold Dp.ze7
  exact (zu (zF (i:=3) za4.nd (zH xg hr (zc (zj 2) (zc zp (zc (zak zap xq boot_len (zc (zj 0) zq)) zq)))))
 (zu (zdV (zy (zj 0) (zj 3)) (zdX (n:=3) rfl (zax (zaa (i:=4) za4.nd) (zax (zaa (i:=5) za4.nd) (zax (zaa (i:=6) za4.nd) zdQ)))))
 (zu (zF (i:=7) za4.nd (zH xg hr (zc (zj 2) (zc zp (zc zp zq)))))
 (zu (zF (i:=8) za4.nd (zW (zaj (zH xg hr (zc (zj 2) (zc zp (zc zp zq)))) zp) zp))
 (zu (zF (i:=9) za4.nd (zaC (zc (zZ (zc (zj 4) (zc (zR (zj 5) (zj 8)) (zc (zj 6) zq)))) (zc (zZ (zc (zj 4) (zc (zj 5) (zc (zR (zj 6) (zj 8)) zq)))) zq))))
 (zu (zas (zde PySem.F.slot_list_append PySem.F.type_list_append za9 (zj 9) (zc (zZ (zc (zj 4) (zc (zR (zj 5) (zj 8)) (zc (zR (zj 6) (zj 8)) zq)))) zq)))
 (zu (zas (zde PySem.F.slot_list_append PySem.F.type_list_append za9 (zj 9) (zc (zZ (zc (zy (zj 1) (zH xg hr (zc (zj 2) (zc zp (zc (zak zap xq boot_len (zc (zj 1) zq)) zq))))) (zc (zj 5) (zc (zj 6) zq)))) zq)))
 (zu (zas (zde PySem.F.slot_list_append PySem.F.type_list_append za9 (zj 9) (zc (zZ (zc (zR (zj 4) zd2) (zc (zj 5) (zc (zj 6) zq)))) zq)))
 (zu (zT (zN zaL (zj 7) zp) (zA (zL (zR (zR (zcK (zj 0) zbI (zbe (zj 3))) (zaC (zc (zy (zj 9) (zj 7)) zq))) (zcK (zj 0) (zbe (zR (zj 3) zp)) zbI)))) zO)
 (zu (zT (zN (zb0 hr) (zj 7) zp) (zA (zL (zR (zcK (zj 0) zbI (zbe (zj 3))) (zcK (zj 0) (zbe (zR (zj 3) zp)) zbI)))) zO)
 (zu (zT (zN (zb0 hr) (zj 7) zp) (zA (zL (zR (zR (zcK (zj 0) zbI (zbe (zj 3))) (zaC (zc (zy (zj 0) (zj 3)) zq))) (zcK (zj 0) (zbe (zj 3)) zbI)))) zO)
 (zu (zT (zN (zb0 hr) (zj 7) zp) (zu (zF (i:=10) za4.nd (zy (zj 0) (zj 3)))
 (zu (zF (i:=11) za4.nd (zR (zcK (zj 0) zbI (zbe (zj 3))) (zcK (zj 0) (zbe (zR (zj 3) zp)) zbI)))
 (zu (zas (zde PySem.F.slot_list_insert PySem.F.type_list_insert zpx (zj 11) (zc (zR (zj 3) zp) (zc (zj 10) zq))))
 (zA (zL (zj 11)))))) zO)
 (zA (zL (zaC zq)))))))))))))))
variable (xei:Got P w K mg base 2 "_law_bent" ["way","names","cell"] (upF K Dp.zdv))
theorem zb2:zQ ["known","start","hour","way","vale","table","names","k","ahead","row"] ["known","start","hour","way"] (zJ zgT):=zX
include xq xr in
theorem zmP (F:Fun K "_law_good" "_law_good" zgT f fd):zab P w K mg base CX0 1 f fd ["known","start","hour","way"] (upF K Dp.zdw):=by
  refine zV (b:=Dp.zfd) F zb2 Dp.zlV Dp.zmQ (fun cdv A outer s H E hr=>?_)
  unfold Dp.zfd
  exact (zu (zdV (zj 0) (zdX (n:=3) rfl (zax (zaa (i:=4) zb2.nd) (zax (zaa (i:=5) zb2.nd) (zax (zaa (i:=6) zb2.nd) zdQ)))))
 (zu (zT (zaQ (zbX (zN (zb0 hr) (zak zap xq boot_len (zc (zj 3) zq)) zp) (zbH (zN (ze4 hr) (zy (zj 3) zp) (zZ (zc (zy (zj 6) (zj 1)) (zc (zj 2) (zc (zj 2) zq)))))))) (zA (zL zaN)) zO)
 (zu (zaz (zie xr (zc zp (zc (zak zap xq boot_len (zc (zj 3) zq)) zq))) (zaa (i:=7) zb2.nd) (zu (zF (i:=8) zb2.nd (zy (zj 3) (zW (zj 7) zp)))
 (zu (zF (i:=9) zb2.nd (zy (zj 3) (zj 7)))
 (zu (zT (zaQ (zbX (ziB (zgH hr) (zy (zj 9) zp) (zj 6)) (zbH (zN (zb0 hr) (zy (zj 9) zp) (zy (zj 8) zp))))) (zA (zL zaN)) zO)
 (zu (zT (zaQ (zbX (zN zaL (zy (zj 9) zp) (zy (zj 8) zp)) (zbH (zN (ze4 hr) (zy (zj 9) zp) (zR (zy (zj 9) zp) (zy (zj 4) zp)))))) (zA (zL zaN)) zO)
 (zA (zT (ziB (zgH hr) (zy (zj 9) zp) (zy (zy (zj 5) (zde PySem.F.slot_list_index PySem.F.type_list_index (zlu hr) (zj 6) (zc (zy (zj 8) zp) zq))) (zde PySem.F.slot_list_index PySem.F.type_list_index (zlu hr) (zj 6) (zc (zy (zj 9) zp) zq)))) (zA (zL zaN)) zO)))))))
 (zA (zL zaN)))))
variable (xeo:Got P w K mg base 1 "_law_good" ["known","start","hour","way"] (upF K Dp.zdw))
theorem zci:zQ ["script","vale","valley","table","names","known","k","hour","way","cell","bent","handed","found"] ["script"] (zJ ze1):=zX
include xq xbr xg xr xec xae xab xeq xcc xd8 xen xb0 xei xeo in
theorem zuC (F:Fun K "law" "law" ze1 f fd):zab P w K mg base CX0 12 f fd ["script"] (upF K Dp.zfz):=by
  refine zV (b:=Dp.zle) F zci Dp.ztE Dp.zuB (fun cdv A outer s H E hr=>?_)
  unfold Dp.zle
  exact (zu (zF (i:=1) zci.nd (zH xec hr (zc (zj 0) (zc zp (zc zp (zc zp zq))))))
 (zu (zF (i:=2) zci.nd (zH xcc hr (zc (zj 1) zq)))
 (zu (zF (i:=3) zci.nd (zH xd8 hr (zc (zj 1) zq)))
 (zu (zfr (i:=4) zci.nd (own:=["beacon"]) (free:=[]) (fv:=[]) True.intro True.intro (zaw (zy (zj 1) zp)) ⟨(zag 0 (by decide)),fun _ _ _ _ _=>(zaq (i:=0) (show List.Nodup (["beacon"]:List Str) by decide +kernel) rfl (Or.inl rfl) (Or.inr rfl))⟩ (fun _ _ _ _ _=>za1) (fun _ _ _ _ _=>(zy (zj 0) zp)))
 (zu (zF (i:=5) zci.nd (zZ (zc (zj 1) (zc (zj 3) (zc (zj 4) zq)))))
 (zu (zaz (zcA xr (zc (zak zap xq boot_len (zc (zj 4) zq)) zq)) (zaa (i:=6) zci.nd) (zu (zF (i:=7) zci.nd (zR (zy (zj 1) zp) (zH xg hr (zc (zH xbr hr (zc (zj 0) (zc (zj 6) zq))) (zc zp (zc (zR (zW (zy (zj 1) zp) (zy (zj 1) zp)) zp) zq))))))
 (zu (zF (i:=8) zci.nd (zH xen hr (zc (zj 5) (zc (zj 6) (zc (zj 7) (zc (zcK (zj 0) zbI (zbe zp)) zq))))))
 (zu (zT (zN zgr (zH xb0 hr (zc (zj 2) (zc (zy (zj 4) (zj 6)) (zc (zj 7) (zc (zeD zdS xae boot_list (zc (zj 8) zq)) zq))))) zaN) (zA (zL zaN)) zO)
 (zA (zaz (zaw (zR (zcK (zj 0) zbI (zbe zp)) (zaC (zc zp (zc zp (zc zp zq)))))) (zaa (i:=9) zci.nd) (zu (zF (i:=10) zci.nd (zH xei hr (zc (zj 8) (zc (zj 4) (zc (zj 9) zq)))))
 (zu (zF (i:=11) zci.nd (zeD zdS xae boot_list (zc (zj 10) zq)))
 (zu (zF (i:=12) zci.nd (zH xb0 hr (zc (zj 2) (zc (zy (zj 4) (zj 6)) (zc (zj 7) (zc (zj 11) zq))))))
 (zu (zT (zaQ (zbX (zbQ (zaS (zak zjq xab boot_isinstance (zc (zj 12) (zc (zlh rfl xeq boot_bool) zq))))) (zbH (zN (ze4 hr) (zj 11) (zj 10))))) (zA (zL zaN)) zO)
 (zA (zT (zN (ze4 hr) (zj 12) (zH xeo hr (zc (zj 5) (zc (zj 6) (zc (zj 7) (zc (zj 10) zq)))))) (zA (zL zaN)) zO))))))))))))
 (zA (zL zaN))))))))
end
theorem all_mk {l:W.OpenLaw}{w:World}{K:W.Frag}{h:Heap}{mg:Str->Option Value}{fa:Addr}(X:K.In h)(G:h.Ns mainGlobals mg)(hfa:mg "law"=some (.ref fa))
  {xku xkm xkb xh2 xh9 xiv xif xhz xj7 xi8 xfi xfo xke xf4 xlf xld xgs xjk xix xip xkr xgo xjq xkw xgl xfy xig xiu xji xj1 xh6 xjn xje xjs xi9 xf2 xgt xkh xfd xgn xkf xkx xgx xgy xla xkj xll xk1 xio xlp f_both xj8 xk0 xk5 xh7 xiy xjl xjg:Addr}{xks xj5 xkc xh1 xia xiq xin xh0 xki xjh xfj xfq xj6 xf7 xlj xlb xgq xi3 xit xiz xkt xgm xjr xkp xgk xf5 xij xir xjv xj3 xil xi4 xju xjp xi7 xf6 xgr xkd xfe xgj xka xkq xgu xhb xk4 xkn xlh xlc xiw xlm xlq xj4 xk3 xk8 xib xis xjz xi0:FuncData}
  {xhq xhv:Option Addr} {xhe:Array (Option Value)} {xhr xhj xhc xhx xfh xht:Value} {xb1:Addr} {xac:Addr}
  {xhu xhf:Option Addr} {xho:Array (Option Value)} {xhg xhp xhk xhl xfg xhh:Value} {xb3:Addr} {xu:Addr}
  {xlr xkk:Option Addr} {xli:Array (Option Value)} {xlk xkg xkl xj9 xie xko:Value} {xja:Addr}
  {xgp:Addr}
  {xhy:Addr}
  {xg8:Addr}
  {xgw:Tok} {xgz:Tok} {xg3:Tok} {xik:Tok} {xg4:Tok} {xi2:Tok} {xjo:Tok} {xk6:Tok} {xky:Tok} {xlg:Tok} {xk7:Tok} {xkv:Tok} {xk9:Tok} {xkz:Tok} {xk2:Tok} {xln:Tok}
  (xfu:FH K "_law_at" ziU xku xks)
  (xe3:FH K "_law_mix" zhM xkm xj5)
  (xe2:FH K "_law_far" zhU xkb xkc)
  (xb2:FH K "_law_corners" zeY xh2 xh1)
  (xcf:FH K "_law_folded" zfu xh9 xia)
  (xdp:FH K "_law_names" zf2 xiv xiq)
  (xcm:FH K "_law_height" zfo xif xin)
  (xb7:FH K "_law_beacons" zeZ xhz xh0)
  (xe1:FH K "_law_fog" zh5 xj7 xki)
  (xd6:FH K "_law_vale" zgP xi8 xjh)
  (xaj:FH K "refuse_bad_corners" zcl xfi xfj)
  (xbk:W.nsIn K mainGlobals "Ground"=some (some (.ref xac))) (xd0:K.lookup xb1=some ⟨xhr,xhq,.func (W.fnOf "__init__" "Ground.__init__" (zbP zbO) (zbf zbO) (zJ zbO) .none xhj xhc xhx xhv xfh xht),xhe⟩) (xd2:W.codeIn K xfh "Ground.__init__"=true) (xdz:W.keepIn K (.ref xb1)=true)
  (xct:W.makesIn K xac=true) (xc4:W.findIn K (.ref xac) "__init__"=some (some (.ref xb1))) (xde:W.isFn K (.ref xb1)=true) (xc7:W.keepIn K (.ref xac)=true) (xcr:W.plainGet K xac Str.empty=true) (xcq:W.hasDictIn K xac=true) (xcy:W.plainOver K xac=true) (xcp:W.findIn K (.ref xac) "__setattr__"=some (some (.builtin "object.__setattr__"))) (xcw:W.findIn K (.ref xac) "corners"=some none)
  (xah:FH K "refuse_bad_numbers" zco xfo xfq)
  (xet:FH K "is_name" zh8 xke xj6)
  (xao:FH K "refuse_bad_names" zcQ xf4 xf7)
  (xg0:FH K "less" zmy xlf xlj)
  (xgh:FH K "is_on" zko xld xlb)
  (xbe:FH K "common_divisor" zdI xgs xgq)
  (xel:FH K "fraction" zgE xjk xi3)
  (xdl:FH K "height_on" zgb xix xit)
  (xdr:FH K "ground_at" zf6 xip xiz)
  (xfm:FH K "stands" zi1 xkr xkt)
  (xay:FH K "refuse_bad_tops" zdd xgo xgm)
  (xep:FH K "is_whole" zgL xjq xjr)
  (xfn:FH K "is_fog" zi0 xkw xkp)
  (xa6:FH K "refuse_bad_fogs" zdi xgl xgk)
  (xas:FH K "refuse_bad_hours" zcP xfy xf5)
  (xaa:W.nsIn K mainGlobals "Valley"=some (some (.ref xu))) (xd3:K.lookup xb3=some ⟨xhg,xhu,.func (W.fnOf "__init__" "Valley.__init__" (zbP zbN) (zbf zbN) (zJ zbN) .none xhp xhk xhl xhf xfg xhh),xho⟩) (xd1:W.codeIn K xfg "Valley.__init__"=true) (xd4:W.keepIn K (.ref xb3)=true)
  (xcu:W.makesIn K xu=true) (xc8:W.findIn K (.ref xu) "__init__"=some (some (.ref xb3))) (xco:W.isFn K (.ref xb3)=true) (xdd:W.keepIn K (.ref xu)=true) (xdf:W.plainGet K xu Str.empty=true) (xdc:W.hasDictIn K xu=true) (xcv:W.plainOver K xu=true) (xcz:W.findIn K (.ref xu) "__setattr__"=some (some (.builtin "object.__setattr__"))) (xdh:W.findIn K (.ref xu) "ground"=some none) (xc5:W.findIn K (.ref xu) "beacons"=some none) (xc1:W.findIn K (.ref xu) "fogs"=some none) (xc6:W.findIn K (.ref xu) "haze"=some none) (xcs:W.findIn K (.ref xu) "first"=some none) (xc3:W.findIn K (.ref xu) "last"=some none) (xda:W.findIn K (.ref xu) "delay"=some none)
  (xca:FH K "_law_valley" zfG xig xij)
  (xdo:FH K "_law_clear" zf8 xiu xir)
  (xea:FH K "_law_part" zgZ xji xjv)
  (xeg:FH K "_law_meet" zgC xj1 xj3)
  (xce:FH K "_law_fogged" zfl xh6 xil)
  (xef:FH K "_law_sees" zgA xjn xi4)
  (xek:FH K "_law_seen" zgW xje xju)
  (xee:FH K "_law_made" zgY xjs xjp)
  (xej:FH K "names_of" zhd xi9 xi7)
  (xar:FH K "refuse_no_beacon" zcU xf2 xf6)
  (xba:FH K "refuse_no_hour" zdL xgt xgr)
  (xey:FH K "spot_of" zhG xkh xkd)
  (xaf:FH K "refuse_not_standing" zcc xfd xfe)
  (xa3:FH K "numbers_between" zdh xgn xgj)
  (xe5:FH K "side_of" zhz xkf xka)
  (xfp:FH K "hinder" zi5 xkx xkq)
  (xa8:FH K "square_between" zdK xgx xgu)
  (xbm:FH K "hidden_always" zeg xgy xhb)
  (xgi:FH K "moved" zks xla xk4)
  (xe7:FH K "margins" zhL xkj xkn)
  (xg6:FH K "tidy" zmL xll xlh)
  (xga:FH K "foggy" zj1 xk1 xlc)
  (xdq:FH K "foggy_all" zf7 xio xiw)
  (xg2:FH K "gaps" zmw xlp xlm)
  (xg5:FH K "both" zly f_both xlq)
  (xex:FH K "without" zhK xj8 xj4)
  (xgb:FH K "sight" zkf xk0 xk3)
  (xge:FH K "holds" zj5 xk5 xk8)
  (xck:FH K "step_holds" zfI xh7 xib)
  (xdi:FH K "way_holds" zgc xiy xis)
  (xed:FH K "_law_bent" zgM xjl xjz)
  (xd9:FH K "_law_good" zgT xjg xi0)
  (xj0:W.nsIn K mainGlobals "law"=some (some (.ref xja))) (xi6:K.lookup xja=some ⟨xlk,xlr,.func (W.fnOf "law" "law" (zbP ze1) (zbf ze1) (zJ ze1) .none xkg xkl xj9 xkk xie xko),xli⟩) (xj2:W.codeIn K xie "law"=true) (xjd:W.keepIn K (.ref xja)=true)
  (xbz:W.nsIn K mainGlobals "OffGround"=some (some (.ref xgp))) (xfb:zlq K xgp=true) (xdw:W.nsIn K mainGlobals "BadHour"=some (some (.ref xhy))) (xf3:zlq K xhy=true) (xcl:W.nsIn K mainGlobals "NoBeacon"=some (some (.ref xg8))) (xfr:zlq K xg8=true)
  (xjc:W.nsIn K mainGlobals "len"=some none) (xhw:W.nsIn K mainGlobals "range"=some none) (xjy:W.nsIn K mainGlobals "abs"=some none) (xii:W.nsIn K mainGlobals "list"=some none) (xjj:W.nsIn K mainGlobals "all"=some none) (xjf:W.nsIn K mainGlobals "set"=some none) (xi1:W.nsIn K mainGlobals "int"=some none) (xes:W.nsIn K mainGlobals "isinstance"=some none) (xh8:W.nsIn K mainGlobals "bool"=some none) (xhs:W.nsIn K mainGlobals "tuple"=some none) (xjm:W.nsIn K mainGlobals "min"=some none) (xjb:W.nsIn K mainGlobals "max"=some none) (xe9:W.nsIn K mainGlobals "enumerate"=some none) (xgv:W.nsIn K mainGlobals "sorted"=some none) (xjx:W.nsIn K mainGlobals "zip"=some none) (xi5:W.nsIn K mainGlobals "any"=some none)
  (xcd:W.nsIn K mainGlobals "LEAST_CORNERS"=some (some (.int 2 xgw))) (xcn:W.nsIn K mainGlobals "MOST_CORNERS"=some (some (.int 40 xgz))) (xc9:W.nsIn K mainGlobals "MOST_BEACONS"=some (some (.int 12 xg3))) (xfa:W.nsIn K mainGlobals "MOST_FOGS"=some (some (.int 12 xik))) (xc2:W.nsIn K mainGlobals "MOST_LETTERS"=some (some (.int 8 xg4))) (xfz:W.nsIn K mainGlobals "LETTERS"=some (some (.str "abcdefghijklmnopqrstuvwxyz" xi2))) (xf9:W.nsIn K mainGlobals "NUMBERS"=some (some (.int 8 xjo))) (xih:W.nsIn K mainGlobals "LEFT"=some (some (.int 0 xk6))) (xhm:W.nsIn K mainGlobals "RIGHT"=some (some (.int 1 xky))) (xjt:W.nsIn K mainGlobals "LOW"=some (some (.int 2 xlg))) (xid:W.nsIn K mainGlobals "HIGH"=some (some (.int 3 xk7))) (xhd:W.nsIn K mainGlobals "FIRST"=some (some (.int 4 xkv))) (xic:W.nsIn K mainGlobals "LAST"=some (some (.int 5 xk9))) (xhn:W.nsIn K mainGlobals "DRIFT"=some (some (.int 6 xkz))) (xim:W.nsIn K mainGlobals "RISE"=some (some (.int 7 xk2))) (xjw:W.nsIn K mainGlobals "LIT"=some (some (.int 2 xln))) :
  ∃ fd:FuncData,(∀ (s:Shared) (v:Value),BindsTo s fd ⟨[v],[]⟩ [("script",v)])/\∀ base:Heap,K.In base->base.Ns mainGlobals mg->zab l.prog w K mg base CX0 12 fa fd ["script"] (upF K Dp.zfz):=by
 have e:=hfa.symm.trans (W.mg_of X G xj0)
 cases e
 have xaw:∀ C,W.nsIn K mainGlobals "Ground"=some (some (.ref C))->zaB K C "corners":=fun C hC=>by
  rw [xbk] at hC;cases hC;exact xcw
 have xfx:=zjT (st:=zbO) xd0 xd2 xdz
 have zbU:=xfx.binds (ps:=["self","corners"]) fun _ _ _ _ _ _ us hl=>by obtain⟨_,_,rfl⟩:=zoc hl;rfl
 have xbd:∀ C,W.nsIn K mainGlobals "Valley"=some (some (.ref C))->zaB K C "ground":=fun C hC=>by
  rw [xaa] at hC;cases hC;exact xdh
 have xa5:∀ C,W.nsIn K mainGlobals "Valley"=some (some (.ref C))->zaB K C "beacons":=fun C hC=>by
  rw [xaa] at hC;cases hC;exact xc5
 have xbw:∀ C,W.nsIn K mainGlobals "Valley"=some (some (.ref C))->zaB K C "fogs":=fun C hC=>by
  rw [xaa] at hC;cases hC;exact xc1
 have xbv:∀ C,W.nsIn K mainGlobals "Valley"=some (some (.ref C))->zaB K C "haze":=fun C hC=>by
  rw [xaa] at hC;cases hC;exact xc6
 have xbn:∀ C,W.nsIn K mainGlobals "Valley"=some (some (.ref C))->zaB K C "first":=fun C hC=>by
  rw [xaa] at hC;cases hC;exact xcs
 have xbx:∀ C,W.nsIn K mainGlobals "Valley"=some (some (.ref C))->zaB K C "last":=fun C hC=>by
  rw [xaa] at hC;cases hC;exact xc3
 have xbl:∀ C,W.nsIn K mainGlobals "Valley"=some (some (.ref C))->zaB K C "delay":=fun C hC=>by
  rw [xaa] at hC;cases hC;exact xda
 have xfw:=zjT (st:=zbN) xd3 xd1 xd4
 have zbR:=xfw.binds (ps:=["self","ground","beacons","fogs","haze","first","last","delay"]) fun _ _ _ _ _ _ us hl=>by obtain⟨_,_,_,_,_,_,_,_,rfl⟩:=zwM hl;rfl
 have xls:=zjT (st:=ze1) xi6 xj2 xjd
 have xak:∀ C,W.nsIn K mainGlobals "OffGround"=some (some (.ref C))->ExC K C:=fun C h=>by
  rw [xbz] at h;cases h;exact ExC.of xfb
 have xal:∃ C,W.nsIn K mainGlobals "OffGround"=some (some (.ref C))/\mg "OffGround"=some (.ref C):=⟨_,xbz,W.mg_of X G xbz⟩
 have xav:∀ C,W.nsIn K mainGlobals "NoBeacon"=some (some (.ref C))->ExC K C:=fun C h=>by
  rw [xcl] at h;cases h;exact ExC.of xfr
 have xau:∃ C,W.nsIn K mainGlobals "NoBeacon"=some (some (.ref C))/\mg "NoBeacon"=some (.ref C):=⟨_,xcl,W.mg_of X G xcl⟩
 have xeh:∀ C,W.nsIn K mainGlobals "BadHour"=some (some (.ref C))->ExC K C:=fun C h=>by
  rw [xdw] at h;cases h;exact ExC.of xf3
 have xd5:∃ C,W.nsIn K mainGlobals "BadHour"=some (some (.ref C))/\mg "BadHour"=some (.ref C):=⟨_,xdw,W.mg_of X G xdw⟩
 have xq:=W.mg_none_of X G xjc
 have xr:=W.mg_none_of X G xhw
 have xe6:=W.mg_none_of X G xjy
 have xae:=W.mg_none_of X G xii
 have xa0:=W.mg_none_of X G xjj
 have xh5:=W.mg_none_of X G xjf
 have xfv:=W.mg_none_of X G xi1
 have xab:=W.mg_none_of X G xes
 have xeq:=W.mg_none_of X G xh8
 have xcx:=W.mg_none_of X G xhs
 have xbg:=W.mg_none_of X G xjm
 have xam:=W.mg_none_of X G xjb
 have xdu:=W.mg_none_of X G xe9
 have xft:=W.mg_none_of X G xgv
 have xh4:=W.mg_none_of X G xjx
 have xh3:=W.mg_none_of X G xi5
 have xbo:∃ t,mg "LEAST_CORNERS"=some (.int 2 t):=⟨_,W.mg_of X G xcd⟩
 have xbt:∃ t,mg "MOST_CORNERS"=some (.int 40 t):=⟨_,W.mg_of X G xcn⟩
 have xbu:∃ t,mg "MOST_BEACONS"=some (.int 12 t):=⟨_,W.mg_of X G xc9⟩
 have xdj:∃ t,mg "MOST_FOGS"=some (.int 12 t):=⟨_,W.mg_of X G xfa⟩
 have xbs:∃ t,mg "MOST_LETTERS"=some (.int 8 t):=⟨_,W.mg_of X G xc2⟩
 have xeu:∃ t,mg "LETTERS"=some (.str "abcdefghijklmnopqrstuvwxyz" t):=⟨_,W.mg_of X G xfz⟩
 have xe4:∃ t,mg "NUMBERS"=some (.int 8 t):=⟨_,W.mg_of X G xf9⟩
 have xbi:∃ t,mg "LEFT"=some (.int 0 t):=⟨_,W.mg_of X G xih⟩
 have xan:∃ t,mg "RIGHT"=some (.int 1 t):=⟨_,W.mg_of X G xhm⟩
 have xb4:∃ t,mg "LOW"=some (.int 2 t):=⟨_,W.mg_of X G xjt⟩
 have xbj:∃ t,mg "HIGH"=some (.int 3 t):=⟨_,W.mg_of X G xid⟩
 have xby:∃ t,mg "FIRST"=some (.int 4 t):=⟨_,W.mg_of X G xhd⟩
 have xer:∃ t,mg "LAST"=some (.int 5 t):=⟨_,W.mg_of X G xic⟩
 have xgf:∃ t,mg "DRIFT"=some (.int 6 t):=⟨_,W.mg_of X G xhn⟩
 have xg9:∃ t,mg "RISE"=some (.int 7 t):=⟨_,W.mg_of X G xim⟩
 have xha:∃ t,mg "LIT"=some (.int 2 t):=⟨_,W.mg_of X G xjw⟩
 refine⟨W.fnOf "law" "law" (zbP ze1) (zbf ze1) (zJ ze1) .none xkg xkl xj9 xkk xie xko,fun s v=>.of_eq rfl,fun base _ _=>?_⟩
 have xbr:=zac l.prog w base X G xfu (zqk xq xfu.F)
 have xg:=zac l.prog w base X G xe3 (zoA xe3.F)
 have xdy:=zac l.prog w base X G xe2 (zoN xg xe2.F)
 have xb6:=zac l.prog w base X G xb2 (zj7 xg xdy xr xb2.F)
 have xcj:=zac l.prog w base X G xcf (zkS xq xr xcf.F)
 have xdn:=zac l.prog w base X G xdp (zmv xg xr xdp.F)
 have xcb:=zac l.prog w base X G xcm (zkZ xq xr xcm.F)
 have xb5:=zac l.prog w base X G xb7 (zkj xq xg xr xcb xb7.F)
 have xew:=zac l.prog w base X G xe1 (zn1 xq xg xe6 xe1.F)
 have xec:=zac l.prog w base X G xd6 (zne xq xbr xg xr xb6 xcj xdn xb5 xew xd6.F)
 have xag:=zac l.prog w base X G xaj (zgn xq xr xbo xbt xaj.F)
 have xb8:zkq l.prog w K mg base 2 "Ground" (upF K Dp.zfM):=⟨⟨_,_,_,_,_,⟨xct,xc4,xde,xc7⟩,zj3 xag xaw xae xfx,zbU,W.mg_of X G xbk,znK ⟨xcr,xcq,xcy,xcp⟩ xbk⟩⟩
 have xai:=zac l.prog w base X G xah (zgw xq xbu xdj xah.F)
 have xev:=zac l.prog w base X G xet (zoM xq xbs xeu xa0 xet.F)
 have xat:=zac l.prog w base X G xao (zhq xq xa0 xev xh5 xao.F)
 have xbq:=zac l.prog w base X G xg0 (zsL xg0.F)
 have xdb:=zac l.prog w base X G xgh (zrJ xbq xgh.F)
 have xbb:=zac l.prog w base X G xbe (ziG xe6 xbe.F)
 have xem:=zac l.prog w base X G xel (zmX xbb xel.F)
 have xdk:=zac l.prog w base X G xdl (zmn xem xdl.F)
 have xdm:=zez l.prog w base X G xdr (zl3 xbq xdb xdk xak xal xdr.F)
 have xb9:=zac l.prog w base X G xfm (zqo xbq xdb xdm xfm.F)
 have xaz:=zac l.prog w base X G xay (zh3 xa0 xb9 xay.F)
 have xbf:=zac l.prog w base X G xep (zm5 xfv xab xeq xep.F)
 have xfl:=zac l.prog w base X G xfn (zps xq xa0 xab xbf xe4 xbi xan xb4 xbj xby xer xcx xfn.F)
 have xa4:=zac l.prog w base X G xa6 (zhW xa0 xfl xa6.F)
 have xaq:=zac l.prog w base X G xas (zhw xas.F)
 have xfs:zkq l.prog w K mg base 7 "Valley" (upF K Dp.zhC):=⟨⟨_,_,_,_,_,⟨xcu,xc8,xco,xdd⟩,zkd xae xb8 xai xat xaz xa4 xaq xbd xa5 xbw xbv xbn xbx xbl xfw,zbR,W.mg_of X G xaa,znK ⟨xdf,xdc,xcv,xcz⟩ xaa⟩⟩
 have xcc:=zac l.prog w base X G xca (zkT xae xb8 xfs xca.F)
 have xds:=zac l.prog w base X G xdo (zlD xdo.F)
 have xci:=zac l.prog w base X G xea (zm4 xfv xea.F)
 have xd7:=zac l.prog w base X G xeg (zmN xci xeg.F)
 have xcg:=zac l.prog w base X G xce (zk1 xd7 xce.F)
 have xeb:=zac l.prog w base X G xef (zm1 xq xds xcg xef.F)
 have xd8:=zac l.prog w base X G xek (znh xq xr xae xeb xek.F)
 have xen:=zac l.prog w base X G xee (zmT xq xg xee.F)
 have xbc:=zac l.prog w base X G xej (zm0 xej.F)
 have xap:=zez l.prog w base X G xar (zho xbc xav xau xar.F)
 have xa9:=zez l.prog w base X G xba (ziK xeh xd5 xba.F)
 have xdv:=zez l.prog w base X G xey (zoo xav xau xey.F)
 have xad:=zez l.prog w base X G xaf (zf3 xak xal xb9 xaf.F)
 have xax:=zac l.prog w base X G xa3 (zh6 xbg xam xdu xa3.F)
 have xez:=zac l.prog w base X G xe5 (zoH xe5.F)
 have xfk:=zez l.prog w base X G xfp (zqd xad xax xez xfp.F)
 have xbh:=zac l.prog w base X G xa8 (ziN xa8.F)
 have xbp:=zac l.prog w base X G xbm (zji xfk xbh xbm.F)
 have xfc:=zac l.prog w base X G xgi (zr3 xbi xan xb4 xbj xgf xg9 xgi.F)
 have xdx:=zac l.prog w base X G xe7 (zoW xbi xan xb4 xbj xbg xam xe7.F)
 have xa7:=zac l.prog w base X G xg6 (zsM xq xcx xam xft xg6.F)
 have xgc:=zac l.prog w base X G xga (zrg xby xer xbg xam xfc xdx xa7 xh4 xga.F)
 have xdt:=zac l.prog w base X G xdq (zml xa7 xgc xdq.F)
 have xg7:=zac l.prog w base X G xg2 (zsV xa7 xg2.F)
 have xg1:=zac l.prog w base X G xg5 (zsC xbg xam xa7 xg5.F)
 have xe8:=zac l.prog w base X G xex (zot xq xg7 xg1 xex.F)
 have xgd:=zez l.prog w base X G xgb (zrT xdv xbp xdt xe8 xgb.F)
 have xgg:=zac l.prog w base X G xge (zqN xh3 xge.F)
 have xch:=zac l.prog w base X G xck (zkV xbf xbc xgd xgg xha xck.F)
 have xb0:=zac l.prog w base X G xdi (zmm xq xr xap xa9 xch xdi.F)
 have xei:=zac l.prog w base X G xed (znb xq xg xed.F)
 have xeo:=zac l.prog w base X G xd9 (zmP xq xr xd9.F)
 exact zuC xq xbr xg xr xec xae xab xeq xcc xd8 xen xb0 xei xeo xls
theorem walk {l:W.OpenLaw}{q:Program}{loose:List Str}{XP:(Str->Option Value)->Heap->Prop}{YP:World->Heap->Prop}{d:DefRec}{K:Params->W.Frag}(hn:l.most=some 63)(hdf:d.params.defaults=[])
  (hY:∀ (w:World) (h:Heap),YP w h->(K w.params).In h)
  (F:∀ (w:World) (mg:Str->Option Value) (fa:Addr) (h:Heap),(K w.params).In h->h.Ns mainGlobals mg->mg d.name=some (.ref fa) ->
   ∃ fd:FuncData,(∀ (s:Shared) (u:Value),BindsTo s fd ⟨[u],[]⟩ [("script",u)])/\∀ base:Heap,(K w.params).In base->base.Ns mainGlobals mg->zab l.prog w (K w.params) mg base CX0 12 fa fd ["script"] (upF (K w.params) Dp.zfz)) :
  W.WalkO q loose XP YP l.row.toRowW d [] (fun f vs=>PySem.call f vs) :=
 Dp.zq2 (n:=63) (k:=12) (x:="script") (sp:=fun w=>upF (K w.params) Dp.zfz) hn (by decide) hdf ⟨rfl,by decide,by decide⟩ hY F fun _ _ _ _ hl hg hO hS=>zvy hl hg hO hS
end Law
local macro_rules | `(tactic| walk_at "fh")=>`(tactic| (refine' Dp.zwK ?fa ?fl ?fc ?fk;(case fa=>k_is);(case fl=>k_is);(case fc=>k_is);(case fk=>k_is)))
open PySem PySem.W PyProof.Rows
namespace PySem.W.Fast
def tw10133219223811829524:=Prop
def tw1014088606827919340:=Prop
def tw10199507313781127772:=Prop
def tw10249662961775495459:=Prop
def tw10256591162795441201:=Prop
def tw10274864041946987985:=Prop
def tw10276193098481041670:=Prop
def tw10326641475169843282:=Prop
def tw10355751043340407420:=Prop
def tw10386626293428794459:=Prop
def tw10429465555247790307:=Prop
def tw10451538410389705978:=Prop
def tw10541987146325825477:=Prop
def tw10570732556157897841:=Prop
def tw10643320900045060903:=Prop
def tw10651499427705418735:=Prop
def tw10654647209433397733:=Prop
def tw10661966321824316135:=Prop
def tw10690067945504801061:=Prop
def tw1071348490669451135:=Prop
def tw10726138556157948840:=Prop
def tw10729387219781581593:=Prop
def tw10760702281243265317:=Prop
def tw107876637450137282:=Prop
def tw10802158553080347065:=Prop
def tw10841772121171551831:=Prop
def tw10846849238399384759:=Prop
def tw10902916431430171873:=Prop
def tw10917847696314399360:=Prop
def tw10927882907836885244:=Prop
def tw10967339521897207913:=Prop
def tw10980061312308298457:=Prop
def tw11019083814866470671:=Prop
def tw11092303158078542670:=Prop
def tw11103187119076412171:=Prop
def tw11194139286822646928:=Prop
def tw11204579487056302673:=Prop
def tw11236804106356189659:=Prop
def tw11251474663560603281:=Prop
def tw11292949716175477080:=Prop
def tw11351757217456695570:=Prop
def tw11378152474691792964:=Prop
def tw1150491630937234250:=Prop
def tw11505638558989458971:=Prop
def tw11521440388963091511:=Prop
def tw11553337566604999776:=Prop
def tw1156292789857859855:=Prop
def tw115656321048436632:=Prop
def tw11591834604914618047:=Prop
def tw11605773159489355273:=Prop
def tw11618621487751484376:=Prop
def tw11628867539037690689:=Prop
def tw11634919596912834348:=Prop
def tw11709899276587885977:=Prop
def tw11711638742329924048:=Prop
def tw11756889532409910192:=Prop
def tw11770104418146583657:=Prop
def tw11776817563717746990:=Prop
def tw1184535095594121888:=Prop
def tw11849661081383907734:=Prop
def tw11889612151488265401:=Prop
def tw1192152967096872712:=Prop
def tw11925852845876661682:=Prop
def tw12016227429050270639:=Prop
def tw12038585955778388765:=Prop
def tw12154760112188707447:=Prop
def tw12237769169978091336:=Prop
def tw12249990574303967530:=Prop
def tw12266984600973603636:=Prop
def tw12276204456814910443:=Prop
def tw12283388778377544193:=Prop
def tw12294014487758787886:=Prop
def tw12369380353549969629:=Prop
def tw12392565286199405320:=Prop
def tw12401808285664069989:=Prop
def tw12420799808395950276:=Prop
def tw12467149874702023024:=Prop
def tw12469039576961360773:=Prop
def tw12476540343961314203:=Prop
def tw1250285096213245141:=Prop
def tw12573106749695734203:=Prop
def tw12613286933718524423:=Prop
def tw12620360595154780072:=Prop
def tw12645492990973431154:=Prop
def tw12685598558696533073:=Prop
def tw12799200753124238119:=Prop
def tw12799800126232095572:=Prop
def tw12820554086796259350:=Prop
def tw12881836468176304225:=Prop
def tw1289466250527022287:=Prop
def tw12925045198199087353:=Prop
def tw12958033277482112800:=Prop
def tw130287999474925298:=Prop
def tw1308622383329785956:=Prop
def tw13119769141695628241:=Prop
def tw13121870014734129580:=Prop
def tw13185115704154456574:=Prop
def tw13188811507741479402:=Prop
def tw13189676143826152201:=Prop
def tw13197172061478835130:=Prop
def tw13317746534324900638:=Prop
def tw13349214433874190074:=Prop
def tw13357084233753112478:=Prop
def tw13448617587957874281:=Prop
def tw13461839347039979394:=Prop
def tw13484629818152544472:=Prop
def tw1354817436478280881:=Prop
def tw13554738923797820655:=Prop
def tw13558130112938037066:=Prop
def tw13578381790617062273:=Prop
def tw13645611357338177580:=Prop
def tw13685132077493706106:=Prop
def tw13709218388431689156:=Prop
def tw13769986867102967010:=Prop
def tw1378371241412538246:=Prop
def tw138190645121617076:=Prop
def tw13830396893598851606:=Prop
def tw13849587996594979228:=Prop
def tw13885391639184548665:=Prop
def tw13950862586036985363:=Prop
def tw13956035816837670536:=Prop
def tw13967397010134877510:=Prop
def tw13980933685114101121:=Prop
def tw13989144677904679038:=Prop
def tw14013422256243300900:=Prop
def tw14030710274576781228:=Prop
def tw14043860594633732530:=Prop
def tw14049224656936112328:=Prop
def tw14062131345561015334:=Prop
def tw14067756713360817625:=Prop
def tw14087932069383556544:=Prop
def tw1412797144992473400:=Prop
def tw14133390202814264529:=Prop
def tw14136170419218740344:=Prop
def tw14154049302394762202:=Prop
def tw14154160205630510308:=Prop
def tw14227164411434451071:=Prop
def tw14240874376332116414:=Prop
def tw14255103961799956611:=Prop
def tw14299418368051646644:=Prop
def tw14318082453258421196:=Prop
def tw14320330038770113086:=Prop
def tw14336539684600904133:=Prop
def tw14368645336088595458:=Prop
def tw14387435843766932933:=Prop
def tw14423123680920988902:=Prop
def tw14453126593518848122:=Prop
def tw14491493414978885733:=Prop
def tw14511313487333461649:=Prop
def tw14535087961601889029:=Prop
def tw14535323931399233674:=Prop
def tw14552724109253317081:=Prop
def tw14564011766870733971:=Prop
def tw14568135303355892750:=Prop
def tw14568694768005355364:=Prop
def tw1461018977818377180:=Prop
def tw1462177436584711425:=Prop
def tw14715001533544482292:=Prop
def tw14726860425341115715:=Prop
def tw14778364306354671559:=Prop
def tw14798235160447097364:=Prop
def tw14816333359279356769:=Prop
def tw14847939621688913312:=Prop
def tw14881819886165359656:=Prop
def tw14896985904937180261:=Prop
def tw14923398790639643462:=Prop
def tw14932801942613996391:=Prop
def tw14968624363051868507:=Prop
def tw15013446471692795769:=Prop
def tw15014448068198237501:=Prop
def tw15016245885941442331:=Prop
def tw15070193261266678418:=Prop
def tw15133942175014193768:=Prop
def tw15165391092647511933:=Prop
def tw15199712745768017157:=Prop
def tw15235972373986448495:=Prop
def tw15246447833832407648:=Prop
def tw15275081662704299493:=Prop
def tw15308974678059396910:=Prop
def tw15330623308766392524:=Prop
def tw15341594296052058170:=Prop
def tw15396871858312201222:=Prop
def tw15404214395903724147:=Prop
def tw15487927540814449307:=Prop
def tw15520598612565645613:=Prop
def tw15600547470004806553:=Prop
def tw15626184984949621436:=Prop
def tw15639944965954155244:=Prop
def tw15653805293264328677:=Prop
def tw15715312421427456790:=Prop
def tw15731691186635124568:=Prop
def tw15757036418891780559:=Prop
def tw15819927333561692928:=Prop
def tw15912224242458824781:=Prop
def tw15934097961440868959:=Prop
def tw15968539780045342910:=Prop
def tw15981361930435891856:=Prop
def tw16007117736987480573:=Prop
def tw16053211158353315760:=Prop
def tw1605949857667524803:=Prop
def tw16070894685200534114:=Prop
def tw16075276835406211402:=Prop
def tw16113208744382853496:=Prop
def tw16115028233989196227:=Prop
def tw16174717812079310260:=Prop
def tw16254177736375545849:=Prop
def tw16268573847505824421:=Prop
def tw1631740706279564912:=Prop
def tw16332781200064442316:=Prop
def tw16417641732002154614:=Prop
def tw16442103042166044282:=Prop
def tw16458263087020805764:=Prop
def tw16503895433358139156:=Prop
def tw16507602114245574181:=Prop
def tw16519414316059020406:=Prop
def tw16558534801483030370:=Prop
def tw16581154445752613678:=Prop
def tw16590160992542655405:=Prop
def tw16617870959518455269:=Prop
def tw16626265218552659424:=Prop
def tw16647983918825778950:=Prop
def tw16656645394665010518:=Prop
def tw16709448203395932699:=Prop
def tw16710491344398691884:=Prop
def tw16777397085627738900:=Prop
def tw16826679898133298322:=Prop
def tw16844567098009102662:=Prop
def tw16852922921482347563:=Prop
def tw16858142220672892868:=Prop
def tw16874211131595580377:=Prop
def tw16916415704005634730:=Prop
def tw16932755565635894356:=Prop
def tw16976036172435307064:=Prop
def tw16993083258523185463:=Prop
def tw17038238690247011429:=Prop
def tw17039239032084295801:=Prop
def tw17059368520446085481:=Prop
def tw17062120531406783750:=Prop
def tw1706827935861605328:=Prop
def tw17093769691459487394:=Prop
def tw17133155405731530405:=Prop
def tw17133481426927584960:=Prop
def tw17170737853757893128:=Prop
def tw17180060740626931341:=Prop
def tw17194916324684686001:=Prop
def tw17285105271681143937:=Prop
def tw17316193816145422029:=Prop
def tw17326580889124338038:=Prop
def tw1734845219874558819:=Prop
def tw17361854642952174122:=Prop
def tw1738225013805664289:=Prop
def tw17394783545996436496:=Prop
def tw17410850005729382223:=Prop
def tw17510911154551311634:=Prop
def tw17512395555900453912:=Prop
def tw17515829858845806651:=Prop
def tw17519484617357823880:=Prop
def tw17527516589325113307:=Prop
def tw17535258574530487417:=Prop
def tw17538601261611764401:=Prop
def tw17572250386884595347:=Prop
def tw17615358014111267332:=Prop
def tw17625546600148730005:=Prop
def tw17636879094648567033:=Prop
def tw17644202175652393990:=Prop
def tw17689146259376029406:=Prop
def tw17694949215188809779:=Prop
def tw17698295921675948144:=Prop
def tw17714456651948459721:=Prop
def tw17838085455264226005:=Prop
def tw17857539652278244972:=Prop
def tw17864139839480903243:=Prop
def tw17876198588460352259:=Prop
def tw17877344549005555457:=Prop
def tw17904190448773101469:=Prop
def tw17951688662631587568:=Prop
def tw17963723315323615296:=Prop
def tw18007227682722970273:=Prop
def tw18074064650526811647:=Prop
def tw18128831413861939673:=Prop
def tw18139577477433437005:=Prop
def tw18163564479639012640:=Prop
def tw18165218744176673451:=Prop
def tw18166877518313393984:=Prop
def tw18176623887404803254:=Prop
def tw18201676078903732916:=Prop
def tw18374491646782472720:=Prop
def tw18428493878900596083:=Prop
def tw1887939855988680897:=Prop
def tw189727031623375641:=Prop
def tw1898672931129546613:=Prop
def tw1967876983445230360:=Prop
def tw1997623098949515943:=Prop
def tw2009974485546132374:=Prop
def tw2041746543516134619:=Prop
def tw2061699247117170210:=Prop
def tw2090876111300054572:=Prop
def tw2095934279416505750:=Prop
def tw2183576167950923071:=Prop
def tw2204328567008516250:=Prop
def tw2234701180813669604:=Prop
def tw2253898797593211289:=Prop
def tw2308543509388586751:=Prop
def tw2344893625521389928:=Prop
def tw2374376240701843666:=Prop
def tw2399353751112872219:=Prop
def tw2402185572481333834:=Prop
def tw2402601976237423285:=Prop
def tw2458601725995457327:=Prop
def tw2499644476553422718:=Prop
def tw2556291256464933004:=Prop
def tw2582566013660176063:=Prop
def tw2747717397910728907:=Prop
def tw2906574358378728564:=Prop
def tw2935498863539898758:=Prop
def tw309485878010126112:=Prop
def tw3104774208961271206:=Prop
def tw3236969386908253843:=Prop
def tw3261594366969048537:=Prop
def tw3298838397357905495:=Prop
def tw3304328321567968666:=Prop
def tw3365618038894036551:=Prop
def tw3383767405469544957:=Prop
def tw3383793097590054405:=Prop
def tw3433005962959563910:=Prop
def tw3468919384398123262:=Prop
def tw3598103286951643235:=Prop
def tw3672176020564556980:=Prop
def tw3734349503052204548:=Prop
def tw3773910147710588572:=Prop
def tw3913410092998278093:=Prop
def tw392097612552295834:=Prop
def tw3943563970934329567:=Prop
def tw3962398357213143630:=Prop
def tw3984283309018742219:=Prop
def tw4026246263312479947:=Prop
def tw4092204040894940950:=Prop
def tw4108823635242836479:=Prop
def tw4111651431228740923:=Prop
def tw4126399629021990505:=Prop
def tw4142475123396877186:=Prop
def tw4171776652548606506:=Prop
def tw419851462866055181:=Prop
def tw42327706780484973:=Prop
def tw4309292634930267118:=Prop
def tw4356159875421820401:=Prop
def tw4426803213728557769:=Prop
def tw4436225157295344496:=Prop
def tw4488356899744019627:=Prop
def tw4507508999976972948:=Prop
def tw4512265845417464599:=Prop
def tw4546157992109523920:=Prop
def tw4550761383876642866:=Prop
def tw4632656018107014866:=Prop
def tw4652935987748149636:=Prop
def tw4690606035064273228:=Prop
def tw4694608116042045227:=Prop
def tw4735741039350203938:=Prop
def tw4736955650691358556:=Prop
def tw4739628279235575056:=Prop
def tw4793325668225532169:=Prop
def tw4822183439466706221:=Prop
def tw4850316805149104270:=Prop
def tw4864730151239640087:=Prop
def tw4886160527209111089:=Prop
def tw4924576490543745165:=Prop
def tw4949712823412635691:=Prop
def tw504980751676908350:=Prop
def tw5056469510633617722:=Prop
def tw5058206611110007387:=Prop
def tw507078963734010151:=Prop
def tw5138270136986529742:=Prop
def tw521071786800580257:=Prop
def tw524710454811508924:=Prop
def tw5247330495217147351:=Prop
def tw5348343654441638080:=Prop
def tw5375813813081671488:=Prop
def tw5383951776109198471:=Prop
def tw5419091377081188956:=Prop
def tw5455897815868765245:=Prop
def tw5483955088670107705:=Prop
def tw5502176077577235628:=Prop
def tw5535214196668300976:=Prop
def tw5536717159071028984:=Prop
def tw5578109031755279236:=Prop
def tw5583050638100706014:=Prop
def tw5595453697232895550:=Prop
def tw5637093679846132097:=Prop
def tw5711866996211421236:=Prop
def tw5729382401310982978:=Prop
def tw5798740710780192520:=Prop
def tw5831801714679679576:=Prop
def tw5849868867962927733:=Prop
def tw5883127844194514813:=Prop
def tw5910723408373940227:=Prop
def tw5924528395025997033:=Prop
def tw5946770314938522874:=Prop
def tw5946841727883905209:=Prop
def tw6003115046087014052:=Prop
def tw6041132585491340409:=Prop
def tw6126214408103966804:=Prop
def tw6126864066798176297:=Prop
def tw6128535594672922001:=Prop
def tw617894872322618148:=Prop
def tw6266506042079657802:=Prop
def tw6277728556678045945:=Prop
def tw6285461075406446323:=Prop
def tw630996158927927134:=Prop
def tw6344162888075751235:=Prop
def tw6362361442730067949:=Prop
def tw6365199378601018296:=Prop
def tw6394907849848088425:=Prop
def tw6416957096195972988:=Prop
def tw646763415734466604:=Prop
def tw6477520579243331294:=Prop
def tw6506042219982464234:=Prop
def tw6559452906226703674:=Prop
def tw6686842653293723650:=Prop
def tw6712293439891177336:=Prop
def tw6733655414698257145:=Prop
def tw6769047065930646179:=Prop
def tw6795395937370597796:=Prop
def tw679954868381477439:=Prop
def tw679956010409896121:=Prop
def tw6862453806657582083:=Prop
def tw6863326710976574805:=Prop
def tw6875338026663367194:=Prop
def tw6897777417305778363:=Prop
def tw6902384745362170236:=Prop
def tw6910105342097752533:=Prop
def tw6917945435667695305:=Prop
def tw6964587946564886666:=Prop
def tw7082605431667559206:=Prop
def tw7115612104489285000:=Prop
def tw7139248954531289772:=Prop
def tw7188018061304079138:=Prop
def tw7201022603890208111:=Prop
def tw7205332875097045835:=Prop
def tw7214971101939367562:=Prop
def tw721736155060007111:=Prop
def tw7217406751634368624:=Prop
def tw7217583503301480807:=Prop
def tw727199902237287258:=Prop
def tw7304886356468470223:=Prop
def tw7329810515639870911:=Prop
def tw7332018172897523951:=Prop
def tw7357117549596337330:=Prop
def tw7357362736031523700:=Prop
def tw7389664373527452819:=Prop
def tw7403835078654686505:=Prop
def tw7417955293159055385:=Prop
def tw7441912780759763623:=Prop
def tw7455512715826486898:=Prop
def tw7489458342563135743:=Prop
def tw7492565326981331128:=Prop
def tw759871247851458241:=Prop
def tw7644661693070629312:=Prop
def tw7671749942938663997:=Prop
def tw7687371136687297380:=Prop
def tw7689271184712200631:=Prop
def tw7703551445323669546:=Prop
def tw7724628402428451167:=Prop
def tw773986868395364984:=Prop
def tw7763879436627221331:=Prop
def tw7763958678257791982:=Prop
def tw7770607136512327898:=Prop
def tw7816512919048249688:=Prop
def tw7819066447723462642:=Prop
def tw7832604296989645064:=Prop
def tw7857328630971257433:=Prop
def tw7905872748526225023:=Prop
def tw7924981100671302135:=Prop
def tw7979908333707062293:=Prop
def tw8018138112415962363:=Prop
def tw8051761720471490321:=Prop
def tw8064049784394165226:=Prop
def tw8112327893520695731:=Prop
def tw8217331974716741720:=Prop
def tw825045750490803281:=Prop
def tw8288871305975848779:=Prop
def tw8348883764585906386:=Prop
def tw8437379740695343481:=Prop
def tw8445624898229608852:=Prop
def tw8454255240292634371:=Prop
def tw8482532794961957224:=Prop
def tw8515714527543075866:=Prop
def tw8616694636796620193:=Prop
def tw8642166312733322599:=Prop
def tw8655577734681557571:=Prop
def tw8681834123192622750:=Prop
def tw869003537925402977:=Prop
def tw8718683938608379478:=Prop
def tw8771769054347044580:=Prop
def tw8779669744299276367:=Prop
def tw882972028050254848:=Prop
def tw8840067058790629955:=Prop
def tw8874089357132217060:=Prop
def tw8980455378431929848:=Prop
def tw8991361744908697668:=Prop
def tw9013495095377123260:=Prop
def tw906215387369106675:=Prop
def tw9081992896466824950:=Prop
def tw9103605391509490629:=Prop
def tw9125799506933470473:=Prop
def tw9133745670671280547:=Prop
def tw9362514525780029901:=Prop
def tw9368434065395940541:=Prop
def tw9402279022827243076:=Prop
def tw9411951543203636961:=Prop
def tw9494503892861136445:=Prop
def tw9507169376496658063:=Prop
def tw9630333640473654714:=Prop
def tw9645811833238672756:=Prop
def tw9709423976910666622:=Prop
def tw9764699373289801608:=Prop
def tw9767734108285832842:=Prop
def tw9809322478383065743:=Prop
def tw9840885003668217980:=Prop
def tw9855207257781046253:=Prop
def tw9878851757980322481:=Prop
def tw9983167152496833361:=Prop
def tw998629662447433919:=Prop
def tw9991211924652780521:=Prop
end PySem.W.Fast
set_option maxRecDepth 100000 in
set_option maxHeartbeats 0 in
theorem PySem.Challenge.cw_beaconvale_k62_ways_looked_at_holds : PySem.Challenge.rw_beaconvale_k62_ways_looked_at.Holds := by
 w_on; o_law; k_head; (case hw => w_witness2)
 k_fill
 refine Law.walk (l := PySem.Challenge.rw_beaconvale_k62_ways_looked_at) rfl rfl (fun w h Y => PySem.W.kIn_of Y) ?F
 case F =>
  intro w mg fa h KX G hmg
  refine' Law.all_mk KX G hmg ?ah ?aj ?ak ?aq ?aw ?ax ?ay ?aA ?aB ?aC ?aD ?aE ?aF ?aG ?aH ?aI ?aJ ?aK ?aL ?aM ?aN ?aO ?aP ?aQ ?aR ?aS ?aT ?aU ?aV ?aW ?aX ?aY ?aZ ?a9 ?be ?bi ?bj ?bn ?bq ?br ?bu ?bv ?bw ?bA ?bC ?bD ?bE ?bG ?bH ?bI ?bJ ?bK ?bM ?bN ?bO ?bP ?bQ ?bS ?bU ?bV ?bW ?bX ?bY ?bZ ?b7 ?b8 ?b9 ?ce ?cf ?cg ?cj ?ck ?cn ?cq ?cu ?cv ?cw ?cx ?cy ?cz ?cA ?cB ?cC ?cD ?cE ?cF ?cG ?cH ?cI ?cJ ?cK ?cL ?cM ?cO ?cP ?cQ ?cR ?cS ?cT ?cU ?cV ?cW ?cX ?cY ?cZ ?c6 ?c7 ?c8 ?c9 ?dc ?de ?df ?dg ?dh ?di ?dj ?dm ?dn ?dq ?du ?dw ?dz ?dA ?dD ?dE ?dF ?dG ?dH ?dI ?dJ ?dL ?dN
  case cP|cR|cT|aE|br|aJ|bC=>k_is
  case ah|aj|ak|aq|aw|ax|ay|aA|aB|aC|aD=>walk_at "fh"
  case aF|aG|aH|aI|aK|aL|aM|aN|aO|aP|aQ=>k_is
  case aR|aS|aT|aU|aV|aW|aX|aY|aZ|a9|be|bi|bj|bn|bq=>walk_at "fh"
  case bu|bv|bw|bA|bD|bE|bG|bH|bI|bJ|bK|bM|bN|bO|bP|bQ|bS=>k_is
  case bU|bV|bW|bX|bY|bZ|b7|b8|b9|ce|cf|cg|cj|ck|cn|cq|cu|cv|cw|cx|cy|cz|cA|cB|cC|cD|cE|cF|cG|cH|cI|cJ=>walk_at "fh"
  case cK|cL|cM|cO=>k_is
  case cQ|cS|cU=>kernel_rfl
  case cV|cW|cX|cY|cZ|c6|c7|c8|c9|dc|de|df|dg|dh|di|dj|dm|dn|dq|du|dw|dz|dA|dD|dE|dF|dG|dH|dI|dJ|dL|dN=>k_is
#print axioms PySem.Challenge.cw_beaconvale_k62_ways_looked_at_holds
