import PyProof.Rows.All
import Wide.All
import OpenK.AllK
import Wide.FinOn
import Lean
import PyProof.EqAt
import PyProof.EqKinds
import PyProof.TupleCall
import PyProof.NeData
import PyProof.P3Eq
import PyProof.StrLawsIn
import PyProof.StrLawsJoin
import PyProof.StrBlockL
import PyProof.Rows.StrSplitCount
import KE.KMinKey
import KE.KLam
import KE.KDictList
import PySem.Challenge.RW_beaconvale_k86_whole_valleys_read
set_option Elab.async false
set_option linter.all false
set_option maxRecDepth 100000
set_option maxHeartbeats 4000000
set_option Elab.async false
set_option linter.all false
set_option maxRecDepth 100000
namespace L2
open PySem PySem.Spec PyProof.Rows
abbrev Key:=Sum Int Str
def zgs:Key->Value->Bool
 |.inl k,v=>Value.isInt k v
 |.inr x,v=>Value.isStrOf x v
def ztV (w:World):Key->Int
 |.inl k=>hashInt k
 |.inr x=>hashStr w x
theorem zaX:∀ {k:Key} {v:Value},zgs k v=true->(∃ i t,k=Sum.inl i/\v=Value.int i t)\/(∃ x t,k=Sum.inr x/\v=Value.str x t)
 |.inl i,v,h=>by
  obtain⟨t,e⟩:=Value.isInt_shape (k:=i) (v:=v) h
  exact .inl ⟨i,t,rfl,e⟩
 |.inr x,v,h=>by
  obtain⟨t,e⟩:=Value.isStrOf_shape (x:=x) (v:=v) h
  exact .inr ⟨x,t,rfl,e⟩
theorem zmL (i:Int)(t:Tok):zgs (.inl i) (.int i t)=true:=by simp [zgs,Value.isInt]
theorem zmF (x:Str)(t:Tok):zgs (.inr x) (.str x t)=true:=by simp [zgs,Value.isStrOf]
theorem zrT (a b:Int):decide ((Sum.inl a:Key)=Sum.inl b)=(a==b):=by
 by_cases e:a=b
 ·subst e;simp
 ·have h:¬ (Sum.inl a:Key)=Sum.inl b:=fun q=>e (Sum.inl.inj q)
  rw [decide_eq_false h]
  exact (beq_eq_false_iff_ne.mpr e).symm
theorem zre (a b:Str):decide ((Sum.inr a:Key)=Sum.inr b)=decide (a=b):=by
 by_cases e:a=b
 ·subst e;simp
 ·have h:¬ (Sum.inr a:Key)=Sum.inr b:=fun q=>e (Sum.inr.inj q)
  rw [decide_eq_false h,decide_eq_false e]
theorem zrR (a:Int)(b:Str):decide ((Sum.inl a:Key)=Sum.inr b)=false:=decide_eq_false (fun q=>nomatch q)
theorem zp8 (a:Str)(b:Int):decide ((Sum.inr a:Key)=Sum.inl b)=false:=decide_eq_false (fun q=>nomatch q)
def zbi (prog:Program)(w:World):PySem.KeyKind prog w Key where
  is:=zgs
  hash:=ztV w
  inj:=fun v a b ha hb=>by
    rcases zaX ha with ⟨i,t,rfl,rfl⟩|⟨x,t,rfl,rfl⟩
    · rcases zaX hb with ⟨j,u,rfl,e⟩|⟨y,u,rfl,e⟩
      · injection e with e1 _;rw [e1]
      · exact nomatch e
    · rcases zaX hb with ⟨j,u,rfl,e⟩|⟨y,u,rfl,e⟩
      · exact nomatch e
      · injection e with e1 _;rw [e1]
  byValue:=fun k v h=>by
    rcases zaX h with ⟨i,t,rfl,rfl⟩|⟨x,t,rfl,rfl⟩<;>rfl
  pyHash:=fun hv h=>by
    rcases zaX hv with ⟨i,t,rfl,rfl⟩|⟨x,t,rfl,rfl⟩
    · exact wpAny_pyHash_int h
    · exact wpAny_pyHash_str h
  eqBool:=fun hu hv h=>by
    rcases zaX hu with ⟨i,t,rfl,rfl⟩|⟨x,t,rfl,rfl⟩
    · rcases zaX hv with ⟨j,u,rfl,rfl⟩|⟨y,u,rfl,rfl⟩
      · rw [zrT] at h;exact wpAny_eqBool_int h
      · rw [zrR] at h;exact SeqAt.EqAt.int_str i t y u _ _ _ _ h
    · rcases zaX hv with ⟨j,u,rfl,rfl⟩|⟨y,u,rfl,rfl⟩
      · rw [zp8] at h;exact SeqAt.EqAt.str_int x t j u _ _ _ _ h
      · rw [zre] at h;exact wpAny_eqBool_str h
  «strs»:=fun k x t v h=>by
    rcases zaX h with ⟨i,u,rfl,e⟩|⟨y,u,rfl,e⟩
    · exact nomatch e
    · injection e with e1 _
      subst e1
      cases v<;>rfl
theorem zkE (prog:Program)(w:World)(i:Int)(t:Tok):(zbi prog w).is (.inl i) (.int i t)=true:=zmL i t
theorem zkT (prog:Program)(w:World)(x:Str)(t:Tok):(zbi prog w).is (.inr x) (.str x t)=true:=zmF x t
inductive V where
 |non|bl (b:Bool)|int (i:Int)|str (x:Str)|byt (b:Array UInt8)|flt (b:UInt64)|ref (a:Addr)|ty (n:String)
 deriving DecidableEq
def RelV:V->Value->Prop
 |.non,u=>u=Value.none
 |.bl b,u=>u=Value.bool b
 |.int i,u=>∃ t,u=Value.int i t
 |.str x,u=>∃ t,u=Value.str x t
 |.byt b,u=>∃ t,u=Value.bytes b t
 |.flt b,u=>∃ t,u=Value.float b t
 |.ref a,u=>u=Value.ref a
 |.ty n,u=>u=Value.type n
abbrev Vals:List V->List Value->Prop:=Paired RelV
theorem Vals.length {xs:List V}{us:List Value}(r:Vals xs us):xs.length=us.length:=Paired.length r
theorem Vals.get:∀ {xs:List V} {us:List Value} {i:Nat} {x:V},Vals xs us->xs[i]?=some x->∃ u,us[i]?=some u/\RelV x u
 |_,_,_,_,.nil,e=>by simp at e
 |_,_,0,_,.cons r _,e=>by simp at e;subst e;exact⟨_,rfl,r⟩
 |_,_,i+1,x,.cons _ t,e=>by
  obtain⟨u,h1,h2⟩:=Vals.get (i:=i) (x:=x) t (by simpa using e)
  exact⟨u,by simpa using h1,h2⟩
theorem Vals.set {x:V}{u:Value}(r:RelV x u):∀ {xs:List V} {us:List Value} (i:Nat),Vals xs us->Vals (xs.set i x) (us.set i u)
 |_,_,_,.nil=>.nil
 |_,_,0,.cons _ t=>.cons r t
 |_,_,i+1,.cons q t=>.cons q (Vals.set r i t)
theorem Vals.append:∀ {xs ys:List V} {us ws:List Value},Vals xs us->Vals ys ws->Vals (xs++ys) (us++ws)
 |_,_,_,_,.nil,s=>s
 |_,_,_,_,.cons r t,s=>.cons r (Vals.append t s)
theorem Vals.take:∀ {xs:List V} {us:List Value} (n:Nat),Vals xs us->Vals (xs.take n) (us.take n)
 |_,_,0,_=>.nil
 |_,_,_+1,.nil=>.nil
 |_,_,n+1,.cons r t=>.cons r (Vals.take n t)
theorem Vals.drop:∀ {xs:List V} {us:List Value} (n:Nat),Vals xs us->Vals (xs.drop n) (us.drop n)
 |_,_,0,r=>r
 |_,_,_+1,.nil=>.nil
 |_,_,n+1,.cons _ t=>Vals.drop n t
def zdd:Option V->Option Value->Prop
 |some v,some u=>RelV v u
 |none,none=>True
 |_,_=>False
def KV {κ:Type}:List (κ×V)->List (κ×Value)->Prop:=Paired fun (p:κ×V) (q:κ×Value)=>p.1=q.1/\RelV p.2 q.2
def kV:Key->V
 |.inl i=>.int i
 |.inr x=>.str x
inductive HO where
 |lst (xs:List V)
 |tup (xs:List V)
 |dK (kvs:List (Key×V))|dT (kvs:List (List Key×V))
 |set (S:Int->Bool) (n:Nat)
 |ins (C dx:Addr) (fs:List (Str×V))
 |own (x:Addr)
 |xd (fs:List (Str×V))
 |met (f x:Addr)
 |rng (lo hi:Int)
 |frz (o:Obj) (u:HO)
 |tbl (ps:Array Value)
 |ext (φ:Heap->Prop)
abbrev Hp:=Addr->Option HO
def upd (H:Hp)(a:Addr)(o:HO):Hp:=fun b=>if b=a then some o else H b
theorem zaT {H:Hp}{a:Addr}{o:HO}:upd H a o a=some o:=by unfold upd;rw [if_pos rfl]
theorem zX {H:Hp}{a b:Addr}{o:HO}(h:b≠a):upd H a o b=H b:=by unfold upd;rw [if_neg h]
theorem zdQ {H:Hp}{a b:Addr}{o u:HO}(h:H a=some o)(h':H b=some u)(d:o≠u):a≠b:=by
 intro e;subst e;rw [h] at h';exact d (Option.some.inj h')
theorem zba {H:Hp}{a b:Addr}{o:HO}(h:H a=some o)(h':H b=none):a≠b:=by
 intro e;subst e;rw [h] at h';cases h'
section
variable (P:Program)(w:World)
def zaA (H:Hp)(h:Heap)(a:Addr):HO->Prop
 | .lst xs=>xs.length<=sizeLine/\∃ (its:List Value) (n:Nat),Vals xs its/\h.get? a=some { cls:=.type "list",data:=.seq its.toArray n }
 |.tup xs=>xs.length<=sizeLine/\∃ its:List Value,Vals xs its/\IsTup h a its.toArray
 |.dK kvs=>kvs.length<=sizeLine/\(a==sysModules)=false/\∃ vs,KV kvs vs/\h.DictOf (zbi P w) a vs
 |.dT kvs=>kvs.length<=sizeLine/\(a==sysModules)=false/\∃ xs:List (List Key×Addr×Value),
   Paired (fun (p:List Key×V) (q:List Key×Addr×Value)=>p.1=q.1/\H q.2.1=some (.tup (p.1.map kV))/\RelV p.2 q.2.2) kvs xs /\
   ∃ o es ep,h.get? a=some o/\o.ExactDict/\o.data=.dict es ep/\es.toList=xs.map (entryOfKey (tupleKind (zbi P w)))/\(xs.map (·.1)).Nodup
 |.set S n=>h.SetOf (intKind P w) a S n
 |.ins C dx fs=>H dx=some (.own a)/\fs.length<=1000/\dx≠a/\h.get? a=some (PySem.W.instObj C dx) /\
   ∃ mA,h.Ns1 dx mA/\(∀ f,zdd (fs.lookup f) (mA f))/\PySem.Within mA (fs.map (·.1))
 |.own _=>∃ o,h.get? a=some o
 |.xd fs=>∃ mA,h.Ns1 a mA/\∀ f,zdd (fs.lookup f) (mA f)
 | .rng lo hi=>∃ t u v,h.get? a=some { cls:=.type "range",data:=.fields #[.int lo t,.int hi u,.int 1 v] }
 |.frz o u=>h.get? a=some o/\zaA H h a u
 |.tbl ps=>h.get? a=some { cls:=.none,data:=.fields ps }
 |.met f x=>h.get? a=some (PySem.W.methodObj (.ref f) (.ref x))
 |.ext φ=>φ h/\(∃ o,h.get? a=some o)/\∀ h1 h2:Heap,φ h1->(∀ o,h1.get? a=some o->h2.get? a=some o)->φ h2
def HOk (H:Hp)(h:Heap):Prop:=∀ a o,H a=some o->zaA P w H h a o
end
section
variable {P:Program}{w:World}{H H':Hp}{h h':Heap}{a:Addr}{o:HO}
theorem zaA.lt (x:zaA P w H h a o):a<h.objs.size:=by
 cases o with
 |lst xs=>obtain⟨_,_,_,_,e⟩:=x;exact Heap.lt_size e
 |tup xs=>obtain⟨_,_,_,p⟩:=x;exact p.lt
 |dK kvs=>obtain⟨_,_,_,_,o,_,_,e,_⟩:=x;exact Heap.lt_size e
 |dT kvs=>obtain⟨_,_,_,_,o,_,_,e,_⟩:=x;exact Heap.lt_size e
 |set S n=>obtain⟨o,_,_,_,e,_⟩:=x;exact Heap.lt_size e
 |ins C dx fs=>obtain⟨_,_,_,e,_⟩:=x;exact Heap.lt_size e
 |own y=>obtain⟨_,e⟩:=x;exact Heap.lt_size e
 |xd fs=>obtain⟨_,⟨_,_,_,e,_⟩,_⟩:=x;exact Heap.lt_size e
 |rng lo hi=>obtain⟨_,_,_,e⟩:=x;exact Heap.lt_size e
 |frz ob u=>obtain⟨e,_⟩:=x;exact Heap.lt_size e
 |tbl ps=>exact Heap.lt_size (show h.get? a=some _ from x)
 |met f y=>exact Heap.lt_size (show h.get? a=some _ from x)
 |ext φ=>obtain⟨_,⟨_,e⟩,_⟩:=x;exact Heap.lt_size e
theorem Paired.mapP {α β:Type}{F G:α->β->Prop}:∀ {l₁:List α} {l₂:List β},Paired F l₁ l₂->(∀ a b,F a b->G a b)->Paired G l₁ l₂
 |_,_,.nil,_=>.nil
 |_,_,.cons r t,f=>.cons (f _ _ r) (Paired.mapP t f)
theorem zaA.stay (x:zaA P w H h a o)(k:∀ b u,(b=a\/H b=some (.own a))->h.get? b=some u->h'.get? b=some u)
  (ho:∀ b,H b=some (.own a)->H' b=some (.own a)) (ht:∀ b xs,H b=some (.tup xs)->H' b=some (.tup xs)):zaA P w H' h' a o:=by
 induction o with
 |lst xs=>obtain⟨z,its,n,r,e⟩:=x;exact⟨z,its,n,r,k _ _ (.inl rfl) e⟩
 |tup xs=>obtain⟨z,its,r,ob,e,c⟩:=x;exact⟨z,its,r,ob,k _ _ (.inl rfl) e,c⟩
 |dK kvs=>obtain⟨z,y,vs,r,ob,es,ep,e,c⟩:=x;exact⟨z,y,vs,r,ob,es,ep,k _ _ (.inl rfl) e,c⟩
 |dT kvs =>
  obtain⟨z,y,xs,r,ob,es,ep,e,c⟩:=x
  exact⟨z,y,xs,Paired.mapP r fun p q z=>⟨z.1,ht _ _ z.2.1,z.2.2⟩,ob,es,ep,k _ _ (.inl rfl) e,c⟩
 |set S n=>obtain⟨ob,es,ep,t,e,c⟩:=x;exact⟨ob,es,ep,t,k _ _ (.inl rfl) e,c⟩
 |ins C dx fs =>
  obtain⟨d,z,ne,e,mA,⟨od,es,ep,e2,c⟩,r⟩:=x
  exact⟨ho _ d,z,ne,k _ _ (.inl rfl) e,mA,⟨od,es,ep,k _ _ (.inr d) e2,c⟩,r⟩
 |own y=>obtain⟨ob,e⟩:=x;exact⟨ob,k _ _ (.inl rfl) e⟩
 |xd fs=>obtain⟨mA,⟨od,es,ep,e,c⟩,r⟩:=x;exact⟨mA,⟨od,es,ep,k _ _ (.inl rfl) e,c⟩,r⟩
 |rng lo hi=>obtain⟨t,u,v,e⟩:=x;exact⟨t,u,v,k _ _ (.inl rfl) e⟩
 |frz ob u ih=>obtain⟨e,q⟩:=x;exact⟨k _ _ (.inl rfl) e,ih q⟩
 |tbl ps =>
  have e:h.get? a=some { cls:=.none,data:=.fields ps }:=x
  show h'.get? a=some { cls:=.none,data:=.fields ps }
  exact k a _ (.inl rfl) e
 |met f y =>
  have e:h.get? a=some (PySem.W.methodObj (.ref f) (.ref y)):=x
  show h'.get? a=some (PySem.W.methodObj (.ref f) (.ref y))
  exact k a _ (.inl rfl) e
 |ext φ=>obtain⟨p,⟨o,e⟩,st⟩:=x;exact⟨st _ _ p fun o q=>k _ _ (.inl rfl) q,⟨o,k _ _ (.inl rfl) e⟩,st⟩
theorem HOk.lt (x:HOk P w H h)(e:H a=some o):a<h.objs.size:=(x a o e).lt
theorem HOk.fresh (x:HOk P w H h)(e:h.objs.size<=a):H a=none:=by
 cases q:H a with
 |none=>rfl
 |some u=>exact absurd (Nat.lt_of_lt_of_le (x.lt q) e) (Nat.lt_irrefl _)
theorem HOk.kept (x:HOk P w H h)(k:∀ b u,h.get? b=some u->h'.get? b=some u):HOk P w H h':=fun a o e =>
 (x a o e).stay (fun b u _ q=>k b u q) (fun _ q=>q) fun _ _ q=>q
theorem HOk.laid (x:HOk P w H h)(k:∀ b u,h.get? b=some u->h'.get? b=some u)(hp:h.objs.size<=a)(new:zaA P w (upd H a o) h' a o):HOk P w (upd H a o) h':=fun b u e=>by
 have hn:=x.fresh hp
 by_cases hb:b=a
 ·subst hb;rw [zaT] at e;cases e;exact new
 ·rw [zX hb] at e
  exact (x b u e).stay (fun c v _ q=>k c v q) (fun c q=>by rw [zX (zba q hn)];exact q) fun c xs q=>by rw [zX (zba q hn)];exact q
end
def Rd (H:Hp)(a:Addr)(u:HO):Prop:=H a=some u\/∃ o,H a=some (.frz o u)
theorem Rd.ok {P:Program}{w:World}{H:Hp}{h:Heap}{a:Addr}{u:HO}(r:Rd H a u)(x:HOk P w H h):zaA P w H h a u:=by
 rcases r with r|⟨o,r⟩
 ·exact x a u r
 ·obtain⟨_,q⟩:=x a _ r
  exact q
def Mut:Option HO->Prop
 |some (.lst _)=>True
 |some (.dK _)=>True
 |some (.dT _)=>True
 |some (.set _ _)=>True
 |some (.ins _ _ _)=>True
 |some (.ext _)=>True
 |_=>False
section
variable {P:Program}{w:World}{H:Hp}{h h':Heap}{x e:Addr}{o':HO}
theorem HOk.write (ok:HOk P w H h)(mu:Mut (H x))(he:e=x\/H e=some (.own x))(k:∀ b u,b≠e->h.get? b=some u->h'.get? b=some u)(heo:∃ u,h'.get? e=some u)
  (new:zaA P w (upd H x o') h' x o'):HOk P w (upd H x o') h':=fun b u q=>by
 have nown:∀ c y,H c=some (.own y)->c≠x:=fun c y r z=>by subst z;rw [r] at mu;exact mu
 have ntup:∀ c xs,H c=some (.tup xs)->c≠x:=fun c xs r z=>by subst z;rw [r] at mu;exact mu
 by_cases hb:b=x
 ·subst hb;rw [zaT] at q;cases q;exact new
 ·rw [zX hb] at q
  by_cases hbe:b=e
  ·have q':H b=some (.own x):=by
    rcases he with z|z
    ·exact absurd (hbe.trans z) hb
    ·rw [hbe];exact z
   rw [q] at q';cases q'
   obtain⟨v,hv⟩:=heo
   exact⟨v,by rw [hbe];exact hv⟩
  ·refine (ok b u q).stay (fun c v hc r=>k c v ?_ r) (fun c r=>by rw [zX (nown c b r)];exact r) fun c xs r=>by rw [zX (ntup c xs r)];exact r
   rcases hc with rfl|hc
   ·exact hbe
   ·rintro rfl
    rcases he with z|z
    ·exact nown c b hc z
    ·rw [hc] at z;cases z;exact hb rfl
end
structure Un (fs ex:List Addr)(H H':Hp)(h h':Heap):Prop where
 keep:∀ b o,h.get? b=some o->H b=none->b∉fs->b∉ex->h'.get? b=some o
 slot:∀ b o,h.get? b=some o->H b=none->b∈fs->b∉ex->∃ sl,h'.get? b=some { o with slots:=sl }
 free:∀ b o,h.get? b=some o->H b=none->b∉ex->H' b=none
 there:∀ b o,h.get? b=some o->b∉ex->∃ o',h'.get? b=some o'
 tups:∀ b xs,H b=some (.tup xs)->H' b=some (.tup xs)
 frzs:∀ b o u,H b=some (.frz o u)->H' b=some (.frz o u)
 tbls:∀ b ps,H b=some (.tbl ps)->∃ more,H' b=some (.tbl (ps++more))
section
variable {fs fs' ex ex':List Addr}{H H1 H2:Hp}{h h1 h2 h':Heap}{a x e:Addr}{o:HO}
theorem Un.any (u:Un fs ex H H1 h h1){b:Addr}{ob:Obj}(q:h.get? b=some ob)(n:H b=none)(hx:b∉ex):∃ sl,h1.get? b=some { ob with slots:=sl }:=by
 by_cases hb:b∈fs
 ·exact u.slot b ob q n hb hx
 ·exact⟨ob.slots,u.keep b ob q n hb hx⟩
theorem Un.kept (k:∀ b u,h.get? b=some u->h'.get? b=some u):Un fs ex H H h h' :=
 ⟨fun b ob q _ _ _=>k b ob q,fun b ob q _ _ _=>⟨ob.slots,k b ob q⟩,fun _ _ _ n _=>n,fun b ob q _=>⟨ob,k b ob q⟩,fun _ _ q=>q,fun _ _ _ q=>q,fun _ ps q=>⟨#[],by rw [q];simp⟩⟩
theorem Un.refl:Un fs ex H H h h:=Un.kept fun _ _ q=>q
theorem Un.laid (k:∀ b u,h.get? b=some u->h'.get? b=some u)(hp:h.objs.size<=a)(hn:H a=none):Un fs ex H (upd H a o) h h' where
 keep:=fun b u q _ _ _=>k b u q
 slot:=fun b u q _ _ _=>⟨u.slots,k b u q⟩
 free:=fun b u q n _=>by rw [zX (Nat.ne_of_lt (Nat.lt_of_lt_of_le (Heap.lt_size q) hp))];exact n
 there:=fun b u q _=>⟨u,k b u q⟩
 tups:=fun b xs q=>by rw [zX (zba q hn)];exact q
 frzs:=fun b u xs q=>by rw [zX (zba q hn)];exact q
 tbls:=fun b ps q=>⟨#[],by rw [zX (zba q hn),q];simp⟩
theorem Un.write (mu:Mut (H x))(he:e=x\/H e=some (.own x))(k:∀ b u,b≠e->h.get? b=some u->h'.get? b=some u)(heo:∃ u,h'.get? e=some u):Un fs ex H (upd H x o) h h':=by
 have hx:∀ b,H b=none->b≠x:=fun b n z=>by subst z;rw [n] at mu;exact mu
 have hb:∀ b,H b=none->b≠e:=fun b n z=>by
  subst z
  rcases he with r|r
  ·exact hx b n r
  ·rw [n] at r;cases r
 have hm:∀ b u,H b=some u->¬ Mut (some u)->b≠x:=fun b u q nm z=>by subst z;rw [q] at mu;exact nm mu
 refine⟨fun b u q n _ _=>k b u (hb b n) q,fun b u q n _ _=>⟨u.slots,k b u (hb b n) q⟩,fun b u q n _=>by rw [zX (hx b n)];exact n,fun b u q _=>?_,
  fun b xs q=>by rw [zX (hm b _ q fun z=>z)];exact q,fun b u xs q=>by rw [zX (hm b _ q fun z=>z)];exact q,fun b ps q=>⟨#[],by rw [zX (hm b _ q fun z=>z),q];simp⟩⟩
 by_cases hbe:b=e
 ·subst hbe;exact heo
 ·exact⟨u,k b u hbe q⟩
end
def trk (h:Heap)(H:Hp):List Addr:=(List.range h.objs.size).filter fun a=>(H a).isSome
def ze1 (h:Heap)(H:Hp):Heap:=PySem.W.hideAll h (trk h H)
theorem zmC (h:Heap)(H:Hp):(ze1 h H).objs.size=h.objs.size:=PySem.W.hideAll_size _ _
theorem zof {h:Heap}{H:Hp}{b:Addr}{o:Obj}(e:h.get? b=some o)(n:H b=none):(ze1 h H).get? b=some o :=
 PySem.W.hideAll_get _ e fun hm=>by
  have q:(H b).isSome=true:=(List.mem_filter.mp hm).2
  rw [n] at q;simp at q
theorem zoK {h:Heap}{H:Hp}{b:Addr}{o:Obj}(e:(ze1 h H).get? b=some o):h.get? b=some o/\H b=none:=by
 have e':h.get? b=some o:=PySem.W.of_hideAll (trk h H) e
 refine⟨e',?_⟩
 cases q:H b with
 |none=>rfl
 |some x =>
  have hm:b∈trk h H:=List.mem_filter.mpr ⟨List.mem_range.mpr (Heap.lt_size e'),by simp [q]⟩
  have z:(ze1 h H).get? b=none:=PySem.W.hideAll_none (trk h H) hm
  rw [z] at e;cases e
def zpD (g h:Heap)(L:Addr):List (Addr×Obj):=(List.range h.objs.size).filterMap fun a=>if a=L\/(g.get? a).isSome=true then none else (h.get? a).map fun o=>(a,o)
def rest (g h:Heap)(L d:Addr):List (Addr×Obj):=(zpD g h L).filter fun p=>decide (p.1≠d)
structure Mod (K:PySem.W.Frag)(mg:Str->Option Value)(base:Heap):Prop where
 kin:K.In base
 glob:base.Ns mainGlobals mg
 blt:∃ mb,base.Ns builtinsNs mb/\∀ x:Str,x≠"__name__"->mb x=bootBuiltins x
 nolimit:base.NoLimit
/-- the context: a def's body (or a comprehension's block) running. base: fixed through the whole law; s₀, H₀: the entry; outer: the frames whose slots others may change (a def's callers); stack: all frames that run;
   ex: iterators that were made ahead of the entry and are walked here (a comprehension's);fn: the names whose cells were made at the entry (a def: all;a comprehension's block: its own);calm: not within an except suite;pn: pins that every state bears;xe: what is wanted of an exception that leaves the code -/
structure Cx where
 prog:Program
 w:World
 K:PySem.W.Frag
 mg:Str->Option Value
 base:Heap
 A:Around
 N:List Str
 s₀:Shared
 H₀:Hp
 env:Env
 outer:List Env
 stack:List Env
 ex:List Addr
 fn:Str->Bool
 calm:Bool
 pn:List (Addr×Obj)
 xe:Value->Shared->Prop
def frs (l:List Env):List Addr:=l.filterMap (·.frame)
abbrev Cx.fs (X:Cx):List Addr:=frs X.outer
def Vis (sc:Scope)(x:Str):Prop:=sc.names.lookup x=some .local\/sc.names.lookup x=some .cell\/sc.names.lookup x=some .free
def Loc (sc:Scope)(x:Str):Prop:=sc.names.lookup x=some .local\/sc.names.lookup x=some .cell
def Look (env:Env)(h:Heap)(m:Str->Option Value)(x:Str)(u:Value):Prop :=
 (env.kindOf x=some .local/\m x=some u)\/((env.kindOf x=some .cell\/env.kindOf x=some .free)/\∃ c,env.cells.lookup x=some c/\h.IsCell c (some u))
structure Cx.Ok (X:Cx):Prop where
 mod:Mod X.K X.mg X.base
 kind:X.env.scope.kind=.function
 glob:X.env.globals=mainGlobals
 blt:X.env.builtins=builtinsNs
 above:X.s₀.heap.objs.size<=X.env.locals
 inj:∀ x y c,X.env.cells.lookup x=some c->X.env.cells.lookup y=some c->x=y
 has:∀ x,(X.env.kindOf x=some .cell\/X.env.kindOf x=some .free)->∃ c,X.env.cells.lookup x=some c
 cab:∀ x c,X.fn x=true->X.env.cells.lookup x=some c->X.s₀.heap.objs.size<=c
 hd:X.calm=true->X.A.handled=none
 frames:X.A.frames=some X.stack
 stk:X.stack=X.outer\/(X.stack=X.env::X.outer/\X.env.frame=some X.env.locals)
 exf:∀ b∈X.ex,b≠X.env.locals/\∀ x c,X.env.cells.lookup x=some c->c≠b
 bs:∀ b o,X.base.get? b=some o->X.s₀.heap.get? b=some o/\X.H₀ b=none
 bsz:X.base.objs.size<=X.s₀.heap.objs.size
 noex:∀ b o,X.base.get? b=some o->b∉X.ex
 exfs:∀ b∈X.ex,b∉X.fs
 funs:X.s₀.heap.FunFrames X.base X.outer
 frf:∀ b∈X.fs,X.H₀ b=none
structure Inv (X:Cx)(pins:List (Addr×Obj))(σ:List (Option V))(H:Hp)(s:Shared):Prop where
 ok:X.Ok
 os:s.os=X.s₀.os
 bare:AllBare s.gens
 base:Un X.fs X.ex X.H₀ H X.s₀.heap s.heap
 loc:∃ m,s.heap.Ns X.env.locals m/\∀ (i:Nat) (x:Str) (v:V),X.N[i]?=some x->σ[i]?=some (some v)->Vis X.env.scope x->∃ u,RelV v u/\Look X.env s.heap m x u
 cell:∀ x c,X.env.cells.lookup x=some c->∃ v,s.heap.IsCell c v
 free:H X.env.locals=none
 freeC:∀ x c,X.env.cells.lookup x=some c->H c=none
 pin:∀ p∈X.pn++pins,s.heap.get? p.1=some p.2/\H p.1=none/\p.1≠X.env.locals/\p.1∉X.fs/\∀ v,p.2.data≠.cell v
 hok:HOk X.prog X.w H s.heap
 len:σ.length=X.N.length
section
variable {X:Cx}{pins:List (Addr×Obj)}{σ:List (Option V)}{H H':Hp}{s:Shared}{h':Heap}
theorem Cx.Ok.nofr (ok:X.Ok){b:Addr}{o:Obj}(e:X.base.get? b=some o):b∉X.fs:=fun hb=>by
 have:=(ok.funs.mem hb).1
 rw [e] at this;cases this
theorem Inv.bs (I:Inv X pins σ H s):∀ b o,X.base.get? b=some o->s.heap.get? b=some o/\H b=none:=fun b o e =>
 ⟨I.base.keep b o (I.ok.bs b o e).1 (I.ok.bs b o e).2 (I.ok.nofr e) (I.ok.noex b o e),I.base.free b o (I.ok.bs b o e).1 (I.ok.bs b o e).2 (I.ok.noex b o e)⟩
theorem Inv.bk (I:Inv X pins σ H s):∀ b o,X.base.get? b=some o->s.heap.get? b=some o:=fun b o e=>(I.bs b o e).1
theorem Inv.mod (I:Inv X pins σ H s):Mod X.K X.mg X.base:=I.ok.mod
theorem Inv.kIn (I:Inv X pins σ H s):X.K.In s.heap:=I.ok.mod.kin.keeps I.bk
theorem Inv.lt (I:Inv X pins σ H s):X.env.locals<s.heap.objs.size:=let ⟨_,hn,_⟩:=I.loc;hn.lt
theorem Inv.sz (I:Inv X pins σ H s):X.s₀.heap.objs.size<=s.heap.objs.size:=Nat.le_trans I.ok.above (Nat.le_of_lt I.lt)
theorem Inv.nofs (I:Inv X pins σ H s){a:Addr}(h:s.heap.objs.size<=a):a∉X.fs:=fun hb=>by
 obtain⟨_,o,ho,_⟩:=I.ok.funs.mem hb
 exact absurd (Nat.lt_of_lt_of_le (Heap.lt_size ho) (Nat.le_trans I.sz h)) (Nat.lt_irrefl _)
theorem Inv.cne (I:Inv X pins σ H s):∀ x c,X.env.cells.lookup x=some c->c≠X.env.locals:=fun x c e z=>by
 obtain⟨v,o,ho,hd⟩:=I.cell x c e
 obtain⟨m,⟨o',es,ep,ho',hd',_⟩,_⟩:=I.loc
 rw [z,ho'] at ho;cases ho;rw [hd'] at hd;cases hd
theorem Inv.funs (I:Inv X pins σ H s):s.heap.FunFrames X.base X.outer:=by
 have all:∀ (l:List Env),(∀ b∈frs l,b∈X.fs)->X.s₀.heap.FunFrames X.base l->s.heap.FunFrames X.base l:=by
  intro l
  induction l with
  |nil=>intro _ _;trivial
  |cons env r ih =>
   intro hs hl
   obtain⟨hk,⟨L,o,hf,hn,ho,hd⟩,hr⟩:=hl
   have hL:L∈X.fs:=hs L (by unfold frs;rw [List.filterMap_cons,hf];exact List.mem_cons_self)
   obtain⟨sl,e⟩:=I.base.slot L o ho (I.ok.frf L hL) hL fun z=>I.ok.exfs L z hL
   exact⟨hk,⟨L,_,hf,hn,e,hd⟩,ih (fun b hb=>hs b (by unfold frs;rw [List.filterMap_cons,hf];exact List.mem_cons_of_mem _ hb)) hr⟩
 exact all X.outer (fun _ hb=>hb) I.ok.funs
theorem Inv.stack (I:Inv X pins σ H s):s.heap.FunFrames X.base X.stack:=by
 rcases I.ok.stk with e|⟨e,hf⟩
 ·rw [e];exact I.funs
 ·rw [e]
  obtain⟨m,hn,_⟩:=I.loc
  refine .cons (by rw [I.ok.kind];decide) hf hn ?_ I.funs
  exact Heap.get?_none_of_le (Nat.le_trans I.ok.bsz I.ok.above)
theorem Inv.stkSub (I:Inv X pins σ H s):∀ b∈frs X.stack,b∈X.env.locals::X.fs:=fun b hb=>by
 rcases I.ok.stk with e|⟨e,hf⟩
 ·rw [e] at hb;exact List.mem_cons_of_mem _ hb
 ·rw [e] at hb
  unfold frs at hb
  rw [List.filterMap_cons,hf] at hb
  exact hb
theorem Inv.stkFree (I:Inv X pins σ H s):∀ b∈frs X.stack,H b=none:=fun b hb=>by
 rcases List.mem_cons.mp (I.stkSub b hb) with e|hb
 ·rw [e];exact I.free
 ·obtain⟨_,o,ho,_⟩:=I.ok.funs.mem hb
  exact I.base.free b o ho (I.ok.frf b hb) fun z=>I.ok.exfs b z hb
theorem Inv.step {g':Array GenState}{t':Nat}{d':Drawn}{ch:List Addr}(I:Inv X pins σ H s)
  (hch:∀ b∈ch,(b∈X.ex\/X.s₀.heap.objs.size<=b)/\b≠X.env.locals/\(∀ x c,X.env.cells.lookup x=some c->c≠b)/\∀ p∈X.pn++pins,p.1≠b)
  (keep:∀ b o,b≠X.env.locals->b∉X.fs->b∉ch->s.heap.get? b=some o->H b=none->h'.get? b=some o)
  (slot:∀ b o,b≠X.env.locals->b∈X.fs->b∉ch->s.heap.get? b=some o->H b=none->∃ sl,h'.get? b=some { o with slots:=sl }) (free:∀ b o,b∉ch->s.heap.get? b=some o->H b=none->H' b=none)
  (there:∀ b o,b∉ch->s.heap.get? b=some o->∃ o',h'.get? b=some o')
  (tups:∀ b xs,H b=some (.tup xs)->H' b=some (.tup xs)) (frzs:∀ b o u,H b=some (.frz o u)->H' b=some (.frz o u)) (tbls:∀ b ps,H b=some (.tbl ps)->∃ more,H' b=some (.tbl (ps++more)))
  (ns:∀ m,s.heap.Ns X.env.locals m->h'.Ns X.env.locals m) (hok:HOk X.prog X.w H' h') (hg:AllBare g') :
  Inv X pins σ H' { s with heap:=h',gens:=g',drawn:=d',toks:=t' }:=by
 have neL:∀ b o,X.s₀.heap.get? b=some o->b≠X.env.locals:=fun b o e=>Nat.ne_of_lt (Nat.lt_of_lt_of_le (Heap.lt_size e) I.ok.above)
 have neC:∀ b o,X.s₀.heap.get? b=some o->b∉X.ex->b∉ch:=fun b o e hx hb=>by
  rcases (hch b hb).1 with z|z
  ·exact hx z
  ·exact absurd (Nat.lt_of_lt_of_le (Heap.lt_size e) z) (Nat.lt_irrefl _)
 have cellK:∀ x c,X.env.cells.lookup x=some c->∀ v,s.heap.IsCell c v->h'.IsCell c v:=fun x c e v ⟨o,ho,hd⟩=>by
  have nch:c∉ch:=fun z=>(hch c z).2.2.1 x c e rfl
  by_cases hc:c∈X.fs
  ·obtain⟨sl,q⟩:=slot c o (I.cne x c e) hc nch ho (I.freeC x c e)
   exact⟨_,q,hd⟩
  ·exact⟨o,keep c o (I.cne x c e) hc nch ho (I.freeC x c e),hd⟩
 refine⟨I.ok,I.os,hg,⟨fun b o e n hb hx=>?_,fun b o e n hb hx=>?_,fun b o e n hx=>?_,fun b o e hx=>?_,fun b xs e=>tups b xs (I.base.tups b xs e),fun b o xs e=>frzs b o xs (I.base.frzs b o xs e),fun b ps e=>?_⟩,?_,fun x c e=>?_,?_,fun x c e=>?_,fun p hp=>?_,hok,I.len⟩
 ·exact keep b o (neL b o e) hb (neC b o e hx) (I.base.keep b o e n hb hx) (I.base.free b o e n hx)
 ·obtain⟨sl,e1⟩:=I.base.slot b o e n hb hx
  obtain⟨sl',e2⟩:=slot b _ (neL b o e) hb (neC b o e hx) e1 (I.base.free b o e n hx)
  exact⟨sl',e2⟩
 ·obtain⟨o',e1⟩:=I.base.there b o e hx
  exact free b o' (neC b o e hx) e1 (I.base.free b o e n hx)
 ·obtain⟨o',e1⟩:=I.base.there b o e hx
  exact there b o' (neC b o e hx) e1
 ·obtain⟨m1,e1⟩:=I.base.tbls b ps e
  obtain⟨m2,e2⟩:=tbls b _ e1
  exact⟨m1++m2,by rw [e2,Array.append_assoc]⟩
 ·obtain⟨m,hn,hl⟩:=I.loc
  refine⟨m,ns m hn,fun i x v e1 e2 e3=>?_⟩
  obtain⟨u,r,l⟩:=hl i x v e1 e2 e3
  refine⟨u,r,?_⟩
  rcases l with l|⟨k,c,e,z⟩
  ·exact .inl l
  ·exact .inr ⟨k,c,e,cellK x c e _ z⟩
 ·obtain⟨v,z⟩:=I.cell x c e
  exact⟨v,cellK x c e v z⟩
 ·obtain⟨m,⟨o,_,_,ho,_⟩,_⟩:=I.loc
  exact free _ o (fun z=>(hch _ z).2.1 rfl) ho I.free
 ·obtain⟨v,o,ho,hd⟩:=I.cell x c e
  exact free c o (fun z=>(hch c z).2.2.1 x c e rfl) ho (I.freeC x c e)
 ·obtain⟨e,n,ne,nf,d⟩:=I.pin p hp
  have nch:p.1∉ch:=fun z=>(hch p.1 z).2.2.2 p hp rfl
  exact⟨keep p.1 p.2 ne nf nch e n,free p.1 p.2 nch e n,ne,nf,d⟩
theorem Inv.un {t':Nat}(I:Inv X pins σ H s)(u:Un X.fs [] H H' s.heap h')(hok:HOk X.prog X.w H' h'):Inv X pins σ H' { s with heap:=h',toks:=t' }:=by
 obtain⟨m,⟨o,es,ep,ho,r⟩,_⟩:=id I.loc
 obtain⟨sl,hL⟩:=u.any ho I.free (by simp)
 exact I.step (g':=s.gens) (d':=s.drawn) (ch:=[]) (fun _ z=>nomatch z) (fun b o _ hb _ e n=>u.keep b o e n hb (by simp)) (fun b o _ hb _ e n=>u.slot b o e n hb (by simp)) (fun b o _ e n=>u.free b o e n (by simp)) (fun b o _ e=>u.there b o e (by simp)) u.tups u.frzs u.tbls (fun m' hm=>by
  obtain⟨o',es',ep',ho',r'⟩:=hm
  rw [ho] at ho';cases ho'
  exact⟨_,es',ep',hL,r'⟩) hok I.bare
theorem Inv.call {g':Array GenState}{t':Nat}{d':Drawn}{ch:List Addr}(I:Inv X pins σ H s)(u:Un (frs X.stack) ch H H' s.heap h')(hok:HOk X.prog X.w H' h')(hg:AllBare g')
  (hch:∀ b∈ch,(b∈X.ex\/X.s₀.heap.objs.size<=b)/\b≠X.env.locals/\(∀ x c,X.env.cells.lookup x=some c->c≠b)/\∀ p∈X.pn++pins,p.1≠b) :
  Inv X pins σ H' { s with heap:=h',gens:=g',drawn:=d',toks:=t' }:=by
 obtain⟨m,⟨o,es,ep,ho,r⟩,_⟩:=id I.loc
 obtain⟨sl,hL⟩:=u.any ho I.free fun z=>(hch _ z).2.1 rfl
 exact I.step (ch:=ch) hch (fun b o hL hb hc e n=>u.keep b o e n (fun z=>(List.mem_cons.mp (I.stkSub b z)).elim hL hb) hc) (fun b o _ _ hc e n=>u.any e n hc) (fun b o hc e n=>u.free b o e n hc) (fun b o hc e=>u.there b o e hc) u.tups u.frzs u.tbls (fun m' hm=>by
  obtain⟨o',es',ep',ho',r'⟩:=hm
  rw [ho] at ho';cases ho'
  exact⟨_,es',ep',hL,r'⟩) hok hg
theorem Inv.turned {t':Nat}{it:Addr}(I:Inv X pins σ H s)(k:∀ b o,b≠it->s.heap.get? b=some o->h'.get? b=some o)(hn:H it=none)(hL:it≠X.env.locals)
  (h1:it∈X.ex\/X.s₀.heap.objs.size<=it) (h2:∀ x c,X.env.cells.lookup x=some c->c≠it) (h3:∀ p∈X.pn++pins,p.1≠it):Inv X pins σ H { s with heap:=h',toks:=t' }:=by
 have nit:∀ b u,H b=some u->b≠it:=fun b u e z=>by rw [z,hn] at e;cases e
 refine I.step (g':=s.gens) (d':=s.drawn) (ch:=[it]) (fun b hb=>?_) (fun b o _ _ hc e _=>k b o (fun z=>hc (by simp [z])) e) (fun b o _ _ hc e _=>⟨o.slots,k b o (fun z=>hc (by simp [z])) e⟩) (fun _ _ _ _ n=>n)
  (fun b o hc e=>⟨o,k b o (fun z=>hc (by simp [z])) e⟩) (fun _ _ e=>e) (fun _ _ _ e=>e) (fun b ps e=>⟨#[],by rw [e];simp⟩) (fun m hm=>?_) (fun b u e=>?_) I.bare
 ·have e:b=it:=by simpa using hb
  subst e
  exact⟨h1,hL,h2,h3⟩
 ·obtain⟨o,es,ep,ho,r⟩:=hm
  exact⟨o,es,ep,k _ o (Ne.symm hL) ho,r⟩
 ·refine (I.hok b u e).stay (fun c v hc q=>k c v ?_ q) (fun _ q=>q) fun _ _ q=>q
  rcases hc with z|z
  ·rw [z];exact nit b u e
  ·exact nit c _ z
theorem Inv.tok (I:Inv X pins σ H s)(t:Nat):Inv X pins σ H { s with toks:=t }:=I.un (h':=s.heap) (t':=t) Un.refl I.hok
theorem Inv.kept {t':Nat}(I:Inv X pins σ H s)(k:∀ b u,s.heap.get? b=some u->h'.get? b=some u):Inv X pins σ H { s with heap:=h',toks:=t' }:=I.un (Un.kept k) (I.hok.kept k)
theorem Inv.laid {a:Addr}{o:HO}{t':Nat}(I:Inv X pins σ H s)(k:∀ b u,s.heap.get? b=some u->h'.get? b=some u)(hp:s.heap.objs.size<=a)(new:zaA X.prog X.w (upd H a o) h' a o) :
  Inv X pins σ (upd H a o) { s with heap:=h',toks:=t' }:=I.un (Un.laid k hp (I.hok.fresh hp)) (I.hok.laid k hp new)
theorem Inv.write {x e:Addr}{o:HO}{t':Nat}(I:Inv X pins σ H s)(mu:Mut (H x))(he:e=x\/H e=some (.own x))(k:∀ b u,b≠e->s.heap.get? b=some u->h'.get? b=some u)(heo:∃ u,h'.get? e=some u)
  (new:zaA X.prog X.w (upd H x o) h' x o):Inv X pins σ (upd H x o) { s with heap:=h',toks:=t' }:=I.un (Un.write mu he k heo) (I.hok.write mu he k heo new)
theorem Inv.weak {σ':List (Option V)}(I:Inv X pins σ H s)(hl:σ'.length=σ.length)(w:∀ (i:Nat) v,σ'[i]?=some (some v)->σ[i]?=some (some v)):Inv X pins σ' H s :=
 ⟨I.ok,I.os,I.bare,I.base,let ⟨m,hn,hl'⟩:=I.loc;⟨m,hn,fun i x v e1 e2 e3=>hl' i x v e1 (w i v e2) e3⟩,I.cell,I.free,I.freeC,I.pin,I.hok,hl.trans I.len⟩
theorem Inv.pins_of {pins':List (Addr×Obj)}(I:Inv X pins σ H s)(h:∀ p∈pins',s.heap.get? p.1=some p.2/\H p.1=none/\p.1≠X.env.locals/\p.1∉X.fs/\∀ v,p.2.data≠.cell v):Inv X pins' σ H s :=
 ⟨I.ok,I.os,I.bare,I.base,I.loc,I.cell,I.free,I.freeC,fun p hp=>(List.mem_append.mp hp).elim (fun z=>I.pin p (List.mem_append_left _ z)) (h p),I.hok,I.len⟩
theorem zjR {N:List Str}(hN:N.Nodup){i j:Nat}{x:Str}(a:N[i]?=some x)(b:N[j]?=some x):i=j:=by
 obtain⟨h1,e1⟩:=List.getElem?_eq_some_iff.mp a
 obtain⟨h2,e2⟩:=List.getElem?_eq_some_iff.mp b
 exact (List.getElem_inj hN).mp (e1.trans e2.symm)
theorem ziw {M:Model}{A:Around}{E:Value->Shared->Prop}{i:Nat}{x:Str}{v:V}{u:Value}{Q:Unit->Shared->Prop}(I:Inv X pins σ H s)(hN:X.N.Nodup)(hi:X.N[i]?=some x)(hx:Loc X.env.scope x)(r:RelV v u)
  (h:∀ s',Inv X pins (σ.set i (some v)) H s'->(∃ a,Heap.SameBut a s.heap s'.heap/\(a=X.env.locals\/X.env.cells.lookup x=some a))->Q () s') (hf:X.fn x=true\/X.env.scope.names.lookup x=some .local:=by first|exact .inl rfl|exact .inr rfl|assumption):wpAny M A (storeName X.env x u) Q E s:=by
 obtain⟨m,hn,hl⟩:=id I.loc
 have hcls:(X.env.scope.kind==.class||(X.env.scope.kind==.module&&X.env.locals != X.env.globals))=false:=by rw [I.ok.kind];rfl
 have hiσ:i<σ.length:=by rw [I.len];exact (List.getElem?_eq_some_iff.mp hi).1
 have cne:=I.cne
 have tracked:∀ {a:Addr} {h':Heap},(∃ o,s.heap.get? a=some o/\H a=none)->Heap.SameBut a s.heap h'->HOk X.prog X.w H h':=fun {a h'} ha hs b ob e=>by
  obtain⟨_,_,hfree⟩:=ha
  refine (I.hok b ob e).stay (fun c w' hc q=>(hs.2 c ?_).trans q) (fun _ q=>q) fun _ _ q=>q
  rintro rfl
  rcases hc with rfl|hc
  ·rw [hfree] at e;cases e
  ·rw [hfree] at hc;cases hc
 rcases hx with hk|hk
 ·refine wpAny_storeName_local hk hn (fun h' hn' hs=>?_) hcls
  obtain⟨oL,_,_,hoL,_⟩:=id hn
  refine h _ ⟨I.ok,I.os,I.bare,⟨fun b o e n hb hx=>?_,fun b o e n hb hx=>?_,I.base.free,fun b o e hx=>?_,I.base.tups,I.base.frzs,I.base.tbls⟩,⟨_,hn',fun j y v' e1 e2 e3=>?_⟩,fun y c e=>?_,I.free,I.freeC,fun p hp=>?_,tracked ⟨oL,hoL,I.free⟩ hs,by simpa using I.len⟩ ⟨_,hs,.inl rfl⟩
  ·exact (hs.2 b (Nat.ne_of_lt (Nat.lt_of_lt_of_le (Heap.lt_size e) I.ok.above))).trans (I.base.keep b o e n hb hx)
  ·obtain⟨sl,e1⟩:=I.base.slot b o e n hb hx
   exact⟨sl,(hs.2 b (Nat.ne_of_lt (Nat.lt_of_lt_of_le (Heap.lt_size e) I.ok.above))).trans e1⟩
  ·obtain⟨o',e1⟩:=I.base.there b o e hx
   exact⟨o',(hs.2 b (Nat.ne_of_lt (Nat.lt_of_lt_of_le (Heap.lt_size e) I.ok.above))).trans e1⟩
  ·by_cases hj:j=i
   ·subst hj
    rw [hi] at e1;cases e1
    rw [List.getElem?_set_self hiσ] at e2
    cases e2
    exact⟨u,r,.inl ⟨hk,by simp⟩⟩
   ·rw [List.getElem?_set_ne (Ne.symm hj)] at e2
    obtain⟨u',r',q⟩:=hl j y v' e1 e2 e3
    refine⟨u',r',?_⟩
    rcases q with ⟨k,e⟩|⟨k,c,e,z⟩
    ·refine .inl ⟨k,?_⟩
     have:y≠x:=fun e=>hj (zjR hN e1 (e▸hi))
     simp [this,e]
    ·exact .inr ⟨k,c,e,z.sameBut hs (cne y c e)⟩
  ·obtain⟨w',z⟩:=I.cell y c e
   exact⟨w',z.sameBut hs (cne y c e)⟩
  ·obtain⟨e,n,ne,nf,d⟩:=I.pin p hp
   exact⟨(hs.2 p.1 ne).trans e,n,ne,nf,d⟩
 ·have hfn:X.fn x=true:=by
   rcases hf with z|z
   ·exact z
   ·rw [z] at hk;cases hk
  obtain⟨c,hc⟩:=I.ok.has x (.inl hk)
  obtain⟨w',z⟩:=I.cell x c hc
  refine wpAny_storeName_cell I.ok.kind hk hc z (fun h' hc' hs=>?_)
  obtain⟨oc,hoc,hocd⟩:=id z
  refine h { s with heap:=h' } ⟨I.ok,I.os,I.bare,⟨fun b o e n hb hx=>?_,fun b o e n hb hx=>?_,I.base.free,fun b o e hx=>?_,I.base.tups,I.base.frzs,I.base.tbls⟩,⟨m,hn.sameBut hs (Ne.symm (cne x c hc)),fun j y v' e1 e2 e3=>?_⟩,fun y c' e=>?_,I.free,I.freeC,fun p hp=>?_,tracked ⟨oc,hoc,I.freeC x c hc⟩ hs,by simpa using I.len⟩ ⟨c,hs,.inr hc⟩
  ·exact (hs.2 b (Nat.ne_of_lt (Nat.lt_of_lt_of_le (Heap.lt_size e) (I.ok.cab x c hfn hc)))).trans (I.base.keep b o e n hb hx)
  ·obtain⟨sl,e1⟩:=I.base.slot b o e n hb hx
   exact⟨sl,(hs.2 b (Nat.ne_of_lt (Nat.lt_of_lt_of_le (Heap.lt_size e) (I.ok.cab x c hfn hc)))).trans e1⟩
  ·obtain⟨o',e1⟩:=I.base.there b o e hx
   exact⟨o',(hs.2 b (Nat.ne_of_lt (Nat.lt_of_lt_of_le (Heap.lt_size e) (I.ok.cab x c hfn hc)))).trans e1⟩
  ·by_cases hj:j=i
   ·subst hj
    rw [hi] at e1;cases e1
    rw [List.getElem?_set_self hiσ] at e2
    cases e2
    exact⟨u,r,.inr ⟨.inl hk,c,hc,hc'⟩⟩
   ·rw [List.getElem?_set_ne (Ne.symm hj)] at e2
    obtain⟨u',r',q⟩:=hl j y v' e1 e2 e3
    refine⟨u',r',?_⟩
    rcases q with q|⟨k,c',e,z'⟩
    ·exact .inl q
    ·refine .inr ⟨k,c',e,z'.sameBut hs ?_⟩
     rintro rfl
     exact hj (zjR hN e1 (I.ok.inj _ _ _ e hc▸hi))
  ·by_cases hcc:c'=c
   ·subst hcc;exact⟨_,hc'⟩
   ·obtain⟨w2,z2⟩:=I.cell y c' e
    exact⟨w2,z2.sameBut hs hcc⟩
  ·obtain⟨e,n,ne,nf,d⟩:=I.pin p hp
   refine⟨(hs.2 p.1 ?_).trans e,n,ne,nf,d⟩
   intro q
   rw [q,hoc] at e
   have q':oc=p.2:=Option.some.inj e
   exact d w' (by rw [<- q'];exact hocd)
theorem zgL {M:Model}{A:Around}{E:Value->Shared->Prop}{i:Nat}{x:Str}{v:V}{u:Value}{Q:Unit->Shared->Prop}(I:Inv X pins σ H s)(hN:X.N.Nodup)(hi:X.N[i]?=some x)(hx:Loc X.env.scope x)(r:RelV v u)
  (h:∀ s',Inv X pins (σ.set i (some v)) H s'->Q () s') (hf:X.fn x=true\/X.env.scope.names.lookup x=some .local:=by first|exact .inl rfl|exact .inr rfl|assumption):wpAny M A (storeName X.env x u) Q E s :=
 ziw I hN hi hx r (fun s' I' _=>h s' I') hf
theorem Inv.call' {s':Shared}{ch:List Addr}(I:Inv X pins σ H s)(ho:s'.os=s.os)(u:Un (frs X.stack) ch H H' s.heap s'.heap)(hok:HOk X.prog X.w H' s'.heap)(hg:AllBare s'.gens)
  (hch:∀ b∈ch,(b∈X.ex\/X.s₀.heap.objs.size<=b)/\b≠X.env.locals/\(∀ x c,X.env.cells.lookup x=some c->c≠b)/\∀ p∈X.pn++pins,p.1≠b):Inv X pins σ H' s':=by
 obtain⟨h',g',d',t',o'⟩:=s'
 have e:o'=s.os:=ho
 subst e
 exact I.call (g':=g') (t':=t') (d':=d') u hok hg hch
end
abbrev XK:=Value->Option Addr->Hp->Prop
abbrev St:=List (Option V)
abbrev VK:=V->Hp->Prop
abbrev TE:=St->Hp->VK->Prop
abbrev TT:=St->Hp->(Bool->Hp->Prop)->Prop
abbrev TA:=St->Hp->(List V->Hp->Prop)->Prop
structure Ends where
 nx:St->Hp->Prop
 rt:VK
 bk:St->Hp->Prop:=fun _ _=>False
 ct:St->Hp->Prop:=fun _ _=>False
abbrev TS:=Ends->St->Hp->Prop
def EP (X:Cx)(pins:List (Addr×Obj))(σ:St)(Q:VK)(u:Value)(s':Shared):Prop:=∃ v H',Inv X pins σ H' s'/\RelV v u/\Q v H'
def TP (X:Cx)(pins:List (Addr×Obj))(σ:St)(Q:Bool->Hp->Prop)(b:Bool)(s':Shared):Prop:=∃ H',Inv X pins σ H' s'/\Q b H'
def AP (X:Cx)(pins:List (Addr×Obj))(σ:St)(Q:List V->Hp->Prop)(us:List Value)(s':Shared):Prop:=∃ vs H',Inv X pins σ H' s'/\Vals vs us/\Q vs H'
def SP (X:Cx)(pins:List (Addr×Obj))(D:Ends)(f:Flow)(s':Shared):Prop :=
 match f with
 |.next=>∃ σ' H',Inv X pins σ' H' s'/\D.nx σ' H'
 |.brk=>∃ σ' H',Inv X pins σ' H' s'/\D.bk σ' H'
 |.cont=>∃ σ' H',Inv X pins σ' H' s'/\D.ct σ' H'
 |.ret u=>∃ v σ' H',Inv X pins σ' H' s'/\RelV v u/\D.rt v H'
def PE (X:Cx)(e:Expr)(t:TE):Prop :=
 ∀ (pins:List (Addr×Obj)) (s:Shared) (σ:St) (H:Hp) (Q:VK),Inv X pins σ H s->t σ H Q->wpAny (model X.prog X.w) X.A (eval e X.env) (EP X pins σ Q) X.xe s
def PT (X:Cx)(e:Expr)(t:TT):Prop :=
 ∀ (pins:List (Addr×Obj)) (s:Shared) (σ:St) (H:Hp) (Q:Bool->Hp->Prop),Inv X pins σ H s->t σ H Q->wpAny (model X.prog X.w) X.A (isTrue e X.env (eval e X.env)) (TP X pins σ Q) X.xe s
def PW (X:Cx)(e:Expr)(t:TT):Prop :=
 ∀ (whole:Sem Value) (pins:List (Addr×Obj)) (s:Shared) (σ:St) (H:Hp) (Q:Bool->Hp->Prop),Inv X pins σ H s->t σ H Q->wpAny (model X.prog X.w) X.A (isTrue e X.env whole) (TP X pins σ Q) X.xe s
def PA (X:Cx)(es:List Expr)(t:TA):Prop :=
 ∀ (pos:Pos) (pins:List (Addr×Obj)) (s:Shared) (σ:St) (H:Hp) (Q:List V->Hp->Prop),Inv X pins σ H s->t σ H Q->wpAny (model X.prog X.w) X.A (spliced (backTo pos (starEach es X.env))) (AP X pins σ Q) X.xe s
def PS (X:Cx)(st:Stmt)(t:TS):Prop :=
 ∀ (pins:List (Addr×Obj)) (s:Shared) (σ:St) (H:Hp) (D:Ends),Inv X pins σ H s->t D σ H->wpAny (model X.prog X.w) X.A (exec st X.env) (SP X pins D) X.xe s
def PSs (X:Cx)(st:List Stmt)(t:TS):Prop :=
 ∀ (pins:List (Addr×Obj)) (s:Shared) (σ:St) (H:Hp) (D:Ends),Inv X pins σ H s->t D σ H->wpAny (model X.prog X.w) X.A (execs st X.env) (SP X pins D) X.xe s
theorem thn {α:Type}{t:Sem α}{Q Q':α->Shared->Prop}{M:Model}{A:Around}{E:Value->Shared->Prop}{s:Shared}(h:wpAny M A t Q E s)(hQ:∀ a s,Q a s->Q' a s):wpAny M A t Q' E s:=wpAny_mono h hQ fun _ _ x=>x
section
variable {X:Cx}
def zrt (i:Nat):TE:=fun σ H Q=>∃ v,σ[i]?=some (some v)/\Q v H
def tC (v:V):TE:=fun _ H Q=>Q v H
theorem zqL {i:Nat}{x:Str}{pos:Pos}(hN:X.N[i]?=some x)(hv:Vis X.env.scope x)(hd:(x==("__debug__":Str))=false:=by decide)(hcd:(x==("__classdict__":Str))=false:=by decide):PE X (.Name x pos) (zrt i):=by
 intro pins s σ H Q I h
 obtain⟨v,e,h⟩:=h
 obtain⟨m,hn,hl⟩:=I.loc
 obtain⟨u,r,l⟩:=hl i x v hN e hv
 have fin:EP X pins σ Q u s:=⟨v,H,I,r,h⟩
 rcases l with ⟨hk,hm⟩|⟨hk,c,hc,hcell⟩
 ·exact wpAny_Name (wpAny_loadName_local I.ok.kind hk hn hm fin) hd
 ·rcases hk with hk|hk
  ·exact wpAny_Name (wpAny_loadName_cell I.ok.kind hk hc hcell fin) hd
  ·exact wpAny_Name (wpAny_loadName_free I.ok.kind hk hc hcell fin hcd) hd
theorem zjm {i j pos}:PE X (.Constant (.int i) j pos) (tC (.int i)):=fun _ _ _ H _ I h=>wpAny_Constant_int ⟨.int i,H,I.tok _,⟨_,rfl⟩,h⟩
theorem zsf {b j pos}:PE X (.Constant (.bool b) j pos) (tC (.bl b)):=fun _ _ _ H _ I h=>Constant_bool ⟨.bl b,H,I,rfl,h⟩
theorem zr2 {j pos}:PE X (.Constant .none j pos) (tC .non):=fun _ _ _ H _ I h=>Constant_none ⟨.non,H,I,rfl,h⟩
theorem zmY {x j pos}:PE X (.Constant (.str x) j pos) (tC (.str x)):=fun _ _ _ H _ I h=>Calls.Constant_str ⟨.str x,H,I.tok _,⟨_,rfl⟩,h⟩
def Gl (X:Cx)(x:Str):Prop:=X.env.kindOf x=some .globalImplicit
theorem zeU {E:Value->Shared->Prop}{pins:List (Addr×Obj)}{s:Shared}{σ:St}{H:Hp}{x:Str}{u:Value}{pos:Pos}{Q:Value->Shared->Prop}(I:Inv X pins σ H s)(hg:Gl X x)(hm:X.mg x=some u)(h:Q u s)
  (hd:(x==("__debug__":Str))=false:=by decide):wpAny (model X.prog X.w) X.A (eval (.Name x pos) X.env) Q E s :=
 Calls.Name_function_global I.ok.kind hg (Calls.loadGlobal_global (by rw [I.ok.glob];exact I.mod.glob.keeps I.bk) hm h) hd
theorem zec {E:Value->Shared->Prop}{pins:List (Addr×Obj)}{s:Shared}{σ:St}{H:Hp}{x:Str}{u:Value}{pos:Pos}{Q:Value->Shared->Prop}(I:Inv X pins σ H s)(hg:Gl X x)(hm:X.mg x=none)(hv:bootBuiltins x=some u)(h:Q u s)
  (hn:x≠"__name__":=by decide) (hd:(x==("__debug__":Str))=false:=by decide):wpAny (model X.prog X.w) X.A (eval (.Name x pos) X.env) Q E s:=by
 obtain⟨mb,h1,h2⟩:=I.mod.blt
 exact Calls.Name_function_global I.ok.kind hg (Calls.loadGlobal_builtin (by rw [I.ok.glob];exact I.mod.glob.keeps I.bk) hm (by rw [I.ok.blt];exact h1.keeps I.bk) ((h2 x hn).trans hv) h) hd
theorem zhD {x:Str}{v:V}{u:Value}{pos:Pos}(hg:Gl X x)(hm:X.mg x=some u)(r:RelV v u)(hd:(x==("__debug__":Str))=false:=by decide):PE X (.Name x pos) (tC v) :=
 fun _ _ _ H _ I h=>zeU I hg hm ⟨v,H,I,r,h⟩ hd
theorem zpz {x:Str}{v:V}{u:Value}{pos:Pos}(hg:Gl X x)(hm:X.mg x=none)(hv:bootBuiltins x=some u)(r:RelV v u)(hn:x≠"__name__":=by decide)(hd:(x==("__debug__":Str))=false:=by decide):PE X (.Name x pos) (tC v) :=
 fun _ _ _ H _ I h=>zec I hg hm hv ⟨v,H,I,r,h⟩ hn hd
variable {a b:Expr}{ta tb:TE}{pos:Pos}
def tB (t:TE):TT:=fun σ H Q=>t σ H fun x H1=>∃ c,x=.bl c/\Q c H1
theorem zqh {e:Expr}{t:TE}(h:PE X e t)(he:∀ whole,isTrue e X.env whole=(do let v <- whole;standAt e.pos;holding [v] (truthy v)):=by intro _;rfl):PT X e (tB t):=by
 intro pins s σ H Q I hw
 refine isTrue_plain (thn (h pins s σ H _ I hw) fun v s1 ⟨x,H1,I1,r1,q1⟩=>?_) (he _)
 obtain⟨d,rfl,q⟩:=q1
 cases r1
 exact wpAny_truthy_bool ⟨H1,I1,q⟩
variable {tA tB':TT}{rest:List Expr}
def ztH (t u:TT):TT:=fun σ H Q=>t σ H fun c H1=>if c=true then u σ H1 Q else Q false H1
def tOr (t u:TT):TT:=fun σ H Q=>t σ H fun c H1=>if c=true then Q true H1 else u σ H1 Q
def zuc (t:TT):TT:=fun σ H Q=>t σ H fun c H1=>Q (!c) H1
theorem zo0 (ha:PT X a tA):PW X (.BoolOp .And [a] pos) tA:=by
 intro wh pins s σ H Q I h
 refine isTrue_and (thn (ha pins s σ H Q I h) fun c s1 e=>?_)
 cases c with
 |true=>exact isTrue_and_nil e
 |false=>exact e
theorem zrz (ha:PT X a tA):PW X (.BoolOp .Or [a] pos) tA:=by
 intro wh pins s σ H Q I h
 refine isTrue_or (thn (ha pins s σ H Q I h) fun c s1 e=>?_)
 cases c with
 |false=>exact isTrue_or_nil e
 |true=>exact e
theorem zrJ (ha:PT X a tA)(hb:PW X (.BoolOp .And (b::rest) pos) tB'):PW X (.BoolOp .And (a::b::rest) pos) (ztH tA tB'):=by
 intro wh pins s σ H Q I h
 refine isTrue_and (thn (ha pins s σ H _ I h) fun c s1 ⟨H1,I1,q1⟩=>?_)
 cases c with
 |true=>exact hb wh pins s1 σ H1 Q I1 q1
 |false=>exact⟨H1,I1,q1⟩
theorem ztj (ha:PT X a tA)(hb:PW X (.BoolOp .Or (b::rest) pos) tB'):PW X (.BoolOp .Or (a::b::rest) pos) (tOr tA tB'):=by
 intro wh pins s σ H Q I h
 refine isTrue_or (thn (ha pins s σ H _ I h) fun c s1 ⟨H1,I1,q1⟩=>?_)
 cases c with
 |true=>exact⟨H1,I1,q1⟩
 |false=>exact hb wh pins s1 σ H1 Q I1 q1
theorem zqe (ha:PT X a tA):PT X (.UnaryOp .Not a pos) (zuc tA):=by
 intro pins s σ H Q I h
 exact isTrue_not (ha pins s σ H (fun c H1=>Q (!c) H1) I h)
def zsj (ta tb:TE):TE:=fun σ H Q=>ta σ H fun x H1=>∃ c,x=.bl c/\if c=true then tb σ H1 Q else Q (.bl false) H1
def zsy (ta:TE):TE:=fun σ H Q=>ta σ H fun x H1=>∃ c,x=.bl c/\Q (.bl (!c)) H1
theorem zqS {op}{t:TE}(h:PE X a t):PE X (.BoolOp op [a] pos) t:=fun pins s σ H Q I hw=>BoolOp_one (h pins s σ H Q I hw)
theorem zqF (ha:PE X a ta)(hb:PE X (.BoolOp .And (b::rest) pos) tb):PE X (.BoolOp .And (a::b::rest) pos) (zsj ta tb):=by
 intro pins s σ H Q I h
 refine BoolOp_and (thn (ha pins s σ H _ I h) fun v s1 ⟨x,H1,I1,r1,q1⟩=>?_)
 obtain⟨c,rfl,q1⟩:=q1
 cases r1
 refine wpAny_truthy_bool ?_
 cases c with
 |true=>exact hb pins s1 σ H1 Q I1 q1
 |false=>exact⟨.bl false,H1,I1,rfl,q1⟩
theorem zrG (ha:PE X a ta):PE X (.UnaryOp .Not a pos) (zsy ta):=by
 intro pins s σ H Q I h
 refine UnaryOp_ (thn (ha pins s σ H _ I h) fun v s1 ⟨x,H1,I1,r1,q1⟩=>?_)
 obtain⟨c,rfl,q1⟩:=q1
 cases r1
 exact not_of (wpAny_truthy_bool ⟨.bl (!c),H1,I1,rfl,q1⟩)
def tIf (t:TT)(ta tb:TE):TE:=fun σ H Q=>t σ H fun c H1=>if c=true then ta σ H1 Q else tb σ H1 Q
theorem zn3 {c:Expr}(hc:PT X c tA)(ha:PE X a ta)(hb:PE X b tb):PE X (.IfExp c a b pos) (tIf tA ta tb):=by
 intro pins s σ H Q I h
 refine wpAny_IfExp (thn (hc pins s σ H _ I h) fun d s1 ⟨H1,I1,q1⟩=>?_)
 cases d with
 |true=>exact ha pins s1 σ H1 Q I1 q1
 |false=>exact hb pins s1 σ H1 Q I1 q1
end
def SqL (K:PySem.W.Frag)(H:Hp)(a:Addr)(xs:List V):Prop :=
 Rd H a (.lst xs) \/
  ∃ (o:Obj) (its:Array Value) (n:Nat),K.lookup a=some o/\o.cls=.type "list"/\o.dict=none/\o.data=.seq its n/\its.size<=sizeLine/\Vals xs its.toList
def SqT (K:PySem.W.Frag)(H:Hp)(a:Addr)(xs:List V):Prop :=
 Rd H a (.tup xs) \/
  ∃ (o:Obj) (its:Array Value) (n:Nat),K.lookup a=some o/\o.cls=.type "tuple"/\o.data=.seq its n/\its.size<=sizeLine/\Vals xs its.toList
def zt4:Value->Option V
 |.none=>some .non
 |.bool b=>some (.bl b)
 |.int i _=>some (.int i)
 |.str x _=>some (.str x)
 |.bytes b _=>some (.byt b)
 |.float b _=>some (.flt b)
 |.ref a=>some (.ref a)
 |.type n=>some (.ty n)
 |_=>none
theorem RelV.abs {x:V}{u:Value}(r:RelV x u):zt4 u=some x:=by
 cases x with
 |non=>cases r;rfl
 |bl _=>cases r;rfl
 |int _=>obtain⟨t,rfl⟩:=r;rfl
 |str _=>obtain⟨t,rfl⟩:=r;rfl
 |byt _=>obtain⟨t,rfl⟩:=r;rfl
 |flt _=>obtain⟨t,rfl⟩:=r;rfl
 |ref _=>cases r;rfl
 |ty _=>cases r;rfl
theorem RelV.inj {x y:V}{u:Value}(r:RelV x u)(q:RelV y u):x=y:=Option.some.inj (r.abs.symm.trans q.abs)
theorem Vals.inj:∀ {xs ys:List V} {us:List Value},Vals xs us->Vals ys us->xs=ys
 |_,_,_,.nil,.nil=>rfl
 |_,_,_,.cons r t,.cons r' t'=>by rw [r.inj r',Vals.inj t t']
section
variable {X:Cx}{pins:List (Addr×Obj)}{σ:St}{H:Hp}{s:Shared}{a:Addr}{xs ys:List V}
theorem SqL.of {K:PySem.W.Frag}(h:H a=some (.lst xs)):SqL K H a xs:=.inl (.inl h)
theorem SqT.of {K:PySem.W.Frag}(h:H a=some (.tup xs)):SqT K H a xs:=.inl (.inl h)
theorem Inv.list (I:Inv X pins σ H s)(h:SqL X.K H a xs):∃ its:List Value,Vals xs its/\PlainL s.heap a its.toArray/\xs.length<=sizeLine:=by
 rcases h with h|⟨o,its,n,hk,hc,hd,hs,hz,r⟩
 ·obtain⟨z,its,n,r,e⟩:=h.ok I.hok
  exact⟨its,r,⟨_,n,e,rfl,rfl,rfl⟩,z⟩
 ·refine⟨its.toList,r,⟨o,n,I.kIn a o hk,hc,hd,by simpa using hs⟩,?_⟩
  have e:=r.length
  simp only [Array.length_toList] at e
  omega
theorem Inv.tuple (I:Inv X pins σ H s)(h:SqT X.K H a xs):∃ its:List Value,Vals xs its/\IsTup s.heap a its.toArray/\xs.length<=sizeLine:=by
 rcases h with h|⟨o,its,n,hk,hc,hs,hz,r⟩
 ·obtain⟨z,its,r,p⟩:=h.ok I.hok
  exact⟨its,r,p,z⟩
 ·refine⟨its.toList,r,⟨o,I.kIn a o hk,hc,n,by simpa using hs⟩,?_⟩
  have e:=r.length
  simp only [Array.length_toList] at e
  omega
theorem Inv.list_inj (I:Inv X pins σ H s)(h:SqL X.K H a xs)(h':SqL X.K H a ys):xs=ys:=by
 obtain⟨its,r,⟨o,n,e,_,_,d⟩,_⟩:=I.list h
 obtain⟨its',r',⟨o',n',e',_,_,d'⟩,_⟩:=I.list h'
 rw [e] at e';cases e'
 rw [d] at d'
 injection d' with d1 _
 have:its=its':=by simpa using congrArg Array.toList d1
 subst this
 exact r.inj r'
theorem Inv.tuple_inj (I:Inv X pins σ H s)(h:SqT X.K H a xs)(h':SqT X.K H a ys):xs=ys:=by
 obtain⟨its,r,⟨o,e,_,n,d⟩,_⟩:=I.tuple h
 obtain⟨its',r',⟨o',e',_,n',d'⟩,_⟩:=I.tuple h'
 rw [e] at e';cases e'
 rw [d] at d'
 injection d' with d1 _
 have:its=its':=by simpa using congrArg Array.toList d1
 subst this
 exact r.inj r'
end
abbrev Cx.wish (X:Cx)(E:Value->Shared->Prop):Cx:={ X with xe:=E }
abbrev Cx.nox (X:Cx):Cx:=X.wish fun _ _=>False
theorem Cx.Ok.wish {X:Cx}(ok:X.Ok)(E:Value->Shared->Prop):(X.wish E).Ok :=
 ⟨ok.mod,ok.kind,ok.glob,ok.blt,ok.above,ok.inj,ok.has,ok.cab,ok.hd,ok.frames,ok.stk,ok.exf,ok.bs,ok.bsz,ok.noex,ok.exfs,ok.funs,ok.frf⟩
theorem Cx.Ok.unwish {X:Cx}{E:Value->Shared->Prop}(ok:(X.wish E).Ok):X.Ok :=
 ⟨ok.mod,ok.kind,ok.glob,ok.blt,ok.above,ok.inj,ok.has,ok.cab,ok.hd,ok.frames,ok.stk,ok.exf,ok.bs,ok.bsz,ok.noex,ok.exfs,ok.funs,ok.frf⟩
section
variable {X:Cx}{pins:List (Addr×Obj)}{σ:St}{H:Hp}{s:Shared}{E:Value->Shared->Prop}
theorem Inv.wish (I:Inv X pins σ H s)(E:Value->Shared->Prop):Inv (X.wish E) pins σ H s:=⟨I.ok.wish E,I.os,I.bare,I.base,I.loc,I.cell,I.free,I.freeC,I.pin,I.hok,I.len⟩
theorem Inv.unwish (I:Inv (X.wish E) pins σ H s):Inv X pins σ H s:=⟨I.ok.unwish,I.os,I.bare,I.base,I.loc,I.cell,I.free,I.freeC,I.pin,I.hok,I.len⟩
theorem SP.unwish {D:Ends}{f:Flow}{s':Shared}(h:SP (X.wish E) pins D f s'):SP X pins D f s':=by
 cases f with
 |next=>obtain⟨σ',H',I,q⟩:=h;exact⟨σ',H',I.unwish,q⟩
 |brk=>obtain⟨σ',H',I,q⟩:=h;exact⟨σ',H',I.unwish,q⟩
 |cont=>obtain⟨σ',H',I,q⟩:=h;exact⟨σ',H',I.unwish,q⟩
 |ret u=>obtain⟨v,σ',H',I,r,q⟩:=h;exact⟨v,σ',H',I.unwish,r,q⟩
theorem PSs.nox {st:List Stmt}{t:TS}(h:PSs X.nox st t):PSs X st t:=fun pins s σ H D I hw =>
 wpAny_mono (h pins s σ H D (I.wish _) hw) (fun _ _ q=>q.unwish) fun _ _ z=>False.elim z
end
section
variable {X:Cx}{st:Stmt}{rest:List Stmt}{t u:TS}{e:Expr}{te:TE}{pos:Pos}
def zsB:TS:=fun D σ H=>D.nx σ H
def zub (t u:TS):TS:=fun D σ H=>t { D with nx:=u D } σ H
theorem zpG:PSs X [] zsB:=fun _ _ σ H _ I h=>wpAny_execs_nil ⟨σ,H,I,h⟩
theorem znD (h1:PS X st t)(h2:PSs X rest u):PSs X (st::rest) (zub t u):=by
 intro pins s σ H D I h
 refine wpAny_execs_cons (thn (h1 pins s σ H { D with nx:=u D } I h) fun f s1 q=>?_)
 cases f with
 |next =>
  obtain⟨σ',H',I',q⟩:=q
  exact h2 pins s1 σ' H' D I' q
 |ret v=>exact q
 |brk=>exact q
 |cont=>exact q
theorem zpX (h1:PS X st t):PSs X [st] t:=by
 intro pins s σ H D I h
 refine wpAny_execs_cons (thn (h1 pins s σ H D I h) fun f s1 q=>?_)
 cases f with
 |next=>exact wpAny_execs_nil q
 |ret v=>exact q
 |brk=>exact q
 |cont=>exact q
theorem Inv.quiet {pins:List (Addr×Obj)}{σ:St}{H:Hp}{s:Shared}(I:Inv X pins σ H s):interactive X.env=false:=by simp [interactive,I.ok.kind]
def zsQ (te:TE):TS:=fun D σ H=>te σ H fun _ H1=>D.nx σ H1
theorem zo8 (he:PE X e te)(hs:swapsWith e none pos.line X.env=pure false:=by rfl):PS X (.Expr e pos) (zsQ te):=by
 intro pins s σ H D I h
 exact wpAny_Expr_any (thn (he pins s σ H _ I h) fun v s1 ⟨x,H1,I1,r1,q1⟩=>⟨σ,H1,I1,q1⟩) I.quiet hs
def zt3 (te:TE):TS:=fun D σ H=>te σ H D.rt
theorem zqJ (he:PE X e te):PS X (.Return (some e) pos) (zt3 te):=by
 intro pins s σ H D I h
 exact wpAny_Return_some (thn (he pins s σ H _ I h) fun v s1 ⟨x,H1,I1,r1,q1⟩=>⟨x,σ,H1,I1,r1,q1⟩)
def ztC (c:TT)(t u:TS):TS:=fun D σ H=>c σ H fun b H1=>if b=true then t D σ H1 else u D σ H1
theorem zsF {c:Expr}{a b:List Stmt}{tc:TT}(hc:PT X c tc)(ha:PSs X a t)(hb:PSs X b u):PS X (.If c a b pos) (ztC tc t u):=by
 intro pins s σ H D I h
 refine wpAny_If (thn (hc pins s σ H _ I h) fun d s1 ⟨H1,I1,q1⟩=>?_)
 cases d with
 |true=>exact ha pins s1 σ H1 D I1 q1
 |false=>exact hb pins s1 σ H1 D I1 q1
def zrS:TS:=fun _ _ _=>False
theorem zoh:PS X st zrS:=fun _ _ _ _ _ _ h=>h.elim
end
abbrev TG:=V->St->Hp->(St->Hp->Prop)->Prop
abbrev TGs:=List V->St->Hp->(St->Hp->Prop)->Prop
def PG (X:Cx)(target:Expr)(t:TG):Prop :=
 ∀ (pins:List (Addr×Obj)) (s:Shared) (σ:St) (H:Hp) (v:V) (u:Value) (Q:St->Hp->Prop),Inv X pins σ H s->RelV v u->t v σ H Q ->
  wpAny (model X.prog X.w) X.A (assign target X.env u) (fun _ s'=>∃ σ' H',Inv X pins σ' H' s'/\Q σ' H') X.xe s
def PGs (X:Cx)(ts:List Expr)(t:TGs):Prop :=
 ∀ (pins:List (Addr×Obj)) (s:Shared) (σ:St) (H:Hp) (vs:List V) (us:List Value) (Q:St->Hp->Prop),Inv X pins σ H s->Vals vs us->t vs σ H Q ->
  wpAny (model X.prog X.w) X.A (assignInOrder ((assignEach ts X.env).map (·.2)) us) (fun _ s'=>∃ σ' H',Inv X pins σ' H' s'/\Q σ' H') X.xe s
abbrev znu:=V->V->V->Hp->(Hp->Prop)->Prop
def zrw (X:Cx)(t:znu):Prop :=
 ∀ (pins:List (Addr×Obj)) (s:Shared) (σ:St) (H:Hp) (o i v:V) (ov iv u:Value) (Q:Hp->Prop),Inv X pins σ H s->RelV o ov->RelV i iv->RelV v u->t o i v H Q ->
  wpAny (model X.prog X.w) X.A (setItem ov iv u) (fun _ s'=>∃ H',Inv X pins σ H' s'/\Q H') X.xe s
abbrev TIp:=V->V->Hp->VK->Prop
def PIp (X:Cx)(op:Operator)(t:TIp):Prop :=
 ∀ (pins:List (Addr×Obj)) (s:Shared) (σ:St) (H:Hp) (x y:V) (v u:Value) (Q:VK),Inv X pins σ H s->RelV x v->RelV y u->t x y H Q ->
  wpAny (model X.prog X.w) X.A (inplaceOp op v u) (EP X pins σ Q) X.xe s
section
variable {X:Cx}{pos:Pos}
def zB (i:Nat):TG:=fun v σ H Q=>Q (σ.set i (some v)) H
theorem z9 {i:Nat}{x:Str}(hN:X.N.Nodup)(hi:X.N[i]?=some x)(hx:Loc X.env.scope x)(hf:X.fn x=true\/X.env.scope.names.lookup x=some .local:=by first|exact .inl rfl|exact .inr rfl|assumption):PG X (.Name x pos) (zB i):=by
 intro pins s σ H v u Q I r h
 exact wpAny_assign_Name (zgL I hN hi hx r (fun s' I'=>⟨_,H,I',h⟩) hf)
def zes:TGs:=fun vs σ H Q=>vs=[]/\Q σ H
def zbt (t:TG)(u:TGs):TGs:=fun vs σ H Q=>∃ v r,vs=v::r/\t v σ H fun σ' H'=>u r σ' H' Q
theorem zh6:PGs X [] zes:=by
 intro pins s σ H vs us Q I r h
 obtain⟨e,h⟩:=h
 subst e
 cases r
 exact assignInOrder_nil ⟨σ,H,I,h⟩
theorem zdh {e:Expr}{es:List Expr}{t:TG}{u:TGs}(h1:PG X e t)(h2:PGs X es u)
  (hs:(assignEach (e::es) X.env).map (·.2)=assign e X.env::(assignEach es X.env).map (·.2):=by rfl):PGs X (e::es) (zbt t u):=by
 intro pins s σ H vs us Q I r h
 obtain⟨v,vr,e1,h⟩:=h
 subst e1
 cases r with
 |cons r rr =>
  rw [hs]
  refine assignInOrder_cons (thn (h1 pins s σ H _ _ _ I r h) fun _ s1 ⟨σ1,H1,I1,q1⟩=>?_)
  exact h2 pins s1 σ1 H1 _ _ Q I1 rr q1
def zeX (K:PySem.W.Frag)(n:Nat)(t:TGs):TG:=fun v σ H Q=>∃ a xs,v=.ref a/\SqT K H a xs/\xs.length=n/\t xs σ H Q
theorem zg8 {es:List Expr}{k:Nat}{t:TGs}{n:Nat}(hc:X.calm=true)(h:PGs X es t)
  (hn:(assignEach es X.env).length=n:=by rfl) (hst:(assignEach es X.env).findIdx? (·.1)=none:=by rfl):PG X (.Tuple es k pos) (zeX X.K n t):=by
 intro pins s σ H v u Q I r hw
 obtain⟨a,xs,e1,hq,hl,hw⟩:=hw
 subst e1
 cases r
 obtain⟨its,rv,ht,hz⟩:=I.tuple hq
 refine assign_Tuple_tuple (I.ok.hd hc) ht (by simp [hn,<- hl,rv.length]) hst fun h' hx=>?_
 have I1:Inv X pins σ H { s with heap:=h' }:=I.kept (t':=s.toks) fun b o e=>hx b o (Nat.ne_of_lt (Heap.lt_size e)) e
 exact h pins _ σ H xs _ Q I1 (by simpa using rv) hw
def zjv (to ti:TE)(t:znu):TG:=fun v σ H Q=>to σ H fun o H1=>ti σ H1 fun i H2=>t o i v H2 fun H3=>Q σ H3
theorem zrI {o i:Expr}{to ti:TE}{t:znu}(ho:PE X o to)(hi:PE X i ti)(hs:zrw X t)
  (ha:∀ v,assign (.Subscript o i pos) X.env v=(do
   let ov <- holding [v] (eval o X.env)
   let iv <- holding [v,ov] (eval i X.env)
   standAt pos
   holding [v,ov,iv] (setItem ov iv v)
   release [v,ov,iv] []):=by intro _;rfl):PG X (.Subscript o i pos) (zjv to ti t):=by
 intro pins s σ H v u Q I r h
 rw [ha]
 refine wpAny_bind (wpAny_holding (thn (ho pins s σ H _ I h) fun ov s1 ⟨x,H1,I1,r1,q1⟩=>?_))
 refine wpAny_bind (wpAny_holding (thn (hi pins s1 σ H1 _ I1 q1) fun iv s2 ⟨y,H2,I2,r2,q2⟩=>?_))
 refine wpAny_bind (wpAny_standAt (wpAny_bind (wpAny_holding (thn (hs pins s2 σ H2 x y v ov iv u _ I2 r1 r2 r q2) fun _ s3 ⟨H3,I3,q3⟩=>?_))))
 exact wpAny_release ⟨σ,H3,I3,q3⟩
def znw (te:TE)(g:TG):TS:=fun D σ H=>te σ H fun x H1=>g x σ H1 D.nx
theorem zqE {tg e:Expr}{te:TE}{g:TG}(he:PE X e te)(hg:PG X tg g)(hs:swapsWithSole [tg] e pos.line X.env=pure false:=by rfl)(hw:swappedStores [tg] e X.env=pure none:=by rfl)
  (h1:(assignEach [tg] X.env).map (·.2)=[assign tg X.env]:=by rfl):PS X (.Assign [tg] e pos) (znw te g):=by
 intro pins s σ H D I h
 refine wpAny_Assign_stores (thn (he pins s σ H _ I h) fun v s1 ⟨x,H1,I1,r1,q1⟩=>?_) hs hw
 rw [h1]
 exact thn (hg pins s1 σ H1 x v _ I1 r1 q1) fun _ s2 q=>q
theorem zqr {i:Nat}{x:Str}{e:Expr}{te:TE}{pos':Pos}(hN:X.N.Nodup)(hi:X.N[i]?=some x)(hx:Loc X.env.scope x)(he:PE X e te)(hs:swapsWith e (some (.Name x pos')) pos.line X.env=pure false:=by rfl)(hf:X.fn x=true\/X.env.scope.names.lookup x=some .local:=by first|exact .inl rfl|exact .inr rfl|assumption) :
  PS X (.Assign [.Name x pos'] e pos) (znw te (zB i)):=by
 intro pins s σ H D I h
 refine wpAny_Assign_Name (thn (he pins s σ H _ I h) fun v s1 ⟨y,H1,I1,r1,q1⟩=>?_) hs
 exact zgL I1 hN hi hx r1 (fun s2 I2=>⟨_,H1,I2,q1⟩) hf
def ztP (i:Nat)(te:TE)(ti:TIp):TS:=fun D σ H=>∃ x,σ[i]?=some (some x)/\te σ H fun y H1=>ti x y H1 fun z H2=>D.nx (σ.set i (some z)) H2
theorem zr3 {i:Nat}{x:Str}{e:Expr}{te:TE}{op:Operator}{ti:TIp}{pos':Pos}(hN:X.N.Nodup)(hi:X.N[i]?=some x)(hx:Loc X.env.scope x)(he:PE X e te)(ho:PIp X op ti)(hf:X.fn x=true\/X.env.scope.names.lookup x=some .local:=by first|exact .inl rfl|exact .inr rfl|assumption) :
  PS X (.AugAssign (.Name x pos') op e pos) (ztP i te ti):=by
 intro pins s σ H D I h
 obtain⟨v,e1,h⟩:=h
 obtain⟨m,hn,hl⟩:=I.loc
 have vis:Vis X.env.scope x:=by rcases hx with k|k;exact .inl k;exact .inr (.inl k)
 obtain⟨u,r,l⟩:=hl i x v hi e1 vis
 refine wpAny_AugAssign_Name ?_
 have go:wpAny (model X.prog X.w) X.A (eval e X.env) (fun w s₂=>wpAny (model X.prog X.w) X.A (inplaceOp op u w) (fun r s₃=>wpAny (model X.prog X.w) X.A (storeName X.env x r) (fun _=>SP X pins D .next) X.xe s₃) X.xe s₂) X.xe s:=by
  refine thn (he pins s σ H _ I h) fun w s1 ⟨y,H1,I1,r1,q1⟩=>?_
  refine thn (ho pins s1 σ H1 v y u w _ I1 r r1 q1) fun z s2 ⟨zv,H2,I2,r2,q2⟩=>?_
  exact zgL I2 hN hi hx r2 (fun s3 I3=>⟨_,H2,I3,q2⟩) hf
 rcases l with ⟨hk,hm⟩|⟨hk,c,hc,hcell⟩
 ·exact wpAny_loadName_local I.ok.kind hk hn hm go
 ·rcases hk with hk|hk
  ·exact wpAny_loadName_cell I.ok.kind hk hc hcell go
  ·rcases hx with k|k
   ·have:X.env.scope.names.lookup x=some .free:=hk
    rw [k] at this;cases this
   ·have:X.env.scope.names.lookup x=some .free:=hk
    rw [k] at this;cases this
def ipI (f:Int->Int->Int):TIp:=fun x y H Q=>∃ i j,x=.int i/\y=.int j/\Q (.int (f i j)) H
theorem zrx:PIp X .Add (ipI fun i j=>i+j):=by
 intro pins s σ H x y v u Q I r1 r2 h
 obtain⟨i,j,e1,e2,q⟩:=h
 subst e1;subst e2
 obtain⟨t,rfl⟩:=r1
 obtain⟨t',rfl⟩:=r2
 exact iadd_int ⟨.int _,H,I.tok _,⟨_,rfl⟩,q⟩
end
section
variable {X:Cx}{pos:Pos}
def zqK (c:TT)(tb:TS):TS:=fun D σ H=>∃ W:Nat->St->Hp->Prop,(∃ m,W m σ H)/\∀ m σ H,W m σ H ->
 c σ H fun b H1=>if b=true then ∃ N:St->Hp->Prop,(∀ σ' H',N σ' H'->∃ m',m'<m/\W m' σ' H')/\tb { D with nx:=N,ct:=N,bk:=D.nx } σ H1 else D.nx σ H1
theorem znZ {c:Expr}{body:List Stmt}{tc:TT}{tb:TS}(hp:PassesOwn (model X.prog X.w) X.A X.env X.xe)(hc:PT X c tc)(hb:PSs X body tb):PS X (.While c body [] pos) (zqK tc tb):=by
 intro pins s σ H D I h
 obtain⟨W,⟨m0,w0⟩,turn⟩:=h
 refine wpAny_While (codeAny_whileLoop (fun n s'=>∃ σ' H',Inv X pins σ' H' s'/\W n σ' H') ?_ m0 ⟨σ,H,I,w0⟩)
 rintro n s1 ⟨σ1,H1,I1,w1⟩
 refine wpAny_passesOwn hp (thn (hc pins s1 σ1 H1 _ I1 (turn n σ1 H1 w1)) fun b s2 ⟨H2,I2,q2⟩=>?_)
 cases b with
 |true =>
  obtain⟨N,hN,q2⟩:=q2
  rw [if_pos rfl]
  refine wpAny_passesOwn hp (thn (hb pins s2 σ1 H2 _ I2 q2) fun f s3 q3=>?_)
  cases f with
  |next =>
   obtain⟨σ3,H3,I3,n3⟩:=q3
   obtain⟨m',hm,w3⟩:=hN σ3 H3 n3
   exact⟨m',hm,σ3,H3,I3,w3⟩
  |cont =>
   obtain⟨σ3,H3,I3,n3⟩:=q3
   obtain⟨m',hm,w3⟩:=hN σ3 H3 n3
   exact⟨m',hm,σ3,H3,I3,w3⟩
  |brk=>exact q3
  |ret v=>exact q3
 |false =>
  rw [if_neg Bool.false_ne_true]
  exact wpAny_execs_nil ⟨σ1,H2,I2,q2⟩
end
structure It where
 go:Nat->Hp->Prop
 yld:Nat->Hp->V->Hp->Prop
 stop:Nat->Hp->Prop
def zff (X:Cx)(pins:List (Addr×Obj))(H:Hp)(b:Addr):Prop :=
 H b=none/\b≠X.env.locals/\b∉X.fs/\(b∈X.ex\/X.s₀.heap.objs.size<=b)/\(∀ x c,X.env.cells.lookup x=some c->c≠b)/\∀ p∈X.pn++pins,p.1≠b
theorem Inv.fpOk {X:Cx}{pins:List (Addr×Obj)}{σ:St}{H H':Hp}{s:Shared}{b:Addr}(I:Inv X pins σ H s)(hb:s.heap.objs.size<=b)(hn:H' b=none):zff X pins H' b:=by
 refine⟨hn,Nat.ne_of_gt (Nat.lt_of_lt_of_le I.lt hb),I.nofs hb,.inr (Nat.le_trans I.sz hb),fun x c e z=>?_,fun p hp z=>?_⟩
 ·obtain⟨v,q⟩:=I.cell x c e
  exact absurd (Nat.lt_of_lt_of_le q.lt (by rw [z];exact hb)) (Nat.lt_irrefl _)
 ·exact absurd (Nat.lt_of_lt_of_le (Heap.lt_size (I.pin p hp).1) (by rw [z];exact hb)) (Nat.lt_irrefl _)
structure Turn (P:Program)(w:World)(K:PySem.W.Frag)(tg:Expr)(J:It)(fp:List Addr)(it:Addr)(tn:Nat->Heap->Prop):Prop where
 mem:it∈fp
 obj:∀ i h,tn i h->∀ b∈fp,∃ o,h.get? b=some o/\∀ v,o.data≠.cell v
 keep:∀ i h h',tn i h->(∀ b∈fp,∀ o,h.get? b=some o->h'.get? b=some o)->tn i h'
 item:∀ (X:Cx),X.prog=P->X.w=w->X.K=K->X.calm=true->∀ (i:Nat) (pins:List (Addr×Obj)) (s:Shared) (σ:St) (H:Hp) (E:Value->Shared->Prop),Inv X pins σ H s->(∀ b∈fp,zff X pins H b)->tn i s.heap->J.go i H ->
  wpAny (model P w) X.A (pyNext (.ref it)) (fun r s1=>∃ u,r=some u /\
   wpAny (model P w) X.A (letOwnedTupleGo tg (.ref it) u) (fun _ s2=>∃ x H',Inv X pins σ H' s2/\RelV x u/\J.yld i H x H'/\tn (i+1) s2.heap/\∀ b∈fp,H' b=none) E s1) E s
 done:∀ (X:Cx),X.prog=P->X.w=w->X.K=K->X.calm=true->∀ (i:Nat) (pins:List (Addr×Obj)) (s:Shared) (σ:St) (H:Hp) (E:Value->Shared->Prop),Inv X pins σ H s->(∀ b∈fp,zff X pins H b)->tn i s.heap->J.stop i H ->
  wpAny (model P w) X.A (pyNext (.ref it)) (fun r s1=>r=none/\Inv X pins σ H s1) E s
 self:∀ (A:Around) (i:Nat) (s:Shared) (Q:Value->Shared->Prop) (E:Value->Shared->Prop),tn i s.heap->Q (.ref it) s->wpAny (model P w) A (pyIter (.ref it)) Q E s
abbrev TI:=St->Hp->(It->Hp->Prop)->Prop
def PIE (X:Cx)(pins:List (Addr×Obj))(σ:St)(tg:Expr)(R:It->Hp->Prop)(itv:Value)(s2:Shared):Prop :=
 ∃ (it:Addr) (fp:List Addr) (tn:Nat->Heap->Prop) (J:It) (H':Hp),itv=.ref it/\Inv X pins σ H' s2/\Turn X.prog X.w X.K tg J fp it tn/\tn 0 s2.heap/\(∀ b∈fp,zff X pins H' b)/\R J H'
def PI (X:Cx)(tg iter:Expr)(wi:TI):Prop :=
 ∀ (pins:List (Addr×Obj)) (s:Shared) (σ:St) (H:Hp) (R:It->Hp->Prop),Inv X pins σ H s->wi σ H R ->
  wpAny (model X.prog X.w) X.A (eval iter X.env) (fun v s1=>wpAny (model X.prog X.w) X.A (pyIter v) (PIE X pins σ tg R) X.xe s1) X.xe s
theorem zgo {M:Model}{A:Around}{E:Value->Shared->Prop}{s:Shared}{tg:Expr}{it:Addr}{u:Value}{o:Obj}{n:String}{vs:Array Value}{Q:Unit->Shared->Prop}(ho:s.heap.get? it=some o)(hc:o.cls=.type n)(hd:o.data=.fields vs)
    (hn:["enumerate","zip","dict_itemiterator","dict_reverseitemiterator","odict_iterator","itertools.zip_longest","itertools.pairwise"].contains n=false) (hQ:Q () s):wpAny M A (letOwnedTupleGo tg (.ref it) u) Q E s:=by
  unfold letOwnedTupleGo
  cases tg<;>first
    |exact wpAny_pure hQ
    | (cases u <;> first
        |exact wpAny_pure hQ
        | (refine wpAny_bind (wpAny_load ho ?_)
           rw [hc,hd]
           show wpAny M A (if (["enumerate","zip","dict_itemiterator","dict_reverseitemiterator","odict_iterator","itertools.zip_longest","itertools.pairwise"].contains n&&vs[0]?==some (rawInt _))=true then _ else _) Q E s
           rw [if_neg (by intro h;rw [hn,Bool.false_and] at h;cases h)]
           exact wpAny_pure hQ))
def Itl (K:PySem.W.Frag)(a:Addr):It :=
 ⟨fun i H=>∃ xs x,SqL K H a xs/\xs[i]?=some x,fun i H x H'=>H'=H/\∀ xs,SqL K H a xs->xs[i]?=some x,fun i H=>∃ xs,SqL K H a xs/\xs.length<=i⟩
def Itt (K:PySem.W.Frag)(a:Addr):It :=
 ⟨fun i H=>∃ xs x,SqT K H a xs/\xs[i]?=some x,fun i H x H'=>H'=H/\∀ xs,SqT K H a xs->xs[i]?=some x,fun i H=>∃ xs,SqT K H a xs/\xs.length<=i⟩
def Itr (lo:Int)(n:Nat):It:=⟨fun i _=>i<n,fun i H x H'=>H'=H/\x=.int (lo+i),fun i _=>n<=i⟩
theorem zm7 {P:Program}{w:World}{K:PySem.W.Frag}{tg:Expr}(a it:Addr):Turn P w K tg (Itl K a) [it] it (fun i h=>h.IsListIter it a i) where
 mem:=by simp
 obj:=fun i h st b hb=>by
  have e:b=it:=by simpa using hb
  subst e
  obtain⟨o,e,c,d⟩:=st
  exact⟨o,e,fun v z=>by rw [d] at z;cases z⟩
 keep:=fun i h h' st k=>st.at fun o e=>k it (by simp) o e
 item:=by
  intro X hP hw hK hc i pins s σ H E I hf st hg
  subst hP hw hK
  obtain⟨xs,x,hq,hx⟩:=hg
  obtain⟨its,rv,p,hz⟩:=I.list hq
  obtain⟨u,hu,ru⟩:=rv.get hx
  obtain⟨f0,f1,f2,f3,f4,f5⟩:=hf it (by simp)
  refine wpAny_pyNext_list_item st p.isList (x:=u) (by simpa using hu) fun h' st' sb=>?_
  have I1:Inv X pins σ H { s with heap:=h' }:=I.turned (t':=s.toks) (fun b o hb e=>(sb.2 b hb).trans e) f0 f1 f3 f4 f5
  obtain⟨o,e,c,d⟩:=id st'
  exact⟨u,rfl,zgo (s:={ s with heap:=h' }) e c d (by decide) ⟨x,H,I1,ru,⟨rfl,fun ys hy=>by rw [I.list_inj hy hq];exact hx⟩,st',fun b hb=>(hf b hb).1⟩⟩
 done:=by
  intro X hP hw hK hc i pins s σ H E I hf st hg
  subst hP hw hK
  obtain⟨xs,hq,hx⟩:=hg
  obtain⟨its,rv,p,hz⟩:=I.list hq
  obtain⟨f0,f1,f2,f3,f4,f5⟩:=hf it (by simp)
  have hl:=rv.length
  exact wpAny_pyNext_list_end (I.ok.hd hc) st p.isList (by simp;omega) fun h' eb=>⟨rfl,I.turned (t':=s.toks) (fun b o hb e=>eb b o hb e) f0 f1 f3 f4 f5⟩
 self:=fun _ _ _ _ _ st h=>wpAny_pyIter_listiter st h
theorem zl4 {P:Program}{w:World}{K:PySem.W.Frag}{tg:Expr}(a it:Addr):Turn P w K tg (Itt K a) [it] it (fun i h=>h.IsTupleIter it a i) where
 mem:=by simp
 obj:=fun i h st b hb=>by
  have e:b=it:=by simpa using hb
  subst e
  obtain⟨o,e,c,d⟩:=st
  exact⟨o,e,fun v z=>by rw [d] at z;cases z⟩
 keep:=fun i h h' st k=>st.at fun o e=>k it (by simp) o e
 item:=by
  intro X hP hw hK hc i pins s σ H E I hf st hg
  subst hP hw hK
  obtain⟨xs,x,hq,hx⟩:=hg
  obtain⟨its,rv,p,hz⟩:=I.tuple hq
  obtain⟨u,hu,ru⟩:=rv.get hx
  obtain⟨f0,f1,f2,f3,f4,f5⟩:=hf it (by simp)
  refine wpAny_pyNext_tuple_item st (show s.heap.IsTuple a its.toArray from p) (x:=u) (by simpa using hu) fun h' st' sb=>?_
  have I1:Inv X pins σ H { s with heap:=h' }:=I.turned (t':=s.toks) (fun b o hb e=>(sb.2 b hb).trans e) f0 f1 f3 f4 f5
  obtain⟨o,e,c,d⟩:=id st'
  exact⟨u,rfl,zgo (s:={ s with heap:=h' }) e c d (by decide) ⟨x,H,I1,ru,⟨rfl,fun ys hy=>by rw [I.tuple_inj hy hq];exact hx⟩,st',fun b hb=>(hf b hb).1⟩⟩
 done:=by
  intro X hP hw hK hc i pins s σ H E I hf st hg
  subst hP hw hK
  obtain⟨xs,hq,hx⟩:=hg
  obtain⟨its,rv,p,hz⟩:=I.tuple hq
  obtain⟨f0,f1,f2,f3,f4,f5⟩:=hf it (by simp)
  have hl:=rv.length
  exact wpAny_pyNext_tuple_end (I.ok.hd hc) st (show s.heap.IsTuple a its.toArray from p) (by simp;omega) fun h' eb=>⟨rfl,I.turned (t':=s.toks) (fun b o hb e=>eb b o hb e) f0 f1 f3 f4 f5⟩
 self:=fun _ _ _ _ _ st h=>wpAny_pyIter_tupleiter st h
theorem zhc {P:Program}{w:World}{K:PySem.W.Frag}{tg:Expr}(it:Addr)(lo:Int)(n:Nat):Turn P w K tg (Itr lo n) [it] it (fun i h=>IsRangeIter h it (lo+(i:Nat)*1) ((n:Int)-(i:Nat)) 1) where
 mem:=by simp
 obj:=fun i h st b hb=>by
  have e:b=it:=by simpa using hb
  subst e
  exact⟨_,st,fun v z=>by
   have z':Data.fields _=Data.cell v:=z
   cases z'⟩
 keep:=fun i h h' st k=>k it (by simp) _ st
 item:=by
  intro X hP hw hK hc i pins s σ H E I hf st hg
  subst hP hw hK
  obtain⟨f0,f1,f2,f3,f4,f5⟩:=hf it (by simp)
  have W:=Walks.range (prog:=X.prog) (w:=X.w) (I.ok.hd hc) it lo 1 n
  refine W.item i s _ _ hg st fun v h' tk hv st' kk=>?_
  obtain⟨t,rfl⟩:=hv
  have I1:Inv X pins σ H { s with heap:=h',toks:=tk }:=I.turned (fun b o hb e=>kk b o (by simpa using hb) e) f0 f1 f3 f4 f5
  refine⟨_,rfl,zgo (s:={ s with heap:=h',toks:=tk }) (n:="range_iterator") st' rfl rfl (by decide) ⟨.int (lo+i),H,I1,⟨t,?_⟩,⟨rfl,rfl⟩,st',fun b hb=>(hf b hb).1⟩⟩
  rw [Int.mul_one]
 done:=by
  intro X hP hw hK hc i pins s σ H E I hf st hg
  subst hP hw hK
  obtain⟨f0,f1,f2,f3,f4,f5⟩:=hf it (by simp)
  exact wpAny_pyNext_range_end (I.ok.hd hc) st (by have:n<=i:=hg;omega) fun h' eb=>⟨rfl,I.turned (t':=s.toks) (fun b o hb e=>eb b o hb e) f0 f1 f3 f4 f5⟩
 self:=fun _ _ _ _ _ st h=>wpAny_pyIter_rangeiter st h
section
variable {X:Cx}{tg:Expr}
theorem znk {pins:List (Addr×Obj)}{σ:St}{H:Hp}{s:Shared}{R:It->Hp->Prop}{E:Value->Shared->Prop}{lo hi:Int}{t u v:Tok}{tk:Nat}(I:Inv X pins σ H s)(h1:-(2 ^ 62)<=lo)(h2:lo<2 ^ 62)(h3:-(2 ^ 62)<=hi)(h4:hi<2 ^ 62)
    (q:R (Itr lo (hi-lo).toNat) H):wpAny (model X.prog X.w) X.A (pyIter (.ref s.heap.objs.size)) (PIE X pins σ tg R) E { s with heap:=s.heap.push { cls:=.type "range",data:=.fields #[.int lo t,.int hi u,.int 1 v] },toks:=tk }:=by
  refine wpAny_pyIter_range (IsRange.new ..) (small_one h1 h2 h3 h4) ?_
  have I1:Inv X pins σ H { s with heap:=s.heap.push { cls:=.type "range",data:=.fields #[.int lo t,.int hi u,.int 1 v] },toks:=tk }:=I.kept fun b o e=>Heap.get?_push_of_some _ e
  refine⟨(s.heap.push { cls:=.type "range",data:=.fields #[.int lo t,.int hi u,.int 1 v] }).objs.size,[(s.heap.push { cls:=.type "range",data:=.fields #[.int lo t,.int hi u,.int 1 v] }).objs.size],_,_,H,rfl,
    I1.kept (t':=tk) fun b o e=>Heap.get?_push_of_some _ e,zhc _ lo (hi-lo).toNat,?_,fun b hb=>?_,q⟩
  · have e1:lo+((0:Nat):Int)*1=lo:=by simp
    have e2:(((hi-lo).toNat:Nat):Int)-((0:Nat):Int)=Builtin.Range.rangeSize lo hi 1:=by rw [rangeSize_one];split<;>omega
    show IsRangeIter _ _ (lo+((0:Nat):Int)*1) ((((hi-lo).toNat:Nat):Int)-((0:Nat):Int)) 1
    rw [e1,e2]
    exact Heap.get?_push_size _ rfl
  · have e:b=(s.heap.push { cls:=.type "range",data:=.fields #[.int lo t,.int hi u,.int 1 v] }).objs.size:=by simpa using hb
    subst e
    exact I1.fpOk (Nat.le_refl _) (I1.hok.fresh (Nat.le_refl _))
def zdU (ta:TA):TI:=fun σ H R=>ta σ H fun vs H1=>∃ j:Int,vs=[.int j]/\-(2 ^ 62)<=j/\j<2 ^ 62/\R (Itr 0 j.toNat) H1
theorem zmX {a:Expr}{ta:TA}{p pos:Pos}(hg:Gl X "range")(hm:X.mg "range"=none)(ha:PA X [a] ta)(hs:starEach [a] X.env=[(false,eval a X.env)]:=by rfl):PI X tg (.Call (.Name "range" p) [a] [] pos) (zdU ta):=by
 intro pins s σ H R I h
 refine Call_ (zec I hg hm boot_range (PyProof.Rows.callWith_type1 (thn (ha pos pins s σ H _ I h) fun us s1 ⟨vs,H1,I1,r1,q1⟩=>?_) hs rfl))
 obtain⟨j,e,q1,q2,q⟩:=q1
 subst e
 cases r1 with
 |cons r rr =>
  cases rr
  obtain⟨t,rfl⟩:=r
  exact call_range_1 (znk I1 (by omega) (by omega) q1 q2 (by simpa using q))
def zt9 (wi:TI)(g:TG)(tb:TS):TS:=fun D σ H=>wi σ H fun J H1=>∃ W:Nat->Nat->St->Hp->Prop,(∃ m,W 0 m σ H1)/\∀ i m σ H,W i m σ H ->
 (J.stop i H/\D.nx σ H)\/(J.go i H/\∃ N:St->Hp->Prop,(∀ σ' H',N σ' H'->∃ m',m'<m/\W (i+1) m' σ' H')/\∀ x H',J.yld i H x H'->g x σ H' fun σ2 H2=>tb { D with nx:=N,ct:=N,bk:=D.nx } σ2 H2)
def zfX (fp:List Addr)(h:Heap):List (Addr×Obj):=fp.filterMap fun b=>(h.get? b).map fun o=>(b,o)
theorem zdP {fp:List Addr}{h:Heap}{b:Addr}{o:Obj}(hb:b∈fp)(e:h.get? b=some o):(b,o)∈zfX fp h:=List.mem_filterMap.mpr ⟨b,hb,by rw [e];rfl⟩
theorem zmG {fp:List Addr}{h:Heap}{p:Addr×Obj}(hp:p∈zfX fp h):p.1∈fp/\h.get? p.1=some p.2:=by
 obtain⟨b,hb,e⟩:=List.mem_filterMap.mp hp
 cases q:h.get? b with
 |none=>rw [q] at e;cases e
 |some o =>
  rw [q] at e
  have e':(b,o)=p:=Option.some.inj e
  subst e'
  exact⟨hb,q⟩
theorem Inv.pinned {pins:List (Addr×Obj)}{σ:St}{H:Hp}{s:Shared}{fp:List Addr}(I:Inv X pins σ H s)(hf:∀ b∈fp,zff X pins H b)(ho:∀ b∈fp,∃ o,s.heap.get? b=some o/\∀ v,o.data≠.cell v):Inv X (pins++zfX fp s.heap) σ H s :=
 I.pins_of fun p hp=>(List.mem_append.mp hp).elim (fun z=>I.pin p (List.mem_append_right _ z)) fun z=>by
  obtain⟨hb,e⟩:=zmG z
  obtain⟨f0,f1,f2,_⟩:=hf p.1 hb
  obtain⟨o,e',d⟩:=ho p.1 hb
  rw [e] at e';cases e'
  exact⟨e,f0,f1,f2,d⟩
theorem Inv.unpinned {pins pl:List (Addr×Obj)}{σ:St}{H:Hp}{s:Shared}(I:Inv X (pins++pl) σ H s):Inv X pins σ H s:=I.pins_of fun p hp=>I.pin p (List.mem_append_right _ (List.mem_append_left _ hp))
theorem zrA {iter:Expr}{body:List Stmt}{wi:TI}{g:TG}{tb:TS}{pos:Pos}(hp:PassesOwn (model X.prog X.w) X.A X.env X.xe)(hc:X.calm=true)(hi:PI X tg iter wi)(hg:PG X tg g)(hb:PSs X body tb)
  (hs:∀ x,foldedSetIterable iter X.env x=pure x:=by intro _;rfl):PS X (.For tg iter body [] pos) (zt9 wi g tb):=by
 intro pins s σ H D I h
 refine wpAny_For (thn (hi pins s σ H _ I h) fun v s1 h1=>thn h1 fun itv s2 h2=>?_) hs
 obtain⟨it,fp,tn,J,H2,e,I2,T,st2,f2,W,⟨m0,w0⟩,turn⟩:=h2
 subst e
 have stat:∀ {H':Hp},(∀ b∈fp,H' b=none)->∀ b∈fp,zff X pins H' b:=fun hn b hb=>⟨hn b hb,(f2 b hb).2⟩
 refine codeAny_forLoop_any (fun n s'=>∃ i σ' H',Inv X pins σ' H' s'/\tn i s'.heap/\(∀ b∈fp,H' b=none)/\W i n σ' H') ?_ m0 ⟨0,σ,H2,I2,st2,fun b hb=>(f2 b hb).1,w0⟩
 rintro n s3 ⟨i,σ3,H3,I3,st3,fr3,w3⟩
 rcases turn i n σ3 H3 w3 with ⟨stop,qn⟩|⟨go,N,hN,step⟩
 ·refine wpAny_passesOwn hp (thn (T.done X rfl rfl rfl hc i pins s3 σ3 H3 X.xe I3 (stat fr3) st3 stop) fun r s4 ⟨hr,I4⟩=>?_)
  subst hr
  exact wpAny_execs_nil ⟨σ3,H3,I4,qn⟩
 ·refine wpAny_passesOwn hp (thn (T.item X rfl rfl rfl hc i pins s3 σ3 H3 X.xe I3 (stat fr3) st3 go) fun r s4 ⟨u,hr,h4⟩=>?_)
  subst hr
  refine wpAny_passesOwn hp (thn h4 fun _ s5 ⟨x,H5,I5,r5,y5,st5,fr5⟩=>?_)
  have I5':=I5.pinned (stat fr5) (T.obj _ _ st5)
  refine wpAny_passesOwn hp (thn (hg _ s5 σ3 H5 x u _ I5' r5 (step x H5 y5)) fun _ s6 ⟨σ6,H6,I6,q6⟩=>?_)
  refine wpAny_passesOwn hp (thn (hb _ s6 σ6 H6 _ I6 q6) fun f s7 q7=>?_)
  have again:∀ {σ7:St} {H7:Hp},Inv X (pins++zfX fp s5.heap) σ7 H7 s7->N σ7 H7->∃ m,m<n/\∃ i σ' H',Inv X pins σ' H' s7/\tn i s7.heap/\(∀ b∈fp,H' b=none)/\W i m σ' H':=fun {σ7 H7} I7 n7=>by
   obtain⟨m',hm,w7⟩:=hN σ7 H7 n7
   refine⟨m',hm,i+1,σ7,H7,I7.unpinned,T.keep _ _ _ st5 fun b hb o e=>(I7.pin (b,o) (List.mem_append_right _ (List.mem_append_right _ (zdP hb e)))).1,fun b hb=>?_,w7⟩
   obtain⟨o,e,d⟩:=T.obj _ _ st5 b hb
   exact (I7.pin (b,o) (List.mem_append_right _ (List.mem_append_right _ (zdP hb e)))).2.1
  cases f with
  |next=>obtain⟨σ7,H7,I7,n7⟩:=q7;exact again I7 n7
  |cont=>obtain⟨σ7,H7,I7,n7⟩:=q7;exact again I7 n7
  |brk=>obtain⟨σ7,H7,I7,q7⟩:=q7;exact⟨σ7,H7,I7.unpinned,q7⟩
  |ret v=>obtain⟨x7,σ7,H7,I7,r7,q7⟩:=q7;exact⟨x7,σ7,H7,I7.unpinned,r7,q7⟩
end
abbrev R2:=V->V->Hp->VK->Prop
def OpR (X:Cx)(f:Value->Value->Sem Value)(r:R2):Prop :=
 ∀ (pins:List (Addr×Obj)) (s:Shared) (σ:St) (H:Hp) (x y:V) (v u:Value) (Q:VK),Inv X pins σ H s->RelV x v->RelV y u->r x y H Q ->
  wpAny (model X.prog X.w) X.A (f v u) (EP X pins σ Q) X.xe s
def UnR (X:Cx)(f:Value->Sem Value)(r:V->Hp->VK->Prop):Prop :=
 ∀ (pins:List (Addr×Obj)) (s:Shared) (σ:St) (H:Hp) (x:V) (v:Value) (Q:VK),Inv X pins σ H s->RelV x v->r x H Q ->
  wpAny (model X.prog X.w) X.A (f v) (EP X pins σ Q) X.xe s
def zaZ (X:Cx)(f:Value)(r:List V->Hp->VK->Prop):Prop :=
 ∀ (pins:List (Addr×Obj)) (s:Shared) (σ:St) (H:Hp) (xs:List V) (us:List Value) (Q:VK),Inv X pins σ H s->Vals xs us->r xs H Q ->
  wpAny (model X.prog X.w) X.A (call f us) (EP X pins σ Q) X.xe s
def tOp (r:R2)(ta tb:TE):TE:=fun σ H Q=>ta σ H fun x H1=>tb σ H1 fun y H2=>r x y H2 Q
def tUn (r:V->Hp->VK->Prop)(ta:TE):TE:=fun σ H Q=>ta σ H fun x H1=>r x H1 Q
def rI (C:Int->Int->Prop)(g:Int->Int->V):R2:=fun x y H Q=>∃ i j,x=.int i/\y=.int j/\C i j/\Q (g i j) H
def rI0 (g:Int->Int->V):R2:=fun x y H Q=>∃ i j,x=.int i/\y=.int j/\Q (g i j) H
def rU (g:Int->V):V->Hp->VK->Prop:=fun x H Q=>∃ i,x=.int i/\Q (g i) H
section
variable {X:Cx}{a b c:Expr}{ta tb tc:TE}{pos:Pos}
theorem znS (ha:PE X a ta)(hb:PE X b tb){pins:List (Addr×Obj)}{s:Shared}{σ:St}{H:Hp}{R:V->V->Hp->Prop}(I:Inv X pins σ H s)
  (h:ta σ H fun x H1=>tb σ H1 fun y H2=>R x y H2) {Q:Value->Shared->Prop} {f:Value->Value->Sem Value}
  (hf:∀ v u s2 x y H2,Inv X pins σ H2 s2->RelV x v->RelV y u->R x y H2->wpAny (model X.prog X.w) X.A (f v u) Q X.xe s2) :
  wpAny (model X.prog X.w) X.A (eval a X.env) (fun v s₁=>wpAny (model X.prog X.w) X.A (eval b X.env) (fun u s₂=>wpAny (model X.prog X.w) X.A (f v u) Q X.xe s₂) X.xe s₁) X.xe s:=by
 refine thn (ha pins s σ H _ I h) fun v s1 ⟨x,H1,I1,r1,q1⟩=>?_
 refine thn (hb pins s1 σ H1 _ I1 q1) fun u s2 ⟨y,H2,I2,r2,q2⟩=>?_
 exact hf v u s2 x y H2 I2 r1 r2 q2
theorem zoD {op:Operator}{r:R2}(ho:OpR X (binaryOp op) r)(ha:PE X a ta)(hb:PE X b tb):PE X (.BinOp a op b pos) (tOp r ta tb):=by
 intro pins s σ H Q I h
 exact wpAny_BinOp (znS ha hb I h fun v u s2 x y H2 I2 rx ry q=>ho pins s2 σ H2 x y v u Q I2 rx ry q)
theorem zsI {op:UnaryOp}{r:V->Hp->VK->Prop}(ho:UnR X (unaryOp op) r)(ha:PE X a ta):PE X (.UnaryOp op a pos) (tUn r ta):=by
 intro pins s σ H Q I h
 exact UnaryOp_ (thn (ha pins s σ H _ I h) fun v s1 ⟨x,H1,I1,r1,q1⟩=>ho pins s1 σ H1 x v Q I1 r1 q1)
theorem opI {f:Value->Value->Sem Value}{C:Int->Int->Prop}{g:Int->Int->Int}
  (rule:∀ (i j:Int) (t u:Tok) (s:Shared) (Q:Value->Shared->Prop) (E:Value->Shared->Prop),C i j->Q (.int (g i j) s.toks) { s with toks:=s.toks+1 }->wpAny (model X.prog X.w) X.A (f (.int i t) (.int j u)) Q E s) :
  OpR X f (rI C fun i j=>.int (g i j)):=by
 intro pins s σ H x y v u Q I rx ry h
 obtain⟨i,j,rfl,rfl,hc,q⟩:=h
 obtain⟨t,rfl⟩:=rx
 obtain⟨t',rfl⟩:=ry
 exact rule i j t t' s _ _ hc ⟨.int (g i j),H,I.tok _,⟨_,rfl⟩,q⟩
theorem zp2 {f:Value->Value->Sem Value}{g:Int->Int->Int}
  (rule:∀ (i j:Int) (t u:Tok) (s:Shared) (Q:Value->Shared->Prop) (E:Value->Shared->Prop),Q (.int (g i j) s.toks) { s with toks:=s.toks+1 }->wpAny (model X.prog X.w) X.A (f (.int i t) (.int j u)) Q E s) :
  OpR X f (rI0 fun i j=>.int (g i j)):=by
 intro pins s σ H x y v u Q I rx ry h
 obtain⟨i,j,rfl,rfl,q⟩:=h
 obtain⟨t,rfl⟩:=rx
 obtain⟨t',rfl⟩:=ry
 exact rule i j t t' s _ _ ⟨.int (g i j),H,I.tok _,⟨_,rfl⟩,q⟩
theorem znf {f:Value->Value->Sem Value}{g:Int->Int->Bool}
  (rule:∀ (i j:Int) (t u:Tok) (s:Shared) (Q:Value->Shared->Prop) (E:Value->Shared->Prop),Q (.bool (g i j)) s->wpAny (model X.prog X.w) X.A (f (.int i t) (.int j u)) Q E s) :
  OpR X f (rI0 fun i j=>.bl (g i j)):=by
 intro pins s σ H x y v u Q I rx ry h
 obtain⟨i,j,rfl,rfl,q⟩:=h
 obtain⟨t,rfl⟩:=rx
 obtain⟨t',rfl⟩:=ry
 exact rule i j t t' s _ _ ⟨.bl (g i j),H,I,rfl,q⟩
def zuf (i j:Int):Prop:=0<=j/\j<=1000000/\i.natAbs<2 ^ 64
def zlK (i j:Int):Prop:=(-(2 ^ 64)<i/\i<2 ^ 64)\/(-(2 ^ 64)<j/\j<2 ^ 64)
theorem zlK.ok {i j:Int}(h:zlK i j):IntMulOk i j:=by
 rcases h with ⟨h1,h2⟩|⟨h1,h2⟩
 ·exact .of_left (intBits_le_64 h1 h2)
 ·exact .of_right (intBits_le_64 h1 h2)
theorem zqO:OpR X (binaryOp .Add) (rI0 fun i j=>.int (i+j)):=zp2 fun _ _ _ _ _ _ _ q=>add_int q
theorem zrv:OpR X (binaryOp .Sub) (rI0 fun i j=>.int (i-j)):=zp2 fun _ _ _ _ _ _ _ q=>sub_int q
theorem zpP:OpR X (binaryOp .Mod) (rI (fun _ j=>j≠0) fun i j=>.int (i.fmod j)):=opI fun _ _ _ _ _ _ _ hc q=>mod_int' hc q
theorem zqQ:OpR X (binaryOp .Pow) (rI zuf fun i j=>.int (i ^ j.toNat)):=opI fun _ _ _ _ _ _ _ hc q=>pow_int_small hc.1 hc.2.1 hc.2.2 q
theorem unI {f:Value->Sem Value}{g:Int->Int}
  (rule:∀ (i:Int) (t:Tok) (s:Shared) (Q:Value->Shared->Prop) (E:Value->Shared->Prop),Q (.int (g i) s.toks) { s with toks:=s.toks+1 }->wpAny (model X.prog X.w) X.A (f (.int i t)) Q E s) :
  UnR X f (rU fun i=>.int (g i)):=by
 intro pins s σ H x v Q I rx h
 obtain⟨i,rfl,q⟩:=h
 obtain⟨t,rfl⟩:=rx
 exact rule i t s _ _ ⟨.int (g i),H,I.tok _,⟨_,rfl⟩,q⟩
theorem zqd:UnR X (unaryOp .USub) (rU fun i=>.int (-i)):=unI fun _ _ _ _ _ q=>neg_int q
end
section
variable {X:Cx}{a b c:Expr}{ta tb tc:TE}{pos:Pos}
theorem zkg {pins:List (Addr×Obj)}{σ:St}{H:Hp}{s:Shared}{Q:VK}{k k':Bool}(I:Inv X pins σ H s)(q:Q (.bl k) H)(e:k=k'):EP X pins σ Q (.bool k') s:=by
 subst e
 exact⟨.bl k,H,I,rfl,q⟩
theorem zsM:OpR X (compareOp .Lt) (rI0 fun i j=>.bl (decide (i<j))):=znf fun _ _ _ _ _ _ _ q=>lt_int q
theorem zr7:OpR X (compareOp .LtE) (rI0 fun i j=>.bl (decide (i<=j))):=znf fun _ _ _ _ _ _ _ q=>le_int q
theorem zsG:OpR X (compareOp .Gt) (rI0 fun i j=>.bl (decide (j<i))):=znf fun _ _ _ _ _ _ _ q=>gt_int q
theorem zmt:OpR X (compareOp .In) (fun x y H Q=>∃ i j,x=.str i/\y=.str j/\Q (.bl (!(Builtin.Str.occurrences j i 0 j.length 1).isEmpty)) H):=by
 intro pins s σ H x y v u Q I rx ry h
 obtain⟨i,j,rfl,rfl,q⟩:=h
 obtain⟨t,rfl⟩:=rx
 obtain⟨t',rfl⟩:=ry
 exact in_str (zkg I q rfl)
theorem zqW:OpR X (compareOp .Is) (fun x y H Q=>y=.non/\Q (.bl (decide (x=.non))) H):=by
  intro pins s σ H x y v u Q I rx ry h
  obtain⟨rfl,q⟩:=h
  cases ry
  refine is_none_gen (zkg I q ?_)
  cases x<;>first
    |(cases rx;rfl)
    |(obtain⟨t,rfl⟩:=rx;rfl)
theorem zpk:OpR X (compareOp .IsNot) (fun x y H Q=>y=.non/\Q (.bl (!decide (x=.non))) H):=by
  intro pins s σ H x y v u Q I rx ry h
  obtain⟨rfl,q⟩:=h
  cases ry
  refine isnot_none_gen (zkg I q ?_)
  cases x<;>first
    |(cases rx;rfl)
    |(obtain⟨t,rfl⟩:=rx;rfl)
theorem OpR.or {f:Value->Value->Sem Value}{r r':R2}(h:OpR X f r)(h':OpR X f r'):OpR X f (fun x y H Q=>r x y H Q\/r' x y H Q):=by
 intro pins s σ H x y v u Q I rx ry q
 rcases q with q|q
 ·exact h pins s σ H x y v u Q I rx ry q
 ·exact h' pins s σ H x y v u Q I rx ry q
theorem zmn (b:Expr){op:CmpOp}(h:op≠.In:=by decide)(h2:op≠.NotIn:=by decide):behindInMarks op b=false:=by
  have e1:(op==CmpOp.In)=false:=by cases op<;>first|rfl|exact absurd rfl h
  have e2:(op==CmpOp.NotIn)=false:=by cases op<;>first|rfl|exact absurd rfl h2
  cases b<;>simp [behindInMarks,e1,e2]
theorem zk4 {op:CmpOp}{r:R2}(ho:OpR X (compareOp op) r)(ha:PE X a ta)(hb:PE X b tb)(hm:behindInMarks op b=false):PE X (.Compare a [op] [b] pos) (tOp r ta tb):=by
 intro pins s σ H Q I h
 exact wpAny_Compare1 (znS ha hb I h fun v u s2 x y H2 I2 rx ry q=>ho pins s2 σ H2 x y v u Q I2 rx ry q) hm
def zsm (t:TE):TT:=fun σ H Q=>t σ H fun x H'=>∃ k,x=.bl k/\Q k H'
theorem zk7 {op:CmpOp}{r:R2}(ho:OpR X (compareOp op) r)(ha:PE X a ta)(hb:PE X b tb)(hm:behindInMarks op b=false):PT X (.Compare a [op] [b] pos) (zsm (tOp r ta tb)):=by
 intro pins s σ H Q I h
 refine wpAny_isTrue_Compare1 (thn (ha pins s σ H _ I h) fun v s1 ⟨x,H1,I1,r1,q1⟩=>thn (hb pins s1 σ H1 _ I1 q1) fun u s2 ⟨y,H2,I2,r2,q2⟩ =>
  thn (ho pins s2 σ H2 x y v u _ I2 r1 r2 q2) fun c s3 ⟨z,H3,I3,r3,k,e,q3⟩=>?_) hm
 subst e
 cases r3
 exact wpAny_truthy_bool ⟨H3,I3,q3⟩
theorem zeQ:(sizeLine:Nat)<2 ^ 63:=by rw [sizeLine_eq];decide
theorem zl1:OpR X (binaryOp .Add) (fun x y H Q=>∃ i j,x=.str i/\y=.str j/\i.length+j.length<=sizeLine/\Q (.str (i++j)) H):=by
 intro pins s σ H x y v u Q I rx ry h
 obtain⟨i,j,rfl,rfl,hz,q⟩:=h
 obtain⟨t,rfl⟩:=rx
 obtain⟨t',rfl⟩:=ry
 exact add_str (fun t' tk=>⟨.str (i++j),H,I.tok _,⟨_,rfl⟩,q⟩) hz
theorem vals1 {x:V}{us:List Value}(r:Vals [x] us):∃ u,us=[u]/\RelV x u:=by
 cases r with
 |cons r1 r2=>cases r2;exact⟨_,rfl,r1⟩
theorem vals2 {x y:V}{us:List Value}(r:Vals [x,y] us):∃ u w',us=[u,w']/\RelV x u/\RelV y w':=by
 cases r with
 |cons r1 r2 =>
  cases r2 with
  |cons r3 r4=>cases r4;exact⟨_,_,rfl,r1,r3⟩
theorem znl:zaZ X (.builtin "abs") (fun xs H Q=>∃ i,xs=[.int i]/\Q (.int (if i<0 then -i else i)) H):=by
 intro pins s σ H xs us Q I r h
 obtain⟨i,rfl,q⟩:=h
 obtain⟨u,rfl,t,rfl⟩:=vals1 r
 exact call_abs_int fun u tk=>⟨.int (if i<0 then -i else i),H,I.tok _,⟨_,rfl⟩,q⟩
theorem zkk:zaZ X (.type "str") (fun xs H Q=>∃ i,xs=[.int i]/\i.natAbs.log2<1920/\Q (.str (toString i)) H):=by
 intro pins s σ H xs us Q I r h
 obtain⟨i,rfl,hz,q⟩:=h
 obtain⟨u,rfl,t,rfl⟩:=vals1 r
 exact PySem.P.str_of_int hz ⟨.str _,H,I.tok _,⟨_,rfl⟩,q⟩
end
structure zhW (h:Heap)(x dx C:Addr)(mA:Str->Option Value):Prop where
 obj:h.get? x=some (PySem.W.instObj C dx)
 ns:h.Ns1 dx mA
 ne:dx≠x
theorem zm0 {h:Heap}{dx:Addr}{mA:Str->Option Value}(n:h.Ns1 dx mA):∃ od,h.get? dx=some od/\∀ name,PySem.W.lookIn name od=some (mA name):=by
 obtain⟨o,es,ep,ho,hd,hk,_,hm⟩:=n
 refine⟨o,ho,fun name=>?_⟩
 have e:=hm name
 unfold nsFind findBy at e
 rw [<- Array.find?_toList] at e
 unfold PySem.W.lookIn
 rw [hd]
 dsimp only
 split
 ·rename_i y q
  rw [q] at e
  exact congrArg some e
 ·rename_i q
  rw [q] at e
  have a:es.toList.any (·.refKey)=false:=by
   rw [List.any_eq_false]
   intro y hy
   obtain⟨z,t,hkey⟩:=hk y (Array.mem_toList_iff.mp hy)
   simp [DictEntry.refKey,hkey]
  have a':¬ es.toList.any (·.refKey)=true:=by rw [a];exact Bool.false_ne_true
  rw [if_neg a']
  exact congrArg some e
theorem zhW.look {h:Heap}{x dx C:Addr}{mA:Str->Option Value}(I:zhW h x dx C mA):∃ od,PySem.W.InstAt h x (PySem.W.instObj C dx) C (some od)/\∀ name,PySem.W.lookIn name od=some (mA name) :=
 let ⟨od,ho,hl⟩:=zm0 I.ns
 ⟨od,⟨I.obj,rfl,rfl,ho⟩,hl⟩
section
variable {prog:Program}{w:World}{A:Around}{E:Value->Shared->Prop}{s:Shared}{K:PySem.W.Frag}{x dx C f:Addr}{mA:Str->Option Value}{name:Str}{v:Value}
theorem get_map {expr:Bool}{Q:Value->Shared->Prop}(X:K.In s.heap)(I:zhW s.heap x dx C mA)(hg:PySem.W.plainGet K C name=true)(hh:PySem.W.hasDictIn K C=true)
  (ha:PySem.W.findIn K (.ref C) name=some none) (hv:mA name=some v) (hv':PySem.W.handedIn v=true) (h:Q v { s with toks:=s.toks+1 }) :
  wpAny (model prog w) A (getAttr (.ref x) name expr) Q E s:=by
 obtain⟨od,J,hl⟩:=I.look
 exact PySem.W.get_value X J (PySem.W.plainGet_of hg).1 (PySem.W.findObj_own hh ha rfl (by rw [hl,hv])) hv' h
theorem zoR {ns:List Str}{Q:Unit->Shared->Prop}(X:K.In s.heap)(I:zhW s.heap x dx C mA)
  (hs:PySem.W.findIn K (.ref C) "__setattr__"=some (some (.builtin "object.__setattr__"))) (hp:PySem.W.plainOver K C=true) (ht:PySem.W.takerIn K C name=some none) (hh:PySem.W.hasDictIn K C=true)
  (hw:PySem.Within mA ns) (hsz:ns.length<=sizeLine)
  (h:∀ h',zhW h' x dx C (fun y=>if y=name then some v else mA y)->Heap.SameBut dx s.heap h'->Q () { s with heap:=h',toks:=s.toks+2 }) :
  wpAny (model prog w) A (setAttr (.ref x) name v) Q E s:=by
 obtain⟨od,J,hl⟩:=I.look
 refine PySem.W.set_plain X J hs (PySem.W.osa_open (s:={ s with toks:=s.toks+1 }) (r:=none) X J hp ht fun b=>?_)
 obtain⟨cd,hc,hd'⟩:=PySem.W.any_some hh
 have hx:s.heap.get? x=some ⟨.ref C,some dx,.plain,#[]⟩:=I.obj
 refine wpAny_bind (wpAny_pure (wpAny_bind (wpAny_bind (wpAny_loadPart hx (wpAny_bind (PySem.W.Looks.here (s:={ s with toks:=s.toks+1 }) (PySem.W.looks_clsIn X hc) ?_))))))
 rw [hd']
 refine wpAny_pure (a:=some dx) (wpAny_bind (wpAny_pure (wpAny_bind ?_)))
 refine wpAny_nsSet1 (s:={ s with toks:=s.toks+1 }) I.ns fun h' hn2 hs2=>?_
 obtain⟨oD,esD,epD,hoD,hdD,hcD⟩:=hn2.count (PySem.Within.cons name v hw)
 refine wpAny_bind (wpAny_lookBehind hoD (by rw [hdD];exact pastItsLine_dict (Nat.le_trans hcD (by rw [List.length_cons];omega))) ?_)
 exact wpAny_pure (h _ ⟨(hs2.2 _ (Ne.symm I.ne)).trans I.obj,hn2,I.ne⟩ hs2)
theorem zod {R:Result->Shared->Prop}{vs:List Value}{kw:List (Str×Value)}(X:K.In s.heap)(hm:PySem.W.makesIn K C=true)
    (hi:PySem.W.findIn K (.ref C) "__init__"=some (some (.ref f))) (hf:PySem.W.typeIn K (.ref f)=some (.type "function"))
    (h:codeAny (model prog w) (A.under (.builtin "type.__call__" ⟨.ref C::vs,kw⟩)) (.call (.ref f) ⟨.ref (s.heap.objs.size+1)::vs,kw⟩) (PySem.W.InitBack (s.heap.objs.size+1) R)
      { s with heap:=(s.heap.push PySem.W.emptyDict).push (PySem.W.instObj C s.heap.objs.size) }) :
    codeAny (model prog w) A (.call (.ref C) ⟨vs,kw⟩) R s:=by
  obtain⟨hh,g,d,t,os⟩:=s
  exact PySem.W.make_core (PySem.W.makes_of X hm) (PySem.W.looks_findIn X hi) (fun self=>PySem.W.bind_fn X self hf) (.inl rfl) h
end
def zbJ (f:Str)(v:V):List (Str×V)->List (Str×V)
 |[]=>[(f,v)]
 |(g,x)::r=>if g=f then (g,v)::r else (g,x)::zbJ f v r
theorem zgy (f g:Str)(v:V):∀ fs:List (Str×V),(zbJ f v fs).lookup g=if g=f then some v else fs.lookup g
 |[]=>by
  show List.lookup g [(f,v)]=_
  by_cases h:g=f
  ·have hb:(g==f)=true:=beq_iff_eq.mpr h
   simp only [List.lookup,hb,if_pos h]
  ·have hb:(g==f)=false:=beq_eq_false_iff_ne.mpr h
   simp only [List.lookup,hb,if_neg h]
 |(k,x)::r=>by
  have ih:=zgy f g v r
  rw [show zbJ f v ((k,x)::r)=(if k=f then (k,v)::r else (k,x)::zbJ f v r) from rfl]
  by_cases hk:k=f
  ·rw [if_pos hk]
   by_cases h:g=k
   ·have hb:(g==k)=true:=beq_iff_eq.mpr h
    simp only [List.lookup,hb,if_pos (h.trans hk)]
   ·have hb:(g==k)=false:=beq_eq_false_iff_ne.mpr h
    simp only [List.lookup,hb,if_neg (fun e:g=f=>h (e.trans hk.symm))]
  ·rw [if_neg hk]
   by_cases h:g=k
   ·have hb:(g==k)=true:=beq_iff_eq.mpr h
    simp only [List.lookup,hb,if_neg (fun e:g=f=>hk (h.symm.trans e))]
   ·have hb:(g==k)=false:=beq_eq_false_iff_ne.mpr h
    simp only [List.lookup,hb]
    exact ih
theorem zfJ (f:Str)(v:V):∀ fs:List (Str×V),f∈(zbJ f v fs).map (·.1)/\∀ g,g∈fs.map (·.1)->g∈(zbJ f v fs).map (·.1)
 |[]=>⟨by simp [zbJ],fun g h=>by simp at h⟩
 |(k,x)::r=>by
  obtain⟨i1,i2⟩:=zfJ f v r
  rw [show zbJ f v ((k,x)::r)=(if k=f then (k,v)::r else (k,x)::zbJ f v r) from rfl]
  by_cases hk:k=f
  ·rw [if_pos hk]
   subst hk
   exact⟨by simp,fun g h=>by simpa using h⟩
  ·rw [if_neg hk]
   refine⟨?_,fun g h=>?_⟩
   ·rw [List.map_cons]
    exact List.mem_cons_of_mem _ i1
   ·rw [List.map_cons] at h ⊢
    rcases List.mem_cons.mp h with e|e
    ·exact List.mem_cons.mpr (.inl e)
    ·exact List.mem_cons_of_mem _ (i2 g e)
theorem zgx (f:Str)(v:V):∀ fs:List (Str×V),(zbJ f v fs).length<=fs.length+1
 |[]=>by simp [zbJ]
 |(k,x)::r=>by
  have ih:=zgx f v r
  rw [show zbJ f v ((k,x)::r)=(if k=f then (k,v)::r else (k,x)::zbJ f v r) from rfl]
  by_cases hk:k=f
  ·rw [if_pos hk,List.length_cons,List.length_cons];omega
  ·rw [if_neg hk,List.length_cons,List.length_cons];omega
theorem zdd.some_of {v:V}{o:Option Value}(r:zdd (some v) o):∃ u,o=some u/\RelV v u:=by
 cases o with
 |none=>exact (show False from r).elim
 |some u=>exact⟨u,rfl,r⟩
theorem zmB {v:V}{u:Value}(r:RelV v u):PySem.W.handedIn u=true:=by
 cases v with
 |non=>cases (show u=Value.none from r);rfl
 |bl b=>cases (show u=Value.bool b from r);rfl
 |int i=>obtain⟨t,e⟩:=(show ∃ t,u=Value.int i t from r);cases e;rfl
 |str x=>obtain⟨t,e⟩:=(show ∃ t,u=Value.str x t from r);cases e;rfl
 |byt b=>obtain⟨t,e⟩:=(show ∃ t,u=Value.bytes b t from r);cases e;rfl
 |flt b=>obtain⟨t,e⟩:=(show ∃ t,u=Value.float b t from r);cases e;rfl
 |ref a=>cases (show u=Value.ref a from r);rfl
 |ty n=>cases (show u=Value.type n from r);rfl
section
variable {P:Program}{w:World}{H H':Hp}{h h':Heap}{a C dx:Addr}{fs fs':List (Str×V)}
theorem zin (hok:HOk P w H h)(e:H a=some (.ins C dx fs)):∃ mA,zhW h a dx C mA/\(∀ f,zdd (fs.lookup f) (mA f))/\PySem.Within mA (fs.map (·.1))/\fs.length<=1000/\H dx=some (.own a):=by
 obtain⟨d,z,ne,ob,mA,n,r,q⟩:=(show zaA P w H h a (.ins C dx fs) from hok a _ e)
 exact⟨mA,⟨ob,n,ne⟩,r,q,z,d⟩
end
structure Cls (K:PySem.W.Frag)(C:Addr):Prop where
 pg:PySem.W.plainGet K C Str.empty=true
 hd:PySem.W.hasDictIn K C=true
 po:PySem.W.plainOver K C=true
 sa:PySem.W.findIn K (.ref C) "__setattr__"=some (some (.builtin "object.__setattr__"))
theorem Cls.get {K:PySem.W.Frag}{C:Addr}(c:Cls K C)(f:Str):PySem.W.plainGet K C f=true:=c.pg
def zal (K:PySem.W.Frag)(C:Addr)(f:Str):Prop:=PySem.W.findIn K (.ref C) f=some none
theorem zal.taker {K:PySem.W.Frag}{C:Addr}{f:Str}(n:zal K C f):PySem.W.takerIn K C f=some none:=by
 unfold PySem.W.takerIn
 rw [show PySem.W.findIn K (.ref C) f=some none from n]
 rfl
section
variable {X:Cx}{pins:List (Addr×Obj)}{σ:St}{H:Hp}{s:Shared}{a C dx:Addr}{fs:List (Str×V)}{f:Str}{v:V}{A:Around}{E:Value->Shared->Prop}
theorem zlZ {b:Bool}{Q:Value->Shared->Prop}(I:Inv X pins σ H s)(e:H a=some (.ins C dx fs))(c:Cls X.K C)(n:zal X.K C f)(l:fs.lookup f=some v)
  (h:∀ u s',Inv X pins σ H s'->RelV v u->Q u s'):wpAny (model X.prog X.w) A (getAttr (.ref a) f b) Q E s:=by
 obtain⟨mA,O,r,_,_,_⟩:=zin I.hok e
 obtain⟨u,hu,ru⟩:=zdd.some_of (v:=v) (o:=mA f) (by rw [<- l];exact r f)
 exact get_map I.kIn O (c.get f) c.hd n hu (zmB ru) (h u _ (I.tok _) ru)
theorem zlM {y:V}{u:Value}{Q:Unit->Shared->Prop}(I:Inv X pins σ H s)(e:H a=some (.ins C dx fs))(c:Cls X.K C)(n:zal X.K C f)(hl:fs.length<1000)(ry:RelV y u)
  (h:∀ s',Inv X pins σ (upd H a (.ins C dx (zbJ f y fs))) s'->Q () s'):wpAny (model X.prog X.w) A (setAttr (.ref a) f u) Q E s:=by
 obtain⟨mA,O,r,wi,_,ho⟩:=zin I.hok e
 have hz:(fs.map (·.1)).length<=sizeLine:=by rw [List.length_map,sizeLine_eq];omega
 refine zoR I.kIn O c.sa c.po n.taker c.hd wi hz fun h' O' sb=>h _ ?_
 have hd:∃ o,h'.get? dx=some o:=let ⟨o,_,_,e',_⟩:=O'.ns;⟨o,e'⟩
 refine I.write (x:=a) (e:=dx) (by rw [e];exact True.intro) (.inr ho) (fun b q hb z=>(sb.2 b hb).trans z) hd ?_
 refine⟨by rw [zX O.ne];exact ho,?_,O.ne,O'.obj,_,O'.ns,fun g=>?_,fun g hg=>?_⟩
 ·have:=zgx f y fs;omega
 ·show zdd ((zbJ f y fs).lookup g) (if g=f then some u else mA g)
  rw [zgy]
  by_cases q:g=f
  ·rw [if_pos q,if_pos q];exact ry
  ·rw [if_neg q,if_neg q];exact r g
 ·by_cases q:g=f
  ·rw [q];exact (zfJ f y fs).1
  ·refine (zfJ f y fs).2 g (wi g fun z=>hg ?_)
   show (if g=f then some u else mA g)=none
   rw [if_neg q];exact z
theorem Inv.made (I:Inv X pins σ H s):Inv X pins σ (upd (upd H s.heap.objs.size (.own (s.heap.objs.size+1))) (s.heap.objs.size+1) (.ins C s.heap.objs.size []))
    { s with heap:=(s.heap.push PySem.W.emptyDict).push (PySem.W.instObj C s.heap.objs.size) }:=by
  have e1:(s.heap.push PySem.W.emptyDict).get? s.heap.objs.size=some PySem.W.emptyDict:=Heap.get?_push_size s.heap rfl
  have e2:((s.heap.push PySem.W.emptyDict).push (PySem.W.instObj C s.heap.objs.size)).get? (s.heap.objs.size+1)=some (PySem.W.instObj C s.heap.objs.size):=by
    have:=Heap.get?_push_size (s.heap.push PySem.W.emptyDict) (o:=PySem.W.instObj C s.heap.objs.size) rfl
    rwa [Heap.size_push] at this
  have e3:(s.heap.push PySem.W.emptyDict).Ns s.heap.objs.size (fun _=>none):=⟨PySem.W.emptyDict,#[],_,e1,rfl,(fun e he=>absurd he (by simp)),fun _=>rfl⟩
  have I1:=I.laid (a:=s.heap.objs.size) (o:=.own (s.heap.objs.size+1)) (h':=s.heap.push PySem.W.emptyDict) (t':=s.toks) (fun b u q=>Heap.get?_push_of_some _ q) (Nat.le_refl _) ⟨_,e1⟩
  refine I1.laid (a:=s.heap.objs.size+1) (o:=.ins C s.heap.objs.size []) (t':=s.toks) (fun b u q=>Heap.get?_push_of_some _ q) (Nat.le_of_eq (Heap.size_push _ _)) ?_
  have ne:s.heap.objs.size≠s.heap.objs.size+1:=Nat.ne_of_lt (Nat.lt_succ_self _)
  refine⟨by rw [zX ne,zaT],Nat.zero_le _,ne,e2,fun _=>none,(Heap.Ns1.of_empty e3).at fun o q=>Heap.get?_push_of_some _ q,fun _=>True.intro,fun y hy=>absurd rfl hy⟩
theorem zp1 {prog:Program}{w:World}{env:Env}{e:Expr}{f:Str}{pos:Pos}{s:Shared}{Q:Value->Shared->Prop}(hb:attributeBase e f env (eval e env)=eval e env)
  (h:wpAny (model prog w) A (eval e env) (fun o s₁=>wpAny (model prog w) A (getAttr o f true) Q E s₁) E s):wpAny (model prog w) A (eval (.Attribute e f pos) env) Q E s :=
 Attribute_any_ h (by rw [arm_eval_Attribute,hb])
end
def ztM (K:PySem.W.Frag)(ta:TE)(f:Str):TE:=fun σ H Q=>ta σ H fun x H1=>∃ a C dx fs v,x=.ref a/\H1 a=some (.ins C dx fs)/\Cls K C/\zal K C f/\fs.lookup f=some v/\Q v H1
def zue (K:PySem.W.Frag)(ta tv:TE)(f:Str):TS:=fun D σ H=>tv σ H fun y H1=>ta σ H1 fun x H2=>∃ a C dx fs,x=.ref a/\H2 a=some (.ins C dx fs)/\Cls K C/\zal K C f/\fs.length<1000 /\
 D.nx σ (upd H2 a (.ins C dx (zbJ f y fs)))
section
variable {X:Cx}{o e value:Expr}{f:Str}{pos pos' tpos:Pos}{ta tv:TE}
theorem zqn (he:PE X e ta)(hb:attributeBase e f X.env (eval e X.env)=eval e X.env):PE X (.Attribute e f pos) (ztM X.K ta f):=by
 intro pins s σ H Q I h
 refine zp1 hb (thn (he pins s σ H _ I h) fun u s1 ⟨x,H1,I1,rx,a,C,dx,fs,v,ex,ea,c,n,l,q⟩=>?_)
 subst ex
 obtain rfl:u=Value.ref a:=rx
 exact zlZ I1 ea c n l fun u' s2 I2 ru=>⟨v,H1,I2,ru,q⟩
theorem zra (ha:PE X o ta)(hv:PE X value tv)(hs:swapsWith value (some (.Attribute o f pos')) pos.line X.env=pure false):PS X (.Assign [.Attribute o f pos'] value pos) (zue X.K ta tv f):=by
 intro pins s σ H D I h
 refine plainObj_wpAny_Assign_Attribute (thn (hv pins s σ H _ I h) fun u s1 ⟨y,H1,I1,ry,q⟩=>thn (ha pins s1 σ H1 _ I1 q) fun ov s2 ⟨x,H2,I2,rx,a,C,dx,fs,ex,ea,c,n,l,q2⟩=>?_) hs
 subst ex
 obtain rfl:ov=Value.ref a:=rx
 exact zlM I2 ea c n l ry fun s3 I3=>⟨σ,_,I3,q2⟩
end
section
variable {X:Cx}{pins:List (Addr×Obj)}{σ:St}{H:Hp}{s:Shared}{A:Around}{E:Value->Shared->Prop}{Q:Value->Shared->Prop}{c:Value}{b:Bool}
inductive zdf (K:PySem.W.Frag)(H:Hp):V->Value->Prop where
 | non:zdf K H .non (.type "NoneType")
 | bl (x:Bool):zdf K H (.bl x) (.type "bool")
 | int (i:Int):zdf K H (.int i) (.type "int")
 | str (x:Str):zdf K H (.str x) (.type "str")
 | flt (x:UInt64):zdf K H (.flt x) (.type "float")
 | lst {a:Addr} {xs:List V} (e:H a=some (.lst xs)):zdf K H (.ref a) (.type "list")
 | frz {a:Addr} {o:Obj} {xs:List V} (e:H a=some (.frz o (.lst xs))):zdf K H (.ref a) (.type "list")
 | tup {a:Addr} {xs:List V} (e:H a=some (.tup xs)):zdf K H (.ref a) (.type "tuple")
 | dK {a:Addr} {kvs:List (Key×V)} (e:H a=some (.dK kvs)):zdf K H (.ref a) (.type "dict")
 | dT {a:Addr} {kvs:List (List Key×V)} (e:H a=some (.dT kvs)):zdf K H (.ref a) (.type "dict")
 | ins {a C dx:Addr} {fs:List (Str×V)} (e:H a=some (.ins C dx fs)) (cl:Cls K C) (ha:PySem.W.findIn K (.ref C) "__class__"=some (some (.builtin "object.__class__")))
   (hn:PySem.W.specialIn K (.builtin "object.__class__") "__get__"=some (some (.builtin "getset_descriptor.__get__"))) (htk:PySem.W.takesIn K (.builtin "object.__class__")=some true)
   (hm:PySem.W.mroIn K C (.type "object")=some true):zdf K H (.ref a) (.ref C)
theorem zmq {x:V}{u t:Value}(I:Inv X pins σ H s)(rx:RelV x u)(ty:zdf X.K H x t)(e:PySem.W.kitOne X.K t c=some b)(h:∀ tk,Q (.bool b) { s with toks:=tk }) :
  wpAny (model X.prog X.w) A (call (.builtin "isinstance") [u,c]) Q E s:=by
 cases ty with
 |non=>cases (show u=Value.none from rx);exact PySem.W.kia_one PySem.W.kitx_none I.kIn True.intro e (fun z=>nomatch z) h
 |bl y=>cases (show u=Value.bool y from rx);exact PySem.W.kia_one PySem.W.kitx_bool I.kIn True.intro e (fun z=>nomatch z) h
 |int i=>obtain⟨t,q⟩:=(show ∃ t,u=Value.int i t from rx);cases q;exact PySem.W.kia_one PySem.W.kitx_int I.kIn True.intro e (fun z=>nomatch z) h
 |str y=>obtain⟨t,q⟩:=(show ∃ t,u=Value.str y t from rx);cases q;exact PySem.W.kia_one PySem.W.kitx_str I.kIn True.intro e (fun z=>nomatch z) h
 |flt y=>obtain⟨t,q⟩:=(show ∃ t,u=Value.float y t from rx);cases q;exact PySem.W.kia_one PySem.W.kitx_float I.kIn True.intro e (fun z=>nomatch z) h
 |@lst a xs ea =>
  cases (show u=Value.ref a from rx)
  obtain⟨_,_,n,_,h1⟩:=(show zaA X.prog X.w H s.heap a (.lst xs) from I.hok a _ ea)
  exact PySem.W.kia_one PySem.W.kitx_list I.kIn ⟨_,h1,rfl⟩ e (fun z=>nomatch z) h
 |@frz a ob xs ea =>
  cases (show u=Value.ref a from rx)
  obtain⟨_,_,_,n,_,h1⟩:=(show zaA X.prog X.w H s.heap a (.frz ob (.lst xs)) from I.hok a _ ea)
  exact PySem.W.kia_one PySem.W.kitx_list I.kIn ⟨_,h1,rfl⟩ e (fun z=>nomatch z) h
 |@tup a xs ea =>
  cases (show u=Value.ref a from rx)
  obtain⟨_,_,_,p⟩:=(show zaA X.prog X.w H s.heap a (.tup xs) from I.hok a _ ea)
  obtain⟨o,h1,h2,_⟩:=p
  exact PySem.W.kia_one PySem.W.kitx_tuple I.kIn ⟨o,h1,h2⟩ e (fun z=>nomatch z) h
 |@dK a kvs ea =>
  cases (show u=Value.ref a from rx)
  obtain⟨_,_,vs,_,p⟩:=(show zaA X.prog X.w H s.heap a (.dK kvs) from I.hok a _ ea)
  obtain⟨o,es,ep,h1,h2,_⟩:=p
  exact PySem.W.kia_one PySem.W.kitx_dict I.kIn ⟨o,h1,h2.1⟩ e (fun z=>nomatch z) h
 |@dT a kvs ea =>
  cases (show u=Value.ref a from rx)
  obtain⟨_,_,xs,_,o,es,ep,h1,h2,_⟩:=(show zaA X.prog X.w H s.heap a (.dT kvs) from I.hok a _ ea)
  exact PySem.W.kia_one PySem.W.kitx_dict I.kIn ⟨o,h1,h2.1⟩ e (fun z=>nomatch z) h
 |@ins a C dx fs ea cl ha hn htk hm =>
  cases (show u=Value.ref a from rx)
  obtain⟨mA,O,_⟩:=zin I.hok ea
  obtain⟨od,J,_⟩:=O.look
  exact PySem.W.kia_one (PySem.W.kitx_own (cl.get _) cl.hd ha hn htk hm) I.kIn J e (fun z=>nomatch z) h
end
structure zaB (k:Nat)(A:Around):Prop where
 hd:A.handled=none
 dp:A.depth+3*k+5<recursionLimit
 un:A.units+16*k+200<cLine
theorem zaB.mono {j k:Nat}{A:Around}(r:zaB k A)(h:j<=k):zaB j A:=⟨r.hd,by have:=r.dp;omega,by have:=r.un;omega⟩
theorem zaB.deeper {k:Nat}{A:Around}(r:zaB (k+1) A)(env:Env):zaB k (A.deeper env) :=
 ⟨r.hd,by have:=r.dp;show A.depth+1+3*k+5<_;omega,by have:=r.un;show A.units+3+16*k+200<_;omega⟩
theorem zlS {A:Around}{C:Addr}{us:List Value}{kw:List (Str×Value)}:(A.under (.builtin "type.__call__" ⟨.ref C::us,kw⟩)).depth=A.depth+1:=by
 first|rfl|simp [Around.under,Code.weight,Code.isCreation,Code.isGuard,Code.isCaller,Code.frames,Code.isFrame,guardIds]
theorem zl9 {A:Around}{C:Addr}{us:List Value}{kw:List (Str×Value)}:(A.under (.builtin "type.__call__" ⟨.ref C::us,kw⟩)).units=A.units+1:=by
 first|rfl|simp [Around.under,Code.cUnits,Code.frames,Code.isFrame]
theorem zaB.make {k:Nat}{A:Around}(r:zaB (k+1) A)(C:Addr)(us:List Value)(kw:List (Str×Value)):zaB k (A.under (.builtin "type.__call__" ⟨.ref C::us,kw⟩)) :=
 ⟨r.hd,by have:=r.dp;rw [zlS];omega,by have:=r.un;rw [zl9];omega⟩
theorem zaB.depth {k:Nat}{A:Around}(r:zaB k A):A.depth<recursionLimit:=by have:=r.dp;omega
theorem zaB.units {k:Nat}{A:Around}(r:zaB k A):A.units+64<cLine:=by have:=r.un;omega
def zt2:TA:=fun _ H Q=>Q [] H
def ztx (ta:TE)(tr:TA):TA:=fun σ H Q=>ta σ H fun x H1=>tr σ H1 fun xs H2=>Q (x::xs) H2
section
variable {X:Cx}{e:Expr}{es:List Expr}{te:TE}{t:TA}{pos:Pos}
theorem zrZ:PA X [] zt2:=fun _ _ _ _ H Q I h=>Calls.spliced_nil ⟨[],H,I,.nil,h⟩
theorem zo3 (ha:PE X e te)(hr:PA X es t)(hs:starEach (e::es) X.env=(false,eval e X.env)::starEach es X.env:=by rfl):PA X (e::es) (ztx te t):=by
 intro pos pins s σ H Q I h
 rw [hs]
 show wpAny _ _ (spliced ((false,eval e X.env)::backTo pos (starEach es X.env))) _ _ s
 refine Calls.spliced_cons (thn (ha pins s σ H _ I h) fun u s1 ⟨x,H1,I1,r1,q1⟩=>?_)
 exact thn (hr pos pins s1 σ H1 _ I1 q1) fun us s2 ⟨xs,H2,I2,r2,q2⟩=>⟨x::xs,H2,I2,.cons r1 r2,q2⟩
def ztI (t:TA):TE:=fun σ H Q=>t σ H fun xs H1=>xs.length<=sizeLine/\∀ p,H1 p=none->Q (.ref p) (upd H1 p (.tup xs))
def ztE (t:TA):TE:=fun σ H Q=>t σ H fun xs H1=>xs.length<=sizeLine/\∀ p,H1 p=none->Q (.ref p) (upd H1 p (.lst xs))
theorem zrh {x1}(h:PA X es t):PE X (.Tuple es x1 pos) (ztI t):=by
 intro pins s σ H Q I hq
 refine wpAny_Tuple_spliced (thn (h pos pins s σ H _ I hq) fun us s1 ⟨xs,H1,I1,r,z,q⟩=>⟨by rw [<- r.length];exact z,?_⟩)
 have hf:H1 s1.heap.objs.size=none:=I1.hok.fresh (Nat.le_refl _)
 refine⟨.ref s1.heap.objs.size,upd H1 s1.heap.objs.size (.tup xs),I1.laid (t':=s1.toks) (fun b u e=>Heap.get?_push_of_some _ e) (Nat.le_refl _) ?_,rfl,q _ hf⟩
 exact⟨z,us,r,⟨_,Heap.get?_push_size _ rfl,rfl,_,rfl⟩⟩
theorem zqX (h:PA X es t):PE X (.List es pos) (ztE t):=by
 intro pins s σ H Q I hq
 refine wpAny_List_spliced (thn (h pos pins s σ H _ I hq) fun us s1 ⟨xs,H1,I1,r,z,q⟩=>⟨by rw [<- r.length];exact z,?_⟩)
 have hf:H1 s1.heap.objs.size=none:=I1.hok.fresh (Nat.le_refl _)
 refine⟨.ref s1.heap.objs.size,upd H1 s1.heap.objs.size (.lst xs),I1.laid (t':=s1.toks) (fun b u e=>Heap.get?_push_of_some _ e) (Nat.le_refl _) ?_,rfl,q _ hf⟩
 exact⟨z,us,0,r,Heap.get?_push_size _ rfl⟩
end
abbrev Sp:=List V->Hp->VK->XK->Prop
abbrev CXT:=List Env->Hp->Shared->XK->Value->Shared->Prop
structure zgT (P:Program)(w:World)(K:PySem.W.Frag)(mg:Str->Option Value)(base:Heap)(A:Around)(outer:List Env)(s:Shared)(H:Hp):Prop where
 frames:A.frames=some outer
 mod:Mod K mg base
 bs:∀ b o,base.get? b=some o->s.heap.get? b=some o/\H b=none
 bsz:base.objs.size<=s.heap.objs.size
 funs:s.heap.FunFrames base outer
 frf:∀ b∈frs outer,H b=none
 hok:HOk P w H s.heap
 bare:AllBare s.gens
def CE (outer:List Env)(P:Program)(w:World)(H:Hp)(s:Shared)(Q:VK)(u:Value)(s':Shared):Prop :=
 ∃ v H',s'.os=s.os/\AllBare s'.gens/\Un (frs outer) [] H H' s.heap s'.heap/\HOk P w H' s'.heap/\RelV v u/\Q v H'
def CR (CX:CXT)(outer:List Env)(P:Program)(w:World)(H:Hp)(s:Shared)(Q:VK)(E:XK)(r:Result)(s':Shared):Prop :=
 match r with
 |.ok (.ret u)=>CE outer P w H s Q u s'
 |.ok _=>False
 |.error e=>CX outer H s E e s'
structure zW (P:Program)(w:World)(K:PySem.W.Frag)(mg:Str->Option Value)(base:Heap)(CX:CXT)(k:Nat)(f:Addr)(fd:FuncData)(ps:List Str)(sp:Sp):Prop where
 len:∀ vs H Q E,sp vs H Q E->vs.length=ps.length
 run:∀ (A:Around) (outer:List Env) (s:Shared) (H:Hp) (args:Args) (us:List Value) (vs:List V) (Q:VK) (E:XK),zaB k A->zgT P w K mg base A outer s H->BindsTo s fd args (ps.zip us)->Vals vs us->sp vs H Q E ->
  codeAny (model P w) A (.call (.ref f) args) (CR CX outer P w H s Q E) s
theorem zW.mono {P:Program}{w:World}{K:PySem.W.Frag}{mg:Str->Option Value}{base:Heap}{CX:CXT}{j k:Nat}{f:Addr}{fd:FuncData}{ps:List Str}{sp:Sp}(F:zW P w K mg base CX j f fd ps sp)(h:j<=k) :
  zW P w K mg base CX k f fd ps sp:=⟨F.len,fun A outer s H args us vs Q E hr=>F.run A outer s H args us vs Q E (hr.mono h)⟩
theorem zgT.make {P:Program}{w:World}{K:PySem.W.Frag}{mg:Str->Option Value}{base:Heap}{A:Around}{outer:List Env}{s:Shared}{H:Hp}(e:zgT P w K mg base A outer s H)(C:Addr)(us:List Value)(kw:List (Str×Value)) :
  zgT P w K mg base (A.under (.builtin "type.__call__" ⟨.ref C::us,kw⟩)) outer s H:=⟨by first | exact e.frames | (simpa [Around.under,Code.envs,Code.isFrame,pushEnvs] using e.frames),e.mod,e.bs,e.bsz,e.funs,e.frf,e.hok,e.bare⟩
section
variable {X:Cx}{pins:List (Addr×Obj)}{σ:St}{H:Hp}{s s':Shared}
theorem Inv.env0 (I:Inv X pins σ H s):zgT X.prog X.w X.K X.mg X.base X.A X.stack s H :=
 ⟨I.ok.frames,I.ok.mod,I.bs,Nat.le_trans I.ok.bsz I.sz,I.stack,I.stkFree,I.hok,I.bare⟩
theorem Inv.after {Q:VK}{u:Value}(I:Inv X pins σ H s)(h:CE X.stack X.prog X.w H s Q u s'):EP X pins σ Q u s':=by
 obtain⟨v,H',os,bare,un,hok,r,q⟩:=h
 obtain⟨hh,g,d,t,os'⟩:=s'
 obtain rfl:os'=s.os:=os
 exact⟨v,H',I.call (h':=hh) (g':=g) (d':=d) (t':=t) (ch:=[]) un hok bare (fun b z=>absurd z (by simp)),r,q⟩
end
def zlV (sp:Sp)(dvs:List V)(E:XK)(t:TA):TE:=fun σ H Q=>t σ H fun vs H1=>sp (vs++dvs) H1 Q E
def Binds (K:PySem.W.Frag)(fd:FuncData)(ps:List Str)(ds:List Value):Prop :=
 ∀ (s:Shared) (us:List Value),K.In s.heap->(us++ds).length=ps.length->BindsTo s fd ⟨us,[]⟩ (ps.zip (us++ds))
theorem Binds.all {K:PySem.W.Frag}{fd:FuncData}{ps:List Str}(h:∀ us:List Value,us.length=ps.length->bindArgs fd ⟨us,[]⟩=pure (ps.zip us)):Binds K fd ps []:=fun s us _ hl=>by
 rw [List.append_nil] at hl ⊢
 exact .of_eq (h us hl)
def Passes (CX:CXT)(X:Cx)(E:XK):Prop:=∀ (pins:List (Addr×Obj)) (σ:St) (H:Hp) (s:Shared) (e:Value) (s':Shared),Inv X pins σ H s->CX X.stack H s E e s'->X.xe e s'
section
variable {X:Cx}{CX:CXT}{k:Nat}{f C:Addr}{fd:FuncData}{ps:List Str}{sp:Sp}{dvs:List V}{ds:List Value}{E:XK}{x m:Str}{p pos apos:Pos}{e o:Expr}{es:List Expr}{ta:TE}{t:TA}
theorem zrf {pins:List (Addr×Obj)}{σ:St}{H:Hp}{s:Shared}{Q:VK}{us:List Value}{vs:List V}(F:zW X.prog X.w X.K X.mg X.base CX k f fd ps sp)(hr:zaB k X.A)(hb:Binds X.K fd ps ds)(hd:Vals dvs ds)(hx:Passes CX X E)
  (I:Inv X pins σ H s) (r:Vals vs us) (h:sp (vs++dvs) H Q E):wpAny (model X.prog X.w) X.A (call (.ref f) us) (EP X pins σ Q) X.xe s:=by
 have r2:Vals (vs++dvs) (us++ds):=r.append hd
 have hl:(us++ds).length=ps.length:=by rw [<- r2.length];exact F.len _ _ _ _ h
 refine wpAny_call (codeAny_mono (F.run X.A X.stack s H ⟨us,[]⟩ (us++ds) (vs++dvs) Q E hr I.env0 (hb s us I.kIn hl) r2 h) fun r s' hq=>?_)
 cases r with
 |error e=>exact hx pins σ H s e s' I hq
 |ok fl =>
  cases fl with
  |ret u=>exact I.after hq
  |next=>exact False.elim hq
  |brk=>exact False.elim hq
  |cont=>exact False.elim hq
theorem zpK (F:zW X.prog X.w X.K X.mg X.base CX k f fd ps sp)(hr:zaB k X.A)(hg:Gl X x)(hm:X.mg x=some (.ref f))(hk:PySem.W.keepIn X.K (.ref f)=true)(hb:Binds X.K fd ps ds)(hd:Vals dvs ds)(hx:Passes CX X E)
  (ha:PA X (e::es) t) (hdb:(x==("__debug__":Str))=false:=by decide) (he:starEach (e::es) X.env=(false,eval e X.env)::starEach es X.env:=by rfl) (hpl:(backTo pos (starEach es X.env)).any (·.1)=false:=by rfl) :
  PE X (.Call (.Name x p) (e::es) [] pos) (zlV sp dvs E t):=by
 intro pins s σ H Q I h
 refine wpAny_Call_Name_kw (zeU I hg hm ?_ hdb)
 refine PySem.W.callWith_K (h₀:=X.base) I.ok.mod.kin hk (thn (ha pos pins s σ H _ I h) fun us s1 ⟨vs,H1,I1,r,q⟩=>⟨I1.kIn,?_⟩) he hpl
 exact zrf F hr hb hd hx I1 r q
structure Mk (K:PySem.W.Frag)(C f:Addr):Prop where
 makes:PySem.W.makesIn K C=true
 init:PySem.W.findIn K (.ref C) "__init__"=some (some (.ref f))
 fn:PySem.W.isFn K (.ref f)=true
 kp:PySem.W.keepIn K (.ref C)=true
theorem znW {pins:List (Addr×Obj)}{σ:St}{H:Hp}{s:Shared}{Q:VK}{us:List Value}{vs:List V}(M:Mk X.K C f)(F:zW X.prog X.w X.K X.mg X.base CX k f fd ps sp)(hr:zaB (k+1) X.A)(hb:Binds X.K fd ps ds)(hd:Vals dvs ds)
  (hx:Passes CX X E) (I:Inv X pins σ H s) (r:Vals vs us)
  (h:∀ x dx,H x=none->H dx=none->dx≠x->sp (.ref x::(vs++dvs)) (upd (upd H dx (.own x)) x (.ins C dx [])) (fun v H2=>v=.non/\Q (.ref x) H2) E) :
  wpAny (model X.prog X.w) X.A (call (.ref C) us) (EP X pins σ Q) X.xe s:=by
 have hq:=h (s.heap.objs.size+1) s.heap.objs.size (I.hok.fresh (Nat.le_succ _)) (I.hok.fresh (Nat.le_refl _)) (Nat.ne_of_lt (Nat.lt_succ_self _))
 have I2:=Inv.made (C:=C) I
 have r2:Vals (V.ref (s.heap.objs.size+1)::(vs++dvs)) (Value.ref (s.heap.objs.size+1)::(us++ds)):=.cons rfl (r.append hd)
 have hl:(Value.ref (s.heap.objs.size+1)::us++ds).length=ps.length:=by
  have e:=r2.length
  rw [F.len _ _ _ _ hq] at e
  exact e.symm
 refine wpAny_call (zod (f:=f) I.kIn M.makes M.init (beq_iff_eq.mp M.fn) (codeAny_mono (F.run _ X.stack _ _ ⟨Value.ref (s.heap.objs.size+1)::us,[]⟩ (Value.ref (s.heap.objs.size+1)::(us++ds)) _ _ E (hr.make C us [])
  (I2.env0.make C us []) (hb _ (Value.ref (s.heap.objs.size+1)::us) I2.kIn hl) r2 hq) fun r s' hq'=>?_))
 cases r with
 |error e=>exact hx pins σ _ _ e s' I2 hq'
 |ok fl =>
  cases fl with
  |ret u =>
   obtain⟨v,H',I3,rv,ev,q3⟩:=I2.after hq'
   subst ev
   exact⟨rv,⟨V.ref (s.heap.objs.size+1),H',I3,rfl,q3⟩⟩
  |next=>exact False.elim hq'
  |brk=>exact False.elim hq'
  |cont=>exact False.elim hq'
end
section
variable {X:Cx}{CX:CXT}{k:Nat}{f C:Addr}{fd:FuncData}{ps ks:List Str}{sp:Sp}{E:XK}{x m:Str}{p pos apos kpos:Pos}{e o:Expr}{es:List Expr}{kws:List Keyword}{te ta:TE}{t tk:TA}{nm:Option Str}
variable {g:List Value->List Value->List Value}{gV:List V->List V->List V}
end
structure zL (N P:List Str)(sc:Scope):Prop where
 kind:sc.kind=.function
 co:sc.isCoroutine=false
 gen:sc.isGenerator=false
 nd:N.Nodup
 pre:N.take P.length=P
 par:∀ x∈P,sc.names.lookup x=some .local\/sc.names.lookup x=some .cell
 nofree:∀ y∈sc.names,y.2≠.free
theorem ziE {kindOf:Str->Option NameKind}{x:Str}:∀ {binds:List (Str×Value)} {m:Str->Option Value},(∀ v,(x,v)∉binds)->bindL kindOf binds m x=m x
 |[],_,_=>rfl
 |(n,v)::r,m,h=>by
  unfold bindL
  rw [ziE fun w hw=>h w (List.mem_cons_of_mem _ hw)]
  split
  ·have:x≠n:=by rintro rfl;exact h v List.mem_cons_self
   simp [this]
  ·rfl
theorem ziD {kindOf:Str->Option NameKind}{x:Str}:∀ {binds:List (Str×Value)} {m:Str->Option Value},(∀ v,(x,v)∉binds)->bindC kindOf binds m x=m x
 |[],_,_=>rfl
 |(n,v)::r,m,h=>by
  unfold bindC
  rw [ziD fun w hw=>h w (List.mem_cons_of_mem _ hw)]
  split
  ·rfl
  ·have:x≠n:=by rintro rfl;exact h v List.mem_cons_self
   simp [this]
theorem ziN {kindOf:Str->Option NameKind}{x:Str}{v:Value}:∀ {P:List Str} {vs:List Value} {i:Nat} {m:Str->Option Value},P.Nodup->P[i]?=some x->vs[i]?=some v->kindOf x=some .local ->
  bindL kindOf (P.zip vs) m x=some v
 |[],_,_,_,_,h,_,_=>by simp at h
 |_::_,[],_,_,_,_,h,_=>by simp at h
 |p::P,w::vs,0,m,nd,h1,h2,hk=>by
  simp at h1 h2;subst h1;subst h2
  show bindL kindOf ((p,w)::P.zip vs) m p=_
  unfold bindL
  rw [ziE fun v hv=>(List.nodup_cons.mp nd).1 (List.of_mem_zip hv).1,if_pos hk]
  simp
 |p::P,w::vs,i+1,m,nd,h1,h2,hk=>by
  show bindL kindOf ((p,w)::P.zip vs) m x=_
  unfold bindL
  exact ziN (i:=i) (List.nodup_cons.mp nd).2 (by simpa using h1) (by simpa using h2) hk
theorem zix {kindOf:Str->Option NameKind}{x:Str}{v:Value}:∀ {P:List Str} {vs:List Value} {i:Nat} {m:Str->Option Value},P.Nodup->P[i]?=some x->vs[i]?=some v->kindOf x≠some .local ->
  bindC kindOf (P.zip vs) m x=some v
 |[],_,_,_,_,h,_,_=>by simp at h
 |_::_,[],_,_,_,_,h,_=>by simp at h
 |p::P,w::vs,0,m,nd,h1,h2,hk=>by
  simp at h1 h2;subst h1;subst h2
  show bindC kindOf ((p,w)::P.zip vs) m p=_
  unfold bindC
  rw [ziD fun v hv=>(List.nodup_cons.mp nd).1 (List.of_mem_zip hv).1,if_neg hk]
  simp
 |p::P,w::vs,i+1,m,nd,h1,h2,hk=>by
  show bindC kindOf ((p,w)::P.zip vs) m x=_
  unfold bindC
  exact zix (i:=i) (List.nodup_cons.mp nd).2 (by simpa using h1) (by simpa using h2) hk
def start (N:List Str)(vs:List V):St:=vs.map some++List.replicate (N.length-vs.length) none
def zeA (CX:CXT)(P:Program)(w:World)(K:PySem.W.Frag)(mg:Str->Option Value)(base:Heap)(N:List Str)(qual:Str)(scope:Scope)(f:Addr)(cd:Value)(A:Around)(outer:List Env)(s:Shared)(H:Hp)(E:XK):Cx where
 prog:=P
 w:=w
 K:=K
 mg:=mg
 base:=base
 A:=A.deeper (envOfC qual scope s.heap.objs.size f cd)
 N:=N
 s₀:=s
 H₀:=H
 env:=envOfC qual scope s.heap.objs.size f cd
 outer:=outer
 stack:=envOfC qual scope s.heap.objs.size f cd::outer
 ex:=[]
 calm:=true
 fn:=fun _=>true
 pn:=[]
 xe:=fun e s'=>wpAny (model P w) (A.deeper (envOfC qual scope s.heap.objs.size f cd)) (leaving (envOfC qual scope s.heap.objs.size f cd) e) (fun _ s''=>CX outer H s E e s'') (fun e' s''=>CX outer H s E e' s'') s'
theorem zjx {sc:Scope}{n:Nat}{x:Str}(h:sc.names.lookup x=some .cell):∃ c,(cellsFrom n sc.names []).lookup x=some c:=by
 have q:=PySem.W.cellsFrom_some sc.names n [] (.inl h)
 exact Option.isSome_iff_exists.mp q
theorem znd {CX:CXT}{P:Program}{w:World}{K:PySem.W.Frag}{mg:Str->Option Value}{base:Heap}{N ps:List Str}{qual:Str}{scope:Scope}{f:Addr}{cd:Value}{A:Around}{outer:List Env}{s s1:Shared}{H:Hp}{E:XK}{us:List Value}{vs:List V}
    (S:zL N ps scope) (hd:A.handled=none) (e0:zgT P w K mg base A outer s H) (hl:vs.length=ps.length) (r:Vals vs us)
    (x:InCallC s s.heap.objs.size (bindL (envOfC qual scope s.heap.objs.size f cd).kindOf (ps.zip us) fun _=>none) (cellsFrom (s.heap.objs.size+1) scope.names []) (bindC (envOfC qual scope s.heap.objs.size f cd).kindOf (ps.zip us) fun _=>none) s1) :
    Inv (zeA CX P w K mg base N qual scope f cd A outer s H E) [] (start N vs) H s1:=by
  have hpl:ps.length<=N.length:=by have:=congrArg List.length S.pre;rw [List.length_take] at this;omega
  obtain⟨h1,tk,rfl,hk⟩:=x.done
  have noA:∀ b:Addr,b∉(zeA CX P w K mg base N qual scope f cd A outer s H E).ex:=fun b z=>absurd (show b∈([]:List Addr) from z) (by simp)
  refine⟨⟨e0.mod,S.kind,rfl,rfl,Nat.le_refl _,fun y z c h1 h2=>?_,fun y hy=>?_,fun y c _ h=>?_,fun _=>hd,Around.frames_deeper e0.frames,.inr ⟨rfl,rfl⟩,fun b z=>absurd z (noA b),e0.bs,e0.bsz,fun b _ _=>noA b,fun b z=>absurd z (noA b),e0.funs,e0.frf⟩,
    rfl,e0.bare,Un.kept hk,⟨_,x.toInCall.ns,fun i y v h1 h2 h3=>?_⟩,fun y c h=>⟨_,x.cell y c h⟩,e0.hok.fresh (Nat.le_refl _),fun y c h=>?_,fun p hp=>absurd (show p∈([]:List (Addr×Obj)) from hp) (by simp),e0.hok.kept hk,?_⟩
  · exact name_of_addr x.apart (PySem.mem_of_lookup h1) (PySem.mem_of_lookup h2)
  · have hy:scope.names.lookup y=some .cell\/scope.names.lookup y=some .free:=hy
    rcases hy with hy|hy
    · exact zjx hy
    · exact absurd rfl (S.nofree _ (PySem.mem_of_lookup hy))
  · exact Nat.le_of_lt (x.above y c (PySem.mem_of_lookup h))
  · have hi : i < vs.length := by
      unfold start at h2
      by_cases hi:i<vs.length
      · exact hi
      · rw [List.getElem?_append_right (by simpa using hi)] at h2
        rw [List.getElem?_replicate] at h2
        split at h2<;>cases h2
    have ha:vs[i]?=some v:=by
      unfold start at h2
      rw [List.getElem?_append_left (by simpa using hi),List.getElem?_map] at h2
      cases e:vs[i]? with
      |none=>rw [e] at h2;cases h2
      |some a=>rw [e] at h2;cases h2;rfl
    obtain⟨u,hu,rv⟩:=r.get ha
    have hp:ps[i]?=some y:=by
      rw [<- S.pre,List.getElem?_take_of_lt (by omega)];exact h1
    have ndP:ps.Nodup:=by rw [<- S.pre];exact S.nd.sublist (List.take_sublist _ _)
    refine⟨u,rv,?_⟩
    rcases S.par y (List.mem_of_getElem? hp) with k|k
    · exact .inl ⟨k,ziN ndP hp hu k⟩
    · obtain⟨c,e⟩:=zjx (n:=s.heap.objs.size+1) k
      refine .inr ⟨.inl k,c,e,?_⟩
      have q:=x.cell y c e
      rw [zix ndP hp hu (by show scope.names.lookup y≠_;rw [k];decide)] at q
      exact q
  · exact e0.hok.fresh (Nat.le_of_lt (x.above y c (PySem.mem_of_lookup h)))
  · unfold start
    show _=N.length
    rw [List.length_append,List.length_map,List.length_replicate]
    omega
theorem zor {CX:CXT}{P:Program}{w:World}{K:PySem.W.Frag}{mg:Str->Option Value}{base:Heap}{k:Nat}{f:Addr}{name qual:Str}{params:Arguments}{body:List Stmt}{scope:Scope}{dV kV doc pm cdv ct oc:Value}{an od:Option Addr}
  {osl:Array (Option Value)} {N ps:List Str} {sp:Sp} (lk:K.lookup f=some ⟨oc,od,.func (PySem.W.fnOf name qual params body scope dV kV doc pm an cdv ct),osl⟩) (hcd:PySem.W.codeIn K cdv qual=true) (S:zL N ps scope)
  (len:∀ vs H Q E,sp vs H Q E->vs.length=ps.length)
  (hbody:∀ (A:Around) (outer:List Env) (s:Shared) (H:Hp) (vs:List V) (Q:VK) (E:XK),zaB k (A.deeper (envOfC qual scope s.heap.objs.size f cdv))->sp vs H Q E ->
   ∃ t,PSs (zeA CX P w K mg base N qual scope f cdv A outer s H E) body t/\t { nx:=fun _ H'=>Q .non H',rt:=Q } (start N vs) H) :
  zW P w K mg base CX (k+1) f (PySem.W.fnOf name qual params body scope dV kV doc pm an cdv ct) ps sp:=by
 refine⟨len,fun A outer s H args us vs Q E hr e0 hb r hsp=>?_⟩
 have hl:=len _ _ _ _ hsp
 have KX:K.In s.heap:=e0.mod.kin.keeps fun b o e=>(e0.bs b o e).1
 have lim:s.heap.NoLimit:=e0.mod.nolimit.keeps fun b o e=>(e0.bs b o e).1
 have hkind:∀ y∈ps.zip us,scope.names.lookup y.1=some .local\/(scope.names.lookup y.1=some .cell/\((cellsFrom (s.heap.objs.size+1) scope.names []).lookup y.1).isSome=true):=fun⟨n,v⟩ hy=>by
  rcases S.par n (List.of_mem_zip hy).1 with q|q
  ·exact .inl q
  ·exact .inr ⟨q,PySem.W.cellsFrom_some _ _ _ (.inl q)⟩
 refine codeAny_call_function hr.depth (KX _ _ lk) rfl S.co S.gen rfl (PySem.W.codeRec_of KX hcd) (hb _ _ _ _ ?_)
 refine wpAny_newFunctionEnv_cells S.kind hkind fun env he s1 x=>?_
 subst he
 refine⟨lim.keeps x.toInCall.keep,codeAny_func ?_⟩
 obtain⟨t,ht,hq⟩:=hbody A outer s H vs Q E (hr.deeper _) hsp
 have I:Inv (zeA CX P w K mg base N qual scope f cdv A outer s H E) [] (start N vs) H s1:=znd S hr.hd e0 hl r x
 refine wpAny_mono (ht [] s1 (start N vs) H _ I hq) (fun fl s' hs=>?_) fun e s' hs=>hs
 have fin:∀ {σ':St} {H':Hp} {v:V} {u:Value},Inv (zeA CX P w K mg base N qual scope f cdv A outer s H E) [] σ' H' s'->RelV v u->Q v H'->CE outer P w H s Q u s' :=
  fun {σ' H' v u} J rv q=>⟨v,H',J.os,J.bare,J.base,J.hok,rv,q⟩
 cases fl with
 |ret u =>
  obtain⟨v,σ',H',J,rv,q⟩:=hs
  exact fin J rv q
 |next =>
  obtain⟨σ',H',J,q⟩:=hs
  exact fin (v:=V.non) (u:=Value.none) J rfl q
 |brk =>
  obtain⟨_,_,_,q⟩:=hs
  exact False.elim q
 |cont =>
  obtain⟨_,_,_,q⟩:=hs
  exact False.elim q
section
variable {X:Cx}{x:Str}{p pos:Pos}{e:Expr}{es:List Expr}{t:TA}{id T:String}{r:List V->Hp->VK->Prop}
def tCB (r:List V->Hp->VK->Prop)(t:TA):TE:=fun σ H Q=>t σ H fun vs H1=>r vs H1 Q
theorem znj (hc:zaZ X (.builtin id) r)(hg:Gl X x)(hm:X.mg x=none)(hv:bootBuiltins x=some (.builtin id))(ha:PA X (e::es) t)(hn:x≠"__name__":=by decide)(hdb:(x==("__debug__":Str))=false:=by decide)
  (he:starEach (e::es) X.env=(false,eval e X.env)::starEach es X.env:=by rfl) (hpl:(backTo pos (starEach es X.env)).any (·.1)=false:=by rfl):PE X (.Call (.Name x p) (e::es) [] pos) (tCB r t):=by
 intro pins s σ H Q I h
 refine wpAny_Call_Name_kw (zec I hg hm hv ?_ hn hdb)
 exact PyProof.Rows.callWith_builtin1 (thn (ha pos pins s σ H _ I h) fun us s1 ⟨vs,H1,I1,r1,q1⟩=>hc pins s1 σ H1 vs us Q I1 r1 q1) he hpl
theorem zmc (hc:zaZ X (.type T) r)(hg:Gl X x)(hm:X.mg x=none)(hv:bootBuiltins x=some (.type T))(ha:PA X (e::es) t)(hn:x≠"__name__":=by decide)(hdb:(x==("__debug__":Str))=false:=by decide)
  (he:starEach (e::es) X.env=(false,eval e X.env)::starEach es X.env:=by rfl) (hpl:(backTo pos (starEach es X.env)).any (·.1)=false:=by rfl):PE X (.Call (.Name x p) (e::es) [] pos) (tCB r t):=by
 intro pins s σ H Q I h
 refine wpAny_Call_Name_kw (zec I hg hm hv ?_ hn hdb)
 exact PyProof.Rows.callWith_type1 (thn (ha pos pins s σ H _ I h) fun us s1 ⟨vs,H1,I1,r1,q1⟩=>hc pins s1 σ H1 vs us Q I1 r1 q1) he hpl
end
end L2
namespace HT
open PySem PyProof.Rows
section
open PySem.SeqAt
open PySem.AutoSeq1 (wpAny_loadPart')
open PySem.MeetsSeq PySem.MeetsSeq2 PySem.MeetsSeq3
end
section
variable {prog:Program}{w:World}{A:Around}{E:Value->Shared->Prop}{s:Shared}
theorem zo4 {t b:Addr}{vs ws:List Value}{Q:Value->Shared->Prop}(ht:IsTup s.heap t vs.toArray)(hb:IsTup s.heap b ws.toArray)(hv:vs≠[])
  (h1:ws=[]->Q (.ref t) s) (h2:ws≠[]->Q (.ref s.heap.objs.size) { s with heap:=s.heap.push { cls:=.type "tuple",data:=.seq (vs++ws).toArray } })
  (hsz:vs.length+ws.length<=sizeLine):wpAny (model prog w) A (binaryOp .Add (.ref t) (.ref b)) Q E s:=by
 obtain⟨⟨cls,dd,data,sl⟩,ho,hc,n,hd⟩:=id ht
 obtain⟨⟨cls2,dd2,data2,sl2⟩,ho2,hc2,n2,hd2⟩:=id hb
 simp only at hc hd hc2 hd2
 subst hc hd hc2 hd2
 have e:vs.toArray++ws.toArray=(vs++ws).toArray:=by simp
 by_cases hw:ws=[]
 ·exact concat_meets ⟨_,ho,rfl⟩ ⟨_,ho2,rfl⟩ noFill_tuple_add seq_tuple_add PySem.F.slot_tuple_add PySem.F.entry_tuple_add (PySem.F.args_tuple_add_2 _ _)
   (tuple_addW1 t b vs.toArray ws.toArray n n2 dd dd2 sl sl2 (by simpa using hv) (by simp [hw])) ⟨ho,ho2,h1 hw⟩
 ·refine concat_meets ⟨_,ho,rfl⟩ ⟨_,ho2,rfl⟩ noFill_tuple_add seq_tuple_add PySem.F.slot_tuple_add PySem.F.entry_tuple_add (PySem.F.args_tuple_add_2 _ _)
   (tuple_addW2 t b vs.toArray ws.toArray n n2 dd dd2 sl sl2 (by simpa using hv) (by simpa using hw) (by rw [List.size_toArray,List.size_toArray];exact hsz)) ⟨ho,ho2,?_⟩
  rw [e]
  exact h2 hw
def sIx (n d:Nat):Option Int->Nat
 |none=>d
 |some v=>if v<0 then (v+(n:Int)).toNat else min v.toNat n
theorem zhi (n d:Nat)(hd:d<=n)(o:Option Int):sIx n d o<=n:=by
 cases o with
 |none=>exact hd
 |some v =>
  show (if v<0 then (v+(n:Int)).toNat else min v.toNat n)<=n
  by_cases hv:v<0
  ·rw [if_pos hv];omega
  ·rw [if_neg hv];exact Nat.min_le_right _ _
theorem zlb (v:Int)(n d:Nat):(if v<0 then max (v+(n:Int)) 0 else min v (n:Int))=((sIx n d (some v):Nat):Int):=by
 show (if v<0 then max (v+(n:Int)) 0 else min v (n:Int))=(((if v<0 then (v+(n:Int)).toNat else min v.toNat n):Nat):Int)
 by_cases hv:v<0
 ·simp only [if_pos hv];omega
 ·simp only [if_neg hv];omega
theorem zlI (lo hi:Option Int)(n:Nat):Builtin.Slice.sliceAdjust lo hi 1 (n:Int)=(((sIx n 0 lo:Nat):Int),((sIx n n hi:Nat):Int)):=by
 have h1:¬ ((1:Int)<0):=by omega
 unfold Builtin.Slice.sliceAdjust
 simp only [h1,if_false]
 refine Prod.ext ?_ ?_
 ·cases lo with
  |none=>rfl
  |some v=>exact zlb v n 0
 ·cases hi with
  |none=>rfl
  |some v=>exact zlb v n n
theorem zl6 (i j:Nat):Builtin.Slice.slicePlaces (i:Int) (j:Int) 1=j-i:=by
  unfold Builtin.Slice.slicePlaces
  have h1:(1:Int) > 0:=by omega
  simp only [h1,if_true,Int.ediv_one]
  split<;>omega
theorem zhA {v:Value}{o:Option Int}{Q:Option Int->Shared->Prop}(p:IsPart v o)(h:Q o s):wpAny (model prog w) A (Builtin.Slice.slicePartIndex v) Q E s:=by
 cases p with
 |none=>exact slicePart_none h
 |int i t=>exact slicePart_int h
theorem zdZ {sl:Addr}{vl vu:Value}{lo hi:Option Int}{n:Nat}{Q:Int×Int×Nat->Shared->Prop}(hs:s.heap.IsSliceOf sl vl vu .none)(pl:IsPart vl lo)(pu:IsPart vu hi)
  (h:Q (((sIx n 0 lo:Nat):Int),1,sIx n n hi-sIx n 0 lo) s):wpAny (model prog w) A (Builtin.Slice.sliceApplied (.ref sl) (pure (n:Int))) Q E s:=by
 obtain⟨os,hos,hcs,hds⟩:=id hs
 unfold Builtin.Slice.sliceApplied Builtin.Slice.sliceFields
 refine wpAny_bind (wpAny_bind (wpAny_field hos hds (x:=vl) rfl (wpAny_bind (wpAny_field hos hds (x:=vu) rfl (wpAny_bind (wpAny_field hos hds (x:=.none) rfl (wpAny_pure ?_)))))))
 refine wpAny_bind (slicePart_none ?_)
 show wpAny _ _ (if ((1:Int)==0)=true then _ else _) _ _ s
 rw [if_neg (by decide)]
 refine wpAny_bind (zhA pl (wpAny_bind (zhA pu (wpAny_bind (wpAny_pure ?_)))))
 show wpAny _ _ (match Builtin.Slice.sliceAdjust lo hi 1 (n:Int) with|(lo,hi)=>pure (lo,(1:Int),Builtin.Slice.slicePlaces lo hi 1)) _ _ s
 rw [zlI lo hi n]
 show wpAny _ _ (pure (((sIx n 0 lo:Nat):Int),(1:Int),Builtin.Slice.slicePlaces ((sIx n 0 lo:Nat):Int) ((sIx n n hi:Nat):Int) 1)) _ _ s
 rw [zl6]
 exact wpAny_pure h
theorem znM (xs:Array Value)(i k:Nat):((List.range k).filterMap fun (m:Nat)=>xs[((i:Int)+(m:Int)*1).toNat]?).toArray=((xs.toList.drop i).take k).toArray:=by
 have e:(fun (m:Nat)=>xs[((i:Int)+(m:Int)*1).toNat]?)=fun m=>xs[i+m]?:=by
  funext m
  have:((i:Int)+(m:Int)*1).toNat=i+m:=by omega
  rw [this]
 rw [e]
 have:=pick_run xs i k
 rw [List.filterMap_map] at this
 have e2:((fun x=>xs[x]?) ∘ fun x=>i+x)=fun m=>xs[i+m]?:=rfl
 rw [e2] at this
 rw [this]
theorem zgu {t sl:Addr}{items:Array Value}{vl vu:Value}{lo hi:Option Int}{Q:Value->Shared->Prop}(ht:IsTup s.heap t items)(hs:s.heap.IsSliceOf sl vl vu .none)(pl:IsPart vl lo)(pu:IsPart vu hi)
  (hw:¬ (sIx items.size 0 lo=0/\sIx items.size items.size hi=items.size))
  (h:Q (.ref s.heap.objs.size) { s with heap:=s.heap.push { cls:=.type "tuple",data:=.seq ((items.toList.drop (sIx items.size 0 lo)).take (sIx items.size items.size hi-sIx items.size 0 lo)).toArray } })
  (hsz:items.size<=sizeLine):wpAny (model prog w) A (getItem (.ref t) (.ref sl)) Q E s:=by
 have htake:sizeOk (.seq ((items.toList.drop (sIx items.size 0 lo)).take (sIx items.size items.size hi-sIx items.size 0 lo)).toArray):=by
  show ((items.toList.drop (sIx items.size 0 lo)).take (sIx items.size items.size hi-sIx items.size 0 lo)).toArray.size<=sizeLine
  rw [List.size_toArray,List.length_take,List.length_drop,Array.length_toList]
  omega
 have hj:sIx items.size items.size hi<=items.size:=zhi _ _ (Nat.le_refl _) hi
 obtain⟨os,hos,hcs,hds⟩:=id hs
 have hTs:s.TypeIs (.ref sl) "slice":=⟨os,hos,hcs⟩
 unfold getItem
 try with_reducible refine wpAny_holding ?_
 first|refine wpAny_bind (wpAny_pure ?_)|skip
 refine wpAny_bind (wpAny_sequenceKey ht.typeIs (by decide) ?_)
 refine wpAny_bind (wpAny_callSpecial?_slot (name:=Str.ofString "__getitem__") ht.typeIs PyProof.Rows.slot_tuple_getitem
  (wpAny_call_entry PyProof.Rows.slot_tuple_getitem ht.typeIs entry_tuple_getitem ?_ (args_tuple_getitem _ _)))
 show wpAny _ _ (Builtin.Tuple.tupleItemsOf (.ref t) >>= _) _ _ s
 refine wpAny_bind (tupleItemsOf_ ht ?_)
 refine wpAny_bind (wpAny_typeOf hTs ?_)
 rw [if_pos (by decide)]
 refine wpAny_bind (zdZ hs pl pu ?_)
 have hno:¬ ((((sIx items.size 0 lo:Nat):Int)==0&&(1:Int)==1&&(sIx items.size items.size hi-sIx items.size 0 lo)==items.size)=true):=by
  intro q
  rw [Bool.and_eq_true,Bool.and_eq_true] at q
  have q1:((sIx items.size 0 lo:Nat):Int)=0:=eq_of_beq q.1.1
  have q2:sIx items.size items.size hi-sIx items.size 0 lo=items.size:=eq_of_beq q.2
  exact hw ⟨by omega,by omega⟩
 show wpAny _ _ (if (((sIx items.size 0 lo:Nat):Int)==0&&(1:Int)==1&&(sIx items.size items.size hi-sIx items.size 0 lo)==items.size)=true then _ else _) _ _ s
 rw [if_neg hno,znM]
 first
  |exact wpAny_bind (m:=Builtin.Tuple.tupleExact _) (wpAny_newObj_type (wpAny_pure ⟨_,rfl,wpAny_pure h⟩) htake)
  |exact wpAny_bind (m:=Builtin.Tuple.tupleExact _) (wpAny_newObj_type (wpAny_bind (wpAny_pure (wpAny_pure ⟨_,rfl,wpAny_pure h⟩))) htake)
  |exact wpAny_bind (wpAny_bind (m:=Builtin.Tuple.tupleExact _) (wpAny_newObj_type (wpAny_pure (wpAny_pure ⟨_,rfl,wpAny_pure h⟩)) htake))
  |exact wpAny_bind (wpAny_bind (m:=Builtin.Tuple.tupleExact _) (wpAny_newObj_type (wpAny_pure ⟨_,rfl,wpAny_pure h⟩) htake))
end
end HT
namespace L2
open PySem PySem.Spec PyProof.Rows
abbrev TO:=St->Hp->(Option Int->Hp->Prop)->Prop
def PO (X:Cx)(e:Option Expr)(t:TO):Prop :=
 ∀ (pins:List (Addr×Obj)) (s:Shared) (σ:St) (H:Hp) (Q:Option Int->Hp->Prop),Inv X pins σ H s->t σ H Q ->
  wpAny (model X.prog X.w) X.A (evalPart e X.env) (fun u s'=>∃ o H',Inv X pins σ H' s'/\IsPart u o/\Q o H') X.xe s
def zo9:TO:=fun _ H Q=>Q none H
def zsW (t:TE):TO:=fun σ H Q=>t σ H fun x H1=>∃ i,x=.int i/\Q (some i) H1
section
variable {X:Cx}{e:Expr}{te:TE}{lo hi:Option Expr}{tl th:TO}{pos p2:Pos}
theorem zp0:PO X none zo9:=by
 intro pins s σ H Q I h
 rw [evalPart_none]
 exact wpAny_pure ⟨none,H,I,.none,h⟩
theorem zpB (h:PE X e te):PO X (some e) (zsW te):=by
 intro pins s σ H Q I hw
 rw [evalPart_some]
 refine thn (h pins s σ H _ I hw) fun u s1 ⟨x,H1,I1,r1,q1⟩=>?_
 obtain⟨i,rfl,q⟩:=q1
 obtain⟨t,rfl⟩:=r1
 exact⟨some i,H1,I1,.int i t,q⟩
def SlR (X:Cx)(r:V->Option Int->Option Int->Hp->VK->Prop):Prop :=
 ∀ (pins:List (Addr×Obj)) (s:Shared) (σ:St) (H:Hp) (x:V) (v vl vu:Value) (lo hi:Option Int) (sl:Addr) (Q:VK),Inv X pins σ H s->RelV x v->s.heap.IsSliceOf sl vl vu .none->IsPart vl lo->IsPart vu hi->r x lo hi H Q ->
  ∃ T id,typeLookup (.type T) "__getitem__"=pure (some (.builtin id))/\s.TypeIs v T/\wpAny (model X.prog X.w) X.A (getItem v (.ref sl)) (EP X pins σ Q) X.xe s
theorem SlR.or {r r':V->Option Int->Option Int->Hp->VK->Prop}(h:SlR X r)(h':SlR X r'):SlR X (fun x lo hi H Q=>r x lo hi H Q\/r' x lo hi H Q):=by
 intro pins s σ H x v vl vu lo hi sl Q I rx hs pl pu q
 rcases q with q|q
 ·exact h pins s σ H x v vl vu lo hi sl Q I rx hs pl pu q
 ·exact h' pins s σ H x v vl vu lo hi sl Q I rx hs pl pu q
def tSl (r:V->Option Int->Option Int->Hp->VK->Prop)(te:TE)(tl th:TO):TE:=fun σ H Q=>te σ H fun x H1=>tl σ H1 fun l H2=>th σ H2 fun u H3=>r x l u H3 Q
theorem znU {r:V->Option Int->Option Int->Hp->VK->Prop}(hr:SlR X r)(he:PE X e te)(hl:PO X lo tl)(hu:PO X hi th):PE X (.Subscript e (.Slice lo hi none p2) pos) (tSl r te tl th):=by
 intro pins s σ H Q I h
 refine Subscript_ (thn (he pins s σ H _ I h) fun v s1 ⟨x,H1,I1,r1,q1⟩=>?_)
 refine wpAny_Slice (thn (hl pins s1 σ H1 _ I1 q1) fun vl s2 ⟨l,H2,I2,pl,q2⟩=>thn (hu pins s2 σ H2 _ I2 q2) fun vu s3 ⟨u,H3,I3,pu,q3⟩=>?_)
 rw [evalPart_none]
 refine wpAny_pure ?_
 have I4:Inv X pins σ H3 { s3 with heap:=s3.heap.push { cls:=.type "slice",data:=.fields #[vl,vu,.none] } }:=I3.kept (t':=s3.toks) fun b ob q=>Heap.get?_push_of_some _ q
 obtain⟨T,id,hT,ht,hg⟩:=hr pins { s3 with heap:=s3.heap.push { cls:=.type "slice",data:=.fields #[vl,vu,.none] } } σ H3 x v vl vu l u s3.heap.objs.size Q I4 r1 (Heap.IsSliceOf.new ..) pl pu q3
 show wpAny (model X.prog X.w) X.A (subscriptTail e (.Slice lo hi none p2) v (.ref s3.heap.objs.size)) (EP X pins σ Q) X.xe { s3 with heap:=s3.heap.push { cls:=.type "slice",data:=.fields #[vl,vu,.none] } }
 exact tail_any (ops:=[.ref s3.heap.objs.size,v]) ht hT hg (by with_unfolding_all rfl)
def zeZ (xs:List V)(lo hi:Option Int):List V:=(xs.drop (HT.sIx xs.length 0 lo)).take (HT.sIx xs.length xs.length hi-HT.sIx xs.length 0 lo)
theorem zgA (xs:List V)(lo hi:Option Int):(zeZ xs lo hi).length<=xs.length:=by
 unfold zeZ
 rw [List.length_take,List.length_drop]
 omega
def ztK (K:PySem.W.Frag):V->Option Int->Option Int->Hp->VK->Prop:=fun x lo hi H Q=>∃ a xs,x=.ref a/\SqT K H a xs /\
 ¬ (HT.sIx xs.length 0 lo=0/\HT.sIx xs.length xs.length hi=xs.length)/\∀ p,H p=none->Q (.ref p) (upd H p (.tup (zeZ xs lo hi)))
theorem zqg:SlR X (ztK X.K):=by
 intro pins s σ H x v vl vu lo hi sl Q I rx hs pl pu h
 obtain⟨a,xs,rfl,hx,hw,q⟩:=h
 cases rx
 obtain⟨its,r,ht,hz⟩:=I.tuple hx
 have hlen:its.toArray.size=xs.length:=by rw [List.size_toArray];exact r.length.symm
 refine⟨"tuple",_,PyProof.Rows.slot_tuple_getitem.lookup,ht.typeIs,?_⟩
 refine HT.zgu ht hs pl pu (by rw [hlen];exact hw) ?_ (by rw [hlen];exact hz)
 rw [hlen]
 refine⟨.ref s.heap.objs.size,_,I.laid (t':=s.toks) (o:=.tup (zeZ xs lo hi)) (fun b ob q=>Heap.get?_push_of_some _ q) (Nat.le_refl _) ?_,rfl,q _ (I.hok.fresh (Nat.le_refl _))⟩
 exact⟨Nat.le_trans (zgA xs lo hi) hz,_,(r.drop (HT.sIx xs.length 0 lo)).take (HT.sIx xs.length xs.length hi-HT.sIx xs.length 0 lo),IsTup.new _ _⟩
def zsx (K:PySem.W.Frag):R2:=fun x y H Q=>∃ a b xs ys,x=.ref a/\y=.ref b/\SqT K H a xs/\SqT K H b ys/\xs≠[]/\xs.length+ys.length<=sizeLine /\
 (ys=[]->Q (.ref a) H)/\(ys≠[]->∀ p,H p=none->Q (.ref p) (upd H p (.tup (xs++ys))))
theorem Vals.nil_iff {xs:List V}{us:List Value}(r:Vals xs us):us=[]↔xs=[]:=by
 cases r with
 |nil=>simp
 |cons _ _=>simp
theorem zpd:OpR X (binaryOp .Add) (zsx X.K):=by
 intro pins s σ H x y v u Q I rx ry h
 obtain⟨a,b,xs,ys,rfl,rfl,ha,hb,hx,hz,q1,q2⟩:=h
 cases rx
 cases ry
 obtain⟨its,r1,p1,_⟩:=I.tuple ha
 obtain⟨its2,r2,p2,_⟩:=I.tuple hb
 refine HT.zo4 p1 p2 (fun z=>hx (r1.nil_iff.mp z)) (fun z=>⟨.ref a,H,I,rfl,q1 (r2.nil_iff.mp z)⟩) (fun z=>?_) (by rw [<- r1.length,<- r2.length];exact hz)
 refine⟨.ref s.heap.objs.size,_,I.laid (t':=s.toks) (o:=.tup (xs++ys)) (fun b ob q=>Heap.get?_push_of_some _ q) (Nat.le_refl _) ?_,rfl,q2 (fun w=>z (r2.nil_iff.mpr w)) _ (I.hok.fresh (Nat.le_refl _))⟩
 exact⟨by rw [List.length_append];exact hz,_,r1.append r2,IsTup.new _ _⟩
end
def ixN (n:Nat)(i:Int):Option Nat:=if 0<=i then (if i<n then some i.toNat else none) else if -(n:Int)<=i then some (i+n).toNat else none
def atI {α:Type}(xs:List α)(i:Int):Option α:=(ixN xs.length i).bind fun j=>xs[j]?
theorem zkZ {n:Nat}{i:Int}{j:Nat}(h:ixN n i=some j):seqIndex? i n=some j/\j<n/\-(n:Int)<=i/\i<n:=by
 unfold ixN at h
 by_cases h0:0<=i
 ·rw [if_pos h0] at h
  by_cases h1:i<n
  ·rw [if_pos h1] at h
   have e:i.toNat=j:=Option.some.inj h
   exact⟨by rw [seqIndex_of h0 h1,e],by omega,by omega,h1⟩
  ·rw [if_neg h1] at h;cases h
 ·rw [if_neg h0] at h
  by_cases h1:-(n:Int)<=i
  ·rw [if_pos h1] at h
   have e:(i+n).toNat=j:=Option.some.inj h
   exact⟨by rw [seqIndex_neg (by omega) h1,e],by omega,h1,by omega⟩
  ·rw [if_neg h1] at h;cases h
theorem zhT {α:Type}{xs:List α}{i:Int}{v:α}(h:atI xs i=some v):∃ j,seqIndex? i xs.length=some j/\xs[j]?=some v/\j<xs.length/\-(xs.length:Int)<=i/\i<xs.length:=by
 unfold atI at h
 cases e:ixN xs.length i with
 |none=>rw [e] at h;cases h
 |some j =>
  rw [e] at h
  obtain⟨h1,h2,h3,h4⟩:=zkZ e
  exact⟨j,h1,h,h2,h3,h4⟩
def zk2 (b:Expr):Prop:=∀ o i,subscripted b false o i=operate [o,i] (getItem o i)
def IxR (X:Cx)(r:R2):Prop :=
 ∀ (value slice:Expr) (pins:List (Addr×Obj)) (s:Shared) (σ:St) (H:Hp) (x y:V) (v u:Value) (Q:VK),Inv X pins σ H s->RelV x v->RelV y u->r x y H Q ->
  subscripted slice false v u=operate [v,u] (getItem v u)->wpAny (model X.prog X.w) X.A (subscriptTail value slice v u) (EP X pins σ Q) X.xe s
def MtR (X:Cx)(id:String)(r:V->List V->Hp->VK->Prop):Prop :=
 ∀ (pins:List (Addr×Obj)) (s:Shared) (σ:St) (H:Hp) (x:V) (xs:List V) (v:Value) (us:List Value) (Q:VK),Inv X pins σ H s->RelV x v->Vals xs us->r x xs H Q ->
  wpAny (model X.prog X.w) X.A (call (.builtin id) (v::us)) (EP X pins σ Q) X.xe s
section
variable {X:Cx}{a b:Expr}{ta tb:TE}{pos:Pos}
theorem IxR.or {r r':R2}(h:IxR X r)(h':IxR X r'):IxR X (fun x y H Q=>r x y H Q\/r' x y H Q):=by
 intro value slice pins s σ H x y v u Q I rx ry q hs
 rcases q with q|q
 ·exact h value slice pins s σ H x y v u Q I rx ry q hs
 ·exact h' value slice pins s σ H x y v u Q I rx ry q hs
theorem ztf {r:R2}(hr:IxR X r)(ha:PE X a ta)(hb:PE X b tb)(hs:zk2 b):PE X (.Subscript a b pos) (tOp r ta tb):=by
 intro pins s σ H Q I h
 exact Subscript_ (znS ha hb I h fun v u s2 x y H2 I2 rx ry q=>hr a b pins s2 σ H2 x y v u Q I2 rx ry q (hs _ _))
def zt6 (K:PySem.W.Frag):R2:=fun x y H Q=>∃ p xs i v,x=.ref p/\y=.int i/\SqL K H p xs/\atI xs i=some v/\Q v H
def zt8 (K:PySem.W.Frag):R2:=fun x y H Q=>∃ p xs i v,x=.ref p/\y=.int i/\SqT K H p xs/\atI xs i=some v/\Q v H
def ztQ:R2:=fun x y H Q=>∃ z i c,x=.str z/\y=.int i/\z.length<=sizeLine/\atI z.cps.toList i=some c/\Q (.str ⟨#[c]⟩) H
theorem zpl:IxR X (zt6 X.K):=by
  intro value slice pins s σ H x y v u Q I rx ry h hs
  obtain⟨p,xs,i,z,rfl,rfl,hq,he,q⟩:=h
  cases rx
  obtain⟨t,rfl⟩:=ry
  obtain⟨its,r,pl,hz⟩:=I.list hq
  obtain⟨j,h1,h2,h3,h4,h5⟩:=zhT he
  obtain⟨w,ew,rw'⟩:=r.get h2
  have hl:=r.length
  have hn:=zeQ
  have fin:EP X pins σ Q w s:=⟨z,H,I,rw',q⟩
  by_cases h0:0<=i
  · have hj : i.toNat = j := by
      rw [seqIndex_of h0 h5] at h1
      exact Option.some.inj h1
    exact item_listR pl.isList h0 (by omega) (by rw [hj];simpa using ew) fin hs
  · have hj : (i + (its.toArray.size : Int)).toNat = j := by
      rw [seqIndex_neg (by omega) h4] at h1
      rw [List.size_toArray,<- hl]
      exact Option.some.inj h1
    exact subscriptTail_builtinR (x:=w) pl.isList.typeIs slot_list_getitem.lookup
      (wpAny_getItem_list_neg (Q:=fun r s'=>r=w/\EP X pins σ Q r s') pl.isList (by omega) (by rw [List.size_toArray]<;>omega) (by omega) (by rw [hj];simpa using ew) ⟨rfl,fin⟩) hs
theorem zrB:IxR X (zt8 X.K):=by
 intro value slice pins s σ H x y v u Q I rx ry h hs
 obtain⟨p,xs,i,z,rfl,rfl,hq,he,q⟩:=h
 cases rx
 obtain⟨t,rfl⟩:=ry
 obtain⟨its,r,pl,hz⟩:=I.tuple hq
 obtain⟨j,h1,h2,h3,h4,h5⟩:=zhT he
 obtain⟨w,ew,rw'⟩:=r.get h2
 have hl:=r.length
 have hn:=zeQ
 have fin:EP X pins σ Q w s:=⟨z,H,I,rw',q⟩
 exact subscriptTail_builtinR (x:=w) pl.typeIs slot_tuple_getitem.lookup
  (getItem_tuple (j:=j) (Q:=fun r s'=>r=w/\EP X pins σ Q r s') pl (by omega) (by omega) (by rw [List.size_toArray,<- hl];exact h1) (by simpa using ew) ⟨rfl,fin⟩) hs
theorem zrQ:IxR X ztQ:=by
 intro value slice pins s σ H x y v u Q I rx ry h hs
 obtain⟨z,i,c,rfl,rfl,hz,he,q⟩:=h
 obtain⟨t,rfl⟩:=rx
 obtain⟨t',rfl⟩:=ry
 obtain⟨j,h1,h2,h3,h4,h5⟩:=zhT he
 have hl:z.cps.toList.length=z.length:=by simp [Str.length]
 rw [hl] at h1 h4 h5
 have hn:=zeQ
 exact tail_any (typeIs_str s z t) slot_str_getitem.lookup (getItem_str (c:=c) (by
  have e1:decide (i < -(2 ^ 63:Int))=false:=decide_eq_false (by omega)
  have e2:decide (i ≥ 2 ^ 63)=false:=decide_eq_false (by omega)
  rw [e1,e2,Bool.or_false]) (by rw [h1];simpa using h2) ⟨.str ⟨#[c]⟩,H,I.tok _,⟨_,rfl⟩,q⟩) hs
theorem zl2 (its:List Value)(n j:Nat)(u:Value):Obj.mapSeq (·.setIfInBounds j u) { cls:=.type "list",data:=.seq its.toArray n }={ cls:=.type "list",data:=.seq (its.set j u).toArray n }:=by
 simp [Obj.mapSeq]
theorem Inv.lst {pins:List (Addr×Obj)}{σ:St}{H:Hp}{s:Shared}{p:Addr}{xs:List V}(I:Inv X pins σ H s)(h:H p=some (.lst xs)) :
  ∃ (its:List Value) (n:Nat),Vals xs its/\s.heap.get? p=some { cls:=.type "list",data:=.seq its.toArray n }/\xs.length<=sizeLine:=by
 obtain⟨z,its,n,r,e⟩:=I.hok p _ h
 exact⟨its,n,r,e,z⟩
theorem Inv.lstUpd {pins:List (Addr×Obj)}{σ:St}{H:Hp}{s:Shared}{p:Addr}{xs ys:List V}{its its':List Value}{n n':Nat}{f:Obj->Obj}(I:Inv X pins σ H s)(h:H p=some (.lst xs))
    (ho:s.heap.get? p=some { cls:=.type "list",data:=.seq its.toArray n }) (hf:f { cls:=.type "list",data:=.seq its.toArray n }={ cls:=.type "list",data:=.seq its'.toArray n' }) (r:Vals ys its') (hz:ys.length<=sizeLine) (t:Nat) :
    Inv X pins σ (upd H p (.lst ys)) { s with heap:=s.heap.update p f,toks:=t }:=by
  have e:(s.heap.update p f).get? p=some { cls:=.type "list",data:=.seq its'.toArray n' }:=by
    rw [Heap.get?_update_self f ho (by rw [hf]<;>rfl),hf]
  refine I.write (x:=p) (e:=p) (by rw [h];trivial) (.inl rfl) (fun b u hb q=>(Heap.get?_update_other _ _ (Ne.symm hb)).trans q) ⟨_,e⟩ ?_
  exact⟨hz,its',n',r,e⟩
def zs9:V->V->V->Hp->(Hp->Prop)->Prop:=fun o i v H Q=>∃ p xs k j,o=.ref p/\i=.int k/\H p=some (.lst xs)/\ixN xs.length k=some j/\Q (upd H p (.lst (xs.set j v)))
theorem set_list:zrw X zs9:=by
 intro pins s σ H o i v ov iv u Q I ro ri rv h
 obtain⟨p,xs,k,j,rfl,rfl,hp,hj,q⟩:=h
 cases ro
 obtain⟨t,rfl⟩:=ri
 obtain⟨its,n,r,ho,hz⟩:=I.lst hp
 obtain⟨h1,h2,h3,h4⟩:=zkZ hj
 have hl:=r.length
 have hn:=zeQ
 have I':Inv X pins σ (upd H p (.lst (xs.set j v))) { s with heap:=s.heap.update p (Obj.mapSeq (·.setIfInBounds j u)) } :=
  I.lstUpd hp ho (zl2 its n j u) (r.set rv j) (by rw [List.length_set];exact hz) s.toks
 by_cases h0:0<=k
 ·have hk:k.toNat=j:=by
   rw [seqIndex_of h0 h4] at h1
   exact Option.some.inj h1
  exact PySem.W.ki_setAt ho h0 (by omega) (by rw [List.size_toArray,<- hl];exact h4) (by rw [hk];exact⟨_,I',q⟩)
 ·have hk:(k+(its.toArray.size:Int)).toNat=j:=by
   rw [seqIndex_neg (by omega) h3] at h1
   rw [List.size_toArray,<- hl]
   exact Option.some.inj h1
  exact PySem.W.ki_setBack ho (by omega) (by rw [List.size_toArray,<- hl];exact h3) (by omega) (by rw [hk];exact⟨_,I',q⟩)
theorem zj9 (lo hi:Option Int)(n:Nat):(sliceBounds lo hi none n).1=((HT.sIx n 0 lo:Nat):Int)/\(sliceBounds lo hi none n).2.1=((HT.sIx n n hi:Nat):Int)/\(sliceBounds lo hi none n).2.2=1:=by
  refine⟨?_,?_,rfl⟩
  · cases lo with
    |none=>simp [sliceBounds,HT.sIx]
    |some i =>
      simp only [sliceBounds,HT.sIx,Option.getD_none,show (1:Int) > 0 by decide,if_true]
      by_cases h:i<0
      · simp only [h,if_true]<;>omega
      · simp only [h,if_false]<;>omega
  · cases hi with
    |none=>simp [sliceBounds,HT.sIx]
    |some i =>
      simp only [sliceBounds,HT.sIx,Option.getD_none,show (1:Int) > 0 by decide,if_true]
      by_cases h:i<0
      · simp only [h,if_true]<;>omega
      · simp only [h,if_false]<;>omega
theorem zi1 (its:List Value)(lo hi:Option Int):slicePick its.toArray lo hi none=((its.drop (HT.sIx its.length 0 lo)).take (HT.sIx its.length its.length hi-HT.sIx its.length 0 lo)).toArray:=by
  obtain⟨h1,h2,h3⟩:=zj9 lo hi its.toArray.size
  unfold slicePick
  rw [h1,h2,h3]
  simp only [sliceRange_one,pick_run,List.size_toArray]<;>rfl
def ztO (K:PySem.W.Frag):V->Option Int->Option Int->Hp->VK->Prop:=fun x lo hi H Q=>∃ a xs,x=.ref a/\SqL K H a xs/\∀ p,H p=none->Q (.ref p) (upd H p (.lst (zeZ xs lo hi)))
theorem zoS:SlR X (ztO X.K):=by
  intro pins s σ H x v vl vu lo hi sl Q I rx hs pl pu h
  obtain⟨a,xs,rfl,hx,q⟩:=h
  cases rx
  obtain⟨its,r,ht,hz⟩:=I.list hx
  have hlen:=r.length
  refine⟨"list",_,slot_list_getitem.lookup,ht.isList.typeIs,?_⟩
  refine wpAny_getItem_list_slice ht.isList hs pl pu .none (by simp) ?_ (by rw [List.size_toArray]<;>omega)
  rw [zi1,<- hlen]
  refine⟨.ref s.heap.objs.size,_,I.laid (t':=s.toks) (o:=.lst (zeZ xs lo hi)) (fun b ob q=>Heap.get?_push_of_some _ q) (Nat.le_refl _) ?_,rfl,q _ (I.hok.fresh (Nat.le_refl _))⟩
  exact⟨Nat.le_trans (zgA xs lo hi) hz,_,0,(r.drop (HT.sIx xs.length 0 lo)).take (HT.sIx xs.length xs.length hi-HT.sIx xs.length 0 lo),Heap.get?_push_size _ rfl⟩
theorem zki:zaZ X (.builtin "len") (fun xs H Q=>∃ p ys,xs=[.ref p]/\(SqL X.K H p ys\/SqT X.K H p ys)/\Q (.int ys.length) H):=by
  intro pins s σ H xs us Q I r h
  obtain⟨p,ys,rfl,hq,q⟩:=h
  obtain⟨u,rfl,rx⟩:=vals1 r
  cases rx
  have hn:=zeQ
  rcases hq with hq|hq
  · obtain⟨its,r',pl,hz⟩:=I.list hq
    have hlen:=r'.length
    exact Calls.call_len_list pl.isList (by simp only [List.size_toArray]<;>omega) ⟨.int ys.length,H,I.tok _,⟨s.toks+1,by rw [List.size_toArray,hlen]⟩,q⟩
  · obtain⟨its,r',pl,hz⟩:=I.tuple hq
    have hlen:=r'.length
    exact len_tuple pl (by simp only [List.size_toArray]<;>omega) ⟨.int ys.length,H,I.tok _,⟨s.toks+1,by rw [List.size_toArray,hlen]⟩,q⟩
theorem zkd:zaZ X (.builtin "len") (fun xs H Q=>∃ z,xs=[.str z]/\z.length<=sizeLine/\Q (.int z.length) H):=by
 intro pins s σ H xs us Q I r h
 obtain⟨z,rfl,hz,q⟩:=h
 obtain⟨u,rfl,t,rfl⟩:=vals1 r
 have hn:=zeQ
 exact len_str (by omega) ⟨.int z.length,H,I.tok _,⟨_,rfl⟩,q⟩
theorem zaZ.or {f:Value}{r r':List V->Hp->VK->Prop}(h:zaZ X f r)(h':zaZ X f r'):zaZ X f (fun xs H Q=>r xs H Q\/r' xs H Q):=by
 intro pins s σ H xs us Q I rs q
 rcases q with q|q
 ·exact h pins s σ H xs us Q I rs q
 ·exact h' pins s σ H xs us Q I rs q
theorem zjN:zaZ X (.type "list") (fun xs H Q=>∃ p ys,xs=[.ref p]/\(SqL X.K H p ys\/SqT X.K H p ys)/\∀ l,H l=none->Q (.ref l) (upd H l (.lst ys))):=by
  intro pins s σ H xs us Q I r h
  obtain⟨p,ys,rfl,hq,q⟩:=h
  obtain⟨u,rfl,rx⟩:=vals1 r
  cases rx
  have fin : ∀ (its : List Value), Vals ys its → ys.length ≤ sizeLine → ∀ (h' : Heap) (c' : Nat), (∀ b o', s.heap.get? b = some o' → h'.get? b = some o') →
      h'.get? s.heap.objs.size=some { cls:=.type "list",dict:=none,data:=.seq its.toArray c',slots:=#[] }->EP X pins σ Q (.ref s.heap.objs.size) { s with heap:=h' }:=fun its r' hz h' c' kp e =>
    ⟨.ref s.heap.objs.size,_,I.laid (t':=s.toks) kp (Nat.le_refl _) (show zaA X.prog X.w _ h' _ (.lst ys) from ⟨hz,its,c',r',e⟩),rfl,q _ (I.hok.fresh (Nat.le_refl _))⟩
  rcases hq with hq|hq
  · obtain⟨its,r',pl,hz⟩:=I.list hq
    have hlen:=r'.length
    obtain⟨o,ho,hc,n,hd⟩:=pl.isList
    exact call_list_seq p (.inl rfl) ho hc hd (fun h' c' kp e=>fin its r' hz h' c' kp e) (by simp only [List.size_toArray]<;>omega)
  · obtain⟨its,r',pl,hz⟩:=I.tuple hq
    have hlen:=r'.length
    obtain⟨o,ho,hc,n,hd⟩:=pl
    exact call_list_seq p (.inr rfl) ho hc hd (fun h' c' kp e=>fin its r' hz h' c' kp e) (by simp only [List.size_toArray]<;>omega)
theorem zjb:zaZ X (.type "tuple") (fun xs H Q=>∃ p ys,xs=[.ref p]/\((SqL X.K H p ys/\∀ l,H l=none->Q (.ref l) (upd H l (.tup ys)))\/(SqT X.K H p ys/\Q (.ref p) H))):=by
  intro pins s σ H xs us Q I r h
  obtain⟨p,ys,rfl,h⟩:=h
  obtain⟨u,rfl,rx⟩:=vals1 r
  cases rx
  rcases h with ⟨hq,q⟩|⟨hq,q⟩
  · obtain⟨its,r',pl,hz⟩:=I.list hq
    have hlen:=r'.length
    refine call_tuple_list pl.isList (fun h' kp=>?_) (by simp only [List.size_toArray]<;>omega)
    have I1:Inv X pins σ H { s with heap:=h' }:=I.kept (t':=s.toks) kp
    have I2:Inv X pins σ (upd H h'.objs.size (.tup ys)) { s with heap:=h'.push { cls:=.type "tuple",data:=.seq its.toArray } } :=
      I1.laid (t':=s.toks) (fun b o e=>Heap.get?_push_of_some _ e) (Nat.le_refl _) (show zaA X.prog X.w _ _ _ (.tup ys) from ⟨hz,its,r',IsTup.new _ _⟩)
    exact⟨.ref h'.objs.size,_,I2,rfl,q _ (I1.hok.fresh (Nat.le_refl _))⟩
  · obtain⟨its,r',pl,hz⟩:=I.tuple hq
    exact call_tuple_same pl ⟨.ref p,H,I,rfl,q⟩
def tyV (K:PySem.W.Frag)(T:String)(x:V)(H:Hp):Prop:=match x with
 | .str _=>T="str"
 | .int _=>T="int"
 | .ref p=>(T="list"/\∃ xs,SqL K H p xs)\/(T="tuple"/\∃ o,K.lookup p=some o/\o.cls=.type "tuple"/\o.dict=none) \/
   (T="dict"/\((∃ kvs,H p=some (.dK kvs))\/∃ kvs,H p=some (.dT kvs)))\/(T="set"/\∃ S n,H p=some (.set S n))
 |_=>False
theorem zro {pins:List (Addr×Obj)}{σ:St}{H:Hp}{s:Shared}{T:String}{x:V}{v:Value}(I:Inv X pins σ H s)(r:RelV x v)(ty:tyV X.K T x H) :
  s.TypeIs v T/\∀ a,v=.ref a->∃ ob,s.heap.get? a=some ob/\ob.dict=none:=by
 cases x with
 |str z =>
  obtain⟨t,rfl⟩:=r
  cases (show T="str" from ty)
  exact⟨typeIs_str s z t,fun _ e=>nomatch e⟩
 |int i =>
  obtain⟨t,rfl⟩:=r
  cases (show T="int" from ty)
  exact⟨typeIs_int s i t,fun _ e=>nomatch e⟩
 |ref p =>
  cases r
  rcases ty with ⟨rfl,xs,hq⟩|⟨rfl,o,hk,hc,hd⟩|⟨rfl,hk⟩|⟨rfl,S,n,hk⟩
  ·obtain⟨its,_,pl,_⟩:=I.list hq
   refine⟨pl.isList.typeIs,fun a e=>?_⟩
   cases e
   obtain⟨o,n,e,c,hd,_⟩:=pl
   exact⟨o,e,hd⟩
  ·refine⟨⟨o,I.kIn p o hk,hc⟩,fun a e=>?_⟩
   cases e
   exact⟨o,I.kIn _ o hk,hd⟩
  ·have z:∃ o,s.heap.get? p=some o/\o.ExactDict:=by
    rcases hk with ⟨kvs,hk⟩|⟨kvs,hk⟩
    ·obtain⟨_,_,_,_,o,_,_,e,ex,_⟩:=I.hok p _ hk
     exact⟨o,e,ex⟩
    ·obtain⟨_,_,_,_,o,_,_,e,ex,_⟩:=I.hok p _ hk
     exact⟨o,e,ex⟩
   obtain⟨o,e,ex⟩:=z
   refine⟨⟨o,e,ex.1⟩,fun a e2=>?_⟩
   cases e2
   exact⟨o,e,ex.2.1⟩
  ·obtain⟨o,_,_,_,e,ex,_⟩:=I.hok p _ hk
   refine⟨⟨o,e,ex.1⟩,fun a e2=>?_⟩
   cases e2
   exact⟨o,e,ex.2.1⟩
 |_=>exact False.elim ty
def tBM (K:PySem.W.Frag)(T:String)(r:V->List V->Hp->VK->Prop)(to:TE)(t:TA):TE:=fun σ H Q=>to σ H fun x H1=>tyV K T x H1/\t σ H1 fun xs H2=>r x xs H2 Q
variable {o e:Expr}{es:List Expr}{to:TE}{t:TA}{name:Str}{apos cpos:Pos}{T id:String}{r:V->List V->Hp->VK->Prop}
theorem zsu (pa:PlainAttrs T)(slot:Slot T name id)(hty:typeOf (.builtin id)=pure (.type "method_descriptor"))(hm:MtR X id r)(ho:PE X o to)(ha:PA X (e::es) t)
    (hbase:attributeBase o name X.env (eval o X.env)=eval o X.env:=by rfl)
    (hfew:((backTo cpos (starEach (e::es) X.env)).all (fun x=>!x.1)&&(backToKw cpos (keywordEach [] X.env)).all (fun x=>x.1.isSome)
     &&decide ((e::es).length+([]:List Keyword).length+(if ([]:List Keyword).isEmpty then 0 else 1)<30))=true:=by rfl)
    (hline:(apos.endLine==cpos.line)=true:=by rfl) (hs:starEach (e::es) X.env=(false,eval e X.env)::starEach es X.env:=by rfl) (hplain:(backTo cpos (starEach es X.env)).any (·.1)=false:=by rfl) :
    PE X (.Call (.Attribute o name apos) (e::es) [] cpos) (tBM X.K T r to t):=by
  intro pins s σ H Q I h
  refine wpAny_Call_method_late hbase hfew hline rfl (thn (ho pins s σ H _ I h) fun v s1 ⟨x,H1,I1,r1,ty,q1⟩=>?_)
  obtain⟨h1,h2⟩:=zro I1 r1 ty
  refine⟨T,id,pa,slot,hty,h1,h2,?_⟩
  have hA:=ha cpos pins s1 σ H1 _ I1 q1
  rw [hs] at hA ⊢
  refine Calls.callWith_builtin (by show (false||(backTo cpos (starEach es X.env)).any (·.1))=false;rw [hplain]<;>rfl) (Calls.evalArgs_plain ?_)
  exact thn hA fun us s2 ⟨vs,H2,I2,r2,q2⟩=>hm pins s2 σ H2 x vs v us Q I2 r1 r2 q2
/- xs.append(e),list.index on a module's tuple .. are MtR facts of 06m -/
end
def MtM (X:Cx)(id:String)(r:V->List V->Hp->VK->Prop):Prop :=
 ∀ (pins:List (Addr×Obj)) (s:Shared) (σ:St) (H:Hp) (x:V) (xs:List V) (v:Value) (us:List Value) (Q:VK),Inv X pins σ H s->RelV x v->Vals xs us->r x xs H Q ->
  wpAny (model X.prog X.w) X.A (call (.builtin id) (v::us)) (EP X pins σ Q) X.xe s
theorem Vals.one:∀ {x:V} {us:List Value},Vals [x] us->∃ u,us=[u]/\RelV x u
 |_,_,.cons r .nil=>⟨_,rfl,r⟩
section
variable {X:Cx}{pins:List (Addr×Obj)}{σ:St}{H:Hp}{s:Shared}{l b:Addr}{xs ys zs:List V}
theorem Inv.lset {its its':List Value}{n:Nat}{f:Array Value->Array Value}{t':Nat}(I:Inv X pins σ H s)(hH:H l=some (.lst xs))
  (e:s.heap.get? l=some { cls:=.type "list",data:=.seq its.toArray n }) (hf:f its.toArray=its'.toArray) (hv:Vals ys its') (hz:ys.length<=sizeLine) :
  Inv X pins σ (upd H l (.lst ys)) { s with heap:=s.heap.update l (Obj.mapSeq f),toks:=t' }:=by
 have q:=PySem.IsL.update e f
 rw [hf] at q
 refine I.write (x:=l) (e:=l) (by rw [hH];exact trivial) (.inl rfl) (fun b' u hb hu=>(Heap.get?_update_other s.heap (Obj.mapSeq f) (Ne.symm hb)).trans hu) ⟨_,q⟩ ?_
 exact⟨hz,its',_,hv,q⟩
theorem Inv.lnew {its:List Value}{t':Nat}(I:Inv X pins σ H s)(hv:Vals ys its)(hz:ys.length<=sizeLine) :
  Inv X pins σ (upd H s.heap.objs.size (.lst ys)) { s with heap:=s.heap.push { cls:=.type "list",data:=.seq its.toArray },toks:=t' } :=
 I.laid (fun _ _ q=>Heap.get?_push_of_some _ q) (Nat.le_refl _) ⟨hz,its,0,hv,Heap.get?_push_size _ rfl⟩
theorem Inv.fresh (I:Inv X pins σ H s):H s.heap.objs.size=none:=I.hok.fresh (Nat.le_refl _)
theorem Inv.lstM (I:Inv X pins σ H s)(hH:H l=some (.lst xs)):xs.length<=sizeLine/\∃ (its:List Value) (n:Nat),Vals xs its/\xs.length=its.length/\s.heap.get? l=some { cls:=.type "list",data:=.seq its.toArray n }:=by
 obtain⟨z,its,n,r,e⟩:=I.hok l _ hH
 exact⟨z,its,n,r,r.length,e⟩
end
section
variable {X:Cx}
def zk6:V->List V->Hp->VK->Prop:=fun x vs H Q=>∃ l xs y,x=.ref l/\vs=[y]/\H l=some (.lst xs)/\xs.length<sizeLine/\Q .non (upd H l (.lst (xs++[y])))
theorem ziJ:MtM X "list.append" zk6:=by
 intro pins s σ H x vs v us Q I rx rv h
 obtain⟨l,xs,y,rfl,rfl,hH,hz,q⟩:=h
 cases rx
 obtain⟨u,rfl,ru⟩:=rv.one
 obtain⟨z,its,n,r,hl,e⟩:=I.lstM hH
 refine call_meets F.slot_list_append ⟨_,e,rfl⟩ F.entry_list_append (F.args_list_append_2 _ _) (PySem.list_append l its.toArray n u (by rw [List.size_toArray];omega)) ⟨e,?_⟩
 refine⟨.non,_,I.lset (its':=its++[u]) hH e (by simp) (r.append (.cons ru .nil)) ?_,rfl,q⟩
 rw [List.length_append,List.length_singleton]
 omega
end
section
variable {prog:Program}{w:World}{A:Around}{E:Value->Shared->Prop}{s:Shared}
end
section
variable {X:Cx}
end
end L2
namespace Att
open PySem PySem.W PySem.Calls PyProof.Rows
theorem zg9 {P:Params}{h:Heap}:∀ (ns:List Int) (vs:List Value),WellAll P h vs (ns.map WData.int)->IntsAre vs ns:=by
 intro ns
 induction ns with
 |nil =>
  intro vs w
  rw [List.map_nil] at w
  cases w
  exact .nil
 |cons n ns ih =>
  intro vs w
  rw [List.map_cons] at w
  cases w with
  |cons a b =>
   cases a
   exact .cons _ _ (ih _ b)
theorem zmr {l:OpenLaw}{n:Nat}(hn:l.most=some n){P:Params}{h:Heap}{args:List WData}{vals:List Value}
  (hpre:l.row.toRowW.claim.pre args=true) (hwl:WellAll P h vals args) :
  ∃ a vs ns,vals=[Value.ref a]/\args=[WData.list (ns.map WData.int)]/\h.get? a=some { cls:=.type "list",data:=.seq vs.toArray }/\IntsAre vs ns/\ns.length<=n:=by
 have hsh:WShape.hasAll [] args [.list .int]=true:=(pre_splitW hpre).1
 have hc:l.pre.holds [] { args:=args }=true:=(pre_splitW hpre).2
 obtain⟨d,r,rfl,h1,h2⟩:=hasAllW_cons hsh
 obtain rfl:=hasAllW_nil h2
 obtain⟨xs,rfl,h3⟩:=hasW_list h1
 obtain⟨ns,rfl⟩:=items_int h3
 have hlen:ns.length<=n:=by
  unfold OpenLaw.pre at hc
  have h4:(WTm.not (.lt (.lit (.int (n:Int))) (.len (.arg 0)))).holds [] { args:=[.list (ns.map .int)] }=true:=by
   have h4:=(holds_andW hc).1
   rw [hn] at h4
   exact h4
  have h5:=condW_of h4 (w_not (w_lt w_lit (w_len_list (w_arg rfl))))
  rw [List.length_map] at h5
  refine Nat.le_of_not_lt fun q=>?_
  have q':(n:Int)<((ns.length:Nat):Int):=by omega
  first
   |(rw [decide_eq_true q'] at h5;exact absurd h5 (by decide))
   |(simp at h5;omega)
 cases hwl with
 |cons w1 w2 =>
  cases w2
  cases w1 with
  |list ho hall=>exact⟨_,_,ns,rfl,rfl,ho,zg9 ns _ hall,hlen⟩
theorem zmR (l:OpenLaw)(args:List WData):l.row.toRowW.claim.post args (.bool true) args=true :=
 postW_of (r:=l.row.toRowW) (X:=(true==true))
  (show WShape.has [] (.bool true) .bool=true by first|rfl|decide|simp [WShape.has,WShape.arms,WShape.armsAll])
  (show (WTm.eq .res (.lit (.bool true))).value [] { args:=args,res:=some (.bool true),after:=args }=some (.bool (true==true)) from w_eq_bool (w_res rfl) w_lit) rfl
section
variable {prog:Program}{w:World}{A:Around}{E:Value->Shared->Prop}{s:Shared}{K:Frag}
end
end Att
namespace L2
open PySem PySem.Spec PyProof.Rows
theorem ziz:∀ {vs:List Value} {ns:List Int},IntsAre vs ns->Vals (ns.map V.int) vs
 |_,_,.nil=>.nil
 |_,_,.cons n t h=>.cons ⟨t,rfl⟩ (ziz h)
def Only (H:Hp):Prop:=∀ b,H b=none\/∃ o xs,H b=some (.frz o (.lst xs))
theorem znA {P:Program}{w:World}{K:PySem.W.Frag}{mg mb:Str->Option Value}{CX:CXT}{k:Nat}{fa a:Addr}{fd:FuncData}{x:Str}{sp:Sp}{s₁:Shared}{vs:List Value}{ns:List Int}
  (KX:K.In s₁.heap) (hns:s₁.heap.Ns mainGlobals mg) (hb:s₁.heap.Ns builtinsNs mb) (hbb:∀ x:Str,x≠"__name__"->mb x=bootBuiltins x) (hlim:s₁.heap.NoLimit) (hg:s₁.gens=#[])
  (ha:s₁.heap.get? a=some { cls:=.type "list",data:=.seq vs.toArray }) (hi:IntsAre vs ns) (hl:ns.length<=sizeLine) (hr:zaB k callerA)
  (F:∀ base:Heap,K.In base->base.Ns mainGlobals mg->zW P w K mg base CX k fa fd [x] sp) (hbind:∀ (s:Shared) (u:Value),BindsTo s fd ⟨[u],[]⟩ [(x,u)])
  (hsp:∀ H:Hp,Only H->SqL K H a (ns.map V.int)->sp [.ref a] H (fun v _=>v=.bl true) fun _ _ _=>False)
  (hCX:∀ H e s',CX [] H s₁ (fun _ _ _=>False) e s'->False) :
  codeAny (model P w) callerA (.call (.ref fa) ⟨[.ref a],[]⟩) (fun r s'=>r=.ok (.ret (.bool true))/\OldK s₁.heap s'.heap/\s'.os=s₁.os/\AllBare s'.gens) s₁:=by
 have rv:=ziz hi
 have lenV:=hi.length
 have core:∀ H:Hp,Only H->SqL K H a (ns.map V.int)->HOk P w H s₁.heap->(∀ b,H b≠none->b=a)->(H a≠none->K.lookup a=none) ->
   codeAny (model P w) callerA (.call (.ref fa) ⟨[.ref a],[]⟩) (fun r s'=>r=.ok (.ret (.bool true))/\OldK s₁.heap s'.heap/\s'.os=s₁.os/\AllBare s'.gens) s₁:=by
  intro H hO hS hok hA hK
  have base_of:∀ {b:Addr} {o:Obj},s₁.heap.get? b=some o->H b=none->(ze1 s₁.heap H).get? b=some o:=fun e n=>zof e n
  have noA:∀ {b:Addr} {o:Obj} {es:Array DictEntry} {ep:Nat},s₁.heap.get? b=some o->o.data=.dict es ep->H b=none:=fun {b o es ep} e d=>by
   cases q:H b with
   |none=>rfl
   |some u =>
    have e':b=a:=hA b (by rw [q];simp)
    subst e'
    rw [ha] at e;cases e
    have d':Data.seq vs.toArray _=Data.dict es ep:=d
    cases d'
  have nsK:∀ {b:Addr} {m:Str->Option Value},s₁.heap.Ns b m->(ze1 s₁.heap H).Ns b m:=fun {b m} ⟨o,es,ep,e,d,r⟩=>⟨o,es,ep,base_of e (noA e d),d,r⟩
  have hKb:K.In (ze1 s₁.heap H):=fun b o e=>base_of (KX b o e) (by
   cases q:H b with
   |none=>rfl
   |some u =>
    have e':b=a:=hA b (by rw [q];simp)
    subst e'
    rw [hK (by rw [q];simp)] at e;cases e)
  have hM:Mod K mg (ze1 s₁.heap H):=⟨hKb,nsK hns,⟨mb,nsK hb,hbb⟩,let ⟨mc,h1,h2⟩:=hlim;⟨mc,nsK h1,h2⟩⟩
  have e0:zgT P w K mg (ze1 s₁.heap H) callerA [] s₁ H:=⟨rfl,hM,fun b o e=>zoK e,Nat.le_of_eq (zmC _ _),trivial,fun b hb=>absurd (show b∈([]:List Addr) from hb) (by simp),hok,.of_eq hg⟩
  refine codeAny_mono ((F _ hKb (nsK hns)).run callerA [] s₁ H ⟨[.ref a],[]⟩ [.ref a] [.ref a] _ _ hr e0 (hbind s₁ (.ref a)) (.cons rfl .nil) (hsp H hO hS)) fun r s' h=>?_
  cases r with
  |error e=>exact (hCX H e s' h).elim
  |ok fl =>
   cases fl with
   |next=>exact False.elim h
   |brk=>exact False.elim h
   |cont=>exact False.elim h
   |ret u =>
    obtain⟨v,H',os,bare,un,hok',r',q⟩:=h
    have q':v=.bl true:=q
    subst q'
    obtain rfl:u=Value.bool true:=r'
    refine⟨rfl,OldK.of_keep fun b o e=>?_,os,bare⟩
    cases q:H b with
    |none=>exact un.keep b o e q (by intro z;exact absurd (show b∈([]:List Addr) from z) (by simp)) (by simp)
    |some u =>
     rcases hO b with z|⟨ob,xs,z⟩
     ·rw [q] at z;cases z
     ·have z2:=un.frzs b ob _ z
      obtain⟨e1,_⟩:=hok b _ z
      obtain⟨e2,_⟩:=hok' b _ z2
      rw [e] at e1;cases e1
      exact e2
 cases hk:K.lookup a with
 |some o =>
  have e:=KX a o hk
  rw [ha] at e
  cases e
  refine core (fun _=>none) (fun _=>.inl rfl) (.inr ⟨_,vs.toArray,_,hk,rfl,rfl,rfl,by rw [List.size_toArray,lenV];exact hl,by simpa using rv⟩) (fun b u z=>by have z':(none:Option HO)=some u:=z;cases z') (fun b z=>absurd rfl z) fun z=>absurd rfl z
 |none =>
  refine core (fun b=>if b=a then some (.frz { cls:=.type "list",data:=.seq vs.toArray } (.lst (ns.map V.int))) else none) (fun b=>?_) (.inl (.inr ⟨{ cls:=.type "list",data:=.seq vs.toArray },if_pos rfl⟩)) (fun b u z=>?_) (fun b z=>?_) fun _=>hk
  ·by_cases hb:b=a
   ·exact .inr ⟨_,_,if_pos hb⟩
   ·exact .inl (if_neg hb)
  ·by_cases hb:b=a
   ·have z':=(if_pos hb).symm.trans z
    cases z'
    subst hb
    exact⟨ha,by rw [List.length_map];exact hl,vs,_,rv,ha⟩
   ·have z':=(if_neg hb).symm.trans z
    cases z'
  ·by_cases hb:b=a
   ·exact hb
   ·exact absurd (if_neg hb) z
def inClass (s:Stmt)(j:Nat):Stmt:=match s with
 |.ClassDef _ _ _ body _ _ _ _ _ _ _=>body.getD j (.Pass ⟨0,0,0,0⟩)
 |_=>.Pass ⟨0,0,0,0⟩
def zby (s:Stmt):Arguments:=match s with
 |.FunctionDef _ a _ _ _ _ _ _ _ _=>a
 |_=>{ posonlyargs:=[],args:=[],vararg:=none,kwonlyargs:=[],kw_defaults:=[],kwarg:=none,defaults:=[] }
def zaS (s:Stmt):List Stmt:=match s with
 |.FunctionDef _ _ b _ _ _ _ _ _ _=>b
 |_=>[]
def zE (s:Stmt):Scope:=match s with
 |.FunctionDef _ _ _ _ _ _ sc _ _ _=>sc
 |_=>{ kind:=.function,names:=[],isGenerator:=false,isCoroutine:=false }
abbrev CX0:CXT:=fun _ _ _ _ _ _=>False
abbrev E0:XK:=fun _ _ _=>False
theorem zoo {X:Cx}:Passes CX0 X E0:=fun _ _ _ _ _ _ _ h=>h.elim
structure Fun (K:PySem.W.Frag)(x qual:Str)(st:Stmt)(f:Addr)(fd:FuncData):Prop where
 ex:∃ (oc:Value) (od:Option Addr) (kV doc pm:Value) (an:Option Addr) (cdv ct:Value) (osl:Array (Option Value)),
  fd=PySem.W.fnOf x qual (zby st) (zaS st) (zE st) .none kV doc pm an cdv ct/\K.lookup f=some ⟨oc,od,.func fd,osl⟩/\PySem.W.codeIn K cdv qual=true
 kp:PySem.W.keepIn K (.ref f)=true
section
variable {P:Program}{w:World}{K:PySem.W.Frag}{mg:Str->Option Value}{base:Heap}
theorem Fun.ok {x qual:Str}{st:Stmt}{f:Addr}{fd:FuncData}{N ps:List Str}{k:Nat}{sp:Sp}(F:Fun K x qual st f fd)(S:zL N ps (zE st))(len:∀ vs H Q E,sp vs H Q E->vs.length=ps.length)
  (hbody:∀ (cdv:Value) (A:Around) (outer:List Env) (s:Shared) (H:Hp) (vs:List V) (Q:VK) (E:XK),zaB k (A.deeper (envOfC qual (zE st) s.heap.objs.size f cdv))->sp vs H Q E ->
   ∃ t,PSs (zeA CX0 P w K mg base N qual (zE st) f cdv A outer s H E).nox (zaS st) t/\t { nx:=fun _ H'=>Q .non H',rt:=Q } (start N vs) H):zW P w K mg base CX0 (k+1) f fd ps sp:=by
 obtain⟨oc,od,kV,doc,pm,an,cdv,ct,osl,rfl,lk,hcd⟩:=F.ex
 refine zor lk hcd S len fun A outer s H vs Q E hr hsp=>?_
 obtain⟨t,h,q⟩:=hbody cdv A outer s H vs Q E hr hsp
 exact⟨t,h.nox,q⟩
theorem Fun.binds {x qual:Str}{st:Stmt}{f:Addr}{fd:FuncData}{ps:List Str}(F:Fun K x qual st f fd)
  (h:∀ (kV doc pm:Value) (an:Option Addr) (cdv ct:Value) (us:List Value),us.length=ps.length->bindArgs (PySem.W.fnOf x qual (zby st) (zaS st) (zE st) .none kV doc pm an cdv ct) ⟨us,[]⟩=pure (ps.zip us)):Binds K fd ps []:=by
 obtain⟨oc,od,kV,doc,pm,an,cdv,ct,osl,rfl,lk,hcd⟩:=F.ex
 exact .all (h kV doc pm an cdv ct)
theorem zho {x qual:Str}{st:Stmt}{f:Addr}{oc:Value}{od an:Option Addr}{osl:Array (Option Value)}{kV doc pm cdv ct:Value}(l:K.lookup f=some ⟨oc,od,.func (PySem.W.fnOf x qual (zby st) (zaS st) (zE st) .none kV doc pm an cdv ct),osl⟩)
  (c:PySem.W.codeIn K cdv qual=true) (k:PySem.W.keepIn K (.ref f)=true):Fun K x qual st f (PySem.W.fnOf x qual (zby st) (zaS st) (zE st) .none kV doc pm an cdv ct):=⟨⟨oc,od,kV,doc,pm,an,cdv,ct,osl,rfl,l,c⟩,k⟩
end
theorem zot {A:Around}{k:Nat}(hr:zaB k A):A.units+1<cLine:=Nat.lt_of_le_of_lt (Nat.add_le_add_left (by decide:1<=64) _) hr.units
section
variable {X:Cx}
end
section
variable {κ:Type}[DecidableEq κ]
def zci (kvs:List (κ×V))(k:κ):Option V:=(kvs.find? fun kv=>decide (kv.1=k)).map (·.2)
def putK (kvs:List (κ×V))(k:κ)(v:V):List (κ×V) :=
 if (kvs.any fun kv=>decide (kv.1=k))=true then kvs.map (fun kv=>if kv.1=k then (kv.1,v) else kv) else kvs++[(k,v)]
theorem zjq {k:κ}:zci ([]:List (κ×V)) k=none:=rfl
theorem zdX {p:κ×V}{r:List (κ×V)}{k:κ}(e:p.1=k):zci (p::r) k=some p.2:=by simp [zci,List.find?_cons,e]
theorem zd5 {p:κ×V}{r:List (κ×V)}{k:κ}(e:¬ p.1=k):zci (p::r) k=zci r k:=by simp [zci,List.find?_cons,e]
theorem zfg (k:κ):∀ kvs:List (κ×V),(kvs.any fun kv=>decide (kv.1=k))=(zci kvs k).isSome
 |[]=>rfl
 |p::r=>by
  rw [List.any_cons]
  by_cases e:p.1=k
  ·simp only [zdX e,decide_eq_true e,Bool.true_or,Option.isSome_some]
  ·rw [zd5 e,decide_eq_false e,Bool.false_or];exact zfg k r
theorem zgz (kvs:List (κ×V))(k:κ)(v:V):(putK kvs k v).length<=kvs.length+1:=by
 unfold putK
 split
 ·rw [List.length_map];omega
 ·rw [List.length_append,List.length_cons,List.length_nil];omega
theorem zdd.isSome_eq {o:Option V}{u:Option Value}(r:zdd o u):o.isSome=u.isSome:=by
 cases o with
 |none=>cases u with
  |none=>rfl
  |some _=>exact (show False from r).elim
 |some _=>cases u with
  |none=>exact (show False from r).elim
  |some _=>rfl
theorem KV.val {kvs:List (κ×V)}{vs:List (κ×Value)}(r:KV kvs vs)(k:κ):zdd (zci kvs k) (valueAt vs k):=by
 unfold KV at r
 induction r with
 |nil=>exact True.intro
 |@cons p q ps qs h t ih =>
  obtain⟨h1,h2⟩:=h
  by_cases e:p.1=k
  ·have e':q.1=k:=h1.symm.trans e
   have b:valueAt (q::qs) k=some q.2:=by simp [valueAt,List.find?_cons,e']
   rw [zdX e,b];exact h2
  ·have e':¬ q.1=k:=fun z=>e (h1.trans z)
   have b:valueAt (q::qs) k=valueAt qs k:=by simp [valueAt,List.find?_cons,e']
   rw [zd5 e,b];exact ih
theorem KV.any {kvs:List (κ×V)}{vs:List (κ×Value)}(r:KV kvs vs)(k:κ):(kvs.any fun kv=>decide (kv.1=k))=vs.any fun kv=>decide (kv.1=k):=by
 unfold KV at r
 induction r with
 |nil=>rfl
 |cons h t ih=>rw [List.any_cons,List.any_cons,ih,h.1]
theorem KV.repl {kvs:List (κ×V)}{vs:List (κ×Value)}(r:KV kvs vs)(k:κ){y:V}{u:Value}(ry:RelV y u) :
  KV (kvs.map fun kv=>if kv.1=k then (kv.1,y) else kv) (vs.map fun kv=>if kv.1=k then (kv.1,u) else kv):=by
 unfold KV at r ⊢
 induction r with
 |nil=>exact .nil
 |@cons p q ps qs h t ih =>
  rw [List.map_cons,List.map_cons]
  refine .cons ?_ ih
  obtain⟨h1,h2⟩:=h
  by_cases e:p.1=k
  ·rw [if_pos e,if_pos (h1.symm.trans e)];exact⟨h1,ry⟩
  ·rw [if_neg e,if_neg (fun z=>e (h1.trans z))];exact⟨h1,h2⟩
theorem KV.put {kvs:List (κ×V)}{vs:List (κ×Value)}(r:KV kvs vs)(k:κ){y:V}{u:Value}(ry:RelV y u):KV (putK kvs k y) (stored vs k u):=by
 unfold putK stored
 rw [r.any k]
 by_cases e:(vs.any fun kv=>decide (kv.1=k))=true
 ·rw [if_pos e,if_pos e];exact r.repl k ry
 ·rw [if_neg e,if_neg e];exact Paired.snoc r ⟨rfl,ry⟩
theorem KV.length {kvs:List (κ×V)}{vs:List (κ×Value)}(r:KV kvs vs):kvs.length=vs.length:=Paired.length r
end
theorem zlJ {P:Program}{w:World}{k:Key}{u:Value}(r:RelV (kV k) u):(zbi P w).is k u=true:=by
 cases k with
 |inl i=>obtain⟨t,e⟩:=(show ∃ t,u=Value.int i t from r);subst e;exact zkE P w i t
 |inr x=>obtain⟨t,e⟩:=(show ∃ t,u=Value.str x t from r);subst e;exact zkT P w x t
theorem ziI {P:Program}{w:World}:∀ {ks:List Key} {us:List Value},Vals (ks.map kV) us->ItemsAre (zbi P w) ks us
 |[],_,r=>by rw [List.map_nil] at r;cases r;exact .nil
 |k::ks,_,r=>by
  rw [List.map_cons] at r
  cases r with
  |cons h t=>exact .cons (zlJ h) (ziI t)
abbrev KT (H:Hp):List (List Key×V)->List (List Key×Addr×Value)->Prop:=Paired fun p q=>p.1=q.1/\H q.2.1=some (.tup (p.1.map kV))/\RelV p.2 q.2.2
theorem KT.val {H:Hp}{kvs:List (List Key×V)}{xs:List (List Key×Addr×Value)}(r:KT H kvs xs)(k:List Key):zdd (zci kvs k) ((atKey xs k).map (·.2)):=by
 induction r with
 |nil=>exact True.intro
 |@cons p q ps qs h t ih =>
  obtain⟨h1,_,h2⟩:=h
  by_cases e:p.1=k
  ·have e':q.1=k:=h1.symm.trans e
   have b:atKey (q::qs) k=some q.2:=by simp [atKey,List.find?_cons,e']
   rw [zdX e,b];exact h2
  ·have e':¬ q.1=k:=fun z=>e (h1.trans z)
   have b:atKey (q::qs) k=atKey qs k:=by simp [atKey,List.find?_cons,e']
   rw [zd5 e,b];exact ih
theorem KT.repl {H:Hp}{kvs:List (List Key×V)}{xs:List (List Key×Addr×Value)}(r:KT H kvs xs)(k:List Key){y:V}{u:Value}(ry:RelV y u) :
  KT H (kvs.map fun kv=>if kv.1=k then (kv.1,y) else kv) (xs.map (putAt k u)):=by
 induction r with
 |nil=>exact .nil
 |@cons p q ps qs h t ih =>
  rw [List.map_cons,List.map_cons]
  refine .cons ?_ ih
  obtain⟨h1,h2,h3⟩:=h
  unfold putAt
  by_cases e:p.1=k
  ·rw [if_pos e,if_pos (h1.symm.trans e)];exact⟨h1,h2,ry⟩
  ·rw [if_neg e,if_neg (fun z=>e (h1.trans z))];exact⟨h1,h2,h3⟩
theorem KT.put {H:Hp}{kvs:List (List Key×V)}{xs:List (List Key×Addr×Value)}(r:KT H kvs xs)(k:List Key){b:Addr}{y:V}{u:Value}(hb:H b=some (.tup (k.map kV)))(ry:RelV y u) :
  KT H (putK kvs k y) (storedH xs k b u):=by
 have e:(kvs.any fun kv=>decide (kv.1=k))=(atKey xs k).isSome:=by
  rw [zfg,(r.val k).isSome_eq,Option.isSome_map]
 unfold putK storedH
 rw [e]
 by_cases q:(atKey xs k).isSome=true
 ·rw [if_pos q,if_pos q];exact r.repl k ry
 ·rw [if_neg q,if_neg q];exact Paired.snoc r ⟨rfl,hb,ry⟩
theorem KT.keeps {H H':Hp}{kvs:List (List Key×V)}{xs:List (List Key×Addr×Value)}(r:KT H kvs xs)(ht:∀ b ys,H b=some (.tup ys)->H' b=some (.tup ys)):KT H' kvs xs :=
 Paired.mapP r fun _ _ z=>⟨z.1,ht _ _ z.2.1,z.2.2⟩
section
variable {P:Program}{w:World}{H:Hp}{h:Heap}{a:Addr}
theorem zow {u:HO}(ok:HOk P w H h)(e:Rd H a u):zaA P w H h a u:=e.ok ok
theorem zlC {kvs:List (Key×V)}(ok:HOk P w H h)(e:Rd H a (.dK kvs)):kvs.length<=sizeLine/\(a==sysModules)=false/\∃ vs,KV kvs vs/\h.DictOf (zbi P w) a vs :=
 show zaA P w H h a (.dK kvs) from zow ok e
theorem zsb {kvs:List (Key×V)}(ok:HOk P w H h)(e:H a=some (.dK kvs)):kvs.length<=sizeLine/\(a==sysModules)=false/\∃ vs,KV kvs vs/\h.DictOf (zbi P w) a vs:=zlC ok (.inl e)
theorem zkt {ks:List Key}(ok:HOk P w H h)(e:H a=some (.tup (ks.map kV))):(tupleKind (zbi P w)).is h ks a:=by
 obtain⟨_,its,r,o,h1,h2,n,h3⟩:=(show zaA P w H h a (.tup (ks.map kV)) from ok a _ e)
 exact⟨o,its.toArray,n,h1,h2,h3,by simpa using ziI r⟩
theorem zlR {kvs:List (List Key×V)}(ok:HOk P w H h)(e:Rd H a (.dT kvs)):kvs.length<=sizeLine/\(a==sysModules)=false /\
  ∃ xs,KT H kvs xs/\h.DictOfH (tupleKind (zbi P w)) a xs:=by
 obtain⟨z,y,xs,r,o,es,ep,h1,h2,h3,h4,h5⟩:=(show zaA P w H h a (.dT kvs) from zow ok e)
 refine⟨z,y,xs,r,o,es,ep,h1,h2,h3,h4,fun x hx=>?_,h5⟩
 have all:∀ {l:List (List Key×V)} {m:List (List Key×Addr×Value)},KT H l m->∀ x∈m,(tupleKind (zbi P w)).is h x.1 x.2.1:=by
  intro l m q
  induction q with
  |nil=>intro x hx;exact nomatch hx
  |@cons p q ps qs hq t ih =>
   intro x hx
   rcases List.mem_cons.mp hx with e|hx
   ·subst e
    exact zkt ok (by rw [<- hq.1];exact hq.2.1)
   ·exact ih x hx
 exact all r x hx
theorem zsX {kvs:List (List Key×V)}(ok:HOk P w H h)(e:H a=some (.dT kvs)):kvs.length<=sizeLine/\(a==sysModules)=false /\
  ∃ xs,KT H kvs xs/\h.DictOfH (tupleKind (zbi P w)) a xs:=zlR ok (.inl e)
end
def zer (H:Hp)(a:Addr)(y:V)(r:Option V):Prop :=
 (∃ kvs k,Rd H a (.dK kvs)/\y=kV k/\r=zci kvs k)\/∃ kvs k b,Rd H a (.dT kvs)/\y=.ref b/\H b=some (.tup (k.map kV))/\r=zci kvs k
def zf8 (H:Hp)(a:Addr)(y v:V)(H':Hp):Prop :=
 (∃ kvs k,H a=some (.dK kvs)/\y=kV k/\kvs.length<sizeLine/\H'=upd H a (.dK (putK kvs k v))) \/
 ∃ kvs k b,H a=some (.dT kvs)/\y=.ref b/\H b=some (.tup (k.map kV))/\kvs.length<sizeLine/\H'=upd H a (.dT (putK kvs k v))
theorem zer.k {H:Hp}{a:Addr}{kvs:List (Key×V)}{k:Key}(e:H a=some (.dK kvs)):zer H a (kV k) (zci kvs k):=.inl ⟨kvs,k,.inl e,rfl,rfl⟩
theorem zer.t {H:Hp}{a b:Addr}{kvs:List (List Key×V)}{k:List Key}(e:H a=some (.dT kvs))(eb:H b=some (.tup (k.map kV))):zer H a (.ref b) (zci kvs k):=.inr ⟨kvs,k,b,.inl e,rfl,eb,rfl⟩
theorem zf8.k {H:Hp}{a:Addr}{kvs:List (Key×V)}{k:Key}{v:V}(e:H a=some (.dK kvs))(hl:kvs.length<sizeLine):zf8 H a (kV k) v (upd H a (.dK (putK kvs k v))):=.inl ⟨kvs,k,e,rfl,hl,rfl⟩
theorem zf8.t {H:Hp}{a b:Addr}{kvs:List (List Key×V)}{k:List Key}{v:V}(e:H a=some (.dT kvs))(eb:H b=some (.tup (k.map kV)))(hl:kvs.length<sizeLine) :
  zf8 H a (.ref b) v (upd H a (.dT (putK kvs k v))):=.inr ⟨kvs,k,b,e,rfl,eb,hl,rfl⟩
section
variable {X:Cx}{pins:List (Addr×Obj)}{σ:St}{H:Hp}{s:Shared}{a:Addr}{y v:V}{u r:Value}{o:Option V}{A:Around}{E:Value->Shared->Prop}
theorem Inv.big (I:Inv X pins σ H s):sysModules<s.heap.objs.size:=by
 have h:mainGlobals<s.heap.objs.size:=(I.mod.glob.keeps I.bk).lt
 exact Nat.lt_trans (by decide) h
theorem zmw {Q:Value->Shared->Prop}(hu:A.units+1<cLine)(I:Inv X pins σ H s)(g:zer H a y (some v))(ry:RelV y u)(h:∀ w' s',Inv X pins σ H s'->RelV v w'->Q w' s') :
  wpAny (model X.prog X.w) A (getItem (.ref a) u) Q E s:=by
 rcases g with ⟨kvs,k,e,ey,l⟩|⟨kvs,k,b,e,ey,eb,l⟩
 ·subst ey
  obtain⟨z,hd,vs,rel,dd⟩:=zlC I.hok e
  obtain⟨w',hw,rw'⟩:=zdd.some_of (v:=v) (o:=valueAt vs k) (by rw [l];exact rel.val k)
  exact wpAny_getItem_of (zlJ ry) dd.mapOf hw (h w' _ (I.tok _) rw')
 ·subst ey
  cases (show u=Value.ref b from ry)
  obtain⟨z,hd,xs,rel,dd⟩:=zlR I.hok e
  obtain⟨w',hw,rw'⟩:=zdd.some_of (v:=v) (o:=(atKey xs k).map (·.2)) (by rw [l];exact rel.val k)
  obtain⟨p,hp,hp2⟩:=Option.map_eq_some_iff.mp hw
  refine wpAny_getItem_heap (tupleKind_room_in1 hu) (zkt I.hok eb) dd hp ?_
  rw [hp2]
  exact h w' _ (I.tok _) rw'
theorem zlu {h':Heap}{t':Nat}{ob:HO}(I:Inv X pins σ H s)(mu:Mut (H a))(hs:Heap.SameBut a s.heap h')(he:∃ q,h'.get? a=some q)(new:zaA X.prog X.w (upd H a ob) h' a ob) :
  Inv X pins σ (upd H a ob) { s with heap:=h',toks:=t' } :=
 I.write (x:=a) (e:=a) mu (.inl rfl) (fun b q hb z=>(hs.2 b hb).trans z) he new
theorem zrc {P:Program}{w:World}{H':Hp}{h':Heap}{kvs:List (Key×V)}{vs:List (Key×Value)}(z:kvs.length<=sizeLine)(hd:(a==sysModules)=false)(rel:KV kvs vs)(dd:h'.DictOf (zbi P w) a vs) :
  zaA P w H' h' a (.dK kvs):=⟨z,hd,vs,rel,dd⟩
theorem znc {H':Hp}{Q:Unit->Shared->Prop}(hu:A.units+1<cLine)(I:Inv X pins σ H s)(g:zf8 H a y v H')(ry:RelV y u)(rv:RelV v r)(h:∀ s',Inv X pins σ H' s'->Q () s') :
  wpAny (model X.prog X.w) A (setItem (.ref a) u r) Q E s:=by
 rcases g with ⟨kvs,k,e,ey,l,eH⟩|⟨kvs,k,b,e,ey,eb,l,eH⟩
 ·subst ey eH
  obtain⟨z,hd,vs,rel,dd⟩:=zsb I.hok e
  have hz:vs.length<=sizeLine:=by rw [<- rel.length];exact z
  have hl:(putK kvs k v).length<=sizeLine:=by have:=zgz kvs k v;omega
  refine wpAny_setItem_pairs (hsz:=hz) (zlJ ry) dd fun h' dd' hs=>h _ ?_
  have he:∃ q,h'.get? a=some q:=let ⟨q,_,_,hq,_⟩:=dd';⟨q,hq⟩
  exact zlu I (by rw [e];exact True.intro) hs he (zrc hl hd (rel.put k rv) dd')
 ·subst ey eH
  cases (show u=Value.ref b from ry)
  obtain⟨z,hd,xs,rel,dd⟩:=zsX I.hok e
  have hz:xs.length<=sizeLine:=by rw [<- Paired.length rel];exact z
  have hl:(putK kvs k v).length<=sizeLine:=by have:=zgz kvs k v;omega
  refine wpAny_setItem_heap (hsz:=hz) (tupleKind_room_in1 hu) (zkt I.hok eb) dd fun h' dd' hs=>h _ ?_
  obtain⟨q,es,ep,hq,h2,h3,h4,_,h5⟩:=dd'
  refine zlu I (by rw [e];exact True.intro) hs ⟨q,hq⟩ ⟨hl,hd,_,(rel.put k eb rv).keeps fun c ys ec=>?_,q,es,ep,hq,h2,h3,h4,h5⟩
  rw [zX (zdQ ec e (fun z=>nomatch z))]
  exact ec
end
section
variable {X:Cx}{pins:List (Addr×Obj)}{σ:St}{H:Hp}{s:Shared}{a:Addr}{kvs:List (Key×V)}{k:Key}{u:Value}{A:Around}{E:Value->Shared->Prop}
end
def znY (i:Expr):Prop:=∀ ov iv,subscripted i false ov iv=operate [ov,iv] (getItem ov iv)
theorem zpe {prog:Program}{w:World}{A:Around}{E:Value->Shared->Prop}{s:Shared}{env:Env}{value slice:Expr}{pos:Pos}{T id:String}{Q:Value->Shared->Prop}
  (hl:typeLookup (.type T) "__getitem__"=pure (some (.builtin id))) (hs:znY slice)
  (h:wpAny (model prog w) A (eval value env) (fun o s₁=>wpAny (model prog w) A (eval slice env) (fun i s₂=>s₂.TypeIs o T/\wpAny (model prog w) A (getItem o i) Q E s₂) E s₁) E s) :
  wpAny (model prog w) A (eval (.Subscript value slice pos) env) Q E s:=by
 refine Subscript_ (wpAny_mono h (fun o s₁ h₁=>wpAny_mono h₁ (fun i s₂ h₂=>?_) fun _ _ x=>x) fun _ _ x=>x)
 obtain⟨hT,h₂⟩:=h₂
 unfold subscriptTail
 refine wpAny_bind ?_
 rw [getitemInPython_of_ne hT.not_modules]
 refine wpAny_bind (wpAny_specialOf hT hl ?_)
 have fin:wpAny (model prog w) A (subscripted slice false o i) (fun r s₃=>wpAny (model prog w) A (letTemporaryGo value o r >>= fun _=>pure r) Q E s₃) E s₂:=by
  rw [hs o i]
  exact wpAny_operating (wpAny_mono h₂ (fun r s₃ h₃=>wpAny_bind (wpAny_letTemporaryGo (wpAny_pure h₃))) fun _ _ x=>x)
 first
  |exact wpAny_pure (wpAny_bind fin)
  |exact wpAny_bind (wpAny_pure (wpAny_bind fin))
  |exact wpAny_bind fin
theorem zkU {X:Cx}{pins:List (Addr×Obj)}{σ:St}{H:Hp}{s:Shared}{a:Addr}{y:V}{o:Option V}(I:Inv X pins σ H s)(g:zer H a y o):s.TypeIs (.ref a) "dict":=by
 rcases g with ⟨kvs,k,e,_,_⟩|⟨kvs,k,b,e,_,_,_⟩
 ·obtain⟨_,_,vs,_,dd⟩:=zlC I.hok e
  exact dd.typeIs
 ·obtain⟨_,_,xs,_,dd⟩:=zlR I.hok e
  exact dd.typeIs
def zs8 (td ty:TE):TE:=fun σ H Q=>td σ H fun x H1=>ty σ H1 fun y H2=>∃ a v,x=.ref a/\zer H2 a y (some v)/\Q v H2
def zse (td ty tv:TE):TS:=fun D σ H=>tv σ H fun v H1=>td σ H1 fun x H2=>ty σ H2 fun y H3=>∃ a H4,x=.ref a/\zf8 H3 a y v H4/\D.nx σ H4
section
variable {X:Cx}{o i e value:Expr}{pos pos' tpos:Pos}{td ty tv:TE}
theorem zpI (hu:X.A.units+1<cLine)(ho:PE X o td)(hi:PE X i ty)(hs:znY i):PE X (.Subscript o i pos) (zs8 td ty):=by
 intro pins s σ H Q I h
 refine zpe PySem.F.slot_dict_getitem.lookup hs (thn (ho pins s σ H _ I h) fun u s1 ⟨x,H1,I1,rx,q1⟩=>thn (hi pins s1 σ H1 _ I1 q1) fun iv s2 ⟨y,H2,I2,ry,a,v,ex,g,q2⟩=>?_)
 subst ex
 obtain rfl:u=Value.ref a:=rx
 exact⟨zkU I2 g,zmw hu I2 g ry fun w' s3 I3 rw'=>⟨v,H2,I3,rw',q2⟩⟩
theorem zpc (hu:X.A.units+1<cLine)(ho:PE X o td)(hi:PE X i ty)(hv:PE X value tv)(hs:swapsWith value (some (.Subscript o i pos')) pos.line X.env=pure false) :
  PS X (.Assign [.Subscript o i pos'] value pos) (zse td ty tv):=by
 intro pins s σ H D I h
 refine wpAny_Assign_Subscript (thn (hv pins s σ H _ I h) fun r s1 ⟨v,H1,I1,rv,q1⟩=>thn (ho pins s1 σ H1 _ I1 q1) fun u s2 ⟨x,H2,I2,rx,q2⟩=>thn (hi pins s2 σ H2 _ I2 q2) fun iv s3 ⟨y,H3,I3,ry,a,H4,ex,g,q3⟩=>?_) hs
 subst ex
 obtain rfl:u=Value.ref a:=rx
 exact znc hu I3 g ry rv fun s4 I4=>⟨σ,H4,I4,q3⟩
end
theorem zno {P:Program}{w:World}{H:Hp}(h:Heap)(hb:sysModules<h.objs.size):zaA P w H (h.push { cls:=.type "dict",data:=.dict #[] }) h.objs.size (.dK []) :=
 ⟨Nat.zero_le _,beq_eq_false_iff_ne.mpr (Ne.symm (Nat.ne_of_lt hb)),[],.nil,Heap.DictOf.new h⟩
def zrN:TE:=fun _ H Q=>∀ p,H p=none->Q (.ref p) (upd H p (.dK []))
section
variable {X:Cx}{pos:Pos}
theorem zns:PE X (.Dict [] [] pos) zrN:=fun pins s σ H Q I h =>
 wpAny_Dict_empty ⟨.ref s.heap.objs.size,_,I.laid (a:=s.heap.objs.size) (o:=.dK []) (t':=s.toks) (fun _ _ q=>Heap.get?_push_of_some _ q) (Nat.le_refl _) (zno s.heap I.big),rfl,h _ (I.hok.fresh (Nat.le_refl _))⟩
end
section
variable {X:Cx}{pins:List (Addr×Obj)}{σ:St}{H:Hp}{s:Shared}{a:Addr}{y d:V}{u r:Value}{o:Option V}{A:Around}{E:Value->Shared->Prop}
end
section
variable {X:Cx}{o e f:Expr}{apos cpos:Pos}{td ty tx:TE}
end
section
variable {X:Cx}{pins:List (Addr×Obj)}{σ:St}{H:Hp}{s:Shared}{a:Addr}{kvs:List (Key×V)}{A:Around}{E:Value->Shared->Prop}
end
section
variable {X:Cx}{pins:List (Addr×Obj)}{σ:St}{H:Hp}{s:Shared}{a:Addr}{y:V}{u:Value}{A:Around}{E:Value->Shared->Prop}
end
end L2
namespace My
def Bd (n:Nat)(x:Int):Prop:=x.natAbs<2 ^ n
theorem Bd.mono {m n:Nat}{x:Int}(h:Bd m x)(hmn:m<=n):Bd n x:=Nat.lt_of_lt_of_le h (Nat.pow_le_pow_right (by decide) hmn)
theorem Bd.add {n:Nat}{x y:Int}(h:Bd n x)(h':Bd n y):Bd (n+1) (x+y):=by
 unfold Bd at *;rw [Nat.pow_succ];omega
theorem Bd.sub {n:Nat}{x y:Int}(h:Bd n x)(h':Bd n y):Bd (n+1) (x-y):=by
 unfold Bd at *;rw [Nat.pow_succ];omega
theorem Bd.mul {m n:Nat}{x y:Int}(h:Bd m x)(h':Bd n y):Bd (m+n) (x*y):=by
 unfold Bd at *;rw [Int.natAbs_mul,Nat.pow_add];exact Nat.mul_lt_mul'' h h'
theorem Bd.of_le {n:Nat}{x y:Int}(h:Bd n y)(h':x.natAbs<=y.natAbs):Bd n x:=Nat.lt_of_le_of_lt h' h
theorem Bd.dvd {n:Nat}{x y:Int}(h:Bd n y)(h0:y≠0)(d:x ∣ y):Bd n x :=
 h.of_le (Nat.le_of_dvd (by omega) (Int.natAbs_dvd_natAbs.mpr d))
theorem Bd.fdiv {n:Nat}{x y:Int}(h:Bd n x):Bd n (x.fdiv y):=h.of_le (Int.natAbs_fdiv_le_natAbs x y)
theorem Bd.lit {n:Nat}{x:Int}(h:x.natAbs<2 ^ 200)(hn:200<=n):Bd n x:=Bd.mono (m:=200) h hn
theorem zne (a b:Int):Int.gcd b (a.fmod b)=Int.gcd a b:=by
 have e:a.fmod b=a-b*a.fdiv b:=by have:=Int.mul_fdiv_add_fmod a b;omega
 rw [e,Int.gcd_sub_mul_left_right,Int.gcd_comm]
theorem zkH {a b:Int}(h:b≠0):(a.fmod b).natAbs<b.natAbs:=by
 rcases Int.lt_or_gt_of_ne h with h1|h1
 ·have e:(-(-a)).fmod (-(-b))=-((-a).fmod (-b)):=Int.neg_fmod_neg (-a) (-b)
  rw [Int.neg_neg,Int.neg_neg] at e
  have h2:=Int.fmod_nonneg_of_pos (-a) (b:=-b) (by omega)
  have h3:=Int.fmod_lt_of_pos (-a) (b:=-b) (by omega)
  omega
 ·have:=Int.fmod_nonneg_of_pos a h1
  have:=Int.fmod_lt_of_pos a h1
  omega
def gd (t b:Int):Int:=if b<0 then -((Int.gcd t b:Nat):Int) else ((Int.gcd t b:Nat):Int)
def frT (t b:Int):Int:=t.fdiv (gd t b)
def frB (t b:Int):Int:=b.fdiv (gd t b)
theorem zoE {t b:Int}(h:b≠0):gd t b≠0:=by
  have:Int.gcd t b≠0:=fun e=>h (Int.gcd_eq_zero_iff.mp e).2
  unfold gd;split<;>omega
theorem zkC (t b:Int):gd t b ∣ t:=by
 unfold gd;split
 ·exact Int.neg_dvd.mpr (Int.gcd_dvd_left ..)
 ·exact Int.gcd_dvd_left ..
theorem zf6 (t b:Int):gd t b ∣ b:=by
 unfold gd;split
 ·exact Int.neg_dvd.mpr (Int.gcd_dvd_right ..)
 ·exact Int.gcd_dvd_right ..
theorem zla (t b:Int):frT t b*gd t b=t:=Int.fdiv_mul_cancel (zkC t b)
theorem zid (t b:Int):frB t b*gd t b=b:=Int.fdiv_mul_cancel (zf6 t b)
theorem zng (t b:Int):frT t b*b=frB t b*t:=by
 have h1:=zla t b
 have h2:=zid t b
 generalize frT t b=x at *
 generalize frB t b=y at *
 generalize gd t b=g at *
 subst h1 h2
 rw [Int.mul_comm y g,<- Int.mul_assoc,Int.mul_comm (x*g) y]
theorem zoH {t b:Int}(h:b≠0):1<=frB t b:=by
  have h2:=zid t b
  have h3:gd t b≠0:=zoE h
  have h4:0<b->0<gd t b:=by
    intro hb;unfold gd at *;split<;>omega
  have h5:b<0->gd t b<0:=by
    intro hb;unfold gd at *;split<;>omega
  generalize frB t b=y at *
  generalize gd t b=g at *
  rcases Int.lt_or_gt_of_ne h with hb|hb
  · have hg:=h5 hb
    rcases Int.lt_or_le y 1 with hy|hy
    · have:0<=y*g:=Int.mul_nonneg_of_nonpos_of_nonpos (by omega) (by omega)
      omega
    · exact hy
  · have hg:=h4 hb
    rcases Int.lt_or_le y 1 with hy|hy
    · have:y*g<=0:=Int.mul_nonpos_of_nonpos_of_nonneg (by omega) (by omega)
      omega
    · exact hy
theorem zrP {t b:Int}(h:b≠0):Int.gcd (frT t b) (frB t b)=1:=by
  have h0:0<Int.gcd t b:=Nat.pos_of_ne_zero fun e=>h (Int.gcd_eq_zero_iff.mp e).2
  have h1:=zla t b
  have h2:=zid t b
  have e:Int.gcd (frT t b*gd t b) (frB t b*gd t b)=Int.gcd (frT t b) (frB t b)*(gd t b).natAbs:=Int.gcd_mul_right ..
  rw [h1,h2] at e
  have e2:(gd t b).natAbs=Int.gcd t b:=by unfold gd;split<;>omega
  rw [e2] at e
  exact Nat.eq_of_mul_eq_mul_right h0 (by omega)
theorem zs7 {n:Nat}{t b:Int}(h:b≠0)(hb:Bd n b):Bd n (gd t b):=hb.dvd h (zf6 t b)
theorem zqD {n:Nat}{t b:Int}(hb:Bd n b):Bd n (frB t b):=hb.fdiv
theorem zp7 {n:Nat}{t b:Int}(hb:Bd n t):Bd n (frT t b):=hb.fdiv
open PySem PySem.Spec PyProof.Rows L2
def zsD (_ j:Int):Prop:=j≠0/\Bd 8000 j
def ztb (_ j:Int):Prop:=j≠0
theorem zhu {j:Int}(h:Bd 8000 j):j.natAbs.log2<9000:=by
 rcases Nat.eq_zero_or_pos j.natAbs with e|e
 ·rw [e];decide
 ·have:j.natAbs.log2<8000:=(Nat.log2_lt (Nat.ne_of_gt e)).mpr h
  omega
theorem zg7 {j:Int}(h:Bd 8000 j):Builtin.Int.intBits j<=2 ^ 20:=by
 unfold Builtin.Int.intBits
 split
 ·exact Nat.zero_le _
 ·have:=zhu h
  omega
section
variable {X:Cx}
theorem znz:OpR X (binaryOp .FloorDiv) (rI zsD fun i j=>.int (i.fdiv j)):=opI fun _ _ _ _ _ _ _ hc q=>floordiv_int hc.1 q (.inl (PyProof.noPylong_of_log2 (zhu hc.2)))
theorem zo2:OpR X (binaryOp .Mod) (rI ztb fun i j=>.int (i.fmod j)):=zpP
def rB0 (g:Bool->Bool->V):R2:=fun x y H Q=>∃ i j,x=.bl i/\y=.bl j/\Q (g i j) H
theorem zpw {i j:Int}{a b:Nat}{p1 p2 pos:Pos}(c:Int)(h:i ^ j.toNat=c)(h0:0<=j/\j<=1000000/\i.natAbs<2 ^ 64):PE X (.BinOp (.Constant (.int i) a p1) .Pow (.Constant (.int j) b p2) pos) (tC (.int c)):=by
 intro pins s σ H Q I q
 have q':Q (.int c) H:=q
 rw [<- h] at q'
 exact zoD zqQ zjm zjm pins s σ H Q I ⟨i,j,rfl,rfl,h0,q'⟩
def ztW:List V->Hp->VK->Prop:=fun xs H Q=>∃ i,xs=[.int i]/\Q (.int (i.natAbs:Int)) H
theorem zmI:zaZ X (.builtin "abs") ztW:=fun pins s σ H xs us Q I r h=>by
  obtain⟨i,e,q⟩:=h
  refine znl pins s σ H xs us Q I r ⟨i,e,?_⟩
  have:(if i<0 then -i else i)=(i.natAbs:Int):=by split<;>omega
  rw [this];exact q
def ztY (K:PySem.W.Frag):List V->Hp->VK->Prop:=fun xs H Q=>∃ p ys,xs=[.ref p]/\(SqL K H p ys\/SqT K H p ys)/\Q (.int ys.length) H
theorem zmH:zaZ X (.builtin "len") (ztY X.K):=zki
def zs4 (K:PySem.W.Frag):List V->Hp->VK->Prop:=fun xs H Q=>∃ p ys,xs=[.ref p]/\(SqL K H p ys\/SqT K H p ys)/\∀ l,H l=none->Q (.ref l) (upd H l (.lst ys))
theorem zlN:zaZ X (.type "list") (zs4 X.K):=zjN
theorem zsL {x:Str}{T:String}{pos:Pos}(hg:Gl X x)(hm:X.mg x=none)(hv:bootBuiltins x=some (.type T))(hn:x≠"__name__":=by decide)(hd:(x==("__debug__":Str))=false:=by decide):PE X (.Name x pos) (tC (.ty T)):=zpz (v:=.ty T) hg hm hv rfl hn hd
def zud (K:PySem.W.Frag):List V->Hp->VK->Prop:=fun xs H Q=>∃ x c t b,xs=[x,.ty c]/\zdf K H x t/\PySem.W.kitOne K t (.type c)=some b/\Q (.bl b) H
theorem zog:zaZ X (.builtin "isinstance") (zud X.K):=fun pins s σ H xs us Q I r h=>by
 obtain⟨x,c,t,b,rfl,ty,e,q⟩:=h
 obtain⟨u,w',rfl,ru,rw'⟩:=vals2 r
 cases rw'
 exact zmq I ru ty e fun tk=>⟨.bl b,H,I.tok _,rfl,q⟩
end
section
variable {X:Cx}{K:PySem.W.Frag}
end
structure Got (P:Program)(w:World)(K:PySem.W.Frag)(mg:Str->Option Value)(base:Heap)(k:Nat)(x:Str)(ps:List Str)(sp:Sp):Prop where
 ex:∃ f fd,zW P w K mg base CX0 k f fd ps sp/\Binds K fd ps []/\PySem.W.keepIn K (.ref f)=true/\mg x=some (.ref f)
theorem zqu {X:Cx}{k j:Nat}{x:Str}{ps:List Str}{sp:Sp}{p pos:Pos}{e:Expr}{es:List Expr}{t:TA}(G:Got X.prog X.w X.K X.mg X.base k x ps sp)(hr:zaB j X.A)(hk:k<=j)(hg:Gl X x)
  (ha:PA X (e::es) t) (hdb:(x==("__debug__":Str))=false:=by decide) (he:starEach (e::es) X.env=(false,eval e X.env)::starEach es X.env:=by rfl) (hpl:(backTo pos (starEach es X.env)).any (·.1)=false:=by rfl) :
  PE X (.Call (.Name x p) (e::es) [] pos) (zlV sp [] E0 t):=by
 intro pins s σ H Q I h
 obtain⟨f,fd,F,b,kp,m⟩:=G.ex
 exact zpK (F.mono hk) hr hg m kp b .nil zoo ha hdb he hpl pins s σ H Q I h
section
variable {nx:L2.St->Hp->Prop}{rt:VK}{bk ct:L2.St->Hp->Prop}{σ:L2.St}{H:Hp}{K:PySem.W.Frag}
end
section
variable {σ:L2.St}{H:Hp}{K:PySem.W.Frag}
def zt1:R2:=fun x y H Q=>y=.non/\Q (.bl (decide (x=.non))) H
def zs5:R2:=fun x y H Q=>y=.non/\Q (.bl (!decide (x=.non))) H
theorem zsO {X:Cx}:OpR X (compareOp .Is) zt1:=zqW
theorem zru {X:Cx}:OpR X (compareOp .IsNot) zs5:=zpk
end
theorem zdo {H:Hp}{p b:Addr}{o u:HO}(hp:H p=none)(h:H b=some u):upd H p o b=some u:=by
 rw [zX (zba h hp)];exact h
theorem zkR {prog:Program}{w:World}{A:Around}{R:Result->Shared->Prop}{s:Shared}{elt target iter:Expr}{ifs:List Expr}{scope:Scope}{pos:Pos}{it acc:Value}{env:Env}(I:Nat->Shared->Prop)
  (turn:∀ n s,I n s->wpAny (model prog w) A (pyNext it) (fun r s₁=>match r with
   |none=>R (.ok .next) s₁
   |some v=>wpAny (model prog w) A (letOwnedTupleGo target it v) (fun _ s₁'=>wpAny (model prog w) A (assign target env v) (fun _ s₂ =>
     wpAny (model prog w) A (forIn ifs true fun c r=>if r=true then do let ok <- isTrue c env (eval c env);pure (ForInStep.yield ok) else pure (ForInStep.yield r)) (fun ok s₃ =>
      if ok=true then wpAny (model prog w) A (eval elt env) (fun x s₄ =>
       wpAny (model prog w) A (call (.builtin "list.append") [acc,x]) (fun _ s₅=>∃ m,m<n/\I m s₅) (fun _ _=>False) s₄) (fun _ _=>False) s₃
      else ∃ m,m<n/\I m s₃) (fun _ _=>False) s₂) (fun _ _=>False) s₁') (fun _ _=>False) s₁) (fun _ _=>False) s)
  (n:Nat) (h:I n s):codeAny (model prog w) A (.compLoop (.ListComp elt [⟨target,iter,ifs,0⟩] scope pos) 0 it acc env) R s:=by
 refine codeAny_loop rfl I (fun n s hI=>?_) n h
 show wpAny _ A ((compTurn (.ListComp elt [⟨target,iter,ifs,0⟩] scope pos) 0 it acc env).onRaise (fun x=>do noteFrame x env;theTreesLotGoes x)) _ _ s
 refine wpAny_noted ?_
 rw [compTurn_list]
 refine wpAny_bind (wpAny_standAt (wpAny_bind (wpAny_mono (turn n s hI) (fun r s₁ h₁=>?_) fun _ _ h'=>h'.elim)))
 cases r with
 |none=>exact wpAny_pure h₁
 |some v =>
  refine wpAny_bind (wpAny_mono h₁ (fun _ s₁' h₁'=>?_) fun _ _ h'=>h'.elim)
  refine wpAny_bind (wpAny_mono h₁' (fun _ s₂ h₂=>wpAny_bind (wpAny_mono h₂ (fun ok s₃ h₃=>?_) fun _ _ h'=>h'.elim)) fun _ _ h'=>h'.elim)
  cases ok with
  |false=>exact wpAny_pure ⟨rfl,h₃⟩
  |true =>
   exact wpAny_bind (wpAny_bind (wpAny_mono h₃ (fun x s₄ h₄=>wpAny_bind (wpAny_mono h₄ (fun _ s₅ h₅=>wpAny_pure (wpAny_pure ⟨rfl,h₅⟩)) fun _ _ h'=>h'.elim)) fun _ _ h'=>h'.elim))
def inner (X:Cx)(sc:Scope)(N:List Str)(cl:List (Str×Addr))(C:Addr)(s₀:Shared)(H₀:Hp)(ex:List Addr):Cx :=
  { X with N:=N,s₀:=s₀,H₀:=H₀,env:=compEnvC sc cl C X.env,outer:=X.stack,ex:=ex,fn:=fun x=>sc.names.lookup x==some .cell,pn:=[] }
def PFs (X:Cx)(ifs:List Expr)(t:TT):Prop :=
 ∀ (pins:List (Addr×Obj)) (s:Shared) (σ:L2.St) (H:Hp) (Q:Bool->Hp->Prop),Inv X pins σ H s->t σ H Q ->
  wpAny (model X.prog X.w) X.A (forIn ifs true fun c r=>if r=true then do let ok <- isTrue c X.env (eval c X.env);pure (ForInStep.yield ok) else pure (ForInStep.yield r)) (TP X pins σ Q) X.xe s
def zsU:TT:=fun _ H Q=>Q true H
theorem zrl {X:Cx}:PFs X [] zsU:=fun _ _ _ H _ I h=>wpAny_tests_nil ⟨H,I,h⟩
def zfW (X:Cx)(sc:Scope):List Str->List Nat->Prop
 |[],[]=>True
 |x::xs,j::js=>X.N[j]?=some x/\sc.names.lookup x=some .free/\X.env.kindOf x=some .cell/\zfW X sc xs js
 |_,_=>False
def zdi (P:Str->Prop):List (Str×NameKind)->Prop
 |[]=>True
 |(n,.free)::r=>P n/\zdi P r
 |_::r=>zdi P r
theorem zdi.of {P:Str->Prop}:∀ {l:List (Str×NameKind)},zdi P l->∀ y∈l,y.2=.free->P y.1
  |(n,k)::r,h,y,hy,e=>by
    rcases List.mem_cons.mp hy with rfl|hy
    · dsimp only at e;subst e;exact h.1
    · refine zdi.of (l:=r) ?_ y hy e
      cases k<;>first|exact h.2|exact h
def cst (own:List Str)(fv:List Nat)(σ:L2.St):L2.St:=List.replicate own.length none++fv.map fun j=>(σ[j]?).join
def Agr:L2.St->L2.St->Prop
 |[],[]=>True
 |none::r,_::s=>Agr r s
 |some v::r,some w::s=>v=w/\Agr r s
 |_,_=>False
theorem Agr.len:∀ {a b:L2.St},Agr a b->b.length=a.length
  |[],[],_=>rfl
  |none::r,_::s,h=>congrArg (· + 1) (Agr.len (a:=r) (b:=s) h)
  |some v::r,some w::s,h=>congrArg (· + 1) (Agr.len (a:=r) (b:=s) h.2)
theorem Agr.get:∀ {a b:L2.St},Agr a b->∀ (i:Nat) (v:V),a[i]?=some (some v)->b[i]?=some (some v)
 |none::r,_::s,h,i,v,e=>by
  cases i with
  |zero=>simp at e
  |succ i=>simpa using Agr.get (a:=r) (b:=s) h i v (by simpa using e)
 |some v'::r,some w::s,h,i,v,e=>by
  cases i with
  |zero=>simp at e;subst e;simp [h.1]
  |succ i=>simpa using Agr.get (a:=r) (b:=s) h.2 i v (by simpa using e)
def tLC (own:List Str)(fv:List Nat)(wi:TI)(g:TG)(tc:TT)(te:TE):TE:=fun σ H Q=>wi σ H fun J H1=>∀ p,H1 p=none ->
 ∃ W:Nat->Nat->Hp->Prop,(∃ m,W 0 m (upd H1 p (.lst [])))/\∀ i m H2,W i m H2 ->
  (J.stop i H2/\Q (.ref p) H2)\/(J.go i H2/\∀ x H',J.yld i H2 x H'->g x (cst own fv σ) H' fun σ2 H3=>Agr (cst own fv σ) σ2/\tc σ2 H3 fun b H4 =>
   if b=true then te σ2 H4 fun y H5=>∃ ys,H5 p=some (.lst ys)/\ys.length<sizeLine/\∃ m',m'<m/\W (i+1) m' (upd H5 p (.lst (ys++[y])))
   else ∃ m',m'<m/\W (i+1) m' H4)
theorem zkP {env:Env}{n:Str}{c:Addr}(h:env.cells.lookup n=some c):cellOf env n=pure c:=by
 unfold cellOf;rw [h]
theorem zeV {env:Env}:∀ (names:List (Str×NameKind)) (cs:List (Str×Addr)),(∀ y∈names,y.2=.free->∃ c,env.cells.lookup y.1=some c)->(∀ x c,cs.lookup x=some c->env.cells.lookup x=some c) ->
    ∃ cl,(forIn names cs fun (x:Str×NameKind) (r:List (Str×Addr))=>if (x.2==NameKind.free)=true then do let a <- cellOf env x.1;pure (ForInStep.yield ((x.1,a)::r)) else pure (ForInStep.yield r))=(pure cl:Sem (List (Str×Addr))) /\
      (∀ x c,cl.lookup x=some c->env.cells.lookup x=some c)/\(∀ x,(cs.lookup x).isSome=true->(cl.lookup x).isSome=true)/\∀ y∈names,y.2=.free->(cl.lookup y.1).isSome=true
  |[],cs,_,h2=>⟨cs,rfl,h2,fun _ h=>h,fun _ h=>nomatch h⟩
  |(n,k)::r,cs,h1,h2=>by
    rw [List.forIn_cons]
    by_cases hk:k=.free
    · subst hk
      obtain⟨c,hc⟩:=h1 (n,.free) List.mem_cons_self rfl
      obtain⟨cl,e,a1,a2,a3⟩:=zeV (env:=env) r ((n,c)::cs) (fun y hy=>h1 y (List.mem_cons_of_mem _ hy)) (fun x d hx=>by
        rw [List.lookup_cons] at hx
        by_cases hxn:x=n
        · subst hxn;simp at hx;subst hx;exact hc
        · have:(x==n)=false:=by simpa using hxn
          rw [this] at hx;exact h2 x d hx)
      refine⟨cl,?_,a1,fun x hx=>a2 x ?_,fun y hy e'=>?_⟩
      · simp only [beq_self_eq_true,if_true,zkP hc]
        simpa using e
      · rw [List.lookup_cons];split<;>simp_all
      · rcases List.mem_cons.mp hy with rfl|hy
        · exact a2 _ (by simp [List.lookup_cons])
        · exact a3 y hy e'
    · have hb:(k==NameKind.free)=false:=by simpa using hk
      obtain⟨cl,e,a1,a2,a3⟩:=zeV (env:=env) r cs (fun y hy=>h1 y (List.mem_cons_of_mem _ hy)) h2
      refine⟨cl,?_,a1,a2,fun y hy e'=>?_⟩
      · simp only [hb,Bool.false_eq_true,if_false]
        simpa using e
      · rcases List.mem_cons.mp hy with rfl|hy
        · exact absurd e' hk
        · exact a3 y hy e'
theorem zhj {env:Env}{sc:Scope}(h:∀ y∈sc.names,y.2=.free->∃ c,env.cells.lookup y.1=some c) :
  ∃ cl,closureFor sc env=pure cl/\(∀ x c,cl.lookup x=some c->env.cells.lookup x=some c)/\∀ y∈sc.names,y.2=.free->(cl.lookup y.1).isSome=true:=by
 obtain⟨cl,e,a1,_,a3⟩:=zeV (env:=env) sc.names [] h (fun x c hx=>by simp at hx)
 refine⟨cl,?_,a1,a3⟩
 unfold closureFor
 have e2:=e
 first
  |exact e2
  |(show (do let cs <- forIn sc.names [] _;pure cs)=_;rw [show (forIn sc.names [] _:Sem (List (Str×Addr)))=pure cl from e2];rfl)
  |simpa using e2
theorem zdc {env:Env}{x:Str}:∀ {names:List (Str×NameKind)},(names.map fun (n,k)=>if (k==NameKind.free&&env.scope.kind==.function&&env.kindOf n==some .cell) then (n,NameKind.cell) else (n,k)).lookup x =
    (names.lookup x).map fun k=>if (k==NameKind.free&&env.scope.kind==.function&&env.kindOf x==some .cell) then NameKind.cell else k
  |[]=>rfl
  |(n,k)::r=>by
    have ih:=zdc (env:=env) (x:=x) (names:=r)
    rw [List.map_cons]
    by_cases hx:x=n
    · subst hx
      dsimp only
      split<;>simp_all [List.lookup_cons]
    · have hb:(x==n)=false:=by simpa using hx
      dsimp only
      split<;>(rw [List.lookup_cons,List.lookup_cons,hb];exact ih)
theorem mem_of_lookup {β:Type}{x:Str}{k:β}:∀ {l:List (Str×β)},l.lookup x=some k->(x,k)∈l
 |(n,b)::r,h=>by
  rw [List.lookup_cons] at h
  by_cases hx:x=n
  ·subst hx;simp at h;subst h;exact List.mem_cons_self
  ·have hb:(x==n)=false:=by simpa using hx
   rw [hb] at h
   exact List.mem_cons_of_mem _ (mem_of_lookup h)
theorem za7:∀ (names:List (Str×NameKind)) (n:Nat) (acc:List (Str×Addr)),cellsFrom n names acc=cellsFrom n names []++acc
 |[],_,_=>rfl
 |(x,k)::r,n,acc=>by
  unfold cellsFrom
  split
  ·rw [za7 r (n+1) ((x,n)::acc),za7 r (n+1) [(x,n)],List.append_assoc];rfl
  ·exact za7 r n acc
theorem zdL:∀ {names:List (Str×NameKind)} {n:Nat} {x:Str} {c:Addr},(x,c)∈cellsFrom n names []->(x,NameKind.cell)∈names
 |(y,k)::r,n,x,c,h=>by
  unfold cellsFrom at h
  split at h
  ·rename_i hk
   rw [za7] at h
   rcases List.mem_append.mp h with h|h
   ·exact List.mem_cons_of_mem _ (zdL h)
   ·have e:(x,c)=(y,n):=by simpa using h
    cases e
    rw [show k=NameKind.cell by simpa using hk];exact List.mem_cons_self
  ·exact List.mem_cons_of_mem _ (zdL h)
theorem zdI:∀ {names:List (Str×NameKind)} {n:Nat} {x:Str},(x,NameKind.cell)∈names->((cellsFrom n names []).lookup x).isSome=true
 |(y,k)::r,n,x,h=>by
  unfold cellsFrom
  rcases List.mem_cons.mp h with e|h
  ·cases e
   rw [if_pos (by rfl),za7,List.lookup_append]
   cases (cellsFrom (n+1) r []).lookup y with
   |some c=>rfl
   |none=>simp
  ·have ih:=zdI (n:=n) h
   have ih':=zdI (n:=n+1) h
   split
   ·rw [za7,List.lookup_append]
    obtain⟨c,hc⟩:=Option.isSome_iff_exists.mp ih'
    rw [hc];rfl
   ·exact ih
theorem zl3 {M:Model}{A:Around}{E:Value->Shared->Prop}{s:Shared}{scope:Scope}{globals:Addr}{closure:List (Str×Addr)}{qual:Str}{func:Option Addr}{code:Value}{env:Env}{Q:Env->Shared->Prop}
    (hQ:Q (newEnv scope s.heap.objs.size globals (cellsFrom (s.heap.objs.size+1) scope.names closure) qual func code (some env) builtinsNs) { s with heap:=pushCells (s.heap.push { cls:=.type "dict",data:=.dict #[] }) scope.names }) :
    wpAny M A (newFunctionEnv scope globals closure [] qual func code (some env)) Q E s:=by
  simp only [newFunctionEnv,Option.isSome_some,if_true]
  refine wpAny_bind (wpAny_alloc ?_)
  refine wpAny_bind (wpAny_layCells _ (fun name kind cells=>by cases hkc:kind==NameKind.cell<;>simp [hkc]) _ _ _ _ ?_)
  rw [show ({ s with heap:=s.heap.push { cls:=.type "dict",data:=.dict #[] } }:Shared).heap.objs.size=s.heap.objs.size+1 from Heap.size_push ..]
  rw [List.forIn_nil]
  exact wpAny_bind (wpAny_pure (wpAny_pure hQ))
section
variable {X:Cx}{sc:Scope}{tg iter elt:Expr}{ifs:List Expr}{own free:List Str}{fv:List Nat}{wi:TI}{g:TG}{tc:TT}{te:TE}{pos:Pos}
theorem zoz {σ:L2.St}:∀ {free:List Str} {fv:List Nat},zfW X sc free fv->∀ (k:Nat) (x:Str) (v:V),free[k]?=some x->(fv.map fun j=>(σ[j]?).join)[k]?=some (some v) ->
  ∃ j:Nat,X.N[j]?=some x/\σ[j]?=some (some v)/\sc.names.lookup x=some .free/\X.env.kindOf x=some .cell
 |x'::xs,j::js,h,k,x,v,e1,e2=>by
  cases k with
  |zero =>
   simp at e1 e2
   subst e1
   refine⟨j,h.1,?_,h.2.1,h.2.2.1⟩
   cases q:σ[j]? with
   |none=>rw [q] at e2;simp at e2
   |some o=>rw [q] at e2;simp at e2;rw [e2]
  |succ k=>exact zoz (free:=xs) (fv:=js) h.2.2.2 k x v (by simpa using e1) (by simpa using e2)
 |[],[],_,k,x,v,e1,_=>by simp at e1
theorem zm4:∀ {free:List Str} {fv:List Nat},zfW X sc free fv->fv.length=free.length
  |[],[],_=>rfl
  |_::_,_::_,h=>congrArg (· + 1) (zm4 h.2.2.2)
theorem zhv {RR:Value->Addr->Result->Shared->Prop}(hcalm:X.calm=true)(hxe:X.xe=fun _ _=>False)(hkind:sc.kind=.function)(hcell:∀ y∈sc.names,y.2=.cell->sc.names.lookup y.1=some .cell)
    (hfr:zdi (fun x=>X.env.kindOf x=some .cell) sc.names) (hfv:zfW X sc free fv)
    (hg:∀ cl C s₀ H₀ ex,PG (inner X sc (own++free) cl C s₀ H₀ ex) tg g) (ht:∀ cl C s₀ H₀ ex,PFs (inner X sc (own++free) cl C s₀ H₀ ex) ifs tc) (he:∀ cl C s₀ H₀ ex,PE (inner X sc (own++free) cl C s₀ H₀ ex) elt te)
    {pins:List (Addr×Obj)} {s2:Shared} {σ:L2.St} {H2:Hp} {it:Addr} {fp:List Addr} {tn:Nat->Heap->Prop} {J:It} {Q:VK} (I2:Inv X pins σ H2 s2) (T:Turn X.prog X.w X.K tg J fp it tn) (st2:tn 0 s2.heap) (f2:∀ b∈fp,zff X pins H2 b)
    (h:∀ p,H2 p=none->∃ W:Nat->Nat->Hp->Prop,(∃ m,W 0 m (upd H2 p (.lst [])))/\∀ i m H2,W i m H2 ->
      (J.stop i H2/\Q (.ref p) H2)\/(J.go i H2/\∀ x H',J.yld i H2 x H'->g x (cst own fv σ) H' fun σ2 H3=>Agr (cst own fv σ) σ2/\tc σ2 H3 fun b H4 =>
        if b=true then te σ2 H4 fun y H5=>∃ ys,H5 p=some (.lst ys)/\ys.length<sizeLine/\∃ m',m'<m/\W (i+1) m' (upd H5 p (.lst (ys++[y])))
        else ∃ m',m'<m/\W (i+1) m' H4))
    {cl:List (Str×Addr)} (hcl1:∀ x c,cl.lookup x=some c->X.env.cells.lookup x=some c) (hcl2:∀ y∈sc.names,y.2=.free->(cl.lookup y.1).isSome=true)
    (hRR:∀ (p C:Addr) (m:Str->Option Value) (H':Hp) (s':Shared),s'.heap.Ns C m->Inv X pins σ H' s'->H' C=none->C≠X.env.locals->X.s₀.heap.objs.size<=C->(∀ x c,X.env.cells.lookup x=some c->c≠C)->(∀ q∈X.pn++pins,q.1≠C)->Q (.ref p) H' ->
      RR (.ref p) C (.ok .next) s') :
    wpAny (model X.prog X.w) X.A (newList []) (fun acc s3=>wpAny (model X.prog X.w) X.A (newFunctionEnv sc X.env.globals cl [] X.env.qual none .none (some X.env)) (fun cenv s4 =>
      codeAny (model X.prog X.w) X.A (.compStart (.ListComp elt [⟨tg,iter,ifs,0⟩] sc pos) 0 (.ref it) acc { cenv with scope:=relabel sc X.env }) (RR acc cenv.locals) s4) X.xe s3) X.xe s2:=by
  rw [hxe]
  refine wpAny_newObj_type ?_
  have I3:Inv X pins σ (upd H2 s2.heap.objs.size (.lst [])) { s2 with heap:=s2.heap.push { cls:=.type "list",data:=.seq ([]:List Value).toArray } }:=I2.lnew (t':=s2.toks) .nil (Nat.zero_le _)
  generalize hs3:({ s2 with heap:=s2.heap.push { cls:=.type "list",data:=.seq ([]:List Value).toArray } }:Shared)=s3 at I3 ⊢
  have hp:H2 s2.heap.objs.size=none:=I2.fresh
  obtain⟨W,⟨m0,w0⟩,turn⟩:=h s2.heap.objs.size hp
  generalize hH3:upd H2 s2.heap.objs.size (.lst [])=H3 at I3 w0 ⊢
  have hk3:∀ b o,s2.heap.get? b=some o->s3.heap.get? b=some o:=fun b o e=>by rw [<- hs3];exact Heap.get?_push_of_some _ e
  have hz3:s3.heap.objs.size=s2.heap.objs.size+1:=by rw [<- hs3];exact Heap.size_push ..
  have st3:tn 0 s3.heap:=T.keep _ _ _ st2 fun b _ o e=>hk3 b o e
  have hfpo:∀ b∈fp,∃ o,s3.heap.get? b=some o:=fun b hb=>let ⟨o,e,_⟩:=T.obj _ _ st3 b hb;⟨o,e⟩
  have hfpn:∀ b∈fp,b≠s2.heap.objs.size:=fun b hb e=>by
    obtain⟨o,e',_⟩:=T.obj _ _ st2 b hb
    have:=Heap.lt_size e'
    rw [e] at this;exact Nat.lt_irrefl _ this
  have f3:∀ b∈fp,H3 b=none:=fun b hb=>by rw [<- hH3,zX (hfpn b hb)];exact (f2 b hb).1
  refine zl3 ?_
  have cok:=cellsFrom_ok sc.names (s3.heap.push { cls:=.type "dict",data:=.dict #[] }) (s3.heap.objs.size+1) [] ⟨fun _ _ hm=>(nomatch hm),List.Pairwise.nil⟩ (by rw [Heap.size_push];exact Nat.le_refl _)
  rw [Heap.size_push] at cok
  have hns1:(pushCells (s3.heap.push { cls:=.type "dict",data:=.dict #[] }) sc.names).Ns s3.heap.objs.size (fun _=>none):=(Heap.Ns.new s3.heap (.type "dict")).keeps (pushCells_keeps _ _)
  have old:∀ b o,s3.heap.get? b=some o->(pushCells (s3.heap.push { cls:=.type "dict",data:=.dict #[] }) sc.names).get? b=some o:=fun b o e=>pushCells_keeps _ _ b o (Heap.get?_push_of_some _ e)
  rw [za7]
  have fmem:∀ {x c},(x,c)∈cellsFrom (s3.heap.objs.size+1) sc.names []->sc.names.lookup x=some .cell:=fun {x c} h=>hcell (x,.cell) (zdL h) rfl
  have fhas:∀ {x},sc.names.lookup x=some .cell->∃ c,(cellsFrom (s3.heap.objs.size+1) sc.names []).lookup x=some c:=fun {x} h=>Option.isSome_iff_exists.mp (zdI (mem_of_lookup h))
  generalize pushCells (s3.heap.push { cls:=.type "dict",data:=.dict #[] }) sc.names=h1 at cok hns1 old ⊢
  generalize cellsFrom (s3.heap.objs.size+1) sc.names []=F at cok fmem fhas ⊢
  have flt:∀ {x c},F.lookup x=some c->s3.heap.objs.size<c:=fun {x c} e=>(cok.empty x c (mem_of_lookup e)).2
  have cl':∀ {x c},(F++cl).lookup x=some c->F.lookup x=some c\/(F.lookup x=none/\cl.lookup x=some c):=fun {x c} e=>by
    rw [List.lookup_append] at e
    cases hF:F.lookup x with
    |some c'=>rw [hF] at e;exact .inl e
    |none=>rw [hF] at e;exact .inr ⟨rfl,e⟩
  have hC0:H3 s3.heap.objs.size=none:=I3.fresh
  have hlow:X.s₀.heap.objs.size<=s3.heap.objs.size:=I3.sz
  have hloc:X.env.locals<s3.heap.objs.size:=I3.lt
  have hcells:∀ x c,X.env.cells.lookup x=some c->c<s3.heap.objs.size:=fun x c e=>by
    obtain⟨v,o,ho,_⟩:=I3.cell x c e
    exact Heap.lt_size ho
  have YOk:(inner X sc (own++free) (F++cl) s3.heap.objs.size s3 H3 fp).Ok:={
    mod:=I3.ok.mod
    kind:=by show (relabel sc X.env).kind=.function;exact hkind
    glob:=I3.ok.glob
    blt:=I3.ok.blt
    above:=Nat.le_refl _
    inj:=fun x y c hx hy=>by
      rcases cl' hx with h|⟨_,h⟩<;>rcases cl' hy with h'|⟨_,h'⟩
      · exact name_of_addr cok.apart (mem_of_lookup h) (mem_of_lookup h')
      · exact absurd (Nat.lt_trans (flt h) (hcells y c (hcl1 y c h'))) (Nat.lt_irrefl _)
      · exact absurd (Nat.lt_trans (flt h') (hcells x c (hcl1 x c h))) (Nat.lt_irrefl _)
      · exact I3.ok.inj x y c (hcl1 x c h) (hcl1 y c h')
    has:=fun x hx=>by
      show ∃ c,(F++cl).lookup x=some c
      rw [List.lookup_append]
      cases hF:F.lookup x with
      |some c=>exact⟨c,rfl⟩
      |none =>
      show ∃ c,cl.lookup x=some c
      have e : (sc.names.lookup x).map (fun k => if (k == NameKind.free && X.env.scope.kind == .function && X.env.kindOf x == some .cell) then NameKind.cell else k) = some .cell ∨
          (sc.names.lookup x).map (fun k=>if (k==NameKind.free&&X.env.scope.kind==.function&&X.env.kindOf x==some .cell) then NameKind.cell else k)=some .free:=by
        have:=@zdc X.env x sc.names
        rcases hx with hx|hx
        · exact .inl (this.symm.trans hx)
        · exact .inr (this.symm.trans hx)
      cases q:sc.names.lookup x with
      |none=>rw [q] at e;simp at e
      |some k =>
        have hm:=mem_of_lookup q
        by_cases hkf:k=.free
        · subst hkf
          exact Option.isSome_iff_exists.mp (hcl2 (x,.free) hm rfl)
        · have hkc : k ≠ .cell := fun ek => by
            subst ek
            obtain⟨c,hc⟩:=fhas q
            rw [hF] at hc;cases hc
          rw [q] at e
          have hb:(k==NameKind.free)=false:=by simpa using hkf
          simp only [Option.map_some,hb,Bool.false_and,Bool.false_eq_true,if_false,Option.some.injEq] at e
          rcases e with e|e
          · exact absurd e hkc
          · exact absurd e hkf
    cab:=fun x c hx hc=>by
      obtain⟨c',hc'⟩:=fhas (show sc.names.lookup x=some .cell from beq_iff_eq.mp hx)
      rcases cl' hc with h|⟨h,_⟩
      · exact Nat.le_of_lt (flt h)
      · rw [hc'] at h;cases h
    hd:=I3.ok.hd
    frames:=I3.ok.frames
    stk:=.inl rfl
    exf:=fun b hb=>⟨fun e=>by obtain⟨o,e'⟩:=hfpo b hb;have:=Heap.lt_size e';rw [e] at this;exact Nat.lt_irrefl _ this,fun x c hx=>by
      rcases cl' hx with h|⟨_,h⟩
      · obtain⟨o,e'⟩:=hfpo b hb
        exact Nat.ne_of_gt (Nat.lt_trans (Heap.lt_size e') (flt h))
      · exact (f2 b hb).2.2.2.2.1 x c (hcl1 x c h)⟩
    bs:=I3.bs
    bsz:=Nat.le_trans I3.ok.bsz I3.sz
    noex:=fun b o hb hm=>by
      rcases (f2 b hm).2.2.2.1 with hx|hx
      · exact I3.ok.noex b o hb hx
      · exact Nat.lt_irrefl _ (Nat.lt_of_lt_of_le (Nat.lt_of_lt_of_le (Heap.lt_size hb) I3.ok.bsz) hx)
    exfs:=fun b hb hm=>by
      rcases List.mem_cons.mp (I3.stkSub b hm) with e|e
      · exact (f2 b hb).2.1 e
      · exact (f2 b hb).2.2.1 e
    funs:=I3.stack
    frf:=I3.stkFree }
  have hlen0:(cst own fv σ).length=(own++free).length:=by
    unfold cst;rw [List.length_append,List.length_append,List.length_replicate,List.length_map,zm4 hfv]
  have I4:∀ tk,Inv (inner X sc (own++free) (F++cl) s3.heap.objs.size s3 H3 fp) [] (cst own fv σ) H3 { s3 with heap:=h1,toks:=tk }:=fun tk=>{
    ok:=YOk
    os:=rfl
    bare:=I3.bare
    base:=Un.kept old
    loc:=by
      refine⟨_,hns1,fun i x v hN hσ _=>?_⟩
      have hN':(own++free)[i]?=some x:=hN
      have hσ':(List.replicate own.length none++fv.map fun j=>(σ[j]?).join)[i]?=some (some v):=hσ
      by_cases hi:i<own.length
      · rw [List.getElem?_append_left (by rw [List.length_replicate];exact hi)] at hσ'
        rw [List.getElem?_replicate] at hσ'
        split at hσ'<;>simp at hσ'
      · rw [List.getElem?_append_right (by omega)] at hN'
        rw [List.getElem?_append_right (by rw [List.length_replicate];omega),List.length_replicate] at hσ'
        obtain⟨j,hj,hσj,hsx,hkx⟩:=zoz hfv _ x v hN' hσ'
        obtain⟨m,_,hall⟩:=I3.loc
        obtain⟨u,ru,lk⟩:=hall j x v hj hσj (.inr (.inl hkx))
        refine⟨u,ru,.inr ⟨?_,?_⟩⟩
        · have:=@zdc X.env x sc.names
          rw [hsx] at this
          have e2:Env.kindOf (inner X sc (own++free) (F++cl) s3.heap.objs.size s3 H3 fp).env x=(sc.names.map fun (n,k)=>if (k==NameKind.free&&X.env.scope.kind==.function&&X.env.kindOf n==some .cell) then (n,NameKind.cell) else (n,k)).lookup x:=rfl
          rw [e2,this]
          simp only [Option.map_some]
          split
          · exact .inl rfl
          · exact .inr rfl
        · rcases lk with ⟨hl,_⟩|⟨_,c,hc,hcell'⟩
          · rw [hkx] at hl;cases hl
          · obtain⟨c',hc'⟩:=Option.isSome_iff_exists.mp (hcl2 (x,.free) (mem_of_lookup hsx) rfl)
            have:=hcl1 x c' hc'
            rw [hc] at this
            cases this
            refine⟨c,?_,?_⟩
            · show (F++cl).lookup x=some c
              rw [List.lookup_append]
              cases hF:F.lookup x with
              |none=>exact hc'
              |some c2=>have:=fmem (mem_of_lookup hF);rw [hsx] at this;cases this
            obtain⟨o,ho,hd⟩:=hcell'
            exact⟨o,old _ _ ho,hd⟩
    cell:=fun x c hx=>by
      rcases cl' hx with h|⟨_,h⟩
      · exact⟨none,(cok.empty x c (mem_of_lookup h)).1⟩
      · obtain⟨v,o,ho,hd⟩:=I3.cell x c (hcl1 x c h)
        exact⟨v,o,old _ _ ho,hd⟩
    free:=hC0
    freeC:=fun x c hx=>by
      rcases cl' hx with h|⟨_,h⟩
      · exact I3.hok.fresh (Nat.le_of_lt (flt h))
      · exact I3.freeC x c (hcl1 x c h)
    pin:=fun q hq=>nomatch hq
    hok:=I3.hok.kept old
    len:=hlen0 }
  have back:∀ (m:Str->Option Value) (H':Hp) (s':Shared),s'.heap.Ns s3.heap.objs.size m->Inv (inner X sc (own++free) (F++cl) s3.heap.objs.size s3 H3 fp) [] (cst own fv σ) H' s'->Q (.ref s2.heap.objs.size) H'->RR (.ref s2.heap.objs.size) s3.heap.objs.size (.ok .next) s':=fun m H' s' hm IY q=>by
    have u1:Un (frs X.stack) fp H3 H' s3.heap s'.heap:=IY.base
    have IX:Inv X pins σ H' s':=I3.call' (ch:=fp) (IY.os) u1 IY.hok IY.bare fun b hb=>⟨(f2 b hb).2.2.2.1,(f2 b hb).2.1,(f2 b hb).2.2.2.2.1,(f2 b hb).2.2.2.2.2⟩
    refine hRR _ _ m H' s' hm IX IY.free (Nat.ne_of_gt hloc) hlow (fun x c hx=>Nat.ne_of_lt (hcells x c hx)) (fun q' hq=>?_) q
    have:=(I3.pin q' hq).1
    exact Nat.ne_of_lt (Heap.lt_size this)
  have stat:∀ {H':Hp},(∀ b∈fp,H' b=none)->∀ b∈fp,zff (inner X sc (own++free) (F++cl) s3.heap.objs.size s3 H3 fp) [] H' b:=fun hn b hb =>
    ⟨hn b hb,(YOk.exf b hb).1,YOk.exfs b hb,.inl hb,(YOk.exf b hb).2,fun q hq=>nomatch hq⟩
  have hYxe:(inner X sc (own++free) (F++cl) s3.heap.objs.size s3 H3 fp).xe=fun _ _=>False:=hxe
  have loop:∀ tk,codeAny (model X.prog X.w) X.A (.compLoop (.ListComp elt [⟨tg,iter,ifs,0⟩] sc pos) 0 (.ref it) (.ref s2.heap.objs.size) (compEnvC sc (F++cl) s3.heap.objs.size X.env)) (RR (.ref s2.heap.objs.size) s3.heap.objs.size) { s3 with heap:=h1,toks:=tk }:=fun tk=>by
    refine zkR (fun n s'=>∃ i H',Inv (inner X sc (own++free) (F++cl) s3.heap.objs.size s3 H3 fp) [] (cst own fv σ) H' s'/\tn i s'.heap/\(∀ b∈fp,H' b=none)/\W i n H') ?_ m0 ⟨0,H3,I4 tk,T.keep _ _ _ st3 (fun b _ o e=>old b o e),f3,w0⟩
    rintro n s5 ⟨i,H5,I5,st5,fr5,w5⟩
    rcases turn i n H5 w5 with ⟨stop,q⟩|⟨go,step⟩
    · refine thn (T.done (inner X sc (own++free) (F++cl) s3.heap.objs.size s3 H3 fp) rfl rfl rfl hcalm i [] s5 _ H5 _ I5 (stat fr5) st5 stop) fun r s6 ⟨hr,I6⟩=>?_
      subst hr
      obtain⟨m,hm,_⟩:=I6.loc
      exact back m H5 s6 hm I6 q
    · refine thn (T.item (inner X sc (own++free) (F++cl) s3.heap.objs.size s3 H3 fp) rfl rfl rfl hcalm i [] s5 _ H5 _ I5 (stat fr5) st5 go) fun r s6 ⟨u,hr,h6⟩=>?_
      subst hr
      refine thn h6 fun _ s7 ⟨x,H7,I7,r7,y7,st7,fr7⟩=>?_
      have I7':=I7.pinned (stat fr7) (T.obj _ _ st7)
      have hg':=hg (F++cl) s3.heap.objs.size s3 H3 fp _ s7 _ H7 x u _ I7' r7 (step x H7 y7)
      have ht':=ht (F++cl) s3.heap.objs.size s3 H3 fp
      have he':=he (F++cl) s3.heap.objs.size s3 H3 fp
      have ap:MtM (inner X sc (own++free) (F++cl) s3.heap.objs.size s3 H3 fp) "list.append" zk6:=ziJ
      unfold PFs at ht'
      unfold PE at he'
      unfold MtM at ap
      rw [hYxe] at hg' ht' he' ap
      have again : ∀ {pl : List (Addr × Obj)} {σ8 : L2.St} {H8 : Hp} {s8 : Shared}, pl = zfX fp s7.heap → Inv (inner X sc (own ++ free) (F ++ cl) s3.heap.objs.size s3 H3 fp) ([] ++ pl) σ8 H8 s8 → Agr (cst own fv σ) σ8 → (∃ m', m' < n ∧ W (i + 1) m' H8) →
          ∃ m,m<n/\∃ i H',Inv (inner X sc (own++free) (F++cl) s3.heap.objs.size s3 H3 fp) [] (cst own fv σ) H' s8/\tn i s8.heap/\(∀ b∈fp,H' b=none)/\W i m H':=fun {pl σ8 H8 s8} hpl I8 ag ⟨m',hm,w8⟩=>by
        subst hpl
        refine⟨m',hm,i+1,H8,(I8.unpinned).weak ag.len.symm (fun j v e=>ag.get j v e),T.keep _ _ _ st7 fun b hb o e=>(I8.pin (b,o) (List.mem_append_right _ (List.mem_append_right _ (zdP hb e)))).1,fun b hb=>?_,w8⟩
        obtain⟨o,e,d⟩:=T.obj _ _ st7 b hb
        exact (I8.pin (b,o) (List.mem_append_right _ (List.mem_append_right _ (zdP hb e)))).2.1
      refine thn hg' fun _ s8 ⟨σ8,H8,I8,ag,q8⟩=>?_
      refine thn (ht' _ s8 σ8 H8 _ I8 q8) fun b s9 ⟨H9,I9,q9⟩=>?_
      cases b with
      |false =>
        rw [if_neg Bool.false_ne_true] at q9 ⊢
        exact again rfl I9 ag q9
      |true =>
        rw [if_pos rfl] at q9 ⊢
        refine thn (he' _ s9 σ8 H9 _ I9 q9) fun y s10 ⟨yv,H10,I10,ry,ys,hy,hlt,q10⟩=>?_
        refine thn (ap _ s10 σ8 H10 (.ref s2.heap.objs.size) [yv] (.ref s2.heap.objs.size) [y] (fun v H'=>v=.non/\H'=upd H10 s2.heap.objs.size (.lst (ys++[yv]))) I10 rfl (.cons ry .nil) ⟨_,ys,yv,rfl,rfl,hy,hlt,rfl,rfl⟩) fun z s11 ⟨v11,H11,I11,_,_,e11⟩=>?_
        subst e11
        exact again rfl I11 ag q10
  refine codeAny_compStart_list (loop _) (T.self _ 0 _ _ _ (T.keep _ _ _ st3 fun b _ o e=>old b o e) (loop _))
theorem ztu (hcalm:X.calm=true)(hxe:X.xe=fun _ _=>False)(hkind:sc.kind=.function)(hcell:∀ y∈sc.names,y.2=.cell->sc.names.lookup y.1=some .cell)(hnames:∀ y∈sc.names,y.2=.local->sc.names.lookup y.1=some .local)
  (hfr:zdi (fun x=>X.env.kindOf x=some .cell) sc.names) (hfv:zfW X sc free fv) (hi:PI X tg iter wi)
  (hg:∀ cl C s₀ H₀ ex,PG (inner X sc (own++free) cl C s₀ H₀ ex) tg g) (ht:∀ cl C s₀ H₀ ex,PFs (inner X sc (own++free) cl C s₀ H₀ ex) ifs tc) (he:∀ cl C s₀ H₀ ex,PE (inner X sc (own++free) cl C s₀ H₀ ex) elt te)
  (hs:∀ x,foldedSetIterable iter X.env x=pure x:=by intro _;rfl):PE X (.ListComp elt [⟨tg,iter,ifs,0⟩] sc pos) (tLC own fv wi g tc te):=by
 intro pins s σ H Q I q
 obtain⟨cl,hclos,hcl1,hcl2⟩:=zhj (env:=X.env) (sc:=sc) fun y hy e=>I.ok.has y.1 (.inl (hfr.of y hy e))
 rw [eval_ListComp]
 refine wpAny_comprehension_free (use:=none) rfl hs hclos hkind hnames (thn (hi pins s σ H _ I q) fun v s1 h1=>thn h1 fun itv s2 h2=>?_)
 obtain⟨it,fp,tn,J,H2,e,I2,T,st2,f2,q2⟩:=h2
 subst e
 refine zhv (RR:=fun acc C=>compPost (model X.prog X.w) X.A X.xe none (EP X pins σ Q) acc C) hcalm hxe hkind hcell hfr hfv hg ht he I2 T st2 f2 q2 hcl1 hcl2 ?_
 intro p C m H' s' hm I' hC hCl hC0 hCc hCp q'
 exact⟨m,hm,fun h' hs'=>⟨.ref p,H',I'.turned (t':=s'.toks) (fun b o hb e=>hs'.extBut b o hb e) hC hCl (.inr hC0) hCc hCp,rfl,q'⟩⟩
theorem zoO {i:Nat}{y:Str}{py spos:Pos}(hN:X.N.Nodup)(hy:X.N[i]?=some y)(hyl:X.env.scope.names.lookup y=some .local)(hcalm:X.calm=true)(hxe:X.xe=fun _ _=>False)(hkind:sc.kind=.function)(hcell:∀ y∈sc.names,y.2=.cell->sc.names.lookup y.1=some .cell)(hnames:∀ y∈sc.names,y.2=.local->sc.names.lookup y.1=some .local)
  (hfr:zdi (fun x=>X.env.kindOf x=some .cell) sc.names) (hfv:zfW X sc free fv) (hi:PI X tg iter wi)
  (hg:∀ cl C s₀ H₀ ex,PG (inner X sc (own++free) cl C s₀ H₀ ex) tg g) (ht:∀ cl C s₀ H₀ ex,PFs (inner X sc (own++free) cl C s₀ H₀ ex) ifs tc) (he:∀ cl C s₀ H₀ ex,PE (inner X sc (own++free) cl C s₀ H₀ ex) elt te)
  (hsw:swapsWith (.ListComp elt [⟨tg,iter,ifs,0⟩] sc pos) (some (.Name y py)) spos.line X.env=pure true:=by rfl)
  (hs:∀ x,foldedSetIterable iter X.env x=pure x:=by intro _;rfl):PS X (.Assign [.Name y py] (.ListComp elt [⟨tg,iter,ifs,0⟩] sc pos) spos) (znw (tLC own fv wi g tc te) (zB i)):=by
 intro pins s σ H D I q
 obtain⟨cl,hclos,hcl1,hcl2⟩:=zhj (env:=X.env) (sc:=sc) fun y hy e=>I.ok.has y.1 (.inl (hfr.of y hy e))
 rw [exec_Assign_Name_used _ _ _ _ hsw]
 refine wpAny_bind (wpAny_standAt (wpAny_bind ?_))
 show wpAny _ X.A (do let _ <- comprehension (.ListComp elt [⟨tg,iter,ifs,0⟩] sc pos) sc X.env _ (newList []) false (eval iter X.env) (some (assign (.Name y py) X.env))) _ _ s
 refine wpAny_bind (wpAny_mono (wpAny_comprehension_free (use:=some (assign (.Name y py) X.env)) (Q:=fun _ s'=>SP X pins D .next s') rfl hs hclos hkind hnames
  (thn (hi pins s σ H _ I q) fun v s1 h1=>thn h1 fun itv s2 h2=>?_)) (fun _ s' hq=>wpAny_pure (wpAny_pure hq)) fun _ _ e=>e)
 obtain⟨it,fp,tn,J,H2,e,I2,T,st2,f2,q2⟩:=h2
 subst e
 refine zhv (RR:=fun acc C=>compPost (model X.prog X.w) X.A X.xe (some (assign (.Name y py) X.env)) (fun _ s'=>SP X pins D .next s') acc C) (Q:=fun x H1=>zB i x σ H1 D.nx) hcalm hxe hkind hcell hfr hfv hg ht he I2 T st2 f2 q2 hcl1 hcl2 ?_
 intro p C m H' s' hm I' hC hCl hC0 hCc hCp q'
 show wpAny _ X.A (assign (.Name y py) X.env (.ref p)) _ _ _
 refine wpAny_assign_Name (ziw (v:=.ref p) I' hN hy (.inl hyl) rfl (fun s'' I'' hsb=>?_) (.inr hyl))
 obtain⟨a,hsb,ha⟩:=hsb
 have hCa:C≠a:=by
  rcases ha with rfl|ha
  ·exact hCl
  ·exact fun e=>hCc _ _ ha e.symm
 refine⟨m,hm.sameBut hsb hCa,fun h' hs'=>⟨_,H',I''.turned (t':=s''.toks) (fun b o hb e=>hs'.extBut b o hb e) hC hCl (.inr hC0) hCc hCp,q'⟩⟩
end
section
variable {σ:L2.St}{H:Hp}{K:PySem.W.Frag}
end
section
variable {X:Cx}{tg:Expr}
end
section
variable {X:Cx}{pins:List (Addr×Obj)}{σ:L2.St}{H:Hp}{s:Shared}
end
section
variable {X:Cx}{pins:List (Addr×Obj)}{σ:L2.St}{H:Hp}{s:Shared}
end
section
variable {X:Cx}
end
section
variable {X:Cx}
end
def hT (x1 z1 x2 z2 a b:Int):Int:=z1*(x2-x1)*b+(z2-z1)*(a-x1*b)
def hB (x1 x2 b:Int):Int:=(x2-x1)*b
section
variable {σ:L2.St}{H:Hp}
end
structure zh8 (P:Program)(w:World)(K:PySem.W.Frag)(mg:Str->Option Value)(base:Heap)(k:Nat)(x:Str)(sp:Sp):Prop where
 ex:∃ (C f:Addr) (fd:FuncData) (ps:List Str) (sp0:Sp),Mk K C f/\zW P w K mg base CX0 k f fd ps sp0/\Binds K fd ps []/\mg x=some (.ref C) /\
  ∀ vs H Q,sp vs H Q E0->∀ x dx,H x=none->H dx=none->dx≠x->sp0 (.ref x::vs) (upd (upd H dx (.own x)) x (.ins C dx [])) (fun v H2=>v=.non/\Q (.ref x) H2) E0
theorem zsr {X:Cx}{k j:Nat}{x:Str}{sp:Sp}{p pos:Pos}{e:Expr}{es:List Expr}{t:TA}(G:zh8 X.prog X.w X.K X.mg X.base k x sp)(hr:zaB j X.A)(hk:k+1<=j)(hg:Gl X x)
  (ha:PA X (e::es) t) (hdb:(x==("__debug__":Str))=false:=by decide) (he:starEach (e::es) X.env=(false,eval e X.env)::starEach es X.env:=by rfl) (hpl:(backTo pos (starEach es X.env)).any (·.1)=false:=by rfl) :
  PE X (.Call (.Name x p) (e::es) [] pos) (zlV sp [] E0 t):=by
 intro pins s σ H Q I h
 obtain⟨C,f,fd,ps,sp0,M,F,b,hm,imp⟩:=G.ex
 refine wpAny_Call_Name_kw (zeU I hg hm ?_ hdb)
 refine PySem.W.callWith_K (h₀:=X.base) I.ok.mod.kin M.kp (thn (ha pos pins s σ H _ I h) fun us s1 ⟨vs,H1,I1,r,q⟩=>⟨I1.kIn,?_⟩) he hpl
 have q':sp (vs++[]) H1 Q E0:=q
 rw [List.append_nil] at q'
 exact znW (dvs:=[]) (ds:=[]) M F (hr.mono hk) b .nil zoo I1 r fun x dx h1 h2 h3=>by rw [List.append_nil];exact imp vs H1 Q q' x dx h1 h2 h3
theorem zoQ {X:Cx}{x:Str}{n:Int}{pos:Pos}(hg:Gl X x)(hm:∃ t,X.mg x=some (.int n t))(hd:(x==("__debug__":Str))=false:=by decide):PE X (.Name x pos) (tC (.int n)):=by
 obtain⟨t,ht⟩:=hm
 exact zhD (v:=.int n) hg ht ⟨t,rfl⟩ hd
section
variable {σ:L2.St}{H:Hp}{K:PySem.W.Frag}
end
section
variable {X:Cx}{K:PySem.W.Frag}
theorem zqy {pins:List (Addr×Obj)}{σ:L2.St}{H:Hp}{s:Shared}{p:Addr}{its:List Value}(_:Inv X pins σ H s)(pl:PlainL s.heap p its.toArray) :
  p<s.heap.objs.size/\(s.heap.push { cls:=.type "list_iterator",data:=.fields #[.ref p,.int 0 0] }).IsListIter s.heap.objs.size p 0:=by
 obtain⟨o,ho,_⟩:=pl.isList
 exact⟨Heap.lt_size ho,_,Heap.get?_push_size _ rfl,rfl,rfl⟩
theorem zqP {H:Hp}{pins:List (Addr×Obj)}{σ:L2.St}{s:Shared}{h':Heap}{tk:Nat}(I:Inv X pins σ H s){o:Obj}(hk:∀ b u,b∉[s.heap.objs.size]->(s.heap.push o).get? b=some u->h'.get? b=some u) :
  Inv X pins σ H { s with heap:=h',toks:=tk }:=I.kept (t':=tk) fun d u e=>hk d u (fun hm=>by
   have h1:d=s.heap.objs.size:=by simpa using hm
   have h2:=Heap.lt_size e
   rw [h1] at h2
   exact Nat.lt_irrefl _ h2) (Heap.get?_push_of_some _ e)
def ztB (K:PySem.W.Frag):List V->Hp->VK->Prop:=fun xs H Q=>∃ (p:Addr) (bs:List Bool),xs=[.ref p]/\SqL K H p (bs.map V.bl)/\Q (.bl (bs.all id)) H
theorem znQ {bs:List Bool}{its:List Value}(rv:Vals (bs.map V.bl) its){i:Nat}{v:Value}(h:its.toArray[i]?=some v):v=.bool (bs.getD i false):=by
 rw [<- Array.getElem?_toList] at h
 have hi:i<its.length:=by
  rcases Nat.lt_or_ge i its.length with g|g
  ·exact g
  ·rw [List.getElem?_eq_none (by simpa using g)] at h;cases h
 have hl:=rv.length
 rw [List.length_map] at hl
 have e:(bs.map V.bl)[i]?=some (.bl (bs.getD i false)):=by
  rw [List.getElem?_map,List.getElem?_eq_getElem (by omega)]
  simp [List.getD_eq_getElem?_getD,List.getElem?_eq_getElem (show i<bs.length by omega)]
 obtain⟨u,hu,ru⟩:=rv.get e
 rw [show its.toArray.toList=its from rfl,hu] at h
 cases h
 exact ru
theorem all_range (bs:List Bool):(List.range bs.length).all (fun i=>bs.getD i false)=bs.all id:=by
 rw [Bool.eq_iff_iff,List.all_eq_true,List.all_eq_true]
 constructor
 ·intro h b hb
  obtain⟨i,hi,rfl⟩:=List.mem_iff_getElem.mp hb
  simpa [List.getD_eq_getElem?_getD,List.getElem?_eq_getElem hi] using h i (List.mem_range.mpr hi)
 ·intro h i hi
  rw [List.mem_range] at hi
  have:=h bs[i] (List.getElem_mem hi)
  simpa [List.getD_eq_getElem?_getD,List.getElem?_eq_getElem hi] using this
theorem zmi (hK:X.K=K)(hc:X.calm=true):zaZ X (.builtin "all") (ztB K):=fun pins s σ H xs us Q I r h=>by
 subst hK
 obtain⟨p,bs,rfl,hS,q⟩:=h
 obtain⟨u,rfl,ru⟩:=vals1 r
 cases ru
 obtain⟨its,rv,pl,hz⟩:=I.list hS
 obtain⟨lt,st⟩:=zqy I pl
 have hl:=rv.length
 rw [List.length_map] at hl
 have W:=Walks.list (prog:=X.prog) (w:=X.w) (A:=X.A.in1) (I.ok.hd hc) s.heap.objs.size p (Nat.ne_of_lt lt) its.toArray
 refine call_all_walk (wpAny_pyIter_list pl.isList ⟨s.heap.objs.size,[s.heap.objs.size,p],[s.heap.objs.size],_,_,_,fun i=>bs.getD i false,rfl,W,⟨st,pl.isList.push _⟩,?_,?_⟩)
 ·intro i v s' Q' E' hv hq
  rw [znQ rv hv]
  exact wpAny_truthy_bool hq
 ·intro h' tk hk
  rw [List.size_toArray,<- hl,all_range]
  exact⟨.bl _,H,zqP (s:=s) I hk,rfl,q⟩
def zso (K:PySem.W.Frag):List V->Hp->VK->Prop:=fun xs H Q=>∃ p ys,xs=[.ref p]/\((SqL K H p ys/\∀ l,H l=none->Q (.ref l) (upd H l (.tup ys)))\/(SqT K H p ys/\Q (.ref p) H))
theorem zm9 (hK:X.K=K):zaZ X (.type "tuple") (zso K):=hK▸zjb
end
section
variable {X:Cx}{K:PySem.W.Frag}
def zsP (K:PySem.W.Frag):R2:=fun x y H Q=>∃ l b xs zs,x=.ref l/\y=.ref b/\SqL K H l xs/\SqL K H b zs/\xs.length+zs.length<=sizeLine/\∀ p,H p=none->Q (.ref p) (upd H p (.lst (xs++zs)))
theorem zpJ (hK:X.K=K):OpR X (binaryOp .Add) (zsP K):=by
 subst hK
 intro pins s σ H x y v u Q I rx ry h
 obtain⟨l,b,xs,zs,rfl,rfl,hH,hB,hz,q⟩:=h
 cases rx
 cases ry
 obtain⟨its,r,pl,_⟩:=I.list hH
 obtain⟨its2,r2,pl2,_⟩:=I.list hB
 obtain⟨⟨cls,dd,data,sl⟩,ho,hc,n,hd⟩:=pl.isList
 obtain⟨⟨cls2,dd2,data2,sl2⟩,ho2,hc2,n2,hd2⟩:=pl2.isList
 simp only at hc hd hc2 hd2
 subst hc hd hc2 hd2
 have e1:=r.length
 have e2:=r2.length
 refine concat_meets ⟨_,ho,rfl⟩ ⟨_,ho2,rfl⟩ noFill_list_add seq_list_add PySem.F.slot_list_add PySem.F.entry_list_add (PySem.F.args_list_add_2 _ _) (list_addW l b its.toArray its2.toArray n n2 dd dd2 sl sl2 (by rw [List.size_toArray,List.size_toArray];omega)) ⟨ho,ho2,?_⟩
 have ea:its.toArray++its2.toArray=(its++its2).toArray:=by simp
 rw [ea]
 exact⟨.ref _,_,I.lnew (t':=s.toks) (r.append r2) (by rw [List.length_append];omega),rfl,q _ I.fresh⟩
end
section
variable {σ:L2.St}{K:PySem.W.Frag}{own:List Str}{fv:List Nat}{g:TG}{tc:TT}{te:TE}{R:Hp->Prop}{H1:Hp}{p a:Addr}{xs:List V}
end
theorem zaO {α:Type}{xs:List α}{i:Nat}{x:α}(h:xs[i]?=some x):i<xs.length:=by
 rcases Nat.lt_or_ge i xs.length with g|g
 ·exact g
 ·rw [List.getElem?_eq_none g] at h;cases h
open PySem PySem.W PyProof.Rows
section
variable {lt:Nat->Nat->Bool}
end
open PySem PySem.Spec PySem.W PyProof.Rows L2
section
variable {prog:Program}{w:World}{A:Around}{E:Value->Shared->Prop}{s:Shared}
end
section
variable {K:PySem.W.Frag}{H:Hp}
end
def zrn (K:PySem.W.Frag):R2:=fun x y H Q=>∃ a b xs ys,x=.ref a/\y=.ref b/\SqT K H a xs/\SqT K H b ys/\xs.length+ys.length<=sizeLine/\(xs=[]->Q (.ref b) H)/\(xs≠[]->ys=[]->Q (.ref a) H)/\(xs≠[]->ys≠[]->∀ p,H p=none->Q (.ref p) (upd H p (.tup (xs++ys))))
theorem znT {X:Cx}{K:PySem.W.Frag}(hK:X.K=K):OpR X (binaryOp .Add) (zrn K):=by
 subst hK
 intro pins s σ H x y v u Q I rx ry h
 obtain⟨a,b,xs,ys,rfl,rfl,ha,hb,hz,q0,q1,q2⟩:=h
 by_cases hx:xs=[]
 ·subst hx
  cases rx
  cases ry
  obtain⟨its,r1,p1,_⟩:=I.tuple ha
  obtain⟨its2,r2,p2,_⟩:=I.tuple hb
  cases r1
  obtain⟨⟨cls,dd,data,sl⟩,ho,hc,n,hd⟩:=id p1
  obtain⟨⟨cls2,dd2,data2,sl2⟩,ho2,hc2,n2,hd2⟩:=id p2
  simp only at hc hd hc2 hd2
  subst hc hd hc2 hd2
  exact concat_meets ⟨_,ho,rfl⟩ ⟨_,ho2,rfl⟩ noFill_tuple_add seq_tuple_add PySem.F.slot_tuple_add PySem.F.entry_tuple_add (PySem.F.args_tuple_add_2 _ _)
   (tuple_addW0 a b _ its2.toArray n n2 dd dd2 sl sl2 (by simp)) ⟨ho,ho2,⟨.ref b,H,I,rfl,q0 rfl⟩⟩
 ·exact zpd pins s σ H _ _ v u Q I rx ry ⟨a,b,xs,ys,rfl,rfl,ha,hb,hx,hz,q1 hx,q2 hx⟩
end My
namespace Dp
open PySem
inductive D where
 |non|bl (b:Bool)|int (i:Int)|str (x:Str)|tup (xs:List D)|ref (n:Nat)|ty (n:String)|rl (xs:List D)|exn (c:Str)|kt (xs:List D)
 deriving Inhabited
inductive Cell where
 |lst (xs:List D)|ins (c:Str) (fs:List (Str×D))
 |dk (kvs:List (Str×D))|dt (kvs:List (List (Sum Int Str)×D))
 |tab (x:Str) (l c:Nat)
 deriving Inhabited
abbrev Sto:=List Cell
abbrev Rho:=List (Option D)
abbrev DK:=D->Sto->Prop
abbrev DE:=Rho->Sto->DK->Prop
abbrev DT:=Rho->Sto->(Bool->Sto->Prop)->Prop
abbrev DA:=Rho->Sto->(List D->Sto->Prop)->Prop
abbrev DG:=D->Rho->Sto->(Rho->Sto->Prop)->Prop
abbrev DGs:=List D->Rho->Sto->(Rho->Sto->Prop)->Prop
structure zlO where
 nx:Rho->Sto->Prop
 rt:DK
 bk:Rho->Sto->Prop:=fun _ _=>False
 ct:Rho->Sto->Prop:=fun _ _=>False
abbrev DS:=zlO->Rho->Sto->Prop
structure DIt where
 items:List D
 ok:Sto->Prop
abbrev DI:=Rho->Sto->(DIt->Sto->Prop)->Prop
abbrev DSp:=List D->Sto->DK->Prop
def big:Nat:=1000000
def fl:Nat->D->Bool
  |_,.ref _=>false
  |_,.ty _=>false
  |_,.rl _=>false
  |_,.exn _=>false
  |_,.kt _=>false
  |0,.tup _=>false
  |k+1,.tup xs=>xs.all (fl k)
  |_,.non=>true
  |_,.bl _=>true
  |_,.int _=>true
  |_,.str x=>x.cps.all (· < 0x110000)
mutual
def eqv:D->D->Bool
 |.non,.non=>true
 |.bl a,.bl b=>a==b
 |.bl a,.int j=>(if a then 1 else 0)==j
 |.int i,.bl b=>i==(if b then 1 else 0)
 |.int i,.int j=>decide (i=j)
 |.str x,.str y=>x==y
 |.tup xs,.tup ys=>eqvAll xs ys
 |_,_=>false
def eqvAll:List D->List D->Bool
 |[],[]=>true
 |x::xs,y::ys=>eqv x y&&eqvAll xs ys
 |_,_=>false
end
def Lst (S:Sto)(x:D)(xs:List D):Prop:=x=.rl xs\/∃ n,x=.ref n/\S[n]?=some (.lst xs)
def zfL (S:Sto)(x:D)(xs:List D):Prop:=x=.tup xs\/Lst S x xs
def ixD (n:Nat)(k:Int):Option Nat:=if 0<=k then (if k<n then some k.toNat else none) else if -(n:Int)<=k then some (k+n).toNat else none
def atD (xs:List D)(k:Int):Option D:=(ixD xs.length k).bind fun j=>xs[j]?
def atS (z:Str)(k:Int):Option Nat:=(ixD z.cps.toList.length k).bind fun j=>z.cps.toList[j]?
def slD (n:Nat)(d:Nat):Option Int->Nat
 |none=>d
 |some k=>if k<0 then (k+n).toNat else min k.toNat n
def cutD {α:Type}(xs:List α)(lo hi:Option Int):List α:=(xs.drop (slD xs.length 0 lo)).take (slD xs.length xs.length hi-slD xs.length 0 lo)
def zc (i:Nat):DE:=fun ρ S Q=>∃ d,ρ[i]?=some (some d)/\Q d S
def dC (d:D):DE:=fun _ S Q=>Q d S
abbrev DR2:=D->D->Sto->DK->Prop
def dOp (r:DR2)(ta tb:DE):DE:=fun ρ S Q=>ta ρ S fun x S1=>tb ρ S1 fun y S2=>r x y S2 Q
def dUn (r:D->Sto->DK->Prop)(ta:DE):DE:=fun ρ S Q=>ta ρ S fun x S1=>r x S1 Q
def zu:DA:=fun _ S Q=>Q [] S
def zj (ta:DE)(tr:DA):DA:=fun ρ S Q=>ta ρ S fun x S1=>tr ρ S1 fun xs S2=>Q (x::xs) S2
def dTup (t:DA):DE:=fun ρ S Q=>t ρ S fun xs S1=>xs.length<=big/\Q (.tup xs) S1
def za8 (t:DA):DE:=fun ρ S Q=>t ρ S fun xs S1=>xs.length<=big/\Q (.ref S1.length) (S1++[.lst xs])
def dCall (f:DSp)(t:DA):DE:=fun ρ S Q=>t ρ S fun xs S1=>f xs S1 Q
abbrev DB:=List D->Sto->DK->Prop
def dB (r:DB)(t:DA):DE:=fun ρ S Q=>t ρ S fun xs S1=>r xs S1 Q
def dT (t:DE):DT:=fun ρ S Q=>t ρ S fun x S1=>∃ b,x=.bl b/\Q b S1
def ze8 (t u:DT):DT:=fun ρ S Q=>t ρ S fun c S1=>if c=true then u ρ S1 Q else Q false S1
def dOr (t u:DT):DT:=fun ρ S Q=>t ρ S fun c S1=>if c=true then Q true S1 else u ρ S1 Q
def zcU (t:DT):DT:=fun ρ S Q=>t ρ S fun c S1=>Q (!c) S1
def zfl (t u:DE):DE:=fun ρ S Q=>t ρ S fun x S1=>∃ c,x=.bl c/\if c=true then u ρ S1 Q else Q (.bl false) S1
def zgh (t:DE):DE:=fun ρ S Q=>t ρ S fun x S1=>∃ c,x=.bl c/\Q (.bl (!c)) S1
def zl7 (c:DT)(ta tb:DE):DE:=fun ρ S Q=>c ρ S fun b S1=>if b=true then ta ρ S1 Q else tb ρ S1 Q
def zgX:Option DE->Rho->Sto->(Option Int->Sto->Prop)->Prop
 |none=>fun _ S Q=>Q none S
 |some t=>fun ρ S Q=>t ρ S fun x S1=>∃ i,x=.int i/\Q (some i) S1
def dSl (r:D->Option Int->Option Int->Sto->DK->Prop)(ta:DE)(lo hi:Option DE):DE:=fun ρ S Q=>ta ρ S fun x S1=>zgX lo ρ S1 fun l S2=>zgX hi ρ S2 fun h S3=>r x l h S3 Q
def zaL (f:Str)(ta:DE):DE:=fun ρ S Q=>ta ρ S fun x S1=>∃ n c fs d,x=.ref n/\S1[n]?=some (.ins c fs)/\fs.lookup f=some d/\Q d S1
def putD (f:Str)(v:D):List (Str×D)->List (Str×D)
 |[]=>[(f,v)]
 |(g,x)::r=>if g=f then (g,v)::r else (g,x)::putD f v r
def zlW (c:Str)(init:DSp):DSp:=fun ds S Q=>init (.ref S.length::ds) (S++[.ins c []]) fun d S2=>d=.non/\Q (.ref S.length) S2
abbrev DM:=D->List D->Sto->DK->Prop
def dM (r:DM)(ta:DE)(t:DA):DE:=fun ρ S Q=>ta ρ S fun x S1=>(∃ n ys,x=.ref n/\S1[n]?=some (.lst ys))/\t ρ S1 fun xs S2=>r x xs S2 Q
def oI (C:Int->Int->Prop)(g:Int->Int->D):DR2:=fun x y S Q=>∃ i j,x=.int i/\y=.int j/\C i j/\Q (g i j) S
def oI0 (g:Int->Int->D):DR2:=fun x y S Q=>∃ i j,x=.int i/\y=.int j/\Q (g i j) S
def oU (g:Int->D):D->Sto->DK->Prop:=fun x S Q=>∃ i,x=.int i/\Q (g i) S
def zaK (i j:Int):Prop:=(My.Bd 8000 i/\My.Bd 8000 j)\/i.natAbs<2 ^ 64\/j.natAbs<2 ^ 64
def zoA (_ j:Int):Prop:=j≠0/\My.Bd 8000 j
def zsw (_ j:Int):Prop:=j≠0
def zat:DR2:=fun x y S Q=>(∃ i j,x=.int i/\y=.int j/\Q (.int (i+j)) S)\/(∃ xs ys,x=.tup xs/\y=.tup ys/\xs.length+ys.length<=big/\Q (.tup (xs++ys)) S) \/
 (∃ xs ys,Lst S x xs/\Lst S y ys/\xs.length+ys.length<=big/\Q (.ref S.length) (S++[.lst (xs++ys)])) \/
 (∃ i j:Str,x=.str i/\y=.str j/\i.length+j.length<=big/\Q (.str (i++j)) S)
def zbX:DR2:=oI0 fun i j=>.int (i-j)
def ztX (z:Str)(n:Int):Str:=if n<1 then Str.empty else if (n==1||z.length==0)=true then z else ⟨(List.replicate n.toNat z.cps).foldl (·++·) #[]⟩
@[irreducible] def Hg (x:Int):Prop:=x.natAbs<2 ^ 1048576
def zaM:DR2:=fun x y S Q=>oI zaK (fun i j=>.int (i*j)) x y S Q\/(∃ (z:Str) (n:Int),x=.str z/\y=.int n/\z.length<=1000/\-1000<=n/\n<=1000/\Q (.str (ztX z n)) S)\/oI (fun i j=>Hg i/\Hg j) (fun i j=>.int (i*j)) x y S Q
def oDiv:DR2:=oI zoA fun i j=>.int (i.fdiv j)
def oMod:DR2:=oI zsw fun i j=>.int (i.fmod j)
def zfI:D->Sto->DK->Prop:=oU fun i=>.int (-i)
def oLt:DR2:=oI0 fun i j=>.bl (decide (i<j))
def oLe:DR2:=oI0 fun i j=>.bl (decide (i<=j))
def oGt:DR2:=oI0 fun i j=>.bl (decide (j<i))
def zhb (S:Sto):List D->List (List D)->Prop
 |[],[]=>True
 |x::xs,z::zs=>Lst S x z/\zhb S xs zs
 |_,_=>False
def zfp (xss:List (List D)):Bool:=xss.all fun zs=>zs.all (fl 20)
def zac {α β:Type}(f:α->Option β):List α->Option (List β)
 |[]=>some []
 |x::xs=>match f x,zac f xs with
  |some y,some ys=>some (y::ys)
  |_,_=>none
def tre (S:Sto):Nat->D->Option PyData
  |_,.non=>some .none
  |_,.bl b=>some (.bool b)
  |_,.int i=>some (.int i)
  |_,.str x=>if x.cps.all (· < 0x110000)=true then some (.str x) else none
  |k+1,.tup xs=>(zac (tre S k) xs).map .tuple
  |k+1,.rl xs=>(zac (tre S k) xs).map .list
  |k+1,.ref n=>match S[n]? with
    |some (.lst xs)=>(zac (tre S k) xs).map .list
    |_=>none
  |_,_=>none
def EqD (S:Sto)(x y:D)(b:Bool):Prop:=(fl 20 x=true/\fl 20 y=true/\b=eqv x y)\/(∃ xs ys,Lst S x xs/\Lst S y ys/\xs.all (fl 20)=true/\ys.all (fl 20)=true/\b=eqvAll xs ys) \/
 (∃ xs ys xss yss,Lst S x xs/\Lst S y ys/\zhb S xs xss/\zhb S ys yss/\zfp xss=true/\zfp yss=true/\b=eqvAll (xss.map D.tup) (yss.map D.tup))\/(∃ p,tre S 20 x=some p/\tre S 20 y=some p/\b=true)
def oEq:DR2:=fun x y S Q=>∃ b,EqD S x y b/\Q (.bl b) S
def oNe:DR2:=fun x y S Q=>∃ b,EqD S x y b/\Q (.bl (!b)) S
def InD (S:Sto)(x y:D)(b:Bool):Prop:=∃ ys,zfL S y ys/\fl 20 x=true/\ys.all (fl 20)=true/\b=ys.any fun z=>eqv z x
def oIn:DR2:=fun x y S Q=>(∃ b,InD S x y b/\Q (.bl b) S)\/(∃ (c:Nat) (z:Str),x=.str ⟨#[c]⟩/\y=.str z/\Q (.bl (decide (c∈z.cps.toList))) S)
def zcZ:D->Bool
 |.non=>true
 |_=>false
def oIs:DR2:=fun x y S Q=>(y=.non/\Q (.bl (zcZ x)) S)\/(∃ a b,x=.bl a/\y=.bl b/\Q (.bl (a==b)) S)
def zfG:DR2:=fun x y S Q=>(y=.non/\Q (.bl (!zcZ x)) S)\/(∃ a b,x=.bl a/\y=.bl b/\Q (.bl (!(a==b))) S)
def oIx:DR2:=fun x y S Q=>(∃ i xs d,y=.int i/\zfL S x xs/\atD xs i=some d/\Q d S)\/(∃ (z:Str) (i:Int) (c:Nat),x=.str z/\y=.int i/\z.length<=big/\atS z i=some c/\Q (.str ⟨#[c]⟩) S)
def zic (z:Str)(lo hi:Option Int):Str:=⟨(cutD z.cps.toList lo hi).toArray⟩
def zf2:D->Option Int->Option Int->Sto->DK->Prop:=fun x lo hi S Q=>(∃ xs,x=.tup xs/\Q (.tup (cutD xs lo hi)) S)\/(∃ xs,Lst S x xs/\Q (.ref S.length) (S++[.lst (cutD xs lo hi)]))\/(∃ z:Str,x=.str z/\z.length<=big/\Q (.str (zic z lo hi)) S)
def za1:DB:=fun vs S Q=>(∃ x xs,vs=[x]/\zfL S x xs/\Q (.int xs.length) S)\/(∃ z:Str,vs=[.str z]/\z.length<=big/\Q (.int z.length) S)
def znG:DB:=fun vs S Q=>∃ i,vs=[.int i]/\Q (.int (i.natAbs:Int)) S
def zd7:DB:=fun vs S Q=>∃ x bs,vs=[x]/\Lst S x (List.map D.bl bs)/\Q (.bl (bs.all id)) S
def zj5:DB:=fun vs S Q=>∃ x xs,vs=[x]/\zfL S x xs/\Q (.tup xs) S
def zed:DB:=fun vs S Q=>∃ x xs,vs=[x]/\zfL S x xs/\Q (.ref S.length) (S++[.lst xs])
def zct (cs:List Nat):Nat:=cs.foldl (fun acc c=>acc*10+(c-48)) 0
def ze6 (cs:List Nat):Prop:=∀ c∈cs,48<=c/\c<=57
def zjK (z:Str)(n:Int):Prop:=(ze6 z.cps.toList/\z.cps.toList≠[]/\n=((zct z.cps.toList:Nat):Int))\/∃ cs,z.cps.toList=45::cs/\ze6 cs/\cs≠[]/\n=-((zct cs:Nat):Int)
def zc5:DB:=fun vs S Q=>(∃ i:Int,vs=[.int i]/\My.Bd 1900 i/\Q (.str (Str.ofString (toString i))) S)\/∃ z:Str,vs=[.str z]/\Q (.str z) S
def zji:DB:=fun vs S Q=>∃ z n,vs=[.str z]/\z.length<=640/\zjK z n/\Q (.int n) S
def zfQ (z:Str)(c:Nat)(zs:List Str):Prop:=zs≠[]/\(∀ w∈zs,c∉w.cps.toList)/\Str.join ⟨#[c]⟩ zs=z
def zf3 (ta tb:DE):DE:=fun ρ S Q=>ta ρ S fun x S1=>(∃ z,x=.str z)/\tb ρ S1 fun y S2=>∃ z c zs,x=.str z/\y=.str ⟨#[c]⟩/\z.length<big/\zfQ z c zs/\Q (.ref S2.length) (S2++[.lst (zs.map D.str)])
def zjt (ta tb:DE):DE:=fun ρ S Q=>ta ρ S fun x S1=>(∃ z,x=.str z)/\tb ρ S1 fun y S2=>∃ z c,x=.str z/\y=.str ⟨#[c]⟩/\Q (.int (z.cps.toList.count c)) S2
def zgp (ta tb:DE):DE:=fun ρ S Q=>ta ρ S fun x S1=>(∃ z,x=.str z)/\tb ρ S1 fun y S2=>∃ z n,∃ zs:List Str,x=.str z/\y=.ref n/\S2[n]?=some (.lst (zs.map D.str))/\(zs.map (·.length)).sum+zs.length*z.length<=big/\Q (.str (Str.join z zs)) S2
def dF3 (c:Str)(ta tb:DE):DE:=fun ρ S Q=>ta ρ S fun x S1=>(∃ i,x=.int i/\My.Bd 1900 i/\(Str.ofString (toString i)).length<=1000/\c.length<=1000)/\tb ρ S1 fun y S2=>∃ i j,x=.int i/\y=.int j/\My.Bd 1900 j/\(Str.ofString (toString j)).length<=1000/\Q (.str (Str.ofString (toString i)++c++Str.ofString (toString j))) S2
def zii (ta tb:DE):DE:=fun ρ S Q=>ta ρ S fun x S1=>(∃ z,x=.str z)/\tb ρ S1 fun y S2=>∃ z c,x=.str z/\y=.str ⟨#[c]⟩/\Q (.bl (decide (z.cps.toList[0]?=some c))) S2
def zhY (t:String):Bool:=t=="int"||t=="bool"||t=="tuple"||t=="list"||t=="str"
def znK (S:Sto)(t:String)(d:D):Option Bool:=if (!zhY t)=true then none else match d with
 |.non=>some false
 | .bl _=>some (t=="bool"||t=="int")
 | .int _=>some (t=="int")
 | .str _=>some (t=="str")
 | .tup _=>some (t=="tuple")
 |.ref n=>match S[n]? with
  | some (.lst _)=>some (t=="list")
  |_=>none
 |.ty _=>none
 |.rl _=>none
 |.exn _=>none
 |.kt _=>none
def zdH:DB:=fun vs S Q=>∃ x t b,vs=[x,.ty t]/\znK S t x=some b/\Q (.bl b) S
abbrev p2 (c:Int×Int):D:=.tup [.int c.1,.int c.2]
def zbk:DM:=fun x vs S Q=>∃ n xs y,x=.ref n/\vs=[y]/\S[n]?=some (.lst xs)/\xs.length<big/\Q .non (S.set n (.lst (xs++[y])))
def zB (i:Nat):DG:=fun d ρ S Q=>Q (ρ.set i (some d)) S
def zes:DGs:=fun ds ρ S Q=>ds=[]/\Q ρ S
def zbt (t:DG)(u:DGs):DGs:=fun ds ρ S Q=>∃ d r,ds=d::r/\t d ρ S fun ρ' S'=>u r ρ' S' Q
def zeX (n:Nat)(t:DGs):DG:=fun d ρ S Q=>∃ xs,d=.tup xs/\xs.length=n/\t xs ρ S Q
def iKt (cs:List (List D)):DI:=fun _ S R=>R ⟨cs.map D.kt,fun _=>True⟩ S
def gKt (n:Nat)(t:DGs):DG:=fun d ρ S Q=>∃ xs,d=.kt xs/\xs.length=n/\t xs ρ S Q
def zjv (to ti:DE):DG:=fun d ρ S Q=>to ρ S fun o S1=>ti ρ S1 fun i S2=>∃ n xs k j,o=.ref n/\i=.int k/\S2[n]?=some (.lst xs)/\ixD xs.length k=some j/\Q ρ (S2.set n (.lst (xs.set j d)))
def zG (t u:DS):DS:=fun E ρ S=>t { E with nx:=u E } ρ S
def zad:DS:=fun E ρ S=>E.nx ρ S
def zai (t:DE):DS:=fun E ρ S=>t ρ S E.rt
def zaY (t:DE):DS:=fun E ρ S=>t ρ S fun _ S1=>E.nx ρ S1
def zO (t:DE)(g:DG):DS:=fun E ρ S=>t ρ S fun x S1=>g x ρ S1 E.nx
def sIf (c:DT)(t u:DS):DS:=fun E ρ S=>c ρ S fun b S1=>if b=true then t E ρ S1 else u E ρ S1
def sJ (t:DS):DS:=fun E ρ S=>∃ J:Rho->Sto->Prop,(∀ ρ S,J ρ S->E.nx ρ S)/\t { E with nx:=J } ρ S
def za2:DS:=fun _ _ _=>False
def zdl (c f:Str)(to tv:DE):DS:=fun E ρ S=>tv ρ S fun y S1=>to ρ S1 fun x S2=>∃ n fs,x=.ref n/\S2[n]?=some (.ins c fs)/\fs.length<100/\E.nx ρ (S2.set n (.ins c (putD f y fs)))
def zkv (i:Nat)(t:DE):DS:=fun E ρ S=>∃ a,ρ[i]?=some (some (.int a))/\t ρ S fun y S1=>∃ b,y=.int b/\E.nx (ρ.set i (some (.int (a+b)))) S1
def zeP (c:DT)(t:DS):DS:=fun E ρ S=>∃ W:Nat->Rho->Sto->Prop,(∃ m,W m ρ S)/\∀ m ρ S,W m ρ S ->
 c ρ S fun b S1=>if b=true then ∃ N:Rho->Sto->Prop,(∀ ρ' S',N ρ' S'->∃ m',m'<m/\W m' ρ' S')/\t { E with nx:=N,ct:=N,bk:=E.nx } ρ S1 else E.nx ρ S1
def zc4 (wi:DI)(g:DG)(t:DS):DS:=fun E ρ S=>wi ρ S fun J S1=>∃ W:Nat->Rho->Sto->Prop,W 0 ρ S1/\(∀ i ρ S,W i ρ S->J.ok S) /\
 (∀ i d ρ S,J.items[i]?=some d->W i ρ S->g d ρ S fun ρ2 S2=>t { E with nx:=W (i+1),ct:=W (i+1),bk:=E.nx } ρ2 S2)/\∀ ρ S,W J.items.length ρ S->E.nx ρ S
def signs (z:Str):List D:=z.cps.toList.map fun c=>.str ⟨#[c]⟩
def zhp (x:D)(S1:Sto)(R:DIt->Sto->Prop):Prop:=(∃ xs,x=.tup xs/\R ⟨xs,fun _=>True⟩ S1)\/(∃ xs,Lst S1 x xs/\R ⟨xs,fun S=>Lst S x xs⟩ S1)\/(∃ z:Str,x=.str z/\R ⟨signs z,fun _=>True⟩ S1)
def zaP (t:DE):DI:=fun ρ S R=>t ρ S fun x S1=>zhp x S1 R
def upto (lo:Int)(n:Nat):List D:=(List.range n).map fun k:Nat=>D.int (lo+(k:Int))
def zdU (t:DA):DI:=fun ρ S R=>t ρ S fun vs S1=>∃ j:Int,vs=[.int j]/\-(2 ^ 62)<=j/\j<2 ^ 62/\R ⟨upto 0 j.toNat,fun _=>True⟩ S1
def zhh (t:DA):DI:=fun ρ S R=>t ρ S fun vs S1=>∃ i j:Int,vs=[.int i,.int j]/\R ⟨upto i (j-i).toNat,fun _=>True⟩ S1
def zfE (c:List Str)(z:Str):List Str:=if c.any (·==z)=true then c else c++[z]
def zb8 (f:Nat->Str):Nat->List Str
 |0=>[]
 |i+1=>zfE (zb8 f i) (f i)
def zob (zs:List Str):Nat:=(zb8 (fun i=>zs.getD i Str.empty) zs.length).length
def zlw:DB:=fun vs S Q=>∃ x,∃ zs:List Str,vs=[x]/\Lst S x (zs.map D.str)/\zs.length<=4000/\Q (.int (zob zs)) S
def zgI (own:Nat)(fv:List Nat)(ρ:Rho):Rho:=List.replicate own none++fv.map fun j=>(ρ[j]?).join
def zaE:DT:=fun _ S Q=>Q true S
def dLC (own:Nat)(fv:List Nat)(wi:DI)(g:DG)(tc:DT)(te:DE):DE:=fun ρ S Q=>wi ρ S fun J S1=>J.items.length<=big/\∃ W:Nat->List D->Sto->Prop,W 0 [] S1/\(∀ i ys S,W i ys S->J.ok S) /\
 (∀ i d ys S,J.items[i]?=some d->W i ys S->g d (zgI own fv ρ) S fun ρ2 S2=>tc ρ2 S2 fun b S3=>if b=true then te ρ2 S3 fun y S4=>W (i+1) (ys++[y]) S4 else W (i+1) ys S3) /\
 ∀ ys S,W J.items.length ys S->Q (.ref S.length) (S++[.lst ys])
def kD:Sum Int Str->D
 |.inl i=>.int i
 |.inr x=>.str x
section
variable {κ:Type}[DecidableEq κ]
def dval (kvs:List (κ×D))(k:κ):Option D:=(kvs.find? fun kv=>decide (kv.1=k)).map (·.2)
def dput (kvs:List (κ×D))(k:κ)(v:D):List (κ×D):=if (kvs.any fun kv=>decide (kv.1=k))=true then kvs.map (fun kv=>if kv.1=k then (kv.1,v) else kv) else kvs++[(k,v)]
end
def DGt (S:Sto)(x y:D)(o:Option D):Prop:=(∃ n kvs z,x=.ref n/\y=.str z/\S[n]?=some (.dk kvs)/\o=dval kvs z)\/(∃ n kvs ks,x=.ref n/\y=.tup (ks.map kD)/\S[n]?=some (.dt kvs)/\o=dval kvs ks)
def zlA:DE:=fun _ S Q=>Q (.ref S.length) (S++[.dk []])
def zfZ (td ti:DE):DE:=fun ρ S Q=>td ρ S fun x S1=>ti ρ S1 fun y S2=>∃ d,DGt S2 x y (some d)/\Q d S2
def zhw (S:Sto)(x y v:D)(Q:Sto->Prop):Prop:=(∃ n kvs z,x=.ref n/\y=.str z/\S[n]?=some (.dk kvs)/\kvs.length<big/\Q (S.set n (.dk (dput kvs z v))))\/(∃ n kvs ks,x=.ref n/\y=.tup (ks.map kD)/\S[n]?=some (.dt kvs)/\kvs.length<big/\Q (S.set n (.dt (dput kvs ks v))))
def zmb (td ti tv:DE):DS:=fun E ρ S=>tv ρ S fun v S1=>td ρ S1 fun x S2=>ti ρ S2 fun y S3=>zhw S3 x y v (E.nx ρ)
def fc:Cell->Bool
 |.lst xs=>xs.all (fl 20)
 |.ins _ _=>false
 |.dk _=>false
 |.dt _=>false
 |.tab _ _ _=>false
def Fin (S:Sto)(Q:DK):DK:=fun d S'=>Q d S'\/∃ S1,S1 <+: S'/\S.length<=S1.length/\(fl 20 d=true\/∃ n,d=.ref n/\n<S1.length)/\(∀ (n:Nat) c,S1[n]?=some c->S[n]?=some c\/fc c=true)/\Q d S1
def zdy (n:Nat)(ds:List D):Rho:=ds.map some++List.replicate (n-ds.length) none
def BodyOk (n:Nat)(b:DS)(f:DSp):Prop:=∀ ds S Q,f ds S Q->b ⟨fun _ S'=>Fin S Q .non S',Fin S Q,fun _ _=>False,fun _ _=>False⟩ (zdy n ds) S
abbrev XD:=Str->Sto->Prop
abbrev XR:=Rho->Str->Sto->Prop
abbrev zfO:=List D->Sto->DK->XD->Prop
def zdB (f:zfO)(ex:XR)(t:DA):DE:=fun ρ S Q=>t ρ S fun xs S1=>f xs S1 Q (ex ρ)
def xF:XR:=fun _ _ _=>False
def zeL (ex:XR)(c:Str):DS:=fun _ ρ S=>ex ρ c S
def zij (n:Nat)(b:XR->DS)(f:zfO):Prop:=∀ ds S Q ex,f ds S Q ex->b (fun _=>ex) ⟨fun _ S'=>Fin S Q .non S',Fin S Q,fun _ _=>False,fun _ _=>False⟩ (zdy n ds) S
def New (Q:DK)(S:Sto)(xs:List D):Prop:=Q (.ref S.length) (S++[.lst xs])
def Put (Q:Sto->Prop)(S:Sto)(n:Nat)(c:Cell):Prop:=Q (S.set n c)
def zoc (own:Nat)(fv:List Nat)(g:DG)(tc:DT)(te:DE)(ρ:Rho)(Q:DK)(J:DIt)(S:Sto):Prop:=J.items.length<=big/\∃ W:Nat->List D->Sto->Prop,W 0 [] S/\(∀ i ys S,W i ys S->J.ok S) /\
 (∀ i d ys S,J.items[i]?=some d->W i ys S->g d (zgI own fv ρ) S fun ρ2 S2=>tc ρ2 S2 fun b S3=>if b=true then te ρ2 S3 fun y S4=>W (i+1) (ys++[y]) S4 else W (i+1) ys S3) /\
 ∀ ys S,W J.items.length ys S->New Q S ys
def zoB (d:D)(ρ:Rho)(Q:Rho->Sto->Prop)(o i:D)(S2:Sto):Prop:=∃ n xs k j,o=.ref n/\i=.int k/\S2[n]?=some (.lst xs)/\ixD xs.length k=some j/\Q ρ (S2.set n (.lst (xs.set j d)))
def zoq (nx:Rho->Sto->Prop)(rt:DK)(g:DG)(t:DS)(ρ:Rho)(J:DIt)(S:Sto):Prop:=∃ W:Nat->Rho->Sto->Prop,W 0 ρ S/\(∀ i ρ S,W i ρ S->J.ok S) /\
 (∀ i d ρ S,J.items[i]?=some d->W i ρ S->g d ρ S fun ρ2 S2=>t ⟨W (i+1),rt,nx,W (i+1)⟩ ρ2 S2)/\∀ ρ S,W J.items.length ρ S->nx ρ S
def zje (W:Nat->Rho->Sto->Prop)(m:Nat)(t:DS)(rt:DK)(nx:Rho->Sto->Prop)(ρ:Rho)(S:Sto):Prop:=∃ N:Rho->Sto->Prop,(∀ ρ' S',N ρ' S'->∃ m',m'<m/\W m' ρ' S')/\t ⟨N,rt,nx,N⟩ ρ S
theorem zcd {nx:Rho->Sto->Prop}{rt:DK}{g:DG}{t:DS}{ρ:Rho}{xs:List D}{ok:Sto->Prop}{S:Sto}(W:Nat->Rho->Sto->Prop)(h0:W 0 ρ S)(hok:∀ i ρ S,W i ρ S->ok S)
  (step:∀ i d ρ S,xs[i]?=some d->W i ρ S->g d ρ S fun ρ2 S2=>t ⟨W (i+1),rt,nx,W (i+1)⟩ ρ2 S2) (fin:∀ ρ S,W xs.length ρ S->nx ρ S):zoq nx rt g t ρ ⟨xs,ok⟩ S:=⟨W,h0,hok,step,fin⟩
theorem zte {S:Sto}{Q:DK}{xs:List D}(h:Q (.ref S.length) (S++[.lst xs])):New Q S xs:=h
theorem zbW {S T:Sto}{Q:DK}{xs:List D}(h:Q (.ref (S.length+T.length)) (S++(T++[.lst xs]))):New Q (S++T) xs:=by
 unfold New;rw [List.length_append,List.append_assoc];exact h
section
variable {S:Sto}{Q:DK}{xs:List D}{a b c d e f:Cell}
theorem zsa (h:Q (.ref (S.length+1)) (S++[a,.lst xs])):New Q (S++[a]) xs:=zbW h
theorem ztl (h:Q (.ref (S.length+2)) (S++[a,b,.lst xs])):New Q (S++[a,b]) xs:=zbW h
theorem zto (h:Q (.ref (S.length+3)) (S++[a,b,c,.lst xs])):New Q (S++[a,b,c]) xs:=zbW h
theorem zty (h:Q (.ref (S.length+4)) (S++[a,b,c,d,.lst xs])):New Q (S++[a,b,c,d]) xs:=zbW h
theorem zsp (h:Q (.ref (S.length+5)) (S++[a,b,c,d,e,.lst xs])):New Q (S++[a,b,c,d,e]) xs:=zbW h
end
theorem zg0 {S:Sto}{a:Cell}{T:Sto}{Q:Sto->Prop}{c:Cell}(h:Q (S++c::T)):Put Q (S++a::T) S.length c:=by
 unfold Put;rw [List.set_append_right _ _ (Nat.le_refl _),Nat.sub_self];exact h
theorem zrs {S:Sto}{a:Cell}{G T:Sto}{Q:Sto->Prop}{c:Cell}(h:Q (S++c::(G++T))):Put Q (S++(a::G++T)) S.length c:=zg0 h
theorem zqo {S:Sto}{a:Cell}{G T U V:Sto}{Q:Sto->Prop}{c:Cell}(h:Q (S++c::(G++T++U++V))):Put Q (S++(a::G++T++U++V)) S.length c:=zg0 h
theorem zox {S:Sto}{Q:Sto->Prop}{n:Nat}{c:Cell}(h:Q (S.set n c)):Put Q S n c:=h
section
variable {nx:Rho->Sto->Prop}{rt:DK}{bk ct:Rho->Sto->Prop}{ρ:Rho}{S:Sto}
theorem zl5 {t u:DS}(h:t ⟨u ⟨nx,rt,bk,ct⟩,rt,bk,ct⟩ ρ S):zG t u ⟨nx,rt,bk,ct⟩ ρ S:=h
theorem r_J {t:DS}(J:Rho->Sto->Prop)(h:t ⟨J,rt,bk,ct⟩ ρ S)(hJ:∀ ρ S,J ρ S->nx ρ S):sJ t ⟨nx,rt,bk,ct⟩ ρ S:=⟨J,hJ,h⟩
theorem zj0 (h:nx ρ S):zad ⟨nx,rt,bk,ct⟩ ρ S:=h
theorem zjg {t:DE}(h:t ρ S rt):zai t ⟨nx,rt,bk,ct⟩ ρ S:=h
theorem zrL {t:DE}(h:t ρ S fun _ S1=>nx ρ S1):zaY t ⟨nx,rt,bk,ct⟩ ρ S:=h
theorem zov {t:DE}{g:DG}(h:t ρ S fun x S1=>g x ρ S1 nx):zO t g ⟨nx,rt,bk,ct⟩ ρ S:=h
theorem ztG {c:DT}{t u:DS}(h:c ρ S fun b S1=>if b=true then t ⟨nx,rt,bk,ct⟩ ρ S1 else u ⟨nx,rt,bk,ct⟩ ρ S1):sIf c t u ⟨nx,rt,bk,ct⟩ ρ S:=h
theorem zqG {c f:Str}{to tv:DE}(h:tv ρ S fun y S1=>to ρ S1 fun x S2=>∃ n fs,x=.ref n/\S2[n]?=some (.ins c fs)/\fs.length<100/\nx ρ (S2.set n (.ins c (putD f y fs)))):zdl c f to tv ⟨nx,rt,bk,ct⟩ ρ S:=h
theorem zs0 {i:Nat}{t:DE}{a:Int}(e:ρ[i]?=some (some (.int a)))(h:t ρ S fun y S1=>∃ b,y=.int b/\nx (ρ.set i (some (.int (a+b)))) S1):zkv i t ⟨nx,rt,bk,ct⟩ ρ S:=⟨a,e,h⟩
theorem zsY {wi:DI}{g:DG}{t:DS}(h:wi ρ S fun J S1=>zoq nx rt g t ρ J S1):zc4 wi g t ⟨nx,rt,bk,ct⟩ ρ S:=h
theorem zqc {c:DT}{t:DS}(W:Nat->Rho->Sto->Prop)(m:Nat)(h0:W m ρ S)(h:∀ m ρ S,W m ρ S->c ρ S fun b S1=>if b=true then zje W m t rt nx ρ S1 else nx ρ S1):zeP c t ⟨nx,rt,bk,ct⟩ ρ S:=⟨W,⟨m,h0⟩,h⟩
theorem zsJ {c:DT}{t:DS}(W:Nat->Rho->Sto->Prop)(E:Rho->Sto->Prop)(m:Nat)(h0:W m ρ S)(hE:∀ ρ S,E ρ S->nx ρ S)(h:∀ nx':Rho->Sto->Prop,(∀ ρ S,E ρ S->nx' ρ S)->∀ m ρ S,W m ρ S->c ρ S fun b S1=>if b=true then zje W m t rt nx' ρ S1 else nx' ρ S1):zeP c t ⟨nx,rt,bk,ct⟩ ρ S:=⟨W,⟨m,h0⟩,h nx hE⟩
theorem zmv {t:DS}{W:Nat->Rho->Sto->Prop}{m:Nat}(h:t ⟨fun ρ' S'=>∃ m',m'<m/\W m' ρ' S',rt,nx,fun ρ' S'=>∃ m',m'<m/\W m' ρ' S'⟩ ρ S):zje W m t rt nx ρ S:=⟨_,fun _ _ z=>z,h⟩
theorem zoL {i:Nat}{d:D}{Q:Rho->Sto->Prop}(h:Q (ρ.set i (some d)) S):zB i d ρ S Q:=h
theorem zqa {Q:Rho->Sto->Prop}(h:Q ρ S):zes [] ρ S Q:=⟨rfl,h⟩
theorem zoX {t:DG}{u:DGs}{d:D}{r:List D}{Q:Rho->Sto->Prop}(h:t d ρ S fun ρ' S'=>u r ρ' S' Q):zbt t u (d::r) ρ S Q:=⟨d,r,rfl,h⟩
theorem zrE {n:Nat}{t:DGs}{xs:List D}{Q:Rho->Sto->Prop}(e:xs.length=n)(h:t xs ρ S Q):zeX n t (.tup xs) ρ S Q:=⟨xs,rfl,e,h⟩
theorem zqA {to ti:DE}{d:D}{Q:Rho->Sto->Prop}(h:to ρ S fun o S1=>ti ρ S1 fun i S2=>zoB d ρ Q o i S2):zjv to ti d ρ S Q:=h
theorem zfo {i:Nat}{d:D}{Q:DK}(h:ρ[i]?=some (some d))(q:Q d S):zc i ρ S Q:=⟨d,h,q⟩
theorem r_c {d:D}{Q:DK}(q:Q d S):dC d ρ S Q:=q
theorem zly {r:DR2}{ta tb:DE}{Q:DK}(h:ta ρ S fun x S1=>tb ρ S1 fun y S2=>r x y S2 Q):dOp r ta tb ρ S Q:=h
theorem ztD {r:D->Sto->DK->Prop}{ta:DE}{Q:DK}(h:ta ρ S fun x S1=>r x S1 Q):dUn r ta ρ S Q:=h
theorem ztg {Q:List D->Sto->Prop}(h:Q [] S):zu ρ S Q:=h
theorem zj3 {ta:DE}{tr:DA}{Q:List D->Sto->Prop}(h:ta ρ S fun x S1=>tr ρ S1 fun xs S2=>Q (x::xs) S2):zj ta tr ρ S Q:=h
theorem zop {t:DA}{Q:DK}(h:t ρ S fun xs S1=>xs.length<=big/\Q (.tup xs) S1):dTup t ρ S Q:=h
theorem zts {t:DA}{Q:DK}(h:t ρ S fun xs S1=>xs.length<=big/\New Q S1 xs):za8 t ρ S Q:=h
theorem zsg {xs:List D}{P:Prop}(h:Nat.ble xs.length big=true)(q:P):xs.length<=big/\P:=⟨Nat.le_of_ble_eq_true h,q⟩
theorem zrM {f:DSp}{t:DA}{Q:DK}(h:t ρ S fun xs S1=>f xs S1 Q):dCall f t ρ S Q:=h
theorem r_b {r:DB}{t:DA}{Q:DK}(h:t ρ S fun xs S1=>r xs S1 Q):dB r t ρ S Q:=h
theorem r_m {r:DM}{ta:DE}{t:DA}{Q:DK}(h:ta ρ S fun x S1=>(∃ n ys,x=.ref n/\S1[n]?=some (.lst ys))/\t ρ S1 fun xs S2=>r x xs S2 Q):dM r ta t ρ S Q:=h
theorem zsA {n:Nat}{ys:List D}{P:Prop}(h:S[n]?=some (.lst ys))(q:P):(∃ m ys,D.ref n=.ref m/\S[m]?=some (.lst ys))/\P:=⟨⟨n,ys,rfl,h⟩,q⟩
theorem r_t {t:DE}{Q:Bool->Sto->Prop}(h:t ρ S fun x S1=>∃ b,x=.bl b/\Q b S1):dT t ρ S Q:=h
theorem ztA {c:Bool}{P:Bool->Prop}(h:P c):∃ b,D.bl c=D.bl b/\P b:=⟨c,rfl,h⟩
theorem ztd {c:Int}{P:Int->Prop}(h:P c):∃ b,D.int c=D.int b/\P b:=⟨c,rfl,h⟩
theorem zsS {t u:DT}{Q:Bool->Sto->Prop}(h:t ρ S fun c S1=>if c=true then u ρ S1 Q else Q false S1):ze8 t u ρ S Q:=h
theorem ztU {t u:DT}{Q:Bool->Sto->Prop}(h:t ρ S fun c S1=>if c=true then Q true S1 else u ρ S1 Q):dOr t u ρ S Q:=h
theorem zsq {t:DT}{Q:Bool->Sto->Prop}(h:t ρ S fun c S1=>Q (!c) S1):zcU t ρ S Q:=h
theorem zql {t u:DE}{Q:DK}(h:t ρ S fun x S1=>∃ c,x=.bl c/\if c=true then u ρ S1 Q else Q (.bl false) S1):zfl t u ρ S Q:=h
theorem zqY {t:DE}{Q:DK}(h:t ρ S fun x S1=>∃ c,x=.bl c/\Q (.bl (!c)) S1):zgh t ρ S Q:=h
theorem zti {c:DT}{ta tb:DE}{Q:DK}(h:c ρ S fun b S1=>if b=true then ta ρ S1 Q else tb ρ S1 Q):zl7 c ta tb ρ S Q:=h
theorem ztw {f:Str}{ta:DE}{Q:DK}(h:ta ρ S fun x S1=>∃ n c fs d,x=.ref n/\S1[n]?=some (.ins c fs)/\fs.lookup f=some d/\Q d S1):zaL f ta ρ S Q:=h
theorem ztz {r:D->Option Int->Option Int->Sto->DK->Prop}{ta:DE}{lo hi:Option DE}{Q:DK}(h:ta ρ S fun x S1=>zgX lo ρ S1 fun l S2=>zgX hi ρ S2 fun h S3=>r x l h S3 Q):dSl r ta lo hi ρ S Q:=h
theorem zqj {Q:Option Int->Sto->Prop}(h:Q none S):zgX none ρ S Q:=h
theorem zrU {t:DE}{Q:Option Int->Sto->Prop}(h:t ρ S fun x S1=>∃ i,x=.int i/\Q (some i) S1):zgX (some t) ρ S Q:=h
theorem zo1 {ta tb:DE}{Q:DK}(h:ta ρ S fun x S1=>(∃ z,x=.str z)/\tb ρ S1 fun y S2=>∃ z c zs,x=.str z/\y=.str ⟨#[c]⟩/\z.length<big/\zfQ z c zs/\New Q S2 (zs.map D.str)):zf3 ta tb ρ S Q:=h
theorem zpF {ta tb:DE}{Q:DK}(h:ta ρ S fun x S1=>(∃ z,x=.str z)/\tb ρ S1 fun y S2=>∃ z c,x=.str z/\y=.str ⟨#[c]⟩/\Q (.int (z.cps.toList.count c)) S2):zjt ta tb ρ S Q:=h
theorem zr5 {ta tb:DE}{Q:DK}(h:ta ρ S fun x S1=>(∃ z,x=.str z)/\tb ρ S1 fun y S2=>∃ z n,∃ zs:List Str,x=.str z/\y=.ref n/\S2[n]?=some (.lst (zs.map D.str))/\(zs.map (·.length)).sum+zs.length*z.length<=big/\Q (.str (Str.join z zs)) S2):zgp ta tb ρ S Q:=h
theorem ztN {c:Str}{ta tb:DE}{Q:DK}(h:ta ρ S fun x S1=>(∃ i,x=.int i/\My.Bd 1900 i/\(Str.ofString (toString i)).length<=1000/\c.length<=1000)/\tb ρ S1 fun y S2=>∃ i j,x=.int i/\y=.int j/\My.Bd 1900 j/\(Str.ofString (toString j)).length<=1000/\Q (.str (Str.ofString (toString i)++c++Str.ofString (toString j))) S2):dF3 c ta tb ρ S Q:=h
theorem zn6 {ta tb:DE}{Q:DK}(h:ta ρ S fun x S1=>(∃ z,x=.str z)/\tb ρ S1 fun y S2=>∃ z c,x=.str z/\y=.str ⟨#[c]⟩/\Q (.bl (decide (z.cps.toList[0]?=some c))) S2):zii ta tb ρ S Q:=h
theorem zr0 {Q:Bool->Sto->Prop}(h:Q true S):zaE ρ S Q:=h
end
section
variable {S:Sto}{Q:DK}
theorem ztn {i j:Int}(q:Q (.int (i+j)) S):zat (.int i) (.int j) S Q:=.inl ⟨i,j,rfl,rfl,q⟩
theorem zf7 {x y:D}{xs ys:List D}(hx:Lst S x xs)(hy:Lst S y ys)(h:xs.length+ys.length<=big)(q:New Q S (xs++ys)):zat x y S Q:=.inr (.inr (.inl ⟨xs,ys,hx,hy,h,q⟩))
theorem zj1 {i j:Str}(h:i.length+j.length<=big)(q:Q (.str (i++j)) S):zat (.str i) (.str j) S Q:=.inr (.inr (.inr ⟨i,j,rfl,rfl,h,q⟩))
theorem ztt {i j:Int}(q:Q (.int (i-j)) S):zbX (.int i) (.int j) S Q:=⟨i,j,rfl,rfl,q⟩
theorem zsN {i j:Int}(c:zaK i j)(q:Q (.int (i*j)) S):zaM (.int i) (.int j) S Q:=.inl ⟨i,j,rfl,rfl,c,q⟩
theorem zta {c:Nat}{z:Str}(q:Q (.bl (decide (c∈z.cps.toList))) S):oIn (.str ⟨#[c]⟩) (.str z) S Q:=.inr ⟨c,z,rfl,rfl,q⟩
theorem zsk {i j:Int}(c:0<j/\My.Bd 8000 j)(q:Q (.int (i/j)) S):oDiv (.int i) (.int j) S Q:=⟨i,j,rfl,rfl,⟨by omega,c.2⟩,by show Q (.int (i.fdiv j)) S;rw [Int.fdiv_eq_ediv_of_nonneg i (by omega)];exact q⟩
theorem zr9 {i j:Int}(c:0<j)(q:Q (.int (i%j)) S):oMod (.int i) (.int j) S Q:=⟨i,j,rfl,rfl,(by show j≠0;omega),by show Q (.int (i.fmod j)) S;rw [Int.fmod_eq_emod_of_nonneg i (by omega)];exact q⟩
theorem zmP {i j:Int}(c:zoA i j)(q:Q (.int (i.fdiv j)) S):oDiv (.int i) (.int j) S Q:=⟨i,j,rfl,rfl,c,q⟩
theorem zrX {i j:Int}(c:j≠0)(q:Q (.int (i.fmod j)) S):oMod (.int i) (.int j) S Q:=⟨i,j,rfl,rfl,c,q⟩
theorem ztv {i:Int}(q:Q (.int (-i)) S):zfI (.int i) S Q:=⟨i,rfl,q⟩
theorem zt0 {i j:Int}(q:Q (.bl (decide (i<j))) S):oLt (.int i) (.int j) S Q:=⟨i,j,rfl,rfl,q⟩
theorem ztZ {i j:Int}(q:Q (.bl (decide (i<=j))) S):oLe (.int i) (.int j) S Q:=⟨i,j,rfl,rfl,q⟩
theorem ztS {i j:Int}(q:Q (.bl (decide (j<i))) S):oGt (.int i) (.int j) S Q:=⟨i,j,rfl,rfl,q⟩
theorem zsc {i j:Int}(q:Q (.bl (decide (i=j))) S):oEq (.int i) (.int j) S Q:=⟨_,.inl ⟨rfl,rfl,rfl⟩,q⟩
theorem zst {i j:Int}(q:Q (.bl (!decide (i=j))) S):oNe (.int i) (.int j) S Q:=⟨_,.inl ⟨rfl,rfl,rfl⟩,q⟩
theorem zua {x:D}(q:Q (.bl (zcZ x)) S):oIs x .non S Q:=.inl ⟨rfl,q⟩
theorem zqI (q:Q (.bl false) S):zfG .non .non S Q:=.inl ⟨rfl,q⟩
theorem zri {i:Int}(q:Q (.bl true) S):zfG (.int i) .non S Q:=.inl ⟨rfl,q⟩
theorem zsV {x:D}(q:Q (.bl (!zcZ x)) S):zfG x .non S Q:=.inl ⟨rfl,q⟩
theorem zsR {xs:List D}{i:Int}{d:D}(e:atD xs i=some d)(q:Q d S):oIx (.tup xs) (.int i) S Q:=.inl ⟨i,xs,d,rfl,.inl rfl,e,q⟩
theorem zgi {x:D}{xs:List D}{i:Int}{d:D}(h:Lst S x xs)(e:atD xs i=some d)(q:Q d S):oIx x (.int i) S Q:=.inl ⟨i,xs,d,rfl,.inr h,e,q⟩
theorem zoC {z:Str}{i:Int}{c:Nat}(hz:z.length<=big)(e:atS z i=some c)(q:Q (.str ⟨#[c]⟩) S):oIx (.str z) (.int i) S Q:=.inr ⟨z,i,c,rfl,rfl,hz,e,q⟩
theorem zrF {x:D}{xs:List D}{lo hi:Option Int}(h:Lst S x xs)(q:New Q S (cutD xs lo hi)):zf2 x lo hi S Q:=.inr (.inl ⟨xs,h,q⟩)
theorem zrO {z:Str}{lo hi:Option Int}(hz:z.length<=big)(q:Q (.str (zic z lo hi)) S):zf2 (.str z) lo hi S Q:=.inr (.inr ⟨z,rfl,hz,q⟩)
theorem zrq {xs:List D}(q:Q (.int xs.length) S):za1 [.tup xs] S Q:=.inl ⟨_,xs,rfl,.inl rfl,q⟩
theorem zrD {x:D}{xs:List D}(h:Lst S x xs)(q:Q (.int xs.length) S):za1 [x] S Q:=.inl ⟨_,xs,rfl,.inr h,q⟩
theorem zhn {z:Str}(hz:z.length<=big)(q:Q (.int z.length) S):za1 [.str z] S Q:=.inr ⟨z,rfl,hz,q⟩
theorem ztp {i:Int}(q:Q (.int (i.natAbs:Int)) S):znG [.int i] S Q:=⟨i,rfl,q⟩
theorem zjd {x:D}{bs:List Bool}(h:Lst S x (bs.map D.bl))(q:Q (.bl (bs.all id)) S):zd7 [x] S Q:=⟨x,bs,rfl,h,q⟩
theorem znP {x:D}{xs:List D}(h:Lst S x xs)(q:Q (.tup xs) S):zj5 [x] S Q:=⟨_,xs,rfl,.inr h,q⟩
theorem zpv {x:D}{xs:List D}(h:Lst S x xs)(q:New Q S xs):zed [x] S Q:=⟨_,xs,rfl,.inr h,q⟩
theorem zpW {xs:List D}(q:New Q S xs):zed [.tup xs] S Q:=⟨_,xs,rfl,.inl rfl,q⟩
theorem zdu {i:Int}(h:My.Bd 1900 i)(q:Q (.str (Str.ofString (toString i))) S):zc5 [.int i] S Q:=.inl ⟨i,rfl,h,q⟩
theorem zqi {z:Str}(q:Q (.str z) S):zc5 [.str z] S Q:=.inr ⟨z,rfl,q⟩
theorem zqk {z:Str}{n:Int}(hl:z.length<=640)(h:zjK z n)(q:Q (.int n) S):zji [.str z] S Q:=⟨z,n,rfl,hl,h,q⟩
theorem zn8 {n:Nat}{xs:List D}{y:D}(h:S[n]?=some (.lst xs))(hl:xs.length<big)(q:Put (Q .non) S n (.lst (xs++[y]))):zbk (.ref n) [y] S Q:=⟨n,xs,y,rfl,rfl,h,hl,q⟩
theorem zth {n:Nat}{xs:List D}{k:Int}{j:Nat}{d:D}{ρ:Rho}{Q:Rho->Sto->Prop}(h:S[n]?=some (.lst xs))(e:ixD xs.length k=some j)(q:Put (Q ρ) S n (.lst (xs.set j d))):zoB d ρ Q (.ref n) (.int k) S:=⟨n,xs,k,j,rfl,rfl,h,e,q⟩
end
section
variable {ρ:Rho}{S:Sto}{R:DIt->Sto->Prop}
theorem zrd {t:DE}(h:t ρ S fun x S1=>zhp x S1 R):zaP t ρ S R:=h
theorem zs6 {xs:List D}(q:R ⟨xs,fun _=>True⟩ S):zhp (.tup xs) S R:=.inl ⟨xs,rfl,q⟩
theorem zsK {x:D}{xs:List D}(h:Lst S x xs)(q:R ⟨xs,fun S=>Lst S x xs⟩ S):zhp x S R:=.inr (.inl ⟨xs,h,q⟩)
theorem ztq {z:Str}(q:R ⟨signs z,fun _=>True⟩ S):zhp (.str z) S R:=.inr (.inr ⟨z,rfl,q⟩)
theorem zqR {t:DA}(h:t ρ S fun vs S1=>∃ j:Int,vs=[.int j]/\-(2 ^ 62)<=j/\j<2 ^ 62/\R ⟨upto 0 j.toNat,fun _=>True⟩ S1):zdU t ρ S R:=h
theorem zp3 {t:DA}(h:t ρ S fun vs S1=>∃ i j:Int,vs=[.int i,.int j]/\R ⟨upto i (j-i).toNat,fun _=>True⟩ S1):zhh t ρ S R:=h
theorem zqq {Q:DK}{x:D}{zs:List Str}(hx:Lst S x (zs.map D.str))(hl:zs.length<=4000)(q:Q (.int (zob zs)) S):zlw [x] S Q:=⟨x,zs,rfl,hx,hl,q⟩
theorem ztR {own:Nat}{fv:List Nat}{wi:DI}{g:DG}{tc:DT}{te:DE}{Q:DK}(h:wi ρ S fun J S1=>zoc own fv g tc te ρ Q J S1):dLC own fv wi g tc te ρ S Q:=h
end
theorem znI {A B:Prop}(h:B):if false=true then A else B:=by rw [if_neg Bool.false_ne_true];exact h
theorem znp {A B:Prop}(h:A):if true=true then A else B:=by rw [if_pos rfl];exact h
theorem r_d {c A B:Prop}[Decidable c](h1:c->A)(h2:¬ c->B):if decide c=true then A else B:=by
 by_cases h:c
 ·rw [decide_eq_true h,if_pos rfl];exact h1 h
 ·rw [decide_eq_false h,if_neg Bool.false_ne_true];exact h2 h
theorem zni {c A B:Prop}[Decidable c](h1:¬ c->A)(h2:c->B):if (!decide c)=true then A else B:=by
 by_cases h:c
 ·rw [decide_eq_true h];exact h2 h
 ·rw [decide_eq_false h];exact h1 h
theorem zbo (S T:Sto)(k:Nat):(S++T)[S.length+k]?=T[k]?:=by
 rw [List.getElem?_append_right (Nat.le_add_right _ _),Nat.add_sub_cancel_left]
theorem zoG (S T:Sto):(S++T)[S.length]?=T[0]?:=zbo S T 0
theorem zaN {S T:Sto}{c:Cell}:(S++c::T)[S.length]?=some c:=(zbo S (c::T) 0).trans rfl
theorem zk3 {S T:Sto}{c:Cell}:(S++(T++[c]))[S.length+T.length]?=some c:=by rw [zbo,List.getElem?_append_right (Nat.le_refl _),Nat.sub_self];rfl
theorem zpu (S T:Sto)(k:Nat)(c:Cell):(S++T).set (S.length+k) c=S++T.set k c:=by
 rw [List.set_append_right _ _ (Nat.le_add_right _ _),Nat.add_sub_cancel_left]
theorem zck (S T:Sto)(a c:Cell):(S++a::T).set S.length c=S++c::T:=zpu S (a::T) 0 c
theorem zQ {S T:Sto}{n:Nat}{c:Cell}(h:S[n]?=some c):(S++T)[n]?=some c:=by
 have:n<S.length:=by
  rcases Nat.lt_or_ge n S.length with g|g
  ·exact g
  ·rw [List.getElem?_eq_none g] at h;cases h
 rw [List.getElem?_append_left this];exact h
theorem Lst.old {S T:Sto}{x:D}{xs:List D}(h:Lst S x xs):Lst (S++T) x xs:=h.imp id fun⟨n,e,h⟩=>⟨n,e,zQ h⟩
theorem Lst.at {S T:Sto}{k:Nat}{xs:List D}(h:T[k]?=some (.lst xs)):Lst (S++T) (.ref (S.length+k)) xs:=.inr ⟨_,rfl,by rw [zbo];exact h⟩
theorem Lst.at0 {S T:Sto}{xs:List D}:Lst (S++.lst xs::T) (.ref S.length) xs:=.inr ⟨_,rfl,by rw [zoG];rfl⟩
theorem Lst.new {S T:Sto}{xs:List D}:Lst (S++(T++[.lst xs])) (.ref (S.length+T.length)) xs:=.inr ⟨_,rfl,zk3⟩
theorem Lst.rl {S:Sto}{xs:List D}:Lst S (.rl xs) xs:=.inl rfl
theorem Lst.here {S:Sto}{n:Nat}{xs:List D}(h:S[n]?=some (.lst xs)):Lst S (.ref n) xs:=.inr ⟨n,rfl,h⟩
theorem zdb {S T:Sto}{Q:DK}{d:D}(h:fl 20 d=true)(q:Q d S):Fin S Q d (S++T):=.inr ⟨S,List.prefix_append _ _,Nat.le_refl _,.inl h,fun _ _ e=>.inl e,q⟩
theorem fin_same {S S':Sto}{Q:DK}{d:D}(q:Q d S'):Fin S Q d S':=.inl q
section
variable {S:Sto}{Q:DK}
theorem zi5 {i:Int}(q:Q (.bl true) S):zdH [.int i,.ty "int"] S Q:=⟨_,_,true,rfl,by rfl,q⟩
theorem zhN {i:Int}(q:Q (.bl false) S):zdH [.int i,.ty "bool"] S Q:=⟨_,_,false,rfl,by rfl,q⟩
theorem zhl {xs:List D}(q:Q (.bl true) S):zdH [.tup xs,.ty "tuple"] S Q:=⟨_,_,true,rfl,by rfl,q⟩
theorem zh3 {n:Nat}{xs:List D}(h:S[n]?=some (.lst xs))(q:Q (.bl true) S):zdH [.ref n,.ty "list"] S Q:=⟨_,_,true,rfl,by unfold znK;rw [if_neg (by decide)];simp only [h];rfl,q⟩
end
theorem zsh {A B:Prop}(h:B):if (!true)=true then A else B:=znI h
theorem zsz {A B:Prop}(h:A):if (!false)=true then A else B:=znp h
theorem zf1 {S:Sto}{Q:DK}{x:D}{bs:List Bool}{b:Bool}(h:Lst S x (bs.map D.bl))(e:bs.all id=b)(q:Q (.bl b) S):zd7 [x] S Q:=zjd h (by rw [e];exact q)
def LcW (S:Sto)(items:List D)(p:D->Bool)(f:D->D)(i:Nat)(ys:List D)(S':Sto):Prop:=S'=S/\ys=((items.take i).filter p).map f
theorem zan {α:Type}{xs:List α}{i:Nat}{x:α}(h:xs[i]?=some x):xs.take (i+1)=xs.take i++[x]:=by rw [List.take_succ,h];rfl
theorem zb6 {S:Sto}{items:List D}{p:D->Bool}{f:D->D}{i:Nat}{ys:List D}{d y:D}(hd:items[i]?=some d)(hw:LcW S items p f i ys S)(hp:p d=true)(hy:y=f d):LcW S items p f (i+1) (ys++[y]) S :=
 ⟨rfl,by rw [zan hd,List.filter_append,List.map_append,<- hw.2,List.filter_cons_of_pos hp,hy];rfl⟩
theorem zbn {own:Nat}{fv:List Nat}{xs:List D}{ok:Sto->Prop}{g:DG}{tc:DT}{te:DE}{ρ:Rho}{S:Sto}{Q:DK}(p:D->Bool)(f:D->D)(hok:ok S)(hbig:xs.length<=big)
  (step:∀ i d ys,xs[i]?=some d->LcW S xs p f i ys S->g d (zgI own fv ρ) S fun ρ2 S2=>tc ρ2 S2 fun b S3=>if b=true then te ρ2 S3 fun y S4=>LcW S xs p f (i+1) (ys++[y]) S4 else LcW S xs p f (i+1) ys S3)
  (q:New Q S ((xs.filter p).map f)):zoc own fv g tc te ρ Q ⟨xs,ok⟩ S:=by
 refine⟨hbig,LcW S xs p f,⟨rfl,by simp⟩,fun i ys S' h=>by rw [h.1];exact hok,fun i d ys S' hd h=>?_,fun ys S' h=>?_⟩
 ·obtain⟨rfl,_⟩:=id h
  exact step i d ys hd h
 ·obtain⟨rfl,rfl⟩:=h
  rw [List.take_length];exact q
theorem filter_true {α:Type}(xs:List α):xs.filter (fun _=>true)=xs:=List.filter_eq_self.mpr fun _ _=>rfl
theorem zbR {ds:List D}{i:Nat}{d:D}(h:ds[i]?=some d):atD ds (i:Int)=some d:=by
 have hl:i<ds.length:=by
  rcases Nat.lt_or_ge i ds.length with g|g
  ·exact g
  ·rw [List.getElem?_eq_none g] at h;cases h
 unfold atD ixD
 rw [if_pos (by omega),if_pos (by omega)]
 simpa using h
theorem zcM {lo:Int}{n i:Nat}{d:D}(h:(upto lo n)[i]?=some d):i<n/\d=.int (lo+i):=by
 unfold upto at h
 rw [List.getElem?_map] at h
 by_cases hi:i<n
 ·rw [List.getElem?_range hi] at h
  exact⟨hi,by simpa using h.symm⟩
 ·rw [List.getElem?_eq_none (by simpa using hi)] at h;cases h
theorem zbd (lo:Int)(n:Nat):(upto lo n).length=n:=by unfold upto;simp
theorem zdw {zs:List Int}{k:Int}(h0:0<=k)(h:k<zs.length):∃ z,z∈zs/\atD (zs.map D.int) k=some (.int z):=by
 refine⟨zs[k.toNat]'(by omega),List.getElem_mem _,?_⟩
 unfold atD ixD
 rw [List.length_map,if_pos h0,if_pos h]
 simp only [Option.bind_some]
 rw [List.getElem?_map,List.getElem?_eq_getElem (by omega)];rfl
theorem zqH {zs:List Int}{k:Int}(h0:0<=k)(h:k<zs.length):ixD (zs.map D.int).length k=some k.toNat:=by
 unfold ixD
 rw [List.length_map,if_pos h0,if_pos h]
theorem zlo {zs:List Int}{i:Nat}{d:D}(h:(zs.map D.int)[i]?=some d):∃ z,zs[i]?=some z/\d=.int z:=by
 rw [List.getElem?_map] at h
 cases e:zs[i]? with
 |none=>rw [e] at h;cases h
 |some p=>rw [e] at h;cases h;exact⟨p,rfl,rfl⟩
theorem zmf {cs:List (Int×Int)}{i:Nat}{d:D}(h:(cs.map p2)[i]?=some d):∃ c,cs[i]?=some c/\d=p2 c:=by
 rw [List.getElem?_map] at h
 cases e:cs[i]? with
 |none=>rw [e] at h;cases h
 |some p=>rw [e] at h;cases h;exact⟨p,rfl,rfl⟩
theorem zae {α:Type}{xs:List α}{i:Nat}{x:α}(h:xs[i]?=some x):i<xs.length:=by
 rcases Nat.lt_or_ge i xs.length with g|g
 ·exact g
 ·rw [List.getElem?_eq_none g] at h;cases h
def zce:Option Int->D
 |none=>.non
 |some v=>.int v
def spT (T:Sto):DSp:=fun ds S Q=>∃ ns:List Int,ds=[.rl (ns.map D.int)]/\(S=T/\∀ n∈ns,Hg n)/\ns.length<=63/\∀ S',Q (.bl true) S'
abbrev zdY:DSp:=spT []
theorem zpC {T:Sto}:∀ ds So Q,spT T ds So Q->ds.length=1:=fun ds So Q ⟨ns,e,_⟩=>by rw [e];rfl
theorem zoF:∀ ds So Q,zdY ds So Q->ds.length=1:=zpC
def onI (f:Int->D):D->D
 |.int h=>f h
 |d=>d
theorem zpH (f:Int->D)(hs:List Int):(hs.map D.int).map (onI f)=hs.map f:=by rw [List.map_map];rfl
section
variable {nx:Rho->Sto->Prop}{rt:DK}{bk ct:Rho->Sto->Prop}{ρ:Rho}{S:Sto}
theorem zoM {f:zfO}{ex:XR}{t:DA}{Q:DK}(h:t ρ S fun xs S1=>f xs S1 Q (ex ρ)):zdB f ex t ρ S Q:=h
theorem zpZ {ex:XR}{c:Str}(h:ex ρ c S):zeL ex c ⟨nx,rt,bk,ct⟩ ρ S:=h
end
theorem zlh {S:Sto}{Q:DK}{x y:Str}{b:Bool}(fx:fl 20 (.str x)=true)(fy:fl 20 (.str y)=true)(e:(x==y)=b)(q:Q (.bl b) S):oEq (.str x) (.str y) S Q:=⟨_,.inl ⟨fx,fy,rfl⟩,by show Q (.bl (x==y)) S;rw [e];exact q⟩
theorem zpA {S:Sto}{Q:DK}{x y:Str}{b:Bool}(fx:fl 20 (.str x)=true)(fy:fl 20 (.str y)=true)(e:(x==y)=b)(q:Q (.bl (!b)) S):oNe (.str x) (.str y) S Q:=⟨_,.inl ⟨fx,fy,rfl⟩,by show Q (.bl (!(x==y))) S;rw [e];exact q⟩
section
variable {nx:Rho->Sto->Prop}{rt:DK}{bk ct:Rho->Sto->Prop}{ρ:Rho}{S:Sto}{Q:DK}{td ti tz tv:DE}
theorem zrr (h:Q (.ref S.length) (S++[.dk []])):zlA ρ S Q:=h
theorem zs3 (h:td ρ S fun x S1=>ti ρ S1 fun y S2=>∃ d,DGt S2 x y (some d)/\Q d S2):zfZ td ti ρ S Q:=h
theorem zrW (h:tv ρ S fun v S1=>td ρ S1 fun x S2=>ti ρ S2 fun y S3=>zhw S3 x y v (nx ρ)):zmb td ti tv ⟨nx,rt,bk,ct⟩ ρ S:=h
theorem DGt.k {n:Nat}{kvs:List (Str×D)}{z:Str}{o:Option D}(h:S[n]?=some (.dk kvs))(e:dval kvs z=o):DGt S (.ref n) (.str z) o:=.inl ⟨n,kvs,z,rfl,rfl,h,e.symm⟩
theorem zhw.k {n:Nat}{kvs:List (Str×D)}{z:Str}{v:D}{P:Sto->Prop}(h:S[n]?=some (.dk kvs))(hl:kvs.length<big)(q:Put P S n (.dk (dput kvs z v))):zhw S (.ref n) (.str z) v P:=.inl ⟨n,kvs,z,rfl,rfl,h,hl,q⟩
end
section
variable {κ:Type}[DecidableEq κ]
theorem zjI {k:κ}:dval ([]:List (κ×D)) k=none:=rfl
theorem zbh {p:κ×D}{kvs:List (κ×D)}{k:κ}:dval (p::kvs) k=if p.1=k then some p.2 else dval kvs k:=by
 unfold dval
 rw [List.find?_cons]
 by_cases h:p.1=k
 ·rw [if_pos h,decide_eq_true h];rfl
 ·rw [if_neg h,decide_eq_false h]
theorem ze7 (kvs:List (κ×D))(k:κ):(kvs.any fun kv=>decide (kv.1=k))=(dval kvs k).isSome:=by
 induction kvs with
 |nil=>rfl
 |cons p kvs ih =>
  rw [List.any_cons,zbh,ih]
  by_cases h:p.1=k
  ·rw [if_pos h,decide_eq_true h];rfl
  ·rw [if_neg h,decide_eq_false h];rfl
theorem zmj (kvs:List (κ×D))(k j:κ)(v:D):dval (kvs++[(k,v)]) j=(dval kvs j).or (if k=j then some v else none):=by
 induction kvs with
 |nil=>rw [List.nil_append,zbh,zjI];simp
 |cons p kvs ih =>
  rw [List.cons_append,zbh,zbh,ih]
  by_cases h:p.1=j
  ·rw [if_pos h,if_pos h];rfl
  ·rw [if_neg h,if_neg h]
theorem zgG (kvs:List (κ×D))(k j:κ)(v:D):dval (dput kvs k v) j=if k=j then some v else dval kvs j:=by
  unfold dput
  rw [ze7]
  cases e:dval kvs k with
  |none =>
    rw [show (none:Option D).isSome=false from rfl,if_neg Bool.false_ne_true,zmj]
    by_cases h:k=j
    · subst h;rw [e,if_pos rfl];rfl
    · rw [if_neg h,if_neg h];cases dval kvs j<;>rfl
  |some w =>
    rw [show (some w).isSome=true from rfl,if_pos rfl]
    have:∀ kvs:List (κ×D),dval (kvs.map fun kv=>if kv.1=k then (kv.1,v) else kv) j=if k=j then (dval kvs j).map fun _=>v else dval kvs j:=fun kvs=>by
      induction kvs with
      |nil=>simp [zjI]
      |cons p kvs ih =>
        rw [List.map_cons,zbh,zbh,ih]
        by_cases hp:p.1=k
        · rw [if_pos hp]
          by_cases h:k=j
          · rw [if_pos h,if_pos (hp.trans h),if_pos (hp.trans h)];simp [h]
          · have:¬ p.1=j:=fun z=>h (hp.symm.trans z)
            rw [if_neg this,if_neg this,if_neg h]
        · rw [if_neg hp]
          by_cases h:k=j
          · have:¬ p.1=j:=fun z=>hp (z.trans h.symm)
            rw [if_neg this,if_neg this]
          · rw [if_neg h,if_neg h]
    rw [this]
    by_cases h:k=j
    · subst h;rw [if_pos rfl,if_pos rfl,e];rfl
    · rw [if_neg h,if_neg h]
end
theorem zgH (c:List Str)(z:Str):(zfE c z).length=if c.any (·==z) then c.length else c.length+1:=by
  unfold zfE;split<;>simp
theorem zjs (c:List Str)(z y:Str):(zfE c z).any (·==y)=(c.any (·==y)||decide (y=z)):=by
  unfold zfE
  by_cases h:c.any (·==z)=true
  · rw [if_pos h]
    by_cases e:y=z
    · subst e;rw [h];rfl
    · rw [decide_eq_false e,Bool.or_false]
  · rw [if_neg h,List.any_append]
    congr 1
    by_cases e:y=z
    · subst e;simp
    · rw [decide_eq_false e]
      have:(z==y)=false:=beq_eq_false_iff_ne.mpr fun q=>e q.symm
      simp [this]
theorem zim (f:Nat->Str):∀ i,(zb8 f i).length<=i
  |0=>Nat.le_refl _
  |i+1=>by
    have:=zim f i
    show (zfE (zb8 f i) (f i)).length<=i+1
    rw [zgH];split<;>omega
theorem zjp (f:Nat->Str)(y:Str):∀ i,((zb8 f i).any (·==y)=true↔∃ j,j<i/\f j=y)
  |0=>⟨fun h=>(by simp [zb8] at h),fun⟨j,hj,_⟩=>(by omega)⟩
  |i+1=>by
    show ((zfE (zb8 f i) (f i)).any (·==y)=true)↔_
    rw [zjs,Bool.or_eq_true,zjp f y i,decide_eq_true_eq]
    constructor
    · rintro (⟨j,hj,e⟩|e)
      · exact⟨j,by omega,e⟩
      · exact⟨i,by omega,e.symm⟩
    · rintro⟨j,hj,e⟩
      rcases Nat.lt_or_ge j i with h|h
      · exact .inl ⟨j,h,e⟩
      · have:j=i:=by omega
        subst this;exact .inr e.symm
theorem zjV (f:Nat->Str):∀ i,(∀ a b,a<b->b<i->f a≠f b)->(zb8 f i).length=i
 |0,_=>rfl
 |i+1,h=>by
  show (zfE (zb8 f i) (f i)).length=i+1
  rw [zgH,zjV f i fun a b x y=>h a b x (by omega)]
  rw [if_neg]
  intro z
  obtain⟨j,hj,e⟩:=(zjp f (f i) i).mp z
  exact h j i hj (by omega) e
theorem zma {zs:List Str}(h:zs.Nodup):zob zs=zs.length:=zjV _ _ fun a b hab hb=>by
 show zs.getD a Str.empty≠zs.getD b Str.empty
 rw [List.getD_eq_getElem?_getD,List.getD_eq_getElem?_getD,List.getElem?_eq_getElem hb,List.getElem?_eq_getElem (show a<zs.length by omega)]
 exact List.pairwise_iff_getElem.mp h a b (by omega) hb hab
end Dp
namespace Rm
structure Pc where
 lo:Int
 hi:Int
 to:Int
 st:Int
instance:DecidableEq Pc:=fun p q=>if h:p.lo=q.lo/\p.hi=q.hi/\p.to=q.to/\p.st=q.st then isTrue (by cases p;cases q;obtain⟨h1,h2,h3,h4⟩:=h;cases h1;cases h2;cases h3;cases h4;rfl) else isFalse (fun e=>h (by subst e;exact⟨rfl,rfl,rfl,rfl⟩))
def Pc.led (p:Pc)(h:Int):Int:=p.to+p.st*(h-p.lo)
def Pc.fin (p:Pc):Int:=p.led p.hi
end Rm
namespace Dp
open PySem Rm
open PySem Rm My
theorem zok {xs:List D}{x:D}:ixD (xs++[x]).length (-1)=some xs.length:=by
 have hl:((xs++[x]).length:Int)=xs.length+1:=by simp
 unfold ixD
 rw [if_neg (by omega),if_pos (by omega)]
 congr 1;omega
theorem zkn {xs:List D}{x:D}:atD (xs++[x]) (-1)=some x:=by
 unfold atD
 rw [zok]
 simp
end Dp
namespace Rm
open My Dp
end Rm
namespace Dp
open PySem Rm My
def cnt (cs:List (Int×Int)):Int:=(cs.map fun c=>c.2-c.1+1).sum
end Dp
namespace Rm
open My Dp
end Rm
namespace Dp
open PySem Rm My
structure Fg where
 x0:Int
 x1:Int
 z0:Int
 z1:Int
 f:Int
 l:Int
 g:Int
 s:Int
abbrev fgD (F:Fg):D:=.tup [.int F.x0,.int F.x1,.int F.z0,.int F.z1,.int F.f,.int F.l,.int F.g,.int F.s]
structure FgB (F:Fg):Prop where
 x:F.x0<=F.x1
 z:F.z0<=F.z1
 b0:Bd 600 F.x0
 b1:Bd 600 F.x1
 b2:Bd 600 F.z0
 b3:Bd 600 F.z1
 bg:Bd 200 F.g
 bs:Bd 200 F.s
theorem zj7 {fs:List Fg}{i:Nat}{d:D}(h:(fs.map fgD)[i]?=some d):∃ F,fs[i]?=some F/\d=fgD F:=by
 rw [List.getElem?_map] at h
 cases e:fs[i]? with
 |none=>rw [e] at h;cases h
 |some p=>rw [e] at h;cases h;exact⟨p,rfl,rfl⟩
theorem Bd.btw {n:Nat}{a b x:Int}(ha:Bd n a)(hb:Bd n b)(h1:a<=x)(h2:x<=b):Bd n x:=by
 unfold Bd at *;omega
def flt (a b:Int×Int):Bool:=decide (a.1*b.2<b.1*a.2)
theorem zhz {cs:List (Int×Int)}{k:Int}(h0:0<=k)(h:k<cs.length):∃ c,cs[k.toNat]?=some c/\atD (cs.map p2) k=some (p2 c):=by
 have hk:k.toNat<cs.length:=by omega
 refine⟨cs[k.toNat],List.getElem?_eq_getElem hk,?_⟩
 have:=zbR (ds:=cs.map p2) (i:=k.toNat) (d:=p2 (cs[k.toNat])) (by rw [List.getElem?_map,List.getElem?_eq_getElem hk];rfl)
 rwa [show ((k.toNat:Nat):Int)=k by omega] at this
def lenV (ms:List (Int×Int)):Int:=(ms.map fun m=>m.2-m.1).sum
def Sv (c:Int×Int)(t b:Int):Prop:=0<c.2/\c.1*b=t*c.2
def hvT (a b p:Int×Int):Int:=if 0<b.1-a.1 then a.2*(b.1-a.1)*p.2+(b.2-a.2)*(p.1-a.1*p.2) else -(a.2*(b.1-a.1)*p.2+(b.2-a.2)*(p.1-a.1*p.2))
def hvB (a b p:Int×Int):Int:=if 0<b.1-a.1 then (b.1-a.1)*p.2 else -((b.1-a.1)*p.2)
theorem zld {a b p:Int×Int}(h:b.1≠a.1)(hp:0<p.2):0<hvB a b p:=by
 unfold hvB
 split
 ·exact Int.mul_pos (by omega) hp
 ·have:=Int.mul_pos (show 0 < -(b.1-a.1) by omega) hp
  rw [Int.neg_mul] at this
  exact this
theorem zp6 {c d:Int×Int}{t b u e:Int}(hb:0<b)(he:0<e)(hc:Sv c t b)(hd:Sv d u e):flt c d=decide (t*e<u*b):=by
 obtain⟨c0,c1⟩:=hc
 obtain⟨d0,d1⟩:=hd
 unfold flt
 refine decide_eq_decide.mpr ?_
 have hbe:0<b*e:=Int.mul_pos hb he
 have hcd:0<c.2*d.2:=Int.mul_pos c0 d0
 rw [<- Int.mul_lt_mul_right hbe,<- Int.mul_lt_mul_right (b:=t*e) (c:=u*b) hcd]
 have e1:c.1*d.2*(b*e)=t*e*(c.2*d.2):=by
  have:c.1*d.2*(b*e)=c.1*b*(d.2*e):=by grind
  rw [this,c1];grind
 have e2:d.1*c.2*(b*e)=u*b*(c.2*d.2):=by
  have:d.1*c.2*(b*e)=d.1*e*(c.2*b):=by grind
  rw [this,d1];grind
 rw [e1,e2]
structure Grd (cs:List (Int×Int)):Prop where
 two:2<=cs.length
 most:cs.length<=40
 asc:cs.Pairwise fun a b=>a.1<b.1
 bd:∀ c∈cs,Bd 170 c.1/\Bd 190 c.2
def zhX (cs:List (Int×Int)):Int:=(cs.getD 0 (0,0)).1
def zfD (cs:List (Int×Int)):Int:=(cs.getD (cs.length-1) (0,0)).1
def OnG (cs:List (Int×Int))(p:Int×Int):Prop:=zhX cs*p.2<=p.1/\p.1<=zfD cs*p.2
def zfT:List (Int×Int)->Int×Int->Option ((Int×Int)×(Int×Int))
 |a::b::r,p=>if p.1<=b.1*p.2 then some (a,b) else zfT (b::r) p
 |_,_=>none
theorem seg_at:∀ {cs:List (Int×Int)} {p:Int×Int} {k:Nat} {a b:Int×Int},cs[k]?=some a->cs[k+1]?=some b->p.1<=b.1*p.2->(∀ j c,1<=j->j<=k->cs[j]?=some c->c.1*p.2<p.1)->zfT cs p=some (a,b)
 |[],p,k,a,b,h,_,_,_=>by simp at h
 |[x],p,0,a,b,_,h,_,_=>by simp at h
 |[x],p,k+1,a,b,h,_,_,_=>by simp at h
 |x::y::r,p,0,a,b,h1,h2,h3,_=>by
  simp at h1 h2
  subst h1 h2
  unfold zfT
  rw [if_pos h3]
 |x::y::r,p,k+1,a,b,h1,h2,h3,h4=>by
  have:=h4 1 y (by omega) (by omega) rfl
  unfold zfT
  rw [if_neg (by omega)]
  exact seg_at (by simpa using h1) (by simpa using h2) h3 fun j c j1 j2 hc=>h4 (j+1) c (by omega) (by omega) (by simpa using hc)
theorem zg4:∀ {cs:List (Int×Int)} {p:Int×Int},2<=cs.length->p.1<=zfD cs*p.2->∃ k a b,cs[k]?=some a/\cs[k+1]?=some b/\p.1<=b.1*p.2/\∀ j c,1<=j->j<=k->cs[j]?=some c->c.1*p.2<p.1
 |[],p,h,_=>by simp at h
 |[x],p,h,_=>by simp at h
 |[x,y],p,_,h=>⟨0,x,y,rfl,rfl,h,fun j c j1 j2=>by omega⟩
 |x::y::z::r,p,_,h=>by
  by_cases g:p.1<=y.1*p.2
  ·exact⟨0,x,y,rfl,rfl,g,fun j c j1 j2=>by omega⟩
  ·obtain⟨k,a,b,h1,h2,h3,h4⟩:=zg4 (cs:=y::z::r) (p:=p) (by simp) h
   refine⟨k+1,a,b,by simpa using h1,by simpa using h2,h3,fun j c j1 j2 hc=>?_⟩
   cases j with
   |zero=>omega
   |succ j =>
    cases j with
    |zero=>simp at hc;subst hc;omega
    |succ j=>exact h4 (j+1) c (by omega) (by omega) (by simpa using hc)
theorem zdA {cs:List (Int×Int)}(g:Grd cs){i j:Nat}{a b:Int×Int}(hij:i<j)(ha:cs[i]?=some a)(hb:cs[j]?=some b):a.1<b.1:=by
 have h1:=zae ha
 have h2:=zae hb
 rw [List.getElem?_eq_getElem h1] at ha
 rw [List.getElem?_eq_getElem h2] at hb
 cases ha;cases hb
 exact List.pairwise_iff_getElem.mp g.asc i j h1 h2 hij
theorem zcJ {cs:List (Int×Int)}(g:Grd cs):∃ a,cs[0]?=some a/\zhX cs=a.1:=by
 have:=g.two
 obtain⟨a,h⟩:∃ a,cs[0]?=some a:=⟨cs[0],List.getElem?_eq_getElem (by omega)⟩
 exact⟨a,h,by unfold zhX;rw [List.getD_eq_getElem?_getD,h];rfl⟩
theorem zkq {cs:List (Int×Int)}(g:Grd cs):∃ a,cs[cs.length-1]?=some a/\zfD cs=a.1:=by
 have:=g.two
 obtain⟨a,h⟩:∃ a,cs[cs.length-1]?=some a:=⟨cs[cs.length-1],List.getElem?_eq_getElem (by omega)⟩
 exact⟨a,h,by unfold zfD;rw [List.getD_eq_getElem?_getD,h];rfl⟩
def GAt (S:Sto)(g:D)(cs:List (Int×Int)):Prop:=∃ n l,g=.ref n/\S[n]?=some (.ins "Ground" [("corners",.ref l)])/\S[l]?=some (.lst (cs.map p2))
theorem GAt.old {S T:Sto}{g:D}{cs:List (Int×Int)}(h:GAt S g cs):GAt (S++T) g cs:=let ⟨n,l,e,h1,h2⟩:=h;⟨n,l,e,zQ h1,zQ h2⟩
theorem ztr {S:Sto}{P:D->Prop}{n l:Nat}(h:S[n]?=some (.ins "Ground" [("corners",.ref l)]))(q:P (.ref l)):∃ m c fs d,D.ref n=.ref m/\S[m]?=some (.ins c fs)/\fs.lookup ("corners":Str)=some d/\P d:=⟨n,_,_,_,rfl,h,by simp [List.lookup_cons],q⟩
theorem zny {cs:List (Int×Int)}(gr:Grd cs):∃ z,cs[cs.length-1]?=some z/\zfD cs=z.1/\atD (cs.map p2) (-1)=some (p2 z):=by
 have g1:=gr.two
 obtain⟨z,hz,ez⟩:=zkq gr
 refine⟨z,hz,ez,?_⟩
 have hne:cs≠[]:=fun e=>by rw [e] at g1;simp at g1
 have en:cs=cs.dropLast++[z]:=by
  have h2:=List.dropLast_concat_getLast hne
  have h3:cs.getLast hne=z:=by
   rw [List.getLast_eq_getElem]
   have hl':=zae hz
   rw [List.getElem?_eq_getElem hl'] at hz
   cases hz;rfl
  rw [h3] at h2
  exact h2.symm
 rw [en,List.map_append];exact zkn
structure Brk (cs:List (Int×Int))(p a b:Int×Int):Prop where
 ma:a∈cs
 mb:b∈cs
 lt:a.1<b.1
 lo:a.1*p.2<=p.1
 hi:p.1<=b.1*p.2
 no:∀ c∈cs,¬ (a.1<c.1/\c.1<b.1)
theorem zll {cs:List (Int×Int)}(gr:Grd cs){p:Int×Int}(on:OnG cs p):∃ a b,zfT cs p=some (a,b)/\Brk cs p a b:=by
 obtain⟨k,a,b,ha,hb,hle,hlt⟩:=zg4 gr.two on.2
 refine⟨a,b,seg_at ha hb hle hlt,List.mem_of_getElem? ha,List.mem_of_getElem? hb,zdA gr (by omega) ha hb,?_,hle,fun c hc h=>?_⟩
 ·cases k with
  |zero =>
   obtain⟨f,hf,ef⟩:=zcJ gr
   rw [ha] at hf
   cases hf
   have:=on.1
   rw [ef] at this
   exact this
  |succ k=>exact Int.le_of_lt (hlt (k+1) a (by omega) (by omega) ha)
 ·obtain⟨j,hj⟩:=List.mem_iff_getElem?.mp hc
  rcases Nat.lt_trichotomy j k with g|g|g
  ·have:=zdA gr g hj ha;omega
  ·subst g;rw [ha] at hj;cases hj;omega
  ·rcases Nat.lt_or_ge (k+1) j with g2|g2
   ·have:=zdA gr g2 hb hj;omega
   ·have:j=k+1:=by omega
    subst this;rw [hb] at hj;cases hj;omega
theorem zc0 {own:Nat}{fv:List Nat}{xs:List D}{ok:Sto->Prop}{g:DG}{tc:DT}{te:DE}{ρ:Rho}{S:Sto}{Q:DK}(W:Nat->List D->Sto->Prop)(h0:W 0 [] S)(hok:∀ i ys S,W i ys S->ok S)(hbig:xs.length<=big)
  (step:∀ i d ys S,xs[i]?=some d->W i ys S->g d (zgI own fv ρ) S fun ρ2 S2=>tc ρ2 S2 fun b S3=>if b=true then te ρ2 S3 fun y S4=>W (i+1) (ys++[y]) S4 else W (i+1) ys S3)
  (fin:∀ ys S,W xs.length ys S->New Q S ys):zoc own fv g tc te ρ Q ⟨xs,ok⟩ S:=⟨hbig,W,h0,hok,step,fin⟩
def zhM (cs:List (Int×Int))(s:Int×Int):Prop:=OnG cs (s.1,1)/\∀ a b,zfT cs (s.1,1)=some (a,b)->hvT a b (s.1,1)<=s.2*hvB a b (s.1,1)
def zdq (t b:Int):Int:=-(-t/b)
theorem zpg {t b:Int}(hb:0<b):t<=zdq t b*b/\(zdq t b-1)*b<t:=by
 unfold zdq
 have h1:=Int.ediv_mul_le (-t) (b:=b) (by omega)
 have h2:=Int.lt_ediv_add_one_mul_self (-t) hb
 rw [Int.neg_mul,Int.sub_mul,Int.neg_mul,Int.one_mul]
 rw [Int.add_mul,Int.one_mul] at h2
 omega
theorem zoT {t b z:Int}(hb:0<b):zdq t b<=z↔t<=z*b:=by
 obtain⟨h1,h2⟩:=zpg (t:=t) hb
 constructor
 ·intro h
  exact Int.le_trans h1 (Int.mul_le_mul_of_nonneg_right h (Int.le_of_lt hb))
 ·intro h
  rcases Int.lt_or_le z (zdq t b) with g|g
  ·have:=Int.mul_le_mul_of_nonneg_right (show z<=zdq t b-1 by omega) (Int.le_of_lt hb)
   omega
  ·exact g
theorem zk5 {cs:List (Int×Int)}(gr:Grd cs){p r:Int×Int}{xx:Int}(bk:Brk cs (xx,1) p r):0<hvB p r (xx,1)/\Bd 171 (hvB p r (xx,1))/\Bd 400 (hvT p r (xx,1))/\Bd 192 (zdq (hvT p r (xx,1)) (hvB p r (xx,1))):=by
 have hpr:=bk.lt
 have hB:0<hvB p r (xx,1):=zld (by omega) (show (0:Int)<1 by decide)
 obtain⟨bp1,bp2⟩:=gr.bd p bk.ma
 obtain⟨br1,br2⟩:=gr.bd r bk.mb
 have h1':p.1<=xx:=by have:p.1*1<=xx:=bk.lo;omega
 have h2':xx<=r.1:=by have:xx<=r.1*1:=bk.hi;omega
 have bx:Bd 171 xx:=(Bd.btw (n:=170) bp1 br1 h1' h2').mono (by decide)
 have bT:Bd 400 (hvT p r (xx,1)):=by
  have r1:Bd 171 (r.1-p.1):=Bd.sub br1 bp1
  have r2:Bd 191 (r.2-p.2):=Bd.sub br2 bp2
  have m1:Bd 361 (p.2*(r.1-p.1)):=Bd.mul bp2 r1
  have m2:Bd 172 (xx-p.1):=Bd.sub bx (bp1.mono (by decide))
  have m3:Bd 363 ((r.2-p.2)*(xx-p.1)):=Bd.mul r2 m2
  unfold hvT
  rw [if_pos (by omega)]
  dsimp only
  rw [Int.mul_one,Int.mul_one]
  exact (Bd.add (n:=363) (m1.mono (by decide)) m3).mono (by decide)
 have bB:Bd 171 (hvB p r (xx,1)):=by
  unfold hvB
  rw [if_pos (by omega)]
  dsimp only
  rw [Int.mul_one]
  exact Bd.sub br1 bp1
 refine⟨hB,bB,bT,?_⟩
 have eT:hvT p r (xx,1)=p.2*(r.1-xx)+r.2*(xx-p.1):=by
  unfold hvT
  rw [if_pos (by omega)]
  dsimp only
  grind
 have eB:hvB p r (xx,1)=(r.1-xx)+(xx-p.1):=by
  unfold hvB
  rw [if_pos (by omega)]
  dsimp only
  omega
 have lo:-(2 ^ 190)*hvB p r (xx,1)<=hvT p r (xx,1):=by
  rw [eT,eB]
  have k1:=Int.mul_le_mul_of_nonneg_right (show -(2 ^ 190:Int)<=p.2 by unfold Bd at bp2;omega) (show 0<=r.1-xx by omega)
  have k2:=Int.mul_le_mul_of_nonneg_right (show -(2 ^ 190:Int)<=r.2 by unfold Bd at br2;omega) (show 0<=xx-p.1 by omega)
  rw [Int.mul_add]
  omega
 have hi:hvT p r (xx,1)<=2 ^ 190*hvB p r (xx,1):=by
  rw [eT,eB]
  have k1:=Int.mul_le_mul_of_nonneg_right (show p.2<=(2 ^ 190:Int) by unfold Bd at bp2;omega) (show 0<=r.1-xx by omega)
  have k2:=Int.mul_le_mul_of_nonneg_right (show r.2<=(2 ^ 190:Int) by unfold Bd at br2;omega) (show 0<=xx-p.1 by omega)
  rw [Int.mul_add]
  omega
 have d1:-(2 ^ 190)<=-hvT p r (xx,1)/hvB p r (xx,1):=(Int.le_ediv_iff_mul_le hB).mpr (by rw [Int.neg_mul];omega)
 have d2:-hvT p r (xx,1)/hvB p r (xx,1)<=2 ^ 190:=Int.ediv_le_of_le_mul hB (by
  have:=lo
  rw [Int.neg_mul] at this
  omega)
 unfold zdq
 show _<2 ^ 192
 omega
def zcT (cs:List (Int×Int))(x:Int):Int:=match zfT cs (x,1) with
 |some (a,b)=>zdq (hvT a b (x,1)) (hvB a b (x,1))
 |none=>0
theorem zoa {cs:List (Int×Int)}(gr:Grd cs){s:Int×Int}(on:OnG cs (s.1,1)):zhM cs s↔zcT cs s.1<=s.2:=by
 obtain⟨a,b,seg,bk⟩:=zll gr on
 have hB:=(zk5 gr bk).1
 unfold zcT
 rw [seg]
 dsimp only
 rw [zoT hB]
 constructor
 ·intro h;exact h.2 a b seg
 ·intro h
  refine⟨on,fun a' b' seg'=>?_⟩
  rw [seg] at seg';cases seg';exact h
theorem znB {cs:List (Int×Int)}(gr:Grd cs){x:Int}(on:OnG cs (x,1)):Bd 192 (zcT cs x):=by
 obtain⟨a,b,seg,bk⟩:=zll gr on
 unfold zcT
 rw [seg]
 exact (zk5 gr bk).2.2.2
section
variable {g:Int}{p q r s d t u v:Int×Int}
end
section
variable {cs:List (Int×Int)}{a b:Int×Int}{rp:List (Int×Int)}
end
section
variable {w h t m:Int}{cs:List (Int×Int)}
end
abbrev bcD (b:Str×(Int×Int)):D:=.tup [.str b.1,.int b.2.1,.int b.2.2]
def abc:List Nat:=List.range' 97 26
theorem zqf:("abcdefghijklmnopqrstuvwxyz":Str).cps.toList=abc:=by decide +kernel
theorem zgg {c:Nat}:c∈abc↔97<=c/\c<=122:=by unfold abc;rw [List.mem_range'_1];omega
def nmB (z:Str):Bool:=decide (1<=z.length)&&(decide (z.length<=8)&&z.cps.toList.all fun c=>decide (c∈abc))
theorem zeB {z:Str}:nmB z=true↔1<=z.length/\z.length<=8/\∀ c∈z.cps.toList,c∈abc:=by
 unfold nmB
 rw [Bool.and_eq_true,Bool.and_eq_true,decide_eq_true_eq,decide_eq_true_eq,List.all_eq_true]
 simp only [decide_eq_true_eq]
theorem zr4 {z:Str}(h:nmB z=true)(k:Nat):fl k (.str z)=true:=by
  have h3:=(zeB.mp h).2.2
  have:z.cps.all (· < 0x110000)=true:=by
    rw [Array.all_eq_true']
    intro x hx
    have:=zgg.mp (h3 x (Array.mem_toList_iff.mpr hx))
    simp;omega
  cases k<;>exact this
structure Vl where
 cs:List (Int×Int)
 bs:List (Str×(Int×Int))
 fs:List Fg
 hz:Option Int
 h0:Int
 h1:Int
 dl:Int
structure FgV (F:Fg):Prop where
 b:FgB F
 o:F.f<=F.l
 f:Bd 300 F.f
 l:Bd 300 F.l
structure zjw (V:Vl):Prop where
 gr:Grd V.cs
 b1:1<=V.bs.length
 b12:V.bs.length<=12
 nm:∀ b∈V.bs,nmB b.1=true
 nd:(V.bs.map (·.1)).Nodup
 st:∀ b∈V.bs,zhM V.cs b.2
 bd:∀ b∈V.bs,Bd 180 b.2.1/\Bd 200 b.2.2
 f12:V.fs.length<=12
 fg:∀ F∈V.fs,FgV F
 hz:∀ z,V.hz=some z->0<=z
 hh:V.h0<=V.h1
 b0:Bd 250 V.h0
 bl:Bd 250 V.h1
 dl:0<=V.dl
abbrev vF (g b f h a l d:D):List (Str×D):=[("ground",g),("beacons",b),("fogs",f),("haze",h),("first",a),("last",l),("delay",d)]
def VAt (S:Sto)(v:D)(V:Vl):Prop:=∃ n g b f,v=.ref n/\S[n]?=some (.ins "Valley" (vF (.ref g) (.ref b) (.ref f) (zce V.hz) (.int V.h0) (.int V.h1) (.int V.dl)))/\GAt S (.ref g) V.cs/\S[b]?=some (.lst (V.bs.map bcD))/\S[f]?=some (.lst (V.fs.map fgD))
theorem VAt.old {S T:Sto}{v:D}{V:Vl}(h:VAt S v V):VAt (S++T) v V:=let ⟨n,g,b,f,e,h1,h2,h3,h4⟩:=h;⟨n,g,b,f,e,zQ h1,h2.old,zQ h3,zQ h4⟩
section
variable {S:Sto}{P:D->Prop}{n:Nat}{g b f h a l d:D}
theorem znq (k:S[n]?=some (.ins "Valley" (vF g b f h a l d)))(q:P g):∃ m c fs x,D.ref n=.ref m/\S[m]?=some (.ins c fs)/\fs.lookup ("ground":Str)=some x/\P x:=⟨n,_,_,g,rfl,k,by simp [List.lookup_cons],q⟩
theorem zms (k:S[n]?=some (.ins "Valley" (vF g b f h a l d)))(q:P b):∃ m c fs x,D.ref n=.ref m/\S[m]?=some (.ins c fs)/\fs.lookup ("beacons":Str)=some x/\P x:=⟨n,_,_,b,rfl,k,by rw [List.lookup_cons,show ((("beacons":Str)=="ground")=false) by decide +kernel];simp [List.lookup_cons],q⟩
theorem zqb (k:S[n]?=some (.ins "Valley" (vF g b f h a l d)))(q:P f):∃ m c fs x,D.ref n=.ref m/\S[m]?=some (.ins c fs)/\fs.lookup ("fogs":Str)=some x/\P x:=⟨n,_,_,f,rfl,k,by rw [List.lookup_cons,show ((("fogs":Str)=="ground")=false) by decide +kernel];dsimp only;rw [List.lookup_cons,show ((("fogs":Str)=="beacons")=false) by decide +kernel];simp [List.lookup_cons],q⟩
theorem zp4 (k:S[n]?=some (.ins "Valley" (vF g b f h a l d)))(q:P h):∃ m c fs x,D.ref n=.ref m/\S[m]?=some (.ins c fs)/\fs.lookup ("haze":Str)=some x/\P x:=⟨n,_,_,h,rfl,k,by rw [List.lookup_cons,show ((("haze":Str)=="ground")=false) by decide +kernel];dsimp only;rw [List.lookup_cons,show ((("haze":Str)=="beacons")=false) by decide +kernel];dsimp only;rw [List.lookup_cons,show ((("haze":Str)=="fogs")=false) by decide +kernel];simp [List.lookup_cons],q⟩
theorem zpm (k:S[n]?=some (.ins "Valley" (vF g b f h a l d)))(q:P a):∃ m c fs x,D.ref n=.ref m/\S[m]?=some (.ins c fs)/\fs.lookup ("first":Str)=some x/\P x:=⟨n,_,_,a,rfl,k,by rw [List.lookup_cons,show ((("first":Str)=="ground")=false) by decide +kernel];dsimp only;rw [List.lookup_cons,show ((("first":Str)=="beacons")=false) by decide +kernel];dsimp only;rw [List.lookup_cons,show ((("first":Str)=="fogs")=false) by decide +kernel];dsimp only;rw [List.lookup_cons,show ((("first":Str)=="haze")=false) by decide +kernel];simp [List.lookup_cons],q⟩
theorem zrH (k:S[n]?=some (.ins "Valley" (vF g b f h a l d)))(q:P l):∃ m c fs x,D.ref n=.ref m/\S[m]?=some (.ins c fs)/\fs.lookup ("last":Str)=some x/\P x:=⟨n,_,_,l,rfl,k,by rw [List.lookup_cons,show ((("last":Str)=="ground")=false) by decide +kernel];dsimp only;rw [List.lookup_cons,show ((("last":Str)=="beacons")=false) by decide +kernel];dsimp only;rw [List.lookup_cons,show ((("last":Str)=="fogs")=false) by decide +kernel];dsimp only;rw [List.lookup_cons,show ((("last":Str)=="haze")=false) by decide +kernel];dsimp only;rw [List.lookup_cons,show ((("last":Str)=="first")=false) by decide +kernel];simp [List.lookup_cons],q⟩
theorem zpr (k:S[n]?=some (.ins "Valley" (vF g b f h a l d)))(q:P d):∃ m c fs x,D.ref n=.ref m/\S[m]?=some (.ins c fs)/\fs.lookup ("delay":Str)=some x/\P x:=⟨n,_,_,d,rfl,k,by rw [List.lookup_cons,show ((("delay":Str)=="ground")=false) by decide +kernel];dsimp only;rw [List.lookup_cons,show ((("delay":Str)=="beacons")=false) by decide +kernel];dsimp only;rw [List.lookup_cons,show ((("delay":Str)=="fogs")=false) by decide +kernel];dsimp only;rw [List.lookup_cons,show ((("delay":Str)=="haze")=false) by decide +kernel];dsimp only;rw [List.lookup_cons,show ((("delay":Str)=="first")=false) by decide +kernel];dsimp only;rw [List.lookup_cons,show ((("delay":Str)=="last")=false) by decide +kernel];simp [List.lookup_cons],q⟩
end
theorem zhd {bs:List (Str×(Int×Int))}{i:Nat}{d:D}(h:(bs.map bcD)[i]?=some d):∃ b,bs[i]?=some b/\d=bcD b:=by
 rw [List.getElem?_map] at h
 cases e:bs[i]? with
 |none=>rw [e] at h;cases h
 |some p=>rw [e] at h;cases h;exact⟨p,rfl,rfl⟩
def znh (f:Str×(Int×Int)->D):D->D
 |.tup [.str z,.int a,.int b]=>f (z,a,b)
 |d=>d
theorem zjB (f:Str×(Int×Int)->D)(bs:List (Str×(Int×Int))):(bs.map bcD).map (znh f)=bs.map f:=by rw [List.map_map];rfl
theorem zeI {S A B X:Sto}(h:∃ T,A=S++T)(e:B=A++X):∃ T,B=S++T:=let ⟨T,h⟩:=h;⟨T++X,by rw [e,h,List.append_assoc]⟩
theorem znv {f:Str}{v:D}:putD f v []=[(f,v)]:=rfl
theorem zap {f g:Str}{v x:D}{r:List (Str×D)}(h:g≠f):putD f v ((g,x)::r)=(g,x)::putD f v r:=by
 show (if g=f then _ else _)=_
 rw [if_neg h]
section
variable {g b f h a l d:D}
theorem vp2:putD "beacons" b ([("ground",g)]:List (Str×D))=([("ground",g),("beacons",b)]:List (Str×D)):=by rw [zap (by decide +kernel)];rfl
theorem vp3:putD "fogs" f ([("ground",g),("beacons",b)]:List (Str×D))=([("ground",g),("beacons",b),("fogs",f)]:List (Str×D)):=by rw [zap (by decide +kernel),zap (by decide +kernel)];rfl
theorem vp4:putD "haze" h ([("ground",g),("beacons",b),("fogs",f)]:List (Str×D))=([("ground",g),("beacons",b),("fogs",f),("haze",h)]:List (Str×D)):=by rw [zap (by decide +kernel),zap (by decide +kernel),zap (by decide +kernel)];rfl
theorem vp5:putD "first" a ([("ground",g),("beacons",b),("fogs",f),("haze",h)]:List (Str×D))=([("ground",g),("beacons",b),("fogs",f),("haze",h),("first",a)]:List (Str×D)):=by rw [zap (by decide +kernel),zap (by decide +kernel),zap (by decide +kernel),zap (by decide +kernel)];rfl
theorem vp6:putD "last" l ([("ground",g),("beacons",b),("fogs",f),("haze",h),("first",a)]:List (Str×D))=([("ground",g),("beacons",b),("fogs",f),("haze",h),("first",a),("last",l)]:List (Str×D)):=by rw [zap (by decide +kernel),zap (by decide +kernel),zap (by decide +kernel),zap (by decide +kernel),zap (by decide +kernel)];rfl
theorem vp7:putD "delay" d ([("ground",g),("beacons",b),("fogs",f),("haze",h),("first",a),("last",l)]:List (Str×D))=vF g b f h a l d:=by rw [zap (by decide +kernel),zap (by decide +kernel),zap (by decide +kernel),zap (by decide +kernel),zap (by decide +kernel),zap (by decide +kernel)];rfl
end
theorem zfM (z:Int):zce (some z)=.int z:=rfl
theorem ziv:zce none=.non:=rfl
theorem zjo {α:Type}(xs:List α){k:Int}(h0:0<=k)(h1:k<=xs.length):cutD xs (some k) none=xs.drop k.toNat:=by
 unfold cutD slD
 dsimp only
 rw [if_neg (by omega),Nat.min_eq_left (by omega)]
 exact List.take_of_length_le (by rw [List.length_drop];exact Nat.le_refl _)
theorem zk1 (n:Str):∀ zs:List Str,((zs.map D.str).any fun z=>eqv z (.str n))=decide (n∈zs)
 |[]=>by simp
 |z::zs=>by
  rw [List.map_cons,List.any_cons,zk1 n zs]
  show ((z==n)||decide (n∈zs))=decide (n∈z::zs)
  rw [Bool.eq_iff_iff,Bool.or_eq_true,beq_iff_eq,decide_eq_true_eq,decide_eq_true_eq,List.mem_cons]
  exact⟨fun h=>h.imp (·.symm) id,fun h=>h.imp (·.symm) id⟩
theorem zpL {zs:List Str}(h:∀ z∈zs,fl 20 (.str z)=true):(zs.map D.str).all (fl 20)=true:=by
 rw [List.all_map,List.all_eq_true];exact h
theorem zqT {S:Sto}{Q:DK}{x:D}{zs:List Str}{n:Str}(hx:zfL S x (zs.map D.str))(hn:fl 20 (.str n)=true)(h:∀ z∈zs,fl 20 (.str z)=true)(q:Q (.bl (decide (n∈zs))) S):oIn (.str n) x S Q:=.inl ⟨_,⟨_,hx,hn,zpL h,rfl⟩,by rw [zk1];exact q⟩
mutual
theorem eqv_refl:∀ (k:Nat) (d:D),fl k d=true->eqv d d=true
  |_,.non,_=>rfl
  |_,.bl b,_=>by show (b==b)=true;simp
  |_,.int i,_=>by show decide (i=i)=true;simp
  |_,.str x,_=>by show (x==x)=true;simp
  |0,.tup _,h=>by cases h
  |k+1,.tup xs,h=>eqvAll_refl k xs h
  |k,.ref _,h=>by cases k<;>cases h
  |k,.ty _,h=>by cases k<;>cases h
  |k,.rl _,h=>by cases k<;>cases h
  |k,.kt _,h=>by cases k<;>cases h
  |k,.exn _,h=>by cases k<;>cases h
theorem eqvAll_refl:∀ (k:Nat) (xs:List D),xs.all (fl k)=true->eqvAll xs xs=true
  |_,[],_=>rfl
  |k,x::xs,h=>by
    rw [List.all_cons,Bool.and_eq_true] at h
    show (eqv x x&&eqvAll xs xs)=true
    rw [eqv_refl k x h.1,eqvAll_refl k xs h.2];rfl
end
theorem zsl {S:Sto}{Q:DK}{x y:D}{p:PyData}(hx:tre S 20 x=some p)(hy:tre S 20 y=some p)(q:Q (.bl false) S):oNe x y S Q:=⟨true,.inr (.inr (.inr ⟨p,hx,hy,rfl⟩)),q⟩
def onS (p:Str->D):D->D
 |.str z=>p z
 |d=>d
theorem zeD {zs:List Str}{i:Nat}{d:D}(h:(zs.map D.str)[i]?=some d):∃ z,zs[i]?=some z/\d=.str z:=by
 rw [List.getElem?_map] at h
 cases e:zs[i]? with
 |none=>rw [e] at h;cases h
 |some p=>rw [e] at h;cases h;exact⟨p,rfl,rfl⟩
theorem zoN (f:Str->D)(zs:List Str):(zs.map D.str).map (onS f)=zs.map f:=by rw [List.map_map];rfl
theorem zjG {S:Sto}{Q:DK}{x y:Str}(fx:fl 20 (.str x)=true)(fy:fl 20 (.str y)=true)(q:Q (.bl (decide (x=y))) S):oEq (.str x) (.str y) S Q:=zlh fx fy (by
 by_cases h:x=y
 ·subst h;rw [decide_eq_true rfl];exact beq_self_eq_true x
 ·rw [decide_eq_false h];exact beq_eq_false_iff_ne.mpr h) q
open Classical in
theorem zmm {S:Sto}{Q:DK}{x y:Str}(fx:fl 20 (.str x)=true)(fy:fl 20 (.str y)=true)(q:Q (.bl (!decide (x=y))) S):oNe (.str x) (.str y) S Q:=zpA fx fy (by
 by_cases h:x=y
 ·subst h;rw [decide_eq_true rfl];exact beq_self_eq_true x
 ·rw [decide_eq_false h];exact beq_eq_false_iff_ne.mpr h) q
abbrev vlD (x y z:D)(V:Vl):D:=.tup [x,y,z,zce V.hz,.int V.h0,.int V.h1,.int V.dl]
def VlS (S:Sto)(x y z:D)(V:Vl):Prop:=Lst S x (V.cs.map p2)/\Lst S y (V.bs.map bcD)/\Lst S z (V.fs.map fgD)
theorem VlS.old {S T:Sto}{x y z:D}{V:Vl}(h:VlS S x y z V):VlS (S++T) x y z V:=⟨h.1.old,h.2.1.old,h.2.2.old⟩
def z6 (n:Int):Str:=Str.ofString (toString n)
theorem zgc:∀ d:Nat,d<10->(Nat.digitChar d).toNat=d+48:=by decide
theorem zgE (m:Nat):(z6 ((m:Nat):Int)).cps.toList=(Nat.toDigits 10 m).map Char.toNat:=by
 unfold z6
 rw [Str.ofString_eq_toList]
 show ((Nat.repr m).toList.map Char.toNat).toArray.toList=_
 rw [Nat.toList_repr]
theorem zgQ {m:Nat}(h:0<m):(z6 (-((m:Nat):Int))).cps.toList=45::(Nat.toDigits 10 m).map Char.toNat:=by
 obtain⟨k,rfl⟩:∃ k,m=k+1:=⟨m-1,by omega⟩
 unfold z6
 rw [Str.ofString_eq_toList,show -(((k+1:Nat)):Int)=Int.negSucc k from rfl]
 show (("-"++Nat.repr (k+1)).toList.map Char.toNat).toArray.toList=_
 rw [String.toList_append,Nat.toList_repr];rfl
theorem ziB (cs:List Nat)(c:Nat):zct (cs++[c])=zct cs*10+(c-48):=by
 unfold zct
 rw [List.foldl_append];rfl
theorem zpQ (cs:List Nat):∀ a:Nat,a<=cs.foldl (fun acc c=>acc*10+(c-48)) a:=by
 induction cs with
 |nil=>intro a;exact Nat.le_refl _
 |cons c cs ih =>
  intro a
  have:=ih (a*10+(c-48))
  rw [List.foldl_cons];omega
theorem zjE {c:Nat}{cs:List Nat}(h:49<=c):0<zct (c::cs):=by
 have:=zpQ cs (0*10+(c-48))
 unfold zct
 rw [List.foldl_cons];omega
theorem zfB:∀ (n:Nat) (cs:List Nat),cs.length=n->cs≠[]->ze6 cs->(cs=[48]\/cs[0]?≠some 48)->(Nat.toDigits 10 (zct cs)).map Char.toNat=cs
 |0,cs,h,ne,_,_=>absurd (List.eq_nil_of_length_eq_zero h) ne
 |n+1,cs,h,ne,fg,h0=>by
  obtain⟨ds,c,rfl⟩:∃ ds c,cs=ds++[c]:=⟨cs.dropLast,cs.getLast ne,(List.dropLast_concat_getLast ne).symm⟩
  have hc:=fg c (by simp)
  have hd:c-48<10:=by omega
  have e:((Nat.toDigits 10 (c-48)).map Char.toNat)=[c]:=by
   rw [Nat.toDigits_of_lt_base hd]
   show [(Nat.digitChar (c-48)).toNat]=[c]
   rw [zgc _ hd,show c-48+48=c by omega]
  rw [ziB]
  cases ds with
  |nil=>rw [show zct []*10+(c-48)=c-48 from Nat.zero_add _];exact e
  |cons d ds =>
   have fd:=fg d (by simp)
   have hd48:d≠48:=fun z=>by
    rcases h0 with h0|h0
    ·simp at h0
    ·exact h0 (by rw [z];rfl)
   have hp:0<zct (d::ds):=zjE (by omega)
   rw [Nat.mul_comm,<- Nat.toDigits_append_toDigits (by decide) hp hd,List.map_append,e,zfB n (d::ds) (by simpa using h) (by simp) (fun x hx=>fg x (List.mem_append_left _ hx)) (.inr fun z=>hd48 (Option.some.inj (show some d=some 48 from z)))]
theorem zpx:∀ (cs:List Nat),ze6 cs->zct cs<10 ^ cs.length:=fun cs=>by
 suffices h:∀ (n:Nat) (cs:List Nat),cs.length=n->ze6 cs->zct cs<10 ^ n from fun fg=>h _ cs rfl fg
 intro n
 induction n with
 |zero=>intro cs h _;rw [List.eq_nil_of_length_eq_zero h];decide
 |succ n ih =>
  intro cs h fg
  have ne:cs≠[]:=fun z=>by rw [z] at h;cases h
  obtain⟨ds,c,rfl⟩:∃ ds c,cs=ds++[c]:=⟨cs.dropLast,cs.getLast ne,(List.dropLast_concat_getLast ne).symm⟩
  have:=ih ds (by simpa using h) (fun x hx=>fg x (List.mem_append_left _ hx))
  have hc:=fg c (by simp)
  rw [ziB,Nat.pow_succ];omega
def zbq (z:Str):List Nat:=if z.cps.toList[0]?=some 45 then z.cps.toList.drop 1 else z.cps.toList
def WrT (z:Str):Prop:=1<=(zbq z).length/\(zbq z).length<=60/\ze6 (zbq z)/\(z.cps.toList=[48]\/(zbq z)[0]?≠some 48)
theorem zfm {x y:Str}(h:x.cps.toList=y.cps.toList):x=y:=by
 cases x;cases y
 congr 1
 exact Array.toList_inj.mp h
theorem Bd.ten {i:Int}(h:i.natAbs<10 ^ 62):Bd 1900 i:=by
 show i.natAbs<2 ^ 1900
 exact Nat.lt_of_lt_of_le h (Nat.le_trans (show 10 ^ 62<=2 ^ 210 by decide) (Nat.pow_le_pow_right (by decide) (by decide)))
theorem zo5 {z:Str}(h:WrT z):z.length<=61/\∃ n,zjK z n/\z6 n=z/\Bd 1900 n:=by
 obtain⟨h1,h2,h3,h4⟩:=h
 have zl:z.length=z.cps.toList.length:=Array.length_toList.symm
 have lt:=zpx (zbq z) h3
 have lt2:zct (zbq z)<10 ^ 62:=Nat.lt_of_lt_of_le lt (Nat.pow_le_pow_right (by decide) (by omega))
 by_cases m:z.cps.toList[0]?=some 45
 ·have ef:zbq z=z.cps.toList.drop 1:=if_pos m
  have ez:z.cps.toList=45::zbq z:=by
   rw [ef]
   cases e:z.cps.toList with
   |nil=>rw [e] at m;cases m
   |cons c cs=>rw [e] at m;cases m;rfl
  have n48:(zbq z)[0]?≠some 48:=by
   rcases h4 with h4|h4
   ·rw [h4] at m;cases m
   ·exact h4
  generalize zbq z=cs at *
  have ne:cs≠[]:=fun e=>by rw [e] at h1;simp at h1
  have dt:=zfB _ cs rfl ne h3 (.inr n48)
  have pos:0<zct cs:=by
   cases cs with
   |nil=>exact absurd rfl ne
   |cons c cs =>
    have:=h3 c (by simp)
    exact zjE (by
     have:c≠48:=fun e=>n48 (by rw [e];rfl)
     omega)
  refine⟨by rw [zl,ez];simp;omega,-((zct cs:Nat):Int),.inr ⟨cs,ez,h3,ne,rfl⟩,zfm ?_,Bd.ten (by omega)⟩
  rw [zgQ pos,dt,ez]
 ·have ef:zbq z=z.cps.toList:=if_neg m
  rw [ef] at h1 h2 h3 h4 lt2
  have ne:z.cps.toList≠[]:=fun e=>by rw [e] at h1;simp at h1
  refine⟨by omega,((zct z.cps.toList:Nat):Int),.inl ⟨h3,ne,rfl⟩,zfm ?_,Bd.ten (by omega)⟩
  rw [zgE,zfB _ _ rfl ne h3 h4]
theorem zd8:∀ (k m:Nat),m<10 ^ (k+1)->(Nat.toDigits 10 m).length<=k+1/\∀ c∈(Nat.toDigits 10 m).map Char.toNat,c<128
 |0,m,h=>by
  rw [Nat.toDigits_of_lt_base (by simpa using h)]
  refine⟨by simp,fun c hc=>?_⟩
  have:c=(Nat.digitChar m).toNat:=by simpa using hc
  rw [this,zgc m (by simpa using h)]
  have:m<10:=by simpa using h
  omega
 |k+1,m,h=>by
  by_cases hm:m<10
  ·obtain⟨a,b⟩:=zd8 k m (Nat.lt_of_lt_of_le hm (by rw [Nat.pow_succ];have:0<10 ^ k:=Nat.pow_pos (by decide);omega))
   exact⟨by omega,b⟩
  ·have hd:m%10<10:=Nat.mod_lt m (by decide)
   have e:Nat.toDigits 10 m=Nat.toDigits 10 (m/10)++Nat.toDigits 10 (m%10):=by
    rw [Nat.toDigits_append_toDigits (by decide) (by omega) hd,Nat.div_add_mod]
   obtain⟨a,b⟩:=zd8 k (m/10) (by rw [Nat.pow_succ] at h;omega)
   rw [e,Nat.toDigits_of_lt_base hd]
   refine⟨by simp;omega,fun c hc=>?_⟩
   rw [List.map_append] at hc
   rcases List.mem_append.mp hc with hc|hc
   ·exact b c hc
   ·have:c=(Nat.digitChar (m%10)).toNat:=by simpa using hc
    rw [this,zgc _ hd];omega
def Pln (k:Nat)(z:Str):Prop:=z.length<=k/\∀ c∈z.cps.toList,c<128
theorem Pln.fl {k:Nat}{z:Str}(h:Pln k z)(j:Nat):fl j (.str z)=true:=by
  have:z.cps.all (· < 0x110000)=true:=by
    rw [Array.all_eq_true']
    intro x hx
    have:=h.2 x (Array.mem_toList_iff.mpr hx)
    simp;omega
  cases j<;>exact this
theorem Pln.app {j k:Nat}{x y:Str}(hx:Pln j x)(hy:Pln k y):Pln (j+k) (x++y):=by
 have e:(x++y).cps.toList=x.cps.toList++y.cps.toList:=by
  show (x.cps++y.cps).toList=_
  simp
 refine⟨?_,fun c hc=>?_⟩
 ·show (x.cps++y.cps).size<=_
  rw [Array.size_append]
  have h1:x.cps.size<=j:=hx.1
  have h2:y.cps.size<=k:=hy.1
  omega
 ·rw [e] at hc
  rcases List.mem_append.mp hc with hc|hc
  ·exact hx.2 c hc
  ·exact hy.2 c hc
theorem Pln.mono {j k:Nat}{z:Str}(h:Pln j z)(hk:j<=k):Pln k z:=⟨Nat.le_trans h.1 hk,h.2⟩
def onC (p:Nat->Bool):D->D
 |.str z=>.bl (p (z.cps.toList.headD 0))
 |d=>d
theorem ziM {z:Str}{i:Nat}{d:D}(h:(signs z)[i]?=some d):∃ c,z.cps.toList[i]?=some c/\d=.str ⟨#[c]⟩:=by
 unfold signs at h
 rw [List.getElem?_map] at h
 cases e:z.cps.toList[i]? with
 |none=>rw [e] at h;cases h
 |some p=>rw [e] at h;cases h;exact⟨p,rfl,rfl⟩
theorem ziL (p:Nat->Bool)(z:Str):(signs z).map (onC p)=(z.cps.toList.map p).map D.bl:=by
 unfold signs
 rw [List.map_map,List.map_map];rfl
theorem ziF (z:Str):(signs z).length=z.length:=by
 unfold signs
 rw [List.length_map];exact Array.length_toList
theorem zbM {n:Int}(h:Bd 600 n):(z6 n).length<=205/\∀ c∈(z6 n).cps.toList,c<128:=by
 have hp:n.natAbs<10 ^ 204:=Nat.lt_of_lt_of_le h (by
  show 2 ^ 600<=10 ^ 204
  rw [show 600=3*200 from rfl,Nat.pow_mul]
  exact Nat.le_trans (Nat.pow_le_pow_left (show 2 ^ 3<=10 by decide) 200) (Nat.pow_le_pow_right (by decide) (by decide)))
 obtain⟨a,b⟩:=zd8 203 n.natAbs hp
 have zl:(z6 n).length=(z6 n).cps.toList.length:=Array.length_toList.symm
 rcases Int.lt_or_le n 0 with g|g
 ·have e:=zgQ (m:=n.natAbs) (by omega)
  rw [show -((n.natAbs:Nat):Int)=n by omega] at e
  rw [zl,e]
  refine⟨by simp;omega,fun c hc=>?_⟩
  rcases List.mem_cons.mp hc with rfl|hc
  ·decide
  ·exact b c hc
 ·have e:=zgE n.natAbs
  rw [show ((n.natAbs:Nat):Int)=n by omega] at e
  rw [zl,e]
  exact⟨by simp;omega,b⟩
theorem zhQ {B:Nat}:∀ {zs:List Str},(∀ z∈zs,z.length<=B)->(zs.map (·.length)).sum<=zs.length*B
 |[],_=>by simp
 |z::zs,h=>by
  have h1:=h z (by simp)
  have h2:=zhQ (zs:=zs) fun x hx=>h x (List.mem_cons_of_mem _ hx)
  rw [List.map_cons,List.sum_cons,List.length_cons,Nat.add_mul]
  omega
theorem len_app (x y:Str):(x++y).length=x.length+y.length:=by
 show (x.cps++y.cps).size=x.cps.size+y.cps.size
 exact Array.size_append ..
theorem zgP (z:Str):∀ zs:List Str,(Str.join z zs).length<=(zs.map (·.length)).sum+zs.length*z.length
 |[]=>Nat.zero_le _
 |[x]=>by
  show x.length<=_
  simp
 |x::y::r=>by
  have:=zgP z (y::r)
  show (x++z++Str.join z (y::r)).length<=_
  rw [len_app,len_app,List.map_cons,List.sum_cons,List.length_cons,Nat.add_mul]
  omega
theorem zgB {j:Nat}{z:Str}(pz:∀ c∈z.cps.toList,c<128):∀ {zs:List Str},(∀ x∈zs,∀ c∈x.cps.toList,c<128)->∀ c∈(Str.join z zs).cps.toList,c<128
 |[],_,c,hc=>by simp [Str.join,Str.empty] at hc
 |[x],h,c,hc=>h x (by simp) c hc
 |x::y::r,h,c,hc=>by
  have e:(Str.join z (x::y::r)).cps.toList=x.cps.toList++z.cps.toList++(Str.join z (y::r)).cps.toList:=by
   show ((x.cps++z.cps)++(Str.join z (y::r)).cps).toList=_
   simp
  rw [e] at hc
  rcases List.mem_append.mp hc with hc|hc
  ·rcases List.mem_append.mp hc with hc|hc
   ·exact h x (by simp) c hc
   ·exact pz c hc
  ·exact zgB (j:=j) pz (fun w hw=>h w (List.mem_cons_of_mem _ hw)) c hc
def wdS:Sum Int Str->Str
 |.inl i=>z6 i
 |.inr z=>z
def zko:Sum Int Str->Prop
 |.inl i=>Bd 600 i
 |.inr z=>Pln 500 z
theorem zm8 {w:Sum Int Str}(h:zko w):Pln 500 (wdS w):=by
 cases w with
 |inl i=>obtain⟨a,b⟩:=zbM h;exact⟨Nat.le_trans a (by decide),b⟩
 |inr z=>exact h
def zbu (c:Int×Int):Str:=z6 c.1++":"++z6 c.2
def wGr (V:Vl):List (Sum Int Str):=.inr "ground"::V.cs.map fun c=>.inr (zbu c)
def wHo (V:Vl):List (Sum Int Str):=[.inr "hours",.inl V.h0,.inl V.h1]
def wDe (V:Vl):List (Sum Int Str):=[.inr "delay",.inl V.dl]
def wHa (V:Vl):List (List (Sum Int Str)):=match V.hz with
 | some z=>[[.inr "haze",.inl z]]
 |none=>[]
def wBe (b:Str×(Int×Int)):List (Sum Int Str):=[.inr "beacon",.inr b.1,.inl b.2.1,.inl b.2.2]
def wFo (F:Fg):List (Sum Int Str):=[.inr "fog",.inl F.x0,.inl F.x1,.inl F.z0,.inl F.z1,.inl F.f,.inl F.l,.inl F.g,.inl F.s]
def zZ (V:Vl):List (List (Sum Int Str)):=[wGr V,wHo V,wDe V]++wHa V++V.bs.map wBe++V.fs.map wFo
def zY (ws:List (Sum Int Str)):Str:=Str.join " " (ws.map wdS)
def zbK (V:Vl):Str:=Str.join "\n" ((zZ V).map zY)
structure VlT (V:Vl):Prop where
 ok:zjw V
 hz:∀ z,V.hz=some z->Bd 600 z
 dl:Bd 600 V.dl
theorem zln {c:Int×Int}(h1:Bd 600 c.1)(h2:Bd 600 c.2):Pln 500 (zbu c):=by
 obtain⟨a1,b1⟩:=zbM h1
 obtain⟨a2,b2⟩:=zbM h2
 exact (Pln.app (Pln.app (j:=205) (k:=1) ⟨a1,b1⟩ ⟨by decide +kernel,by decide +kernel⟩) (k:=205) ⟨a2,b2⟩).mono (by decide)
theorem zdW {V:Vl}(t:VlT V):(zZ V).length<=28/\∀ ws∈zZ V,ws.length<=41/\∀ w∈ws,zko w:=by
  have ok:=t.ok
  have b12:=ok.b12
  have f12:=ok.f12
  have k:∀ z:Str,z.length<=500->(∀ c∈z.cps.toList,c<128)->zko (.inr z):=fun z h1 h2=>⟨h1,h2⟩
  have lh:(wHa V).length<=1:=by unfold wHa;split<;>simp
  refine⟨by unfold zZ;simp;omega,fun ws hws=>?_⟩
  unfold zZ at hws
  rcases List.mem_append.mp hws with hws|hws
  · rcases List.mem_append.mp hws with hws|hws
    · rcases List.mem_append.mp hws with hws|hws
      · have:ws=wGr V\/ws=wHo V\/ws=wDe V:=by simpa using hws
        rcases this with rfl|rfl|rfl
        · refine⟨by unfold wGr;simp;have:=ok.gr.most;omega,fun w hw=>?_⟩
          rcases List.mem_cons.mp hw with rfl|hw
          · exact k _ (by decide +kernel) (by decide +kernel)
          · obtain⟨c,hc,rfl⟩:=List.mem_map.mp hw
            obtain⟨h1,h2⟩:=ok.gr.bd c hc
            exact zln (h1.mono (by decide)) (h2.mono (by decide))
        · refine⟨by unfold wHo;simp,fun w hw=>?_⟩
          have:w=.inr "hours"\/w=.inl V.h0\/w=.inl V.h1:=by simpa [wHo] using hw
          rcases this with rfl|rfl|rfl
          · exact k _ (by decide +kernel) (by decide +kernel)
          · exact ok.b0.mono (by decide)
          · exact ok.bl.mono (by decide)
        · refine⟨by unfold wDe;simp,fun w hw=>?_⟩
          have:w=.inr "delay"\/w=.inl V.dl:=by simpa [wDe] using hw
          rcases this with rfl|rfl
          · exact k _ (by decide +kernel) (by decide +kernel)
          · exact t.dl
      · unfold wHa at hws
        split at hws
        · rename_i z hz
          have e:=List.mem_singleton.mp hws
          subst e
          refine⟨by simp,fun w hw=>?_⟩
          have:w=.inr "haze"\/w=.inl z:=by simpa using hw
          rcases this with rfl|rfl
          · exact k _ (by decide +kernel) (by decide +kernel)
          · exact t.hz z hz
        · simp at hws
    · obtain⟨b,hb,rfl⟩:=List.mem_map.mp hws
      obtain⟨h1,h2⟩:=ok.bd b hb
      refine⟨by unfold wBe;simp,fun w hw=>?_⟩
      have:w=.inr "beacon"\/w=.inr b.1\/w=.inl b.2.1\/w=.inl b.2.2:=by simpa [wBe] using hw
      rcases this with rfl|rfl|rfl|rfl
      · exact k _ (by decide +kernel) (by decide +kernel)
      · have:=zeB.mp (ok.nm b hb)
        exact k _ (by omega) (fun c hc=>by have:=zgg.mp (this.2.2 c hc);omega)
      · exact h1.mono (by decide)
      · exact h2.mono (by decide)
  · obtain⟨F,hF,rfl⟩:=List.mem_map.mp hws
    obtain⟨fb,fo,ff,fl'⟩:=ok.fg F hF
    refine⟨by unfold wFo;simp,fun w hw=>?_⟩
    have:w=.inr "fog"\/w=.inl F.x0\/w=.inl F.x1\/w=.inl F.z0\/w=.inl F.z1\/w=.inl F.f\/w=.inl F.l\/w=.inl F.g\/w=.inl F.s:=by simpa [wFo] using hw
    rcases this with rfl|rfl|rfl|rfl|rfl|rfl|rfl|rfl|rfl
    · exact k _ (by decide +kernel) (by decide +kernel)
    · exact fb.b0
    · exact fb.b1
    · exact fb.b2
    · exact fb.b3
    · exact ff.mono (by decide)
    · exact fl'.mono (by decide)
    · exact fb.bg.mono (by decide)
    · exact fb.bs.mono (by decide)
theorem zfe {ws:List (Sum Int Str)}(hl:ws.length<=41)(h:∀ w∈ws,zko w):Pln 21000 (zY ws)/\((ws.map wdS).map (·.length)).sum+(ws.map wdS).length*(" ":Str).length<=big:=by
 have hp:∀ z∈ws.map wdS,Pln 500 z:=fun z hz=>by
  obtain⟨w,hw,rfl⟩:=List.mem_map.mp hz
  exact zm8 (h w hw)
 have s1:=zhQ (zs:=ws.map wdS) (B:=500) fun z hz=>(hp z hz).1
 have e1:(" ":Str).length=1:=by decide +kernel
 rw [List.length_map] at s1
 have j:=zgP " " (ws.map wdS)
 rw [e1,List.length_map] at j
 rw [e1,List.length_map]
 exact⟨⟨by unfold zY;omega,zgB (j:=0) (by decide +kernel) fun x hx=>(hp x hx).2⟩,by unfold big;omega⟩
theorem zfh {V:Vl}(t:VlT V):Pln 700000 (zbK V)/\(((zZ V).map zY).map (·.length)).sum+((zZ V).map zY).length*("\n":Str).length<=big:=by
 obtain⟨l28,hw⟩:=zdW t
 have hp:∀ z∈(zZ V).map zY,Pln 21000 z:=fun z hz=>by
  obtain⟨ws,hws,rfl⟩:=List.mem_map.mp hz
  exact (zfe (hw ws hws).1 (hw ws hws).2).1
 have s1:=zhQ (zs:=(zZ V).map zY) (B:=21000) fun z hz=>(hp z hz).1
 have e1:("\n":Str).length=1:=by decide +kernel
 rw [List.length_map] at s1
 have j:=zgP "\n" ((zZ V).map zY)
 rw [e1,List.length_map] at j
 rw [e1,List.length_map]
 exact⟨⟨by unfold zbK;omega,zgB (j:=0) (by decide +kernel) fun x hx=>(hp x hx).2⟩,by unfold big;omega⟩
theorem zd0 {m:Nat}{c:Nat}(h:c∈(Nat.toDigits 10 m).map Char.toNat):48<=c/\c<=57:=by
 obtain⟨d,hd,rfl⟩:=List.mem_map.mp h
 have:=Nat.isDigit_of_mem_toDigits (by decide) (by decide) hd
 simp [Char.isDigit] at this
 obtain⟨a,b⟩:=this
 exact⟨UInt32.le_iff_toNat_le.mp a,UInt32.le_iff_toNat_le.mp b⟩
theorem zeK (n:Int):(0<=n/\(z6 n).cps.toList=(Nat.toDigits 10 n.natAbs).map Char.toNat)\/(n<0/\(z6 n).cps.toList=45::(Nat.toDigits 10 n.natAbs).map Char.toNat):=by
 rcases Int.lt_or_le n 0 with g|g
 ·have e:=zgQ (m:=n.natAbs) (by omega)
  rw [show -((n.natAbs:Nat):Int)=n by omega] at e
  exact .inr ⟨g,e⟩
 ·have e:=zgE n.natAbs
  rw [show ((n.natAbs:Nat):Int)=n by omega] at e
  exact .inl ⟨g,e⟩
theorem zeJ {n:Int}{c:Nat}(h:c∈(z6 n).cps.toList):c=45\/(48<=c/\c<=57):=by
 rcases zeK n with ⟨_,e⟩|⟨_,e⟩
 ·rw [e] at h;exact .inr (zd0 h)
 ·rw [e] at h
  rcases List.mem_cons.mp h with h|h
  ·exact .inl h
  ·exact .inr (zd0 h)
theorem zle {a b:Nat}(h:(Nat.toDigits 10 a).map Char.toNat=(Nat.toDigits 10 b).map Char.toNat):a=b:=by
 have:Nat.toDigits 10 a=Nat.toDigits 10 b:=List.map_inj_right (f:=Char.toNat) (fun x y e=>Char.ext (UInt32.toNat_inj.mp e)) |>.mp h
 rw [<- Nat.ofDigitChars_ten_toDigits (n:=a),this,Nat.ofDigitChars_ten_toDigits]
theorem zjZ {a b:Int}(h:z6 a=z6 b):a=b:=by
  have hl:(z6 a).cps.toList=(z6 b).cps.toList:=congrArg (fun z:Str=>z.cps.toList) h
  rcases zeK a with ⟨ha,ea⟩|⟨ha,ea⟩<;>rcases zeK b with ⟨hb,eb⟩|⟨hb,eb⟩<;>rw [ea,eb] at hl
  · have:=zle hl;omega
  · have:=zd0 (m:=a.natAbs) (c:=45) (by rw [hl];exact List.mem_cons_self ..)
    omega
  · have:=zd0 (m:=b.natAbs) (c:=45) (by rw [<- hl];exact List.mem_cons_self ..)
    omega
  · have:=zle (List.cons.inj hl).2;omega
theorem zkw:∀ (k m:Nat),m<=k->0<m->(Nat.toDigits 10 m)[0]?≠some '0'
  |0,m,h,h0=>by omega
  |k+1,m,h,h0=>by
    rw [Nat.toDigits_eq_if (by decide)]
    split
    · rename_i hm
      have:m=1\/m=2\/m=3\/m=4\/m=5\/m=6\/m=7\/m=8\/m=9:=by omega
      rcases this with rfl|rfl|rfl|rfl|rfl|rfl|rfl|rfl|rfl<;>decide
    · rename_i hm
      have:=zkw k (m/10) (by omega) (by omega)
      rw [List.getElem?_append_left Nat.length_toDigits_pos]
      exact this
theorem zk9 {n:Int}(h:n.natAbs<10 ^ 60):WrT (z6 n):=by
 have ne:(Nat.toDigits 10 n.natAbs).length<=60:=(Nat.length_toDigits_le_iff (by decide) (by decide)).mpr h
 have pos:0<(Nat.toDigits 10 n.natAbs).length:=Nat.length_toDigits_pos
 have hd:0<n.natAbs->((Nat.toDigits 10 n.natAbs).map Char.toNat)[0]?≠some 48:=fun h0 e=>by
  have:=zkw _ n.natAbs (Nat.le_refl _) h0
  rw [List.getElem?_map] at e
  cases e2:(Nat.toDigits 10 n.natAbs)[0]? with
  |none=>rw [e2] at e;cases e
  |some c =>
   rw [e2] at e this
   have e3:c.toNat=48:=by simpa using e
   exact this (congrArg some (Char.ext (UInt32.toNat_inj.mp e3)))
 unfold WrT zbq
 rcases zeK n with ⟨hn,e⟩|⟨hn,e⟩
 ·have n45:¬ ((Nat.toDigits 10 n.natAbs).map Char.toNat)[0]?=some 45:=fun e1=>by
   have:=zd0 (List.mem_of_getElem? e1);omega
  rw [e,if_neg n45]
  refine⟨by rw [List.length_map];omega,by rw [List.length_map];omega,fun c hc=>zd0 hc,?_⟩
  by_cases hz:n.natAbs=0
  ·rw [hz];exact .inl (by decide)
  ·exact .inr (hd (by omega))
 ·rw [e,if_pos (show (45::(Nat.toDigits 10 n.natAbs).map Char.toNat)[0]?=some 45 from rfl)]
  show 1<=((Nat.toDigits 10 n.natAbs).map Char.toNat).length/\((Nat.toDigits 10 n.natAbs).map Char.toNat).length<=60/\ze6 ((Nat.toDigits 10 n.natAbs).map Char.toNat)/\(45::(Nat.toDigits 10 n.natAbs).map Char.toNat=[48]\/((Nat.toDigits 10 n.natAbs).map Char.toNat)[0]?≠some 48)
  exact⟨by rw [List.length_map];omega,by rw [List.length_map];omega,fun c hc=>zd0 hc,.inr (hd (by omega))⟩
theorem zpn (n:Int):z6 n≠"":=fun e=>by
  have h0:(z6 n).cps.toList=[]:=(congrArg (fun z:Str=>z.cps.toList) e).trans (by decide +kernel)
  have hp:0<(Nat.toDigits 10 n.natAbs).length:=Nat.length_toDigits_pos
  rcases zeK n with ⟨_,e⟩|⟨_,e⟩<;>rw [e] at h0
  · have:=congrArg List.length h0
    rw [List.length_map] at this
    have:(Nat.toDigits 10 n.natAbs).length=0:=this
    omega
  · cases h0
abbrev N60 (n:Int):Prop:=Bd 195 n
theorem n60 {n:Int}(h:N60 n):n.natAbs<10 ^ 60:=Nat.lt_trans h (by decide)
structure FgN (F:Fg):Prop where
 x0:N60 F.x0
 x1:N60 F.x1
 z0:N60 F.z0
 z1:N60 F.z1
 f:N60 F.f
 l:N60 F.l
 g:N60 F.g
 s:N60 F.s
structure VlN (V:Vl):Prop where
 t:VlT V
 b:∀ b∈V.bs,N60 b.2.1/\N60 b.2.2
 f:∀ F∈V.fs,FgN F
 h0:N60 V.h0
 h1:N60 V.h1
 hz:∀ z,V.hz=some z->N60 z
 dl:N60 V.dl
def Cln (z:Str):Prop:=z≠""/\∀ c∈z.cps.toList,c=45\/(48<=c/\c<=58)\/(97<=c/\c<=122)
theorem znV (n:Int):Cln (z6 n):=⟨zpn n,fun c hc=>by rcases zeJ hc with h|h<;>omega⟩
theorem zkY (x y:Str):(x++y).cps.toList=x.cps.toList++y.cps.toList:=by
 show (x.cps++y.cps).toList=_
 simp
theorem zig (c:Int×Int):(zbu c).cps.toList=(z6 c.1).cps.toList++58::(z6 c.2).cps.toList:=by
 unfold zbu
 rw [zkY,zkY,show (":":Str).cps.toList=[58] by decide +kernel];simp
theorem zn7 (c:Int×Int):Cln (zbu c):=by
  refine⟨fun e=>?_,fun k hk=>?_⟩
  · have:=(zig c).symm.trans ((congrArg (fun z:Str=>z.cps.toList) e).trans (show ("":Str).cps.toList=[] by decide +kernel))
    simp at this
  · rw [zig] at hk
    rcases List.mem_append.mp hk with h|h
    · rcases zeJ h with h|h<;>omega
    · rcases List.mem_cons.mp h with h|h
      · omega
      · rcases zeJ h with h|h<;>omega
theorem zrY {z:Str}(h:nmB z=true):Cln z:=by
 have h:=zeB.mp h
 refine⟨fun e=>?_,fun c hc=>.inr (.inr (zgg.mp (h.2.2 c hc)))⟩
 rw [e] at h
 exact absurd h.1 (by decide +kernel)
theorem zmN:∀ z∈(["ground","hours","delay","haze","beacon","fog"]:List Str),Cln z:=by
 intro z hz
 have k:(z != ""&&z.cps.toList.all fun c=>c==45||(decide (48<=c)&&decide (c<=58))||(decide (97<=c)&&decide (c<=122)))=true:=by
  revert z;decide +kernel
 rw [Bool.and_eq_true] at k
 refine⟨by simpa using k.1,fun c hc=>?_⟩
 have:=List.all_eq_true.mp k.2 c hc
 simp at this
 omega
theorem zo6 (c:Int×Int):zfQ (zbu c) 58 [z6 c.1,z6 c.2]:=by
  refine⟨by simp,fun w hw h=>?_,?_⟩
  · have:w=z6 c.1\/w=z6 c.2:=by simpa using hw
    rcases this with rfl|rfl<;>rcases zeJ h with h|h<;>omega
  · show z6 c.1++⟨#[58]⟩++z6 c.2=zbu c
    rw [show (⟨#[58]⟩:Str)=":" by decide +kernel];rfl
theorem zhL {V:Vl}(t:VlT V):∀ ws∈zZ V,ws≠[]/\∀ w∈ws,Cln (wdS w):=by
 have ok:=t.ok
 have k:∀ z∈(["ground","hours","delay","haze","beacon","fog"]:List Str),Cln (wdS (.inr z)):=fun z hz=>zmN z hz
 have i:∀ n:Int,Cln (wdS (.inl n)):=znV
 intro ws hws
 unfold zZ at hws
 rcases List.mem_append.mp hws with hws|hws
 ·rcases List.mem_append.mp hws with hws|hws
  ·rcases List.mem_append.mp hws with hws|hws
   ·have:ws=wGr V\/ws=wHo V\/ws=wDe V:=by simpa using hws
    rcases this with rfl|rfl|rfl
    ·refine⟨by unfold wGr;simp,fun w hw=>?_⟩
     rcases List.mem_cons.mp hw with rfl|hw
     ·exact k _ (by simp)
     ·obtain⟨c,hc,rfl⟩:=List.mem_map.mp hw
      exact zn7 c
    ·refine⟨by unfold wHo;simp,fun w hw=>?_⟩
     have:w=.inr "hours"\/w=.inl V.h0\/w=.inl V.h1:=by simpa [wHo] using hw
     rcases this with rfl|rfl|rfl
     ·exact k _ (by simp)
     ·exact i _
     ·exact i _
    ·refine⟨by unfold wDe;simp,fun w hw=>?_⟩
     have:w=.inr "delay"\/w=.inl V.dl:=by simpa [wDe] using hw
     rcases this with rfl|rfl
     ·exact k _ (by simp)
     ·exact i _
   ·unfold wHa at hws
    split at hws
    ·rename_i z hz
     have e:=List.mem_singleton.mp hws
     subst e
     refine⟨by simp,fun w hw=>?_⟩
     have:w=.inr "haze"\/w=.inl z:=by simpa using hw
     rcases this with rfl|rfl
     ·exact k _ (by simp)
     ·exact i _
    ·simp at hws
  ·obtain⟨b,hb,rfl⟩:=List.mem_map.mp hws
   refine⟨by unfold wBe;simp,fun w hw=>?_⟩
   have:w=.inr "beacon"\/w=.inr b.1\/w=.inl b.2.1\/w=.inl b.2.2:=by simpa [wBe] using hw
   rcases this with rfl|rfl|rfl|rfl
   ·exact k _ (by simp)
   ·exact zrY (ok.nm b hb)
   ·exact i _
   ·exact i _
 ·obtain⟨F,hF,rfl⟩:=List.mem_map.mp hws
  refine⟨by unfold wFo;simp,fun w hw=>?_⟩
  have:w=.inr "fog"\/∃ n,w=.inl n:=by
   have:w=.inr "fog"\/w=.inl F.x0\/w=.inl F.x1\/w=.inl F.z0\/w=.inl F.z1\/w=.inl F.f\/w=.inl F.l\/w=.inl F.g\/w=.inl F.s:=by simpa [wFo] using hw
   rcases this with h|h|h|h|h|h|h|h|h
   ·exact .inl h
   all_goals exact .inr ⟨_,h⟩
  rcases this with rfl|⟨n,rfl⟩
  ·exact k _ (by simp)
  ·exact i _
theorem zlj {z:Str}{k:Nat}:∀ {zs:List Str},k∉z.cps.toList->(∀ x∈zs,k∉x.cps.toList)->k∉(Str.join z zs).cps.toList
 |[],_,_,h=>by simp [Str.join,Str.empty] at h
 |[x],_,h,hc=>h x (by simp) hc
 |x::y::r,pz,h,hc=>by
  have e:(Str.join z (x::y::r)).cps.toList=x.cps.toList++z.cps.toList++(Str.join z (y::r)).cps.toList:=by
   show ((x.cps++z.cps)++(Str.join z (y::r)).cps).toList=_
   simp
  rw [e] at hc
  rcases List.mem_append.mp hc with hc|hc
  ·rcases List.mem_append.mp hc with hc|hc
   ·exact h x (by simp) hc
   ·exact pz hc
  ·exact zlj pz (fun w hw=>h w (List.mem_cons_of_mem _ hw)) hc
theorem znL {V:Vl}(t:VlT V){ws:List (Sum Int Str)}(h:ws∈zZ V):zfQ (zY ws) 32 (ws.map wdS):=by
 obtain⟨ne,cl⟩:=zhL t ws h
 refine⟨by simpa using ne,fun w hw k=>?_,?_⟩
 ·obtain⟨x,hx,rfl⟩:=List.mem_map.mp hw
  have:=(cl x hx).2 32 k
  omega
 ·unfold zY
  rw [show (⟨#[32]⟩:Str)=" " by decide +kernel]
theorem zpY {V:Vl}(t:VlT V):zfQ (zbK V) 10 ((zZ V).map zY):=by
 refine⟨by unfold zZ;simp,fun w hw k=>?_,?_⟩
 ·obtain⟨x,hx,rfl⟩:=List.mem_map.mp hw
  refine zlj (z:=" ") (k:=10) (by decide +kernel) (fun y hy hk=>?_) k
  obtain⟨u,hu,rfl⟩:=List.mem_map.mp hy
  have:=((zhL t x hx).2 u hu).2 10 hk
  omega
 ·unfold zbK
  rw [show (⟨#[10]⟩:Str)="\n" by decide +kernel]
def LnG (S0 G:Sto)(xs:List D)(ws:List (List (Sum Int Str))):Prop:=xs.length=ws.length/\∀ (i:Nat) w,ws[i]?=some w->∃ m,xs[i]?=some (.ref m)/\∀ c,(S0++c::G)[m]?=some (.lst ((w.map wdS).map D.str))
theorem LnG.old {S0 G T:Sto}{xs:List D}{ws:List (List (Sum Int Str))}(h:LnG S0 G xs ws):LnG S0 (G++T) xs ws:=⟨h.1,fun i w hw=>by
 obtain⟨m,h1,h2⟩:=h.2 i w hw
 exact⟨m,h1,fun c=>by
  have:=zQ (T:=T) (h2 c)
  rwa [List.append_assoc,List.cons_append] at this⟩⟩
theorem LnG.snoc {S0 G:Sto}{xs:List D}{ws:List (List (Sum Int Str))}{m:Nat}{w:List (Sum Int Str)}(h:LnG S0 G xs ws)(hm:∀ c,(S0++c::G)[m]?=some (.lst ((w.map wdS).map D.str))):LnG S0 G (xs++[.ref m]) (ws++[w]):=by
 refine⟨by rw [List.length_append,List.length_append,h.1];rfl,fun i v hv=>?_⟩
 rcases Nat.lt_or_ge i ws.length with g|g
 ·rw [List.getElem?_append_left g] at hv
  obtain⟨k,h1,h2⟩:=h.2 i v hv
  exact⟨k,by rw [List.getElem?_append_left (by rw [h.1];exact g)];exact h1,h2⟩
 ·have li:=zae hv
  rw [List.length_append] at li
  have ei:i=ws.length:=by simp at li;omega
  subst ei
  rw [List.getElem?_append_right (Nat.le_refl _),Nat.sub_self] at hv
  have e:w=v:=by simpa using hv
  subst e
  exact⟨m,by rw [<- h.1,List.getElem?_append_right (Nat.le_refl _),Nat.sub_self];rfl,hm⟩
theorem zjl {S0 G:Sto}{c d:Cell}:(S0++c::(G++[d]))[S0.length+(1+G.length)]?=some d:=by
 rw [zbo,Nat.add_comm,List.getElem?_cons_succ,List.getElem?_append_right (Nat.le_refl _),Nat.sub_self];rfl
def Rws (S:Sto)(x:D)(ws:List (List (Sum Int Str))):Prop:=∃ t xs,x=.ref t/\S[t]?=some (.lst xs)/\xs.length=ws.length/\∀ (i:Nat) w,ws[i]?=some w->∃ m,xs[i]?=some (.ref m)/\S[m]?=some (.lst ((w.map wdS).map D.str))
theorem Rws.old {S T:Sto}{x:D}{ws:List (List (Sum Int Str))}(h:Rws S x ws):Rws (S++T) x ws:=by
 obtain⟨t,xs,e,h1,h2,h3⟩:=h
 refine⟨t,xs,e,zQ h1,h2,fun i w hw=>?_⟩
 obtain⟨m,a,b⟩:=h3 i w hw
 exact⟨m,a,zQ b⟩
theorem Rws.put {S:Sto}{x:D}{ws:List (List (Sum Int Str))}{n:Nat}{kvs kvs':List (Str×D)}(h:Rws S x ws)(hn:S[n]?=some (.dk kvs)):Rws (S.set n (.dk kvs')) x ws:=by
 have k:∀ {m:Nat} {l:List D},S[m]?=some (.lst l)->(S.set n (.dk kvs'))[m]?=some (.lst l):=fun {m l} hm=>by
  rw [List.getElem?_set_ne (fun e=>by subst e;rw [hn] at hm;cases hm)];exact hm
 obtain⟨t,xs,e,h1,h2,h3⟩:=h
 refine⟨t,xs,e,k h1,h2,fun i w hw=>?_⟩
 obtain⟨m,a,b⟩:=h3 i w hw
 exact⟨m,a,k b⟩
theorem LnG.rws {S0 G:Sto}{xs:List D}{ws:List (List (Sum Int Str))}(h:LnG S0 G xs ws):Rws (S0++.lst xs::G) (.ref S0.length) ws:=⟨_,xs,rfl,zaN,h.1,fun i w hw=>by
 obtain⟨m,a,b⟩:=h.2 i w hw
 exact⟨m,a,b _⟩⟩
theorem zsC {cs:List (List D)}{ρ:Rho}{S:Sto}{R:DIt->Sto->Prop}(h:R ⟨cs.map D.kt,fun _=>True⟩ S):iKt cs ρ S R:=h
theorem zsd {n:Nat}{t:DGs}{xs:List D}{ρ:Rho}{S:Sto}{Q:Rho->Sto->Prop}(e:xs.length=n)(h:t xs ρ S Q):gKt n t (.kt xs) ρ S Q:=⟨xs,rfl,e,h⟩
abbrev zgY:List (List D):=[[.str "ground",.int 1,.int 1,.non],[.str "hours",.int 1,.int 1,.int 2],[.str "delay",.int 1,.int 1,.int 1],[.str "haze",.int 0,.int 1,.int 1],[.str "beacon",.int 0,.non,.int 3],[.str "fog",.int 0,.non,.int 8]]
def za6 (V:Vl):List (Str×List (List (Sum Int Str))):=[("ground",[wGr V]),("hours",[wHo V]),("delay",[wDe V]),("haze",wHa V),("beacon",V.bs.map wBe),("fog",V.fs.map wFo)]
theorem zpE (V:Vl):((za6 V).map (·.2)).flatten=zZ V:=by
 unfold za6 zZ
 simp
def zh0 (sz:D)(ws:List Str):Prop:=(sz=.non/\ws≠[]/\∀ z∈ws,z.cps.toList.count 58=1)\/sz=.int (ws.length:Nat)
structure ztT (V:Vl)(c:List D)(z:Str)(f:Nat)(mo sz:D)(pre B post:List (List (Sum Int Str))):Prop where
 e:c=[.str z,.int (f:Nat),mo,sz]
 cl:Cln z
 l:zZ V=pre++B++post
 hd:∀ w∈B,∃ r,w=.inr z::r/\zh0 sz (r.map wdS)
 nx:∀ w∈post,∃ y r,w=.inr y::r/\y≠z/\Cln y
 few:f<=B.length
 mo:mo=.non\/∃ m:Nat,mo=.int (m:Nat)/\B.length<=m
theorem zmS (c:Int×Int):(zbu c).cps.toList.count 58=1:=by
  rw [zig,List.count_append,List.count_cons]
  have k:∀ n:Int,(z6 n).cps.toList.count 58=0:=fun n=>List.count_eq_zero.mpr fun h=>by rcases zeJ h with h|h<;>omega
  rw [k,k];rfl
theorem ztc {V:Vl}(ok:zjw V){i:Nat}{c:List D}(h:zgY[i]?=some c):∃ z f mo sz pre B post,ztT V c z f mo sz pre B post/\(za6 V)[i]?=some (z,B)/\pre=(((za6 V).take i).map (·.2)).flatten:=by
  have cl:∀ z∈(["ground","hours","delay","haze","beacon","fog"]:List Str),Cln z:=zmN
  have g2:=ok.gr.two
  have sG:zh0 .non (((V.cs.map fun c=>Sum.inr (zbu c)):List (Sum Int Str)).map wdS):=.inl ⟨rfl,by
    intro e
    have:=congrArg List.length e
    simp at this
    rw [this] at g2;simp at g2,fun z hz=>by
    rw [List.map_map] at hz
    obtain⟨c,hc,rfl⟩:=List.mem_map.mp hz
    exact zmS c⟩
  have hHa:∀ w∈wHa V,∃ r,w=.inr "haze"::r/\zh0 (.int 1) (r.map wdS):=fun w hw=>by
    unfold wHa at hw
    split at hw
    · exact⟨_,List.mem_singleton.mp hw,.inr rfl⟩
    · simp at hw
  have hBe:∀ w∈V.bs.map wBe,∃ r,w=.inr "beacon"::r/\zh0 (.int 3) (r.map wdS):=fun w hw=>by
    obtain⟨b,_,rfl⟩:=List.mem_map.mp hw
    exact⟨_,rfl,.inr rfl⟩
  have hFo:∀ w∈V.fs.map wFo,∃ r,w=.inr "fog"::r/\zh0 (.int 8) (r.map wdS):=fun w hw=>by
    obtain⟨b,_,rfl⟩:=List.mem_map.mp hw
    exact⟨_,rfl,.inr rfl⟩
  have nHa:∀ z:Str,z≠"haze"->∀ w∈wHa V,∃ y r,w=.inr y::r/\y≠z/\Cln y:=fun z hz w hw=>by obtain⟨r,e,_⟩:=hHa w hw;exact⟨_,r,e,fun e=>hz e.symm,cl _ (by simp)⟩
  have nBe:∀ z:Str,z≠"beacon"->∀ w∈V.bs.map wBe,∃ y r,w=.inr y::r/\y≠z/\Cln y:=fun z hz w hw=>by obtain⟨r,e,_⟩:=hBe w hw;exact⟨_,r,e,fun e=>hz e.symm,cl _ (by simp)⟩
  have nFo:∀ z:Str,z≠"fog"->∀ w∈V.fs.map wFo,∃ y r,w=.inr y::r/\y≠z/\Cln y:=fun z hz w hw=>by obtain⟨r,e,_⟩:=hFo w hw;exact⟨_,r,e,fun e=>hz e.symm,cl _ (by simp)⟩
  have n1:∀ z y:Str,z≠y->Cln y->∀ r:List (Sum Int Str),∀ w∈[Sum.inr y::r],∃ y' r',w=.inr y'::r'/\y'≠z/\Cln y':=fun z y hz hc r w hw=>⟨y,r,List.mem_singleton.mp hw,fun e=>hz e.symm,hc⟩
  have ap:∀ {P:List (Sum Int Str)->Prop} {xs ys:List (List (Sum Int Str))},(∀ w∈xs,P w)->(∀ w∈ys,P w)->∀ w∈xs++ys,P w:=fun h1 h2 w hw=>(List.mem_append.mp hw).elim (h1 w) (h2 w)
  have o1:∀ {w x:List (Sum Int Str)},w∈[x]->w=x:=fun h=>List.mem_singleton.mp h
  have d:∀ {x y:Str},(x==y)=false->x≠y:=fun h e=>by rw [e] at h;simp at h
  have lHa:(wHa V).length<=1:=by unfold wHa;split<;>simp
  have hi:=zae h
  have:i=0\/i=1\/i=2\/i=3\/i=4\/i=5:=by have:zgY.length=6:=rfl;omega
  rcases this with rfl|rfl|rfl|rfl|rfl|rfl<;>cases h
  · exact⟨"ground",1,_,_,[],[wGr V],[wHo V]++([wDe V]++(wHa V++(V.bs.map wBe++V.fs.map wFo))),⟨rfl,cl _ (by simp),by unfold zZ;simp,fun w hw=>⟨_,o1 hw,sG⟩,ap (n1 _ _ (d (by decide +kernel)) (cl _ (by simp)) _) (ap (n1 _ _ (d (by decide +kernel)) (cl _ (by simp)) _) (ap (nHa _ (d (by decide +kernel))) (ap (nBe _ (d (by decide +kernel))) (nFo _ (d (by decide +kernel)))))),Nat.le_refl _,.inr ⟨1,rfl,Nat.le_refl _⟩⟩,rfl,rfl⟩
  · exact⟨"hours",1,_,_,[wGr V],[wHo V],[wDe V]++(wHa V++(V.bs.map wBe++V.fs.map wFo)),⟨rfl,cl _ (by simp),by unfold zZ;simp,fun w hw=>⟨_,o1 hw,.inr rfl⟩,ap (n1 _ _ (d (by decide +kernel)) (cl _ (by simp)) _) (ap (nHa _ (d (by decide +kernel))) (ap (nBe _ (d (by decide +kernel))) (nFo _ (d (by decide +kernel))))),Nat.le_refl _,.inr ⟨1,rfl,Nat.le_refl _⟩⟩,rfl,by unfold za6;simp⟩
  · exact⟨"delay",1,_,_,[wGr V,wHo V],[wDe V],wHa V++(V.bs.map wBe++V.fs.map wFo),⟨rfl,cl _ (by simp),by unfold zZ;simp,fun w hw=>⟨_,o1 hw,.inr rfl⟩,ap (nHa _ (d (by decide +kernel))) (ap (nBe _ (d (by decide +kernel))) (nFo _ (d (by decide +kernel)))),Nat.le_refl _,.inr ⟨1,rfl,Nat.le_refl _⟩⟩,rfl,by unfold za6;simp⟩
  · exact⟨"haze",0,_,_,[wGr V,wHo V,wDe V],wHa V,V.bs.map wBe++V.fs.map wFo,⟨rfl,cl _ (by simp),by unfold zZ;simp,hHa,ap (nBe _ (d (by decide +kernel))) (nFo _ (d (by decide +kernel))),Nat.zero_le _,.inr ⟨1,rfl,lHa⟩⟩,rfl,by unfold za6;simp⟩
  · exact⟨"beacon",0,_,_,[wGr V,wHo V,wDe V]++wHa V,V.bs.map wBe,V.fs.map wFo,⟨rfl,cl _ (by simp),by unfold zZ;simp,hBe,nFo _ (d (by decide +kernel)),Nat.zero_le _,.inl rfl⟩,rfl,by unfold za6;simp⟩
  · exact⟨"fog",0,_,_,[wGr V,wHo V,wDe V]++wHa V++V.bs.map wBe,V.fs.map wFo,[],⟨rfl,cl _ (by simp),by unfold zZ;simp,hFo,fun w hw=>by simp at hw,Nat.zero_le _,.inl rfl⟩,rfl,by unfold za6;simp⟩
theorem zgm {α β γ:Type}{f:β->Option γ}{g:α->β}{h:α->γ}:∀ {xs:List α},(∀ x∈xs,f (g x)=some (h x))->zac f (xs.map g)=some (xs.map h)
 |[],_=>rfl
 |x::xs,e=>by
  show zac f (g x::xs.map g)=_
  unfold zac
  rw [e x (by simp),zgm fun y hy=>e y (by simp [hy])]
  rfl
theorem zil {S:Sto}{x:D}{xs:List D}{ps:List PyData}{k:Nat}(hx:Lst S x xs)(h:zac (tre S k) xs=some ps):tre S (k+1) x=some (.list ps):=by
 rcases hx with rfl|⟨n,rfl,hx⟩
 ·show (zac (tre S k) xs).map PyData.list=_
  rw [h];rfl
 ·show (match S[n]? with
   |some (.lst xs)=>(zac (tre S k) xs).map PyData.list
   |_=>none)=_
  rw [hx]
  show (zac (tre S k) xs).map PyData.list=_
  rw [h];rfl
def zqz:Option Int->PyData
 |none=>.none
 |some z=>.int z
def zt5 (V:Vl):PyData:=.tuple [.list (V.cs.map fun c=>.tuple [.int c.1,.int c.2]),.list (V.bs.map fun b=>.tuple [.str b.1,.int b.2.1,.int b.2.2]),.list (V.fs.map fun F=>.tuple [.int F.x0,.int F.x1,.int F.z0,.int F.z1,.int F.f,.int F.l,.int F.g,.int F.s]),zqz V.hz,.int V.h0,.int V.h1,.int V.dl]
theorem zm1 {S:Sto}{x y z:D}{V:Vl}(ok:zjw V)(h:VlS S x y z V):tre S 20 (vlD x y z V)=some (zt5 V):=by
  obtain⟨hx,hy,hz⟩:=h
  have e1:=zil (k:=18) hx (zgm (f:=tre S 18) (g:=p2) (h:=fun c=>PyData.tuple [.int c.1,.int c.2]) fun c _=>rfl)
  have e2:=zil (k:=18) hy (zgm (f:=tre S 18) (g:=bcD) (h:=fun b=>PyData.tuple [.str b.1,.int b.2.1,.int b.2.2]) fun b hb=>by
    have:b.1.cps.all (· < 0x110000)=true:=zr4 (ok.nm b hb) 20
    show (zac (tre S 17) [.str b.1,.int b.2.1,.int b.2.2]).map PyData.tuple=_
    unfold zac
    have:tre S 17 (.str b.1)=some (.str b.1):=by
      show (if b.1.cps.all (· < 0x110000)=true then some (PyData.str b.1) else none)=_
      rw [if_pos this]
    rw [this];rfl)
  have e3:=zil (k:=18) hz (zgm (f:=tre S 18) (g:=fgD) (h:=fun F=>PyData.tuple [.int F.x0,.int F.x1,.int F.z0,.int F.z1,.int F.f,.int F.l,.int F.g,.int F.s]) fun F _=>rfl)
  have e4:tre S 19 (zce V.hz)=some (zqz V.hz):=by cases V.hz<;>rfl
  show (zac (tre S 19) [x,y,z,zce V.hz,.int V.h0,.int V.h1,.int V.dl]).map PyData.tuple=_
  have e5:zac (tre S 19) [D.int V.h0,.int V.h1,.int V.dl]=some [.int V.h0,.int V.h1,.int V.dl]:=rfl
  have st:∀ {d:D} {ds:List D} {p:PyData} {ps:List PyData},tre S 19 d=some p->zac (tre S 19) ds=some ps->zac (tre S 19) (d::ds)=some (p::ps):=fun {d ds p ps} h1 h2=>by
    rw [zac,h1,h2]
  rw [st e1 (st e2 (st e3 (st e4 e5)))];rfl
section
variable {see:Nat->Nat->Int->Prop}{dl:Int}{s:Nat}{h0:Int}
inductive Lt (see:Nat->Nat->Int->Prop)(dl:Int)(s:Nat)(h0:Int):Nat->Int->Prop
 |base:Lt see dl s h0 s h0
 |step {k j:Nat} {h u:Int}:Lt see dl s h0 k h->h<=u->see k j u->Lt see dl s h0 j (u+dl)
end
section
variable {V:Vl}{is:List Nat}{v:Nat->D}
end
open Classical in
section
variable {V:Vl}{a j:Nat}{fi:List Nat}{f:Nat->En}{p:List Nat×(Nat->En)}{u:Int}
end
section
variable {see:Nat->Nat->Int->Prop}{dl:Int}{n s:Nat}{h:Int}{D D':Nat->Nat->Prop}{fi wi:List Nat}{f g:Nat->En}
end
end Dp
namespace My
open PySem PySem.Spec PyProof.Rows L2
section
variable {prog:Program}{w:World}{A:Around}{E:Value->Shared->Prop}{s:Shared}
end
theorem zkl {α:Type}(xs:List α)(a:Nat):∀ m,a+m<=xs.length->((List.range m).map (a+·)).filterMap (xs[·]?)=(xs.drop a).take m
 |0,_=>by simp
 |m+1,h=>by
  rw [List.range_succ,List.map_append,List.filterMap_append,zkl xs a m (by omega),List.take_succ,List.getElem?_drop]
  simp only [List.map_cons,List.map_nil,List.filterMap_cons,List.filterMap_nil]
  rw [List.getElem?_eq_getElem (by omega)];rfl
theorem ztF (n:Nat)(lo hi:Option Int):Builtin.Str.strSliceIndices lo hi 1 n=(List.range (HT.sIx n n hi-HT.sIx n 0 lo)).map (HT.sIx n 0 lo+·):=by
 rw [<- sliceRange_one]
 unfold Builtin.Str.strSliceIndices
 have cl:∀ (o:Option Int) (d:Nat),(match o with|none=>(d:Int)|some i=>if (1:Int) > 0 then max 0 (min (if i<0 then i+(n:Int) else i) n) else max (-1) (min (if i<0 then i+(n:Int) else i) ((n:Int)-1)))=((HT.sIx n d o:Nat):Int):=fun o d=>by
  cases o with
  |none=>rfl
  |some i =>
   show (if (1:Int) > 0 then _ else _)=(((if i<0 then (i+n).toNat else min i.toNat n):Nat):Int)
   rw [if_pos (by decide)]
   by_cases h:i<0
   ·rw [if_pos h,if_pos h];omega
   ·rw [if_neg h,if_neg h];omega
 have h1:=cl lo 0
 have h2:=cl hi n
 simp only [show ((1:Int) > 0)=True by simp,if_true] at h1 h2 ⊢
 rw [<- h1,<- h2]
 rfl
theorem zhi (n:Nat)(o:Option Int)(d:Nat)(hd:d<=n):HT.sIx n d o<=n:=by
  cases o with
  |none=>exact hd
  |some i =>
    show (if i<0 then (i+n).toNat else min i.toNat n)<=n
    split<;>omega
theorem zmk (x:Str)(lo hi:Option Int):Txt.slice x lo hi=⟨((x.cps.toList.drop (HT.sIx x.length 0 lo)).take (HT.sIx x.length x.length hi-HT.sIx x.length 0 lo)).toArray⟩:=by
 have hl:x.cps.toList.length=x.length:=Array.length_toList
 have b1:=zhi x.length lo 0 (Nat.zero_le _)
 have b2:=zhi x.length hi x.length (Nat.le_refl _)
 unfold Txt.slice
 rw [ztF]
 have fm:((List.range (HT.sIx x.length x.length hi-HT.sIx x.length 0 lo)).map (HT.sIx x.length 0 lo+·)).filterMap (x.cps[·]?)=(x.cps.toList.drop (HT.sIx x.length 0 lo)).take (HT.sIx x.length x.length hi-HT.sIx x.length 0 lo):=by
  rcases Nat.lt_or_ge (HT.sIx x.length x.length hi) (HT.sIx x.length 0 lo) with g|g
  ·rw [show HT.sIx x.length x.length hi-HT.sIx x.length 0 lo=0 by omega];simp
  ·rw [<- zkl x.cps.toList _ _ (by rw [hl];omega)]
   congr 1
   funext i
   rw [Array.getElem?_toList]
 split
 ·rename_i h
  rw [Bool.and_eq_true] at h
  have h2:=eq_of_beq h.2
  rw [List.length_map,List.length_range] at h2
  have z1:HT.sIx x.length 0 lo=0:=by omega
  rw [h2,z1,List.drop_zero,List.take_of_length_le (by omega)]
 ·rw [fm]
def zt7:V->Option Int->Option Int->Hp->VK->Prop:=fun x lo hi H Q=>∃ z:Str,x=.str z/\z.length<=sizeLine/\Q (.str ⟨((z.cps.toList.drop (HT.sIx z.length 0 lo)).take (HT.sIx z.length z.length hi-HT.sIx z.length 0 lo)).toArray⟩) H
theorem zqp {X:Cx}:SlR X zt7:=by
 intro pins s σ H x v vl vu lo hi sl Q I rx hs pl pu h
 obtain⟨z,rfl,hz,q⟩:=h
 obtain⟨t,rfl⟩:=rx
 refine⟨"str",_,F.slot_str_getitem.lookup,typeIs_str _ _ _,?_⟩
 have go:∀ (l u:Option (Int×Tok)),l.map (·.1)=lo->u.map (·.1)=hi->s.heap.IsSlice sl l u none->wpAny (model X.prog X.w) X.A (getItem (.str z t) (.ref sl)) (EP X pins σ Q) X.xe s:=fun l u el eu is=>by
  refine wpAny_getItem_str_slice is rfl ?_
  unfold sliceMade slicePicked
  rw [el,eu]
  refine post_val_or_str ⟨Nat.le_trans (Txt.slice_le z lo hi) hz,fun t' k=>?_⟩
  show EP X pins σ Q (.str (Txt.slice z lo hi) t') _
  rw [zmk]
  exact⟨.str _,H,I.tok _,⟨t',rfl⟩,q⟩
 obtain⟨o,ho,hc,hd⟩:=hs
 cases pl with
 |none =>
  cases pu with
  |none=>exact go none none rfl rfl ⟨o,ho,hc,hd⟩
  |int j tj=>exact go none (some (j,tj)) rfl rfl ⟨o,ho,hc,hd⟩
 |int i ti =>
  cases pu with
  |none=>exact go (some (i,ti)) none rfl rfl ⟨o,ho,hc,hd⟩
  |int j tj=>exact go (some (i,ti)) (some (j,tj)) rfl rfl ⟨o,ho,hc,hd⟩
section
open AutoSeq1 (wpAny_loadPart')
variable {prog:Program}{w:World}{A:Around}{E:Value->Shared->Prop}{s:Shared}
end
section
variable {X:Cx}
end
section
variable {prog:Program}{w:World}{A:Around}{E:Value->Shared->Prop}{s:Shared}
end
section
variable {prog:Program}{w:World}{A:Around}{E:Value->Shared->Prop}{s:Shared}
end
section
variable {X:Cx}
end
section
end
section
variable {X:Cx}
end
section
variable {prog:Program}{w:World}{A:Around}{E:Value->Shared->Prop}{s:Shared}
end
section
variable {X:Cx}
end
section
variable {X:Cx}
end
section
variable {X:Cx}
end
section
variable {prog:Program}{w:World}{A:Around}{E:Value->Shared->Prop}{s:Shared}
end
section
variable {prog:Program}{w:World}{A:Around}{E:Value->Shared->Prop}{s:Shared}
end
section
variable {prog:Program}{w:World}{A:Around}{E:Value->Shared->Prop}{s:Shared}
end
section
variable {prog:Program}{w:World}{A:Around}{s:Shared}
abbrev zfj (prog:Program)(w:World)(h:Heap)(a:Addr)(c:List Str):Prop:=h.SetOf (PySem.strKind prog w) a (fun y=>c.any (·==y)) c.length
theorem zfj.at {h h':Heap}{a:Addr}{c:List Str}(x:zfj prog w h a c)(k:∀ o,h.get? a=some o->h'.get? a=some o):zfj prog w h' a c :=
 let ⟨o,es,ep,t,ho,r⟩:=x;⟨o,es,ep,t,k o ho,r⟩
theorem loopS {R:Result->Shared->Prop}{it a:Addr}{fp wr:List Addr}{G:Array GenState->Array GenState->Prop}{n:Nat}{P:Nat->Value->Prop}{St:Nat->Shared->Prop}
  (W:WalksS prog w A.in1 it fp wr G n P St) (na:a∉fp) (f:Nat->Str) (hf:∀ i v,P i v->∃ t,v=.str (f i) t) (hb:n+1<scanBound) :
  ∀ (k i:Nat) (s:Shared),n-i=k->i<=n->St i s->zfj prog w s.heap a (Dp.zb8 f i) ->
   (∀ s',Moved (a::wr) G s s'->zfj prog w s'.heap a (Dp.zb8 f n)->R (.ok (.ret .none)) s') ->
   codeAny (model prog w) A (.builtin "set.update.loop" ⟨[.ref a,.ref it],[]⟩) R s
 |0,i,s,hk,hi,st,hS,hR=>by
  have e:i=n:=by omega
  subst e
  refine codeAny_builtin PyProof.Rows.F.entry_set_update_loop ?_
  rw [Around.under_plainId PyProof.Rows.F.plain_set_update_loop]
  show wpAny _ A.in1 (pyNext (.ref it) >>= _) _ _ _
  refine wpAny_bind (W.done s _ _ st fun s' m=>wpAny_pure (hR s' (m.mono fun b q=>List.mem_cons_of_mem _ q) ?_))
  exact hS.at fun o q=>m.heap a o (fun z=>na (W.sub _ z)) q
 |k+1,i,s,hk,hi,st,hS,hR=>by
  refine codeAny_builtin PyProof.Rows.F.entry_set_update_loop ?_
  rw [Around.under_plainId PyProof.Rows.F.plain_set_update_loop]
  show wpAny _ A.in1 (pyNext (.ref it) >>= _) _ _ _
  refine wpAny_bind (W.item i s _ _ (by omega) st fun v s1 pv st1 m=>?_)
  obtain⟨t,rfl⟩:=hf i v pv
  have h1:zfj prog w s1.heap a (Dp.zb8 f i):=hS.at fun o q=>m.heap a o (fun z=>na (W.sub _ z)) q
  show wpAny _ A.in1 (holding [Value.str (f i) t] (setAdd a (Value.str (f i) t)) >>= _) _ _ _
  refine wpAny_bind (wpAny_holding ?_)
  unfold setAdd
  refine wpAny_holding (wpAny_bind ((PySem.strKind prog w).pyHash (k:=f i) (strKind_is _ _ _ _) ?_))
  have room:(Dp.zb8 f i).length+1<scanBound:=by have:=Dp.zim f i;omega
  refine wpAny_setAddHashed_of (knd:=PySem.strKind prog w) (s:={ s1 with toks:=s1.toks+1 }) (strKind_is _ _ _ _) rfl h1 room fun h2 sb hS2=>?_
  have h3:zfj prog w h2 a (Dp.zb8 f (i+1)):=SetOf_congr hS2 (fun y=>(Dp.zjs _ _ _).symm) (Dp.zgH _ _).symm
  refine wpAny_pure ⟨plainId_quiet PyProof.Rows.F.plain_set_update_loop _,loopS W na f hf hb k (i+1) _ (by omega) (by omega) (W.frame _ s1 _ _ st1 (Nat.le_succ _) fun b q o e=>?_) h3 fun s' m' hS'=>?_⟩
  ·exact (sb.2 b fun z=>na (z▸q)).trans e
  ·refine hR s' (Moved.trans W.gtrans ((m.mono fun b q=>List.mem_cons_of_mem _ q).then_heap (Nat.le_succ _) fun b o q e=>?_) m') hS'
   exact (sb.2 b fun z=>q (z▸List.mem_cons_self)).trans e
end
section
variable {prog:Program}{w:World}{A:Around}{E:Value->Shared->Prop}{s:Shared}
abbrev zfK (led:Bool):Obj:={ cls:=.type "set",dict:=none,data:=.set #[] 0 (.fresh 0 0 led) }
theorem zmT {l:Addr}{its:Array Value}(f:Nat->Str){Q:Value->Shared->Prop}(hh:A.handled=none)(hl:s.heap.IsList l its)(hf:∀ (i:Nat) v,its[i]?=some v->∃ t,v=.str (f i) t)(hb:its.size+1<scanBound)
    (h:∀ (h':Heap) (tk:Nat),zfj prog w h' s.heap.objs.size (Dp.zb8 f its.size)->(∀ b o,b<s.heap.objs.size->s.heap.get? b=some o->h'.get? b=some o)->Q (.ref s.heap.objs.size) { s with heap:=h',toks:=tk }) :
    wpAny (model prog w) A (call (.type "set") [.ref l]) Q E s:=by
  have ft:=F.called_set
  obtain⟨c,tl,hmro⟩:=ft.mro
  have hmade:=ft.made
  have hsub:=ft.sub
  have h1:=ft.notType
  have h2:=ft.canCreate
  have hct:=F.typeCall_set_1 (.ref l)
  refine wpAny_call (codeAny_of_tree ?_)
  show wpAny _ _ (callAny (.type "set") _) _ _ s
  refine wpAny_pure ⟨Code.quiet_builtin _ (by decide +kernel),codeAny_builtin F.entry_type_call ?_⟩
  rw [Around.under_plain (weight_type_call_type "set" [Value.ref l] []) rfl]
  repeat (any_goals (first|assumption|wp_step))
  refine codeAny_mono (code_set_new_1 (.ref l) (E:=E) (Q₁:=fun v s1=>∃ led:Bool,v=.ref s.heap.objs.size/\s1={ s with heap:=s.heap.push (zfK led) }) fun led=>⟨led,rfl,rfl⟩) fun r s1 hr=>?_
  cases r with
  |error e=>exact hr
  |ok fl =>
    cases fl with
    |ret v =>
      obtain⟨led,rfl,rfl⟩:=hr
      have e0:(s.heap.push (zfK led)).get? s.heap.objs.size=some (zfK led):=Heap.get?_push_size _ rfl
      have hT:Shared.TypeIs { s with heap:=s.heap.push (zfK led) } (.ref s.heap.objs.size) "set":=⟨_,e0,rfl⟩
      have hli:=ft.init.lookup
      have hbi:=ft.init.bind (.ref s.heap.objs.size)
      repeat (any_goals (first|assumption|wp_step))
      refine codeAny_mono (codeAny_call_builtin (R:=wants (fun r s2=>r=.none/\∃ h' tk,s2={ s with heap:=h',toks:=tk }/\zfj prog w h' s.heap.objs.size (Dp.zb8 f its.size)/\∀ b o,b<s.heap.objs.size->s.heap.get? b=some o->h'.get? b=some o) E) ft.init.plain F.entry_set_init (check_set_init_1 hT ?_)) fun r2 s2 hr2=>?_
      · obtain⟨ol,hol,hcl,nl,hdl⟩:=hl
        obtain⟨ocl,odi,oda,osl⟩:=ol
        simp only at hcl hdl
        subst hcl hdl
        have hol2:(s.heap.push (zfK led)).get? l=some { cls:=.type "list",dict:=odi,data:=.seq its nl,slots:=osl }:=Heap.get?_push_of_some _ hol
        have k1:=F.sub_list_set
        have k2:=F.sub_list_frozenset
        have k3:(Value.type "list"==Value.type "dict")=false:=by decide
        have hl1:(s.heap.push (zfK led)).IsList l its:=⟨_,hol2,rfl,nl,rfl⟩
        unfold Builtin.«set.__init__» noKeywords Builtin.Frozenset.updateFrom
        generalize hPI:pyIter=PI
        wp_walk
        subst hPI
        refine wpAny_pyIter_list hl1 (wpAny_bind (wpAny_runValue ?_))
        have ll:l<s.heap.objs.size:=Heap.lt_size hol
        have n1:l≠(s.heap.push (zfK led)).objs.size:=by rw [Heap.size_push];exact Nat.ne_of_lt (Nat.lt_succ_of_lt ll)
        have n2:s.heap.objs.size∉[(s.heap.push (zfK led)).objs.size,l]:=by
          rw [Heap.size_push]
          intro z
          rcases List.mem_cons.mp z with z|z
          · exact Nat.ne_of_lt (Nat.lt_succ_self _) z
          · exact Nat.ne_of_gt ll (List.mem_singleton.mp z)
        refine loopS ((Walks.list (show _=none by simp [hh]) _ l n1 its).toS) n2 f hf hb (its.size-0) 0 _ (by omega) (Nat.zero_le _) ⟨⟨_,Heap.get?_push_size _ rfl,rfl,rfl⟩,hl1.push _⟩ ?_ fun s' m hS'=>?_
        · exact SetOf_congr ((setObjOf_fresh (knd:=PySem.strKind prog w) led).setOf (Heap.get?_push_of_some _ e0) (by unfold scanBound;omega)) (fun _=>rfl) rfl
        · obtain⟨h',g',d',tk',os'⟩:=s'
          cases (show g'=s.gens from m.gens)
          cases (show d'=s.drawn from m.drawn)
          cases (show os'=s.os from m.os)
          show wpAny _ _ _ _ _ _
          refine wpAny_pure (wpAny_pure ⟨rfl,h',tk',rfl,hS',fun b o q e=>?_⟩)
          refine m.heap b o (fun z=>?_) (Heap.get?_push_of_some _ (Heap.get?_push_of_some _ e))
          rcases List.mem_cons.mp z with z|z
          · exact Nat.ne_of_lt q z
          · have z':=List.mem_singleton.mp z
            rw [Heap.size_push] at z'
            exact Nat.ne_of_lt (Nat.lt_succ_of_lt q) z'
      · cases r2 with
        |error e=>exact hr2
        |ok fl2 =>
          cases fl2 with
          |ret r =>
            obtain⟨rfl,h',tk,rfl,hS',kp⟩:=hr2
            repeat (any_goals (first|assumption|wp_step))
            exact h _ _ hS' kp
          |_=>exact hr2.elim
    |_=>exact hr.elim
end
def zsH (K:PySem.W.Frag)(ta:TA):TE:=fun σ H Q=>ta σ H fun vs H1=>∃ l,∃ zs:List Str,vs=[.ref l]/\SqL K H1 l (zs.map V.str)/\zs.length<=4000/\Q (.int (Dp.zb8 (fun i=>zs.getD i Str.empty) zs.length).length) H1
theorem zjL:∀ {zs:List Str} {us:List Value},Vals (zs.map V.str) us->∀ (i:Nat) v,us[i]?=some v->∃ t,v=.str (zs.getD i Str.empty) t
 |[],_,.nil,i,v,e=>by simp at e
 |z::zs,_,.cons r t,0,v,e=>by
  obtain⟨t,rfl⟩:=r
  simp at e
  exact⟨t,e.symm⟩
 |z::zs,_,.cons r t,i+1,v,e=>by
  obtain⟨t,h⟩:=zjL t i v (by simpa using e)
  exact⟨t,by rw [h];simp⟩
theorem zpU {X:Cx}{a:Expr}{ta:TA}{p1 p2 pos1 pos2:Pos}(hc:X.calm=true)(hgl:Gl X "len")(hml:X.mg "len"=none)(hgr:Gl X "set")(hmr:X.mg "set"=none)(ha:PA X [a] ta)
  (hs:starEach [a] X.env=[(false,eval a X.env)]:=by rfl)
  (hs3:starEach [.Call (.Name "set" p2) [a] [] pos2] X.env=[(false,eval (.Call (.Name "set" p2) [a] [] pos2) X.env)]:=by rfl) :
  PE X (.Call (.Name "len" p1) [.Call (.Name "set" p2) [a] [] pos2] [] pos1) (zsH X.K ta):=by
 intro pins s σ H Q I h
 refine Call_ (zec I hgl hml boot_len (PyProof.Rows.callWith_builtin1 ?_ (by rw [hs3];rfl) (by rfl)))
 rw [hs3]
 show wpAny _ _ (spliced ((false,eval (.Call (.Name "set" p2) [a] [] pos2) X.env)::backTo pos1 [])) _ _ s
 refine Calls.spliced_cons (Call_ (zec I hgr hmr boot_set (PyProof.Rows.callWith_type1 (thn (ha pos2 pins s σ H _ I h) fun us s1 ⟨vs,H1,I1,r1,q1⟩=>?_) hs rfl)))
 obtain⟨l,zs,e,hx,h4,q⟩:=q1
 subst e
 obtain⟨u,rfl,ru⟩:=vals1 r1
 cases ru
 obtain⟨its,rx,px,zx⟩:=I1.list hx
 have sz:its.toArray.size=zs.length:=by rw [List.size_toArray,<- rx.length,List.length_map]
 refine zmT (fun i=>zs.getD i Str.empty) (show _=none from I1.ok.hd hc) px.isList (fun i v e=>zjL rx i v (by simpa using e)) (by rw [sz];unfold scanBound;omega) fun h' tk hS kp=>Calls.spliced_nil ?_
 rw [sz] at hS
 have le:=Dp.zim (fun i=>zs.getD i Str.empty) zs.length
 obtain⟨o,es,ep,t,ho,hex,hd,_,_,_,hf,hn⟩:=hS
 refine call_len_set ho hex hd hf (by omega) ?_
 rw [hn]
 exact⟨.int _,H1,I1.kept (t':=tk+1+1) (fun b o q=>kp b o (Heap.lt_size q) q),⟨_,rfl⟩,q⟩
section
variable {X:Cx}{pins:List (Addr×Obj)}{σ:L2.St}{H H':Hp}{s:Shared}{a:Addr}
end
section
variable {X:Cx}{pins:List (Addr×Obj)}{σ:L2.St}{R:Result->Shared->Prop}{G:Hp->Prop}{l q I S:Addr}{oq:Obj}{vs:List Value}
end
def zn0 (H:Hp)(cd:Value)(qual:Str):Prop:=∃ c oc vs t u,cd=.ref c/\H c=some (.frz oc u)/\oc.data=.fields vs/\vs[1]?=some (.str qual t)
section
variable {X:Cx}{pins:List (Addr×Obj)}{σ:L2.St}{G:Hp->Prop}{q:Addr}{name qual x:Str}{params:Arguments}{body:Expr}{sc:Scope}{cl:List (Str×Addr)}{pm cd ct:Value}{free:List Str}{fv:List Nat}{te:TE}
end
def ztL (H:Hp)(ps:Array Value)(l c:Nat)(qual:Str):Prop:=ps=#[]\/∃ a,ps=#[rawInt l,rawInt c,.ref a]/\zn0 H (.ref a) qual
end My
namespace Dp
open PySem PySem.Spec PyProof.Rows L2 My
def isStar:Expr->Bool
 |.Starred _ _=>true
 |_=>false
theorem zbf {e:Expr}{es:List Expr}{env:Env}(h:isStar e=false):starEach (e::es) env=(false,eval e env)::starEach es env:=by
  cases e<;>first|rfl|cases h
theorem zcG {pos:Pos}{env:Env}:∀ {es:List Expr},es.all (fun e=>!isStar e)=true->(backTo pos (starEach es env)).any (·.1)=false
 |[],_=>rfl
 |e::es,h=>by
  rw [List.all_cons,Bool.and_eq_true] at h
  rw [zbf (by simpa using h.1)]
  show (false||(backTo pos (starEach es env)).any (·.1))=false
  rw [zcG h.2];rfl
theorem zcj {e:Expr}{env:Env}(h:isStar e=false):starEach [e] env=[(false,eval e env)]:=zbf h
theorem zn1 {e g:Expr}{env:Env}(h:isStar e=false)(k:isStar g=false):starEach [e,g] env=[(false,eval e env),(false,eval g env)]:=by rw [zbf h,zcj k]
def zgM (K:PySem.W.Frag)(H:Hp)(a:Addr)(xs:List V):Prop :=
 (∃ o,H a=some (.frz o (.lst xs)))\/∃ (o:Obj) (its:Array Value) (n:Nat),K.lookup a=some o/\o.cls=.type "list"/\o.dict=none/\o.data=.seq its n/\its.size<=sizeLine/\Vals xs its.toList
def zib (K:PySem.W.Frag)(a:Addr)(xs:List V):Prop:=∃ (o:Obj) (its:Array Value) (n:Nat),K.lookup a=some o/\o.cls=.type "tuple"/\o.data=.seq its n/\its.size<=sizeLine/\Vals xs its.toList
theorem zib.sq {K:PySem.W.Frag}{H:Hp}{a:Addr}{xs:List V}(h:zib K a xs):SqT K H a xs:=.inr h
theorem zgM.sq {K:PySem.W.Frag}{H:Hp}{a:Addr}{xs:List V}(h:zgM K H a xs):SqL K H a xs:=h.imp (fun h=>.inr h) id
mutual
inductive Rel (K:PySem.W.Frag)(ad:List Addr)(H:Hp):D->V->Prop
 |non:Rel K ad H .non .non
 |bl (b:Bool):Rel K ad H (.bl b) (.bl b)
 |int (i:Int):Rel K ad H (.int i) (.int i)
 |str (x:Str):Rel K ad H (.str x) (.str x)
 |ty (n:String):Rel K ad H (.ty n) (.ty n)
 |tup {a:Addr} {vs:List V} {ds:List D}:H a=some (.tup vs)->zA K ad H ds vs->Rel K ad H (.tup ds) (.ref a)
 |rl {a:Addr} {vs:List V} {ds:List D}:zgM K H a vs->zA K ad H ds vs->Rel K ad H (.rl ds) (.ref a)
 |ref {n:Nat} {a:Addr}:ad[n]?=some a->Rel K ad H (.ref n) (.ref a)
 |exn {c:Str} {a C:Addr} {o:Obj} {u:HO}:H a=some (.frz o u)->o.cls=.ref C->PySem.W.nsIn K mainGlobals c=some (some (.ref C))->Rel K ad H (.exn c) (.ref a)
 |kt {a:Addr} {vs:List V} {ds:List D}:zib K a vs->zA K ad H ds vs->Rel K ad H (.kt ds) (.ref a)
inductive zA (K:PySem.W.Frag)(ad:List Addr)(H:Hp):List D->List V->Prop
 |nil:zA K ad H [] []
 |cons {d:D} {v:V} {ds:List D} {vs:List V}:Rel K ad H d v->zA K ad H ds vs->zA K ad H (d::ds) (v::vs)
end
structure Wd (ad:List Addr)(H:Hp)(ad':List Addr)(H':Hp):Prop where
 pre:ad <+: ad'
 keep:∀ b o,b∉ad->H b=some o->H' b=some o
 tup:∀ b xs,H b=some (.tup xs)->H' b=some (.tup xs)
 frz:∀ b o u,H b=some (.frz o u)->H' b=some (.frz o u)
 new:∀ b,b∈ad'->b∉ad->H b=none
theorem Wd.refl {ad:List Addr}{H:Hp}:Wd ad H ad H:=⟨List.prefix_refl _,fun _ _ _ h=>h,fun _ _ h=>h,fun _ _ _ h=>h,fun _ h n=>absurd h n⟩
theorem Wd.trans {ad ad1 ad2:List Addr}{H H1 H2:Hp}(a:Wd ad H ad1 H1)(b:Wd ad1 H1 ad2 H2):Wd ad H ad2 H2 where
 pre:=a.pre.trans b.pre
 keep:=fun c o hc h=>b.keep c o (fun h1=>by rw [a.new c h1 hc] at h;cases h) (a.keep c o hc h)
 tup:=fun c xs h=>b.tup c xs (a.tup c xs h)
 frz:=fun c o u h=>b.frz c o u (a.frz c o u h)
 new:=fun c h2 hc=>by
  by_cases h1:c∈ad1
  ·exact a.new c h1 hc
  ·have n1:=b.new c h2 h1
   cases e:H c with
   |none=>rfl
   |some o=>rw [a.keep c o hc e] at n1;cases n1
theorem zif {α:Type}{l l':List α}(h:l <+: l'){n:Nat}{a:α}(e:l[n]?=some a):l'[n]?=some a:=by
 obtain⟨t,rfl⟩:=h
 rw [List.getElem?_append_left (My.zaO e)];exact e
structure Wr (ad:List Addr)(H:Hp)(ad':List Addr)(H':Hp):Prop where
 pre:ad <+: ad'
 tup:∀ b xs,H b=some (.tup xs)->H' b=some (.tup xs)
 frz:∀ b o u,H b=some (.frz o u)->H' b=some (.frz o u)
theorem Wd.wr {ad ad':List Addr}{H H':Hp}(w:Wd ad H ad' H'):Wr ad H ad' H':=⟨w.pre,w.tup,w.frz⟩
theorem zgM.wr {K:PySem.W.Frag}{ad ad':List Addr}{H H':Hp}{a:Addr}{xs:List V}(w:Wr ad H ad' H')(h:zgM K H a xs):zgM K H' a xs:=h.imp (fun⟨o,e⟩=>⟨o,w.frz _ _ _ e⟩) id
mutual
theorem Rel.wr {K:PySem.W.Frag}{ad ad':List Addr}{H H':Hp}(w:Wr ad H ad' H'):∀ {d:D} {v:V},Rel K ad H d v->Rel K ad' H' d v
 |_,_,.non=>.non
 |_,_,.bl b=>.bl b
 |_,_,.int i=>.int i
 |_,_,.str x=>.str x
 |_,_,.ty n=>.ty n
 |_,_,.tup h r=>.tup (w.tup _ _ h) (zA.wr w r)
 |_,_,.rl h r=>.rl (h.wr w) (zA.wr w r)
 |_,_,.ref h=>.ref (zif w.pre h)
 |_,_,.exn h e n=>.exn (w.frz _ _ _ h) e n
 |_,_,.kt h r=>.kt h (zA.wr w r)
theorem zA.wr {K:PySem.W.Frag}{ad ad':List Addr}{H H':Hp}(w:Wr ad H ad' H'):∀ {ds:List D} {vs:List V},zA K ad H ds vs->zA K ad' H' ds vs
 |_,_,.nil=>.nil
 |_,_,.cons r t=>.cons (Rel.wr w r) (zA.wr w t)
end
theorem Rel.wd {K:PySem.W.Frag}{ad ad':List Addr}{H H':Hp}{d:D}{v:V}(r:Rel K ad H d v)(w:Wd ad H ad' H'):Rel K ad' H' d v:=Rel.wr w.wr r
theorem zA.wd {K:PySem.W.Frag}{ad ad':List Addr}{H H':Hp}{ds:List D}{vs:List V}(r:zA K ad H ds vs)(w:Wd ad H ad' H'):zA K ad' H' ds vs:=zA.wr w.wr r
section
variable {K:PySem.W.Frag}{ad:List Addr}{H:Hp}
theorem zA.length:∀ {ds:List D} {vs:List V},zA K ad H ds vs->ds.length=vs.length
  |_,_,.nil=>rfl
  |_,_,.cons _ t=>congrArg (· + 1) (zA.length t)
theorem zA.get:∀ {ds:List D} {vs:List V} {i:Nat} {d:D},zA K ad H ds vs->ds[i]?=some d->∃ v,vs[i]?=some v/\Rel K ad H d v
 |_,_,_,_,.nil,e=>by simp at e
 |_,_,0,_,.cons r _,e=>by simp at e;subst e;exact⟨_,rfl,r⟩
 |_,_,i+1,d,.cons _ t,e=>by
  obtain⟨v,h1,h2⟩:=zA.get (i:=i) (d:=d) t (by simpa using e)
  exact⟨v,by simpa using h1,h2⟩
theorem zA.append:∀ {ds es:List D} {vs us:List V},zA K ad H ds vs->zA K ad H es us->zA K ad H (ds++es) (vs++us)
 |_,_,_,_,.nil,s=>s
 |_,_,_,_,.cons r t,s=>.cons r (zA.append t s)
theorem zA.take:∀ {ds:List D} {vs:List V} (n:Nat),zA K ad H ds vs->zA K ad H (ds.take n) (vs.take n)
 |_,_,0,_=>.nil
 |_,_,_+1,.nil=>.nil
 |_,_,n+1,.cons r t=>.cons r (zA.take n t)
theorem zA.drop:∀ {ds:List D} {vs:List V} (n:Nat),zA K ad H ds vs->zA K ad H (ds.drop n) (vs.drop n)
 |_,_,0,r=>r
 |_,_,_+1,.nil=>.nil
 |_,_,n+1,.cons _ t=>zA.drop n t
theorem zA.set {d:D}{v:V}(r:Rel K ad H d v):∀ {ds:List D} {vs:List V} (i:Nat),zA K ad H ds vs->zA K ad H (ds.set i d) (vs.set i v)
 |_,_,_,.nil=>.nil
 |_,_,0,.cons _ t=>.cons r t
 |_,_,i+1,.cons q t=>.cons q (zA.set r i t)
theorem zA.bls:∀ {ns:List Bool} {vs:List V},zA K ad H (ns.map D.bl) vs->vs=ns.map V.bl
 |[],_,.nil=>rfl
 |n::ns,_,.cons r t=>by cases r;rw [zA.bls t];rfl
theorem zA.mk_ints:∀ (ns:List Int),zA K ad H (ns.map D.int) (ns.map V.int)
 |[]=>.nil
 |n::ns=>.cons (.int n) (zA.mk_ints ns)
end
inductive zaH (K:PySem.W.Frag)(ad:List Addr)(H:Hp):List (Str×D)->List (Str×V)->Prop
 |nil:zaH K ad H [] []
 |cons {f:Str} {d:D} {v:V} {fs:List (Str×D)} {vs:List (Str×V)}:Rel K ad H d v->zaH K ad H fs vs->zaH K ad H ((f,d)::fs) ((f,v)::vs)
theorem zaH.wr {K:PySem.W.Frag}{ad ad':List Addr}{H H':Hp}(w:Wr ad H ad' H'):∀ {fs:List (Str×D)} {vs:List (Str×V)},zaH K ad H fs vs->zaH K ad' H' fs vs
 |_,_,.nil=>.nil
 |_,_,.cons r t=>.cons (Rel.wr w r) (zaH.wr w t)
theorem zaH.look {K:PySem.W.Frag}{ad:List Addr}{H:Hp}{f:Str}:∀ {fs:List (Str×D)} {vs:List (Str×V)} {d:D},zaH K ad H fs vs->fs.lookup f=some d->∃ v,vs.lookup f=some v/\Rel K ad H d v
 |_,_,d,.nil,e=>by simp at e
 |_,_,d,@zaH.cons _ _ _ g x v fs vs r t,e=>by
  rw [List.lookup_cons] at e ⊢
  cases h:f==g with
  |true=>rw [h] at e;cases e;exact⟨v,rfl,r⟩
  |false=>rw [h] at e;exact zaH.look t e
theorem zaH.put {K:PySem.W.Frag}{ad:List Addr}{H:Hp}{f:Str}{d:D}{v:V}(rd:Rel K ad H d v):∀ {fs:List (Str×D)} {vs:List (Str×V)},zaH K ad H fs vs->zaH K ad H (putD f d fs) (zbJ f v vs)
 |_,_,.nil=>.cons rd .nil
 |_,_,@zaH.cons _ _ _ g x u fs vs r t=>by
  show zaH K ad H (if g=f then (g,d)::fs else (g,x)::putD f d fs) (if g=f then (g,v)::vs else (g,u)::zbJ f v vs)
  by_cases h:g=f
  ·rw [if_pos h,if_pos h];exact .cons rd t
  ·rw [if_neg h,if_neg h];exact .cons r (zaH.put rd t)
theorem zaH.length {K:PySem.W.Frag}{ad:List Addr}{H:Hp}:∀ {fs:List (Str×D)} {vs:List (Str×V)},zaH K ad H fs vs->fs.length=vs.length
  |_,_,.nil=>rfl
  |_,_,.cons _ t=>congrArg (· + 1) (zaH.length t)
theorem zkh {f:Str}{d:D}{q:Str×D}:∀ {fs:List (Str×D)},q∈putD f d fs->q.1=f\/q∈fs
 |[],h=>by
  have:q=(f,d):=by simpa [putD] using h
  subst this;exact .inl rfl
 |(g,x)::fs,h=>by
  have h:q∈if g=f then (g,d)::fs else (g,x)::putD f d fs:=h
  by_cases e:g=f
  ·rw [if_pos e] at h
   rcases List.mem_cons.mp h with rfl|h
   ·exact .inl e
   ·exact .inr (List.mem_cons_of_mem _ h)
  ·rw [if_neg e] at h
   rcases List.mem_cons.mp h with rfl|h
   ·exact .inr (by simp)
   ·exact (zkh h).imp id (List.mem_cons_of_mem _)
theorem zky {f:Str}{d:D}:∀ {fs:List (Str×D)},fs.lookup f=some d->∃ q∈fs,q.1=f
 |[],e=>by simp at e
 |(g,x)::fs,e=>by
  rw [List.lookup_cons] at e
  cases h:f==g with
  |true=>exact⟨(g,x),by simp,(eq_of_beq h).symm⟩
  |false =>
   rw [h] at e
   obtain⟨q,hq,e'⟩:=zky e
   exact⟨q,List.mem_cons_of_mem _ hq,e'⟩
inductive RelK (K:PySem.W.Frag)(ad:List Addr)(H:Hp):List (Str×D)->List (Key×V)->Prop
 |nil:RelK K ad H [] []
 |cons {x:Str} {d:D} {v:V} {fs:List (Str×D)} {vs:List (Key×V)}:Rel K ad H d v->RelK K ad H fs vs->RelK K ad H ((x,d)::fs) ((.inr x,v)::vs)
inductive zas (K:PySem.W.Frag)(ad:List Addr)(H:Hp):List (List Key×D)->List (List Key×V)->Prop
 |nil:zas K ad H [] []
 |cons {x:List Key} {d:D} {v:V} {fs:List (List Key×D)} {vs:List (List Key×V)}:Rel K ad H d v->zas K ad H fs vs->zas K ad H ((x,d)::fs) ((x,v)::vs)
theorem RelK.wr {K:PySem.W.Frag}{ad ad':List Addr}{H H':Hp}(w:Wr ad H ad' H'):∀ {fs:List (Str×D)} {vs:List (Key×V)},RelK K ad H fs vs->RelK K ad' H' fs vs
 |_,_,.nil=>.nil
 |_,_,.cons r t=>.cons (Rel.wr w r) (RelK.wr w t)
theorem zas.wr {K:PySem.W.Frag}{ad ad':List Addr}{H H':Hp}(w:Wr ad H ad' H'):∀ {fs:List (List Key×D)} {vs:List (List Key×V)},zas K ad H fs vs->zas K ad' H' fs vs
 |_,_,.nil=>.nil
 |_,_,.cons r t=>.cons (Rel.wr w r) (zas.wr w t)
def zb2 (K:PySem.W.Frag)(ad:List Addr)(H:Hp)(a:Addr):Cell->Prop
 |.lst ds=>∃ vs,H a=some (.lst vs)/\zA K ad H ds vs
 |.ins c fs=>∃ C dx vs,H a=some (.ins C dx vs)/\Cls K C/\PySem.W.nsIn K mainGlobals c=some (some (.ref C))/\zaH K ad H fs vs/\∀ q∈fs,zal K C q.1
 |.dk kvs=>∃ vs,H a=some (.dK vs)/\RelK K ad H kvs vs
 |.dt kvs=>∃ vs,H a=some (.dT vs)/\zas K ad H kvs vs
 | .tab x l c=>∃ ps cd,H a=some (.tbl ps)/\PySem.W.tabIn K x=some (cd,a)/\ztL H ps l c (x++".<locals>."++"<lambda>")
theorem zo7 {ad ad':List Addr}{H H':Hp}{v:Value}{q:Str}(g:zn0 H v q)(w:Wr ad H ad' H'):zn0 H' v q :=
 let ⟨c,oc,vs,t,u,e,h,r⟩:=g;⟨c,oc,vs,t,u,e,w.frz _ _ _ h,r⟩
class Bs where
 ad:List Addr
 H:Hp
structure zH [B:Bs](K:PySem.W.Frag)(ad:List Addr)(H:Hp)(S:Sto):Prop where
 wd:Wd B.ad B.H ad H
 len:ad.length=S.length
 nd:ad.Nodup
 cell:∀ (n:Nat) (a:Addr) (c:Cell),ad[n]?=some a->S[n]?=some c->zb2 K ad H a c
structure zav (K:PySem.W.Frag)(ad:List Addr)(H:Hp)(ρ:Rho)(σ:L2.St):Prop where
 len:ρ.length=σ.length
 val:∀ (i:Nat) (d:D),ρ[i]?=some (some d)->∃ v,σ[i]?=some (some v)/\Rel K ad H d v
theorem zav.wd {K:PySem.W.Frag}{ad ad':List Addr}{H H':Hp}{ρ:Rho}{σ:L2.St}(h:zav K ad H ρ σ)(w:Wd ad H ad' H'):zav K ad' H' ρ σ :=
 ⟨h.len,fun i d e=>let ⟨v,e',r⟩:=h.val i d e;⟨v,e',r.wd w⟩⟩
variable [B:Bs]
section
variable {K:PySem.W.Frag}{ad:List Addr}{H:Hp}{S:Sto}
theorem zH.get (st:zH K ad H S){n:Nat}{c:Cell}(h:S[n]?=some c):∃ a,ad[n]?=some a/\zb2 K ad H a c:=by
 have hn:n<ad.length:=by rw [st.len];exact My.zaO h
 exact⟨ad[n],List.getElem?_eq_getElem hn,st.cell n _ c (List.getElem?_eq_getElem hn) h⟩
theorem zb2.some {a:Addr}{c:Cell}(h:zb2 K ad H a c):∃ o,H a=some o:=by
 cases c with
 |lst ds=>obtain⟨vs,e,_⟩:=h;exact⟨_,e⟩
 |ins c fs=>obtain⟨C,dx,vs,e,_⟩:=h;exact⟨_,e⟩
 |dk kvs=>obtain⟨vs,e,_⟩:=h;exact⟨_,e⟩
 |dt kvs=>obtain⟨vs,e,_⟩:=h;exact⟨_,e⟩
 |tab x l c=>obtain⟨ps,cd,e,_⟩:=h;exact⟨_,e⟩
theorem zH.there (st:zH K ad H S){a:Addr}(h:a∈ad):∃ o,H a=some o:=by
 obtain⟨n,hn,e⟩:=List.mem_iff_getElem.mp h
 have e':ad[n]?=some a:=by rw [List.getElem?_eq_getElem hn,e]
 have hs:n<S.length:=by rw [<- st.len];exact hn
 exact (st.cell n a S[n] e' (List.getElem?_eq_getElem hs)).some
theorem zH.fresh (st:zH K ad H S){l:Addr}(h:H l=none):l∉ad:=fun m=>by
 obtain⟨o,e⟩:=st.there m
 rw [h] at e;cases e
theorem zb2.wr {ad':List Addr}{H':Hp}{a:Addr}{c:Cell}(h:zb2 K ad H a c)(w:Wr ad H ad' H')(same:H' a=H a):zb2 K ad' H' a c:=by
 cases c with
 |lst ds=>obtain⟨vs,e,r⟩:=h;exact⟨vs,same.trans e,zA.wr w r⟩
 |ins c fs=>obtain⟨C,dx,vs,e,c1,c2,r,n⟩:=h;exact⟨C,dx,vs,same.trans e,c1,c2,zaH.wr w r,n⟩
 |dk kvs=>obtain⟨vs,e,r⟩:=h;exact⟨vs,same.trans e,RelK.wr w r⟩
 |dt kvs=>obtain⟨vs,e,r⟩:=h;exact⟨vs,same.trans e,zas.wr w r⟩
 |tab x l c=>obtain⟨ps,cd,e,t,g⟩:=h;exact⟨ps,cd,same.trans e,t,g.imp id fun⟨c,e,g⟩=>⟨c,e,zo7 g w⟩⟩
theorem zb2.wd {ad':List Addr}{H':Hp}{a:Addr}{c:Cell}(h:zb2 K ad H a c)(w:Wd ad H ad' H')(same:H' a=H a):zb2 K ad' H' a c:=h.wr w.wr same
theorem Wd.laid {l:Addr}{o:HO}(h:H l=none):Wd ad H ad (upd H l o) :=
 ⟨List.prefix_refl _,fun b u _ e=>zdo h e,fun b u e=>zdo h e,fun b u w e=>zdo h e,fun _ m n=>absurd m n⟩
theorem zH.bfree (st:zH K ad H S){p:Addr}(h:H p=none):B.H p=none:=by
 cases e:B.H p with
 |none=>rfl
 |some o =>
  by_cases m:p∈B.ad
  ·obtain⟨u,hu⟩:=st.there (st.wd.pre.subset m)
   rw [h] at hu;cases hu
  ·rw [st.wd.keep p o m e] at h;cases h
theorem zH.laid (st:zH K ad H S){l:Addr}{o:HO}(h:H l=none):zH K ad (upd H l o) S :=
 ⟨st.wd.trans (Wd.laid h),st.len,st.nd,fun n a c e1 e2=>(st.cell n a c e1 e2).wd (Wd.laid h) (by
  obtain⟨u,e⟩:=(st.cell n a c e1 e2).some
  rw [zdo h e,e])⟩
theorem Wd.newL (st:zH K ad H S){l:Addr}{o:HO}(h:H l=none):Wd ad H (ad++[l]) (upd H l o) :=
 ⟨List.prefix_append _ _,fun b u _ e=>zdo h e,fun b u e=>zdo h e,fun b u w e=>zdo h e,fun b m n=>by
  rcases List.mem_append.mp m with m|m
  ·exact absurd m n
  ·have:b=l:=by simpa using m
   subst this;exact h⟩
theorem zH.newL (st:zH K ad H S){l:Addr}{vs:List V}{ds:List D}(h:H l=none)(r:zA K ad H ds vs):zH K (ad++[l]) (upd H l (.lst vs)) (S++[.lst ds]) where
 wd:=st.wd.trans (Wd.newL st h)
 len:=by rw [List.length_append,List.length_append,st.len];rfl
 nd:=by
  rw [List.nodup_append]
  refine⟨st.nd,by simp,fun a ha b hb e=>?_⟩
  have:b=l:=by simpa using hb
  subst this;subst e
  exact st.fresh h ha
 cell:=fun n a c e1 e2=>by
  by_cases hn:n<ad.length
  ·rw [List.getElem?_append_left hn] at e1
   rw [List.getElem?_append_left (by rw [<- st.len];exact hn)] at e2
   have ok:=st.cell n a c e1 e2
   obtain⟨u,e⟩:=ok.some
   exact ok.wd (Wd.newL st h) (by rw [zdo h e,e])
  ·have hn':ad.length<=n:=Nat.le_of_not_lt hn
   rw [List.getElem?_append_right hn'] at e1
   rw [List.getElem?_append_right (by rw [<- st.len];exact hn'),<- st.len] at e2
   cases hk:n-ad.length with
   |zero =>
    rw [hk] at e1 e2
    have e1':l=a:=by simpa using e1
    have e2':Cell.lst ds=c:=by simpa using e2
    subst e1' e2'
    exact⟨vs,zaT,r.wd (Wd.newL st h)⟩
   |succ k=>rw [hk] at e1;simp at e1
theorem zH.newRef (st:zH K ad H S){l:Addr}{o:HO}:Rel K (ad++[l]) (upd H l o) (.ref S.length) (.ref l):=.ref (by rw [<- st.len,List.getElem?_append_right (Nat.le_refl _),Nat.sub_self];rfl)
theorem Wd.put {n:Nat}{a:Addr}{vs ws:List V}(e:ad[n]?=some a)(h:H a=some (.lst vs)):Wd ad H ad (upd H a (.lst ws)) :=
 ⟨List.prefix_refl _,fun b u hb q=>by
   have:b≠a:=fun z=>hb (by rw [z];exact List.mem_of_getElem? e)
   rw [zX this];exact q,
  fun b xs q=>by rw [zX (zdQ q h (by intro z;cases z))];exact q,fun b o u q=>by rw [zX (zdQ q h (by intro z;cases z))];exact q,fun _ m n=>absurd m n⟩
theorem zH.put (st:zH K ad H S){n:Nat}{a:Addr}{vs ws:List V}{ds:List D}(e:ad[n]?=some a)(h:H a=some (.lst vs))(r:zA K ad H ds ws):zH K ad (upd H a (.lst ws)) (S.set n (.lst ds)) where
 wd:=st.wd.trans (Wd.put e h)
 len:=by rw [List.length_set];exact st.len
 nd:=st.nd
 cell:=fun m b c e1 e2=>by
  have w:=Wd.put (ws:=ws) e h
  by_cases hm:m=n
  ·subst hm
   rw [e] at e1;cases e1
   rw [List.getElem?_set_self (by rw [<- st.len];exact My.zaO e)] at e2
   cases e2
   exact⟨ws,zaT,r.wd w⟩
  ·rw [List.getElem?_set_ne (Ne.symm hm)] at e2
   have ne:b≠a:=fun z=>by
    subst z
    have h1:=My.zaO e1
    have h2:=My.zaO e
    have q1:=(List.getElem?_eq_some_iff.mp e1).2
    have q2:=(List.getElem?_eq_some_iff.mp e).2
    exact hm ((List.getElem_inj st.nd).mp (q1.trans q2.symm))
   exact (st.cell m b c e1 e2).wd w (zX ne)
theorem zH.newI (st:zH K ad H S){x dx C:Addr}{c:Str}(h:H x=none)(h2:H dx=none)(hne:dx≠x)(hc:Cls K C)(hn:PySem.W.nsIn K mainGlobals c=some (some (.ref C))) :
  Wd ad H (ad++[x]) (upd (upd H dx (.own x)) x (.ins C dx []))/\zH K (ad++[x]) (upd (upd H dx (.own x)) x (.ins C dx [])) (S++[.ins c []]):=by
 have st1:=st.laid (o:=.own x) h2
 have hx:upd H dx (.own x) x=none:=by rw [zX (Ne.symm hne)];exact h
 have w1:Wd ad H ad (upd H dx (.own x)):=Wd.laid h2
 have w2:Wd ad (upd H dx (.own x)) (ad++[x]) (upd (upd H dx (.own x)) x (.ins C dx [])):=Wd.newL st1 hx
 refine⟨w1.trans w2,st.wd.trans (w1.trans w2),?_,?_,fun n a c' e1 e2=>?_⟩
 ·rw [List.length_append,List.length_append,st.len];rfl
 ·rw [List.nodup_append]
  refine⟨st.nd,by simp,fun a ha b hb e=>?_⟩
  have:b=x:=by simpa using hb
  subst this;subst e
  exact st.fresh h ha
 ·by_cases hn':n<ad.length
  ·rw [List.getElem?_append_left hn'] at e1
   rw [List.getElem?_append_left (by rw [<- st.len];exact hn')] at e2
   have ok:=st1.cell n a c' e1 e2
   obtain⟨u,e⟩:=ok.some
   exact ok.wd w2 (by rw [zdo hx e,e])
  ·have hn':ad.length<=n:=Nat.le_of_not_lt hn'
   rw [List.getElem?_append_right hn'] at e1
   rw [List.getElem?_append_right (by rw [<- st.len];exact hn'),<- st.len] at e2
   cases hk:n-ad.length with
   |zero =>
    rw [hk] at e1 e2
    have e1':x=a:=by simpa using e1
    have e2':Cell.ins c []=c':=by simpa using e2
    subst e1' e2'
    exact⟨C,dx,[],zaT,hc,hn,.nil,fun q hq=>by cases hq⟩
   |succ k=>rw [hk] at e1;simp at e1
theorem Wd.putI {n:Nat}{a C dx C' dx':Addr}{vs ws:List (Str×V)}(e:ad[n]?=some a)(h:H a=some (.ins C dx vs)):Wd ad H ad (upd H a (.ins C' dx' ws)) :=
 ⟨List.prefix_refl _,fun b u hb q=>by
   have:b≠a:=fun z=>hb (by rw [z];exact List.mem_of_getElem? e)
   rw [zX this];exact q,
  fun b xs q=>by rw [zX (zdQ q h (by intro z;cases z))];exact q,fun b o u q=>by rw [zX (zdQ q h (by intro z;cases z))];exact q,fun _ m n=>absurd m n⟩
theorem zH.putI (st:zH K ad H S){n:Nat}{a C dx:Addr}{c f:Str}{vs:List (Str×V)}{fs:List (Str×D)}{d:D}{v:V}(e:ad[n]?=some a)(h:H a=some (.ins C dx vs))(hc:Cls K C)(hn:PySem.W.nsIn K mainGlobals c=some (some (.ref C)))(rf:zaH K ad H fs vs)(hna:∀ q∈fs,zal K C q.1)(hf:zal K C f)(r:Rel K ad H d v) :
  zH K ad (upd H a (.ins C dx (zbJ f v vs))) (S.set n (.ins c (putD f d fs))) where
 wd:=st.wd.trans (Wd.putI e h)
 len:=by rw [List.length_set];exact st.len
 nd:=st.nd
 cell:=fun m b c' e1 e2=>by
  have w:Wd ad H ad (upd H a (.ins C dx (zbJ f v vs))):=Wd.putI e h
  by_cases hm:m=n
  ·subst hm
   rw [e] at e1;cases e1
   rw [List.getElem?_set_self (by rw [<- st.len];exact My.zaO e)] at e2
   cases e2
   refine⟨C,dx,_,zaT,hc,hn,zaH.wr w.wr (zaH.put r rf),fun q hq=>?_⟩
   rcases zkh hq with h1|h1
   ·rw [h1];exact hf
   ·exact hna q h1
  ·rw [List.getElem?_set_ne (Ne.symm hm)] at e2
   have ne:b≠a:=fun z=>by
    subst z
    have q1:=(List.getElem?_eq_some_iff.mp e1).2
    have q2:=(List.getElem?_eq_some_iff.mp e).2
    exact hm ((List.getElem_inj st.nd).mp (q1.trans q2.symm))
   exact (st.cell m b c' e1 e2).wd w (zX ne)
theorem Wd.hid {ad':List Addr}{H':Hp}{p:Addr}{o:HO}(w:Wd ad H ad' H')(hp:H p=none):Wd ad H ad' (upd H' p o) :=
 ⟨w.pre,fun b u hb q=>by rw [zX (zba q hp)];exact w.keep b u hb q,fun b u q=>by rw [zX (zba q hp)];exact w.tup b u q,fun b u v q=>by rw [zX (zba q hp)];exact w.frz b u v q,w.new⟩
theorem Wr.hid {p:Addr}{vs ws:List V}(h:H p=some (.lst vs)):Wr ad H ad (upd H p (.lst ws)) :=
 ⟨List.prefix_refl _,fun b xs q=>by rw [zX (zdQ q h (by intro z;cases z))];exact q,fun b o u q=>by rw [zX (zdQ q h (by intro z;cases z))];exact q⟩
theorem zH.hid (st:zH K ad H S){p:Addr}{vs ws:List V}(h:H p=some (.lst vs))(hp:p∉ad)(hb:B.H p=none):zH K ad (upd H p (.lst ws)) S :=
 ⟨st.wd.hid hb,st.len,st.nd,fun n a c e1 e2=>(st.cell n a c e1 e2).wr (Wr.hid h) (zX fun z=>hp (by rw [<- z];exact List.mem_of_getElem? e1))⟩
theorem Wd.add {ad':List Addr}{H':Hp}{p:Addr}(w:Wd ad H ad' H')(hp:H p=none):Wd ad H (ad'++[p]) H' :=
 ⟨w.pre.trans (List.prefix_append _ _),w.keep,w.tup,w.frz,fun b m n=>by
  rcases List.mem_append.mp m with m|m
  ·exact w.new b m n
  ·have:b=p:=by simpa using m
   subst this;exact hp⟩
theorem zH.add (st:zH K ad H S){p:Addr}{vs:List V}{ds:List D}(h:H p=some (.lst vs))(hp:p∉ad)(r:zA K ad H ds vs)(hb:B.H p=none):zH K (ad++[p]) H (S++[.lst ds]) where
 wd:=st.wd.add hb
 len:=by rw [List.length_append,List.length_append,st.len];rfl
 nd:=by
  rw [List.nodup_append]
  refine⟨st.nd,by simp,fun a ha b hb e=>?_⟩
  have:b=p:=by simpa using hb
  subst this;subst e
  exact hp ha
 cell:=fun n a c e1 e2=>by
  have w:Wr ad H (ad++[p]) H:=⟨List.prefix_append _ _,fun _ _ q=>q,fun _ _ _ q=>q⟩
  by_cases hn:n<ad.length
  ·rw [List.getElem?_append_left hn] at e1
   rw [List.getElem?_append_left (by rw [<- st.len];exact hn)] at e2
   exact (st.cell n a c e1 e2).wr w rfl
  ·have hn':ad.length<=n:=Nat.le_of_not_lt hn
   rw [List.getElem?_append_right hn'] at e1
   rw [List.getElem?_append_right (by rw [<- st.len];exact hn'),<- st.len] at e2
   cases hk:n-ad.length with
   |zero =>
    rw [hk] at e1 e2
    have e1':p=a:=by simpa using e1
    have e2':Cell.lst ds=c:=by simpa using e2
    subst e1' e2'
    exact⟨vs,h,zA.wr w r⟩
   |succ k=>rw [hk] at e1;simp at e1
theorem Lst.sq (st:zH K ad H S){x:D}{xs:List D}{v:V}(h:Lst S x xs)(r:Rel K ad H x v):∃ a vs,v=.ref a/\SqL K H a vs/\zA K ad H xs vs:=by
 rcases h with rfl|⟨n,rfl,h⟩
 ·cases r with
  |rl h r=>exact⟨_,_,rfl,h.sq,r⟩
 ·cases r with
  |ref e =>
   obtain⟨vs,e2,r⟩:=st.cell n _ _ e h
   exact⟨_,vs,rfl,SqL.of e2,r⟩
theorem zfL.sq (st:zH K ad H S){x:D}{xs:List D}{v:V}(h:zfL S x xs)(r:Rel K ad H x v):∃ a vs,v=.ref a/\(SqL K H a vs\/SqT K H a vs)/\zA K ad H xs vs:=by
 rcases h with rfl|h
 ·cases r with
  |tup h r=>exact⟨_,_,rfl,.inr (SqT.of h),r⟩
 ·obtain⟨a,vs,e,s,r⟩:=Lst.sq st h r
  exact⟨a,vs,e,.inl s,r⟩
end
omit B in
theorem el8 {a b c d:Type}{p1 p2 p3 p4:a->b->c->d->Prop}{R:Prop}(h:∃ (x:a) (y:b) (z:c) (w:d),p1 x y z w/\p2 x y z w/\p3 x y z w/\p4 x y z w)(f:∀ (x:a) (y:b) (z:c) (w:d),p1 x y z w->p2 x y z w->p3 x y z w->p4 x y z w->R):R :=
 Exists.elim h fun x h=>Exists.elim h fun y h=>Exists.elim h fun z h=>Exists.elim h fun w h=>f x y z w h.1 h.2.1 h.2.2.1 h.2.2.2
def KK (K:PySem.W.Frag)(ad:List Addr)(H:Hp)(Q0:DK)(Q:VK):Prop:=∀ d S' v H' ad',Q0 d S'->Wd ad H ad' H'->zH K ad' H' S'->Rel K ad' H' d v->Q v H'
theorem KK.wd {K:PySem.W.Frag}{ad ad':List Addr}{H H':Hp}{Q0:DK}{Q:VK}(k:KK K ad H Q0 Q)(w:Wd ad H ad' H'):KK K ad' H' Q0 Q:=fun d S' v H' ad' q w'=>k d S' v H' ad' q (w.trans w')
def up (K:PySem.W.Frag)(t:DE):TE:=fun σ H Q=>∃ ad ρ S Q0,zH K ad H S/\zav K ad H ρ σ/\t ρ S Q0/\KK K ad H Q0 Q
def upT (K:PySem.W.Frag)(t:DT):TT:=fun σ H Q=>∃ ad ρ S Q0,zH K ad H S/\zav K ad H ρ σ/\t ρ S Q0/\∀ b S' H' ad',Q0 b S'->Wd ad H ad' H'->zH K ad' H' S'->Q b H'
def upA (K:PySem.W.Frag)(t:DA):TA:=fun σ H Q=>∃ ad ρ S Q0,zH K ad H S/\zav K ad H ρ σ/\t ρ S Q0/\∀ ds S' vs H' ad',Q0 ds S'->Wd ad H ad' H'->zH K ad' H' S'->zA K ad' H' ds vs->Q vs H'
theorem zH.base {K:PySem.W.Frag}{ad:List Addr}{H:Hp}{S:Sto}(st:zH K ad H S):@zH ⟨ad,H⟩ K ad H S:=@zH.mk ⟨ad,H⟩ _ _ _ _ Wd.refl st.len st.nd st.cell
theorem zH.back {K:PySem.W.Frag}{ad ad':List Addr}{H H':Hp}{S S':Sto}(st:zH K ad H S)(st':@zH ⟨ad,H⟩ K ad' H' S'):zH K ad' H' S' :=
 ⟨st.wd.trans (@zH.wd ⟨ad,H⟩ _ _ _ _ st'),@zH.len ⟨ad,H⟩ _ _ _ _ st',@zH.nd ⟨ad,H⟩ _ _ _ _ st',@zH.cell ⟨ad,H⟩ _ _ _ _ st'⟩
theorem KK.base {K:PySem.W.Frag}{ad:List Addr}{H:Hp}{S:Sto}{Q0:DK}{Q:VK}(st:zH K ad H S)(k:KK K ad H Q0 Q):@KK ⟨ad,H⟩ K ad H Q0 Q:=fun d S' v H' ad' q w st' r=>k d S' v H' ad' q w (st.back st') r
def upF (K:PySem.W.Frag)(f:DSp):Sp:=fun vs H Q _=>∃ ad S ds Q0,@zH ⟨ad,H⟩ K ad H S/\zA K ad H ds vs/\f ds S Q0/\@KK ⟨ad,H⟩ K ad H Q0 Q
structure zhy (K:PySem.W.Frag)(ad:List Addr)(H:Hp)(E0:zlO)(E:Ends):Prop where
 nx:∀ ρ S σ H' ad',E0.nx ρ S->Wd ad H ad' H'->zH K ad' H' S->zav K ad' H' ρ σ->E.nx σ H'
 rt:KK K ad H E0.rt E.rt
 bk:∀ ρ S σ H' ad',E0.bk ρ S->Wd ad H ad' H'->zH K ad' H' S->zav K ad' H' ρ σ->E.bk σ H'
 ct:∀ ρ S σ H' ad',E0.ct ρ S->Wd ad H ad' H'->zH K ad' H' S->zav K ad' H' ρ σ->E.ct σ H'
theorem zhy.wd {K:PySem.W.Frag}{ad ad':List Addr}{H H':Hp}{E0:zlO}{E:Ends}(k:zhy K ad H E0 E)(w:Wd ad H ad' H'):zhy K ad' H' E0 E :=
 ⟨fun ρ S σ H' ad' q w'=>k.nx ρ S σ H' ad' q (w.trans w'),k.rt.wd w,fun ρ S σ H' ad' q w'=>k.bk ρ S σ H' ad' q (w.trans w'),fun ρ S σ H' ad' q w'=>k.ct ρ S σ H' ad' q (w.trans w')⟩
def upS (K:PySem.W.Frag)(t:DS):TS:=fun E σ H=>∃ ad ρ S E0,zH K ad H S/\zav K ad H ρ σ/\t E0 ρ S/\zhy K ad H E0 E
@[irreducible] def PD (X:Cx)(e:Expr)(t:DE):Prop:=PE X e (up X.K t)
@[irreducible] def PTD (X:Cx)(e:Expr)(t:DT):Prop:=PT X e (upT X.K t)
@[irreducible] def PWD (X:Cx)(e:Expr)(t:DT):Prop:=PW X e (upT X.K t)
@[irreducible] def PAD (X:Cx)(es:List Expr)(t:DA):Prop:=PA X es (upA X.K t)
@[irreducible] def PSD (X:Cx)(st:Stmt)(t:DS):Prop:=PS X st (upS X.K t)
@[irreducible] def zeu (X:Cx)(st:List Stmt)(t:DS):Prop:=PSs X st (upS X.K t)
theorem zoZ {X:Cx}{e:Expr}{t t':TE}(h:PE X e t)(m:∀ σ H Q,t' σ H Q->t σ H Q):PE X e t':=fun pins s σ H Q I q=>h pins s σ H Q I (m σ H Q q)
theorem zgq {X:Cx}{e:Expr}{t t':TT}(h:PT X e t)(m:∀ σ H Q,t' σ H Q->t σ H Q):PT X e t':=fun pins s σ H Q I q=>h pins s σ H Q I (m σ H Q q)
theorem zlp {X:Cx}{e:Expr}{t t':TT}(h:PW X e t)(m:∀ σ H Q,t' σ H Q->t σ H Q):PW X e t':=fun wh pins s σ H Q I q=>h wh pins s σ H Q I (m σ H Q q)
theorem zlt {X:Cx}{e:List Expr}{t t':TA}(h:PA X e t)(m:∀ σ H Q,t' σ H Q->t σ H Q):PA X e t':=fun pos pins s σ H Q I q=>h pos pins s σ H Q I (m σ H Q q)
theorem zbj {X:Cx}{st:Stmt}{t t':TS}(h:PS X st t)(m:∀ D σ H,t' D σ H->t D σ H):PS X st t':=fun pins s σ H D I q=>h pins s σ H D I (m D σ H q)
theorem zjJ {X:Cx}{st:List Stmt}{t t':TS}(h:PSs X st t)(m:∀ D σ H,t' D σ H->t D σ H):PSs X st t':=fun pins s σ H D I q=>h pins s σ H D I (m D σ H q)
section
variable {X:Cx}{a b c:Expr}{ta tb tc:DE}{pos:Pos}
theorem zau {e:Expr}{t:TE}{d:DE}(h:PE X e t)(m:∀ σ H Q,up X.K d σ H Q->t σ H Q):PD X e d:=by with_unfolding_all exact (zoZ h m)
theorem zqv {e:Expr}{i:Nat}(h:PE X e (zrt i)):PD X e (zc i):=by with_unfolding_all exact (zau h fun σ H Q ⟨ad,ρ,S,Q0,st,rh,⟨d,e,q⟩,k⟩=>by
 obtain⟨v,ev,r⟩:=rh.val i d e
 exact⟨v,ev,k d S v H ad q Wd.refl st r⟩)
theorem zfH {e:Expr}{v:V}{d:D}(h:PE X e (tC v))(r:∀ ad H,Rel X.K ad H d v):PD X e (dC d):=by with_unfolding_all exact (zau h fun σ H Q hh=>el8 hh fun ad ρ S Q0 st rh q k=>k d S v H ad q Wd.refl st (r _ _))
theorem zm {i j}:PD X (.Constant (.int i) j pos) (dC (.int i)):=by with_unfolding_all exact (zfH zjm fun _ _=>.int i)
theorem zef {b j}:PD X (.Constant (.bool b) j pos) (dC (.bl b)):=by with_unfolding_all exact (zfH zsf fun _ _=>.bl b)
theorem zc1 {j}:PD X (.Constant .none j pos) (dC .non):=by with_unfolding_all exact (zfH zr2 fun _ _=>.non)
theorem zU {x j}:PD X (.Constant (.str x) j pos) (dC (.str x)):=by with_unfolding_all exact (zfH zmY fun _ _=>.str x)
theorem zeY {x:Str}{T:String}(hg:Gl X x)(hm:X.mg x=none)(hv:bootBuiltins x=some (.type T))(hn:x≠"__name__":=by decide)(hd:(x==("__debug__":Str))=false:=by decide):PD X (.Name x pos) (dC (.ty T)):=by with_unfolding_all exact (zfH (zsL hg hm hv hn hd) fun _ _=>.ty T)
theorem zbm {x:Str}{n:Int}(hg:Gl X x)(hm:∃ t,X.mg x=some (.int n t))(hd:(x==("__debug__":Str))=false:=by decide):PD X (.Name x pos) (dC (.int n)):=by with_unfolding_all exact (zfH (zoQ hg hm hd) fun _ _=>.int n)
theorem zk0 {x z:Str}(hg:Gl X x)(hm:∃ t,X.mg x=some (.str z t))(hd:(x==("__debug__":Str))=false:=by decide):PD X (.Name x pos) (dC (.str z)):=by with_unfolding_all exact (zfH (by obtain⟨t,hm⟩:=hm;exact zhD (v:=.str z) hg hm ⟨t,rfl⟩ hd) fun _ _=>.str z)
theorem zk8 {i j:Int}{m n:Nat}{p1 p2:Pos}(c:Int)(h:i ^ j.toNat=c)(h0:0<=j/\j<=1000000/\i.natAbs<2 ^ 64):PD X (.BinOp (.Constant (.int i) m p1) .Pow (.Constant (.int j) n p2) pos) (dC (.int c)):=by with_unfolding_all exact (zfH (zpw c h h0) fun _ _=>.int c)
def OD (K:PySem.W.Frag)(r':DR2)(r:R2):Prop:=∀ ad H S x y v u Q0 Q,zH K ad H S->Rel K ad H x v->Rel K ad H y u->r' x y S Q0->KK K ad H Q0 Q->r v u H Q
theorem zgd {K:PySem.W.Frag}{r':DR2}{r:R2}(o:OD K r' r){σ:L2.St}{H:Hp}{Q:VK}(h:up K (dOp r' ta tb) σ H Q):tOp r (up K ta) (up K tb) σ H Q:=by
 obtain⟨ad,ρ,S,Q0,st,rh,q,k⟩:=h
 refine⟨ad,ρ,S,_,st,rh,q,fun x S1 v H1 ad1 q1 w1 st1 r1=>?_⟩
 refine⟨ad1,ρ,S1,_,st1,rh.wd w1,q1,fun y S2 u H2 ad2 q2 w2 st2 r2=>?_⟩
 exact o ad2 H2 S2 x y v u Q0 Q st2 (r1.wd w2) r2 q2 (k.wd (w1.trans w2))
theorem zhs {op:Operator}{r':DR2}{r:R2}(ho:OpR X (binaryOp op) r)(o:OD X.K r' r)(ha:PD X a ta)(hb:PD X b tb):PD X (.BinOp a op b pos) (dOp r' ta tb):=by with_unfolding_all exact (zau (zoD ho ha hb) fun _ _ _=>zgd o)
theorem zlX {K:PySem.W.Frag}{C C':Int->Int->Prop}{g:Int->Int->D}{g':Int->Int->V}(hc:∀ i j,C i j->C' i j)(hg:∀ ad H i j,Rel K ad H (g i j) (g' i j)):OD K (oI C g) (rI C' g'):=fun ad H S x y v u Q0 Q st rx ry ⟨i,j,ex,ey,c,q⟩ k=>by
 subst ex ey
 cases rx
 cases ry
 exact⟨i,j,rfl,rfl,hc i j c,k _ S _ H ad q Wd.refl st (hg ad H i j)⟩
theorem zjh {K:PySem.W.Frag}{g:Int->Int->D}{g':Int->Int->V}(hg:∀ ad H i j,Rel K ad H (g i j) (g' i j)):OD K (oI0 g) (rI0 g'):=fun ad H S x y v u Q0 Q st rx ry ⟨i,j,ex,ey,q⟩ k=>by
 subst ex ey
 cases rx
 cases ry
 exact⟨i,j,rfl,rfl,k _ S _ H ad q Wd.refl st (hg ad H i j)⟩
theorem zmD {i:Int}(h:i.natAbs<2 ^ 64):-(2 ^ 64)<i/\i<2 ^ 64:=⟨by omega,by omega⟩
def zsT (i j:Int):Prop:=zaK i j
theorem zpO:OpR X (binaryOp .Mult) (rI zsT fun i j=>.int (i*j)):=opI fun i j _ _ _ _ _ hc q=>by
 rcases hc with h|h|h
 ·exact mul_int q (IntMulOk.of_bits (zg7 h.1) (zg7 h.2))
 ·exact mul_int q (zlK.ok (.inl (zmD h)))
 ·exact mul_int q (zlK.ok (.inr (zmD h)))
theorem za4 (ha:PD X a ta)(hb:PD X b tb):PD X (.BinOp a .Sub b pos) (dOp zbX ta tb):=by with_unfolding_all exact (zhs zrv (zjh fun _ _ i j=>.int (i-j)) ha hb)
theorem zrj {z:Str}{n:Int}(hz:z.length<=1000)(h0:-1000<=n)(h1:n<=1000):MulOk z n:=by
 refine⟨?_,fun _ _=>?_,fun h _=>?_⟩
 ·rw [decide_eq_false (by omega),decide_eq_false (by omega)];rfl
 ·have:(1000:Int)<=(2 ^ 63-1)/n\/n<1:=by
   rcases Int.lt_or_le n 1 with g|g
   ·exact .inr g
   ·exact .inl ((Int.le_ediv_iff_mul_le (by omega)).mpr (by omega))
  omega
 ·have:z.length*n.toNat<=1000*1000:=Nat.mul_le_mul hz (by omega)
  have hs:z.length*n.toNat<=sizeLine:=Nat.le_trans this (by decide)
  first
   |exact decide_eq_false (by omega)
   |(unfold tooLong;exact decide_eq_false (by omega))
   |simp [tooLong];omega
theorem zoY:OpR X (binaryOp .Mult) (fun x y H Q=>∃ z n,x=.str z/\y=.int n/\MulOk z n/\Q (.str (Txt.mul z n)) H):=by
 intro pins s σ H x y v u Q I rx ry h
 obtain⟨z,n,rfl,rfl,ok,q⟩:=h
 obtain⟨t,rfl⟩:=rx
 obtain⟨t',rfl⟩:=ry
 exact SB.mul ok fun t' k=>⟨.str (Txt.mul z n),H,I.tok _,⟨_,rfl⟩,q⟩
omit B in
theorem zlk {i:Int}(h:Hg i):Builtin.Int.intBits i<=2 ^ 20:=by
 unfold Hg at h
 exact intBits_le h
omit B in
theorem zph {i:Int}(h:Builtin.Int.intBits i<=2 ^ 20):Hg i:=by
 unfold Hg
 exact Nat.lt_of_lt_of_le (natAbs_lt_pow_bits i) (Nat.pow_le_pow_right (by decide) h)
theorem zoV:OpR X (binaryOp .Mult) (rI (fun i j=>Hg i/\Hg j) fun i j=>.int (i*j)):=opI fun i j _ _ _ _ _ hc q=>mul_int q (IntMulOk.of_bits (zlk hc.1) (zlk hc.2))
theorem zaj (ha:PD X a ta)(hb:PD X b tb):PD X (.BinOp a .Mult b pos) (dOp zaM ta tb):=by with_unfolding_all exact (zhs (zpO.or (zoY.or zoV)) (fun ad H S x y v u Q0 Q st rx ry h k=>by
 rcases h with h|⟨z,n,rfl,rfl,hz,h0,h1,q⟩|h
 ·exact .inl (zlX (fun _ _ h=>h) (fun _ _ i j=>.int (i*j)) ad H S x y v u Q0 Q st rx ry h k)
 ·cases rx
  cases ry
  exact .inr (.inl ⟨z,n,rfl,rfl,zrj hz h0 h1,k _ S _ H ad q Wd.refl st (.str _)⟩)
 ·exact .inr (.inr (zlX (fun _ _ h=>h) (fun _ _ i j=>.int (i*j)) ad H S x y v u Q0 Q st rx ry h k))) ha hb)
theorem zax (ha:PD X a ta)(hb:PD X b tb):PD X (.BinOp a .FloorDiv b pos) (dOp oDiv ta tb):=by with_unfolding_all exact (zhs znz (zlX (fun _ _ h=>h) fun _ _ i j=>.int (i.fdiv j)) ha hb)
theorem zab (ha:PD X a ta)(hb:PD X b tb):PD X (.BinOp a .Mod b pos) (dOp oMod ta tb):=by with_unfolding_all exact (zhs zo2 (zlX (fun _ _ h=>h) fun _ _ i j=>.int (i.fmod j)) ha hb)
theorem zdx {n:Nat}(h:n<=big):n<=sizeLine:=Nat.le_trans h (by decide)
theorem zhg {n:Nat}(h:n<big):n<sizeLine:=Nat.lt_of_lt_of_le h (by decide)
theorem zhf {K:PySem.W.Frag}{ad:List Addr}{H:Hp}{S:Sto}{Q0:DK}{Q:VK}{ds:List D}{vs:List V}(st:zH K ad H S)(k:KK K ad H Q0 Q)(r:zA K ad H ds vs)(q:Q0 (.ref S.length) (S++[.lst ds]))(l:Addr)(h:H l=none):Q (.ref l) (upd H l (.lst vs)) :=
 k _ _ _ _ _ q (Wd.newL st h) (st.newL h r) st.newRef
theorem zhC {K:PySem.W.Frag}{ad:List Addr}{H:Hp}{S:Sto}{Q0:DK}{Q:VK}{ds:List D}{vs:List V}(st:zH K ad H S)(k:KK K ad H Q0 Q)(r:zA K ad H ds vs)(q:Q0 (.tup ds) S)(l:Addr)(h:H l=none):Q (.ref l) (upd H l (.tup vs)) :=
 k _ _ _ _ _ q (Wd.laid h) (st.laid h) (.tup zaT (r.wd (Wd.laid h)))
theorem zaa (ha:PD X a ta)(hb:PD X b tb):PD X (.BinOp a .Add b pos) (dOp zat ta tb):=by with_unfolding_all exact (zhs (zqO.or ((znT rfl).or ((zpJ rfl).or zl1))) (fun ad H S x y v u Q0 Q st rx ry h k=>by
  rcases h with ⟨i,j,rfl,rfl,q⟩|⟨xs,ys,rfl,rfl,hz,q⟩|⟨xs,ys,hx,hy,hz,q⟩|⟨i,j,rfl,rfl,hz,q⟩
  ·cases rx
   cases ry
   exact .inl ⟨i,j,rfl,rfl,k _ S _ H ad q Wd.refl st (.int _)⟩
  ·cases rx with
   |tup h1 r1 =>
    cases ry with
    |tup h2 r2 =>
     have l1:=r1.length
     have l2:=r2.length
     refine .inr (.inl ⟨_,_,_,_,rfl,rfl,SqT.of h1,SqT.of h2,by rw [<- l1,<- l2];exact zdx hz,fun e=>?_,fun _ e=>?_,fun _ _ p hp=>zhC st k (r1.append r2) q p hp⟩)
     ·have e':xs=[]:=List.length_eq_zero_iff.mp (by rw [l1,e];rfl)
      subst e'
      exact k _ S _ H ad q Wd.refl st (.tup h2 r2)
     ·have e':ys=[]:=List.length_eq_zero_iff.mp (by rw [l2,e];rfl)
      subst e'
      rw [List.append_nil] at q
      exact k _ S _ H ad q Wd.refl st (.tup h1 r1)
  ·obtain⟨a1,vs1,rfl,s1,r1⟩:=hx.sq st rx
   obtain⟨a2,vs2,rfl,s2,r2⟩:=hy.sq st ry
   exact .inr (.inr (.inl ⟨_,_,_,_,rfl,rfl,s1,s2,by rw [<- r1.length,<- r2.length];exact zdx hz,fun p hp=>zhf st k (r1.append r2) q p hp⟩))
  ·cases rx
   cases ry
   exact .inr (.inr (.inr ⟨i,j,rfl,rfl,zdx hz,k _ S _ H ad q Wd.refl st (.str _)⟩))) ha hb)
theorem zeN (ha:PD X a ta):PD X (.UnaryOp .USub a pos) (dUn zfI ta):=by with_unfolding_all exact (zau (zsI zqd ha) fun σ H Q hh=>el8 hh fun ad ρ S Q0 st rh q k=>by
 refine⟨ad,ρ,S,_,st,rh,q,fun x S1 v H1 ad1 q1 w1 st1 r1=>?_⟩
 obtain⟨i,rfl,q1⟩:=q1
 cases r1
 exact⟨i,rfl,k _ _ _ _ _ q1 w1 st1 (.int _)⟩)
def OC (X:Cx)(op:CmpOp)(r':DR2):Prop:=∃ r,OpR X (compareOp op) r/\OD X.K r' r
theorem zb5:OC X .Lt oLt:=⟨_,zsM,zjh fun _ _ _ _=>.bl _⟩
theorem zgj:OC X .LtE oLe:=⟨_,zr7,zjh fun _ _ _ _=>.bl _⟩
theorem zei:OC X .Gt oGt:=⟨_,zsG,zjh fun _ _ _ _=>.bl _⟩
mutual
def pyD:D->PyData
 |.non=>.none
 |.bl b=>.bool b
 |.int i=>.int i
 |.str x=>.str x
 |.tup xs=>.tuple (zar xs)
 |.ref _=>.none
 |.ty _=>.none
 |.rl _=>.none
 |.exn _=>.none
 |.kt _=>.none
def zar:List D->List PyData
 |[]=>[]
 |x::xs=>pyD x::zar xs
end
section
variable {pins:List (Addr×Obj)}{σ:L2.St}{H:Hp}{s:Shared}{ad:List Addr}
theorem zd2 (I:Inv X pins σ H s)(k:Nat)(h1:∀ d v u,fl k d=true->Rel X.K ad H d v->RelV v u->∃ as,Reads s.heap u (pyD d) as):∀ ds vs us,ds.all (fl k)=true->zA X.K ad H ds vs->Vals vs us->∃ as,ReadsAll s.heap us (zar ds) as:=by
 intro ds
 induction ds with
 |nil=>intro vs us _ r rv;cases r;cases rv;exact⟨_,.nil⟩
 |cons d ds ih =>
  intro vs us hf r rv
  rw [List.all_cons,Bool.and_eq_true] at hf
  cases r with
  |cons r t =>
   cases rv with
   |cons q qt =>
    obtain⟨as,ra⟩:=h1 d _ _ hf.1 r q
    obtain⟨bs,rb⟩:=ih _ _ hf.2 t qt
    exact⟨_,.cons ra rb⟩
theorem zch (I:Inv X pins σ H s):∀ (k:Nat) (d:D) (v:V) (u:Value),fl k d=true->Rel X.K ad H d v->RelV v u->∃ as,Reads s.heap u (pyD d) as:=by
 intro k
 induction k with
 |zero =>
  intro d v u hf r q
  cases r with
  |non=>cases q;exact⟨_,.none⟩
  |bl b=>cases q;exact⟨_,.bool b⟩
  |int i=>obtain⟨t,rfl⟩:=q;exact⟨_,.int i t⟩
  |str x=>obtain⟨t,rfl⟩:=q;exact⟨_,.str x t⟩
  |ty n=>cases hf
  |tup h r=>cases hf
  |rl h r=>cases hf
  |kt h r=>cases hf
  |ref h=>cases hf
  |exn _ _ _=>cases hf
 |succ k ih =>
  intro d v u hf r q
  cases r with
  |non=>cases q;exact⟨_,.none⟩
  |bl b=>cases q;exact⟨_,.bool b⟩
  |int i=>obtain⟨t,rfl⟩:=q;exact⟨_,.int i t⟩
  |str x=>obtain⟨t,rfl⟩:=q;exact⟨_,.str x t⟩
  |ty n=>cases hf
  |tup h r =>
   cases q
   obtain⟨its,rv,ht,hz⟩:=I.tuple (SqT.of h)
   obtain⟨o,ho,hc,n,hd⟩:=ht
   obtain⟨as,ra⟩:=zd2 I k ih _ _ _ hf r rv
   exact⟨_,.tuple ho hc hd (by simpa using ra)⟩
  |rl h r=>cases hf
  |kt h r=>cases hf
  |ref h=>cases hf
  |exn _ _ _=>cases hf
end
theorem zfi:∀ (k:Nat) (d:D),fl k d=true->(pyD d).canLay0=true/\(pyD d).depth<=k:=by
 have all:∀ k,(∀ d,fl k d=true->(pyD d).canLay0=true/\(pyD d).depth<=k)->∀ ds:List D,ds.all (fl k)=true->PyData.canLayAll0 (zar ds)=true/\PyData.depthAll (zar ds)<=k:=by
  intro k h ds
  induction ds with
  |nil=>intro _;exact⟨rfl,Nat.zero_le _⟩
  |cons d ds ih =>
   intro hf
   rw [List.all_cons,Bool.and_eq_true] at hf
   obtain⟨a1,a2⟩:=h d hf.1
   obtain⟨b1,b2⟩:=ih hf.2
   refine⟨?_,?_⟩
   ·show (PyData.canLay0 (pyD d)&&PyData.canLayAll0 (zar ds))=true
    rw [a1,b1];rfl
   ·show max (PyData.depth (pyD d)) (PyData.depthAll (zar ds))<=k
    exact Nat.max_le.mpr ⟨a2,b2⟩
 intro k
 induction k with
 |zero =>
  intro d hf
  cases d with
  |non=>exact⟨rfl,Nat.zero_le _⟩
  |bl b=>exact⟨rfl,Nat.zero_le _⟩
  |int i=>exact⟨rfl,Nat.zero_le _⟩
  |str x=>exact⟨hf,Nat.zero_le _⟩
  |tup xs=>cases hf
  |ref n=>cases hf
  |exn _=>cases hf
  |ty n=>cases hf
  |rl xs=>cases hf
  |kt xs=>cases hf
 |succ k ih =>
  intro d hf
  cases d with
  |non=>exact⟨rfl,Nat.zero_le _⟩
  |bl b=>exact⟨rfl,Nat.zero_le _⟩
  |int i=>exact⟨rfl,Nat.zero_le _⟩
  |str x=>exact⟨hf,Nat.zero_le _⟩
  |tup xs =>
   obtain⟨h1,h2⟩:=all k ih xs hf
   refine⟨h1,?_⟩
   show PyData.depthAll (zar xs)+1<=k+1
   omega
  |ref n=>cases hf
  |exn _=>cases hf
  |ty n=>cases hf
  |rl xs=>cases hf
  |kt xs=>cases hf
theorem zdk (k:Nat):∀ ds:List D,ds.all (fl k)=true->PyData.canLayAll0 (zar ds)=true/\PyData.depthAll (zar ds)<=k:=by
 intro ds
 induction ds with
 |nil=>intro _;exact⟨rfl,Nat.zero_le _⟩
 |cons d ds ih =>
  intro hf
  rw [List.all_cons,Bool.and_eq_true] at hf
  obtain⟨a1,a2⟩:=zfi k d hf.1
  obtain⟨b1,b2⟩:=ih hf.2
  refine⟨?_,?_⟩
  ·show (PyData.canLay0 (pyD d)&&PyData.canLayAll0 (zar ds))=true
   rw [a1,b1];rfl
  ·show max (PyData.depth (pyD d)) (PyData.depthAll (zar ds))<=k
   exact Nat.max_le.mpr ⟨a2,b2⟩
mutual
theorem zjC:∀ (k:Nat) (x y:D),fl k x=true->fl k y=true->PyData.eqv (pyD x) (pyD y)=eqv x y
  |k,.non,y,_,hy=>by cases y<;>first|rfl|(cases k<;>cases hy)
  |k,.bl a,y,_,hy=>by cases y<;>first|rfl|(cases k<;>cases hy)
  |k,.int i,y,_,hy=>by
    cases y with
    |int j=>show (i==j)=decide (i=j);rw [Bool.beq_eq_decide_eq]
    |ref n=>cases k<;>cases hy
    |exn n=>cases k<;>cases hy
    |ty n=>cases k<;>cases hy
    |rl n=>cases k<;>cases hy
    |kt n=>cases k<;>cases hy
    |_=>rfl
  |k,.str a,y,_,hy=>by cases y<;>first|rfl|(cases k<;>cases hy)
  |0,.tup xs,y,hx,_=>by cases hx
  |k+1,.tup xs,y,hx,hy=>by
    cases y with
    |tup ys=>exact zej k xs ys hx hy
    |ref n=>cases hy
    |ty n=>cases hy
    |rl n=>cases hy
    |kt n=>cases hy
    |_=>rfl
  |k,.ref n,y,hx,_=>by cases k<;>cases hx
  |k,.ty n,y,hx,_=>by cases k<;>cases hx
  |k,.rl n,y,hx,_=>by cases k<;>cases hx
  |k,.kt n,y,hx,_=>by cases k<;>cases hx
  |k,.exn n,y,hx,_=>by cases k<;>cases hx
theorem zej:∀ (k:Nat) (xs ys:List D),xs.all (fl k)=true->ys.all (fl k)=true->PyData.eqvAll (zar xs) (zar ys)=eqvAll xs ys
  |k,[],[],_,_=>rfl
  |k,[],y::ys,_,_=>rfl
  |k,x::xs,[],_,_=>rfl
  |k,x::xs,y::ys,hx,hy=>by
    rw [List.all_cons,Bool.and_eq_true] at hx hy
    show (PyData.eqv (pyD x) (pyD y)&&PyData.eqvAll (zar xs) (zar ys))=(eqv x y&&eqvAll xs ys)
    rw [zjC k x y hx.1 hy.1,zej k xs ys hx.2 hy.2]
end
def zc7 (xss:List (List D)):List PyData:=xss.map fun zs=>.list (zar zs)
theorem zjD:∀ xss:List (List D),zfp xss=true->PyData.canLayAll0 (zc7 xss)=true/\PyData.depthAll (zc7 xss)<=21
 |[],_=>⟨rfl,Nat.zero_le _⟩
 |zs::xss,h=>by
  unfold zfp at h
  rw [List.all_cons,Bool.and_eq_true] at h
  obtain⟨a1,a2⟩:=zdk 20 zs h.1
  obtain⟨b1,b2⟩:=zjD xss h.2
  refine⟨?_,?_⟩
  ·show (PyData.canLayAll0 (zar zs)&&PyData.canLayAll0 (zc7 xss))=true
   rw [a1,b1];rfl
  ·show max (PyData.depthAll (zar zs)+1) (PyData.depthAll (zc7 xss))<=21
   exact Nat.max_le.mpr ⟨by omega,b2⟩
theorem zmV:∀ xss yss:List (List D),zfp xss=true->zfp yss=true->PyData.eqvAll (zc7 xss) (zc7 yss)=eqvAll (xss.map D.tup) (yss.map D.tup)
 |[],[],_,_=>rfl
 |[],_::_,_,_=>rfl
 |_::_,[],_,_=>rfl
 |zs::xss,ws::yss,h,k=>by
  unfold zfp at h k
  rw [List.all_cons,Bool.and_eq_true] at h k
  show (PyData.eqvAll (zar zs) (zar ws)&&PyData.eqvAll (zc7 xss) (zc7 yss))=(eqvAll zs ws&&eqvAll (xss.map D.tup) (yss.map D.tup))
  rw [zej 20 zs ws h.1 k.1,zmV xss yss h.2 k.2]
theorem zgR {pins:List (Addr×Obj)}{σ:L2.St}{H:Hp}{s:Shared}{ad:List Addr}{S:Sto}(I:Inv X pins σ H s)(st:zH X.K ad H S):∀ (xs:List D) (xss:List (List D)) (vs:List V) (us:List Value),zhb S xs xss->zfp xss=true->zA X.K ad H xs vs->Vals vs us->∃ as,ReadsAll s.heap us (zc7 xss) as
 |[],[],_,_,_,_,r,rv=>by cases r;cases rv;exact⟨_,.nil⟩
 |[],_::_,_,_,h,_,_,_=>h.elim
 |_::_,[],_,_,h,_,_,_=>h.elim
 |x::xs,zs::xss,_,_,h,f,r,rv=>by
  unfold zfp at f
  rw [List.all_cons,Bool.and_eq_true] at f
  cases r with
  |cons r t =>
   obtain⟨a1,vs1,rfl,s1,r1⟩:=h.1.sq st r
   cases rv with
   |cons q qt =>
    cases q
    obtain⟨its,rv1,ht,hz⟩:=I.list s1
    obtain⟨o,ho,hc,n,hd⟩:=ht.isList
    obtain⟨as,ra⟩:=zd2 I 20 (zch I 20) _ _ _ f.1 r1 rv1
    obtain⟨bs,rb⟩:=zgR I st xs xss _ _ h.2 f.2 t qt
    exact⟨_,.cons (.list ho hc hd (by simpa using ra)) rb⟩
theorem zn5 {α β:Type}{f:α->Option β}{x:α}{xs:List α}{ps:List β}(h:zac f (x::xs)=some ps):∃ y ys,f x=some y/\zac f xs=some ys/\ps=y::ys:=by
 unfold zac at h
 cases e1:f x with
 |none=>rw [e1] at h;cases h
 |some y =>
  cases e2:zac f xs with
  |none=>rw [e1,e2] at h;cases h
  |some ys=>rw [e1,e2] at h;cases h;exact⟨y,ys,rfl,rfl,rfl⟩
section
variable {pins:List (Addr×Obj)}{σ:L2.St}{H:Hp}{s:Shared}{ad:List Addr}{S:Sto}
theorem zhZ (k:Nat)(h1:∀ d v u p,tre S k d=some p->Rel X.K ad H d v->RelV v u->(∃ as,Reads s.heap u p as)/\p.canLay0=true/\p.depth<=k):∀ ds vs us ps,zac (tre S k) ds=some ps->zA X.K ad H ds vs->Vals vs us->(∃ as,ReadsAll s.heap us ps as)/\PyData.canLayAll0 ps=true/\PyData.depthAll ps<=k:=by
 intro ds
 induction ds with
 |nil=>intro vs us ps e r rv;cases r;cases rv;cases e;exact⟨⟨_,.nil⟩,rfl,Nat.zero_le _⟩
 |cons d ds ih =>
  intro vs us ps e r rv
  obtain⟨y,ys,e1,e2,rfl⟩:=zn5 e
  cases r with
  |cons r t =>
   cases rv with
   |cons q qt =>
    obtain⟨⟨as,ra⟩,c1,d1⟩:=h1 d _ _ _ e1 r q
    obtain⟨⟨bs,rb⟩,c2,d2⟩:=ih _ _ _ e2 t qt
    refine⟨⟨_,.cons ra rb⟩,?_,?_⟩
    ·show (PyData.canLay0 y&&PyData.canLayAll0 ys)=true
     rw [c1,c2];rfl
    ·show max (PyData.depth y) (PyData.depthAll ys)<=k
     exact Nat.max_le.mpr ⟨d1,d2⟩
theorem zlf (I:Inv X pins σ H s)(st:zH X.K ad H S):∀ (k:Nat) (d:D) (v:V) (u:Value) (p:PyData),tre S k d=some p->Rel X.K ad H d v->RelV v u->(∃ as,Reads s.heap u p as)/\p.canLay0=true/\p.depth<=k:=by
  intro k
  induction k with
  |zero =>
    intro d v u p e r q
    cases r with
    |non=>cases q;cases e;exact⟨⟨_,.none⟩,rfl,Nat.zero_le _⟩
    |bl b=>cases q;cases e;exact⟨⟨_,.bool b⟩,rfl,Nat.zero_le _⟩
    |int i=>obtain⟨t,rfl⟩:=q;cases e;exact⟨⟨_,.int i t⟩,rfl,Nat.zero_le _⟩
    |str x =>
      obtain⟨t,rfl⟩:=q
      have e:(if x.cps.all (· < 0x110000)=true then some (PyData.str x) else none)=some p:=e
      by_cases hx:x.cps.all (· < 0x110000)=true
      · rw [if_pos hx] at e;cases e;exact⟨⟨_,.str x t⟩,hx,Nat.zero_le _⟩
      · rw [if_neg hx] at e;cases e
    |ty n=>cases e
    |tup h r=>cases e
    |rl h r=>cases e
    |kt h r=>cases e
    |ref h=>cases e
    |exn _ _ _=>cases e
  |succ k ih =>
    intro d v u p e r q
    cases r with
    |non=>cases q;cases e;exact⟨⟨_,.none⟩,rfl,Nat.zero_le _⟩
    |bl b=>cases q;cases e;exact⟨⟨_,.bool b⟩,rfl,Nat.zero_le _⟩
    |int i=>obtain⟨t,rfl⟩:=q;cases e;exact⟨⟨_,.int i t⟩,rfl,Nat.zero_le _⟩
    |str x =>
      obtain⟨t,rfl⟩:=q
      have e:(if x.cps.all (· < 0x110000)=true then some (PyData.str x) else none)=some p:=e
      by_cases hx:x.cps.all (· < 0x110000)=true
      · rw [if_pos hx] at e;cases e;exact⟨⟨_,.str x t⟩,hx,Nat.zero_le _⟩
      · rw [if_neg hx] at e;cases e
    |ty n=>cases e
    |@tup a vs ds h r =>
      cases q
      have e:(zac (tre S k) ds).map PyData.tuple=some p:=e
      cases e1:zac (tre S k) ds with
      |none=>rw [e1] at e;cases e
      |some ps =>
        rw [e1] at e;cases e
        obtain⟨its,rv,ht,hz⟩:=I.tuple (SqT.of h)
        obtain⟨o,ho,hc,n,hd⟩:=ht
        obtain⟨⟨as,ra⟩,c1,d1⟩:=zhZ k ih _ _ _ _ e1 r rv
        exact⟨⟨_,.tuple ho hc hd (by simpa using ra)⟩,c1,Nat.succ_le_succ d1⟩
    |@rl a vs ds h r =>
      cases q
      have e:(zac (tre S k) ds).map PyData.list=some p:=e
      cases e1:zac (tre S k) ds with
      |none=>rw [e1] at e;cases e
      |some ps =>
        rw [e1] at e;cases e
        obtain⟨its,rv,ht,hz⟩:=I.list h.sq
        obtain⟨o,ho,hc,m,hd⟩:=ht.isList
        obtain⟨⟨as,ra⟩,c1,d1⟩:=zhZ k ih _ _ _ _ e1 r rv
        exact⟨⟨_,.list ho hc hd (by simpa using ra)⟩,c1,Nat.succ_le_succ d1⟩
    |kt h r=>cases e
    |@ref n a h =>
      have e:(match S[n]? with
        |some (.lst xs)=>(zac (tre S k) xs).map PyData.list
        |_=>none)=some p:=e
      cases hS:S[n]? with
      |none=>rw [hS] at e;cases e
      |some c =>
        rw [hS] at e
        cases c with
        |lst xs =>
          have e:(zac (tre S k) xs).map PyData.list=some p:=e
          cases e1:zac (tre S k) xs with
          |none=>rw [e1] at e;cases e
          |some ps =>
            rw [e1] at e;cases e
            obtain⟨a',vs,ea,sq,rr⟩:=Lst.sq st (.inr ⟨n,rfl,hS⟩) (.ref h)
            cases ea
            cases q
            obtain⟨its,rv,ht,hz⟩:=I.list sq
            obtain⟨o,ho,hc,m,hd⟩:=ht.isList
            obtain⟨⟨as,ra⟩,c1,d1⟩:=zhZ k ih _ _ _ _ e1 rr rv
            exact⟨⟨_,.list ho hc hd (by simpa using ra)⟩,c1,Nat.succ_le_succ d1⟩
        |ins c fs=>cases e
        |dk kvs=>cases e
        |dt kvs=>cases e
        |tab x l c=>cases e
    |exn _ _ _=>cases e
end
def zqB (X:Cx)(g:Bool->Bool):R2:=fun x y H Q=>∃ ad S dx dy b,zH X.K ad H S/\Rel X.K ad H dx x/\Rel X.K ad H dy y/\EqD S dx dy b/\Q (.bl (g b)) H
theorem ziC {pins:List (Addr×Obj)}{σ:L2.St}{H:Hp}{s:Shared}{ad:List Addr}{S:Sto}{dx dy:D}{x y:V}{v u:Value}{b:Bool}(I:Inv X pins σ H s)(st:zH X.K ad H S)(rx:Rel X.K ad H dx x)(ry:Rel X.K ad H dy y)(qx:RelV x v)(qy:RelV y u)(h:EqD S dx dy b) :
  ∃ px py as bs,Reads s.heap v px as/\Reads s.heap u py bs/\px.canLay0=true/\py.canLay0=true/\min px.depth py.depth<=60/\PyData.eqv px py=b:=by
 rcases h with ⟨fx,fy,rfl⟩|⟨xs,ys,hx,hy,fx,fy,rfl⟩|⟨xs,ys,xss,yss,hx,hy,lx,ly,fx,fy,rfl⟩|⟨p,hx,hy,rfl⟩
 ·obtain⟨as,ra⟩:=zch I 20 dx x v fx rx qx
  obtain⟨bs,rb⟩:=zch I 20 dy y u fy ry qy
  obtain⟨c1,d1⟩:=zfi 20 dx fx
  obtain⟨c2,d2⟩:=zfi 20 dy fy
  exact⟨_,_,as,bs,ra,rb,c1,c2,by omega,zjC 20 dx dy fx fy⟩
 ·obtain⟨a1,vs1,rfl,s1,r1⟩:=hx.sq st rx
  obtain⟨a2,vs2,rfl,s2,r2⟩:=hy.sq st ry
  cases qx
  cases qy
  obtain⟨its,rv,ht,hz⟩:=I.list s1
  obtain⟨its2,rv2,ht2,hz2⟩:=I.list s2
  obtain⟨o,ho,hc,n,hd⟩:=ht.isList
  obtain⟨o2,ho2,hc2,n2,hd2⟩:=ht2.isList
  obtain⟨as,ra⟩:=zd2 I 20 (zch I 20) _ _ _ fx r1 rv
  obtain⟨bs,rb⟩:=zd2 I 20 (zch I 20) _ _ _ fy r2 rv2
  obtain⟨c1,d1⟩:=zdk 20 xs fx
  obtain⟨c2,d2⟩:=zdk 20 ys fy
  refine⟨.list (zar xs),.list (zar ys),_,_,.list ho hc hd (by simpa using ra),.list ho2 hc2 hd2 (by simpa using rb),c1,c2,?_,zej 20 xs ys fx fy⟩
  show min (PyData.depthAll (zar xs)+1) (PyData.depthAll (zar ys)+1)<=60
  omega
 ·obtain⟨a1,vs1,rfl,s1,r1⟩:=hx.sq st rx
  obtain⟨a2,vs2,rfl,s2,r2⟩:=hy.sq st ry
  cases qx
  cases qy
  obtain⟨its,rv,ht,hz⟩:=I.list s1
  obtain⟨its2,rv2,ht2,hz2⟩:=I.list s2
  obtain⟨o,ho,hc,n,hd⟩:=ht.isList
  obtain⟨o2,ho2,hc2,n2,hd2⟩:=ht2.isList
  obtain⟨as,ra⟩:=zgR I st xs xss _ _ lx fx r1 rv
  obtain⟨bs,rb⟩:=zgR I st ys yss _ _ ly fy r2 rv2
  obtain⟨c1,d1⟩:=zjD xss fx
  obtain⟨c2,d2⟩:=zjD yss fy
  refine⟨.list (zc7 xss),.list (zc7 yss),_,_,.list ho hc hd (by simpa using ra),.list ho2 hc2 hd2 (by simpa using rb),c1,c2,?_,zmV xss yss fx fy⟩
  show min (PyData.depthAll (zc7 xss)+1) (PyData.depthAll (zc7 yss)+1)<=60
  omega
 ·obtain⟨⟨as,ra⟩,c1,d1⟩:=zlf I st 20 _ _ _ _ hx rx qx
  obtain⟨⟨bs,rb⟩,c2,d2⟩:=zlf I st 20 _ _ _ _ hy ry qy
  exact⟨p,p,as,bs,ra,rb,c1,c2,by omega,PySem.SeqAt.eqv_refl p c1⟩
theorem zht {k:Nat}(hr:zaB k X.A):OC X .Eq oEq:=⟨zqB X id,fun pins s σ H x y v u Q I qx qy ⟨ad,S,dx,dy,b,st,rx,ry,h,q⟩=>by
  obtain⟨px,py,as,bs,ra,rb,c1,c2,hd,e⟩:=ziC I st rx ry qx qy h
  have hu:=hr.units
  exact PySem.SeqAt.rcAt_reads ra rb c1 c2 (by omega) X.prog X.w X.xe _ ⟨.bl _,H,I,by rw [e];rfl,q⟩,
 fun ad H S x y v u Q0 Q st rx ry ⟨b,h,q⟩ k=>⟨ad,S,x,y,b,st,rx,ry,h,k _ S _ H ad q Wd.refl st (.bl _)⟩⟩
theorem zgf {k:Nat}(hr:zaB k X.A):OC X .NotEq oNe:=⟨zqB X (!·),fun pins s σ H x y v u Q I qx qy ⟨ad,S,dx,dy,b,st,rx,ry,h,q⟩=>by
  obtain⟨px,py,as,bs,ra,rb,c1,c2,hd,e⟩:=ziC I st rx ry qx qy h
  have hu:=hr.units
  exact PySem.SeqAt.rcNeAt_reads ra rb c1 c2 (by omega) X.prog X.w X.xe _ ⟨.bl _,H,I,by rw [e];rfl,q⟩,
 fun ad H S x y v u Q0 Q st rx ry ⟨b,h,q⟩ k=>⟨ad,S,x,y,b,st,rx,ry,h,k _ S _ H ad q Wd.refl st (.bl _)⟩⟩
theorem zir {K:PySem.W.Frag}{ad:List Addr}{H:Hp}{d:D}{v:V}(r:Rel K ad H d v):decide (v=.non)=zcZ d:=by
  cases r<;>rfl
theorem zqM:OpR X (compareOp .Is) (rB0 fun i j=>.bl (i==j)):=fun pins s σ H x y v u Q I rx ry ⟨i,j,ex,ey,q⟩=>by
 subst ex ey
 cases rx
 cases ry
 exact is_bool ⟨.bl _,H,I,rfl,q⟩
theorem zoJ:OpR X (compareOp .IsNot) (rB0 fun i j=>.bl (!(i==j))):=fun pins s σ H x y v u Q I rx ry ⟨i,j,ex,ey,q⟩=>by
 subst ex ey
 cases rx
 cases ry
 exact isnot_bool ⟨.bl _,H,I,rfl,q⟩
theorem zou:OC X .Is oIs:=⟨_,zsO.or zqM,fun ad H S x y v u Q0 Q st rx ry h k=>by
 rcases h with ⟨rfl,q⟩|⟨a,b,rfl,rfl,q⟩
 ·cases ry
  exact .inl ⟨rfl,by rw [zir rx];exact k _ S _ H ad q Wd.refl st (.bl _)⟩
 ·cases rx
  cases ry
  exact .inr ⟨a,b,rfl,rfl,k _ S _ H ad q Wd.refl st (.bl _)⟩⟩
theorem zhq:OC X .IsNot zfG:=⟨_,zru.or zoJ,fun ad H S x y v u Q0 Q st rx ry h k=>by
 rcases h with ⟨rfl,q⟩|⟨a,b,rfl,rfl,q⟩
 ·cases ry
  exact .inl ⟨rfl,by rw [zir rx];exact k _ S _ H ad q Wd.refl st (.bl _)⟩
 ·cases rx
  cases ry
  exact .inr ⟨a,b,rfl,rfl,k _ S _ H ad q Wd.refl st (.bl _)⟩⟩
theorem zd3 {op:CmpOp}{r':DR2}(o:OC X op r')(ha:PD X a ta)(hb:PD X b tb)(h:op≠.In:=by decide)(h2:op≠.NotIn:=by decide):PD X (.Compare a [op] [b] pos) (dOp r' ta tb):=by
 with_unfolding_all
  obtain⟨r,ho,od⟩:=o
  exact zau (zk4 ho ha hb (zmn _ h h2)) fun _ _ _=>zgd od
theorem zP {op:CmpOp}{r':DR2}(o:OC X op r')(ha:PD X a ta)(hb:PD X b tb)(h:op≠.In:=by decide)(h2:op≠.NotIn:=by decide):PTD X (.Compare a [op] [b] pos) (dT (dOp r' ta tb)):=by
 with_unfolding_all
  obtain⟨r,ho,od⟩:=o
  refine zgq (zk7 ho ha hb (zmn _ h h2)) fun σ H Q hh=>el8 hh fun ad ρ S Q0 st rh q k=>?_
  refine zgd (Q:=fun x H'=>∃ k,x=.bl k/\Q k H') od ⟨ad,ρ,S,_,st,rh,q,fun d S' v H' ad' ⟨b,e,q'⟩ w st' r=>?_⟩
  subst e
  cases r
  exact⟨b,rfl,k b S' H' ad' q' w st'⟩
theorem zaV {e:Expr}{t:DE}(h:PD X e t)(he:∀ whole,isTrue e X.env whole=(do let v <- whole;standAt e.pos;holding [v] (truthy v)):=by intro _;rfl):PTD X e (dT t):=by with_unfolding_all exact (zgq (zqh h he) fun σ H Q hh=>el8 hh fun ad ρ S Q0 st rh q k =>
 ⟨ad,ρ,S,_,st,rh,q,fun d S' v H' ad' ⟨b,e,q'⟩ w st' r=>by
  subst e
  cases r
  exact⟨b,rfl,k b S' H' ad' q' w st'⟩⟩)
variable {tA tB':DT}{rest:List Expr}
theorem zbx (h:PTD X a tA):PTD X (.UnaryOp .Not a pos) (zcU tA):=by with_unfolding_all exact (zgq (zqe h) fun σ H Q hh=>el8 hh fun ad ρ S Q0 st rh q k=>⟨ad,ρ,S,_,st,rh,q,fun b S' H' ad' q' w st'=>k _ S' H' ad' q' w st'⟩)
theorem zbE {e:Expr}{t:DT}(h:PWD X e t):PTD X e t:=by with_unfolding_all exact (h _)
theorem zda (ha:PTD X a tA):PWD X (.BoolOp .And [a] pos) tA:=by with_unfolding_all exact (zo0 ha)
theorem zcK (ha:PTD X a tA):PWD X (.BoolOp .Or [a] pos) tA:=by with_unfolding_all exact (zrz ha)
theorem zc6 (ha:PTD X a tA)(hb:PWD X (.BoolOp .And (b::rest) pos) tB'):PWD X (.BoolOp .And (a::b::rest) pos) (ze8 tA tB'):=by with_unfolding_all exact (zlp (zrJ ha hb) fun σ H Q hh=>el8 hh fun ad ρ S Q0 st rh q k =>
 ⟨ad,ρ,S,_,st,rh,q,fun b S' H' ad' q' w st'=>by
  cases b with
  |true=>rw [if_pos rfl] at q' ⊢;exact⟨ad',ρ,S',Q0,st',rh.wd w,q',fun b S' H' ad' q w'=>k b S' H' ad' q (w.trans w')⟩
  |false=>rw [if_neg Bool.false_ne_true] at q' ⊢;exact k _ S' H' ad' q' w st'⟩)
theorem zdC (ha:PTD X a tA)(hb:PWD X (.BoolOp .Or (b::rest) pos) tB'):PWD X (.BoolOp .Or (a::b::rest) pos) (dOr tA tB'):=by with_unfolding_all exact (zlp (ztj ha hb) fun σ H Q hh=>el8 hh fun ad ρ S Q0 st rh q k =>
 ⟨ad,ρ,S,_,st,rh,q,fun b S' H' ad' q' w st'=>by
  cases b with
  |false=>rw [if_neg Bool.false_ne_true] at q' ⊢;exact⟨ad',ρ,S',Q0,st',rh.wd w,q',fun b S' H' ad' q w'=>k b S' H' ad' q (w.trans w')⟩
  |true=>rw [if_pos rfl] at q' ⊢;exact k _ S' H' ad' q' w st'⟩)
theorem zgZ {op}{t:DE}(h:PD X a t):PD X (.BoolOp op [a] pos) t:=by with_unfolding_all exact (zqS h)
theorem zeF (ha:PD X a ta)(hb:PD X (.BoolOp .And (b::rest) pos) tb):PD X (.BoolOp .And (a::b::rest) pos) (zfl ta tb):=by with_unfolding_all exact (zau (zqF ha hb) fun σ H Q hh=>el8 hh fun ad ρ S Q0 st rh q k =>
 ⟨ad,ρ,S,_,st,rh,q,fun d S' v H' ad' ⟨c,e,q'⟩ w st' r=>by
  subst e
  cases r
  refine⟨c,rfl,?_⟩
  cases c with
  |true=>rw [if_pos rfl] at q' ⊢;exact⟨ad',ρ,S',Q0,st',rh.wd w,q',k.wd w⟩
  |false=>rw [if_neg Bool.false_ne_true] at q' ⊢;exact k _ S' _ H' ad' q' w st' (.bl _)⟩)
theorem zgn (ha:PD X a ta):PD X (.UnaryOp .Not a pos) (zgh ta):=by with_unfolding_all exact (zau (zrG ha) fun σ H Q hh=>el8 hh fun ad ρ S Q0 st rh q k =>
 ⟨ad,ρ,S,_,st,rh,q,fun d S' v H' ad' ⟨c,e,q'⟩ w st' r=>by
  subst e
  cases r
  exact⟨c,rfl,k _ S' _ H' ad' q' w st' (.bl _)⟩⟩)
theorem zmM (hc:PTD X c tA)(ha:PD X a ta)(hb:PD X b tb):PD X (.IfExp c a b pos) (zl7 tA ta tb):=by with_unfolding_all exact (zau (zn3 hc ha hb) fun σ H Q hh=>el8 hh fun ad ρ S Q0 st rh q k =>
 ⟨ad,ρ,S,_,st,rh,q,fun b S' H' ad' q' w st'=>by
  cases b with
  |true=>rw [if_pos rfl] at q' ⊢;exact⟨ad',ρ,S',Q0,st',rh.wd w,q',k.wd w⟩
  |false=>rw [if_neg Bool.false_ne_true] at q' ⊢;exact⟨ad',ρ,S',Q0,st',rh.wd w,q',k.wd w⟩⟩)
end
section
variable {X:Cx}{a b e:Expr}{es:List Expr}{ta tb te:DE}{t:DA}{pos:Pos}
theorem zp:PAD X [] zu:=by with_unfolding_all exact (zlt zrZ fun σ H Q hh=>el8 hh fun ad ρ S Q0 st rh q k=>k [] S [] H ad q Wd.refl st .nil)
theorem za (ha:PD X e te)(hr:PAD X es t)(hs:starEach (e::es) X.env=(false,eval e X.env)::starEach es X.env:=by exact zbf rfl):PAD X (e::es) (zj te t):=by with_unfolding_all exact (zlt (zo3 ha hr hs) fun σ H Q hh=>el8 hh fun ad ρ S Q0 st rh q k =>
 ⟨ad,ρ,S,_,st,rh,q,fun d S1 v H1 ad1 q1 w1 st1 r1=>⟨ad1,ρ,S1,_,st1,rh.wd w1,q1,fun ds S2 vs H2 ad2 q2 w2 st2 r2=>k _ S2 _ H2 ad2 q2 (w1.trans w2) st2 (.cons (r1.wd w2) r2)⟩⟩)
theorem zbD {x1}(h:PAD X es t):PD X (.Tuple es x1 pos) (dTup t):=by with_unfolding_all exact (zau (zrh h) fun σ H Q hh=>el8 hh fun ad ρ S Q0 st rh q k =>
 ⟨ad,ρ,S,_,st,rh,q,fun ds S1 vs H1 ad1 ⟨hz,q1⟩ w1 st1 r1=>⟨by rw [<- r1.length];exact zdx hz,fun p hp=>zhC st1 (k.wd w1) r1 q1 p hp⟩⟩)
theorem zay (h:PAD X es t):PD X (.List es pos) (za8 t):=by with_unfolding_all exact (zau (zqX h) fun σ H Q hh=>el8 hh fun ad ρ S Q0 st rh q k =>
 ⟨ad,ρ,S,_,st,rh,q,fun ds S1 vs H1 ad1 ⟨hz,q1⟩ w1 st1 r1=>⟨by rw [<- r1.length];exact zdx hz,fun p hp=>zhf st1 (k.wd w1) r1 q1 p hp⟩⟩)
theorem zrk {xs:List D}{i:Int}{d:D}(h:atD xs i=some d){K:PySem.W.Frag}{ad:List Addr}{H:Hp}{vs:List V}(r:zA K ad H xs vs):∃ v,atI vs i=some v/\Rel K ad H d v:=by
 have e:ixN vs.length i=ixD xs.length i:=by rw [r.length];rfl
 unfold atD at h
 unfold atI
 rw [e]
 cases q:ixD xs.length i with
 |none=>rw [q] at h;cases h
 |some j =>
  rw [q] at h
  exact r.get h
theorem zF (ha:PD X a ta)(hb:PD X b tb)(hs:zk2 b:=by intro _ _;rfl):PD X (.Subscript a b pos) (dOp oIx ta tb):=by with_unfolding_all exact (zau (ztf (zpl.or (zrB.or zrQ)) ha hb hs) fun _ _ _=>zgd fun ad H S x y v u Q0 Q st rx ry h k=>by
 rcases h with ⟨i,xs,d,ey,hx,e,q⟩|⟨z,i,c,rfl,rfl,hz,e,q⟩
 case inr =>
  cases rx
  cases ry
  exact .inr (.inr ⟨z,i,c,rfl,rfl,zdx hz,e,k _ S _ H ad q Wd.refl st (.str _)⟩)
 subst ey
 cases ry
 obtain⟨p,vs,rfl,hs,r⟩:=hx.sq st rx
 obtain⟨z,ez,rz⟩:=zrk e r
 rcases hs with hs|hs
 ·exact .inl ⟨p,vs,i,z,rfl,rfl,hs,ez,k _ S _ H ad q Wd.refl st rz⟩
 ·exact .inr (.inl ⟨p,vs,i,z,rfl,rfl,hs,ez,k _ S _ H ad q Wd.refl st rz⟩))
def upO (K:PySem.W.Frag)(t:Option DE):TO:=fun σ H Q=>∃ ad ρ S Q0,zH K ad H S/\zav K ad H ρ σ/\zgX t ρ S Q0/\∀ o S' H' ad',Q0 o S'->Wd ad H ad' H'->zH K ad' H' S'->Q o H'
theorem ziq:PO X none (upO X.K none):=fun pins s σ H Q I hh=>el8 hh fun ad ρ S Q0 st rh q k=>zp0 pins s σ H Q I (k none S H ad q Wd.refl st)
theorem zhG {t:DE}(h:PD X e t):PO X (some e) (upO X.K (some t)):=by with_unfolding_all exact (fun pins s σ H Q I hh=>el8 hh fun ad ρ S Q0 st rh q k=>zpB h pins s σ H Q I ⟨ad,ρ,S,_,st,rh,q,fun d S' v H' ad' ⟨i,e,q'⟩ w st' r=>by
 subst e
 cases r
 exact⟨i,rfl,k _ S' H' ad' q' w st'⟩⟩)
theorem zlr {K:PySem.W.Frag}{ad:List Addr}{H:Hp}{xs:List D}{vs:List V}(lo hi:Option Int)(r:zA K ad H xs vs):zA K ad H (cutD xs lo hi) (zeZ vs lo hi):=by
  have e1:HT.sIx vs.length 0 lo=slD xs.length 0 lo:=by
    rw [r.length];cases lo with
    |none=>rfl
    |some k=>show HT.sIx _ _ (some k)=_;unfold HT.sIx slD;first|rfl|(simp only [];split<;>omega)
  have e2:HT.sIx vs.length vs.length hi=slD xs.length xs.length hi:=by
    rw [r.length];cases hi with
    |none=>rfl
    |some k=>show HT.sIx _ _ (some k)=_;unfold HT.sIx slD;first|rfl|(simp only [];split<;>omega)
  unfold cutD zeZ
  rw [e1,e2]
  exact (r.drop _).take _
def zsE (K:PySem.W.Frag):V->Option Int->Option Int->Hp->VK->Prop:=fun x lo hi H Q=>∃ a xs,x=.ref a/\SqT K H a xs /\
 ((HT.sIx xs.length 0 lo=0/\HT.sIx xs.length xs.length hi=xs.length)->Q (.ref a) H)/\(¬ (HT.sIx xs.length 0 lo=0/\HT.sIx xs.length xs.length hi=xs.length)->∀ p,H p=none->Q (.ref p) (upd H p (.tup (zeZ xs lo hi))))
theorem zi0 {prog:Program}{w:World}{A:Around}{E:Value->Shared->Prop}{s:Shared}{t sl:Addr}{items:Array Value}{vl vu:Value}{lo hi:Option Int}{Q:Value->Shared->Prop}(ht:IsTup s.heap t items)(hs:s.heap.IsSliceOf sl vl vu .none)(pl:IsPart vl lo)(pu:IsPart vu hi)
  (hw:HT.sIx items.size 0 lo=0/\HT.sIx items.size items.size hi=items.size) (h:Q (.ref t) s):wpAny (model prog w) A (getItem (.ref t) (.ref sl)) Q E s:=by
 obtain⟨os,hos,hcs,hds⟩:=id hs
 have hTs:s.TypeIs (.ref sl) "slice":=⟨os,hos,hcs⟩
 unfold getItem
 try with_reducible refine wpAny_holding ?_
 first|refine wpAny_bind (wpAny_pure ?_)|skip
 refine wpAny_bind (wpAny_sequenceKey ht.typeIs (by decide) ?_)
 refine wpAny_bind (wpAny_callSpecial?_slot (name:=Str.ofString "__getitem__") ht.typeIs PyProof.Rows.slot_tuple_getitem
  (wpAny_call_entry PyProof.Rows.slot_tuple_getitem ht.typeIs PyProof.Rows.entry_tuple_getitem ?_ (PyProof.Rows.args_tuple_getitem _ _)))
 show wpAny _ _ (Builtin.Tuple.tupleItemsOf (.ref t) >>= _) _ _ s
 refine wpAny_bind (tupleItemsOf_ ht ?_)
 refine wpAny_bind (wpAny_typeOf hTs ?_)
 rw [if_pos (by decide)]
 refine wpAny_bind (HT.zdZ hs pl pu ?_)
 show wpAny _ _ (if (((HT.sIx items.size 0 lo:Nat):Int)==0&&(1:Int)==1&&(HT.sIx items.size items.size hi-HT.sIx items.size 0 lo)==items.size)=true then _ else _) _ _ s
 rw [if_pos (by rw [hw.1,hw.2];simp)]
 unfold Builtin.Tuple.tupleIsExact
 refine wpAny_bind (wpAny_bind (wpAny_typeOf ht.typeIs (wpAny_pure ?_)))
 rw [if_pos (by decide)]
 refine wpAny_bind (wpAny_rule ?_)
 first
  |exact wpAny_pure ⟨_,rfl,wpAny_pure h⟩
  |exact wpAny_bind (wpAny_pure ⟨_,rfl,wpAny_pure h⟩)
  |exact wpAny_bind (wpAny_pure (wpAny_pure ⟨_,rfl,wpAny_pure h⟩))
  |trace_state
theorem zpp:SlR X (zsE X.K):=by
 intro pins s σ H x v vl vu lo hi sl Q I rx hs pl pu h
 obtain⟨a,xs,rfl,hx,q1,q2⟩:=h
 by_cases hw:HT.sIx xs.length 0 lo=0/\HT.sIx xs.length xs.length hi=xs.length
 ·cases rx
  obtain⟨its,r,ht,hz⟩:=I.tuple hx
  have hlen:its.toArray.size=xs.length:=by rw [List.size_toArray];exact r.length.symm
  refine⟨"tuple",_,PyProof.Rows.slot_tuple_getitem.lookup,ht.typeIs,?_⟩
  exact zi0 ht hs pl pu (by rw [hlen];exact hw) ⟨.ref a,H,I,rfl,q1 hw⟩
 ·exact zqg pins s σ H (.ref a) v vl vu lo hi sl Q I rx hs pl pu ⟨a,xs,rfl,hx,hw,q2 hw⟩
theorem zmE {α:Type}(xs:List α)(lo hi:Option Int)(h1:slD xs.length 0 lo=0)(h2:slD xs.length xs.length hi=xs.length):cutD xs lo hi=xs:=by
 unfold cutD;rw [h1,h2];simp
theorem zie (n d:Nat)(o:Option Int):HT.sIx n d o=slD n d o:=by
 cases o with
 |none=>rfl
 |some k=>rfl
theorem zlT {lo hi:Option Expr}{tl th:Option DE}{p2:Pos}(ha:PD X a ta)(hl:PO X lo (upO X.K tl))(hh:PO X hi (upO X.K th)):PD X (.Subscript a (.Slice lo hi none p2) pos) (dSl zf2 ta tl th):=by with_unfolding_all exact (zau (znU (zoS.or (zpp.or zqp)) ha hl hh) fun σ H Q hh=>el8 hh fun ad ρ S Q0 st rh q k =>
 ⟨ad,ρ,S,_,st,rh,q,fun x S1 v H1 ad1 q1 w1 st1 r1=>⟨ad1,ρ,S1,_,st1,rh.wd w1,q1,fun l S2 H2 ad2 q2 w2 st2=>⟨ad2,ρ,S2,_,st2,rh.wd (w1.trans w2),q2,fun h S3 H3 ad3 q3 w3 st3=>by
  have r3:=r1.wd (w2.trans w3)
  have k3:=k.wd ((w1.trans w2).trans w3)
  rcases q3 with ⟨xs,rfl,q3⟩|⟨xs,hx,q3⟩|⟨z,rfl,hz,q3⟩
  ·cases r3 with
   |tup h1 r =>
    refine .inr (.inl ⟨_,_,rfl,SqT.of h1,fun⟨z1,z2⟩=>?_,fun _ p hp=>zhC st3 k3 (zlr _ _ r) q3 p hp⟩)
    rw [zie,<- r.length] at z1 z2
    rw [zmE xs _ _ z1 z2] at q3
    exact k3 _ S3 _ H3 ad3 q3 Wd.refl st3 (.tup h1 r)
  ·obtain⟨p,vs,rfl,hs,r⟩:=hx.sq st3 r3
   exact .inl ⟨p,vs,rfl,hs,fun l hl=>zhf st3 k3 (zlr _ _ r) q3 l hl⟩
  ·cases r3
   refine .inr (.inr ⟨z,rfl,zdx hz,?_⟩)
   have e:(⟨((z.cps.toList.drop (HT.sIx z.length 0 l)).take (HT.sIx z.length z.length h-HT.sIx z.length 0 l)).toArray⟩:Str)=zic z l h:=by
    unfold zic cutD
    rw [zie,zie,show z.length=z.cps.toList.length from Array.length_toList.symm]
   rw [e]
   exact k3 _ S3 _ H3 ad3 q3 Wd.refl st3 (.str _)⟩⟩⟩)
end
end Dp
namespace Dp
open PySem PySem.Spec PyProof.Rows L2 My
variable [B:Bs]
section
variable {X:Cx}{a e:Expr}{es:List Expr}{ta te:DE}{t:DA}{pos p:Pos}
theorem zK {k j:Nat}{x:Str}{ps:List Str}{f:DSp}(G:Got X.prog X.w X.K X.mg X.base k x ps (upF X.K f))(hr:zaB j X.A)
  (ha:PAD X (e::es) t) (hk:k<=j:=by decide) (hg:Gl X x:=by rfl) (hdb:(x==("__debug__":Str))=false:=by decide) (he:starEach (e::es) X.env=(false,eval e X.env)::starEach es X.env:=by exact zbf rfl) (hpl:(backTo pos (starEach es X.env)).any (·.1)=false:=by exact zcG rfl) :
  PD X (.Call (.Name x p) (e::es) [] pos) (dCall f t):=by with_unfolding_all exact (zau (zqu G hr hk hg ha hdb he hpl) fun σ H Q hh=>el8 hh fun ad ρ S Q0 st rh q k =>
 ⟨ad,ρ,S,_,st,rh,q,fun ds S1 vs H1 ad1 q1 w1 st1 r1=>by
  show upF X.K f (vs++[]) H1 Q E0
  rw [List.append_nil];exact⟨ad1,S1,ds,Q0,st1.base,r1,q1,(k.wd w1).base st1⟩⟩)
def BD (K:PySem.W.Frag)(r':DB)(r:List V->Hp->VK->Prop):Prop:=∀ ad H S ds vs Q0 Q,zH K ad H S->zA K ad H ds vs->r' ds S Q0->KK K ad H Q0 Q->r vs H Q
def BC (X:Cx)(f:Value)(r':DB):Prop:=∃ r,zaZ X f r/\BD X.K r' r
theorem zao {x:Str}{id:String}{r':DB}(o:BC X (.builtin id) r')(hm:X.mg x=none)(hv:bootBuiltins x=some (.builtin id))(ha:PAD X (e::es) t)(hg:Gl X x:=by rfl)(hn:x≠"__name__":=by decide)(hdb:(x==("__debug__":Str))=false:=by decide)
  (he:starEach (e::es) X.env=(false,eval e X.env)::starEach es X.env:=by exact zbf rfl) (hpl:(backTo pos (starEach es X.env)).any (·.1)=false:=by exact zcG rfl):PD X (.Call (.Name x p) (e::es) [] pos) (dB r' t):=by
 with_unfolding_all
  obtain⟨r,ho,od⟩:=o
  exact zau (znj ho hg hm hv ha hn hdb he hpl) fun σ H Q hh=>el8 hh fun ad ρ S Q0 st rh q k =>
   ⟨ad,ρ,S,_,st,rh,q,fun ds S1 vs H1 ad1 q1 w1 st1 r1=>od ad1 H1 S1 ds vs Q0 Q st1 r1 q1 (k.wd w1)⟩
theorem zbF {x:Str}{T:String}{r':DB}(o:BC X (.type T) r')(hm:X.mg x=none)(hv:bootBuiltins x=some (.type T))(ha:PAD X (e::es) t)(hg:Gl X x:=by rfl)(hn:x≠"__name__":=by decide)(hdb:(x==("__debug__":Str))=false:=by decide)
  (he:starEach (e::es) X.env=(false,eval e X.env)::starEach es X.env:=by exact zbf rfl) (hpl:(backTo pos (starEach es X.env)).any (·.1)=false:=by exact zcG rfl):PD X (.Call (.Name x p) (e::es) [] pos) (dB r' t):=by
 with_unfolding_all
  obtain⟨r,ho,od⟩:=o
  exact zau (zmc ho hg hm hv ha hn hdb he hpl) fun σ H Q hh=>el8 hh fun ad ρ S Q0 st rh q k =>
   ⟨ad,ρ,S,_,st,rh,q,fun ds S1 vs H1 ad1 q1 w1 st1 r1=>od ad1 H1 S1 ds vs Q0 Q st1 r1 q1 (k.wd w1)⟩
theorem zc9 {K:PySem.W.Frag}{ad:List Addr}{H:Hp}{d:D}{vs:List V}(r:zA K ad H [d] vs):∃ v,vs=[v]/\Rel K ad H d v:=by
 cases r with
 |cons r t=>cases t;exact⟨_,rfl,r⟩
theorem zqx {K:PySem.W.Frag}{ad:List Addr}{H:Hp}{d e:D}{vs:List V}(r:zA K ad H [d,e] vs):∃ v u,vs=[v,u]/\Rel K ad H d v/\Rel K ad H e u:=by
 cases r with
 |cons r t =>
  obtain⟨u,rfl,r2⟩:=zc9 t
  exact⟨_,_,rfl,r,r2⟩
theorem zaC:BC X (.builtin "len") za1:=⟨_,zmH.or zkd,fun ad H S ds vs Q0 Q st r h k=>by
 rcases h with ⟨x,xs,e,hx,q⟩|⟨z,e,hz,q⟩
 case inr =>
  subst e
  obtain⟨v,rfl,rv⟩:=zc9 r
  cases rv
  exact .inr ⟨z,rfl,zdx hz,k _ S _ H ad q Wd.refl st (.int _)⟩
 subst e
 obtain⟨v,rfl,rv⟩:=zc9 r
 obtain⟨a,ws,rfl,hs,rs⟩:=hx.sq st rv
 exact .inl ⟨a,ws,rfl,hs,k _ S _ H ad (by rw [rs.length] at q;exact q) Wd.refl st (.int _)⟩⟩
theorem zrm:BC X (.builtin "abs") znG:=⟨_,zmI,fun ad H S ds vs Q0 Q st r ⟨i,e,q⟩ k=>by
 subst e
 obtain⟨v,rfl,rv⟩:=zc9 r
 cases rv
 exact⟨i,rfl,k _ S _ H ad q Wd.refl st (.int _)⟩⟩
theorem zdF (hc:X.calm=true:=by rfl):BC X (.builtin "all") zd7:=⟨_,zmi rfl hc,fun ad H S ds vs Q0 Q st r ⟨x,ns,e,hx,q⟩ k=>by
 subst e
 obtain⟨v,rfl,rv⟩:=zc9 r
 obtain⟨a,ws,rfl,hs,rs⟩:=hx.sq st rv
 cases rs.bls
 exact⟨a,ns,rfl,hs,k _ S _ H ad q Wd.refl st (.bl _)⟩⟩
theorem znr:BC X (.type "tuple") zj5:=⟨_,zm9 rfl,fun ad H S ds vs Q0 Q st r ⟨x,xs,e,hx,q⟩ k=>by
 subst e
 obtain⟨v,rfl,rv⟩:=zc9 r
 rcases hx with rfl|hx
 ·cases rv with
  |tup h rr=>exact⟨_,_,rfl,.inr ⟨SqT.of h,k _ S _ H ad q Wd.refl st (.tup h rr)⟩⟩
 ·obtain⟨a,ws,rfl,hs,rs⟩:=hx.sq st rv
  exact⟨a,ws,rfl,.inl ⟨hs,fun l hl=>zhC st k rs q l hl⟩⟩⟩
theorem zeO:BC X (.type "list") zed:=⟨_,zlN,fun ad H S ds vs Q0 Q st r ⟨x,xs,e,hx,q⟩ k=>by
 subst e
 obtain⟨v,rfl,rv⟩:=zc9 r
 obtain⟨a,ws,rfl,hs,rs⟩:=hx.sq st rv
 exact⟨a,ws,rfl,hs,fun l hl=>zhf st k rs q l hl⟩⟩
section
variable {K:PySem.W.Frag}
theorem zpb (t:String)(h:zhY t=true):PySem.W.kitOne K (.type "NoneType") (.type t)=some false/\PySem.W.kitOne K (.type "bool") (.type t)=some (t=="bool"||t=="int")/\PySem.W.kitOne K (.type "int") (.type t)=some (t=="int") /\
  PySem.W.kitOne K (.type "str") (.type t)=some (t=="str")/\PySem.W.kitOne K (.type "tuple") (.type t)=some (t=="tuple")/\PySem.W.kitOne K (.type "list") (.type t)=some (t=="list"):=by
 unfold zhY at h
 simp only [Bool.or_eq_true,beq_iff_eq] at h
 rcases h with (((rfl|rfl)|rfl)|rfl)|rfl
 ·exact⟨by kernel_rfl,by kernel_rfl,by kernel_rfl,by kernel_rfl,by kernel_rfl,by kernel_rfl⟩
 ·exact⟨by kernel_rfl,by kernel_rfl,by kernel_rfl,by kernel_rfl,by kernel_rfl,by kernel_rfl⟩
 ·exact⟨by kernel_rfl,by kernel_rfl,by kernel_rfl,by kernel_rfl,by kernel_rfl,by kernel_rfl⟩
 ·exact⟨by kernel_rfl,by kernel_rfl,by kernel_rfl,by kernel_rfl,by kernel_rfl,by kernel_rfl⟩
 ·exact⟨by kernel_rfl,by kernel_rfl,by kernel_rfl,by kernel_rfl,by kernel_rfl,by kernel_rfl⟩
end
theorem zd9:BC X (.builtin "isinstance") zdH:=⟨_,zog,fun ad H S ds vs Q0 Q st r ⟨x,t,b,e,h,q⟩ k=>by
 subst e
 obtain⟨v,u,rfl,rv,ru⟩:=zqx r
 cases ru
 have fin:=k _ S _ H ad q Wd.refl st (.bl b)
 unfold znK at h
 split at h
 ·cases h
 rename_i hty
 have hty':zhY t=true:=by
  cases hh:zhY t
  ·exact absurd (by show (!zhY t)=true;rw [hh];rfl) hty
  ·rfl
 obtain⟨k1,k2,k3,k4,k5,k6⟩:=zpb (K:=X.K) t hty'
 cases rv with
 |non=>cases h;exact⟨_,_,_,_,rfl,.non,k1,fin⟩
 |bl c=>cases h;exact⟨_,_,_,_,rfl,.bl c,k2,fin⟩
 |int i=>cases h;exact⟨_,_,_,_,rfl,.int i,k3,fin⟩
 |str y=>cases h;exact⟨_,_,_,_,rfl,.str y,k4,fin⟩
 |ty n=>cases h
 |exn _ _ _=>cases h
 |tup ht rt=>cases h;exact⟨_,_,_,_,rfl,.tup ht,k5,fin⟩
 |rl hl rl=>cases h
 |kt hl rl=>cases h
 |@ref n a hn =>
  have h:(match S[n]? with | some (.lst _)=>some (t=="list") | _=>none)=some b:=h
  cases hS:S[n]? with
  |none=>rw [hS] at h;cases h
  |some c =>
   rw [hS] at h
   cases c with
   |ins c fs=>cases h
   |dk _=>cases h
   |dt _=>cases h
   |tab _ _ _=>cases h
   |lst xs =>
    cases h
    obtain⟨vs,hv,_⟩:=st.cell n a _ hn hS
    exact⟨_,_,_,_,rfl,.lst hv,k6,fin⟩⟩
def MD (X:Cx)(id:String)(r':DM):Prop:=∃ r,MtR X id r/\∀ ad H S x ds v vs Q0 Q,zH X.K ad H S->Rel X.K ad H x v->zA X.K ad H ds vs->r' x ds S Q0->KK X.K ad H Q0 Q->r v vs H Q
theorem zqC {K:PySem.W.Frag}{ad:List Addr}{H:Hp}{S:Sto}{x:D}{v:V}(st:zH K ad H S)(h:∃ n ys,x=.ref n/\S[n]?=some (.lst ys))(r:Rel K ad H x v):tyV K "list" v H:=by
 obtain⟨n,ys,rfl,h⟩:=h
 cases r with
 |ref e =>
  obtain⟨vs,hv,_⟩:=st.cell n _ _ e h
  exact .inl ⟨rfl,vs,SqL.of hv⟩
theorem zew {o:Expr}{to:DE}{name:Str}{id:String}{apos cpos:Pos}{r':DM}(slot:Slot "list" name id)(hty:typeOf (.builtin id)=pure (.type "method_descriptor"))(hm:MD X id r')(ho:PD X o to)(ha:PAD X (e::es) t)
  (hbase:attributeBase o name X.env (eval o X.env)=eval o X.env:=by rfl)
  (hfew:((backTo cpos (starEach (e::es) X.env)).all (fun x=>!x.1)&&(backToKw cpos (keywordEach [] X.env)).all (fun x=>x.1.isSome)
  &&decide ((e::es).length+([]:List Keyword).length+(if ([]:List Keyword).isEmpty then 0 else 1)<30))=true:=by rfl)
  (hline:(apos.endLine==cpos.line)=true:=by rfl) (hs:starEach (e::es) X.env=(false,eval e X.env)::starEach es X.env:=by exact zbf rfl) (hplain:(backTo cpos (starEach es X.env)).any (·.1)=false:=by exact zcG rfl) :
  PD X (.Call (.Attribute o name apos) (e::es) [] cpos) (dM r' to t):=by
 with_unfolding_all
  obtain⟨r,hr,od⟩:=hm
  exact zau (zsu PySem.F.plainAttrs_list slot hty hr ho ha hbase hfew hline hs hplain) fun σ H Q hh=>el8 hh fun ad ρ S Q0 st rh q k =>
   ⟨ad,ρ,S,_,st,rh,q,fun x S1 v H1 ad1 ⟨hl,q1⟩ w1 st1 r1=>⟨zqC st1 hl r1,ad1,ρ,S1,_,st1,rh.wd w1,q1,fun ds S2 vs H2 ad2 q2 w2 st2 r2 =>
    od ad2 H2 S2 x ds v vs Q0 Q st2 (r1.wd w2) r2 q2 (k.wd (w1.trans w2))⟩⟩
theorem zbe:MD X "list.append" zbk:=⟨_,ziJ,fun ad H S x ds v vs Q0 Q st rx r ⟨n,xs,y,ex,ey,hn,hl,q⟩ k=>by
 subst ex ey
 obtain⟨u,rfl,ru⟩:=zc9 r
 cases rx with
 |ref e =>
  obtain⟨ws,hw,rw⟩:=st.cell n _ _ e hn
  exact⟨_,ws,u,rfl,rfl,hw,by rw [<- rw.length];exact zhg hl,k _ _ _ _ ad q (Wd.put e hw) (st.put e hw (rw.append (.cons ru .nil))) .non⟩⟩
end
end Dp
namespace Dp
open PySem PySem.Spec PyProof.Rows L2 My
variable [B:Bs]
def zgO (K:PySem.W.Frag)(b:Nat)(g':DG)(g:TG):Prop:=∀ ad H S ρ σ d v Q0 Q,zH K ad H S->zav K ad H ρ σ->Rel K ad H d v->g' d ρ S Q0 ->
 (∀ ρ' S' σ' H' ad',Q0 ρ' S'->Wd ad H ad' H'->zH K ad' H' S'->zav K ad' H' ρ' σ'->σ'.length=σ.length->(∀ j,b<=j->σ'[j]?=σ[j]?)->Q σ' H')->g v σ H Q
def zhk (K:PySem.W.Frag)(b:Nat)(g':DGs)(g:TGs):Prop:=∀ ad H S ρ σ ds vs Q0 Q,zH K ad H S->zav K ad H ρ σ->zA K ad H ds vs->g' ds ρ S Q0 ->
 (∀ ρ' S' σ' H' ad',Q0 ρ' S'->Wd ad H ad' H'->zH K ad' H' S'->zav K ad' H' ρ' σ'->σ'.length=σ.length->(∀ j,b<=j->σ'[j]?=σ[j]?)->Q σ' H')->g vs σ H Q
def PGD (X:Cx)(b:Nat)(tg:Expr)(g':DG):Prop:=∃ g,PG X tg g/\zgO X.K b g' g
def zjX (X:Cx)(b:Nat)(tgs:List Expr)(g':DGs):Prop:=∃ g,PGs X tgs g/\zhk X.K b g' g
theorem zav.set {K:PySem.W.Frag}{ad:List Addr}{H:Hp}{ρ:Rho}{σ:L2.St}{d:D}{v:V}(h:zav K ad H ρ σ)(r:Rel K ad H d v)(i:Nat):zav K ad H (ρ.set i (some d)) (σ.set i (some v)) where
 len:=by rw [List.length_set,List.length_set];exact h.len
 val:=fun j e q=>by
  by_cases hj:j=i
  ·subst hj
   have hl:j<ρ.length:=by have:=My.zaO q;rw [List.length_set] at this;exact this
   rw [List.getElem?_set_self hl] at q
   cases q
   exact⟨v,List.getElem?_set_self (by rw [<- h.len];exact hl),r⟩
  ·rw [List.getElem?_set_ne (Ne.symm hj)] at q
   obtain⟨u,e1,r1⟩:=h.val j e q
   exact⟨u,by rw [List.getElem?_set_ne (Ne.symm hj)];exact e1,r1⟩
section
variable {X:Cx}{pos:Pos}{b:Nat}
theorem zT {K:PySem.W.Frag}(i:Nat)(hb:i<b):zgO K b (zB i) (L2.zB i):=fun ad H S ρ σ d v Q0 Q st rh r q k =>
 k _ S _ H ad q Wd.refl st (rh.set r i) (List.length_set ..) fun j hj=>List.getElem?_set_ne (by omega)
theorem zaD {i:Nat}{x:Str}(hN:X.N.Nodup)(hi:X.N[i]?=some x:=by rfl)(hx:Loc X.env.scope x:=by first|exact Or.inl rfl|exact Or.inr rfl)(hf:X.fn x=true\/X.env.scope.names.lookup x=some .local:=by first|exact .inl rfl|exact .inr rfl|assumption)(hb:i<b:=by decide):PGD X b (.Name x pos) (zB i) :=
 ⟨_,z9 hN hi hx hf,zT i hb⟩
theorem zlv:zjX X b [] zes:=⟨_,zh6,fun ad H S ρ σ ds vs Q0 Q st rh r ⟨e,q⟩ k=>by
 subst e
 cases r
 exact⟨rfl,k ρ S σ H ad q Wd.refl st rh rfl fun _ _=>rfl⟩⟩
theorem zcE {e:Expr}{es:List Expr}{t:DG}{u:DGs}(h1:PGD X b e t)(h2:zjX X b es u)(hs:(assignEach (e::es) X.env).map (·.2)=assign e X.env::(assignEach es X.env).map (·.2):=by rfl):zjX X b (e::es) (zbt t u):=by
 obtain⟨g1,p1,r1⟩:=h1
 obtain⟨g2,p2,r2⟩:=h2
 refine⟨_,zdh p1 p2 hs,fun ad H S ρ σ ds vs Q0 Q st rh r ⟨d,rs,ed,q⟩ k=>?_⟩
 subst ed
 cases r with
 |cons r t =>
  refine⟨_,_,rfl,r1 ad H S ρ σ d _ _ _ st rh r q fun ρ1 S1 σ1 H1 ad1 q1 w1 st1 rh1 l1 a1=>?_⟩
  exact r2 ad1 H1 S1 ρ1 σ1 _ _ _ _ st1 rh1 (t.wd w1) q1 fun ρ2 S2 σ2 H2 ad2 q2 w2 st2 rh2 l2 a2=>k ρ2 S2 σ2 H2 ad2 q2 (w1.trans w2) st2 rh2 (l2.trans l1) fun j hj=>(a2 j hj).trans (a1 j hj)
theorem zpy {es:List Expr}{k n:Nat}{t:DGs}(hc:X.calm=true)(h:zjX X b es t)(hn:(assignEach es X.env).length=n:=by rfl)(hst:(assignEach es X.env).findIdx? (·.1)=none:=by rfl):PGD X b (.Tuple es k pos) (zeX n t):=by
 obtain⟨g,p,r⟩:=h
 refine⟨_,zg8 hc p hn hst,fun ad H S ρ σ d v Q0 Q st rh rv ⟨xs,ed,hl,q⟩ k=>?_⟩
 subst ed
 cases rv with
 |tup h1 rs=>exact⟨_,_,rfl,SqT.of h1,by rw [<- rs.length];exact hl,r ad H S ρ σ xs _ _ _ st rh rs q k⟩
theorem zoW {o i:Expr}{to ti:DE}(ho:PD X o to)(hi:PD X i ti)
  (ha:∀ v,assign (.Subscript o i pos) X.env v=(do
   let ov <- holding [v] (eval o X.env)
   let iv <- holding [v,ov] (eval i X.env)
   standAt pos
   holding [v,ov,iv] (setItem ov iv v)
   release [v,ov,iv] []):=by intro _;rfl):PGD X b (.Subscript o i pos) (zjv to ti):=by with_unfolding_all exact (⟨_,zrI ho hi set_list ha,fun ad H S ρ σ d v Q0 Q st rh r q k=>⟨ad,ρ,S,_,st,rh,q,fun x S1 u H1 ad1 q1 w1 st1 r1=>⟨ad1,ρ,S1,_,st1,rh.wd w1,q1,fun y S2 z H2 ad2 q2 w2 st2 r2=>by
  obtain⟨n,xs,kk,j,ex,ey,hn,hj,q3⟩:=q2
  subst ex ey
  cases r2
  cases r1 with
  |ref e =>
   have e2:=zif w2.pre e
   obtain⟨ws,hw,rw⟩:=st2.cell n _ _ e2 hn
   have rd:=r.wd (w1.trans w2)
   exact⟨_,ws,kk,j,rfl,rfl,hw,by rw [<- rw.length];exact hj,k ρ _ σ _ ad2 q3 ((w1.trans w2).trans (Wd.put e2 hw)) (st2.put e2 hw (rw.set rd j)) (rh.wd ((w1.trans w2).trans (Wd.put e2 hw))) rfl fun _ _=>rfl⟩⟩⟩⟩)
variable {st:Stmt}{sts:List Stmt}{t u:DS}{e:Expr}{te:DE}
theorem zN:zeu X [] zad:=by with_unfolding_all exact (zjJ zpG fun E σ H hh=>el8 hh fun ad ρ S E0 so rh q k=>k.nx ρ S σ H ad q Wd.refl so rh)
theorem zy (h:PSD X st t):zeu X [st] t:=by with_unfolding_all exact (zpX h)
theorem zq (h1:PSD X st t)(h2:zeu X sts u):zeu X (st::sts) (zG t u):=by with_unfolding_all exact (zjJ (znD h1 h2) fun E σ H hh=>el8 hh fun ad ρ S E0 so rh q k =>
 ⟨ad,ρ,S,{ E0 with nx:=u E0 },so,rh,q,⟨fun ρ' S' σ' H' ad' q' w st' rh'=>⟨ad',ρ',S',E0,st',rh',q',k.wd w⟩,k.rt,k.bk,k.ct⟩⟩)
theorem zaq:PSD X st za2:=by with_unfolding_all exact (zbj zoh fun E σ H hh=>el8 hh fun ad ρ S E0 so rh q k=>q)
theorem zaw (he:PD X e te)(hs:swapsWith e none pos.line X.env=pure false:=by rfl):PSD X (.Expr e pos) (zaY te):=by with_unfolding_all exact (zbj (zo8 he hs) fun E σ H hh=>el8 hh fun ad ρ S E0 so rh q k =>
 ⟨ad,ρ,S,_,so,rh,q,fun d S' v H' ad' q' w st' r=>k.nx ρ S' σ H' ad' q' w st' (rh.wd w)⟩)
theorem zM (he:PD X e te):PSD X (.Return (some e) pos) (zai te):=by with_unfolding_all exact (zbj (zqJ he) fun E σ H hh=>el8 hh fun ad ρ S E0 so rh q k=>⟨ad,ρ,S,_,so,rh,q,k.rt⟩)
theorem zge (h:PSD X st t):PSD X st (sJ t):=by with_unfolding_all exact (zbj h fun E σ H ⟨ad,ρ,S,E0,so,rh,⟨J,hJ,q⟩,k⟩ =>
 ⟨ad,ρ,S,{ E0 with nx:=J },so,rh,q,⟨fun ρ' S' σ' H' ad' q' w st' rh'=>k.nx ρ' S' σ' H' ad' (hJ _ _ q') w st' rh',k.rt,k.bk,k.ct⟩⟩)
theorem z8 {c:Expr}{a b:List Stmt}{tc:DT}(hc:PTD X c tc)(ha:zeu X a t)(hb:zeu X b u):PSD X (.If c a b pos) (sIf tc t u):=by with_unfolding_all exact (zbj (zsF hc ha hb) fun E σ H hh=>el8 hh fun ad ρ S E0 so rh q k =>
 ⟨ad,ρ,S,_,so,rh,q,fun b S' H' ad' q' w st'=>by
  cases b with
  |true=>rw [if_pos rfl] at q' ⊢;exact⟨ad',ρ,S',E0,st',rh.wd w,q',k.wd w⟩
  |false=>rw [if_neg Bool.false_ne_true] at q' ⊢;exact⟨ad',ρ,S',E0,st',rh.wd w,q',k.wd w⟩⟩)
theorem zJ {i:Nat}{x:Str}{pos':Pos}(hN:X.N.Nodup)(he:PD X e te)(hi:X.N[i]?=some x:=by rfl)(hx:Loc X.env.scope x:=by first|exact Or.inl rfl|exact Or.inr rfl)(hs:swapsWith e (some (.Name x pos')) pos.line X.env=pure false:=by rfl)(hf:X.fn x=true\/X.env.scope.names.lookup x=some .local:=by first|exact .inl rfl|exact .inr rfl|assumption) :
  PSD X (.Assign [.Name x pos'] e pos) (zO te (zB i)):=by with_unfolding_all exact (zbj (zqr hN hi hx he hs hf) fun E σ H hh=>el8 hh fun ad ρ S E0 so rh q k =>
 ⟨ad,ρ,S,_,so,rh,q,fun d S' v H' ad' q' w st' r=>k.nx _ S' _ H' ad' q' w st' ((rh.wd w).set r i)⟩)
theorem zpj {tg:Expr}{g:DG}(he:PD X e te)(hg:PGD X 1000 tg g)(hs:swapsWithSole [tg] e pos.line X.env=pure false:=by rfl)(hw:swappedStores [tg] e X.env=pure none:=by rfl)
  (h1:(assignEach [tg] X.env).map (·.2)=[assign tg X.env]:=by rfl):PSD X (.Assign [tg] e pos) (zO te g):=by
 with_unfolding_all
  obtain⟨g',p,r⟩:=hg
  exact zbj (zqE he p hs hw h1) fun E σ H hh=>el8 hh fun ad ρ S E0 so rh q k =>
   ⟨ad,ρ,S,_,so,rh,q,fun d S' v H' ad' q' w st' rv=>r ad' H' S' ρ σ d v _ _ st' (rh.wd w) rv q' fun ρ2 S2 σ2 H2 ad2 q2 w2 st2 rh2 _ _=>k.nx ρ2 S2 σ2 H2 ad2 q2 (w.trans w2) st2 rh2⟩
theorem zlg {i:Nat}{x:Str}{pos':Pos}(hN:X.N.Nodup)(he:PD X e te)(hi:X.N[i]?=some x:=by rfl)(hx:Loc X.env.scope x:=by first|exact Or.inl rfl|exact Or.inr rfl)(hf:X.fn x=true\/X.env.scope.names.lookup x=some .local:=by first|exact .inl rfl|exact .inr rfl|assumption) :
  PSD X (.AugAssign (.Name x pos') .Add e pos) (zkv i te):=by with_unfolding_all exact (zbj (zr3 hN hi hx he zrx hf) fun E σ H ⟨ad,ρ,S,E0,so,rh,⟨a,ea,q⟩,k⟩=>by
 obtain⟨v,ev,rv⟩:=rh.val i _ ea
 cases rv
 refine⟨_,ev,ad,ρ,S,_,so,rh,q,fun d S' v H' ad' ⟨b,eb,q'⟩ w st' r=>?_⟩
 subst eb
 cases r
 exact⟨a,b,rfl,rfl,k.nx _ S' _ H' ad' q' w st' ((rh.wd w).set (.int _) i)⟩)
theorem zfF {c:Expr}{body:List Stmt}{tc:DT}(hc:PTD X c tc)(hb:zeu X body t)(hp:PassesOwn (model X.prog X.w) X.A X.env X.xe:=by first|exact PassesOwn.never|exact PassesOwn.leaving):PSD X (.While c body [] pos) (zeP tc t):=by with_unfolding_all exact (zbj (znZ hp hc hb) fun E σ H ⟨ad,ρ,S,E0,so,rh,⟨W,⟨m0,w0⟩,turn⟩,k⟩=>by
 refine⟨fun m σ' H'=>∃ ad' ρ' S',W m ρ' S'/\Wd ad H ad' H'/\zH X.K ad' H' S'/\zav X.K ad' H' ρ' σ',⟨m0,ad,ρ,S,w0,Wd.refl,so,rh⟩,?_⟩
 rintro m σ1 H1 ⟨ad1,ρ1,S1,w1,d1,st1,rh1⟩
 refine⟨ad1,ρ1,S1,_,st1,rh1,turn m ρ1 S1 w1,fun b S2 H2 ad2 q2 d2 st2=>?_⟩
 cases b with
 |true =>
  rw [if_pos rfl] at q2 ⊢
  obtain⟨N,hN,q2⟩:=q2
  refine⟨fun σ' H'=>∃ ad' ρ' S',N ρ' S'/\Wd ad H ad' H'/\zH X.K ad' H' S'/\zav X.K ad' H' ρ' σ',?_,ad2,ρ1,S2,{ E0 with nx:=N,ct:=N,bk:=E0.nx },st2,rh1.wd d2,q2,?_⟩
  ·rintro σ' H' ⟨ad',ρ',S',n',d',st',rh'⟩
   obtain⟨m',hm,w'⟩:=hN ρ' S' n'
   exact⟨m',hm,ad',ρ',S',w',d',st',rh'⟩
  ·have d12:=d1.trans d2
   exact⟨fun ρ' S' σ' H' ad' q' w' st' rh'=>⟨ad',ρ',S',q',d12.trans w',st',rh'⟩,k.rt.wd d12,fun ρ' S' σ' H' ad' q' w' st' rh'=>k.nx ρ' S' σ' H' ad' q' (d12.trans w') st' rh',fun ρ' S' σ' H' ad' q' w' st' rh'=>⟨ad',ρ',S',q',d12.trans w',st',rh'⟩⟩
 |false =>
  rw [if_neg Bool.false_ne_true] at q2 ⊢
  exact k.nx ρ1 S2 σ1 H2 ad2 q2 (d1.trans d2) st2 (rh1.wd d2))
end
structure zh5 (K:PySem.W.Frag)(ad0:List Addr)(H0:Hp)(J0:DIt)(J:It):Prop where
 go:∀ ad H S i,Wd ad0 H0 ad H->zH K ad H S->J0.ok S->i<J0.items.length->J.go i H
 yld:∀ ad H S i d x H',Wd ad0 H0 ad H->zH K ad H S->J0.ok S->J0.items[i]?=some d->J.yld i H x H'->Wd ad H ad H'/\zH K ad H' S/\Rel K ad H' d x
 stop:∀ ad H S,Wd ad0 H0 ad H->zH K ad H S->J0.ok S->J.stop J0.items.length H
def upI (K:PySem.W.Frag)(wi:DI):TI:=fun σ H R=>∃ ad ρ S R0,zH K ad H S/\zav K ad H ρ σ/\wi ρ S R0/\∀ J0 S' J H' ad',R0 J0 S'->Wd ad H ad' H'->zH K ad' H' S'->zh5 K ad' H' J0 J->R J H'
@[irreducible] def PID (X:Cx)(tg iter:Expr)(wi:DI):Prop:=PI X tg iter (upI X.K wi)
theorem zh9 {X:Cx}{tg iter:Expr}{w w':TI}(h:PI X tg iter w)(m:∀ σ H R,w' σ H R->w σ H R):PI X tg iter w':=fun pins s σ H R I q=>h pins s σ H R I (m σ H R q)
section
variable {X:Cx}{tg e:Expr}
def Its (z:Str):It:=⟨fun i _=>i<z.cps.size,fun i H x H'=>H'=H/\∃ c,z.cps[i]?=some c/\x=.str ⟨#[c]⟩,fun i _=>z.cps.size<=i⟩
theorem znb {P:Program}{w:World}{K:PySem.W.Frag}{tg:Expr}(z:Str)(t:Tok)(it:Addr):Turn P w K tg (Its z) [it] it (fun i h=>h.IsStrIter it "str_ascii_iterator" z t i) where
 mem:=by simp
 obj:=fun i h st b hb=>by
  have e:b=it:=by simpa using hb
  subst e
  obtain⟨o,e,c,d⟩:=st
  exact⟨o,e,fun v y=>by rw [d] at y;cases y⟩
 keep:=fun i h h' st k=>let ⟨o,e,r⟩:=st;⟨o,k it (by simp) o e,r⟩
 item:=by
  intro X hP hw hK hc i pins s σ H E I hf st hg
  subst hP hw hK
  have hg:i<z.cps.size:=hg
  obtain⟨f0,f1,f2,f3,f4,f5⟩:=hf it (by simp)
  refine wpAny_pyNext_ascii_item st (c:=z.cps[i]) (by simp [hg]) fun h' st' sb=>?_
  have I1:Inv X pins σ H { s with heap:=h',toks:=s.toks+1 }:=I.turned (t':=s.toks+1) (fun b o hb e=>(sb.2 b hb).trans e) f0 f1 f3 f4 f5
  obtain⟨o,e,c,d⟩:=id st'
  exact⟨_,rfl,zgo (s:={ s with heap:=h',toks:=s.toks+1 }) e c d (by decide) ⟨.str ⟨#[z.cps[i]]⟩,H,I1,⟨_,rfl⟩,⟨rfl,z.cps[i],by simp [hg],rfl⟩,st',fun b hb=>(hf b hb).1⟩⟩
 done:=by
  intro X hP hw hK hc i pins s σ H E I hf st hg
  subst hP hw hK
  have hg:z.cps.size<=i:=hg
  obtain⟨f0,f1,f2,f3,f4,f5⟩:=hf it (by simp)
  exact wpAny_pyNext_ascii_end (I.ok.hd hc) st (by simp [hg]) fun h' eb=>⟨rfl,I.turned (t':=s.toks) (fun b o hb e=>eb b o hb e) f0 f1 f3 f4 f5⟩
 self:=fun _ _ _ _ _ st hQ=>wpAny_pyIter_striter_ascii st hQ
theorem zmy {P:Program}{w:World}{K:PySem.W.Frag}{tg:Expr}(z:Str)(t:Tok)(it:Addr):Turn P w K tg (Its z) [it] it (fun i h=>h.IsStrIter it "str_iterator" z t i) where
 mem:=by simp
 obj:=fun i h st b hb=>by
  have e:b=it:=by simpa using hb
  subst e
  obtain⟨o,e,c,d⟩:=st
  exact⟨o,e,fun v y=>by rw [d] at y;cases y⟩
 keep:=fun i h h' st k=>let ⟨o,e,r⟩:=st;⟨o,k it (by simp) o e,r⟩
 item:=by
  intro X hP hw hK hc i pins s σ H E I hf st hg
  subst hP hw hK
  have hg:i<z.cps.size:=hg
  obtain⟨f0,f1,f2,f3,f4,f5⟩:=hf it (by simp)
  refine wpAny_pyNext_wide_item st (c:=z.cps[i]) (by simp [hg]) fun h' st' sb=>?_
  have I1:Inv X pins σ H { s with heap:=h',toks:=s.toks+1 }:=I.turned (t':=s.toks+1) (fun b o hb e=>(sb.2 b hb).trans e) f0 f1 f3 f4 f5
  obtain⟨o,e,c,d⟩:=id st'
  exact⟨_,rfl,zgo (s:={ s with heap:=h',toks:=s.toks+1 }) e c d (by decide) ⟨.str ⟨#[z.cps[i]]⟩,H,I1,⟨_,rfl⟩,⟨rfl,z.cps[i],by simp [hg],rfl⟩,st',fun b hb=>(hf b hb).1⟩⟩
 done:=by
  intro X hP hw hK hc i pins s σ H E I hf st hg
  subst hP hw hK
  have hg:z.cps.size<=i:=hg
  obtain⟨f0,f1,f2,f3,f4,f5⟩:=hf it (by simp)
  exact wpAny_pyNext_wide_end (I.ok.hd hc) st (by simp [hg]) fun h' eb=>⟨rfl,I.turned (t':=s.toks) (fun b o hb e=>eb b o hb e) f0 f1 f3 f4 f5⟩
 self:=fun _ _ _ _ _ st hQ=>wpAny_pyIter_striter_wide st hQ
def zpq (K:PySem.W.Frag)(tl:TE):TI:=fun σ H R=>tl σ H fun x H1=>(∃ a,x=.ref a/\(((∃ xs,SqL K H1 a xs)/\R (Itl K a) H1)\/((∃ xs,SqT K H1 a xs)/\R (Itt K a) H1)))\/(∃ z,x=.str z/\R (Its z) H1)
theorem ziQ {l:Expr}{tl:TE}(hl:PE X l tl):PI X tg l (zpq X.K tl):=by
  intro pins s σ H R I h
  refine thn (hl pins s σ H _ I h) fun v s1 ⟨x,H1,I1,r1,q1⟩=>?_
  rcases q1 with ⟨a,e,q1⟩|⟨z,e,q⟩
  case inr =>
    subst e
    obtain⟨t,rfl⟩:=r1
    have fp:∀ b∈[s1.heap.objs.size],zff X pins H1 b:=fun b hb=>by
      have e:b=s1.heap.objs.size:=by simpa using hb
      subst e
      exact I1.fpOk (Nat.le_refl _) (I1.hok.fresh (Nat.le_refl _))
    cases ha:z.cps.all (· < 128) with
    |true=>exact wpAny_pyIter_ascii ha ⟨s1.heap.objs.size,[s1.heap.objs.size],_,_,H1,rfl,I1.kept (t':=s1.toks) fun b o e=>Heap.get?_push_of_some _ e,znb z t _,⟨_,Heap.get?_push_size _ rfl,rfl,rfl⟩,fp,q⟩
    |false=>exact wpAny_pyIter_wide ha ⟨s1.heap.objs.size,[s1.heap.objs.size],_,_,H1,rfl,I1.kept (t':=s1.toks) fun b o e=>Heap.get?_push_of_some _ e,zmy z t _,⟨_,Heap.get?_push_size _ rfl,rfl,rfl⟩,fp,q⟩
  subst e
  cases r1
  rcases q1 with ⟨⟨xs,hq⟩,q⟩|⟨⟨xs,hq⟩,q⟩
  · obtain⟨its,rv,p,hz⟩:=I1.list hq
    refine wpAny_pyIter_list p.isList ?_
    refine⟨s1.heap.objs.size,[s1.heap.objs.size],_,_,H1,rfl,I1.kept (t':=s1.toks) fun b o e=>Heap.get?_push_of_some _ e,zm7 a _,⟨_,Heap.get?_push_size _ rfl,rfl,rfl⟩,fun b hb=>?_,q⟩
    have e:b=s1.heap.objs.size:=by simpa using hb
    subst e
    exact I1.fpOk (Nat.le_refl _) (I1.hok.fresh (Nat.le_refl _))
  · obtain⟨its,rv,p,hz⟩:=I1.tuple hq
    refine wpAny_pyIter_tuple (show s1.heap.IsTuple a its.toArray from p) ?_
    refine⟨s1.heap.objs.size,[s1.heap.objs.size],_,_,H1,rfl,I1.kept (t':=s1.toks) fun b o e=>Heap.get?_push_of_some _ e,zl4 a _,⟨_,Heap.get?_push_size _ rfl,rfl,rfl⟩,fun b hb=>?_,q⟩
    have e:b=s1.heap.objs.size:=by simpa using hb
    subst e
    exact I1.fpOk (Nat.le_refl _) (I1.hok.fresh (Nat.le_refl _))
theorem zry {K:PySem.W.Frag}{ad:List Addr}{H:Hp}(z:Str):zh5 K ad H ⟨signs z,fun _=>True⟩ (Its z) where
 go:=fun ad1 H1 S i w st _ hi=>by
  show i<z.cps.size
  have:i<(signs z).length:=hi
  unfold signs at this
  rw [List.length_map] at this
  simpa using this
 yld:=fun ad1 H1 S i d x H' w st _ hd ⟨e,c,hc,hx⟩=>by
  subst e hx
  have hd:(signs z)[i]?=some d:=hd
  unfold signs at hd
  rw [List.getElem?_map,Array.getElem?_toList,hc] at hd
  cases hd
  exact⟨Wd.refl,st,.str _⟩
 stop:=fun ad1 H1 S w st _=>by
  show z.cps.size<=(signs z).length
  unfold signs
  rw [List.length_map];simp
theorem zr1 {K:PySem.W.Frag}{ad:List Addr}{H:Hp}{a:Addr}{vs:List V}{ds:List D}(h:H a=some (.tup vs))(r:zA K ad H ds vs):zh5 K ad H ⟨ds,fun _=>True⟩ (Itt K a) where
 go:=fun ad1 H1 S i w st _ hi=>⟨vs,vs[i]'(by rw [<- r.length];exact hi),SqT.of (w.tup _ _ h),List.getElem?_eq_getElem _⟩
 yld:=fun ad1 H1 S i d x H' w st _ hd ⟨e,hx⟩=>by
  subst e
  obtain⟨v,ev,rv⟩:=r.get hd
  rw [hx vs (SqT.of (w.tup _ _ h))] at ev
  cases ev
  exact⟨Wd.refl,st,rv.wd w⟩
 stop:=fun ad1 H1 S w st _=>⟨vs,SqT.of (w.tup _ _ h),by rw [<- r.length];exact Nat.le_refl _⟩
theorem zrK {K:PySem.W.Frag}{ad:List Addr}{H:Hp}{a:Addr}{x:D}{ds:List D}(r:Rel K ad H x (.ref a)):zh5 K ad H ⟨ds,fun S=>Lst S x ds⟩ (Itl K a) where
 go:=fun ad1 H1 S i w st ok hi=>by
  obtain⟨a',vs,e,s,rs⟩:=Lst.sq st ok (r.wd w)
  cases e
  exact⟨vs,vs[i]'(by rw [<- rs.length];exact hi),s,List.getElem?_eq_getElem _⟩
 yld:=fun ad1 H1 S i d y H' w st ok hd ⟨e,hx⟩=>by
  subst e
  obtain⟨a',vs,e,s,rs⟩:=Lst.sq st ok (r.wd w)
  cases e
  obtain⟨v,ev,rv⟩:=rs.get hd
  rw [hx vs s] at ev
  cases ev
  exact⟨Wd.refl,st,rv⟩
 stop:=fun ad1 H1 S w st ok=>by
  obtain⟨a',vs,e,s,rs⟩:=Lst.sq st ok (r.wd w)
  cases e
  exact⟨vs,s,by rw [<- rs.length];exact Nat.le_refl _⟩
theorem zam {t:DE}(h:PD X e t):PID X tg e (zaP t):=by with_unfolding_all exact (zh9 (ziQ h) fun σ H R hh=>el8 hh fun ad ρ S R0 st rh q k =>
 ⟨ad,ρ,S,_,st,rh,q,fun x S1 v H1 ad1 q1 w1 st1 r1=>by
  rcases q1 with ⟨xs,rfl,q1⟩|⟨xs,hx,q1⟩|⟨z,rfl,q1⟩
  ·cases r1 with
   |tup h1 rs=>exact .inl ⟨_,rfl,.inr ⟨⟨_,SqT.of h1⟩,k _ S1 _ H1 ad1 q1 w1 st1 (zr1 h1 rs)⟩⟩
  ·obtain⟨a,vs,rfl,s,rs⟩:=hx.sq st1 r1
   exact .inl ⟨a,rfl,.inl ⟨⟨vs,s⟩,k _ S1 _ H1 ad1 q1 w1 st1 (zrK r1)⟩⟩
  ·cases r1
   exact .inr ⟨z,rfl,k _ S1 _ H1 ad1 q1 w1 st1 (zry z)⟩⟩)
theorem znR {lo:Int}{n i:Nat}{d:D}(h:(upto lo n)[i]?=some d):i<n/\d=.int (lo+i):=by
 unfold upto at h
 rw [List.getElem?_map] at h
 have hi:=My.zaO (xs:=List.range n) (i:=i) (x:=i)
 cases hr:(List.range n)[i]? with
 |none=>rw [hr] at h;cases h
 |some k =>
  rw [hr] at h
  have h1:=My.zaO hr
  rw [List.length_range] at h1
  have h2:(List.range n)[i]?=some i:=List.getElem?_range h1
  rw [hr] at h2
  cases h2
  cases h
  exact⟨h1,rfl⟩
theorem zj8 (lo:Int)(n:Nat):(upto lo n).length=n:=by unfold upto;rw [List.length_map,List.length_range]
theorem zm3 {K:PySem.W.Frag}{ad:List Addr}{H:Hp}(lo:Int)(n:Nat):zh5 K ad H ⟨upto lo n,fun _=>True⟩ (Itr lo n) where
 go:=fun ad1 H1 S i w st _ hi=>by rw [zj8] at hi;exact hi
 yld:=fun ad1 H1 S i d x H' w st _ hd ⟨e,hx⟩=>by
  subst e
  obtain⟨_,rfl⟩:=znR hd
  rw [hx]
  exact⟨Wd.refl,st,.int _⟩
 stop:=fun ad1 H1 S w st _=>by rw [zj8];exact Nat.le_refl _
theorem zmK {P:Program}{w:World}{K:PySem.W.Frag}{tg:Expr}(it:Addr)(lo:Int)(n:Nat):Turn P w K tg (Itr lo n) [it] it (fun i h=>IsLongIter h it (lo+(i:Nat)*1) ((n:Int)-(i:Nat)) 1) where
 mem:=by simp
 obj:=fun i h st b hb=>by
  have e:b=it:=by simpa using hb
  subst e
  exact⟨_,st,fun v z=>by
   have z':Data.fields _=Data.cell v:=z
   cases z'⟩
 keep:=fun i h h' st k=>k it (by simp) _ st
 item:=by
  intro X hP hw hK hc i pins s σ H E I hf st' hg
  subst hP hw hK
  obtain⟨f0,f1,f2,f3,f4,f5⟩:=hf it (by simp)
  have W:=Walks.longrange (prog:=X.prog) (w:=X.w) (I.ok.hd hc) it lo 1 n
  refine W.item i s _ _ hg st' fun v h' tk hv st'' kk=>?_
  obtain⟨t,rfl⟩:=hv
  have I1:Inv X pins σ H { s with heap:=h',toks:=tk }:=I.turned (fun b o hb e=>kk b o (by simpa using hb) e) f0 f1 f3 f4 f5
  rw [Int.mul_one]
  exact⟨_,rfl,zgo (s:={ s with heap:=h',toks:=tk }) (n:="longrange_iterator") st'' rfl rfl (by decide) ⟨.int (lo+i),H,I1,⟨t,rfl⟩,⟨rfl,rfl⟩,st'',fun b hb=>(hf b hb).1⟩⟩
 done:=by
  intro X hP hw hK hc i pins s σ H E I hf st' hg
  subst hP hw hK
  obtain⟨f0,f1,f2,f3,f4,f5⟩:=hf it (by simp)
  exact wpAny_pyNext_long_end (I.ok.hd hc) st' (by have:n<=i:=hg;omega) fun h' eb=>⟨rfl,I.turned (t':=s.toks) (fun b o hb e=>eb b o hb e) f0 f1 f3 f4 f5⟩
 self:=fun _ _ _ _ _ st h=>wpAny_pyIter_longiter st h
theorem range_any {pins:List (Addr×Obj)}{σ:L2.St}{H:Hp}{s:Shared}{R:It->Hp->Prop}{E:Value->Shared->Prop}{lo hi:Int}{t u v:Tok}{tk:Nat}(I:Inv X pins σ H s)
    (q:R (Itr lo (hi-lo).toNat) H):wpAny (model X.prog X.w) X.A (pyIter (.ref s.heap.objs.size)) (PIE X pins σ tg R) E { s with heap:=s.heap.push { cls:=.type "range",data:=.fields #[.int lo t,.int hi u,.int 1 v] },toks:=tk }:=by
  have I1:Inv X pins σ H { s with heap:=s.heap.push { cls:=.type "range",data:=.fields #[.int lo t,.int hi u,.int 1 v] },toks:=tk }:=I.kept fun b o e=>Heap.get?_push_of_some _ e
  have e1:lo+((0:Nat):Int)*1=lo:=by simp
  have e2:(((hi-lo).toNat:Nat):Int)-((0:Nat):Int)=Builtin.Range.rangeSize lo hi 1:=by rw [rangeSize_one];split<;>omega
  cases hsm:Builtin.Range.small lo hi 1 with
  |true =>
    refine wpAny_pyIter_range (IsRange.new ..) hsm ?_
    refine⟨(s.heap.push { cls:=.type "range",data:=.fields #[.int lo t,.int hi u,.int 1 v] }).objs.size,[(s.heap.push { cls:=.type "range",data:=.fields #[.int lo t,.int hi u,.int 1 v] }).objs.size],_,_,H,rfl,
      I1.kept (t':=tk) fun b o e=>Heap.get?_push_of_some _ e,zhc _ lo (hi-lo).toNat,?_,fun b hb=>?_,q⟩
    · show IsRangeIter _ _ (lo+((0:Nat):Int)*1) ((((hi-lo).toNat:Nat):Int)-((0:Nat):Int)) 1
      rw [e1,e2]
      exact Heap.get?_push_size _ rfl
    · have e:b=(s.heap.push { cls:=.type "range",data:=.fields #[.int lo t,.int hi u,.int 1 v] }).objs.size:=by simpa using hb
      subst e
      exact I1.fpOk (Nat.le_refl _) (I1.hok.fresh (Nat.le_refl _))
  |false =>
    refine wpAny_pyIter_longrange (IsRange.new ..) hsm ?_
    refine⟨(s.heap.push { cls:=.type "range",data:=.fields #[.int lo t,.int hi u,.int 1 v] }).objs.size,[(s.heap.push { cls:=.type "range",data:=.fields #[.int lo t,.int hi u,.int 1 v] }).objs.size],_,_,H,rfl,
      I1.kept (t':=tk) fun b o e=>Heap.get?_push_of_some _ e,zmK _ lo (hi-lo).toNat,?_,fun b hb=>?_,q⟩
    · show IsLongIter _ _ (lo+((0:Nat):Int)*1) ((((hi-lo).toNat:Nat):Int)-((0:Nat):Int)) 1
      rw [e1,e2]
      exact Heap.get?_push_size _ rfl
    · have e:b=(s.heap.push { cls:=.type "range",data:=.fields #[.int lo t,.int hi u,.int 1 v] }).objs.size:=by simpa using hb
      subst e
      exact I1.fpOk (Nat.le_refl _) (I1.hok.fresh (Nat.le_refl _))
theorem zeG {a:Expr}{t:DA}{p pos:Pos}(hm:X.mg "range"=none)(ha:PAD X [a] t)(hg:Gl X "range":=by rfl)(hs:starEach [a] X.env=[(false,eval a X.env)]:=by exact zcj rfl):PID X tg (.Call (.Name "range" p) [a] [] pos) (zdU t):=by with_unfolding_all exact (zh9 (zmX hg hm ha hs) fun σ H R hh=>el8 hh fun ad ρ S R0 st rh q k =>
 ⟨ad,ρ,S,_,st,rh,q,fun ds S1 vs H1 ad1 ⟨j,ed,b1,b2,q1⟩ w1 st1 r1=>by
  subst ed
  obtain⟨v,rfl,rv⟩:=zc9 r1
  cases rv
  exact⟨j,rfl,b1,b2,k _ S1 _ H1 ad1 q1 w1 st1 (zm3 0 j.toNat)⟩⟩)
theorem zhP {a b:Expr}{t:DA}{p pos:Pos}(hm:X.mg "range"=none)(ha:PAD X [a,b] t)(hg:Gl X "range":=by rfl)(hs:starEach [a,b] X.env=[(false,eval a X.env),(false,eval b X.env)]:=by exact zn1 rfl rfl)(hs2:starEach [b] X.env=[(false,eval b X.env)]:=by exact zcj rfl) :
  PID X tg (.Call (.Name "range" p) [a,b] [] pos) (zhh t):=by
 with_unfolding_all
  rintro pins s σ H R I ⟨ad,ρ,S,R0,st,rh,q,k⟩
  refine Call_ (zec I hg hm boot_range (PyProof.Rows.callWith_type1 (thn (ha pos pins s σ H (fun vs H1=>∃ i j:Int,vs=[.int i,.int j]/\R (Itr i (j-i).toNat) H1) I ⟨ad,ρ,S,_,st,rh,q,fun ds S1 vs H1 ad1 ⟨i,j,ed,q1⟩ w1 st1 r1=>by
   subst ed
   obtain⟨v,u,rfl,rv,ru⟩:=zqx r1
   cases rv
   cases ru
   exact⟨i,j,rfl,k _ S1 _ H1 ad1 q1 w1 st1 (zm3 i _)⟩⟩) fun us s1 ⟨vs,H1,I1,r1,q1⟩=>?_) (by rw [hs,hs2]) (by rw [hs2];rfl)))
  obtain⟨i,j,e,q⟩:=q1
  subst e
  cases r1 with
  |cons r rr =>
   cases rr with
   |cons r' rr =>
    cases rr
    obtain⟨t,rfl⟩:=r
    obtain⟨t',rfl⟩:=r'
    exact call_range_2 (range_any I1 q)
theorem zbS {iter:Expr}{body:List Stmt}{wi:DI}{g:DG}{t:DS}{pos:Pos}(hi:PID X tg iter wi)(hg:PGD X 1000 tg g)(hb:zeu X body t)(hp:PassesOwn (model X.prog X.w) X.A X.env X.xe:=by first|exact PassesOwn.never|exact PassesOwn.leaving)(hc:X.calm=true:=by rfl)(hs:∀ x,foldedSetIterable iter X.env x=pure x:=by intro _;rfl):PSD X (.For tg iter body [] pos) (zc4 wi g t):=by
 with_unfolding_all
  obtain⟨g',pg,rg⟩:=hg
  refine zbj (zrA hp hc hi pg hb hs) fun E σ H hh=>el8 hh fun ad ρ S E0 so rh q k=>?_
  refine⟨ad,ρ,S,_,so,rh,q,fun J0 S1 J H1 ad1 ⟨W,w0,hok,step,fin⟩ d1 st1 it=>?_⟩
  refine⟨fun i m σ' H'=>m=J0.items.length-i/\i<=J0.items.length/\∃ ad' ρ' S',W i ρ' S'/\Wd ad1 H1 ad' H'/\zH X.K ad' H' S'/\zav X.K ad' H' ρ' σ',⟨J0.items.length,rfl,Nat.zero_le _,ad1,ρ,S1,w0,Wd.refl,st1,rh.wd d1⟩,?_⟩
  rintro i m σ2 H2 ⟨rfl,hi2,ad2,ρ2,S2,w2,d2,st2,rh2⟩
  by_cases hlt:i<J0.items.length
  ·have ed:J0.items[i]?=some J0.items[i]:=List.getElem?_eq_getElem hlt
   refine .inr ⟨it.go ad2 H2 S2 i d2 st2 (hok _ _ _ w2) hlt,fun σ' H'=>∃ ad' ρ' S',W (i+1) ρ' S'/\Wd ad1 H1 ad' H'/\zH X.K ad' H' S'/\zav X.K ad' H' ρ' σ',?_,fun x H' hy=>?_⟩
   ·rintro σ' H' ⟨ad',ρ',S',w',d',st',rh'⟩
    exact⟨J0.items.length-(i+1),by omega,rfl,hlt,ad',ρ',S',w',d',st',rh'⟩
   ·obtain⟨d3,st3,r3⟩:=it.yld ad2 H2 S2 i _ x H' d2 st2 (hok _ _ _ w2) ed hy
    refine rg ad2 H' S2 ρ2 σ2 _ x _ _ st3 (rh2.wd d3) r3 (step i _ ρ2 S2 ed w2) fun ρ4 S4 σ4 H4 ad4 q4 d4 st4 rh4 _ _=>?_
    have d14:=(d2.trans d3).trans d4
    have d04:=d1.trans d14
    exact⟨ad4,ρ4,S4,{ E0 with nx:=W (i+1),ct:=W (i+1),bk:=E0.nx },st4,rh4,q4,⟨fun ρ' S' σ' H' ad' q' w' st' rh'=>⟨ad',ρ',S',q',d14.trans w',st',rh'⟩,k.rt.wd d04,fun ρ' S' σ' H' ad' q' w' st' rh'=>k.nx ρ' S' σ' H' ad' q' (d04.trans w') st' rh',fun ρ' S' σ' H' ad' q' w' st' rh'=>⟨ad',ρ',S',q',d14.trans w',st',rh'⟩⟩⟩
  ·have e:i=J0.items.length:=by omega
   subst e
   exact .inl ⟨it.stop ad2 H2 S2 d2 st2 (hok _ _ _ w2),k.nx ρ2 S2 σ2 H2 ad2 (fin ρ2 S2 w2) (d1.trans d2) st2 rh2⟩
end
theorem zj6:∀ {a b:L2.St} (n:Nat),(∀ j,j<n->a[j]?=some none\/a.length<=j)->b.length=a.length->(∀ j,n<=j->b[j]?=a[j]?)->Agr a b
 |[],[],_,_,_,_=>True.intro
 |[],_::_,_,_,h,_=>by simp at h
 |_::_,[],_,_,h,_=>by simp at h
 |x::a,y::b,n,h0,hl,h=>by
  have hl':b.length=a.length:=by simpa using hl
  cases n with
  |zero =>
   have e:=h 0 (Nat.le_refl _)
   have e':y=x:=by simpa using e
   subst e'
   have rest:Agr a b:=zj6 0 (fun j hj=>absurd hj (Nat.not_lt_zero _)) hl' fun j _=>by simpa using h (j+1) (Nat.zero_le _)
   cases y with
   |none=>exact rest
   |some v=>exact⟨rfl,rest⟩
  |succ n =>
   have rest:Agr a b:=zj6 n (fun j hj=>by
    rcases h0 (j+1) (by omega) with e|e
    ·exact .inl (by simpa using e)
    ·exact .inr (by simpa using e)) hl' fun j hj=>by simpa using h (j+1) (by omega)
   rcases h0 0 (Nat.succ_pos _) with e|e
   ·have e':x=none:=by simpa using e
    subst e'
    exact rest
   ·simp at e
theorem zpi {K:PySem.W.Frag}{ad:List Addr}{H:Hp}{ρ:Rho}{σ:L2.St}(h:zav K ad H ρ σ)(own:List Str)(fv:List Nat):zav K ad H (zgI own.length fv ρ) (cst own fv σ) where
  len:=by unfold zgI cst;rw [List.length_append,List.length_append,List.length_replicate,List.length_replicate,List.length_map,List.length_map]
  val:=fun i d e=>by
    unfold zgI at e
    unfold cst
    by_cases hi:i<own.length
    · rw [List.getElem?_append_left (by rw [List.length_replicate];exact hi),List.getElem?_replicate] at e
      split at e<;>cases e
    · have hi':own.length<=i:=Nat.le_of_not_lt hi
      rw [List.getElem?_append_right (by rw [List.length_replicate];exact hi'),List.length_replicate,List.getElem?_map] at e
      rw [List.getElem?_append_right (by rw [List.length_replicate];exact hi'),List.length_replicate,List.getElem?_map]
      cases hf:fv[i-own.length]? with
      |none=>rw [hf] at e;cases e
      |some j =>
        rw [hf] at e
        simp only [Option.map_some,Option.some.injEq] at e ⊢
        cases hr:ρ[j]? with
        |none=>rw [hr] at e;cases e
        |some o =>
          rw [hr] at e
          have e':o=some d:=e
          subst e'
          obtain⟨v,ev,rv⟩:=h.val j d hr
          exact⟨v,by rw [ev];rfl,rv⟩
@[irreducible] def znN (X:Cx)(ifs:List Expr)(t:DT):Prop:=PFs X ifs (upT X.K t)
theorem zag {X:Cx}:znN X [] zaE:=by with_unfolding_all exact (fun pins s σ H Q I hh=>el8 hh fun ad ρ S Q0 st rh q k=>zrl pins s σ H Q I (k true S H ad q Wd.refl st))
theorem ofT {A B:Prop}(h:if true=true then A else B):A:=by rw [if_pos rfl] at h;exact h
theorem ofF {A B:Prop}(h:if false=true then A else B):B:=by rw [if_neg Bool.false_ne_true] at h;exact h
theorem zon {K:PySem.W.Frag}{own:List Str}{fv:List Nat}{wi:DI}{g:DG}{g':TG}{tc:DT}{te:DE}(rg:zgO K own.length g g'){σ:L2.St}{H:Hp}{Q:VK}(h:up K (dLC own.length fv wi g tc te) σ H Q):tLC own fv (upI K wi) g' (upT K tc) (up K te) σ H Q:=by
 obtain⟨ad,ρ,S,Q0,so,rh,q,k⟩:=h
 refine⟨ad,ρ,S,_,so,rh,q,fun J0 S1 J H1 ad1 ⟨hbig,W,w0,hok,step,fin⟩ d1 st1 it=>?_⟩
 intro p hp
 refine⟨fun i m H'=>m=J0.items.length-i/\i<=J0.items.length/\∃ ad' S' ys vs,W i ys S'/\Wd ad1 H1 ad' H'/\zH K ad' H' S'/\p∉ad'/\H' p=some (.lst vs)/\zA K ad' H' ys vs/\vs.length<=i,
  ⟨J0.items.length,rfl,Nat.zero_le _,ad1,S1,[],[],w0,Wd.laid hp,st1.laid hp,st1.fresh hp,zaT,.nil,Nat.le_refl _⟩,?_⟩
 rintro i m H2 ⟨rfl,hi2,ad2,S2,ys,vs,w2,d2,st2,hp2,hv2,r2,hl2⟩
 by_cases hlt:i<J0.items.length
 ·have ed:J0.items[i]?=some J0.items[i]:=List.getElem?_eq_getElem hlt
  refine .inr ⟨it.go ad2 H2 S2 i d2 st2 (hok _ _ _ w2) hlt,fun x H' hy=>?_⟩
  obtain⟨d3,st3,r3⟩:=it.yld ad2 H2 S2 i _ x H' d2 st2 (hok _ _ _ w2) ed hy
  have rh3:=zpi (rh.wd ((d1.trans d2).trans d3)) own fv
  refine rg ad2 H' S2 _ _ _ x _ _ st3 rh3 r3 (step i _ ys S2 ed w2) fun ρ4 S4 σ4 H4 ad4 q4 d4 st4 rh4 l4 a4=>?_
  refine⟨zj6 own.length (fun j hj=>.inl ?_) l4 a4,ad4,ρ4,S4,_,st4,rh4,q4,fun b S5 H5 ad5 q5 d5 st5=>?_⟩
  ·unfold cst
   rw [List.getElem?_append_left (by rw [List.length_replicate];exact hj),List.getElem?_replicate,if_pos hj]
  have fwd:∀ {ad9:List Addr} {H9:Hp},Wd ad2 H2 ad9 H9->p∉ad9/\H9 p=some (.lst vs):=fun {ad9 H9} w=>⟨(fun m=>by
   have z:=w.new p m hp2
   rw [hv2] at z;cases z),w.keep p _ hp2 hv2⟩
  have d25:=(d3.trans d4).trans d5
  cases b with
  |true =>
   refine znp ?_
   have q5:=Dp.ofT q5
   refine⟨ad5,ρ4,S5,_,st5,rh4.wd d5,q5,fun y S6 v H6 ad6 q6 d6 st6 r6=>?_⟩
   have d26:=d25.trans d6
   obtain⟨n6,e6⟩:=fwd d26
   have hw:Wr ad6 H6 ad6 (upd H6 p (.lst (vs++[v]))):=Wr.hid e6
   have hvl:vs.length<sizeLine:=zhg (by omega)
   exact⟨vs,e6,hvl,J0.items.length-(i+1),by omega,rfl,hlt,ad6,S6,ys++[y],vs++[v],q6,(d2.trans d26).hid hp,st6.hid e6 n6 (st1.bfree hp),n6,zaT,zA.wr hw ((r2.wd d26).append (.cons r6 .nil)),by rw [List.length_append];exact Nat.succ_le_succ hl2⟩
  |false =>
   refine znI ?_
   have q5:=Dp.ofF q5
   obtain⟨n5,e5⟩:=fwd d25
   exact⟨J0.items.length-(i+1),by omega,rfl,hlt,ad5,S5,ys,vs,q5,d2.trans d25,st5,n5,e5,r2.wd d25,by omega⟩
 ·have e:i=J0.items.length:=by omega
  subst e
  refine .inl ⟨it.stop ad2 H2 S2 d2 st2 (hok _ _ _ w2),?_⟩
  exact k _ _ _ _ (ad2++[p]) (fin ys S2 w2) (d1.trans (d2.add hp)) (st2.add hv2 hp2 r2 (st1.bfree hp)) (.ref (by rw [<- st2.len,List.getElem?_append_right (Nat.le_refl _),Nat.sub_self];rfl))
section
variable {X:Cx}{sc:Scope}{tg iter elt:Expr}{ifs:List Expr}{own free:List Str}{fv:List Nat}{wi:DI}{g:DG}{tc:DT}{te:DE}{pos:Pos}
theorem zbQ {g':TG}(hfr:zdi (fun x=>X.env.kindOf x=some .cell) sc.names)(hfv:zfW X sc free fv)(hi:PID X tg iter wi)
  (hg:zgO X.K own.length g g'/\∀ cl C s₀ H₀ ex,PG (inner X sc (own++free) cl C s₀ H₀ ex) tg g') (ht:∀ cl C s₀ H₀ ex,znN (inner X sc (own++free) cl C s₀ H₀ ex) ifs tc) (he:∀ cl C s₀ H₀ ex,PD (inner X sc (own++free) cl C s₀ H₀ ex) elt te) (hcalm:X.calm=true:=by rfl) (hxe:(X.xe=fun _ _=>False):=by rfl) (hkind:sc.kind=.function:=by rfl) (hcell:∀ y∈sc.names,y.2=.cell->sc.names.lookup y.1=some .cell:=by decide +kernel) (hnames:∀ y∈sc.names,y.2=.local->sc.names.lookup y.1=some .local:=by decide +kernel)
  (hs:∀ x,foldedSetIterable iter X.env x=pure x:=by intro _;rfl):PD X (.ListComp elt [⟨tg,iter,ifs,0⟩] sc pos) (dLC own.length fv wi g tc te):=by with_unfolding_all exact (zau (ztu (tc:=upT X.K tc) (te:=up X.K te) hcalm hxe hkind hcell hnames hfr hfv hi hg.2 ht he hs) fun _ _ _=>zon hg.1)
theorem zcg {g':TG}{i:Nat}{y:Str}{py spos:Pos}(hN:X.N.Nodup)(hfr:zdi (fun x=>X.env.kindOf x=some .cell) sc.names)(hfv:zfW X sc free fv)(hi:PID X tg iter wi)
  (hg:zgO X.K own.length g g'/\∀ cl C s₀ H₀ ex,PG (inner X sc (own++free) cl C s₀ H₀ ex) tg g') (ht:∀ cl C s₀ H₀ ex,znN (inner X sc (own++free) cl C s₀ H₀ ex) ifs tc) (he:∀ cl C s₀ H₀ ex,PD (inner X sc (own++free) cl C s₀ H₀ ex) elt te) (hy:X.N[i]?=some y:=by rfl) (hyl:X.env.scope.names.lookup y=some .local:=by rfl) (hcalm:X.calm=true:=by rfl) (hxe:(X.xe=fun _ _=>False):=by rfl) (hkind:sc.kind=.function:=by rfl) (hcell:∀ y∈sc.names,y.2=.cell->sc.names.lookup y.1=some .cell:=by decide +kernel) (hnames:∀ y∈sc.names,y.2=.local->sc.names.lookup y.1=some .local:=by decide +kernel)
  (hsw:swapsWith (.ListComp elt [⟨tg,iter,ifs,0⟩] sc pos) (some (.Name y py)) spos.line X.env=pure true:=by rfl)
  (hs:∀ x,foldedSetIterable iter X.env x=pure x:=by intro _;rfl):PSD X (.Assign [.Name y py] (.ListComp elt [⟨tg,iter,ifs,0⟩] sc pos) spos) (zO (dLC own.length fv wi g tc te) (zB i)):=by with_unfolding_all exact (zbj (zoO (tc:=upT X.K tc) (te:=up X.K te) hN hy hyl hcalm hxe hkind hcell hnames hfr hfv hi hg.2 ht he hsw hs) fun E σ H hh=>el8 hh fun ad ρ S E0 so rh q k =>
  zon (Q:=fun x H1=>L2.zB i x σ H1 E.nx) hg.1 ⟨ad,ρ,S,_,so,rh,q,fun d S' v H' ad' q' w st' r=>k.nx _ S' _ H' ad' q' w st' ((rh.wd w).set r i)⟩)
theorem ziK {K:PySem.W.Frag}{b:Nat}:zhk K b zes L2.zes:=fun ad H S ρ σ ds vs Q0 Q st rh r ⟨e,q⟩ k=>by
 subst e
 cases r
 exact⟨rfl,k ρ S σ H ad q Wd.refl st rh rfl fun _ _=>rfl⟩
theorem zcS {K:PySem.W.Frag}{b:Nat}{t:DG}{u:DGs}{t':TG}{u':TGs}(r1:zgO K b t t')(r2:zhk K b u u'):zhk K b (zbt t u) (L2.zbt t' u'):=fun ad H S ρ σ ds vs Q0 Q st rh r ⟨d,rs,ed,q⟩ k=>by
 subst ed
 cases r with
 |cons r t =>
  refine⟨_,_,rfl,r1 ad H S ρ σ d _ _ _ st rh r q fun ρ1 S1 σ1 H1 ad1 q1 w1 st1 rh1 l1 a1=>?_⟩
  exact r2 ad1 H1 S1 ρ1 σ1 _ _ _ _ st1 rh1 (t.wd w1) q1 fun ρ2 S2 σ2 H2 ad2 q2 w2 st2 rh2 l2 a2=>k ρ2 S2 σ2 H2 ad2 q2 (w1.trans w2) st2 rh2 (l2.trans l1) fun j hj=>(a2 j hj).trans (a1 j hj)
theorem zjQ {K:PySem.W.Frag}{b n:Nat}{t:DGs}{t':TGs}(r:zhk K b t t'):zgO K b (zeX n t) (L2.zeX K n t'):=fun ad H S ρ σ d v Q0 Q st rh rv ⟨xs,ed,hl,q⟩ k=>by
 subst ed
 cases rv with
 |tup h1 rs=>exact⟨_,_,rfl,SqT.of h1,by rw [<- rs.length];exact hl,r ad H S ρ σ xs _ _ _ st rh rs q k⟩
end
theorem zka {K:PySem.W.Frag}{ad:List Addr}{H:Hp}{ds:List D}{vs:List V}(N:List Str)(r:zA K ad H ds vs):zav K ad H (zdy N.length ds) (L2.start N vs) where
  len:=by unfold zdy L2.start;rw [List.length_append,List.length_append,List.length_map,List.length_map,List.length_replicate,List.length_replicate,r.length]
  val:=fun i d e=>by
    unfold zdy at e
    unfold L2.start
    by_cases hi:i<ds.length
    · rw [List.getElem?_append_left (by rw [List.length_map];exact hi),List.getElem?_map] at e
      rw [List.getElem?_append_left (by rw [List.length_map,<- r.length];exact hi),List.getElem?_map]
      cases hd:ds[i]? with
      |none=>rw [hd] at e;cases e
      |some d' =>
        rw [hd] at e
        cases e
        obtain⟨v,ev,rv⟩:=r.get hd
        exact⟨v,by rw [ev];rfl,rv⟩
    · rw [List.getElem?_append_right (by rw [List.length_map];exact Nat.le_of_not_lt hi),List.getElem?_replicate] at e
      split at e<;>cases e
theorem zA.cut1 {K:PySem.W.Frag}{ad ad':List Addr}{H:Hp}(k:Nat)(h1:∀ d v,fl k d=true->Rel K ad H d v->Rel K ad' H d v):∀ ds vs,ds.all (fl k)=true->zA K ad H ds vs->zA K ad' H ds vs:=by
 intro ds
 induction ds with
 |nil=>intro vs _ r;cases r;exact .nil
 |cons d ds ih =>
  intro vs hf r
  rw [List.all_cons,Bool.and_eq_true] at hf
  cases r with
  |cons r t=>exact .cons (h1 d _ hf.1 r) (ih _ hf.2 t)
theorem Rel.cut {K:PySem.W.Frag}{ad ad':List Addr}{H:Hp}:∀ (k:Nat) (d:D) (v:V),fl k d=true->Rel K ad H d v->Rel K ad' H d v:=by
 intro k
 induction k with
 |zero =>
  intro d v hf r
  cases r with
  |non=>exact .non
  |bl b=>exact .bl b
  |int i=>exact .int i
  |str x=>exact .str x
  |ty n=>cases hf
  |tup h r=>cases hf
  |rl h r=>cases hf
  |kt h r=>cases hf
  |ref h=>cases hf
  |exn _ _ _=>cases hf
 |succ k ih =>
  intro d v hf r
  cases r with
  |non=>exact .non
  |bl b=>exact .bl b
  |int i=>exact .int i
  |str x=>exact .str x
  |ty n=>cases hf
  |tup h r=>exact .tup h (zA.cut1 k ih _ _ hf r)
  |rl h r=>cases hf
  |kt h r=>cases hf
  |ref h=>cases hf
  |exn _ _ _=>cases hf
theorem zA.cut {K:PySem.W.Frag}{ad ad':List Addr}{H:Hp}(k:Nat)(ds:List D)(vs:List V)(hf:ds.all (fl k)=true)(r:zA K ad H ds vs):zA K ad' H ds vs:=zA.cut1 k (Rel.cut k) ds vs hf r
end Dp
namespace Dp
open PySem PySem.Spec PyProof.Rows L2 My
variable [B:Bs]
mutual
theorem Rel.low {K:PySem.W.Frag}{ad ad':List Addr}{H H':Hp}{m:Nat}(hm:ad.length<=m):∀ {d:D} {u v:V},Rel K ad H d u->Rel K ad' H' d v->Rel K (ad'.take m) H' d v
 |_,_,_,.non,r=>by cases r;exact .non
 |_,_,_,.bl b,r=>by cases r;exact .bl b
 |_,_,_,.int i,r=>by cases r;exact .int i
 |_,_,_,.str x,r=>by cases r;exact .str x
 |_,_,_,.ty n,r=>by cases r;exact .ty n
 |_,_,_,.tup _ t,r=>by
  cases r with
  |tup h t'=>exact .tup h (zA.low hm t t')
 |_,_,_,.rl _ t,r=>by
  cases r with
  |rl h t'=>exact .rl h (zA.low hm t t')
 |_,_,_,.kt _ t,r=>by
  cases r with
  |kt h t'=>exact .kt h (zA.low hm t t')
 |_,_,_,.exn _ _ _,r=>by
  cases r with
  |exn h e n=>exact .exn h e n
 |_,_,_,.ref h,r=>by
  cases r with
  |ref h'=>exact .ref (by rw [List.getElem?_take_of_lt (Nat.lt_of_lt_of_le (My.zaO h) hm)];exact h')
theorem zA.low {K:PySem.W.Frag}{ad ad':List Addr}{H H':Hp}{m:Nat}(hm:ad.length<=m):∀ {ds:List D} {us vs:List V},zA K ad H ds us->zA K ad' H' ds vs->zA K (ad'.take m) H' ds vs
 |_,_,_,.nil,r=>by cases r;exact .nil
 |_,_,_,.cons r t,q=>by
  cases q with
  |cons r' t'=>exact .cons (Rel.low hm r r') (zA.low hm t t')
end
theorem zaH.low {K:PySem.W.Frag}{ad ad':List Addr}{H H':Hp}{m:Nat}(hm:ad.length<=m):∀ {fs:List (Str×D)} {us vs:List (Str×V)},zaH K ad H fs us->zaH K ad' H' fs vs->zaH K (ad'.take m) H' fs vs
 |_,_,_,.nil,r=>by cases r;exact .nil
 |_,_,_,.cons r t,q=>by
  cases q with
  |cons r' t'=>exact .cons (Rel.low hm r r') (zaH.low hm t t')
theorem RelK.low {K:PySem.W.Frag}{ad ad':List Addr}{H H':Hp}{m:Nat}(hm:ad.length<=m):∀ {fs:List (Str×D)} {us vs:List (Key×V)},RelK K ad H fs us->RelK K ad' H' fs vs->RelK K (ad'.take m) H' fs vs
 |_,_,_,.nil,r=>by cases r;exact .nil
 |_,_,_,.cons r t,q=>by
  cases q with
  |cons r' t'=>exact .cons (Rel.low hm r r') (RelK.low hm t t')
theorem zas.low {K:PySem.W.Frag}{ad ad':List Addr}{H H':Hp}{m:Nat}(hm:ad.length<=m):∀ {fs:List (List Key×D)} {us vs:List (List Key×V)},zas K ad H fs us->zas K ad' H' fs vs->zas K (ad'.take m) H' fs vs
 |_,_,_,.nil,r=>by cases r;exact .nil
 |_,_,_,.cons r t,q=>by
  cases q with
  |cons r' t'=>exact .cons (Rel.low hm r r') (zas.low hm t t')
theorem zhB {K:PySem.W.Frag}{ad:List Addr}{H:Hp}{S:Sto}{Q0:DK}{Q:VK}(st:zH K ad H S)(k:KK K ad H Q0 Q):KK K ad H (Fin S Q0) Q:=by
 intro d S' v H' ad' hf w st' r
 rcases hf with q|⟨S1,pre,hlen,hd,hc,q⟩
 ·exact k d S' v H' ad' q w st' r
 have hS:S1.length<=S'.length:=pre.length_le
 have had:ad.length<=S1.length:=by rw [st.len];exact hlen
 have htk:∀ {n:Nat} {a:Addr},(ad'.take S1.length)[n]?=some a->ad'[n]?=some a:=fun {n a} e=>by
  have hn:=My.zaO e
  rw [List.length_take] at hn
  rw [List.getElem?_take_of_lt (by omega)] at e
  exact e
 have w1:Wd ad H (ad'.take S1.length) H':=by
  refine⟨?_,w.keep,w.tup,w.frz,fun b m n=>w.new b (List.mem_of_mem_take m) n⟩
  obtain⟨t,rfl⟩:=w.pre
  rw [List.take_append,List.take_of_length_le had]
  exact List.prefix_append _ _
 refine k d S1 v H' _ q w1 ⟨st.wd.trans w1,by rw [List.length_take,st'.len];omega,st'.nd.sublist (List.take_sublist _ _),fun n a c e1 e2=>?_⟩ ?_
 ·have e1':=htk e1
  have ok:=st'.cell n a c e1' (zif pre e2)
  rcases hc n c e2 with h|h
  ·obtain⟨a0,ea,ok0⟩:=st.get h
   cases c with
   |ins c fs =>
    obtain⟨C,dx,vs,hv,c1,c2,rv,hn⟩:=ok
    obtain⟨_,_,us,_,_,_,ru,_⟩:=ok0
    exact⟨C,dx,vs,hv,c1,c2,zaH.low had ru rv,hn⟩
   |dk kvs =>
    obtain⟨vs,hv,rv⟩:=ok
    obtain⟨us,hu,ru⟩:=ok0
    exact⟨vs,hv,RelK.low had ru rv⟩
   |dt kvs =>
    obtain⟨vs,hv,rv⟩:=ok
    obtain⟨us,hu,ru⟩:=ok0
    exact⟨vs,hv,zas.low had ru rv⟩
   |tab x l c=>exact ok
   |lst xs =>
    obtain⟨vs,hv,rv⟩:=ok
    obtain⟨us,hu,ru⟩:=ok0
    exact⟨vs,hv,zA.low had ru rv⟩
  ·cases c with
   |ins c fs=>cases h
   |dk _=>cases h
   |dt _=>cases h
   |tab _ _ _=>cases h
   |lst xs =>
    obtain⟨vs,hv,rv⟩:=ok
    exact⟨vs,hv,zA.cut 20 _ _ h rv⟩
 ·rcases hd with h|⟨n,rfl,hn⟩
  ·exact Rel.cut 20 _ _ h r
  ·cases r with
   |ref e=>exact .ref (by rw [List.getElem?_take_of_lt hn];exact e)
omit B in
theorem zR {P:Program}{w:World}{K:PySem.W.Frag}{mg:Str->Option Value}{base:Heap}{x qual:Str}{st:Stmt}{f:Addr}{fd:FuncData}{N ps:List Str}{k:Nat}{sp:DSp}{b:DS}(F:Fun K x qual st f fd)(S:zL N ps (zE st))
  (len:∀ ds So Q,sp ds So Q->ds.length=ps.length) (body:BodyOk N.length b sp)
  (term:∀ (cdv:Value) (A:Around) (outer:List Env) (s:Shared) (H:Hp) (E:XK),zaB k (A.deeper (envOfC qual (zE st) s.heap.objs.size f cdv))->∀ [Bs],zeu (zeA CX0 P w K mg base N qual (zE st) f cdv A outer s H E).nox (zaS st) b) :
  zW P w K mg base CX0 (k+1) f fd ps (upF K sp):=by
 with_unfolding_all
  refine F.ok S (fun vs H Q E ⟨ad,So,ds,Q0,so,r,hf,kk⟩=>by rw [<- r.length];exact len ds So Q0 hf) fun cdv A outer s H vs Q E hr ⟨ad,So,ds,Q0,so,r,hf,kk⟩=>?_
  letI:Bs:=⟨ad,H⟩
  refine⟨_,term cdv A outer s H E hr,ad,zdy N.length ds,So,_,so,zka N r,body ds So Q0 hf,⟨fun ρ S' σ H' ad' q w' st' rh=>zhB so kk .non S' .non H' ad' q w' st' .non,zhB so kk,fun _ _ _ _ _ q=>q.elim,fun _ _ _ _ _ q=>q.elim⟩⟩
omit B in
theorem zqV {K:PySem.W.Frag}{H:Hp}{a:Addr}{ns:List Int}(hl:ns.length<=63)(hg:∀ n∈ns,Hg n)(hO:Only H)(hS:SqL K H a (ns.map V.int)):upF K zdY [.ref a] H (fun v _=>v=.bl true) fun _ _ _=>False:=by
 have hr:zgM K H a (ns.map V.int):=by
  rcases hS with (h|h)|h
  ·rcases hO a with e|⟨o,xs,e⟩
   ·rw [h] at e;cases e
   ·rw [h] at e;cases e
  ·exact .inl h
  ·exact .inr h
 refine⟨[],[],[.rl (ns.map D.int)],fun d _=>d=.bl true,@zH.mk ⟨[],H⟩ _ _ _ _ Wd.refl rfl List.nodup_nil (fun n a c e=>by simp at e),.cons (.rl hr (zA.mk_ints ns)) .nil,⟨ns,rfl,⟨rfl,hg⟩,hl,fun _=>rfl⟩,fun d S' v H' ad' q w st' r=>?_⟩
 have q':d=.bl true:=q
 subst q'
 cases r
 rfl
omit B in
theorem zkB:∀ {ns:List Int} {n:Int},n∈ns->PySem.W.WData.weight (.int n)<=PySem.W.WData.weightAll (ns.map PySem.W.WData.int)
 |m::ns,n,h=>by
  rw [List.map_cons,PySem.W.WData.weightAll]
  rcases List.mem_cons.mp h with rfl|h
  ·omega
  ·have:=zkB h;omega
omit B in
theorem znx {l:PySem.W.OpenLaw}{n k:Nat}{q:Program}{loose:List Str}{XP:(Str->Option Value)->Heap->Prop}{YP:World->Heap->Prop}{d:DefRec}{K:Params->PySem.W.Frag}{sp:World->Sp}{x:Str}
  (hn:l.most=some n) (hn2:n<=sizeLine) (hdf:d.params.defaults=[]) (hr:zaB k callerA) (hY:∀ (w:World) (h:Heap),YP w h->(K w.params).In h)
  (F:∀ (w:World) (mg:Str->Option Value) (fa:Addr) (h:Heap),(K w.params).In h->h.Ns mainGlobals mg->mg d.name=some (.ref fa) ->
   ∃ fd:FuncData,(∀ (s:Shared) (u:Value),BindsTo s fd ⟨[u],[]⟩ [(x,u)])/\∀ base:Heap,(K w.params).In base->base.Ns mainGlobals mg->zW l.prog w (K w.params) mg base CX0 k fa fd [x] (sp w))
  (hsp:∀ (w:World) (H:Hp) (a:Addr) (ns:List Int),ns.length<=n->(∀ m∈ns,Hg m)->Only H->SqL (K w.params) H a (ns.map V.int)->sp w [.ref a] H (fun v _=>v=.bl true) fun _ _ _=>False) :
  PySem.W.WalkO q loose XP YP l.row.toRowW d [] (fun f vs=>PySem.call f vs):=by
 intro w s₀ s₁ mg mb G Y fa o pm cd doc dV kV ho hd hcd hD hmg hg args vals as hpre hlay hrd hwl hlo
 obtain rfl:dV=.none:=PySem.W.Dflts.none hD hdf
 obtain rfl:kV=.none:=PySem.W.Dflts.noKw hD
 obtain⟨a,vs,ns,rfl,rfl,hobj,hints,hlen⟩:=Att.zmr hn hpre hwl
 have hbits:∀ m∈ns,Hg m:=fun m hm=>by
  have h1:PySem.W.WData.layable (.list (ns.map .int))=true:=by simpa [PySem.W.WData.layableAll] using hlay
  have h2:PySem.W.WData.weight (.list (ns.map PySem.W.WData.int))<=2 ^ 20:=by
   unfold PySem.W.WData.layable at h1
   rw [Bool.and_eq_true,decide_eq_true_eq] at h1
   exact h1.2
  have h3:=Nat.le_trans (zkB hm) (by simpa only [PySem.W.WData.weight] using h2)
  exact zph (by simpa only [PySem.W.WData.weight,Builtin.Int.intBits] using h3)
 have KX:=hY w _ Y
 obtain⟨fd,hb,hF⟩:=F w mg fa _ KX G.T.g hmg
 refine PySem.W.enter_call (codeAny_mono (znA KX G.T.g G.T.b G.T.builtins G.T.nolimit hg hobj hints (Nat.le_trans hlen hn2) hr hF hb (fun H hO hS=>hsp w H a ns hlen hbits hO hS) fun _ _ _ z=>z) fun r s' hq=>?_)
 obtain⟨rfl,h2,h3,h4⟩:=hq
 exact⟨.inl ⟨.bool true,.bool true,[],rfl,fun _=>rfl,.bool true,Att.zmR l _,fun _=>⟨List.Pairwise.nil,fun _ hm=>(nomatch hm)⟩⟩,h2,h3,h4⟩
omit B in
theorem zom {us:List Value}(hl:us.length=1):∃ a0,us=[a0]:=by
  cases us with
  |nil=>simp at hl
  |cons a0 us =>
  cases us with
  |nil=>exact⟨a0,rfl⟩
  |cons b us=>simp at hl
omit B in
theorem zlx {us:List Value}(hl:us.length=2):∃ a0 a1,us=[a0,a1]:=by
  cases us with
  |nil=>simp at hl
  |cons a0 us =>
  cases us with
  |nil=>simp at hl
  |cons a1 us =>
  cases us with
  |nil=>exact⟨a0,a1,rfl⟩
  |cons b us=>simp at hl
omit B in
theorem zoy {us:List Value}(hl:us.length=3):∃ a0 a1 a2,us=[a0,a1,a2]:=by
  cases us with
  |nil=>simp at hl
  |cons a0 us =>
  cases us with
  |nil=>simp at hl
  |cons a1 us =>
  cases us with
  |nil=>simp at hl
  |cons a2 us =>
  cases us with
  |nil=>exact⟨a0,a1,a2,rfl⟩
  |cons b us=>simp at hl
omit B in
theorem zol {us:List Value}(hl:us.length=4):∃ a0 a1 a2 a3,us=[a0,a1,a2,a3]:=by
  cases us with
  |nil=>simp at hl
  |cons a0 us =>
  cases us with
  |nil=>simp at hl
  |cons a1 us =>
  cases us with
  |nil=>simp at hl
  |cons a2 us =>
  cases us with
  |nil=>simp at hl
  |cons a3 us =>
  cases us with
  |nil=>exact⟨a0,a1,a2,a3,rfl⟩
  |cons b us=>simp at hl
omit B in
theorem zos {us:List Value}(hl:us.length=5):∃ a0 a1 a2 a3 a4,us=[a0,a1,a2,a3,a4]:=by
  cases us with
  |nil=>simp at hl
  |cons a0 us =>
  cases us with
  |nil=>simp at hl
  |cons a1 us =>
  cases us with
  |nil=>simp at hl
  |cons a2 us =>
  cases us with
  |nil=>simp at hl
  |cons a3 us =>
  cases us with
  |nil=>simp at hl
  |cons a4 us =>
  cases us with
  |nil=>exact⟨a0,a1,a2,a3,a4,rfl⟩
  |cons b us=>simp at hl
omit B in
theorem zsZ {us:List Value}(hl:us.length=8):∃ a0 a1 a2 a3 a4 a5 a6 a7,us=[a0,a1,a2,a3,a4,a5,a6,a7]:=by
  cases us with
  |nil=>simp at hl
  |cons a0 us =>
  cases us with
  |nil=>simp at hl
  |cons a1 us =>
  cases us with
  |nil=>simp at hl
  |cons a2 us =>
  cases us with
  |nil=>simp at hl
  |cons a3 us =>
  cases us with
  |nil=>simp at hl
  |cons a4 us =>
  cases us with
  |nil=>simp at hl
  |cons a5 us =>
  cases us with
  |nil=>simp at hl
  |cons a6 us =>
  cases us with
  |nil=>simp at hl
  |cons a7 us =>
  cases us with
  |nil=>exact⟨a0,a1,a2,a3,a4,a5,a6,a7,rfl⟩
  |cons b us=>simp at hl
end Dp
namespace Dp
open PySem PySem.Spec PyProof.Rows L2 My
variable [B:Bs]
section
variable {X:Cx}
end
section
variable {X:Cx}{a b:Expr}{ta tb:DE}{pos:Pos}
theorem zjy (x:D)(hx:fl 20 x=true):∀ ys:List D,ys.all (fl 20)=true->((zar ys).any fun z=>PyData.eqv z (pyD x))=ys.any fun z=>eqv z x
 |[],_=>rfl
 |y::ys,h=>by
  rw [List.all_cons,Bool.and_eq_true] at h
  show (PyData.eqv (pyD y) (pyD x)||(zar ys).any fun z=>PyData.eqv z (pyD x))=_
  rw [zjC 20 y x h.1 hx,zjy x hx ys h.2]
  rfl
def ztJ (X:Cx)(g:Bool->Bool):R2:=fun x y H Q=>∃ ad S dx dy b,zH X.K ad H S/\Rel X.K ad H dx x/\Rel X.K ad H dy y/\InD S dx dy b/\Q (.bl (g b)) H
theorem zmx {pins:List (Addr×Obj)}{σ:L2.St}{H:Hp}{s:Shared}{ad:List Addr}{S:Sto}{dx dy:D}{x y:V}{v u:Value}{b:Bool}(I:Inv X pins σ H s)(st:zH X.K ad H S)(rx:Rel X.K ad H dx x)(ry:Rel X.K ad H dy y)(qx:RelV x v)(qy:RelV y u)(h:InD S dx dy b) :
  ∃ pd ps as bs,Reads s.heap v pd as/\(Reads s.heap u (.list ps) bs\/Reads s.heap u (.tuple ps) bs)/\pd.canLay0=true/\PyData.canLayAll0 ps=true/\min (PyData.depthAll ps) pd.depth<=60/\(ps.any fun z=>PyData.eqv z pd)=b:=by
 obtain⟨ys,hy,fx,fy,rfl⟩:=h
 obtain⟨as,ra⟩:=zch I 20 dx x v fx rx qx
 obtain⟨c1,d1⟩:=zfi 20 dx fx
 obtain⟨c2,d2⟩:=zdk 20 ys fy
 rcases hy with rfl|hy
 ·obtain⟨bs,rb⟩:=zch I 21 (.tup ys) y u fy ry qy
  exact⟨pyD dx,zar ys,as,bs,ra,.inr rb,c1,c2,by omega,zjy dx fx ys fy⟩
 ·obtain⟨a2,vs2,rfl,s2,r2⟩:=hy.sq st ry
  cases qy
  obtain⟨its2,rv2,ht2,hz2⟩:=I.list s2
  obtain⟨o2,ho2,hc2,n2,hd2⟩:=ht2.isList
  obtain⟨bs,rb⟩:=zd2 I 20 (zch I 20) _ _ _ fy r2 rv2
  exact⟨pyD dx,zar ys,as,_,ra,.inl (.list ho2 hc2 hd2 (by simpa using rb)),c1,c2,by omega,zjy dx fx ys fy⟩
theorem zlH {k:Nat}(hr:zaB k X.A):OC X .In oIn:=⟨_,(OpR.or (r:=ztJ X id) (fun pins s σ H x y v u Q I qx qy ⟨ad,S,dx,dy,b,st,rx,ry,h,q⟩=>by
  obtain⟨pd,ps,as,bs,ra,rb,c1,c2,hd,e⟩:=zmx I st rx ry qx qy h
  have hu:=hr.units
  rcases rb with rb|rb
  ·exact PySem.SeqAt.in_list_reads rb ra c2 c1 (by omega) ⟨.bl _,H,I,by rw [e];rfl,q⟩
  ·exact PySem.SeqAt.in_tuple_reads rb ra c2 c1 (by omega) ⟨.bl _,H,I,by rw [e];rfl,q⟩) zmt),
 fun ad H S x y v u Q0 Q st rx ry h k=>by
  rcases h with ⟨b,h,q⟩|⟨c,z,rfl,rfl,q⟩
  ·exact .inl ⟨ad,S,x,y,b,st,rx,ry,h,k _ S _ H ad q Wd.refl st (.bl _)⟩
  ·cases rx
   cases ry
   exact .inr ⟨_,z,rfl,rfl,by rw [PySem.StrLaws.found_one];exact k _ S _ H ad q Wd.refl st (.bl _)⟩⟩
theorem zlc {op:CmpOp}{r':DR2}(o:OC X op r')(ha:PD X a ta)(hb:PD X b tb)(hm:behindInMarks op b=false:=by with_unfolding_all rfl):PD X (.Compare a [op] [b] pos) (dOp r' ta tb):=by
 with_unfolding_all
  obtain⟨r,ho,od⟩:=o
  exact zau (zk4 ho ha hb hm) fun _ _ _=>zgd od
theorem zpa {op:CmpOp}{r':DR2}(o:OC X op r')(ha:PD X a ta)(hb:PD X b tb)(hm:behindInMarks op b=false:=by with_unfolding_all rfl):PTD X (.Compare a [op] [b] pos) (dT (dOp r' ta tb)):=by
 with_unfolding_all
  obtain⟨r,ho,od⟩:=o
  refine zgq (zk7 ho ha hb hm) fun σ H Q hh=>el8 hh fun ad ρ S Q0 st rh q k=>?_
  refine zgd (Q:=fun x H'=>∃ k,x=.bl k/\Q k H') od ⟨ad,ρ,S,_,st,rh,q,fun d S' v H' ad' ⟨b,e,q'⟩ w st' r=>?_⟩
  subst e
  cases r
  exact⟨b,rfl,k b S' H' ad' q' w st'⟩
end
section
variable {X:Cx}
end
section
variable {X:Cx}{e:Expr}{pos p2 p3:Pos}{lo:Option Expr}
end
theorem zkc {K:PySem.W.Frag}{ad:List Addr}{H:Hp}:∀ {zs:List Str} {vs:List V},zA K ad H (zs.map D.str) vs->vs=zs.map V.str
 |[],_,.nil=>rfl
 |z::zs,_,.cons r t=>by cases r;rw [zkc t];rfl
theorem zpt {X:Cx}{a:Expr}{t:DA}{p1 p2 pos1 pos2:Pos}(hgl:Gl X "len")(hml:X.mg "len"=none)(hgr:Gl X "set")(hmr:X.mg "set"=none)(ha:PAD X [a] t)(hc:X.calm=true:=by rfl)
  (hs:starEach [a] X.env=[(false,eval a X.env)]:=by exact zcj rfl)
  (hs3:starEach [.Call (.Name "set" p2) [a] [] pos2] X.env=[(false,eval (.Call (.Name "set" p2) [a] [] pos2) X.env)]:=by rfl) :
  PD X (.Call (.Name "len" p1) [.Call (.Name "set" p2) [a] [] pos2] [] pos1) (dB zlw t):=by with_unfolding_all exact (zau (zpU hc hgl hml hgr hmr ha hs hs3) fun σ H Q hh=>el8 hh fun ad ρ S Q0 st rh q k =>
  ⟨ad,ρ,S,_,st,rh,q,fun ds S1 vs H1 ad1 ⟨x,zs,ed,hx,hl,q1⟩ w1 st1 r1=>by
   subst ed
   obtain⟨v,rfl,rv⟩:=zc9 r1
   obtain⟨a1,ws,rfl,hs,rs⟩:=hx.sq st1 rv
   cases zkc rs
   exact⟨a1,zs,rfl,hs,hl,k _ S1 _ H1 ad1 q1 w1 st1 (.int _)⟩⟩)
section
variable {X:Cx}{e:Expr}{t:DA}{p pos kp cp:Pos}{j:Nat}
end
section
variable {X:Cx}{e o value:Expr}{te to tv:DE}{f c:Str}{pos pos':Pos}
theorem zah (he:PD X e te)(hb:attributeBase e f X.env (eval e X.env)=eval e X.env):PD X (.Attribute e f pos) (zaL f te):=by with_unfolding_all exact (zau (zqn he hb) fun σ H Q hh=>el8 hh fun ad ρ S Q0 st rh q k =>
  ⟨ad,ρ,S,_,st,rh,q,fun x S1 v H1 ad1 ⟨n,c,fs,d,ex,hn,hl,q1⟩ w1 st1 r1=>by
   subst ex
   cases r1 with
   |ref en =>
    obtain⟨C,dx,vs,h1,hc,hns,rf,hna⟩:=st1.cell n _ _ en hn
    obtain⟨v,hv,rv⟩:=rf.look hl
    obtain⟨q2,hq2,e2⟩:=zky hl
    exact⟨_,C,dx,vs,v,rfl,h1,hc,e2▸hna q2 hq2,hv,k d S1 v H1 ad1 q1 w1 st1 rv⟩⟩)
theorem zcI (hna:∀ C,PySem.W.nsIn X.K mainGlobals c=some (some (.ref C))->zal X.K C f)(ho:PD X o to)(hv:PD X value tv)(hs:swapsWith value (some (.Attribute o f pos')) pos.line X.env=pure false:=by rfl) :
  PSD X (.Assign [.Attribute o f pos'] value pos) (zdl c f to tv):=by with_unfolding_all exact (zbj (zra ho hv hs) fun E σ H hh=>el8 hh fun ad ρ S E0 so rh q k =>
 ⟨ad,ρ,S,_,so,rh,q,fun y S1 vy H1 ad1 q1 w1 st1 r1=>⟨ad1,ρ,S1,_,st1,rh.wd w1,q1,fun x S2 vx H2 ad2 ⟨n,fs,ex,hn,hl,q2⟩ w2 st2 r2=>by
  subst ex
  cases r2 with
  |ref en =>
   obtain⟨C,dx,vs,h1,hc,hns,rf,hna'⟩:=st2.cell n _ _ en hn
   have w3:Wd ad2 H2 ad2 (upd H2 _ (.ins C dx (zbJ f vy vs))):=Wd.putI en h1
   exact⟨_,C,dx,vs,rfl,h1,hc,hna C hns,by rw [<- rf.length];omega,k.nx ρ _ σ _ ad2 q2 ((w1.trans w2).trans w3) (st2.putI en h1 hc hns rf hna' (hna C hns) (r1.wd w2)) (((rh.wd w1).wd w2).wd w3)⟩⟩⟩)
omit B in
theorem zls {K:PySem.W.Frag}{C:Addr}{c:Str}{init:DSp}(hc:Cls K C)(hn:PySem.W.nsIn K mainGlobals c=some (some (.ref C))):∀ vs H Q,upF K (zlW c init) vs H Q E0->∀ x dx,H x=none->H dx=none->dx≠x ->
  upF K init (.ref x::vs) (upd (upd H dx (.own x)) x (.ins C dx [])) (fun v H2=>v=.non/\Q (.ref x) H2) E0:=by
 rintro vs H Q ⟨ad,S,ds,Q0,st,r,hf,k⟩ x dx hx hdx hne
 letI:Bs:=⟨ad,H⟩
 obtain⟨w,st'⟩:=st.newI (c:=c) hx hdx hne hc hn
 have rx:Rel K (ad++[x]) (upd (upd H dx (.own x)) x (.ins C dx [])) (.ref S.length) (.ref x):=.ref (by rw [<- st.len,List.getElem?_append_right (Nat.le_refl _),Nat.sub_self];rfl)
 have hf':init (.ref S.length::ds) (S++[.ins c []]) (fun d S2=>d=.non/\Q0 (.ref S.length) S2):=hf
 refine⟨ad++[x],S++[.ins c []],.ref S.length::ds,_,st'.base,.cons rx (r.wd w),hf',fun d S' v H' ad' q w' st2 rv=>?_⟩
 obtain⟨rfl,q⟩:=q
 cases rv
 exact⟨rfl,k _ S' _ H' ad' q (w.trans w') (st'.back st2) (rx.wd w')⟩
theorem zku {k j:Nat}{x:Str}{e:Expr}{es:List Expr}{t:DA}{p:Pos}{f:DSp}(G:zh8 X.prog X.w X.K X.mg X.base k x (upF X.K f))(hr:zaB j X.A)
  (ha:PAD X (e::es) t) (hk:k+1<=j:=by decide) (hg:Gl X x:=by rfl) (hdb:(x==("__debug__":Str))=false:=by decide) (he:starEach (e::es) X.env=(false,eval e X.env)::starEach es X.env:=by exact zbf rfl) (hpl:(backTo pos (starEach es X.env)).any (·.1)=false:=by exact zcG rfl) :
  PD X (.Call (.Name x p) (e::es) [] pos) (dCall f t):=by with_unfolding_all exact (zau (zsr G hr hk hg ha hdb he hpl) fun σ H Q hh=>el8 hh fun ad ρ S Q0 st rh q k =>
 ⟨ad,ρ,S,_,st,rh,q,fun ds S1 vs H1 ad1 q1 w1 st1 r1=>by
  show upF X.K f (vs++[]) H1 Q E0
  rw [List.append_nil];exact⟨ad1,S1,ds,Q0,st1.base,r1,q1,(k.wd w1).base st1⟩⟩)
end
end Dp
namespace Dp
open PySem PySem.Spec PyProof.Rows L2 My
def Fly (h0 h:Heap)(e:Addr)(cls:Value)(H:Hp):Prop:=h0.get? e=none/\H e=none/\∃ (a0:Value) (oe:Obj) (vs:Array Value) (T:Addr) (oT:Obj) (ts:Array Value),h.get? e=some oe/\(oe.cls=cls/\vs[0]?=some a0)/\oe.data=.fields vs/\vs[1]?=some (.ref T)/\h0.get? T=none/\T≠e/\h.get? T=some oT/\oT.data=.fields ts/\ts[3]?=some .none/\H T=none
def CXd (P:Program)(w:World):CXT:=fun outer H s E e s'=>∃ (a C:Addr) (H':Hp),e=.ref a/\s'.os=s.os/\AllBare s'.gens/\Un (frs outer) [] H H' s.heap s'.heap/\HOk P w H' s'.heap/\Fly s.heap s'.heap a (.ref C) H'/\E (.ref C) none H'
def zcV (h:Heap)(p:Addr->Bool):Heap:={ h with objs:=h.objs.mapIdx fun i o=>if p i=true then o else { cls:=.none,data:=.freed } }
theorem zd6 (h:Heap)(p:Addr->Bool)(b:Addr):(zcV h p).get? b=if p b=true then h.get? b else none:=by
  unfold zcV Heap.get?
  dsimp only
  rw [Array.getElem?_mapIdx]
  cases h.objs[b]? with
  |none=>cases p b<;>rfl
  |some o=>cases p b<;>rfl
theorem zg6 (h:Heap)(p:Addr->Bool):(zcV h p).StaysIn h:=fun b o e=>by
 rw [zd6] at e
 split at e
 ·exact e
 ·cases e
theorem zh4 {h base base':Heap}:∀ {l:List Env},h.FunFrames base l->(∀ L∈frs l,base'.get? L=none)->h.FunFrames base' l
 |[],_,_=>True.intro
 |env::l,⟨h1,⟨L,o,h2,h3,h4,h5⟩,h6⟩,hb=>⟨h1,⟨L,o,h2,hb L (List.mem_filterMap.mpr ⟨env,by simp,h2⟩),h4,h5⟩,zh4 h6 fun L' hL=>hb L' (by
   obtain⟨e',he,e2⟩:=List.mem_filterMap.mp hL
   exact List.mem_filterMap.mpr ⟨e',List.mem_cons_of_mem _ he,e2⟩)⟩
section
variable {X:Cx}{pins:List (Addr×Obj)}{σ:L2.St}{H:Hp}{s:Shared}
theorem zmg (I:Inv X pins σ H s)(hex:X.ex=[]){b:Addr}{o:Obj}(e:X.s₀.heap.get? b=some o):∃ o',s.heap.get? b=some o':=I.base.there b o e (by rw [hex];simp)
theorem zdE (I:Inv X pins σ H s)(hex:X.ex=[]){b:Addr}(e:s.heap.get? b=none):X.s₀.heap.get? b=none:=by
 cases q:X.s₀.heap.get? b with
 |none=>rfl
 |some o=>obtain⟨o',h⟩:=zmg I hex q;rw [e] at h;cases h
theorem zgW (I:Inv X pins σ H s){b:Addr}(e:s.heap.get? b=none):H b=none:=by
 cases q:H b with
 |none=>rfl
 |some o =>
  have:=(I.hok b o q).lt
  exfalso
  cases o with
  |lst xs=>obtain⟨_,_,_,_,h⟩:=I.hok b _ q;rw [e] at h;cases h
  |tup xs=>obtain⟨_,_,_,ob,h,_⟩:=I.hok b _ q;rw [e] at h;cases h
  |dK kvs=>obtain⟨_,_,_,_,ob,_,_,h,_⟩:=I.hok b _ q;rw [e] at h;cases h
  |dT kvs=>obtain⟨_,_,_,_,ob,_,_,h,_⟩:=I.hok b _ q;rw [e] at h;cases h
  |set S n=>obtain⟨ob,_,_,_,h,_⟩:=I.hok b _ q;rw [e] at h;cases h
  |ins C dx fs=>obtain⟨_,_,_,h,_⟩:=I.hok b _ q;rw [e] at h;cases h
  |own y=>obtain⟨_,h⟩:=I.hok b _ q;rw [e] at h;cases h
  |xd fs=>obtain⟨_,⟨_,_,_,h,_⟩,_⟩:=I.hok b _ q;rw [e] at h;cases h
  |rng lo hi=>obtain⟨_,_,_,h⟩:=I.hok b _ q;rw [e] at h;cases h
  |frz ob u=>obtain⟨h,_⟩:=I.hok b _ q;rw [e] at h;cases h
  |tbl ps=>have h:s.heap.get? b=some _:=I.hok b _ q;rw [e] at h;cases h
  |met f y=>have h:s.heap.get? b=some _:=I.hok b _ q;rw [e] at h;cases h
  |ext φ=>obtain⟨_,⟨_,h⟩,_⟩:=I.hok b _ q;rw [e] at h;cases h
theorem zit (I:Inv X pins σ H s)(hex:X.ex=[])(hst:X.stack=X.env::X.outer)(hfr:X.env.frame=some X.env.locals){e T0:Addr}{h':Heap}(he:X.s₀.heap.get? e=none)(hT:X.s₀.heap.get? T0=none)(He:H e=none)(HT:H T0=none)
  (hk:∀ b o,s.heap.get? b=some o->b≠e->b≠T0->b∉frs X.stack->h'.get? b=some o) (hs:∀ b∈frs X.stack,∀ o,s.heap.get? b=some o->∃ sl,h'.get? b=some { o with slots:=sl }) :
  Un X.fs [] X.H₀ H X.s₀.heap h'/\HOk X.prog X.w H h':=by
 have nfr:∀ {b:Addr} {o:Obj},X.s₀.heap.get? b=some o->b∉X.fs->b∉frs X.stack:=fun {b o} q n m=>by
  rw [hst] at m
  obtain⟨e',h1,h2⟩:=List.mem_filterMap.mp m
  rcases List.mem_cons.mp h1 with rfl|h1
  ·rw [hfr] at h2
   cases h2
   exact absurd (Heap.lt_size q) (Nat.not_lt.mpr I.ok.above)
  ·exact n (List.mem_filterMap.mpr ⟨e',h1,h2⟩)
 have sub:∀ {b:Addr},b∈X.fs->b∈frs X.stack:=fun {b} m=>by
  obtain⟨e',h1,h2⟩:=List.mem_filterMap.mp m
  rw [hst]
  exact List.mem_filterMap.mpr ⟨e',List.mem_cons_of_mem _ h1,h2⟩
 have nex:∀ b:Addr,b∉X.ex:=fun b=>by rw [hex];simp
 have ne:∀ {b:Addr} {o:Obj},X.s₀.heap.get? b=some o->b≠e/\b≠T0:=fun {b o} q=>⟨fun z=>(by rw [z,he] at q;cases q),fun z=>(by rw [z,hT] at q;cases q)⟩
 have ub:=I.base
 refine⟨⟨fun b o q n m _=>?_,fun b o q n m _=>?_,fun b o q n _=>ub.free b o q n (nex b),fun b o q _=>?_,ub.tups,ub.frzs,ub.tbls⟩,fun a o q=>?_⟩
 ·exact hk b o (ub.keep b o q n m (nex b)) (ne q).1 (ne q).2 (nfr q m)
 ·obtain⟨sl,h1⟩:=ub.slot b o q n m (nex b)
  obtain⟨sl',h2⟩:=hs b (sub m) _ h1
  exact⟨sl',h2⟩
 ·obtain⟨o',h1⟩:=ub.there b o q (nex b)
  by_cases m:b∈frs X.stack
  ·obtain⟨sl,h2⟩:=hs b m o' h1
   exact⟨_,h2⟩
  ·exact⟨o',hk b o' h1 (ne q).1 (ne q).2 m⟩
 ·have inn:∀ {b:Addr},H b≠none->b≠e/\b≠T0/\b∉frs X.stack:=fun {b} n=>⟨fun z=>n (by rw [z];exact He),fun z=>n (by rw [z];exact HT),fun z=>n (I.stkFree b z)⟩
  refine (I.hok a o q).stay (fun b u hb r=>?_) (fun _ r=>r) fun _ _ r=>r
  have n:H b≠none:=by
   rcases hb with rfl|hb
   ·rw [q];exact Option.some_ne_none _
   ·rw [hb];exact Option.some_ne_none _
  obtain⟨n1,n2,n3⟩:=inn n
  exact hk b u r n1 n2 n3
theorem zmp (I:Inv X pins σ H s)(hex:X.ex=[])(hst:X.stack=X.env::X.outer)(hfr:X.env.frame=some X.env.locals){e C:Addr}{E:Value->Shared->Prop}{Q:Unit->Shared->Prop}(F:Fly X.s₀.heap s.heap e (.ref C) H)
  (hQ:∀ s':Shared,s'.os=X.s₀.os->AllBare s'.gens->Un X.fs [] X.H₀ H X.s₀.heap s'.heap->HOk X.prog X.w H s'.heap->Fly X.s₀.heap s'.heap e (.ref C) H->Q () s'):wpAny (model X.prog X.w) X.A (leaving X.env (.ref e)) Q E s:=by
 obtain⟨he,He,a0,oe,vs,T,oT,ts,f1,f2,f3,f4,f5,f6,f7,f8,f9,HT⟩:=F
 have ff:s.heap.FunFrames X.base X.stack:=I.stack
 obtain⟨p,hp⟩:∃ p:Addr->Bool,∀ b,p b=true↔b≠e/\b≠T/\b∉frs X.stack:=⟨fun b=>decide (b≠e/\b≠T/\b∉frs X.stack),fun b=>decide_eq_true_iff⟩
 have mno:∀ {b:Addr},¬ (b≠e/\b≠T/\b∉frs X.stack)->(zcV s.heap p).get? b=none:=fun {b} n=>by
  rw [zd6,if_neg (fun z=>n ((hp b).mp z))]
 have myes:∀ {b:Addr} {o:Obj},s.heap.get? b=some o->b≠e->b≠T->b∉frs X.stack->(zcV s.heap p).get? b=some o:=fun {b o} q n1 n2 n3=>by
  rw [zd6,if_pos ((hp b).mpr ⟨n1,n2,n3⟩)];exact q
 have fb:s.heap.FunFrames (zcV s.heap p) X.stack:=zh4 ff fun L hL=>mno fun z=>z.2.2 hL
 have fl:Heap.FlyingW (zcV s.heap p) X.stack e (.ref C) a0 s.heap:=⟨zg6 _ _,mno fun z=>z.1 rfl,fb,oe,vs,T,oT,ts,f1,f2,f3,f4,mno fun z=>z.2.1 rfl,f6,f7,f8,f9⟩
 have fr:=I.ok.frames
 rw [hst] at fr
 rw [hst] at fl
 refine wpAny_leaves_onW fr hfr fl fun h' ⟨k1,k2,k3,oe',vs',T',oT',ts',g1,g2,g3,g4,g5,g6,g7,g8,g9⟩ us=>?_
 have hs:∀ b∈frs X.stack,∀ o,s.heap.get? b=some o->∃ sl,h'.get? b=some { o with slots:=sl }:=fun b hb o q=>by
  obtain⟨_,o',h1,h2⟩:=ff.mem hb
  rw [q] at h1;cases h1
  exact us b o q h2
 have hk:∀ b o,s.heap.get? b=some o->b≠e->b≠T->b∉frs X.stack->h'.get? b=some o:=fun b o q n1 n2 n3=>k1 b o (myes q n1 n2 n3)
 obtain⟨u1,u2⟩:=zit I hex hst hfr he f5 He HT hk hs
 have nT:X.s₀.heap.get? T'=none/\H T'=none:=by
  by_cases z1:T'=T
  ·rw [z1];exact⟨f5,HT⟩
  ·by_cases z2:T'∈frs X.stack
   ·exfalso
    obtain⟨_,o',h1,h2⟩:=ff.mem z2
    obtain⟨sl,h3⟩:=hs T' z2 o' h1
    rw [g7] at h3;cases h3
    exact h2 ts' g8
   ·have:s.heap.get? T'=none:=by
     cases q:s.heap.get? T' with
     |none=>rfl
     |some o=>rw [myes q g6 z1 z2] at g5;cases g5
    exact⟨zdE I hex this,zgW I this⟩
 exact hQ _ I.os I.bare u1 u2 ⟨he,He,a0,oe',vs',T',oT',ts',g1,g2,g3,g4,nT.1,g6,g7,g8,g9,nT.2⟩
theorem zlB (I:Inv X pins σ H s)(hex:X.ex=[])(hst:X.stack=X.env::X.outer)(hfr:X.env.frame=some X.env.locals){e C:Addr}{args:List Value}{h1:Heap}{E:Value->Shared->Prop}{Q:Unit->Shared->Prop}(hx:s.heap.MadeExcOf h1 e (.ref C) args)
  (hQ:∀ s':Shared,s'.os=X.s₀.os->AllBare s'.gens->Un X.fs [] X.H₀ H X.s₀.heap s'.heap->HOk X.prog X.w H s'.heap->Fly X.s₀.heap s'.heap e (.ref C) H->Q () s'):wpAny (model X.prog X.w) X.A (leaving X.env (.ref e)) Q E { s with heap:=h1 }:=by
 have ff:s.heap.FunFrames X.base X.stack:=I.stack
 obtain⟨p,hp⟩:∃ p:Addr->Bool,∀ b,p b=true↔b∉frs X.stack:=⟨fun b=>decide (b∉frs X.stack),fun b=>decide_eq_true_iff⟩
 have mno:∀ {b:Addr},b∈frs X.stack->(zcV s.heap p).get? b=none:=fun {b} n=>by
  rw [zd6,if_neg (fun z=>(hp b).mp z n)]
 have myes:∀ {b:Addr} {o:Obj},s.heap.get? b=some o->b∉frs X.stack->(zcV s.heap p).get? b=some o:=fun {b o} q n3=>by
  rw [zd6,if_pos ((hp b).mpr n3)];exact q
 have fb:s.heap.FunFrames (zcV s.heap p) X.stack:=zh4 ff fun L hL=>mno hL
 have fr:=I.ok.frames
 rw [hst] at fr
 rw [hst] at fb
 refine wpAny_leaves_madeW (base:=zcV s.heap p) (h:=s.heap) fr hfr (zg6 _ _) fb hx fun h' t ⟨k1,k2,k3,oe',vs',T',oT',ts',g1,g2,g3,g4,g5,g6,g7,g8,g9⟩ _ _ us=>?_
 have us':s.heap.UpToSlots h':=fun b o q n=>us b o (hx.keeps b o q) n
 have hs:∀ b∈frs X.stack,∀ o,s.heap.get? b=some o->∃ sl,h'.get? b=some { o with slots:=sl }:=fun b hb o q=>by
  obtain⟨_,o',h1,h2⟩:=ff.mem hb
  rw [q] at h1;cases h1
  exact us' b o q h2
 have hk:∀ b o,s.heap.get? b=some o->b≠e->b≠e->b∉frs X.stack->h'.get? b=some o:=fun b o q _ _ n3=>k1 b o (myes q n3)
 have he:=zdE I hex hx.new
 have He:=zgW I hx.new
 obtain⟨u1,u2⟩:=zit I hex hst hfr he he He He hk hs
 have nT:X.s₀.heap.get? T'=none/\H T'=none:=by
  by_cases z2:T'∈frs X.stack
  ·exfalso
   obtain⟨_,o',h1,h2⟩:=ff.mem z2
   obtain⟨sl,h3⟩:=hs T' z2 o' h1
   rw [g7] at h3;cases h3
   exact h2 ts' g8
  ·have:s.heap.get? T'=none:=by
    cases q:s.heap.get? T' with
    |none=>rfl
    |some o=>rw [myes q z2] at g5;cases g5
   exact⟨zdE I hex this,zgW I this⟩
 exact hQ _ I.os I.bare u1 u2 ⟨he,He,_,oe',vs',T',oT',ts',g1,g2,g3,g4,nT.1,g6,g7,g8,g9,nT.2⟩
end
def zgS (K:PySem.W.Frag)(f:zfO):Sp:=fun vs H Q E=>∃ ad S ds Q0 X0,@zH ⟨ad,H⟩ K ad H S/\zA K ad H ds vs/\f ds S Q0 X0/\@KK ⟨ad,H⟩ K ad H Q0 Q /\
 ∀ (c:Str) (C:Addr) (S':Sto) (ad':List Addr) (H':Hp),X0 c S'->@zH ⟨ad,H⟩ K ad' H' S'->PySem.W.nsIn K mainGlobals c=some (some (.ref C))->E (.ref C) none H'
structure zlU (P:Program)(w:World)(K:PySem.W.Frag)(mg:Str->Option Value)(base:Heap)(k:Nat)(x:Str)(ps:List Str)(sp:Sp):Prop where
 ex:∃ f fd,zW P w K mg base (CXd P w) k f fd ps sp/\Binds K fd ps []/\PySem.W.keepIn K (.ref f)=true/\mg x=some (.ref f)
def XOk [B:Bs](X:Cx)(ex:XR):Prop:=∀ (pins:List (Addr×Obj)) (σ:L2.St) (H:Hp) (s s':Shared) (ad ad':List Addr) (ρ:Rho) (S S':Sto) (c:Str) (C a:Addr) (H':Hp),Inv X pins σ H s->zH X.K ad H S->zav X.K ad H ρ σ->ex ρ c S'->zH X.K ad' H' S'->Wd ad H ad' H' ->
 PySem.W.nsIn X.K mainGlobals c=some (some (.ref C))->s'.os=s.os->AllBare s'.gens->Un (frs X.stack) [] H H' s.heap s'.heap->HOk X.prog X.w H' s'.heap->Fly s.heap s'.heap a (.ref C) H'->X.xe (.ref a) s'
def XMk [B:Bs](X:Cx)(ex:XR):Prop:=∀ (pins:List (Addr×Obj)) (σ:L2.St) (H:Hp) (s:Shared) (ad:List Addr) (ρ:Rho) (S:Sto) (c:Str) (C e:Addr) (args:List Value) (h1:Heap),Inv X pins σ H s->zH X.K ad H S->zav X.K ad H ρ σ->ex ρ c S ->
 PySem.W.nsIn X.K mainGlobals c=some (some (.ref C))->s.heap.MadeExcOf h1 e (.ref C) args->X.xe (.ref e) { s with heap:=h1 }
section
variable [B:Bs]{X:Cx}
theorem zc3 {k j:Nat}{x:Str}{ps:List Str}{f:zfO}{ex:XR}{p pos:Pos}{e:Expr}{es:List Expr}{t:DA}(G:zlU X.prog X.w X.K X.mg X.base k x ps (zgS X.K f))(hX:XOk X ex)(hr:zaB j X.A)
  (ha:PAD X (e::es) t) (hk:k<=j:=by decide) (hg:Gl X x:=by rfl) (hdb:(x==("__debug__":Str))=false:=by decide) (he:starEach (e::es) X.env=(false,eval e X.env)::starEach es X.env:=by exact zbf rfl) (hpl:(backTo pos (starEach es X.env)).any (·.1)=false:=by exact zcG rfl) :
  PD X (.Call (.Name x p) (e::es) [] pos) (zdB f ex t):=by
 with_unfolding_all
  intro pins s σ H Q I h
  obtain⟨ad,ρ,S,Q0,st,rh,q,kk⟩:=h
  obtain⟨fa,fd,F,b,kp,m⟩:=G.ex
  have F:=F.mono hk
  refine wpAny_Call_Name_kw (zeU I hg m ?_ hdb)
  have hA:=ha pos pins s σ H (fun vs H1=>∃ ds S1 ad1,f ds S1 Q0 (ex ρ)/\Wd ad H ad1 H1/\zH X.K ad1 H1 S1/\zA X.K ad1 H1 ds vs) I ⟨ad,ρ,S,_,st,rh,q,fun ds S1 vs H1 ad1 q1 w1 st1 r1=>⟨ds,S1,ad1,q1,w1,st1,r1⟩⟩
  refine PySem.W.callWith_K (h₀:=X.base) I.ok.mod.kin kp (thn hA fun us s1 ⟨vs,H1,I1,r,q1⟩=>⟨I1.kIn,?_⟩) he hpl
  obtain⟨ds,S1,ad1,q1,w1,st1,r1⟩:=q1
  have hsp:zgS X.K f vs H1 Q (fun cls _ H'=>∃ c C S' ad',cls=Value.ref C/\ex ρ c S'/\zH X.K ad' H' S'/\Wd ad1 H1 ad' H'/\PySem.W.nsIn X.K mainGlobals c=some (some (.ref C))) :=
   ⟨ad1,S1,ds,Q0,ex ρ,st1.base,r1,q1,(kk.wd w1).base st1,fun c C S' ad' H' hx st' hn=>⟨c,C,S',ad',rfl,hx,st1.back st',@zH.wd ⟨ad1,H1⟩ _ _ _ _ st',hn⟩⟩
  have hl:us.length=ps.length:=by rw [<- r.length];exact F.len _ _ _ _ hsp
  refine wpAny_call (codeAny_mono (F.run X.A X.stack s1 H1 ⟨us,[]⟩ us vs Q _ hr I1.env0 (by have:=b s1 us I1.kIn (by rw [List.append_nil];exact hl);rwa [List.append_nil] at this) r hsp) fun res s' hq=>?_)
  cases res with
  |error e =>
   obtain⟨a,C,H',rfl,os,bare,un,hok,fly,c,C',S',ad',hC,hx,st',wd',hn⟩:=hq
   cases hC
   exact hX pins σ H1 s1 s' ad1 ad' ρ S1 S' c C a H' I1 st1 (rh.wd w1) hx st' wd' hn os bare un hok fly
  |ok fl =>
   cases fl with
   |ret u=>exact I1.after hq
   |next=>exact False.elim hq
   |brk=>exact False.elim hq
   |cont=>exact False.elim hq
theorem zgk:XOk X xF:=fun _ _ _ _ _ _ _ _ _ _ _ _ _ _ _ _ _ h=>h.elim
structure ExC (K:PySem.W.Frag)(C:Addr):Prop where
 ex:∃ nm q N bs bm hdct sn sub ab col dd k0 k1 k2 k3 k5,K.lookup C=some (excClassObj nm q C N bs bm hdct sn sub ab col dd k0 k1 k2 k3 k5 "ValueError.__new__")/\PySem.W.nsOkIn K N=true/\PySem.W.nsIn K N "__init__"=some none /\
  PySem.W.tailIn K [.type "ValueError",.type "Exception",.type "BaseException",.type "object"] bm=true
theorem zeg {x:Str}{ex:XR}{np cpos pos:Pos}{e:Expr}{t:DA}(hX:XMk X ex)(hc:X.calm=true)(hC:∀ C,PySem.W.nsIn X.K mainGlobals x=some (some (.ref C))->ExC X.K C)(hx:∃ C,PySem.W.nsIn X.K mainGlobals x=some (some (.ref C))/\X.mg x=some (.ref C))(hg:Gl X x)
  (ha:PAD X [e] t) (ht:∀ ρ S Q,(∀ d,Q [d] S)->t ρ S Q) (hdb:(x==("__debug__":Str))=false:=by decide) (he:starEach [e] X.env=(false,eval e X.env)::starEach [] X.env:=by rfl) :
  PSD X (.Raise (some (.Call (.Name x np) [e] [] cpos)) none pos) (zeL ex x):=by
 with_unfolding_all
  intro pins s σ H D I h
  obtain⟨ad,ρ,S,E0,st,rh,q,k⟩:=h
  obtain⟨C,hn,hm⟩:=hx
  obtain⟨nm,qn,N,bs,bm,hdct,sn,sub,ab,col,dd,k0,k1,k2,k3,k5,lk,no,ni,tl⟩:=(hC C hn).ex
  have kin:=I.kIn
  have T:=PySem.W.tail_of_in kin tl
  have hv:=ha cpos pins s σ H (fun vs H1=>vs.length=1/\∃ ad1,Wd ad H ad1 H1/\zH X.K ad1 H1 S) I ⟨ad,ρ,S,fun ds S'=>ds.length=1/\S'=S,st,rh,ht _ _ _ (fun d=>⟨rfl,rfl⟩),fun ds S' vs H' ad' e' w' st' r'=>⟨by rw [<- r'.length];exact e'.1,ad',w',e'.2▸st'⟩⟩
  refine wpAny_Raise_call_subT (C:=C) (nm:=nm) (q:=qn) (N:=N) (bs:=bs) (bm:=bm) (hdct:=hdct) (sn:=sn) (sub:=sub) (ab:=ab) (col:=col) (dd:=dd) (k0:=k0) (k1:=k1) (k2:=k2) (k3:=k3) (k5:=k5) PySem.F.excBase_ValueError (T.hasType PySem.F.excBase_ValueError.hasBase) (I.ok.hd hc) (by rw [he];rfl) (PySem.W.nsMap_none_of_in I.ok.mod.kin no ni) (zeU I hg hm ⟨rfl,?_⟩ hdb)
  rw [he] at hv ⊢
  refine Calls.evalArgs_plain (wpAny_mono hv (fun us s1 hq=>?_) fun _ _ y=>y)
  obtain⟨vs,H1,I1,r,hl,ad1,w1,st1⟩:=hq
  have k1':=I1.kIn
  have hlen:us.length<=sizeLine:=by rw [<- r.length,hl];decide
  exact⟨rfl,hlen,k1' _ _ lk,(Heap.Ns.of_isNs (PySem.W.isNs_of_in I.ok.mod.kin no)).keeps I1.bk,PySem.W.tail_of_in k1' tl,fun h' e' hx=>hX pins σ H1 s1 ad1 ρ S x C e' us h' I1 st1 (rh.wd w1) q hn hx⟩
abbrev nxX (X:Cx):Cx:={ X with xe:=fun _ _=>False }
omit B in
theorem zrC {pins:List (Addr×Obj)}{σ:L2.St}{H:Hp}{s:Shared}(I:Inv X pins σ H s):Inv (nxX X) pins σ H s :=
 ⟨⟨I.ok.mod,I.ok.kind,I.ok.glob,I.ok.blt,I.ok.above,I.ok.inj,I.ok.has,I.ok.cab,I.ok.hd,I.ok.frames,I.ok.stk,I.ok.exf,I.ok.bs,I.ok.bsz,I.ok.noex,I.ok.exfs,I.ok.funs,I.ok.frf⟩,I.os,I.bare,I.base,I.loc,I.cell,I.free,I.freeC,I.pin,I.hok,I.len⟩
omit B in
theorem zoe {pins:List (Addr×Obj)}{σ:L2.St}{H:Hp}{s:Shared}(I:Inv (nxX X) pins σ H s):Inv X pins σ H s :=
 ⟨⟨I.ok.mod,I.ok.kind,I.ok.glob,I.ok.blt,I.ok.above,I.ok.inj,I.ok.has,I.ok.cab,I.ok.hd,I.ok.frames,I.ok.stk,I.ok.exf,I.ok.bs,I.ok.bsz,I.ok.noex,I.ok.exfs,I.ok.funs,I.ok.frf⟩,I.os,I.bare,I.base,I.loc,I.cell,I.free,I.freeC,I.pin,I.hok,I.len⟩
theorem zoU {e:Expr}{t:DE}(h:PD (nxX X) e t):PD X e t:=by with_unfolding_all exact (fun pins s σ H Q I q =>
 wpAny_mono (h pins s σ H Q (zrC I) q) (fun v s1 ⟨x,H1,I1,r⟩=>⟨x,H1,zoe I1,r⟩) fun _ _ z=>z.elim)
omit B in
theorem zkr {P:Program}{w:World}{K:PySem.W.Frag}{mg:Str->Option Value}{base:Heap}{x qual:Str}{st:Stmt}{f:Addr}{fd:FuncData}{N ps:List Str}{k:Nat}{sp:zfO}{b:XR->DS}(F:Fun K x qual st f fd)(S:zL N ps (zE st))
  (len:∀ ds So Q ex,sp ds So Q ex->ds.length=ps.length) (body:zij N.length b sp)
  (term:∀ (cdv:Value) (A:Around) (outer:List Env) (s:Shared) (H:Hp) (E:XK),zaB k (A.deeper (envOfC qual (zE st) s.heap.objs.size f cdv))->∀ [Bs] (ex:XR),XOk (zeA (CXd P w) P w K mg base N qual (zE st) f cdv A outer s H E) ex->XMk (zeA (CXd P w) P w K mg base N qual (zE st) f cdv A outer s H E) ex->zeu (zeA (CXd P w) P w K mg base N qual (zE st) f cdv A outer s H E) (zaS st) (b ex)) :
  zW P w K mg base (CXd P w) (k+1) f fd ps (zgS K sp):=by
 with_unfolding_all
  obtain⟨oc,od,kV,doc,pm,an,cdv,ct,osl,rfl,lk,hcd⟩:=F.ex
  refine zor lk hcd S (fun vs H Q E ⟨ad,So,ds,Q0,X0,so,r,hf,kk,kx⟩=>by rw [<- r.length];exact len ds So Q0 X0 hf) fun A outer s H vs Q E hr ⟨ad,So,ds,Q0,X0,so,r,hf,kk,kx⟩=>?_
  letI:Bs:=⟨ad,H⟩
  have end1:∀ (c:Str) (C a:Addr) (S':Sto) (ad':List Addr) (H':Hp) (s':Shared),X0 c S'->zH K ad' H' S'->PySem.W.nsIn K mainGlobals c=some (some (.ref C))->s'.os=s.os->AllBare s'.gens->Un (frs outer) [] H H' s.heap s'.heap->HOk P w H' s'.heap->Fly s.heap s'.heap a (.ref C) H'->CXd P w outer H s E (.ref a) s' :=
   fun c C a S' ad' H' s' hx st' hn o1 o2 o3 o4 o5=>⟨a,C,H',rfl,o1,o2,o3,o4,o5,kx c C S' ad' H' hx st' hn⟩
  refine⟨_,term cdv A outer s H E hr (fun _=>X0) ?_ ?_,ad,zdy N.length ds,So,_,so,zka N r,body ds So Q0 X0 hf,⟨fun ρ S' σ H' ad' q w' st' rh=>zhB so kk .non S' .non H' ad' q w' st' .non,zhB so kk,fun _ _ _ _ _ q=>q.elim,fun _ _ _ _ _ q=>q.elim⟩⟩
  ·intro pins σ H1 s1 s' ad1 ad' ρ S1 S' c C a H' I st1 rh hx st' wd' hn os bare un hok fly
   have I':=I.call' (ch:=[]) os un hok bare (fun b z=>absurd z (by simp))
   have f0:Fly s.heap s'.heap a (.ref C) H':=by
    obtain⟨g1,g2,a0,oe,vs,T,oT,ts,h1,h2,h3,h4,h5,h6⟩:=fly
    exact⟨zdE I rfl g1,g2,a0,oe,vs,T,oT,ts,h1,h2,h3,h4,zdE I rfl h5,h6⟩
   exact zmp I' rfl rfl rfl f0 fun s'' o1 o2 o3 o4 o5=>end1 c C a S' ad' H' s'' hx st' hn o1 o2 o3 o4 o5
  ·intro pins σ H1 s1 ad1 ρ S1 c C e args h1 I st1 rh hx hn hmade
   exact zlB I rfl rfl rfl hmade fun s'' o1 o2 o3 o4 o5=>end1 c C e S1 ad1 H1 s'' hx st1 hn o1 o2 o3 o4 o5
end
section
variable {X:Cx}{pins:List (Addr×Obj)}{σ:L2.St}{H H':Hp}{s s':Shared}
variable [B:Bs]
end
section
open PySem.W PySem.Builtin PySem.Builtin.ObjectAttr PySem.Builtin.Getset_descriptor
variable {prog:Program}{w:World}{A:Around}{E:Value->Shared->Prop}{s:Shared}{K:Frag}{x C:Addr}{o:Obj}
end
section
variable [B:Bs]{X:Cx}
end
def zlQ (K:PySem.W.Frag)(C:Addr):Bool:=match K.lookup C with
 | some ⟨.type "type",_,.cls cd,sl⟩=>(match cd.mro,sl.toList with
  | .ref C'::bm,[_,_,_,_,some (.builtin n),_]=>C'==C&&!cd.hasDel&&n=="ValueError.__new__"&&PySem.W.nsOkIn K cd.ns&&PySem.W.nsIn K cd.ns "__init__"==some none&&PySem.W.tailIn K [.type "ValueError",.type "Exception",.type "BaseException",.type "object"] bm
  |_,_=>false)
 |_=>false
theorem ExC.of {K:PySem.W.Frag}{C:Addr}(q:zlQ K C=true):ExC K C:=by
 unfold zlQ at q
 split at q
 ·rename_i dd cd sl ho
  split at q
  ·rename_i C' bm k0 k1 k2 k3 n k5 hm hs
   simp only [Bool.and_eq_true,beq_iff_eq,Bool.not_eq_true'] at q
   obtain⟨⟨⟨⟨⟨rfl,hdel⟩,rfl⟩,h1⟩,h2⟩,h3⟩:=q
   obtain⟨nm,bs,mro,ns,qn,hd,sn,sub,ab,col,del⟩:=cd
   dsimp only at hm hdel
   subst hm hdel
   have hsl:sl=#[k0,k1,k2,k3,some (.builtin "ValueError.__new__"),k5]:=by
    obtain⟨l⟩:=sl
    simp only at hs
    rw [hs]
   subst hsl
   exact⟨nm,qn,ns,bs,bm,hd,sn,sub,ab,col,dd,k0,k1,k2,k3,k5,ho,h1,h2,h3⟩
  ·cases q
 ·cases q
section
variable {X:Cx}[B:Bs]
end
section
variable {K:PySem.W.Frag}{ad:List Addr}{H:Hp}{S:Sto}[B:Bs]
omit B in
theorem RelK.val:∀ {fs:List (Str×D)} {vs:List (Key×V)} (z:Str),RelK K ad H fs vs->(dval fs z=none/\L2.zci vs (Sum.inr z:Key)=none)\/∃ d v,dval fs z=some d/\L2.zci vs (Sum.inr z:Key)=some v/\Rel K ad H d v
 |_,_,z,.nil=>.inl ⟨rfl,L2.zjq⟩
 |_,_,z,@RelK.cons _ _ _ x d v fs vs r t=>by
  by_cases h:x=z
  ·exact .inr ⟨d,v,by rw [zbh,if_pos h],by rw [L2.zdX (by rw [h])],r⟩
  ·have h':¬ (Sum.inr x:Key)=Sum.inr z:=fun e=>h (Sum.inr.inj e)
   rw [zbh,if_neg h,L2.zd5 h']
   exact RelK.val z t
omit B in
theorem zas.val:∀ {fs:List (List Key×D)} {vs:List (List Key×V)} (z:List Key),zas K ad H fs vs->(dval fs z=none/\L2.zci vs z=none)\/∃ d v,dval fs z=some d/\L2.zci vs z=some v/\Rel K ad H d v
 |_,_,z,.nil=>.inl ⟨rfl,L2.zjq⟩
 |_,_,z,@zas.cons _ _ _ x d v fs vs r t=>by
  by_cases h:x=z
  ·exact .inr ⟨d,v,by rw [zbh,if_pos h],by rw [L2.zdX h],r⟩
  ·rw [zbh,if_neg h,L2.zd5 h]
   exact zas.val z t
omit B in
theorem RelK.snoc {x:Str}{d:D}{v:V}(rd:Rel K ad H d v):∀ {fs:List (Str×D)} {vs:List (Key×V)},RelK K ad H fs vs->RelK K ad H (fs++[(x,d)]) (vs++[(.inr x,v)])
 |_,_,.nil=>.cons rd .nil
 |_,_,.cons r t=>.cons r (RelK.snoc rd t)
omit B in
theorem zas.snoc {x:List Key}{d:D}{v:V}(rd:Rel K ad H d v):∀ {fs:List (List Key×D)} {vs:List (List Key×V)},zas K ad H fs vs->zas K ad H (fs++[(x,d)]) (vs++[(x,v)])
 |_,_,.nil=>.cons rd .nil
 |_,_,.cons r t=>.cons r (zas.snoc rd t)
omit B in
theorem RelK.repl {z:Str}{d:D}{v:V}(rd:Rel K ad H d v):∀ {fs:List (Str×D)} {vs:List (Key×V)},RelK K ad H fs vs->RelK K ad H (fs.map fun kv=>if kv.1=z then (kv.1,d) else kv) (vs.map fun kv=>if kv.1=(Sum.inr z:Key) then (kv.1,v) else kv)
 |_,_,.nil=>.nil
 |_,_,@RelK.cons _ _ _ x d' v' fs vs r t=>by
  rw [List.map_cons,List.map_cons]
  by_cases h:x=z
  ·rw [if_pos h,if_pos (by rw [h])];exact .cons rd (RelK.repl rd t)
  ·rw [if_neg h,if_neg (fun e=>h (Sum.inr.inj e))];exact .cons r (RelK.repl rd t)
omit B in
theorem zas.repl {z:List Key}{d:D}{v:V}(rd:Rel K ad H d v):∀ {fs:List (List Key×D)} {vs:List (List Key×V)},zas K ad H fs vs->zas K ad H (fs.map fun kv=>if kv.1=z then (kv.1,d) else kv) (vs.map fun kv=>if kv.1=z then (kv.1,v) else kv)
 |_,_,.nil=>.nil
 |_,_,@zas.cons _ _ _ x d' v' fs vs r t=>by
  rw [List.map_cons,List.map_cons]
  by_cases h:x=z
  ·rw [if_pos h,if_pos h];exact .cons rd (zas.repl rd t)
  ·rw [if_neg h,if_neg h];exact .cons r (zas.repl rd t)
omit B in
theorem RelK.put {z:Str}{d:D}{v:V}(rd:Rel K ad H d v){fs:List (Str×D)}{vs:List (Key×V)}(r:RelK K ad H fs vs):RelK K ad H (dput fs z d) (putK vs (Sum.inr z:Key) v):=by
 unfold dput putK
 rw [ze7,L2.zfg]
 rcases r.val z with ⟨e1,e2⟩|⟨d',v',e1,e2,_⟩
 ·rw [e1,e2]
  rw [if_neg (by simp),if_neg (by simp)];exact r.snoc rd
 ·rw [e1,e2]
  rw [if_pos (by simp),if_pos (by simp)];exact r.repl rd
omit B in
theorem zas.put {z:List Key}{d:D}{v:V}(rd:Rel K ad H d v){fs:List (List Key×D)}{vs:List (List Key×V)}(r:zas K ad H fs vs):zas K ad H (dput fs z d) (putK vs z v):=by
 unfold dput putK
 rw [ze7,L2.zfg]
 rcases r.val z with ⟨e1,e2⟩|⟨d',v',e1,e2,_⟩
 ·rw [e1,e2]
  rw [if_neg (by simp),if_neg (by simp)];exact r.snoc rd
 ·rw [e1,e2]
  rw [if_pos (by simp),if_pos (by simp)];exact r.repl rd
omit B in
theorem RelK.length:∀ {fs:List (Str×D)} {vs:List (Key×V)},RelK K ad H fs vs->fs.length=vs.length
  |_,_,.nil=>rfl
  |_,_,.cons _ t=>congrArg (· + 1) (RelK.length t)
omit B in
theorem zas.length:∀ {fs:List (List Key×D)} {vs:List (List Key×V)},zas K ad H fs vs->fs.length=vs.length
  |_,_,.nil=>rfl
  |_,_,.cons _ t=>congrArg (· + 1) (zas.length t)
omit B in
theorem zfn:∀ {ks:List Key} {vs:List V},zA K ad H (ks.map kD) vs->vs=ks.map kV
 |[],_,.nil=>rfl
 |.inl i::ks,_,.cons r t=>by
  have e:∀ {d:D} {v:V},d=.int i->Rel K ad H d v->v=.int i:=fun e r=>by subst e;cases r;rfl
  rw [e rfl r,zfn t];rfl
 |.inr x::ks,_,.cons r t=>by
  have e:∀ {d:D} {v:V},d=.str x->Rel K ad H d v->v=.str x:=fun e r=>by subst e;cases r;rfl
  rw [e rfl r,zfn t];rfl
theorem zH.newC (st:zH K ad H S){l:Addr}{o:HO}{c:Cell}(h:H l=none)(hc:zb2 K (ad++[l]) (upd H l o) l c):zH K (ad++[l]) (upd H l o) (S++[c]) where
 wd:=st.wd.trans (Wd.newL st h)
 len:=by rw [List.length_append,List.length_append,st.len];rfl
 nd:=by
  rw [List.nodup_append]
  refine⟨st.nd,by simp,fun a ha b hb e=>?_⟩
  have:b=l:=by simpa using hb
  subst this;subst e
  exact st.fresh h ha
 cell:=fun n a c' e1 e2=>by
  by_cases hn:n<ad.length
  ·rw [List.getElem?_append_left hn] at e1
   rw [List.getElem?_append_left (by rw [<- st.len];exact hn)] at e2
   have ok:=st.cell n a c' e1 e2
   obtain⟨u,e⟩:=ok.some
   exact ok.wd (Wd.newL st h) (by rw [zdo h e,e])
  ·have hn':ad.length<=n:=Nat.le_of_not_lt hn
   rw [List.getElem?_append_right hn'] at e1
   rw [List.getElem?_append_right (by rw [<- st.len];exact hn'),<- st.len] at e2
   cases hk:n-ad.length with
   |zero =>
    rw [hk] at e1 e2
    have e1':l=a:=by simpa using e1
    have e2':c=c':=by simpa using e2
    subst e1' e2'
    exact hc
   |succ k=>rw [hk] at e1;simp at e1
omit B in
theorem Wd.putC {n:Nat}{a:Addr}{o o':HO}(e:ad[n]?=some a)(h:H a=some o)(h1:∀ xs,o≠.tup xs)(h2:∀ q u,o≠.frz q u):Wd ad H ad (upd H a o') :=
 ⟨List.prefix_refl _,fun b u hb q=>by
   have:b≠a:=fun z=>hb (by rw [z];exact List.mem_of_getElem? e)
   rw [zX this];exact q,
  fun b xs q=>by rw [zX (zdQ q h (fun z=>h1 xs z.symm))];exact q,fun b o u q=>by rw [zX (zdQ q h (fun z=>h2 o u z.symm))];exact q,fun _ m n=>absurd m n⟩
theorem zH.putC (st:zH K ad H S){n:Nat}{a:Addr}{o o':HO}{c:Cell}(e:ad[n]?=some a)(h:H a=some o)(h1:∀ xs,o≠.tup xs)(h2:∀ q u,o≠.frz q u)(hc:zb2 K ad (upd H a o') a c):zH K ad (upd H a o') (S.set n c) where
 wd:=st.wd.trans (Wd.putC e h h1 h2)
 len:=by rw [List.length_set];exact st.len
 nd:=st.nd
 cell:=fun m b c' e1 e2=>by
  have w:Wd ad H ad (upd H a o'):=Wd.putC e h h1 h2
  by_cases hm:m=n
  ·subst hm
   rw [e] at e1;cases e1
   rw [List.getElem?_set_self (by rw [<- st.len];exact My.zaO e)] at e2
   cases e2
   exact hc
  ·rw [List.getElem?_set_ne (Ne.symm hm)] at e2
   have ne:b≠a:=fun z=>by
    subst z
    have q1:=(List.getElem?_eq_some_iff.mp e1).2
    have q2:=(List.getElem?_eq_some_iff.mp e).2
    exact hm ((List.getElem_inj st.nd).mp (q1.trans q2.symm))
   exact (st.cell m b c' e1 e2).wd w (zX ne)
theorem zoI (st:zH K ad H S){x y:D}{v u:V}{o:Option D}(rx:Rel K ad H x v)(ry:Rel K ad H y u)(g:DGt S x y o):∃ a o',v=.ref a/\zer H a u o'/\((o=none/\o'=none)\/∃ d w,o=some d/\o'=some w/\Rel K ad H d w):=by
 rcases g with ⟨n,kvs,z,rfl,rfl,hn,rfl⟩|⟨n,kvs,ks,rfl,rfl,hn,rfl⟩
 ·cases ry
  cases rx with
  |ref e =>
   obtain⟨vs,hv,r⟩:=st.cell n _ _ e hn
   exact⟨_,_,rfl,zer.k (k:=Sum.inr z) hv,r.val z⟩
 ·cases rx with
  |ref e =>
   obtain⟨vs,hv,r⟩:=st.cell n _ _ e hn
   cases ry with
   |tup hb rb =>
    have e2:=zfn rb
    subst e2
    exact⟨_,_,rfl,zer.t hv hb,r.val ks⟩
end
section
variable {X:Cx}{a b c:Expr}{td ti tz tv:DE}{pos apos cpos:Pos}[B:Bs]
theorem zpV:PD X (.Dict [] [] pos) zlA:=by with_unfolding_all exact (zau zns fun σ H Q hh=>el8 hh fun ad ρ S Q0 st rh q k p hp =>
 k _ _ _ _ _ q (Wd.newL st hp) (st.newC hp ⟨[],zaT,.nil⟩) st.newRef)
theorem zeE {j:Nat}(hr:zaB j X.A)(ho:PD X a td)(hi:PD X b ti)(hs:znY b:=by intro _ _;rfl):PD X (.Subscript a b pos) (zfZ td ti):=by with_unfolding_all exact (zau (zpI (zot hr) ho hi hs) fun σ H Q hh=>el8 hh fun ad ρ S Q0 st rh q k =>
 ⟨ad,ρ,S,_,st,rh,q,fun x S1 v H1 ad1 q1 w1 st1 r1=>⟨ad1,ρ,S1,_,st1,rh.wd w1,q1,fun y S2 u H2 ad2 ⟨d,g,q2⟩ w2 st2 r2=>by
  obtain⟨p,o',rfl,g',h⟩:=zoI st2 (r1.wd w2) r2 g
  rcases h with ⟨e,_⟩|⟨d',w,e,rfl,rw'⟩
  ·cases e
  ·cases e
   exact⟨p,w,rfl,g',k _ S2 _ H2 ad2 q2 (w1.trans w2) st2 rw'⟩⟩⟩)
theorem zoi {j:Nat}(hr:zaB j X.A)(ho:PD X a td)(hi:PD X b ti)(hv:PD X c tv)(hs:swapsWith c (some (.Subscript a b apos)) pos.line X.env=pure false:=by rfl):PSD X (.Assign [.Subscript a b apos] c pos) (zmb td ti tv):=by with_unfolding_all exact (zbj (zpc (zot hr) ho hi hv hs) fun E σ H hh=>el8 hh fun ad ρ S E0 so rh q k =>
 ⟨ad,ρ,S,_,so,rh,q,fun v S1 vv H1 ad1 q1 w1 st1 r1=>⟨ad1,ρ,S1,_,st1,rh.wd w1,q1,fun x S2 vx H2 ad2 q2 w2 st2 r2=>⟨ad2,ρ,S2,_,st2,rh.wd (w1.trans w2),q2,fun y S3 vy H3 ad3 q3 w3 st3 r3=>by
  have rx:=r2.wd w3
  have rv:=r1.wd (w2.trans w3)
  have w13:=(w1.trans w2).trans w3
  rcases q3 with ⟨n,kvs,z,rfl,rfl,hn,hl,q3⟩|⟨n,kvs,ks,rfl,rfl,hn,hl,q3⟩
  ·cases r3
   cases rx with
   |ref e =>
    obtain⟨vs,hv',r⟩:=st3.cell n _ _ e hn
    have h1:∀ xs,HO.dK vs≠.tup xs:=fun _ z=>by cases z
    have h2:∀ q u,HO.dK vs≠.frz q u:=fun _ _ z=>by cases z
    have w:=Wd.putC (o':=.dK (putK vs (Sum.inr z:Key) vv)) e hv' h1 h2
    refine⟨_,_,rfl,zf8.k (k:=Sum.inr z) hv' (by rw [<- r.length];exact zhg hl),?_⟩
    exact k.nx _ _ _ _ _ q3 (w13.trans w) (st3.putC e hv' h1 h2 ⟨_,zaT,RelK.wr w.wr (r.put rv)⟩) (rh.wd (w13.trans w))
  ·cases rx with
   |ref e =>
    obtain⟨vs,hv',r⟩:=st3.cell n _ _ e hn
    cases r3 with
    |tup hb rb =>
     have e2:=zfn rb
     subst e2
     have h1:∀ xs,HO.dT vs≠.tup xs:=fun _ z=>by cases z
     have h2:∀ q u,HO.dT vs≠.frz q u:=fun _ _ z=>by cases z
     have w:=Wd.putC (o':=.dT (putK vs ks vv)) e hv' h1 h2
     refine⟨_,_,rfl,zf8.t hv' hb (by rw [<- r.length];exact zhg hl),?_⟩
     exact k.nx _ _ _ _ _ q3 (w13.trans w) (st3.putC e hv' h1 h2 ⟨_,zaT,zas.wr w.wr (r.put rv)⟩) (rh.wd (w13.trans w))⟩⟩⟩)
end
structure FH (K:PySem.W.Frag)(n:Str)(st:Stmt)(f:Addr)(fd:FuncData):Prop where
 a:PySem.W.nsIn K mainGlobals n=some (some (.ref f))
 F:Fun K n n st f fd
section
variable {K:PySem.W.Frag}{n:Str}{st:Stmt}{f:Addr}{fd:FuncData}{mg:Str->Option Value}{k:Nat}{h:Heap}{ps:List Str}{sp:Sp}
theorem ztm {oc:Value}{od an:Option Addr}{osl:Array (Option Value)}{kV doc pm cdv ct:Value}(a:PySem.W.nsIn K mainGlobals n=some (some (.ref f)))
  (l:K.lookup f=some ⟨oc,od,.func (PySem.W.fnOf n n (zby st) (zaS st) (zE st) .none kV doc pm an cdv ct),osl⟩) (c:PySem.W.codeIn K cdv n=true) (k:PySem.W.keepIn K (.ref f)=true) :
  FH K n st f (PySem.W.fnOf n n (zby st) (zaS st) (zE st) .none kV doc pm an cdv ct):=⟨a,zho l c k⟩
theorem z7 (P:Program)(w:World)(base:Heap)(X:K.In h)(G:h.Ns mainGlobals mg)(H:FH K n st f fd)(ok:zW P w K mg base CX0 k f fd ps sp)
  (b:∀ (kV doc pm:Value) (an:Option Addr) (cdv ct:Value) (us:List Value),us.length=ps.length->bindArgs (PySem.W.fnOf n n (zby st) (zaS st) (zE st) .none kV doc pm an cdv ct) ⟨us,[]⟩=pure (ps.zip us):=by intro _ _ _ _ _ _ us hl;first|(obtain⟨_,e⟩:=zom hl;subst e;rfl)|(obtain⟨_,_,e⟩:=zlx hl;subst e;rfl)|(obtain⟨_,_,_,e⟩:=zoy hl;subst e;rfl)|(obtain⟨_,_,_,_,e⟩:=zol hl;subst e;rfl)|(obtain⟨_,_,_,_,_,e⟩:=zos hl;subst e;rfl)|(obtain⟨_,_,_,_,_,_,e⟩:=len_6 hl;subst e;rfl)|(obtain⟨_,_,_,_,_,_,_,e⟩:=len_7 hl;subst e;rfl)):Got P w K mg base k n ps sp:=⟨⟨f,fd,ok,H.F.binds b,H.F.kp,PySem.W.mg_of X G H.a⟩⟩
theorem zlm (P:Program)(w:World)(base:Heap)(X:K.In h)(G:h.Ns mainGlobals mg)(H:FH K n st f fd)(ok:zW P w K mg base (CXd P w) k f fd ps sp)
  (b:∀ (kV doc pm:Value) (an:Option Addr) (cdv ct:Value) (us:List Value),us.length=ps.length->bindArgs (PySem.W.fnOf n n (zby st) (zaS st) (zE st) .none kV doc pm an cdv ct) ⟨us,[]⟩=pure (ps.zip us):=by intro _ _ _ _ _ _ us hl;first|(obtain⟨_,e⟩:=zom hl;subst e;rfl)|(obtain⟨_,_,e⟩:=zlx hl;subst e;rfl)|(obtain⟨_,_,_,e⟩:=zoy hl;subst e;rfl)|(obtain⟨_,_,_,_,e⟩:=zol hl;subst e;rfl)|(obtain⟨_,_,_,_,_,e⟩:=zos hl;subst e;rfl)|(obtain⟨_,_,_,_,_,_,e⟩:=len_6 hl;subst e;rfl)|(obtain⟨_,_,_,_,_,_,_,e⟩:=len_7 hl;subst e;rfl)):zlU P w K mg base k n ps sp:=⟨⟨f,fd,ok,H.F.binds b,H.F.kp,PySem.W.mg_of X G H.a⟩⟩
end
section
variable {X:Cx}
theorem zf [B:Bs](i:Nat){x:Str}{pos:Pos}(hN:X.N[i]?=some x:=by rfl)(hv:L2.Vis X.env.scope x:=by first | exact Or.inl rfl | exact Or.inr (Or.inl rfl) | exact Or.inr (Or.inr rfl))(hd:(x==("__debug__":Str))=false:=by decide)(hcd:(x==("__classdict__":Str))=false:=by decide):PD X (.Name x pos) (zc i):=by with_unfolding_all exact (zqv (zqL hN hv hd hcd))
theorem zV {N P:List Str}{sc:Scope}(h1:sc.kind=.function:=by rfl)(h2:sc.isCoroutine=false:=by rfl)(h3:sc.isGenerator=false:=by rfl)(h4:N.Nodup:=by decide +kernel)(h5:N.take P.length=P:=by rfl)(h6:∀ x∈P,sc.names.lookup x=some .local\/sc.names.lookup x=some .cell:=by decide +kernel)(h7:∀ y∈sc.names,y.2≠.free:=by decide +kernel):zL N P sc:=⟨h1,h2,h3,h4,h5,h6,h7⟩
end
section
variable {X:Cx}{a b c:Expr}{ta tb:DE}{td ti tz tv:DE}{pos apos cpos:Pos}[B:Bs]
end
section
variable {X:Cx}{a b:Expr}{ta tb:DE}{pos apos cpos:Pos}[B:Bs]
theorem zjz {i:Int}(h:My.Bd 1900 i):i.natAbs.log2<1920:=by
 by_cases e:i.natAbs=0
 ·rw [e];decide
 ·exact Nat.lt_of_lt_of_le ((Nat.log2_lt e).mpr h) (by decide)
theorem zmo:zaZ X (.type "str") (fun xs H Q=>(∃ i:Int,xs=[.int i]/\i.natAbs.log2<1920/\Q (.str (toString i)) H)\/∃ z,xs=[.str z]/\Q (.str z) H):=by
 intro pins s σ H xs us Q I r h
 rcases h with h|⟨z,rfl,q⟩
 ·exact zkk pins s σ H xs us Q I r h
 ·obtain⟨u,rfl,t,rfl⟩:=vals1 r
  exact PySem.P.str_of_str ⟨.str z,H,I,⟨_,rfl⟩,q⟩
theorem zcy:BC X (.type "str") zc5:=⟨_,zmo,fun ad H S ds vs Q0 Q st r h k=>by
 rcases h with ⟨i,rfl,hb,q⟩|⟨z,rfl,q⟩
 ·obtain⟨v,rfl,rv⟩:=zc9 r
  cases rv
  exact .inl ⟨i,rfl,zjz hb,k _ S _ H ad q Wd.refl st (.str _)⟩
 ·obtain⟨v,rfl,rv⟩:=zc9 r
  cases rv
  exact .inr ⟨z,rfl,k _ S _ H ad q Wd.refl st (.str _)⟩⟩
theorem zlF {z:Str}{n:Int}(hl:z.length<=640)(h:zjK z n):PySem.intText? z=some n:=by
 rcases h with ⟨h1,h2,rfl⟩|⟨cs,e,h1,h2,rfl⟩
 ·exact PySem.intText_digits h1 h2 (by omega)
 ·exact PySem.intText_neg e h1 h2 (by omega)
theorem zmh:zaZ X (.type "int") (fun xs H Q=>∃ z n,xs=[.str z]/\z.length<=640/\zjK z n/\Q (.int n) H):=by
 intro pins s σ H xs us Q I r h
 obtain⟨z,n,rfl,hl,hn,q⟩:=h
 obtain⟨u,rfl,t,rfl⟩:=vals1 r
 exact PySem.W.KIN.call_text (zlF hl hn) hl ⟨.int n,H,I.tok _,⟨_,rfl⟩,q⟩
theorem zpf:BC X (.type "int") zji:=⟨_,zmh,fun ad H S ds vs Q0 Q st r h k=>by
 obtain⟨z,n,rfl,hl,hn,q⟩:=h
 obtain⟨v,rfl,rv⟩:=zc9 r
 cases rv
 exact⟨z,n,rfl,hl,hn,k _ S _ H ad q Wd.refl st (.int _)⟩⟩
def zpS (ta tb:TE):TE:=fun σ H Q=>ta σ H fun x H1=>(∃ z,x=.str z)/\tb σ H1 fun y H2=>∃ z c,x=.str z/\y=.str ⟨#[c]⟩/\Q (.bl (decide (z.cps.toList[0]?=some c))) H2
theorem zmO {ta tb:TE}(ha:PE X a ta)(hb:PE X b tb)(hbase:attributeBase a "startswith" X.env (eval a X.env)=eval a X.env)(hs:starEach [b] X.env=[(false,eval b X.env)])(hline:(apos.endLine==cpos.line)=true):PE X (.Call (.Attribute a "startswith" apos) [b] [] cpos) (zpS ta tb):=by
 intro pins s σ H Q I h
 refine PySem.Call_method1 hbase hs hline (thn (ha pins s σ H _ I h) fun u s1 ⟨x,H1,I1,rx,⟨z,ex⟩,q1⟩=>?_)
 subst ex
 obtain⟨t,rfl⟩:=rx
 refine PySem.SB.startswith (thn (hb pins s1 σ H1 _ I1 q1) fun v s2 ⟨y,H2,I2,ry,z',c,e1,e2,q2⟩=>?_)
 cases e1
 subst e2
 obtain⟨t',rfl⟩:=ry
 have e:PySem.Txt.startswith z ⟨#[c]⟩=decide (z.cps.toList[0]?=some c):=by
  rw [Bool.eq_iff_iff,decide_eq_true_eq,<- PySem.StrLaws.subAt_one z c 0]
  unfold PySem.Txt.startswith
  rw [Bool.and_eq_true,decide_eq_true_eq]
 exact⟨_,_,rfl,.bl (decide (z.cps.toList[0]?=some c)),H2,I2,by rw [e];rfl,q2⟩
theorem zmz (ha:PD X a ta)(hb:PD X b tb)(hbase:attributeBase a "startswith" X.env (eval a X.env)=eval a X.env:=by rfl)(hl:isStar b=false:=by rfl)(hline:(apos.endLine==cpos.line)=true:=by rfl):PD X (.Call (.Attribute a "startswith" apos) [b] [] cpos) (zii ta tb):=by with_unfolding_all exact (zau (zmO ha hb hbase (zcj hl) hline) fun σ H Q hh=>el8 hh fun ad ρ S Q0 st rh q k =>
 ⟨ad,ρ,S,_,st,rh,q,fun x S1 v H1 ad1 ⟨⟨z,ex⟩,q1⟩ w1 st1 r1=>by
  subst ex
  cases r1
  exact⟨⟨z,rfl⟩,ad1,ρ,S1,_,st1,rh.wd w1,q1,fun y S2 u H2 ad2 ⟨z',c,e1,e2,q2⟩ w2 st2 r2=>by
   cases e1
   subst e2
   cases r2
   exact⟨z,c,rfl,rfl,k _ S2 _ H2 ad2 q2 (w1.trans w2) st2 (.bl _)⟩⟩⟩)
theorem zjF:∀ {zs:List Str} {its:List Value},Vals (zs.map V.str) its->∃ l:List (Str×Tok),its=PySem.strValues l/\l.map (·.1)=zs
 |[],_,.nil=>⟨[],rfl,rfl⟩
 |z::zs,_,.cons r t=>by
  obtain⟨l,rfl,e⟩:=zjF t
  obtain⟨tk,rfl⟩:=r
  exact⟨(z,tk)::l,rfl,by rw [List.map_cons,e]⟩
theorem zmZ {z:Str}{zs:List Str}(h:(zs.map (·.length)).sum+zs.length*z.length<=big):PySem.JoinOk z zs=true:=by
 unfold PySem.JoinOk
 rw [PySem.StrLaws.joinTotal]
 show (!decide (_ > sizeLine))=true
 rw [decide_eq_false (by rw [sizeLine_eq];unfold big at h;omega)];rfl
def zsi (ta tb:TE):TE:=fun σ H Q=>ta σ H fun x H1=>(∃ z,x=.str z)/\tb σ H1 fun y H2=>∃ z l,∃ zs:List Str,x=.str z/\y=.ref l/\H2 l=some (.lst (zs.map V.str))/\(zs.map (·.length)).sum+zs.length*z.length<=big/\Q (.str (Str.join z zs)) H2
theorem zpT {ta tb:TE}(ha:PE X a ta)(hb:PE X b tb)(hbase:attributeBase a "join" X.env (eval a X.env)=eval a X.env)(hs:starEach [b] X.env=[(false,eval b X.env)])(hline:(apos.endLine==cpos.line)=true):PE X (.Call (.Attribute a "join" apos) [b] [] cpos) (zsi ta tb):=by
 intro pins s σ H Q I h
 refine PySem.Call_method1 hbase hs hline (thn (ha pins s σ H _ I h) fun u s1 ⟨x,H1,I1,rx,⟨z,ex⟩,q1⟩=>?_)
 subst ex
 obtain⟨t,rfl⟩:=rx
 refine PySem.SB.join (thn (hb pins s1 σ H1 _ I1 q1) fun v s2 ⟨y,H2,I2,ry,z',l,zs,e1,e2,hH,hl,q2⟩=>?_)
 cases e1
 subst e2
 cases ry
 obtain⟨hz,its,n,rr,hlen,ho⟩:=I2.lstM hH
 obtain⟨ps,rfl,eps⟩:=zjF rr
 refine⟨l,ps,rfl,⟨_,ho,rfl,_,rfl⟩,zs,eps,zmZ hl,fun t' k=>⟨.str (Str.join z zs),H2,I2.tok _,⟨t',?_⟩,q2⟩⟩
 rw [show PySem.Txt.join z zs=Str.join z zs from PySem.StrLaws.glued_eq_join z zs]
end
section
variable {X:Cx}{a b:Expr}{ta tb:DE}{pos apos cpos:Pos}[B:Bs]
theorem zA.strs {K:PySem.W.Frag}{ad:List Addr}{H:Hp}:∀ {zs:List Str} {vs:List V},zA K ad H (zs.map D.str) vs->vs=zs.map V.str
 |[],_,.nil=>rfl
 |z::zs,_,.cons r t=>by cases r;rw [zA.strs t];rfl
theorem zgl (ha:PD X a ta)(hb:PD X b tb)(hbase:attributeBase a "join" X.env (eval a X.env)=eval a X.env:=by rfl)(hl:isStar b=false:=by rfl)(hline:(apos.endLine==cpos.line)=true:=by rfl):PD X (.Call (.Attribute a "join" apos) [b] [] cpos) (zgp ta tb):=by with_unfolding_all exact (zau (zpT ha hb hbase (zcj hl) hline) fun σ H Q hh=>el8 hh fun ad ρ S Q0 st rh q k =>
 ⟨ad,ρ,S,_,st,rh,q,fun x S1 v H1 ad1 ⟨⟨z,ex⟩,q1⟩ w1 st1 r1=>by
  subst ex
  cases r1
  exact⟨⟨z,rfl⟩,ad1,ρ,S1,_,st1,rh.wd w1,q1,fun y S2 u H2 ad2 ⟨z',n,zs,e1,e2,hn,hl,q2⟩ w2 st2 r2=>by
   cases e1
   subst e2
   cases r2 with
   |ref e =>
    obtain⟨ws,hw,rw'⟩:=st2.cell n _ _ e hn
    rw [rw'.strs] at hw
    exact⟨z,_,zs,rfl,rfl,hw,hl,k _ S2 _ H2 ad2 q2 (w1.trans w2) st2 (.str _)⟩⟩⟩)
def tF3 (c:Str)(ta tb:TE):TE:=fun σ H Q=>ta σ H fun x H1=>(∃ i,x=.int i/\i.natAbs.log2<1920/\(Str.ofString (toString i)).length<=1000/\c.length<=1000)/\tb σ H1 fun y H2=>∃ i j,x=.int i/\y=.int j/\j.natAbs.log2<1920/\(Str.ofString (toString j)).length<=1000/\Q (.str (Str.ofString (toString i)++c++Str.ofString (toString j))) H2
theorem zr6 {ta tb:TE}{c:Str}{kk:Nat}{p1 p2 p3:Pos}(ha:PE X a ta)(hb:PE X b tb):PE X (.JoinedStr [.FormattedValue a (-1) none p1,.Constant (.str c) kk p2,.FormattedValue b (-1) none p3] pos) (tF3 c ta tb):=by
 intro pins s σ H Q I h
 have sz:∀ n:Nat,n<=100000->n<=sizeLine:=fun n h=>Nat.le_trans h (by rw [sizeLine_eq];decide)
 refine JoinedStr_many (joinParts_cons (FormattedValue_plain (thn (ha pins s σ H _ I h) fun u s1 ⟨x,H1,I1,rx,⟨i,ex,hi,li,lc⟩,q1⟩=>?_)))
 subst ex
 obtain⟨t,rfl⟩:=rx
 refine formatField_int_small hi ?_
 refine⟨sz _ (by rw [strLen_append];show 0+_<=_;omega),?_⟩
 have e0:Str.empty++Str.ofString (toString i)=Str.ofString (toString i):=PySem.Str.append_left_empty rfl
 rw [e0]
 refine joinParts_cons (thn (zmY (X:=X) (x:=c) (j:=kk) (pos:=p2) pins _ σ H1 (fun x H'=>x=.str c/\H'=H1) (I1.tok _) ⟨rfl,rfl⟩) fun u s2 ⟨x2,H2,I2,rx2,ex2,eh⟩=>?_)
 subst ex2 eh
 obtain⟨t2,rfl⟩:=rx2
 refine⟨sz _ (by rw [strLen_append];omega),?_⟩
 refine joinParts_cons (FormattedValue_plain (thn (hb pins s2 σ H2 _ I2 q1) fun u s3 ⟨y,H3,I3,ry,i',j,e1,e2,hj,lj,q2⟩=>?_))
 cases e1
 subst e2
 obtain⟨t3,rfl⟩:=ry
 refine formatField_int_small hj ?_
 refine⟨sz _ (by rw [strLen_append,strLen_append];omega),?_⟩
 exact joinParts_nil ⟨.str _,H3,(I3.tok _).tok _,⟨_,rfl⟩,q2⟩ (sz _ (by rw [strLen_append,strLen_append];omega))
theorem zr8 {c:Str}{kk:Nat}{p1 p2 p3:Pos}(ha:PD X a ta)(hb:PD X b tb):PD X (.JoinedStr [.FormattedValue a (-1) none p1,.Constant (.str c) kk p2,.FormattedValue b (-1) none p3] pos) (dF3 c ta tb):=by with_unfolding_all exact (zau (zr6 ha hb) fun σ H Q hh=>el8 hh fun ad ρ S Q0 st rh q k =>
 ⟨ad,ρ,S,_,st,rh,q,fun x S1 v H1 ad1 ⟨⟨i,ex,hi,li,lc⟩,q1⟩ w1 st1 r1=>by
  subst ex
  cases r1
  exact⟨⟨i,rfl,zjz hi,li,lc⟩,ad1,ρ,S1,_,st1,rh.wd w1,q1,fun y S2 u H2 ad2 ⟨i',j,e1,e2,hj,lj,q2⟩ w2 st2 r2=>by
   cases e1
   subst e2
   cases r2
   exact⟨i,j,rfl,rfl,zjz hj,lj,k _ S2 _ H2 ad2 q2 (w1.trans w2) st2 (.str _)⟩⟩⟩)
end
theorem zm5 {c:Nat}:∀ {x y a b:List Nat},c∉x->c∉y->x++c::a=y++c::b->x=y/\a=b
 |[],[],_,_,_,_,e=>⟨rfl,(List.cons.inj e).2⟩
 |[],k::y,_,_,_,hy,e=>absurd (List.mem_cons.mpr (.inl (List.cons.inj e).1)) hy
 |k::x,[],_,_,hx,_,e=>absurd (List.mem_cons.mpr (.inl (List.cons.inj e).1.symm)) hx
 |k::x,m::y,_,_,hx,hy,e=>by
  obtain⟨e1,e2⟩:=List.cons.inj e
  obtain⟨h1,h2⟩:=zm5 (fun h=>hx (List.mem_cons.mpr (.inr h))) (fun h=>hy (List.mem_cons.mpr (.inr h))) e2
  exact⟨by rw [e1,h1],h2⟩
theorem join_list (c:Nat)(x y:Str)(r:List Str):(Str.join ⟨#[c]⟩ (x::y::r)).cps.toList=x.cps.toList++c::(Str.join ⟨#[c]⟩ (y::r)).cps.toList:=by
 show ((x.cps++#[c])++(Str.join ⟨#[c]⟩ (y::r)).cps).toList=_
 simp
theorem zli {x y:Str}(h:x.cps.toList=y.cps.toList):x=y:=by
 cases x with|mk a=>cases y with|mk b=>exact congrArg Str.mk (Array.toList_inj.mp h)
theorem ziH {c:Nat}:∀ {zs ws:List Str},zs≠[]->ws≠[]->(∀ w∈zs,c∉w.cps.toList)->(∀ w∈ws,c∉w.cps.toList)->Str.join ⟨#[c]⟩ zs=Str.join ⟨#[c]⟩ ws->zs=ws
 |[],_,h,_,_,_,_=>absurd rfl h
 |_::_,[],_,h,_,_,_=>absurd rfl h
 |[x],[y],_,_,_,_,e=>congrArg (fun z=>[z]) e
 |[x],y::y2::r,_,_,hx,_,e=>by
  have e':x.cps.toList=_:=(congrArg (fun z:Str=>z.cps.toList) e).trans (join_list c y y2 r)
  exact absurd (by rw [e'];simp) (hx x (List.mem_singleton.mpr rfl))
 |x::x2::r,[y],_,_,_,hy,e=>by
  have e':_=y.cps.toList:=(join_list c x x2 r).symm.trans (congrArg (fun z:Str=>z.cps.toList) e)
  exact absurd (by rw [<- e'];simp) (hy y (List.mem_singleton.mpr rfl))
 |x::x2::r,y::y2::q,_,_,hx,hy,e=>by
  have e':=(join_list c x x2 r).symm.trans ((congrArg (fun z:Str=>z.cps.toList) e).trans (join_list c y y2 q))
  obtain⟨h1,h2⟩:=zm5 (hx x (List.mem_cons.mpr (.inl rfl))) (hy y (List.mem_cons.mpr (.inl rfl))) e'
  rw [zli h1,ziH (List.cons_ne_nil _ _) (List.cons_ne_nil _ _) (fun w hw=>hx w (List.mem_cons.mpr (.inr hw))) (fun w hw=>hy w (List.mem_cons.mpr (.inr hw))) (zli h2)]
theorem zfQ.is {z:Str}{c:Nat}{zs:List Str}(h:zfQ z c zs):PySem.Txt.split z ⟨#[c]⟩=zs:=by
 refine ziH (c:=c) ?_ h.1 (PySem.StrLaws.split_free z c) h.2.1 ((PySem.StrLaws.join_split z _).trans h.2.2.symm)
 intro e
 have:=split_pos z ⟨#[c]⟩
 rw [e] at this
 exact absurd this (by decide)
theorem ziP (c:Nat):∀ l:List Nat,PyProof.Rows.cnt c l=(l.count c:Int)
 |[]=>rfl
 |k::r=>by
  rw [PyProof.Rows.cnt_cons,ziP c r,List.count_cons]
  by_cases e:k=c
  ·subst e;simp;omega
  ·rw [if_neg e,if_neg (by simpa using e)];simp
section
variable {X:Cx}{a b:Expr}{ta tb:DE}{pos apos cpos:Pos}[B:Bs]
theorem znE {prog:Program}{w:World}{A:Around}{E:Value->Shared->Prop}{s:Shared}{Q:Value->Shared->Prop}{x:Str}{t:Tok}{a:Sem Value}(h:wpAny (model prog w) A a (fun v s1=>∃ c u,v=.str ⟨#[c]⟩ u/\x.length<big/\∀ l tk,l.map (·.1)=PySem.Txt.split x ⟨#[c]⟩->Q (.ref s1.heap.objs.size) { s1 with toks:=tk,heap:=s1.heap.push { cls:=.type "list",data:=.seq (PySem.strValues l).toArray } }) E s):PySem.MethodOnS prog w A E "split" (.str x t) pos [(false,a)] Q s:=by
 refine⟨"str",_,F.plainAttrs_str,F.slot_str_split,F.type_str_split,typeIs_str _ _ _,(fun _ e=>nomatch e),method1_meets F.slot_str_split F.entry_str_split (wpAny_mono h (fun v s1 ⟨c,u,ev,hx,q⟩=>?_) fun _ _ e=>e)⟩
 subst ev
 refine⟨typeIs_str _ _ _,F.args_str_split_2 _ _,?_⟩
 have hb:big+2<=sizeLine:=by decide
 have hn:(Builtin.Str.partsBetween x (Builtin.Str.occurrences x ⟨#[c]⟩ 0 x.length (x.length+1)) (⟨#[c]⟩:Str).length).length<=sizeLine:=by
  rw [len_partsBetween]
  have:=PySem.StrLaws.occ_length_le x ⟨#[c]⟩ 0 x.length (x.length+1)
  omega
 by_cases h1:(decide (x.length<(⟨#[c]⟩:Str).length)||decide (Builtin.Str.strKind x<Builtin.Str.strKind ⟨#[c]⟩))=true
 ·exact⟨_,meets_str_split_cannot_occur x _ t u h1,q [(x,t)] _ (if_pos h1).symm⟩
 ·have h1':=Bool.eq_false_iff.mpr h1
  by_cases hf:(Builtin.Str.occurrences x ⟨#[c]⟩ 0 x.length (x.length+1)).isEmpty=true
  ·exact⟨_,meets_str_split_not_found x _ t u h1' rfl hf,q [(x,t)] _ ((if_neg h1).trans (if_pos hf)).symm⟩
  ·refine⟨_,meets_str_split_sep x _ t u h1' rfl (Bool.eq_false_iff.mpr hf) (by omega) hn,?_⟩
   have k:=q (numbered s1.toks _) (s1.toks+(Builtin.Str.partsBetween x (Builtin.Str.occurrences x ⟨#[c]⟩ 0 x.length (x.length+1)) (⟨#[c]⟩:Str).length).length) ((numbered_texts _ _).trans ((if_neg h1).trans (if_neg hf)).symm)
   rw [<- strsFrom_eq] at k
   exact k
theorem ziO:∀ {l:List (Str×Tok)},Vals ((l.map (·.1)).map V.str) (PySem.strValues l)
 |[]=>.nil
 |(z,t)::l=>.cons ⟨t,rfl⟩ ziO
def zqU (ta tb:TE):TE:=fun σ H Q=>ta σ H fun x H1=>(∃ z,x=.str z)/\tb σ H1 fun y H2=>∃ z c zs,x=.str z/\y=.str ⟨#[c]⟩/\z.length<big/\zfQ z c zs/\∀ l,H2 l=none->Q (.ref l) (upd H2 l (.lst (zs.map V.str)))
theorem zoj {ta tb:TE}(ha:PE X a ta)(hb:PE X b tb)(hbase:attributeBase a "split" X.env (eval a X.env)=eval a X.env)(hs:starEach [b] X.env=[(false,eval b X.env)])(hline:(apos.endLine==cpos.line)=true):PE X (.Call (.Attribute a "split" apos) [b] [] cpos) (zqU ta tb):=by
 intro pins s σ H Q I h
 refine PySem.Call_method1 hbase hs hline (thn (ha pins s σ H _ I h) fun u s1 ⟨x,H1,I1,rx,⟨z,ex⟩,q1⟩=>?_)
 subst ex
 obtain⟨t,rfl⟩:=rx
 refine znE (thn (hb pins s1 σ H1 _ I1 q1) fun v s2 ⟨y,H2,I2,ry,z',c,zs,e1,e2,hz,hs,q2⟩=>?_)
 cases e1
 subst e2
 obtain⟨t',rfl⟩:=ry
 refine⟨c,t',rfl,hz,fun l tk el=>⟨.ref _,_,I2.lnew (t':=tk) (ys:=zs.map V.str) ?_ ?_,rfl,q2 _ I2.fresh⟩⟩
 ·rw [<- hs.is,<- el];exact ziO
 ·have:=split_le z ⟨#[c]⟩
  have hb:big+2<=sizeLine:=by decide
  rw [List.length_map,<- hs.is];omega
theorem ziG {K:PySem.W.Frag}{ad:List Addr}{H:Hp}:∀ {zs:List Str},zA K ad H (zs.map D.str) (zs.map V.str)
 |[]=>.nil
 |z::zs=>.cons (.str z) ziG
theorem zgJ (ha:PD X a ta)(hb:PD X b tb)(hbase:attributeBase a "split" X.env (eval a X.env)=eval a X.env:=by rfl)(hl:isStar b=false:=by rfl)(hline:(apos.endLine==cpos.line)=true:=by rfl):PD X (.Call (.Attribute a "split" apos) [b] [] cpos) (zf3 ta tb):=by with_unfolding_all exact (zau (zoj ha hb hbase (zcj hl) hline) fun σ H Q hh=>el8 hh fun ad ρ S Q0 st rh q k =>
 ⟨ad,ρ,S,_,st,rh,q,fun x S1 v H1 ad1 ⟨⟨z,ex⟩,q1⟩ w1 st1 r1=>by
  subst ex
  cases r1
  exact⟨⟨z,rfl⟩,ad1,ρ,S1,_,st1,rh.wd w1,q1,fun y S2 u H2 ad2 ⟨z',c,zs,e1,e2,hz,hs,q2⟩ w2 st2 r2=>by
   cases e1
   subst e2
   cases r2
   exact⟨z,c,zs,rfl,rfl,hz,hs,fun l hl=>k _ _ _ _ _ q2 ((w1.trans w2).trans (Wd.newL st2 hl)) (st2.newL hl ziG) st2.newRef⟩⟩⟩)
def zqZ (ta tb:TE):TE:=fun σ H Q=>ta σ H fun x H1=>(∃ z,x=.str z)/\tb σ H1 fun y H2=>∃ z c,x=.str z/\y=.str ⟨#[c]⟩/\Q (.int (z.cps.toList.count c)) H2
theorem znC {ta tb:TE}(ha:PE X a ta)(hb:PE X b tb)(hbase:attributeBase a "count" X.env (eval a X.env)=eval a X.env)(hs:starEach [b] X.env=[(false,eval b X.env)])(hline:(apos.endLine==cpos.line)=true):PE X (.Call (.Attribute a "count" apos) [b] [] cpos) (zqZ ta tb):=by
 intro pins s σ H Q I h
 refine PySem.Call_method1 hbase hs hline (thn (ha pins s σ H _ I h) fun u s1 ⟨x,H1,I1,rx,⟨z,ex⟩,q1⟩=>?_)
 subst ex
 obtain⟨t,rfl⟩:=rx
 refine PySem.SB.count (thn (hb pins s1 σ H1 _ I1 q1) fun v s2 ⟨y,H2,I2,ry,z',c,e1,e2,q2⟩=>?_)
 cases e1
 subst e2
 obtain⟨t',rfl⟩:=ry
 have e:PySem.Txt.count z ⟨#[c]⟩=(z.cps.toList.count c:Int):=(count_is z c).trans (ziP c _)
 exact⟨_,_,rfl,.int _,H2,I2.tok _,⟨_,by rw [e]⟩,q2⟩
theorem znO (ha:PD X a ta)(hb:PD X b tb)(hbase:attributeBase a "count" X.env (eval a X.env)=eval a X.env:=by rfl)(hl:isStar b=false:=by rfl)(hline:(apos.endLine==cpos.line)=true:=by rfl):PD X (.Call (.Attribute a "count" apos) [b] [] cpos) (zjt ta tb):=by with_unfolding_all exact (zau (znC ha hb hbase (zcj hl) hline) fun σ H Q hh=>el8 hh fun ad ρ S Q0 st rh q k =>
 ⟨ad,ρ,S,_,st,rh,q,fun x S1 v H1 ad1 ⟨⟨z,ex⟩,q1⟩ w1 st1 r1=>by
  subst ex
  cases r1
  exact⟨⟨z,rfl⟩,ad1,ρ,S1,_,st1,rh.wd w1,q1,fun y S2 u H2 ad2 ⟨z',c,e1,e2,q2⟩ w2 st2 r2=>by
   cases e1
   subst e2
   cases r2
   exact⟨z,c,rfl,rfl,k _ S2 _ H2 ad2 q2 (w1.trans w2) st2 (.int _)⟩⟩⟩)
end
def KtR (K:PySem.W.Frag)(v:Value)(cs:List (List D)):Prop:=∃ a vs,v=.ref a/\zib K a vs/\∀ ad H,zA K ad H (cs.map D.kt) vs
def ktV:Value->D->Bool
 |.none,.non=>true
 |.int j _,.int i=>decide (i=j)
 |.str y _,.str x=>x==y
 |_,_=>false
def zjj:List Value->List D->Bool
 |[],[]=>true
 |v::vs,d::ds=>ktV v d&&zjj vs ds
 |_,_=>false
def zjc (K:PySem.W.Frag)(a:Addr):Option (List Value):=match K.lookup a with
 |some o=>match o.cls,o.data with
  | .type n,.seq its _=>if (n=="tuple"&&decide (its.size<=sizeLine))=true then some its.toList else none
  |_,_=>none
 |none=>none
def zjk (K:PySem.W.Frag)(v:Value)(c:List D):Bool:=match v with
 |.ref a=>match zjc K a with
  |some us=>zjj us c
  |none=>false
 |_=>false
def zhx (K:PySem.W.Frag):List Value->List (List D)->Bool
 |[],[]=>true
 |v::vs,c::cs=>zjk K v c&&zhx K vs cs
 |_,_=>false
def znF (K:PySem.W.Frag)(a:Addr)(cs:List (List D)):Bool:=match zjc K a with
 |some us=>zhx K us cs
 |none=>false
theorem zrb {v:Value}{d:D}(h:ktV v d=true):∃ x,RelV x v/\∀ K ad H,Rel K ad H d x:=by
 unfold ktV at h
 split at h
 ·exact⟨.non,rfl,fun _ _ _=>.non⟩
 ·rename_i j t i
  have:=of_decide_eq_true h
  subst this
  exact⟨.int i,⟨t,rfl⟩,fun _ _ _=>.int i⟩
 ·rename_i y t x
  have:=eq_of_beq h
  subst this
  exact⟨.str x,⟨t,rfl⟩,fun _ _ _=>.str x⟩
 ·cases h
theorem zjM:∀ {us:List Value} {ds:List D},zjj us ds=true->∃ vs,Vals vs us/\∀ K ad H,zA K ad H ds vs
 |[],[],_=>⟨[],.nil,fun _ _ _=>.nil⟩
 |[],_::_,h=>by cases h
 |_::_,[],h=>by cases h
 |v::us,d::ds,h=>by
  have h:(ktV v d&&zjj us ds)=true:=h
  rw [Bool.and_eq_true] at h
  obtain⟨x,r1,r2⟩:=zrb h.1
  obtain⟨vs,q1,q2⟩:=zjM h.2
  exact⟨x::vs,.cons r1 q1,fun K ad H=>.cons (r2 K ad H) (q2 K ad H)⟩
theorem zkx {K:PySem.W.Frag}{a:Addr}{us:List Value}(h:zjc K a=some us){vs:List V}(r:Vals vs us):zib K a vs:=by
 unfold zjc at h
 split at h
 ·rename_i o ho
  split at h
  ·rename_i n its m hc hd
   split at h
   ·rename_i hb
    rw [Bool.and_eq_true] at hb
    cases h
    exact⟨o,its,m,ho,by rw [hc,eq_of_beq hb.1],hd,of_decide_eq_true hb.2,r⟩
   ·cases h
  ·cases h
 ·cases h
theorem znX {K:PySem.W.Frag}{v:Value}{c:List D}(h:zjk K v c=true):∃ x,RelV x v/\∀ ad H,Rel K ad H (.kt c) x:=by
 unfold zjk at h
 split at h
 ·rename_i a
  split at h
  ·rename_i us hs
   obtain⟨vs,q1,q2⟩:=zjM h
   exact⟨.ref a,rfl,fun ad H=>.kt (zkx hs q1) (q2 K ad H)⟩
  ·cases h
 ·cases h
theorem zis {K:PySem.W.Frag}:∀ {us:List Value} {cs:List (List D)},zhx K us cs=true->∃ vs,Vals vs us/\∀ ad H,zA K ad H (cs.map D.kt) vs
 |[],[],_=>⟨[],.nil,fun _ _=>.nil⟩
 |[],_::_,h=>by cases h
 |_::_,[],h=>by cases h
 |v::us,c::cs,h=>by
  have h:(zjk K v c&&zhx K us cs)=true:=h
  rw [Bool.and_eq_true] at h
  obtain⟨x,r1,r2⟩:=znX h.1
  obtain⟨vs,q1,q2⟩:=zis h.2
  exact⟨x::vs,.cons r1 q1,fun ad H=>.cons (r2 ad H) (q2 ad H)⟩
theorem KtR.of {K:PySem.W.Frag}{a:Addr}{cs:List (List D)}(h:znF K a cs=true):KtR K (.ref a) cs:=by
 unfold znF at h
 split at h
 ·rename_i us hs
  obtain⟨vs,q1,q2⟩:=zis h
  exact⟨a,vs,rfl,zkx hs q1,q2⟩
 ·cases h
section
variable {X:Cx}{tg:Expr}{pos:Pos}{b:Nat}[B:Bs]
theorem zsv {K:PySem.W.Frag}{ad:List Addr}{H:Hp}{a:Addr}{vs:List V}{ds:List D}(h:zib K a vs)(r:zA K ad H ds vs):zh5 K ad H ⟨ds,fun _=>True⟩ (Itt K a) where
 go:=fun ad1 H1 S i w st _ hi=>⟨vs,vs[i]'(by rw [<- r.length];exact hi),h.sq,List.getElem?_eq_getElem _⟩
 yld:=fun ad1 H1 S i d x H' w st _ hd ⟨e,hx⟩=>by
  subst e
  obtain⟨v,ev,rv⟩:=r.get hd
  rw [hx vs h.sq] at ev
  cases ev
  exact⟨Wd.refl,st,rv.wd w⟩
 stop:=fun ad1 H1 S w st _=>⟨vs,h.sq,by rw [<- r.length];exact Nat.le_refl _⟩
theorem zss {x:Str}{cs:List (List D)}(hg:Gl X x)(hm:∃ v,X.mg x=some v/\KtR X.K v cs)(hd:(x==("__debug__":Str))=false:=by decide):PID X tg (.Name x pos) (iKt cs):=by
 with_unfolding_all
  obtain⟨v,hm,a,vs,rfl,hs,rs⟩:=hm
  exact zh9 (ziQ (zhD (v:=.ref a) hg hm rfl hd)) fun σ H R hh=>el8 hh fun ad ρ S R0 st rh q k =>
   .inl ⟨a,rfl,.inr ⟨⟨_,hs.sq⟩,k _ S _ H ad q Wd.refl st (zsv hs (rs ad H))⟩⟩
theorem zrg {es:List Expr}{k n:Nat}{t:DGs}(hc:X.calm=true)(h:zjX X b es t)(hn:(assignEach es X.env).length=n:=by rfl)(hst:(assignEach es X.env).findIdx? (·.1)=none:=by rfl):PGD X b (.Tuple es k pos) (gKt n t):=by
 obtain⟨g,p,r⟩:=h
 refine⟨_,zg8 hc p hn hst,fun ad H S ρ σ d v Q0 Q st rh rv ⟨xs,ed,hl,q⟩ k=>?_⟩
 subst ed
 cases rv with
 |kt h1 rs=>exact⟨_,_,rfl,h1.sq,by rw [<- rs.length];exact hl,r ad H S ρ σ xs _ _ _ st rh rs q k⟩
end
end Dp
namespace My
open PySem PySem.Spec PyProof.Rows L2
section
variable {X:Cx}{pins pl:List (Addr×Obj)}{σ:L2.St}{H H':Hp}{s:Shared}{a:Addr}{o:Obj}
end
end My
namespace Dp
open PySem PySem.Spec PyProof.Rows L2 My
section
variable {K:PySem.W.Frag}{ad:List Addr}{H H':Hp}{S:Sto}[B:Bs]
end
end Dp
open PySem Dp
local macro_rules | `(tactic| walk_at "dat")=>`(tactic| first | assumption | exact zaN | exact zk3 | (refine (zbo _ _ _).trans ?_;exact rfl) | exact zQ (by assumption))
local macro_rules | `(tactic| walk_at "dlat")=>`(tactic| first | assumption | exact Lst.rl | exact Lst.at0 | exact Lst.new | (refine Lst.at ?_;exact rfl) | exact Lst.old (by assumption) | exact Lst.here (by assumption) | exact Lst.here (zQ (by assumption)))
local macro_rules | `(tactic| walk_at "dseq")=>`(tactic| first | exact Or.inl rfl | (refine Or.inr ?_;walk_at "dlat"))
local macro_rules | `(tactic| walk_at "dbd")=>`(tactic| first | assumption | exact My.Bd.mono (by assumption) (by decide) | exact My.Bd.lit (by decide) (by decide) | (refine My.Bd.add ?_ ?_<;>walk_at "dbd") | (refine My.Bd.sub ?_ ?_<;>walk_at "dbd") | (refine My.Bd.neg ?_;walk_at "dbd") | (refine My.Bd.mulH ?_ ?_<;>walk_at "dbd") | (refine My.Bd.emod (by omega) ?_;walk_at "dbd") | (refine My.Bd.ediv ?_;walk_at "dbd"))
local macro_rules | `(tactic| walk_at "dmul")=>`(tactic| first | assumption | exact Or.inr (Or.inl (by omega)) | exact Or.inr (Or.inr (by omega)) | exact Or.inl ⟨by walk_at "dbd",by walk_at "dbd"⟩)
local macro_rules | `(tactic| walk_at "ddiv")=>`(tactic| first | assumption | exact⟨by omega,by walk_at "dbd"⟩)
local macro_rules | `(tactic| walk_at "dr1")=>`(tactic| with_reducible first|refine zqR ?_|refine zp3 ?_|refine ztR ?_|refine zrr ?_|refine zs3 ?_|refine zrW ?_|refine zn6 ?_|refine zo1 ?_|refine zpF ?_|refine zr5 ?_|refine ztN ?_)
local macro_rules | `(tactic| walk_at "dr1")=>`(tactic| first|((with_reducible refine zsK (xs:=?rvx) ?rvl ?_);(case rvl=>walk_at "dlat")))
local macro_rules | `(tactic| walk_at "dr1")=>`(tactic| with_reducible first|refine znp ?_|refine znI ?_|refine zsh ?_|refine zsz ?_|refine zsY ?_|refine zmv ?_|refine zrd ?_|refine zs6 ?_|refine ztq ?_)
local macro_rules | `(tactic| walk_at "dr1")=>`(tactic| first|((with_reducible refine zrF (xs:=?rvx) ?rvl ?_);(case rvl=>walk_at "dlat"))|((with_reducible refine zs0 (a:=?rvv) ?rvk ?_);(case rvk=>exact rfl))|((with_reducible refine zn8 (xs:=?rvx) ?rvk ?rvl ?_);(case rvk=>walk_at "dat");(case rvl=>first | exact Nat.lt_of_ble_eq_true rfl | assumption | (simp only [big,List.length_append,List.length_cons,List.length_nil,List.length_map] at *;omega))))
local macro_rules | `(tactic| walk_at "dr1")=>`(tactic| with_reducible first|refine zqA ?_|refine zr0 ?_|refine zqI ?_|refine zri ?_|refine zua ?_|refine zsV ?_|refine ztz ?_|refine zqj ?_|refine zrU ?_)
local macro_rules | `(tactic| walk_at "dr1")=>`(tactic| first|((with_reducible refine zrE ?rvk ?_);(case rvk=>exact rfl)))
local macro_rules | `(tactic| walk_at "dr1")=>`(tactic| with_reducible first|refine zqa ?_|refine zoX ?_)
local macro_rules | `(tactic| walk_at "dr1")=>`(tactic| first|((with_reducible refine zh3 (xs:=?rvx) ?rvl ?_);(case rvl=>walk_at "dat")))
local macro_rules | `(tactic| walk_at "dr1")=>`(tactic| with_reducible first|refine zi5 ?_|refine zhN ?_|refine zhl ?_)
local macro_rules | `(tactic| walk_at "dr1")=>`(tactic| first|((with_reducible refine zpv (xs:=?rvx) ?rvl ?_);(case rvl=>walk_at "dlat")))
local macro_rules | `(tactic| walk_at "dr1")=>`(tactic| with_reducible first|refine zpW ?_)
local macro_rules | `(tactic| walk_at "dr1")=>`(tactic| first|((with_reducible refine zrD (xs:=?rvx) ?rvl ?_);(case rvl=>walk_at "dlat"))|((with_reducible refine znP (xs:=?rvx) ?rvl ?_);(case rvl=>walk_at "dlat")))
local macro_rules | `(tactic| walk_at "dr1")=>`(tactic| with_reducible first|refine zrq ?_)
local macro_rules | `(tactic| walk_at "dr1")=>`(tactic| with_reducible first|refine zsa ?_|refine ztl ?_|refine zto ?_|refine zty ?_|refine zsp ?_|refine zbW ?_|refine zte ?_|refine zg0 ?_|refine zrs ?_|refine zqo ?_|refine zox ?_|refine ztp ?_)
local macro_rules | `(tactic| walk_at "dr1")=>`(tactic| first|((with_reducible refine zsA (ys:=?rvx) ?rvk ?_);(case rvk=>walk_at "dat")))
local macro_rules | `(tactic| walk_at "dr1")=>`(tactic| with_reducible first|refine zrM ?_|refine zoM ?_|refine r_b ?_|refine r_m ?_)
local macro_rules | `(tactic| walk_at "dr1")=>`(tactic| first|((with_reducible refine zsg ?rvk ?_);(case rvk=>exact rfl)))
local macro_rules | `(tactic| walk_at "dr1")=>`(tactic| with_reducible first|refine zts ?_)
local macro_rules | `(tactic| walk_at "dr1")=>`(tactic| with_reducible first|refine r_t ?_|refine ztA ?_|refine ztd ?_|refine zsq ?_|refine ztU ?_|refine zsS ?_|refine zql ?_|refine zqY ?_|refine zti ?_|refine ztg ?_|refine zj3 ?_|refine zop ?_)
local macro_rules | `(tactic| walk_at "dr1")=>`(tactic| first|((with_reducible refine zsN ?rvk ?_);(case rvk=>walk_at "dmul"))|((with_reducible refine zsk ?rvk ?_);(case rvk=>walk_at "ddiv"))|((with_reducible refine zr9 ?rvk ?_);(case rvk=>first | omega | assumption))|((with_reducible refine zsR (d:=?rvv) ?rvk ?_);(case rvk=>first | assumption | exact rfl))|((with_reducible refine zgi (xs:=?rvx) (d:=?rvv) ?rvl ?rvk ?_);(case rvl=>walk_at "dlat");(case rvk=>first | assumption | exact rfl)))
local macro_rules | `(tactic| walk_at "dr1")=>`(tactic| with_reducible first|refine r_c ?_|refine zly ?_|refine ztD ?_|refine ztn ?_|refine zta ?_|refine ztt ?_|refine zt0 ?_|refine ztZ ?_|refine ztS ?_|refine zsc ?_|refine zst ?_|refine ztv ?_)
local macro_rules | `(tactic| walk_at "dr1")=>`(tactic| first|((with_reducible refine zfo (d:=?rvv) ?rvk ?_);(case rvk=>exact rfl)))
local macro_rules | `(tactic| walk_at "dr1")=>`(tactic| with_reducible first|refine ztG ?_|refine zoL ?_)
local macro_rules | `(tactic| walk_at "dr1")=>`(tactic| first|((with_reducible refine zpm (g:=?rv1) (b:=?rv2) (f:=?rv3) (h:=?rv4) (a:=?rv5) (l:=?rv6) (d:=?rv7) ?rvk ?_);(case rvk=>walk_at "dat"))|((with_reducible refine zrH (g:=?rv1) (b:=?rv2) (f:=?rv3) (h:=?rv4) (a:=?rv5) (l:=?rv6) (d:=?rv7) ?rvk ?_);(case rvk=>walk_at "dat"))|((with_reducible refine zpr (g:=?rv1) (b:=?rv2) (f:=?rv3) (h:=?rv4) (a:=?rv5) (l:=?rv6) (d:=?rv7) ?rvk ?_);(case rvk=>walk_at "dat")))
local macro_rules | `(tactic| walk_at "dr1")=>`(tactic| first|((with_reducible refine ztr (l:=?rvx) ?rvk ?_);(case rvk=>walk_at "dat"))|((with_reducible refine znq (g:=?rv1) (b:=?rv2) (f:=?rv3) (h:=?rv4) (a:=?rv5) (l:=?rv6) (d:=?rv7) ?rvk ?_);(case rvk=>walk_at "dat"))|((with_reducible refine zms (g:=?rv1) (b:=?rv2) (f:=?rv3) (h:=?rv4) (a:=?rv5) (l:=?rv6) (d:=?rv7) ?rvk ?_);(case rvk=>walk_at "dat"))|((with_reducible refine zqb (g:=?rv1) (b:=?rv2) (f:=?rv3) (h:=?rv4) (a:=?rv5) (l:=?rv6) (d:=?rv7) ?rvk ?_);(case rvk=>walk_at "dat"))|((with_reducible refine zp4 (g:=?rv1) (b:=?rv2) (f:=?rv3) (h:=?rv4) (a:=?rv5) (l:=?rv6) (d:=?rv7) ?rvk ?_);(case rvk=>walk_at "dat")))
local macro_rules | `(tactic| walk_at "dr1")=>`(tactic| with_reducible first|refine zl5 ?_|refine zj0 ?_|refine zjg ?_|refine zpZ ?_|refine zrL ?_|refine zov ?_|refine zqG ?_|refine ztw ?_)
local macro_rules | `(tactic| walk_at "g")=>`(tactic| repeat walk_at "dr1")
local macro_rules | `(tactic| walk_at "drho")=>`(tactic| simp only [zdy,List.map_cons,List.map_nil,List.length_cons,List.length_nil,Nat.reduceSub,Nat.reduceAdd,List.replicate,List.cons_append,List.nil_append,List.set_cons_zero,List.set_cons_succ])
local macro_rules | `(tactic| walk_at "drho2")=>`(tactic| simp only [List.set_cons_zero,List.set_cons_succ])
namespace Dp
open PySem Rm My
def zbL:DSp:=fun ds S Q=>∃ (ns:List Int) (k:Nat),ds=[.rl (ns.map D.int),.int (k:Int)]/\Q (.int (ns.getD k 0)) S
def zdV:DS :=
    (zG (sIf (dT (dOp oLt (zc 1) (dB za1 (zj (zc 0) zu)))) (zai (dOp oIx (zc 0) (zc 1))) zad)
 (zai (dC (.int 0))))
theorem zjn:∀ ds So Q,zbL ds So Q->ds.length=2:=by rintro ds So Q ⟨_,_,rfl,_⟩;rfl
theorem zkV:BodyOk 2 zdV zbL:=by
 rintro ds S Q ⟨ns,k,rfl,q⟩
 unfold zdV
 walk_at "g"
 rw [List.length_map]
 refine r_d (fun h=>?_) (fun h=>?_)
 ·have hk:k<ns.length:=by omega
  have av:atD (ns.map D.int) (k:Int)=some (.int ns[k]):=zbR (by rw [List.getElem?_map,List.getElem?_eq_getElem hk];rfl)
  rw [List.getD_eq_getElem?_getD,List.getElem?_eq_getElem hk] at q
  walk_at "g"
  exact fin_same q
 ·rw [List.getD_eq_getElem?_getD,List.getElem?_eq_none (by omega)] at q
  walk_at "g"
  exact fin_same q
def zb3:DSp:=fun ds S Q=>∃ (ns:List Int) (st sz:Int),ds=[.rl (ns.map D.int),.int st,.int sz]/\ns.length<=63/\0<=st/\0<sz/\sz<60/\∀ zs:List Int,(zs.length:Int)=sz->New Q S (zs.map D.int)
def zcY:DS :=
    (zG (zO (dLC 1 [] (zdU (zj (zc 2) zu)) (zB 0) zaE (dOp zat (dOp zaM (zc 0) (zc 0)) (dC (.int 5)))) (zB 3))
 (zG (zc4 (zhh (zj (zc 1) (zj (dB za1 (zj (zc 0) zu)) zu))) (zB 4) (zO (dOp zat (dOp zaM (dOp oIx (zc 3) (dOp oMod (zc 4) (zc 2))) (dC (.int 3))) (dOp oIx (zc 0) (zc 4))) (zjv (zc 3) (dOp oMod (zc 4) (zc 2)))))
 (zai (zc 3))))
theorem zio:∀ ds So Q,zb3 ds So Q->ds.length=3:=by rintro ds So Q ⟨_,_,_,rfl,_⟩;rfl
theorem ziV:BodyOk 5 zcY zb3:=by
 rintro ds S Q ⟨ns,st,sz,rfl,hl,s0,z0,z1,q⟩
 unfold zcY
 walk_at "g"
 refine⟨_,rfl,by omega,by omega,?_⟩
 refine zbn (fun _=>true) (onI fun k=>.int (k*k+5)) True.intro (by rw [zbd];unfold big;omega) (fun i d ys hd hw=>?_) ?_
 ·obtain⟨hi,rfl⟩:=zcM hd
  have cm:zaK (0+(i:Int)) (0+(i:Int)):=.inr (.inr (show _<2 ^ 64 by omega))
  walk_at "g"
  exact zb6 hd hw rfl rfl
 rw [filter_true]
 obtain⟨t0,ht0,hl0⟩:∃ t0:List Int,(upto 0 sz.toNat).map (onI fun k=>D.int (k*k+5))=t0.map D.int/\(t0.length:Int)=sz:=⟨(List.range sz.toNat).map fun k:Nat=>(0+(k:Int))*(0+(k:Int))+5,by unfold upto;rw [List.map_map,List.map_map];rfl,by simp;omega⟩
 rw [ht0]
 walk_at "g"
 rw [List.length_map]
 walk_at "drho"
 refine⟨_,_,rfl,?_⟩
 refine zcd (fun i ρ S'=>∃ (zs:List Int) (w:Option D),S'=S++[.lst (zs.map D.int)]/\ρ=[some (.rl (ns.map D.int)),some (.int st),some (.int sz),some (.ref S.length),w]/\(zs.length:Int)=sz) ⟨t0,none,rfl,rfl,hl0⟩ (fun _ _ _ _=>True.intro) ?_ ?_
 ·rintro i d ρ S' hd ⟨zs,w,rfl,rfl,hzl⟩
  obtain⟨hi,rfl⟩:=zcM hd
  have r1:=Int.emod_nonneg (st+(i:Int)) (show sz≠0 by omega)
  have r2:=Int.emod_lt_of_pos (st+(i:Int)) z0
  obtain⟨a,_,aa⟩:=zdw (zs:=zs) (k:=(st+(i:Int))%sz) r1 (by omega)
  obtain⟨b,_,ab⟩:=zdw (zs:=ns) (k:=st+(i:Int)) (by omega) (by omega)
  walk_at "g"
  refine zth (n:=S.length) (xs:=zs.map D.int) zaN (zqH r1 (by omega)) (zg0 ?_)
  exact⟨zs.set ((st+(i:Int))%sz).toNat (a*3+b),_,by rw [List.map_set],rfl,by rw [List.length_set];exact hzl⟩
 rintro ρ S' ⟨zs,w,rfl,rfl,hzl⟩
 walk_at "g"
 exact fin_same (q zs hzl)
def zbs:DSp:=fun ds S Q=>∃ (c k:Int),ds=[.int c,.int k]/\0<=k/\k<3000/\∀ v,0<=v->v<2147483629->Q (.int v) S
def zdn:DS :=
    (zG (zO (dOp oMod (dOp zaM (dOp zat (dOp zat (dOp oMod (zc 0) (dC (.int 1000000007))) (dOp zaM (dC (.int 7919)) (zc 1))) (dC (.int 1))) (dC (.int 48271))) (dC (.int 2147483647))) (zB 2))
 (zai (dOp oMod (dOp zaM (zc 2) (zc 2)) (dC (.int 2147483629)))))
theorem zi2:∀ ds So Q,zbs ds So Q->ds.length=2:=by rintro ds So Q ⟨_,_,rfl,_⟩;rfl
theorem zju:BodyOk 3 zdn zbs:=by
 rintro ds S Q ⟨c,k,rfl,h0,hk,q⟩
 unfold zdn
 have h1:=Int.emod_nonneg c (b:=1000000007) (by decide)
 have h2:=Int.emod_lt_of_pos c (b:=1000000007) (by decide)
 have cm1:zaK (c%1000000007+7919*k+1) 48271:=.inr (.inr (show (48271:Int).natAbs<2 ^ 64 by decide))
 have h3:=Int.emod_nonneg ((c%1000000007+7919*k+1)*48271) (b:=2147483647) (by decide)
 have h4:=Int.emod_lt_of_pos ((c%1000000007+7919*k+1)*48271) (b:=2147483647) (by decide)
 have cm2:zaK ((c%1000000007+7919*k+1)*48271%2147483647) ((c%1000000007+7919*k+1)*48271%2147483647):=.inr (.inr (show _<2 ^ 64 by omega))
 walk_at "g"
 exact fin_same (q _ (Int.emod_nonneg _ (by decide)) (Int.emod_lt_of_pos _ (by decide)))
def zp5 (cs:List (Int×Int))(sc:Int):Prop:=∀ (i:Nat) a b,cs[i]?=some a->cs[i+1]?=some b->b.1-a.1<=4*sc
def zbr:DSp:=fun ds S Q=>∃ (x:D) (zs:List Int) (n sc:Int),ds=[x,.int n,.int sc]/\Lst S x (zs.map D.int)/\2<=n/\n<=12/\n<=zs.length/\1<=sc/\sc<=10 ^ 20/\∀ cs:List (Int×Int),Grd cs->(cs.length:Int)=n->zp5 cs sc->New Q S (cs.map p2)
def zb4:DS :=
    (zG (zO (za8 zu) (zB 3))
 (zG (zO (dUn zfI (dC (.int 10))) (zB 4))
 (zG (zc4 (zdU (zj (zc 1) zu)) (zB 5) (zG (zO (dCall zbs (zj (dOp oIx (zc 0) (zc 5)) (zj (zc 5) zu))) (zB 6))
 (zG (zaY (dM zbk (zc 3) (zj (dTup (zj (dOp zaM (zc 4) (zc 2)) (zj (dOp zaM (dOp oMod (dOp oDiv (zc 6) (dC (.int 8))) (dC (.int 9))) (zc 2)) zu))) zu)))
 (zO (dOp zat (dOp zat (zc 4) (dC (.int 1))) (dOp oMod (dOp oDiv (zc 6) (dC (.int 72))) (dC (.int 4)))) (zB 4)))))
 (zai (zc 3)))))
theorem zgt:∀ ds So Q,zbr ds So Q->ds.length=3:=by rintro ds So Q ⟨_,_,_,_,rfl,_⟩;rfl
theorem zgF:BodyOk 7 zb4 zbr:=by
 rintro ds S Q ⟨x,zs,n,sc,rfl,hx,n2,n12,nz,sc1,sc2,q⟩
 unfold zb4
 walk_at "g"
 refine⟨_,rfl,by omega,by omega,?_⟩
 refine zcd (fun i ρ S'=>∃ (cs:List (Int×Int)) (u:Int) (w1 w2:Option D),S'=S++[.lst (cs.map p2)]/\ρ=[some x,some (.int n),some (.int sc),some (.ref S.length),some (.int u),w1,w2]/\cs.length=i/\-10<=u/\u<=-10+4*(i:Int)/\(cs.Pairwise fun a b=>a.1<b.1)/\zp5 cs sc/\(∀ c∈cs,c.1<u*sc/\-(10*10 ^ 20)<=c.1/\0<=c.2/\c.2<=8*10 ^ 20)/\∀ z,cs[cs.length-1]?=some z->u*sc-z.1<=4*sc) ⟨[],-10,none,none,rfl,rfl,rfl,by omega,by omega,.nil,fun i a b h=>by simp at h,by simp,fun z h=>by simp at h⟩ (fun _ _ _ _=>True.intro) ?_ ?_
 ·rintro i d ρ S' hd ⟨cs,u,w1,w2,rfl,rfl,hcl,u0,u1,hp,hn,hc,hz⟩
  obtain⟨hi,rfl⟩:=zcM hd
  have hx':Lst (S++[.lst (cs.map p2)]) x (zs.map D.int):=hx.old
  obtain⟨z,_,az⟩:=zdw (zs:=zs) (k:=(0:Int)+(i:Int)) (by omega) (by omega)
  have hlim:(cs.map p2).length<big:=by rw [List.length_map];unfold big;omega
  walk_at "g"
  refine⟨z,_,rfl,by omega,by omega,fun m m0 m1=>?_⟩
  have h0:=Int.emod_nonneg (m/8) (show (9:Int)≠0 by decide)
  have h1:=Int.emod_lt_of_pos (m/8) (show (0:Int)<9 by decide)
  have cm1:zaK u sc:=.inr (.inl (show _<2 ^ 64 by omega))
  have cm2:zaK (m/8%9) sc:=.inr (.inl (show _<2 ^ 64 by omega))
  have k1:=Int.mul_nonneg h0 (show 0<=sc by omega)
  have k2:m/8%9*sc<=8*10 ^ 20:=by
   have:=Int.mul_le_mul (show m/8%9<=8 by omega) sc2 (by omega) (by decide)
   exact this
  have k3:-(10*10 ^ 20)<=u*sc:=by
   rcases Int.lt_or_le u 0 with g|g
   ·have:=Int.mul_le_mul (show -u<=10 by omega) sc2 (by omega) (by decide)
    rw [Int.neg_mul] at this
    omega
   ·have:=Int.mul_nonneg g (show 0<=sc by omega)
    omega
  have v0:=Int.emod_nonneg (m/72) (show (4:Int)≠0 by decide)
  have v1:=Int.emod_lt_of_pos (m/72) (show (0:Int)<4 by decide)
  walk_at "g"
  generalize m/72%4=v at v0 v1 ⊢
  generalize hh:m/8%9*sc=hgt at k1 k2 ⊢
  have es:(u+1+v)*sc=u*sc+(1+v)*sc:=by grind
  have ks1:sc<=(1+v)*sc:=by
   have:=Int.mul_le_mul_of_nonneg_right (show 1<=1+v by omega) (show 0<=sc by omega)
   omega
  have ks2:(1+v)*sc<=4*sc:=Int.mul_le_mul_of_nonneg_right (by omega) (by omega)
  refine⟨cs++[(u*sc,hgt)],u+1+v,_,_,by rw [List.map_append];rfl,rfl,by simp [hcl],by omega,by omega,List.pairwise_append.mpr ⟨hp,List.pairwise_singleton _ _,fun a ha b hb=>?_⟩,fun j a b ha hb=>?_,fun c hc'=>?_,fun z' hz'=>?_⟩
  ·have:b=(u*sc,hgt):=by simpa using hb
   subst this
   exact (hc a ha).1
  ·have lb:=zae hb
   rw [List.length_append] at lb
   have lb':j+1<cs.length+1:=lb
   rcases Nat.lt_or_ge (j+1) cs.length with e|e
   ·rw [List.getElem?_append_left (by omega)] at ha hb
    exact hn j a b ha hb
   ·have e1:j+1=cs.length:=by omega
    rw [List.getElem?_append_right (by omega),show j+1-cs.length=0 by omega] at hb
    have:(u*sc,hgt)=b:=by simpa using hb
    subst this
    rw [List.getElem?_append_left (by omega)] at ha
    exact hz a (by rw [show cs.length-1=j by omega];exact ha)
  ·rcases List.mem_append.mp hc' with h|h
   ·have:=hc c h
    exact⟨by omega,this.2.1,this.2.2.1,this.2.2.2⟩
   ·have:c=(u*sc,hgt):=by simpa using h
    subst this
    exact⟨by show u*sc<_;omega,k3,k1,k2⟩
  ·rw [List.length_append,show cs.length+[(u*sc,hgt)].length-1=cs.length by simp,List.getElem?_append_right (Nat.le_refl _),Nat.sub_self] at hz'
   have:(u*sc,hgt)=z':=by simpa using hz'
   subst this
   show (u+1+v)*sc-u*sc<=4*sc
   omega
 ·rintro ρ S' ⟨cs,u,w1,w2,rfl,rfl,hcl,u0,u1,hp,hn,hc,hz⟩
  rw [zbd] at hcl u1
  walk_at "g"
  have hus:u*sc<=40*10 ^ 20:=by
   rcases Int.lt_or_le u 0 with g|g
   ·have:=Int.mul_nonneg (show 0<=-u by omega) (show 0<=sc by omega)
    rw [Int.neg_mul] at this
    omega
   ·exact Int.mul_le_mul (show u<=40 by omega) sc2 (by omega) (by decide)
  exact fin_same (q cs ⟨by omega,by omega,hp,fun c hc'=>⟨by have:=hc c hc';show _<2 ^ 170;omega,by have:=hc c hc';show _<2 ^ 190;omega⟩⟩ (by omega) hn)
def stemOf (b:Int):Str:=if b%4=0 then "" else if b%4=1 then "q" else if b%4=2 then "peak" else "hill"
def zbp (b:Int)(k:Nat):Str:=stemOf b++⟨#[97+((b/4+7*(k:Int))%26).toNat]⟩
theorem zj4 (b:Int):(stemOf b).length<=4:=by
  unfold stemOf
  split
  · decide +kernel
  · split
    · decide +kernel
    · split<;>decide +kernel
theorem zlG:∀ i:_root_.Fin 26,atS "abcdefghijklmnopqrstuvwxyz" ((i.val:Nat):Int)=some (97+i.val):=by decide +kernel
theorem zsn (b:Int)(k:Nat):fl 20 (.str (zbp b k))=true:=by
  show (stemOf b++(⟨#[97+((b/4+7*(k:Int))%26).toNat]⟩:Str)).cps.all (· < 0x110000)=true
  show ((stemOf b).cps++#[97+((b/4+7*(k:Int))%26).toNat]).all (· < 0x110000)=true
  rw [Array.all_append,Bool.and_eq_true]
  refine⟨?_,?_⟩
  · unfold stemOf
    split
    · decide +kernel
    · split
      · decide +kernel
      · split<;>decide +kernel
  · have:=Int.emod_lt_of_pos (b/4+7*(k:Int)) (show (0:Int)<26 by decide)
    simp
    omega
def zcc:DSp:=fun ds S Q=>∃ b:Int,ds=[.int b]/\∀ g:Cell,Q (.ref (S.length+1)) (S++[g,.lst ((List.range 14).map fun k=>.str (zbp b k))])
def zdp:DS :=
    (zG (zO (dOp oIx (za8 (zj (dC (.str "")) (zj (dC (.str "q")) (zj (dC (.str "peak")) (zj (dC (.str "hill")) zu))))) (dOp oMod (zc 0) (dC (.int 4)))) (zB 1))
 (zai (dLC 1 [1,0] (zdU (zj (dC (.int 14)) zu)) (zB 0) zaE (dOp zat (zc 1) (dOp oIx (dC (.str "abcdefghijklmnopqrstuvwxyz")) (dOp oMod (dOp zat (dOp oDiv (zc 2) (dC (.int 4))) (dOp zaM (dC (.int 7)) (zc 0))) (dC (.int 26))))))))
theorem zja:∀ ds So Q,zcc ds So Q->ds.length=1:=by rintro ds So Q ⟨_,rfl,_⟩;rfl
theorem zjO:BodyOk 2 zdp zcc:=by
  rintro ds S Q ⟨b,rfl,q⟩
  unfold zdp
  have hb:b%4=0\/b%4=1\/b%4=2\/b%4=3:=by omega
  have as:atD [.str "",.str "q",.str "peak",.str "hill"] (b%4)=some (.str (stemOf b)):=by
    unfold stemOf
    rcases hb with e|e|e|e<;>rw [e]<;>rfl
  have sl:=zj4 b
  walk_at "g"
  refine⟨_,rfl,by decide,by decide,?_⟩
  refine zbn (fun _=>true) (onI fun k=>.str (zbp b k.toNat)) True.intro (by rw [zbd];decide) (fun i d ys hd hw=>?_) ?_
  · obtain⟨hi,rfl⟩:=zcM hd
    have r1:=Int.emod_nonneg (b/4+7*(0+(i:Int))) (show (26:Int)≠0 by decide)
    have r2:=Int.emod_lt_of_pos (b/4+7*(0+(i:Int))) (show (0:Int)<26 by decide)
    walk_at "g"
    refine zoC (z:="abcdefghijklmnopqrstuvwxyz") (c:=97+((b/4+7*(0+(i:Int)))%26).toNat) (by decide +kernel) ?_ ?_
    · have:=zlG ⟨((b/4+7*(0+(i:Int)))%26).toNat,by omega⟩
      rw [show ((((b/4+7*(0+(i:Int)))%26).toNat:Nat):Int)=(b/4+7*(0+(i:Int)))%26 by omega] at this
      exact this
    walk_at "g"
    refine zj1 (by show (stemOf b).length+1<=big;unfold big;omega) ?_
    refine zb6 hd hw rfl ?_
    show _=D.str (zbp b (0+(i:Int)).toNat)
    unfold zbp
    rw [show (((0+(i:Int)).toNat:Nat):Int)=0+(i:Int) by omega]
  rw [filter_true]
  have e:(upto 0 (14:Int).toNat).map (onI fun k=>D.str (zbp b k.toNat))=(List.range 14).map fun k=>D.str (zbp b k):=by
    unfold upto
    rw [List.map_map]
    refine List.map_congr_left fun k _=>?_
    show D.str (zbp b (0+(k:Int)).toNat)=_
    rw [show (0+(k:Int)).toNat=k by omega]
  rw [e]
  walk_at "g"
  exact fin_same (q _)
def zcz:DSp:=fun ds S Q=>∃ (x:D) (cs:List (Int×Int)) (a:Int),ds=[x,.int a]/\Lst S x (cs.map p2)/\Grd cs/\Bd 180 a/\OnG cs (a,1)/\Q (.int (zcT cs a)) S
def zdS:DS :=
    (zG (zc4 (zhh (zj (dC (.int 1)) (zj (dB za1 (zj (zc 0) zu)) zu))) (zB 2) (zG (zO (dOp oIx (zc 0) (dOp zbX (zc 2) (dC (.int 1)))) (zB 3))
 (zG (zO (dOp oIx (zc 0) (zc 2)) (zB 4))
 (sIf (ze8 (dT (dOp oLe (dOp oIx (zc 3) (dC (.int 0))) (zc 1))) (dT (dOp oLe (zc 1) (dOp oIx (zc 4) (dC (.int 0)))))) (zG (zO (dOp zaM (dOp zbX (dOp oIx (zc 4) (dC (.int 1))) (dOp oIx (zc 3) (dC (.int 1)))) (dOp zbX (zc 1) (dOp oIx (zc 3) (dC (.int 0))))) (zB 5))
 (zai (dOp zbX (dOp oIx (zc 3) (dC (.int 1))) (dOp oDiv (dUn zfI (zc 5)) (dOp zbX (dOp oIx (zc 4) (dC (.int 0))) (dOp oIx (zc 3) (dC (.int 0)))))))) zad))))
 (zai (dC .non)))
theorem zks:∀ ds So Q,zcz ds So Q->ds.length=2:=by rintro ds So Q ⟨_,_,_,rfl,_⟩;rfl
theorem zkD:BodyOk 6 zdS zcz:=by
 rintro ds S Q ⟨x,cs,a,rfl,hx,gr,ba,on,q⟩
 unfold zdS
 have g1:=gr.two
 obtain⟨kk,l,r,hkl,hkr,hle,hlt⟩:=zg4 gr.two on.2
 have seg:=seg_at hkl hkr hle hlt
 have hle':a<=r.1:=by have:a<=r.1*1:=hle;omega
 have hab:=zdA gr (show kk<kk+1 by omega) hkl hkr
 have hlo:l.1<=a:=by
  cases kk with
  |zero =>
   obtain⟨f,hf,ef⟩:=zcJ gr
   have h:=on.1
   rw [ef] at h
   rw [hkl] at hf;cases hf
   have:l.1*1<=a:=h
   omega
  |succ j =>
   have:=hlt (j+1) l (by omega) (by omega) hkl
   have:l.1*1<a:=this
   omega
 have q':Q (.int (l.2-(-((r.2-l.2)*(a-l.1)))/(r.1-l.1))) S:=by
  have e:l.2-(-((r.2-l.2)*(a-l.1)))/(r.1-l.1)=zcT cs a:=by
   unfold zcT
   rw [seg]
   unfold zdq hvT hvB
   dsimp only
   rw [if_pos (by omega),if_pos (by omega),Int.mul_one,Int.mul_one,Int.mul_one]
   have e2:-(l.2*(r.1-l.1)+(r.2-l.2)*(a-l.1))=-((r.2-l.2)*(a-l.1))+(-l.2)*(r.1-l.1):=by grind
   rw [e2,Int.add_mul_ediv_right _ _ (by omega)]
   omega
  rw [e];exact q
 walk_at "g"
 rw [List.length_map]
 refine⟨_,_,rfl,?_⟩
 refine zcd (fun i ρ S'=>S'=S/\(∃ w2 w3 w4 w5:Option D,ρ=[some x,some (.int a),w2,w3,w4,w5])/\i<=kk) ⟨rfl,⟨none,none,none,none,rfl⟩,by omega⟩ (fun _ _ _ _=>True.intro) ?_ ?_
 ·rintro i d ρ S' hd ⟨rfl,⟨w2,w3,w4,w5,rfl⟩,hik⟩
  obtain⟨hi,rfl⟩:=zcM hd
  obtain⟨b,hb,ab⟩:=zhz (cs:=cs) (k:=1+(i:Int)-1) (by omega) (by omega)
  obtain⟨c,hc,ac⟩:=zhz (cs:=cs) (k:=1+(i:Int)) (by omega) (by omega)
  rw [show (1+(i:Int)-1).toNat=i by omega] at hb
  rw [show (1+(i:Int)).toNat=i+1 by omega] at hc
  have hbc:=zdA gr (show i<i+1 by omega) hb hc
  obtain⟨bb1,bb2⟩:=gr.bd b (List.mem_of_getElem? hb)
  obtain⟨bc1,bc2⟩:=gr.bd c (List.mem_of_getElem? hc)
  have cm:zaK (c.2-b.2) (a-b.1):=.inl ⟨(Bd.sub bc2 bb2).mono (by decide),(Bd.sub ba (bb1.mono (by decide))).mono (by decide)⟩
  have dv:0<c.1-b.1/\Bd 8000 (c.1-b.1):=⟨by omega,(Bd.sub bc1 bb1).mono (by decide)⟩
  walk_at "g"
  refine r_d (fun h1=>?_) (fun h1=>?_)
  ·walk_at "g"
   refine r_d (fun h2=>?_) (fun h2=>?_)
   ·have e:i=kk:=by
     rcases Nat.lt_or_ge i kk with z|z
     ·have:=hlt (i+1) c (by omega) (by omega) hc
      have:c.1*1<a:=this
      omega
     ·omega
    subst e
    rw [hkl] at hb;cases hb
    rw [hkr] at hc;cases hc
    walk_at "g"
    exact fin_same q'
   ·walk_at "g"
    refine⟨rfl,⟨_,_,_,_,rfl⟩,?_⟩
    rcases Nat.lt_or_ge i kk with z|z
    ·omega
    ·have:i=kk:=by omega
     subst this
     rw [hkr] at hc;cases hc;omega
  ·exfalso
   rcases Nat.lt_or_ge i kk with z|z
   ·rcases Nat.eq_zero_or_pos i with e|e
    ·subst e
     obtain⟨f,hf,ef⟩:=zcJ gr
     rw [hb] at hf;cases hf
     have h:=on.1
     rw [ef] at h
     have:b.1*1<=a:=h
     omega
    ·have:=hlt i b e (by omega) hb
     have:b.1*1<a:=this
     omega
   ·have:i=kk:=by omega
    subst this
    rw [hkl] at hb;cases hb;omega
 ·rintro ρ S' ⟨rfl,_,hik⟩
  rw [zbd] at hik
  have:=zae hkr
  omega
def zb0:DSp:=fun ds S Q=>∃ (c k:Int) (x:D) (cs:List (Int×Int)) (sc:Int) (nm:Str),ds=[.int c,.int k,x,.int sc,.str nm]/\Lst S x (cs.map p2)/\Grd cs/\0<=k/\k<100/\1<=sc/\sc<=10 ^ 20/\fl 20 (.str nm)=true/\∀ s:Int×Int,Bd 175 s.1->Bd 195 s.2->zhM cs s->Q (bcD (nm,s)) S
def zcX:DS :=
    (zG (zO (dCall zbs (zj (zc 0) (zj (dOp zat (zc 1) (dC (.int 20))) zu))) (zB 5))
 (zG (zO (dOp oDiv (dOp zbX (dOp oIx (dOp oIx (zc 2) (dUn zfI (dC (.int 1)))) (dC (.int 0))) (dOp oIx (dOp oIx (zc 2) (dC (.int 0))) (dC (.int 0)))) (zc 3)) (zB 6))
 (zG (zO (dOp zat (dOp oIx (dOp oIx (zc 2) (dC (.int 0))) (dC (.int 0))) (dOp zaM (dOp oMod (zc 5) (dOp zat (zc 6) (dC (.int 1)))) (zc 3))) (zB 7))
 (zai (dTup (zj (zc 4) (zj (zc 7) (zj (dOp zat (dCall zcz (zj (zc 2) (zj (zc 7) zu))) (dOp zaM (dOp oIx (za8 (zj (dC (.int 0)) (zj (dC (.int 1)) (zj (dC (.int 1)) (zj (dC (.int 2)) (zj (dC (.int 4)) (zj (dC (.int 7)) zu))))))) (dOp oMod (dOp oDiv (zc 5) (dC (.int 50))) (dC (.int 6)))) (zc 3))) zu))))))))
theorem zh1:∀ ds So Q,zb0 ds So Q->ds.length=5:=by rintro ds So Q ⟨_,_,_,_,_,_,rfl,_⟩;rfl
theorem ziX:BodyOk 8 zcX zb0:=by
  rintro ds S Q ⟨c,k,x,cs,sc,nm,rfl,hx,gr,k0,k1,sc1,sc2,hnm,q⟩
  unfold zcX
  obtain⟨f,hf,ef⟩:=zcJ gr
  obtain⟨lc,hlc,elc,alc⟩:=zny gr
  have af:atD (cs.map p2) 0=some (p2 f):=zbR (i:=0) (by rw [List.getElem?_map,hf];rfl)
  have bf:=(gr.bd f (List.mem_of_getElem? hf)).1
  have bl:=(gr.bd lc (List.mem_of_getElem? hlc)).1
  have g1:=gr.two
  have hfl:=zdA gr (show 0<cs.length-1 by omega) hf hlc
  walk_at "g"
  refine⟨c,_,rfl,by omega,by omega,fun m m0 m1=>?_⟩
  have dv:0<sc/\Bd 8000 sc:=⟨by omega,by
    have:Bd 200 sc:=by show _<2 ^ 200;omega
    exact this.mono (by decide)⟩
  have w0:0<=(lc.1-f.1)/sc:=Int.ediv_nonneg (by omega) (by omega)
  have w1:=Int.ediv_mul_le (lc.1-f.1) (b:=sc) (by omega)
  have v0:=Int.emod_nonneg m (show (lc.1-f.1)/sc+1≠0 by omega)
  have v1:=Int.emod_lt_of_pos m (show 0<(lc.1-f.1)/sc+1 by omega)
  have v2:m%((lc.1-f.1)/sc+1)<=m:=by
    have h1:=Int.mul_ediv_add_emod m ((lc.1-f.1)/sc+1)
    have h2:=Int.mul_nonneg (show 0<=(lc.1-f.1)/sc+1 by omega) (Int.ediv_nonneg m0 (show 0<=(lc.1-f.1)/sc+1 by omega))
    omega
  have cm1:zaK (m%((lc.1-f.1)/sc+1)) sc:=.inr (.inl (show _<2 ^ 64 by omega))
  have x0:=Int.mul_nonneg v0 (show 0<=sc by omega)
  have x1:m%((lc.1-f.1)/sc+1)*sc<=lc.1-f.1:=Int.le_trans (Int.mul_le_mul_of_nonneg_right (by omega) (by omega)) w1
  walk_at "g"
  generalize m%((lc.1-f.1)/sc+1)*sc=d at x0 x1
  have on:OnG cs (f.1+d,1):=⟨by rw [ef];show f.1*1<=f.1+d;omega,by rw [elc];show f.1+d<=lc.1*1;omega⟩
  have bx:Bd 171 (f.1+d):=(Bd.btw (n:=170) bf bl (by omega) (by omega)).mono (by decide)
  refine⟨x,cs,f.1+d,rfl,hx,gr,bx.mono (by decide),on,?_⟩
  have bF:=znB gr on
  have r1:=Int.emod_nonneg (m/50) (show (6:Int)≠0 by decide)
  have r2:=Int.emod_lt_of_pos (m/50) (show (0:Int)<6 by decide)
  obtain⟨u,hu,au⟩:=zdw (zs:=[0,1,1,2,4,7]) (k:=m/50%6) r1 (by show _<(6:Int);exact r2)
  have u0:0<=u/\u<=7:=by
    simp only [List.mem_cons,List.not_mem_nil,or_false] at hu
    rcases hu with rfl|rfl|rfl|rfl|rfl|rfl<;>omega
  clear hu
  have cm2:zaK u sc:=.inr (.inl (show _<2 ^ 64 by omega))
  have t0:=Int.mul_nonneg u0.1 (show 0<=sc by omega)
  have t1:u*sc<=7*10 ^ 20:=Int.mul_le_mul u0.2 sc2 (by omega) (by decide)
  walk_at "g"
  refine zdb ?_ (q (f.1+d,zcT cs (f.1+d)+u*sc) (bx.mono (by decide)) ((Bd.add bF (by show _<2 ^ 192;omega)).mono (by decide)) ((zoa gr (s:=(f.1+d,zcT cs (f.1+d)+u*sc)) on).mpr (by show zcT cs (f.1+d)<=zcT cs (f.1+d)+u*sc;omega)))
  show (fl 19 (.str nm)&&true)=true
  rw [Bool.and_true];exact hnm
def zcW:DSp:=fun ds S Q=>∃ (c k:Int) (x:D) (cs:List (Int×Int)) (sc h0 h1:Int),ds=[.int c,.int k,x,.int sc,.tup [.int h0,.int h1]]/\Lst S x (cs.map p2)/\Grd cs/\0<=k/\k<100/\1<=sc/\sc<=10 ^ 20/\h0<=h1/\Bd 150 h0/\Bd 150 h1/\∀ F:Fg,FgV F->FgN F->Q (fgD F) S
def zek:DS :=
    (zG (zO (dCall zbs (zj (zc 0) (zj (dOp zat (zc 1) (dC (.int 40))) zu))) (zB 5))
 (zG (zO (dOp zat (dOp oIx (dOp oIx (zc 2) (dC (.int 0))) (dC (.int 0))) (dOp zaM (dOp zbX (dOp oMod (zc 5) (dC (.int 14))) (dC (.int 2))) (zc 3))) (zB 6))
 (zG (zO (dOp zaM (dOp zbX (dOp oMod (dOp oDiv (zc 5) (dC (.int 14))) (dC (.int 14))) (dC (.int 3))) (zc 3)) (zB 7))
 (zG (zO (dOp zat (dOp zbX (dOp oIx (zc 4) (dC (.int 0))) (dC (.int 3))) (dOp oMod (dOp oDiv (zc 5) (dC (.int 196))) (dOp zat (dOp zbX (dOp oIx (zc 4) (dC (.int 1))) (dOp oIx (zc 4) (dC (.int 0)))) (dC (.int 5))))) (zB 8))
 (zG (zO (dOp zaM (dOp oMod (dOp oDiv (zc 5) (dC (.int 3000))) (dC (.int 4))) (zc 3)) (zB 9))
 (zG (zO (dOp zaM (dOp oMod (dOp oDiv (zc 5) (dC (.int 12000))) (dC (.int 4))) (zc 3)) (zB 10))
 (zG (zO (dOp zaM (dOp zbX (dOp oMod (dOp oDiv (zc 5) (dC (.int 48000))) (dC (.int 5))) (dC (.int 2))) (zc 3)) (zB 11))
 (zai (dTup (zj (zc 6) (zj (dOp zat (zc 6) (zc 9)) (zj (zc 7) (zj (dOp zat (zc 7) (zc 10)) (zj (zc 8) (zj (dOp zat (zc 8) (dOp oMod (dOp oDiv (zc 5) (dC (.int 240000))) (dC (.int 9)))) (zj (zc 11) (zj (dOp zaM (dOp zbX (dOp oMod (dOp oDiv (zc 5) (dC (.int 2160000))) (dC (.int 3))) (dC (.int 1))) (zc 3)) zu)))))))))))))))))
theorem zkO:∀ ds So Q,zcW ds So Q->ds.length=5:=by rintro ds So Q ⟨_,_,_,_,_,_,_,rfl,_⟩;rfl
theorem zlY:BodyOk 12 zek zcW:=by
 rintro ds S Q ⟨c,k,x,cs,sc,h0,h1,rfl,hx,gr,k0,k1,sc1,sc2,hh,bh0,bh1,q⟩
 unfold zek
 obtain⟨f,hf,ef⟩:=zcJ gr
 have af:atD (cs.map p2) 0=some (p2 f):=zbR (i:=0) (by rw [List.getElem?_map,hf];rfl)
 have bf:=(gr.bd f (List.mem_of_getElem? hf)).1
 walk_at "g"
 refine⟨c,_,rfl,by omega,by omega,fun m m0 m1=>?_⟩
 have cm:∀ u:Int,u.natAbs<2 ^ 64->zaK u sc:=fun u h=>.inr (.inl h)
 have c1:=cm (m%14-2) (by omega)
 have c2:=cm (m/14%14-3) (by omega)
 have c3:=cm (m/3000%4) (by omega)
 have c4:=cm (m/12000%4) (by omega)
 have c5:=cm (m/48000%5-2) (by omega)
 have c6:=cm (m/2160000%3-1) (by omega)
 have hm:0<h1-h0+5:=by omega
 have w1:=Int.mul_nonneg (show 0<=m/3000%4 by omega) (show 0<=sc by omega)
 have w2:=Int.mul_nonneg (show 0<=m/12000%4 by omega) (show 0<=sc by omega)
 have sb:∀ {u:Int},-100<=u->u<=100->Bd 190 (u*sc):=fun {u} h1 h2=>by
  show (u*sc).natAbs<2 ^ 190
  rw [Int.natAbs_mul]
  exact Nat.lt_of_le_of_lt (Nat.mul_le_mul (show u.natAbs<=100 by omega) (show sc.natAbs<=10 ^ 20 by omega)) (by decide)
 have b1:Bd 190 ((m%14-2)*sc):=sb (by omega) (by omega)
 have b2:Bd 190 ((m/14%14-3)*sc):=sb (by omega) (by omega)
 have b3:Bd 190 (m/3000%4*sc):=sb (by omega) (by omega)
 have b4:Bd 190 (m/12000%4*sc):=sb (by omega) (by omega)
 have b5:Bd 190 ((m/48000%5-2)*sc):=sb (by omega) (by omega)
 have b6:Bd 190 ((m/2160000%3-1)*sc):=sb (by omega) (by omega)
 walk_at "g"
 have r0:=Int.emod_nonneg (m/196) (show h1-h0+5≠0 by omega)
 have r1:=Int.emod_lt_of_pos (m/196) hm
 have bl:Bd 300 (h0-3+m/196%(h1-h0+5)):=by
  have:Bd 201 (h0-3+m/196%(h1-h0+5)):=by
   unfold Bd at bh0 bh1 ⊢
   omega
  exact this.mono (by decide)
 have b7:Bd 152 (h0-3+m/196%(h1-h0+5)):=by
  unfold Bd at bh0 bh1 ⊢
  omega
 have b8:Bd 153 (h0-3+m/196%(h1-h0+5)+m/240000%9):=by
  unfold Bd at bh0 bh1 ⊢
  omega
 have bl0:Bd 191 (f.1+(m%14-2)*sc):=Bd.add (bf.mono (by decide)) b1
 have bl1:Bd 192 (f.1+(m%14-2)*sc+m/3000%4*sc):=Bd.add bl0 (b3.mono (by decide))
 have bl2:Bd 191 ((m/14%14-3)*sc+m/12000%4*sc):=Bd.add b2 b4
 exact fin_same (q ⟨f.1+(m%14-2)*sc,f.1+(m%14-2)*sc+m/3000%4*sc,(m/14%14-3)*sc,(m/14%14-3)*sc+m/12000%4*sc,h0-3+m/196%(h1-h0+5),h0-3+m/196%(h1-h0+5)+m/240000%9,(m/48000%5-2)*sc,(m/2160000%3-1)*sc⟩ ⟨⟨by dsimp only;omega,by dsimp only;omega,bl0.mono (by decide),bl1.mono (by decide),b2.mono (by decide),bl2.mono (by decide),b5.mono (by decide),b6.mono (by decide)⟩,by dsimp only;omega,b7.mono (by decide),b8.mono (by decide)⟩ ⟨bl0.mono (by decide),bl1.mono (by decide),b2.mono (by decide),bl2.mono (by decide),b7.mono (by decide),b8.mono (by decide),b5.mono (by decide),b6.mono (by decide)⟩)
def scl (c:Int):Int:=if c%3=2 then 10 ^ 20 else 1
theorem zqw (c:Int):1<=scl c/\scl c<=10 ^ 20:=by unfold scl;split<;>decide
theorem zqm (c:Int):atD [.int 1,.int 1,.int 100000000000000000000] (c%3)=some (.int (scl c)):=by
  have h:c%3=0\/c%3=1\/c%3=2:=by omega
  unfold scl
  rcases h with e|e|e<;>rw [e]<;>rfl
theorem zfR (b:Int)(k:Nat):(zbp b k).cps.toList=(stemOf b).cps.toList++[97+((b/4+7*(k:Int))%26).toNat]:=by
 show ((stemOf b).cps++#[97+((b/4+7*(k:Int))%26).toNat]).toList=_
 simp
theorem znm (b:Int):∀ c∈(stemOf b).cps.toList,c∈abc:=by
  unfold stemOf
  split
  · decide +kernel
  · split
    · decide +kernel
    · split<;>decide +kernel
theorem zpo (b:Int)(k:Nat):nmB (zbp b k)=true:=by
 have h1:=zj4 b
 have e:(zbp b k).length=(stemOf b).length+1:=by
  show ((stemOf b).cps++#[97+((b/4+7*(k:Int))%26).toNat]).size=(stemOf b).cps.size+1
  simp
 rw [zeB,e]
 refine⟨by omega,by omega,fun c hc=>?_⟩
 rw [zfR] at hc
 rcases List.mem_append.mp hc with hc|hc
 ·exact znm b c hc
 ·rw [List.mem_singleton.mp hc]
  exact zgg.mpr (by omega)
theorem znt {b:Int}{i j:Nat}(hi:i<14)(hj:j<14)(e:zbp b i=zbp b j):i=j:=by
 have h:(zbp b i).cps.toList=(zbp b j).cps.toList:=congrArg (fun z:Str=>z.cps.toList) e
 rw [zfR,zfR] at h
 have h2:=List.append_cancel_left h
 have h3:97+((b/4+7*(i:Int))%26).toNat=97+((b/4+7*(j:Int))%26).toNat:=by simpa using h2
 omega
def zcf:DSp:=fun ds S Q=>∃ (ns:List Int),ds=[.rl (ns.map D.int)]/\ns.length<=63/\∀ (T:Sto) (x y z:D) (V:Vl),VlN V->V.bs.length<=6->V.fs.length<=4->VlS (S++T) x y z V->Q (vlD x y z V) (S++T)
def zdj:DS :=
    (zG (zO (dCall zbL (zj (zc 0) (zj (dC (.int 0)) zu))) (zB 1))
 (zG (zO (dCall zbL (zj (zc 0) (zj (dC (.int 1)) zu))) (zB 2))
 (zG (zO (dCall zbL (zj (zc 0) (zj (dC (.int 2)) zu))) (zB 3))
 (zG (zO (dCall zb3 (zj (zc 0) (zj (dC (.int 3)) (zj (dC (.int 18)) zu)))) (zB 4))
 (zG (zO (dOp oIx (za8 (zj (dC (.int 1)) (zj (dC (.int 1)) (zj (dC (.int 100000000000000000000)) zu)))) (dOp oMod (zc 1) (dC (.int 3)))) (zB 5))
 (zG (zO (dOp oIx (za8 (zj (dC (.int 0)) (zj (dC (.int 7)) (zj (dUn zfI (dC (.int 1000000000000000000000000000000))) zu)))) (dOp oMod (dOp oDiv (zc 1) (dC (.int 3))) (dC (.int 3)))) (zB 6))
 (zG (zO (dTup (zj (zc 6) (zj (dOp zat (zc 6) (dOp oMod (dOp oDiv (zc 1) (dC (.int 9))) (dC (.int 12)))) zu))) (zB 7))
 (zG (zO (dCall zbr (zj (zc 4) (zj (dOp zat (dC (.int 3)) (dOp oMod (dOp oDiv (zc 1) (dC (.int 540))) (dC (.int 6)))) (zj (zc 5) zu)))) (zB 8))
 (zG (zO (dCall zcc (zj (dOp oDiv (zc 2) (dC (.int 30))) zu)) (zB 9))
 (zG (zO (dLC 1 [4,8,5,9] (zdU (zj (dOp zat (dC (.int 1)) (dOp oMod (zc 2) (dC (.int 6)))) zu)) (zB 0) zaE (dCall zb0 (zj (dOp oIx (zc 1) (dOp zat (dC (.int 8)) (zc 0))) (zj (zc 0) (zj (zc 2) (zj (zc 3) (zj (dOp oIx (zc 4) (zc 0)) zu))))))) (zB 10))
 (zG (zO (dLC 1 [4,8,5,7] (zdU (zj (dOp oMod (dOp oDiv (zc 2) (dC (.int 6))) (dC (.int 5))) zu)) (zB 0) zaE (dCall zcW (zj (dOp oIx (zc 1) (dOp zat (dC (.int 14)) (dOp oMod (zc 0) (dC (.int 4))))) (zj (zc 0) (zj (zc 2) (zj (zc 3) (zj (zc 4) zu))))))) (zB 11))
 (zG (zO (dC .non) (zB 12))
 (zG (sJ (sIf (dT (dOp oEq (dOp oMod (zc 3) (dC (.int 2))) (dC (.int 1)))) (zO (dOp zaM (dOp zaM (dOp oMod (dOp oDiv (zc 3) (dC (.int 2))) (dC (.int 25))) (zc 5)) (dOp zaM (dOp oMod (dOp oDiv (zc 3) (dC (.int 2))) (dC (.int 25))) (zc 5))) (zB 12)) zad))
 (zai (dTup (zj (zc 8) (zj (zc 10) (zj (zc 11) (zj (zc 12) (zj (dOp oIx (zc 7) (dC (.int 0))) (zj (dOp oIx (zc 7) (dC (.int 1))) (zj (dOp oIx (za8 (zj (dC (.int 0)) (zj (dC (.int 1)) (zj (dC (.int 1)) (zj (dC (.int 2)) (zj (dC (.int 5)) zu)))))) (dOp oMod (dOp oDiv (zc 1) (dC (.int 108))) (dC (.int 5)))) zu))))))))))))))))))))))
theorem zi8:∀ ds So Q,zcf ds So Q->ds.length=1:=by rintro ds So Q ⟨_,rfl,_⟩;rfl
theorem zkj:BodyOk 13 zdj zcf:=by
  rintro ds S Q ⟨ns,rfl,hl,q⟩
  unfold zdj
  walk_at "g"
  refine⟨ns,0,rfl,?_⟩
  walk_at "g"
  refine⟨ns,1,rfl,?_⟩
  walk_at "g"
  refine⟨ns,2,rfl,?_⟩
  obtain⟨sb1,sb2⟩:=zqw (ns.getD 0 0)
  have asc:=zqm (ns.getD 0 0)
  generalize hsc:scl (ns.getD 0 0)=sc at sb1 sb2 asc q
  generalize ns.getD 0 0=c0 at asc
  generalize ns.getD 1 0=c1
  generalize ns.getD 2 0=c2
  walk_at "g"
  refine⟨ns,_,_,rfl,hl,by decide,by decide,by decide,fun cells hcl=>?_⟩
  have r1:=Int.emod_nonneg (c0/3) (show (3:Int)≠0 by decide)
  have r2:=Int.emod_lt_of_pos (c0/3) (show (0:Int)<3 by decide)
  obtain⟨fh,mfh,afh⟩:=zdw (zs:=[0,7,-1000000000000000000000000000000]) (k:=c0/3%3) r1 (by show _<(3:Int);exact r2)
  have bfh:Bd 150 fh/\Bd 150 (fh+c0/9%12):=by
    have:fh=0\/fh=7\/fh=-1000000000000000000000000000000:=by
      simpa using mfh
    have h9:0<=c0/9%12/\c0/9%12<12:=by omega
    constructor
    · show fh.natAbs<2 ^ 150
      rcases this with rfl|rfl|rfl<;>decide
    · show (fh+c0/9%12).natAbs<2 ^ 150
      have:(2:Nat) ^ 150=1427247692705959881058285969449495136382746624:=by decide
      rw [this];omega
  walk_at "g"
  walk_at "drho"
  obtain⟨Sg,hSg⟩:∃ Sg:Sto,Sg=S++[Cell.lst (cells.map D.int),.lst [.int 1,.int 1,.int 100000000000000000000],.lst [.int 0,.int 7,.int (-1000000000000000000000000000000)]]:=⟨_,rfl⟩
  have kg:Lst Sg (.ref S.length) (cells.map D.int):=hSg▸Lst.at0
  rw [<- hSg]
  refine⟨_,cells,_,sc,rfl,kg,by omega,by omega,by omega,sb1,sb2,fun cs gr hcn near=>?_⟩
  have g9:cs.length<=9:=by omega
  unfold New
  obtain⟨S1,hS1⟩:∃ S1:Sto,S1=Sg++[.lst (cs.map p2)]:=⟨_,rfl⟩
  have kc:Lst S1 (.ref Sg.length) (cs.map p2):=hS1▸Lst.at0
  have kg1:Lst S1 (.ref S.length) (cells.map D.int):=hS1▸kg.old
  rw [<- hS1]
  walk_at "g"
  refine⟨_,rfl,fun gb=>?_⟩
  obtain⟨S2,hS2⟩:∃ S2:Sto,S2=S1++[gb,.lst ((List.range 14).map fun k=>.str (zbp (c1/30) k))]:=⟨_,rfl⟩
  have kn:Lst S2 (.ref (S1.length+1)) ((List.range 14).map fun k=>.str (zbp (c1/30) k)):=hS2▸Lst.at rfl
  have kc2:Lst S2 (.ref Sg.length) (cs.map p2):=hS2▸kc.old
  have kg2:Lst S2 (.ref S.length) (cells.map D.int):=hS2▸kg1.old
  rw [<- hS2]
  have b0:=Int.emod_nonneg c1 (show (6:Int)≠0 by decide)
  have b1:=Int.emod_lt_of_pos c1 (show (0:Int)<6 by decide)
  walk_at "g"
  refine⟨_,rfl,by omega,by omega,?_⟩
  refine zc0 (fun i ys S'=>S'=S2/\∃ bs:List (Str×(Int×Int)),ys=bs.map bcD/\bs.length=i/\(∀ b∈bs,zhM cs b.2/\Bd 175 b.2.1/\Bd 195 b.2.2)/\∀ (j:Nat) b,bs[j]?=some b->b.1=zbp (c1/30) j) ⟨rfl,[],rfl,rfl,by simp,fun j b h=>by simp at h⟩ (fun _ _ _ _=>True.intro) (by rw [zbd];unfold big;omega) ?_ ?_
  · rintro i d ys S' hd ⟨rfl,bs,rfl,hbl,hbs,hnm⟩
    obtain⟨hi,rfl⟩:=zcM hd
    obtain⟨v,_,av⟩:=zdw (zs:=cells) (k:=8+(0+(i:Int))) (by omega) (by omega)
    have an:atD ((List.range 14).map fun k=>D.str (zbp (c1/30) k)) (0+(i:Int))=some (.str (zbp (c1/30) i)):=by
      rw [show (0:Int)+(i:Int)=(i:Int) by omega]
      exact zbR (by rw [List.getElem?_map,List.getElem?_range (by omega)];rfl)
    walk_at "g"
    refine⟨v,_,_,cs,sc,_,rfl,kc2,gr,by omega,by omega,sb1,sb2,zsn _ _,fun s s1 s2 ss=>?_⟩
    refine⟨rfl,bs++[(zbp (c1/30) i,s)],by rw [List.map_append];rfl,by simp [hbl],fun b hb=>?_,fun j b hb=>?_⟩
    · rcases List.mem_append.mp hb with h|h
      · exact hbs b h
      · have:b=(zbp (c1/30) i,s):=by simpa using h
        subst this
        exact⟨ss,s1,s2⟩
    · rcases Nat.lt_or_ge j bs.length with g|g
      · rw [List.getElem?_append_left g] at hb;exact hnm j b hb
      · have lj:=zae hb
        rw [List.length_append] at lj
        have ej:j=bs.length:=by simp at lj;omega
        subst ej
        rw [List.getElem?_append_right (Nat.le_refl _),Nat.sub_self] at hb
        have:(zbp (c1/30) i,s)=b:=by simpa using hb
        rw [<- this,hbl]
  rintro ys S' ⟨rfl,bs,rfl,hbl,hbs,hnm⟩
  rw [zbd] at hbl
  unfold New
  obtain⟨S3,hS3⟩:∃ S3:Sto,S3=S'++[.lst (bs.map bcD)]:=⟨_,rfl⟩
  have kb:Lst S3 (.ref S'.length) (bs.map bcD):=hS3▸Lst.at0
  have kc3:Lst S3 (.ref Sg.length) (cs.map p2):=hS3▸kc2.old
  have kg3:Lst S3 (.ref S.length) (cells.map D.int):=hS3▸kg2.old
  rw [<- hS3]
  walk_at "g"
  refine⟨_,rfl,by omega,by omega,?_⟩
  refine zc0 (fun i ys S'=>S'=S3/\∃ fs:List Fg,ys=fs.map fgD/\fs.length=i/\∀ F∈fs,FgV F/\FgN F) ⟨rfl,[],rfl,rfl,by simp⟩ (fun _ _ _ _=>True.intro) (by rw [zbd];unfold big;omega) ?_ ?_
  · rintro i d ys S'' hd ⟨rfl,fs,rfl,hfl,hfs⟩
    obtain⟨hi,rfl⟩:=zcM hd
    obtain⟨v,_,av⟩:=zdw (zs:=cells) (k:=14+(0+(i:Int))%4) (by omega) (by omega)
    walk_at "g"
    refine⟨v,_,_,cs,sc,fh,_,rfl,kc3,gr,by omega,by omega,sb1,sb2,by omega,bfh.1,bfh.2,fun F hF hN=>?_⟩
    refine⟨rfl,fs++[F],by rw [List.map_append];rfl,by simp [hfl],fun G hG=>?_⟩
    rcases List.mem_append.mp hG with h|h
    · exact hfs G h
    · rw [List.mem_singleton.mp h];exact⟨hF,hN⟩
  rintro fsD S'' ⟨rfl,fs,rfl,hfl,hfs⟩
  rw [zbd] at hfl
  unfold New
  obtain⟨S4,hS4⟩:∃ S4:Sto,S4=S''++[.lst (fs.map fgD)]:=⟨_,rfl⟩
  have kf:Lst S4 (.ref S''.length) (fs.map fgD):=hS4▸Lst.at0
  have kb4:Lst S4 (.ref S'.length) (bs.map bcD):=hS4▸kb.old
  have kc4:Lst S4 (.ref Sg.length) (cs.map p2):=hS4▸kc3.old
  have e4:∃ T,S4=S++T:=zeI (zeI (zeI (zeI ⟨_,hSg⟩ hS1) hS2) hS3) hS4
  rw [<- hS4]
  clear hS4 hS3 hS2 hS1 hSg
  have h25:∀ u:Int,u.natAbs<2 ^ 60->zaK u sc:=fun u h=>.inr (.inl (by omega))
  have cm1:=h25 (c2/2%25) (by omega)
  have bz:Bd 80 (c2/2%25*sc):=by
    have t0:=Int.mul_nonneg (show 0<=c2/2%25 by omega) (show 0<=sc by omega)
    have t1:c2/2%25*sc<=25*10 ^ 20:=Int.mul_le_mul (by omega) sb2 (by omega) (by decide)
    show _<2 ^ 80
    omega
  have cm2:zaK (c2/2%25*sc) (c2/2%25*sc):=.inl ⟨bz.mono (by decide),bz.mono (by decide)⟩
  obtain⟨T4,rfl⟩:=e4
  have d1:=Int.emod_nonneg (c0/108) (show (5:Int)≠0 by decide)
  have d2:=Int.emod_lt_of_pos (c0/108) (show (0:Int)<5 by decide)
  obtain⟨dl,mdl,adl⟩:=zdw (zs:=[0,1,1,2,5]) (k:=c0/108%5) d1 (by show _<(5:Int);exact d2)
  have hdl:0<=dl/\dl<=5:=by
    have:dl=0\/dl=1\/dl=1\/dl=2\/dl=5:=by simpa using mdl
    omega
  have bnd:(bs.map (·.1)).Nodup:=by
    refine List.pairwise_iff_getElem.mpr fun i j hi hj hij e=>?_
    rw [List.length_map] at hi hj
    rw [List.getElem_map,List.getElem_map] at e
    rw [hnm i _ (List.getElem?_eq_getElem hi),hnm j _ (List.getElem?_eq_getElem hj)] at e
    have:=znt (by omega) (by omega) e
    omega
  have bnm:∀ b∈bs,nmB b.1=true:=fun b hb=>by
    obtain⟨j,hj,ej⟩:=List.mem_iff_getElem.mp hb
    rw [hnm j b (by rw [List.getElem?_eq_getElem hj,ej])];exact zpo _ _
  have sm:∀ {x:Int},0<=x->x<=5->Bd 195 x:=fun {x} h1 h2=>(show Bd 3 x by show _<2 ^ 3;omega).mono (by decide)
  have fin:∀ (T:Sto) (hz:Option Int),(∀ z,hz=some z->0<=z/\Bd 195 z)->Q (.tup [.ref Sg.length,.ref S'.length,.ref S''.length,zce hz,.int fh,.int (fh+c0/9%12),.int dl]) (S++(T4++T)):=fun T hz hhz=>by
    have ok:zjw ⟨cs,bs,fs,hz,fh,fh+c0/9%12,dl⟩:={ gr:=gr,b1:=(by show 1<=bs.length;omega),b12:=(by show bs.length<=12;omega),nm:=bnm,nd:=bnd,st:=fun b hb=>(hbs b hb).1,bd:=fun b hb=>⟨(hbs b hb).2.1.mono (by decide),(hbs b hb).2.2.mono (by decide)⟩,f12:=(by show fs.length<=12;omega),fg:=fun F hF=>(hfs F hF).1,hz:=fun z e=>(hhz z e).1,hh:=(by show fh<=fh+c0/9%12;omega),b0:=bfh.1.mono (by decide),bl:=bfh.2.mono (by decide),dl:=hdl.1 }
    exact q (T4++T) _ _ _ ⟨cs,bs,fs,hz,fh,fh+c0/9%12,dl⟩ ⟨⟨ok,fun z e=>(hhz z e).2.mono (by decide),(sm hdl.1 hdl.2).mono (by decide)⟩,fun b hb=>⟨(hbs b hb).2.1.mono (by decide),(hbs b hb).2.2⟩,fun F hF=>(hfs F hF).2,bfh.1.mono (by decide),bfh.2.mono (by decide),fun z e=>(hhz z e).2,sm hdl.1 hdl.2⟩ (by show bs.length<=6;omega) (by show fs.length<=4;omega) ⟨by rw [<- List.append_assoc];exact kc4.old,by rw [<- List.append_assoc];exact kb4.old,by rw [<- List.append_assoc];exact kf.old⟩
  walk_at "g"
  refine r_J (fun ρ S5=>S5=S++T4/\∃ hz:Option Int,(∀ z,hz=some z->0<=z/\Bd 195 z)/\ρ=[some (.rl (ns.map D.int)),some (.int c0),some (.int c1),some (.int c2),some (.ref S.length),some (.int sc),some (.int fh),some (.tup [.int fh,.int (fh+c0/9%12)]),some (.ref Sg.length),some (.ref (S1.length+1)),some (.ref S'.length),some (.ref S''.length),some (zce hz)]) ?_ ?_
  · walk_at "g"
    refine r_d (fun _=>?_) (fun _=>?_)
    · walk_at "g"
      refine⟨rfl,some (c2/2%25*sc*(c2/2%25*sc)),fun z e=>?_,rfl⟩
      have e':=Option.some.inj e
      rw [<- e']
      have t0:=Int.mul_nonneg (show 0<=c2/2%25 by omega) (show 0<=sc by omega)
      exact⟨Int.mul_nonneg t0 t0,(Bd.mul bz bz).mono (by decide)⟩
    · walk_at "g"
      exact⟨rfl,none,(fun z e=>by cases e),rfl⟩
  rintro ρ S5 ⟨rfl,hz,hhz,rfl⟩
  walk_at "g"
  exact fin_same (fin _ _ hhz)
def zcl:DSp:=fun ds S Q=>∃ (x y z:D) (V:Vl),ds=[vlD x y z V]/\VlS S x y z V/\VlT V/\∀ (T:Sto) (n:Nat) (xs:List D),xs.length=(zZ V).length->(S++T)[n]?=some (.lst xs)->(∀ (i:Nat) w,(zZ V)[i]?=some w->∃ m,xs[i]?=some (.ref m)/\(S++T)[m]?=some (.lst ((w.map wdS).map D.str)))->Q (.ref n) (S++T)
def zdm:DS :=
    (zG (zO (za8 (zj (dOp zat (za8 (zj (dC (.str "ground")) zu)) (dLC 1 [] (zaP (dOp oIx (zc 0) (dC (.int 0)))) (zB 0) zaE (dOp zat (dOp zat (dB zc5 (zj (dOp oIx (zc 0) (dC (.int 0))) zu)) (dC (.str ":"))) (dB zc5 (zj (dOp oIx (zc 0) (dC (.int 1))) zu))))) zu)) (zB 1))
 (zG (zaY (dM zbk (zc 1) (zj (za8 (zj (dC (.str "hours")) (zj (dB zc5 (zj (dOp oIx (zc 0) (dC (.int 4))) zu)) (zj (dB zc5 (zj (dOp oIx (zc 0) (dC (.int 5))) zu)) zu)))) zu)))
 (zG (zaY (dM zbk (zc 1) (zj (za8 (zj (dC (.str "delay")) (zj (dB zc5 (zj (dOp oIx (zc 0) (dC (.int 6))) zu)) zu))) zu)))
 (zG (sJ (sIf (dT (dOp zfG (dOp oIx (zc 0) (dC (.int 3))) (dC .non))) (zaY (dM zbk (zc 1) (zj (za8 (zj (dC (.str "haze")) (zj (dB zc5 (zj (dOp oIx (zc 0) (dC (.int 3))) zu)) zu))) zu))) zad))
 (zG (zc4 (zaP (dOp oIx (zc 0) (dC (.int 1)))) (zeX 3 (zbt (zB 2) (zbt (zB 3) (zbt (zB 4) zes)))) (zaY (dM zbk (zc 1) (zj (za8 (zj (dC (.str "beacon")) (zj (zc 2) (zj (dB zc5 (zj (zc 3) zu)) (zj (dB zc5 (zj (zc 4) zu)) zu))))) zu))))
 (zG (zc4 (zaP (dOp oIx (zc 0) (dC (.int 2)))) (zB 5) (zaY (dM zbk (zc 1) (zj (dOp zat (za8 (zj (dC (.str "fog")) zu)) (dLC 1 [] (zaP (zc 5)) (zB 0) zaE (dB zc5 (zj (zc 0) zu)))) zu))))
 (zai (zc 1))))))))
theorem zi4:∀ ds So Q,zcl ds So Q->ds.length=1:=by rintro ds So Q ⟨_,_,_,_,rfl,_⟩;rfl
theorem zke:BodyOk 6 zdm zcl:=by
 rintro ds S Q ⟨x,y,z,V,rfl,hs,t,q⟩
 unfold zdm
 have ok:=t.ok
 have gr:=ok.gr
 have g40:=gr.most
 have b12:=ok.b12
 have f12:=ok.f12
 obtain⟨l28,hlw⟩:=zdW t
 obtain⟨hx,hy,hz'⟩:=hs
 have hx1:∀ T,Lst (S++T) x (V.cs.map p2):=fun T=>hx.old
 have hy1:∀ T,Lst (S++T) y (V.bs.map bcD):=fun T=>hy.old
 have hz1:∀ T,Lst (S++T) z (V.fs.map fgD):=fun T=>hz'.old
 have a1:=hx1 [.lst [.str "ground"]]
 walk_at "g"
 refine zc0 (fun i ys S'=>S'=S++[.lst [.str "ground"]]/\ys=((V.cs.take i).map fun c=>D.str (zbu c))) ⟨rfl,rfl⟩ (fun i ys S' e=>e.1▸a1) (by rw [List.length_map];unfold big;omega) ?_ ?_
 ·rintro i d ys S' hd ⟨rfl,rfl⟩
  obtain⟨c,hc,rfl⟩:=zmf hd
  obtain⟨c1,c2⟩:=gr.bd c (List.mem_of_getElem? hc)
  have l1:=(zbM (n:=c.1) (c1.mono (by decide))).1
  have l2:=(zbM (n:=c.2) (c2.mono (by decide))).1
  unfold z6 at l1 l2
  walk_at "g"
  refine zdu (c1.mono (by decide)) ?_
  walk_at "g"
  refine zj1 (by show _+1<=big;unfold big;omega) ?_
  walk_at "g"
  refine zdu (c2.mono (by decide)) ?_
  refine zj1 (by rw [len_app];show _+1+_<=big;unfold big;omega) ?_
  refine⟨rfl,?_⟩
  rw [zan hc,List.map_append];rfl
 rintro ys S' ⟨rfl,rfl⟩
 rw [List.length_map,List.take_length]
 walk_at "g"
 refine zf7 (xs:=[.str "ground"]) (ys:=V.cs.map fun c=>D.str (zbu c)) (Lst.at (k:=0) rfl) (Lst.at (k:=1) rfl) (by rw [List.length_map];show 1+_<=big;unfold big;omega) ?_
 rw [show [D.str "ground"]++V.cs.map (fun c=>D.str (zbu c))=((wGr V).map wdS).map D.str by unfold wGr;rw [List.map_cons,List.map_cons,List.map_map,List.map_map];rfl]
 walk_at "g"
 walk_at "drho"
 obtain⟨S0,hS0⟩:∃ S0:Sto,S0=S++[Cell.lst [D.str "ground"],.lst (V.cs.map fun c=>D.str (zbu c)),.lst (((wGr V).map wdS).map D.str)]:=⟨_,rfl⟩
 have e0:S++[Cell.lst [D.str "ground"],.lst (V.cs.map fun c=>D.str (zbu c)),.lst (((wGr V).map wdS).map D.str),.lst [.ref (S.length+2)]]=S0++Cell.lst [.ref (S.length+2)]::[]:=by rw [hS0];simp
 have e1:S.length+3=S0.length:=by rw [hS0];simp
 rw [e0,e1]
 have ln0:LnG S0 [] [.ref (S.length+2)] [wGr V]:=⟨rfl,fun i w hw=>by
  have hi:=zae hw
  have ei:i=0:=by simp at hi;omega
  subst ei
  have ew:wGr V=w:=by simpa using hw
  subst ew
  exact⟨_,rfl,fun c=>by
   have:S0[S.length+2]?=some (.lst (((wGr V).map wdS).map D.str)):=by rw [hS0];exact (zbo _ _ 2).trans rfl
   exact zQ this⟩⟩
 have x0:∃ T,S0=S++T:=⟨_,hS0⟩
 have hy4:∀ X,Lst (S0++X) y (V.bs.map bcD):=fun X=>by rw [hS0,List.append_assoc];exact hy1 _
 have hz4:∀ X,Lst (S0++X) z (V.fs.map fgD):=fun X=>by rw [hS0,List.append_assoc];exact hz1 _
 clear e0 e1 hS0 a1
 generalize S.length+2=r0 at ln0
 have bh0:Bd 1900 V.h0:=ok.b0.mono (by decide)
 have bh1:Bd 1900 V.h1:=ok.bl.mono (by decide)
 walk_at "g"
 refine zdu bh0 ?_
 walk_at "g"
 refine zdu bh1 ?_
 have bdl:Bd 1900 V.dl:=t.dl.mono (by decide)
 walk_at "g"
 refine⟨Nat.le_of_ble_eq_true rfl,?_⟩
 walk_at "g"
 refine zdu bdl ?_
 walk_at "g"
 have ln1:=(ln0.old (T:=[Cell.lst [D.str "hours",D.str (z6 V.h0),D.str (z6 V.h1)]])).snoc (m:=S0.length+1) (w:=wHo V) (fun c=>(zbo _ _ 1).trans rfl)
 have ln2:=(ln1.old (T:=[Cell.lst [D.str "delay",D.str (z6 V.dl)]])).snoc (m:=S0.length+2) (w:=wDe V) (fun c=>(zbo _ _ 2).trans rfl)
 refine r_J (fun ρ S'=>∃ (G:Sto) (xs:List D),S'=S0++Cell.lst xs::G/\LnG S0 G xs ([wGr V,wHo V,wDe V]++wHa V)/\ρ=[some (vlD x y z V),some (.ref S0.length),none,none,none,none]) ?_ ?_
 ·walk_at "g"
  cases hz:V.hz with
  |none =>
   rw [ziv,show zcZ .non=true from rfl]
   walk_at "g"
   refine⟨_,_,rfl,?_,rfl⟩
   have e:wHa V=[]:=by unfold wHa;rw [hz]
   rw [e]
   exact ln2
  |some zz =>
   have bz:Bd 1900 zz:=(t.hz zz hz).mono (by decide)
   rw [zfM,show zcZ (.int zz)=false from rfl]
   have ax:atD [x,y,z,zce V.hz,.int V.h0,.int V.h1,.int V.dl] 3=some (.int zz):=by rw [hz];rfl
   walk_at "g"
   refine zdu bz ?_
   walk_at "g"
   refine⟨_,_,rfl,?_,rfl⟩
   have e:wHa V=[[.inr "haze",.inl zz]]:=by unfold wHa;rw [hz]
   rw [e]
   exact (ln2.old (T:=[Cell.lst [D.str "haze",D.str (z6 zz)]])).snoc (m:=S0.length+3) (w:=[.inr "haze",.inl zz]) (fun c=>(zbo _ _ 3).trans rfl)
 rintro ρ S' ⟨G,xs,rfl,ln,rfl⟩
 obtain⟨L0,hL0⟩:∃ L0,L0=[wGr V,wHo V,wDe V]++wHa V:=⟨_,rfl⟩
 have hll:zZ V=L0++V.bs.map wBe++V.fs.map wFo:=by unfold zZ;rw [hL0]
 have lL:L0.length+V.bs.length+V.fs.length<=28:=by have:=congrArg List.length hll;rw [List.length_append,List.length_append,List.length_map,List.length_map] at this;omega
 rw [<- hL0] at ln
 have hy6:=hy4 (Cell.lst xs::G)
 walk_at "g"
 refine zcd (fun i ρ S'=>∃ (G:Sto) (xs:List D) (w2 w3 w4:Option D),S'=S0++Cell.lst xs::G/\LnG S0 G xs (L0++(V.bs.take i).map wBe)/\ρ=[some (vlD x y z V),some (.ref S0.length),w2,w3,w4,none]) ⟨G,xs,_,_,_,rfl,by simpa using ln,rfl⟩ (fun i ρ S' zq0=>by obtain⟨G,xs,_,_,_,e,_⟩:=zq0;exact e▸hy4 _) ?_ ?_
 ·rintro i d ρ S' hd ⟨G,xs,w2,w3,w4,rfl,ln,rfl⟩
  obtain⟨c,hc,rfl⟩:=zhd hd
  have mc:=List.mem_of_getElem? hc
  have li:=zae hc
  obtain⟨c1,c2⟩:=ok.bd c mc
  have lx:=ln.1
  rw [List.length_append,List.length_map,List.length_take] at lx
  have hlim:xs.length<big:=by unfold big;omega
  walk_at "g"
  refine zdu (c1.mono (by decide)) ?_
  walk_at "g"
  refine zdu (c2.mono (by decide)) ?_
  walk_at "g"
  refine⟨_,_,_,_,_,rfl,?_,rfl⟩
  rw [zan hc,List.map_append,<- List.append_assoc,show S0.length+(Cell.lst xs::G).length=S0.length+(1+G.length) by rw [List.length_cons];omega]
  exact (ln.old (T:=[Cell.lst [D.str "beacon",D.str c.1,D.str (z6 c.2.1),D.str (z6 c.2.2)]])).snoc (w:=wBe c) (fun c=>zjl)
 rintro ρ S' ⟨G2,xs2,w2,w3,w4,rfl,ln2,rfl⟩
 rw [List.length_map,List.take_length] at ln2
 obtain⟨L1,hL1⟩:∃ L1,L1=L0++V.bs.map wBe:=⟨_,rfl⟩
 have lL1:L1.length+V.fs.length<=28:=by rw [hL1,List.length_append,List.length_map];exact lL
 rw [<- hL1] at hll ln2
 have hz7:=hz4 (Cell.lst xs2::G2)
 walk_at "g"
 refine zcd (fun i ρ S'=>∃ (G:Sto) (xs:List D) (w5:Option D),S'=S0++Cell.lst xs::G/\LnG S0 G xs (L1++(V.fs.take i).map wFo)/\ρ=[some (vlD x y z V),some (.ref S0.length),w2,w3,w4,w5]) ⟨G2,xs2,_,rfl,by simpa using ln2,rfl⟩ (fun i ρ S' zq1=>by obtain⟨G,xs,_,e,_⟩:=zq1;exact e▸hz4 _) ?_ ?_
 ·rintro i d ρ S' hd ⟨G,xs,w5,rfl,ln,rfl⟩
  obtain⟨F,hc,rfl⟩:=zj7 hd
  have mc:=List.mem_of_getElem? hc
  have li:=zae hc
  have lx:=ln.1
  rw [List.length_append,List.length_map,List.length_take] at lx
  have hlim:xs.length<big:=by unfold big;omega
  have hw:=(hlw (wFo F) (by unfold zZ;exact List.mem_append_right _ (List.mem_map.mpr ⟨F,mc,rfl⟩))).2
  walk_at "g"
  refine zbn (xs:=[F.x0,F.x1,F.z0,F.z1,F.f,F.l,F.g,F.s].map D.int) (fun _=>true) (onI fun n=>.str (z6 n)) True.intro (by show 8<=big;decide) (fun j d ys hd' hw'=>?_) ?_
  ·obtain⟨m,hm,rfl⟩:=zlo hd'
   have bm:Bd 600 m:=hw (.inl m) (by
    have:=List.mem_of_getElem? hm
    unfold wFo
    simp at this ⊢
    exact this)
   walk_at "g"
   refine zdu (bm.mono (by decide)) ?_
   exact zb6 hd' hw' rfl rfl
  rw [filter_true,zpH]
  refine zbW ?_
  walk_at "g"
  refine zf7 (xs:=[.str "fog"]) (ys:=[F.x0,F.x1,F.z0,F.z1,F.f,F.l,F.g,F.s].map fun n=>D.str (z6 n)) (by rw [<- List.append_assoc];exact Lst.old Lst.new) Lst.new (by show 1+8<=big;decide) ?_
  refine zbW ?_
  walk_at "g"
  rw [List.cons_append,List.cons_append,List.cons_append]
  walk_at "g"
  refine⟨_,_,_,rfl,?_,rfl⟩
  rw [zan hc,List.map_append,<- List.append_assoc]
  have e5:S0.length+(Cell.lst xs::(G++[Cell.lst [D.str "fog"]]++[Cell.lst ([F.x0,F.x1,F.z0,F.z1,F.f,F.l,F.g,F.s].map fun n=>D.str (z6 n))])).length=S0.length+(1+(G++[Cell.lst [D.str "fog"]]++[Cell.lst ([F.x0,F.x1,F.z0,F.z1,F.f,F.l,F.g,F.s].map fun n=>D.str (z6 n))]).length):=by rw [List.length_cons];omega
  rw [e5]
  exact ((ln.old.old).old (T:=[Cell.lst ((wFo F).map wdS |>.map D.str)])).snoc (w:=wFo F) (fun c=>zjl)
 rintro ρ S' ⟨G3,xs3,w5,rfl,ln3,rfl⟩
 rw [List.length_map,List.take_length,<- hll] at ln3
 walk_at "g"
 obtain⟨T4,rfl⟩:=x0
 refine fin_same ?_
 rw [List.append_assoc]
 refine q _ _ xs3 ln3.1 ?_ fun i w hw=>?_
 ·rw [<- List.append_assoc];exact zaN
 ·obtain⟨m,h1,h2⟩:=ln3.2 i w hw
  exact⟨m,h1,by rw [<- List.append_assoc];exact h2 _⟩
def zcw:DSp:=fun ds S Q=>∃ (x y z:D) (V:Vl),ds=[vlD x y z V]/\VlS S x y z V/\VlT V/\∀ T,Q (.str (zbK V)) (S++T)
def zdN:DS :=
  (zai (zgp (dC (.str "\n")) (dLC 1 [] (zaP (dCall zcl (zj (zc 0) zu))) (zB 0) zaE (zgp (dC (.str " ")) (zc 0)))))
theorem zkz:∀ ds So Q,zcw ds So Q->ds.length=1:=by rintro ds So Q ⟨_,_,_,_,rfl,_⟩;rfl
theorem zkL:BodyOk 1 zdN zcw:=by
 rintro ds S Q ⟨x,y,z,V,rfl,hs,t,q⟩
 unfold zdN
 obtain⟨l28,hlw⟩:=zdW t
 walk_at "g"
 refine⟨⟨_,rfl⟩,?_⟩
 walk_at "g"
 refine⟨x,y,z,V,rfl,hs,t,fun T n xs lx hn hi=>?_⟩
 walk_at "g"
 refine zc0 (fun i ys S'=>S'=S++T/\ys=((zZ V).take i).map (fun w=>D.str (zY w))) ⟨rfl,rfl⟩ (fun i ys S' e=>e.1▸Lst.here hn) (by rw [lx];unfold big;omega) ?_ ?_
 ·rintro i d ys S' hd ⟨rfl,rfl⟩
  have li:=zae hd
  obtain⟨w,hw⟩:∃ w,(zZ V)[i]?=some w:=⟨_,List.getElem?_eq_getElem (by omega)⟩
  obtain⟨m,h1,h2⟩:=hi i w hw
  rw [hd] at h1
  cases h1
  have ok:=hlw w (List.mem_of_getElem? hw)
  walk_at "g"
  refine⟨⟨_,rfl⟩,?_⟩
  walk_at "g"
  refine⟨_,_,w.map wdS,rfl,rfl,h2,(zfe ok.1 ok.2).2,?_⟩
  refine⟨rfl,?_⟩
  rw [zan hw,List.map_append];rfl
 rintro ys S' ⟨rfl,rfl⟩
 rw [lx,List.take_length]
 walk_at "g"
 refine⟨_,_,(zZ V).map zY,rfl,rfl,?_,(zfh t).2,?_⟩
 ·rw [List.map_map,<- List.append_assoc,<- List.length_append];exact zaN
 ·exact fin_same (q _)
def zbU:DSp:=fun ds S Q=>∃ (x:D) (zs:List Str),ds=[x]/\Lst S x (zs.map D.str)/\zs.length<=41/\zs≠[]/\(∀ z∈zs,z.cps.toList.count 58=1)/\∀ T,Q (.bl true) (S++T)
def zcC:DS :=
  (zai (zfl (dOp oGt (dB za1 (zj (zc 0) zu)) (dC (.int 0))) (dB zd7 (zj (dLC 1 [] (zaP (zc 0)) (zB 0) zaE (dOp oEq (zjt (zc 0) (dC (.str ":"))) (dC (.int 1)))) zu))))
theorem zg5:∀ ds So Q,zbU ds So Q->ds.length=1:=by rintro ds So Q ⟨_,_,rfl,_⟩;rfl
theorem zhI:BodyOk 1 zcC zbU:=by
 rintro ds S Q ⟨x,zs,rfl,hx,hl,ne,hc,q⟩
 unfold zcC
 have hp:0<zs.length:=List.length_pos_iff.mpr ne
 walk_at "g"
 rw [List.length_map,decide_eq_true (show ((zs.length:Nat):Int) > 0 by omega)]
 walk_at "g"
 refine zbn (fun _=>true) (fun _=>.bl true) hx (by rw [List.length_map];unfold big;omega) (fun i d ys hd hw=>?_) ?_
 ·obtain⟨z,hz,rfl⟩:=zeD hd
  walk_at "g"
  refine⟨⟨_,rfl⟩,?_⟩
  walk_at "g"
  refine⟨z,58,rfl,by rw [show (":":Str)=⟨#[58]⟩ by decide +kernel],?_⟩
  walk_at "g"
  rw [hc z (List.mem_of_getElem? hz)]
  exact zb6 hd hw rfl rfl
 rw [filter_true]
 walk_at "g"
 refine zjd (bs:=zs.map fun _=>true) (by rw [List.map_map,List.map_map];exact Lst.at0) ?_
 rw [show (zs.map fun _=>true).all id=true by simp]
 exact fin_same (q _)
def zaF:DSp:=fun ds S Q=>∃ (x sz:D) (zs:List Str),ds=[x,sz]/\Lst S x (zs.map D.str)/\zs.length<=41/\(∀ z∈zs,Pln 500 z/\z≠"")/\zh0 sz zs/\∀ T,Q .non (S++T)
def zbB:DS :=
    (zG (sIf (dT (dOp oIn (dC (.str "")) (zc 0))) za2 zad)
 (zG (sIf (ze8 (dT (dOp oIs (zc 1) (dC .non))) (zcU (dT (dCall zbU (zj (zc 0) zu))))) za2 zad)
 (sIf (ze8 (dT (dOp zfG (zc 1) (dC .non))) (dT (dOp oNe (dB za1 (zj (zc 0) zu)) (zc 1)))) za2 zad)))
theorem zfc:∀ ds So Q,zaF ds So Q->ds.length=2:=by rintro ds So Q ⟨_,_,_,rfl,_⟩;rfl
theorem zft:BodyOk 2 zbB zaF:=by
 rintro ds S Q ⟨x,sz,zs,rfl,hx,hl,hz,hs,q⟩
 unfold zbB
 walk_at "g"
 refine zqT (.inr hx) (by decide +kernel) (fun z h=>(hz z h).1.fl 20) ?_
 rw [decide_eq_false (fun h=>(hz _ h).2 rfl)]
 walk_at "g"
 rcases hs with ⟨rfl,ne,hc⟩|rfl
 ·walk_at "g"
  refine⟨_,rfl,?_⟩
  refine⟨x,zs,rfl,hx,hl,ne,hc,fun T=>?_⟩
  walk_at "g"
  exact fin_same (q T)
 ·rw [show zcZ (D.int ((zs.length:Nat):Int))=false from rfl]
  walk_at "g"
  rw [List.length_map,decide_eq_true rfl]
  walk_at "g"
  have:=q []
  rw [List.append_nil] at this
  exact fin_same this
def RwD (S:Sto)(x:D)(V:Vl):Prop:=∃ n kvs,x=.ref n/\S[n]?=some (.dk kvs)/\∀ p∈za6 V,∃ y,dval kvs p.1=some y/\Rws S y (p.2.map List.tail)
theorem zmW {B:List (List (Sum Int Str))}{t:Nat}{w:List (Sum Int Str)}(h:B[t]?=some w):(B.take (t+1)).map List.tail=(B.take t).map List.tail++[w.tail]:=by rw [zan h,List.map_append];rfl
theorem zmU {V:Vl}{i j:Nat}{p q:Str×List (List (Sum Int Str))}(hi:(za6 V)[i]?=some p)(hj:(za6 V)[j]?=some q)(h:j<i):p.1≠q.1:=by
 have nd:((za6 V).map (·.1)).Nodup:=by
  show (["ground","hours","delay","haze","beacon","fog"]:List Str).Nodup
  decide +kernel
 intro e
 have a:((za6 V).map (·.1))[i]?=some p.1:=by rw [List.getElem?_map,hi];rfl
 have b:((za6 V).map (·.1))[j]?=some q.1:=by rw [List.getElem?_map,hj];rfl
 rw [e] at a
 have li:=zae a
 have lj:=zae b
 have:=(List.getElem_inj (h₀:=li) (h₁:=lj) nd).mp (by
  rw [List.getElem?_eq_getElem li] at a
  rw [List.getElem?_eq_getElem lj] at b
  exact (Option.some.inj a).trans (Option.some.inj b).symm)
 omega
def zbI:DSp:=fun ds S Q=>∃ (V:Vl),ds=[.str (zbK V)]/\VlN V/\∀ (T:Sto) x,RwD (S++T) x V->Q x (S++T)
def zco:DS :=
    (zG (zO (dLC 1 [] (zaP (zf3 (zc 0) (dC (.str "\n")))) (zB 0) zaE (zf3 (zc 0) (dC (.str " ")))) (zB 1))
 (zG (zO (zlA) (zB 2))
 (zG (zO (dC (.int 0)) (zB 3))
 (zG (zc4 (iKt [[.str "ground",.int 1,.int 1,.non],[.str "hours",.int 1,.int 1,.int 2],[.str "delay",.int 1,.int 1,.int 1],[.str "haze",.int 0,.int 1,.int 1],[.str "beacon",.int 0,.non,.int 3],[.str "fog",.int 0,.non,.int 8]]) (gKt 4 (zbt (zB 4) (zbt (zB 5) (zbt (zB 6) (zbt (zB 7) zes))))) (zG (zO (za8 zu) (zB 8))
 (zG (zeP (ze8 (dT (dOp oLt (zc 3) (dB za1 (zj (zc 1) zu)))) (ze8 (dT (dOp oEq (dOp oIx (dOp oIx (zc 1) (zc 3)) (dC (.int 0))) (zc 4))) (dOr (dT (dOp oIs (zc 6) (dC .non))) (dT (dOp oLt (dB za1 (zj (zc 8) zu)) (zc 6)))))) (zG (zaY (dCall zaF (zj (dSl zf2 (dOp oIx (zc 1) (zc 3)) (some (dC (.int 1))) none) (zj (zc 7) zu))))
 (zG (zaY (dM zbk (zc 8) (zj (dSl zf2 (dOp oIx (zc 1) (zc 3)) (some (dC (.int 1))) none) zu)))
 (zkv 3 (dC (.int 1))))))
 (zG (sIf (dT (dOp oLt (dB za1 (zj (zc 8) zu)) (zc 5))) za2 zad)
 (zmb (zc 2) (zc 4) (zc 8))))))
 (zG (sIf (dT (dOp oLt (zc 3) (dB za1 (zj (zc 1) zu)))) za2 zad)
 (zai (zc 2)))))))
theorem zgD:∀ ds So Q,zbI ds So Q->ds.length=1:=by rintro ds So Q ⟨_,rfl,_⟩;rfl
theorem zha:BodyOk 9 zco zbI:=by
 rintro ds S Q ⟨V,rfl,N,q⟩
 unfold zco
 have t:=N.t
 have ok:=t.ok
 obtain⟨l28,hlw⟩:=zdW t
 have pv:=(zfh t).1
 walk_at "g"
 refine⟨⟨_,rfl⟩,?_⟩
 walk_at "g"
 refine⟨_,10,(zZ V).map zY,rfl,by rw [show ("\n":Str)=⟨#[10]⟩ by decide +kernel],by have:=pv.1;unfold big;omega,zpY t,?_⟩
 walk_at "g"
 have hl0:∀ T,Lst (S++(Cell.lst (((zZ V).map zY).map D.str)::T)) (.ref S.length) (((zZ V).map zY).map D.str):=fun T=>Lst.at0
 refine zc0 (fun i ys S'=>∃ G,S'=S++Cell.lst (((zZ V).map zY).map D.str)::G/\LnG S G ys ((zZ V).take i)) ⟨[],rfl,rfl,fun i w hw=>by simp at hw⟩ (fun i ys S' zq2=>by obtain⟨G,e,_⟩:=zq2;exact e▸hl0 G) (by rw [List.length_map,List.length_map];unfold big;omega) ?_ ?_
 ·rintro i d ys S' hd ⟨G,rfl,ln⟩
  obtain⟨z,hz,rfl⟩:=zeD hd
  obtain⟨w,hw,rfl⟩:∃ w,(zZ V)[i]?=some w/\z=zY w:=by
   rw [List.getElem?_map] at hz
   cases e:(zZ V)[i]? with
   |none=>rw [e] at hz;cases hz
   |some n=>rw [e] at hz;cases hz;exact⟨n,rfl,rfl⟩
  have mw:=List.mem_of_getElem? hw
  have pl:=(zfe (hlw w mw).1 (hlw w mw).2).1
  walk_at "g"
  refine⟨⟨_,rfl⟩,?_⟩
  walk_at "g"
  refine⟨_,32,w.map wdS,rfl,by rw [show (" ":Str)=⟨#[32]⟩ by decide +kernel],by have:=pl.1;unfold big;omega,znL t mw,?_⟩
  refine zbW ?_
  refine⟨G++[.lst ((w.map wdS).map D.str)],by rw [List.cons_append],?_⟩
  rw [zan hw,show S.length+(Cell.lst (((zZ V).map zY).map D.str)::G).length=S.length+(1+G.length) by rw [List.length_cons];omega]
  exact ln.old.snoc fun c=>zjl
 rintro ys S' ⟨G,rfl,ln⟩
 rw [List.length_map,List.length_map,List.take_length] at ln
 obtain⟨S1,hS1⟩:∃ S1:Sto,S1=S++Cell.lst (((zZ V).map zY).map D.str)::G++[.lst ys]:=⟨_,rfl⟩
 have x1:∃ T,S1=S++T:=⟨_,by rw [hS1,List.append_assoc]⟩
 have rw1:Rws S1 (.ref (S++Cell.lst (((zZ V).map zY).map D.str)::G).length) (zZ V):=by
  rw [hS1]
  refine⟨_,ys,rfl,zaN,ln.1,fun i w hw=>?_⟩
  obtain⟨m,a,b⟩:=ln.2 i w hw
  exact⟨m,a,zQ (b _)⟩
 unfold New
 rw [<- hS1]
 generalize (S++Cell.lst (((zZ V).map zY).map D.str)::G).length=tr at rw1
 clear hS1 ln hl0
 walk_at "g"
 walk_at "drho"
 refine zsC ?_
 have bl6:(za6 V).length=6:=rfl
 refine zcd (fun i ρ S'=>i<=6/\∃ (kvs:List (Str×D)) (k:Nat) (w4 w5 w6 w7 w8:Option D),(∃ T,S'=S1++T)/\S'[S1.length]?=some (.dk kvs)/\kvs.length<=i/\k=((((za6 V).take i).map (·.2)).flatten).length/\(∀ (j:Nat) p,j<i->(za6 V)[j]?=some p->∃ y,dval kvs p.1=some y/\Rws S' y (p.2.map List.tail))/\(∀ (j:Nat) p,i<=j->(za6 V)[j]?=some p->dval kvs p.1=none)/\ρ=[some (.str (zbK V)),some (.ref tr),some (.ref S1.length),some (.int k),w4,w5,w6,w7,w8]) ⟨by omega,[],0,_,_,_,_,_,⟨_,rfl⟩,zaN,Nat.le_refl _,rfl,(fun j p h=>by omega),fun _ _ _ _=>rfl,rfl⟩ (fun _ _ _ _=>True.intro) ?_ ?_
 ·rintro i d ρ S' hd ⟨hi6,kvs,k,w4,w5,w6,w7,w8,⟨T1,eS⟩,hkv,hkl,hk,old,new,rfl⟩
  obtain⟨c,hc,rfl⟩:∃ c,zgY[i]?=some c/\d=.kt c:=by
   rw [List.getElem?_map] at hd
   cases e:zgY[i]? with
   |none=>rw [e] at hd;cases hd
   |some n=>rw [e] at hd;cases hd;exact⟨n,rfl,rfl⟩
  obtain⟨z,f,mo,sz,pre,B,post,kd,hb,hpre⟩:=ztc ok hc
  have li:i<6:=by have:=zae hc;exact this
  obtain⟨e,clz,el,hdB,nxt,few,hmo⟩:=kd
  subst e
  rw [<- hpre] at hk
  have fz:fl 20 (.str z)=true:=Pln.fl (k:=z.length) ⟨Nat.le_refl _,fun c hc=>by have:=clz.2 c hc;omega⟩ 20
  refine zsd rfl ?_
  walk_at "g"
  walk_at "drho2"
  have rw2:Rws S' (.ref tr) (zZ V):=eS▸rw1.old
  obtain⟨_,rx,etr,hrx,lrx,hrow⟩:=rw2
  cases etr
  rw [el] at hrow lrx l28
  rw [List.length_append,List.length_append] at lrx l28
  subst hk
  have at1:∀ (m:Nat) w,(pre++B++post)[m]?=some w->∃ n,atD rx (m:Nat)=some (.ref n)/\S'[n]?=some (.lst ((w.map wdS).map D.str)):=fun m w hw=>by
   obtain⟨n,a,b⟩:=hrow m w hw
   exact⟨n,zbR a,b⟩
  refine zsJ (fun m ρ S2=>∃ (n:Nat) (xs:List D) (G:Sto),n+m=B.length/\S2=S'++Cell.lst xs::G/\LnG S' G xs ((B.take n).map List.tail)/\ρ=[some (.str (zbK V)),some (.ref tr),some (.ref S1.length),some (.int ((pre.length+n:Nat):Int)),some (.str z),some (.int (f:Nat)),some mo,some sz,some (.ref S'.length)]) (fun ρ S2=>∃ (xs:List D) (G:Sto),S2=S'++Cell.lst xs::G/\LnG S' G xs (B.map List.tail)/\ρ=[some (.str (zbK V)),some (.ref tr),some (.ref S1.length),some (.int ((pre.length+B.length:Nat):Int)),some (.str z),some (.int (f:Nat)),some mo,some sz,some (.ref S'.length)]) B.length ⟨0,[],[],by omega,rfl,⟨rfl,fun i w hw=>by simp at hw⟩,by rw [Nat.add_zero]⟩ ?_ ?_
  ·rintro ρ S2 ⟨xs,G,rfl,ln,rfl⟩
   have lx:=ln.1
   rw [List.length_map] at lx
   walk_at "g"
   refine r_d (fun e=>by omega) (fun _=>?_)
   walk_at "g"
   have hkv2:(S'++Cell.lst xs::G)[S1.length]?=some (.dk kvs):=zQ hkv
   refine zhw.k hkv2 (by unfold big;omega) ?_
   refine zox ?_
   refine⟨by omega,dput kvs z (.ref S'.length),pre.length+B.length,_,_,_,_,_,?_,?_,?_,?_,fun j p hj hp=>?_,fun j p hj hp=>?_,rfl⟩
   ·rw [eS,List.append_assoc,List.set_append_right _ _ (Nat.le_refl _)]
    exact⟨_,rfl⟩
   ·rw [List.getElem?_set_self (zae hkv2)]
   ·unfold dput
    rw [ze7,new i _ (Nat.le_refl _) hb,if_neg (by simp),List.length_append]
    show kvs.length+1<=i+1
    omega
   ·rw [zan hb,List.map_append,List.flatten_append,List.length_append,<- hpre]
    simp
   ·by_cases ej:j=i
    ·subst ej
     rw [hb] at hp
     cases hp
     exact⟨_,by rw [zgG,if_pos rfl],ln.rws.put hkv2⟩
    ·obtain⟨y,h1,h2⟩:=old j p (by omega) hp
     refine⟨y,?_,h2.old.put hkv2⟩
     rw [zgG,if_neg (zmU hb hp (by omega))];exact h1
   ·rw [zgG,if_neg (fun e=>zmU hp hb (by omega) e.symm)]
    exact new j p (by omega) hp
  ·rintro nx hnx m ρ S2 ⟨n,xs,G,hm,rfl,ln,rfl⟩
   have hrx2:(S'++Cell.lst xs::G)[tr]?=some (.lst rx):=zQ hrx
   have lx:=ln.1
   rw [List.length_map,List.length_take,Nat.min_eq_left (by omega)] at lx
   walk_at "g"
   by_cases hn:n=B.length
   ·subst hn
    have stop:nx [some (.str (zbK V)),some (.ref tr),some (.ref S1.length),some (.int ((pre.length+B.length:Nat):Int)),some (.str z),some (.int (f:Nat)),some mo,some sz,some (.ref S'.length)] (S'++Cell.lst xs::G):=hnx _ _ ⟨xs,G,rfl,by simpa using ln,rfl⟩
    refine r_d (fun e=>?_) (fun _=>?_)
    ·obtain⟨w,hw⟩:∃ w,post[0]?=some w:=⟨_,List.getElem?_eq_getElem (by omega)⟩
     obtain⟨y,r,rfl,ne,cy⟩:=nxt w (List.mem_of_getElem? hw)
     obtain⟨j,a1,a2⟩:=at1 (pre.length+B.length) _ (by rw [List.getElem?_append_right (by rw [List.length_append];omega),List.length_append,Nat.sub_self];exact hw)
     have a3:(S'++Cell.lst xs::G)[j]?=some (.lst (((Sum.inr y::r).map wdS).map D.str)):=zQ a2
     walk_at "g"
     refine zgi (d:=.str y) (Lst.here a3) (zbR (i:=0) rfl) ?_
     walk_at "g"
     refine zjG (Pln.fl (k:=y.length) ⟨Nat.le_refl _,fun c hc=>by have:=cy.2 c hc;omega⟩ 20) fz ?_
     rw [decide_eq_false ne]
     walk_at "g"
     exact stop
    ·walk_at "g"
     exact stop
   ·obtain⟨w,hw⟩:∃ w,B[n]?=some w:=⟨_,List.getElem?_eq_getElem (by omega)⟩
    have wl:(pre++B++post)[pre.length+n]?=some w:=by
     rw [List.getElem?_append_left (by rw [List.length_append];omega),List.getElem?_append_right (by omega),Nat.add_sub_cancel_left];exact hw
    have mw:w∈zZ V:=by rw [el];exact List.mem_of_getElem? wl
    obtain⟨r,rfl,hsz⟩:=hdB w (List.mem_of_getElem? hw)
    obtain⟨j,a1,a2⟩:=at1 _ _ wl
    have a3:(S'++Cell.lst xs::G)[j]?=some (.lst (((Sum.inr z::r).map wdS).map D.str)):=zQ a2
    refine r_d (fun _=>?_) (fun e=>by omega)
    walk_at "g"
    refine zgi (d:=.str z) (Lst.here a3) (zbR (i:=0) rfl) ?_
    walk_at "g"
    refine zjG fz fz ?_
    rw [decide_eq_true (rfl:z=z)]
    walk_at "g"
    have okw:=hlw _ mw
    have rl:r.length<=41:=by have:=okw.1;rw [List.length_cons] at this;omega
    have body:zje (fun m ρ S2=>∃ (n:Nat) (xs:List D) (G:Sto),n+m=B.length/\S2=S'++Cell.lst xs::G/\LnG S' G xs ((B.take n).map List.tail)/\ρ=[some (.str (zbK V)),some (.ref tr),some (.ref S1.length),some (.int ((pre.length+n:Nat):Int)),some (.str z),some (.int (f:Nat)),some mo,some sz,some (.ref S'.length)]) m (zG (zaY (dCall zaF (zj (dSl zf2 (dOp oIx (zc 1) (zc 3)) (some (dC (.int 1))) none) (zj (zc 7) zu)))) (zG (zaY (dM zbk (zc 8) (zj (dSl zf2 (dOp oIx (zc 1) (zc 3)) (some (dC (.int 1))) none) zu))) (zkv 3 (dC (.int 1))))) (Fin S Q) nx [some (.str (zbK V)),some (.ref tr),some (.ref S1.length),some (.int ((pre.length+n:Nat):Int)),some (.str z),some (.int (f:Nat)),some mo,some sz,some (.ref S'.length)] (S'++Cell.lst xs::G):=by
     walk_at "g"
     have ec:cutD (((Sum.inr z::r).map wdS).map D.str) (some 1) none=(r.map wdS).map D.str:=by
      rw [List.map_cons,List.map_cons,zjo _ (by decide) (by simp;omega)];rfl
     rw [ec]
     refine⟨_,_,r.map wdS,rfl,Lst.new,by rw [List.length_map];exact rl,fun y hy=>?_,hsz,fun T=>?_⟩
     ·obtain⟨u,hu,rfl⟩:=List.mem_map.mp hy
      exact⟨zm8 (okw.2 u (List.mem_cons_of_mem _ hu)),((zhL t _ mw).2 u (List.mem_cons_of_mem _ hu)).1⟩
     rw [show S'++(Cell.lst xs::G++[Cell.lst ((r.map wdS).map D.str)])++T=S'++Cell.lst xs::(G++([Cell.lst ((r.map wdS).map D.str)]++T)) by simp]
     generalize hG2:G++([Cell.lst ((r.map wdS).map D.str)]++T)=G2
     have ln2:LnG S' G2 xs ((B.take n).map List.tail):=hG2▸ln.old
     have hrx3:(S'++Cell.lst xs::G2)[tr]?=some (.lst rx):=zQ hrx
     have a4:(S'++Cell.lst xs::G2)[j]?=some (.lst (((Sum.inr z::r).map wdS).map D.str)):=zQ a2
     have lxb:xs.length<big:=by unfold big;omega
     walk_at "g"
     rw [ec]
     refine⟨m-1,by omega,n+1,_,_,by omega,rfl,?_,?_⟩
     ·rw [zmW hw,show S'.length+(Cell.lst xs::G2).length=S'.length+(1+G2.length) by rw [List.length_cons];omega]
      exact ln2.old.snoc fun c=>zjl
     ·rw [show ((pre.length+n:Nat):Int)+1=((pre.length+(n+1):Nat):Int) by omega]
      rfl
    rcases hmo with rfl|⟨mm,rfl,hmm⟩
    ·walk_at "g"
     exact body
    ·rw [show zcZ (D.int ((mm:Nat):Int))=false from rfl]
     walk_at "g"
     refine r_d (fun _=>?_) (fun e=>by omega)
     exact body
 rintro ρ S' ⟨_,kvs,k,w4,w5,w6,w7,w8,⟨T1,rfl⟩,hkv,hkl,hk,old,new,rfl⟩
 obtain⟨_,rx,etr,hrx,lrx,hrow⟩:=rw1.old (T:=T1)
 cases etr
 have ek:k=(zZ V).length:=by
  rw [hk,<- zpE V]
  rfl
 subst ek
 walk_at "g"
 rw [lrx]
 refine r_d (fun e=>by omega) (fun _=>?_)
 walk_at "g"
 obtain⟨T0,rfl⟩:=x1
 rw [List.append_assoc] at hkv old ⊢
 refine fin_same (q _ _ ⟨_,kvs,rfl,hkv,fun p hp=>?_⟩)
 obtain⟨j,hj,ej⟩:=List.mem_iff_getElem.mp hp
 exact old j p hj (by rw [List.getElem?_eq_getElem hj,ej])
theorem zpM:("0123456789":Str).cps.toList=List.range' 48 10:=by decide +kernel
theorem zj2 {c:Nat}:c∈("0123456789":Str).cps.toList↔48<=c/\c<=57:=by rw [zpM,List.mem_range'_1];omega
theorem zjA {cs:List Nat}:((cs.map fun c=>decide (c∈("0123456789":Str).cps.toList)).all id=true)↔ze6 cs:=by
 rw [List.all_map,List.all_eq_true]
 unfold ze6
 constructor
 ·intro h c hc;exact zj2.mp (of_decide_eq_true (h c hc))
 ·intro h c hc;exact decide_eq_true (zj2.mpr (h c hc))
def ze9 (z:Str):Str:=⟨(zbq z).toArray⟩
theorem znn {z:Str}(h:z.cps.toList[0]?=some 45):zic z (some 1) none=ze9 z:=by
 have hl:=zae h
 unfold zic ze9 zbq
 rw [if_pos h,zjo _ (by decide) (by omega)];rfl
theorem zmQ {z:Str}(h:¬ z.cps.toList[0]?=some 45):z=ze9 z:=by
 refine zfm ?_
 unfold ze9 zbq
 rw [if_neg h]
theorem zde (z:Str):(ze9 z).length=(zbq z).length:=by
 show (zbq z).toArray.size=_
 simp
theorem znH (z:Str):(zbq z).length<=z.length:=by
 have zl:z.length=z.cps.toList.length:=Array.length_toList.symm
 unfold zbq
 split
 ·rw [List.length_drop];omega
 ·omega
theorem zpN {z:Str}{c:Nat}(h:z.cps.toList[0]?=some c):atS z 0=some c:=by
 have hl:=zae h
 unfold atS ixD
 rw [if_pos (by decide),if_pos (by omega)];exact h
theorem sign_eq {a b:Nat}:((⟨#[a]⟩:Str)==⟨#[b]⟩)=decide (a=b):=by
 by_cases h:a=b
 ·subst h;rw [decide_eq_true rfl];exact beq_self_eq_true _
 ·rw [decide_eq_false h]
  refine beq_eq_false_iff_ne.mpr fun e=>h ?_
  have:=congrArg (fun s:Str=>s.cps.toList) e
  simpa using this
theorem zlq {a:Nat}(h:a<128):fl 20 (.str ⟨#[a]⟩)=true:=Pln.fl (k:=1) ⟨Nat.le_refl _,fun c hc=>by
 have:c=a:=by simpa using hc
 omega⟩ 20
theorem zn4:("-":Str)=⟨#[45]⟩:=by decide +kernel
theorem ziu:("0":Str)=⟨#[48]⟩:=by decide +kernel
theorem zrp {S:Sto}{Q:DK}{a b:Nat}(ha:a<128)(hb:b<128)(q:Q (.bl (decide (a=b))) S):oEq (.str ⟨#[a]⟩) (.str ⟨#[b]⟩) S Q:=zlh (zlq ha) (zlq hb) sign_eq q
theorem ziy {z:Str}:z="0"↔z.cps.toList=[48]:=by
 constructor
 ·intro h;rw [h];decide +kernel
 ·intro h;exact zfm (h.trans (by decide +kernel))
def zaG:zfO:=fun ds S Q ex=>∃ z:Str,ds=[.str z]/\Pln 400 z/\(¬ WrT z->∀ T,ex "BadNumber" (S++T))/\(WrT z->∀ T n,z6 n=z->Bd 1900 n->Q (.int n) (S++T))
def zdv (ex : XR) : DS :=
    (zG (sJ (zO (zl7 (dT (zii (zc 0) (dC (.str "-")))) (dSl zf2 (zc 0) (some (dC (.int 1))) none) (zc 0)) (zB 1)))
 (zG (sIf (dOr (dT (dOp oLt (dB za1 (zj (zc 1) zu)) (dC (.int 1)))) (dT (dOp oGt (dB za1 (zj (zc 1) zu)) (dC (.int 60))))) (zeL ex "BadNumber") zad)
 (zG (sIf (zcU (dT (dB zd7 (zj (dLC 1 [] (zaP (zc 1)) (zB 0) zaE (dOp oIn (zc 0) (dC (.str "0123456789")))) zu)))) (zeL ex "BadNumber") zad)
 (zG (sIf (ze8 (dT (dOp oEq (dOp oIx (zc 1) (dC (.int 0))) (dC (.str "0")))) (dT (dOp oNe (zc 0) (dC (.str "0"))))) (zeL ex "BadNumber") zad)
 (zai (dB zji (zj (zc 0) zu)))))))
theorem ziU:∀ ds So Q ex,zaG ds So Q ex->ds.length=1:=by rintro ds So Q ex ⟨_,rfl,_⟩;rfl
theorem zkA:zij 2 zdv zaG:=by
 rintro ds S Q ex ⟨z,rfl,pz,hbad,q⟩
 unfold zdv
 have zl:=pz.1
 have fl':=znH z
 have bad0:¬ WrT z->ex "BadNumber" S:=fun n=>by simpa using hbad n []
 walk_at "g"
 walk_at "drho"
 refine r_J (fun ρ S'=>S'=S/\ρ=[some (.str z),some (.str (ze9 z))]) ?_ ?_
 ·rw [zn4]
  walk_at "g"
  refine⟨⟨z,rfl⟩,?_⟩
  walk_at "g"
  refine⟨z,45,rfl,rfl,?_⟩
  walk_at "g"
  refine r_d (fun e=>?_) (fun e=>?_)
  ·walk_at "g"
   refine zrO (by unfold big;omega) ?_
   rw [znn e]
   walk_at "g"
   exact⟨rfl,rfl⟩
  ·walk_at "g"
   exact⟨rfl,by rw [<- zmQ e];rfl⟩
 rintro ρ S' ⟨rfl,rfl⟩
 walk_at "g"
 refine zhn (by rw [zde];unfold big;omega) ?_
 walk_at "g"
 rw [zde]
 refine r_d (fun e=>?_) (fun e=>?_)
 ·walk_at "g"
  exact bad0 fun w=>by have:=w.1;omega
 walk_at "g"
 refine zhn (by rw [zde];unfold big;omega) ?_
 walk_at "g"
 rw [zde]
 refine r_d (fun e2=>?_) (fun e2=>?_)
 ·walk_at "g"
  exact bad0 fun w=>by have:=w.2.1;omega
 walk_at "g"
 refine zbn (fun _=>true) (onC fun c=>decide (c∈("0123456789":Str).cps.toList)) True.intro (by rw [ziF,zde];unfold big;omega) (fun i d ys hd hw=>?_) ?_
 ·obtain⟨c,hc,rfl⟩:=ziM hd
  walk_at "g"
  exact zb6 hd hw rfl rfl
 rw [filter_true,ziL]
 walk_at "g"
 refine zjd Lst.at0 ?_
 walk_at "g"
 rw [show (ze9 z).cps.toList=zbq z from rfl]
 cases hg:((zbq z).map fun c=>decide (c∈("0123456789":Str).cps.toList)).all id with
 |false =>
  walk_at "g"
  refine hbad (fun w=>?_) _
  have:=zjA.mpr w.2.2.1
  rw [hg] at this;cases this
 |true =>
  have fg:=zjA.mp hg
  generalize ([Cell.lst (((zbq z).map fun c=>decide (c∈("0123456789":Str).cps.toList)).map D.bl)]:Sto)=T1
  obtain⟨c0,g0⟩:∃ c0,(zbq z)[0]?=some c0:=⟨_,List.getElem?_eq_getElem (by omega)⟩
  have hc0:=fg c0 (List.mem_of_getElem? g0)
  walk_at "g"
  refine zoC (c:=c0) (by rw [zde];unfold big;omega) (zpN (z:=ze9 z) g0) ?_
  rw [ziu]
  walk_at "g"
  refine zrp (a:=c0) (b:=48) (by omega) (by decide) ?_
  have good:WrT z->dB zji (zj (zc 0) zu) [some (D.str z),some (D.str (ze9 z))] (S'++T1) (Fin S' Q):=fun w=>by
   obtain⟨n61,n,hn,en,bn⟩:=zo5 w
   walk_at "g"
   exact zqk (by omega) hn (fin_same (q w T1 n en bn))
  walk_at "g"
  refine r_d (fun e3=>?_) (fun e3=>?_)
  ·walk_at "g"
   rw [<- ziu]
   refine zmm (pz.fl 20) (by decide +kernel) ?_
   walk_at "g"
   refine zni (fun e4=>?_) (fun e4=>?_)
   ·walk_at "g"
    refine hbad (fun w=>?_) _
    rcases w.2.2.2 with h|h
    ·exact e4 (ziy.mpr h)
    ·exact h (by rw [g0,e3])
   ·have w:WrT z:=⟨by omega,by omega,fg,.inl (ziy.mp e4)⟩
    refine zj0 ?_
    refine zjg ?_
    exact good w
  ·have w:WrT z:=⟨by omega,by omega,fg,.inr (by rw [g0];intro h;exact e3 (Option.some.inj h))⟩
   refine zj0 ?_
   refine zjg ?_
   exact good w
def za5:DSp:=fun ds S Q=>∃ (x:D) (ns:List Int),ds=[x]/\Lst S x ((ns.map z6).map D.str)/\ns.length<=41/\(∀ n∈ns,N60 n)/\∀ T,Q (.tup (ns.map D.int)) (S++T)
def zcN:DS :=
  (zai (dB zj5 (zj (dLC 1 [] (zaP (zc 0)) (zB 0) zaE (zdB zaG xF (zj (zc 0) zu))) zu)))
theorem zih:∀ ds So Q,za5 ds So Q->ds.length=1:=by rintro ds So Q ⟨_,_,rfl,_⟩;rfl
theorem ziW:BodyOk 1 zcN za5:=by
 rintro ds S Q ⟨x,ns,rfl,hx,hl,hn,q⟩
 unfold zcN
 have hx1:∀ T,Lst (S++T) x ((ns.map z6).map D.str):=fun T=>hx.old
 walk_at "g"
 refine zc0 (fun i ys S'=>∃ T,S'=S++T/\ys=(ns.take i).map D.int) ⟨[],(List.append_nil S).symm,rfl⟩ (fun i ys S' zq3=>by obtain⟨T,e,_⟩:=zq3;exact e▸hx1 T) (by rw [List.length_map,List.length_map];unfold big;omega) ?_ ?_
 ·rintro i d ys S' hd ⟨T,rfl,rfl⟩
  obtain⟨z,hz,rfl⟩:=zeD hd
  obtain⟨n,hni,rfl⟩:∃ n,ns[i]?=some n/\z=z6 n:=by
   rw [List.getElem?_map] at hz
   cases e:ns[i]? with
   |none=>rw [e] at hz;cases hz
   |some n=>rw [e] at hz;cases hz;exact⟨n,rfl,rfl⟩
  have b:=hn n (List.mem_of_getElem? hni)
  have w:=zk9 (n60 b)
  obtain⟨p1,p2⟩:=zbM (n:=n) (b.mono (by decide))
  walk_at "g"
  refine⟨z6 n,rfl,⟨by omega,p2⟩,fun no=>absurd w no,fun _ T2 m em _=>?_⟩
  rw [zjZ em]
  exact⟨T++T2,List.append_assoc ..,by rw [zan hni,List.map_append];rfl⟩
 rintro ys S' ⟨T,rfl,rfl⟩
 rw [List.length_map,List.length_map,List.take_length]
 walk_at "g"
 exact fin_same (q _)
def zaI:DSp:=fun ds S Q=>∃ (x:D) (cs:List (Int×Int)),ds=[x]/\Lst S x (cs.map p2)/\Grd cs/\Q .non S
def zbb:DS :=
    (zG (sIf (dOr (dT (dOp oLt (dB za1 (zj (zc 0) zu)) (dC (.int 2)))) (dT (dOp oGt (dB za1 (zj (zc 0) zu)) (dC (.int 40))))) za2 zad)
 (zc4 (zhh (zj (dC (.int 1)) (zj (dB za1 (zj (zc 0) zu)) zu))) (zB 1) (sIf (dT (dOp oLe (dOp oIx (dOp oIx (zc 0) (zc 1)) (dC (.int 0))) (dOp oIx (dOp oIx (zc 0) (dOp zbX (zc 1) (dC (.int 1)))) (dC (.int 0))))) za2 zad)))
theorem zen:∀ ds So Q,zaI ds So Q->ds.length=1:=by rintro ds So Q ⟨_,_,rfl,_⟩;rfl
theorem zeR:BodyOk 2 zbb zaI:=by
 rintro ds S Q ⟨x,cs,rfl,hx,g,q⟩
 unfold zbb
 have g1:=g.two
 have g2:=g.most
 walk_at "g"
 rw [List.length_map]
 refine r_d (fun z=>absurd z (by omega)) (fun _=>?_)
 walk_at "g"
 rw [List.length_map]
 refine r_d (fun z=>absurd z (by omega)) (fun _=>?_)
 walk_at "g"
 rw [List.length_map]
 refine⟨_,_,rfl,?_⟩
 refine zcd (fun i ρ S'=>S'=S/\∃ w:Option D,ρ=[some x,w]) ⟨rfl,none,rfl⟩ (fun _ _ _ _=>True.intro) ?_ ?_
 ·rintro i d ρ S' hd ⟨rfl,w,rfl⟩
  obtain⟨hi,rfl⟩:=zcM hd
  obtain⟨a,ha,aa⟩:=zhz (cs:=cs) (k:=1+(i:Int)) (by omega) (by omega)
  obtain⟨b,hb,ab⟩:=zhz (cs:=cs) (k:=1+(i:Int)-1) (by omega) (by omega)
  have hlt:=zdA g (show (1+(i:Int)-1).toNat<(1+(i:Int)).toNat by omega) hb ha
  walk_at "g"
  refine r_d (fun z=>absurd z (by omega)) (fun _=>?_)
  walk_at "g"
  exact⟨rfl,_,rfl⟩
 ·rintro ρ S' ⟨rfl,w,rfl⟩
  exact fin_same q
def zcn:DSp:=fun ds S Q=>∃ (S0:Sto) (x:D) (cs:List (Int×Int)),ds=[.ref S0.length,x]/\S=S0++[.ins "Ground" []]/\Lst S0 x (cs.map p2)/\Grd cs/\Q .non (S0++[.ins "Ground" [("corners",.ref (S0.length+1))],.lst (cs.map p2)])
def zbv:DS :=
    (zG (zaY (dCall zaI (zj (zc 1) zu)))
 (zdl "Ground" "corners" (zc 0) (dB zed (zj (zc 1) zu))))
theorem zhe:∀ ds So Q,zcn ds So Q->ds.length=2:=by rintro ds So Q ⟨_,_,_,rfl,_⟩;rfl
theorem zhE:BodyOk 2 zbv zcn:=by
 rintro ds S Q ⟨S0,x,cs,rfl,rfl,hx,g,q⟩
 unfold zbv
 have hx':Lst (S0++[.ins "Ground" []]) x (cs.map p2):=hx.old
 walk_at "g"
 refine⟨x,cs,rfl,hx',g,?_⟩
 walk_at "g"
 refine⟨S0.length,[],rfl,zaN,by decide,?_⟩
 rw [zck]
 exact fin_same q
def zeh:DSp:=zlW "Ground" zcn
def zaJ:DSp:=fun ds S Q=>∃ (x y:D) (xs ys:List D),ds=[x,y]/\Lst S x xs/\Lst S y ys/\1<=xs.length/\xs.length<=12/\ys.length<=12/\Q .non S
def zbc:DS :=
    (zG (sIf (dOr (dT (dOp oLt (dB za1 (zj (zc 0) zu)) (dC (.int 1)))) (dT (dOp oGt (dB za1 (zj (zc 0) zu)) (dC (.int 12))))) za2 zad)
 (sIf (dT (dOp oGt (dB za1 (zj (zc 1) zu)) (dC (.int 12)))) za2 zad))
theorem zem:∀ ds So Q,zaJ ds So Q->ds.length=2:=by rintro ds So Q ⟨_,_,_,_,rfl,_⟩;rfl
theorem zeM:BodyOk 2 zbc zaJ:=by
 rintro ds S Q ⟨x,y,xs,ys,rfl,hx,hy,h1,h2,h3,q⟩
 unfold zbc
 walk_at "g"
 rw [decide_eq_false (show ¬ ((xs.length:Int)<1) by omega)]
 walk_at "g"
 rw [decide_eq_false (show ¬ ((12:Int)<xs.length) by omega)]
 walk_at "g"
 rw [decide_eq_false (show ¬ ((12:Int)<ys.length) by omega)]
 walk_at "g"
 exact fin_same q
def zcQ:DSp:=fun ds S Q=>∃ z:Str,ds=[.str z]/\z.length<=1000/\Q (.bl (nmB z)) S
def zee:DS :=
    (zG (sIf (dOr (dT (dOp oLt (dB za1 (zj (zc 0) zu)) (dC (.int 1)))) (dT (dOp oGt (dB za1 (zj (zc 0) zu)) (dC (.int 8))))) (zai (dC (.bl false))) zad)
 (zai (dB zd7 (zj (dLC 1 [] (zaP (zc 0)) (zB 0) zaE (dOp oIn (zc 0) (dC (.str "abcdefghijklmnopqrstuvwxyz")))) zu))))
theorem zkM:∀ ds So Q,zcQ ds So Q->ds.length=1:=by rintro ds So Q ⟨_,rfl,_⟩;rfl
theorem zlL:BodyOk 1 zee zcQ:=by
 rintro ds S Q ⟨z,rfl,hz,q⟩
 unfold zee
 have hb:z.length<=big:=by unfold big;omega
 walk_at "g"
 refine zhn hb ?_
 walk_at "g"
 unfold nmB at q
 refine r_d (fun h=>?_) (fun h=>?_)
 ·walk_at "g"
  rw [decide_eq_false (show ¬ 1<=z.length by omega)] at q
  exact fin_same q
 rw [decide_eq_true (show 1<=z.length by omega)] at q
 walk_at "g"
 refine zhn hb ?_
 walk_at "g"
 refine r_d (fun h=>?_) (fun h=>?_)
 ·walk_at "g"
  rw [decide_eq_false (show ¬ z.length<=8 by omega)] at q
  exact fin_same q
 rw [decide_eq_true (show z.length<=8 by omega)] at q
 walk_at "g"
 refine zbn (fun _=>true) (onC fun c=>decide (c∈abc)) True.intro (by rw [ziF];exact hb) (fun i d ys hd hw=>?_) ?_
 ·obtain⟨c,_,rfl⟩:=ziM hd
  walk_at "g"
  rw [zqf]
  exact zb6 hd hw rfl rfl
 rw [filter_true,ziL]
 walk_at "g"
 refine zf1 Lst.at0 rfl ?_
 refine zdb rfl ?_
 rw [List.all_map]
 exact q
def zaQ:DSp:=fun ds S Q=>∃ (x:D) (zs:List Str),ds=[x]/\Lst S x (zs.map D.str)/\zs.length<=100/\(∀ z∈zs,nmB z=true)/\zs.Nodup/\Q .non S
def zbG:DS :=
    (zG (sIf (zcU (dT (dB zd7 (zj (dLC 1 [] (zaP (zc 0)) (zB 0) zaE (dCall zcQ (zj (zc 0) zu))) zu)))) za2 zad)
 (sIf (dT (dOp oLt (dB zlw (zj (zc 0) zu)) (dB za1 (zj (zc 0) zu)))) za2 zad))
theorem ze5:∀ ds So Q,zaQ ds So Q->ds.length=1:=by rintro ds So Q ⟨_,_,rfl,_⟩;rfl
theorem zfr:BodyOk 1 zbG zaQ:=by
 rintro ds S Q ⟨x,zs,rfl,hx,hl,hn,nd,q⟩
 unfold zbG
 walk_at "g"
 refine zbn (fun _=>true) (onS fun z=>.bl (nmB z)) hx (by rw [List.length_map];unfold big;omega) (fun i d ys hd hw=>?_) ?_
 ·obtain⟨z,hz,rfl⟩:=zeD hd
  walk_at "g"
  refine⟨z,rfl,by have:=(zeB.mp (hn z (List.mem_of_getElem? hz))).2.1;omega,?_⟩
  exact zb6 hd hw rfl rfl
 rw [filter_true,zoN,show zs.map (fun z=>D.bl (nmB z))=(zs.map nmB).map D.bl by rw [List.map_map];rfl]
 walk_at "g"
 refine zf1 (b:=true) Lst.at0 (by rw [List.all_map,List.all_eq_true];exact hn) ?_
 walk_at "g"
 refine zqq (zs:=zs) hx.old (by omega) ?_
 rw [zma nd]
 have hx1:Lst (S++[Cell.lst ((zs.map nmB).map D.bl)]) x (zs.map D.str):=hx.old
 walk_at "g"
 rw [List.length_map,decide_eq_false (show ¬ ((zs.length:Int)<zs.length) by omega)]
 walk_at "g"
 exact zdb rfl q
def zcL:DSp:=fun ds S Q=>∃ (a b:Int×Int),ds=[p2 a,p2 b]/\zaK a.1 b.2/\zaK b.1 a.2/\Q (.bl (flt a b)) S
def zhm:DS :=
  (zai (dOp oLt (dOp zaM (dOp oIx (zc 0) (dC (.int 0))) (dOp oIx (zc 1) (dC (.int 1)))) (dOp zaM (dOp oIx (zc 1) (dC (.int 0))) (dOp oIx (zc 0) (dC (.int 1))))))
theorem znJ:∀ ds So Q,zcL ds So Q->ds.length=2:=by rintro ds So Q ⟨_,_,rfl,_⟩;rfl
theorem zps:BodyOk 2 zhm zcL:=by
 rintro ds S Q ⟨a,b,rfl,c1,c2,q⟩
 unfold zhm
 walk_at "g"
 exact fin_same q
def zdg:DSp:=fun ds S Q=>∃ (g:D) (cs:List (Int×Int)) (p:Int×Int),ds=[g,p2 p]/\GAt S g cs/\Grd cs/\Bd 1000 p.1/\Bd 1000 p.2/\Q (.bl (decide (zhX cs*p.2<=p.1)&&decide (p.1<=zfD cs*p.2))) S
def zgr:DS :=
    (zG (zO (dTup (zj (dOp oIx (dOp oIx (zaL "corners" (zc 0)) (dC (.int 0))) (dC (.int 0))) (zj (dC (.int 1)) zu))) (zB 2))
 (zG (zO (dTup (zj (dOp oIx (dOp oIx (zaL "corners" (zc 0)) (dUn zfI (dC (.int 1)))) (dC (.int 0))) (zj (dC (.int 1)) zu))) (zB 3))
 (zai (zfl (zgh (dCall zcL (zj (zc 1) (zj (zc 2) zu)))) (zgh (dCall zcL (zj (zc 3) (zj (zc 1) zu))))))))
theorem zml:∀ ds So Q,zdg ds So Q->ds.length=2:=by rintro ds So Q ⟨_,_,_,rfl,_⟩;rfl
theorem zn2:BodyOk 4 zgr zdg:=by
 rintro ds S Q ⟨g,cs,p,rfl,⟨n,l,rfl,hn,hl⟩,gr,b1,b2,q⟩
 unfold zgr
 have g1:=gr.two
 obtain⟨a,ha,ea⟩:=zcJ gr
 obtain⟨z,hz,ez⟩:=zkq gr
 have aa:atD (cs.map p2) 0=some (p2 a):=zbR (i:=0) (by rw [List.getElem?_map,ha];rfl)
 have az:atD (cs.map p2) (-1)=some (p2 z):=by
  have hne:cs≠[]:=fun e=>by rw [e] at g1;simp at g1
  have en:cs=cs.dropLast++[z]:=by
   have h2:=List.dropLast_concat_getLast hne
   have h3:cs.getLast hne=z:=by
    rw [List.getLast_eq_getElem]
    have hl':=zae hz
    rw [List.getElem?_eq_getElem hl'] at hz
    cases hz;rfl
   rw [h3] at h2
   exact h2.symm
  rw [en,List.map_append];exact zkn
 obtain⟨ba,_⟩:=gr.bd a (List.mem_of_getElem? ha)
 obtain⟨bz,_⟩:=gr.bd z (List.mem_of_getElem? hz)
 rw [ea,ez] at q
 have e1:flt p (a.1,1)=decide (p.1<a.1*p.2):=by unfold flt;dsimp only;rw [Int.mul_one]
 have e2:flt (z.1,1) p=decide (z.1*p.2<p.1):=by unfold flt;dsimp only;rw [Int.mul_one]
 have c1:zaK a.1 p.2:=.inl ⟨ba.mono (by decide),b2.mono (by decide)⟩
 have c2:zaK z.1 p.2:=.inl ⟨bz.mono (by decide),b2.mono (by decide)⟩
 have c3:∀ u:Int,zaK u 1:=fun u=>.inr (.inr (by decide))
 walk_at "g"
 refine⟨p,(a.1,1),rfl,c3 _,c1,?_⟩
 rw [e1]
 walk_at "g"
 refine zni (fun g=>?_) (fun g=>?_)
 ·walk_at "g"
  refine⟨(z.1,1),p,rfl,c2,c3 _,?_⟩
  rw [e2]
  walk_at "g"
  rw [decide_eq_true (show a.1*p.2<=p.1 by omega),Bool.true_and] at q
  rw [show (!decide (z.1*p.2<p.1))=decide (p.1<=z.1*p.2) by rw [<- decide_not];exact decide_eq_decide.mpr (by omega)]
  exact fin_same q
 ·rw [decide_eq_false (show ¬ a.1*p.2<=p.1 by omega),Bool.false_and] at q
  exact fin_same q
def za9:DSp:=fun ds S Q=>∃ (t b:Int),ds=[.int t,.int b]/\Q (.int ((Int.gcd t b:Nat):Int)) S
def zbY:DS :=
    (zG (zeP (dT (dOp oNe (zc 1) (dC (.int 0)))) (zG (zO (dOp oMod (zc 0) (zc 1)) (zB 2))
 (zG (zO (zc 1) (zB 0))
 (zO (zc 2) (zB 1)))))
 (zai (dB znG (zj (zc 0) zu))))
theorem zfV:∀ ds So Q,za9 ds So Q->ds.length=2:=by rintro ds So Q ⟨_,_,rfl,_⟩;rfl
theorem zgv:BodyOk 3 zbY za9:=by
 rintro ds S Q ⟨t,b,rfl,q⟩
 unfold zbY
 refine Dp.zl5 ?_
 refine zqc (fun m ρ S'=>S'=S/\∃ (x y:Int) (w:Option D),ρ=[some (.int x),some (.int y),w]/\m=y.natAbs/\Int.gcd x y=Int.gcd t b) b.natAbs ⟨rfl,_,_,none,rfl,rfl,rfl⟩ ?_
 rintro m ρ S' ⟨rfl,x,y,w,rfl,rfl,e⟩
 walk_at "g"
 refine zni (fun h0=>?_) (fun h0=>?_)
 ·refine zmv ?_
  refine Dp.zl5 ?_
  refine Dp.zov ?_
  refine Dp.zly ?_
  refine Dp.zfo rfl ?_
  refine Dp.zfo rfl ?_
  refine zrX h0 ?_
  walk_at "g"
  exact⟨_,zkH h0,rfl,_,_,_,rfl,rfl,(zne x y).trans e⟩
 ·subst h0
  rw [Int.gcd_zero] at e
  walk_at "g"
  rw [<- e] at q
  exact fin_same q
def zcu:DSp:=fun ds S Q=>∃ (t b:Int),ds=[.int t,.int b]/\b≠0/\Bd 8000 b/\Q (p2 (frT t b,frB t b)) S
def zdR:DS :=
    (zG (zO (dCall za9 (zj (zc 0) (zj (zc 1) zu))) (zB 2))
 (zG (sJ (sIf (dT (dOp oLt (zc 1) (dC (.int 0)))) (zO (dUn zfI (zc 2)) (zB 2)) zad))
 (zai (dTup (zj (dOp oDiv (zc 0) (zc 2)) (zj (dOp oDiv (zc 1) (zc 2)) zu))))))
theorem zjH:∀ ds So Q,zcu ds So Q->ds.length=2:=by rintro ds So Q ⟨_,_,rfl,_⟩;rfl
theorem zkN:BodyOk 3 zdR zcu:=by
 rintro ds S Q ⟨t,b,rfl,hb,bb,q⟩
 unfold zdR
 have hgn:=zoE (t:=t) (b:=b) hb
 have hgb:=zs7 (t:=t) (b:=b) hb bb
 walk_at "g"
 refine⟨t,b,rfl,?_⟩
 walk_at "g"
 refine r_J (fun ρ S'=>S'=S/\ρ=[some (.int t),some (.int b),some (.int (gd t b))]) ?_ ?_
 ·walk_at "g"
  refine r_d (fun g=>?_) (fun g=>?_)
  ·have hg:gd t b=-((Int.gcd t b:Nat):Int):=if_pos g
   walk_at "g"
   exact⟨rfl,by rw [hg];rfl⟩
  ·have hg:gd t b=((Int.gcd t b:Nat):Int):=if_neg g
   walk_at "g"
   exact⟨rfl,by rw [hg];rfl⟩
 rintro ρ S' ⟨rfl,rfl⟩
 refine Dp.zjg ?_
 refine Dp.zop ?_
 refine Dp.zj3 ?_
 refine Dp.zly ?_
 refine Dp.zfo rfl ?_
 refine Dp.zfo rfl ?_
 refine zmP ⟨hgn,hgb⟩ ?_
 refine Dp.zj3 ?_
 refine Dp.zly ?_
 refine Dp.zfo rfl ?_
 refine Dp.zfo rfl ?_
 refine zmP ⟨hgn,hgb⟩ ?_
 walk_at "g"
 exact fin_same q
def zb7:DSp:=fun ds S Q=>∃ (a b p:Int×Int),ds=[p2 a,p2 b,p2 p]/\b.1≠a.1/\0<p.2/\Bd 180 a.1/\Bd 200 a.2/\Bd 180 b.1/\Bd 200 b.2/\Bd 1000 p.1/\Bd 1000 p.2/\∀ c:Int×Int,Sv c (hvT a b p) (hvB a b p)->Int.gcd c.1 c.2=1->Bd 1400 c.1->Bd 1400 c.2->Q (p2 c) S
theorem ztk {t b:Int}(hb:b≠0):Sv (frT t b,frB t b) (if 0<b then t else -t) (if 0<b then b else -b):=by
 have h1:=zng t b
 have h2:=zoH (t:=t) hb
 refine⟨by show 0<frB t b;omega,?_⟩
 show frT t b*_=_*frB t b
 split
 ·rw [h1,Int.mul_comm]
 ·rw [Int.mul_neg,h1,Int.neg_mul,Int.mul_comm]
def zdr:DS :=
    (zG (zO (dOp zbX (dOp oIx (zc 1) (dC (.int 0))) (dOp oIx (zc 0) (dC (.int 0)))) (zB 3))
 (zG (zO (dOp zbX (dOp oIx (zc 1) (dC (.int 1))) (dOp oIx (zc 0) (dC (.int 1)))) (zB 4))
 (zG (zO (dOp zat (dOp zaM (dOp zaM (dOp oIx (zc 0) (dC (.int 1))) (zc 3)) (dOp oIx (zc 2) (dC (.int 1)))) (dOp zaM (zc 4) (dOp zbX (dOp oIx (zc 2) (dC (.int 0))) (dOp zaM (dOp oIx (zc 0) (dC (.int 0))) (dOp oIx (zc 2) (dC (.int 1))))))) (zB 5))
 (zai (dCall zcu (zj (zc 5) (zj (dOp zaM (zc 3) (dOp oIx (zc 2) (dC (.int 1)))) zu)))))))
theorem ziT:∀ ds So Q,zb7 ds So Q->ds.length=3:=by rintro ds So Q ⟨_,_,_,rfl,_⟩;rfl
theorem zjP:BodyOk 6 zdr zb7:=by
 rintro ds S Q ⟨a,b,p,rfl,hne,hp,b1,b2,b3,b4,b5,b6,q⟩
 unfold zdr
 have r1:Bd 181 (b.1-a.1):=Bd.sub b3 b1
 have r2:Bd 201 (b.2-a.2):=Bd.sub b4 b2
 have m1:Bd 381 (a.2*(b.1-a.1)):=Bd.mul b2 r1
 have m2:Bd 1381 (a.2*(b.1-a.1)*p.2):=Bd.mul m1 b6
 have m3:Bd 1180 (a.1*p.2):=Bd.mul b1 b6
 have m4:Bd 1181 (p.1-a.1*p.2):=Bd.sub (b5.mono (by decide)) m3
 have m5:Bd 1382 ((b.2-a.2)*(p.1-a.1*p.2)):=Bd.mul r2 m4
 have m6:Bd 1181 ((b.1-a.1)*p.2):=Bd.mul r1 b6
 have bT:Bd 1400 (a.2*(b.1-a.1)*p.2+(b.2-a.2)*(p.1-a.1*p.2)):=(Bd.add (n:=1382) (m2.mono (by decide)) m5).mono (by decide)
 have c1:zaK a.2 (b.1-a.1):=.inl ⟨b2.mono (by decide),r1.mono (by decide)⟩
 have c2:zaK (a.2*(b.1-a.1)) p.2:=.inl ⟨m1.mono (by decide),b6.mono (by decide)⟩
 have c3:zaK a.1 p.2:=.inl ⟨b1.mono (by decide),b6.mono (by decide)⟩
 have c4:zaK (b.2-a.2) (p.1-a.1*p.2):=.inl ⟨r2.mono (by decide),m4.mono (by decide)⟩
 have c5:zaK (b.1-a.1) p.2:=.inl ⟨r1.mono (by decide),b6.mono (by decide)⟩
 walk_at "g"
 have hr:(b.1-a.1)*p.2≠0:=Int.mul_ne_zero (by omega) (by omega)
 refine⟨_,_,rfl,hr,m6.mono (by decide),?_⟩
 refine fin_same (q _ ?_ (zrP hr) (zp7 bT) ((zqD m6).mono (by decide)))
 have hs:=ztk (t:=a.2*(b.1-a.1)*p.2+(b.2-a.2)*(p.1-a.1*p.2)) hr
 unfold hvT hvB
 by_cases g:0<b.1-a.1
 ·have:0<(b.1-a.1)*p.2:=Int.mul_pos g hp
  rw [if_pos this,if_pos this] at hs
  rw [if_pos g,if_pos g];exact hs
 ·have:¬ 0<(b.1-a.1)*p.2:=fun z=>by
   have:=Int.mul_pos (show 0 < -(b.1-a.1) by omega) hp
   rw [Int.neg_mul] at this
   omega
  rw [if_neg this,if_neg this] at hs
  rw [if_neg g,if_neg g];exact hs
def zca:zfO:=fun ds S Q ex=>∃ (g:D) (cs:List (Int×Int)) (p:Int×Int),ds=[g,p2 p]/\GAt S g cs/\Grd cs/\0<p.2/\Bd 1000 p.1/\Bd 1000 p.2/\(¬ OnG cs p->ex "OffGround" S)/\(OnG cs p->∀ a b c:Int×Int,zfT cs p=some (a,b)->Sv c (hvT a b p) (hvB a b p)->0<hvB a b p->Int.gcd c.1 c.2=1->Bd 1400 c.1->Bd 1400 c.2->Q (p2 c) S)
def zds (ex : XR) : DS :=
    (zG (sIf (zcU (dT (dCall zdg (zj (zc 0) (zj (zc 1) zu))))) (zeL ex "OffGround") zad)
 (zG (zO (zaL "corners" (zc 0)) (zB 2))
 (zG (zO (dC (.int 1)) (zB 3))
 (zG (zeP (dT (dCall zcL (zj (dTup (zj (dOp oIx (dOp oIx (zc 2) (zc 3)) (dC (.int 0))) (zj (dC (.int 1)) zu))) (zj (zc 1) zu)))) (zkv 3 (dC (.int 1))))
 (zai (dCall zb7 (zj (dOp oIx (zc 2) (dOp zbX (zc 3) (dC (.int 1)))) (zj (dOp oIx (zc 2) (zc 3)) (zj (zc 1) zu)))))))))
theorem zi9:∀ ds So Q ex,zca ds So Q ex->ds.length=2:=by rintro ds So Q ex ⟨_,_,_,rfl,_⟩;rfl
theorem zkb:zij 4 zds zca:=by
 rintro ds S Q ex ⟨g,cs,p,rfl,hg,gr,hp,b1,b2,hx,q⟩
 unfold zds
 obtain⟨n,l,rfl,hn,hl⟩:=id hg
 walk_at "g"
 refine⟨_,cs,p,rfl,hg,gr,b1,b2,?_⟩
 by_cases on:OnG cs p
 case neg =>
  have e:(decide (zhX cs*p.2<=p.1)&&decide (p.1<=zfD cs*p.2))=false:=Bool.eq_false_iff.mpr fun z=>on (by rw [Bool.and_eq_true,decide_eq_true_eq,decide_eq_true_eq] at z;exact z)
  rw [e]
  walk_at "g"
  exact hx on
 have q:=q on
 obtain⟨kk,a,b,ha,hb,hle,hlt⟩:=zg4 gr.two on.2
 have seg:=seg_at ha hb hle hlt
 have hk:=zae hb
 rw [decide_eq_true on.1,decide_eq_true on.2,show (true&&true)=true from rfl]
 walk_at "g"
 refine zqc (fun m ρ S'=>S'=S/\∃ j:Nat,ρ=[some (.ref n),some (p2 p),some (.ref l),some (.int ((j:Int)+1))]/\m=kk-j/\j<=kk) kk ⟨rfl,0,rfl,rfl,by omega⟩ ?_
 rintro m ρ S' ⟨rfl,j,rfl,rfl,hj⟩
 obtain⟨c,hc,ac⟩:=zhz (cs:=cs) (k:=(j:Int)+1) (by omega) (by omega)
 have hc':cs[j+1]?=some c:=by rwa [show ((j:Int)+1).toNat=j+1 by omega] at hc
 obtain⟨bc,bc2⟩:=gr.bd c (List.mem_of_getElem? hc)
 have e1:flt (c.1,1) p=decide (c.1*p.2<p.1):=by unfold flt;dsimp only;rw [Int.mul_one]
 walk_at "g"
 refine⟨(c.1,1),p,rfl,.inl ⟨bc.mono (by decide),b2.mono (by decide)⟩,.inr (.inr (show (1:Int).natAbs<2 ^ 64 by decide)),?_⟩
 rw [e1]
 walk_at "g"
 refine r_d (fun h=>?_) (fun h=>?_)
 ·walk_at "g"
  have hjk:j<kk:=by
   rcases Nat.lt_or_ge j kk with z|z
   ·exact z
   ·have:j=kk:=by omega
    subst this
    rw [hb] at hc'
    cases hc'
    omega
  exact⟨kk-(j+1),by omega,rfl,j+1,by simp,rfl,by omega⟩
 ·have hjk:j=kk:=by
   rcases Nat.lt_or_ge j kk with z|z
   ·have:=hlt (j+1) c (by omega) (by omega) hc'
    omega
   ·omega
  subst hjk
  rw [hb] at hc'
  cases hc'
  have aa:atD (cs.map p2) ((j:Int)+1-1)=some (p2 a):=by
   rw [show (j:Int)+1-1=(j:Int) by omega]
   exact zbR (by rw [List.getElem?_map,ha];rfl)
  obtain⟨ba1,ba2⟩:=gr.bd a (List.mem_of_getElem? ha)
  have hab:=zdA gr (show j<j+1 by omega) ha hb
  walk_at "g"
  refine⟨a,b,p,rfl,by omega,hp,ba1.mono (by decide),ba2.mono (by decide),bc.mono (by decide),bc2.mono (by decide),b1,b2,fun c hs hg d1 d2=>?_⟩
  exact fin_same (q a b c seg hs (zld (by omega) hp) hg d1 d2)
def zdz:DSp:=fun ds S Q=>∃ (g:D) (cs:List (Int×Int)) (s:Int×Int),ds=[g,p2 s]/\GAt S g cs/\Grd cs/\Bd 180 s.1/\Bd 200 s.2/\∀ b:Bool,(b=true↔zhM cs s)->Q (.bl b) S
def ze2:DS :=
    (zG (zO (dTup (zj (dOp oIx (zc 1) (dC (.int 0))) (zj (dC (.int 1)) zu))) (zB 2))
 (zG (sIf (zcU (dT (dCall zdg (zj (zc 0) (zj (zc 2) zu))))) (zai (dC (.bl false))) zad)
 (zai (zgh (dCall zcL (zj (dTup (zj (dOp oIx (zc 1) (dC (.int 1))) (zj (dC (.int 1)) zu))) (zj (zdB zca xF (zj (zc 0) (zj (zc 2) zu))) zu)))))))
theorem zl8:∀ ds So Q,zdz ds So Q->ds.length=2:=by rintro ds So Q ⟨_,_,_,rfl,_⟩;rfl
theorem zmu:BodyOk 3 ze2 zdz:=by
 rintro ds S Q ⟨g,cs,s,rfl,hg,gr,b1,b2,q⟩
 unfold ze2
 have bo:Bd 1000 (1:Int):=Bd.lit (by decide) (by decide)
 walk_at "g"
 refine⟨g,cs,(s.1,1),rfl,hg,gr,b1.mono (by decide),bo,?_⟩
 by_cases on:OnG cs (s.1,1)
 case neg =>
  have e:(decide (zhX cs*(s.1,(1:Int)).2<=(s.1,(1:Int)).1)&&decide ((s.1,(1:Int)).1<=zfD cs*(s.1,(1:Int)).2))=false:=Bool.eq_false_iff.mpr fun z=>on (by rw [Bool.and_eq_true,decide_eq_true_eq,decide_eq_true_eq] at z;exact z)
  rw [e]
  walk_at "g"
  exact fin_same (q false ⟨fun z=>(by cases z),fun z=>absurd z.1 on⟩)
 rw [decide_eq_true on.1,decide_eq_true on.2,show (true&&true)=true from rfl]
 walk_at "g"
 refine⟨g,cs,(s.1,1),rfl,hg,gr,(show (0:Int)<1 by decide),b1.mono (by decide),bo,fun off=>absurd on off,fun _ a b c seg sv hb hgcd d1 d2=>?_⟩
 walk_at "g"
 refine⟨(s.2,1),c,rfl,.inl ⟨b2.mono (by decide),d2.mono (by decide)⟩,.inr (.inr (show (1:Int).natAbs<2 ^ 64 by decide)),?_⟩
 rw [zp6 (t:=s.2) (b:=1) (by decide) hb ⟨(show (0:Int)<1 by decide),rfl⟩ sv]
 walk_at "g"
 refine fin_same (q _ ?_)
 rw [Bool.not_eq_true',decide_eq_false_iff_not]
 constructor
 ·intro h
  refine⟨on,fun a' b' seg'=>?_⟩
  rw [seg] at seg';cases seg';omega
 ·intro h
  have:=h.2 a b seg
  omega
def za3:DSp:=fun ds S Q=>∃ (g y:D) (cs:List (Int×Int)) (bs:List (Str×(Int×Int))),ds=[g,y]/\GAt S g cs/\Grd cs/\Lst S y (bs.map bcD)/\bs.length<=100/\(∀ b∈bs,zhM cs b.2/\Bd 180 b.2.1/\Bd 200 b.2.2)/\Q .non S
def zbN:DS :=
  (sIf (zcU (dT (dB zd7 (zj (dLC 3 [0] (zaP (zc 1)) (zeX 3 (zbt (zB 0) (zbt (zB 1) (zbt (zB 2) zes)))) zaE (dCall zdz (zj (zc 3) (zj (dTup (zj (zc 1) (zj (zc 2) zu))) zu)))) zu)))) za2 zad)
theorem zfw:∀ ds So Q,za3 ds So Q->ds.length=2:=by rintro ds So Q ⟨_,_,_,_,rfl,_⟩;rfl
theorem zfS:BodyOk 2 zbN za3:=by
 rintro ds S Q ⟨g,y,cs,bs,rfl,hg,gr,hy,hl,hb,q⟩
 unfold zbN
 walk_at "g"
 refine zbn (fun _=>true) (znh fun _=>.bl true) hy (by rw [List.length_map];unfold big;omega) (fun i d ys hd hw=>?_) ?_
 ·obtain⟨b,hbi,rfl⟩:=zhd hd
  obtain⟨s1,s2,s3⟩:=hb b (List.mem_of_getElem? hbi)
  walk_at "g"
  refine⟨g,cs,b.2,rfl,hg,gr,s2,s3,fun r hr=>?_⟩
  rw [hr.mpr s1]
  exact zb6 hd hw rfl rfl
 rw [filter_true,zjB,show bs.map (fun _=>D.bl true)=(bs.map fun _=>true).map D.bl by rw [List.map_map];rfl]
 walk_at "g"
 refine zf1 (b:=true) Lst.at0 (by rw [List.all_map,List.all_eq_true];intro _ _;rfl) ?_
 walk_at "g"
 exact zdb rfl q
def zcx:DSp:=fun ds S Q=>∃ i:Int,ds=[.int i]/\Q (.bl true) S
def zdO:DS :=
  (zai (zfl (dB zdH (zj (zc 0) (zj (dC (.ty "int")) zu))) (zgh (dB zdH (zj (zc 0) (zj (dC (.ty "bool")) zu))))))
theorem zjY:∀ ds So Q,zcx ds So Q->ds.length=1:=by rintro ds So Q ⟨_,rfl,_⟩;rfl
theorem zkX:BodyOk 1 zdO zcx:=by
 rintro ds S Q ⟨i,rfl,q⟩
 unfold zdO
 walk_at "g"
 exact fin_same q
def zdD:DSp:=fun ds S Q=>∃ F:Fg,ds=[fgD F]/\F.x0<=F.x1/\F.z0<=F.z1/\F.f<=F.l/\Q (.bl true) S
def zfb:DS :=
    (zG (sIf (dOr (zcU (dT (dB zdH (zj (zc 0) (zj (dC (.ty "tuple")) zu))))) (dT (dOp oNe (dB za1 (zj (zc 0) zu)) (dC (.int 8))))) (zai (dC (.bl false))) zad)
 (zG (sIf (zcU (dT (dB zd7 (zj (dLC 1 [] (zaP (zc 0)) (zB 0) zaE (dCall zcx (zj (zc 0) zu))) zu)))) (zai (dC (.bl false))) zad)
 (zai (zfl (dOp oLe (dOp oIx (zc 0) (dC (.int 0))) (dOp oIx (zc 0) (dC (.int 1)))) (zfl (dOp oLe (dOp oIx (zc 0) (dC (.int 2))) (dOp oIx (zc 0) (dC (.int 3)))) (dOp oLe (dOp oIx (zc 0) (dC (.int 4))) (dOp oIx (zc 0) (dC (.int 5)))))))))
theorem zl0:∀ ds So Q,zdD ds So Q->ds.length=1:=by rintro ds So Q ⟨_,rfl,_⟩;rfl
theorem zmA:BodyOk 1 zfb zdD:=by
 rintro ds S Q ⟨F,rfl,h1,h2,h3,q⟩
 unfold zfb
 walk_at "g"
 rw [show (!decide ((([D.int F.x0,D.int F.x1,D.int F.z0,D.int F.z1,D.int F.f,D.int F.l,D.int F.g,D.int F.s]:List D).length:Int)=8))=false by rfl]
 walk_at "g"
 refine zbn (fun _=>true) (fun _=>.bl true) True.intro (by show 8<=big;unfold big;decide) (fun i d ys hd hw=>?_) ?_
 ·obtain⟨z,_,rfl⟩:=zlo (zs:=[F.x0,F.x1,F.z0,F.z1,F.f,F.l,F.g,F.s]) hd
  walk_at "g"
  refine⟨z,rfl,?_⟩
  exact zb6 hd hw rfl rfl
 walk_at "g"
 refine zf1 (bs:=List.replicate 8 true) (b:=true) Lst.at0 rfl ?_
 walk_at "g"
 rw [decide_eq_true h1]
 walk_at "g"
 rw [decide_eq_true h2]
 walk_at "g"
 rw [decide_eq_true h3]
 exact zdb rfl q
theorem zrV {α:Type}(xs:List α)(f:α->D):(xs.map f).map (fun _=>D.bl true)=(xs.map fun _=>true).map D.bl:=by rw [List.map_map,List.map_map];rfl
def za0:DSp:=fun ds S Q=>∃ (z:D) (fs:List Fg),ds=[z]/\Lst S z (fs.map fgD)/\fs.length<=100/\(∀ F∈fs,FgV F)/\Q .non S
def zbO:DS :=
  (sIf (zcU (dT (dB zd7 (zj (dLC 1 [] (zaP (zc 0)) (zB 0) zaE (dCall zdD (zj (zc 0) zu))) zu)))) za2 zad)
theorem zfq:∀ ds So Q,za0 ds So Q->ds.length=1:=by rintro ds So Q ⟨_,_,rfl,_⟩;rfl
theorem zfC:BodyOk 1 zbO za0:=by
 rintro ds S Q ⟨z,fs,rfl,hz,hl,hf,q⟩
 unfold zbO
 walk_at "g"
 refine zbn (fun _=>true) (fun _=>.bl true) hz (by rw [List.length_map];unfold big;omega) (fun i d ys hd hw=>?_) ?_
 ·obtain⟨F,hF,rfl⟩:=zj7 hd
  have k:=hf F (List.mem_of_getElem? hF)
  walk_at "g"
  refine⟨F,rfl,k.b.x,k.b.z,k.o,?_⟩
  exact zb6 hd hw rfl rfl
 rw [filter_true,zrV]
 walk_at "g"
 refine zf1 (b:=true) Lst.at0 (by rw [List.all_map,List.all_eq_true];intro _ _;rfl) ?_
 walk_at "g"
 exact zdb rfl q
def zaR:DSp:=fun ds S Q=>∃ (hz:Option Int) (a b d:Int),ds=[zce hz,.int a,.int b,.int d]/\a<=b/\0<=d/\(∀ z,hz=some z->0<=z)/\Q .non S
def zbC:DS :=
    (zG (sIf (dT (dOp oGt (zc 1) (zc 2))) za2 zad)
 (zG (sIf (dT (dOp oLt (zc 3) (dC (.int 0)))) za2 zad)
 (sIf (ze8 (dT (dOp zfG (zc 0) (dC .non))) (dT (dOp oLt (zc 0) (dC (.int 0))))) za2 zad)))
theorem zeW:∀ ds So Q,zaR ds So Q->ds.length=4:=by rintro ds So Q ⟨_,_,_,_,rfl,_⟩;rfl
theorem zfz:BodyOk 4 zbC zaR:=by
 rintro ds S Q ⟨hz,a,b,d,rfl,hab,hd,hh,q⟩
 unfold zbC
 walk_at "g"
 rw [decide_eq_false (show ¬ b<a by omega)]
 walk_at "g"
 rw [decide_eq_false (show ¬ d<0 by omega)]
 cases hz with
 |none =>
  walk_at "g"
  exact fin_same q
 |some z =>
  have:=hh z rfl
  unfold zce
  walk_at "g"
  rw [decide_eq_false (show ¬ z<0 by omega)]
  walk_at "g"
  exact fin_same q
def zcq:DSp:=fun ds S Q=>∃ (S0:Sto) (g y z:D) (V:Vl),ds=[.ref S0.length,g,y,z,zce V.hz,.int V.h0,.int V.h1,.int V.dl]/\S=S0++[.ins "Valley" []]/\GAt S0 g V.cs/\Lst S0 y (V.bs.map bcD)/\Lst S0 z (V.fs.map fgD)/\zjw V/\∀ T,VAt (S0++T) (.ref S0.length) V->Q .non (S0++T)
def zbw:DS :=
    (zG (zaY (dCall zaJ (zj (zc 2) (zj (zc 3) zu))))
 (zG (zaY (dCall zaQ (zj (dLC 1 [] (zaP (zc 2)) (zB 0) zaE (dOp oIx (zc 0) (dC (.int 0)))) zu)))
 (zG (zaY (dCall za3 (zj (zc 1) (zj (zc 2) zu))))
 (zG (zaY (dCall za0 (zj (zc 3) zu)))
 (zG (zaY (dCall zaR (zj (zc 4) (zj (zc 5) (zj (zc 6) (zj (zc 7) zu))))))
 (zG (zdl "Valley" "ground" (zc 0) (dCall zeh (zj (zaL "corners" (zc 1)) zu)))
 (zG (zdl "Valley" "beacons" (zc 0) (dB zed (zj (zc 2) zu)))
 (zG (zdl "Valley" "fogs" (zc 0) (dB zed (zj (zc 3) zu)))
 (zG (zdl "Valley" "haze" (zc 0) (zc 4))
 (zG (zdl "Valley" "first" (zc 0) (zc 5))
 (zG (zdl "Valley" "last" (zc 0) (zc 6))
 (zdl "Valley" "delay" (zc 0) (zc 7)))))))))))))
theorem zg3:∀ ds So Q,zcq ds So Q->ds.length=8:=by rintro ds So Q ⟨_,_,_,_,_,rfl,_⟩;rfl
theorem zik:BodyOk 8 zbw zcq:=by
 rintro ds S Q ⟨S0,g,y,z,V,rfl,rfl,hg,hy,hz,ok,q⟩
 unfold zbw
 obtain⟨Sa,hSa⟩:∃ Sa:Sto,Sa=S0++[.ins "Valley" []]:=⟨_,rfl⟩
 have hya:Lst Sa y (V.bs.map bcD):=hSa▸hy.old
 have hza:Lst Sa z (V.fs.map fgD):=hSa▸hz.old
 rw [<- hSa]
 walk_at "g"
 refine⟨y,z,_,_,rfl,hya,hza,by rw [List.length_map];exact ok.b1,by rw [List.length_map];exact ok.b12,by rw [List.length_map];exact ok.f12,?_⟩
 walk_at "g"
 have b12:=ok.b12
 have f12:=ok.f12
 refine zbn (fun _=>true) (znh fun b=>.str b.1) hya (by rw [List.length_map];unfold big;omega) (fun i d ys hd hw=>?_) ?_
 ·obtain⟨b,_,rfl⟩:=zhd hd
  walk_at "g"
  exact zb6 hd hw rfl rfl
 rw [filter_true,zjB,show V.bs.map (fun b=>D.str b.1)=(V.bs.map (·.1)).map D.str by rw [List.map_map];rfl,hSa]
 walk_at "g"
 refine⟨_,V.bs.map (·.1),rfl,Lst.at rfl,by rw [List.length_map];omega,fun n hn=>?_,ok.nd,?_⟩
 ·obtain⟨b,hb,rfl⟩:=List.mem_map.mp hn
  exact ok.nm b hb
 walk_at "g"
 generalize (V.bs.map (·.1)).map D.str=nms
 refine⟨g,y,V.cs,V.bs,rfl,hg.old,ok.gr,hy.old,by omega,fun b hb=>⟨ok.st b hb,ok.bd b hb⟩,?_⟩
 walk_at "g"
 refine⟨z,V.fs,rfl,hz.old,by omega,ok.fg,?_⟩
 walk_at "g"
 refine⟨V.hz,_,_,_,rfl,ok.hh,ok.dl,ok.hz,?_⟩
 obtain⟨gn,gl,rfl,hgn,hgl⟩:=hg
 have hgn1:(S0++[.ins "Valley" [],.lst nms])[gn]?=some (.ins "Ground" [("corners",.ref gl)]):=zQ hgn
 walk_at "g"
 refine⟨_,_,V.cs,rfl,rfl,.inr ⟨gl,rfl,zQ hgl⟩,ok.gr,⟨rfl,?_⟩⟩
 rw [List.append_assoc,show (S0++[Cell.ins "Valley" [],.lst nms]).length=S0.length+2 by simp,show ([Cell.ins "Valley" [],.lst nms]:Sto)++[.ins "Ground" [("corners",.ref (S0.length+2+1))],.lst (V.cs.map p2)]=[.ins "Valley" [],.lst nms,.ins "Ground" [("corners",.ref (S0.length+3))],.lst (V.cs.map p2)] from rfl]
 walk_at "g"
 refine⟨S0.length,[],rfl,zaN,by decide,?_⟩
 rw [zck,znv]
 have hy2:∀ T,Lst (S0++T) y (V.bs.map bcD):=fun T=>hy.old
 have hz2:∀ T,Lst (S0++T) z (V.fs.map fgD):=fun T=>hz.old
 walk_at "g"
 refine⟨S0.length,_,rfl,zaN,by simp,?_⟩
 rw [zck,vp2]
 walk_at "g"
 refine⟨S0.length,_,rfl,zaN,by simp,?_⟩
 rw [zck,vp3]
 walk_at "g"
 refine⟨S0.length,_,rfl,zaN,by simp,?_⟩
 rw [zck,vp4]
 walk_at "g"
 refine⟨S0.length,_,rfl,zaN,by simp,?_⟩
 rw [zck,vp5]
 walk_at "g"
 refine⟨S0.length,_,rfl,zaN,by simp,?_⟩
 rw [zck,vp6]
 walk_at "g"
 refine⟨S0.length,_,rfl,zaN,by simp,?_⟩
 rw [zck,vp7]
 refine fin_same (q _ ⟨S0.length,_,_,_,rfl,zaN,⟨_,_,rfl,(zbo _ _ 2).trans rfl,(zbo _ _ 3).trans rfl⟩,(zbo _ _ 4).trans rfl,(zbo _ _ 5).trans rfl⟩)
def zga:DSp:=zlW "Valley" zcq
def zbl:DSp:=fun ds S Q=>∃ (V:Vl),ds=[.str (zbK V)]/\VlN V/\∀ (T:Sto) v,VAt (S++T) v V->Q v (S++T)
def zcD:DS :=
    (zG (zO (dCall zbI (zj (zc 0) zu)) (zB 1))
 (zG (zO (dLC 1 [] (zaP (dOp oIx (zfZ (zc 1) (dC (.str "ground"))) (dC (.int 0)))) (zB 0) zaE (dCall za5 (zj (zf3 (zc 0) (dC (.str ":"))) zu))) (zB 2))
 (zG (zO (dCall za5 (zj (dOp oIx (zfZ (zc 1) (dC (.str "hours"))) (dC (.int 0))) zu)) (zB 3))
 (zG (zO (zdB zaG xF (zj (dOp oIx (dOp oIx (zfZ (zc 1) (dC (.str "delay"))) (dC (.int 0))) (dC (.int 0))) zu)) (zB 4))
 (zG (zO (dLC 1 [] (zaP (zfZ (zc 1) (dC (.str "haze")))) (zB 0) zaE (zdB zaG xF (zj (dOp oIx (zc 0) (dC (.int 0))) zu))) (zB 5))
 (zG (zO (dLC 1 [] (zaP (zfZ (zc 1) (dC (.str "beacon")))) (zB 0) zaE (dTup (zj (dOp oIx (zc 0) (dC (.int 0))) (zj (zdB zaG xF (zj (dOp oIx (zc 0) (dC (.int 1))) zu)) (zj (zdB zaG xF (zj (dOp oIx (zc 0) (dC (.int 2))) zu)) zu))))) (zB 6))
 (zG (zO (dLC 1 [] (zaP (zfZ (zc 1) (dC (.str "fog")))) (zB 0) zaE (dCall za5 (zj (zc 0) zu))) (zB 7))
 (zG (sJ (zO (zl7 (dT (dOp oGt (dB za1 (zj (zc 5) zu)) (dC (.int 0)))) (dOp oIx (zc 5) (dC (.int 0))) (dC .non)) (zB 8)))
 (zai (dCall zga (zj (dCall zeh (zj (zc 2) zu)) (zj (zc 6) (zj (zc 7) (zj (zc 8) (zj (dOp oIx (zc 3) (dC (.int 0))) (zj (dOp oIx (zc 3) (dC (.int 1))) (zj (zc 4) zu)))))))))))))))))
theorem zg1:∀ ds So Q,zbl ds So Q->ds.length=1:=by rintro ds So Q ⟨_,rfl,_⟩;rfl
theorem zh2:BodyOk 9 zcD zbl:=by
  rintro ds S Q ⟨V,rfl,N,q⟩
  unfold zcD
  have t:=N.t
  have ok:=t.ok
  have g40:=ok.gr.most
  have b12:=ok.b12
  have f12:=ok.f12
  obtain⟨l28,hlw⟩:=zdW t
  walk_at "g"
  refine⟨V,rfl,N,fun T x hx=>?_⟩
  obtain⟨n,kvs,rfl,hn,hb⟩:=hx
  obtain⟨yg,dg,rg⟩:=hb ("ground",[wGr V]) (by unfold za6;simp)
  obtain⟨yh,dh,rh⟩:=hb ("hours",[wHo V]) (by unfold za6;simp)
  obtain⟨yd,dd,rd⟩:=hb ("delay",[wDe V]) (by unfold za6;simp)
  obtain⟨yz,dz,rz⟩:=hb ("haze",wHa V) (by unfold za6;simp)
  obtain⟨yb,db,rb⟩:=hb ("beacon",V.bs.map wBe) (by unfold za6;simp)
  obtain⟨yf,df,rf⟩:=hb ("fog",V.fs.map wFo) (by unfold za6;simp)
  clear hb
  obtain⟨S1,hS1⟩:∃ S1:Sto,S1=S++T:=⟨_,rfl⟩
  rw [<- hS1] at hn rg rh rd rz rb rf ⊢
  have kn:∀ T,(S1++T)[n]?=some (.dk kvs):=fun T=>zQ hn
  have num:∀ {P:D->Sto->Prop} {ex:XD} {S':Sto} {i:Int},N60 i->(∀ T,P (.int i) (S'++T))->zaG [.str (z6 i)] S' P ex:=fun {P ex S' i} b h=>⟨z6 i,rfl,⟨Nat.le_trans (zbM (b.mono (by decide))).1 (by decide),(zbM (b.mono (by decide))).2⟩,fun no=>absurd (zk9 (n60 b)) no,fun _ T m em _=>by rw [zjZ em];exact h T⟩
  obtain⟨tg,xg,rfl,hg1,hg2,hg3⟩:=rg
  obtain⟨mg,ag,hg4⟩:=hg3 0 (wGr V).tail rfl
  have eg:((wGr V).tail.map wdS).map D.str=(V.cs.map zbu).map D.str:=by
    show ((V.cs.map fun c=>Sum.inr (zbu c)).map wdS).map D.str=_
    rw [List.map_map,List.map_map,List.map_map];rfl
  rw [eg] at hg4
  walk_at "g"
  refine⟨_,DGt.k hn dg,?_⟩
  walk_at "g"
  refine zgi (d:=.ref mg) (Lst.here hg1) (zbR (i:=0) ag) ?_
  have kc:∀ T,Lst (S1++T) (.ref mg) ((V.cs.map zbu).map D.str):=fun T=>Lst.here (zQ hg4)
  walk_at "g"
  refine zc0 (fun i ys S'=>∃ T,S'=S1++T/\ys=(V.cs.take i).map p2) ⟨[],(List.append_nil _).symm,rfl⟩ (fun i ys S' zq4=>by obtain⟨T,e,_⟩:=zq4;exact e▸kc T) (by rw [List.length_map,List.length_map];unfold big;omega) ?_ ?_
  · rintro i d ys S' hd ⟨T,rfl,rfl⟩
    obtain⟨z,hz,rfl⟩:=zeD hd
    obtain⟨c,hc,rfl⟩:∃ c,V.cs[i]?=some c/\z=zbu c:=by
      rw [List.getElem?_map] at hz
      cases e:V.cs[i]? with
      |none=>rw [e] at hz;cases hz
      |some n=>rw [e] at hz;cases hz;exact⟨n,rfl,rfl⟩
    obtain⟨c1,c2⟩:=ok.gr.bd c (List.mem_of_getElem? hc)
    have pl:=zln (c:=c) (c1.mono (by decide)) (c2.mono (by decide))
    walk_at "g"
    refine⟨⟨_,rfl⟩,?_⟩
    walk_at "g"
    refine⟨_,58,[z6 c.1,z6 c.2],rfl,by rw [show (":":Str)=⟨#[58]⟩ by decide +kernel],by have:=pl.1;unfold big;omega,zo6 c,?_⟩
    refine zbW ?_
    walk_at "g"
    refine⟨_,[c.1,c.2],rfl,Lst.new,Nat.le_of_ble_eq_true rfl,fun m hm=>?_,fun T2=>?_⟩
    · have:m=c.1\/m=c.2:=by simpa using hm
      rcases this with rfl|rfl
      · exact c1.mono (by decide)
      · exact c2.mono (by decide)
    · exact⟨_,List.append_assoc ..,by rw [zan hc,List.map_append];rfl⟩
  rintro ys S' ⟨T1,rfl,rfl⟩
  rw [List.length_map,List.length_map,List.take_length]
  unfold New
  obtain⟨S2,hS2⟩:∃ S2:Sto,S2=S1++T1++[.lst (V.cs.map p2)]:=⟨_,rfl⟩
  have e2:∃ T,S2=S1++T:=⟨_,by rw [hS2,List.append_assoc]⟩
  have kcs:Lst S2 (.ref (S1++T1).length) (V.cs.map p2):=hS2▸Lst.at0
  rw [<- hS2]
  generalize (S1++T1).length=ic at kcs
  clear hS2 kc
  have up:∀ {x:D} {ws:List (List (Sum Int Str))},Rws S1 x ws->Rws S2 x ws:=fun h=>by obtain⟨T,rfl⟩:=e2;exact h.old
  have hn2:S2[n]?=some (.dk kvs):=by obtain⟨T,rfl⟩:=e2;exact kn T
  have rh2:=up rh
  have rd2:=up rd
  have rz2:=up rz
  have rb2:=up rb
  have rf2:=up rf
  have xS:∃ T,S2=S++T:=by obtain⟨T3,rfl⟩:=e2;rw [hS1,List.append_assoc];exact⟨_,rfl⟩
  clear e2 up kn rh rd rz rb rf hg1 hg2 hg3 hg4 hn hS1
  obtain⟨th,xh,rfl,hh1,hh2,hh3⟩:=rh2
  obtain⟨mh,ah,hh4⟩:=hh3 0 (wHo V).tail rfl
  have eh:((wHo V).tail.map wdS).map D.str=([V.h0,V.h1].map z6).map D.str:=rfl
  rw [eh] at hh4
  walk_at "g"
  refine⟨_,DGt.k hn2 dh,?_⟩
  walk_at "g"
  refine zgi (d:=.ref mh) (Lst.here hh1) (zbR (i:=0) ah) ?_
  walk_at "g"
  refine⟨_,[V.h0,V.h1],rfl,Lst.here hh4,Nat.le_of_ble_eq_true rfl,fun m hm=>?_,fun T3=>?_⟩
  · have:m=V.h0\/m=V.h1:=by simpa using hm
    rcases this with rfl|rfl
    · exact N.h0
    · exact N.h1
  obtain⟨td,xd,rfl,hd1,hd2,hd3⟩:=rd2.old (T:=T3)
  obtain⟨md,add,hd4⟩:=hd3 0 (wDe V).tail rfl
  walk_at "g"
  refine⟨_,DGt.k (zQ hn2) dd,?_⟩
  walk_at "g"
  refine zgi (d:=.ref md) (Lst.here hd1) (zbR (i:=0) add) ?_
  walk_at "g"
  refine num N.dl fun T4=>?_
  rw [List.append_assoc]
  generalize T3++T4=T5
  obtain⟨tz,xz,rfl,hz1,hz2,hz3⟩:=rz2
  have kz:∀ T,Lst (S2++T) (.ref tz) xz:=fun T=>Lst.here (zQ hz1)
  walk_at "g"
  refine⟨_,DGt.k (zQ hn2) dz,?_⟩
  walk_at "g"
  have lz:xz.length<=1:=by rw [hz2,List.length_map];unfold wHa;split<;>simp
  have kz5:=kz T5
  walk_at "g"
  refine zc0 (fun i ys S'=>∃ T,S'=S2++(T5++T)/\ys=(V.hz.toList.take i).map D.int) ⟨[],by rw [List.append_nil],rfl⟩ (fun i ys S' zq5=>by obtain⟨T,e,_⟩:=zq5;exact e▸kz _) (by unfold big;omega) ?_ ?_
  · rintro i d ys S' hd ⟨T,rfl,rfl⟩
    have li:=zae hd
    have ei:i=0:=by omega
    subst ei
    cases hv:V.hz with
    |none =>
      have:wHa V=[]:=by unfold wHa;rw [hv]
      rw [this] at hz2
      simp at hz2
      rw [hz2] at hd
      simp at hd
    |some hzv =>
      have ew:wHa V=[[.inr "haze",.inl hzv]]:=by unfold wHa;rw [hv]
      obtain⟨m,a1,a2⟩:=hz3 0 [.inl hzv] (by rw [ew];rfl)
      rw [hd] at a1
      cases a1
      walk_at "g"
      refine num (N.hz hzv hv) fun T6=>?_
      exact⟨T++T6,by rw [List.append_assoc,List.append_assoc],rfl⟩
  rintro ys S' ⟨T6,rfl,rfl⟩
  have elz:(V.hz.toList.take xz.length)=V.hz.toList:=by
    rw [hz2,List.length_map]
    unfold wHa
    cases V.hz<;>rfl
  rw [elz]
  refine zbW ?_
  generalize hT7:T5++T6++[Cell.lst (V.hz.toList.map D.int)]=T7
  have kh7:Lst (S2++T7) (.ref (S2.length+(T5++T6).length)) (V.hz.toList.map D.int):=by
    rw [<- hT7,<- List.append_assoc,<- List.length_append];exact Lst.at0
  generalize S2.length+(T5++T6).length=iz at kh7
  clear hT7 kz kz5
  obtain⟨tb,xb,rfl,hb1,hb2,hb3⟩:=rb2
  rw [List.length_map,List.length_map] at hb2
  have kb:∀ T,Lst (S2++T) (.ref tb) xb:=fun T=>Lst.here (zQ hb1)
  walk_at "g"
  refine⟨_,DGt.k (zQ hn2) db,?_⟩
  have kb7:=kb T7
  walk_at "g"
  refine zc0 (fun i ys S'=>∃ T,S'=S2++(T7++T)/\ys=(V.bs.take i).map bcD) ⟨[],by rw [List.append_nil],rfl⟩ (fun i ys S' zq6=>by obtain⟨T,e,_⟩:=zq6;exact e▸kb _) (by unfold big;omega) ?_ ?_
  · rintro i d ys S' hd ⟨T,rfl,rfl⟩
    have li:=zae hd
    obtain⟨b,hbi⟩:∃ b,V.bs[i]?=some b:=⟨_,List.getElem?_eq_getElem (by omega)⟩
    obtain⟨m,a1,a2⟩:=hb3 i (wBe b).tail (by rw [List.getElem?_map,List.getElem?_map,hbi];rfl)
    rw [hd] at a1
    cases a1
    obtain⟨n1,n2⟩:=N.b b (List.mem_of_getElem? hbi)
    walk_at "g"
    refine num n1 fun T8=>?_
    rw [List.append_assoc]
    walk_at "g"
    refine num n2 fun T9=>?_
    walk_at "g"
    exact⟨T++T8++T9,by simp only [List.append_assoc],by rw [zan hbi,List.map_append];rfl⟩
  rintro ys S' ⟨T8,rfl,rfl⟩
  rw [hb2,List.take_length]
  refine zbW ?_
  generalize hT9:T7++T8++[Cell.lst (V.bs.map bcD)]=T9
  have kh9:Lst (S2++T9) (.ref iz) (V.hz.toList.map D.int):=by
    rw [<- hT9,List.append_assoc,<- List.append_assoc S2];exact kh7.old
  have kb9:Lst (S2++T9) (.ref (S2.length+(T7++T8).length)) (V.bs.map bcD):=by
    rw [<- hT9,<- List.append_assoc,<- List.length_append];exact Lst.at0
  generalize S2.length+(T7++T8).length=ib at kb9
  clear hT9 kb kb7 kh7
  obtain⟨tf,xf,rfl,hf1,hf2,hf3⟩:=rf2
  rw [List.length_map,List.length_map] at hf2
  have kf:∀ T,Lst (S2++T) (.ref tf) xf:=fun T=>Lst.here (zQ hf1)
  walk_at "g"
  refine⟨_,DGt.k (zQ hn2) df,?_⟩
  have kf9:=kf T9
  walk_at "g"
  refine zc0 (fun i ys S'=>∃ T,S'=S2++(T9++T)/\ys=(V.fs.take i).map fgD) ⟨[],by rw [List.append_nil],rfl⟩ (fun i ys S' zq7=>by obtain⟨T,e,_⟩:=zq7;exact e▸kf _) (by unfold big;omega) ?_ ?_
  · rintro i d ys S' hd ⟨T,rfl,rfl⟩
    have li:=zae hd
    obtain⟨F,hFi⟩:∃ F,V.fs[i]?=some F:=⟨_,List.getElem?_eq_getElem (by omega)⟩
    obtain⟨m,a1,a2⟩:=hf3 i (wFo F).tail (by rw [List.getElem?_map,List.getElem?_map,hFi];rfl)
    rw [hd] at a1
    cases a1
    have nf:=N.f F (List.mem_of_getElem? hFi)
    walk_at "g"
    refine⟨_,[F.x0,F.x1,F.z0,F.z1,F.f,F.l,F.g,F.s],rfl,Lst.here (zQ a2),Nat.le_of_ble_eq_true rfl,fun m hm=>?_,fun T8=>?_⟩
    · have:m=F.x0\/m=F.x1\/m=F.z0\/m=F.z1\/m=F.f\/m=F.l\/m=F.g\/m=F.s:=by simpa using hm
      rcases this with rfl|rfl|rfl|rfl|rfl|rfl|rfl|rfl
      · exact nf.x0
      · exact nf.x1
      · exact nf.z0
      · exact nf.z1
      · exact nf.f
      · exact nf.l
      · exact nf.g
      · exact nf.s
    · exact⟨T++T8,by simp only [List.append_assoc],by rw [zan hFi,List.map_append];rfl⟩
  rintro ys S' ⟨T10,rfl,rfl⟩
  rw [hf2,List.take_length]
  refine zbW ?_
  generalize hT11:T9++T10++[Cell.lst (V.fs.map fgD)]=T11
  have kh11:Lst (S2++T11) (.ref iz) (V.hz.toList.map D.int):=by
    rw [<- hT11,List.append_assoc,<- List.append_assoc S2];exact kh9.old
  have kb11:Lst (S2++T11) (.ref ib) (V.bs.map bcD):=by
    rw [<- hT11,List.append_assoc,<- List.append_assoc S2];exact kb9.old
  have kf11:Lst (S2++T11) (.ref (S2.length+(T9++T10).length)) (V.fs.map fgD):=by
    rw [<- hT11,<- List.append_assoc,<- List.length_append];exact Lst.at0
  have kc11:Lst (S2++T11) (.ref ic) (V.cs.map p2):=kcs.old
  generalize S2.length+(T9++T10).length=jf at kf11
  obtain⟨S3,hS3⟩:∃ S3:Sto,S3=S2++T11:=⟨_,rfl⟩
  have x3:∃ T,S3=S++T:=by obtain⟨T0,rfl⟩:=xS;exact⟨_,by rw [hS3,List.append_assoc]⟩
  rw [<- hS3] at kh11 kb11 kf11 kc11 ⊢
  clear hS3 hT11 kh9 kb9 kf9 kf kcs
  walk_at "g"
  refine r_J (fun ρ S'=>S'=S3/\ρ=[some (.str (zbK V)),some (.ref n),some (.ref ic),some (.tup [.int V.h0,.int V.h1]),some (.int V.dl),some (.ref iz),some (.ref ib),some (.ref jf),some (zce V.hz)]) ?_ ?_
  · cases hv:V.hz with
    |none =>
      rw [hv] at kh11
      have k0:Lst S3 (.ref iz) []:=kh11
      clear kh11
      walk_at "g"
      exact⟨rfl,rfl⟩
    |some hzv =>
      rw [hv] at kh11
      have k0:Lst S3 (.ref iz) [.int hzv]:=kh11
      clear kh11
      walk_at "g"
      rw [decide_eq_true (show (0:Int)<(([D.int hzv].length:Nat):Int) from Int.zero_lt_one)]
      walk_at "g"
      exact⟨rfl,rfl⟩
  rintro ρ S' ⟨rfl,rfl⟩
  walk_at "g"
  refine⟨S',_,V.cs,rfl,rfl,kc11,ok.gr,⟨rfl,?_⟩⟩
  obtain⟨Sb,hSb⟩:∃ Sb:Sto,Sb=S'++[.ins "Ground" [("corners",.ref (S'.length+1))],.lst (V.cs.map p2)]:=⟨_,rfl⟩
  have hgt:GAt Sb (.ref S'.length) V.cs:=hSb▸⟨_,_,rfl,zaN,(zbo _ _ 1).trans rfl⟩
  have ky1:Lst Sb (.ref ib) (V.bs.map bcD):=hSb▸kb11.old
  have kz1:Lst Sb (.ref jf) (V.fs.map fgD):=hSb▸kf11.old
  have xb:∃ T,Sb=S++T:=zeI x3 hSb
  rw [<- hSb]
  clear hSb
  walk_at "g"
  refine⟨Sb,_,_,_,V,rfl,rfl,hgt,ky1,kz1,ok,fun T12 hv=>⟨rfl,?_⟩⟩
  obtain⟨T13,rfl⟩:=xb
  rw [List.append_assoc] at hv ⊢
  exact fin_same (q _ _ hv)
def zb1:DSp:=fun ds S Q=>∃ (n g b f l:Nat) (V:Vl),ds=[.ref n]/\S[n]?=some (.ins "Valley" (vF (.ref g) (.ref b) (.ref f) (zce V.hz) (.int V.h0) (.int V.h1) (.int V.dl)))/\S[g]?=some (.ins "Ground" [("corners",.ref l)])/\Q (vlD (.ref l) (.ref b) (.ref f) V) S
def zc2:DS :=
  (zai (dTup (zj (zaL "corners" (zaL "ground" (zc 0))) (zj (zaL "beacons" (zc 0)) (zj (zaL "fogs" (zc 0)) (zj (zaL "haze" (zc 0)) (zj (zaL "first" (zc 0)) (zj (zaL "last" (zc 0)) (zj (zaL "delay" (zc 0)) zu)))))))))
theorem zhV:∀ ds So Q,zb1 ds So Q->ds.length=1:=by rintro ds So Q ⟨_,_,_,_,_,_,rfl,_⟩;rfl
theorem zi3:BodyOk 1 zc2 zb1:=by
 rintro ds S Q ⟨n,g,b,f,l,V,rfl,h1,h2,q⟩
 unfold zc2
 walk_at "g"
 exact fin_same q
theorem zqs {ws:List (Sum Int Str)}{i:Nat}{d:D}(h:(ws.map kD)[i]?=some d):∃ w,ws[i]?=some w/\d=kD w:=by
 rw [List.getElem?_map] at h
 cases e:ws[i]? with
 |none=>rw [e] at h;cases h
 |some p=>rw [e] at h;cases h;exact⟨p,rfl,rfl⟩
def onW:D->D
 |.int i=>.str (z6 i)
 |d=>d
theorem zp9 (w:Sum Int Str):onW (kD w)=.str (wdS w):=by cases w<;>rfl
def zbg:DSp:=fun ds S Q=>∃ (x:D) (ws:List (Sum Int Str)),ds=[x]/\Lst S x (ws.map kD)/\ws.length<=41/\(∀ w∈ws,zko w)/\∀ T,Q (.str (zY ws)) (S++T)
def ze3:DS :=
  (zai (zgp (dC (.str " ")) (dLC 1 [] (zaP (zc 0)) (zB 0) zaE (dB zc5 (zj (zc 0) zu)))))
theorem zlE:∀ ds So Q,zbg ds So Q->ds.length=1:=by rintro ds So Q ⟨_,_,rfl,_⟩;rfl
theorem zme:BodyOk 1 ze3 zbg:=by
 rintro ds S Q ⟨x,ws,rfl,hx,hl,hw,q⟩
 unfold ze3
 walk_at "g"
 refine⟨⟨_,rfl⟩,?_⟩
 walk_at "g"
 refine zbn (fun _=>true) onW hx (by rw [List.length_map];unfold big;omega) (fun i d ys hd hw'=>?_) ?_
 ·obtain⟨w,hwi,rfl⟩:=zqs hd
  have ok:=hw w (List.mem_of_getElem? hwi)
  cases w with
  |inl i =>
   walk_at "g"
   have ok':Bd 600 i:=ok
   refine zdu (ok'.mono (by decide)) ?_
   exact zb6 hd hw' rfl rfl
  |inr z =>
   walk_at "g"
   refine zqi ?_
   exact zb6 hd hw' rfl rfl
 rw [filter_true,List.map_map,show onW ∘ kD=fun w=>D.str (wdS w) from funext zp9,show ws.map (fun w=>D.str (wdS w))=(ws.map wdS).map D.str by rw [List.map_map];rfl]
 walk_at "g"
 exact⟨_,_,ws.map wdS,rfl,rfl,zaN,(zfe hl hw).2,fin_same (q _)⟩
def zaU:DSp:=fun ds S Q=>∃ (v:D) (V:Vl),ds=[v]/\VAt S v V/\VlT V/\∀ T,Q (.str (zbK V)) (S++T)
def zcB:DS :=
    (zG (zO (za8 (zj (dCall zbg (zj (dOp zat (za8 (zj (dC (.str "ground")) zu)) (dLC 2 [] (zaP (zaL "corners" (zaL "ground" (zc 0)))) (zeX 2 (zbt (zB 0) (zbt (zB 1) zes))) zaE (dF3 ":" (zc 0) (zc 1)))) zu)) (zj (dCall zbg (zj (za8 (zj (dC (.str "hours")) (zj (zaL "first" (zc 0)) (zj (zaL "last" (zc 0)) zu)))) zu)) (zj (dCall zbg (zj (za8 (zj (dC (.str "delay")) (zj (zaL "delay" (zc 0)) zu))) zu)) zu)))) (zB 1))
 (zG (sJ (sIf (dT (dOp zfG (zaL "haze" (zc 0)) (dC .non))) (zaY (dM zbk (zc 1) (zj (dCall zbg (zj (za8 (zj (dC (.str "haze")) (zj (zaL "haze" (zc 0)) zu))) zu)) zu))) zad))
 (zG (zc4 (zaP (zaL "beacons" (zc 0))) (zB 2) (zaY (dM zbk (zc 1) (zj (dCall zbg (zj (dOp zat (za8 (zj (dC (.str "beacon")) zu)) (dB zed (zj (zc 2) zu))) zu)) zu))))
 (zG (zc4 (zaP (zaL "fogs" (zc 0))) (zB 3) (zaY (dM zbk (zc 1) (zj (dCall zbg (zj (dOp zat (za8 (zj (dC (.str "fog")) zu)) (dB zed (zj (zc 3) zu))) zu)) zu))))
 (zai (zgp (dC (.str "\n")) (zc 1)))))))
theorem zhr:∀ ds So Q,zaU ds So Q->ds.length=1:=by rintro ds So Q ⟨_,_,rfl,_⟩;rfl
theorem zh7:BodyOk 4 zcB zaU:=by
 rintro ds S Q ⟨v,V,rfl,hv,t,q⟩
 unfold zcB
 have ok:=t.ok
 have gr:=ok.gr
 have g40:=gr.most
 have b12:=ok.b12
 have f12:=ok.f12
 obtain⟨l28,hlw⟩:=zdW t
 have hG:=hlw (wGr V) (by unfold zZ;simp)
 have hH:=hlw (wHo V) (by unfold zZ;simp)
 have hDl:=hlw (wDe V) (by unfold zZ;simp)
 have hB:∀ b∈V.bs,_:=fun b hb=>hlw (wBe b) (by unfold zZ;exact List.mem_append_left _ (List.mem_append_right _ (List.mem_map.mpr ⟨b,hb,rfl⟩)))
 have hF:∀ F∈V.fs,_:=fun F hF=>hlw (wFo F) (by unfold zZ;exact List.mem_append_right _ (List.mem_map.mpr ⟨F,hF,rfl⟩))
 obtain⟨n,g,b,f,rfl,hn,⟨gn,gl,eg,hg1,hg2⟩,hb,hf⟩:=id hv
 cases eg
 have hn1:∀ T,(S++T)[n]?=some (.ins "Valley" (vF (.ref g) (.ref b) (.ref f) (zce V.hz) (.int V.h0) (.int V.h1) (.int V.dl))):=fun T=>zQ hn
 have hg1':∀ T,(S++T)[g]?=some (.ins "Ground" [("corners",.ref gl)]):=fun T=>zQ hg1
 have hg2':∀ T,Lst (S++T) (.ref gl) (V.cs.map p2):=fun T=>Lst.here (zQ hg2)
 have a1:=hn1 [.lst [.str "ground"]]
 have a2:=hg1' [.lst [.str "ground"]]
 have a3:=hg2' [.lst [.str "ground"]]
 walk_at "g"
 refine zc0 (fun i ys S'=>S'=S++[.lst [.str "ground"]]/\ys=((V.cs.take i).map fun c=>D.str (zbu c))) ⟨rfl,rfl⟩ (fun i ys S' e=>e.1▸a3) (by rw [List.length_map];unfold big;omega) ?_ ?_
 ·rintro i d ys S' hd ⟨rfl,rfl⟩
  obtain⟨c,hc,rfl⟩:=zmf hd
  obtain⟨c1,c2⟩:=gr.bd c (List.mem_of_getElem? hc)
  have l1:=(zbM (n:=c.1) (c1.mono (by decide))).1
  have l2:=(zbM (n:=c.2) (c2.mono (by decide))).1
  unfold z6 at l1 l2
  walk_at "g"
  refine⟨⟨_,rfl,c1.mono (by decide),by omega,by decide +kernel⟩,?_⟩
  walk_at "g"
  refine⟨_,_,rfl,rfl,c2.mono (by decide),by omega,?_⟩
  refine⟨rfl,?_⟩
  rw [zan hc,List.map_append];rfl
 rintro ys S' ⟨rfl,rfl⟩
 rw [List.length_map,List.take_length]
 walk_at "g"
 refine zf7 (xs:=[.str "ground"]) (ys:=V.cs.map fun c=>D.str (zbu c)) (Lst.at (k:=0) rfl) (Lst.at (k:=1) rfl) (by rw [List.length_map];show 1+_<=big;unfold big;omega) ?_
 rw [show [D.str "ground"]++V.cs.map (fun c=>D.str (zbu c))=(wGr V).map kD by unfold wGr;rw [List.map_cons,List.map_map];rfl]
 walk_at "g"
 refine⟨_,wGr V,rfl,Lst.at (k:=2) rfl,hG.1,hG.2,fun T1=>?_⟩
 generalize ([Cell.lst [D.str "ground"],.lst (V.cs.map fun c=>D.str (zbu c)),.lst ((wGr V).map kD)]:Sto)=U1
 rw [List.append_assoc]
 generalize U1++T1=U2
 have a4:=hn1 U2
 walk_at "g"
 refine⟨_,wHo V,rfl,Lst.new,hH.1,hH.2,fun T2=>?_⟩
 rw [List.append_assoc]
 generalize U2++[Cell.lst [D.str "hours",D.int V.h0,D.int V.h1]]++T2=U3
 have a5:=hn1 U3
 walk_at "g"
 refine⟨_,wDe V,rfl,Lst.new,hDl.1,hDl.2,fun T3=>?_⟩
 rw [List.append_assoc]
 generalize U3++[Cell.lst [D.str "delay",D.int V.dl]]++T3=U4
 walk_at "g"
 walk_at "drho"
 obtain⟨S4,hS4⟩:∃ S4:Sto,S4=S++U4:=⟨_,rfl⟩
 have e4:S++(U4++[Cell.lst [D.str (zY (wGr V)),D.str (zY (wHo V)),D.str (zY (wDe V))]])=S4++[Cell.lst ([wGr V,wHo V,wDe V].map fun ws=>D.str (zY ws))]:=by rw [hS4];simp
 have e5:S.length+U4.length=S4.length:=by rw [hS4];simp
 have hv4:∀ X,VAt (S4++X) (.ref n) V:=fun X=>hS4▸(hv.old (T:=U4)).old
 have n4:∀ X,(S4++X)[n]?=some (.ins "Valley" (vF (.ref g) (.ref b) (.ref f) (zce V.hz) (.int V.h0) (.int V.h1) (.int V.dl))):=fun X=>by rw [hS4,List.append_assoc];exact hn1 _
 have hb4:∀ X,Lst (S4++X) (.ref b) (V.bs.map bcD):=fun X=>by rw [hS4,List.append_assoc];exact Lst.here (zQ hb)
 have hf4:∀ X,Lst (S4++X) (.ref f) (V.fs.map fgD):=fun X=>by rw [hS4,List.append_assoc];exact Lst.here (zQ hf)
 have x4:∃ T,S4=S++T:=⟨U4,hS4⟩
 rw [e4,e5]
 clear e4 e5 hS4 a1 a2 a3 a4 a5
 refine r_J (fun ρ S'=>∃ (G:Sto),S'=S4++Cell.lst (([wGr V,wHo V,wDe V]++wHa V).map fun ws=>D.str (zY ws))::G/\ρ=[some (.ref n),some (.ref S4.length),none,none]) ?_ ?_
 ·have n5:=n4 [Cell.lst ([wGr V,wHo V,wDe V].map fun ws=>D.str (zY ws))]
  walk_at "g"
  cases hz:V.hz with
  |none =>
   rw [ziv,show zcZ .non=true from rfl]
   walk_at "g"
   exact⟨[],by unfold wHa;rw [hz];simp,rfl⟩
  |some z =>
   have hHa:=hlw [.inr "haze",.inl z] (by unfold zZ wHa;rw [hz];simp)
   rw [hz,zfM] at n5
   rw [zfM,show zcZ (.int z)=false from rfl]
   walk_at "g"
   refine⟨_,[.inr "haze",.inl z],rfl,Lst.at (k:=1) rfl,hHa.1,hHa.2,fun T5=>?_⟩
   rw [List.append_assoc]
   have hlim:([wGr V,wHo V,wDe V].map fun ws=>D.str (zY ws)).length<big:=by show 3<big;decide
   walk_at "g"
   exact⟨_,by unfold wHa;rw [hz];rfl,rfl⟩
 rintro ρ S' ⟨G,rfl,rfl⟩
 obtain⟨L0,hL0⟩:∃ L0,L0=[wGr V,wHo V,wDe V]++wHa V:=⟨_,rfl⟩
 have hll:zZ V=L0++V.bs.map wBe++V.fs.map wFo:=by unfold zZ;rw [hL0]
 have lL:L0.length<=28:=by have:=congrArg List.length hll;rw [List.length_append,List.length_append] at this;omega
 rw [<- hL0]
 have n6:=n4 (Cell.lst (L0.map fun ws=>D.str (zY ws))::G)
 have hb6:=hb4 (Cell.lst (L0.map fun ws=>D.str (zY ws))::G)
 walk_at "g"
 refine zcd (fun i ρ S'=>∃ (G:Sto) (w2:Option D),S'=S4++Cell.lst ((L0++(V.bs.take i).map wBe).map fun ws=>D.str (zY ws))::G/\ρ=[some (.ref n),some (.ref S4.length),w2,none]) ⟨G,_,by simp,rfl⟩ (fun i ρ S' zq8=>by obtain⟨G,_,e,_⟩:=zq8;exact e▸hb4 _) ?_ ?_
 ·rintro i d ρ S' hd ⟨G,w2,rfl,rfl⟩
  obtain⟨c,hc,rfl⟩:=zhd hd
  have mc:=List.mem_of_getElem? hc
  have li:=zae hc
  walk_at "g"
  refine zf7 (xs:=[.str "beacon"]) (ys:=[.str c.1,.int c.2.1,.int c.2.2]) (by rw [<- List.append_assoc];exact Lst.old Lst.new) Lst.new (by show 1+3<=big;decide) ?_
  refine zbW ?_
  walk_at "g"
  refine⟨_,wBe c,rfl,Lst.new,(hB c mc).1,(hB c mc).2,fun T5=>?_⟩
  rw [List.append_assoc]
  have hlim:((L0++(V.bs.take i).map wBe).map fun ws=>D.str (zY ws)).length<big:=by rw [List.length_map,List.length_append,List.length_map,List.length_take];unfold big;omega
  rw [List.cons_append,List.cons_append,List.cons_append,List.cons_append]
  walk_at "g"
  have ee:(L0++(V.bs.take (i+1)).map wBe).map (fun ws=>D.str (zY ws))=(L0++(V.bs.take i).map wBe).map (fun ws=>D.str (zY ws))++[D.str (zY (wBe c))]:=by rw [zan hc];simp
  exact⟨_,_,by rw [ee],rfl⟩
 rintro ρ S' ⟨G2,w2,rfl,rfl⟩
 rw [List.length_map,List.take_length]
 obtain⟨L1,hL1⟩:∃ L1,L1=L0++V.bs.map wBe:=⟨_,rfl⟩
 have lL1:L1.length<=28:=by have:=congrArg List.length hll;rw [<- hL1,List.length_append] at this;omega
 rw [<- hL1] at hll ⊢
 have n7:=n4 (Cell.lst (L1.map fun ws=>D.str (zY ws))::G2)
 have hf7:=hf4 (Cell.lst (L1.map fun ws=>D.str (zY ws))::G2)
 walk_at "g"
 refine zcd (fun i ρ S'=>∃ (G:Sto) (w3:Option D),S'=S4++Cell.lst ((L1++(V.fs.take i).map wFo).map fun ws=>D.str (zY ws))::G/\ρ=[some (.ref n),some (.ref S4.length),w2,w3]) ⟨G2,_,by simp,rfl⟩ (fun i ρ S' zq9=>by obtain⟨G,_,e,_⟩:=zq9;exact e▸hf4 _) ?_ ?_
 ·rintro i d ρ S' hd ⟨G,w3,rfl,rfl⟩
  obtain⟨F,hc,rfl⟩:=zj7 hd
  have mc:=List.mem_of_getElem? hc
  have li:=zae hc
  walk_at "g"
  refine zf7 (xs:=[.str "fog"]) (ys:=[.int F.x0,.int F.x1,.int F.z0,.int F.z1,.int F.f,.int F.l,.int F.g,.int F.s]) (by rw [<- List.append_assoc];exact Lst.old Lst.new) Lst.new (by show 1+8<=big;decide) ?_
  refine zbW ?_
  walk_at "g"
  refine⟨_,wFo F,rfl,Lst.new,(hF F mc).1,(hF F mc).2,fun T5=>?_⟩
  rw [List.append_assoc]
  have hlim:((L1++(V.fs.take i).map wFo).map fun ws=>D.str (zY ws)).length<big:=by rw [List.length_map,List.length_append,List.length_map,List.length_take];unfold big;omega
  rw [List.cons_append,List.cons_append,List.cons_append,List.cons_append]
  walk_at "g"
  have ee:(L1++(V.fs.take (i+1)).map wFo).map (fun ws=>D.str (zY ws))=(L1++(V.fs.take i).map wFo).map (fun ws=>D.str (zY ws))++[D.str (zY (wFo F))]:=by rw [zan hc];simp
  exact⟨_,_,by rw [ee],rfl⟩
 rintro ρ S' ⟨G3,w3,rfl,rfl⟩
 rw [List.length_map,List.take_length,<- hll]
 walk_at "g"
 refine⟨⟨_,rfl⟩,?_⟩
 walk_at "g"
 obtain⟨T4,rfl⟩:=x4
 refine⟨_,_,(zZ V).map zY,rfl,rfl,?_,(zfh t).2,?_⟩
 ·rw [List.map_map];exact zaN
 ·rw [List.append_assoc];exact fin_same (q _)
def zjf:DS :=
    (zG (zO (dCall zcf (zj (zc 0) zu)) (zB 1))
 (zG (zO (dCall zcw (zj (zc 1) zu)) (zB 2))
 (zG (zO (dCall zbl (zj (zc 2) zu)) (zB 3))
 (zG (sIf (dT (dOp oNe (dCall zb1 (zj (zc 3) zu)) (zc 1))) (zai (dC (.bl false))) zad)
 (zG (zc4 (zaP (za8 (zj (zaL "corners" (zaL "ground" (zc 3))) (zj (zaL "beacons" (zc 3)) (zj (zaL "fogs" (zc 3)) zu))))) (zB 4) (sIf (dOr (zcU (dT (dB zdH (zj (zc 4) (zj (dC (.ty "list")) zu))))) (zcU (dT (dB zd7 (zj (dLC 1 [] (zaP (zc 4)) (zB 0) zaE (dB zdH (zj (zc 0) (zj (dC (.ty "tuple")) zu)))) zu))))) (zai (dC (.bl false))) zad))
 (zG (zc4 (zaP (za8 (zj (zaL "first" (zc 3)) (zj (zaL "last" (zc 3)) (zj (zaL "delay" (zc 3)) zu))))) (zB 5) (sIf (dOr (zcU (dT (dB zdH (zj (zc 5) (zj (dC (.ty "int")) zu))))) (dT (dB zdH (zj (zc 5) (zj (dC (.ty "bool")) zu))))) (zai (dC (.bl false))) zad))
 (zG (sIf (dT (dOp oNe (dCall zaU (zj (zc 3) zu)) (zc 2))) (zai (dC (.bl false))) zad)
 (zai (dOp oEq (dCall zaU (zj (dCall zbl (zj (dCall zaU (zj (zc 3) zu)) zu)) zu)) (zc 2))))))))))
theorem zqN:BodyOk 6 zjf zdY:=by
  rintro ds S Q ⟨ns,rfl,⟨_,hg⟩,hl,q⟩
  unfold zjf
  walk_at "g"
  refine⟨ns,rfl,hl,fun T x y z V N b6 f4 hs=>?_⟩
  generalize S++T=S1 at hs
  have t:=N.t
  have ok:=t.ok
  have pv:=((zfh t).1).fl 20
  have b12:=ok.b12
  have f12:=ok.f12
  have g40:=ok.gr.most
  walk_at "g"
  refine⟨x,y,z,V,rfl,hs,t,fun T2=>?_⟩
  walk_at "g"
  refine⟨V,rfl,N,fun T3 v hv=>?_⟩
  have hs3:VlS (S1++T2++T3) x y z V:=hs.old.old
  generalize S1++T2++T3=S3 at hv hs3
  have hvv:=fun T=>hv.old (T:=T)
  obtain⟨n,g,b,f,rfl,h1,⟨g',l,eg,h2,h3⟩,h4,h5⟩:=hv
  cases eg
  have hf:VlS S3 (.ref l) (.ref b) (.ref f) V:=⟨Lst.here h3,Lst.here h4,Lst.here h5⟩
  walk_at "g"
  refine⟨n,g,b,f,l,V,rfl,h1,h2,?_⟩
  walk_at "g"
  refine zsl (zm1 ok hf) (zm1 ok hs3) ?_
  walk_at "g"
  walk_at "drho"
  have three:∀ (i:Nat) d,[D.ref l,.ref b,.ref f][i]?=some d->∃ m,∃ ts:List (List D),d=.ref m/\S3[m]?=some (.lst (ts.map D.tup))/\ts.length<=40:=fun i d hd=>by
    have m:=List.mem_of_getElem? hd
    have:d=.ref l\/d=.ref b\/d=.ref f:=by simpa using m
    rcases this with rfl|rfl|rfl
    · exact⟨l,V.cs.map fun c=>[.int c.1,.int c.2],rfl,by rw [h3,List.map_map];rfl,by rw [List.length_map];omega⟩
    · exact⟨b,V.bs.map fun c=>[.str c.1,.int c.2.1,.int c.2.2],rfl,by rw [h4,List.map_map];rfl,by rw [List.length_map];omega⟩
    · exact⟨f,V.fs.map fun F=>[.int F.x0,.int F.x1,.int F.z0,.int F.z1,.int F.f,.int F.l,.int F.g,.int F.s],rfl,by rw [h5,List.map_map];rfl,by rw [List.length_map];omega⟩
  refine zcd (fun i ρ S'=>∃ (T:Sto) (w4:Option D),S'=S3++Cell.lst [.ref l,.ref b,.ref f]::T/\ρ=[some (.rl (ns.map D.int)),some (vlD x y z V),some (.str (zbK V)),some (.ref n),w4,none]) ⟨[],none,rfl,rfl⟩ (fun i ρ S' zq10=>by obtain⟨T,w4,e,_⟩:=zq10;exact e▸Lst.at0) ?_ ?_
  · rintro i d ρ S' hd ⟨T4,w4,rfl,rfl⟩
    obtain⟨m,ts,rfl,hm,lt⟩:=three i d hd
    have hm2:(S3++Cell.lst [.ref l,.ref b,.ref f]::T4)[m]?=some (.lst (ts.map D.tup)):=zQ hm
    walk_at "g"
    refine zbn (fun _=>true) (fun _=>.bl true) (Lst.here hm2) (by rw [List.length_map];unfold big;omega) (fun i d ys hd hw=>?_) ?_
    · obtain ⟨r, hr, rfl⟩ : ∃ r, ts[i]? = some r ∧ d = .tup r := by
        rw [List.getElem?_map] at hd
        cases e:ts[i]? with
        |none=>rw [e] at hd;cases hd
        |some r=>rw [e] at hd;cases hd;exact⟨r,rfl,rfl⟩
      walk_at "g"
      exact zb6 hd hw rfl rfl
    rw [filter_true]
    walk_at "g"
    refine zjd (bs:=ts.map fun _=>true) (by rw [List.map_map,List.map_map];exact Lst.new) ?_
    rw [show (ts.map fun _=>true).all id=true by simp]
    walk_at "g"
    exact⟨_,_,rfl,rfl⟩
  rintro ρ S' ⟨T4,w4,rfl,rfl⟩
  obtain⟨S4,hS4⟩:∃ S4:Sto,S4=S3++Cell.lst [.ref l,.ref b,.ref f]::T4:=⟨_,rfl⟩
  have h1':S4[n]?=some (.ins "Valley" (vF (.ref g) (.ref b) (.ref f) (zce V.hz) (.int V.h0) (.int V.h1) (.int V.dl))):=hS4▸zQ h1
  have hv4:∀ T,VAt (S4++T) (.ref n) V:=fun T=>(hS4▸hvv _:VAt S4 (.ref n) V).old
  rw [<- hS4]
  clear hS4 h1 h2 h3 h4 h5 hf hvv
  walk_at "g"
  refine zcd (fun i ρ S'=>∃ (T:Sto) (w5:Option D),S'=S4++Cell.lst [.int V.h0,.int V.h1,.int V.dl]::T/\ρ=[some (.rl (ns.map D.int)),some (vlD x y z V),some (.str (zbK V)),some (.ref n),w4,w5]) ⟨[],none,rfl,rfl⟩ (fun i ρ S' zq11=>by obtain⟨T,w4,e,_⟩:=zq11;exact e▸Lst.at0) ?_ ?_
  · rintro i d ρ S' hd ⟨T5,w5,rfl,rfl⟩
    obtain⟨k,rfl⟩:∃ k,d=.int k:=by
      have m:=List.mem_of_getElem? hd
      have:d=.int V.h0\/d=.int V.h1\/d=.int V.dl:=by simpa using m
      rcases this with rfl|rfl|rfl<;>exact⟨_,rfl⟩
    walk_at "g"
    exact⟨_,_,rfl,rfl⟩
  rintro ρ S' ⟨T5,w5,rfl,rfl⟩
  walk_at "g"
  refine⟨_,V,rfl,hv4 _,t,fun T6=>?_⟩
  rw [List.append_assoc]
  walk_at "g"
  refine zmm pv pv ?_
  rw [decide_eq_true (rfl:zbK V=zbK V)]
  walk_at "g"
  refine⟨_,V,rfl,hv4 _,t,fun T7=>?_⟩
  walk_at "g"
  refine⟨V,rfl,N,fun T8 v hv=>?_⟩
  walk_at "g"
  refine⟨_,V,rfl,hv,t,fun T9=>?_⟩
  walk_at "g"
  refine zjG pv pv ?_
  rw [decide_eq_true (rfl:zbK V=zbK V)]
  exact fin_same (q _)
end Dp
namespace Law
open PySem PySem.Spec PyProof.Rows L2 My Dp
def top (i:Nat):Stmt:=PySem.Challenge.pw_beaconvale_k86_whole_valleys_read.main.body.getD i (.Pass ⟨0,0,0,0⟩)
abbrev ze4:Stmt:=top 60
abbrev zea:Stmt:=top 62
abbrev zet:Stmt:=top 61
abbrev zcR:Stmt:=top 64
abbrev zez:Stmt:=top 65
abbrev zfa:Stmt:=top 63
abbrev zeb:Stmt:=top 66
abbrev zfN:Stmt:=top 67
abbrev zex:Stmt:=top 68
abbrev zey:Stmt:=top 69
abbrev ze0:Stmt:=top 70
abbrev zdK:Stmt:=top 54
abbrev zcm:Stmt:=top 55
abbrev zc8:Stmt:=top 56
abbrev zel:Stmt:=top 51
abbrev zd1:Stmt:=top 57
abbrev zbZ:Stmt:=top 19
abbrev zbA:Stmt:=inClass (top 20) 0
abbrev zbV:Stmt:=top 41
abbrev zfU:Stmt:=top 40
abbrev zcb:Stmt:=top 42
abbrev zjU:Stmt:=top 14
abbrev zhF:Stmt:=top 21
abbrev zcF:Stmt:=top 12
abbrev zfk:Stmt:=top 13
abbrev zep:Stmt:=top 15
abbrev zeo:Stmt:=top 22
abbrev zgC:Stmt:=top 23
abbrev zcs:Stmt:=top 43
abbrev zfd:Stmt:=top 25
abbrev zgV:Stmt:=top 34
abbrev zcr:Stmt:=top 44
abbrev zb9:Stmt:=top 45
abbrev zbz:Stmt:=inClass (top 46) 0
abbrev zdG:Stmt:=top 58
abbrev zd4:Stmt:=top 71
abbrev zgU:Stmt:=top 52
abbrev zdM:Stmt:=top 53
abbrev zdT:Stmt:=top 72
section
variable {P:Program}{w:World}{K:W.Frag}{mg:Str->Option Value}{base:Heap}{f:Addr}{fd:FuncData}
variable (xq:mg "len"=none)
theorem zkK:zL ["script","k"] ["script","k"] (zE ze4):=zV
include xq in
theorem zkW (F:Fun K "_law_cell" "_law_cell" ze4 f fd):zW P w K mg base CX0 1 f fd ["script","k"] (upF K Dp.zbL):=by
  refine zR (b:=Dp.zdV) F zkK Dp.zjn Dp.zkV (fun cdv A outer s H E hr=>?_)
  unfold Dp.zdV
  exact (zq (z8 (zP zb5 (zf 1) (zao zaC xq boot_len (za (zf 0) zp))) (zy (zM (zF (zf 0) (zf 1)))) zN)
 (zy (zM zm)))
variable (xbm:Got P w K mg base 1 "_law_cell" ["script","k"] (upF K Dp.zbL))
variable (xab:mg "range"=none)
theorem zdJ:zL ["script","start","size","told","k"] ["script","start","size"] (zE zea):=zV
include xq xab in
theorem ziY (F:Fun K "_law_folded" "_law_folded" zea f fd):zW P w K mg base CX0 1 f fd ["script","start","size"] (upF K Dp.zb3):=by
  refine zR (b:=Dp.zcY) F zdJ Dp.zio Dp.ziV (fun cdv A outer s H E hr=>?_)
  unfold Dp.zcY
  exact (zq (zcg (i:=3) zdJ.nd (own:=["k"]) (free:=[]) (fv:=[]) True.intro True.intro (zeG xab (za (zf 2) zp)) ⟨(zT 0 (by decide)),fun _ _ _ _ _=>(z9 (i:=0) (show List.Nodup (["k"]:List Str) by decide +kernel) rfl (Or.inl rfl) (Or.inr rfl))⟩ (fun _ _ _ _ _=>zag) (fun _ _ _ _ _=>(zaa (zaj (zf 0) (zf 0)) zm)))
 (zq (zbS (zhP xab (za (zf 1) (za (zao zaC xq boot_len (za (zf 0) zp)) zp))) (zaD (i:=4) zdJ.nd) (zy (zpj (zaa (zaj (zF (zf 3) (zab (zf 4) (zf 2))) zm) (zF (zf 0) (zf 4))) (zoW (zf 3) (zab (zf 4) (zf 2))))))
 (zy (zM (zf 3)))))
variable (xb0:Got P w K mg base 1 "_law_folded" ["script","start","size"] (upF K Dp.zb3))
theorem zf4:zL ["cell","k","stir"] ["cell","k"] (zE zet):=zV
theorem zkp (F:Fun K "_law_mixed" "_law_mixed" zet f fd):zW P w K mg base CX0 1 f fd ["cell","k"] (upF K Dp.zbs):=by
  refine zR (b:=Dp.zdn) F zf4 Dp.zi2 Dp.zju (fun cdv A outer s H E hr=>?_)
  unfold Dp.zdn
  exact (zq (zJ (i:=2) zf4.nd (zab (zaj (zaa (zaa (zab (zf 0) zm) (zaj zm (zf 1))) zm) zm) zm))
 (zy (zM (zab (zaj (zf 2) (zf 2)) zm))))
variable (xae:Got P w K mg base 1 "_law_mixed" ["cell","k"] (upF K Dp.zbs))
theorem zaW:zL ["cells","count","scale","corners","x","k","m"] ["cells","count","scale"] (zE zcR):=zV
include xab xae in
theorem zgK (F:Fun K "_law_ground_by" "_law_ground_by" zcR f fd):zW P w K mg base CX0 2 f fd ["cells","count","scale"] (upF K Dp.zbr):=by
  refine zR (b:=Dp.zb4) F zaW Dp.zgt Dp.zgF (fun cdv A outer s H E hr=>?_)
  unfold Dp.zb4
  exact (zq (zJ (i:=3) zaW.nd (zay zp))
 (zq (zJ (i:=4) zaW.nd (zeN zm))
 (zq (zbS (zeG xab (za (zf 1) zp)) (zaD (i:=5) zaW.nd) (zq (zJ (i:=6) zaW.nd (zK xae hr (za (zF (zf 0) (zf 5)) (za (zf 5) zp))))
 (zq (zaw (zew PySem.F.slot_list_append PySem.F.type_list_append zbe (zf 3) (za (zbD (za (zaj (zf 4) (zf 2)) (za (zaj (zab (zax (zf 6) zm) zm) (zf 2)) zp))) zp)))
 (zy (zJ (i:=4) zaW.nd (zaa (zaa (zf 4) zm) (zab (zax (zf 6) zm) zm)))))))
 (zy (zM (zf 3))))))
variable (xbc:Got P w K mg base 2 "_law_ground_by" ["cells","count","scale"] (upF K Dp.zbr))
theorem zfY:zL ["base","stem"] ["base"] (zE zez):=zV
include xab in
theorem zjr (F:Fun K "_law_names" "_law_names" zez f fd):zW P w K mg base CX0 1 f fd ["base"] (upF K Dp.zcc):=by
  refine zR (b:=Dp.zdp) F zfY Dp.zja Dp.zjO (fun cdv A outer s H E hr=>?_)
  unfold Dp.zdp
  exact (zq (zJ (i:=1) zfY.nd (zF (zay (za zU (za zU (za zU (za zU zp))))) (zab (zf 0) zm)))
 (zy (zM (zbQ (own:=["k"]) (free:=["stem","base"]) (fv:=[1,0]) ⟨rfl,rfl,True.intro⟩ ⟨rfl,rfl,rfl,rfl,rfl,rfl,True.intro⟩ (zeG xab (za zm zp)) ⟨(zT 0 (by decide)),fun _ _ _ _ _=>(z9 (i:=0) (show List.Nodup (["k","stem","base"]:List Str) by decide +kernel) rfl (Or.inl rfl) (Or.inr rfl))⟩ (fun _ _ _ _ _=>zag) (fun _ _ _ _ _=>(zaa (zf 1) (zF zU (zab (zaa (zax (zf 2) zm) (zaj zm (zf 0))) zm))))))))
variable (xda:Got P w K mg base 1 "_law_names" ["base"] (upF K Dp.zcc))
theorem zcv:zL ["corners","x","k","left","right","rise"] ["corners","x"] (zE zfa):=zV
include xq xab in
theorem zkQ (F:Fun K "_law_high" "_law_high" zfa f fd):zW P w K mg base CX0 1 f fd ["corners","x"] (upF K Dp.zcz):=by
  refine zR (b:=Dp.zdS) F zcv Dp.zks Dp.zkD (fun cdv A outer s H E hr=>?_)
  unfold Dp.zdS
  exact (zq (zbS (zhP xab (za zm (za (zao zaC xq boot_len (za (zf 0) zp)) zp))) (zaD (i:=2) zcv.nd) (zq (zJ (i:=3) zcv.nd (zF (zf 0) (za4 (zf 2) zm)))
 (zq (zJ (i:=4) zcv.nd (zF (zf 0) (zf 2)))
 (zy (z8 (zbE (zc6 (zP zgj (zF (zf 3) zm) (zf 1)) (zda (zP zgj (zf 1) (zF (zf 4) zm))))) (zq (zJ (i:=5) zcv.nd (zaj (za4 (zF (zf 4) zm) (zF (zf 3) zm)) (za4 (zf 1) (zF (zf 3) zm))))
 (zy (zM (za4 (zF (zf 3) zm) (zax (zeN (zf 5)) (za4 (zF (zf 4) zm) (zF (zf 3) zm))))))) zN)))))
 (zy (zM zc1)))
variable (xdp:Got P w K mg base 1 "_law_high" ["corners","x"] (upF K Dp.zcz))
theorem zcA:zL ["cell","k","corners","scale","name","m","wide","x"] ["cell","k","corners","scale","name"] (zE zeb):=zV
include xae xdp in
theorem ziS (F:Fun K "_law_beacon" "_law_beacon" zeb f fd):zW P w K mg base CX0 2 f fd ["cell","k","corners","scale","name"] (upF K Dp.zb0):=by
  refine zR (b:=Dp.zcX) F zcA Dp.zh1 Dp.ziX (fun cdv A outer s H E hr=>?_)
  unfold Dp.zcX
  exact (zq (zJ (i:=5) zcA.nd (zK xae hr (za (zf 0) (za (zaa (zf 1) zm) zp))))
 (zq (zJ (i:=6) zcA.nd (zax (za4 (zF (zF (zf 2) (zeN zm)) zm) (zF (zF (zf 2) zm) zm)) (zf 3)))
 (zq (zJ (i:=7) zcA.nd (zaa (zF (zF (zf 2) zm) zm) (zaj (zab (zf 5) (zaa (zf 6) zm)) (zf 3))))
 (zy (zM (zbD (za (zf 4) (za (zf 7) (za (zaa (zK xdp hr (za (zf 2) (za (zf 7) zp))) (zaj (zF (zay (za zm (za zm (za zm (za zm (za zm (za zm zp))))))) (zab (zax (zf 5) zm) zm)) (zf 3))) zp)))))))))
variable (xb5:Got P w K mg base 2 "_law_beacon" ["cell","k","corners","scale","name"] (upF K Dp.zb0))
theorem zbH:zL ["cell","k","corners","scale","hours","m","left","low","first","wide","high","drift"] ["cell","k","corners","scale","hours"] (zE zfN):=zV
include xae in
theorem zlD (F:Fun K "_law_fog" "_law_fog" zfN f fd):zW P w K mg base CX0 2 f fd ["cell","k","corners","scale","hours"] (upF K Dp.zcW):=by
  refine zR (b:=Dp.zek) F zbH Dp.zkO Dp.zlY (fun cdv A outer s H E hr=>?_)
  unfold Dp.zek
  exact (zq (zJ (i:=5) zbH.nd (zK xae hr (za (zf 0) (za (zaa (zf 1) zm) zp))))
 (zq (zJ (i:=6) zbH.nd (zaa (zF (zF (zf 2) zm) zm) (zaj (za4 (zab (zf 5) zm) zm) (zf 3))))
 (zq (zJ (i:=7) zbH.nd (zaj (za4 (zab (zax (zf 5) zm) zm) zm) (zf 3)))
 (zq (zJ (i:=8) zbH.nd (zaa (za4 (zF (zf 4) zm) zm) (zab (zax (zf 5) zm) (zaa (za4 (zF (zf 4) zm) (zF (zf 4) zm)) zm))))
 (zq (zJ (i:=9) zbH.nd (zaj (zab (zax (zf 5) zm) zm) (zf 3)))
 (zq (zJ (i:=10) zbH.nd (zaj (zab (zax (zf 5) zm) zm) (zf 3)))
 (zq (zJ (i:=11) zbH.nd (zaj (za4 (zab (zax (zf 5) zm) zm) zm) (zf 3)))
 (zy (zM (zbD (za (zf 6) (za (zaa (zf 6) (zf 9)) (za (zf 7) (za (zaa (zf 7) (zf 10)) (za (zf 8) (za (zaa (zf 8) (zab (zax (zf 5) zm) zm)) (za (zf 11) (za (zaj (za4 (zab (zax (zf 5) zm) zm) zm) (zf 3)) zp))))))))))))))))))
variable (xd0:Got P w K mg base 2 "_law_fog" ["cell","k","corners","scale","hours"] (upF K Dp.zcW))
theorem zaf:zL ["script","head","second","third","cells","scale","first","hours","corners","names","beacons","fogs","haze"] ["script"] (zE zex):=zV
include xbm xab xb0 xbc xda xb5 xd0 in
theorem zkm (F:Fun K "_law_parts" "_law_parts" zex f fd):zW P w K mg base CX0 3 f fd ["script"] (upF K Dp.zcf):=by
  refine zR (b:=Dp.zdj) F zaf Dp.zi8 Dp.zkj (fun cdv A outer s H E hr=>?_)
  unfold Dp.zdj
  exact (zq (zJ (i:=1) zaf.nd (zK xbm hr (za (zf 0) (za zm zp))))
 (zq (zJ (i:=2) zaf.nd (zK xbm hr (za (zf 0) (za zm zp))))
 (zq (zJ (i:=3) zaf.nd (zK xbm hr (za (zf 0) (za zm zp))))
 (zq (zJ (i:=4) zaf.nd (zK xb0 hr (za (zf 0) (za zm (za zm zp)))))
 (zq (zJ (i:=5) zaf.nd (zF (zay (za zm (za zm (za (zk8 100000000000000000000 (by decide +kernel) ⟨by decide,by decide,by decide⟩) zp)))) (zab (zf 1) zm)))
 (zq (zJ (i:=6) zaf.nd (zF (zay (za zm (za zm (za (zeN (zk8 1000000000000000000000000000000 (by decide +kernel) ⟨by decide,by decide,by decide⟩)) zp)))) (zab (zax (zf 1) zm) zm)))
 (zq (zJ (i:=7) zaf.nd (zbD (za (zf 6) (za (zaa (zf 6) (zab (zax (zf 1) zm) zm)) zp))))
 (zq (zJ (i:=8) zaf.nd (zK xbc hr (za (zf 4) (za (zaa zm (zab (zax (zf 1) zm) zm)) (za (zf 5) zp)))))
 (zq (zJ (i:=9) zaf.nd (zK xda hr (za (zax (zf 2) zm) zp)))
 (zq (zcg (i:=10) zaf.nd (own:=["k"]) (free:=["cells","corners","scale","names"]) (fv:=[4,8,5,9]) ⟨rfl,rfl,rfl,rfl,True.intro⟩ ⟨rfl,rfl,rfl,rfl,rfl,rfl,rfl,rfl,rfl,rfl,rfl,rfl,True.intro⟩ (zeG xab (za (zaa zm (zab (zf 2) zm)) zp)) ⟨(zT 0 (by decide)),fun _ _ _ _ _=>(z9 (i:=0) (show List.Nodup (["k","cells","corners","scale","names"]:List Str) by decide +kernel) rfl (Or.inl rfl) (Or.inr rfl))⟩ (fun _ _ _ _ _=>zag) (fun _ _ _ _ _=>(zK xb5 hr (za (zF (zf 1) (zaa zm (zf 0))) (za (zf 0) (za (zf 2) (za (zf 3) (za (zF (zf 4) (zf 0)) zp))))))))
 (zq (zcg (i:=11) zaf.nd (own:=["k"]) (free:=["cells","corners","scale","hours"]) (fv:=[4,8,5,7]) ⟨rfl,rfl,rfl,rfl,True.intro⟩ ⟨rfl,rfl,rfl,rfl,rfl,rfl,rfl,rfl,rfl,rfl,rfl,rfl,True.intro⟩ (zeG xab (za (zab (zax (zf 2) zm) zm) zp)) ⟨(zT 0 (by decide)),fun _ _ _ _ _=>(z9 (i:=0) (show List.Nodup (["k","cells","corners","scale","hours"]:List Str) by decide +kernel) rfl (Or.inl rfl) (Or.inr rfl))⟩ (fun _ _ _ _ _=>zag) (fun _ _ _ _ _=>(zK xd0 hr (za (zF (zf 1) (zaa zm (zab (zf 0) zm))) (za (zf 0) (za (zf 2) (za (zf 3) (za (zf 4) zp))))))))
 (zq (zJ (i:=12) zaf.nd zc1)
 (zq (zge (z8 (zP (zht hr) (zab (zf 3) zm) zm) (zy (zJ (i:=12) zaf.nd (zaj (zaj (zab (zax (zf 3) zm) zm) (zf 5)) (zaj (zab (zax (zf 3) zm) zm) (zf 5))))) zN))
 (zy (zM (zbD (za (zf 8) (za (zf 10) (za (zf 11) (za (zf 12) (za (zF (zf 7) zm) (za (zF (zf 7) zm) (za (zF (zay (za zm (za zm (za zm (za zm (za zm zp)))))) (zab (zax (zf 1) zm) zm)) zp)))))))))))))))))))))))
variable (xc6:Got P w K mg base 3 "_law_parts" ["script"] (upF K Dp.zcf))
variable (xa4:mg "str"=none)
theorem zbT:zL ["parts","lines","name","x","z","fog"] ["parts"] (zE zey):=zV
include xa4 in
theorem zjW (F:Fun K "_law_words" "_law_words" zey f fd):zW P w K mg base CX0 1 f fd ["parts"] (upF K Dp.zcl):=by
  refine zR (b:=Dp.zdm) F zbT Dp.zi4 Dp.zke (fun cdv A outer s H E hr=>?_)
  unfold Dp.zdm
  exact (zq (zJ (i:=1) zbT.nd (zay (za (zaa (zay (za zU zp)) (zbQ (own:=["corner"]) (free:=[]) (fv:=[]) True.intro True.intro (zam (zF (zf 0) zm)) ⟨(zT 0 (by decide)),fun _ _ _ _ _=>(z9 (i:=0) (show List.Nodup (["corner"]:List Str) by decide +kernel) rfl (Or.inl rfl) (Or.inr rfl))⟩ (fun _ _ _ _ _=>zag) (fun _ _ _ _ _=>(zaa (zaa (zbF zcy xa4 boot_str (za (zF (zf 0) zm) zp)) zU) (zbF zcy xa4 boot_str (za (zF (zf 0) zm) zp)))))) zp)))
 (zq (zaw (zew PySem.F.slot_list_append PySem.F.type_list_append zbe (zf 1) (za (zay (za zU (za (zbF zcy xa4 boot_str (za (zF (zf 0) zm) zp)) (za (zbF zcy xa4 boot_str (za (zF (zf 0) zm) zp)) zp)))) zp)))
 (zq (zaw (zew PySem.F.slot_list_append PySem.F.type_list_append zbe (zf 1) (za (zay (za zU (za (zbF zcy xa4 boot_str (za (zF (zf 0) zm) zp)) zp))) zp)))
 (zq (zge (z8 (zP zhq (zF (zf 0) zm) zc1) (zy (zaw (zew PySem.F.slot_list_append PySem.F.type_list_append zbe (zf 1) (za (zay (za zU (za (zbF zcy xa4 boot_str (za (zF (zf 0) zm) zp)) zp))) zp)))) zN))
 (zq (zbS (zam (zF (zf 0) zm)) (zpy (n:=3) rfl (zcE (zaD (i:=2) zbT.nd) (zcE (zaD (i:=3) zbT.nd) (zcE (zaD (i:=4) zbT.nd) zlv)))) (zy (zaw (zew PySem.F.slot_list_append PySem.F.type_list_append zbe (zf 1) (za (zay (za zU (za (zf 2) (za (zbF zcy xa4 boot_str (za (zf 3) zp)) (za (zbF zcy xa4 boot_str (za (zf 4) zp)) zp))))) zp)))))
 (zq (zbS (zam (zF (zf 0) zm)) (zaD (i:=5) zbT.nd) (zy (zaw (zew PySem.F.slot_list_append PySem.F.type_list_append zbe (zf 1) (za (zaa (zay (za zU zp)) (zbQ (own:=["number"]) (free:=[]) (fv:=[]) True.intro True.intro (zam (zf 5)) ⟨(zT 0 (by decide)),fun _ _ _ _ _=>(z9 (i:=0) (show List.Nodup (["number"]:List Str) by decide +kernel) rfl (Or.inl rfl) (Or.inr rfl))⟩ (fun _ _ _ _ _=>zag) (fun _ _ _ _ _=>(zbF zcy xa4 boot_str (za (zf 0) zp))))) zp)))))
 (zy (zM (zf 1)))))))))
variable (xdb:Got P w K mg base 1 "_law_words" ["parts"] (upF K Dp.zcl))
theorem zkJ:zL ["parts"] ["parts"] (zE ze0):=zV
include xdb in
theorem zkI (F:Fun K "_law_text" "_law_text" ze0 f fd):zW P w K mg base CX0 2 f fd ["parts"] (upF K Dp.zcw):=by
 refine zR (b:=Dp.zdN) F zkJ Dp.zkz Dp.zkL (fun cdv A outer s H E hr=>?_)
 unfold Dp.zdN
 exact (zy (zM (zgl zU (zbQ (own:=["line"]) (free:=[]) (fv:=[]) True.intro True.intro (zam (zK xdb hr (za (zf 0) zp))) ⟨(zT 0 (by decide)),fun _ _ _ _ _=>(z9 (i:=0) (show List.Nodup (["line"]:List Str) by decide +kernel) rfl (Or.inl rfl) (Or.inr rfl))⟩ (fun _ _ _ _ _=>zag) (fun _ _ _ _ _=>(zgl zU (zf 0)))))))
variable (xdt:Got P w K mg base 2 "_law_text" ["parts"] (upF K Dp.zcw))
variable (xad:mg "all"=none)
theorem zia:zL ["words"] ["words"] (zE zdK):=zV
include xq xad in
theorem zhK (F:Fun K "are_corners" "are_corners" zdK f fd):zW P w K mg base CX0 1 f fd ["words"] (upF K Dp.zbU):=by
 refine zR (b:=Dp.zcC) F zia Dp.zg5 Dp.zhI (fun cdv A outer s H E hr=>?_)
 unfold Dp.zcC
 exact (zy (zM (zeF (zd3 zei (zao zaC xq boot_len (za (zf 0) zp)) zm) (zgZ (zao zdF xad boot_all (za (zbQ (own:=["word"]) (free:=[]) (fv:=[]) True.intro True.intro (zam (zf 0)) ⟨(zT 0 (by decide)),fun _ _ _ _ _=>(z9 (i:=0) (show List.Nodup (["word"]:List Str) by decide +kernel) rfl (Or.inl rfl) (Or.inr rfl))⟩ (fun _ _ _ _ _=>zag) (fun _ _ _ _ _=>(zd3 (zht hr) (znO (zf 0) zU) zm))) zp))))))
variable (xbu:Got P w K mg base 1 "are_corners" ["words"] (upF K Dp.zbU))
theorem zfA:zL ["words","size"] ["words","size"] (zE zcm):=zV
include xq xbu in
theorem zfu (F:Fun K "refuse_bad_words" "refuse_bad_words" zcm f fd):zW P w K mg base CX0 2 f fd ["words","size"] (upF K Dp.zaF):=by
  refine zR (b:=Dp.zbB) F zfA Dp.zfc Dp.zft (fun cdv A outer s H E hr=>?_)
  unfold Dp.zbB
  exact (zq (z8 (zpa (zlH hr) zU (zf 0)) (zy zaq) zN)
 (zq (z8 (zbE (zc6 (zP zou (zf 1) zc1) (zda (zbx (zaV (zK xbu hr (za (zf 0) zp))))))) (zy zaq) zN)
 (zy (z8 (zbE (zc6 (zP zhq (zf 1) zc1) (zda (zP (zgf hr) (zao zaC xq boot_len (za (zf 0) zp)) (zf 1))))) (zy zaq) zN))))
variable (xar:Got P w K mg base 2 "refuse_bad_words" ["words","size"] (upF K Dp.zaF))
variable (xey:∃ v,mg "LINES"=some v/\KtR K v [[.str "ground",.int 1,.int 1,.non],[.str "hours",.int 1,.int 1,.int 2],[.str "delay",.int 1,.int 1,.int 1],[.str "haze",.int 0,.int 1,.int 1],[.str "beacon",.int 0,.non,.int 3],[.str "fog",.int 0,.non,.int 8]])
theorem zak:zL ["text","rows","found","k","first_word","fewest","most","size","taken"] ["text"] (zE zc8):=zV
include xq xar xey in
theorem zg2 (F:Fun K "rows_by_word" "rows_by_word" zc8 f fd):zW P w K mg base CX0 3 f fd ["text"] (upF K Dp.zbI):=by
  refine zR (b:=Dp.zco) F zak Dp.zgD Dp.zha (fun cdv A outer s H E hr=>?_)
  unfold Dp.zco
  exact (zq (zcg (i:=1) zak.nd (own:=["line"]) (free:=[]) (fv:=[]) True.intro True.intro (zam (zgJ (zf 0) zU)) ⟨(zT 0 (by decide)),fun _ _ _ _ _=>(z9 (i:=0) (show List.Nodup (["line"]:List Str) by decide +kernel) rfl (Or.inl rfl) (Or.inr rfl))⟩ (fun _ _ _ _ _=>zag) (fun _ _ _ _ _=>(zgJ (zf 0) zU)))
 (zq (zJ (i:=2) zak.nd (zpV))
 (zq (zJ (i:=3) zak.nd zm)
 (zq (zbS (zss rfl xey) (zrg (n:=4) rfl (zcE (zaD (i:=4) zak.nd) (zcE (zaD (i:=5) zak.nd) (zcE (zaD (i:=6) zak.nd) (zcE (zaD (i:=7) zak.nd) zlv))))) (zq (zJ (i:=8) zak.nd (zay zp))
 (zq (zfF (zbE (zc6 (zP zb5 (zf 3) (zao zaC xq boot_len (za (zf 1) zp))) (zc6 (zP (zht hr) (zF (zF (zf 1) (zf 3)) zm) (zf 4)) (zda (zbE (zdC (zP zou (zf 6) zc1) (zcK (zP zb5 (zao zaC xq boot_len (za (zf 8) zp)) (zf 6))))))))) (zq (zaw (zK xar hr (za (zlT (zF (zf 1) (zf 3)) (zhG zm) ziq) (za (zf 7) zp))))
 (zq (zaw (zew PySem.F.slot_list_append PySem.F.type_list_append zbe (zf 8) (za (zlT (zF (zf 1) (zf 3)) (zhG zm) ziq) zp)))
 (zy (zlg (i:=3) zak.nd zm)))))
 (zq (z8 (zP zb5 (zao zaC xq boot_len (za (zf 8) zp)) (zf 5)) (zy zaq) zN)
 (zy (zoi hr (zf 2) (zf 4) (zf 8)))))))
 (zq (z8 (zP zb5 (zf 3) (zao zaC xq boot_len (za (zf 1) zp))) (zy zaq) zN)
 (zy (zM (zf 2))))))))
variable (xbg:Got P w K mg base 3 "rows_by_word" ["text"] (upF K Dp.zbI))
variable (xbo:∃ t,mg "MOST_FIGURES"=some (.int 60 t))
variable (xd4:∃ t,mg "FIGURES"=some (.str "0123456789" t))
variable (xc4:mg "int"=none)
variable (xaz:∀ C,W.nsIn K mainGlobals "BadNumber"=some (some (.ref C))->ExC K C)
variable (xa0:∃ C,W.nsIn K mainGlobals "BadNumber"=some (some (.ref C))/\mg "BadNumber"=some (.ref C))
theorem zfP:zL ["text","figures"] ["text"] (zE zel):=zV
include xq xad xbo xd4 xc4 xaz xa0 in
theorem zkf (F:Fun K "number_of" "number_of" zel f fd):zW P w K mg base (CXd P w) 1 f fd ["text"] (zgS K Dp.zaG):=by
  refine zkr (b:=Dp.zdv) F zfP Dp.ziU Dp.zkA (fun cdv A outer s H E hr _ ex hX hM=>?_)
  unfold Dp.zdv
  exact (zq (zge (zJ (i:=1) zfP.nd (zmM (zaV (zmz (zf 0) zU)) (zlT (zf 0) (zhG zm) ziq) (zf 0))))
 (zq (z8 (zbE (zdC (zP zb5 (zao zaC xq boot_len (za (zf 1) zp)) zm) (zcK (zP zei (zao zaC xq boot_len (za (zf 1) zp)) (zbm rfl xbo))))) (zy (zeg hM rfl xaz xa0 rfl (za zU zp) (fun _ _ _ h=>h _))) zN)
 (zq (z8 (zbx (zaV (zao zdF xad boot_all (za (zoU (zbQ (own:=["sign"]) (free:=[]) (fv:=[]) True.intro True.intro (zam (zf 1)) ⟨(zT 0 (by decide)),fun _ _ _ _ _=>(z9 (i:=0) (show List.Nodup (["sign"]:List Str) by decide +kernel) rfl (Or.inl rfl) (Or.inr rfl))⟩ (fun _ _ _ _ _=>zag) (fun _ _ _ _ _=>(zlc (zlH hr) (zf 0) (zk0 rfl xd4))))) zp)))) (zy (zeg hM rfl xaz xa0 rfl (za zU zp) (fun _ _ _ h=>h _))) zN)
 (zq (z8 (zbE (zc6 (zP (zht hr) (zF (zf 1) zm) zU) (zda (zP (zgf hr) (zf 0) zU)))) (zy (zeg hM rfl xaz xa0 rfl (za zU zp) (fun _ _ _ h=>h _))) zN)
 (zy (zM (zbF zpf xc4 boot_int (za (zf 0) zp))))))))
variable (xaf:zlU P w K mg base 1 "number_of" ["text"] (zgS K Dp.zaG))
variable (xa9:mg "tuple"=none)
theorem zi6:zL ["words"] ["words"] (zE zd1):=zV
include xaf xa9 in
theorem ziZ (F:Fun K "numbers_of" "numbers_of" zd1 f fd):zW P w K mg base CX0 2 f fd ["words"] (upF K Dp.za5):=by
 refine zR (b:=Dp.zcN) F zi6 Dp.zih Dp.ziW (fun cdv A outer s H E hr=>?_)
 unfold Dp.zcN
 exact (zy (zM (zbF znr xa9 boot_tuple (za (zbQ (own:=["word"]) (free:=[]) (fv:=[]) True.intro True.intro (zam (zf 0)) ⟨(zT 0 (by decide)),fun _ _ _ _ _=>(z9 (i:=0) (show List.Nodup (["word"]:List Str) by decide +kernel) rfl (Or.inl rfl) (Or.inr rfl))⟩ (fun _ _ _ _ _=>zag) (fun _ _ _ _ _=>(zc3 xaf zgk hr (za (zf 0) zp)))) zp))))
variable (xay:Got P w K mg base 2 "numbers_of" ["words"] (upF K Dp.za5))
variable (xbd:∃ t,mg "LEAST_CORNERS"=some (.int 2 t))
variable (xbi:∃ t,mg "MOST_CORNERS"=some (.int 40 t))
theorem zcH:zL ["corners","k"] ["corners"] (zE zbZ):=zV
include xq xab xbd xbi in
theorem zeT (F:Fun K "refuse_bad_corners" "refuse_bad_corners" zbZ f fd):zW P w K mg base CX0 1 f fd ["corners"] (upF K Dp.zaI):=by
  refine zR (b:=Dp.zbb) F zcH Dp.zen Dp.zeR (fun cdv A outer s H E hr=>?_)
  unfold Dp.zbb
  exact (zq (z8 (zbE (zdC (zP zb5 (zao zaC xq boot_len (za (zf 0) zp)) (zbm rfl xbd)) (zcK (zP zei (zao zaC xq boot_len (za (zf 0) zp)) (zbm rfl xbi))))) (zy zaq) zN)
 (zy (zbS (zhP xab (za zm (za (zao zaC xq boot_len (za (zf 0) zp)) zp))) (zaD (i:=1) zcH.nd) (zy (z8 (zP zgj (zF (zF (zf 0) (zf 1)) zm) (zF (zF (zf 0) (za4 (zf 1) zm)) zm)) (zy zaq) zN)))))
variable (xai:Got P w K mg base 1 "refuse_bad_corners" ["corners"] (upF K Dp.zaI))
variable (xat:∀ C,W.nsIn K mainGlobals "Ground"=some (some (.ref C))->zal K C "corners")
variable (xak:mg "list"=none)
theorem zhJ:zL ["self","corners"] ["self","corners"] (zE zbA):=zV
include xai xat xak in
theorem zhS (F:Fun K "__init__" "Ground.__init__" zbA f fd):zW P w K mg base CX0 2 f fd ["self","corners"] (upF K Dp.zcn):=by
  refine zR (b:=Dp.zbv) F zhJ Dp.zhe Dp.zhE (fun cdv A outer s H E hr=>?_)
  unfold Dp.zbv
  exact (zq (zaw (zK xai hr (za (zf 1) zp)))
 (zy (zcI xat (zf 0) (zbF zeO xak boot_list (za (zf 1) zp)))))
variable (xby:zh8 P w K mg base 2 "Ground" (upF K Dp.zeh))
variable (xbl:∃ t,mg "MOST_BEACONS"=some (.int 12 t))
variable (xc5:∃ t,mg "MOST_FOGS"=some (.int 12 t))
theorem zeH:zL ["beacons","fogs"] ["beacons","fogs"] (zE zbV):=zV
include xq xbl xc5 in
theorem zeC (F:Fun K "refuse_bad_numbers" "refuse_bad_numbers" zbV f fd):zW P w K mg base CX0 1 f fd ["beacons","fogs"] (upF K Dp.zaJ):=by
  refine zR (b:=Dp.zbc) F zeH Dp.zem Dp.zeM (fun cdv A outer s H E hr=>?_)
  unfold Dp.zbc
  exact (zq (z8 (zbE (zdC (zP zb5 (zao zaC xq boot_len (za (zf 0) zp)) zm) (zcK (zP zei (zao zaC xq boot_len (za (zf 0) zp)) (zbm rfl xbl))))) (zy zaq) zN)
 (zy (z8 (zP zei (zao zaC xq boot_len (za (zf 1) zp)) (zbm rfl xc5)) (zy zaq) zN)))
variable (xag:Got P w K mg base 1 "refuse_bad_numbers" ["beacons","fogs"] (upF K Dp.zaJ))
variable (xbh:∃ t,mg "MOST_LETTERS"=some (.int 8 t))
variable (xd5:∃ t,mg "LETTERS"=some (.str "abcdefghijklmnopqrstuvwxyz" t))
theorem zlz:zL ["text"] ["text"] (zE zfU):=zV
include xq xad xbh xd5 in
theorem zlP (F:Fun K "is_name" "is_name" zfU f fd):zW P w K mg base CX0 1 f fd ["text"] (upF K Dp.zcQ):=by
  refine zR (b:=Dp.zee) F zlz Dp.zkM Dp.zlL (fun cdv A outer s H E hr=>?_)
  unfold Dp.zee
  exact (zq (z8 (zbE (zdC (zP zb5 (zao zaC xq boot_len (za (zf 0) zp)) zm) (zcK (zP zei (zao zaC xq boot_len (za (zf 0) zp)) (zbm rfl xbh))))) (zy (zM zef)) zN)
 (zy (zM (zao zdF xad boot_all (za (zbQ (own:=["sign"]) (free:=[]) (fv:=[]) True.intro True.intro (zam (zf 0)) ⟨(zT 0 (by decide)),fun _ _ _ _ _=>(z9 (i:=0) (show List.Nodup (["sign"]:List Str) by decide +kernel) rfl (Or.inl rfl) (Or.inr rfl))⟩ (fun _ _ _ _ _=>zag) (fun _ _ _ _ _=>(zlc (zlH hr) (zf 0) (zk0 rfl xd5)))) zp)))))
variable (xdz:Got P w K mg base 1 "is_name" ["text"] (upF K Dp.zcQ))
variable (xgj:mg "set"=none)
theorem zfs:zL ["names"] ["names"] (zE zcb):=zV
include xq xad xdz xgj in
theorem zfy (F:Fun K "refuse_bad_names" "refuse_bad_names" zcb f fd):zW P w K mg base CX0 2 f fd ["names"] (upF K Dp.zaQ):=by
  refine zR (b:=Dp.zbG) F zfs Dp.ze5 Dp.zfr (fun cdv A outer s H E hr=>?_)
  unfold Dp.zbG
  exact (zq (z8 (zbx (zaV (zao zdF xad boot_all (za (zbQ (own:=["name"]) (free:=[]) (fv:=[]) True.intro True.intro (zam (zf 0)) ⟨(zT 0 (by decide)),fun _ _ _ _ _=>(z9 (i:=0) (show List.Nodup (["name"]:List Str) by decide +kernel) rfl (Or.inl rfl) (Or.inr rfl))⟩ (fun _ _ _ _ _=>zag) (fun _ _ _ _ _=>(zK xdz hr (za (zf 0) zp)))) zp)))) (zy zaq) zN)
 (zy (z8 (zP zb5 (zpt rfl xq rfl xgj (za (zf 0) zp)) (zao zaC xq boot_len (za (zf 0) zp))) (zy zaq) zN)))
variable (xan:Got P w K mg base 2 "refuse_bad_names" ["names"] (upF K Dp.zaQ))
theorem zoP:zL ["one","other"] ["one","other"] (zE zjU):=zV
theorem zpR (F:Fun K "less" "less" zjU f fd):zW P w K mg base CX0 1 f fd ["one","other"] (upF K Dp.zcL):=by
 refine zR (b:=Dp.zhm) F zoP Dp.znJ Dp.zps (fun cdv A outer s H E hr=>?_)
 unfold Dp.zhm
 exact (zy (zM (zd3 zb5 (zaj (zF (zf 0) zm) (zF (zf 1) zm)) (zaj (zF (zf 1) zm) (zF (zf 0) zm)))))
variable (xbf:Got P w K mg base 1 "less" ["one","other"] (upF K Dp.zcL))
theorem zgN:zL ["ground","place","first","last"] ["ground","place"] (zE zhF):=zV
include xbf in
theorem zn9 (F:Fun K "is_on" "is_on" zhF f fd):zW P w K mg base CX0 2 f fd ["ground","place"] (upF K Dp.zdg):=by
  refine zR (b:=Dp.zgr) F zgN Dp.zml Dp.zn2 (fun cdv A outer s H E hr=>?_)
  unfold Dp.zgr
  exact (zq (zJ (i:=2) zgN.nd (zbD (za (zF (zF (zah (zf 0) rfl) zm) zm) (za zm zp))))
 (zq (zJ (i:=3) zgN.nd (zbD (za (zF (zF (zah (zf 0) rfl) (zeN zm)) zm) (za zm zp))))
 (zy (zM (zeF (zgn (zK xbf hr (za (zf 1) (za (zf 2) zp)))) (zgZ (zgn (zK xbf hr (za (zf 3) (za (zf 1) zp))))))))))
variable (xc1:Got P w K mg base 2 "is_on" ["ground","place"] (upF K Dp.zdg))
variable (xgi:mg "abs"=none)
theorem zbP:zL ["one","other","rest"] ["one","other"] (zE zcF):=zV
include xgi in
theorem zgw (F:Fun K "common_divisor" "common_divisor" zcF f fd):zW P w K mg base CX0 1 f fd ["one","other"] (upF K Dp.za9):=by
  refine zR (b:=Dp.zbY) F zbP Dp.zfV Dp.zgv (fun cdv A outer s H E hr=>?_)
  unfold Dp.zbY
  exact (zq (zfF (zP (zgf hr) (zf 1) zm) (zq (zJ (i:=2) zbP.nd (zab (zf 0) (zf 1)))
 (zq (zJ (i:=0) zbP.nd (zf 1))
 (zy (zJ (i:=1) zbP.nd (zf 2))))))
 (zy (zM (zao zrm xgi boot_abs (za (zf 0) zp)))))
variable (xa5:Got P w K mg base 1 "common_divisor" ["one","other"] (upF K Dp.za9))
theorem zeq:zL ["top","bottom","divisor"] ["top","bottom"] (zE zfk):=zV
include xa5 in
theorem zkF (F:Fun K "fraction" "fraction" zfk f fd):zW P w K mg base CX0 2 f fd ["top","bottom"] (upF K Dp.zcu):=by
  refine zR (b:=Dp.zdR) F zeq Dp.zjH Dp.zkN (fun cdv A outer s H E hr=>?_)
  unfold Dp.zdR
  exact (zq (zJ (i:=2) zeq.nd (zK xa5 hr (za (zf 0) (za (zf 1) zp))))
 (zq (zge (z8 (zP zb5 (zf 1) zm) (zy (zJ (i:=2) zeq.nd (zeN (zf 2)))) zN))
 (zy (zM (zbD (za (zax (zf 0) (zf 2)) (za (zax (zf 1) (zf 2)) zp)))))))
variable (xdu:Got P w K mg base 2 "fraction" ["top","bottom"] (upF K Dp.zcu))
theorem zcO:zL ["one","other","place","run","rise","top"] ["one","other","place"] (zE zep):=zV
include xdu in
theorem zjS (F:Fun K "height_on" "height_on" zep f fd):zW P w K mg base CX0 3 f fd ["one","other","place"] (upF K Dp.zb7):=by
  refine zR (b:=Dp.zdr) F zcO Dp.ziT Dp.zjP (fun cdv A outer s H E hr=>?_)
  unfold Dp.zdr
  exact (zq (zJ (i:=3) zcO.nd (za4 (zF (zf 1) zm) (zF (zf 0) zm)))
 (zq (zJ (i:=4) zcO.nd (za4 (zF (zf 1) zm) (zF (zf 0) zm)))
 (zq (zJ (i:=5) zcO.nd (zaa (zaj (zaj (zF (zf 0) zm) (zf 3)) (zF (zf 2) zm)) (zaj (zf 4) (za4 (zF (zf 2) zm) (zaj (zF (zf 0) zm) (zF (zf 2) zm))))))
 (zy (zM (zK xdu hr (za (zf 5) (za (zaj (zf 3) (zF (zf 2) zm)) zp))))))))
variable (xc7:Got P w K mg base 3 "height_on" ["one","other","place"] (upF K Dp.zb7))
variable (xb1:∀ C,W.nsIn K mainGlobals "OffGround"=some (some (.ref C))->ExC K C)
variable (xb8:∃ C,W.nsIn K mainGlobals "OffGround"=some (some (.ref C))/\mg "OffGround"=some (.ref C))
theorem zcP:zL ["ground","place","corners","k"] ["ground","place"] (zE zeo):=zV
include xbf xc1 xc7 xb1 xb8 in
theorem zjT (F:Fun K "ground_at" "ground_at" zeo f fd):zW P w K mg base (CXd P w) 4 f fd ["ground","place"] (zgS K Dp.zca):=by
  refine zkr (b:=Dp.zds) F zcP Dp.zi9 Dp.zkb (fun cdv A outer s H E hr _ ex hX hM=>?_)
  unfold Dp.zds
  exact (zq (z8 (zbx (zaV (zK xc1 hr (za (zf 0) (za (zf 1) zp))))) (zy (zeg hM rfl xb1 xb8 rfl (za zU zp) (fun _ _ _ h=>h _))) zN)
 (zq (zJ (i:=2) zcP.nd (zah (zf 0) rfl))
 (zq (zJ (i:=3) zcP.nd zm)
 (zq (zfF (zaV (zK xbf hr (za (zbD (za (zF (zF (zf 2) (zf 3)) zm) (za zm zp))) (za (zf 1) zp)))) (zy (zlg (i:=3) zcP.nd zm)))
 (zy (zM (zK xc7 hr (za (zF (zf 2) (za4 (zf 3) zm)) (za (zF (zf 2) (zf 3)) (za (zf 1) zp))))))))))
variable (xc9:zlU P w K mg base 4 "ground_at" ["ground","place"] (zgS K Dp.zca))
theorem ziA:zL ["ground","spot","place"] ["ground","spot"] (zE zgC):=zV
include xbf xc1 xc9 in
theorem zm6 (F:Fun K "stands" "stands" zgC f fd):zW P w K mg base CX0 5 f fd ["ground","spot"] (upF K Dp.zdz):=by
  refine zR (b:=Dp.ze2) F ziA Dp.zl8 Dp.zmu (fun cdv A outer s H E hr=>?_)
  unfold Dp.ze2
  exact (zq (zJ (i:=2) ziA.nd (zbD (za (zF (zf 1) zm) (za zm zp))))
 (zq (z8 (zbx (zaV (zK xc1 hr (za (zf 0) (za (zf 2) zp))))) (zy (zM zef)) zN)
 (zy (zM (zgn (zK xbf hr (za (zbD (za (zF (zf 1) zm) (za zm zp))) (za (zc3 xc9 zgk hr (za (zf 0) (za (zf 2) zp))) zp))))))))
variable (xej:Got P w K mg base 5 "stands" ["ground","spot"] (upF K Dp.zdz))
theorem zgb:zL ["ground","beacons"] ["ground","beacons"] (zE zcs):=zV
include xad xej in
theorem zf0 (F:Fun K "refuse_bad_tops" "refuse_bad_tops" zcs f fd):zW P w K mg base CX0 6 f fd ["ground","beacons"] (upF K Dp.za3):=by
 refine zR (b:=Dp.zbN) F zgb Dp.zfw Dp.zfS (fun cdv A outer s H E hr=>?_)
 unfold Dp.zbN
 exact (zy (z8 (zbx (zaV (zao zdF xad boot_all (za (zbQ (own:=["name","x","z"]) (free:=["ground"]) (fv:=[0]) ⟨rfl,True.intro⟩ ⟨rfl,rfl,rfl,True.intro⟩ (zam (zf 1)) ⟨(zjQ (zcS (zT 0 (by decide)) (zcS (zT 1 (by decide)) (zcS (zT 2 (by decide)) ziK)))),fun _ _ _ _ _=>(zg8 (n:=3) rfl (zdh (z9 (i:=0) (show List.Nodup (["name","x","z","ground"]:List Str) by decide +kernel) rfl (Or.inl rfl) (Or.inr rfl)) (zdh (z9 (i:=1) (show List.Nodup (["name","x","z","ground"]:List Str) by decide +kernel) rfl (Or.inl rfl) (Or.inr rfl)) (zdh (z9 (i:=2) (show List.Nodup (["name","x","z","ground"]:List Str) by decide +kernel) rfl (Or.inl rfl) (Or.inr rfl)) zh6))))⟩ (fun _ _ _ _ _=>zag) (fun _ _ _ _ _=>(zK xej hr (za (zf 3) (za (zbD (za (zf 1) (za (zf 2) zp))) zp))))) zp)))) (zy zaq) zN))
variable (xax:Got P w K mg base 6 "refuse_bad_tops" ["ground","beacons"] (upF K Dp.za3))
variable (xu:mg "isinstance"=none)
variable (xdx:mg "bool"=none)
theorem zkS:zL ["value"] ["value"] (zE zfd):=zV
include xc4 xu xdx in
theorem zkG (F:Fun K "is_whole" "is_whole" zfd f fd):zW P w K mg base CX0 1 f fd ["value"] (upF K Dp.zcx):=by
 refine zR (b:=Dp.zdO) F zkS Dp.zjY Dp.zkX (fun cdv A outer s H E hr=>?_)
 unfold Dp.zdO
 exact (zy (zM (zeF (zao zd9 xu boot_isinstance (za (zf 0) (za (zeY rfl xc4 boot_int) zp))) (zgZ (zgn (zao zd9 xu boot_isinstance (za (zf 0) (za (zeY rfl xdx boot_bool) zp))))))))
variable (xdo:Got P w K mg base 1 "is_whole" ["value"] (upF K Dp.zcx))
variable (xd1:∃ t,mg "NUMBERS"=some (.int 8 t))
variable (xfg:∃ t,mg "LEFT"=some (.int 0 t))
variable (xex:∃ t,mg "RIGHT"=some (.int 1 t))
variable (xgh:∃ t,mg "LOW"=some (.int 2 t))
variable (xfk:∃ t,mg "HIGH"=some (.int 3 t))
variable (xez:∃ t,mg "FIRST"=some (.int 4 t))
variable (xfe:∃ t,mg "LAST"=some (.int 5 t))
theorem zmJ:zL ["value"] ["value"] (zE zgV):=zV
include xq xad xa9 xu xdo xd1 xfg xex xgh xfk xez xfe in
theorem zm2 (F:Fun K "is_fog" "is_fog" zgV f fd):zW P w K mg base CX0 2 f fd ["value"] (upF K Dp.zdD):=by
  refine zR (b:=Dp.zfb) F zmJ Dp.zl0 Dp.zmA (fun cdv A outer s H E hr=>?_)
  unfold Dp.zfb
  exact (zq (z8 (zbE (zdC (zbx (zaV (zao zd9 xu boot_isinstance (za (zf 0) (za (zeY rfl xa9 boot_tuple) zp))))) (zcK (zP (zgf hr) (zao zaC xq boot_len (za (zf 0) zp)) (zbm rfl xd1))))) (zy (zM zef)) zN)
 (zq (z8 (zbx (zaV (zao zdF xad boot_all (za (zbQ (own:=["number"]) (free:=[]) (fv:=[]) True.intro True.intro (zam (zf 0)) ⟨(zT 0 (by decide)),fun _ _ _ _ _=>(z9 (i:=0) (show List.Nodup (["number"]:List Str) by decide +kernel) rfl (Or.inl rfl) (Or.inr rfl))⟩ (fun _ _ _ _ _=>zag) (fun _ _ _ _ _=>(zK xdo hr (za (zf 0) zp)))) zp)))) (zy (zM zef)) zN)
 (zy (zM (zeF (zd3 zgj (zF (zf 0) (zbm rfl xfg)) (zF (zf 0) (zbm rfl xex))) (zeF (zd3 zgj (zF (zf 0) (zbm rfl xgh)) (zF (zf 0) (zbm rfl xfk))) (zgZ (zd3 zgj (zF (zf 0) (zbm rfl xez)) (zF (zf 0) (zbm rfl xfe))))))))))
variable (xee:Got P w K mg base 2 "is_fog" ["value"] (upF K Dp.zdD))
theorem zf5:zL ["fogs"] ["fogs"] (zE zcr):=zV
include xad xee in
theorem zf9 (F:Fun K "refuse_bad_fogs" "refuse_bad_fogs" zcr f fd):zW P w K mg base CX0 3 f fd ["fogs"] (upF K Dp.za0):=by
 refine zR (b:=Dp.zbO) F zf5 Dp.zfq Dp.zfC (fun cdv A outer s H E hr=>?_)
 unfold Dp.zbO
 exact (zy (z8 (zbx (zaV (zao zdF xad boot_all (za (zbQ (own:=["fog"]) (free:=[]) (fv:=[]) True.intro True.intro (zam (zf 0)) ⟨(zT 0 (by decide)),fun _ _ _ _ _=>(z9 (i:=0) (show List.Nodup (["fog"]:List Str) by decide +kernel) rfl (Or.inl rfl) (Or.inr rfl))⟩ (fun _ _ _ _ _=>zag) (fun _ _ _ _ _=>(zK xee hr (za (zf 0) zp)))) zp)))) (zy zaq) zN))
variable (xau:Got P w K mg base 3 "refuse_bad_fogs" ["fogs"] (upF K Dp.za0))
theorem zfv:zL ["haze","first","last","delay"] ["haze","first","last","delay"] (zE zb9):=zV
theorem zfx (F:Fun K "refuse_bad_hours" "refuse_bad_hours" zb9 f fd):zW P w K mg base CX0 1 f fd ["haze","first","last","delay"] (upF K Dp.zaR):=by
  refine zR (b:=Dp.zbC) F zfv Dp.zeW Dp.zfz (fun cdv A outer s H E hr=>?_)
  unfold Dp.zbC
  exact (zq (z8 (zP zei (zf 1) (zf 2)) (zy zaq) zN)
 (zq (z8 (zP zb5 (zf 3) zm) (zy zaq) zN)
 (zy (z8 (zbE (zc6 (zP zhq (zf 0) zc1) (zda (zP zb5 (zf 0) zm)))) (zy zaq) zN))))
variable (xaq:Got P w K mg base 1 "refuse_bad_hours" ["haze","first","last","delay"] (upF K Dp.zaR))
variable (xa6:∀ C,W.nsIn K mainGlobals "Valley"=some (some (.ref C))->zal K C "ground")
variable (xav:∀ C,W.nsIn K mainGlobals "Valley"=some (some (.ref C))->zal K C "beacons")
variable (xbk:∀ C,W.nsIn K mainGlobals "Valley"=some (some (.ref C))->zal K C "fogs")
variable (xbp:∀ C,W.nsIn K mainGlobals "Valley"=some (some (.ref C))->zal K C "haze")
variable (xba:∀ C,W.nsIn K mainGlobals "Valley"=some (some (.ref C))->zal K C "first")
variable (xbj:∀ C,W.nsIn K mainGlobals "Valley"=some (some (.ref C))->zal K C "last")
variable (xbb:∀ C,W.nsIn K mainGlobals "Valley"=some (some (.ref C))->zal K C "delay")
theorem zhR:zL ["self","ground","beacons","fogs","haze","first","last","delay"] ["self","ground","beacons","fogs","haze","first","last","delay"] (zE zbz):=zV
include xak xby xag xan xax xau xaq xa6 xav xbk xbp xba xbj xbb in
theorem zhU (F:Fun K "__init__" "Valley.__init__" zbz f fd):zW P w K mg base CX0 7 f fd ["self","ground","beacons","fogs","haze","first","last","delay"] (upF K Dp.zcq):=by
  refine zR (b:=Dp.zbw) F zhR Dp.zg3 Dp.zik (fun cdv A outer s H E hr=>?_)
  unfold Dp.zbw
  exact (zq (zaw (zK xag hr (za (zf 2) (za (zf 3) zp))))
 (zq (zaw (zK xan hr (za (zbQ (own:=["beacon"]) (free:=[]) (fv:=[]) True.intro True.intro (zam (zf 2)) ⟨(zT 0 (by decide)),fun _ _ _ _ _=>(z9 (i:=0) (show List.Nodup (["beacon"]:List Str) by decide +kernel) rfl (Or.inl rfl) (Or.inr rfl))⟩ (fun _ _ _ _ _=>zag) (fun _ _ _ _ _=>(zF (zf 0) zm))) zp)))
 (zq (zaw (zK xax hr (za (zf 1) (za (zf 2) zp))))
 (zq (zaw (zK xau hr (za (zf 3) zp)))
 (zq (zaw (zK xaq hr (za (zf 4) (za (zf 5) (za (zf 6) (za (zf 7) zp))))))
 (zq (zcI xa6 (zf 0) (zku xby hr (za (zah (zf 1) rfl) zp)))
 (zq (zcI xav (zf 0) (zbF zeO xak boot_list (za (zf 2) zp)))
 (zq (zcI xbk (zf 0) (zbF zeO xak boot_list (za (zf 3) zp)))
 (zq (zcI xbp (zf 0) (zf 4))
 (zq (zcI xba (zf 0) (zf 5))
 (zq (zcI xbj (zf 0) (zf 6))
 (zy (zcI xbb (zf 0) (zf 7))))))))))))))
variable (xei:zh8 P w K mg base 7 "Valley" (upF K Dp.zga))
theorem zaz:zL ["text","rows","corners","hours","delay","hazes","beacons","fogs","haze"] ["text"] (zE zdG):=zV
include xq xbg xaf xay xby xei in
theorem zhH (F:Fun K "read_valley" "read_valley" zdG f fd):zW P w K mg base CX0 9 f fd ["text"] (upF K Dp.zbl):=by
  refine zR (b:=Dp.zcD) F zaz Dp.zg1 Dp.zh2 (fun cdv A outer s H E hr=>?_)
  unfold Dp.zcD
  exact (zq (zJ (i:=1) zaz.nd (zK xbg hr (za (zf 0) zp)))
 (zq (zcg (i:=2) zaz.nd (own:=["word"]) (free:=[]) (fv:=[]) True.intro True.intro (zam (zF (zeE hr (zf 1) zU) zm)) ⟨(zT 0 (by decide)),fun _ _ _ _ _=>(z9 (i:=0) (show List.Nodup (["word"]:List Str) by decide +kernel) rfl (Or.inl rfl) (Or.inr rfl))⟩ (fun _ _ _ _ _=>zag) (fun _ _ _ _ _=>(zK xay hr (za (zgJ (zf 0) zU) zp))))
 (zq (zJ (i:=3) zaz.nd (zK xay hr (za (zF (zeE hr (zf 1) zU) zm) zp)))
 (zq (zJ (i:=4) zaz.nd (zc3 xaf zgk hr (za (zF (zF (zeE hr (zf 1) zU) zm) zm) zp)))
 (zq (zcg (i:=5) zaz.nd (own:=["row"]) (free:=[]) (fv:=[]) True.intro True.intro (zam (zeE hr (zf 1) zU)) ⟨(zT 0 (by decide)),fun _ _ _ _ _=>(z9 (i:=0) (show List.Nodup (["row"]:List Str) by decide +kernel) rfl (Or.inl rfl) (Or.inr rfl))⟩ (fun _ _ _ _ _=>zag) (fun _ _ _ _ _=>(zc3 xaf zgk hr (za (zF (zf 0) zm) zp))))
 (zq (zcg (i:=6) zaz.nd (own:=["row"]) (free:=[]) (fv:=[]) True.intro True.intro (zam (zeE hr (zf 1) zU)) ⟨(zT 0 (by decide)),fun _ _ _ _ _=>(z9 (i:=0) (show List.Nodup (["row"]:List Str) by decide +kernel) rfl (Or.inl rfl) (Or.inr rfl))⟩ (fun _ _ _ _ _=>zag) (fun _ _ _ _ _=>(zbD (za (zF (zf 0) zm) (za (zc3 xaf zgk hr (za (zF (zf 0) zm) zp)) (za (zc3 xaf zgk hr (za (zF (zf 0) zm) zp)) zp))))))
 (zq (zcg (i:=7) zaz.nd (own:=["row"]) (free:=[]) (fv:=[]) True.intro True.intro (zam (zeE hr (zf 1) zU)) ⟨(zT 0 (by decide)),fun _ _ _ _ _=>(z9 (i:=0) (show List.Nodup (["row"]:List Str) by decide +kernel) rfl (Or.inl rfl) (Or.inr rfl))⟩ (fun _ _ _ _ _=>zag) (fun _ _ _ _ _=>(zK xay hr (za (zf 0) zp))))
 (zq (zge (zJ (i:=8) zaz.nd (zmM (zP zei (zao zaC xq boot_len (za (zf 5) zp)) zm) (zF (zf 5) zm) zc1)))
 (zy (zM (zku xei hr (za (zku xby hr (za (zf 2) zp)) (za (zf 6) (za (zf 7) (za (zf 8) (za (zF (zf 3) zm) (za (zF (zf 3) zm) (za (zf 4) zp))))))))))))))))))
variable (xa8:Got P w K mg base 9 "read_valley" ["text"] (upF K Dp.zbl))
theorem zi7:zL ["valley"] ["valley"] (zE zd4):=zV
theorem ziR (F:Fun K "_law_fields" "_law_fields" zd4 f fd):zW P w K mg base CX0 1 f fd ["valley"] (upF K Dp.zb1):=by
 refine zR (b:=Dp.zc2) F zi7 Dp.zhV Dp.zi3 (fun cdv A outer s H E hr=>?_)
 unfold Dp.zc2
 exact (zy (zM (zbD (za (zah (zah (zf 0) rfl) rfl) (za (zah (zf 0) rfl) (za (zah (zf 0) rfl) (za (zah (zf 0) rfl) (za (zah (zf 0) rfl) (za (zah (zf 0) rfl) (za (zah (zf 0) rfl) zp))))))))))
variable (xb6:Got P w K mg base 1 "_law_fields" ["valley"] (upF K Dp.zb1))
theorem zna:zL ["words"] ["words"] (zE zgU):=zV
include xa4 in
theorem zmd (F:Fun K "spaced" "spaced" zgU f fd):zW P w K mg base CX0 1 f fd ["words"] (upF K Dp.zbg):=by
 refine zR (b:=Dp.ze3) F zna Dp.zlE Dp.zme (fun cdv A outer s H E hr=>?_)
 unfold Dp.ze3
 exact (zy (zM (zgl zU (zbQ (own:=["word"]) (free:=[]) (fv:=[]) True.intro True.intro (zam (zf 0)) ⟨(zT 0 (by decide)),fun _ _ _ _ _=>(z9 (i:=0) (show List.Nodup (["word"]:List Str) by decide +kernel) rfl (Or.inl rfl) (Or.inr rfl))⟩ (fun _ _ _ _ _=>zag) (fun _ _ _ _ _=>(zbF zcy xa4 boot_str (za (zf 0) zp)))))))
variable (xa3:Got P w K mg base 1 "spaced" ["words"] (upF K Dp.zbg))
theorem zcp:zL ["valley","lines","beacon","fog"] ["valley"] (zE zdM):=zV
include xak xa3 in
theorem zhO (F:Fun K "show_valley" "show_valley" zdM f fd):zW P w K mg base CX0 2 f fd ["valley"] (upF K Dp.zaU):=by
  refine zR (b:=Dp.zcB) F zcp Dp.zhr Dp.zh7 (fun cdv A outer s H E hr=>?_)
  unfold Dp.zcB
  exact (zq (zJ (i:=1) zcp.nd (zay (za (zK xa3 hr (za (zaa (zay (za zU zp)) (zbQ (own:=["x","z"]) (free:=[]) (fv:=[]) True.intro True.intro (zam (zah (zah (zf 0) rfl) rfl)) ⟨(zjQ (zcS (zT 0 (by decide)) (zcS (zT 1 (by decide)) ziK))),fun _ _ _ _ _=>(zg8 (n:=2) rfl (zdh (z9 (i:=0) (show List.Nodup (["x","z"]:List Str) by decide +kernel) rfl (Or.inl rfl) (Or.inr rfl)) (zdh (z9 (i:=1) (show List.Nodup (["x","z"]:List Str) by decide +kernel) rfl (Or.inl rfl) (Or.inr rfl)) zh6)))⟩ (fun _ _ _ _ _=>zag) (fun _ _ _ _ _=>(zr8 (zf 0) (zf 1))))) zp)) (za (zK xa3 hr (za (zay (za zU (za (zah (zf 0) rfl) (za (zah (zf 0) rfl) zp)))) zp)) (za (zK xa3 hr (za (zay (za zU (za (zah (zf 0) rfl) zp))) zp)) zp)))))
 (zq (zge (z8 (zP zhq (zah (zf 0) rfl) zc1) (zy (zaw (zew PySem.F.slot_list_append PySem.F.type_list_append zbe (zf 1) (za (zK xa3 hr (za (zay (za zU (za (zah (zf 0) rfl) zp))) zp)) zp)))) zN))
 (zq (zbS (zam (zah (zf 0) rfl)) (zaD (i:=2) zcp.nd) (zy (zaw (zew PySem.F.slot_list_append PySem.F.type_list_append zbe (zf 1) (za (zK xa3 hr (za (zaa (zay (za zU zp)) (zbF zeO xak boot_list (za (zf 2) zp))) zp)) zp)))))
 (zq (zbS (zam (zah (zf 0) rfl)) (zaD (i:=3) zcp.nd) (zy (zaw (zew PySem.F.slot_list_append PySem.F.type_list_append zbe (zf 1) (za (zK xa3 hr (za (zaa (zay (za zU zp)) (zbF zeO xak boot_list (za (zf 3) zp))) zp)) zp)))))
 (zy (zM (zgl zU (zf 1))))))))
variable (xal:Got P w K mg base 2 "show_valley" ["valley"] (upF K Dp.zaU))
theorem zeS:zL ["script","parts","text","valley","rows","number"] ["script"] (zE zdT):=zV
include xc6 xdt xad xc4 xa9 xak xu xdx xa8 xb6 xal in
theorem zqt (F:Fun K "law" "law" zdT f fd):zW P w K mg base CX0 10 f fd ["script"] (upF K Dp.zdY):=by
  refine zR (b:=Dp.zjf) F zeS Dp.zoF Dp.zqN (fun cdv A outer s H E hr=>?_)
  unfold Dp.zjf
  exact (zq (zJ (i:=1) zeS.nd (zK xc6 hr (za (zf 0) zp)))
 (zq (zJ (i:=2) zeS.nd (zK xdt hr (za (zf 1) zp)))
 (zq (zJ (i:=3) zeS.nd (zK xa8 hr (za (zf 2) zp)))
 (zq (z8 (zP (zgf hr) (zK xb6 hr (za (zf 3) zp)) (zf 1)) (zy (zM zef)) zN)
 (zq (zbS (zam (zay (za (zah (zah (zf 3) rfl) rfl) (za (zah (zf 3) rfl) (za (zah (zf 3) rfl) zp))))) (zaD (i:=4) zeS.nd) (zy (z8 (zbE (zdC (zbx (zaV (zao zd9 xu boot_isinstance (za (zf 4) (za (zeY rfl xak boot_list) zp))))) (zcK (zbx (zaV (zao zdF xad boot_all (za (zbQ (own:=["row"]) (free:=[]) (fv:=[]) True.intro True.intro (zam (zf 4)) ⟨(zT 0 (by decide)),fun _ _ _ _ _=>(z9 (i:=0) (show List.Nodup (["row"]:List Str) by decide +kernel) rfl (Or.inl rfl) (Or.inr rfl))⟩ (fun _ _ _ _ _=>zag) (fun _ _ _ _ _=>(zao zd9 xu boot_isinstance (za (zf 0) (za (zeY rfl xa9 boot_tuple) zp))))) zp))))))) (zy (zM zef)) zN)))
 (zq (zbS (zam (zay (za (zah (zf 3) rfl) (za (zah (zf 3) rfl) (za (zah (zf 3) rfl) zp))))) (zaD (i:=5) zeS.nd) (zy (z8 (zbE (zdC (zbx (zaV (zao zd9 xu boot_isinstance (za (zf 5) (za (zeY rfl xc4 boot_int) zp))))) (zcK (zaV (zao zd9 xu boot_isinstance (za (zf 5) (za (zeY rfl xdx boot_bool) zp))))))) (zy (zM zef)) zN)))
 (zq (z8 (zP (zgf hr) (zK xal hr (za (zf 3) zp)) (zf 2)) (zy (zM zef)) zN)
 (zy (zM (zd3 (zht hr) (zK xal hr (za (zK xa8 hr (za (zK xal hr (za (zf 3) zp)) zp)) zp)) (zf 2)))))))))))
end
theorem all_mk {l:W.OpenLaw}{w:World}{K:W.Frag}{h:Heap}{mg:Str->Option Value}{fa:Addr}(X:K.In h)(G:h.Ns mainGlobals mg)(hfa:mg "law"=some (.ref fa))
  {xht xgt xg8 xfc xha xhw xgm xic xg6 xhb xhm xgg xeu xf7 xg4 xgy xek xeg xib xev xiv xim xe8 xhx xhc xg7 xie xe1 xh3 xif xe3 xer xge xgq xih xgd:Addr}{xhe xgo xg9 xfd xg1 xhn xgs xh8 xg0 xhd xho xgf xes xfu xg2 xgk xed xef xh6 xeq xir xil xe7 xhv xg5 xg3 xij xe4 xhh xig xe2 xeo xgc xgr xii xgb:FuncData}
  {xf4 xfs:Option Addr} {xfp:Array (Option Value)} {xfm xfv xfq xga xea xfr:Value} {xbx:Addr} {xac:Addr}
  {xf2 xfw:Option Addr} {xfl:Array (Option Value)} {xfx xf3 xfn xft xd9 xfz:Value} {xbv:Addr} {xr:Addr}
  {xis xh7:Option Addr} {xiq:Array (Option Value)} {xit xia xh9 xh5 xgw xh4:Value} {xh2:Addr}
  {xe5:Addr}
  {xe6:Addr}
  {xgp:Addr} {xfb:Tok} {xhu:Tok} {xe9:Tok} {xfj:Tok} {xfh:Tok} {xgn:Tok} {xfa:Tok} {xhz:Tok} {xhl:Tok} {xip:Tok} {xik:Tok} {xiu:Tok} {xin:Tok} {xid:Tok} {xio:Tok}
  (xdq:FH K "_law_cell" ze4 xht xhe)
  (xb2:FH K "_law_folded" zea xgt xgo)
  (xc3:FH K "_law_mixed" zet xg8 xg9)
  (xbe:FH K "_law_ground_by" zcR xfc xfd)
  (xde:FH K "_law_names" zez xha xg1)
  (xdr:FH K "_law_high" zfa xhw xhn)
  (xb7:FH K "_law_beacon" zeb xgm xgs)
  (xd2:FH K "_law_fog" zfN xic xh8)
  (xdd:FH K "_law_parts" zex xg6 xg0)
  (xdf:FH K "_law_words" zey xhb xhd)
  (xdv:FH K "_law_text" ze0 xhm xho)
  (xbs:FH K "are_corners" zdK xgg xgf)
  (xao:FH K "refuse_bad_words" zcm xeu xes)
  (xbn:FH K "rows_by_word" zc8 xf7 xfu)
  (xdh:FH K "number_of" zel xg4 xg2)
  (xb4:FH K "numbers_of" zd1 xgy xgk)
  (xaj:FH K "refuse_bad_corners" zbZ xek xed)
  (xa7:W.nsIn K mainGlobals "Ground"=some (some (.ref xac))) (xdi:K.lookup xbx=some ⟨xfm,xf4,.func (W.fnOf "__init__" "Ground.__init__" (zby zbA) (zaS zbA) (zE zbA) .none xfv xfq xga xfs xea xfr),xfp⟩) (xdk:W.codeIn K xea "Ground.__init__"=true) (xdl:W.keepIn K (.ref xbx)=true)
  (xcn:W.makesIn K xac=true) (xcw:W.findIn K (.ref xac) "__init__"=some (some (.ref xbx))) (xcq:W.isFn K (.ref xbx)=true) (xco:W.keepIn K (.ref xac)=true) (xcb:W.plainGet K xac Str.empty=true) (xcz:W.hasDictIn K xac=true) (xcd:W.plainOver K xac=true) (xcg:W.findIn K (.ref xac) "__setattr__"=some (some (.builtin "object.__setattr__"))) (xct:W.findIn K (.ref xac) "corners"=some none)
  (xah:FH K "refuse_bad_numbers" zbV xeg xef)
  (xd3:FH K "is_name" zfU xib xh6)
  (xam:FH K "refuse_bad_names" zcb xev xeq)
  (xfi:FH K "less" zjU xiv xir)
  (xew:FH K "is_on" zhF xim xil)
  (xa2:FH K "common_divisor" zcF xe8 xe7)
  (xds:FH K "fraction" zfk xhx xhv)
  (xc8:FH K "height_on" zep xhc xg5)
  (xdc:FH K "ground_at" zeo xg7 xg3)
  (xeh:FH K "stands" zgC xie xij)
  (xaw:FH K "refuse_bad_tops" zcs xe1 xe4)
  (xdw:FH K "is_whole" zfd xh3 xhh)
  (xec:FH K "is_fog" zgV xif xig)
  (xas:FH K "refuse_bad_fogs" zcr xe3 xe2)
  (xap:FH K "refuse_bad_hours" zb9 xer xeo)
  (xaa:W.nsIn K mainGlobals "Valley"=some (some (.ref xr))) (xdj:K.lookup xbv=some ⟨xfx,xf2,.func (W.fnOf "__init__" "Valley.__init__" (zby zbz) (zaS zbz) (zE zbz) .none xf3 xfn xft xfw xd9 xfz),xfl⟩) (xdm:W.codeIn K xd9 "Valley.__init__"=true) (xdn:W.keepIn K (.ref xbv)=true)
  (xcs:W.makesIn K xr=true) (xcm:W.findIn K (.ref xr) "__init__"=some (some (.ref xbv))) (xcx:W.isFn K (.ref xbv)=true) (xcy:W.keepIn K (.ref xr)=true) (xc2:W.plainGet K xr Str.empty=true) (xcu:W.hasDictIn K xr=true) (xce:W.plainOver K xr=true) (xca:W.findIn K (.ref xr) "__setattr__"=some (some (.builtin "object.__setattr__"))) (xcp:W.findIn K (.ref xr) "ground"=some none) (xcf:W.findIn K (.ref xr) "beacons"=some none) (xcr:W.findIn K (.ref xr) "fogs"=some none) (xcc:W.findIn K (.ref xr) "haze"=some none) (xck:W.findIn K (.ref xr) "first"=some none) (xcj:W.findIn K (.ref xr) "last"=some none) (xci:W.findIn K (.ref xr) "delay"=some none)
  (xbt:FH K "read_valley" zdG xge xgc)
  (xb3:FH K "_law_fields" zd4 xgq xgr)
  (xeb:FH K "spaced" zgU xih xii)
  (xbw:FH K "show_valley" zdM xgd xgb)
  (xh1:W.nsIn K mainGlobals "law"=some (some (.ref xh2))) (xhs:K.lookup xh2=some ⟨xit,xis,.func (W.fnOf "law" "law" (zby zdT) (zaS zdT) (zE zdT) .none xia xh9 xh5 xh7 xgw xh4),xiq⟩) (xhp:W.codeIn K xgw "law"=true) (xhr:W.keepIn K (.ref xh2)=true)
  (xbq:W.nsIn K mainGlobals "OffGround"=some (some (.ref xe5))) (xd8:zlQ K xe5=true) (xbr:W.nsIn K mainGlobals "BadNumber"=some (some (.ref xe6))) (xd7:zlQ K xe6=true)
  (xhk:W.nsIn K mainGlobals "len"=some none) (xf6:W.nsIn K mainGlobals "range"=some none) (xhg:W.nsIn K mainGlobals "str"=some none) (xhf:W.nsIn K mainGlobals "all"=some none) (xh0:W.nsIn K mainGlobals "int"=some none) (xfy:W.nsIn K mainGlobals "tuple"=some none) (xgv:W.nsIn K mainGlobals "list"=some none) (xhq:W.nsIn K mainGlobals "set"=some none) (xhj:W.nsIn K mainGlobals "abs"=some none) (xdy:W.nsIn K mainGlobals "isinstance"=some none) (xgz:W.nsIn K mainGlobals "bool"=some none)
  (xf5:W.nsIn K mainGlobals "LINES"=some (some (.ref xgp))) (w_LINES:znF K xgp [[.str "ground",.int 1,.int 1,.non],[.str "hours",.int 1,.int 1,.int 2],[.str "delay",.int 1,.int 1,.int 1],[.str "haze",.int 0,.int 1,.int 1],[.str "beacon",.int 0,.non,.int 3],[.str "fog",.int 0,.non,.int 8]]=true) (xcl:W.nsIn K mainGlobals "MOST_FIGURES"=some (some (.int 60 xfb))) (xep:W.nsIn K mainGlobals "FIGURES"=some (some (.str "0123456789" xhu))) (xbz:W.nsIn K mainGlobals "LEAST_CORNERS"=some (some (.int 2 xe9))) (xb9:W.nsIn K mainGlobals "MOST_CORNERS"=some (some (.int 40 xfj))) (xch:W.nsIn K mainGlobals "MOST_BEACONS"=some (some (.int 12 xfh))) (xd6:W.nsIn K mainGlobals "MOST_FOGS"=some (some (.int 12 xgn))) (xcv:W.nsIn K mainGlobals "MOST_LETTERS"=some (some (.int 8 xfa))) (xet:W.nsIn K mainGlobals "LETTERS"=some (some (.str "abcdefghijklmnopqrstuvwxyz" xhz))) (xen:W.nsIn K mainGlobals "NUMBERS"=some (some (.int 8 xhl))) (xgl:W.nsIn K mainGlobals "LEFT"=some (some (.int 0 xip))) (xfo:W.nsIn K mainGlobals "RIGHT"=some (some (.int 1 xik))) (xhy:W.nsIn K mainGlobals "LOW"=some (some (.int 2 xiu))) (xgx:W.nsIn K mainGlobals "HIGH"=some (some (.int 3 xin))) (xf9:W.nsIn K mainGlobals "FIRST"=some (some (.int 4 xid))) (xgu:W.nsIn K mainGlobals "LAST"=some (some (.int 5 xio))) :
  ∃ fd:FuncData,(∀ (s:Shared) (v:Value),BindsTo s fd ⟨[v],[]⟩ [("script",v)])/\∀ base:Heap,K.In base->base.Ns mainGlobals mg->zW l.prog w K mg base CX0 10 fa fd ["script"] (upF K Dp.zdY):=by
 have e:=hfa.symm.trans (W.mg_of X G xh1)
 cases e
 have xat:∀ C,W.nsIn K mainGlobals "Ground"=some (some (.ref C))->zal K C "corners":=fun C hC=>by
  rw [xa7] at hC;cases hC;exact xct
 have xem:=zho (st:=zbA) xdi xdk xdl
 have zbv:=xem.binds (ps:=["self","corners"]) fun _ _ _ _ _ _ us hl=>by obtain⟨_,_,rfl⟩:=zlx hl;rfl
 have xa6:∀ C,W.nsIn K mainGlobals "Valley"=some (some (.ref C))->zal K C "ground":=fun C hC=>by
  rw [xaa] at hC;cases hC;exact xcp
 have xav:∀ C,W.nsIn K mainGlobals "Valley"=some (some (.ref C))->zal K C "beacons":=fun C hC=>by
  rw [xaa] at hC;cases hC;exact xcf
 have xbk:∀ C,W.nsIn K mainGlobals "Valley"=some (some (.ref C))->zal K C "fogs":=fun C hC=>by
  rw [xaa] at hC;cases hC;exact xcr
 have xbp:∀ C,W.nsIn K mainGlobals "Valley"=some (some (.ref C))->zal K C "haze":=fun C hC=>by
  rw [xaa] at hC;cases hC;exact xcc
 have xba:∀ C,W.nsIn K mainGlobals "Valley"=some (some (.ref C))->zal K C "first":=fun C hC=>by
  rw [xaa] at hC;cases hC;exact xck
 have xbj:∀ C,W.nsIn K mainGlobals "Valley"=some (some (.ref C))->zal K C "last":=fun C hC=>by
  rw [xaa] at hC;cases hC;exact xcj
 have xbb:∀ C,W.nsIn K mainGlobals "Valley"=some (some (.ref C))->zal K C "delay":=fun C hC=>by
  rw [xaa] at hC;cases hC;exact xci
 have xel:=zho (st:=zbz) xdj xdm xdn
 have zbw:=xel.binds (ps:=["self","ground","beacons","fogs","haze","first","last","delay"]) fun _ _ _ _ _ _ us hl=>by obtain⟨_,_,_,_,_,_,_,_,rfl⟩:=zsZ hl;rfl
 have xiw:=zho (st:=zdT) xhs xhp xhr
 have xaz:∀ C,W.nsIn K mainGlobals "BadNumber"=some (some (.ref C))->ExC K C:=fun C h=>by
  rw [xbr] at h;cases h;exact ExC.of xd7
 have xa0:∃ C,W.nsIn K mainGlobals "BadNumber"=some (some (.ref C))/\mg "BadNumber"=some (.ref C):=⟨_,xbr,W.mg_of X G xbr⟩
 have xb1:∀ C,W.nsIn K mainGlobals "OffGround"=some (some (.ref C))->ExC K C:=fun C h=>by
  rw [xbq] at h;cases h;exact ExC.of xd8
 have xb8:∃ C,W.nsIn K mainGlobals "OffGround"=some (some (.ref C))/\mg "OffGround"=some (.ref C):=⟨_,xbq,W.mg_of X G xbq⟩
 have xq:=W.mg_none_of X G xhk
 have xab:=W.mg_none_of X G xf6
 have xa4:=W.mg_none_of X G xhg
 have xad:=W.mg_none_of X G xhf
 have xc4:=W.mg_none_of X G xh0
 have xa9:=W.mg_none_of X G xfy
 have xak:=W.mg_none_of X G xgv
 have xgj:=W.mg_none_of X G xhq
 have xgi:=W.mg_none_of X G xhj
 have xu:=W.mg_none_of X G xdy
 have xdx:=W.mg_none_of X G xgz
 have xey:∃ v,mg "LINES"=some v/\KtR K v [[.str "ground",.int 1,.int 1,.non],[.str "hours",.int 1,.int 1,.int 2],[.str "delay",.int 1,.int 1,.int 1],[.str "haze",.int 0,.int 1,.int 1],[.str "beacon",.int 0,.non,.int 3],[.str "fog",.int 0,.non,.int 8]]:=⟨_,W.mg_of X G xf5,KtR.of w_LINES⟩
 have xbo:∃ t,mg "MOST_FIGURES"=some (.int 60 t):=⟨_,W.mg_of X G xcl⟩
 have xd4:∃ t,mg "FIGURES"=some (.str "0123456789" t):=⟨_,W.mg_of X G xep⟩
 have xbd:∃ t,mg "LEAST_CORNERS"=some (.int 2 t):=⟨_,W.mg_of X G xbz⟩
 have xbi:∃ t,mg "MOST_CORNERS"=some (.int 40 t):=⟨_,W.mg_of X G xb9⟩
 have xbl:∃ t,mg "MOST_BEACONS"=some (.int 12 t):=⟨_,W.mg_of X G xch⟩
 have xc5:∃ t,mg "MOST_FOGS"=some (.int 12 t):=⟨_,W.mg_of X G xd6⟩
 have xbh:∃ t,mg "MOST_LETTERS"=some (.int 8 t):=⟨_,W.mg_of X G xcv⟩
 have xd5:∃ t,mg "LETTERS"=some (.str "abcdefghijklmnopqrstuvwxyz" t):=⟨_,W.mg_of X G xet⟩
 have xd1:∃ t,mg "NUMBERS"=some (.int 8 t):=⟨_,W.mg_of X G xen⟩
 have xfg:∃ t,mg "LEFT"=some (.int 0 t):=⟨_,W.mg_of X G xgl⟩
 have xex:∃ t,mg "RIGHT"=some (.int 1 t):=⟨_,W.mg_of X G xfo⟩
 have xgh:∃ t,mg "LOW"=some (.int 2 t):=⟨_,W.mg_of X G xhy⟩
 have xfk:∃ t,mg "HIGH"=some (.int 3 t):=⟨_,W.mg_of X G xgx⟩
 have xez:∃ t,mg "FIRST"=some (.int 4 t):=⟨_,W.mg_of X G xf9⟩
 have xfe:∃ t,mg "LAST"=some (.int 5 t):=⟨_,W.mg_of X G xgu⟩
 refine⟨W.fnOf "law" "law" (zby zdT) (zaS zdT) (zE zdT) .none xia xh9 xh5 xh7 xgw xh4,fun s v=>.of_eq rfl,fun base _ _=>?_⟩
 have xbm:=z7 l.prog w base X G xdq (zkW xq xdq.F)
 have xb0:=z7 l.prog w base X G xb2 (ziY xq xab xb2.F)
 have xae:=z7 l.prog w base X G xc3 (zkp xc3.F)
 have xbc:=z7 l.prog w base X G xbe (zgK xab xae xbe.F)
 have xda:=z7 l.prog w base X G xde (zjr xab xde.F)
 have xdp:=z7 l.prog w base X G xdr (zkQ xq xab xdr.F)
 have xb5:=z7 l.prog w base X G xb7 (ziS xae xdp xb7.F)
 have xd0:=z7 l.prog w base X G xd2 (zlD xae xd2.F)
 have xc6:=z7 l.prog w base X G xdd (zkm xbm xab xb0 xbc xda xb5 xd0 xdd.F)
 have xdb:=z7 l.prog w base X G xdf (zjW xa4 xdf.F)
 have xdt:=z7 l.prog w base X G xdv (zkI xdb xdv.F)
 have xbu:=z7 l.prog w base X G xbs (zhK xq xad xbs.F)
 have xar:=z7 l.prog w base X G xao (zfu xq xbu xao.F)
 have xbg:=z7 l.prog w base X G xbn (zg2 xq xar xey xbn.F)
 have xaf:=zlm l.prog w base X G xdh (zkf xq xad xbo xd4 xc4 xaz xa0 xdh.F)
 have xay:=z7 l.prog w base X G xb4 (ziZ xaf xa9 xb4.F)
 have xai:=z7 l.prog w base X G xaj (zeT xq xab xbd xbi xaj.F)
 have xby:zh8 l.prog w K mg base 2 "Ground" (upF K Dp.zeh):=⟨⟨_,_,_,_,_,⟨xcn,xcw,xcq,xco⟩,zhS xai xat xak xem,zbv,W.mg_of X G xa7,zls ⟨xcb,xcz,xcd,xcg⟩ xa7⟩⟩
 have xag:=z7 l.prog w base X G xah (zeC xq xbl xc5 xah.F)
 have xdz:=z7 l.prog w base X G xd3 (zlP xq xad xbh xd5 xd3.F)
 have xan:=z7 l.prog w base X G xam (zfy xq xad xdz xgj xam.F)
 have xbf:=z7 l.prog w base X G xfi (zpR xfi.F)
 have xc1:=z7 l.prog w base X G xew (zn9 xbf xew.F)
 have xa5:=z7 l.prog w base X G xa2 (zgw xgi xa2.F)
 have xdu:=z7 l.prog w base X G xds (zkF xa5 xds.F)
 have xc7:=z7 l.prog w base X G xc8 (zjS xdu xc8.F)
 have xc9:=zlm l.prog w base X G xdc (zjT xbf xc1 xc7 xb1 xb8 xdc.F)
 have xej:=z7 l.prog w base X G xeh (zm6 xbf xc1 xc9 xeh.F)
 have xax:=z7 l.prog w base X G xaw (zf0 xad xej xaw.F)
 have xdo:=z7 l.prog w base X G xdw (zkG xc4 xu xdx xdw.F)
 have xee:=z7 l.prog w base X G xec (zm2 xq xad xa9 xu xdo xd1 xfg xex xgh xfk xez xfe xec.F)
 have xau:=z7 l.prog w base X G xas (zf9 xad xee xas.F)
 have xaq:=z7 l.prog w base X G xap (zfx xap.F)
 have xei:zh8 l.prog w K mg base 7 "Valley" (upF K Dp.zga):=⟨⟨_,_,_,_,_,⟨xcs,xcm,xcx,xcy⟩,zhU xak xby xag xan xax xau xaq xa6 xav xbk xbp xba xbj xbb xel,zbw,W.mg_of X G xaa,zls ⟨xc2,xcu,xce,xca⟩ xaa⟩⟩
 have xa8:=z7 l.prog w base X G xbt (zhH xq xbg xaf xay xby xei xbt.F)
 have xb6:=z7 l.prog w base X G xb3 (ziR xb3.F)
 have xa3:=z7 l.prog w base X G xeb (zmd xa4 xeb.F)
 have xal:=z7 l.prog w base X G xbw (zhO xak xa3 xbw.F)
 exact zqt xc6 xdt xad xc4 xa9 xak xu xdx xa8 xb6 xal xiw
theorem walk {l:W.OpenLaw}{q:Program}{loose:List Str}{XP:(Str->Option Value)->Heap->Prop}{YP:World->Heap->Prop}{d:DefRec}{K:Params->W.Frag}(hn:l.most=some 63)(hdf:d.params.defaults=[])
  (hY:∀ (w:World) (h:Heap),YP w h->(K w.params).In h)
  (F:∀ (w:World) (mg:Str->Option Value) (fa:Addr) (h:Heap),(K w.params).In h->h.Ns mainGlobals mg->mg d.name=some (.ref fa) ->
   ∃ fd:FuncData,(∀ (s:Shared) (u:Value),BindsTo s fd ⟨[u],[]⟩ [("script",u)])/\∀ base:Heap,(K w.params).In base->base.Ns mainGlobals mg->zW l.prog w (K w.params) mg base CX0 10 fa fd ["script"] (upF (K w.params) Dp.zdY)) :
  W.WalkO q loose XP YP l.row.toRowW d [] (fun f vs=>PySem.call f vs) :=
 Dp.znx (n:=63) (k:=10) (x:="script") (sp:=fun w=>upF (K w.params) Dp.zdY) hn (by decide) hdf ⟨rfl,by decide,by decide⟩ hY F fun _ _ _ _ hl hg hO hS=>zqV hl hg hO hS
end Law
local macro_rules | `(tactic| walk_at "fh")=>`(tactic| (refine' Dp.ztm ?fa ?fl ?fc ?fk;(case fa=>k_is);(case fl=>k_is);(case fc=>k_is);(case fk=>k_is)))
open PySem PySem.W PyProof.Rows
namespace PySem.W.Fast
def tw15954610142646047847:=Prop
def tw8260647722252533780:=Prop
def tw16067895818714057934:=Prop
def tw8096324611260617881:=Prop
def tw12677046371546187032:=Prop
def tw14831903820763182066:=Prop
def tw5506629510790546916:=Prop
def tw12694809424904837699:=Prop
def tw4411197948123831302:=Prop
def tw2967798248309852411:=Prop
def tw1950550896626768187:=Prop
def tw9208704720917830722:=Prop
def tw5725347947184905785:=Prop
def tw13201686261153368548:=Prop
def tw10858962475375313341:=Prop
def tw10114088993565807424:=Prop
def tw17276004033902137415:=Prop
def tw1323434900078177214:=Prop
def tw6050459723426805616:=Prop
def tw995059705067596874:=Prop
def tw5806357939872899887:=Prop
def tw13112546420524488946:=Prop
def tw176080140583195290:=Prop
def tw11136569367664840884:=Prop
def tw8455267447873323978:=Prop
def tw3381272168329297265:=Prop
def tw15541290122854981839:=Prop
def tw18399608772463389400:=Prop
def tw56686251178806739:=Prop
def tw12903986913786019477:=Prop
def tw14909778320701582445:=Prop
def tw4084663426216523673:=Prop
def tw12050349430549089482:=Prop
def tw13091080404199616439:=Prop
def tw2751017371666299519:=Prop
def tw6333890455791978900:=Prop
def tw458072823801978888:=Prop
def tw4220933123637602659:=Prop
def tw15254848426989269104:=Prop
def tw5866063380192313581:=Prop
def tw6598307701220049292:=Prop
def tw16758107904965732543:=Prop
def tw9653224593456296905:=Prop
def tw14680102394775662864:=Prop
def tw9176705501178463957:=Prop
def tw901173774763841177:=Prop
def tw13944906896942177677:=Prop
def tw1774165080089579252:=Prop
def tw1301963359903462383:=Prop
def tw13670582527984148980:=Prop
def tw14230321221389226132:=Prop
def tw16638914800638465041:=Prop
def tw14459604787607014493:=Prop
def tw402216751599554551:=Prop
def tw4195225495122666059:=Prop
def tw5872819997182342385:=Prop
def tw4586737906742404099:=Prop
def tw1227389121484005097:=Prop
def tw1919122316190378807:=Prop
def tw11012187632378929120:=Prop
def tw2022010724102742991:=Prop
def tw9472950098850630540:=Prop
def tw17439276877568343004:=Prop
def tw2508538613809064358:=Prop
def tw17416126616448673763:=Prop
def tw4247341439932319587:=Prop
def tw2762306062856514886:=Prop
def tw13099488155852308129:=Prop
def tw1188965664015640173:=Prop
def tw18423450479641980201:=Prop
def tw16782729740996245518:=Prop
def tw4857704671298040742:=Prop
def tw17048709264147360755:=Prop
def tw212270031897584917:=Prop
def tw13456413897791831573:=Prop
def tw4742831551783175841:=Prop
def tw13922932698955268555:=Prop
def tw11109057297040611735:=Prop
def tw5556359800071618435:=Prop
def tw805484269836962608:=Prop
def tw10687354153337481888:=Prop
def tw9916621123152232469:=Prop
def tw13325842245101360305:=Prop
def tw8984719381879422161:=Prop
def tw16775837434419147884:=Prop
def tw13769752005931956318:=Prop
def tw13028892844604308106:=Prop
def tw1659117990007382834:=Prop
def tw9158258391483166537:=Prop
def tw15686227903866423561:=Prop
def tw17193212082314283151:=Prop
def tw1611141709403981208:=Prop
def tw4123220070233591055:=Prop
def tw9293391179632271751:=Prop
def tw13322831171022543305:=Prop
def tw833143743671490440:=Prop
def tw12821964523035188868:=Prop
def tw15286501621937916874:=Prop
def tw15125304537825833376:=Prop
def tw8812782630888841616:=Prop
def tw1205024878194747933:=Prop
def tw5369074557342800589:=Prop
def tw10379954977722902858:=Prop
def tw16797770315411275301:=Prop
def tw12026578861792886378:=Prop
def tw8235831564957351790:=Prop
def tw14404500868163417103:=Prop
def tw14245435372449324977:=Prop
def tw10998966141982748368:=Prop
def tw16300786983338526966:=Prop
def tw7840352083574289697:=Prop
def tw15644296688883247923:=Prop
def tw6386749687905334294:=Prop
def tw16454292975558980568:=Prop
def tw5474278963064140120:=Prop
def tw2833181271484878099:=Prop
def tw9575632485631377151:=Prop
def tw7334738341492931221:=Prop
def tw4929633278180872937:=Prop
def tw2351214512488614697:=Prop
def tw3254845128986372388:=Prop
def tw3429955738330472966:=Prop
def tw2380073848116579729:=Prop
def tw6008302359065934332:=Prop
def tw13962541889324493471:=Prop
def tw13327313658085320256:=Prop
def tw6632251445820917410:=Prop
def tw15771013718799203883:=Prop
def tw11596189151774999492:=Prop
def tw3795071363923621731:=Prop
def tw2593077099097229232:=Prop
def tw13411389284029666177:=Prop
def tw514180461053654314:=Prop
def tw6350927760881653181:=Prop
def tw2223758495075651879:=Prop
def tw11805425367963455993:=Prop
def tw9371469990547974824:=Prop
def tw8323917109436849686:=Prop
def tw7447178438082157647:=Prop
def tw5817057903345759043:=Prop
def tw5063507165746046440:=Prop
def tw18375513412947247406:=Prop
def tw17538446749264205950:=Prop
def tw15594212029800383375:=Prop
def tw12554084228545302788:=Prop
def tw4130738815208280329:=Prop
def tw4277296090777257983:=Prop
def tw448021684240190017:=Prop
def tw14780766311186998563:=Prop
def tw818080249908122562:=Prop
def tw7060623272638273167:=Prop
def tw17193458023968703242:=Prop
def tw2906454965754798461:=Prop
def tw3003573119320312607:=Prop
def tw18311600407107636133:=Prop
def tw1828385445022856360:=Prop
def tw1000443737505099533:=Prop
def tw6264063140029321977:=Prop
def tw2747014553766830418:=Prop
def tw14627105796923563481:=Prop
def tw15354529158615872073:=Prop
def tw13647643315806146713:=Prop
def tw17793322818909591524:=Prop
def tw14658665771688489023:=Prop
def tw7396805350352787977:=Prop
def tw367197622229102984:=Prop
def tw15291608093702202417:=Prop
def tw6692441287689671765:=Prop
def tw6622823355847731881:=Prop
def tw3872871829486726612:=Prop
def tw11486067824025544178:=Prop
def tw4385010763408348051:=Prop
def tw7535965187476526404:=Prop
def tw15280257441844894543:=Prop
def tw16614474778189062523:=Prop
end PySem.W.Fast
set_option maxRecDepth 100000 in
set_option maxHeartbeats 0 in
theorem PySem.Challenge.cw_beaconvale_k86_whole_valleys_read_holds : PySem.Challenge.rw_beaconvale_k86_whole_valleys_read.Holds := by
 w_on; o_law; k_head; (case hw => w_witness2)
 k_fill
 refine Law.walk (l := PySem.Challenge.rw_beaconvale_k86_whole_valleys_read) rfl rfl (fun w h Y => PySem.W.kIn_of Y) ?F
 case F =>
  intro w mg fa h KX G hmg
  refine' Law.all_mk KX G hmg ?ae ?ai ?aj ?ak ?al ?am ?ao ?aq ?ar ?aw ?ay ?aA ?aB ?aC ?aD ?aE ?aF ?aG ?aH ?aI ?aJ ?aK ?aL ?aM ?aN ?aO ?aP ?aQ ?aR ?aS ?aT ?aU ?aV ?aW ?aX ?aY ?aZ ?a8 ?a9 ?be ?bh ?bi ?bj ?bp ?bq ?br ?bt ?bu ?bv ?bw ?bA ?bC ?bD ?bE ?bG ?bH ?bI ?bJ ?bK ?bL ?bM ?bN ?bO ?bP ?bQ ?bR ?bS ?bU ?bV ?bW ?bX ?bY ?bZ ?b9 ?ca ?cb ?cc ?ce ?cf ?cg ?ci ?cj ?ck ?cn ?cq ?cr ?cu ?cv ?cw ?cx ?cz ?cA ?cB ?cC ?cD ?cE ?cF ?cG ?cH ?cI ?cJ ?cK ?cL ?cM
  case bZ|ca|aG|br|aL|bA=>k_is
  case ae|ai|aj|ak|al|am|ao|aq|ar|aw|ay|aA|aB|aC|aD|aE|aF=>walk_at "fh"
  case aH|aI|aJ|aK|aM|aN|aO|aP|aQ|aR|aS=>k_is
  case aT|aU|aV|aW|aX|aY|aZ|a8|a9|be|bh|bi|bj|bp|bq=>walk_at "fh"
  case bt|bu|bv|bw|bC|bD|bE|bG|bH|bI|bJ|bK|bL|bM|bN|bO|bP=>k_is
  case bQ|bR|bS|bU=>walk_at "fh"
  case bV|bW|bX|bY=>k_is
  case b9|cb=>kernel_rfl
  case cc|ce|cf|cg|ci|cj|ck|cn|cq|cr|cu|cv=>k_is
  case cw=>kernel_rfl
  case cx|cz|cA|cB|cC|cD|cE|cF|cG|cH|cI|cJ|cK|cL|cM=>k_is
#print axioms PySem.Challenge.cw_beaconvale_k86_whole_valleys_read_holds
