import PyProof.Rows.All
import Wide.All
import OpenK.AllK
import Wide.FinOn
import Lean
import PyProof.EqAt
import PyProof.EqKinds
import PyProof.TupleCall
import PyProof.NeData
import PyProof.P3Eq
import PyProof.StrLawsIn
import PyProof.StrLawsJoin
import PyProof.StrBlockL
import PyProof.Rows.StrSplitCount
import KE.KMinKey
import KE.KLam
import KE.KDictList
import PySem.Challenge.RW_beaconvale_k88_deeds_of_a_watch
set_option Elab.async false
set_option linter.all false
set_option maxRecDepth 100000
set_option maxHeartbeats 4000000
set_option Elab.async false
set_option linter.all false
set_option maxRecDepth 100000
def zuZ (h:True:=by rfl):True:=h
def zq:Lean.Syntax:=zuZ._auto_1
def zuq (h:True:=by decide):True:=h
def zG:Lean.Syntax:=zuq._auto_1
def zux (h:True:=by first|exact .inl rfl|exact .inr rfl|assumption):True:=h
def zdr:Lean.Syntax:=zux._auto_1
def zvs (h:True:=by exact zac rfl):True:=h
def zdu:Lean.Syntax:=zvs._auto_1
def zvi (h:True:=by intro _;rfl):True:=h
def zeB:Lean.Syntax:=zvi._auto_1
def zub (h:True:=by with_unfolding_all rfl):True:=h
def zer:Lean.Syntax:=zub._auto_1
def zuD (h:True:=by exact zdk rfl):True:=h
def zes:Lean.Syntax:=zuD._auto_1
def zt5 (h:True:=by decide +kernel):True:=h
def zgN:Lean.Syntax:=zt5._auto_1
def zuO (h:True:=by exact zbS rfl):True:=h
def zjl:Lean.Syntax:=zuO._auto_1
def zve (h:True:=by first|exact Or.inl rfl|exact Or.inr rfl):True:=h
def zmR:Lean.Syntax:=zve._auto_1
def ztZ (h:True:=by first|exact PassesOwn.never|exact PassesOwn.leaving):True:=h
def zkJ:Lean.Syntax:=ztZ._auto_1
abbrev À:=PySem.W.Frag
abbrev Á:=PySem.Shared
abbrev Â:=PySem.Value
namespace L2
open PySem PySem.Spec PyProof.Rows
abbrev Key:=Sum Int Str
def zeC:Key->Â->Bool
 |.inl k,v=>Value.isInt k v
 |.inr x,v=>Value.isStrOf x v
def zuU (w:World):Key->Int
 |.inl k=>hashInt k
 |.inr x=>hashStr w x
theorem zav:∀ {k:Key} {v:Â},zeC k v=true->(∃ i t,k=Sum.inl i/\v=Value.int i t)\/(∃ x t,k=Sum.inr x/\v=Value.str x t)
 |.inl i,v,h=>by obtain⟨t,e⟩:=Value.isInt_shape (k:=i) (v:=v) h;exact .inl ⟨i,t,rfl,e⟩
 |.inr x,v,h=>by obtain⟨t,e⟩:=Value.isStrOf_shape (x:=x) (v:=v) h;exact .inr ⟨x,t,rfl,e⟩
def zkC (i:Int)(t:Tok):zeC (.inl i) (.int i t)=true:=by simp[zeC,Value.isInt]
def zkb (x:Str)(t:Tok):zeC (.inr x) (.str x t)=true:=by simp[zeC,Value.isStrOf]
def zr4 (a b:Int):decide ((Sum.inl a:Key)=Sum.inl b)=(a==b):=by
 by_cases e:a=b
 ·subst e;simp
 ·have h:¬ (Sum.inl a:Key)=Sum.inl b:=fun q=>e (Sum.inl.inj q)
  rw[decide_eq_false h];exact(beq_eq_false_iff_ne.mpr e).symm
def zqB (a b:Str):decide ((Sum.inr a:Key)=Sum.inr b)=decide (a=b):=by
 by_cases e:a=b
 ·subst e;simp
 ·have h:¬ (Sum.inr a:Key)=Sum.inr b:=fun q=>e (Sum.inr.inj q)
  rw[decide_eq_false h,decide_eq_false e]
def zpU (a:Int)(b:Str):decide ((Sum.inl a:Key)=Sum.inr b)=false:=decide_eq_false (fun q=>nomatch q)
def zqC (a:Str)(b:Int):decide ((Sum.inr a:Key)=Sum.inl b)=false:=decide_eq_false (fun q=>nomatch q)
def za7 (prog:Program)(w:World):PySem.KeyKind prog w Key where
  is:=zeC
  hash:=zuU w
  inj:=fun v a b ha hb=>by
    rcases zav ha with⟨i,t,rfl,rfl⟩|⟨x,t,rfl,rfl⟩
    . rcases zav hb with⟨j,u,rfl,e⟩|⟨y,u,rfl,e⟩
      . injection e with e1 _;rw[e1]
      . exact nomatch e
    . rcases zav hb with⟨j,u,rfl,e⟩|⟨y,u,rfl,e⟩
      . exact nomatch e
      . injection e with e1 _;rw[e1]
  byValue:=fun k v h=>by rcases zav h with⟨i,t,rfl,rfl⟩|⟨x,t,rfl,rfl⟩<;>rfl
  pyHash:=fun hv h=>by
    rcases zav hv with⟨i,t,rfl,rfl⟩|⟨x,t,rfl,rfl⟩
    . exact wpAny_pyHash_int h
    . exact wpAny_pyHash_str h
  eqBool:=fun hu hv h=>by
    rcases zav hu with⟨i,t,rfl,rfl⟩|⟨x,t,rfl,rfl⟩
    . rcases zav hv with⟨j,u,rfl,rfl⟩|⟨y,u,rfl,rfl⟩
      . rw[zr4]at h;exact wpAny_eqBool_int h
      . rw[zpU]at h;exact SeqAt.EqAt.int_str i t y u _ _ _ _ h
    . rcases zav hv with⟨j,u,rfl,rfl⟩|⟨y,u,rfl,rfl⟩
      . rw[zqC]at h;exact SeqAt.EqAt.str_int x t j u _ _ _ _ h
      . rw[zqB]at h;exact wpAny_eqBool_str h
  «strs»:=fun k x t v h=>by
    rcases zav h with⟨i,u,rfl,e⟩|⟨y,u,rfl,e⟩
    . exact nomatch e
    . injection e with e1 _;subst e1;cases v<;>rfl
def zig (prog:Program)(w:World)(i:Int)(t:Tok):(za7 prog w).is (.inl i) (.int i t)=true:=zkC i t
def zib (prog:Program)(w:World)(x:Str)(t:Tok):(za7 prog w).is (.inr x) (.str x t)=true:=zkb x t
inductive V where
 |non|bl (b:Bool)|int (i:Int)|str (x:Str)|byt (b:Array UInt8)|flt (b:UInt64)|ref (a:Addr)|ty (n:String)
 deriving DecidableEq
def RelV:V->Â->Prop
 |.non,u=>u=Value.none
 |.bl b,u=>u=Value.bool b
 |.int i,u=>∃ t,u=Value.int i t
 |.str x,u=>∃ t,u=Value.str x t
 |.byt b,u=>∃ t,u=Value.bytes b t
 |.flt b,u=>∃ t,u=Value.float b t
 |.ref a,u=>u=Value.ref a
 |.ty n,u=>u=Value.type n
abbrev Vals:List V->List Â->Prop:=Paired RelV
theorem Vals.length (r:Vals xs us):xs.length=us.length:=Paired.length r
theorem Vals.get:∀ {xs:List V} {us:List Â} {i:Nat} {x:V},Vals xs us->xs[i]?=some x->∃ u,us[i]?=some u/\RelV x u
 |_,_,_,_,.nil,e=>by simp at e
 |_,_,0,_,.cons r _,e=>by simp at e;subst e;exact⟨_,rfl,r⟩
 |_,_,i+1,x,.cons _ t,e=>by obtain⟨u,h1,h2⟩:=Vals.get (i:=i) (x:=x) t (by simpa using e);exact⟨u,by simpa using h1,h2⟩
theorem Vals.set (r:RelV x u):∀ {xs:List V} {us:List Â} (i:Nat),Vals xs us->Vals (xs.set i x) (us.set i u)
 |_,_,_,.nil=>.nil
 |_,_,0,.cons _ t=>.cons r t
 |_,_,i+1,.cons q t=>.cons q (Vals.set r i t)
theorem Vals.append:∀ {xs ys:List V} {us ws:List Â},Vals xs us->Vals ys ws->Vals (xs++ys) (us++ws)
 |_,_,_,_,.nil,s=>s
 |_,_,_,_,.cons r t,s=>.cons r (Vals.append t s)
theorem Vals.take:∀ {xs:List V} {us:List Â} (n:Nat),Vals xs us->Vals (xs.take n) (us.take n)
 |_,_,0,_=>.nil
 |_,_,_+1,.nil=>.nil
 |_,_,n+1,.cons r t=>.cons r (Vals.take n t)
theorem Vals.drop:∀ {xs:List V} {us:List Â} (n:Nat),Vals xs us->Vals (xs.drop n) (us.drop n)
 |_,_,0,r=>r
 |_,_,_+1,.nil=>.nil
 |_,_,n+1,.cons _ t=>Vals.drop n t
def zcY:Option V->Option Â->Prop
 |some v,some u=>RelV v u
 |none,none=>True
 |_,_=>False
def KV {κ:Type}:List (κ×V)->List (κ×Â)->Prop:=Paired fun (p:κ×V) (q:κ×Â)=>p.1=q.1/\RelV p.2 q.2
def kV:Key->V
 |.inl i=>.int i
 |.inr x=>.str x
inductive HO where
 |lst (xs:List V)
 |tup (xs:List V)
 |dK (kvs:List (Key×V))|dT (kvs:List (List Key×V))
 |set (S:Int->Bool) (n:Nat)
 |ins (C dx:Addr) (fs:List (Str×V))
 |own (x:Addr)
 |xd (fs:List (Str×V))
 |met (f x:Addr)
 |rng (lo hi:Int)
 |frz (o:Obj) (u:HO)
 |tbl (ps:Array Value)
 |ext (φ:Heap->Prop)
abbrev Hp:=Addr->Option HO
def upd (H:Hp)(a:Addr)(o:HO):Hp:=fun b=>if b=a then some o else H b
def zaa {H:Hp}{a:Addr}{o:HO}:upd H a o a=some o:=by unfold upd;rw[if_pos rfl]
def zA {H:Hp}{a b:Addr}{o:HO}(h:b≠a):upd H a o b=H b:=by unfold upd;rw[if_neg h]
def zcU {H:Hp}{o u:HO}(h:H a=some o)(h':H b=some u)(d:o≠u):a≠b:=by intro e;subst e;rw[h]at h';exact d (Option.some.inj h')
def zaI {H:Hp}{o:HO}(h:H a=some o)(h':H b=none):a≠b:=by intro e;subst e;rw[h]at h';cases h'
section
variable (P:Program)(w:World)
def zah (H:Hp)(h:Heap)(a:Addr):HO->Prop
 | .lst xs=>xs.length<=sizeLine/\∃ (its:List Â) (n:Nat),Vals xs its/\h.get? a=some { cls:=.type "list",data:=.seq its.toArray n }
 |.tup xs=>xs.length<=sizeLine/\∃ its:List Â,Vals xs its/\IsTup h a its.toArray
 |.dK kvs=>kvs.length<=sizeLine/\(a==sysModules)=false/\∃ vs,KV kvs vs/\h.DictOf (za7 P w) a vs
 |.dT kvs=>kvs.length<=sizeLine/\(a==sysModules)=false/\∃ xs:List (List Key×Addr×Â),
   Paired (fun (p:List Key×V) (q:List Key×Addr×Â)=>p.1=q.1/\H q.2.1=some (.tup (p.1.map kV))/\RelV p.2 q.2.2) kvs xs /\
   ∃ o es ep,h.get? a=some o/\o.ExactDict/\o.data=.dict es ep/\es.toList=xs.map (entryOfKey (tupleKind (za7 P w)))/\(xs.map (·.1)).Nodup
 |.set S n=>h.SetOf (intKind P w) a S n
 |.ins C dx fs=>H dx=some (.own a)/\fs.length<=1000/\dx≠a/\h.get? a=some (PySem.W.instObj C dx) /\
   ∃ mA,h.Ns1 dx mA/\(∀ f,zcY (fs.lookup f) (mA f))/\PySem.Within mA (fs.map (·.1))
 |.own _=>∃ o,h.get? a=some o
 |.xd fs=>∃ mA,h.Ns1 a mA/\∀ f,zcY (fs.lookup f) (mA f)
 | .rng lo hi=>∃ t u v,h.get? a=some { cls:=.type "range",data:=.fields #[.int lo t,.int hi u,.int 1 v] }
 |.frz o u=>h.get? a=some o/\zah H h a u
 |.tbl ps=>h.get? a=some { cls:=.none,data:=.fields ps }
 |.met f x=>h.get? a=some (PySem.W.methodObj (.ref f) (.ref x))
 |.ext φ=>φ h/\(∃ o,h.get? a=some o)/\∀ h1 h2:Heap,φ h1->(∀ o,h1.get? a=some o->h2.get? a=some o)->φ h2
def HOk (H:Hp)(h:Heap):Prop:=∀ a o,H a=some o->zah P w H h a o
end
section
variable {P:Program}{w:World}{H H':Hp}{h h':Heap}{a:Addr}{o:HO}
theorem zah.lt (x:zah P w H h a o):a<h.objs.size:=by
 cases o with
 |lst xs=>obtain⟨_,_,_,_,e⟩:=x;exact Heap.lt_size e
 |tup xs=>obtain⟨_,_,_,p⟩:=x;exact p.lt
 |dK kvs=>obtain⟨_,_,_,_,o,_,_,e,_⟩:=x;exact Heap.lt_size e
 |dT kvs=>obtain⟨_,_,_,_,o,_,_,e,_⟩:=x;exact Heap.lt_size e
 |set S n=>obtain⟨o,_,_,_,e,_⟩:=x;exact Heap.lt_size e
 |ins C dx fs=>obtain⟨_,_,_,e,_⟩:=x;exact Heap.lt_size e
 |own y=>obtain⟨_,e⟩:=x;exact Heap.lt_size e
 |xd fs=>obtain⟨_,⟨_,_,_,e,_⟩,_⟩:=x;exact Heap.lt_size e
 |rng lo hi=>obtain⟨_,_,_,e⟩:=x;exact Heap.lt_size e
 |frz ob u=>obtain⟨e,_⟩:=x;exact Heap.lt_size e
 |tbl ps=>exact Heap.lt_size (show h.get? a=some _ from x)
 |met f y=>exact Heap.lt_size (show h.get? a=some _ from x)
 |ext φ=>obtain⟨_,⟨_,e⟩,_⟩:=x;exact Heap.lt_size e
theorem Paired.mapP {α β:Type}{F G:α->β->Prop}:∀ {l₁:List α} {l₂:List β},Paired F l₁ l₂->(∀ a b,F a b->G a b)->Paired G l₁ l₂
 |_,_,.nil,_=>.nil
 |_,_,.cons r t,f=>.cons (f _ _ r) (Paired.mapP t f)
def zah.stay (x:zah P w H h a o)(k:∀ b u,(b=a\/H b=some (.own a))->h.get? b=some u->h'.get? b=some u)
  (ho:∀ b,H b=some (.own a)->H' b=some (.own a)) (ht:∀ b xs,H b=some (.tup xs)->H' b=some (.tup xs)):zah P w H' h' a o:=by
 induction o with
 |lst xs=>obtain⟨z,its,n,r,e⟩:=x;exact⟨z,its,n,r,k _ _ (.inl rfl) e⟩
 |tup xs=>obtain⟨z,its,r,ob,e,c⟩:=x;exact⟨z,its,r,ob,k _ _ (.inl rfl) e,c⟩
 |dK kvs=>obtain⟨z,y,vs,r,ob,es,ep,e,c⟩:=x;exact⟨z,y,vs,r,ob,es,ep,k _ _ (.inl rfl) e,c⟩
 |dT kvs =>obtain⟨z,y,xs,r,ob,es,ep,e,c⟩:=x;exact⟨z,y,xs,Paired.mapP r fun p q z=>⟨z.1,ht _ _ z.2.1,z.2.2⟩,ob,es,ep,k _ _ (.inl rfl) e,c⟩
 |set S n=>obtain⟨ob,es,ep,t,e,c⟩:=x;exact⟨ob,es,ep,t,k _ _ (.inl rfl) e,c⟩
 |ins C dx fs =>obtain⟨d,z,ne,e,mA,⟨od,es,ep,e2,c⟩,r⟩:=x;exact⟨ho _ d,z,ne,k _ _ (.inl rfl) e,mA,⟨od,es,ep,k _ _ (.inr d) e2,c⟩,r⟩
 |own y=>obtain⟨ob,e⟩:=x;exact⟨ob,k _ _ (.inl rfl) e⟩
 |xd fs=>obtain⟨mA,⟨od,es,ep,e,c⟩,r⟩:=x;exact⟨mA,⟨od,es,ep,k _ _ (.inl rfl) e,c⟩,r⟩
 |rng lo hi=>obtain⟨t,u,v,e⟩:=x;exact⟨t,u,v,k _ _ (.inl rfl) e⟩
 |frz ob u ih=>obtain⟨e,q⟩:=x;exact⟨k _ _ (.inl rfl) e,ih q⟩
 |tbl ps =>have e:h.get? a=some { cls:=.none,data:=.fields ps }:=x;show h'.get? a=some { cls:=.none,data:=.fields ps };exact k a _ (.inl rfl) e
 |met f y =>have e:h.get? a=some (PySem.W.methodObj (.ref f) (.ref y)):=x;show h'.get? a=some (PySem.W.methodObj (.ref f) (.ref y));exact k a _ (.inl rfl) e
 |ext φ=>obtain⟨p,⟨o,e⟩,st⟩:=x;exact⟨st _ _ p fun o q=>k _ _ (.inl rfl) q,⟨o,k _ _ (.inl rfl) e⟩,st⟩
theorem HOk.lt (x:HOk P w H h)(e:H a=some o):a<h.objs.size:=(x a o e).lt
def HOk.fresh (x:HOk P w H h)(e:h.objs.size<=a):H a=none:=by
 cases q:H a with
 |none=>rfl
 |some u=>exact absurd (Nat.lt_of_lt_of_le (x.lt q) e) (Nat.lt_irrefl _)
def HOk.kept (x:HOk P w H h)(k:∀ b u,h.get? b=some u->h'.get? b=some u):HOk P w H h':=fun a o e =>(x a o e).stay (fun b u _ q=>k b u q) (fun _ q=>q) fun _ _ q=>q
def HOk.laid (x:HOk P w H h)(k:∀ b u,h.get? b=some u->h'.get? b=some u)(hp:h.objs.size<=a)(new:zah P w (upd H a o) h' a o):HOk P w (upd H a o) h':=fun b u e=>by
 have hn:=x.fresh hp;by_cases hb:b=a
 ·subst hb;rw[zaa]at e;cases e;exact new
 ·rw[zA hb]at e;exact(x b u e).stay (fun c v _ q=>k c v q) (fun c q=>by rw[zA (zaI q hn)];exact q) fun c xs q=>by rw[zA (zaI q hn)];exact q
end
def Rd (H:Hp)(a:Addr)(u:HO):Prop:=H a=some u\/∃ o,H a=some (.frz o u)
def Rd.ok (r:Rd H a u)(x:HOk P w H h):zah P w H h a u:=by
 rcases r with r|⟨o,r⟩
 ·exact x a u r
 ·obtain⟨_,q⟩:=x a _ r;exact q
def Mut:Option HO->Prop
 |some (.lst _)=>True
 |some (.dK _)=>True
 |some (.dT _)=>True
 |some (.set _ _)=>True
 |some (.ins _ _ _)=>True
 |some (.ext _)=>True
 |_=>False
section
variable {P:Program}{w:World}{H:Hp}{h h':Heap}{x e:Addr}{o':HO}
def HOk.write (ok:HOk P w H h)(mu:Mut (H x))(he:e=x\/H e=some (.own x))(k:∀ b u,b≠e->h.get? b=some u->h'.get? b=some u)(heo:∃ u,h'.get? e=some u)
  (new:zah P w (upd H x o') h' x o'):HOk P w (upd H x o') h':=fun b u q=>by
 have nown:∀ c y,H c=some (.own y)->c≠x:=fun c y r z=>by subst z;rw[r]at mu;exact mu
 have ntup:∀ c xs,H c=some (.tup xs)->c≠x:=fun c xs r z=>by subst z;rw[r]at mu;exact mu
 by_cases hb:b=x
 ·subst hb;rw[zaa]at q;cases q;exact new
 ·rw[zA hb]at q;by_cases hbe:b=e
  ·have q':H b=some (.own x):=by
    rcases he with z|z
    ·exact absurd (hbe.trans z) hb
    ·rw[hbe];exact z
   rw[q]at q';cases q';obtain⟨v,hv⟩:=heo;exact⟨v,by rw[hbe];exact hv⟩
  ·refine(ok b u q).stay (fun c v hc r=>k c v ?_ r) (fun c r=>by rw[zA (nown c b r)];exact r) fun c xs r=>by rw[zA (ntup c xs r)];exact r
   rcases hc with rfl|hc
   ·exact hbe
   ·rintro rfl;rcases he with z|z
    ·exact nown c b hc z
    ·rw[hc]at z;cases z;exact hb rfl
end
structure Un (fs ex:List Addr)(H H':Hp)(h h':Heap):Prop where
 keep:∀ b o,h.get? b=some o->H b=none->b∉fs->b∉ex->h'.get? b=some o
 slot:∀ b o,h.get? b=some o->H b=none->b∈fs->b∉ex->∃ sl,h'.get? b=some { o with slots:=sl }
 free:∀ b o,h.get? b=some o->H b=none->b∉ex->H' b=none
 there:∀ b o,h.get? b=some o->b∉ex->∃ o',h'.get? b=some o'
 tups:∀ b xs,H b=some (.tup xs)->H' b=some (.tup xs)
 frzs:∀ b o u,H b=some (.frz o u)->H' b=some (.frz o u)
 tbls:∀ b ps,H b=some (.tbl ps)->∃ more,H' b=some (.tbl (ps++more))
section
variable {fs fs' ex ex':List Addr}{H H1 H2:Hp}{h h1 h2 h':Heap}{a x e:Addr}{o:HO}
def Un.any (u:Un fs ex H H1 h h1){b:Addr}{ob:Obj}(q:h.get? b=some ob)(n:H b=none)(hx:b∉ex):∃ sl,h1.get? b=some { ob with slots:=sl }:=by
 by_cases hb:b∈fs
 ·exact u.slot b ob q n hb hx
 ·exact⟨ob.slots,u.keep b ob q n hb hx⟩
def Un.kept (k:∀ b u,h.get? b=some u->h'.get? b=some u):Un fs ex H H h h' :=⟨fun b ob q _ _ _=>k b ob q,fun b ob q _ _ _=>⟨ob.slots,k b ob q⟩,fun _ _ _ n _=>n,fun b ob q _=>⟨ob,k b ob q⟩,fun _ _ q=>q,fun _ _ _ q=>q,fun _ ps q=>⟨#[],by rw[q];simp⟩⟩
def Un.refl:Un fs ex H H h h:=Un.kept fun _ _ q=>q
def Un.laid (k:∀ b u,h.get? b=some u->h'.get? b=some u)(hp:h.objs.size<=a)(hn:H a=none):Un fs ex H (upd H a o) h h' where
 keep:=fun b u q _ _ _=>k b u q
 slot:=fun b u q _ _ _=>⟨u.slots,k b u q⟩
 free:=fun b u q n _=>by rw[zA (Nat.ne_of_lt (Nat.lt_of_lt_of_le (Heap.lt_size q) hp))];exact n
 there:=fun b u q _=>⟨u,k b u q⟩
 tups:=fun b xs q=>by rw[zA (zaI q hn)];exact q
 frzs:=fun b u xs q=>by rw[zA (zaI q hn)];exact q
 tbls:=fun b ps q=>⟨#[],by rw[zA (zaI q hn),q];simp⟩
def Un.write (mu:Mut (H x))(he:e=x\/H e=some (.own x))(k:∀ b u,b≠e->h.get? b=some u->h'.get? b=some u)(heo:∃ u,h'.get? e=some u):Un fs ex H (upd H x o) h h':=by
 have hx:∀ b,H b=none->b≠x:=fun b n z=>by subst z;rw[n]at mu;exact mu
 have hb:∀ b,H b=none->b≠e:=fun b n z=>by
  subst z;rcases he with r|r
  ·exact hx b n r
  ·rw[n]at r;cases r
 have hm:∀ b u,H b=some u->¬ Mut (some u)->b≠x:=fun b u q nm z=>by subst z;rw[q]at mu;exact nm mu
 refine⟨fun b u q n _ _=>k b u (hb b n) q,fun b u q n _ _=>⟨u.slots,k b u (hb b n) q⟩,fun b u q n _=>by rw[zA (hx b n)];exact n,fun b u q _=>?_,
  fun b xs q=>by rw[zA (hm b _ q fun z=>z)];exact q,fun b u xs q=>by rw[zA (hm b _ q fun z=>z)];exact q,fun b ps q=>⟨#[],by rw[zA (hm b _ q fun z=>z),q];simp⟩⟩
 by_cases hbe:b=e
 ·subst hbe;exact heo
 ·exact⟨u,k b u hbe q⟩
end
def trk (h:Heap)(H:Hp):List Addr:=(List.range h.objs.size).filter fun a=>(H a).isSome
def zdy (h:Heap)(H:Hp):Heap:=PySem.W.hideAll h (trk h H)
def zjR (h:Heap)(H:Hp):(zdy h H).objs.size=h.objs.size:=PySem.W.hideAll_size _ _
def zlG {h:Heap}{H:Hp}{b:Addr}{o:Obj}(e:h.get? b=some o)(n:H b=none):(zdy h H).get? b=some o :=
 PySem.W.hideAll_get _ e fun hm=>by have q:(H b).isSome=true:=(List.mem_filter.mp hm).2;rw[n]at q;simp at q
def znz {h:Heap}{H:Hp}{b:Addr}{o:Obj}(e:(zdy h H).get? b=some o):h.get? b=some o/\H b=none:=by
 have e':h.get? b=some o:=PySem.W.of_hideAll (trk h H) e;refine⟨e',?_⟩;cases q:H b with
 |none=>rfl
 |some x =>have hm:b∈trk h H:=List.mem_filter.mpr ⟨List.mem_range.mpr (Heap.lt_size e'),by simp[q]⟩;have z:(zdy h H).get? b=none:=PySem.W.hideAll_none (trk h H) hm;rw[z]at e;cases e
def zns (g h:Heap)(L:Addr):List (Addr×Obj):=(List.range h.objs.size).filterMap fun a=>if a=L\/(g.get? a).isSome=true then none else(h.get? a).map fun o=>(a,o)
def rest (g h:Heap)(L d:Addr):List (Addr×Obj):=(zns g h L).filter fun p=>decide (p.1≠d)
structure Mod (K:À)(mg:Str->Option Â)(base:Heap):Prop where
 kin:K.In base
 glob:base.Ns mainGlobals mg
 blt:∃ mb,base.Ns builtinsNs mb/\∀ x:Str,x≠"__name__"->mb x=bootBuiltins x
 nolimit:base.NoLimit
/-- the context: a def's body (or a comprehension's block) running. base: fixed through the whole law; s₀, H₀: the entry; outer: the frames whose slots others may change (a def's callers); stack: all frames that run;
   ex: iterators that were made ahead of the entry and are walked here (a comprehension's);fn: the names whose cells were made at the entry (a def: all;a comprehension's block: its own);calm: not within an except suite;pn: pins that every state bears;xe: what is wanted of an exception that leaves the code -/
structure Cx where
 prog:Program
 w:World
 K:À
 mg:Str->Option Â
 base:Heap
 A:Around
 N:List Str
 s₀:Á
 H₀:Hp
 env:Env
 outer:List Env
 stack:List Env
 ex:List Addr
 fn:Str->Bool
 calm:Bool
 pn:List (Addr×Obj)
 xe:Â->Á->Prop
def frs (l:List Env):List Addr:=l.filterMap (·.frame)
abbrev Cx.fs (X:Cx):List Addr:=frs X.outer
def Vis (sc:Scope)(x:Str):Prop:=sc.names.lookup x=some .local\/sc.names.lookup x=some .cell\/sc.names.lookup x=some .free
def Loc (sc:Scope)(x:Str):Prop:=sc.names.lookup x=some .local\/sc.names.lookup x=some .cell
def Look (env:Env)(h:Heap)(m:Str->Option Â)(x:Str)(u:Â):Prop :=(env.kindOf x=some .local/\m x=some u)\/((env.kindOf x=some .cell\/env.kindOf x=some .free)/\∃ c,env.cells.lookup x=some c/\h.IsCell c (some u))
structure Cx.Ok (X:Cx):Prop where
 mod:Mod X.K X.mg X.base
 kind:X.env.scope.kind=.function
 glob:X.env.globals=mainGlobals
 blt:X.env.builtins=builtinsNs
 above:X.s₀.heap.objs.size<=X.env.locals
 inj:∀ x y c,X.env.cells.lookup x=some c->X.env.cells.lookup y=some c->x=y
 has:∀ x,(X.env.kindOf x=some .cell\/X.env.kindOf x=some .free)->∃ c,X.env.cells.lookup x=some c
 cab:∀ x c,X.fn x=true->X.env.cells.lookup x=some c->X.s₀.heap.objs.size<=c
 hd:X.calm=true->X.A.handled=none
 frames:X.A.frames=some X.stack
 stk:X.stack=X.outer\/(X.stack=X.env::X.outer/\X.env.frame=some X.env.locals)
 exf:∀ b∈X.ex,b≠X.env.locals/\∀ x c,X.env.cells.lookup x=some c->c≠b
 bs:∀ b o,X.base.get? b=some o->X.s₀.heap.get? b=some o/\X.H₀ b=none
 bsz:X.base.objs.size<=X.s₀.heap.objs.size
 noex:∀ b o,X.base.get? b=some o->b∉X.ex
 exfs:∀ b∈X.ex,b∉X.fs
 funs:X.s₀.heap.FunFrames X.base X.outer
 frf:∀ b∈X.fs,X.H₀ b=none
structure Inv (X:Cx)(pins:List (Addr×Obj))(U:List (Option V))(H:Hp)(s:Á):Prop where
 ok:X.Ok
 os:s.os=X.s₀.os
 bare:AllBare s.gens
 base:Un X.fs X.ex X.H₀ H X.s₀.heap s.heap
 loc:∃ m,s.heap.Ns X.env.locals m/\∀ (i:Nat) (x:Str) (v:V),X.N[i]?=some x->U[i]?=some (some v)->Vis X.env.scope x->∃ u,RelV v u/\Look X.env s.heap m x u
 cell:∀ x c,X.env.cells.lookup x=some c->∃ v,s.heap.IsCell c v
 free:H X.env.locals=none
 freeC:∀ x c,X.env.cells.lookup x=some c->H c=none
 pin:∀ p∈X.pn++pins,s.heap.get? p.1=some p.2/\H p.1=none/\p.1≠X.env.locals/\p.1∉X.fs/\∀ v,p.2.data≠.cell v
 hok:HOk X.prog X.w H s.heap
 len:U.length=X.N.length
section
variable {X:Cx}{pins:List (Addr×Obj)}{U:List (Option V)}{H H':Hp}{s:Á}{h':Heap}
def Cx.Ok.nofr (ok:X.Ok){b:Addr}{o:Obj}(e:X.base.get? b=some o):b∉X.fs:=fun hb=>by have:=(ok.funs.mem hb).1;rw[e]at this;cases this
theorem Inv.bs (I:Inv X pins U H s):∀ b o,X.base.get? b=some o->s.heap.get? b=some o/\H b=none:=fun b o e =>⟨I.base.keep b o (I.ok.bs b o e).1 (I.ok.bs b o e).2 (I.ok.nofr e) (I.ok.noex b o e),I.base.free b o (I.ok.bs b o e).1 (I.ok.bs b o e).2 (I.ok.noex b o e)⟩
def Inv.bk (I:Inv X pins U H s):∀ b o,X.base.get? b=some o->s.heap.get? b=some o:=fun b o e=>(I.bs b o e).1
theorem Inv.mod (I:Inv X pins U H s):Mod X.K X.mg X.base:=I.ok.mod
def Inv.kIn (I:Inv X pins U H s):X.K.In s.heap:=I.ok.mod.kin.keeps I.bk
theorem Inv.lt (I:Inv X pins U H s):X.env.locals<s.heap.objs.size:=by obtain⟨_,hn,_⟩:=I.loc;exact hn.lt
def Inv.sz (I:Inv X pins U H s):X.s₀.heap.objs.size<=s.heap.objs.size:=Nat.le_trans I.ok.above (Nat.le_of_lt I.lt)
def Inv.nofs (I:Inv X pins U H s){a:Addr}(h:s.heap.objs.size<=a):a∉X.fs:=fun hb=>by obtain⟨_,o,ho,_⟩:=I.ok.funs.mem hb;exact absurd (Nat.lt_of_lt_of_le (Heap.lt_size ho) (Nat.le_trans I.sz h)) (Nat.lt_irrefl _)
def Inv.cne (I:Inv X pins U H s):∀ x c,X.env.cells.lookup x=some c->c≠X.env.locals:=fun x c e z=>by obtain⟨v,o,ho,hd⟩:=I.cell x c e;obtain⟨m,⟨o',es,ep,ho',hd',_⟩,_⟩:=I.loc;rw[z,ho']at ho;cases ho;rw[hd']at hd;cases hd
theorem Inv.funs (I:Inv X pins U H s):s.heap.FunFrames X.base X.outer:=by
 have all:∀ (l:List Env),(∀ b∈frs l,b∈X.fs)->X.s₀.heap.FunFrames X.base l->s.heap.FunFrames X.base l:=by
  intro l
  induction l with
  |nil=>intro _ _;trivial
  |cons env r ih =>
   intro hs hl;obtain⟨hk,⟨L,o,hf,hn,ho,hd⟩,hr⟩:=hl;have hL:L∈X.fs:=hs L (by unfold frs;rw[List.filterMap_cons,hf];exact List.mem_cons_self);obtain⟨sl,e⟩:=I.base.slot L o ho (I.ok.frf L hL) hL fun z=>I.ok.exfs L z hL
   exact⟨hk,⟨L,_,hf,hn,e,hd⟩,ih (fun b hb=>hs b (by unfold frs;rw[List.filterMap_cons,hf];exact List.mem_cons_of_mem _ hb)) hr⟩
 exact all X.outer (fun _ hb=>hb) I.ok.funs
theorem Inv.stack (I:Inv X pins U H s):s.heap.FunFrames X.base X.stack:=by
 rcases I.ok.stk with e|⟨e,hf⟩
 ·rw[e];exact I.funs
 ·rw[e];obtain⟨m,hn,_⟩:=I.loc;refine .cons (by rw[I.ok.kind];decide) hf hn ?_ I.funs;exact Heap.get?_none_of_le (Nat.le_trans I.ok.bsz I.ok.above)
def Inv.stkSub (I:Inv X pins U H s):∀ b∈frs X.stack,b∈X.env.locals::X.fs:=fun b hb=>by
 rcases I.ok.stk with e|⟨e,hf⟩
 ·rw[e]at hb;exact List.mem_cons_of_mem _ hb
 ·rw[e]at hb;unfold frs at hb;rw[List.filterMap_cons,hf]at hb;exact hb
def Inv.stkFree (I:Inv X pins U H s):∀ b∈frs X.stack,H b=none:=fun b hb=>by
 rcases List.mem_cons.mp (I.stkSub b hb)with e|hb
 ·rw[e];exact I.free
 ·obtain⟨_,o,ho,_⟩:=I.ok.funs.mem hb;exact I.base.free b o ho (I.ok.frf b hb) fun z=>I.ok.exfs b z hb
def Inv.step {t':Nat}{d':Drawn}{ch:List Addr}(I:Inv X pins U H s)(hch:∀ b∈ch,(b∈X.ex\/X.s₀.heap.objs.size<=b)/\b≠X.env.locals/\(∀ x c,X.env.cells.lookup x=some c->c≠b)/\∀ p∈X.pn++pins,p.1≠b)(keep:∀ b o,b≠X.env.locals->b∉X.fs->b∉ch->s.heap.get? b=some o->H b=none->h'.get? b=some o)(slot:∀ b o,b≠X.env.locals->b∈X.fs->b∉ch->s.heap.get? b=some o->H b=none->∃ sl,h'.get? b=some { o with slots:=sl })(free:∀ b o,b∉ch->s.heap.get? b=some o->H b=none->H' b=none)(there:∀ b o,b∉ch->s.heap.get? b=some o->∃ o',h'.get? b=some o')(tups:∀ b xs,H b=some (.tup xs)->H' b=some (.tup xs))(frzs:∀ b o u,H b=some (.frz o u)->H' b=some (.frz o u))(tbls:∀ b ps,H b=some (.tbl ps)->∃ more,H' b=some (.tbl (ps++more)))(ns:∀ m,s.heap.Ns X.env.locals m->h'.Ns X.env.locals m)(hok:HOk X.prog X.w H' h')(hg:AllBare g') :
  Inv X pins U H' { s with heap:=h',gens:=g',drawn:=d',toks:=t' }:=by
 have neL:∀ b o,X.s₀.heap.get? b=some o->b≠X.env.locals:=fun b o e=>Nat.ne_of_lt (Nat.lt_of_lt_of_le (Heap.lt_size e) I.ok.above)
 have neC:∀ b o,X.s₀.heap.get? b=some o->b∉X.ex->b∉ch:=fun b o e hx hb=>by
  rcases(hch b hb).1 with z|z
  ·exact hx z
  ·exact absurd (Nat.lt_of_lt_of_le (Heap.lt_size e) z) (Nat.lt_irrefl _)
 have cellK:∀ x c,X.env.cells.lookup x=some c->∀ v,s.heap.IsCell c v->h'.IsCell c v:=by
  rintro x c e v ⟨o,ho,hd⟩;have nch:c∉ch:=fun z=>(hch c z).2.2.1 x c e rfl
  by_cases hc:c∈X.fs
  ·obtain⟨sl,q⟩:=slot c o (I.cne x c e) hc nch ho (I.freeC x c e);exact⟨_,q,hd⟩
  ·exact⟨o,keep c o (I.cne x c e) hc nch ho (I.freeC x c e),hd⟩
 refine⟨I.ok,I.os,hg,⟨fun b o e n hb hx=>?_,fun b o e n hb hx=>?_,fun b o e n hx=>?_,fun b o e hx=>?_,fun b xs e=>tups b xs (I.base.tups b xs e),fun b o xs e=>frzs b o xs (I.base.frzs b o xs e),fun b ps e=>?_⟩,?_,fun x c e=>?_,?_,fun x c e=>?_,fun p hp=>?_,hok,I.len⟩
 ·exact keep b o (neL b o e) hb (neC b o e hx) (I.base.keep b o e n hb hx) (I.base.free b o e n hx)
 ·obtain⟨sl,e1⟩:=I.base.slot b o e n hb hx;obtain⟨sl',e2⟩:=slot b _ (neL b o e) hb (neC b o e hx) e1 (I.base.free b o e n hx);exact⟨sl',e2⟩
 ·obtain⟨o',e1⟩:=I.base.there b o e hx;exact free b o' (neC b o e hx) e1 (I.base.free b o e n hx)
 ·obtain⟨o',e1⟩:=I.base.there b o e hx;exact there b o' (neC b o e hx) e1
 ·obtain⟨m1,e1⟩:=I.base.tbls b ps e;obtain⟨m2,e2⟩:=tbls b _ e1;exact⟨m1++m2,by rw[e2,Array.append_assoc]⟩
 ·obtain⟨m,hn,hl⟩:=I.loc;refine⟨m,ns m hn,fun i x v e1 e2 e3=>?_⟩;obtain⟨u,r,l⟩:=hl i x v e1 e2 e3;refine⟨u,r,?_⟩;rcases l with l|⟨k,c,e,z⟩
  ·exact .inl l
  ·exact .inr ⟨k,c,e,cellK x c e _ z⟩
 ·obtain⟨v,z⟩:=I.cell x c e;exact⟨v,cellK x c e v z⟩
 ·obtain⟨m,⟨o,_,_,ho,_⟩,_⟩:=I.loc;exact free _ o (fun z=>(hch _ z).2.1 rfl) ho I.free
 ·obtain⟨v,o,ho,hd⟩:=I.cell x c e;exact free c o (fun z=>(hch c z).2.2.1 x c e rfl) ho (I.freeC x c e)
 ·obtain⟨e,n,ne,nf,d⟩:=I.pin p hp;have nch:p.1∉ch:=fun z=>(hch p.1 z).2.2.2 p hp rfl
  exact⟨keep p.1 p.2 ne nf nch e n,free p.1 p.2 nch e n,ne,nf,d⟩
def Inv.un {t':Nat}(I:Inv X pins U H s)(u:Un X.fs [] H H' s.heap h')(hok:HOk X.prog X.w H' h'):Inv X pins U H' { s with heap:=h',toks:=t' }:=by
 obtain⟨m,⟨o,es,ep,ho,r⟩,_⟩:=id I.loc;obtain⟨sl,hL⟩:=u.any ho I.free (by simp)
 exact I.step (g':=s.gens) (d':=s.drawn) (ch:=[]) (fun _ z=>nomatch z) (fun b o _ hb _ e n=>u.keep b o e n hb (by simp)) (fun b o _ hb _ e n=>u.slot b o e n hb (by simp)) (fun b o _ e n=>u.free b o e n (by simp)) (fun b o _ e=>u.there b o e (by simp)) u.tups u.frzs u.tbls (fun m' hm=>by obtain⟨o',es',ep',ho',r'⟩:=hm;rw[ho]at ho';cases ho';exact⟨_,es',ep',hL,r'⟩) hok I.bare
def Inv.call {t':Nat}{d':Drawn}(I:Inv X pins U H s)(u:Un (frs X.stack) ch H H' s.heap h')(hok:HOk X.prog X.w H' h')(hg:AllBare g')(hch:∀ b∈ch,(b∈X.ex\/X.s₀.heap.objs.size<=b)/\b≠X.env.locals/\(∀ x c,X.env.cells.lookup x=some c->c≠b)/\∀ p∈X.pn++pins,p.1≠b) :
  Inv X pins U H' { s with heap:=h',gens:=g',drawn:=d',toks:=t' }:=by
 obtain⟨m,⟨o,es,ep,ho,r⟩,_⟩:=id I.loc;obtain⟨sl,hL⟩:=u.any ho I.free fun z=>(hch _ z).2.1 rfl
 exact I.step (ch:=ch) hch (fun b o hL hb hc e n=>u.keep b o e n (fun z=>(List.mem_cons.mp (I.stkSub b z)).elim hL hb) hc) (fun b o _ _ hc e n=>u.any e n hc) (fun b o hc e n=>u.free b o e n hc) (fun b o hc e=>u.there b o e hc) u.tups u.frzs u.tbls (fun m' hm=>by obtain⟨o',es',ep',ho',r'⟩:=hm;rw[ho]at ho';cases ho';exact⟨_,es',ep',hL,r'⟩) hok hg
def Inv.turned {t':Nat}{it:Addr}(I:Inv X pins U H s)(k:∀ b o,b≠it->s.heap.get? b=some o->h'.get? b=some o)(hn:H it=none)(hL:it≠X.env.locals)
  (h1:it∈X.ex\/X.s₀.heap.objs.size<=it) (h2:∀ x c,X.env.cells.lookup x=some c->c≠it) (h3:∀ p∈X.pn++pins,p.1≠it):Inv X pins U H { s with heap:=h',toks:=t' }:=by
 have nit:∀ b u,H b=some u->b≠it:=fun b u e z=>by rw[z,hn]at e;cases e
 refine I.step (g':=s.gens) (d':=s.drawn) (ch:=[it]) (fun b hb=>?_) (fun b o _ _ hc e _=>k b o (fun z=>hc (by simp[z])) e) (fun b o _ _ hc e _=>⟨o.slots,k b o (fun z=>hc (by simp[z])) e⟩) (fun _ _ _ _ n=>n)
  (fun b o hc e=>⟨o,k b o (fun z=>hc (by simp[z])) e⟩) (fun _ _ e=>e) (fun _ _ _ e=>e) (fun b ps e=>⟨#[],by rw[e];simp⟩) (fun m hm=>?_) (fun b u e=>?_) I.bare
 ·have e:b=it:=by simpa using hb
  subst e;exact⟨h1,hL,h2,h3⟩
 ·obtain⟨o,es,ep,ho,r⟩:=hm;exact⟨o,es,ep,k _ o (Ne.symm hL) ho,r⟩
 ·refine(I.hok b u e).stay (fun c v hc q=>k c v ?_ q) (fun _ q=>q) fun _ _ q=>q
  rcases hc with z|z
  ·rw[z];exact nit b u e
  ·exact nit c _ z
def Inv.tok (I:Inv X pins U H s)(t:Nat):Inv X pins U H { s with toks:=t }:=I.un (h':=s.heap) (t':=t) Un.refl I.hok
theorem Inv.kept {t':Nat}(I:Inv X pins U H s)(k:∀ b u,s.heap.get? b=some u->h'.get? b=some u):Inv X pins U H { s with heap:=h',toks:=t' }:=I.un (Un.kept k) (I.hok.kept k)
theorem Inv.laid {a:Addr}{o:HO}{t':Nat}(I:Inv X pins U H s)(k:∀ b u,s.heap.get? b=some u->h'.get? b=some u)(hp:s.heap.objs.size<=a)(new:zah X.prog X.w (upd H a o) h' a o) :
  Inv X pins U (upd H a o) { s with heap:=h',toks:=t' }:=I.un (Un.laid k hp (I.hok.fresh hp)) (I.hok.laid k hp new)
theorem Inv.write {x e:Addr}{o:HO}{t':Nat}(I:Inv X pins U H s)(mu:Mut (H x))(he:e=x\/H e=some (.own x))(k:∀ b u,b≠e->s.heap.get? b=some u->h'.get? b=some u)(heo:∃ u,h'.get? e=some u)
  (new:zah X.prog X.w (upd H x o) h' x o):Inv X pins U (upd H x o) { s with heap:=h',toks:=t' }:=I.un (Un.write mu he k heo) (I.hok.write mu he k heo new)
def Inv.weak {σ':List (Option V)}(I:Inv X pins U H s)(hl:σ'.length=U.length)(w:∀ (i:Nat) v,σ'[i]?=some (some v)->U[i]?=some (some v)):Inv X pins σ' H s :=⟨I.ok,I.os,I.bare,I.base,by obtain⟨m,hn,hl'⟩:=I.loc;exact⟨m,hn,fun i x v e1 e2 e3=>hl' i x v e1 (w i v e2) e3⟩,I.cell,I.free,I.freeC,I.pin,I.hok,hl.trans I.len⟩
def Inv.pins_of {pins':List (Addr×Obj)}(I:Inv X pins U H s)(h:∀ p∈pins',s.heap.get? p.1=some p.2/\H p.1=none/\p.1≠X.env.locals/\p.1∉X.fs/\∀ v,p.2.data≠.cell v):Inv X pins' U H s :=⟨I.ok,I.os,I.bare,I.base,I.loc,I.cell,I.free,I.freeC,fun p hp=>(List.mem_append.mp hp).elim (fun z=>I.pin p (List.mem_append_left _ z)) (h p),I.hok,I.len⟩
def zeV {N:List Str}(hN:N.Nodup){i j:Nat}{x:Str}(a:N[i]?=some x)(b:N[j]?=some x):i=j:=by obtain⟨h1,e1⟩:=List.getElem?_eq_some_iff.mp a;obtain⟨h2,e2⟩:=List.getElem?_eq_some_iff.mp b;exact(List.getElem_inj hN).mp (e1.trans e2.symm)
def zgg {M:Model}{A:Around}{E:Â->Á->Prop}{i:Nat}{x:Str}{Q:Unit->Á->Prop}(I:Inv X pins U H s)(hN:X.N.Nodup)(hi:X.N[i]?=some x)(hx:Loc X.env.scope x)(r:RelV v u)(h:∀ s',Inv X pins (U.set i (some v)) H s'->(∃ a,Heap.SameBut a s.heap s'.heap/\(a=X.env.locals\/X.env.cells.lookup x=some a))->Q () s')(hf:autoParam (X.fn x=true\/X.env.scope.names.lookup x=some .local) zdr):wpAny M A (storeName X.env x u) Q E s:=by
 obtain⟨m,hn,hl⟩:=id I.loc;have hcls:(X.env.scope.kind==.class||(X.env.scope.kind==.module&&X.env.locals != X.env.globals))=false:=by rw[I.ok.kind];rfl
 have hiσ:i<U.length:=by rw[I.len];exact(List.getElem?_eq_some_iff.mp hi).1
 have cne:=I.cne
 have tracked:∀ {a:Addr} {h':Heap},(∃ o,s.heap.get? a=some o/\H a=none)->Heap.SameBut a s.heap h'->HOk X.prog X.w H h':=fun {a h'} ha hs b ob e=>by
  obtain⟨_,_,hfree⟩:=ha;refine(I.hok b ob e).stay (fun c w' hc q=>(hs.2 c ?_).trans q) (fun _ q=>q) fun _ _ q=>q
  rintro rfl;rcases hc with rfl|hc
  ·rw[hfree]at e;cases e
  ·rw[hfree]at hc;cases hc
 rcases hx with hk|hk
 ·refine wpAny_storeName_local hk hn (fun h' hn' hs=>?_) hcls;obtain⟨oL,_,_,hoL,_⟩:=id hn;refine h _ ⟨I.ok,I.os,I.bare,⟨fun b o e n hb hx=>?_,fun b o e n hb hx=>?_,I.base.free,fun b o e hx=>?_,I.base.tups,I.base.frzs,I.base.tbls⟩,⟨_,hn',fun j y v' e1 e2 e3=>?_⟩,fun y c e=>?_,I.free,I.freeC,fun p hp=>?_,tracked ⟨oL,hoL,I.free⟩ hs,by simpa using I.len⟩ ⟨_,hs,.inl rfl⟩
  ·exact(hs.2 b (Nat.ne_of_lt (Nat.lt_of_lt_of_le (Heap.lt_size e) I.ok.above))).trans (I.base.keep b o e n hb hx)
  ·obtain⟨sl,e1⟩:=I.base.slot b o e n hb hx;exact⟨sl,(hs.2 b (Nat.ne_of_lt (Nat.lt_of_lt_of_le (Heap.lt_size e) I.ok.above))).trans e1⟩
  ·obtain⟨o',e1⟩:=I.base.there b o e hx;exact⟨o',(hs.2 b (Nat.ne_of_lt (Nat.lt_of_lt_of_le (Heap.lt_size e) I.ok.above))).trans e1⟩
  ·by_cases hj:j=i
   ·subst hj;rw[hi]at e1;cases e1;rw[List.getElem?_set_self hiσ]at e2;cases e2;exact⟨u,r,.inl ⟨hk,by simp⟩⟩
   ·rw[List.getElem?_set_ne (Ne.symm hj)]at e2;obtain⟨u',r',q⟩:=hl j y v' e1 e2 e3;refine⟨u',r',?_⟩;rcases q with⟨k,e⟩|⟨k,c,e,z⟩
    ·refine .inl ⟨k,?_⟩;have:y≠x:=fun e=>hj (zeV hN e1 (e▸hi))
     simp[this,e]
    ·exact .inr ⟨k,c,e,z.sameBut hs (cne y c e)⟩
  ·obtain⟨w',z⟩:=I.cell y c e;exact⟨w',z.sameBut hs (cne y c e)⟩
  ·obtain⟨e,n,ne,nf,d⟩:=I.pin p hp;exact⟨(hs.2 p.1 ne).trans e,n,ne,nf,d⟩
 ·have hfn:X.fn x=true:=by
   rcases hf with z|z
   ·exact z
   ·rw[z]at hk;cases hk
  obtain⟨c,hc⟩:=I.ok.has x (.inl hk);obtain⟨w',z⟩:=I.cell x c hc;refine wpAny_storeName_cell I.ok.kind hk hc z (fun h' hc' hs=>?_);obtain⟨oc,hoc,hocd⟩:=id z;refine h { s with heap:=h' } ⟨I.ok,I.os,I.bare,⟨fun b o e n hb hx=>?_,fun b o e n hb hx=>?_,I.base.free,fun b o e hx=>?_,I.base.tups,I.base.frzs,I.base.tbls⟩,⟨m,hn.sameBut hs (Ne.symm (cne x c hc)),fun j y v' e1 e2 e3=>?_⟩,fun y c' e=>?_,I.free,I.freeC,fun p hp=>?_,tracked ⟨oc,hoc,I.freeC x c hc⟩ hs,by simpa using I.len⟩ ⟨c,hs,.inr hc⟩
  ·exact(hs.2 b (Nat.ne_of_lt (Nat.lt_of_lt_of_le (Heap.lt_size e) (I.ok.cab x c hfn hc)))).trans (I.base.keep b o e n hb hx)
  ·obtain⟨sl,e1⟩:=I.base.slot b o e n hb hx;exact⟨sl,(hs.2 b (Nat.ne_of_lt (Nat.lt_of_lt_of_le (Heap.lt_size e) (I.ok.cab x c hfn hc)))).trans e1⟩
  ·obtain⟨o',e1⟩:=I.base.there b o e hx;exact⟨o',(hs.2 b (Nat.ne_of_lt (Nat.lt_of_lt_of_le (Heap.lt_size e) (I.ok.cab x c hfn hc)))).trans e1⟩
  ·by_cases hj:j=i
   ·subst hj;rw[hi]at e1;cases e1;rw[List.getElem?_set_self hiσ]at e2;cases e2;exact⟨u,r,.inr ⟨.inl hk,c,hc,hc'⟩⟩
   ·rw[List.getElem?_set_ne (Ne.symm hj)]at e2;obtain⟨u',r',q⟩:=hl j y v' e1 e2 e3;refine⟨u',r',?_⟩;rcases q with q|⟨k,c',e,z'⟩
    ·exact .inl q
    ·refine .inr ⟨k,c',e,z'.sameBut hs ?_⟩;rintro rfl;exact hj (zeV hN e1 (I.ok.inj _ _ _ e hc▸hi))
  ·by_cases hcc:c'=c
   ·subst hcc;exact⟨_,hc'⟩
   ·obtain⟨w2,z2⟩:=I.cell y c' e;exact⟨w2,z2.sameBut hs hcc⟩
  ·obtain⟨e,n,ne,nf,d⟩:=I.pin p hp;refine⟨(hs.2 p.1 ?_).trans e,n,ne,nf,d⟩;intro q;rw[q,hoc]at e;have q':oc=p.2:=Option.some.inj e;exact d w' (by rw[<- q'];exact hocd)
def zdC {M:Model}{A:Around}{E:Â->Á->Prop}{i:Nat}{x:Str}{Q:Unit->Á->Prop}(I:Inv X pins U H s)(hN:X.N.Nodup)(hi:X.N[i]?=some x)(hx:Loc X.env.scope x)(r:RelV v u)(h:∀ s',Inv X pins (U.set i (some v)) H s'->Q () s')(hf:autoParam (X.fn x=true\/X.env.scope.names.lookup x=some .local) zdr):wpAny M A (storeName X.env x u) Q E s :=zgg I hN hi hx r (fun s' I' _=>h s' I') hf
def Inv.call' {s':Á}(I:Inv X pins U H s)(ho:s'.os=s.os)(u:Un (frs X.stack) ch H H' s.heap s'.heap)(hok:HOk X.prog X.w H' s'.heap)(hg:AllBare s'.gens)(hch:∀ b∈ch,(b∈X.ex\/X.s₀.heap.objs.size<=b)/\b≠X.env.locals/\(∀ x c,X.env.cells.lookup x=some c->c≠b)/\∀ p∈X.pn++pins,p.1≠b):Inv X pins U H' s':=by obtain⟨h',g',d',t',o'⟩:=s';have e:o'=s.os:=ho;subst e;exact I.call (g':=g') (t':=t') (d':=d') u hok hg hch
end
abbrev XK:=Â->Option Addr->Hp->Prop
abbrev St:=List (Option V)
abbrev VK:=V->Hp->Prop
abbrev TE:=St->Hp->VK->Prop
abbrev TT:=St->Hp->(Bool->Hp->Prop)->Prop
abbrev TA:=St->Hp->(List V->Hp->Prop)->Prop
structure Ends where
 nx:St->Hp->Prop
 rt:VK
 bk:St->Hp->Prop:=fun _ _=>False
 ct:St->Hp->Prop:=fun _ _=>False
abbrev TS:=Ends->St->Hp->Prop
def EP (X:Cx)(pins:List (Addr×Obj))(U:St)(Q:VK)(u:Â)(s':Á):Prop:=∃ v H',Inv X pins U H' s'/\RelV v u/\Q v H'
def TP (X:Cx)(pins:List (Addr×Obj))(U:St)(Q:Bool->Hp->Prop)(b:Bool)(s':Á):Prop:=∃ H',Inv X pins U H' s'/\Q b H'
def AP (X:Cx)(pins:List (Addr×Obj))(U:St)(Q:List V->Hp->Prop)(us:List Â)(s':Á):Prop:=∃ vs H',Inv X pins U H' s'/\Vals vs us/\Q vs H'
def SP (X:Cx)(pins:List (Addr×Obj))(D:Ends)(f:Flow)(s':Á):Prop :=
 match f with
 |.next=>∃ σ' H',Inv X pins σ' H' s'/\D.nx σ' H'
 |.brk=>∃ σ' H',Inv X pins σ' H' s'/\D.bk σ' H'
 |.cont=>∃ σ' H',Inv X pins σ' H' s'/\D.ct σ' H'
 |.ret u=>∃ v σ' H',Inv X pins σ' H' s'/\RelV v u/\D.rt v H'
def PE (X:Cx)(e:Expr)(t:TE):Prop :=∀ (pins:List (Addr×Obj)) (s:Á) (U:St) (H:Hp) (Q:VK),Inv X pins U H s->t U H Q->wpAny (model X.prog X.w) X.A (eval e X.env) (EP X pins U Q) X.xe s
def PT (X:Cx)(e:Expr)(t:TT):Prop :=∀ (pins:List (Addr×Obj)) (s:Á) (U:St) (H:Hp) (Q:Bool->Hp->Prop),Inv X pins U H s->t U H Q->wpAny (model X.prog X.w) X.A (isTrue e X.env (eval e X.env)) (TP X pins U Q) X.xe s
def PW (X:Cx)(e:Expr)(t:TT):Prop :=∀ (whole:Sem Â) (pins:List (Addr×Obj)) (s:Á) (U:St) (H:Hp) (Q:Bool->Hp->Prop),Inv X pins U H s->t U H Q->wpAny (model X.prog X.w) X.A (isTrue e X.env whole) (TP X pins U Q) X.xe s
def PA (X:Cx)(es:List Expr)(t:TA):Prop :=∀ (pos:Pos) (pins:List (Addr×Obj)) (s:Á) (U:St) (H:Hp) (Q:List V->Hp->Prop),Inv X pins U H s->t U H Q->wpAny (model X.prog X.w) X.A (spliced (backTo pos (starEach es X.env))) (AP X pins U Q) X.xe s
def PS (X:Cx)(st:Stmt)(t:TS):Prop :=∀ (pins:List (Addr×Obj)) (s:Á) (U:St) (H:Hp) (D:Ends),Inv X pins U H s->t D U H->wpAny (model X.prog X.w) X.A (exec st X.env) (SP X pins D) X.xe s
def PSs (X:Cx)(st:List Stmt)(t:TS):Prop :=∀ (pins:List (Addr×Obj)) (s:Á) (U:St) (H:Hp) (D:Ends),Inv X pins U H s->t D U H->wpAny (model X.prog X.w) X.A (execs st X.env) (SP X pins D) X.xe s
def thn {α:Type}{t:Sem α}{Q Q':α->Á->Prop}{M:Model}{A:Around}{E:Â->Á->Prop}{s:Á}(h:wpAny M A t Q E s)(hQ:∀ a s,Q a s->Q' a s):wpAny M A t Q' E s:=wpAny_mono h hQ fun _ _ x=>x
section
variable {X:Cx}
def zpP (i:Nat):TE:=fun U H Q=>∃ v,U[i]?=some (some v)/\Q v H
def tC (v:V):TE:=fun _ H Q=>Q v H
def zpC {i:Nat}{x:Str}{pos:Pos}(hN:X.N[i]?=some x)(hv:Vis X.env.scope x)(hd:autoParam ((x==("__debug__":Str))=false) zG)(hcd:autoParam ((x==("__classdict__":Str))=false) zG):PE X (.Name x pos) (zpP i):=by
 intro pins s U H Q I h;obtain⟨v,e,h⟩:=h;obtain⟨m,hn,hl⟩:=I.loc;obtain⟨u,r,l⟩:=hl i x v hN e hv;have fin:EP X pins U Q u s:=⟨v,H,I,r,h⟩
 rcases l with⟨hk,hm⟩|⟨hk,c,hc,hcell⟩
 ·exact wpAny_Name (wpAny_loadName_local I.ok.kind hk hn hm fin) hd
 ·rcases hk with hk|hk
  ·exact wpAny_Name (wpAny_loadName_cell I.ok.kind hk hc hcell fin) hd
  ·exact wpAny_Name (wpAny_loadName_free I.ok.kind hk hc hcell fin hcd) hd
def zhP {i j pos}:PE X (.Constant (.int i) j pos) (tC (.int i)):=fun _ _ _ H _ I h=>wpAny_Constant_int ⟨.int i,H,I.tok _,⟨_,rfl⟩,h⟩
def ztz {b j pos}:PE X (.Constant (.bool b) j pos) (tC (.bl b)):=fun _ _ _ H _ I h=>Constant_bool ⟨.bl b,H,I,rfl,h⟩
def zqP {j pos}:PE X (.Constant .none j pos) (tC .non):=fun _ _ _ H _ I h=>Constant_none ⟨.non,H,I,rfl,h⟩
def zp4 {x j pos}:PE X (.Constant (.str x) j pos) (tC (.str x)):=fun _ _ _ H _ I h=>Calls.Constant_str ⟨.str x,H,I.tok _,⟨_,rfl⟩,h⟩
def Gl (X:Cx)(x:Str):Prop:=X.env.kindOf x=some .globalImplicit
def zbB {E:Â->Á->Prop}{u:Â}{pos:Pos}{Q:Â->Á->Prop}(I:Inv X pins U H s)(hg:Gl X x)(hm:X.mg x=some u)(h:Q u s)(hd:autoParam ((x==("__debug__":Str))=false) zG):wpAny (model X.prog X.w) X.A (eval (.Name x pos) X.env) Q E s :=Calls.Name_function_global I.ok.kind hg (Calls.loadGlobal_global (by rw[I.ok.glob];exact I.mod.glob.keeps I.bk) hm h) hd
def zbq {E:Â->Á->Prop}{u:Â}{pos:Pos}{Q:Â->Á->Prop}(I:Inv X pins U H s)(hg:Gl X x)(hm:X.mg x=none)(hv:bootBuiltins x=some u)(h:Q u s)(hn:autoParam (x≠"__name__") zG)(hd:autoParam ((x==("__debug__":Str))=false) zG):wpAny (model X.prog X.w) X.A (eval (.Name x pos) X.env) Q E s:=by obtain⟨mb,h1,h2⟩:=I.mod.blt;exact Calls.Name_function_global I.ok.kind hg (Calls.loadGlobal_builtin (by rw[I.ok.glob];exact I.mod.glob.keeps I.bk) hm (by rw[I.ok.blt];exact h1.keeps I.bk) ((h2 x hn).trans hv) h) hd
def zit {u:Â}{pos:Pos}(hg:Gl X x)(hm:X.mg x=some u)(r:RelV v u)(hd:autoParam ((x==("__debug__":Str))=false) zG):PE X (.Name x pos) (tC v) :=fun _ _ _ H _ I h=>zbB I hg hm ⟨v,H,I,r,h⟩ hd
def zn5 {u:Â}{pos:Pos}(hg:Gl X x)(hm:X.mg x=none)(hv:bootBuiltins x=some u)(r:RelV v u)(hn:autoParam (x≠"__name__") zG)(hd:autoParam ((x==("__debug__":Str))=false) zG):PE X (.Name x pos) (tC v) :=fun _ _ _ H _ I h=>zbq I hg hm hv ⟨v,H,I,r,h⟩ hn hd
variable {a b:Expr}{ta tb:TE}{pos:Pos}
def tB (t:TE):TT:=fun U H Q=>t U H fun x H1=>∃ c,x=.bl c/\Q c H1
def zqd {e:Expr}(h:PE X e t)(he:autoParam (∀ whole,isTrue e X.env whole=(do let v <- whole;standAt e.pos;holding [v] (truthy v))) zeB):PT X e (tB t):=by intro pins s U H Q I hw;refine isTrue_plain (thn (h pins s U H _ I hw) fun v s1 ⟨x,H1,I1,r1,q1⟩=>?_) (he _);obtain⟨d,rfl,q⟩:=q1;cases r1;exact wpAny_truthy_bool ⟨H1,I1,q⟩
variable {tA tB':TT}{rest:List Expr}
def zuE (t u:TT):TT:=fun U H Q=>t U H fun c H1=>if c=true then u U H1 Q else Q false H1
def tOr (t u:TT):TT:=fun U H Q=>t U H fun c H1=>if c=true then Q true H1 else u U H1 Q
def zuF (t:TT):TT:=fun U H Q=>t U H fun c H1=>Q (!c) H1
def znk (ha:PT X a tA):PW X (.BoolOp .And [a] pos) tA:=by
 intro wh pins s U H Q I h;refine isTrue_and (thn (ha pins s U H Q I h) fun c s1 e=>?_);cases c with
 |true=>exact isTrue_and_nil e
 |false=>exact e
def zrl (ha:PT X a tA):PW X (.BoolOp .Or [a] pos) tA:=by
 intro wh pins s U H Q I h;refine isTrue_or (thn (ha pins s U H Q I h) fun c s1 e=>?_);cases c with
 |false=>exact isTrue_or_nil e
 |true=>exact e
def zpH (ha:PT X a tA)(hb:PW X (.BoolOp .And (b::rest) pos) tB'):PW X (.BoolOp .And (a::b::rest) pos) (zuE tA tB'):=by
 intro wh pins s U H Q I h;refine isTrue_and (thn (ha pins s U H _ I h) fun c s1 ⟨H1,I1,q1⟩=>?_);cases c with
 |true=>exact hb wh pins s1 U H1 Q I1 q1
 |false=>exact⟨H1,I1,q1⟩
def zsj (ha:PT X a tA)(hb:PW X (.BoolOp .Or (b::rest) pos) tB'):PW X (.BoolOp .Or (a::b::rest) pos) (tOr tA tB'):=by
 intro wh pins s U H Q I h;refine isTrue_or (thn (ha pins s U H _ I h) fun c s1 ⟨H1,I1,q1⟩=>?_);cases c with
 |true=>exact⟨H1,I1,q1⟩
 |false=>exact hb wh pins s1 U H1 Q I1 q1
def zro (ha:PT X a tA):PT X (.UnaryOp .Not a pos) (zuF tA):=by intro pins s U H Q I h;exact isTrue_not (ha pins s U H (fun c H1=>Q (!c) H1) I h)
def zsI (ta tb:TE):TE:=fun U H Q=>ta U H fun x H1=>∃ c,x=.bl c/\if c=true then tb U H1 Q else Q (.bl false) H1
def zuS (ta tb:TE):TE:=fun U H Q=>ta U H fun x H1=>∃ c,x=.bl c/\if c=true then Q (.bl true) H1 else tb U H1 Q
def zsL (ta:TE):TE:=fun U H Q=>ta U H fun x H1=>∃ c,x=.bl c/\Q (.bl (!c)) H1
def zo9 {op}(h:PE X a t):PE X (.BoolOp op [a] pos) t:=fun pins s U H Q I hw=>BoolOp_one (h pins s U H Q I hw)
def zqn (ha:PE X a ta)(hb:PE X (.BoolOp .And (b::rest) pos) tb):PE X (.BoolOp .And (a::b::rest) pos) (zsI ta tb):=by
 intro pins s U H Q I h;refine BoolOp_and (thn (ha pins s U H _ I h) fun v s1 ⟨x,H1,I1,r1,q1⟩=>?_);obtain⟨c,rfl,q1⟩:=q1;cases r1;refine wpAny_truthy_bool ?_;cases c with
 |true=>exact hb pins s1 U H1 Q I1 q1
 |false=>exact⟨.bl false,H1,I1,rfl,q1⟩
def zsH (ha:PE X a ta)(hb:PE X (.BoolOp .Or (b::rest) pos) tb):PE X (.BoolOp .Or (a::b::rest) pos) (zuS ta tb):=by
 intro pins s U H Q I h;refine BoolOp_or (thn (ha pins s U H _ I h) fun v s1 ⟨x,H1,I1,r1,q1⟩=>?_);obtain⟨c,rfl,q1⟩:=q1;cases r1;refine wpAny_truthy_bool ?_;cases c with
 |false=>exact hb pins s1 U H1 Q I1 q1
 |true=>exact⟨.bl true,H1,I1,rfl,q1⟩
def zqc (ha:PE X a ta):PE X (.UnaryOp .Not a pos) (zsL ta):=by intro pins s U H Q I h;refine UnaryOp_ (thn (ha pins s U H _ I h) fun v s1 ⟨x,H1,I1,r1,q1⟩=>?_);obtain⟨c,rfl,q1⟩:=q1;cases r1;exact not_of (wpAny_truthy_bool ⟨.bl (!c),H1,I1,rfl,q1⟩)
def tIf (t:TT)(ta tb:TE):TE:=fun U H Q=>t U H fun c H1=>if c=true then ta U H1 Q else tb U H1 Q
def zlT (hc:PT X c tA)(ha:PE X a ta)(hb:PE X b tb):PE X (.IfExp c a b pos) (tIf tA ta tb):=by
 intro pins s U H Q I h;refine wpAny_IfExp (thn (hc pins s U H _ I h) fun d s1 ⟨H1,I1,q1⟩=>?_);cases d with
 |true=>exact ha pins s1 U H1 Q I1 q1
 |false=>exact hb pins s1 U H1 Q I1 q1
end
def SqL (K:À)(H:Hp)(a:Addr)(xs:List V):Prop :=
 Rd H a (.lst xs) \/
  ∃ (o:Obj) (its:Array Â) (n:Nat),K.lookup a=some o/\o.cls=.type "list"/\o.dict=none/\o.data=.seq its n/\its.size<=sizeLine/\Vals xs its.toList
def SqT (K:À)(H:Hp)(a:Addr)(xs:List V):Prop :=
 Rd H a (.tup xs) \/
  ∃ (o:Obj) (its:Array Â) (n:Nat),K.lookup a=some o/\o.cls=.type "tuple"/\o.data=.seq its n/\its.size<=sizeLine/\Vals xs its.toList
def zuQ:Â->Option V
 |.none=>some .non
 |.bool b=>some (.bl b)
 |.int i _=>some (.int i)
 |.str x _=>some (.str x)
 |.bytes b _=>some (.byt b)
 |.float b _=>some (.flt b)
 |.ref a=>some (.ref a)
 |.type n=>some (.ty n)
 |_=>none
def RelV.abs (r:RelV x u):zuQ u=some x:=by
 cases x with
 |non=>cases r;rfl
 |bl _=>cases r;rfl
 |int _=>obtain⟨t,rfl⟩:=r;rfl
 |str _=>obtain⟨t,rfl⟩:=r;rfl
 |byt _=>obtain⟨t,rfl⟩:=r;rfl
 |flt _=>obtain⟨t,rfl⟩:=r;rfl
 |ref _=>cases r;rfl
 |ty _=>cases r;rfl
theorem RelV.inj (r:RelV x u)(q:RelV y u):x=y:=Option.some.inj (r.abs.symm.trans q.abs)
theorem Vals.inj:∀ {xs ys:List V} {us:List Â},Vals xs us->Vals ys us->xs=ys
 |_,_,_,.nil,.nil=>rfl
 |_,_,_,.cons r t,.cons r' t'=>by rw[r.inj r',Vals.inj t t']
section
variable {X:Cx}{pins:List (Addr×Obj)}{U:St}{H:Hp}{s:Á}{a:Addr}{xs ys:List V}
def SqL.of {K:À}(h:H a=some (.lst xs)):SqL K H a xs:=.inl (.inl h)
def SqT.of {K:À}(h:H a=some (.tup xs)):SqT K H a xs:=.inl (.inl h)
def Inv.list (I:Inv X pins U H s)(h:SqL X.K H a xs):∃ its:List Â,Vals xs its/\PlainL s.heap a its.toArray/\xs.length<=sizeLine:=by
 rcases h with h|⟨o,its,n,hk,hc,hd,hs,hz,r⟩
 ·obtain⟨z,its,n,r,e⟩:=h.ok I.hok;exact⟨its,r,⟨_,n,e,rfl,rfl,rfl⟩,z⟩
 ·refine⟨its.toList,r,⟨o,n,I.kIn a o hk,hc,hd,by simpa using hs⟩,?_⟩;have e:=r.length;simp only[Array.length_toList]at e;lia
def Inv.tuple (I:Inv X pins U H s)(h:SqT X.K H a xs):∃ its:List Â,Vals xs its/\IsTup s.heap a its.toArray/\xs.length<=sizeLine:=by
 rcases h with h|⟨o,its,n,hk,hc,hs,hz,r⟩
 ·obtain⟨z,its,r,p⟩:=h.ok I.hok;exact⟨its,r,p,z⟩
 ·refine⟨its.toList,r,⟨o,I.kIn a o hk,hc,n,by simpa using hs⟩,?_⟩;have e:=r.length;simp only[Array.length_toList]at e;lia
def Inv.list_inj (I:Inv X pins U H s)(h:SqL X.K H a xs)(h':SqL X.K H a ys):xs=ys:=by
 obtain⟨its,r,⟨o,n,e,_,_,d⟩,_⟩:=I.list h;obtain⟨its',r',⟨o',n',e',_,_,d'⟩,_⟩:=I.list h';rw[e]at e';cases e';rw[d]at d';injection d' with d1 _;have:its=its':=by simpa using congrArg Array.toList d1
 subst this;exact r.inj r'
def Inv.tuple_inj (I:Inv X pins U H s)(h:SqT X.K H a xs)(h':SqT X.K H a ys):xs=ys:=by
 obtain⟨its,r,⟨o,e,_,n,d⟩,_⟩:=I.tuple h;obtain⟨its',r',⟨o',e',_,n',d'⟩,_⟩:=I.tuple h';rw[e]at e';cases e';rw[d]at d';injection d' with d1 _;have:its=its':=by simpa using congrArg Array.toList d1
 subst this;exact r.inj r'
end
abbrev Cx.wish (X:Cx)(E:Â->Á->Prop):Cx:={ X with xe:=E }
abbrev Cx.nox (X:Cx):Cx:=X.wish fun _ _=>False
theorem Cx.Ok.wish {X:Cx}(ok:X.Ok)(E:Â->Á->Prop):(X.wish E).Ok :=⟨ok.mod,ok.kind,ok.glob,ok.blt,ok.above,ok.inj,ok.has,ok.cab,ok.hd,ok.frames,ok.stk,ok.exf,ok.bs,ok.bsz,ok.noex,ok.exfs,ok.funs,ok.frf⟩
def Cx.Ok.unwish {X:Cx}{E:Â->Á->Prop}(ok:(X.wish E).Ok):X.Ok :=⟨ok.mod,ok.kind,ok.glob,ok.blt,ok.above,ok.inj,ok.has,ok.cab,ok.hd,ok.frames,ok.stk,ok.exf,ok.bs,ok.bsz,ok.noex,ok.exfs,ok.funs,ok.frf⟩
section
variable {X:Cx}{pins:List (Addr×Obj)}{U:St}{H:Hp}{s:Á}{E:Â->Á->Prop}
theorem Inv.wish (I:Inv X pins U H s)(E:Â->Á->Prop):Inv (X.wish E) pins U H s:=⟨I.ok.wish E,I.os,I.bare,I.base,I.loc,I.cell,I.free,I.freeC,I.pin,I.hok,I.len⟩
theorem Inv.unwish (I:Inv (X.wish E) pins U H s):Inv X pins U H s:=⟨I.ok.unwish,I.os,I.bare,I.base,I.loc,I.cell,I.free,I.freeC,I.pin,I.hok,I.len⟩
theorem SP.unwish {D:Ends}(h:SP (X.wish E) pins D f s'):SP X pins D f s':=by
 cases f with
 |next=>obtain⟨σ',H',I,q⟩:=h;exact⟨σ',H',I.unwish,q⟩
 |brk=>obtain⟨σ',H',I,q⟩:=h;exact⟨σ',H',I.unwish,q⟩
 |cont=>obtain⟨σ',H',I,q⟩:=h;exact⟨σ',H',I.unwish,q⟩
 |ret u=>obtain⟨v,σ',H',I,r,q⟩:=h;exact⟨v,σ',H',I.unwish,r,q⟩
theorem PSs.nox {st:List Stmt}(h:PSs X.nox st t):PSs X st t:=fun pins s U H D I hw =>wpAny_mono (h pins s U H D (I.wish _) hw) (fun _ _ q=>q.unwish) fun _ _ z=>False.elim z
end
section
variable {X:Cx}{st:Stmt}{rest:List Stmt}{t u:TS}{e:Expr}{te:TE}{pos:Pos}
def zmQ:TS:=fun D U H=>D.nx U H
def zuy (t u:TS):TS:=fun D U H=>t { D with nx:=u D } U H
def znX:PSs X [] zmQ:=fun _ _ U H _ I h=>wpAny_execs_nil ⟨U,H,I,h⟩
def zlN (h1:PS X st t)(h2:PSs X rest u):PSs X (st::rest) (zuy t u):=by
 intro pins s U H D I h;refine wpAny_execs_cons (thn (h1 pins s U H { D with nx:=u D } I h) fun f s1 q=>?_);cases f with
 |next =>obtain⟨σ',H',I',q⟩:=q;exact h2 pins s1 σ' H' D I' q
 |ret v=>exact q
 |brk=>exact q
 |cont=>exact q
def znd (h1:PS X st t):PSs X [st] t:=by
 intro pins s U H D I h;refine wpAny_execs_cons (thn (h1 pins s U H D I h) fun f s1 q=>?_);cases f with
 |next=>exact wpAny_execs_nil q
 |ret v=>exact q
 |brk=>exact q
 |cont=>exact q
def zrd:TS:=fun D U H=>D.bk U H
def zty:TS:=fun D U H=>D.ct U H
def znv:PS X (.Pass pos) zmQ:=fun _ _ U H _ I h=>wpAny_Pass ⟨U,H,I,h⟩
def zlX:PS X (.Break pos) zrd:=fun _ _ U H _ I h=>wpAny_Break ⟨U,H,I,h⟩
def zh7:PS X (.Continue pos) zty:=fun _ _ U H _ I h=>wpAny_Continue ⟨U,H,I,h⟩
def Inv.quiet (I:Inv X pins U H s):interactive X.env=false:=by simp[interactive,I.ok.kind]
def zs0 (te:TE):TS:=fun D U H=>te U H fun _ H1=>D.nx U H1
def zoZ (he:PE X e te)(hs:autoParam (swapsWith e none pos.line X.env=pure false) zq):PS X (.Expr e pos) (zs0 te):=by intro pins s U H D I h;exact wpAny_Expr_any (thn (he pins s U H _ I h) fun v s1 zq1=>by obtain⟨x,H1,I1,r1,q1⟩:=zq1;exact⟨U,H1,I1,q1⟩) I.quiet hs
def zut (te:TE):TS:=fun D U H=>te U H D.rt
def zr5 (he:PE X e te):PS X (.Return (some e) pos) (zut te):=by intro pins s U H D I h;exact wpAny_Return_some (thn (he pins s U H _ I h) fun v s1 zq2=>by obtain⟨x,H1,I1,r1,q1⟩:=zq2;exact⟨x,U,H1,I1,r1,q1⟩)
def zuG (c:TT)(t u:TS):TS:=fun D U H=>c U H fun b H1=>if b=true then t D U H1 else u D U H1
def ztx (hc:PT X c tc)(ha:PSs X a t)(hb:PSs X b u):PS X (.If c a b pos) (zuG tc t u):=by
 intro pins s U H D I h;refine wpAny_If (thn (hc pins s U H _ I h) fun d s1 ⟨H1,I1,q1⟩=>?_);cases d with
 |true=>exact ha pins s1 U H1 D I1 q1
 |false=>exact hb pins s1 U H1 D I1 q1
def zpm:TS:=fun _ _ _=>False
def zmn:PS X st zpm:=fun _ _ _ _ _ _ h=>h.elim
end
abbrev TG:=V->St->Hp->(St->Hp->Prop)->Prop
abbrev TGs:=List V->St->Hp->(St->Hp->Prop)->Prop
def PG (X:Cx)(target:Expr)(t:TG):Prop :=
 ∀ (pins:List (Addr×Obj)) (s:Á) (U:St) (H:Hp) (v:V) (u:Â) (Q:St->Hp->Prop),Inv X pins U H s->RelV v u->t v U H Q ->
  wpAny (model X.prog X.w) X.A (assign target X.env u) (fun _ s'=>∃ σ' H',Inv X pins σ' H' s'/\Q σ' H') X.xe s
def PGs (X:Cx)(ts:List Expr)(t:TGs):Prop :=
 ∀ (pins:List (Addr×Obj)) (s:Á) (U:St) (H:Hp) (vs:List V) (us:List Â) (Q:St->Hp->Prop),Inv X pins U H s->Vals vs us->t vs U H Q ->
  wpAny (model X.prog X.w) X.A (assignInOrder ((assignEach ts X.env).map (·.2)) us) (fun _ s'=>∃ σ' H',Inv X pins σ' H' s'/\Q σ' H') X.xe s
abbrev zqN:=V->V->V->Hp->(Hp->Prop)->Prop
def zsa (X:Cx)(t:zqN):Prop :=
 ∀ (pins:List (Addr×Obj)) (s:Á) (U:St) (H:Hp) (o i v:V) (ov iv u:Â) (Q:Hp->Prop),Inv X pins U H s->RelV o ov->RelV i iv->RelV v u->t o i v H Q ->
  wpAny (model X.prog X.w) X.A (setItem ov iv u) (fun _ s'=>∃ H',Inv X pins U H' s'/\Q H') X.xe s
abbrev TIp:=V->V->Hp->VK->Prop
def PIp (X:Cx)(op:Operator)(t:TIp):Prop :=
 ∀ (pins:List (Addr×Obj)) (s:Á) (U:St) (H:Hp) (x y:V) (v u:Â) (Q:VK),Inv X pins U H s->RelV x v->RelV y u->t x y H Q ->
  wpAny (model X.prog X.w) X.A (inplaceOp op v u) (EP X pins U Q) X.xe s
section
variable {X:Cx}{pos:Pos}
def zK (i:Nat):TG:=fun v U H Q=>Q (U.set i (some v)) H
def zna {i:Nat}{x:Str}(hN:X.N.Nodup)(hi:X.N[i]?=some x)(hx:Loc X.env.scope x)(hf:autoParam (X.fn x=true\/X.env.scope.names.lookup x=some .local) zdr):PG X (.Name x pos) (zK i):=by intro pins s U H v u Q I r h;exact wpAny_assign_Name (zdC I hN hi hx r (fun s' I'=>⟨_,H,I',h⟩) hf)
def zbP:TGs:=fun vs U H Q=>vs=[]/\Q U H
def z9 (t:TG)(u:TGs):TGs:=fun vs U H Q=>∃ v r,vs=v::r/\t v U H fun σ' H'=>u r σ' H' Q
def znh:PGs X [] zbP:=by intro pins s U H vs us Q I r h;obtain⟨e,h⟩:=h;subst e;cases r;exact assignInOrder_nil ⟨U,H,I,h⟩
def zlH {e:Expr}(h1:PG X e t)(h2:PGs X es u)(hs:autoParam ((assignEach (e::es) X.env).map (·.2)=assign e X.env::(assignEach es X.env).map (·.2)) zq):PGs X (e::es) (z9 t u):=by
 intro pins s U H vs us Q I r h;obtain⟨v,vr,e1,h⟩:=h;subst e1;cases r with
 |cons r rr =>rw[hs];refine assignInOrder_cons (thn (h1 pins s U H _ _ _ I r h) fun _ s1 ⟨σ1,H1,I1,q1⟩=>?_);exact h2 pins s1 σ1 H1 _ _ Q I1 rr q1
def zbW (K:À)(n:Nat)(t:TGs):TG:=fun v U H Q=>∃ a xs,v=.ref a/\SqT K H a xs/\xs.length=n/\t xs U H Q
def zp2 {k:Nat}{n:Nat}(hc:X.calm=true)(h:PGs X es t)(hn:autoParam ((assignEach es X.env).length=n) zq)(hst:autoParam ((assignEach es X.env).findIdx? (·.1)=none) zq):PG X (.Tuple es k pos) (zbW X.K n t):=by
 intro pins s U H v u Q I r hw;obtain⟨a,xs,e1,hq,hl,hw⟩:=hw;subst e1;cases r;obtain⟨its,rv,ht,hz⟩:=I.tuple hq;refine assign_Tuple_tuple (I.ok.hd hc) ht (by simp[hn,<- hl,rv.length]) hst fun h' hx=>?_
 have I1:Inv X pins U H { s with heap:=h' }:=I.kept (t':=s.toks) fun b o e=>hx b o (Nat.ne_of_lt (Heap.lt_size e)) e
 exact h pins _ U H xs _ Q I1 (by simpa using rv) hw
def zgc (to ti:TE)(t:zqN):TG:=fun v U H Q=>to U H fun o H1=>ti U H1 fun i H2=>t o i v H2 fun H3=>Q U H3
def zrG (ho:PE X o to)(hi:PE X i ti)(hs:zsa X t)(ha:∀ v,assign (.Subscript o i pos) X.env v=(do
   let ov <- holding [v] (eval o X.env);let iv <- holding [v,ov] (eval i X.env)
   standAt pos
   holding [v,ov,iv] (setItem ov iv v)
   release [v,ov,iv] []):=by intro _;rfl):PG X (.Subscript o i pos) (zgc to ti t):=by
 intro pins s U H v u Q I r h;rw[ha];refine wpAny_bind (wpAny_holding (thn (ho pins s U H _ I h) fun ov s1 ⟨x,H1,I1,r1,q1⟩=>?_));refine wpAny_bind (wpAny_holding (thn (hi pins s1 U H1 _ I1 q1) fun iv s2 ⟨y,H2,I2,r2,q2⟩=>?_));refine wpAny_bind (wpAny_standAt (wpAny_bind (wpAny_holding (thn (hs pins s2 U H2 x y v ov iv u _ I2 r1 r2 r q2) fun _ s3 ⟨H3,I3,q3⟩=>?_))));exact wpAny_release ⟨U,H3,I3,q3⟩
def zl0 (te:TE)(g:TG):TS:=fun D U H=>te U H fun x H1=>g x U H1 D.nx
def zqY {e:Expr}(he:PE X e te)(hg:PG X tg g)(hs:autoParam (swapsWithSole [tg] e pos.line X.env=pure false) zq)(hw:autoParam (swappedStores [tg] e X.env=pure none) zq)(h1:autoParam ((assignEach [tg] X.env).map (·.2)=[assign tg X.env]) zq):PS X (.Assign [tg] e pos) (zl0 te g):=by intro pins s U H D I h;refine wpAny_Assign_stores (thn (he pins s U H _ I h) fun v s1 ⟨x,H1,I1,r1,q1⟩=>?_) hs hw;rw[h1];exact thn (hg pins s1 U H1 x v _ I1 r1 q1) fun _ s2 q=>q
def zrh {i:Nat}{x:Str}{e:Expr}{pos':Pos}(hN:X.N.Nodup)(hi:X.N[i]?=some x)(hx:Loc X.env.scope x)(he:PE X e te)(hs:autoParam (swapsWith e (some (.Name x pos')) pos.line X.env=pure false) zq)(hf:autoParam (X.fn x=true\/X.env.scope.names.lookup x=some .local) zdr) :
  PS X (.Assign [.Name x pos'] e pos) (zl0 te (zK i)):=by
 intro pins s U H D I h;refine wpAny_Assign_Name (thn (he pins s U H _ I h) fun v s1 ⟨y,H1,I1,r1,q1⟩=>?_) hs;exact zdC I1 hN hi hx r1 (fun s2 I2=>⟨_,H1,I2,q1⟩) hf
def zu9 (i:Nat)(te:TE)(ti:TIp):TS:=fun D U H=>∃ x,U[i]?=some (some x)/\te U H fun y H1=>ti x y H1 fun z H2=>D.nx (U.set i (some z)) H2
def zpL {i:Nat}{x:Str}{e:Expr}{pos':Pos}(hN:X.N.Nodup)(hi:X.N[i]?=some x)(hx:Loc X.env.scope x)(he:PE X e te)(ho:PIp X op ti)(hf:autoParam (X.fn x=true\/X.env.scope.names.lookup x=some .local) zdr) :
  PS X (.AugAssign (.Name x pos') op e pos) (zu9 i te ti):=by
 intro pins s U H D I h;obtain⟨v,e1,h⟩:=h;obtain⟨m,hn,hl⟩:=I.loc;have vis:Vis X.env.scope x:=by rcases hx with k|k;exact .inl k;exact .inr (.inl k)
 obtain⟨u,r,l⟩:=hl i x v hi e1 vis;refine wpAny_AugAssign_Name ?_
 have go:wpAny (model X.prog X.w) X.A (eval e X.env) (fun w s₂=>wpAny (model X.prog X.w) X.A (inplaceOp op u w) (fun r s₃=>wpAny (model X.prog X.w) X.A (storeName X.env x r) (fun _=>SP X pins D .next) X.xe s₃) X.xe s₂) X.xe s:=by
  refine thn (he pins s U H _ I h) fun w s1 ⟨y,H1,I1,r1,q1⟩=>?_
  refine thn (ho pins s1 U H1 v y u w _ I1 r r1 q1) fun z s2 ⟨zv,H2,I2,r2,q2⟩=>?_
  exact zdC I2 hN hi hx r2 (fun s3 I3=>⟨_,H2,I3,q2⟩) hf
 rcases l with⟨hk,hm⟩|⟨hk,c,hc,hcell⟩
 ·exact wpAny_loadName_local I.ok.kind hk hn hm go
 ·rcases hk with hk|hk
  ·exact wpAny_loadName_cell I.ok.kind hk hc hcell go
  ·rcases hx with k|k
   ·have:X.env.scope.names.lookup x=some .free:=hk;rw[k]at this;cases this
   ·have:X.env.scope.names.lookup x=some .free:=hk;rw[k]at this;cases this
def ipI (f:Int->Int->Int):TIp:=fun x y H Q=>∃ i j,x=.int i/\y=.int j/\Q (.int (f i j)) H
def zr7:PIp X .Add (ipI fun i j=>i+j):=by intro pins s U H x y v u Q I r1 r2 h;obtain⟨i,j,e1,e2,q⟩:=h;subst e1;subst e2;obtain⟨t,rfl⟩:=r1;obtain⟨t',rfl⟩:=r2;exact iadd_int ⟨.int _,H,I.tok _,⟨_,rfl⟩,q⟩
end
section
variable {X:Cx}{pos:Pos}
def zqq (c:TT)(tb:TS):TS:=fun D U H=>∃ W:Nat->St->Hp->Prop,(∃ m,W m U H)/\∀ m U H,W m U H ->
 c U H fun b H1=>if b=true then ∃ N:St->Hp->Prop,(∀ σ' H',N σ' H'->∃ m',m'<m/\W m' σ' H')/\tb { D with nx:=N,ct:=N,bk:=D.nx } U H1 else D.nx U H1
def zlP (hp:PassesOwn (model X.prog X.w) X.A X.env X.xe)(hc:PT X c tc)(hb:PSs X body tb):PS X (.While c body [] pos) (zqq tc tb):=by
 intro pins s U H D I h;obtain⟨W,⟨m0,w0⟩,turn⟩:=h;refine wpAny_While (codeAny_whileLoop (fun n s'=>∃ σ' H',Inv X pins σ' H' s'/\W n σ' H') ?_ m0 ⟨U,H,I,w0⟩);rintro n s1 ⟨σ1,H1,I1,w1⟩;refine wpAny_passesOwn hp (thn (hc pins s1 σ1 H1 _ I1 (turn n σ1 H1 w1)) fun b s2 ⟨H2,I2,q2⟩=>?_);cases b with
 |true =>
  obtain⟨N,hN,q2⟩:=q2;rw[if_pos rfl];refine wpAny_passesOwn hp (thn (hb pins s2 σ1 H2 _ I2 q2) fun f s3 q3=>?_);cases f with
  |next =>obtain⟨σ3,H3,I3,n3⟩:=q3;obtain⟨m',hm,w3⟩:=hN σ3 H3 n3;exact⟨m',hm,σ3,H3,I3,w3⟩
  |cont =>obtain⟨σ3,H3,I3,n3⟩:=q3;obtain⟨m',hm,w3⟩:=hN σ3 H3 n3;exact⟨m',hm,σ3,H3,I3,w3⟩
  |brk=>exact q3
  |ret v=>exact q3
 |false =>rw[if_neg Bool.false_ne_true];exact wpAny_execs_nil ⟨σ1,H2,I2,q2⟩
end
structure It where
 go:Nat->Hp->Prop
 yld:Nat->Hp->V->Hp->Prop
 stop:Nat->Hp->Prop
def zds (X:Cx)(pins:List (Addr×Obj))(H:Hp)(b:Addr):Prop :=H b=none/\b≠X.env.locals/\b∉X.fs/\(b∈X.ex\/X.s₀.heap.objs.size<=b)/\(∀ x c,X.env.cells.lookup x=some c->c≠b)/\∀ p∈X.pn++pins,p.1≠b
def Inv.fpOk {H':Hp}{b:Addr}(I:Inv X pins U H s)(hb:s.heap.objs.size<=b)(hn:H' b=none):zds X pins H' b:=by
 refine⟨hn,Nat.ne_of_gt (Nat.lt_of_lt_of_le I.lt hb),I.nofs hb,.inr (Nat.le_trans I.sz hb),fun x c e z=>?_,fun p hp z=>?_⟩
 ·obtain⟨v,q⟩:=I.cell x c e;exact absurd (Nat.lt_of_lt_of_le q.lt (by rw[z];exact hb)) (Nat.lt_irrefl _)
 ·exact absurd (Nat.lt_of_lt_of_le (Heap.lt_size (I.pin p hp).1) (by rw[z];exact hb)) (Nat.lt_irrefl _)
structure Turn (P:Program)(w:World)(K:À)(tg:Expr)(J:It)(fp:List Addr)(it:Addr)(tn:Nat->Heap->Prop):Prop where
 mem:it∈fp
 obj:∀ i h,tn i h->∀ b∈fp,∃ o,h.get? b=some o/\∀ v,o.data≠.cell v
 keep:∀ i h h',tn i h->(∀ b∈fp,∀ o,h.get? b=some o->h'.get? b=some o)->tn i h'
 item:∀ (X:Cx),X.prog=P->X.w=w->X.K=K->X.calm=true->∀ (i:Nat) (pins:List (Addr×Obj)) (s:Á) (U:St) (H:Hp) (E:Â->Á->Prop),Inv X pins U H s->(∀ b∈fp,zds X pins H b)->tn i s.heap->J.go i H ->
  wpAny (model P w) X.A (pyNext (.ref it)) (fun r s1=>∃ u,r=some u /\
   wpAny (model P w) X.A (letOwnedTupleGo tg (.ref it) u) (fun _ s2=>∃ x H',Inv X pins U H' s2/\RelV x u/\J.yld i H x H'/\tn (i+1) s2.heap/\∀ b∈fp,H' b=none) E s1) E s
 done:∀ (X:Cx),X.prog=P->X.w=w->X.K=K->X.calm=true->∀ (i:Nat) (pins:List (Addr×Obj)) (s:Á) (U:St) (H:Hp) (E:Â->Á->Prop),Inv X pins U H s->(∀ b∈fp,zds X pins H b)->tn i s.heap->J.stop i H ->
  wpAny (model P w) X.A (pyNext (.ref it)) (fun r s1=>r=none/\Inv X pins U H s1) E s
 self:∀ (A:Around) (i:Nat) (s:Á) (Q:Â->Á->Prop) (E:Â->Á->Prop),tn i s.heap->Q (.ref it) s->wpAny (model P w) A (pyIter (.ref it)) Q E s
abbrev TI:=St->Hp->(It->Hp->Prop)->Prop
def PIE (X:Cx)(pins:List (Addr×Obj))(U:St)(tg:Expr)(R:It->Hp->Prop)(itv:Â)(s2:Á):Prop :=∃ (it:Addr) (fp:List Addr) (tn:Nat->Heap->Prop) (J:It) (H':Hp),itv=.ref it/\Inv X pins U H' s2/\Turn X.prog X.w X.K tg J fp it tn/\tn 0 s2.heap/\(∀ b∈fp,zds X pins H' b)/\R J H'
def PI (X:Cx)(tg iter:Expr)(wi:TI):Prop :=
 ∀ (pins:List (Addr×Obj)) (s:Á) (U:St) (H:Hp) (R:It->Hp->Prop),Inv X pins U H s->wi U H R ->
  wpAny (model X.prog X.w) X.A (eval iter X.env) (fun v s1=>wpAny (model X.prog X.w) X.A (pyIter v) (PIE X pins U tg R) X.xe s1) X.xe s
def zcR {M:Model}{A:Around}{E:Â->Á->Prop}{s:Á}{tg:Expr}{it:Addr}{u:Â}{o:Obj}{n:String}{vs:Array Â}{Q:Unit->Á->Prop}(ho:s.heap.get? it=some o)(hc:o.cls=.type n)(hd:o.data=.fields vs)
    (hn:["enumerate","zip","dict_itemiterator","dict_reverseitemiterator","odict_iterator","itertools.zip_longest","itertools.pairwise"].contains n=false) (hQ:Q () s):wpAny M A (letOwnedTupleGo tg (.ref it) u) Q E s:=by
  unfold letOwnedTupleGo
  cases tg<;>first
    |exact wpAny_pure hQ
    | (cases u <;> first
        |exact wpAny_pure hQ
        | (refine wpAny_bind (wpAny_load ho ?_)
           rw[hc,hd];show wpAny M A (if(["enumerate","zip","dict_itemiterator","dict_reverseitemiterator","odict_iterator","itertools.zip_longest","itertools.pairwise"].contains n&&vs[0]?==some (rawInt _))=true then _ else _) Q E s;rw[if_neg (by intro h;rw[hn,Bool.false_and]at h;cases h)];exact wpAny_pure hQ))
def Itl (K:À)(a:Addr):It :=⟨fun i H=>∃ xs x,SqL K H a xs/\xs[i]?=some x,fun i H x H'=>H'=H/\∀ xs,SqL K H a xs->xs[i]?=some x,fun i H=>∃ xs,SqL K H a xs/\xs.length<=i⟩
def Itt (K:À)(a:Addr):It :=⟨fun i H=>∃ xs x,SqT K H a xs/\xs[i]?=some x,fun i H x H'=>H'=H/\∀ xs,SqT K H a xs->xs[i]?=some x,fun i H=>∃ xs,SqT K H a xs/\xs.length<=i⟩
def Itr (lo:Int)(n:Nat):It:=⟨fun i _=>i<n,fun i H x H'=>H'=H/\x=.int (lo+i),fun i _=>n<=i⟩
def zkS {P:Program}{w:World}{K:À}{tg:Expr}(a it:Addr):Turn P w K tg (Itl K a) [it] it (fun i h=>h.IsListIter it a i) where
 mem:=by simp
 obj:=fun i h st b hb=>by
  have e:b=it:=by simpa using hb
  subst e;obtain⟨o,e,c,d⟩:=st;exact⟨o,e,fun v z=>by rw[d]at z;cases z⟩
 keep:=fun i h h' st k=>st.at fun o e=>k it (by simp) o e
 item:=by
  intro X hP hw hK hc i pins s U H E I hf st hg;subst hP hw hK;obtain⟨xs,x,hq,hx⟩:=hg;obtain⟨its,rv,p,hz⟩:=I.list hq;obtain⟨u,hu,ru⟩:=rv.get hx;obtain⟨f0,f1,f2,f3,f4,f5⟩:=hf it (by simp);refine wpAny_pyNext_list_item st p.isList (x:=u) (by simpa using hu) fun h' st' sb=>?_
  have I1:Inv X pins U H { s with heap:=h' }:=I.turned (t':=s.toks) (fun b o hb e=>(sb.2 b hb).trans e) f0 f1 f3 f4 f5;obtain⟨o,e,c,d⟩:=id st';exact⟨u,rfl,zcR (s:={ s with heap:=h' }) e c d (by decide) ⟨x,H,I1,ru,⟨rfl,fun ys hy=>by rw[I.list_inj hy hq];exact hx⟩,st',fun b hb=>(hf b hb).1⟩⟩
 done:=by intro X hP hw hK hc i pins s U H E I hf st hg;subst hP hw hK;obtain⟨xs,hq,hx⟩:=hg;obtain⟨its,rv,p,hz⟩:=I.list hq;obtain⟨f0,f1,f2,f3,f4,f5⟩:=hf it (by simp);have hl:=rv.length;exact wpAny_pyNext_list_end (I.ok.hd hc) st p.isList (by simp;lia) fun h' eb=>⟨rfl,I.turned (t':=s.toks) (fun b o hb e=>eb b o hb e) f0 f1 f3 f4 f5⟩
 self:=fun _ _ _ _ _ st h=>wpAny_pyIter_listiter st h
def zjt {P:Program}{w:World}{K:À}{tg:Expr}(a it:Addr):Turn P w K tg (Itt K a) [it] it (fun i h=>h.IsTupleIter it a i) where
 mem:=by simp
 obj:=fun i h st b hb=>by
  have e:b=it:=by simpa using hb
  subst e;obtain⟨o,e,c,d⟩:=st;exact⟨o,e,fun v z=>by rw[d]at z;cases z⟩
 keep:=fun i h h' st k=>st.at fun o e=>k it (by simp) o e
 item:=by
  intro X hP hw hK hc i pins s U H E I hf st hg;subst hP hw hK;obtain⟨xs,x,hq,hx⟩:=hg;obtain⟨its,rv,p,hz⟩:=I.tuple hq;obtain⟨u,hu,ru⟩:=rv.get hx;obtain⟨f0,f1,f2,f3,f4,f5⟩:=hf it (by simp);refine wpAny_pyNext_tuple_item st (show s.heap.IsTuple a its.toArray from p) (x:=u) (by simpa using hu) fun h' st' sb=>?_
  have I1:Inv X pins U H { s with heap:=h' }:=I.turned (t':=s.toks) (fun b o hb e=>(sb.2 b hb).trans e) f0 f1 f3 f4 f5;obtain⟨o,e,c,d⟩:=id st';exact⟨u,rfl,zcR (s:={ s with heap:=h' }) e c d (by decide) ⟨x,H,I1,ru,⟨rfl,fun ys hy=>by rw[I.tuple_inj hy hq];exact hx⟩,st',fun b hb=>(hf b hb).1⟩⟩
 done:=by intro X hP hw hK hc i pins s U H E I hf st hg;subst hP hw hK;obtain⟨xs,hq,hx⟩:=hg;obtain⟨its,rv,p,hz⟩:=I.tuple hq;obtain⟨f0,f1,f2,f3,f4,f5⟩:=hf it (by simp);have hl:=rv.length;exact wpAny_pyNext_tuple_end (I.ok.hd hc) st (show s.heap.IsTuple a its.toArray from p) (by simp;lia) fun h' eb=>⟨rfl,I.turned (t':=s.toks) (fun b o hb e=>eb b o hb e) f0 f1 f3 f4 f5⟩
 self:=fun _ _ _ _ _ st h=>wpAny_pyIter_tupleiter st h
def zft {P:Program}{w:World}{K:À}{tg:Expr}(it:Addr)(lo:Int)(n:Nat):Turn P w K tg (Itr lo n) [it] it (fun i h=>IsRangeIter h it (lo+(i:Nat)*1) ((n:Int)-(i:Nat)) 1) where
 mem:=by simp
 obj:=fun i h st b hb=>by
  have e:b=it:=by simpa using hb
  subst e
  exact⟨_,st,fun v z=>by have z':Data.fields _=Data.cell v:=z;cases z'⟩
 keep:=fun i h h' st k=>k it (by simp) _ st
 item:=by
  intro X hP hw hK hc i pins s U H E I hf st hg;subst hP hw hK;obtain⟨f0,f1,f2,f3,f4,f5⟩:=hf it (by simp);have W:=Walks.range (prog:=X.prog) (w:=X.w) (I.ok.hd hc) it lo 1 n;refine W.item i s _ _ hg st fun v h' tk hv st' kk=>?_
  obtain⟨t,rfl⟩:=hv;have I1:Inv X pins U H { s with heap:=h',toks:=tk }:=I.turned (fun b o hb e=>kk b o (by simpa using hb) e) f0 f1 f3 f4 f5;refine⟨_,rfl,zcR (s:={ s with heap:=h',toks:=tk }) (n:="range_iterator") st' rfl rfl (by decide) ⟨.int (lo+i),H,I1,⟨t,?_⟩,⟨rfl,rfl⟩,st',fun b hb=>(hf b hb).1⟩⟩;rw[Int.mul_one]
 done:=by intro X hP hw hK hc i pins s U H E I hf st hg;subst hP hw hK;obtain⟨f0,f1,f2,f3,f4,f5⟩:=hf it (by simp);exact wpAny_pyNext_range_end (I.ok.hd hc) st (by have:n<=i:=hg;lia) fun h' eb=>⟨rfl,I.turned (t':=s.toks) (fun b o hb e=>eb b o hb e) f0 f1 f3 f4 f5⟩
 self:=fun _ _ _ _ _ st h=>wpAny_pyIter_rangeiter st h
section
variable {X:Cx}{tg:Expr}
def zlf {R:It->Hp->Prop}{E:Â->Á->Prop}{lo hi:Int}{t u v:Tok}{tk:Nat}(I:Inv X pins U H s)(h1:-(2 ^ 62)<=lo)(h2:lo<2 ^ 62)(h3:-(2 ^ 62)<=hi)(h4:hi<2 ^ 62)(q:R (Itr lo (hi-lo).toNat) H):wpAny (model X.prog X.w) X.A (pyIter (.ref s.heap.objs.size)) (PIE X pins U tg R) E { s with heap:=s.heap.push { cls:=.type "range",data:=.fields #[.int lo t,.int hi u,.int 1 v] },toks:=tk }:=by
  refine wpAny_pyIter_range (IsRange.new ..) (small_one h1 h2 h3 h4) ?_;have I1:Inv X pins U H { s with heap:=s.heap.push { cls:=.type "range",data:=.fields #[.int lo t,.int hi u,.int 1 v] },toks:=tk }:=I.kept fun b o e=>Heap.get?_push_of_some _ e
  refine⟨(s.heap.push { cls:=.type "range",data:=.fields #[.int lo t,.int hi u,.int 1 v] }).objs.size,[(s.heap.push { cls:=.type "range",data:=.fields #[.int lo t,.int hi u,.int 1 v] }).objs.size],_,_,H,rfl,
    I1.kept (t':=tk) fun b o e=>Heap.get?_push_of_some _ e,zft _ lo (hi-lo).toNat,?_,fun b hb=>?_,q⟩
  . have e1:lo+((0:Nat):Int)*1=lo:=by simp
    have e2:(((hi-lo).toNat:Nat):Int)-((0:Nat):Int)=Builtin.Range.rangeSize lo hi 1:=by rw[rangeSize_one];split<;>lia
    show IsRangeIter _ _ (lo+((0:Nat):Int)*1) ((((hi-lo).toNat:Nat):Int)-((0:Nat):Int)) 1;rw[e1,e2];exact Heap.get?_push_size _ rfl
  . have e:b=(s.heap.push { cls:=.type "range",data:=.fields #[.int lo t,.int hi u,.int 1 v] }).objs.size:=by simpa using hb
    subst e;exact I1.fpOk (Nat.le_refl _) (I1.hok.fresh (Nat.le_refl _))
def zbm (ta:TA):TI:=fun U H R=>ta U H fun vs H1=>∃ j:Int,vs=[.int j]/\-(2 ^ 62)<=j/\j<2 ^ 62/\R (Itr 0 j.toNat) H1
def zkq {a:Expr}{ta:TA}{p pos:Pos}(hg:Gl X "range")(hm:X.mg "range"=none)(ha:PA X [a] ta)(hs:autoParam (starEach [a] X.env=[(false,eval a X.env)]) zq):PI X tg (.Call (.Name "range" p) [a] [] pos) (zbm ta):=by
 intro pins s U H R I h;refine Call_ (zbq I hg hm boot_range (PyProof.Rows.callWith_type1 (thn (ha pos pins s U H _ I h) fun us s1 ⟨vs,H1,I1,r1,q1⟩=>?_) hs rfl));obtain⟨j,e,q1,q2,q⟩:=q1;subst e;cases r1 with
 |cons r rr =>cases rr;obtain⟨t,rfl⟩:=r;exact call_range_1 (zlf I1 (by lia) (by lia) q1 q2 (by simpa using q))
def zuv (wi:TI)(g:TG)(tb:TS):TS:=fun D U H=>wi U H fun J H1=>∃ W:Nat->Nat->St->Hp->Prop,(∃ m,W 0 m U H1)/\∀ i m U H,W i m U H ->
 (J.stop i H/\D.nx U H)\/(J.go i H/\∃ N:St->Hp->Prop,(∀ σ' H',N σ' H'->∃ m',m'<m/\W (i+1) m' σ' H')/\∀ x H',J.yld i H x H'->g x U H' fun σ2 H2=>tb { D with nx:=N,ct:=N,bk:=D.nx } σ2 H2)
def zdW (fp:List Addr)(h:Heap):List (Addr×Obj):=fp.filterMap fun b=>(h.get? b).map fun o=>(b,o)
def zcx {fp:List Addr}{h:Heap}{b:Addr}{o:Obj}(hb:b∈fp)(e:h.get? b=some o):(b,o)∈zdW fp h:=List.mem_filterMap.mpr ⟨b,hb,by rw[e];rfl⟩
def zkT {fp:List Addr}{h:Heap}{p:Addr×Obj}(hp:p∈zdW fp h):p.1∈fp/\h.get? p.1=some p.2:=by
 obtain⟨b,hb,e⟩:=List.mem_filterMap.mp hp;cases q:h.get? b with
 |none=>rw[q]at e;cases e
 |some o =>rw[q]at e;have e':(b,o)=p:=Option.some.inj e;subst e';exact⟨hb,q⟩
def Inv.pinned {fp:List Addr}(I:Inv X pins U H s)(hf:∀ b∈fp,zds X pins H b)(ho:∀ b∈fp,∃ o,s.heap.get? b=some o/\∀ v,o.data≠.cell v):Inv X (pins++zdW fp s.heap) U H s :=
 I.pins_of fun p hp=>(List.mem_append.mp hp).elim (fun z=>I.pin p (List.mem_append_right _ z)) fun z=>by obtain⟨hb,e⟩:=zkT z;obtain⟨f0,f1,f2,_⟩:=hf p.1 hb;obtain⟨o,e',d⟩:=ho p.1 hb;rw[e]at e';cases e';exact⟨e,f0,f1,f2,d⟩
def Inv.unpinned {pl:List (Addr×Obj)}(I:Inv X (pins++pl) U H s):Inv X pins U H s:=I.pins_of fun p hp=>I.pin p (List.mem_append_right _ (List.mem_append_left _ hp))
def zp1 {pos:Pos}(hp:PassesOwn (model X.prog X.w) X.A X.env X.xe)(hc:X.calm=true)(hi:PI X tg iter wi)(hg:PG X tg g)(hb:PSs X body tb)(hs:autoParam (∀ x,foldedSetIterable iter X.env x=pure x) zeB):PS X (.For tg iter body [] pos) (zuv wi g tb):=by
 intro pins s U H D I h;refine wpAny_For (thn (hi pins s U H _ I h) fun v s1 h1=>thn h1 fun itv s2 h2=>?_) hs;obtain⟨it,fp,tn,J,H2,e,I2,T,st2,f2,W,⟨m0,w0⟩,turn⟩:=h2;subst e;have stat:∀ {H':Hp},(∀ b∈fp,H' b=none)->∀ b∈fp,zds X pins H' b:=fun hn b hb=>⟨hn b hb,(f2 b hb).2⟩
 refine codeAny_forLoop_any (fun n s'=>∃ i σ' H',Inv X pins σ' H' s'/\tn i s'.heap/\(∀ b∈fp,H' b=none)/\W i n σ' H') ?_ m0 ⟨0,U,H2,I2,st2,fun b hb=>(f2 b hb).1,w0⟩;rintro n s3 ⟨i,σ3,H3,I3,st3,fr3,w3⟩;rcases turn i n σ3 H3 w3 with⟨stop,qn⟩|⟨go,N,hN,step⟩
 ·refine wpAny_passesOwn hp (thn (T.done X rfl rfl rfl hc i pins s3 σ3 H3 X.xe I3 (stat fr3) st3 stop) fun r s4 ⟨hr,I4⟩=>?_);subst hr;exact wpAny_execs_nil ⟨σ3,H3,I4,qn⟩
 ·refine wpAny_passesOwn hp (thn (T.item X rfl rfl rfl hc i pins s3 σ3 H3 X.xe I3 (stat fr3) st3 go) fun r s4 ⟨u,hr,h4⟩=>?_);subst hr;refine wpAny_passesOwn hp (thn h4 fun _ s5 ⟨x,H5,I5,r5,y5,st5,fr5⟩=>?_);have I5':=I5.pinned (stat fr5) (T.obj _ _ st5);refine wpAny_passesOwn hp (thn (hg _ s5 σ3 H5 x u _ I5' r5 (step x H5 y5)) fun _ s6 ⟨σ6,H6,I6,q6⟩=>?_);refine wpAny_passesOwn hp (thn (hb _ s6 σ6 H6 _ I6 q6) fun f s7 q7=>?_)
  have again:∀ {σ7:St} {H7:Hp},Inv X (pins++zdW fp s5.heap) σ7 H7 s7->N σ7 H7->∃ m,m<n/\∃ i σ' H',Inv X pins σ' H' s7/\tn i s7.heap/\(∀ b∈fp,H' b=none)/\W i m σ' H':=fun {σ7 H7} I7 n7=>by obtain⟨m',hm,w7⟩:=hN σ7 H7 n7;refine⟨m',hm,i+1,σ7,H7,I7.unpinned,T.keep _ _ _ st5 fun b hb o e=>(I7.pin (b,o) (List.mem_append_right _ (List.mem_append_right _ (zcx hb e)))).1,fun b hb=>?_,w7⟩;obtain⟨o,e,d⟩:=T.obj _ _ st5 b hb;exact(I7.pin (b,o) (List.mem_append_right _ (List.mem_append_right _ (zcx hb e)))).2.1
  cases f with
  |next=>obtain⟨σ7,H7,I7,n7⟩:=q7;exact again I7 n7
  |cont=>obtain⟨σ7,H7,I7,n7⟩:=q7;exact again I7 n7
  |brk=>obtain⟨σ7,H7,I7,q7⟩:=q7;exact⟨σ7,H7,I7.unpinned,q7⟩
  |ret v=>obtain⟨x7,σ7,H7,I7,r7,q7⟩:=q7;exact⟨x7,σ7,H7,I7.unpinned,r7,q7⟩
end
abbrev R2:=V->V->Hp->VK->Prop
def OpR (X:Cx)(f:Â->Â->Sem Â)(r:R2):Prop :=
 ∀ (pins:List (Addr×Obj)) (s:Á) (U:St) (H:Hp) (x y:V) (v u:Â) (Q:VK),Inv X pins U H s->RelV x v->RelV y u->r x y H Q ->
  wpAny (model X.prog X.w) X.A (f v u) (EP X pins U Q) X.xe s
def UnR (X:Cx)(f:Â->Sem Â)(r:V->Hp->VK->Prop):Prop :=
 ∀ (pins:List (Addr×Obj)) (s:Á) (U:St) (H:Hp) (x:V) (v:Â) (Q:VK),Inv X pins U H s->RelV x v->r x H Q ->
  wpAny (model X.prog X.w) X.A (f v) (EP X pins U Q) X.xe s
def zaw (X:Cx)(f:Â)(r:List V->Hp->VK->Prop):Prop :=
 ∀ (pins:List (Addr×Obj)) (s:Á) (U:St) (H:Hp) (xs:List V) (us:List Â) (Q:VK),Inv X pins U H s->Vals xs us->r xs H Q ->
  wpAny (model X.prog X.w) X.A (call f us) (EP X pins U Q) X.xe s
def tOp (r:R2)(ta tb:TE):TE:=fun U H Q=>ta U H fun x H1=>tb U H1 fun y H2=>r x y H2 Q
def tUn (r:V->Hp->VK->Prop)(ta:TE):TE:=fun U H Q=>ta U H fun x H1=>r x H1 Q
def rI (C:Int->Int->Prop)(g:Int->Int->V):R2:=fun x y H Q=>∃ i j,x=.int i/\y=.int j/\C i j/\Q (g i j) H
def rI0 (g:Int->Int->V):R2:=fun x y H Q=>∃ i j,x=.int i/\y=.int j/\Q (g i j) H
def rU (g:Int->V):V->Hp->VK->Prop:=fun x H Q=>∃ i,x=.int i/\Q (g i) H
section
variable {X:Cx}{a b c:Expr}{ta tb tc:TE}{pos:Pos}
def zlY (ha:PE X a ta)(hb:PE X b tb){R:V->V->Hp->Prop}(I:Inv X pins U H s)(h:ta U H fun x H1=>tb U H1 fun y H2=>R x y H2){Q:Â->Á->Prop}{f:Â->Â->Sem Â}(hf:∀ v u s2 x y H2,Inv X pins U H2 s2->RelV x v->RelV y u->R x y H2->wpAny (model X.prog X.w) X.A (f v u) Q X.xe s2) :
  wpAny (model X.prog X.w) X.A (eval a X.env) (fun v s₁=>wpAny (model X.prog X.w) X.A (eval b X.env) (fun u s₂=>wpAny (model X.prog X.w) X.A (f v u) Q X.xe s₂) X.xe s₁) X.xe s:=by
 refine thn (ha pins s U H _ I h) fun v s1 ⟨x,H1,I1,r1,q1⟩=>?_
 refine thn (hb pins s1 U H1 _ I1 q1) fun u s2 ⟨y,H2,I2,r2,q2⟩=>?_
 exact hf v u s2 x y H2 I2 r1 r2 q2
def zmB {op:Operator}(ho:OpR X (binaryOp op) r)(ha:PE X a ta)(hb:PE X b tb):PE X (.BinOp a op b pos) (tOp r ta tb):=by intro pins s U H Q I h;exact wpAny_BinOp (zlY ha hb I h fun v u s2 x y H2 I2 rx ry q=>ho pins s2 U H2 x y v u Q I2 rx ry q)
def ztf {op:UnaryOp}(ho:UnR X (unaryOp op) r)(ha:PE X a ta):PE X (.UnaryOp op a pos) (tUn r ta):=by intro pins s U H Q I h;exact UnaryOp_ (thn (ha pins s U H _ I h) fun v s1 zq3=>by obtain⟨x,H1,I1,r1,q1⟩:=zq3;exact ho pins s1 U H1 x v Q I1 r1 q1)
def opI {f:Â->Â->Sem Â}{C:Int->Int->Prop}{g:Int->Int->Int}
  (rule:∀ (i j:Int) (t u:Tok) (s:Á) (Q:Â->Á->Prop) (E:Â->Á->Prop),C i j->Q (.int (g i j) s.toks) { s with toks:=s.toks+1 }->wpAny (model X.prog X.w) X.A (f (.int i t) (.int j u)) Q E s) :
  OpR X f (rI C fun i j=>.int (g i j)):=by
 intro pins s U H x y v u Q I rx ry h;obtain⟨i,j,rfl,rfl,hc,q⟩:=h;obtain⟨t,rfl⟩:=rx;obtain⟨t',rfl⟩:=ry;exact rule i j t t' s _ _ hc ⟨.int (g i j),H,I.tok _,⟨_,rfl⟩,q⟩
def zpd {f:Â->Â->Sem Â}{g:Int->Int->Int}
  (rule:∀ (i j:Int) (t u:Tok) (s:Á) (Q:Â->Á->Prop) (E:Â->Á->Prop),Q (.int (g i j) s.toks) { s with toks:=s.toks+1 }->wpAny (model X.prog X.w) X.A (f (.int i t) (.int j u)) Q E s) :
  OpR X f (rI0 fun i j=>.int (g i j)):=by
 intro pins s U H x y v u Q I rx ry h;obtain⟨i,j,rfl,rfl,q⟩:=h;obtain⟨t,rfl⟩:=rx;obtain⟨t',rfl⟩:=ry;exact rule i j t t' s _ _ ⟨.int (g i j),H,I.tok _,⟨_,rfl⟩,q⟩
def ziS {f:Â->Â->Sem Â}{g:Int->Int->Bool}
  (rule:∀ (i j:Int) (t u:Tok) (s:Á) (Q:Â->Á->Prop) (E:Â->Á->Prop),Q (.bool (g i j)) s->wpAny (model X.prog X.w) X.A (f (.int i t) (.int j u)) Q E s) :
  OpR X f (rI0 fun i j=>.bl (g i j)):=by
 intro pins s U H x y v u Q I rx ry h;obtain⟨i,j,rfl,rfl,q⟩:=h;obtain⟨t,rfl⟩:=rx;obtain⟨t',rfl⟩:=ry;exact rule i j t t' s _ _ ⟨.bl (g i j),H,I,rfl,q⟩
def zvm (i j:Int):Prop:=0<=j/\j<=1000000/\i.natAbs<2 ^ 64
def zjD (i j:Int):Prop:=(-(2 ^ 64)<i/\i<2 ^ 64)\/(-(2 ^ 64)<j/\j<2 ^ 64)
def zjD.ok (h:zjD i j):IntMulOk i j:=by
 rcases h with⟨h1,h2⟩|⟨h1,h2⟩
 ·exact .of_left (intBits_le_64 h1 h2)
 ·exact .of_right (intBits_le_64 h1 h2)
def zpK:OpR X (binaryOp .Add) (rI0 fun i j=>.int (i+j)):=zpd fun _ _ _ _ _ _ _ q=>add_int q
def zpa:OpR X (binaryOp .Sub) (rI0 fun i j=>.int (i-j)):=zpd fun _ _ _ _ _ _ _ q=>sub_int q
def zow:OpR X (binaryOp .Mod) (rI (fun _ j=>j≠0) fun i j=>.int (i.fmod j)):=opI fun _ _ _ _ _ _ _ hc q=>mod_int' hc q
def zpN:OpR X (binaryOp .Pow) (rI zvm fun i j=>.int (i ^ j.toNat)):=opI fun _ _ _ _ _ _ _ hc q=>pow_int_small hc.1 hc.2.1 hc.2.2 q
def unI {f:Â->Sem Â}{g:Int->Int}
  (rule:∀ (i:Int) (t:Tok) (s:Á) (Q:Â->Á->Prop) (E:Â->Á->Prop),Q (.int (g i) s.toks) { s with toks:=s.toks+1 }->wpAny (model X.prog X.w) X.A (f (.int i t)) Q E s) :
  UnR X f (rU fun i=>.int (g i)):=by
 intro pins s U H x v Q I rx h;obtain⟨i,rfl,q⟩:=h;obtain⟨t,rfl⟩:=rx;exact rule i t s _ _ ⟨.int (g i),H,I.tok _,⟨_,rfl⟩,q⟩
def zr8:UnR X (unaryOp .USub) (rU fun i=>.int (-i)):=unI fun _ _ _ _ _ q=>neg_int q
end
section
variable {X:Cx}{a b c:Expr}{ta tb tc:TE}{pos:Pos}
def zfx {Q:VK}{k k':Bool}(I:Inv X pins U H s)(q:Q (.bl k) H)(e:k=k'):EP X pins U Q (.bool k') s:=by subst e;exact⟨.bl k,H,I,rfl,q⟩
def ztu:OpR X (compareOp .Lt) (rI0 fun i j=>.bl (decide (i<j))):=ziS fun _ _ _ _ _ _ _ q=>lt_int q
def ztU:OpR X (compareOp .LtE) (rI0 fun i j=>.bl (decide (i<=j))):=ziS fun _ _ _ _ _ _ _ q=>le_int q
def zsi:OpR X (compareOp .Gt) (rI0 fun i j=>.bl (decide (j<i))):=ziS fun _ _ _ _ _ _ _ q=>gt_int q
def ztl:OpR X (compareOp .GtE) (rI0 fun i j=>.bl (decide (j<=i))):=ziS fun _ _ _ _ _ _ _ q=>ge_int q
def zkp:OpR X (compareOp .In) (fun x y H Q=>∃ i j,x=.str i/\y=.str j/\Q (.bl (!(Builtin.Str.occurrences j i 0 j.length 1).isEmpty)) H):=by intro pins s U H x y v u Q I rx ry h;obtain⟨i,j,rfl,rfl,q⟩:=h;obtain⟨t,rfl⟩:=rx;obtain⟨t',rfl⟩:=ry;exact in_str (zfx I q rfl)
def zrC:OpR X (compareOp .Is) (fun x y H Q=>y=.non/\Q (.bl (decide (x=.non))) H):=by
  intro pins s U H x y v u Q I rx ry h;obtain⟨rfl,q⟩:=h;cases ry;refine is_none_gen (zfx I q ?_)
  cases x<;>first
    |(cases rx;rfl)
    |(obtain⟨t,rfl⟩:=rx;rfl)
def zoS:OpR X (compareOp .IsNot) (fun x y H Q=>y=.non/\Q (.bl (!decide (x=.non))) H):=by
  intro pins s U H x y v u Q I rx ry h;obtain⟨rfl,q⟩:=h;cases ry;refine isnot_none_gen (zfx I q ?_)
  cases x<;>first
    |(cases rx;rfl)
    |(obtain⟨t,rfl⟩:=rx;rfl)
def zh0:OpR X (compareOp .NotIn) (fun x y H Q=>∃ i j,x=.str i/\y=.str j/\Q (.bl (!(!(Builtin.Str.occurrences j i 0 j.length 1).isEmpty))) H):=by intro pins s U H x y v u Q I rx ry h;obtain⟨i,j,rfl,rfl,q⟩:=h;obtain⟨t,rfl⟩:=rx;obtain⟨t',rfl⟩:=ry;exact notIn_str (zfx I q rfl)
def OpR.or (h:OpR X f r)(h':OpR X f r'):OpR X f (fun x y H Q=>r x y H Q\/r' x y H Q):=by
 intro pins s U H x y v u Q I rx ry q;rcases q with q|q
 ·exact h pins s U H x y v u Q I rx ry q
 ·exact h' pins s U H x y v u Q I rx ry q
def zoH {op:CmpOp}(ho:OpR X (compareOp op) r)(ha:PE X a ta)(hb:PE X b tb)(hm:behindInMarks op b=false):PE X (.Compare a [op] [b] pos) (tOp r ta tb):=by intro pins s U H Q I h;exact wpAny_Compare1 (zlY ha hb I h fun v u s2 x y H2 I2 rx ry q=>ho pins s2 U H2 x y v u Q I2 rx ry q) hm
def zmK (t:TE):TT:=fun U H Q=>t U H fun x H'=>∃ k,x=.bl k/\Q k H'
def zoz {op:CmpOp}(ho:OpR X (compareOp op) r)(ha:PE X a ta)(hb:PE X b tb)(hm:behindInMarks op b=false):PT X (.Compare a [op] [b] pos) (zmK (tOp r ta tb)):=by
 intro pins s U H Q I h
 refine wpAny_isTrue_Compare1 (thn (ha pins s U H _ I h) fun v s1 ⟨x,H1,I1,r1,q1⟩=>thn (hb pins s1 U H1 _ I1 q1) fun u s2 ⟨y,H2,I2,r2,q2⟩ =>thn (ho pins s2 U H2 x y v u _ I2 r1 r2 q2) fun c s3 ⟨z,H3,I3,r3,k,e,q3⟩=>?_) hm
 subst e;cases r3;exact wpAny_truthy_bool ⟨H3,I3,q3⟩
def zhj (r r':R2)(ta tb tc:TE):TE:=fun U H Q=>ta U H fun x H1=>tb U H1 fun y H2=>r x y H2 fun z H3=>∃ k,z=.bl k /\
 (if k=true then tc U H3 fun w' H4=>r' y w' H4 Q else Q (.bl false) H3)
def zk4 {op op':CmpOp}(ho:OpR X (compareOp op) r)(ho':OpR X (compareOp op') r')(ha:PE X a ta)(hb:PE X b tb)(hc:PE X c tc)(hm:autoParam (lastMarks [op,op'] [b,c]=false) zer):PE X (.Compare a [op,op'] [b,c] pos) (zhj r r' ta tb tc):=by
 intro pins s U H Q I h
 refine Compare_chain (thn (ha pins s U H _ I h) fun v s1 ⟨x,H1,I1,r1,q1⟩=>chain_link (thn (hb pins s1 U H1 _ I1 q1) fun u s2 ⟨y,H2,I2,r2,q2⟩ =>thn (ho pins s2 U H2 x y v u _ I2 r1 r2 q2) fun d s3 ⟨z,H3,I3,r3,k,e,q3⟩=>?_)) hm
 subst e;cases r3;refine wpAny_truthy_bool ?_;cases k with
 |false=>exact ite_ff ⟨.bl false,H3,I3,rfl,q3⟩
 |true=>exact ite_tt (chain_last (thn (hc pins s3 U H3 _ I3 q3) fun w' s4 zq4=>by obtain⟨z',H4,I4,r4,q4⟩:=zq4;exact ho' pins s4 U H4 y z' u w' Q I4 r2 r4 q4))
def zlm {op op':CmpOp}(ho:OpR X (compareOp op) r)(ho':OpR X (compareOp op') r')(ha:PE X a ta)(hb:PE X b tb)(hc:PE X c tc)(hm:autoParam (lastMarks [op,op'] [b,c]=false) zer):PT X (.Compare a [op,op'] [b,c] pos) (zmK (zhj r r' ta tb tc)):=by
 intro pins s U H Q I h
 refine isTrue_chain (thn (ha pins s U H _ I h) fun v s1 ⟨x,H1,I1,r1,q1⟩=>test_link (thn (hb pins s1 U H1 _ I1 q1) fun u s2 ⟨y,H2,I2,r2,q2⟩ =>thn (ho pins s2 U H2 x y v u _ I2 r1 r2 q2) fun d s3 ⟨z,H3,I3,r3,k,e,q3⟩=>?_)) hm
 subst e;cases r3;refine wpAny_truthy_bool ?_;cases k with
 |false =>obtain⟨k',e',q'⟩:=q3;cases e';exact ite_ff ⟨H3,I3,q'⟩
 |true =>refine ite_tt (test_last (thn (hc pins s3 U H3 _ I3 q3) fun w' s4 ⟨z',H4,I4,r4,q4⟩=>thn (ho' pins s4 U H4 y z' u w' _ I4 r2 r4 q4) fun d' s5 ⟨z2,H5,I5,r5,k2,e2,q5⟩=>?_));subst e2;cases r5;exact wpAny_truthy_bool ⟨H5,I5,q5⟩
def zdf:(sizeLine:Nat)<2 ^ 63:=by rw[sizeLine_eq];decide
def zjB:OpR X (binaryOp .Add) (fun x y H Q=>∃ i j,x=.str i/\y=.str j/\i.length+j.length<=sizeLine/\Q (.str (i++j)) H):=by intro pins s U H x y v u Q I rx ry h;obtain⟨i,j,rfl,rfl,hz,q⟩:=h;obtain⟨t,rfl⟩:=rx;obtain⟨t',rfl⟩:=ry;exact add_str (fun t' tk=>⟨.str (i++j),H,I.tok _,⟨_,rfl⟩,q⟩) hz
def vals1 {x:V}{us:List Â}(r:Vals [x] us):∃ u,us=[u]/\RelV x u:=by
 cases r with
 |cons r1 r2=>cases r2;exact⟨_,rfl,r1⟩
def vals2 {x y:V}{us:List Â}(r:Vals [x,y] us):∃ u w',us=[u,w']/\RelV x u/\RelV y w':=by
 cases r with
 |cons r1 r2 =>
  cases r2 with
  |cons r3 r4=>cases r4;exact⟨_,_,rfl,r1,r3⟩
def zlS:zaw X (.builtin "abs") (fun xs H Q=>∃ i,xs=[.int i]/\Q (.int (if i<0 then -i else i)) H):=by intro pins s U H xs us Q I r h;obtain⟨i,rfl,q⟩:=h;obtain⟨u,rfl,t,rfl⟩:=vals1 r;exact call_abs_int fun u tk=>⟨.int (if i<0 then -i else i),H,I.tok _,⟨_,rfl⟩,q⟩
def zk2 (hc:X.calm=true):zaw X (.builtin "max") (fun xs H Q=>∃ i j,xs=[.int i,.int j]/\Q (.int (if j > i then j else i)) H):=by
 intro pins s U H xs us Q I r h;obtain⟨i,j,rfl,q⟩:=h;obtain⟨u,w',rfl,⟨t,rfl⟩,⟨t',rfl⟩⟩:=vals2 r;refine max_two_ints (I.ok.hd hc) fun h' tk k=>⟨_,H,I.kept k,?_,q⟩
 by_cases hj:j > i
 ·rw[if_pos hj,if_pos hj];exact⟨_,rfl⟩
 ·rw[if_neg hj,if_neg hj];exact⟨_,rfl⟩
def zki:zaw X (.type "int") (fun xs H Q=>(∃ i,xs=[.int i]/\Q (.int i) H)\/∃ k,xs=[.bl k]/\Q (.int (if k then 1 else 0)) H):=by
 intro pins s U H xs us Q I r h;rcases h with⟨i,rfl,q⟩|⟨k,rfl,q⟩
 ·obtain⟨u,rfl,t,rfl⟩:=vals1 r;exact call_int_int ⟨.int i,H,I,⟨_,rfl⟩,q⟩
 ·obtain⟨u,rfl,r1⟩:=vals1 r;cases r1;exact call_int_bool ⟨.int (if k then 1 else 0),H,I.tok _,⟨_,rfl⟩,q⟩
end
structure zeY (h:Heap)(x dx C:Addr)(mA:Str->Option Â):Prop where
 obj:h.get? x=some (PySem.W.instObj C dx)
 ns:h.Ns1 dx mA
 ne:dx≠x
def zj5 {h:Heap}{dx:Addr}{mA:Str->Option Â}(n:h.Ns1 dx mA):∃ od,h.get? dx=some od/\∀ name,PySem.W.lookIn name od=some (mA name):=by
 obtain⟨o,es,ep,ho,hd,hk,_,hm⟩:=n;refine⟨o,ho,fun name=>?_⟩;have e:=hm name;unfold nsFind findBy at e;rw[<- Array.find?_toList]at e;unfold PySem.W.lookIn;rw[hd];dsimp only;split
 ·rename_i y q;rw[q]at e;exact congrArg some e
 ·rename_i q;rw[q]at e
  have a:es.toList.any (·.refKey)=false:=by rw[List.any_eq_false];intro y hy;obtain⟨z,t,hkey⟩:=hk y (Array.mem_toList_iff.mp hy);simp[DictEntry.refKey,hkey]
  have a':¬ es.toList.any (·.refKey)=true:=by rw[a];exact Bool.false_ne_true
  rw[if_neg a'];exact congrArg some e
def zeY.look {C:Addr}(I:zeY h x dx C mA):∃ od,PySem.W.InstAt h x (PySem.W.instObj C dx) C (some od)/\∀ name,PySem.W.lookIn name od=some (mA name) :=
 let ⟨od,ho,hl⟩:=zj5 I.ns
 ⟨od,⟨I.obj,rfl,rfl,ho⟩,hl⟩
section
variable {prog:Program}{w:World}{A:Around}{E:Â->Á->Prop}{s:Á}{K:À}{x dx C f:Addr}{mA:Str->Option Â}{name:Str}{v:Â}
def get_map {expr:Bool}{Q:Â->Á->Prop}(X:K.In s.heap)(I:zeY s.heap x dx C mA)(hg:PySem.W.plainGet K C name=true)(hh:PySem.W.hasDictIn K C=true)
  (ha:PySem.W.findIn K (.ref C) name=some none) (hv:mA name=some v) (hv':PySem.W.handedIn v=true) (h:Q v { s with toks:=s.toks+1 }) :
  wpAny (model prog w) A (getAttr (.ref x) name expr) Q E s:=by
 obtain⟨od,J,hl⟩:=I.look;exact PySem.W.get_value X J (PySem.W.plainGet_of hg).1 (PySem.W.findObj_own hh ha rfl (by rw[hl,hv])) hv' h
def zk8 {pl:Sem Bool}{Q:Â×List Â->Á->Prop}(X:K.In s.heap)(I:zeY s.heap x dx C mA)(hg:PySem.W.plainGet K C name=true)
  (hf:PySem.W.findIn K (.ref C) name=some (some (.ref f))) (ht:PySem.W.isFn K (.ref f)=true) (hv:mA name=none) (h:Q (.ref f,[.ref x]) s) :
  wpAny (model prog w) A (getMethod (.ref x) name pl) Q E s:=by
 obtain⟨od,J,hl⟩:=I.look;exact PySem.W.method_fn X J (PySem.W.plainGet_of hg).1 (PySem.W.plainGet_of hg).2 hf (beq_iff_eq.mp ht) (by show(PySem.W.lookIn name od).map (·.isSome)=some false;rw[hl,hv];rfl) h
def znM {Q:Unit->Á->Prop}(X:K.In s.heap)(I:zeY s.heap x dx C mA)(hs:PySem.W.findIn K (.ref C) "__setattr__"=some (some (.builtin "object.__setattr__")))(hp:PySem.W.plainOver K C=true)(ht:PySem.W.takerIn K C name=some none)(hh:PySem.W.hasDictIn K C=true)(hw:PySem.Within mA ns)(hsz:ns.length<=sizeLine)(h:∀ h',zeY h' x dx C (fun y=>if y=name then some v else mA y)->Heap.SameBut dx s.heap h'->Q () { s with heap:=h',toks:=s.toks+2 }) :
  wpAny (model prog w) A (setAttr (.ref x) name v) Q E s:=by
 obtain⟨od,J,hl⟩:=I.look;refine PySem.W.set_plain X J hs (PySem.W.osa_open (s:={ s with toks:=s.toks+1 }) (r:=none) X J hp ht fun b=>?_);obtain⟨cd,hc,hd'⟩:=PySem.W.any_some hh;have hx:s.heap.get? x=some ⟨.ref C,some dx,.plain,#[]⟩:=I.obj;refine wpAny_bind (wpAny_pure (wpAny_bind (wpAny_bind (wpAny_loadPart hx (wpAny_bind (PySem.W.Looks.here (s:={ s with toks:=s.toks+1 }) (PySem.W.looks_clsIn X hc) ?_))))));rw[hd'];refine wpAny_pure (a:=some dx) (wpAny_bind (wpAny_pure (wpAny_bind ?_)));refine wpAny_nsSet1 (s:={ s with toks:=s.toks+1 }) I.ns fun h' hn2 hs2=>?_
 obtain⟨oD,esD,epD,hoD,hdD,hcD⟩:=hn2.count (PySem.Within.cons name v hw);refine wpAny_bind (wpAny_lookBehind hoD (by rw[hdD];exact pastItsLine_dict (Nat.le_trans hcD (by rw[List.length_cons];lia))) ?_);exact wpAny_pure (h _ ⟨(hs2.2 _ (Ne.symm I.ne)).trans I.obj,hn2,I.ne⟩ hs2)
def zhq {R:Result->Á->Prop}{vs:List Â}{kw:List (Str×Â)}(X:K.In s.heap)(hm:PySem.W.makesIn K C=true)
    (hi:PySem.W.findIn K (.ref C) "__init__"=some (some (.ref f))) (hf:PySem.W.typeIn K (.ref f)=some (.type "function"))
    (h:codeAny (model prog w) (A.under (.builtin "type.__call__" ⟨.ref C::vs,kw⟩)) (.call (.ref f) ⟨.ref (s.heap.objs.size+1)::vs,kw⟩) (PySem.W.InitBack (s.heap.objs.size+1) R)
      { s with heap:=(s.heap.push PySem.W.emptyDict).push (PySem.W.instObj C s.heap.objs.size) }) :
    codeAny (model prog w) A (.call (.ref C) ⟨vs,kw⟩) R s:=by
  obtain⟨hh,g,d,t,os⟩:=s;exact PySem.W.make_core (PySem.W.makes_of X hm) (PySem.W.looks_findIn X hi) (fun self=>PySem.W.bind_fn X self hf) (.inl rfl) h
end
def zaR (f:Str)(v:V):List (Str×V)->List (Str×V)
 |[]=>[(f,v)]
 |(g,x)::r=>if g=f then(g,v)::r else(g,x)::zaR f v r
theorem zeK (f g:Str)(v:V):∀ fs:List (Str×V),(zaR f v fs).lookup g=if g=f then some v else fs.lookup g
 |[]=>by
  show List.lookup g [(f,v)]=_;by_cases h:g=f
  ·have hb:(g==f)=true:=beq_iff_eq.mpr h;simp only[List.lookup,hb,if_pos h]
  ·have hb:(g==f)=false:=beq_eq_false_iff_ne.mpr h;simp only[List.lookup,hb,if_neg h]
 |(k,x)::r=>by
  have ih:=zeK f g v r;rw[show zaR f v ((k,x)::r)=(if k=f then(k,v)::r else(k,x)::zaR f v r)from rfl];by_cases hk:k=f
  ·rw[if_pos hk];by_cases h:g=k
   ·have hb:(g==k)=true:=beq_iff_eq.mpr h;simp only[List.lookup,hb,if_pos (h.trans hk)]
   ·have hb:(g==k)=false:=beq_eq_false_iff_ne.mpr h;simp only[List.lookup,hb,if_neg (fun e:g=f=>h (e.trans hk.symm))]
  ·rw[if_neg hk];by_cases h:g=k
   ·have hb:(g==k)=true:=beq_iff_eq.mpr h;simp only[List.lookup,hb,if_neg (fun e:g=f=>hk (h.symm.trans e))]
   ·have hb:(g==k)=false:=beq_eq_false_iff_ne.mpr h;simp only[List.lookup,hb];exact ih
theorem zdT (f:Str)(v:V):∀ fs:List (Str×V),f∈(zaR f v fs).map (·.1)/\∀ g,g∈fs.map (·.1)->g∈(zaR f v fs).map (·.1)
 |[]=>⟨by simp[zaR],fun g h=>by simp at h⟩
 |(k,x)::r=>by
  obtain⟨i1,i2⟩:=zdT f v r;rw[show zaR f v ((k,x)::r)=(if k=f then(k,v)::r else(k,x)::zaR f v r)from rfl];by_cases hk:k=f
  ·rw[if_pos hk];subst hk;exact⟨by simp,fun g h=>by simpa using h⟩
  ·rw[if_neg hk];refine⟨?_,fun g h=>?_⟩
   ·rw[List.map_cons];exact List.mem_cons_of_mem _ i1
   ·rw[List.map_cons]at h ⊢;rcases List.mem_cons.mp h with e|e
    ·exact List.mem_cons.mpr (.inl e)
    ·exact List.mem_cons_of_mem _ (i2 g e)
theorem zeL (f:Str)(v:V):∀ fs:List (Str×V),(zaR f v fs).length<=fs.length+1
 |[]=>by simp[zaR]
 |(k,x)::r=>by
  have ih:=zeL f v r;rw[show zaR f v ((k,x)::r)=(if k=f then(k,v)::r else(k,x)::zaR f v r)from rfl];by_cases hk:k=f
  ·rw[if_pos hk,List.length_cons,List.length_cons];lia
  ·rw[if_neg hk,List.length_cons,List.length_cons];lia
def zcY.some_of {v:V}(r:zcY (some v) o):∃ u,o=some u/\RelV v u:=by
 cases o with
 |none=>exact(show False from r).elim
 |some u=>exact⟨u,rfl,r⟩
def zcY.none_of (r:zcY none o):o=none:=by
 cases o with
 |none=>rfl
 |some u=>exact(show False from r).elim
def zkz (r:RelV v u):PySem.W.handedIn u=true:=by
 cases v with
 |non=>cases(show u=Value.none from r);rfl
 |bl b=>cases(show u=Value.bool b from r);rfl
 |int i=>obtain⟨t,e⟩:=(show ∃ t,u=Value.int i t from r);cases e;rfl
 |str x=>obtain⟨t,e⟩:=(show ∃ t,u=Value.str x t from r);cases e;rfl
 |byt b=>obtain⟨t,e⟩:=(show ∃ t,u=Value.bytes b t from r);cases e;rfl
 |flt b=>obtain⟨t,e⟩:=(show ∃ t,u=Value.float b t from r);cases e;rfl
 |ref a=>cases(show u=Value.ref a from r);rfl
 |ty n=>cases(show u=Value.type n from r);rfl
section
variable {P:Program}{w:World}{H H':Hp}{h h':Heap}{a C dx:Addr}{fs fs':List (Str×V)}
def zeo (hok:HOk P w H h)(e:H a=some (.ins C dx fs)):∃ mA,zeY h a dx C mA/\(∀ f,zcY (fs.lookup f) (mA f))/\PySem.Within mA (fs.map (·.1))/\fs.length<=1000/\H dx=some (.own a):=by
 obtain⟨d,z,ne,ob,mA,n,r,q⟩:=(show zah P w H h a (.ins C dx fs)from hok a _ e)
 exact⟨mA,⟨ob,n,ne⟩,r,q,z,d⟩
end
structure Cls (K:À)(C:Addr):Prop where
 pg:PySem.W.plainGet K C Str.empty=true
 hd:PySem.W.hasDictIn K C=true
 po:PySem.W.plainOver K C=true
 sa:PySem.W.findIn K (.ref C) "__setattr__"=some (some (.builtin "object.__setattr__"))
def Cls.get {K:À}{C:Addr}(c:Cls K C)(f:Str):PySem.W.plainGet K C f=true:=c.pg
def zbf (K:À)(C:Addr)(f:Str):Prop:=PySem.W.findIn K (.ref C) f=some none
def zbf.taker {K:À}{C:Addr}(n:zbf K C f):PySem.W.takerIn K C f=some none:=by unfold PySem.W.takerIn;rw[show PySem.W.findIn K (.ref C) f=some none from n];rfl
structure Meth (K:À)(C:Addr)(m:Str)(f:Addr):Prop where
 at_:PySem.W.findIn K (.ref C) m=some (some (.ref f))
 fn:PySem.W.isFn K (.ref f)=true
 kp:PySem.W.keepIn K (.ref f)=true
section
variable {X:Cx}{pins:List (Addr×Obj)}{U:St}{H:Hp}{s:Á}{a C dx:Addr}{fs:List (Str×V)}{f:Str}{v:V}{A:Around}{E:Â->Á->Prop}
def ziZ {b:Bool}{Q:Â->Á->Prop}(I:Inv X pins U H s)(e:H a=some (.ins C dx fs))(c:Cls X.K C)(n:zbf X.K C f)(l:fs.lookup f=some v)
  (h:∀ u s',Inv X pins U H s'->RelV v u->Q u s'):wpAny (model X.prog X.w) A (getAttr (.ref a) f b) Q E s:=by
 obtain⟨mA,O,r,_,_,_⟩:=zeo I.hok e;obtain⟨u,hu,ru⟩:=zcY.some_of (v:=v) (o:=mA f) (by rw[<- l];exact r f);exact get_map I.kIn O (c.get f) c.hd n hu (zkz ru) (h u _ (I.tok _) ru)
def ziR {pl:Sem Bool}{Q:Â×List Â->Á->Prop}(I:Inv X pins U H s)(e:H a=some (.ins C dx fs))(c:Cls X.K C)(k:Meth X.K C m g)(l:fs.lookup m=none)(h:Q (.ref g,[.ref a]) s):wpAny (model X.prog X.w) A (getMethod (.ref a) m pl) Q E s:=by obtain⟨mA,O,r,_,_,_⟩:=zeo I.hok e;have hn:mA m=none:=zcY.none_of (by rw[<- l];exact r m);exact zk8 I.kIn O (c.get m) k.at_ k.fn hn h
def zjG {Q:Unit->Á->Prop}(I:Inv X pins U H s)(e:H a=some (.ins C dx fs))(c:Cls X.K C)(n:zbf X.K C f)(hl:fs.length<1000)(ry:RelV y u)(h:∀ s',Inv X pins U (upd H a (.ins C dx (zaR f y fs))) s'->Q () s'):wpAny (model X.prog X.w) A (setAttr (.ref a) f u) Q E s:=by
 obtain⟨mA,O,r,wi,_,ho⟩:=zeo I.hok e;have hz:(fs.map (·.1)).length<=sizeLine:=by rw[List.length_map,sizeLine_eq];lia
 refine znM I.kIn O c.sa c.po n.taker c.hd wi hz fun h' O' sb=>h _ ?_
 have hd:∃ o,h'.get? dx=some o:=let ⟨o,_,_,e',_⟩:=O'.ns;⟨o,e'⟩;refine I.write (x:=a) (e:=dx) (by rw[e];exact True.intro) (.inr ho) (fun b q hb z=>(sb.2 b hb).trans z) hd ?_;refine⟨by rw[zA O.ne];exact ho,?_,O.ne,O'.obj,_,O'.ns,fun g=>?_,fun g hg=>?_⟩
 ·have:=zeL f y fs;lia
 ·show zcY ((zaR f y fs).lookup g) (if g=f then some u else mA g);rw[zeK];by_cases q:g=f
  ·rw[if_pos q,if_pos q];exact ry
  ·rw[if_neg q,if_neg q];exact r g
 ·by_cases q:g=f
  ·rw[q];exact(zdT f y fs).1
  ·refine(zdT f y fs).2 g (wi g fun z=>hg ?_);show(if g=f then some u else mA g)=none;rw[if_neg q];exact z
def Inv.made (I:Inv X pins U H s):Inv X pins U (upd (upd H s.heap.objs.size (.own (s.heap.objs.size+1))) (s.heap.objs.size+1) (.ins C s.heap.objs.size []))
    { s with heap:=(s.heap.push PySem.W.emptyDict).push (PySem.W.instObj C s.heap.objs.size) }:=by
  have e1:(s.heap.push PySem.W.emptyDict).get? s.heap.objs.size=some PySem.W.emptyDict:=Heap.get?_push_size s.heap rfl
  have e2:((s.heap.push PySem.W.emptyDict).push (PySem.W.instObj C s.heap.objs.size)).get? (s.heap.objs.size+1)=some (PySem.W.instObj C s.heap.objs.size):=by have:=Heap.get?_push_size (s.heap.push PySem.W.emptyDict) (o:=PySem.W.instObj C s.heap.objs.size) rfl;rwa[Heap.size_push]at this
  have e3:(s.heap.push PySem.W.emptyDict).Ns s.heap.objs.size (fun _=>none):=⟨PySem.W.emptyDict,#[],_,e1,rfl,(fun e he=>absurd he (by simp)),fun _=>rfl⟩
  have I1:=I.laid (a:=s.heap.objs.size) (o:=.own (s.heap.objs.size+1)) (h':=s.heap.push PySem.W.emptyDict) (t':=s.toks) (fun b u q=>Heap.get?_push_of_some _ q) (Nat.le_refl _) ⟨_,e1⟩;refine I1.laid (a:=s.heap.objs.size+1) (o:=.ins C s.heap.objs.size []) (t':=s.toks) (fun b u q=>Heap.get?_push_of_some _ q) (Nat.le_of_eq (Heap.size_push _ _)) ?_;have ne:s.heap.objs.size≠s.heap.objs.size+1:=Nat.ne_of_lt (Nat.lt_succ_self _);refine⟨by rw[zA ne,zaa],Nat.zero_le _,ne,e2,fun _=>none,(Heap.Ns1.of_empty e3).at fun o q=>Heap.get?_push_of_some _ q,fun _=>True.intro,fun y hy=>absurd rfl hy⟩
def zo3 {prog:Program}{w:World}{env:Env}{e:Expr}{f:Str}{pos:Pos}{s:Á}{Q:Â->Á->Prop}(hb:attributeBase e f env (eval e env)=eval e env)
  (h:wpAny (model prog w) A (eval e env) (fun o s₁=>wpAny (model prog w) A (getAttr o f true) Q E s₁) E s):wpAny (model prog w) A (eval (.Attribute e f pos) env) Q E s :=
 Attribute_any_ h (by rw[arm_eval_Attribute,hb])
end
def zt9 (K:À)(ta:TE)(f:Str):TE:=fun U H Q=>ta U H fun x H1=>∃ a C dx fs v,x=.ref a/\H1 a=some (.ins C dx fs)/\Cls K C/\zbf K C f/\fs.lookup f=some v/\Q v H1
def zvo (K:À)(ta tv:TE)(f:Str):TS:=fun D U H=>tv U H fun y H1=>ta U H1 fun x H2=>∃ a C dx fs,x=.ref a/\H2 a=some (.ins C dx fs)/\Cls K C/\zbf K C f/\fs.length<1000 /\
 D.nx U (upd H2 a (.ins C dx (zaR f y fs)))
section
variable {X:Cx}{o e value:Expr}{f:Str}{pos pos' tpos:Pos}{ta tv:TE}
def zqa (he:PE X e ta)(hb:attributeBase e f X.env (eval e X.env)=eval e X.env):PE X (.Attribute e f pos) (zt9 X.K ta f):=by intro pins s U H Q I h;refine zo3 hb (thn (he pins s U H _ I h) fun u s1 ⟨x,H1,I1,rx,a,C,dx,fs,v,ex,ea,c,n,l,q⟩=>?_);subst ex;obtain rfl:u=Value.ref a:=rx;exact ziZ I1 ea c n l fun u' s2 I2 ru=>⟨v,H1,I2,ru,q⟩
def zrP (ha:PE X o ta)(hv:PE X value tv)(hs:swapsWith value (some (.Attribute o f pos')) pos.line X.env=pure false):PS X (.Assign [.Attribute o f pos'] value pos) (zvo X.K ta tv f):=by intro pins s U H D I h;refine plainObj_wpAny_Assign_Attribute (thn (hv pins s U H _ I h) fun u s1 ⟨y,H1,I1,ry,q⟩=>thn (ha pins s1 U H1 _ I1 q) fun ov s2 ⟨x,H2,I2,rx,a,C,dx,fs,ex,ea,c,n,l,q2⟩=>?_) hs;subst ex;obtain rfl:ov=Value.ref a:=rx;exact zjG I2 ea c n l ry fun s3 I3=>⟨U,_,I3,q2⟩
end
section
variable {X:Cx}{pins:List (Addr×Obj)}{U:St}{H:Hp}{s:Á}{A:Around}{E:Â->Á->Prop}{Q:Â->Á->Prop}{c:Â}{b:Bool}
inductive zbQ (K:À)(H:Hp):V->Value->Prop where
 | non:zbQ K H .non (.type "NoneType")
 | bl (x:Bool):zbQ K H (.bl x) (.type "bool")
 | int (i:Int):zbQ K H (.int i) (.type "int")
 | str (x:Str):zbQ K H (.str x) (.type "str")
 | flt (x:UInt64):zbQ K H (.flt x) (.type "float")
 | lst {a:Addr} {xs:List V} (e:H a=some (.lst xs)):zbQ K H (.ref a) (.type "list")
 | frz {a:Addr} {o:Obj} {xs:List V} (e:H a=some (.frz o (.lst xs))):zbQ K H (.ref a) (.type "list")
 | tup {a:Addr} {xs:List V} (e:H a=some (.tup xs)):zbQ K H (.ref a) (.type "tuple")
 | dK {a:Addr} {kvs:List (Key×V)} (e:H a=some (.dK kvs)):zbQ K H (.ref a) (.type "dict")
 | dT {a:Addr} {kvs:List (List Key×V)} (e:H a=some (.dT kvs)):zbQ K H (.ref a) (.type "dict")
 | ins {a C dx:Addr} {fs:List (Str×V)} (e:H a=some (.ins C dx fs)) (cl:Cls K C) (ha:PySem.W.findIn K (.ref C) "__class__"=some (some (.builtin "object.__class__")))
   (hn:PySem.W.specialIn K (.builtin "object.__class__") "__get__"=some (some (.builtin "getset_descriptor.__get__"))) (htk:PySem.W.takesIn K (.builtin "object.__class__")=some true)
   (hm:PySem.W.mroIn K C (.type "object")=some true):zbQ K H (.ref a) (.ref C)
def zjT (I:Inv X pins U H s)(rx:RelV x u)(ty:zbQ X.K H x t)(e:PySem.W.kitOne X.K t c=some b)(h:∀ tk,Q (.bool b) { s with toks:=tk }) :
  wpAny (model X.prog X.w) A (call (.builtin "isinstance") [u,c]) Q E s:=by
 cases ty with
 |non=>cases(show u=Value.none from rx);exact PySem.W.kia_one PySem.W.kitx_none I.kIn True.intro e (fun z=>nomatch z) h
 |bl y=>cases(show u=Value.bool y from rx);exact PySem.W.kia_one PySem.W.kitx_bool I.kIn True.intro e (fun z=>nomatch z) h
 |int i=>obtain⟨t,q⟩:=(show ∃ t,u=Value.int i t from rx);cases q;exact PySem.W.kia_one PySem.W.kitx_int I.kIn True.intro e (fun z=>nomatch z) h
 |str y=>obtain⟨t,q⟩:=(show ∃ t,u=Value.str y t from rx);cases q;exact PySem.W.kia_one PySem.W.kitx_str I.kIn True.intro e (fun z=>nomatch z) h
 |flt y=>obtain⟨t,q⟩:=(show ∃ t,u=Value.float y t from rx);cases q;exact PySem.W.kia_one PySem.W.kitx_float I.kIn True.intro e (fun z=>nomatch z) h
 |@lst a xs ea =>
  cases(show u=Value.ref a from rx);obtain⟨_,_,n,_,h1⟩:=(show zah X.prog X.w H s.heap a (.lst xs)from I.hok a _ ea)
  exact PySem.W.kia_one PySem.W.kitx_list I.kIn ⟨_,h1,rfl⟩ e (fun z=>nomatch z) h
 |@frz a ob xs ea =>
  cases(show u=Value.ref a from rx);obtain⟨_,_,_,n,_,h1⟩:=(show zah X.prog X.w H s.heap a (.frz ob (.lst xs))from I.hok a _ ea)
  exact PySem.W.kia_one PySem.W.kitx_list I.kIn ⟨_,h1,rfl⟩ e (fun z=>nomatch z) h
 |@tup a xs ea =>
  cases(show u=Value.ref a from rx);obtain⟨_,_,_,p⟩:=(show zah X.prog X.w H s.heap a (.tup xs)from I.hok a _ ea)
  obtain⟨o,h1,h2,_⟩:=p;exact PySem.W.kia_one PySem.W.kitx_tuple I.kIn ⟨o,h1,h2⟩ e (fun z=>nomatch z) h
 |@dK a kvs ea =>
  cases(show u=Value.ref a from rx);obtain⟨_,_,vs,_,p⟩:=(show zah X.prog X.w H s.heap a (.dK kvs)from I.hok a _ ea)
  obtain⟨o,es,ep,h1,h2,_⟩:=p;exact PySem.W.kia_one PySem.W.kitx_dict I.kIn ⟨o,h1,h2.1⟩ e (fun z=>nomatch z) h
 |@dT a kvs ea =>
  cases(show u=Value.ref a from rx);obtain⟨_,_,xs,_,o,es,ep,h1,h2,_⟩:=(show zah X.prog X.w H s.heap a (.dT kvs)from I.hok a _ ea)
  exact PySem.W.kia_one PySem.W.kitx_dict I.kIn ⟨o,h1,h2.1⟩ e (fun z=>nomatch z) h
 |@ins a C dx fs ea cl ha hn htk hm =>cases(show u=Value.ref a from rx);obtain⟨mA,O,_⟩:=zeo I.hok ea;obtain⟨od,J,_⟩:=O.look;exact PySem.W.kia_one (PySem.W.kitx_own (cl.get _) cl.hd ha hn htk hm) I.kIn J e (fun z=>nomatch z) h
end
structure zP (k:Nat)(A:Around):Prop where
 hd:A.handled=none
 dp:A.depth+3*k+5<recursionLimit
 un:A.units+16*k+200<cLine
def zP.mono {j:Nat}(r:zP k A)(h:j<=k):zP j A:=⟨r.hd,by have:=r.dp;lia,by have:=r.un;lia⟩
theorem zP.deeper (r:zP (k+1) A)(env:Env):zP k (A.deeper env) :=⟨r.hd,by have:=r.dp;show A.depth+1+3*k+5<_;lia,by have:=r.un;show A.units+3+16*k+200<_;lia⟩
def zjj {A:Around}{C:Addr}{us:List Â}{kw:List (Str×Â)}:(A.under (.builtin "type.__call__" ⟨.ref C::us,kw⟩)).depth=A.depth+1:=by first|rfl|simp[Around.under,Code.weight,Code.isCreation,Code.isGuard,Code.isCaller,Code.frames,Code.isFrame,guardIds]
def zi1 {A:Around}{C:Addr}{us:List Â}{kw:List (Str×Â)}:(A.under (.builtin "type.__call__" ⟨.ref C::us,kw⟩)).units=A.units+1:=by first|rfl|simp[Around.under,Code.cUnits,Code.frames,Code.isFrame]
def zP.make (r:zP (k+1) A)(C:Addr)(us:List Â)(kw:List (Str×Â)):zP k (A.under (.builtin "type.__call__" ⟨.ref C::us,kw⟩)) :=⟨r.hd,by have:=r.dp;rw[zjj];lia,by have:=r.un;rw[zi1];lia⟩
theorem zP.depth (r:zP k A):A.depth<recursionLimit:=by have:=r.dp;lia
theorem zP.units (r:zP k A):A.units+64<cLine:=by have:=r.un;lia
def zuX:TA:=fun _ H Q=>Q [] H
def zsX (ta:TE)(tr:TA):TA:=fun U H Q=>ta U H fun x H1=>tr U H1 fun xs H2=>Q (x::xs) H2
section
variable {X:Cx}{e:Expr}{es:List Expr}{te:TE}{t:TA}{pos:Pos}
def zpE:PA X [] zuX:=fun _ _ _ _ H Q I h=>Calls.spliced_nil ⟨[],H,I,.nil,h⟩
def zop (ha:PE X e te)(hr:PA X es t)(hs:autoParam (starEach (e::es) X.env=(false,eval e X.env)::starEach es X.env) zq):PA X (e::es) (zsX te t):=by intro pos pins s U H Q I h;rw[hs];show wpAny _ _ (spliced ((false,eval e X.env)::backTo pos (starEach es X.env))) _ _ s;refine Calls.spliced_cons (thn (ha pins s U H _ I h) fun u s1 ⟨x,H1,I1,r1,q1⟩=>?_);exact thn (hr pos pins s1 U H1 _ I1 q1) fun us s2 zq5=>by obtain⟨xs,H2,I2,r2,q2⟩:=zq5;exact⟨x::xs,H2,I2,.cons r1 r2,q2⟩
def zuk (t:TA):TE:=fun U H Q=>t U H fun xs H1=>xs.length<=sizeLine/\∀ p,H1 p=none->Q (.ref p) (upd H1 p (.tup xs))
def zuW (t:TA):TE:=fun U H Q=>t U H fun xs H1=>xs.length<=sizeLine/\∀ p,H1 p=none->Q (.ref p) (upd H1 p (.lst xs))
def zqV {x1}(h:PA X es t):PE X (.Tuple es x1 pos) (zuk t):=by intro pins s U H Q I hq;refine wpAny_Tuple_spliced (thn (h pos pins s U H _ I hq) fun us s1 ⟨xs,H1,I1,r,z,q⟩=>⟨by rw[<- r.length];exact z,?_⟩);have hf:H1 s1.heap.objs.size=none:=I1.hok.fresh (Nat.le_refl _);refine⟨.ref s1.heap.objs.size,upd H1 s1.heap.objs.size (.tup xs),I1.laid (t':=s1.toks) (fun b u e=>Heap.get?_push_of_some _ e) (Nat.le_refl _) ?_,rfl,q _ hf⟩;exact⟨z,us,r,⟨_,Heap.get?_push_size _ rfl,rfl,_,rfl⟩⟩
def zqH (h:PA X es t):PE X (.List es pos) (zuW t):=by intro pins s U H Q I hq;refine wpAny_List_spliced (thn (h pos pins s U H _ I hq) fun us s1 ⟨xs,H1,I1,r,z,q⟩=>⟨by rw[<- r.length];exact z,?_⟩);have hf:H1 s1.heap.objs.size=none:=I1.hok.fresh (Nat.le_refl _);refine⟨.ref s1.heap.objs.size,upd H1 s1.heap.objs.size (.lst xs),I1.laid (t':=s1.toks) (fun b u e=>Heap.get?_push_of_some _ e) (Nat.le_refl _) ?_,rfl,q _ hf⟩;exact⟨z,us,0,r,Heap.get?_push_size _ rfl⟩
end
abbrev Sp:=List V->Hp->VK->XK->Prop
abbrev CXT:=List Env->Hp->Á->XK->Â->Á->Prop
structure zfb (P:Program)(w:World)(K:À)(mg:Str->Option Â)(base:Heap)(A:Around)(outer:List Env)(s:Á)(H:Hp):Prop where
 frames:A.frames=some outer
 mod:Mod K mg base
 bs:∀ b o,base.get? b=some o->s.heap.get? b=some o/\H b=none
 bsz:base.objs.size<=s.heap.objs.size
 funs:s.heap.FunFrames base outer
 frf:∀ b∈frs outer,H b=none
 hok:HOk P w H s.heap
 bare:AllBare s.gens
def CE (outer:List Env)(P:Program)(w:World)(H:Hp)(s:Á)(Q:VK)(u:Â)(s':Á):Prop :=∃ v H',s'.os=s.os/\AllBare s'.gens/\Un (frs outer) [] H H' s.heap s'.heap/\HOk P w H' s'.heap/\RelV v u/\Q v H'
def CR (CX:CXT)(outer:List Env)(P:Program)(w:World)(H:Hp)(s:Á)(Q:VK)(E:XK)(r:Result)(s':Á):Prop :=
 match r with
 |.ok (.ret u)=>CE outer P w H s Q u s'
 |.ok _=>False
 |.error e=>CX outer H s E e s'
structure zaF (P:Program)(w:World)(K:À)(mg:Str->Option Â)(base:Heap)(CX:CXT)(k:Nat)(f:Addr)(fd:FuncData)(ps:List Str)(sp:Sp):Prop where
 len:∀ vs H Q E,sp vs H Q E->vs.length=ps.length
 run:∀ (A:Around) (outer:List Env) (s:Á) (H:Hp) (args:Args) (us:List Â) (vs:List V) (Q:VK) (E:XK),zP k A->zfb P w K mg base A outer s H->BindsTo s fd args (ps.zip us)->Vals vs us->sp vs H Q E ->
  codeAny (model P w) A (.call (.ref f) args) (CR CX outer P w H s Q E) s
theorem zaF.mono {K:À}{base:Heap}{k:Nat}(F:zaF P w K mg base CX j f fd ps sp)(h:j<=k) :
  zaF P w K mg base CX k f fd ps sp:=⟨F.len,fun A outer s H args us vs Q E hr=>F.run A outer s H args us vs Q E (hr.mono h)⟩
def zfb.make {K:À}{base:Heap}(e:zfb P w K mg base A outer s H)(C:Addr)(us:List Â)(kw:List (Str×Â)) :
  zfb P w K mg base (A.under (.builtin "type.__call__" ⟨.ref C::us,kw⟩)) outer s H:=⟨by first | exact e.frames | (simpa [Around.under,Code.envs,Code.isFrame,pushEnvs]using e.frames),e.mod,e.bs,e.bsz,e.funs,e.frf,e.hok,e.bare⟩
section
variable {X:Cx}{pins:List (Addr×Obj)}{U:St}{H:Hp}{s s':Á}
def Inv.env0 (I:Inv X pins U H s):zfb X.prog X.w X.K X.mg X.base X.A X.stack s H :=⟨I.ok.frames,I.ok.mod,I.bs,Nat.le_trans I.ok.bsz I.sz,I.stack,I.stkFree,I.hok,I.bare⟩
def Inv.after (I:Inv X pins U H s)(h:CE X.stack X.prog X.w H s Q u s'):EP X pins U Q u s':=by obtain⟨v,H',os,bare,un,hok,r,q⟩:=h;obtain⟨hh,g,d,t,os'⟩:=s';obtain rfl:os'=s.os:=os;exact⟨v,H',I.call (h':=hh) (g':=g) (d':=d) (t':=t) (ch:=[]) un hok bare (fun b z=>absurd z (by simp)),r,q⟩
end
def zjg (sp:Sp)(dvs:List V)(E:XK)(t:TA):TE:=fun U H Q=>t U H fun vs H1=>sp (vs++dvs) H1 Q E
def Binds (K:À)(fd:FuncData)(ps:List Str)(ds:List Â):Prop :=∀ (s:Á) (us:List Â),K.In s.heap->(us++ds).length=ps.length->BindsTo s fd ⟨us,[]⟩ (ps.zip (us++ds))
def Binds.all {K:À}{fd:FuncData}{ps:List Str}(h:∀ us:List Â,us.length=ps.length->bindArgs fd ⟨us,[]⟩=pure (ps.zip us)):Binds K fd ps []:=fun s us _ hl=>by rw[List.append_nil]at hl ⊢;exact .of_eq (h us hl)
def Passes (CX:CXT)(X:Cx)(E:XK):Prop:=∀ (pins:List (Addr×Obj)) (U:St) (H:Hp) (s:Á) (e:Â) (s':Á),Inv X pins U H s->CX X.stack H s E e s'->X.xe e s'
section
variable {X:Cx}{CX:CXT}{k:Nat}{f C:Addr}{fd:FuncData}{ps:List Str}{sp:Sp}{dvs:List V}{ds:List Â}{E:XK}{x m:Str}{p pos apos:Pos}{e o:Expr}{es:List Expr}{ta:TE}{t:TA}
def zrD {Q:VK}(F:zaF X.prog X.w X.K X.mg X.base CX k f fd ps sp)(hr:zP k X.A)(hb:Binds X.K fd ps ds)(hd:Vals dvs ds)(hx:Passes CX X E)(I:Inv X pins U H s)(r:Vals vs us)(h:sp (vs++dvs) H Q E):wpAny (model X.prog X.w) X.A (call (.ref f) us) (EP X pins U Q) X.xe s:=by
 have r2:Vals (vs++dvs) (us++ds):=r.append hd;have hl:(us++ds).length=ps.length:=by rw[<- r2.length];exact F.len _ _ _ _ h
 refine wpAny_call (codeAny_mono (F.run X.A X.stack s H ⟨us,[]⟩ (us++ds) (vs++dvs) Q E hr I.env0 (hb s us I.kIn hl) r2 h) fun r s' hq=>?_);cases r with
 |error e=>exact hx pins U H s e s' I hq
 |ok fl =>
  cases fl with
  |ret u=>exact I.after hq
  |next=>exact False.elim hq
  |brk=>exact False.elim hq
  |cont=>exact False.elim hq
def zo2 (F:zaF X.prog X.w X.K X.mg X.base CX k f fd ps sp)(hr:zP k X.A)(hg:Gl X x)(hm:X.mg x=some (.ref f))(hk:PySem.W.keepIn X.K (.ref f)=true)(hb:Binds X.K fd ps ds)(hd:Vals dvs ds)(hx:Passes CX X E)
  (ha:PA X (e::es) t) (hdb:(x==("__debug__":Str))=false:=by decide) (he:starEach (e::es) X.env=(false,eval e X.env)::starEach es X.env:=by rfl) (hpl:(backTo pos (starEach es X.env)).any (·.1)=false:=by rfl) :
  PE X (.Call (.Name x p) (e::es) [] pos) (zjg sp dvs E t):=by
 intro pins s U H Q I h;refine wpAny_Call_Name_kw (zbB I hg hm ?_ hdb);refine PySem.W.callWith_K (h₀:=X.base) I.ok.mod.kin hk (thn (ha pos pins s U H _ I h) fun us s1 ⟨vs,H1,I1,r,q⟩=>⟨I1.kIn,?_⟩) he hpl;exact zrD F hr hb hd hx I1 r q
structure Mk (K:À)(C f:Addr):Prop where
 makes:PySem.W.makesIn K C=true
 init:PySem.W.findIn K (.ref C) "__init__"=some (some (.ref f))
 fn:PySem.W.isFn K (.ref f)=true
 kp:PySem.W.keepIn K (.ref C)=true
def zmm {Q:VK}(M:Mk X.K C f)(F:zaF X.prog X.w X.K X.mg X.base CX k f fd ps sp)(hr:zP (k+1) X.A)(hb:Binds X.K fd ps ds)(hd:Vals dvs ds)(hx:Passes CX X E)(I:Inv X pins U H s)(r:Vals vs us)(h:∀ x dx,H x=none->H dx=none->dx≠x->sp (.ref x::(vs++dvs)) (upd (upd H dx (.own x)) x (.ins C dx [])) (fun v H2=>v=.non/\Q (.ref x) H2) E) :
  wpAny (model X.prog X.w) X.A (call (.ref C) us) (EP X pins U Q) X.xe s:=by
 have hq:=h (s.heap.objs.size+1) s.heap.objs.size (I.hok.fresh (Nat.le_succ _)) (I.hok.fresh (Nat.le_refl _)) (Nat.ne_of_lt (Nat.lt_succ_self _));have I2:=Inv.made (C:=C) I;have r2:Vals (V.ref (s.heap.objs.size+1)::(vs++dvs)) (Value.ref (s.heap.objs.size+1)::(us++ds)):=.cons rfl (r.append hd)
 have hl:(Value.ref (s.heap.objs.size+1)::us++ds).length=ps.length:=by have e:=r2.length;rw[F.len _ _ _ _ hq]at e;exact e.symm
 refine wpAny_call (zhq (f:=f) I.kIn M.makes M.init (beq_iff_eq.mp M.fn) (codeAny_mono (F.run _ X.stack _ _ ⟨Value.ref (s.heap.objs.size+1)::us,[]⟩ (Value.ref (s.heap.objs.size+1)::(us++ds)) _ _ E (hr.make C us [])
  (I2.env0.make C us []) (hb _ (Value.ref (s.heap.objs.size+1)::us) I2.kIn hl) r2 hq) fun r s' hq'=>?_))
 cases r with
 |error e=>exact hx pins U _ _ e s' I2 hq'
 |ok fl =>
  cases fl with
  |ret u =>obtain⟨v,H',I3,rv,ev,q3⟩:=I2.after hq';subst ev;exact⟨rv,⟨V.ref (s.heap.objs.size+1),H',I3,rfl,q3⟩⟩
  |next=>exact False.elim hq'
  |brk=>exact False.elim hq'
  |cont=>exact False.elim hq'
end
structure zcz (N P:List Str)(sc:Scope):Prop where
 kind:sc.kind=.function
 co:sc.isCoroutine=false
 gen:sc.isGenerator=false
 nd:N.Nodup
 pre:N.take P.length=P
 par:∀ x∈P,sc.names.lookup x=some .local\/sc.names.lookup x=some .cell
 nofree:∀ y∈sc.names,y.2≠.free
theorem zgf {kindOf:Str->Option NameKind}{x:Str}:∀ {binds:List (Str×Â)} {m:Str->Option Â},(∀ v,(x,v)∉binds)->bindL kindOf binds m x=m x
 |[],_,_=>rfl
 |(n,v)::r,m,h=>by
  unfold bindL;rw[zgf fun w hw=>h w (List.mem_cons_of_mem _ hw)];split
  ·have:x≠n:=by rintro rfl;exact h v List.mem_cons_self
   simp[this]
  ·rfl
theorem zgh {kindOf:Str->Option NameKind}{x:Str}:∀ {binds:List (Str×Â)} {m:Str->Option Â},(∀ v,(x,v)∉binds)->bindC kindOf binds m x=m x
 |[],_,_=>rfl
 |(n,v)::r,m,h=>by
  unfold bindC;rw[zgh fun w hw=>h w (List.mem_cons_of_mem _ hw)];split
  ·rfl
  ·have:x≠n:=by rintro rfl;exact h v List.mem_cons_self
   simp[this]
theorem zgn {kindOf:Str->Option NameKind}{x:Str}{v:Â}:∀ {P:List Str} {vs:List Â} {i:Nat} {m:Str->Option Â},P.Nodup->P[i]?=some x->vs[i]?=some v->kindOf x=some .local ->
  bindL kindOf (P.zip vs) m x=some v
 |[],_,_,_,_,h,_,_=>by simp at h
 |_::_,[],_,_,_,_,h,_=>by simp at h
 |p::P,w::vs,0,m,nd,h1,h2,hk=>by simp at h1 h2;subst h1;subst h2;show bindL kindOf ((p,w)::P.zip vs) m p=_;unfold bindL;rw[zgf fun v hv=>(List.nodup_cons.mp nd).1 (List.of_mem_zip hv).1,if_pos hk];simp
 |p::P,w::vs,i+1,m,nd,h1,h2,hk=>by show bindL kindOf ((p,w)::P.zip vs) m x=_;unfold bindL;exact zgn (i:=i) (List.nodup_cons.mp nd).2 (by simpa using h1) (by simpa using h2) hk
theorem zgw {kindOf:Str->Option NameKind}{x:Str}{v:Â}:∀ {P:List Str} {vs:List Â} {i:Nat} {m:Str->Option Â},P.Nodup->P[i]?=some x->vs[i]?=some v->kindOf x≠some .local ->
  bindC kindOf (P.zip vs) m x=some v
 |[],_,_,_,_,h,_,_=>by simp at h
 |_::_,[],_,_,_,_,h,_=>by simp at h
 |p::P,w::vs,0,m,nd,h1,h2,hk=>by simp at h1 h2;subst h1;subst h2;show bindC kindOf ((p,w)::P.zip vs) m p=_;unfold bindC;rw[zgh fun v hv=>(List.nodup_cons.mp nd).1 (List.of_mem_zip hv).1,if_neg hk];simp
 |p::P,w::vs,i+1,m,nd,h1,h2,hk=>by show bindC kindOf ((p,w)::P.zip vs) m x=_;unfold bindC;exact zgw (i:=i) (List.nodup_cons.mp nd).2 (by simpa using h1) (by simpa using h2) hk
def start (N:List Str)(vs:List V):St:=vs.map some++List.replicate (N.length-vs.length) none
def zc5 (CX:CXT)(P:Program)(w:World)(K:À)(mg:Str->Option Â)(base:Heap)(N:List Str)(qual:Str)(scope:Scope)(f:Addr)(cd:Â)(A:Around)(outer:List Env)(s:Á)(H:Hp)(E:XK):Cx where
 prog:=P
 w:=w
 K:=K
 mg:=mg
 base:=base
 A:=A.deeper (envOfC qual scope s.heap.objs.size f cd)
 N:=N
 s₀:=s
 H₀:=H
 env:=envOfC qual scope s.heap.objs.size f cd
 outer:=outer
 stack:=envOfC qual scope s.heap.objs.size f cd::outer
 ex:=[]
 calm:=true
 fn:=fun _=>true
 pn:=[]
 xe:=fun e s'=>wpAny (model P w) (A.deeper (envOfC qual scope s.heap.objs.size f cd)) (leaving (envOfC qual scope s.heap.objs.size f cd) e) (fun _ s''=>CX outer H s E e s'') (fun e' s''=>CX outer H s E e' s'') s'
def zhi {sc:Scope}{n:Nat}{x:Str}(h:sc.names.lookup x=some .cell):∃ c,(cellsFrom n sc.names []).lookup x=some c:=by have q:=PySem.W.cellsFrom_some sc.names n [] (.inl h);exact Option.isSome_iff_exists.mp q
def zkW {CX:CXT}{K:À}{base:Heap}{qual:Str}{f:Addr}{cd:Â}{A:Around}{s1:Á}{E:XK}{vs:List V}(S:zcz N ps scope)(hd:A.handled=none)(e0:zfb P w K mg base A outer s H)(hl:vs.length=ps.length)(r:Vals vs us)(x:InCallC s s.heap.objs.size (bindL (envOfC qual scope s.heap.objs.size f cd).kindOf (ps.zip us) fun _=>none) (cellsFrom (s.heap.objs.size+1) scope.names []) (bindC (envOfC qual scope s.heap.objs.size f cd).kindOf (ps.zip us) fun _=>none) s1) :
    Inv (zc5 CX P w K mg base N qual scope f cd A outer s H E) [] (start N vs) H s1:=by
  have hpl:ps.length<=N.length:=by have:=congrArg List.length S.pre;rw[List.length_take]at this;lia
  obtain⟨h1,tk,rfl,hk⟩:=x.done;have noA:∀ b:Addr,b∉(zc5 CX P w K mg base N qual scope f cd A outer s H E).ex:=fun b z=>absurd (show b∈([]:List Addr)from z) (by simp)
  refine⟨⟨e0.mod,S.kind,rfl,rfl,Nat.le_refl _,fun y z c h1 h2=>?_,fun y hy=>?_,fun y c _ h=>?_,fun _=>hd,Around.frames_deeper e0.frames,.inr ⟨rfl,rfl⟩,fun b z=>absurd z (noA b),e0.bs,e0.bsz,fun b _ _=>noA b,fun b z=>absurd z (noA b),e0.funs,e0.frf⟩,
    rfl,e0.bare,Un.kept hk,⟨_,x.toInCall.ns,fun i y v h1 h2 h3=>?_⟩,fun y c h=>⟨_,x.cell y c h⟩,e0.hok.fresh (Nat.le_refl _),fun y c h=>?_,fun p hp=>absurd (show p∈([]:List (Addr×Obj))from hp) (by simp),e0.hok.kept hk,?_⟩
  . exact name_of_addr x.apart (PySem.mem_of_lookup h1) (PySem.mem_of_lookup h2)
  . have hy:scope.names.lookup y=some .cell\/scope.names.lookup y=some .free:=hy;rcases hy with hy|hy
    . exact zhi hy
    . exact absurd rfl (S.nofree _ (PySem.mem_of_lookup hy))
  . exact Nat.le_of_lt (x.above y c (PySem.mem_of_lookup h))
  . have hi : i < vs.length := by
      unfold start at h2;by_cases hi:i<vs.length
      . exact hi
      . rw[List.getElem?_append_right (by simpa using hi)]at h2;rw[List.getElem?_replicate]at h2;split at h2<;>cases h2
    have ha:vs[i]?=some v:=by
      unfold start at h2;rw[List.getElem?_append_left (by simpa using hi),List.getElem?_map]at h2;cases e:vs[i]? with
      |none=>rw[e]at h2;cases h2
      |some a=>rw[e]at h2;cases h2;rfl
    obtain⟨u,hu,rv⟩:=r.get ha
    have hp:ps[i]?=some y:=by rw[<- S.pre,List.getElem?_take_of_lt (by lia)];exact h1
    have ndP:ps.Nodup:=by rw[<- S.pre];exact S.nd.sublist (List.take_sublist _ _)
    refine⟨u,rv,?_⟩;rcases S.par y (List.mem_of_getElem? hp)with k|k
    . exact .inl ⟨k,zgn ndP hp hu k⟩
    . obtain⟨c,e⟩:=zhi (n:=s.heap.objs.size+1) k;refine .inr ⟨.inl k,c,e,?_⟩;have q:=x.cell y c e;rw[zgw ndP hp hu (by show scope.names.lookup y≠_;rw[k];decide)]at q;exact q
  . exact e0.hok.fresh (Nat.le_of_lt (x.above y c (PySem.mem_of_lookup h)))
  . unfold start;show _=N.length;rw[List.length_append,List.length_map,List.length_replicate];lia
def zmw {CX:CXT}{P:Program}{w:World}{K:À}{mg:Str->Option Â}{base:Heap}{k:Nat}{name qual:Str}{params:Arguments}{body:List Stmt}{scope:Scope}{dV kV doc pm cdv ct oc:Â}{an od:Option Addr}{osl:Array (Option Â)}{sp:Sp}(lk:K.lookup f=some ⟨oc,od,.func (PySem.W.fnOf name qual params body scope dV kV doc pm an cdv ct),osl⟩)(hcd:PySem.W.codeIn K cdv qual=true)(S:zcz N ps scope)(len:∀ vs H Q E,sp vs H Q E->vs.length=ps.length)(hbody:∀ (A:Around) (outer:List Env) (s:Á) (H:Hp) (vs:List V) (Q:VK) (E:XK),zP k (A.deeper (envOfC qual scope s.heap.objs.size f cdv))->sp vs H Q E ->
   ∃ t,PSs (zc5 CX P w K mg base N qual scope f cdv A outer s H E) body t/\t { nx:=fun _ H'=>Q .non H',rt:=Q } (start N vs) H) :
  zaF P w K mg base CX (k+1) f (PySem.W.fnOf name qual params body scope dV kV doc pm an cdv ct) ps sp:=by
 refine⟨len,fun A outer s H args us vs Q E hr e0 hb r hsp=>?_⟩;have hl:=len _ _ _ _ hsp;have KX:K.In s.heap:=e0.mod.kin.keeps fun b o e=>(e0.bs b o e).1
 have lim:s.heap.NoLimit:=e0.mod.nolimit.keeps fun b o e=>(e0.bs b o e).1
 have hkind:∀ y∈ps.zip us,scope.names.lookup y.1=some .local\/(scope.names.lookup y.1=some .cell/\((cellsFrom (s.heap.objs.size+1) scope.names []).lookup y.1).isSome=true):=by
  rintro⟨n,v⟩ hy;rcases S.par n (List.of_mem_zip hy).1 with q|q
  ·exact .inl q
  ·exact .inr ⟨q,PySem.W.cellsFrom_some _ _ _ (.inl q)⟩
 refine codeAny_call_function hr.depth (KX _ _ lk) rfl S.co S.gen rfl (PySem.W.codeRec_of KX hcd) (hb _ _ _ _ ?_);refine wpAny_newFunctionEnv_cells S.kind hkind fun env he s1 x=>?_
 subst he;refine⟨lim.keeps x.toInCall.keep,codeAny_func ?_⟩;obtain⟨t,ht,hq⟩:=hbody A outer s H vs Q E (hr.deeper _) hsp;have I:Inv (zc5 CX P w K mg base N qual scope f cdv A outer s H E) [] (start N vs) H s1:=zkW S hr.hd e0 hl r x;refine wpAny_mono (ht [] s1 (start N vs) H _ I hq) (fun fl s' hs=>?_) fun e s' hs=>hs
 have fin:∀ {σ':St} {H':Hp} {v:V} {u:Â},Inv (zc5 CX P w K mg base N qual scope f cdv A outer s H E) [] σ' H' s'->RelV v u->Q v H'->CE outer P w H s Q u s' :=fun {σ' H' v u} J rv q=>⟨v,H',J.os,J.bare,J.base,J.hok,rv,q⟩
 cases fl with
 |ret u =>obtain⟨v,σ',H',J,rv,q⟩:=hs;exact fin J rv q
 |next =>obtain⟨σ',H',J,q⟩:=hs;exact fin (v:=V.non) (u:=Value.none) J rfl q
 |brk =>obtain⟨_,_,_,q⟩:=hs;exact False.elim q
 |cont =>obtain⟨_,_,_,q⟩:=hs;exact False.elim q
section
variable {X:Cx}{x:Str}{p pos:Pos}{e:Expr}{es:List Expr}{t:TA}{id T:String}{r:List V->Hp->VK->Prop}
def tCB (r:List V->Hp->VK->Prop)(t:TA):TE:=fun U H Q=>t U H fun vs H1=>r vs H1 Q
def zlg (hc:zaw X (.builtin id) r)(hg:Gl X x)(hm:X.mg x=none)(hv:bootBuiltins x=some (.builtin id))(ha:PA X (e::es) t)(hn:autoParam (x≠"__name__") zG)(hdb:autoParam ((x==("__debug__":Str))=false) zG)
  (he:starEach (e::es) X.env=(false,eval e X.env)::starEach es X.env:=by rfl) (hpl:(backTo pos (starEach es X.env)).any (·.1)=false:=by rfl):PE X (.Call (.Name x p) (e::es) [] pos) (tCB r t):=by
 intro pins s U H Q I h;refine wpAny_Call_Name_kw (zbq I hg hm hv ?_ hn hdb);exact PyProof.Rows.callWith_builtin1 (thn (ha pos pins s U H _ I h) fun us s1 zq7=>by obtain⟨vs,H1,I1,r1,q1⟩:=zq7;exact hc pins s1 U H1 vs us Q I1 r1 q1) he hpl
def zj4 (hc:zaw X (.type T) r)(hg:Gl X x)(hm:X.mg x=none)(hv:bootBuiltins x=some (.type T))(ha:PA X (e::es) t)(hn:autoParam (x≠"__name__") zG)(hdb:autoParam ((x==("__debug__":Str))=false) zG)
  (he:starEach (e::es) X.env=(false,eval e X.env)::starEach es X.env:=by rfl) (hpl:(backTo pos (starEach es X.env)).any (·.1)=false:=by rfl):PE X (.Call (.Name x p) (e::es) [] pos) (tCB r t):=by
 intro pins s U H Q I h;refine wpAny_Call_Name_kw (zbq I hg hm hv ?_ hn hdb);exact PyProof.Rows.callWith_type1 (thn (ha pos pins s U H _ I h) fun us s1 zq8=>by obtain⟨vs,H1,I1,r1,q1⟩:=zq8;exact hc pins s1 U H1 vs us Q I1 r1 q1) he hpl
end
end L2
namespace HT
open PySem PyProof.Rows
section
variable {prog:Program}{w:World}{A:Around}{E:Â->Á->Prop}{s:Á}
def zn8 {vs ws:List Â}{Q:Â->Á->Prop}(ht:IsTup s.heap t vs.toArray)(hb:IsTup s.heap b ws.toArray)(hv:vs≠[])(h1:ws=[]->Q (.ref t) s)(h2:ws≠[]->Q (.ref s.heap.objs.size) { s with heap:=s.heap.push { cls:=.type "tuple",data:=.seq (vs++ws).toArray } })(hsz:vs.length+ws.length<=sizeLine):wpAny (model prog w) A (binaryOp .Add (.ref t) (.ref b)) Q E s:=by
 obtain⟨⟨cls,dd,data,sl⟩,ho,hc,n,hd⟩:=id ht;obtain⟨⟨cls2,dd2,data2,sl2⟩,ho2,hc2,n2,hd2⟩:=id hb;simp only at hc hd hc2 hd2;subst hc hd hc2 hd2;have e:vs.toArray++ws.toArray=(vs++ws).toArray:=by simp
 by_cases hw:ws=[]
 ·exact concat_meets ⟨_,ho,rfl⟩ ⟨_,ho2,rfl⟩ noFill_tuple_add seq_tuple_add PySem.F.slot_tuple_add PySem.F.entry_tuple_add (PySem.F.args_tuple_add_2 _ _)
   (tuple_addW1 t b vs.toArray ws.toArray n n2 dd dd2 sl sl2 (by simpa using hv) (by simp[hw])) ⟨ho,ho2,h1 hw⟩
 ·refine concat_meets ⟨_,ho,rfl⟩ ⟨_,ho2,rfl⟩ noFill_tuple_add seq_tuple_add PySem.F.slot_tuple_add PySem.F.entry_tuple_add (PySem.F.args_tuple_add_2 _ _)
   (tuple_addW2 t b vs.toArray ws.toArray n n2 dd dd2 sl sl2 (by simpa using hv) (by simpa using hw) (by rw[List.size_toArray,List.size_toArray];exact hsz)) ⟨ho,ho2,?_⟩
  rw[e];exact h2 hw
def sIx (n d:Nat):Option Int->Nat
 |none=>d
 |some v=>if v<0 then(v+(n:Int)).toNat else min v.toNat n
def zke (n d:Nat)(hd:d<=n)(o:Option Int):sIx n d o<=n:=by
 cases o with
 |none=>exact hd
 |some v =>
  show(if v<0 then(v+(n:Int)).toNat else min v.toNat n)<=n;by_cases hv:v<0
  ·rw[if_pos hv];lia
  ·rw[if_neg hv];exact Nat.min_le_right _ _
def ziz (v:Int)(n d:Nat):(if v<0 then max (v+(n:Int)) 0 else min v (n:Int))=((sIx n d (some v):Nat):Int):=by
 show(if v<0 then max (v+(n:Int)) 0 else min v (n:Int))=(((if v<0 then(v+(n:Int)).toNat else min v.toNat n):Nat):Int);by_cases hv:v<0
 ·simp only[if_pos hv];lia
 ·simp only[if_neg hv];lia
def zjf (lo hi:Option Int)(n:Nat):Builtin.Slice.sliceAdjust lo hi 1 (n:Int)=(((sIx n 0 lo:Nat):Int),((sIx n n hi:Nat):Int)):=by
 have h1:¬ ((1:Int)<0):=by lia
 unfold Builtin.Slice.sliceAdjust;simp only[h1,if_false];refine Prod.ext ?_ ?_
 ·cases lo with
  |none=>rfl
  |some v=>exact ziz v n 0
 ·cases hi with
  |none=>rfl
  |some v=>exact ziz v n n
def zja (i j:Nat):Builtin.Slice.slicePlaces (i:Int) (j:Int) 1=j-i:=by
  unfold Builtin.Slice.slicePlaces;have h1:(1:Int) > 0:=by lia
  simp only[h1,if_true,Int.ediv_one];split<;>lia
def zfq {Q:Option Int->Á->Prop}(p:IsPart v o)(h:Q o s):wpAny (model prog w) A (Builtin.Slice.slicePartIndex v) Q E s:=by
 cases p with
 |none=>exact slicePart_none h
 |int i t=>exact slicePart_int h
def zcN {sl:Addr}{vl vu:Â}{lo:Option Int}{n:Nat}{Q:Int×Int×Nat->Á->Prop}(hs:s.heap.IsSliceOf sl vl vu .none)(pl:IsPart vl lo)(pu:IsPart vu hi)(h:Q (((sIx n 0 lo:Nat):Int),1,sIx n n hi-sIx n 0 lo) s):wpAny (model prog w) A (Builtin.Slice.sliceApplied (.ref sl) (pure (n:Int))) Q E s:=by obtain⟨os,hos,hcs,hds⟩:=id hs;unfold Builtin.Slice.sliceApplied Builtin.Slice.sliceFields;refine wpAny_bind (wpAny_bind (wpAny_field hos hds (x:=vl) rfl (wpAny_bind (wpAny_field hos hds (x:=vu) rfl (wpAny_bind (wpAny_field hos hds (x:=.none) rfl (wpAny_pure ?_)))))));refine wpAny_bind (slicePart_none ?_);show wpAny _ _ (if((1:Int)==0)=true then _ else _) _ _ s;rw[if_neg (by decide)];refine wpAny_bind (zfq pl (wpAny_bind (zfq pu (wpAny_bind (wpAny_pure ?_)))));show wpAny _ _ (match Builtin.Slice.sliceAdjust lo hi 1 (n:Int)with|(lo,hi)=>pure (lo,(1:Int),Builtin.Slice.slicePlaces lo hi 1)) _ _ s;rw[zjf lo hi n];show wpAny _ _ (pure (((sIx n 0 lo:Nat):Int),(1:Int),Builtin.Slice.slicePlaces ((sIx n 0 lo:Nat):Int) ((sIx n n hi:Nat):Int) 1)) _ _ s;rw[zja];exact wpAny_pure h
def zmo (xs:Array Â)(i k:Nat):((List.range k).filterMap fun (m:Nat)=>xs[((i:Int)+(m:Int)*1).toNat]?).toArray=((xs.toList.drop i).take k).toArray:=by
 have e:(fun (m:Nat)=>xs[((i:Int)+(m:Int)*1).toNat]?)=fun m=>xs[i+m]?:=by
  funext m;have:((i:Int)+(m:Int)*1).toNat=i+m:=by lia
  rw[this]
 rw[e];have:=pick_run xs i k;rw[List.filterMap_map]at this;have e2:((fun x=>xs[x]?) ∘ fun x=>i+x)=fun m=>xs[i+m]?:=rfl
 rw[e2]at this;rw[this]
def zeG {sl:Addr}{vl vu:Â}{lo:Option Int}{Q:Â->Á->Prop}(ht:IsTup s.heap t items)(hs:s.heap.IsSliceOf sl vl vu .none)(pl:IsPart vl lo)(pu:IsPart vu hi)(hw:¬ (sIx items.size 0 lo=0/\sIx items.size items.size hi=items.size))(h:Q (.ref s.heap.objs.size) { s with heap:=s.heap.push { cls:=.type "tuple",data:=.seq ((items.toList.drop (sIx items.size 0 lo)).take (sIx items.size items.size hi-sIx items.size 0 lo)).toArray } })(hsz:items.size<=sizeLine):wpAny (model prog w) A (getItem (.ref t) (.ref sl)) Q E s:=by
 have htake:sizeOk (.seq ((items.toList.drop (sIx items.size 0 lo)).take (sIx items.size items.size hi-sIx items.size 0 lo)).toArray):=by show((items.toList.drop (sIx items.size 0 lo)).take (sIx items.size items.size hi-sIx items.size 0 lo)).toArray.size<=sizeLine;rw[List.size_toArray,List.length_take,List.length_drop,Array.length_toList];lia
 have hj:sIx items.size items.size hi<=items.size:=zke _ _ (Nat.le_refl _) hi;obtain⟨os,hos,hcs,hds⟩:=id hs;have hTs:s.TypeIs (.ref sl) "slice":=⟨os,hos,hcs⟩
 unfold getItem
 try with_reducible refine wpAny_holding ?_
 first|refine wpAny_bind (wpAny_pure ?_)|skip
 refine wpAny_bind (wpAny_sequenceKey ht.typeIs (by decide) ?_)
 refine wpAny_bind (wpAny_callSpecial?_slot (name:=Str.ofString "__getitem__") ht.typeIs PyProof.Rows.slot_tuple_getitem
  (wpAny_call_entry PyProof.Rows.slot_tuple_getitem ht.typeIs entry_tuple_getitem ?_ (args_tuple_getitem _ _)))
 show wpAny _ _ (Builtin.Tuple.tupleItemsOf (.ref t) >>= _) _ _ s;refine wpAny_bind (tupleItemsOf_ ht ?_);refine wpAny_bind (wpAny_typeOf hTs ?_);rw[if_pos (by decide)];refine wpAny_bind (zcN hs pl pu ?_)
 have hno:¬ ((((sIx items.size 0 lo:Nat):Int)==0&&(1:Int)==1&&(sIx items.size items.size hi-sIx items.size 0 lo)==items.size)=true):=by intro q;rw[Bool.and_eq_true,Bool.and_eq_true]at q;have q1:((sIx items.size 0 lo:Nat):Int)=0:=eq_of_beq q.1.1;have q2:sIx items.size items.size hi-sIx items.size 0 lo=items.size:=eq_of_beq q.2;exact hw ⟨by lia,by lia⟩
 show wpAny _ _ (if(((sIx items.size 0 lo:Nat):Int)==0&&(1:Int)==1&&(sIx items.size items.size hi-sIx items.size 0 lo)==items.size)=true then _ else _) _ _ s;rw[if_neg hno,zmo]
 first
  |exact wpAny_bind (m:=Builtin.Tuple.tupleExact _) (wpAny_newObj_type (wpAny_pure ⟨_,rfl,wpAny_pure h⟩) htake)
  |exact wpAny_bind (m:=Builtin.Tuple.tupleExact _) (wpAny_newObj_type (wpAny_bind (wpAny_pure (wpAny_pure ⟨_,rfl,wpAny_pure h⟩))) htake)
  |exact wpAny_bind (wpAny_bind (m:=Builtin.Tuple.tupleExact _) (wpAny_newObj_type (wpAny_pure (wpAny_pure ⟨_,rfl,wpAny_pure h⟩)) htake))
  |exact wpAny_bind (wpAny_bind (m:=Builtin.Tuple.tupleExact _) (wpAny_newObj_type (wpAny_pure ⟨_,rfl,wpAny_pure h⟩) htake))
end
end HT
namespace L2
open PySem PySem.Spec PyProof.Rows
abbrev TO:=St->Hp->(Option Int->Hp->Prop)->Prop
def PO (X:Cx)(e:Option Expr)(t:TO):Prop :=
 ∀ (pins:List (Addr×Obj)) (s:Á) (U:St) (H:Hp) (Q:Option Int->Hp->Prop),Inv X pins U H s->t U H Q ->
  wpAny (model X.prog X.w) X.A (evalPart e X.env) (fun u s'=>∃ o H',Inv X pins U H' s'/\IsPart u o/\Q o H') X.xe s
def znw:TO:=fun _ H Q=>Q none H
def ztb (t:TE):TO:=fun U H Q=>t U H fun x H1=>∃ i,x=.int i/\Q (some i) H1
section
variable {X:Cx}{e:Expr}{te:TE}{lo hi:Option Expr}{tl th:TO}{pos p2:Pos}
def znZ:PO X none znw:=by intro pins s U H Q I h;rw[evalPart_none];exact wpAny_pure ⟨none,H,I,.none,h⟩
def zo1 (h:PE X e te):PO X (some e) (ztb te):=by
 intro pins s U H Q I hw;rw[evalPart_some];refine thn (h pins s U H _ I hw) fun u s1 ⟨x,H1,I1,r1,q1⟩=>?_
 obtain⟨i,rfl,q⟩:=q1;obtain⟨t,rfl⟩:=r1;exact⟨some i,H1,I1,.int i t,q⟩
def SlR (X:Cx)(r:V->Option Int->Option Int->Hp->VK->Prop):Prop :=
 ∀ (pins:List (Addr×Obj)) (s:Á) (U:St) (H:Hp) (x:V) (v vl vu:Â) (lo hi:Option Int) (sl:Addr) (Q:VK),Inv X pins U H s->RelV x v->s.heap.IsSliceOf sl vl vu .none->IsPart vl lo->IsPart vu hi->r x lo hi H Q ->
  ∃ T id,typeLookup (.type T) "__getitem__"=pure (some (.builtin id))/\s.TypeIs v T/\wpAny (model X.prog X.w) X.A (getItem v (.ref sl)) (EP X pins U Q) X.xe s
def SlR.or (h:SlR X r)(h':SlR X r'):SlR X (fun x lo hi H Q=>r x lo hi H Q\/r' x lo hi H Q):=by
 intro pins s U H x v vl vu lo hi sl Q I rx hs pl pu q;rcases q with q|q
 ·exact h pins s U H x v vl vu lo hi sl Q I rx hs pl pu q
 ·exact h' pins s U H x v vl vu lo hi sl Q I rx hs pl pu q
def tSl (r:V->Option Int->Option Int->Hp->VK->Prop)(te:TE)(tl th:TO):TE:=fun U H Q=>te U H fun x H1=>tl U H1 fun l H2=>th U H2 fun u H3=>r x l u H3 Q
def zlU (hr:SlR X r)(he:PE X e te)(hl:PO X lo tl)(hu:PO X hi th):PE X (.Subscript e (.Slice lo hi none p2) pos) (tSl r te tl th):=by
 intro pins s U H Q I h;refine Subscript_ (thn (he pins s U H _ I h) fun v s1 ⟨x,H1,I1,r1,q1⟩=>?_);refine wpAny_Slice (thn (hl pins s1 U H1 _ I1 q1) fun vl s2 ⟨l,H2,I2,pl,q2⟩=>thn (hu pins s2 U H2 _ I2 q2) fun vu s3 ⟨u,H3,I3,pu,q3⟩=>?_);rw[evalPart_none];refine wpAny_pure ?_;have I4:Inv X pins U H3 { s3 with heap:=s3.heap.push { cls:=.type "slice",data:=.fields #[vl,vu,.none] } }:=I3.kept (t':=s3.toks) fun b ob q=>Heap.get?_push_of_some _ q
 obtain⟨T,id,hT,ht,hg⟩:=hr pins { s3 with heap:=s3.heap.push { cls:=.type "slice",data:=.fields #[vl,vu,.none] } } U H3 x v vl vu l u s3.heap.objs.size Q I4 r1 (Heap.IsSliceOf.new ..) pl pu q3;show wpAny (model X.prog X.w) X.A (subscriptTail e (.Slice lo hi none p2) v (.ref s3.heap.objs.size)) (EP X pins U Q) X.xe { s3 with heap:=s3.heap.push { cls:=.type "slice",data:=.fields #[vl,vu,.none] } };exact tail_any (ops:=[.ref s3.heap.objs.size,v]) ht hT hg (by with_unfolding_all rfl)
def zdo (xs:List V)(lo hi:Option Int):List V:=(xs.drop (HT.sIx xs.length 0 lo)).take (HT.sIx xs.length xs.length hi-HT.sIx xs.length 0 lo)
def zeP (xs:List V)(lo hi:Option Int):(zdo xs lo hi).length<=xs.length:=by unfold zdo;rw[List.length_take,List.length_drop];lia
def zuI (K:À):V->Option Int->Option Int->Hp->VK->Prop:=fun x lo hi H Q=>∃ a xs,x=.ref a/\SqT K H a xs /\
 ¬ (HT.sIx xs.length 0 lo=0/\HT.sIx xs.length xs.length hi=xs.length)/\∀ p,H p=none->Q (.ref p) (upd H p (.tup (zdo xs lo hi)))
def zqv:SlR X (zuI X.K):=by
 intro pins s U H x v vl vu lo hi sl Q I rx hs pl pu h;obtain⟨a,xs,rfl,hx,hw,q⟩:=h;cases rx;obtain⟨its,r,ht,hz⟩:=I.tuple hx;have hlen:its.toArray.size=xs.length:=by rw[List.size_toArray];exact r.length.symm
 refine⟨"tuple",_,PyProof.Rows.slot_tuple_getitem.lookup,ht.typeIs,?_⟩;refine HT.zeG ht hs pl pu (by rw[hlen];exact hw) ?_ (by rw[hlen];exact hz);rw[hlen];refine⟨.ref s.heap.objs.size,_,I.laid (t':=s.toks) (o:=.tup (zdo xs lo hi)) (fun b ob q=>Heap.get?_push_of_some _ q) (Nat.le_refl _) ?_,rfl,q _ (I.hok.fresh (Nat.le_refl _))⟩;exact⟨Nat.le_trans (zeP xs lo hi) hz,_,(r.drop (HT.sIx xs.length 0 lo)).take (HT.sIx xs.length xs.length hi-HT.sIx xs.length 0 lo),IsTup.new _ _⟩
def ztC (K:À):R2:=fun x y H Q=>∃ a b xs ys,x=.ref a/\y=.ref b/\SqT K H a xs/\SqT K H b ys/\xs≠[]/\xs.length+ys.length<=sizeLine /\
 (ys=[]->Q (.ref a) H)/\(ys≠[]->∀ p,H p=none->Q (.ref p) (upd H p (.tup (xs++ys))))
def Vals.nil_iff (r:Vals xs us):us=[]↔xs=[]:=by
 cases r with
 |nil=>simp
 |cons _ _=>simp
def znL:OpR X (binaryOp .Add) (ztC X.K):=by intro pins s U H x y v u Q I rx ry h;obtain⟨a,b,xs,ys,rfl,rfl,ha,hb,hx,hz,q1,q2⟩:=h;cases rx;cases ry;obtain⟨its,r1,p1,_⟩:=I.tuple ha;obtain⟨its2,r2,p2,_⟩:=I.tuple hb;refine HT.zn8 p1 p2 (fun z=>hx (r1.nil_iff.mp z)) (fun z=>⟨.ref a,H,I,rfl,q1 (r2.nil_iff.mp z)⟩) (fun z=>?_) (by rw[<- r1.length,<- r2.length];exact hz);refine⟨.ref s.heap.objs.size,_,I.laid (t':=s.toks) (o:=.tup (xs++ys)) (fun b ob q=>Heap.get?_push_of_some _ q) (Nat.le_refl _) ?_,rfl,q2 (fun w=>z (r2.nil_iff.mpr w)) _ (I.hok.fresh (Nat.le_refl _))⟩;exact⟨by rw[List.length_append];exact hz,_,r1.append r2,IsTup.new _ _⟩
end
def ixN (n:Nat)(i:Int):Option Nat:=if 0<=i then(if i<n then some i.toNat else none)else if -(n:Int)<=i then some (i+n).toNat else none
def atI (xs:List α)(i:Int):Option α:=(ixN xs.length i).bind fun j=>xs[j]?
def zis {n:Nat}{i:Int}{j:Nat}(h:ixN n i=some j):seqIndex? i n=some j/\j<n/\-(n:Int)<=i/\i<n:=by
 unfold ixN at h;by_cases h0:0<=i
 ·rw[if_pos h0]at h;by_cases h1:i<n
  ·rw[if_pos h1]at h;have e:i.toNat=j:=Option.some.inj h;exact⟨by rw[seqIndex_of h0 h1,e],by lia,by lia,h1⟩
  ·rw[if_neg h1]at h;cases h
 ·rw[if_neg h0]at h;by_cases h1:-(n:Int)<=i
  ·rw[if_pos h1]at h;have e:(i+n).toNat=j:=Option.some.inj h;exact⟨by rw[seqIndex_neg (by lia) h1,e],by lia,h1,by lia⟩
  ·rw[if_neg h1]at h;cases h
def zf7 {α:Type}{xs:List α}{i:Int}{v:α}(h:atI xs i=some v):∃ j,seqIndex? i xs.length=some j/\xs[j]?=some v/\j<xs.length/\-(xs.length:Int)<=i/\i<xs.length:=by
 unfold atI at h;cases e:ixN xs.length i with
 |none=>rw[e]at h;cases h
 |some j =>rw[e]at h;obtain⟨h1,h2,h3,h4⟩:=zis e;exact⟨j,h1,h,h2,h3,h4⟩
def zf1 (b:Expr):Prop:=∀ o i,subscripted b false o i=operate [o,i] (getItem o i)
def IxR (X:Cx)(r:R2):Prop :=
 ∀ (value slice:Expr) (pins:List (Addr×Obj)) (s:Á) (U:St) (H:Hp) (x y:V) (v u:Â) (Q:VK),Inv X pins U H s->RelV x v->RelV y u->r x y H Q ->
  subscripted slice false v u=operate [v,u] (getItem v u)->wpAny (model X.prog X.w) X.A (subscriptTail value slice v u) (EP X pins U Q) X.xe s
def MtR (X:Cx)(id:String)(r:V->List V->Hp->VK->Prop):Prop :=
 ∀ (pins:List (Addr×Obj)) (s:Á) (U:St) (H:Hp) (x:V) (xs:List V) (v:Â) (us:List Â) (Q:VK),Inv X pins U H s->RelV x v->Vals xs us->r x xs H Q ->
  wpAny (model X.prog X.w) X.A (call (.builtin id) (v::us)) (EP X pins U Q) X.xe s
section
variable {X:Cx}{a b:Expr}{ta tb:TE}{pos:Pos}
def IxR.or (h:IxR X r)(h':IxR X r'):IxR X (fun x y H Q=>r x y H Q\/r' x y H Q):=by
 intro value slice pins s U H x y v u Q I rx ry q hs;rcases q with q|q
 ·exact h value slice pins s U H x y v u Q I rx ry q hs
 ·exact h' value slice pins s U H x y v u Q I rx ry q hs
def zt0 (hr:IxR X r)(ha:PE X a ta)(hb:PE X b tb)(hs:zf1 b):PE X (.Subscript a b pos) (tOp r ta tb):=by intro pins s U H Q I h;exact Subscript_ (zlY ha hb I h fun v u s2 x y H2 I2 rx ry q=>hr a b pins s2 U H2 x y v u Q I2 rx ry q (hs _ _))
def zuP (K:À):R2:=fun x y H Q=>∃ p xs i v,x=.ref p/\y=.int i/\SqL K H p xs/\atI xs i=some v/\Q v H
def zuB (K:À):R2:=fun x y H Q=>∃ p xs i v,x=.ref p/\y=.int i/\SqT K H p xs/\atI xs i=some v/\Q v H
def zuc:R2:=fun x y H Q=>∃ z i c,x=.str z/\y=.int i/\z.length<=sizeLine/\atI z.cps.toList i=some c/\Q (.str ⟨#[c]⟩) H
def zn4:IxR X (zuP X.K):=by
  intro value slice pins s U H x y v u Q I rx ry h hs;obtain⟨p,xs,i,z,rfl,rfl,hq,he,q⟩:=h;cases rx;obtain⟨t,rfl⟩:=ry;obtain⟨its,r,pl,hz⟩:=I.list hq;obtain⟨j,h1,h2,h3,h4,h5⟩:=zf7 he;obtain⟨w,ew,rw'⟩:=r.get h2;have hl:=r.length;have hn:=zdf;have fin:EP X pins U Q w s:=⟨z,H,I,rw',q⟩
  by_cases h0:0<=i
  . have hj : i.toNat = j := by
      rw[seqIndex_of h0 h5]at h1;exact Option.some.inj h1
    exact item_listR pl.isList h0 (by lia) (by rw[hj];simpa using ew) fin hs
  . have hj : (i + (its.toArray.size : Int)).toNat = j := by
      rw[seqIndex_neg (by lia) h4]at h1;rw[List.size_toArray,<- hl];exact Option.some.inj h1
    exact subscriptTail_builtinR (x:=w) pl.isList.typeIs slot_list_getitem.lookup
      (wpAny_getItem_list_neg (Q:=fun r s'=>r=w/\EP X pins U Q r s') pl.isList (by lia) (by rw[List.size_toArray]<;>lia) (by lia) (by rw[hj];simpa using ew) ⟨rfl,fin⟩) hs
def zqA:IxR X (zuB X.K):=by
 intro value slice pins s U H x y v u Q I rx ry h hs;obtain⟨p,xs,i,z,rfl,rfl,hq,he,q⟩:=h;cases rx;obtain⟨t,rfl⟩:=ry;obtain⟨its,r,pl,hz⟩:=I.tuple hq;obtain⟨j,h1,h2,h3,h4,h5⟩:=zf7 he;obtain⟨w,ew,rw'⟩:=r.get h2;have hl:=r.length;have hn:=zdf;have fin:EP X pins U Q w s:=⟨z,H,I,rw',q⟩
 exact subscriptTail_builtinR (x:=w) pl.typeIs slot_tuple_getitem.lookup
  (getItem_tuple (j:=j) (Q:=fun r s'=>r=w/\EP X pins U Q r s') pl (by lia) (by lia) (by rw[List.size_toArray,<- hl];exact h1) (by simpa using ew) ⟨rfl,fin⟩) hs
def zpA:IxR X zuc:=by
 intro value slice pins s U H x y v u Q I rx ry h hs;obtain⟨z,i,c,rfl,rfl,hz,he,q⟩:=h;obtain⟨t,rfl⟩:=rx;obtain⟨t',rfl⟩:=ry;obtain⟨j,h1,h2,h3,h4,h5⟩:=zf7 he;have hl:z.cps.toList.length=z.length:=by simp[Str.length]
 rw[hl]at h1 h4 h5;have hn:=zdf
 exact tail_any (typeIs_str s z t) slot_str_getitem.lookup (getItem_str (c:=c) (by have e1:decide (i < -(2 ^ 63:Int))=false:=decide_eq_false (by lia);have e2:decide (i ≥ 2 ^ 63)=false:=decide_eq_false (by lia);rw[e1,e2,Bool.or_false]) (by rw[h1];simpa using h2) ⟨.str ⟨#[c]⟩,H,I.tok _,⟨_,rfl⟩,q⟩) hs
def ziP (its:List Â)(n j:Nat)(u:Â):Obj.mapSeq (·.setIfInBounds j u) { cls:=.type "list",data:=.seq its.toArray n }={ cls:=.type "list",data:=.seq (its.set j u).toArray n }:=by simp[Obj.mapSeq]
theorem Inv.lst {xs:List V}(I:Inv X pins U H s)(h:H p=some (.lst xs)) :
  ∃ (its:List Â) (n:Nat),Vals xs its/\s.heap.get? p=some { cls:=.type "list",data:=.seq its.toArray n }/\xs.length<=sizeLine:=by
 obtain⟨z,its,n,r,e⟩:=I.hok p _ h;exact⟨its,n,r,e,z⟩
def Inv.lstUpd {xs:List V}{its its':List Â}{n n':Nat}{f:Obj->Obj}(I:Inv X pins U H s)(h:H p=some (.lst xs))(ho:s.heap.get? p=some { cls:=.type "list",data:=.seq its.toArray n })(hf:f { cls:=.type "list",data:=.seq its.toArray n }={ cls:=.type "list",data:=.seq its'.toArray n' })(r:Vals ys its')(hz:ys.length<=sizeLine)(t:Nat) :
    Inv X pins U (upd H p (.lst ys)) { s with heap:=s.heap.update p f,toks:=t }:=by
  have e:(s.heap.update p f).get? p=some { cls:=.type "list",data:=.seq its'.toArray n' }:=by rw[Heap.get?_update_self f ho (by rw[hf]<;>rfl),hf]
  refine I.write (x:=p) (e:=p) (by rw[h];trivial) (.inl rfl) (fun b u hb q=>(Heap.get?_update_other _ _ (Ne.symm hb)).trans q) ⟨_,e⟩ ?_;exact⟨hz,its',n',r,e⟩
def zsp:V->V->V->Hp->(Hp->Prop)->Prop:=fun o i v H Q=>∃ p xs k j,o=.ref p/\i=.int k/\H p=some (.lst xs)/\ixN xs.length k=some j/\Q (upd H p (.lst (xs.set j v)))
def set_list:zsa X zsp:=by
 intro pins s U H o i v ov iv u Q I ro ri rv h;obtain⟨p,xs,k,j,rfl,rfl,hp,hj,q⟩:=h;cases ro;obtain⟨t,rfl⟩:=ri;obtain⟨its,n,r,ho,hz⟩:=I.lst hp;obtain⟨h1,h2,h3,h4⟩:=zis hj;have hl:=r.length;have hn:=zdf
 have I':Inv X pins U (upd H p (.lst (xs.set j v))) { s with heap:=s.heap.update p (Obj.mapSeq (·.setIfInBounds j u)) } :=I.lstUpd hp ho (ziP its n j u) (r.set rv j) (by rw[List.length_set];exact hz) s.toks
 by_cases h0:0<=k
 ·have hk:k.toNat=j:=by
   rw[seqIndex_of h0 h4]at h1;exact Option.some.inj h1
  exact PySem.W.ki_setAt ho h0 (by lia) (by rw[List.size_toArray,<- hl];exact h4) (by rw[hk];exact⟨_,I',q⟩)
 ·have hk:(k+(its.toArray.size:Int)).toNat=j:=by
   rw[seqIndex_neg (by lia) h3]at h1;rw[List.size_toArray,<- hl];exact Option.some.inj h1
  exact PySem.W.ki_setBack ho (by lia) (by rw[List.size_toArray,<- hl];exact h3) (by lia) (by rw[hk];exact⟨_,I',q⟩)
def zhn (lo hi:Option Int)(n:Nat):(sliceBounds lo hi none n).1=((HT.sIx n 0 lo:Nat):Int)/\(sliceBounds lo hi none n).2.1=((HT.sIx n n hi:Nat):Int)/\(sliceBounds lo hi none n).2.2=1:=by
  refine⟨?_,?_,rfl⟩
  . cases lo with
    |none=>simp[sliceBounds,HT.sIx]
    |some i =>
      simp only[sliceBounds,HT.sIx,Option.getD_none,show(1:Int) > 0 by decide,if_true];by_cases h:i<0
      . simp only[h,if_true]<;>lia
      . simp only[h,if_false]<;>lia
  . cases hi with
    |none=>simp[sliceBounds,HT.sIx]
    |some i =>
      simp only[sliceBounds,HT.sIx,Option.getD_none,show(1:Int) > 0 by decide,if_true];by_cases h:i<0
      . simp only[h,if_true]<;>lia
      . simp only[h,if_false]<;>lia
def zgH (its:List Â)(lo hi:Option Int):slicePick its.toArray lo hi none=((its.drop (HT.sIx its.length 0 lo)).take (HT.sIx its.length its.length hi-HT.sIx its.length 0 lo)).toArray:=by obtain⟨h1,h2,h3⟩:=zhn lo hi its.toArray.size;unfold slicePick;rw[h1,h2,h3];simp only[sliceRange_one,pick_run,List.size_toArray]<;>rfl
def zuJ (K:À):V->Option Int->Option Int->Hp->VK->Prop:=fun x lo hi H Q=>∃ a xs,x=.ref a/\SqL K H a xs/\∀ p,H p=none->Q (.ref p) (upd H p (.lst (zdo xs lo hi)))
def zni:SlR X (zuJ X.K):=by intro pins s U H x v vl vu lo hi sl Q I rx hs pl pu h;obtain⟨a,xs,rfl,hx,q⟩:=h;cases rx;obtain⟨its,r,ht,hz⟩:=I.list hx;have hlen:=r.length;refine⟨"list",_,slot_list_getitem.lookup,ht.isList.typeIs,?_⟩;refine wpAny_getItem_list_slice ht.isList hs pl pu .none (by simp) ?_ (by rw[List.size_toArray]<;>lia);rw[zgH,<- hlen];refine⟨.ref s.heap.objs.size,_,I.laid (t':=s.toks) (o:=.lst (zdo xs lo hi)) (fun b ob q=>Heap.get?_push_of_some _ q) (Nat.le_refl _) ?_,rfl,q _ (I.hok.fresh (Nat.le_refl _))⟩;exact⟨Nat.le_trans (zeP xs lo hi) hz,_,0,(r.drop (HT.sIx xs.length 0 lo)).take (HT.sIx xs.length xs.length hi-HT.sIx xs.length 0 lo),Heap.get?_push_size _ rfl⟩
def zg9:zaw X (.builtin "len") (fun xs H Q=>∃ p ys,xs=[.ref p]/\(SqL X.K H p ys\/SqT X.K H p ys)/\Q (.int ys.length) H):=by
  intro pins s U H xs us Q I r h;obtain⟨p,ys,rfl,hq,q⟩:=h;obtain⟨u,rfl,rx⟩:=vals1 r;cases rx;have hn:=zdf;rcases hq with hq|hq
  . obtain⟨its,r',pl,hz⟩:=I.list hq;have hlen:=r'.length;exact Calls.call_len_list pl.isList (by simp only[List.size_toArray]<;>lia) ⟨.int ys.length,H,I.tok _,⟨s.toks+1,by rw[List.size_toArray,hlen]⟩,q⟩
  . obtain⟨its,r',pl,hz⟩:=I.tuple hq;have hlen:=r'.length;exact len_tuple pl (by simp only[List.size_toArray]<;>lia) ⟨.int ys.length,H,I.tok _,⟨s.toks+1,by rw[List.size_toArray,hlen]⟩,q⟩
def zhV:zaw X (.builtin "len") (fun xs H Q=>∃ z,xs=[.str z]/\z.length<=sizeLine/\Q (.int z.length) H):=by intro pins s U H xs us Q I r h;obtain⟨z,rfl,hz,q⟩:=h;obtain⟨u,rfl,t,rfl⟩:=vals1 r;have hn:=zdf;exact len_str (by lia) ⟨.int z.length,H,I.tok _,⟨_,rfl⟩,q⟩
def zaw.or (h:zaw X f r)(h':zaw X f r'):zaw X f (fun xs H Q=>r xs H Q\/r' xs H Q):=by
 intro pins s U H xs us Q I rs q;rcases q with q|q
 ·exact h pins s U H xs us Q I rs q
 ·exact h' pins s U H xs us Q I rs q
def zhu:zaw X (.type "list") (fun xs H Q=>∃ p ys,xs=[.ref p]/\(SqL X.K H p ys\/SqT X.K H p ys)/\∀ l,H l=none->Q (.ref l) (upd H l (.lst ys))):=by
  intro pins s U H xs us Q I r h;obtain⟨p,ys,rfl,hq,q⟩:=h;obtain⟨u,rfl,rx⟩:=vals1 r;cases rx
  have fin : ∀ (its : List Â), Vals ys its → ys.length ≤ sizeLine → ∀ (h' : Heap) (c' : Nat), (∀ b o', s.heap.get? b = some o' → h'.get? b = some o') →
      h'.get? s.heap.objs.size=some { cls:=.type "list",dict:=none,data:=.seq its.toArray c',slots:=#[] }->EP X pins U Q (.ref s.heap.objs.size) { s with heap:=h' }:=fun its r' hz h' c' kp e =>
    ⟨.ref s.heap.objs.size,_,I.laid (t':=s.toks) kp (Nat.le_refl _) (show zah X.prog X.w _ h' _ (.lst ys)from ⟨hz,its,c',r',e⟩),rfl,q _ (I.hok.fresh (Nat.le_refl _))⟩
  rcases hq with hq|hq
  . obtain⟨its,r',pl,hz⟩:=I.list hq;have hlen:=r'.length;obtain⟨o,ho,hc,n,hd⟩:=pl.isList;exact call_list_seq p (.inl rfl) ho hc hd (fun h' c' kp e=>fin its r' hz h' c' kp e) (by simp only[List.size_toArray]<;>lia)
  . obtain⟨its,r',pl,hz⟩:=I.tuple hq;have hlen:=r'.length;obtain⟨o,ho,hc,n,hd⟩:=pl;exact call_list_seq p (.inr rfl) ho hc hd (fun h' c' kp e=>fin its r' hz h' c' kp e) (by simp only[List.size_toArray]<;>lia)
def tyV (K:À)(T:String)(x:V)(H:Hp):Prop:=match x with
 | .str _=>T="str"
 | .int _=>T="int"
 | .ref p=>(T="list"/\∃ xs,SqL K H p xs)\/(T="tuple"/\∃ o,K.lookup p=some o/\o.cls=.type "tuple"/\o.dict=none) \/
   (T="dict"/\((∃ kvs,H p=some (.dK kvs))\/∃ kvs,H p=some (.dT kvs)))\/(T="set"/\∃ S n,H p=some (.set S n))
 |_=>False
def zjX {T:String}(I:Inv X pins U H s)(r:RelV x v)(ty:tyV X.K T x H) :
  s.TypeIs v T/\∀ a,v=.ref a->∃ ob,s.heap.get? a=some ob/\ob.dict=none:=by
 cases x with
 |str z =>obtain⟨t,rfl⟩:=r;cases(show T="str" from ty);exact⟨typeIs_str s z t,fun _ e=>nomatch e⟩
 |int i =>obtain⟨t,rfl⟩:=r;cases(show T="int" from ty);exact⟨typeIs_int s i t,fun _ e=>nomatch e⟩
 |ref p =>
  cases r;rcases ty with⟨rfl,xs,hq⟩|⟨rfl,o,hk,hc,hd⟩|⟨rfl,hk⟩|⟨rfl,S,n,hk⟩
  ·obtain⟨its,_,pl,_⟩:=I.list hq;refine⟨pl.isList.typeIs,fun a e=>?_⟩;cases e;obtain⟨o,n,e,c,hd,_⟩:=pl;exact⟨o,e,hd⟩
  ·refine⟨⟨o,I.kIn p o hk,hc⟩,fun a e=>?_⟩;cases e;exact⟨o,I.kIn _ o hk,hd⟩
  ·have z:∃ o,s.heap.get? p=some o/\o.ExactDict:=by
    rcases hk with⟨kvs,hk⟩|⟨kvs,hk⟩
    ·obtain⟨_,_,_,_,o,_,_,e,ex,_⟩:=I.hok p _ hk;exact⟨o,e,ex⟩
    ·obtain⟨_,_,_,_,o,_,_,e,ex,_⟩:=I.hok p _ hk;exact⟨o,e,ex⟩
   obtain⟨o,e,ex⟩:=z;refine⟨⟨o,e,ex.1⟩,fun a e2=>?_⟩;cases e2;exact⟨o,e,ex.2.1⟩
  ·obtain⟨o,_,_,_,e,ex,_⟩:=I.hok p _ hk;refine⟨⟨o,e,ex.1⟩,fun a e2=>?_⟩;cases e2;exact⟨o,e,ex.2.1⟩
 |_=>exact False.elim ty
def zuf (K:À)(T:String)(r:V->List V->Hp->VK->Prop)(to:TE):TE:=fun U H Q=>to U H fun x H1=>tyV K T x H1/\r x [] H1 Q
def tBM (K:À)(T:String)(r:V->List V->Hp->VK->Prop)(to:TE)(t:TA):TE:=fun U H Q=>to U H fun x H1=>tyV K T x H1/\t U H1 fun xs H2=>r x xs H2 Q
variable {o e:Expr}{es:List Expr}{to:TE}{t:TA}{name:Str}{apos cpos:Pos}{T id:String}{r:V->List V->Hp->VK->Prop}
def zrc (pa:PlainAttrs T)(slot:Slot T name id)(hty:typeOf (.builtin id)=pure (.type "method_descriptor"))(hm:MtR X id r)(ho:PE X o to)
  (hbase:attributeBase o name X.env (eval o X.env)=eval o X.env:=by rfl) (hline:(apos.endLine==cpos.line)=true:=by rfl):PE X (.Call (.Attribute o name apos) [] [] cpos) (zuf X.K T r to):=by
 intro pins s U H Q I h;refine wpAny_Call_method0_late hbase hline (thn (ho pins s U H _ I h) fun v s1 ⟨x,H1,I1,r1,ty,q1⟩=>?_);obtain⟨h1,h2⟩:=zjX I1 r1 ty;exact⟨T,id,pa,slot,hty,h1,h2,Calls.callWith_builtin rfl (PySem.evalArgs_none (hm pins s1 U H1 x [] v [] Q I1 r1 .nil q1))⟩
def ztB (pa:PlainAttrs T)(slot:Slot T name id)(hty:typeOf (.builtin id)=pure (.type "method_descriptor"))(hm:MtR X id r)(ho:PE X o to)(ha:PA X (e::es) t)
    (hbase:attributeBase o name X.env (eval o X.env)=eval o X.env:=by rfl)
    (hfew:((backTo cpos (starEach (e::es) X.env)).all (fun x=>!x.1)&&(backToKw cpos (keywordEach [] X.env)).all (fun x=>x.1.isSome)
     &&decide ((e::es).length+([]:List Keyword).length+(if([]:List Keyword).isEmpty then 0 else 1)<30))=true:=by rfl)
    (hline:(apos.endLine==cpos.line)=true:=by rfl) (hs:starEach (e::es) X.env=(false,eval e X.env)::starEach es X.env:=by rfl) (hplain:(backTo cpos (starEach es X.env)).any (·.1)=false:=by rfl) :
    PE X (.Call (.Attribute o name apos) (e::es) [] cpos) (tBM X.K T r to t):=by
  intro pins s U H Q I h;refine wpAny_Call_method_late hbase hfew hline rfl (thn (ho pins s U H _ I h) fun v s1 ⟨x,H1,I1,r1,ty,q1⟩=>?_);obtain⟨h1,h2⟩:=zjX I1 r1 ty;refine⟨T,id,pa,slot,hty,h1,h2,?_⟩;have hA:=ha cpos pins s1 U H1 _ I1 q1;rw[hs]at hA ⊢;refine Calls.callWith_builtin (by show(false||(backTo cpos (starEach es X.env)).any (·.1))=false;rw[hplain]<;>rfl) (Calls.evalArgs_plain ?_);exact thn hA fun us s2 zq9=>by obtain⟨vs,H2,I2,r2,q2⟩:=zq9;exact hm pins s2 U H2 x vs v us Q I2 r1 r2 q2
/- xs.append(e),list.index on a module's tuple .. are MtR facts of 06m -/
end
def MtM (X:Cx)(id:String)(r:V->List V->Hp->VK->Prop):Prop :=
 ∀ (pins:List (Addr×Obj)) (s:Á) (U:St) (H:Hp) (x:V) (xs:List V) (v:Â) (us:List Â) (Q:VK),Inv X pins U H s->RelV x v->Vals xs us->r x xs H Q ->
  wpAny (model X.prog X.w) X.A (call (.builtin id) (v::us)) (EP X pins U Q) X.xe s
theorem Vals.one:∀ {x:V} {us:List Â},Vals [x] us->∃ u,us=[u]/\RelV x u
 |_,_,.cons r .nil=>⟨_,rfl,r⟩
theorem Vals.zero:∀ {us:List Â},Vals [] us->us=[]
 |_,.nil=>rfl
theorem Vals.dropLast (h:Vals xs us):Vals xs.dropLast us.dropLast:=by
 induction h with
 |nil=>exact .nil
 |cons r t ih =>
  cases t with
  |nil=>exact .nil
  |cons q t'=>exact .cons r ih
def ziY (l:List α):l.eraseIdx (l.length-1)=l.dropLast:=by
 induction l with
 |nil=>rfl
 |cons a r ih =>
  cases r with
  |nil=>rfl
  |cons b r =>
   have e:(a::b::r).length-1=((b::r).length-1)+1:=by have h1:(a::b::r).length=r.length+2:=rfl;have h2:(b::r).length=r.length+1:=rfl;lia
   rw[e,List.eraseIdx_cons_succ,ih]
   all_goals rfl
section
variable {X:Cx}{pins:List (Addr×Obj)}{U:St}{H:Hp}{s:Á}{l b:Addr}{xs ys zs:List V}
def Inv.lset {its its':List Â}{n:Nat}{f:Array Â->Array Â}{t':Nat}(I:Inv X pins U H s)(hH:H l=some (.lst xs))
  (e:s.heap.get? l=some { cls:=.type "list",data:=.seq its.toArray n }) (hf:f its.toArray=its'.toArray) (hv:Vals ys its') (hz:ys.length<=sizeLine) :
  Inv X pins U (upd H l (.lst ys)) { s with heap:=s.heap.update l (Obj.mapSeq f),toks:=t' }:=by
 have q:=PySem.IsL.update e f;rw[hf]at q;refine I.write (x:=l) (e:=l) (by rw[hH];exact trivial) (.inl rfl) (fun b' u hb hu=>(Heap.get?_update_other s.heap (Obj.mapSeq f) (Ne.symm hb)).trans hu) ⟨_,q⟩ ?_;exact⟨hz,its',_,hv,q⟩
def Inv.lnew {t':Nat}(I:Inv X pins U H s)(hv:Vals ys its)(hz:ys.length<=sizeLine) :
  Inv X pins U (upd H s.heap.objs.size (.lst ys)) { s with heap:=s.heap.push { cls:=.type "list",data:=.seq its.toArray },toks:=t' } :=
 I.laid (fun _ _ q=>Heap.get?_push_of_some _ q) (Nat.le_refl _) ⟨hz,its,0,hv,Heap.get?_push_size _ rfl⟩
theorem Inv.fresh (I:Inv X pins U H s):H s.heap.objs.size=none:=I.hok.fresh (Nat.le_refl _)
def Inv.lstM (I:Inv X pins U H s)(hH:H l=some (.lst xs)):xs.length<=sizeLine/\∃ (its:List Â) (n:Nat),Vals xs its/\xs.length=its.length/\s.heap.get? l=some { cls:=.type "list",data:=.seq its.toArray n }:=by obtain⟨z,its,n,r,e⟩:=I.hok l _ hH;exact⟨z,its,n,r,r.length,e⟩
end
section
variable {X:Cx}
def ziy:V->List V->Hp->VK->Prop:=fun x vs H Q=>∃ l xs y,x=.ref l/\vs=[y]/\H l=some (.lst xs)/\xs.length<sizeLine/\Q .non (upd H l (.lst (xs++[y])))
def zgm:MtM X "list.append" ziy:=by intro pins s U H x vs v us Q I rx rv h;obtain⟨l,xs,y,rfl,rfl,hH,hz,q⟩:=h;cases rx;obtain⟨u,rfl,ru⟩:=rv.one;obtain⟨z,its,n,r,hl,e⟩:=I.lstM hH;refine call_meets F.slot_list_append ⟨_,e,rfl⟩ F.entry_list_append (F.args_list_append_2 _ _) (PySem.list_append l its.toArray n u (by rw[List.size_toArray];lia)) ⟨e,?_⟩;refine⟨.non,_,I.lset (its':=its++[u]) hH e (by simp) (r.append (.cons ru .nil)) ?_,rfl,q⟩;rw[List.length_append,List.length_singleton];lia
def zud:V->List V->Hp->VK->Prop:=fun x vs H Q=>∃ l xs y,x=.ref l/\vs=[]/\H l=some (.lst xs)/\xs[xs.length-1]?=some y/\Q y (upd H l (.lst xs.dropLast))
def zpe:MtM X "list.pop" zud:=by
 intro pins s U H x vs v us Q I rx rv h;obtain⟨l,xs,y,rfl,rfl,hH,hy,q⟩:=h;cases rx;have hus:=rv.zero;subst hus;obtain⟨z,its,n,r,hl,e⟩:=I.lstM hH;obtain⟨u,hu,ru⟩:=r.get hy
 have hy':its.toArray[its.toArray.size-1]?=some u:=by show its.toArray[its.length-1]?=some u;rw[<- Array.getElem?_toList,<- hl];exact hu
 refine call_meets F.slot_list_pop ⟨_,e,rfl⟩ F.entry_list_pop (F.args_list_pop_1 _) (MeetsSeq.list_pop_last l its.toArray n u hy' (by rw[List.size_toArray];lia)) ⟨e,?_⟩;refine⟨y,_,I.lset (its':=its.dropLast) hH e ?_ r.dropLast ?_,ru,q⟩
 ·show its.toArray.eraseIdxIfInBounds (its.toArray.size-1)=its.dropLast.toArray;rw[List.size_toArray,List.eraseIdxIfInBounds_toArray,ziY]
 ·rw[List.length_dropLast];lia
end
end L2
namespace Att
open PySem PySem.W PySem.Calls PyProof.Rows
def zfA {P:Params}{h:Heap}:∀ (ns:List Int) (vs:List Â),WellAll P h vs (ns.map WData.int)->IntsAre vs ns:=by
 intro ns
 induction ns with
 |nil =>intro vs w;rw[List.map_nil]at w;cases w;exact .nil
 |cons n ns ih =>
  intro vs w;rw[List.map_cons]at w;cases w with
  |cons a b =>cases a;exact .cons _ _ (ih _ b)
def zky {l:OpenLaw}{n:Nat}(hn:l.most=some n){args:List WData}(hpre:l.row.toRowW.claim.pre args=true)(hwl:WellAll P h vals args) :
  ∃ a vs ns,vals=[Value.ref a]/\args=[WData.list (ns.map WData.int)]/\h.get? a=some { cls:=.type "list",data:=.seq vs.toArray }/\IntsAre vs ns/\ns.length<=n:=by
 have hsh:WShape.hasAll [] args [.list .int]=true:=(pre_splitW hpre).1;have hc:l.pre.holds [] { args:=args }=true:=(pre_splitW hpre).2;obtain⟨d,r,rfl,h1,h2⟩:=hasAllW_cons hsh;obtain rfl:=hasAllW_nil h2;obtain⟨xs,rfl,h3⟩:=hasW_list h1;obtain⟨ns,rfl⟩:=items_int h3
 have hlen:ns.length<=n:=by
  unfold OpenLaw.pre at hc
  have h4:(WTm.not (.lt (.lit (.int (n:Int))) (.len (.arg 0)))).holds [] { args:=[.list (ns.map .int)] }=true:=by have h4:=(holds_andW hc).1;rw[hn]at h4;exact h4
  have h5:=condW_of h4 (w_not (w_lt w_lit (w_len_list (w_arg rfl))));rw[List.length_map]at h5;refine Nat.le_of_not_lt fun q=>?_
  have q':(n:Int)<((ns.length:Nat):Int):=by lia
  first
   |(rw[decide_eq_true q']at h5;exact absurd h5 (by decide))
   |(simp at h5;lia)
 cases hwl with
 |cons w1 w2 =>
  cases w2;cases w1 with
  |list ho hall=>exact⟨_,_,ns,rfl,rfl,ho,zfA ns _ hall,hlen⟩
def zkY (l:OpenLaw)(args:List WData):l.row.toRowW.claim.post args (.bool true) args=true :=
 postW_of (r:=l.row.toRowW) (X:=(true==true))
  (show WShape.has [] (.bool true) .bool=true by first|rfl|decide|simp[WShape.has,WShape.arms,WShape.armsAll])
  (show(WTm.eq .res (.lit (.bool true))).value [] { args:=args,res:=some (.bool true),after:=args }=some (.bool (true==true))from w_eq_bool (w_res rfl) w_lit) rfl
end Att
namespace L2
open PySem PySem.Spec PyProof.Rows
theorem zgt:∀ {vs:List Â} {ns:List Int},IntsAre vs ns->Vals (ns.map V.int) vs
 |_,_,.nil=>.nil
 |_,_,.cons n t h=>.cons ⟨t,rfl⟩ (zgt h)
def Only (H:Hp):Prop:=∀ b,H b=none\/∃ o xs,H b=some (.frz o (.lst xs))
def zl2 {P:Program}{w:World}{K:À}{mg mb:Str->Option Â}{CX:CXT}{fa a:Addr}{fd:FuncData}{x:Str}{sp:Sp}{s₁:Á}{vs:List Â}(KX:K.In s₁.heap)(hns:s₁.heap.Ns mainGlobals mg)(hb:s₁.heap.Ns builtinsNs mb)(hbb:∀ x:Str,x≠"__name__"->mb x=bootBuiltins x)(hlim:s₁.heap.NoLimit)(hg:s₁.gens=#[])(ha:s₁.heap.get? a=some { cls:=.type "list",data:=.seq vs.toArray })(hi:IntsAre vs ns)(hl:ns.length<=sizeLine)(hr:zP k callerA)(F:∀ base:Heap,K.In base->base.Ns mainGlobals mg->zaF P w K mg base CX k fa fd [x] sp)(hbind:∀ (s:Á) (u:Â),BindsTo s fd ⟨[u],[]⟩ [(x,u)])(hsp:∀ H:Hp,Only H->SqL K H a (ns.map V.int)->sp [.ref a] H (fun v _=>v=.bl true) fun _ _ _=>False)(hCX:∀ H e s',CX [] H s₁ (fun _ _ _=>False) e s'->False) :
  codeAny (model P w) callerA (.call (.ref fa) ⟨[.ref a],[]⟩) (fun r s'=>r=.ok (.ret (.bool true))/\OldK s₁.heap s'.heap/\s'.os=s₁.os/\AllBare s'.gens) s₁:=by
 have rv:=zgt hi;have lenV:=hi.length
 have core:∀ H:Hp,Only H->SqL K H a (ns.map V.int)->HOk P w H s₁.heap->(∀ b,H b≠none->b=a)->(H a≠none->K.lookup a=none) ->
   codeAny (model P w) callerA (.call (.ref fa) ⟨[.ref a],[]⟩) (fun r s'=>r=.ok (.ret (.bool true))/\OldK s₁.heap s'.heap/\s'.os=s₁.os/\AllBare s'.gens) s₁:=by
  intro H hO hS hok hA hK;have base_of:∀ {b:Addr} {o:Obj},s₁.heap.get? b=some o->H b=none->(zdy s₁.heap H).get? b=some o:=fun e n=>zlG e n
  have noA:∀ {b:Addr} {o:Obj} {es:Array DictEntry} {ep:Nat},s₁.heap.get? b=some o->o.data=.dict es ep->H b=none:=fun {b o es ep} e d=>by
   cases q:H b with
   |none=>rfl
   |some u =>have e':b=a:=hA b (by rw[q];simp);subst e';rw[ha]at e;cases e;have d':Data.seq vs.toArray _=Data.dict es ep:=d;cases d'
  have nsK:∀ {b:Addr} {m:Str->Option Â},s₁.heap.Ns b m->(zdy s₁.heap H).Ns b m:=fun {b m} ⟨o,es,ep,e,d,r⟩=>⟨o,es,ep,base_of e (noA e d),d,r⟩
  have hKb:K.In (zdy s₁.heap H):=fun b o e=>base_of (KX b o e) (by
   cases q:H b with
   |none=>rfl
   |some u =>have e':b=a:=hA b (by rw[q];simp);subst e';rw[hK (by rw[q];simp)]at e;cases e)
  have hM:Mod K mg (zdy s₁.heap H):=⟨hKb,nsK hns,⟨mb,nsK hb,hbb⟩,by obtain⟨mc,h1,h2⟩:=hlim;exact⟨mc,nsK h1,h2⟩⟩
  have e0:zfb P w K mg (zdy s₁.heap H) callerA [] s₁ H:=⟨rfl,hM,fun b o e=>znz e,Nat.le_of_eq (zjR _ _),trivial,fun b hb=>absurd (show b∈([]:List Addr)from hb) (by simp),hok,.of_eq hg⟩
  refine codeAny_mono ((F _ hKb (nsK hns)).run callerA [] s₁ H ⟨[.ref a],[]⟩ [.ref a] [.ref a] _ _ hr e0 (hbind s₁ (.ref a)) (.cons rfl .nil) (hsp H hO hS)) fun r s' h=>?_
  cases r with
  |error e=>exact(hCX H e s' h).elim
  |ok fl =>
   cases fl with
   |next=>exact False.elim h
   |brk=>exact False.elim h
   |cont=>exact False.elim h
   |ret u =>
    obtain⟨v,H',os,bare,un,hok',r',q⟩:=h;have q':v=.bl true:=q;subst q';obtain rfl:u=Value.bool true:=r';refine⟨rfl,OldK.of_keep fun b o e=>?_,os,bare⟩;cases q:H b with
    |none=>exact un.keep b o e q (by intro z;exact absurd (show b∈([]:List Addr)from z) (by simp)) (by simp)
    |some u =>
     rcases hO b with z|⟨ob,xs,z⟩
     ·rw[q]at z;cases z
     ·have z2:=un.frzs b ob _ z;obtain⟨e1,_⟩:=hok b _ z;obtain⟨e2,_⟩:=hok' b _ z2;rw[e]at e1;cases e1;exact e2
 cases hk:K.lookup a with
 |some o =>have e:=KX a o hk;rw[ha]at e;cases e;refine core (fun _=>none) (fun _=>.inl rfl) (.inr ⟨_,vs.toArray,_,hk,rfl,rfl,rfl,by rw[List.size_toArray,lenV];exact hl,by simpa using rv⟩) (fun b u z=>by have z':(none:Option HO)=some u:=z;cases z') (fun b z=>absurd rfl z) fun z=>absurd rfl z
 |none =>
  refine core (fun b=>if b=a then some (.frz { cls:=.type "list",data:=.seq vs.toArray } (.lst (ns.map V.int)))else none) (fun b=>?_) (.inl (.inr ⟨{ cls:=.type "list",data:=.seq vs.toArray },if_pos rfl⟩)) (fun b u z=>?_) (fun b z=>?_) fun _=>hk
  ·by_cases hb:b=a
   ·exact .inr ⟨_,_,if_pos hb⟩
   ·exact .inl (if_neg hb)
  ·by_cases hb:b=a
   ·have z':=(if_pos hb).symm.trans z;cases z';subst hb;exact⟨ha,by rw[List.length_map];exact hl,vs,_,rv,ha⟩
   ·have z':=(if_neg hb).symm.trans z;cases z'
  ·by_cases hb:b=a
   ·exact hb
   ·exact absurd (if_neg hb) z
def inClass (s:Stmt)(j:Nat):Stmt:=match s with
 |.ClassDef _ _ _ body _ _ _ _ _ _ _=>body.getD j (.Pass ⟨0,0,0,0⟩)
 |_=>.Pass ⟨0,0,0,0⟩
def zal (s:Stmt):Arguments:=match s with
 |.FunctionDef _ a _ _ _ _ _ _ _ _=>a
 |_=>{ posonlyargs:=[],args:=[],vararg:=none,kwonlyargs:=[],kw_defaults:=[],kwarg:=none,defaults:=[] }
def z7 (s:Stmt):List Stmt:=match s with
 |.FunctionDef _ _ b _ _ _ _ _ _ _=>b
 |_=>[]
def zF (s:Stmt):Scope:=match s with
 |.FunctionDef _ _ _ _ _ _ sc _ _ _=>sc
 |_=>{ kind:=.function,names:=[],isGenerator:=false,isCoroutine:=false }
abbrev CX0:CXT:=fun _ _ _ _ _ _=>False
abbrev E0:XK:=fun _ _ _=>False
def zmA {X:Cx}:Passes CX0 X E0:=fun _ _ _ _ _ _ _ h=>h.elim
structure Fun (K:À)(x qual:Str)(st:Stmt)(f:Addr)(fd:FuncData):Prop where
 ex:∃ (oc:Â) (od:Option Addr) (kV doc pm:Â) (an:Option Addr) (cdv ct:Â) (osl:Array (Option Â)),
  fd=PySem.W.fnOf x qual (zal st) (z7 st) (zF st) .none kV doc pm an cdv ct/\K.lookup f=some ⟨oc,od,.func fd,osl⟩/\PySem.W.codeIn K cdv qual=true
 kp:PySem.W.keepIn K (.ref f)=true
section
variable {P:Program}{w:World}{K:À}{mg:Str->Option Â}{base:Heap}
def Fun.ok {st:Stmt}{k:Nat}{sp:Sp}(F:Fun K x qual st f fd)(S:zcz N ps (zF st))(len:∀ vs H Q E,sp vs H Q E->vs.length=ps.length)(hbody:∀ (cdv:Â) (A:Around) (outer:List Env) (s:Á) (H:Hp) (vs:List V) (Q:VK) (E:XK),zP k (A.deeper (envOfC qual (zF st) s.heap.objs.size f cdv))->sp vs H Q E ->
   ∃ t,PSs (zc5 CX0 P w K mg base N qual (zF st) f cdv A outer s H E).nox (z7 st) t/\t { nx:=fun _ H'=>Q .non H',rt:=Q } (start N vs) H):zaF P w K mg base CX0 (k+1) f fd ps sp:=by
 obtain⟨oc,od,kV,doc,pm,an,cdv,ct,osl,rfl,lk,hcd⟩:=F.ex;refine zmw lk hcd S len fun A outer s H vs Q E hr hsp=>?_
 obtain⟨t,h,q⟩:=hbody cdv A outer s H vs Q E hr hsp;exact⟨t,h.nox,q⟩
def Fun.binds {st:Stmt}{ps:List Str}(F:Fun K x qual st f fd)(h:∀ (kV doc pm:Â) (an:Option Addr) (cdv ct:Â) (us:List Â),us.length=ps.length->bindArgs (PySem.W.fnOf x qual (zal st) (z7 st) (zF st) .none kV doc pm an cdv ct) ⟨us,[]⟩=pure (ps.zip us)):Binds K fd ps []:=by obtain⟨oc,od,kV,doc,pm,an,cdv,ct,osl,rfl,lk,hcd⟩:=F.ex;exact .all (h kV doc pm an cdv ct)
def zhc {x qual:Str}{st:Stmt}{oc:Â}{od an:Option Addr}{osl:Array (Option Â)}{kV doc pm cdv ct:Â}(l:K.lookup f=some ⟨oc,od,.func (PySem.W.fnOf x qual (zal st) (z7 st) (zF st) .none kV doc pm an cdv ct),osl⟩)(c:PySem.W.codeIn K cdv qual=true)(k:PySem.W.keepIn K (.ref f)=true):Fun K x qual st f (PySem.W.fnOf x qual (zal st) (z7 st) (zF st) .none kV doc pm an cdv ct):=⟨⟨oc,od,kV,doc,pm,an,cdv,ct,osl,rfl,l,c⟩,k⟩
end
section
variable {κ:Type}[DecidableEq κ]
def putK (kvs:List (κ×V))(k:κ)(v:V):List (κ×V) :=if(kvs.any fun kv=>decide (kv.1=k))=true then kvs.map (fun kv=>if kv.1=k then(kv.1,v)else kv)else kvs++[(k,v)]
def zic (kvs:List (κ×V))(k:κ)(v:V):(putK kvs k v).length<=kvs.length+1:=by
 unfold putK;split
 ·rw[List.length_map];lia
 ·rw[List.length_append,List.length_cons,List.length_nil];lia
theorem KV.any (r:KV kvs vs)(k:κ):(kvs.any fun kv=>decide (kv.1=k))=vs.any fun kv=>decide (kv.1=k):=by
 unfold KV at r
 induction r with
 |nil=>rfl
 |cons h t ih=>rw[List.any_cons,List.any_cons,ih,h.1]
def KV.repl (r:KV kvs vs)(k:κ)(ry:RelV y u) :
  KV (kvs.map fun kv=>if kv.1=k then(kv.1,y)else kv) (vs.map fun kv=>if kv.1=k then(kv.1,u)else kv):=by
 unfold KV at r ⊢
 induction r with
 |nil=>exact .nil
 |@cons p q ps qs h t ih =>
  rw[List.map_cons,List.map_cons];refine .cons ?_ ih;obtain⟨h1,h2⟩:=h;by_cases e:p.1=k
  ·rw[if_pos e,if_pos (h1.symm.trans e)];exact⟨h1,ry⟩
  ·rw[if_neg e,if_neg (fun z=>e (h1.trans z))];exact⟨h1,h2⟩
def KV.put (r:KV kvs vs)(k:κ)(ry:RelV y u):KV (putK kvs k y) (stored vs k u):=by
 unfold putK stored;rw[r.any k];by_cases e:(vs.any fun kv=>decide (kv.1=k))=true
 ·rw[if_pos e,if_pos e];exact r.repl k ry
 ·rw[if_neg e,if_neg e];exact Paired.snoc r ⟨rfl,ry⟩
end
def ztk {P:Program}{w:World}{k:Key}(r:RelV (kV k) u):(za7 P w).is k u=true:=by
 cases k with
 |inl i=>obtain⟨t,e⟩:=(show ∃ t,u=Value.int i t from r);subst e;exact zig P w i t
 |inr x=>obtain⟨t,e⟩:=(show ∃ t,u=Value.str x t from r);subst e;exact zib P w x t
abbrev KT (H:Hp):List (List Key×V)->List (List Key×Addr×Â)->Prop:=Paired fun p q=>p.1=q.1/\H q.2.1=some (.tup (p.1.map kV))/\RelV p.2 q.2.2
section
variable {P:Program}{w:World}{H:Hp}{h:Heap}{a:Addr}
def zsx (ok:HOk P w H h)(e:Rd H a u):zah P w H h a u:=e.ok ok
def zss {kvs:List (Key×V)}(ok:HOk P w H h)(e:Rd H a (.dK kvs)):kvs.length<=sizeLine/\(a==sysModules)=false/\∃ vs,KV kvs vs/\h.DictOf (za7 P w) a vs :=show zah P w H h a (.dK kvs)from zsx ok e
def zti {kvs:List (Key×V)}(ok:HOk P w H h)(e:H a=some (.dK kvs)):kvs.length<=sizeLine/\(a==sysModules)=false/\∃ vs,KV kvs vs/\h.DictOf (za7 P w) a vs:=zss ok (.inl e)
end
section
variable {X:Cx}{pins:List (Addr×Obj)}{U:St}{H:Hp}{s:Á}{a:Addr}{y v:V}{u r:Â}{o:Option V}{A:Around}{E:Â->Á->Prop}
def Inv.big (I:Inv X pins U H s):sysModules<s.heap.objs.size:=by have h:mainGlobals<s.heap.objs.size:=(I.mod.glob.keeps I.bk).lt;exact Nat.lt_trans (by decide) h
def zoq {t':Nat}{ob:HO}(I:Inv X pins U H s)(mu:Mut (H a))(hs:Heap.SameBut a s.heap h')(he:∃ q,h'.get? a=some q)(new:zah X.prog X.w (upd H a ob) h' a ob) :
  Inv X pins U (upd H a ob) { s with heap:=h',toks:=t' } :=
 I.write (x:=a) (e:=a) mu (.inl rfl) (fun b q hb z=>(hs.2 b hb).trans z) he new
def zqT {P:Program}{w:World}{H':Hp}{h':Heap}{kvs:List (Key×V)}(z:kvs.length<=sizeLine)(hd:(a==sysModules)=false)(rel:KV kvs vs)(dd:h'.DictOf (za7 P w) a vs) :
  zah P w H' h' a (.dK kvs):=⟨z,hd,vs,rel,dd⟩
end
def zhQ {P:Program}{w:World}{H:Hp}(h:Heap)(hb:sysModules<h.objs.size):zah P w H (h.push { cls:=.type "dict",data:=.dict #[] }) h.objs.size (.dK []) :=⟨Nat.zero_le _,beq_eq_false_iff_ne.mpr (Ne.symm (Nat.ne_of_lt hb)),[],.nil,Heap.DictOf.new h⟩
def zl4 {P:Program}{w:World}{H:Hp}(h:Heap)(hb:sysModules<h.objs.size):zah P w H (h.push { cls:=.type "dict",data:=.dict #[] }) h.objs.size (.dT []) :=⟨Nat.zero_le _,beq_eq_false_iff_ne.mpr (Ne.symm (Nat.ne_of_lt hb)),[],.nil,_,#[],0,Heap.get?_push_size _ rfl,⟨rfl,rfl,rfl⟩,rfl,rfl,List.nodup_nil⟩
def zrN:TE:=fun _ H Q=>∀ p,H p=none->Q (.ref p) (upd H p (.dK []))
def zql:TE:=fun _ H Q=>∀ p,H p=none->Q (.ref p) (upd H p (.dT []))
section
variable {X:Cx}{pos:Pos}
def zmp:PE X (.Dict [] [] pos) zrN:=fun pins s U H Q I h =>wpAny_Dict_empty ⟨.ref s.heap.objs.size,_,I.laid (a:=s.heap.objs.size) (o:=.dK []) (t':=s.toks) (fun _ _ q=>Heap.get?_push_of_some _ q) (Nat.le_refl _) (zhQ s.heap I.big),rfl,h _ (I.hok.fresh (Nat.le_refl _))⟩
def zls:PE X (.Dict [] [] pos) zql:=fun pins s U H Q I h =>wpAny_Dict_empty ⟨.ref s.heap.objs.size,_,I.laid (a:=s.heap.objs.size) (o:=.dT []) (t':=s.toks) (fun _ _ q=>Heap.get?_push_of_some _ q) (Nat.le_refl _) (zl4 s.heap I.big),rfl,h _ (I.hok.fresh (Nat.le_refl _))⟩
end
def zhd:List (TE×TE)->St->Hp->(List (V×V)->Hp->Prop)->Prop
 |[],_,H,Q=>Q [] H
 |(tk,tv)::r,U,H,Q=>tk U H fun x H1=>tv U H1 fun y H2=>zhd r U H2 fun ps H3=>Q ((x,y)::ps) H3
abbrev VV:List (V×V)->List (Â×Â)->Prop:=Paired fun p q=>RelV p.1 q.1/\RelV p.2 q.2
def PPs (X:Cx)(pos:Pos)(keys:List (Option Expr))(values:List Expr)(trs:List (TE×TE)):Prop :=
 ∀ (pins:List (Addr×Obj)) (s:Á) (U:St) (H:Hp) (Q:List (V×V)->Hp->Prop),Inv X pins U H s->zhd trs U H Q ->
  wpAny (model X.prog X.w) X.A (evalPairs (pairTrees keys values X.env pos)) (fun vs s'=>∃ ps H',Inv X pins U H' s'/\VV ps vs/\Q ps H') X.xe s
def zoN {X:Cx}{pos:Pos}:PPs X pos [] [] []:=fun pins s U H Q I h=>pairTrees_nil_walk ⟨[],H,I,.nil,h⟩
def zk7 (hk:PE X k tk)(hv:PE X v tv)(hr:PPs X pos ks vs trs) :
  PPs X pos (some k::ks) (v::vs) ((tk,tv)::trs):=fun pins s U H Q I h =>
 pairTrees_cons_walk (thn (hk pins s U H _ I h) fun u s1 ⟨x,H1,I1,rx,q1⟩=>thn (hv pins s1 U H1 _ I1 q1) fun w2 s2 ⟨y,H2,I2,ry,q2⟩ =>thn (hr pins s2 U H2 _ I2 q2) fun ws s3 ⟨ps,H3,I3,rel,q3⟩=>⟨(x,y)::ps,H3,I3,.cons ⟨rx,ry⟩ rel,q3⟩)
def zel (kvs more:List (Key×V)):List (Key×V):=more.foldl (fun acc kv=>putK acc kv.1 kv.2) kvs
def KV.merge:∀ {more:List (Key×V)} {rs:List (Key×Â)} {kvs:List (Key×V)} {vs:List (Key×Â)},KV more rs->KV kvs vs->KV (zel kvs more) (merged vs rs):=by
 intro more rs kvs vs r;unfold KV at r
 induction r generalizing kvs vs with
 |nil=>intro q;exact q
 |@cons p q ps qs h t ih =>
  intro r0
  have e:KV (putK kvs p.1 p.2) (stored vs q.1 q.2):=by have:=r0.put p.1 h.2;rw[<- h.1];exact this
  exact ih e
theorem zdI:∀ (more kvs:List (Key×V)),(zel kvs more).length<=kvs.length+more.length
 |[],kvs=>by show kvs.length<=kvs.length+0;lia
 |p::r,kvs=>by have h1:=zdI r (putK kvs p.1 p.2);have h2:=zic kvs p.1 p.2;show(zel (putK kvs p.1 p.2) r).length<=_;rw[List.length_cons];lia
theorem zfv {P:Program}{w:World}:∀ {kvs:List (Key×V)} {ws:List (Â×Â)},VV (kvs.map fun kv=>(kV kv.1,kv.2)) ws->∃ rs,Carries (za7 P w) ws rs/\KV kvs rs
 |[],_,r=>by rw[List.map_nil]at r;cases r;exact⟨[],True.intro,.nil⟩
 |p::kvs,_,r=>by
  rw[List.map_cons]at r;cases r with
  |@cons a b as bs h t =>obtain⟨rs,c,q⟩:=zfv (P:=P) (w:=w) t;obtain⟨b1,b2⟩:=b;exact⟨(p.1,b2)::rs,⟨ztk h.1,rfl,c⟩,.cons ⟨rfl,h.2⟩ q⟩
def zs3 (trs:List (TE×TE)):TE:=fun U H Q=>∀ p,H p=none->zhd trs U (upd H p (.dK [])) fun ps H2=>H2 p=some (.dK [])/\∃ kvs:List (Key×V),ps=kvs.map (fun kv=>(kV kv.1,kv.2))/\kvs.length<=15/\Q (.ref p) (upd H2 p (.dK (zel [] kvs)))
def zo4 (h:PPs X pos keys values trs)(hall:keys.all (·.isSome)=true)(hl:keys.length=values.length)(h0:keys≠[])(h15:keys.length<=15):PE X (.Dict keys values pos) (zs3 trs):=by
 intro pins s U H Q I q;have hn:=I.hok.fresh (Nat.le_refl s.heap.objs.size);have I1:=I.laid (a:=s.heap.objs.size) (o:=.dK []) (h':=s.heap.push { cls:=.type "dict",data:=.dict #[] }) (t':=s.toks) (fun _ _ q=>Heap.get?_push_of_some _ q) (Nat.le_refl _) (zhQ s.heap I.big);refine wpAny_Dict_walk (knd:=za7 X.prog X.w) hall hl h0 h15 (thn (h pins _ U _ _ I1 (q _ hn)) fun ws s2 ⟨ps,H2,I2,rel,e,kvs,ep,lk,q2⟩=>?_);subst ep;obtain⟨rs,c,rk⟩:=zfv (P:=X.prog) (w:=X.w) rel;obtain⟨z,hd,vs0,r0,dd⟩:=zti I2.hok e;cases r0;refine⟨rs,c,dd,fun h' dd' hs=>⟨.ref s.heap.objs.size,_,?_,rfl,q2⟩⟩
 have hz:(zel [] kvs).length<=sizeLine:=by have h1:=zdI kvs [];rw[List.length_nil]at h1;rw[sizeLine_eq];lia
 have he:∃ q,h'.get? s.heap.objs.size=some q:=by obtain⟨q,_,_,hq,_⟩:=dd';exact⟨q,hq⟩
 exact zoq I2 (by rw[e];exact True.intro) hs he (zqT hz hd (rk.merge .nil) dd')
end L2
namespace My
def Bd (n:Nat)(x:Int):Prop:=x.natAbs<2 ^ n
def Bd.mono {n:Nat}(h:Bd m x)(hmn:m<=n):Bd n x:=Nat.lt_of_lt_of_le h (Nat.pow_le_pow_right (by decide) hmn)
def Bd.add (h:Bd n x)(h':Bd n y):Bd (n+1) (x+y) :=Nat.lt_of_le_of_lt (Int.natAbs_add_le x y) (by rw[Nat.pow_succ,Nat.mul_two];exact Nat.add_lt_add h h')
def Bd.neg (h:Bd n x):Bd n (-x):=by unfold Bd;rw[Int.natAbs_neg];exact h
def Bd.sub (h:Bd n x)(h':Bd n y):Bd (n+1) (x-y):=by rw[Int.sub_eq_add_neg];exact h.add h'.neg
def Bd.mul (h:Bd m x)(h':Bd n y):Bd (m+n) (x*y):=by unfold Bd at *;rw[Int.natAbs_mul,Nat.pow_add];exact Nat.mul_lt_mul'' h h'
def Bd.of_le {x:Int}(h:Bd n y)(h':x.natAbs<=y.natAbs):Bd n x:=Nat.lt_of_le_of_lt h' h
def Bd.dvd {x:Int}(h:Bd n y)(h0:y≠0)(d:x ∣ y):Bd n x :=h.of_le (Nat.le_of_dvd (by lia) (Int.natAbs_dvd_natAbs.mpr d))
theorem Bd.fdiv {y:Int}(h:Bd n x):Bd n (x.fdiv y):=h.of_le (Int.natAbs_fdiv_le_natAbs x y)
def Bd.lit {n:Nat}{x:Int}(h:x.natAbs<2 ^ 200)(hn:200<=n):Bd n x:=Bd.mono (m:=200) h hn
def zlo (a b:Int):Int.gcd b (a.fmod b)=Int.gcd a b:=by
 have e:a.fmod b=a-b*a.fdiv b:=by have:=Int.mul_fdiv_add_fmod a b;lia
 rw[e,Int.gcd_sub_mul_left_right,Int.gcd_comm]
def ziN {a b:Int}(h0:0<=a)(h:a<b):a.natAbs<b.natAbs:=by refine Int.ofNat_lt.mp ?_;rw[Int.natAbs_of_nonneg h0,Int.natAbs_of_nonneg (Int.le_of_lt (Int.lt_of_le_of_lt h0 h))];exact h
def zie {a b:Int}(h:b≠0):(a.fmod b).natAbs<b.natAbs:=by
 rcases Int.lt_or_gt_of_ne h with h1|h1
 ·have e:(-(-a)).fmod (-(-b))=-((-a).fmod (-b)):=Int.neg_fmod_neg (-a) (-b);rw[Int.neg_neg,Int.neg_neg]at e;have h2:=ziN (Int.fmod_nonneg_of_pos (-a) (Int.neg_pos_of_neg h1)) (Int.fmod_lt_of_pos (-a) (Int.neg_pos_of_neg h1));rw[e,Int.natAbs_neg];rwa[Int.natAbs_neg b]at h2
 ·exact ziN (Int.fmod_nonneg_of_pos a h1) (Int.fmod_lt_of_pos a h1)
def gd (t b:Int):Int:=if b<0 then -((Int.gcd t b:Nat):Int)else((Int.gcd t b:Nat):Int)
def frT (t b:Int):Int:=t.fdiv (gd t b)
def frB (t b:Int):Int:=b.fdiv (gd t b)
def zmS {t b:Int}(h:b≠0):gd t b≠0:=by
  have:Int.gcd t b≠0:=fun e=>h (Int.gcd_eq_zero_iff.mp e).2
  unfold gd;split<;>lia
def zh4 (t b:Int):gd t b ∣ t:=by
 unfold gd;split
 ·exact Int.neg_dvd.mpr (Int.gcd_dvd_left ..)
 ·exact Int.gcd_dvd_left ..
def zeh (t b:Int):gd t b ∣ b:=by
 unfold gd;split
 ·exact Int.neg_dvd.mpr (Int.gcd_dvd_right ..)
 ·exact Int.gcd_dvd_right ..
def ziw (t b:Int):frT t b*gd t b=t:=Int.fdiv_mul_cancel (zh4 t b)
def zga (t b:Int):frB t b*gd t b=b:=Int.fdiv_mul_cancel (zeh t b)
def zmj (t b:Int):frT t b*b=frB t b*t:=by have h1:=ziw t b;have h2:=zga t b;generalize frT t b=x at *;generalize frB t b=y at *;generalize gd t b=g at *;subst h1 h2;rw[Int.mul_comm y g,<- Int.mul_assoc,Int.mul_comm (x*g) y]
def znc {t b:Int}(h:b≠0):1<=frB t b:=by
  have h2:=zga t b;have h3:gd t b≠0:=zmS h
  have h4:0<b->0<gd t b:=by intro hb;unfold gd at *;split<;>lia
  have h5:b<0->gd t b<0:=by intro hb;unfold gd at *;split<;>lia
  generalize frB t b=y at *;generalize gd t b=g at *;rcases Int.lt_or_gt_of_ne h with hb|hb
  . have hg:=h5 hb;rcases Int.lt_or_le y 1 with hy|hy
    . have:0<=y*g:=Int.mul_nonneg_of_nonpos_of_nonpos (by lia) (by lia);lia
    . exact hy
  . have hg:=h4 hb;rcases Int.lt_or_le y 1 with hy|hy
    . have:y*g<=0:=Int.mul_nonpos_of_nonpos_of_nonneg (by lia) (by lia);lia
    . exact hy
def zpV {t b:Int}(h:b≠0):Int.gcd (frT t b) (frB t b)=1:=by
  have h0:0<Int.gcd t b:=Nat.pos_of_ne_zero fun e=>h (Int.gcd_eq_zero_iff.mp e).2
  have h1:=ziw t b;have h2:=zga t b;have e:Int.gcd (frT t b*gd t b) (frB t b*gd t b)=Int.gcd (frT t b) (frB t b)*(gd t b).natAbs:=Int.gcd_mul_right ..;rw[h1,h2]at e;have e2:(gd t b).natAbs=Int.gcd t b:=by unfold gd;split<;>lia
  rw[e2]at e;exact Nat.eq_of_mul_eq_mul_right h0 (by lia)
def ztY {t b:Int}(h:b≠0)(hb:Bd n b):Bd n (gd t b):=hb.dvd h (zeh t b)
def zrK {t:Int}(hb:Bd n b):Bd n (frB t b):=hb.fdiv
def zrY {b:Int}(hb:Bd n t):Bd n (frT t b):=hb.fdiv
open PySem PySem.Spec PyProof.Rows L2
def ztP (_ j:Int):Prop:=j≠0/\Bd 8000 j
def ztF (_ j:Int):Prop:=j≠0
def zfQ (h:Bd 8000 j):j.natAbs.log2<9000:=by
 rcases Nat.eq_zero_or_pos j.natAbs with e|e
 ·rw[e];decide
 ·have:j.natAbs.log2<8000:=(Nat.log2_lt (Nat.ne_of_gt e)).mpr h;lia
def zfS (h:Bd 8000 j):Builtin.Int.intBits j<=2 ^ 20:=by
 unfold Builtin.Int.intBits;split
 ·exact Nat.zero_le _
 ·have:=zfQ h;lia
section
variable {X:Cx}
def zk5:OpR X (binaryOp .FloorDiv) (rI ztP fun i j=>.int (i.fdiv j)):=opI fun _ _ _ _ _ _ _ hc q=>floordiv_int hc.1 q (.inl (PyProof.noPylong_of_log2 (zfQ hc.2)))
def zn0:OpR X (binaryOp .Mod) (rI ztF fun i j=>.int (i.fmod j)):=zow
def rB0 (g:Bool->Bool->V):R2:=fun x y H Q=>∃ i j,x=.bl i/\y=.bl j/\Q (g i j) H
def znE {i j:Int}{a b:Nat}{p1 p2 pos:Pos}(c:Int)(h:i ^ j.toNat=c)(h0:0<=j/\j<=1000000/\i.natAbs<2 ^ 64):PE X (.BinOp (.Constant (.int i) a p1) .Pow (.Constant (.int j) b p2) pos) (tC (.int c)):=by intro pins s U H Q I q;have q':Q (.int c) H:=q;rw[<- h]at q';exact zmB zpN zhP zhP pins s U H Q I ⟨i,j,rfl,rfl,h0,q'⟩
def zuA:List V->Hp->VK->Prop:=fun xs H Q=>∃ i,xs=[.int i]/\Q (.int (i.natAbs:Int)) H
def zko:zaw X (.builtin "abs") zuA:=fun pins s U H xs us Q I r h=>by
  obtain⟨i,e,q⟩:=h;refine zlS pins s U H xs us Q I r ⟨i,e,?_⟩;have:(if i<0 then -i else i)=(i.natAbs:Int):=by split<;>lia
  rw[this];exact q
def zvp (K:À):List V->Hp->VK->Prop:=fun xs H Q=>∃ p ys,xs=[.ref p]/\(SqL K H p ys\/SqT K H p ys)/\Q (.int ys.length) H
def zkI:zaw X (.builtin "len") (zvp X.K):=zg9
def zth (K:À):List V->Hp->VK->Prop:=fun xs H Q=>∃ p ys,xs=[.ref p]/\(SqL K H p ys\/SqT K H p ys)/\∀ l,H l=none->Q (.ref l) (upd H l (.lst ys))
def zjs:zaw X (.type "list") (zth X.K):=zhu
def zuM:List V->Hp->VK->Prop:=fun xs H Q=>(∃ i,xs=[.int i]/\Q (.int i) H)\/∃ k,xs=[.bl k]/\Q (.int (if k then 1 else 0)) H
def zkL:zaw X (.type "int") zuM:=zki
def zvc:List V->Hp->VK->Prop:=fun xs H Q=>∃ i j,xs=[.int i,.int j]/\Q (.int (if j > i then j else i)) H
def zkO (hc:X.calm=true):zaw X (.builtin "max") zvc:=zk2 hc
def zsn {T:String}{pos:Pos}(hg:Gl X x)(hm:X.mg x=none)(hv:bootBuiltins x=some (.type T))(hn:autoParam (x≠"__name__") zG)(hd:autoParam ((x==("__debug__":Str))=false) zG):PE X (.Name x pos) (tC (.ty T)):=zn5 (v:=.ty T) hg hm hv rfl hn hd
def zuz (K:À):List V->Hp->VK->Prop:=fun xs H Q=>∃ x c t b,xs=[x,.ty c]/\zbQ K H x t/\PySem.W.kitOne K t (.type c)=some b/\Q (.bl b) H
def zk6:zaw X (.builtin "isinstance") (zuz X.K):=fun pins s U H xs us Q I r h=>by obtain⟨x,c,t,b,rfl,ty,e,q⟩:=h;obtain⟨u,w',rfl,ru,rw'⟩:=vals2 r;cases rw';exact zjT I ru ty e fun tk=>⟨.bl b,H,I.tok _,rfl,q⟩
end
structure Got (P:Program)(w:World)(K:À)(mg:Str->Option Â)(base:Heap)(k:Nat)(x:Str)(ps:List Str)(sp:Sp):Prop where
 ex:∃ f fd,zaF P w K mg base CX0 k f fd ps sp/\Binds K fd ps []/\PySem.W.keepIn K (.ref f)=true/\mg x=some (.ref f)
def zpi {X:Cx}{p pos:Pos}{e:Expr}{es:List Expr}(G:Got X.prog X.w X.K X.mg X.base k x ps sp)(hr:zP j X.A)(hk:k<=j)(hg:Gl X x)(ha:PA X (e::es) t)(hdb:autoParam ((x==("__debug__":Str))=false) zG)(he:autoParam (starEach (e::es) X.env=(false,eval e X.env)::starEach es X.env) zq)(hpl:autoParam ((backTo pos (starEach es X.env)).any (·.1)=false) zq) :
  PE X (.Call (.Name x p) (e::es) [] pos) (zjg sp [] E0 t):=by
 intro pins s U H Q I h;obtain⟨f,fd,F,b,kp,m⟩:=G.ex;exact zo2 (F.mono hk) hr hg m kp b .nil zmA ha hdb he hpl pins s U H Q I h
section
variable {U:L2.St}{H:Hp}{K:À}
def zuY:R2:=fun x y H Q=>y=.non/\Q (.bl (decide (x=.non))) H
def zsh:R2:=fun x y H Q=>y=.non/\Q (.bl (!decide (x=.non))) H
def zsK {X:Cx}:OpR X (compareOp .Is) zuY:=zrC
def zrJ {X:Cx}:OpR X (compareOp .IsNot) zsh:=zoS
end
def zb2 {H:Hp}{o u:HO}(hp:H p=none)(h:H b=some u):upd H p o b=some u:=by rw[zA (zaI h hp)];exact h
theorem zh8 {prog:Program}{w:World}{A:Around}{R:Result->Á->Prop}{s:Á}{elt target iter:Expr}{ifs:List Expr}{scope:Scope}{pos:Pos}{it acc:Â}{env:Env}(I:Nat->Á->Prop)
  (turn:∀ n s,I n s->wpAny (model prog w) A (pyNext it) (fun r s₁=>match r with
   |none=>R (.ok .next) s₁
   |some v=>wpAny (model prog w) A (letOwnedTupleGo target it v) (fun _ s₁'=>wpAny (model prog w) A (assign target env v) (fun _ s₂ =>
     wpAny (model prog w) A (forIn ifs true fun c r=>if r=true then do let ok <- isTrue c env (eval c env);pure (ForInStep.yield ok)else pure (ForInStep.yield r)) (fun ok s₃ =>
      if ok=true then wpAny (model prog w) A (eval elt env) (fun x s₄ =>wpAny (model prog w) A (call (.builtin "list.append") [acc,x]) (fun _ s₅=>∃ m,m<n/\I m s₅) (fun _ _=>False) s₄) (fun _ _=>False) s₃
      else ∃ m,m<n/\I m s₃) (fun _ _=>False) s₂) (fun _ _=>False) s₁') (fun _ _=>False) s₁) (fun _ _=>False) s)
  (n:Nat) (h:I n s):codeAny (model prog w) A (.compLoop (.ListComp elt [⟨target,iter,ifs,0⟩] scope pos) 0 it acc env) R s:=by
 refine codeAny_loop rfl I (fun n s hI=>?_) n h;show wpAny _ A ((compTurn (.ListComp elt [⟨target,iter,ifs,0⟩] scope pos) 0 it acc env).onRaise (fun x=>do noteFrame x env;theTreesLotGoes x)) _ _ s;refine wpAny_noted ?_;rw[compTurn_list];refine wpAny_bind (wpAny_standAt (wpAny_bind (wpAny_mono (turn n s hI) (fun r s₁ h₁=>?_) fun _ _ h'=>h'.elim)));cases r with
 |none=>exact wpAny_pure h₁
 |some v =>
  refine wpAny_bind (wpAny_mono h₁ (fun _ s₁' h₁'=>?_) fun _ _ h'=>h'.elim);refine wpAny_bind (wpAny_mono h₁' (fun _ s₂ h₂=>wpAny_bind (wpAny_mono h₂ (fun ok s₃ h₃=>?_) fun _ _ h'=>h'.elim)) fun _ _ h'=>h'.elim);cases ok with
  |false=>exact wpAny_pure ⟨rfl,h₃⟩
  |true =>exact wpAny_bind (wpAny_bind (wpAny_mono h₃ (fun x s₄ h₄=>wpAny_bind (wpAny_mono h₄ (fun _ s₅ h₅=>wpAny_pure (wpAny_pure ⟨rfl,h₅⟩)) fun _ _ h'=>h'.elim)) fun _ _ h'=>h'.elim))
def inner (X:Cx)(sc:Scope)(N:List Str)(cl:List (Str×Addr))(C:Addr)(s₀:Á)(H₀:Hp)(ex:List Addr):Cx :={ X with N:=N,s₀:=s₀,H₀:=H₀,env:=compEnvC sc cl C X.env,outer:=X.stack,ex:=ex,fn:=fun x=>sc.names.lookup x==some .cell,pn:=[] }
def PFs (X:Cx)(ifs:List Expr)(t:TT):Prop :=
 ∀ (pins:List (Addr×Obj)) (s:Á) (U:L2.St) (H:Hp) (Q:Bool->Hp->Prop),Inv X pins U H s->t U H Q ->
  wpAny (model X.prog X.w) X.A (forIn ifs true fun c r=>if r=true then do let ok <- isTrue c X.env (eval c X.env);pure (ForInStep.yield ok)else pure (ForInStep.yield r)) (TP X pins U Q) X.xe s
def ztp:TT:=fun _ H Q=>Q true H
def zri {X:Cx}:PFs X [] ztp:=fun _ _ _ H _ I h=>wpAny_tests_nil ⟨H,I,h⟩
def zqz (h:PT X c t):PFs X [c] t:=fun pins s U H Q I q=>wpAny_tests_one (h pins s U H Q I q)
def zc6 (X:Cx)(sc:Scope):List Str->List Nat->Prop
 |[],[]=>True
 |x::xs,j::js=>X.N[j]?=some x/\sc.names.lookup x=some .free/\X.env.kindOf x=some .cell/\zc6 X sc xs js
 |_,_=>False
def zbi (P:Str->Prop):List (Str×NameKind)->Prop
 |[]=>True
 |(n,.free)::r=>P n/\zbi P r
 |_::r=>zbi P r
theorem zbi.of {P:Str->Prop}:∀ {l:List (Str×NameKind)},zbi P l->∀ y∈l,y.2=.free->P y.1
  |(n,k)::r,h,y,hy,e=>by
    rcases List.mem_cons.mp hy with rfl|hy
    . dsimp only at e;subst e;exact h.1
    . refine zbi.of (l:=r) ?_ y hy e;cases k<;>first|exact h.2|exact h
def cst (own:List Str)(fv:List Nat)(U:L2.St):L2.St:=List.replicate own.length none++fv.map fun j=>(U[j]?).join
def Agr:L2.St->L2.St->Prop
 |[],[]=>True
 |none::r,_::s=>Agr r s
 |some v::r,some w::s=>v=w/\Agr r s
 |_,_=>False
theorem Agr.len:∀ {a b:L2.St},Agr a b->b.length=a.length
  |[],[],_=>rfl
  |none::r,_::s,h=>congrArg (· + 1) (Agr.len (a:=r) (b:=s) h)
  |some v::r,some w::s,h=>congrArg (· + 1) (Agr.len (a:=r) (b:=s) h.2)
theorem Agr.get:∀ {a b:L2.St},Agr a b->∀ (i:Nat) (v:V),a[i]?=some (some v)->b[i]?=some (some v)
 |none::r,_::s,h,i,v,e=>by
  cases i with
  |zero=>simp at e
  |succ i=>simpa using Agr.get (a:=r) (b:=s) h i v (by simpa using e)
 |some v'::r,some w::s,h,i,v,e=>by
  cases i with
  |zero=>simp at e;subst e;simp[h.1]
  |succ i=>simpa using Agr.get (a:=r) (b:=s) h.2 i v (by simpa using e)
def tLC (own:List Str)(fv:List Nat)(wi:TI)(g:TG)(tc:TT)(te:TE):TE:=fun U H Q=>wi U H fun J H1=>∀ p,H1 p=none ->
 ∃ W:Nat->Nat->Hp->Prop,(∃ m,W 0 m (upd H1 p (.lst [])))/\∀ i m H2,W i m H2 ->
  (J.stop i H2/\Q (.ref p) H2)\/(J.go i H2/\∀ x H',J.yld i H2 x H'->g x (cst own fv U) H' fun σ2 H3=>Agr (cst own fv U) σ2/\tc σ2 H3 fun b H4 =>
   if b=true then te σ2 H4 fun y H5=>∃ ys,H5 p=some (.lst ys)/\ys.length<sizeLine/\∃ m',m'<m/\W (i+1) m' (upd H5 p (.lst (ys++[y])))
   else ∃ m',m'<m/\W (i+1) m' H4)
def zif {env:Env}{n:Str}{c:Addr}(h:env.cells.lookup n=some c):cellOf env n=pure c:=by unfold cellOf;rw[h]
theorem zdB {env:Env}:∀ (names:List (Str×NameKind)) (cs:List (Str×Addr)),(∀ y∈names,y.2=.free->∃ c,env.cells.lookup y.1=some c)->(∀ x c,cs.lookup x=some c->env.cells.lookup x=some c) ->
    ∃ cl,(forIn names cs fun (x:Str×NameKind) (r:List (Str×Addr))=>if(x.2==NameKind.free)=true then do let a <- cellOf env x.1;pure (ForInStep.yield ((x.1,a)::r))else pure (ForInStep.yield r))=(pure cl:Sem (List (Str×Addr))) /\
      (∀ x c,cl.lookup x=some c->env.cells.lookup x=some c)/\(∀ x,(cs.lookup x).isSome=true->(cl.lookup x).isSome=true)/\∀ y∈names,y.2=.free->(cl.lookup y.1).isSome=true
  |[],cs,_,h2=>⟨cs,rfl,h2,fun _ h=>h,fun _ h=>nomatch h⟩
  |(n,k)::r,cs,h1,h2=>by
    rw[List.forIn_cons];by_cases hk:k=.free
    . subst hk;obtain⟨c,hc⟩:=h1 (n,.free) List.mem_cons_self rfl
      obtain⟨cl,e,a1,a2,a3⟩:=zdB (env:=env) r ((n,c)::cs) (fun y hy=>h1 y (List.mem_cons_of_mem _ hy)) (fun x d hx=>by
        rw[List.lookup_cons]at hx;by_cases hxn:x=n
        . subst hxn;simp at hx;subst hx;exact hc
        . have:(x==n)=false:=by simpa using hxn
          rw[this]at hx;exact h2 x d hx)
      refine⟨cl,?_,a1,fun x hx=>a2 x ?_,fun y hy e'=>?_⟩
      . simp only[beq_self_eq_true,if_true,zif hc];simpa using e
      . rw[List.lookup_cons];split<;>simp_all
      . rcases List.mem_cons.mp hy with rfl|hy
        . exact a2 _ (by simp[List.lookup_cons])
        . exact a3 y hy e'
    . have hb:(k==NameKind.free)=false:=by simpa using hk
      obtain⟨cl,e,a1,a2,a3⟩:=zdB (env:=env) r cs (fun y hy=>h1 y (List.mem_cons_of_mem _ hy)) h2;refine⟨cl,?_,a1,a2,fun y hy e'=>?_⟩
      . simp only[hb,Bool.false_eq_true,if_false];simpa using e
      . rcases List.mem_cons.mp hy with rfl|hy
        . exact absurd e' hk
        . exact a3 y hy e'
def zfl {env:Env}{sc:Scope}(h:∀ y∈sc.names,y.2=.free->∃ c,env.cells.lookup y.1=some c) :
  ∃ cl,closureFor sc env=pure cl/\(∀ x c,cl.lookup x=some c->env.cells.lookup x=some c)/\∀ y∈sc.names,y.2=.free->(cl.lookup y.1).isSome=true:=by
 obtain⟨cl,e,a1,_,a3⟩:=zdB (env:=env) sc.names [] h (fun x c hx=>by simp at hx);refine⟨cl,?_,a1,a3⟩;unfold closureFor;have e2:=e
 first
  |exact e2
  |(show(do let cs <- forIn sc.names [] _;pure cs)=_;rw[show(forIn sc.names [] _:Sem (List (Str×Addr)))=pure cl from e2];rfl)
  |simpa using e2
theorem zbT {env:Env}{x:Str}:∀ {names:List (Str×NameKind)},(names.map fun (n,k)=>if(k==NameKind.free&&env.scope.kind==.function&&env.kindOf n==some .cell)then(n,NameKind.cell)else(n,k)).lookup x =
    (names.lookup x).map fun k=>if(k==NameKind.free&&env.scope.kind==.function&&env.kindOf x==some .cell)then NameKind.cell else k
  |[]=>rfl
  |(n,k)::r=>by
    have ih:=zbT (env:=env) (x:=x) (names:=r);rw[List.map_cons];by_cases hx:x=n
    . subst hx;dsimp only;split<;>simp_all [List.lookup_cons]
    . have hb:(x==n)=false:=by simpa using hx
      dsimp only;split<;>(rw[List.lookup_cons,List.lookup_cons,hb];exact ih)
theorem mem_of_lookup {β:Type}{x:Str}{k:β}:∀ {l:List (Str×β)},l.lookup x=some k->(x,k)∈l
 |(n,b)::r,h=>by
  rw[List.lookup_cons]at h;by_cases hx:x=n
  ·subst hx;simp at h;subst h;exact List.mem_cons_self
  ·have hb:(x==n)=false:=by simpa using hx
   rw[hb]at h;exact List.mem_cons_of_mem _ (mem_of_lookup h)
theorem zaD:∀ (names:List (Str×NameKind)) (n:Nat) (acc:List (Str×Addr)),cellsFrom n names acc=cellsFrom n names []++acc
 |[],_,_=>rfl
 |(x,k)::r,n,acc=>by
  unfold cellsFrom;split
  ·rw[zaD r (n+1) ((x,n)::acc),zaD r (n+1) [(x,n)],List.append_assoc];rfl
  ·exact zaD r n acc
theorem zcj:∀ {names:List (Str×NameKind)} {n:Nat} {x:Str} {c:Addr},(x,c)∈cellsFrom n names []->(x,NameKind.cell)∈names
 |(y,k)::r,n,x,c,h=>by
  unfold cellsFrom at h;split at h
  ·rename_i hk;rw[zaD]at h;rcases List.mem_append.mp h with h|h
   ·exact List.mem_cons_of_mem _ (zcj h)
   ·have e:(x,c)=(y,n):=by simpa using h
    cases e;rw[show k=NameKind.cell by simpa using hk];exact List.mem_cons_self
  ·exact List.mem_cons_of_mem _ (zcj h)
theorem zcm:∀ {names:List (Str×NameKind)} {n:Nat} {x:Str},(x,NameKind.cell)∈names->((cellsFrom n names []).lookup x).isSome=true
 |(y,k)::r,n,x,h=>by
  unfold cellsFrom;rcases List.mem_cons.mp h with e|h
  ·cases e;rw[if_pos (by rfl),zaD,List.lookup_append];cases(cellsFrom (n+1) r []).lookup y with
   |some c=>rfl
   |none=>simp
  ·have ih:=zcm (n:=n) h;have ih':=zcm (n:=n+1) h;split
   ·rw[zaD,List.lookup_append];obtain⟨c,hc⟩:=Option.isSome_iff_exists.mp ih';rw[hc];rfl
   ·exact ih
def zjE {M:Model}{A:Around}{E:Â->Á->Prop}{s:Á}{scope:Scope}{globals:Addr}{closure:List (Str×Addr)}{qual:Str}{func:Option Addr}{code:Â}{env:Env}{Q:Env->Á->Prop}
    (hQ:Q (newEnv scope s.heap.objs.size globals (cellsFrom (s.heap.objs.size+1) scope.names closure) qual func code (some env) builtinsNs) { s with heap:=pushCells (s.heap.push { cls:=.type "dict",data:=.dict #[] }) scope.names }) :
    wpAny M A (newFunctionEnv scope globals closure [] qual func code (some env)) Q E s:=by
  simp only[newFunctionEnv,Option.isSome_some,if_true];refine wpAny_bind (wpAny_alloc ?_);refine wpAny_bind (wpAny_layCells _ (fun name kind cells=>by cases hkc:kind==NameKind.cell<;>simp[hkc]) _ _ _ _ ?_);rw[show({ s with heap:=s.heap.push { cls:=.type "dict",data:=.dict #[] } }:Á).heap.objs.size=s.heap.objs.size+1 from Heap.size_push ..];rw[List.forIn_nil];exact wpAny_bind (wpAny_pure (wpAny_pure hQ))
section
variable {X:Cx}{sc:Scope}{tg iter elt:Expr}{ifs:List Expr}{own free:List Str}{fv:List Nat}{wi:TI}{g:TG}{tc:TT}{te:TE}{pos:Pos}
theorem zmV {U:L2.St}:∀ {free:List Str} {fv:List Nat},zc6 X sc free fv->∀ (k:Nat) (x:Str) (v:V),free[k]?=some x->(fv.map fun j=>(U[j]?).join)[k]?=some (some v) ->
  ∃ j:Nat,X.N[j]?=some x/\U[j]?=some (some v)/\sc.names.lookup x=some .free/\X.env.kindOf x=some .cell
 |x'::xs,j::js,h,k,x,v,e1,e2=>by
  cases k with
  |zero =>
   simp at e1 e2;subst e1;refine⟨j,h.1,?_,h.2.1,h.2.2.1⟩;cases q:U[j]? with
   |none=>rw[q]at e2;simp at e2
   |some o=>rw[q]at e2;simp at e2;rw[e2]
  |succ k=>exact zmV (free:=xs) (fv:=js) h.2.2.2 k x v (by simpa using e1) (by simpa using e2)
 |[],[],_,k,x,v,e1,_=>by simp at e1
theorem zj1:∀ {free:List Str} {fv:List Nat},zc6 X sc free fv->fv.length=free.length
  |[],[],_=>rfl
  |_::_,_::_,h=>congrArg (· + 1) (zj1 h.2.2.2)
def zfH {RR : Â → Addr → Result → Á → Prop} (hcalm : X.calm = true) (hxe : X.xe = fun _ _ => False) (hkind : sc.kind = .function) (hcell : ∀ y ∈ sc.names, y.2 = .cell → sc.names.lookup y.1 = some .cell) (hfr : zbi (fun x => X.env.kindOf x = some .cell) sc.names) (hfv : zc6 X sc free fv) (hg : ∀ cl C s₀ H₀ ex, PG (inner X sc (own ++ free) cl C s₀ H₀ ex) tg g) (ht : ∀ cl C s₀ H₀ ex, PFs (inner X sc (own ++ free) cl C s₀ H₀ ex) ifs tc) (he : ∀ cl C s₀ H₀ ex, PE (inner X sc (own ++ free) cl C s₀ H₀ ex) elt te) {Q : VK} (I2 : Inv X pins U H2 s2) (T : Turn X.prog X.w X.K tg J fp it tn) (st2 : tn 0 s2.heap) (f2 : ∀ b ∈ fp, zds X pins H2 b) (h : ∀ p, H2 p = none → ∃ W : Nat → Nat → Hp → Prop, (∃ m, W 0 m (upd H2 p (.lst []))) ∧ ∀ i m H2, W i m H2 →
      (J.stop i H2/\Q (.ref p) H2)\/(J.go i H2/\∀ x H',J.yld i H2 x H'->g x (cst own fv U) H' fun σ2 H3=>Agr (cst own fv U) σ2/\tc σ2 H3 fun b H4 =>
        if b=true then te σ2 H4 fun y H5=>∃ ys,H5 p=some (.lst ys)/\ys.length<sizeLine/\∃ m',m'<m/\W (i+1) m' (upd H5 p (.lst (ys++[y])))
        else ∃ m',m'<m/\W (i+1) m' H4)) {cl:List (Str×Addr)} (hcl1:∀ x c,cl.lookup x=some c->X.env.cells.lookup x=some c) (hcl2:∀ y∈sc.names,y.2=.free->(cl.lookup y.1).isSome=true) (hRR:∀ (p C:Addr) (m:Str->Option Â) (H':Hp) (s':Á),s'.heap.Ns C m->Inv X pins U H' s'->H' C=none->C≠X.env.locals->X.s₀.heap.objs.size<=C->(∀ x c,X.env.cells.lookup x=some c->c≠C)->(∀ q∈X.pn++pins,q.1≠C)->Q (.ref p) H' ->
      RR (.ref p) C (.ok .next) s') :
    wpAny (model X.prog X.w) X.A (newList []) (fun acc s3=>wpAny (model X.prog X.w) X.A (newFunctionEnv sc X.env.globals cl [] X.env.qual none .none (some X.env)) (fun cenv s4 =>codeAny (model X.prog X.w) X.A (.compStart (.ListComp elt [⟨tg,iter,ifs,0⟩] sc pos) 0 (.ref it) acc { cenv with scope:=relabel sc X.env }) (RR acc cenv.locals) s4) X.xe s3) X.xe s2:=by
  rw[hxe];refine wpAny_newObj_type ?_;have I3:Inv X pins U (upd H2 s2.heap.objs.size (.lst [])) { s2 with heap:=s2.heap.push { cls:=.type "list",data:=.seq ([]:List Â).toArray } }:=I2.lnew (t':=s2.toks) .nil (Nat.zero_le _);generalize hs3:({ s2 with heap:=s2.heap.push { cls:=.type "list",data:=.seq ([]:List Â).toArray } }:Á)=s3 at I3 ⊢;have hp:H2 s2.heap.objs.size=none:=I2.fresh;obtain⟨W,⟨m0,w0⟩,turn⟩:=h s2.heap.objs.size hp;generalize hH3:upd H2 s2.heap.objs.size (.lst [])=H3 at I3 w0 ⊢;have hk3:∀ b o,s2.heap.get? b=some o->s3.heap.get? b=some o:=fun b o e=>by rw[<- hs3];exact Heap.get?_push_of_some _ e
  have hz3:s3.heap.objs.size=s2.heap.objs.size+1:=by rw[<- hs3];exact Heap.size_push ..
  have st3:tn 0 s3.heap:=T.keep _ _ _ st2 fun b _ o e=>hk3 b o e
  have hfpo:∀ b∈fp,∃ o,s3.heap.get? b=some o:=fun b hb=>by obtain⟨o,e,_⟩:=T.obj _ _ st3 b hb;exact⟨o,e⟩
  have hfpn:∀ b∈fp,b≠s2.heap.objs.size:=fun b hb e=>by obtain⟨o,e',_⟩:=T.obj _ _ st2 b hb;have:=Heap.lt_size e';rw[e]at this;exact Nat.lt_irrefl _ this
  have f3:∀ b∈fp,H3 b=none:=fun b hb=>by rw[<- hH3,zA (hfpn b hb)];exact(f2 b hb).1
  refine zjE ?_;have cok:=cellsFrom_ok sc.names (s3.heap.push { cls:=.type "dict",data:=.dict #[] }) (s3.heap.objs.size+1) [] ⟨fun _ _ hm=>(nomatch hm),List.Pairwise.nil⟩ (by rw[Heap.size_push];exact Nat.le_refl _);rw[Heap.size_push]at cok;have hns1:(pushCells (s3.heap.push { cls:=.type "dict",data:=.dict #[] }) sc.names).Ns s3.heap.objs.size (fun _=>none):=(Heap.Ns.new s3.heap (.type "dict")).keeps (pushCells_keeps _ _);have old:∀ b o,s3.heap.get? b=some o->(pushCells (s3.heap.push { cls:=.type "dict",data:=.dict #[] }) sc.names).get? b=some o:=fun b o e=>pushCells_keeps _ _ b o (Heap.get?_push_of_some _ e)
  rw[zaD];have fmem:∀ {x c},(x,c)∈cellsFrom (s3.heap.objs.size+1) sc.names []->sc.names.lookup x=some .cell:=fun {x c} h=>hcell (x,.cell) (zcj h) rfl
  have fhas:∀ {x},sc.names.lookup x=some .cell->∃ c,(cellsFrom (s3.heap.objs.size+1) sc.names []).lookup x=some c:=fun {x} h=>Option.isSome_iff_exists.mp (zcm (mem_of_lookup h))
  generalize pushCells (s3.heap.push { cls:=.type "dict",data:=.dict #[] }) sc.names=h1 at cok hns1 old ⊢;generalize cellsFrom (s3.heap.objs.size+1) sc.names []=F at cok fmem fhas ⊢;have flt:∀ {x c},F.lookup x=some c->s3.heap.objs.size<c:=fun {x c} e=>(cok.empty x c (mem_of_lookup e)).2
  have cl':∀ {x c},(F++cl).lookup x=some c->F.lookup x=some c\/(F.lookup x=none/\cl.lookup x=some c):=fun {x c} e=>by
    rw[List.lookup_append]at e;cases hF:F.lookup x with
    |some c'=>rw[hF]at e;exact .inl e
    |none=>rw[hF]at e;exact .inr ⟨rfl,e⟩
  have hC0:H3 s3.heap.objs.size=none:=I3.fresh;have hlow:X.s₀.heap.objs.size<=s3.heap.objs.size:=I3.sz;have hloc:X.env.locals<s3.heap.objs.size:=I3.lt
  have hcells:∀ x c,X.env.cells.lookup x=some c->c<s3.heap.objs.size:=fun x c e=>by obtain⟨v,o,ho,_⟩:=I3.cell x c e;exact Heap.lt_size ho
  have YOk:(inner X sc (own++free) (F++cl) s3.heap.objs.size s3 H3 fp).Ok:={
    mod:=I3.ok.mod
    kind:=by show(relabel sc X.env).kind=.function;exact hkind
    glob:=I3.ok.glob
    blt:=I3.ok.blt
    above:=Nat.le_refl _
    inj:=fun x y c hx hy=>by
      rcases cl' hx with h|⟨_,h⟩<;>rcases cl' hy with h'|⟨_,h'⟩
      . exact name_of_addr cok.apart (mem_of_lookup h) (mem_of_lookup h')
      . exact absurd (Nat.lt_trans (flt h) (hcells y c (hcl1 y c h'))) (Nat.lt_irrefl _)
      . exact absurd (Nat.lt_trans (flt h') (hcells x c (hcl1 x c h))) (Nat.lt_irrefl _)
      . exact I3.ok.inj x y c (hcl1 x c h) (hcl1 y c h')
    has:=fun x hx=>by
      show ∃ c,(F++cl).lookup x=some c;rw[List.lookup_append];cases hF:F.lookup x with
      |some c=>exact⟨c,rfl⟩
      |none =>
      show ∃ c,cl.lookup x=some c
      have e : (sc.names.lookup x).map (fun k => if(k == NameKind.free && X.env.scope.kind == .function && X.env.kindOf x == some .cell)then NameKind.cell else k) = some .cell ∨
          (sc.names.lookup x).map (fun k=>if(k==NameKind.free&&X.env.scope.kind==.function&&X.env.kindOf x==some .cell)then NameKind.cell else k)=some .free:=by
        have:=@zbT X.env x sc.names;rcases hx with hx|hx
        . exact .inl (this.symm.trans hx)
        . exact .inr (this.symm.trans hx)
      cases q:sc.names.lookup x with
      |none=>rw[q]at e;simp at e
      |some k =>
        have hm:=mem_of_lookup q;by_cases hkf:k=.free
        . subst hkf;exact Option.isSome_iff_exists.mp (hcl2 (x,.free) hm rfl)
        . have hkc : k ≠ .cell := fun ek => by
            subst ek;obtain⟨c,hc⟩:=fhas q;rw[hF]at hc;cases hc
          rw[q]at e;have hb:(k==NameKind.free)=false:=by simpa using hkf
          simp only[Option.map_some,hb,Bool.false_and,Bool.false_eq_true,if_false,Option.some.injEq]at e;rcases e with e|e
          . exact absurd e hkc
          . exact absurd e hkf
    cab:=fun x c hx hc=>by
      obtain⟨c',hc'⟩:=fhas (show sc.names.lookup x=some .cell from beq_iff_eq.mp hx);rcases cl' hc with h|⟨h,_⟩
      . exact Nat.le_of_lt (flt h)
      . rw[hc']at h;cases h
    hd:=I3.ok.hd
    frames:=I3.ok.frames
    stk:=.inl rfl
    exf:=fun b hb=>⟨fun e=>by obtain⟨o,e'⟩:=hfpo b hb;have:=Heap.lt_size e';rw[e]at this;exact Nat.lt_irrefl _ this,fun x c hx=>by
      rcases cl' hx with h|⟨_,h⟩
      . obtain⟨o,e'⟩:=hfpo b hb;exact Nat.ne_of_gt (Nat.lt_trans (Heap.lt_size e') (flt h))
      . exact(f2 b hb).2.2.2.2.1 x c (hcl1 x c h)⟩
    bs:=I3.bs
    bsz:=Nat.le_trans I3.ok.bsz I3.sz
    noex:=fun b o hb hm=>by
      rcases(f2 b hm).2.2.2.1 with hx|hx
      . exact I3.ok.noex b o hb hx
      . exact Nat.lt_irrefl _ (Nat.lt_of_lt_of_le (Nat.lt_of_lt_of_le (Heap.lt_size hb) I3.ok.bsz) hx)
    exfs:=fun b hb hm=>by
      rcases List.mem_cons.mp (I3.stkSub b hm)with e|e
      . exact(f2 b hb).2.1 e
      . exact(f2 b hb).2.2.1 e
    funs:=I3.stack
    frf:=I3.stkFree }
  have hlen0:(cst own fv U).length=(own++free).length:=by unfold cst;rw[List.length_append,List.length_append,List.length_replicate,List.length_map,zj1 hfv]
  have I4:∀ tk,Inv (inner X sc (own++free) (F++cl) s3.heap.objs.size s3 H3 fp) [] (cst own fv U) H3 { s3 with heap:=h1,toks:=tk }:=fun tk=>{
    ok:=YOk
    os:=rfl
    bare:=I3.bare
    base:=Un.kept old
    loc:=by
      refine⟨_,hns1,fun i x v hN hσ _=>?_⟩;have hN':(own++free)[i]?=some x:=hN;have hσ':(List.replicate own.length none++fv.map fun j=>(U[j]?).join)[i]?=some (some v):=hσ;by_cases hi:i<own.length
      . rw[List.getElem?_append_left (by rw[List.length_replicate];exact hi)]at hσ';rw[List.getElem?_replicate]at hσ';split at hσ'<;>simp at hσ'
      . rw[List.getElem?_append_right (by lia)]at hN';rw[List.getElem?_append_right (by rw[List.length_replicate];lia),List.length_replicate]at hσ';obtain⟨j,hj,hσj,hsx,hkx⟩:=zmV hfv _ x v hN' hσ';obtain⟨m,_,hall⟩:=I3.loc;obtain⟨u,ru,lk⟩:=hall j x v hj hσj (.inr (.inl hkx));refine⟨u,ru,.inr ⟨?_,?_⟩⟩
        . have:=@zbT X.env x sc.names;rw[hsx]at this;have e2:Env.kindOf (inner X sc (own++free) (F++cl) s3.heap.objs.size s3 H3 fp).env x=(sc.names.map fun (n,k)=>if(k==NameKind.free&&X.env.scope.kind==.function&&X.env.kindOf n==some .cell)then(n,NameKind.cell)else(n,k)).lookup x:=rfl;rw[e2,this];simp only[Option.map_some];split
          . exact .inl rfl
          . exact .inr rfl
        . rcases lk with⟨hl,_⟩|⟨_,c,hc,hcell'⟩
          . rw[hkx]at hl;cases hl
          . obtain⟨c',hc'⟩:=Option.isSome_iff_exists.mp (hcl2 (x,.free) (mem_of_lookup hsx) rfl);have:=hcl1 x c' hc';rw[hc]at this;cases this;refine⟨c,?_,?_⟩
            . show(F++cl).lookup x=some c;rw[List.lookup_append];cases hF:F.lookup x with
              |none=>exact hc'
              |some c2=>have:=fmem (mem_of_lookup hF);rw[hsx]at this;cases this
            obtain⟨o,ho,hd⟩:=hcell';exact⟨o,old _ _ ho,hd⟩
    cell:=fun x c hx=>by
      rcases cl' hx with h|⟨_,h⟩
      . exact⟨none,(cok.empty x c (mem_of_lookup h)).1⟩
      . obtain⟨v,o,ho,hd⟩:=I3.cell x c (hcl1 x c h);exact⟨v,o,old _ _ ho,hd⟩
    free:=hC0
    freeC:=fun x c hx=>by
      rcases cl' hx with h|⟨_,h⟩
      . exact I3.hok.fresh (Nat.le_of_lt (flt h))
      . exact I3.freeC x c (hcl1 x c h)
    pin:=fun q hq=>nomatch hq
    hok:=I3.hok.kept old
    len:=hlen0 }
  have back:∀ (m:Str->Option Â) (H':Hp) (s':Á),s'.heap.Ns s3.heap.objs.size m->Inv (inner X sc (own++free) (F++cl) s3.heap.objs.size s3 H3 fp) [] (cst own fv U) H' s'->Q (.ref s2.heap.objs.size) H'->RR (.ref s2.heap.objs.size) s3.heap.objs.size (.ok .next) s':=fun m H' s' hm IY q=>by
    have u1:Un (frs X.stack) fp H3 H' s3.heap s'.heap:=IY.base;have IX:Inv X pins U H' s':=I3.call' (ch:=fp) (IY.os) u1 IY.hok IY.bare fun b hb=>⟨(f2 b hb).2.2.2.1,(f2 b hb).2.1,(f2 b hb).2.2.2.2.1,(f2 b hb).2.2.2.2.2⟩
    refine hRR _ _ m H' s' hm IX IY.free (Nat.ne_of_gt hloc) hlow (fun x c hx=>Nat.ne_of_lt (hcells x c hx)) (fun q' hq=>?_) q;have:=(I3.pin q' hq).1;exact Nat.ne_of_lt (Heap.lt_size this)
  have stat:∀ {H':Hp},(∀ b∈fp,H' b=none)->∀ b∈fp,zds (inner X sc (own++free) (F++cl) s3.heap.objs.size s3 H3 fp) [] H' b:=fun hn b hb =>⟨hn b hb,(YOk.exf b hb).1,YOk.exfs b hb,.inl hb,(YOk.exf b hb).2,fun q hq=>nomatch hq⟩
  have hYxe:(inner X sc (own++free) (F++cl) s3.heap.objs.size s3 H3 fp).xe=fun _ _=>False:=hxe
  have loop:∀ tk,codeAny (model X.prog X.w) X.A (.compLoop (.ListComp elt [⟨tg,iter,ifs,0⟩] sc pos) 0 (.ref it) (.ref s2.heap.objs.size) (compEnvC sc (F++cl) s3.heap.objs.size X.env)) (RR (.ref s2.heap.objs.size) s3.heap.objs.size) { s3 with heap:=h1,toks:=tk }:=fun tk=>by
    refine zh8 (fun n s'=>∃ i H',Inv (inner X sc (own++free) (F++cl) s3.heap.objs.size s3 H3 fp) [] (cst own fv U) H' s'/\tn i s'.heap/\(∀ b∈fp,H' b=none)/\W i n H') ?_ m0 ⟨0,H3,I4 tk,T.keep _ _ _ st3 (fun b _ o e=>old b o e),f3,w0⟩;rintro n s5 ⟨i,H5,I5,st5,fr5,w5⟩;rcases turn i n H5 w5 with⟨stop,q⟩|⟨go,step⟩
    . refine thn (T.done (inner X sc (own++free) (F++cl) s3.heap.objs.size s3 H3 fp) rfl rfl rfl hcalm i [] s5 _ H5 _ I5 (stat fr5) st5 stop) fun r s6 ⟨hr,I6⟩=>?_
      subst hr;obtain⟨m,hm,_⟩:=I6.loc;exact back m H5 s6 hm I6 q
    . refine thn (T.item (inner X sc (own++free) (F++cl) s3.heap.objs.size s3 H3 fp) rfl rfl rfl hcalm i [] s5 _ H5 _ I5 (stat fr5) st5 go) fun r s6 ⟨u,hr,h6⟩=>?_
      subst hr;refine thn h6 fun _ s7 ⟨x,H7,I7,r7,y7,st7,fr7⟩=>?_
      have I7':=I7.pinned (stat fr7) (T.obj _ _ st7);have hg':=hg (F++cl) s3.heap.objs.size s3 H3 fp _ s7 _ H7 x u _ I7' r7 (step x H7 y7);have ht':=ht (F++cl) s3.heap.objs.size s3 H3 fp;have he':=he (F++cl) s3.heap.objs.size s3 H3 fp;have ap:MtM (inner X sc (own++free) (F++cl) s3.heap.objs.size s3 H3 fp) "list.append" ziy:=zgm;unfold PFs at ht';unfold PE at he';unfold MtM at ap;rw[hYxe]at hg' ht' he' ap
      have again : ∀ {pl : List (Addr × Obj)} {σ8 : L2.St} {H8 : Hp} {s8 : Á}, pl = zdW fp s7.heap → Inv (inner X sc (own ++ free) (F ++ cl) s3.heap.objs.size s3 H3 fp) ([] ++ pl) σ8 H8 s8 → Agr (cst own fv U) σ8 → (∃ m', m' < n ∧ W (i + 1) m' H8) →
          ∃ m,m<n/\∃ i H',Inv (inner X sc (own++free) (F++cl) s3.heap.objs.size s3 H3 fp) [] (cst own fv U) H' s8/\tn i s8.heap/\(∀ b∈fp,H' b=none)/\W i m H':=fun {pl σ8 H8 s8} hpl I8 ag zq10=>by
        obtain⟨m',hm,w8⟩:=zq10;subst hpl;refine⟨m',hm,i+1,H8,(I8.unpinned).weak ag.len.symm (fun j v e=>ag.get j v e),T.keep _ _ _ st7 fun b hb o e=>(I8.pin (b,o) (List.mem_append_right _ (List.mem_append_right _ (zcx hb e)))).1,fun b hb=>?_,w8⟩;obtain⟨o,e,d⟩:=T.obj _ _ st7 b hb;exact(I8.pin (b,o) (List.mem_append_right _ (List.mem_append_right _ (zcx hb e)))).2.1
      refine thn hg' fun _ s8 ⟨σ8,H8,I8,ag,q8⟩=>?_
      refine thn (ht' _ s8 σ8 H8 _ I8 q8) fun b s9 ⟨H9,I9,q9⟩=>?_
      cases b with
      |false =>rw[if_neg Bool.false_ne_true]at q9 ⊢;exact again rfl I9 ag q9
      |true =>
        rw[if_pos rfl]at q9 ⊢;refine thn (he' _ s9 σ8 H9 _ I9 q9) fun y s10 ⟨yv,H10,I10,ry,ys,hy,hlt,q10⟩=>?_
        refine thn (ap _ s10 σ8 H10 (.ref s2.heap.objs.size) [yv] (.ref s2.heap.objs.size) [y] (fun v H'=>v=.non/\H'=upd H10 s2.heap.objs.size (.lst (ys++[yv]))) I10 rfl (.cons ry .nil) ⟨_,ys,yv,rfl,rfl,hy,hlt,rfl,rfl⟩) fun z s11 ⟨v11,H11,I11,_,_,e11⟩=>?_
        subst e11;exact again rfl I11 ag q10
  refine codeAny_compStart_list (loop _) (T.self _ 0 _ _ _ (T.keep _ _ _ st3 fun b _ o e=>old b o e) (loop _))
def zs6 (hcalm:X.calm=true)(hxe:X.xe=fun _ _=>False)(hkind:sc.kind=.function)(hcell:∀ y∈sc.names,y.2=.cell->sc.names.lookup y.1=some .cell)(hnames:∀ y∈sc.names,y.2=.local->sc.names.lookup y.1=some .local)
  (hfr:zbi (fun x=>X.env.kindOf x=some .cell) sc.names) (hfv:zc6 X sc free fv) (hi:PI X tg iter wi)
  (hg:∀ cl C s₀ H₀ ex,PG (inner X sc (own++free) cl C s₀ H₀ ex) tg g) (ht:∀ cl C s₀ H₀ ex,PFs (inner X sc (own++free) cl C s₀ H₀ ex) ifs tc) (he:∀ cl C s₀ H₀ ex,PE (inner X sc (own++free) cl C s₀ H₀ ex) elt te)
  (hs:∀ x,foldedSetIterable iter X.env x=pure x:=by intro _;rfl):PE X (.ListComp elt [⟨tg,iter,ifs,0⟩] sc pos) (tLC own fv wi g tc te):=by
 intro pins s U H Q I q;obtain⟨cl,hclos,hcl1,hcl2⟩:=zfl (env:=X.env) (sc:=sc) fun y hy e=>I.ok.has y.1 (.inl (hfr.of y hy e))
 rw[eval_ListComp];refine wpAny_comprehension_free (use:=none) rfl hs hclos hkind hnames (thn (hi pins s U H _ I q) fun v s1 h1=>thn h1 fun itv s2 h2=>?_);obtain⟨it,fp,tn,J,H2,e,I2,T,st2,f2,q2⟩:=h2;subst e;refine zfH (RR:=fun acc C=>compPost (model X.prog X.w) X.A X.xe none (EP X pins U Q) acc C) hcalm hxe hkind hcell hfr hfv hg ht he I2 T st2 f2 q2 hcl1 hcl2 ?_;intro p C m H' s' hm I' hC hCl hC0 hCc hCp q';exact⟨m,hm,fun h' hs'=>⟨.ref p,H',I'.turned (t':=s'.toks) (fun b o hb e=>hs'.extBut b o hb e) hC hCl (.inr hC0) hCc hCp,rfl,q'⟩⟩
def zoU {i:Nat}{y:Str}{py spos:Pos}(hN:X.N.Nodup)(hy:X.N[i]?=some y)(hyl:X.env.scope.names.lookup y=some .local)(hcalm:X.calm=true)(hxe:X.xe=fun _ _=>False)(hkind:sc.kind=.function)(hcell:∀ y∈sc.names,y.2=.cell->sc.names.lookup y.1=some .cell)(hnames:∀ y∈sc.names,y.2=.local->sc.names.lookup y.1=some .local)
  (hfr:zbi (fun x=>X.env.kindOf x=some .cell) sc.names) (hfv:zc6 X sc free fv) (hi:PI X tg iter wi)
  (hg:∀ cl C s₀ H₀ ex,PG (inner X sc (own++free) cl C s₀ H₀ ex) tg g) (ht:∀ cl C s₀ H₀ ex,PFs (inner X sc (own++free) cl C s₀ H₀ ex) ifs tc) (he:∀ cl C s₀ H₀ ex,PE (inner X sc (own++free) cl C s₀ H₀ ex) elt te)
  (hsw:swapsWith (.ListComp elt [⟨tg,iter,ifs,0⟩] sc pos) (some (.Name y py)) spos.line X.env=pure true:=by rfl)
  (hs:∀ x,foldedSetIterable iter X.env x=pure x:=by intro _;rfl):PS X (.Assign [.Name y py] (.ListComp elt [⟨tg,iter,ifs,0⟩] sc pos) spos) (zl0 (tLC own fv wi g tc te) (zK i)):=by
 intro pins s U H D I q;obtain⟨cl,hclos,hcl1,hcl2⟩:=zfl (env:=X.env) (sc:=sc) fun y hy e=>I.ok.has y.1 (.inl (hfr.of y hy e))
 rw[exec_Assign_Name_used _ _ _ _ hsw];refine wpAny_bind (wpAny_standAt (wpAny_bind ?_));show wpAny _ X.A (do let _ <- comprehension (.ListComp elt [⟨tg,iter,ifs,0⟩] sc pos) sc X.env _ (newList []) false (eval iter X.env) (some (assign (.Name y py) X.env))) _ _ s
 refine wpAny_bind (wpAny_mono (wpAny_comprehension_free (use:=some (assign (.Name y py) X.env)) (Q:=fun _ s'=>SP X pins D .next s') rfl hs hclos hkind hnames
  (thn (hi pins s U H _ I q) fun v s1 h1=>thn h1 fun itv s2 h2=>?_)) (fun _ s' hq=>wpAny_pure (wpAny_pure hq)) fun _ _ e=>e)
 obtain⟨it,fp,tn,J,H2,e,I2,T,st2,f2,q2⟩:=h2;subst e;refine zfH (RR:=fun acc C=>compPost (model X.prog X.w) X.A X.xe (some (assign (.Name y py) X.env)) (fun _ s'=>SP X pins D .next s') acc C) (Q:=fun x H1=>zK i x U H1 D.nx) hcalm hxe hkind hcell hfr hfv hg ht he I2 T st2 f2 q2 hcl1 hcl2 ?_;intro p C m H' s' hm I' hC hCl hC0 hCc hCp q';show wpAny _ X.A (assign (.Name y py) X.env (.ref p)) _ _ _;refine wpAny_assign_Name (zgg (v:=.ref p) I' hN hy (.inl hyl) rfl (fun s'' I'' hsb=>?_) (.inr hyl));obtain⟨a,hsb,ha⟩:=hsb
 have hCa:C≠a:=by
  rcases ha with rfl|ha
  ·exact hCl
  ·exact fun e=>hCc _ _ ha e.symm
 refine⟨m,hm.sameBut hsb hCa,fun h' hs'=>⟨_,H',I''.turned (t':=s''.toks) (fun b o hb e=>hs'.extBut b o hb e) hC hCl (.inr hC0) hCc hCp,q'⟩⟩
end
def ziW (lo st:Int)(n:Nat):It:=⟨fun i _=>i<n,fun i H x H'=>H'=H/\x=.int (lo+i*st),fun i _=>n<=i⟩
def zii {P:Program}{w:World}{K:À}{tg:Expr}(it:Addr)(lo st:Int)(n:Nat):Turn P w K tg (ziW lo st n) [it] it (fun i h=>IsRangeIter h it (lo+(i:Nat)*st) ((n:Int)-(i:Nat)) st) where
 mem:=by simp
 obj:=fun i h st b hb=>by
  have e:b=it:=by simpa using hb
  subst e
  exact⟨_,st,fun v z=>by have z':Data.fields _=Data.cell v:=z;cases z'⟩
 keep:=fun i h h' st k=>k it (by simp) _ st
 item:=by
  intro X hP hw hK hc i pins s U H E I hf st' hg;subst hP hw hK;obtain⟨f0,f1,f2,f3,f4,f5⟩:=hf it (by simp);have W:=Walks.range (prog:=X.prog) (w:=X.w) (I.ok.hd hc) it lo st n;refine W.item i s _ _ hg st' fun v h' tk hv st'' kk=>?_
  obtain⟨t,rfl⟩:=hv;have I1:Inv X pins U H { s with heap:=h',toks:=tk }:=I.turned (fun b o hb e=>kk b o (by simpa using hb) e) f0 f1 f3 f4 f5;exact⟨_,rfl,zcR (s:={ s with heap:=h',toks:=tk }) (n:="range_iterator") st'' rfl rfl (by decide) ⟨.int (lo+i*st),H,I1,⟨t,rfl⟩,⟨rfl,rfl⟩,st'',fun b hb=>(hf b hb).1⟩⟩
 done:=by intro X hP hw hK hc i pins s U H E I hf st' hg;subst hP hw hK;obtain⟨f0,f1,f2,f3,f4,f5⟩:=hf it (by simp);exact wpAny_pyNext_range_end (I.ok.hd hc) st' (by have:n<=i:=hg;lia) fun h' eb=>⟨rfl,I.turned (t':=s.toks) (fun b o hb e=>eb b o hb e) f0 f1 f3 f4 f5⟩
 self:=fun _ _ _ _ _ st h=>wpAny_pyIter_rangeiter st h
def Ite (K:À)(l:Addr):It :=
  ⟨fun i H=>∃ xs x,SqL K H l xs/\xs[i]?=some x,
   fun i H v H'=>∃ p,v=.ref p/\H p=none/\∀ xs x,SqL K H l xs->xs[i]?=some x->H'=upd H p (.tup [.int i,x]),
   fun i H=>∃ xs,SqL K H l xs/\xs.length<=i⟩
section
variable {X:Cx}
def zvt (K:À)(ta:TA):TI:=fun U H R=>ta U H fun vs H1=>∃ l,vs=[.ref l]/\(∃ xs,SqL K H1 l xs)/\R (Ite K l) H1
end
def cz (cs:List (Int×Int))(k:Nat):Int:=(cs.getD k (0,0)).2
def hT (x1 z1 x2 z2 a b:Int):Int:=z1*(x2-x1)*b+(z2-z1)*(a-x1*b)
def hB (x1 x2 b:Int):Int:=(x2-x1)*b
structure zmr (P:Program)(w:World)(K:À)(mg:Str->Option Â)(base:Heap)(k:Nat)(x:Str)(sp:Sp):Prop where
 ex:∃ (C f:Addr) (fd:FuncData) (ps:List Str) (sp0:Sp),Mk K C f/\zaF P w K mg base CX0 k f fd ps sp0/\Binds K fd ps []/\mg x=some (.ref C) /\
  ∀ vs H Q,sp vs H Q E0->∀ x dx,H x=none->H dx=none->dx≠x->sp0 (.ref x::vs) (upd (upd H dx (.own x)) x (.ins C dx [])) (fun v H2=>v=.non/\Q (.ref x) H2) E0
def ztv {X:Cx}{p pos:Pos}{e:Expr}{es:List Expr}(G:zmr X.prog X.w X.K X.mg X.base k x sp)(hr:zP j X.A)(hk:k+1<=j)(hg:Gl X x)(ha:PA X (e::es) t)(hdb:autoParam ((x==("__debug__":Str))=false) zG)(he:autoParam (starEach (e::es) X.env=(false,eval e X.env)::starEach es X.env) zq)(hpl:autoParam ((backTo pos (starEach es X.env)).any (·.1)=false) zq) :
  PE X (.Call (.Name x p) (e::es) [] pos) (zjg sp [] E0 t):=by
 intro pins s U H Q I h;obtain⟨C,f,fd,ps,sp0,M,F,b,hm,imp⟩:=G.ex;refine wpAny_Call_Name_kw (zbB I hg hm ?_ hdb);refine PySem.W.callWith_K (h₀:=X.base) I.ok.mod.kin M.kp (thn (ha pos pins s U H _ I h) fun us s1 ⟨vs,H1,I1,r,q⟩=>⟨I1.kIn,?_⟩) he hpl;have q':sp (vs++[]) H1 Q E0:=q;rw[List.append_nil]at q';exact zmm (dvs:=[]) (ds:=[]) M F (hr.mono hk) b .nil zmA I1 r fun x dx h1 h2 h3=>by rw[List.append_nil];exact imp vs H1 Q q' x dx h1 h2 h3
def zoO {n:Int}{pos:Pos}(hg:Gl X x)(hm:∃ t,X.mg x=some (.int n t))(hd:autoParam ((x==("__debug__":Str))=false) zG):PE X (.Name x pos) (tC (.int n)):=by obtain⟨t,ht⟩:=hm;exact zit (v:=.int n) hg ht ⟨t,rfl⟩ hd
section
variable {X:Cx}{K:À}
def zkF {its:List Â}(_:Inv X pins U H s)(pl:PlainL s.heap p its.toArray) :
  p<s.heap.objs.size/\(s.heap.push { cls:=.type "list_iterator",data:=.fields #[.ref p,.int 0 0] }).IsListIter s.heap.objs.size p 0:=by
 obtain⟨o,ho,_⟩:=pl.isList;exact⟨Heap.lt_size ho,_,Heap.get?_push_size _ rfl,rfl,rfl⟩
def zkQ {h':Heap}{tk:Nat}(I:Inv X pins U H s){o:Obj}(hk:∀ b u,b∉[s.heap.objs.size]->(s.heap.push o).get? b=some u->h'.get? b=some u) :
  Inv X pins U H { s with heap:=h',toks:=tk }:=I.kept (t':=tk) fun d u e=>hk d u (fun hm=>by
   have h1:d=s.heap.objs.size:=by simpa using hm
   have h2:=Heap.lt_size e;rw[h1]at h2;exact Nat.lt_irrefl _ h2) (Heap.get?_push_of_some _ e)
def zu7 (K:À):List V->Hp->VK->Prop:=fun xs H Q=>∃ (p:Addr) (bs:List Bool),xs=[.ref p]/\SqL K H p (bs.map V.bl)/\Q (.bl (bs.all id)) H
def zlq {bs:List Bool}(rv:Vals (bs.map V.bl) its){i:Nat}{v:Â}(h:its.toArray[i]?=some v):v=.bool (bs.getD i false):=by
 rw[<- Array.getElem?_toList]at h
 have hi:i<its.length:=by
  rcases Nat.lt_or_ge i its.length with g|g
  ·exact g
  ·rw[List.getElem?_eq_none (by simpa using g)]at h;cases h
 have hl:=rv.length;rw[List.length_map]at hl
 have e:(bs.map V.bl)[i]?=some (.bl (bs.getD i false)):=by rw[List.getElem?_map,List.getElem?_eq_getElem (by lia)];simp[List.getD_eq_getElem?_getD,List.getElem?_eq_getElem (show i<bs.length by lia)]
 obtain⟨u,hu,ru⟩:=rv.get e;rw[show its.toArray.toList=its from rfl,hu]at h;cases h;exact ru
def all_range (bs:List Bool):(List.range bs.length).all (fun i=>bs.getD i false)=bs.all id:=by
 rw[Bool.eq_iff_iff,List.all_eq_true,List.all_eq_true];constructor
 ·intro h b hb;obtain⟨i,hi,rfl⟩:=List.mem_iff_getElem.mp hb;simpa [List.getD_eq_getElem?_getD,List.getElem?_eq_getElem hi]using h i (List.mem_range.mpr hi)
 ·intro h i hi;rw[List.mem_range]at hi;have:=h bs[i] (List.getElem_mem hi);simpa [List.getD_eq_getElem?_getD,List.getElem?_eq_getElem hi]using this
def zkR (hK:X.K=K)(hc:X.calm=true):zaw X (.builtin "all") (zu7 K):=fun pins s U H xs us Q I r h=>by
 subst hK;obtain⟨p,bs,rfl,hS,q⟩:=h;obtain⟨u,rfl,ru⟩:=vals1 r;cases ru;obtain⟨its,rv,pl,hz⟩:=I.list hS;obtain⟨lt,st⟩:=zkF I pl;have hl:=rv.length;rw[List.length_map]at hl;have W:=Walks.list (prog:=X.prog) (w:=X.w) (A:=X.A.in1) (I.ok.hd hc) s.heap.objs.size p (Nat.ne_of_lt lt) its.toArray;refine call_all_walk (wpAny_pyIter_list pl.isList ⟨s.heap.objs.size,[s.heap.objs.size,p],[s.heap.objs.size],_,_,_,fun i=>bs.getD i false,rfl,W,⟨st,pl.isList.push _⟩,?_,?_⟩)
 ·intro i v s' Q' E' hv hq;rw[zlq rv hv];exact wpAny_truthy_bool hq
 ·intro h' tk hk;rw[List.size_toArray,<- hl,all_range];exact⟨.bl _,H,zkQ (s:=s) I hk,rfl,q⟩
def znn {ns:List Int}(rv:Vals (ns.map V.int) its){i:Nat}{v:Â}(h:its.toArray[i]?=some v):∃ t,v=.int (ns.getD i 0) t:=by
 rw[<- Array.getElem?_toList]at h
 have hi:i<its.length:=by
  rcases Nat.lt_or_ge i its.length with g|g
  ·exact g
  ·rw[List.getElem?_eq_none (by simpa using g)]at h;cases h
 have hl:=rv.length;rw[List.length_map]at hl
 have e:(ns.map V.int)[i]?=some (.int (ns.getD i 0)):=by rw[List.getElem?_map,List.getElem?_eq_getElem (by lia)];simp[List.getD_eq_getElem?_getD,List.getElem?_eq_getElem (show i<ns.length by lia)]
 obtain⟨u,hu,ru⟩:=rv.get e;rw[show its.toArray.toList=its from rfl,hu]at h;cases h;exact ru
theorem zeQ (ns:List Int):∀ k,k<=ns.length->preSum (fun i=>ns.getD i 0) k=(ns.take k).sum
 |0,_=>by simp[preSum]
 |k+1,h=>by have ih:=zeQ ns k (by lia);show preSum (fun i=>ns.getD i 0) k+ns.getD k 0=_;rw[ih,List.take_succ,List.sum_append];simp[List.getD_eq_getElem?_getD,List.getElem?_eq_getElem (show k<ns.length by lia)]
def zsw (K:À):List V->Hp->VK->Prop:=fun xs H Q=>∃ (p:Addr) (ns:List Int),xs=[.ref p]/\SqL K H p (ns.map V.int)/\Q (.int ns.sum) H
def zkN (hK:X.K=K)(hc:X.calm=true):zaw X (.builtin "sum") (zsw K):=fun pins s U H xs us Q I r h=>by
 subst hK;obtain⟨p,ns,rfl,hS,q⟩:=h;obtain⟨u,rfl,ru⟩:=vals1 r;cases ru;obtain⟨its,rv,pl,hz⟩:=I.list hS;obtain⟨lt,st⟩:=zkF I pl;have hl:=rv.length;rw[List.length_map]at hl;have W:=Walks.list (prog:=X.prog) (w:=X.w) (A:=X.A.in1) (I.ok.hd hc) s.heap.objs.size p (Nat.ne_of_lt lt) its.toArray;refine call_sum_walkG (wpAny_pyIter_list pl.isList ⟨s.heap.objs.size,[s.heap.objs.size,p],[s.heap.objs.size],_,_,_,fun i=>ns.getD i 0,rfl,W,⟨st,pl.isList.push _⟩,?_,?_,?_⟩)
 ·intro d hd;simp only[List.mem_cons,List.not_mem_nil,or_false]at hd;rw[Heap.size_push];rcases hd with rfl|rfl
  ·exact Nat.lt_succ_self _
  ·exact Nat.lt_succ_of_lt lt
 ·intro i v hv;exact znn rv hv
 ·intro h' tk t' hk;rw[List.size_toArray,<- hl,zeQ ns _ (Nat.le_refl _),List.take_length];exact⟨.int _,H,zkQ (s:=s) I hk,⟨t',rfl⟩,q⟩
end
section
variable {X:Cx}{K:À}
def zsV (K:À):R2:=fun x y H Q=>∃ l b xs zs,x=.ref l/\y=.ref b/\SqL K H l xs/\SqL K H b zs/\xs.length+zs.length<=sizeLine/\∀ p,H p=none->Q (.ref p) (upd H p (.lst (xs++zs)))
def zn9 (hK:X.K=K):OpR X (binaryOp .Add) (zsV K):=by
 subst hK;intro pins s U H x y v u Q I rx ry h;obtain⟨l,b,xs,zs,rfl,rfl,hH,hB,hz,q⟩:=h;cases rx;cases ry;obtain⟨its,r,pl,_⟩:=I.list hH;obtain⟨its2,r2,pl2,_⟩:=I.list hB;obtain⟨⟨cls,dd,data,sl⟩,ho,hc,n,hd⟩:=pl.isList;obtain⟨⟨cls2,dd2,data2,sl2⟩,ho2,hc2,n2,hd2⟩:=pl2.isList;simp only at hc hd hc2 hd2;subst hc hd hc2 hd2;have e1:=r.length;have e2:=r2.length;refine concat_meets ⟨_,ho,rfl⟩ ⟨_,ho2,rfl⟩ noFill_list_add seq_list_add PySem.F.slot_list_add PySem.F.entry_list_add (PySem.F.args_list_add_2 _ _) (list_addW l b its.toArray its2.toArray n n2 dd dd2 sl sl2 (by rw[List.size_toArray,List.size_toArray];lia)) ⟨ho,ho2,?_⟩;have ea:its.toArray++its2.toArray=(its++its2).toArray:=by simp
 rw[ea];exact⟨.ref _,_,I.lnew (t':=s.toks) (r.append r2) (by rw[List.length_append];lia),rfl,q _ I.fresh⟩
end
def zam {α:Type}{xs:List α}{i:Nat}{x:α}(h:xs[i]?=some x):i<xs.length:=by
 rcases Nat.lt_or_ge i xs.length with g|g
 ·exact g
 ·rw[List.getElem?_eq_none g]at h;cases h
open PySem PySem.W PyProof.Rows
section
variable {lt:Nat->Nat->Bool}
abbrev ga (p:Array Nat)(i:Nat):Nat:=p.getD i 0
end
open PySem PySem.Spec PySem.W PyProof.Rows L2
def zqf (K:À):R2:=fun x y H Q=>∃ a b xs ys,x=.ref a/\y=.ref b/\SqT K H a xs/\SqT K H b ys/\xs.length+ys.length<=sizeLine/\(xs=[]->Q (.ref b) H)/\(xs≠[]->ys=[]->Q (.ref a) H)/\(xs≠[]->ys≠[]->∀ p,H p=none->Q (.ref p) (upd H p (.tup (xs++ys))))
def zml {X:Cx}{K:À}(hK:X.K=K):OpR X (binaryOp .Add) (zqf K):=by
 subst hK;intro pins s U H x y v u Q I rx ry h;obtain⟨a,b,xs,ys,rfl,rfl,ha,hb,hz,q0,q1,q2⟩:=h;by_cases hx:xs=[]
 ·subst hx;cases rx;cases ry;obtain⟨its,r1,p1,_⟩:=I.tuple ha;obtain⟨its2,r2,p2,_⟩:=I.tuple hb;cases r1;obtain⟨⟨cls,dd,data,sl⟩,ho,hc,n,hd⟩:=id p1;obtain⟨⟨cls2,dd2,data2,sl2⟩,ho2,hc2,n2,hd2⟩:=id p2;simp only at hc hd hc2 hd2;subst hc hd hc2 hd2
  exact concat_meets ⟨_,ho,rfl⟩ ⟨_,ho2,rfl⟩ noFill_tuple_add seq_tuple_add PySem.F.slot_tuple_add PySem.F.entry_tuple_add (PySem.F.args_tuple_add_2 _ _)
   (tuple_addW0 a b _ its2.toArray n n2 dd dd2 sl sl2 (by simp)) ⟨ho,ho2,⟨.ref b,H,I,rfl,q0 rfl⟩⟩
 ·exact znL pins s U H _ _ v u Q I rx ry ⟨a,b,xs,ys,rfl,rfl,ha,hb,hx,hz,q1 hx,q2 hx⟩
end My
namespace Dp
open PySem
inductive D where
 |non|bl (b:Bool)|int (i:Int)|str (x:Str)|tup (xs:List D)|ref (n:Nat)|ty (n:String)|rl (xs:List D)|exn (c:Str)|kt (xs:List D)
 deriving Inhabited
inductive Cell where
 |lst (xs:List D)|ins (c:Str) (fs:List (Str×D))
 |dk (kvs:List (Str×D))|dt (kvs:List (List (Sum Int Str)×D))
 |tab (x:Str) (l c:Nat)
 deriving Inhabited
abbrev Sto:=List Cell
abbrev Rho:=List (Option D)
abbrev DK:=D->Sto->Prop
abbrev DE:=Rho->Sto->DK->Prop
abbrev DT:=Rho->Sto->(Bool->Sto->Prop)->Prop
abbrev DA:=Rho->Sto->(List D->Sto->Prop)->Prop
abbrev DG:=D->Rho->Sto->(Rho->Sto->Prop)->Prop
abbrev DGs:=List D->Rho->Sto->(Rho->Sto->Prop)->Prop
structure zep where
 nx:Rho->Sto->Prop
 rt:DK
 bk:Rho->Sto->Prop:=fun _ _=>False
 ct:Rho->Sto->Prop:=fun _ _=>False
abbrev DS:=zep->Rho->Sto->Prop
structure DIt where
 items:List D
 ok:Sto->Prop
abbrev DI:=Rho->Sto->(DIt->Sto->Prop)->Prop
abbrev DSp:=List D->Sto->DK->Prop
def big:Nat:=1000000
def fl:Nat->D->Bool
  |_,.ref _=>false
  |_,.ty _=>false
  |_,.rl _=>false
  |_,.exn _=>false
  |_,.kt _=>false
  |0,.tup _=>false
  |k+1,.tup xs=>xs.all (fl k)
  |_,.non=>true
  |_,.bl _=>true
  |_,.int _=>true
  |_,.str x=>x.cps.all (· < 0x110000)
mutual
def eqv:D->D->Bool
 |.non,.non=>true
 |.bl a,.bl b=>a==b
 |.bl a,.int j=>(if a then 1 else 0)==j
 |.int i,.bl b=>i==(if b then 1 else 0)
 |.int i,.int j=>decide (i=j)
 |.str x,.str y=>x==y
 |.tup xs,.tup ys=>eqvAll xs ys
 |_,_=>false
def eqvAll:List D->List D->Bool
 |[],[]=>true
 |x::xs,y::ys=>eqv x y&&eqvAll xs ys
 |_,_=>false
end
def Lst (S:Sto)(x:D)(xs:List D):Prop:=x=.rl xs\/∃ n,x=.ref n/\S[n]?=some (.lst xs)
def zdV (S:Sto)(x:D)(xs:List D):Prop:=x=.tup xs\/Lst S x xs
def ixD (n:Nat)(k:Int):Option Nat:=if 0<=k then(if k<n then some k.toNat else none)else if -(n:Int)<=k then some (k+n).toNat else none
def atD (xs:List D)(k:Int):Option D:=(ixD xs.length k).bind fun j=>xs[j]?
def atS (z:Str)(k:Int):Option Nat:=(ixD z.cps.toList.length k).bind fun j=>z.cps.toList[j]?
def slD (n:Nat)(d:Nat):Option Int->Nat
 |none=>d
 |some k=>if k<0 then(k+n).toNat else min k.toNat n
def cutD (xs:List α)(lo hi:Option Int):List α:=(xs.drop (slD xs.length 0 lo)).take (slD xs.length xs.length hi-slD xs.length 0 lo)
def za1 (i:Nat):DE:=fun Z S Q=>∃ d,Z[i]?=some (some d)/\Q d S
def dC (d:D):DE:=fun _ S Q=>Q d S
abbrev DR2:=D->D->Sto->DK->Prop
def dOp (r:DR2)(ta tb:DE):DE:=fun Z S Q=>ta Z S fun x S1=>tb Z S1 fun y S2=>r x y S2 Q
def dUn (r:D->Sto->DK->Prop)(ta:DE):DE:=fun Z S Q=>ta Z S fun x S1=>r x S1 Q
def zf:DA:=fun _ S Q=>Q [] S
def za (ta:DE)(tr:DA):DA:=fun Z S Q=>ta Z S fun x S1=>tr Z S1 fun xs S2=>Q (x::xs) S2
def dTup (t:DA):DE:=fun Z S Q=>t Z S fun xs S1=>xs.length<=big/\Q (.tup xs) S1
def zaG (t:DA):DE:=fun Z S Q=>t Z S fun xs S1=>xs.length<=big/\Q (.ref S1.length) (S1++[.lst xs])
def dCall (f:DSp)(t:DA):DE:=fun Z S Q=>t Z S fun xs S1=>f xs S1 Q
abbrev DB:=List D->Sto->DK->Prop
def dB (r:DB)(t:DA):DE:=fun Z S Q=>t Z S fun xs S1=>r xs S1 Q
def dT (t:DE):DT:=fun Z S Q=>t Z S fun x S1=>∃ b,x=.bl b/\Q b S1
def zf2 (t u:DT):DT:=fun Z S Q=>t Z S fun c S1=>if c=true then u Z S1 Q else Q false S1
def dOr (t u:DT):DT:=fun Z S Q=>t Z S fun c S1=>if c=true then Q true S1 else u Z S1 Q
def zbe (t:DT):DT:=fun Z S Q=>t Z S fun c S1=>Q (!c) S1
def zbD (t u:DE):DE:=fun Z S Q=>t Z S fun x S1=>∃ c,x=.bl c/\if c=true then u Z S1 Q else Q (.bl false) S1
def zpc (t u:DE):DE:=fun Z S Q=>t Z S fun x S1=>∃ c,x=.bl c/\if c=true then Q (.bl true) S1 else u Z S1 Q
def zdn (t:DE):DE:=fun Z S Q=>t Z S fun x S1=>∃ c,x=.bl c/\Q (.bl (!c)) S1
def zjm (c:DT)(ta tb:DE):DE:=fun Z S Q=>c Z S fun b S1=>if b=true then ta Z S1 Q else tb Z S1 Q
def zfF (r r':DR2)(ta tb tc:DE):DE:=fun Z S Q=>ta Z S fun x S1=>tb Z S1 fun y S2=>r x y S2 fun z S3=>∃ c,z=.bl c/\if c=true then tc Z S3 fun w S4=>r' y w S4 Q else Q (.bl false) S3
def zdA:Option DE->Rho->Sto->(Option Int->Sto->Prop)->Prop
 |none=>fun _ S Q=>Q none S
 |some t=>fun Z S Q=>t Z S fun x S1=>∃ i,x=.int i/\Q (some i) S1
def dSl (r:D->Option Int->Option Int->Sto->DK->Prop)(ta:DE)(lo hi:Option DE):DE:=fun Z S Q=>ta Z S fun x S1=>zdA lo Z S1 fun l S2=>zdA hi Z S2 fun h S3=>r x l h S3 Q
def zL (f:Str)(ta:DE):DE:=fun Z S Q=>ta Z S fun x S1=>∃ n c fs d,x=.ref n/\S1[n]?=some (.ins c fs)/\fs.lookup f=some d/\Q d S1
def putD (f:Str)(v:D):List (Str×D)->List (Str×D)
 |[]=>[(f,v)]
 |(g,x)::r=>if g=f then(g,v)::r else(g,x)::putD f v r
def zez (c:Str)(init:DSp):DSp:=fun ds S Q=>init (.ref S.length::ds) (S++[.ins c []]) fun d S2=>d=.non/\Q (.ref S.length) S2
abbrev DM:=D->List D->Sto->DK->Prop
def dM (r:DM)(ta:DE)(t:DA):DE:=fun Z S Q=>ta Z S fun x S1=>(∃ n ys,x=.ref n/\S1[n]?=some (.lst ys))/\t Z S1 fun xs S2=>r x xs S2 Q
def oI (C:Int->Int->Prop)(g:Int->Int->D):DR2:=fun x y S Q=>∃ i j,x=.int i/\y=.int j/\C i j/\Q (g i j) S
def oI0 (g:Int->Int->D):DR2:=fun x y S Q=>∃ i j,x=.int i/\y=.int j/\Q (g i j) S
def oU (g:Int->D):D->Sto->DK->Prop:=fun x S Q=>∃ i,x=.int i/\Q (g i) S
def zai (i j:Int):Prop:=(My.Bd 8000 i/\My.Bd 8000 j)\/i.natAbs<2 ^ 64\/j.natAbs<2 ^ 64
def zm5 (_ j:Int):Prop:=j≠0/\My.Bd 8000 j
def ztL (_ j:Int):Prop:=j≠0
def zJ:DR2:=fun x y S Q=>(∃ i j,x=.int i/\y=.int j/\Q (.int (i+j)) S)\/(∃ xs ys,x=.tup xs/\y=.tup ys/\xs.length+ys.length<=big/\Q (.tup (xs++ys)) S) \/
 (∃ xs ys,Lst S x xs/\Lst S y ys/\xs.length+ys.length<=big/\Q (.ref S.length) (S++[.lst (xs++ys)])) \/
 (∃ i j:Str,x=.str i/\y=.str j/\i.length+j.length<=big/\Q (.str (i++j)) S)
def zap:DR2:=oI0 fun i j=>.int (i-j)
def zuw (z:Str)(n:Int):Str:=if n<1 then Str.empty else if(n==1||z.length==0)=true then z else⟨(List.replicate n.toNat z.cps).foldl (·++·) #[]⟩
@[irreducible] def Hg (x:Int):Prop:=x.natAbs<2 ^ 1048576
def zag:DR2:=fun x y S Q=>oI zai (fun i j=>.int (i*j)) x y S Q\/(∃ (z:Str) (n:Int),x=.str z/\y=.int n/\z.length<=1000/\-1000<=n/\n<=1000/\Q (.str (zuw z n)) S)\/oI (fun i j=>Hg i/\Hg j) (fun i j=>.int (i*j)) x y S Q
def oDiv:DR2:=oI zm5 fun i j=>.int (i.fdiv j)
def oMod:DR2:=oI ztL fun i j=>.int (i.fmod j)
def zaj:D->Sto->DK->Prop:=oU fun i=>.int (-i)
def oLt:DR2:=oI0 fun i j=>.bl (decide (i<j))
def oLe:DR2:=oI0 fun i j=>.bl (decide (i<=j))
def oGt:DR2:=oI0 fun i j=>.bl (decide (j<i))
def oGe:DR2:=oI0 fun i j=>.bl (decide (j<=i))
def zrp (S:Sto):List D->List (List D)->Prop
 |[],[]=>True
 |x::xs,z::zs=>Lst S x z/\zrp S xs zs
 |_,_=>False
def EqD (S:Sto)(x y:D)(b:Bool):Prop:=(fl 20 x=true/\fl 20 y=true/\b=eqv x y)\/(∃ xs ys,Lst S x xs/\Lst S y ys/\xs.all (fl 20)=true/\ys.all (fl 20)=true/\b=eqvAll xs ys) \/
 False
def oEq:DR2:=fun x y S Q=>∃ b,EqD S x y b/\Q (.bl b) S
def oNe:DR2:=fun x y S Q=>∃ b,EqD S x y b/\Q (.bl (!b)) S
def InD (S:Sto)(x y:D)(b:Bool):Prop:=∃ ys,zdV S y ys/\fl 20 x=true/\ys.all (fl 20)=true/\b=ys.any fun z=>eqv z x
def oIn:DR2:=fun x y S Q=>(∃ b,InD S x y b/\Q (.bl b) S)\/(∃ (c:Nat) (z:Str),x=.str ⟨#[c]⟩/\y=.str z/\Q (.bl (decide (c∈z.cps.toList))) S)
def zfw:DR2:=fun x y S Q=>(∃ b,InD S x y b/\Q (.bl (!b)) S)\/(∃ (c:Nat) (z:Str),x=.str ⟨#[c]⟩/\y=.str z/\Q (.bl (!decide (c∈z.cps.toList))) S)
def zgQ:D->Bool
 |.non=>true
 |_=>false
def oIs:DR2:=fun x y S Q=>(y=.non/\Q (.bl (zgQ x)) S)\/(∃ a b,x=.bl a/\y=.bl b/\Q (.bl (a==b)) S)
def zgZ:DR2:=fun x y S Q=>(y=.non/\Q (.bl (!zgQ x)) S)\/(∃ a b,x=.bl a/\y=.bl b/\Q (.bl (!(a==b))) S)
def oIx:DR2:=fun x y S Q=>(∃ i xs d,y=.int i/\zdV S x xs/\atD xs i=some d/\Q d S)\/(∃ (z:Str) (i:Int) (c:Nat),x=.str z/\y=.int i/\z.length<=big/\atS z i=some c/\Q (.str ⟨#[c]⟩) S)
def zvu (z:Str)(lo hi:Option Int):Str:=⟨(cutD z.cps.toList lo hi).toArray⟩
def zbG:D->Option Int->Option Int->Sto->DK->Prop:=fun x lo hi S Q=>(∃ xs,x=.tup xs/\Q (.tup (cutD xs lo hi)) S)\/(∃ xs,Lst S x xs/\Q (.ref S.length) (S++[.lst (cutD xs lo hi)]))\/False
def z8:DB:=fun vs S Q=>(∃ x xs,vs=[x]/\zdV S x xs/\Q (.int xs.length) S)\/(∃ z:Str,vs=[.str z]/\z.length<=big/\Q (.int z.length) S)
def zi7:DB:=fun vs S Q=>∃ i,vs=[.int i]/\Q (.int (i.natAbs:Int)) S
def zgT:DB:=fun vs S Q=>∃ i j,vs=[.int i,.int j]/\Q (.int (max i j)) S
def zjI:DB:=fun vs S Q=>∃ x ns,vs=[x]/\Lst S x (List.map D.int ns)/\Q (.int ns.sum) S
def zck:DB:=fun vs S Q=>∃ x bs,vs=[x]/\Lst S x (List.map D.bl bs)/\Q (.bl (bs.all id)) S
def zbb:DB:=fun vs S Q=>∃ x xs,vs=[x]/\zdV S x xs/\Q (.ref S.length) (S++[.lst xs])
def zef:DB:=fun vs S Q=>(∃ i,vs=[.int i]/\Q (.int i) S)\/∃ b,vs=[.bl b]/\Q (.int (if b then 1 else 0)) S
def zf0 (t:String):Bool:=t=="int"||t=="bool"||t=="tuple"||t=="list"||t=="str"
def zpB (S:Sto)(t:String)(d:D):Option Bool:=if(!zf0 t)=true then none else match d with
 |.non=>some false
 | .bl _=>some (t=="bool"||t=="int")
 | .int _=>some (t=="int")
 | .str _=>some (t=="str")
 | .tup _=>some (t=="tuple")
 |.ref n=>match S[n]? with
  | some (.lst _)=>some (t=="list")
  |_=>none
 |.ty _=>none
 |.rl _=>none
 |.exn _=>none
 |.kt _=>none
def zd5:DB:=fun vs S Q=>∃ x t b,vs=[x,.ty t]/\zpB S t x=some b/\Q (.bl b) S
abbrev p2 (c:Int×Int):D:=.tup [.int c.1,.int c.2]
def zbC:DM:=fun x vs S Q=>∃ n xs y,x=.ref n/\vs=[y]/\S[n]?=some (.lst xs)/\xs.length<big/\Q .non (S.set n (.lst (xs++[y])))
def zjk:DM:=fun x vs S Q=>∃ n xs y,x=.ref n/\vs=[]/\S[n]?=some (.lst (xs++[y]))/\Q y (S.set n (.lst xs))
def zfB:DM:=fun x vs S Q=>∃ n xs y j e,x=.ref n/\vs=[y]/\S[n]?=some (.lst xs)/\xs.all (fl 20)=true/\fl 20 y=true/\xs.length<=big/\xs[j]?=some e/\eqv e y=true/\(∀ (m:Nat) e',m<j->xs[m]?=some e'->eqv e' y=false)/\Q (.int (j:Nat)) S
def zK (i:Nat):DG:=fun d Z S Q=>Q (Z.set i (some d)) S
def zbP:DGs:=fun ds Z S Q=>ds=[]/\Q Z S
def z9 (t:DG)(u:DGs):DGs:=fun ds Z S Q=>∃ d r,ds=d::r/\t d Z S fun ρ' S'=>u r ρ' S' Q
def zbW (n:Nat)(t:DGs):DG:=fun d Z S Q=>∃ xs,d=.tup xs/\xs.length=n/\t xs Z S Q
def zgc (to ti:DE):DG:=fun d Z S Q=>to Z S fun o S1=>ti Z S1 fun i S2=>∃ n xs k j,o=.ref n/\i=.int k/\S2[n]?=some (.lst xs)/\ixD xs.length k=some j/\Q Z (S2.set n (.lst (xs.set j d)))
def zj (t u:DS):DS:=fun E Z S=>t { E with nx:=u E } Z S
def zu:DS:=fun E Z S=>E.nx Z S
def zy (t:DE):DS:=fun E Z S=>t Z S E.rt
def zaU (t:DE):DS:=fun E Z S=>t Z S fun _ S1=>E.nx Z S1
def zp (t:DE)(g:DG):DS:=fun E Z S=>t Z S fun x S1=>g x Z S1 E.nx
def sIf (c:DT)(t u:DS):DS:=fun E Z S=>c Z S fun b S1=>if b=true then t E Z S1 else u E Z S1
def sJ (t:DS):DS:=fun E Z S=>∃ J:Rho->Sto->Prop,(∀ Z S,J Z S->E.nx Z S)/\t { E with nx:=J } Z S
def zbL:DS:=fun _ _ _=>False
def zkl:DS:=fun E Z S=>E.bk Z S
def zmX:DS:=fun E Z S=>E.ct Z S
def zbs (c f:Str)(to tv:DE):DS:=fun E Z S=>tv Z S fun y S1=>to Z S1 fun x S2=>∃ n fs,x=.ref n/\S2[n]?=some (.ins c fs)/\fs.length<100/\E.nx Z (S2.set n (.ins c (putD f y fs)))
def zi5 (i:Nat)(t:DE):DS:=fun E Z S=>∃ a,Z[i]?=some (some (.int a))/\t Z S fun y S1=>∃ b,y=.int b/\E.nx (Z.set i (some (.int (a+b)))) S1
def zd6 (c:DT)(t:DS):DS:=fun E Z S=>∃ W:Nat->Rho->Sto->Prop,(∃ m,W m Z S)/\∀ m Z S,W m Z S ->
 c Z S fun b S1=>if b=true then ∃ N:Rho->Sto->Prop,(∀ ρ' S',N ρ' S'->∃ m',m'<m/\W m' ρ' S')/\t { E with nx:=N,ct:=N,bk:=E.nx } Z S1 else E.nx Z S1
def zcX (wi:DI)(g:DG)(t:DS):DS:=fun E Z S=>wi Z S fun J S1=>∃ W:Nat->Rho->Sto->Prop,W 0 Z S1/\(∀ i Z S,W i Z S->J.ok S) /\
 (∀ i d Z S,J.items[i]?=some d->W i Z S->g d Z S fun ρ2 S2=>t { E with nx:=W (i+1),ct:=W (i+1),bk:=E.nx } ρ2 S2)/\∀ Z S,W J.items.length Z S->E.nx Z S
def signs (z:Str):List D:=z.cps.toList.map fun c=>.str ⟨#[c]⟩
def zfj (x:D)(S1:Sto)(R:DIt->Sto->Prop):Prop:=(∃ xs,x=.tup xs/\R ⟨xs,fun _=>True⟩ S1)\/(∃ xs,Lst S1 x xs/\R ⟨xs,fun S=>Lst S x xs⟩ S1)\/(∃ z:Str,x=.str z/\R ⟨signs z,fun _=>True⟩ S1)
def zaS (t:DE):DI:=fun Z S R=>t Z S fun x S1=>zfj x S1 R
def upto (lo:Int)(n:Nat):List D:=(List.range n).map fun k:Nat=>D.int (lo+(k:Int))
def zbm (t:DA):DI:=fun Z S R=>t Z S fun vs S1=>∃ j:Int,vs=[.int j]/\-(2 ^ 62)<=j/\j<2 ^ 62/\R ⟨upto 0 j.toNat,fun _=>True⟩ S1
def zet (t:DA):DI:=fun Z S R=>t Z S fun vs S1=>∃ i j:Int,vs=[.int i,.int j]/\R ⟨upto i (j-i).toNat,fun _=>True⟩ S1
def steps (lo st:Int)(n:Nat):List D:=(List.range n).map fun k:Nat=>D.int (lo+(k:Int)*st)
def zhD (R:DIt->Sto->Prop)(vs:List D)(S1:Sto):Prop:=(∃ i j c:Int,vs=[.int i,.int j,.int c]/\(0<c/\c<2 ^ 30)/\R ⟨steps i c (if i<j then(j-i-1)/c+1 else 0).toNat,fun _=>True⟩ S1)\/∃ i j:Int,vs=[.int i,.int j,.int (-1)]/\R ⟨steps i (-1) (i-j).toNat,fun _=>True⟩ S1
def zgR (t:DA):DI:=fun Z S R=>t Z S (zhD R)
def zdm (c:List Str)(z:Str):List Str:=if c.any (·==z)=true then c else c++[z]
def za2 (f:Nat->Str):Nat->List Str
 |0=>[]
 |i+1=>zdm (za2 f i) (f i)
def zjp (zs:List Str):Nat:=(za2 (fun i=>zs.getD i Str.empty) zs.length).length
def zfE:DB:=fun vs S Q=>∃ x,∃ zs:List Str,vs=[x]/\Lst S x (zs.map D.str)/\zs.length<=4000/\Q (.int (zjp zs)) S
def ze5 (own:Nat)(fv:List Nat)(Z:Rho):Rho:=List.replicate own none++fv.map fun j=>(Z[j]?).join
def zan:DT:=fun _ S Q=>Q true S
def dLC (own:Nat)(fv:List Nat)(wi:DI)(g:DG)(tc:DT)(te:DE):DE:=fun Z S Q=>wi Z S fun J S1=>J.items.length<=big/\∃ W:Nat->List D->Sto->Prop,W 0 [] S1/\(∀ i ys S,W i ys S->J.ok S) /\
 (∀ i d ys S,J.items[i]?=some d->W i ys S->g d (ze5 own fv Z) S fun ρ2 S2=>tc ρ2 S2 fun b S3=>if b=true then te ρ2 S3 fun y S4=>W (i+1) (ys++[y]) S4 else W (i+1) ys S3) /\
 ∀ ys S,W J.items.length ys S->Q (.ref S.length) (S++[.lst ys])
def zjd:DE:=fun _ S Q=>Q (.ref S.length) (S++[.dk []])
def zjo:DE:=fun _ S Q=>Q (.ref S.length) (S++[.dt []])
def zkE (tk tv:DE):DE:=fun Z S Q=>tk Z (S++[.dk []]) fun x S1=>tv Z S1 fun y S2=>∃ z,x=.str z/\S2[S.length]?=some (.dk [])/\Q (.ref S.length) (S2.set S.length (.dk [(z,y)]))
def fc:Cell->Bool
 |.lst xs=>xs.all (fl 20)
 |.ins _ _=>false
 |.dk _=>false
 |.dt _=>false
 |.tab _ _ _=>false
def Fin (S:Sto)(Q:DK):DK:=fun d S'=>Q d S'\/∃ S1,S1 <+: S'/\S.length<=S1.length/\(fl 20 d=true\/∃ n,d=.ref n/\n<S1.length)/\(∀ (n:Nat) c,S1[n]?=some c->S[n]?=some c\/fc c=true)/\Q d S1
def zb6 (n:Nat)(ds:List D):Rho:=ds.map some++List.replicate (n-ds.length) none
def BodyOk (n:Nat)(b:DS)(f:DSp):Prop:=∀ ds S Q,f ds S Q->b ⟨fun _ S'=>Fin S Q .non S',Fin S Q,fun _ _=>False,fun _ _=>False⟩ (zb6 n ds) S
abbrev XD:=Str->Sto->Prop
abbrev XR:=Rho->Str->Sto->Prop
abbrev zU:=List D->Sto->DK->XD->Prop
def zak (f:zU)(ex:XR)(t:DA):DE:=fun Z S Q=>t Z S fun xs S1=>f xs S1 Q (ex Z)
def zae (c m:Str)(f:zU)(ex:XR)(ta:DE)(t:DA):DE:=fun Z S Q=>ta Z S fun x S1=>∃ n fs,x=.ref n/\S1[n]?=some (.ins c fs)/\fs.lookup m=none/\t Z S1 fun xs S2=>f (.ref n::xs) S2 Q (ex Z)
def xF:XR:=fun _ _ _=>False
def zaA (ex:XR)(c:Str):DS:=fun _ Z S=>ex Z c S
def zbX (tbl:List (Str×Bool))(t:DE):DE:=fun Z S Q=>t Z S fun x S1=>∃ c b,x=.exn c/\tbl.lookup c=some b/\Q (.bl b) S1
def zjx (i:Nat)(ok:List Str)(b:XR->DS)(h:DS):DS:=fun E Z S =>b (fun ρ' c S'=>ok.contains c=true/\h { nx:=fun ρ2 S2=>E.nx (ρ2.set i none) S2,rt:=E.rt,bk:=fun _ _=>False,ct:=fun _ _=>False } (ρ'.set i (some (.exn c))) S') E Z S
def zdc (c:Str)(init:zU):zU:=fun ds S Q ex=>init (.ref S.length::ds) (S++[.ins c []]) (fun d S2=>d=.non/\Q (.ref S.length) S2) ex
def zM (n:Nat)(b:XR->DS)(f:zU):Prop:=∀ ds S Q ex,f ds S Q ex->b (fun _=>ex) ⟨fun _ S'=>Fin S Q .non S',Fin S Q,fun _ _=>False,fun _ _=>False⟩ (zb6 n ds) S
def New (Q:DK)(S:Sto)(xs:List D):Prop:=Q (.ref S.length) (S++[.lst xs])
def Put (Q:Sto->Prop)(S:Sto)(n:Nat)(c:Cell):Prop:=Q (S.set n c)
def zlV (own:Nat)(fv:List Nat)(g:DG)(tc:DT)(te:DE)(Z:Rho)(Q:DK)(J:DIt)(S:Sto):Prop:=J.items.length<=big/\∃ W:Nat->List D->Sto->Prop,W 0 [] S/\(∀ i ys S,W i ys S->J.ok S) /\
 (∀ i d ys S,J.items[i]?=some d->W i ys S->g d (ze5 own fv Z) S fun ρ2 S2=>tc ρ2 S2 fun b S3=>if b=true then te ρ2 S3 fun y S4=>W (i+1) (ys++[y]) S4 else W (i+1) ys S3) /\
 ∀ ys S,W J.items.length ys S->New Q S ys
def ziU (d:D)(Z:Rho)(Q:Rho->Sto->Prop)(o i:D)(S2:Sto):Prop:=∃ n xs k j,o=.ref n/\i=.int k/\S2[n]?=some (.lst xs)/\ixD xs.length k=some j/\Q Z (S2.set n (.lst (xs.set j d)))
def zmJ (nx:Rho->Sto->Prop)(rt:DK)(g:DG)(t:DS)(Z:Rho)(J:DIt)(S:Sto):Prop:=∃ W:Nat->Rho->Sto->Prop,W 0 Z S/\(∀ i Z S,W i Z S->J.ok S) /\
 (∀ i d Z S,J.items[i]?=some d->W i Z S->g d Z S fun ρ2 S2=>t ⟨W (i+1),rt,nx,W (i+1)⟩ ρ2 S2)/\∀ Z S,W J.items.length Z S->nx Z S
def zmD (W:Nat->Rho->Sto->Prop)(m:Nat)(t:DS)(rt:DK)(nx:Rho->Sto->Prop)(Z:Rho)(S:Sto):Prop:=∃ N:Rho->Sto->Prop,(∀ ρ' S',N ρ' S'->∃ m',m'<m/\W m' ρ' S')/\t ⟨N,rt,nx,N⟩ Z S
def NxI (N W:Rho->Sto->Prop):Prop:=∀ Z S,W Z S->N Z S
def zpx (W:Rho->Sto->Prop)(P:(Rho->Sto->Prop)->(Rho->Sto->Prop)->Prop):Prop:=∀ N B,NxI N W->P N B
def zuC {W:Rho->Sto->Prop}{P:(Rho->Sto->Prop)->(Rho->Sto->Prop)->Prop}(h:∀ N B,NxI N W->P N B):zpx W P:=h
def nxi (h:NxI N W)(w:W Z S):N Z S:=h Z S w
def zrU (J:Rho->Sto->Prop)(P:(Rho->Sto->Prop)->Prop):Prop:=∀ N,NxI N J->P N
def zva {J:Rho->Sto->Prop}{P:(Rho->Sto->Prop)->Prop}(h:∀ N,NxI N J->P N):zrU J P:=h
def NxL (N W:List D->Sto->Prop):Prop:=∀ ys S,W ys S->N ys S
def zrj (W:List D->Sto->Prop)(P:(List D->Sto->Prop)->Prop):Prop:=∀ N,NxL N W->P N
def zvk {W:List D->Sto->Prop}{P:(List D->Sto->Prop)->Prop}(h:∀ N,NxL N W->P N):zrj W P:=h
def nxl (h:NxL N W)(w:W ys S):N ys S:=h ys S w
def zb7 {nx:Rho->Sto->Prop}{rt:DK}{g:DG}{t:DS}{xs:List D}{ok:Sto->Prop}(W:Nat->Rho->Sto->Prop)(h0:W 0 Z S)(hok:∀ i Z S,W i Z S->ok S)(step:∀ i d Z S,xs[i]?=some d->W i Z S->zpx (W (i+1)) fun N B=>g d Z S fun ρ2 S2=>t ⟨N,rt,B,N⟩ ρ2 S2)(fin:∀ Z S,W xs.length Z S->nx Z S):zmJ nx rt g t Z ⟨xs,ok⟩ S:=⟨W,h0,hok,fun i d Z S e w=>step i d Z S e w (W (i+1)) nx fun _ _ h=>h,fin⟩
def zex {S:Sto}{Q:DK}{xs:List D}(h:Q (.ref S.length) (S++[.lst xs])):New Q S xs:=h
def zaH {S T:Sto}{Q:DK}{xs:List D}(h:Q (.ref (S.length+T.length)) (S++(T++[.lst xs]))):New Q (S++T) xs:=by unfold New;rw[List.length_append,List.append_assoc];exact h
section
variable {S:Sto}{Q:DK}{xs:List D}{a b c d e f:Cell}
def ztr (h:Q (.ref (S.length+1)) (S++[a,.lst xs])):New Q (S++[a]) xs:=zaH h
def zs4 (h:Q (.ref (S.length+2)) (S++[a,b,.lst xs])):New Q (S++[a,b]) xs:=zaH h
def zsM (h:Q (.ref (S.length+3)) (S++[a,b,c,.lst xs])):New Q (S++[a,b,c]) xs:=zaH h
def zsD (h:Q (.ref (S.length+4)) (S++[a,b,c,d,.lst xs])):New Q (S++[a,b,c,d]) xs:=zaH h
def zso (h:Q (.ref (S.length+5)) (S++[a,b,c,d,e,.lst xs])):New Q (S++[a,b,c,d,e]) xs:=zaH h
end
def zjV {a:Cell}{T:Sto}{Q:Sto->Prop}{c:Cell}(h:Q (S++c::T)):Put Q (S++a::T) S.length c:=by unfold Put;rw[List.set_append_right _ _ (Nat.le_refl _),Nat.sub_self];exact h
def zjh {S:Sto}{Q:Sto->Prop}{n:Nat}{c:Cell}(h:Q (S.set n c)):Put Q S n c:=h
def zsQ {T:Sto}{Q:Sto->Prop}{k:Nat}{c:Cell}(h:Q (S++T.set k c)):Put Q (S++T) (S.length+k) c:=by unfold Put;rw[List.set_append_right _ _ (Nat.le_add_right _ _),Nat.add_sub_cancel_left];exact h
def zmF (nx:Rho->Sto->Prop)(Z:Rho):DK:=fun _ S1=>nx Z S1
def zqU (g:DG)(Z:Rho)(nx:Rho->Sto->Prop):DK:=fun x S1=>g x Z S1 nx
def kIf (t u:DS)(E:zep)(Z:Rho):Bool->Sto->Prop:=fun b S1=>if b=true then t E Z S1 else u E Z S1
def kGc (u:DGs)(r:List D)(Q:Rho->Sto->Prop):Rho->Sto->Prop:=fun ρ' S'=>u r ρ' S' Q
def kSu (ti:DE)(d:D)(Z:Rho)(Q:Rho->Sto->Prop):DK:=fun o S1=>ti Z S1 (ziU d Z Q o)
def kO2 (r:DR2)(x:D)(Q:DK):DK:=fun y S2=>r x y S2 Q
def kOp (r:DR2)(tb:DE)(Z:Rho)(Q:DK):DK:=fun x S1=>tb Z S1 (kO2 r x Q)
def kUn (r:D->Sto->DK->Prop)(Q:DK):DK:=fun x S1=>r x S1 Q
def kC2 (x:D)(Q:List D->Sto->Prop):List D->Sto->Prop:=fun xs S2=>Q (x::xs) S2
def kCo (tr:DA)(Z:Rho)(Q:List D->Sto->Prop):DK:=fun x S1=>tr Z S1 (kC2 x Q)
def kTu (Q:DK):List D->Sto->Prop:=fun xs S1=>xs.length<=big/\Q (.tup xs) S1
def kLs (Q:DK):List D->Sto->Prop:=fun xs S1=>xs.length<=big/\New Q S1 xs
def kCa (f:DSp)(Q:DK):List D->Sto->Prop:=fun xs S1=>f xs S1 Q
def kM2 (r:DM)(x:D)(Q:DK):List D->Sto->Prop:=fun xs S2=>r x xs S2 Q
def kM (r:DM)(t:DA)(Z:Rho)(Q:DK):DK:=fun x S1=>(∃ n ys,x=.ref n/\S1[n]?=some (.lst ys))/\t Z S1 (kM2 r x Q)
def kT (Q:Bool->Sto->Prop):DK:=fun x S1=>∃ b,x=.bl b/\Q b S1
def kAn (u:DT)(Z:Rho)(Q:Bool->Sto->Prop):Bool->Sto->Prop:=fun c S1=>if c=true then u Z S1 Q else Q false S1
def kOr (u:DT)(Z:Rho)(Q:Bool->Sto->Prop):Bool->Sto->Prop:=fun c S1=>if c=true then Q true S1 else u Z S1 Q
def kNo (Q:Bool->Sto->Prop):Bool->Sto->Prop:=fun c S1=>Q (!c) S1
def kIE (ta tb:DE)(Z:Rho)(Q:DK):Bool->Sto->Prop:=fun b S1=>if b=true then ta Z S1 Q else tb Z S1 Q
def kS2 (r:D->Option Int->Option Int->Sto->DK->Prop)(x:D)(l:Option Int)(Q:DK):Option Int->Sto->Prop:=fun h S3=>r x l h S3 Q
def kS1 (r:D->Option Int->Option Int->Sto->DK->Prop)(x:D)(hi:Option DE)(Z:Rho)(Q:DK):Option Int->Sto->Prop:=fun l S2=>zdA hi Z S2 (kS2 r x l Q)
def kSl (r:D->Option Int->Option Int->Sto->DK->Prop)(lo hi:Option DE)(Z:Rho)(Q:DK):DK:=fun x S1=>zdA lo Z S1 (kS1 r x hi Z Q)
section
variable {nx:Rho->Sto->Prop}{Z:Rho}{S:Sto}{Q:DK}{x y:D}{xs:List D}{E:zep}
def k_drop (h:nx Z S):zmF nx Z x S:=h
def zsy {g:DG}(h:g x Z S nx):zqU g Z nx x S:=h
def zum {t u:DS}{b:Bool}(h:if b=true then t E Z S else u E Z S):kIf t u E Z b S:=h
def zvb {u:DGs}{r:List D}(h:u r Z S nx):kGc u r nx Z S:=h
def zu2 {ti:DE}{d:D}(h:ti Z S (ziU d Z nx x)):kSu ti d Z nx x S:=h
def zvg {r:DR2}(h:r x y S Q):kO2 r x Q y S:=h
def zuo {r:DR2}{tb:DE}(h:tb Z S (kO2 r x Q)):kOp r tb Z Q x S:=h
def zu1 {r:D->Sto->DK->Prop}(h:r x S Q):kUn r Q x S:=h
def zu4 {Q:List D->Sto->Prop}(h:Q (x::xs) S):kC2 x Q xs S:=h
def zua {tr:DA}{Q:List D->Sto->Prop}(h:tr Z S (kC2 x Q)):kCo tr Z Q x S:=h
def zvf (h:xs.length<=big/\Q (.tup xs) S):kTu Q xs S:=h
def zug (h:xs.length<=big/\New Q S xs):kLs Q xs S:=h
def zup {f:DSp}(h:f xs S Q):kCa f Q xs S:=h
def zuK {r:DM}(h:r x xs S Q):kM2 r x Q xs S:=h
def k_m {r:DM}{t:DA}(h:(∃ n ys,x=.ref n/\S[n]?=some (.lst ys))/\t Z S (kM2 r x Q)):kM r t Z Q x S:=h
def k_t {Q:Bool->Sto->Prop}(h:Q b S):kT Q (.bl b) S:=⟨b,rfl,h⟩
def zur {u:DT}{Q:Bool->Sto->Prop}{c:Bool}(h:if c=true then u Z S Q else Q false S):kAn u Z Q c S:=h
def zvj {u:DT}{Q:Bool->Sto->Prop}{c:Bool}(h:if c=true then Q true S else u Z S Q):kOr u Z Q c S:=h
def zuV {Q:Bool->Sto->Prop}{c:Bool}(h:Q (!c) S):kNo Q c S:=h
def zuR {ta tb:DE}{b:Bool}(h:if b=true then ta Z S Q else tb Z S Q):kIE ta tb Z Q b S:=h
def zuh {r:D->Option Int->Option Int->Sto->DK->Prop}{l o:Option Int}(h:r x l o S Q):kS2 r x l Q o S:=h
def zu0 {r:D->Option Int->Option Int->Sto->DK->Prop}{l:Option Int}{hi:Option DE}(h:zdA hi Z S (kS2 r x l Q)):kS1 r x hi Z Q l S:=h
def zu8 {r:D->Option Int->Option Int->Sto->DK->Prop}{lo hi:Option DE}(h:zdA lo Z S (kS1 r x hi Z Q)):kSl r lo hi Z Q x S:=h
end
section
variable {nx:Rho->Sto->Prop}{rt:DK}{bk ct:Rho->Sto->Prop}{Z:Rho}{S:Sto}
def zje {t u:DS}(h:t ⟨u ⟨nx,rt,bk,ct⟩,rt,bk,ct⟩ Z S):zj t u ⟨nx,rt,bk,ct⟩ Z S:=h
def r_J {t:DS}(J:Rho->Sto->Prop)(h:zrU J fun N=>t ⟨N,rt,bk,ct⟩ Z S)(hJ:∀ Z S,J Z S->nx Z S):sJ t ⟨nx,rt,bk,ct⟩ Z S:=⟨J,hJ,h J fun _ _ h=>h⟩
def zui {t:DS}(h:t ⟨nx,rt,bk,ct⟩ Z S):sJ t ⟨nx,rt,bk,ct⟩ Z S:=⟨nx,fun _ _ h=>h,h⟩
def zpF (h:nx Z S):zu ⟨nx,rt,bk,ct⟩ Z S:=h
def zmC {t:DE}(h:t Z S rt):zy t ⟨nx,rt,bk,ct⟩ Z S:=h
def zqo {t:DE}(h:t Z S (zmF nx Z)):zaU t ⟨nx,rt,bk,ct⟩ Z S:=h
def zmW {t:DE}{g:DG}(h:t Z S (zqU g Z nx)):zp t g ⟨nx,rt,bk,ct⟩ Z S:=h
def zue {c:DT}{t u:DS}(h:c Z S (kIf t u ⟨nx,rt,bk,ct⟩ Z)):sIf c t u ⟨nx,rt,bk,ct⟩ Z S:=h
def zqI {c f:Str}{to tv:DE}(h:tv Z S fun y S1=>to Z S1 fun x S2=>∃ n fs,x=.ref n/\S2[n]?=some (.ins c fs)/\fs.length<100/\nx Z (S2.set n (.ins c (putD f y fs)))):zbs c f to tv ⟨nx,rt,bk,ct⟩ Z S:=h
def ztI {i:Nat}{t:DE}{a:Int}(e:Z[i]?=some (some (.int a)))(h:t Z S fun y S1=>∃ b,y=.int b/\nx (Z.set i (some (.int (a+b)))) S1):zi5 i t ⟨nx,rt,bk,ct⟩ Z S:=⟨a,e,h⟩
def zsF {wi:DI}{g:DG}{t:DS}(h:wi Z S (zmJ nx rt g t Z)):zcX wi g t ⟨nx,rt,bk,ct⟩ Z S:=h
def zqt {c:DT}{t:DS}(W:Nat->Rho->Sto->Prop)(m:Nat)(h0:W m Z S)(h:∀ m Z S,W m Z S->c Z S fun b S1=>if b=true then zmD W m t rt nx Z S1 else nx Z S1):zd6 c t ⟨nx,rt,bk,ct⟩ Z S:=⟨W,⟨m,h0⟩,h⟩
def zjY {t:DS}{W:Nat->Rho->Sto->Prop}{m:Nat}(h:t ⟨fun ρ' S'=>∃ m',m'<m/\W m' ρ' S',rt,nx,fun ρ' S'=>∃ m',m'<m/\W m' ρ' S'⟩ Z S):zmD W m t rt nx Z S:=⟨_,fun _ _ z=>z,h⟩
def znK {i:Nat}{d:D}{Q:Rho->Sto->Prop}(h:Q (Z.set i (some d)) S):zK i d Z S Q:=h
def zq6 {Q:Rho->Sto->Prop}(h:Q Z S):zbP [] Z S Q:=⟨rfl,h⟩
def zov {t:DG}{u:DGs}{d:D}{r:List D}{Q:Rho->Sto->Prop}(h:t d Z S (kGc u r Q)):z9 t u (d::r) Z S Q:=⟨d,r,rfl,h⟩
def zpW {n:Nat}{t:DGs}{xs:List D}{Q:Rho->Sto->Prop}(e:xs.length=n)(h:t xs Z S Q):zbW n t (.tup xs) Z S Q:=⟨xs,rfl,e,h⟩
def zpn {to ti:DE}{d:D}{Q:Rho->Sto->Prop}(h:to Z S (kSu ti d Z Q)):zgc to ti d Z S Q:=h
def zdv {i:Nat}{d:D}{Q:DK}(h:Z[i]?=some (some d))(q:Q d S):za1 i Z S Q:=⟨d,h,q⟩
def r_c {Q:DK}(q:Q d S):dC d Z S Q:=q
def zjb {r:DR2}{ta tb:DE}{Q:DK}(h:ta Z S (kOp r tb Z Q)):dOp r ta tb Z S Q:=h
def zu3 {r:D->Sto->DK->Prop}{ta:DE}{Q:DK}(h:ta Z S (kUn r Q)):dUn r ta Z S Q:=h
def ztw {Q:List D->Sto->Prop}(h:Q [] S):zf Z S Q:=h
def zhr {ta:DE}{tr:DA}{Q:List D->Sto->Prop}(h:ta Z S (kCo tr Z Q)):za ta tr Z S Q:=h
def zmH {t:DA}{Q:DK}(h:t Z S (kTu Q)):dTup t Z S Q:=h
def zsU {t:DA}{Q:DK}(h:t Z S (kLs Q)):zaG t Z S Q:=h
def zsq {xs:List D}{P:Prop}(h:Nat.ble xs.length big=true)(q:P):xs.length<=big/\P:=⟨Nat.le_of_ble_eq_true h,q⟩
def zsc {f:DSp}{t:DA}{Q:DK}(h:t Z S (kCa f Q)):dCall f t Z S Q:=h
def r_b {r:DB}{t:DA}{Q:DK}(h:t Z S (kCa r Q)):dB r t Z S Q:=h
def r_m {r:DM}{ta:DE}{t:DA}{Q:DK}(h:ta Z S (kM r t Z Q)):dM r ta t Z S Q:=h
def ztE {n:Nat}{ys:List D}{P:Prop}(h:S[n]?=some (.lst ys))(q:P):(∃ m ys,D.ref n=.ref m/\S[m]?=some (.lst ys))/\P:=⟨⟨n,ys,rfl,h⟩,q⟩
def r_t {t:DE}{Q:Bool->Sto->Prop}(h:t Z S (kT Q)):dT t Z S Q:=h
def zuH {P:Bool->Prop}(h:P c):∃ b,D.bl c=D.bl b/\P b:=⟨c,rfl,h⟩
def zsf {P:Int->Prop}(h:P c):∃ b,D.int c=D.int b/\P b:=⟨c,rfl,h⟩
def ztn {t u:DT}{Q:Bool->Sto->Prop}(h:t Z S (kAn u Z Q)):zf2 t u Z S Q:=h
def zvd {t u:DT}{Q:Bool->Sto->Prop}(h:t Z S (kOr u Z Q)):dOr t u Z S Q:=h
def zte {t:DT}{Q:Bool->Sto->Prop}(h:t Z S (kNo Q)):zbe t Z S Q:=h
def zqk {t u:DE}{Q:DK}(h:t Z S fun x S1=>∃ c,x=.bl c/\if c=true then u Z S1 Q else Q (.bl false) S1):zbD t u Z S Q:=h
def zrZ {t:DE}{Q:DK}(h:t Z S fun x S1=>∃ c,x=.bl c/\Q (.bl (!c)) S1):zdn t Z S Q:=h
def zt3 {c:DT}{ta tb:DE}{Q:DK}(h:c Z S (kIE ta tb Z Q)):zjm c ta tb Z S Q:=h
def zs8 {f:Str}{ta:DE}{Q:DK}(h:ta Z S fun x S1=>∃ n c fs d,x=.ref n/\S1[n]?=some (.ins c fs)/\fs.lookup f=some d/\Q d S1):zL f ta Z S Q:=h
def zvl {r:D->Option Int->Option Int->Sto->DK->Prop}{ta:DE}{lo hi:Option DE}{Q:DK}(h:ta Z S (kSl r lo hi Z Q)):dSl r ta lo hi Z S Q:=h
def zrV {Q:Option Int->Sto->Prop}(h:Q none S):zdA none Z S Q:=h
def zpO {t:DE}{Q:Option Int->Sto->Prop}(h:t Z S fun x S1=>∃ i,x=.int i/\Q (some i) S1):zdA (some t) Z S Q:=h
def zqm {Q:Bool->Sto->Prop}(h:Q true S):zan Z S Q:=h
end
section
variable {S:Sto}{Q:DK}
def zsG {i j:Int}(q:Q (.int (i+j)) S):zJ (.int i) (.int j) S Q:=.inl ⟨i,j,rfl,rfl,q⟩
def zhg {xs ys:List D}(h:xs.length+ys.length<=big)(q:Q (.tup (xs++ys)) S):zJ (.tup xs) (.tup ys) S Q:=.inr (.inl ⟨xs,ys,rfl,rfl,h,q⟩)
def zaN (hx:Lst S x xs)(hy:Lst S y ys)(h:xs.length+ys.length<=big)(q:New Q S (xs++ys)):zJ x y S Q:=.inr (.inr (.inl ⟨xs,ys,hx,hy,h,q⟩))
def zhE {i j:Str}(h:i.length+j.length<=big)(q:Q (.str (i++j)) S):zJ (.str i) (.str j) S Q:=.inr (.inr (.inr ⟨i,j,rfl,rfl,h,q⟩))
def ztW {i j:Int}(q:Q (.int (i-j)) S):zap (.int i) (.int j) S Q:=⟨i,j,rfl,rfl,q⟩
def zsC (c:zai i j)(q:Q (.int (i*j)) S):zag (.int i) (.int j) S Q:=.inl ⟨i,j,rfl,rfl,c,q⟩
def ztG {c:Nat}{z:Str}(q:Q (.bl (decide (c∈z.cps.toList))) S):oIn (.str ⟨#[c]⟩) (.str z) S Q:=.inr ⟨c,z,rfl,rfl,q⟩
def zsJ {i j:Int}(c:0<j/\My.Bd 8000 j)(q:Q (.int (i/j)) S):oDiv (.int i) (.int j) S Q:=⟨i,j,rfl,rfl,⟨by lia,c.2⟩,by show Q (.int (i.fdiv j)) S;rw[Int.fdiv_eq_ediv_of_nonneg i (by lia)];exact q⟩
def zsO {i j:Int}(c:0<j)(q:Q (.int (i%j)) S):oMod (.int i) (.int j) S Q:=⟨i,j,rfl,rfl,(by show j≠0;lia),by show Q (.int (i.fmod j)) S;rw[Int.fmod_eq_emod_of_nonneg i (by lia)];exact q⟩
def zjZ (c:zm5 i j)(q:Q (.int (i.fdiv j)) S):oDiv (.int i) (.int j) S Q:=⟨i,j,rfl,rfl,c,q⟩
def zrx {i j:Int}(c:j≠0)(q:Q (.int (i.fmod j)) S):oMod (.int i) (.int j) S Q:=⟨i,j,rfl,rfl,c,q⟩
def ztM {i:Int}(q:Q (.int (-i)) S):zaj (.int i) S Q:=⟨i,rfl,q⟩
def zus {i j:Int}(q:Q (.bl (decide (i<j))) S):oLt (.int i) (.int j) S Q:=⟨i,j,rfl,rfl,q⟩
def zu5 {i j:Int}(q:Q (.bl (decide (i<=j))) S):oLe (.int i) (.int j) S Q:=⟨i,j,rfl,rfl,q⟩
def zuj {i j:Int}(q:Q (.bl (decide (j<i))) S):oGt (.int i) (.int j) S Q:=⟨i,j,rfl,rfl,q⟩
def zt7 {i j:Int}(q:Q (.bl (decide (j<=i))) S):oGe (.int i) (.int j) S Q:=⟨i,j,rfl,rfl,q⟩
def ztj {i j:Int}(q:Q (.bl (decide (i=j))) S):oEq (.int i) (.int j) S Q:=⟨_,.inl ⟨rfl,rfl,rfl⟩,q⟩
def zsT {i j:Int}(q:Q (.bl (!decide (i=j))) S):oNe (.int i) (.int j) S Q:=⟨_,.inl ⟨rfl,rfl,rfl⟩,q⟩
def ztS (q:Q (.bl true) S):oIs .non .non S Q:=.inl ⟨rfl,q⟩
def ztH {i:Int}(q:Q (.bl false) S):oIs (.int i) .non S Q:=.inl ⟨rfl,q⟩
def zpb {i:Int}(q:Q (.bl true) S):zgZ (.int i) .non S Q:=.inl ⟨rfl,q⟩
def zts {x:D}(q:Q (.bl (!zgQ x)) S):zgZ x .non S Q:=.inl ⟨rfl,q⟩
def zsE {xs:List D}{i:Int}{d:D}(e:atD xs i=some d)(q:Q d S):oIx (.tup xs) (.int i) S Q:=.inl ⟨i,xs,d,rfl,.inl rfl,e,q⟩
def zjO {i:Int}{d:D}(h:Lst S x xs)(e:atD xs i=some d)(q:Q d S):oIx x (.int i) S Q:=.inl ⟨i,xs,d,rfl,.inr h,e,q⟩
def zm4 {z:Str}{i:Int}{c:Nat}(hz:z.length<=big)(e:atS z i=some c)(q:Q (.str ⟨#[c]⟩) S):oIx (.str z) (.int i) S Q:=.inr ⟨z,i,c,rfl,rfl,hz,e,q⟩
def zqs {xs:List D}{lo hi:Option Int}(q:Q (.tup (cutD xs lo hi)) S):zbG (.tup xs) lo hi S Q:=.inl ⟨xs,rfl,q⟩
def zrz {lo hi:Option Int}(h:Lst S x xs)(q:New Q S (cutD xs lo hi)):zbG x lo hi S Q:=.inr (.inl ⟨xs,h,q⟩)
def zr0 {xs:List D}(q:Q (.int xs.length) S):z8 [.tup xs] S Q:=.inl ⟨_,xs,rfl,.inl rfl,q⟩
def zrE (h:Lst S x xs)(q:Q (.int xs.length) S):z8 [x] S Q:=.inl ⟨_,xs,rfl,.inr h,q⟩
def zfh {z:Str}(hz:z.length<=big)(q:Q (.int z.length) S):z8 [.str z] S Q:=.inr ⟨z,rfl,hz,q⟩
def zsB {i:Int}(q:Q (.int (i.natAbs:Int)) S):zi7 [.int i] S Q:=⟨i,rfl,q⟩
def zse {i j:Int}(q:Q (.int (max i j)) S):zgT [.int i,.int j] S Q:=⟨i,j,rfl,q⟩
def zmG {ns:List Int}(h:Lst S x (ns.map D.int))(q:Q (.int ns.sum) S):zjI [x] S Q:=⟨x,ns,rfl,h,q⟩
def ztc {bs:List Bool}(h:Lst S x (bs.map D.bl))(q:Q (.bl (bs.all id)) S):zck [x] S Q:=⟨x,bs,rfl,h,q⟩
def znp (h:Lst S x xs)(q:New Q S xs):zbb [x] S Q:=⟨_,xs,rfl,.inr h,q⟩
def zrr {b:Bool}(q:Q (.int (if b then 1 else 0)) S):zef [.bl b] S Q:=.inr ⟨b,rfl,q⟩
def zg2 {n:Nat}{xs:List D}{y:D}(h:S[n]?=some (.lst xs))(hl:xs.length<big)(q:Put (Q .non) S n (.lst (xs++[y]))):zbC (.ref n) [y] S Q:=⟨n,xs,y,rfl,rfl,h,hl,q⟩
def ztd {n:Nat}{xs:List D}{y:D}(h:S[n]?=some (.lst (xs++[y])))(q:Put (Q y) S n (.lst xs)):zjk (.ref n) [] S Q:=⟨n,xs,y,rfl,rfl,h,q⟩
def znW {n j:Nat}{xs:List D}{y e:D}(h:S[n]?=some (.lst xs))(f:xs.all (fl 20)=true)(g:fl 20 y=true)(hl:xs.length<=big)(hj:xs[j]?=some e)(h1:eqv e y=true)(h2:∀ (m:Nat) e',m<j->xs[m]?=some e'->eqv e' y=false)(q:Q (.int (j:Nat)) S):zfB (.ref n) [y] S Q:=⟨n,xs,y,j,e,rfl,rfl,h,f,g,hl,hj,h1,h2,q⟩
def zta {n:Nat}{xs:List D}{k:Int}{j:Nat}{d:D}{Z:Rho}{Q:Rho->Sto->Prop}(h:S[n]?=some (.lst xs))(e:ixD xs.length k=some j)(q:Put (Q Z) S n (.lst (xs.set j d))):ziU d Z Q (.ref n) (.int k) S:=⟨n,xs,k,j,rfl,rfl,h,e,q⟩
end
section
variable {Z:Rho}{S:Sto}{R:DIt->Sto->Prop}
def zrB {t:DE}(h:t Z S fun x S1=>zfj x S1 R):zaS t Z S R:=h
def zst {xs:List D}(q:R ⟨xs,fun _=>True⟩ S):zfj (.tup xs) S R:=.inl ⟨xs,rfl,q⟩
def ztq (h:Lst S x xs)(q:R ⟨xs,fun S=>Lst S x xs⟩ S):zfj x S R:=.inr (.inl ⟨xs,h,q⟩)
def ztD {z:Str}(q:R ⟨signs z,fun _=>True⟩ S):zfj (.str z) S R:=.inr (.inr ⟨z,rfl,q⟩)
def zps {t:DA}(h:t Z S fun vs S1=>∃ j:Int,vs=[.int j]/\-(2 ^ 62)<=j/\j<2 ^ 62/\R ⟨upto 0 j.toNat,fun _=>True⟩ S1):zbm t Z S R:=h
def zpg {Z:Rho}{t:DA}{R:DIt->Sto->Prop}(h:t Z S (zhD R)):zgR t Z S R:=h
def zld {R:DIt->Sto->Prop}{i j:Int}(q:R ⟨steps i (-1) (i-j).toNat,fun _=>True⟩ S):zhD R [.int i,.int j,.int (-1)] S:=.inr ⟨i,j,rfl,q⟩
def zrw {t:DA}(h:t Z S fun vs S1=>∃ i j:Int,vs=[.int i,.int j]/\R ⟨upto i (j-i).toNat,fun _=>True⟩ S1):zet t Z S R:=h
def zjQ {Q:DK}{zs:List Str}(hx:Lst S x (zs.map D.str))(hl:zs.length<=4000)(q:Q (.int (zjp zs)) S):zfE [x] S Q:=⟨x,zs,rfl,hx,hl,q⟩
def zuL {own:Nat}{fv:List Nat}{wi:DI}{g:DG}{tc:DT}{te:DE}{Q:DK}(h:wi Z S (zlV own fv g tc te Z Q)):dLC own fv wi g tc te Z S Q:=h
end
def zlb {A B:Prop}(h:B):if false=true then A else B:=by rw[if_neg Bool.false_ne_true];exact h
def zlh {A B:Prop}(h:A):if true=true then A else B:=by rw[if_pos rfl];exact h
def r_d {c A B:Prop}[Decidable c](h1:c->A)(h2:¬ c->B):if decide c=true then A else B:=by
 by_cases h:c
 ·rw[decide_eq_true h,if_pos rfl];exact h1 h
 ·rw[decide_eq_false h,if_neg Bool.false_ne_true];exact h2 h
def zea {c A B:Prop}[Decidable c](h1:¬ c->A)(h2:c->B):if(!decide c)=true then A else B:=by
 by_cases h:c
 ·rw[decide_eq_true h];exact h2 h
 ·rw[decide_eq_false h];exact h1 h
def zQ (S T:Sto)(k:Nat):(S++T)[S.length+k]?=T[k]?:=by rw[List.getElem?_append_right (Nat.le_add_right _ _),Nat.add_sub_cancel_left]
def znB (S T:Sto):(S++T)[S.length]?=T[0]?:=zQ S T 0
def zaz {S T:Sto}{c:Cell}:(S++c::T)[S.length]?=some c:=(zQ S (c::T) 0).trans rfl
def ziB {S T:Sto}{c:Cell}:(S++(T++[c]))[S.length+T.length]?=some c:=by rw[zQ,List.getElem?_append_right (Nat.le_refl _),Nat.sub_self];rfl
def zoM (S T:Sto)(k:Nat)(c:Cell):(S++T).set (S.length+k) c=S++T.set k c:=by rw[List.set_append_right _ _ (Nat.le_add_right _ _),Nat.add_sub_cancel_left]
def zaP (S T:Sto)(a c:Cell):(S++a::T).set S.length c=S++c::T:=zoM S (a::T) 0 c
def zN {S T:Sto}{n:Nat}{c:Cell}(h:S[n]?=some c):(S++T)[n]?=some c:=by
 have:n<S.length:=by
  rcases Nat.lt_or_ge n S.length with g|g
  ·exact g
  ·rw[List.getElem?_eq_none g]at h;cases h
 rw[List.getElem?_append_left this];exact h
def Lst.old {T:Sto}(h:Lst S x xs):Lst (S++T) x xs:=h.imp id fun zq11=>by obtain⟨n,e,h⟩:=zq11;exact⟨n,e,zN h⟩
def Lst.at {S T:Sto}{k:Nat}{xs:List D}(h:T[k]?=some (.lst xs)):Lst (S++T) (.ref (S.length+k)) xs:=.inr ⟨_,rfl,by rw[zQ];exact h⟩
def Lst.at0 {S T:Sto}{xs:List D}:Lst (S++.lst xs::T) (.ref S.length) xs:=.inr ⟨_,rfl,by rw[znB];rfl⟩
def Lst.new {S T:Sto}{xs:List D}:Lst (S++(T++[.lst xs])) (.ref (S.length+T.length)) xs:=.inr ⟨_,rfl,ziB⟩
theorem Lst.rl {S:Sto}{xs:List D}:Lst S (.rl xs) xs:=.inl rfl
def Lst.here {S:Sto}{n:Nat}{xs:List D}(h:S[n]?=some (.lst xs)):Lst S (.ref n) xs:=.inr ⟨n,rfl,h⟩
def za4 {T:Sto}{Q:DK}{d:D}(h:fl 20 d=true)(q:Q d S):Fin S Q d (S++T):=.inr ⟨S,List.prefix_append _ _,Nat.le_refl _,.inl h,fun _ _ e=>.inl e,q⟩
def fin_same {S:Sto}{Q:DK}(q:Q d S'):Fin S Q d S':=.inl q
section
variable {S:Sto}{Q:DK}
def zgC {i:Int}(q:Q (.bl true) S):zd5 [.int i,.ty "int"] S Q:=⟨_,_,true,rfl,by rfl,q⟩
def zfV {i:Int}(q:Q (.bl false) S):zd5 [.int i,.ty "bool"] S Q:=⟨_,_,false,rfl,by rfl,q⟩
def zfy {xs:List D}(q:Q (.bl true) S):zd5 [.tup xs,.ty "tuple"] S Q:=⟨_,_,true,rfl,by rfl,q⟩
end
def zs5 {A B:Prop}(h:B):if(!true)=true then A else B:=zlb h
def ztR {A B:Prop}(h:A):if(!false)=true then A else B:=zlh h
def zbh {Q:DK}{bs:List Bool}{b:Bool}(h:Lst S x (bs.map D.bl))(e:bs.all id=b)(q:Q (.bl b) S):zck [x] S Q:=ztc h (by rw[e];exact q)
def LcW (S:Sto)(items:List D)(p:D->Bool)(f:D->D)(i:Nat)(ys:List D)(S':Sto):Prop:=S'=S/\ys=((items.take i).filter p).map f
def zbk {α:Type}{xs:List α}{i:Nat}{x:α}(h:xs[i]?=some x):xs.take (i+1)=xs.take i++[x]:=by rw[List.take_succ,h];rfl
def zar {items:List D}{i:Nat}{d y:D}(hd:items[i]?=some d)(hw:LcW S items p f i ys S)(hp:p d=true)(hy:y=f d):LcW S items p f (i+1) (ys++[y]) S :=⟨rfl,by rw[zbk hd,List.filter_append,List.map_append,<- hw.2,List.filter_cons_of_pos hp,hy];rfl⟩
def zmU {items:List D}{i:Nat}{d:D}(hd:items[i]?=some d)(hw:LcW S items p f i ys S)(hp:p d=false):LcW S items p f (i+1) ys S :=⟨rfl,by rw[zbk hd,List.filter_append,List.map_append,<- hw.2,List.filter_cons_of_neg (by rw[hp];exact Bool.false_ne_true)];simp⟩
def zY {own:Nat}{fv:List Nat}{xs:List D}{ok:Sto->Prop}{g:DG}{tc:DT}{te:DE}{Z:Rho}{S:Sto}(p:D->Bool)(f:D->D)(hok:ok S)(hbig:xs.length<=big)(step:∀ i d ys,xs[i]?=some d->LcW S xs p f i ys S->g d (ze5 own fv Z) S fun ρ2 S2=>tc ρ2 S2 fun b S3=>if b=true then te ρ2 S3 fun y S4=>LcW S xs p f (i+1) (ys++[y]) S4 else LcW S xs p f (i+1) ys S3)(q:New Q S ((xs.filter p).map f)):zlV own fv g tc te Z Q ⟨xs,ok⟩ S:=by
 refine⟨hbig,LcW S xs p f,⟨rfl,by simp⟩,fun i ys S' h=>by rw[h.1];exact hok,fun i d ys S' hd h=>?_,fun ys S' h=>?_⟩
 ·obtain⟨rfl,_⟩:=id h;exact step i d ys hd h
 ·obtain⟨rfl,rfl⟩:=h;rw[List.take_length];exact q
def filter_true (xs:List α):xs.filter (fun _=>true)=xs:=List.filter_eq_self.mpr fun _ _=>rfl
def zaY {ds:List D}{i:Nat}{d:D}(h:ds[i]?=some d):atD ds (i:Int)=some d:=by
 have hl:i<ds.length:=by
  rcases Nat.lt_or_ge i ds.length with g|g
  ·exact g
  ·rw[List.getElem?_eq_none g]at h;cases h
 unfold atD ixD;rw[if_pos (by lia),if_pos (by lia)];simpa using h
def zaM {lo:Int}{n i:Nat}{d:D}(h:(upto lo n)[i]?=some d):i<n/\d=.int (lo+i):=by
 unfold upto at h;rw[List.getElem?_map]at h;by_cases hi:i<n
 ·rw[List.getElem?_range hi]at h;exact⟨hi,by simpa using h.symm⟩
 ·rw[List.getElem?_eq_none (by simpa using hi)]at h;cases h
def zcT (lo st:Int)(n:Nat):(steps lo st n).length=n:=by unfold steps;simp
def zao (lo:Int)(n:Nat):(upto lo n).length=n:=by unfold upto;simp
def zbI {zs:List Int}{k:Int}(h0:0<=k)(h:k<zs.length):∃ z,z∈zs/\atD (zs.map D.int) k=some (.int z):=by refine⟨zs[k.toNat]'(by lia),List.getElem_mem _,?_⟩;unfold atD ixD;rw[List.length_map,if_pos h0,if_pos h];simp only[Option.bind_some];rw[List.getElem?_map,List.getElem?_eq_getElem (by lia)];rfl
def zqy {zs:List Int}{k:Int}(h0:0<=k)(h:k<zs.length):ixD (zs.map D.int).length k=some k.toNat:=by unfold ixD;rw[List.length_map,if_pos h0,if_pos h]
def zoG {zs:List Int}{i:Nat}{d:D}(h:(zs.map D.int)[i]?=some d):∃ z,zs[i]?=some z/\d=.int z:=by
 rw[List.getElem?_map]at h;cases e:zs[i]? with
 |none=>rw[e]at h;cases h
 |some p=>rw[e]at h;cases h;exact⟨p,rfl,rfl⟩
def zV {α:Type}{xs:List α}{i:Nat}{x:α}(h:xs[i]?=some x):i<xs.length:=by
 rcases Nat.lt_or_ge i xs.length with g|g
 ·exact g
 ·rw[List.getElem?_eq_none g]at h;cases h
def zaJ:Option Int->D
 |none=>.non
 |some v=>.int v
def spT (T:Sto):DSp:=fun ds S Q=>∃ ns:List Int,ds=[.rl (ns.map D.int)]/\(S=T/\∀ n∈ns,Hg n)/\ns.length<=63/\∀ S',Q (.bl true) S'
abbrev zde:DSp:=spT []
def zcA {α β:Type}(f:α->β)(xs:List α)(lo hi:Option Int):cutD (xs.map f) lo hi=(cutD xs lo hi).map f:=by unfold cutD;rw[List.length_map,List.map_take,List.map_drop]
def znm (xs:List α)(lo hi:Option Int):(cutD xs lo hi).length<=slD xs.length xs.length hi-slD xs.length 0 lo:=by unfold cutD;rw[List.length_take];lia
def onI (f:Int->D):D->D
 |.int h=>f h
 |d=>d
section
variable {nx:Rho->Sto->Prop}{rt:DK}{bk ct:Rho->Sto->Prop}{Z:Rho}{S:Sto}
def kMt (c m:Str)(f:zU)(ex:XR)(t:DA)(Z:Rho)(Q:DK):DK:=fun x S1=>∃ n fs,x=.ref n/\S1[n]?=some (.ins c fs)/\fs.lookup m=none/\t Z S1 fun xs S2=>f (.ref n::xs) S2 Q (ex Z)
def zn7 {c m:Str}{f:zU}{ex:XR}{ta:DE}{t:DA}{Q:DK}(h:ta Z S (kMt c m f ex t Z Q)):zae c m f ex ta t Z S Q:=h
def zt6 {c m:Str}{f:zU}{ex:XR}{t:DA}{Q:DK}{n:Nat}{fs:List (Str×D)}(h:S[n]?=some (.ins c fs))(hl:fs.lookup m=none)(q:t Z S fun xs S2=>f (.ref n::xs) S2 Q (ex Z)):kMt c m f ex t Z Q (.ref n) S:=⟨n,fs,rfl,h,hl,q⟩
def zok {f:zU}{ex:XR}{t:DA}{Q:DK}(h:t Z S fun xs S1=>f xs S1 Q (ex Z)):zak f ex t Z S Q:=h
def zng {ex:XR}{c:Str}(h:ex Z c S):zaA ex c ⟨nx,rt,bk,ct⟩ Z S:=h
def ztA {tbl:List (Str×Bool)}{t:DE}{Q:DK}(h:t Z S fun x S1=>∃ c b,x=.exn c/\tbl.lookup c=some b/\Q (.bl b) S1):zbX tbl t Z S Q:=h
def zra {tbl:List (Str×Bool)}{c:Str}{b:Bool}{P:Bool->Prop}(e:tbl.lookup c=some b)(q:P b):∃ c' b',D.exn c=.exn c'/\tbl.lookup c'=some b'/\P b':=⟨c,b,rfl,e,q⟩
end
def zsr {Q:DK}{b:Bool}(hx:Lst S x xs)(hy:Lst S y ys)(fx:xs.all (fl 20)=true)(fy:ys.all (fl 20)=true)(e:eqvAll xs ys=b)(q:Q (.bl (!b)) S):oNe x y S Q:=⟨_,.inr (.inl ⟨xs,ys,hx,hy,fx,fy,rfl⟩),by rw[e];exact q⟩
def zm7 {Q:DK}{x y:Str}{b:Bool}(fx:fl 20 (.str x)=true)(fy:fl 20 (.str y)=true)(e:(x==y)=b)(q:Q (.bl b) S):oEq (.str x) (.str y) S Q:=⟨_,.inl ⟨fx,fy,rfl⟩,by show Q (.bl (x==y)) S;rw[e];exact q⟩
def znP {S:Sto}{Q:DK}{x y:Str}{b:Bool}(fx:fl 20 (.str x)=true)(fy:fl 20 (.str y)=true)(e:(x==y)=b)(q:Q (.bl (!b)) S):oNe (.str x) (.str y) S Q:=⟨_,.inl ⟨fx,fy,rfl⟩,by show Q (.bl (!(x==y))) S;rw[e];exact q⟩
def zdz (c:List Str)(z:Str):(zdm c z).length=if c.any (·==z)then c.length else c.length+1:=by unfold zdm;split<;>simp
def zhX (c:List Str)(z y:Str):(zdm c z).any (·==y)=(c.any (·==y)||decide (y=z)):=by
  unfold zdm;by_cases h:c.any (·==z)=true
  . rw[if_pos h];by_cases e:y=z
    . subst e;rw[h];rfl
    . rw[decide_eq_false e,Bool.or_false]
  . rw[if_neg h,List.any_append];congr 1;by_cases e:y=z
    . subst e;simp
    . rw[decide_eq_false e];have:(z==y)=false:=beq_eq_false_iff_ne.mpr fun q=>e q.symm
      simp[this]
theorem zey (f:Nat->Str):∀ i,(za2 f i).length<=i
  |0=>Nat.le_refl _
  |i+1=>by have:=zey f i;show(zdm (za2 f i) (f i)).length<=i+1;rw[zdz];split<;>lia
theorem ze7 (f:Nat->Str)(y:Str):∀ i,((za2 f i).any (·==y)=true↔∃ j,j<i/\f j=y)
  |0=>⟨fun h=>(by simp[za2]at h),fun⟨j,hj,_⟩=>(by lia)⟩
  |i+1=>by
    show((zdm (za2 f i) (f i)).any (·==y)=true)↔_;rw[zhX,Bool.or_eq_true,ze7 f y i,decide_eq_true_eq];constructor
    . rintro(⟨j,hj,e⟩|e)
      . exact⟨j,by lia,e⟩
      . exact⟨i,by lia,e.symm⟩
    . rintro⟨j,hj,e⟩;rcases Nat.lt_or_ge j i with h|h
      . exact .inl ⟨j,h,e⟩
      . have:j=i:=by lia
        subst this;exact .inr e.symm
theorem zgW (f:Nat->Str):∀ i,(∀ a b,a<b->b<i->f a≠f b)->(za2 f i).length=i
 |0,_=>rfl
 |i+1,h=>by show(zdm (za2 f i) (f i)).length=i+1;rw[zdz,zgW f i fun a b x y=>h a b x (by lia)];rw[if_neg];intro z;obtain⟨j,hj,e⟩:=(ze7 f (f i) i).mp z;exact h j i hj (by lia) e
theorem zhz (f:Nat->Str){a b:Nat}(hab:a<b)(e:f a=f b):∀ i,b<i->(za2 f i).length<i
  |0,h=>by lia
  |i+1,h=>by
    show(zdm (za2 f i) (f i)).length<i+1;rw[zdz];rcases Nat.lt_or_ge b i with g|g
    . have:=zhz f hab e i g;split<;>lia
    . have eb:b=i:=by lia
      subst eb;rw[if_pos ((ze7 f (f b) b).mpr ⟨a,hab,e⟩)];have:=zey f b;lia
def zfz {zs:List Str}(h:zs.Nodup):zjp zs=zs.length:=zgW _ _ fun a b hab hb=>by show zs.getD a Str.empty≠zs.getD b Str.empty;rw[List.getD_eq_getElem?_getD,List.getD_eq_getElem?_getD,List.getElem?_eq_getElem hb,List.getElem?_eq_getElem (show a<zs.length by lia)];exact List.pairwise_iff_getElem.mp h a b (by lia) hb hab
def zhY {zs:List Str}{a b:Nat}{z:Str}(hab:a<b)(ha:zs[a]?=some z)(hb:zs[b]?=some z):zjp zs<zs.length :=
 zhz _ hab (by show zs.getD a Str.empty=zs.getD b Str.empty;rw[List.getD_eq_getElem?_getD,List.getD_eq_getElem?_getD,ha,hb]) _ (by
  rcases Nat.lt_or_ge b zs.length with g|g
  ·exact g
  ·rw[List.getElem?_eq_none g]at hb;cases hb)
end Dp
namespace Rm
structure Pc where
 lo:Int
 hi:Int
 to:Int
 st:Int
instance:DecidableEq Pc:=fun p q=>if h:p.lo=q.lo/\p.hi=q.hi/\p.to=q.to/\p.st=q.st then isTrue (by cases p;cases q;obtain⟨h1,h2,h3,h4⟩:=h;cases h1;cases h2;cases h3;cases h4;rfl)else isFalse (fun e=>h (by subst e;exact⟨rfl,rfl,rfl,rfl⟩))
def Pc.led (p:Pc)(h:Int):Int:=p.to+p.st*(h-p.lo)
def Pc.fin (p:Pc):Int:=p.led p.hi
end Rm
namespace Dp
open PySem Rm
open PySem Rm My
def zlA {xs:List D}{x:D}:ixD (xs++[x]).length (-1)=some xs.length:=by
 have hl:((xs++[x]).length:Int)=xs.length+1:=by simp
 unfold ixD;rw[if_neg (by lia),if_pos (by lia)];congr 1;lia
def zhh {xs:List D}{x:D}:atD (xs++[x]) (-1)=some x:=by unfold atD;rw[zlA];simp
end Dp
namespace Rm
open My Dp
def six (L R B T x1 z1 x2 z2 mx mn:Int):List Int:=[(max x1 x2)-L,R-(min x1 x2),(max z1 z2)-B,T-(min z1 z2),mx,-mn]
end Rm
namespace Dp
open PySem Rm My
structure Fg where
 x0:Int
 x1:Int
 z0:Int
 z1:Int
 f:Int
 l:Int
 g:Int
 s:Int
abbrev fgD (F:Fg):D:=.tup [.int F.x0,.int F.x1,.int F.z0,.int F.z1,.int F.f,.int F.l,.int F.g,.int F.s]
structure FgB (F:Fg):Prop where
 x:F.x0<=F.x1
 z:F.z0<=F.z1
 b0:Bd 600 F.x0
 b1:Bd 600 F.x1
 b2:Bd 600 F.z0
 b3:Bd 600 F.z1
 bg:Bd 200 F.g
 bs:Bd 200 F.s
def ziH {a b:Int}(h0:0<=a)(h:a<=b):a.natAbs<=b.natAbs:=by refine Int.ofNat_le.mp ?_;rw[Int.natAbs_of_nonneg h0,Int.natAbs_of_nonneg (Int.le_trans h0 h)];exact h
def Bd.btw {x:Int}(ha:Bd n a)(hb:Bd n b)(h1:a<=x)(h2:x<=b):Bd n x:=by
 rcases Int.le_total 0 x with h|h
 ·exact hb.of_le (ziH h h2)
 ·refine ha.of_le ?_;rw[<- Int.natAbs_neg x,<- Int.natAbs_neg a];exact ziH (Int.neg_nonneg_of_nonpos h) (Int.neg_le_neg h1)
def flt (a b:Int×Int):Bool:=decide (a.1*b.2<b.1*a.2)
abbrev St2:=(Int×Int)×(Int×Int)
def rk (R:Int×Int->Int)(s:St2):Int×Int:=(R s.1,R s.2)
def zct {cs:List (Int×Int)}{k:Int}(h0:0<=k)(h:k<cs.length):∃ c,cs[k.toNat]?=some c/\atD (cs.map p2) k=some (p2 c):=by
 have hk:k.toNat<cs.length:=by lia
 refine⟨cs[k.toNat],List.getElem?_eq_getElem hk,?_⟩;have:=zaY (ds:=cs.map p2) (i:=k.toNat) (d:=p2 (cs[k.toNat])) (by rw[List.getElem?_map,List.getElem?_eq_getElem hk];rfl);rwa[show((k.toNat:Nat):Int)=k by lia]at this
def lenV (ms:List (Int×Int)):Int:=(ms.map fun m=>m.2-m.1).sum
def Sv (c:Int×Int)(t b:Int):Prop:=0<c.2/\c.1*b=t*c.2
def hvT (a b p:Int×Int):Int:=if 0<b.1-a.1 then a.2*(b.1-a.1)*p.2+(b.2-a.2)*(p.1-a.1*p.2)else -(a.2*(b.1-a.1)*p.2+(b.2-a.2)*(p.1-a.1*p.2))
def hvB (a b p:Int×Int):Int:=if 0<b.1-a.1 then(b.1-a.1)*p.2 else -((b.1-a.1)*p.2)
def ziD {a b p:Int×Int}(h:b.1≠a.1)(hp:0<p.2):0<hvB a b p:=by
 unfold hvB;split
 ·exact Int.mul_pos (by lia) hp
 ·have:=Int.mul_pos (show 0 < -(b.1-a.1) by lia) hp;rw[Int.neg_mul]at this;exact this
def zqj {b e:Int}(hb:0<b)(he:0<e)(hc:Sv c t b)(hd:Sv d u e):flt c d=decide (t*e<u*b):=by
 obtain⟨c0,c1⟩:=hc;obtain⟨d0,d1⟩:=hd;unfold flt;refine decide_eq_decide.mpr ?_;have hbe:0<b*e:=Int.mul_pos hb he;have hcd:0<c.2*d.2:=Int.mul_pos c0 d0;rw[<- Int.mul_lt_mul_right hbe,<- Int.mul_lt_mul_right (b:=t*e) (c:=u*b) hcd]
 have e1:c.1*d.2*(b*e)=t*e*(c.2*d.2):=by
  have:c.1*d.2*(b*e)=c.1*b*(d.2*e):=by grind
  rw[this,c1];grind
 have e2:d.1*c.2*(b*e)=u*b*(c.2*d.2):=by
  have:d.1*c.2*(b*e)=d.1*e*(c.2*b):=by grind
  rw[this,d1];grind
 rw[e1,e2]
structure Grd (cs:List (Int×Int)):Prop where
 two:2<=cs.length
 most:cs.length<=40
 asc:cs.Pairwise fun a b=>a.1<b.1
 bd:∀ c∈cs,Bd 170 c.1/\Bd 190 c.2
def zgd (cs:List (Int×Int)):Int:=(cs.getD 0 (0,0)).1
def zd1 (cs:List (Int×Int)):Int:=(cs.getD (cs.length-1) (0,0)).1
def OnG (cs:List (Int×Int))(p:Int×Int):Prop:=zgd cs*p.2<=p.1/\p.1<=zd1 cs*p.2
def zdp:List (Int×Int)->Int×Int->Option ((Int×Int)×(Int×Int))
 |a::b::r,p=>if p.1<=b.1*p.2 then some (a,b)else zdp (b::r) p
 |_,_=>none
theorem seg_at:∀ {cs:List (Int×Int)} {p:Int×Int} {k:Nat} {a b:Int×Int},cs[k]?=some a->cs[k+1]?=some b->p.1<=b.1*p.2->(∀ j c,1<=j->j<=k->cs[j]?=some c->c.1*p.2<p.1)->zdp cs p=some (a,b)
 |[],p,k,a,b,h,_,_,_=>by simp at h
 |[x],p,0,a,b,_,h,_,_=>by simp at h
 |[x],p,k+1,a,b,h,_,_,_=>by simp at h
 |x::y::r,p,0,a,b,h1,h2,h3,_=>by simp at h1 h2;subst h1 h2;unfold zdp;rw[if_pos h3]
 |x::y::r,p,k+1,a,b,h1,h2,h3,h4=>by have:=h4 1 y (by lia) (by lia) rfl;unfold zdp;rw[if_neg (by lia)];exact seg_at (by simpa using h1) (by simpa using h2) h3 fun j c j1 j2 hc=>h4 (j+1) c (by lia) (by lia) (by simpa using hc)
theorem zfo:∀ {cs:List (Int×Int)} {p:Int×Int},2<=cs.length->p.1<=zd1 cs*p.2->∃ k a b,cs[k]?=some a/\cs[k+1]?=some b/\p.1<=b.1*p.2/\∀ j c,1<=j->j<=k->cs[j]?=some c->c.1*p.2<p.1
 |[],p,h,_=>by simp at h
 |[x],p,h,_=>by simp at h
 |[x,y],p,_,h=>⟨0,x,y,rfl,rfl,h,fun j c j1 j2=>by lia⟩
 |x::y::z::r,p,_,h=>by
  by_cases g:p.1<=y.1*p.2
  ·exact⟨0,x,y,rfl,rfl,g,fun j c j1 j2=>by lia⟩
  ·obtain⟨k,a,b,h1,h2,h3,h4⟩:=zfo (cs:=y::z::r) (p:=p) (by simp) h;refine⟨k+1,a,b,by simpa using h1,by simpa using h2,h3,fun j c j1 j2 hc=>?_⟩;cases j with
   |zero=>lia
   |succ j =>
    cases j with
    |zero=>simp at hc;subst hc;lia
    |succ j=>exact h4 (j+1) c (by lia) (by lia) (by simpa using hc)
def za5 (g:Grd cs){i j:Nat}{a b:Int×Int}(hij:i<j)(ha:cs[i]?=some a)(hb:cs[j]?=some b):a.1<b.1:=by have h1:=zV ha;have h2:=zV hb;rw[List.getElem?_eq_getElem h1]at ha;rw[List.getElem?_eq_getElem h2]at hb;cases ha;cases hb;exact List.pairwise_iff_getElem.mp g.asc i j h1 h2 hij
def zaO (g:Grd cs):∃ a,cs[0]?=some a/\zgd cs=a.1:=by
 have:=g.two;obtain⟨a,h⟩:∃ a,cs[0]?=some a:=⟨cs[0],List.getElem?_eq_getElem (by lia)⟩
 exact⟨a,h,by unfold zgd;rw[List.getD_eq_getElem?_getD,h];rfl⟩
def zhA (g:Grd cs):∃ a,cs[cs.length-1]?=some a/\zd1 cs=a.1:=by
 have:=g.two;obtain⟨a,h⟩:∃ a,cs[cs.length-1]?=some a:=⟨cs[cs.length-1],List.getElem?_eq_getElem (by lia)⟩
 exact⟨a,h,by unfold zd1;rw[List.getD_eq_getElem?_getD,h];rfl⟩
def GAt (S:Sto)(g:D)(cs:List (Int×Int)):Prop:=∃ n l,g=.ref n/\S[n]?=some (.ins "Ground" [("corners",.ref l)])/\S[l]?=some (.lst (cs.map p2))
def GAt.old {T:Sto}(h:GAt S g cs):GAt (S++T) g cs:=by obtain⟨n,l,e,h1,h2⟩:=h;exact⟨n,l,e,zN h1,zN h2⟩
def zsg {S:Sto}{P:D->Prop}{n l:Nat}(h:S[n]?=some (.ins "Ground" [("corners",.ref l)]))(q:P (.ref l)):∃ m c fs d,D.ref n=.ref m/\S[m]?=some (.ins c fs)/\fs.lookup ("corners":Str)=some d/\P d:=⟨n,_,_,_,rfl,h,by simp[List.lookup_cons],q⟩
def ze4 (gr:Grd cs):∃ z,cs[cs.length-1]?=some z/\zd1 cs=z.1/\atD (cs.map p2) (-1)=some (p2 z):=by
 have g1:=gr.two;obtain⟨z,hz,ez⟩:=zhA gr;refine⟨z,hz,ez,?_⟩;have hne:cs≠[]:=fun e=>by rw[e]at g1;simp at g1
 have en:cs=cs.dropLast++[z]:=by
  have h2:=List.dropLast_concat_getLast hne
  have h3:cs.getLast hne=z:=by rw[List.getLast_eq_getElem];have hl':=zV hz;rw[List.getElem?_eq_getElem hl']at hz;cases hz;rfl
  rw[h3]at h2;exact h2.symm
 rw[en,List.map_append];exact zhh
structure Brk (cs:List (Int×Int))(p a b:Int×Int):Prop where
 ma:a∈cs
 mb:b∈cs
 lt:a.1<b.1
 lo:a.1*p.2<=p.1
 hi:p.1<=b.1*p.2
 no:∀ c∈cs,¬ (a.1<c.1/\c.1<b.1)
def ziF (gr:Grd cs)(on:OnG cs p):∃ a b,zdp cs p=some (a,b)/\Brk cs p a b:=by
 obtain⟨k,a,b,ha,hb,hle,hlt⟩:=zfo gr.two on.2;refine⟨a,b,seg_at ha hb hle hlt,List.mem_of_getElem? ha,List.mem_of_getElem? hb,za5 gr (by lia) ha hb,?_,hle,fun c hc h=>?_⟩
 ·cases k with
  |zero =>obtain⟨f,hf,ef⟩:=zaO gr;rw[ha]at hf;cases hf;have:=on.1;rw[ef]at this;exact this
  |succ k=>exact Int.le_of_lt (hlt (k+1) a (by lia) (by lia) ha)
 ·obtain⟨j,hj⟩:=List.mem_iff_getElem?.mp hc;rcases Nat.lt_trichotomy j k with g|g|g
  ·have:=za5 gr g hj ha;lia
  ·subst g;rw[ha]at hj;cases hj;lia
  ·rcases Nat.lt_or_ge (k+1) j with g2|g2
   ·have:=za5 gr g2 hb hj;lia
   ·have:j=k+1:=by lia
    subst this;rw[hb]at hj;cases hj;lia
def zgM {own:Nat}{fv:List Nat}{xs:List D}{ok:Sto->Prop}{g:DG}{tc:DT}{te:DE}{Z:Rho}{S:Sto}{Q:DK}(W:Nat->List D->Sto->Prop)(h0:W 0 [] S)(hok:∀ i ys S,W i ys S->ok S)(hbig:xs.length<=big)
  (step:∀ i d ys S,xs[i]?=some d->W i ys S->zrj (W (i+1)) fun N=>g d (ze5 own fv Z) S fun ρ2 S2=>tc ρ2 S2 fun b S3=>if b=true then te ρ2 S3 fun y S4=>N (ys++[y]) S4 else N ys S3)
  (fin:∀ ys S,W xs.length ys S->New Q S ys):zlV own fv g tc te Z Q ⟨xs,ok⟩ S:=⟨hbig,W,h0,hok,fun i d ys S e w=>step i d ys S e w (W (i+1)) fun _ _ h=>h,fin⟩
def zbw (cs:List (Int×Int))(s:Int×Int):Prop:=OnG cs (s.1,1)/\∀ a b,zdp cs (s.1,1)=some (a,b)->hvT a b (s.1,1)<=s.2*hvB a b (s.1,1)
def zb1 (t b:Int):Int:=-(-t/b)
def znC {t b:Int}(hb:0<b):t<=zb1 t b*b/\(zb1 t b-1)*b<t:=by unfold zb1;have h1:=Int.ediv_mul_le (-t) (b:=b) (by lia);have h2:=Int.lt_ediv_add_one_mul_self (-t) hb;rw[Int.neg_mul,Int.sub_mul,Int.neg_mul,Int.one_mul];rw[Int.add_mul,Int.one_mul]at h2;lia
def zoC {t b z:Int}(hb:0<b):zb1 t b<=z↔t<=z*b:=by
 obtain⟨h1,h2⟩:=znC (t:=t) hb;constructor
 ·intro h;exact Int.le_trans h1 (Int.mul_le_mul_of_nonneg_right h (Int.le_of_lt hb))
 ·intro h;rcases Int.lt_or_le z (zb1 t b)with g|g
  ·have:=Int.mul_le_mul_of_nonneg_right (show z<=zb1 t b-1 by lia) (Int.le_of_lt hb);lia
  ·exact g
def zij (gr:Grd cs)(bk:Brk cs (xx,1) p r):0<hvB p r (xx,1)/\Bd 171 (hvB p r (xx,1))/\Bd 400 (hvT p r (xx,1))/\Bd 192 (zb1 (hvT p r (xx,1)) (hvB p r (xx,1))):=by
 have hpr:=bk.lt;have hB:0<hvB p r (xx,1):=ziD (by lia) (show(0:Int)<1 by decide);obtain⟨bp1,bp2⟩:=gr.bd p bk.ma;obtain⟨br1,br2⟩:=gr.bd r bk.mb;have h1':p.1<=xx:=by have:p.1*1<=xx:=bk.lo;lia
 have h2':xx<=r.1:=by have:xx<=r.1*1:=bk.hi;lia
 have bx:Bd 171 xx:=(Bd.btw (n:=170) bp1 br1 h1' h2').mono (by decide)
 have bT:Bd 400 (hvT p r (xx,1)):=by have r1:Bd 171 (r.1-p.1):=Bd.sub br1 bp1;have r2:Bd 191 (r.2-p.2):=Bd.sub br2 bp2;have m1:Bd 361 (p.2*(r.1-p.1)):=Bd.mul bp2 r1;have m2:Bd 172 (xx-p.1):=Bd.sub bx (bp1.mono (by decide));have m3:Bd 363 ((r.2-p.2)*(xx-p.1)):=Bd.mul r2 m2;unfold hvT;rw[if_pos (by lia)];dsimp only;rw[Int.mul_one,Int.mul_one];exact(Bd.add (n:=363) (m1.mono (by decide)) m3).mono (by decide)
 have bB:Bd 171 (hvB p r (xx,1)):=by unfold hvB;rw[if_pos (by lia)];dsimp only;rw[Int.mul_one];exact Bd.sub br1 bp1
 refine⟨hB,bB,bT,?_⟩
 have eT:hvT p r (xx,1)=p.2*(r.1-xx)+r.2*(xx-p.1):=by
  unfold hvT;rw[if_pos (by lia)];dsimp only
  grind
 have eB:hvB p r (xx,1)=(r.1-xx)+(xx-p.1):=by unfold hvB;rw[if_pos (by lia)];dsimp only;lia
 have lo:-(2 ^ 190)*hvB p r (xx,1)<=hvT p r (xx,1):=by rw[eT,eB];have k1:=Int.mul_le_mul_of_nonneg_right (show -(2 ^ 190:Int)<=p.2 by unfold Bd at bp2;lia) (show 0<=r.1-xx by lia);have k2:=Int.mul_le_mul_of_nonneg_right (show -(2 ^ 190:Int)<=r.2 by unfold Bd at br2;lia) (show 0<=xx-p.1 by lia);rw[Int.mul_add];lia
 have hi:hvT p r (xx,1)<=2 ^ 190*hvB p r (xx,1):=by rw[eT,eB];have k1:=Int.mul_le_mul_of_nonneg_right (show p.2<=(2 ^ 190:Int) by unfold Bd at bp2;lia) (show 0<=r.1-xx by lia);have k2:=Int.mul_le_mul_of_nonneg_right (show r.2<=(2 ^ 190:Int) by unfold Bd at br2;lia) (show 0<=xx-p.1 by lia);rw[Int.mul_add];lia
 have d1:-(2 ^ 190)<=-hvT p r (xx,1)/hvB p r (xx,1):=(Int.le_ediv_iff_mul_le hB).mpr (by rw[Int.neg_mul];lia)
 have d2:-hvT p r (xx,1)/hvB p r (xx,1)<=2 ^ 190:=Int.ediv_le_of_le_mul hB (by have:=lo;rw[Int.neg_mul]at this;lia)
 unfold zb1;show _<2 ^ 192;lia
def zbJ (cs:List (Int×Int))(x:Int):Int:=match zdp cs (x,1)with
 |some (a,b)=>zb1 (hvT a b (x,1)) (hvB a b (x,1))
 |none=>0
def ze6 (gr:Grd cs){s:Int×Int}(on:OnG cs (s.1,1)):zbw cs s↔zbJ cs s.1<=s.2:=by
 obtain⟨a,b,seg,bk⟩:=ziF gr on;have hB:=(zij gr bk).1;unfold zbJ;rw[seg];dsimp only;rw[zoC hB];constructor
 ·intro h;exact h.2 a b seg
 ·intro h;refine⟨on,fun a' b' seg'=>?_⟩;rw[seg]at seg';cases seg';exact h
def zmh (gr:Grd cs)(on:OnG cs (x,1)):Bd 192 (zbJ cs x):=by obtain⟨a,b,seg,bk⟩:=ziF gr on;unfold zbJ;rw[seg];exact(zij gr bk).2.2.2
abbrev bcD (b:Str×(Int×Int)):D:=.tup [.str b.1,.int b.2.1,.int b.2.2]
def abc:List Nat:=List.range' 97 26
def zkc:("abcdefghijklmnopqrstuvwxyz":Str).cps.toList=abc:=by decide +kernel
def ziA {c:Nat}:c∈abc↔97<=c/\c<=122:=by unfold abc;rw[List.mem_range'_1];lia
def nmB (z:Str):Bool:=decide (1<=z.length)&&(decide (z.length<=8)&&z.cps.toList.all fun c=>decide (c∈abc))
def zf4 {z:Str}:nmB z=true↔1<=z.length/\z.length<=8/\∀ c∈z.cps.toList,c∈abc:=by unfold nmB;rw[Bool.and_eq_true,Bool.and_eq_true,decide_eq_true_eq,decide_eq_true_eq,List.all_eq_true];simp only[decide_eq_true_eq]
def zrS {z:Str}(h:nmB z=true)(k:Nat):fl k (.str z)=true:=by
  have h3:=(zf4.mp h).2.2
  have:z.cps.all (· < 0x110000)=true:=by rw[Array.all_eq_true'];intro x hx;have:=ziA.mp (h3 x (Array.mem_toList_iff.mpr hx));simp;lia
  cases k<;>exact this
structure Vl where
 cs:List (Int×Int)
 bs:List (Str×(Int×Int))
 fs:List Fg
 hz:Option Int
 h0:Int
 h1:Int
 dl:Int
structure FgV (F:Fg):Prop where
 b:FgB F
 o:F.f<=F.l
 f:Bd 300 F.f
 l:Bd 300 F.l
structure zjJ (V:Vl):Prop where
 gr:Grd V.cs
 b1:1<=V.bs.length
 b12:V.bs.length<=12
 nm:∀ b∈V.bs,nmB b.1=true
 nd:(V.bs.map (·.1)).Nodup
 st:∀ b∈V.bs,zbw V.cs b.2
 bd:∀ b∈V.bs,Bd 180 b.2.1/\Bd 200 b.2.2
 f12:V.fs.length<=12
 fg:∀ F∈V.fs,FgV F
 hz:∀ z,V.hz=some z->0<=z
 hh:V.h0<=V.h1
 b0:Bd 250 V.h0
 bl:Bd 250 V.h1
 dl:0<=V.dl
abbrev vF (g b f h a l d:D):List (Str×D):=[("ground",g),("beacons",b),("fogs",f),("haze",h),("first",a),("last",l),("delay",d)]
section
variable {S:Sto}{P:D->Prop}{n:Nat}{g b f h a l d:D}
def zll (k:S[n]?=some (.ins "Valley" (vF g b f h a l d)))(q:P g):∃ m c fs x,D.ref n=.ref m/\S[m]?=some (.ins c fs)/\fs.lookup ("ground":Str)=some x/\P x:=⟨n,_,_,g,rfl,k,by simp[List.lookup_cons],q⟩
def zkV (k:S[n]?=some (.ins "Valley" (vF g b f h a l d)))(q:P b):∃ m c fs x,D.ref n=.ref m/\S[m]?=some (.ins c fs)/\fs.lookup ("beacons":Str)=some x/\P x:=⟨n,_,_,b,rfl,k,by rw[List.lookup_cons,show((("beacons":Str)=="ground")=false) by decide +kernel];simp[List.lookup_cons],q⟩
def zpk (k:S[n]?=some (.ins "Valley" (vF g b f h a l d)))(q:P f):∃ m c fs x,D.ref n=.ref m/\S[m]?=some (.ins c fs)/\fs.lookup ("fogs":Str)=some x/\P x:=⟨n,_,_,f,rfl,k,by rw[List.lookup_cons,show((("fogs":Str)=="ground")=false) by decide +kernel];dsimp only;rw[List.lookup_cons,show((("fogs":Str)=="beacons")=false) by decide +kernel];simp[List.lookup_cons],q⟩
def zqw (k:S[n]?=some (.ins "Valley" (vF g b f h a l d)))(q:P h):∃ m c fs x,D.ref n=.ref m/\S[m]?=some (.ins c fs)/\fs.lookup ("haze":Str)=some x/\P x:=⟨n,_,_,h,rfl,k,by rw[List.lookup_cons,show((("haze":Str)=="ground")=false) by decide +kernel];dsimp only;rw[List.lookup_cons,show((("haze":Str)=="beacons")=false) by decide +kernel];dsimp only;rw[List.lookup_cons,show((("haze":Str)=="fogs")=false) by decide +kernel];simp[List.lookup_cons],q⟩
def zo5 (k:S[n]?=some (.ins "Valley" (vF g b f h a l d)))(q:P a):∃ m c fs x,D.ref n=.ref m/\S[m]?=some (.ins c fs)/\fs.lookup ("first":Str)=some x/\P x:=⟨n,_,_,a,rfl,k,by rw[List.lookup_cons,show((("first":Str)=="ground")=false) by decide +kernel];dsimp only;rw[List.lookup_cons,show((("first":Str)=="beacons")=false) by decide +kernel];dsimp only;rw[List.lookup_cons,show((("first":Str)=="fogs")=false) by decide +kernel];dsimp only;rw[List.lookup_cons,show((("first":Str)=="haze")=false) by decide +kernel];simp[List.lookup_cons],q⟩
def zpz (k:S[n]?=some (.ins "Valley" (vF g b f h a l d)))(q:P l):∃ m c fs x,D.ref n=.ref m/\S[m]?=some (.ins c fs)/\fs.lookup ("last":Str)=some x/\P x:=⟨n,_,_,l,rfl,k,by rw[List.lookup_cons,show((("last":Str)=="ground")=false) by decide +kernel];dsimp only;rw[List.lookup_cons,show((("last":Str)=="beacons")=false) by decide +kernel];dsimp only;rw[List.lookup_cons,show((("last":Str)=="fogs")=false) by decide +kernel];dsimp only;rw[List.lookup_cons,show((("last":Str)=="haze")=false) by decide +kernel];dsimp only;rw[List.lookup_cons,show((("last":Str)=="first")=false) by decide +kernel];simp[List.lookup_cons],q⟩
def zo7 (k:S[n]?=some (.ins "Valley" (vF g b f h a l d)))(q:P d):∃ m c fs x,D.ref n=.ref m/\S[m]?=some (.ins c fs)/\fs.lookup ("delay":Str)=some x/\P x:=⟨n,_,_,d,rfl,k,by rw[List.lookup_cons,show((("delay":Str)=="ground")=false) by decide +kernel];dsimp only;rw[List.lookup_cons,show((("delay":Str)=="beacons")=false) by decide +kernel];dsimp only;rw[List.lookup_cons,show((("delay":Str)=="fogs")=false) by decide +kernel];dsimp only;rw[List.lookup_cons,show((("delay":Str)=="haze")=false) by decide +kernel];dsimp only;rw[List.lookup_cons,show((("delay":Str)=="first")=false) by decide +kernel];dsimp only;rw[List.lookup_cons,show((("delay":Str)=="last")=false) by decide +kernel];simp[List.lookup_cons],q⟩
end
def zbd {bs:List (Str×(Int×Int))}{i:Nat}{d:D}(h:(bs.map bcD)[i]?=some d):∃ b,bs[i]?=some b/\d=bcD b:=by
 rw[List.getElem?_map]at h;cases e:bs[i]? with
 |none=>rw[e]at h;cases h
 |some p=>rw[e]at h;cases h;exact⟨p,rfl,rfl⟩
def zeX (f:Str×(Int×Int)->D):D->D
 |.tup [.str z,.int a,.int b]=>f (z,a,b)
 |d=>d
def zbU (f:Str×(Int×Int)->D)(bs:List (Str×(Int×Int))):(bs.map bcD).map (zeX f)=bs.map f:=by rw[List.map_map];rfl
def zdb {S A B X:Sto}(h:∃ T,A=S++T)(e:B=A++X):∃ T,B=S++T:=by obtain⟨T,h⟩:=h;exact⟨T++X,by rw[e,h,List.append_assoc]⟩
def zhO {f:Str}{v:D}:putD f v []=[(f,v)]:=rfl
def zX {f g:Str}{v x:D}{r:List (Str×D)}(h:g≠f):putD f v ((g,x)::r)=(g,x)::putD f v r:=by show(if g=f then _ else _)=_;rw[if_neg h]
section
variable {g b f h a l d:D}
def vp2:putD "beacons" b ([("ground",g)]:List (Str×D))=([("ground",g),("beacons",b)]:List (Str×D)):=by rw[zX (by decide +kernel)];rfl
def vp3:putD "fogs" f ([("ground",g),("beacons",b)]:List (Str×D))=([("ground",g),("beacons",b),("fogs",f)]:List (Str×D)):=by rw[zX (by decide +kernel),zX (by decide +kernel)];rfl
def vp4:putD "haze" h ([("ground",g),("beacons",b),("fogs",f)]:List (Str×D))=([("ground",g),("beacons",b),("fogs",f),("haze",h)]:List (Str×D)):=by rw[zX (by decide +kernel),zX (by decide +kernel),zX (by decide +kernel)];rfl
def vp5:putD "first" a ([("ground",g),("beacons",b),("fogs",f),("haze",h)]:List (Str×D))=([("ground",g),("beacons",b),("fogs",f),("haze",h),("first",a)]:List (Str×D)):=by rw[zX (by decide +kernel),zX (by decide +kernel),zX (by decide +kernel),zX (by decide +kernel)];rfl
def vp6:putD "last" l ([("ground",g),("beacons",b),("fogs",f),("haze",h),("first",a)]:List (Str×D))=([("ground",g),("beacons",b),("fogs",f),("haze",h),("first",a),("last",l)]:List (Str×D)):=by rw[zX (by decide +kernel),zX (by decide +kernel),zX (by decide +kernel),zX (by decide +kernel),zX (by decide +kernel)];rfl
def vp7:putD "delay" d ([("ground",g),("beacons",b),("fogs",f),("haze",h),("first",a),("last",l)]:List (Str×D))=vF g b f h a l d:=by rw[zX (by decide +kernel),zX (by decide +kernel),zX (by decide +kernel),zX (by decide +kernel),zX (by decide +kernel),zX (by decide +kernel)];rfl
end
def zeU (xs:List α){k:Int}(h0:0<=k)(h1:k<=xs.length):cutD xs none (some k)=xs.take k.toNat:=by unfold cutD slD;dsimp only;rw[if_neg (by lia),List.drop_zero,Nat.sub_zero,Nat.min_eq_left (by lia)]
def zht (xs:List α){k:Int}(h0:0<=k)(h1:k<=xs.length):cutD xs (some k) none=xs.drop k.toNat:=by unfold cutD slD;dsimp only;rw[if_neg (by lia),Nat.min_eq_left (by lia)];exact List.take_of_length_le (by rw[List.length_drop];exact Nat.le_refl _)
theorem zf3 (n:Str):∀ zs:List Str,((zs.map D.str).any fun z=>eqv z (.str n))=decide (n∈zs)
 |[]=>by simp
 |z::zs=>by rw[List.map_cons,List.any_cons,zf3 n zs];show((z==n)||decide (n∈zs))=decide (n∈z::zs);rw[Bool.eq_iff_iff,Bool.or_eq_true,beq_iff_eq,decide_eq_true_eq,decide_eq_true_eq,List.mem_cons];exact⟨fun h=>h.imp (·.symm) id,fun h=>h.imp (·.symm) id⟩
def ziL {zs:List Str}(h:∀ z∈zs,fl 20 (.str z)=true):(zs.map D.str).all (fl 20)=true:=by rw[List.all_map,List.all_eq_true];exact h
def zqD {Q:DK}{zs:List Str}{n:Str}(hx:zdV S x (zs.map D.str))(hn:fl 20 (.str n)=true)(h:∀ z∈zs,fl 20 (.str z)=true)(q:Q (.bl (decide (n∈zs))) S):oIn (.str n) x S Q:=.inl ⟨_,⟨_,hx,hn,ziL h,rfl⟩,by rw[zf3];exact q⟩
def zk3 {Q:DK}{zs:List Str}{n:Str}(hx:zdV S x (zs.map D.str))(hn:fl 20 (.str n)=true)(h:∀ z∈zs,fl 20 (.str z)=true)(q:Q (.bl (!decide (n∈zs))) S):zfw (.str n) x S Q:=.inl ⟨_,⟨_,hx,hn,ziL h,rfl⟩,by rw[zf3];exact q⟩
mutual
theorem eqv_refl:∀ (k:Nat) (d:D),fl k d=true->eqv d d=true
  |_,.non,_=>rfl
  |_,.bl b,_=>by show(b==b)=true;simp
  |_,.int i,_=>by show decide (i=i)=true;simp
  |_,.str x,_=>by show(x==x)=true;simp
  |0,.tup _,h=>by cases h
  |k+1,.tup xs,h=>eqvAll_refl k xs h
  |k,.ref _,h=>by cases k<;>cases h
  |k,.ty _,h=>by cases k<;>cases h
  |k,.rl _,h=>by cases k<;>cases h
  |k,.kt _,h=>by cases k<;>cases h
  |k,.exn _,h=>by cases k<;>cases h
theorem eqvAll_refl:∀ (k:Nat) (xs:List D),xs.all (fl k)=true->eqvAll xs xs=true
  |_,[],_=>rfl
  |k,x::xs,h=>by rw[List.all_cons,Bool.and_eq_true]at h;show(eqv x x&&eqvAll xs xs)=true;rw[eqv_refl k x h.1,eqvAll_refl k xs h.2];rfl
end
def ze8 {Q:DK}(hx:Lst S x xs)(hy:Lst S y xs)(f:xs.all (fl 20)=true)(q:Q (.bl false) S):oNe x y S Q:=zsr hx hy f f (eqvAll_refl 20 xs f) q
def onS (p:Str->D):D->D
 |.str z=>p z
 |d=>d
def zox {zs:List Str}{i:Nat}{d:D}(h:(zs.map D.str)[i]?=some d):∃ z,zs[i]?=some z/\d=.str z:=by
 rw[List.getElem?_map]at h;cases e:zs[i]? with
 |none=>rw[e]at h;cases h
 |some p=>rw[e]at h;cases h;exact⟨p,rfl,rfl⟩
def znF (f:Str->D)(zs:List Str):(zs.map D.str).map (onS f)=zs.map f:=by rw[List.map_map];rfl
def zay {S:Sto}{Q:DK}{x y:Str}(fx:fl 20 (.str x)=true)(fy:fl 20 (.str y)=true)(q:Q (.bl (decide (x=y))) S):oEq (.str x) (.str y) S Q:=zm7 fx fy (by
 by_cases h:x=y
 ·subst h;rw[decide_eq_true rfl];exact beq_self_eq_true x
 ·rw[decide_eq_false h];exact beq_eq_false_iff_ne.mpr h) q
def prs:List Str->List (Str×Str)
 |[]=>[]
 |z::zs=>zs.map (fun y=>(z,y))++prs zs
open Classical in
def zj8 {S:Sto}{Q:DK}{x y:Str}(fx:fl 20 (.str x)=true)(fy:fl 20 (.str y)=true)(q:Q (.bl (!decide (x=y))) S):oNe (.str x) (.str y) S Q:=znP fx fy (by
 by_cases h:x=y
 ·subst h;rw[decide_eq_true rfl];exact beq_self_eq_true x
 ·rw[decide_eq_false h];exact beq_eq_false_iff_ne.mpr h) q
def zhp {ds:List D}{d:D}(h:ds[ds.length-1]?=some d):atD ds (-1)=some d:=by have hl:=zV h;unfold atD ixD;rw[if_neg (by decide),if_pos (by lia)];show ds[((-1:Int)+(ds.length:Int)).toNat]?=some d;rw[show((-1:Int)+(ds.length:Int)).toNat=ds.length-1 by lia];exact h
abbrev vlD (x y z:D)(V:Vl):D:=.tup [x,y,z,zaJ V.hz,.int V.h0,.int V.h1,.int V.dl]
def VlS (S:Sto)(x y z:D)(V:Vl):Prop:=Lst S x (V.cs.map p2)/\Lst S y (V.bs.map bcD)/\Lst S z (V.fs.map fgD)
def onC (p:Nat->Bool):D->D
 |.str z=>.bl (p (z.cps.toList.headD 0))
 |d=>d
def zgp {z:Str}{i:Nat}{d:D}(h:(signs z)[i]?=some d):∃ c,z.cps.toList[i]?=some c/\d=.str ⟨#[c]⟩:=by
 unfold signs at h;rw[List.getElem?_map]at h;cases e:z.cps.toList[i]? with
 |none=>rw[e]at h;cases h
 |some p=>rw[e]at h;cases h;exact⟨p,rfl,rfl⟩
def zgq (p:Nat->Bool)(z:Str):(signs z).map (onC p)=(z.cps.toList.map p).map D.bl:=by unfold signs;rw[List.map_map,List.map_map];rfl
def zge (z:Str):(signs z).length=z.length:=by unfold signs;rw[List.length_map];exact Array.length_toList
def len_app (x y:Str):(x++y).length=x.length+y.length:=by show(x.cps++y.cps).size=x.cps.size+y.cps.size;exact Array.size_append ..
structure VlT (V:Vl):Prop where
 ok:zjJ V
 hz:∀ z,V.hz=some z->Bd 600 z
 dl:Bd 600 V.dl
section
variable {see:Nat->Nat->Int->Prop}{dl:Int}{s:Nat}{h0:Int}
inductive Lt (see:Nat->Nat->Int->Prop)(dl:Int)(s:Nat)(h0:Int):Nat->Int->Prop
 |base:Lt see dl s h0 s h0
 |step {k j:Nat} {h u:Int}:Lt see dl s h0 k h->h<=u->see k j u->Lt see dl s h0 j (u+dl)
end
def zba (l:List Int):Bool:=match l with
 |[a,b,c,d,e,f,_,_]=>decide (a<=b)&&(decide (c<=d)&&decide (e<=f))
 |_=>false
def ze3 {l:List Int}(h:l.length≠8):zba l=false:=by
 unfold zba;split
 ·exact absurd rfl h
 ·rfl
abbrev fgL (l:List Int):D:=.tup (l.map D.int)
def zjF (p:List Int->Bool):D->D
 |.tup xs=>.bl (p (xs.map fun d=>match d with|.int i=>i|_=>0))
 |d=>d
def ze2 (p:List Int->Bool)(gs:List (List Int)):(gs.map fgL).map (zjF p)=(gs.map p).map D.bl:=by
 rw[List.map_map,List.map_map];refine List.map_congr_left fun l _=>?_
 show D.bl (p ((l.map D.int).map fun d=>match d with|.int i=>i|_=>0))=D.bl (p l);rw[List.map_map];congr 2;exact List.map_id'' (fun _=>rfl) l
def ziE {gs:List (List Int)}{i:Nat}{d:D}(h:(gs.map fgL)[i]?=some d):∃ l,gs[i]?=some l/\d=fgL l:=by
 rw[List.getElem?_map]at h;cases e:gs[i]? with
 |none=>rw[e]at h;cases h
 |some p=>rw[e]at h;cases h;exact⟨p,rfl,rfl⟩
def zdZ (hz:Option Int)(a b d:Int):Prop:=b<a\/d<0\/∃ z,hz=some z/\z<0
def zdR (bs:List (Str×(Int×Int)))(gs:List (List Int)):Prop:=bs.length<1\/12<bs.length\/12<gs.length
def zfT (bs:List (Str×(Int×Int))):Prop:=∀ z∈bs.map (·.1),nmB z=true
def zlE (cs:List (Int×Int))(bs:List (Str×(Int×Int))):Prop:=∀ b∈bs,zbw cs b.2
def zhH (gs:List (List Int)):Prop:=∀ l∈gs,zba l=true
def VCl (cs:List (Int×Int))(bs:List (Str×(Int×Int)))(gs:List (List Int))(hz:Option Int)(a b d:Int)(e:Option Str):Prop :=(zdR bs gs/\e=some "TooMany")\/(¬ zdR bs gs/\((¬ zfT bs/\e=some "BadName")\/(zfT bs/\((¬ (bs.map (·.1)).Nodup/\e=some "Twice")\/((bs.map (·.1)).Nodup/\((¬ zlE cs bs/\e=some "OffGround")\/(zlE cs bs/\((¬ zhH gs/\e=some "BadFog")\/(zhH gs/\((zdZ hz a b d/\e=some "BadHour")\/(¬ zdZ hz a b d/\e=none)))))))))))
structure VBd (bs:List (Str×(Int×Int)))(gs:List (List Int)):Prop where
 lb:bs.length<=100
 lg:gs.length<=100
 ll:∀ l∈gs,l.length<=100
 bd:∀ b∈bs,Bd 180 b.2.1/\Bd 200 b.2.2
 ln:∀ z∈bs.map (·.1),z.length<=1000
def zlj {S:Sto}{P:D->Prop}{n l:Nat}(h:S[n]?=some (.ins "Watch" [("stages",.ref l)]))(q:P (.ref l)):∃ m c fs d,D.ref n=.ref m/\S[m]?=some (.ins c fs)/\fs.lookup ("stages":Str)=some d/\P d:=⟨n,_,_,_,rfl,h,by simp[List.lookup_cons],q⟩
def zun {Z:Rho}{S:Sto}{m:Str}{f:zU}{ex:XR}{t:DA}{Q:DK}{n l:Nat}(h:S[n]?=some (.ins "Watch" [("stages",.ref l)]))(hm:(m==("stages":Str))=false)(q:t Z S fun xs S2=>f (.ref n::xs) S2 Q (ex Z)):kMt "Watch" m f ex t Z Q (.ref n) S:=zt6 h (by rw[List.lookup_cons,hm];rfl) q
abbrev BG:=List (Str×(Int×Int))×List (List Int)
structure VKc where
 cs:List (Int×Int)
 hz:Option Int
 h0:Int
 h1:Int
 dl:Int
def VKc.cl (k:VKc)(p:BG)(e:Option Str):Prop:=VCl k.cs p.1 p.2 k.hz k.h0 k.h1 k.dl e
def VCl.no {bs:List (Str×(Int×Int))}{c:Str}(h:VCl cs bs gs hz a b d none)(h':VCl cs bs gs hz a b d (some c)):False:=by
 unfold VCl at h h'
 grind
def VtL (S:Sto)(k:VKc)(v:Nat)(p:BG):Prop:=∃ g b f,S[v]?=some (.ins "Valley" (vF (.ref g) (.ref b) (.ref f) (zaJ k.hz) (.int k.h0) (.int k.h1) (.int k.dl)))/\GAt S (.ref g) k.cs/\S[b]?=some (.lst (p.1.map bcD))/\S[f]?=some (.lst (p.2.map fgL))
def zek:D->Bool
 |.ref _=>false
 |.tup (.ref _::_)=>false
 |.tup (.rl _::_)=>false
 |_=>true
def frz:Cell->Bool
 |.lst xs=>xs.all zek
 |_=>true
def zdd (bs:List (Str×(Int×Int))):frz (.lst (bs.map bcD))=true:=by show(bs.map bcD).all zek=true;rw[List.all_map];exact List.all_eq_true.mpr fun _ _=>rfl
def zbM (cs:List (Int×Int)):frz (.lst (cs.map p2))=true:=by show(cs.map p2).all zek=true;rw[List.all_map];exact List.all_eq_true.mpr fun _ _=>rfl
def zda (gs:List (List Int)):frz (.lst (gs.map fgL))=true:=by show(gs.map fgL).all zek=true;rw[List.all_map];exact List.all_eq_true.mpr fun l _=>by cases l<;>rfl
def Chg (l:Nat)(S S':Sto):Prop:=∀ (x:Nat) (c:Cell),x≠l->S[x]?=some c->S'[x]?=some c
def Kp (S S':Sto):Prop:=∀ (x:Nat) (c:Cell),S[x]?=some c->frz c=true->S'[x]?=some c
section
variable {S S' S2 T:Sto}{l:Nat}{k:VKc}{v:Nat}{p:BG}{c c0:Cell}
def Kp.trans (h:Kp S S')(h':Kp S' S2):Kp S S2:=fun x c e f=>h' x c (h x c e f) f
def Kp.app:Kp S (S++T):=fun _ _ e _=>zN e
def Kp.refl:Kp S S:=fun _ _ e _=>e
def Chg.app:Chg l S (S++T):=fun _ _ _ e=>zN e
def Chg.trans (h:Chg l S S')(h':Chg l S' S2):Chg l S S2:=fun x c n e=>h' x c n (h x c n e)
def Chg.set:Chg l S (S.set l c):=fun x c' n e=>by rw[List.getElem?_set_ne (fun h=>n h.symm)];exact e
def Chg.kp (h:Chg l S S')(e:S[l]?=some c0)(f:frz c0=false):Kp S S':=fun x c ex fx=>h x c (fun e2=>by rw[e2,e]at ex;cases ex;rw[f]at fx;cases fx) ex
def GAt.kp (h:GAt S g cs)(K:Kp S S'):GAt S' g cs:=by obtain⟨n,l,e,h1,h2⟩:=h;exact⟨n,l,e,K _ _ h1 rfl,K _ _ h2 (zbM _)⟩
theorem VtL.kp (h:VtL S k v p)(K:Kp S S'):VtL S' k v p:=by obtain⟨g,b,f,h1,h2,h3,h4⟩:=h;exact⟨g,b,f,K _ _ h1 rfl,h2.kp K,K _ _ h3 (zdd _),K _ _ h4 (zda _)⟩
def Lst.kp (h:Lst S x xs)(K:Kp S S')(f:frz (.lst xs)=true):Lst S' x xs:=h.imp id fun zq12=>by obtain⟨n,e,h⟩:=zq12;exact⟨n,e,K _ _ h f⟩
end
def zgK (f:Str×(Int×Int)->Bool):D->Bool
 |.tup [.str z,.int a,.int b]=>f (z,a,b)
 |_=>false
structure zax (k:VKc)(p:BG):Prop where
 cl:k.cl p none
 bd:VBd p.1 p.2
def zax.ok (h:zax k p):¬ zdR p.1 p.2/\zfT p.1/\(p.1.map (·.1)).Nodup/\zlE k.cs p.1/\zhH p.2/\¬ zdZ k.hz k.h0 k.h1 k.dl:=by
 have:=h.cl;unfold VKc.cl VCl at this
 grind
theorem zax.fl (h:zax k p):∀ z∈p.1.map (·.1),Dp.fl 20 (.str z)=true:=fun z hz=>zrS (h.ok.2.1 z hz) 20
structure WAt (S:Sto)(k:VKc)(w l:Nat)(vs:List Nat)(st:List BG):Prop where
 w:S[w]?=some (.ins "Watch" [("stages",.ref l)])
 l:S[l]?=some (.lst (vs.map D.ref))
 n:vs.length=st.length
 n0:0<st.length
 n1:st.length<=100
 ok:∀ p∈st,zax k p
 v:∀ (i:Nat) v p,vs[i]?=some v->st[i]?=some p->VtL S k v p
section
variable {S S' S2 T:Sto}{w l:Nat}{k:VKc}{vs vs':List Nat}{v:Nat}{st st':List BG}{p:BG}{c c0:Cell}
def zla (h:0<vs.length):frz (.lst (vs.map D.ref))=false:=by
 cases vs with
 |nil=>cases h
 |cons x xs=>rfl
def WAt.fz (h:WAt S k w l vs st):frz (.lst (vs.map D.ref))=false:=zla (by rw[h.n];exact h.n0)
theorem WAt.kp (h:WAt S k w l vs st)(C:Chg l S S'):Kp S S':=C.kp h.l h.fz
def WAt.ne (h:WAt S k w l vs st):w≠l:=fun e=>by have:=h.w;rw[e,h.l]at this;cases this
def WAt.old (h:WAt S k w l vs st):WAt (S++T) k w l vs st:=⟨zN h.w,zN h.l,h.n,h.n0,h.n1,h.ok,fun i v p a b=>(h.v i v p a b).kp Kp.app⟩
def WAt.last (h:WAt S k w l vs st)(hp:st.getLast?=some p):∃ v,vs.getLast?=some v/\atD (vs.map D.ref) (-1)=some (.ref v)/\VtL S k v p/\zax k p:=by
 rw[List.getLast?_eq_getElem?]at hp;have l1:=zV hp;obtain⟨v,hv⟩:∃ v,vs[vs.length-1]?=some v:=⟨_,List.getElem?_eq_getElem (by have:=h.n;lia)⟩
 refine⟨v,by rw[List.getLast?_eq_getElem?];exact hv,zhp (by rw[List.length_map,List.getElem?_map,hv];rfl),h.v _ v p hv (by rw[h.n];exact hp),h.ok p (List.mem_of_getElem? hp)⟩
def WAt.push (h:WAt S k w l vs st)(K:Chg l S S')(hl:S'[l]?=some (.lst ((vs++[v]).map D.ref)))(hv:VtL S' k v p)(hp:zax k p)(n:st.length<100):WAt S' k w l (vs++[v]) (st++[p]):=by
 refine⟨K _ _ h.ne h.w,hl,by rw[List.length_append,List.length_append,h.n];rfl,by rw[List.length_append];simp,by rw[List.length_append];simp;lia,fun q hq=>?_,fun i a b ha hb=>?_⟩
 ·rcases List.mem_append.mp hq with hq|hq
  ·exact h.ok q hq
  ·rw[List.mem_singleton.mp hq];exact hp
 ·by_cases g:i<vs.length
  ·rw[List.getElem?_append_left g]at ha;rw[List.getElem?_append_left (by rw[<- h.n];exact g)]at hb;exact(h.v i a b ha hb).kp (h.kp K)
  ·have hn:=h.n;have la:=zV ha;rw[List.length_append]at la;have:i=vs.length:=by simp at la;lia
   subst this;rw[List.getElem?_append_right (Nat.le_refl _),Nat.sub_self]at ha;rw[hn,List.getElem?_append_right (Nat.le_refl _),Nat.sub_self]at hb;cases ha;cases hb;exact hv
def WAt.drop (h:WAt S k w l (vs++[v]) (st++[p]))(K:Chg l S S')(hl:S'[l]?=some (.lst (vs.map D.ref)))(n:0<st.length):WAt S' k w l vs st:=by
 have hn:=h.n;have hm:=h.n1;rw[List.length_append,List.length_append]at hn;rw[List.length_append]at hm;refine⟨K _ _ h.ne h.w,hl,by simpa using hn,n,by simp at hm;lia,fun q hq=>h.ok q (List.mem_append_left _ hq),fun i a b ha hb=>(h.v i a b ?_ ?_).kp (h.kp K)⟩
 ·rw[List.getElem?_append_left (zV ha)];exact ha
 ·rw[List.getElem?_append_left (zV hb)];exact hb
end
structure zdF where
 w:Str
 nm:Str
 s:Int×Int
 g:List Int
 n:Int
def ddD (d:zdF):D:=.tup [.str d.w,bcD (d.nm,d.s),fgL d.g,.int d.n]
def ways:List Str:=["build","build","raze","raise","foretell","foretell","lift","back"]
structure zjq (d:zdF):Prop where
 w:d.w∈ways
 f:fl 20 (.str d.nm)=true
 l:d.nm.length<=1000
 a:Bd 180 d.s.1
 b:Bd 200 d.s.2
 g:d.w≠"back"->d.g.length=8
 n0:-1<=d.n
 n1:d.n<=12
def zaK:Option Str->Int
 |none=>-1
 | some c=>if c="TooMany" then 0 else if c="BadName" then 1 else if c="Twice" then 2 else if c="OffGround" then 3 else if c="BadFog" then 4 else if c="NoBeacon" then 5 else if c="NoFog" then 6 else if c="NothingBack" then 7 else 8
def zf9:zaK (some "TooMany")=0/\zaK (some "BadName")=1/\zaK (some "Twice")=2/\zaK (some "OffGround")=3/\zaK (some "BadFog")=4/\zaK (some "NoBeacon")=5/\zaK (some "NoFog")=6/\zaK (some "NothingBack")=7:=by decide +kernel
def zE (d:zdF)(p:BG):Int×BG :=
 if d.w="build" then(-1,(p.1++[(d.nm,d.s)],p.2))
 else if(d.w="raze"\/d.w="raise")/\d.nm∉p.1.map (·.1)then(5,p)
 else if d.w="raze" then(-1,(p.1.filter (fun b=>decide (b.1≠d.nm)),p.2))
 else if d.w="raise" then(-1,(p.1.map (fun b=>if b.1=d.nm then(b.1,(b.2.1,d.s.2))else b),p.2))
 else if d.w="foretell" then(-1,(p.1,p.2++[d.g]))
 else if d.n<0\/p.2.length<=d.n then(6,p)
 else(-1,(p.1,p.2.take d.n.toNat++p.2.drop (d.n.toNat+1)))
def zfZ:∀ z∈ways,fl 20 (.str z)=true:=by decide +kernel
def zax.g8 (h:zax k p):∀ l∈p.2,l.length=8:=fun l hl=>by apply Classical.byContradiction;intro n;have:=h.ok.2.2.2.2.1 l hl;rw[ze3 n]at this;cases this
def ziK (h:zax k p)(hd:zjq d):VBd (zE d p).2.1 (zE d p).2.2/\∀ l∈(zE d p).2.2,l.length=8:=by
  have b:=h.bd;have g:=h.g8;have nt:=h.ok.1;unfold zdR at nt;have bb:p.1.length<=12:=by lia
  have gg:p.2.length<=12:=by lia
  have mk:∀ (xs:List (Str×(Int×Int))) (ys:List (List Int)),xs.length<=13->ys.length<=13->(∀ b∈xs,Bd 180 b.2.1/\Bd 200 b.2.2)->(∀ z∈xs.map (·.1),z.length<=1000)->(∀ l∈ys,l.length=8)->VBd xs ys/\∀ l∈ys,l.length=8:=fun xs ys h1 h2 h3 h4 h5=>⟨⟨by lia,by lia,fun l hl=>by rw[h5 l hl];decide,h3,h4⟩,h5⟩
  unfold zE;split
  . refine mk _ _ (by rw[List.length_append];simp;lia) (by show p.2.length<=13;lia) (fun x hx=>?_) (fun z hz=>?_) g
    . rcases List.mem_append.mp hx with h|h
      . exact b.bd x h
      . rw[List.mem_singleton.mp h];exact⟨hd.a,hd.b⟩
    . rw[List.map_append]at hz;rcases List.mem_append.mp hz with h|h
      . exact b.ln z h
      . rw[List.mem_singleton.mp h];exact hd.l
  split
  . exact⟨b,g⟩
  split
  . refine mk _ _ (Nat.le_trans (List.length_filter_le _ _) (by lia)) (by show p.2.length<=13;lia) (fun x hx=>b.bd x (List.mem_filter.mp hx).1) (fun z hz=>?_) g;obtain⟨x,hx,rfl⟩:=List.mem_map.mp hz;exact b.ln _ (List.mem_map.mpr ⟨x,(List.mem_filter.mp hx).1,rfl⟩)
  split
  . refine mk _ _ (by rw[List.length_map];lia) (by show p.2.length<=13;lia) (fun x hx=>?_) (fun z hz=>?_) g
    . obtain⟨y,hy,rfl⟩:=List.mem_map.mp hx;have:=b.bd y hy;split
      . exact⟨this.1,hd.b⟩
      . exact this
    . obtain⟨x,hx,rfl⟩:=List.mem_map.mp hz;obtain⟨y,hy,rfl⟩:=List.mem_map.mp hx;have:=b.ln _ (List.mem_map.mpr ⟨y,hy,rfl⟩);split<;>exact this
  split
  . refine mk _ _ (by show p.1.length<=13;lia) (by rw[List.length_append];simp;lia) b.bd b.ln fun l hl=>?_
    rcases List.mem_append.mp hl with h|h
    . exact g l h
    . rw[List.mem_singleton.mp h];refine hd.g ?_;rename_i hf;rw[hf];decide +kernel
  split
  . exact⟨b,g⟩
  . refine mk _ _ (by show p.1.length<=13;lia) (by rw[List.length_append,List.length_take,List.length_drop];lia) b.bd b.ln fun l hl=>?_
    rcases List.mem_append.mp hl with h|h
    . exact g l (List.mem_of_mem_take h)
    . exact g l (List.mem_of_mem_drop h)
def VCl.fn {bs:List (Str×(Int×Int))}{e:Option Str}(h:VCl cs bs gs hz a b d e)(h':VCl cs bs gs hz a b d e'):e=e':=by
 unfold VCl at h h'
 grind
def zik (c:Str):0<=zaK (some c):=by
  unfold zaK;dsimp only
  repeat (split;· decide)
  decide
def zlI (d:zdF)(p:BG):(zE d p).1=-1\/0<=(zE d p).1:=by
  unfold zE
  repeat (split;· first|exact .inl rfl|exact .inr (show(0:Int)<=5 by decide)|exact .inr (show(0:Int)<=6 by decide))
  exact .inl rfl
def outD (k:VKc)(d:zdF)(st:List BG)(r:Int)(st':List BG):Prop :=
 (d.w="back"/\((st.length=1/\r=7/\st'=st)\/(∃ p,st=st'++[p]/\0<st'.length/\r=-1))) \/
 (d.w≠"back"/\∃ p,st.getLast?=some p/\(((zE d p).1≠-1/\r=(zE d p).1/\st'=st)\/((zE d p).1=-1/\∃ e,k.cl (zE d p).2 e/\r=zaK e/\st'=if e=none then st++[(zE d p).2]else st)))
def outD.rng {k:VKc}{d:zdF}{st:List BG}{r:Int}{st':List BG}(h:outD k d st r st'):r=-1\/0<=r:=by
 rcases h with⟨_,⟨_,rfl,_⟩|⟨_,_,_,rfl⟩⟩|⟨_,p,_,⟨_,rfl,_⟩|⟨_,e,_,rfl,_⟩⟩
 ·exact .inr (by decide)
 ·exact .inl rfl
 ·exact zlI d p
 ·cases e with
  |none=>exact .inl rfl
  |some c=>exact .inr (zik c)
theorem outD.fn {k:VKc}{d:zdF}{st:List BG}{r r2:Int}{st' st2:List BG}(h:outD k d st r st')(h2:outD k d st r2 st2):r=r2/\st'=st2:=by
  rcases h with⟨a,⟨h1,rfl,rfl⟩|⟨p,e,l,rfl⟩⟩|⟨a,p,hp,⟨n,rfl,rfl⟩|⟨n,e,c,rfl,rfl⟩⟩<;>rcases h2 with⟨b,⟨h1',rfl,e2⟩|⟨p',e',l',rfl⟩⟩|⟨b,p',hp',⟨n',rfl,e2⟩|⟨n',e',c',rfl,e2⟩⟩
  . exact⟨rfl,e2.symm⟩
  . rw[e',List.length_append,List.length_singleton]at h1;lia
  . exact absurd a b
  . exact absurd a b
  . rw[e,List.length_append,List.length_singleton]at h1';lia
  . rw[e]at e';exact⟨rfl,(List.append_inj' e' rfl).1⟩
  . exact absurd a b
  . exact absurd a b
  . exact absurd b a
  . exact absurd b a
  . rw[hp]at hp';cases hp';exact⟨rfl,e2.symm⟩
  . rw[hp]at hp';cases hp';exact absurd n' n
  . exact absurd b a
  . exact absurd b a
  . rw[hp]at hp';cases hp';exact absurd n n'
  . rw[hp]at hp';cases hp';cases c.fn c';exact⟨rfl,e2.symm⟩
structure zaq (S:Sto)(pl:Nat)(prs:List (D×D))(st:List BG):Prop where
 c:S[pl]?=some (.lst (prs.map fun q=>.tup [q.1,q.2]))
 n:prs.length=st.length
 v:∀ (i:Nat) q p,prs[i]?=some q->st[i]?=some p->Lst S q.1 (p.1.map bcD)/\Lst S q.2 (p.2.map fgL)
def Lst.fz2 {y:D}(h:Lst S x xs):zek (.tup [x,y])=false:=by rcases h with rfl|⟨n,rfl,_⟩<;>rfl
section
variable {S S' S2 T:Sto}{w l pl:Nat}{k:VKc}{vs vs':List Nat}{v:Nat}{st st':List BG}{p:BG}{c c0:Cell}{prs:List (D×D)}{q:D×D}
def zaq.fz (h:zaq S pl prs st)(n:0<st.length):frz (.lst (prs.map fun q=>D.tup [q.1,q.2]))=false:=by
 cases prs with
 |nil =>have:=h.n;rw[<- this]at n;cases n
 |cons q r =>
  cases st with
  |nil=>cases n
  |cons p st =>show(zek (.tup [q.1,q.2])&&_)=false;rw[(h.v 0 q p rfl rfl).1.fz2];rfl
def zaq.ne (h:zaq S pl prs st)(n:0<st.length)(W:WAt S k w l vs st'):pl≠l:=fun e=>by
 have hc:=h.c;rw[e,W.l]at hc;have hc:=Cell.lst.inj (Option.some.inj hc);have hn:=h.n
 match vs,prs,hc,hn with
 |_,[],_,hn=>rw[<- hn]at n;exact absurd n (Nat.lt_irrefl _)
 |[],_::_,hc,_=>cases hc
 |x::xs,q::r,hc,_=>cases(List.cons.inj hc).1
def zaq.chg (h:zaq S pl prs st)(C:Chg l S S')(K:Kp S S')(ne:pl≠l):zaq S' pl prs st:=⟨C _ _ ne h.c,h.n,fun i q p a b=>⟨(h.v i q p a b).1.kp K (zdd _),(h.v i q p a b).2.kp K (zda _)⟩⟩
theorem zaq.old (h:zaq S pl prs st):zaq (S++T) pl prs st:=⟨zN h.c,h.n,fun i q p a b=>⟨(h.v i q p a b).1.old,(h.v i q p a b).2.old⟩⟩
def zaq.at' (h:zaq S pl prs st){i:Nat}(hp:st[i]?=some p):∃ q,prs[i]?=some q/\(prs.map fun q=>D.tup [q.1,q.2])[i]?=some (.tup [q.1,q.2])/\Lst S q.1 (p.1.map bcD)/\Lst S q.2 (p.2.map fgL):=by
 have li:=zV hp;obtain⟨q,hq⟩:∃ q,prs[i]?=some q:=⟨_,List.getElem?_eq_getElem (by rw[h.n];exact li)⟩
 exact⟨q,hq,by rw[List.getElem?_map,hq];rfl,h.v i q p hq hp⟩
def zaq.last (h:zaq S pl prs st)(hp:st.getLast?=some p):∃ q,prs.getLast?=some q/\atD (prs.map fun q=>D.tup [q.1,q.2]) (-1)=some (.tup [q.1,q.2])/\Lst S q.1 (p.1.map bcD)/\Lst S q.2 (p.2.map fgL):=by rw[List.getLast?_eq_getElem?]at hp;obtain⟨q,h1,h2,h3⟩:=h.at' hp;exact⟨q,by rw[List.getLast?_eq_getElem?,h.n];exact h1,zhp (by rw[List.length_map,h.n];exact h2),h3⟩
theorem zaq.take (h:zaq S pl prs st){m pl':Nat}(hc:S[pl']?=some (.lst ((prs.take m).map fun q=>.tup [q.1,q.2]))):zaq S pl' (prs.take m) (st.take m):=by
 refine⟨hc,by rw[List.length_take,List.length_take,h.n],fun i a b ha hb=>?_⟩;rw[List.getElem?_take]at ha hb;by_cases g:i<m
 ·rw[if_pos g]at ha hb;exact h.v i a b ha hb
 ·rw[if_neg g]at ha;cases ha
def zaq.push (h:zaq S pl prs st)(K:Kp S S')(hc:S'[pl]?=some (.lst ((prs++[q]).map fun q=>.tup [q.1,q.2])))(h1:Lst S' q.1 (p.1.map bcD))(h2:Lst S' q.2 (p.2.map fgL)):zaq S' pl (prs++[q]) (st++[p]):=by
 refine⟨hc,by rw[List.length_append,List.length_append,h.n];rfl,fun i a b ha hb=>?_⟩;by_cases g:i<prs.length
 ·rw[List.getElem?_append_left g]at ha;rw[List.getElem?_append_left (by rw[<- h.n];exact g)]at hb;exact⟨(h.v i a b ha hb).1.kp K (zdd _),(h.v i a b ha hb).2.kp K (zda _)⟩
 ·have hn:=h.n;have la:=zV ha;rw[List.length_append]at la;have:i=prs.length:=by simp at la;lia
  subst this;rw[List.getElem?_append_right (Nat.le_refl _),Nat.sub_self]at ha;rw[hn,List.getElem?_append_right (Nat.le_refl _),Nat.sub_self]at hb;cases ha;cases hb;exact⟨h1,h2⟩
def WAt.stay (h:WAt S k w l vs st)(C:Chg pl S S')(K:Kp S S')(ne:pl≠l):WAt S' k w l vs st:=⟨K _ _ h.w rfl,C _ _ ne.symm h.l,h.n,h.n0,h.n1,h.ok,fun i v p a b=>(h.v i v p a b).kp K⟩
end
end Dp
namespace My
open PySem PySem.Spec PyProof.Rows L2
def zke (n:Nat)(o:Option Int)(d:Nat)(hd:d<=n):HT.sIx n d o<=n:=by
  cases o with
  |none=>exact hd
  |some i =>show(if i<0 then(i+n).toNat else min i.toNat n)<=n;split<;>lia
section
variable {prog:Program}{w:World}{A:Around}{s:Á}
abbrev zdq (prog:Program)(w:World)(h:Heap)(a:Addr)(c:List Str):Prop:=h.SetOf (PySem.strKind prog w) a (fun y=>c.any (·==y)) c.length
def zdq.at {h':Heap}(x:zdq prog w h a c)(k:∀ o,h.get? a=some o->h'.get? a=some o):zdq prog w h' a c :=by obtain⟨o,es,ep,t,ho,r⟩:=x;exact⟨o,es,ep,t,k o ho,r⟩
theorem loopS {R:Result->Á->Prop}{a:Addr}{wr:List Addr}{G:Array GenState->Array GenState->Prop}{St:Nat->Á->Prop}(W:WalksS prog w A.in1 it fp wr G n P St)(na:a∉fp)(f:Nat->Str)(hf:∀ i v,P i v->∃ t,v=.str (f i) t)(hb:n+1<scanBound) :
  ∀ (k i:Nat) (s:Á),n-i=k->i<=n->St i s->zdq prog w s.heap a (Dp.za2 f i) ->
   (∀ s',Moved (a::wr) G s s'->zdq prog w s'.heap a (Dp.za2 f n)->R (.ok (.ret .none)) s') ->
   codeAny (model prog w) A (.builtin "set.update.loop" ⟨[.ref a,.ref it],[]⟩) R s
 |0,i,s,hk,hi,st,hS,hR=>by
  have e:i=n:=by lia
  subst e;refine codeAny_builtin PyProof.Rows.F.entry_set_update_loop ?_;rw[Around.under_plainId PyProof.Rows.F.plain_set_update_loop];show wpAny _ A.in1 (pyNext (.ref it) >>= _) _ _ _;refine wpAny_bind (W.done s _ _ st fun s' m=>wpAny_pure (hR s' (m.mono fun b q=>List.mem_cons_of_mem _ q) ?_));exact hS.at fun o q=>m.heap a o (fun z=>na (W.sub _ z)) q
 |k+1,i,s,hk,hi,st,hS,hR=>by
  refine codeAny_builtin PyProof.Rows.F.entry_set_update_loop ?_;rw[Around.under_plainId PyProof.Rows.F.plain_set_update_loop];show wpAny _ A.in1 (pyNext (.ref it) >>= _) _ _ _;refine wpAny_bind (W.item i s _ _ (by lia) st fun v s1 pv st1 m=>?_);obtain⟨t,rfl⟩:=hf i v pv;have h1:zdq prog w s1.heap a (Dp.za2 f i):=hS.at fun o q=>m.heap a o (fun z=>na (W.sub _ z)) q
  show wpAny _ A.in1 (holding [Value.str (f i) t] (setAdd a (Value.str (f i) t)) >>= _) _ _ _;refine wpAny_bind (wpAny_holding ?_);unfold setAdd;refine wpAny_holding (wpAny_bind ((PySem.strKind prog w).pyHash (k:=f i) (strKind_is _ _ _ _) ?_));have room:(Dp.za2 f i).length+1<scanBound:=by have:=Dp.zey f i;lia
  refine wpAny_setAddHashed_of (knd:=PySem.strKind prog w) (s:={ s1 with toks:=s1.toks+1 }) (strKind_is _ _ _ _) rfl h1 room fun h2 sb hS2=>?_
  have h3:zdq prog w h2 a (Dp.za2 f (i+1)):=SetOf_congr hS2 (fun y=>(Dp.zhX _ _ _).symm) (Dp.zdz _ _).symm;refine wpAny_pure ⟨plainId_quiet PyProof.Rows.F.plain_set_update_loop _,loopS W na f hf hb k (i+1) _ (by lia) (by lia) (W.frame _ s1 _ _ st1 (Nat.le_succ _) fun b q o e=>?_) h3 fun s' m' hS'=>?_⟩
  ·exact(sb.2 b fun z=>na (z▸q)).trans e
  ·refine hR s' (Moved.trans W.gtrans ((m.mono fun b q=>List.mem_cons_of_mem _ q).then_heap (Nat.le_succ _) fun b o q e=>?_) m') hS';exact(sb.2 b fun z=>q (z▸List.mem_cons_self)).trans e
end
section
variable {prog:Program}{w:World}{A:Around}{E:Â->Á->Prop}{s:Á}
abbrev zej (led:Bool):Obj:={ cls:=.type "set",dict:=none,data:=.set #[] 0 (.fresh 0 0 led) }
def zks {l:Addr}{its:Array Â}(f:Nat->Str){Q:Â->Á->Prop}(hh:A.handled=none)(hl:s.heap.IsList l its)(hf:∀ (i:Nat) v,its[i]?=some v->∃ t,v=.str (f i) t)(hb:its.size+1<scanBound)
    (h:∀ (h':Heap) (tk:Nat),zdq prog w h' s.heap.objs.size (Dp.za2 f its.size)->(∀ b o,b<s.heap.objs.size->s.heap.get? b=some o->h'.get? b=some o)->Q (.ref s.heap.objs.size) { s with heap:=h',toks:=tk }) :
    wpAny (model prog w) A (call (.type "set") [.ref l]) Q E s:=by
  have ft:=F.called_set;obtain⟨c,tl,hmro⟩:=ft.mro;have hmade:=ft.made;have hsub:=ft.sub;have h1:=ft.notType;have h2:=ft.canCreate;have hct:=F.typeCall_set_1 (.ref l);refine wpAny_call (codeAny_of_tree ?_);show wpAny _ _ (callAny (.type "set") _) _ _ s;refine wpAny_pure ⟨Code.quiet_builtin _ (by decide +kernel),codeAny_builtin F.entry_type_call ?_⟩;rw[Around.under_plain (weight_type_call_type "set" [Value.ref l] []) rfl]
  repeat (any_goals (first|assumption|wp_step))
  refine codeAny_mono (code_set_new_1 (.ref l) (E:=E) (Q₁:=fun v s1=>∃ led:Bool,v=.ref s.heap.objs.size/\s1={ s with heap:=s.heap.push (zej led) }) fun led=>⟨led,rfl,rfl⟩) fun r s1 hr=>?_
  cases r with
  |error e=>exact hr
  |ok fl =>
    cases fl with
    |ret v =>
      obtain⟨led,rfl,rfl⟩:=hr;have e0:(s.heap.push (zej led)).get? s.heap.objs.size=some (zej led):=Heap.get?_push_size _ rfl;have hT:Shared.TypeIs { s with heap:=s.heap.push (zej led) } (.ref s.heap.objs.size) "set":=⟨_,e0,rfl⟩
      have hli:=ft.init.lookup;have hbi:=ft.init.bind (.ref s.heap.objs.size)
      repeat (any_goals (first|assumption|wp_step))
      refine codeAny_mono (codeAny_call_builtin (R:=wants (fun r s2=>r=.none/\∃ h' tk,s2={ s with heap:=h',toks:=tk }/\zdq prog w h' s.heap.objs.size (Dp.za2 f its.size)/\∀ b o,b<s.heap.objs.size->s.heap.get? b=some o->h'.get? b=some o) E) ft.init.plain F.entry_set_init (check_set_init_1 hT ?_)) fun r2 s2 hr2=>?_
      . obtain⟨ol,hol,hcl,nl,hdl⟩:=hl;obtain⟨ocl,odi,oda,osl⟩:=ol;simp only at hcl hdl;subst hcl hdl;have hol2:(s.heap.push (zej led)).get? l=some { cls:=.type "list",dict:=odi,data:=.seq its nl,slots:=osl }:=Heap.get?_push_of_some _ hol;have k1:=F.sub_list_set;have k2:=F.sub_list_frozenset;have k3:(Value.type "list"==Value.type "dict")=false:=by decide
        have hl1:(s.heap.push (zej led)).IsList l its:=⟨_,hol2,rfl,nl,rfl⟩
        unfold Builtin.«set.__init__» noKeywords Builtin.Frozenset.updateFrom;generalize hPI:pyIter=PI
        wp_walk
        subst hPI;refine wpAny_pyIter_list hl1 (wpAny_bind (wpAny_runValue ?_));have ll:l<s.heap.objs.size:=Heap.lt_size hol;have n1:l≠(s.heap.push (zej led)).objs.size:=by rw[Heap.size_push];exact Nat.ne_of_lt (Nat.lt_succ_of_lt ll)
        have n2:s.heap.objs.size∉[(s.heap.push (zej led)).objs.size,l]:=by
          rw[Heap.size_push];intro z;rcases List.mem_cons.mp z with z|z
          . exact Nat.ne_of_lt (Nat.lt_succ_self _) z
          . exact Nat.ne_of_gt ll (List.mem_singleton.mp z)
        refine loopS ((Walks.list (show _=none by simp[hh]) _ l n1 its).toS) n2 f hf hb (its.size-0) 0 _ (by lia) (Nat.zero_le _) ⟨⟨_,Heap.get?_push_size _ rfl,rfl,rfl⟩,hl1.push _⟩ ?_ fun s' m hS'=>?_
        . exact SetOf_congr ((setObjOf_fresh (knd:=PySem.strKind prog w) led).setOf (Heap.get?_push_of_some _ e0) (by unfold scanBound;lia)) (fun _=>rfl) rfl
        . obtain⟨h',g',d',tk',os'⟩:=s';cases(show g'=s.gens from m.gens);cases(show d'=s.drawn from m.drawn);cases(show os'=s.os from m.os);show wpAny _ _ _ _ _ _;refine wpAny_pure (wpAny_pure ⟨rfl,h',tk',rfl,hS',fun b o q e=>?_⟩);refine m.heap b o (fun z=>?_) (Heap.get?_push_of_some _ (Heap.get?_push_of_some _ e));rcases List.mem_cons.mp z with z|z
          . exact Nat.ne_of_lt q z
          . have z':=List.mem_singleton.mp z;rw[Heap.size_push]at z';exact Nat.ne_of_lt (Nat.lt_succ_of_lt q) z'
      . cases r2 with
        |error e=>exact hr2
        |ok fl2 =>
          cases fl2 with
          |ret r =>
            obtain⟨rfl,h',tk,rfl,hS',kp⟩:=hr2
            repeat (any_goals (first|assumption|wp_step))
            exact h _ _ hS' kp
          |_=>exact hr2.elim
    |_=>exact hr.elim
end
def ztO (K:À)(ta:TA):TE:=fun U H Q=>ta U H fun vs H1=>∃ l,∃ zs:List Str,vs=[.ref l]/\SqL K H1 l (zs.map V.str)/\zs.length<=4000/\Q (.int (Dp.za2 (fun i=>zs.getD i Str.empty) zs.length).length) H1
theorem zhT:∀ {zs:List Str} {us:List Â},Vals (zs.map V.str) us->∀ (i:Nat) v,us[i]?=some v->∃ t,v=.str (zs.getD i Str.empty) t
 |[],_,.nil,i,v,e=>by simp at e
 |z::zs,_,.cons r t,0,v,e=>by obtain⟨t,rfl⟩:=r;simp at e;exact⟨t,e.symm⟩
 |z::zs,_,.cons r t,i+1,v,e=>by obtain⟨t,h⟩:=zhT t i v (by simpa using e);exact⟨t,by rw[h];simp⟩
def zon {X:Cx}{a:Expr}{ta:TA}{p1 p2 pos1 pos2:Pos}(hc:X.calm=true)(hgl:Gl X "len")(hml:X.mg "len"=none)(hgr:Gl X "set")(hmr:X.mg "set"=none)(ha:PA X [a] ta)
  (hs:starEach [a] X.env=[(false,eval a X.env)]:=by rfl)
  (hs3:starEach [.Call (.Name "set" p2) [a] [] pos2] X.env=[(false,eval (.Call (.Name "set" p2) [a] [] pos2) X.env)]:=by rfl) :
  PE X (.Call (.Name "len" p1) [.Call (.Name "set" p2) [a] [] pos2] [] pos1) (ztO X.K ta):=by
 intro pins s U H Q I h;refine Call_ (zbq I hgl hml boot_len (PyProof.Rows.callWith_builtin1 ?_ (by rw[hs3];rfl) (by rfl)));rw[hs3];show wpAny _ _ (spliced ((false,eval (.Call (.Name "set" p2) [a] [] pos2) X.env)::backTo pos1 [])) _ _ s;refine Calls.spliced_cons (Call_ (zbq I hgr hmr boot_set (PyProof.Rows.callWith_type1 (thn (ha pos2 pins s U H _ I h) fun us s1 ⟨vs,H1,I1,r1,q1⟩=>?_) hs rfl)));obtain⟨l,zs,e,hx,h4,q⟩:=q1;subst e;obtain⟨u,rfl,ru⟩:=vals1 r1;cases ru;obtain⟨its,rx,px,zx⟩:=I1.list hx;have sz:its.toArray.size=zs.length:=by rw[List.size_toArray,<- rx.length,List.length_map]
 refine zks (fun i=>zs.getD i Str.empty) (show _=none from I1.ok.hd hc) px.isList (fun i v e=>zhT rx i v (by simpa using e)) (by rw[sz];unfold scanBound;lia) fun h' tk hS kp=>Calls.spliced_nil ?_
 rw[sz]at hS;have le:=Dp.zey (fun i=>zs.getD i Str.empty) zs.length;obtain⟨o,es,ep,t,ho,hex,hd,_,_,_,hf,hn⟩:=hS;refine call_len_set ho hex hd hf (by lia) ?_;rw[hn];exact⟨.int _,H1,I1.kept (t':=tk+1+1) (fun b o q=>kp b o (Heap.lt_size q) q),⟨_,rfl⟩,q⟩
def zmd (H:Hp)(cd:Â)(qual:Str):Prop:=∃ c oc vs t u,cd=.ref c/\H c=some (.frz oc u)/\oc.data=.fields vs/\vs[1]?=some (.str qual t)
def zuN (H:Hp)(ps:Array Â)(l c:Nat)(qual:Str):Prop:=ps=#[]\/∃ a,ps=#[rawInt l,rawInt c,.ref a]/\zmd H (.ref a) qual
end My
namespace Dp
open PySem PySem.Spec PyProof.Rows L2 My
def isStar:Expr->Bool
 |.Starred _ _=>true
 |_=>false
def zac {e:Expr}{es:List Expr}{env:Env}(h:isStar e=false):starEach (e::es) env=(false,eval e env)::starEach es env:=by cases e<;>first|rfl|cases h
theorem zdk {pos:Pos}{env:Env}:∀ {es:List Expr},es.all (fun e=>!isStar e)=true->(backTo pos (starEach es env)).any (·.1)=false
 |[],_=>rfl
 |e::es,h=>by rw[List.all_cons,Bool.and_eq_true]at h;rw[zac (by simpa using h.1)];show(false||(backTo pos (starEach es env)).any (·.1))=false;rw[zdk h.2];rfl
def zbS {e:Expr}{env:Env}(h:isStar e=false):starEach [e] env=[(false,eval e env)]:=zac h
def zdw {e g:Expr}{env:Env}(h:isStar e=false)(k:isStar g=false):starEach [e,g] env=[(false,eval e env),(false,eval g env)]:=by rw[zac h,zbS k]
def zeS (K:À)(H:Hp)(a:Addr)(xs:List V):Prop :=(∃ o,H a=some (.frz o (.lst xs)))\/∃ (o:Obj) (its:Array Â) (n:Nat),K.lookup a=some o/\o.cls=.type "list"/\o.dict=none/\o.data=.seq its n/\its.size<=sizeLine/\Vals xs its.toList
def zvq (K:À)(a:Addr)(xs:List V):Prop:=∃ (o:Obj) (its:Array Â) (n:Nat),K.lookup a=some o/\o.cls=.type "tuple"/\o.data=.seq its n/\its.size<=sizeLine/\Vals xs its.toList
def zeS.sq {K:À}(h:zeS K H a xs):SqL K H a xs:=h.imp (fun h=>.inr h) id
mutual
inductive Rel (K:À)(aD:List Addr)(H:Hp):D->V->Prop
 |non:Rel K aD H .non .non
 |bl (b:Bool):Rel K aD H (.bl b) (.bl b)
 |int (i:Int):Rel K aD H (.int i) (.int i)
 |str (x:Str):Rel K aD H (.str x) (.str x)
 |ty (n:String):Rel K aD H (.ty n) (.ty n)
 |tup {a:Addr} {vs:List V} {ds:List D}:H a=some (.tup vs)->zc K aD H ds vs->Rel K aD H (.tup ds) (.ref a)
 |rl {a:Addr} {vs:List V} {ds:List D}:zeS K H a vs->zc K aD H ds vs->Rel K aD H (.rl ds) (.ref a)
 |ref {n:Nat} {a:Addr}:aD[n]?=some a->Rel K aD H (.ref n) (.ref a)
 |exn {c:Str} {a C:Addr} {o:Obj} {u:HO}:H a=some (.frz o u)->o.cls=.ref C->PySem.W.nsIn K mainGlobals c=some (some (.ref C))->Rel K aD H (.exn c) (.ref a)
 |kt {a:Addr} {vs:List V} {ds:List D}:zvq K a vs->zc K aD H ds vs->Rel K aD H (.kt ds) (.ref a)
inductive zc (K:À)(aD:List Addr)(H:Hp):List D->List V->Prop
 |nil:zc K aD H [] []
 |cons {d:D} {v:V} {ds:List D} {vs:List V}:Rel K aD H d v->zc K aD H ds vs->zc K aD H (d::ds) (v::vs)
end
structure Wd (aD:List Addr)(H:Hp)(aD':List Addr)(H':Hp):Prop where
 pre:aD <+: aD'
 keep:∀ b o,b∉aD->H b=some o->H' b=some o
 tup:∀ b xs,H b=some (.tup xs)->H' b=some (.tup xs)
 frz:∀ b o u,H b=some (.frz o u)->H' b=some (.frz o u)
 new:∀ b,b∈aD'->b∉aD->H b=none
def Wd.refl {aD:List Addr}{H:Hp}:Wd aD H aD H:=⟨List.prefix_refl _,fun _ _ _ h=>h,fun _ _ h=>h,fun _ _ _ h=>h,fun _ h n=>absurd h n⟩
theorem Wd.trans (a:Wd aD H ad1 H1)(b:Wd ad1 H1 ad2 H2):Wd aD H ad2 H2 where
 pre:=a.pre.trans b.pre
 keep:=fun c o hc h=>b.keep c o (fun h1=>by rw[a.new c h1 hc]at h;cases h) (a.keep c o hc h)
 tup:=fun c xs h=>b.tup c xs (a.tup c xs h)
 frz:=fun c o u h=>b.frz c o u (a.frz c o u h)
 new:=fun c h2 hc=>by
  by_cases h1:c∈ad1
  ·exact a.new c h1 hc
  ·have n1:=b.new c h2 h1;cases e:H c with
   |none=>rfl
   |some o=>rw[a.keep c o hc e]at n1;cases n1
def zeu {α:Type}{l l':List α}(h:l <+: l'){n:Nat}{a:α}(e:l[n]?=some a):l'[n]?=some a:=by obtain⟨t,rfl⟩:=h;rw[List.getElem?_append_left (My.zam e)];exact e
structure Wr (aD:List Addr)(H:Hp)(aD':List Addr)(H':Hp):Prop where
 pre:aD <+: aD'
 tup:∀ b xs,H b=some (.tup xs)->H' b=some (.tup xs)
 frz:∀ b o u,H b=some (.frz o u)->H' b=some (.frz o u)
def Wd.wr (w:Wd aD H aD' H'):Wr aD H aD' H':=⟨w.pre,w.tup,w.frz⟩
def zeS.wr {K:À}(w:Wr aD H aD' H')(h:zeS K H a xs):zeS K H' a xs:=h.imp (by rintro⟨o,e⟩;exact⟨o,w.frz _ _ _ e⟩) id
mutual
theorem Rel.wr {K:À}{aD aD':List Addr}{H H':Hp}(w:Wr aD H aD' H'):∀ {d:D} {v:V},Rel K aD H d v->Rel K aD' H' d v
 |_,_,.non=>.non
 |_,_,.bl b=>.bl b
 |_,_,.int i=>.int i
 |_,_,.str x=>.str x
 |_,_,.ty n=>.ty n
 |_,_,.tup h r=>.tup (w.tup _ _ h) (zc.wr w r)
 |_,_,.rl h r=>.rl (h.wr w) (zc.wr w r)
 |_,_,.ref h=>.ref (zeu w.pre h)
 |_,_,.exn h e n=>.exn (w.frz _ _ _ h) e n
 |_,_,.kt h r=>.kt h (zc.wr w r)
theorem zc.wr {K:À}{aD aD':List Addr}{H H':Hp}(w:Wr aD H aD' H'):∀ {ds:List D} {vs:List V},zc K aD H ds vs->zc K aD' H' ds vs
 |_,_,.nil=>.nil
 |_,_,.cons r t=>.cons (Rel.wr w r) (zc.wr w t)
end
def Rel.wd {K:À}(r:Rel K aD H d v)(w:Wd aD H aD' H'):Rel K aD' H' d v:=Rel.wr w.wr r
def zc.wd {K:À}(r:zc K aD H ds vs)(w:Wd aD H aD' H'):zc K aD' H' ds vs:=zc.wr w.wr r
section
variable {K:À}{aD:List Addr}{H:Hp}
theorem zc.length:∀ {ds:List D} {vs:List V},zc K aD H ds vs->ds.length=vs.length
  |_,_,.nil=>rfl
  |_,_,.cons _ t=>congrArg (· + 1) (zc.length t)
theorem zc.get:∀ {ds:List D} {vs:List V} {i:Nat} {d:D},zc K aD H ds vs->ds[i]?=some d->∃ v,vs[i]?=some v/\Rel K aD H d v
 |_,_,_,_,.nil,e=>by simp at e
 |_,_,0,_,.cons r _,e=>by simp at e;subst e;exact⟨_,rfl,r⟩
 |_,_,i+1,d,.cons _ t,e=>by obtain⟨v,h1,h2⟩:=zc.get (i:=i) (d:=d) t (by simpa using e);exact⟨v,by simpa using h1,h2⟩
theorem zc.append:∀ {ds es:List D} {vs us:List V},zc K aD H ds vs->zc K aD H es us->zc K aD H (ds++es) (vs++us)
 |_,_,_,_,.nil,s=>s
 |_,_,_,_,.cons r t,s=>.cons r (zc.append t s)
theorem zc.take:∀ {ds:List D} {vs:List V} (n:Nat),zc K aD H ds vs->zc K aD H (ds.take n) (vs.take n)
 |_,_,0,_=>.nil
 |_,_,_+1,.nil=>.nil
 |_,_,n+1,.cons r t=>.cons r (zc.take n t)
theorem zc.drop:∀ {ds:List D} {vs:List V} (n:Nat),zc K aD H ds vs->zc K aD H (ds.drop n) (vs.drop n)
 |_,_,0,r=>r
 |_,_,_+1,.nil=>.nil
 |_,_,n+1,.cons _ t=>zc.drop n t
theorem zc.set (r:Rel K aD H d v):∀ {ds:List D} {vs:List V} (i:Nat),zc K aD H ds vs->zc K aD H (ds.set i d) (vs.set i v)
 |_,_,_,.nil=>.nil
 |_,_,0,.cons _ t=>.cons r t
 |_,_,i+1,.cons q t=>.cons q (zc.set r i t)
theorem zc.unsnoc:∀ {ds:List D} {d:D} {vs:List V},zc K aD H (ds++[d]) vs->∃ us u,vs=us++[u]/\zc K aD H ds us/\Rel K aD H d u
 |[],d,_,.cons r .nil=>⟨[],_,rfl,.nil,r⟩
 |e::ds,d,_,.cons r t=>by obtain⟨us,u,rfl,h1,h2⟩:=zc.unsnoc (ds:=ds) t;exact⟨_::us,u,rfl,.cons r h1,h2⟩
theorem zc.ints:∀ {ns:List Int} {vs:List V},zc K aD H (ns.map D.int) vs->vs=ns.map V.int
 |[],_,.nil=>rfl
 |n::ns,_,.cons r t=>by cases r;rw[zc.ints t];rfl
theorem zc.bls:∀ {ns:List Bool} {vs:List V},zc K aD H (ns.map D.bl) vs->vs=ns.map V.bl
 |[],_,.nil=>rfl
 |n::ns,_,.cons r t=>by cases r;rw[zc.bls t];rfl
theorem zc.mk_ints:∀ (ns:List Int),zc K aD H (ns.map D.int) (ns.map V.int)
 |[]=>.nil
 |n::ns=>.cons (.int n) (zc.mk_ints ns)
end
inductive z6 (K:À)(aD:List Addr)(H:Hp):List (Str×D)->List (Str×V)->Prop
 |nil:z6 K aD H [] []
 |cons {f:Str} {d:D} {v:V} {fs:List (Str×D)} {vs:List (Str×V)}:Rel K aD H d v->z6 K aD H fs vs->z6 K aD H ((f,d)::fs) ((f,v)::vs)
theorem z6.wr {K:À}(w:Wr aD H aD' H'):∀ {fs:List (Str×D)} {vs:List (Str×V)},z6 K aD H fs vs->z6 K aD' H' fs vs
 |_,_,.nil=>.nil
 |_,_,.cons r t=>.cons (Rel.wr w r) (z6.wr w t)
theorem z6.look {K:À}{aD:List Addr}{H:Hp}{f:Str}:∀ {fs:List (Str×D)} {vs:List (Str×V)} {d:D},z6 K aD H fs vs->fs.lookup f=some d->∃ v,vs.lookup f=some v/\Rel K aD H d v
 |_,_,d,.nil,e=>by simp at e
 |_,_,d,@z6.cons _ _ _ g x v fs vs r t,e=>by
  rw[List.lookup_cons]at e ⊢;cases h:f==g with
  |true=>rw[h]at e;cases e;exact⟨v,rfl,r⟩
  |false=>rw[h]at e;exact z6.look t e
theorem z6.put {K:À}{f:Str}(rd:Rel K aD H d v):∀ {fs:List (Str×D)} {vs:List (Str×V)},z6 K aD H fs vs->z6 K aD H (putD f d fs) (zaR f v vs)
 |_,_,.nil=>.cons rd .nil
 |_,_,@z6.cons _ _ _ g x u fs vs r t=>by
  show z6 K aD H (if g=f then(g,d)::fs else(g,x)::putD f d fs) (if g=f then(g,v)::vs else(g,u)::zaR f v vs);by_cases h:g=f
  ·rw[if_pos h,if_pos h];exact .cons rd t
  ·rw[if_neg h,if_neg h];exact .cons r (z6.put rd t)
theorem z6.length {K:À}{aD:List Addr}{H:Hp}:∀ {fs:List (Str×D)} {vs:List (Str×V)},z6 K aD H fs vs->fs.length=vs.length
  |_,_,.nil=>rfl
  |_,_,.cons _ t=>congrArg (· + 1) (z6.length t)
theorem zhe {f:Str}{d:D}{q:Str×D}:∀ {fs:List (Str×D)},q∈putD f d fs->q.1=f\/q∈fs
 |[],h=>by
  have:q=(f,d):=by simpa [putD]using h
  subst this;exact .inl rfl
 |(g,x)::fs,h=>by
  have h:q∈if g=f then(g,d)::fs else(g,x)::putD f d fs:=h
  by_cases e:g=f
  ·rw[if_pos e]at h;rcases List.mem_cons.mp h with rfl|h
   ·exact .inl e
   ·exact .inr (List.mem_cons_of_mem _ h)
  ·rw[if_neg e]at h;rcases List.mem_cons.mp h with rfl|h
   ·exact .inr (by simp)
   ·exact(zhe h).imp id (List.mem_cons_of_mem _)
theorem zg3 {f:Str}{d:D}:∀ {fs:List (Str×D)},fs.lookup f=some d->∃ q∈fs,q.1=f
 |[],e=>by simp at e
 |(g,x)::fs,e=>by
  rw[List.lookup_cons]at e;cases h:f==g with
  |true=>exact⟨(g,x),by simp,(eq_of_beq h).symm⟩
  |false =>rw[h]at e;obtain⟨q,hq,e'⟩:=zg3 e;exact⟨q,List.mem_cons_of_mem _ hq,e'⟩
inductive RelK (K:À)(aD:List Addr)(H:Hp):List (Str×D)->List (Key×V)->Prop
 |nil:RelK K aD H [] []
 |cons {x:Str} {d:D} {v:V} {fs:List (Str×D)} {vs:List (Key×V)}:Rel K aD H d v->RelK K aD H fs vs->RelK K aD H ((x,d)::fs) ((.inr x,v)::vs)
inductive zbv {κ:Type}(K:À)(aD:List Addr)(H:Hp):List (κ×D)->List (κ×V)->Prop
 |nil:zbv K aD H [] []
 |cons {x:κ} {d:D} {v:V} {fs:List (κ×D)} {vs:List (κ×V)}:Rel K aD H d v->zbv K aD H fs vs->zbv K aD H ((x,d)::fs) ((x,v)::vs)
theorem RelK.wr {K:À}(w:Wr aD H aD' H'):∀ {fs:List (Str×D)} {vs:List (Key×V)},RelK K aD H fs vs->RelK K aD' H' fs vs
 |_,_,.nil=>.nil
 |_,_,.cons r t=>.cons (Rel.wr w r) (RelK.wr w t)
theorem zbv.wr {κ:Type}{K:À}(w:Wr aD H aD' H'):∀ {fs:List (κ×D)} {vs:List (κ×V)},zbv K aD H fs vs->zbv K aD' H' fs vs
 |_,_,.nil=>.nil
 |_,_,.cons r t=>.cons (Rel.wr w r) (zbv.wr w t)
def za6 (K:À)(aD:List Addr)(H:Hp)(a:Addr):Cell->Prop
 |.lst ds=>∃ vs,H a=some (.lst vs)/\zc K aD H ds vs
 |.ins c fs=>∃ C dx vs,H a=some (.ins C dx vs)/\Cls K C/\PySem.W.nsIn K mainGlobals c=some (some (.ref C))/\z6 K aD H fs vs/\∀ q∈fs,zbf K C q.1
 |.dk kvs=>∃ vs,H a=some (.dK vs)/\RelK K aD H kvs vs
 |.dt kvs=>∃ vs,H a=some (.dT vs)/\zbv K aD H kvs vs
 | .tab x l c=>∃ ps cd,H a=some (.tbl ps)/\PySem.W.tabIn K x=some (cd,a)/\zuN H ps l c (x++".<locals>."++"<lambda>")
def zne (g:zmd H v q)(w:Wr aD H aD' H'):zmd H' v q :=by obtain⟨c,oc,vs,t,u,e,h,r⟩:=g;exact⟨c,oc,vs,t,u,e,w.frz _ _ _ h,r⟩
class Bs where
 aD:List Addr
 H:Hp
structure zm [B:Bs](K:À)(aD:List Addr)(H:Hp)(S:Sto):Prop where
 wd:Wd B.aD B.H aD H
 len:aD.length=S.length
 nd:aD.Nodup
 cell:∀ (n:Nat) (a:Addr) (c:Cell),aD[n]?=some a->S[n]?=some c->za6 K aD H a c
structure zT (K:À)(aD:List Addr)(H:Hp)(Z:Rho)(U:L2.St):Prop where
 len:Z.length=U.length
 val:∀ (i:Nat) (d:D),Z[i]?=some (some d)->∃ v,U[i]?=some (some v)/\Rel K aD H d v
theorem zT.wd {K:À}(h:zT K aD H Z U)(w:Wd aD H aD' H'):zT K aD' H' Z U :=⟨h.len,fun i d e=>by obtain⟨v,e',r⟩:=h.val i d e;exact⟨v,e',r.wd w⟩⟩
variable [B:Bs]
section
variable {K:À}{aD:List Addr}{H:Hp}{S:Sto}
def zm.get (st:zm K aD H S){n:Nat}{c:Cell}(h:S[n]?=some c):∃ a,aD[n]?=some a/\za6 K aD H a c:=by
 have hn:n<aD.length:=by rw[st.len];exact My.zam h
 exact⟨aD[n],List.getElem?_eq_getElem hn,st.cell n _ c (List.getElem?_eq_getElem hn) h⟩
theorem za6.some (h:za6 K aD H a c):∃ o,H a=some o:=by
 cases c with
 |lst ds=>obtain⟨vs,e,_⟩:=h;exact⟨_,e⟩
 |ins c fs=>obtain⟨C,dx,vs,e,_⟩:=h;exact⟨_,e⟩
 |dk kvs=>obtain⟨vs,e,_⟩:=h;exact⟨_,e⟩
 |dt kvs=>obtain⟨vs,e,_⟩:=h;exact⟨_,e⟩
 |tab x l c=>obtain⟨ps,cd,e,_⟩:=h;exact⟨_,e⟩
def zm.there (st:zm K aD H S){a:Addr}(h:a∈aD):∃ o,H a=some o:=by
 obtain⟨n,hn,e⟩:=List.mem_iff_getElem.mp h;have e':aD[n]?=some a:=by rw[List.getElem?_eq_getElem hn,e]
 have hs:n<S.length:=by rw[<- st.len];exact hn
 exact(st.cell n a S[n] e' (List.getElem?_eq_getElem hs)).some
def zm.fresh (st:zm K aD H S)(h:H l=none):l∉aD:=fun m=>by obtain⟨o,e⟩:=st.there m;rw[h]at e;cases e
theorem za6.wr (h:za6 K aD H a c)(w:Wr aD H aD' H')(same:H' a=H a):za6 K aD' H' a c:=by
 cases c with
 |lst ds=>obtain⟨vs,e,r⟩:=h;exact⟨vs,same.trans e,zc.wr w r⟩
 |ins c fs=>obtain⟨C,dx,vs,e,c1,c2,r,n⟩:=h;exact⟨C,dx,vs,same.trans e,c1,c2,z6.wr w r,n⟩
 |dk kvs=>obtain⟨vs,e,r⟩:=h;exact⟨vs,same.trans e,RelK.wr w r⟩
 |dt kvs=>obtain⟨vs,e,r⟩:=h;exact⟨vs,same.trans e,zbv.wr w r⟩
 |tab x l c=>obtain⟨ps,cd,e,t,g⟩:=h;exact⟨ps,cd,same.trans e,t,g.imp id fun zq14=>by obtain⟨c,e,g⟩:=zq14;exact⟨c,e,zne g w⟩⟩
def za6.wd (h:za6 K aD H a c)(w:Wd aD H aD' H')(same:H' a=H a):za6 K aD' H' a c:=h.wr w.wr same
def Wd.laid {o:HO}(h:H l=none):Wd aD H aD (upd H l o) :=⟨List.prefix_refl _,fun b u _ e=>zb2 h e,fun b u e=>zb2 h e,fun b u w e=>zb2 h e,fun _ m n=>absurd m n⟩
def zm.bfree (st:zm K aD H S)(h:H p=none):B.H p=none:=by
 cases e:B.H p with
 |none=>rfl
 |some o =>
  by_cases m:p∈B.aD
  ·obtain⟨u,hu⟩:=st.there (st.wd.pre.subset m);rw[h]at hu;cases hu
  ·rw[st.wd.keep p o m e]at h;cases h
theorem zm.laid (st:zm K aD H S){o:HO}(h:H l=none):zm K aD (upd H l o) S :=
 ⟨st.wd.trans (Wd.laid h),st.len,st.nd,fun n a c e1 e2=>(st.cell n a c e1 e2).wd (Wd.laid h) (by obtain⟨u,e⟩:=(st.cell n a c e1 e2).some;rw[zb2 h e,e])⟩
def Wd.newL (st:zm K aD H S){o:HO}(h:H l=none):Wd aD H (aD++[l]) (upd H l o) :=
 ⟨List.prefix_append _ _,fun b u _ e=>zb2 h e,fun b u e=>zb2 h e,fun b u w e=>zb2 h e,fun b m n=>by
  rcases List.mem_append.mp m with m|m
  ·exact absurd m n
  ·have:b=l:=by simpa using m
   subst this;exact h⟩
theorem zm.newL (st:zm K aD H S)(h:H l=none)(r:zc K aD H ds vs):zm K (aD++[l]) (upd H l (.lst vs)) (S++[.lst ds]) where
 wd:=st.wd.trans (Wd.newL st h)
 len:=by rw[List.length_append,List.length_append,st.len];rfl
 nd:=by
  rw[List.nodup_append];refine⟨st.nd,by simp,fun a ha b hb e=>?_⟩;have:b=l:=by simpa using hb
  subst this;subst e;exact st.fresh h ha
 cell:=fun n a c e1 e2=>by
  by_cases hn:n<aD.length
  ·rw[List.getElem?_append_left hn]at e1;rw[List.getElem?_append_left (by rw[<- st.len];exact hn)]at e2;have ok:=st.cell n a c e1 e2;obtain⟨u,e⟩:=ok.some;exact ok.wd (Wd.newL st h) (by rw[zb2 h e,e])
  ·have hn':aD.length<=n:=Nat.le_of_not_lt hn;rw[List.getElem?_append_right hn']at e1;rw[List.getElem?_append_right (by rw[<- st.len];exact hn'),<- st.len]at e2;cases hk:n-aD.length with
   |zero =>
    rw[hk]at e1 e2;have e1':l=a:=by simpa using e1
    have e2':Cell.lst ds=c:=by simpa using e2
    subst e1' e2';exact⟨vs,zaa,r.wd (Wd.newL st h)⟩
   |succ k=>rw[hk]at e1;simp at e1
def zm.newRef (st:zm K aD H S){l:Addr}{o:HO}:Rel K (aD++[l]) (upd H l o) (.ref S.length) (.ref l):=.ref (by rw[<- st.len,List.getElem?_append_right (Nat.le_refl _),Nat.sub_self];rfl)
def Wd.put {n:Nat}{a:Addr}{vs ws:List V}(e:aD[n]?=some a)(h:H a=some (.lst vs)):Wd aD H aD (upd H a (.lst ws)) :=
 ⟨List.prefix_refl _,fun b u hb q=>by
   have:b≠a:=fun z=>hb (by rw[z];exact List.mem_of_getElem? e)
   rw[zA this];exact q,
  fun b xs q=>by rw[zA (zcU q h (by intro z;cases z))];exact q,fun b o u q=>by rw[zA (zcU q h (by intro z;cases z))];exact q,fun _ m n=>absurd m n⟩
theorem zm.put (st:zm K aD H S){n:Nat}{a:Addr}{vs:List V}(e:aD[n]?=some a)(h:H a=some (.lst vs))(r:zc K aD H ds ws):zm K aD (upd H a (.lst ws)) (S.set n (.lst ds)) where
 wd:=st.wd.trans (Wd.put e h)
 len:=by rw[List.length_set];exact st.len
 nd:=st.nd
 cell:=fun m b c e1 e2=>by
  have w:=Wd.put (ws:=ws) e h;by_cases hm:m=n
  ·subst hm;rw[e]at e1;cases e1;rw[List.getElem?_set_self (by rw[<- st.len];exact My.zam e)]at e2;cases e2;exact⟨ws,zaa,r.wd w⟩
  ·rw[List.getElem?_set_ne (Ne.symm hm)]at e2
   have ne:b≠a:=fun z=>by subst z;have h1:=My.zam e1;have h2:=My.zam e;have q1:=(List.getElem?_eq_some_iff.mp e1).2;have q2:=(List.getElem?_eq_some_iff.mp e).2;exact hm ((List.getElem_inj st.nd).mp (q1.trans q2.symm))
   exact(st.cell m b c e1 e2).wd w (zA ne)
def zm.newI (st:zm K aD H S){C:Addr}(h:H x=none)(h2:H dx=none)(hne:dx≠x)(hc:Cls K C)(hn:PySem.W.nsIn K mainGlobals c=some (some (.ref C))) :
  Wd aD H (aD++[x]) (upd (upd H dx (.own x)) x (.ins C dx []))/\zm K (aD++[x]) (upd (upd H dx (.own x)) x (.ins C dx [])) (S++[.ins c []]):=by
 have st1:=st.laid (o:=.own x) h2;have hx:upd H dx (.own x) x=none:=by rw[zA (Ne.symm hne)];exact h
 have w1:Wd aD H aD (upd H dx (.own x)):=Wd.laid h2;have w2:Wd aD (upd H dx (.own x)) (aD++[x]) (upd (upd H dx (.own x)) x (.ins C dx [])):=Wd.newL st1 hx;refine⟨w1.trans w2,st.wd.trans (w1.trans w2),?_,?_,fun n a c' e1 e2=>?_⟩
 ·rw[List.length_append,List.length_append,st.len];rfl
 ·rw[List.nodup_append];refine⟨st.nd,by simp,fun a ha b hb e=>?_⟩;have:b=x:=by simpa using hb
  subst this;subst e;exact st.fresh h ha
 ·by_cases hn':n<aD.length
  ·rw[List.getElem?_append_left hn']at e1;rw[List.getElem?_append_left (by rw[<- st.len];exact hn')]at e2;have ok:=st1.cell n a c' e1 e2;obtain⟨u,e⟩:=ok.some;exact ok.wd w2 (by rw[zb2 hx e,e])
  ·have hn':aD.length<=n:=Nat.le_of_not_lt hn';rw[List.getElem?_append_right hn']at e1;rw[List.getElem?_append_right (by rw[<- st.len];exact hn'),<- st.len]at e2;cases hk:n-aD.length with
   |zero =>
    rw[hk]at e1 e2;have e1':x=a:=by simpa using e1
    have e2':Cell.ins c []=c':=by simpa using e2
    subst e1' e2';exact⟨C,dx,[],zaa,hc,hn,.nil,fun q hq=>by cases hq⟩
   |succ k=>rw[hk]at e1;simp at e1
def Wd.putI {n:Nat}{a C dx C' dx':Addr}{vs ws:List (Str×V)}(e:aD[n]?=some a)(h:H a=some (.ins C dx vs)):Wd aD H aD (upd H a (.ins C' dx' ws)) :=
 ⟨List.prefix_refl _,fun b u hb q=>by
   have:b≠a:=fun z=>hb (by rw[z];exact List.mem_of_getElem? e)
   rw[zA this];exact q,
  fun b xs q=>by rw[zA (zcU q h (by intro z;cases z))];exact q,fun b o u q=>by rw[zA (zcU q h (by intro z;cases z))];exact q,fun _ m n=>absurd m n⟩
theorem zm.putI (st:zm K aD H S){n:Nat}{a C dx:Addr}{vs:List (Str×V)}{fs:List (Str×D)}(e:aD[n]?=some a)(h:H a=some (.ins C dx vs))(hc:Cls K C)(hn:PySem.W.nsIn K mainGlobals c=some (some (.ref C)))(rf:z6 K aD H fs vs)(hna:∀ q∈fs,zbf K C q.1)(hf:zbf K C f)(r:Rel K aD H d v) :
  zm K aD (upd H a (.ins C dx (zaR f v vs))) (S.set n (.ins c (putD f d fs))) where
 wd:=st.wd.trans (Wd.putI e h)
 len:=by rw[List.length_set];exact st.len
 nd:=st.nd
 cell:=fun m b c' e1 e2=>by
  have w:Wd aD H aD (upd H a (.ins C dx (zaR f v vs))):=Wd.putI e h;by_cases hm:m=n
  ·subst hm;rw[e]at e1;cases e1;rw[List.getElem?_set_self (by rw[<- st.len];exact My.zam e)]at e2;cases e2;refine⟨C,dx,_,zaa,hc,hn,z6.wr w.wr (z6.put r rf),fun q hq=>?_⟩;rcases zhe hq with h1|h1
   ·rw[h1];exact hf
   ·exact hna q h1
  ·rw[List.getElem?_set_ne (Ne.symm hm)]at e2
   have ne:b≠a:=fun z=>by subst z;have q1:=(List.getElem?_eq_some_iff.mp e1).2;have q2:=(List.getElem?_eq_some_iff.mp e).2;exact hm ((List.getElem_inj st.nd).mp (q1.trans q2.symm))
   exact(st.cell m b c' e1 e2).wd w (zA ne)
def Wd.hid {o:HO}(w:Wd aD H aD' H')(hp:H p=none):Wd aD H aD' (upd H' p o) :=⟨w.pre,fun b u hb q=>by rw[zA (zaI q hp)];exact w.keep b u hb q,fun b u q=>by rw[zA (zaI q hp)];exact w.tup b u q,fun b u v q=>by rw[zA (zaI q hp)];exact w.frz b u v q,w.new⟩
def Wr.hid {vs ws:List V}(h:H p=some (.lst vs)):Wr aD H aD (upd H p (.lst ws)) :=⟨List.prefix_refl _,fun b xs q=>by rw[zA (zcU q h (by intro z;cases z))];exact q,fun b o u q=>by rw[zA (zcU q h (by intro z;cases z))];exact q⟩
theorem zm.hid (st:zm K aD H S){vs ws:List V}(h:H p=some (.lst vs))(hp:p∉aD)(hb:B.H p=none):zm K aD (upd H p (.lst ws)) S :=⟨st.wd.hid hb,st.len,st.nd,fun n a c e1 e2=>(st.cell n a c e1 e2).wr (Wr.hid h) (zA fun z=>hp (by rw[<- z];exact List.mem_of_getElem? e1))⟩
def Wd.add (w:Wd aD H aD' H')(hp:H p=none):Wd aD H (aD'++[p]) H' :=
 ⟨w.pre.trans (List.prefix_append _ _),w.keep,w.tup,w.frz,fun b m n=>by
  rcases List.mem_append.mp m with m|m
  ·exact w.new b m n
  ·have:b=p:=by simpa using m
   subst this;exact hp⟩
theorem zm.add (st:zm K aD H S){vs:List V}(h:H p=some (.lst vs))(hp:p∉aD)(r:zc K aD H ds vs)(hb:B.H p=none):zm K (aD++[p]) H (S++[.lst ds]) where
 wd:=st.wd.add hb
 len:=by rw[List.length_append,List.length_append,st.len];rfl
 nd:=by
  rw[List.nodup_append];refine⟨st.nd,by simp,fun a ha b hb e=>?_⟩;have:b=p:=by simpa using hb
  subst this;subst e;exact hp ha
 cell:=fun n a c e1 e2=>by
  have w:Wr aD H (aD++[p]) H:=⟨List.prefix_append _ _,fun _ _ q=>q,fun _ _ _ q=>q⟩
  by_cases hn:n<aD.length
  ·rw[List.getElem?_append_left hn]at e1;rw[List.getElem?_append_left (by rw[<- st.len];exact hn)]at e2;exact(st.cell n a c e1 e2).wr w rfl
  ·have hn':aD.length<=n:=Nat.le_of_not_lt hn;rw[List.getElem?_append_right hn']at e1;rw[List.getElem?_append_right (by rw[<- st.len];exact hn'),<- st.len]at e2;cases hk:n-aD.length with
   |zero =>
    rw[hk]at e1 e2;have e1':p=a:=by simpa using e1
    have e2':Cell.lst ds=c:=by simpa using e2
    subst e1' e2';exact⟨vs,h,zc.wr w r⟩
   |succ k=>rw[hk]at e1;simp at e1
theorem Lst.sq (st:zm K aD H S)(h:Lst S x xs)(r:Rel K aD H x v):∃ a vs,v=.ref a/\SqL K H a vs/\zc K aD H xs vs:=by
 rcases h with rfl|⟨n,rfl,h⟩
 ·cases r with
  |rl h r=>exact⟨_,_,rfl,h.sq,r⟩
 ·cases r with
  |ref e =>obtain⟨vs,e2,r⟩:=st.cell n _ _ e h;exact⟨_,vs,rfl,SqL.of e2,r⟩
theorem zdV.sq (st:zm K aD H S)(h:zdV S x xs)(r:Rel K aD H x v):∃ a vs,v=.ref a/\(SqL K H a vs\/SqT K H a vs)/\zc K aD H xs vs:=by
 rcases h with rfl|h
 ·cases r with
  |tup h r=>exact⟨_,_,rfl,.inr (SqT.of h),r⟩
 ·obtain⟨a,vs,e,s,r⟩:=Lst.sq st h r;exact⟨a,vs,e,.inl s,r⟩
end
omit B in
def el8 {a b c d:Type}{p1 p2 p3 p4:a->b->c->d->Prop}{R:Prop}(h:∃ (x:a) (y:b) (z:c) (w:d),p1 x y z w/\p2 x y z w/\p3 x y z w/\p4 x y z w)(f:∀ (x:a) (y:b) (z:c) (w:d),p1 x y z w->p2 x y z w->p3 x y z w->p4 x y z w->R):R :=Exists.elim h fun x h=>Exists.elim h fun y h=>Exists.elim h fun z h=>Exists.elim h fun w h=>f x y z w h.1 h.2.1 h.2.2.1 h.2.2.2
def KK (K:À)(aD:List Addr)(H:Hp)(Q0:DK)(Q:VK):Prop:=∀ d S' v H' aD',Q0 d S'->Wd aD H aD' H'->zm K aD' H' S'->Rel K aD' H' d v->Q v H'
def KK.wd {K:À}(k:KK K aD H Q0 Q)(w:Wd aD H aD' H'):KK K aD' H' Q0 Q:=fun d S' v H' aD' q w'=>k d S' v H' aD' q (w.trans w')
def up (K:À)(t:DE):TE:=fun U H Q=>∃ aD Z S Q0,zm K aD H S/\zT K aD H Z U/\t Z S Q0/\KK K aD H Q0 Q
def upT (K:À)(t:DT):TT:=fun U H Q=>∃ aD Z S Q0,zm K aD H S/\zT K aD H Z U/\t Z S Q0/\∀ b S' H' aD',Q0 b S'->Wd aD H aD' H'->zm K aD' H' S'->Q b H'
def upA (K:À)(t:DA):TA:=fun U H Q=>∃ aD Z S Q0,zm K aD H S/\zT K aD H Z U/\t Z S Q0/\∀ ds S' vs H' aD',Q0 ds S'->Wd aD H aD' H'->zm K aD' H' S'->zc K aD' H' ds vs->Q vs H'
def zm.base {K:À}(st:zm K aD H S):@zm ⟨aD,H⟩ K aD H S:=@zm.mk ⟨aD,H⟩ _ _ _ _ Wd.refl st.len st.nd st.cell
def zm.back {K:À}{aD':List Addr}{H':Hp}{S':Sto}(st:zm K aD H S)(st':@zm ⟨aD,H⟩ K aD' H' S'):zm K aD' H' S' :=⟨st.wd.trans (@zm.wd ⟨aD,H⟩ _ _ _ _ st'),@zm.len ⟨aD,H⟩ _ _ _ _ st',@zm.nd ⟨aD,H⟩ _ _ _ _ st',@zm.cell ⟨aD,H⟩ _ _ _ _ st'⟩
def KK.base {K:À}(st:zm K aD H S)(k:KK K aD H Q0 Q):@KK ⟨aD,H⟩ K aD H Q0 Q:=fun d S' v H' aD' q w st' r=>k d S' v H' aD' q w (st.back st') r
def upF (K:À)(f:DSp):Sp:=fun vs H Q _=>∃ aD S ds Q0,@zm ⟨aD,H⟩ K aD H S/\zc K aD H ds vs/\f ds S Q0/\@KK ⟨aD,H⟩ K aD H Q0 Q
structure zcf (K:À)(aD:List Addr)(H:Hp)(E0:zep)(E:Ends):Prop where
 nx:∀ Z S U H' aD',E0.nx Z S->Wd aD H aD' H'->zm K aD' H' S->zT K aD' H' Z U->E.nx U H'
 rt:KK K aD H E0.rt E.rt
 bk:∀ Z S U H' aD',E0.bk Z S->Wd aD H aD' H'->zm K aD' H' S->zT K aD' H' Z U->E.bk U H'
 ct:∀ Z S U H' aD',E0.ct Z S->Wd aD H aD' H'->zm K aD' H' S->zT K aD' H' Z U->E.ct U H'
theorem zcf.wd {K:À}{E0:zep}(k:zcf K aD H E0 E)(w:Wd aD H aD' H'):zcf K aD' H' E0 E :=⟨fun Z S U H' aD' q w'=>k.nx Z S U H' aD' q (w.trans w'),k.rt.wd w,fun Z S U H' aD' q w'=>k.bk Z S U H' aD' q (w.trans w'),fun Z S U H' aD' q w'=>k.ct Z S U H' aD' q (w.trans w')⟩
def upS (K:À)(t:DS):TS:=fun E U H=>∃ aD Z S E0,zm K aD H S/\zT K aD H Z U/\t E0 Z S/\zcf K aD H E0 E
@[irreducible] def PD (X:Cx)(e:Expr)(t:DE):Prop:=PE X e (up X.K t)
@[irreducible] def PTD (X:Cx)(e:Expr)(t:DT):Prop:=PT X e (upT X.K t)
@[irreducible] def PWD (X:Cx)(e:Expr)(t:DT):Prop:=PW X e (upT X.K t)
@[irreducible] def PAD (X:Cx)(es:List Expr)(t:DA):Prop:=PA X es (upA X.K t)
@[irreducible] def PSD (X:Cx)(st:Stmt)(t:DS):Prop:=PS X st (upS X.K t)
@[irreducible] def zbx (X:Cx)(st:List Stmt)(t:DS):Prop:=PSs X st (upS X.K t)
def zoX {e:Expr}{t':TE}(h:PE X e t)(m:∀ U H Q,t' U H Q->t U H Q):PE X e t':=fun pins s U H Q I q=>h pins s U H Q I (m U H Q q)
def zeA {e:Expr}{t':TT}(h:PT X e t)(m:∀ U H Q,t' U H Q->t U H Q):PT X e t':=fun pins s U H Q I q=>h pins s U H Q I (m U H Q q)
def zim {e:Expr}{t':TT}(h:PW X e t)(m:∀ U H Q,t' U H Q->t U H Q):PW X e t':=fun wh pins s U H Q I q=>h wh pins s U H Q I (m U H Q q)
def ziq {e:List Expr}{t':TA}(h:PA X e t)(m:∀ U H Q,t' U H Q->t U H Q):PA X e t':=fun pos pins s U H Q I q=>h pos pins s U H Q I (m U H Q q)
def zau {st:Stmt}{t':TS}(h:PS X st t)(m:∀ D U H,t' D U H->t D U H):PS X st t':=fun pins s U H D I q=>h pins s U H D I (m D U H q)
def zg0 {st:List Stmt}{t':TS}(h:PSs X st t)(m:∀ D U H,t' D U H->t D U H):PSs X st t':=fun pins s U H D I q=>h pins s U H D I (m D U H q)
section
variable {X:Cx}{a b c:Expr}{ta tb tc:DE}{pos:Pos}
def zad {e:Expr}{d:DE}(h:PE X e t)(m:∀ U H Q,up X.K d U H Q->t U H Q):PD X e d:=by with_unfolding_all exact(zoX h m)
def zrm {e:Expr}{i:Nat}(h:PE X e (zpP i)):PD X e (za1 i):=by with_unfolding_all exact(zad h fun U H Q zq15=>by obtain⟨aD,Z,S,Q0,st,rh,⟨d,e,q⟩,k⟩:=zq15;obtain⟨v,ev,r⟩:=rh.val i d e;exact⟨v,ev,k d S v H aD q Wd.refl st r⟩)
def zd0 {e:Expr}{v:V}{d:D}(h:PE X e (tC v))(r:∀ aD H,Rel X.K aD H d v):PD X e (dC d):=by with_unfolding_all exact(zad h fun U H Q hh=>el8 hh fun aD Z S Q0 st rh q k=>k d S v H aD q Wd.refl st (r _ _))
def zpq {i j}:PD X (.Constant (.int i) j pos) (dC (.int i)):=by with_unfolding_all exact(zd0 zhP fun _ _=>.int i)
def zsS {b j}:PD X (.Constant (.bool b) j pos) (dC (.bl b)):=by with_unfolding_all exact(zd0 ztz fun _ _=>.bl b)
def zqR {j}:PD X (.Constant .none j pos) (dC .non):=by with_unfolding_all exact(zd0 zqP fun _ _=>.non)
def zkd {x j}:PD X (.Constant (.str x) j pos) (dC (.str x)):=by with_unfolding_all exact(zd0 zp4 fun _ _=>.str x)
def zsZ {T:String}(hg:Gl X x)(hm:X.mg x=none)(hv:bootBuiltins x=some (.type T))(hn:autoParam (x≠"__name__") zG)(hd:autoParam ((x==("__debug__":Str))=false) zG):PD X (.Name x pos) (dC (.ty T)):=by with_unfolding_all exact(zd0 (zsn hg hm hv hn hd) fun _ _=>.ty T)
def zn2 {n:Int}(hg:Gl X x)(hm:∃ t,X.mg x=some (.int n t))(hd:autoParam ((x==("__debug__":Str))=false) zG):PD X (.Name x pos) (dC (.int n)):=by with_unfolding_all exact(zd0 (zoO hg hm hd) fun _ _=>.int n)
def zoL {z:Str}(hg:Gl X x)(hm:∃ t,X.mg x=some (.str z t))(hd:autoParam ((x==("__debug__":Str))=false) zG):PD X (.Name x pos) (dC (.str z)):=by with_unfolding_all exact(zd0 (by obtain⟨t,hm⟩:=hm;exact zit (v:=.str z) hg hm ⟨t,rfl⟩ hd) fun _ _=>.str z)
def zod {i j:Int}{m n:Nat}{p1 p2:Pos}(c:Int)(h:i ^ j.toNat=c)(h0:0<=j/\j<=1000000/\i.natAbs<2 ^ 64):PD X (.BinOp (.Constant (.int i) m p1) .Pow (.Constant (.int j) n p2) pos) (dC (.int c)):=by with_unfolding_all exact(zd0 (znE c h h0) fun _ _=>.int c)
def OD (K:À)(r':DR2)(r:R2):Prop:=∀ aD H S x y v u Q0 Q,zm K aD H S->Rel K aD H x v->Rel K aD H y u->r' x y S Q0->KK K aD H Q0 Q->r v u H Q
def zgS {K:À}(o:OD K r' r){U:L2.St}{H:Hp}{Q:VK}(h:up K (dOp r' ta tb) U H Q):tOp r (up K ta) (up K tb) U H Q:=by obtain⟨aD,Z,S,Q0,st,rh,q,k⟩:=h;refine⟨aD,Z,S,_,st,rh,q,fun x S1 v H1 ad1 q1 w1 st1 r1=>?_⟩;refine⟨ad1,Z,S1,_,st1,rh.wd w1,q1,fun y S2 u H2 ad2 q2 w2 st2 r2=>?_⟩;exact o ad2 H2 S2 x y v u Q0 Q st2 (r1.wd w2) r2 q2 (k.wd (w1.trans w2))
def zfL {op:Operator}(ho:OpR X (binaryOp op) r)(o:OD X.K r' r)(ha:PD X a ta)(hb:PD X b tb):PD X (.BinOp a op b pos) (dOp r' ta tb):=by with_unfolding_all exact(zad (zmB ho ha hb) fun _ _ _=>zgS o)
def zjK {K:À}{C C':Int->Int->Prop}{g:Int->Int->D}{g':Int->Int->V}(hc:∀ i j,C i j->C' i j)(hg:∀ aD H i j,Rel K aD H (g i j) (g' i j)):OD K (oI C g) (rI C' g'):=fun aD H S x y v u Q0 Q st rx ry zq16 k=>by obtain⟨i,j,ex,ey,c,q⟩:=zq16;subst ex ey;cases rx;cases ry;exact⟨i,j,rfl,rfl,hc i j c,k _ S _ H aD q Wd.refl st (hg aD H i j)⟩
def zfs {K:À}{g:Int->Int->D}{g':Int->Int->V}(hg:∀ aD H i j,Rel K aD H (g i j) (g' i j)):OD K (oI0 g) (rI0 g'):=fun aD H S x y v u Q0 Q st rx ry zq17 k=>by obtain⟨i,j,ex,ey,q⟩:=zq17;subst ex ey;cases rx;cases ry;exact⟨i,j,rfl,rfl,k _ S _ H aD q Wd.refl st (hg aD H i j)⟩
def zkB {i:Int}(h:i.natAbs<2 ^ 64):-(2 ^ 64)<i/\i<2 ^ 64:=⟨by lia,by lia⟩
def ztg (i j:Int):Prop:=zai i j
def zo0:OpR X (binaryOp .Mult) (rI ztg fun i j=>.int (i*j)):=opI fun i j _ _ _ _ _ hc q=>by
 rcases hc with h|h|h
 ·exact mul_int q (IntMulOk.of_bits (zfS h.1) (zfS h.2))
 ·exact mul_int q (zjD.ok (.inl (zkB h)))
 ·exact mul_int q (zjD.ok (.inr (zkB h)))
def zrL (ha:PD X a ta)(hb:PD X b tb):PD X (.BinOp a .Sub b pos) (dOp zap ta tb):=by with_unfolding_all exact(zfL zpa (zfs fun _ _ i j=>.int (i-j)) ha hb)
def zpX {z:Str}{n:Int}(hz:z.length<=1000)(h0:-1000<=n)(h1:n<=1000):MulOk z n:=by
 refine⟨?_,fun _ _=>?_,fun h _=>?_⟩
 ·rw[decide_eq_false (by lia),decide_eq_false (by lia)];rfl
 ·have:(1000:Int)<=(2 ^ 63-1)/n\/n<1:=by
   rcases Int.lt_or_le n 1 with g|g
   ·exact .inr g
   ·exact .inl ((Int.le_ediv_iff_mul_le (by lia)).mpr (by lia))
  lia
 ·have:z.length*n.toNat<=1000*1000:=Nat.mul_le_mul hz (by lia);have hs:z.length*n.toNat<=sizeLine:=Nat.le_trans this (by decide)
  first
   |exact decide_eq_false (by lia)
   |(unfold tooLong;exact decide_eq_false (by lia))
   |simp[tooLong];lia
def znH:OpR X (binaryOp .Mult) (fun x y H Q=>∃ z n,x=.str z/\y=.int n/\MulOk z n/\Q (.str (Txt.mul z n)) H):=by intro pins s U H x y v u Q I rx ry h;obtain⟨z,n,rfl,rfl,ok,q⟩:=h;obtain⟨t,rfl⟩:=rx;obtain⟨t',rfl⟩:=ry;exact SB.mul ok fun t' k=>⟨.str (Txt.mul z n),H,I.tok _,⟨_,rfl⟩,q⟩
omit B in
def ziJ (h:Hg i):Builtin.Int.intBits i<=2 ^ 20:=by unfold Hg at h;exact intBits_le h
omit B in
def zoQ (h:Builtin.Int.intBits i<=2 ^ 20):Hg i:=by unfold Hg;exact Nat.lt_of_lt_of_le (natAbs_lt_pow_bits i) (Nat.pow_le_pow_right (by decide) h)
def zoh:OpR X (binaryOp .Mult) (rI (fun i j=>Hg i/\Hg j) fun i j=>.int (i*j)):=opI fun i j _ _ _ _ _ hc q=>mul_int q (IntMulOk.of_bits (ziJ hc.1) (ziJ hc.2))
def zpQ (ha:PD X a ta)(hb:PD X b tb):PD X (.BinOp a .Mult b pos) (dOp zag ta tb):=by with_unfolding_all exact(zfL (zo0.or (znH.or zoh)) (fun aD H S x y v u Q0 Q st rx ry h k=>by
 rcases h with h|⟨z,n,rfl,rfl,hz,h0,h1,q⟩|h
 ·exact .inl (zjK (fun _ _ h=>h) (fun _ _ i j=>.int (i*j)) aD H S x y v u Q0 Q st rx ry h k)
 ·cases rx;cases ry;exact .inr (.inl ⟨z,n,rfl,rfl,zpX hz h0 h1,k _ S _ H aD q Wd.refl st (.str _)⟩)
 ·exact .inr (.inr (zjK (fun _ _ h=>h) (fun _ _ i j=>.int (i*j)) aD H S x y v u Q0 Q st rx ry h k))) ha hb)
def zr6 (ha:PD X a ta)(hb:PD X b tb):PD X (.BinOp a .FloorDiv b pos) (dOp oDiv ta tb):=by with_unfolding_all exact(zfL zk5 (zjK (fun _ _ h=>h) fun _ _ i j=>.int (i.fdiv j)) ha hb)
def zpM (ha:PD X a ta)(hb:PD X b tb):PD X (.BinOp a .Mod b pos) (dOp oMod ta tb):=by with_unfolding_all exact(zfL zn0 (zjK (fun _ _ h=>h) fun _ _ i j=>.int (i.fmod j)) ha hb)
def zcH {n:Nat}(h:n<=big):n<=sizeLine:=Nat.le_trans h (by decide)
def zj0 {n:Nat}(h:n<big):n<sizeLine:=Nat.lt_of_lt_of_le h (by decide)
def zfN {K:À}(st:zm K aD H S)(k:KK K aD H Q0 Q)(r:zc K aD H ds vs)(q:Q0 (.ref S.length) (S++[.lst ds]))(l:Addr)(h:H l=none):Q (.ref l) (upd H l (.lst vs)) :=k _ _ _ _ _ q (Wd.newL st h) (st.newL h r) st.newRef
def zhS {K:À}(st:zm K aD H S)(k:KK K aD H Q0 Q)(r:zc K aD H ds vs)(q:Q0 (.tup ds) S)(l:Addr)(h:H l=none):Q (.ref l) (upd H l (.tup vs)) :=k _ _ _ _ _ q (Wd.laid h) (st.laid h) (.tup zaa (r.wd (Wd.laid h)))
def zr9 (ha:PD X a ta)(hb:PD X b tb):PD X (.BinOp a .Add b pos) (dOp zJ ta tb):=by with_unfolding_all exact(zfL (zpK.or ((zml rfl).or ((zn9 rfl).or zjB))) (fun aD H S x y v u Q0 Q st rx ry h k=>by
  rcases h with⟨i,j,rfl,rfl,q⟩|⟨xs,ys,rfl,rfl,hz,q⟩|⟨xs,ys,hx,hy,hz,q⟩|⟨i,j,rfl,rfl,hz,q⟩
  ·cases rx;cases ry;exact .inl ⟨i,j,rfl,rfl,k _ S _ H aD q Wd.refl st (.int _)⟩
  ·cases rx with
   |tup h1 r1 =>
    cases ry with
    |tup h2 r2 =>
     have l1:=r1.length;have l2:=r2.length;refine .inr (.inl ⟨_,_,_,_,rfl,rfl,SqT.of h1,SqT.of h2,by rw[<- l1,<- l2];exact zcH hz,fun e=>?_,fun _ e=>?_,fun _ _ p hp=>zhS st k (r1.append r2) q p hp⟩)
     ·have e':xs=[]:=List.length_eq_zero_iff.mp (by rw[l1,e];rfl);subst e';exact k _ S _ H aD q Wd.refl st (.tup h2 r2)
     ·have e':ys=[]:=List.length_eq_zero_iff.mp (by rw[l2,e];rfl);subst e';rw[List.append_nil]at q;exact k _ S _ H aD q Wd.refl st (.tup h1 r1)
  ·obtain⟨a1,vs1,rfl,s1,r1⟩:=hx.sq st rx;obtain⟨a2,vs2,rfl,s2,r2⟩:=hy.sq st ry;exact .inr (.inr (.inl ⟨_,_,_,_,rfl,rfl,s1,s2,by rw[<- r1.length,<- r2.length];exact zcH hz,fun p hp=>zfN st k (r1.append r2) q p hp⟩))
  ·cases rx;cases ry;exact .inr (.inr (.inr ⟨i,j,rfl,rfl,zcH hz,k _ S _ H aD q Wd.refl st (.str _)⟩))) ha hb)
def zqM (ha:PD X a ta):PD X (.UnaryOp .USub a pos) (dUn zaj ta):=by with_unfolding_all exact(zad (ztf zr8 ha) fun U H Q hh=>el8 hh fun aD Z S Q0 st rh q k=>by refine⟨aD,Z,S,_,st,rh,q,fun x S1 v H1 ad1 q1 w1 st1 r1=>?_⟩;obtain⟨i,rfl,q1⟩:=q1;cases r1;exact⟨i,rfl,k _ _ _ _ _ q1 w1 st1 (.int _)⟩)
def OC (X:Cx)(op:CmpOp)(r':DR2):Prop:=∃ r,OpR X (compareOp op) r/\OD X.K r' r
def zsA:OC X .Lt oLt:=⟨_,ztu,zfs fun _ _ _ _=>.bl _⟩
def ztV:OC X .LtE oLe:=⟨_,ztU,zfs fun _ _ _ _=>.bl _⟩
def zsR:OC X .Gt oGt:=⟨_,zsi,zfs fun _ _ _ _=>.bl _⟩
def zsY:OC X .GtE oGe:=⟨_,ztl,zfs fun _ _ _ _=>.bl _⟩
mutual
def pyD:D->PyData
 |.non=>.none
 |.bl b=>.bool b
 |.int i=>.int i
 |.str x=>.str x
 |.tup xs=>.tuple (zZ xs)
 |.ref _=>.none
 |.ty _=>.none
 |.rl _=>.none
 |.exn _=>.none
 |.kt _=>.none
def zZ:List D->List PyData
 |[]=>[]
 |x::xs=>pyD x::zZ xs
end
section
variable {pins:List (Addr×Obj)}{U:L2.St}{H:Hp}{s:Á}{aD:List Addr}
def zcL (I:Inv X pins U H s)(k:Nat)(h1:∀ d v u,fl k d=true->Rel X.K aD H d v->RelV v u->∃ as,Reads s.heap u (pyD d) as):∀ ds vs us,ds.all (fl k)=true->zc X.K aD H ds vs->Vals vs us->∃ as,ReadsAll s.heap us (zZ ds) as:=by
 intro ds
 induction ds with
 |nil=>intro vs us _ r rv;cases r;cases rv;exact⟨_,.nil⟩
 |cons d ds ih =>
  intro vs us hf r rv;rw[List.all_cons,Bool.and_eq_true]at hf;cases r with
  |cons r t =>
   cases rv with
   |cons q qt =>obtain⟨as,ra⟩:=h1 d _ _ hf.1 r q;obtain⟨bs,rb⟩:=ih _ _ hf.2 t qt;exact⟨_,.cons ra rb⟩
def za3 (I:Inv X pins U H s):∀ (k:Nat) (d:D) (v:V) (u:Â),fl k d=true->Rel X.K aD H d v->RelV v u->∃ as,Reads s.heap u (pyD d) as:=by
 intro k
 induction k with
 |zero =>
  intro d v u hf r q;cases r with
  |non=>cases q;exact⟨_,.none⟩
  |bl b=>cases q;exact⟨_,.bool b⟩
  |int i=>obtain⟨t,rfl⟩:=q;exact⟨_,.int i t⟩
  |str x=>obtain⟨t,rfl⟩:=q;exact⟨_,.str x t⟩
  |ty n=>cases hf
  |tup h r=>cases hf
  |rl h r=>cases hf
  |kt h r=>cases hf
  |ref h=>cases hf
  |exn _ _ _=>cases hf
 |succ k ih =>
  intro d v u hf r q;cases r with
  |non=>cases q;exact⟨_,.none⟩
  |bl b=>cases q;exact⟨_,.bool b⟩
  |int i=>obtain⟨t,rfl⟩:=q;exact⟨_,.int i t⟩
  |str x=>obtain⟨t,rfl⟩:=q;exact⟨_,.str x t⟩
  |ty n=>cases hf
  |tup h r =>cases q;obtain⟨its,rv,ht,hz⟩:=I.tuple (SqT.of h);obtain⟨o,ho,hc,n,hd⟩:=ht;obtain⟨as,ra⟩:=zcL I k ih _ _ _ hf r rv;exact⟨_,.tuple ho hc hd (by simpa using ra)⟩
  |rl h r=>cases hf
  |kt h r=>cases hf
  |ref h=>cases hf
  |exn _ _ _=>cases hf
end
def zcB:∀ (k:Nat) (d:D),fl k d=true->(pyD d).canLay0=true/\(pyD d).depth<=k:=by
 have all:∀ k,(∀ d,fl k d=true->(pyD d).canLay0=true/\(pyD d).depth<=k)->∀ ds:List D,ds.all (fl k)=true->PyData.canLayAll0 (zZ ds)=true/\PyData.depthAll (zZ ds)<=k:=by
  intro k h ds
  induction ds with
  |nil=>intro _;exact⟨rfl,Nat.zero_le _⟩
  |cons d ds ih =>
   intro hf;rw[List.all_cons,Bool.and_eq_true]at hf;obtain⟨a1,a2⟩:=h d hf.1;obtain⟨b1,b2⟩:=ih hf.2;refine⟨?_,?_⟩
   ·show(PyData.canLay0 (pyD d)&&PyData.canLayAll0 (zZ ds))=true;rw[a1,b1];rfl
   ·show max (PyData.depth (pyD d)) (PyData.depthAll (zZ ds))<=k;exact Nat.max_le.mpr ⟨a2,b2⟩
 intro k
 induction k with
 |zero =>
  intro d hf;cases d with
  |non=>exact⟨rfl,Nat.zero_le _⟩
  |bl b=>exact⟨rfl,Nat.zero_le _⟩
  |int i=>exact⟨rfl,Nat.zero_le _⟩
  |str x=>exact⟨hf,Nat.zero_le _⟩
  |tup xs=>cases hf
  |ref n=>cases hf
  |exn _=>cases hf
  |ty n=>cases hf
  |rl xs=>cases hf
  |kt xs=>cases hf
 |succ k ih =>
  intro d hf;cases d with
  |non=>exact⟨rfl,Nat.zero_le _⟩
  |bl b=>exact⟨rfl,Nat.zero_le _⟩
  |int i=>exact⟨rfl,Nat.zero_le _⟩
  |str x=>exact⟨hf,Nat.zero_le _⟩
  |tup xs =>obtain⟨h1,h2⟩:=all k ih xs hf;refine⟨h1,?_⟩;show PyData.depthAll (zZ xs)+1<=k+1;lia
  |ref n=>cases hf
  |exn _=>cases hf
  |ty n=>cases hf
  |rl xs=>cases hf
  |kt xs=>cases hf
def zb3 (k:Nat):∀ ds:List D,ds.all (fl k)=true->PyData.canLayAll0 (zZ ds)=true/\PyData.depthAll (zZ ds)<=k:=by
 intro ds
 induction ds with
 |nil=>intro _;exact⟨rfl,Nat.zero_le _⟩
 |cons d ds ih =>
  intro hf;rw[List.all_cons,Bool.and_eq_true]at hf;obtain⟨a1,a2⟩:=zcB k d hf.1;obtain⟨b1,b2⟩:=ih hf.2;refine⟨?_,?_⟩
  ·show(PyData.canLay0 (pyD d)&&PyData.canLayAll0 (zZ ds))=true;rw[a1,b1];rfl
  ·show max (PyData.depth (pyD d)) (PyData.depthAll (zZ ds))<=k;exact Nat.max_le.mpr ⟨a2,b2⟩
mutual
theorem zfC:∀ (k:Nat) (x y:D),fl k x=true->fl k y=true->PyData.eqv (pyD x) (pyD y)=eqv x y
  |k,.non,y,_,hy=>by cases y<;>first|rfl|(cases k<;>cases hy)
  |k,.bl a,y,_,hy=>by cases y<;>first|rfl|(cases k<;>cases hy)
  |k,.int i,y,_,hy=>by
    cases y with
    |int j=>show(i==j)=decide (i=j);rw[Bool.beq_eq_decide_eq]
    |ref n=>cases k<;>cases hy
    |exn n=>cases k<;>cases hy
    |ty n=>cases k<;>cases hy
    |rl n=>cases k<;>cases hy
    |kt n=>cases k<;>cases hy
    |_=>rfl
  |k,.str a,y,_,hy=>by cases y<;>first|rfl|(cases k<;>cases hy)
  |0,.tup xs,y,hx,_=>by cases hx
  |k+1,.tup xs,y,hx,hy=>by
    cases y with
    |tup ys=>exact zeg k xs ys hx hy
    |ref n=>cases hy
    |ty n=>cases hy
    |rl n=>cases hy
    |kt n=>cases hy
    |_=>rfl
  |k,.ref n,y,hx,_=>by cases k<;>cases hx
  |k,.ty n,y,hx,_=>by cases k<;>cases hx
  |k,.rl n,y,hx,_=>by cases k<;>cases hx
  |k,.kt n,y,hx,_=>by cases k<;>cases hx
  |k,.exn n,y,hx,_=>by cases k<;>cases hx
theorem zeg:∀ (k:Nat) (xs ys:List D),xs.all (fl k)=true->ys.all (fl k)=true->PyData.eqvAll (zZ xs) (zZ ys)=eqvAll xs ys
  |k,[],[],_,_=>rfl
  |k,[],y::ys,_,_=>rfl
  |k,x::xs,[],_,_=>rfl
  |k,x::xs,y::ys,hx,hy=>by rw[List.all_cons,Bool.and_eq_true]at hx hy;show(PyData.eqv (pyD x) (pyD y)&&PyData.eqvAll (zZ xs) (zZ ys))=(eqv x y&&eqvAll xs ys);rw[zfC k x y hx.1 hy.1,zeg k xs ys hx.2 hy.2]
end
def zp0 (X:Cx)(g:Bool->Bool):R2:=fun x y H Q=>∃ aD S dx dy b,zm X.K aD H S/\Rel X.K aD H dx x/\Rel X.K aD H dy y/\EqD S dx dy b/\Q (.bl (g b)) H
def zgi {pins:List (Addr×Obj)}{U:L2.St}{H:Hp}{s:Á}{aD:List Addr}{S:Sto}{dx dy:D}{x y:V}{v u:Â}{b:Bool}(I:Inv X pins U H s)(st:zm X.K aD H S)(rx:Rel X.K aD H dx x)(ry:Rel X.K aD H dy y)(qx:RelV x v)(qy:RelV y u)(h:EqD S dx dy b) :
  ∃ px py as bs,Reads s.heap v px as/\Reads s.heap u py bs/\px.canLay0=true/\py.canLay0=true/\min px.depth py.depth<=60/\PyData.eqv px py=b:=by
 rcases h with⟨fx,fy,rfl⟩|⟨xs,ys,hx,hy,fx,fy,rfl⟩|h
 ·obtain⟨as,ra⟩:=za3 I 20 dx x v fx rx qx;obtain⟨bs,rb⟩:=za3 I 20 dy y u fy ry qy;obtain⟨c1,d1⟩:=zcB 20 dx fx;obtain⟨c2,d2⟩:=zcB 20 dy fy;exact⟨_,_,as,bs,ra,rb,c1,c2,by lia,zfC 20 dx dy fx fy⟩
 ·obtain⟨a1,vs1,rfl,s1,r1⟩:=hx.sq st rx;obtain⟨a2,vs2,rfl,s2,r2⟩:=hy.sq st ry;cases qx;cases qy;obtain⟨its,rv,ht,hz⟩:=I.list s1;obtain⟨its2,rv2,ht2,hz2⟩:=I.list s2;obtain⟨o,ho,hc,n,hd⟩:=ht.isList;obtain⟨o2,ho2,hc2,n2,hd2⟩:=ht2.isList;obtain⟨as,ra⟩:=zcL I 20 (za3 I 20) _ _ _ fx r1 rv;obtain⟨bs,rb⟩:=zcL I 20 (za3 I 20) _ _ _ fy r2 rv2;obtain⟨c1,d1⟩:=zb3 20 xs fx;obtain⟨c2,d2⟩:=zb3 20 ys fy;refine⟨.list (zZ xs),.list (zZ ys),_,_,.list ho hc hd (by simpa using ra),.list ho2 hc2 hd2 (by simpa using rb),c1,c2,?_,zeg 20 xs ys fx fy⟩;show min (PyData.depthAll (zZ xs)+1) (PyData.depthAll (zZ ys)+1)<=60;lia
 ·exact h.elim
def zsl (hr:zP k X.A):OC X .Eq oEq:=⟨zp0 X id,by
  rintro pins s U H x y v u Q I qx qy ⟨aD,S,dx,dy,b,st,rx,ry,h,q⟩;obtain⟨px,py,as,bs,ra,rb,c1,c2,hd,e⟩:=zgi I st rx ry qx qy h;have hu:=hr.units;exact PySem.SeqAt.rcAt_reads ra rb c1 c2 (by lia) X.prog X.w X.xe _ ⟨.bl _,H,I,by rw[e];rfl,q⟩,
 by rintro aD H S x y v u Q0 Q st rx ry ⟨b,h,q⟩ k;exact⟨aD,S,x,y,b,st,rx,ry,h,k _ S _ H aD q Wd.refl st (.bl _)⟩⟩
def ztQ (hr:zP k X.A):OC X .NotEq oNe:=⟨zp0 X (!·),by
  rintro pins s U H x y v u Q I qx qy ⟨aD,S,dx,dy,b,st,rx,ry,h,q⟩;obtain⟨px,py,as,bs,ra,rb,c1,c2,hd,e⟩:=zgi I st rx ry qx qy h;have hu:=hr.units;exact PySem.SeqAt.rcNeAt_reads ra rb c1 c2 (by lia) X.prog X.w X.xe _ ⟨.bl _,H,I,by rw[e];rfl,q⟩,
 by rintro aD H S x y v u Q0 Q st rx ry ⟨b,h,q⟩ k;exact⟨aD,S,x,y,b,st,rx,ry,h,k _ S _ H aD q Wd.refl st (.bl _)⟩⟩
def zgv {K:À}(r:Rel K aD H d v):decide (v=.non)=zgQ d:=by cases r<;>rfl
def zry:OpR X (compareOp .Is) (rB0 fun i j=>.bl (i==j)):=fun pins s U H x y v u Q I rx ry zq22=>by obtain⟨i,j,ex,ey,q⟩:=zq22;subst ex ey;cases rx;cases ry;exact is_bool ⟨.bl _,H,I,rfl,q⟩
def znx:OpR X (compareOp .IsNot) (rB0 fun i j=>.bl (!(i==j))):=fun pins s U H x y v u Q I rx ry zq23=>by obtain⟨i,j,ex,ey,q⟩:=zq23;subst ex ey;cases rx;cases ry;exact isnot_bool ⟨.bl _,H,I,rfl,q⟩
def zt4:OC X .Is oIs:=⟨_,zsK.or zry,fun aD H S x y v u Q0 Q st rx ry h k=>by
 rcases h with⟨rfl,q⟩|⟨a,b,rfl,rfl,q⟩
 ·cases ry;exact .inl ⟨rfl,by rw[zgv rx];exact k _ S _ H aD q Wd.refl st (.bl _)⟩
 ·cases rx;cases ry;exact .inr ⟨a,b,rfl,rfl,k _ S _ H aD q Wd.refl st (.bl _)⟩⟩
def zrO:OC X .IsNot zgZ:=⟨_,zrJ.or znx,fun aD H S x y v u Q0 Q st rx ry h k=>by
 rcases h with⟨rfl,q⟩|⟨a,b,rfl,rfl,q⟩
 ·cases ry;exact .inl ⟨rfl,by rw[zgv rx];exact k _ S _ H aD q Wd.refl st (.bl _)⟩
 ·cases rx;cases ry;exact .inr ⟨a,b,rfl,rfl,k _ S _ H aD q Wd.refl st (.bl _)⟩⟩
def zg4 {K:À}(o1:OD K r1' r1)(o2:OD K r2' r2){U:L2.St}{H:Hp}{Q:VK}(h:up K (zfF r1' r2' ta tb tc) U H Q):zhj r1 r2 (up K ta) (up K tb) (up K tc) U H Q:=by
 obtain⟨aD,Z,S,Q0,st,rh,q,k⟩:=h;refine⟨aD,Z,S,_,st,rh,q,fun x S1 v H1 ad1 q1 w1 st1 rx=>?_⟩;refine⟨ad1,Z,S1,_,st1,rh.wd w1,q1,fun y S2 u H2 ad2 q2 w2 st2 ry=>?_⟩;refine o1 ad2 H2 S2 x y v u _ _ st2 (rx.wd w2) ry q2 fun z S3 z' H3 ad3 ⟨c,e,q3⟩ w3 st3 rz=>?_
 subst e;cases rz;refine⟨c,rfl,?_⟩;cases c with
 |true =>rw[if_pos rfl]at q3 ⊢;refine⟨ad3,Z,S3,_,st3,rh.wd ((w1.trans w2).trans w3),q3,fun z S4 z' H4 ad4 q4 w4 st4 rz=>?_⟩;exact o2 ad4 H4 S4 y z u z' Q0 Q st4 (ry.wd (w3.trans w4)) rz q4 (k.wd (((w1.trans w2).trans w3).trans w4))
 |false =>rw[if_neg Bool.false_ne_true]at q3 ⊢;exact k _ S3 _ H3 ad3 q3 ((w1.trans w2).trans w3) st3 (.bl _)
def zlu (o1:OC X op r1)(o2:OC X op' r2)(ha:PD X a ta)(hb:PD X b tb)(hc:PD X c tc)(hm:autoParam (lastMarks [op,op'] [b,c]=false) zer):PD X (.Compare a [op,op'] [b,c] pos) (zfF r1 r2 ta tb tc):=by
 with_unfolding_all
  obtain⟨s1,h1,d1⟩:=o1;obtain⟨s2,h2,d2⟩:=o2;exact zad (zk4 h1 h2 ha hb hc hm) fun _ _ _=>zg4 d1 d2
def zoj {e:Expr}(h:PD X e t)(he:autoParam (∀ whole,isTrue e X.env whole=(do let v <- whole;standAt e.pos;holding [v] (truthy v))) zeB):PTD X e (dT t):=by with_unfolding_all exact(zeA (zqd h he) fun U H Q hh=>el8 hh fun aD Z S Q0 st rh q k =>
 ⟨aD,Z,S,_,st,rh,q,by rintro d S' v H' aD' ⟨b,e,q'⟩ w st' r;subst e;cases r;exact⟨b,rfl,k b S' H' aD' q' w st'⟩⟩)
def zj7 (o1:OC X op r1)(o2:OC X op' r2)(ha:PD X a ta)(hb:PD X b tb)(hc:PD X c tc)(hm:autoParam (lastMarks [op,op'] [b,c]=false) zer):PTD X (.Compare a [op,op'] [b,c] pos) (dT (zfF r1 r2 ta tb tc)):=by
 with_unfolding_all
  obtain⟨s1,h1,d1⟩:=o1;obtain⟨s2,h2,d2⟩:=o2;refine zeA (zlm h1 h2 ha hb hc hm) fun U H Q hh=>el8 hh fun aD Z S Q0 st rh q k=>?_
  refine zg4 (Q:=fun x H'=>∃ k,x=.bl k/\Q k H') d1 d2 ⟨aD,Z,S,_,st,rh,q,fun d S' v H' aD' ⟨b,e,q'⟩ w st' r=>?_⟩;subst e;cases r;exact⟨b,rfl,k b S' H' aD' q' w st'⟩
variable {tA tB':DT}{rest:List Expr}
def zo6 (h:PTD X a tA):PTD X (.UnaryOp .Not a pos) (zbe tA):=by with_unfolding_all exact(zeA (zro h) fun U H Q hh=>el8 hh fun aD Z S Q0 st rh q k=>⟨aD,Z,S,_,st,rh,q,fun b S' H' aD' q' w st'=>k _ S' H' aD' q' w st'⟩)
theorem zpI {e:Expr}(h:PWD X e t):PTD X e t:=by with_unfolding_all exact(h _)
def zms (ha:PTD X a tA):PWD X (.BoolOp .And [a] pos) tA:=by with_unfolding_all exact(znk ha)
def zoF (ha:PTD X a tA):PWD X (.BoolOp .Or [a] pos) tA:=by with_unfolding_all exact(zrl ha)
def znq (ha:PTD X a tA)(hb:PWD X (.BoolOp .And (b::rest) pos) tB'):PWD X (.BoolOp .And (a::b::rest) pos) (zf2 tA tB'):=by with_unfolding_all exact(zim (zpH ha hb) fun U H Q hh=>el8 hh fun aD Z S Q0 st rh q k =>
 ⟨aD,Z,S,_,st,rh,q,fun b S' H' aD' q' w st'=>by
  cases b with
  |true=>rw[if_pos rfl]at q' ⊢;exact⟨aD',Z,S',Q0,st',rh.wd w,q',fun b S' H' aD' q w'=>k b S' H' aD' q (w.trans w')⟩
  |false=>rw[if_neg Bool.false_ne_true]at q' ⊢;exact k _ S' H' aD' q' w st'⟩)
def zpJ (ha:PTD X a tA)(hb:PWD X (.BoolOp .Or (b::rest) pos) tB'):PWD X (.BoolOp .Or (a::b::rest) pos) (dOr tA tB'):=by with_unfolding_all exact(zim (zsj ha hb) fun U H Q hh=>el8 hh fun aD Z S Q0 st rh q k =>
 ⟨aD,Z,S,_,st,rh,q,fun b S' H' aD' q' w st'=>by
  cases b with
  |false=>rw[if_neg Bool.false_ne_true]at q' ⊢;exact⟨aD',Z,S',Q0,st',rh.wd w,q',fun b S' H' aD' q w'=>k b S' H' aD' q (w.trans w')⟩
  |true=>rw[if_pos rfl]at q' ⊢;exact k _ S' H' aD' q' w st'⟩)
def zrR {op}(h:PD X a t):PD X (.BoolOp op [a] pos) t:=by with_unfolding_all exact(zo9 h)
def zog (ha:PD X a ta)(hb:PD X (.BoolOp .And (b::rest) pos) tb):PD X (.BoolOp .And (a::b::rest) pos) (zbD ta tb):=by with_unfolding_all exact(zad (zqn ha hb) fun U H Q hh=>el8 hh fun aD Z S Q0 st rh q k =>
 ⟨aD,Z,S,_,st,rh,q,by
  rintro d S' v H' aD' ⟨c,e,q'⟩ w st' r;subst e;cases r;refine⟨c,rfl,?_⟩;cases c with
  |true=>rw[if_pos rfl]at q' ⊢;exact⟨aD',Z,S',Q0,st',rh.wd w,q',k.wd w⟩
  |false=>rw[if_neg Bool.false_ne_true]at q' ⊢;exact k _ S' _ H' aD' q' w st' (.bl _)⟩)
def zpR (ha:PD X a ta)(hb:PD X (.BoolOp .Or (b::rest) pos) tb):PD X (.BoolOp .Or (a::b::rest) pos) (zpc ta tb):=by with_unfolding_all exact(zad (zsH ha hb) fun U H Q hh=>el8 hh fun aD Z S Q0 st rh q k =>
 ⟨aD,Z,S,_,st,rh,q,by
  rintro d S' v H' aD' ⟨c,e,q'⟩ w st' r;subst e;cases r;refine⟨c,rfl,?_⟩;cases c with
  |false=>rw[if_neg Bool.false_ne_true]at q' ⊢;exact⟨aD',Z,S',Q0,st',rh.wd w,q',k.wd w⟩
  |true=>rw[if_pos rfl]at q' ⊢;exact k _ S' _ H' aD' q' w st' (.bl _)⟩)
def znG (ha:PD X a ta):PD X (.UnaryOp .Not a pos) (zdn ta):=by with_unfolding_all exact(zad (zqc ha) fun U H Q hh=>el8 hh fun aD Z S Q0 st rh q k =>
 ⟨aD,Z,S,_,st,rh,q,by rintro d S' v H' aD' ⟨c,e,q'⟩ w st' r;subst e;cases r;exact⟨c,rfl,k _ S' _ H' aD' q' w st' (.bl _)⟩⟩)
def zpj (hc:PTD X c tA)(ha:PD X a ta)(hb:PD X b tb):PD X (.IfExp c a b pos) (zjm tA ta tb):=by with_unfolding_all exact(zad (zlT hc ha hb) fun U H Q hh=>el8 hh fun aD Z S Q0 st rh q k =>
 ⟨aD,Z,S,_,st,rh,q,fun b S' H' aD' q' w st'=>by
  cases b with
  |true=>rw[if_pos rfl]at q' ⊢;exact⟨aD',Z,S',Q0,st',rh.wd w,q',k.wd w⟩
  |false=>rw[if_neg Bool.false_ne_true]at q' ⊢;exact⟨aD',Z,S',Q0,st',rh.wd w,q',k.wd w⟩⟩)
end
section
variable {X:Cx}{a b e:Expr}{es:List Expr}{ta tb te:DE}{t:DA}{pos:Pos}
def zkw:PAD X [] zf:=by with_unfolding_all exact(ziq zpE fun U H Q hh=>el8 hh fun aD Z S Q0 st rh q k=>k [] S [] H aD q Wd.refl st .nil)
def ziu (ha:PD X e te)(hr:PAD X es t)(hs:autoParam (starEach (e::es) X.env=(false,eval e X.env)::starEach es X.env) zdu):PAD X (e::es) (za te t):=by with_unfolding_all exact(ziq (zop ha hr hs) fun U H Q hh=>el8 hh fun aD Z S Q0 st rh q k =>⟨aD,Z,S,_,st,rh,q,fun d S1 v H1 ad1 q1 w1 st1 r1=>⟨ad1,Z,S1,_,st1,rh.wd w1,q1,fun ds S2 vs H2 ad2 q2 w2 st2 r2=>k _ S2 _ H2 ad2 q2 (w1.trans w2) st2 (.cons (r1.wd w2) r2)⟩⟩)
def zpZ {x1}(h:PAD X es t):PD X (.Tuple es x1 pos) (dTup t):=by with_unfolding_all exact(zad (zqV h) fun U H Q hh=>el8 hh fun aD Z S Q0 st rh q k =>⟨aD,Z,S,_,st,rh,q,by rintro ds S1 vs H1 ad1 ⟨hz,q1⟩ w1 st1 r1;exact⟨by rw[<- r1.length];exact zcH hz,fun p hp=>zhS st1 (k.wd w1) r1 q1 p hp⟩⟩)
def zre (h:PAD X es t):PD X (.List es pos) (zaG t):=by with_unfolding_all exact(zad (zqH h) fun U H Q hh=>el8 hh fun aD Z S Q0 st rh q k =>⟨aD,Z,S,_,st,rh,q,by rintro ds S1 vs H1 ad1 ⟨hz,q1⟩ w1 st1 r1;exact⟨by rw[<- r1.length];exact zcH hz,fun p hp=>zfN st1 (k.wd w1) r1 q1 p hp⟩⟩)
def zpT {xs:List D}{i:Int}{d:D}(h:atD xs i=some d){K:À}(r:zc K aD H xs vs):∃ v,atI vs i=some v/\Rel K aD H d v:=by
 have e:ixN vs.length i=ixD xs.length i:=by rw[r.length];rfl
 unfold atD at h;unfold atI;rw[e];cases q:ixD xs.length i with
 |none=>rw[q]at h;cases h
 |some j =>rw[q]at h;exact r.get h
def ztt (ha:PD X a ta)(hb:PD X b tb)(hs:zf1 b:=by intro _ _;rfl):PD X (.Subscript a b pos) (dOp oIx ta tb):=by with_unfolding_all exact(zad (zt0 (zn4.or (zqA.or zpA)) ha hb hs) fun _ _ _=>zgS fun aD H S x y v u Q0 Q st rx ry h k=>by
 rcases h with⟨i,xs,d,ey,hx,e,q⟩|⟨z,i,c,rfl,rfl,hz,e,q⟩
 case inr =>cases rx;cases ry;exact .inr (.inr ⟨z,i,c,rfl,rfl,zcH hz,e,k _ S _ H aD q Wd.refl st (.str _)⟩)
 subst ey;cases ry;obtain⟨p,vs,rfl,hs,r⟩:=hx.sq st rx;obtain⟨z,ez,rz⟩:=zpT e r;rcases hs with hs|hs
 ·exact .inl ⟨p,vs,i,z,rfl,rfl,hs,ez,k _ S _ H aD q Wd.refl st rz⟩
 ·exact .inr (.inl ⟨p,vs,i,z,rfl,rfl,hs,ez,k _ S _ H aD q Wd.refl st rz⟩))
def upO (K:À)(t:Option DE):TO:=fun U H Q=>∃ aD Z S Q0,zm K aD H S/\zT K aD H Z U/\zdA t Z S Q0/\∀ o S' H' aD',Q0 o S'->Wd aD H aD' H'->zm K aD' H' S'->Q o H'
def znN:PO X none (upO X.K none):=fun pins s U H Q I hh=>el8 hh fun aD Z S Q0 st rh q k=>znZ pins s U H Q I (k none S H aD q Wd.refl st)
def zn3 {t:DE}(h:PD X e t):PO X (some e) (upO X.K (some t)):=by with_unfolding_all exact(fun pins s U H Q I hh=>el8 hh fun aD Z S Q0 st rh q k=>zo1 h pins s U H Q I ⟨aD,Z,S,_,st,rh,q,by rintro d S' v H' aD' ⟨i,e,q'⟩ w st' r;subst e;cases r;exact⟨i,rfl,k _ S' H' aD' q' w st'⟩⟩)
def ziO {K:À}(lo hi:Option Int)(r:zc K aD H xs vs):zc K aD H (cutD xs lo hi) (zdo vs lo hi):=by
  have e1:HT.sIx vs.length 0 lo=slD xs.length 0 lo:=by
    rw[r.length];cases lo with
    |none=>rfl
    |some k=>show HT.sIx _ _ (some k)=_;unfold HT.sIx slD;first|rfl|(simp only[];split<;>lia)
  have e2:HT.sIx vs.length vs.length hi=slD xs.length xs.length hi:=by
    rw[r.length];cases hi with
    |none=>rfl
    |some k=>show HT.sIx _ _ (some k)=_;unfold HT.sIx slD;first|rfl|(simp only[];split<;>lia)
  unfold cutD zdo;rw[e1,e2];exact(r.drop _).take _
def zsv (K:À):V->Option Int->Option Int->Hp->VK->Prop:=fun x lo hi H Q=>∃ a xs,x=.ref a/\SqT K H a xs /\
 ((HT.sIx xs.length 0 lo=0/\HT.sIx xs.length xs.length hi=xs.length)->Q (.ref a) H)/\(¬ (HT.sIx xs.length 0 lo=0/\HT.sIx xs.length xs.length hi=xs.length)->∀ p,H p=none->Q (.ref p) (upd H p (.tup (zdo xs lo hi))))
def zgy {prog:Program}{w:World}{A:Around}{E:Â->Á->Prop}{s:Á}{t sl:Addr}{items:Array Â}{vl vu:Â}{lo hi:Option Int}{Q:Â->Á->Prop}(ht:IsTup s.heap t items)(hs:s.heap.IsSliceOf sl vl vu .none)(pl:IsPart vl lo)(pu:IsPart vu hi)
  (hw:HT.sIx items.size 0 lo=0/\HT.sIx items.size items.size hi=items.size) (h:Q (.ref t) s):wpAny (model prog w) A (getItem (.ref t) (.ref sl)) Q E s:=by
 obtain⟨os,hos,hcs,hds⟩:=id hs;have hTs:s.TypeIs (.ref sl) "slice":=⟨os,hos,hcs⟩
 unfold getItem
 try with_reducible refine wpAny_holding ?_
 first|refine wpAny_bind (wpAny_pure ?_)|skip
 refine wpAny_bind (wpAny_sequenceKey ht.typeIs (by decide) ?_)
 refine wpAny_bind (wpAny_callSpecial?_slot (name:=Str.ofString "__getitem__") ht.typeIs PyProof.Rows.slot_tuple_getitem
  (wpAny_call_entry PyProof.Rows.slot_tuple_getitem ht.typeIs PyProof.Rows.entry_tuple_getitem ?_ (PyProof.Rows.args_tuple_getitem _ _)))
 show wpAny _ _ (Builtin.Tuple.tupleItemsOf (.ref t) >>= _) _ _ s;refine wpAny_bind (tupleItemsOf_ ht ?_);refine wpAny_bind (wpAny_typeOf hTs ?_);rw[if_pos (by decide)];refine wpAny_bind (HT.zcN hs pl pu ?_);show wpAny _ _ (if(((HT.sIx items.size 0 lo:Nat):Int)==0&&(1:Int)==1&&(HT.sIx items.size items.size hi-HT.sIx items.size 0 lo)==items.size)=true then _ else _) _ _ s;rw[if_pos (by rw[hw.1,hw.2];simp)];unfold Builtin.Tuple.tupleIsExact;refine wpAny_bind (wpAny_bind (wpAny_typeOf ht.typeIs (wpAny_pure ?_)));rw[if_pos (by decide)];refine wpAny_bind (wpAny_rule ?_)
 first
  |exact wpAny_pure ⟨_,rfl,wpAny_pure h⟩
  |exact wpAny_bind (wpAny_pure ⟨_,rfl,wpAny_pure h⟩)
  |exact wpAny_bind (wpAny_pure (wpAny_pure ⟨_,rfl,wpAny_pure h⟩))
  |trace_state
def znt:SlR X (zsv X.K):=by
 intro pins s U H x v vl vu lo hi sl Q I rx hs pl pu h;obtain⟨a,xs,rfl,hx,q1,q2⟩:=h;by_cases hw:HT.sIx xs.length 0 lo=0/\HT.sIx xs.length xs.length hi=xs.length
 ·cases rx;obtain⟨its,r,ht,hz⟩:=I.tuple hx;have hlen:its.toArray.size=xs.length:=by rw[List.size_toArray];exact r.length.symm
  refine⟨"tuple",_,PyProof.Rows.slot_tuple_getitem.lookup,ht.typeIs,?_⟩;exact zgy ht hs pl pu (by rw[hlen];exact hw) ⟨.ref a,H,I,rfl,q1 hw⟩
 ·exact zqv pins s U H (.ref a) v vl vu lo hi sl Q I rx hs pl pu ⟨a,xs,rfl,hx,hw,q2 hw⟩
def zkk (xs:List α)(lo hi:Option Int)(h1:slD xs.length 0 lo=0)(h2:slD xs.length xs.length hi=xs.length):cutD xs lo hi=xs:=by unfold cutD;rw[h1,h2];simp
def znl (n d:Nat)(o:Option Int):HT.sIx n d o=slD n d o:=by
 cases o with
 |none=>rfl
 |some k=>rfl
def zs7 {lo:Option Expr}{tl th:Option DE}{p2:Pos}(ha:PD X a ta)(hl:PO X lo (upO X.K tl))(hh:PO X hi (upO X.K th)):PD X (.Subscript a (.Slice lo hi none p2) pos) (dSl zbG ta tl th):=by with_unfolding_all exact(zad (zlU (zni.or znt) ha hl hh) fun U H Q hh=>el8 hh fun aD Z S Q0 st rh q k =>
 ⟨aD,Z,S,_,st,rh,q,fun x S1 v H1 ad1 q1 w1 st1 r1=>⟨ad1,Z,S1,_,st1,rh.wd w1,q1,fun l S2 H2 ad2 q2 w2 st2=>⟨ad2,Z,S2,_,st2,rh.wd (w1.trans w2),q2,fun h S3 H3 ad3 q3 w3 st3=>by
  have r3:=r1.wd (w2.trans w3);have k3:=k.wd ((w1.trans w2).trans w3);rcases q3 with⟨xs,rfl,q3⟩|⟨xs,hx,q3⟩|q3
  ·cases r3 with
   |tup h1 r =>refine .inr ⟨_,_,rfl,SqT.of h1,fun⟨z1,z2⟩=>?_,fun _ p hp=>zhS st3 k3 (ziO _ _ r) q3 p hp⟩;rw[znl,<- r.length]at z1 z2;rw[zkk xs _ _ z1 z2]at q3;exact k3 _ S3 _ H3 ad3 q3 Wd.refl st3 (.tup h1 r)
  ·obtain⟨p,vs,rfl,hs,r⟩:=hx.sq st3 r3;exact .inl ⟨p,vs,rfl,hs,fun l hl=>zfN st3 k3 (ziO _ _ r) q3 l hl⟩
  ·exact q3.elim⟩⟩⟩)
end
end Dp
namespace Dp
open PySem PySem.Spec PyProof.Rows L2 My
variable [B:Bs]
section
variable {X:Cx}{a e:Expr}{es:List Expr}{ta te:DE}{t:DA}{pos p:Pos}
def znY {f:DSp}(G:Got X.prog X.w X.K X.mg X.base k x ps (upF X.K f))(hr:zP j X.A)(ha:PAD X (e::es) t)(hk:autoParam (k<=j) zG)(hg:autoParam (Gl X x) zq)(hdb:autoParam ((x==("__debug__":Str))=false) zG)(he:autoParam (starEach (e::es) X.env=(false,eval e X.env)::starEach es X.env) zdu)(hpl:autoParam ((backTo pos (starEach es X.env)).any (·.1)=false) zes) :
  PD X (.Call (.Name x p) (e::es) [] pos) (dCall f t):=by with_unfolding_all exact(zad (zpi G hr hk hg ha hdb he hpl) fun U H Q hh=>el8 hh fun aD Z S Q0 st rh q k =>
 ⟨aD,Z,S,_,st,rh,q,fun ds S1 vs H1 ad1 q1 w1 st1 r1=>by show upF X.K f (vs++[]) H1 Q E0;rw[List.append_nil];exact⟨ad1,S1,ds,Q0,st1.base,r1,q1,(k.wd w1).base st1⟩⟩)
def BD (K:À)(r':DB)(r:List V->Hp->VK->Prop):Prop:=∀ aD H S ds vs Q0 Q,zm K aD H S->zc K aD H ds vs->r' ds S Q0->KK K aD H Q0 Q->r vs H Q
def BC (X:Cx)(f:Â)(r':DB):Prop:=∃ r,zaw X f r/\BD X.K r' r
def zt8 {id:String}(o:BC X (.builtin id) r')(hm:X.mg x=none)(hv:bootBuiltins x=some (.builtin id))(ha:PAD X (e::es) t)(hg:autoParam (Gl X x) zq)(hn:autoParam (x≠"__name__") zG)(hdb:autoParam ((x==("__debug__":Str))=false) zG)(he:autoParam (starEach (e::es) X.env=(false,eval e X.env)::starEach es X.env) zdu)(hpl:autoParam ((backTo pos (starEach es X.env)).any (·.1)=false) zes):PD X (.Call (.Name x p) (e::es) [] pos) (dB r' t):=by
 with_unfolding_all
  obtain⟨r,ho,od⟩:=o
  exact zad (zlg ho hg hm hv ha hn hdb he hpl) fun U H Q hh=>el8 hh fun aD Z S Q0 st rh q k =>⟨aD,Z,S,_,st,rh,q,fun ds S1 vs H1 ad1 q1 w1 st1 r1=>od ad1 H1 S1 ds vs Q0 Q st1 r1 q1 (k.wd w1)⟩
def ztN {T:String}(o:BC X (.type T) r')(hm:X.mg x=none)(hv:bootBuiltins x=some (.type T))(ha:PAD X (e::es) t)(hg:autoParam (Gl X x) zq)(hn:autoParam (x≠"__name__") zG)(hdb:autoParam ((x==("__debug__":Str))=false) zG)(he:autoParam (starEach (e::es) X.env=(false,eval e X.env)::starEach es X.env) zdu)(hpl:autoParam ((backTo pos (starEach es X.env)).any (·.1)=false) zes):PD X (.Call (.Name x p) (e::es) [] pos) (dB r' t):=by
 with_unfolding_all
  obtain⟨r,ho,od⟩:=o
  exact zad (zj4 ho hg hm hv ha hn hdb he hpl) fun U H Q hh=>el8 hh fun aD Z S Q0 st rh q k =>⟨aD,Z,S,_,st,rh,q,fun ds S1 vs H1 ad1 q1 w1 st1 r1=>od ad1 H1 S1 ds vs Q0 Q st1 r1 q1 (k.wd w1)⟩
def zbV {K:À}{d:D}{vs:List V}(r:zc K aD H [d] vs):∃ v,vs=[v]/\Rel K aD H d v:=by
 cases r with
 |cons r t=>cases t;exact⟨_,rfl,r⟩
def zl5 {K:À}{d e:D}{vs:List V}(r:zc K aD H [d,e] vs):∃ v u,vs=[v,u]/\Rel K aD H d v/\Rel K aD H e u:=by
 cases r with
 |cons r t =>obtain⟨u,rfl,r2⟩:=zbV t;exact⟨_,_,rfl,r,r2⟩
def zp3:BC X (.builtin "len") z8:=⟨_,zkI.or zhV,fun aD H S ds vs Q0 Q st r h k=>by
 rcases h with⟨x,xs,e,hx,q⟩|⟨z,e,hz,q⟩
 case inr =>subst e;obtain⟨v,rfl,rv⟩:=zbV r;cases rv;exact .inr ⟨z,rfl,zcH hz,k _ S _ H aD q Wd.refl st (.int _)⟩
 subst e;obtain⟨v,rfl,rv⟩:=zbV r;obtain⟨a,ws,rfl,hs,rs⟩:=hx.sq st rv;exact .inl ⟨a,ws,rfl,hs,k _ S _ H aD (by rw[rs.length]at q;exact q) Wd.refl st (.int _)⟩⟩
def zrs:BC X (.builtin "abs") zi7:=⟨_,zko,by rintro aD H S ds vs Q0 Q st r ⟨i,e,q⟩ k;subst e;obtain⟨v,rfl,rv⟩:=zbV r;cases rv;exact⟨i,rfl,k _ S _ H aD q Wd.refl st (.int _)⟩⟩
def zrX (i j:Int):(if j > i then j else i)=max i j:=by rw[Int.max_def];split<;>split<;>lia
def zoD (hc:autoParam (X.calm=true) zq):BC X (.builtin "max") zgT:=⟨_,zkO hc,by rintro aD H S ds vs Q0 Q st r ⟨i,j,e,q⟩ k;subst e;obtain⟨v,u,rfl,rv,ru⟩:=zl5 r;cases rv;cases ru;exact⟨i,j,rfl,by rw[zrX];exact k _ S _ H aD q Wd.refl st (.int _)⟩⟩
def zqG (hc:autoParam (X.calm=true) zq):BC X (.builtin "sum") zjI:=⟨_,zkN rfl hc,by rintro aD H S ds vs Q0 Q st r ⟨x,ns,e,hx,q⟩ k;subst e;obtain⟨v,rfl,rv⟩:=zbV r;obtain⟨a,ws,rfl,hs,rs⟩:=hx.sq st rv;cases rs.ints;exact⟨a,ns,rfl,hs,k _ S _ H aD q Wd.refl st (.int _)⟩⟩
def zp8 (hc:autoParam (X.calm=true) zq):BC X (.builtin "all") zck:=⟨_,zkR rfl hc,by rintro aD H S ds vs Q0 Q st r ⟨x,ns,e,hx,q⟩ k;subst e;obtain⟨v,rfl,rv⟩:=zbV r;obtain⟨a,ws,rfl,hs,rs⟩:=hx.sq st rv;cases rs.bls;exact⟨a,ns,rfl,hs,k _ S _ H aD q Wd.refl st (.bl _)⟩⟩
def zm9:BC X (.type "list") zbb:=⟨_,zjs,by rintro aD H S ds vs Q0 Q st r ⟨x,xs,e,hx,q⟩ k;subst e;obtain⟨v,rfl,rv⟩:=zbV r;obtain⟨a,ws,rfl,hs,rs⟩:=hx.sq st rv;exact⟨a,ws,rfl,hs,fun l hl=>zfN st k rs q l hl⟩⟩
def zrF:BC X (.type "int") zef:=⟨_,zkL,fun aD H S ds vs Q0 Q st r h k=>by
 rcases h with⟨i,rfl,q⟩|⟨b,rfl,q⟩
 ·obtain⟨v,rfl,rv⟩:=zbV r;cases rv;exact .inl ⟨i,rfl,k _ S _ H aD q Wd.refl st (.int _)⟩
 ·obtain⟨v,rfl,rv⟩:=zbV r;cases rv;exact .inr ⟨b,rfl,k _ S _ H aD q Wd.refl st (.int _)⟩⟩
section
variable {K:À}
def zoo (t:String)(h:zf0 t=true):PySem.W.kitOne K (.type "NoneType") (.type t)=some false/\PySem.W.kitOne K (.type "bool") (.type t)=some (t=="bool"||t=="int")/\PySem.W.kitOne K (.type "int") (.type t)=some (t=="int") /\
  PySem.W.kitOne K (.type "str") (.type t)=some (t=="str")/\PySem.W.kitOne K (.type "tuple") (.type t)=some (t=="tuple")/\PySem.W.kitOne K (.type "list") (.type t)=some (t=="list"):=by
 unfold zf0 at h;simp only[Bool.or_eq_true,beq_iff_eq]at h;rcases h with(((rfl|rfl)|rfl)|rfl)|rfl
 ·exact⟨by kernel_rfl,by kernel_rfl,by kernel_rfl,by kernel_rfl,by kernel_rfl,by kernel_rfl⟩
 ·exact⟨by kernel_rfl,by kernel_rfl,by kernel_rfl,by kernel_rfl,by kernel_rfl,by kernel_rfl⟩
 ·exact⟨by kernel_rfl,by kernel_rfl,by kernel_rfl,by kernel_rfl,by kernel_rfl,by kernel_rfl⟩
 ·exact⟨by kernel_rfl,by kernel_rfl,by kernel_rfl,by kernel_rfl,by kernel_rfl,by kernel_rfl⟩
 ·exact⟨by kernel_rfl,by kernel_rfl,by kernel_rfl,by kernel_rfl,by kernel_rfl,by kernel_rfl⟩
end
def zqu:BC X (.builtin "isinstance") zd5:=⟨_,zk6,by
 rintro aD H S ds vs Q0 Q st r ⟨x,t,b,e,h,q⟩ k;subst e;obtain⟨v,u,rfl,rv,ru⟩:=zl5 r;cases ru;have fin:=k _ S _ H aD q Wd.refl st (.bl b);unfold zpB at h;split at h
 ·cases h
 rename_i hty
 have hty':zf0 t=true:=by
  cases hh:zf0 t
  ·exact absurd (by show(!zf0 t)=true;rw[hh];rfl) hty
  ·rfl
 obtain⟨k1,k2,k3,k4,k5,k6⟩:=zoo (K:=X.K) t hty';cases rv with
 |non=>cases h;exact⟨_,_,_,_,rfl,.non,k1,fin⟩
 |bl c=>cases h;exact⟨_,_,_,_,rfl,.bl c,k2,fin⟩
 |int i=>cases h;exact⟨_,_,_,_,rfl,.int i,k3,fin⟩
 |str y=>cases h;exact⟨_,_,_,_,rfl,.str y,k4,fin⟩
 |ty n=>cases h
 |exn _ _ _=>cases h
 |tup ht rt=>cases h;exact⟨_,_,_,_,rfl,.tup ht,k5,fin⟩
 |rl hl rl=>cases h
 |kt hl rl=>cases h
 |@ref n a hn =>
  have h:(match S[n]? with | some (.lst _)=>some (t=="list") | _=>none)=some b:=h;cases hS:S[n]? with
  |none=>rw[hS]at h;cases h
  |some c =>
   rw[hS]at h;cases c with
   |ins c fs=>cases h
   |dk _=>cases h
   |dt _=>cases h
   |tab _ _ _=>cases h
   |lst xs =>cases h;obtain⟨vs,hv,_⟩:=st.cell n a _ hn hS;exact⟨_,_,_,_,rfl,.lst hv,k6,fin⟩⟩
def MD (X:Cx)(id:String)(r':DM):Prop:=∃ r,MtR X id r/\∀ aD H S x ds v vs Q0 Q,zm X.K aD H S->Rel X.K aD H x v->zc X.K aD H ds vs->r' x ds S Q0->KK X.K aD H Q0 Q->r v vs H Q
def zkx {K:À}{x:D}(st:zm K aD H S)(h:∃ n ys,x=.ref n/\S[n]?=some (.lst ys))(r:Rel K aD H x v):tyV K "list" v H:=by
 obtain⟨n,ys,rfl,h⟩:=h;cases r with
 |ref e =>obtain⟨vs,hv,_⟩:=st.cell n _ _ e h;exact .inl ⟨rfl,vs,SqL.of hv⟩
def zqg {name:Str}{id:String}{apos cpos:Pos}(slot:Slot "list" name id)(hty:typeOf (.builtin id)=pure (.type "method_descriptor"))(hm:MD X id r')(ho:PD X o to)(ha:PAD X (e::es) t)(hbase:autoParam (attributeBase o name X.env (eval o X.env)=eval o X.env) zq)(hfew:((backTo cpos (starEach (e::es) X.env)).all (fun x=>!x.1)&&(backToKw cpos (keywordEach [] X.env)).all (fun x=>x.1.isSome)
  &&decide ((e::es).length+([]:List Keyword).length+(if([]:List Keyword).isEmpty then 0 else 1)<30))=true:=by rfl) (hline:(apos.endLine==cpos.line)=true:=by rfl) (hs:starEach (e::es) X.env=(false,eval e X.env)::starEach es X.env:=by exact zac rfl) (hplain:(backTo cpos (starEach es X.env)).any (·.1)=false:=by exact zdk rfl) :
  PD X (.Call (.Attribute o name apos) (e::es) [] cpos) (dM r' to t):=by
 with_unfolding_all
  obtain⟨r,hr,od⟩:=hm
  exact zad (ztB PySem.F.plainAttrs_list slot hty hr ho ha hbase hfew hline hs hplain) fun U H Q hh=>el8 hh fun aD Z S Q0 st rh q k =>
   ⟨aD,Z,S,_,st,rh,q,by rintro x S1 v H1 ad1 ⟨hl,q1⟩ w1 st1 r1;exact⟨zkx st1 hl r1,ad1,Z,S1,_,st1,rh.wd w1,q1,fun ds S2 vs H2 ad2 q2 w2 st2 r2 =>od ad2 H2 S2 x ds v vs Q0 Q st2 (r1.wd w2) r2 q2 (k.wd (w1.trans w2))⟩⟩
def zt1 {name:Str}{id:String}{apos cpos:Pos}(slot:Slot "list" name id)(hty:typeOf (.builtin id)=pure (.type "method_descriptor"))(hm:MD X id r')(ho:PD X o to)(hbase:autoParam (attributeBase o name X.env (eval o X.env)=eval o X.env) zq)(hline:autoParam ((apos.endLine==cpos.line)=true) zq):PD X (.Call (.Attribute o name apos) [] [] cpos) (dM r' to zf):=by
 with_unfolding_all
  obtain⟨r,hr,od⟩:=hm
  exact zad (zrc PySem.F.plainAttrs_list slot hty hr ho hbase hline) fun U H Q hh=>el8 hh fun aD Z S Q0 st rh q k =>⟨aD,Z,S,_,st,rh,q,by rintro x S1 v H1 ad1 ⟨hl,q1⟩ w1 st1 r1;exact⟨zkx st1 hl r1,od ad1 H1 S1 x [] v [] Q0 Q st1 r1 .nil q1 (k.wd w1)⟩⟩
def zgx:MD X "list.append" zbC:=⟨_,zgm,by
 rintro aD H S x ds v vs Q0 Q st rx r ⟨n,xs,y,ex,ey,hn,hl,q⟩ k;subst ex ey;obtain⟨u,rfl,ru⟩:=zbV r;cases rx with
 |ref e =>obtain⟨ws,hw,rw⟩:=st.cell n _ _ e hn;exact⟨_,ws,u,rfl,rfl,hw,by rw[<- rw.length];exact zj0 hl,k _ _ _ _ aD q (Wd.put e hw) (st.put e hw (rw.append (.cons ru .nil))) .non⟩⟩
def zrk:MD X "list.pop" zjk:=⟨_,zpe,by
 rintro aD H S x ds v vs Q0 Q st rx r ⟨n,xs,y,ex,ey,hn,q⟩ k;subst ex ey;cases r;cases rx with
 |ref e =>obtain⟨ws,hw,rw⟩:=st.cell n _ _ e hn;obtain⟨us,u,rfl,r1,r2⟩:=rw.unsnoc;have w:=Wd.put (ws:=us) e hw;refine⟨_,us++[u],u,rfl,rfl,hw,by simp,?_⟩;rw[List.dropLast_concat];exact k _ _ _ _ aD q w (st.put e hw r1) (r2.wd w)⟩
end
end Dp
namespace Dp
open PySem PySem.Spec PyProof.Rows L2 My
variable [B:Bs]
def zcg (K:À)(b:Nat)(g':DG)(g:TG):Prop:=∀ aD H S Z U d v Q0 Q,zm K aD H S->zT K aD H Z U->Rel K aD H d v->g' d Z S Q0 ->
 (∀ ρ' S' σ' H' aD',Q0 ρ' S'->Wd aD H aD' H'->zm K aD' H' S'->zT K aD' H' ρ' σ'->σ'.length=U.length->(∀ j,b<=j->σ'[j]?=U[j]?)->Q σ' H')->g v U H Q
def zgP (K:À)(b:Nat)(g':DGs)(g:TGs):Prop:=∀ aD H S Z U ds vs Q0 Q,zm K aD H S->zT K aD H Z U->zc K aD H ds vs->g' ds Z S Q0 ->
 (∀ ρ' S' σ' H' aD',Q0 ρ' S'->Wd aD H aD' H'->zm K aD' H' S'->zT K aD' H' ρ' σ'->σ'.length=U.length->(∀ j,b<=j->σ'[j]?=U[j]?)->Q σ' H')->g vs U H Q
def PGD (X:Cx)(b:Nat)(tg:Expr)(g':DG):Prop:=∃ g,PG X tg g/\zcg X.K b g' g
theorem zT.set {K:À}(h:zT K aD H Z U)(r:Rel K aD H d v)(i:Nat):zT K aD H (Z.set i (some d)) (U.set i (some v)) where
 len:=by rw[List.length_set,List.length_set];exact h.len
 val:=fun j e q=>by
  by_cases hj:j=i
  ·subst hj;have hl:j<Z.length:=by have:=My.zam q;rw[List.length_set]at this;exact this
   rw[List.getElem?_set_self hl]at q;cases q;exact⟨v,List.getElem?_set_self (by rw[<- h.len];exact hl),r⟩
  ·rw[List.getElem?_set_ne (Ne.symm hj)]at q;obtain⟨u,e1,r1⟩:=h.val j e q;exact⟨u,by rw[List.getElem?_set_ne (Ne.symm hj)];exact e1,r1⟩
section
variable {X:Cx}{pos:Pos}{b:Nat}
def zjS {K:À}(i:Nat)(hb:i<b):zcg K b (zK i) (L2.zK i):=fun aD H S Z U d v Q0 Q st rh r q k =>k _ S _ H aD q Wd.refl st (rh.set r i) (List.length_set ..) fun j hj=>List.getElem?_set_ne (by lia)
def zn1 (ho:PD X o to)(hi:PD X i ti)(ha:∀ v,assign (.Subscript o i pos) X.env v=(do
   let ov <- holding [v] (eval o X.env);let iv <- holding [v,ov] (eval i X.env)
   standAt pos
   holding [v,ov,iv] (setItem ov iv v)
   release [v,ov,iv] []):=by intro _;rfl):PGD X b (.Subscript o i pos) (zgc to ti):=by with_unfolding_all exact(⟨_,zrG ho hi set_list ha,fun aD H S Z U d v Q0 Q st rh r q k=>⟨aD,Z,S,_,st,rh,q,fun x S1 u H1 ad1 q1 w1 st1 r1=>⟨ad1,Z,S1,_,st1,rh.wd w1,q1,fun y S2 z H2 ad2 q2 w2 st2 r2=>by
  obtain⟨n,xs,kk,j,ex,ey,hn,hj,q3⟩:=q2;subst ex ey;cases r2;cases r1 with
  |ref e =>have e2:=zeu w2.pre e;obtain⟨ws,hw,rw⟩:=st2.cell n _ _ e2 hn;have rd:=r.wd (w1.trans w2);exact⟨_,ws,kk,j,rfl,rfl,hw,by rw[<- rw.length];exact hj,k Z _ U _ ad2 q3 ((w1.trans w2).trans (Wd.put e2 hw)) (st2.put e2 hw (rw.set rd j)) (rh.wd ((w1.trans w2).trans (Wd.put e2 hw))) rfl fun _ _=>rfl⟩⟩⟩⟩)
variable {st:Stmt}{sts:List Stmt}{t u:DS}{e:Expr}{te:DE}
def zma:zbx X [] zu:=by with_unfolding_all exact(zg0 znX fun E U H hh=>el8 hh fun aD Z S E0 so rh q k=>k.nx Z S U H aD q Wd.refl so rh)
def zlD (h:PSD X st t):zbx X [st] t:=by with_unfolding_all exact(znd h)
def zkK (h1:PSD X st t)(h2:zbx X sts u):zbx X (st::sts) (zj t u):=by with_unfolding_all exact(zg0 (zlN h1 h2) fun E U H hh=>el8 hh fun aD Z S E0 so rh q k =>⟨aD,Z,S,{ E0 with nx:=u E0 },so,rh,q,⟨fun ρ' S' σ' H' aD' q' w st' rh'=>⟨aD',ρ',S',E0,st',rh',q',k.wd w⟩,k.rt,k.bk,k.ct⟩⟩)
def zlv:PSD X (.Pass pos) zu:=by with_unfolding_all exact(zau znv fun E U H hh=>el8 hh fun aD Z S E0 so rh q k=>k.nx Z S U H aD q Wd.refl so rh)
def zkG:PSD X (.Break pos) zkl:=by with_unfolding_all exact(zau zlX fun E U H hh=>el8 hh fun aD Z S E0 so rh q k=>k.bk Z S U H aD q Wd.refl so rh)
def zmq:PSD X (.Continue pos) zmX:=by with_unfolding_all exact(zau zh7 fun E U H hh=>el8 hh fun aD Z S E0 so rh q k=>k.ct Z S U H aD q Wd.refl so rh)
def zB:PSD X st zbL:=by with_unfolding_all exact(zau zmn fun E U H hh=>el8 hh fun aD Z S E0 so rh q k=>q)
def zlO (he:PD X e te)(hs:autoParam (swapsWith e none pos.line X.env=pure false) zq):PSD X (.Expr e pos) (zaU te):=by with_unfolding_all exact(zau (zoZ he hs) fun E U H hh=>el8 hh fun aD Z S E0 so rh q k =>⟨aD,Z,S,_,so,rh,q,fun d S' v H' aD' q' w st' r=>k.nx Z S' U H' aD' q' w st' (rh.wd w)⟩)
def zou (he:PD X e te):PSD X (.Return (some e) pos) (zy te):=by with_unfolding_all exact(zau (zr5 he) fun E U H hh=>el8 hh fun aD Z S E0 so rh q k=>⟨aD,Z,S,_,so,rh,q,k.rt⟩)
def zsm (h:PSD X st t):PSD X st (sJ t):=by with_unfolding_all exact(zau h fun E U H zq41=>by obtain⟨aD,Z,S,E0,so,rh,⟨J,hJ,q⟩,k⟩:=zq41;exact 
 ⟨aD,Z,S,{ E0 with nx:=J },so,rh,q,⟨fun ρ' S' σ' H' aD' q' w st' rh'=>k.nx ρ' S' σ' H' aD' (hJ _ _ q') w st' rh',k.rt,k.bk,k.ct⟩⟩)
def zrH {c:Expr}{a b:List Stmt}{tc:DT}(hc:PTD X c tc)(ha:zbx X a t)(hb:zbx X b u):PSD X (.If c a b pos) (sIf tc t u):=by with_unfolding_all exact(zau (ztx hc ha hb) fun E U H hh=>el8 hh fun aD Z S E0 so rh q k =>
 ⟨aD,Z,S,_,so,rh,q,fun b S' H' aD' q' w st'=>by
  cases b with
  |true=>rw[if_pos rfl]at q' ⊢;exact⟨aD',Z,S',E0,st',rh.wd w,q',k.wd w⟩
  |false=>rw[if_neg Bool.false_ne_true]at q' ⊢;exact⟨aD',Z,S',E0,st',rh.wd w,q',k.wd w⟩⟩)
def ziM {i:Nat}{x:Str}{pos':Pos}(hN:X.N.Nodup)(he:PD X e te)(hi:autoParam (X.N[i]?=some x) zq)(hx:autoParam (Loc X.env.scope x) zmR)(hs:autoParam (swapsWith e (some (.Name x pos')) pos.line X.env=pure false) zq)(hf:autoParam (X.fn x=true\/X.env.scope.names.lookup x=some .local) zdr) :
  PSD X (.Assign [.Name x pos'] e pos) (zp te (zK i)):=by with_unfolding_all exact(zau (zrh hN hi hx he hs hf) fun E U H hh=>el8 hh fun aD Z S E0 so rh q k =>
 ⟨aD,Z,S,_,so,rh,q,fun d S' v H' aD' q' w st' r=>k.nx _ S' _ H' aD' q' w st' ((rh.wd w).set r i)⟩)
def ziv (he:PD X e te)(hg:PGD X 1000 tg g)(hs:autoParam (swapsWithSole [tg] e pos.line X.env=pure false) zq)(hw:autoParam (swappedStores [tg] e X.env=pure none) zq)(h1:autoParam ((assignEach [tg] X.env).map (·.2)=[assign tg X.env]) zq):PSD X (.Assign [tg] e pos) (zp te g):=by
 with_unfolding_all
  obtain⟨g',p,r⟩:=hg
  exact zau (zqY he p hs hw h1) fun E U H hh=>el8 hh fun aD Z S E0 so rh q k =>⟨aD,Z,S,_,so,rh,q,fun d S' v H' aD' q' w st' rv=>r aD' H' S' Z U d v _ _ st' (rh.wd w) rv q' fun ρ2 S2 σ2 H2 ad2 q2 w2 st2 rh2 _ _=>k.nx ρ2 S2 σ2 H2 ad2 q2 (w.trans w2) st2 rh2⟩
def zor {i:Nat}{x:Str}{pos':Pos}(hN:X.N.Nodup)(he:PD X e te)(hi:autoParam (X.N[i]?=some x) zq)(hx:autoParam (Loc X.env.scope x) zmR)(hf:autoParam (X.fn x=true\/X.env.scope.names.lookup x=some .local) zdr) :
  PSD X (.AugAssign (.Name x pos') .Add e pos) (zi5 i te):=by with_unfolding_all exact(zau (zpL hN hi hx he zr7 hf) fun E U H zq42=>by
 obtain⟨aD,Z,S,E0,so,rh,⟨a,ea,q⟩,k⟩:=zq42;obtain⟨v,ev,rv⟩:=rh.val i _ ea;cases rv;refine⟨_,ev,aD,Z,S,_,so,rh,q,fun d S' v H' aD' ⟨b,eb,q'⟩ w st' r=>?_⟩;subst eb;cases r;exact⟨a,b,rfl,rfl,k.nx _ S' _ H' aD' q' w st' ((rh.wd w).set (.int _) i)⟩)
def zj6 (hc:PTD X c tc)(hb:zbx X body t)(hp:autoParam (PassesOwn (model X.prog X.w) X.A X.env X.xe) zkJ):PSD X (.While c body [] pos) (zd6 tc t):=by with_unfolding_all exact(zau (zlP hp hc hb) fun E U H zq43=>by
 obtain⟨aD,Z,S,E0,so,rh,⟨W,⟨m0,w0⟩,turn⟩,k⟩:=zq43;refine⟨fun m σ' H'=>∃ aD' ρ' S',W m ρ' S'/\Wd aD H aD' H'/\zm X.K aD' H' S'/\zT X.K aD' H' ρ' σ',⟨m0,aD,Z,S,w0,Wd.refl,so,rh⟩,?_⟩;rintro m σ1 H1 ⟨ad1,ρ1,S1,w1,d1,st1,rh1⟩;refine⟨ad1,ρ1,S1,_,st1,rh1,turn m ρ1 S1 w1,fun b S2 H2 ad2 q2 d2 st2=>?_⟩;cases b with
 |true =>
  rw[if_pos rfl]at q2 ⊢;obtain⟨N,hN,q2⟩:=q2;refine⟨fun σ' H'=>∃ aD' ρ' S',N ρ' S'/\Wd aD H aD' H'/\zm X.K aD' H' S'/\zT X.K aD' H' ρ' σ',?_,ad2,ρ1,S2,{ E0 with nx:=N,ct:=N,bk:=E0.nx },st2,rh1.wd d2,q2,?_⟩
  ·rintro σ' H' ⟨aD',ρ',S',n',d',st',rh'⟩;obtain⟨m',hm,w'⟩:=hN ρ' S' n';exact⟨m',hm,aD',ρ',S',w',d',st',rh'⟩
  ·have d12:=d1.trans d2;exact⟨fun ρ' S' σ' H' aD' q' w' st' rh'=>⟨aD',ρ',S',q',d12.trans w',st',rh'⟩,k.rt.wd d12,fun ρ' S' σ' H' aD' q' w' st' rh'=>k.nx ρ' S' σ' H' aD' q' (d12.trans w') st' rh',fun ρ' S' σ' H' aD' q' w' st' rh'=>⟨aD',ρ',S',q',d12.trans w',st',rh'⟩⟩
 |false =>rw[if_neg Bool.false_ne_true]at q2 ⊢;exact k.nx ρ1 S2 σ1 H2 ad2 q2 (d1.trans d2) st2 (rh1.wd d2))
end
structure zfU (K:À)(ad0:List Addr)(H0:Hp)(J0:DIt)(J:It):Prop where
 go:∀ aD H S i,Wd ad0 H0 aD H->zm K aD H S->J0.ok S->i<J0.items.length->J.go i H
 yld:∀ aD H S i d x H',Wd ad0 H0 aD H->zm K aD H S->J0.ok S->J0.items[i]?=some d->J.yld i H x H'->Wd aD H aD H'/\zm K aD H' S/\Rel K aD H' d x
 stop:∀ aD H S,Wd ad0 H0 aD H->zm K aD H S->J0.ok S->J.stop J0.items.length H
def upI (K:À)(wi:DI):TI:=fun U H R=>∃ aD Z S R0,zm K aD H S/\zT K aD H Z U/\wi Z S R0/\∀ J0 S' J H' aD',R0 J0 S'->Wd aD H aD' H'->zm K aD' H' S'->zfU K aD' H' J0 J->R J H'
@[irreducible] def PID (X:Cx)(tg iter:Expr)(wi:DI):Prop:=PI X tg iter (upI X.K wi)
def zin {w':TI}(h:PI X tg iter w)(m:∀ U H R,w' U H R->w U H R):PI X tg iter w':=fun pins s U H R I q=>h pins s U H R I (m U H R q)
section
variable {X:Cx}{tg e:Expr}
def Its (z:Str):It:=⟨fun i _=>i<z.cps.size,fun i H x H'=>H'=H/\∃ c,z.cps[i]?=some c/\x=.str ⟨#[c]⟩,fun i _=>z.cps.size<=i⟩
def zkP {P:Program}{w:World}{K:À}{tg:Expr}(z:Str)(t:Tok)(it:Addr):Turn P w K tg (Its z) [it] it (fun i h=>h.IsStrIter it "str_ascii_iterator" z t i) where
 mem:=by simp
 obj:=fun i h st b hb=>by
  have e:b=it:=by simpa using hb
  subst e;obtain⟨o,e,c,d⟩:=st;exact⟨o,e,fun v y=>by rw[d]at y;cases y⟩
 keep:=fun i h h' st k=>let ⟨o,e,r⟩:=st;⟨o,k it (by simp) o e,r⟩
 item:=by
  intro X hP hw hK hc i pins s U H E I hf st hg;subst hP hw hK;have hg:i<z.cps.size:=hg;obtain⟨f0,f1,f2,f3,f4,f5⟩:=hf it (by simp);refine wpAny_pyNext_ascii_item st (c:=z.cps[i]) (by simp[hg]) fun h' st' sb=>?_
  have I1:Inv X pins U H { s with heap:=h',toks:=s.toks+1 }:=I.turned (t':=s.toks+1) (fun b o hb e=>(sb.2 b hb).trans e) f0 f1 f3 f4 f5;obtain⟨o,e,c,d⟩:=id st';exact⟨_,rfl,zcR (s:={ s with heap:=h',toks:=s.toks+1 }) e c d (by decide) ⟨.str ⟨#[z.cps[i]]⟩,H,I1,⟨_,rfl⟩,⟨rfl,z.cps[i],by simp[hg],rfl⟩,st',fun b hb=>(hf b hb).1⟩⟩
 done:=by intro X hP hw hK hc i pins s U H E I hf st hg;subst hP hw hK;have hg:z.cps.size<=i:=hg;obtain⟨f0,f1,f2,f3,f4,f5⟩:=hf it (by simp);exact wpAny_pyNext_ascii_end (I.ok.hd hc) st (by simp[hg]) fun h' eb=>⟨rfl,I.turned (t':=s.toks) (fun b o hb e=>eb b o hb e) f0 f1 f3 f4 f5⟩
 self:=fun _ _ _ _ _ st hQ=>wpAny_pyIter_striter_ascii st hQ
def zjW {P:Program}{w:World}{K:À}{tg:Expr}(z:Str)(t:Tok)(it:Addr):Turn P w K tg (Its z) [it] it (fun i h=>h.IsStrIter it "str_iterator" z t i) where
 mem:=by simp
 obj:=fun i h st b hb=>by
  have e:b=it:=by simpa using hb
  subst e;obtain⟨o,e,c,d⟩:=st;exact⟨o,e,fun v y=>by rw[d]at y;cases y⟩
 keep:=fun i h h' st k=>let ⟨o,e,r⟩:=st;⟨o,k it (by simp) o e,r⟩
 item:=by
  intro X hP hw hK hc i pins s U H E I hf st hg;subst hP hw hK;have hg:i<z.cps.size:=hg;obtain⟨f0,f1,f2,f3,f4,f5⟩:=hf it (by simp);refine wpAny_pyNext_wide_item st (c:=z.cps[i]) (by simp[hg]) fun h' st' sb=>?_
  have I1:Inv X pins U H { s with heap:=h',toks:=s.toks+1 }:=I.turned (t':=s.toks+1) (fun b o hb e=>(sb.2 b hb).trans e) f0 f1 f3 f4 f5;obtain⟨o,e,c,d⟩:=id st';exact⟨_,rfl,zcR (s:={ s with heap:=h',toks:=s.toks+1 }) e c d (by decide) ⟨.str ⟨#[z.cps[i]]⟩,H,I1,⟨_,rfl⟩,⟨rfl,z.cps[i],by simp[hg],rfl⟩,st',fun b hb=>(hf b hb).1⟩⟩
 done:=by intro X hP hw hK hc i pins s U H E I hf st hg;subst hP hw hK;have hg:z.cps.size<=i:=hg;obtain⟨f0,f1,f2,f3,f4,f5⟩:=hf it (by simp);exact wpAny_pyNext_wide_end (I.ok.hd hc) st (by simp[hg]) fun h' eb=>⟨rfl,I.turned (t':=s.toks) (fun b o hb e=>eb b o hb e) f0 f1 f3 f4 f5⟩
 self:=fun _ _ _ _ _ st hQ=>wpAny_pyIter_striter_wide st hQ
def znb (K:À)(tl:TE):TI:=fun U H R=>tl U H fun x H1=>(∃ a,x=.ref a/\(((∃ xs,SqL K H1 a xs)/\R (Itl K a) H1)\/((∃ xs,SqT K H1 a xs)/\R (Itt K a) H1)))\/(∃ z,x=.str z/\R (Its z) H1)
def zkD (hl:PE X l tl):PI X tg l (znb X.K tl):=by
  intro pins s U H R I h;refine thn (hl pins s U H _ I h) fun v s1 ⟨x,H1,I1,r1,q1⟩=>?_
  rcases q1 with⟨a,e,q1⟩|⟨z,e,q⟩
  case inr =>
    subst e;obtain⟨t,rfl⟩:=r1
    have fp:∀ b∈[s1.heap.objs.size],zds X pins H1 b:=fun b hb=>by
      have e:b=s1.heap.objs.size:=by simpa using hb
      subst e;exact I1.fpOk (Nat.le_refl _) (I1.hok.fresh (Nat.le_refl _))
    cases ha:z.cps.all (· < 128)with
    |true=>exact wpAny_pyIter_ascii ha ⟨s1.heap.objs.size,[s1.heap.objs.size],_,_,H1,rfl,I1.kept (t':=s1.toks) fun b o e=>Heap.get?_push_of_some _ e,zkP z t _,⟨_,Heap.get?_push_size _ rfl,rfl,rfl⟩,fp,q⟩
    |false=>exact wpAny_pyIter_wide ha ⟨s1.heap.objs.size,[s1.heap.objs.size],_,_,H1,rfl,I1.kept (t':=s1.toks) fun b o e=>Heap.get?_push_of_some _ e,zjW z t _,⟨_,Heap.get?_push_size _ rfl,rfl,rfl⟩,fp,q⟩
  subst e;cases r1;rcases q1 with⟨⟨xs,hq⟩,q⟩|⟨⟨xs,hq⟩,q⟩
  . obtain⟨its,rv,p,hz⟩:=I1.list hq;refine wpAny_pyIter_list p.isList ?_;refine⟨s1.heap.objs.size,[s1.heap.objs.size],_,_,H1,rfl,I1.kept (t':=s1.toks) fun b o e=>Heap.get?_push_of_some _ e,zkS a _,⟨_,Heap.get?_push_size _ rfl,rfl,rfl⟩,fun b hb=>?_,q⟩;have e:b=s1.heap.objs.size:=by simpa using hb
    subst e;exact I1.fpOk (Nat.le_refl _) (I1.hok.fresh (Nat.le_refl _))
  . obtain⟨its,rv,p,hz⟩:=I1.tuple hq;refine wpAny_pyIter_tuple (show s1.heap.IsTuple a its.toArray from p) ?_;refine⟨s1.heap.objs.size,[s1.heap.objs.size],_,_,H1,rfl,I1.kept (t':=s1.toks) fun b o e=>Heap.get?_push_of_some _ e,zjt a _,⟨_,Heap.get?_push_size _ rfl,rfl,rfl⟩,fun b hb=>?_,q⟩;have e:b=s1.heap.objs.size:=by simpa using hb
    subst e;exact I1.fpOk (Nat.le_refl _) (I1.hok.fresh (Nat.le_refl _))
def zp6 {K:À}{aD:List Addr}{H:Hp}(z:Str):zfU K aD H ⟨signs z,fun _=>True⟩ (Its z) where
 go:=fun ad1 H1 S i w st _ hi=>by show i<z.cps.size;have:i<(signs z).length:=hi;unfold signs at this;rw[List.length_map]at this;simpa using this
 yld:=by rintro ad1 H1 S i d x H' w st _ hd ⟨e,c,hc,hx⟩;subst e hx;have hd:(signs z)[i]?=some d:=hd;unfold signs at hd;rw[List.getElem?_map,Array.getElem?_toList,hc]at hd;cases hd;exact⟨Wd.refl,st,.str _⟩
 stop:=fun ad1 H1 S w st _=>by show z.cps.size<=(signs z).length;unfold signs;rw[List.length_map];simp
def zsd {K:À}{H:Hp}{vs:List V}(h:H a=some (.tup vs))(r:zc K aD H ds vs):zfU K aD H ⟨ds,fun _=>True⟩ (Itt K a) where
 go:=fun ad1 H1 S i w st _ hi=>⟨vs,vs[i]'(by rw[<- r.length];exact hi),SqT.of (w.tup _ _ h),List.getElem?_eq_getElem _⟩
 yld:=by rintro ad1 H1 S i d x H' w st _ hd ⟨e,hx⟩;subst e;obtain⟨v,ev,rv⟩:=r.get hd;rw[hx vs (SqT.of (w.tup _ _ h))]at ev;cases ev;exact⟨Wd.refl,st,rv.wd w⟩
 stop:=fun ad1 H1 S w st _=>⟨vs,SqT.of (w.tup _ _ h),by rw[<- r.length];exact Nat.le_refl _⟩
def zqO {K:À}{a:Addr}{ds:List D}(r:Rel K aD H x (.ref a)):zfU K aD H ⟨ds,fun S=>Lst S x ds⟩ (Itl K a) where
 go:=fun ad1 H1 S i w st ok hi=>by obtain⟨a',vs,e,s,rs⟩:=Lst.sq st ok (r.wd w);cases e;exact⟨vs,vs[i]'(by rw[<- rs.length];exact hi),s,List.getElem?_eq_getElem _⟩
 yld:=by rintro ad1 H1 S i d y H' w st ok hd ⟨e,hx⟩;subst e;obtain⟨a',vs,e,s,rs⟩:=Lst.sq st ok (r.wd w);cases e;obtain⟨v,ev,rv⟩:=rs.get hd;rw[hx vs s]at ev;cases ev;exact⟨Wd.refl,st,rv⟩
 stop:=fun ad1 H1 S w st ok=>by obtain⟨a',vs,e,s,rs⟩:=Lst.sq st ok (r.wd w);cases e;exact⟨vs,s,by rw[<- rs.length];exact Nat.le_refl _⟩
def zqF (h:PD X e t):PID X tg e (zaS t):=by with_unfolding_all exact(zin (zkD h) fun U H R hh=>el8 hh fun aD Z S R0 st rh q k =>
 ⟨aD,Z,S,_,st,rh,q,fun x S1 v H1 ad1 q1 w1 st1 r1=>by
  rcases q1 with⟨xs,rfl,q1⟩|⟨xs,hx,q1⟩|⟨z,rfl,q1⟩
  ·cases r1 with
   |tup h1 rs=>exact .inl ⟨_,rfl,.inr ⟨⟨_,SqT.of h1⟩,k _ S1 _ H1 ad1 q1 w1 st1 (zsd h1 rs)⟩⟩
  ·obtain⟨a,vs,rfl,s,rs⟩:=hx.sq st1 r1;exact .inl ⟨a,rfl,.inl ⟨⟨vs,s⟩,k _ S1 _ H1 ad1 q1 w1 st1 (zqO r1)⟩⟩
  ·cases r1;exact .inr ⟨z,rfl,k _ S1 _ H1 ad1 q1 w1 st1 (zp6 z)⟩⟩)
def zmb {lo:Int}{n i:Nat}{d:D}(h:(upto lo n)[i]?=some d):i<n/\d=.int (lo+i):=by
 unfold upto at h;rw[List.getElem?_map]at h;have hi:=My.zam (xs:=List.range n) (i:=i) (x:=i);cases hr:(List.range n)[i]? with
 |none=>rw[hr]at h;cases h
 |some k =>rw[hr]at h;have h1:=My.zam hr;rw[List.length_range]at h1;have h2:(List.range n)[i]?=some i:=List.getElem?_range h1;rw[hr]at h2;cases h2;cases h;exact⟨h1,rfl⟩
def zhK (lo:Int)(n:Nat):(upto lo n).length=n:=by unfold upto;rw[List.length_map,List.length_range]
def zkj {K:À}{aD:List Addr}{H:Hp}(lo:Int)(n:Nat):zfU K aD H ⟨upto lo n,fun _=>True⟩ (Itr lo n) where
 go:=fun ad1 H1 S i w st _ hi=>by rw[zhK]at hi;exact hi
 yld:=by rintro ad1 H1 S i d x H' w st _ hd ⟨e,hx⟩;subst e;obtain⟨_,rfl⟩:=zmb hd;rw[hx];exact⟨Wd.refl,st,.int _⟩
 stop:=fun ad1 H1 S w st _=>by rw[zhK];exact Nat.le_refl _
def zjP {P:Program}{w:World}{K:À}{tg:Expr}(it:Addr)(lo:Int)(n:Nat):Turn P w K tg (Itr lo n) [it] it (fun i h=>IsLongIter h it (lo+(i:Nat)*1) ((n:Int)-(i:Nat)) 1) where
 mem:=by simp
 obj:=fun i h st b hb=>by
  have e:b=it:=by simpa using hb
  subst e
  exact⟨_,st,fun v z=>by have z':Data.fields _=Data.cell v:=z;cases z'⟩
 keep:=fun i h h' st k=>k it (by simp) _ st
 item:=by
  intro X hP hw hK hc i pins s U H E I hf st' hg;subst hP hw hK;obtain⟨f0,f1,f2,f3,f4,f5⟩:=hf it (by simp);have W:=Walks.longrange (prog:=X.prog) (w:=X.w) (I.ok.hd hc) it lo 1 n;refine W.item i s _ _ hg st' fun v h' tk hv st'' kk=>?_
  obtain⟨t,rfl⟩:=hv;have I1:Inv X pins U H { s with heap:=h',toks:=tk }:=I.turned (fun b o hb e=>kk b o (by simpa using hb) e) f0 f1 f3 f4 f5;rw[Int.mul_one];exact⟨_,rfl,zcR (s:={ s with heap:=h',toks:=tk }) (n:="longrange_iterator") st'' rfl rfl (by decide) ⟨.int (lo+i),H,I1,⟨t,rfl⟩,⟨rfl,rfl⟩,st'',fun b hb=>(hf b hb).1⟩⟩
 done:=by intro X hP hw hK hc i pins s U H E I hf st' hg;subst hP hw hK;obtain⟨f0,f1,f2,f3,f4,f5⟩:=hf it (by simp);exact wpAny_pyNext_long_end (I.ok.hd hc) st' (by have:n<=i:=hg;lia) fun h' eb=>⟨rfl,I.turned (t':=s.toks) (fun b o hb e=>eb b o hb e) f0 f1 f3 f4 f5⟩
 self:=fun _ _ _ _ _ st h=>wpAny_pyIter_longiter st h
def range_any {R:It->Hp->Prop}{E:Â->Á->Prop}{lo hi:Int}{t u v:Tok}{tk:Nat}(I:Inv X pins U H s)(q:R (Itr lo (hi-lo).toNat) H):wpAny (model X.prog X.w) X.A (pyIter (.ref s.heap.objs.size)) (PIE X pins U tg R) E { s with heap:=s.heap.push { cls:=.type "range",data:=.fields #[.int lo t,.int hi u,.int 1 v] },toks:=tk }:=by
  have I1:Inv X pins U H { s with heap:=s.heap.push { cls:=.type "range",data:=.fields #[.int lo t,.int hi u,.int 1 v] },toks:=tk }:=I.kept fun b o e=>Heap.get?_push_of_some _ e
  have e1:lo+((0:Nat):Int)*1=lo:=by simp
  have e2:(((hi-lo).toNat:Nat):Int)-((0:Nat):Int)=Builtin.Range.rangeSize lo hi 1:=by rw[rangeSize_one];split<;>lia
  cases hsm:Builtin.Range.small lo hi 1 with
  |true =>
    refine wpAny_pyIter_range (IsRange.new ..) hsm ?_
    refine⟨(s.heap.push { cls:=.type "range",data:=.fields #[.int lo t,.int hi u,.int 1 v] }).objs.size,[(s.heap.push { cls:=.type "range",data:=.fields #[.int lo t,.int hi u,.int 1 v] }).objs.size],_,_,H,rfl,
      I1.kept (t':=tk) fun b o e=>Heap.get?_push_of_some _ e,zft _ lo (hi-lo).toNat,?_,fun b hb=>?_,q⟩
    . show IsRangeIter _ _ (lo+((0:Nat):Int)*1) ((((hi-lo).toNat:Nat):Int)-((0:Nat):Int)) 1;rw[e1,e2];exact Heap.get?_push_size _ rfl
    . have e:b=(s.heap.push { cls:=.type "range",data:=.fields #[.int lo t,.int hi u,.int 1 v] }).objs.size:=by simpa using hb
      subst e;exact I1.fpOk (Nat.le_refl _) (I1.hok.fresh (Nat.le_refl _))
  |false =>
    refine wpAny_pyIter_longrange (IsRange.new ..) hsm ?_
    refine⟨(s.heap.push { cls:=.type "range",data:=.fields #[.int lo t,.int hi u,.int 1 v] }).objs.size,[(s.heap.push { cls:=.type "range",data:=.fields #[.int lo t,.int hi u,.int 1 v] }).objs.size],_,_,H,rfl,
      I1.kept (t':=tk) fun b o e=>Heap.get?_push_of_some _ e,zjP _ lo (hi-lo).toNat,?_,fun b hb=>?_,q⟩
    . show IsLongIter _ _ (lo+((0:Nat):Int)*1) ((((hi-lo).toNat:Nat):Int)-((0:Nat):Int)) 1;rw[e1,e2];exact Heap.get?_push_size _ rfl
    . have e:b=(s.heap.push { cls:=.type "range",data:=.fields #[.int lo t,.int hi u,.int 1 v] }).objs.size:=by simpa using hb
      subst e;exact I1.fpOk (Nat.le_refl _) (I1.hok.fresh (Nat.le_refl _))
def znQ {a:Expr}{t:DA}{p pos:Pos}(hm:X.mg "range"=none)(ha:PAD X [a] t)(hg:autoParam (Gl X "range") zq)(hs:autoParam (starEach [a] X.env=[(false,eval a X.env)]) zjl):PID X tg (.Call (.Name "range" p) [a] [] pos) (zbm t):=by with_unfolding_all exact(zin (zkq hg hm ha hs) fun U H R hh=>el8 hh fun aD Z S R0 st rh q k =>
 ⟨aD,Z,S,_,st,rh,q,by rintro ds S1 vs H1 ad1 ⟨j,ed,b1,b2,q1⟩ w1 st1 r1;subst ed;obtain⟨v,rfl,rv⟩:=zbV r1;cases rv;exact⟨j,rfl,b1,b2,k _ S1 _ H1 ad1 q1 w1 st1 (zkj 0 j.toNat)⟩⟩)
def zln {K:À}{aD:List Addr}{H:Hp}(lo c:Int)(n:Nat):zfU K aD H ⟨steps lo c n,fun _=>True⟩ (ziW lo c n) where
 go:=fun ad1 H1 S i w st _ hi=>by rw[zcT]at hi;exact hi
 yld:=by
  rintro ad1 H1 S i d x H' w st _ hd ⟨e,hx⟩;subst e
  have hi:i<n:=by have:=(List.getElem?_eq_some_iff.mp hd).1;rwa[zcT]at this
  have:d=.int (lo+(i:Int)*c):=by unfold steps at hd;rw[List.getElem?_map,List.getElem?_range hi]at hd;simpa using hd.symm
  subst this;rw[hx];exact⟨Wd.refl,st,.int _⟩
 stop:=fun ad1 H1 S w st _=>by rw[zcT];exact Nat.le_refl _
def zjy {P:Program}{w:World}{K:À}{tg:Expr}(it:Addr)(lo c:Int)(n:Nat):Turn P w K tg (ziW lo c n) [it] it (fun i h=>IsLongIter h it (lo+(i:Nat)*c) ((n:Int)-(i:Nat)) c) where
 mem:=by simp
 obj:=fun i h st b hb=>by
  have e:b=it:=by simpa using hb
  subst e
  exact⟨_,st,fun v z=>by have z':Data.fields _=Data.cell v:=z;cases z'⟩
 keep:=fun i h h' st k=>k it (by simp) _ st
 item:=by
  intro X hP hw hK hc i pins s U H E I hf st' hg;subst hP hw hK;obtain⟨f0,f1,f2,f3,f4,f5⟩:=hf it (by simp);have W:=Walks.longrange (prog:=X.prog) (w:=X.w) (I.ok.hd hc) it lo c n;refine W.item i s _ _ hg st' fun v h' tk hv st'' kk=>?_
  obtain⟨t,rfl⟩:=hv;have I1:Inv X pins U H { s with heap:=h',toks:=tk }:=I.turned (fun b o hb e=>kk b o (by simpa using hb) e) f0 f1 f3 f4 f5;exact⟨_,rfl,zcR (s:={ s with heap:=h',toks:=tk }) (n:="longrange_iterator") st'' rfl rfl (by decide) ⟨.int (lo+i*c),H,I1,⟨t,rfl⟩,⟨rfl,rfl⟩,st'',fun b hb=>(hf b hb).1⟩⟩
 done:=by intro X hP hw hK hc i pins s U H E I hf st' hg;subst hP hw hK;obtain⟨f0,f1,f2,f3,f4,f5⟩:=hf it (by simp);exact wpAny_pyNext_long_end (I.ok.hd hc) st' (by have:n<=i:=hg;lia) fun h' eb=>⟨rfl,I.turned (t':=s.toks) (fun b o hb e=>eb b o hb e) f0 f1 f3 f4 f5⟩
 self:=fun _ _ _ _ _ st h=>wpAny_pyIter_longiter st h
def zoR {a b c:Expr}{t:DA}{p pos:Pos}(hm:X.mg "range"=none)(ha:PAD X [a,b,c] t)(hg:autoParam (Gl X "range") zq)(hs:autoParam (starEach [a,b,c] X.env=[(false,eval a X.env),(false,eval b X.env),(false,eval c X.env)]) zq)(hs2:autoParam (starEach [b,c] X.env=[(false,eval b X.env),(false,eval c X.env)]) zq) :
    PID X tg (.Call (.Name "range" p) [a,b,c] [] pos) (Dp.zgR t):=by
  with_unfolding_all
    rintro pins s U H R I ⟨aD,Z,S,R0,st,rh,q,k⟩
    refine Call_ (zbq I hg hm boot_range (PyProof.Rows.callWith_type1 (thn (ha pos pins s U H (fun vs H1=>∃ (i j c:Int) (n:Nat),vs=[.int i,.int j,.int c]/\(c≠0/\-(2 ^ 30)<c/\c<2 ^ 30)/\(n:Int)=Builtin.Range.rangeSize i j c/\R (ziW i c n) H1) I ⟨aD,Z,S,_,st,rh,q,fun ds S1 vs H1 ad1 hgo w1 st1 r1=>by
      obtain⟨i,j,c,n,ed,hb,hn,q1⟩:∃ (i j c:Int) (n:Nat),ds=[.int i,.int j,.int c]/\(c≠0/\-(2 ^ 30)<c/\c<2 ^ 30)/\(n:Int)=Builtin.Range.rangeSize i j c/\R0 ⟨steps i c n,fun _=>True⟩ S1:=by
        rcases hgo with⟨i,j,c,ed,hb,q1⟩|⟨i,j,ed,q1⟩
        . refine⟨i,j,c,_,ed,by lia,?_,q1⟩;unfold Builtin.Range.rangeSize;rw[if_pos (by lia:c > 0)]
          have h3:0<=(j-i-1)/c\/j<=i:=by
            by_cases h:j<=i
            . exact .inr h
            . exact .inl (Int.ediv_nonneg (by lia) (by lia))
          split<;>lia
        . refine⟨i,j,-1,_,ed,by lia,?_,q1⟩;unfold Builtin.Range.rangeSize;rw[if_neg (by lia),show -(-1:Int)=1 from rfl,Int.ediv_one];split<;>lia
      subst ed;cases r1 with
      |cons r rr =>
        cases rr with
        |cons r' rr =>
          cases rr with
          |cons r'' rr =>cases rr;cases r;cases r';cases r'';exact⟨i,j,c,n,rfl,hb,hn,k _ S1 _ H1 ad1 q1 w1 st1 (zln i c _)⟩⟩) fun us s1 ⟨vs,H1,I1,r1,q1⟩=>?_) (by rw[hs,hs2]) (by rw[hs2];rfl)))
    obtain⟨i,j,c,n,e,⟨q5,q6,q7⟩,hn,q⟩:=q1;subst e;cases r1 with
    |cons r rr =>
      cases rr with
      |cons r' rr =>
        cases rr with
        |cons r'' rr =>
          cases rr;obtain⟨t,rfl⟩:=r;obtain⟨t',rfl⟩:=r';obtain⟨t'',rfl⟩:=r'';refine call_range_3 (by lia) ?_ (Or.inl (PyProof.noPylong_small (by lia)));generalize hh:s1.heap.push { cls:=.type "range",data:=.fields #[.int i t,.int j t',.int c t''] }=hp;have hnew:∀ b o,s1.heap.get? b=some o->hp.get? b=some o:=fun b o e=>by rw[<- hh];exact Heap.get?_push_of_some _ e
          have hr:IsRange hp s1.heap.objs.size i j c t t' t'':=by rw[<- hh];exact IsRange.new ..
          have I2:Inv X pins U H1 { s1 with heap:=hp,toks:=s1.toks }:=I1.kept hnew;have e1:i+((0:Nat):Int)*c=i:=by simp
          have e2:(n:Int)-((0:Nat):Int)=Builtin.Range.rangeSize i j c:=by rw[<- hn];lia
          cases hsm:Builtin.Range.small i j c with
          |true =>
            refine wpAny_pyIter_range (s:={ s1 with heap:=hp,toks:=s1.toks }) hr hsm ?_;refine⟨hp.objs.size,[hp.objs.size],_,_,H1,rfl,I2.kept (t':=s1.toks) fun b o e=>Heap.get?_push_of_some _ e,zii _ i c _,?_,fun b hb=>?_,q⟩
            . show IsRangeIter _ _ (i+((0:Nat):Int)*c) ((n:Int)-((0:Nat):Int)) c;rw[e1,e2];exact Heap.get?_push_size _ rfl
            . have e:b=hp.objs.size:=by simpa using hb
              subst e;exact I2.fpOk (Nat.le_refl _) (I2.hok.fresh (Nat.le_refl _))
          |false =>
            refine wpAny_pyIter_longrange (s:={ s1 with heap:=hp,toks:=s1.toks }) hr hsm ?_;refine⟨hp.objs.size,[hp.objs.size],_,_,H1,rfl,I2.kept (t':=s1.toks) fun b o e=>Heap.get?_push_of_some _ e,zjy _ i c _,?_,fun b hb=>?_,q⟩
            . show IsLongIter _ _ (i+((0:Nat):Int)*c) ((n:Int)-((0:Nat):Int)) c;rw[e1,e2];exact Heap.get?_push_size _ rfl
            . have e:b=hp.objs.size:=by simpa using hb
              subst e;exact I2.fpOk (Nat.le_refl _) (I2.hok.fresh (Nat.le_refl _))
def zof {a b:Expr}{t:DA}{p pos:Pos}(hm:X.mg "range"=none)(ha:PAD X [a,b] t)(hg:autoParam (Gl X "range") zq)(hs:starEach [a,b] X.env=[(false,eval a X.env),(false,eval b X.env)]:=by exact zdw rfl rfl)(hs2:autoParam (starEach [b] X.env=[(false,eval b X.env)]) zjl) :
  PID X tg (.Call (.Name "range" p) [a,b] [] pos) (zet t):=by
 with_unfolding_all
  rintro pins s U H R I ⟨aD,Z,S,R0,st,rh,q,k⟩
  refine Call_ (zbq I hg hm boot_range (PyProof.Rows.callWith_type1 (thn (ha pos pins s U H (fun vs H1=>∃ i j:Int,vs=[.int i,.int j]/\R (Itr i (j-i).toNat) H1) I ⟨aD,Z,S,_,st,rh,q,by rintro ds S1 vs H1 ad1 ⟨i,j,ed,q1⟩ w1 st1 r1;subst ed;obtain⟨v,u,rfl,rv,ru⟩:=zl5 r1;cases rv;cases ru;exact⟨i,j,rfl,k _ S1 _ H1 ad1 q1 w1 st1 (zkj i _)⟩⟩) fun us s1 ⟨vs,H1,I1,r1,q1⟩=>?_) (by rw[hs,hs2]) (by rw[hs2];rfl)))
  obtain⟨i,j,e,q⟩:=q1;subst e;cases r1 with
  |cons r rr =>
   cases rr with
   |cons r' rr =>cases rr;obtain⟨t,rfl⟩:=r;obtain⟨t',rfl⟩:=r';exact call_range_2 (range_any I1 q)
def zol {pos:Pos}(hi:PID X tg iter wi)(hg:PGD X 1000 tg g)(hb:zbx X body t)(hp:autoParam (PassesOwn (model X.prog X.w) X.A X.env X.xe) zkJ)(hc:autoParam (X.calm=true) zq)(hs:autoParam (∀ x,foldedSetIterable iter X.env x=pure x) zeB):PSD X (.For tg iter body [] pos) (zcX wi g t):=by
 with_unfolding_all
  obtain⟨g',pg,rg⟩:=hg;refine zau (zp1 hp hc hi pg hb hs) fun E U H hh=>el8 hh fun aD Z S E0 so rh q k=>?_
  refine⟨aD,Z,S,_,so,rh,q,fun J0 S1 J H1 ad1 ⟨W,w0,hok,step,fin⟩ d1 st1 it=>?_⟩;refine⟨fun i m σ' H'=>m=J0.items.length-i/\i<=J0.items.length/\∃ aD' ρ' S',W i ρ' S'/\Wd ad1 H1 aD' H'/\zm X.K aD' H' S'/\zT X.K aD' H' ρ' σ',⟨J0.items.length,rfl,Nat.zero_le _,ad1,Z,S1,w0,Wd.refl,st1,rh.wd d1⟩,?_⟩;rintro i m σ2 H2 ⟨rfl,hi2,ad2,ρ2,S2,w2,d2,st2,rh2⟩;by_cases hlt:i<J0.items.length
  ·have ed:J0.items[i]?=some J0.items[i]:=List.getElem?_eq_getElem hlt;refine .inr ⟨it.go ad2 H2 S2 i d2 st2 (hok _ _ _ w2) hlt,fun σ' H'=>∃ aD' ρ' S',W (i+1) ρ' S'/\Wd ad1 H1 aD' H'/\zm X.K aD' H' S'/\zT X.K aD' H' ρ' σ',?_,fun x H' hy=>?_⟩
   ·rintro σ' H' ⟨aD',ρ',S',w',d',st',rh'⟩;exact⟨J0.items.length-(i+1),by lia,rfl,hlt,aD',ρ',S',w',d',st',rh'⟩
   ·obtain⟨d3,st3,r3⟩:=it.yld ad2 H2 S2 i _ x H' d2 st2 (hok _ _ _ w2) ed hy;refine rg ad2 H' S2 ρ2 σ2 _ x _ _ st3 (rh2.wd d3) r3 (step i _ ρ2 S2 ed w2) fun ρ4 S4 σ4 H4 ad4 q4 d4 st4 rh4 _ _=>?_
    have d14:=(d2.trans d3).trans d4;have d04:=d1.trans d14;exact⟨ad4,ρ4,S4,{ E0 with nx:=W (i+1),ct:=W (i+1),bk:=E0.nx },st4,rh4,q4,⟨fun ρ' S' σ' H' aD' q' w' st' rh'=>⟨aD',ρ',S',q',d14.trans w',st',rh'⟩,k.rt.wd d04,fun ρ' S' σ' H' aD' q' w' st' rh'=>k.nx ρ' S' σ' H' aD' q' (d04.trans w') st' rh',fun ρ' S' σ' H' aD' q' w' st' rh'=>⟨aD',ρ',S',q',d14.trans w',st',rh'⟩⟩⟩
  ·have e:i=J0.items.length:=by lia
   subst e;exact .inl ⟨it.stop ad2 H2 S2 d2 st2 (hok _ _ _ w2),k.nx ρ2 S2 σ2 H2 ad2 (fin ρ2 S2 w2) (d1.trans d2) st2 rh2⟩
end
theorem zhv:∀ {a b:L2.St} (n:Nat),(∀ j,j<n->a[j]?=some none\/a.length<=j)->b.length=a.length->(∀ j,n<=j->b[j]?=a[j]?)->Agr a b
 |[],[],_,_,_,_=>True.intro
 |[],_::_,_,_,h,_=>by simp at h
 |_::_,[],_,_,h,_=>by simp at h
 |x::a,y::b,n,h0,hl,h=>by
  have hl':b.length=a.length:=by simpa using hl
  cases n with
  |zero =>
   have e:=h 0 (Nat.le_refl _);have e':y=x:=by simpa using e
   subst e';have rest:Agr a b:=zhv 0 (fun j hj=>absurd hj (Nat.not_lt_zero _)) hl' fun j _=>by simpa using h (j+1) (Nat.zero_le _)
   cases y with
   |none=>exact rest
   |some v=>exact⟨rfl,rest⟩
  |succ n =>
   have rest:Agr a b:=zhv n (fun j hj=>by
    rcases h0 (j+1) (by lia)with e|e
    ·exact .inl (by simpa using e)
    ·exact .inr (by simpa using e)) hl' fun j hj=>by simpa using h (j+1) (by lia)
   rcases h0 0 (Nat.succ_pos _)with e|e
   ·have e':x=none:=by simpa using e
    subst e';exact rest
   ·simp at e
def zno {K:À}(h:zT K aD H Z U)(own:List Str)(fv:List Nat):zT K aD H (ze5 own.length fv Z) (cst own fv U) where
  len:=by unfold ze5 cst;rw[List.length_append,List.length_append,List.length_replicate,List.length_replicate,List.length_map,List.length_map]
  val:=fun i d e=>by
    unfold ze5 at e;unfold cst;by_cases hi:i<own.length
    . rw[List.getElem?_append_left (by rw[List.length_replicate];exact hi),List.getElem?_replicate]at e;split at e<;>cases e
    . have hi':own.length<=i:=Nat.le_of_not_lt hi;rw[List.getElem?_append_right (by rw[List.length_replicate];exact hi'),List.length_replicate,List.getElem?_map]at e;rw[List.getElem?_append_right (by rw[List.length_replicate];exact hi'),List.length_replicate,List.getElem?_map];cases hf:fv[i-own.length]? with
      |none=>rw[hf]at e;cases e
      |some j =>
        rw[hf]at e;simp only[Option.map_some,Option.some.injEq]at e ⊢;cases hr:Z[j]? with
        |none=>rw[hr]at e;cases e
        |some o =>rw[hr]at e;have e':o=some d:=e;subst e';obtain⟨v,ev,rv⟩:=h.val j d hr;exact⟨v,by rw[ev];rfl,rv⟩
@[irreducible] def zg5 (X:Cx)(ifs:List Expr)(t:DT):Prop:=PFs X ifs (upT X.K t)
def zoc {X:Cx}:zg5 X [] zan:=by with_unfolding_all exact(fun pins s U H Q I hh=>el8 hh fun aD Z S Q0 st rh q k=>zri pins s U H Q I (k true S H aD q Wd.refl st))
def zm8 (h:PTD X c t):zg5 X [c] t:=by with_unfolding_all exact(zqz h)
def ofT {A B:Prop}(h:if true=true then A else B):A:=by rw[if_pos rfl]at h;exact h
def ofF {A B:Prop}(h:if false=true then A else B):B:=by rw[if_neg Bool.false_ne_true]at h;exact h
def zmY {K:À}{own:List Str}{fv:List Nat}{wi:DI}{tc:DT}{te:DE}(rg:zcg K own.length g g'){U:L2.St}{H:Hp}{Q:VK}(h:up K (dLC own.length fv wi g tc te) U H Q):tLC own fv (upI K wi) g' (upT K tc) (up K te) U H Q:=by
 obtain⟨aD,Z,S,Q0,so,rh,q,k⟩:=h;refine⟨aD,Z,S,_,so,rh,q,fun J0 S1 J H1 ad1 ⟨hbig,W,w0,hok,step,fin⟩ d1 st1 it=>?_⟩;intro p hp
 refine⟨fun i m H'=>m=J0.items.length-i/\i<=J0.items.length/\∃ aD' S' ys vs,W i ys S'/\Wd ad1 H1 aD' H'/\zm K aD' H' S'/\p∉aD'/\H' p=some (.lst vs)/\zc K aD' H' ys vs/\vs.length<=i,
  ⟨J0.items.length,rfl,Nat.zero_le _,ad1,S1,[],[],w0,Wd.laid hp,st1.laid hp,st1.fresh hp,zaa,.nil,Nat.le_refl _⟩,?_⟩
 rintro i m H2 ⟨rfl,hi2,ad2,S2,ys,vs,w2,d2,st2,hp2,hv2,r2,hl2⟩;by_cases hlt:i<J0.items.length
 ·have ed:J0.items[i]?=some J0.items[i]:=List.getElem?_eq_getElem hlt;refine .inr ⟨it.go ad2 H2 S2 i d2 st2 (hok _ _ _ w2) hlt,fun x H' hy=>?_⟩;obtain⟨d3,st3,r3⟩:=it.yld ad2 H2 S2 i _ x H' d2 st2 (hok _ _ _ w2) ed hy;have rh3:=zno (rh.wd ((d1.trans d2).trans d3)) own fv;refine rg ad2 H' S2 _ _ _ x _ _ st3 rh3 r3 (step i _ ys S2 ed w2) fun ρ4 S4 σ4 H4 ad4 q4 d4 st4 rh4 l4 a4=>?_
  refine⟨zhv own.length (fun j hj=>.inl ?_) l4 a4,ad4,ρ4,S4,_,st4,rh4,q4,fun b S5 H5 ad5 q5 d5 st5=>?_⟩
  ·unfold cst;rw[List.getElem?_append_left (by rw[List.length_replicate];exact hj),List.getElem?_replicate,if_pos hj]
  have fwd:∀ {ad9:List Addr} {H9:Hp},Wd ad2 H2 ad9 H9->p∉ad9/\H9 p=some (.lst vs):=fun {ad9 H9} w=>⟨(fun m=>by have z:=w.new p m hp2;rw[hv2]at z;cases z),w.keep p _ hp2 hv2⟩
  have d25:=(d3.trans d4).trans d5;cases b with
  |true =>refine zlh ?_;have q5:=Dp.ofT q5;refine⟨ad5,ρ4,S5,_,st5,rh4.wd d5,q5,fun y S6 v H6 ad6 q6 d6 st6 r6=>?_⟩;have d26:=d25.trans d6;obtain⟨n6,e6⟩:=fwd d26;have hw:Wr ad6 H6 ad6 (upd H6 p (.lst (vs++[v]))):=Wr.hid e6;have hvl:vs.length<sizeLine:=zj0 (by lia);exact⟨vs,e6,hvl,J0.items.length-(i+1),by lia,rfl,hlt,ad6,S6,ys++[y],vs++[v],q6,(d2.trans d26).hid hp,st6.hid e6 n6 (st1.bfree hp),n6,zaa,zc.wr hw ((r2.wd d26).append (.cons r6 .nil)),by rw[List.length_append];exact Nat.succ_le_succ hl2⟩
  |false =>refine zlb ?_;have q5:=Dp.ofF q5;obtain⟨n5,e5⟩:=fwd d25;exact⟨J0.items.length-(i+1),by lia,rfl,hlt,ad5,S5,ys,vs,q5,d2.trans d25,st5,n5,e5,r2.wd d25,by lia⟩
 ·have e:i=J0.items.length:=by lia
  subst e;refine .inl ⟨it.stop ad2 H2 S2 d2 st2 (hok _ _ _ w2),?_⟩;exact k _ _ _ _ (ad2++[p]) (fin ys S2 w2) (d1.trans (d2.add hp)) (st2.add hv2 hp2 r2 (st1.bfree hp)) (.ref (by rw[<- st2.len,List.getElem?_append_right (Nat.le_refl _),Nat.sub_self];rfl))
section
variable {X:Cx}{sc:Scope}{tg iter elt:Expr}{ifs:List Expr}{own free:List Str}{fv:List Nat}{wi:DI}{g:DG}{tc:DT}{te:DE}{pos:Pos}
def zsz (hfr:zbi (fun x=>X.env.kindOf x=some .cell) sc.names)(hfv:zc6 X sc free fv)(hi:PID X tg iter wi)(hg:zcg X.K own.length g g'/\∀ cl C s₀ H₀ ex,PG (inner X sc (own++free) cl C s₀ H₀ ex) tg g')(ht:∀ cl C s₀ H₀ ex,zg5 (inner X sc (own++free) cl C s₀ H₀ ex) ifs tc)(he:∀ cl C s₀ H₀ ex,PD (inner X sc (own++free) cl C s₀ H₀ ex) elt te)(hcalm:autoParam (X.calm=true) zq)(hxe:autoParam ((X.xe=fun _ _=>False)) zq)(hkind:autoParam (sc.kind=.function) zq)(hcell:autoParam (∀ y∈sc.names,y.2=.cell->sc.names.lookup y.1=some .cell) zgN)(hnames:autoParam (∀ y∈sc.names,y.2=.local->sc.names.lookup y.1=some .local) zgN)(hs:autoParam (∀ x,foldedSetIterable iter X.env x=pure x) zeB):PD X (.ListComp elt [⟨tg,iter,ifs,0⟩] sc pos) (dLC own.length fv wi g tc te):=by with_unfolding_all exact(zad (zs6 (tc:=upT X.K tc) (te:=up X.K te) hcalm hxe hkind hcell hnames hfr hfv hi hg.2 ht he hs) fun _ _ _=>zmY hg.1)
def zmf {i:Nat}{y:Str}{py spos:Pos}(hN:X.N.Nodup)(hfr:zbi (fun x=>X.env.kindOf x=some .cell) sc.names)(hfv:zc6 X sc free fv)(hi:PID X tg iter wi)(hg:zcg X.K own.length g g'/\∀ cl C s₀ H₀ ex,PG (inner X sc (own++free) cl C s₀ H₀ ex) tg g')(ht:∀ cl C s₀ H₀ ex,zg5 (inner X sc (own++free) cl C s₀ H₀ ex) ifs tc)(he:∀ cl C s₀ H₀ ex,PD (inner X sc (own++free) cl C s₀ H₀ ex) elt te)(hy:autoParam (X.N[i]?=some y) zq)(hyl:autoParam (X.env.scope.names.lookup y=some .local) zq)(hcalm:autoParam (X.calm=true) zq)(hxe:autoParam ((X.xe=fun _ _=>False)) zq)(hkind:autoParam (sc.kind=.function) zq)(hcell:autoParam (∀ y∈sc.names,y.2=.cell->sc.names.lookup y.1=some .cell) zgN)(hnames:autoParam (∀ y∈sc.names,y.2=.local->sc.names.lookup y.1=some .local) zgN)(hsw:autoParam (swapsWith (.ListComp elt [⟨tg,iter,ifs,0⟩] sc pos) (some (.Name y py)) spos.line X.env=pure true) zq)(hs:autoParam (∀ x,foldedSetIterable iter X.env x=pure x) zeB):PSD X (.Assign [.Name y py] (.ListComp elt [⟨tg,iter,ifs,0⟩] sc pos) spos) (zp (dLC own.length fv wi g tc te) (zK i)):=by with_unfolding_all exact(zau (zoU (tc:=upT X.K tc) (te:=up X.K te) hN hy hyl hcalm hxe hkind hcell hnames hfr hfv hi hg.2 ht he hsw hs) fun E U H hh=>el8 hh fun aD Z S E0 so rh q k =>zmY (Q:=fun x H1=>L2.zK i x U H1 E.nx) hg.1 ⟨aD,Z,S,_,so,rh,q,fun d S' v H' aD' q' w st' r=>k.nx _ S' _ H' aD' q' w st' ((rh.wd w).set r i)⟩)
def zkH {K:À}{b:Nat}:zgP K b zbP L2.zbP:=fun aD H S Z U ds vs Q0 Q st rh r zq51 k=>by obtain⟨e,q⟩:=zq51;subst e;cases r;exact⟨rfl,k Z S U H aD q Wd.refl st rh rfl fun _ _=>rfl⟩
def zjc {K:À}(r1:zcg K b t t')(r2:zgP K b u u'):zgP K b (z9 t u) (L2.z9 t' u'):=fun aD H S Z U ds vs Q0 Q st rh r zq52 k=>by
 obtain⟨d,rs,ed,q⟩:=zq52;subst ed;cases r with
 |cons r t =>refine⟨_,_,rfl,r1 aD H S Z U d _ _ _ st rh r q fun ρ1 S1 σ1 H1 ad1 q1 w1 st1 rh1 l1 a1=>?_⟩;exact r2 ad1 H1 S1 ρ1 σ1 _ _ _ _ st1 rh1 (t.wd w1) q1 fun ρ2 S2 σ2 H2 ad2 q2 w2 st2 rh2 l2 a2=>k ρ2 S2 σ2 H2 ad2 q2 (w1.trans w2) st2 rh2 (l2.trans l1) fun j hj=>(a2 j hj).trans (a1 j hj)
def zlc {K:À}{n:Nat}(r:zgP K b t t'):zcg K b (zbW n t) (L2.zbW K n t'):=fun aD H S Z U d v Q0 Q st rh rv zq53 k=>by
 obtain⟨xs,ed,hl,q⟩:=zq53;subst ed;cases rv with
 |tup h1 rs=>exact⟨_,_,rfl,SqT.of h1,by rw[<- rs.length];exact hl,r aD H S Z U xs _ _ _ st rh rs q k⟩
end
def zhZ {K:À}(N:List Str)(r:zc K aD H ds vs):zT K aD H (zb6 N.length ds) (L2.start N vs) where
  len:=by unfold zb6 L2.start;rw[List.length_append,List.length_append,List.length_map,List.length_map,List.length_replicate,List.length_replicate,r.length]
  val:=fun i d e=>by
    unfold zb6 at e;unfold L2.start;by_cases hi:i<ds.length
    . rw[List.getElem?_append_left (by rw[List.length_map];exact hi),List.getElem?_map]at e;rw[List.getElem?_append_left (by rw[List.length_map,<- r.length];exact hi),List.getElem?_map];cases hd:ds[i]? with
      |none=>rw[hd]at e;cases e
      |some d' =>rw[hd]at e;cases e;obtain⟨v,ev,rv⟩:=r.get hd;exact⟨v,by rw[ev];rfl,rv⟩
    . rw[List.getElem?_append_right (by rw[List.length_map];exact Nat.le_of_not_lt hi),List.getElem?_replicate]at e;split at e<;>cases e
def zc.cut1 {K:À}{aD aD':List Addr}{H:Hp}(k:Nat)(h1:∀ d v,fl k d=true->Rel K aD H d v->Rel K aD' H d v):∀ ds vs,ds.all (fl k)=true->zc K aD H ds vs->zc K aD' H ds vs:=by
 intro ds
 induction ds with
 |nil=>intro vs _ r;cases r;exact .nil
 |cons d ds ih =>
  intro vs hf r;rw[List.all_cons,Bool.and_eq_true]at hf;cases r with
  |cons r t=>exact .cons (h1 d _ hf.1 r) (ih _ hf.2 t)
def Rel.cut {K:À}{aD aD':List Addr}{H:Hp}:∀ (k:Nat) (d:D) (v:V),fl k d=true->Rel K aD H d v->Rel K aD' H d v:=by
 intro k
 induction k with
 |zero =>
  intro d v hf r;cases r with
  |non=>exact .non
  |bl b=>exact .bl b
  |int i=>exact .int i
  |str x=>exact .str x
  |ty n=>cases hf
  |tup h r=>cases hf
  |rl h r=>cases hf
  |kt h r=>cases hf
  |ref h=>cases hf
  |exn _ _ _=>cases hf
 |succ k ih =>
  intro d v hf r;cases r with
  |non=>exact .non
  |bl b=>exact .bl b
  |int i=>exact .int i
  |str x=>exact .str x
  |ty n=>cases hf
  |tup h r=>exact .tup h (zc.cut1 k ih _ _ hf r)
  |rl h r=>cases hf
  |kt h r=>cases hf
  |ref h=>cases hf
  |exn _ _ _=>cases hf
theorem zc.cut {K:À}{aD':List Addr}(k:Nat)(ds:List D)(vs:List V)(hf:ds.all (fl k)=true)(r:zc K aD H ds vs):zc K aD' H ds vs:=zc.cut1 k (Rel.cut k) ds vs hf r
end Dp
namespace Dp
open PySem PySem.Spec PyProof.Rows L2 My
variable [B:Bs]
mutual
theorem Rel.low {K:À}{aD aD':List Addr}{H H':Hp}{m:Nat}(hm:aD.length<=m):∀ {d:D} {u v:V},Rel K aD H d u->Rel K aD' H' d v->Rel K (aD'.take m) H' d v
 |_,_,_,.non,r=>by cases r;exact .non
 |_,_,_,.bl b,r=>by cases r;exact .bl b
 |_,_,_,.int i,r=>by cases r;exact .int i
 |_,_,_,.str x,r=>by cases r;exact .str x
 |_,_,_,.ty n,r=>by cases r;exact .ty n
 |_,_,_,.tup _ t,r=>by
  cases r with
  |tup h t'=>exact .tup h (zc.low hm t t')
 |_,_,_,.rl _ t,r=>by
  cases r with
  |rl h t'=>exact .rl h (zc.low hm t t')
 |_,_,_,.kt _ t,r=>by
  cases r with
  |kt h t'=>exact .kt h (zc.low hm t t')
 |_,_,_,.exn _ _ _,r=>by
  cases r with
  |exn h e n=>exact .exn h e n
 |_,_,_,.ref h,r=>by
  cases r with
  |ref h'=>exact .ref (by rw[List.getElem?_take_of_lt (Nat.lt_of_lt_of_le (My.zam h) hm)];exact h')
theorem zc.low {K:À}{aD aD':List Addr}{H H':Hp}{m:Nat}(hm:aD.length<=m):∀ {ds:List D} {us vs:List V},zc K aD H ds us->zc K aD' H' ds vs->zc K (aD'.take m) H' ds vs
 |_,_,_,.nil,r=>by cases r;exact .nil
 |_,_,_,.cons r t,q=>by
  cases q with
  |cons r' t'=>exact .cons (Rel.low hm r r') (zc.low hm t t')
end
theorem z6.low {K:À}{aD aD':List Addr}{H H':Hp}{m:Nat}(hm:aD.length<=m):∀ {fs:List (Str×D)} {us vs:List (Str×V)},z6 K aD H fs us->z6 K aD' H' fs vs->z6 K (aD'.take m) H' fs vs
 |_,_,_,.nil,r=>by cases r;exact .nil
 |_,_,_,.cons r t,q=>by
  cases q with
  |cons r' t'=>exact .cons (Rel.low hm r r') (z6.low hm t t')
theorem RelK.low {K:À}{aD aD':List Addr}{H H':Hp}{m:Nat}(hm:aD.length<=m):∀ {fs:List (Str×D)} {us vs:List (Key×V)},RelK K aD H fs us->RelK K aD' H' fs vs->RelK K (aD'.take m) H' fs vs
 |_,_,_,.nil,r=>by cases r;exact .nil
 |_,_,_,.cons r t,q=>by
  cases q with
  |cons r' t'=>exact .cons (Rel.low hm r r') (RelK.low hm t t')
theorem zbv.low {κ:Type}{K:À}{aD aD':List Addr}{H H':Hp}{m:Nat}(hm:aD.length<=m):∀ {fs:List (κ×D)} {us vs:List (κ×V)},zbv K aD H fs us->zbv K aD' H' fs vs->zbv K (aD'.take m) H' fs vs
 |_,_,_,.nil,r=>by cases r;exact .nil
 |_,_,_,.cons r t,q=>by
  cases q with
  |cons r' t'=>exact .cons (Rel.low hm r r') (zbv.low hm t t')
def zfe {K:À}(st:zm K aD H S)(k:KK K aD H Q0 Q):KK K aD H (Fin S Q0) Q:=by
 intro d S' v H' aD' hf w st' r;rcases hf with q|⟨S1,pre,hlen,hd,hc,q⟩
 ·exact k d S' v H' aD' q w st' r
 have hS:S1.length<=S'.length:=pre.length_le;have had:aD.length<=S1.length:=by rw[st.len];exact hlen
 have htk:∀ {n:Nat} {a:Addr},(aD'.take S1.length)[n]?=some a->aD'[n]?=some a:=fun {n a} e=>by have hn:=My.zam e;rw[List.length_take]at hn;rw[List.getElem?_take_of_lt (by lia)]at e;exact e
 have w1:Wd aD H (aD'.take S1.length) H':=by refine⟨?_,w.keep,w.tup,w.frz,fun b m n=>w.new b (List.mem_of_mem_take m) n⟩;obtain⟨t,rfl⟩:=w.pre;rw[List.take_append,List.take_of_length_le had];exact List.prefix_append _ _
 refine k d S1 v H' _ q w1 ⟨st.wd.trans w1,by rw[List.length_take,st'.len];lia,st'.nd.sublist (List.take_sublist _ _),fun n a c e1 e2=>?_⟩ ?_
 ·have e1':=htk e1;have ok:=st'.cell n a c e1' (zeu pre e2);rcases hc n c e2 with h|h
  ·obtain⟨a0,ea,ok0⟩:=st.get h;cases c with
   |ins c fs =>obtain⟨C,dx,vs,hv,c1,c2,rv,hn⟩:=ok;obtain⟨_,_,us,_,_,_,ru,_⟩:=ok0;exact⟨C,dx,vs,hv,c1,c2,z6.low had ru rv,hn⟩
   |dk kvs =>obtain⟨vs,hv,rv⟩:=ok;obtain⟨us,hu,ru⟩:=ok0;exact⟨vs,hv,RelK.low had ru rv⟩
   |dt kvs =>obtain⟨vs,hv,rv⟩:=ok;obtain⟨us,hu,ru⟩:=ok0;exact⟨vs,hv,zbv.low had ru rv⟩
   |tab x l c=>exact ok
   |lst xs =>obtain⟨vs,hv,rv⟩:=ok;obtain⟨us,hu,ru⟩:=ok0;exact⟨vs,hv,zc.low had ru rv⟩
  ·cases c with
   |ins c fs=>cases h
   |dk _=>cases h
   |dt _=>cases h
   |tab _ _ _=>cases h
   |lst xs =>obtain⟨vs,hv,rv⟩:=ok;exact⟨vs,hv,zc.cut 20 _ _ h rv⟩
 ·rcases hd with h|⟨n,rfl,hn⟩
  ·exact Rel.cut 20 _ _ h r
  ·cases r with
   |ref e=>exact .ref (by rw[List.getElem?_take_of_lt hn];exact e)
omit B in
def znu {P:Program}{w:World}{K:À}{mg:Str->Option Â}{base:Heap}{st:Stmt}{k:Nat}{sp:DSp}(F:Fun K x qual st f fd)(S:zcz N ps (zF st))(len:∀ ds So Q,sp ds So Q->ds.length=ps.length)(body:BodyOk N.length b sp)(term:∀ (cdv:Â) (A:Around) (outer:List Env) (s:Á) (H:Hp) (E:XK),zP k (A.deeper (envOfC qual (zF st) s.heap.objs.size f cdv))->∀ [Bs],zbx (zc5 CX0 P w K mg base N qual (zF st) f cdv A outer s H E).nox (z7 st) b) :
  zaF P w K mg base CX0 (k+1) f fd ps (upF K sp):=by
 with_unfolding_all
  refine F.ok S (by rintro vs H Q E ⟨aD,So,ds,Q0,so,r,hf,kk⟩;exact by rw[<- r.length];exact len ds So Q0 hf) fun cdv A outer s H vs Q E hr ⟨aD,So,ds,Q0,so,r,hf,kk⟩=>?_
  letI:Bs:=⟨aD,H⟩
  refine⟨_,term cdv A outer s H E hr,aD,zb6 N.length ds,So,_,so,zhZ N r,body ds So Q0 hf,⟨fun Z S' U H' aD' q w' st' rh=>zfe so kk .non S' .non H' aD' q w' st' .non,zfe so kk,fun _ _ _ _ _ q=>q.elim,fun _ _ _ _ _ q=>q.elim⟩⟩
omit B in
def zrI {K:À}{ns:List Int}(hl:ns.length<=63)(hg:∀ n∈ns,Hg n)(hO:Only H)(hS:SqL K H a (ns.map V.int)):upF K zde [.ref a] H (fun v _=>v=.bl true) fun _ _ _=>False:=by
 have hr:zeS K H a (ns.map V.int):=by
  rcases hS with(h|h)|h
  ·rcases hO a with e|⟨o,xs,e⟩
   ·rw[h]at e;cases e
   ·rw[h]at e;cases e
  ·exact .inl h
  ·exact .inr h
 refine⟨[],[],[.rl (ns.map D.int)],fun d _=>d=.bl true,@zm.mk ⟨[],H⟩ _ _ _ _ Wd.refl rfl List.nodup_nil (fun n a c e=>by simp at e),.cons (.rl hr (zc.mk_ints ns)) .nil,⟨ns,rfl,⟨rfl,hg⟩,hl,fun _=>rfl⟩,fun d S' v H' aD' q w st' r=>?_⟩;have q':d=.bl true:=q;subst q';cases r;rfl
omit B in
theorem zgY:∀ {ns:List Int} {n:Int},n∈ns->PySem.W.WData.weight (.int n)<=PySem.W.WData.weightAll (ns.map PySem.W.WData.int)
 |m::ns,n,h=>by
  rw[List.map_cons,PySem.W.WData.weightAll];rcases List.mem_cons.mp h with rfl|h
  ·lia
  ·have:=zgY h;lia
omit B in
def zlK {l:PySem.W.OpenLaw}{n:Nat}{q:Program}{loose:List Str}{XP:(Str->Option Â)->Heap->Prop}{YP:World->Heap->Prop}{d:DefRec}{K:Params->À}{sp:World->Sp}{x:Str}(hn:l.most=some n)(hn2:n<=sizeLine)(hdf:d.params.defaults=[])(hr:zP k callerA)(hY:∀ (w:World) (h:Heap),YP w h->(K w.params).In h)(F:∀ (w:World) (mg:Str->Option Â) (fa:Addr) (h:Heap),(K w.params).In h->h.Ns mainGlobals mg->mg d.name=some (.ref fa) ->
   ∃ fd:FuncData,(∀ (s:Á) (u:Â),BindsTo s fd ⟨[u],[]⟩ [(x,u)])/\∀ base:Heap,(K w.params).In base->base.Ns mainGlobals mg->zaF l.prog w (K w.params) mg base CX0 k fa fd [x] (sp w)) (hsp:∀ (w:World) (H:Hp) (a:Addr) (ns:List Int),ns.length<=n->(∀ m∈ns,Hg m)->Only H->SqL (K w.params) H a (ns.map V.int)->sp w [.ref a] H (fun v _=>v=.bl true) fun _ _ _=>False) :
  PySem.W.WalkO q loose XP YP l.row.toRowW d [] (fun f vs=>PySem.call f vs):=by
 intro w s₀ s₁ mg mb G Y fa o pm cd doc dV kV ho hd hcd hD hmg hg args vals as hpre hlay hrd hwl hlo;obtain rfl:dV=.none:=PySem.W.Dflts.none hD hdf;obtain rfl:kV=.none:=PySem.W.Dflts.noKw hD;obtain⟨a,vs,ns,rfl,rfl,hobj,hints,hlen⟩:=Att.zky hn hpre hwl
 have hbits:∀ m∈ns,Hg m:=fun m hm=>by
  have h1:PySem.W.WData.layable (.list (ns.map .int))=true:=by simpa [PySem.W.WData.layableAll]using hlay
  have h2:PySem.W.WData.weight (.list (ns.map PySem.W.WData.int))<=2 ^ 20:=by unfold PySem.W.WData.layable at h1;rw[Bool.and_eq_true,decide_eq_true_eq]at h1;exact h1.2
  have h3:=Nat.le_trans (zgY hm) (by simpa only[PySem.W.WData.weight]using h2);exact zoQ (by simpa only[PySem.W.WData.weight,Builtin.Int.intBits]using h3)
 have KX:=hY w _ Y;obtain⟨fd,hb,hF⟩:=F w mg fa _ KX G.T.g hmg;refine PySem.W.enter_call (codeAny_mono (zl2 KX G.T.g G.T.b G.T.builtins G.T.nolimit hg hobj hints (Nat.le_trans hlen hn2) hr hF hb (fun H hO hS=>hsp w H a ns hlen hbits hO hS) fun _ _ _ z=>z) fun r s' hq=>?_);obtain⟨rfl,h2,h3,h4⟩:=hq;exact⟨.inl ⟨.bool true,.bool true,[],rfl,fun _=>rfl,.bool true,Att.zkY l _,fun _=>⟨List.Pairwise.nil,fun _ hm=>(nomatch hm)⟩⟩,h2,h3,h4⟩
omit B in
def ztK {α:Type}{us:List α}(hl:us.length=6):∃ a0 a1 a2 a3 a4 a5,us=[a0,a1,a2,a3,a4,a5]:=by
  cases us with
  |nil=>simp at hl
  |cons a0 us =>
  cases us with
  |nil=>simp at hl
  |cons a1 us =>
  cases us with
  |nil=>simp at hl
  |cons a2 us =>
  cases us with
  |nil=>simp at hl
  |cons a3 us =>
  cases us with
  |nil=>simp at hl
  |cons a4 us =>
  cases us with
  |nil=>simp at hl
  |cons a5 us =>
  cases us with
  |nil=>exact⟨a0,a1,a2,a3,a4,a5,rfl⟩
  |cons b us=>simp at hl
end Dp
namespace Dp
open PySem PySem.Spec PyProof.Rows L2 My
variable [B:Bs]
section
variable {X:Cx}{a b:Expr}{ta tb:DE}{pos:Pos}
theorem zhW (x:D)(hx:fl 20 x=true):∀ ys:List D,ys.all (fl 20)=true->((zZ ys).any fun z=>PyData.eqv z (pyD x))=ys.any fun z=>eqv z x
 |[],_=>rfl
 |y::ys,h=>by rw[List.all_cons,Bool.and_eq_true]at h;show(PyData.eqv (pyD y) (pyD x)||(zZ ys).any fun z=>PyData.eqv z (pyD x))=_;rw[zfC 20 y x h.1 hx,zhW x hx ys h.2];rfl
def zqW (X:Cx)(g:Bool->Bool):R2:=fun x y H Q=>∃ aD S dx dy b,zm X.K aD H S/\Rel X.K aD H dx x/\Rel X.K aD H dy y/\InD S dx dy b/\Q (.bl (g b)) H
def zgu {pins:List (Addr×Obj)}{U:L2.St}{H:Hp}{s:Á}{aD:List Addr}{S:Sto}{dx dy:D}{x y:V}{v u:Â}{b:Bool}(I:Inv X pins U H s)(st:zm X.K aD H S)(rx:Rel X.K aD H dx x)(ry:Rel X.K aD H dy y)(qx:RelV x v)(qy:RelV y u)(h:InD S dx dy b) :
  ∃ pd ps as bs,Reads s.heap v pd as/\(Reads s.heap u (.list ps) bs\/Reads s.heap u (.tuple ps) bs)/\pd.canLay0=true/\PyData.canLayAll0 ps=true/\min (PyData.depthAll ps) pd.depth<=60/\(ps.any fun z=>PyData.eqv z pd)=b:=by
 obtain⟨ys,hy,fx,fy,rfl⟩:=h;obtain⟨as,ra⟩:=za3 I 20 dx x v fx rx qx;obtain⟨c1,d1⟩:=zcB 20 dx fx;obtain⟨c2,d2⟩:=zb3 20 ys fy;rcases hy with rfl|hy
 ·obtain⟨bs,rb⟩:=za3 I 21 (.tup ys) y u fy ry qy;exact⟨pyD dx,zZ ys,as,bs,ra,.inr rb,c1,c2,by lia,zhW dx fx ys fy⟩
 ·obtain⟨a2,vs2,rfl,s2,r2⟩:=hy.sq st ry;cases qy;obtain⟨its2,rv2,ht2,hz2⟩:=I.list s2;obtain⟨o2,ho2,hc2,n2,hd2⟩:=ht2.isList;obtain⟨bs,rb⟩:=zcL I 20 (za3 I 20) _ _ _ fy r2 rv2;exact⟨pyD dx,zZ ys,as,_,ra,.inl (.list ho2 hc2 hd2 (by simpa using rb)),c1,c2,by lia,zhW dx fx ys fy⟩
def zsN (hr:zP k X.A):OC X .In oIn:=⟨_,(OpR.or (r:=zqW X id) (by
  rintro pins s U H x y v u Q I qx qy ⟨aD,S,dx,dy,b,st,rx,ry,h,q⟩;obtain⟨pd,ps,as,bs,ra,rb,c1,c2,hd,e⟩:=zgu I st rx ry qx qy h;have hu:=hr.units;rcases rb with rb|rb
  ·exact PySem.SeqAt.in_list_reads rb ra c2 c1 (by lia) ⟨.bl _,H,I,by rw[e];rfl,q⟩
  ·exact PySem.SeqAt.in_tuple_reads rb ra c2 c1 (by lia) ⟨.bl _,H,I,by rw[e];rfl,q⟩) zkp),
 fun aD H S x y v u Q0 Q st rx ry h k=>by
  rcases h with⟨b,h,q⟩|⟨c,z,rfl,rfl,q⟩
  ·exact .inl ⟨aD,S,x,y,b,st,rx,ry,h,k _ S _ H aD q Wd.refl st (.bl _)⟩
  ·cases rx;cases ry;exact .inr ⟨_,z,rfl,rfl,by rw[PySem.StrLaws.found_one];exact k _ S _ H aD q Wd.refl st (.bl _)⟩⟩
def zmc (hr:zP k X.A):OC X .NotIn zfw:=⟨_,(OpR.or (r:=zqW X (!·)) (by
  rintro pins s U H x y v u Q I qx qy ⟨aD,S,dx,dy,b,st,rx,ry,h,q⟩;obtain⟨pd,ps,as,bs,ra,rb,c1,c2,hd,e⟩:=zgu I st rx ry qx qy h;have hu:=hr.units;rcases rb with rb|rb
  ·exact PySem.SeqAt.notIn_list_reads rb ra c2 c1 (by lia) ⟨.bl _,H,I,by rw[e];rfl,q⟩
  ·exact PySem.SeqAt.notIn_tuple_reads rb ra c2 c1 (by lia) ⟨.bl _,H,I,by rw[e];rfl,q⟩) zh0),
 fun aD H S x y v u Q0 Q st rx ry h k=>by
  rcases h with⟨b,h,q⟩|⟨c,z,rfl,rfl,q⟩
  ·exact .inl ⟨aD,S,x,y,b,st,rx,ry,h,k _ S _ H aD q Wd.refl st (.bl _)⟩
  ·cases rx;cases ry;exact .inr ⟨_,z,rfl,rfl,by rw[PySem.StrLaws.found_one];exact k _ S _ H aD q Wd.refl st (.bl _)⟩⟩
def zoY (o:OC X op r')(ha:PD X a ta)(hb:PD X b tb)(hm:autoParam (behindInMarks op b=false) zer):PD X (.Compare a [op] [b] pos) (dOp r' ta tb):=by
 with_unfolding_all
  obtain⟨r,ho,od⟩:=o;exact zad (zoH ho ha hb hm) fun _ _ _=>zgS od
def zoe (o:OC X op r')(ha:PD X a ta)(hb:PD X b tb)(hm:autoParam (behindInMarks op b=false) zer):PTD X (.Compare a [op] [b] pos) (dT (dOp r' ta tb)):=by
 with_unfolding_all
  obtain⟨r,ho,od⟩:=o;refine zeA (zoz ho ha hb hm) fun U H Q hh=>el8 hh fun aD Z S Q0 st rh q k=>?_
  refine zgS (Q:=fun x H'=>∃ k,x=.bl k/\Q k H') od ⟨aD,Z,S,_,st,rh,q,fun d S' v H' aD' ⟨b,e,q'⟩ w st' r=>?_⟩;subst e;cases r;exact⟨b,rfl,k b S' H' aD' q' w st'⟩
end
theorem zg8 {K:À}{aD:List Addr}{H:Hp}:∀ {zs:List Str} {vs:List V},zc K aD H (zs.map D.str) vs->vs=zs.map V.str
 |[],_,.nil=>rfl
 |z::zs,_,.cons r t=>by cases r;rw[zg8 t];rfl
def znS {a:Expr}{t:DA}{p1 p2 pos1 pos2:Pos}(hgl:Gl X "len")(hml:X.mg "len"=none)(hgr:Gl X "set")(hmr:X.mg "set"=none)(ha:PAD X [a] t)(hc:autoParam (X.calm=true) zq)(hs:autoParam (starEach [a] X.env=[(false,eval a X.env)]) zjl)(hs3:autoParam (starEach [.Call (.Name "set" p2) [a] [] pos2] X.env=[(false,eval (.Call (.Name "set" p2) [a] [] pos2) X.env)]) zq) :
  PD X (.Call (.Name "len" p1) [.Call (.Name "set" p2) [a] [] pos2] [] pos1) (dB zfE t):=by with_unfolding_all exact(zad (zon hc hgl hml hgr hmr ha hs hs3) fun U H Q hh=>el8 hh fun aD Z S Q0 st rh q k =>
  ⟨aD,Z,S,_,st,rh,q,by rintro ds S1 vs H1 ad1 ⟨x,zs,ed,hx,hl,q1⟩ w1 st1 r1;subst ed;obtain⟨v,rfl,rv⟩:=zbV r1;obtain⟨a1,ws,rfl,hs,rs⟩:=hx.sq st1 rv;cases zg8 rs;exact⟨a1,zs,rfl,hs,hl,k _ S1 _ H1 ad1 q1 w1 st1 (.int _)⟩⟩)
section
variable {X:Cx}{e o value:Expr}{te to tv:DE}{f c:Str}{pos pos':Pos}
def zqK (he:PD X e te)(hb:attributeBase e f X.env (eval e X.env)=eval e X.env):PD X (.Attribute e f pos) (zL f te):=by with_unfolding_all exact(zad (zqa he hb) fun U H Q hh=>el8 hh fun aD Z S Q0 st rh q k =>
  ⟨aD,Z,S,_,st,rh,q,by
   rintro x S1 v H1 ad1 ⟨n,c,fs,d,ex,hn,hl,q1⟩ w1 st1 r1;subst ex;cases r1 with
   |ref en =>obtain⟨C,dx,vs,h1,hc,hns,rf,hna⟩:=st1.cell n _ _ en hn;obtain⟨v,hv,rv⟩:=rf.look hl;obtain⟨q2,hq2,e2⟩:=zg3 hl;exact⟨_,C,dx,vs,v,rfl,h1,hc,e2▸hna q2 hq2,hv,k d S1 v H1 ad1 q1 w1 st1 rv⟩⟩)
def zoJ (hna:∀ C,PySem.W.nsIn X.K mainGlobals c=some (some (.ref C))->zbf X.K C f)(ho:PD X o to)(hv:PD X value tv)(hs:autoParam (swapsWith value (some (.Attribute o f pos')) pos.line X.env=pure false) zq) :
  PSD X (.Assign [.Attribute o f pos'] value pos) (zbs c f to tv):=by with_unfolding_all exact(zau (zrP ho hv hs) fun E U H hh=>el8 hh fun aD Z S E0 so rh q k =>
 ⟨aD,Z,S,_,so,rh,q,fun y S1 vy H1 ad1 q1 w1 st1 r1=>⟨ad1,Z,S1,_,st1,rh.wd w1,q1,by
  rintro x S2 vx H2 ad2 ⟨n,fs,ex,hn,hl,q2⟩ w2 st2 r2;subst ex;cases r2 with
  |ref en =>obtain⟨C,dx,vs,h1,hc,hns,rf,hna'⟩:=st2.cell n _ _ en hn;have w3:Wd ad2 H2 ad2 (upd H2 _ (.ins C dx (zaR f vy vs))):=Wd.putI en h1;exact⟨_,C,dx,vs,rfl,h1,hc,hna C hns,by rw[<- rf.length];lia,k.nx Z _ U _ ad2 q2 ((w1.trans w2).trans w3) (st2.putI en h1 hc hns rf hna' (hna C hns) (r1.wd w2)) (((rh.wd w1).wd w2).wd w3)⟩⟩⟩)
omit B in
def znR {K:À}{C:Addr}{init:DSp}(hc:Cls K C)(hn:PySem.W.nsIn K mainGlobals c=some (some (.ref C))):∀ vs H Q,upF K (zez c init) vs H Q E0->∀ x dx,H x=none->H dx=none->dx≠x ->
  upF K init (.ref x::vs) (upd (upd H dx (.own x)) x (.ins C dx [])) (fun v H2=>v=.non/\Q (.ref x) H2) E0:=by
 rintro vs H Q ⟨aD,S,ds,Q0,st,r,hf,k⟩ x dx hx hdx hne
 letI:Bs:=⟨aD,H⟩
 obtain⟨w,st'⟩:=st.newI (c:=c) hx hdx hne hc hn;have rx:Rel K (aD++[x]) (upd (upd H dx (.own x)) x (.ins C dx [])) (.ref S.length) (.ref x):=.ref (by rw[<- st.len,List.getElem?_append_right (Nat.le_refl _),Nat.sub_self];rfl);have hf':init (.ref S.length::ds) (S++[.ins c []]) (fun d S2=>d=.non/\Q0 (.ref S.length) S2):=hf;refine⟨aD++[x],S++[.ins c []],.ref S.length::ds,_,st'.base,.cons rx (r.wd w),hf',fun d S' v H' aD' q w' st2 rv=>?_⟩;obtain⟨rfl,q⟩:=q;cases rv;exact⟨rfl,k _ S' _ H' aD' q (w.trans w') (st'.back st2) (rx.wd w')⟩
def zrA {e:Expr}{es:List Expr}{p:Pos}{f:DSp}(G:zmr X.prog X.w X.K X.mg X.base k x (upF X.K f))(hr:zP j X.A)(ha:PAD X (e::es) t)(hk:autoParam (k+1<=j) zG)(hg:autoParam (Gl X x) zq)(hdb:autoParam ((x==("__debug__":Str))=false) zG)(he:autoParam (starEach (e::es) X.env=(false,eval e X.env)::starEach es X.env) zdu)(hpl:autoParam ((backTo pos (starEach es X.env)).any (·.1)=false) zes) :
  PD X (.Call (.Name x p) (e::es) [] pos) (dCall f t):=by with_unfolding_all exact(zad (ztv G hr hk hg ha hdb he hpl) fun U H Q hh=>el8 hh fun aD Z S Q0 st rh q k =>
 ⟨aD,Z,S,_,st,rh,q,fun ds S1 vs H1 ad1 q1 w1 st1 r1=>by show upF X.K f (vs++[]) H1 Q E0;rw[List.append_nil];exact⟨ad1,S1,ds,Q0,st1.base,r1,q1,(k.wd w1).base st1⟩⟩)
end
end Dp
namespace Dp
open PySem PySem.Spec PyProof.Rows L2 My
def Fly (h0 h:Heap)(e:Addr)(cls:Â)(H:Hp):Prop:=h0.get? e=none/\H e=none/\∃ (a0:Â) (oe:Obj) (vs:Array Â) (T:Addr) (oT:Obj) (ts:Array Â),h.get? e=some oe/\(oe.cls=cls/\vs[0]?=some a0)/\oe.data=.fields vs/\vs[1]?=some (.ref T)/\h0.get? T=none/\T≠e/\h.get? T=some oT/\oT.data=.fields ts/\ts[3]?=some .none/\H T=none
def CXd (P:Program)(w:World):CXT:=fun outer H s E e s'=>∃ (a C:Addr) (H':Hp),e=.ref a/\s'.os=s.os/\AllBare s'.gens/\Un (frs outer) [] H H' s.heap s'.heap/\HOk P w H' s'.heap/\Fly s.heap s'.heap a (.ref C) H'/\E (.ref C) none H'
def zaT (h:Heap)(p:Addr->Bool):Heap:={ h with objs:=h.objs.mapIdx fun i o=>if p i=true then o else { cls:=.none,data:=.freed } }
def zby (h:Heap)(p:Addr->Bool)(b:Addr):(zaT h p).get? b=if p b=true then h.get? b else none:=by
  unfold zaT Heap.get?;dsimp only;rw[Array.getElem?_mapIdx];cases h.objs[b]? with
  |none=>cases p b<;>rfl
  |some o=>cases p b<;>rfl
def zdj (h:Heap)(p:Addr->Bool):(zaT h p).StaysIn h:=fun b o e=>by
 rw[zby]at e;split at e
 ·exact e
 ·cases e
theorem zew {h base base':Heap}:∀ {l:List Env},h.FunFrames base l->(∀ L∈frs l,base'.get? L=none)->h.FunFrames base' l
 |[],_,_=>True.intro
 |env::l,⟨h1,⟨L,o,h2,h3,h4,h5⟩,h6⟩,hb=>⟨h1,⟨L,o,h2,hb L (List.mem_filterMap.mpr ⟨env,by simp,h2⟩),h4,h5⟩,zew h6 fun L' hL=>hb L' (by obtain⟨e',he,e2⟩:=List.mem_filterMap.mp hL;exact List.mem_filterMap.mpr ⟨e',List.mem_cons_of_mem _ he,e2⟩)⟩
section
variable {X:Cx}{pins:List (Addr×Obj)}{U:L2.St}{H:Hp}{s:Á}
def zkU (I:Inv X pins U H s)(hex:X.ex=[]){b:Addr}{o:Obj}(e:X.s₀.heap.get? b=some o):∃ o',s.heap.get? b=some o':=I.base.there b o e (by rw[hex];simp)
def zb9 (I:Inv X pins U H s)(hex:X.ex=[]){b:Addr}(e:s.heap.get? b=none):X.s₀.heap.get? b=none:=by
 cases q:X.s₀.heap.get? b with
 |none=>rfl
 |some o=>obtain⟨o',h⟩:=zkU I hex q;rw[e]at h;cases h
def zeW (I:Inv X pins U H s){b:Addr}(e:s.heap.get? b=none):H b=none:=by
 cases q:H b with
 |none=>rfl
 |some o =>
  have:=(I.hok b o q).lt;exfalso;cases o with
  |lst xs=>obtain⟨_,_,_,_,h⟩:=I.hok b _ q;rw[e]at h;cases h
  |tup xs=>obtain⟨_,_,_,ob,h,_⟩:=I.hok b _ q;rw[e]at h;cases h
  |dK kvs=>obtain⟨_,_,_,_,ob,_,_,h,_⟩:=I.hok b _ q;rw[e]at h;cases h
  |dT kvs=>obtain⟨_,_,_,_,ob,_,_,h,_⟩:=I.hok b _ q;rw[e]at h;cases h
  |set S n=>obtain⟨ob,_,_,_,h,_⟩:=I.hok b _ q;rw[e]at h;cases h
  |ins C dx fs=>obtain⟨_,_,_,h,_⟩:=I.hok b _ q;rw[e]at h;cases h
  |own y=>obtain⟨_,h⟩:=I.hok b _ q;rw[e]at h;cases h
  |xd fs=>obtain⟨_,⟨_,_,_,h,_⟩,_⟩:=I.hok b _ q;rw[e]at h;cases h
  |rng lo hi=>obtain⟨_,_,_,h⟩:=I.hok b _ q;rw[e]at h;cases h
  |frz ob u=>obtain⟨h,_⟩:=I.hok b _ q;rw[e]at h;cases h
  |tbl ps=>have h:s.heap.get? b=some _:=I.hok b _ q;rw[e]at h;cases h
  |met f y=>have h:s.heap.get? b=some _:=I.hok b _ q;rw[e]at h;cases h
  |ext φ=>obtain⟨_,⟨_,h⟩,_⟩:=I.hok b _ q;rw[e]at h;cases h
def zgo (I:Inv X pins U H s)(hex:X.ex=[])(hst:X.stack=X.env::X.outer)(hfr:X.env.frame=some X.env.locals){e T0:Addr}{h':Heap}(he:X.s₀.heap.get? e=none)(hT:X.s₀.heap.get? T0=none)(He:H e=none)(HT:H T0=none)
  (hk:∀ b o,s.heap.get? b=some o->b≠e->b≠T0->b∉frs X.stack->h'.get? b=some o) (hs:∀ b∈frs X.stack,∀ o,s.heap.get? b=some o->∃ sl,h'.get? b=some { o with slots:=sl }) :
  Un X.fs [] X.H₀ H X.s₀.heap h'/\HOk X.prog X.w H h':=by
 have nfr:∀ {b:Addr} {o:Obj},X.s₀.heap.get? b=some o->b∉X.fs->b∉frs X.stack:=fun {b o} q n m=>by
  rw[hst]at m;obtain⟨e',h1,h2⟩:=List.mem_filterMap.mp m;rcases List.mem_cons.mp h1 with rfl|h1
  ·rw[hfr]at h2;cases h2;exact absurd (Heap.lt_size q) (Nat.not_lt.mpr I.ok.above)
  ·exact n (List.mem_filterMap.mpr ⟨e',h1,h2⟩)
 have sub:∀ {b:Addr},b∈X.fs->b∈frs X.stack:=fun {b} m=>by obtain⟨e',h1,h2⟩:=List.mem_filterMap.mp m;rw[hst];exact List.mem_filterMap.mpr ⟨e',List.mem_cons_of_mem _ h1,h2⟩
 have nex:∀ b:Addr,b∉X.ex:=fun b=>by rw[hex];simp
 have ne:∀ {b:Addr} {o:Obj},X.s₀.heap.get? b=some o->b≠e/\b≠T0:=fun {b o} q=>⟨fun z=>(by rw[z,he]at q;cases q),fun z=>(by rw[z,hT]at q;cases q)⟩
 have ub:=I.base;refine⟨⟨fun b o q n m _=>?_,fun b o q n m _=>?_,fun b o q n _=>ub.free b o q n (nex b),fun b o q _=>?_,ub.tups,ub.frzs,ub.tbls⟩,fun a o q=>?_⟩
 ·exact hk b o (ub.keep b o q n m (nex b)) (ne q).1 (ne q).2 (nfr q m)
 ·obtain⟨sl,h1⟩:=ub.slot b o q n m (nex b);obtain⟨sl',h2⟩:=hs b (sub m) _ h1;exact⟨sl',h2⟩
 ·obtain⟨o',h1⟩:=ub.there b o q (nex b);by_cases m:b∈frs X.stack
  ·obtain⟨sl,h2⟩:=hs b m o' h1;exact⟨_,h2⟩
  ·exact⟨o',hk b o' h1 (ne q).1 (ne q).2 m⟩
 ·have inn:∀ {b:Addr},H b≠none->b≠e/\b≠T0/\b∉frs X.stack:=fun {b} n=>⟨fun z=>n (by rw[z];exact He),fun z=>n (by rw[z];exact HT),fun z=>n (I.stkFree b z)⟩
  refine(I.hok a o q).stay (fun b u hb r=>?_) (fun _ r=>r) fun _ _ r=>r
  have n:H b≠none:=by
   rcases hb with rfl|hb
   ·rw[q];exact Option.some_ne_none _
   ·rw[hb];exact Option.some_ne_none _
  obtain⟨n1,n2,n3⟩:=inn n;exact hk b u r n1 n2 n3
def zkZ (I:Inv X pins U H s)(hex:X.ex=[])(hst:X.stack=X.env::X.outer)(hfr:X.env.frame=some X.env.locals){e C:Addr}{E:Â->Á->Prop}{Q:Unit->Á->Prop}(F:Fly X.s₀.heap s.heap e (.ref C) H)
  (hQ:∀ s':Á,s'.os=X.s₀.os->AllBare s'.gens->Un X.fs [] X.H₀ H X.s₀.heap s'.heap->HOk X.prog X.w H s'.heap->Fly X.s₀.heap s'.heap e (.ref C) H->Q () s'):wpAny (model X.prog X.w) X.A (leaving X.env (.ref e)) Q E s:=by
 obtain⟨he,He,a0,oe,vs,T,oT,ts,f1,f2,f3,f4,f5,f6,f7,f8,f9,HT⟩:=F;have ff:s.heap.FunFrames X.base X.stack:=I.stack;obtain⟨p,hp⟩:∃ p:Addr->Bool,∀ b,p b=true↔b≠e/\b≠T/\b∉frs X.stack:=⟨fun b=>decide (b≠e/\b≠T/\b∉frs X.stack),fun b=>decide_eq_true_iff⟩
 have mno:∀ {b:Addr},¬ (b≠e/\b≠T/\b∉frs X.stack)->(zaT s.heap p).get? b=none:=fun {b} n=>by rw[zby,if_neg (fun z=>n ((hp b).mp z))]
 have myes:∀ {b:Addr} {o:Obj},s.heap.get? b=some o->b≠e->b≠T->b∉frs X.stack->(zaT s.heap p).get? b=some o:=fun {b o} q n1 n2 n3=>by rw[zby,if_pos ((hp b).mpr ⟨n1,n2,n3⟩)];exact q
 have fb:s.heap.FunFrames (zaT s.heap p) X.stack:=zew ff fun L hL=>mno fun z=>z.2.2 hL
 have fl:Heap.FlyingW (zaT s.heap p) X.stack e (.ref C) a0 s.heap:=⟨zdj _ _,mno fun z=>z.1 rfl,fb,oe,vs,T,oT,ts,f1,f2,f3,f4,mno fun z=>z.2.1 rfl,f6,f7,f8,f9⟩
 have fr:=I.ok.frames;rw[hst]at fr;rw[hst]at fl;refine wpAny_leaves_onW fr hfr fl fun h' ⟨k1,k2,k3,oe',vs',T',oT',ts',g1,g2,g3,g4,g5,g6,g7,g8,g9⟩ us=>?_
 have hs:∀ b∈frs X.stack,∀ o,s.heap.get? b=some o->∃ sl,h'.get? b=some { o with slots:=sl }:=fun b hb o q=>by obtain⟨_,o',h1,h2⟩:=ff.mem hb;rw[q]at h1;cases h1;exact us b o q h2
 have hk:∀ b o,s.heap.get? b=some o->b≠e->b≠T->b∉frs X.stack->h'.get? b=some o:=fun b o q n1 n2 n3=>k1 b o (myes q n1 n2 n3)
 obtain⟨u1,u2⟩:=zgo I hex hst hfr he f5 He HT hk hs
 have nT:X.s₀.heap.get? T'=none/\H T'=none:=by
  by_cases z1:T'=T
  ·rw[z1];exact⟨f5,HT⟩
  ·by_cases z2:T'∈frs X.stack
   ·exfalso;obtain⟨_,o',h1,h2⟩:=ff.mem z2;obtain⟨sl,h3⟩:=hs T' z2 o' h1;rw[g7]at h3;cases h3;exact h2 ts' g8
   ·have:s.heap.get? T'=none:=by
     cases q:s.heap.get? T' with
     |none=>rfl
     |some o=>rw[myes q g6 z1 z2]at g5;cases g5
    exact⟨zb9 I hex this,zeW I this⟩
 exact hQ _ I.os I.bare u1 u2 ⟨he,He,a0,oe',vs',T',oT',ts',g1,g2,g3,g4,nT.1,g6,g7,g8,g9,nT.2⟩
def ziX (I:Inv X pins U H s)(hex:X.ex=[])(hst:X.stack=X.env::X.outer)(hfr:X.env.frame=some X.env.locals){e C:Addr}{args:List Â}{h1:Heap}{E:Â->Á->Prop}{Q:Unit->Á->Prop}(hx:s.heap.MadeExcOf h1 e (.ref C) args)
  (hQ:∀ s':Á,s'.os=X.s₀.os->AllBare s'.gens->Un X.fs [] X.H₀ H X.s₀.heap s'.heap->HOk X.prog X.w H s'.heap->Fly X.s₀.heap s'.heap e (.ref C) H->Q () s'):wpAny (model X.prog X.w) X.A (leaving X.env (.ref e)) Q E { s with heap:=h1 }:=by
 have ff:s.heap.FunFrames X.base X.stack:=I.stack;obtain⟨p,hp⟩:∃ p:Addr->Bool,∀ b,p b=true↔b∉frs X.stack:=⟨fun b=>decide (b∉frs X.stack),fun b=>decide_eq_true_iff⟩
 have mno:∀ {b:Addr},b∈frs X.stack->(zaT s.heap p).get? b=none:=fun {b} n=>by rw[zby,if_neg (fun z=>(hp b).mp z n)]
 have myes:∀ {b:Addr} {o:Obj},s.heap.get? b=some o->b∉frs X.stack->(zaT s.heap p).get? b=some o:=fun {b o} q n3=>by rw[zby,if_pos ((hp b).mpr n3)];exact q
 have fb:s.heap.FunFrames (zaT s.heap p) X.stack:=zew ff fun L hL=>mno hL
 have fr:=I.ok.frames;rw[hst]at fr;rw[hst]at fb;refine wpAny_leaves_madeW (base:=zaT s.heap p) (h:=s.heap) fr hfr (zdj _ _) fb hx fun h' t ⟨k1,k2,k3,oe',vs',T',oT',ts',g1,g2,g3,g4,g5,g6,g7,g8,g9⟩ _ _ us=>?_
 have us':s.heap.UpToSlots h':=fun b o q n=>us b o (hx.keeps b o q) n
 have hs:∀ b∈frs X.stack,∀ o,s.heap.get? b=some o->∃ sl,h'.get? b=some { o with slots:=sl }:=fun b hb o q=>by obtain⟨_,o',h1,h2⟩:=ff.mem hb;rw[q]at h1;cases h1;exact us' b o q h2
 have hk:∀ b o,s.heap.get? b=some o->b≠e->b≠e->b∉frs X.stack->h'.get? b=some o:=fun b o q _ _ n3=>k1 b o (myes q n3)
 have he:=zb9 I hex hx.new;have He:=zeW I hx.new;obtain⟨u1,u2⟩:=zgo I hex hst hfr he he He He hk hs
 have nT:X.s₀.heap.get? T'=none/\H T'=none:=by
  by_cases z2:T'∈frs X.stack
  ·exfalso;obtain⟨_,o',h1,h2⟩:=ff.mem z2;obtain⟨sl,h3⟩:=hs T' z2 o' h1;rw[g7]at h3;cases h3;exact h2 ts' g8
  ·have:s.heap.get? T'=none:=by
    cases q:s.heap.get? T' with
    |none=>rfl
    |some o=>rw[myes q z2]at g5;cases g5
   exact⟨zb9 I hex this,zeW I this⟩
 exact hQ _ I.os I.bare u1 u2 ⟨he,He,_,oe',vs',T',oT',ts',g1,g2,g3,g4,nT.1,g6,g7,g8,g9,nT.2⟩
end
def zbF (K:À)(f:zU):Sp:=fun vs H Q E=>∃ aD S ds Q0 X0,@zm ⟨aD,H⟩ K aD H S/\zc K aD H ds vs/\f ds S Q0 X0/\@KK ⟨aD,H⟩ K aD H Q0 Q /\
 ∀ (c:Str) (C:Addr) (S':Sto) (aD':List Addr) (H':Hp),X0 c S'->@zm ⟨aD,H⟩ K aD' H' S'->PySem.W.nsIn K mainGlobals c=some (some (.ref C))->E (.ref C) none H'
structure zrM (P:Program)(w:World)(K:À)(mg:Str->Option Â)(base:Heap)(k:Nat)(x:Str)(ps:List Str)(sp:Sp):Prop where
 ex:∃ f fd,zaF P w K mg base (CXd P w) k f fd ps sp/\Binds K fd ps []/\PySem.W.keepIn K (.ref f)=true/\mg x=some (.ref f)
def XOk [B:Bs](X:Cx)(ex:XR):Prop:=∀ (pins:List (Addr×Obj)) (U:L2.St) (H:Hp) (s s':Á) (aD aD':List Addr) (Z:Rho) (S S':Sto) (c:Str) (C a:Addr) (H':Hp),Inv X pins U H s->zm X.K aD H S->zT X.K aD H Z U->ex Z c S'->zm X.K aD' H' S'->Wd aD H aD' H' ->
 PySem.W.nsIn X.K mainGlobals c=some (some (.ref C))->s'.os=s.os->AllBare s'.gens->Un (frs X.stack) [] H H' s.heap s'.heap->HOk X.prog X.w H' s'.heap->Fly s.heap s'.heap a (.ref C) H'->X.xe (.ref a) s'
def XMk [B:Bs](X:Cx)(ex:XR):Prop:=∀ (pins:List (Addr×Obj)) (U:L2.St) (H:Hp) (s:Á) (aD:List Addr) (Z:Rho) (S:Sto) (c:Str) (C e:Addr) (args:List Â) (h1:Heap),Inv X pins U H s->zm X.K aD H S->zT X.K aD H Z U->ex Z c S ->
 PySem.W.nsIn X.K mainGlobals c=some (some (.ref C))->s.heap.MadeExcOf h1 e (.ref C) args->X.xe (.ref e) { s with heap:=h1 }
section
variable [B:Bs]{X:Cx}
def zmg {f:zU}{p pos:Pos}{e:Expr}{es:List Expr}(G:zrM X.prog X.w X.K X.mg X.base k x ps (zbF X.K f))(hX:XOk X ex)(hr:zP j X.A)(ha:PAD X (e::es) t)(hk:autoParam (k<=j) zG)(hg:autoParam (Gl X x) zq)(hdb:autoParam ((x==("__debug__":Str))=false) zG)(he:autoParam (starEach (e::es) X.env=(false,eval e X.env)::starEach es X.env) zdu)(hpl:autoParam ((backTo pos (starEach es X.env)).any (·.1)=false) zes) :
  PD X (.Call (.Name x p) (e::es) [] pos) (zak f ex t):=by
 with_unfolding_all
  intro pins s U H Q I h;obtain⟨aD,Z,S,Q0,st,rh,q,kk⟩:=h;obtain⟨fa,fd,F,b,kp,m⟩:=G.ex;have F:=F.mono hk;refine wpAny_Call_Name_kw (zbB I hg m ?_ hdb);have hA:=ha pos pins s U H (fun vs H1=>∃ ds S1 ad1,f ds S1 Q0 (ex Z)/\Wd aD H ad1 H1/\zm X.K ad1 H1 S1/\zc X.K ad1 H1 ds vs) I ⟨aD,Z,S,_,st,rh,q,fun ds S1 vs H1 ad1 q1 w1 st1 r1=>⟨ds,S1,ad1,q1,w1,st1,r1⟩⟩;refine PySem.W.callWith_K (h₀:=X.base) I.ok.mod.kin kp (thn hA fun us s1 ⟨vs,H1,I1,r,q1⟩=>⟨I1.kIn,?_⟩) he hpl;obtain⟨ds,S1,ad1,q1,w1,st1,r1⟩:=q1
  have hsp:zbF X.K f vs H1 Q (fun cls _ H'=>∃ c C S' aD',cls=Value.ref C/\ex Z c S'/\zm X.K aD' H' S'/\Wd ad1 H1 aD' H'/\PySem.W.nsIn X.K mainGlobals c=some (some (.ref C))) :=⟨ad1,S1,ds,Q0,ex Z,st1.base,r1,q1,(kk.wd w1).base st1,fun c C S' aD' H' hx st' hn=>⟨c,C,S',aD',rfl,hx,st1.back st',@zm.wd ⟨ad1,H1⟩ _ _ _ _ st',hn⟩⟩
  have hl:us.length=ps.length:=by rw[<- r.length];exact F.len _ _ _ _ hsp
  refine wpAny_call (codeAny_mono (F.run X.A X.stack s1 H1 ⟨us,[]⟩ us vs Q _ hr I1.env0 (by have:=b s1 us I1.kIn (by rw[List.append_nil];exact hl);rwa[List.append_nil]at this) r hsp) fun res s' hq=>?_);cases res with
  |error e =>obtain⟨a,C,H',rfl,os,bare,un,hok,fly,c,C',S',aD',hC,hx,st',wd',hn⟩:=hq;cases hC;exact hX pins U H1 s1 s' ad1 aD' Z S1 S' c C a H' I1 st1 (rh.wd w1) hx st' wd' hn os bare un hok fly
  |ok fl =>
   cases fl with
   |ret u=>exact I1.after hq
   |next=>exact False.elim hq
   |brk=>exact False.elim hq
   |cont=>exact False.elim hq
def zgJ:XOk X xF:=fun _ _ _ _ _ _ _ _ _ _ _ _ _ _ _ _ _ h=>h.elim
structure ExC (K:À)(C:Addr):Prop where
 ex:∃ nm q N bs bm hdct sn sub ab col dd k0 k1 k2 k3 k5,K.lookup C=some (excClassObj nm q C N bs bm hdct sn sub ab col dd k0 k1 k2 k3 k5 "ValueError.__new__")/\PySem.W.nsOkIn K N=true/\PySem.W.nsIn K N "__init__"=some none /\
  PySem.W.tailIn K [.type "ValueError",.type "Exception",.type "BaseException",.type "object"] bm=true
def zkn {x:Str}{np cpos pos:Pos}{e:Expr}{t:DA}(hX:XMk X ex)(hc:X.calm=true)(hC:∀ C,PySem.W.nsIn X.K mainGlobals x=some (some (.ref C))->ExC X.K C)(hx:∃ C,PySem.W.nsIn X.K mainGlobals x=some (some (.ref C))/\X.mg x=some (.ref C))(hg:Gl X x)(ha:PAD X [e] t)(ht:∀ Z S Q,(∀ d,Q [d] S)->t Z S Q)(hdb:autoParam ((x==("__debug__":Str))=false) zG)(he:autoParam (starEach [e] X.env=(false,eval e X.env)::starEach [] X.env) zq) :
  PSD X (.Raise (some (.Call (.Name x np) [e] [] cpos)) none pos) (zaA ex x):=by
 with_unfolding_all
  intro pins s U H D I h;obtain⟨aD,Z,S,E0,st,rh,q,k⟩:=h;obtain⟨C,hn,hm⟩:=hx;obtain⟨nm,qn,N,bs,bm,hdct,sn,sub,ab,col,dd,k0,k1,k2,k3,k5,lk,no,ni,tl⟩:=(hC C hn).ex;have kin:=I.kIn;have T:=PySem.W.tail_of_in kin tl;have hv:=ha cpos pins s U H (fun vs H1=>vs.length=1/\∃ ad1,Wd aD H ad1 H1/\zm X.K ad1 H1 S) I ⟨aD,Z,S,fun ds S'=>ds.length=1/\S'=S,st,rh,ht _ _ _ (fun d=>⟨rfl,rfl⟩),fun ds S' vs H' aD' e' w' st' r'=>⟨by rw[<- r'.length];exact e'.1,aD',w',e'.2▸st'⟩⟩;refine wpAny_Raise_call_subT (C:=C) (nm:=nm) (q:=qn) (N:=N) (bs:=bs) (bm:=bm) (hdct:=hdct) (sn:=sn) (sub:=sub) (ab:=ab) (col:=col) (dd:=dd) (k0:=k0) (k1:=k1) (k2:=k2) (k3:=k3) (k5:=k5) PySem.F.excBase_ValueError (T.hasType PySem.F.excBase_ValueError.hasBase) (I.ok.hd hc) (by rw[he];rfl) (PySem.W.nsMap_none_of_in I.ok.mod.kin no ni) (zbB I hg hm ⟨rfl,?_⟩ hdb);rw[he]at hv ⊢;refine Calls.evalArgs_plain (wpAny_mono hv (fun us s1 hq=>?_) fun _ _ y=>y);obtain⟨vs,H1,I1,r,hl,ad1,w1,st1⟩:=hq;have k1':=I1.kIn;have hlen:us.length<=sizeLine:=by rw[<- r.length,hl];decide
  exact⟨rfl,hlen,k1' _ _ lk,(Heap.Ns.of_isNs (PySem.W.isNs_of_in I.ok.mod.kin no)).keeps I1.bk,PySem.W.tail_of_in k1' tl,fun h' e' hx=>hX pins U H1 s1 ad1 Z S x C e' us h' I1 st1 (rh.wd w1) q hn hx⟩
abbrev nxX (X:Cx):Cx:={ X with xe:=fun _ _=>False }
omit B in
def zkf (I:Inv X pins U H s):Inv (nxX X) pins U H s :=⟨⟨I.ok.mod,I.ok.kind,I.ok.glob,I.ok.blt,I.ok.above,I.ok.inj,I.ok.has,I.ok.cab,I.ok.hd,I.ok.frames,I.ok.stk,I.ok.exf,I.ok.bs,I.ok.bsz,I.ok.noex,I.ok.exfs,I.ok.funs,I.ok.frf⟩,I.os,I.bare,I.base,I.loc,I.cell,I.free,I.freeC,I.pin,I.hok,I.len⟩
omit B in
def zcO (I:Inv (nxX X) pins U H s):Inv X pins U H s :=⟨⟨I.ok.mod,I.ok.kind,I.ok.glob,I.ok.blt,I.ok.above,I.ok.inj,I.ok.has,I.ok.cab,I.ok.hd,I.ok.frames,I.ok.stk,I.ok.exf,I.ok.bs,I.ok.bsz,I.ok.noex,I.ok.exfs,I.ok.funs,I.ok.frf⟩,I.os,I.bare,I.base,I.loc,I.cell,I.free,I.freeC,I.pin,I.hok,I.len⟩
def zil {e:Expr}(h:PD (nxX X) e t):PD X e t:=by with_unfolding_all exact(fun pins s U H Q I q =>wpAny_mono (h pins s U H Q (zkf I) q) (by rintro v s1 ⟨x,H1,I1,r⟩;exact⟨x,H1,zcO I1,r⟩) fun _ _ z=>z.elim)
def zmt {st:Stmt}(h:PSD (nxX X) st t):PSD X st t:=by with_unfolding_all exact(fun pins s U H D I q =>
 wpAny_mono (h pins s U H D (zkf I) q) (fun f s1 hf=>by
  cases f with
  |next=>obtain⟨σ',H',I',q'⟩:=hf;exact⟨σ',H',zcO I',q'⟩
  |brk=>obtain⟨σ',H',I',q'⟩:=hf;exact⟨σ',H',zcO I',q'⟩
  |cont=>obtain⟨σ',H',I',q'⟩:=hf;exact⟨σ',H',zcO I',q'⟩
  |ret u=>obtain⟨v,σ',H',I',r,q'⟩:=hf;exact⟨v,σ',H',zcO I',r,q'⟩) fun _ _ z=>z.elim)
structure zm1 (P:Program)(w:World)(K:À)(mg:Str->Option Â)(base:Heap)(k:Nat)(x c:Str)(init:zU):Prop where
 ex:∃ (C f:Addr) (fd:FuncData) (ps:List Str),Mk K C f/\zaF P w K mg base (CXd P w) k f fd ps (zbF K init)/\Binds K fd ps []/\mg x=some (.ref C)/\Cls K C/\PySem.W.nsIn K mainGlobals c=some (some (.ref C))
def zoi {p pos:Pos}{e:Expr}{es:List Expr}(G:zm1 X.prog X.w X.K X.mg X.base k x c init)(hX:XOk X ex)(hr:zP j X.A)(ha:PAD X (e::es) t)(hk:autoParam (k+1<=j) zG)(hg:autoParam (Gl X x) zq)(hdb:autoParam ((x==("__debug__":Str))=false) zG)(he:autoParam (starEach (e::es) X.env=(false,eval e X.env)::starEach es X.env) zdu)(hpl:autoParam ((backTo pos (starEach es X.env)).any (·.1)=false) zes) :
  PD X (.Call (.Name x p) (e::es) [] pos) (zak (zdc c init) ex t):=by
 with_unfolding_all
  intro pins s U H Q I h;obtain⟨aD,Z,S,Q0,st,rh,q,kk⟩:=h;obtain⟨C,fa,fd,ps,M,F,b,m,hcl,hcn⟩:=G.ex;have hr':=hr.mono hk;refine wpAny_Call_Name_kw (zbB I hg m ?_ hdb);have hA:=ha pos pins s U H (fun vs H1=>∃ ds S1 ad1,zdc c init ds S1 Q0 (ex Z)/\Wd aD H ad1 H1/\zm X.K ad1 H1 S1/\zc X.K ad1 H1 ds vs) I ⟨aD,Z,S,_,st,rh,q,fun ds S1 vs H1 ad1 q1 w1 st1 r1=>⟨ds,S1,ad1,q1,w1,st1,r1⟩⟩;refine PySem.W.callWith_K (h₀:=X.base) I.ok.mod.kin M.kp (thn hA fun us s1 ⟨vs,H1,I1,r,q1⟩=>⟨I1.kIn,?_⟩) he hpl;obtain⟨ds,S1,ad1,q1,w1,st1,r1⟩:=q1;have f1:H1 (s1.heap.objs.size+1)=none:=I1.hok.fresh (Nat.le_succ _);have f2:H1 s1.heap.objs.size=none:=I1.hok.fresh (Nat.le_refl _);have f3:s1.heap.objs.size≠s1.heap.objs.size+1:=Nat.ne_of_lt (Nat.lt_succ_self _);obtain⟨w2,st2⟩:=st1.newI (c:=c) f1 f2 f3 hcl hcn;have I2:=Inv.made (C:=C) I1;generalize hx0:s1.heap.objs.size+1=x0 at *;generalize hH2:upd (upd H1 s1.heap.objs.size (.own x0)) x0 (.ins C s1.heap.objs.size [])=H2 at *;have rx:Rel X.K (ad1++[x0]) H2 (.ref S1.length) (.ref x0):=.ref (by rw[<- st1.len,List.getElem?_append_right (Nat.le_refl _),Nat.sub_self];rfl);have q2:init (.ref S1.length::ds) (S1++[.ins c []]) (fun d S2=>d=.non/\Q0 (.ref S1.length) S2) (ex Z):=q1
  have hsp:zbF X.K init (.ref x0::vs) H2 (fun v H3=>v=.non/\Q (.ref x0) H3) (fun cls _ H'=>∃ c C S' aD',cls=Value.ref C/\ex Z c S'/\zm X.K aD' H' S'/\Wd (ad1++[x0]) H2 aD' H'/\PySem.W.nsIn X.K mainGlobals c=some (some (.ref C))) :=
   ⟨ad1++[x0],S1++[.ins c []],.ref S1.length::ds,_,ex Z,st2.base,.cons rx (r1.wd w2),q2,fun d S' v H' aD' hq w' st' rv=>by obtain⟨rfl,hq⟩:=hq;cases rv;exact⟨rfl,kk _ S' _ H' aD' hq ((w1.trans w2).trans w') (st2.back st') (rx.wd w')⟩,fun c C S' aD' H' hx st' hn=>⟨c,C,S',aD',rfl,hx,st2.back st',@zm.wd ⟨ad1++[x0],H2⟩ _ _ _ _ st',hn⟩⟩
  have r2:Vals (V.ref x0::vs) (Value.ref x0::us):=.cons rfl r;have hl:(Value.ref x0::us).length=ps.length:=by rw[<- r2.length];exact F.len _ _ _ _ hsp
  have hb:=b _ (Value.ref x0::us) I2.kIn (by rw[List.append_nil];exact hl);rw[List.append_nil]at hb;subst hx0
  refine wpAny_call (zhq (f:=fa) I1.kIn M.makes M.init (beq_iff_eq.mp M.fn) (codeAny_mono (F.run _ X.stack _ H2 ⟨Value.ref (s1.heap.objs.size+1)::us,[]⟩ (Value.ref (s1.heap.objs.size+1)::us) _ _ _ (hr'.make C us [])
   (I2.env0.make C us []) hb r2 hsp) fun res s' hq=>?_))
  cases res with
  |error e =>obtain⟨a,C',H',rfl,os,bare,un,hok,fly,c',C'',S',aD',hC,hx,st',wd',hn⟩:=hq;cases hC;exact hX pins U H2 _ s' (ad1++[s1.heap.objs.size+1]) aD' Z (S1++[.ins c []]) S' c' C' a H' I2 st2 ((rh.wd w1).wd w2) hx st' wd' hn os bare un hok fly
  |ok fl =>
   cases fl with
   |ret u =>obtain⟨v,H',I3,rv,ev,q3⟩:=I2.after hq;subst ev;exact⟨rv,⟨V.ref (s1.heap.objs.size+1),H',I3,rfl,q3⟩⟩
   |next=>exact False.elim hq
   |brk=>exact False.elim hq
   |cont=>exact False.elim hq
omit B in
def zlJ {P:Program}{w:World}{K:À}{mg:Str->Option Â}{base:Heap}{st:Stmt}{k:Nat}{sp:zU}(F:Fun K x qual st f fd)(S:zcz N ps (zF st))(len:∀ ds So Q ex,sp ds So Q ex->ds.length=ps.length)(body:zM N.length b sp)(term:∀ (cdv:Â) (A:Around) (outer:List Env) (s:Á) (H:Hp) (E:XK),zP k (A.deeper (envOfC qual (zF st) s.heap.objs.size f cdv))->∀ [Bs] (ex:XR),XOk (zc5 (CXd P w) P w K mg base N qual (zF st) f cdv A outer s H E) ex->XMk (zc5 (CXd P w) P w K mg base N qual (zF st) f cdv A outer s H E) ex->zbx (zc5 (CXd P w) P w K mg base N qual (zF st) f cdv A outer s H E) (z7 st) (b ex)) :
  zaF P w K mg base (CXd P w) (k+1) f fd ps (zbF K sp):=by
 with_unfolding_all
  obtain⟨oc,od,kV,doc,pm,an,cdv,ct,osl,rfl,lk,hcd⟩:=F.ex;refine zmw lk hcd S (by rintro vs H Q E ⟨aD,So,ds,Q0,X0,so,r,hf,kk,kx⟩;exact by rw[<- r.length];exact len ds So Q0 X0 hf) fun A outer s H vs Q E hr ⟨aD,So,ds,Q0,X0,so,r,hf,kk,kx⟩=>?_
  letI:Bs:=⟨aD,H⟩
  have end1:∀ (c:Str) (C a:Addr) (S':Sto) (aD':List Addr) (H':Hp) (s':Á),X0 c S'->zm K aD' H' S'->PySem.W.nsIn K mainGlobals c=some (some (.ref C))->s'.os=s.os->AllBare s'.gens->Un (frs outer) [] H H' s.heap s'.heap->HOk P w H' s'.heap->Fly s.heap s'.heap a (.ref C) H'->CXd P w outer H s E (.ref a) s' :=fun c C a S' aD' H' s' hx st' hn o1 o2 o3 o4 o5=>⟨a,C,H',rfl,o1,o2,o3,o4,o5,kx c C S' aD' H' hx st' hn⟩
  refine⟨_,term cdv A outer s H E hr (fun _=>X0) ?_ ?_,aD,zb6 N.length ds,So,_,so,zhZ N r,body ds So Q0 X0 hf,⟨fun Z S' U H' aD' q w' st' rh=>zfe so kk .non S' .non H' aD' q w' st' .non,zfe so kk,fun _ _ _ _ _ q=>q.elim,fun _ _ _ _ _ q=>q.elim⟩⟩
  ·intro pins U H1 s1 s' ad1 aD' Z S1 S' c C a H' I st1 rh hx st' wd' hn os bare un hok fly;have I':=I.call' (ch:=[]) os un hok bare (fun b z=>absurd z (by simp))
   have f0:Fly s.heap s'.heap a (.ref C) H':=by obtain⟨g1,g2,a0,oe,vs,T,oT,ts,h1,h2,h3,h4,h5,h6⟩:=fly;exact⟨zb9 I rfl g1,g2,a0,oe,vs,T,oT,ts,h1,h2,h3,h4,zb9 I rfl h5,h6⟩
   exact zkZ I' rfl rfl rfl f0 fun s'' o1 o2 o3 o4 o5=>end1 c C a S' aD' H' s'' hx st' hn o1 o2 o3 o4 o5
  ·intro pins U H1 s1 ad1 Z S1 c C e args h1 I st1 rh hx hn hmade;exact ziX I rfl rfl rfl hmade fun s'' o1 o2 o3 o4 o5=>end1 c C e S1 ad1 H1 s'' hx st1 hn o1 o2 o3 o4 o5
end
structure zlk (P:Program)(w:World)(K:À)(mg:Str->Option Â)(base:Heap)(k:Nat)(c m:Str)(ps:List Str)(sp:Sp):Prop where
 ex:∃ C f fd,PySem.W.nsIn K mainGlobals c=some (some (.ref C))/\Meth K C m f/\zaF P w K mg base (CXd P w) k f fd ps sp/\Binds K fd ps []
theorem z6.gone {K:À}{aD:List Addr}{H:Hp}{f:Str}:∀ {fs:List (Str×D)} {vs:List (Str×V)},z6 K aD H fs vs->fs.lookup f=none->vs.lookup f=none
 |_,_,.nil,_=>rfl
 |_,_,@z6.cons _ _ _ g x v fs vs r t,e=>by
  rw[List.lookup_cons]at e ⊢;cases h:f==g with
  |true=>rw[h]at e;cases e
  |false=>rw[h]at e;exact z6.gone t e
def zj3 {o:Expr}{m:Str}{apos pos:Pos}{es:List Expr}{env:Env}(hb:attributeBase o m env (eval o env)=eval o env)(hf:methodCallForm (es.length+0) (backTo pos (starEach es env)) (backToKw pos (keywordEach [] env))=true)(hl:(apos.endLine==pos.line)=true) :
  eval (.Call (.Attribute o m apos) es [] pos) env=(do
   let ov <- eval o env
   standAt apos.atName
   let (f,first) <- holding [ov] (getMethod ov m (do return (<- importBound o env).getD true))
   callWith pos f first (backTo pos (starEach es env)) (backToKw pos (keywordEach [] env))):=by
 show(do
   let ov <- attributeBase o m env (eval o env)
   standAt apos.atName
   methodCall o m apos pos env ov (es.length+0) (backTo pos (starEach es env)) (backToKw pos (keywordEach [] env)))=_
 rw[hb];unfold methodCall calleeOf methodCallPos;rw[hf,hl];rfl
section
variable [B:Bs]{X:Cx}
def zlL {f:zU}{ap pos:Pos}(G:zlk X.prog X.w X.K X.mg X.base k c m ps (zbF X.K f))(hX:XOk X ex)(hr:zP j X.A)(hk:k<=j)(ho:PD X o to)(ha:PAD X es t)(h0:es=[]->t=zf)(hb:attributeBase o m X.env (eval o X.env)=eval o X.env)(hf:methodCallForm (es.length+0) (backTo pos (starEach es X.env)) (backToKw pos (keywordEach [] X.env))=true)(hl:(ap.endLine==pos.line)=true)(he:∀ e l,es=e::l->starEach (e::l) X.env=(false,eval e X.env)::starEach l X.env/\(backTo pos (starEach l X.env)).any (·.1)=false) :
    PD X (.Call (.Attribute o m ap) es [] pos) (zae c m f ex to t):=by
  with_unfolding_all
    intro pins s U H Q I h;obtain⟨aD,Z,S,Q0,st,rh,q,kk⟩:=h;obtain⟨C,fa,fd,hn,M,F,b⟩:=G.ex;have F:=F.mono hk
    have hO:=ho pins s U H (fun x H1=>∃ n ds S1 ad1 fs,ds=D.ref n/\S1[n]?=some (.ins c fs)/\fs.lookup m=none/\t Z S1 (fun xs S2=>f (.ref n::xs) S2 Q0 (ex Z))/\Wd aD H ad1 H1/\zm X.K ad1 H1 S1/\Rel X.K ad1 H1 ds x) I
      ⟨aD,Z,S,_,st,rh,q,by rintro d S1 v H1 ad1 ⟨n,fs,e,hn,hl,q1⟩ w1 st1 r1;exact⟨n,d,S1,ad1,fs,e,hn,hl,q1,w1,st1,r1⟩⟩
    refine PySem.W.methodCall_KW (thn hO fun u s1 ⟨x,H1,I1,rx,n,d,S1,ad1,fs,e1,hc,hlk,q1,w1,st1,r1⟩=>?_) (zj3 hb hf hl);subst e1;cases r1 with
    |ref en =>
    rename_i a;obtain rfl:u=Value.ref a:=rx;obtain⟨C',dx,vs,h1,hcl,hns,rf,_⟩:=st1.cell n _ _ en hc;rw[hn]at hns;obtain rfl:C=C':=by cases hns;rfl
    refine ziR I1 h1 hcl M (rf.gone hlk) ?_;have rn:Rel X.K ad1 H1 (.ref n) (.ref a):=.ref en
    have fin : ∀ (us : List Â) (s2 : Á) (vs : List V) (H2 : Hp) (ds : List D) (S2 : Sto) (ad2 : List Addr), Inv X pins U H2 s2 → Vals vs us → f (.ref n :: ds) S2 Q0 (ex Z) → Wd ad1 H1 ad2 H2 → zm X.K ad2 H2 S2 → zc X.K ad2 H2 ds vs →
        wpAny (model X.prog X.w) X.A (call (.ref fa) (Value.ref a::us)) (EP X pins U Q) X.xe s2:=fun us s2 vs H2 ds S2 ad2 I2 r q2 w2 st2 rr=>by
      have r':Vals (V.ref a::vs) (Value.ref a::us):=.cons rfl r
      have hsp:zbF X.K f (V.ref a::vs) H2 Q (fun cls _ H'=>∃ c C S' aD',cls=Value.ref C/\ex Z c S'/\zm X.K aD' H' S'/\Wd ad2 H2 aD' H'/\PySem.W.nsIn X.K mainGlobals c=some (some (.ref C))) :=⟨ad2,S2,.ref n::ds,Q0,ex Z,st2.base,.cons (rn.wd w2) rr,q2,(kk.wd (w1.trans w2)).base st2,fun c C S' aD' H' hx st' hn=>⟨c,C,S',aD',rfl,hx,st2.back st',@zm.wd ⟨ad2,H2⟩ _ _ _ _ st',hn⟩⟩
      have hl:(Value.ref a::us).length=ps.length:=by rw[<- r'.length];exact F.len _ _ _ _ hsp
      refine wpAny_call (codeAny_mono (F.run X.A X.stack s2 H2 ⟨Value.ref a::us,[]⟩ (Value.ref a::us) (V.ref a::vs) Q _ hr I2.env0 (by have:=b s2 (Value.ref a::us) I2.kIn (by rw[List.append_nil];exact hl);rwa[List.append_nil]at this) r' hsp) fun res s' hq=>?_);cases res with
      |error e =>obtain⟨a,C,H',rfl,os,bare,un,hok,fly,c,C',S',aD',hC,hx,st',wd',hn⟩:=hq;cases hC;exact hX pins U H2 s2 s' ad2 aD' Z S2 S' c C a H' I2 st2 ((rh.wd w1).wd w2) hx st' wd' hn os bare un hok fly
      |ok fl =>
        cases fl with
        |ret u=>exact I2.after hq
        |next=>exact False.elim hq
        |brk=>exact False.elim hq
        |cont=>exact False.elim hq
    cases es with
    |nil =>
      rw[h0 rfl]at q1
      exact PySem.W.callWith_K0 (first:=[.ref a]) I1.kIn M.kp (by show wpAny _ _ (call (.ref fa) ([Value.ref a]++[])) _ _ _;rw[List.append_nil];exact fin [] s1 [] H1 [] S1 ad1 I1 .nil q1 Wd.refl st1 .nil)
    |cons e l =>obtain⟨he1,he2⟩:=he e l rfl;have hA:=ha pos pins s1 U H1 (fun vs H2=>∃ ds S2 ad2,f (.ref n::ds) S2 Q0 (ex Z)/\Wd ad1 H1 ad2 H2/\zm X.K ad2 H2 S2/\zc X.K ad2 H2 ds vs) I1 ⟨ad1,Z,S1,_,st1,rh.wd w1,q1,fun ds S2 vs H2 ad2 q2 w2 st2 r2=>⟨ds,S2,ad2,q2,w2,st2,r2⟩⟩;refine PySem.W.callWith_K (first:=[.ref a]) (h₀:=X.base) I.ok.mod.kin M.kp (thn hA fun us s2 zq63=>by obtain⟨vs,H2,I2,r,ds,S2,ad2,q2,w2,st2,rr⟩:=zq63;exact⟨I2.kIn,fin us s2 vs H2 ds S2 ad2 I2 r q2 w2 st2 rr⟩) he1 he2
end
abbrev hand (X:Cx)(e:Addr):Cx:={ X with A:=X.A.mark (some (.ref e)),calm:=false,xe:=fun _ _=>False }
section
variable {X:Cx}{pins:List (Addr×Obj)}{U:L2.St}{H H':Hp}{s s':Á}
def zgV (I:L2.Inv X pins U H s)(e:Addr):L2.Inv (hand X e) pins U H s :=⟨⟨I.ok.mod,I.ok.kind,I.ok.glob,I.ok.blt,I.ok.above,I.ok.inj,I.ok.has,I.ok.cab,(fun z=>nomatch z),I.ok.frames,I.ok.stk,I.ok.exf,I.ok.bs,I.ok.bsz,I.ok.noex,I.ok.exfs,I.ok.funs,I.ok.frf⟩,I.os,I.bare,I.base,I.loc,I.cell,I.free,I.freeC,I.pin,I.hok,I.len⟩
def zfr {e:Addr}(hd:X.calm=true->X.A.handled=none)(I:L2.Inv (hand X e) pins U H s):L2.Inv X pins U H s :=⟨⟨I.ok.mod,I.ok.kind,I.ok.glob,I.ok.blt,I.ok.above,I.ok.inj,I.ok.has,I.ok.cab,hd,I.ok.frames,I.ok.stk,I.ok.exf,I.ok.bs,I.ok.bsz,I.ok.noex,I.ok.exfs,I.ok.funs,I.ok.frf⟩,I.os,I.bare,I.base,I.loc,I.cell,I.free,I.freeC,I.pin,I.hok,I.len⟩
def zio (I:L2.Inv X pins U H s)(un:Un (frs X.stack) [] H H' s.heap s'.heap)(hok:HOk X.prog X.w H' s'.heap){e T:Addr}{h2:Heap}{oe:Obj}(he:s.heap.get? e=none)(hT:s.heap.get? T=none)(He:H' e=none)(HT:H' T=none)
  (stkF:∀ b∈frs X.stack,H' b=none)
  (hk:∀ b o,s'.heap.get? b=some o->b≠e->b≠T->b∉frs X.stack->h2.get? b=some o) (hs:∀ b∈frs X.stack,∀ o,s'.heap.get? b=some o->∃ sl,h2.get? b=some { o with slots:=sl }) (hoe:h2.get? e=some oe) :
  Un (frs X.stack) [] H (upd H' e (.frz oe (.ext fun _=>True))) s.heap h2/\HOk X.prog X.w (upd H' e (.frz oe (.ext fun _=>True))) h2:=by
 have ne:∀ {b:Addr} {o:Obj},s.heap.get? b=some o->b≠e/\b≠T:=fun {b o} q=>⟨fun z=>(by rw[z,he]at q;cases q),fun z=>(by rw[z,hT]at q;cases q)⟩
 have ne':∀ {b:Addr} {u:HO},H' b=some u->b≠e:=fun {b u} q z=>by rw[z,He]at q;cases q
 refine⟨⟨fun b o q n m x=>?_,fun b o q n m x=>?_,fun b o q n x=>?_,fun b o q x=>?_,fun b xs q=>?_,fun b o u q=>?_,fun b ps q=>?_⟩,fun a o q=>?_⟩
 ·exact hk b o (un.keep b o q n m x) (ne q).1 (ne q).2 m
 ·obtain⟨sl,h1⟩:=un.slot b o q n m x;obtain⟨sl',h3⟩:=hs b m _ h1;exact⟨sl',h3⟩
 ·rw[zA (ne q).1];exact un.free b o q n x
 ·obtain⟨o',h1⟩:=un.there b o q x;by_cases m:b∈frs X.stack
  ·obtain⟨sl,h3⟩:=hs b m o' h1;exact⟨_,h3⟩
  ·exact⟨o',hk b o' h1 (ne q).1 (ne q).2 m⟩
 ·have:=un.tups b xs q;rw[zA (ne' this)];exact this
 ·have:=un.frzs b o u q;rw[zA (ne' this)];exact this
 ·obtain⟨more,h1⟩:=un.tbls b ps q;exact⟨more,by rw[zA (ne' h1)];exact h1⟩
 ·by_cases ha:a=e
  ·subst ha;rw[zaa]at q;cases q;exact⟨hoe,True.intro,⟨oe,hoe⟩,fun _ _ _ _=>True.intro⟩
  ·rw[zA ha]at q;refine(hok a o q).stay (fun b u hb r=>?_) (fun b r=>by rw[zA (ne' r)];exact r) fun b xs r=>by rw[zA (ne' r)];exact r
   have n:H' b≠none:=by
    rcases hb with rfl|hb
    ·rw[q];exact Option.some_ne_none _
    ·rw[hb];exact Option.some_ne_none _
   exact hk b u r (fun z=>n (by rw[z];exact He)) (fun z=>n (by rw[z];exact HT)) (fun z=>n (stkF b z))
def name_goes {M:Model}{A:Around}{E:Â->Á->Prop}{i:Nat}{x:Str}{pos:Pos}{Q:Unit->Á->Prop}(I:L2.Inv X pins U H s)(hN:X.N.Nodup)(hi:X.N[i]?=some x)(hx:X.env.scope.names.lookup x=some .local)
    (h:∀ s',L2.Inv X pins (U.set i none) H s'->Q () s'):wpAny M A (do bindName X.env x .none;unbindBehindTheSuite X.env x pos) Q E s:=by
  obtain⟨m,hn,hl⟩:=id I.loc;have lo:∀ {b:Addr} {o:Obj},X.s₀.heap.get? b=some o->b≠X.env.locals:=fun {b o} e=>Nat.ne_of_lt (Nat.lt_of_lt_of_le (Heap.lt_size e) I.ok.above)
  refine wpAny_nameGoes_keeps hx hn (by rw[I.ok.kind];rfl) fun h' v hn' hs=>h _ ⟨I.ok,I.os,I.bare,⟨fun b o e n hb hx=>(hs.2 b (lo e)).trans (I.base.keep b o e n hb hx),fun b o e n hb hx=>?_,I.base.free,fun b o e hx=>?_,I.base.tups,I.base.frzs,I.base.tbls⟩,⟨_,hn',fun j y w e1 e2 e3=>?_⟩,fun y c e=>?_,I.free,I.freeC,fun p hp=>?_,fun a o e=>?_,?_⟩
  . obtain⟨sl,e1⟩:=I.base.slot b o e n hb hx;exact⟨sl,(hs.2 b (lo e)).trans e1⟩
  . obtain⟨o',e1⟩:=I.base.there b o e hx;exact⟨o',(hs.2 b (lo e)).trans e1⟩
  . have hj : j ≠ i := fun z => by
      subst z;rw[List.getElem?_set]at e2;split at e2
      . split at e2<;>cases e2
      . exact absurd rfl ‹_›
    rw[List.getElem?_set_ne (Ne.symm hj)]at e2;obtain⟨u',r',q⟩:=hl j y w e1 e2 e3;refine⟨u',r',?_⟩;rcases q with⟨k,e⟩|⟨k,c,e,z⟩
    . refine .inl ⟨k,?_⟩;have:y≠x:=fun e=>hj (zeV hN e1 (e▸hi))
      simp[this,e]
    . exact .inr ⟨k,c,e,z.sameBut hs (I.cne y c e)⟩
  . obtain⟨w,z⟩:=I.cell y c e;exact⟨w,z.sameBut hs (I.cne y c e)⟩
  . obtain⟨e,n,ne,nf,d⟩:=I.pin p hp;exact⟨(hs.2 p.1 ne).trans e,n,ne,nf,d⟩
  . refine(I.hok a o e).stay (fun c w hc q=>(hs.2 c ?_).trans q) (fun _ q=>q) fun _ _ q=>q
    rintro rfl;rcases hc with rfl|hc
    . rw[I.free]at e;cases e
    . rw[I.free]at hc;cases hc
  . rw[List.length_set];exact I.len
variable [B:Bs]
def zT.unset {K:À}(h:zT K aD H Z U)(i:Nat):zT K aD H (Z.set i none) (U.set i none):=by
  refine⟨by rw[List.length_set,List.length_set];exact h.len,fun j d e=>?_⟩;rw[List.getElem?_set]at e;split at e
  . split at e<;>cases e
  . rename_i hj;obtain⟨v,ev,r⟩:=h.val j d e;exact⟨v,by rw[List.getElem?_set_ne hj];exact ev,r⟩
abbrev zfW (X:Cx)(xe:Â->Á->Prop)(pn:List (Addr×Obj)):Cx:={ X with xe:=xe,pn:=pn }
omit B in
def znD (I:L2.Inv X pins U H s)(xe:Â->Á->Prop):L2.Inv (zfW X xe (X.pn++pins)) [] U H s :=⟨⟨I.ok.mod,I.ok.kind,I.ok.glob,I.ok.blt,I.ok.above,I.ok.inj,I.ok.has,I.ok.cab,I.ok.hd,I.ok.frames,I.ok.stk,I.ok.exf,I.ok.bs,I.ok.bsz,I.ok.noex,I.ok.exfs,I.ok.funs,I.ok.frf⟩,I.os,I.bare,I.base,I.loc,I.cell,I.free,I.freeC,fun p hp=>I.pin p (by rwa[List.append_nil]at hp),I.hok,I.len⟩
omit B in
def zcc {xe:Â->Á->Prop}{pins':List (Addr×Obj)}(I:L2.Inv (zfW X xe (X.pn++pins)) pins' U H s):L2.Inv X pins U H s :=⟨⟨I.ok.mod,I.ok.kind,I.ok.glob,I.ok.blt,I.ok.above,I.ok.inj,I.ok.has,I.ok.cab,I.ok.hd,I.ok.frames,I.ok.stk,I.ok.exf,I.ok.bs,I.ok.bsz,I.ok.noex,I.ok.exfs,I.ok.funs,I.ok.frf⟩,I.os,I.bare,I.base,I.loc,I.cell,I.free,I.freeC,fun p hp=>I.pin p (List.mem_append_left _ hp),I.hok,I.len⟩
theorem zcf.base {K:À}{E0:zep}(st:zm K aD H S)(k:zcf K aD H E0 E):@zcf ⟨aD,H⟩ K aD H E0 E :=@zcf.mk ⟨aD,H⟩ _ _ _ _ _ (fun Z S U H' aD' q w st' r=>k.nx Z S U H' aD' q w (st.back st') r) (k.rt.base st) (fun Z S U H' aD' q w st' r=>k.bk Z S U H' aD' q w (st.back st') r) (fun Z S U H' aD' q w st' r=>k.ct Z S U H' aD' q w (st.back st') r)
def znT {i:Nat}{x:Str}{ok:List Str}{b:XR->DS}{h:DS}{body:List Stmt}{b0:Stmt}{suite:List Stmt}{np hpos pos:Pos}(hst:X.stack=X.env::X.outer)(hfr:X.env.frame=some X.env.locals)(hN:X.N.Nodup)(hi:X.N[i]?=some x)(hx:X.env.scope.names.lookup x=some .local)(hg:Gl X cls)(hcls:∃ Cc,X.mg cls=some (.ref Cc)/\∀ c C,ok.contains c=true->PySem.W.nsIn X.K mainGlobals c=some (some (.ref C))->PySem.W.exmOne X.K (.ref C) (.ref Cc)=some true)(hb:∀ [Bs] (xe:Â->Á->Prop) (pn:List (Addr×Obj)) (ex:XR),XOk (zfW X xe pn) ex->zbx (zfW X xe pn) body (b ex))(hh:∀ e,zbx (hand X e) (b0::suite) h)(hdb:autoParam ((cls==("__debug__":Str))=false) zG) :
  PSD X (.Try body [.ExceptHandler (some (.Name cls np)) (some x) (b0::suite) hpos] [] [] pos) (zjx i ok b h):=by
 with_unfolding_all
  intro pins s U H D I hq;obtain⟨aD,Z,S,E0,st,rh,q,k⟩:=hq;obtain⟨Cc,hm,hexm⟩:=hcls;refine wpAny_Try_except ?_
  have hbody:=@hb ⟨aD,H⟩ (fun e s₁=>wpAny (model X.prog X.w) X.A (noteFrame e X.env) (fun _ s₂=>wpAny (model X.prog X.w) X.A (setFlight e none) (fun _ s₃=>wpAny (model X.prog X.w) X.A (handleBy e X.env [.ExceptHandler (some (.Name cls np)) (some x) (b0::suite) hpos]) (SP X pins D) X.xe s₃) X.xe s₂) X.xe s₁) (X.pn++pins)
   (fun ρ' c S'=>ok.contains c=true/\h { nx:=fun ρ2 S2=>E0.nx (ρ2.set i none) S2,rt:=E0.rt,bk:=fun _ _=>False,ct:=fun _ _=>False } (ρ'.set i (some (.exn c))) S') ?hX
  ·refine wpAny_mono (hbody [] s U H D (znD I _) ⟨aD,Z,S,E0,st.base,rh,q,k.base st⟩) (fun f s₁ hf=>?_) fun _ _ z=>z
   cases f with
   |next=>obtain⟨σ',H',I',q'⟩:=hf;exact wpAny_execs_nil ⟨σ',H',zcc I',q'⟩
   |brk=>obtain⟨σ',H',I',q'⟩:=hf;exact⟨σ',H',zcc I',q'⟩
   |cont=>obtain⟨σ',H',I',q'⟩:=hf;exact⟨σ',H',zcc I',q'⟩
   |ret u=>obtain⟨v,σ',H',I',r,q'⟩:=hf;exact⟨v,σ',H',zcc I',r,q'⟩
  intro pins' σ1 H1 s1 s' ad1 aD' ρ1 S1 S' c C a H' I1 st1 rh1 hx' st' wd' hn os bare un hok fly;obtain⟨hok',hh'⟩:=hx';obtain⟨he,He,a0,oe,vs,T,oT,ts,f1,f2,f3,f4,f5,f6,f7,f8,f9,HT⟩:=fly;have I0:L2.Inv X pins σ1 H1 s1:=zcc I1;have nil0:∀ b∈([]:List Addr),(b∈X.ex\/X.s₀.heap.objs.size<=b)/\b≠X.env.locals/\(∀ x c,X.env.cells.lookup x=some c->c≠b)/\∀ p∈X.pn++pins,p.1≠b:=fun b z=>absurd z (by simp)
  have I':=I0.call' (ch:=[]) os un hok bare nil0;have ff:s'.heap.FunFrames X.base X.stack:=I'.stack;obtain⟨p,hp⟩:∃ p:Addr->Bool,∀ b,p b=true↔b≠a/\b≠T/\b∉frs X.stack:=⟨fun b=>decide (b≠a/\b≠T/\b∉frs X.stack),fun b=>decide_eq_true_iff⟩
  have mno:∀ {b:Addr},¬ (b≠a/\b≠T/\b∉frs X.stack)->(zaT s'.heap p).get? b=none:=fun {b} n=>by rw[zby,if_neg (fun z=>n ((hp b).mp z))]
  have myes:∀ {b:Addr} {o:Obj},s'.heap.get? b=some o->b≠a->b≠T->b∉frs X.stack->(zaT s'.heap p).get? b=some o:=fun {b o} q n1 n2 n3=>by rw[zby,if_pos ((hp b).mpr ⟨n1,n2,n3⟩)];exact q
  have fb:s'.heap.FunFrames (zaT s'.heap p) X.stack:=zew ff fun L hL=>mno fun z=>z.2.2 hL
  have fl:Heap.FlyingW (zaT s'.heap p) X.stack a (.ref C) a0 s'.heap:=⟨zdj _ _,mno fun z=>z.1 rfl,fb,oe,vs,T,oT,ts,f1,f2,f3,f4,mno fun z=>z.2.1 rfl,f6,f7,f8,f9⟩
  have fr:=I.ok.frames;rw[hst]at fr;rw[hst]at fl;have keep:∀ {h2:Heap},(zaT s'.heap p).StaysIn h2->∀ b o,s'.heap.get? b=some o->b≠a->b≠T->b∉frs X.stack->h2.get? b=some o:=fun {h2} k1 b o q n1 n2 n3=>k1 b o (myes q n1 n2 n3)
  have slot:∀ {h2:Heap},s'.heap.UpToSlots h2->∀ b∈frs X.stack,∀ o,s'.heap.get? b=some o->∃ sl,h2.get? b=some { o with slots:=sl }:=fun {h2} us b hb o q=>by obtain⟨_,o',h1,h2⟩:=ff.mem hb;rw[q]at h1;cases h1;exact us b o q h2
  show wpAny (model X.prog X.w) X.A (noteFrame (.ref a) X.env) _ _ s';refine wpAny_looks_onW fr hfr fl fun h1 hheld us1=>?_
  refine wpAny_landsW hheld fun h2 hfl2 us2=>?_
  obtain⟨k1,k2,k3,k4⟩:=id hfl2;obtain⟨oe2,vs2,T2,oT2,ts2,g1,g2,_⟩:=id k4;obtain⟨u2,hok2⟩:=zio I0 un hok he f5 He HT I'.stkFree (keep k1) (slot (us1.trans us2)) g1;have I2:=I0.call' (s':={ s' with heap:=h2 }) (ch:=[]) os u2 hok2 bare nil0;refine wpAny_handleBy_cons (codeAny_handlers_test (zbB (zgV I2 a) hg hm ?_ hdb)) (by intro z;cases z);have LT:PySem.W.Looks (model X.prog X.w) h2 (typeOf (.ref a)) (.ref C):=g2.1▸(PySem.W.Looks.ld g1).andThen .now;refine(PySem.W.exm_one (h:=h2) I2.kIn LT (hexm c C hok' hn)).here ?_;refine codeAny_handlers_suite_as ?_;refine wpAny_setFlight_noneW k1 k3 k4.at fun h3 b1 b2 b3 b4=>?_
  obtain⟨oe3,vs3,T3,oT3,ts3,e1,e2,_⟩:=id b3
  have us3:s'.heap.UpToSlots h3:=fun b o q n=>by obtain⟨sl,z⟩:=us1.trans us2 b o q n;exact⟨sl,b4 b _ z n⟩
  obtain⟨u3,hok3⟩:=zio I0 un hok he f5 He HT I'.stkFree (keep b1) (slot us3) e1;have I3:=I0.call' (s':={ s' with heap:=h3 }) (ch:=[]) os u3 hok3 bare nil0;refine zdC I3 hN hi (.inl hx) (show RelV (.ref a) (.ref a)from rfl) (fun s4 I4=>?_) (.inr hx);have wd0:Wd aD H aD' H':=@zm.wd ⟨aD,H⟩ _ _ _ _ st';have st3:zm X.K aD' (upd H' a (.frz oe3 (.ext fun _=>True))) S':=(st.back st').laid He;have w3:Wd aD' H' aD' (upd H' a (.frz oe3 (.ext fun _=>True))):=Wd.laid He;have rho:zT X.K aD' (upd H' a (.frz oe3 (.ext fun _=>True))) (ρ1.set i (some (.exn c))) (σ1.set i (some (.ref a))):=((rh1.wd wd').wd w3).set (.exn zaa e2.1 hn) i;have wAll:=wd0.trans w3;have hs:=hh a pins s4 _ _ { nx:=fun σ2 H2=>D.nx (σ2.set i none) H2,rt:=D.rt,bk:=fun _ _=>False,ct:=fun _ _=>False } (zgV I4 a) ⟨aD',_,S',_,st3,rho,hh',⟨fun ρ2 S2 σ2 H2 ad2 q2 w2 st2 rh2=>k.nx (ρ2.set i none) S2 (σ2.set i none) H2 ad2 q2 (wAll.trans w2) st2 (rh2.unset i),k.rt.wd wAll,fun _ _ _ _ _ z=>z.elim,fun _ _ _ _ _ z=>z.elim⟩⟩;refine wpAny_mono hs (fun f s5 hf=>?_) fun _ _ z=>z.elim
  cases f with
  |next=>obtain⟨σ5,H5,I5,q5⟩:=hf;exact name_goes (zfr I.ok.hd I5) hN hi hx fun s6 I6=>⟨_,H5,I6,q5⟩
  |brk=>obtain⟨_,_,_,z⟩:=hf;exact z.elim
  |cont=>obtain⟨_,_,_,z⟩:=hf;exact z.elim
  |ret u=>obtain⟨v,σ5,H5,I5,r5,q5⟩:=hf;exact name_goes (zfr I.ok.hd I5) hN hi hx fun s6 I6=>⟨v,_,H5,I6,r5,q5⟩
end
structure IsC (K:À)(C:Addr):Prop where
 ga:PySem.W.findIn K (.ref C) "__getattribute__"=some (some (.builtin "BaseException.__getattribute__"))
 hk:PySem.W.findIn K (.ref C) "__getattr__"=some none
 cl:PySem.W.findIn K (.ref C) "__class__"=some (some (.builtin "object.__class__"))
 mo:PySem.W.mroIn K C (.type "object")=some true
 mb:PySem.W.mroIn K C (.type "BaseException")=some true
section
open PySem.W PySem.Builtin PySem.Builtin.ObjectAttr PySem.Builtin.Getset_descriptor
variable {prog:Program}{w:World}{A:Around}{E:Â->Á->Prop}{s:Á}{K:Frag}{x C:Addr}{o:Obj}
def zlt {M:Model}(X:K.In h)(I:IsC K C):Looks M h (find (.ref x) (.ref C) "__class__") (.bind (.builtin "getset_descriptor.__get__") (.builtin "object.__class__")):=by have L1:=looks_findIn (M:=M) X I.cl;have L2:=looks_specialIn (M:=M) (v:=.builtin "object.__class__") (name:="__get__") (r:=some (.builtin "getset_descriptor.__get__")) X (by rfl);have L3:=looks_takesIn (M:=M) (a:=.builtin "object.__class__") (r:=true) X (by rfl);have L2':Looks M h (getOf (some (.builtin "object.__class__"))) (some (.builtin "getset_descriptor.__get__")):=L2;have L3':Looks M h (dataDescriptor? (some (.builtin "object.__class__")) (some (.builtin "getset_descriptor.__get__"))) (some (.builtin "getset_descriptor.__get__",.builtin "object.__class__")):=L3.andThen .now;exact L1.andThen (L2'.andThen (L3'.andThen (Looks.tag .now)))
def zob {tp:Â}{R:Result->Á->Prop}(X:K.In s.heap)(I:IsC K C)(hx:s.heap.get? x=some o)(hc:o.cls=.ref C)(h:R (.ok (.ret (.ref C))) s) :
  codeAny (model prog w) A (.call (.builtin "getset_descriptor.__get__") ⟨[.builtin "object.__class__",.ref x,tp],[]⟩) R s:=by
 obtain⟨hh,g,dr,t,os⟩:=s;have L0:Looks (model prog w) hh (typeOf (.ref x)) (.ref C):=hc▸(Looks.ld hx).andThen .now;have L1:=looks_mroIn (M:=model prog w) X I.mo;refine codeAny_call_builtin KF.slot_gs.plain KF.entry_gs (KF.slot_gs.check _ _ _ _ _ _ _ _ KF.type_class (KF.args_gs _ _ _) ?_);unfold Builtin.«getset_descriptor.__get__» descrGet;rw[dga_obj];refine wpAny_bind (wpAny_pure ?_);unfold descrGetter descrCheckInstance descrNameAndClass isInstance;simp only[KF.owner_class]
 repeat lk
 refine⟨Code.quiet_builtin _ (by decide +kernel),codeAny_builtin KF.entry_class ?_⟩;unfold Builtin.«object.__class__» shownTypeOf
 repeat lk
 exact h
def zj9 {M:Model}{nameV:Â}{Q:Unit->Á->Prop}(X:K.In s.heap)(I:IsC K C)(hx:s.heap.get? x=some o)(hc:o.cls=.ref C)(hq:Q () s):wpAny M A (checkBuiltinCall "BaseException.__getattribute__" ⟨[.ref x,nameV],[]⟩) Q E s:=by
  obtain⟨hh,g,dr,t,os⟩:=s;have L0:Looks M hh (typeOf (.ref x)) (.ref C):=hc▸(Looks.ld hx).andThen .now;have L1:=looks_mroIn (M:=M) X I.mb;have hk:builtinKind "BaseException.__getattribute__"=some .slot:=by decide +kernel
  have hsplit:splitId "BaseException.__getattribute__"=some ("BaseException","__getattribute__"):=by decide +kernel
  have ha:=F.args_bexc_ga (.ref x) nameV;simp only[checkBuiltinCall,hk,hsplit];refine wpAny_bind ((show Looks M hh (isInstance (.ref x) (.type "BaseException")) true from L0.andThen L1).at ?_)
  repeat (first|wp_step)
  exact hq
def zmu {Q:Option Â->Á->Prop}(X:K.In s.heap)(I:IsC K C)(hx:s.heap.get? x=some o)(hc:o.cls=.ref C)(h:Q (some (.ref C)) { s with toks:=s.toks+1 }):wpAny (model prog w) A (getAttr? (.ref x) "__class__") Q E s:=by obtain⟨hh,g,d,t,os⟩:=s;have L0:Looks (model prog w) hh (typeOf (.ref x)) (.ref C):=hc▸(Looks.ld hx).andThen .now;have L1:=looks_findIn (M:=model prog w) X I.ga;have L2:=looks_findIn (M:=model prog w) X I.hk;have L3:=zlt (M:=model prog w) (x:=x) X I;unfold getAttr? getAttrBy? getAttrBy;refine wpAny_bind (wpAny_mkText (wpAny_bind (wpAny_attempt (wpAny_holding (wpAny_bind (L0.at (wpAny_bind (L1.at ?_))))))));show wpAny _ _ (getAttrByItsOwn _ _ _ _ _ _) _ _ _;unfold getAttrByItsOwn;refine wpAny_bind (L2.at (wpAny_bind (wpAny_attempt (wpAny_holding ?_))));show wpAny _ _ (boundAndCalled _ _ _) _ _ _;unfold boundAndCalled;rw[F.excAttr_ValueError.ga.bind (.ref x)];refine wpAny_bind (wpAny_pure ?_);refine wpAny_call (codeAny_call_builtin F.excAttr_ValueError.ga.plain F.entry_bexc_ga (zj9 (s:=⟨hh,g,d,t+1,os⟩) X I hx hc ?_));unfold Builtin.«object.__getattribute__»;refine wpAny_bind (wpAny_pure (wpAny_bind (wpAny_pure (wpAny_bind (L0.at (wpAny_bind (L3.at ?_)))))));show wpAny _ _ (bindTo _ _ _ _) _ _ _;unfold bindTo;refine wpAny_bind (wpAny_holding (wpAny_call (zob (s:=⟨hh,g,d,t+1,os⟩) X I hx hc ?_)));refine wpAny_pure ?_;exact handed_on rfl (wpAny_pure h)
def zlW (I:IsC K C):KitX K (.ref x) (.ref C) (fun h=>∃ o,h.get? x=some o/\o.cls=.ref C):=by
  obtain⟨cdD,hcD,_⟩:=Option.bind_eq_some_iff.mp I.mo;unfold clsIn at hcD;split at hcD
  . rename_i c' d' cd' sl' ho
    exact
      { ty:=fun M h _ ⟨o,h1,h2⟩=>h2▸(Looks.ld h1).andThen .now
        it:=fun _ _ X _=>by intro A' Q' E' s' k q;unfold isType loadHead;exact wpAny_bind (wpAny_loadPart (k _ _ (X _ _ ho)) (wpAny_pure q))
        ne:=fun h tp dd its n sl X htp=>by
          refine Bool.eq_false_iff.mpr fun q=>?_
          have e:C=tp:=Value.ref.inj (beq_iff_eq.mp q);subst e;have z:=(X _ _ ho).symm.trans htp;cases z
        ca:=fun X ⟨o,h1,h2⟩ k=>zmu X I h1 h2 k }
  . cases hcD
end
section
variable [B:Bs]{X:Cx}
def CV (X:Cx)(c:Str)(np:Pos)(cv:Â):Prop:=∀ (pins:List (Addr×Obj)) (U:L2.St) (H:Hp) (s:Á) (E:Â->Á->Prop) (Q:Â->Á->Prop),Inv X pins U H s->Q cv s->wpAny (model X.prog X.w) X.A (eval (.Name c np) X.env) Q E s
omit B in
def zpt {np:Pos}{C:Addr}(hg:Gl X c)(hm:X.mg c=some (.ref C))(hd:autoParam ((c==("__debug__":Str))=false) zG):CV X c np (.ref C):=fun _ _ _ _ _ _ I q=>zbB I hg hm q hd
omit B in
def ztJ {np:Pos}{T:String}(hg:Gl X c)(hm:X.mg c=none)(hv:bootBuiltins c=some (.type T))(hn:autoParam (c≠"__name__") zG)(hd:autoParam ((c==("__debug__":Str))=false) zG):CV X c np (.type T):=fun _ _ _ _ _ _ I q=>zbq I hg hm hv q hn hd
def zj2 {e:Expr}{p pos:Pos}{tbl:List (Str×Bool)}(hg:Gl X "isinstance")(hm:X.mg "isinstance"=none)(he:PD X e t)(hc:CV X c np cv)(ht:∀ c' b C,tbl.lookup c'=some b->PySem.W.nsIn X.K mainGlobals c'=some (some (.ref C))->IsC X.K C/\PySem.W.kitOne X.K (.ref C) cv=some b)(hs:autoParam (starEach [e,.Name c np] X.env=(false,eval e X.env)::starEach [.Name c np] X.env) zq)(hpl:autoParam ((backTo pos (starEach [.Name c np] X.env)).any (·.1)=false) zq) :
  PD X (.Call (.Name "isinstance" p) [e,.Name c np] [] pos) (zbX tbl t):=by
 with_unfolding_all
  intro pins s U H Q I h;obtain⟨aD,Z,S,Q0,st,rh,q,k⟩:=h;refine wpAny_Call_Name_kw (zbq I hg hm boot_isinstance ?_)
  have hA:wpAny (model X.prog X.w) X.A (spliced (backTo pos (starEach [e,.Name c np] X.env))) (fun us s1=>∃ u,us=[u,cv]/\EP X pins U (fun v H1=>∃ c' b ad1,Rel X.K ad1 H1 (.exn c') v/\tbl.lookup c'=some b/\Q (.bl b) H1) u s1) X.xe s:=by rw[hs];show wpAny _ _ (spliced ((false,eval e X.env)::backTo pos (starEach [.Name c np] X.env))) _ _ s;have hv:=he pins s U H (fun v H1=>∃ c' b ad1,Rel X.K ad1 H1 (.exn c') v/\tbl.lookup c'=some b/\Q (.bl b) H1) I ⟨aD,Z,S,_,st,rh,q,by rintro x S1 v H1 ad1 ⟨c',b,ex,hl,q1⟩ w1 st1 r1;exact⟨c',b,ad1,ex▸r1,hl,k _ S1 _ H1 ad1 q1 w1 st1 (.bl b)⟩⟩;refine Calls.spliced_cons (thn hv fun u s1 hu=>?_);show wpAny _ _ (spliced ((false,eval (.Name c np) X.env)::[])) _ _ s1;obtain⟨v,H1,I1,r1,q1⟩:=hu;exact Calls.spliced_cons (hc pins U H1 s1 _ _ I1 (Calls.spliced_nil ⟨u,rfl,v,H1,I1,r1,q1⟩))
  refine PyProof.Rows.callWith_builtin1 (thn hA fun us s1 hu=>?_) hs hpl;obtain⟨u,rfl,v,H1,I1,r1,c',b,ad1,rel,hl,q1⟩:=hu;cases rel with
  |exn ha hcl hn =>
   cases r1;obtain⟨ic,ki⟩:=ht _ _ _ hl hn;refine PySem.W.kia_one (zlW ic) I1.kIn ?_ ki (by intro z;cases z) fun tk=>⟨.bl b,H1,I1.tok _,rfl,q1⟩
   obtain⟨h1,_⟩:=I1.hok _ _ ha;exact⟨_,h1,hcl⟩
def zoy {e:Expr}{p np pos:Pos}{tbl:List (Str×Bool)}(hg:Gl X "isinstance")(hm:X.mg "isinstance"=none)(he:PD X e t)(hgc:Gl X c)(ht:∃ Cc,X.mg c=some (.ref Cc)/\∀ c' b C,tbl.lookup c'=some b->PySem.W.nsIn X.K mainGlobals c'=some (some (.ref C))->IsC X.K C/\PySem.W.kitOne X.K (.ref C) (.ref Cc)=some b)(hd:autoParam ((c==("__debug__":Str))=false) zG)(hs:autoParam (starEach [e,.Name c np] X.env=(false,eval e X.env)::starEach [.Name c np] X.env) zq)(hpl:autoParam ((backTo pos (starEach [.Name c np] X.env)).any (·.1)=false) zq) :
  PD X (.Call (.Name "isinstance" p) [e,.Name c np] [] pos) (zbX tbl t):=by
 with_unfolding_all
  obtain⟨Cc,h1,h2⟩:=ht;exact zj2 hg hm he (zpt hgc h1 hd) h2 hs hpl
def znJ {e:Expr}{p np pos:Pos}{T:String}{tbl:List (Str×Bool)}(hg:Gl X "isinstance")(hm:X.mg "isinstance"=none)(he:PD X e t)(hgc:Gl X c)(ht:X.mg c=none/\∀ c' b C,tbl.lookup c'=some b->PySem.W.nsIn X.K mainGlobals c'=some (some (.ref C))->IsC X.K C/\PySem.W.kitOne X.K (.ref C) (.type T)=some b)(hv:bootBuiltins c=some (.type T))(hn:autoParam (c≠"__name__") zG)(hd:autoParam ((c==("__debug__":Str))=false) zG)(hs:autoParam (starEach [e,.Name c np] X.env=(false,eval e X.env)::starEach [.Name c np] X.env) zq)(hpl:autoParam ((backTo pos (starEach [.Name c np] X.env)).any (·.1)=false) zq) :
  PD X (.Call (.Name "isinstance" p) [e,.Name c np] [] pos) (zbX tbl t):=by with_unfolding_all exact(zj2 hg hm he (ztJ hgc ht.1 hv hn hd) ht.2 hs hpl)
end
def exD (K:À)(C:Addr)(sl:List (Option Â)):PySem.Data->Bool
 | .cls cd=>cd.mro.head?==some (.ref C)&&!cd.hasDel&&sl.length==6&&sl[4]?==some (some (.builtin "ValueError.__new__"))&&PySem.W.nsOkIn K cd.ns&&PySem.W.nsIn K cd.ns "__init__"==some none&&PySem.W.tailIn K [.type "ValueError",.type "Exception",.type "BaseException",.type "object"] cd.mro.tail
 |_=>false
def zi6 (K:À)(C:Addr):Bool:=(K.lookup C).any fun o=>o.cls==.type "type"&&exD K C o.slots.toList o.data
def ExC.of {K:À}{C:Addr}(q:zi6 K C=true):ExC K C:=by
 unfold zi6 at q;cases ho:K.lookup C with
 |none=>rw[ho]at q;cases q
 |some o =>
  rw[ho]at q;obtain⟨c,dd,d,⟨sl⟩⟩:=o;have q':(c==.type "type"&&exD K C sl d)=true:=q;rw[Bool.and_eq_true,beq_iff_eq]at q';obtain⟨rfl,q⟩:=q';cases d with
  |cls cd =>
   obtain⟨nm,bs,mro,ns,qn,hd,sn,sub,ab,col,del⟩:=cd;have q':(mro.head?==some (.ref C)&&!del&&sl.length==6&&sl[4]?==some (some (.builtin "ValueError.__new__"))&&PySem.W.nsOkIn K ns&&PySem.W.nsIn K ns "__init__"==some none&&PySem.W.tailIn K [.type "ValueError",.type "Exception",.type "BaseException",.type "object"] mro.tail)=true:=q;simp only[Bool.and_eq_true,beq_iff_eq,Bool.not_eq_true']at q';obtain⟨⟨⟨⟨⟨⟨e1,rfl⟩,e2⟩,e3⟩,h1⟩,h2⟩,h3⟩:=q';cases mro with
   |nil=>cases e1
   |cons m bm =>cases e1;obtain⟨k0,k1,k2,k3,k4,k5,rfl⟩:=ztK e2;cases e3;exact⟨nm,qn,ns,bs,bm,hd,sn,sub,ab,col,dd,k0,k1,k2,k3,k5,ho,h1,h2,h3⟩
  |_=>cases q
def isIn (K:À)(C:Addr):Bool:=PySem.W.findIn K (.ref C) "__getattribute__"==some (some (.builtin "BaseException.__getattribute__"))&&PySem.W.findIn K (.ref C) "__getattr__"==some none&&PySem.W.findIn K (.ref C) "__class__"==some (some (.builtin "object.__class__")) &&
 PySem.W.mroIn K C (.type "object")==some true&&PySem.W.mroIn K C (.type "BaseException")==some true
def IsC.of {K:À}{C:Addr}(q:isIn K C=true):IsC K C:=by unfold isIn at q;simp only[Bool.and_eq_true,beq_iff_eq]at q;exact⟨q.1.1.1.1,q.1.1.1.2,q.1.1.2,q.1.2,q.2⟩
section
variable {X:Cx}[B:Bs]
theorem zgr:∀ {ds:List D} {j:Nat} {d:D},ds[j]?=some d->(zZ ds)[j]?=some (pyD d)
 |[],_,_,h=>by simp at h
 |x::xs,0,d,h=>by
  have:x=d:=by simpa using h
  subst this;rfl
 |x::xs,j+1,d,h=>by show(zZ xs)[j]?=_;exact zgr (by simpa using h)
def zoE (X:Cx):V->List V->Hp->VK->Prop:=fun x vs H Q=>∃ l ws y aD ds d,∃ j:Nat,∃ e,x=.ref l/\vs=[y]/\H l=some (.lst ws)/\zc X.K aD H ds ws/\Rel X.K aD H d y/\ds.all (fl 20)=true/\fl 20 d=true/\ds[j]?=some e/\eqv e d=true/\(∀ (m:Nat) e',m<j->ds[m]?=some e'->eqv e' d=false)/\Q (.int (j:Nat)) H
def zli (hr:zP k X.A):MtR X "list.index" (zoE X):=by
 intro pins s U H x vs v us Q I rx rv h;obtain⟨l,ws,y,aD,ds,d,j,e,rfl,rfl,hH,r,ry,fds,fd,hj,he,hno,q⟩:=h;cases rx;obtain⟨u,rfl,ru⟩:=rv.one;obtain⟨hz,its,n,rr,hl,ho⟩:=I.lstM hH;obtain⟨as,ra⟩:=zcL I 20 (za3 I 20) _ _ _ fds r rr;obtain⟨bs,rb⟩:=za3 I 20 d y u fd ry ru;obtain⟨c1,d1⟩:=zb3 20 ds fds;obtain⟨c2,d2⟩:=zcB 20 d fd;have hlen:=r.length;have hu:=hr.units
 have hjl:j<its.length:=by have:=My.zam hj;lia
 have hm:=SeqAt.readsAll_map (zZ ds) _ _ c1 ra
 have rd:∀ (m:Nat) (hm':m<its.length) e',ds[m]?=some e'->PyData.eqv (SeqAt.readOf s.heap its[m]) (pyD d)=eqv e' d:=fun m hm' e' h'=>by
  have h1:(its.map (SeqAt.readOf s.heap))[m]?=some (pyD e'):=by rw[hm];exact zgr h'
  rw[List.getElem?_map,List.getElem?_eq_getElem hm']at h1;have h2:SeqAt.readOf s.heap its[m]=pyD e':=by simpa using h1
  rw[h2];have fe:fl 20 e'=true:=List.all_eq_true.mp fds e' (List.mem_of_getElem? h');exact zfC 20 e' d fe fd
 refine call_meets F.slot_list_index ⟨_,ho,rfl⟩ F.entry_list_index (F.args_list_index_2 _ _)
  (SeqAt.list_indexAt l its.toArray n none #[] u (fun z=>PyData.eqv (SeqAt.readOf s.heap z) (pyD d)) j (by rw[List.size_toArray];exact hjl) (by rw[sizeLine_eq]at hz;lia) ?_ ?_) ⟨ho,SeqAt.items_eqAt (vs:=its.toArray) (by simpa using ra) rb c1 c2 ?_,?_⟩
 ·exact(rd j hjl e hj).trans he
 ·intro m hm1 hm2;have hm3:m<its.length:=by simpa using hm1
  have hml:m<ds.length:=by lia
  exact(rd m hm3 _ (List.getElem?_eq_getElem hml)).trans (hno m _ hm2 (List.getElem?_eq_getElem hml))
 ·show X.A.units+1+min (PyData.depthAll (zZ ds)) (pyD d).depth<cLine;lia
 ·exact⟨.int (j:Nat),H,I.tok _,⟨_,rfl⟩,q⟩
def zlB (hr:zP k X.A):MD X "list.index" zfB:=⟨_,zli hr,by
 rintro aD H S x ds v vs Q0 Q st rx r ⟨n,xs,y,j,e,ex,ey,hn,f,g,hl,hj,h1,h2,q⟩ kk;subst ex ey;obtain⟨u,rfl,ru⟩:=zbV r;cases rx with
 |ref ea =>obtain⟨ws,hw,rw⟩:=st.cell n _ _ ea hn;exact⟨_,ws,u,aD,xs,y,j,e,rfl,rfl,hw,rw,ru,f,g,hj,h1,h2,kk _ S _ H aD q Wd.refl st (.int _)⟩⟩
end
section
variable {K:À}{aD:List Addr}{H:Hp}{S:Sto}[B:Bs]
def zm.newC (st:zm K aD H S){o:HO}(h:H l=none)(hc:za6 K (aD++[l]) (upd H l o) l c):zm K (aD++[l]) (upd H l o) (S++[c]) where
 wd:=st.wd.trans (Wd.newL st h)
 len:=by rw[List.length_append,List.length_append,st.len];rfl
 nd:=by
  rw[List.nodup_append];refine⟨st.nd,by simp,fun a ha b hb e=>?_⟩;have:b=l:=by simpa using hb
  subst this;subst e;exact st.fresh h ha
 cell:=fun n a c' e1 e2=>by
  by_cases hn:n<aD.length
  ·rw[List.getElem?_append_left hn]at e1;rw[List.getElem?_append_left (by rw[<- st.len];exact hn)]at e2;have ok:=st.cell n a c' e1 e2;obtain⟨u,e⟩:=ok.some;exact ok.wd (Wd.newL st h) (by rw[zb2 h e,e])
  ·have hn':aD.length<=n:=Nat.le_of_not_lt hn;rw[List.getElem?_append_right hn']at e1;rw[List.getElem?_append_right (by rw[<- st.len];exact hn'),<- st.len]at e2;cases hk:n-aD.length with
   |zero =>
    rw[hk]at e1 e2;have e1':l=a:=by simpa using e1
    have e2':c=c':=by simpa using e2
    subst e1' e2';exact hc
   |succ k=>rw[hk]at e1;simp at e1
omit B in
def Wd.putC {n:Nat}{a:Addr}{o o':HO}(e:aD[n]?=some a)(h:H a=some o)(h1:∀ xs,o≠.tup xs)(h2:∀ q u,o≠.frz q u):Wd aD H aD (upd H a o') :=
 ⟨List.prefix_refl _,fun b u hb q=>by
   have:b≠a:=fun z=>hb (by rw[z];exact List.mem_of_getElem? e)
   rw[zA this];exact q,
  fun b xs q=>by rw[zA (zcU q h (fun z=>h1 xs z.symm))];exact q,fun b o u q=>by rw[zA (zcU q h (fun z=>h2 o u z.symm))];exact q,fun _ m n=>absurd m n⟩
theorem zm.putC (st:zm K aD H S){n:Nat}{a:Addr}{o o':HO}(e:aD[n]?=some a)(h:H a=some o)(h1:∀ xs,o≠.tup xs)(h2:∀ q u,o≠.frz q u)(hc:za6 K aD (upd H a o') a c):zm K aD (upd H a o') (S.set n c) where
 wd:=st.wd.trans (Wd.putC e h h1 h2)
 len:=by rw[List.length_set];exact st.len
 nd:=st.nd
 cell:=fun m b c' e1 e2=>by
  have w:Wd aD H aD (upd H a o'):=Wd.putC e h h1 h2;by_cases hm:m=n
  ·subst hm;rw[e]at e1;cases e1;rw[List.getElem?_set_self (by rw[<- st.len];exact My.zam e)]at e2;cases e2;exact hc
  ·rw[List.getElem?_set_ne (Ne.symm hm)]at e2
   have ne:b≠a:=fun z=>by subst z;have q1:=(List.getElem?_eq_some_iff.mp e1).2;have q2:=(List.getElem?_eq_some_iff.mp e).2;exact hm ((List.getElem_inj st.nd).mp (q1.trans q2.symm))
   exact(st.cell m b c' e1 e2).wd w (zA ne)
end
section
variable {X:Cx}{a b c:Expr}{td ti tz tv:DE}{pos apos cpos:Pos}[B:Bs]
def znf:PD X (.Dict [] [] pos) zjd:=by with_unfolding_all exact(zad zmp fun U H Q hh=>el8 hh fun aD Z S Q0 st rh q k p hp =>k _ _ _ _ _ q (Wd.newL st hp) (st.newC hp ⟨[],zaa,.nil⟩) st.newRef)
def znI:PD X (.Dict [] [] pos) zjo:=by with_unfolding_all exact(zad zls fun U H Q hh=>el8 hh fun aD Z S Q0 st rh q k p hp =>k _ _ _ _ _ q (Wd.newL st hp) (st.newC hp ⟨[],zaa,.nil⟩) st.newRef)
end
structure FH (K:À)(n:Str)(st:Stmt)(f:Addr)(fd:FuncData):Prop where
 a:PySem.W.nsIn K mainGlobals n=some (some (.ref f))
 F:Fun K n n st f fd
section
variable {K:À}{n:Str}{st:Stmt}{f:Addr}{fd:FuncData}{mg:Str->Option Â}{k:Nat}{h:Heap}{ps:List Str}{sp:Sp}
def zsk {oc:Â}{od an:Option Addr}{osl:Array (Option Â)}{kV doc pm cdv ct:Â}(a:PySem.W.nsIn K mainGlobals n=some (some (.ref f)))
  (l:K.lookup f=some ⟨oc,od,.func (PySem.W.fnOf n n (zal st) (z7 st) (zF st) .none kV doc pm an cdv ct),osl⟩) (c:PySem.W.codeIn K cdv n=true) (k:PySem.W.keepIn K (.ref f)=true) :
  FH K n st f (PySem.W.fnOf n n (zal st) (z7 st) (zF st) .none kV doc pm an cdv ct):=⟨a,zhc l c k⟩
end
section
variable {X:Cx}
def zuu [B:Bs](i:Nat){x:Str}{pos:Pos}(hN:autoParam (X.N[i]?=some x) zq)(hv:L2.Vis X.env.scope x:=by first | exact Or.inl rfl | exact Or.inr (Or.inl rfl) | exact Or.inr (Or.inr rfl))(hd:autoParam ((x==("__debug__":Str))=false) zG)(hcd:autoParam ((x==("__classdict__":Str))=false) zG):PD X (.Name x pos) (za1 i):=by with_unfolding_all exact(zrm (zpC hN hv hd hcd))
end
section
variable {X:Cx}{a b c:Expr}{ta tb:DE}{td ti tz tv:DE}{pos apos cpos:Pos}[B:Bs]
def zlr (hk:PD X a tk)(hv:PD X b tv):PD X (.Dict [some a] [b] pos) (zkE tk tv):=by with_unfolding_all exact(zad (zo4 (zk7 hk hv zoN) rfl rfl (by intro h;cases h) (Nat.le_of_ble_eq_true rfl)) fun U H Q hh=>el8 hh fun aD Z S Q0 st rh q k p hp =>
 ⟨aD++[p],Z,S++[.dk []],_,st.newC (c:=.dk []) hp ⟨[],zaa,.nil⟩,rh.wd (Wd.newL st hp),(show tk Z (S++[.dk []]) _ from q),fun x S1 v H1 ad1 q1 w1 st1 r1=>⟨ad1,Z,S1,_,st1,(rh.wd (Wd.newL st hp)).wd w1,q1,by
  rintro y S2 u H2 ad2 ⟨z,ex,hn,q2⟩ w2 st2 r2;subst ex;cases r1;have w12:=(Wd.newL (o:=.dK []) st hp).trans (w1.trans w2)
  have e:ad2[S.length]?=some p:=by refine zeu (w1.trans w2).pre ?_;rw[<- st.len,List.getElem?_append_right (Nat.le_refl _),Nat.sub_self];rfl
  obtain⟨vs,hv',r⟩:=st2.cell S.length _ _ e hn;cases r;have h1:∀ xs,HO.dK []≠.tup xs:=fun _ z=>by cases z
  have h2:∀ q u,HO.dK []≠.frz q u:=fun _ _ z=>by cases z
  have w':=Wd.putC (o':=.dK [((Sum.inr z:Key),u)]) e hv' h1 h2;exact⟨hv',[((Sum.inr z:Key),u)],rfl,Nat.le_of_ble_eq_true rfl,k _ _ _ _ _ q2 (w12.trans w') (st2.putC e hv' h1 h2 ⟨_,zaa,.cons (r2.wd w') .nil⟩) (.ref e)⟩⟩⟩)
end
end Dp
namespace Dp
open PySem PySem.Spec PyProof.Rows L2 My
class Fl (α:Type) where
 fl:α
instance flP:Fl Prop:=⟨False⟩
instance flF {α β:Type} [Fl β]:Fl (α->β):=⟨fun _=>Fl.fl⟩
abbrev gdX {α:Type}[Fl α](b:Bool)(t:α):α:=match b with
 |true=>t
 |false=>Fl.fl
abbrev ob {β:Type}[Fl β](o:Option α)(f:α->β):β:=match o with
 |some a=>f a
 |none=>Fl.fl
def zbH {α:Type}[Fl α]{Q:α->Prop}{b:Bool}{t:α}(hf:Q Fl.fl)(h:b=true->Q t):Q (gdX b t):=by
 cases b with
 |true=>exact h rfl
 |false=>exact hf
def zeq {α β:Type}[Fl β]{Q:β->Prop}{o:Option α}{f:α->β}(hf:Q Fl.fl)(h:∀ a,o=some a->Q (f a)):Q (ob o f):=by
 cases o with
 |some a=>exact h a rfl
 |none=>exact hf
inductive Al {α:Type}(P:α->Prop):List α->Prop
 |nil:Al P []
 |cons {x:α} {l:List α} (h:P x) (t:Al P l):Al P (x::l)
def Al.mem {α:Type}{P:α->Prop}{l:List α}(a:Al P l):∀ x∈l,P x:=by
 induction a with
 |nil=>intro x h;cases h
 |cons h t ih =>
  intro x hx;rcases List.mem_cons.mp hx with rfl|hx
  ·exact h
  ·exact ih x hx
def zW {a b:Bool}(h:(a&&b)=true):a=true/\b=true:=by simpa using h
def zaC {a:Bool}(h:(!a)=true):a=false:=by simpa using h
def sh (x:Str):Nat:=x.cps.toList.foldl (fun a c=>a*977+c) 1
def se (a b:Str):Bool:=(sh a).beq (sh b)&&a==b
def zfp {a b:Str}:se a b=(a==b):=by
 unfold se;cases h:a==b with
 |false=>rw[Bool.and_false]
 |true=>rw[eq_of_beq h,Nat.beq_refl];rfl
def zdS {a b:Str}(h:se a b=true):a=b:=eq_of_beq (zfp.symm.trans h)
def lkX {α:Type}(x:Str):List (Str×α)->Option α
 |[]=>none
 |(y,v)::r=>match se x y with
  |true=>some v
  |false=>lkX x r
theorem zcu {α:Type}{x:Str}:∀ {l:List (Str×α)},lkX x l=l.lookup x
 |[]=>rfl
 |(y,v)::r=>by
  unfold lkX;rw[List.lookup_cons,zfp];cases x==y with
  |true=>rfl
  |false=>exact zcu
theorem zcC {α:Type}{x:Str}{v:α}:∀ {l:List (Str×α)},lkX x l=some v->(x,v)∈l
 |(y,u)::r,h=>by
  unfold lkX at h;cases e:se x y with
  |true=>rw[e]at h;cases h;rw[zdS e];exact List.mem_cons_self
  |false=>rw[e]at h;exact List.mem_cons_of_mem _ (zcC h)
def slt (x:Str):List Str->Option Nat
  |[]=>none
  |y::r=>match se x y with
    |true=>some 0
    |false=>(slt x r).map (· + 1)
theorem zcM {x:Str}:∀ {l:List Str} {i:Nat},slt x l=some i->l[i]?=some x
 |y::r,i,h=>by
  unfold slt at h;cases e:se x y with
  |true=>rw[e]at h;cases h;rw[zdS e];rfl
  |false =>rw[e]at h;obtain⟨j,hj,rfl⟩:=Option.map_eq_some_iff.mp h;exact zcM (l:=r) hj
def has (x:Str):List Str->Bool
 |[]=>false
 |y::r=>se x y||has x r
inductive Bt where
 |len|abs|max|min|sum|any|all|isi|sorted|range|zip|enum|rev|set|tuple|list|int|bool|str
 deriving DecidableEq
def Bt.nm:Bt->Str
 | .len=>"len" | .abs=>"abs" | .max=>"max" | .min=>"min" | .sum=>"sum" | .any=>"any" | .all=>"all" | .isi=>"isinstance" | .sorted=>"sorted" | .range=>"range"
 | .zip=>"zip" | .enum=>"enumerate" | .rev=>"reversed" | .set=>"set" | .tuple=>"tuple" | .list=>"list" | .int=>"int" | .bool=>"bool" | .str=>"str"
def Bt.ty:Bt->Option String
 | .tuple=>some "tuple" | .list=>some "list" | .int=>some "int" | .bool=>some "bool" | .str=>some "str" | _=>none
def Bt.id:Bt->String
 | .len=>"len" | .abs=>"abs" | .max=>"max" | .min=>"min" | .sum=>"sum" | .any=>"any" | .all=>"all" | .isi=>"isinstance" | .sorted=>"sorted" | _=>""
inductive zaE where
 |fn (k:Nat) (ps:List Str) (sp:DSp)
 |fx (k:Nat) (ps:List Str) (sp:zU)
 |cl (k:Nat) (sp:DSp)
 |cx (k:Nat) (c:Str) (init:zU)
 |int (n:Int)
 |str (z:Str)
 |kt (cs:List (List D))
 |blt (b:Bt)
structure zdY where
 m:Str
 c:Str
 st:Stmt
 k:Nat
 ps:List Str
 sp:zU
structure Gm where
 g:List (Str×zaE)
 r:List Str:=[]
 t:List (Str×List Str):=[]
 i:List (Str×List (Str×Bool)):=[]
 f:List (Str×Str):=[]
 m:List zdY:=[]
structure RC where
 g:Gm
 nm:List (Str×NameKind)
 fl:List (Str×NameKind)
 N:List Str
 j:Nat
 ex:XR:=xF
 m:Nat:=0
 calm:Bool:=true
 top:Bool:=true
 d:List (Str×Option Bool):=[]
 it:Bool:=false
 dn:Option (Option Bool):=none
 cls:Str:=Str.empty
 xs:List Str:=[]
 lm:Option Str:=none
structure RdX where
 e:RC->Expr->DE
 t:RC->Expr->DT
 s:RC->List Stmt->DS
def IsL (K:À)(l:List (Str×Bool))(v:Â):Prop:=∀ c b C,l.lookup c=some b->PySem.W.nsIn K mainGlobals c=some (some (.ref C))->IsC K C/\PySem.W.kitOne K (.ref C) v=some b
section
variable (P:Program)(w:World)(K:À)(mg:Str->Option Â)(base:Heap)
def zm2 (j:Nat)(x:Str):zaE->Prop
 |.fn k ps sp=>k<=j->Got P w K mg base k x ps (upF K sp)
 |.fx k ps sp=>k<=j->zrM P w K mg base k x ps (zbF K sp)
 |.cl k sp=>k+1<=j->zmr P w K mg base k x (upF K sp)
 |.cx k c init=>k+1<=j->zm1 P w K mg base k x c init
 |.int n=>∃ t,mg x=some (.int n t)
 |.str z=>∃ t,mg x=some (.str z t)
 |.kt _=>False
 |.blt b=>x=b.nm/\mg x=none
structure zc1 (j:Nat)(G:Gm):Prop where
 g:∀ x e,(x,e)∈G.g->zm2 P w K mg base j x e
 r:∀ x,x∈G.r->(∀ C,PySem.W.nsIn K mainGlobals x=some (some (.ref C))->ExC K C)/\∃ C,PySem.W.nsIn K mainGlobals x=some (some (.ref C))/\mg x=some (.ref C)
 t:∀ x (l:List Str),(x,l)∈G.t->∃ Cc,mg x=some (.ref Cc)/\∀ c C,l.contains c=true->PySem.W.nsIn K mainGlobals c=some (some (.ref C))->PySem.W.exmOne K (.ref C) (.ref Cc)=some true
 i:∀ x (l:List (Str×Bool)),(x,l)∈G.i->(∃ Cc,mg x=some (.ref Cc)/\IsL K l (.ref Cc))\/∃ T,mg x=none/\bootBuiltins x=some (.type T)/\IsL K l (.type T)
 f:∀ c f,(c,f)∈G.f->∀ C,PySem.W.nsIn K mainGlobals c=some (some (.ref C))->zbf K C f
 m:∀ r,r∈G.m->r.k<=j->zlk P w K mg base r.k r.c r.m r.ps (zbF K r.sp)
end
def zuT (X:Cx):Option Str->Prop
 |none=>True
 |some _=>False
structure RC.Ok0 (c:RC)(X:Cx):Prop where
 nm:X.env.scope.names=c.nm
 N:X.N=c.N
 nd:c.N.Nodup
 rm:c.calm=true->zP c.j X.A
 fn:∀ x,lkX x c.fl=some .cell->X.fn x=true
 calm:c.calm=true->X.calm=true
 xe:c.m=0->X.xe=fun _ _=>False
 po:c.m<=1->PassesOwn (model X.prog X.w) X.A X.env X.xe
 kind:X.env.scope.kind=.function
 top:c.top=true->X.stack=X.env::X.outer/\X.env.frame=some X.env.locals
 gm:zc1 X.prog X.w X.K X.mg X.base c.j c.g
 lm:zuT X c.lm
structure RC.Ok [B:Bs](c:RC)(X:Cx):Prop extends RC.Ok0 c X where
 hX:XOk X c.ex
 hM:c.m=1->XMk X c.ex
variable [B:Bs]
section
variable {X:Cx}{c:RC}
def RC.Ok.kd (ok:c.Ok X){x:Str}:X.env.kindOf x=lkX x c.nm:=by rw[zcu,<- ok.nm];rfl
def zaf {e:Expr}:PD X e Fl.fl:=by
 with_unfolding_all
 exact by rintro pins s U H Q I ⟨_,_,_,_,_,_,h,_⟩;exact h.elim
def zjw {e:Expr}:PTD X e Fl.fl:=by
 with_unfolding_all
 exact by rintro pins s U H Q I ⟨_,_,_,_,_,_,h,_⟩;exact h.elim
def zto {e:Expr}:PWD X e Fl.fl:=by
 with_unfolding_all
 exact by rintro wh pins s U H Q I ⟨_,_,_,_,_,_,h,_⟩;exact h.elim
def ztm {es:List Expr}:PAD X es Fl.fl:=by
 with_unfolding_all
 exact by rintro pos pins s U H Q I ⟨_,_,_,_,_,_,h,_⟩;exact h.elim
def zjr {st:Stmt}:PSD X st Fl.fl:=by
 with_unfolding_all
 exact by rintro pins s U H D I ⟨_,_,_,_,_,_,h,_⟩;exact h.elim
def gpd {e:Expr}{b:Bool}{t:DE}(h:b=true->PD X e t):PD X e (gdX b t):=zbH zaf h
def opd {α:Type}{e:Expr}{o:Option α}{f:α->DE}(h:∀ a,o=some a->PD X e (f a)):PD X e (ob o f):=zeq zaf h
def gsd {e:Stmt}{b:Bool}{t:DS}(h:b=true->PSD X e t):PSD X e (gdX b t):=zbH zjr h
def osd {α:Type}{e:Stmt}{o:Option α}{f:α->DS}(h:∀ a,o=some a->PSD X e (f a)):PSD X e (ob o f):=zeq zjr h
def zrQ {sts:List Stmt}:zbx X sts Fl.fl:=by
 with_unfolding_all
 exact by rintro pins s U H D I ⟨_,_,_,_,_,_,h,_⟩;exact h.elim
end
end Dp
namespace Dp
open PySem PySem.Spec PyProof.Rows L2 My
def zji:Expr->Bool
 |.Slice _ _ _ _=>true
 |_=>false
def zhm:Expr->Bool
 |.Call _ [] [] _=>true
 |_=>false
def zqS:Expr->Bool
 |.UnaryOp .Not _ _=>true
 |.BoolOp _ _ _=>true
 |.IfExp _ _ _ _=>true
 |.Compare _ _ _ _=>true
 |_=>false
def isSet:Expr->Bool
 |.Set _ _ _=>true
 |_=>false
def zhF:Expr->Bool
 |.ListComp _ _ _ _=>true
 |.SetComp _ _ _ _=>true
 |.DictComp _ _ _ _ _=>true
 |_=>false
def isTup:Expr->Bool
 |.Tuple _ _ _=>true
 |_=>false
def zaX (es:List Expr):Bool:=es.all fun e=>!isStar e
def kids:Expr->List Expr
 |.BoolOp _ vs _=>vs
 |.BinOp a _ b _=>[a,b]
 |.UnaryOp _ a _=>[a]
 |.IfExp a b c _=>[a,b,c]
 |.Compare a _ bs _=>a::bs
 |.Call f as ks _=>f::as++ks.map fun k=>match k with|⟨_,v,_⟩=>v
 |.FormattedValue a _ _ _=>[a]
 |.JoinedStr vs _=>vs
 |.Attribute a _ _=>[a]
 |.Subscript a b _=>[a,b]
 |.List es _=>es
 |.Tuple es _ _=>es
 |.Slice a b c _=>a.toList++b.toList++c.toList
 |.Dict _ vs _=>vs
 |_=>[]
def nms:Nat->Expr->List Str
 |_,.Name x _=>[x]
 |n+1,.ListComp e [⟨tg,it,ifs,_⟩] _ _=>nms n it++((e::ifs).flatMap (nms n)).filter fun y=>!has y (nms n tg)
 |n+1,e=>(kids e).flatMap (nms n)
 |0,_=>[]
def zfR:Nat->Expr->Bool
 |_,.IfExp _ _ _ _=>true
 |n+1,.ListComp e [⟨_,it,ifs,_⟩] _ _=>zfR n e||zfR n it||ifs.any (zfR n)
 |n+1,e=>(kids e).any (zfR n)
 |0,_=>false
def zgU:Nat->List Stmt->Bool
 |n+1,b=>match b.getLast? with
  |some (.Return _ _)=>false
  |some (.Raise _ _ _)=>false
  |some (.Continue _)=>false
  |some (.Break _)=>false
  |some (.If _ a o _)=>zgU n a||zgU n o
  |_=>true
 |0,_=>true
def zm0:Stmt->Bool
 |.Assign _ (.BoolOp _ _ _) _=>true
 |.Assign _ v _=>zfR 30 v
 |.If _ a b _=>zgU 30 a&&zgU 30 b
 |_=>false
def cop:CmpOp->Option DR2
 |.Eq=>some oEq
 |.NotEq=>some oNe
 |.Lt=>some oLt
 |.LtE=>some oLe
 |.Gt=>some oGt
 |.GtE=>some oGe
 |.Is=>some oIs
 |.IsNot=>some zgZ
 |.In=>some oIn
 |.NotIn=>some zfw
def bop:Operator->Option DR2
 |.Add=>some zJ
 |.Sub=>some zap
 |.Mult=>some zag
 |.FloorDiv=>some oDiv
 |.Mod=>some oMod
 |_=>none
def bfn (it:Bool):Bt->Nat->Option DB
 |.len,1=>some z8
 |.abs,1=>some zi7
 |.max,2=>some zgT
 |.sum,1=>some zjI
 |.all,1=>some zck
 |.list,1=>some zbb
 |.int,1=>match it with
  |true=>none
  |false=>some zef
 |.isi,2=>some zd5
 |_,_=>none
def zmi:List (Str×Nat×DM):=[
 ("pop",0,zjk),
 ("index",1,zfB),
 ("append",1,zbC)]
def mfd (m:Str)(k:Nat):List (Str×Nat×DM)->Option DM
 |[]=>none
 |(y,j,r)::l=>match Nat.beq k j&&se m y with
  |true=>some r
  |false=>mfd m k l
def gl (c:RC)(x:Str):Bool:=lkX x c.nm==some .globalImplicit&&!se x "__debug__"&&!se x "__name__"
def vis (c:RC)(x:Str):Bool:=(lkX x c.nm==some .local||lkX x c.nm==some .cell||lkX x c.nm==some .free)&&!se x "__debug__"&&!se x "__classdict__"
def stn (c:RC)(x:Str):Bool:=lkX x c.nm==some .local||(lkX x c.nm==some .cell&&lkX x c.fl==some .cell)
def isD (c:RC):Expr->Bool
 |.Name x _=>(lkX x c.d).isSome
 |_=>false
abbrev RC.quiet (c:RC):RC:={ c with ex:=xF,m:=0 }
def rA (r:RdX)(c:RC):List Expr->DA
 |[]=>zf
 |e::es=>gdX (!isStar e) (za (r.e c e) (rA r c es))
def rBV (r:RdX)(c:RC)(op:BoolOp):List Expr->DE
 |[]=>Fl.fl
 |[a]=>r.e c a
 |a::b::l=>match op with
  |.And=>zbD (r.e c a) (rBV r c op (b::l))
  |.Or=>zpc (r.e c a) (rBV r c op (b::l))
def rBT (r:RdX)(c:RC)(op:BoolOp):List Expr->DT
 |[]=>Fl.fl
 |[a]=>r.t c a
 |a::b::l=>match op with
  |.And=>zf2 (r.t c a) (rBT r c op (b::l))
  |.Or=>dOr (r.t c a) (rBT r c op (b::l))
def rNm (c:RC)(x:Str):DE:=match slt x c.N with
 |some i=>gdX (vis c x) (za1 i)
 |none=>gdX (gl c x) (ob (lkX x c.g.g) fun
  |.int n=>dC (.int n)
  |.str z=>dC (.str z)
  |.blt b=>ob b.ty fun T=>dC (.ty T)
  |_=>Fl.fl)
def zlF (r:RdX)(c:RC)(a:Expr)(op:Operator)(b:Expr):DE:=match a,op,b with
 |.Constant (.int i) _ _,.Pow,.Constant (.int j) _ _=>gdX (decide (0<=j/\j<=1000000/\i.natAbs<2 ^ 64)) (dC (.int (i ^ j.toNat)))
 |a,op,b=>ob (bop op) fun o=>dOp o (r.e c a) (r.e c b)
def zlw (r:RdX)(c:RC)(a:Expr):List CmpOp->List Expr->DE
 |[op],[b]=>gdX (c.calm&&!behindInMarks op b) (match op,isD c b with
  |_,_=>ob (cop op) fun o=>dOp o (r.e c a) (r.e c b))
 |[op,op'],[b,d]=>gdX (c.calm&&!lastMarks [op,op'] [b,d]) (ob (cop op) fun o=>ob (cop op') fun o'=>zfF o o' (r.e c a) (r.e c b) (r.e c d))
 |_,_=>Fl.fl
def rO (r:RdX)(c:RC):Option Expr->Option DE
 |none=>none
 |some e=>some (r.e c e)
def zrq (r:RdX)(c:RC)(a b:Expr):DE:=gdX (!zji b&&c.calm) (match isD c a with
  |true=>Fl.fl
  |false=>dOp oIx (r.e c a) (r.e c b))
def zi9 (r:RdX)(c:RC)(a:Expr):Expr->DE
 |.Slice lo hi none _=>dSl zbG (r.e c a) (rO r c lo) (rO r c hi)
 |b=>zrq r c a b
structure RdX.Ok (r:RdX):Prop where
 e:∀ [Bs] {c:RC} {X:Cx},c.Ok X->∀ e,PD X e (r.e c e)
 t:∀ [Bs] {c:RC} {X:Cx},c.Ok X->∀ e,PTD X e (r.t c e)
 s:∀ [Bs] {c:RC} {X:Cx},c.Ok X->∀ e,zbx X e (r.s c e)
section
variable {b o e:Expr}{env:Env}
def zmk (h:zji b=false):zf1 b:=by cases b<;>first|(intro _ _;rfl)|cases h
def zdh (h:zhm o=false){m:Str}{w:Sem Â}:attributeBase o m env w=w:=by
  cases o with
  |Call f a k p=>cases f<;>cases a<;>cases k<;>first|rfl|cases h
  |_=>rfl
def zsW (h:zqS e=false)(w:Sem Â):isTrue e env w=(do let v <- w;standAt e.pos;holding [v] (truthy v)):=by
  cases e with
  |UnaryOp op a p=>cases op<;>first|rfl|cases h
  |_=>first|rfl|cases h
def zmy (h:isSet e=false)(x:Â):foldedSetIterable e env x=pure x:=by cases e<;>first|rfl|cases h
def zmO (h:zhF e=false){t:Option Expr}{l:Nat}:swapsWith e t l env=pure false:=by cases e<;>first|rfl|cases h
def zbA {es:List Expr}{pos:Pos}(h:zaX es=true):(backTo pos (starEach es env)).any (·.1)=false:=zdk h
end
variable [B:Bs]
section
variable {X:Cx}{c:RC}{r:RdX}
def zem (ok:c.Ok X){x:Str}(h:gl c x=true):Gl X x/\(x==("__debug__":Str))=false/\x≠"__name__":=by simp only[gl,Bool.and_eq_true]at h;obtain⟨⟨h1,h2⟩,h3⟩:=h;rw[zfp]at h2 h3;exact⟨ok.kd.trans (eq_of_beq h1),zaC h2,fun e=>by rw[e]at h3;simp at h3⟩
def zo8 (ok:c.Ok X){x:Str}(h:vis c x=true):L2.Vis X.env.scope x/\(x==("__debug__":Str))=false/\(x==("__classdict__":Str))=false:=by
 simp only[vis,Bool.and_eq_true]at h;obtain⟨⟨h1,h2⟩,h3⟩:=h;rw[zfp]at h2 h3;refine⟨?_,zaC h2,zaC h3⟩;unfold L2.Vis;rw[ok.nm,<- zcu];simp only[Bool.or_eq_true,beq_iff_eq]at h1;rcases h1 with(h|h)|h
 ·exact .inl h
 ·exact .inr (.inl h)
 ·exact .inr (.inr h)
def zfK (ok:c.Ok X){x:Str}(h:stn c x=true):L2.Loc X.env.scope x/\(X.fn x=true\/X.env.scope.names.lookup x=some .local):=by
 unfold L2.Loc;rw[ok.nm,<- zcu];simp only[stn,Bool.or_eq_true,Bool.and_eq_true,beq_iff_eq]at h;rcases h with h|⟨h,h'⟩
 ·exact⟨.inl h,.inr h⟩
 ·exact⟨.inr h,.inl (ok.fn x h')⟩
theorem zbl (hr:r.Ok)(ok:c.Ok X):∀ {es:List Expr},PAD X es (rA r c es)
 |[]=>zkw
 |e::es=>zbH (Q:=PAD X (e::es)) ztm fun h=>ziu (hr.e ok e) (zbl hr ok) (zac (zaC h))
theorem zhR (hr:r.Ok)(ok:c.Ok X){op:BoolOp}{pos:Pos}:∀ {es:List Expr},PD X (.BoolOp op es pos) (rBV r c op es)
 |[]=>zaf
 |[a]=>zrR (hr.e ok a)
 |a::b::l=>by
  cases op with
  |And=>exact zog (hr.e ok a) (zhR hr ok)
  |Or=>exact zpR (hr.e ok a) (zhR hr ok)
theorem zhb (hr:r.Ok)(ok:c.Ok X){op:BoolOp}{pos:Pos}:∀ {es:List Expr},PWD X (.BoolOp op es pos) (rBT r c op es)
 |[]=>zto
 |[a]=>by
  cases op with
  |And=>exact zms (hr.t ok a)
  |Or=>exact zoF (hr.t ok a)
 |a::b::l=>by
  cases op with
  |And=>exact znq (hr.t ok a) (zhb hr ok)
  |Or=>exact zpJ (hr.t ok a) (zhb hr ok)
def zsP {b:Bt}{T:String}(h:b.ty=some T):bootBuiltins b.nm=some (.type T):=by cases b<;>cases h<;>first|exact boot_tuple|exact boot_list|exact boot_int|exact boot_bool|exact boot_str
def zsb (ok:c.Ok X){x:Str}{pos:Pos}:PD X (.Name x pos) (rNm c x):=by
 unfold rNm;cases hs:slt x c.N with
 |some i=>exact gpd fun h=>let ⟨h1,h2,h3⟩:=zo8 ok h;zuu i (ok.N.symm▸zcM hs) h1 h2 h3
 |none =>
  refine gpd fun h=>opd fun en he=>?_
  obtain⟨h1,h2,h3⟩:=zem ok h;have g:=ok.gm.g _ _ (zcC he);cases en with
  |int n=>exact zn2 h1 g h2
  |str z=>exact zoL h1 g h2
  |blt b =>
   refine opd fun T hT=>?_
   obtain⟨rfl,g⟩:=g;exact zsZ h1 g (zsP hT) h3 h2
  |_=>exact zaf
def zpl {op:Operator}{o:DR2}(h:bop op=some o){pos:Pos}(ha:PD X a ta)(hb:PD X b tb):PD X (.BinOp a op b pos) (dOp o ta tb):=by
 cases op with
 |Add=>cases h;exact zr9 ha hb
 |Sub=>cases h;exact zrL ha hb
 |Mult=>cases h;exact zpQ ha hb
 |FloorDiv=>cases h;exact zr6 ha hb
 |Mod=>cases h;exact zpM ha hb
 |_=>cases h
def zoA (hr:r.Ok)(ok:c.Ok X){a b:Expr}{op:Operator}{pos:Pos}:PD X (.BinOp a op b pos) (zlF r c a op b):=by
 unfold zlF;split
 ·exact gpd fun h=>zod _ rfl (of_decide_eq_true h)
 ·exact opd fun o h=>zpl h (hr.e ok _) (hr.e ok _)
theorem zdi (hr:zP k X.A):∀ {op:CmpOp} {o:DR2},cop op=some o->OC X op o
 |.Eq,_,rfl=>zsl hr
 |.NotEq,_,rfl=>ztQ hr
 |.Lt,_,rfl=>zsA
 |.LtE,_,rfl=>ztV
 |.Gt,_,rfl=>zsR
 |.GtE,_,rfl=>zsY
 |.Is,_,rfl=>zt4
 |.IsNot,_,rfl=>zrO
 |.In,_,rfl=>zsN hr
 |.NotIn,_,rfl=>zmc hr
abbrev PB (X:Cx)(e:Expr)(t:DE):Prop:=PD X e t/\PTD X e (dT t)
def zci {e:Expr}:PB X e Fl.fl:=⟨zaf,zjw⟩
theorem ziG (hr:r.Ok)(ok:c.Ok X){a:Expr}{pos:Pos}:∀ {ops:List CmpOp} {bs:List Expr},PB X (.Compare a ops bs pos) (zlw r c a ops bs)
  |[op],[b]=>zbH (Q:=PB X _) zci fun h=>by
    obtain⟨hc,hm⟩:=zW h;have rm:=ok.rm hc;have ga:PB X (.Compare a [op] [b] pos) (ob (cop op) fun o=>dOp o (r.e c a) (r.e c b)):=zeq (Q:=PB X _) zci fun o ho=>⟨zoY (zdi rm ho) (hr.e ok a) (hr.e ok b) (zaC hm),zoe (zdi rm ho) (hr.e ok a) (hr.e ok b) (zaC hm)⟩
    cases hd:isD c b with
    |false=>cases op<;>exact ga
    |true =>
      cases op with
      |_=>exact ga
  |[op,op'],[b,d]=>zbH (Q:=PB X _) zci fun h=>zeq (Q:=PB X _) zci fun o ho=>zeq (Q:=PB X _) zci fun o' ho'=>by obtain⟨hc,hm⟩:=zW h;have rm:=ok.rm hc;exact⟨zlu (zdi rm ho) (zdi rm ho') (hr.e ok a) (hr.e ok b) (hr.e ok d) (zaC hm),zj7 (zdi rm ho) (zdi rm ho') (hr.e ok a) (hr.e ok b) (hr.e ok d) (zaC hm)⟩
  |[],_=>zci
  |[_],[]=>zci
  |[_],_::_::_=>zci
  |[_,_],[]=>zci
  |[_,_],[_]=>zci
  |[_,_],_::_::_::_=>zci
  |_::_::_::_,_=>zci
theorem zmZ (hr:r.Ok)(ok:c.Ok X):∀ {e:Option Expr},PO X e (upO X.K (rO r c e))
 |none=>znN
 |some e=>zn3 (hr.e ok e)
def zp7 (hr:r.Ok)(ok:c.Ok X){a b:Expr}{pos:Pos}:PD X (.Subscript a b pos) (zrq r c a b):=by
 refine gpd fun h=>?_
 obtain⟨h1,h2⟩:=zW h;split
 ·exact zaf
 ·exact ztt (hr.e ok _) (hr.e ok _) (zmk (zaC h1))
def zoV (hr:r.Ok)(ok:c.Ok X){a b:Expr}{pos:Pos}:PD X (.Subscript a b pos) (zi9 r c a b):=by
 unfold zi9;split
 ·exact zs7 (hr.e ok a) (zmZ hr ok) (zmZ hr ok)
 ·exact zp7 hr ok
end
end Dp
namespace Dp
open PySem PySem.Spec PyProof.Rows L2 My
def tgD (c:RC)(b:Nat):Nat->Expr->DG
 |_,.Name x _=>ob (slt x c.N) fun i=>gdX (Nat.blt i b&&stn c x) (zK i)
 |n+1,.Tuple es _ _=>gdX (zaX es&&c.calm) (zbW es.length (es.foldr (fun e t=>z9 (tgD c b n e) t) zbP))
 |_,_=>Fl.fl
def tgL (K:À)(c:RC)(b:Nat):Nat->Expr->TG
 |_,.Name x _=>ob (slt x c.N) fun i=>gdX (Nat.blt i b&&stn c x) (L2.zK i)
 |n+1,.Tuple es _ _=>gdX (zaX es&&c.calm) (L2.zbW K es.length (es.foldr (fun e t=>L2.z9 (tgL K c b n e) t) L2.zbP))
 |_,_=>Fl.fl
section
variable {env:Env}
def zhl {e:Expr}{es:List Expr}(h:isStar e=false):assignEach (e::es) env=(false,assign e env)::assignEach es env:=by cases e<;>first|rfl|cases h
theorem zeZ:∀ {es:List Expr},zaX es=true->(assignEach es env).length=es.length/\(assignEach es env).findIdx? (·.1)=none
 |[],_=>⟨rfl,rfl⟩
 |e::es,h=>by unfold zaX at h;rw[List.all_cons,Bool.and_eq_true]at h;obtain⟨h1,h2⟩:=zeZ (es:=es) h.2;rw[zhl (zaC h.1),List.length_cons,h1,List.findIdx?_cons,h2];exact⟨rfl,rfl⟩
end
section
variable [B:Bs]{K:À}{b:Nat}{c:RC}
def zka:∀ (n:Nat) (e:Expr),zcg K b (tgD c b n e) (tgL K c b n e):=by
 have fl:zcg K b (Fl.fl:DG) (Fl.fl:TG):=fun _ _ _ _ _ _ _ _ _ _ _ _ h _=>h
 have nm:∀ x,zcg K b (ob (slt x c.N) fun i=>gdX (Nat.blt i b&&stn c x) (zK i)) (ob (slt x c.N) fun i=>gdX (Nat.blt i b&&stn c x) (L2.zK i)):=fun x=>by
  cases slt x c.N with
  |none=>exact fl
  |some i =>
   show zcg K b (gdX (Nat.blt i b&&stn c x) (zK i)) (gdX (Nat.blt i b&&stn c x) (L2.zK i));cases h:Nat.blt i b&&stn c x with
   |false=>exact fl
   |true=>exact zjS i (Nat.blt_eq.mp (zW h).1)
 intro n
 induction n with
 |zero =>
  intro e;cases e with
  |Name x p=>exact nm x
  |_=>exact fl
 |succ n ih =>
  intro e;cases e with
  |Name x p=>exact nm x
  |Tuple es k p =>
   unfold tgD tgL;cases zaX es&&c.calm with
   |false=>exact fl
   |true =>
    refine zlc ?_
    induction es with
    |nil=>exact zkH
    |cons e es ih2=>exact zjc (ih e) ih2
  |_=>exact fl
def zg7 {X:Cx}{e:Expr}:PG X e Fl.fl:=fun _ _ _ _ _ _ _ _ _ h=>h.elim
theorem zjU {X:Cx}{f:Expr->TG}:∀ {es:List Expr},zaX es=true->(∀ e,PG X e (f e))->PGs X es (es.foldr (fun e t=>L2.z9 (f e) t) L2.zbP)
 |[],_,_=>znh
 |e::es,h,hf=>by unfold zaX at h;rw[List.all_cons,Bool.and_eq_true]at h;exact zlH (hf e) (zjU h.2 hf) (by rw[zhl (zaC h.1)];rfl)
def zmT {X:Cx}(ok:c.Ok X):∀ (n:Nat) (e:Expr),PG X e (tgL X.K c b n e):=by
 have nm:∀ x p,PG X (.Name x p) (ob (slt x c.N) fun i=>gdX (Nat.blt i b&&stn c x) (L2.zK i)):=fun x p =>zeq (Q:=PG X _) zg7 fun i hi=>zbH (Q:=PG X _) zg7 fun h=>by obtain⟨h1,h2⟩:=zfK ok (zW h).2;exact zna (ok.N.symm▸ok.nd) (ok.N.symm▸zcM hi) h1 h2
 intro n
 induction n with
 |zero =>
  intro e;cases e with
  |Name x p=>exact nm x p
  |_=>exact zg7
 |succ n ih =>
  intro e;cases e with
  |Name x p=>exact nm x p
  |Tuple es k p=>exact zbH (Q:=PG X _) zg7 fun h=>zp2 (ok.calm (zW h).2) (zjU (zW h).1 ih) (zeZ (zW h).1).1 (zeZ (zW h).1).2
  |_=>exact zg7
def zmz {X:Cx}(ok:c.Ok X)(n:Nat)(e:Expr):PGD X b e (tgD c b n e):=⟨_,zmT ok n e,zka n e⟩
end
def zfO (c:RC):Expr->Option (Bt×List Expr)
 |.Call (.Name y _) as [] _=>match gl c y&&zaX as,lkX y c.g.g with
  |true,some (.blt b)=>some (b,as)
  |_,_=>none
 |_=>none
def isZ:List Expr->Bool
 |[.Constant (.int (.ofNat 0)) _ _]=>true
 |_=>false
def rLs (r:RdX)(c:RC)(a:Expr):Option DE:=match zfO c a with
 |some (.set,[x])=>some (dB zfE (rA r c.quiet [x]))
 |_=>none
def rLt (r:RdX)(c:RC)(a:Expr):Option DE:=match zfO c a with
 |_=>none
def zlR (r:RdX)(c:RC)(b:Bt)(es:List Expr):DE:=match b,es with
 |.len,[a]=>match isD c a,rLs r c a with
  |true,_=>Fl.fl
  |false,some t=>t
  |false,none=>dB z8 (rA r c [a])
 |.list,[a]=>match rLt r c a with
  |some t=>t
  |none=>ob (bfn c.it .list 1) fun r'=>dB r' (rA r c [a])
 |b,es=>ob (bfn c.it b es.length) fun r'=>dB r' (rA r c es)
def zl6 (r:RdX)(c:RC)(es:List Expr):Option DE:=match es with
 |[.Name e p,.Name T _]=>match has e c.xs&&gl c T with
  |true=>(lkX T c.g.i).map fun l=>zbX l (r.e c (.Name e p))
  |false=>none
 |_=>none
def rBq (r:RdX)(c:RC)(b:Bt)(es:List Expr):DE:=match b,zl6 r c es with
 |.isi,some t=>t
 |b,_=>gdX c.calm (zlR r c b es)
def zmN (r:RdX)(c:RC)(es:List Expr):zaE->DE
 |.fn k _ sp=>gdX (k.ble c.j&&c.calm) (dCall sp (rA r c es))
 |.fx k _ sp=>gdX (k.ble c.j&&c.calm) (zak sp c.ex (rA r c es))
 |.cl k sp=>gdX ((k+1).ble c.j&&c.calm) (dCall sp (rA r c es))
 |.cx k n init=>gdX ((k+1).ble c.j&&c.calm) (zak (zdc n init) c.ex (rA r c es))
 |.blt b=>rBq r c b es
 |_=>Fl.fl
def rMl (r:RdX)(c:RC)(o:Expr)(m:Str)(es:List Expr):DE:=ob (mfd m (match isZ es&&se m "pop" with | true=>9 | false=>es.length) zmi) fun r'=>dM r' (r.e c o) (rA r c es)
def zpw:List (Str×(DE->DE->DE)) :=[]
def rMt (r:RdX)(c:RC)(o:Expr)(m:Str)(es:List Expr):DE:=match es with
 |[a]=>match lkX m zpw with
  |some t=>t (r.e c o) (r.e c a)
  |none=>rMl r c o m [a]
 |es=>rMl r c o m es
def lkM (x:Str):List zdY->Option zdY
 |[]=>none
 |r::l=>match se x r.m with
  |true=>some r
  |false=>lkM x l
theorem zfX {x:Str}{r:zdY}:∀ {l:List zdY},lkM x l=some r->r∈l/\r.m=x
 |u::l,h=>by
  unfold lkM at h;cases e:se x u.m with
  |true=>rw[e]at h;cases h;exact⟨List.mem_cons_self,(zdS e).symm⟩
  |false=>rw[e]at h;exact⟨List.mem_cons_of_mem _ (zfX h).1,(zfX h).2⟩
def zmM (r:RdX)(c:RC)(o:Expr)(m:Str)(ap:Pos)(es:List Expr)(cp:Pos):DE:=gdX (!zhm o&&(ap.endLine==cp.line)&&zaX es&&Nat.blt es.length 25) (match c.calm with
 |false=>(match es with
  | [a]=>gdX (se m "append") (dM zbC (r.e c o) (rA r c [a]))
  |_=>Fl.fl)
 |true=>match lkM m c.g.m with
 |some u=>gdX (u.k.ble c.j) (zae u.c u.m u.sp c.ex (r.e c o) (rA r c es))
 |none=>match isD c o with
 |true=>Fl.fl
 |false=>rMt r c o m es)
variable [B:Bs]
section
variable {X:Cx}{c:RC}{r:RdX}
theorem RC.Ok.quiet (ok:c.Ok X):c.quiet.Ok (nxX X) :=⟨⟨ok.nm,ok.N,ok.nd,ok.rm,ok.fn,ok.calm,fun _=>rfl,fun _=>PassesOwn.never,ok.kind,ok.top,ok.gm,ok.lm⟩,zgJ,(fun h=>nomatch h)⟩
def zdx (ok:c.Ok X){b:Bt}{e:Expr}{as:List Expr}(h:zfO c e=some (b,as)):∃ p q,e=.Call (.Name b.nm p) as [] q/\zaX as=true/\Gl X b.nm/\X.mg b.nm=none:=by
 unfold zfO at h;split at h
 ·rename_i y p as' q;split at h
  ·rename_i hb he;cases h;obtain⟨rfl,m⟩:=ok.gm.g _ _ (zcC he);exact⟨p,q,rfl,(zW hb).2,(zem ok (zW hb).1).1,m⟩
  ·cases h
 ·cases h
def zqp {it:Bool}{b:Bt}{n:Nat}{r':DB}(hc:X.calm=true)(h:bfn it b n=some r'):(bootBuiltins b.nm=some (.builtin b.id)/\BC X (.builtin b.id) r')\/∃ T,bootBuiltins b.nm=some (.type T)/\BC X (.type T) r':=by
 unfold bfn at h;split at h
 ·cases h;exact .inl ⟨boot_len,zp3⟩
 ·cases h;exact .inl ⟨boot_abs,zrs⟩
 ·cases h;exact .inl ⟨boot_max,zoD hc⟩
 ·cases h;exact .inl ⟨boot_sum,zqG hc⟩
 ·cases h;exact .inl ⟨boot_all,zp8 hc⟩
 ·cases h;exact .inr ⟨_,boot_list,zm9⟩
 ·cases it with
  |true=>cases h
  |false=>cases h;exact .inr ⟨_,boot_int,zrF⟩
 ·cases h;exact .inl ⟨boot_isinstance,zqu⟩
 ·cases h
theorem ziI {m:Str}{k:Nat}{r':DM}:∀ {l:List (Str×Nat×DM)},mfd m k l=some r'->(m,k,r')∈l
 |(y,j,u)::l,h=>by
  unfold mfd at h;cases e:Nat.beq k j&&se m y with
  |true =>rw[e]at h;cases h;rw[zdS (zW e).2,Nat.eq_of_beq_eq_true (zW e).1];exact List.mem_cons_self
  |false=>rw[e]at h;exact List.mem_cons_of_mem _ (ziI h)
def znj (hr:zP j X.A):Al (fun p=>∃ id,Slot "list" p.1 id/\typeOf (.builtin id)=pure (.type "method_descriptor")/\MD X id p.2.2) zmi :=
 .cons ⟨_,PySem.F.slot_list_pop,PySem.F.type_list_pop,zrk⟩ <|
 .cons ⟨_,PySem.F.slot_list_index,PySem.F.type_list_index,zlB hr⟩ <|
 .cons ⟨_,PySem.F.slot_list_append,PySem.F.type_list_append,zgx⟩ .nil
def zoa (hr:zP j X.A){m:Str}{k:Nat}{r':DM}(h:mfd m k zmi=some r'):∃ id,Slot "list" m id/\typeOf (.builtin id)=pure (.type "method_descriptor")/\MD X id r':=(znj hr).mem _ (ziI h)
omit B in
def zH {e:Expr}{es:List Expr}(h:zaX (e::es)=true):isStar e=false/\zaX es=true:=by unfold zaX at h ⊢;rw[List.all_cons,Bool.and_eq_true]at h;exact⟨zaC h.1,h.2⟩
def zpo (hr:r.Ok)(ok:c.Ok X)(hc:c.calm=true)(hg:Gl X "len")(hm:X.mg "len"=none){a:Expr}{t:DE}{p pos:Pos}(h:rLs r c a=some t):PD X (.Call (.Name "len" p) [a] [] pos) t:=by
 unfold rLs at h;split at h
 ·rename_i e1;cases h;obtain⟨p1,q1,rfl,n1,g1,m1⟩:=zdx ok e1;exact zil (znS (X:=nxX X) hg hm g1 m1 (zbl hr ok.quiet) (ok.calm hc) (zbS (zH n1).1))
 ·cases h
def zqX (hr:r.Ok)(ok:c.Ok X)(hc:c.calm=true)(hg:Gl X "list")(hm:X.mg "list"=none){a:Expr}{t:DE}{p pos:Pos}(h:rLt r c a=some t):PD X (.Call (.Name "list" p) [a] [] pos) t:=by
 have two:∀ {x y:Expr},zaX [x,y]=true->starEach [x,y] X.env=[(false,eval x X.env),(false,eval y X.env)]/\starEach [y] X.env=[(false,eval y X.env)]:=fun n=>by obtain⟨n1,n2⟩:=zH n;exact⟨zdw n1 (zH n2).1,zbS (zH n2).1⟩
 unfold rLt at h;cases h
def zoB (hr:r.Ok)(ok:c.Ok X)(hc:c.calm=true){b:Bt}{x:Str}(hx:x=b.nm)(hg:Gl X x)(hm:X.mg x=none)(hn:x≠"__name__")(hd:(x==("__debug__":Str))=false){e:Expr}{es:List Expr}(hs:zaX (e::es)=true){p pos:Pos}:PD X (.Call (.Name x p) (e::es) [] pos) (zlR r c b (e::es)):=by
 obtain⟨s1,s2⟩:=zH hs;have he:starEach (e::es) X.env=(false,eval e X.env)::starEach es X.env:=zac s1;have hpl:(backTo pos (starEach es X.env)).any (·.1)=false:=zbA s2
 have gen:∀ r',bfn c.it b (e::es).length=some r'->PD X (.Call (.Name x p) (e::es) [] pos) (dB r' (rA r c (e::es))):=fun r' h=>by
  rcases zqp (ok.calm hc) h with⟨h1,h2⟩|⟨T,h1,h2⟩
  ·exact zt8 h2 hm (hx▸h1) (zbl hr ok) hg hn hd he hpl
  ·exact ztN h2 hm (hx▸h1) (zbl hr ok) hg hn hd he hpl
 unfold zlR;split
 ·rename_i e0;cases e0;split
  ·exact zaf
  ·rename_i h;subst hx;exact zpo hr ok hc hg hm h
  ·exact gen _ rfl
 ·rename_i e0;cases e0;split
  ·rename_i h;subst hx;exact zqX hr ok hc hg hm h
  ·exact opd gen
 ·exact opd gen
def znr (hr:r.Ok)(ok:c.Ok X){es:List Expr}{t:DE}(h:zl6 r c es=some t)(hg:Gl X "isinstance")(hm:X.mg "isinstance"=none){p pos:Pos}:PD X (.Call (.Name "isinstance" p) es [] pos) t:=by
 unfold zl6 at h;split at h
 ·rename_i e p1 T p2;cases hb:has e c.xs&&gl c T with
  |false=>rw[hb]at h;cases h
  |true =>
   rw[hb]at h;obtain⟨l,hl,rfl⟩:=Option.map_eq_some_iff.mp h;obtain⟨g1,g2,g3⟩:=zem ok (zW hb).2;rcases ok.gm.i _ _ (zcC hl)with⟨C,h1,h2⟩|⟨T',h0,h1,h2⟩
   ·exact zoy hg hm (hr.e ok _) g1 ⟨C,h1,h2⟩ g2
   ·exact znJ hg hm (hr.e ok _) g1 ⟨h0,h2⟩ h1 g3 g2
 ·cases h
def zlZ (hr:r.Ok)(ok:c.Ok X){x:Str}(h:gl c x=true){e:Expr}{es:List Expr}(hs:zaX (e::es)=true){en:zaE}(he:lkX x c.g.g=some en){p pos:Pos}:PD X (.Call (.Name x p) (e::es) [] pos) (zmN r c (e::es) en):=by
 obtain⟨h1,h2,h3⟩:=zem ok h;obtain⟨s1,s2⟩:=zH hs;have hst:starEach (e::es) X.env=(false,eval e X.env)::starEach es X.env:=zac s1;have hpl:(backTo pos (starEach es X.env)).any (·.1)=false:=zbA s2;have g:=ok.gm.g _ _ (zcC he);have A:=zbl hr ok (es:=e::es);cases en with
 |fn k ps sp=>exact gpd fun q=>znY (g (Nat.le_of_ble_eq_true (zW q).1)) (ok.rm (zW q).2) A (Nat.le_of_ble_eq_true (zW q).1) h1 h2 hst hpl
 |fx k ps sp=>exact gpd fun q=>zmg (g (Nat.le_of_ble_eq_true (zW q).1)) ok.hX (ok.rm (zW q).2) A (Nat.le_of_ble_eq_true (zW q).1) h1 h2 hst hpl
 |cl k sp=>exact gpd fun q=>zrA (g (Nat.le_of_ble_eq_true (zW q).1)) (ok.rm (zW q).2) A (Nat.le_of_ble_eq_true (zW q).1) h1 h2 hst hpl
 |cx k n init=>exact gpd fun q=>zoi (g (Nat.le_of_ble_eq_true (zW q).1)) ok.hX (ok.rm (zW q).2) A (Nat.le_of_ble_eq_true (zW q).1) h1 h2 hst hpl
 |int n=>exact zaf
 |str z=>exact zaf
 |kt cs=>exact zaf
 |blt b =>
  obtain⟨hx,hm⟩:=g;show PD X _ (rBq r c b (e::es));unfold rBq;split
  ·rename_i ht;subst hx;exact znr hr ok ht h1 hm
  ·exact gpd fun q=>zoB hr ok q hx h1 hm h3 h2 hs
omit B in
def zhM {env:Env}{pos:Pos}{es:List Expr}(hs:zaX es=true)(hl:es.length<25):((backTo pos (starEach es env)).all (fun x=>!x.1)&&(backToKw pos (keywordEach [] env)).all (fun x=>x.1.isSome)
  &&decide (es.length+([]:List Keyword).length+(if([]:List Keyword).isEmpty then 0 else 1)<30))=true:=by
 have h1:(backTo pos (starEach es env)).all (fun x=>!x.1)=true:=by have:=zbA (env:=env) (pos:=pos) hs;rw[List.all_eq_not_any_not];simpa using this
 rw[h1];simp only[Bool.true_and];have:(backToKw pos (keywordEach [] env)).all (fun x=>x.1.isSome)=true:=rfl;rw[this,Bool.true_and];exact decide_eq_true (by show es.length+0+0<30;lia)
def zkt (hr:r.Ok)(ok:c.Ok X){o:Expr}{m:Str}{es:List Expr}{ap cp:Pos}(h1:zhm o=false)(h2:(ap.endLine==cp.line)=true)(h3:zaX es=true)(h4:es.length<25)(h5:c.calm=true):PD X (.Call (.Attribute o m ap) es [] cp) (rMl r c o m es):=by
 refine opd fun r' h=>?_
 obtain⟨id,sl,ty,md⟩:=zoa (ok.rm h5) h;cases es with
 |nil=>exact zt1 sl ty md (hr.e ok o) (zdh h1) h2
 |cons e es=>exact zqg sl ty md (hr.e ok o) (zbl hr ok) (zdh h1) (zhM h3 h4) h2 (zac (zH h3).1) (zbA (zH h3).2)
def zoT:Al (fun p=>∀ {a b:Expr} {ta tb:DE} {ap cp:Pos},PD X a ta->PD X b tb->zhm a=false->isStar b=false->(ap.endLine==cp.line)=true->PD X (.Call (.Attribute a p.1 ap) [b] [] cp) (p.2 ta tb)) zpw :=.nil
def zl8 (hr:r.Ok)(ok:c.Ok X){o:Expr}{m:Str}{es:List Expr}{ap cp:Pos}:PD X (.Call (.Attribute o m ap) es [] cp) (zmM r c o m ap es cp):=by
 refine gpd fun h=>?_
 simp only[Bool.and_eq_true]at h;obtain⟨⟨⟨h1,h2⟩,h3⟩,h4⟩:=h;have h4:=Nat.blt_eq.mp h4;have h1:=zaC h1;cases h5:c.calm
 ·dsimp only;split
  ·exact gpd fun e=>by rw[zdS e];exact zqg PySem.F.slot_list_append PySem.F.type_list_append zgx (hr.e ok _) (zbl hr ok) (zdh h1) (zhM h3 h4) h2 (zac (zH h3).1) (zbA (zH h3).2)
  ·exact zaf
 dsimp only;split
 ·rename_i u e;obtain⟨hm,rfl⟩:=zfX e;exact gpd fun q=>zlL (ok.gm.m _ hm (Nat.le_of_ble_eq_true q)) ok.hX (ok.rm h5) (Nat.le_of_ble_eq_true q) (hr.e ok o) (zbl hr ok) (fun e=>by subst e;rfl) (zdh h1) (zhM h3 h4) h2 (fun e l el=>by subst el;exact⟨zac (zH h3).1,zbA (zH h3).2⟩)
 split
 ·exact zaf
 ·unfold rMt;split
  ·split
   ·rename_i e;exact zoT.mem _ (zcC e) (hr.e ok _) (hr.e ok _) h1 (zH h3).1 h2
   ·exact zkt hr ok h1 h2 h3 h4 h5
  ·exact zkt hr ok h1 h2 h3 h4 h5
end
end Dp
namespace Dp
open PySem PySem.Spec PyProof.Rows L2 My
def rdI (r:RdX)(c:RC)(tg it:Expr):DI:=match zfO c it with
 |some (.range,[a])=>zbm (rA r c [a])
 |some (.range,[a,b])=>zet (rA r c [a,b])
 |some (.range,[a,b,d])=>zgR (rA r c [a,b,d])
 |_=>zaS (r.e c it)
def rlb (y:Str×NameKind):Str×NameKind:=match y with
 |(n,.free)=>(n,.cell)
 |y=>y
def RC.inner (c:RC)(sc:Scope)(N:List Str):RC:={ c with nm:=sc.names.map rlb,fl:=sc.names,N:=N,ex:=xF,m:=0,top:=false,lm:=none }
def frees (own N:List Str)(l:List Str):List Str:=l.foldl (fun acc y=>match has y own||!has y N||has y acc with
 |true=>acc
 |false=>acc++[y]) []
def zhI:List Str->Bool
 |[]=>true
 |x::l=>!has x l&&zhI l
def fvB (c:RC)(sc:Scope):List Str->List Nat->Bool
 |[],[]=>true
 |x::xs,j::js=>slt x c.N==some j&&lkX x sc.names==some .free&&lkX x c.nm==some .cell&&fvB c sc xs js
 |_,_=>false
def scB (c:RC)(sc:Scope):Bool:=sc.kind==.function&&sc.names.all fun y=>match y.2 with
 |.free=>lkX y.1 c.nm==some .cell
 |.cell=>lkX y.1 sc.names==some .cell
 |.local=>lkX y.1 sc.names==some .local
 |_=>true
def rLC (r:RdX)(c ci:RC)(e tg it:Expr)(ifs:List Expr)(sc:Scope):DE :=
 let own:=nms 9 tg;let free:=frees own c.N ((e::ifs).flatMap (nms 30));let fv:=free.filterMap fun x=>slt x c.N
 let c1:=c.inner sc (own++free)
 gdX (scB c sc&&zhI (own++free)&&fvB c sc free fv&&!isSet it&&c.calm) (dLC own.length fv (rdI r ci tg it) (tgD c1 own.length 9 tg) (match ifs with
  |[]=>zan
  |[t]=>r.t c1 t
  |_=>Fl.fl) (r.e c1 e))
theorem zir {x:Str}:∀ {l:List Str},has x l=false->x∉l
 |[],_=>List.not_mem_nil
 |y::r,h=>by
  unfold has at h;rw[Bool.or_eq_false_iff,zfp]at h;intro m;rcases List.mem_cons.mp m with e|m
  ·rw[e]at h;simp at h
  ·exact zir h.2 m
theorem zfI:∀ {l:List Str},zhI l=true->l.Nodup
 |[],_=>List.nodup_nil
 |x::l,h=>List.nodup_cons.mpr ⟨zir (zaC (zW h).1),zfI (zW h).2⟩
variable [B:Bs]
section
variable {X:Cx}{c ci:RC}{r:RdX}
def zjA (hr:r.Ok)(ok:c.Ok X){tg it:Expr}:PID X tg it (rdI r c tg it):=by
 unfold rdI;split
 ·rename_i e1;obtain⟨p,q,rfl,n1,g1,m1⟩:=zdx ok e1;exact znQ m1 (zbl hr ok) g1 (zbS (zH n1).1)
 ·rename_i e1;obtain⟨p,q,rfl,n1,g1,m1⟩:=zdx ok e1;exact zof m1 (zbl hr ok) g1 (zdw (zH n1).1 (zH (zH n1).2).1) (zbS (zH (zH n1).2).1)
 ·rename_i e1;obtain⟨p,q,rfl,n1,g1,m1⟩:=zdx ok e1;obtain⟨n1,n2⟩:=zH n1;obtain⟨n2,n3⟩:=zH n2;have t:=zdw (env:=X.env) n2 (zH n3).1;exact zoR m1 (zbl hr ok) g1 (by rw[zac n1,t]) t
 ·exact zqF (hr.e ok _)
theorem zm3 (ok:c.Ok X){sc:Scope}:∀ {xs:List Str} {js:List Nat},fvB c sc xs js=true->zc6 X sc xs js
 |[],[],_=>True.intro
 |x::xs,j::js,h=>by unfold fvB at h;simp only[Bool.and_eq_true]at h;obtain⟨⟨⟨h1,h2⟩,h3⟩,h4⟩:=h;exact⟨ok.N.symm▸zcM (eq_of_beq h1),zcu.symm.trans (eq_of_beq h2),ok.kd.trans (eq_of_beq h3),zm3 ok h4⟩
structure zk9 (X:Cx)(sc:Scope):Prop where
 kind:sc.kind=.function
 fr:zbi (fun x=>X.env.kindOf x=some .cell) sc.names
 cell:∀ y∈sc.names,y.2=.cell->sc.names.lookup y.1=some .cell
 loc:∀ y∈sc.names,y.2=.local->sc.names.lookup y.1=some .local
omit B in
theorem zhx {P:Str->Prop}:∀ {l:List (Str×NameKind)},(∀ y∈l,y.2=.free->P y.1)->zbi P l
 |[],_=>True.intro
 |(n,k)::l,h=>by
  have t:=zhx (l:=l) fun y hy=>h y (List.mem_cons_of_mem _ hy)
  cases k with
  |free=>exact⟨h _ List.mem_cons_self rfl,t⟩
  |_=>exact t
def zs9 (ok:c.Ok X){sc:Scope}(h:scB c sc=true):zk9 X sc:=by
 obtain⟨h1,h2⟩:=zW h;have g:=List.all_eq_true.mp h2;refine⟨eq_of_beq h1,zhx fun y hy e=>?_,fun y hy e=>?_,fun y hy e=>?_⟩
 ·have:=g y hy;rw[e]at this;exact ok.kd.trans (eq_of_beq this)
 ·have:=g y hy;rw[e]at this;exact zcu.symm.trans (eq_of_beq this)
 ·have:=g y hy;rw[e]at this;exact zcu.symm.trans (eq_of_beq this)
theorem RC.Ok.inner (ok:c.Ok X)(hxe:X.xe=fun _ _=>False){N:List Str}(hs:zk9 X sc)(hN:N.Nodup)(cl:List (Str×Addr))(C:Addr)(s₀:Á)(H₀:Hp)(ex:List Addr):(c.inner sc N).Ok (My.inner X sc N cl C s₀ H₀ ex) where
 nm:=by
  refine List.map_congr_left fun y hy=>?_
  obtain⟨n,k⟩:=y;cases k with
  |free =>have:=zbi.of hs.fr _ hy rfl;show(if(NameKind.free==NameKind.free&&X.env.scope.kind==.function&&X.env.kindOf n==some .cell)=true then _ else _)=_;rw[if_pos (by rw[ok.kind,this];rfl)];rfl
  |_=>rfl
 N:=rfl
 nd:=hN
 rm:=ok.rm
 fn:=fun x h=>by rw[zcu]at h;show(sc.names.lookup x==some .cell)=true;rw[show sc.names.lookup x=some .cell from h];rfl
 calm:=ok.calm
 xe:=fun _=>hxe
 hX:=zgJ
 hM:=fun h=>nomatch h
 po:=fun _=>by show PassesOwn _ _ _ X.xe;rw[hxe];exact PassesOwn.never
 kind:=hs.kind
 top:=fun h=>nomatch h
 gm:=ok.gm
 lm:=trivial
structure LcH (X:Cx)(c ci:RC)(r:RdX)(e tg it:Expr)(ifs:List Expr)(sc:Scope)(own free:List Str)(fv:List Nat)(g:DG)(g':TG)(tc:DT)(te:DE):Prop where
 s:zk9 X sc
 fv:zc6 X sc free fv
 g:zcg X.K own.length g g'/\∀ cl C s₀ H₀ ex,PG (My.inner X sc (own++free) cl C s₀ H₀ ex) tg g'
 t:∀ cl C s₀ H₀ ex,zg5 (My.inner X sc (own++free) cl C s₀ H₀ ex) ifs tc
 e:∀ cl C s₀ H₀ ex,PD (My.inner X sc (own++free) cl C s₀ H₀ ex) e te
 fs:∀ x,foldedSetIterable it X.env x=pure x
 ca:X.calm=true
def zix (hr:r.Ok)(ok:c.Ok X)(hxe:X.xe=fun _ _=>False){Q:DE->Prop}(hf:Q Fl.fl){e tg it:Expr}{ifs:List Expr}{sc:Scope}(h:∀ own free fv g g' tc te,LcH X c ci r e tg it ifs sc own free fv g g' tc te->Q (dLC own.length fv (rdI r ci tg it) g tc te)):Q (rLC r c ci e tg it ifs sc):=by
 refine zbH hf fun b=>?_
 simp only[Bool.and_eq_true]at b;obtain⟨⟨⟨⟨h1,h2⟩,h3⟩,h4⟩,h5⟩:=b;have hs:=zs9 ok h1;have inn:=fun cl C s₀ H₀ ex=>ok.inner hxe hs (zfI h2) cl C s₀ H₀ ex
 refine h _ _ _ _ _ _ _ ⟨hs,zm3 ok h3,⟨zka 9 tg,fun cl C s₀ H₀ ex=>zmT (inn cl C s₀ H₀ ex) 9 tg⟩,fun cl C s₀ H₀ ex=>?_,fun cl C s₀ H₀ ex=>hr.e (inn cl C s₀ H₀ ex) e,zmy (zaC h4),ok.calm h5⟩;have i:=inn cl C s₀ H₀ ex;split
 ·exact zoc
 ·exact zm8 (hr.t i _)
 ·with_unfolding_all
  exact by rintro pins s U H Q I ⟨_,_,_,_,_,_,h,_⟩;exact h.elim
def zpy (hr:r.Ok)(ok:c.Ok X)(oki:ci.Ok X)(hxe:X.xe=fun _ _=>False){e tg it:Expr}{ifs:List Expr}{sc:Scope}{pos:Pos}:PD X (.ListComp e [⟨tg,it,ifs,0⟩] sc pos) (rLC r c ci e tg it ifs sc) :=zix (Q:=PD X _) hr ok hxe zaf fun _ _ _ _ _ _ _ h=>zsz h.s.fr h.fv (zjA hr oki) h.g h.t h.e h.ca hxe h.s.kind h.s.cell h.s.loc h.fs
end
def zb5 (a:Arguments)(ps:List Str):Bool:=match a with
 |⟨[],as,none,[],[],none,[]⟩=>as.map (·.arg)==ps&&zhI ps
 |_=>false
omit B in
theorem zhk {α β:Type}{f g:α->Option β}:∀ {l:List α},(∀ x∈l,f x=g x)->l.filterMap f=l.filterMap g
 |[],_=>rfl
 |x::l,h=>by rw[List.filterMap_cons,List.filterMap_cons,h x List.mem_cons_self,zhk fun y hy=>h y (List.mem_cons_of_mem _ hy)]
omit B in
theorem zhG:∀ {ps:List Str} {us:List Â},ps.Nodup->us.length=ps.length->ps.filterMap (fun n=>((ps.zip us).lookup n).map (n,·))=ps.zip us
 |[],_,_,_=>rfl
 |p::ps,[],_,h=>by simp at h
 |p::ps,u::us,nd,hl=>by
  obtain⟨n1,n2⟩:=List.nodup_cons.mp nd;have e:List.lookup p ((p,u)::ps.zip us)=some u:=by rw[List.lookup_cons,beq_self_eq_true]
  rw[List.zip_cons_cons,List.filterMap_cons,e];show(p,u)::_=_;refine congrArg _ (Eq.trans ?_ (zhG n2 (by simpa using hl)));refine zhk fun x hx=>?_
  have:(x==p)=false:=beq_eq_false_iff_ne.mpr fun e=>n1 (e▸hx)
  rw[List.lookup_cons,this]
omit B in
theorem zg1:∀ {ps:List Str} {us:List Â} {x:Str},us.length=ps.length->x∈ps->((ps.zip us).lookup x).isSome=true
 |p::ps,u::us,x,hl,hx=>by
  rw[List.zip_cons_cons,List.lookup_cons];cases e:x==p with
  |true=>rfl
  |false =>
   rcases List.mem_cons.mp hx with rfl|hx
   ·simp at e
   ·exact zg1 (by simpa using hl) hx
 |p::ps,[],x,hl,hx=>by simp at hl
omit B in
def zfM {fd:FuncData}{ps:List Str}{us:List Â}(hp:zb5 fd.params ps=true)(hd:fd.defaults=.none)(hl:us.length=ps.length):bindArgs fd ⟨us,[]⟩=pure (ps.zip us):=by
 unfold zb5 at hp;split at hp
 ·rename_i as e;obtain⟨h1,h2⟩:=zW hp;have h1:=eq_of_beq h1;unfold bindArgs;rw[e,hd]
  have e1:(ps.filter fun n=>(List.lookup n (ps.zip us)).isNone)=[]:=by
   rw[List.filter_eq_nil_iff];intro x hx;have:=zg1 hl hx;cases e:(ps.zip us).lookup x with
   |none=>rw[e]at this;cases this
   |some _=>simp
  have e2:=zhG (zfI h2) hl;have hs:seqItems? Value.none=pure none:=rfl;have g:∀ n:Nat,(decide (n<n))=false:=fun n=>decide_eq_false (Nat.lt_irrefl n)
  simp only[hs,h1,List.map_nil,List.nil_append,List.append_nil,List.forIn_nil,pure_bind,Option.getD_none,Array.toList_empty,List.drop_nil,List.zip_nil_right,List.length_nil,Nat.sub_zero,List.take_length,e1,e2,List.isEmpty_nil,Bool.not_true,Bool.false_eq_true,if_false,gt_iff_lt,hl,g,Bool.false_and]
 ·cases hp
def stE (r:RdX)(c:RC):Expr->DE
 |.Name x _=>rNm c x
 |.Constant (.int i) _ _=>dC (.int i)
 |.Constant (.str x) _ _=>dC (.str x)
 |.Constant (.bool b) _ _=>dC (.bl b)
 |.Constant .none _ _=>dC .non
 |.BinOp a op b _=>zlF r c a op b
 |.UnaryOp .Not a _=>zdn (r.e c a)
 |.UnaryOp .USub a _=>dUn zaj (r.e c a)
 |.BoolOp op es _=>rBV r c op es
 |.Compare a ops bs _=>zlw r c a ops bs
 |.IfExp t a b _=>zjm (r.t c t) (r.e c a) (r.e c b)
 |.Tuple es _ _=>dTup (rA r c es)
 |.List es _=>zaG (rA r c es)
 |.Dict [] [] _=>match c.dn with
  |some (some true)=>zjd
  |some (some false)=>zjo
  |_=>Fl.fl
 |.Dict [some a] [b] _=>zkE (r.e c a) (r.e c b)
 |.Subscript a b _=>zi9 r c a b
 |.Attribute a f _=>gdX (!zhm a) (zL f (r.e c a))
 |.Call (.Name x _) (a::as) [] _=>gdX (gl c x&&zaX (a::as)) (ob (lkX x c.g.g) (zmN r c (a::as)))
 |.Call (.Attribute o m ap) es [] cp=>zmM r c o m ap es cp
 |.ListComp e [⟨tg,it,ifs,0⟩] sc _=>rLC r c.quiet c.quiet e tg it ifs sc
 |_=>Fl.fl
def stT (r:RdX)(c:RC):Expr->DT
 |.Compare a ops bs _=>dT (zlw r c a ops bs)
 |.UnaryOp .Not a _=>zbe (r.t c a)
 |.BoolOp op es _=>rBT r c op es
 |e=>gdX (!zqS e) (dT (r.e c e))
section
variable {X:Cx}{c:RC}{r:RdX}
def zp5 (hr:r.Ok)(ok:c.Ok X)(e:Expr):PD X e (stE r c e):=by
  cases e with
  |Name x p=>exact zsb ok
  |Constant v k p=>cases v with
    |int i=>exact zpq
    |str x=>exact zkd
    |bool b=>exact zsS
    |none=>exact zqR
    |_=>exact zaf
  |BinOp a op b p=>exact zoA hr ok
  |UnaryOp op a p=>cases op with
    |Not=>exact znG (hr.e ok _)
    |USub=>exact zqM (hr.e ok _)
    |_=>exact zaf
  |BoolOp op es p=>exact zhR hr ok
  |Compare a ops bs p=>exact(ziG hr ok).1
  |IfExp t a b p=>exact zpj (hr.t ok _) (hr.e ok _) (hr.e ok _)
  |Tuple es k p=>exact zpZ (zbl hr ok)
  |List es p=>exact zre (zbl hr ok)
  |Dict ks vs p=>cases ks with
    |nil=>cases vs with
      |nil =>
        show PD X _ (match c.dn with
          |some (some true)=>zjd
          |some (some false)=>zjo
          |_=>Fl.fl)
        split
        . exact znf
        . exact znI
        . exact zaf
      |cons=>exact zaf
    |cons k ks=>cases k with
      |none=>exact zaf
      |some a=>cases ks with
        |cons=>exact zaf
        |nil=>cases vs with
          |nil=>exact zaf
          |cons b vs=>cases vs with
            |cons=>exact zaf
            |nil =>exact zlr (hr.e ok _) (hr.e ok _)
  |Subscript a b p=>exact zoV hr ok
  |Attribute a f p=>exact gpd fun h=>zqK (hr.e ok _) (zdh (zaC h))
  |Call f as kws p=>cases f with
    |Name x p2=>cases as with
      |nil=>exact zaf
      |cons a as=>cases kws with
        |nil=>exact gpd fun h=>opd fun en he=>zlZ hr ok (zW h).1 (zW h).2 he
        |cons kw kws =>
          obtain⟨arg,val,kp⟩:=kw;cases arg with
          |none=>cases as<;>exact zaf
          |some kw=>cases val with
            |_=>cases as<;>exact zaf
    |Attribute o m ap=>cases kws with
      |nil=>exact zl8 hr ok
      |cons=>exact zaf
    |_=>exact zaf
  |ListComp e gs sc p=>cases gs with
    |nil=>exact zaf
    |cons g gs =>
      obtain⟨tg,it,ifs,n⟩:=g;cases n with
      |negSucc=>exact zaf
      |ofNat n=>cases n with
        |succ=>exact zaf
        |zero=>cases gs with
          |nil=>exact zil (zpy hr ok.quiet ok.quiet rfl)
          |cons=>exact zaf
  |_=>exact zaf
def zqQ (hr:r.Ok)(ok:c.Ok X)(e:Expr):PTD X e (stT r c e):=by
 unfold stT;split
 ·exact(ziG hr ok).2
 ·exact zo6 (hr.t ok _)
 ·exact zpI (zhb hr ok)
 ·exact zbH (Q:=PTD X _) zjw fun h=>zoj (hr.e ok _) (zsW (zaC h))
end
end Dp
namespace Dp
open PySem PySem.Spec PyProof.Rows L2 My
def zvh (c:RC)(e:Expr):Bool:=(nms 30 e).any fun y=>match lkX y c.g.g with
 |some (.fx _ _ _)=>true
 |some (.cx _ _ _)=>true
 |_=>false
def swB (c:RC)(y:Str)(py lp:Pos)(sc:Scope):Bool:=lkX y c.nm==some .local&&py.line==lp.line&&!(sc.names.any fun (n,k)=>n==y&&(k==.local||k==.cell))
def zrg (r:RdX)(c:RC)(x:Str)(px:Pos)(v:Expr):DS:=ob (slt x c.N) fun i=>match v with
 |.ListComp e [⟨tg,it,ifs,0⟩] sc lp=>match swB c x px lp sc with
  |true=>match c.m==0||!zvh c it with
   |true=>zp (rLC r c.quiet c.quiet e tg it ifs sc) (zK i)
   |false=>zbL
  |false=>gdX (stn c x&&lkX x c.nm==some .cell) (zp (r.e { c with dn:=lkX x c.d } v) (zK i))
 |v=>gdX (stn c x&&!zhF v) (zp (r.e { c with dn:=lkX x c.d } v) (zK i))
def zlC (r:RdX)(c:RC)(v:Expr):Expr->DS
 |.Name x px=>zrg r c x px v
 |.Attribute o f _=>gdX (c.g.f.any fun p=>se c.cls p.1&&se f p.2) (zbs c.cls f (r.e c o) (r.e c v))
 |.Subscript o i _=>gdX (!zji i) (match isD c o with
  |true=>zbL
  |false=>zp (r.e c v) (zgc (r.e c o) (r.e c i)))
 |.Tuple es k p=>match es,v with
  |es,v=>gdX (!isTup v) (zp (r.e c v) (tgD c 1000 9 (.Tuple es k p)))
 |_=>zbL
def zle (c:RC)(it:Expr):Expr->DG
 |tg=>tgD c 1000 9 tg
def rHd (c:RC)(x:List Str):RC:={ c with ex:=xF,m:=0,calm:=false,xs:=x++c.xs,lm:=none }
def rS (r:RdX)(c:RC):Stmt->DS
 |.Pass _=>zu
 |.Break _=>zkl
 |.Continue _=>zmX
 |.Return (some e) _=>zy (r.e c e)
 |.Expr e _=>gdX (!zhF e) (zaU (r.e c e))
 |.If t a b _=>sIf (r.t c t) (r.s c a) (r.s c b)
 |.While t a [] _=>gdX (c.m.ble 1) (zd6 (r.t c t) (r.s c a))
 |.For tg it a [] _=>gdX (c.m.ble 1&&c.calm&&!isSet it) (zcX (rdI r c tg it) (zle c it tg) (r.s c a))
 |.AugAssign (.Name x _) .Add e _=>ob (slt x c.N) fun i=>gdX (stn c x) (zi5 i (r.e c e))
 |.Assign [tg] v _=>zlC r c v tg
 |.Raise (some (.Call (.Name x _) [.Constant (.str _) _ _] [] _)) none _=>match c.m==1 with
  |true=>gdX (has x c.g.r&&gl c x&&c.calm) (zaA c.ex x)
  |false=>zbL
 |.Try a [.ExceptHandler (some (.Name T _)) (some x) (b0::b) _] [] [] _=>ob (lkX T c.g.t) fun l=>ob (slt x c.N) fun i=>gdX (c.top&&gl c T&&lkX x c.nm==some .local&&c.m==0) (zjx i l (fun ex=>r.s { c with ex:=ex,m:=2 } a) (r.s (rHd c [x]) (b0::b)))
 |_=>zbL
def stS (r:RdX)(c:RC):List Stmt->DS
 |[]=>zu
 |[st]=>rS r c st
 |st::s2::l=>zj (match zm0 st with
  |true=>sJ (rS r c st)
  |false=>rS r c st) (stS r c (s2::l))
section
variable {env:Env}{v:Expr}
def zoK {a b:Expr}{p:Pos}{l:Nat}:swapsWithSole [.Subscript a b p] v l env=pure false:=by cases v<;>rfl
def zpu {a:Expr}{f:Str}{p:Pos}{l:Nat}:swapsWith v (some (.Attribute a f p)) l env=pure false:=by cases v<;>rfl
def znO {o i : Expr} {p : Pos} (h : zji i = false) (v : Â) : assign (.Subscript o i p) env v = (do
      let ov <- holding [v] (eval o env);let iv <- holding [v,ov] (eval i env)
      standAt p
      holding [v,ov,iv] (setItem ov iv v)
      release [v,ov,iv] []):=by cases i<;>first|rfl|cases h
def zpD {es:List Expr}{k:Nat}{p:Pos}{l:Nat}:swapsWithSole [.Tuple es k p] v l env=pure false:=by cases v<;>rfl
def zpp (h:isTup v=false){es:List Expr}{k:Nat}{p:Pos}:swappedStores [.Tuple es k p] v env=pure none:=by cases v<;>first|rfl|cases h
def zn6 {a b:Expr}{p:Pos}:swappedStores [.Subscript a b p] v env=pure none:=by cases v<;>rfl
def znA {x:Str}{p:Pos}{l:Nat}(h:env.kindOf x=some .cell):swapsWith v (some (.Name x p)) l env=pure false:=by
 cases v with
 |ListComp=>show pure (env.blockKind==.function&&env.kindOf x==some .local&&_&&_)=_;rw[h,show((some NameKind.cell==some NameKind.local):Bool)=false from rfl,Bool.and_false,Bool.false_and,Bool.false_and]
 |SetComp=>show pure (env.blockKind==.function&&env.kindOf x==some .local&&_&&_)=_;rw[h,show((some NameKind.cell==some NameKind.local):Bool)=false from rfl,Bool.and_false,Bool.false_and,Bool.false_and]
 |DictComp=>show pure (env.blockKind==.function&&env.kindOf x==some .local&&_&&_)=_;rw[h,show((some NameKind.cell==some NameKind.local):Bool)=false from rfl,Bool.and_false,Bool.false_and,Bool.false_and]
 |_=>rfl
def zrW (h:env.scope.kind=.function):env.blockKind=.function:=by unfold Env.blockKind;rw[h];rfl
def zme {x:Str}{p lp:Pos}{l:Nat}{e:Expr}{gs:List Comprehension}{sc:Scope}(hk:env.scope.kind=.function)(h:env.kindOf x=some .local)(hl:(p.line==lp.line)=true)(hn:(sc.names.any fun (n,k)=>n==x&&(k==.local||k==.cell))=false):swapsWith (.ListComp e gs sc lp) (some (.Name x p)) l env=pure true:=by show pure (env.blockKind==.function&&env.kindOf x==some .local&&p.line==lp.line&&!(sc.names.any fun (n,k)=>n==x&&(k==.local||k==.cell)))=_;rw[zrW hk,h,hl,hn];rfl
end
variable [B:Bs]
section
variable {X:Cx}{c:RC}{r:RdX}
theorem RC.Ok.dn (ok:c.Ok X){d:Option (Option Bool)}:RC.Ok { c with dn:=d } X:=⟨⟨ok.nm,ok.N,ok.nd,ok.rm,ok.fn,ok.calm,ok.xe,ok.po,ok.kind,ok.top,ok.gm,ok.lm⟩,ok.hX,ok.hM⟩
def RC.Ok.hd (ok:c.Ok X){x:List Str}(e:Addr):(rHd c x).Ok (hand X e):=⟨⟨ok.nm,ok.N,ok.nd,(fun h=>nomatch h),ok.fn,(fun h=>nomatch h),fun _=>rfl,fun _=>PassesOwn.never,ok.kind,ok.top,ok.gm,trivial⟩,zgJ,(fun h=>nomatch h)⟩
omit B in
def RC.Ok0.tr (ok:c.Ok0 X)(xe:Â->Á->Prop)(pn:List (Addr×Obj)){B':Bs}{ex:XR}(hX:XOk (zfW X xe pn) ex):RC.Ok { c with ex:=ex,m:=2 } (zfW X xe pn) :=⟨⟨ok.nm,ok.N,ok.nd,ok.rm,ok.fn,ok.calm,(fun h=>nomatch h),(fun h:2<=1=>absurd h (by decide)),ok.kind,ok.top,ok.gm,ok.lm⟩,hX,(fun h=>nomatch h)⟩
omit B in
theorem zmE {x:Str}:∀ {l:List Str},has x l=true->x∈l
 |y::r,h=>by
  unfold has at h;rcases(Bool.or_eq_true _ _).mp h with h|h
  ·rw[zdS h];exact List.mem_cons_self
  ·exact List.mem_cons_of_mem _ (zmE h)
def zoI (ok:c.Ok X){it tg:Expr}:PGD X 1000 tg (zle c it tg):=by unfold zle;exact zmz ok 9 _
def zny (hr:r.Ok)(ok:c.Ok X){x:Str}{px pos:Pos}{v:Expr}:PSD X (.Assign [.Name x px] v pos) (zrg r c x px v):=by
 refine osd fun i hi=>?_
 have hi:=ok.N.symm▸zcM hi;have nd:=ok.N.symm▸ok.nd;split
 ·rename_i e tg it ifs sc lp;split
  ·rename_i hb;obtain⟨h,h3⟩:=zW hb;obtain⟨h1,h2⟩:=zW h;have hl:=eq_of_beq h1;have hsw:=zme (l:=pos.line) (e:=e) (gs:=[⟨tg,it,ifs,0⟩]) ok.kind (ok.kd.trans hl) h2 (zaC h3);have hl':X.env.scope.names.lookup x=some .local:=ok.kd.trans hl;split
   ·exact zmt (zix (Q:=fun t=>PSD (nxX X) _ (zp t (zK i))) hr ok.quiet rfl zjr fun _ _ _ _ _ _ _ h=>zmf (X:=nxX X) nd h.s.fr h.fv (zjA hr ok.quiet) h.g h.t h.e hi hl' h.ca rfl h.s.kind h.s.cell h.s.loc hsw h.fs)
   ·exact zB
  ·refine gsd fun h=>?_
   obtain⟨h1,h2⟩:=zW h;obtain⟨s1,s2⟩:=zfK ok h1;exact ziM nd (hr.e ok.dn _) hi s1 (znA (ok.kd.trans (eq_of_beq h2))) s2
 ·refine gsd fun h=>?_
  obtain⟨h1,h2⟩:=zW h;obtain⟨s1,s2⟩:=zfK ok h1;exact ziM nd (hr.e ok.dn _) hi s1 (zmO (zaC h2)) s2
def zoW (hr:r.Ok)(ok:c.Ok X){tg v:Expr}{pos:Pos}:PSD X (.Assign [tg] v pos) (zlC r c v tg):=by
 have nd:=ok.N.symm▸ok.nd;unfold zlC;split
 ·exact zny hr ok
 ·refine gsd fun h=>?_
  obtain⟨⟨a,b⟩,hp,h⟩:=List.any_eq_true.mp h;obtain⟨h1,h2⟩:=zW h;exact zoJ (ok.gm.f _ _ (by rw[zdS h1,zdS h2];exact hp)) (hr.e ok _) (hr.e ok _) zpu
 ·refine gsd fun h=>?_
  split
  ·exact zB
  ·exact ziv (hr.e ok _) (zn1 (hr.e ok _) (hr.e ok _) (znO (zaC h))) zoK zn6
 ·exact gsd fun h=>ziv (hr.e ok _) (zmz ok 9 _) zpD (zpp (zaC h))
 ·exact zB
def ziT (hr:r.Ok)(ok:c.Ok X)(st:Stmt):PSD X st (rS r c st):=by
 have nd:=ok.N.symm▸ok.nd;cases st with
 |Pass p=>exact zlv
 |Break p=>exact zkG
 |Continue p=>exact zmq
 |Return v p=>cases v with
  |none=>exact zB
  |some e=>exact zou (hr.e ok _)
 |Expr e p=>exact gsd fun h=>zlO (hr.e ok _) (zmO (zaC h))
 |If t a b p=>exact zrH (hr.t ok _) (hr.s ok _) (hr.s ok _)
 |While t a o p=>cases o with
  |nil=>exact gsd fun h=>zj6 (hr.t ok _) (hr.s ok _) (ok.po (Nat.le_of_ble_eq_true h))
  |cons=>exact zB
 |For tg it a o p=>cases o with
  |cons=>exact zB
  |nil =>
   refine gsd fun h=>?_
   simp only[Bool.and_eq_true]at h;obtain⟨⟨h1,h2⟩,h3⟩:=h;exact zol (zjA hr ok) (zoI ok) (hr.s ok _) (ok.po (Nat.le_of_ble_eq_true h1)) (ok.calm h2) (zmy (zaC h3))
 |AugAssign tg op e p=>cases tg with
  |Name x p2=>cases op with
   |Add =>
    refine osd fun i hi=>gsd fun h=>?_
    obtain⟨s1,s2⟩:=zfK ok h;exact zor nd (hr.e ok _) (ok.N.symm▸zcM hi) s1 s2
   |_=>exact zB
  |_=>exact zB
 |Assign ts v p=>cases ts with
  |nil=>exact zB
  |cons tg ts=>cases ts with
   |nil=>exact zoW hr ok
   |cons=>exact zB
 |Raise ex ca p=>cases ex with
  |none=>exact zB
  |some ex=>cases ex with
   |Call f as kws p2=>cases f with
    |Name x p3=>cases as with
     |nil=>exact zB
     |cons a as=>cases a with
      |Constant v k p4=>cases v with
       |str z=>cases as with
        |cons=>exact zB
        |nil=>cases kws with
         |cons=>exact zB
         |nil=>cases ca with
          |some=>exact zB
          |none =>
           show PSD X _ (match c.m==1 with
            |true=>gdX (has x c.g.r&&gl c x&&c.calm) (zaA c.ex x)
            |false=>zbL)
           cases hm:c.m==1 with
           |true =>
            refine gsd fun h=>?_
            simp only[Bool.and_eq_true]at h;obtain⟨⟨h1,h2⟩,h3⟩:=h;obtain⟨g1,g2,g3⟩:=zem ok h2;obtain⟨r1,r2⟩:=ok.gm.r _ (zmE h1);exact zkn (ok.hM (eq_of_beq hm)) (ok.calm h3) r1 r2 g1 (ziu zkd zkw (zac rfl)) (fun _ _ _ h=>h _) g2 (zac rfl)
           |false=>exact zB
       |_=>exact zB
      |_=>exact zB
    |_=>exact zB
   |_=>exact zB
 |Try a hs o f p=>cases hs with
  |nil=>exact zB
  |cons h hs=>cases h with
   |ExceptHandler ty nm b p2=>cases ty with
    |none=>exact zB
    |some T=>cases T with
     |Name T p3 =>
      cases nm
      case some x=>cases b with
       |nil=>exact zB
       |cons b0 b=>cases hs with
        |cons=>exact zB
        |nil=>cases o with
         |cons=>exact zB
         |nil=>cases f with
          |cons=>exact zB
          |nil =>
           refine osd fun l hl=>osd fun i hi=>gsd fun h=>?_
           simp only[Bool.and_eq_true]at h;obtain⟨⟨⟨h1,h2⟩,h3⟩,h4⟩:=h;obtain⟨g1,g2,g3⟩:=zem ok h2;have o:=ok.toOk0;exact znT (ok.top h1).1 (ok.top h1).2 nd (ok.N.symm▸zcM hi) (ok.kd.trans (eq_of_beq h3)) g1 (ok.gm.t _ _ (zcC hl)) (fun xe pn ex hX=>hr.s (o.tr xe pn hX) _) (fun e=>hr.s (ok.hd e) _) g2
      all_goals exact zB
     |_=>exact zB
 |_=>exact zB
theorem zkh (hr:r.Ok)(ok:c.Ok X):∀ (l:List Stmt),zbx X l (stS r c l)
 |[]=>zma
 |[st]=>zlD (ziT hr ok st)
 |st::s2::l=>by
  refine zkK ?_ (zkh hr ok (s2::l));cases zm0 st with
  |true=>exact zsm (ziT hr ok st)
  |false=>exact ziT hr ok st
end
noncomputable def rd (n:Nat):RdX:=Nat.rec ⟨fun _ _=>Fl.fl,fun _ _=>Fl.fl,fun _ _=>Fl.fl⟩ (fun _ r=>⟨stE r,stT r,stS r⟩) n
omit B in
theorem zfc:∀ n,(rd n).Ok
 |0=>⟨fun _ _=>zaf,fun _ _=>zjw,fun _ _=>zrQ⟩
 |n+1=>⟨fun ok e=>zp5 (zfc n) ok e,fun ok e=>zqQ (zfc n) ok e,fun ok l=>zkh (zfc n) ok l⟩
end Dp
namespace Dp
open PySem PySem.Spec PyProof.Rows L2 My
def zc4 (N ps:List Str)(st:Stmt):Bool:=(zF st).kind==.function&&!(zF st).isCoroutine&&!(zF st).isGenerator&&zhI N&&ps.all (fun x=>lkX x (zF st).names==some .local||lkX x (zF st).names==some .cell)&&(zF st).names.all (fun y=>!(y.2==.free))&&zb5 (zal st) ps
def zk0 {M ps:List Str}{st:Stmt}(h:zc4 (ps++M) ps st=true):zcz (ps++M) ps (zF st):=by
 simp only[zc4,Bool.and_eq_true]at h;obtain⟨⟨⟨⟨⟨⟨h1,h2⟩,h3⟩,h4⟩,h5⟩,h6⟩,_⟩:=h;refine⟨eq_of_beq h1,zaC h2,zaC h3,zfI h4,List.take_left,fun x hx=>?_,fun y hy e=>?_⟩
 ·have:=List.all_eq_true.mp h5 x hx;simpa [zcu]using this
 ·have:=List.all_eq_true.mp h6 y hy;rw[e]at this;cases this
def TbX (_:À)(_:Str->Option Â)(_:Heap)(_:List Str):Prop:=True
def zhL (G:Gm)(xs:List Str)(x:Str)(st:Stmt):zaE->Prop
 |.fn (k+1) ps sp=>zb5 (zal st) ps=true/\∀ P w K mg base f fd,TbX K mg base xs->zc1 P w K mg base k G->FH K x st f fd->zaF P w K mg base CX0 (k+1) f fd ps (upF K sp)
 |.fx (k+1) ps sp=>zb5 (zal st) ps=true/\∀ P w K mg base f fd,TbX K mg base xs->zc1 P w K mg base k G->FH K x st f fd->zaF P w K mg base (CXd P w) (k+1) f fd ps (zbF K sp)
 |_=>False
def RowC (G:Gm)(c:Str)(st:Stmt):zaE->Prop
 | .cl (k+1) sp=>∃ ps init,sp=zez c init/\zb5 (zal st) ps=true/\∀ P w K mg base q f fd,zc1 P w K mg base k G->Fun K "__init__" q st f fd->zaF P w K mg base CX0 (k+1) f fd ps (upF K init)
 | .cx (k+1) c' init=>c'=c/\∃ ps,zb5 (zal st) ps=true/\∀ P w K mg base q f fd,zc1 P w K mg base k G->Fun K "__init__" q st f fd->zaF P w K mg base (CXd P w) (k+1) f fd ps (zbF K init)
 |_=>False
def zcn (G:Gm)(r:zdY):Prop:=∃ k,r.k=k+1/\zb5 (zal r.st) r.ps=true/\∀ P w K mg base q f fd,zc1 P w K mg base k G->Fun K r.m q r.st f fd->zaF P w K mg base (CXd P w) (k+1) f fd r.ps (zbF K r.sp)
def zr1 (K:À)(r:zdY):Prop:=∃ C f fd,PySem.W.nsIn K mainGlobals r.c=some (some (.ref C))/\Meth K C r.m f/\∃ q,Fun K r.m q r.st f fd
def zqi (K:À)(c:Str)(st:Stmt):Prop:=∃ C f fd,PySem.W.nsIn K mainGlobals c=some (some (.ref C))/\Mk K C f/\Cls K C/\∃ q,Fun K "__init__" q st f fd
abbrev cx0 (G:Gm)(st:Stmt)(N:List Str)(k m:Nat)(ex:XR)(d:List (Str×Option Bool))(it:Bool)(cls:Str)(lm:Option Str):RC:={ g:=G,nm:=(zF st).names,fl:=(zF st).names,N:=N,j:=k,ex:=ex,m:=m,d:=d,it:=it,cls:=cls,lm:=lm }
section
variable {G:Gm}{xs:List Str}{x qual c:Str}{st:Stmt}{k:Nat}{ps M:List Str}{sp:DSp}{sx:zU}{b:DS}{bx:XR->DS}{d:List (Str×Option Bool)}{it:Bool}{cls:Str}
def zkg {K:À}{base:Heap}(body:BodyOk (ps++M).length b sp)(len:∀ ds So Q,sp ds So Q->ds.length=ps.length)(h:(zc4 (ps++M) ps st,(rd 60).s (cx0 G st (ps++M) k 0 xF d it cls none) (z7 st))=(true,b))(hG:zc1 P w K mg base k G)(F:Fun K x qual st f fd):zaF P w K mg base CX0 (k+1) f fd ps (upF K sp):=by
 obtain⟨h1,h2⟩:=Prod.mk.inj h;have S:=zk0 h1;refine znu F S len body fun cdv A outer s H E hr _=>?_
 rw[<- h2];exact(zfc 60).s ⟨⟨rfl,rfl,S.nd,fun _=>hr,fun _ _=>rfl,fun _=>rfl,fun _=>rfl,fun _=>PassesOwn.never,S.kind,fun _=>⟨rfl,rfl⟩,hG,by exact trivial⟩,zgJ,(fun h=>by cases h)⟩ _
def zgX {K:À}{base:Heap}(body:zM (ps++M).length bx sx)(len:∀ ds So Q ex,sx ds So Q ex->ds.length=ps.length)(h:(zc4 (ps++M) ps st,fun ex=>(rd 60).s (cx0 G st (ps++M) k 1 ex d it cls none) (z7 st))=(true,bx))(hG:zc1 P w K mg base k G)(F:Fun K x qual st f fd):zaF P w K mg base (CXd P w) (k+1) f fd ps (zbF K sx):=by
 obtain⟨h1,h2⟩:=Prod.mk.inj h;have S:=zk0 h1;refine zlJ F S len body fun cdv A outer s H E hr _ ex hX hM=>?_
 rw[<- h2];exact(zfc 60).s ⟨⟨rfl,rfl,S.nd,fun _=>hr,fun _ _=>rfl,fun _=>rfl,(fun h=>by cases h),fun _=>PassesOwn.leaving,S.kind,fun _=>⟨rfl,rfl⟩,hG,by exact trivial⟩,hX,fun _=>hM⟩ _
def zcF (h:zc4 (ps++M) ps st=true):zb5 (zal st) ps=true:=(zW h).2
theorem zhL.fn (body:BodyOk (ps++M).length b sp)(d:List (Str×Option Bool))(it:Bool)(h:(zc4 (ps++M) ps st,(rd 60).s (cx0 G st (ps++M) k 0 xF d it Str.empty none) (z7 st))=(true,b))
    (len:∀ ds So Q,sp ds So Q->ds.length=ps.length:=by (intros;rename_i h;repeat (first|(obtain⟨e,_⟩:=h;subst e;rfl)|obtain⟨_,h⟩:=h))):zhL G xs x st (.fn (k+1) ps sp) :=
  ⟨zcF (Prod.mk.inj h).1,fun P w K mg base f fd _ hG F=>zkg body len h hG F.F⟩
theorem zhL.fx (body:zM (ps++M).length bx sx)(d:List (Str×Option Bool))(it:Bool)(h:(zc4 (ps++M) ps st,fun ex=>(rd 60).s (cx0 G st (ps++M) k 1 ex d it Str.empty none) (z7 st))=(true,bx))
    (len:∀ ds So Q ex,sx ds So Q ex->ds.length=ps.length:=by (intros;rename_i h;repeat (first|(obtain⟨e,_⟩:=h;subst e;rfl)|obtain⟨_,h⟩:=h))):zhL G xs x st (.fx (k+1) ps sx) :=
  ⟨zcF (Prod.mk.inj h).1,fun P w K mg base f fd _ hG F=>zgX body len h hG F.F⟩
theorem RowC.cl {init:DSp}(body:BodyOk (ps++M).length b init)(h:(zc4 (ps++M) ps st,(rd 60).s (cx0 G st (ps++M) k 0 xF [] false c none) (z7 st))=(true,b))
    (len:∀ ds So Q,init ds So Q->ds.length=ps.length:=by (intros;rename_i h;repeat (first|(obtain⟨e,_⟩:=h;subst e;rfl)|obtain⟨_,h⟩:=h))):RowC G c st (.cl (k+1) (zez c init)) :=
  ⟨ps,init,rfl,zcF (Prod.mk.inj h).1,fun P w K mg base _ f fd hG F=>zkg body len h hG F⟩
theorem RowC.cx (body:zM (ps++M).length bx sx)(h:(zc4 (ps++M) ps st,fun ex=>(rd 60).s (cx0 G st (ps++M) k 1 ex [] false c none) (z7 st))=(true,bx))
    (len:∀ ds So Q ex,sx ds So Q ex->ds.length=ps.length:=by (intros;rename_i h;repeat (first|(obtain⟨e,_⟩:=h;subst e;rfl)|obtain⟨_,h⟩:=h))):RowC G c st (.cx (k+1) c sx) :=
  ⟨rfl,ps,zcF (Prod.mk.inj h).1,fun P w K mg base _ f fd hG F=>zgX body len h hG F⟩
theorem zcn.mk {m:Str}(body:zM (ps++M).length bx sx)(d:List (Str×Option Bool))(h:(zc4 (ps++M) ps st,fun ex=>(rd 60).s (cx0 G st (ps++M) k 1 ex d false Str.empty none) (z7 st))=(true,bx))
    (len:∀ ds So Q ex,sx ds So Q ex->ds.length=ps.length:=by (intros;rename_i h;repeat (first|(obtain⟨e,_⟩:=h;subst e;rfl)|obtain⟨_,h⟩:=h))):zcn G ⟨m,c,st,k+1,ps,sx⟩ :=
  ⟨k,rfl,zcF (Prod.mk.inj h).1,fun P w K mg base _ f fd hG F=>zgX body len h hG F⟩
end
def zgO (K:À)(x:Str):zaE->Prop
 |.blt b=>x=b.nm/\PySem.W.nsIn K mainGlobals x=some none
 |.int n=>∃ t,PySem.W.nsIn K mainGlobals x=some (some (.int n t))
 |.str z=>∃ t,PySem.W.nsIn K mainGlobals x=some (some (.str z t))
 |_=>False
def zrT (K:À)(x:Str):Prop:=∃ C,PySem.W.nsIn K mainGlobals x=some (some (.ref C))/\zi6 K C=true
def zph (K:À)(q:Str×List Str):Prop:=∃ D,PySem.W.nsIn K mainGlobals q.1=some (some (.ref D))/\Al (fun c=>∃ C,PySem.W.nsIn K mainGlobals c=some (some (.ref C))/\PySem.W.exmOne K (.ref C) (.ref D)=some true) q.2
def IsH (K:À)(v:Â)(l:List (Str×Bool)):Prop:=Al (fun q=>∃ C,PySem.W.nsIn K mainGlobals q.1=some (some (.ref C))/\isIn K C=true/\PySem.W.kitOne K (.ref C) v=some q.2) l
def zq0 (K:À)(q:Str×List (Str×Bool)):Prop:=(∃ D,PySem.W.nsIn K mainGlobals q.1=some (some (.ref D))/\IsH K (.ref D) q.2)\/∃ T,PySem.W.nsIn K mainGlobals q.1=some none/\bootBuiltins q.1=some (.type T)/\IsH K (.type T) q.2
def zrn (K:À)(q:Str×Str):Prop:=∃ C,PySem.W.nsIn K mainGlobals q.1=some (some (.ref C))/\PySem.W.findIn K (.ref C) q.2=some none
abbrev zO (x:Str)(st:Stmt)(e:zaE):Str×Stmt×zaE:=(x,st,e)
abbrev ent (x:Str)(e:zaE):Str×zaE:=(x,e)
structure Rwz (G:Gm)(xs:List Str)(bs:List (Str×zaE))(F C:List (Str×Stmt×zaE)):Prop where
 g:G.g=bs++(F++C).map fun r=>(r.1,r.2.2)
 f:Al (fun r=>zhL G xs r.1 r.2.1 r.2.2) F
 c:Al (fun r=>RowC G r.1 r.2.1 r.2.2) C
 m:Al (zcn G) G.m
structure zhf (K:À)(G:Gm)(bs:List (Str×zaE))(F C:List (Str×Stmt×zaE)):Prop where
 b:Al (fun q=>zgO K q.1 q.2) bs
 f:Al (fun r=>∃ f fd,FH K r.1 r.2.1 f fd) F
 c:Al (fun r=>zqi K r.1 r.2.1) C
 m:Al (zr1 K) G.m
 r:Al (zrT K) G.r
 t:Al (zph K) G.t
 i:Al (zq0 K) G.i
 w:Al (zrn K) G.f
section
variable {P:Program}{w:World}{K:À}{mg:Str->Option Â}{base h:Heap}{G:Gm}{xs:List Str}{bs:List (Str×zaE)}{F C:List (Str×Stmt×zaE)}
def zce {st:Stmt}{ps:List Str}(F:Fun K x qual st f fd)(h:zb5 (zal st) ps=true):Binds K fd ps []:=F.binds fun _ _ _ _ _ _ us hl=>zfM h rfl hl
def zkA (h:IsH K v l):IsL K l v:=by
 unfold IsH at h
 induction h with
 |nil=>intro c b C e;cases e
 |@cons q l h t ih =>
  intro c b C e hn;obtain⟨C',h1,h2,h3⟩:=h;rw[List.lookup_cons]at e;cases hc:c==q.1 with
  |true =>rw[hc]at e;cases e;rw[eq_of_beq hc,h1]at hn;cases hn;exact⟨IsC.of h2,h3⟩
  |false=>rw[hc]at e;exact ih c b C e hn
def zpv (R:Rwz G xs bs F C)(X:K.In h)(N:h.Ns mainGlobals mg)(T:TbX K mg base xs)(S:zhf K G bs F C):∀ j,zc1 P w K mg base j G:=by
 have rest:∀ j,(∀ x e,(x,e)∈G.g->zm2 P w K mg base j x e)->(∀ r,r∈G.m->r.k<=j->zlk P w K mg base r.k r.c r.m r.ps (zbF K r.sp))->zc1 P w K mg base j G:=fun j hg hm=>{
  m:=hm
  g:=hg
  r:=fun x hx=>by obtain⟨D,h1,h2⟩:=S.r.mem x hx;exact⟨fun D' hn=>by rw[h1]at hn;cases hn;exact ExC.of h2,D,h1,PySem.W.mg_of X N h1⟩
  t:=fun x l hx=>by obtain⟨D,h1,h2⟩:=S.t.mem _ hx;refine⟨D,PySem.W.mg_of X N h1,fun c E hc hn=>?_⟩;obtain⟨E',h3,h4⟩:=h2.mem c (by simpa using hc);rw[h3]at hn;cases hn;exact h4
  i:=fun x l hx=>by
   rcases S.i.mem _ hx with⟨D,h1,h2⟩|⟨T',h1,h2,h3⟩
   ·exact .inl ⟨D,PySem.W.mg_of X N h1,zkA h2⟩
   ·exact .inr ⟨T',PySem.W.mg_none_of X N h1,h2,zkA h3⟩
  f:=fun c f hx D hn=>by obtain⟨D',h1,h2⟩:=S.w.mem _ hx;rw[h1]at hn;cases hn;exact h2 }
 refine fun j=>Nat.strongRecOn j fun j ih=>rest j (fun x e he=>?_) fun r hr z=>?_
 rotate_left
 ·obtain⟨k,hk,ha,q⟩:=R.m.mem _ hr;obtain⟨D,f,fd,h1,h2,_,h4⟩:=S.m.mem _ hr;rw[hk]at z ⊢;exact⟨⟨D,f,fd,h1,h2,q _ _ _ _ _ _ _ _ (ih k z) h4,zce h4 ha⟩⟩
 rw[R.g]at he;rcases List.mem_append.mp he with hb|hb
 ·have b:=S.b.mem _ hb;cases e with
  |int n=>obtain⟨t,b⟩:=b;exact⟨t,PySem.W.mg_of X N b⟩
  |str z=>obtain⟨t,b⟩:=b;exact⟨t,PySem.W.mg_of X N b⟩
  |blt b'=>exact⟨b.1,PySem.W.mg_none_of X N b.2⟩
  |_=>exact b.elim
 ·obtain⟨⟨y,st,e⟩,hr,e'⟩:=List.mem_map.mp hb;cases e';rcases List.mem_append.mp hr with hr|hr
  ·have q:=R.f.mem _ hr;obtain⟨f,fd,H⟩:=S.f.mem _ hr;cases e with
   |fn k ps sp=>cases k with
    |zero=>exact q.elim
    |succ k=>exact fun z=>⟨⟨f,fd,q.2 _ _ _ _ _ _ _ T (ih k z) H,zce H.F q.1,H.F.kp,PySem.W.mg_of X N H.a⟩⟩
   |fx k ps sp=>cases k with
    |zero=>exact q.elim
    |succ k=>exact fun z=>⟨⟨f,fd,q.2 _ _ _ _ _ _ _ T (ih k z) H,zce H.F q.1,H.F.kp,PySem.W.mg_of X N H.a⟩⟩
   |_=>exact q.elim
  ·have q:=R.c.mem _ hr;obtain⟨D,f,fd,h1,h2,h3,_,h4⟩:=S.c.mem _ hr;cases e with
   |cl k sp=>cases k with
    |zero=>exact q.elim
    |succ k =>obtain⟨ps,init,e1,ha,q⟩:=q;have e1:sp=zez y init:=e1;subst e1;exact fun z=>⟨⟨D,f,fd,ps,_,h2,q _ _ _ _ _ _ _ _ (ih k (Nat.lt_of_succ_lt z)) h4,zce h4 ha,PySem.W.mg_of X N h1,znR h3 h1⟩⟩
   |cx k c' sp=>cases k with
    |zero=>exact q.elim
    |succ k =>obtain⟨e1,ps,ha,q⟩:=q;have e1:c'=y:=e1;subst e1;exact fun z=>⟨⟨D,f,fd,ps,h2,q _ _ _ _ _ _ _ _ (ih k (Nat.lt_of_succ_lt z)) h4,zce h4 ha,PySem.W.mg_of X N h1,h3,h1⟩⟩
   |_=>exact q.elim
def znV {L:Nat}{st:Stmt}{sp:DSp}{fa:Addr}{P:Program}{w:World}(R:Rwz G xs bs F C)(hl:(("law":Str),st,zaE.fn (L+1) ["script"] sp)∈F)(X:K.In h)(N:h.Ns mainGlobals mg)(S:zhf K G bs F C)(hfa:mg "law"=some (.ref fa)) :
  ∃ fd:FuncData,(∀ (s:Á) (u:Â),BindsTo s fd ⟨[u],[]⟩ [("script",u)])/\∀ base:Heap,K.In base->base.Ns mainGlobals mg->TbX K mg base xs->zaF P w K mg base CX0 (L+1) fa fd ["script"] (upF K sp):=by
 obtain⟨f,fd,H⟩:=S.f.mem _ hl;have q:=R.f.mem _ hl;have e:=hfa.symm.trans (PySem.W.mg_of X N H.a);cases e;obtain⟨oc,od,kV,doc,pm,an,cdv,ct,osl,rfl,lkX,hcd⟩:=H.F.ex;exact⟨_,fun s u=>.of_eq (zfM (ps:=["script"]) q.1 rfl rfl),fun base hb hn T=>q.2 _ _ _ _ _ _ _ T (zpv R X N T S L) H⟩
end
section
variable {K:À}{x c:Str}{st:Stmt}
def zl3 {b:Bt}(e:x=b.nm)(h:PySem.W.nsIn K mainGlobals x=some none):zgO K x (.blt b):=⟨e,h⟩
def zl7 {n:Int}{t:Tok}(h:PySem.W.nsIn K mainGlobals x=some (some (.int n t))):zgO K x (.int n):=⟨t,h⟩
def zl9 {z:Str}{t:Tok}(h:PySem.W.nsIn K mainGlobals x=some (some (.str z t))):zgO K x (.str z):=⟨t,h⟩
def zqE {f:Addr}{oc:Â}{od an:Option Addr}{osl:Array (Option Â)}{kV doc pm cdv ct:Â}(a:PySem.W.nsIn K mainGlobals x=some (some (.ref f)))
  (l:K.lookup f=some ⟨oc,od,.func (PySem.W.fnOf x x (zal st) (z7 st) (zF st) .none kV doc pm an cdv ct),osl⟩) (c:PySem.W.codeIn K cdv x=true) (k:PySem.W.keepIn K (.ref f)=true):∃ f fd,FH K x st f fd:=⟨f,_,zsk a l c k⟩
def zqr {q:Str}{C f:Addr}{oc kV dc pm cd ct:Â}{od an:Option Addr}{sl:Array (Option Â)}(a:PySem.W.nsIn K mainGlobals c=some (some (.ref C)))(q2:PySem.W.findIn K (.ref C) "__init__"=some (some (.ref f)))
  (l:K.lookup f=some ⟨oc,od,.func (PySem.W.fnOf "__init__" q (zal st) (z7 st) (zF st) .none kV dc pm an cd ct),sl⟩) (cc:PySem.W.codeIn K cd q=true) (k:PySem.W.keepIn K (.ref f)=true)
  (q1:PySem.W.makesIn K C=true) (q3:PySem.W.isFn K (.ref f)=true) (q4:PySem.W.keepIn K (.ref C)=true) (q5:PySem.W.plainGet K C Str.empty=true) (q6:PySem.W.hasDictIn K C=true) (q7:PySem.W.plainOver K C=true) (q8:PySem.W.findIn K (.ref C) "__setattr__"=some (some (.builtin "object.__setattr__"))):zqi K c st :=
 ⟨C,f,_,a,⟨q1,q2,q3,q4⟩,⟨q5,q6,q7,q8⟩,q,zhc l cc k⟩
def zqZ {q:Str}{k:Nat}{ps:List Str}{sp:zU}{C f:Addr}{oc kV dc pm cd ct:Â}{od an:Option Addr}{sl:Array (Option Â)}(a:PySem.W.nsIn K mainGlobals c=some (some (.ref C)))(at_:PySem.W.findIn K (.ref C) m=some (some (.ref f)))(l:K.lookup f=some ⟨oc,od,.func (PySem.W.fnOf m q (zal st) (z7 st) (zF st) .none kV dc pm an cd ct),sl⟩)(cc:PySem.W.codeIn K cd q=true)(kp:PySem.W.keepIn K (.ref f)=true)(fn:PySem.W.isFn K (.ref f)=true):zr1 K ⟨m,c,st,k,ps,sp⟩ :=⟨C,f,_,a,⟨at_,fn,kp⟩,q,zhc l cc kp⟩
def zr3 {C:Addr}(a:PySem.W.nsIn K mainGlobals x=some (some (.ref C)))(h:zi6 K C=true):zrT K x:=⟨C,a,h⟩
def zpG {l:List Str}{D:Addr}(a:PySem.W.nsIn K mainGlobals x=some (some (.ref D)))(h:Al (fun c=>∃ C,PySem.W.nsIn K mainGlobals c=some (some (.ref C))/\PySem.W.exmOne K (.ref C) (.ref D)=some true) l):zph K (x,l):=⟨D,a,h⟩
def zp9 {C:Addr}(a:PySem.W.nsIn K mainGlobals x=some (some (.ref C)))(h:PySem.W.exmOne K (.ref C) v=some true):∃ C,PySem.W.nsIn K mainGlobals x=some (some (.ref C))/\PySem.W.exmOne K (.ref C) v=some true:=⟨C,a,h⟩
def znU {D:Addr}(a:PySem.W.nsIn K mainGlobals x=some (some (.ref D)))(h:IsH K (.ref D) l):zq0 K (x,l):=.inl ⟨D,a,h⟩
def zqL {b:Bool}{C:Addr}(a:PySem.W.nsIn K mainGlobals x=some (some (.ref C)))(i:isIn K C=true)(h:PySem.W.kitOne K (.ref C) v=some b):∃ C,PySem.W.nsIn K mainGlobals x=some (some (.ref C))/\isIn K C=true/\PySem.W.kitOne K (.ref C) v=some b:=⟨C,a,i,h⟩
def zpS {C:Addr}(a:PySem.W.nsIn K mainGlobals x=some (some (.ref C)))(h:PySem.W.findIn K (.ref C) f=some none):zrn K (x,f):=⟨C,a,h⟩
end
section
variable {l:PySem.W.OpenLaw}{q:Program}{loose:List Str}{XP:(Str->Option Â)->Heap->Prop}{YP:World->Heap->Prop}{d:DefRec}{K:Params->À}{G:Gm}{bs:List (Str×zaE)}{F C:List (Str×Stmt×zaE)}{st:Stmt}
def zul {K:À}{mg:Str->Option Â}{base:Heap}:TbX K mg base []:=trivial
def zku (L:Nat)(hn:l.most=some 63)(hdf:d.params.defaults=[])(hd:d.name="law")(hr:zP (L+1) callerA)(hY:∀ (w:World) (h:Heap),YP w h->(K w.params).In h)
  (R:Rwz G [] bs F C) (hl:(("law":Str),st,zaE.fn (L+1) ["script"] zde)∈F) (S:∀ w:World,zhf (K w.params) G bs F C):PySem.W.WalkO q loose XP YP l.row.toRowW d [] (fun f vs=>PySem.call f vs) :=
 zlK (n:=63) (sp:=fun w=>upF (K w.params) zde) hn (by decide) hdf hr hY (fun w mg fa h KX N hfa=>by obtain⟨fd,hb,hF⟩:=znV R hl KX N (S w) (hd▸hfa);exact⟨fd,hb,fun base b n=>hF base b n zul⟩) fun _ _ _ _ hl hg hO hS=>zrI hl hg hO hS
end
end Dp
open PySem Dp
local macro_rules | `(tactic| walk_at"dat")=>`(tactic| first | assumption | exact zaz | exact ziB | (refine(zQ _ _ _).trans ?_;exact rfl) | exact zN (by assumption))
local macro_rules | `(tactic| walk_at"l")=>`(tactic| first | assumption | exact Lst.rl | exact Lst.at0 | exact Lst.new | (refine Lst.at ?_;exact rfl) | exact Lst.old (by assumption) | exact Lst.here (by assumption) | exact Lst.here (zN (by assumption)))
local macro_rules | `(tactic| walk_at"dseq")=>`(tactic| first | exact Or.inl rfl | (refine Or.inr ?_;walk_at"l"))
local macro_rules | `(tactic| walk_at"d")=>`(tactic| first | assumption | exact My.Bd.mono (by assumption) (by decide) | exact My.Bd.lit (by decide) (by decide) | (refine My.Bd.add ?_ ?_<;>walk_at"d") | (refine My.Bd.sub ?_ ?_<;>walk_at"d") | (refine My.Bd.neg ?_;walk_at"d") | (refine My.Bd.mulH ?_ ?_<;>walk_at"d") | (refine My.Bd.emod (by first | decide | lia) ?_;walk_at"d") | (refine My.Bd.ediv ?_;walk_at"d"))
local macro_rules | `(tactic| walk_at"dmul")=>`(tactic| first | assumption | exact Or.inr (Or.inl (by first | decide | lia)) | exact Or.inr (Or.inr (by first | decide | lia)) | exact Or.inl ⟨by walk_at"d",by walk_at"d"⟩)
local macro_rules | `(tactic| walk_at"ddiv")=>`(tactic| first | assumption | exact⟨by first | decide | lia,by walk_at"d"⟩)
local macro_rules | `(tactic| walk_at"dr1")=>`(tactic| first|(with_reducible refine zuC fun _ _ _=>?_)|(with_reducible refine zva fun _ _=>?_)|(with_reducible refine zvk fun _ _=>?_)|((with_reducible refine nxi (W:=?rvw) ?rvk ?_);(case rvk=>assumption))|((with_reducible refine nxl (W:=?rvw) ?rvk ?_);(case rvk=>assumption)))
local macro_rules | `(tactic| walk_at"dr1")=>`(tactic| with_reducible first|refine zps ?_|refine zrw ?_|refine zpg ?_|refine zuL ?_)
local macro_rules | `(tactic| walk_at"dr1")=>`(tactic| first|((with_reducible refine ztq (xs:=?rvx) ?rvl ?_);(case rvl=>walk_at"l")))
local macro_rules | `(tactic| walk_at"dr1")=>`(tactic| with_reducible first|refine zlh ?_|refine zlb ?_|refine zs5 ?_|refine ztR ?_|refine zsF ?_|refine zjY ?_|refine zrB ?_|refine zst ?_|refine ztD ?_)
local macro_rules | `(tactic| walk_at"dr1")=>`(tactic| first|((with_reducible refine zrz (xs:=?rvx) ?rvl ?_);(case rvl=>walk_at"l"))|((with_reducible refine ztI (a:=?rvv) ?rvk ?_);(case rvk=>exact rfl))|((with_reducible refine zg2 (xs:=?rvx) ?rvk ?rvl ?_);(case rvk=>walk_at"dat");(case rvl=>first | exact Nat.lt_of_ble_eq_true rfl | assumption | (simp only[big,List.length_append,List.length_cons,List.length_nil,List.length_map]at *;lia))))
local macro_rules | `(tactic| walk_at"dr1")=>`(tactic| with_reducible first|refine zpn ?_|refine zqm ?_|refine ztS ?_|refine ztH ?_|refine zpb ?_|refine zts ?_|refine zvl ?_|refine zrV ?_|refine zpO ?_|refine zqs ?_)
local macro_rules | `(tactic| walk_at"dr1")=>`(tactic| first|((with_reducible refine zpW ?rvk ?_);(case rvk=>exact rfl)))
local macro_rules | `(tactic| walk_at"dr1")=>`(tactic| with_reducible first|refine zgC ?_|refine zfV ?_|refine zfy ?_|refine zq6 ?_|refine zov ?_)
local macro_rules | `(tactic| walk_at"dr1")=>`(tactic| first|((with_reducible refine znp (xs:=?rvx) ?rvl ?_);(case rvl=>walk_at"l")))
local macro_rules | `(tactic| walk_at"dr1")=>`(tactic| with_reducible first|refine zrr ?_)
local macro_rules | `(tactic| walk_at"dr1")=>`(tactic| first|((with_reducible refine zrE (xs:=?rvx) ?rvl ?_);(case rvl=>walk_at"l")))
local macro_rules | `(tactic| walk_at"dr1")=>`(tactic| with_reducible first|refine zr0 ?_)
local macro_rules | `(tactic| walk_at"dr1")=>`(tactic| with_reducible first|refine ztr ?_|refine zs4 ?_|refine zsM ?_|refine zsD ?_|refine zso ?_|refine zaH ?_|refine zex ?_|refine zjV ?_|refine zsQ ?_|refine zjh ?_|refine zsB ?_|refine zse ?_)
local macro_rules | `(tactic| walk_at"dr1")=>`(tactic| first|((with_reducible refine ztE (ys:=?rvx) ?rvk ?_);(case rvk=>walk_at"dat")))
local macro_rules | `(tactic| walk_at"dr1")=>`(tactic| with_reducible first|refine r_b ?_|refine r_m ?_)
local macro_rules | `(tactic| walk_at"dr1")=>`(tactic| first|((with_reducible refine zra (b:=?rvv) ?rvk ?_);(case rvk=>exact rfl)))
local macro_rules | `(tactic| walk_at"dr1")=>`(tactic| with_reducible first|refine zsc ?_|refine zok ?_|refine ztA ?_)
local macro_rules | `(tactic| walk_at"dr1")=>`(tactic| first|((with_reducible refine zsq ?rvk ?_);(case rvk=>exact rfl)))
local macro_rules | `(tactic| walk_at"dr1")=>`(tactic| with_reducible first|refine zsU ?_)
local macro_rules | `(tactic| walk_at"dr1")=>`(tactic| with_reducible first|refine r_t ?_|refine zuH ?_|refine zsf ?_|refine zte ?_|refine zvd ?_|refine ztn ?_|refine zqk ?_|refine zrZ ?_|refine zt3 ?_|refine ztw ?_|refine zhr ?_|refine zmH ?_)
local macro_rules | `(tactic| walk_at"dr1")=>`(tactic| first|((with_reducible refine zsC ?rvk ?_);(case rvk=>walk_at"dmul"))|((with_reducible refine zsJ ?rvk ?_);(case rvk=>walk_at"ddiv"))|((with_reducible refine zsO ?rvk ?_);(case rvk=>first | assumption | decide | lia))|((with_reducible refine zsE (d:=?rvv) ?rvk ?_);(case rvk=>first | assumption | exact rfl))|((with_reducible refine zjO (xs:=?rvx) (d:=?rvv) ?rvl ?rvk ?_);(case rvl=>walk_at"l");(case rvk=>first | assumption | exact rfl)))
local macro_rules | `(tactic| walk_at"dr1")=>`(tactic| with_reducible first|refine ztM ?_)
local macro_rules | `(tactic| walk_at"dr1")=>`(tactic| with_reducible first|refine r_c ?_|refine zjb ?_|refine zu3 ?_|refine zsG ?_|refine ztG ?_|refine ztW ?_|refine zus ?_|refine zu5 ?_|refine zuj ?_|refine zt7 ?_|refine ztj ?_|refine zsT ?_)
local macro_rules | `(tactic| walk_at"dr1")=>`(tactic| first|((with_reducible refine zdv (d:=?rvv) ?rvk ?_);(case rvk=>exact rfl)))
local macro_rules | `(tactic| walk_at"dr1")=>`(tactic| with_reducible first|refine zue ?_|refine znK ?_)
local macro_rules | `(tactic| walk_at"dr1")=>`(tactic| first|((with_reducible refine zo5 (g:=?rv1) (b:=?rv2) (f:=?rv3) (h:=?rv4) (a:=?rv5) (l:=?rv6) (d:=?rv7) ?rvk ?_);(case rvk=>walk_at"dat"))|((with_reducible refine zpz (g:=?rv1) (b:=?rv2) (f:=?rv3) (h:=?rv4) (a:=?rv5) (l:=?rv6) (d:=?rv7) ?rvk ?_);(case rvk=>walk_at"dat"))|((with_reducible refine zo7 (g:=?rv1) (b:=?rv2) (f:=?rv3) (h:=?rv4) (a:=?rv5) (l:=?rv6) (d:=?rv7) ?rvk ?_);(case rvk=>walk_at"dat")))
local macro_rules | `(tactic| walk_at"dr1")=>`(tactic| first|((with_reducible refine zsg (l:=?rvx) ?rvk ?_);(case rvk=>walk_at"dat"))|((with_reducible refine zll (g:=?rv1) (b:=?rv2) (f:=?rv3) (h:=?rv4) (a:=?rv5) (l:=?rv6) (d:=?rv7) ?rvk ?_);(case rvk=>walk_at"dat"))|((with_reducible refine zkV (g:=?rv1) (b:=?rv2) (f:=?rv3) (h:=?rv4) (a:=?rv5) (l:=?rv6) (d:=?rv7) ?rvk ?_);(case rvk=>walk_at"dat"))|((with_reducible refine zpk (g:=?rv1) (b:=?rv2) (f:=?rv3) (h:=?rv4) (a:=?rv5) (l:=?rv6) (d:=?rv7) ?rvk ?_);(case rvk=>walk_at"dat"))|((with_reducible refine zqw (g:=?rv1) (b:=?rv2) (f:=?rv3) (h:=?rv4) (a:=?rv5) (l:=?rv6) (d:=?rv7) ?rvk ?_);(case rvk=>walk_at"dat")))
local macro_rules | `(tactic| walk_at"dr1")=>`(tactic| with_reducible first|refine zje ?_|refine zpF ?_|refine zmC ?_|refine zng ?_|refine zqo ?_|refine zmW ?_|refine zqI ?_|refine zs8 ?_)
local macro_rules | `(tactic| walk_at"dr1")=>`(tactic| first|((with_reducible refine zun (l:=?rvx) ?rvk ?rvl ?_);(case rvk=>walk_at"dat");(case rvl=>decide +kernel))|((with_reducible refine zlj (l:=?rvx) ?rvk ?_);(case rvk=>walk_at"dat")))
local macro_rules | `(tactic| walk_at"dr1")=>`(tactic| with_reducible first|refine zvb ?_|refine k_drop ?_|refine zu1 ?_|refine zvf ?_|refine zug ?_|refine k_m ?_|refine zuK ?_|refine zur ?_|refine zvj ?_|refine zuV ?_|refine zuR ?_|refine zn7 ?_)
local macro_rules | `(tactic| walk_at"dr1")=>`(tactic| with_reducible first|refine zuo ?_|refine zvg ?_|refine zua ?_|refine zu4 ?_|refine zsy ?_|refine zup ?_|refine k_t ?_|refine zum ?_|refine zuh ?_|refine zu0 ?_|refine zu8 ?_|refine zu2 ?_)
local macro_rules | `(tactic| walk_at"g")=>`(tactic| repeat walk_at"dr1")
local macro_rules | `(tactic| walk_at"h")=>`(tactic| simp only[zb6,List.map_cons,List.map_nil,List.length_cons,List.length_nil,Nat.reduceSub,Nat.reduceAdd,List.replicate,List.cons_append,List.nil_append,List.set_cons_zero,List.set_cons_succ])
local macro_rules | `(tactic| walk_at"j")=>`(tactic| simp only[List.set_cons_zero,List.set_cons_succ])
namespace Dp
open PySem Rm My
def zaQ:DSp:=fun ds S Q=>∃ (ns:List Int) (k:Nat),ds=[.rl (ns.map D.int),.int (k:Int)]/\Q (.int (ns.getD k 0)) S
abbrev gn0:DG:=zK 0
abbrev gn1:DG:=zK 1
abbrev gn2:DG:=zK 2
abbrev gn3:DG:=zK 3
abbrev gn4:DG:=zK 4
abbrev gn5:DG:=zK 5
abbrev gn6:DG:=zK 6
abbrev gn7:DG:=zK 7
abbrev gn8:DG:=zK 8
abbrev gn9:DG:=zK 9
abbrev zlQ:DG:=zK 10
abbrev zjn:DG:=zK 11
abbrev zi3:DG:=zK 12
abbrev zlM:DG:=zK 13
abbrev zrf:DG:=zK 14
abbrev vr0:DE:=za1 0
abbrev vr1:DE:=za1 1
abbrev vr2:DE:=za1 2
abbrev vr3:DE:=za1 3
abbrev vr4:DE:=za1 4
abbrev vr5:DE:=za1 5
abbrev vr6:DE:=za1 6
abbrev vr7:DE:=za1 7
abbrev vr8:DE:=za1 8
abbrev vr9:DE:=za1 9
abbrev zho:DE:=za1 10
abbrev zhU:DE:=za1 11
abbrev zqe:DE:=za1 12
abbrev zjC:DE:=za1 13
abbrev zvn:DE:=za1 14
abbrev ci0:DE:=dC (.int 0)
abbrev ci1:DE:=dC (.int 1)
abbrev ci2:DE:=dC (.int 2)
abbrev ci3:DE:=dC (.int 3)
abbrev ci4:DE:=dC (.int 4)
abbrev ci5:DE:=dC (.int 5)
abbrev ci6:DE:=dC (.int 6)
abbrev ci7:DE:=dC (.int 7)
abbrev ci8:DE:=dC (.int 8)
abbrev ci9:DE:=dC (.int 9)
abbrev zaB:DE:=dOp oIx vr0 ci0
abbrev zcv:DE:=dOp oIx vr0 ci1
abbrev zfJ:DE:=dOp oIx vr0 ci2
abbrev zjH:DE:=dOp oIx vr0 ci3
abbrev zi0:DE:=dOp oIx vr0 ci4
abbrev zi8:DE:=dOp oIx vr0 ci5
abbrev ztX:DE:=dOp oIx vr0 ci6
abbrev zcW:DE:=dOp oIx vr1 ci0
abbrev zfm:DE:=dOp oIx vr1 ci1
abbrev zmP:DE:=dOp oIx vr1 ci2
abbrev zcQ:DE:=dOp oIx vr2 ci0
abbrev zjM:DE:=dOp oIx vr2 ci1
abbrev zt2:DE:=dOp oIx vr2 ci4
abbrev zsu:DE:=dOp oIx vr2 ci5
abbrev zen:DE:=dOp oIx vr3 ci0
abbrev zjz:DE:=dOp oIx vr3 ci1
abbrev zmx:DE:=dOp oIx vr3 ci2
abbrev zfi:DE:=dOp oIx vr4 ci0
abbrev zmI:DE:=dOp oIx vr4 ci1
abbrev zgL:DE:=dOp oIx vr6 ci0
abbrev zm6:DE:=dOp oIx vr6 ci1
abbrev zmv:DE:=dOp oIx vr6 ci2
abbrev zjL:DE:=dOp oIx vr7 ci0
abbrev zi4:DE:=dOp oIx vr7 ci1
abbrev zrt:DE:=dOp oIx zho ci0
abbrev ua0:DA:=za vr0 zf
abbrev ua1:DA:=za vr1 zf
abbrev ua2:DA:=za vr2 zf
abbrev ua3:DA:=za vr3 zf
abbrev ua4:DA:=za vr4 zf
abbrev ua5:DA:=za vr5 zf
abbrev ua6:DA:=za vr6 zf
abbrev ua7:DA:=za vr7 zf
abbrev ua8:DA:=za vr8 zf
abbrev zvr:DA:=za zho zf
abbrev zlz:DA:=za zqe zf
abbrev zu6:DA:=za zvn zf
abbrev zfg:DS :=
    (zj (sIf (dT (dOp oLt vr1 (dB z8 ua0))) (zy (dOp oIx vr0 vr1)) zu)
 (zy ci0))
def zh6:BodyOk 2 zfg zaQ:=by
 rintro ds S Q ⟨ns,k,rfl,q⟩;unfold zfg;walk_at"g";rw[List.length_map];refine r_d (fun h=>?_) (fun h=>?_)
 ·have hk:k<ns.length:=by lia
  have av:atD (ns.map D.int) (k:Int)=some (.int ns[k]):=zaY (by rw[List.getElem?_map,List.getElem?_eq_getElem hk];rfl);rw[List.getD_eq_getElem?_getD,List.getElem?_eq_getElem hk]at q;walk_at"g";exact fin_same q
 ·rw[List.getD_eq_getElem?_getD,List.getElem?_eq_none (by lia)]at q;walk_at"g";exact fin_same q
def zcl:DSp:=fun ds S Q=>∃ (ns:List Int) (st sz:Int),ds=[.rl (ns.map D.int),.int st,.int sz]/\ns.length<=63/\0<=st/\0<sz/\sz<60/\∀ zs:List Int,(zs.length:Int)=sz->New Q S (zs.map D.int)
abbrev zd7:DS :=
    (zj (zp (dLC 1 [] (zbm ua2) gn0 zan (dOp zJ (dOp zag vr0 vr0) ci5)) gn3)
 (zj (zcX (zet (za vr1 (za (dB z8 ua0) zf))) gn4 (zp (dOp zJ (dOp zag (dOp oIx vr3 (dOp oMod vr4 vr2)) ci3) (dOp oIx vr0 vr4)) (zgc vr3 (dOp oMod vr4 vr2))))
 (zy vr3)))
def zgD:BodyOk 5 zd7 zcl:=by
 rintro ds S Q ⟨ns,st,sz,rfl,hl,s0,z0,z1,q⟩;unfold zd7;walk_at"g";refine⟨_,rfl,by lia,by lia,?_⟩;refine zY (fun _=>true) (onI fun k=>.int (k*k+5)) True.intro (by rw[zao];unfold big;lia) (fun i d ys hd hw=>?_) ?_
 ·obtain⟨hi,rfl⟩:=zaM hd;have cm:zai (0+(i:Int)) (0+(i:Int)):=.inr (.inr (show _<2 ^ 64 by lia));walk_at"g";exact zar hd hw rfl rfl
 rw[filter_true];obtain⟨t0,ht0,hl0⟩:∃ t0:List Int,(upto 0 sz.toNat).map (onI fun k=>D.int (k*k+5))=t0.map D.int/\(t0.length:Int)=sz:=⟨(List.range sz.toNat).map fun k:Nat=>(0+(k:Int))*(0+(k:Int))+5,by unfold upto;rw[List.map_map,List.map_map];rfl,by simp;lia⟩
 rw[ht0];walk_at"g";rw[List.length_map];walk_at"h";refine⟨_,_,rfl,?_⟩;refine zb7 (fun i Z S'=>∃ (zs:List Int) (w:Option D),S'=S++[.lst (zs.map D.int)]/\Z=[some (.rl (ns.map D.int)),some (.int st),some (.int sz),some (.ref S.length),w]/\(zs.length:Int)=sz) ⟨t0,none,rfl,rfl,hl0⟩ (fun _ _ _ _=>True.intro) ?_ ?_
 ·rintro i d Z S' hd ⟨zs,w,rfl,rfl,hzl⟩;obtain⟨hi,rfl⟩:=zaM hd;have r1:=Int.emod_nonneg (st+(i:Int)) (show sz≠0 by lia);have r2:=Int.emod_lt_of_pos (st+(i:Int)) z0;obtain⟨a,_,aa⟩:=zbI (zs:=zs) (k:=(st+(i:Int))%sz) r1 (by lia);obtain⟨b,_,ab⟩:=zbI (zs:=ns) (k:=st+(i:Int)) (by lia) (by lia);walk_at"g";refine zta (n:=S.length) (xs:=zs.map D.int) zaz (zqy r1 (by lia)) (zjV ?_);walk_at"g";exact⟨zs.set ((st+(i:Int))%sz).toNat (a*3+b),_,by rw[List.map_set],rfl,by rw[List.length_set];exact hzl⟩
 rintro Z S' ⟨zs,w,rfl,rfl,hzl⟩;walk_at"g";exact fin_same (q zs hzl)
def zaV:DSp:=fun ds S Q=>∃ (c k:Int),ds=[.int c,.int k]/\0<=k/\k<3000/\∀ v,0<=v->v<2147483629->Q (.int v) S
abbrev zeN:DS :=
    (zj (zp (dOp oMod (dOp zag (dOp zJ (dOp zJ (dOp oMod vr0 (dC (.int 1000000007))) (dOp zag (dC (.int 7919)) vr1)) ci1) (dC (.int 48271))) (dC (.int 2147483647))) gn2)
 (zy (dOp oMod (dOp zag vr2 vr2) (dC (.int 2147483629)))))
def zg6:BodyOk 3 zeN zaV:=by rintro ds S Q ⟨c,k,rfl,h0,hk,q⟩;unfold zeN;have h1:=Int.emod_nonneg c (b:=1000000007) (by decide);have h2:=Int.emod_lt_of_pos c (b:=1000000007) (by decide);have cm1:zai (c%1000000007+7919*k+1) 48271:=.inr (.inr (show(48271:Int).natAbs<2 ^ 64 by decide));have h3:=Int.emod_nonneg ((c%1000000007+7919*k+1)*48271) (b:=2147483647) (by decide);have h4:=Int.emod_lt_of_pos ((c%1000000007+7919*k+1)*48271) (b:=2147483647) (by decide);have cm2:zai ((c%1000000007+7919*k+1)*48271%2147483647) ((c%1000000007+7919*k+1)*48271%2147483647):=.inr (.inr (show _<2 ^ 64 by lia));walk_at"g";exact fin_same (q _ (Int.emod_nonneg _ (by decide)) (Int.emod_lt_of_pos _ (by decide)))
def zpr (cs:List (Int×Int))(sc:Int):Prop:=∀ (i:Nat) a b,cs[i]?=some a->cs[i+1]?=some b->b.1-a.1<=4*sc
def zbz:DSp:=fun ds S Q=>∃ (x:D) (zs:List Int) (n sc:Int),ds=[x,.int n,.int sc]/\Lst S x (zs.map D.int)/\2<=n/\n<=12/\n<=zs.length/\1<=sc/\sc<=10 ^ 20/\∀ cs:List (Int×Int),Grd cs->(cs.length:Int)=n->zpr cs sc->New Q S (cs.map p2)
abbrev zcV:DS :=
    (zj (zp (zaG zf) gn3)
 (zj (zp (dUn zaj (dC (.int 10))) gn4)
 (zj (zcX (zbm ua1) gn5 (zj (zp (dCall zaV (za (dOp oIx vr0 vr5) ua5)) gn6)
 (zj (zaU (dM zbC vr3 (za (dTup (za (dOp zag vr4 vr2) (za (dOp zag (dOp oMod (dOp oDiv vr6 ci8) ci9) vr2) zf))) zf)))
 (zp (dOp zJ (dOp zJ vr4 ci1) (dOp oMod (dOp oDiv vr6 (dC (.int 72))) ci4)) gn4))))
 (zy vr3))))
def ze0:BodyOk 7 zcV zbz:=by
 rintro ds S Q ⟨x,zs,n,sc,rfl,hx,n2,n12,nz,sc1,sc2,q⟩;unfold zcV;walk_at"g";refine⟨_,rfl,by lia,by lia,?_⟩;refine zb7 (fun i Z S'=>∃ (cs:List (Int×Int)) (u:Int) (w1 w2:Option D),S'=S++[.lst (cs.map p2)]/\Z=[some x,some (.int n),some (.int sc),some (.ref S.length),some (.int u),w1,w2]/\cs.length=i/\-10<=u/\u<=-10+4*(i:Int)/\(cs.Pairwise fun a b=>a.1<b.1)/\zpr cs sc/\(∀ c∈cs,c.1<u*sc/\-(10*10 ^ 20)<=c.1/\0<=c.2/\c.2<=8*10 ^ 20)/\∀ z,cs[cs.length-1]?=some z->u*sc-z.1<=4*sc) ⟨[],-10,none,none,rfl,rfl,rfl,by lia,by lia,.nil,fun i a b h=>by simp at h,by simp,fun z h=>by simp at h⟩ (fun _ _ _ _=>True.intro) ?_ ?_
 ·rintro i d Z S' hd ⟨cs,u,w1,w2,rfl,rfl,hcl,u0,u1,hp,hn,hc,hz⟩;obtain⟨hi,rfl⟩:=zaM hd;have hx':Lst (S++[.lst (cs.map p2)]) x (zs.map D.int):=hx.old;obtain⟨z,_,az⟩:=zbI (zs:=zs) (k:=(0:Int)+(i:Int)) (by lia) (by lia);have hlim:(cs.map p2).length<big:=by rw[List.length_map];unfold big;lia
  walk_at"g";refine⟨z,_,rfl,by lia,by lia,fun m m0 m1=>?_⟩;have h0:=Int.emod_nonneg (m/8) (show(9:Int)≠0 by decide);have h1:=Int.emod_lt_of_pos (m/8) (show(0:Int)<9 by decide);have cm1:zai u sc:=.inr (.inl (show _<2 ^ 64 by lia));have cm2:zai (m/8%9) sc:=.inr (.inl (show _<2 ^ 64 by lia));have k1:=Int.mul_nonneg h0 (show 0<=sc by lia)
  have k2:m/8%9*sc<=8*10 ^ 20:=by have:=Int.mul_le_mul (show m/8%9<=8 by lia) sc2 (by lia) (by decide);exact this
  have k3:-(10*10 ^ 20)<=u*sc:=by
   rcases Int.lt_or_le u 0 with g|g
   ·have:=Int.mul_le_mul (show -u<=10 by lia) sc2 (by lia) (by decide);rw[Int.neg_mul]at this;lia
   ·have:=Int.mul_nonneg g (show 0<=sc by lia);lia
  have v0:=Int.emod_nonneg (m/72) (show(4:Int)≠0 by decide);have v1:=Int.emod_lt_of_pos (m/72) (show(0:Int)<4 by decide);walk_at"g";generalize m/72%4=v at v0 v1 ⊢;generalize hh:m/8%9*sc=hgt at k1 k2 ⊢;have es:(u+1+v)*sc=u*sc+(1+v)*sc:=by grind
  have ks1:sc<=(1+v)*sc:=by have:=Int.mul_le_mul_of_nonneg_right (show 1<=1+v by lia) (show 0<=sc by lia);lia
  have ks2:(1+v)*sc<=4*sc:=Int.mul_le_mul_of_nonneg_right (by lia) (by lia);refine⟨cs++[(u*sc,hgt)],u+1+v,_,_,by rw[List.map_append];rfl,rfl,by simp[hcl],by lia,by lia,List.pairwise_append.mpr ⟨hp,List.pairwise_singleton _ _,fun a ha b hb=>?_⟩,fun j a b ha hb=>?_,fun c hc'=>?_,fun z' hz'=>?_⟩
  ·have:b=(u*sc,hgt):=by simpa using hb
   subst this;exact(hc a ha).1
  ·have lb:=zV hb;rw[List.length_append]at lb;have lb':j+1<cs.length+1:=lb;rcases Nat.lt_or_ge (j+1) cs.length with e|e
   ·rw[List.getElem?_append_left (by lia)]at ha hb;exact hn j a b ha hb
   ·have e1:j+1=cs.length:=by lia
    rw[List.getElem?_append_right (by lia),show j+1-cs.length=0 by lia]at hb;have:(u*sc,hgt)=b:=by simpa using hb
    subst this;rw[List.getElem?_append_left (by lia)]at ha;exact hz a (by rw[show cs.length-1=j by lia];exact ha)
  ·rcases List.mem_append.mp hc' with h|h
   ·have:=hc c h;exact⟨by lia,this.2.1,this.2.2.1,this.2.2.2⟩
   ·have:c=(u*sc,hgt):=by simpa using h
    subst this;exact⟨by show u*sc<_;lia,k3,k1,k2⟩
  ·rw[List.length_append,show cs.length+[(u*sc,hgt)].length-1=cs.length by simp,List.getElem?_append_right (Nat.le_refl _),Nat.sub_self]at hz';have:(u*sc,hgt)=z':=by simpa using hz'
   subst this;show(u+1+v)*sc-u*sc<=4*sc;lia
 ·rintro Z S' ⟨cs,u,w1,w2,rfl,rfl,hcl,u0,u1,hp,hn,hc,hz⟩;rw[zao]at hcl u1;walk_at"g"
  have hus:u*sc<=40*10 ^ 20:=by
   rcases Int.lt_or_le u 0 with g|g
   ·have:=Int.mul_nonneg (show 0<=-u by lia) (show 0<=sc by lia);rw[Int.neg_mul]at this;lia
   ·exact Int.mul_le_mul (show u<=40 by lia) sc2 (by lia) (by decide)
  exact fin_same (q cs ⟨by lia,by lia,hp,fun c hc'=>⟨by have:=hc c hc';show _<2 ^ 170;lia,by have:=hc c hc';show _<2 ^ 190;lia⟩⟩ (by lia) hn)
def stemOf (b:Int):Str:=if b%4=0 then "" else if b%4=1 then "q" else if b%4=2 then "peak" else "hill"
def zR (b:Int)(k:Nat):Str:=stemOf b++⟨#[97+((b/4+7*(k:Int))%26).toNat]⟩
def ze9 (b:Int):(stemOf b).length<=4:=by
  unfold stemOf;split
  . decide +kernel
  . split
    . decide +kernel
    . split<;>decide +kernel
def zju:∀ i:_root_.Fin 26,atS "abcdefghijklmnopqrstuvwxyz" ((i.val:Nat):Int)=some (97+i.val):=by decide +kernel
def ziV (b:Int)(k:Nat):fl 20 (.str (zR b k))=true:=by
  show(stemOf b++(⟨#[97+((b/4+7*(k:Int))%26).toNat]⟩:Str)).cps.all (· < 0x110000)=true;show((stemOf b).cps++#[97+((b/4+7*(k:Int))%26).toNat]).all (· < 0x110000)=true;rw[Array.all_append,Bool.and_eq_true];refine⟨?_,?_⟩
  . unfold stemOf;split
    . decide +kernel
    . split
      . decide +kernel
      . split<;>decide +kernel
  . have:=Int.emod_lt_of_pos (b/4+7*(k:Int)) (show(0:Int)<26 by decide);simp;lia
def zbK:DSp:=fun ds S Q=>∃ b:Int,ds=[.int b]/\∀ g:Cell,Q (.ref (S.length+1)) (S++[g,.lst ((List.range 14).map fun k=>.str (zR b k))])
abbrev zeM:DS :=
    (zj (zp (dOp oIx (zaG (za (dC (.str "")) (za (dC (.str "q")) (za (dC (.str "peak")) (za (dC (.str "hill")) zf))))) (dOp oMod vr0 ci4)) gn1)
 (zy (dLC 1 [1,0] (zbm (za (dC (.int 14)) zf)) gn0 zan (dOp zJ vr1 (dOp oIx (dC (.str "abcdefghijklmnopqrstuvwxyz")) (dOp oMod (dOp zJ (dOp oDiv vr2 ci4) (dOp zag ci7 vr0)) (dC (.int 26))))))))
def zhw:BodyOk 2 zeM zbK:=by
  rintro ds S Q ⟨b,rfl,q⟩;unfold zeM;have hb:b%4=0\/b%4=1\/b%4=2\/b%4=3:=by lia
  have as:atD [.str "",.str "q",.str "peak",.str "hill"] (b%4)=some (.str (stemOf b)):=by unfold stemOf;rcases hb with e|e|e|e<;>rw[e]<;>rfl
  have sl:=ze9 b;walk_at"g";refine⟨_,rfl,by decide,by decide,?_⟩;refine zY (fun _=>true) (onI fun k=>.str (zR b k.toNat)) True.intro (by rw[zao];decide) (fun i d ys hd hw=>?_) ?_
  . obtain⟨hi,rfl⟩:=zaM hd;have r1:=Int.emod_nonneg (b/4+7*(0+(i:Int))) (show(26:Int)≠0 by decide);have r2:=Int.emod_lt_of_pos (b/4+7*(0+(i:Int))) (show(0:Int)<26 by decide);walk_at"g";refine zm4 (z:="abcdefghijklmnopqrstuvwxyz") (c:=97+((b/4+7*(0+(i:Int)))%26).toNat) (by decide +kernel) ?_ ?_
    . have:=zju ⟨((b/4+7*(0+(i:Int)))%26).toNat,by lia⟩;rw[show((((b/4+7*(0+(i:Int)))%26).toNat:Nat):Int)=(b/4+7*(0+(i:Int)))%26 by lia]at this;exact this
    walk_at"g";refine zhE (by show(stemOf b).length+1<=big;unfold big;lia) ?_;refine zar hd hw rfl ?_;show _=D.str (zR b (0+(i:Int)).toNat);unfold zR;rw[show(((0+(i:Int)).toNat:Nat):Int)=0+(i:Int) by lia]
  rw[filter_true]
  have e:(upto 0 (14:Int).toNat).map (onI fun k=>D.str (zR b k.toNat))=(List.range 14).map fun k=>D.str (zR b k):=by
    unfold upto;rw[List.map_map];refine List.map_congr_left fun k _=>?_
    show D.str (zR b (0+(k:Int)).toNat)=_;rw[show(0+(k:Int)).toNat=k by lia]
  rw[e];walk_at"g";exact fin_same (q _)
def zb0:DSp:=fun ds S Q=>∃ (x:D) (cs:List (Int×Int)) (a:Int),ds=[x,.int a]/\Lst S x (cs.map p2)/\Grd cs/\Bd 180 a/\(OnG cs (a,1)->Q (.int (zbJ cs a)) S)/\(¬ OnG cs (a,1)->Q .non S)
abbrev zfP:DS :=
    (zj (zcX (zet (za ci1 (za (dB z8 ua0) zf))) gn2 (zj (zp (dOp oIx vr0 (dOp zap vr2 ci1)) gn3)
 (zj (zp (dOp oIx vr0 vr2) gn4)
 (sIf (zf2 (dT (dOp oLe zen vr1)) (dT (dOp oLe vr1 zfi))) (zj (zp (dOp zag (dOp zap zmI zjz) (dOp zap vr1 zen)) gn5)
 (zy (dOp zap zjz (dOp oDiv (dUn zaj vr5) (dOp zap zfi zen))))) zu))))
 (zy (dC .non)))
def zia:BodyOk 6 zfP zb0:=by
 rintro ds S Q ⟨x,cs,a,rfl,hx,gr,ba,q,qn⟩;unfold zfP;by_cases on:OnG cs (a,1)
 case neg =>
  have g1:=gr.two;walk_at"g";rw[List.length_map];refine⟨_,_,rfl,?_⟩;refine zb7 (fun i Z S'=>S'=S/\∃ w2 w3 w4 w5:Option D,Z=[some x,some (.int a),w2,w3,w4,w5]) ⟨rfl,none,none,none,none,rfl⟩ (fun _ _ _ _=>True.intro) ?_ ?_
  ·rintro i d Z S' hd ⟨rfl,w2,w3,w4,w5,rfl⟩;obtain⟨hi,rfl⟩:=zaM hd;obtain⟨b,hb,ab⟩:=zct (cs:=cs) (k:=1+(i:Int)-1) (by lia) (by lia);obtain⟨c,hc,ac⟩:=zct (cs:=cs) (k:=1+(i:Int)) (by lia) (by lia);walk_at"g";refine r_d (fun h1=>?_) (fun h1=>?_)
   ·walk_at"g";refine r_d (fun h2=>?_) (fun h2=>?_)
    ·exfalso;obtain⟨f,hf,ef⟩:=zaO gr;obtain⟨z,hz,ez,_⟩:=ze4 gr
     have f1:f.1<=b.1:=by
      by_cases e:(1+(i:Int)-1).toNat=0
      ·rw[e,hf]at hb;cases hb;lia
      ·have:=za5 gr (show 0<(1+(i:Int)-1).toNat by lia) hf hb;lia
     have z1:c.1<=z.1:=by
      by_cases e:(1+(i:Int)).toNat=cs.length-1
      ·rw[e,hz]at hc;cases hc;lia
      ·have:=za5 gr (show(1+(i:Int)).toNat<cs.length-1 by have:=zV hc;lia) hc hz;lia
     exact on ⟨by rw[ef];show f.1*1<=a;lia,by rw[ez];show a<=z.1*1;lia⟩
    ·walk_at"g";exact⟨rfl,_,_,_,_,rfl⟩
   ·walk_at"g";exact⟨rfl,_,_,_,_,rfl⟩
  ·rintro Z S' ⟨rfl,w2,w3,w4,w5,rfl⟩;walk_at"g";exact fin_same (qn on)
 case pos =>
  have q:=q on;have g1:=gr.two;obtain⟨kk,l,r,hkl,hkr,hle,hlt⟩:=zfo gr.two on.2;have seg:=seg_at hkl hkr hle hlt;have hle':a<=r.1:=by have:a<=r.1*1:=hle;lia
  have hab:=za5 gr (show kk<kk+1 by lia) hkl hkr
  have hlo:l.1<=a:=by
   cases kk with
   |zero =>obtain⟨f,hf,ef⟩:=zaO gr;have h:=on.1;rw[ef]at h;rw[hkl]at hf;cases hf;have:l.1*1<=a:=h;lia
   |succ j =>have:=hlt (j+1) l (by lia) (by lia) hkl;have:l.1*1<a:=this;lia
  have q':Q (.int (l.2-(-((r.2-l.2)*(a-l.1)))/(r.1-l.1))) S:=by
   have e:l.2-(-((r.2-l.2)*(a-l.1)))/(r.1-l.1)=zbJ cs a:=by
    unfold zbJ;rw[seg];unfold zb1 hvT hvB;dsimp only;rw[if_pos (by lia),if_pos (by lia),Int.mul_one,Int.mul_one,Int.mul_one];have e2:-(l.2*(r.1-l.1)+(r.2-l.2)*(a-l.1))=-((r.2-l.2)*(a-l.1))+(-l.2)*(r.1-l.1):=by grind
    rw[e2,Int.add_mul_ediv_right _ _ (by lia)];lia
   rw[e];exact q
  walk_at"g";rw[List.length_map];refine⟨_,_,rfl,?_⟩;refine zb7 (fun i Z S'=>S'=S/\(∃ w2 w3 w4 w5:Option D,Z=[some x,some (.int a),w2,w3,w4,w5])/\i<=kk) ⟨rfl,⟨none,none,none,none,rfl⟩,by lia⟩ (fun _ _ _ _=>True.intro) ?_ ?_
  ·rintro i d Z S' hd ⟨rfl,⟨w2,w3,w4,w5,rfl⟩,hik⟩;obtain⟨hi,rfl⟩:=zaM hd;obtain⟨b,hb,ab⟩:=zct (cs:=cs) (k:=1+(i:Int)-1) (by lia) (by lia);obtain⟨c,hc,ac⟩:=zct (cs:=cs) (k:=1+(i:Int)) (by lia) (by lia);rw[show(1+(i:Int)-1).toNat=i by lia]at hb;rw[show(1+(i:Int)).toNat=i+1 by lia]at hc;have hbc:=za5 gr (show i<i+1 by lia) hb hc;obtain⟨bb1,bb2⟩:=gr.bd b (List.mem_of_getElem? hb);obtain⟨bc1,bc2⟩:=gr.bd c (List.mem_of_getElem? hc);have cm:zai (c.2-b.2) (a-b.1):=.inl ⟨(Bd.sub bc2 bb2).mono (by decide),(Bd.sub ba (bb1.mono (by decide))).mono (by decide)⟩;have dv:0<c.1-b.1/\Bd 8000 (c.1-b.1):=⟨by lia,(Bd.sub bc1 bb1).mono (by decide)⟩
   walk_at"g";refine r_d (fun h1=>?_) (fun h1=>?_)
   ·walk_at"g";refine r_d (fun h2=>?_) (fun h2=>?_)
    ·have e:i=kk:=by
      rcases Nat.lt_or_ge i kk with z|z
      ·have:=hlt (i+1) c (by lia) (by lia) hc;have:c.1*1<a:=this;lia
      ·lia
     subst e;rw[hkl]at hb;cases hb;rw[hkr]at hc;cases hc;walk_at"g";exact fin_same q'
    ·walk_at"g";refine⟨rfl,⟨_,_,_,_,rfl⟩,?_⟩;rcases Nat.lt_or_ge i kk with z|z
     ·lia
     ·have:i=kk:=by lia
      subst this;rw[hkr]at hc;cases hc;lia
   ·exfalso;rcases Nat.lt_or_ge i kk with z|z
    ·rcases Nat.eq_zero_or_pos i with e|e
     ·subst e;obtain⟨f,hf,ef⟩:=zaO gr;rw[hb]at hf;cases hf;have h:=on.1;rw[ef]at h;have:b.1*1<=a:=h;lia
     ·have:=hlt i b e (by lia) hb;have:b.1*1<a:=this;lia
    ·have:i=kk:=by lia
     subst this;rw[hkl]at hb;cases hb;lia
  ·rintro Z S' ⟨rfl,_,hik⟩;rw[zao]at hik;have:=zV hkr;lia
def zbt:DSp:=fun ds S Q=>∃ (c k:Int) (x:D) (cs:List (Int×Int)) (sc:Int) (nm:Str),ds=[.int c,.int k,x,.int sc,.str nm]/\Lst S x (cs.map p2)/\Grd cs/\0<=k/\k<100/\1<=sc/\sc<=10 ^ 20/\fl 20 (.str nm)=true/\∀ s:Int×Int,Bd 175 s.1->Bd 195 s.2->zbw cs s->Q (bcD (nm,s)) S
abbrev zd8:DS :=
    (zj (zp (dCall zaV (za vr0 (za (dOp zJ vr1 (dC (.int 20))) zf))) gn5)
 (zj (zp (dOp oDiv (dOp zap (dOp oIx (dOp oIx vr2 (dUn zaj ci1)) ci0) (dOp oIx zcQ ci0)) vr3) gn6)
 (zj (zp (dOp zJ (dOp oIx zcQ ci0) (dOp zag (dOp oMod vr5 (dOp zJ vr6 ci1)) vr3)) gn7)
 (zy (dTup (za vr4 (za vr7 (za (dOp zJ (dCall zb0 (za vr2 ua7)) (dOp zag (dOp oIx (zaG (za ci0 (za ci1 (za ci1 (za ci2 (za ci4 (za ci7 zf))))))) (dOp oMod (dOp oDiv vr5 (dC (.int 50))) ci6)) vr3)) zf))))))))
def zgA:BodyOk 8 zd8 zbt:=by
  rintro ds S Q ⟨c,k,x,cs,sc,nm,rfl,hx,gr,k0,k1,sc1,sc2,hnm,q⟩;unfold zd8;obtain⟨f,hf,ef⟩:=zaO gr;obtain⟨lc,hlc,elc,alc⟩:=ze4 gr;have af:atD (cs.map p2) 0=some (p2 f):=zaY (i:=0) (by rw[List.getElem?_map,hf];rfl);have bf:=(gr.bd f (List.mem_of_getElem? hf)).1;have bl:=(gr.bd lc (List.mem_of_getElem? hlc)).1;have g1:=gr.two;have hfl:=za5 gr (show 0<cs.length-1 by lia) hf hlc;walk_at"g";refine⟨c,_,rfl,by lia,by lia,fun m m0 m1=>?_⟩
  have dv:0<sc/\Bd 8000 sc:=⟨by lia,by
    have:Bd 200 sc:=by show _<2 ^ 200;lia
    exact this.mono (by decide)⟩
  have w0:0<=(lc.1-f.1)/sc:=Int.ediv_nonneg (by lia) (by lia);have w1:=Int.ediv_mul_le (lc.1-f.1) (b:=sc) (by lia);have v0:=Int.emod_nonneg m (show(lc.1-f.1)/sc+1≠0 by lia);have v1:=Int.emod_lt_of_pos m (show 0<(lc.1-f.1)/sc+1 by lia)
  have v2:m%((lc.1-f.1)/sc+1)<=m:=by have h1:=Int.mul_ediv_add_emod m ((lc.1-f.1)/sc+1);have h2:=Int.mul_nonneg (show 0<=(lc.1-f.1)/sc+1 by lia) (Int.ediv_nonneg m0 (show 0<=(lc.1-f.1)/sc+1 by lia));lia
  have cm1:zai (m%((lc.1-f.1)/sc+1)) sc:=.inr (.inl (show _<2 ^ 64 by lia));have x0:=Int.mul_nonneg v0 (show 0<=sc by lia);have x1:m%((lc.1-f.1)/sc+1)*sc<=lc.1-f.1:=Int.le_trans (Int.mul_le_mul_of_nonneg_right (by lia) (by lia)) w1;walk_at"g";generalize m%((lc.1-f.1)/sc+1)*sc=d at x0 x1;have on:OnG cs (f.1+d,1):=⟨by rw[ef];show f.1*1<=f.1+d;lia,by rw[elc];show f.1+d<=lc.1*1;lia⟩
  have bx:Bd 171 (f.1+d):=(Bd.btw (n:=170) bf bl (by lia) (by lia)).mono (by decide);refine⟨x,cs,f.1+d,rfl,hx,gr,bx.mono (by decide),fun _=>?_,fun no=>absurd on no⟩;have bF:=zmh gr on;have r1:=Int.emod_nonneg (m/50) (show(6:Int)≠0 by decide);have r2:=Int.emod_lt_of_pos (m/50) (show(0:Int)<6 by decide);obtain⟨u,hu,au⟩:=zbI (zs:=[0,1,1,2,4,7]) (k:=m/50%6) r1 (by show _<(6:Int);exact r2)
  have u0:0<=u/\u<=7:=by simp only[List.mem_cons,List.not_mem_nil,or_false]at hu;rcases hu with rfl|rfl|rfl|rfl|rfl|rfl<;>lia
  clear hu;have cm2:zai u sc:=.inr (.inl (show _<2 ^ 64 by lia));have t0:=Int.mul_nonneg u0.1 (show 0<=sc by lia);have t1:u*sc<=7*10 ^ 20:=Int.mul_le_mul u0.2 sc2 (by lia) (by decide);walk_at"g";refine za4 ?_ (q (f.1+d,zbJ cs (f.1+d)+u*sc) (bx.mono (by decide)) ((Bd.add bF (by show _<2 ^ 192;lia)).mono (by decide)) ((ze6 gr (s:=(f.1+d,zbJ cs (f.1+d)+u*sc)) on).mpr (by show zbJ cs (f.1+d)<=zbJ cs (f.1+d)+u*sc;lia)));show(fl 19 (.str nm)&&true)=true;rw[Bool.and_true];exact hnm
def zcw:DSp:=fun ds S Q=>∃ (c k:Int) (x:D) (cs:List (Int×Int)) (sc h0 h1:Int),ds=[.int c,.int k,x,.int sc,.tup [.int h0,.int h1]]/\Lst S x (cs.map p2)/\Grd cs/\0<=k/\k<100/\1<=sc/\sc<=10 ^ 20/\h0<=h1/\Bd 200 h0/\Bd 200 h1/\∀ F:Fg,FgV F->Q (fgD F) S
abbrev zgl:DS :=
    (zj (zp (dCall zaV (za vr0 (za (dOp zJ vr1 (dC (.int 40))) zf))) gn5)
 (zj (zp (dOp zJ (dOp oIx zcQ ci0) (dOp zag (dOp zap (dOp oMod vr5 (dC (.int 14))) ci2) vr3)) gn6)
 (zj (zp (dOp zag (dOp zap (dOp oMod (dOp oDiv vr5 (dC (.int 14))) (dC (.int 14))) ci3) vr3) gn7)
 (zj (zp (dOp zJ (dOp zap zfi ci3) (dOp oMod (dOp oDiv vr5 (dC (.int 196))) (dOp zJ (dOp zap zmI zfi) ci5))) gn8)
 (zj (zp (dOp zag (dOp oMod (dOp oDiv vr5 (dC (.int 3000))) ci4) vr3) gn9)
 (zj (zp (dOp zag (dOp oMod (dOp oDiv vr5 (dC (.int 12000))) ci4) vr3) zlQ)
 (zj (zp (dOp zag (dOp zap (dOp oMod (dOp oDiv vr5 (dC (.int 48000))) ci5) ci2) vr3) zjn)
 (zy (dTup (za vr6 (za (dOp zJ vr6 vr9) (za vr7 (za (dOp zJ vr7 zho) (za vr8 (za (dOp zJ vr8 (dOp oMod (dOp oDiv vr5 (dC (.int 240000))) ci9)) (za zhU (za (dOp zag (dOp zap (dOp oMod (dOp oDiv vr5 (dC (.int 2160000))) ci3) ci1) vr3) zf)))))))))))))))))
def ziQ:BodyOk 12 zgl zcw:=by
 rintro ds S Q ⟨c,k,x,cs,sc,h0,h1,rfl,hx,gr,k0,k1,sc1,sc2,hh,bh0,bh1,q⟩;unfold zgl;obtain⟨f,hf,ef⟩:=zaO gr;have af:atD (cs.map p2) 0=some (p2 f):=zaY (i:=0) (by rw[List.getElem?_map,hf];rfl);have bf:=(gr.bd f (List.mem_of_getElem? hf)).1;walk_at"g";refine⟨c,_,rfl,by lia,by lia,fun m m0 m1=>?_⟩;have cm:∀ u:Int,u.natAbs<2 ^ 64->zai u sc:=fun u h=>.inr (.inl h)
 have c1:=cm (m%14-2) (by lia);have c2:=cm (m/14%14-3) (by lia);have c3:=cm (m/3000%4) (by lia);have c4:=cm (m/12000%4) (by lia);have c5:=cm (m/48000%5-2) (by lia);have c6:=cm (m/2160000%3-1) (by lia);have hm:0<h1-h0+5:=by lia
 have w1:=Int.mul_nonneg (show 0<=m/3000%4 by lia) (show 0<=sc by lia);have w2:=Int.mul_nonneg (show 0<=m/12000%4 by lia) (show 0<=sc by lia)
 have sb:∀ {u:Int},-100<=u->u<=100->Bd 190 (u*sc):=fun {u} h1 h2=>by show(u*sc).natAbs<2 ^ 190;rw[Int.natAbs_mul];exact Nat.lt_of_le_of_lt (Nat.mul_le_mul (show u.natAbs<=100 by lia) (show sc.natAbs<=10 ^ 20 by lia)) (by decide)
 have b1:Bd 190 ((m%14-2)*sc):=sb (by lia) (by lia);have b2:Bd 190 ((m/14%14-3)*sc):=sb (by lia) (by lia);have b3:Bd 190 (m/3000%4*sc):=sb (by lia) (by lia);have b4:Bd 190 (m/12000%4*sc):=sb (by lia) (by lia);have b5:Bd 190 ((m/48000%5-2)*sc):=sb (by lia) (by lia);have b6:Bd 190 ((m/2160000%3-1)*sc):=sb (by lia) (by lia);walk_at"g";have r0:=Int.emod_nonneg (m/196) (show h1-h0+5≠0 by lia);have r1:=Int.emod_lt_of_pos (m/196) hm
 have bl:Bd 300 (h0-3+m/196%(h1-h0+5)):=by
  have:Bd 201 (h0-3+m/196%(h1-h0+5)):=by unfold Bd at bh0 bh1 ⊢;lia
  exact this.mono (by decide)
 have aD:∀ {a b:Int},Bd 190 a->Bd 190 b->Bd 600 (a+b):=fun h1 h2=>(Bd.add h1 h2).mono (by decide)
 have bl0:Bd 191 (f.1+(m%14-2)*sc):=Bd.add (bf.mono (by decide)) b1;refine fin_same (q ⟨f.1+(m%14-2)*sc,f.1+(m%14-2)*sc+m/3000%4*sc,(m/14%14-3)*sc,(m/14%14-3)*sc+m/12000%4*sc,h0-3+m/196%(h1-h0+5),h0-3+m/196%(h1-h0+5)+m/240000%9,(m/48000%5-2)*sc,(m/2160000%3-1)*sc⟩ ⟨⟨by dsimp only;lia,by dsimp only;lia,bl0.mono (by decide),(Bd.add bl0 (b3.mono (by decide))).mono (by decide),b2.mono (by decide),aD b2 b4,b5.mono (by decide),b6.mono (by decide)⟩,by dsimp only;lia,bl,?_⟩);show Bd 300 (h0-3+m/196%(h1-h0+5)+m/240000%9)
 have:Bd 202 (h0-3+m/196%(h1-h0+5)+m/240000%9):=by unfold Bd at bh0 bh1 ⊢;lia
 exact this.mono (by decide)
def scl (c:Int):Int:=if c%3=2 then 10 ^ 20 else 1
def zrv (c:Int):1<=scl c/\scl c<=10 ^ 20:=by unfold scl;split<;>decide
def zpY (c:Int):atD [.int 1,.int 1,.int 100000000000000000000] (c%3)=some (.int (scl c)):=by
  have h:c%3=0\/c%3=1\/c%3=2:=by lia
  unfold scl;rcases h with e|e|e<;>rw[e]<;>rfl
def zeb (b:Int)(k:Nat):(zR b k).cps.toList=(stemOf b).cps.toList++[97+((b/4+7*(k:Int))%26).toNat]:=by show((stemOf b).cps++#[97+((b/4+7*(k:Int))%26).toNat]).toList=_;simp
def zlp (b:Int):∀ c∈(stemOf b).cps.toList,c∈abc:=by
  unfold stemOf;split
  . decide +kernel
  . split
    . decide +kernel
    . split<;>decide +kernel
def zot (b:Int)(k:Nat):nmB (zR b k)=true:=by
 have h1:=ze9 b
 have e:(zR b k).length=(stemOf b).length+1:=by show((stemOf b).cps++#[97+((b/4+7*(k:Int))%26).toNat]).size=(stemOf b).cps.size+1;simp
 rw[zf4,e];refine⟨by lia,by lia,fun c hc=>?_⟩;rw[zeb]at hc;rcases List.mem_append.mp hc with hc|hc
 ·exact zlp b c hc
 ·rw[List.mem_singleton.mp hc];exact ziA.mpr (by lia)
def zl1 {b:Int}{i j:Nat}(hi:i<14)(hj:j<14)(e:zR b i=zR b j):i=j:=by
 have h:(zR b i).cps.toList=(zR b j).cps.toList:=congrArg (fun z:Str=>z.cps.toList) e;rw[zeb,zeb]at h;have h2:=List.append_cancel_left h;have h3:97+((b/4+7*(i:Int))%26).toNat=97+((b/4+7*(j:Int))%26).toNat:=by simpa using h2
 omega
def zcK:DSp:=fun ds S Q=>∃ (ns:List Int),ds=[.rl (ns.map D.int)]/\ns.length<=63/\∀ (T:Sto) (x y z:D) (V:Vl),VlT V->Bd 150 V.h0->Bd 150 V.h1->V.bs.length<=6->V.fs.length<=4->VlS (S++T) x y z V->Q (vlD x y z V) (S++T)
abbrev zeJ:DS :=
    (zj (zp (dCall zaQ (za vr0 (za ci0 zf))) gn1)
 (zj (zp (dCall zaQ (za vr0 (za ci1 zf))) gn2)
 (zj (zp (dCall zaQ (za vr0 (za ci2 zf))) gn3)
 (zj (zp (dCall zcl (za vr0 (za ci3 (za (dC (.int 18)) zf)))) gn4)
 (zj (zp (dOp oIx (zaG (za ci1 (za ci1 (za (dC (.int 100000000000000000000)) zf)))) (dOp oMod vr1 ci3)) gn5)
 (zj (zp (dOp oIx (zaG (za ci0 (za ci7 (za (dUn zaj (dC (.int 1000000000000000000000000000000))) zf)))) (dOp oMod (dOp oDiv vr1 ci3) ci3)) gn6)
 (zj (zp (dTup (za vr6 (za (dOp zJ vr6 (dOp oMod (dOp oDiv vr1 ci9) (dC (.int 12)))) zf))) gn7)
 (zj (zp (dCall zbz (za vr4 (za (dOp zJ ci3 (dOp oMod (dOp oDiv vr1 (dC (.int 540))) ci6)) ua5))) gn8)
 (zj (zp (dCall zbK (za (dOp oDiv vr2 (dC (.int 30))) zf)) gn9)
 (zj (zp (dLC 1 [4,8,5,9] (zbm (za (dOp zJ ci1 (dOp oMod vr2 ci6)) zf)) gn0 zan (dCall zbt (za (dOp oIx vr1 (dOp zJ ci8 vr0)) (za vr0 (za vr2 (za vr3 (za (dOp oIx vr4 vr0) zf))))))) zlQ)
 (zj (zp (dLC 1 [4,8,5,7] (zbm (za (dOp oMod (dOp oDiv vr2 ci6) ci5) zf)) gn0 zan (dCall zcw (za (dOp oIx vr1 (dOp zJ (dC (.int 14)) (dOp oMod vr0 ci4))) (za vr0 (za vr2 (za vr3 ua4)))))) zjn)
 (zj (zp (dC .non) zi3)
 (zj (sJ (sIf (dT (dOp oEq (dOp oMod vr3 ci2) ci1)) (zp (dOp zag (dOp zag (dOp oMod (dOp oDiv vr3 ci2) (dC (.int 25))) vr5) (dOp zag (dOp oMod (dOp oDiv vr3 ci2) (dC (.int 25))) vr5)) zi3) zu))
 (zy (dTup (za vr8 (za zho (za zhU (za zqe (za zjL (za zi4 (za (dOp oIx (zaG (za ci0 (za ci1 (za ci1 (za ci2 (za ci5 zf)))))) (dOp oMod (dOp oDiv vr1 (dC (.int 108))) ci5)) zf))))))))))))))))))))))
def zhN:BodyOk 13 zeJ zcK:=by
  rintro ds S Q ⟨ns,rfl,hl,q⟩;unfold zeJ;walk_at"g";refine⟨ns,0,rfl,?_⟩;walk_at"g";refine⟨ns,1,rfl,?_⟩;walk_at"g";refine⟨ns,2,rfl,?_⟩;obtain⟨sb1,sb2⟩:=zrv (ns.getD 0 0);have asc:=zpY (ns.getD 0 0);generalize hsc:scl (ns.getD 0 0)=sc at sb1 sb2 asc q;generalize ns.getD 0 0=c0 at asc;generalize ns.getD 1 0=c1;generalize ns.getD 2 0=c2;walk_at"g";refine⟨ns,_,_,rfl,hl,by decide,by decide,by decide,fun cells hcl=>?_⟩;have r1:=Int.emod_nonneg (c0/3) (show(3:Int)≠0 by decide);have r2:=Int.emod_lt_of_pos (c0/3) (show(0:Int)<3 by decide);obtain⟨fh,mfh,afh⟩:=zbI (zs:=[0,7,-1000000000000000000000000000000]) (k:=c0/3%3) r1 (by show _<(3:Int);exact r2)
  have bfh:Bd 150 fh/\Bd 150 (fh+c0/9%12):=by
    have:fh=0\/fh=7\/fh=-1000000000000000000000000000000:=by simpa using mfh
    have h9:0<=c0/9%12/\c0/9%12<12:=by lia
    constructor
    . show fh.natAbs<2 ^ 150;rcases this with rfl|rfl|rfl<;>decide
    . show(fh+c0/9%12).natAbs<2 ^ 150;have:(2:Nat) ^ 150=1427247692705959881058285969449495136382746624:=by decide
      rw[this];lia
  walk_at"g";walk_at"h";obtain⟨Sg,hSg⟩:∃ Sg:Sto,Sg=S++[Cell.lst (cells.map D.int),.lst [.int 1,.int 1,.int 100000000000000000000],.lst [.int 0,.int 7,.int (-1000000000000000000000000000000)]]:=⟨_,rfl⟩
  have kg:Lst Sg (.ref S.length) (cells.map D.int):=hSg▸Lst.at0;rw[<- hSg];refine⟨_,cells,_,sc,rfl,kg,by lia,by lia,by lia,sb1,sb2,fun cs gr hcn near=>?_⟩;have g9:cs.length<=9:=by lia
  unfold New;obtain⟨S1,hS1⟩:∃ S1:Sto,S1=Sg++[.lst (cs.map p2)]:=⟨_,rfl⟩
  have kc:Lst S1 (.ref Sg.length) (cs.map p2):=hS1▸Lst.at0;have kg1:Lst S1 (.ref S.length) (cells.map D.int):=hS1▸kg.old;rw[<- hS1];walk_at"g";refine⟨_,rfl,fun gb=>?_⟩;obtain⟨S2,hS2⟩:∃ S2:Sto,S2=S1++[gb,.lst ((List.range 14).map fun k=>.str (zR (c1/30) k))]:=⟨_,rfl⟩
  have kn:Lst S2 (.ref (S1.length+1)) ((List.range 14).map fun k=>.str (zR (c1/30) k)):=hS2▸Lst.at rfl;have kc2:Lst S2 (.ref Sg.length) (cs.map p2):=hS2▸kc.old;have kg2:Lst S2 (.ref S.length) (cells.map D.int):=hS2▸kg1.old;rw[<- hS2];have b0:=Int.emod_nonneg c1 (show(6:Int)≠0 by decide);have b1:=Int.emod_lt_of_pos c1 (show(0:Int)<6 by decide);walk_at"g";refine⟨_,rfl,by lia,by lia,?_⟩;refine zgM (fun i ys S'=>S'=S2/\∃ bs:List (Str×(Int×Int)),ys=bs.map bcD/\bs.length=i/\(∀ b∈bs,zbw cs b.2/\Bd 175 b.2.1/\Bd 195 b.2.2)/\∀ (j:Nat) b,bs[j]?=some b->b.1=zR (c1/30) j) ⟨rfl,[],rfl,rfl,by simp,fun j b h=>by simp at h⟩ (fun _ _ _ _=>True.intro) (by rw[zao];unfold big;lia) ?_ ?_
  . rintro i d ys S' hd ⟨rfl,bs,rfl,hbl,hbs,hnm⟩;obtain⟨hi,rfl⟩:=zaM hd;obtain⟨v,_,av⟩:=zbI (zs:=cells) (k:=8+(0+(i:Int))) (by lia) (by lia)
    have an:atD ((List.range 14).map fun k=>D.str (zR (c1/30) k)) (0+(i:Int))=some (.str (zR (c1/30) i)):=by rw[show(0:Int)+(i:Int)=(i:Int) by lia];exact zaY (by rw[List.getElem?_map,List.getElem?_range (by lia)];rfl)
    walk_at"g";refine⟨v,_,_,cs,sc,_,rfl,kc2,gr,by lia,by lia,sb1,sb2,ziV _ _,fun s s1 s2 ss=>?_⟩;walk_at"g";refine⟨rfl,bs++[(zR (c1/30) i,s)],by rw[List.map_append];rfl,by simp[hbl],fun b hb=>?_,fun j b hb=>?_⟩
    . rcases List.mem_append.mp hb with h|h
      . exact hbs b h
      . have:b=(zR (c1/30) i,s):=by simpa using h
        subst this;exact⟨ss,s1,s2⟩
    . rcases Nat.lt_or_ge j bs.length with g|g
      . rw[List.getElem?_append_left g]at hb;exact hnm j b hb
      . have lj:=zV hb;rw[List.length_append]at lj;have ej:j=bs.length:=by simp at lj;lia
        subst ej;rw[List.getElem?_append_right (Nat.le_refl _),Nat.sub_self]at hb;have:(zR (c1/30) i,s)=b:=by simpa using hb
        rw[<- this,hbl]
  rintro ys S' ⟨rfl,bs,rfl,hbl,hbs,hnm⟩;rw[zao]at hbl;unfold New;obtain⟨S3,hS3⟩:∃ S3:Sto,S3=S'++[.lst (bs.map bcD)]:=⟨_,rfl⟩
  have kb:Lst S3 (.ref S'.length) (bs.map bcD):=hS3▸Lst.at0;have kc3:Lst S3 (.ref Sg.length) (cs.map p2):=hS3▸kc2.old;have kg3:Lst S3 (.ref S.length) (cells.map D.int):=hS3▸kg2.old;rw[<- hS3];walk_at"g";refine⟨_,rfl,by lia,by lia,?_⟩;refine zgM (fun i ys S'=>S'=S3/\∃ fs:List Fg,ys=fs.map fgD/\fs.length=i/\∀ F∈fs,FgV F) ⟨rfl,[],rfl,rfl,by simp⟩ (fun _ _ _ _=>True.intro) (by rw[zao];unfold big;lia) ?_ ?_
  . rintro i d ys S'' hd ⟨rfl,fs,rfl,hfl,hfs⟩;obtain⟨hi,rfl⟩:=zaM hd;obtain⟨v,_,av⟩:=zbI (zs:=cells) (k:=14+(0+(i:Int))%4) (by lia) (by lia);walk_at"g";refine⟨v,_,_,cs,sc,fh,_,rfl,kc3,gr,by lia,by lia,sb1,sb2,by lia,bfh.1.mono (by decide),bfh.2.mono (by decide),fun F hF=>?_⟩;walk_at"g";refine⟨rfl,fs++[F],by rw[List.map_append];rfl,by simp[hfl],fun G hG=>?_⟩;rcases List.mem_append.mp hG with h|h
    . exact hfs G h
    . rw[List.mem_singleton.mp h];exact hF
  rintro fsD S'' ⟨rfl,fs,rfl,hfl,hfs⟩;rw[zao]at hfl;unfold New;obtain⟨S4,hS4⟩:∃ S4:Sto,S4=S''++[.lst (fs.map fgD)]:=⟨_,rfl⟩
  have kf:Lst S4 (.ref S''.length) (fs.map fgD):=hS4▸Lst.at0;have kb4:Lst S4 (.ref S'.length) (bs.map bcD):=hS4▸kb.old;have kc4:Lst S4 (.ref Sg.length) (cs.map p2):=hS4▸kc3.old;have e4:∃ T,S4=S++T:=zdb (zdb (zdb (zdb ⟨_,hSg⟩ hS1) hS2) hS3) hS4;rw[<- hS4];clear hS4 hS3 hS2 hS1 hSg;have h25:∀ u:Int,u.natAbs<2 ^ 60->zai u sc:=fun u h=>.inr (.inl (by lia))
  have cm1:=h25 (c2/2%25) (by lia)
  have bz:Bd 200 (c2/2%25*sc):=by have t0:=Int.mul_nonneg (show 0<=c2/2%25 by lia) (show 0<=sc by lia);have t1:c2/2%25*sc<=25*10 ^ 20:=Int.mul_le_mul (by lia) sb2 (by lia) (by decide);show _<2 ^ 200;lia
  have cm2:zai (c2/2%25*sc) (c2/2%25*sc):=.inl ⟨bz.mono (by decide),bz.mono (by decide)⟩;obtain⟨T4,rfl⟩:=e4;have d1:=Int.emod_nonneg (c0/108) (show(5:Int)≠0 by decide);have d2:=Int.emod_lt_of_pos (c0/108) (show(0:Int)<5 by decide);obtain⟨dl,mdl,adl⟩:=zbI (zs:=[0,1,1,2,5]) (k:=c0/108%5) d1 (by show _<(5:Int);exact d2)
  have hdl:0<=dl/\dl<=5:=by
    have:dl=0\/dl=1\/dl=1\/dl=2\/dl=5:=by simpa using mdl
    lia
  have bnd:(bs.map (·.1)).Nodup:=by
    refine List.pairwise_iff_getElem.mpr fun i j hi hj hij e=>?_
    rw[List.length_map]at hi hj;rw[List.getElem_map,List.getElem_map]at e;rw[hnm i _ (List.getElem?_eq_getElem hi),hnm j _ (List.getElem?_eq_getElem hj)]at e;have:=zl1 (by lia) (by lia) e;lia
  have bnm:∀ b∈bs,nmB b.1=true:=fun b hb=>by obtain⟨j,hj,ej⟩:=List.mem_iff_getElem.mp hb;rw[hnm j b (by rw[List.getElem?_eq_getElem hj,ej])];exact zot _ _
  have sm:∀ {x:Int},0<=x->x<=5->Bd 600 x:=fun {x} h1 h2=>(show Bd 3 x by show _<2 ^ 3;lia).mono (by decide)
  have fin:∀ (T:Sto) (hz:Option Int),(∀ z,hz=some z->0<=z/\Bd 600 z)->Q (.tup [.ref Sg.length,.ref S'.length,.ref S''.length,zaJ hz,.int fh,.int (fh+c0/9%12),.int dl]) (S++(T4++T)):=fun T hz hhz=>by
    have ok:zjJ ⟨cs,bs,fs,hz,fh,fh+c0/9%12,dl⟩:={ gr:=gr,b1:=(by show 1<=bs.length;lia),b12:=(by show bs.length<=12;lia),nm:=bnm,nd:=bnd,st:=fun b hb=>(hbs b hb).1,bd:=fun b hb=>⟨(hbs b hb).2.1.mono (by decide),(hbs b hb).2.2.mono (by decide)⟩,f12:=(by show fs.length<=12;lia),fg:=hfs,hz:=fun z e=>(hhz z e).1,hh:=(by show fh<=fh+c0/9%12;lia),b0:=bfh.1.mono (by decide),bl:=bfh.2.mono (by decide),dl:=hdl.1 }
    exact q (T4++T) _ _ _ ⟨cs,bs,fs,hz,fh,fh+c0/9%12,dl⟩ ⟨ok,fun z e=>(hhz z e).2,sm hdl.1 hdl.2⟩ bfh.1 bfh.2 (by show bs.length<=6;lia) (by show fs.length<=4;lia) ⟨by rw[<- List.append_assoc];exact kc4.old,by rw[<- List.append_assoc];exact kb4.old,by rw[<- List.append_assoc];exact kf.old⟩
  walk_at"g";refine r_J (fun Z S5=>S5=S++T4/\∃ hz:Option Int,(∀ z,hz=some z->0<=z/\Bd 600 z)/\Z=[some (.rl (ns.map D.int)),some (.int c0),some (.int c1),some (.int c2),some (.ref S.length),some (.int sc),some (.int fh),some (.tup [.int fh,.int (fh+c0/9%12)]),some (.ref Sg.length),some (.ref (S1.length+1)),some (.ref S'.length),some (.ref S''.length),some (zaJ hz)]) ?_ ?_
  . walk_at"g";refine r_d (fun _=>?_) (fun _=>?_)
    . walk_at"g";refine⟨rfl,some (c2/2%25*sc*(c2/2%25*sc)),fun z e=>?_,rfl⟩;have e':=Option.some.inj e;rw[<- e'];have t0:=Int.mul_nonneg (show 0<=c2/2%25 by lia) (show 0<=sc by lia);exact⟨Int.mul_nonneg t0 t0,(Bd.mul bz bz).mono (by decide)⟩
    . walk_at"g";exact⟨rfl,none,(fun z e=>by cases e),rfl⟩
  rintro Z S5 ⟨rfl,hz,hhz,rfl⟩;walk_at"g";exact fin_same (fin _ _ hhz)
def zqJ (F:Fg):List Int:=[F.x0,F.x1,F.z0,F.z1,F.f,F.l,F.g,F.s]
def zhC (V:Vl):VKc:=⟨V.cs,V.hz,V.h0,V.h1,V.dl⟩
def zax.mk3 {V:Vl}{bs:List (Str×(Int×Int))}{gs:List (List Int)}(ok:zjJ V)(b1:1<=bs.length)(b12:bs.length<=12)(g12:gs.length<=12)(nm:∀ b∈bs,nmB b.1=true)(nd:(bs.map (·.1)).Nodup)(sd:∀ b∈bs,zbw V.cs b.2)(bd:∀ b∈bs,Bd 180 b.2.1/\Bd 200 b.2.2)(fg:∀ l∈gs,zba l=true):zax (zhC V) (bs,gs):=by
 refine⟨.inr ⟨by show ¬ (bs.length<1\/12<bs.length\/12<gs.length);lia,.inr ⟨fun z hz=>?_,.inr ⟨nd,.inr ⟨sd,.inr ⟨fg,.inr ⟨?_,rfl⟩⟩⟩⟩⟩⟩,by show bs.length<=100;lia,by show gs.length<=100;lia,fun l hl=>?_,bd,fun z hz=>?_⟩
 ·obtain⟨b,hb,rfl⟩:=List.mem_map.mp hz;exact nm b hb
 ·rintro(h|h|⟨z,h,hz⟩)
  ·have:=ok.hh;have h:V.h1<V.h0:=h;lia
  ·have:=ok.dl;have h:V.dl<0:=h;lia
  ·have:=ok.hz z h;lia
 ·have:l.length=8:=by
   apply Classical.byContradiction;intro n;have:=fg l hl;rw[ze3 n]at this;cases this
  lia
 ·obtain⟨b,hb,rfl⟩:=List.mem_map.mp hz;have:=(zf4.mp (nm b hb)).2.1;lia
def zqx {F:Fg}(h:FgV F):zba (zqJ F)=true:=by show(decide (F.x0<=F.x1)&&(decide (F.z0<=F.z1)&&decide (F.f<=F.l)))=true;rw[decide_eq_true h.b.x,decide_eq_true h.b.z,decide_eq_true h.o];rfl
def zqh (gr:Grd cs){c:Int×Int}(h:cs[0]?=some c):zbw cs c:=by
 obtain⟨f,hf,ef⟩:=zaO gr;rw[h]at hf;cases hf;obtain⟨z,hz,ez,_⟩:=ze4 gr;have two:=gr.two;have cz:=za5 gr (show 0<cs.length-1 by lia) h hz;refine⟨⟨by rw[ef];show c.1*1<=c.1;lia,by rw[ez];show c.1<=z.1*1;lia⟩,fun a b e=>?_⟩
 match cs,h,two with
 |a0::b0::r,h,_ =>have ha:a0=c:=Option.some.inj h;have hlt:=za5 gr (show 0<1 by lia) (show(a0::b0::r)[0]?=some a0 from rfl) (show(a0::b0::r)[1]?=some b0 from rfl);unfold zdp at e;rw[if_pos (by show c.1<=b0.1*1;rw[<- ha];lia)]at e;have e:=Option.some.inj e;have e1:a0=a:=congrArg Prod.fst e;have e2:b0=b:=congrArg Prod.snd e;rw[<- ha,<- e1,<- e2];unfold hvT hvB;rw[if_pos (by lia),if_pos (by lia)];show a0.2*(b0.1-a0.1)*1+(b0.2-a0.2)*(a0.1-a0.1*1)<=a0.2*((b0.1-a0.1)*1);rw[Int.mul_one,Int.mul_one,Int.mul_one,Int.sub_self,Int.mul_zero,Int.add_zero];exact Int.le_refl _
def nmM (k:Nat):Str:="m"++⟨#[97+k]⟩++"m"
def zkm:∀ k:_root_.Fin 11,nmB (nmM k.val)=true/\atS "abcdefghijk" ((k.val:Nat):Int)=some (97+k.val):=by decide +kernel
def zpf:((List.range 11).map nmM).Nodup:=by decide +kernel
def zjv (f:Int->D):D->D
 |.int i=>f i
 |d=>d
def zc3:DSp:=fun ds S Q=>∃ (V:Vl) (ns:List Int) (x y z:D),ds=[vlD x y z V,.rl (ns.map D.int)]/\zjJ V/\VlS S x y z V/\∀ T bs gs y' z',zax (zhC V) (bs,gs)->Lst (S++T) y' (bs.map bcD)->Lst (S++T) z' (gs.map fgL)->Q (.tup [x,y',z',zaJ V.hz,.int V.h0,.int V.h1,.int V.dl]) (S++T)
abbrev zfD:DS :=
    (zj (zp (dCall zaQ (za vr1 (za ci3 zf))) gn2)
 (zj (zp (dB zbb (za zcv zf)) gn3)
 (zj (zp (dB zbb (za zfJ zf)) gn4)
 (zj (zp (dTup (za (dOp oIx (dOp oIx zaB ci0) ci0) (za (dOp oIx (dOp oIx zaB ci0) ci1) zf))) gn5)
 (zj (sJ (sIf (dT (dOp oEq (dOp oMod vr2 ci8) ci1)) (zp (dLC 1 [5] (zbm (za (dC (.int 11)) zf)) gn0 zan (dTup (za (dOp zJ (dOp zJ (dC (.str "m")) (dOp oIx (dC (.str "abcdefghijk")) vr0)) (dC (.str "m"))) (za zcW (za zfm zf))))) gn3) zu))
 (zj (sJ (sIf (dT (dOp oEq (dOp oMod vr2 ci8) ci2)) (zp (dLC 1 [] (zbm (za (dC (.int 12)) zf)) gn0 zan (dTup (za vr0 (za (dOp zJ vr0 ci1) (za ci0 (za ci3 (za ci0 (za ci9 (za ci0 (za ci0 zf)))))))))) gn4) zu))
 (zy (dOp zJ (dTup (za zaB (za vr3 ua4))) (dSl zbG vr0 (some ci3) none)))))))))
def zh1:BodyOk 6 zfD zc3:=by
 rintro ds S Q ⟨V,ns,x,y,z,rfl,ok,⟨hx,hy,hz⟩,q⟩;unfold zfD;unfold vlD;obtain⟨c0,hc0,ef⟩:=zaO ok.gr;have ac0:atD (V.cs.map p2) 0=some (p2 c0):=zaY (i:=0) (by rw[List.getElem?_map,hc0];rfl);walk_at"g";refine⟨ns,3,rfl,?_⟩;generalize ns.getD 3 0=cell;have hx2:∀ T,Lst (S++T) x (V.cs.map p2):=fun T=>hx.old
 have hz2:∀ T,Lst (S++T) z (V.fs.map fgD):=fun T=>hz.old
 walk_at"g";walk_at"h";obtain⟨bb1,bb2⟩:=ok.gr.bd c0 (List.mem_of_getElem? hc0);obtain⟨G,hG⟩:∃ G:Sto,G=[Cell.lst (V.bs.map bcD),.lst (V.fs.map fgD)]:=⟨_,rfl⟩
 have hb0:Lst (S++G) (.ref S.length) (V.bs.map bcD):=hG▸Lst.at0;have hf0:Lst (S++G) (.ref (S.length+1)) (V.fs.map fgD):=hG▸Lst.at (k:=1) rfl;rw[<- hG];refine r_J (fun Z S'=>∃ (T:Sto) (y':D) (bs:List (Str×(Int×Int))),S'=S++(G++T)/\Lst S' y' (bs.map bcD)/\(1<=bs.length/\bs.length<=12/\(∀ b∈bs,nmB b.1=true)/\(bs.map (·.1)).Nodup/\(∀ b∈bs,zbw V.cs b.2)/\∀ b∈bs,Bd 180 b.2.1/\Bd 200 b.2.2)/\Z=[some (.tup [x,y,z,zaJ V.hz,.int V.h0,.int V.h1,.int V.dl]),some (.rl (ns.map D.int)),some (.int cell),some y',some (.ref (S.length+1)),some (p2 c0)]) ?_ ?_
 ·walk_at"g";refine r_d (fun g=>?_) (fun g=>?_)
  ·walk_at"g";refine⟨11,rfl,by decide,by decide,?_⟩;refine zY (fun _=>true) (zjv fun k=>bcD (nmM k.toNat,c0)) True.intro (by rw[zao];unfold big;decide) (fun i d ys hd hw=>?_) ?_
   ·obtain⟨hi,rfl⟩:=zaM hd;rw[Int.zero_add]at hd ⊢;walk_at"g";refine zm4 (z:="abcdefghijk") (c:=97+i) (by decide +kernel) (zkm ⟨i,hi⟩).2 ?_;walk_at"g";refine zhE (by show 1+1<=big;unfold big;decide) ?_;walk_at"g";refine zhE (by rw[len_app];show 1+1+1<=big;unfold big;decide) ?_;walk_at"g";exact zar hd hw rfl rfl
   rw[filter_true]
   have e:(upto 0 (11:Int).toNat).map (zjv fun k=>bcD (nmM k.toNat,c0))=((List.range 11).map fun k=>(nmM k,c0)).map bcD:=by
    unfold upto;rw[List.map_map,List.map_map];refine List.map_congr_left fun k _=>?_
    show bcD (nmM (0+(k:Int)).toNat,c0)=_;rw[show(0+(k:Int)).toNat=k by lia];rfl
   rw[e];refine zaH ?_;walk_at"g"
   have mb:∀ b∈(List.range 11).map fun k=>(nmM k,c0),∃ k:_root_.Fin 11,b=(nmM k.val,c0):=fun b hb=>by obtain⟨k,hk,rfl⟩:=List.mem_map.mp hb;exact⟨⟨k,List.mem_range.mp hk⟩,rfl⟩
   refine⟨_,_,(List.range 11).map fun k=>(nmM k,c0),rfl,Lst.new,⟨by rw[List.length_map,List.length_range];decide,by rw[List.length_map,List.length_range];decide,fun b hb=>?_,?_,fun b hb=>?_,fun b hb=>?_⟩,rfl⟩
   ·obtain⟨k,rfl⟩:=mb b hb;exact(zkm k).1
   ·rw[List.map_map];exact zpf
   ·obtain⟨k,rfl⟩:=mb b hb;exact zqh ok.gr hc0
   ·obtain⟨k,rfl⟩:=mb b hb;exact⟨bb1.mono (by decide),bb2.mono (by decide)⟩
  ·walk_at"g";refine⟨[],_,V.bs,by rw[List.append_nil],hb0,⟨ok.b1,ok.b12,ok.nm,ok.nd,ok.st,ok.bd⟩,rfl⟩
 rintro Z S' ⟨T,y',bs,rfl,hb,⟨q1,q2,q3,q4,q5,q6⟩,rfl⟩;walk_at"g";refine r_J (fun Z S'=>∃ (T2:Sto) (z':D) (gs:List (List Int)),S'=S++(G++T)++T2/\Lst S' z' (gs.map fgL)/\gs.length<=12/\(∀ l∈gs,zba l=true)/\Z=[some (.tup [x,y,z,zaJ V.hz,.int V.h0,.int V.h1,.int V.dl]),some (.rl (ns.map D.int)),some (.int cell),some y',some z',some (p2 c0)]) ?_ ?_
 ·walk_at"g";refine r_d (fun g=>?_) (fun g=>?_)
  ·walk_at"g";refine⟨12,rfl,by decide,by decide,?_⟩;refine zY (fun _=>true) (zjv fun k=>fgL [k,k+1,0,3,0,9,0,0]) True.intro (by rw[zao];unfold big;decide) (fun i d ys hd hw=>?_) ?_
   ·obtain⟨hi,rfl⟩:=zaM hd;walk_at"g";exact zar hd hw rfl rfl
   rw[filter_true]
   have e:(upto 0 (12:Int).toNat).map (zjv fun k=>fgL [k,k+1,0,3,0,9,0,0])=((List.range 12).map fun k:Nat=>[(k:Int),k+1,0,3,0,9,0,0]).map fgL:=by
    unfold upto;rw[List.map_map,List.map_map];refine List.map_congr_left fun k _=>?_
    show fgL [0+(k:Int),0+(k:Int)+1,0,3,0,9,0,0]=_;rw[Int.zero_add];rfl
   rw[e];refine zaH ?_;walk_at"g";refine⟨_,_,(List.range 12).map fun k:Nat=>[(k:Int),k+1,0,3,0,9,0,0],(List.append_assoc ..).symm,Lst.new,by decide,fun l hl=>?_,rfl⟩;obtain⟨k,hk,rfl⟩:=List.mem_map.mp hl;show(decide ((k:Int)<=k+1)&&(decide ((0:Int)<=3)&&decide ((0:Int)<=9)))=true;rw[decide_eq_true (show(k:Int)<=k+1 by lia)];rfl
  ·walk_at"g";refine⟨[],_,V.fs.map zqJ,by rw[List.append_nil],?_,by rw[List.length_map];exact ok.f12,fun l hl=>?_,rfl⟩
   ·rw[List.map_map,<- List.append_assoc];exact hf0.old
   ·obtain⟨F,hF,rfl⟩:=List.mem_map.mp hl;exact zqx (ok.fg F hF)
 rintro Z S' ⟨T2,z',gs,rfl,hz',g1,g2,rfl⟩;have st:=zax.mk3 ok q1 q2 g1 q3 q4 q5 q6 g2;have hb2:Lst (S++(G++T)++T2) y' (bs.map bcD):=hb.old;walk_at"g";refine zhg (by unfold big;exact Nat.le_of_ble_eq_true rfl) ?_;have q':=q (G++T++T2) bs gs y' z' st (by rw[<- List.append_assoc];exact hb2) (by rw[<- List.append_assoc];exact hz');rw[<- List.append_assoc]at q';exact fin_same q'
def za0:DSp:=fun ds S Q=>∃ (x:D) (cs:List (Int×Int)),ds=[x]/\Lst S x (cs.map p2)/\Grd cs/\Q .non S
abbrev zbE:DS :=
    (zj (sIf (dOr (dT (dOp oLt (dB z8 ua0) ci2)) (dT (dOp oGt (dB z8 ua0) (dC (.int 40))))) zbL zu)
 (zcX (zet (za ci1 (za (dB z8 ua0) zf))) gn1 (sIf (dT (dOp oLe (dOp oIx (dOp oIx vr0 vr1) ci0) (dOp oIx (dOp oIx vr0 (dOp zap vr1 ci1)) ci0))) zbL zu)))
def zdg:BodyOk 2 zbE za0:=by
 rintro ds S Q ⟨x,cs,rfl,hx,g,q⟩;unfold zbE;have g1:=g.two;have g2:=g.most;walk_at"g";rw[List.length_map];refine r_d (fun z=>absurd z (by lia)) (fun _=>?_);walk_at"g";rw[List.length_map];refine r_d (fun z=>absurd z (by lia)) (fun _=>?_);walk_at"g";rw[List.length_map];refine⟨_,_,rfl,?_⟩;refine zb7 (fun i Z S'=>S'=S/\∃ w:Option D,Z=[some x,w]) ⟨rfl,none,rfl⟩ (fun _ _ _ _=>True.intro) ?_ ?_
 ·rintro i d Z S' hd ⟨rfl,w,rfl⟩;obtain⟨hi,rfl⟩:=zaM hd;obtain⟨a,ha,aa⟩:=zct (cs:=cs) (k:=1+(i:Int)) (by lia) (by lia);obtain⟨b,hb,ab⟩:=zct (cs:=cs) (k:=1+(i:Int)-1) (by lia) (by lia);have hlt:=za5 g (show(1+(i:Int)-1).toNat<(1+(i:Int)).toNat by lia) hb ha;walk_at"g";refine r_d (fun z=>absurd z (by lia)) (fun _=>?_);walk_at"g";exact⟨rfl,_,rfl⟩
 ·rintro Z S' ⟨rfl,w,rfl⟩;exact fin_same q
def zbZ:DSp:=fun ds S Q=>∃ (S0:Sto) (x:D) (cs:List (Int×Int)),ds=[.ref S0.length,x]/\S=S0++[.ins "Ground" []]/\Lst S0 x (cs.map p2)/\Grd cs/\Q .non (S0++[.ins "Ground" [("corners",.ref (S0.length+1))],.lst (cs.map p2)])
abbrev zdL:DS :=
    (zj (zaU (dCall za0 ua1))
 (zbs "Ground" "corners" vr0 (dB zbb ua1)))
def zf5:BodyOk 2 zdL zbZ:=by rintro ds S Q ⟨S0,x,cs,rfl,rfl,hx,g,q⟩;unfold zdL;have hx':Lst (S0++[.ins "Ground" []]) x (cs.map p2):=hx.old;walk_at"g";refine⟨x,cs,rfl,hx',g,?_⟩;walk_at"g";refine⟨S0.length,[],rfl,zaz,by decide,?_⟩;rw[zaP];exact fin_same q
def zgs:DSp:=zez "Ground" zbZ
def zaW:zU:=fun ds S Q ex=>∃ (x y:D) (xs ys:List D),ds=[x,y]/\Lst S x xs/\Lst S y ys/\(xs.length<1\/12<xs.length\/12<ys.length->ex "TooMany" S)/\(1<=xs.length->xs.length<=12->ys.length<=12->Q .non S)
abbrev zbN (ex : XR) : DS :=
    (zj (sIf (dOr (dT (dOp oLt (dB z8 ua0) ci1)) (dT (dOp oGt (dB z8 ua0) (dC (.int 12))))) (zaA ex "TooMany") zu)
 (sIf (dT (dOp oGt (dB z8 ua1) (dC (.int 12)))) (zaA ex "TooMany") zu))
def zc9:zM 2 zbN zaW:=by
 rintro ds S Q ex ⟨x,y,xs,ys,rfl,hx,hy,hb,q⟩;unfold zbN;walk_at"g";refine r_d (fun h=>?_) (fun h1=>?_)
 ·walk_at"g";exact hb (by lia)
 walk_at"g";refine r_d (fun h=>?_) (fun h2=>?_)
 ·walk_at"g";exact hb (by lia)
 walk_at"g";refine r_d (fun h=>?_) (fun h3=>?_)
 ·walk_at"g";exact hb (by lia)
 walk_at"g";exact fin_same (q (by lia) (by lia) (by lia))
def zdD:DSp:=fun ds S Q=>∃ z:Str,ds=[.str z]/\z.length<=1000/\Q (.bl (nmB z)) S
abbrev zgk:DS :=
    (zj (sIf (dOr (dT (dOp oLt (dB z8 ua0) ci1)) (dT (dOp oGt (dB z8 ua0) ci8))) (zy (dC (.bl false))) zu)
 (zy (dB zck (za (dLC 1 [] (zaS vr0) gn0 zan (dOp oIn vr0 (dC (.str "abcdefghijklmnopqrstuvwxyz")))) zf))))
def zjN:BodyOk 1 zgk zdD:=by
 rintro ds S Q ⟨z,rfl,hz,q⟩;unfold zgk;have hb:z.length<=big:=by unfold big;lia
 walk_at"g";refine zfh hb ?_;walk_at"g";unfold nmB at q;refine r_d (fun h=>?_) (fun h=>?_)
 ·walk_at"g";rw[decide_eq_false (show ¬ 1<=z.length by lia)]at q;exact fin_same q
 rw[decide_eq_true (show 1<=z.length by lia)]at q;walk_at"g";refine zfh hb ?_;walk_at"g";refine r_d (fun h=>?_) (fun h=>?_)
 ·walk_at"g";rw[decide_eq_false (show ¬ z.length<=8 by lia)]at q;exact fin_same q
 rw[decide_eq_true (show z.length<=8 by lia)]at q;walk_at"g";refine zY (fun _=>true) (onC fun c=>decide (c∈abc)) True.intro (by rw[zge];exact hb) (fun i d ys hd hw=>?_) ?_
 ·obtain⟨c,_,rfl⟩:=zgp hd;walk_at"g";rw[zkc];exact zar hd hw rfl rfl
 rw[filter_true,zgq];walk_at"g";refine zbh Lst.at0 rfl ?_;refine za4 rfl ?_;rw[List.all_map];exact q
theorem zdX:∀ {zs:List Str},¬ zs.Nodup->∃ a b:Nat,∃ z,a<b/\zs[a]?=some z/\zs[b]?=some z
 |[],h=>absurd List.nodup_nil h
 |x::zs,h=>by
  by_cases hx:x∈zs
  ·obtain⟨j,hj,e⟩:=List.mem_iff_getElem.mp hx;exact⟨0,j+1,x,by lia,rfl,by rw[List.getElem?_cons_succ,List.getElem?_eq_getElem hj,e]⟩
  ·obtain⟨a,b,z,h1,h2,h3⟩:=zdX (zs:=zs) fun nd=>h (List.nodup_cons.mpr ⟨hx,nd⟩)
   exact⟨a+1,b+1,z,by lia,by simpa using h2,by simpa using h3⟩
def za8:zU:=fun ds S Q ex=>∃ (x:D) (zs:List Str),ds=[x]/\Lst S x (zs.map D.str)/\zs.length<=100/\(∀ z∈zs,z.length<=1000)/\((¬ ∀ z∈zs,nmB z=true)->∀ T,ex "BadName" (S++T))/\((∀ z∈zs,nmB z=true)->¬ zs.Nodup->∀ T,ex "Twice" (S++T))/\((∀ z∈zs,nmB z=true)->zs.Nodup->Q .non S)
abbrev zcd (ex : XR) : DS :=
    (zj (sIf (zbe (dT (dB zck (za (dLC 1 [] (zaS vr0) gn0 zan (dCall zdD ua0)) zf)))) (zaA ex "BadName") zu)
 (sIf (dT (dOp oLt (dB zfE ua0) (dB z8 ua0))) (zaA ex "Twice") zu))
def zdN:zM 1 zcd za8:=by
 rintro ds S Q ex ⟨x,zs,rfl,hx,hl,hz,h1,h2,q⟩;unfold zcd;walk_at"g";refine zY (fun _=>true) (onS fun z=>.bl (nmB z)) hx (by rw[List.length_map];unfold big;lia) (fun i d ys hd hw=>?_) ?_
 ·obtain⟨z,hzi,rfl⟩:=zox hd;walk_at"g";refine⟨z,rfl,hz z (List.mem_of_getElem? hzi),?_⟩;exact zar hd hw rfl rfl
 rw[filter_true,znF,show zs.map (fun z=>D.bl (nmB z))=(zs.map nmB).map D.bl by rw[List.map_map];rfl];walk_at"g";by_cases hn:∀ z∈zs,nmB z=true
 case neg =>
  refine zbh (b:=false) Lst.at0 ?_ ?_
  ·cases e:(zs.map nmB).all id with
   |false=>rfl
   |true =>rw[List.all_map,List.all_eq_true]at e;exact absurd e hn
  walk_at"g";exact h1 hn _
 refine zbh (b:=true) Lst.at0 (by rw[List.all_map,List.all_eq_true];exact hn) ?_;walk_at"g";refine zjQ (zs:=zs) hx.old (by lia) ?_;have hx1:Lst (S++[Cell.lst ((zs.map nmB).map D.bl)]) x (zs.map D.str):=hx.old;walk_at"g";rw[List.length_map];by_cases nd:zs.Nodup
 case neg =>obtain⟨a,b,z,l,ea,eb⟩:=zdX nd;have:=zhY l ea eb;rw[decide_eq_true (by lia)];walk_at"g";exact h2 hn nd _
 rw[zfz nd,decide_eq_false (show ¬ ((zs.length:Int)<zs.length) by lia)];walk_at"g";exact za4 rfl (q hn nd)
def zcy:DSp:=fun ds S Q=>∃ (a b:Int×Int),ds=[p2 a,p2 b]/\zai a.1 b.2/\zai b.1 a.2/\Q (.bl (flt a b)) S
abbrev zk1:DS :=(zy (dOp oLt (dOp zag zaB zfm) (dOp zag zcW zcv)))
def zos:BodyOk 2 zk1 zcy:=by rintro ds S Q ⟨a,b,rfl,c1,c2,q⟩;unfold zk1;walk_at"g";exact fin_same q
def zdl:DSp:=fun ds S Q=>∃ (g:D) (cs:List (Int×Int)) (p:Int×Int),ds=[g,p2 p]/\GAt S g cs/\Grd cs/\Bd 1000 p.1/\Bd 1000 p.2/\Q (.bl (decide (zgd cs*p.2<=p.1)&&decide (p.1<=zd1 cs*p.2))) S
abbrev ziC:DS :=
    (zj (zp (dTup (za (dOp oIx (dOp oIx (zL "corners" vr0) ci0) ci0) (za ci1 zf))) gn2)
 (zj (zp (dTup (za (dOp oIx (dOp oIx (zL "corners" vr0) (dUn zaj ci1)) ci0) (za ci1 zf))) gn3)
 (zy (zbD (zdn (dCall zcy (za vr1 ua2))) (zdn (dCall zcy (za vr3 ua1)))))))
def zly:BodyOk 4 ziC zdl:=by
 rintro ds S Q ⟨g,cs,p,rfl,⟨n,l,rfl,hn,hl⟩,gr,b1,b2,q⟩;unfold ziC;have g1:=gr.two;obtain⟨a,ha,ea⟩:=zaO gr;obtain⟨z,hz,ez⟩:=zhA gr;have aa:atD (cs.map p2) 0=some (p2 a):=zaY (i:=0) (by rw[List.getElem?_map,ha];rfl)
 have az:atD (cs.map p2) (-1)=some (p2 z):=by
  have hne:cs≠[]:=fun e=>by rw[e]at g1;simp at g1
  have en:cs=cs.dropLast++[z]:=by
   have h2:=List.dropLast_concat_getLast hne
   have h3:cs.getLast hne=z:=by rw[List.getLast_eq_getElem];have hl':=zV hz;rw[List.getElem?_eq_getElem hl']at hz;cases hz;rfl
   rw[h3]at h2;exact h2.symm
  rw[en,List.map_append];exact zhh
 obtain⟨ba,_⟩:=gr.bd a (List.mem_of_getElem? ha);obtain⟨bz,_⟩:=gr.bd z (List.mem_of_getElem? hz);rw[ea,ez]at q;have e1:flt p (a.1,1)=decide (p.1<a.1*p.2):=by unfold flt;dsimp only;rw[Int.mul_one]
 have e2:flt (z.1,1) p=decide (z.1*p.2<p.1):=by unfold flt;dsimp only;rw[Int.mul_one]
 have c1:zai a.1 p.2:=.inl ⟨ba.mono (by decide),b2.mono (by decide)⟩;have c2:zai z.1 p.2:=.inl ⟨bz.mono (by decide),b2.mono (by decide)⟩;have c3:∀ u:Int,zai u 1:=fun u=>.inr (.inr (by decide))
 walk_at"g";refine⟨p,(a.1,1),rfl,c3 _,c1,?_⟩;rw[e1];walk_at"g";refine zea (fun g=>?_) (fun g=>?_)
 ·walk_at"g";refine⟨(z.1,1),p,rfl,c2,c3 _,?_⟩;rw[e2];walk_at"g";rw[decide_eq_true (show a.1*p.2<=p.1 by lia),Bool.true_and]at q;rw[show(!decide (z.1*p.2<p.1))=decide (p.1<=z.1*p.2) by rw[<- decide_not];exact decide_eq_decide.mpr (by lia)];exact fin_same q
 ·rw[decide_eq_false (show ¬ a.1*p.2<=p.1 by lia),Bool.false_and]at q;exact fin_same q
def zbp:DSp:=fun ds S Q=>∃ (t b:Int),ds=[.int t,.int b]/\Q (.int ((Int.gcd t b:Nat):Int)) S
abbrev zcI:DS :=
    (zj (zd6 (dT (dOp oNe vr1 ci0)) (zj (zp (dOp oMod vr0 vr1) gn2)
 (zj (zp vr1 gn0)
 (zp vr2 gn1))))
 (zy (dB zi7 ua0)))
def zeH:BodyOk 3 zcI zbp:=by
 rintro ds S Q ⟨t,b,rfl,q⟩;unfold zcI;refine Dp.zje ?_;refine zqt (fun m Z S'=>S'=S/\∃ (x y:Int) (w:Option D),Z=[some (.int x),some (.int y),w]/\m=y.natAbs/\Int.gcd x y=Int.gcd t b) b.natAbs ⟨rfl,_,_,none,rfl,rfl,rfl⟩ ?_;rintro m Z S' ⟨rfl,x,y,w,rfl,rfl,e⟩;walk_at"g";refine zea (fun h0=>?_) (fun h0=>?_)
 ·refine zjY ?_;refine Dp.zje ?_;refine Dp.zmW ?_;refine Dp.zjb ?_;refine Dp.zdv rfl ?_;refine Dp.zdv rfl ?_;refine zrx h0 ?_;walk_at"g";exact⟨_,zie h0,rfl,_,_,_,rfl,rfl,(zlo x y).trans e⟩
 ·subst h0;rw[Int.gcd_zero]at e;walk_at"g";rw[<- e]at q;exact fin_same q
def zc0:DSp:=fun ds S Q=>∃ (t b:Int),ds=[.int t,.int b]/\b≠0/\Bd 8000 b/\Q (p2 (frT t b,frB t b)) S
abbrev zfd:DS :=
    (zj (zp (dCall zbp (za vr0 ua1)) gn2)
 (zj (sJ (sIf (dT (dOp oLt vr1 ci0)) (zp (dUn zaj vr2) gn2) zu))
 (zy (dTup (za (dOp oDiv vr0 vr2) (za (dOp oDiv vr1 vr2) zf))))))
def zh2:BodyOk 3 zfd zc0:=by
 rintro ds S Q ⟨t,b,rfl,hb,bb,q⟩;unfold zfd;have hgn:=zmS (t:=t) (b:=b) hb;have hgb:=ztY (t:=t) (b:=b) hb bb;walk_at"g";refine⟨t,b,rfl,?_⟩;walk_at"g";refine r_J (fun Z S'=>S'=S/\Z=[some (.int t),some (.int b),some (.int (gd t b))]) ?_ ?_
 ·walk_at"g";refine r_d (fun g=>?_) (fun g=>?_)
  ·have hg:gd t b=-((Int.gcd t b:Nat):Int):=if_pos g;walk_at"g";exact⟨rfl,by rw[hg];rfl⟩
  ·have hg:gd t b=((Int.gcd t b:Nat):Int):=if_neg g;walk_at"g";exact⟨rfl,by rw[hg];rfl⟩
 rintro Z S' ⟨rfl,rfl⟩;refine Dp.zmC ?_;refine Dp.zmH ?_;refine Dp.zhr ?_;refine Dp.zjb ?_;refine Dp.zdv rfl ?_;refine Dp.zdv rfl ?_;refine zjZ ⟨hgn,hgb⟩ ?_;refine Dp.zhr ?_;refine Dp.zjb ?_;refine Dp.zdv rfl ?_;refine Dp.zdv rfl ?_;refine zjZ ⟨hgn,hgb⟩ ?_;walk_at"g";exact fin_same q
def zcG:DSp:=fun ds S Q=>∃ (a b p:Int×Int),ds=[p2 a,p2 b,p2 p]/\b.1≠a.1/\0<p.2/\Bd 180 a.1/\Bd 200 a.2/\Bd 180 b.1/\Bd 200 b.2/\Bd 1000 p.1/\Bd 1000 p.2/\∀ c:Int×Int,Sv c (hvT a b p) (hvB a b p)->Int.gcd c.1 c.2=1->Bd 1400 c.1->Bd 1400 c.2->Q (p2 c) S
def ztT {t b:Int}(hb:b≠0):Sv (frT t b,frB t b) (if 0<b then t else -t) (if 0<b then b else -b):=by
 have h1:=zmj t b;have h2:=znc (t:=t) hb;refine⟨by show 0<frB t b;lia,?_⟩;show frT t b*_=_*frB t b;split
 ·rw[h1,Int.mul_comm]
 ·rw[Int.mul_neg,h1,Int.neg_mul,Int.mul_comm]
abbrev zeR:DS :=
    (zj (zp (dOp zap zcW zaB) gn3)
 (zj (zp (dOp zap zfm zcv) gn4)
 (zj (zp (dOp zJ (dOp zag (dOp zag zcv vr3) zjM) (dOp zag vr4 (dOp zap zcQ (dOp zag zaB zjM)))) gn5)
 (zy (dCall zc0 (za vr5 (za (dOp zag vr3 zjM) zf)))))))
def zhy:BodyOk 6 zeR zcG:=by
 rintro ds S Q ⟨a,b,p,rfl,hne,hp,b1,b2,b3,b4,b5,b6,q⟩;unfold zeR;have r1:Bd 181 (b.1-a.1):=Bd.sub b3 b1;have r2:Bd 201 (b.2-a.2):=Bd.sub b4 b2;have m1:Bd 381 (a.2*(b.1-a.1)):=Bd.mul b2 r1;have m2:Bd 1381 (a.2*(b.1-a.1)*p.2):=Bd.mul m1 b6;have m3:Bd 1180 (a.1*p.2):=Bd.mul b1 b6;have m4:Bd 1181 (p.1-a.1*p.2):=Bd.sub (b5.mono (by decide)) m3;have m5:Bd 1382 ((b.2-a.2)*(p.1-a.1*p.2)):=Bd.mul r2 m4;have m6:Bd 1181 ((b.1-a.1)*p.2):=Bd.mul r1 b6;have bT:Bd 1400 (a.2*(b.1-a.1)*p.2+(b.2-a.2)*(p.1-a.1*p.2)):=(Bd.add (n:=1382) (m2.mono (by decide)) m5).mono (by decide);have c1:zai a.2 (b.1-a.1):=.inl ⟨b2.mono (by decide),r1.mono (by decide)⟩;have c2:zai (a.2*(b.1-a.1)) p.2:=.inl ⟨m1.mono (by decide),b6.mono (by decide)⟩;have c3:zai a.1 p.2:=.inl ⟨b1.mono (by decide),b6.mono (by decide)⟩;have c4:zai (b.2-a.2) (p.1-a.1*p.2):=.inl ⟨r2.mono (by decide),m4.mono (by decide)⟩;have c5:zai (b.1-a.1) p.2:=.inl ⟨r1.mono (by decide),b6.mono (by decide)⟩;walk_at"g";have hr:(b.1-a.1)*p.2≠0:=Int.mul_ne_zero (by lia) (by lia);refine⟨_,_,rfl,hr,m6.mono (by decide),?_⟩;refine fin_same (q _ ?_ (zpV hr) (zrY bT) ((zrK m6).mono (by decide)));have hs:=ztT (t:=a.2*(b.1-a.1)*p.2+(b.2-a.2)*(p.1-a.1*p.2)) hr;unfold hvT hvB;by_cases g:0<b.1-a.1
 ·have:0<(b.1-a.1)*p.2:=Int.mul_pos g hp;rw[if_pos this,if_pos this]at hs;rw[if_pos g,if_pos g];exact hs
 ·have:¬ 0<(b.1-a.1)*p.2:=fun z=>by
   have:=Int.mul_pos (show 0 < -(b.1-a.1) by lia) hp;rw[Int.neg_mul]at this;lia
  rw[if_neg this,if_neg this]at hs;rw[if_neg g,if_neg g];exact hs
def zcE:zU:=fun ds S Q ex=>∃ (g:D) (cs:List (Int×Int)) (p:Int×Int),ds=[g,p2 p]/\GAt S g cs/\Grd cs/\0<p.2/\Bd 1000 p.1/\Bd 1000 p.2/\(¬ OnG cs p->ex "OffGround" S)/\(OnG cs p->∀ a b c:Int×Int,zdp cs p=some (a,b)->Sv c (hvT a b p) (hvB a b p)->0<hvB a b p->Int.gcd c.1 c.2=1->Bd 1400 c.1->Bd 1400 c.2->Q (p2 c) S)
abbrev zeI (ex : XR) : DS :=
    (zj (sIf (zbe (dT (dCall zdl (za vr0 ua1)))) (zaA ex "OffGround") zu)
 (zj (zp (zL "corners" vr0) gn2)
 (zj (zp ci1 gn3)
 (zj (zd6 (dT (dCall zcy (za (dTup (za (dOp oIx (dOp oIx vr2 vr3) ci0) (za ci1 zf))) ua1))) (zi5 3 ci1))
 (zy (dCall zcG (za (dOp oIx vr2 (dOp zap vr3 ci1)) (za (dOp oIx vr2 vr3) ua1))))))))
def zha:zM 4 zeI zcE:=by
 rintro ds S Q ex ⟨g,cs,p,rfl,hg,gr,hp,b1,b2,hx,q⟩;unfold zeI;obtain⟨n,l,rfl,hn,hl⟩:=id hg;walk_at"g";refine⟨_,cs,p,rfl,hg,gr,b1,b2,?_⟩;by_cases on:OnG cs p
 case neg =>
  have e:(decide (zgd cs*p.2<=p.1)&&decide (p.1<=zd1 cs*p.2))=false:=Bool.eq_false_iff.mpr fun z=>on (by rw[Bool.and_eq_true,decide_eq_true_eq,decide_eq_true_eq]at z;exact z)
  rw[e];walk_at"g";exact hx on
 have q:=q on;obtain⟨kk,a,b,ha,hb,hle,hlt⟩:=zfo gr.two on.2;have seg:=seg_at ha hb hle hlt;have hk:=zV hb;rw[decide_eq_true on.1,decide_eq_true on.2,show(true&&true)=true from rfl];walk_at"g";refine zqt (fun m Z S'=>S'=S/\∃ j:Nat,Z=[some (.ref n),some (p2 p),some (.ref l),some (.int ((j:Int)+1))]/\m=kk-j/\j<=kk) kk ⟨rfl,0,rfl,rfl,by lia⟩ ?_;rintro m Z S' ⟨rfl,j,rfl,rfl,hj⟩;obtain⟨c,hc,ac⟩:=zct (cs:=cs) (k:=(j:Int)+1) (by lia) (by lia);have hc':cs[j+1]?=some c:=by rwa[show((j:Int)+1).toNat=j+1 by lia]at hc
 obtain⟨bc,bc2⟩:=gr.bd c (List.mem_of_getElem? hc);have e1:flt (c.1,1) p=decide (c.1*p.2<p.1):=by unfold flt;dsimp only;rw[Int.mul_one]
 walk_at"g";refine⟨(c.1,1),p,rfl,.inl ⟨bc.mono (by decide),b2.mono (by decide)⟩,.inr (.inr (show(1:Int).natAbs<2 ^ 64 by decide)),?_⟩;rw[e1];walk_at"g";refine r_d (fun h=>?_) (fun h=>?_)
 ·walk_at"g"
  have hjk:j<kk:=by
   rcases Nat.lt_or_ge j kk with z|z
   ·exact z
   ·have:j=kk:=by lia
    subst this;rw[hb]at hc';cases hc';lia
  exact⟨kk-(j+1),by lia,rfl,j+1,by simp,rfl,by lia⟩
 ·have hjk:j=kk:=by
   rcases Nat.lt_or_ge j kk with z|z
   ·have:=hlt (j+1) c (by lia) (by lia) hc';lia
   ·lia
  subst hjk;rw[hb]at hc';cases hc'
  have aa:atD (cs.map p2) ((j:Int)+1-1)=some (p2 a):=by rw[show(j:Int)+1-1=(j:Int) by lia];exact zaY (by rw[List.getElem?_map,ha];rfl)
  obtain⟨ba1,ba2⟩:=gr.bd a (List.mem_of_getElem? ha);have hab:=za5 gr (show j<j+1 by lia) ha hb;walk_at"g";refine⟨a,b,p,rfl,by lia,hp,ba1.mono (by decide),ba2.mono (by decide),bc.mono (by decide),bc2.mono (by decide),b1,b2,fun c hs hg d1 d2=>?_⟩;exact fin_same (q a b c seg hs (ziD (by lia) hp) hg d1 d2)
def zd2:DSp:=fun ds S Q=>∃ (g:D) (cs:List (Int×Int)) (s:Int×Int),ds=[g,p2 s]/\GAt S g cs/\Grd cs/\Bd 180 s.1/\Bd 200 s.2/\∀ b:Bool,(b=true↔zbw cs s)->Q (.bl b) S
abbrev zhs:DS :=
    (zj (zp (dTup (za zcW (za ci1 zf))) gn2)
 (zj (sIf (zbe (dT (dCall zdl (za vr0 ua2)))) (zy (dC (.bl false))) zu)
 (zy (zdn (dCall zcy (za (dTup (za zfm (za ci1 zf))) (za (zak zcE xF (za vr0 ua2)) zf)))))))
def zkv:BodyOk 3 zhs zd2:=by
 rintro ds S Q ⟨g,cs,s,rfl,hg,gr,b1,b2,q⟩;unfold zhs;have bo:Bd 1000 (1:Int):=Bd.lit (by decide) (by decide);walk_at"g";refine⟨g,cs,(s.1,1),rfl,hg,gr,b1.mono (by decide),bo,?_⟩;by_cases on:OnG cs (s.1,1)
 case neg =>
  have e:(decide (zgd cs*(s.1,(1:Int)).2<=(s.1,(1:Int)).1)&&decide ((s.1,(1:Int)).1<=zd1 cs*(s.1,(1:Int)).2))=false:=Bool.eq_false_iff.mpr fun z=>on (by rw[Bool.and_eq_true,decide_eq_true_eq,decide_eq_true_eq]at z;exact z)
  rw[e];walk_at"g";exact fin_same (q false ⟨fun z=>(by cases z),fun z=>absurd z.1 on⟩)
 rw[decide_eq_true on.1,decide_eq_true on.2,show(true&&true)=true from rfl];walk_at"g";refine⟨g,cs,(s.1,1),rfl,hg,gr,(show(0:Int)<1 by decide),b1.mono (by decide),bo,fun off=>absurd on off,fun _ a b c seg sv hb hgcd d1 d2=>?_⟩;walk_at"g";refine⟨(s.2,1),c,rfl,.inl ⟨b2.mono (by decide),d2.mono (by decide)⟩,.inr (.inr (show(1:Int).natAbs<2 ^ 64 by decide)),?_⟩;rw[zqj (t:=s.2) (b:=1) (by decide) hb ⟨(show(0:Int)<1 by decide),rfl⟩ sv];walk_at"g";refine fin_same (q _ ?_);rw[Bool.not_eq_true',decide_eq_false_iff_not];constructor
 ·intro h;refine⟨on,fun a' b' seg'=>?_⟩;rw[seg]at seg';cases seg';lia
 ·intro h;have:=h.2 a b seg;lia
noncomputable def zfa (cs:List (Int×Int)) (s:Int×Int):Bool:=@decide (zbw cs s) (Classical.propDecidable _)
def ze1 {cs:List (Int×Int)}{s:Int×Int}:zfa cs s=true↔zbw cs s:=by unfold zfa;exact @decide_eq_true_iff _ (Classical.propDecidable _)
def zbg:zU:=fun ds S Q ex=>∃ (g y:D) (cs:List (Int×Int)) (bs:List (Str×(Int×Int))),ds=[g,y]/\GAt S g cs/\Grd cs/\Lst S y (bs.map bcD)/\bs.length<=100/\(∀ b∈bs,Bd 180 b.2.1/\Bd 200 b.2.2)/\((¬ ∀ b∈bs,zbw cs b.2)->∀ T,ex "OffGround" (S++T))/\((∀ b∈bs,zbw cs b.2)->Q .non S)
abbrev zcs (ex:XR):DS :=(sIf (zbe (dT (dB zck (za (dLC 3 [0] (zaS vr1) (zbW 3 (z9 gn0 (z9 gn1 (z9 gn2 zbP)))) zan (dCall zd2 (za vr3 (za (dTup (za vr1 ua2)) zf)))) zf)))) (zaA ex "OffGround") zu)
def zdU:zM 2 zcs zbg:=by
 rintro ds S Q ex ⟨g,y,cs,bs,rfl,hg,gr,hy,hl,hb,h1,q⟩;unfold zcs;walk_at"g";refine zY (fun _=>true) (zeX fun b=>.bl (zfa cs b.2)) hy (by rw[List.length_map];unfold big;lia) (fun i d ys hd hw=>?_) ?_
 ·obtain⟨b,hbi,rfl⟩:=zbd hd;obtain⟨s2,s3⟩:=hb b (List.mem_of_getElem? hbi);walk_at"g";refine⟨g,cs,b.2,rfl,hg,gr,s2,s3,fun r hr=>?_⟩;have e:r=zfa cs b.2:=by rw[Bool.eq_iff_iff,hr,ze1]
  rw[e];exact zar hd hw rfl rfl
 rw[filter_true,zbU,show bs.map (fun b=>D.bl (zfa cs b.2))=(bs.map fun b=>zfa cs b.2).map D.bl by rw[List.map_map];rfl];walk_at"g";by_cases hn:∀ b∈bs,zbw cs b.2
 case neg =>
  refine zbh (b:=false) Lst.at0 ?_ ?_
  ·cases e:(bs.map fun b=>zfa cs b.2).all id with
   |false=>rfl
   |true =>rw[List.all_map,List.all_eq_true]at e;exact absurd (fun b hb=>ze1.mp (e b hb)) hn
  walk_at"g";exact h1 hn _
 refine zbh (b:=true) Lst.at0 (by rw[List.all_map,List.all_eq_true];exact fun b hb=>ze1.mpr (hn b hb)) ?_;walk_at"g";exact za4 rfl (q hn)
def zc2:DSp:=fun ds S Q=>∃ i:Int,ds=[.int i]/\Q (.bl true) S
abbrev zfn:DS :=(zy (zbD (dB zd5 (za vr0 (za (dC (.ty "int")) zf))) (zdn (dB zd5 (za vr0 (za (dC (.ty "bool")) zf))))))
def zh3:BodyOk 1 zfn zc2:=by rintro ds S Q ⟨i,rfl,q⟩;unfold zfn;walk_at"g";exact fin_same q
def zee:DSp:=fun ds S Q=>∃ l:List Int,ds=[.tup (l.map D.int)]/\l.length<=100/\Q (.bl (zba l)) S
abbrev zhB:DS :=
    (zj (sIf (dOr (zbe (dT (dB zd5 (za vr0 (za (dC (.ty "tuple")) zf))))) (dT (dOp oNe (dB z8 ua0) ci8))) (zy (dC (.bl false))) zu)
 (zj (sIf (zbe (dT (dB zck (za (dLC 1 [] (zaS vr0) gn0 zan (dCall zc2 ua0)) zf)))) (zy (dC (.bl false))) zu)
 (zy (zbD (dOp oLe zaB zcv) (zbD (dOp oLe zfJ zjH) (dOp oLe zi0 zi8))))))
def zkr:BodyOk 1 zhB zee:=by
 rintro ds S Q ⟨l,rfl,hl,q⟩;unfold zhB;walk_at"g";rw[List.length_map];refine zea (fun h=>?_) (fun h=>?_)
 ·walk_at"g";rw[ze3 (by lia)]at q;exact fin_same q
 walk_at"g";refine zY (fun _=>true) (fun _=>.bl true) True.intro (by rw[List.length_map];unfold big;lia) (fun i d ys hd hw=>?_) ?_
 ·obtain⟨z,_,rfl⟩:=zoG hd;walk_at"g";refine⟨z,rfl,?_⟩;exact zar hd hw rfl rfl
 rw[filter_true,List.map_map,show l.map ((fun _=>D.bl true) ∘ D.int)=(l.map fun _=>true).map D.bl by rw[List.map_map];rfl];walk_at"g";refine zbh (b:=true) Lst.at0 (by rw[List.all_map,List.all_eq_true];intro _ _;rfl) ?_
 match l,h with
 |[a,b,c,d,e,f,g,i],_ =>
  walk_at"g";have e1:zba [a,b,c,d,e,f,g,i]=(decide (a<=b)&&(decide (c<=d)&&decide (e<=f))):=rfl;rw[e1]at q;refine r_d (fun h1=>?_) (fun h1=>?_)
  ·walk_at"g";rw[decide_eq_true h1]at q;refine r_d (fun h2=>?_) (fun h2=>?_)
   ·walk_at"g";rw[decide_eq_true h2]at q;exact za4 rfl q
   ·rw[decide_eq_false h2]at q;exact za4 rfl q
  ·rw[decide_eq_false h1]at q;exact za4 rfl q
def zbc:zU:=fun ds S Q ex=>∃ (z:D) (gs:List (List Int)),ds=[z]/\Lst S z (gs.map fgL)/\gs.length<=100/\(∀ l∈gs,l.length<=100)/\((¬ ∀ l∈gs,zba l=true)->∀ T,ex "BadFog" (S++T))/\((∀ l∈gs,zba l=true)->Q .non S)
abbrev zcr (ex:XR):DS :=(sIf (zbe (dT (dB zck (za (dLC 1 [] (zaS vr0) gn0 zan (dCall zee ua0)) zf)))) (zaA ex "BadFog") zu)
def zd4:zM 1 zcr zbc:=by
 rintro ds S Q ex ⟨z,gs,rfl,hz,hl,hll,h1,q⟩;unfold zcr;walk_at"g";refine zY (fun _=>true) (zjF zba) hz (by rw[List.length_map];unfold big;lia) (fun i d ys hd hw=>?_) ?_
 ·obtain⟨l,hli,rfl⟩:=ziE hd;walk_at"g";refine⟨l,rfl,hll l (List.mem_of_getElem? hli),?_⟩;refine zar hd hw rfl ?_;have:=ze2 zba [l];simpa using this.symm
 rw[filter_true,ze2];walk_at"g";by_cases hn:∀ l∈gs,zba l=true
 case neg =>
  refine zbh (b:=false) Lst.at0 ?_ ?_
  ·cases e:(gs.map zba).all id with
   |false=>rfl
   |true =>rw[List.all_map,List.all_eq_true]at e;exact absurd e hn
  walk_at"g";exact h1 hn _
 refine zbh (b:=true) Lst.at0 (by rw[List.all_map,List.all_eq_true];exact hn) ?_;walk_at"g";exact za4 rfl (q hn)
def za9:zU:=fun ds S Q ex=>∃ (hz:Option Int) (a b d:Int),ds=[zaJ hz,.int a,.int b,.int d]/\(zdZ hz a b d->ex "BadHour" S)/\(¬ zdZ hz a b d->Q .non S)
abbrev zb8 (ex : XR) : DS :=
    (zj (sIf (dT (dOp oGt vr1 vr2)) (zaA ex "BadHour") zu)
 (zj (sIf (dT (dOp oLt vr3 ci0)) (zaA ex "BadHour") zu)
 (sIf (zf2 (dT (dOp zgZ vr0 (dC .non))) (dT (dOp oLt vr0 ci0))) (zaA ex "BadHour") zu)))
def zdO:zM 4 zb8 za9:=by
 rintro ds S Q ex ⟨hz,a,b,d,rfl,h1,q⟩;unfold zb8;walk_at"g";refine r_d (fun h=>?_) (fun g1=>?_)
 ·walk_at"g";exact h1 (.inl h)
 walk_at"g";refine r_d (fun h=>?_) (fun g2=>?_)
 ·walk_at"g";exact h1 (.inr (.inl h))
 cases hz with
 |none =>
  walk_at"g";refine fin_same (q ?_);rintro(z|z|⟨z,e,_⟩)
  ·exact g1 z
  ·exact g2 z
  ·cases e
 |some z =>
  unfold zaJ;walk_at"g";refine r_d (fun h=>?_) (fun g3=>?_)
  ·walk_at"g";exact h1 (.inr (.inr ⟨z,rfl,h⟩))
  walk_at"g";refine fin_same (q ?_);rintro(w|w|⟨w,e,l⟩)
  ·exact g1 w
  ·exact g2 w
  ·cases e;exact g3 l
def zbj:zU:=fun ds S Q ex=>∃ (S0:Sto) (g y z:D) (cs:List (Int×Int)) (bs:List (Str×(Int×Int))) (gs:List (List Int)) (hz:Option Int) (a b d:Int),ds=[.ref S0.length,g,y,z,zaJ hz,.int a,.int b,.int d]/\S=S0++[.ins "Valley" []]/\GAt S0 g cs/\Grd cs/\Lst S0 y (bs.map bcD)/\Lst S0 z (gs.map fgL)/\VBd bs gs/\(∀ c,VCl cs bs gs hz a b d (some c)->∀ T,ex c (S0++T))/\(VCl cs bs gs hz a b d none->∀ nms:List D,Q .non (S0++[.ins "Valley" (vF (.ref (S0.length+2)) (.ref (S0.length+4)) (.ref (S0.length+5)) (zaJ hz) (.int a) (.int b) (.int d)),.lst nms,.ins "Ground" [("corners",.ref (S0.length+3))],.lst (cs.map p2),.lst (bs.map bcD),.lst (gs.map fgL)]))
abbrev zdJ (ex : XR) : DS :=
    (zj (zaU (zak zaW ex (za vr2 ua3)))
 (zj (zaU (zak za8 ex (za (dLC 1 [] (zaS vr2) gn0 zan zaB) zf)))
 (zj (zaU (zak zbg ex (za vr1 ua2)))
 (zj (zaU (zak zbc ex ua3))
 (zj (zaU (zak za9 ex (za vr4 (za vr5 (za vr6 ua7)))))
 (zj (zbs "Valley" "ground" vr0 (dCall zgs (za (zL "corners" vr1) zf)))
 (zj (zbs "Valley" "beacons" vr0 (dB zbb ua2))
 (zj (zbs "Valley" "fogs" vr0 (dB zbb ua3))
 (zj (zbs "Valley" "haze" vr0 vr4)
 (zj (zbs "Valley" "first" vr0 vr5)
 (zj (zbs "Valley" "last" vr0 vr6)
 (zbs "Valley" "delay" vr0 vr7))))))))))))
def zgb:zM 8 zdJ zbj:=by
 rintro ds S Q ex ⟨S0,g,y,z,cs,bs,gs,hz,a,b,d,rfl,rfl,hg,gr,hy,hz',bd,qx,q⟩;unfold zdJ;have lb:=bd.lb;have lg:=bd.lg;obtain⟨Sa,hSa⟩:∃ Sa:Sto,Sa=S0++[.ins "Valley" []]:=⟨_,rfl⟩
 have hya:Lst Sa y (bs.map bcD):=hSa▸hy.old;have hza:Lst Sa z (gs.map fgL):=hSa▸hz'.old;rw[<- hSa];walk_at"g";refine⟨y,z,_,_,rfl,hya,hza,fun h=>?_,fun n1 n2 n3=>?_⟩
 ·rw[hSa];refine qx "TooMany" (.inl ⟨?_,rfl⟩) _;rw[List.length_map,List.length_map]at h;exact h
 rw[List.length_map]at n1 n2 n3;have nt:¬ zdR bs gs:=by unfold zdR;lia
 walk_at"g";refine zY (fun _=>true) (zeX fun b=>.str b.1) hya (by rw[List.length_map];unfold big;lia) (fun i d ys hd hw=>?_) ?_
 ·obtain⟨b,_,rfl⟩:=zbd hd;walk_at"g";exact zar hd hw rfl rfl
 rw[filter_true,zbU,show bs.map (fun b=>D.str b.1)=(bs.map (·.1)).map D.str by rw[List.map_map];rfl,hSa];walk_at"g";have as1:∀ T:Sto,S0++[Cell.ins "Valley" [],Cell.lst ((bs.map (·.1)).map D.str)]++T=S0++([Cell.ins "Valley" [],Cell.lst ((bs.map (·.1)).map D.str)]++T):=fun T=>List.append_assoc ..
 refine⟨_,bs.map (·.1),rfl,Lst.at rfl,by rw[List.length_map];lia,bd.ln,fun h T=>?_,fun hn h T=>?_,fun hn nd=>?_⟩
 ·rw[as1];exact qx "BadName" (.inr ⟨nt,.inl ⟨h,rfl⟩⟩) _
 ·rw[as1];exact qx "Twice" (.inr ⟨nt,.inr ⟨hn,.inl ⟨h,rfl⟩⟩⟩) _
 walk_at"g";generalize (bs.map (·.1)).map D.str=nms at as1;refine⟨g,y,cs,bs,rfl,hg.old,gr,hy.old,by lia,bd.bd,fun h T=>?_,fun hs=>?_⟩
 ·rw[as1];exact qx "OffGround" (.inr ⟨nt,.inr ⟨hn,.inr ⟨nd,.inl ⟨h,rfl⟩⟩⟩⟩) _
 walk_at"g";refine⟨z,gs,rfl,hz'.old,by lia,bd.ll,fun h T=>?_,fun hf=>?_⟩
 ·rw[as1];exact qx "BadFog" (.inr ⟨nt,.inr ⟨hn,.inr ⟨nd,.inr ⟨hs,.inl ⟨h,rfl⟩⟩⟩⟩⟩) _
 walk_at"g";refine⟨hz,a,b,d,rfl,fun h=>?_,fun h=>?_⟩
 ·exact qx "BadHour" (.inr ⟨nt,.inr ⟨hn,.inr ⟨nd,.inr ⟨hs,.inr ⟨hf,.inl ⟨h,rfl⟩⟩⟩⟩⟩⟩) _
 have q':=q (.inr ⟨nt,.inr ⟨hn,.inr ⟨nd,.inr ⟨hs,.inr ⟨hf,.inr ⟨h,rfl⟩⟩⟩⟩⟩⟩);obtain⟨gn,gl,rfl,hgn,hgl⟩:=hg;have hgn1:(S0++[.ins "Valley" [],.lst nms])[gn]?=some (.ins "Ground" [("corners",.ref gl)]):=zN hgn;walk_at"g";refine⟨_,_,cs,rfl,rfl,.inr ⟨gl,rfl,zN hgl⟩,gr,⟨rfl,?_⟩⟩;rw[List.append_assoc,show(S0++[Cell.ins "Valley" [],.lst nms]).length=S0.length+2 by simp,show([Cell.ins "Valley" [],.lst nms]:Sto)++[.ins "Ground" [("corners",.ref (S0.length+2+1))],.lst (cs.map p2)]=[.ins "Valley" [],.lst nms,.ins "Ground" [("corners",.ref (S0.length+3))],.lst (cs.map p2)]from rfl];walk_at"g";refine⟨S0.length,[],rfl,zaz,by decide,?_⟩;rw[zaP,zhO];have hy2:∀ T,Lst (S0++T) y (bs.map bcD):=fun T=>hy.old
 have hz2:∀ T,Lst (S0++T) z (gs.map fgL):=fun T=>hz'.old
 walk_at"g";refine⟨S0.length,_,rfl,zaz,by simp,?_⟩;rw[zaP,vp2];walk_at"g";refine⟨S0.length,_,rfl,zaz,by simp,?_⟩;rw[zaP,vp3];walk_at"g";refine⟨S0.length,_,rfl,zaz,by simp,?_⟩;rw[zaP,vp4];walk_at"g";refine⟨S0.length,_,rfl,zaz,by simp,?_⟩;rw[zaP,vp5];walk_at"g";refine⟨S0.length,_,rfl,zaz,by simp,?_⟩;rw[zaP,vp6];walk_at"g";refine⟨S0.length,_,rfl,zaz,by simp,?_⟩;rw[zaP,vp7];exact fin_same (q' nms)
def zcZ:DSp:=fun ds S Q=>∃ (k:VKc) (p:BG) (x y z:D) (a b c d:Unit),ds=[.tup [x,y,z,zaJ k.hz,.int k.h0,.int k.h1,.int k.dl]]/\Lst S x (k.cs.map p2)/\Grd k.cs/\Lst S y (p.1.map bcD)/\Lst S z (p.2.map fgL)/\zax k p/\∀ T n,S.length<=n->VtL (S++T) k n p->Q (.ref n) (S++T)
abbrev zfk:DS :=
    (zj (zp (dCall zgs (za (dB zbb (za zaB zf)) zf)) gn1)
 (zy (zak (zdc "Valley" zbj) xF (za vr1 (za (dB zbb (za zcv zf)) (za (dB zbb (za zfJ zf)) (za zjH (za zi0 (za zi8 (za ztX zf))))))))))
def zid:BodyOk 2 zfk zcZ:=by
 rintro ds S Q ⟨k,p,x,y,z,_,_,_,_,rfl,hx,gr,hy,hz,ok,q⟩;unfold zfk;walk_at"g";refine⟨S++[.lst (k.cs.map p2)],_,k.cs,by simp,rfl,Lst.at0,gr,⟨rfl,?_⟩⟩;obtain⟨Sb,hSb⟩:∃ Sb:Sto,Sb=S++[Cell.lst (k.cs.map p2)]++[.ins "Ground" [("corners",.ref ((S++[Cell.lst (k.cs.map p2)]).length+1))],.lst (k.cs.map p2)]:=⟨_,rfl⟩
 have hg:GAt Sb (.ref (S.length+1)) k.cs:=hSb▸⟨_,_,by rw[show S.length+1=(S++[Cell.lst (k.cs.map p2)]).length by simp],zaz,(zQ _ _ 1).trans rfl⟩;have e1:∃ T,Sb=S++T:=zdb ⟨_,rfl⟩ hSb;have ky1:Lst Sb y (p.1.map bcD):=by obtain⟨T,rfl⟩:=e1;exact hy.old
 have kz1:Lst Sb z (p.2.map fgL):=by obtain⟨T,rfl⟩:=e1;exact hz.old
 rw[<- hSb];clear hSb;walk_at"g";have kz2:Lst (Sb++[.lst (p.1.map bcD)]) z (p.2.map fgL):=kz1.old;walk_at"g";refine⟨Sb++[.lst (p.1.map bcD),.lst (p.2.map fgL)],_,_,_,k.cs,p.1,p.2,k.hz,k.h0,k.h1,k.dl,by simp,rfl,hg.old,gr,Lst.at0,Lst.at (k:=1) rfl,ok.bd,fun c hc T=>(ok.cl.no hc).elim,fun hc nms=>⟨rfl,?_⟩⟩;obtain⟨T1,rfl⟩:=e1;have:=q (T1++[Cell.lst (p.1.map bcD),.lst (p.2.map fgL)]++[.ins "Valley" (vF (.ref ((S++T1++[Cell.lst (p.1.map bcD),.lst (p.2.map fgL)]).length+2)) (.ref ((S++T1++[Cell.lst (p.1.map bcD),.lst (p.2.map fgL)]).length+4)) (.ref ((S++T1++[Cell.lst (p.1.map bcD),.lst (p.2.map fgL)]).length+5)) (zaJ k.hz) (.int k.h0) (.int k.h1) (.int k.dl)),.lst nms,.ins "Ground" [("corners",.ref ((S++T1++[Cell.lst (p.1.map bcD),.lst (p.2.map fgL)]).length+3))],.lst (k.cs.map p2),.lst (p.1.map bcD),.lst (p.2.map fgL)]) (S++T1++[Cell.lst (p.1.map bcD),.lst (p.2.map fgL)]).length (by simp) ?_
 ·rw[<- List.append_assoc,<- List.append_assoc]at this;exact fin_same this
 ·rw[<- List.append_assoc,<- List.append_assoc];exact⟨_,_,_,zaz,⟨_,_,rfl,(zQ _ _ 2).trans rfl,(zQ _ _ 3).trans rfl⟩,(zQ _ _ 4).trans rfl,(zQ _ _ 5).trans rfl⟩
def zbu:zU:=fun ds S Q ex=>∃ (v:Nat) (k:VKc) (p p':BG) (y z:D),ds=[.ref v,y,z]/\VtL S k v p/\Grd k.cs/\Lst S y (p'.1.map bcD)/\Lst S z (p'.2.map fgL)/\VBd p'.1 p'.2/\(∀ c,k.cl p' (some c)->∀ T,ex c (S++T))/\(k.cl p' none->∀ T n,S.length<=n->VtL (S++T) k n p'->Q (.ref n) (S++T))
abbrev zei (ex:XR):DS :=(zy (zak (zdc "Valley" zbj) ex (za (zL "ground" vr0) (za vr1 (za vr2 (za (zL "haze" vr0) (za (zL "first" vr0) (za (zL "last" vr0) (za (zL "delay" vr0) zf)))))))))
def zgG:zM 3 zei zbu:=by rintro ds S Q ex ⟨v,k,p,p',y,z,rfl,hv,gr,hy,hz,bd,qx,q⟩;unfold zei;obtain⟨g,b,f,h1,h2,h3,h4⟩:=hv;walk_at"g";refine⟨S,_,_,_,k.cs,p'.1,p'.2,k.hz,k.h0,k.h1,k.dl,rfl,rfl,h2,gr,hy,hz,bd,fun c hc T=>qx c hc T,fun hc nms=>⟨rfl,?_⟩⟩;exact fin_same (q hc _ S.length (Nat.le_refl _) ⟨_,_,_,zaz,⟨_,_,rfl,(zQ _ _ 2).trans rfl,(zQ _ _ 3).trans rfl⟩,(zQ _ _ 4).trans rfl,(zQ _ _ 5).trans rfl⟩)
def zb4:zU:=fun ds S Q ex=>∃ (v:Nat) (k:VKc) (p:BG),ds=[.ref v]/\VtL S k v p/\Grd k.cs/\zax k p/\∀ T n,S.length<=n->VtL (S++T) k n p->Q (.ref n) (S++T)
abbrev zff (ex:XR):DS :=(zy (zak zbu ex (za vr0 (za (zL "beacons" vr0) (za (zL "fogs" vr0) zf)))))
def zh9:zM 1 zff zb4:=by rintro ds S Q ex ⟨v,k,p,rfl,hv,gr,ok,q⟩;unfold zff;have hv0:=hv;obtain⟨g,b,f,h1,h2,h3,h4⟩:=hv;walk_at"g";refine⟨v,k,p,p,_,_,rfl,hv0,gr,Lst.here h3,Lst.here h4,ok.bd,fun c hc=>(ok.cl.no hc).elim,fun _ T n ln hn=>?_⟩;exact fin_same (q T n ln hn)
def zco:zU:=fun ds S Q ex=>∃ (S0:Sto) (v:Nat) (k:VKc) (p:BG),ds=[.ref S0.length,.ref v]/\S=S0++[.ins "Watch" []]/\VtL S0 k v p/\Grd k.cs/\zax k p/\∀ T l n,S0.length<l->S0.length<n->WAt (S0++T) k S0.length l [n] [p]->Q .non (S0++T)
abbrev zd9 (ex:XR):DS :=(zbs "Watch" "stages" vr0 (zaG (za (zak zb4 ex ua1) zf)))
def zgI:zM 2 zd9 zco:=by
 rintro ds S Q ex ⟨S0,v,k,p,rfl,rfl,hv,gr,ok,q⟩;unfold zd9;walk_at"g";refine⟨v,k,p,rfl,hv.kp Kp.app,gr,ok,fun T n ln hn=>?_⟩;rw[List.append_assoc]at hn ⊢;walk_at"g";refine⟨S0.length,[],rfl,zaz,by decide,?_⟩
 have e:(S0++([Cell.ins "Watch" []]++T++[Cell.lst [D.ref n]])).set S0.length (.ins "Watch" (putD "stages" (.ref (S0.length+([Cell.ins "Watch" []]++T).length)) []))=S0++(Cell.ins "Watch" [("stages",.ref (S0.length+([Cell.ins "Watch" []]++T).length))]::(T++[Cell.lst [D.ref n]])):=by rw[zhO];exact zaP _ _ _ _
 rw[e];have l1:S0.length<n:=by rw[List.length_append]at ln;simp at ln;lia
 refine fin_same (q _ (S0.length+([Cell.ins "Watch" []]++T).length) n (by simp) l1 ⟨zaz,?_,rfl,Nat.one_pos,(by show 1<=100;decide),fun q hq=>by rw[List.mem_singleton.mp hq];exact ok,fun i v p' hv' hp'=>?_⟩)
 ·rw[zQ];show((Cell.ins "Watch" _::T)++[Cell.lst [D.ref n]])[_]?=_;rw[List.getElem?_append_right (by simp)];simp
 ·have hi:=zV hv';have:i=0:=by simp at hi;lia
  subst this;cases hv';cases hp';refine VtL.kp (S:=(S0++([Cell.ins "Watch" []]++T)).set S0.length (.ins "Watch" [("stages",.ref (S0.length+([Cell.ins "Watch" []]++T).length))])) ?_ ?_
  ·obtain⟨g,b,f,h1,h2,h3,h4⟩:=hn;obtain⟨gn,gl,e1,h5,h6⟩:=h2
   have sv:∀ {x:Nat} {c:Cell},c≠.ins "Watch" []->(S0++([Cell.ins "Watch" []]++T))[x]?=some c->((S0++([Cell.ins "Watch" []]++T)).set S0.length (.ins "Watch" [("stages",.ref (S0.length+([Cell.ins "Watch" []]++T).length))]))[x]?=some c:=fun {x c} nc h=>by
    by_cases e:S0.length=x
    ·subst e;exact absurd (Option.some.inj (h.symm.trans zaz)) nc
    ·rw[List.getElem?_set_ne e];exact h
   exact⟨g,b,f,sv (by simp) h1,⟨gn,gl,e1,sv (by simp) h5,sv (by simp) h6⟩,sv (by simp) h3,sv (by simp) h4⟩
  ·have e2:(S0++([Cell.ins "Watch" []]++T)).set S0.length (.ins "Watch" [("stages",.ref (S0.length+([Cell.ins "Watch" []]++T).length))])=S0++(Cell.ins "Watch" [("stages",.ref (S0.length+([Cell.ins "Watch" []]++T).length))]::T):=zaP _ _ _ _;rw[e2,show S0++(Cell.ins "Watch" [("stages",.ref (S0.length+([Cell.ins "Watch" []]++T).length))]::(T++[Cell.lst [D.ref n]]))=S0++(Cell.ins "Watch" [("stages",.ref (S0.length+([Cell.ins "Watch" []]++T).length))]::T)++[Cell.lst [D.ref n]] by simp];exact Kp.app
def zas:zU:=fun ds S Q ex=>∃ (w l:Nat) (k:VKc) (vs:List Nat) (st:List BG) (p:BG),ds=[.ref w]/\WAt S k w l vs st/\Grd k.cs/\st.getLast?=some p/\∀ T n,S.length<=n->VtL (S++T) k n p->Q (.ref n) (S++T)
abbrev zcb (ex:XR):DS :=(zy (zak zb4 ex (za (dOp oIx (zL "stages" vr0) (dUn zaj ci1)) zf)))
def zdP:zM 1 zcb zas:=by rintro ds S Q ex ⟨w,l,k,vs,st,p,rfl,W,gr,hp,q⟩;unfold zcb;obtain⟨v,hv,hat,hvt,ok⟩:=W.last hp;have hw:=W.w;have hl:Lst S (.ref l) (vs.map D.ref):=Lst.here W.l;walk_at"g";exact⟨v,k,p,rfl,hvt,gr,ok,fun T n ln hn=>fin_same (q T n ln hn)⟩
def zkM {zs:List Str}{k:Int}(h0:0<=k)(h:k<zs.length):∃ z,z∈zs/\atD (zs.map D.str) k=some (.str z):=by
 obtain⟨j,rfl⟩:=Int.eq_ofNat_of_zero_le h0;have hj:j<zs.length:=by lia
 exact⟨zs[j],List.getElem_mem hj,zaY (by rw[List.getElem?_map,List.getElem?_eq_getElem hj];rfl)⟩
def zrb:∀ z∈(["","Ab","a b","abcdefghi","x1"]:List Str),fl 20 (.str z)=true/\z.length<=100:=by decide +kernel
def zc8:DSp:=fun ds S Q=>∃ (c k:Int) (x y z n hz dl:D) (cs:List (Int×Int)) (h0 h1:Int) (bb:Int),ds=[.int c,.int k,.tup [x,y,z,hz,.int h0,.int h1,dl],n]/\Lst S x (cs.map p2)/\Grd cs/\h0<=h1/\Bd 150 h0/\Bd 150 h1/\Lst S n ((List.range 14).map fun k=>.str (zR bb k))/\0<=k/\k<60/\∀ T d,zjq d->Q (ddD d) (S++T)
abbrev zfu:DS :=
    (zj (zp (dCall zaV (za vr0 ua1)) gn4)
 (zj (zp (dOp oIx (zaG (za ci1 (za (dC (.int 100000000000000000000)) zf))) (dB zef (za (dOp oGe (dOp zap (dOp oIx (dOp oIx zcQ ci1) ci0) (dOp oIx (dOp oIx zcQ ci0) ci0)) (dC (.int 100000000000000000000))) zf))) gn5)
 (zj (zp (dCall zbt (za vr0 (za vr1 (za zcQ (za vr5 (za (dOp oIx vr3 (dOp oMod (dOp oDiv vr4 (dC (.int 16))) (dC (.int 14)))) zf)))))) gn6)
 (zj (sJ (sIf (dT (dOp oEq (dOp oMod (dOp oDiv vr4 (dC (.int 224))) ci8) ci0)) (zp (dTup (za (dOp oIx (zaG (za (dC (.str "")) (za (dC (.str "Ab")) (za (dC (.str "a b")) (za (dC (.str "abcdefghi")) (za (dC (.str "x1")) zf)))))) (dOp oMod (dOp oDiv vr4 (dC (.int 1792))) ci5)) (za zm6 (za zmv zf)))) gn6) zu))
 (zj (sJ (sIf (dT (dOp oEq (dOp oMod (dOp oDiv vr4 (dC (.int 224))) ci8) ci1)) (zp (dTup (za zgL (za (dOp zJ zm6 (dOp oIx (zaG (za ci0 (za (dC (.int 10000000000000000000000000)) (za (dUn zaj (dC (.int 10000000000000000000000000))) zf)))) (dOp oMod (dOp oDiv vr4 (dC (.int 1792))) ci3))) (za (dOp zap zmv (dOp zag (dC (.int 40)) vr5)) zf)))) gn6) zu))
 (zj (zp (dCall zcw (za vr0 (za vr1 (za zcQ (za vr5 (za (dTup (za zt2 (za zsu zf))) zf)))))) gn7)
 (zj (sJ (sIf (dT (dOp oEq (dOp oMod (dOp oDiv vr4 (dC (.int 224))) ci5) ci0)) (zj (zp (dOp zag (dOp oMod (dOp oDiv vr4 (dC (.int 1792))) ci3) ci2) gn8)
 (zp (dOp zJ (dOp zJ (dSl zbG vr7 none (some vr8)) (dTup (za (dOp zJ (dOp oIx vr7 (dOp zJ vr8 ci1)) ci1) zf))) (dSl zbG vr7 (some (dOp zJ vr8 ci1)) none)) gn7)) zu))
 (zj (zp (dOp oIx (zaG (za (dC (.str "build")) (za (dC (.str "build")) (za (dC (.str "raze")) (za (dC (.str "raise")) (za (dC (.str "foretell")) (za (dC (.str "foretell")) (za (dC (.str "lift")) (za (dC (.str "back")) zf))))))))) (dOp oMod vr4 ci8)) gn9)
 (zy (dTup (za vr9 (za vr6 (za vr7 (za (dOp zap (dOp oMod (dOp oDiv vr4 (dC (.int 1792))) (dC (.int 14))) ci1) zf))))))))))))))
def zh5:BodyOk 10 zfu zc8:=by
  rintro ds S Q ⟨c,k,x,y,z,n,hz,dl,cs,h0,h1,bb,rfl,hx,gr,hh,bh0,bh1,hn,k0,k1,q⟩;unfold zfu;have two:=gr.two;obtain⟨c0,hc0,ac0⟩:=zct (cs:=cs) (k:=0) (by lia) (by lia);obtain⟨c1,hc1,ac1⟩:=zct (cs:=cs) (k:=1) (by lia) (by lia);walk_at"g";refine⟨c,k,rfl,by lia,by lia,fun m m0 _=>?_⟩;have hx1:Lst (S++[.lst [.int 1,.int 100000000000000000000]]) x (cs.map p2):=hx.old;walk_at"g"
  obtain⟨sc,hs1,hs2,asc⟩:∃ sc:Int,1<=sc/\sc<=10 ^ 20/\atD [D.int 1,.int 100000000000000000000] (if decide (100000000000000000000<=c1.fst-c0.fst)=true then 1 else 0)=some (.int sc):=by
    by_cases g:100000000000000000000<=c1.fst-c0.fst
    . exact⟨10 ^ 20,by decide,by decide,by rw[if_pos (decide_eq_true g)];rfl⟩
    . exact⟨1,by decide,by decide,by rw[if_neg (by simpa using g)];rfl⟩
  refine zjO Lst.at0 asc ?_;generalize hS1:S++[Cell.lst [D.int 1,.int 100000000000000000000]]=S1 at hx1;have e1:∃ T,S1=S++T:=⟨_,hS1.symm⟩
  have hn1:Lst S1 n ((List.range 14).map fun k=>.str (zR bb k)):=hS1▸hn.old;clear hS1;have n0:=Int.emod_nonneg (m/16) (show(14:Int)≠0 by decide);have n1:=Int.emod_lt_of_pos (m/16) (show(0:Int)<14 by decide);obtain⟨j,hj⟩:∃ j:Nat,m/16%14=(j:Int):=⟨_,(Int.toNat_of_nonneg n0).symm⟩
  have aj:atD ((List.range 14).map fun k=>D.str (zR bb k)) (m/16%14)=some (.str (zR bb j)):=by rw[hj];exact zaY (by rw[List.getElem?_map,List.getElem?_range (by lia)];rfl)
  walk_at"g";refine⟨c,k,x,cs,sc,_,rfl,hx1,gr,by lia,by lia,hs1,hs2,ziV _ _,fun s b1 b2 _=>?_⟩;walk_at"g";walk_at"h"
  have lnm:(zR bb j).length<=5:=by unfold zR;rw[len_app];have:=ze9 bb;have:(⟨#[97+((bb/4+7*(j:Int))%26).toNat]⟩:Str).length=1:=rfl;lia
  refine r_J (fun Z S'=>(∃ T,S'=S1++T)/\∃ nm:Str,fl 20 (.str nm)=true/\nm.length<=100/\Z=[some (.int c),some (.int k),some (.tup [x,y,z,hz,.int h0,.int h1,dl]),some n,some (.int m),some (.int sc),some (bcD (nm,s)),none,none,none]) ?_ ?_
  . walk_at"g";refine r_d (fun g=>?_) (fun g=>?_)
    . obtain⟨z5,hz5,a5⟩:=zkM (zs:=["","Ab","a b","abcdefghi","x1"]) (k:=m/1792%5) (Int.emod_nonneg _ (by decide)) (by show _<(5:Int);exact Int.emod_lt_of_pos _ (by decide));have a5:atD [D.str "",.str "Ab",.str "a b",.str "abcdefghi",.str "x1"] (m/1792%5)=some (.str z5):=a5;obtain⟨f5,l5⟩:=zrb z5 hz5;walk_at"g";exact⟨⟨_,rfl⟩,z5,f5,l5,rfl⟩
    . walk_at"g";exact⟨⟨[],(List.append_nil _).symm⟩,_,ziV _ _,by lia,rfl⟩
  rintro Z S' ⟨⟨T1,rfl⟩,nm,fn,ln,rfl⟩;walk_at"g";refine r_J (fun Z S'=>(∃ T,S'=S1++T)/\∃ s:Int×Int,Bd 180 s.1/\Bd 200 s.2/\Z=[some (.int c),some (.int k),some (.tup [x,y,z,hz,.int h0,.int h1,dl]),some n,some (.int m),some (.int sc),some (bcD (nm,s)),none,none,none]) ?_ ?_
  . walk_at"g";refine r_d (fun g=>?_) (fun g=>?_)
    . obtain⟨u,hu,au⟩:=zbI (zs:=[0,10000000000000000000000000,-10000000000000000000000000]) (k:=m/1792%3) (Int.emod_nonneg _ (by decide)) (by show _<(3:Int);exact Int.emod_lt_of_pos _ (by decide));have au:atD [D.int 0,.int 10000000000000000000000000,.int (-10000000000000000000000000)] (m/1792%3)=some (.int u):=au
      have bu:Bd 100 u:=by simp only[List.mem_cons,List.not_mem_nil,or_false]at hu;rcases hu with rfl|rfl|rfl<;>(show _<2 ^ 100;decide)
      have cm:zai 40 sc:=.inr (.inl (show _<2 ^ 64 by lia))
      have bs:Bd 100 (40*sc):=by
        have:(2:Nat) ^ 100=1267650600228229401496703205376:=by decide
        show _<2 ^ 100;rw[this];lia
      walk_at"g";exact⟨⟨_,rfl⟩,(s.1+u,s.2-40*sc),(Bd.add b1 (bu.mono (by decide))).mono (by decide),(Bd.sub b2 (bs.mono (by decide))).mono (by decide),rfl⟩
    . walk_at"g";exact⟨⟨_,rfl⟩,s,b1.mono (by decide),b2.mono (by decide),rfl⟩
  rintro Z S' ⟨⟨T2,rfl⟩,s2,b3,b4,rfl⟩;walk_at"g";refine⟨c,k,x,cs,sc,h0,h1,rfl,hx1.old,gr,by lia,by lia,hs1,hs2,hh,bh0.mono (by decide),bh1.mono (by decide),fun F hF=>?_⟩;walk_at"g";walk_at"h"
  have key:∃ (v:Int) (g:List Int),atD [D.int F.x0,.int F.x1,.int F.z0,.int F.z1,.int F.f,.int F.l,.int F.g,.int F.s] (m/1792%3*2+1)=some (.int v)/\cutD [D.int F.x0,.int F.x1,.int F.z0,.int F.z1,.int F.f,.int F.l,.int F.g,.int F.s] none (some (m/1792%3*2))++[D.int (v+1)]++cutD [D.int F.x0,.int F.x1,.int F.z0,.int F.z1,.int F.f,.int F.l,.int F.g,.int F.s] (some (m/1792%3*2+1)) none=g.map D.int/\g.length=8/\(cutD [D.int F.x0,.int F.x1,.int F.z0,.int F.z1,.int F.f,.int F.l,.int F.g,.int F.s] none (some (m/1792%3*2))).length<=8:=by
    have:m/1792%3=0\/m/1792%3=1\/m/1792%3=2:=by lia
    rcases this with e|e|e<;>rw[e]
    . exact⟨F.x1,[F.x1+1,F.x1,F.z0,F.z1,F.f,F.l,F.g,F.s],rfl,rfl,rfl,Nat.le_of_ble_eq_true rfl⟩
    . exact⟨F.z1,[F.x0,F.x1,F.z1+1,F.z1,F.f,F.l,F.g,F.s],rfl,rfl,rfl,Nat.le_of_ble_eq_true rfl⟩
    . exact⟨F.l,[F.x0,F.x1,F.z0,F.z1,F.l+1,F.l,F.g,F.s],rfl,rfl,rfl,Nat.le_of_ble_eq_true rfl⟩
  obtain⟨v8,g8,ka,kc,kl,kb⟩:=key;refine r_J (fun Z S'=>S'=S1++T2/\∃ (g:List Int) (w8:Option D),g.length=8/\Z=[some (.int c),some (.int k),some (.tup [x,y,z,hz,.int h0,.int h1,dl]),some n,some (.int m),some (.int sc),some (bcD (nm,s2)),some (fgL g),w8,none]) ?_ ?_
  . walk_at"g";refine r_d (fun g=>?_) (fun g=>?_)
    . walk_at"g";refine zhg (by rw[List.length_singleton];unfold big;lia) ?_;walk_at"g";refine zhg ?_ ?_
      . rw[<- List.length_append,kc,List.length_map,kl];decide
      rw[kc];walk_at"g";exact⟨rfl,g8,_,kl,rfl⟩
    . walk_at"g";exact⟨rfl,[F.x0,F.x1,F.z0,F.z1,F.f,F.l,F.g,F.s],_,rfl,rfl⟩
  rintro Z S' ⟨rfl,g,w8,lg,rfl⟩;obtain⟨zw,hzw,aw⟩:=zkM (zs:=ways) (k:=m%8) (Int.emod_nonneg _ (by decide)) (by show _<(8:Int);exact Int.emod_lt_of_pos _ (by decide));have aw:atD [D.str "build",.str "build",.str "raze",.str "raise",.str "foretell",.str "foretell",.str "lift",.str "back"] (m%8)=some (.str zw):=aw;walk_at"g";obtain⟨T,rfl⟩:=e1;have q':=q (T++(T2++[Cell.lst [D.str "build",.str "build",.str "raze",.str "raise",.str "foretell",.str "foretell",.str "lift",.str "back"]])) ⟨zw,nm,s2,g,m/1792%14-1⟩ ⟨hzw,fn,by show nm.length<=1000;lia,b3,b4,fun _=>lg,by show -1<=m/1792%14-1;lia,by show m/1792%14-1<=12;lia⟩;rw[<- List.append_assoc]at q';exact fin_same q'
def zcq:DSp:=fun ds S Q=>∃ (d:zdF) (k:VKc) (p:BG) (y z:D),ds=[ddD d,y,z]/\zjq d/\zax k p/\Lst S y (p.1.map bcD)/\Lst S z (p.2.map fgL)/\∀ T y' z',Lst (S++T) y' ((zE d p).2.1.map bcD)->Lst (S++T) z' ((zE d p).2.2.map fgL)->Q (.tup [.int (zE d p).1,y',z']) (S++T)
abbrev zec:DS :=
    (zj (zp vr0 (zbW 4 (z9 gn3 (z9 gn4 (z9 gn5 (z9 gn6 zbP))))))
 (zj (zp (dOp oIn zfi (dLC 1 [] (zaS vr1) gn0 zan zaB)) gn7)
 (zj (sIf (dT (dOp oEq vr3 (dC (.str "build")))) (zy (dTup (za (dUn zaj ci1) (za (dOp zJ vr1 (zaG ua4)) ua2)))) zu)
 (zj (sIf (zf2 (dOr (dT (dOp oEq vr3 (dC (.str "raze")))) (dT (dOp oEq vr3 (dC (.str "raise"))))) (zbe (dT vr7))) (zy (dTup (za ci5 (za vr1 ua2)))) zu)
 (zj (sIf (dT (dOp oEq vr3 (dC (.str "raze")))) (zy (dTup (za (dUn zaj ci1) (za (dLC 1 [4] (zaS vr1) gn0 (dT (dOp oNe zaB zcW)) vr0) ua2)))) zu)
 (zj (sIf (dT (dOp oEq vr3 (dC (.str "raise")))) (zj (zp (dLC 1 [4] (zaS vr1) gn0 zan (dTup (za zaB (za zcv (za (dOp oIx (zaG (za zfJ (za zmP zf))) (dB zef (za (dOp oEq zaB zcW) zf))) zf))))) gn8)
 (zy (dTup (za (dUn zaj ci1) (za vr8 ua2))))) zu)
 (zj (sIf (dT (dOp oEq vr3 (dC (.str "foretell")))) (zy (dTup (za (dUn zaj ci1) (za vr1 (za (dOp zJ vr2 (zaG ua5)) zf))))) zu)
 (zj (sIf (dOr (dT (dOp oLt vr6 ci0)) (dT (dOp oGe vr6 (dB z8 ua2)))) (zy (dTup (za ci6 (za vr1 ua2)))) zu)
 (zy (dTup (za (dUn zaj ci1) (za vr1 (za (dOp zJ (dSl zbG vr2 none (some vr6)) (dSl zbG vr2 (some (dOp zJ vr6 ci1)) none)) zf)))))))))))))
def zgB:BodyOk 9 zec zcq:=by
 rintro ds S Q ⟨d,k,p,y,z,rfl,od,ok,hy,hz,q⟩;unfold zec;have lb:=ok.bd.lb;have lg:=ok.bd.lg;have fw:=zfZ _ od.w;have fs:∀ z∈["build","raze","raise","foretell"],fl 20 (.str z)=true:=by decide +kernel
 have fn:=od.f;have lz:p.2.length+1<=big:=by unfold big;lia
 have lb1:p.1.length+1<=big:=by unfold big;lia
 obtain⟨w,nm,s,g,n⟩:=d;dsimp only at fw fn;unfold ddD;dsimp only;walk_at"g";refine zY (fun _=>true) (zeX fun b=>.str b.1) hy (by rw[List.length_map];unfold big;lia) (fun i d ys hd hw=>?_) ?_
 ·obtain⟨b,_,rfl⟩:=zbd hd;walk_at"g";exact zar hd hw rfl rfl
 rw[filter_true,zbU,show p.1.map (fun b=>D.str b.1)=(p.1.map (·.1)).map D.str by rw[List.map_map];rfl];refine zex ?_;walk_at"g";refine zqD (.inr Lst.at0) fn ok.fl ?_;walk_at"g";walk_at"h";obtain⟨G,hG⟩:∃ G:Sto,G=[Cell.lst ((p.1.map (·.1)).map D.str)]:=⟨_,rfl⟩
 rw[<- hG];have hy1:Lst (S++G) y (p.1.map bcD):=hy.old;have hz1:Lst (S++G) z (p.2.map fgL):=hz.old;refine zay fw (fs "build" (by simp)) ?_;walk_at"g";refine r_d (fun h1=>?_) (fun h1=>?_)
 ·have e:zE ⟨w,nm,s,g,n⟩ p=(-1,(p.1++[(nm,s)],p.2)):=by unfold zE;rw[if_pos h1]
  rw[e]at q;dsimp only at q;walk_at"g";refine zaN hy.old Lst.new (by rw[List.length_map (f:=bcD)];exact lb1) (zaH ?_);rw[show p.1.map bcD++[bcD (nm,s)]=(p.1++[(nm,s)]).map bcD by rw[List.map_append];rfl];walk_at"g";exact fin_same (q _ _ _ Lst.new hz.old)
 walk_at"g";refine zay fw (fs "raze" (by simp)) ?_;walk_at"g";have F:∀ T,Lst (S++G++T) y (p.1.map bcD)/\Lst (S++G++T) z (p.2.map fgL):=fun T=>⟨hy1.old,hz1.old⟩
 have no:¬ (w="build")->(w="raze"\/w="raise")->nm∉p.1.map (·.1)->zE ⟨w,nm,s,g,n⟩ p=(5,p):=fun a b c=>by unfold zE;rw[if_neg a,if_pos ⟨b,c⟩]
 refine r_d (fun h2=>?_) (fun h2=>?_)
 ·walk_at"g";refine zea (fun h3=>?_) (fun h3=>?_)
  ·rw[no h1 (.inl h2) h3]at q;walk_at"g";exact fin_same (q _ _ _ hy1 hz1)
  have e:zE ⟨w,nm,s,g,n⟩ p=(-1,(p.1.filter (fun b=>decide (b.1≠nm)),p.2)):=by unfold zE;rw[if_neg h1,if_neg (fun z=>z.2 h3),if_pos h2]
  rw[e]at q;dsimp only at q;walk_at"g";refine zay fw (fs "raze" (by simp)) ?_;rw[decide_eq_true h2];walk_at"g";refine zY (zgK fun b=>decide (b.1≠nm)) id hy1 (by rw[List.length_map];unfold big;lia) (fun i d ys hd hw=>?_) ?_
  ·obtain⟨b,hb,rfl⟩:=zbd hd;walk_at"g";refine zj8 (ok.fl _ (List.mem_map.mpr ⟨b,List.mem_of_getElem? hb,rfl⟩)) fn ?_;walk_at"g";refine zea (fun h=>?_) (fun h=>?_)
   ·walk_at"g";exact zar hd hw (decide_eq_true h) rfl
   ·walk_at"g";exact zmU hd hw (decide_eq_false fun z=>z h)
  rw[List.map_id,List.filter_map,show(zgK (fun b=>decide (b.1≠nm)) ∘ bcD)=(fun b=>decide (b.1≠nm))from rfl];refine zaH ?_;walk_at"g";exact fin_same (q _ _ _ Lst.new hz.old)
 walk_at"g";refine zay fw (fs "raise" (by simp)) ?_;walk_at"g";refine r_d (fun h4=>?_) (fun h4=>?_)
 ·walk_at"g";refine zea (fun h3=>?_) (fun h3=>?_)
  ·rw[no h1 (.inr h4) h3]at q;walk_at"g";exact fin_same (q _ _ _ hy1 hz1)
  have e:zE ⟨w,nm,s,g,n⟩ p=(-1,(p.1.map (fun b=>if b.1=nm then(b.1,(b.2.1,s.2))else b),p.2)):=by unfold zE;rw[if_neg h1,if_neg (fun z=>z.2 h3),if_neg h2,if_pos h4]
  rw[e]at q;dsimp only at q;walk_at"g";refine zay fw (fs "raze" (by simp)) ?_;rw[decide_eq_false h2];walk_at"g";refine zay fw (fs "raise" (by simp)) ?_;rw[decide_eq_true h4];walk_at"g";have hy2:∀ T,Lst (S++G++T) y (p.1.map bcD):=fun T=>hy1.old
  refine zgM (fun i ys S'=>(∃ T,S'=S++G++T)/\ys=((p.1.take i).map fun b=>if b.1=nm then(b.1,(b.2.1,s.2))else b).map bcD) ⟨⟨[],(List.append_nil _).symm⟩,rfl⟩ (by rintro i ys S' ⟨⟨T,e⟩,_⟩;exact e▸hy2 T) (by rw[List.length_map];unfold big;lia) ?_ ?_
  ·rintro i d ys S' hd ⟨⟨T,rfl⟩,rfl⟩;obtain⟨b,hb,rfl⟩:=zbd hd;walk_at"g";refine zay (ok.fl _ (List.mem_map.mpr ⟨b,List.mem_of_getElem? hb,rfl⟩)) fn ?_;walk_at"g"
   obtain⟨v,hv,ev⟩:∃ v:Int,atD [D.int b.2.2,.int s.2] (if decide (b.1=nm)=true then 1 else 0)=some (.int v)/\D.tup [.str b.1,.int b.2.1,.int v]=bcD (if b.1=nm then(b.1,(b.2.1,s.2))else b):=by
    by_cases h:b.1=nm
    ·exact⟨s.2,by rw[if_pos (decide_eq_true h)];rfl,by rw[if_pos h]⟩
    ·exact⟨b.2.2,by rw[if_neg (by simpa using h)];rfl,by rw[if_neg h]⟩
   refine zjO Lst.new hv ?_;walk_at"g";exact⟨⟨_,rfl⟩,by rw[zbk hb,List.map_append,List.map_append,ev];rfl⟩
  rintro ys S' ⟨⟨T,rfl⟩,rfl⟩;rw[List.length_map,List.take_length];rw[List.append_assoc];refine zaH ?_;walk_at"g";exact fin_same (q _ _ _ Lst.new hz.old)
 walk_at"g";refine zay fw (fs "raze" (by simp)) ?_;rw[decide_eq_false h2];walk_at"g";refine zay fw (fs "raise" (by simp)) ?_;rw[decide_eq_false h4];walk_at"g";refine zay fw (fs "foretell" (by simp)) ?_;walk_at"g";have n2:¬ ((w="raze"\/w="raise")/\nm∉p.1.map (·.1)):=fun z=>z.1.elim h2 h4
 refine r_d (fun h5=>?_) (fun h5=>?_)
 ·have e:zE ⟨w,nm,s,g,n⟩ p=(-1,(p.1,p.2++[g])):=by unfold zE;rw[if_neg h1,if_neg n2,if_neg h2,if_neg h4,if_pos h5]
  rw[e]at q;dsimp only at q;walk_at"g";refine zaN hz.old Lst.new (by rw[List.length_map (f:=fgL)];exact lz) (zaH ?_);rw[show p.2.map fgL++[fgL g]=(p.2++[g]).map fgL by rw[List.map_append];rfl];walk_at"g";exact fin_same (q _ _ _ hy.old Lst.new)
 walk_at"g";have six:(n<0\/(p.2.length:Int)<=n)->zE ⟨w,nm,s,g,n⟩ p=(6,p):=fun h=>by unfold zE;rw[if_neg h1,if_neg n2,if_neg h2,if_neg h4,if_neg h5,if_pos h]
 refine r_d (fun h6=>?_) (fun h6=>?_)
 ·rw[six (.inl h6)]at q;walk_at"g";exact fin_same (q _ _ _ hy1 hz1)
 walk_at"g";rw[List.length_map];refine r_d (fun h7=>?_) (fun h7=>?_)
 ·rw[six (.inr h7)]at q;walk_at"g";exact fin_same (q _ _ _ hy1 hz1)
 have e:zE ⟨w,nm,s,g,n⟩ p=(-1,(p.1,p.2.take n.toNat++p.2.drop (n.toNat+1))):=by unfold zE;rw[if_neg h1,if_neg n2,if_neg h2,if_neg h4,if_neg h5,if_neg (fun z=>z.elim h6 h7)]
 rw[e]at q;dsimp only at q
 have e2:cutD (p.2.map fgL) none (some n)++cutD (p.2.map fgL) (some (n+1)) none=(p.2.take n.toNat++p.2.drop (n.toNat+1)).map fgL:=by rw[zcA,zcA,zeU _ (by lia) (by lia),zht _ (by lia) (by lia),<- List.map_append,show(n+1).toNat=n.toNat+1 by lia]
 have l2:(cutD (p.2.map fgL) none (some n)).length+(cutD (p.2.map fgL) (some (n+1)) none).length<=big:=by rw[<- List.length_append,e2,List.length_map,List.length_append,List.length_take,List.length_drop];unfold big;lia
 walk_at"g";refine zaN (Lst.here (by rw[zQ,List.append_assoc,List.getElem?_append_right (Nat.le_refl _),Nat.sub_self];rfl)) Lst.new l2 (zaH ?_);rw[e2];walk_at"g";exact fin_same (q _ _ _ hy.old Lst.new)
def zbY:DSp:=fun ds S Q=>∃ z:Str,ds=[.str z]/\z.length<=1000/\∀ T,Q (.bl (nmB z)) (S++T)
abbrev zdG:DS :=(zy (zbD (dOp oLe ci1 (dB z8 ua0)) (zbD (dOp oLe (dB z8 ua0) ci8) (dB zck (za (dLC 1 [] (zaS vr0) gn0 zan (dOp oIn vr0 (dC (.str "abcdefghijklmnopqrstuvwxyz")))) zf)))))
def zf6:BodyOk 1 zdG zbY:=by
 rintro ds S Q ⟨z,rfl,hz,q⟩;unfold zdG;have hb:z.length<=big:=by unfold big;lia
 have q0:Q (.bl (nmB z)) S:=by have:=q [];rwa[List.append_nil]at this
 walk_at"g";refine zfh hb ?_;walk_at"g";refine r_d (fun h1=>?_) (fun h1=>?_)
 case refine_2 =>
  have e:nmB z=false:=by unfold nmB;rw[decide_eq_false (show ¬ 1<=z.length by lia)];rfl
  rw[e]at q0;exact fin_same q0
 walk_at"g";refine zfh hb ?_;walk_at"g";refine r_d (fun h2=>?_) (fun h2=>?_)
 case refine_2 =>
  have e:nmB z=false:=by unfold nmB;rw[decide_eq_false (show ¬ z.length<=8 by lia),Bool.false_and,Bool.and_false]
  rw[e]at q0;exact fin_same q0
 walk_at"g";refine zY (fun _=>true) (onC fun c=>decide (c∈abc)) True.intro (by rw[zge];exact hb) (fun i d ys hd hw=>?_) ?_
 ·obtain⟨c,_,rfl⟩:=zgp hd;walk_at"g";rw[zkc];exact zar hd hw rfl rfl
 rw[filter_true,zgq];walk_at"g";refine zbh Lst.at0 rfl ?_;refine fin_same ?_
 have e:nmB z=(z.cps.toList.map fun c=>decide (c∈abc)).all id:=by unfold nmB;rw[decide_eq_true (show 1<=z.length by lia),decide_eq_true (show z.length<=8 by lia),Bool.true_and,Bool.true_and,List.all_map];rfl
 rw[<- e];exact q _
def zdE:DSp:=fun ds S Q=>∃ (k:VKc) (p:BG) (x y z:D) (u:Unit),ds=[x,y,z]/\Lst S x (k.cs.map p2)/\Grd k.cs/\Lst S y (p.1.map bcD)/\Lst S z (p.2.map fgL)/\VBd p.1 p.2/\(∀ l∈p.2,l.length=8)/\¬ zdZ k.hz k.h0 k.h1 k.dl/\∀ T e,k.cl p e->Q (.int (zaK e)) (S++T)
abbrev zgj:DS :=
    (zj (sIf (dOr (dT (dOp oLt (dB z8 ua1) ci1)) (dOr (dT (dOp oGt (dB z8 ua1) (dC (.int 12)))) (dT (dOp oGt (dB z8 ua2) (dC (.int 12)))))) (zy ci0) zu)
 (zj (sIf (zbe (dT (dB zck (za (dLC 1 [] (zaS vr1) gn0 zan (dCall zbY (za zaB zf))) zf)))) (zy ci1) zu)
 (zj (sIf (dT (dOp oLt (dB zfE (za (dLC 1 [] (zaS vr1) gn0 zan zaB) zf)) (dB z8 ua1))) (zy ci2) zu)
 (zj (zcX (zaS vr1) (zbW 3 (z9 gn3 (z9 gn4 (z9 gn5 zbP)))) (zj (zp (dCall zb0 (za vr0 ua4)) gn6)
 (sIf (dOr (dT (dOp oIs vr6 (dC .non))) (dT (dOp oLt vr5 vr6))) (zy ci3) zu)))
 (zj (sIf (zbe (dT (dB zck (za (dLC 1 [] (zaS vr2) gn0 zan (zbD (dOp oLe zaB zcv) (zbD (dOp oLe zfJ zjH) (dOp oLe zi0 zi8)))) zf)))) (zy ci4) zu)
 (zy (dUn zaj ci1)))))))
def zi2:BodyOk 7 zgj zdE:=by
 rintro ds S Q ⟨k,p,x,y,z,u,rfl,hx,gr,hy,hz,bd,l8,nb,q⟩;unfold zgj;obtain⟨c0,c1,c2,c3,c4,_⟩:=zf9;have lb:=bd.lb;have lg:=bd.lg;have q0:∀ T c i,zaK (some c)=i->k.cl p (some c)->Q (.int i) (S++T):=fun T c i e h=>e▸q T _ h
 have q1:∀ c i,zaK (some c)=i->k.cl p (some c)->Q (.int i) S:=fun c i e h=>by have:=q0 [] c i e h;rwa[List.append_nil]at this
 walk_at"g";rw[List.length_map];refine r_d (fun h1=>?_) (fun h1=>?_)
 ·walk_at"g";exact fin_same (q1 _ _ c0 (.inl ⟨.inl (by lia),rfl⟩))
 walk_at"g";rw[List.length_map];refine r_d (fun h2=>?_) (fun h2=>?_)
 ·walk_at"g";exact fin_same (q1 _ _ c0 (.inl ⟨.inr (.inl (by lia)),rfl⟩))
 walk_at"g";rw[List.length_map];refine r_d (fun h3=>?_) (fun h3=>?_)
 ·walk_at"g";exact fin_same (q1 _ _ c0 (.inl ⟨.inr (.inr (by lia)),rfl⟩))
 have nt:¬ zdR p.1 p.2:=by unfold zdR;lia
 walk_at"g";refine zgM (fun i ys S'=>(∃ T,S'=S++T)/\ys=((p.1.take i).map fun b=>nmB b.1).map D.bl) ⟨⟨[],(List.append_nil _).symm⟩,rfl⟩ (by rintro i ys S' ⟨⟨T,e⟩,_⟩;exact e▸hy.old) (by rw[List.length_map];unfold big;lia) ?_ ?_
 ·rintro i d ys S' hd ⟨⟨T,rfl⟩,rfl⟩;obtain⟨b,hb,rfl⟩:=zbd hd;walk_at"g";refine⟨b.1,rfl,bd.ln _ (List.mem_map.mpr ⟨b,List.mem_of_getElem? hb,rfl⟩),fun T2=>?_⟩;walk_at"g";exact⟨⟨T++T2,List.append_assoc ..⟩,by rw[zbk hb,List.map_append,List.map_append];rfl⟩
 rintro ys S' ⟨⟨T,rfl⟩,rfl⟩;rw[List.length_map,List.take_length];refine zaH ?_;walk_at"g"
 have e1:(p.1.map fun b=>nmB b.1).all id=true↔zfT p.1:=by
  rw[List.all_map,List.all_eq_true];unfold zfT;constructor
  ·intro h n hn;obtain⟨b,hb,rfl⟩:=List.mem_map.mp hn;exact h b hb
  ·exact fun h b hb=>h _ (List.mem_map.mpr ⟨b,hb,rfl⟩)
 refine zbh Lst.new rfl ?_;walk_at"g";by_cases hn:zfT p.1
 case neg =>rw[show(p.1.map fun b=>nmB b.1).all id=false from Bool.eq_false_iff.mpr fun h=>hn (e1.mp h)];walk_at"g";exact fin_same (q0 _ _ _ c1 (.inr ⟨nt,.inl ⟨hn,rfl⟩⟩))
 rw[e1.mpr hn];walk_at"g";have hy2:∀ T,Lst (S++T) y (p.1.map bcD):=fun T=>hy.old
 generalize T++[Cell.lst ((p.1.map fun b=>nmB b.1).map D.bl)]=T1;refine zY (fun _=>true) (zeX fun b=>.str b.1) (hy2 T1) (by rw[List.length_map];unfold big;lia) (fun i d ys hd hw=>?_) ?_
 ·obtain⟨b,_,rfl⟩:=zbd hd;walk_at"g";exact zar hd hw rfl rfl
 rw[filter_true,zbU,show p.1.map (fun b=>D.str b.1)=(p.1.map (·.1)).map D.str by rw[List.map_map];rfl];refine zaH ?_;walk_at"g";refine zjQ (zs:=p.1.map (·.1)) Lst.new (by rw[List.length_map];lia) ?_;have hy3:Lst (S++(T1++[Cell.lst ((p.1.map (·.1)).map D.str)])) y (p.1.map bcD):=hy.old;walk_at"g";rw[List.length_map];by_cases nd:(p.1.map (·.1)).Nodup
 case neg =>obtain⟨a,b,z,l,ea,eb⟩:=zdX nd;have:=zhY l ea eb;rw[List.length_map]at this;rw[decide_eq_true (by lia)];walk_at"g";exact fin_same (q0 _ _ _ c2 (.inr ⟨nt,.inr ⟨hn,.inl ⟨nd,rfl⟩⟩⟩))
 rw[zfz nd,List.length_map,decide_eq_false (show ¬ ((p.1.length:Int)<p.1.length) by lia)];walk_at"g";generalize T1++[Cell.lst ((p.1.map (·.1)).map D.str)]=T2 at hy3;walk_at"h";refine zb7 (fun i Z S'=>S'=S++T2/\(∃ w3 w4 w5 w6:Option D,Z=[some x,some y,some z,w3,w4,w5,w6])/\∀ b∈p.1.take i,zbw k.cs b.2) ⟨rfl,⟨_,_,_,_,rfl⟩,fun b hb=>by cases hb⟩ (fun i Z S' h=>h.1▸hy3) ?_ ?_
 ·rintro i d Z S' hd ⟨rfl,⟨w3,w4,w5,w6,rfl⟩,hs⟩;obtain⟨b,hb,rfl⟩:=zbd hd;have mb:=List.mem_of_getElem? hb;obtain⟨bb1,bb2⟩:=bd.bd b mb;walk_at"g";refine⟨x,k.cs,b.2.1,rfl,hx.old,gr,bb1,fun on=>?_,fun no=>?_⟩
  ·walk_at"g";refine r_d (fun h=>?_) (fun h=>?_)
   ·walk_at"g";exact fin_same (q0 _ _ _ c3 (.inr ⟨nt,.inr ⟨hn,.inr ⟨nd,.inl ⟨fun a=>by have:=(ze6 gr on).mp (a b mb);lia,rfl⟩⟩⟩⟩))
   ·walk_at"g";refine⟨rfl,⟨_,_,_,_,rfl⟩,fun b' hb'=>?_⟩;rw[zbk hb]at hb';rcases List.mem_append.mp hb' with h'|h'
    ·exact hs b' h'
    ·rw[List.mem_singleton.mp h'];exact(ze6 gr on).mpr (by lia)
  ·walk_at"g";exact fin_same (q0 _ _ _ c3 (.inr ⟨nt,.inr ⟨hn,.inr ⟨nd,.inl ⟨fun a=>no (a b mb).1,rfl⟩⟩⟩⟩))
 rintro Z S' ⟨rfl,⟨w3,w4,w5,w6,rfl⟩,hs⟩;rw[List.length_map,List.take_length]at hs;walk_at"g";have hz2:Lst (S++T2) z (p.2.map fgL):=hz.old;refine zY (fun _=>true) (zjF zba) hz2 (by rw[List.length_map];unfold big;lia) (fun i d ys hd hw=>?_) ?_
 ·obtain⟨l,hl,rfl⟩:=ziE hd;have:=l8 l (List.mem_of_getElem? hl)
  match l,this with
  |[a,b,c,d,e,f,g,h],_ =>
  have ef:zjF zba (fgL [a,b,c,d,e,f,g,h])=.bl (decide (a<=b)&&(decide (c<=d)&&decide (e<=f))):=rfl;walk_at"g";refine r_d (fun g1=>?_) (fun g1=>?_)
  case refine_2=>exact zar hd hw rfl (by rw[ef,decide_eq_false g1];rfl)
  walk_at"g";refine r_d (fun g2=>?_) (fun g2=>?_)
  case refine_2=>exact zar hd hw rfl (by rw[ef,decide_eq_true g1,decide_eq_false g2];rfl)
  walk_at"g";exact zar hd hw rfl (by rw[ef,decide_eq_true g1,decide_eq_true g2];rfl)
 rw[filter_true,ze2];refine zaH ?_;walk_at"g";refine zbh Lst.new rfl ?_;walk_at"g"
 have e2:(p.2.map zba).all id=true↔zhH p.2:=by rw[List.all_map,List.all_eq_true];exact Iff.rfl
 by_cases hf:zhH p.2
 case neg =>rw[show(p.2.map zba).all id=false from Bool.eq_false_iff.mpr fun h=>hf (e2.mp h)];walk_at"g";exact fin_same (q0 _ _ _ c4 (.inr ⟨nt,.inr ⟨hn,.inr ⟨nd,.inr ⟨hs,.inl ⟨hf,rfl⟩⟩⟩⟩⟩))
 rw[e2.mpr hf];walk_at"g";exact fin_same (q _ none (.inr ⟨nt,.inr ⟨hn,.inr ⟨nd,.inr ⟨hs,.inr ⟨hf,.inr ⟨nb,rfl⟩⟩⟩⟩⟩⟩))
def zaZ:zU:=fun ds S Q ex=>∃ (w l:Nat) (k:VKc) (vs:List Nat) (st:List BG),ds=[.ref w]/\WAt S k w l vs st/\Q (.int ((st.length:Int)-1)) S
abbrev zdH (ex:XR):DS :=(zy (dOp zap (dB z8 (za (zL "stages" vr0) zf)) ci1))
def zf8:zM 1 zdH zaZ:=by rintro ds S Q ex ⟨w,l,k,vs,st,rfl,W,q⟩;unfold zdH;have hw:=W.w;have hl:Lst S (.ref l) (vs.map D.ref):=Lst.here W.l;have hn:=W.n;walk_at"g";rw[List.length_map,hn];exact fin_same q
def zab:zU:=fun ds S Q ex=>∃ (w l:Nat) (k:VKc) (vs:List Nat) (st:List BG) (p':BG) (y z:D),ds=[.ref w,y,z]/\WAt S k w l vs st/\st.length<100/\Grd k.cs/\Lst S y (p'.1.map bcD)/\Lst S z (p'.2.map fgL)/\VBd p'.1 p'.2/\(∀ c,k.cl p' (some c)->∀ T,ex c (S++T))/\(k.cl p' none->∀ S' vs',Chg l S S'->WAt S' k w l vs' (st++[p'])->Q (.int st.length) S')
abbrev zcP (ex : XR) : DS :=
    (zj (zaU (dM zbC (zL "stages" vr0) (za (zak zbu ex (za (dOp oIx (zL "stages" vr0) (dUn zaj ci1)) (za vr1 ua2))) zf)))
 (zy (zae "Watch" "deeds" zaZ ex vr0 zf)))
def zeF:zM 3 zcP zab:=by
 rintro ds S Q ex ⟨w,l,k,vs,st,p',y,z,rfl,W,lt,gr,hy,hz,bd,qx,q⟩;unfold zcP;obtain⟨p,hp⟩:∃ p,st.getLast?=some p:=⟨_,List.getLast?_eq_some_getLast (by have:=W.n0;intro e;rw[e]at this;cases this)⟩
 obtain⟨v,hv,hat,hvt,ok⟩:=W.last hp;have hw:=W.w;have hn:=W.n;have hl0:=W.l;have hl:Lst S (.ref l) (vs.map D.ref):=Lst.here W.l;walk_at"g";refine⟨v,k,p,p',y,z,rfl,hvt,gr,hy,hz,bd,qx,fun hc T n ln hnn=>?_⟩;have hlT:(S++T)[l]?=some (.lst (vs.map D.ref)):=zN W.l;refine zg2 hlT (by rw[List.length_map];unfold big;lia) (zjh ?_);have C:Chg l S ((S++T).set l (.lst (vs.map D.ref++[.ref n]))):=Chg.trans Chg.app Chg.set
 have e1:((S++T).set l (.lst (vs.map D.ref++[.ref n])))[l]?=some (.lst ((vs++[n]).map D.ref)):=by rw[List.getElem?_set_self (zV hlT),List.map_append];rfl
 have W':=W.push C e1 (hnn.kp (Chg.set.kp hlT W.fz)) ⟨hc,bd⟩ lt;generalize (S++T).set l (.lst (vs.map D.ref++[.ref n]))=S' at C W';have hw':=W'.w;walk_at"g";refine⟨w,l,k,_,_,rfl,W',?_⟩;rw[List.length_append,show((st.length+[p'].length:Nat):Int)-1=st.length by simp];exact fin_same (q hc S' _ C W')
def zbR:zU:=fun ds S Q ex=>∃ (w l:Nat) (k:VKc) (vs:List Nat) (st:List BG) (p p':BG) (nm:Str) (a b:Int),ds=[.ref w,.str nm,.int a,.int b]/\WAt S k w l vs st/\st.length<100/\Grd k.cs/\st.getLast?=some p/\p'=(p.1++[(nm,(a,b))],p.2)/\VBd p'.1 p'.2/\(∀ c,k.cl p' (some c)->∀ T,ex c (S++T))/\(k.cl p' none->∀ S' vs',Chg l S S'->WAt S' k w l vs' (st++[p'])->Q (.int st.length) S')
abbrev zdK (ex : XR) : DS :=
    (zj (zp (dOp oIx (zL "stages" vr0) (dUn zaj ci1)) gn4)
 (zy (zae "Watch" "stand_by" zab ex vr0 (za (dOp zJ (zL "beacons" vr4) (zaG (za (dTup (za vr1 (za vr2 ua3))) zf))) (za (zL "fogs" vr4) zf)))))
def zfY:zM 5 zdK zbR:=by
 rintro ds S Q ex ⟨w,l,k,vs,st,p,p',nm,a,b,rfl,W,lt,gr,hp,hp',bd,qx,q⟩;unfold zdK;obtain⟨v,hv,hat,hvt,ok⟩:=W.last hp;have hw:=W.w;have hl0:=W.l;have hl:Lst S (.ref l) (vs.map D.ref):=Lst.here W.l;have lb:=ok.bd.lb;obtain⟨g,bn,f,h1,h2,h3,h4⟩:=hvt;walk_at"g";refine zaN (Lst.here (zN h3)) Lst.at0 (by simp;unfold big;lia) (zaH ?_);have e:p.1.map bcD++[D.tup [.str nm,.int a,.int b]]=p'.1.map bcD:=by rw[hp',List.map_append];rfl
 have h4':(S++([Cell.lst [D.tup [.str nm,.int a,.int b]]]++[.lst (p.1.map bcD++[D.tup [.str nm,.int a,.int b]])]))[f]?=some (.lst (p'.2.map fgL)):=by rw[hp'];exact zN h4
 have h1':(S++([Cell.lst [D.tup [.str nm,.int a,.int b]]]++[.lst (p.1.map bcD++[D.tup [.str nm,.int a,.int b]])]))[v]?=some _:=zN h1;walk_at"g";refine⟨w,l,k,vs,st,p',_,_,rfl,W.old,lt,gr,e▸Lst.new,Lst.here h4',bd,fun c hc T=>?_,fun hc S' vs' C W'=>fin_same (q hc S' vs' (Chg.app.trans C) W')⟩;rw[List.append_assoc];exact qx c hc _
def zc7:DSp:=fun ds S Q=>∃ (v:Nat) (k:VKc) (p:BG),ds=[.ref v]/\VtL S k v p/\p.1.length<=100/\New Q S ((p.1.map (·.1)).map D.str)
abbrev zfG:DS :=(zy (dLC 1 [] (zaS (zL "beacons" vr0)) gn0 zan zaB))
def zih:BodyOk 1 zfG zc7:=by
 rintro ds S Q ⟨v,k,p,rfl,hv,hl,q⟩;unfold zfG;obtain⟨g,b',f,hm,hg,hb,_⟩:=hv;walk_at"g";refine zY (fun _=>true) (zeX fun b=>.str b.1) (Lst.here hb) (by rw[List.length_map];unfold big;lia) (fun i d ys hd hw=>?_) ?_
 ·obtain⟨b,_,rfl⟩:=zbd hd;walk_at"g";exact zar hd hw rfl rfl
 rw[filter_true,zbU,show p.1.map (fun b=>D.str b.1)=(p.1.map (·.1)).map D.str by rw[List.map_map];rfl];exact fin_same q
def zaL:zU:=fun ds S Q ex=>∃ (v:Nat) (k:VKc) (p:BG) (n:Str),ds=[.ref v,.str n]/\VtL S k v p/\zax k p/\fl 20 (.str n)=true/\(n∉p.1.map (·.1)->∀ T,ex "NoBeacon" (S++T))/\(n∈p.1.map (·.1)->Q .non S)
abbrev zca (ex:XR):DS :=(sIf (dT (dOp zfw vr1 (dCall zc7 ua0))) (zaA ex "NoBeacon") zu)
def zdM:zM 2 zca zaL:=by
 rintro ds S Q ex ⟨v,k,p,n,rfl,hv,ok,hn,hx,q⟩;unfold zca;have lb:=ok.bd.lb;walk_at"g";refine⟨v,k,p,rfl,hv,by lia,?_⟩;walk_at"g";refine zk3 (.inr Lst.at0) hn ok.fl ?_;walk_at"g";refine zea (fun h=>?_) (fun h=>?_)
 ·walk_at"g";exact hx h _
 ·walk_at"g";exact za4 rfl (q h)
def zch:zU:=fun ds S Q ex=>∃ (w l:Nat) (k:VKc) (vs:List Nat) (st:List BG) (p p':BG) (nm:Str),ds=[.ref w,.str nm]/\WAt S k w l vs st/\st.length<100/\Grd k.cs/\st.getLast?=some p/\fl 20 (.str nm)=true/\p'=(p.1.filter (fun b=>decide (b.1≠nm)),p.2)/\(nm∈p.1.map (·.1)->VBd p'.1 p'.2)/\(nm∉p.1.map (·.1)->∀ T,ex "NoBeacon" (S++T))/\(nm∈p.1.map (·.1)->∀ c,k.cl p' (some c)->∀ T,ex c (S++T))/\(nm∈p.1.map (·.1)->k.cl p' none->∀ S' vs',Chg l S S'->WAt S' k w l vs' (st++[p'])->Q (.int st.length) S')
abbrev zd3 (ex : XR) : DS :=
    (zj (zp (dOp oIx (zL "stages" vr0) (dUn zaj ci1)) gn2)
 (zj (zaU (zak zaL ex (za vr2 ua1)))
 (zy (zae "Watch" "stand_by" zab ex vr0 (za (dLC 1 [1] (zaS (zL "beacons" vr2)) gn0 (dT (dOp oNe zaB vr1)) vr0) (za (zL "fogs" vr2) zf))))))
def zgz:zM 3 zd3 zch:=by
 rintro ds S Q ex ⟨w,l,k,vs,st,p,p',nm,rfl,W,lt,gr,hp,fn,hp',bd,qn,qx,q⟩;unfold zd3;obtain⟨v,hv,hat,hvt,ok⟩:=W.last hp;have hw:=W.w;have hl0:=W.l;have hl:Lst S (.ref l) (vs.map D.ref):=Lst.here W.l;have lb:=ok.bd.lb;have lg:=ok.bd.lg;have hvt0:=hvt;obtain⟨g,bn,f,h1,h2,h3,h4⟩:=hvt;walk_at"g";refine⟨v,k,p,nm,rfl,hvt0,ok,fn,qn,fun hin=>?_⟩;walk_at"g";refine zY (zgK fun b=>decide (b.1≠nm)) id (Lst.here h3) (by rw[List.length_map];unfold big;lia) (fun i d ys hd hw'=>?_) ?_
 ·obtain⟨b,hb,rfl⟩:=zbd hd;walk_at"g";refine zj8 (ok.fl _ (List.mem_map.mpr ⟨b,List.mem_of_getElem? hb,rfl⟩)) fn ?_;walk_at"g";refine zea (fun h=>?_) (fun h=>?_)
  ·walk_at"g";exact zar hd hw' (decide_eq_true h) rfl
  ·walk_at"g";exact zmU hd hw' (decide_eq_false fun z=>z h)
 rw[List.map_id,List.filter_map,show(zgK (fun b=>decide (b.1≠nm)) ∘ bcD)=(fun b=>decide (b.1≠nm))from rfl];have e:(p.1.filter fun b=>decide (b.1≠nm)).map bcD=p'.1.map bcD:=by rw[hp']
 rw[e];refine zex ?_;have h4':(S++[Cell.lst (p'.1.map bcD)])[f]?=some (.lst (p'.2.map fgL)):=by rw[hp'];exact zN h4
 have h1':(S++[Cell.lst (p'.1.map bcD)])[v]?=some _:=zN h1;walk_at"g";refine⟨w,l,k,vs,st,p',_,_,rfl,W.old,lt,gr,Lst.at0,Lst.here h4',bd hin,fun c hc T=>?_,fun hc S' vs' C W'=>fin_same (q hin hc S' vs' (Chg.app.trans C) W')⟩;rw[List.append_assoc];exact qx hin c hc _
def zbo:zU:=fun ds S Q ex=>∃ (w l:Nat) (k:VKc) (vs:List Nat) (st:List BG) (p p':BG) (nm:Str) (z:Int),ds=[.ref w,.str nm,.int z]/\WAt S k w l vs st/\st.length<100/\Grd k.cs/\st.getLast?=some p/\fl 20 (.str nm)=true/\p'=(p.1.map (fun b=>if b.1=nm then(b.1,(b.2.1,z))else b),p.2)/\(nm∈p.1.map (·.1)->VBd p'.1 p'.2)/\(nm∉p.1.map (·.1)->∀ T,ex "NoBeacon" (S++T))/\(nm∈p.1.map (·.1)->∀ c,k.cl p' (some c)->∀ T,ex c (S++T))/\(nm∈p.1.map (·.1)->k.cl p' none->∀ S' vs',Chg l S S'->WAt S' k w l vs' (st++[p'])->Q (.int st.length) S')
abbrev zcD (ex : XR) : DS :=
    (zj (zp (dOp oIx (zL "stages" vr0) (dUn zaj ci1)) gn3)
 (zj (zaU (zak zaL ex (za vr3 ua1)))
 (zj (sJ (zp (dLC 1 [1,2] (zaS (zL "beacons" vr3)) gn0 zan (zjm (dT (dOp oEq zaB vr1)) (dTup (za zaB (za zcv ua2))) vr0)) gn4))
 (zy (zae "Watch" "stand_by" zab ex vr0 (za vr4 (za (zL "fogs" vr3) zf)))))))
def zeD:zM 5 zcD zbo:=by
 rintro ds S Q ex ⟨w,l,k,vs,st,p,p',nm,z,rfl,W,lt,gr,hp,fn,hp',bd,qn,qx,q⟩;unfold zcD;obtain⟨v,hv,hat,hvt,ok⟩:=W.last hp;have hw:=W.w;have hl0:=W.l;have hl:Lst S (.ref l) (vs.map D.ref):=Lst.here W.l;have lb:=ok.bd.lb;have lg:=ok.bd.lg;have hvt0:=hvt;obtain⟨g,bn,f,h1,h2,h3,h4⟩:=hvt;walk_at"g";refine⟨v,k,p,nm,rfl,hvt0,ok,fn,qn,fun hin=>?_⟩;walk_at"g";refine zui ?_;walk_at"g";refine zY (fun _=>true) (zeX fun b=>bcD (if b.1=nm then(b.1,(b.2.1,z))else b)) (Lst.here h3) (by rw[List.length_map];unfold big;lia) (fun i d ys hd hw'=>?_) ?_
 ·obtain⟨b,hb,rfl⟩:=zbd hd;walk_at"g";refine zay (ok.fl _ (List.mem_map.mpr ⟨b,List.mem_of_getElem? hb,rfl⟩)) fn ?_;walk_at"g";refine r_d (fun h=>?_) (fun h=>?_)
  ·walk_at"g";exact zar hd hw' rfl (by show _=bcD (if b.1=nm then(b.1,(b.2.1,z))else b);rw[if_pos h])
  ·walk_at"g";exact zar hd hw' rfl (by show _=bcD (if b.1=nm then(b.1,(b.2.1,z))else b);rw[if_neg h])
 rw[filter_true,zbU];have e:p.1.map (fun b=>bcD (if b.1=nm then(b.1,(b.2.1,z))else b))=p'.1.map bcD:=by rw[hp',List.map_map];rfl
 rw[e];refine zex ?_;have h4':(S++[Cell.lst (p'.1.map bcD)])[f]?=some (.lst (p'.2.map fgL)):=by rw[hp'];exact zN h4
 have h1':(S++[Cell.lst (p'.1.map bcD)])[v]?=some _:=zN h1;walk_at"g";refine⟨w,l,k,vs,st,p',_,_,rfl,W.old,lt,gr,Lst.at0,Lst.here h4',bd hin,fun c hc T=>?_,fun hc S' vs' C W'=>fin_same (q hin hc S' vs' (Chg.app.trans C) W')⟩;rw[List.append_assoc];exact qx hin c hc _
def zbn:zU:=fun ds S Q ex=>∃ (w l:Nat) (k:VKc) (vs:List Nat) (st:List BG) (p p':BG) (gs:List Int),ds=[.ref w,fgL gs]/\WAt S k w l vs st/\st.length<100/\Grd k.cs/\st.getLast?=some p/\p'=(p.1,p.2++[gs])/\VBd p'.1 p'.2/\(∀ c,k.cl p' (some c)->∀ T,ex c (S++T))/\(k.cl p' none->∀ S' vs',Chg l S S'->WAt S' k w l vs' (st++[p'])->Q (.int st.length) S')
abbrev zcJ (ex : XR) : DS :=
    (zj (zp (dOp oIx (zL "stages" vr0) (dUn zaj ci1)) gn2)
 (zy (zae "Watch" "stand_by" zab ex vr0 (za (zL "beacons" vr2) (za (dOp zJ (zL "fogs" vr2) (zaG ua1)) zf)))))
def zeE:zM 3 zcJ zbn:=by
 rintro ds S Q ex ⟨w,l,k,vs,st,p,p',gs,rfl,W,lt,gr,hp,hp',bd,qx,q⟩;unfold zcJ;obtain⟨v,hv,hat,hvt,ok⟩:=W.last hp;have hw:=W.w;have hl0:=W.l;have hl:Lst S (.ref l) (vs.map D.ref):=Lst.here W.l;have lb:=ok.bd.lb;have lg:=ok.bd.lg;have hvt0:=hvt;obtain⟨g,bn,f,h1,h2,h3,h4⟩:=hvt;walk_at"g";refine zaN (Lst.here (zN h4)) Lst.at0 (by simp;unfold big;lia) (zaH ?_);have e:p.2.map fgL++[fgL gs]=p'.2.map fgL:=by rw[hp',List.map_append];rfl
 have h3':(S++([Cell.lst [fgL gs]]++[.lst (p.2.map fgL++[fgL gs])]))[bn]?=some (.lst (p'.1.map bcD)):=by rw[hp'];exact zN h3
 walk_at"g";refine⟨w,l,k,vs,st,p',_,_,rfl,W.old,lt,gr,?_,?_,bd,fun c hc T=>?_,fun hc S' vs' C W'=>fin_same (q hc S' vs' (Chg.app.trans C) W')⟩
 ·exact Lst.here h3'
 ·exact e▸Lst.new
 rw[List.append_assoc];exact qx c hc _
def zcp:zU:=fun ds S Q ex=>∃ (w l:Nat) (k:VKc) (vs:List Nat) (st:List BG) (p p':BG) (n:Int),ds=[.ref w,.int n]/\WAt S k w l vs st/\st.length<100/\Grd k.cs/\st.getLast?=some p/\p'=(p.1,p.2.take n.toNat++p.2.drop (n.toNat+1))/\(0<=n->n<p.2.length->VBd p'.1 p'.2)/\(n<0\/p.2.length<=n->∀ T,ex "NoFog" (S++T))/\(0<=n->n<p.2.length->∀ c,k.cl p' (some c)->∀ T,ex c (S++T))/\(0<=n->n<p.2.length->k.cl p' none->∀ S' vs',Chg l S S'->WAt S' k w l vs' (st++[p'])->Q (.int st.length) S')
abbrev zed (ex : XR) : DS :=
    (zj (zp (dOp oIx (zL "stages" vr0) (dUn zaj ci1)) gn2)
 (zj (sIf (dOr (dT (dOp oLt vr1 ci0)) (dT (dOp oGe vr1 (dB z8 (za (zL "fogs" vr2) zf))))) (zaA ex "NoFog") zu)
 (zy (zae "Watch" "stand_by" zab ex vr0 (za (zL "beacons" vr2) (za (dOp zJ (dSl zbG (zL "fogs" vr2) none (some vr1)) (dSl zbG (zL "fogs" vr2) (some (dOp zJ vr1 ci1)) none)) zf))))))
def zgF:zM 3 zed zcp:=by
 rintro ds S Q ex ⟨w,l,k,vs,st,p,p',n,rfl,W,lt,gr,hp,hp',bd,qn,qx,q⟩;unfold zed;obtain⟨v,hv,hat,hvt,ok⟩:=W.last hp;have hw:=W.w;have hl0:=W.l;have hl:Lst S (.ref l) (vs.map D.ref):=Lst.here W.l;have lb:=ok.bd.lb;have lg:=ok.bd.lg;have hvt0:=hvt;obtain⟨g,bn,f,h1,h2,h3,h4⟩:=hvt;walk_at"g";refine r_d (fun g0=>?_) (fun g0=>?_)
 ·walk_at"g";have:=qn (.inl g0) [];rwa[List.append_nil]at this
 walk_at"g";rw[List.length_map];refine r_d (fun g1=>?_) (fun g1=>?_)
 ·walk_at"g";have:=qn (.inr g1) [];rwa[List.append_nil]at this
 have n0:0<=n:=by lia
 have n1:n<p.2.length:=by lia
 have e:cutD (p.2.map fgL) none (some n)++cutD (p.2.map fgL) (some (n+1)) none=p'.2.map fgL:=by rw[zcA,zcA,zeU _ n0 (by lia),zht _ (by lia) (by lia),hp',<- List.map_append,show(n+1).toNat=n.toNat+1 by lia]
 have l1:(cutD (p.2.map fgL) none (some n)).length+(cutD (p.2.map fgL) (some (n+1)) none).length<=big:=by rw[<- List.length_append,e,List.length_map];have:=(bd n0 n1).lg;unfold big;lia
 walk_at"g";refine zaN Lst.at0 (Lst.at (k:=1) rfl) l1 (zaH ?_);rw[e];have h3':∀ T,(S++T)[bn]?=some (.lst (p'.1.map bcD)):=fun T=>by rw[hp'];exact zN h3
 walk_at"g";refine⟨w,l,k,vs,st,p',_,_,rfl,W.old,lt,gr,Lst.here (h3' _),Lst.new,bd n0 n1,fun c hc T=>?_,fun hc S' vs' C W'=>fin_same (q n0 n1 hc S' vs' (Chg.app.trans C) W')⟩;rw[List.append_assoc];exact qx n0 n1 c hc _
def zbr:zU:=fun ds S Q ex=>∃ (w l:Nat) (k:VKc) (vs:List Nat) (st:List BG),ds=[.ref w]/\WAt S k w l vs st/\(st.length=1->∀ T,ex "NothingBack" (S++T))/\(∀ st' p,st=st'++[p]->0<st'.length->∀ S' vs',Chg l S S'->WAt S' k w l vs' st'->Q (.int ((st'.length:Int)-1)) S')
abbrev zdQ (ex : XR) : DS :=
    (zj (sIf (dT (dOp oEq (zae "Watch" "deeds" zaZ ex vr0 zf) ci0)) (zaA ex "NothingBack") zu)
 (zj (zaU (dM zjk (zL "stages" vr0) zf))
 (zy (zae "Watch" "deeds" zaZ ex vr0 zf))))
def zgE:zM 1 zdQ zbr:=by
 rintro ds S Q ex ⟨w,l,k,vs,st,rfl,W,qn,q⟩;unfold zdQ;have hw:=W.w;have hl0:=W.l;have n0:=W.n0;have hn:=W.n;walk_at"g";refine⟨w,l,k,vs,st,rfl,W,?_⟩;walk_at"g";refine r_d (fun h=>?_) (fun h=>?_)
 ·walk_at"g";have:=qn (by lia) [];rwa[List.append_nil]at this
 obtain⟨st',p,rfl⟩:∃ st' p,st=st'++[p]:=⟨st.dropLast,st.getLast (by intro e;rw[e]at n0;cases n0),(List.dropLast_concat_getLast _).symm⟩
 rw[List.length_append]at hn h;obtain⟨vs',v,rfl⟩:∃ vs' v,vs=vs'++[v]:=⟨vs.dropLast,vs.getLast (by intro e;rw[e]at hn;simp at hn),(List.dropLast_concat_getLast _).symm⟩
 have hl1:S[l]?=some (.lst (vs'.map D.ref++[.ref v])):=by rw[hl0,List.map_append];rfl
 walk_at"g";refine ztd hl1 (zjh ?_);have C:Chg l S (S.set l (.lst (vs'.map D.ref))):=Chg.set;have W':=W.drop C (List.getElem?_set_self (zV hl1)) (by rw[List.length_singleton]at h;lia);generalize S.set l (.lst (vs'.map D.ref))=S' at C W';have hw':=W'.w;walk_at"g";exact⟨w,l,k,_,_,rfl,W',fin_same (q st' p rfl W'.n0 S' vs' C W')⟩
def zom {i:Nat}{ok:List Str}{b:XR->DS}{h:DS}{Z:Rho}{S:Sto}{nx:Rho->Sto->Prop}{rt:DK}{bk ct:Rho->Sto->Prop}(g:∀ (NX:Rho->Sto->Prop) (EX:XR),(∀ Z S,nx Z S->NX Z S)->(∀ ρ' c S',ok.contains c=true->h ⟨fun ρ2 S2=>NX (ρ2.set i none) S2,rt,fun _ _=>False,fun _ _=>False⟩ (ρ'.set i (some (.exn c))) S'->EX ρ' c S')->b EX ⟨NX,rt,bk,ct⟩ Z S):zjx i ok b h ⟨nx,rt,bk,ct⟩ Z S:=g nx _ (fun _ _ h=>h) fun _ _ _ a b=>⟨a,b⟩
def excs:List Str:=["TooMany","BadName","Twice","OffGround","BadFog","NoBeacon","NoFog","NothingBack"]
def zlx:D->D
 |.bl b=>.int (if b=true then 1 else 0)
 |d=>d
def tb8 (j:Nat):List Bool:=(List.range 8).map (·==j)
def zoP:∀ j:_root_.Fin 8,((tb8 j.val).map fun b=>if b=true then(1:Int)else 0).sum=1:=by decide +kernel
def zkX:∀ j:_root_.Fin 8,(tb8 j.val)[j.val]?=some true/\∀ m:_root_.Fin 8,m.val<j.val->(tb8 j.val)[m.val]?=some false:=by decide +kernel
def zr2 {k:VKc}{p:BG}{c:Str}(h:k.cl p (some c))(nb:¬ zdZ k.hz k.h0 k.h1 k.dl):c∈excs:=by
  have:c="TooMany"\/c="BadName"\/c="Twice"\/c="OffGround"\/c="BadFog":=by
    unfold VKc.cl VCl at h;rcases h with⟨_,h⟩|⟨_,⟨_,h⟩|⟨_,⟨_,h⟩|⟨_,⟨_,h⟩|⟨_,⟨_,h⟩|⟨_,⟨hb,_⟩|⟨_,h⟩⟩⟩⟩⟩⟩
    . exact .inl (Option.some.inj h)
    . exact .inr (.inl (Option.some.inj h))
    . exact .inr (.inr (.inl (Option.some.inj h)))
    . exact .inr (.inr (.inr (.inl (Option.some.inj h))))
    . exact .inr (.inr (.inr (.inr (Option.some.inj h))))
    . exact absurd hb nb
    . cases h
  rcases this with rfl|rfl|rfl|rfl|rfl<;>simp[excs]
def zbO:DSp:=fun ds S Q=>∃ (d:zdF) (k:VKc) (w l:Nat) (vs:List Nat) (st:List BG) (u:Unit) (u2:Unit),ds=[.ref w,ddD d]/\zjq d/\WAt S k w l vs st/\st.length<100/\Grd k.cs/\¬ zdZ k.hz k.h0 k.h1 k.dl/\∀ S' vs' r st',Chg l S S'->WAt S' k w l vs' st'->outD k d st r st'->Q (.tup [.int r,if r=-1 then .int ((st'.length:Int)-1)else .non]) S'
abbrev zeO:DS :=
    (zj (zp vr1 (zbW 4 (z9 gn2 (z9 gn3 (z9 gn4 (z9 gn5 zbP))))))
 (zj (zp (dC .non) gn6)
 (zj (zp (zaG zf) gn7)
 (zj (zjx 8 ["BadGround","OffGround","BadFog","BadName","Twice","TooMany","BadHour","NoBeacon","NoFog","NothingBack"] (fun ex=>(sIf (dT (dOp oEq vr2 (dC (.str "build")))) (zp (zae "Watch" "build" zbR ex vr0 (za zen (za zjz (za zmx zf)))) gn6) (sIf (dT (dOp oEq vr2 (dC (.str "raze")))) (zp (zae "Watch" "raze" zch ex vr0 (za zen zf)) gn6) (sIf (dT (dOp oEq vr2 (dC (.str "raise")))) (zp (zae "Watch" "raise_to" zbo ex vr0 (za zen (za zmx zf))) gn6) (sIf (dT (dOp oEq vr2 (dC (.str "foretell")))) (zp (zae "Watch" "foretell" zbn ex vr0 ua4) gn6) (sIf (dT (dOp oEq vr2 (dC (.str "lift")))) (zp (zae "Watch" "lift" zcp ex vr0 ua5) gn6) (zp (zae "Watch" "back" zbr ex vr0 zf) gn6))))))) (zj (zp (zaG (za (zbX [("BadGround",false),("OffGround",false),("BadFog",false),("BadName",false),("Twice",false),("TooMany",true),("BadHour",false),("NoBeacon",false),("NoFog",false),("NothingBack",false)] vr8) (za (zbX [("BadGround",false),("OffGround",false),("BadFog",false),("BadName",true),("Twice",false),("TooMany",false),("BadHour",false),("NoBeacon",false),("NoFog",false),("NothingBack",false)] vr8) (za (zbX [("BadGround",false),("OffGround",false),("BadFog",false),("BadName",false),("Twice",true),("TooMany",false),("BadHour",false),("NoBeacon",false),("NoFog",false),("NothingBack",false)] vr8) (za (zbX [("BadGround",false),("OffGround",true),("BadFog",false),("BadName",false),("Twice",false),("TooMany",false),("BadHour",false),("NoBeacon",false),("NoFog",false),("NothingBack",false)] vr8) zf))))) gn7)
 (zj (zp (dOp zJ vr7 (zaG (za (zbX [("BadGround",false),("OffGround",false),("BadFog",true),("BadName",false),("Twice",false),("TooMany",false),("BadHour",false),("NoBeacon",false),("NoFog",false),("NothingBack",false)] vr8) (za (zbX [("BadGround",false),("OffGround",false),("BadFog",false),("BadName",false),("Twice",false),("TooMany",false),("BadHour",false),("NoBeacon",true),("NoFog",false),("NothingBack",false)] vr8) (za (zbX [("BadGround",false),("OffGround",false),("BadFog",false),("BadName",false),("Twice",false),("TooMany",false),("BadHour",false),("NoBeacon",false),("NoFog",true),("NothingBack",false)] vr8) zf))))) gn7)
 (zaU (dM zbC vr7 (za (zbX [("BadGround",false),("OffGround",false),("BadFog",false),("BadName",false),("Twice",false),("TooMany",false),("BadHour",false),("NoBeacon",false),("NoFog",false),("NothingBack",true)] vr8) zf))))))
 (zj (sIf (dT (dOp oEq (dB zjI (za (dLC 1 [] (zaS vr7) gn0 zan (dB zef ua0)) zf)) ci1)) (zy (dTup (za (dM zfB vr7 (za (dC (.bl true)) zf)) ua6))) zu)
 (zy (dTup (za (dOp zap (dUn zaj ci1) (dB zef (za (dOp oGt (dB z8 ua7) ci0) zf))) ua6))))))))
def zhJ:BodyOk 9 zeO zbO:=by
  rintro ds S Q ⟨d,k,w,l,vs,st,_,_,rfl,od,W,lt,gr,nb,q⟩;unfold zeO;have fw:=zfZ _ od.w;have fs:∀ z∈["build","raze","raise","foretell","lift","back"],fl 20 (.str z)=true:=by decide +kernel
  have fn:=od.f;obtain⟨p,hp⟩:∃ p,st.getLast?=some p:=⟨_,List.getLast?_eq_some_getLast (by have:=W.n0;intro e;rw[e]at this;cases this)⟩
  obtain⟨vl,_,_,_,ok⟩:=W.last hp;have hw:=W.w;have ll:l<S.length:=zV W.l;have bd0:=ziK ok od;have bdk:=od;obtain⟨wy,nm,s,g,n⟩:=d;dsimp only at fw fn;unfold ddD;dsimp only
  repeat (first | with_reducible refine zom (fun NX EX hNX hEX=>?_) | walk_at"dr1")
  walk_at"h"
  have tailX:∀ (j:_root_.Fin 8) (S':Sto) (r:Nat),S'[r]?=some (.lst ((tb8 j.val).map D.bl))->Chg l S S'->WAt S' k w l vs st->outD k ⟨wy,nm,s,g,n⟩ st (j.val:Nat) st->NX [some (.ref w),some (.tup [.str wy,bcD (nm,s),fgL g,.int n]),some (.str wy),some (bcD (nm,s)),some (fgL g),some (.int n),some .non,some (.ref r),none] S':=fun j S' r hr C W' o=>by
    refine hNX _ _ ?_;have hl:Lst S' (.ref r) ((tb8 j.val).map D.bl):=Lst.here hr;walk_at"g";refine zY (fun _=>true) zlx hl (by rw[List.length_map];show 8<=big;unfold big;decide) (fun i d ys hd hw=>?_) ?_
    . rw[List.getElem?_map]at hd;obtain⟨b,hb,rfl⟩:=Option.map_eq_some_iff.mp hd;walk_at"g";exact zar (by rw[List.getElem?_map,hb];rfl) hw rfl rfl
    rw[filter_true,show((tb8 j.val).map D.bl).map zlx=((tb8 j.val).map fun b=>if b=true then(1:Int)else 0).map D.int by rw[List.map_map,List.map_map];rfl];refine zex ?_;walk_at"g";refine zmG Lst.at0 ?_;rw[zoP j];walk_at"g";refine r_d (fun _=>?_) (fun z=>absurd rfl z);walk_at"g";refine znW (n:=r) (j:=j.val) (e:=.bl true) (zN hr) (by rw[List.all_map,List.all_eq_true];exact fun _ _=>rfl) rfl (by rw[List.length_map];show 8<=big;unfold big;decide) (by rw[List.getElem?_map,(zkX j).1];rfl) rfl (fun m e' hm he=>?_) ?_
    . rw[List.getElem?_map,(zkX j).2 ⟨m,by lia⟩ hm]at he;cases he;rfl
    walk_at"g"
    have qT:∀ T,Q (.tup [.int (j.val:Nat),.non]) (S'++T):=fun T=>by have:=q (S'++T) vs (j.val:Nat) st (C.trans Chg.app) W'.old o;rwa[if_neg (by lia)]at this
    exact fin_same (qT _)
  have tailN:∀ (S':Sto) (vs':List Nat) (st':List BG) (fd:Int),Chg l S S'->S'[S.length]?=some (.lst [])->WAt S' k w l vs' st'->outD k ⟨wy,nm,s,g,n⟩ st (-1) st'->fd=(st'.length:Int)-1->NX [some (.ref w),some (.tup [.str wy,bcD (nm,s),fgL g,.int n]),some (.str wy),some (bcD (nm,s)),some (fgL g),some (.int n),some (.int fd),some (.ref S.length),none] S':=fun S' vs' st' fd C hr W' o ef=>by
    subst ef;refine hNX _ _ ?_;have hl:Lst S' (.ref S.length) []:=Lst.here hr;walk_at"g";refine zY (fun _=>true) zlx hl (by unfold big;decide) (fun i d ys hd hw=>by cases hd) ?_;rw[filter_true];refine zex ?_;walk_at"g";refine zmG (ns:=[]) Lst.at0 ?_;walk_at"g";refine r_d (fun z=>absurd z (by decide)) (fun _=>?_);have hl2:∀ T,Lst (S'++T) (.ref S.length) []:=fun T=>hl.old
    walk_at"g"
    have qT:∀ T,Q (.tup [.int (-1),.int ((st'.length:Int)-1)]) (S'++T):=fun T=>by have:=q (S'++T) vs' (-1) st' (C.trans Chg.app) W'.old o;rwa[if_pos rfl]at this
    exact fin_same (qT _)
  clear hNX
  have hx:∀ (c:Str) (S':Sto),c∈excs->Chg l S S'->WAt S' k w l vs st->outD k ⟨wy,nm,s,g,n⟩ st (zaK (some c)) st->EX [some (.ref w),some (.tup [.str wy,bcD (nm,s),fgL g,.int n]),some (.str wy),some (bcD (nm,s)),some (fgL g),some (.int n),some .non,some (.ref S.length),none] c S':=fun c S' hc C W' o=>by
    have C2:∀ T,Chg l S (S'++T):=fun T=>C.trans Chg.app
    have W2:∀ T,WAt (S'++T) k w l vs st:=fun T=>W'.old
    have hc:c="TooMany"\/c="BadName"\/c="Twice"\/c="OffGround"\/c="BadFog"\/c="NoBeacon"\/c="NoFog"\/c="NothingBack":=by simpa [excs]using hc
    obtain⟨k0,k1,k2,k3,k4,k5,k6,k7⟩:=zf9;rcases hc with rfl|rfl|rfl|rfl|rfl|rfl|rfl|rfl
    case inl =>refine hEX _ _ _ (by decide +kernel) ?_;walk_at"g";refine zaN Lst.at0 (Lst.at (k:=1) rfl) (Nat.le_of_ble_eq_true rfl) ?_;walk_at"g";walk_at"j";refine tailX ⟨0,by decide⟩ _ _ ?_ (C2 _) (W2 _) (k0▸o);exact(zQ _ _ 2).trans rfl
    case inr.inl =>refine hEX _ _ _ (by decide +kernel) ?_;walk_at"g";refine zaN Lst.at0 (Lst.at (k:=1) rfl) (Nat.le_of_ble_eq_true rfl) ?_;walk_at"g";walk_at"j";refine tailX ⟨1,by decide⟩ _ _ ?_ (C2 _) (W2 _) (k1▸o);exact(zQ _ _ 2).trans rfl
    case inr.inr.inl =>refine hEX _ _ _ (by decide +kernel) ?_;walk_at"g";refine zaN Lst.at0 (Lst.at (k:=1) rfl) (Nat.le_of_ble_eq_true rfl) ?_;walk_at"g";walk_at"j";refine tailX ⟨2,by decide⟩ _ _ ?_ (C2 _) (W2 _) (k2▸o);exact(zQ _ _ 2).trans rfl
    case inr.inr.inr.inl =>refine hEX _ _ _ (by decide +kernel) ?_;walk_at"g";refine zaN Lst.at0 (Lst.at (k:=1) rfl) (Nat.le_of_ble_eq_true rfl) ?_;walk_at"g";walk_at"j";refine tailX ⟨3,by decide⟩ _ _ ?_ (C2 _) (W2 _) (k3▸o);exact(zQ _ _ 2).trans rfl
    case inr.inr.inr.inr.inl =>refine hEX _ _ _ (by decide +kernel) ?_;walk_at"g";refine zaN Lst.at0 (Lst.at (k:=1) rfl) (Nat.le_of_ble_eq_true rfl) ?_;walk_at"g";walk_at"j";refine tailX ⟨4,by decide⟩ _ _ ?_ (C2 _) (W2 _) (k4▸o);exact(zQ _ _ 2).trans rfl
    case inr.inr.inr.inr.inr.inl =>refine hEX _ _ _ (by decide +kernel) ?_;walk_at"g";refine zaN Lst.at0 (Lst.at (k:=1) rfl) (Nat.le_of_ble_eq_true rfl) ?_;walk_at"g";walk_at"j";refine tailX ⟨5,by decide⟩ _ _ ?_ (C2 _) (W2 _) (k5▸o);exact(zQ _ _ 2).trans rfl
    case inr.inr.inr.inr.inr.inr.inl =>refine hEX _ _ _ (by decide +kernel) ?_;walk_at"g";refine zaN Lst.at0 (Lst.at (k:=1) rfl) (Nat.le_of_ble_eq_true rfl) ?_;walk_at"g";walk_at"j";refine tailX ⟨6,by decide⟩ _ _ ?_ (C2 _) (W2 _) (k6▸o);exact(zQ _ _ 2).trans rfl
    case inr.inr.inr.inr.inr.inr.inr =>refine hEX _ _ _ (by decide +kernel) ?_;walk_at"g";refine zaN Lst.at0 (Lst.at (k:=1) rfl) (Nat.le_of_ble_eq_true rfl) ?_;walk_at"g";walk_at"j";refine tailX ⟨7,by decide⟩ _ _ ?_ (C2 _) (W2 _) (k7▸o);exact(zQ _ _ 2).trans rfl
  have good:∀ p':BG,wy≠"back"->zE ⟨wy,nm,s,g,n⟩ p=(-1,p')->k.cl p' none->outD k ⟨wy,nm,s,g,n⟩ st (-1) (st++[p']):=fun p' nb e c=>.inr ⟨nb,p,hp,.inr ⟨by rw[e],none,by rw[e];exact c,rfl,by rw[e];rfl⟩⟩
  have bad:∀ (p':BG) (c:Str),wy≠"back"->zE ⟨wy,nm,s,g,n⟩ p=(-1,p')->k.cl p' (some c)->outD k ⟨wy,nm,s,g,n⟩ st (zaK (some c)) st:=fun p' c nb e h=>.inr ⟨nb,p,hp,.inr ⟨by rw[e],some c,by rw[e];exact h,rfl,rfl⟩⟩
  have refd:∀ r:Int,wy≠"back"->zE ⟨wy,nm,s,g,n⟩ p=(r,p)->r≠-1->outD k ⟨wy,nm,s,g,n⟩ st r st:=fun r nb e h=>.inr ⟨nb,p,hp,.inl ⟨by rw[e];exact h,by rw[e],rfl⟩⟩
  obtain⟨_,_,_,_,_,k5,k6,k7⟩:=zf9;have W1:WAt (S++[Cell.lst []]) k w l vs st:=W.old;have kp:∀ S',Chg l (S++[Cell.lst []]) S'->S'[S.length]?=some (.lst []):=fun S' C=>C _ _ (by lia) zaz
  have nx1:∀ (S':Sto) (vs':List Nat) (p':BG),Chg l (S++[Cell.lst []]) S'->WAt S' k w l vs' (st++[p'])->outD k ⟨wy,nm,s,g,n⟩ st (-1) (st++[p'])->NX [some (.ref w),some (.tup [.str wy,bcD (nm,s),fgL g,.int n]),some (.str wy),some (bcD (nm,s)),some (fgL g),some (.int n),some (.int (st.length:Nat)),some (.ref S.length),none] S':=fun S' vs' p' C W' o=>tailN S' vs' _ _ (Chg.app.trans C) (kp S' C) W' o (by rw[List.length_append];simp)
  have ex1:∀ (p':BG) (c:Str) (T:Sto),wy≠"back"->zE ⟨wy,nm,s,g,n⟩ p=(-1,p')->k.cl p' (some c)->EX [some (.ref w),some (.tup [.str wy,bcD (nm,s),fgL g,.int n]),some (.str wy),some (bcD (nm,s)),some (fgL g),some (.int n),some .non,some (.ref S.length),none] c (S++[Cell.lst []]++T):=fun p' c T nbk e h=>hx c _ (zr2 h nb) (Chg.app.trans Chg.app) W1.old (bad p' c nbk e h)
  refine zay fw (fs "build" (by simp)) ?_;walk_at"g";refine r_d (fun h1=>?_) (fun h1=>?_)
  . have nbk:wy≠"back":=by rw[h1];decide +kernel
    have e:zE ⟨wy,nm,s,g,n⟩ p=(-1,(p.1++[(nm,s)],p.2)):=by unfold zE;rw[if_pos h1]
    rw[e]at bd0;walk_at"g";refine⟨w,l,k,vs,st,p,_,nm,s.1,s.2,rfl,W1,lt,gr,hp,rfl,bd0.1,fun c hc T=>ex1 _ c T nbk e hc,fun hc S' vs' C W'=>?_⟩;walk_at"g";exact nx1 S' vs' _ C W' (good _ nbk e hc)
  walk_at"g";have nob:¬ wy="build"->(wy="raze"\/wy="raise")->nm∉p.1.map (·.1)->zE ⟨wy,nm,s,g,n⟩ p=(5,p):=fun a b c=>by unfold zE;rw[if_neg a,if_pos ⟨b,c⟩]
  have ref5:∀ T:Sto,wy≠"back"->zE ⟨wy,nm,s,g,n⟩ p=(5,p)->EX [some (.ref w),some (.tup [.str wy,bcD (nm,s),fgL g,.int n]),some (.str wy),some (bcD (nm,s)),some (fgL g),some (.int n),some .non,some (.ref S.length),none] "NoBeacon" (S++[Cell.lst []]++T):=fun T nbk e=>hx _ _ (by simp[excs]) (Chg.app.trans Chg.app) W1.old (k5▸refd 5 nbk e (by decide))
  refine zay fw (fs "raze" (by simp)) ?_;walk_at"g";refine r_d (fun h2=>?_) (fun h2=>?_)
  . have nbk:wy≠"back":=by rw[h2];decide +kernel
    have e:nm∈p.1.map (·.1)->zE ⟨wy,nm,s,g,n⟩ p=(-1,(p.1.filter (fun b=>decide (b.1≠nm)),p.2)):=fun hin=>by unfold zE;rw[if_neg h1,if_neg (fun z=>z.2 hin),if_pos h2]
    walk_at"g";refine⟨w,l,k,vs,st,p,_,nm,rfl,W1,lt,gr,hp,fn,rfl,fun hin=>by rw[e hin]at bd0;exact bd0.1,fun hn T=>ref5 T nbk (nob h1 (.inl h2) hn),fun hin c hc T=>ex1 _ c T nbk (e hin) hc,fun hin hc S' vs' C W'=>?_⟩;walk_at"g";exact nx1 S' vs' _ C W' (good _ nbk (e hin) hc)
  walk_at"g";refine zay fw (fs "raise" (by simp)) ?_;walk_at"g";refine r_d (fun h3=>?_) (fun h3=>?_)
  . have nbk:wy≠"back":=by rw[h3];decide +kernel
    have e:nm∈p.1.map (·.1)->zE ⟨wy,nm,s,g,n⟩ p=(-1,(p.1.map (fun b=>if b.1=nm then(b.1,(b.2.1,s.2))else b),p.2)):=fun hin=>by unfold zE;rw[if_neg h1,if_neg (fun z=>z.2 hin),if_neg h2,if_pos h3]
    walk_at"g";refine⟨w,l,k,vs,st,p,_,nm,s.2,rfl,W1,lt,gr,hp,fn,rfl,fun hin=>by rw[e hin]at bd0;exact bd0.1,fun hn T=>ref5 T nbk (nob h1 (.inr h3) hn),fun hin c hc T=>ex1 _ c T nbk (e hin) hc,fun hin hc S' vs' C W'=>?_⟩;walk_at"g";exact nx1 S' vs' _ C W' (good _ nbk (e hin) hc)
  walk_at"g";have n2:¬ ((wy="raze"\/wy="raise")/\nm∉p.1.map (·.1)):=fun z=>z.1.elim h2 h3
  refine zay fw (fs "foretell" (by simp)) ?_;walk_at"g";refine r_d (fun h4=>?_) (fun h4=>?_)
  . have nbk:wy≠"back":=by rw[h4];decide +kernel
    have e:zE ⟨wy,nm,s,g,n⟩ p=(-1,(p.1,p.2++[g])):=by unfold zE;rw[if_neg h1,if_neg n2,if_neg h2,if_neg h3,if_pos h4]
    rw[e]at bd0;walk_at"g";refine⟨w,l,k,vs,st,p,_,g,rfl,W1,lt,gr,hp,rfl,bd0.1,fun c hc T=>ex1 _ c T nbk e hc,fun hc S' vs' C W'=>?_⟩;walk_at"g";exact nx1 S' vs' _ C W' (good _ nbk e hc)
  walk_at"g";refine zay fw (fs "lift" (by simp)) ?_;walk_at"g";refine r_d (fun h5=>?_) (fun h5=>?_)
  . have nbk:wy≠"back":=by rw[h5];decide +kernel
    have six:(n<0\/(p.2.length:Int)<=n)->zE ⟨wy,nm,s,g,n⟩ p=(6,p):=fun h=>by unfold zE;rw[if_neg h1,if_neg n2,if_neg h2,if_neg h3,if_neg h4,if_pos h]
    have e:0<=n->n<p.2.length->zE ⟨wy,nm,s,g,n⟩ p=(-1,(p.1,p.2.take n.toNat++p.2.drop (n.toNat+1))):=fun a b=>by unfold zE;rw[if_neg h1,if_neg n2,if_neg h2,if_neg h3,if_neg h4,if_neg (by show ¬ (n<0\/(p.2.length:Int)<=n);lia)]
    walk_at"g";refine⟨w,l,k,vs,st,p,_,n,rfl,W1,lt,gr,hp,rfl,fun a b=>by rw[e a b]at bd0;exact bd0.1,fun hn T=>?_,fun a b c hc T=>ex1 _ c T nbk (e a b) hc,fun a b hc S' vs' C W'=>?_⟩
    . exact hx _ _ (by simp[excs]) (Chg.app.trans Chg.app) W1.old (k6▸refd 6 nbk (six hn) (by decide))
    walk_at"g";exact nx1 S' vs' _ C W' (good _ nbk (e a b) hc)
  have hb:wy="back":=by
    have:=od.w;simp only[ways,List.mem_cons,List.not_mem_nil,or_false]at this;rcases this with h|h|h|h|h|h|h|h
    . exact absurd h h1
    . exact absurd h h1
    . exact absurd h h2
    . exact absurd h h3
    . exact absurd h h4
    . exact absurd h h4
    . exact absurd h h5
    . exact h
  walk_at"g";refine⟨w,l,k,vs,st,rfl,W1,fun h T=>?_,fun st' p' e lt0 S' vs' C W'=>?_⟩
  . exact hx _ _ (by simp[excs]) (Chg.app.trans Chg.app) W1.old (k7▸.inl ⟨hb,.inl ⟨h,rfl,rfl⟩⟩)
  walk_at"g";exact tailN S' vs' st' _ (Chg.app.trans C) (kp S' C) W' (.inl ⟨hb,.inr ⟨p',e,lt0,rfl⟩⟩) rfl
def zat:DSp:=fun ds S Q=>∃ (v:Nat) (k:VKc) (p:BG) (x y' z' y z:D) (a b c d e:Unit),ds=[.ref v,.tup [x,y',z',zaJ k.hz,.int k.h0,.int k.h1,.int k.dl],y,z]/\VtL S k v p/\zax k p/\Lst S x (k.cs.map p2)/\Lst S y (p.1.map bcD)/\Lst S z (p.2.map fgL)/\Q (.bl true) S
abbrev zcS:DS :=
    (zj (sIf (dOr (dT (dOp oNe (zL "beacons" vr0) vr2)) (dOr (dT (dOp oNe (zL "fogs" vr0) vr3)) (dT (dOp oNe (zL "corners" (zL "ground" vr0)) zcW)))) (zy (dC (.bl false))) zu)
 (zy (dOp oEq (dTup (za (zL "haze" vr0) (za (zL "first" vr0) (za (zL "last" vr0) (za (zL "delay" vr0) zf))))) (dSl zbG vr1 (some ci3) none))))
def zeT:BodyOk 4 zcS zat:=by
  rintro ds S Q ⟨v,k,p,x,y',z',y,z,_,_,_,_,_,rfl,hv,ok,hx,hy,hz,q⟩;unfold zcS;obtain⟨g,b,f,h1,⟨gn,gl,e1,h5,h6⟩,h3,h4⟩:=hv;cases e1
  have fb:(p.1.map bcD).all (fl 20)=true:=by rw[List.all_map,List.all_eq_true];intro b hb;have:fl 20 (.str b.1)=true:=ok.fl _ (List.mem_map.mpr ⟨b,hb,rfl⟩);show(fl 19 (.str b.1)&&true)=true;rw[Bool.and_true];exact this
  have ff:(p.2.map fgL).all (fl 20)=true:=by rw[List.all_map,List.all_eq_true];intro l hl;show(l.map D.int).all (fl 19)=true;rw[List.all_map,List.all_eq_true];exact fun _ _=>rfl
  have fc:(k.cs.map p2).all (fl 20)=true:=by rw[List.all_map,List.all_eq_true];exact fun _ _=>rfl
  walk_at"g";refine ze8 (Lst.here h3) hy fb ?_;walk_at"g";refine ze8 (Lst.here h4) hz ff ?_;walk_at"g";refine ze8 (Lst.here h6) hx fc ?_;walk_at"g";rw[show cutD [x,y',z',zaJ k.hz,D.int k.h0,D.int k.h1,D.int k.dl] (some 3) none=[zaJ k.hz,.int k.h0,.int k.h1,.int k.dl]from rfl];have ft:fl 20 (.tup [zaJ k.hz,.int k.h0,.int k.h1,.int k.dl])=true:=by cases k.hz<;>rfl
  exact⟨true,.inl ⟨ft,ft,(eqv_refl 20 _ ft).symm⟩,fin_same q⟩
abbrev zmL:DS :=
    (zj (zp (dCall zc3 (za (dCall zcK ua0) ua0)) gn1)
 (zj (zp (dCall zcZ ua1) gn2)
 (zj (zp (zak (zdc "Watch" zco) xF ua2) gn3)
 (zj (zp (zae "Watch" "valley_now" zas xF vr3 zf) gn4)
 (zj (zp (dCall zbK (za (dOp oDiv (dCall zaQ (za vr0 (za ci1 zf))) (dC (.int 30))) zf)) gn5)
 (zj (zp (zaG (za (dTup (za (dB zbb (za zfm zf)) (za (dB zbb (za zmP zf)) zf))) zf)) gn6)
 (zj (zp zgL gn7)
 (zj (zp (dB zbb (za (dSl zbG vr0 (some ci3) (some (dC (.int 63)))) zf)) gn8)
 (zj (zcX (zbm (za (dB z8 ua8) zf)) gn9 (zj (zp (dCall zc8 (za (dOp oIx vr8 vr9) (za vr9 (za vr1 ua5)))) zlQ)
 (zj (zp (dOp oIx vr6 (dUn zaj ci1)) (zbW 2 (z9 zjn (z9 zi3 zbP))))
 (zj (sJ (sIf (dT (dOp oEq zrt (dC (.str "back")))) (zj (zp (dOp oIx (zaG (za (dUn zaj ci1) (za ci7 zf))) (dB zef (za (dOp oEq (dB z8 ua6) ci1) zf))) zlM)
 (zp (dSl zbG vr6 none (some (dB zgT (za ci1 (za (dOp zap (dB z8 ua6) ci1) zf))))) gn6)) (zj (zp (dCall zcq (za zho (za zhU zlz))) (zbW 3 (z9 zlM (z9 zjn (z9 zi3 zbP)))))
 (zj (sJ (sIf (dT (dOp oEq zjC (dUn zaj ci1))) (zp (dCall zdE (za zcW (za zhU zlz))) zlM) zu))
 (sIf (dT (dOp oEq zjC (dUn zaj ci1))) (zaU (dM zbC vr6 (za (dTup (za zhU zlz)) zf))) zu)))))
 (zj (zp (dOp zap (dB z8 ua6) ci1) zrf)
 (zj (sJ (sIf (dT (dOp oGe zjC ci0)) (zp (dC .non) zrf) zu))
 (zj (sIf (dT (dOp oNe (dCall zbO (za vr3 zvr)) (dTup (za zjC zu6)))) (zy (dC (.bl false))) zu)
 (zj (sIf (zbe (dT (dCall zat (za vr4 (za vr1 (za zjL (za zi4 zf))))))) (zy (dC (.bl false))) zu)
 (zj (zp (zae "Watch" "valley_now" zas xF vr3 zf) gn4)
 (zj (zp (dOp oIx vr6 (dUn zaj ci1)) gn7)
 (sIf (zbe (dT (dCall zat (za vr4 (za vr1 (za zjL (za zi4 zf))))))) (zy (dC (.bl false))) zu)))))))))))
 (zj (zcX (zgR (za (dOp zap (dB z8 ua6) ci2) (za (dUn zaj ci1) (za (dUn zaj ci1) zf)))) gn9 (zj (sIf (dT (dOp oNe (zae "Watch" "back" zbr xF vr3 zf) vr9)) (zy (dC (.bl false))) zu)
 (sIf (zbe (dT (dCall zat (za (zae "Watch" "valley_now" zas xF vr3 zf) (za vr1 (za (dOp oIx (dOp oIx vr6 vr9) ci0) (za (dOp oIx (dOp oIx vr6 vr9) ci1) zf))))))) (zy (dC (.bl false))) zu)))
 (zj (sIf (zbe (dT (dCall zat (za vr2 (za vr1 (za (dOp oIx zgL ci0) (za (dOp oIx zgL ci1) zf))))))) (zy (dC (.bl false))) zu)
 (zy (dOp oEq (dCall zbO (za vr3 (za (dTup (za (dC (.str "back")) (za (dTup (za (dC (.str "")) (za ci0 (za ci0 zf)))) (za (dTup zf) (za ci0 zf))))) zf))) (dTup (za ci7 (za (dC .non) zf))))))))))))))))
def zqb:BodyOk 15 zmL zde:=by
  rintro ds S Q ⟨ns,rfl,⟨_,hg⟩,hl,q⟩;unfold zmL;walk_at"g";refine⟨ns,rfl,hl,fun T x y z V tv bh0 bh1 _ _ hv=>?_⟩;have ok:=tv.ok;generalize S++T=S1 at hv;walk_at"g";refine⟨V,ns,x,y,z,rfl,ok,hv,fun T1 bs gs y1 z1 so hy hz=>?_⟩;have hx:Lst (S1++T1) x ((zhC V).cs.map p2):=hv.1.old;have gr:Grd (zhC V).cs:=ok.gr;have hh:=ok.hh;obtain⟨k,hk⟩:∃ k,k=zhC V:=⟨_,rfl⟩
  have ehz:V.hz=k.hz:=by rw[hk];rfl
  have eh0:V.h0=k.h0:=by rw[hk];rfl
  have eh1:V.h1=k.h1:=by rw[hk];rfl
  have edl:V.dl=k.dl:=by rw[hk];rfl
  rw[<- hk]at so hx gr;rw[ehz,eh0,eh1,edl];rw[eh0]at hh bh0;rw[eh1]at hh bh1;obtain⟨p0,hp0⟩:∃ p0:BG,p0=(bs,gs):=⟨_,rfl⟩
  have hy:Lst (S1++T1) y1 (p0.1.map bcD):=by rw[hp0];exact hy
  have hz:Lst (S1++T1) z1 (p0.2.map fgL):=by rw[hp0];exact hz
  rw[<- hp0]at so;generalize S1++T1=S2 at hx hy hz;clear hk ehz eh0 eh1 edl hv hp0;walk_at"g";refine⟨k,p0,x,y1,z1,(),(),(),(),rfl,hx,gr,hy,hz,so,fun T2 hn _ hvt=>?_⟩
  replace hx:Lst (S2++T2) x (k.cs.map p2):=hx.old
  replace hy:Lst (S2++T2) y1 (p0.1.map bcD):=hy.old
  replace hz:Lst (S2++T2) z1 (p0.2.map fgL):=hz.old
  generalize S2++T2=S3 at hx hy hz hvt;walk_at"g";refine⟨S3,hn,k,p0,rfl,rfl,hvt,gr,so,fun T3 l n l1 l2 W=>⟨rfl,?_⟩⟩
  replace hx:Lst (S3++T3) x (k.cs.map p2):=hx.old
  replace hy:Lst (S3++T3) y1 (p0.1.map bcD):=hy.old
  replace hz:Lst (S3++T3) z1 (p0.2.map fgL):=hz.old
  replace hvt:VtL (S3++T3) k hn p0:=hvt.kp Kp.app
  generalize S3.length=w at W;generalize S3++T3=S4 at hx hy hz hvt W;have hw:=W.w;walk_at"g";refine⟨w,l,k,_,_,p0,rfl,W,gr,rfl,fun T4 ev _ hev=>?_⟩
  replace hx:Lst (S4++T4) x (k.cs.map p2):=hx.old
  replace hy:Lst (S4++T4) y1 (p0.1.map bcD):=hy.old
  replace hz:Lst (S4++T4) z1 (p0.2.map fgL):=hz.old
  replace hvt:VtL (S4++T4) k hn p0:=hvt.kp Kp.app
  have W5:WAt (S4++T4) k w l [n] [p0]:=W.old;generalize S4++T4=S5 at hx hy hz hvt W5 hev;clear W hw;walk_at"g";refine⟨ns,1,rfl,?_⟩;walk_at"g";refine⟨_,rfl,fun gb=>?_⟩;obtain⟨bb,hbb⟩:∃ bb,bb=ns.getD 1 0/30:=⟨_,rfl⟩
  rw[<- hbb];have hn6:Lst (S5++[gb,.lst ((List.range 14).map fun k=>.str (zR bb k))]) (.ref (S5.length+1)) ((List.range 14).map fun k=>.str (zR bb k)):=Lst.at (k:=1) rfl
  replace hx:Lst (S5++[gb,.lst ((List.range 14).map fun k=>.str (zR bb k))]) x (k.cs.map p2):=hx.old
  replace hy:Lst (S5++[gb,.lst ((List.range 14).map fun k=>.str (zR bb k))]) y1 (p0.1.map bcD):=hy.old
  replace hz:Lst (S5++[gb,.lst ((List.range 14).map fun k=>.str (zR bb k))]) z1 (p0.2.map fgL):=hz.old
  replace hvt:VtL (S5++[gb,.lst ((List.range 14).map fun k=>.str (zR bb k))]) k hn p0:=hvt.kp Kp.app
  replace hev:VtL (S5++[gb,.lst ((List.range 14).map fun k=>.str (zR bb k))]) k ev p0:=hev.kp Kp.app
  have W6:WAt (S5++[gb,.lst ((List.range 14).map fun k=>.str (zR bb k))]) k w l [n] [p0]:=W5.old;generalize S5.length+1=nn at hn6;generalize S5++[gb,.lst ((List.range 14).map fun k=>.str (zR bb k))]=S6 at hx hy hz hvt hev W6 hn6;clear W5 hbb;obtain⟨cl,hcl⟩:∃ cl,cl=cutD ns (some 3) (some 63):=⟨_,rfl⟩
  have lcl:cl.length<=60:=by have:=znm ns (some 3) (some 63);unfold slD at this;rw[hcl];simp at this;lia
  walk_at"g";walk_at"h";rw[zcA,<- hcl];rw[List.length_map];refine⟨_,rfl,by lia,by lia,?_⟩;obtain⟨S7,hS7⟩:∃ S7:Sto,S7=S6++[Cell.lst (p0.1.map bcD),.lst (p0.2.map fgL),.lst [.tup [.ref S6.length,.ref (S6.length+1)]],.lst (cl.map D.int),.lst (cl.map D.int)]:=⟨_,rfl⟩
  have K7:Kp S6 S7:=hS7▸Kp.app;have hcl7:S7[S6.length+4]?=some (.lst (cl.map D.int)):=by rw[hS7];exact(zQ _ _ 4).trans rfl
  have P7:zaq S7 (S6.length+2) [(.ref S6.length,.ref (S6.length+1))] [p0]:=by
    rw[hS7];refine⟨(zQ _ _ 2).trans rfl,rfl,fun i q p a b=>?_⟩;cases i with
    |zero=>cases a;cases b;exact⟨Lst.at0,Lst.at (k:=1) rfl⟩
    |succ i=>simp at a
  have W7:WAt S7 k w l [n] [p0]:=by rw[hS7];exact W6.old
  have hn7:Lst S7 (.ref nn) ((List.range 14).map fun k=>.str (zR bb k)):=by rw[hS7];exact hn6.old
  have fn7:frz (.lst ((List.range 14).map fun k=>.str (zR bb k)))=true:=by show((List.range 14).map fun k=>D.str (zR bb k)).all zek=true;rw[List.all_map];exact List.all_eq_true.mpr fun _ _=>rfl
  have fcl:frz (.lst (cl.map D.int))=true:=by show(cl.map D.int).all zek=true;rw[List.all_map];exact List.all_eq_true.mpr fun _ _=>rfl
  replace hx:=hx.kp K7 (zbM _)
  replace hvt:=hvt.kp K7
  replace hev:=hev.kp K7
  rw[<- hS7];generalize S6.length+4=cr at hcl7;generalize S6.length+2=pl0 at P7;generalize (D.ref S6.length)=qa at P7;generalize (D.ref (S6.length+1))=qb at P7;clear hy hz K7 W6 hn6 hS7;refine zb7 (fun i Z S'=>∃ (vs:List Nat) (st:List BG) (pl:Nat) (prs:List (D×D)) (ev:Nat) (q:D×D) (pe:BG) (w9 w10 w11 w12 w13 w14:Option D),Z=[some (.rl (ns.map D.int)),some (.tup [x,y1,z1,zaJ k.hz,.int k.h0,.int k.h1,.int k.dl]),some (.ref hn),some (.ref w),some (.ref ev),some (.ref nn),some (.ref pl),some (.tup [q.1,q.2]),some (.ref cr),w9,w10,w11,w12,w13,w14]/\Kp S7 S'/\WAt S' k w l vs st/\zaq S' pl prs st/\st[0]?=some p0/\st.length<=i+1/\VtL S' k ev pe/\zax k pe/\Lst S' q.1 (pe.1.map bcD)/\Lst S' q.2 (pe.2.map fgL)) ⟨[n],[p0],pl0,[(qa,qb)],ev,(qa,qb),p0,none,none,none,none,none,none,rfl,Kp.refl,W7,P7,rfl,by simp,hev,so,(P7.v 0 _ _ rfl rfl).1,(P7.v 0 _ _ rfl rfl).2⟩ (fun _ _ _ _=>True.intro) ?_ ?_
  . rintro i d Z S' hd ⟨vs,st,pl,prs,ev,q,pe,w9,w10,w11,w12,w13,w14,rfl,K,W,P,h0,hi1,hev,oke,hq1,hq2⟩;obtain⟨hi,rfl⟩:=zaM hd;rw[Int.zero_add];obtain⟨c,hc⟩:∃ c,cl[i]?=some c:=⟨_,List.getElem?_eq_getElem (by lia)⟩
    have ac:atD (cl.map D.int) (i:Int)=some (.int c):=zaY (by rw[List.getElem?_map,hc];rfl);have hcl':Lst S' (.ref cr) (cl.map D.int):=Lst.here (K _ _ hcl7 fcl);walk_at"g";refine⟨c,i,x,y1,z1,.ref nn,zaJ k.hz,.int k.dl,k.cs,k.h0,k.h1,bb,rfl,hx.kp K (zbM _),gr,hh,bh0,bh1,hn7.kp K fn7,by lia,by lia,fun T d od=>?_⟩;have KT:Kp S' (S'++T):=Kp.app
    replace K:Kp S7 (S'++T):=K.trans KT
    replace W:WAt (S'++T) k w l vs st:=W.old
    replace P:zaq (S'++T) pl prs st:=P.old
    replace hev:=hev.kp KT
    replace hq1:=hq1.kp KT (zdd _)
    replace hq2:=hq2.kp KT (zda _)
    generalize S'++T=S8 at K W P hev hq1 hq2;clear KT hcl';have n0:=W.n0;obtain⟨p,hp⟩:∃ p,st.getLast?=some p:=⟨_,List.getLast?_eq_some_getLast (by intro e;rw[e]at n0;cases n0)⟩
    obtain⟨qp,hqp,aqp,hqp1,hqp2⟩:=P.last hp;have hpl:Lst S8 (.ref pl) (prs.map fun q=>.tup [q.1,q.2]):=Lst.here P.c;unfold ddD;walk_at"g";walk_at"j";have PT:∀ T,zaq (S8++T) pl prs st:=fun T=>P.old
    have WT:∀ T,WAt (S8++T) k w l vs st:=fun T=>W.old
    have hplT:∀ T,Lst (S8++T) (.ref pl) (prs.map fun q=>.tup [q.1,q.2]):=fun T=>Lst.here (PT T).c
    have fw:=zfZ _ od.w;have okp:=W.ok p (List.mem_of_getLast? hp);have nb:=so.ok.2.2.2.2.2;have lps:=P.n;refine r_J (fun Z S'=>∃ (pl':Nat) (prs':List (D×D)) (st':List BG) (r:Int) (w11 w12:Option D),Z=[some (.rl (ns.map D.int)),some (.tup [x,y1,z1,zaJ k.hz,.int k.h0,.int k.h1,.int k.dl]),some (.ref hn),some (.ref w),some (.ref ev),some (.ref nn),some (.ref pl'),some (.tup [q.1,q.2]),some (.ref cr),some (.int i),some (.tup [.str d.w,bcD (d.nm,d.s),fgL d.g,.int d.n]),w11,w12,some (.int r),w14]/\Kp S8 S'/\WAt S' k w l vs st/\zaq S' pl' prs' st'/\outD k d st r st'/\0<st'.length/\st'[0]?=some p0/\st'.length<=st.length+1) ?_ ?_
    . walk_at"g";refine zay fw (show fl 20 (.str "back")=true by decide +kernel) ?_;walk_at"g";refine r_d (fun hb=>?_) (fun hb=>?_)
      . obtain⟨r, ar, hr⟩ : ∃ r : Int, atD [D.int (-1), .int 7] (if decide ((((prs.map fun q => D.tup [q.1, q.2]).length : Nat) : Int) = 1) = true then 1 else 0) = some (.int r) ∧ ((st.length = 1 ∧ r = 7) ∨ (st.length ≠ 1 ∧ r = -1)) := by
          by_cases h1:st.length=1
          . exact⟨7,by rw[List.length_map,lps,h1];rfl,.inl ⟨h1,rfl⟩⟩
          . exact⟨-1,by rw[List.length_map,lps,if_neg (by simp;lia)];rfl,.inr ⟨h1,rfl⟩⟩
        walk_at"g";obtain⟨m,hm⟩:∃ m:Nat,m=max 1 (st.length-1):=⟨_,rfl⟩
        have em:cutD (prs.map fun q=>D.tup [q.1,q.2]) none (some (max 1 ((((prs.map fun q=>D.tup [q.1,q.2]).length:Nat):Int)-1)))=(prs.take m).map fun q=>D.tup [q.1,q.2]:=by rw[List.length_map,zcA,zeU _ (by lia) (by lia),show(max 1 ((prs.length:Int)-1)).toNat=m by lia]
        rw[em];refine⟨S8.length+1,prs.take m,st.take m,r,_,_,rfl,Kp.app,WT _,(PT _).take ((zQ _ _ 1).trans rfl),.inl ⟨hb,?_⟩,by rw[List.length_take];lia,by rw[List.getElem?_take,if_pos (by lia)];exact h0,by rw[List.length_take];lia⟩;rcases hr with⟨h1,rfl⟩|⟨h1,rfl⟩
        . exact .inl ⟨h1,rfl,List.take_of_length_le (by lia)⟩
        . refine .inr ⟨p,?_,by rw[List.length_take];lia,rfl⟩;have hp:=hp;rw[List.getLast?_eq_getElem?]at hp;have:=zbk hp;rw[show st.length-1+1=st.length by lia,List.take_length]at this;rw[show m=st.length-1 by lia];exact this
      . walk_at"g";refine⟨d,k,p,qp.1,qp.2,rfl,od,okp,hqp1,hqp2,fun T y' z' hy' hz'=>?_⟩;have bd:=ziK okp od;obtain⟨wc,hwc⟩:∃ wc,wc=zE d p:=⟨_,rfl⟩
        rw[<- hwc]at hy' hz' bd ⊢;walk_at"g";walk_at"j";refine r_J (fun Z S'=>∃ (T2:Sto) (r:Int),Z=[some (.rl (ns.map D.int)),some (.tup [x,y1,z1,zaJ k.hz,.int k.h0,.int k.h1,.int k.dl]),some (.ref hn),some (.ref w),some (.ref ev),some (.ref nn),some (.ref pl),some (.tup [q.1,q.2]),some (.ref cr),some (.int i),some (.tup [.str d.w,bcD (d.nm,d.s),fgL d.g,.int d.n]),some y',some z',some (.int r),w14]/\S'=S8++(T++T2)/\((wc.1≠-1/\r=wc.1)\/(wc.1=-1/\∃ e,k.cl wc.2 e/\r=zaK e))) ?_ ?_
        . walk_at"g";refine r_d (fun g=>?_) (fun g=>?_)
          . walk_at"g";refine⟨k,wc.2,x,y',z',(),rfl,(hx.kp K (zbM _)).old,gr,hy',hz',bd.1,bd.2,nb,fun T2 e he=>?_⟩;walk_at"g";exact⟨T2,zaK e,rfl,List.append_assoc ..,.inr ⟨g,e,he,rfl⟩⟩
          . walk_at"g";exact⟨[],wc.1,rfl,by rw[List.append_nil],.inl ⟨g,rfl⟩⟩
        rintro Z S' ⟨T2,r,rfl,rfl,hr⟩;walk_at"g";refine r_d (fun g=>?_) (fun g=>?_)
        . have hpc:=(PT (T++T2)).c;have hln:(prs.map fun q=>D.tup [q.1,q.2]).length<big:=by rw[List.length_map];unfold big;lia
          walk_at"g";have lpb:prs.length<big:=by unfold big;lia
          obtain⟨S9,hS9⟩:∃ S9,S9=(S8++(T++T2)).set pl (.lst ((prs.map fun q=>D.tup [q.1,q.2])++[.tup [y',z']])):=⟨_,rfl⟩
          have fz:=(PT (T++T2)).fz n0;have C9:Chg pl (S8++(T++T2)) S9:=hS9▸Chg.set;have K9:=C9.kp hpc fz
          have c9:S9[pl]?=some (.lst ((prs++[(y',z')]).map fun q=>D.tup [q.1,q.2])):=by rw[hS9,List.getElem?_set_self (zV hpc),List.map_append];rfl
          rw[<- hS9];have ny:Lst (S8++(T++T2)) y' (wc.2.1.map bcD):=by rw[<- List.append_assoc];exact hy'.old
          have nz:Lst (S8++(T++T2)) z' (wc.2.2.map fgL):=by rw[<- List.append_assoc];exact hz'.old
          have P9:=(PT (T++T2)).push (q:=(y',z')) K9 c9 (ny.kp K9 (zdd _)) (nz.kp K9 (zda _));have W9:=(WT (T++T2)).stay C9 K9 ((PT (T++T2)).ne n0 (WT _));rcases hr with⟨a,b⟩|⟨a,e,he,b⟩
          . exact absurd (b.symm.trans g) a
          . have en : e = none := by
              cases e with
              |none=>rfl
              |some c=>have:=zik c;lia
            subst en;refine⟨pl,prs++[(y',z')],st++[wc.2],r,_,_,rfl,Kp.app.trans K9,W9,P9,.inr ⟨hb,p,hp,.inr ⟨by rw[<- hwc];exact a,none,by rw[<- hwc];exact he,b,by rw[<- hwc];rfl⟩⟩,by rw[List.length_append];simp,by rw[List.getElem?_append_left n0];exact h0,by rw[List.length_append];exact Nat.le_refl _⟩
        . walk_at"g";refine⟨pl,prs,st,r,_,_,rfl,Kp.app,WT _,PT _,.inr ⟨hb,p,hp,?_⟩,n0,h0,by lia⟩;rw[<- hwc];rcases hr with⟨a,b⟩|⟨a,e,he,b⟩
          . exact .inl ⟨a,b,rfl⟩
          . refine .inr ⟨a,e,he,b,?_⟩;cases e with
            |none=>exact absurd b g
            |some c=>rfl
    rintro Z S' ⟨pl',prs',st',r,w11,w12,rfl,K2,W2,P2,o,n0',h0',hl'⟩;have hpl':Lst S' (.ref pl') (prs'.map fun q=>.tup [q.1,q.2]):=Lst.here P2.c;have lps':=P2.n;walk_at"g";rw[List.length_map,lps'];refine r_J (fun Z S''=>S''=S'/\Z=[some (.rl (ns.map D.int)),some (.tup [x,y1,z1,zaJ k.hz,.int k.h0,.int k.h1,.int k.dl]),some (.ref hn),some (.ref w),some (.ref ev),some (.ref nn),some (.ref pl'),some (.tup [q.1,q.2]),some (.ref cr),some (.int i),some (.tup [.str d.w,bcD (d.nm,d.s),fgL d.g,.int d.n]),w11,w12,some (.int r),some (if 0<=r then D.non else .int ((st'.length:Int)-1))]) ?_ ?_
    . walk_at"g";refine r_d (fun g=>?_) (fun g=>?_)
      . walk_at"g";exact⟨rfl,by rw[if_pos g];rfl⟩
      . walk_at"g";exact⟨rfl,by rw[if_neg g];rfl⟩
    rintro Z S'' ⟨rfl,rfl⟩;walk_at"g";refine⟨d,k,w,l,vs,st,(),(),rfl,od,W2,by lia,gr,nb,fun S9 vs9 r9 st9 C9 W9 o9=>?_⟩;obtain⟨rfl,rfl⟩:=outD.fn o o9;have K9:=W2.kp C9
    have et:(if r=-1 then D.int ((st'.length:Int)-1)else .non)=if 0<=r then D.non else .int ((st'.length:Int)-1):=by
      rcases o.rng with e|e
      . rw[if_pos e,if_neg (by lia)]
      . rw[if_neg (by lia),if_pos e]
    rw[et];have ft:fl 20 (.tup [.int r,if 0<=r then D.non else .int ((st'.length:Int)-1)])=true:=by split<;>rfl
    walk_at"g";refine⟨true,.inl ⟨ft,ft,(eqv_refl 20 _ ft).symm⟩,?_⟩;walk_at"g";refine⟨ev,k,pe,x,y1,z1,q.1,q.2,(),(),(),(),(),rfl,hev.kp (K2.trans K9),oke,hx.kp (K.trans (K2.trans K9)) (zbM _),hq1.kp (K2.trans K9) (zdd _),hq2.kp (K2.trans K9) (zda _),?_⟩;have hw9:=W9.w;walk_at"g";obtain⟨p9,hp9⟩:∃ p,st'.getLast?=some p:=⟨_,List.getLast?_eq_some_getLast (by intro e;rw[e]at n0';cases n0')⟩
    refine⟨w,l,k,vs9,st',p9,rfl,W9,gr,hp9,fun T n9 _ hv9=>?_⟩;have P9:zaq (S9++T) pl' prs' st':=(P2.chg C9 K9 (P2.ne n0' W2)).old;obtain⟨q9,_,aq9,hq91,hq92⟩:=P9.last hp9;have hpl9:Lst (S9++T) (.ref pl') (prs'.map fun q=>.tup [q.1,q.2]):=Lst.here P9.c;have KA:Kp S7 (S9++T):=K.trans (K2.trans (K9.trans Kp.app));walk_at"g";refine⟨n9,k,p9,x,y1,z1,q9.1,q9.2,(),(),(),(),(),rfl,hv9,W9.ok p9 (List.mem_of_getLast? hp9),hx.kp KA (zbM _),hq91,hq92,?_⟩;walk_at"g";exact⟨vs9,st',pl',prs',n9,q9,p9,_,_,_,_,_,_,rfl,KA,W9.old,P9,h0',by lia,hv9,W9.ok p9 (List.mem_of_getLast? hp9),hq91,hq92⟩
  rintro Z S' ⟨vs,st,pl,prs,ev,q',pe,w9,w10,w11,w12,w13,w14,rfl,K,W,P,h0,hi1,_,_,_,_⟩;clear hev hcl7 hn7 P7 W7
  replace hx:=hx.kp K (zbM _)
  replace hvt:=hvt.kp K
  have n0:=W.n0;have lps:=P.n;have hpl:Lst S' (.ref pl) (prs.map fun q=>.tup [q.1,q.2]):=Lst.here P.c;walk_at"g";rw[List.length_map,lps];refine zld ?_;refine zb7 (fun i Z S2=>∃ (vs':List Nat) (w9:Option D),Z=[some (.rl (ns.map D.int)),some (.tup [x,y1,z1,zaJ k.hz,.int k.h0,.int k.h1,.int k.dl]),some (.ref hn),some (.ref w),some (.ref ev),some (.ref nn),some (.ref pl),some (.tup [q'.1,q'.2]),some (.ref cr),w9,w10,w11,w12,w13,w14]/\Kp S' S2/\WAt S2 k w l vs' (st.take (st.length-i))/\zaq S2 pl prs st) ⟨vs,w9,rfl,Kp.refl,by rw[Nat.sub_zero,List.take_length];exact W,P⟩ (fun _ _ _ _=>True.intro) ?_ ?_
  . rintro i d Z S2 hd ⟨vs',w9,rfl,K2,W2,P2⟩;have hi:=zV hd;unfold steps at hi hd;rw[List.length_map,List.length_range]at hi;rw[List.getElem?_map,List.getElem?_range hi]at hd;have ed:d=.int ((st.length:Int)-2+(i:Int) * -1):=by cases hd;rfl
    obtain⟨k0,hk0⟩:∃ k0:Nat,(k0:Int)=(st.length:Int)-2+(i:Int) * -1:=⟨((st.length:Int)-2+(i:Int) * -1).toNat,by lia⟩
    rw[<- hk0]at ed;subst ed;have hw2:=W2.w;walk_at"g";refine⟨w,l,k,vs',_,rfl,W2,fun h1 T=>?_,fun st' p' e lt0 S9 vs9 C9 W9=>?_⟩
    . exfalso;rw[List.length_take]at h1;lia
    have le:=congrArg List.length e;rw[List.length_take,List.length_append,List.length_singleton]at le
    have es:st'=st.take (st.length-(i+1)):=by have:=congrArg (List.take st'.length) e;rw[List.take_append_of_le_length (Nat.le_refl _),List.take_length,List.take_take]at this;rw[<- this,show min st'.length (st.length-i)=st.length-(i+1) by lia]
    have K9:=W2.kp C9;have P9:=P2.chg C9 K9 (P2.ne n0 W2);have hw9:=W9.w;walk_at"g";rw[decide_eq_true (show(st'.length:Int)-1=(k0:Int) by lia)];walk_at"g";obtain⟨pk,hpk⟩:∃ pk,st[k0]?=some pk:=⟨_,List.getElem?_eq_getElem (by lia)⟩
    have hl9:st'.getLast?=some pk:=by rw[List.getLast?_eq_getElem?,es,List.getElem?_take,if_pos (by rw[List.length_take];lia),List.length_take,show min (st.length-(i+1)) st.length-1=k0 by lia];exact hpk
    refine⟨w,l,k,vs9,st',pk,rfl,W9,gr,hl9,fun T n9 _ hv9=>?_⟩;have PT:zaq (S9++T) pl prs st:=P9.old;obtain⟨q9,_,aq,hq1,hq2⟩:=PT.at' hpk;have aq9:atD (prs.map fun q=>D.tup [q.1,q.2]) (k0:Int)=some (.tup [q9.1,q9.2]):=zaY aq;have hpl9:Lst (S9++T) (.ref pl) (prs.map fun q=>.tup [q.1,q.2]):=Lst.here PT.c;have KA:Kp S' (S9++T):=K2.trans (K9.trans Kp.app);walk_at"g";refine⟨n9,k,pk,x,y1,z1,q9.1,q9.2,(),(),(),(),(),rfl,hv9,W9.ok pk (List.mem_of_getLast? hl9),hx.kp KA (zbM _),hq1,hq2,?_⟩;walk_at"g";exact⟨vs9,_,rfl,KA,by rw[<- es];exact W9.old,PT⟩
  rintro Z S2 ⟨vs',w9',rfl,K2,W2,P2⟩;rw[zcT,show st.length-((st.length:Int)-2 - -1).toNat=1 by lia]at W2;obtain⟨q0,_,aq,hq1,hq2⟩:=P2.at' h0;have aq0:atD (prs.map fun q=>D.tup [q.1,q.2]) 0=some (.tup [q0.1,q0.2]):=zaY (i:=0) aq;have hpl2:Lst S2 (.ref pl) (prs.map fun q=>.tup [q.1,q.2]):=Lst.here P2.c;walk_at"g";refine⟨hn,k,p0,x,y1,z1,q0.1,q0.2,(),(),(),(),(),rfl,hvt.kp K2,so,hx.kp K2 (zbM _),hq1,hq2,?_⟩;walk_at"g";have l1:(st.take 1).length=1:=by rw[List.length_take];lia
  refine⟨⟨"back","",(0,0),[],0⟩,k,w,l,vs',st.take 1,(),(),rfl,⟨by simp[ways],by decide +kernel,by decide +kernel,(by show _<2 ^ 180;decide),(by show _<2 ^ 200;decide),fun z=>absurd rfl z,by decide,by decide⟩,W2,by lia,gr,so.ok.2.2.2.2.2,fun S9 vs9 r9 st9 C9 W9 o9=>?_⟩;obtain⟨rfl,rfl⟩:=outD.fn o9 (.inl ⟨rfl,.inl ⟨l1,rfl,rfl⟩⟩);walk_at"g";rw[if_neg (by decide)];exact⟨true,.inl ⟨rfl,rfl,rfl⟩,fin_same (q _)⟩
end Dp
namespace Law
open PySem PySem.Spec PyProof.Rows L2 My Dp
def top (i:Nat):Stmt:=PySem.Challenge.pw_beaconvale_k88_deeds_of_a_watch.main.body.getD i (.Pass ⟨0,0,0,0⟩)
def bs:List (Str×zaE):=[ent "len" (.blt .len),
 ent "range" (.blt .range),
 ent "list" (.blt .list),
 ent "all" (.blt .all),
 ent "set" (.blt .set),
 ent "abs" (.blt .abs),
 ent "int" (.blt .int),
 ent "isinstance" (.blt .isi),
 ent "bool" (.blt .bool),
 ent "tuple" (.blt .tuple),
 ent "sum" (.blt .sum),
 ent "max" (.blt .max),
 ent "LEAST_CORNERS" (.int 2),
 ent "MOST_CORNERS" (.int 40),
 ent "MOST_BEACONS" (.int 12),
 ent "MOST_FOGS" (.int 12),
 ent "MOST_LETTERS" (.int 8),
 ent "LETTERS" (.str "abcdefghijklmnopqrstuvwxyz"),
 ent "NUMBERS" (.int 8),
 ent "LEFT" (.int 0),
 ent "RIGHT" (.int 1),
 ent "LOW" (.int 2),
 ent "HIGH" (.int 3),
 ent "FIRST" (.int 4),
 ent "LAST" (.int 5)]
def F:List (Str×Stmt×zaE):=[zO "_law_cell" (top 56) (.fn 1 ["script","k"] zaQ),
 zO "_law_folded" (top 58) (.fn 1 ["script","start","size"] zcl),
 zO "_law_mixed" (top 57) (.fn 1 ["cell","k"] zaV),
 zO "_law_ground_by" (top 60) (.fn 2 ["cells","count","scale"] zbz),
 zO "_law_names" (top 61) (.fn 1 ["base"] zbK),
 zO "_law_high" (top 59) (.fn 1 ["corners","x"] zb0),
 zO "_law_beacon" (top 62) (.fn 2 ["cell","k","corners","scale","name"] zbt),
 zO "_law_fog" (top 63) (.fn 2 ["cell","k","corners","scale","hours"] zcw),
 zO "_law_parts" (top 64) (.fn 3 ["script"] zcK),
 zO "_law_more" (top 72) (.fn 2 ["parts","script"] zc3),
 zO "refuse_bad_corners" (top 32) (.fn 1 ["corners"] za0),
 zO "refuse_bad_numbers" (top 43) (.fx 1 ["beacons","fogs"] zaW),
 zO "is_name" (top 42) (.fn 1 ["text"] zdD),
 zO "refuse_bad_names" (top 44) (.fx 2 ["names"] za8),
 zO "less" (top 27) (.fn 1 ["one","other"] zcy),
 zO "is_on" (top 34) (.fn 2 ["ground","place"] zdl),
 zO "common_divisor" (top 25) (.fn 1 ["one","other"] zbp),
 zO "fraction" (top 26) (.fn 2 ["top","bottom"] zc0),
 zO "height_on" (top 28) (.fn 3 ["one","other","place"] zcG),
 zO "ground_at" (top 35) (.fx 4 ["ground","place"] zcE),
 zO "stands" (top 36) (.fn 5 ["ground","spot"] zd2),
 zO "refuse_bad_tops" (top 45) (.fx 6 ["ground","beacons"] zbg),
 zO "is_whole" (top 14) (.fn 1 ["value"] zc2),
 zO "is_fog" (top 23) (.fn 2 ["value"] zee),
 zO "refuse_bad_fogs" (top 46) (.fx 3 ["fogs"] zbc),
 zO "refuse_bad_hours" (top 47) (.fx 1 ["haze","first","last","delay"] za9),
 zO "_law_made" (top 65) (.fn 9 ["parts"] zcZ),
 zO "changed_to" (top 52) (.fx 9 ["valley","beacons","fogs"] zbu),
 zO "own_copy" (top 53) (.fx 10 ["valley"] zb4),
 zO "_law_deed" (top 68) (.fn 3 ["cell","k","parts","names"] zc8),
 zO "_law_wanted" (top 69) (.fn 1 ["deed","beacons","fogs"] zcq),
 zO "_law_is_name" (top 66) (.fn 1 ["name"] zbY),
 zO "_law_due" (top 67) (.fn 2 ["corners","beacons","fogs"] zdE),
 zO "names_of" (top 49) (.fn 1 ["valley"] zc7),
 zO "refuse_no_beacon" (top 50) (.fx 2 ["valley","name"] zaL),
 zO "_law_tried" (top 70) (.fn 12 ["watch","deed"] zbO),
 zO "_law_stands_so" (top 71) (.fn 1 ["valley","parts","beacons","fogs"] zat),
 zO "law" (top 73) (.fn 13 ["script"] zde)]
def C:List (Str×Stmt×zaE):=[zO "Ground" (inClass (top 33) 0) (.cl 2 (zez "Ground" zbZ)),
 zO "Valley" (inClass (top 48) 0) (.cx 7 "Valley" zbj),
 zO "Watch" (inClass (top 54) 0) (.cx 11 "Watch" zco)]
def Ms:List zdY:=[⟨"valley_now","Watch",inClass (top 54) 9,11,["self"],zas⟩,
 ⟨"deeds","Watch",inClass (top 54) 1,1,["self"],zaZ⟩,
 ⟨"stand_by","Watch",inClass (top 54) 2,10,["self","beacons","fogs"],zab⟩,
 ⟨"build","Watch",inClass (top 54) 3,11,["self","name","x","z"],zbR⟩,
 ⟨"raze","Watch",inClass (top 54) 4,11,["self","name"],zch⟩,
 ⟨"raise_to","Watch",inClass (top 54) 5,11,["self","name","z"],zbo⟩,
 ⟨"foretell","Watch",inClass (top 54) 6,11,["self","fog"],zbn⟩,
 ⟨"lift","Watch",inClass (top 54) 7,11,["self","k"],zcp⟩,
 ⟨"back","Watch",inClass (top 54) 8,2,["self"],zbr⟩]
def G:Gm:={ g:=bs++(F++C).map fun r=>(r.1,r.2.2),r:=["TooMany","BadName","Twice","OffGround","BadFog","BadHour","NoBeacon","NoFog","NothingBack"],t:=[("ValeError",["BadGround","OffGround","BadFog","BadName","Twice","TooMany","BadHour","NoBeacon","NoFog","NothingBack"])],i:=[("TooMany",[("BadGround",false),("OffGround",false),("BadFog",false),("BadName",false),("Twice",false),("TooMany",true),("BadHour",false),("NoBeacon",false),("NoFog",false),("NothingBack",false)]),("BadName",[("BadGround",false),("OffGround",false),("BadFog",false),("BadName",true),("Twice",false),("TooMany",false),("BadHour",false),("NoBeacon",false),("NoFog",false),("NothingBack",false)]),("Twice",[("BadGround",false),("OffGround",false),("BadFog",false),("BadName",false),("Twice",true),("TooMany",false),("BadHour",false),("NoBeacon",false),("NoFog",false),("NothingBack",false)]),("OffGround",[("BadGround",false),("OffGround",true),("BadFog",false),("BadName",false),("Twice",false),("TooMany",false),("BadHour",false),("NoBeacon",false),("NoFog",false),("NothingBack",false)]),("BadFog",[("BadGround",false),("OffGround",false),("BadFog",true),("BadName",false),("Twice",false),("TooMany",false),("BadHour",false),("NoBeacon",false),("NoFog",false),("NothingBack",false)]),("NoBeacon",[("BadGround",false),("OffGround",false),("BadFog",false),("BadName",false),("Twice",false),("TooMany",false),("BadHour",false),("NoBeacon",true),("NoFog",false),("NothingBack",false)]),("NoFog",[("BadGround",false),("OffGround",false),("BadFog",false),("BadName",false),("Twice",false),("TooMany",false),("BadHour",false),("NoBeacon",false),("NoFog",true),("NothingBack",false)]),("NothingBack",[("BadGround",false),("OffGround",false),("BadFog",false),("BadName",false),("Twice",false),("TooMany",false),("BadHour",false),("NoBeacon",false),("NoFog",false),("NothingBack",true)])],f:=[("Ground","corners"),("Valley","ground"),("Valley","beacons"),("Valley","fogs"),("Valley","haze"),("Valley","first"),("Valley","last"),("Valley","delay"),("Watch","stages")],m:=Ms }
def R:Rwz G [] bs F C:=⟨rfl,
 .cons (.fn (M:=[]) zh6 [] false (by kernel_rfl)) <|
 .cons (.fn (M:=["told","k"]) zgD [] false (by kernel_rfl)) <|
 .cons (.fn (M:=["stir"]) zg6 [] false (by kernel_rfl)) <|
 .cons (.fn (M:=["corners","x","k","m"]) ze0 [] false (by kernel_rfl)) <|
 .cons (.fn (M:=["stem"]) zhw [] false (by kernel_rfl)) <|
 .cons (.fn (M:=["k","left","right","rise"]) zia [] false (by kernel_rfl)) <|
 .cons (.fn (M:=["m","wide","x"]) zgA [] false (by kernel_rfl)) <|
 .cons (.fn (M:=["m","left","low","first","wide","high","drift"]) ziQ [] false (by kernel_rfl)) <|
 .cons (.fn (M:=["head","second","third","cells","scale","first","hours","corners","names","beacons","fogs","haze"]) zhN [] false (by kernel_rfl)) <|
 .cons (.fn (M:=["cell","beacons","fogs","top"]) zh1 [] false (by kernel_rfl)) <|
 .cons (.fn (M:=["k"]) zdg [] false (by kernel_rfl)) <|
 .cons (.fx (M:=[]) zc9 [] false (by kernel_rfl)) <|
 .cons (.fn (M:=[]) zjN [] false (by kernel_rfl)) <|
 .cons (.fx (M:=[]) zdN [] false (by kernel_rfl)) <|
 .cons (.fn (M:=[]) zos [] false (by kernel_rfl)) <|
 .cons (.fn (M:=["first","last"]) zly [] false (by kernel_rfl)) <|
 .cons (.fn (M:=["rest"]) zeH [] false (by kernel_rfl)) <|
 .cons (.fn (M:=["divisor"]) zh2 [] false (by kernel_rfl)) <|
 .cons (.fn (M:=["run","rise","top"]) zhy [] false (by kernel_rfl)) <|
 .cons (.fx (M:=["corners","k"]) zha [] false (by kernel_rfl)) <|
 .cons (.fn (M:=["place"]) zkv [] false (by kernel_rfl)) <|
 .cons (.fx (M:=[]) zdU [] false (by kernel_rfl)) <|
 .cons (.fn (M:=[]) zh3 [] false (by kernel_rfl)) <|
 .cons (.fn (M:=[]) zkr [] false (by kernel_rfl)) <|
 .cons (.fx (M:=[]) zd4 [] false (by kernel_rfl)) <|
 .cons (.fx (M:=[]) zdO [] false (by kernel_rfl)) <|
 .cons (.fn (M:=["ground"]) zid [] false (by kernel_rfl)) <|
 .cons (.fx (M:=[]) zgG [] false (by kernel_rfl)) <|
 .cons (.fx (M:=[]) zh9 [] false (by kernel_rfl)) <|
 .cons (.fn (M:=["m","scale","one","fog","at","way"]) zh5 [] false (by kernel_rfl)) <|
 .cons (.fn (M:=["way","one","fog","number","there","made"]) zgB [] false (by kernel_rfl)) <|
 .cons (.fn (M:=[]) zf6 [] false (by kernel_rfl)) <|
 .cons (.fn (M:=["name","x","z","high"]) zi2 [("near",some true)] false (by kernel_rfl)) <|
 .cons (.fn (M:=[]) zih [] false (by kernel_rfl)) <|
 .cons (.fx (M:=[]) zdM [] false (by kernel_rfl)) <|
 .cons (.fn (M:=["way","one","fog","number","found","kinds","e"]) zhJ [] false (by kernel_rfl)) <|
 .cons (.fn (M:=[]) zeT [] false (by kernel_rfl)) <|
 .cons (.fn (M:=["parts","handed","watch","elder","names","past","stood","cells","k","deed","beacons","fogs","due","told"]) zqb [] false (by kernel_rfl)) <| .nil,
 .cons (.cl (ps:=["self","corners"]) (M:=[]) zf5 (by kernel_rfl)) <|
 .cons (.cx (ps:=["self","ground","beacons","fogs","haze","first","last","delay"]) (M:=[]) zgb (by kernel_rfl)) <|
 .cons (.cx (ps:=["self","valley"]) (M:=[]) zgI (by kernel_rfl)) <| .nil,
 .cons (zcn.mk (M:=[]) zdP [] (by kernel_rfl)) <|
 .cons (zcn.mk (M:=[]) zf8 [] (by kernel_rfl)) <|
 .cons (zcn.mk (M:=[]) zeF [] (by kernel_rfl)) <|
 .cons (zcn.mk (M:=["now"]) zfY [] (by kernel_rfl)) <|
 .cons (zcn.mk (M:=["now"]) zgz [] (by kernel_rfl)) <|
 .cons (zcn.mk (M:=["now","beacons"]) zeD [] (by kernel_rfl)) <|
 .cons (zcn.mk (M:=["now"]) zeE [] (by kernel_rfl)) <|
 .cons (zcn.mk (M:=["now"]) zgF [] (by kernel_rfl)) <|
 .cons (zcn.mk (M:=[]) zgE [] (by kernel_rfl)) <| .nil⟩
def zru:(("law":Str),top 73,zaE.fn 13 ["script"] zde)∈F:=by simp[F]
end Law
local macro_rules | `(tactic| walk_at"al")=>`(tactic| first | exact Dp.Al.nil | (refine Dp.Al.cons ?_ ?_;((try dsimp only[Dp.zO,Dp.ent]);walk_at"a1");walk_at"al"))
local macro_rules | `(tactic| walk_at"a1")=>`(tactic| first | (refine Dp.zl3 rfl ?_;k_is) | (refine' Dp.zl7 ?a;(case a=>k_is)) | (refine' Dp.zl9 ?a;(case a=>k_is)) | (refine' Dp.zqE ?fa ?fl ?fc ?fk;(case fa=>k_is);(case fl=>k_is);(case fc=>k_is);(case fk=>k_is)) | (refine' Dp.zqr ?a ?q2 ?l ?cc ?k ?q1 ?q3 ?q4 ?q5 ?q6 ?q7 ?q8;(case a=>k_is);(case q2=>k_is);(case l=>k_is);(case cc=>k_is);(case k=>k_is);(case q1=>k_is);(case q3=>k_is);(case q4=>k_is);(case q5=>k_is);(case q6=>k_is);(case q7=>k_is);(case q8=>k_is)) | (refine' Dp.zqZ ?a ?m ?l ?cc ?k ?f;(case a=>k_is);(case m=>k_is);(case l=>k_is);(case cc=>k_is);(case k=>k_is);(case f=>k_is)) | (refine' Dp.zr3 ?a ?b;(case a=>k_is);(case b=>kernel_rfl)) | (refine' Dp.zpS ?a ?b;(case a=>k_is);(case b=>k_is)) | (refine' Dp.zpG ?a ?b;(case a=>k_is);(case b=>walk_at"al")) | (refine' Dp.zp9 ?a ?b;(case a=>k_is);(case b=>kernel_rfl)) | (refine' Dp.znU ?a ?b;(case a=>k_is);(case b=>walk_at"al")) | (refine' Dp.ask_blt ?a ?b ?c;(case a=>k_is);(case b=>rfl);(case c=>walk_at"al")) | (refine' Dp.zqL ?a ?b ?c;(case a=>k_is);(case b=>kernel_rfl);(case c=>kernel_rfl)))
open PySem PySem.W PyProof.Rows
set_option genInjectivity false
set_option genSizeOf false
structure PySem.W.Fast where(tw4724153119647044370 tw6941011850791493745 tw7568679182199445571 tw15884869249914883552 tw9949289369883043980 tw16651158428384819475 tw9202623589322857701 tw11339762797277049878 tw14343926407328402169 tw2087979672680893775 tw15168832455238211945 tw17763569531436400840 tw1022125282643588280 tw12072748617912105005 tw1582574946112204141 tw16873760225499517381 tw14621871073576012022 tw9356292511055887371 tw5698631370849902911 tw4392062308464493179 tw2996685832923346278 tw3912688738061677768 tw1294651421585085294 tw5202947329166479931 tw17954342778916856280 tw11802382219829026416 tw7409450084489084513 tw10114915033872897327 tw10805877090415911836 tw1279012334107687619 tw2730121534516878310 tw477589308741591891 tw4194259184138449793 tw10134796926185131012 tw6624039507882943936 tw16344484462240983610 tw1870230938173811363 tw7629664886851283970 tw14754504466763579699 tw13861179238076499113 tw8585251799238007920 tw1625395281119004760 tw7398657957604108056 tw6996827554152984799 tw2155666329263465391 tw16810660422946302628 tw12215596245667057577 tw17978298808147184110 tw16030390513268590254 tw2050466598215523755 tw7736963922620347144 tw9409111174930289901 tw3082036699477080481 tw17042582212105252622 tw18343053932261783346 tw10981792304386527495 tw14789120228317636956 tw12386500844908084120 tw17060696737571854148 tw13683896545680198017 tw15291287001630675338 tw17509121513739259976 tw1239928167655845960 tw425915735564405685 tw15849799823112159493 tw4254659371432635991 tw8956800017605151964 tw307268513097245047 tw1909123349185977928 tw10911206815618185024 tw14245387083636180889 tw11389574458270306275 tw81986694158795058 tw17210060635405686500 tw10216251033040061737 tw10853818317696735165 tw11501260642621134539 tw17903386952111742670 tw366393684642286515 tw3489333817081875582 tw14849392735751724693 tw13953625130345794749 tw8177311753629056127 tw8008374178111098132 tw17347046481283221591 tw5435957108806535547 tw7378781570965341384 tw7145828779770131727 tw8782921715148932326 tw8112682435777080398 tw12586800370697059929 tw4495791867279001613 tw17241606520630850911 tw14228631163963599271 tw10131916134187432781 tw7675522551736077429 tw10950723343815582215 tw3715145998610577950 tw14567040279737991281 tw5157529923965142032 tw17330543247385120093 tw2710428515934041421 tw8998139403412646676 tw15532293221275726188 tw4040075964249221932 tw2661645329813445850 tw17718486342828324906 tw15756084136204908508 tw16992737533158505705 tw4184006706078282771 tw3597794189051845516 tw18135753670499241709 tw4768069475408450097 tw3459152035344065924 tw338120297629523353 tw1738760637378008291 tw14553182511557619990 tw17176957839256727000 tw12911742370483621901 tw17665474825006669611 tw6491051602981818493 tw12818077696000057308 tw13535145929860385728 tw8706434798792460816 tw2847439174546736892 tw313081529659106054 tw12061970569231124097 tw15544195364952345602 tw15036123698142456085 tw17397614495353630614 tw4561757269914151764 tw13319500437130297451 tw12725146902302285771 tw991082030358820692 tw9714769877908729357 tw3973319178218475480 tw9025809943437929661 tw18303994386434050956 tw8834394578857347393 tw831838914091016293 tw17201018109007040577 tw8032046558266135812 tw9067265944991809314 tw3021466667415847357 tw5434952734233628220 tw999797962231418747 tw13956240259687051332 tw1172248376021053493 tw11784420635939189527 tw8240082535464430016 tw4901231964681309019 tw13225477723678722175 tw5692026416623230942 tw3027115882087043306 tw5563112263734359674 tw4716711851487259016 tw14865817826114341329 tw14251530734017445932 tw3489327581384862066 tw3468889605544514741 tw15455067315237037272 tw361102962642644108 tw16598561169018501215 tw15350496166763472193 tw916398669039742738 tw4051809542786083532 tw16172852083681553980 tw17602320374830884348 tw6025875526590335403 tw7524946218502150279 tw17269361967832724250 tw2565930990214695082 tw14645925712329664458 tw9147260056173193512 tw7607054707294345284 tw17374104964742476618 tw16741857658918283530 tw16567063535428212754 tw12580537546986193480 tw12173529254002601460 tw11048983541465584329 tw5551665150531942815 tw13611403351614038240 tw267845061868918330 tw15776837025888854743 tw15565071280861581509 tw12505836673225004733 tw2307174175882818463 tw6573011837973736396 tw6000969434062077321 tw943836821041007194 tw14062461215722650941 tw10098054500378200119 tw11134691285840887964 tw9783242637250382037 tw6737526754044825267 tw18173673142441849946 tw8441001322390417427 tw5966692927240351767 tw4014120697684404253 tw8951693389849432509 tw8908627909591502326 tw4688803952628923174 tw12937820547519356420 tw12522665329992399068 tw6072964132591251652 tw4538966628551049542 tw3378129415401568456 tw3271192294893524333 tw6397131308707493669 tw11381636502758583188 tw3676941401081031964 tw13451381037368238364 tw5219533268138481 tw13348290324089874176 tw2932785144983084186 tw11020082169576091245 tw6339734988626160615 tw3867848116181041515 tw5202746412076927234 tw434973741507596845 tw3267157600611799426 tw12335446591962490693 tw5757306146066219292 tw2411669855172564316 tw7613549101010638577 tw11929579875047898153 tw9655647451202072232 tw18318141291606159727 tw7392746253176715591 tw1220241897448478371 tw12470188928214399191 tw8670936627763017848 tw7650522089041972808 tw617268240236194723 tw16435015566750680868 tw3641006223149680316 tw4320567022570573231 tw3748127402239556948 tw16149177136819563110 tw6790183758964554467 tw16741174216492729839 tw6056028022787486737 tw15901482389156373663 tw9350848462992970149 tw4039242033518249867 tw2661686722132089798 tw13062582801798395259 tw8844304211194626598 tw9986711672820535686 tw6600737439324502071 tw15030298161548102747 tw9674698493842977330 tw2771601165700080922 tw941616135907700687 tw8642326830865489249 tw3845731029021076071 tw16850679972385771986 tw5139579066048316849 tw1950567412140317481 tw14803319346778754484 tw9653974098481927749 tw18172259469731475086 tw4484113655205075031 tw2610445086054208601 tw17338744899494955082 tw13720135675564808642 tw5929885940730017835 tw18442465273821213326 tw14462072537710251272 tw11467032432591869742 tw7602878115124175278 tw15439912197038712405 tw3121848445196564100 tw15285414129745329331 tw4889034410999193321 tw5203546754932477715 tw7895715506740721460 tw1563409010657076435 tw17024602807229572702 tw6161022904270795625 tw17909179448106487671 tw3143614467788422025 tw7078575822980440540 tw8947812092786940425 tw18264142441878440445 tw12380441659853406985 tw14622686236514489101 tw1817952915876787446 tw18118523605746893519 tw3007830113986926627 tw17168477009335698195 tw16123959656549784880 tw9963854670943384546 tw15010185037420932773 tw3004676508877387225 tw9059589113401215460 tw14404046441435441020 tw9295250980911680186 tw5529489512519478465 tw16406194883583381596 tw11279629198999746536 tw4551944938183626112 tw15258690765579547016 tw10097731129687390095 tw18187676456562402942 tw9543112590340214443 tw1542324759331780622 tw6310953162162921923 tw5907950082850076197 tw4116058885214772131 tw18011544579534929960 tw1724498010414489300 tw15355294683635674370 tw1495433983615900153 tw12249390063327362882 tw10963711900297763973 tw10157794150095360437 tw17967064051487282375 tw2394292041393474717 tw716672877071902754 tw17684265851939890828 tw17856687379641808040 tw16525279972297527528 tw8037241507639891485 tw6381934674104800234 tw5312499587018637234 tw10330746035409747743 tw7074785146960226652 tw3808883736047714821 tw3647853505506939557 tw5950434848372829809 tw11750119550561002043 tw1996601303415306029 tw16208681315202281026 tw14123118681375406172 tw9068022240626586347 tw6912606736888083731 tw2408775000155422290 tw10114915535406375532 tw15721417871021332381 tw12153078766883613951 tw9867695066390362754 tw8273505944313426001 tw7710989535963582691 tw4432602059249997890 tw2600423992795737121 tw18213143077992996533 tw17784478925750532171 tw17650668238958457460 tw17407913073578047060 tw17190372927978025014 tw15990884812541363452 tw14568026123908188354 tw12254528113982237408 tw11267358517415718389 tw9317295373262368871 tw569421879508061415 tw4478007684259361390 tw3484773521082588577 tw2544675452641948073 tw17514935654111664088 tw16143848266346357111 tw15639413904198880673 tw15406984539691268385 tw15392674305371664902 tw14818012886317876805 tw14414507469600300584 tw14161195971338593954 tw13476573045037534588 tw12363840173934083057:Prop)
set_option maxRecDepth 100000 in
set_option maxHeartbeats 0 in
theorem PySem.Challenge.cw_beaconvale_k88_deeds_of_a_watch_holds : PySem.Challenge.rw_beaconvale_k88_deeds_of_a_watch.Holds := by
  w_on; o_law; k_head; (case hw => w_witness2)
  k_fill
  refine Dp.zku (l := PySem.Challenge.rw_beaconvale_k88_deeds_of_a_watch) 12 rfl rfl rfl ⟨rfl, by decide, by decide⟩ (fun w h Y => PySem.W.kIn_of Y) Law.R Law.zru fun w => ?_
  constructor <;> walk_at "al"
#print axioms PySem.Challenge.cw_beaconvale_k88_deeds_of_a_watch_holds
