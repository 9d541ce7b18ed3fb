import PyProof.Rows.All
import Wide.All
import OpenK.AllK
import Wide.FinOn
import Lean
import PyProof.EqAt
import PyProof.EqKinds
import PyProof.TupleCall
import PyProof.NeData
import PyProof.P3Eq
import PyProof.StrLawsIn
import PyProof.StrLawsJoin
import PyProof.StrBlockL
import PyProof.Rows.StrSplitCount
import KE.KMinKey
import KE.KLam
import KE.KDictList
import PySem.Challenge.RW_beaconvale_k90_sights_as_lines
set_option compiler.extract_closed false
set_option genSizeOf false
set_option Elab.async false
set_option linter.all false
set_option maxRecDepth 100000
set_option maxHeartbeats 4000000
set_option Elab.async false
set_option linter.all false
set_option maxRecDepth 100000
def zvU (h:True:=by rfl):True:=h
def zL:Lean.Syntax:=zvU._auto_1
def zvR (h:True:=by decide):True:=h
def zW:Lean.Syntax:=zvR._auto_1
def zwO (h:True:=by decide +kernel):True:=h
def zcP:Lean.Syntax:=zwO._auto_1
def zvz (h:True:=by first|exact .inl rfl|exact .inr rfl|assumption):True:=h
def zep:Lean.Syntax:=zvz._auto_1
def zvD (h:True:=by intro _;rfl):True:=h
def zeV:Lean.Syntax:=zvD._auto_1
def zvO (h:True:=by exact zds rfl):True:=h
def zf0:Lean.Syntax:=zvO._auto_1
def zwR (h:True:=by exact zgV rfl):True:=h
def zhB:Lean.Syntax:=zwR._auto_1
def zv7 (h:True:=by exact ze6 rfl):True:=h
def zhw:Lean.Syntax:=zv7._auto_1
def zwy (h:True:=by with_unfolding_all rfl):True:=h
def zlO:Lean.Syntax:=zwy._auto_1
def zwe (h:True:=by first|exact Or.inl rfl|exact Or.inr (Or.inl rfl)|exact Or.inr (Or.inr rfl)):True:=h
def zl5:Lean.Syntax:=zwe._auto_1
def zue (h:True:=by first|exact Or.inl rfl|exact Or.inr rfl):True:=h
def zjc:Lean.Syntax:=zue._auto_1
def zuh (h:True:=by first|exact PassesOwn.never|exact PassesOwn.leaving):True:=h
def zmO:Lean.Syntax:=zuh._auto_1
def zvp (h:True:=by exact zjV rfl rfl):True:=h
def znt:Lean.Syntax:=zvp._auto_1
def zus (h:True:=by intro _ _ _ _ _ _ us hl;first|(obtain⟨_,e⟩:=ztT hl;subst e;rfl)|(obtain⟨_,_,e⟩:=zpG hl;subst e;rfl)|(obtain⟨_,_,_,e⟩:=zvs hl;subst e;rfl)|(obtain⟨_,_,_,_,e⟩:=zu6 hl;subst e;rfl)|(obtain⟨_,_,_,_,_,e⟩:=zux hl;subst e;rfl)|(obtain⟨_,_,_,_,_,_,e⟩:=zpI hl;subst e;rfl)|(obtain⟨_,_,_,_,_,_,_,e⟩:=len_7 hl;subst e;rfl)):True:=h
def zmJ:Lean.Syntax:=zus._auto_1
def zuf (h:True:=by exact zsh):True:=h
def znd:Lean.Syntax:=zuf._auto_1
def zuM (h:True:=by (intros;rename_i h;repeat (first|(obtain⟨e,_⟩:=h;subst e;rfl)|obtain⟨_,h⟩:=h))):True:=h
def zm8:Lean.Syntax:=zuM._auto_1
namespace L2
open PySem PySem.Spec PyProof.Rows
abbrev Key:=Sum Int Str
def zpm:Key->Value->Bool
 |.inl k,v=>Value.isInt k v
 |.inr x,v=>Value.isStrOf x v
def zwi (w:World):Key->Int
 |.inl k=>hashInt k
 |.inr x=>hashStr w x
theorem zaP:∀ {k:Key} {v:Value},zpm k v=true->(∃ i t,k=Sum.inl i/\v=Value.int i t)\/(∃ x t,k=Sum.inr x/\v=Value.str x t)
 |.inl i,v,h=>by obtain⟨t,e⟩:=Value.isInt_shape (k:=i) (v:=v) h;exact .inl ⟨i,t,rfl,e⟩
 |.inr x,v,h=>by obtain⟨t,e⟩:=Value.isStrOf_shape (x:=x) (v:=v) h;exact .inr ⟨x,t,rfl,e⟩
def zsa (a b:Int):decide ((Sum.inl a:Key)=Sum.inl b)=(a==b):=by
 by_cases e:a=b
 ·subst e;simp
 ·have h:¬ (Sum.inl a:Key)=Sum.inl b:=λq=>e (Sum.inl.inj q)
  rw[decide_eq_false h];exact(beq_eq_false_iff_ne.mpr e).symm
def zrD (a b:Str):decide ((Sum.inr a:Key)=Sum.inr b)=decide (a=b):=by
 by_cases e:a=b
 ·subst e;simp
 ·have h:¬ (Sum.inr a:Key)=Sum.inr b:=λq=>e (Sum.inr.inj q)
  rw[decide_eq_false h,decide_eq_false e]
def zsc (a:Int)(b:Str):decide ((Sum.inl a:Key)=Sum.inr b)=false:=decide_eq_false (λq=>nomatch q)
def ztC (a:Str)(b:Int):decide ((Sum.inr a:Key)=Sum.inl b)=false:=decide_eq_false (λq=>nomatch q)
def zkZ (prog:Program)(w:World):PySem.KeyKind prog w Key where
  is:=zpm
  hash:=zwi w
  inj:=λv a b ha hb=>by
    rcases zaP ha with⟨i,t,rfl,rfl⟩|⟨x,t,rfl,rfl⟩
    . rcases zaP hb with⟨j,u,rfl,e⟩|⟨y,u,rfl,e⟩
      . injection e with e1 _;rw[e1]
      . exact nomatch e
    . rcases zaP hb with⟨j,u,rfl,e⟩|⟨y,u,rfl,e⟩
      . exact nomatch e
      . injection e with e1 _;rw[e1]
  byValue:=λk v h=>by rcases zaP h with⟨i,t,rfl,rfl⟩|⟨x,t,rfl,rfl⟩<;>rfl
  pyHash:=λhv h=>by
    rcases zaP hv with⟨i,t,rfl,rfl⟩|⟨x,t,rfl,rfl⟩
    . exact wpAny_pyHash_int h
    . exact wpAny_pyHash_str h
  eqBool:=λhu hv h=>by
    rcases zaP hu with⟨i,t,rfl,rfl⟩|⟨x,t,rfl,rfl⟩
    . rcases zaP hv with⟨j,u,rfl,rfl⟩|⟨y,u,rfl,rfl⟩
      . rw[zsa]at h;exact wpAny_eqBool_int h
      . rw[zsc]at h;exact SeqAt.EqAt.int_str i t y u _ _ _ _ h
    . rcases zaP hv with⟨j,u,rfl,rfl⟩|⟨y,u,rfl,rfl⟩
      . rw[ztC]at h;exact SeqAt.EqAt.str_int x t j u _ _ _ _ h
      . rw[zrD]at h;exact wpAny_eqBool_str h
  «strs»:=λk x t v h=>by
    rcases zaP h with⟨i,u,rfl,e⟩|⟨y,u,rfl,e⟩
    . exact nomatch e
    . injection e with e1 _;subst e1;cases v<;>rfl
inductive V where
 |non|bl (b:Bool)|int (i:Int)|str (x:Str)|byt (b:Array UInt8)|flt (b:UInt64)|ref (a:Addr)|ty (n:String)
 deriving DecidableEq
def RelV:V->Value->Prop
 |.non,u=>u=Value.none
 |.bl b,u=>u=Value.bool b
 |.int i,u=>∃ t,u=Value.int i t
 |.str x,u=>∃ t,u=Value.str x t
 |.byt b,u=>∃ t,u=Value.bytes b t
 |.flt b,u=>∃ t,u=Value.float b t
 |.ref a,u=>u=Value.ref a
 |.ty n,u=>u=Value.type n
abbrev Vals:List V->List Value->Prop:=Paired RelV
theorem Vals.length (r:Vals xs us):xs.length=us.length:=Paired.length r
theorem Vals.get:∀ {xs:List V} {us:List Value} {i:Nat} {x:V},Vals xs us->xs[i]?=some x->∃ u,us[i]?=some u/\RelV x u
 |_,_,_,_,.nil,e=>by simp at e
 |_,_,0,_,.cons r _,e=>by simp at e;subst e;exact⟨_,rfl,r⟩
 |_,_,i+1,x,.cons _ t,e=>by obtain⟨u,h1,h2⟩:=Vals.get (i:=i) (x:=x) t (by simpa using e);exact⟨u,by simpa using h1,h2⟩
theorem Vals.set (r:RelV x u):∀ {xs:List V} {us:List Value} (i:Nat),Vals xs us->Vals (xs.set i x) (us.set i u)
 |_,_,_,.nil=>.nil
 |_,_,0,.cons _ t=>.cons r t
 |_,_,i+1,.cons q t=>.cons q (Vals.set r i t)
theorem Vals.append:∀ {xs ys:List V} {us ws:List Value},Vals xs us->Vals ys ws->Vals (xs++ys) (us++ws)
 |_,_,_,_,.nil,s=>s
 |_,_,_,_,.cons r t,s=>.cons r (Vals.append t s)
theorem Vals.take:∀ {xs:List V} {us:List Value} (n:Nat),Vals xs us->Vals (xs.take n) (us.take n)
 |_,_,0,_=>.nil
 |_,_,_+1,.nil=>.nil
 |_,_,n+1,.cons r t=>.cons r (Vals.take n t)
theorem Vals.drop:∀ {xs:List V} {us:List Value} (n:Nat),Vals xs us->Vals (xs.drop n) (us.drop n)
 |_,_,0,r=>r
 |_,_,_+1,.nil=>.nil
 |_,_,n+1,.cons _ t=>Vals.drop n t
def zgF:Option V->Option Value->Prop
 |some v,some u=>RelV v u
 |none,none=>True
 |_,_=>False
def KV {κ:Type}:List (κ×V)->List (κ×Value)->Prop:=Paired λ(p:κ×V) (q:κ×Value)=>p.1=q.1/\RelV p.2 q.2
def kV:Key->V
 |.inl i=>.int i
 |.inr x=>.str x
inductive HO where
 |lst (xs:List V)
 |tup (xs:List V)
 |dK (kvs:List (Key×V))|dT (kvs:List (List Key×V))
 |set (S:Int->Bool) (n:Nat)
 |ins (C dx:Addr) (fs:List (Str×V))
 |own (x:Addr)
 |xd (fs:List (Str×V))
 |met (f x:Addr)
 |rng (lo hi:Int)
 |frz (o:Obj) (u:HO)
 |tbl (ps:Array Value)
 |ext (φ:Heap->Prop)
abbrev Hp:=Addr->Option HO
def upd (H:Hp)(a:Addr)(o:HO):Hp:=λb=>if b=a then some o else H b
def zat {H:Hp}{a:Addr}{o:HO}:upd H a o a=some o:=by unfold upd;rw[if_pos rfl]
def zP {H:Hp}{a b:Addr}{o:HO}(h:b≠a):upd H a o b=H b:=by unfold upd;rw[if_neg h]
def zf1 {H:Hp}{o u:HO}(h:H a=some o)(h':H b=some u)(d:o≠u):a≠b:=by intro e;subst e;rw[h]at h';exact d (Option.some.inj h')
def za9 {H:Hp}{o:HO}(h:H a=some o)(h':H b=none):a≠b:=by intro e;subst e;rw[h]at h';cases h'
section
variable (P:Program)(w:World)
def zaQ (H:Hp)(h:Heap)(a:Addr):HO->Prop
 | .lst xs=>xs.length<=sizeLine/\∃ (its:List Value) (n:Nat),Vals xs its/\h.get? a=some { cls:=.type "list",data:=.seq its.toArray n }
 |.tup xs=>xs.length<=sizeLine/\∃ its:List Value,Vals xs its/\IsTup h a its.toArray
 |.dK kvs=>kvs.length<=sizeLine/\(a==sysModules)=false/\∃ vs,KV kvs vs/\h.DictOf (zkZ P w) a vs
 |.dT kvs=>kvs.length<=sizeLine/\(a==sysModules)=false/\∃ xs:List (List Key×Addr×Value),
   Paired (λ(p:List Key×V) (q:List Key×Addr×Value)=>p.1=q.1/\H q.2.1=some (.tup (p.1.map kV))/\RelV p.2 q.2.2) kvs xs /\
   ∃ o es ep,h.get? a=some o/\o.ExactDict/\o.data=.dict es ep/\es.toList=xs.map (entryOfKey (tupleKind (zkZ P w)))/\(xs.map (·.1)).Nodup
 |.set S n=>h.SetOf (intKind P w) a S n
 |.ins C dx fs=>H dx=some (.own a)/\fs.length<=1000/\dx≠a/\h.get? a=some (PySem.W.instObj C dx) /\
   ∃ mA,h.Ns1 dx mA/\(∀ f,zgF (fs.lookup f) (mA f))/\PySem.Within mA (fs.map (·.1))
 |.own _=>∃ o,h.get? a=some o
 |.xd fs=>∃ mA,h.Ns1 a mA/\∀ f,zgF (fs.lookup f) (mA f)
 | .rng lo hi=>∃ t u v,h.get? a=some { cls:=.type "range",data:=.fields #[.int lo t,.int hi u,.int 1 v] }
 |.frz o u=>h.get? a=some o/\zaQ H h a u
 |.tbl ps=>h.get? a=some { cls:=.none,data:=.fields ps }
 |.met f x=>h.get? a=some (PySem.W.methodObj (.ref f) (.ref x))
 |.ext φ=>φ h/\(∃ o,h.get? a=some o)/\∀ h1 h2:Heap,φ h1->(∀ o,h1.get? a=some o->h2.get? a=some o)->φ h2
def HOk (H:Hp)(h:Heap):=∀ a o,H a=some o->zaQ P w H h a o
end
section
variable {P:Program}{w:World}{H H':Hp}{h h':Heap}{a:Addr}{o:HO}
theorem zaQ.lt (x:zaQ P w H h a o):a<h.objs.size:=by
 cases o with
 |lst xs=>obtain⟨_,_,_,_,e⟩:=x;exact Heap.lt_size e
 |tup xs=>obtain⟨_,_,_,p⟩:=x;exact p.lt
 |dK kvs=>obtain⟨_,_,_,_,o,_,_,e,_⟩:=x;exact Heap.lt_size e
 |dT kvs=>obtain⟨_,_,_,_,o,_,_,e,_⟩:=x;exact Heap.lt_size e
 |set S n=>obtain⟨o,_,_,_,e,_⟩:=x;exact Heap.lt_size e
 |ins C dx fs=>obtain⟨_,_,_,e,_⟩:=x;exact Heap.lt_size e
 |own y=>obtain⟨_,e⟩:=x;exact Heap.lt_size e
 |xd fs=>obtain⟨_,⟨_,_,_,e,_⟩,_⟩:=x;exact Heap.lt_size e
 |rng lo hi=>obtain⟨_,_,_,e⟩:=x;exact Heap.lt_size e
 |frz ob u=>obtain⟨e,_⟩:=x;exact Heap.lt_size e
 |tbl ps=>exact Heap.lt_size (show h.get? a=some _ from x)
 |met f y=>exact Heap.lt_size (show h.get? a=some _ from x)
 |ext φ=>obtain⟨_,⟨_,e⟩,_⟩:=x;exact Heap.lt_size e
theorem Paired.mapP {α β:Type}{F G:α->β->Prop}:∀ {l₁:List α} {l₂:List β},Paired F l₁ l₂->(∀ a b,F a b->G a b)->Paired G l₁ l₂
 |_,_,.nil,_=>.nil
 |_,_,.cons r t,f=>.cons (f _ _ r) (Paired.mapP t f)
def Paired.imp' {α β:Type}{F G:α->β->Prop}(f:∀ a b,F a b->G a b){l₁:List α}{l₂:List β}(r:Paired F l₁ l₂):Paired G l₁ l₂:=Paired.mapP r f
def zaQ.stay (x:zaQ P w H h a o)(k:∀ b u,(b=a\/H b=some (.own a))->h.get? b=some u->h'.get? b=some u)
  (ho:∀ b,H b=some (.own a)->H' b=some (.own a)) (ht:∀ b xs,H b=some (.tup xs)->H' b=some (.tup xs)):zaQ P w H' h' a o:=by
 induction o with
 |lst xs=>obtain⟨z,its,n,r,e⟩:=x;exact⟨z,its,n,r,k _ _ (.inl rfl) e⟩
 |tup xs=>obtain⟨z,its,r,ob,e,c⟩:=x;exact⟨z,its,r,ob,k _ _ (.inl rfl) e,c⟩
 |dK kvs=>obtain⟨z,y,vs,r,ob,es,ep,e,c⟩:=x;exact⟨z,y,vs,r,ob,es,ep,k _ _ (.inl rfl) e,c⟩
 |dT kvs =>obtain⟨z,y,xs,r,ob,es,ep,e,c⟩:=x;exact⟨z,y,xs,Paired.mapP r λp q z=>⟨z.1,ht _ _ z.2.1,z.2.2⟩,ob,es,ep,k _ _ (.inl rfl) e,c⟩
 |set S n=>obtain⟨ob,es,ep,t,e,c⟩:=x;exact⟨ob,es,ep,t,k _ _ (.inl rfl) e,c⟩
 |ins C dx fs =>obtain⟨d,z,ne,e,mA,⟨od,es,ep,e2,c⟩,r⟩:=x;exact⟨ho _ d,z,ne,k _ _ (.inl rfl) e,mA,⟨od,es,ep,k _ _ (.inr d) e2,c⟩,r⟩
 |own y=>obtain⟨ob,e⟩:=x;exact⟨ob,k _ _ (.inl rfl) e⟩
 |xd fs=>obtain⟨mA,⟨od,es,ep,e,c⟩,r⟩:=x;exact⟨mA,⟨od,es,ep,k _ _ (.inl rfl) e,c⟩,r⟩
 |rng lo hi=>obtain⟨t,u,v,e⟩:=x;exact⟨t,u,v,k _ _ (.inl rfl) e⟩
 |frz ob u ih=>obtain⟨e,q⟩:=x;exact⟨k _ _ (.inl rfl) e,ih q⟩
 |tbl ps =>have e:h.get? a=some { cls:=.none,data:=.fields ps }:=x;show h'.get? a=some { cls:=.none,data:=.fields ps };exact k a _ (.inl rfl) e
 |met f y =>have e:h.get? a=some (PySem.W.methodObj (.ref f) (.ref y)):=x;show h'.get? a=some (PySem.W.methodObj (.ref f) (.ref y));exact k a _ (.inl rfl) e
 |ext φ=>obtain⟨p,⟨o,e⟩,st⟩:=x;exact⟨st _ _ p λo q=>k _ _ (.inl rfl) q,⟨o,k _ _ (.inl rfl) e⟩,st⟩
theorem HOk.lt (x:HOk P w H h)(e:H a=some o):a<h.objs.size:=(x a o e).lt
def HOk.fresh (x:HOk P w H h)(e:h.objs.size<=a):H a=none:=by
 cases q:H a with
 |none=>rfl
 |some u=>exact absurd (Nat.lt_of_lt_of_le (x.lt q) e) (Nat.lt_irrefl _)
def HOk.kept (x:HOk P w H h)(k:∀ b u,h.get? b=some u->h'.get? b=some u):HOk P w H h':=λa o e =>(x a o e).stay (λb u _ q=>k b u q) (λ_ q=>q) λ_ _ q=>q
def HOk.laid (x:HOk P w H h)(k:∀ b u,h.get? b=some u->h'.get? b=some u)(hp:h.objs.size<=a)(new:zaQ P w (upd H a o) h' a o):HOk P w (upd H a o) h':=λb u e=>by
 have hn:=x.fresh hp;by_cases hb:b=a
 ·subst hb;rw[zat]at e;cases e;exact new
 ·rw[zP hb]at e;exact(x b u e).stay (λc v _ q=>k c v q) (λc q=>by rw[zP (za9 q hn)];exact q) λc xs q=>by rw[zP (za9 q hn)];exact q
end
def Rd (H:Hp)(a:Addr)(u:HO):Prop:=H a=some u\/∃ o,H a=some (.frz o u)
def Rd.ok (r:Rd H a u)(x:HOk P w H h):zaQ P w H h a u:=by
 rcases r with r|⟨o,r⟩
 ·exact x a u r
 ·obtain⟨_,q⟩:=x a _ r;exact q
def Mut:Option HO->Prop
 |some (.lst _)=>True
 |some (.dK _)=>True
 |some (.dT _)=>True
 |some (.set _ _)=>True
 |some (.ins _ _ _)=>True
 |some (.ext _)=>True
 |_=>False
section
variable {P:Program}{w:World}{H:Hp}{h h':Heap}{x e:Addr}{o':HO}
def HOk.write (ok:HOk P w H h)(mu:Mut (H x))(he:e=x\/H e=some (.own x))(k:∀ b u,b≠e->h.get? b=some u->h'.get? b=some u)(heo:∃ u,h'.get? e=some u)
  (new:zaQ P w (upd H x o') h' x o'):HOk P w (upd H x o') h':=λb u q=>by
 have nown:∀ c y,H c=some (.own y)->c≠x:=λc y r z=>by subst z;rw[r]at mu;exact mu
 have ntup:∀ c xs,H c=some (.tup xs)->c≠x:=λc xs r z=>by subst z;rw[r]at mu;exact mu
 by_cases hb:b=x
 ·subst hb;rw[zat]at q;cases q;exact new
 ·rw[zP hb]at q;by_cases hbe:b=e
  ·have q':H b=some (.own x):=by
    rcases he with z|z
    ·exact absurd (hbe.trans z) hb
    ·rw[hbe];exact z
   rw[q]at q';cases q';obtain⟨v,hv⟩:=heo;exact⟨v,by rw[hbe];exact hv⟩
  ·refine(ok b u q).stay (λc v hc r=>k c v ?_ r) (λc r=>by rw[zP (nown c b r)];exact r) λc xs r=>by rw[zP (ntup c xs r)];exact r
   rcases hc with rfl|hc
   ·exact hbe
   ·rintro rfl;rcases he with z|z
    ·exact nown c b hc z
    ·rw[hc]at z;cases z;exact hb rfl
end
structure Un (fs ex:List Addr)(H H':Hp)(h h':Heap):Prop where
 keep:∀ b o,h.get? b=some o->H b=none->b∉fs->b∉ex->h'.get? b=some o
 slot:∀ b o,h.get? b=some o->H b=none->b∈fs->b∉ex->∃ sl,h'.get? b=some { o with slots:=sl }
 free:∀ b o,h.get? b=some o->H b=none->b∉ex->H' b=none
 there:∀ b o,h.get? b=some o->b∉ex->∃ o',h'.get? b=some o'
 tups:∀ b xs,H b=some (.tup xs)->H' b=some (.tup xs)
 frzs:∀ b o u,H b=some (.frz o u)->H' b=some (.frz o u)
 tbls:∀ b ps,H b=some (.tbl ps)->∃ more,H' b=some (.tbl (ps++more))
section
variable {fs fs' ex ex':List Addr}{H H1 H2:Hp}{h h1 h2 h':Heap}{a x e:Addr}{o:HO}
def Un.any (u:Un fs ex H H1 h h1){b:Addr}{ob:Obj}(q:h.get? b=some ob)(n:H b=none)(hx:b∉ex):∃ sl,h1.get? b=some { ob with slots:=sl }:=by
 by_cases hb:b∈fs
 ·exact u.slot b ob q n hb hx
 ·exact⟨ob.slots,u.keep b ob q n hb hx⟩
def Un.kept (k:∀ b u,h.get? b=some u->h'.get? b=some u):Un fs ex H H h h' :=⟨λb ob q _ _ _=>k b ob q,λb ob q _ _ _=>⟨ob.slots,k b ob q⟩,λ_ _ _ n _=>n,λb ob q _=>⟨ob,k b ob q⟩,λ_ _ q=>q,λ_ _ _ q=>q,λ_ ps q=>⟨#[],by rw[q];simp⟩⟩
def Un.refl:Un fs ex H H h h:=Un.kept λ_ _ q=>q
def Un.laid (k:∀ b u,h.get? b=some u->h'.get? b=some u)(hp:h.objs.size<=a)(hn:H a=none):Un fs ex H (upd H a o) h h' where
 keep:=λb u q _ _ _=>k b u q
 slot:=λb u q _ _ _=>⟨u.slots,k b u q⟩
 free:=λb u q n _=>by rw[zP (Nat.ne_of_lt (Nat.lt_of_lt_of_le (Heap.lt_size q) hp))];exact n
 there:=λb u q _=>⟨u,k b u q⟩
 tups:=λb xs q=>by rw[zP (za9 q hn)];exact q
 frzs:=λb u xs q=>by rw[zP (za9 q hn)];exact q
 tbls:=λb ps q=>⟨#[],by rw[zP (za9 q hn),q];simp⟩
def Un.write (mu:Mut (H x))(he:e=x\/H e=some (.own x))(k:∀ b u,b≠e->h.get? b=some u->h'.get? b=some u)(heo:∃ u,h'.get? e=some u):Un fs ex H (upd H x o) h h':=by
 have hx:∀ b,H b=none->b≠x:=λb n z=>by subst z;rw[n]at mu;exact mu
 have hb:∀ b,H b=none->b≠e:=λb n z=>by
  subst z;rcases he with r|r
  ·exact hx b n r
  ·rw[n]at r;cases r
 have hm:∀ b u,H b=some u->¬ Mut (some u)->b≠x:=λb u q nm z=>by subst z;rw[q]at mu;exact nm mu
 refine⟨λb u q n _ _=>k b u (hb b n) q,λb u q n _ _=>⟨u.slots,k b u (hb b n) q⟩,λb u q n _=>by rw[zP (hx b n)];exact n,λb u q _=>?_,
  λb xs q=>by rw[zP (hm b _ q λz=>z)];exact q,λb u xs q=>by rw[zP (hm b _ q λz=>z)];exact q,λb ps q=>⟨#[],by rw[zP (hm b _ q λz=>z),q];simp⟩⟩
 by_cases hbe:b=e
 ·subst hbe;exact heo
 ·exact⟨u,k b u hbe q⟩
end
def trk (h:Heap)(H:Hp):List Addr:=(List.range h.objs.size).filter λa=>(H a).isSome
def zfd (h:Heap)(H:Hp):Heap:=PySem.W.hideAll h (trk h H)
def znN (h:Heap)(H:Hp):(zfd h H).objs.size=h.objs.size:=PySem.W.hideAll_size _ _
def zoy {h:Heap}{H:Hp}{b:Addr}{o:Obj}(e:h.get? b=some o)(n:H b=none):(zfd h H).get? b=some o :=
 PySem.W.hideAll_get _ e λhm=>by have q:(H b).isSome=true:=(List.mem_filter.mp hm).2;rw[n]at q;simp at q
def zpP {h:Heap}{H:Hp}{b:Addr}{o:Obj}(e:(zfd h H).get? b=some o):h.get? b=some o/\H b=none:=by
 have e':h.get? b=some o:=PySem.W.of_hideAll (trk h H) e;refine⟨e',?_⟩;cases q:H b with
 |none=>rfl
 |some x =>have hm:b∈trk h H:=List.mem_filter.mpr ⟨List.mem_range.mpr (Heap.lt_size e'),by simp[q]⟩;have z:(zfd h H).get? b=none:=PySem.W.hideAll_none (trk h H) hm;rw[z]at e;cases e
def zp3 (g h:Heap)(L:Addr):List (Addr×Obj):=(List.range h.objs.size).filterMap λa=>if a=L\/(g.get? a).isSome=true then none else(h.get? a).map λo=>(a,o)
def rest (g h:Heap)(L d:Addr):List (Addr×Obj):=(zp3 g h L).filter λp=>decide (p.1≠d)
structure Mod (K:PySem.W.Frag)(mg:Str->Option Value)(base:Heap):Prop where
 kin:K.In base
 glob:base.Ns mainGlobals mg
 blt:∃ mb,base.Ns builtinsNs mb/\∀ x:Str,x≠"__name__"->mb x=bootBuiltins x
 nolimit:base.NoLimit
/-- the context: a def's body (or a comprehension's block) running. base: fixed through the whole law; s₀, H₀: the entry; outer: the frames whose slots others may change (a def's callers); stack: all frames that run;
   ex: iterators that were made ahead of the entry and are walked here (a comprehension's);fn: the names whose cells were made at the entry (a def: all;a comprehension's block: its own);calm: not within an except suite;pn: pins that every state bears;xe: what is wanted of an exception that leaves the code -/
structure Cx where
 prog:Program
 w:World
 K:PySem.W.Frag
 mg:Str->Option Value
 base:Heap
 A:Around
 N:List Str
 s₀:Shared
 H₀:Hp
 env:Env
 outer:List Env
 stack:List Env
 ex:List Addr
 fn:Str->Bool
 calm:Bool
 pn:List (Addr×Obj)
 xe:Value->Shared->Prop
def frs (l:List Env):List Addr:=l.filterMap (·.frame)
abbrev Cx.fs (X:Cx):List Addr:=frs X.outer
noncomputable def Vis (sc:Scope) (x:Str):Prop:=sc.names.lookup x=some .local\/sc.names.lookup x=some .cell\/sc.names.lookup x=some .free
def Loc (sc:Scope)(x:Str):Prop:=sc.names.lookup x=some .local\/sc.names.lookup x=some .cell
def Look (env:Env)(h:Heap)(m:Str->Option Value)(x:Str)(u:Value):Prop :=(env.kindOf x=some .local/\m x=some u)\/((env.kindOf x=some .cell\/env.kindOf x=some .free)/\∃ c,env.cells.lookup x=some c/\h.IsCell c (some u))
structure Cx.Ok (X:Cx):Prop where
 mod:Mod X.K X.mg X.base
 kind:X.env.scope.kind=.function
 glob:X.env.globals=mainGlobals
 blt:X.env.builtins=builtinsNs
 above:X.s₀.heap.objs.size<=X.env.locals
 inj:∀ x y c,X.env.cells.lookup x=some c->X.env.cells.lookup y=some c->x=y
 has:∀ x,(X.env.kindOf x=some .cell\/X.env.kindOf x=some .free)->∃ c,X.env.cells.lookup x=some c
 cab:∀ x c,X.fn x=true->X.env.cells.lookup x=some c->X.s₀.heap.objs.size<=c
 hd:X.calm=true->X.A.handled=none
 frames:X.A.frames=some X.stack
 stk:X.stack=X.outer\/(X.stack=X.env::X.outer/\X.env.frame=some X.env.locals)
 exf:∀ b∈X.ex,b≠X.env.locals/\∀ x c,X.env.cells.lookup x=some c->c≠b
 bs:∀ b o,X.base.get? b=some o->X.s₀.heap.get? b=some o/\X.H₀ b=none
 bsz:X.base.objs.size<=X.s₀.heap.objs.size
 noex:∀ b o,X.base.get? b=some o->b∉X.ex
 exfs:∀ b∈X.ex,b∉X.fs
 funs:X.s₀.heap.FunFrames X.base X.outer
 frf:∀ b∈X.fs,X.H₀ b=none
structure Inv (X:Cx)(pins:List (Addr×Obj))(U:List (Option V))(H:Hp)(s:Shared):Prop where
 ok:X.Ok
 os:s.os=X.s₀.os
 bare:AllBare s.gens
 base:Un X.fs X.ex X.H₀ H X.s₀.heap s.heap
 loc:∃ m,s.heap.Ns X.env.locals m/\∀ (i:Nat) (x:Str) (v:V),X.N[i]?=some x->U[i]?=some (some v)->Vis X.env.scope x->∃ u,RelV v u/\Look X.env s.heap m x u
 cell:∀ x c,X.env.cells.lookup x=some c->∃ v,s.heap.IsCell c v
 free:H X.env.locals=none
 freeC:∀ x c,X.env.cells.lookup x=some c->H c=none
 pin:∀ p∈X.pn++pins,s.heap.get? p.1=some p.2/\H p.1=none/\p.1≠X.env.locals/\p.1∉X.fs/\∀ v,p.2.data≠.cell v
 hok:HOk X.prog X.w H s.heap
 len:U.length=X.N.length
section
variable {X:Cx}{pins:List (Addr×Obj)}{U:List (Option V)}{H H':Hp}{s:Shared}{h':Heap}
def Cx.Ok.nofr (ok:X.Ok){b:Addr}{o:Obj}(e:X.base.get? b=some o):b∉X.fs:=λhb=>by have:=(ok.funs.mem hb).1;rw[e]at this;cases this
theorem Inv.bs (I:Inv X pins U H s):∀ b o,X.base.get? b=some o->s.heap.get? b=some o/\H b=none:=λb o e =>⟨I.base.keep b o (I.ok.bs b o e).1 (I.ok.bs b o e).2 (I.ok.nofr e) (I.ok.noex b o e),I.base.free b o (I.ok.bs b o e).1 (I.ok.bs b o e).2 (I.ok.noex b o e)⟩
def Inv.bk (I:Inv X pins U H s):∀ b o,X.base.get? b=some o->s.heap.get? b=some o:=λb o e=>(I.bs b o e).1
theorem Inv.mod (I:Inv X pins U H s):Mod X.K X.mg X.base:=I.ok.mod
def Inv.kIn (I:Inv X pins U H s):X.K.In s.heap:=I.ok.mod.kin.keeps I.bk
theorem Inv.lt (I:Inv X pins U H s):X.env.locals<s.heap.objs.size:=by obtain⟨_,hn,_⟩:=I.loc;exact hn.lt
def Inv.sz (I:Inv X pins U H s):X.s₀.heap.objs.size<=s.heap.objs.size:=Nat.le_trans I.ok.above (Nat.le_of_lt I.lt)
def Inv.nofs (I:Inv X pins U H s){a:Addr}(h:s.heap.objs.size<=a):a∉X.fs:=λhb=>by obtain⟨_,o,ho,_⟩:=I.ok.funs.mem hb;exact absurd (Nat.lt_of_lt_of_le (Heap.lt_size ho) (Nat.le_trans I.sz h)) (Nat.lt_irrefl _)
def Inv.cne (I:Inv X pins U H s):∀ x c,X.env.cells.lookup x=some c->c≠X.env.locals:=λx c e z=>by obtain⟨v,o,ho,hd⟩:=I.cell x c e;obtain⟨m,⟨o',es,ep,ho',hd',_⟩,_⟩:=I.loc;rw[z,ho']at ho;cases ho;rw[hd']at hd;cases hd
theorem Inv.funs (I:Inv X pins U H s):s.heap.FunFrames X.base X.outer:=by
 have all:∀ (l:List Env),(∀ b∈frs l,b∈X.fs)->X.s₀.heap.FunFrames X.base l->s.heap.FunFrames X.base l:=by
  intro l
  induction l with
  |nil=>intro _ _;trivial
  |cons env r ih =>
   intro hs hl;obtain⟨hk,⟨L,o,hf,hn,ho,hd⟩,hr⟩:=hl;have hL:L∈X.fs:=hs L (by unfold frs;rw[List.filterMap_cons,hf];exact List.mem_cons_self);obtain⟨sl,e⟩:=I.base.slot L o ho (I.ok.frf L hL) hL λz=>I.ok.exfs L z hL
   exact⟨hk,⟨L,_,hf,hn,e,hd⟩,ih (λb hb=>hs b (by unfold frs;rw[List.filterMap_cons,hf];exact List.mem_cons_of_mem _ hb)) hr⟩
 exact all X.outer (λ_ hb=>hb) I.ok.funs
theorem Inv.stack (I:Inv X pins U H s):s.heap.FunFrames X.base X.stack:=by
 rcases I.ok.stk with e|⟨e,hf⟩
 ·rw[e];exact I.funs
 ·rw[e];obtain⟨m,hn,_⟩:=I.loc;refine .cons (by rw[I.ok.kind];decide) hf hn ?_ I.funs;exact Heap.get?_none_of_le (Nat.le_trans I.ok.bsz I.ok.above)
def Inv.stkSub (I:Inv X pins U H s):∀ b∈frs X.stack,b∈X.env.locals::X.fs:=λb hb=>by
 rcases I.ok.stk with e|⟨e,hf⟩
 ·rw[e]at hb;exact List.mem_cons_of_mem _ hb
 ·rw[e]at hb;unfold frs at hb;rw[List.filterMap_cons,hf]at hb;exact hb
def Inv.stkFree (I:Inv X pins U H s):∀ b∈frs X.stack,H b=none:=λb hb=>by
 rcases List.mem_cons.mp (I.stkSub b hb)with e|hb
 ·rw[e];exact I.free
 ·obtain⟨_,o,ho,_⟩:=I.ok.funs.mem hb;exact I.base.free b o ho (I.ok.frf b hb) λz=>I.ok.exfs b z hb
def Inv.step {t':Nat}{d':Drawn}{ch:List Addr}(I:Inv X pins U H s)(hch:∀ b∈ch,(b∈X.ex\/X.s₀.heap.objs.size<=b)/\b≠X.env.locals/\(∀ x c,X.env.cells.lookup x=some c->c≠b)/\∀ p∈X.pn++pins,p.1≠b)(keep:∀ b o,b≠X.env.locals->b∉X.fs->b∉ch->s.heap.get? b=some o->H b=none->h'.get? b=some o)(slot:∀ b o,b≠X.env.locals->b∈X.fs->b∉ch->s.heap.get? b=some o->H b=none->∃ sl,h'.get? b=some { o with slots:=sl })(free:∀ b o,b∉ch->s.heap.get? b=some o->H b=none->H' b=none)(there:∀ b o,b∉ch->s.heap.get? b=some o->∃ o',h'.get? b=some o')(tups:∀ b xs,H b=some (.tup xs)->H' b=some (.tup xs))(frzs:∀ b o u,H b=some (.frz o u)->H' b=some (.frz o u))(tbls:∀ b ps,H b=some (.tbl ps)->∃ more,H' b=some (.tbl (ps++more)))(ns:∀ m,s.heap.Ns X.env.locals m->h'.Ns X.env.locals m)(hok:HOk X.prog X.w H' h')(hg:AllBare g') :
  Inv X pins U H' { s with heap:=h',gens:=g',drawn:=d',toks:=t' }:=by
 have neL:∀ b o,X.s₀.heap.get? b=some o->b≠X.env.locals:=λb o e=>Nat.ne_of_lt (Nat.lt_of_lt_of_le (Heap.lt_size e) I.ok.above)
 have neC:∀ b o,X.s₀.heap.get? b=some o->b∉X.ex->b∉ch:=λb o e hx hb=>by
  rcases(hch b hb).1 with z|z
  ·exact hx z
  ·exact absurd (Nat.lt_of_lt_of_le (Heap.lt_size e) z) (Nat.lt_irrefl _)
 have cellK:∀ x c,X.env.cells.lookup x=some c->∀ v,s.heap.IsCell c v->h'.IsCell c v:=by
  rintro x c e v ⟨o,ho,hd⟩;have nch:c∉ch:=λz=>(hch c z).2.2.1 x c e rfl
  by_cases hc:c∈X.fs
  ·obtain⟨sl,q⟩:=slot c o (I.cne x c e) hc nch ho (I.freeC x c e);exact⟨_,q,hd⟩
  ·exact⟨o,keep c o (I.cne x c e) hc nch ho (I.freeC x c e),hd⟩
 refine⟨I.ok,I.os,hg,⟨λb o e n hb hx=>?_,λb o e n hb hx=>?_,λb o e n hx=>?_,λb o e hx=>?_,λb xs e=>tups b xs (I.base.tups b xs e),λb o xs e=>frzs b o xs (I.base.frzs b o xs e),λb ps e=>?_⟩,?_,λx c e=>?_,?_,λx c e=>?_,λp hp=>?_,hok,I.len⟩
 ·exact keep b o (neL b o e) hb (neC b o e hx) (I.base.keep b o e n hb hx) (I.base.free b o e n hx)
 ·obtain⟨sl,e1⟩:=I.base.slot b o e n hb hx;obtain⟨sl',e2⟩:=slot b _ (neL b o e) hb (neC b o e hx) e1 (I.base.free b o e n hx);exact⟨sl',e2⟩
 ·obtain⟨o',e1⟩:=I.base.there b o e hx;exact free b o' (neC b o e hx) e1 (I.base.free b o e n hx)
 ·obtain⟨o',e1⟩:=I.base.there b o e hx;exact there b o' (neC b o e hx) e1
 ·obtain⟨m1,e1⟩:=I.base.tbls b ps e;obtain⟨m2,e2⟩:=tbls b _ e1;exact⟨m1++m2,by rw[e2,Array.append_assoc]⟩
 ·obtain⟨m,hn,hl⟩:=I.loc;refine⟨m,ns m hn,λi x v e1 e2 e3=>?_⟩;obtain⟨u,r,l⟩:=hl i x v e1 e2 e3;refine⟨u,r,?_⟩;rcases l with l|⟨k,c,e,z⟩
  ·exact .inl l
  ·exact .inr ⟨k,c,e,cellK x c e _ z⟩
 ·obtain⟨v,z⟩:=I.cell x c e;exact⟨v,cellK x c e v z⟩
 ·obtain⟨m,⟨o,_,_,ho,_⟩,_⟩:=I.loc;exact free _ o (λz=>(hch _ z).2.1 rfl) ho I.free
 ·obtain⟨v,o,ho,hd⟩:=I.cell x c e;exact free c o (λz=>(hch c z).2.2.1 x c e rfl) ho (I.freeC x c e)
 ·obtain⟨e,n,ne,nf,d⟩:=I.pin p hp;have nch:p.1∉ch:=λz=>(hch p.1 z).2.2.2 p hp rfl
  exact⟨keep p.1 p.2 ne nf nch e n,free p.1 p.2 nch e n,ne,nf,d⟩
def Inv.un {t':Nat}(I:Inv X pins U H s)(u:Un X.fs [] H H' s.heap h')(hok:HOk X.prog X.w H' h'):Inv X pins U H' { s with heap:=h',toks:=t' }:=by
 obtain⟨m,⟨o,es,ep,ho,r⟩,_⟩:=id I.loc;obtain⟨sl,hL⟩:=u.any ho I.free (by simp)
 exact I.step (g':=s.gens) (d':=s.drawn) (ch:=[]) (λ_ z=>nomatch z) (λb o _ hb _ e n=>u.keep b o e n hb (by simp)) (λb o _ hb _ e n=>u.slot b o e n hb (by simp)) (λb o _ e n=>u.free b o e n (by simp)) (λb o _ e=>u.there b o e (by simp)) u.tups u.frzs u.tbls (λm' hm=>by obtain⟨o',es',ep',ho',r'⟩:=hm;rw[ho]at ho';cases ho';exact⟨_,es',ep',hL,r'⟩) hok I.bare
def Inv.call {t':Nat}{d':Drawn}(I:Inv X pins U H s)(u:Un (frs X.stack) ch H H' s.heap h')(hok:HOk X.prog X.w H' h')(hg:AllBare g')(hch:∀ b∈ch,(b∈X.ex\/X.s₀.heap.objs.size<=b)/\b≠X.env.locals/\(∀ x c,X.env.cells.lookup x=some c->c≠b)/\∀ p∈X.pn++pins,p.1≠b) :
  Inv X pins U H' { s with heap:=h',gens:=g',drawn:=d',toks:=t' }:=by
 obtain⟨m,⟨o,es,ep,ho,r⟩,_⟩:=id I.loc;obtain⟨sl,hL⟩:=u.any ho I.free λz=>(hch _ z).2.1 rfl
 exact I.step (ch:=ch) hch (λb o hL hb hc e n=>u.keep b o e n (λz=>(List.mem_cons.mp (I.stkSub b z)).elim hL hb) hc) (λb o _ _ hc e n=>u.any e n hc) (λb o hc e n=>u.free b o e n hc) (λb o hc e=>u.there b o e hc) u.tups u.frzs u.tbls (λm' hm=>by obtain⟨o',es',ep',ho',r'⟩:=hm;rw[ho]at ho';cases ho';exact⟨_,es',ep',hL,r'⟩) hok hg
def Inv.turned {t':Nat}{it:Addr}(I:Inv X pins U H s)(k:∀ b o,b≠it->s.heap.get? b=some o->h'.get? b=some o)(hn:H it=none)(hL:it≠X.env.locals)
  (h1:it∈X.ex\/X.s₀.heap.objs.size<=it) (h2:∀ x c,X.env.cells.lookup x=some c->c≠it) (h3:∀ p∈X.pn++pins,p.1≠it):Inv X pins U H { s with heap:=h',toks:=t' }:=by
 have nit:∀ b u,H b=some u->b≠it:=λb u e z=>by rw[z,hn]at e;cases e
 refine I.step (g':=s.gens) (d':=s.drawn) (ch:=[it]) (λb hb=>?_) (λb o _ _ hc e _=>k b o (λz=>hc (by simp[z])) e) (λb o _ _ hc e _=>⟨o.slots,k b o (λz=>hc (by simp[z])) e⟩) (λ_ _ _ _ n=>n)
  (λb o hc e=>⟨o,k b o (λz=>hc (by simp[z])) e⟩) (λ_ _ e=>e) (λ_ _ _ e=>e) (λb ps e=>⟨#[],by rw[e];simp⟩) (λm hm=>?_) (λb u e=>?_) I.bare
 ·have e:b=it:=by simpa using hb
  subst e;exact⟨h1,hL,h2,h3⟩
 ·obtain⟨o,es,ep,ho,r⟩:=hm;exact⟨o,es,ep,k _ o (Ne.symm hL) ho,r⟩
 ·refine(I.hok b u e).stay (λc v hc q=>k c v ?_ q) (λ_ q=>q) λ_ _ q=>q
  rcases hc with z|z
  ·rw[z];exact nit b u e
  ·exact nit c _ z
def Inv.tok (I:Inv X pins U H s)(t:Nat):Inv X pins U H { s with toks:=t }:=I.un (h':=s.heap) (t':=t) Un.refl I.hok
theorem Inv.kept {t':Nat}(I:Inv X pins U H s)(k:∀ b u,s.heap.get? b=some u->h'.get? b=some u):Inv X pins U H { s with heap:=h',toks:=t' }:=I.un (Un.kept k) (I.hok.kept k)
theorem Inv.laid {a:Addr}{o:HO}{t':Nat}(I:Inv X pins U H s)(k:∀ b u,s.heap.get? b=some u->h'.get? b=some u)(hp:s.heap.objs.size<=a)(new:zaQ X.prog X.w (upd H a o) h' a o) :
  Inv X pins U (upd H a o) { s with heap:=h',toks:=t' }:=I.un (Un.laid k hp (I.hok.fresh hp)) (I.hok.laid k hp new)
theorem Inv.write {x e:Addr}{o:HO}{t':Nat}(I:Inv X pins U H s)(mu:Mut (H x))(he:e=x\/H e=some (.own x))(k:∀ b u,b≠e->s.heap.get? b=some u->h'.get? b=some u)(heo:∃ u,h'.get? e=some u)
  (new:zaQ X.prog X.w (upd H x o) h' x o):Inv X pins U (upd H x o) { s with heap:=h',toks:=t' }:=I.un (Un.write mu he k heo) (I.hok.write mu he k heo new)
def Inv.weak {σ':List (Option V)}(I:Inv X pins U H s)(hl:σ'.length=U.length)(w:∀ (i:Nat) v,σ'[i]?=some (some v)->U[i]?=some (some v)):Inv X pins σ' H s :=⟨I.ok,I.os,I.bare,I.base,by obtain⟨m,hn,hl'⟩:=I.loc;exact⟨m,hn,λi x v e1 e2 e3=>hl' i x v e1 (w i v e2) e3⟩,I.cell,I.free,I.freeC,I.pin,I.hok,hl.trans I.len⟩
def Inv.pins_of {pins':List (Addr×Obj)}(I:Inv X pins U H s)(h:∀ p∈pins',s.heap.get? p.1=some p.2/\H p.1=none/\p.1≠X.env.locals/\p.1∉X.fs/\∀ v,p.2.data≠.cell v):Inv X pins' U H s :=⟨I.ok,I.os,I.bare,I.base,I.loc,I.cell,I.free,I.freeC,λp hp=>(List.mem_append.mp hp).elim (λz=>I.pin p (List.mem_append_left _ z)) (h p),I.hok,I.len⟩
def zgG {N:List Str}(hN:N.Nodup){i j:Nat}{x:Str}(a:N[i]?=some x)(b:N[j]?=some x):i=j:=by obtain⟨h1,e1⟩:=List.getElem?_eq_some_iff.mp a;obtain⟨h2,e2⟩:=List.getElem?_eq_some_iff.mp b;exact(List.getElem_inj hN).mp (e1.trans e2.symm)
def zfV {M:Model}{A:Around}{E:Value->Shared->Prop}{i:Nat}{x:Str}{Q:Unit->Shared->Prop}(I:Inv X pins U H s)(hN:X.N.Nodup)(hi:X.N[i]?=some x)(hx:Loc X.env.scope x)(r:RelV v u)(h:∀ s',Inv X pins (U.set i (some v)) H s'->(∃ a,Heap.SameBut a s.heap s'.heap/\(a=X.env.locals\/X.env.cells.lookup x=some a))->Q ⟨⟩ s')(hf:autoParam (X.fn x=true\/X.env.scope.names.lookup x=some .local) zep):wpAny M A (storeName X.env x u) Q E s:=by
 obtain⟨m,hn,hl⟩:=id I.loc;have hcls:(X.env.scope.kind==.class||(X.env.scope.kind==.module&&X.env.locals != X.env.globals))=false:=by rw[I.ok.kind];rfl
 have hiσ:i<U.length:=by rw[I.len];exact(List.getElem?_eq_some_iff.mp hi).1
 have cne:=I.cne
 have tracked:∀ {a:Addr} {h':Heap},(∃ o,s.heap.get? a=some o/\H a=none)->Heap.SameBut a s.heap h'->HOk X.prog X.w H h':=λ{a h'} ha hs b ob e=>by
  obtain⟨_,_,hfree⟩:=ha;refine(I.hok b ob e).stay (λc w' hc q=>(hs.2 c ?_).trans q) (λ_ q=>q) λ_ _ q=>q
  rintro rfl;rcases hc with rfl|hc
  ·rw[hfree]at e;cases e
  ·rw[hfree]at hc;cases hc
 rcases hx with hk|hk
 ·refine wpAny_storeName_local hk hn (λh' hn' hs=>?_) hcls;obtain⟨oL,_,_,hoL,_⟩:=id hn;refine h _ ⟨I.ok,I.os,I.bare,⟨λb o e n hb hx=>?_,λb o e n hb hx=>?_,I.base.free,λb o e hx=>?_,I.base.tups,I.base.frzs,I.base.tbls⟩,⟨_,hn',λj y v' e1 e2 e3=>?_⟩,λy c e=>?_,I.free,I.freeC,λp hp=>?_,tracked ⟨oL,hoL,I.free⟩ hs,by simpa using I.len⟩ ⟨_,hs,.inl rfl⟩
  ·exact(hs.2 b (Nat.ne_of_lt (Nat.lt_of_lt_of_le (Heap.lt_size e) I.ok.above))).trans (I.base.keep b o e n hb hx)
  ·obtain⟨sl,e1⟩:=I.base.slot b o e n hb hx;exact⟨sl,(hs.2 b (Nat.ne_of_lt (Nat.lt_of_lt_of_le (Heap.lt_size e) I.ok.above))).trans e1⟩
  ·obtain⟨o',e1⟩:=I.base.there b o e hx;exact⟨o',(hs.2 b (Nat.ne_of_lt (Nat.lt_of_lt_of_le (Heap.lt_size e) I.ok.above))).trans e1⟩
  ·by_cases hj:j=i
   ·subst hj;rw[hi]at e1;cases e1;rw[List.getElem?_set_self hiσ]at e2;cases e2;exact⟨u,r,.inl ⟨hk,by simp⟩⟩
   ·rw[List.getElem?_set_ne (Ne.symm hj)]at e2;obtain⟨u',r',q⟩:=hl j y v' e1 e2 e3;refine⟨u',r',?_⟩;rcases q with⟨k,e⟩|⟨k,c,e,z⟩
    ·refine .inl ⟨k,?_⟩;have:y≠x:=λe=>hj (zgG hN e1 (e▸hi))
     simp[this,e]
    ·exact .inr ⟨k,c,e,z.sameBut hs (cne y c e)⟩
  ·obtain⟨w',z⟩:=I.cell y c e;exact⟨w',z.sameBut hs (cne y c e)⟩
  ·obtain⟨e,n,ne,nf,d⟩:=I.pin p hp;exact⟨(hs.2 p.1 ne).trans e,n,ne,nf,d⟩
 ·have hfn:X.fn x=true:=by
   rcases hf with z|z
   ·exact z
   ·rw[z]at hk;cases hk
  obtain⟨c,hc⟩:=I.ok.has x (.inl hk);obtain⟨w',z⟩:=I.cell x c hc;refine wpAny_storeName_cell I.ok.kind hk hc z (λh' hc' hs=>?_);obtain⟨oc,hoc,hocd⟩:=id z;refine h { s with heap:=h' } ⟨I.ok,I.os,I.bare,⟨λb o e n hb hx=>?_,λb o e n hb hx=>?_,I.base.free,λb o e hx=>?_,I.base.tups,I.base.frzs,I.base.tbls⟩,⟨m,hn.sameBut hs (Ne.symm (cne x c hc)),λj y v' e1 e2 e3=>?_⟩,λy c' e=>?_,I.free,I.freeC,λp hp=>?_,tracked ⟨oc,hoc,I.freeC x c hc⟩ hs,by simpa using I.len⟩ ⟨c,hs,.inr hc⟩
  ·exact(hs.2 b (Nat.ne_of_lt (Nat.lt_of_lt_of_le (Heap.lt_size e) (I.ok.cab x c hfn hc)))).trans (I.base.keep b o e n hb hx)
  ·obtain⟨sl,e1⟩:=I.base.slot b o e n hb hx;exact⟨sl,(hs.2 b (Nat.ne_of_lt (Nat.lt_of_lt_of_le (Heap.lt_size e) (I.ok.cab x c hfn hc)))).trans e1⟩
  ·obtain⟨o',e1⟩:=I.base.there b o e hx;exact⟨o',(hs.2 b (Nat.ne_of_lt (Nat.lt_of_lt_of_le (Heap.lt_size e) (I.ok.cab x c hfn hc)))).trans e1⟩
  ·by_cases hj:j=i
   ·subst hj;rw[hi]at e1;cases e1;rw[List.getElem?_set_self hiσ]at e2;cases e2;exact⟨u,r,.inr ⟨.inl hk,c,hc,hc'⟩⟩
   ·rw[List.getElem?_set_ne (Ne.symm hj)]at e2;obtain⟨u',r',q⟩:=hl j y v' e1 e2 e3;refine⟨u',r',?_⟩;rcases q with q|⟨k,c',e,z'⟩
    ·exact .inl q
    ·refine .inr ⟨k,c',e,z'.sameBut hs ?_⟩;rintro rfl;exact hj (zgG hN e1 (I.ok.inj _ _ _ e hc▸hi))
  ·by_cases hcc:c'=c
   ·subst hcc;exact⟨_,hc'⟩
   ·obtain⟨w2,z2⟩:=I.cell y c' e;exact⟨w2,z2.sameBut hs hcc⟩
  ·obtain⟨e,n,ne,nf,d⟩:=I.pin p hp;refine⟨(hs.2 p.1 ?_).trans e,n,ne,nf,d⟩;intro q;rw[q,hoc]at e;have q':oc=p.2:=Option.some.inj e;exact d w' (by rw[<- q'];exact hocd)
def zcX {M:Model}{A:Around}{E:Value->Shared->Prop}{i:Nat}{x:Str}{Q:Unit->Shared->Prop}(I:Inv X pins U H s)(hN:X.N.Nodup)(hi:X.N[i]?=some x)(hx:Loc X.env.scope x)(r:RelV v u)(h:∀ s',Inv X pins (U.set i (some v)) H s'->Q ⟨⟩ s')(hf:autoParam (X.fn x=true\/X.env.scope.names.lookup x=some .local) zep):wpAny M A (storeName X.env x u) Q E s :=zfV I hN hi hx r (λs' I' _=>h s' I') hf
def Inv.call' {s':Shared}(I:Inv X pins U H s)(ho:s'.os=s.os)(u:Un (frs X.stack) ch H H' s.heap s'.heap)(hok:HOk X.prog X.w H' s'.heap)(hg:AllBare s'.gens)(hch:∀ b∈ch,(b∈X.ex\/X.s₀.heap.objs.size<=b)/\b≠X.env.locals/\(∀ x c,X.env.cells.lookup x=some c->c≠b)/\∀ p∈X.pn++pins,p.1≠b):Inv X pins U H' s':=by obtain⟨h',g',d',t',o'⟩:=s';have e:o'=s.os:=ho;subst e;exact I.call (g':=g') (t':=t') (d':=d') u hok hg hch
end
abbrev XK:=Value->Option Addr->Hp->Prop
abbrev St:=List (Option V)
abbrev VK:=V->Hp->Prop
abbrev TE:=St->Hp->VK->Prop
abbrev TT:=St->Hp->(Bool->Hp->Prop)->Prop
abbrev TA:=St->Hp->(List V->Hp->Prop)->Prop
structure Ends where
 nx:St->Hp->Prop
 rt:VK
 bk:St->Hp->Prop:=λ_ _=>False
 ct:St->Hp->Prop:=λ_ _=>False
abbrev TS:=Ends->St->Hp->Prop
def EP (X:Cx)(pins:List (Addr×Obj))(U:St)(Q:VK)(u:Value)(s':Shared):=∃ v H',Inv X pins U H' s'/\RelV v u/\Q v H'
def TP (X:Cx)(pins:List (Addr×Obj))(U:St)(Q:Bool->Hp->Prop)(b:Bool)(s':Shared):=∃ H',Inv X pins U H' s'/\Q b H'
def AP (X:Cx)(pins:List (Addr×Obj))(U:St)(Q:List V->Hp->Prop)(us:List Value)(s':Shared):=∃ vs H',Inv X pins U H' s'/\Vals vs us/\Q vs H'
def SP (X:Cx)(pins:List (Addr×Obj))(D:Ends)(f:Flow)(s':Shared):Prop :=
 match f with
 |.next=>∃ σ' H',Inv X pins σ' H' s'/\D.nx σ' H'
 |.brk=>∃ σ' H',Inv X pins σ' H' s'/\D.bk σ' H'
 |.cont=>∃ σ' H',Inv X pins σ' H' s'/\D.ct σ' H'
 |.ret u=>∃ v σ' H',Inv X pins σ' H' s'/\RelV v u/\D.rt v H'
def PE (X:Cx)(e:Expr)(t:TE):=∀ (pins:List (Addr×Obj)) (s:Shared) (U:St) (H:Hp) (Q:VK),Inv X pins U H s->t U H Q->wpAny (model X.prog X.w) X.A (eval e X.env) (EP X pins U Q) X.xe s
def PT (X:Cx)(e:Expr)(t:TT):=∀ (pins:List (Addr×Obj)) (s:Shared) (U:St) (H:Hp) (Q:Bool->Hp->Prop),Inv X pins U H s->t U H Q->wpAny (model X.prog X.w) X.A (isTrue e X.env (eval e X.env)) (TP X pins U Q) X.xe s
def PW (X:Cx)(e:Expr)(t:TT):=∀ (whole:Sem Value) (pins:List (Addr×Obj)) (s:Shared) (U:St) (H:Hp) (Q:Bool->Hp->Prop),Inv X pins U H s->t U H Q->wpAny (model X.prog X.w) X.A (isTrue e X.env whole) (TP X pins U Q) X.xe s
def PA (X:Cx)(es:List Expr)(t:TA):=∀ (pos:Pos) (pins:List (Addr×Obj)) (s:Shared) (U:St) (H:Hp) (Q:List V->Hp->Prop),Inv X pins U H s->t U H Q->wpAny (model X.prog X.w) X.A (spliced (backTo pos (starEach es X.env))) (AP X pins U Q) X.xe s
def PS (X:Cx)(st:Stmt)(t:TS):=∀ (pins:List (Addr×Obj)) (s:Shared) (U:St) (H:Hp) (D:Ends),Inv X pins U H s->t D U H->wpAny (model X.prog X.w) X.A (exec st X.env) (SP X pins D) X.xe s
def PSs (X:Cx)(st:List Stmt)(t:TS):=∀ (pins:List (Addr×Obj)) (s:Shared) (U:St) (H:Hp) (D:Ends),Inv X pins U H s->t D U H->wpAny (model X.prog X.w) X.A (execs st X.env) (SP X pins D) X.xe s
def thn {α:Type}{t:Sem α}{Q Q':α->Shared->Prop}{M:Model}{A:Around}{E:Value->Shared->Prop}{s:Shared}(h:wpAny M A t Q E s)(hQ:∀ a s,Q a s->Q' a s):wpAny M A t Q' E s:=wpAny_mono h hQ λ_ _ x=>x
section
variable {X:Cx}
def zn1 (i:Nat):TE:=λU H Q=>∃ v,U[i]?=some (some v)/\Q v H
def tC (v:V):TE:=λ_ H Q=>Q v H
def znL {i:Nat}{x:Str}{pos:Pos}(hN:X.N[i]?=some x)(hv:Vis X.env.scope x)(hd:autoParam ((x==("__debug__":Str))=false) zW)(hcd:autoParam ((x==("__classdict__":Str))=false) zW):PE X (.Name x pos) (zn1 i):=by
 intro pins s U H Q I h;obtain⟨v,e,h⟩:=h;obtain⟨m,hn,hl⟩:=I.loc;obtain⟨u,r,l⟩:=hl i x v hN e hv;have fin:EP X pins U Q u s:=⟨v,H,I,r,h⟩
 rcases l with⟨hk,hm⟩|⟨hk,c,hc,hcell⟩
 ·exact wpAny_Name (wpAny_loadName_local I.ok.kind hk hn hm fin) hd
 ·rcases hk with hk|hk
  ·exact wpAny_Name (wpAny_loadName_cell I.ok.kind hk hc hcell fin) hd
  ·exact wpAny_Name (wpAny_loadName_free I.ok.kind hk hc hcell fin hcd) hd
def zj4 {i j pos}:PE X (.Constant (.int i) j pos) (tC (.int i)):=λ_ _ _ H _ I h=>wpAny_Constant_int ⟨.int i,H,I.tok _,⟨_,rfl⟩,h⟩
def zvu {b j pos}:PE X (.Constant (.bool b) j pos) (tC (.bl b)):=λ_ _ _ H _ I h=>Constant_bool ⟨.bl b,H,I,rfl,h⟩
def zta {j pos}:PE X (.Constant .none j pos) (tC .non):=λ_ _ _ H _ I h=>Constant_none ⟨.non,H,I,rfl,h⟩
def zjx {x j pos}:PE X (.Constant (.str x) j pos) (tC (.str x)):=λ_ _ _ H _ I h=>Calls.Constant_str ⟨.str x,H,I.tok _,⟨_,rfl⟩,h⟩
def Gl (X:Cx)(x:Str):Prop:=X.env.kindOf x=some .globalImplicit
def zc6 {E:Value->Shared->Prop}{u:Value}{pos:Pos}{Q:Value->Shared->Prop}(I:Inv X pins U H s)(hg:Gl X x)(hm:X.mg x=some u)(h:Q u s)(hd:autoParam ((x==("__debug__":Str))=false) zW):wpAny (model X.prog X.w) X.A (eval (.Name x pos) X.env) Q E s :=Calls.Name_function_global I.ok.kind hg (Calls.loadGlobal_global (by rw[I.ok.glob];exact I.mod.glob.keeps I.bk) hm h) hd
def zbB {E:Value->Shared->Prop}{u:Value}{pos:Pos}{Q:Value->Shared->Prop}(I:Inv X pins U H s)(hg:Gl X x)(hm:X.mg x=none)(hv:bootBuiltins x=some u)(h:Q u s)(hn:autoParam (x≠"__name__") zW)(hd:autoParam ((x==("__debug__":Str))=false) zW):wpAny (model X.prog X.w) X.A (eval (.Name x pos) X.env) Q E s:=by obtain⟨mb,h1,h2⟩:=I.mod.blt;exact Calls.Name_function_global I.ok.kind hg (Calls.loadGlobal_builtin (by rw[I.ok.glob];exact I.mod.glob.keeps I.bk) hm (by rw[I.ok.blt];exact h1.keeps I.bk) ((h2 x hn).trans hv) h) hd
def zld {u:Value}{pos:Pos}(hg:Gl X x)(hm:X.mg x=some u)(r:RelV v u)(hd:autoParam ((x==("__debug__":Str))=false) zW):PE X (.Name x pos) (tC v) :=λ_ _ _ H _ I h=>zc6 I hg hm ⟨v,H,I,r,h⟩ hd
def zro {u:Value}{pos:Pos}(hg:Gl X x)(hm:X.mg x=none)(hv:bootBuiltins x=some u)(r:RelV v u)(hn:autoParam (x≠"__name__") zW)(hd:autoParam ((x==("__debug__":Str))=false) zW):PE X (.Name x pos) (tC v) :=λ_ _ _ H _ I h=>zbB I hg hm hv ⟨v,H,I,r,h⟩ hn hd
variable {a b:Expr}{ta tb:TE}{pos:Pos}
def tB (t:TE):TT:=λU H Q=>t U H λx H1=>∃ c,x=.bl c/\Q c H1
def ztF {e:Expr}(h:PE X e t)(he:autoParam (∀ whole,isTrue e X.env whole=(do let v <- whole;standAt e.pos;holding [v] (truthy v))) zeV):PT X e (tB t):=by intro pins s U H Q I hw;refine isTrue_plain (thn (h pins s U H _ I hw) λv s1 ⟨x,H1,I1,r1,q1⟩=>?_) (he _);obtain⟨d,rfl,q⟩:=q1;cases r1;exact wpAny_truthy_bool ⟨H1,I1,q⟩
variable {tA tB':TT}{rest:List Expr}
def zv0 (t u:TT):TT:=λU H Q=>t U H λc H1=>if c=true then u U H1 Q else Q false H1
def tOr (t u:TT):TT:=λU H Q=>t U H λc H1=>if c=true then Q true H1 else u U H1 Q
def zwA (t:TT):TT:=λU H Q=>t U H λc H1=>Q (!c) H1
def zrd (ha:PT X a tA):PW X (.BoolOp .And [a] pos) tA:=by
 intro wh pins s U H Q I h;refine isTrue_and (thn (ha pins s U H Q I h) λc s1 e=>?_);cases c with
 |true=>exact isTrue_and_nil e
 |false=>exact e
def zts (ha:PT X a tA):PW X (.BoolOp .Or [a] pos) tA:=by
 intro wh pins s U H Q I h;refine isTrue_or (thn (ha pins s U H Q I h) λc s1 e=>?_);cases c with
 |false=>exact isTrue_or_nil e
 |true=>exact e
def ztb (ha:PT X a tA)(hb:PW X (.BoolOp .And (b::rest) pos) tB'):PW X (.BoolOp .And (a::b::rest) pos) (zv0 tA tB'):=by
 intro wh pins s U H Q I h;refine isTrue_and (thn (ha pins s U H _ I h) λc s1 ⟨H1,I1,q1⟩=>?_);cases c with
 |true=>exact hb wh pins s1 U H1 Q I1 q1
 |false=>exact⟨H1,I1,q1⟩
def ztV (ha:PT X a tA)(hb:PW X (.BoolOp .Or (b::rest) pos) tB'):PW X (.BoolOp .Or (a::b::rest) pos) (tOr tA tB'):=by
 intro wh pins s U H Q I h;refine isTrue_or (thn (ha pins s U H _ I h) λc s1 ⟨H1,I1,q1⟩=>?_);cases c with
 |true=>exact⟨H1,I1,q1⟩
 |false=>exact hb wh pins s1 U H1 Q I1 q1
def ztm (ha:PT X a tA):PT X (.UnaryOp .Not a pos) (zwA tA):=by intro pins s U H Q I h;exact isTrue_not (ha pins s U H (λc H1=>Q (!c) H1) I h)
def zuB (ta tb:TE):TE:=λU H Q=>ta U H λx H1=>∃ c,x=.bl c/\if c=true then tb U H1 Q else Q (.bl false) H1
def zup (ta:TE):TE:=λU H Q=>ta U H λx H1=>∃ c,x=.bl c/\Q (.bl (!c)) H1
def zs5 {op}(h:PE X a t):PE X (.BoolOp op [a] pos) t:=λpins s U H Q I hw=>BoolOp_one (h pins s U H Q I hw)
def zrU (ha:PE X a ta)(hb:PE X (.BoolOp .And (b::rest) pos) tb):PE X (.BoolOp .And (a::b::rest) pos) (zuB ta tb):=by
 intro pins s U H Q I h;refine BoolOp_and (thn (ha pins s U H _ I h) λv s1 ⟨x,H1,I1,r1,q1⟩=>?_);obtain⟨c,rfl,q1⟩:=q1;cases r1;refine wpAny_truthy_bool ?_;cases c with
 |true=>exact hb pins s1 U H1 Q I1 q1
 |false=>exact⟨.bl false,H1,I1,rfl,q1⟩
def zrt (ha:PE X a ta):PE X (.UnaryOp .Not a pos) (zup ta):=by intro pins s U H Q I h;refine UnaryOp_ (thn (ha pins s U H _ I h) λv s1 ⟨x,H1,I1,r1,q1⟩=>?_);obtain⟨c,rfl,q1⟩:=q1;cases r1;exact not_of (wpAny_truthy_bool ⟨.bl (!c),H1,I1,rfl,q1⟩)
def tIf (t:TT)(ta tb:TE):TE:=λU H Q=>t U H λc H1=>if c=true then ta U H1 Q else tb U H1 Q
def zoO (hc:PT X c tA)(ha:PE X a ta)(hb:PE X b tb):PE X (.IfExp c a b pos) (tIf tA ta tb):=by
 intro pins s U H Q I h;refine wpAny_IfExp (thn (hc pins s U H _ I h) λd s1 ⟨H1,I1,q1⟩=>?_);cases d with
 |true=>exact ha pins s1 U H1 Q I1 q1
 |false=>exact hb pins s1 U H1 Q I1 q1
end
def SqL (K:PySem.W.Frag)(H:Hp)(a:Addr)(xs:List V):Prop :=
 Rd H a (.lst xs) \/
  ∃ (o:Obj) (its:Array Value) (n:Nat),K.lookup a=some o/\o.cls=.type "list"/\o.dict=none/\o.data=.seq its n/\its.size<=sizeLine/\Vals xs its.toList
def SqT (K:PySem.W.Frag)(H:Hp)(a:Addr)(xs:List V):Prop :=
 Rd H a (.tup xs) \/
  ∃ (o:Obj) (its:Array Value) (n:Nat),K.lookup a=some o/\o.cls=.type "tuple"/\o.data=.seq its n/\its.size<=sizeLine/\Vals xs its.toList
def zwt:Value->Option V
 |.none=>some .non
 |.bool b=>some (.bl b)
 |.int i _=>some (.int i)
 |.str x _=>some (.str x)
 |.bytes b _=>some (.byt b)
 |.float b _=>some (.flt b)
 |.ref a=>some (.ref a)
 |.type n=>some (.ty n)
 |_=>none
def RelV.abs (r:RelV x u):zwt u=some x:=by
 cases x with
 |non=>cases r;rfl
 |bl _=>cases r;rfl
 |int _=>obtain⟨t,rfl⟩:=r;rfl
 |str _=>obtain⟨t,rfl⟩:=r;rfl
 |byt _=>obtain⟨t,rfl⟩:=r;rfl
 |flt _=>obtain⟨t,rfl⟩:=r;rfl
 |ref _=>cases r;rfl
 |ty _=>cases r;rfl
theorem RelV.inj (r:RelV x u)(q:RelV y u):x=y:=Option.some.inj (r.abs.symm.trans q.abs)
theorem Vals.inj:∀ {xs ys:List V} {us:List Value},Vals xs us->Vals ys us->xs=ys
 |_,_,_,.nil,.nil=>rfl
 |_,_,_,.cons r t,.cons r' t'=>by rw[r.inj r',Vals.inj t t']
section
variable {X:Cx}{pins:List (Addr×Obj)}{U:St}{H:Hp}{s:Shared}{a:Addr}{xs ys:List V}
def SqL.of {K:PySem.W.Frag}(h:H a=some (.lst xs)):SqL K H a xs:=.inl (.inl h)
def SqT.of {K:PySem.W.Frag}(h:H a=some (.tup xs)):SqT K H a xs:=.inl (.inl h)
def Inv.list (I:Inv X pins U H s)(h:SqL X.K H a xs):∃ its:List Value,Vals xs its/\PlainL s.heap a its.toArray/\xs.length<=sizeLine:=by
 rcases h with h|⟨o,its,n,hk,hc,hd,hs,hz,r⟩
 ·obtain⟨z,its,n,r,e⟩:=h.ok I.hok;exact⟨its,r,⟨_,n,e,rfl,rfl,rfl⟩,z⟩
 ·refine⟨its.toList,r,⟨o,n,I.kIn a o hk,hc,hd,by simpa using hs⟩,?_⟩;have e:=r.length;simp only[Array.length_toList]at e;lia
def Inv.tuple (I:Inv X pins U H s)(h:SqT X.K H a xs):∃ its:List Value,Vals xs its/\IsTup s.heap a its.toArray/\xs.length<=sizeLine:=by
 rcases h with h|⟨o,its,n,hk,hc,hs,hz,r⟩
 ·obtain⟨z,its,r,p⟩:=h.ok I.hok;exact⟨its,r,p,z⟩
 ·refine⟨its.toList,r,⟨o,I.kIn a o hk,hc,n,by simpa using hs⟩,?_⟩;have e:=r.length;simp only[Array.length_toList]at e;lia
def Inv.list_inj (I:Inv X pins U H s)(h:SqL X.K H a xs)(h':SqL X.K H a ys):xs=ys:=by
 obtain⟨its,r,⟨o,n,e,_,_,d⟩,_⟩:=I.list h;obtain⟨its',r',⟨o',n',e',_,_,d'⟩,_⟩:=I.list h';rw[e]at e';cases e';rw[d]at d';injection d' with d1 _;have:its=its':=by simpa using congrArg Array.toList d1
 subst this;exact r.inj r'
def Inv.tuple_inj (I:Inv X pins U H s)(h:SqT X.K H a xs)(h':SqT X.K H a ys):xs=ys:=by
 obtain⟨its,r,⟨o,e,_,n,d⟩,_⟩:=I.tuple h;obtain⟨its',r',⟨o',e',_,n',d'⟩,_⟩:=I.tuple h';rw[e]at e';cases e';rw[d]at d';injection d' with d1 _;have:its=its':=by simpa using congrArg Array.toList d1
 subst this;exact r.inj r'
end
abbrev Cx.wish (X:Cx)(E:Value->Shared->Prop):Cx:={ X with xe:=E }
abbrev Cx.nox (X:Cx):Cx:=X.wish λ_ _=>False
theorem Cx.Ok.wish {X:Cx}(ok:X.Ok)(E:Value->Shared->Prop):(X.wish E).Ok :=⟨ok.mod,ok.kind,ok.glob,ok.blt,ok.above,ok.inj,ok.has,ok.cab,ok.hd,ok.frames,ok.stk,ok.exf,ok.bs,ok.bsz,ok.noex,ok.exfs,ok.funs,ok.frf⟩
def Cx.Ok.unwish {X:Cx}{E:Value->Shared->Prop}(ok:(X.wish E).Ok):X.Ok :=⟨ok.mod,ok.kind,ok.glob,ok.blt,ok.above,ok.inj,ok.has,ok.cab,ok.hd,ok.frames,ok.stk,ok.exf,ok.bs,ok.bsz,ok.noex,ok.exfs,ok.funs,ok.frf⟩
section
variable {X:Cx}{pins:List (Addr×Obj)}{U:St}{H:Hp}{s:Shared}{E:Value->Shared->Prop}
theorem Inv.wish (I:Inv X pins U H s)(E:Value->Shared->Prop):Inv (X.wish E) pins U H s:=⟨I.ok.wish E,I.os,I.bare,I.base,I.loc,I.cell,I.free,I.freeC,I.pin,I.hok,I.len⟩
theorem Inv.unwish (I:Inv (X.wish E) pins U H s):Inv X pins U H s:=⟨I.ok.unwish,I.os,I.bare,I.base,I.loc,I.cell,I.free,I.freeC,I.pin,I.hok,I.len⟩
theorem SP.unwish {D:Ends}(h:SP (X.wish E) pins D f s'):SP X pins D f s':=by
 cases f with
 |next=>obtain⟨σ',H',I,q⟩:=h;exact⟨σ',H',I.unwish,q⟩
 |brk=>obtain⟨σ',H',I,q⟩:=h;exact⟨σ',H',I.unwish,q⟩
 |cont=>obtain⟨σ',H',I,q⟩:=h;exact⟨σ',H',I.unwish,q⟩
 |ret u=>obtain⟨v,σ',H',I,r,q⟩:=h;exact⟨v,σ',H',I.unwish,r,q⟩
theorem PSs.nox {st:List Stmt}(h:PSs X.nox st t):PSs X st t:=λpins s U H D I hw =>wpAny_mono (h pins s U H D (I.wish _) hw) (λ_ _ q=>q.unwish) λ_ _ z=>False.elim z
end
section
variable {X:Cx}{st:Stmt}{rest:List Stmt}{t u:TS}{e:Expr}{te:TE}{pos:Pos}
def zuL:TS:=λD U H=>D.nx U H
def zwu (t u:TS):TS:=λD U H=>t { D with nx:=u D } U H
def zrf:PSs X [] zuL:=λ_ _ U H _ I h=>wpAny_execs_nil ⟨U,H,I,h⟩
def zoX (h1:PS X st t)(h2:PSs X rest u):PSs X (st::rest) (zwu t u):=by
 intro pins s U H D I h;refine wpAny_execs_cons (thn (h1 pins s U H { D with nx:=u D } I h) λf s1 q=>?_);cases f with
 |next =>obtain⟨σ',H',I',q⟩:=q;exact h2 pins s1 σ' H' D I' q
 |ret v=>exact q
 |brk=>exact q
 |cont=>exact q
def zre (h1:PS X st t):PSs X [st] t:=by
 intro pins s U H D I h;refine wpAny_execs_cons (thn (h1 pins s U H D I h) λf s1 q=>?_);cases f with
 |next=>exact wpAny_execs_nil q
 |ret v=>exact q
 |brk=>exact q
 |cont=>exact q
def zuA:TS:=λD U H=>D.ct U H
def zkk:PS X (.Continue pos) zuA:=λ_ _ U H _ I h=>wpAny_Continue ⟨U,H,I,h⟩
def Inv.quiet (I:Inv X pins U H s):interactive X.env=false:=by simp[interactive,I.ok.kind]
def zuz (te:TE):TS:=λD U H=>te U H λ_ H1=>D.nx U H1
def zqm (he:PE X e te)(hs:autoParam (swapsWith e none pos.line X.env=pure false) zL):PS X (.Expr e pos) (zuz te):=by intro pins s U H D I h;exact wpAny_Expr_any (thn (he pins s U H _ I h) λv s1 zq1=>by obtain⟨x,H1,I1,r1,q1⟩:=zq1;exact⟨U,H1,I1,q1⟩) I.quiet hs
def zvZ (te:TE):TS:=λD U H=>te U H D.rt
def ztk (he:PE X e te):PS X (.Return (some e) pos) (zvZ te):=by intro pins s U H D I h;exact wpAny_Return_some (thn (he pins s U H _ I h) λv s1 zq2=>by obtain⟨x,H1,I1,r1,q1⟩:=zq2;exact⟨x,U,H1,I1,r1,q1⟩)
def zv9 (c:TT)(t u:TS):TS:=λD U H=>c U H λb H1=>if b=true then t D U H1 else u D U H1
def ztJ (hc:PT X c tc)(ha:PSs X a t)(hb:PSs X b u):PS X (.If c a b pos) (zv9 tc t u):=by
 intro pins s U H D I h;refine wpAny_If (thn (hc pins s U H _ I h) λd s1 ⟨H1,I1,q1⟩=>?_);cases d with
 |true=>exact ha pins s1 U H1 D I1 q1
 |false=>exact hb pins s1 U H1 D I1 q1
def zrL:TS:=λ_ _ _=>False
def zoP:PS X st zrL:=λ_ _ _ _ _ _ h=>h.elim
end
abbrev TG:=V->St->Hp->(St->Hp->Prop)->Prop
abbrev TGs:=List V->St->Hp->(St->Hp->Prop)->Prop
def PG (X:Cx)(target:Expr)(t:TG):Prop :=
 ∀ (pins:List (Addr×Obj)) (s:Shared) (U:St) (H:Hp) (v:V) (u:Value) (Q:St->Hp->Prop),Inv X pins U H s->RelV v u->t v U H Q ->
  wpAny (model X.prog X.w) X.A (assign target X.env u) (λ_ s'=>∃ σ' H',Inv X pins σ' H' s'/\Q σ' H') X.xe s
def PGs (X:Cx)(ts:List Expr)(t:TGs):Prop :=
 ∀ (pins:List (Addr×Obj)) (s:Shared) (U:St) (H:Hp) (vs:List V) (us:List Value) (Q:St->Hp->Prop),Inv X pins U H s->Vals vs us->t vs U H Q ->
  wpAny (model X.prog X.w) X.A (assignInOrder ((assignEach ts X.env).map (·.2)) us) (λ_ s'=>∃ σ' H',Inv X pins σ' H' s'/\Q σ' H') X.xe s
abbrev zs8:=V->V->V->Hp->(Hp->Prop)->Prop
def zsp (X:Cx)(t:zs8):Prop :=
 ∀ (pins:List (Addr×Obj)) (s:Shared) (U:St) (H:Hp) (o i v:V) (ov iv u:Value) (Q:Hp->Prop),Inv X pins U H s->RelV o ov->RelV i iv->RelV v u->t o i v H Q ->
  wpAny (model X.prog X.w) X.A (setItem ov iv u) (λ_ s'=>∃ H',Inv X pins U H' s'/\Q H') X.xe s
abbrev TIp:=V->V->Hp->VK->Prop
def PIp (X:Cx)(op:Operator)(t:TIp):Prop :=
 ∀ (pins:List (Addr×Obj)) (s:Shared) (U:St) (H:Hp) (x y:V) (v u:Value) (Q:VK),Inv X pins U H s->RelV x v->RelV y u->t x y H Q ->
  wpAny (model X.prog X.w) X.A (inplaceOp op v u) (EP X pins U Q) X.xe s
section
variable {X:Cx}{pos:Pos}
def zak (i:Nat):TG:=λv U H Q=>Q (U.set i (some v)) H
def zbv {i:Nat}{x:Str}(hN:X.N.Nodup)(hi:X.N[i]?=some x)(hx:Loc X.env.scope x)(hf:autoParam (X.fn x=true\/X.env.scope.names.lookup x=some .local) zep):PG X (.Name x pos) (zak i):=by intro pins s U H v u Q I r h;exact wpAny_assign_Name (zcX I hN hi hx r (λs' I'=>⟨_,H,I',h⟩) hf)
def zcg:TGs:=λvs U H Q=>vs=[]/\Q U H
def zaw (t:TG)(u:TGs):TGs:=λvs U H Q=>∃ v r,vs=v::r/\t v U H λσ' H'=>u r σ' H' Q
def zeJ:PGs X [] zcg:=by intro pins s U H vs us Q I r h;obtain⟨e,h⟩:=h;subst e;cases r;exact assignInOrder_nil ⟨U,H,I,h⟩
def zbq {e:Expr}(h1:PG X e t)(h2:PGs X es u)(hs:autoParam ((assignEach (e::es) X.env).map (·.2)=assign e X.env::(assignEach es X.env).map (·.2)) zL):PGs X (e::es) (zaw t u):=by
 intro pins s U H vs us Q I r h;obtain⟨v,vr,e1,h⟩:=h;subst e1;cases r with
 |cons r rr =>rw[hs];refine assignInOrder_cons (thn (h1 pins s U H _ _ _ I r h) λ_ s1 ⟨σ1,H1,I1,q1⟩=>?_);exact h2 pins s1 σ1 H1 _ _ Q I1 rr q1
def zce (K:PySem.W.Frag)(n:Nat)(t:TGs):TG:=λv U H Q=>∃ a xs,v=.ref a/\SqT K H a xs/\xs.length=n/\t xs U H Q
def zfx {k:Nat}{n:Nat}(hc:X.calm=true)(h:PGs X es t)(hn:autoParam ((assignEach es X.env).length=n) zL)(hst:autoParam ((assignEach es X.env).findIdx? (·.1)=none) zL):PG X (.Tuple es k pos) (zce X.K n t):=by
 intro pins s U H v u Q I r hw;obtain⟨a,xs,e1,hq,hl,hw⟩:=hw;subst e1;cases r;obtain⟨its,rv,ht,hz⟩:=I.tuple hq;refine assign_Tuple_tuple (I.ok.hd hc) ht (by simp[hn,<- hl,rv.length]) hst λh' hx=>?_
 have I1:Inv X pins U H { s with heap:=h' }:=I.kept (t':=s.toks) λb o e=>hx b o (Nat.ne_of_lt (Heap.lt_size e)) e
 exact h pins _ U H xs _ Q I1 (by simpa using rv) hw
def zgP (to ti:TE)(t:zs8):TG:=λv U H Q=>to U H λo H1=>ti U H1 λi H2=>t o i v H2 λH3=>Q U H3
def zsj (ho:PE X o to)(hi:PE X i ti)(hs:zsp X t)(ha:∀ v,assign (.Subscript o i pos) X.env v=(do
   let ov <- holding [v] (eval o X.env);let iv <- holding [v,ov] (eval i X.env)
   standAt pos
   holding [v,ov,iv] (setItem ov iv v)
   release [v,ov,iv] []):=by intro _;rfl):PG X (.Subscript o i pos) (zgP to ti t):=by
 intro pins s U H v u Q I r h;rw[ha];refine wpAny_bind (wpAny_holding (thn (ho pins s U H _ I h) λov s1 ⟨x,H1,I1,r1,q1⟩=>?_));refine wpAny_bind (wpAny_holding (thn (hi pins s1 U H1 _ I1 q1) λiv s2 ⟨y,H2,I2,r2,q2⟩=>?_));refine wpAny_bind (wpAny_standAt (wpAny_bind (wpAny_holding (thn (hs pins s2 U H2 x y v ov iv u _ I2 r1 r2 r q2) λ_ s3 ⟨H3,I3,q3⟩=>?_))));exact wpAny_release ⟨U,H3,I3,q3⟩
def zmi (te:TE)(g:TG):TS:=λD U H=>te U H λx H1=>g x U H1 D.nx
def zsX {e:Expr}(he:PE X e te)(hg:PG X tg g)(hs:autoParam (swapsWithSole [tg] e pos.line X.env=pure false) zL)(hw:autoParam (swappedStores [tg] e X.env=pure none) zL)(h1:autoParam ((assignEach [tg] X.env).map (·.2)=[assign tg X.env]) zL):PS X (.Assign [tg] e pos) (zmi te g):=by intro pins s U H D I h;refine wpAny_Assign_stores (thn (he pins s U H _ I h) λv s1 ⟨x,H1,I1,r1,q1⟩=>?_) hs hw;rw[h1];exact thn (hg pins s1 U H1 x v _ I1 r1 q1) λ_ s2 q=>q
def zsS {i:Nat}{x:Str}{e:Expr}{pos':Pos}(hN:X.N.Nodup)(hi:X.N[i]?=some x)(hx:Loc X.env.scope x)(he:PE X e te)(hs:autoParam (swapsWith e (some (.Name x pos')) pos.line X.env=pure false) zL)(hf:autoParam (X.fn x=true\/X.env.scope.names.lookup x=some .local) zep) :
  PS X (.Assign [.Name x pos'] e pos) (zmi te (zak i)):=by
 intro pins s U H D I h;refine wpAny_Assign_Name (thn (he pins s U H _ I h) λv s1 ⟨y,H1,I1,r1,q1⟩=>?_) hs;exact zcX I1 hN hi hx r1 (λs2 I2=>⟨_,H1,I2,q1⟩) hf
def zwM (i j:Nat)(ta:TA):TS:=λD U H=>ta U H λvs H1=>∃ v w,vs=[v,w]/\D.nx ((U.set i (some v)).set j (some w)) H1
def zrF {i j:Nat}{x y:Str}{a b:Expr}{ta:TA}{px py pt:Pos}{kt k2 pt2}(hc:X.calm=true)(hN:X.N.Nodup)(hi:X.N[i]?=some x)(hj:X.N[j]?=some y)(hij:i≠j)
  (hx:X.env.scope.names.lookup x=some .local) (hy:X.env.scope.names.lookup y=some .local) (ha:PA X [a,b] ta)
  (hw:swappedStores [.Tuple [.Name x px,.Name y py] kt pt] (.Tuple [a,b] k2 pt2) X.env=pure (some [x,y]))
  (hs:swapsWithSole [.Tuple [.Name x px,.Name y py] kt pt] (.Tuple [a,b] k2 pt2) pos.line X.env=pure false:=by rfl) :
  PS X (.Assign [.Tuple [.Name x px,.Name y py] kt pt] (.Tuple [a,b] k2 pt2) pos) (zwM i j ta):=by
 intro pins s U H D I h;rw[exec_Assign_arm];refine wpAny_bind (wpAny_standAt ?_);rw[hs];refine wpAny_bind (wpAny_pure ?_);rw[if_neg (by decide)];refine wpAny_bind (Tuple_ (thn (ha _ pins s U H _ I h) λus s1 ⟨vs,H1,I1,r1,q1⟩=>?_));obtain⟨v,w,e1,q1⟩:=q1;subst e1
 obtain⟨u1,u2,rfl,rv,rw'⟩:∃ u1 u2,us=[u1,u2]/\RelV v u1/\RelV w u2:=by
  cases r1 with
  |cons p q =>
   cases q with
   |cons p' q' =>cases q';exact⟨_,_,rfl,p,p'⟩
 refine wpAny_newObj_type ?_ (by show 2<=sizeLine;decide);have I2:Inv X pins U H1 { s1 with heap:=s1.heap.push { cls:=.type "tuple",data:=.seq [u1,u2].toArray } }:=I1.kept (t':=s1.toks) λb o e=>Heap.get?_push_of_some _ e
 rw[hw];refine wpAny_bind (wpAny_pure ?_);show wpAny (model X.prog X.w) X.A (do rule "assign.swapped-stores";let items <- unpackItems (.ref s1.heap.objs.size) 2 none;assignInOrder [λv=>bindName X.env y v,λv=>bindName X.env x v] items.reverse;pure Flow.next) _ _ _;refine wpAny_bind (wpAny_rule (wpAny_bind (unpackItems_tuple (items:=#[u1,u2]) (I.ok.hd hc) (IsTup.new s1.heap _) λh' hx'=>?_)));have I3:=I2.kept (h':=h') (t':=s1.toks) λb o e=>hx' b o (Nat.ne_of_lt (Heap.lt_size e)) e
 show wpAny _ _ (assignInOrder [λv=>bindName X.env y v,λv=>bindName X.env x v] [u2,u1] >>= λ_=>pure Flow.next) _ _ _;refine wpAny_bind (assignInOrder_cons (wpAny_bindName (zcX I3 hN hj (.inl hy) rw' (λs2 I4=>?_) (.inr hy))));refine assignInOrder_cons (wpAny_bindName (zcX I4 hN hi (.inl hx) rv (λs3 I5=>assignInOrder_nil (wpAny_pure ?_)) (.inr hx)));rw[List.set_comm _ _ (Ne.symm hij)]at I5;exact⟨_,H1,I5,q1⟩
def zwJ (i:Nat)(te:TE)(ti:TIp):TS:=λD U H=>∃ x,U[i]?=some (some x)/\te U H λy H1=>ti x y H1 λz H2=>D.nx (U.set i (some z)) H2
def zrM {i:Nat}{x:Str}{e:Expr}{pos':Pos}(hN:X.N.Nodup)(hi:X.N[i]?=some x)(hx:Loc X.env.scope x)(he:PE X e te)(ho:PIp X op ti)(hf:autoParam (X.fn x=true\/X.env.scope.names.lookup x=some .local) zep) :
  PS X (.AugAssign (.Name x pos') op e pos) (zwJ i te ti):=by
 intro pins s U H D I h;obtain⟨v,e1,h⟩:=h;obtain⟨m,hn,hl⟩:=I.loc;have vis:Vis X.env.scope x:=by rcases hx with k|k;exact .inl k;exact .inr (.inl k)
 obtain⟨u,r,l⟩:=hl i x v hi e1 vis;refine wpAny_AugAssign_Name ?_
 have go:wpAny (model X.prog X.w) X.A (eval e X.env) (λw s₂=>wpAny (model X.prog X.w) X.A (inplaceOp op u w) (λr s₃=>wpAny (model X.prog X.w) X.A (storeName X.env x r) (λ_=>SP X pins D .next) X.xe s₃) X.xe s₂) X.xe s:=by
  refine thn (he pins s U H _ I h) λw s1 ⟨y,H1,I1,r1,q1⟩=>?_
  refine thn (ho pins s1 U H1 v y u w _ I1 r r1 q1) λz s2 ⟨zv,H2,I2,r2,q2⟩=>?_
  exact zcX I2 hN hi hx r2 (λs3 I3=>⟨_,H2,I3,q2⟩) hf
 rcases l with⟨hk,hm⟩|⟨hk,c,hc,hcell⟩
 ·exact wpAny_loadName_local I.ok.kind hk hn hm go
 ·rcases hk with hk|hk
  ·exact wpAny_loadName_cell I.ok.kind hk hc hcell go
  ·rcases hx with k|k
   ·have:X.env.scope.names.lookup x=some .free:=hk;rw[k]at this;cases this
   ·have:X.env.scope.names.lookup x=some .free:=hk;rw[k]at this;cases this
def ipI (f:Int->Int->Int):TIp:=λx y H Q=>∃ i j,x=.int i/\y=.int j/\Q (.int (f i j)) H
def zth:PIp X .Add (ipI λi j=>i+j):=by intro pins s U H x y v u Q I r1 r2 h;obtain⟨i,j,e1,e2,q⟩:=h;subst e1;subst e2;obtain⟨t,rfl⟩:=r1;obtain⟨t',rfl⟩:=r2;exact iadd_int ⟨.int _,H,I.tok _,⟨_,rfl⟩,q⟩
end
section
variable {X:Cx}{pos:Pos}
def zty (c:TT)(tb:TS):TS:=λD U H=>∃ W:Nat->St->Hp->Prop,(∃ m,W m U H)/\∀ m U H,W m U H ->
 c U H λb H1=>if b=true then ∃ N:St->Hp->Prop,(∀ σ' H',N σ' H'->∃ m',m'<m/\W m' σ' H')/\tb { D with nx:=N,ct:=N,bk:=D.nx } U H1 else D.nx U H1
def zoH (hp:PassesOwn (model X.prog X.w) X.A X.env X.xe)(hc:PT X c tc)(hb:PSs X body tb):PS X (.While c body [] pos) (zty tc tb):=by
 intro pins s U H D I h;obtain⟨W,⟨m0,w0⟩,turn⟩:=h;refine wpAny_While (codeAny_whileLoop (λn s'=>∃ σ' H',Inv X pins σ' H' s'/\W n σ' H') ?_ m0 ⟨U,H,I,w0⟩);rintro n s1 ⟨σ1,H1,I1,w1⟩;refine wpAny_passesOwn hp (thn (hc pins s1 σ1 H1 _ I1 (turn n σ1 H1 w1)) λb s2 ⟨H2,I2,q2⟩=>?_);cases b with
 |true =>
  obtain⟨N,hN,q2⟩:=q2;rw[if_pos rfl];refine wpAny_passesOwn hp (thn (hb pins s2 σ1 H2 _ I2 q2) λf s3 q3=>?_);cases f with
  |next =>obtain⟨σ3,H3,I3,n3⟩:=q3;obtain⟨m',hm,w3⟩:=hN σ3 H3 n3;exact⟨m',hm,σ3,H3,I3,w3⟩
  |cont =>obtain⟨σ3,H3,I3,n3⟩:=q3;obtain⟨m',hm,w3⟩:=hN σ3 H3 n3;exact⟨m',hm,σ3,H3,I3,w3⟩
  |brk=>exact q3
  |ret v=>exact q3
 |false =>rw[if_neg Bool.false_ne_true];exact wpAny_execs_nil ⟨σ1,H2,I2,q2⟩
end
structure It where
 go:Nat->Hp->Prop
 yld:Nat->Hp->V->Hp->Prop
 stop:Nat->Hp->Prop
def zd3 (X:Cx)(pins:List (Addr×Obj))(H:Hp)(b:Addr):Prop :=H b=none/\b≠X.env.locals/\b∉X.fs/\(b∈X.ex\/X.s₀.heap.objs.size<=b)/\(∀ x c,X.env.cells.lookup x=some c->c≠b)/\∀ p∈X.pn++pins,p.1≠b
def Inv.fpOk {H':Hp}{b:Addr}(I:Inv X pins U H s)(hb:s.heap.objs.size<=b)(hn:H' b=none):zd3 X pins H' b:=by
 refine⟨hn,Nat.ne_of_gt (Nat.lt_of_lt_of_le I.lt hb),I.nofs hb,.inr (Nat.le_trans I.sz hb),λx c e z=>?_,λp hp z=>?_⟩
 ·obtain⟨v,q⟩:=I.cell x c e;exact absurd (Nat.lt_of_lt_of_le q.lt (by rw[z];exact hb)) (Nat.lt_irrefl _)
 ·exact absurd (Nat.lt_of_lt_of_le (Heap.lt_size (I.pin p hp).1) (by rw[z];exact hb)) (Nat.lt_irrefl _)
structure Turn (P:Program)(w:World)(K:PySem.W.Frag)(tg:Expr)(J:It)(fp:List Addr)(it:Addr)(tn:Nat->Heap->Prop):Prop where
 mem:it∈fp
 obj:∀ i h,tn i h->∀ b∈fp,∃ o,h.get? b=some o/\∀ v,o.data≠.cell v
 keep:∀ i h h',tn i h->(∀ b∈fp,∀ o,h.get? b=some o->h'.get? b=some o)->tn i h'
 item:∀ (X:Cx),X.prog=P->X.w=w->X.K=K->X.calm=true->∀ (i:Nat) (pins:List (Addr×Obj)) (s:Shared) (U:St) (H:Hp) (E:Value->Shared->Prop),Inv X pins U H s->(∀ b∈fp,zd3 X pins H b)->tn i s.heap->J.go i H ->
  wpAny (model P w) X.A (pyNext (.ref it)) (λr s1=>∃ u,r=some u /\
   wpAny (model P w) X.A (letOwnedTupleGo tg (.ref it) u) (λ_ s2=>∃ x H',Inv X pins U H' s2/\RelV x u/\J.yld i H x H'/\tn (i+1) s2.heap/\∀ b∈fp,H' b=none) E s1) E s
 done:∀ (X:Cx),X.prog=P->X.w=w->X.K=K->X.calm=true->∀ (i:Nat) (pins:List (Addr×Obj)) (s:Shared) (U:St) (H:Hp) (E:Value->Shared->Prop),Inv X pins U H s->(∀ b∈fp,zd3 X pins H b)->tn i s.heap->J.stop i H ->
  wpAny (model P w) X.A (pyNext (.ref it)) (λr s1=>r=none/\Inv X pins U H s1) E s
 self:∀ (A:Around) (i:Nat) (s:Shared) (Q:Value->Shared->Prop) (E:Value->Shared->Prop),tn i s.heap->Q (.ref it) s->wpAny (model P w) A (pyIter (.ref it)) Q E s
abbrev TI:=St->Hp->(It->Hp->Prop)->Prop
def PIE (X:Cx)(pins:List (Addr×Obj))(U:St)(tg:Expr)(R:It->Hp->Prop)(itv:Value)(s2:Shared):=∃ (it:Addr) (fp:List Addr) (tn:Nat->Heap->Prop) (J:It) (H':Hp),itv=.ref it/\Inv X pins U H' s2/\Turn X.prog X.w X.K tg J fp it tn/\tn 0 s2.heap/\(∀ b∈fp,zd3 X pins H' b)/\R J H'
def PI (X:Cx)(tg iter:Expr)(wi:TI):Prop :=
 ∀ (pins:List (Addr×Obj)) (s:Shared) (U:St) (H:Hp) (R:It->Hp->Prop),Inv X pins U H s->wi U H R ->
  wpAny (model X.prog X.w) X.A (eval iter X.env) (λv s1=>wpAny (model X.prog X.w) X.A (pyIter v) (PIE X pins U tg R) X.xe s1) X.xe s
def zf3 {M:Model}{A:Around}{E:Value->Shared->Prop}{s:Shared}{tg:Expr}{it:Addr}{u:Value}{o:Obj}{n:String}{vs:Array Value}{Q:Unit->Shared->Prop}(ho:s.heap.get? it=some o)(hc:o.cls=.type n)(hd:o.data=.fields vs)
    (hn:["enumerate","zip","dict_itemiterator","dict_reverseitemiterator","odict_iterator","itertools.zip_longest","itertools.pairwise"].contains n=false) (hQ:Q ⟨⟩ s):wpAny M A (letOwnedTupleGo tg (.ref it) u) Q E s:=by
  unfold letOwnedTupleGo
  cases tg<;>first
    |exact wpAny_pure hQ
    | (cases u <;> first
        |exact wpAny_pure hQ
        | (refine wpAny_bind (wpAny_load ho ?_)
           rw[hc,hd];show wpAny M A (if(["enumerate","zip","dict_itemiterator","dict_reverseitemiterator","odict_iterator","itertools.zip_longest","itertools.pairwise"].contains n&&vs[0]?==some (rawInt _))=true then _ else _) Q E s;rw[if_neg (by intro h;rw[hn,Bool.false_and]at h;cases h)];exact wpAny_pure hQ))
def Itl (K:PySem.W.Frag)(a:Addr):It :=⟨λi H=>∃ xs x,SqL K H a xs/\xs[i]?=some x,λi H x H'=>H'=H/\∀ xs,SqL K H a xs->xs[i]?=some x,λi H=>∃ xs,SqL K H a xs/\xs.length<=i⟩
def Itt (K:PySem.W.Frag)(a:Addr):It :=⟨λi H=>∃ xs x,SqT K H a xs/\xs[i]?=some x,λi H x H'=>H'=H/\∀ xs,SqT K H a xs->xs[i]?=some x,λi H=>∃ xs,SqT K H a xs/\xs.length<=i⟩
def Itr (lo:Int)(n:Nat):It:=⟨λi _=>i<n,λi H x H'=>H'=H/\x=.int (lo+i),λi _=>n<=i⟩
def zmq {P:Program}{w:World}{K:PySem.W.Frag}{tg:Expr}(a it:Addr):Turn P w K tg (Itl K a) [it] it (λi h=>h.IsListIter it a i) where
 mem:=by simp
 obj:=λi h st b hb=>by
  have e:b=it:=by simpa using hb
  subst e;obtain⟨o,e,c,d⟩:=st;exact⟨o,e,λv z=>by rw[d]at z;cases z⟩
 keep:=λi h h' st k=>st.at λo e=>k it (by simp) o e
 item:=by
  intro X hP hw hK hc i pins s U H E I hf st hg;subst hP hw hK;obtain⟨xs,x,hq,hx⟩:=hg;obtain⟨its,rv,p,hz⟩:=I.list hq;obtain⟨u,hu,ru⟩:=rv.get hx;obtain⟨f0,f1,f2,f3,f4,f5⟩:=hf it (by simp);refine wpAny_pyNext_list_item st p.isList (x:=u) (by simpa using hu) λh' st' sb=>?_
  have I1:Inv X pins U H { s with heap:=h' }:=I.turned (t':=s.toks) (λb o hb e=>(sb.2 b hb).trans e) f0 f1 f3 f4 f5;obtain⟨o,e,c,d⟩:=id st';exact⟨u,rfl,zf3 (s:={ s with heap:=h' }) e c d (by decide) ⟨x,H,I1,ru,⟨rfl,λys hy=>by rw[I.list_inj hy hq];exact hx⟩,st',λb hb=>(hf b hb).1⟩⟩
 done:=by intro X hP hw hK hc i pins s U H E I hf st hg;subst hP hw hK;obtain⟨xs,hq,hx⟩:=hg;obtain⟨its,rv,p,hz⟩:=I.list hq;obtain⟨f0,f1,f2,f3,f4,f5⟩:=hf it (by simp);have hl:=rv.length;exact wpAny_pyNext_list_end (I.ok.hd hc) st p.isList (by simp;lia) λh' eb=>⟨rfl,I.turned (t':=s.toks) (λb o hb e=>eb b o hb e) f0 f1 f3 f4 f5⟩
 self:=λ_ _ _ _ _ st h=>wpAny_pyIter_listiter st h
def zlE {P:Program}{w:World}{K:PySem.W.Frag}{tg:Expr}(a it:Addr):Turn P w K tg (Itt K a) [it] it (λi h=>h.IsTupleIter it a i) where
 mem:=by simp
 obj:=λi h st b hb=>by
  have e:b=it:=by simpa using hb
  subst e;obtain⟨o,e,c,d⟩:=st;exact⟨o,e,λv z=>by rw[d]at z;cases z⟩
 keep:=λi h h' st k=>st.at λo e=>k it (by simp) o e
 item:=by
  intro X hP hw hK hc i pins s U H E I hf st hg;subst hP hw hK;obtain⟨xs,x,hq,hx⟩:=hg;obtain⟨its,rv,p,hz⟩:=I.tuple hq;obtain⟨u,hu,ru⟩:=rv.get hx;obtain⟨f0,f1,f2,f3,f4,f5⟩:=hf it (by simp);refine wpAny_pyNext_tuple_item st (show s.heap.IsTuple a its.toArray from p) (x:=u) (by simpa using hu) λh' st' sb=>?_
  have I1:Inv X pins U H { s with heap:=h' }:=I.turned (t':=s.toks) (λb o hb e=>(sb.2 b hb).trans e) f0 f1 f3 f4 f5;obtain⟨o,e,c,d⟩:=id st';exact⟨u,rfl,zf3 (s:={ s with heap:=h' }) e c d (by decide) ⟨x,H,I1,ru,⟨rfl,λys hy=>by rw[I.tuple_inj hy hq];exact hx⟩,st',λb hb=>(hf b hb).1⟩⟩
 done:=by intro X hP hw hK hc i pins s U H E I hf st hg;subst hP hw hK;obtain⟨xs,hq,hx⟩:=hg;obtain⟨its,rv,p,hz⟩:=I.tuple hq;obtain⟨f0,f1,f2,f3,f4,f5⟩:=hf it (by simp);have hl:=rv.length;exact wpAny_pyNext_tuple_end (I.ok.hd hc) st (show s.heap.IsTuple a its.toArray from p) (by simp;lia) λh' eb=>⟨rfl,I.turned (t':=s.toks) (λb o hb e=>eb b o hb e) f0 f1 f3 f4 f5⟩
 self:=λ_ _ _ _ _ st h=>wpAny_pyIter_tupleiter st h
def zhx {P:Program}{w:World}{K:PySem.W.Frag}{tg:Expr}(it:Addr)(lo:Int)(n:Nat):Turn P w K tg (Itr lo n) [it] it (λi h=>IsRangeIter h it (lo+(i:Nat)*1) ((n:Int)-(i:Nat)) 1) where
 mem:=by simp
 obj:=λi h st b hb=>by
  have e:b=it:=by simpa using hb
  subst e
  exact⟨_,st,λv z=>by have z':Data.fields _=Data.cell v:=z;cases z'⟩
 keep:=λi h h' st k=>k it (by simp) _ st
 item:=by
  intro X hP hw hK hc i pins s U H E I hf st hg;subst hP hw hK;obtain⟨f0,f1,f2,f3,f4,f5⟩:=hf it (by simp);have W:=Walks.range (prog:=X.prog) (w:=X.w) (I.ok.hd hc) it lo 1 n;refine W.item i s _ _ hg st λv h' tk hv st' kk=>?_
  obtain⟨t,rfl⟩:=hv;have I1:Inv X pins U H { s with heap:=h',toks:=tk }:=I.turned (λb o hb e=>kk b o (by simpa using hb) e) f0 f1 f3 f4 f5;refine⟨_,rfl,zf3 (s:={ s with heap:=h',toks:=tk }) (n:="range_iterator") st' rfl rfl (by decide) ⟨.int (lo+i),H,I1,⟨t,?_⟩,⟨rfl,rfl⟩,st',λb hb=>(hf b hb).1⟩⟩;rw[Int.mul_one]
 done:=by intro X hP hw hK hc i pins s U H E I hf st hg;subst hP hw hK;obtain⟨f0,f1,f2,f3,f4,f5⟩:=hf it (by simp);exact wpAny_pyNext_range_end (I.ok.hd hc) st (by have:n<=i:=hg;lia) λh' eb=>⟨rfl,I.turned (t':=s.toks) (λb o hb e=>eb b o hb e) f0 f1 f3 f4 f5⟩
 self:=λ_ _ _ _ _ st h=>wpAny_pyIter_rangeiter st h
section
variable {X:Cx}{tg:Expr}
def zn7 {R:It->Hp->Prop}{E:Value->Shared->Prop}{lo hi:Int}{t u v:Tok}{tk:Nat}(I:Inv X pins U H s)(h1:-(2 ^ 62)<=lo)(h2:lo<2 ^ 62)(h3:-(2 ^ 62)<=hi)(h4:hi<2 ^ 62)(q:R (Itr lo (hi-lo).toNat) H):wpAny (model X.prog X.w) X.A (pyIter (.ref s.heap.objs.size)) (PIE X pins U tg R) E { s with heap:=s.heap.push { cls:=.type "range",data:=.fields #[.int lo t,.int hi u,.int 1 v] },toks:=tk }:=by
  refine wpAny_pyIter_range (IsRange.new ..) (small_one h1 h2 h3 h4) ?_;have I1:Inv X pins U H { s with heap:=s.heap.push { cls:=.type "range",data:=.fields #[.int lo t,.int hi u,.int 1 v] },toks:=tk }:=I.kept λb o e=>Heap.get?_push_of_some _ e
  refine⟨(s.heap.push { cls:=.type "range",data:=.fields #[.int lo t,.int hi u,.int 1 v] }).objs.size,[(s.heap.push { cls:=.type "range",data:=.fields #[.int lo t,.int hi u,.int 1 v] }).objs.size],_,_,H,rfl,
    I1.kept (t':=tk) λb o e=>Heap.get?_push_of_some _ e,zhx _ lo (hi-lo).toNat,?_,λb hb=>?_,q⟩
  . have e1:lo+((0:Nat):Int)*1=lo:=by simp
    have e2:(((hi-lo).toNat:Nat):Int)-((0:Nat):Int)=Builtin.Range.rangeSize lo hi 1:=by rw[rangeSize_one];split<;>lia
    show IsRangeIter _ _ (lo+((0:Nat):Int)*1) ((((hi-lo).toNat:Nat):Int)-((0:Nat):Int)) 1;rw[e1,e2];exact Heap.get?_push_size _ rfl
  . have e:b=(s.heap.push { cls:=.type "range",data:=.fields #[.int lo t,.int hi u,.int 1 v] }).objs.size:=by simpa using hb
    subst e;exact I1.fpOk (Nat.le_refl _) (I1.hok.fresh (Nat.le_refl _))
def zbP (ta:TA):TI:=λU H R=>ta U H λvs H1=>∃ j:Int,vs=[.int j]/\-(2 ^ 62)<=j/\j<2 ^ 62/\R (Itr 0 j.toNat) H1
def zmH {a:Expr}{ta:TA}{p pos:Pos}(hg:Gl X "range")(hm:X.mg "range"=none)(ha:PA X [a] ta)(hs:autoParam (starEach [a] X.env=[(false,eval a X.env)]) zL):PI X tg (.Call (.Name "range" p) [a] [] pos) (zbP ta):=by
 intro pins s U H R I h;refine Call_ (zbB I hg hm boot_range (PyProof.Rows.callWith_type1 (thn (ha pos pins s U H _ I h) λus s1 ⟨vs,H1,I1,r1,q1⟩=>?_) hs rfl));obtain⟨j,e,q1,q2,q⟩:=q1;subst e;cases r1 with
 |cons r rr =>cases rr;obtain⟨t,rfl⟩:=r;exact call_range_1 (zn7 I1 (by lia) (by lia) q1 q2 (by simpa using q))
def zvI (wi:TI)(g:TG)(tb:TS):TS:=λD U H=>wi U H λJ H1=>∃ W:Nat->Nat->St->Hp->Prop,(∃ m,W 0 m U H1)/\∀ i m U H,W i m U H ->
 (J.stop i H/\D.nx U H)\/(J.go i H/\∃ N:St->Hp->Prop,(∀ σ' H',N σ' H'->∃ m',m'<m/\W (i+1) m' σ' H')/\∀ x H',J.yld i H x H'->g x U H' λσ2 H2=>tb { D with nx:=N,ct:=N,bk:=D.nx } σ2 H2)
def zfy (fp:List Addr)(h:Heap):List (Addr×Obj):=fp.filterMap λb=>(h.get? b).map λo=>(b,o)
def zdK {fp:List Addr}{h:Heap}{b:Addr}{o:Obj}(hb:b∈fp)(e:h.get? b=some o):(b,o)∈zfy fp h:=List.mem_filterMap.mpr ⟨b,hb,by rw[e];rfl⟩
def znu {fp:List Addr}{h:Heap}{p:Addr×Obj}(hp:p∈zfy fp h):p.1∈fp/\h.get? p.1=some p.2:=by
 obtain⟨b,hb,e⟩:=List.mem_filterMap.mp hp;cases q:h.get? b with
 |none=>rw[q]at e;cases e
 |some o =>rw[q]at e;have e':(b,o)=p:=Option.some.inj e;subst e';exact⟨hb,q⟩
def Inv.pinned {fp:List Addr}(I:Inv X pins U H s)(hf:∀ b∈fp,zd3 X pins H b)(ho:∀ b∈fp,∃ o,s.heap.get? b=some o/\∀ v,o.data≠.cell v):Inv X (pins++zfy fp s.heap) U H s :=
 I.pins_of λp hp=>(List.mem_append.mp hp).elim (λz=>I.pin p (List.mem_append_right _ z)) λz=>by obtain⟨hb,e⟩:=znu z;obtain⟨f0,f1,f2,_⟩:=hf p.1 hb;obtain⟨o,e',d⟩:=ho p.1 hb;rw[e]at e';cases e';exact⟨e,f0,f1,f2,d⟩
def Inv.unpinned {pl:List (Addr×Obj)}(I:Inv X (pins++pl) U H s):Inv X pins U H s:=I.pins_of λp hp=>I.pin p (List.mem_append_right _ (List.mem_append_left _ hp))
def zs6 {pos:Pos}(hp:PassesOwn (model X.prog X.w) X.A X.env X.xe)(hc:X.calm=true)(hi:PI X tg iter wi)(hg:PG X tg g)(hb:PSs X body tb)(hs:autoParam (∀ x,foldedSetIterable iter X.env x=pure x) zeV):PS X (.For tg iter body [] pos) (zvI wi g tb):=by
 intro pins s U H D I h;refine wpAny_For (thn (hi pins s U H _ I h) λv s1 h1=>thn h1 λitv s2 h2=>?_) hs;obtain⟨it,fp,tn,J,H2,e,I2,T,st2,f2,W,⟨m0,w0⟩,turn⟩:=h2;subst e;have stat:∀ {H':Hp},(∀ b∈fp,H' b=none)->∀ b∈fp,zd3 X pins H' b:=λhn b hb=>⟨hn b hb,(f2 b hb).2⟩
 refine codeAny_forLoop_any (λn s'=>∃ i σ' H',Inv X pins σ' H' s'/\tn i s'.heap/\(∀ b∈fp,H' b=none)/\W i n σ' H') ?_ m0 ⟨0,U,H2,I2,st2,λb hb=>(f2 b hb).1,w0⟩;rintro n s3 ⟨i,σ3,H3,I3,st3,fr3,w3⟩;rcases turn i n σ3 H3 w3 with⟨stop,qn⟩|⟨go,N,hN,step⟩
 ·refine wpAny_passesOwn hp (thn (T.done X rfl rfl rfl hc i pins s3 σ3 H3 X.xe I3 (stat fr3) st3 stop) λr s4 ⟨hr,I4⟩=>?_);subst hr;exact wpAny_execs_nil ⟨σ3,H3,I4,qn⟩
 ·refine wpAny_passesOwn hp (thn (T.item X rfl rfl rfl hc i pins s3 σ3 H3 X.xe I3 (stat fr3) st3 go) λr s4 ⟨u,hr,h4⟩=>?_);subst hr;refine wpAny_passesOwn hp (thn h4 λ_ s5 ⟨x,H5,I5,r5,y5,st5,fr5⟩=>?_);have I5':=I5.pinned (stat fr5) (T.obj _ _ st5);refine wpAny_passesOwn hp (thn (hg _ s5 σ3 H5 x u _ I5' r5 (step x H5 y5)) λ_ s6 ⟨σ6,H6,I6,q6⟩=>?_);refine wpAny_passesOwn hp (thn (hb _ s6 σ6 H6 _ I6 q6) λf s7 q7=>?_)
  have again:∀ {σ7:St} {H7:Hp},Inv X (pins++zfy fp s5.heap) σ7 H7 s7->N σ7 H7->∃ m,m<n/\∃ i σ' H',Inv X pins σ' H' s7/\tn i s7.heap/\(∀ b∈fp,H' b=none)/\W i m σ' H':=λ{σ7 H7} I7 n7=>by obtain⟨m',hm,w7⟩:=hN σ7 H7 n7;refine⟨m',hm,i+1,σ7,H7,I7.unpinned,T.keep _ _ _ st5 λb hb o e=>(I7.pin (b,o) (List.mem_append_right _ (List.mem_append_right _ (zdK hb e)))).1,λb hb=>?_,w7⟩;obtain⟨o,e,d⟩:=T.obj _ _ st5 b hb;exact(I7.pin (b,o) (List.mem_append_right _ (List.mem_append_right _ (zdK hb e)))).2.1
  cases f with
  |next=>obtain⟨σ7,H7,I7,n7⟩:=q7;exact again I7 n7
  |cont=>obtain⟨σ7,H7,I7,n7⟩:=q7;exact again I7 n7
  |brk=>obtain⟨σ7,H7,I7,q7⟩:=q7;exact⟨σ7,H7,I7.unpinned,q7⟩
  |ret v=>obtain⟨x7,σ7,H7,I7,r7,q7⟩:=q7;exact⟨x7,σ7,H7,I7.unpinned,r7,q7⟩
end
abbrev R2:=V->V->Hp->VK->Prop
def OpR (X:Cx)(f:Value->Value->Sem Value)(r:R2):Prop :=
 ∀ (pins:List (Addr×Obj)) (s:Shared) (U:St) (H:Hp) (x y:V) (v u:Value) (Q:VK),Inv X pins U H s->RelV x v->RelV y u->r x y H Q ->
  wpAny (model X.prog X.w) X.A (f v u) (EP X pins U Q) X.xe s
def UnR (X:Cx)(f:Value->Sem Value)(r:V->Hp->VK->Prop):Prop :=
 ∀ (pins:List (Addr×Obj)) (s:Shared) (U:St) (H:Hp) (x:V) (v:Value) (Q:VK),Inv X pins U H s->RelV x v->r x H Q ->
  wpAny (model X.prog X.w) X.A (f v) (EP X pins U Q) X.xe s
def zas (X:Cx)(f:Value)(r:List V->Hp->VK->Prop):Prop :=
 ∀ (pins:List (Addr×Obj)) (s:Shared) (U:St) (H:Hp) (xs:List V) (us:List Value) (Q:VK),Inv X pins U H s->Vals xs us->r xs H Q ->
  wpAny (model X.prog X.w) X.A (call f us) (EP X pins U Q) X.xe s
def tOp (r:R2)(ta tb:TE):TE:=λU H Q=>ta U H λx H1=>tb U H1 λy H2=>r x y H2 Q
def tUn (r:V->Hp->VK->Prop)(ta:TE):TE:=λU H Q=>ta U H λx H1=>r x H1 Q
def rI (C:Int->Int->Prop)(g:Int->Int->V):R2:=λx y H Q=>∃ i j,x=.int i/\y=.int j/\C i j/\Q (g i j) H
def rI0 (g:Int->Int->V):R2:=λx y H Q=>∃ i j,x=.int i/\y=.int j/\Q (g i j) H
def rU (g:Int->V):V->Hp->VK->Prop:=λx H Q=>∃ i,x=.int i/\Q (g i) H
section
variable {X:Cx}{a b c:Expr}{ta tb tc:TE}{pos:Pos}
def zoT (ha:PE X a ta)(hb:PE X b tb){R:V->V->Hp->Prop}(I:Inv X pins U H s)(h:ta U H λx H1=>tb U H1 λy H2=>R x y H2){Q:Value->Shared->Prop}{f:Value->Value->Sem Value}(hf:∀ v u s2 x y H2,Inv X pins U H2 s2->RelV x v->RelV y u->R x y H2->wpAny (model X.prog X.w) X.A (f v u) Q X.xe s2) :
  wpAny (model X.prog X.w) X.A (eval a X.env) (λv s₁=>wpAny (model X.prog X.w) X.A (eval b X.env) (λu s₂=>wpAny (model X.prog X.w) X.A (f v u) Q X.xe s₂) X.xe s₁) X.xe s:=by
 refine thn (ha pins s U H _ I h) λv s1 ⟨x,H1,I1,r1,q1⟩=>?_
 refine thn (hb pins s1 U H1 _ I1 q1) λu s2 ⟨y,H2,I2,r2,q2⟩=>?_
 exact hf v u s2 x y H2 I2 r1 r2 q2
def zpf {op:Operator}(ho:OpR X (binaryOp op) r)(ha:PE X a ta)(hb:PE X b tb):PE X (.BinOp a op b pos) (tOp r ta tb):=by intro pins s U H Q I h;exact wpAny_BinOp (zoT ha hb I h λv u s2 x y H2 I2 rx ry q=>ho pins s2 U H2 x y v u Q I2 rx ry q)
def zu7 {op:UnaryOp}(ho:UnR X (unaryOp op) r)(ha:PE X a ta):PE X (.UnaryOp op a pos) (tUn r ta):=by intro pins s U H Q I h;exact UnaryOp_ (thn (ha pins s U H _ I h) λv s1 zq3=>by obtain⟨x,H1,I1,r1,q1⟩:=zq3;exact ho pins s1 U H1 x v Q I1 r1 q1)
def opI {f:Value->Value->Sem Value}{C:Int->Int->Prop}{g:Int->Int->Int}
  (rule:∀ (i j:Int) (t u:Tok) (s:Shared) (Q:Value->Shared->Prop) (E:Value->Shared->Prop),C i j->Q (.int (g i j) s.toks) { s with toks:=s.toks+1 }->wpAny (model X.prog X.w) X.A (f (.int i t) (.int j u)) Q E s) :
  OpR X f (rI C λi j=>.int (g i j)):=by
 intro pins s U H x y v u Q I rx ry h;obtain⟨i,j,rfl,rfl,hc,q⟩:=h;obtain⟨t,rfl⟩:=rx;obtain⟨t',rfl⟩:=ry;exact rule i j t t' s _ _ hc ⟨.int (g i j),H,I.tok _,⟨_,rfl⟩,q⟩
def zsZ {f:Value->Value->Sem Value}{g:Int->Int->Int}
  (rule:∀ (i j:Int) (t u:Tok) (s:Shared) (Q:Value->Shared->Prop) (E:Value->Shared->Prop),Q (.int (g i j) s.toks) { s with toks:=s.toks+1 }->wpAny (model X.prog X.w) X.A (f (.int i t) (.int j u)) Q E s) :
  OpR X f (rI0 λi j=>.int (g i j)):=by
 intro pins s U H x y v u Q I rx ry h;obtain⟨i,j,rfl,rfl,q⟩:=h;obtain⟨t,rfl⟩:=rx;obtain⟨t',rfl⟩:=ry;exact rule i j t t' s _ _ ⟨.int (g i j),H,I.tok _,⟨_,rfl⟩,q⟩
def zo4 {f:Value->Value->Sem Value}{g:Int->Int->Bool}
  (rule:∀ (i j:Int) (t u:Tok) (s:Shared) (Q:Value->Shared->Prop) (E:Value->Shared->Prop),Q (.bool (g i j)) s->wpAny (model X.prog X.w) X.A (f (.int i t) (.int j u)) Q E s) :
  OpR X f (rI0 λi j=>.bl (g i j)):=by
 intro pins s U H x y v u Q I rx ry h;obtain⟨i,j,rfl,rfl,q⟩:=h;obtain⟨t,rfl⟩:=rx;obtain⟨t',rfl⟩:=ry;exact rule i j t t' s _ _ ⟨.bl (g i j),H,I,rfl,q⟩
def zwa (i j:Int):Prop:=0<=j/\j<=1000000/\i.natAbs<2 ^ 64
def zmd (i j:Int):Prop:=(-(2 ^ 64)<i/\i<2 ^ 64)\/(-(2 ^ 64)<j/\j<2 ^ 64)
def zmd.ok (h:zmd i j):IntMulOk i j:=by
 rcases h with⟨h1,h2⟩|⟨h1,h2⟩
 ·exact .of_left (intBits_le_64 h1 h2)
 ·exact .of_right (intBits_le_64 h1 h2)
def zrz:OpR X (binaryOp .Add) (rI0 λi j=>.int (i+j)):=zsZ λ_ _ _ _ _ _ _ q=>add_int q
def ztn:OpR X (binaryOp .Sub) (rI0 λi j=>.int (i-j)):=zsZ λ_ _ _ _ _ _ _ q=>sub_int q
def zqg:OpR X (binaryOp .Mod) (rI (λ_ j=>j≠0) λi j=>.int (i.fmod j)):=opI λ_ _ _ _ _ _ _ hc q=>mod_int' hc q
def zr9:OpR X (binaryOp .Pow) (rI zwa λi j=>.int (i ^ j.toNat)):=opI λ_ _ _ _ _ _ _ hc q=>pow_int_small hc.1 hc.2.1 hc.2.2 q
def unI {f:Value->Sem Value}{g:Int->Int}
  (rule:∀ (i:Int) (t:Tok) (s:Shared) (Q:Value->Shared->Prop) (E:Value->Shared->Prop),Q (.int (g i) s.toks) { s with toks:=s.toks+1 }->wpAny (model X.prog X.w) X.A (f (.int i t)) Q E s) :
  UnR X f (rU λi=>.int (g i)):=by
 intro pins s U H x v Q I rx h;obtain⟨i,rfl,q⟩:=h;obtain⟨t,rfl⟩:=rx;exact rule i t s _ _ ⟨.int (g i),H,I.tok _,⟨_,rfl⟩,q⟩
def zrZ:UnR X (unaryOp .USub) (rU λi=>.int (-i)):=unI λ_ _ _ _ _ q=>neg_int q
end
section
variable {X:Cx}{a b c:Expr}{ta tb tc:TE}{pos:Pos}
def zj9 {Q:VK}{k k':Bool}(I:Inv X pins U H s)(q:Q (.bl k) H)(e:k=k'):EP X pins U Q (.bool k') s:=by subst e;exact⟨.bl k,H,I,rfl,q⟩
def zuc:OpR X (compareOp .Lt) (rI0 λi j=>.bl (decide (i<j))):=zo4 λ_ _ _ _ _ _ _ q=>lt_int q
def zvj:OpR X (compareOp .LtE) (rI0 λi j=>.bl (decide (i<=j))):=zo4 λ_ _ _ _ _ _ _ q=>le_int q
def zu3:OpR X (compareOp .Gt) (rI0 λi j=>.bl (decide (j<i))):=zo4 λ_ _ _ _ _ _ _ q=>gt_int q
def zm5:OpR X (compareOp .In) (λx y H Q=>∃ i j,x=.str i/\y=.str j/\Q (.bl (!(Builtin.Str.occurrences j i 0 j.length 1).isEmpty)) H):=by intro pins s U H x y v u Q I rx ry h;obtain⟨i,j,rfl,rfl,q⟩:=h;obtain⟨t,rfl⟩:=rx;obtain⟨t',rfl⟩:=ry;exact in_str (zj9 I q rfl)
def ztE:OpR X (compareOp .Is) (λx y H Q=>y=.non/\Q (.bl (decide (x=.non))) H):=by
  intro pins s U H x y v u Q I rx ry h;obtain⟨rfl,q⟩:=h;cases ry;refine is_none_gen (zj9 I q ?_)
  cases x<;>first
    |(cases rx;rfl)
    |(obtain⟨t,rfl⟩:=rx;rfl)
def zqh:OpR X (compareOp .IsNot) (λx y H Q=>y=.non/\Q (.bl (!decide (x=.non))) H):=by
  intro pins s U H x y v u Q I rx ry h;obtain⟨rfl,q⟩:=h;cases ry;refine isnot_none_gen (zj9 I q ?_)
  cases x<;>first
    |(cases rx;rfl)
    |(obtain⟨t,rfl⟩:=rx;rfl)
def OpR.or (h:OpR X f r)(h':OpR X f r'):OpR X f (λx y H Q=>r x y H Q\/r' x y H Q):=by
 intro pins s U H x y v u Q I rx ry q;rcases q with q|q
 ·exact h pins s U H x y v u Q I rx ry q
 ·exact h' pins s U H x y v u Q I rx ry q
def zm1 (b:Expr){op:CmpOp}(h:autoParam (op≠.In) zW)(h2:autoParam (op≠.NotIn) zW):behindInMarks op b=false:=by
  have e1:(op==CmpOp.In)=false:=by cases op<;>first|rfl|exact absurd rfl h
  have e2:(op==CmpOp.NotIn)=false:=by cases op<;>first|rfl|exact absurd rfl h2
  cases b<;>simp[behindInMarks,e1,e2]
def zky {op:CmpOp}(ho:OpR X (compareOp op) r)(ha:PE X a ta)(hb:PE X b tb)(hm:behindInMarks op b=false):PE X (.Compare a [op] [b] pos) (tOp r ta tb):=by intro pins s U H Q I h;exact wpAny_Compare1 (zoT ha hb I h λv u s2 x y H2 I2 rx ry q=>ho pins s2 U H2 x y v u Q I2 rx ry q) hm
def zpr (t:TE):TT:=λU H Q=>t U H λx H'=>∃ k,x=.bl k/\Q k H'
def zpK {op:CmpOp}(ho:OpR X (compareOp op) r)(ha:PE X a ta)(hb:PE X b tb)(hm:behindInMarks op b=false):PT X (.Compare a [op] [b] pos) (zpr (tOp r ta tb)):=by
 intro pins s U H Q I h
 refine wpAny_isTrue_Compare1 (thn (ha pins s U H _ I h) λv s1 ⟨x,H1,I1,r1,q1⟩=>thn (hb pins s1 U H1 _ I1 q1) λu s2 ⟨y,H2,I2,r2,q2⟩ =>thn (ho pins s2 U H2 x y v u _ I2 r1 r2 q2) λc s3 ⟨z,H3,I3,r3,k,e,q3⟩=>?_) hm
 subst e;cases r3;exact wpAny_truthy_bool ⟨H3,I3,q3⟩
def znl (r r':R2)(ta tb tc:TE):TE:=λU H Q=>ta U H λx H1=>tb U H1 λy H2=>r x y H2 λz H3=>∃ k,z=.bl k /\
 (if k=true then tc U H3 λw' H4=>r' y w' H4 Q else Q (.bl false) H3)
def znP {op op':CmpOp}(ho:OpR X (compareOp op) r)(ho':OpR X (compareOp op') r')(ha:PE X a ta)(hb:PE X b tb)(hc:PE X c tc)(hm:autoParam (lastMarks [op,op'] [b,c]=false) zlO):PT X (.Compare a [op,op'] [b,c] pos) (zpr (znl r r' ta tb tc)):=by
 intro pins s U H Q I h
 refine isTrue_chain (thn (ha pins s U H _ I h) λv s1 ⟨x,H1,I1,r1,q1⟩=>test_link (thn (hb pins s1 U H1 _ I1 q1) λu s2 ⟨y,H2,I2,r2,q2⟩ =>thn (ho pins s2 U H2 x y v u _ I2 r1 r2 q2) λd s3 ⟨z,H3,I3,r3,k,e,q3⟩=>?_)) hm
 subst e;cases r3;refine wpAny_truthy_bool ?_;cases k with
 |false =>obtain⟨k',e',q'⟩:=q3;cases e';exact ite_ff ⟨H3,I3,q'⟩
 |true =>refine ite_tt (test_last (thn (hc pins s3 U H3 _ I3 q3) λw' s4 ⟨z',H4,I4,r4,q4⟩=>thn (ho' pins s4 U H4 y z' u w' _ I4 r2 r4 q4) λd' s5 ⟨z2,H5,I5,r5,k2,e2,q5⟩=>?_));subst e2;cases r5;exact wpAny_truthy_bool ⟨H5,I5,q5⟩
def zeI:(sizeLine:Nat)<2 ^ 63:=by rw[sizeLine_eq];decide
def zl9:OpR X (binaryOp .Add) (λx y H Q=>∃ i j,x=.str i/\y=.str j/\i.length+j.length<=sizeLine/\Q (.str (i++j)) H):=by intro pins s U H x y v u Q I rx ry h;obtain⟨i,j,rfl,rfl,hz,q⟩:=h;obtain⟨t,rfl⟩:=rx;obtain⟨t',rfl⟩:=ry;exact add_str (λt' tk=>⟨.str (i++j),H,I.tok _,⟨_,rfl⟩,q⟩) hz
def vals1 {x:V}{us:List Value}(r:Vals [x] us):∃ u,us=[u]/\RelV x u:=by
 cases r with
 |cons r1 r2=>cases r2;exact⟨_,rfl,r1⟩
def vals2 {x y:V}{us:List Value}(r:Vals [x,y] us):∃ u w',us=[u,w']/\RelV x u/\RelV y w':=by
 cases r with
 |cons r1 r2 =>
  cases r2 with
  |cons r3 r4=>cases r4;exact⟨_,_,rfl,r1,r3⟩
def zoN:zas X (.builtin "abs") (λxs H Q=>∃ i,xs=[.int i]/\Q (.int (if i<0 then -i else i)) H):=by intro pins s U H xs us Q I r h;obtain⟨i,rfl,q⟩:=h;obtain⟨u,rfl,t,rfl⟩:=vals1 r;exact call_abs_int λu tk=>⟨.int (if i<0 then -i else i),H,I.tok _,⟨_,rfl⟩,q⟩
def zmN (hc:X.calm=true):zas X (.builtin "max") (λxs H Q=>∃ i j,xs=[.int i,.int j]/\Q (.int (if j > i then j else i)) H):=by
 intro pins s U H xs us Q I r h;obtain⟨i,j,rfl,q⟩:=h;obtain⟨u,w',rfl,⟨t,rfl⟩,⟨t',rfl⟩⟩:=vals2 r;refine max_two_ints (I.ok.hd hc) λh' tk k=>⟨_,H,I.kept k,?_,q⟩
 by_cases hj:j > i
 ·rw[if_pos hj,if_pos hj];exact⟨_,rfl⟩
 ·rw[if_neg hj,if_neg hj];exact⟨_,rfl⟩
def znF (hc:X.calm=true):zas X (.builtin "min") (λxs H Q=>∃ i j,xs=[.int i,.int j]/\Q (.int (if j<i then j else i)) H):=by
 intro pins s U H xs us Q I r h;obtain⟨i,j,rfl,q⟩:=h;obtain⟨u,w',rfl,⟨t,rfl⟩,⟨t',rfl⟩⟩:=vals2 r;refine min_two_ints (I.ok.hd hc) λh' tk k=>⟨_,H,I.kept k,?_,q⟩
 by_cases hj:j<i
 ·rw[if_pos hj,if_pos hj];exact⟨_,rfl⟩
 ·rw[if_neg hj,if_neg hj];exact⟨_,rfl⟩
def zi8:zas X (.type "str") (λxs H Q=>∃ i,xs=[.int i]/\i.natAbs.log2<1920/\Q (.str (toString i)) H):=by intro pins s U H xs us Q I r h;obtain⟨i,rfl,hz,q⟩:=h;obtain⟨u,rfl,t,rfl⟩:=vals1 r;exact PySem.P.str_of_int hz ⟨.str _,H,I.tok _,⟨_,rfl⟩,q⟩
end
structure zhU (h:Heap)(x dx C:Addr)(mA:Str->Option Value):Prop where
 obj:h.get? x=some (PySem.W.instObj C dx)
 ns:h.Ns1 dx mA
 ne:dx≠x
def zm4 {h:Heap}{dx:Addr}{mA:Str->Option Value}(n:h.Ns1 dx mA):∃ od,h.get? dx=some od/\∀ name,PySem.W.lookIn name od=some (mA name):=by
 obtain⟨o,es,ep,ho,hd,hk,_,hm⟩:=n;refine⟨o,ho,λname=>?_⟩;have e:=hm name;unfold nsFind findBy at e;rw[<- Array.find?_toList]at e;unfold PySem.W.lookIn;rw[hd];dsimp only;split
 ·rename_i y q;rw[q]at e;exact congrArg some e
 ·rename_i q;rw[q]at e
  have a:es.toList.any (·.refKey)=false:=by rw[List.any_eq_false];intro y hy;obtain⟨z,t,hkey⟩:=hk y (Array.mem_toList_iff.mp hy);simp[DictEntry.refKey,hkey]
  have a':¬ es.toList.any (·.refKey)=true:=by rw[a];exact Bool.false_ne_true
  rw[if_neg a'];exact congrArg some e
def zhU.look (I:zhU h x dx C mA):∃ od,PySem.W.InstAt h x (PySem.W.instObj C dx) C (some od)/\∀ name,PySem.W.lookIn name od=some (mA name) :=
 let ⟨od,ho,hl⟩:=zm4 I.ns
 ⟨od,⟨I.obj,rfl,rfl,ho⟩,hl⟩
section
variable {prog:Program}{w:World}{A:Around}{E:Value->Shared->Prop}{s:Shared}{K:PySem.W.Frag}{x dx C f:Addr}{mA:Str->Option Value}{name:Str}{v:Value}
def get_map {expr:Bool}{Q:Value->Shared->Prop}(X:K.In s.heap)(I:zhU s.heap x dx C mA)(hg:PySem.W.plainGet K C name=true)(hh:PySem.W.hasDictIn K C=true)
  (ha:PySem.W.findIn K (.ref C) name=some none) (hv:mA name=some v) (hv':PySem.W.handedIn v=true) (h:Q v { s with toks:=s.toks+1 }) :
  wpAny (model prog w) A (getAttr (.ref x) name expr) Q E s:=by
 obtain⟨od,J,hl⟩:=I.look;exact PySem.W.get_value X J (PySem.W.plainGet_of hg).1 (PySem.W.findObj_own hh ha rfl (by rw[hl,hv])) hv' h
def zp7 {Q:Unit->Shared->Prop}(X:K.In s.heap)(I:zhU s.heap x dx C mA)(hs:PySem.W.findIn K (.ref C) "__setattr__"=some (some (.builtin "object.__setattr__")))(hp:PySem.W.plainOver K C=true)(ht:PySem.W.takerIn K C name=some none)(hh:PySem.W.hasDictIn K C=true)(hw:PySem.Within mA ns)(hsz:ns.length<=sizeLine)(h:∀ h',zhU h' x dx C (λy=>if y=name then some v else mA y)->Heap.SameBut dx s.heap h'->Q ⟨⟩ { s with heap:=h',toks:=s.toks+2 }) :
  wpAny (model prog w) A (setAttr (.ref x) name v) Q E s:=by
 obtain⟨od,J,hl⟩:=I.look;refine PySem.W.set_plain X J hs (PySem.W.osa_open (s:={ s with toks:=s.toks+1 }) (r:=none) X J hp ht λb=>?_);obtain⟨cd,hc,hd'⟩:=PySem.W.any_some hh;have hx:s.heap.get? x=some ⟨.ref C,some dx,.plain,#[]⟩:=I.obj;refine wpAny_bind (wpAny_pure (wpAny_bind (wpAny_bind (wpAny_loadPart hx (wpAny_bind (PySem.W.Looks.here (s:={ s with toks:=s.toks+1 }) (PySem.W.looks_clsIn X hc) ?_))))));rw[hd'];refine wpAny_pure (a:=some dx) (wpAny_bind (wpAny_pure (wpAny_bind ?_)));refine wpAny_nsSet1 (s:={ s with toks:=s.toks+1 }) I.ns λh' hn2 hs2=>?_
 obtain⟨oD,esD,epD,hoD,hdD,hcD⟩:=hn2.count (PySem.Within.cons name v hw);refine wpAny_bind (wpAny_lookBehind hoD (by rw[hdD];exact pastItsLine_dict (Nat.le_trans hcD (by rw[List.length_cons];lia))) ?_);exact wpAny_pure (h _ ⟨(hs2.2 _ (Ne.symm I.ne)).trans I.obj,hn2,I.ne⟩ hs2)
def zn4 {R:Result->Shared->Prop}{vs:List Value}{kw:List (Str×Value)}(X:K.In s.heap)(hm:PySem.W.makesIn K C=true)
    (hi:PySem.W.findIn K (.ref C) "__init__"=some (some (.ref f))) (hf:PySem.W.typeIn K (.ref f)=some (.type "function"))
    (h:codeAny (model prog w) (A.under (.builtin "type.__call__" ⟨.ref C::vs,kw⟩)) (.call (.ref f) ⟨.ref (s.heap.objs.size+1)::vs,kw⟩) (PySem.W.InitBack (s.heap.objs.size+1) R)
      { s with heap:=(s.heap.push PySem.W.emptyDict).push (PySem.W.instObj C s.heap.objs.size) }) :
    codeAny (model prog w) A (.call (.ref C) ⟨vs,kw⟩) R s:=by
  obtain⟨hh,g,d,t,os⟩:=s;exact PySem.W.make_core (PySem.W.makes_of X hm) (PySem.W.looks_findIn X hi) (λself=>PySem.W.bind_fn X self hf) (.inl rfl) h
end
def zbp (f:Str)(v:V):List (Str×V)->List (Str×V)
 |[]=>[(f,v)]
 |(g,x)::r=>if g=f then(g,v)::r else(g,x)::zbp f v r
theorem zgz (f g:Str)(v:V):∀ fs:List (Str×V),(zbp f v fs).lookup g=if g=f then some v else fs.lookup g
 |[]=>by
  show List.lookup g [(f,v)]=_;by_cases h:g=f
  ·have hb:(g==f)=true:=beq_iff_eq.mpr h;simp only[List.lookup,hb,if_pos h]
  ·have hb:(g==f)=false:=beq_eq_false_iff_ne.mpr h;simp only[List.lookup,hb,if_neg h]
 |(k,x)::r=>by
  have ih:=zgz f g v r;rw[show zbp f v ((k,x)::r)=(if k=f then(k,v)::r else(k,x)::zbp f v r)from rfl];by_cases hk:k=f
  ·rw[if_pos hk];by_cases h:g=k
   ·have hb:(g==k)=true:=beq_iff_eq.mpr h;simp only[List.lookup,hb,if_pos (h.trans hk)]
   ·have hb:(g==k)=false:=beq_eq_false_iff_ne.mpr h;simp only[List.lookup,hb,if_neg (λe:g=f=>h (e.trans hk.symm))]
  ·rw[if_neg hk];by_cases h:g=k
   ·have hb:(g==k)=true:=beq_iff_eq.mpr h;simp only[List.lookup,hb,if_neg (λe:g=f=>hk (h.symm.trans e))]
   ·have hb:(g==k)=false:=beq_eq_false_iff_ne.mpr h;simp only[List.lookup,hb];exact ih
theorem zfu (f:Str)(v:V):∀ fs:List (Str×V),f∈(zbp f v fs).map (·.1)/\∀ g,g∈fs.map (·.1)->g∈(zbp f v fs).map (·.1)
 |[]=>⟨by simp[zbp],λg h=>by simp at h⟩
 |(k,x)::r=>by
  obtain⟨i1,i2⟩:=zfu f v r;rw[show zbp f v ((k,x)::r)=(if k=f then(k,v)::r else(k,x)::zbp f v r)from rfl];by_cases hk:k=f
  ·rw[if_pos hk];subst hk;exact⟨by simp,λg h=>by simpa using h⟩
  ·rw[if_neg hk];refine⟨?_,λg h=>?_⟩
   ·rw[List.map_cons];exact List.mem_cons_of_mem _ i1
   ·rw[List.map_cons]at h ⊢;rcases List.mem_cons.mp h with e|e
    ·exact List.mem_cons.mpr (.inl e)
    ·exact List.mem_cons_of_mem _ (i2 g e)
theorem zgs (f:Str)(v:V):∀ fs:List (Str×V),(zbp f v fs).length<=fs.length+1
 |[]=>by simp[zbp]
 |(k,x)::r=>by
  have ih:=zgs f v r;rw[show zbp f v ((k,x)::r)=(if k=f then(k,v)::r else(k,x)::zbp f v r)from rfl];by_cases hk:k=f
  ·rw[if_pos hk,List.length_cons,List.length_cons];lia
  ·rw[if_neg hk,List.length_cons,List.length_cons];lia
def zgF.some_of {v:V}(r:zgF (some v) o):∃ u,o=some u/\RelV v u:=by
 cases o with
 |none=>exact(show False from r).elim
 |some u=>exact⟨u,rfl,r⟩
def zmX (r:RelV v u):PySem.W.handedIn u=true:=by
 cases v with
 |non=>cases(show u=Value.none from r);rfl
 |bl b=>cases(show u=Value.bool b from r);rfl
 |int i=>obtain⟨t,e⟩:=(show ∃ t,u=Value.int i t from r);cases e;rfl
 |str x=>obtain⟨t,e⟩:=(show ∃ t,u=Value.str x t from r);cases e;rfl
 |byt b=>obtain⟨t,e⟩:=(show ∃ t,u=Value.bytes b t from r);cases e;rfl
 |flt b=>obtain⟨t,e⟩:=(show ∃ t,u=Value.float b t from r);cases e;rfl
 |ref a=>cases(show u=Value.ref a from r);rfl
 |ty n=>cases(show u=Value.type n from r);rfl
section
variable {P:Program}{w:World}{H H':Hp}{h h':Heap}{a C dx:Addr}{fs fs':List (Str×V)}
def zh6 (hok:HOk P w H h)(e:H a=some (.ins C dx fs)):∃ mA,zhU h a dx C mA/\(∀ f,zgF (fs.lookup f) (mA f))/\PySem.Within mA (fs.map (·.1))/\fs.length<=1000/\H dx=some (.own a):=by
 obtain⟨d,z,ne,ob,mA,n,r,q⟩:=(show zaQ P w H h a (.ins C dx fs)from hok a _ e)
 exact⟨mA,⟨ob,n,ne⟩,r,q,z,d⟩
end
structure Cls (K:PySem.W.Frag)(C:Addr):Prop where
 pg:PySem.W.plainGet K C Str.empty=true
 hd:PySem.W.hasDictIn K C=true
 po:PySem.W.plainOver K C=true
 sa:PySem.W.findIn K (.ref C) "__setattr__"=some (some (.builtin "object.__setattr__"))
def Cls.get {K:PySem.W.Frag}(c:Cls K C)(f:Str):PySem.W.plainGet K C f=true:=c.pg
def zam (K:PySem.W.Frag)(C:Addr)(f:Str):Prop:=PySem.W.findIn K (.ref C) f=some none
def zam.taker {K:PySem.W.Frag}(n:zam K C f):PySem.W.takerIn K C f=some none:=by unfold PySem.W.takerIn;rw[show PySem.W.findIn K (.ref C) f=some none from n];rfl
section
variable {X:Cx}{pins:List (Addr×Obj)}{U:St}{H:Hp}{s:Shared}{a C dx:Addr}{fs:List (Str×V)}{f:Str}{v:V}{A:Around}{E:Value->Shared->Prop}
def zmj {b:Bool}{Q:Value->Shared->Prop}(I:Inv X pins U H s)(e:H a=some (.ins C dx fs))(c:Cls X.K C)(n:zam X.K C f)(l:fs.lookup f=some v)
  (h:∀ u s',Inv X pins U H s'->RelV v u->Q u s'):wpAny (model X.prog X.w) A (getAttr (.ref a) f b) Q E s:=by
 obtain⟨mA,O,r,_,_,_⟩:=zh6 I.hok e;obtain⟨u,hu,ru⟩:=zgF.some_of (v:=v) (o:=mA f) (by rw[<- l];exact r f);exact get_map I.kIn O (c.get f) c.hd n hu (zmX ru) (h u _ (I.tok _) ru)
def zlB {Q:Unit->Shared->Prop}(I:Inv X pins U H s)(e:H a=some (.ins C dx fs))(c:Cls X.K C)(n:zam X.K C f)(hl:fs.length<1000)(ry:RelV y u)(h:∀ s',Inv X pins U (upd H a (.ins C dx (zbp f y fs))) s'->Q ⟨⟩ s'):wpAny (model X.prog X.w) A (setAttr (.ref a) f u) Q E s:=by
 obtain⟨mA,O,r,wi,_,ho⟩:=zh6 I.hok e;have hz:(fs.map (·.1)).length<=sizeLine:=by rw[List.length_map,sizeLine_eq];lia
 refine zp7 I.kIn O c.sa c.po n.taker c.hd wi hz λh' O' sb=>h _ ?_
 have hd:∃ o,h'.get? dx=some o:=let ⟨o,_,_,e',_⟩:=O'.ns;⟨o,e'⟩;refine I.write (x:=a) (e:=dx) (by rw[e];exact True.intro) (.inr ho) (λb q hb z=>(sb.2 b hb).trans z) hd ?_;refine⟨by rw[zP O.ne];exact ho,?_,O.ne,O'.obj,_,O'.ns,λg=>?_,λg hg=>?_⟩
 ·have:=zgs f y fs;lia
 ·show zgF ((zbp f y fs).lookup g) (if g=f then some u else mA g);rw[zgz];by_cases q:g=f
  ·rw[if_pos q,if_pos q];exact ry
  ·rw[if_neg q,if_neg q];exact r g
 ·by_cases q:g=f
  ·rw[q];exact(zfu f y fs).1
  ·refine(zfu f y fs).2 g (wi g λz=>hg ?_);show(if g=f then some u else mA g)=none;rw[if_neg q];exact z
def Inv.made (I:Inv X pins U H s):Inv X pins U (upd (upd H s.heap.objs.size (.own (s.heap.objs.size+1))) (s.heap.objs.size+1) (.ins C s.heap.objs.size []))
    { s with heap:=(s.heap.push PySem.W.emptyDict).push (PySem.W.instObj C s.heap.objs.size) }:=by
  have e1:(s.heap.push PySem.W.emptyDict).get? s.heap.objs.size=some PySem.W.emptyDict:=Heap.get?_push_size s.heap rfl
  have e2:((s.heap.push PySem.W.emptyDict).push (PySem.W.instObj C s.heap.objs.size)).get? (s.heap.objs.size+1)=some (PySem.W.instObj C s.heap.objs.size):=by have:=Heap.get?_push_size (s.heap.push PySem.W.emptyDict) (o:=PySem.W.instObj C s.heap.objs.size) rfl;rwa[Heap.size_push]at this
  have e3:(s.heap.push PySem.W.emptyDict).Ns s.heap.objs.size (λ_=>none):=⟨PySem.W.emptyDict,#[],_,e1,rfl,(λe he=>absurd he (by simp)),λ_=>rfl⟩
  have I1:=I.laid (a:=s.heap.objs.size) (o:=.own (s.heap.objs.size+1)) (h':=s.heap.push PySem.W.emptyDict) (t':=s.toks) (λb u q=>Heap.get?_push_of_some _ q) (Nat.le_refl _) ⟨_,e1⟩;refine I1.laid (a:=s.heap.objs.size+1) (o:=.ins C s.heap.objs.size []) (t':=s.toks) (λb u q=>Heap.get?_push_of_some _ q) (Nat.le_of_eq (Heap.size_push _ _)) ?_;have ne:s.heap.objs.size≠s.heap.objs.size+1:=Nat.ne_of_lt (Nat.lt_succ_self _);refine⟨by rw[zP ne,zat],Nat.zero_le _,ne,e2,λ_=>none,(Heap.Ns1.of_empty e3).at λo q=>Heap.get?_push_of_some _ q,λ_=>True.intro,λy hy=>absurd rfl hy⟩
def zqa {prog:Program}{w:World}{env:Env}{e:Expr}{f:Str}{pos:Pos}{s:Shared}{Q:Value->Shared->Prop}(hb:attributeBase e f env (eval e env)=eval e env)
  (h:wpAny (model prog w) A (eval e env) (λo s₁=>wpAny (model prog w) A (getAttr o f true) Q E s₁) E s):wpAny (model prog w) A (eval (.Attribute e f pos) env) Q E s :=
 Attribute_any_ h (by rw[arm_eval_Attribute,hb])
end
def zwB (K:PySem.W.Frag)(ta:TE)(f:Str):TE:=λU H Q=>ta U H λx H1=>∃ a C dx fs v,x=.ref a/\H1 a=some (.ins C dx fs)/\Cls K C/\zam K C f/\fs.lookup f=some v/\Q v H1
def zv2 (K:PySem.W.Frag)(ta tv:TE)(f:Str):TS:=λD U H=>tv U H λy H1=>ta U H1 λx H2=>∃ a C dx fs,x=.ref a/\H2 a=some (.ins C dx fs)/\Cls K C/\zam K C f/\fs.length<1000 /\
 D.nx U (upd H2 a (.ins C dx (zbp f y fs)))
section
variable {X:Cx}{o e value:Expr}{f:Str}{pos pos' tpos:Pos}{ta tv:TE}
def zsk (he:PE X e ta)(hb:attributeBase e f X.env (eval e X.env)=eval e X.env):PE X (.Attribute e f pos) (zwB X.K ta f):=by intro pins s U H Q I h;refine zqa hb (thn (he pins s U H _ I h) λu s1 ⟨x,H1,I1,rx,a,C,dx,fs,v,ex,ea,c,n,l,q⟩=>?_);subst ex;obtain rfl:u=Value.ref a:=rx;exact zmj I1 ea c n l λu' s2 I2 ru=>⟨v,H1,I2,ru,q⟩
def zrY (ha:PE X o ta)(hv:PE X value tv)(hs:swapsWith value (some (.Attribute o f pos')) pos.line X.env=pure false):PS X (.Assign [.Attribute o f pos'] value pos) (zv2 X.K ta tv f):=by intro pins s U H D I h;refine plainObj_wpAny_Assign_Attribute (thn (hv pins s U H _ I h) λu s1 ⟨y,H1,I1,ry,q⟩=>thn (ha pins s1 U H1 _ I1 q) λov s2 ⟨x,H2,I2,rx,a,C,dx,fs,ex,ea,c,n,l,q2⟩=>?_) hs;subst ex;obtain rfl:ov=Value.ref a:=rx;exact zlB I2 ea c n l ry λs3 I3=>⟨U,_,I3,q2⟩
end
section
variable {X:Cx}{pins:List (Addr×Obj)}{U:St}{H:Hp}{s:Shared}{A:Around}{E:Value->Shared->Prop}{Q:Value->Shared->Prop}{c:Value}{b:Bool}
inductive zc8 (K:PySem.W.Frag)(H:Hp):V->Value->Prop where
 | non:zc8 K H .non (.type "NoneType")
 | bl (x:Bool):zc8 K H (.bl x) (.type "bool")
 | int (i:Int):zc8 K H (.int i) (.type "int")
 | str (x:Str):zc8 K H (.str x) (.type "str")
 | flt (x:UInt64):zc8 K H (.flt x) (.type "float")
 | lst {a:Addr} {xs:List V} (e:H a=some (.lst xs)):zc8 K H (.ref a) (.type "list")
 | frz {a:Addr} {o:Obj} {xs:List V} (e:H a=some (.frz o (.lst xs))):zc8 K H (.ref a) (.type "list")
 | tup {a:Addr} {xs:List V} (e:H a=some (.tup xs)):zc8 K H (.ref a) (.type "tuple")
 | dK {a:Addr} {kvs:List (Key×V)} (e:H a=some (.dK kvs)):zc8 K H (.ref a) (.type "dict")
 | dT {a:Addr} {kvs:List (List Key×V)} (e:H a=some (.dT kvs)):zc8 K H (.ref a) (.type "dict")
 | ins {a C dx:Addr} {fs:List (Str×V)} (e:H a=some (.ins C dx fs)) (cl:Cls K C) (ha:PySem.W.findIn K (.ref C) "__class__"=some (some (.builtin "object.__class__")))
   (hn:PySem.W.specialIn K (.builtin "object.__class__") "__get__"=some (some (.builtin "getset_descriptor.__get__"))) (htk:PySem.W.takesIn K (.builtin "object.__class__")=some true)
   (hm:PySem.W.mroIn K C (.type "object")=some true):zc8 K H (.ref a) (.ref C)
def zms (I:Inv X pins U H s)(rx:RelV x u)(ty:zc8 X.K H x t)(e:PySem.W.kitOne X.K t c=some b)(h:∀ tk,Q (.bool b) { s with toks:=tk }) :
  wpAny (model X.prog X.w) A (call (.builtin "isinstance") [u,c]) Q E s:=by
 cases ty with
 |non=>cases(show u=Value.none from rx);exact PySem.W.kia_one PySem.W.kitx_none I.kIn True.intro e (λz=>nomatch z) h
 |bl y=>cases(show u=Value.bool y from rx);exact PySem.W.kia_one PySem.W.kitx_bool I.kIn True.intro e (λz=>nomatch z) h
 |int i=>obtain⟨t,q⟩:=(show ∃ t,u=Value.int i t from rx);cases q;exact PySem.W.kia_one PySem.W.kitx_int I.kIn True.intro e (λz=>nomatch z) h
 |str y=>obtain⟨t,q⟩:=(show ∃ t,u=Value.str y t from rx);cases q;exact PySem.W.kia_one PySem.W.kitx_str I.kIn True.intro e (λz=>nomatch z) h
 |flt y=>obtain⟨t,q⟩:=(show ∃ t,u=Value.float y t from rx);cases q;exact PySem.W.kia_one PySem.W.kitx_float I.kIn True.intro e (λz=>nomatch z) h
 |@lst a xs ea =>
  cases(show u=Value.ref a from rx);obtain⟨_,_,n,_,h1⟩:=(show zaQ X.prog X.w H s.heap a (.lst xs)from I.hok a _ ea)
  exact PySem.W.kia_one PySem.W.kitx_list I.kIn ⟨_,h1,rfl⟩ e (λz=>nomatch z) h
 |@frz a ob xs ea =>
  cases(show u=Value.ref a from rx);obtain⟨_,_,_,n,_,h1⟩:=(show zaQ X.prog X.w H s.heap a (.frz ob (.lst xs))from I.hok a _ ea)
  exact PySem.W.kia_one PySem.W.kitx_list I.kIn ⟨_,h1,rfl⟩ e (λz=>nomatch z) h
 |@tup a xs ea =>
  cases(show u=Value.ref a from rx);obtain⟨_,_,_,p⟩:=(show zaQ X.prog X.w H s.heap a (.tup xs)from I.hok a _ ea)
  obtain⟨o,h1,h2,_⟩:=p;exact PySem.W.kia_one PySem.W.kitx_tuple I.kIn ⟨o,h1,h2⟩ e (λz=>nomatch z) h
 |@dK a kvs ea =>
  cases(show u=Value.ref a from rx);obtain⟨_,_,vs,_,p⟩:=(show zaQ X.prog X.w H s.heap a (.dK kvs)from I.hok a _ ea)
  obtain⟨o,es,ep,h1,h2,_⟩:=p;exact PySem.W.kia_one PySem.W.kitx_dict I.kIn ⟨o,h1,h2.1⟩ e (λz=>nomatch z) h
 |@dT a kvs ea =>
  cases(show u=Value.ref a from rx);obtain⟨_,_,xs,_,o,es,ep,h1,h2,_⟩:=(show zaQ X.prog X.w H s.heap a (.dT kvs)from I.hok a _ ea)
  exact PySem.W.kia_one PySem.W.kitx_dict I.kIn ⟨o,h1,h2.1⟩ e (λz=>nomatch z) h
 |@ins a C dx fs ea cl ha hn htk hm =>cases(show u=Value.ref a from rx);obtain⟨mA,O,_⟩:=zh6 I.hok ea;obtain⟨od,J,_⟩:=O.look;exact PySem.W.kia_one (PySem.W.kitx_own (cl.get _) cl.hd ha hn htk hm) I.kIn J e (λz=>nomatch z) h
end
structure zaB (k:Nat)(A:Around):Prop where
 hd:A.handled=none
 dp:A.depth+3*k+5<recursionLimit
 un:A.units+16*k+200<cLine
def zaB.mono {j:Nat}(r:zaB k A)(h:j<=k):zaB j A:=⟨r.hd,by have:=r.dp;lia,by have:=r.un;lia⟩
theorem zaB.deeper (r:zaB (k+1) A)(env:Env):zaB k (A.deeper env) :=⟨r.hd,by have:=r.dp;show A.depth+1+3*k+5<_;lia,by have:=r.un;show A.units+3+16*k+200<_;lia⟩
def zlk {A:Around}{C:Addr}{us:List Value}{kw:List (Str×Value)}:(A.under (.builtin "type.__call__" ⟨.ref C::us,kw⟩)).depth=A.depth+1:=by first|rfl|simp[Around.under,Code.weight,Code.isCreation,Code.isGuard,Code.isCaller,Code.frames,Code.isFrame,guardIds]
def zmh {A:Around}{C:Addr}{us:List Value}{kw:List (Str×Value)}:(A.under (.builtin "type.__call__" ⟨.ref C::us,kw⟩)).units=A.units+1:=by first|rfl|simp[Around.under,Code.cUnits,Code.frames,Code.isFrame]
def zaB.make (r:zaB (k+1) A)(C:Addr)(us:List Value)(kw:List (Str×Value)):zaB k (A.under (.builtin "type.__call__" ⟨.ref C::us,kw⟩)) :=⟨r.hd,by have:=r.dp;rw[zlk];lia,by have:=r.un;rw[zmh];lia⟩
theorem zaB.depth (r:zaB k A):A.depth<recursionLimit:=by have:=r.dp;lia
theorem zaB.units (r:zaB k A):A.units+64<cLine:=by have:=r.un;lia
def zwb:TA:=λ_ H Q=>Q [] H
def zuF (ta:TE)(tr:TA):TA:=λU H Q=>ta U H λx H1=>tr U H1 λxs H2=>Q (x::xs) H2
section
variable {X:Cx}{e:Expr}{es:List Expr}{te:TE}{t:TA}{pos:Pos}
def ztx:PA X [] zwb:=λ_ _ _ _ H Q I h=>Calls.spliced_nil ⟨[],H,I,.nil,h⟩
def zpS (ha:PE X e te)(hr:PA X es t)(hs:autoParam (starEach (e::es) X.env=(false,eval e X.env)::starEach es X.env) zL):PA X (e::es) (zuF te t):=by intro pos pins s U H Q I h;rw[hs];show wpAny _ _ (spliced ((false,eval e X.env)::backTo pos (starEach es X.env))) _ _ s;refine Calls.spliced_cons (thn (ha pins s U H _ I h) λu s1 ⟨x,H1,I1,r1,q1⟩=>?_);exact thn (hr pos pins s1 U H1 _ I1 q1) λus s2 zq4=>by obtain⟨xs,H2,I2,r2,q2⟩:=zq4;exact⟨x::xs,H2,I2,.cons r1 r2,q2⟩
def zwx (t:TA):TE:=λU H Q=>t U H λxs H1=>xs.length<=sizeLine/\∀ p,H1 p=none->Q (.ref p) (upd H1 p (.tup xs))
def zwr (t:TA):TE:=λU H Q=>t U H λxs H1=>xs.length<=sizeLine/\∀ p,H1 p=none->Q (.ref p) (upd H1 p (.lst xs))
def zrX {x1}(h:PA X es t):PE X (.Tuple es x1 pos) (zwx t):=by intro pins s U H Q I hq;refine wpAny_Tuple_spliced (thn (h pos pins s U H _ I hq) λus s1 ⟨xs,H1,I1,r,z,q⟩=>⟨by rw[<- r.length];exact z,?_⟩);have hf:H1 s1.heap.objs.size=none:=I1.hok.fresh (Nat.le_refl _);refine⟨.ref s1.heap.objs.size,upd H1 s1.heap.objs.size (.tup xs),I1.laid (t':=s1.toks) (λb u e=>Heap.get?_push_of_some _ e) (Nat.le_refl _) ?_,rfl,q _ hf⟩;exact⟨z,us,r,⟨_,Heap.get?_push_size _ rfl,rfl,_,rfl⟩⟩
def zsJ (h:PA X es t):PE X (.List es pos) (zwr t):=by intro pins s U H Q I hq;refine wpAny_List_spliced (thn (h pos pins s U H _ I hq) λus s1 ⟨xs,H1,I1,r,z,q⟩=>⟨by rw[<- r.length];exact z,?_⟩);have hf:H1 s1.heap.objs.size=none:=I1.hok.fresh (Nat.le_refl _);refine⟨.ref s1.heap.objs.size,upd H1 s1.heap.objs.size (.lst xs),I1.laid (t':=s1.toks) (λb u e=>Heap.get?_push_of_some _ e) (Nat.le_refl _) ?_,rfl,q _ hf⟩;exact⟨z,us,0,r,Heap.get?_push_size _ rfl⟩
end
abbrev Sp:=List V->Hp->VK->XK->Prop
abbrev CXT:=List Env->Hp->Shared->XK->Value->Shared->Prop
structure zgM (P:Program)(w:World)(K:PySem.W.Frag)(mg:Str->Option Value)(base:Heap)(A:Around)(outer:List Env)(s:Shared)(H:Hp):Prop where
 frames:A.frames=some outer
 mod:Mod K mg base
 bs:∀ b o,base.get? b=some o->s.heap.get? b=some o/\H b=none
 bsz:base.objs.size<=s.heap.objs.size
 funs:s.heap.FunFrames base outer
 frf:∀ b∈frs outer,H b=none
 hok:HOk P w H s.heap
 bare:AllBare s.gens
def CE (outer:List Env)(P:Program)(w:World)(H:Hp)(s:Shared)(Q:VK)(u:Value)(s':Shared):=∃ v H',s'.os=s.os/\AllBare s'.gens/\Un (frs outer) [] H H' s.heap s'.heap/\HOk P w H' s'.heap/\RelV v u/\Q v H'
def CR (CX:CXT)(outer:List Env)(P:Program)(w:World)(H:Hp)(s:Shared)(Q:VK)(E:XK)(r:Result)(s':Shared):Prop :=
 match r with
 |.ok (.ret u)=>CE outer P w H s Q u s'
 |.ok _=>False
 |.error e=>CX outer H s E e s'
structure zQ (P:Program)(w:World)(K:PySem.W.Frag)(mg:Str->Option Value)(base:Heap)(CX:CXT)(k:Nat)(f:Addr)(fd:FuncData)(ps:List Str)(sp:Sp):Prop where
 len:∀ vs H Q E,sp vs H Q E->vs.length=ps.length
 run:∀ (A:Around) (outer:List Env) (s:Shared) (H:Hp) (args:Args) (us:List Value) (vs:List V) (Q:VK) (E:XK),zaB k A->zgM P w K mg base A outer s H->BindsTo s fd args (ps.zip us)->Vals vs us->sp vs H Q E ->
  codeAny (model P w) A (.call (.ref f) args) (CR CX outer P w H s Q E) s
theorem zQ.mono {K:PySem.W.Frag}{base:Heap}{k:Nat}(F:zQ P w K mg base CX j f fd ps sp)(h:j<=k) :
  zQ P w K mg base CX k f fd ps sp:=⟨F.len,λA outer s H args us vs Q E hr=>F.run A outer s H args us vs Q E (hr.mono h)⟩
def zgM.make {K:PySem.W.Frag}{base:Heap}(e:zgM P w K mg base A outer s H)(C:Addr)(us:List Value)(kw:List (Str×Value)) :
  zgM P w K mg base (A.under (.builtin "type.__call__" ⟨.ref C::us,kw⟩)) outer s H:=⟨by first | exact e.frames | (simpa [Around.under,Code.envs,Code.isFrame,pushEnvs]using e.frames),e.mod,e.bs,e.bsz,e.funs,e.frf,e.hok,e.bare⟩
section
variable {X:Cx}{pins:List (Addr×Obj)}{U:St}{H:Hp}{s s':Shared}
def Inv.env0 (I:Inv X pins U H s):zgM X.prog X.w X.K X.mg X.base X.A X.stack s H :=⟨I.ok.frames,I.ok.mod,I.bs,Nat.le_trans I.ok.bsz I.sz,I.stack,I.stkFree,I.hok,I.bare⟩
def Inv.after (I:Inv X pins U H s)(h:CE X.stack X.prog X.w H s Q u s'):EP X pins U Q u s':=by obtain⟨v,H',os,bare,un,hok,r,q⟩:=h;obtain⟨hh,g,d,t,os'⟩:=s';obtain rfl:os'=s.os:=os;exact⟨v,H',I.call (h':=hh) (g':=g) (d':=d) (t':=t) (ch:=[]) un hok bare (λb z=>absurd z (by simp)),r,q⟩
end
def zl0 (sp:Sp)(dvs:List V)(E:XK)(t:TA):TE:=λU H Q=>t U H λvs H1=>sp (vs++dvs) H1 Q E
def Binds (K:PySem.W.Frag)(fd:FuncData)(ps:List Str)(ds:List Value):=∀ (s:Shared) (us:List Value),K.In s.heap->(us++ds).length=ps.length->BindsTo s fd ⟨us,[]⟩ (ps.zip (us++ds))
def Binds.all {K:PySem.W.Frag}{fd:FuncData}{ps:List Str}(h:∀ us:List Value,us.length=ps.length->bindArgs fd ⟨us,[]⟩=pure (ps.zip us)):Binds K fd ps []:=λs us _ hl=>by rw[List.append_nil]at hl ⊢;exact .of_eq (h us hl)
def Passes (CX:CXT)(X:Cx)(E:XK):=∀ (pins:List (Addr×Obj)) (U:St) (H:Hp) (s:Shared) (e:Value) (s':Shared),Inv X pins U H s->CX X.stack H s E e s'->X.xe e s'
section
variable {X:Cx}{CX:CXT}{k:Nat}{f C:Addr}{fd:FuncData}{ps:List Str}{sp:Sp}{dvs:List V}{ds:List Value}{E:XK}{x m:Str}{p pos apos:Pos}{e o:Expr}{es:List Expr}{ta:TE}{t:TA}
def zs7 {Q:VK}(F:zQ X.prog X.w X.K X.mg X.base CX k f fd ps sp)(hr:zaB k X.A)(hb:Binds X.K fd ps ds)(hd:Vals dvs ds)(hx:Passes CX X E)(I:Inv X pins U H s)(r:Vals vs us)(h:sp (vs++dvs) H Q E):wpAny (model X.prog X.w) X.A (call (.ref f) us) (EP X pins U Q) X.xe s:=by
 have r2:Vals (vs++dvs) (us++ds):=r.append hd;have hl:(us++ds).length=ps.length:=by rw[<- r2.length];exact F.len _ _ _ _ h
 refine wpAny_call (codeAny_mono (F.run X.A X.stack s H ⟨us,[]⟩ (us++ds) (vs++dvs) Q E hr I.env0 (hb s us I.kIn hl) r2 h) λr s' hq=>?_);cases r with
 |error e=>exact hx pins U H s e s' I hq
 |ok fl =>
  cases fl with
  |ret u=>exact I.after hq
  |next=>exact False.elim hq
  |brk=>exact False.elim hq
  |cont=>exact False.elim hq
def zqc (F:zQ X.prog X.w X.K X.mg X.base CX k f fd ps sp)(hr:zaB k X.A)(hg:Gl X x)(hm:X.mg x=some (.ref f))(hk:PySem.W.keepIn X.K (.ref f)=true)(hb:Binds X.K fd ps ds)(hd:Vals dvs ds)(hx:Passes CX X E)
  (ha:PA X (e::es) t) (hdb:(x==("__debug__":Str))=false:=by decide) (he:starEach (e::es) X.env=(false,eval e X.env)::starEach es X.env:=by rfl) (hpl:(backTo pos (starEach es X.env)).any (·.1)=false:=by rfl) :
  PE X (.Call (.Name x p) (e::es) [] pos) (zl0 sp dvs E t):=by
 intro pins s U H Q I h;refine wpAny_Call_Name_kw (zc6 I hg hm ?_ hdb);refine PySem.W.callWith_K (h₀:=X.base) I.ok.mod.kin hk (thn (ha pos pins s U H _ I h) λus s1 ⟨vs,H1,I1,r,q⟩=>⟨I1.kIn,?_⟩) he hpl;exact zs7 F hr hb hd hx I1 r q
structure Mk (K:PySem.W.Frag)(C f:Addr):Prop where
 makes:PySem.W.makesIn K C=true
 init:PySem.W.findIn K (.ref C) "__init__"=some (some (.ref f))
 fn:PySem.W.isFn K (.ref f)=true
 kp:PySem.W.keepIn K (.ref C)=true
def zoU {Q:VK}(M:Mk X.K C f)(F:zQ X.prog X.w X.K X.mg X.base CX k f fd ps sp)(hr:zaB (k+1) X.A)(hb:Binds X.K fd ps ds)(hd:Vals dvs ds)(hx:Passes CX X E)(I:Inv X pins U H s)(r:Vals vs us)(h:∀ x dx,H x=none->H dx=none->dx≠x->sp (.ref x::(vs++dvs)) (upd (upd H dx (.own x)) x (.ins C dx [])) (λv H2=>v=.non/\Q (.ref x) H2) E) :
  wpAny (model X.prog X.w) X.A (call (.ref C) us) (EP X pins U Q) X.xe s:=by
 have hq:=h (s.heap.objs.size+1) s.heap.objs.size (I.hok.fresh (Nat.le_succ _)) (I.hok.fresh (Nat.le_refl _)) (Nat.ne_of_lt (Nat.lt_succ_self _));have I2:=Inv.made (C:=C) I;have r2:Vals (V.ref (s.heap.objs.size+1)::(vs++dvs)) (Value.ref (s.heap.objs.size+1)::(us++ds)):=.cons rfl (r.append hd)
 have hl:(Value.ref (s.heap.objs.size+1)::us++ds).length=ps.length:=by have e:=r2.length;rw[F.len _ _ _ _ hq]at e;exact e.symm
 refine wpAny_call (zn4 (f:=f) I.kIn M.makes M.init (beq_iff_eq.mp M.fn) (codeAny_mono (F.run _ X.stack _ _ ⟨Value.ref (s.heap.objs.size+1)::us,[]⟩ (Value.ref (s.heap.objs.size+1)::(us++ds)) _ _ E (hr.make C us [])
  (I2.env0.make C us []) (hb _ (Value.ref (s.heap.objs.size+1)::us) I2.kIn hl) r2 hq) λr s' hq'=>?_))
 cases r with
 |error e=>exact hx pins U _ _ e s' I2 hq'
 |ok fl =>
  cases fl with
  |ret u =>obtain⟨v,H',I3,rv,ev,q3⟩:=I2.after hq';subst ev;exact⟨rv,⟨V.ref (s.heap.objs.size+1),H',I3,rfl,q3⟩⟩
  |next=>exact False.elim hq'
  |brk=>exact False.elim hq'
  |cont=>exact False.elim hq'
end
section
variable {X:Cx}{CX:CXT}{k:Nat}{f C:Addr}{fd:FuncData}{ps ks:List Str}{sp:Sp}{E:XK}{x m:Str}{p pos apos kpos:Pos}{e o:Expr}{es:List Expr}{kws:List Keyword}{te ta:TE}{t tk:TA}{nm:Option Str}
variable {g:List Value->List Value->List Value}{gV:List V->List V->List V}
end
structure zcC (N P:List Str)(sc:Scope):Prop where
 kind:sc.kind=.function
 co:sc.isCoroutine=false
 gen:sc.isGenerator=false
 nd:N.Nodup
 pre:N.take P.length=P
 par:∀ x∈P,sc.names.lookup x=some .local\/sc.names.lookup x=some .cell
 nofree:∀ y∈sc.names,y.2≠.free
theorem zie {kindOf:Str->Option NameKind}{x:Str}:∀ {binds:List (Str×Value)} {m:Str->Option Value},(∀ v,(x,v)∉binds)->bindL kindOf binds m x=m x
 |[],_,_=>rfl
 |(n,v)::r,m,h=>by
  unfold bindL;rw[zie λw hw=>h w (List.mem_cons_of_mem _ hw)];split
  ·have:x≠n:=by rintro rfl;exact h v List.mem_cons_self
   simp[this]
  ·rfl
theorem zif {kindOf:Str->Option NameKind}{x:Str}:∀ {binds:List (Str×Value)} {m:Str->Option Value},(∀ v,(x,v)∉binds)->bindC kindOf binds m x=m x
 |[],_,_=>rfl
 |(n,v)::r,m,h=>by
  unfold bindC;rw[zif λw hw=>h w (List.mem_cons_of_mem _ hw)];split
  ·rfl
  ·have:x≠n:=by rintro rfl;exact h v List.mem_cons_self
   simp[this]
theorem zio {kindOf:Str->Option NameKind}{x:Str}{v:Value}:∀ {P:List Str} {vs:List Value} {i:Nat} {m:Str->Option Value},P.Nodup->P[i]?=some x->vs[i]?=some v->kindOf x=some .local ->
  bindL kindOf (P.zip vs) m x=some v
 |[],_,_,_,_,h,_,_=>by simp at h
 |_::_,[],_,_,_,_,h,_=>by simp at h
 |p::P,w::vs,0,m,nd,h1,h2,hk=>by simp at h1 h2;subst h1;subst h2;show bindL kindOf ((p,w)::P.zip vs) m p=_;unfold bindL;rw[zie λv hv=>(List.nodup_cons.mp nd).1 (List.of_mem_zip hv).1,if_pos hk];simp
 |p::P,w::vs,i+1,m,nd,h1,h2,hk=>by show bindL kindOf ((p,w)::P.zip vs) m x=_;unfold bindL;exact zio (i:=i) (List.nodup_cons.mp nd).2 (by simpa using h1) (by simpa using h2) hk
theorem zil {kindOf:Str->Option NameKind}{x:Str}{v:Value}:∀ {P:List Str} {vs:List Value} {i:Nat} {m:Str->Option Value},P.Nodup->P[i]?=some x->vs[i]?=some v->kindOf x≠some .local ->
  bindC kindOf (P.zip vs) m x=some v
 |[],_,_,_,_,h,_,_=>by simp at h
 |_::_,[],_,_,_,_,h,_=>by simp at h
 |p::P,w::vs,0,m,nd,h1,h2,hk=>by simp at h1 h2;subst h1;subst h2;show bindC kindOf ((p,w)::P.zip vs) m p=_;unfold bindC;rw[zif λv hv=>(List.nodup_cons.mp nd).1 (List.of_mem_zip hv).1,if_neg hk];simp
 |p::P,w::vs,i+1,m,nd,h1,h2,hk=>by show bindC kindOf ((p,w)::P.zip vs) m x=_;unfold bindC;exact zil (i:=i) (List.nodup_cons.mp nd).2 (by simpa using h1) (by simpa using h2) hk
def start (N:List Str)(vs:List V):St:=vs.map some++List.replicate (N.length-vs.length) none
def zcI (CX:CXT)(P:Program)(w:World)(K:PySem.W.Frag)(mg:Str->Option Value)(base:Heap)(N:List Str)(qual:Str)(scope:Scope)(f:Addr)(cd:Value)(A:Around)(outer:List Env)(s:Shared)(H:Hp)(E:XK):Cx where
 prog:=P
 w:=w
 K:=K
 mg:=mg
 base:=base
 A:=A.deeper (envOfC qual scope s.heap.objs.size f cd)
 N:=N
 s₀:=s
 H₀:=H
 env:=envOfC qual scope s.heap.objs.size f cd
 outer:=outer
 stack:=envOfC qual scope s.heap.objs.size f cd::outer
 ex:=[]
 calm:=true
 fn:=λ_=>true
 pn:=[]
 xe:=λe s'=>wpAny (model P w) (A.deeper (envOfC qual scope s.heap.objs.size f cd)) (leaving (envOfC qual scope s.heap.objs.size f cd) e) (λ_ s''=>CX outer H s E e s'') (λe' s''=>CX outer H s E e' s'') s'
def zj6 {sc:Scope}{n:Nat}{x:Str}(h:sc.names.lookup x=some .cell):∃ c,(cellsFrom n sc.names []).lookup x=some c:=by have q:=PySem.W.cellsFrom_some sc.names n [] (.inl h);exact Option.isSome_iff_exists.mp q
def znz {CX:CXT}{K:PySem.W.Frag}{base:Heap}{qual:Str}{f:Addr}{cd:Value}{A:Around}{s1:Shared}{E:XK}{vs:List V}(S:zcC N ps scope)(hd:A.handled=none)(e0:zgM P w K mg base A outer s H)(hl:vs.length=ps.length)(r:Vals vs us)(x:InCallC s s.heap.objs.size (bindL (envOfC qual scope s.heap.objs.size f cd).kindOf (ps.zip us) λ_=>none) (cellsFrom (s.heap.objs.size+1) scope.names []) (bindC (envOfC qual scope s.heap.objs.size f cd).kindOf (ps.zip us) λ_=>none) s1) :
    Inv (zcI CX P w K mg base N qual scope f cd A outer s H E) [] (start N vs) H s1:=by
  have hpl:ps.length<=N.length:=by have:=congrArg List.length S.pre;rw[List.length_take]at this;lia
  obtain⟨h1,tk,rfl,hk⟩:=x.done;have noA:∀ b:Addr,b∉(zcI CX P w K mg base N qual scope f cd A outer s H E).ex:=λb z=>absurd (show b∈([]:List Addr)from z) (by simp)
  refine⟨⟨e0.mod,S.kind,rfl,rfl,Nat.le_refl _,λy z c h1 h2=>?_,λy hy=>?_,λy c _ h=>?_,λ_=>hd,Around.frames_deeper e0.frames,.inr ⟨rfl,rfl⟩,λb z=>absurd z (noA b),e0.bs,e0.bsz,λb _ _=>noA b,λb z=>absurd z (noA b),e0.funs,e0.frf⟩,
    rfl,e0.bare,Un.kept hk,⟨_,x.toInCall.ns,λi y v h1 h2 h3=>?_⟩,λy c h=>⟨_,x.cell y c h⟩,e0.hok.fresh (Nat.le_refl _),λy c h=>?_,λp hp=>absurd (show p∈([]:List (Addr×Obj))from hp) (by simp),e0.hok.kept hk,?_⟩
  . exact name_of_addr x.apart (PySem.mem_of_lookup h1) (PySem.mem_of_lookup h2)
  . have hy:scope.names.lookup y=some .cell\/scope.names.lookup y=some .free:=hy;rcases hy with hy|hy
    . exact zj6 hy
    . exact absurd rfl (S.nofree _ (PySem.mem_of_lookup hy))
  . exact Nat.le_of_lt (x.above y c (PySem.mem_of_lookup h))
  . have hi : i < vs.length := by
      unfold start at h2;by_cases hi:i<vs.length
      . exact hi
      . rw[List.getElem?_append_right (by simpa using hi)]at h2;rw[List.getElem?_replicate]at h2;split at h2<;>cases h2
    have ha:vs[i]?=some v:=by
      unfold start at h2;rw[List.getElem?_append_left (by simpa using hi),List.getElem?_map]at h2;cases e:vs[i]? with
      |none=>rw[e]at h2;cases h2
      |some a=>rw[e]at h2;cases h2;rfl
    obtain⟨u,hu,rv⟩:=r.get ha
    have hp:ps[i]?=some y:=by rw[<- S.pre,List.getElem?_take_of_lt (by lia)];exact h1
    have ndP:ps.Nodup:=by rw[<- S.pre];exact S.nd.sublist (List.take_sublist _ _)
    refine⟨u,rv,?_⟩;rcases S.par y (List.mem_of_getElem? hp)with k|k
    . exact .inl ⟨k,zio ndP hp hu k⟩
    . obtain⟨c,e⟩:=zj6 (n:=s.heap.objs.size+1) k;refine .inr ⟨.inl k,c,e,?_⟩;have q:=x.cell y c e;rw[zil ndP hp hu (by show scope.names.lookup y≠_;rw[k];decide)]at q;exact q
  . exact e0.hok.fresh (Nat.le_of_lt (x.above y c (PySem.mem_of_lookup h)))
  . unfold start;show _=N.length;rw[List.length_append,List.length_map,List.length_replicate];lia
def zpg {CX:CXT}{P:Program}{w:World}{K:PySem.W.Frag}{mg:Str->Option Value}{base:Heap}{k:Nat}{name qual:Str}{params:Arguments}{body:List Stmt}{scope:Scope}{dV kV doc pm cdv ct oc:Value}{an od:Option Addr}{osl:Array (Option Value)}{sp:Sp}(lk:K.lookup f=some ⟨oc,od,.func (PySem.W.fnOf name qual params body scope dV kV doc pm an cdv ct),osl⟩)(hcd:PySem.W.codeIn K cdv qual=true)(S:zcC N ps scope)(len:∀ vs H Q E,sp vs H Q E->vs.length=ps.length)(hbody:∀ (A:Around) (outer:List Env) (s:Shared) (H:Hp) (vs:List V) (Q:VK) (E:XK),zaB k (A.deeper (envOfC qual scope s.heap.objs.size f cdv))->sp vs H Q E ->
   ∃ t,PSs (zcI CX P w K mg base N qual scope f cdv A outer s H E) body t/\t { nx:=λ_ H'=>Q .non H',rt:=Q } (start N vs) H) :
  zQ P w K mg base CX (k+1) f (PySem.W.fnOf name qual params body scope dV kV doc pm an cdv ct) ps sp:=by
 refine⟨len,λA outer s H args us vs Q E hr e0 hb r hsp=>?_⟩;have hl:=len _ _ _ _ hsp;have KX:K.In s.heap:=e0.mod.kin.keeps λb o e=>(e0.bs b o e).1
 have lim:s.heap.NoLimit:=e0.mod.nolimit.keeps λb o e=>(e0.bs b o e).1
 have hkind:∀ y∈ps.zip us,scope.names.lookup y.1=some .local\/(scope.names.lookup y.1=some .cell/\((cellsFrom (s.heap.objs.size+1) scope.names []).lookup y.1).isSome=true):=by
  rintro⟨n,v⟩ hy;rcases S.par n (List.of_mem_zip hy).1 with q|q
  ·exact .inl q
  ·exact .inr ⟨q,PySem.W.cellsFrom_some _ _ _ (.inl q)⟩
 refine codeAny_call_function hr.depth (KX _ _ lk) rfl S.co S.gen rfl (PySem.W.codeRec_of KX hcd) (hb _ _ _ _ ?_);refine wpAny_newFunctionEnv_cells S.kind hkind λenv he s1 x=>?_
 subst he;refine⟨lim.keeps x.toInCall.keep,codeAny_func ?_⟩;obtain⟨t,ht,hq⟩:=hbody A outer s H vs Q E (hr.deeper _) hsp;have I:Inv (zcI CX P w K mg base N qual scope f cdv A outer s H E) [] (start N vs) H s1:=znz S hr.hd e0 hl r x;refine wpAny_mono (ht [] s1 (start N vs) H _ I hq) (λfl s' hs=>?_) λe s' hs=>hs
 have fin:∀ {σ':St} {H':Hp} {v:V} {u:Value},Inv (zcI CX P w K mg base N qual scope f cdv A outer s H E) [] σ' H' s'->RelV v u->Q v H'->CE outer P w H s Q u s' :=λ{σ' H' v u} J rv q=>⟨v,H',J.os,J.bare,J.base,J.hok,rv,q⟩
 cases fl with
 |ret u =>obtain⟨v,σ',H',J,rv,q⟩:=hs;exact fin J rv q
 |next =>obtain⟨σ',H',J,q⟩:=hs;exact fin (v:=V.non) (u:=Value.none) J rfl q
 |brk =>obtain⟨_,_,_,q⟩:=hs;exact False.elim q
 |cont =>obtain⟨_,_,_,q⟩:=hs;exact False.elim q
section
variable {X:Cx}{x:Str}{p pos:Pos}{e:Expr}{es:List Expr}{t:TA}{id T:String}{r:List V->Hp->VK->Prop}
def tCB (r:List V->Hp->VK->Prop)(t:TA):TE:=λU H Q=>t U H λvs H1=>r vs H1 Q
def zox (hc:zas X (.builtin id) r)(hg:Gl X x)(hm:X.mg x=none)(hv:bootBuiltins x=some (.builtin id))(ha:PA X (e::es) t)(hn:autoParam (x≠"__name__") zW)(hdb:autoParam ((x==("__debug__":Str))=false) zW)
  (he:starEach (e::es) X.env=(false,eval e X.env)::starEach es X.env:=by rfl) (hpl:(backTo pos (starEach es X.env)).any (·.1)=false:=by rfl):PE X (.Call (.Name x p) (e::es) [] pos) (tCB r t):=by
 intro pins s U H Q I h;refine wpAny_Call_Name_kw (zbB I hg hm hv ?_ hn hdb);exact PyProof.Rows.callWith_builtin1 (thn (ha pos pins s U H _ I h) λus s1 zq6=>by obtain⟨vs,H1,I1,r1,q1⟩:=zq6;exact hc pins s1 U H1 vs us Q I1 r1 q1) he hpl
def zmB (hc:zas X (.type T) r)(hg:Gl X x)(hm:X.mg x=none)(hv:bootBuiltins x=some (.type T))(ha:PA X (e::es) t)(hn:autoParam (x≠"__name__") zW)(hdb:autoParam ((x==("__debug__":Str))=false) zW)
  (he:starEach (e::es) X.env=(false,eval e X.env)::starEach es X.env:=by rfl) (hpl:(backTo pos (starEach es X.env)).any (·.1)=false:=by rfl):PE X (.Call (.Name x p) (e::es) [] pos) (tCB r t):=by
 intro pins s U H Q I h;refine wpAny_Call_Name_kw (zbB I hg hm hv ?_ hn hdb);exact PyProof.Rows.callWith_type1 (thn (ha pos pins s U H _ I h) λus s1 zq7=>by obtain⟨vs,H1,I1,r1,q1⟩:=zq7;exact hc pins s1 U H1 vs us Q I1 r1 q1) he hpl
end
end L2
namespace HT
open PySem PyProof.Rows
section
open PySem.SeqAt
open PySem.AutoSeq1 (wpAny_loadPart')
open PySem.MeetsSeq PySem.MeetsSeq2 PySem.MeetsSeq3
end
section
variable {prog:Program}{w:World}{A:Around}{E:Value->Shared->Prop}{s:Shared}
def zqj {vs ws:List Value}{Q:Value->Shared->Prop}(ht:IsTup s.heap t vs.toArray)(hb:IsTup s.heap b ws.toArray)(hv:vs≠[])(h1:ws=[]->Q (.ref t) s)(h2:ws≠[]->Q (.ref s.heap.objs.size) { s with heap:=s.heap.push { cls:=.type "tuple",data:=.seq (vs++ws).toArray } })(hsz:vs.length+ws.length<=sizeLine):wpAny (model prog w) A (binaryOp .Add (.ref t) (.ref b)) Q E s:=by
 obtain⟨⟨cls,dd,data,sl⟩,ho,hc,n,hd⟩:=id ht;obtain⟨⟨cls2,dd2,data2,sl2⟩,ho2,hc2,n2,hd2⟩:=id hb;simp only at hc hd hc2 hd2;subst hc hd hc2 hd2;have e:vs.toArray++ws.toArray=(vs++ws).toArray:=by simp
 by_cases hw:ws=[]
 ·exact concat_meets ⟨_,ho,rfl⟩ ⟨_,ho2,rfl⟩ noFill_tuple_add seq_tuple_add PySem.F.slot_tuple_add PySem.F.entry_tuple_add (PySem.F.args_tuple_add_2 _ _)
   (tuple_addW1 t b vs.toArray ws.toArray n n2 dd dd2 sl sl2 (by simpa using hv) (by simp[hw])) ⟨ho,ho2,h1 hw⟩
 ·refine concat_meets ⟨_,ho,rfl⟩ ⟨_,ho2,rfl⟩ noFill_tuple_add seq_tuple_add PySem.F.slot_tuple_add PySem.F.entry_tuple_add (PySem.F.args_tuple_add_2 _ _)
   (tuple_addW2 t b vs.toArray ws.toArray n n2 dd dd2 sl sl2 (by simpa using hv) (by simpa using hw) (by rw[List.size_toArray,List.size_toArray];exact hsz)) ⟨ho,ho2,?_⟩
  rw[e];exact h2 hw
def sIx (n d:Nat):Option Int->Nat
 |none=>d
 |some v=>if v<0 then(v+(n:Int)).toNat else min v.toNat n
def zhk (n d:Nat)(hd:d<=n)(o:Option Int):sIx n d o<=n:=by
 cases o with
 |none=>exact hd
 |some v =>
  show(if v<0 then(v+(n:Int)).toNat else min v.toNat n)<=n;by_cases hv:v<0
  ·rw[if_pos hv];lia
  ·rw[if_neg hv];exact Nat.min_le_right _ _
def zk0 (v:Int)(n d:Nat):(if v<0 then max (v+(n:Int)) 0 else min v (n:Int))=((sIx n d (some v):Nat):Int):=by
 show(if v<0 then max (v+(n:Int)) 0 else min v (n:Int))=(((if v<0 then(v+(n:Int)).toNat else min v.toNat n):Nat):Int);by_cases hv:v<0
 ·simp only[if_pos hv];lia
 ·simp only[if_neg hv];lia
def zlK (lo hi:Option Int)(n:Nat):Builtin.Slice.sliceAdjust lo hi 1 (n:Int)=(((sIx n 0 lo:Nat):Int),((sIx n n hi:Nat):Int)):=by
 have h1:¬ ((1:Int)<0):=by lia
 unfold Builtin.Slice.sliceAdjust;simp only[h1,if_false];refine Prod.ext ?_ ?_
 ·cases lo with
  |none=>rfl
  |some v=>exact zk0 v n 0
 ·cases hi with
  |none=>rfl
  |some v=>exact zk0 v n n
def zmg (i j:Nat):Builtin.Slice.slicePlaces (i:Int) (j:Int) 1=j-i:=by
  unfold Builtin.Slice.slicePlaces;have h1:(1:Int) > 0:=by lia
  simp only[h1,if_true,Int.ediv_one];split<;>lia
def zgZ {Q:Option Int->Shared->Prop}(p:IsPart v o)(h:Q o s):wpAny (model prog w) A (Builtin.Slice.slicePartIndex v) Q E s:=by
 cases p with
 |none=>exact slicePart_none h
 |int i t=>exact slicePart_int h
def zdZ {sl:Addr}{vl vu:Value}{lo:Option Int}{n:Nat}{Q:Int×Int×Nat->Shared->Prop}(hs:s.heap.IsSliceOf sl vl vu .none)(pl:IsPart vl lo)(pu:IsPart vu hi)(h:Q (((sIx n 0 lo:Nat):Int),1,sIx n n hi-sIx n 0 lo) s):wpAny (model prog w) A (Builtin.Slice.sliceApplied (.ref sl) (pure (n:Int))) Q E s:=by obtain⟨os,hos,hcs,hds⟩:=id hs;unfold Builtin.Slice.sliceApplied Builtin.Slice.sliceFields;refine wpAny_bind (wpAny_bind (wpAny_field hos hds (x:=vl) rfl (wpAny_bind (wpAny_field hos hds (x:=vu) rfl (wpAny_bind (wpAny_field hos hds (x:=.none) rfl (wpAny_pure ?_)))))));refine wpAny_bind (slicePart_none ?_);show wpAny _ _ (if((1:Int)==0)=true then _ else _) _ _ s;rw[if_neg (by decide)];refine wpAny_bind (zgZ pl (wpAny_bind (zgZ pu (wpAny_bind (wpAny_pure ?_)))));show wpAny _ _ (match Builtin.Slice.sliceAdjust lo hi 1 (n:Int)with|(lo,hi)=>pure (lo,(1:Int),Builtin.Slice.slicePlaces lo hi 1)) _ _ s;rw[zlK lo hi n];show wpAny _ _ (pure (((sIx n 0 lo:Nat):Int),(1:Int),Builtin.Slice.slicePlaces ((sIx n 0 lo:Nat):Int) ((sIx n n hi:Nat):Int) 1)) _ _ s;rw[zmg];exact wpAny_pure h
def znX (xs:Array Value)(i k:Nat):((List.range k).filterMap λ(m:Nat)=>xs[((i:Int)+(m:Int)*1).toNat]?).toArray=((xs.toList.drop i).take k).toArray:=by
 have e:(λ(m:Nat)=>xs[((i:Int)+(m:Int)*1).toNat]?)=λm=>xs[i+m]?:=by
  funext m;have:((i:Int)+(m:Int)*1).toNat=i+m:=by lia
  rw[this]
 rw[e];have:=pick_run xs i k;rw[List.filterMap_map]at this;have e2:((λx=>xs[x]?) ∘ λx=>i+x)=λm=>xs[i+m]?:=rfl
 rw[e2]at this;rw[this]
def zgm {sl:Addr}{items:Array Value}{vl vu:Value}{lo:Option Int}{Q:Value->Shared->Prop}(ht:IsTup s.heap t items)(hs:s.heap.IsSliceOf sl vl vu .none)(pl:IsPart vl lo)(pu:IsPart vu hi)(hw:¬ (sIx items.size 0 lo=0/\sIx items.size items.size hi=items.size))(h:Q (.ref s.heap.objs.size) { s with heap:=s.heap.push { cls:=.type "tuple",data:=.seq ((items.toList.drop (sIx items.size 0 lo)).take (sIx items.size items.size hi-sIx items.size 0 lo)).toArray } })(hsz:items.size<=sizeLine):wpAny (model prog w) A (getItem (.ref t) (.ref sl)) Q E s:=by
 have htake:sizeOk (.seq ((items.toList.drop (sIx items.size 0 lo)).take (sIx items.size items.size hi-sIx items.size 0 lo)).toArray):=by show((items.toList.drop (sIx items.size 0 lo)).take (sIx items.size items.size hi-sIx items.size 0 lo)).toArray.size<=sizeLine;rw[List.size_toArray,List.length_take,List.length_drop,Array.length_toList];lia
 have hj:sIx items.size items.size hi<=items.size:=zhk _ _ (Nat.le_refl _) hi;obtain⟨os,hos,hcs,hds⟩:=id hs;have hTs:s.TypeIs (.ref sl) "slice":=⟨os,hos,hcs⟩
 unfold getItem
 try with_reducible refine wpAny_holding ?_
 first|refine wpAny_bind (wpAny_pure ?_)|skip
 refine wpAny_bind (wpAny_sequenceKey ht.typeIs (by decide) ?_)
 refine wpAny_bind (wpAny_callSpecial?_slot (name:=Str.ofString "__getitem__") ht.typeIs PyProof.Rows.slot_tuple_getitem
  (wpAny_call_entry PyProof.Rows.slot_tuple_getitem ht.typeIs entry_tuple_getitem ?_ (args_tuple_getitem _ _)))
 show wpAny _ _ (Builtin.Tuple.tupleItemsOf (.ref t) >>= _) _ _ s;refine wpAny_bind (tupleItemsOf_ ht ?_);refine wpAny_bind (wpAny_typeOf hTs ?_);rw[if_pos (by decide)];refine wpAny_bind (zdZ hs pl pu ?_)
 have hno:¬ ((((sIx items.size 0 lo:Nat):Int)==0&&(1:Int)==1&&(sIx items.size items.size hi-sIx items.size 0 lo)==items.size)=true):=by intro q;rw[Bool.and_eq_true,Bool.and_eq_true]at q;have q1:((sIx items.size 0 lo:Nat):Int)=0:=eq_of_beq q.1.1;have q2:sIx items.size items.size hi-sIx items.size 0 lo=items.size:=eq_of_beq q.2;exact hw ⟨by lia,by lia⟩
 show wpAny _ _ (if(((sIx items.size 0 lo:Nat):Int)==0&&(1:Int)==1&&(sIx items.size items.size hi-sIx items.size 0 lo)==items.size)=true then _ else _) _ _ s;rw[if_neg hno,znX]
 first
  |exact wpAny_bind (m:=Builtin.Tuple.tupleExact _) (wpAny_newObj_type (wpAny_pure ⟨_,rfl,wpAny_pure h⟩) htake)
  |exact wpAny_bind (m:=Builtin.Tuple.tupleExact _) (wpAny_newObj_type (wpAny_bind (wpAny_pure (wpAny_pure ⟨_,rfl,wpAny_pure h⟩))) htake)
  |exact wpAny_bind (wpAny_bind (m:=Builtin.Tuple.tupleExact _) (wpAny_newObj_type (wpAny_pure (wpAny_pure ⟨_,rfl,wpAny_pure h⟩)) htake))
  |exact wpAny_bind (wpAny_bind (m:=Builtin.Tuple.tupleExact _) (wpAny_newObj_type (wpAny_pure ⟨_,rfl,wpAny_pure h⟩) htake))
end
end HT
namespace L2
open PySem PySem.Spec PyProof.Rows
abbrev TO:=St->Hp->(Option Int->Hp->Prop)->Prop
def PO (X:Cx)(e:Option Expr)(t:TO):Prop :=
 ∀ (pins:List (Addr×Obj)) (s:Shared) (U:St) (H:Hp) (Q:Option Int->Hp->Prop),Inv X pins U H s->t U H Q ->
  wpAny (model X.prog X.w) X.A (evalPart e X.env) (λu s'=>∃ o H',Inv X pins U H' s'/\IsPart u o/\Q o H') X.xe s
def zqP:TO:=λ_ H Q=>Q none H
def zuP (t:TE):TO:=λU H Q=>t U H λx H1=>∃ i,x=.int i/\Q (some i) H1
section
variable {X:Cx}{e:Expr}{te:TE}{lo hi:Option Expr}{tl th:TO}{pos p2:Pos}
def zpX:PO X none zqP:=by intro pins s U H Q I h;rw[evalPart_none];exact wpAny_pure ⟨none,H,I,.none,h⟩
def zqy (h:PE X e te):PO X (some e) (zuP te):=by
 intro pins s U H Q I hw;rw[evalPart_some];refine thn (h pins s U H _ I hw) λu s1 ⟨x,H1,I1,r1,q1⟩=>?_
 obtain⟨i,rfl,q⟩:=q1;obtain⟨t,rfl⟩:=r1;exact⟨some i,H1,I1,.int i t,q⟩
def SlR (X:Cx)(r:V->Option Int->Option Int->Hp->VK->Prop):Prop :=
 ∀ (pins:List (Addr×Obj)) (s:Shared) (U:St) (H:Hp) (x:V) (v vl vu:Value) (lo hi:Option Int) (sl:Addr) (Q:VK),Inv X pins U H s->RelV x v->s.heap.IsSliceOf sl vl vu .none->IsPart vl lo->IsPart vu hi->r x lo hi H Q ->
  ∃ T id,typeLookup (.type T) "__getitem__"=pure (some (.builtin id))/\s.TypeIs v T/\wpAny (model X.prog X.w) X.A (getItem v (.ref sl)) (EP X pins U Q) X.xe s
def SlR.or (h:SlR X r)(h':SlR X r'):SlR X (λx lo hi H Q=>r x lo hi H Q\/r' x lo hi H Q):=by
 intro pins s U H x v vl vu lo hi sl Q I rx hs pl pu q;rcases q with q|q
 ·exact h pins s U H x v vl vu lo hi sl Q I rx hs pl pu q
 ·exact h' pins s U H x v vl vu lo hi sl Q I rx hs pl pu q
def tSl (r:V->Option Int->Option Int->Hp->VK->Prop)(te:TE)(tl th:TO):TE:=λU H Q=>te U H λx H1=>tl U H1 λl H2=>th U H2 λu H3=>r x l u H3 Q
def zo1 (hr:SlR X r)(he:PE X e te)(hl:PO X lo tl)(hu:PO X hi th):PE X (.Subscript e (.Slice lo hi none p2) pos) (tSl r te tl th):=by
 intro pins s U H Q I h;refine Subscript_ (thn (he pins s U H _ I h) λv s1 ⟨x,H1,I1,r1,q1⟩=>?_);refine wpAny_Slice (thn (hl pins s1 U H1 _ I1 q1) λvl s2 ⟨l,H2,I2,pl,q2⟩=>thn (hu pins s2 U H2 _ I2 q2) λvu s3 ⟨u,H3,I3,pu,q3⟩=>?_);rw[evalPart_none];refine wpAny_pure ?_;have I4:Inv X pins U H3 { s3 with heap:=s3.heap.push { cls:=.type "slice",data:=.fields #[vl,vu,.none] } }:=I3.kept (t':=s3.toks) λb ob q=>Heap.get?_push_of_some _ q
 obtain⟨T,id,hT,ht,hg⟩:=hr pins { s3 with heap:=s3.heap.push { cls:=.type "slice",data:=.fields #[vl,vu,.none] } } U H3 x v vl vu l u s3.heap.objs.size Q I4 r1 (Heap.IsSliceOf.new ..) pl pu q3;show wpAny (model X.prog X.w) X.A (subscriptTail e (.Slice lo hi none p2) v (.ref s3.heap.objs.size)) (EP X pins U Q) X.xe { s3 with heap:=s3.heap.push { cls:=.type "slice",data:=.fields #[vl,vu,.none] } };exact tail_any (ops:=[.ref s3.heap.objs.size,v]) ht hT hg (by with_unfolding_all rfl)
def zfb (xs:List V)(lo hi:Option Int):List V:=(xs.drop (HT.sIx xs.length 0 lo)).take (HT.sIx xs.length xs.length hi-HT.sIx xs.length 0 lo)
def zgq (xs:List V)(lo hi:Option Int):(zfb xs lo hi).length<=xs.length:=by unfold zfb;rw[List.length_take,List.length_drop];lia
def zwC (K:PySem.W.Frag):V->Option Int->Option Int->Hp->VK->Prop:=λx lo hi H Q=>∃ a xs,x=.ref a/\SqT K H a xs /\
 ¬ (HT.sIx xs.length 0 lo=0/\HT.sIx xs.length xs.length hi=xs.length)/\∀ p,H p=none->Q (.ref p) (upd H p (.tup (zfb xs lo hi)))
def zsL:SlR X (zwC X.K):=by
 intro pins s U H x v vl vu lo hi sl Q I rx hs pl pu h;obtain⟨a,xs,rfl,hx,hw,q⟩:=h;cases rx;obtain⟨its,r,ht,hz⟩:=I.tuple hx;have hlen:its.toArray.size=xs.length:=by rw[List.size_toArray];exact r.length.symm
 refine⟨"tuple",_,PyProof.Rows.slot_tuple_getitem.lookup,ht.typeIs,?_⟩;refine HT.zgm ht hs pl pu (by rw[hlen];exact hw) ?_ (by rw[hlen];exact hz);rw[hlen];refine⟨.ref s.heap.objs.size,_,I.laid (t':=s.toks) (o:=.tup (zfb xs lo hi)) (λb ob q=>Heap.get?_push_of_some _ q) (Nat.le_refl _) ?_,rfl,q _ (I.hok.fresh (Nat.le_refl _))⟩;exact⟨Nat.le_trans (zgq xs lo hi) hz,_,(r.drop (HT.sIx xs.length 0 lo)).take (HT.sIx xs.length xs.length hi-HT.sIx xs.length 0 lo),IsTup.new _ _⟩
def ztO (K:PySem.W.Frag):R2:=λx y H Q=>∃ a b xs ys,x=.ref a/\y=.ref b/\SqT K H a xs/\SqT K H b ys/\xs≠[]/\xs.length+ys.length<=sizeLine /\
 (ys=[]->Q (.ref a) H)/\(ys≠[]->∀ p,H p=none->Q (.ref p) (upd H p (.tup (xs++ys))))
def Vals.nil_iff (r:Vals xs us):us=[]↔xs=[]:=by
 cases r with
 |nil=>simp
 |cons _ _=>simp
def zqW:OpR X (binaryOp .Add) (ztO X.K):=by intro pins s U H x y v u Q I rx ry h;obtain⟨a,b,xs,ys,rfl,rfl,ha,hb,hx,hz,q1,q2⟩:=h;cases rx;cases ry;obtain⟨its,r1,p1,_⟩:=I.tuple ha;obtain⟨its2,r2,p2,_⟩:=I.tuple hb;refine HT.zqj p1 p2 (λz=>hx (r1.nil_iff.mp z)) (λz=>⟨.ref a,H,I,rfl,q1 (r2.nil_iff.mp z)⟩) (λz=>?_) (by rw[<- r1.length,<- r2.length];exact hz);refine⟨.ref s.heap.objs.size,_,I.laid (t':=s.toks) (o:=.tup (xs++ys)) (λb ob q=>Heap.get?_push_of_some _ q) (Nat.le_refl _) ?_,rfl,q2 (λw=>z (r2.nil_iff.mpr w)) _ (I.hok.fresh (Nat.le_refl _))⟩;exact⟨by rw[List.length_append];exact hz,_,r1.append r2,IsTup.new _ _⟩
end
def ixN (n:Nat)(i:Int):Option Nat:=if 0<=i then(if i<n then some i.toNat else none)else if -(n:Int)<=i then some (i+n).toNat else none
def atI (xs:List α)(i:Int):Option α:=(ixN xs.length i).bind λj=>xs[j]?
def zkY {n:Nat}{i:Int}{j:Nat}(h:ixN n i=some j):seqIndex? i n=some j/\j<n/\-(n:Int)<=i/\i<n:=by
 unfold ixN at h;by_cases h0:0<=i
 ·rw[if_pos h0]at h;by_cases h1:i<n
  ·rw[if_pos h1]at h;have e:i.toNat=j:=Option.some.inj h;exact⟨by rw[seqIndex_of h0 h1,e],by lia,by lia,h1⟩
  ·rw[if_neg h1]at h;cases h
 ·rw[if_neg h0]at h;by_cases h1:-(n:Int)<=i
  ·rw[if_pos h1]at h;have e:(i+n).toNat=j:=Option.some.inj h;exact⟨by rw[seqIndex_neg (by lia) h1,e],by lia,h1,by lia⟩
  ·rw[if_neg h1]at h;cases h
def zh5 {α:Type}{xs:List α}{i:Int}{v:α}(h:atI xs i=some v):∃ j,seqIndex? i xs.length=some j/\xs[j]?=some v/\j<xs.length/\-(xs.length:Int)<=i/\i<xs.length:=by
 unfold atI at h;cases e:ixN xs.length i with
 |none=>rw[e]at h;cases h
 |some j =>rw[e]at h;obtain⟨h1,h2,h3,h4⟩:=zkY e;exact⟨j,h1,h,h2,h3,h4⟩
def zkG (b:Expr):=∀ o i,subscripted b false o i=operate [o,i] (getItem o i)
def IxR (X:Cx)(r:R2):Prop :=
 ∀ (value slice:Expr) (pins:List (Addr×Obj)) (s:Shared) (U:St) (H:Hp) (x y:V) (v u:Value) (Q:VK),Inv X pins U H s->RelV x v->RelV y u->r x y H Q ->
  subscripted slice false v u=operate [v,u] (getItem v u)->wpAny (model X.prog X.w) X.A (subscriptTail value slice v u) (EP X pins U Q) X.xe s
def MtR (X:Cx)(id:String)(r:V->List V->Hp->VK->Prop):Prop :=
 ∀ (pins:List (Addr×Obj)) (s:Shared) (U:St) (H:Hp) (x:V) (xs:List V) (v:Value) (us:List Value) (Q:VK),Inv X pins U H s->RelV x v->Vals xs us->r x xs H Q ->
  wpAny (model X.prog X.w) X.A (call (.builtin id) (v::us)) (EP X pins U Q) X.xe s
section
variable {X:Cx}{a b:Expr}{ta tb:TE}{pos:Pos}
def IxR.or (h:IxR X r)(h':IxR X r'):IxR X (λx y H Q=>r x y H Q\/r' x y H Q):=by
 intro value slice pins s U H x y v u Q I rx ry q hs;rcases q with q|q
 ·exact h value slice pins s U H x y v u Q I rx ry q hs
 ·exact h' value slice pins s U H x y v u Q I rx ry q hs
def zt2 (hr:IxR X r)(ha:PE X a ta)(hb:PE X b tb)(hs:zkG b):PE X (.Subscript a b pos) (tOp r ta tb):=by intro pins s U H Q I h;exact Subscript_ (zoT ha hb I h λv u s2 x y H2 I2 rx ry q=>hr a b pins s2 U H2 x y v u Q I2 rx ry q (hs _ _))
def zww (K:PySem.W.Frag):R2:=λx y H Q=>∃ p xs i v,x=.ref p/\y=.int i/\SqL K H p xs/\atI xs i=some v/\Q v H
def zwl (K:PySem.W.Frag):R2:=λx y H Q=>∃ p xs i v,x=.ref p/\y=.int i/\SqT K H p xs/\atI xs i=some v/\Q v H
def zvH:R2:=λx y H Q=>∃ z i c,x=.str z/\y=.int i/\z.length<=sizeLine/\atI z.cps.toList i=some c/\Q (.str ⟨#[c]⟩) H
def zqA:IxR X (zww X.K):=by
  intro value slice pins s U H x y v u Q I rx ry h hs;obtain⟨p,xs,i,z,rfl,rfl,hq,he,q⟩:=h;cases rx;obtain⟨t,rfl⟩:=ry;obtain⟨its,r,pl,hz⟩:=I.list hq;obtain⟨j,h1,h2,h3,h4,h5⟩:=zh5 he;obtain⟨w,ew,rw'⟩:=r.get h2;have hl:=r.length;have hn:=zeI;have fin:EP X pins U Q w s:=⟨z,H,I,rw',q⟩
  by_cases h0:0<=i
  . have hj : i.toNat = j := by
      rw[seqIndex_of h0 h5]at h1;exact Option.some.inj h1
    exact item_listR pl.isList h0 (by lia) (by rw[hj];simpa using ew) fin hs
  . have hj : (i + (its.toArray.size : Int)).toNat = j := by
      rw[seqIndex_neg (by lia) h4]at h1;rw[List.size_toArray,<- hl];exact Option.some.inj h1
    exact subscriptTail_builtinR (x:=w) pl.isList.typeIs slot_list_getitem.lookup
      (wpAny_getItem_list_neg (Q:=λr s'=>r=w/\EP X pins U Q r s') pl.isList (by lia) (by rw[List.size_toArray]<;>lia) (by lia) (by rw[hj];simpa using ew) ⟨rfl,fin⟩) hs
def zsr:IxR X (zwl X.K):=by
 intro value slice pins s U H x y v u Q I rx ry h hs;obtain⟨p,xs,i,z,rfl,rfl,hq,he,q⟩:=h;cases rx;obtain⟨t,rfl⟩:=ry;obtain⟨its,r,pl,hz⟩:=I.tuple hq;obtain⟨j,h1,h2,h3,h4,h5⟩:=zh5 he;obtain⟨w,ew,rw'⟩:=r.get h2;have hl:=r.length;have hn:=zeI;have fin:EP X pins U Q w s:=⟨z,H,I,rw',q⟩
 exact subscriptTail_builtinR (x:=w) pl.typeIs slot_tuple_getitem.lookup
  (getItem_tuple (j:=j) (Q:=λr s'=>r=w/\EP X pins U Q r s') pl (by lia) (by lia) (by rw[List.size_toArray,<- hl];exact h1) (by simpa using ew) ⟨rfl,fin⟩) hs
def ztc:IxR X zvH:=by
 intro value slice pins s U H x y v u Q I rx ry h hs;obtain⟨z,i,c,rfl,rfl,hz,he,q⟩:=h;obtain⟨t,rfl⟩:=rx;obtain⟨t',rfl⟩:=ry;obtain⟨j,h1,h2,h3,h4,h5⟩:=zh5 he;have hl:z.cps.toList.length=z.length:=by simp[Str.length]
 rw[hl]at h1 h4 h5;have hn:=zeI
 exact tail_any (typeIs_str s z t) slot_str_getitem.lookup (getItem_str (c:=c) (by have e1:decide (i < -(2 ^ 63:Int))=false:=decide_eq_false (by lia);have e2:decide (i ≥ 2 ^ 63)=false:=decide_eq_false (by lia);rw[e1,e2,Bool.or_false]) (by rw[h1];simpa using h2) ⟨.str ⟨#[c]⟩,H,I.tok _,⟨_,rfl⟩,q⟩) hs
def zlD (its:List Value)(n j:Nat)(u:Value):Obj.mapSeq (·.setIfInBounds j u) { cls:=.type "list",data:=.seq its.toArray n }={ cls:=.type "list",data:=.seq (its.set j u).toArray n }:=by simp[Obj.mapSeq]
theorem Inv.lst {xs:List V}(I:Inv X pins U H s)(h:H p=some (.lst xs)) :
  ∃ (its:List Value) (n:Nat),Vals xs its/\s.heap.get? p=some { cls:=.type "list",data:=.seq its.toArray n }/\xs.length<=sizeLine:=by
 obtain⟨z,its,n,r,e⟩:=I.hok p _ h;exact⟨its,n,r,e,z⟩
def Inv.lstUpd {xs:List V}{its its':List Value}{n n':Nat}{f:Obj->Obj}(I:Inv X pins U H s)(h:H p=some (.lst xs))(ho:s.heap.get? p=some { cls:=.type "list",data:=.seq its.toArray n })(hf:f { cls:=.type "list",data:=.seq its.toArray n }={ cls:=.type "list",data:=.seq its'.toArray n' })(r:Vals ys its')(hz:ys.length<=sizeLine)(t:Nat) :
    Inv X pins U (upd H p (.lst ys)) { s with heap:=s.heap.update p f,toks:=t }:=by
  have e:(s.heap.update p f).get? p=some { cls:=.type "list",data:=.seq its'.toArray n' }:=by rw[Heap.get?_update_self f ho (by rw[hf]<;>rfl),hf]
  refine I.write (x:=p) (e:=p) (by rw[h];trivial) (.inl rfl) (λb u hb q=>(Heap.get?_update_other _ _ (Ne.symm hb)).trans q) ⟨_,e⟩ ?_;exact⟨hz,its',n',r,e⟩
def ztP:V->V->V->Hp->(Hp->Prop)->Prop:=λo i v H Q=>∃ p xs k j,o=.ref p/\i=.int k/\H p=some (.lst xs)/\ixN xs.length k=some j/\Q (upd H p (.lst (xs.set j v)))
def set_list:zsp X ztP:=by
 intro pins s U H o i v ov iv u Q I ro ri rv h;obtain⟨p,xs,k,j,rfl,rfl,hp,hj,q⟩:=h;cases ro;obtain⟨t,rfl⟩:=ri;obtain⟨its,n,r,ho,hz⟩:=I.lst hp;obtain⟨h1,h2,h3,h4⟩:=zkY hj;have hl:=r.length;have hn:=zeI
 have I':Inv X pins U (upd H p (.lst (xs.set j v))) { s with heap:=s.heap.update p (Obj.mapSeq (·.setIfInBounds j u)) } :=I.lstUpd hp ho (zlD its n j u) (r.set rv j) (by rw[List.length_set];exact hz) s.toks
 by_cases h0:0<=k
 ·have hk:k.toNat=j:=by
   rw[seqIndex_of h0 h4]at h1;exact Option.some.inj h1
  exact PySem.W.ki_setAt ho h0 (by lia) (by rw[List.size_toArray,<- hl];exact h4) (by rw[hk];exact⟨_,I',q⟩)
 ·have hk:(k+(its.toArray.size:Int)).toNat=j:=by
   rw[seqIndex_neg (by lia) h3]at h1;rw[List.size_toArray,<- hl];exact Option.some.inj h1
  exact PySem.W.ki_setBack ho (by lia) (by rw[List.size_toArray,<- hl];exact h3) (by lia) (by rw[hk];exact⟨_,I',q⟩)
def zkf (lo hi:Option Int)(n:Nat):(sliceBounds lo hi none n).1=((HT.sIx n 0 lo:Nat):Int)/\(sliceBounds lo hi none n).2.1=((HT.sIx n n hi:Nat):Int)/\(sliceBounds lo hi none n).2.2=1:=by
  refine⟨?_,?_,rfl⟩
  . cases lo with
    |none=>simp[sliceBounds,HT.sIx]
    |some i =>
      simp only[sliceBounds,HT.sIx,Option.getD_none,show(1:Int) > 0 by decide,if_true];by_cases h:i<0
      . simp only[h,if_true]<;>lia
      . simp only[h,if_false]<;>lia
  . cases hi with
    |none=>simp[sliceBounds,HT.sIx]
    |some i =>
      simp only[sliceBounds,HT.sIx,Option.getD_none,show(1:Int) > 0 by decide,if_true];by_cases h:i<0
      . simp only[h,if_true]<;>lia
      . simp only[h,if_false]<;>lia
def ziJ (its:List Value)(lo hi:Option Int):slicePick its.toArray lo hi none=((its.drop (HT.sIx its.length 0 lo)).take (HT.sIx its.length its.length hi-HT.sIx its.length 0 lo)).toArray:=by obtain⟨h1,h2,h3⟩:=zkf lo hi its.toArray.size;unfold slicePick;rw[h1,h2,h3];simp only[sliceRange_one,pick_run,List.size_toArray]<;>rfl
def zwH (K:PySem.W.Frag):V->Option Int->Option Int->Hp->VK->Prop:=λx lo hi H Q=>∃ a xs,x=.ref a/\SqL K H a xs/\∀ p,H p=none->Q (.ref p) (upd H p (.lst (zfb xs lo hi)))
def zp4:SlR X (zwH X.K):=by intro pins s U H x v vl vu lo hi sl Q I rx hs pl pu h;obtain⟨a,xs,rfl,hx,q⟩:=h;cases rx;obtain⟨its,r,ht,hz⟩:=I.list hx;have hlen:=r.length;refine⟨"list",_,slot_list_getitem.lookup,ht.isList.typeIs,?_⟩;refine wpAny_getItem_list_slice ht.isList hs pl pu .none (by simp) ?_ (by rw[List.size_toArray]<;>lia);rw[ziJ,<- hlen];refine⟨.ref s.heap.objs.size,_,I.laid (t':=s.toks) (o:=.lst (zfb xs lo hi)) (λb ob q=>Heap.get?_push_of_some _ q) (Nat.le_refl _) ?_,rfl,q _ (I.hok.fresh (Nat.le_refl _))⟩;exact⟨Nat.le_trans (zgq xs lo hi) hz,_,0,(r.drop (HT.sIx xs.length 0 lo)).take (HT.sIx xs.length xs.length hi-HT.sIx xs.length 0 lo),Heap.get?_push_size _ rfl⟩
def zj7:zas X (.builtin "len") (λxs H Q=>∃ p ys,xs=[.ref p]/\(SqL X.K H p ys\/SqT X.K H p ys)/\Q (.int ys.length) H):=by
  intro pins s U H xs us Q I r h;obtain⟨p,ys,rfl,hq,q⟩:=h;obtain⟨u,rfl,rx⟩:=vals1 r;cases rx;have hn:=zeI;rcases hq with hq|hq
  . obtain⟨its,r',pl,hz⟩:=I.list hq;have hlen:=r'.length;exact Calls.call_len_list pl.isList (by simp only[List.size_toArray]<;>lia) ⟨.int ys.length,H,I.tok _,⟨s.toks+1,by rw[List.size_toArray,hlen]⟩,q⟩
  . obtain⟨its,r',pl,hz⟩:=I.tuple hq;have hlen:=r'.length;exact len_tuple pl (by simp only[List.size_toArray]<;>lia) ⟨.int ys.length,H,I.tok _,⟨s.toks+1,by rw[List.size_toArray,hlen]⟩,q⟩
def zi4:zas X (.builtin "len") (λxs H Q=>∃ z,xs=[.str z]/\z.length<=sizeLine/\Q (.int z.length) H):=by intro pins s U H xs us Q I r h;obtain⟨z,rfl,hz,q⟩:=h;obtain⟨u,rfl,t,rfl⟩:=vals1 r;have hn:=zeI;exact len_str (by lia) ⟨.int z.length,H,I.tok _,⟨_,rfl⟩,q⟩
def zas.or (h:zas X f r)(h':zas X f r'):zas X f (λxs H Q=>r xs H Q\/r' xs H Q):=by
 intro pins s U H xs us Q I rs q;rcases q with q|q
 ·exact h pins s U H xs us Q I rs q
 ·exact h' pins s U H xs us Q I rs q
def zjZ:zas X (.type "list") (λxs H Q=>∃ p ys,xs=[.ref p]/\(SqL X.K H p ys\/SqT X.K H p ys)/\∀ l,H l=none->Q (.ref l) (upd H l (.lst ys))):=by
  intro pins s U H xs us Q I r h;obtain⟨p,ys,rfl,hq,q⟩:=h;obtain⟨u,rfl,rx⟩:=vals1 r;cases rx
  have fin : ∀ (its : List Value), Vals ys its → ys.length ≤ sizeLine → ∀ (h' : Heap) (c' : Nat), (∀ b o', s.heap.get? b = some o' → h'.get? b = some o') →
      h'.get? s.heap.objs.size=some { cls:=.type "list",dict:=none,data:=.seq its.toArray c',slots:=#[] }->EP X pins U Q (.ref s.heap.objs.size) { s with heap:=h' }:=λits r' hz h' c' kp e =>
    ⟨.ref s.heap.objs.size,_,I.laid (t':=s.toks) kp (Nat.le_refl _) (show zaQ X.prog X.w _ h' _ (.lst ys)from ⟨hz,its,c',r',e⟩),rfl,q _ (I.hok.fresh (Nat.le_refl _))⟩
  rcases hq with hq|hq
  . obtain⟨its,r',pl,hz⟩:=I.list hq;have hlen:=r'.length;obtain⟨o,ho,hc,n,hd⟩:=pl.isList;exact call_list_seq p (.inl rfl) ho hc hd (λh' c' kp e=>fin its r' hz h' c' kp e) (by simp only[List.size_toArray]<;>lia)
  . obtain⟨its,r',pl,hz⟩:=I.tuple hq;have hlen:=r'.length;obtain⟨o,ho,hc,n,hd⟩:=pl;exact call_list_seq p (.inr rfl) ho hc hd (λh' c' kp e=>fin its r' hz h' c' kp e) (by simp only[List.size_toArray]<;>lia)
def ziD:zas X (.type "tuple") (λxs H Q=>∃ p ys,xs=[.ref p]/\((SqL X.K H p ys/\∀ l,H l=none->Q (.ref l) (upd H l (.tup ys)))\/(SqT X.K H p ys/\Q (.ref p) H))):=by
  intro pins s U H xs us Q I r h;obtain⟨p,ys,rfl,h⟩:=h;obtain⟨u,rfl,rx⟩:=vals1 r;cases rx;rcases h with⟨hq,q⟩|⟨hq,q⟩
  . obtain⟨its,r',pl,hz⟩:=I.list hq;have hlen:=r'.length;refine call_tuple_list pl.isList (λh' kp=>?_) (by simp only[List.size_toArray]<;>lia);have I1:Inv X pins U H { s with heap:=h' }:=I.kept (t':=s.toks) kp
    have I2:Inv X pins U (upd H h'.objs.size (.tup ys)) { s with heap:=h'.push { cls:=.type "tuple",data:=.seq its.toArray } } :=I1.laid (t':=s.toks) (λb o e=>Heap.get?_push_of_some _ e) (Nat.le_refl _) (show zaQ X.prog X.w _ _ _ (.tup ys)from ⟨hz,its,r',IsTup.new _ _⟩)
    exact⟨.ref h'.objs.size,_,I2,rfl,q _ (I1.hok.fresh (Nat.le_refl _))⟩
  . obtain⟨its,r',pl,hz⟩:=I.tuple hq;exact call_tuple_same pl ⟨.ref p,H,I,rfl,q⟩
def tyV (K:PySem.W.Frag)(T:String)(x:V)(H:Hp):Prop:=match x with
 | .str _=>T="str"
 | .int _=>T="int"
 | .ref p=>(T="list"/\∃ xs,SqL K H p xs)\/(T="tuple"/\∃ o,K.lookup p=some o/\o.cls=.type "tuple"/\o.dict=none) \/
   (T="dict"/\((∃ kvs,H p=some (.dK kvs))\/∃ kvs,H p=some (.dT kvs)))\/(T="set"/\∃ S n,H p=some (.set S n))
 |_=>False
def zrN {T:String}(I:Inv X pins U H s)(r:RelV x v)(ty:tyV X.K T x H) :
  s.TypeIs v T/\∀ a,v=.ref a->∃ ob,s.heap.get? a=some ob/\ob.dict=none:=by
 cases x with
 |str z =>obtain⟨t,rfl⟩:=r;cases(show T="str" from ty);exact⟨typeIs_str s z t,λ_ e=>nomatch e⟩
 |int i =>obtain⟨t,rfl⟩:=r;cases(show T="int" from ty);exact⟨typeIs_int s i t,λ_ e=>nomatch e⟩
 |ref p =>
  cases r;rcases ty with⟨rfl,xs,hq⟩|⟨rfl,o,hk,hc,hd⟩|⟨rfl,hk⟩|⟨rfl,S,n,hk⟩
  ·obtain⟨its,_,pl,_⟩:=I.list hq;refine⟨pl.isList.typeIs,λa e=>?_⟩;cases e;obtain⟨o,n,e,c,hd,_⟩:=pl;exact⟨o,e,hd⟩
  ·refine⟨⟨o,I.kIn p o hk,hc⟩,λa e=>?_⟩;cases e;exact⟨o,I.kIn _ o hk,hd⟩
  ·have z:∃ o,s.heap.get? p=some o/\o.ExactDict:=by
    rcases hk with⟨kvs,hk⟩|⟨kvs,hk⟩
    ·obtain⟨_,_,_,_,o,_,_,e,ex,_⟩:=I.hok p _ hk;exact⟨o,e,ex⟩
    ·obtain⟨_,_,_,_,o,_,_,e,ex,_⟩:=I.hok p _ hk;exact⟨o,e,ex⟩
   obtain⟨o,e,ex⟩:=z;refine⟨⟨o,e,ex.1⟩,λa e2=>?_⟩;cases e2;exact⟨o,e,ex.2.1⟩
  ·obtain⟨o,_,_,_,e,ex,_⟩:=I.hok p _ hk;refine⟨⟨o,e,ex.1⟩,λa e2=>?_⟩;cases e2;exact⟨o,e,ex.2.1⟩
 |_=>exact False.elim ty
def tBM (K:PySem.W.Frag)(T:String)(r:V->List V->Hp->VK->Prop)(to:TE)(t:TA):TE:=λU H Q=>to U H λx H1=>tyV K T x H1/\t U H1 λxs H2=>r x xs H2 Q
variable {o e:Expr}{es:List Expr}{to:TE}{t:TA}{name:Str}{apos cpos:Pos}{T id:String}{r:V->List V->Hp->VK->Prop}
def ztH (pa:PlainAttrs T)(slot:Slot T name id)(hty:typeOf (.builtin id)=pure (.type "method_descriptor"))(hm:MtR X id r)(ho:PE X o to)(ha:PA X (e::es) t)
    (hbase:attributeBase o name X.env (eval o X.env)=eval o X.env:=by rfl)
    (hfew:((backTo cpos (starEach (e::es) X.env)).all (λx=>!x.1)&&(backToKw cpos (keywordEach [] X.env)).all (λx=>x.1.isSome)
     &&decide ((e::es).length+([]:List Keyword).length+(if([]:List Keyword).isEmpty then 0 else 1)<30))=true:=by rfl)
    (hline:(apos.endLine==cpos.line)=true:=by rfl) (hs:starEach (e::es) X.env=(false,eval e X.env)::starEach es X.env:=by rfl) (hplain:(backTo cpos (starEach es X.env)).any (·.1)=false:=by rfl) :
    PE X (.Call (.Attribute o name apos) (e::es) [] cpos) (tBM X.K T r to t):=by
  intro pins s U H Q I h;refine wpAny_Call_method_late hbase hfew hline rfl (thn (ho pins s U H _ I h) λv s1 ⟨x,H1,I1,r1,ty,q1⟩=>?_);obtain⟨h1,h2⟩:=zrN I1 r1 ty;refine⟨T,id,pa,slot,hty,h1,h2,?_⟩;have hA:=ha cpos pins s1 U H1 _ I1 q1;rw[hs]at hA ⊢;refine Calls.callWith_builtin (by show(false||(backTo cpos (starEach es X.env)).any (·.1))=false;rw[hplain]<;>rfl) (Calls.evalArgs_plain ?_);exact thn hA λus s2 zq8=>by obtain⟨vs,H2,I2,r2,q2⟩:=zq8;exact hm pins s2 U H2 x vs v us Q I2 r1 r2 q2
/- xs.append(e),list.index on a module's tuple .. are MtR facts of 06m -/
end
def MtM (X:Cx)(id:String)(r:V->List V->Hp->VK->Prop):Prop :=
 ∀ (pins:List (Addr×Obj)) (s:Shared) (U:St) (H:Hp) (x:V) (xs:List V) (v:Value) (us:List Value) (Q:VK),Inv X pins U H s->RelV x v->Vals xs us->r x xs H Q ->
  wpAny (model X.prog X.w) X.A (call (.builtin id) (v::us)) (EP X pins U Q) X.xe s
theorem Vals.one:∀ {x:V} {us:List Value},Vals [x] us->∃ u,us=[u]/\RelV x u
 |_,_,.cons r .nil=>⟨_,rfl,r⟩
section
variable {X:Cx}{pins:List (Addr×Obj)}{U:St}{H:Hp}{s:Shared}{l b:Addr}{xs ys zs:List V}
def Inv.lset {its its':List Value}{n:Nat}{f:Array Value->Array Value}{t':Nat}(I:Inv X pins U H s)(hH:H l=some (.lst xs))
  (e:s.heap.get? l=some { cls:=.type "list",data:=.seq its.toArray n }) (hf:f its.toArray=its'.toArray) (hv:Vals ys its') (hz:ys.length<=sizeLine) :
  Inv X pins U (upd H l (.lst ys)) { s with heap:=s.heap.update l (Obj.mapSeq f),toks:=t' }:=by
 have q:=PySem.IsL.update e f;rw[hf]at q;refine I.write (x:=l) (e:=l) (by rw[hH];exact trivial) (.inl rfl) (λb' u hb hu=>(Heap.get?_update_other s.heap (Obj.mapSeq f) (Ne.symm hb)).trans hu) ⟨_,q⟩ ?_;exact⟨hz,its',_,hv,q⟩
def Inv.lnew {t':Nat}(I:Inv X pins U H s)(hv:Vals ys its)(hz:ys.length<=sizeLine) :
  Inv X pins U (upd H s.heap.objs.size (.lst ys)) { s with heap:=s.heap.push { cls:=.type "list",data:=.seq its.toArray },toks:=t' } :=
 I.laid (λ_ _ q=>Heap.get?_push_of_some _ q) (Nat.le_refl _) ⟨hz,its,0,hv,Heap.get?_push_size _ rfl⟩
theorem Inv.fresh (I:Inv X pins U H s):H s.heap.objs.size=none:=I.hok.fresh (Nat.le_refl _)
def Inv.lstM (I:Inv X pins U H s)(hH:H l=some (.lst xs)):xs.length<=sizeLine/\∃ (its:List Value) (n:Nat),Vals xs its/\xs.length=its.length/\s.heap.get? l=some { cls:=.type "list",data:=.seq its.toArray n }:=by obtain⟨z,its,n,r,e⟩:=I.hok l _ hH;exact⟨z,its,n,r,r.length,e⟩
def zi7 {n:Nat}(h:n<=sizeLine):Builtin.List.listTooLong n=false:=by unfold Builtin.List.listTooLong;exact decide_eq_false (by lia)
end
section
variable {X:Cx}
def zkx:V->List V->Hp->VK->Prop:=λx vs H Q=>∃ l xs y,x=.ref l/\vs=[y]/\H l=some (.lst xs)/\xs.length<sizeLine/\Q .non (upd H l (.lst (xs++[y])))
def zin:MtM X "list.append" zkx:=by intro pins s U H x vs v us Q I rx rv h;obtain⟨l,xs,y,rfl,rfl,hH,hz,q⟩:=h;cases rx;obtain⟨u,rfl,ru⟩:=rv.one;obtain⟨z,its,n,r,hl,e⟩:=I.lstM hH;refine call_meets F.slot_list_append ⟨_,e,rfl⟩ F.entry_list_append (F.args_list_append_2 _ _) (PySem.list_append l its.toArray n u (by rw[List.size_toArray];lia)) ⟨e,?_⟩;refine⟨.non,_,I.lset (its':=its++[u]) hH e (by simp) (r.append (.cons ru .nil)) ?_,rfl,q⟩;rw[List.length_append,List.length_singleton];lia
def zk3:V->List V->Hp->VK->Prop:=λx vs H Q=>∃ l b xs zs,x=.ref l/\vs=[.ref b]/\H l=some (.lst xs)/\H b=some (.lst zs)/\xs.length+zs.length<=sizeLine/\Q .non (upd H l (.lst (xs++zs)))
def zno:MtM X "list.extend" zk3:=by
 intro pins s U H x vs v us Q I rx rv h;obtain⟨l,b,xs,zs,rfl,rfl,hH,hB,hz,q⟩:=h;cases rx;obtain⟨u,rfl,ru⟩:=rv.one;cases ru;obtain⟨z,its,n,r,hl,e⟩:=I.lstM hH;obtain⟨z2,its2,n2,r2,hl2,e2⟩:=I.lstM hB;have hsz:its.toArray.size+its2.toArray.size<=sizeLine:=by rw[List.size_toArray,List.size_toArray];lia
 have hlong:¬ (!its.toArray.isEmpty&&Builtin.List.listTooLong (its.toArray.size+its2.toArray.size))=true:=by rw[zi7 hsz,Bool.and_false];exact Bool.false_ne_true
 refine call_meets F.slot_list_extend ⟨_,e,rfl⟩ F.entry_list_extend (F.args_list_extend_2 _ _)
  (AutoSeq1.list_extend_list_list_0 l its.toArray n b its2.toArray n2 hlong (by rw[List.size_toArray];lia) (by lia)) ⟨e,e2,?_⟩
 refine⟨.non,_,I.lset (its':=its++its2) hH e (by simp) (r.append r2) ?_,rfl,q⟩;rw[List.length_append];lia
end
section
variable {prog:Program}{w:World}{A:Around}{E:Value->Shared->Prop}{s:Shared}
end
section
variable {X:Cx}
end
end L2
namespace Att
open PySem PySem.W PySem.Calls PyProof.Rows
def zhq {P:Params}{h:Heap}:∀ (ns:List Int) (vs:List Value),WellAll P h vs (ns.map WData.int)->IntsAre vs ns:=by
 intro ns
 induction ns with
 |nil =>intro vs w;rw[List.map_nil]at w;cases w;exact .nil
 |cons n ns ih =>
  intro vs w;rw[List.map_cons]at w;cases w with
  |cons a b =>cases a;exact .cons _ _ (ih _ b)
def zmr {l:OpenLaw}{n:Nat}(hn:l.most=some n){args:List WData}(hpre:l.row.toRowW.claim.pre args=true)(hwl:WellAll P h vals args) :
  ∃ a vs ns,vals=[Value.ref a]/\args=[WData.list (ns.map WData.int)]/\h.get? a=some { cls:=.type "list",data:=.seq vs.toArray }/\IntsAre vs ns/\ns.length<=n:=by
 have hsh:WShape.hasAll [] args [.list .int]=true:=(pre_splitW hpre).1;have hc:l.pre.holds [] { args:=args }=true:=(pre_splitW hpre).2;obtain⟨d,r,rfl,h1,h2⟩:=hasAllW_cons hsh;obtain rfl:=hasAllW_nil h2;obtain⟨xs,rfl,h3⟩:=hasW_list h1;obtain⟨ns,rfl⟩:=items_int h3
 have hlen:ns.length<=n:=by
  unfold OpenLaw.pre at hc
  have h4:(WTm.not (.lt (.lit (.int (n:Int))) (.len (.arg 0)))).holds [] { args:=[.list (ns.map .int)] }=true:=by have h4:=(holds_andW hc).1;rw[hn]at h4;exact h4
  have h5:=condW_of h4 (w_not (w_lt w_lit (w_len_list (w_arg rfl))));rw[List.length_map]at h5;refine Nat.le_of_not_lt λq=>?_
  have q':(n:Int)<((ns.length:Nat):Int):=by lia
  first
   |(rw[decide_eq_true q']at h5;exact absurd h5 (by decide))
   |(simp at h5;lia)
 cases hwl with
 |cons w1 w2 =>
  cases w2;cases w1 with
  |list ho hall=>exact⟨_,_,ns,rfl,rfl,ho,zhq ns _ hall,hlen⟩
def zny (l:OpenLaw)(args:List WData):l.row.toRowW.claim.post args (.bool true) args=true :=
 postW_of (r:=l.row.toRowW) (X:=(true==true))
  (show WShape.has [] (.bool true) .bool=true by first|rfl|decide|simp[WShape.has,WShape.arms,WShape.armsAll])
  (show(WTm.eq .res (.lit (.bool true))).value [] { args:=args,res:=some (.bool true),after:=args }=some (.bool (true==true))from w_eq_bool (w_res rfl) w_lit) rfl
section
variable {prog:Program}{w:World}{A:Around}{E:Value->Shared->Prop}{s:Shared}{K:Frag}
end
end Att
namespace L2
open PySem PySem.Spec PyProof.Rows
theorem ziz:∀ {vs:List Value} {ns:List Int},IntsAre vs ns->Vals (ns.map V.int) vs
 |_,_,.nil=>.nil
 |_,_,.cons n t h=>.cons ⟨t,rfl⟩ (ziz h)
def Only (H:Hp):=∀ b,H b=none\/∃ o xs,H b=some (.frz o (.lst xs))
def zoh {P:Program}{w:World}{K:PySem.W.Frag}{mg mb:Str->Option Value}{CX:CXT}{fa a:Addr}{fd:FuncData}{x:Str}{sp:Sp}{s₁:Shared}{vs:List Value}(KX:K.In s₁.heap)(hns:s₁.heap.Ns mainGlobals mg)(hb:s₁.heap.Ns builtinsNs mb)(hbb:∀ x:Str,x≠"__name__"->mb x=bootBuiltins x)(hlim:s₁.heap.NoLimit)(hg:s₁.gens=#[])(ha:s₁.heap.get? a=some { cls:=.type "list",data:=.seq vs.toArray })(hi:IntsAre vs ns)(hl:ns.length<=sizeLine)(hr:zaB k callerA)(F:∀ base:Heap,K.In base->base.Ns mainGlobals mg->zQ P w K mg base CX k fa fd [x] sp)(hbind:∀ (s:Shared) (u:Value),BindsTo s fd ⟨[u],[]⟩ [(x,u)])(hsp:∀ H:Hp,Only H->SqL K H a (ns.map V.int)->sp [.ref a] H (λv _=>v=.bl true) λ_ _ _=>False)(hCX:∀ H e s',CX [] H s₁ (λ_ _ _=>False) e s'->False) :
  codeAny (model P w) callerA (.call (.ref fa) ⟨[.ref a],[]⟩) (λr s'=>r=.ok (.ret (.bool true))/\OldK s₁.heap s'.heap/\s'.os=s₁.os/\AllBare s'.gens) s₁:=by
 have rv:=ziz hi;have lenV:=hi.length
 have core:∀ H:Hp,Only H->SqL K H a (ns.map V.int)->HOk P w H s₁.heap->(∀ b,H b≠none->b=a)->(H a≠none->K.lookup a=none) ->
   codeAny (model P w) callerA (.call (.ref fa) ⟨[.ref a],[]⟩) (λr s'=>r=.ok (.ret (.bool true))/\OldK s₁.heap s'.heap/\s'.os=s₁.os/\AllBare s'.gens) s₁:=by
  intro H hO hS hok hA hK;have base_of:∀ {b:Addr} {o:Obj},s₁.heap.get? b=some o->H b=none->(zfd s₁.heap H).get? b=some o:=λe n=>zoy e n
  have noA:∀ {b:Addr} {o:Obj} {es:Array DictEntry} {ep:Nat},s₁.heap.get? b=some o->o.data=.dict es ep->H b=none:=λ{b o es ep} e d=>by
   cases q:H b with
   |none=>rfl
   |some u =>have e':b=a:=hA b (by rw[q];simp);subst e';rw[ha]at e;cases e;have d':Data.seq vs.toArray _=Data.dict es ep:=d;cases d'
  have nsK:∀ {b:Addr} {m:Str->Option Value},s₁.heap.Ns b m->(zfd s₁.heap H).Ns b m:=λ{b m} ⟨o,es,ep,e,d,r⟩=>⟨o,es,ep,base_of e (noA e d),d,r⟩
  have hKb:K.In (zfd s₁.heap H):=λb o e=>base_of (KX b o e) (by
   cases q:H b with
   |none=>rfl
   |some u =>have e':b=a:=hA b (by rw[q];simp);subst e';rw[hK (by rw[q];simp)]at e;cases e)
  have hM:Mod K mg (zfd s₁.heap H):=⟨hKb,nsK hns,⟨mb,nsK hb,hbb⟩,by obtain⟨mc,h1,h2⟩:=hlim;exact⟨mc,nsK h1,h2⟩⟩
  have e0:zgM P w K mg (zfd s₁.heap H) callerA [] s₁ H:=⟨rfl,hM,λb o e=>zpP e,Nat.le_of_eq (znN _ _),trivial,λb hb=>absurd (show b∈([]:List Addr)from hb) (by simp),hok,.of_eq hg⟩
  refine codeAny_mono ((F _ hKb (nsK hns)).run callerA [] s₁ H ⟨[.ref a],[]⟩ [.ref a] [.ref a] _ _ hr e0 (hbind s₁ (.ref a)) (.cons rfl .nil) (hsp H hO hS)) λr s' h=>?_
  cases r with
  |error e=>exact(hCX H e s' h).elim
  |ok fl =>
   cases fl with
   |next=>exact False.elim h
   |brk=>exact False.elim h
   |cont=>exact False.elim h
   |ret u =>
    obtain⟨v,H',os,bare,un,hok',r',q⟩:=h;have q':v=.bl true:=q;subst q';obtain rfl:u=Value.bool true:=r';refine⟨rfl,OldK.of_keep λb o e=>?_,os,bare⟩;cases q:H b with
    |none=>exact un.keep b o e q (by intro z;exact absurd (show b∈([]:List Addr)from z) (by simp)) (by simp)
    |some u =>
     rcases hO b with z|⟨ob,xs,z⟩
     ·rw[q]at z;cases z
     ·have z2:=un.frzs b ob _ z;obtain⟨e1,_⟩:=hok b _ z;obtain⟨e2,_⟩:=hok' b _ z2;rw[e]at e1;cases e1;exact e2
 cases hk:K.lookup a with
 |some o =>have e:=KX a o hk;rw[ha]at e;cases e;refine core (λ_=>none) (λ_=>.inl rfl) (.inr ⟨_,vs.toArray,_,hk,rfl,rfl,rfl,by rw[List.size_toArray,lenV];exact hl,by simpa using rv⟩) (λb u z=>by have z':(none:Option HO)=some u:=z;cases z') (λb z=>absurd rfl z) λz=>absurd rfl z
 |none =>
  refine core (λb=>if b=a then some (.frz { cls:=.type "list",data:=.seq vs.toArray } (.lst (ns.map V.int)))else none) (λb=>?_) (.inl (.inr ⟨{ cls:=.type "list",data:=.seq vs.toArray },if_pos rfl⟩)) (λb u z=>?_) (λb z=>?_) λ_=>hk
  ·by_cases hb:b=a
   ·exact .inr ⟨_,_,if_pos hb⟩
   ·exact .inl (if_neg hb)
  ·by_cases hb:b=a
   ·have z':=(if_pos hb).symm.trans z;cases z';subst hb;exact⟨ha,by rw[List.length_map];exact hl,vs,_,rv,ha⟩
   ·have z':=(if_neg hb).symm.trans z;cases z'
  ·by_cases hb:b=a
   ·exact hb
   ·exact absurd (if_neg hb) z
def inClass (s:Stmt)(j:Nat):Stmt:=match s with
 |.ClassDef _ _ _ body _ _ _ _ _ _ _=>body.getD j (.Pass ⟨0,0,0,0⟩)
 |_=>.Pass ⟨0,0,0,0⟩
def zbh (s:Stmt):Arguments:=match s with
 |.FunctionDef _ a _ _ _ _ _ _ _ _=>a
 |_=>{ posonlyargs:=[],args:=[],vararg:=none,kwonlyargs:=[],kw_defaults:=[],kwarg:=none,defaults:=[] }
def zaI (s:Stmt):List Stmt:=match s with
 |.FunctionDef _ _ b _ _ _ _ _ _ _=>b
 |_=>[]
def zY (s:Stmt):Scope:=match s with
 |.FunctionDef _ _ _ _ _ _ sc _ _ _=>sc
 |_=>{ kind:=.function,names:=[],isGenerator:=false,isCoroutine:=false }
abbrev CX0:CXT:=λ_ _ _ _ _ _=>False
abbrev E0:XK:=λ_ _ _=>False
def zpj {X:Cx}:Passes CX0 X E0:=λ_ _ _ _ _ _ _ h=>h.elim
structure Fun (K:PySem.W.Frag)(x qual:Str)(st:Stmt)(f:Addr)(fd:FuncData):Prop where
 ex:∃ (oc:Value) (od:Option Addr) (kV doc pm:Value) (an:Option Addr) (cdv ct:Value) (osl:Array (Option Value)),
  fd=PySem.W.fnOf x qual (zbh st) (zaI st) (zY st) .none kV doc pm an cdv ct/\K.lookup f=some ⟨oc,od,.func fd,osl⟩/\PySem.W.codeIn K cdv qual=true
 kp:PySem.W.keepIn K (.ref f)=true
section
variable {P:Program}{w:World}{K:PySem.W.Frag}{mg:Str->Option Value}{base:Heap}
def Fun.ok {st:Stmt}{k:Nat}{sp:Sp}(F:Fun K x qual st f fd)(S:zcC N ps (zY st))(len:∀ vs H Q E,sp vs H Q E->vs.length=ps.length)(hbody:∀ (cdv:Value) (A:Around) (outer:List Env) (s:Shared) (H:Hp) (vs:List V) (Q:VK) (E:XK),zaB k (A.deeper (envOfC qual (zY st) s.heap.objs.size f cdv))->sp vs H Q E ->
   ∃ t,PSs (zcI CX0 P w K mg base N qual (zY st) f cdv A outer s H E).nox (zaI st) t/\t { nx:=λ_ H'=>Q .non H',rt:=Q } (start N vs) H):zQ P w K mg base CX0 (k+1) f fd ps sp:=by
 obtain⟨oc,od,kV,doc,pm,an,cdv,ct,osl,rfl,lk,hcd⟩:=F.ex;refine zpg lk hcd S len λA outer s H vs Q E hr hsp=>?_
 obtain⟨t,h,q⟩:=hbody cdv A outer s H vs Q E hr hsp;exact⟨t,h.nox,q⟩
def Fun.binds {st:Stmt}{ps:List Str}(F:Fun K x qual st f fd)(h:∀ (kV doc pm:Value) (an:Option Addr) (cdv ct:Value) (us:List Value),us.length=ps.length->bindArgs (PySem.W.fnOf x qual (zbh st) (zaI st) (zY st) .none kV doc pm an cdv ct) ⟨us,[]⟩=pure (ps.zip us)):Binds K fd ps []:=by obtain⟨oc,od,kV,doc,pm,an,cdv,ct,osl,rfl,lk,hcd⟩:=F.ex;exact .all (h kV doc pm an cdv ct)
def zhe {x qual:Str}{st:Stmt}{oc:Value}{od an:Option Addr}{osl:Array (Option Value)}{kV doc pm cdv ct:Value}(l:K.lookup f=some ⟨oc,od,.func (PySem.W.fnOf x qual (zbh st) (zaI st) (zY st) .none kV doc pm an cdv ct),osl⟩)(c:PySem.W.codeIn K cdv qual=true)(k:PySem.W.keepIn K (.ref f)=true):Fun K x qual st f (PySem.W.fnOf x qual (zbh st) (zaI st) (zY st) .none kV doc pm an cdv ct):=⟨⟨oc,od,kV,doc,pm,an,cdv,ct,osl,rfl,l,c⟩,k⟩
end
def znH {n:Nat}(h:n<=1000):n<sizeLine:=Nat.lt_of_le_of_lt h (by decide)
section
variable {X:Cx}
def pv (i:Nat){x:Str}{pos:Pos}(hN:autoParam (X.N[i]?=some x) zL)(hv:autoParam (Vis X.env.scope x) zl5)(hd:autoParam ((x==("__debug__":Str))=false) zW)
  (hcd:(x==("__classdict__":Str))=false:=by decide):PE X (.Name x pos) (zn1 i):=znL hN hv hd hcd
end
section
variable {κ:Type}[DecidableEq κ]
end
section
variable {P:Program}{w:World}{H:Hp}{h:Heap}{a:Addr}
end
section
variable {X:Cx}{pins:List (Addr×Obj)}{U:St}{H:Hp}{s:Shared}{a:Addr}{y v:V}{u r:Value}{o:Option V}{A:Around}{E:Value->Shared->Prop}
end
section
variable {X:Cx}{pins:List (Addr×Obj)}{U:St}{H:Hp}{s:Shared}{a:Addr}{kvs:List (Key×V)}{k:Key}{u:Value}{A:Around}{E:Value->Shared->Prop}
end
section
variable {X:Cx}{o i e value:Expr}{pos pos' tpos:Pos}{td ty tv:TE}
end
section
variable {X:Cx}{pos:Pos}
end
section
variable {X:Cx}{pins:List (Addr×Obj)}{U:St}{H:Hp}{s:Shared}{a:Addr}{y d:V}{u r:Value}{o:Option V}{A:Around}{E:Value->Shared->Prop}
end
section
variable {X:Cx}{o e f:Expr}{apos cpos:Pos}{td ty tx:TE}
end
section
variable {X:Cx}{pins:List (Addr×Obj)}{U:St}{H:Hp}{s:Shared}{a:Addr}{kvs:List (Key×V)}{A:Around}{E:Value->Shared->Prop}
end
section
variable {X:Cx}{pins:List (Addr×Obj)}{U:St}{H:Hp}{s:Shared}{a:Addr}{y:V}{u:Value}{A:Around}{E:Value->Shared->Prop}
end
end L2
namespace My
def Bd (n:Nat)(x:Int):Prop:=x.natAbs<2 ^ n
def Bd.mono {n:Nat}(h:Bd m x)(hmn:m<=n):Bd n x:=Nat.lt_of_lt_of_le h (Nat.pow_le_pow_right (by decide) hmn)
def Bd.add (h:Bd n x)(h':Bd n y):Bd (n+1) (x+y) :=Nat.lt_of_le_of_lt (Int.natAbs_add_le x y) (by rw[Nat.pow_succ,Nat.mul_two];exact Nat.add_lt_add h h')
def Bd.neg (h:Bd n x):Bd n (-x):=by unfold Bd;rw[Int.natAbs_neg];exact h
def Bd.sub (h:Bd n x)(h':Bd n y):Bd (n+1) (x-y):=by rw[Int.sub_eq_add_neg];exact h.add h'.neg
def Bd.mul (h:Bd m x)(h':Bd n y):Bd (m+n) (x*y):=by unfold Bd at *;rw[Int.natAbs_mul,Nat.pow_add];exact Nat.mul_lt_mul'' h h'
def Bd.of_le {x:Int}(h:Bd n y)(h':x.natAbs<=y.natAbs):Bd n x:=Nat.lt_of_le_of_lt h' h
def Bd.dvd {x:Int}(h:Bd n y)(h0:y≠0)(d:x ∣ y):Bd n x :=h.of_le (Nat.le_of_dvd (by lia) (Int.natAbs_dvd_natAbs.mpr d))
theorem Bd.fdiv {y:Int}(h:Bd n x):Bd n (x.fdiv y):=h.of_le (Int.natAbs_fdiv_le_natAbs x y)
def Bd.lit {n:Nat}{x:Int}(h:x.natAbs<2 ^ 200)(hn:200<=n):Bd n x:=Bd.mono (m:=200) h hn
def zod (a b:Int):Int.gcd b (a.fmod b)=Int.gcd a b:=by
 have e:a.fmod b=a-b*a.fdiv b:=by have:=Int.mul_fdiv_add_fmod a b;lia
 rw[e,Int.gcd_sub_mul_left_right,Int.gcd_comm]
def zkV {a b:Int}(h0:0<=a)(h:a<b):a.natAbs<b.natAbs:=by refine Int.ofNat_lt.mp ?_;rw[Int.natAbs_of_nonneg h0,Int.natAbs_of_nonneg (Int.le_of_lt (Int.lt_of_le_of_lt h0 h))];exact h
def zkl {a b:Int}(h:b≠0):(a.fmod b).natAbs<b.natAbs:=by
 rcases Int.lt_or_gt_of_ne h with h1|h1
 ·have e:(-(-a)).fmod (-(-b))=-((-a).fmod (-b)):=Int.neg_fmod_neg (-a) (-b);rw[Int.neg_neg,Int.neg_neg]at e;have h2:=zkV (Int.fmod_nonneg_of_pos (-a) (Int.neg_pos_of_neg h1)) (Int.fmod_lt_of_pos (-a) (Int.neg_pos_of_neg h1));rw[e,Int.natAbs_neg];rwa[Int.natAbs_neg b]at h2
 ·exact zkV (Int.fmod_nonneg_of_pos a h1) (Int.fmod_lt_of_pos a h1)
noncomputable def gd (t b:Int):Int:=if b<0 then -((Int.gcd t b:Nat):Int)else((Int.gcd t b:Nat):Int)
noncomputable def frT (t b:Int):Int:=t.fdiv (gd t b)
noncomputable def frB (t b:Int):Int:=b.fdiv (gd t b)
def zps {t b:Int}(h:b≠0):gd t b≠0:=by
  have:Int.gcd t b≠0:=λe=>h (Int.gcd_eq_zero_iff.mp e).2
  unfold gd;split<;>lia
def zkp (t b:Int):gd t b ∣ t:=by
 unfold gd;split
 ·exact Int.neg_dvd.mpr (Int.gcd_dvd_left ..)
 ·exact Int.gcd_dvd_left ..
def zfK (t b:Int):gd t b ∣ b:=by
 unfold gd;split
 ·exact Int.neg_dvd.mpr (Int.gcd_dvd_right ..)
 ·exact Int.gcd_dvd_right ..
def zkU (t b:Int):frT t b*gd t b=t:=Int.fdiv_mul_cancel (zkp t b)
def zhY (t b:Int):frB t b*gd t b=b:=Int.fdiv_mul_cancel (zfK t b)
def zoM (t b:Int):frT t b*b=frB t b*t:=by have h1:=zkU t b;have h2:=zhY t b;generalize frT t b=x at *;generalize frB t b=y at *;generalize gd t b=g at *;subst h1 h2;rw[Int.mul_comm y g,<- Int.mul_assoc,Int.mul_comm (x*g) y]
def zrc {t b:Int}(h:b≠0):1<=frB t b:=by
  have h2:=zhY t b;have h3:gd t b≠0:=zps h
  have h4:0<b->0<gd t b:=by intro hb;unfold gd at *;split<;>lia
  have h5:b<0->gd t b<0:=by intro hb;unfold gd at *;split<;>lia
  generalize frB t b=y at *;generalize gd t b=g at *;rcases Int.lt_or_gt_of_ne h with hb|hb
  . have hg:=h5 hb;rcases Int.lt_or_le y 1 with hy|hy
    . have:0<=y*g:=Int.mul_nonneg_of_nonpos_of_nonpos (by lia) (by lia);lia
    . exact hy
  . have hg:=h4 hb;rcases Int.lt_or_le y 1 with hy|hy
    . have:y*g<=0:=Int.mul_nonpos_of_nonpos_of_nonneg (by lia) (by lia);lia
    . exact hy
def zr7 {t b:Int}(h:b≠0):Int.gcd (frT t b) (frB t b)=1:=by
  have h0:0<Int.gcd t b:=Nat.pos_of_ne_zero λe=>h (Int.gcd_eq_zero_iff.mp e).2
  have h1:=zkU t b;have h2:=zhY t b;have e:Int.gcd (frT t b*gd t b) (frB t b*gd t b)=Int.gcd (frT t b) (frB t b)*(gd t b).natAbs:=Int.gcd_mul_right ..;rw[h1,h2]at e;have e2:(gd t b).natAbs=Int.gcd t b:=by unfold gd;split<;>lia
  rw[e2]at e;exact Nat.eq_of_mul_eq_mul_right h0 (by lia)
def zvw {t b:Int}(h:b≠0)(hb:Bd n b):Bd n (gd t b):=hb.dvd h (zfK t b)
def zsd {t:Int}(hb:Bd n b):Bd n (frB t b):=hb.fdiv
def zrT {b:Int}(hb:Bd n t):Bd n (frT t b):=hb.fdiv
open PySem PySem.Spec PyProof.Rows L2
def zvn (_ j:Int):Prop:=j≠0/\Bd 8000 j
def zvo (_ j:Int):Prop:=j≠0
def zhG (h:Bd 8000 j):j.natAbs.log2<9000:=by
 rcases Nat.eq_zero_or_pos j.natAbs with e|e
 ·rw[e];decide
 ·have:j.natAbs.log2<8000:=(Nat.log2_lt (Nat.ne_of_gt e)).mpr h;lia
def zg6 (h:Bd 8000 j):Builtin.Int.intBits j<=2 ^ 20:=by
 unfold Builtin.Int.intBits;split
 ·exact Nat.zero_le _
 ·have:=zhG h;lia
section
variable {X:Cx}
def zos:OpR X (binaryOp .FloorDiv) (rI zvn λi j=>.int (i.fdiv j)):=opI λ_ _ _ _ _ _ _ hc q=>floordiv_int hc.1 q (.inl (PyProof.noPylong_of_log2 (zhG hc.2)))
def zqQ:OpR X (binaryOp .Mod) (rI zvo λi j=>.int (i.fmod j)):=zqg
def rB0 (g:Bool->Bool->V):R2:=λx y H Q=>∃ i j,x=.bl i/\y=.bl j/\Q (g i j) H
def zp2 {i j:Int}{a b:Nat}{p1 p2 pos:Pos}(c:Int)(h:i ^ j.toNat=c)(h0:0<=j/\j<=1000000/\i.natAbs<2 ^ 64):PE X (.BinOp (.Constant (.int i) a p1) .Pow (.Constant (.int j) b p2) pos) (tC (.int c)):=by intro pins s U H Q I q;have q':Q (.int c) H:=q;rw[<- h]at q';exact zpf zr9 zj4 zj4 pins s U H Q I ⟨i,j,rfl,rfl,h0,q'⟩
def zvG:List V->Hp->VK->Prop:=λxs H Q=>∃ i,xs=[.int i]/\Q (.int (i.natAbs:Int)) H
def zmR:zas X (.builtin "abs") zvG:=λpins s U H xs us Q I r h=>by
  obtain⟨i,e,q⟩:=h;refine zoN pins s U H xs us Q I r ⟨i,e,?_⟩;have:(if i<0 then -i else i)=(i.natAbs:Int):=by split<;>lia
  rw[this];exact q
def zwY (K:PySem.W.Frag):List V->Hp->VK->Prop:=λxs H Q=>∃ p ys,xs=[.ref p]/\(SqL K H p ys\/SqT K H p ys)/\Q (.int ys.length) H
def zmP:zas X (.builtin "len") (zwY X.K):=zj7
def zuV (K:PySem.W.Frag):List V->Hp->VK->Prop:=λxs H Q=>∃ p ys,xs=[.ref p]/\(SqL K H p ys\/SqT K H p ys)/\∀ l,H l=none->Q (.ref l) (upd H l (.lst ys))
def zlC:zas X (.type "list") (zuV X.K):=zjZ
def zwh:List V->Hp->VK->Prop:=λxs H Q=>∃ i j,xs=[.int i,.int j]/\Q (.int (if j > i then j else i)) H
def znb (hc:X.calm=true):zas X (.builtin "max") zwh:=zmN hc
def zvJ:List V->Hp->VK->Prop:=λxs H Q=>∃ i j,xs=[.int i,.int j]/\Q (.int (if j<i then j else i)) H
def znr (hc:X.calm=true):zas X (.builtin "min") zvJ:=znF hc
def zvb {T:String}{pos:Pos}(hg:Gl X x)(hm:X.mg x=none)(hv:bootBuiltins x=some (.type T))(hn:autoParam (x≠"__name__") zW)(hd:autoParam ((x==("__debug__":Str))=false) zW):PE X (.Name x pos) (tC (.ty T)):=zro (v:=.ty T) hg hm hv rfl hn hd
def zwf (K:PySem.W.Frag):List V->Hp->VK->Prop:=λxs H Q=>∃ x c t b,xs=[x,.ty c]/\zc8 K H x t/\PySem.W.kitOne K t (.type c)=some b/\Q (.bl b) H
def zoV:zas X (.builtin "isinstance") (zwf X.K):=λpins s U H xs us Q I r h=>by obtain⟨x,c,t,b,rfl,ty,e,q⟩:=h;obtain⟨u,w',rfl,ru,rw'⟩:=vals2 r;cases rw';exact zms I ru ty e λtk=>⟨.bl b,H,I.tok _,rfl,q⟩
end
section
variable {X:Cx}{K:PySem.W.Frag}
end
structure Got (P:Program)(w:World)(K:PySem.W.Frag)(mg:Str->Option Value)(base:Heap)(k:Nat)(x:Str)(ps:List Str)(sp:Sp):Prop where
 ex:∃ f fd,zQ P w K mg base CX0 k f fd ps sp/\Binds K fd ps []/\PySem.W.keepIn K (.ref f)=true/\mg x=some (.ref f)
def zsu {X:Cx}{p pos:Pos}{e:Expr}{es:List Expr}(G:Got X.prog X.w X.K X.mg X.base k x ps sp)(hr:zaB j X.A)(hk:k<=j)(hg:Gl X x)(ha:PA X (e::es) t)(hdb:autoParam ((x==("__debug__":Str))=false) zW)(he:autoParam (starEach (e::es) X.env=(false,eval e X.env)::starEach es X.env) zL)(hpl:autoParam ((backTo pos (starEach es X.env)).any (·.1)=false) zL) :
  PE X (.Call (.Name x p) (e::es) [] pos) (zl0 sp [] E0 t):=by
 intro pins s U H Q I h;obtain⟨f,fd,F,b,kp,m⟩:=G.ex;exact zqc (F.mono hk) hr hg m kp b .nil zpj ha hdb he hpl pins s U H Q I h
section
variable {nx:L2.St->Hp->Prop}{rt:VK}{bk ct:L2.St->Hp->Prop}{U:L2.St}{H:Hp}{K:PySem.W.Frag}
end
section
variable {U:L2.St}{H:Hp}{K:PySem.W.Frag}
def zvQ:R2:=λx y H Q=>y=.non/\Q (.bl (decide (x=.non))) H
def ztY:R2:=λx y H Q=>y=.non/\Q (.bl (!decide (x=.non))) H
def zuy {X:Cx}:OpR X (compareOp .Is) zvQ:=ztE
def zrs {X:Cx}:OpR X (compareOp .IsNot) ztY:=zqh
end
def zdI {H:Hp}{o u:HO}(hp:H p=none)(h:H b=some u):upd H p o b=some u:=by rw[zP (za9 h hp)];exact h
theorem zkq {prog:Program}{w:World}{A:Around}{R:Result->Shared->Prop}{s:Shared}{elt target iter:Expr}{ifs:List Expr}{scope:Scope}{pos:Pos}{it acc:Value}{env:Env}(I:Nat->Shared->Prop)
  (turn:∀ n s,I n s->wpAny (model prog w) A (pyNext it) (λr s₁=>match r with
   |none=>R (.ok .next) s₁
   |some v=>wpAny (model prog w) A (letOwnedTupleGo target it v) (λ_ s₁'=>wpAny (model prog w) A (assign target env v) (λ_ s₂ =>
     wpAny (model prog w) A (forIn ifs true λc r=>if r=true then do let ok <- isTrue c env (eval c env);pure (ForInStep.yield ok)else pure (ForInStep.yield r)) (λok s₃ =>
      if ok=true then wpAny (model prog w) A (eval elt env) (λx s₄ =>wpAny (model prog w) A (call (.builtin "list.append") [acc,x]) (λ_ s₅=>∃ m,m<n/\I m s₅) (λ_ _=>False) s₄) (λ_ _=>False) s₃
      else ∃ m,m<n/\I m s₃) (λ_ _=>False) s₂) (λ_ _=>False) s₁') (λ_ _=>False) s₁) (λ_ _=>False) s)
  (n:Nat) (h:I n s):codeAny (model prog w) A (.compLoop (.ListComp elt [⟨target,iter,ifs,0⟩] scope pos) 0 it acc env) R s:=by
 refine codeAny_loop rfl I (λn s hI=>?_) n h;show wpAny _ A ((compTurn (.ListComp elt [⟨target,iter,ifs,0⟩] scope pos) 0 it acc env).onRaise (λx=>do noteFrame x env;theTreesLotGoes x)) _ _ s;refine wpAny_noted ?_;rw[compTurn_list];refine wpAny_bind (wpAny_standAt (wpAny_bind (wpAny_mono (turn n s hI) (λr s₁ h₁=>?_) λ_ _ h'=>h'.elim)));cases r with
 |none=>exact wpAny_pure h₁
 |some v =>
  refine wpAny_bind (wpAny_mono h₁ (λ_ s₁' h₁'=>?_) λ_ _ h'=>h'.elim);refine wpAny_bind (wpAny_mono h₁' (λ_ s₂ h₂=>wpAny_bind (wpAny_mono h₂ (λok s₃ h₃=>?_) λ_ _ h'=>h'.elim)) λ_ _ h'=>h'.elim);cases ok with
  |false=>exact wpAny_pure ⟨rfl,h₃⟩
  |true =>exact wpAny_bind (wpAny_bind (wpAny_mono h₃ (λx s₄ h₄=>wpAny_bind (wpAny_mono h₄ (λ_ s₅ h₅=>wpAny_pure (wpAny_pure ⟨rfl,h₅⟩)) λ_ _ h'=>h'.elim)) λ_ _ h'=>h'.elim))
def inner (X:Cx)(sc:Scope)(N:List Str)(cl:List (Str×Addr))(C:Addr)(s₀:Shared)(H₀:Hp)(ex:List Addr):Cx :={ X with N:=N,s₀:=s₀,H₀:=H₀,env:=compEnvC sc cl C X.env,outer:=X.stack,ex:=ex,fn:=λx=>sc.names.lookup x==some .cell,pn:=[] }
def PFs (X:Cx)(ifs:List Expr)(t:TT):Prop :=
 ∀ (pins:List (Addr×Obj)) (s:Shared) (U:L2.St) (H:Hp) (Q:Bool->Hp->Prop),Inv X pins U H s->t U H Q ->
  wpAny (model X.prog X.w) X.A (forIn ifs true λc r=>if r=true then do let ok <- isTrue c X.env (eval c X.env);pure (ForInStep.yield ok)else pure (ForInStep.yield r)) (TP X pins U Q) X.xe s
def zu9:TT:=λ_ H Q=>Q true H
def zsm {X:Cx}:PFs X [] zu9:=λ_ _ _ H _ I h=>wpAny_tests_nil ⟨H,I,h⟩
def ztg (h:PT X c t):PFs X [c] t:=λpins s U H Q I q=>wpAny_tests_one (h pins s U H Q I q)
def zdC (X:Cx)(sc:Scope):List Str->List Nat->Prop
 |[],[]=>True
 |x::xs,j::js=>X.N[j]?=some x/\sc.names.lookup x=some .free/\X.env.kindOf x=some .cell/\zdC X sc xs js
 |_,_=>False
def zcq (P:Str->Prop):List (Str×NameKind)->Prop
 |[]=>True
 |(n,.free)::r=>P n/\zcq P r
 |_::r=>zcq P r
theorem zcq.of {P:Str->Prop}:∀ {l:List (Str×NameKind)},zcq P l->∀ y∈l,y.2=.free->P y.1
  |(n,k)::r,h,y,hy,e=>by
    rcases List.mem_cons.mp hy with rfl|hy
    . dsimp only at e;subst e;exact h.1
    . refine zcq.of (l:=r) ?_ y hy e;cases k<;>first|exact h.2|exact h
def cst (own:List Str)(fv:List Nat)(U:L2.St):L2.St:=List.replicate own.length none++fv.map λj=>(U[j]?).join
def Agr:L2.St->L2.St->Prop
 |[],[]=>True
 |none::r,_::s=>Agr r s
 |some v::r,some w::s=>v=w/\Agr r s
 |_,_=>False
theorem Agr.len:∀ {a b:L2.St},Agr a b->b.length=a.length
  |[],[],_=>rfl
  |none::r,_::s,h=>congrArg (· + 1) (Agr.len (a:=r) (b:=s) h)
  |some v::r,some w::s,h=>congrArg (· + 1) (Agr.len (a:=r) (b:=s) h.2)
theorem Agr.get:∀ {a b:L2.St},Agr a b->∀ (i:Nat) (v:V),a[i]?=some (some v)->b[i]?=some (some v)
 |none::r,_::s,h,i,v,e=>by
  cases i with
  |zero=>simp at e
  |succ i=>simpa using Agr.get (a:=r) (b:=s) h i v (by simpa using e)
 |some v'::r,some w::s,h,i,v,e=>by
  cases i with
  |zero=>simp at e;subst e;simp[h.1]
  |succ i=>simpa using Agr.get (a:=r) (b:=s) h.2 i v (by simpa using e)
def tLC (own:List Str)(fv:List Nat)(wi:TI)(g:TG)(tc:TT)(te:TE):TE:=λU H Q=>wi U H λJ H1=>∀ p,H1 p=none ->
 ∃ W:Nat->Nat->Hp->Prop,(∃ m,W 0 m (upd H1 p (.lst [])))/\∀ i m H2,W i m H2 ->
  (J.stop i H2/\Q (.ref p) H2)\/(J.go i H2/\∀ x H',J.yld i H2 x H'->g x (cst own fv U) H' λσ2 H3=>Agr (cst own fv U) σ2/\tc σ2 H3 λb H4 =>
   if b=true then te σ2 H4 λy H5=>∃ ys,H5 p=some (.lst ys)/\ys.length<sizeLine/\∃ m',m'<m/\W (i+1) m' (upd H5 p (.lst (ys++[y])))
   else ∃ m',m'<m/\W (i+1) m' H4)
def zkt {env:Env}{n:Str}{c:Addr}(h:env.cells.lookup n=some c):cellOf env n=pure c:=by unfold cellOf;rw[h]
theorem zfa {env:Env}:∀ (names:List (Str×NameKind)) (cs:List (Str×Addr)),(∀ y∈names,y.2=.free->∃ c,env.cells.lookup y.1=some c)->(∀ x c,cs.lookup x=some c->env.cells.lookup x=some c) ->
    ∃ cl,(forIn names cs λ(x:Str×NameKind) (r:List (Str×Addr))=>if(x.2==NameKind.free)=true then do let a <- cellOf env x.1;pure (ForInStep.yield ((x.1,a)::r))else pure (ForInStep.yield r))=(pure cl:Sem (List (Str×Addr))) /\
      (∀ x c,cl.lookup x=some c->env.cells.lookup x=some c)/\(∀ x,(cs.lookup x).isSome=true->(cl.lookup x).isSome=true)/\∀ y∈names,y.2=.free->(cl.lookup y.1).isSome=true
  |[],cs,_,h2=>⟨cs,rfl,h2,λ_ h=>h,λ_ h=>nomatch h⟩
  |(n,k)::r,cs,h1,h2=>by
    rw[List.forIn_cons];by_cases hk:k=.free
    . subst hk;obtain⟨c,hc⟩:=h1 (n,.free) List.mem_cons_self rfl
      obtain⟨cl,e,a1,a2,a3⟩:=zfa (env:=env) r ((n,c)::cs) (λy hy=>h1 y (List.mem_cons_of_mem _ hy)) (λx d hx=>by
        rw[List.lookup_cons]at hx;by_cases hxn:x=n
        . subst hxn;simp at hx;subst hx;exact hc
        . have:(x==n)=false:=by simpa using hxn
          rw[this]at hx;exact h2 x d hx)
      refine⟨cl,?_,a1,λx hx=>a2 x ?_,λy hy e'=>?_⟩
      . simp only[beq_self_eq_true,if_true,zkt hc];simpa using e
      . rw[List.lookup_cons];split<;>simp_all
      . rcases List.mem_cons.mp hy with rfl|hy
        . exact a2 _ (by simp[List.lookup_cons])
        . exact a3 y hy e'
    . have hb:(k==NameKind.free)=false:=by simpa using hk
      obtain⟨cl,e,a1,a2,a3⟩:=zfa (env:=env) r cs (λy hy=>h1 y (List.mem_cons_of_mem _ hy)) h2;refine⟨cl,?_,a1,a2,λy hy e'=>?_⟩
      . simp only[hb,Bool.false_eq_true,if_false];simpa using e
      . rcases List.mem_cons.mp hy with rfl|hy
        . exact absurd e' hk
        . exact a3 y hy e'
def zfg {env:Env}{sc:Scope}(h:∀ y∈sc.names,y.2=.free->∃ c,env.cells.lookup y.1=some c) :
  ∃ cl,closureFor sc env=pure cl/\(∀ x c,cl.lookup x=some c->env.cells.lookup x=some c)/\∀ y∈sc.names,y.2=.free->(cl.lookup y.1).isSome=true:=by
 obtain⟨cl,e,a1,_,a3⟩:=zfa (env:=env) sc.names [] h (λx c hx=>by simp at hx);refine⟨cl,?_,a1,a3⟩;unfold closureFor;have e2:=e
 first
  |exact e2
  |(show(do let cs <- forIn sc.names [] _;pure cs)=_;rw[show(forIn sc.names [] _:Sem (List (Str×Addr)))=pure cl from e2];rfl)
  |simpa using e2
theorem zcZ {env:Env}{x:Str}:∀ {names:List (Str×NameKind)},(names.map λ(n,k)=>if(k==NameKind.free&&env.scope.kind==.function&&env.kindOf n==some .cell)then(n,NameKind.cell)else(n,k)).lookup x =
    (names.lookup x).map λk=>if(k==NameKind.free&&env.scope.kind==.function&&env.kindOf x==some .cell)then NameKind.cell else k
  |[]=>rfl
  |(n,k)::r=>by
    have ih:=zcZ (env:=env) (x:=x) (names:=r);rw[List.map_cons];by_cases hx:x=n
    . subst hx;dsimp only;split<;>simp_all [List.lookup_cons]
    . have hb:(x==n)=false:=by simpa using hx
      dsimp only;split<;>(rw[List.lookup_cons,List.lookup_cons,hb];exact ih)
theorem mem_of_lookup {β:Type}{x:Str}{k:β}:∀ {l:List (Str×β)},l.lookup x=some k->(x,k)∈l
 |(n,b)::r,h=>by
  rw[List.lookup_cons]at h;by_cases hx:x=n
  ·subst hx;simp at h;subst h;exact List.mem_cons_self
  ·have hb:(x==n)=false:=by simpa using hx
   rw[hb]at h;exact List.mem_cons_of_mem _ (mem_of_lookup h)
theorem za1:∀ (names:List (Str×NameKind)) (n:Nat) (acc:List (Str×Addr)),cellsFrom n names acc=cellsFrom n names []++acc
 |[],_,_=>rfl
 |(x,k)::r,n,acc=>by
  unfold cellsFrom;split
  ·rw[za1 r (n+1) ((x,n)::acc),za1 r (n+1) [(x,n)],List.append_assoc];rfl
  ·exact za1 r n acc
theorem zdz:∀ {names:List (Str×NameKind)} {n:Nat} {x:Str} {c:Addr},(x,c)∈cellsFrom n names []->(x,NameKind.cell)∈names
 |(y,k)::r,n,x,c,h=>by
  unfold cellsFrom at h;split at h
  ·rename_i hk;rw[za1]at h;rcases List.mem_append.mp h with h|h
   ·exact List.mem_cons_of_mem _ (zdz h)
   ·have e:(x,c)=(y,n):=by simpa using h
    cases e;rw[show k=NameKind.cell by simpa using hk];exact List.mem_cons_self
  ·exact List.mem_cons_of_mem _ (zdz h)
theorem zdB:∀ {names:List (Str×NameKind)} {n:Nat} {x:Str},(x,NameKind.cell)∈names->((cellsFrom n names []).lookup x).isSome=true
 |(y,k)::r,n,x,h=>by
  unfold cellsFrom;rcases List.mem_cons.mp h with e|h
  ·cases e;rw[if_pos (by rfl),za1,List.lookup_append];cases(cellsFrom (n+1) r []).lookup y with
   |some c=>rfl
   |none=>simp
  ·have ih:=zdB (n:=n) h;have ih':=zdB (n:=n+1) h;split
   ·rw[za1,List.lookup_append];obtain⟨c,hc⟩:=Option.isSome_iff_exists.mp ih';rw[hc];rfl
   ·exact ih
def zma {M:Model}{A:Around}{E:Value->Shared->Prop}{s:Shared}{scope:Scope}{globals:Addr}{closure:List (Str×Addr)}{qual:Str}{func:Option Addr}{code:Value}{env:Env}{Q:Env->Shared->Prop}
    (hQ:Q (newEnv scope s.heap.objs.size globals (cellsFrom (s.heap.objs.size+1) scope.names closure) qual func code (some env) builtinsNs) { s with heap:=pushCells (s.heap.push { cls:=.type "dict",data:=.dict #[] }) scope.names }) :
    wpAny M A (newFunctionEnv scope globals closure [] qual func code (some env)) Q E s:=by
  simp only[newFunctionEnv,Option.isSome_some,if_true];refine wpAny_bind (wpAny_alloc ?_);refine wpAny_bind (wpAny_layCells _ (λname kind cells=>by cases hkc:kind==NameKind.cell<;>simp[hkc]) _ _ _ _ ?_);rw[show({ s with heap:=s.heap.push { cls:=.type "dict",data:=.dict #[] } }:Shared).heap.objs.size=s.heap.objs.size+1 from Heap.size_push ..];rw[List.forIn_nil];exact wpAny_bind (wpAny_pure (wpAny_pure hQ))
section
variable {X:Cx}{sc:Scope}{tg iter elt:Expr}{ifs:List Expr}{own free:List Str}{fv:List Nat}{wi:TI}{g:TG}{tc:TT}{te:TE}{pos:Pos}
theorem zpk {U:L2.St}:∀ {free:List Str} {fv:List Nat},zdC X sc free fv->∀ (k:Nat) (x:Str) (v:V),free[k]?=some x->(fv.map λj=>(U[j]?).join)[k]?=some (some v) ->
  ∃ j:Nat,X.N[j]?=some x/\U[j]?=some (some v)/\sc.names.lookup x=some .free/\X.env.kindOf x=some .cell
 |x'::xs,j::js,h,k,x,v,e1,e2=>by
  cases k with
  |zero =>
   simp at e1 e2;subst e1;refine⟨j,h.1,?_,h.2.1,h.2.2.1⟩;cases q:U[j]? with
   |none=>rw[q]at e2;simp at e2
   |some o=>rw[q]at e2;simp at e2;rw[e2]
  |succ k=>exact zpk (free:=xs) (fv:=js) h.2.2.2 k x v (by simpa using e1) (by simpa using e2)
 |[],[],_,k,x,v,e1,_=>by simp at e1
theorem zml:∀ {free:List Str} {fv:List Nat},zdC X sc free fv->fv.length=free.length
  |[],[],_=>rfl
  |_::_,_::_,h=>congrArg (· + 1) (zml h.2.2.2)
def ze8 {RR : Value → Addr → Result → Shared → Prop} (hcalm : X.calm = true) (hxe : X.xe = λ_ _ => False) (hkind : sc.kind = .function) (hcell : ∀ y ∈ sc.names, y.2 = .cell → sc.names.lookup y.1 = some .cell) (hfr : zcq (λx => X.env.kindOf x = some .cell) sc.names) (hfv : zdC X sc free fv) (hg : ∀ cl C s₀ H₀ ex, PG (inner X sc (own ++ free) cl C s₀ H₀ ex) tg g) (ht : ∀ cl C s₀ H₀ ex, PFs (inner X sc (own ++ free) cl C s₀ H₀ ex) ifs tc) (he : ∀ cl C s₀ H₀ ex, PE (inner X sc (own ++ free) cl C s₀ H₀ ex) elt te) {Q : VK} (I2 : Inv X pins U H2 s2) (T : Turn X.prog X.w X.K tg J fp it tn) (st2 : tn 0 s2.heap) (f2 : ∀ b ∈ fp, zd3 X pins H2 b) (h : ∀ p, H2 p = none → ∃ W : Nat → Nat → Hp → Prop, (∃ m, W 0 m (upd H2 p (.lst []))) ∧ ∀ i m H2, W i m H2 →
      (J.stop i H2/\Q (.ref p) H2)\/(J.go i H2/\∀ x H',J.yld i H2 x H'->g x (cst own fv U) H' λσ2 H3=>Agr (cst own fv U) σ2/\tc σ2 H3 λb H4 =>
        if b=true then te σ2 H4 λy H5=>∃ ys,H5 p=some (.lst ys)/\ys.length<sizeLine/\∃ m',m'<m/\W (i+1) m' (upd H5 p (.lst (ys++[y])))
        else ∃ m',m'<m/\W (i+1) m' H4)) {cl:List (Str×Addr)} (hcl1:∀ x c,cl.lookup x=some c->X.env.cells.lookup x=some c) (hcl2:∀ y∈sc.names,y.2=.free->(cl.lookup y.1).isSome=true) (hRR:∀ (p C:Addr) (m:Str->Option Value) (H':Hp) (s':Shared),s'.heap.Ns C m->Inv X pins U H' s'->H' C=none->C≠X.env.locals->X.s₀.heap.objs.size<=C->(∀ x c,X.env.cells.lookup x=some c->c≠C)->(∀ q∈X.pn++pins,q.1≠C)->Q (.ref p) H' ->
      RR (.ref p) C (.ok .next) s') :
    wpAny (model X.prog X.w) X.A (newList []) (λacc s3=>wpAny (model X.prog X.w) X.A (newFunctionEnv sc X.env.globals cl [] X.env.qual none .none (some X.env)) (λcenv s4 =>codeAny (model X.prog X.w) X.A (.compStart (.ListComp elt [⟨tg,iter,ifs,0⟩] sc pos) 0 (.ref it) acc { cenv with scope:=relabel sc X.env }) (RR acc cenv.locals) s4) X.xe s3) X.xe s2:=by
  rw[hxe];refine wpAny_newObj_type ?_;have I3:Inv X pins U (upd H2 s2.heap.objs.size (.lst [])) { s2 with heap:=s2.heap.push { cls:=.type "list",data:=.seq ([]:List Value).toArray } }:=I2.lnew (t':=s2.toks) .nil (Nat.zero_le _);generalize hs3:({ s2 with heap:=s2.heap.push { cls:=.type "list",data:=.seq ([]:List Value).toArray } }:Shared)=s3 at I3 ⊢;have hp:H2 s2.heap.objs.size=none:=I2.fresh;obtain⟨W,⟨m0,w0⟩,turn⟩:=h s2.heap.objs.size hp;generalize hH3:upd H2 s2.heap.objs.size (.lst [])=H3 at I3 w0 ⊢;have hk3:∀ b o,s2.heap.get? b=some o->s3.heap.get? b=some o:=λb o e=>by rw[<- hs3];exact Heap.get?_push_of_some _ e
  have hz3:s3.heap.objs.size=s2.heap.objs.size+1:=by rw[<- hs3];exact Heap.size_push ..
  have st3:tn 0 s3.heap:=T.keep _ _ _ st2 λb _ o e=>hk3 b o e
  have hfpo:∀ b∈fp,∃ o,s3.heap.get? b=some o:=λb hb=>by obtain⟨o,e,_⟩:=T.obj _ _ st3 b hb;exact⟨o,e⟩
  have hfpn:∀ b∈fp,b≠s2.heap.objs.size:=λb hb e=>by obtain⟨o,e',_⟩:=T.obj _ _ st2 b hb;have:=Heap.lt_size e';rw[e]at this;exact Nat.lt_irrefl _ this
  have f3:∀ b∈fp,H3 b=none:=λb hb=>by rw[<- hH3,zP (hfpn b hb)];exact(f2 b hb).1
  refine zma ?_;have cok:=cellsFrom_ok sc.names (s3.heap.push { cls:=.type "dict",data:=.dict #[] }) (s3.heap.objs.size+1) [] ⟨λ_ _ hm=>(nomatch hm),List.Pairwise.nil⟩ (by rw[Heap.size_push];exact Nat.le_refl _);rw[Heap.size_push]at cok;have hns1:(pushCells (s3.heap.push { cls:=.type "dict",data:=.dict #[] }) sc.names).Ns s3.heap.objs.size (λ_=>none):=(Heap.Ns.new s3.heap (.type "dict")).keeps (pushCells_keeps _ _);have old:∀ b o,s3.heap.get? b=some o->(pushCells (s3.heap.push { cls:=.type "dict",data:=.dict #[] }) sc.names).get? b=some o:=λb o e=>pushCells_keeps _ _ b o (Heap.get?_push_of_some _ e)
  rw[za1];have fmem:∀ {x c},(x,c)∈cellsFrom (s3.heap.objs.size+1) sc.names []->sc.names.lookup x=some .cell:=λ{x c} h=>hcell (x,.cell) (zdz h) rfl
  have fhas:∀ {x},sc.names.lookup x=some .cell->∃ c,(cellsFrom (s3.heap.objs.size+1) sc.names []).lookup x=some c:=λ{x} h=>Option.isSome_iff_exists.mp (zdB (mem_of_lookup h))
  generalize pushCells (s3.heap.push { cls:=.type "dict",data:=.dict #[] }) sc.names=h1 at cok hns1 old ⊢;generalize cellsFrom (s3.heap.objs.size+1) sc.names []=F at cok fmem fhas ⊢;have flt:∀ {x c},F.lookup x=some c->s3.heap.objs.size<c:=λ{x c} e=>(cok.empty x c (mem_of_lookup e)).2
  have cl':∀ {x c},(F++cl).lookup x=some c->F.lookup x=some c\/(F.lookup x=none/\cl.lookup x=some c):=λ{x c} e=>by
    rw[List.lookup_append]at e;cases hF:F.lookup x with
    |some c'=>rw[hF]at e;exact .inl e
    |none=>rw[hF]at e;exact .inr ⟨rfl,e⟩
  have hC0:H3 s3.heap.objs.size=none:=I3.fresh;have hlow:X.s₀.heap.objs.size<=s3.heap.objs.size:=I3.sz;have hloc:X.env.locals<s3.heap.objs.size:=I3.lt
  have hcells:∀ x c,X.env.cells.lookup x=some c->c<s3.heap.objs.size:=λx c e=>by obtain⟨v,o,ho,_⟩:=I3.cell x c e;exact Heap.lt_size ho
  have YOk:(inner X sc (own++free) (F++cl) s3.heap.objs.size s3 H3 fp).Ok:={
    mod:=I3.ok.mod
    kind:=by show(relabel sc X.env).kind=.function;exact hkind
    glob:=I3.ok.glob
    blt:=I3.ok.blt
    above:=Nat.le_refl _
    inj:=λx y c hx hy=>by
      rcases cl' hx with h|⟨_,h⟩<;>rcases cl' hy with h'|⟨_,h'⟩
      . exact name_of_addr cok.apart (mem_of_lookup h) (mem_of_lookup h')
      . exact absurd (Nat.lt_trans (flt h) (hcells y c (hcl1 y c h'))) (Nat.lt_irrefl _)
      . exact absurd (Nat.lt_trans (flt h') (hcells x c (hcl1 x c h))) (Nat.lt_irrefl _)
      . exact I3.ok.inj x y c (hcl1 x c h) (hcl1 y c h')
    has:=λx hx=>by
      show ∃ c,(F++cl).lookup x=some c;rw[List.lookup_append];cases hF:F.lookup x with
      |some c=>exact⟨c,rfl⟩
      |none =>
      show ∃ c,cl.lookup x=some c
      have e : (sc.names.lookup x).map (λk => if(k == NameKind.free && X.env.scope.kind == .function && X.env.kindOf x == some .cell)then NameKind.cell else k) = some .cell ∨
          (sc.names.lookup x).map (λk=>if(k==NameKind.free&&X.env.scope.kind==.function&&X.env.kindOf x==some .cell)then NameKind.cell else k)=some .free:=by
        have:=@zcZ X.env x sc.names;rcases hx with hx|hx
        . exact .inl (this.symm.trans hx)
        . exact .inr (this.symm.trans hx)
      cases q:sc.names.lookup x with
      |none=>rw[q]at e;simp at e
      |some k =>
        have hm:=mem_of_lookup q;by_cases hkf:k=.free
        . subst hkf;exact Option.isSome_iff_exists.mp (hcl2 (x,.free) hm rfl)
        . have hkc : k ≠ .cell := λek => by
            subst ek;obtain⟨c,hc⟩:=fhas q;rw[hF]at hc;cases hc
          rw[q]at e;have hb:(k==NameKind.free)=false:=by simpa using hkf
          simp only[Option.map_some,hb,Bool.false_and,Bool.false_eq_true,if_false,Option.some.injEq]at e;rcases e with e|e
          . exact absurd e hkc
          . exact absurd e hkf
    cab:=λx c hx hc=>by
      obtain⟨c',hc'⟩:=fhas (show sc.names.lookup x=some .cell from beq_iff_eq.mp hx);rcases cl' hc with h|⟨h,_⟩
      . exact Nat.le_of_lt (flt h)
      . rw[hc']at h;cases h
    hd:=I3.ok.hd
    frames:=I3.ok.frames
    stk:=.inl rfl
    exf:=λb hb=>⟨λe=>by obtain⟨o,e'⟩:=hfpo b hb;have:=Heap.lt_size e';rw[e]at this;exact Nat.lt_irrefl _ this,λx c hx=>by
      rcases cl' hx with h|⟨_,h⟩
      . obtain⟨o,e'⟩:=hfpo b hb;exact Nat.ne_of_gt (Nat.lt_trans (Heap.lt_size e') (flt h))
      . exact(f2 b hb).2.2.2.2.1 x c (hcl1 x c h)⟩
    bs:=I3.bs
    bsz:=Nat.le_trans I3.ok.bsz I3.sz
    noex:=λb o hb hm=>by
      rcases(f2 b hm).2.2.2.1 with hx|hx
      . exact I3.ok.noex b o hb hx
      . exact Nat.lt_irrefl _ (Nat.lt_of_lt_of_le (Nat.lt_of_lt_of_le (Heap.lt_size hb) I3.ok.bsz) hx)
    exfs:=λb hb hm=>by
      rcases List.mem_cons.mp (I3.stkSub b hm)with e|e
      . exact(f2 b hb).2.1 e
      . exact(f2 b hb).2.2.1 e
    funs:=I3.stack
    frf:=I3.stkFree }
  have hlen0:(cst own fv U).length=(own++free).length:=by unfold cst;rw[List.length_append,List.length_append,List.length_replicate,List.length_map,zml hfv]
  have I4:∀ tk,Inv (inner X sc (own++free) (F++cl) s3.heap.objs.size s3 H3 fp) [] (cst own fv U) H3 { s3 with heap:=h1,toks:=tk }:=λtk=>{
    ok:=YOk
    os:=rfl
    bare:=I3.bare
    base:=Un.kept old
    loc:=by
      refine⟨_,hns1,λi x v hN hσ _=>?_⟩;have hN':(own++free)[i]?=some x:=hN;have hσ':(List.replicate own.length none++fv.map λj=>(U[j]?).join)[i]?=some (some v):=hσ;by_cases hi:i<own.length
      . rw[List.getElem?_append_left (by rw[List.length_replicate];exact hi)]at hσ';rw[List.getElem?_replicate]at hσ';split at hσ'<;>simp at hσ'
      . rw[List.getElem?_append_right (by lia)]at hN';rw[List.getElem?_append_right (by rw[List.length_replicate];lia),List.length_replicate]at hσ';obtain⟨j,hj,hσj,hsx,hkx⟩:=zpk hfv _ x v hN' hσ';obtain⟨m,_,hall⟩:=I3.loc;obtain⟨u,ru,lk⟩:=hall j x v hj hσj (.inr (.inl hkx));refine⟨u,ru,.inr ⟨?_,?_⟩⟩
        . have:=@zcZ X.env x sc.names;rw[hsx]at this;have e2:Env.kindOf (inner X sc (own++free) (F++cl) s3.heap.objs.size s3 H3 fp).env x=(sc.names.map λ(n,k)=>if(k==NameKind.free&&X.env.scope.kind==.function&&X.env.kindOf n==some .cell)then(n,NameKind.cell)else(n,k)).lookup x:=rfl;rw[e2,this];simp only[Option.map_some];split
          . exact .inl rfl
          . exact .inr rfl
        . rcases lk with⟨hl,_⟩|⟨_,c,hc,hcell'⟩
          . rw[hkx]at hl;cases hl
          . obtain⟨c',hc'⟩:=Option.isSome_iff_exists.mp (hcl2 (x,.free) (mem_of_lookup hsx) rfl);have:=hcl1 x c' hc';rw[hc]at this;cases this;refine⟨c,?_,?_⟩
            . show(F++cl).lookup x=some c;rw[List.lookup_append];cases hF:F.lookup x with
              |none=>exact hc'
              |some c2=>have:=fmem (mem_of_lookup hF);rw[hsx]at this;cases this
            obtain⟨o,ho,hd⟩:=hcell';exact⟨o,old _ _ ho,hd⟩
    cell:=λx c hx=>by
      rcases cl' hx with h|⟨_,h⟩
      . exact⟨none,(cok.empty x c (mem_of_lookup h)).1⟩
      . obtain⟨v,o,ho,hd⟩:=I3.cell x c (hcl1 x c h);exact⟨v,o,old _ _ ho,hd⟩
    free:=hC0
    freeC:=λx c hx=>by
      rcases cl' hx with h|⟨_,h⟩
      . exact I3.hok.fresh (Nat.le_of_lt (flt h))
      . exact I3.freeC x c (hcl1 x c h)
    pin:=λq hq=>nomatch hq
    hok:=I3.hok.kept old
    len:=hlen0 }
  have back:∀ (m:Str->Option Value) (H':Hp) (s':Shared),s'.heap.Ns s3.heap.objs.size m->Inv (inner X sc (own++free) (F++cl) s3.heap.objs.size s3 H3 fp) [] (cst own fv U) H' s'->Q (.ref s2.heap.objs.size) H'->RR (.ref s2.heap.objs.size) s3.heap.objs.size (.ok .next) s':=λm H' s' hm IY q=>by
    have u1:Un (frs X.stack) fp H3 H' s3.heap s'.heap:=IY.base;have IX:Inv X pins U H' s':=I3.call' (ch:=fp) (IY.os) u1 IY.hok IY.bare λb hb=>⟨(f2 b hb).2.2.2.1,(f2 b hb).2.1,(f2 b hb).2.2.2.2.1,(f2 b hb).2.2.2.2.2⟩
    refine hRR _ _ m H' s' hm IX IY.free (Nat.ne_of_gt hloc) hlow (λx c hx=>Nat.ne_of_lt (hcells x c hx)) (λq' hq=>?_) q;have:=(I3.pin q' hq).1;exact Nat.ne_of_lt (Heap.lt_size this)
  have stat:∀ {H':Hp},(∀ b∈fp,H' b=none)->∀ b∈fp,zd3 (inner X sc (own++free) (F++cl) s3.heap.objs.size s3 H3 fp) [] H' b:=λhn b hb =>⟨hn b hb,(YOk.exf b hb).1,YOk.exfs b hb,.inl hb,(YOk.exf b hb).2,λq hq=>nomatch hq⟩
  have hYxe:(inner X sc (own++free) (F++cl) s3.heap.objs.size s3 H3 fp).xe=λ_ _=>False:=hxe
  have loop:∀ tk,codeAny (model X.prog X.w) X.A (.compLoop (.ListComp elt [⟨tg,iter,ifs,0⟩] sc pos) 0 (.ref it) (.ref s2.heap.objs.size) (compEnvC sc (F++cl) s3.heap.objs.size X.env)) (RR (.ref s2.heap.objs.size) s3.heap.objs.size) { s3 with heap:=h1,toks:=tk }:=λtk=>by
    refine zkq (λn s'=>∃ i H',Inv (inner X sc (own++free) (F++cl) s3.heap.objs.size s3 H3 fp) [] (cst own fv U) H' s'/\tn i s'.heap/\(∀ b∈fp,H' b=none)/\W i n H') ?_ m0 ⟨0,H3,I4 tk,T.keep _ _ _ st3 (λb _ o e=>old b o e),f3,w0⟩;rintro n s5 ⟨i,H5,I5,st5,fr5,w5⟩;rcases turn i n H5 w5 with⟨stop,q⟩|⟨go,step⟩
    . refine thn (T.done (inner X sc (own++free) (F++cl) s3.heap.objs.size s3 H3 fp) rfl rfl rfl hcalm i [] s5 _ H5 _ I5 (stat fr5) st5 stop) λr s6 ⟨hr,I6⟩=>?_
      subst hr;obtain⟨m,hm,_⟩:=I6.loc;exact back m H5 s6 hm I6 q
    . refine thn (T.item (inner X sc (own++free) (F++cl) s3.heap.objs.size s3 H3 fp) rfl rfl rfl hcalm i [] s5 _ H5 _ I5 (stat fr5) st5 go) λr s6 ⟨u,hr,h6⟩=>?_
      subst hr;refine thn h6 λ_ s7 ⟨x,H7,I7,r7,y7,st7,fr7⟩=>?_
      have I7':=I7.pinned (stat fr7) (T.obj _ _ st7);have hg':=hg (F++cl) s3.heap.objs.size s3 H3 fp _ s7 _ H7 x u _ I7' r7 (step x H7 y7);have ht':=ht (F++cl) s3.heap.objs.size s3 H3 fp;have he':=he (F++cl) s3.heap.objs.size s3 H3 fp;have ap:MtM (inner X sc (own++free) (F++cl) s3.heap.objs.size s3 H3 fp) "list.append" zkx:=zin;unfold PFs at ht';unfold PE at he';unfold MtM at ap;rw[hYxe]at hg' ht' he' ap
      have again : ∀ {pl : List (Addr × Obj)} {σ8 : L2.St} {H8 : Hp} {s8 : Shared}, pl = zfy fp s7.heap → Inv (inner X sc (own ++ free) (F ++ cl) s3.heap.objs.size s3 H3 fp) ([] ++ pl) σ8 H8 s8 → Agr (cst own fv U) σ8 → (∃ m', m' < n ∧ W (i + 1) m' H8) →
          ∃ m,m<n/\∃ i H',Inv (inner X sc (own++free) (F++cl) s3.heap.objs.size s3 H3 fp) [] (cst own fv U) H' s8/\tn i s8.heap/\(∀ b∈fp,H' b=none)/\W i m H':=λ{pl σ8 H8 s8} hpl I8 ag zq9=>by
        obtain⟨m',hm,w8⟩:=zq9;subst hpl;refine⟨m',hm,i+1,H8,(I8.unpinned).weak ag.len.symm (λj v e=>ag.get j v e),T.keep _ _ _ st7 λb hb o e=>(I8.pin (b,o) (List.mem_append_right _ (List.mem_append_right _ (zdK hb e)))).1,λb hb=>?_,w8⟩;obtain⟨o,e,d⟩:=T.obj _ _ st7 b hb;exact(I8.pin (b,o) (List.mem_append_right _ (List.mem_append_right _ (zdK hb e)))).2.1
      refine thn hg' λ_ s8 ⟨σ8,H8,I8,ag,q8⟩=>?_
      refine thn (ht' _ s8 σ8 H8 _ I8 q8) λb s9 ⟨H9,I9,q9⟩=>?_
      cases b with
      |false =>rw[if_neg Bool.false_ne_true]at q9 ⊢;exact again rfl I9 ag q9
      |true =>
        rw[if_pos rfl]at q9 ⊢;refine thn (he' _ s9 σ8 H9 _ I9 q9) λy s10 ⟨yv,H10,I10,ry,ys,hy,hlt,q10⟩=>?_
        refine thn (ap _ s10 σ8 H10 (.ref s2.heap.objs.size) [yv] (.ref s2.heap.objs.size) [y] (λv H'=>v=.non/\H'=upd H10 s2.heap.objs.size (.lst (ys++[yv]))) I10 rfl (.cons ry .nil) ⟨_,ys,yv,rfl,rfl,hy,hlt,rfl,rfl⟩) λz s11 ⟨v11,H11,I11,_,_,e11⟩=>?_
        subst e11;exact again rfl I11 ag q10
  refine codeAny_compStart_list (loop _) (T.self _ 0 _ _ _ (T.keep _ _ _ st3 λb _ o e=>old b o e) (loop _))
def zuZ (hcalm:X.calm=true)(hxe:X.xe=λ_ _=>False)(hkind:sc.kind=.function)(hcell:∀ y∈sc.names,y.2=.cell->sc.names.lookup y.1=some .cell)(hnames:∀ y∈sc.names,y.2=.local->sc.names.lookup y.1=some .local)
  (hfr:zcq (λx=>X.env.kindOf x=some .cell) sc.names) (hfv:zdC X sc free fv) (hi:PI X tg iter wi)
  (hg:∀ cl C s₀ H₀ ex,PG (inner X sc (own++free) cl C s₀ H₀ ex) tg g) (ht:∀ cl C s₀ H₀ ex,PFs (inner X sc (own++free) cl C s₀ H₀ ex) ifs tc) (he:∀ cl C s₀ H₀ ex,PE (inner X sc (own++free) cl C s₀ H₀ ex) elt te)
  (hs:∀ x,foldedSetIterable iter X.env x=pure x:=by intro _;rfl):PE X (.ListComp elt [⟨tg,iter,ifs,0⟩] sc pos) (tLC own fv wi g tc te):=by
 intro pins s U H Q I q;obtain⟨cl,hclos,hcl1,hcl2⟩:=zfg (env:=X.env) (sc:=sc) λy hy e=>I.ok.has y.1 (.inl (hfr.of y hy e))
 rw[eval_ListComp];refine wpAny_comprehension_free (use:=none) rfl hs hclos hkind hnames (thn (hi pins s U H _ I q) λv s1 h1=>thn h1 λitv s2 h2=>?_);obtain⟨it,fp,tn,J,H2,e,I2,T,st2,f2,q2⟩:=h2;subst e;refine ze8 (RR:=λacc C=>compPost (model X.prog X.w) X.A X.xe none (EP X pins U Q) acc C) hcalm hxe hkind hcell hfr hfv hg ht he I2 T st2 f2 q2 hcl1 hcl2 ?_;intro p C m H' s' hm I' hC hCl hC0 hCc hCp q';exact⟨m,hm,λh' hs'=>⟨.ref p,H',I'.turned (t':=s'.toks) (λb o hb e=>hs'.extBut b o hb e) hC hCl (.inr hC0) hCc hCp,rfl,q'⟩⟩
def zqs {i:Nat}{y:Str}{py spos:Pos}(hN:X.N.Nodup)(hy:X.N[i]?=some y)(hyl:X.env.scope.names.lookup y=some .local)(hcalm:X.calm=true)(hxe:X.xe=λ_ _=>False)(hkind:sc.kind=.function)(hcell:∀ y∈sc.names,y.2=.cell->sc.names.lookup y.1=some .cell)(hnames:∀ y∈sc.names,y.2=.local->sc.names.lookup y.1=some .local)
  (hfr:zcq (λx=>X.env.kindOf x=some .cell) sc.names) (hfv:zdC X sc free fv) (hi:PI X tg iter wi)
  (hg:∀ cl C s₀ H₀ ex,PG (inner X sc (own++free) cl C s₀ H₀ ex) tg g) (ht:∀ cl C s₀ H₀ ex,PFs (inner X sc (own++free) cl C s₀ H₀ ex) ifs tc) (he:∀ cl C s₀ H₀ ex,PE (inner X sc (own++free) cl C s₀ H₀ ex) elt te)
  (hsw:swapsWith (.ListComp elt [⟨tg,iter,ifs,0⟩] sc pos) (some (.Name y py)) spos.line X.env=pure true:=by rfl)
  (hs:∀ x,foldedSetIterable iter X.env x=pure x:=by intro _;rfl):PS X (.Assign [.Name y py] (.ListComp elt [⟨tg,iter,ifs,0⟩] sc pos) spos) (zmi (tLC own fv wi g tc te) (zak i)):=by
 intro pins s U H D I q;obtain⟨cl,hclos,hcl1,hcl2⟩:=zfg (env:=X.env) (sc:=sc) λy hy e=>I.ok.has y.1 (.inl (hfr.of y hy e))
 rw[exec_Assign_Name_used _ _ _ _ hsw];refine wpAny_bind (wpAny_standAt (wpAny_bind ?_));show wpAny _ X.A (do let _ <- comprehension (.ListComp elt [⟨tg,iter,ifs,0⟩] sc pos) sc X.env _ (newList []) false (eval iter X.env) (some (assign (.Name y py) X.env))) _ _ s
 refine wpAny_bind (wpAny_mono (wpAny_comprehension_free (use:=some (assign (.Name y py) X.env)) (Q:=λ_ s'=>SP X pins D .next s') rfl hs hclos hkind hnames
  (thn (hi pins s U H _ I q) λv s1 h1=>thn h1 λitv s2 h2=>?_)) (λ_ s' hq=>wpAny_pure (wpAny_pure hq)) λ_ _ e=>e)
 obtain⟨it,fp,tn,J,H2,e,I2,T,st2,f2,q2⟩:=h2;subst e;refine ze8 (RR:=λacc C=>compPost (model X.prog X.w) X.A X.xe (some (assign (.Name y py) X.env)) (λ_ s'=>SP X pins D .next s') acc C) (Q:=λx H1=>zak i x U H1 D.nx) hcalm hxe hkind hcell hfr hfv hg ht he I2 T st2 f2 q2 hcl1 hcl2 ?_;intro p C m H' s' hm I' hC hCl hC0 hCc hCp q';show wpAny _ X.A (assign (.Name y py) X.env (.ref p)) _ _ _;refine wpAny_assign_Name (zfV (v:=.ref p) I' hN hy (.inl hyl) rfl (λs'' I'' hsb=>?_) (.inr hyl));obtain⟨a,hsb,ha⟩:=hsb
 have hCa:C≠a:=by
  rcases ha with rfl|ha
  ·exact hCl
  ·exact λe=>hCc _ _ ha e.symm
 refine⟨m,hm.sameBut hsb hCa,λh' hs'=>⟨_,H',I''.turned (t':=s''.toks) (λb o hb e=>hs'.extBut b o hb e) hC hCl (.inr hC0) hCc hCp,q'⟩⟩
end
section
variable {U:L2.St}{H:Hp}{K:PySem.W.Frag}
end
section
variable {X:Cx}{tg:Expr}
end
mutual
inductive Dt (K:PySem.W.Frag)(H:Hp):V->PyData->Prop
 |non:Dt K H .non .none
 |bl (b:Bool):Dt K H (.bl b) (.bool b)
 |int (i:Int):Dt K H (.int i) (.int i)
 |tup {a:Addr} {xs:List V} {ds:List PyData}:SqT K H a xs->zhF K H xs ds->Dt K H (.ref a) (.tuple ds)
 |lst {a:Addr} {xs:List V} {ds:List PyData}:SqL K H a xs->zhF K H xs ds->Dt K H (.ref a) (.list ds)
inductive zhF (K:PySem.W.Frag)(H:Hp):List V->List PyData->Prop
 |nil:zhF K H [] []
 |cons {x:V} {xs:List V} {d:PyData} {ds:List PyData}:Dt K H x d->zhF K H xs ds->zhF K H (x::xs) (d::ds)
end
section
variable {X:Cx}{pins:List (Addr×Obj)}{U:L2.St}{H:Hp}{s:Shared}
end
section
variable {X:Cx}{pins:List (Addr×Obj)}{U:L2.St}{H:Hp}{s:Shared}
def _root_.L2.Inv.turnNew {h':Heap}{ch:List Addr}{a:Addr}{o:HO}{t':Nat}(I:Inv X pins U H s)(hf:∀ b∈ch,zd3 X pins H b)(k:∀ b u,b∉ch->s.heap.get? b=some u->h'.get? b=some u)(ha:s.heap.objs.size<=a)
  (new:zaQ X.prog X.w (upd H a o) h' a o):Inv X pins U (upd H a o) { s with heap:=h',toks:=t' }:=by
 have lt:∀ b u,s.heap.get? b=some u->b≠a:=λb u e z=>by have:=Heap.lt_size e;rw[z]at this;exact Nat.lt_irrefl _ (Nat.lt_of_lt_of_le this ha)
 have ltH:∀ b u,H b=some u->b≠a:=λb u e z=>by have:=I.hok.lt e;rw[z]at this;exact Nat.lt_irrefl _ (Nat.lt_of_lt_of_le this ha)
 have nch:∀ b u,H b=some u->b∉ch:=λb u e z=>by rw[(hf b z).1]at e;cases e
 refine I.step (g':=s.gens) (d':=s.drawn) (ch:=ch) (λb hb=>⟨(hf b hb).2.2.2.1,(hf b hb).2.1,(hf b hb).2.2.2.2.1,(hf b hb).2.2.2.2.2⟩) (λb u _ _ hc e _=>k b u hc e) (λb u _ _ hc e _=>⟨u.slots,k b u hc e⟩)
  (λb u _ e n=>by rw[zP (lt b u e)];exact n) (λb u hc e=>⟨u,k b u hc e⟩) (λb xs e=>by rw[zP (ltH b _ e)];exact e) (λb u v e=>by rw[zP (ltH b _ e)];exact e)
  (λb ps e=>⟨#[],by rw[zP (ltH b _ e),e];simp⟩) (λm hm=>?_) (λb u e=>?_) I.bare
 ·obtain⟨ob,es,ep,ho,r⟩:=hm;exact⟨ob,es,ep,k _ ob (λz=>(hf _ z).2.1 rfl) ho,r⟩
 ·by_cases hb:b=a
  ·subst hb;rw[zat]at e;cases e;exact new
  ·rw[zP hb]at e;refine(I.hok b u e).stay (λc v hc q=>k c v ?_ q) (λc q=>by rw[zP (ltH c _ q)];exact q) λc ys q=>by rw[zP (ltH c _ q)];exact q
   rcases hc with z|z
   ·rw[z];exact nch b u e
   ·exact nch c _ z
def _root_.L2.Inv.turnedL {h':Heap}{ch:List Addr}{t':Nat}(I:Inv X pins U H s)(hf:∀ b∈ch,zd3 X pins H b)(k:∀ b u,b∉ch->s.heap.get? b=some u->h'.get? b=some u):Inv X pins U H { s with heap:=h',toks:=t' }:=by
 have nch:∀ b u,H b=some u->b∉ch:=λb u e z=>by rw[(hf b z).1]at e;cases e
 refine I.step (g':=s.gens) (d':=s.drawn) (ch:=ch) (λb hb=>⟨(hf b hb).2.2.2.1,(hf b hb).2.1,(hf b hb).2.2.2.2.1,(hf b hb).2.2.2.2.2⟩) (λb u _ _ hc e _=>k b u hc e) (λb u _ _ hc e _=>⟨u.slots,k b u hc e⟩)
  (λb u _ e n=>n) (λb u hc e=>⟨u,k b u hc e⟩) (λb xs e=>e) (λb u v e=>e) (λb ps e=>⟨#[],by rw[e];simp⟩) (λm hm=>?_) (λb u e=>?_) I.bare
 ·obtain⟨ob,es,ep,ho,r⟩:=hm;exact⟨ob,es,ep,k _ ob (λz=>(hf _ z).2.1 rfl) ho,r⟩
 ·refine(I.hok b u e).stay (λc v hc q=>k c v ?_ q) (λc q=>q) λc ys q=>q
  rcases hc with z|z
  ·rw[z];exact nch b u e
  ·exact nch c _ z
end
section
variable {X:Cx}
end
def Ite (K:PySem.W.Frag)(l:Addr):It :=
  ⟨λi H=>∃ xs x,SqL K H l xs/\xs[i]?=some x,
   λi H v H'=>∃ p,v=.ref p/\H p=none/\∀ xs x,SqL K H l xs->xs[i]?=some x->H'=upd H p (.tup [.int i,x]),
   λi H=>∃ xs,SqL K H l xs/\xs.length<=i⟩
def zmF {P:Program}{w:World}{K:PySem.W.Frag}{es:List Expr}{kk:Nat}{pos:Pos}{e it l:Addr}(hne:e≠it) :
  Turn P w K (.Tuple es kk pos) (Ite K l) [e,it] e (λi h=>(∃ old,IsEnum h e it i old)/\h.IsListIter it l i) where
 mem:=by simp
 obj:=λi h st b hb=>by
  obtain⟨⟨old,he⟩,⟨o1,h1,_,h1d⟩⟩:=st;simp only[List.mem_cons,List.not_mem_nil,or_false]at hb;rcases hb with rfl|rfl
  ·exact⟨_,he,λv q=>by cases(show Data.fields _=Data.cell v from q)⟩
  ·exact⟨_,h1,λv q=>by rw[h1d]at q;cases q⟩
 keep:=λi h h' st k=>by obtain⟨⟨old,he⟩,h1⟩:=st;exact⟨⟨old,k e (by simp) _ he⟩,h1.at λo q=>k it (by simp) o q⟩
 item:=by
  intro X hP hw hK hc i pins s U H E I hf st hg;subst hP hw hK;obtain⟨⟨old,he⟩,h1⟩:=st;obtain⟨xs,x,hx1,hx⟩:=hg;obtain⟨its,rx,px,zx⟩:=I.list hx1;obtain⟨u,hu,ru⟩:=Vals.get rx hx;refine wpAny_pyNext_enum_item he h1 px.isList (by simpa using hu) hne λh' a1 a2 a3 a4 hk=>?_
  refine⟨_,rfl,wpAny_letOwnedTupleGo_enum (s:={ s with heap:=h',toks:=s.toks+1 }) a1 λh'' he'' hs''=>?_⟩;have lt:∀ {c o},s.heap.get? c=some o->s.heap.objs.size≠c:=λq=>Nat.ne_of_gt (Heap.lt_size q)
  have k2:∀ b u,b∉[e,it]->s.heap.get? b=some u->h''.get? b=some u:=λb u hb q=>by simp only[List.mem_cons,List.not_mem_nil,or_false,not_or]at hb;exact hs''.extBut b u hb.1 (hk b u hb.1 hb.2 q)
  have new:h''.get? s.heap.objs.size=some { cls:=.type "tuple",data:=.seq #[.int i s.toks,u] }:=hs''.extBut _ _ (lt he) a3;refine⟨.ref s.heap.objs.size,upd H s.heap.objs.size (.tup [.int i,x]),I.turnNew (t':=s.toks+1) hf k2 (Nat.le_refl _) ⟨by show 2<=sizeLine;decide,[.int i s.toks,u],.cons ⟨_,rfl⟩ (.cons ru .nil),_,new,rfl,_,rfl⟩,rfl,⟨_,rfl,I.fresh,?_⟩,?_,λb hb=>?_⟩
  ·intro xs' x' hx1' hx';cases I.list_inj hx1 hx1';rw[hx]at hx';cases hx';rfl
  ·exact⟨⟨_,he''⟩,a2.extBut hs''.extBut (Ne.symm hne)⟩
  ·have:∃ o,s.heap.get? b=some o:=by
    simp only[List.mem_cons,List.not_mem_nil,or_false]at hb;obtain⟨o1,e1,_⟩:=h1;rcases hb with rfl|rfl
    ·exact⟨_,he⟩
    ·exact⟨_,e1⟩
   obtain⟨o,q⟩:=this;rw[zP (lt q).symm];exact(hf b hb).1
 done:=by
  intro X hP hw hK hc i pins s U H E I hf st hg;subst hP hw hK;obtain⟨⟨old,he⟩,h1⟩:=st;obtain⟨xs,hx1,hl⟩:=hg;obtain⟨its,rx,px,zx⟩:=I.list hx1;have n1:=rx.length;refine wpAny_pyNext_enum_end (I.ok.hd hc) he h1 px.isList (by rw[List.getElem?_toArray];exact List.getElem?_eq_none (by lia)) λh' hk=>⟨rfl,I.turnedL (t':=s.toks) hf λb u hb q=>?_⟩
  simp only[List.mem_cons,List.not_mem_nil,or_false,not_or]at hb;exact hk b u hb.2 q
 self:=λ_ _ _ _ _ st h=>by obtain⟨⟨old,he⟩,_⟩:=st;exact wpAny_pyIter_enum he h
section
variable {X:Cx}
end
def hT (x1 z1 x2 z2 a b:Int):Int:=z1*(x2-x1)*b+(z2-z1)*(a-x1*b)
def hB (x1 x2 b:Int):Int:=(x2-x1)*b
section
variable {U:L2.St}{H:Hp}
end
structure zia (P:Program)(w:World)(K:PySem.W.Frag)(mg:Str->Option Value)(base:Heap)(k:Nat)(x:Str)(sp:Sp):Prop where
 ex:∃ (C f:Addr) (fd:FuncData) (ps:List Str) (sp0:Sp),Mk K C f/\zQ P w K mg base CX0 k f fd ps sp0/\Binds K fd ps []/\mg x=some (.ref C) /\
  ∀ vs H Q,sp vs H Q E0->∀ x dx,H x=none->H dx=none->dx≠x->sp0 (.ref x::vs) (upd (upd H dx (.own x)) x (.ins C dx [])) (λv H2=>v=.non/\Q (.ref x) H2) E0
def zuO {X:Cx}{p pos:Pos}{e:Expr}{es:List Expr}(G:zia X.prog X.w X.K X.mg X.base k x sp)(hr:zaB j X.A)(hk:k+1<=j)(hg:Gl X x)(ha:PA X (e::es) t)(hdb:autoParam ((x==("__debug__":Str))=false) zW)(he:autoParam (starEach (e::es) X.env=(false,eval e X.env)::starEach es X.env) zL)(hpl:autoParam ((backTo pos (starEach es X.env)).any (·.1)=false) zL) :
  PE X (.Call (.Name x p) (e::es) [] pos) (zl0 sp [] E0 t):=by
 intro pins s U H Q I h;obtain⟨C,f,fd,ps,sp0,M,F,b,hm,imp⟩:=G.ex;refine wpAny_Call_Name_kw (zc6 I hg hm ?_ hdb);refine PySem.W.callWith_K (h₀:=X.base) I.ok.mod.kin M.kp (thn (ha pos pins s U H _ I h) λus s1 ⟨vs,H1,I1,r,q⟩=>⟨I1.kIn,?_⟩) he hpl;have q':sp (vs++[]) H1 Q E0:=q;rw[List.append_nil]at q';exact zoU (dvs:=[]) (ds:=[]) M F (hr.mono hk) b .nil zpj I1 r λx dx h1 h2 h3=>by rw[List.append_nil];exact imp vs H1 Q q' x dx h1 h2 h3
def zqq {n:Int}{pos:Pos}(hg:Gl X x)(hm:∃ t,X.mg x=some (.int n t))(hd:autoParam ((x==("__debug__":Str))=false) zW):PE X (.Name x pos) (tC (.int n)):=by obtain⟨t,ht⟩:=hm;exact zld (v:=.int n) hg ht ⟨t,rfl⟩ hd
section
variable {U:L2.St}{H:Hp}{K:PySem.W.Frag}
end
section
variable {X:Cx}{K:PySem.W.Frag}
def zsB {its:List Value}(_:Inv X pins U H s)(pl:PlainL s.heap p its.toArray) :
  p<s.heap.objs.size/\(s.heap.push { cls:=.type "list_iterator",data:=.fields #[.ref p,.int 0 0] }).IsListIter s.heap.objs.size p 0:=by
 obtain⟨o,ho,_⟩:=pl.isList;exact⟨Heap.lt_size ho,_,Heap.get?_push_size _ rfl,rfl,rfl⟩
def zsx {h':Heap}{tk:Nat}(I:Inv X pins U H s){o:Obj}(hk:∀ b u,b∉[s.heap.objs.size]->(s.heap.push o).get? b=some u->h'.get? b=some u) :
  Inv X pins U H { s with heap:=h',toks:=tk }:=I.kept (t':=tk) λd u e=>hk d u (λhm=>by
   have h1:d=s.heap.objs.size:=by simpa using hm
   have h2:=Heap.lt_size e;rw[h1]at h2;exact Nat.lt_irrefl _ h2) (Heap.get?_push_of_some _ e)
def zvM (K:PySem.W.Frag):List V->Hp->VK->Prop:=λxs H Q=>∃ (p:Addr) (bs:List Bool),xs=[.ref p]/\SqL K H p (bs.map V.bl)/\Q (.bl (bs.all id)) H
def zov {bs:List Bool}(rv:Vals (bs.map V.bl) its){i:Nat}{v:Value}(h:its.toArray[i]?=some v):v=.bool (bs.getD i false):=by
 rw[<- Array.getElem?_toList]at h
 have hi:i<its.length:=by
  rcases Nat.lt_or_ge i its.length with g|g
  ·exact g
  ·rw[List.getElem?_eq_none (by simpa using g)]at h;cases h
 have hl:=rv.length;rw[List.length_map]at hl
 have e:(bs.map V.bl)[i]?=some (.bl (bs.getD i false)):=by rw[List.getElem?_map,List.getElem?_eq_getElem (by lia)];simp[List.getD_eq_getElem?_getD,List.getElem?_eq_getElem (show i<bs.length by lia)]
 obtain⟨u,hu,ru⟩:=rv.get e;rw[show its.toArray.toList=its from rfl,hu]at h;cases h;exact ru
def all_range (bs:List Bool):(List.range bs.length).all (λi=>bs.getD i false)=bs.all id:=by
 rw[Bool.eq_iff_iff,List.all_eq_true,List.all_eq_true];constructor
 ·intro h b hb;obtain⟨i,hi,rfl⟩:=List.mem_iff_getElem.mp hb;simpa [List.getD_eq_getElem?_getD,List.getElem?_eq_getElem hi]using h i (List.mem_range.mpr hi)
 ·intro h i hi;rw[List.mem_range]at hi;have:=h bs[i] (List.getElem_mem hi);simpa [List.getD_eq_getElem?_getD,List.getElem?_eq_getElem hi]using this
def zmM (hK:X.K=K)(hc:X.calm=true):zas X (.builtin "all") (zvM K):=λpins s U H xs us Q I r h=>by
 subst hK;obtain⟨p,bs,rfl,hS,q⟩:=h;obtain⟨u,rfl,ru⟩:=vals1 r;cases ru;obtain⟨its,rv,pl,hz⟩:=I.list hS;obtain⟨lt,st⟩:=zsB I pl;have hl:=rv.length;rw[List.length_map]at hl;have W:=Walks.list (prog:=X.prog) (w:=X.w) (A:=X.A.in1) (I.ok.hd hc) s.heap.objs.size p (Nat.ne_of_lt lt) its.toArray;refine call_all_walk (wpAny_pyIter_list pl.isList ⟨s.heap.objs.size,[s.heap.objs.size,p],[s.heap.objs.size],_,_,_,λi=>bs.getD i false,rfl,W,⟨st,pl.isList.push _⟩,?_,?_⟩)
 ·intro i v s' Q' E' hv hq;rw[zov rv hv];exact wpAny_truthy_bool hq
 ·intro h' tk hk;rw[List.size_toArray,<- hl,all_range];exact⟨.bl _,H,zsx (s:=s) I hk,rfl,q⟩
def ztN (K:PySem.W.Frag):List V->Hp->VK->Prop:=λxs H Q=>∃ (p:Addr) (ns:List Int),xs=[.ref p]/\SqL K H p (ns.map V.int)/\0<ns.length/\∀ m:Int,m∈ns->(∀ a∈ns,a<=m)->Q (.int m) H
def zuC (K:PySem.W.Frag):List V->Hp->VK->Prop:=λxs H Q=>∃ (p:Addr) (ns:List Int),xs=[.ref p]/\SqL K H p (ns.map V.int)/\0<ns.length/\∀ m:Int,m∈ns->(∀ a∈ns,m<=a)->Q (.int m) H
theorem zfh:∀ {ns:List Int} {its:List Value},Vals (ns.map V.int) its->∃ xs:Array (Int×Tok),its.toArray=intItems xs/\xs.toList.map (·.1)=ns
 |[],_,h=>by cases h;exact⟨#[],by simp[intItems],rfl⟩
 |n::ns,_,h=>by
  cases h with
  |cons r t =>
   obtain⟨tk,rfl⟩:=r;obtain⟨xs,e1,e2⟩:=zfh t;refine⟨#[(n,tk)]++xs,?_,?_⟩
   ·apply Array.toList_inj.mp;have:=congrArg Array.toList e1;simp[intItems]at this ⊢;exact this
   ·simp[e2]
def zna (hK:X.K=K)(hc:X.calm=true):zas X (.builtin "max") (ztN K):=λpins s U H xs us Q I r h=>by
 subst hK;obtain⟨p,ns,rfl,hS,hne,q⟩:=h;obtain⟨u,rfl,ru⟩:=vals1 r;cases ru;obtain⟨its,rv,pl,hz⟩:=I.list hS;obtain⟨xs,e1,e2⟩:=zfh rv;have hsz:0<xs.size:=by rw[<- Array.length_toList,<- List.length_map (f:=(·.1)),e2];exact hne
 refine max_intList (I.ok.hd hc) (e1▸pl.isList) hsz λv h' tk hv hk=>?_
 obtain⟨t,rfl⟩:=intItems_at hv;obtain⟨h1,h2⟩:=argBest_gt (numAt xs) (xs.size-1);refine⟨.int _,H,I.kept (t':=tk) hk,⟨t,rfl⟩,q _ ?_ λa ha=>?_⟩
 ·rw[<- e2,numAt_eq];exact getD_mem (by rw[List.length_map,Array.length_toList];lia)
 ·rw[<- e2]at ha;obtain⟨j,hj,rfl⟩:=mem_getD ha;rw[List.length_map,Array.length_toList]at hj;rw[<- numAt_eq];exact h2 j (by lia)
def znB (hK:X.K=K)(hc:X.calm=true):zas X (.builtin "min") (zuC K):=λpins s U H xs us Q I r h=>by
 subst hK;obtain⟨p,ns,rfl,hS,hne,q⟩:=h;obtain⟨u,rfl,ru⟩:=vals1 r;cases ru;obtain⟨its,rv,pl,hz⟩:=I.list hS;obtain⟨xs,e1,e2⟩:=zfh rv;have hsz:0<xs.size:=by rw[<- Array.length_toList,<- List.length_map (f:=(·.1)),e2];exact hne
 refine min_intList (I.ok.hd hc) (e1▸pl.isList) hsz λv h' tk hv hk=>?_
 obtain⟨t,rfl⟩:=intItems_at hv;obtain⟨h1,h2⟩:=argBest_lt (numAt xs) (xs.size-1);refine⟨.int _,H,I.kept (t':=tk) hk,⟨t,rfl⟩,q _ ?_ λa ha=>?_⟩
 ·rw[<- e2,numAt_eq];exact getD_mem (by rw[List.length_map,Array.length_toList];lia)
 ·rw[<- e2]at ha;obtain⟨j,hj,rfl⟩:=mem_getD ha;rw[List.length_map,Array.length_toList]at hj;rw[<- numAt_eq];exact h2 j (by lia)
def zug (K:PySem.W.Frag):List V->Hp->VK->Prop:=λxs H Q=>∃ p ys,xs=[.ref p]/\((SqL K H p ys/\∀ l,H l=none->Q (.ref l) (upd H l (.tup ys)))\/(SqT K H p ys/\Q (.ref p) H))
def zng (hK:X.K=K):zas X (.type "tuple") (zug K):=hK▸ziD
end
section
variable {X:Cx}{K:PySem.W.Frag}
def ztG (K:PySem.W.Frag):R2:=λx y H Q=>∃ l b xs zs,x=.ref l/\y=.ref b/\SqL K H l xs/\SqL K H b zs/\xs.length+zs.length<=sizeLine/\∀ p,H p=none->Q (.ref p) (upd H p (.lst (xs++zs)))
def zp5 (hK:X.K=K):OpR X (binaryOp .Add) (ztG K):=by
 subst hK;intro pins s U H x y v u Q I rx ry h;obtain⟨l,b,xs,zs,rfl,rfl,hH,hB,hz,q⟩:=h;cases rx;cases ry;obtain⟨its,r,pl,_⟩:=I.list hH;obtain⟨its2,r2,pl2,_⟩:=I.list hB;obtain⟨⟨cls,dd,data,sl⟩,ho,hc,n,hd⟩:=pl.isList;obtain⟨⟨cls2,dd2,data2,sl2⟩,ho2,hc2,n2,hd2⟩:=pl2.isList;simp only at hc hd hc2 hd2;subst hc hd hc2 hd2;have e1:=r.length;have e2:=r2.length;refine concat_meets ⟨_,ho,rfl⟩ ⟨_,ho2,rfl⟩ noFill_list_add seq_list_add PySem.F.slot_list_add PySem.F.entry_list_add (PySem.F.args_list_add_2 _ _) (list_addW l b its.toArray its2.toArray n n2 dd dd2 sl sl2 (by rw[List.size_toArray,List.size_toArray];lia)) ⟨ho,ho2,?_⟩;have ea:its.toArray++its2.toArray=(its++its2).toArray:=by simp
 rw[ea];exact⟨.ref _,_,I.lnew (t':=s.toks) (r.append r2) (by rw[List.length_append];lia),rfl,q _ I.fresh⟩
end
section
variable {U:L2.St}{K:PySem.W.Frag}{own:List Str}{fv:List Nat}{g:TG}{tc:TT}{te:TE}{R:Hp->Prop}{H1:Hp}{p a:Addr}{xs:List V}
end
def zeh (H:Hp)(ps:List Addr)(cs:List (Int×Int)):Prop:=Paired (λ(p:Addr) (c:Int×Int)=>H p=some (.tup [.int c.1,.int c.2])) ps cs
theorem zeh.length (h:zeh H ps cs):ps.length=cs.length:=Paired.length h
def zaT {α:Type}{xs:List α}{i:Nat}{x:α}(h:xs[i]?=some x):i<xs.length:=by
 rcases Nat.lt_or_ge i xs.length with g|g
 ·exact g
 ·rw[List.getElem?_eq_none g]at h;cases h
open PySem PySem.W PyProof.Rows
def zab {α:Type}(lt:Nat->Nat->Bool):KasT α->α
 |.ret a=>a
 |.ask i j k=>zab lt (k (lt i j))
theorem zcD {α β:Type}(lt:Nat->Nat->Bool)(f:α->KasT β):∀ t:KasT α,zab lt (t.bind f)=zab lt (f (zab lt t))
 |.ret _=>rfl
 |.ask i j k=>zcD lt f (k (lt i j))
structure Swo (lt:Nat->Nat->Bool):Prop where
 asymm:∀ a b,lt a b=true->lt b a=false
 ntrans:∀ a b c,lt b a=false->lt c b=false->lt c a=false
section
variable {lt:Nat->Nat->Bool}
abbrev ga (p:Array Nat)(i:Nat):Nat:=p.getD i 0
def zfC (p:Array Nat)(i:Nat):ga p i=(p[i]?).getD 0:=by simp[ga,Array.getD_eq_getD_getElem?]
def zm0 {p:Array Nat}{src d:Nat}(hs:src<p.size)(hd:d<=src)(k:Nat):ga (bubble p src d) k=if k=src-d then ga p src else if src-d<k/\k<=src then ga p (k-1)else ga p k:=by
 rw[zfC,getElem?_bubble hs d hd];by_cases h1:k=src-d
 ·rw[if_pos h1,if_pos h1,zfC]
 ·rw[if_neg h1,if_neg h1];by_cases h2:src-d<k/\k<=src
  ·rw[if_pos h2,if_pos h2,zfC]
  ·rw[if_neg h2,if_neg h2,zfC]
def zcj {p:Array Nat}{i j:Nat}(hj:j<=p.size)(k:Nat):ga (kas_rev p i j) k=if i<=k/\k<j then ga p (i+j-1-k)else ga p k:=by unfold kas_rev;rw[zfC,getElem?_mirror_all hj];split<;>rw[zfC]
def Asc (lt:Nat->Nat->Bool)(p:Array Nat)(n:Nat):=∀ i j,i<=j->j<n->lt (ga p j) (ga p i)=false
def Dsc (lt:Nat->Nat->Bool)(p:Array Nat)(n:Nat):=∀ i j,i<=j->j<n->lt (ga p i) (ga p j)=false
def Eqs (lt:Nat->Nat->Bool)(p:Array Nat)(a b:Nat):=∀ i j,a<=i->i<b->a<=j->j<b->lt (ga p i) (ga p j)=false
def irr (S:Swo lt)(a:Nat):lt a a=false:=by
 cases h:lt a a with
 |false=>rfl
 |true=>have:=S.asymm a a h;rw[h]at this;exact this
def Asc.snoc (S:Swo lt){n:Nat}(h1:1<=n)(h:Asc lt p n)(hn:lt (ga p n) (ga p (n-1))=false):Asc lt p (n+1):=by
 intro i j hij hj;rcases Nat.lt_or_ge j n with g|g
 ·exact h i j hij g
 ·have e:j=n:=by lia
  subst e;rcases Nat.lt_or_ge i j with g'|g'
  ·exact S.ntrans (ga p i) (ga p (j-1)) (ga p j) (h i (j-1) (by lia) (by lia)) hn
  ·have:i=j:=by lia
   subst this;exact irr S _
def Dsc.snoc (S:Swo lt){n:Nat}(h1:1<=n)(h:Dsc lt p n)(hn:lt (ga p (n-1)) (ga p n)=false):Dsc lt p (n+1):=by
 intro i j hij hj;rcases Nat.lt_or_ge j n with g|g
 ·exact h i j hij g
 ·have e:j=n:=by lia
  subst e;rcases Nat.lt_or_ge i j with g'|g'
  ·exact S.ntrans (ga p j) (ga p (j-1)) (ga p i) hn (h i (j-1) (by lia) (by lia))
  ·have:i=j:=by lia
   subst this;exact irr S _
def Dsc.rev {p:Array Nat}{n:Nat}(hn:n<=p.size)(h:Dsc lt p n):Asc lt (kas_rev p 0 n) n:=by intro i j hij hj;rw[zcj hn,zcj hn,if_pos ⟨by lia,hj⟩,if_pos ⟨by lia,by lia⟩];exact h _ _ (by lia) (by lia)
def Asc.rev {p:Array Nat}{n:Nat}(hn:n<=p.size)(h:Asc lt p n):Dsc lt (kas_rev p 0 n) n:=by intro i j hij hj;rw[zcj hn,zcj hn,if_pos ⟨by lia,by lia⟩,if_pos ⟨by lia,by lia⟩];exact h _ _ (by lia) (by lia)
def Dsc.turn (S:Swo lt){p:Array Nat}{n a:Nat}(hn:n<=p.size)(ha:a<=n)(h:Dsc lt p n)(he:Eqs lt p a n):Dsc lt (kas_rev p a n) n:=by
 intro i j hij hj;rw[zcj hn,zcj hn];by_cases hi:a<=i
 ·rw[if_pos ⟨hi,by lia⟩,if_pos ⟨by lia,hj⟩];exact he _ _ (by lia) (by lia) (by lia) (by lia)
 ·rw[if_neg (by lia)];by_cases hj':a<=j
  ·rw[if_pos ⟨hj',hj⟩];exact h _ _ (by lia) (by lia)
  ·rw[if_neg (by lia)];exact h _ _ hij hj
def zct {p:Array Nat}{i j:Nat}:(kas_rev p i j).size=p.size:=mirror_size _ _ _ _
def zbQ {p:Array Nat}{i j:Nat}:(kas_rev p i j).Perm p:=mirror_perm _ _ _ _
theorem zi0 (S:Swo lt)(p:Array Nat):∀ f n,1<=n->Asc lt p n->Asc lt p (zab lt (kas_asc p f n))/\n<=zab lt (kas_asc p f n)/\zab lt (kas_asc p f n)<=n+f/\(zab lt (kas_asc p f n)<n+f->lt (ga p (zab lt (kas_asc p f n))) (ga p (zab lt (kas_asc p f n)-1))=true)
 |0,n,_,h=>⟨h,Nat.le_refl _,Nat.le_refl _,λz=>absurd z (Nat.lt_irrefl _)⟩
 |f+1,n,h1,h=>by
  cases hc:lt (ga p n) (ga p (n-1))with
  |true =>
   have e:zab lt (kas_asc p (f+1) n)=n:=by show zab lt (if lt (ga p n) (ga p (n-1))=true then KasT.ret n else kas_asc p f (n+1))=n;rw[if_pos hc];rfl
   rw[e];exact⟨h,Nat.le_refl _,by lia,λ_=>hc⟩
  |false =>
   have e:zab lt (kas_asc p (f+1) n)=zab lt (kas_asc p f (n+1)):=by show zab lt (if lt (ga p n) (ga p (n-1))=true then KasT.ret n else kas_asc p f (n+1))=_;rw[if_neg (by rw[hc];exact Bool.false_ne_true)]
   rw[e];obtain⟨a1,a2,a3,a4⟩:=zi0 S p f (n+1) (by lia) (h.snoc S h1 hc);exact⟨a1,by lia,by lia,λz=>a4 (by lia)⟩
theorem zf8 (S:Swo lt):∀ f (p:Array Nat) n q,1<=n->n+f<=p.size->q+1<=n->Dsc lt p n->Eqs lt p (n-(q+1)) n ->
    let r:=zab lt (kas_desc f p n q)
    r.1.size=p.size/\r.1.Perm p/\n<=r.2.1/\r.2.1<=n+f/\r.2.2+1<=r.2.1/\Dsc lt r.1 r.2.1/\Eqs lt r.1 (r.2.1-(r.2.2+1)) r.2.1
  |0,p,n,q,h1,hz,hq,h,he=>⟨rfl,Array.Perm.refl _,Nat.le_refl _,Nat.le_refl _,hq,h,he⟩
  |f+1,p,n,q,h1,hz,hq,h,he=>by
    have one:∀ p':Array Nat,Eqs lt p' (n+1-(0+1)) (n+1):=λp' i j a b c d=>by
      have e1:i=n:=by lia
      have e2:j=n:=by lia
      subst e1;subst e2;exact irr S _
    cases hc:lt (ga p n) (ga p (n-1))with
    |true =>
      have hn:lt (ga p (n-1)) (ga p n)=false:=S.asymm _ _ hc;by_cases hq0:q > 0
      . have e : zab lt (kas_desc (f + 1) p n q) = zab lt (kas_desc f (kas_rev p (n - (q + 1)) n) (n + 1) 0) := by
          show zab lt (if lt (ga p n) (ga p (n-1))=true then(if q > 0 then kas_desc f (kas_rev p (n-(q+1)) n) (n+1) 0 else kas_desc f p (n+1) 0)else _)=_;rw[if_pos hc,if_pos hq0]
        have ht:=h.turn S (a:=n-(q+1)) (by lia) (by lia) he;have k1:ga (kas_rev p (n-(q+1)) n) n=ga p n:=by rw[zcj (by lia),if_neg (by lia)]
        have k2:ga (kas_rev p (n-(q+1)) n) (n-1)=ga p (n-(q+1)):=by rw[zcj (by lia),if_pos ⟨by lia,by lia⟩];congr 1;lia
        have hs:=Dsc.snoc S (p:=kas_rev p (n-(q+1)) n) h1 ht (by rw[k1,k2];exact S.ntrans (ga p n) (ga p (n-1)) (ga p (n-(q+1))) hn (he _ _ (by lia) (by lia) (by lia) (by lia)))
        have ih:=zf8 S f (kas_rev p (n-(q+1)) n) (n+1) 0 (by lia) (by rw[zct];lia) (by lia) hs (one _);rw[e];obtain⟨a1,a2,a3,a4,a5,a6,a7⟩:=ih;exact⟨a1.trans zct,a2.trans zbQ,by lia,by lia,a5,a6,a7⟩
      . have e : zab lt (kas_desc (f + 1) p n q) = zab lt (kas_desc f p (n + 1) 0) := by
          show zab lt (if lt (ga p n) (ga p (n-1))=true then(if q > 0 then kas_desc f (kas_rev p (n-(q+1)) n) (n+1) 0 else kas_desc f p (n+1) 0)else _)=_;rw[if_pos hc,if_neg hq0]
        have ih:=zf8 S f p (n+1) 0 (by lia) (by lia) (by lia) (h.snoc S h1 hn) (one _);rw[e];obtain⟨a1,a2,a3,a4,a5,a6,a7⟩:=ih;exact⟨a1,a2,by lia,by lia,a5,a6,a7⟩
    |false =>
      cases hd:lt (ga p (n-1)) (ga p n)with
      |true =>
        have e:zab lt (kas_desc (f+1) p n q)=(p,n,q):=by show zab lt (if lt (ga p n) (ga p (n-1))=true then _ else KasT.ask (ga p (n-1)) (ga p n) λd=>if d=true then .ret (p,n,q)else kas_desc f p (n+1) (q+1))=_;rw[if_neg (by rw[hc];exact Bool.false_ne_true)];show zab lt (if lt (ga p (n-1)) (ga p n)=true then _ else _)=_;rw[if_pos hd];rfl
        rw[e];exact⟨rfl,Array.Perm.refl _,Nat.le_refl _,by show n<=_;lia,hq,h,he⟩
      |false =>
        have e:zab lt (kas_desc (f+1) p n q)=zab lt (kas_desc f p (n+1) (q+1)):=by show zab lt (if lt (ga p n) (ga p (n-1))=true then _ else KasT.ask (ga p (n-1)) (ga p n) λd=>if d=true then .ret (p,n,q)else kas_desc f p (n+1) (q+1))=_;rw[if_neg (by rw[hc];exact Bool.false_ne_true)];show zab lt (if lt (ga p (n-1)) (ga p n)=true then _ else _)=_;rw[if_neg (by rw[hd];exact Bool.false_ne_true)]
        have heq:Eqs lt p (n+1-(q+1+1)) (n+1):=by
          intro i j a b c d;rcases Nat.lt_or_ge i n with gi|gi<;>rcases Nat.lt_or_ge j n with gj|gj
          . exact he i j (by lia) gi (by lia) gj
          . have:j=n:=by lia
            subst this;exact S.ntrans (ga p j) (ga p (j-1)) (ga p i) hd (he i (j-1) (by lia) gi (by lia) (by lia))
          . have:i=n:=by lia
            subst this;exact S.ntrans (ga p j) (ga p (i-1)) (ga p i) (he (i-1) j (by lia) (by lia) (by lia) gj) hc
          . have e1:i=n:=by lia
            have e2:j=n:=by lia
            subst e1;subst e2;exact irr S _
        have ih:=zf8 S f p (n+1) (q+1) (by lia) (by lia) (by lia) (h.snoc S h1 hd) heq;rw[e];obtain⟨a1,a2,a3,a4,a5,a6,a7⟩:=ih;exact⟨a1,a2,by lia,by lia,a5,a6,a7⟩
def zfY (lt:Nat->Nat->Bool)(p:Array Nat)(nrem:Nat)(r:Nat×Array Nat):Prop:=r.2.size=p.size/\r.2.Perm p/\1<=r.1/\r.1<=nrem/\Asc lt r.2 r.1
def zk4 (S:Swo lt){p:Array Nat}{n nrem:Nat}(h1:1<=n)(hn:n<=nrem)(hz:nrem<=p.size)(h:Dsc lt p n):zfY lt p nrem (zab lt (kas_tail3 n nrem p)):=by
 have e:zab lt (kas_tail3 n nrem p)=(zab lt (kas_asc (kas_rev p 0 n) (nrem-n) n),kas_rev p 0 n):=by unfold kas_tail3;rw[zcD];rfl
 rw[e];obtain⟨a1,a2,a3,_⟩:=zi0 S (kas_rev p 0 n) (nrem-n) n h1 (h.rev (by lia));exact⟨zct,zbQ,by show 1<=zab lt _;lia,by show zab lt _<=nrem;lia,a1⟩
def zgA (S:Swo lt){p:Array Nat}{n nrem:Nat}(h1:1<=n)(hn:n+1<=nrem)(hz:nrem<=p.size)(h:Dsc lt p (n+1)):zfY lt p nrem (zab lt (kas_descPart n nrem p)):=by
 unfold kas_descPart;rw[zcD]
 have d:=zf8 S (nrem-(n+1)) p (n+1) 0 (by lia) (by lia) (by lia) h (λi j a b c d=>by
  have e1:i=n:=by lia
  have e2:j=n:=by lia
  subst e1;subst e2;exact irr S _)
 dsimp only at d;generalize zab lt (kas_desc (nrem-(n+1)) p (n+1) 0)=r at d ⊢;obtain⟨a1,a2,a3,a4,a5,a6,a7⟩:=d;by_cases hq:r.2.2 > 0
 ·rw[if_pos hq];obtain⟨b1,b2,b3,b4,b5⟩:=zk4 S (p:=kas_rev r.1 (r.2.1-(r.2.2+1)) r.2.1) (n:=r.2.1) (nrem:=nrem) (by lia) (by lia) (by rw[zct];lia) (a6.turn S (by lia) (by lia) a7);exact⟨b1.trans (zct.trans a1),b2.trans (zbQ.trans a2),b3,b4,b5⟩
 ·rw[if_neg hq];obtain⟨b1,b2,b3,b4,b5⟩:=zk4 S (p:=r.1) (n:=r.2.1) (nrem:=nrem) (by lia) (by lia) (by lia) a6;exact⟨b1.trans a1,b2.trans a2,b3,b4,b5⟩
def zn0 (S:Swo lt){p:Array Nat}{nrem:Nat}(h1:1<=nrem)(hz:nrem<=p.size):zfY lt p nrem (zab lt (kas_count nrem p)):=by
 unfold kas_count;rw[zcD]
 have h0:Asc lt p 1:=λi j a b=>by
  have e1:i=0:=by lia
  have e2:j=0:=by lia
  subst e1;subst e2;exact irr S _
 obtain⟨a1,a2,a3,a4⟩:=zi0 S p (nrem-1) 1 (Nat.le_refl _) h0;generalize zab lt (kas_asc p (nrem-1) 1)=n at a1 a2 a3 a4 ⊢;by_cases hn:(n==nrem)=true
 ·rw[if_pos hn];have:n=nrem:=by simpa using hn
  exact⟨rfl,Array.Perm.refl _,a2,by show n<=nrem;lia,a1⟩
 ·rw[if_neg hn];have hne:n≠nrem:=by simpa using hn
  have hlt:=a4 (by lia);by_cases hn1:n > 1
  ·rw[if_pos hn1];show zfY lt p nrem (zab lt (if lt (ga p 0) (ga p (n-1))=true then KasT.ret (n,p)else kas_descPart n nrem (kas_rev p 0 n)));cases hc:lt (ga p 0) (ga p (n-1))with
   |true=>rw[if_pos rfl];exact⟨rfl,Array.Perm.refl _,a2,by show n<=nrem;lia,a1⟩
   |false =>
    rw[if_neg Bool.false_ne_true];have hd:=a1.rev (n:=n) (by lia)
    have hs:=Dsc.snoc S (p:=kas_rev p 0 n) a2 hd (by
     have k1:ga (kas_rev p 0 n) n=ga p n:=by rw[zcj (by lia),if_neg (by lia)]
     have k2:ga (kas_rev p 0 n) (n-1)=ga p 0:=by rw[zcj (by lia),if_pos ⟨by lia,by lia⟩];congr 1;lia
     rw[k1,k2];exact S.ntrans (ga p n) (ga p (n-1)) (ga p 0) (S.asymm _ _ hlt) hc)
    obtain⟨b1,b2,b3,b4,b5⟩:=zgA S (p:=kas_rev p 0 n) (n:=n) (nrem:=nrem) a2 (by lia) (by rw[zct];lia) hs;exact⟨b1.trans zct,b2.trans zbQ,b3,b4,b5⟩
  ·rw[if_neg hn1];have e:n=1:=by lia
   subst e
   exact zgA S (Nat.le_refl _) (by lia) hz (Dsc.snoc S (Nat.le_refl _) (λi j a b=>by
    have e1:i=0:=by lia
    have e2:j=0:=by lia
    subst e1;subst e2;exact irr S _) (S.asymm _ _ hlt))
theorem zgE (S:Swo lt)(h:Asc lt p k):∀ f l r,l<=r->r<=k->r-l<=f->(∀ i,i<l->lt (ga p k) (ga p i)=false)->(∀ i,r<=i->i<k->lt (ga p k) (ga p i)=true) ->
  let m:=zab lt (kas_place p k f l r)
  m<=k/\(∀ i,i<m->lt (ga p k) (ga p i)=false)/\(∀ i,m<=i->i<k->lt (ga p k) (ga p i)=true)
 |0,l,r,h1,h2,h3,hl,hr=>by
  have:l=r:=by lia
  subst this;exact⟨h2,hl,hr⟩
 |f+1,l,r,h1,h2,h3,hl,hr=>by
  by_cases hlr:l ≥ r
  ·have e:zab lt (kas_place p k (f+1) l r)=l:=by
    unfold kas_place;rw[if_pos hlr];rfl
   rw[e];have:l=r:=by lia
   subst this;exact⟨h2,hl,hr⟩
  ·have e:zab lt (kas_place p k (f+1) l r)=zab lt (if lt (ga p k) (ga p ((l+r)/2))=true then kas_place p k f l ((l+r)/2)else kas_place p k f ((l+r)/2+1) r):=by
    conv=>lhs;unfold kas_place
    rw[if_neg hlr];rfl
   rw[e];cases hc:lt (ga p k) (ga p ((l+r)/2))with
   |true =>
    rw[if_pos rfl];refine zgE S h f l ((l+r)/2) (by lia) (by lia) (by lia) hl λi hi hik=>?_
    cases hx:lt (ga p k) (ga p i)with
    |true=>rfl
    |false =>have:=S.ntrans (ga p ((l+r)/2)) (ga p i) (ga p k) (h _ _ hi hik) hx;rw[hc]at this;exact this.symm
   |false =>rw[if_neg Bool.false_ne_true];refine zgE S h f ((l+r)/2+1) r (by lia) h2 (by lia) (λi hi=>?_) hr;exact S.ntrans (ga p i) (ga p ((l+r)/2)) (ga p k) (h _ _ (by lia) (by lia)) hc
theorem zmn (S:Swo lt):∀ f (p:Array Nat) k,k+f<=p.size->Asc lt p k->let r:=zab lt (kas_bin f p k);r.size=p.size/\r.Perm p/\Asc lt r (k+f)
 |0,p,k,_,h=>⟨rfl,Array.Perm.refl _,h⟩
 |f+1,p,k,hz,h=>by
  have e:zab lt (kas_bin (f+1) p k)=zab lt (kas_bin f (bubble p k (k-zab lt (kas_place p k k 0 k))) (k+1)):=by show zab lt ((kas_place p k k 0 k).bind λl=>kas_bin f (bubble p k (k-l)) (k+1))=_;rw[zcD]
  rw[e];obtain⟨m1,m2,m3⟩:=zgE S h k 0 k (Nat.zero_le _) (Nat.le_refl _) (by lia) (λi hi=>absurd hi (by lia)) (λi hi hik=>absurd hi (by lia));generalize zab lt (kas_place p k k 0 k)=m at m1 m2 m3 ⊢
  have hb:∀ i,ga (bubble p k (k-m)) i=if i=m then ga p k else if m<i/\i<=k then ga p (i-1)else ga p i:=λi=>by rw[zm0 (by lia) (by lia),show k-(k-m)=m by lia]
  have hs:Asc lt (bubble p k (k-m)) (k+1):=by
   intro i j hij hj;rw[hb,hb];by_cases hi:i=m
   ·rw[if_pos hi];by_cases hjm:j=m
    ·rw[if_pos hjm];exact irr S _
    ·rw[if_neg hjm,if_pos ⟨by lia,by lia⟩];exact S.asymm _ _ (m3 (j-1) (by lia) (by lia))
   ·rw[if_neg hi];by_cases hjm:j=m
    ·rw[if_pos hjm,if_neg (by lia)];exact m2 i (by lia)
    ·rw[if_neg hjm];by_cases hi2:m<i
     ·rw[if_pos (show m<i/\i<=k from ⟨hi2,by lia⟩),if_pos (show m<j/\j<=k from ⟨by lia,by lia⟩)];exact h _ _ (by lia) (by lia)
     ·rw[if_neg (show ¬ (m<i/\i<=k) by lia)];by_cases hj2:m<j
      ·rw[if_pos (show m<j/\j<=k from ⟨hj2,by lia⟩)];exact h _ _ (by lia) (by lia)
      ·rw[if_neg (show ¬ (m<j/\j<=k) by lia)];exact h _ _ hij (by lia)
  obtain⟨a1,a2,a3⟩:=zmn S f (bubble p k (k-m)) (k+1) (by rw[bubble_size];lia) hs;exact⟨a1.trans (bubble_size _ _ _),a2.trans (bubble_perm _ _ _),by rw[show k+(f+1)=k+1+f by lia];exact a3⟩
def zpN (S:Swo lt){n:Nat}(h1:1<=n):(zab lt (kas_sort n)).size=n/\(zab lt (kas_sort n)).Perm (List.toArray (List.range n))/\Asc lt (zab lt (kas_sort n)) n:=by
 unfold kas_sort;rw[zcD];obtain⟨a1,a2,a3,a4,a5⟩:=zn0 S (p:=List.toArray (List.range n)) (nrem:=n) h1 (by simp);generalize zab lt (kas_count n (List.toArray (List.range n)))=r at a1 a2 a3 a4 a5 ⊢;have hsz:(List.toArray (List.range n)).size=n:=by simp
 by_cases hr:r.1<n
 ·rw[if_pos hr];have em:max r.1 1=r.1:=by lia
  rw[em];obtain⟨b1,b2,b3⟩:=zmn S (n-r.1) r.2 r.1 (by lia) a5;exact⟨b1.trans (a1.trans hsz),b2.trans a2,by rw[show r.1+(n-r.1)=n by lia]at b3;exact b3⟩
 ·rw[if_neg hr];have e:r.1=n:=by lia
  rw[e]at a5;exact⟨a1.trans hsz,a2,a5⟩
def KIn {α:Type}(n:Nat)(post:α->Prop):KasT α->Prop
 |.ret a=>post a
 |.ask i j k=>i<n/\j<n/\∀ b,KIn n post (k b)
theorem KIn.bind {α β:Type}{n:Nat}{post:α->Prop}{post':β->Prop}{f:α->KasT β}(hf:∀ a,post a->KIn n post' (f a)):∀ (t:KasT α),KIn n post t->KIn n post' (t.bind f)
 |.ret a,h=>hf a h
 |.ask i j k,h=>⟨h.1,h.2.1,λb=>KIn.bind hf (k b) (h.2.2 b)⟩
def Ent (n:Nat)(p:Array Nat):=∀ x∈p.toList,x<n
theorem Ent.at {n:Nat}(h0:0<n)(h:Ent n p)(i:Nat):ga p i<n:=by
 rw[zfC];cases e:p[i]? with
 |none=>exact h0
 |some x =>rw[<- Array.getElem?_toList]at e;exact h x (List.mem_of_getElem? e)
def Ent.perm {p r:Array Nat}(hp:r.Perm p)(h:Ent n p):Ent n r:=λx hx=>h x ((Array.perm_iff_toList_perm.mp hp).mem_iff.mp hx)
theorem zjI {n:Nat}(h0:0<n)(h:Ent n p):∀ f k,KIn n (λ_=>True) (kas_asc p f k)
 |0,_=>trivial
 |f+1,k=>⟨h.at h0 _,h.at h0 _,λb=>by
  cases b with
  |true=>exact trivial
  |false=>exact zjI h0 h f (k+1)⟩
theorem zga {n:Nat}(h0:0<n):∀ f (p:Array Nat) k q,Ent n p->KIn n (λr=>Ent n r.1) (kas_desc f p k q)
 |0,p,k,q,h=>h
 |f+1,p,k,q,h=>⟨h.at h0 _,h.at h0 _,λb=>by
  cases b with
  |true =>
   show KIn n _ (if q > 0 then _ else _);by_cases hq:q > 0
   ·rw[if_pos hq];exact zga h0 f _ _ _ (h.perm zbQ)
   ·rw[if_neg hq];exact zga h0 f _ _ _ h
  |false=>exact⟨h.at h0 _,h.at h0 _,λd=>by
    cases d with
    |true=>exact h
    |false=>exact zga h0 f _ _ _ h⟩⟩
def zk7 {n k m:Nat}(h0:0<n)(h:Ent n p):KIn n (λr=>Ent n r.2) (kas_tail3 k m p):=by refine KIn.bind (post:=λ_=>True) (λr _=>?_) _ (zjI h0 (h.perm zbQ) _ _);exact h.perm zbQ
def zgv {n k m:Nat}(h0:0<n)(h:Ent n p):KIn n (λr=>Ent n r.2) (kas_descPart k m p):=by
 refine KIn.bind (post:=λr=>Ent n r.1) (λr hr=>?_) _ (zga h0 _ _ _ _ h);by_cases hq:r.2.2 > 0
 ·rw[if_pos hq];exact zk7 h0 (hr.perm zbQ)
 ·rw[if_neg hq];exact zk7 h0 hr
def zn6 {n m:Nat}(h0:0<n)(h:Ent n p):KIn n (λr=>Ent n r.2) (kas_count m p):=by
 refine KIn.bind (post:=λ_=>True) (λk _=>?_) _ (zjI h0 h _ _);by_cases hk:(k==m)=true
 ·rw[if_pos hk];exact h
 ·rw[if_neg hk];by_cases h1:k > 1
  ·rw[if_pos h1];refine⟨h.at h0 _,h.at h0 _,λc=>?_⟩;cases c with
   |true=>exact h
   |false=>exact zgv h0 (h.perm zbQ)
  ·rw[if_neg h1];exact zgv h0 h
theorem zgL {n:Nat}{k:Nat}(h0:0<n)(h:Ent n p):∀ f l r,KIn n (λ_=>True) (kas_place p k f l r)
 |0,_,_=>trivial
 |f+1,l,r=>by
  unfold kas_place;by_cases hl:l ≥ r
  ·rw[if_pos hl];exact trivial
  ·rw[if_neg hl];refine⟨h.at h0 _,h.at h0 _,λc=>?_⟩;cases c with
   |true=>exact zgL h0 h f _ _
   |false=>exact zgL h0 h f _ _
theorem zmW {n:Nat}(h0:0<n):∀ f (p:Array Nat) k,Ent n p->KIn n (λr=>Ent n r) (kas_bin f p k)
 |0,p,k,h=>h
 |f+1,p,k,h=>KIn.bind (post:=λ_=>True) (λl _=>zmW h0 f _ _ (h.perm (bubble_perm _ _ _))) _ (zgL h0 h _ _ _)
def zqY {n:Nat}(h0:0<n):KIn n (λ_=>True) (kas_sort n):=by
 refine KIn.bind (post:=λr=>Ent n r.2) (λr hr=>?_) _ (zn6 h0 (p:=List.toArray (List.range n)) (λx hx=>by simpa using hx));by_cases h:r.1<n
 ·rw[if_pos h];have hb:=zmW h0 (n-max r.1 1) r.2 (max r.1 1) hr;clear h;generalize kas_bin (n-max r.1 1) r.2 (max r.1 1)=t at hb
  induction t with
  |ret a=>exact trivial
  |ask i j k ih=>exact⟨hb.1,hb.2.1,λb=>ih b (hb.2.2 b)⟩
 ·rw[if_neg h];exact trivial
end
open PySem PySem.Spec PySem.W PyProof.Rows L2
def plt (a b:Int×Int):Bool:=if a.1=b.1 then decide (a.2<b.2)else decide (a.1<b.1)
def zkW (cs:List (Int×Int)):Swo λi j=>plt (cs.getD i (0,0)) (cs.getD j (0,0)) where
  asymm:=λa b h=>by unfold plt at h ⊢;generalize cs.getD a (0,0)=A at *;generalize cs.getD b (0,0)=B at *;split at h<;>split<;>simp at h ⊢<;>lia
  ntrans:=λa b c h1 h2=>by unfold plt at h1 h2 ⊢;generalize cs.getD a (0,0)=A at *;generalize cs.getD b (0,0)=B at *;generalize cs.getD c (0,0)=C at *;split at h1<;>split at h2<;>split<;>simp at h1 h2 ⊢<;>lia
def PrV (h:Heap)(v:Value)(c:Int×Int):=∃ (a:Addr) (o:Obj) (n:Nat) (t u:Tok),v=.ref a/\h.get? a=some o/\o.cls=.type "tuple"/\o.data=.seq #[.int c.1 t,.int c.2 u] n
theorem kwp {α:Type}{cmp:Nat->Nat->(Bool->Shared->Prop)->Shared->Prop}{lt:Nat->Nat->Bool}{n:Nat}{s:Shared}(hc:∀ i j C,i<n->j<n->C (lt i j) s->cmp i j C s){post:α->Prop}(Q:α->Shared->Prop) :
  ∀ t:KasT α,KIn n post t->Q (zab lt t) s->t.kasWp cmp Q s
 |.ret _,_,q=>q
 |.ask i j k,h,q=>hc i j _ h.1 h.2.1 (kwp hc Q (k (lt i j)) (h.2.2 _) q)
section
variable {prog:Program}{w:World}{A:Around}{E:Value->Shared->Prop}{s:Shared}
def znR {Q:Bool->Shared->Prop}(h1:PrV s.heap v c)(h2:PrV s.heap v' d)(q:Q (plt c d) s):wpAny (model prog w) A (keyLt' (tuples' true) v v') Q E s:=by
 obtain⟨a,o,n,t,u,rfl,ho,_,hd⟩:=h1;obtain⟨a',o',n',t',u',rfl,ho',_,hd'⟩:=h2;refine kat_lt ho hd ho' hd' ?_;show KatLex prog w A true _ Q [(.int c.1 t,.int d.1 t'),(.int c.2 u,.int d.2 u')] 0 s;refine kat_cons (wpAny_eqBool_int ?_);by_cases e:c.1=d.1
 ·rw[show(c.1==d.1)=true by simpa using e];refine kat_yes (kat_cons (wpAny_eqBool_int ?_));by_cases e2:c.2=d.2
  ·rw[show(c.2==d.2)=true by simpa using e2];refine kat_yes (kat_nil ?_);have:plt c d=false:=by unfold plt;rw[if_pos e,e2];simp
   rw[this]at q;exact q
  ·rw[show(c.2==d.2)=false by simpa using e2];refine kat_no ?_;show wpAny (model prog w) A (oneLt' false _ _) Q _ s;refine kat_one _ _ (lt_int ?_);have:plt c d=decide (c.2<d.2):=by unfold plt;rw[if_pos e]
   rw[this]at q;exact q
 ·rw[show(c.1==d.1)=false by simpa using e];refine kat_no ?_;show wpAny (model prog w) A (oneLt' true _ _) Q _ s;refine oneLt_int ?_;have:plt c d=decide (c.1<d.1):=by unfold plt;rw[if_neg e]
  rw[this]at q;exact q
theorem zjN {h:Heap}:∀ {vs:List Value} {cs:List (Int×Int)},Paired (PrV h) vs cs->∃ fs:List Value,KatTups h vs fs/\fs.length=vs.length/\∀ f∈fs,∃ i t,f=.int i t
 |_,_,.nil=>⟨[],trivial,rfl,λf hf=>absurd hf (by simp)⟩
 |_,_,.cons (a:=v) (b:=c) r t=>by
  obtain⟨fs,k,hl,hf⟩:=zjN t;obtain⟨a,o,n,tk,u,rfl,ho,hc,hd⟩:=r;refine⟨.int c.1 tk::fs,KatTups.cons ho hc hd rfl k,by simp[hl],λf hm=>?_⟩;rcases List.mem_cons.mp hm with rfl|hm
  ·exact⟨_,_,rfl⟩
  ·exact hf f hm
theorem zeo {α β:Type}{F:α->β->Prop}{da:α}{db:β}:∀ {l:List α} {m:List β},Paired F l m->∀ i,i<l.length->F (l.getD i da) (m.getD i db)
 |_,_,.nil,i,h=>absurd h (by simp)
 |_,_,.cons r _,0,_=>r
 |_::_,_::_,.cons _ t,i+1,h=>zeo (da:=da) (db:=db) t i (by simpa using h)
def zhg {a:Addr}{vs:List Value}{n:Nat}{P:PySem.Fin->Shared->Prop}(ho:s.heap.get? a=some (seqObj "list" vs.toArray n))(hv:Paired (PrV s.heap) vs cs)(h64:vs.length<64)(h:∀ p:List Nat,p.Perm (List.range vs.length)->(∀ i j,i<=j->j<vs.length->plt (cs.getD (p.getD j 0) (0,0)) (cs.getD (p.getD i 0) (0,0))=false) ->
   P (.done (.ret .none)) { s with heap:=sortedHeap s.heap a vs (p.map λi=>vs.getD i Value.none).toArray }) :
  wpAny (model prog w) A (Builtin.«list.sort» ⟨[.ref a],[]⟩) P E s:=by
 rw[list_sort_plain];have ha:a<s.heap.objs.size:=Heap.lt_size ho;refine wpAny_bind (listItems_at ho rfl ?_);refine wpAny_bind (listUpdate_at ho rfl ?_);obtain⟨e1,ho1⟩:∃ e1,(s.heap.update a (Obj.mapSeq λ_=>#[])).get? a=some (seqObj "list" #[] e1):=⟨_,get?_update_seq ho (λ_=>#[])⟩
 refine wpAny_bind (seqEpoch_at ho1 rfl ?_);refine wpAny_bind (wpAny_newTuple ?_);refine wpAny_bind (wpAny_newList ?_);refine wpAny_holding ?_
 have ho6:(((s.heap.update a (Obj.mapSeq λ_=>#[])).push (seqObj "tuple" vs.toArray 0)).push (seqObj "list" #[] 0)).get? a=some (seqObj "list" #[] e1):=by rw[Heap.get?_push_ne _ _ _ (by rw[size_push',Heap.size_update];exact Nat.ne_of_lt (Nat.lt_succ_of_lt ha)),Heap.get?_push_ne _ _ _ (by rw[Heap.size_update];exact Nat.ne_of_lt ha)];exact ho1
 have keep:∀ b u,b≠a->s.heap.get? b=some u->(((s.heap.update a (Obj.mapSeq λ_=>#[])).push (seqObj "tuple" vs.toArray 0)).push (seqObj "list" #[] 0)).get? b=some u:=λb u hb hu=>by have hlt:b<s.heap.objs.size:=Heap.lt_size hu;rw[Heap.get?_push_ne _ _ _ (by rw[size_push',Heap.size_update];exact Nat.ne_of_lt (Nat.lt_succ_of_lt hlt)),Heap.get?_push_ne _ _ _ (by rw[Heap.size_update];exact Nat.ne_of_lt hlt),Heap.get?_update_ne _ _ _ _ hb];exact hu
 have hv6:Paired (PrV (((s.heap.update a (Obj.mapSeq λ_=>#[])).push (seqObj "tuple" vs.toArray 0)).push (seqObj "list" #[] 0))) vs cs:=Paired.imp' (λv c hp=>by obtain⟨b,o,m,t,u,rfl,hb,hc,hd⟩:=hp;refine⟨b,o,m,t,u,rfl,keep b o (λe=>?_) hb,hc,hd⟩;subst e;rw[ho]at hb;cases hb;injection hc with hc;exact absurd hc (by decide)) hv
 show wpAny (model prog w) A _ P E { s with heap:=((s.heap.update a (Obj.mapSeq λ_=>#[])).push (seqObj "tuple" vs.toArray 0)).push (seqObj "list" #[] 0) };have hh:sortedHeap s.heap a vs=λout=>(((s.heap.update a (Obj.mapSeq λ_=>#[])).push (seqObj "tuple" vs.toArray 0)).push (seqObj "list" #[] 0)).update a (Obj.mapSeq λ_=>out):=rfl
 rw[hh]at h;generalize ((s.heap.update a (Obj.mapSeq λ_=>#[])).push (seqObj "tuple" vs.toArray 0)).push (seqObj "list" #[] 0)=h6 at *;dsimp only;have hsz:vs.toArray.size=vs.length:=by simp
 by_cases h2:vs.toArray.size<2
 ·rw[if_pos h2,if_pos h2];refine wpAny_bind (wpAny_pure ?_);rw[StateT.run_pure];refine wpAny_bind (wpAny_pure ?_);dsimp only;refine wpAny_bind (seqEpoch_at ho6 rfl ?_);refine wpAny_bind (listUpdate_at ho6 rfl ?_ (hsz2:=by rw[Array.size_map];show(pairsOf vs).size<=_;rw[pairsOf_size,sizeLine_eq];lia));simp only[bne_self_eq_false,Bool.false_eq_true,if_false]
  have q:=h (List.range vs.length) (List.Perm.refl _) (λi j hij hj=>by
   have e1:i=0:=by lia
   have e2:j=0:=by lia
   subst e1;subst e2;exact irr (zkW cs) _)
  have eo:(List.map (λi=>vs.getD i Value.none) (List.range vs.length)).toArray=Array.map (·.2) (vs.toArray.zip vs.toArray):=by
   have hz:vs.length<2:=by lia
   clear q h hv6 hh hv ho h64 hsz h2
   match vs,hz with
   |[],_=>simp
   |[x],_=>simp[List.range_succ]
  rw[eo]at q;exact wpAny_pure q
 ·rw[if_neg h2,if_neg h2];have hn2:2<=vs.length:=by lia
  obtain⟨fs,kt,hfl,hfi⟩:=zjN hv6;refine wpAny_bind (kat_kind (s:={ s with heap:=h6 }) (T:=.type "int") kt (by lia) (λv hm=>?_) (by rfl) ?_)
  ·obtain⟨i,t,rfl⟩:=hfi v hm;exact Looks.of_pure rfl
  have cmp:∀ (i j:Nat) (C:Bool->Shared->Prop),i<vs.length->j<vs.length->C (plt (cs.getD i (0,0)) (cs.getD j (0,0))) { s with heap:=h6 }->kas_ask prog w A (tuples' (Value.type "int" != Value.type "tuple")) vs i j C { s with heap:=h6 }:=λi j C hi hj hC =>znR (s:={ s with heap:=h6 }) (zeo hv6 i hi) (zeo hv6 j hj) hC
  refine wpAny_bind (wpAny_mono (kat_run (ks:=vs) (vs:=vs) (Q:=λst' s'=>∃ p:Array Nat,p=zab (λi j=>plt (cs.getD i (0,0)) (cs.getD j (0,0))) (kas_sort vs.length)/\s'={ s with heap:=h6 }/\arrOf st'=p.map (kas_item (vs.toArray.zip vs.toArray))/\failedOf st'=none)
   (G:=λp s'=>p=zab (λi j=>plt (cs.getD i (0,0)) (cs.getD j (0,0))) (kas_sort vs.length)/\s'={ s with heap:=h6 }) rfl hn2 h64 (λp' st' s' a1 a2 a3 a4=>⟨p',a4.1,a4.2,a2,a3⟩) (kwp cmp _ _ (zqY (by lia)) ⟨rfl,rfl⟩)) ?_ λ_ _ e=>e)
  rintro⟨⟨⟩,st'⟩ s' ⟨p,hp,rfl,har,hf⟩;dsimp only;obtain⟨z1,z2,z3⟩:=zpN (zkW cs) (n:=vs.length) (by lia);rw[<- hp]at z1 z2 z3;have hout:=kat_snds (vs:=vs) (ks:=vs) rfl har;have hsz2:(List.toArray (p.toList.map λi=>vs.getD i Value.none)).size=vs.length:=by rw[List.size_toArray,List.length_map,Array.length_toList,z1]
  rw[hout];refine wpAny_bind (seqEpoch_at ho6 rfl ?_);refine wpAny_bind (listUpdate_at ho6 rfl ?_ (hsz2:=by rw[hsz2,sizeLine_eq];lia));rw[hf];simp only[bne_self_eq_false,Bool.false_eq_true,if_false];refine wpAny_pure (h p.toList ?_ λi j hij hj=>?_)
  ·have:=Array.perm_iff_toList_perm.mp z2;simpa using this
  ·have e:∀ k,p.toList.getD k 0=ga p k:=λk=>by rw[zfC,List.getD_eq_getElem?_getD,Array.getElem?_toList]
   rw[e,e];exact z3 i j hij hj
def zjs {l : Addr} {vs : List Value} {Q : Value → Shared → Prop} (hl : s.heap.IsList l vs.toArray) (hv : Paired (PrV s.heap) vs cs) (h64 : vs.length < 64) (h : ∀ p : List Nat, p.Perm (List.range vs.length) → (∀ i j, i ≤ j → j < vs.length → plt (cs.getD (p.getD j 0) (0, 0)) (cs.getD (p.getD i 0) (0, 0)) = false) →
      Q (.ref (s.heap.objs.size+1)) { s with heap:=sortedAll s.heap vs (p.map λi=>vs.getD i Value.none).toArray }) :
    wpAny (model prog w) A (call (.builtin "sorted") [.ref l]) Q E s:=by
  refine Calls.call_function_entry kind_sorted plain_sorted entry_sorted (args_sorted1 _) ?_;unfold Builtin.«sorted»;refine wpAny_bind (m:=checkCount "sorted" 1 1 _) (wpAny_pure ?_);refine wpAny_bind (collect_list hl ?_);refine wpAny_bind (wpAny_newList ?_)
  have hsz:((s.heap.push (seqObj "list" #[] 0)).update s.heap.objs.size (Obj.mapSeq (·++vs.toArray))).objs.size=s.heap.objs.size+1:=by rw[Heap.size_update,size_push']
  have hoL:(((s.heap.push (seqObj "list" #[] 0)).update s.heap.objs.size (Obj.mapSeq (·++vs.toArray))).push (seqObj "list" vs.toArray 0)).get? (s.heap.objs.size+1)=some (seqObj "list" vs.toArray 0):=by rw[<- hsz];exact Heap.get?_push_size _ rfl
  have keep:∀ b o,s.heap.get? b=some o->(((s.heap.push (seqObj "list" #[] 0)).update s.heap.objs.size (Obj.mapSeq (·++vs.toArray))).push (seqObj "list" vs.toArray 0)).get? b=some o:=λb o q=>by have hlt:b<s.heap.objs.size:=Heap.lt_size q;rw[Heap.get?_push_ne _ _ _ (by rw[hsz];exact Nat.ne_of_lt (Nat.lt_succ_of_lt hlt)),Heap.get?_update_ne _ _ _ _ (Nat.ne_of_lt hlt),Heap.get?_push_ne _ _ _ (Nat.ne_of_lt hlt)];exact q
  show wpAny _ _ _ _ _ { s with heap:=((s.heap.push (seqObj "list" #[] 0)).update s.heap.objs.size (Obj.mapSeq (·++vs.toArray))).push (seqObj "list" vs.toArray 0) };rw[hsz]
  refine wpAny_bind (wpAny_holding (wpAny_call_entry slot_list_sort ⟨_,hoL,rfl⟩ entry_list_sort (zhg (s:={ s with heap:=((s.heap.push (seqObj "list" #[] 0)).update s.heap.objs.size (Obj.mapSeq (·++vs.toArray))).push (seqObj "list" vs.toArray 0) }) hoL (Paired.imp' (λv c hp=>by obtain⟨b,o,m,t,u,e,hb,hc,hd⟩:=hp;exact⟨b,o,m,t,u,e,keep b o hb,hc,hd⟩) hv) h64 λp a1 a2=>⟨_,rfl,?_⟩) (args_list_sort _)))
  exact wpAny_pure ⟨_,rfl,h p a1 a2⟩
end
def zrx (K:PySem.W.Frag):List V->Hp->VK->Prop:=λxs H Q=>∃ (p:Addr) (ps:List Addr) (cs:List (Int×Int)),xs=[.ref p]/\SqL K H p (ps.map V.ref)/\zeh H ps cs/\cs.length<64 /\
 ∀ (l:Addr) (ps':List Addr) (cs':List (Int×Int)),H l=none->zeh H ps' cs'->cs'.Perm cs->cs'.Pairwise (λa b=>plt b a=false)->Q (.ref l) (upd H l (.lst (ps'.map V.ref)))
theorem ziq:∀ {ps:List Addr} {its:List Value},Vals (ps.map V.ref) its->its=ps.map Value.ref
 |[],_,h=>by cases h;rfl
 |p::ps,_,h=>by
  cases h with
  |cons r t =>have:=ziq t;cases r;rw[this];rfl
theorem zig:∀ ps:List Addr,Vals (ps.map V.ref) (ps.map Value.ref)
 |[]=>.nil
 |_::ps=>.cons rfl (zig ps)
def zh9 (l:List α)(d:α){p:List Nat}(h:p.Perm (List.range l.length)):(p.map λi=>l.getD i d).Perm l:=by
 have:=h.map λi=>l.getD i d
 refine this.trans ?_
 have e:(List.range l.length).map (λi=>l.getD i d)=l:=by
  apply List.ext_getElem
  ·simp
  ·intro i h1 h2;simp[List.getD_eq_getElem?_getD,List.getElem?_eq_getElem h2]
 rw[e]
def zjW {X:Cx}{K:PySem.W.Frag}(hK:X.K=K):zas X (.builtin "sorted") (zrx K):=λpins s U H xs us Q I r h=>by
 subst hK;obtain⟨p,ps,cs,rfl,hS,hP,h64,q⟩:=h;obtain⟨u,rfl,ru⟩:=vals1 r;cases ru;obtain⟨its,rv,pl,hz⟩:=I.list hS;have ei:=ziq rv;subst ei;have hlen:=hP.length
 have prv:∀ {ps:List Addr} {cs:List (Int×Int)},zeh H ps cs->Paired (PrV s.heap) (ps.map Value.ref) cs:=by
  intro ps cs hP
  induction hP with
  |nil=>exact .nil
  |cons r t ih =>
   refine .cons ?_ ih;obtain⟨its2,r2,pl2,_⟩:=I.tuple (SqT.of r);obtain⟨o,ho,hc,n,hd⟩:=pl2;cases r2 with|cons x1 r2=>cases r2 with|cons x2 r2 =>
   cases r2;obtain⟨t1,rfl⟩:=x1;obtain⟨t2,rfl⟩:=x2;exact⟨_,o,n,t1,t2,rfl,ho,hc,hd⟩
 refine zjs pl.isList (prv hP) (by rw[List.length_map];lia) λpm hpm hso=>?_
 rw[List.length_map]at hpm hso
 have eo:(pm.map λi=>(ps.map Value.ref).getD i Value.none)=(pm.map λi=>ps.getD i 0).map Value.ref:=by
  rw[List.map_map];apply List.map_congr_left;intro i hi;have hi':i<ps.length:=by simpa using hpm.mem_iff.mp hi
  simp[List.getD_eq_getElem?_getD,List.getElem?_eq_getElem hi']
 rw[eo];have hPl:(pm.map λi=>ps.getD i 0).length=ps.length:=by rw[List.length_map,hpm.length_eq,List.length_range]
 obtain⟨e,he⟩:=sortedAll_at s.heap (ps.map Value.ref) ((pm.map λi=>ps.getD i 0).map Value.ref).toArray
 have hPr:zeh H (pm.map λi=>ps.getD i 0) (pm.map λi=>cs.getD i (0,0)):=by
  have hb:∀ i∈pm,i<ps.length:=λi hi=>by simpa using hpm.mem_iff.mp hi
  clear eo hPl he hpm hso
  induction pm with
  |nil=>exact .nil
  |cons i pm ih=>exact .cons (zeo hP i (hb i (by simp))) (ih λj hj=>hb j (by simp[hj]))
 refine⟨.ref (s.heap.objs.size+1),_,I.laid (t':=s.toks) (a:=s.heap.objs.size+1) (o:=.lst ((pm.map λi=>ps.getD i 0).map V.ref)) (λb o q=>sortedAll_old q) (Nat.le_succ _) ⟨by rw[List.length_map,hPl];have:=hz;rw[List.length_map]at this;exact this,_,e,zig _,he⟩,rfl,q _ _ _ (I.hok.fresh (Nat.le_succ _)) hPr ?_ ?_⟩
 ·rw[hlen]at hpm;exact zh9 cs (0,0) hpm
 ·rw[List.pairwise_map,List.pairwise_iff_getElem];intro i j hi hj hij;have:=hso i j (Nat.le_of_lt hij) (by rw[<- List.length_range (n:=ps.length),<- hpm.length_eq];exact hj);simpa [List.getD_eq_getElem?_getD,List.getElem?_eq_getElem hi,List.getElem?_eq_getElem hj]using this
section
variable {K:PySem.W.Frag}{H:Hp}
end
def ztv (K:PySem.W.Frag):R2:=λx y H Q=>∃ a b xs ys,x=.ref a/\y=.ref b/\SqT K H a xs/\SqT K H b ys/\xs.length+ys.length<=sizeLine/\(xs=[]->Q (.ref b) H)/\(xs≠[]->ys=[]->Q (.ref a) H)/\(xs≠[]->ys≠[]->∀ p,H p=none->Q (.ref p) (upd H p (.tup (xs++ys))))
def zoK {X:Cx}{K:PySem.W.Frag}(hK:X.K=K):OpR X (binaryOp .Add) (ztv K):=by
 subst hK;intro pins s U H x y v u Q I rx ry h;obtain⟨a,b,xs,ys,rfl,rfl,ha,hb,hz,q0,q1,q2⟩:=h;by_cases hx:xs=[]
 ·subst hx;cases rx;cases ry;obtain⟨its,r1,p1,_⟩:=I.tuple ha;obtain⟨its2,r2,p2,_⟩:=I.tuple hb;cases r1;obtain⟨⟨cls,dd,data,sl⟩,ho,hc,n,hd⟩:=id p1;obtain⟨⟨cls2,dd2,data2,sl2⟩,ho2,hc2,n2,hd2⟩:=id p2;simp only at hc hd hc2 hd2;subst hc hd hc2 hd2
  exact concat_meets ⟨_,ho,rfl⟩ ⟨_,ho2,rfl⟩ noFill_tuple_add seq_tuple_add PySem.F.slot_tuple_add PySem.F.entry_tuple_add (PySem.F.args_tuple_add_2 _ _)
   (tuple_addW0 a b _ its2.toArray n n2 dd dd2 sl sl2 (by simp)) ⟨ho,ho2,⟨.ref b,H,I,rfl,q0 rfl⟩⟩
 ·exact zqW pins s U H _ _ v u Q I rx ry ⟨a,b,xs,ys,rfl,rfl,ha,hb,hx,hz,q1 hx,q2 hx⟩
end My
namespace Dp
open PySem
inductive D where
 |non|bl (b:Bool)|int (i:Int)|str (x:Str)|tup (xs:List D)|ref (n:Nat)|ty (n:String)|rl (xs:List D)|exn (c:Str)|kt (xs:List D)
 deriving Inhabited
inductive Cell where
 |lst (xs:List D)|ins (c:Str) (fs:List (Str×D))
 |dk (kvs:List (Str×D))|dt (kvs:List (List (Sum Int Str)×D))
 |tab (x:Str) (l c:Nat)
 deriving Inhabited
abbrev Sto:=List Cell
abbrev Rho:=List (Option D)
abbrev DK:=D->Sto->Prop
abbrev DE:=Rho->Sto->DK->Prop
abbrev DT:=Rho->Sto->(Bool->Sto->Prop)->Prop
abbrev DA:=Rho->Sto->(List D->Sto->Prop)->Prop
abbrev DG:=D->Rho->Sto->(Rho->Sto->Prop)->Prop
abbrev DGs:=List D->Rho->Sto->(Rho->Sto->Prop)->Prop
structure zgd where
 nx:Rho->Sto->Prop
 rt:DK
 bk:Rho->Sto->Prop:=λ_ _=>False
 ct:Rho->Sto->Prop:=λ_ _=>False
abbrev DS:=zgd->Rho->Sto->Prop
structure DIt where
 items:List D
 ok:Sto->Prop
abbrev DI:=Rho->Sto->(DIt->Sto->Prop)->Prop
abbrev DSp:=List D->Sto->DK->Prop
noncomputable def big:Nat:=1000000
noncomputable def fl:Nat->D->Bool
  |_,.ref _=>false
  |_,.ty _=>false
  |_,.rl _=>false
  |_,.exn _=>false
  |_,.kt _=>false
  |0,.tup _=>false
  |k+1,.tup xs=>xs.all (fl k)
  |_,.non=>true
  |_,.bl _=>true
  |_,.int _=>true
  |_,.str x=>x.cps.all (· < 0x110000)
mutual
noncomputable def eqv:D->D->Bool
 |.non,.non=>true
 |.bl a,.bl b=>a==b
 |.bl a,.int j=>(if a then 1 else 0)==j
 |.int i,.bl b=>i==(if b then 1 else 0)
 |.int i,.int j=>decide (i=j)
 |.str x,.str y=>x==y
 |.tup xs,.tup ys=>eqvAll xs ys
 |_,_=>false
noncomputable def eqvAll:List D->List D->Bool
 |[],[]=>true
 |x::xs,y::ys=>eqv x y&&eqvAll xs ys
 |_,_=>false
end
def Lst (S:Sto)(x:D)(xs:List D):Prop:=x=.rl xs\/∃ n,x=.ref n/\S[n]?=some (.lst xs)
def zdA (S:Sto)(x:D)(xs:List D):Prop:=x=.tup xs\/Lst S x xs
noncomputable def ixD (n:Nat) (k:Int):Option Nat:=if 0<=k then(if k<n then some k.toNat else none)else if -(n:Int)<=k then some (k+n).toNat else none
noncomputable def atD (xs:List D) (k:Int):Option D:=(ixD xs.length k).bind λj=>xs[j]?
noncomputable def atS (z:Str) (k:Int):Option Nat:=(ixD z.cps.toList.length k).bind λj=>z.cps.toList[j]?
noncomputable def slD (n:Nat) (d:Nat):Option Int->Nat
 |none=>d
 |some k=>if k<0 then(k+n).toNat else min k.toNat n
noncomputable def cutD (xs:List α) (lo hi:Option Int):List α:=(xs.drop (slD xs.length 0 lo)).take (slD xs.length xs.length hi-slD xs.length 0 lo)
def zaZ (i:Nat):DE:=λZ S Q=>∃ d,Z[i]?=some (some d)/\Q d S
def dC (d:D):DE:=λ_ S Q=>Q d S
abbrev DR2:=D->D->Sto->DK->Prop
def dOp (r:DR2)(ta tb:DE):DE:=λZ S Q=>ta Z S λx S1=>tb Z S1 λy S2=>r x y S2 Q
def dUn (r:D->Sto->DK->Prop)(ta:DE):DE:=λZ S Q=>ta Z S λx S1=>r x S1 Q
def zE:DA:=λ_ S Q=>Q [] S
def zj (ta:DE)(tr:DA):DA:=λZ S Q=>ta Z S λx S1=>tr Z S1 λxs S2=>Q (x::xs) S2
def dTup (t:DA):DE:=λZ S Q=>t Z S λxs S1=>xs.length<=big/\Q (.tup xs) S1
def za6 (t:DA):DE:=λZ S Q=>t Z S λxs S1=>xs.length<=big/\Q (.ref S1.length) (S1++[.lst xs])
def dCall (f:DSp)(t:DA):DE:=λZ S Q=>t Z S λxs S1=>f xs S1 Q
abbrev DB:=List D->Sto->DK->Prop
def dB (r:DB)(t:DA):DE:=λZ S Q=>t Z S λxs S1=>r xs S1 Q
def dT (t:DE):DT:=λZ S Q=>t Z S λx S1=>∃ b,x=.bl b/\Q b S1
def zeu (t u:DT):DT:=λZ S Q=>t Z S λc S1=>if c=true then u Z S1 Q else Q false S1
def dOr (t u:DT):DT:=λZ S Q=>t Z S λc S1=>if c=true then Q true S1 else u Z S1 Q
def zd2 (t:DT):DT:=λZ S Q=>t Z S λc S1=>Q (!c) S1
def zeR (t u:DE):DE:=λZ S Q=>t Z S λx S1=>∃ c,x=.bl c/\if c=true then u Z S1 Q else Q (.bl false) S1
def zf5 (t:DE):DE:=λZ S Q=>t Z S λx S1=>∃ c,x=.bl c/\Q (.bl (!c)) S1
def zlZ (c:DT)(ta tb:DE):DE:=λZ S Q=>c Z S λb S1=>if b=true then ta Z S1 Q else tb Z S1 Q
def zg0 (r r':DR2)(ta tb tc:DE):DE:=λZ S Q=>ta Z S λx S1=>tb Z S1 λy S2=>r x y S2 λz S3=>∃ c,z=.bl c/\if c=true then tc Z S3 λw S4=>r' y w S4 Q else Q (.bl false) S3
def zeW:Option DE->Rho->Sto->(Option Int->Sto->Prop)->Prop
 |none=>λ_ S Q=>Q none S
 |some t=>λZ S Q=>t Z S λx S1=>∃ i,x=.int i/\Q (some i) S1
def dSl (r:D->Option Int->Option Int->Sto->DK->Prop)(ta:DE)(lo hi:Option DE):DE:=λZ S Q=>ta Z S λx S1=>zeW lo Z S1 λl S2=>zeW hi Z S2 λh S3=>r x l h S3 Q
def zcx (f:Str)(ta:DE):DE:=λZ S Q=>ta Z S λx S1=>∃ n c fs d,x=.ref n/\S1[n]?=some (.ins c fs)/\fs.lookup f=some d/\Q d S1
noncomputable def putD (f:Str) (v:D):List (Str×D)->List (Str×D)
 |[]=>[(f,v)]
 |(g,x)::r=>if g=f then(g,v)::r else(g,x)::putD f v r
def zlQ (c:Str)(init:DSp):DSp:=λds S Q=>init (.ref S.length::ds) (S++[.ins c []]) λd S2=>d=.non/\Q (.ref S.length) S2
abbrev DM:=D->List D->Sto->DK->Prop
def dM (r:DM)(ta:DE)(t:DA):DE:=λZ S Q=>ta Z S λx S1=>(∃ n ys,x=.ref n/\S1[n]?=some (.lst ys))/\t Z S1 λxs S2=>r x xs S2 Q
def oI (C:Int->Int->Prop)(g:Int->Int->D):DR2:=λx y S Q=>∃ i j,x=.int i/\y=.int j/\C i j/\Q (g i j) S
def oI0 (g:Int->Int->D):DR2:=λx y S Q=>∃ i j,x=.int i/\y=.int j/\Q (g i j) S
def oU (g:Int->D):D->Sto->DK->Prop:=λx S Q=>∃ i,x=.int i/\Q (g i) S
def zaa (i j:Int):Prop:=(My.Bd 8000 i/\My.Bd 8000 j)\/i.natAbs<2 ^ 64\/j.natAbs<2 ^ 64
def zpD (_ j:Int):Prop:=j≠0/\My.Bd 8000 j
def zt4 (_ j:Int):Prop:=j≠0
def zaf:DR2:=λx y S Q=>(∃ i j,x=.int i/\y=.int j/\Q (.int (i+j)) S)\/(∃ xs ys,x=.tup xs/\y=.tup ys/\xs.length+ys.length<=big/\Q (.tup (xs++ys)) S) \/
 (∃ xs ys,Lst S x xs/\Lst S y ys/\xs.length+ys.length<=big/\Q (.ref S.length) (S++[.lst (xs++ys)])) \/
 (∃ i j:Str,x=.str i/\y=.str j/\i.length+j.length<=big/\Q (.str (i++j)) S)
def zag:DR2:=oI0 λi j=>.int (i-j)
noncomputable def zvS (z:Str) (n:Int):Str:=if n<1 then Str.empty else if(n==1||z.length==0)=true then z else⟨(List.replicate n.toNat z.cps).foldl (·++·) #[]⟩
@[irreducible] def Hg (x:Int):Prop:=x.natAbs<2 ^ 1048576
def zac:DR2:=λx y S Q=>oI zaa (λi j=>.int (i*j)) x y S Q\/(∃ (z:Str) (n:Int),x=.str z/\y=.int n/\z.length<=1000/\-1000<=n/\n<=1000/\Q (.str (zvS z n)) S)\/oI (λi j=>Hg i/\Hg j) (λi j=>.int (i*j)) x y S Q
def oDiv:DR2:=oI zpD λi j=>.int (i.fdiv j)
def oMod:DR2:=oI zt4 λi j=>.int (i.fmod j)
def za8:D->Sto->DK->Prop:=oU λi=>.int (-i)
def oLt:DR2:=oI0 λi j=>.bl (decide (i<j))
def oLe:DR2:=oI0 λi j=>.bl (decide (i<=j))
def oGt:DR2:=oI0 λi j=>.bl (decide (j<i))
def zgY (S:Sto):List D->List (List D)->Prop
 |[],[]=>True
 |x::xs,z::zs=>Lst S x z/\zgY S xs zs
 |_,_=>False
noncomputable def zeO (xss:List (List D)):Bool:=xss.all λzs=>zs.all (fl 20)
noncomputable def za4 {α β:Type} (f:α->Option β):List α->Option (List β)
 |[]=>some []
 |x::xs=>match f x,za4 f xs with
  |some y,some ys=>some (y::ys)
  |_,_=>none
noncomputable def tre (S:Sto):Nat->D->Option PyData
  |_,.non=>some .none
  |_,.bl b=>some (.bool b)
  |_,.int i=>some (.int i)
  |_,.str x=>if x.cps.all (· < 0x110000)=true then some (.str x)else none
  |k+1,.tup xs=>(za4 (tre S k) xs).map .tuple
  |k+1,.rl xs=>(za4 (tre S k) xs).map .list
  |k+1,.ref n=>match S[n]? with
    |some (.lst xs)=>(za4 (tre S k) xs).map .list
    |_=>none
  |_,_=>none
def EqD (S:Sto)(x y:D)(b:Bool):Prop:=(fl 20 x=true/\fl 20 y=true/\b=eqv x y)\/(∃ xs ys,Lst S x xs/\Lst S y ys/\xs.all (fl 20)=true/\ys.all (fl 20)=true/\b=eqvAll xs ys) \/
 (∃ xs ys xss yss,Lst S x xs/\Lst S y ys/\zgY S xs xss/\zgY S ys yss/\zeO xss=true/\zeO yss=true/\b=eqvAll (xss.map D.tup) (yss.map D.tup))\/(∃ p,tre S 20 x=some p/\tre S 20 y=some p/\b=true)
def oEq:DR2:=λx y S Q=>∃ b,EqD S x y b/\Q (.bl b) S
def oNe:DR2:=λx y S Q=>∃ b,EqD S x y b/\Q (.bl (!b)) S
def InD (S:Sto)(x y:D)(b:Bool):=∃ ys,zdA S y ys/\fl 20 x=true/\ys.all (fl 20)=true/\b=ys.any λz=>eqv z x
def oIn:DR2:=λx y S Q=>(∃ b,InD S x y b/\Q (.bl b) S)\/(∃ (c:Nat) (z:Str),x=.str ⟨#[c]⟩/\y=.str z/\Q (.bl (decide (c∈z.cps.toList))) S)
noncomputable def zdl:D->Bool
 |.non=>true
 |_=>false
def oIs:DR2:=λx y S Q=>(y=.non/\Q (.bl (zdl x)) S)\/(∃ a b,x=.bl a/\y=.bl b/\Q (.bl (a==b)) S)
def zet:DR2:=λx y S Q=>(y=.non/\Q (.bl (!zdl x)) S)\/(∃ a b,x=.bl a/\y=.bl b/\Q (.bl (!(a==b))) S)
def oIx:DR2:=λx y S Q=>(∃ i xs d,y=.int i/\zdA S x xs/\atD xs i=some d/\Q d S)\/(∃ (z:Str) (i:Int) (c:Nat),x=.str z/\y=.int i/\z.length<=big/\atS z i=some c/\Q (.str ⟨#[c]⟩) S)
noncomputable def zpa (z:Str) (lo hi:Option Int):Str:=⟨(cutD z.cps.toList lo hi).toArray⟩
def zlu:D->Option Int->Option Int->Sto->DK->Prop:=λx lo hi S Q=>(∃ xs,x=.tup xs/\Q (.tup (cutD xs lo hi)) S)\/(∃ xs,Lst S x xs/\Q (.ref S.length) (S++[.lst (cutD xs lo hi)]))\/(∃ z:Str,x=.str z/\z.length<=big/\Q (.str (zpa z lo hi)) S)
def za0:DB:=λvs S Q=>(∃ x xs,vs=[x]/\zdA S x xs/\Q (.int xs.length) S)\/(∃ z:Str,vs=[.str z]/\z.length<=big/\Q (.int z.length) S)
def zoc:DB:=λvs S Q=>∃ i,vs=[.int i]/\Q (.int (i.natAbs:Int)) S
def zec:DB:=λvs S Q=>∃ i j,vs=[.int i,.int j]/\Q (.int (max i j)) S
def zeY:DB:=λvs S Q=>∃ i j,vs=[.int i,.int j]/\Q (.int (min i j)) S
def zme:DB:=λvs S Q=>∃ x ns,vs=[x]/\Lst S x (List.map D.int ns)/\0<ns.length/\∀ m:Int,m∈ns->(∀ a∈ns,a<=m)->Q (.int m) S
def zlA:DB:=λvs S Q=>∃ x ns,vs=[x]/\Lst S x (List.map D.int ns)/\0<ns.length/\∀ m:Int,m∈ns->(∀ a∈ns,m<=a)->Q (.int m) S
def zfE:DB:=λvs S Q=>∃ x bs,vs=[x]/\Lst S x (List.map D.bl bs)/\Q (.bl (bs.all id)) S
def zja:DB:=λvs S Q=>∃ x xs,vs=[x]/\zdA S x xs/\Q (.tup xs) S
def zeq:DB:=λvs S Q=>∃ x xs,vs=[x]/\zdA S x xs/\Q (.ref S.length) (S++[.lst xs])
def zjA:DB:=λvs S Q=>(∃ i:Int,vs=[.int i]/\My.Bd 1900 i/\Q (.str (Str.ofString (toString i))) S)\/∃ z:Str,vs=[.str z]/\Q (.str z) S
def ziU (ta tb:DE):DE:=λZ S Q=>ta Z S λx S1=>(∃ z,x=.str z)/\tb Z S1 λy S2=>∃ z n,∃ zs:List Str,x=.str z/\y=.ref n/\S2[n]?=some (.lst (zs.map D.str))/\(zs.map (·.length)).sum+zs.length*z.length<=big/\Q (.str (Str.join z zs)) S2
def dF3 (c:Str)(ta tb:DE):DE:=λZ S Q=>ta Z S λx S1=>(∃ i,x=.int i/\My.Bd 1900 i/\(Str.ofString (toString i)).length<=1000/\c.length<=1000)/\tb Z S1 λy S2=>∃ i j,x=.int i/\y=.int j/\My.Bd 1900 j/\(Str.ofString (toString j)).length<=1000/\Q (.str (Str.ofString (toString i)++c++Str.ofString (toString j))) S2
def dFs:List (Sum Str DE)->Str->DE
 |[],out=>λ_ S Q=>Q (.str out) S
 |.inl c::ts,out=>λZ S Q=>(out++c).length<=100000/\dFs ts (out++c) Z S Q
 |.inr t::ts,out=>λZ S Q=>t Z S λx S1=>(∃ i,x=.int i/\My.Bd 1900 i/\(out++Str.ofString (toString i)).length<=100000/\dFs ts (out++Str.ofString (toString i)) Z S1 Q)\/∃ z,x=.str z/\(out++z).length<=100000/\dFs ts (out++z) Z S1 Q
def dF1 (t:DE):DE:=λZ S Q=>t Z S λx S1=>∃ i,x=.int i/\My.Bd 1900 i/\Q (.str (Str.ofString (toString i))) S1
noncomputable def zhJ (t:String):Bool:=t=="int"||t=="bool"||t=="tuple"||t=="list"||t=="str"
noncomputable def zsA (S:Sto) (t:String) (d:D):Option Bool:=if(!zhJ t)=true then none else match d with
 |.non=>some false
 | .bl _=>some (t=="bool"||t=="int")
 | .int _=>some (t=="int")
 | .str _=>some (t=="str")
 | .tup _=>some (t=="tuple")
 |.ref n=>match S[n]? with
  | some (.lst _)=>some (t=="list")
  |_=>none
 |.ty _=>none
 |.rl _=>none
 |.exn _=>none
 |.kt _=>none
def ze5:DB:=λvs S Q=>∃ x t b,vs=[x,.ty t]/\zsA S t x=some b/\Q (.bl b) S
noncomputable abbrev p2 (c:Int×Int):D:=.tup [.int c.1,.int c.2]
noncomputable def zgR (a b:Int×Int):Bool:=decide (a.1<b.1\/(a.1=b.1/\a.2<b.2))
def zmZ:DB:=λvs S Q=>∃ x cs,vs=[x]/\Lst S x (List.map p2 cs)/\cs.length<64/\∀ ss:List (Int×Int),ss.Perm cs->ss.Pairwise (λa b=>zgR b a=false)->Q (.ref S.length) (S++[.lst (ss.map p2)])
def znJ:DB:=λvs S Q=>∃ x ns,vs=[x]/\Lst S x (List.map D.int ns)/\ns.length<64/\∀ ss:List Int,ss.Perm ns->ss.Pairwise (λa b=>a<=b)->Q (.ref S.length) (S++[.lst (ss.map D.int)])
def zl8:DB:=λvs S Q=>zmZ vs S Q\/znJ vs S Q
def zbY:DM:=λx vs S Q=>∃ n xs y,x=.ref n/\vs=[y]/\S[n]?=some (.lst xs)/\xs.length<big/\Q .non (S.set n (.lst (xs++[y])))
def zqe:DM:=λx vs S Q=>∃ n xs m ys,x=.ref n/\vs=[.ref m]/\S[n]?=some (.lst xs)/\S[m]?=some (.lst ys)/\m≠n/\xs.length+ys.length<=big/\Q .non (S.set n (.lst (xs++ys)))
def zgC:DM:=λx vs S Q=>zqe x vs S Q\/∃ n xs ys,x=.ref n/\vs=[.tup ys]/\S[n]?=some (.lst xs)/\xs.length+ys.length<=big/\Q .non (S.set n (.lst (xs++ys)))
def zak (i:Nat):DG:=λd Z S Q=>Q (Z.set i (some d)) S
def zcg:DGs:=λds Z S Q=>ds=[]/\Q Z S
def zaw (t:DG)(u:DGs):DGs:=λds Z S Q=>∃ d r,ds=d::r/\t d Z S λρ' S'=>u r ρ' S' Q
def zce (n:Nat)(t:DGs):DG:=λd Z S Q=>∃ xs,d=.tup xs/\xs.length=n/\t xs Z S Q
def zgP (to ti:DE):DG:=λd Z S Q=>to Z S λo S1=>ti Z S1 λi S2=>∃ n xs k j,o=.ref n/\i=.int k/\S2[n]?=some (.lst xs)/\ixD xs.length k=some j/\Q Z (S2.set n (.lst (xs.set j d)))
def zA (t u:DS):DS:=λE Z S=>t { E with nx:=u E } Z S
def zZ:DS:=λE Z S=>E.nx Z S
def zT (t:DE):DS:=λE Z S=>t Z S E.rt
def zaY (t:DE):DS:=λE Z S=>t Z S λ_ S1=>E.nx Z S1
def zG (t:DE)(g:DG):DS:=λE Z S=>t Z S λx S1=>g x Z S1 E.nx
def sIf (c:DT)(t u:DS):DS:=λE Z S=>c Z S λb S1=>if b=true then t E Z S1 else u E Z S1
def sJ (t:DS):DS:=λE Z S=>∃ J:Rho->Sto->Prop,(∀ Z S,J Z S->E.nx Z S)/\t { E with nx:=J } Z S
def zbV:DS:=λ_ _ _=>False
def zoA (i j:Nat)(t:DA):DS:=λE Z S=>t Z S λvs S1=>∃ a b,vs=[a,b]/\E.nx ((Z.set i (some a)).set j (some b)) S1
def zpF:DS:=λE Z S=>E.ct Z S
def zdj (c f:Str)(to tv:DE):DS:=λE Z S=>tv Z S λy S1=>to Z S1 λx S2=>∃ n fs,x=.ref n/\S2[n]?=some (.ins c fs)/\fs.length<100/\E.nx Z (S2.set n (.ins c (putD f y fs)))
def zot (i:Nat)(t:DE):DS:=λE Z S=>∃ a,Z[i]?=some (some (.int a))/\t Z S λy S1=>∃ b,y=.int b/\E.nx (Z.set i (some (.int (a+b)))) S1
def zhh (c:DT)(t:DS):DS:=λE Z S=>∃ W:Nat->Rho->Sto->Prop,(∃ m,W m Z S)/\∀ m Z S,W m Z S ->
 c Z S λb S1=>if b=true then ∃ N:Rho->Sto->Prop,(∀ ρ' S',N ρ' S'->∃ m',m'<m/\W m' ρ' S')/\t { E with nx:=N,ct:=N,bk:=E.nx } Z S1 else E.nx Z S1
def zbg (wi:DI)(g:DG)(t:DS):DS:=λE Z S=>wi Z S λJ S1=>∃ W:Nat->Rho->Sto->Prop,W 0 Z S1/\(∀ i Z S,W i Z S->J.ok S) /\
 (∀ i d Z S,J.items[i]?=some d->W i Z S->g d Z S λρ2 S2=>t { E with nx:=W (i+1),ct:=W (i+1),bk:=E.nx } ρ2 S2)/\∀ Z S,W J.items.length Z S->E.nx Z S
noncomputable def signs (z:Str):List D:=z.cps.toList.map λc=>.str ⟨#[c]⟩
def zf2 (x:D)(S1:Sto)(R:DIt->Sto->Prop):Prop:=(∃ xs,x=.tup xs/\R ⟨xs,λ_=>True⟩ S1)\/(∃ xs,Lst S1 x xs/\R ⟨xs,λS=>Lst S x xs⟩ S1)\/(∃ z:Str,x=.str z/\R ⟨signs z,λ_=>True⟩ S1)
def zbf (t:DE):DI:=λZ S R=>t Z S λx S1=>zf2 x S1 R
noncomputable def upto (lo:Int) (n:Nat):List D:=(List.range n).map λk:Nat=>D.int (lo+(k:Int))
def zbP (t:DA):DI:=λZ S R=>t Z S λvs S1=>∃ j:Int,vs=[.int j]/\-(2 ^ 62)<=j/\j<2 ^ 62/\R ⟨upto 0 j.toNat,λ_=>True⟩ S1
def zhf (t:DA):DI:=λZ S R=>t Z S λvs S1=>∃ i j:Int,vs=[.int i,.int j]/\R ⟨upto i (j-i).toNat,λ_=>True⟩ S1
noncomputable def zcb:Nat->List D->List D
 |_,[]=>[]
 |k,x::xs=>.tup [.int (k:Nat),x]::zcb (k+1) xs
noncomputable def zbK:List D->List D->List D
 |x::xs,y::ys=>.tup [x,y]::zbK xs ys
 |_,_=>[]
def zlh:DB:=λvs S Q=>∃ i j:Int,vs=[.int i,.int j]/\j-i<=900/\Q (.ref S.length) (S++[.lst (upto i (j-i).toNat)])
noncomputable def zfU (c:List Str) (z:Str):List Str:=if c.any (·==z)=true then c else c++[z]
noncomputable def zb9 (f:Nat->Str):Nat->List Str
 |0=>[]
 |i+1=>zfU (zb9 f i) (f i)
noncomputable def zoD (zs:List Str):Nat:=(zb9 (λi=>zs.getD i Str.empty) zs.length).length
def zli:DB:=λvs S Q=>∃ x,∃ zs:List Str,vs=[x]/\Lst S x (zs.map D.str)/\zs.length<=4000/\Q (.int (zoD zs)) S
def zj0 (R:DIt->Sto->Prop)(vs:List D)(S1:Sto):Prop:=(∃ x xs,vs=[x]/\Lst S1 x xs/\R ⟨zcb 0 xs,λS=>Lst S x xs⟩ S1)\/(∃ xs,vs=[.tup xs]/\R ⟨zcb 0 xs,λ_=>True⟩ S1)
def zlP (t:DA):DI:=λZ S R=>t Z S (zj0 R)
def zlr (R:DIt->Sto->Prop)(vs:List D)(S1:Sto):Prop:=(∃ x y xs ys,vs=[x,y]/\Lst S1 x xs/\Lst S1 y ys/\R ⟨zbK xs ys,λS=>Lst S x xs/\Lst S y ys⟩ S1)\/(∃ xs ys,vs=[.tup xs,.tup ys]/\R ⟨zbK xs ys,λ_=>True⟩ S1)
def zoS (t:DA):DI:=λZ S R=>t Z S (zlr R)
noncomputable def zfX (own:Nat) (fv:List Nat) (Z:Rho):Rho:=List.replicate own none++fv.map λj=>(Z[j]?).join
def zbL:DT:=λ_ S Q=>Q true S
def dLC (own:Nat)(fv:List Nat)(wi:DI)(g:DG)(tc:DT)(te:DE):DE:=λZ S Q=>wi Z S λJ S1=>J.items.length<=big/\∃ W:Nat->List D->Sto->Prop,W 0 [] S1/\(∀ i ys S,W i ys S->J.ok S) /\
 (∀ i d ys S,J.items[i]?=some d->W i ys S->g d (zfX own fv Z) S λρ2 S2=>tc ρ2 S2 λb S3=>if b=true then te ρ2 S3 λy S4=>W (i+1) (ys++[y]) S4 else W (i+1) ys S3) /\
 ∀ ys S,W J.items.length ys S->Q (.ref S.length) (S++[.lst ys])
section
variable {κ:Type}[DecidableEq κ]
end
noncomputable def fc:Cell->Bool
 |.lst xs=>xs.all (fl 20)
 |.ins _ _=>false
 |.dk _=>false
 |.dt _=>false
 |.tab _ _ _=>false
def Fin (S:Sto)(Q:DK):DK:=λd S'=>Q d S'\/∃ S1,S1 <+: S'/\S.length<=S1.length/\(fl 20 d=true\/∃ n,d=.ref n/\n<S1.length)/\(∀ (n:Nat) c,S1[n]?=some c->S[n]?=some c\/fc c=true)/\Q d S1
noncomputable def zdx (n:Nat) (ds:List D):Rho:=ds.map some++List.replicate (n-ds.length) none
def BodyOk (n:Nat)(b:DS)(f:DSp):=∀ ds S Q,f ds S Q->b ⟨λ_ S'=>Fin S Q .non S',Fin S Q,λ_ _=>False,λ_ _=>False⟩ (zdx n ds) S
abbrev XD:=Str->Sto->Prop
abbrev XR:=Rho->Str->Sto->Prop
abbrev zc0:=List D->Sto->DK->XD->Prop
def zb2 (f:zc0)(ex:XR)(t:DA):DE:=λZ S Q=>t Z S λxs S1=>f xs S1 Q (ex Z)
def xF:XR:=λ_ _ _=>False
def zfB (ex:XR)(c:Str):DS:=λ_ Z S=>ex Z c S
def zhS (tbl:List (Str×Bool))(t:DE):DE:=λZ S Q=>t Z S λx S1=>∃ c b,x=.exn c/\tbl.lookup c=some b/\Q (.bl b) S1
def zob (i:Nat)(ok:List Str)(b:XR->DS)(h:DS):DS:=λE Z S =>b (λρ' c S'=>ok.contains c=true/\h { nx:=λρ2 S2=>E.nx (ρ2.set i none) S2,rt:=E.rt,bk:=λ_ _=>False,ct:=λ_ _=>False } (ρ'.set i (some (.exn c))) S') E Z S
def zcB (n:Nat)(b:XR->DS)(f:zc0):=∀ ds S Q ex,f ds S Q ex->b (λ_=>ex) ⟨λ_ S'=>Fin S Q .non S',Fin S Q,λ_ _=>False,λ_ _=>False⟩ (zdx n ds) S
def New (Q:DK)(S:Sto)(xs:List D):Prop:=Q (.ref S.length) (S++[.lst xs])
def Put (Q:Sto->Prop)(S:Sto)(n:Nat)(c:Cell):Prop:=Q (S.set n c)
def zll (own:Nat)(fv:List Nat)(g:DG)(tc:DT)(te:DE)(Z:Rho)(Q:DK)(J:DIt)(S:Sto):Prop:=J.items.length<=big/\∃ W:Nat->List D->Sto->Prop,W 0 [] S/\(∀ i ys S,W i ys S->J.ok S) /\
 (∀ i d ys S,J.items[i]?=some d->W i ys S->g d (zfX own fv Z) S λρ2 S2=>tc ρ2 S2 λb S3=>if b=true then te ρ2 S3 λy S4=>W (i+1) (ys++[y]) S4 else W (i+1) ys S3) /\
 ∀ ys S,W J.items.length ys S->New Q S ys
def zlY (d:D)(Z:Rho)(Q:Rho->Sto->Prop)(o i:D)(S2:Sto):=∃ n xs k j,o=.ref n/\i=.int k/\S2[n]?=some (.lst xs)/\ixD xs.length k=some j/\Q Z (S2.set n (.lst (xs.set j d)))
def zpi (nx:Rho->Sto->Prop)(rt:DK)(g:DG)(t:DS)(Z:Rho)(J:DIt)(S:Sto):=∃ W:Nat->Rho->Sto->Prop,W 0 Z S/\(∀ i Z S,W i Z S->J.ok S) /\
 (∀ i d Z S,J.items[i]?=some d->W i Z S->g d Z S λρ2 S2=>t ⟨W (i+1),rt,nx,W (i+1)⟩ ρ2 S2)/\∀ Z S,W J.items.length Z S->nx Z S
def zpz (W:Nat->Rho->Sto->Prop)(m:Nat)(t:DS)(rt:DK)(nx:Rho->Sto->Prop)(Z:Rho)(S:Sto):=∃ N:Rho->Sto->Prop,(∀ ρ' S',N ρ' S'->∃ m',m'<m/\W m' ρ' S')/\t ⟨N,rt,nx,N⟩ Z S
def NxI (N W:Rho->Sto->Prop):=∀ Z S,W Z S->N Z S
def zsG (W:Rho->Sto->Prop)(P:(Rho->Sto->Prop)->(Rho->Sto->Prop)->Prop):=∀ N B,NxI N W->P N B
def zvL {W:Rho->Sto->Prop}{P:(Rho->Sto->Prop)->(Rho->Sto->Prop)->Prop}(h:∀ N B,NxI N W->P N B):zsG W P:=h
def nxi (h:NxI N W)(w:W Z S):N Z S:=h Z S w
def zrv (J:Rho->Sto->Prop)(P:(Rho->Sto->Prop)->Prop):=∀ N,NxI N J->P N
def zvB {J:Rho->Sto->Prop}{P:(Rho->Sto->Prop)->Prop}(h:∀ N,NxI N J->P N):zrv J P:=h
def NxL (N W:List D->Sto->Prop):=∀ ys S,W ys S->N ys S
def ztt (W:List D->Sto->Prop)(P:(List D->Sto->Prop)->Prop):=∀ N,NxL N W->P N
def zwF {W:List D->Sto->Prop}{P:(List D->Sto->Prop)->Prop}(h:∀ N,NxL N W->P N):ztt W P:=h
def nxl (h:NxL N W)(w:W ys S):N ys S:=h ys S w
def zaL {nx:Rho->Sto->Prop}{rt:DK}{g:DG}{t:DS}{xs:List D}{ok:Sto->Prop}(W:Nat->Rho->Sto->Prop)(h0:W 0 Z S)(hok:∀ i Z S,W i Z S->ok S)(step:∀ i d Z S,xs[i]?=some d->W i Z S->zsG (W (i+1)) λN B=>g d Z S λρ2 S2=>t ⟨N,rt,B,N⟩ ρ2 S2)(fin:∀ Z S,W xs.length Z S->nx Z S):zpi nx rt g t Z ⟨xs,ok⟩ S:=⟨W,h0,hok,λi d Z S e w=>step i d Z S e w (W (i+1)) nx λ_ _ h=>h,fin⟩
def zvx {S:Sto}{Q:DK}{xs:List D}(h:Q (.ref S.length) (S++[.lst xs])):New Q S xs:=h
def ze3 {S T:Sto}{Q:DK}{xs:List D}(h:Q (.ref (S.length+T.length)) (S++(T++[.lst xs]))):New Q (S++T) xs:=by unfold New;rw[List.length_append,List.append_assoc];exact h
section
variable {S:Sto}{Q:DK}{xs:List D}{a b c d e f:Cell}
def zum (h:Q (.ref (S.length+1)) (S++[a,.lst xs])):New Q (S++[a]) xs:=ze3 h
def zvd (h:Q (.ref (S.length+2)) (S++[a,b,.lst xs])):New Q (S++[a,b]) xs:=ze3 h
def zu0 (h:Q (.ref (S.length+4)) (S++[a,b,c,d,.lst xs])):New Q (S++[a,b,c,d]) xs:=ze3 h
def zvq (h:Q (.ref (S.length+5)) (S++[a,b,c,d,e,.lst xs])):New Q (S++[a,b,c,d,e]) xs:=ze3 h
end
def zhA {a:Cell}{T:Sto}{Q:Sto->Prop}{c:Cell}(h:Q (S++c::T)):Put Q (S++a::T) S.length c:=by unfold Put;rw[List.set_append_right _ _ (Nat.le_refl _),Nat.sub_self];exact h
def zrW {a:Cell}{G T:Sto}{Q:Sto->Prop}{c:Cell}(h:Q (S++c::(G++T))):Put Q (S++(a::G++T)) S.length c:=zhA h
def zpB (nx:Rho->Sto->Prop)(Z:Rho):DK:=λ_ S1=>nx Z S1
def zr5 (g:DG)(Z:Rho)(nx:Rho->Sto->Prop):DK:=λx S1=>g x Z S1 nx
def kIf (t u:DS)(E:zgd)(Z:Rho):Bool->Sto->Prop:=λb S1=>if b=true then t E Z S1 else u E Z S1
def kGc (u:DGs)(r:List D)(Q:Rho->Sto->Prop):Rho->Sto->Prop:=λρ' S'=>u r ρ' S' Q
def kSu (ti:DE)(d:D)(Z:Rho)(Q:Rho->Sto->Prop):DK:=λo S1=>ti Z S1 (zlY d Z Q o)
def kO2 (r:DR2)(x:D)(Q:DK):DK:=λy S2=>r x y S2 Q
def kOp (r:DR2)(tb:DE)(Z:Rho)(Q:DK):DK:=λx S1=>tb Z S1 (kO2 r x Q)
def kUn (r:D->Sto->DK->Prop)(Q:DK):DK:=λx S1=>r x S1 Q
def kC2 (x:D)(Q:List D->Sto->Prop):List D->Sto->Prop:=λxs S2=>Q (x::xs) S2
def kCo (tr:DA)(Z:Rho)(Q:List D->Sto->Prop):DK:=λx S1=>tr Z S1 (kC2 x Q)
def kTu (Q:DK):List D->Sto->Prop:=λxs S1=>xs.length<=big/\Q (.tup xs) S1
def kLs (Q:DK):List D->Sto->Prop:=λxs S1=>xs.length<=big/\New Q S1 xs
def kCa (f:DSp)(Q:DK):List D->Sto->Prop:=λxs S1=>f xs S1 Q
def kM2 (r:DM)(x:D)(Q:DK):List D->Sto->Prop:=λxs S2=>r x xs S2 Q
def kM (r:DM)(t:DA)(Z:Rho)(Q:DK):DK:=λx S1=>(∃ n ys,x=.ref n/\S1[n]?=some (.lst ys))/\t Z S1 (kM2 r x Q)
def kT (Q:Bool->Sto->Prop):DK:=λx S1=>∃ b,x=.bl b/\Q b S1
def kAn (u:DT)(Z:Rho)(Q:Bool->Sto->Prop):Bool->Sto->Prop:=λc S1=>if c=true then u Z S1 Q else Q false S1
def kOr (u:DT)(Z:Rho)(Q:Bool->Sto->Prop):Bool->Sto->Prop:=λc S1=>if c=true then Q true S1 else u Z S1 Q
def kNo (Q:Bool->Sto->Prop):Bool->Sto->Prop:=λc S1=>Q (!c) S1
def kIE (ta tb:DE)(Z:Rho)(Q:DK):Bool->Sto->Prop:=λb S1=>if b=true then ta Z S1 Q else tb Z S1 Q
def kS2 (r:D->Option Int->Option Int->Sto->DK->Prop)(x:D)(l:Option Int)(Q:DK):Option Int->Sto->Prop:=λh S3=>r x l h S3 Q
def kS1 (r:D->Option Int->Option Int->Sto->DK->Prop)(x:D)(hi:Option DE)(Z:Rho)(Q:DK):Option Int->Sto->Prop:=λl S2=>zeW hi Z S2 (kS2 r x l Q)
def kSl (r:D->Option Int->Option Int->Sto->DK->Prop)(lo hi:Option DE)(Z:Rho)(Q:DK):DK:=λx S1=>zeW lo Z S1 (kS1 r x hi Z Q)
section
variable {nx:Rho->Sto->Prop}{Z:Rho}{S:Sto}{Q:DK}{x y:D}{xs:List D}{E:zgd}
def k_drop (h:nx Z S):zpB nx Z x S:=h
def zvl {g:DG}(h:g x Z S nx):zr5 g Z nx x S:=h
def zvF {t u:DS}{b:Bool}(h:if b=true then t E Z S else u E Z S):kIf t u E Z b S:=h
def zv6 {u:DGs}{r:List D}(h:u r Z S nx):kGc u r nx Z S:=h
def zwm {ti:DE}{d:D}(h:ti Z S (zlY d Z nx x)):kSu ti d Z nx x S:=h
def zwL {r:DR2}(h:r x y S Q):kO2 r x Q y S:=h
def zwD {r:DR2}{tb:DE}(h:tb Z S (kO2 r x Q)):kOp r tb Z Q x S:=h
def zwN {r:D->Sto->DK->Prop}(h:r x S Q):kUn r Q x S:=h
def zwp {Q:List D->Sto->Prop}(h:Q (x::xs) S):kC2 x Q xs S:=h
def zvX {tr:DA}{Q:List D->Sto->Prop}(h:tr Z S (kC2 x Q)):kCo tr Z Q x S:=h
def zwc (h:xs.length<=big/\Q (.tup xs) S):kTu Q xs S:=h
def zwq (h:xs.length<=big/\New Q S xs):kLs Q xs S:=h
def zwP {f:DSp}(h:f xs S Q):kCa f Q xs S:=h
def zvA {r:DM}(h:r x xs S Q):kM2 r x Q xs S:=h
def k_m {r:DM}{t:DA}(h:(∃ n ys,x=.ref n/\S[n]?=some (.lst ys))/\t Z S (kM2 r x Q)):kM r t Z Q x S:=h
def k_t {Q:Bool->Sto->Prop}(h:Q b S):kT Q (.bl b) S:=⟨b,rfl,h⟩
def zvT {u:DT}{Q:Bool->Sto->Prop}{c:Bool}(h:if c=true then u Z S Q else Q false S):kAn u Z Q c S:=h
def zwG {u:DT}{Q:Bool->Sto->Prop}{c:Bool}(h:if c=true then Q true S else u Z S Q):kOr u Z Q c S:=h
def zwZ {Q:Bool->Sto->Prop}{c:Bool}(h:Q (!c) S):kNo Q c S:=h
def zwj {ta tb:DE}{b:Bool}(h:if b=true then ta Z S Q else tb Z S Q):kIE ta tb Z Q b S:=h
def zvC {r:D->Option Int->Option Int->Sto->DK->Prop}{l o:Option Int}(h:r x l o S Q):kS2 r x l Q o S:=h
def zwk {r:D->Option Int->Option Int->Sto->DK->Prop}{l:Option Int}{hi:Option DE}(h:zeW hi Z S (kS2 r x l Q)):kS1 r x hi Z Q l S:=h
def zwo {r:D->Option Int->Option Int->Sto->DK->Prop}{lo hi:Option DE}(h:zeW lo Z S (kS1 r x hi Z Q)):kSl r lo hi Z Q x S:=h
end
section
variable {nx:Rho->Sto->Prop}{rt:DK}{bk ct:Rho->Sto->Prop}{Z:Rho}{S:Sto}
def zhC {t u:DS}(h:t ⟨u ⟨nx,rt,bk,ct⟩,rt,bk,ct⟩ Z S):zA t u ⟨nx,rt,bk,ct⟩ Z S:=h
def r_J {t:DS}(J:Rho->Sto->Prop)(h:zrv J λN=>t ⟨N,rt,bk,ct⟩ Z S)(hJ:∀ Z S,J Z S->nx Z S):sJ t ⟨nx,rt,bk,ct⟩ Z S:=⟨J,hJ,h J λ_ _ h=>h⟩
def zv3 {t:DS}(J:Rho->Sto->Prop)(h:t ⟨J,rt,bk,ct⟩ Z S)(hJ:∀ Z S,J Z S->nx Z S):sJ t ⟨nx,rt,bk,ct⟩ Z S:=⟨J,hJ,h⟩
def zuk {i j:Nat}{t:DA}(h:t Z S λvs S1=>∃ a b,vs=[a,b]/\nx ((Z.set i (some a)).set j (some b)) S1):zoA i j t ⟨nx,rt,bk,ct⟩ Z S:=h
def zrC {P:D->D->Prop}(h:P a b):∃ x y,[a,b]=[x,y]/\P x y:=⟨a,b,rfl,h⟩
def zj1 (h:nx Z S):zZ ⟨nx,rt,bk,ct⟩ Z S:=h
def zpn {t:DE}(h:t Z S rt):zT t ⟨nx,rt,bk,ct⟩ Z S:=h
def zsV {t:DE}(h:t Z S (zpB nx Z)):zaY t ⟨nx,rt,bk,ct⟩ Z S:=h
def zpp {t:DE}{g:DG}(h:t Z S (zr5 g Z nx)):zG t g ⟨nx,rt,bk,ct⟩ Z S:=h
def zwQ {c:DT}{t u:DS}(h:c Z S (kIf t u ⟨nx,rt,bk,ct⟩ Z)):sIf c t u ⟨nx,rt,bk,ct⟩ Z S:=h
def zrH {c f:Str}{to tv:DE}(h:tv Z S λy S1=>to Z S1 λx S2=>∃ n fs,x=.ref n/\S2[n]?=some (.ins c fs)/\fs.length<100/\nx Z (S2.set n (.ins c (putD f y fs)))):zdj c f to tv ⟨nx,rt,bk,ct⟩ Z S:=h
def zuj {i:Nat}{t:DE}{a:Int}(e:Z[i]?=some (some (.int a)))(h:t Z S λy S1=>∃ b,y=.int b/\nx (Z.set i (some (.int (a+b)))) S1):zot i t ⟨nx,rt,bk,ct⟩ Z S:=⟨a,e,h⟩
def zt8 {wi:DI}{g:DG}{t:DS}(h:wi Z S (zpi nx rt g t Z)):zbg wi g t ⟨nx,rt,bk,ct⟩ Z S:=h
def ztr {c:DT}{t:DS}(W:Nat->Rho->Sto->Prop)(m:Nat)(h0:W m Z S)(h:∀ m Z S,W m Z S->c Z S λb S1=>if b=true then zpz W m t rt nx Z S1 else nx Z S1):zhh c t ⟨nx,rt,bk,ct⟩ Z S:=⟨W,⟨m,h0⟩,h⟩
def zmu {t:DS}{W:Nat->Rho->Sto->Prop}{m:Nat}(h:t ⟨λρ' S'=>∃ m',m'<m/\W m' ρ' S',rt,nx,λρ' S'=>∃ m',m'<m/\W m' ρ' S'⟩ Z S):zpz W m t rt nx Z S:=⟨_,λ_ _ z=>z,h⟩
def zp1 {i:Nat}{d:D}{Q:Rho->Sto->Prop}(h:Q (Z.set i (some d)) S):zak i d Z S Q:=h
def zsK {Q:Rho->Sto->Prop}(h:Q Z S):zcg [] Z S Q:=⟨rfl,h⟩
def zqU {t:DG}{u:DGs}{d:D}{r:List D}{Q:Rho->Sto->Prop}(h:t d Z S (kGc u r Q)):zaw t u (d::r) Z S Q:=⟨d,r,rfl,h⟩
def zru {n:Nat}{t:DGs}{xs:List D}{Q:Rho->Sto->Prop}(e:xs.length=n)(h:t xs Z S Q):zce n t (.tup xs) Z S Q:=⟨xs,rfl,e,h⟩
def zrS {to ti:DE}{d:D}{Q:Rho->Sto->Prop}(h:to Z S (kSu ti d Z Q)):zgP to ti d Z S Q:=h
def zfe {i:Nat}{d:D}{Q:DK}(h:Z[i]?=some (some d))(q:Q d S):zaZ i Z S Q:=⟨d,h,q⟩
def r_c {Q:DK}(q:Q d S):dC d Z S Q:=q
def zlp {r:DR2}{ta tb:DE}{Q:DK}(h:ta Z S (kOp r tb Z Q)):dOp r ta tb Z S Q:=h
def zv8 {r:D->Sto->DK->Prop}{ta:DE}{Q:DK}(h:ta Z S (kUn r Q)):dUn r ta Z S Q:=h
def zu1 {Q:List D->Sto->Prop}(h:Q [] S):zE Z S Q:=h
def zjP {ta:DE}{tr:DA}{Q:List D->Sto->Prop}(h:ta Z S (kCo tr Z Q)):zj ta tr Z S Q:=h
def zph {t:DA}{Q:DK}(h:t Z S (kTu Q)):dTup t Z S Q:=h
def zuv {t:DA}{Q:DK}(h:t Z S (kLs Q)):za6 t Z S Q:=h
def zuJ {xs:List D}{P:Prop}(h:Nat.ble xs.length big=true)(q:P):xs.length<=big/\P:=⟨Nat.le_of_ble_eq_true h,q⟩
def zsQ {f:DSp}{t:DA}{Q:DK}(h:t Z S (kCa f Q)):dCall f t Z S Q:=h
def r_b {r:DB}{t:DA}{Q:DK}(h:t Z S (kCa r Q)):dB r t Z S Q:=h
def r_m {r:DM}{ta:DE}{t:DA}{Q:DK}(h:ta Z S (kM r t Z Q)):dM r ta t Z S Q:=h
def zua {n:Nat}{ys:List D}{P:Prop}(h:S[n]?=some (.lst ys))(q:P):(∃ m ys,D.ref n=.ref m/\S[m]?=some (.lst ys))/\P:=⟨⟨n,ys,rfl,h⟩,q⟩
def r_t {t:DE}{Q:Bool->Sto->Prop}(h:t Z S (kT Q)):dT t Z S Q:=h
def zwE {P:Bool->Prop}(h:P c):∃ b,D.bl c=D.bl b/\P b:=⟨c,rfl,h⟩
def zvt {P:Int->Prop}(h:P c):∃ b,D.int c=D.int b/\P b:=⟨c,rfl,h⟩
def zuI {t u:DT}{Q:Bool->Sto->Prop}(h:t Z S (kAn u Z Q)):zeu t u Z S Q:=h
def zv4 {t u:DT}{Q:Bool->Sto->Prop}(h:t Z S (kOr u Z Q)):dOr t u Z S Q:=h
def zuX {t:DT}{Q:Bool->Sto->Prop}(h:t Z S (kNo Q)):zd2 t Z S Q:=h
def zsv {t u:DE}{Q:DK}(h:t Z S λx S1=>∃ c,x=.bl c/\if c=true then u Z S1 Q else Q (.bl false) S1):zeR t u Z S Q:=h
def zrQ {t:DE}{Q:DK}(h:t Z S λx S1=>∃ c,x=.bl c/\Q (.bl (!c)) S1):zf5 t Z S Q:=h
def ztZ {c:DT}{ta tb:DE}{Q:DK}(h:c Z S (kIE ta tb Z Q)):zlZ c ta tb Z S Q:=h
def zpJ {r r':DR2}{ta tb tc:DE}{Q:DK}(h:ta Z S λx S1=>tb Z S1 λy S2=>r x y S2 λz S3=>∃ c,z=.bl c/\if c=true then tc Z S3 λw S4=>r' y w S4 Q else Q (.bl false) S3):zg0 r r' ta tb tc Z S Q:=h
def ztK {f:Str}{ta:DE}{Q:DK}(h:ta Z S λx S1=>∃ n c fs d,x=.ref n/\S1[n]?=some (.ins c fs)/\fs.lookup f=some d/\Q d S1):zcx f ta Z S Q:=h
def zv5 {r:D->Option Int->Option Int->Sto->DK->Prop}{ta:DE}{lo hi:Option DE}{Q:DK}(h:ta Z S (kSl r lo hi Z Q)):dSl r ta lo hi Z S Q:=h
def ztj {Q:Option Int->Sto->Prop}(h:Q none S):zeW none Z S Q:=h
def zsT {t:DE}{Q:Option Int->Sto->Prop}(h:t Z S λx S1=>∃ i,x=.int i/\Q (some i) S1):zeW (some t) Z S Q:=h
def zsf {ta tb:DE}{Q:DK}(h:ta Z S λx S1=>(∃ z,x=.str z)/\tb Z S1 λy S2=>∃ z n,∃ zs:List Str,x=.str z/\y=.ref n/\S2[n]?=some (.lst (zs.map D.str))/\(zs.map (·.length)).sum+zs.length*z.length<=big/\Q (.str (Str.join z zs)) S2):ziU ta tb Z S Q:=h
def zwX {c:Str}{ta tb:DE}{Q:DK}(h:ta Z S λx S1=>(∃ i,x=.int i/\My.Bd 1900 i/\(Str.ofString (toString i)).length<=1000/\c.length<=1000)/\tb Z S1 λy S2=>∃ i j,x=.int i/\y=.int j/\My.Bd 1900 j/\(Str.ofString (toString j)).length<=1000/\Q (.str (Str.ofString (toString i)++c++Str.ofString (toString j))) S2):dF3 c ta tb Z S Q:=h
def zsE {Q:Bool->Sto->Prop}(h:Q true S):zbL Z S Q:=h
end
section
variable {S:Sto}{Q:DK}
def zuW {i j:Int}(q:Q (.int (i+j)) S):zaf (.int i) (.int j) S Q:=.inl ⟨i,j,rfl,rfl,q⟩
def zeb {i j:Str}(h:i.length+j.length<=big)(q:Q (.str (i++j)) S):zaf (.str i) (.str j) S Q:=.inr (.inr (.inr ⟨i,j,rfl,rfl,h,q⟩))
def ztX {i j:Int}(q:Q (.int (i-j)) S):zag (.int i) (.int j) S Q:=⟨i,j,rfl,rfl,q⟩
def zve (c:zaa i j)(q:Q (.int (i*j)) S):zac (.int i) (.int j) S Q:=.inl ⟨i,j,rfl,rfl,c,q⟩
def zuQ {c:Nat}{z:Str}(q:Q (.bl (decide (c∈z.cps.toList))) S):oIn (.str ⟨#[c]⟩) (.str z) S Q:=.inr ⟨c,z,rfl,rfl,q⟩
def zvf {i j:Int}(c:0<j/\My.Bd 8000 j)(q:Q (.int (i/j)) S):oDiv (.int i) (.int j) S Q:=⟨i,j,rfl,rfl,⟨by lia,c.2⟩,by show Q (.int (i.fdiv j)) S;rw[Int.fdiv_eq_ediv_of_nonneg i (by lia)];exact q⟩
def zu8 {i j:Int}(c:0<j)(q:Q (.int (i%j)) S):oMod (.int i) (.int j) S Q:=⟨i,j,rfl,rfl,(by show j≠0;lia),by show Q (.int (i.fmod j)) S;rw[Int.fmod_eq_emod_of_nonneg i (by lia)];exact q⟩
def zmE (c:zpD i j)(q:Q (.int (i.fdiv j)) S):oDiv (.int i) (.int j) S Q:=⟨i,j,rfl,rfl,c,q⟩
def zrr {i j:Int}(c:j≠0)(q:Q (.int (i.fmod j)) S):oMod (.int i) (.int j) S Q:=⟨i,j,rfl,rfl,c,q⟩
def ztL {i:Int}(q:Q (.int (-i)) S):za8 (.int i) S Q:=⟨i,rfl,q⟩
def zwK {i j:Int}(q:Q (.bl (decide (i<j))) S):oLt (.int i) (.int j) S Q:=⟨i,j,rfl,rfl,q⟩
def zvY {i j:Int}(q:Q (.bl (decide (i<=j))) S):oLe (.int i) (.int j) S Q:=⟨i,j,rfl,rfl,q⟩
def zwv {i j:Int}(q:Q (.bl (decide (j<i))) S):oGt (.int i) (.int j) S Q:=⟨i,j,rfl,rfl,q⟩
def zvc {i j:Int}(q:Q (.bl (decide (i=j))) S):oEq (.int i) (.int j) S Q:=⟨_,.inl ⟨rfl,rfl,rfl⟩,q⟩
def ztS {i j:Int}(q:Q (.bl (!decide (i=j))) S):oNe (.int i) (.int j) S Q:=⟨_,.inl ⟨rfl,rfl,rfl⟩,q⟩
def zwV {x:D}(q:Q (.bl (zdl x)) S):oIs x .non S Q:=.inl ⟨rfl,q⟩
def zrG (q:Q (.bl false) S):zet .non .non S Q:=.inl ⟨rfl,q⟩
def zsI {i:Int}(q:Q (.bl true) S):zet (.int i) .non S Q:=.inl ⟨rfl,q⟩
def zpt {x:D}(q:Q (.bl (!zdl x)) S):zet x .non S Q:=.inl ⟨rfl,q⟩
def zu2 {xs:List D}{i:Int}{d:D}(e:atD xs i=some d)(q:Q d S):oIx (.tup xs) (.int i) S Q:=.inl ⟨i,xs,d,rfl,.inl rfl,e,q⟩
def zvv {i:Int}{d:D}(h:Lst S x xs)(e:atD xs i=some d)(q:Q d S):oIx x (.int i) S Q:=.inl ⟨i,xs,d,rfl,.inr h,e,q⟩
def ztU {z:Str}{i:Int}{c:Nat}(hz:z.length<=big)(e:atS z i=some c)(q:Q (.str ⟨#[c]⟩) S):oIx (.str z) (.int i) S Q:=.inr ⟨z,i,c,rfl,rfl,hz,e,q⟩
def zti {xs:List D}{lo hi:Option Int}(q:Q (.tup (cutD xs lo hi)) S):zlu (.tup xs) lo hi S Q:=.inl ⟨xs,rfl,q⟩
def zr0 {xs:List D}(q:Q (.int xs.length) S):za0 [.tup xs] S Q:=.inl ⟨_,xs,rfl,.inl rfl,q⟩
def zsb (h:Lst S x xs)(q:Q (.int xs.length) S):za0 [x] S Q:=.inl ⟨_,xs,rfl,.inr h,q⟩
def znO {z:Str}(hz:z.length<=big)(q:Q (.int z.length) S):za0 [.str z] S Q:=.inr ⟨z,rfl,hz,q⟩
def ztQ {i:Int}(q:Q (.int (i.natAbs:Int)) S):zoc [.int i] S Q:=⟨i,rfl,q⟩
def zsU {i j:Int}(q:Q (.int (max i j)) S):zec [.int i,.int j] S Q:=⟨i,j,rfl,q⟩
def zrV {i j:Int}(q:Q (.int (min i j)) S):zeY [.int i,.int j] S Q:=⟨i,j,rfl,q⟩
def zrP {ns:List Int}(h:Lst S x (ns.map D.int))(h0:0<ns.length)(q:∀ m:Int,m∈ns->(∀ a∈ns,a<=m)->Q (.int m) S):zme [x] S Q:=⟨x,ns,rfl,h,h0,q⟩
def zr2 {ns:List Int}(h:Lst S x (ns.map D.int))(h0:0<ns.length)(q:∀ m:Int,m∈ns->(∀ a∈ns,m<=a)->Q (.int m) S):zlA [x] S Q:=⟨x,ns,rfl,h,h0,q⟩
def ztM {bs:List Bool}(h:Lst S x (bs.map D.bl))(q:Q (.bl (bs.all id)) S):zfE [x] S Q:=⟨x,bs,rfl,h,q⟩
def znU (h:Lst S x xs)(q:Q (.tup xs) S):zja [x] S Q:=⟨_,xs,rfl,.inr h,q⟩
def zpR (h:Lst S x xs)(q:New Q S xs):zeq [x] S Q:=⟨_,xs,rfl,.inr h,q⟩
def zlo (h:My.Bd 1900 i)(q:Q (.str (Str.ofString (toString i))) S):zjA [.int i] S Q:=.inl ⟨i,rfl,h,q⟩
def zpQ {cs:List (Int×Int)}(h:Lst S x (cs.map p2))(hl:cs.length<64)(q:∀ ss:List (Int×Int),ss.Perm cs->ss.Pairwise (λa b=>zgR b a=false)->New Q S (ss.map p2)):zl8 [x] S Q:=.inl ⟨x,cs,rfl,h,hl,q⟩
def zoY {n:Nat}{xs:List D}{y:D}(h:S[n]?=some (.lst xs))(hl:xs.length<big)(q:Put (Q .non) S n (.lst (xs++[y]))):zbY (.ref n) [y] S Q:=⟨n,xs,y,rfl,rfl,h,hl,q⟩
def znv {n:Nat}{xs ys:List D}(h:S[n]?=some (.lst xs))(hl:xs.length+ys.length<=big)(q:Put (Q .non) S n (.lst (xs++ys))):zgC (.ref n) [.tup ys] S Q:=.inr ⟨n,xs,ys,rfl,rfl,h,hl,q⟩
def zlW {n:Nat}{xs:List D}{k:Int}{j:Nat}{d:D}{Z:Rho}{Q:Rho->Sto->Prop}(h:S[n]?=some (.lst xs))(e:ixD xs.length k=some j)(q:Put (Q Z) S n (.lst (xs.set j d))):zlY d Z Q (.ref n) (.int k) S:=⟨n,xs,k,j,rfl,rfl,h,e,q⟩
end
section
variable {Z:Rho}{S:Sto}{R:DIt->Sto->Prop}
def zrK {t:DE}(h:t Z S λx S1=>zf2 x S1 R):zbf t Z S R:=h
def zu4 {xs:List D}(q:R ⟨xs,λ_=>True⟩ S):zf2 (.tup xs) S R:=.inl ⟨xs,rfl,q⟩
def zuo (h:Lst S x xs)(q:R ⟨xs,λS=>Lst S x xs⟩ S):zf2 x S R:=.inr (.inl ⟨xs,h,q⟩)
def zuK {z:Str}(q:R ⟨signs z,λ_=>True⟩ S):zf2 (.str z) S R:=.inr (.inr ⟨z,rfl,q⟩)
def zsN {t:DA}(h:t Z S λvs S1=>∃ j:Int,vs=[.int j]/\-(2 ^ 62)<=j/\j<2 ^ 62/\R ⟨upto 0 j.toNat,λ_=>True⟩ S1):zbP t Z S R:=h
def zr8 {t:DA}(h:t Z S λvs S1=>∃ i j:Int,vs=[.int i,.int j]/\R ⟨upto i (j-i).toNat,λ_=>True⟩ S1):zhf t Z S R:=h
def zsw {t:DA}(h:t Z S (zj0 R)):zlP t Z S R:=h
def zvE (h:Lst S x xs)(q:R ⟨zcb 0 xs,λS=>Lst S x xs⟩ S):zj0 R [x] S:=.inl ⟨x,xs,rfl,h,q⟩
def zrq {i j:Int}(h:j-i<=900)(q:New Q S (upto i (j-i).toNat)):zlh [.int i,.int j] S Q:=⟨i,j,rfl,h,q⟩
def zsC {Q:DK}{zs:List Str}(hx:Lst S x (zs.map D.str))(hl:zs.length<=4000)(q:Q (.int (zoD zs)) S):zli [x] S Q:=⟨x,zs,rfl,hx,hl,q⟩
def zuw {t:DA}(h:t Z S (zlr R)):zoS t Z S R:=h
def zvW (hx:Lst S x xs)(hy:Lst S y ys)(q:R ⟨zbK xs ys,λS=>Lst S x xs/\Lst S y ys⟩ S):zlr R [x,y] S:=.inl ⟨x,y,xs,ys,rfl,hx,hy,q⟩
def zwd {own:Nat}{fv:List Nat}{wi:DI}{g:DG}{tc:DT}{te:DE}{Q:DK}(h:wi Z S (zll own fv g tc te Z Q)):dLC own fv wi g tc te Z S Q:=h
end
def zoo {A B:Prop}(h:B):if false=true then A else B:=by rw[if_neg Bool.false_ne_true];exact h
def zoZ {A B:Prop}(h:A):if true=true then A else B:=by rw[if_pos rfl];exact h
def r_d {c A B:Prop}[Decidable c](h1:c->A)(h2:¬ c->B):if decide c=true then A else B:=by
 by_cases h:c
 ·rw[decide_eq_true h,if_pos rfl];exact h1 h
 ·rw[decide_eq_false h,if_neg Bool.false_ne_true];exact h2 h
def zrI {c A B:Prop}[Decidable c](h1:¬ c->A)(h2:c->B):if(!decide c)=true then A else B:=by
 by_cases h:c
 ·rw[decide_eq_true h];exact h2 h
 ·rw[decide_eq_false h];exact h1 h
def zbT (S T:Sto)(k:Nat):(S++T)[S.length+k]?=T[k]?:=by rw[List.getElem?_append_right (Nat.le_add_right _ _),Nat.add_sub_cancel_left]
def zqX (S T:Sto):(S++T)[S.length]?=T[0]?:=zbT S T 0
def zaV {S T:Sto}{c:Cell}:(S++c::T)[S.length]?=some c:=(zbT S (c::T) 0).trans rfl
def zgb {S T:Sto}{c:Cell}:(S++(T++[c]))[S.length+T.length]?=some c:=by rw[zbT,List.getElem?_append_right (Nat.le_refl _),Nat.sub_self];rfl
def zqd (S T:Sto)(k:Nat)(c:Cell):(S++T).set (S.length+k) c=S++T.set k c:=by rw[List.set_append_right _ _ (Nat.le_add_right _ _),Nat.add_sub_cancel_left]
def zb3 (S T:Sto)(a c:Cell):(S++a::T).set S.length c=S++c::T:=zqd S (a::T) 0 c
def zby {S T:Sto}{n:Nat}{c:Cell}(h:S[n]?=some c):(S++T)[n]?=some c:=by
 have:n<S.length:=by
  rcases Nat.lt_or_ge n S.length with g|g
  ·exact g
  ·rw[List.getElem?_eq_none g]at h;cases h
 rw[List.getElem?_append_left this];exact h
def Lst.old {T:Sto}(h:Lst S x xs):Lst (S++T) x xs:=h.imp id λzq10=>by obtain⟨n,e,h⟩:=zq10;exact⟨n,e,zby h⟩
def Lst.at {S T:Sto}{k:Nat}{xs:List D}(h:T[k]?=some (.lst xs)):Lst (S++T) (.ref (S.length+k)) xs:=.inr ⟨_,rfl,by rw[zbT];exact h⟩
def Lst.at0 {S T:Sto}{xs:List D}:Lst (S++.lst xs::T) (.ref S.length) xs:=.inr ⟨_,rfl,by rw[zqX];rfl⟩
def Lst.new {S T:Sto}{xs:List D}:Lst (S++(T++[.lst xs])) (.ref (S.length+T.length)) xs:=.inr ⟨_,rfl,zgb⟩
theorem Lst.rl {S:Sto}{xs:List D}:Lst S (.rl xs) xs:=.inl rfl
def Lst.here {S:Sto}{n:Nat}{xs:List D}(h:S[n]?=some (.lst xs)):Lst S (.ref n) xs:=.inr ⟨n,rfl,h⟩
def zau {T:Sto}{Q:DK}{d:D}(h:fl 20 d=true)(q:Q d S):Fin S Q d (S++T):=.inr ⟨S,List.prefix_append _ _,Nat.le_refl _,.inl h,λ_ _ e=>.inl e,q⟩
def fin_same {S:Sto}{Q:DK}(q:Q d S'):Fin S Q d S':=.inl q
section
variable {S:Sto}{Q:DK}
def ziN {i:Int}(q:Q (.bl true) S):ze5 [.int i,.ty "int"] S Q:=⟨_,_,true,rfl,by rfl,q⟩
def zh3 {i:Int}(q:Q (.bl false) S):ze5 [.int i,.ty "bool"] S Q:=⟨_,_,false,rfl,by rfl,q⟩
def zhy {xs:List D}(q:Q (.bl true) S):ze5 [.tup xs,.ty "tuple"] S Q:=⟨_,_,true,rfl,by rfl,q⟩
def ziH {x:Str}(q:Q (.bl true) S):ze5 [.str x,.ty "str"] S Q:=⟨_,_,true,rfl,by rfl,q⟩
end
def ztI {A B:Prop}(h:B):if(!true)=true then A else B:=zoo h
def zuS {A B:Prop}(h:A):if(!false)=true then A else B:=zoZ h
def zfR {Q:DK}{bs:List Bool}{b:Bool}(h:Lst S x (bs.map D.bl))(e:bs.all id=b)(q:Q (.bl b) S):zfE [x] S Q:=ztM h (by rw[e];exact q)
def LcW (S:Sto)(items:List D)(p:D->Bool)(f:D->D)(i:Nat)(ys:List D)(S':Sto):Prop:=S'=S/\ys=((items.take i).filter p).map f
def zai {α:Type}{xs:List α}{i:Nat}{x:α}(h:xs[i]?=some x):xs.take (i+1)=xs.take i++[x]:=by rw[List.take_succ,h];rfl
def zcT {items:List D}{i:Nat}{d y:D}(hd:items[i]?=some d)(hw:LcW S items p f i ys S)(hp:p d=true)(hy:y=f d):LcW S items p f (i+1) (ys++[y]) S :=⟨rfl,by rw[zai hd,List.filter_append,List.map_append,<- hw.2,List.filter_cons_of_pos hp,hy];rfl⟩
def zt1 {items:List D}{i:Nat}{d:D}(hd:items[i]?=some d)(hw:LcW S items p f i ys S)(hp:p d=false):LcW S items p f (i+1) ys S :=⟨rfl,by rw[zai hd,List.filter_append,List.map_append,<- hw.2,List.filter_cons_of_neg (by rw[hp];exact Bool.false_ne_true)];simp⟩
def zbx {own:Nat}{fv:List Nat}{xs:List D}{ok:Sto->Prop}{g:DG}{tc:DT}{te:DE}{Z:Rho}{S:Sto}(p:D->Bool)(f:D->D)(hok:ok S)(hbig:xs.length<=big)(step:∀ i d ys,xs[i]?=some d->LcW S xs p f i ys S->g d (zfX own fv Z) S λρ2 S2=>tc ρ2 S2 λb S3=>if b=true then te ρ2 S3 λy S4=>LcW S xs p f (i+1) (ys++[y]) S4 else LcW S xs p f (i+1) ys S3)(q:New Q S ((xs.filter p).map f)):zll own fv g tc te Z Q ⟨xs,ok⟩ S:=by
 refine⟨hbig,LcW S xs p f,⟨rfl,by simp⟩,λi ys S' h=>by rw[h.1];exact hok,λi d ys S' hd h=>?_,λys S' h=>?_⟩
 ·obtain⟨rfl,_⟩:=id h;exact step i d ys hd h
 ·obtain⟨rfl,rfl⟩:=h;rw[List.take_length];exact q
def filter_true (xs:List α):xs.filter (λ_=>true)=xs:=List.filter_eq_self.mpr λ_ _=>rfl
def zbw {ds:List D}{i:Nat}{d:D}(h:ds[i]?=some d):atD ds (i:Int)=some d:=by
 have hl:i<ds.length:=by
  rcases Nat.lt_or_ge i ds.length with g|g
  ·exact g
  ·rw[List.getElem?_eq_none g]at h;cases h
 unfold atD ixD;rw[if_pos (by lia),if_pos (by lia)];simpa using h
def zbc {lo:Int}{n i:Nat}{d:D}(h:(upto lo n)[i]?=some d):i<n/\d=.int (lo+i):=by
 unfold upto at h;rw[List.getElem?_map]at h;by_cases hi:i<n
 ·rw[List.getElem?_range hi]at h;exact⟨hi,by simpa using h.symm⟩
 ·rw[List.getElem?_eq_none (by simpa using hi)]at h;cases h
def zaK (lo:Int)(n:Nat):(upto lo n).length=n:=by unfold upto;simp
def zdu {zs:List Int}{k:Int}(h0:0<=k)(h:k<zs.length):∃ z,z∈zs/\atD (zs.map D.int) k=some (.int z):=by refine⟨zs[k.toNat]'(by lia),List.getElem_mem _,?_⟩;unfold atD ixD;rw[List.length_map,if_pos h0,if_pos h];simp only[Option.bind_some];rw[List.getElem?_map,List.getElem?_eq_getElem (by lia)];rfl
def zrE {zs:List Int}{k:Int}(h0:0<=k)(h:k<zs.length):ixD (zs.map D.int).length k=some k.toNat:=by unfold ixD;rw[List.length_map,if_pos h0,if_pos h]
def zdX {zs:List Int}{i:Nat}{d:D}(h:(zs.map D.int)[i]?=some d):∃ z,zs[i]?=some z/\d=.int z:=by
 rw[List.getElem?_map]at h;cases e:zs[i]? with
 |none=>rw[e]at h;cases h
 |some p=>rw[e]at h;cases h;exact⟨p,rfl,rfl⟩
def zcR {cs:List (Int×Int)}{i:Nat}{d:D}(h:(cs.map p2)[i]?=some d):∃ c,cs[i]?=some c/\d=p2 c:=by
 rw[List.getElem?_map]at h;cases e:cs[i]? with
 |none=>rw[e]at h;cases h
 |some p=>rw[e]at h;cases h;exact⟨p,rfl,rfl⟩
def zax {α:Type}{xs:List α}{i:Nat}{x:α}(h:xs[i]?=some x):i<xs.length:=by
 rcases Nat.lt_or_ge i xs.length with g|g
 ·exact g
 ·rw[List.getElem?_eq_none g]at h;cases h
noncomputable def zbZ:Option Int->D
 |none=>.non
 |some v=>.int v
theorem zen:∀ {xs:List D} {k i:Nat} {d:D},(zcb k xs)[i]?=some d->∃ x,xs[i]?=some x/\d=.tup [.int ((k+i:Nat):Int),x]
 |[],k,i,d,h=>by simp[zcb]at h
 |x::xs,k,0,d,h=>⟨x,rfl,by simpa [zcb]using h.symm⟩
 |x::xs,k,i+1,d,h=>by obtain⟨y,e1,e2⟩:=zen (xs:=xs) (k:=k+1) (i:=i) (d:=d) (by simpa [zcb]using h);exact⟨y,by simpa using e1,by rw[e2,show k+1+i=k+(i+1) by lia]⟩
theorem zb1:∀ (k:Nat) (xs:List D),(zcb k xs).length=xs.length
  |_,[]=>rfl
  |k,x::xs=>congrArg (· + 1) (zb1 (k+1) xs)
theorem ze7:∀ {xs ys:List D} {i:Nat} {d:D},(zbK xs ys)[i]?=some d->∃ x y,xs[i]?=some x/\ys[i]?=some y/\d=.tup [x,y]
 |[],ys,i,d,h=>by simp[zbK]at h
 |x::xs,[],i,d,h=>by simp[zbK]at h
 |x::xs,y::ys,0,d,h=>⟨x,y,rfl,rfl,by simpa [zbK]using h.symm⟩
 |x::xs,y::ys,i+1,d,h=>by obtain⟨a,b,e1,e2,e3⟩:=ze7 (xs:=xs) (ys:=ys) (i:=i) (d:=d) (by simpa [zbK]using h);exact⟨a,b,by simpa using e1,by simpa using e2,e3⟩
theorem zc1:∀ (xs ys:List D),(zbK xs ys).length=min xs.length ys.length
 |[],ys=>by simp[zbK]
 |x::xs,[]=>by simp[zbK]
 |x::xs,y::ys=>by show(zbK xs ys).length+1=min (xs.length+1) (ys.length+1);rw[zc1 xs ys];lia
def spT (T:Sto):DSp:=λds S Q=>∃ ns:List Int,ds=[.rl (ns.map D.int)]/\(S=T/\∀ n∈ns,Hg n)/\ns.length<=63/\∀ S',Q (.bl true) S'
abbrev zeC:DSp:=spT []
def zw0 {T:Sto}:∀ ds So Q,spT T ds So Q->ds.length=1:=λds So Q zq11=>by obtain⟨ns,e,_⟩:=zq11;exact by rw[e];rfl
noncomputable def onI (f:Int->D):D->D
 |.int h=>f h
 |d=>d
section
variable {nx:Rho->Sto->Prop}{rt:DK}{bk ct:Rho->Sto->Prop}{Z:Rho}{S:Sto}
def zqo {f:zc0}{ex:XR}{t:DA}{Q:DK}(h:t Z S λxs S1=>f xs S1 Q (ex Z)):zb2 f ex t Z S Q:=h
def zq0 {ex:XR}{c:Str}(h:ex Z c S):zfB ex c ⟨nx,rt,bk,ct⟩ Z S:=h
def ztR {tbl:List (Str×Bool)}{t:DE}{Q:DK}(h:t Z S λx S1=>∃ c b,x=.exn c/\tbl.lookup c=some b/\Q (.bl b) S1):zhS tbl t Z S Q:=h
def zsM {tbl:List (Str×Bool)}{c:Str}{b:Bool}{P:Bool->Prop}(e:tbl.lookup c=some b)(q:P b):∃ c' b',D.exn c=.exn c'/\tbl.lookup c'=some b'/\P b':=⟨c,b,rfl,e,q⟩
def zuY {i:Nat}{ok:List Str}{b:XR->DS}{h:DS}(g:b (λρ' c S'=>ok.contains c=true/\h ⟨λρ2 S2=>nx (ρ2.set i none) S2,rt,λ_ _=>False,λ_ _=>False⟩ (ρ'.set i (some (.exn c))) S') ⟨nx,rt,bk,ct⟩ Z S):zob i ok b h ⟨nx,rt,bk,ct⟩ Z S:=g
end
def zlg {Q:DK}{b:Bool}(hx:Lst S x xs)(hy:Lst S y ys)(fx:xs.all (fl 20)=true)(fy:ys.all (fl 20)=true)(e:eqvAll xs ys=b)(q:Q (.bl b) S):oEq x y S Q:=⟨_,.inr (.inl ⟨xs,ys,hx,hy,fx,fy,rfl⟩),by rw[e];exact q⟩
def zpu {Q:DK}{b:Bool}(hx:Lst S x xs)(hy:Lst S y ys)(fx:xs.all (fl 20)=true)(fy:ys.all (fl 20)=true)(e:eqvAll xs ys=b)(q:Q (.bl (!b)) S):oNe x y S Q:=⟨_,.inr (.inl ⟨xs,ys,hx,hy,fx,fy,rfl⟩),by rw[e];exact q⟩
def zqN {Q:DK}{x y:Str}{b:Bool}(fx:fl 20 (.str x)=true)(fy:fl 20 (.str y)=true)(e:(x==y)=b)(q:Q (.bl b) S):oEq (.str x) (.str y) S Q:=⟨_,.inl ⟨fx,fy,rfl⟩,by show Q (.bl (x==y)) S;rw[e];exact q⟩
def zrb {S:Sto}{Q:DK}{x y:Str}{b:Bool}(fx:fl 20 (.str x)=true)(fy:fl 20 (.str y)=true)(e:(x==y)=b)(q:Q (.bl (!b)) S):oNe (.str x) (.str y) S Q:=⟨_,.inl ⟨fx,fy,rfl⟩,by show Q (.bl (!(x==y))) S;rw[e];exact q⟩
section
variable {nx:Rho->Sto->Prop}{rt:DK}{bk ct:Rho->Sto->Prop}{Z:Rho}{S:Sto}{Q:DK}{td ti tz tv:DE}
end
section
variable {κ:Type}[DecidableEq κ]
end
def zgT (c:List Str)(z:Str):(zfU c z).length=if c.any (·==z)then c.length else c.length+1:=by unfold zfU;split<;>simp
def zjw (c:List Str)(z y:Str):(zfU c z).any (·==y)=(c.any (·==y)||decide (y=z)):=by
  unfold zfU;by_cases h:c.any (·==z)=true
  . rw[if_pos h];by_cases e:y=z
    . subst e;rw[h];rfl
    . rw[decide_eq_false e,Bool.or_false]
  . rw[if_neg h,List.any_append];congr 1;by_cases e:y=z
    . subst e;simp
    . rw[decide_eq_false e];have:(z==y)=false:=beq_eq_false_iff_ne.mpr λq=>e q.symm
      simp[this]
theorem zh4 (f:Nat->Str):∀ i,(zb9 f i).length<=i
  |0=>Nat.le_refl _
  |i+1=>by have:=zh4 f i;show(zfU (zb9 f i) (f i)).length<=i+1;rw[zgT];split<;>lia
theorem zjD (f:Nat->Str)(y:Str):∀ i,((zb9 f i).any (·==y)=true↔∃ j,j<i/\f j=y)
  |0=>⟨λh=>(by simp[zb9]at h),λ⟨j,hj,_⟩=>(by lia)⟩
  |i+1=>by
    show((zfU (zb9 f i) (f i)).any (·==y)=true)↔_;rw[zjw,Bool.or_eq_true,zjD f y i,decide_eq_true_eq];constructor
    . rintro(⟨j,hj,e⟩|e)
      . exact⟨j,by lia,e⟩
      . exact⟨i,by lia,e.symm⟩
    . rintro⟨j,hj,e⟩;rcases Nat.lt_or_ge j i with h|h
      . exact .inl ⟨j,h,e⟩
      . have:j=i:=by lia
        subst this;exact .inr e.symm
theorem zj3 (f:Nat->Str):∀ i,(∀ a b,a<b->b<i->f a≠f b)->(zb9 f i).length=i
 |0,_=>rfl
 |i+1,h=>by show(zfU (zb9 f i) (f i)).length=i+1;rw[zgT,zj3 f i λa b x y=>h a b x (by lia)];rw[if_neg];intro z;obtain⟨j,hj,e⟩:=(zjD f (f i) i).mp z;exact h j i hj (by lia) e
def zlq {zs:List Str}(h:zs.Nodup):zoD zs=zs.length:=zj3 _ _ λa b hab hb=>by show zs.getD a Str.empty≠zs.getD b Str.empty;rw[List.getD_eq_getElem?_getD,List.getD_eq_getElem?_getD,List.getElem?_eq_getElem hb,List.getElem?_eq_getElem (show a<zs.length by lia)];exact List.pairwise_iff_getElem.mp h a b (by lia) hb hab
end Dp
namespace Rm
structure Pc where
 lo:Int
 hi:Int
 to:Int
 st:Int
instance:DecidableEq Pc:=λp q=>if h:p.lo=q.lo/\p.hi=q.hi/\p.to=q.to/\p.st=q.st then isTrue (by cases p;cases q;obtain⟨h1,h2,h3,h4⟩:=h;cases h1;cases h2;cases h3;cases h4;rfl)else isFalse (λe=>h (by subst e;exact⟨rfl,rfl,rfl,rfl⟩))
noncomputable def Pc.led (p:Pc) (h:Int):Int:=p.to+p.st*(h-p.lo)
noncomputable def Pc.fin (p:Pc):Int:=p.led p.hi
end Rm
namespace Dp
open PySem Rm
open PySem Rm My
def zf4 (cs:List (Int×Int)):fl 20 (.tup (cs.map p2))=true:=by show(cs.map p2).all (fl 19)=true;rw[List.all_map,List.all_eq_true];intro p _;rfl
def zkb {xs:List D}{x:D}:ixD (xs++[x]).length (-1)=some xs.length:=by
 have hl:((xs++[x]).length:Int)=xs.length+1:=by simp
 unfold ixD;rw[if_neg (by lia),if_pos (by lia)];congr 1;lia
def zeQ {xs:List D}{x:D}:atD (xs++[x]) (-1)=some x:=by unfold atD;rw[zkb];simp
end Dp
namespace Rm
open My Dp
noncomputable def inS (h:Int) (c:Int×Int):Bool:=decide (c.1<=h)&&decide (h<=c.2)
noncomputable def lec (c:Int×Int):Bool:=decide (c.1<=c.2)
structure zae (cs:List (Int×Int)):Prop where
 le:∀ c∈cs,c.1<=c.2
 ap:cs.Pairwise λa b=>a.2+2<=b.1
def zdc {h:Int}{c:Int×Int}:inS h c=true↔c.1<=h/\h<=c.2:=by unfold inS;simp
def zaD {h:Int}{cs:List (Int×Int)}:cs.any (inS h)=true↔∃ c∈cs,c.1<=h/\h<=c.2:=by
 rw[List.any_eq_true];constructor
 ·rintro⟨c,hc,g⟩;exact⟨c,hc,zdc.mp g⟩
 ·rintro⟨c,hc,g⟩;exact⟨c,hc,zdc.mpr g⟩
def zae.nil:zae []:=⟨λc hc=>absurd hc (by simp),.nil⟩
def zae.snoc {c:Int×Int}(s:zae ms)(hc:c.1<=c.2)(h:∀ m∈ms,m.2+2<=c.1):zae (ms++[c]):=by
 refine⟨λd hd=>?_,List.pairwise_append.mpr ⟨s.ap,List.pairwise_singleton _ _,λa ha b hb=>?_⟩⟩
 ·rcases List.mem_append.mp hd with g|g
  ·exact s.le d g
  ·have:d=c:=by simpa using g
   subst this;exact hc
 ·have:b=c:=by simpa using hb
  subst this;exact h a ha
def zae.init {c:Int×Int}(s:zae (ms++[c])):zae ms/\c.1<=c.2/\∀ m∈ms,m.2+2<=c.1:=by obtain⟨h1,h2,h3⟩:=List.pairwise_append.mp s.ap;exact⟨⟨λd hd=>s.le d (List.mem_append_left _ hd),h1⟩,s.le c (by simp),λm hm=>h3 m hm c (by simp)⟩
def zoE {l c:Int×Int}(s:zae (ms++[l]))(hc:c.1<=c.2)(h1:l.1<=c.1)(h2:c.1<=l.2+1) :
  zae (ms++[(l.1,max l.2 c.2)])/\∀ h,(ms++[(l.1,max l.2 c.2)]).any (inS h)=((ms++[l]).any (inS h)||inS h c):=by
 obtain⟨s0,hl,hm⟩:=s.init;refine⟨s0.snoc (by show l.1<=max l.2 c.2;lia) hm,λh=>?_⟩;rw[List.any_append,List.any_append,Bool.or_assoc];congr 1;rw[Bool.eq_iff_iff,Bool.or_eq_true];simp only[List.any_cons,List.any_nil,Bool.or_false,zdc];lia
def ztD {a b:Int×Int}(h:zgR b a=false):a.1<=b.1:=by unfold zgR at h;rw[decide_eq_false_iff_not]at h;lia
theorem zis:∀ {a b:List (Int×Int)},zae a->zae b->(∀ h,a.any (inS h)=b.any (inS h))->a=b
 |[],[],_,_,_=>rfl
 |[],d::b,_,sb,e=>by have:=e d.1;have hd:=sb.le d (by simp);rw[show(d::b).any (inS d.1)=true from zaD.mpr ⟨d,by simp,Int.le_refl _,hd⟩]at this;simp at this
 |c::a,[],sa,_,e=>by have:=e c.1;have hd:=sa.le c (by simp);rw[show(c::a).any (inS c.1)=true from zaD.mpr ⟨c,by simp,Int.le_refl _,hd⟩]at this;simp at this
 |c::a,d::b,sa,sb,e=>by
  have hc:=sa.le c (by simp);have hd:=sb.le d (by simp);obtain⟨ca,pa⟩:=List.pairwise_cons.mp sa.ap;obtain⟨db,pb⟩:=List.pairwise_cons.mp sb.ap;have inA:∀ h,(∃ x∈c::a,x.1<=h/\h<=x.2)↔∃ x∈d::b,x.1<=h/\h<=x.2:=λh=>by rw[<- zaD,<- zaD,e h]
  have l1:d.1<=c.1:=by
   obtain⟨x,hx,g1,g2⟩:=(inA c.1).mp ⟨c,by simp,Int.le_refl _,hc⟩;rcases List.mem_cons.mp hx with rfl|hx
   ·exact g1
   ·have:=db x hx;lia
  have l2:c.1<=d.1:=by
   obtain⟨x,hx,g1,g2⟩:=(inA d.1).mpr ⟨d,by simp,Int.le_refl _,hd⟩;rcases List.mem_cons.mp hx with rfl|hx
   ·exact g1
   ·have:=ca x hx;lia
  have el:c.1=d.1:=by lia
  have r1:c.2<=d.2:=by
   rcases(by lia:d.2<c.2\/c.2<=d.2)with g|g
   ·obtain⟨x,hx,g1,g2⟩:=(inA (d.2+1)).mp ⟨c,by simp,by lia,by lia⟩;rcases List.mem_cons.mp hx with rfl|hx
    ·lia
    ·have:=db x hx;lia
   ·exact g
  have r2:d.2<=c.2:=by
   rcases(by lia:c.2<d.2\/d.2<=c.2)with g|g
   ·obtain⟨x,hx,g1,g2⟩:=(inA (c.2+1)).mpr ⟨d,by simp,by lia,by lia⟩;rcases List.mem_cons.mp hx with rfl|hx
    ·lia
    ·have:=ca x hx;lia
   ·exact g
  have ec:c=d:=by cases c;cases d;simp only[Prod.mk.injEq];exact⟨el,by lia⟩
  subst ec;have sa':zae a:=⟨λx hx=>sa.le x (by simp[hx]),pa⟩
  have sb':zae b:=⟨λx hx=>sb.le x (by simp[hx]),pb⟩
  rw[zis sa' sb' λh=>?_];rw[Bool.eq_iff_iff,zaD,zaD];constructor
  ·rintro⟨x,hx,g1,g2⟩;obtain⟨y,hy,k1,k2⟩:=(inA h).mp ⟨x,by simp[hx],g1,g2⟩;rcases List.mem_cons.mp hy with rfl|hy
   ·have:=ca x hx;lia
   ·exact⟨y,hy,k1,k2⟩
  ·rintro⟨x,hx,g1,g2⟩;obtain⟨y,hy,k1,k2⟩:=(inA h).mpr ⟨x,by simp[hx],g1,g2⟩;rcases List.mem_cons.mp hy with rfl|hy
   ·have:=db x hx;lia
   ·exact⟨y,hy,k1,k2⟩
def any_filter (cs:List (Int×Int))(h:Int):(cs.filter λc=>decide (c.1<=c.2)).any (inS h)=cs.any (inS h):=by
 rw[Bool.eq_iff_iff,zaD,zaD];constructor
 ·rintro⟨c,hc,g⟩;exact⟨c,(List.mem_filter.mp hc).1,g⟩
 ·rintro⟨c,hc,g⟩;exact⟨c,List.mem_filter.mpr ⟨hc,decide_eq_true (by lia)⟩,g⟩
def zo7 {a b:List (Int×Int)}(p:a.Perm b)(h:Int):a.any (inS h)=b.any (inS h):=by
 rw[Bool.eq_iff_iff,zaD,zaD];constructor
 ·rintro⟨c,hc,g⟩;exact⟨c,p.mem_iff.mp hc,g⟩
 ·rintro⟨c,hc,g⟩;exact⟨c,p.mem_iff.mpr hc,g⟩
noncomputable def zaO (a b:Int×Int):Int×Int:=(max a.1 b.1,min a.2 b.2)
noncomputable def zaG (as bs:List (Int×Int)):List (Int×Int):=as.flatMap λa=>bs.map (zaO a)
def zlU (as bs:List (Int×Int))(h:Int):(zaG as bs).any (inS h)=(as.any (inS h)&&bs.any (inS h)):=by
  rw[Bool.eq_iff_iff,Bool.and_eq_true,zaD,zaD,zaD];unfold zaG;constructor
  . rintro⟨c,hc,g1,g2⟩;obtain⟨a,ha,hm⟩:=List.mem_flatMap.mp hc;obtain⟨b,hb,rfl⟩:=List.mem_map.mp hm;unfold zaO at g1 g2;dsimp only at g1 g2;refine⟨⟨a,ha,?_⟩,⟨b,hb,?_⟩⟩<;>lia
  . rintro⟨⟨a,ha,g1,g2⟩,⟨b,hb,k1,k2⟩⟩;refine⟨zaO a b,List.mem_flatMap.mpr ⟨a,ha,List.mem_map.mpr ⟨b,hb,rfl⟩⟩,?_⟩;unfold zaO;dsimp only;constructor<;>lia
def zjz {a b:Int×Int}(ha:a.1<=a.2)(hb:b.1<=b.2):(zaO a b).1<=(zaO a b).2↔b.1<=a.2/\a.1<=b.2:=by unfold zaO;dsimp only;rw[Int.max_le,Int.le_min,Int.le_min];exact⟨λh=>⟨h.2.1,h.1.2⟩,λh=>⟨⟨ha,h.2⟩,h.1,hb⟩⟩
theorem zlc {a:Int×Int}(ha:a.1<=a.2):∀ {bs:List (Int×Int)},zae bs->((bs.map (zaO a)).filter λc=>decide (c.1<=c.2)).length<=(bs.filter λb=>decide (b.2<=a.2)).length+1
  |[],_=>by simp
  |b::bs,s=>by
    obtain⟨cb,pb⟩:=List.pairwise_cons.mp s.ap;have hb:=s.le b (by simp);have s':zae bs:=⟨λx hx=>s.le x (by simp[hx]),pb⟩
    have ih:=zlc ha s';rw[List.map_cons];by_cases h1:b.2<=a.2
    . rw[List.filter_cons_of_pos (p:=λb:Int×Int=>decide (b.2<=a.2)) (decide_eq_true h1)]
      have:(((zaO a b)::bs.map (zaO a)).filter λc=>decide (c.1<=c.2)).length<=((bs.map (zaO a)).filter λc=>decide (c.1<=c.2)).length+1:=by rw[List.filter_cons];split<;>simp
      simp only[List.length_cons];lia
    . have none : (bs.map (zaO a)).filter (λc => decide (c.1 ≤ c.2)) = [] := by
        rw[List.filter_eq_nil_iff];intro c hc;obtain⟨x,hx,rfl⟩:=List.mem_map.mp hc;have:=cb x hx;have hx2:=s'.le x hx;rw[decide_eq_true_eq,zjz ha hx2];lia
      rw[List.filter_cons,none];split<;>simp
theorem zka:∀ {as bs:List (Int×Int)},zae as->zae bs->((zaG as bs).filter λc=>decide (c.1<=c.2)).length<=as.length+bs.length
 |[],bs,_,_=>by simp[zaG]
 |a::as,bs,sa,sb=>by
  obtain⟨ca,pa⟩:=List.pairwise_cons.mp sa.ap;have ha:=sa.le a (by simp);have sa':zae as:=⟨λx hx=>sa.le x (by simp[hx]),pa⟩
  have sb2:zae (bs.filter λb=>!decide (b.2<=a.2)):=⟨λx hx=>sb.le x (List.mem_filter.mp hx).1,sb.ap.filter _⟩
  have ih:=zka sa' sb2;have one:=zlc ha sb
  have same:((zaG as bs).filter λc=>decide (c.1<=c.2)).length=((zaG as (bs.filter λb=>!decide (b.2<=a.2))).filter λc=>decide (c.1<=c.2)).length:=by
   clear ih one
   induction as with
   |nil=>rfl
   |cons d ds ihd =>
    have hd:a.2+2<=d.1:=ca d (by simp);have hd2:=sa.le d (by simp);unfold zaG at ihd ⊢;rw[List.flatMap_cons,List.flatMap_cons,List.filter_append,List.filter_append,List.length_append,List.length_append]
    have e1:((bs.map (zaO d)).filter λc=>decide (c.1<=c.2)).length=(((bs.filter λb=>!decide (b.2<=a.2)).map (zaO d)).filter λc=>decide (c.1<=c.2)).length:=by
     have hle:=sb.le;clear ihd sb sb2
     induction bs with
     |nil=>rfl
     |cons b bs ihb =>
      have ih':=ihb λx hx=>hle x (by simp[hx])
      have hb:=hle b (by simp);by_cases h1:b.2<=a.2
      ·rw[List.filter_cons_of_neg (p:=λb:Int×Int=>!decide (b.2<=a.2)) (by simp[h1]),List.map_cons,List.filter_cons_of_neg (by rw[decide_eq_true_eq,zjz hd2 hb];lia)];exact ih'
      ·rw[List.filter_cons_of_pos (p:=λb:Int×Int=>!decide (b.2<=a.2)) (by simp[h1]),List.map_cons,List.map_cons,List.filter_cons,List.filter_cons];split
       ·simp only[List.length_cons];lia
       ·exact ih'
    have pa2:=List.pairwise_cons.mp (List.pairwise_cons.mp sa.ap).2
    have sd:zae (a::ds):=⟨λx hx=>by
     rcases List.mem_cons.mp hx with rfl|hx
     ·exact ha
     ·exact sa.le x (by simp[hx]),List.pairwise_cons.mpr ⟨λx hx=>ca x (by simp[hx]),pa2.2⟩⟩
    have e2:=ihd sd (λx hx=>ca x (by simp[hx])) pa2.2 ⟨λx hx=>sd.le x (by simp[hx]),pa2.2⟩;rw[e1,e2]
  have split2:bs.length=(bs.filter λb=>decide (b.2<=a.2)).length+(bs.filter λb=>!decide (b.2<=a.2)).length:=by
   clear ih one same sb sb2
   induction bs with
   |nil=>rfl
   |cons b bs ihb =>
    rw[List.filter_cons,List.filter_cons];by_cases h1:b.2<=a.2
    ·simp[h1];lia
    ·simp[h1];lia
  unfold zaG at same ih ⊢;rw[List.flatMap_cons,List.filter_append,List.length_append,same];simp only[List.length_cons];lia
end Rm
namespace Dp
open PySem Rm My
def _root_.Rm.zae.tail {ms:List (Int×Int)}(s:zae (c::ms)):zae ms:=⟨λx hx=>s.le x (by simp[hx]),(List.pairwise_cons.mp s.ap).2⟩
noncomputable def on2 (f:Int×Int->D):D->D
 |.tup [.int a,.int b]=>f (a,b)
 |d=>d
noncomputable def ztf (p:Int×Int->Bool):D->Bool
 |.tup [.int a,.int b]=>p (a,b)
 |_=>false
def zqJ (f:Int×Int->D)(cs:List (Int×Int)):(cs.map p2).map (on2 f)=cs.map f:=by rw[List.map_map];rfl
def zo0 (p:Int×Int->Bool)(cs:List (Int×Int)):(cs.map p2).filter (ztf p)=(cs.filter p).map p2:=by rw[List.filter_map];rfl
def zs9 {R:DIt->Sto->Prop}(h:zdA S x xs)(q:∀ ok:Sto->Prop,(∀ T,ok (S++T))->R ⟨xs,ok⟩ S):zf2 x S R:=by
 rcases h with rfl|h
 ·exact .inl ⟨xs,rfl,q _ λ_=>True.intro⟩
 ·exact .inr (.inl ⟨xs,h,q _ λT=>h.old⟩)
theorem zdA.old {T:Sto}(h:zdA S x xs):zdA (S++T) x xs:=h.imp id Lst.old
def zhE (as bs:List (Int×Int)):(zaG as bs).length=as.length*bs.length:=by
 unfold zaG
 induction as with
 |nil=>simp
 |cons a as ih=>rw[List.flatMap_cons,List.length_append,ih,List.length_map,List.length_cons,Nat.succ_mul,Nat.add_comm]
def zkr {as bs:List (Int×Int)}{i:Nat}{a:Int×Int}(h:as[i]?=some a):zaG (as.take (i+1)) bs=zaG (as.take i) bs++bs.map (zaO a):=by unfold zaG;rw[zai h,List.flatMap_append];simp
noncomputable def zar:Int->List (Int×Int)->List (Int×Int)×Int
 |st,[]=>([],st)
 |st,c::cs=>((st,c.1-1)::(zar (c.2+1) cs).1,(zar (c.2+1) cs).2)
theorem zdy:∀ (st:Int) (cs:List (Int×Int)),(zar st cs).1.length=cs.length
 |_,[]=>rfl
 |st,c::cs=>by show((zar (c.2+1) cs).1.length+1)=_;rw[zdy];rfl
theorem zeP:∀ (st:Int) (cs:List (Int×Int)) (c:Int×Int),zar st (cs++[c])=((zar st cs).1++[((zar st cs).2,c.1-1)],c.2+1)
 |st,[],c=>rfl
 |st,d::cs,c=>by show((st,d.1-1)::(zar (d.2+1) (cs++[c])).1,(zar (d.2+1) (cs++[c])).2)=_;rw[zeP];rfl
theorem zi3 {hi h:Int}(hh:h<=hi):∀ (st:Int) {cs:List (Int×Int)},zae cs->st<=h->(∀ c∈cs,c.2<=h->True)->(((zar st cs).1++[((zar st cs).2,hi)]).any (inS h)=true↔¬ ∃ c∈cs,c.1<=h/\h<=c.2)
  |st,[],_,hs,_=>by simp[zar,zdc,hs,hh]
  |st,c::cs,s,hs,_=>by
    obtain⟨cb,pb⟩:=List.pairwise_cons.mp s.ap;have hc:=s.le c (by simp);have s':zae cs:=⟨λx hx=>s.le x (by simp[hx]),pb⟩
    show(((st,c.1-1)::((zar (c.2+1) cs).1++[((zar (c.2+1) cs).2,hi)])).any (inS h)=true↔_);rw[List.any_cons,Bool.or_eq_true,zdc];rcases(by lia:h<c.1\/(c.1<=h/\h<=c.2)\/c.2<h)with g|g|g
    . constructor
      . rintro-⟨x,hx,k1,k2⟩;rcases List.mem_cons.mp hx with rfl|hx
        . lia
        . have:=cb x hx;lia
      . intro _;exact .inl ⟨hs,by show h<=c.1-1;lia⟩
    . constructor
      . intro z;exfalso;rcases z with⟨_,z⟩|z
        . have:h<=c.1-1:=z;lia
        . obtain⟨x,hx,k1,k2⟩:=zaD.mp z
          have low:∀ (st:Int) (cs:List (Int×Int)),zae cs->(∀ d∈cs,st<=d.1)->∀ x∈(zar st cs).1++[((zar st cs).2,hi)],st<=x.1:=by
            intro st cs
            induction cs generalizing st with
            | nil => intro _ _ x hx; have : x = (st, hi) := by simpa [zar]using hx
                     subst this;exact Int.le_refl _
            |cons d ds ih =>
              intro sd hd x hx;obtain⟨c2,p2⟩:=List.pairwise_cons.mp sd.ap;have hd1:=hd d (by simp);have hd2:=sd.le d (by simp);have hx:x∈(st,d.1-1)::((zar (d.2+1) ds).1++[((zar (d.2+1) ds).2,hi)]):=hx;rcases List.mem_cons.mp hx with rfl|hx
              . exact Int.le_refl _
              . have:=ih (d.2+1) ⟨λy hy=>sd.le y (by simp[hy]),p2⟩ (λy hy=>by have:=c2 y hy;lia) x hx;lia
          have:=low (c.2+1) cs s' (λd hd=>by have:=cb d hd;lia) x hx;lia
      . intro z;exact absurd ⟨c,by simp,g.1,g.2⟩ z
    . have ih:=zi3 hh (c.2+1) s' (by lia) (λ_ _ _=>trivial);constructor
      . rintro z ⟨x,hx,k1,k2⟩;rcases List.mem_cons.mp hx with rfl|hx
        . lia
        . rcases z with⟨_,z⟩|z
          . have:h<=c.1-1:=z;lia
          . exact ih.mp z ⟨x,hx,k1,k2⟩
      . intro z;exact .inr (ih.mpr λzq12=>by obtain⟨x,hx,k⟩:=zq12;exact z ⟨x,by simp[hx],k⟩)
end Dp
namespace Rm
open My Dp
noncomputable def acr (L R B T x1 z1 x2 z2:Int):List Int :=[(x2-x1)*(B-z1)-(z2-z1)*(L-x1),(x2-x1)*(T-z1)-(z2-z1)*(L-x1),(x2-x1)*(B-z1)-(z2-z1)*(R-x1),(x2-x1)*(T-z1)-(z2-z1)*(R-x1)]
def zcY (L R B T x1 z1 x2 z2:Int):Prop :=L<=(max x1 x2)/\(min x1 x2)<=R/\B<=(max z1 z2)/\(min z1 z2)<=T/\(∃ a∈acr L R B T x1 z1 x2 z2,0<=a)/\∃ a∈acr L R B T x1 z1 x2 z2,a<=0
def zeZ (lo hi st sp e1 e2 x1 x2:Int):Prop :=
 (sp=0/\lo<=st/\st<=hi/\e1=0/\e2=1/\x1=1/\x2=1)\/(sp=0/\(st<lo\/hi<st)/\e1=1/\e2=1/\x1=0/\x2=1) \/
 (0<sp/\e1=lo-st/\e2=sp/\x1=hi-st/\x2=sp)\/(sp<0/\e1=st-hi/\e2=-sp/\x1=st-lo/\x2=-sp)
def ziX (ea1 ea2 xa1 xa2 eu1 eu2 xu1 xu2:Int):=∀ e∈[((0:Int),(1:Int)),(ea1,ea2),(eu1,eu2)],∀ x∈[((1:Int),(1:Int)),(xa1,xa2),(xu1,xu2)],e.1*x.2<=x.1*e.2
def zb5 {u a b:Int}(h:0<=u)(h':a<=b):u*a<=u*b:=Int.mul_le_mul_of_nonneg_left h' h
def zog {p r P R:Int}{L x:Int}:(∃ a∈[P-L,R-L,P-x,R-x],p<=a)↔(p<=P-L\/p<=R-L\/p<=P-x\/p<=R-x):=by simp
def zne {p P R:Int}{L x:Int}:(∃ a∈[P-L,R-L,P-x,R-x],a<=p)↔(P-L<=p\/R-L<=p\/P-x<=p\/R-x<=p):=by simp
def zmV {ea1 ea2 xa1 xa2 eu1 eu2 xu1 xu2:Int}:ziX ea1 ea2 xa1 xa2 eu1 eu2 xu1 xu2 ↔
  (0<=xa1/\0<=xu1)/\(ea1<=ea2/\ea1*xa2<=xa1*ea2/\ea1*xu2<=xu1*ea2)/\(eu1<=eu2/\eu1*xa2<=xa1*eu2/\eu1*xu2<=xu1*eu2):=by
 unfold ziX;simp
def ziR (lo hi st sp e1 e2 x1 x2:Int):Prop :=(sp=0/\lo<=st/\st<=hi/\e1=0/\e2=1/\x1=1/\x2=1)\/(sp=0/\(st<lo\/hi<st)/\e1=1/\e2=1/\x1=0/\x2=1)\/(0<sp/\e1=lo-st/\e2=sp/\x1=hi-st/\x2=sp)
def zjE {lo st s:Int}(h:zeZ lo hi st (t-s) e1 e2 x1 x2):ziR lo hi st (t-s) e1 e2 x1 x2\/ziR (-hi) (-lo) (-st) (-t - -s) e1 e2 x1 x2:=by
 rcases h with h|h|h|⟨h,rfl,rfl,rfl,rfl⟩
 ·exact .inl (.inl h)
 ·exact .inl (.inr (.inl h))
 ·exact .inl (.inr (.inr h))
 ·exact .inr (.inr (.inr ⟨by lia,by lia,by lia,by lia,by lia⟩))
def zi1 {as bs:List Int}(h:∀ a,a∈bs↔-a∈as):((∃ a∈bs,0<=a)↔∃ a∈as,a<=0)/\((∃ a∈bs,a<=0)↔∃ a∈as,0<=a):=by
  have back:∀ a,a∈as->-a∈bs:=λa ha=>(h (-a)).mpr (by rw[Int.neg_neg];exact ha)
  refine⟨⟨?_,?_⟩,?_,?_⟩<;>rintro⟨a,ha,h0⟩
  . exact⟨-a,(h a).mp ha,by lia⟩
  . exact⟨-a,back a ha,by lia⟩
  . exact⟨-a,(h a).mp ha,by lia⟩
  . exact⟨-a,back a ha,by lia⟩
def zoB {a p q r t:Int}:a∈[-p,-q,-r,-t]↔-a∈[r,t,p,q]:=by
 have e:∀ x,a=-x↔-a=x:=λx=>⟨λh=>by rw[h,Int.neg_neg],λh=>by rw[<- h,Int.neg_neg]⟩
 simp only[List.mem_cons,List.not_mem_nil,or_false,e];exact⟨λh=>h.elim (λh=>.inr (.inr (.inl h))) (λh=>h.elim (λh=>.inr (.inr (.inr h))) (λh=>h.elim .inl (λh=>.inr (.inl h)))),λh=>h.elim (λh=>.inr (.inr (.inl h))) (λh=>h.elim (λh=>.inr (.inr (.inr h))) (λh=>h.elim .inl (λh=>.inr (.inl h))))⟩
def zvK (a b c d e:Int):(-a - -b)*c-d*(-e - -b)=-((a-b)*c-d*(e-b)):=by rw[show -a - -b=-(a-b) by lia,show -e - -b=-(e-b) by lia,Int.neg_mul,Int.mul_neg];lia
def zwS (a b c d e:Int):c*(-a - -b)-(-d - -b)*e=-(c*(a-b)-(d-b)*e):=by rw[show -a - -b=-(a-b) by lia,show -d - -b=-(d-b) by lia,Int.neg_mul,Int.mul_neg];lia
def zgS (a b:Int):max (-a) (-b)=-(min a b):=by
 rcases Int.le_total a b with h|h
 ·rw[Int.min_eq_left h,Int.max_eq_left (Int.neg_le_neg h)]
 ·rw[Int.min_eq_right h,Int.max_eq_right (Int.neg_le_neg h)]
def zjt (a b:Int):min (-a) (-b)=-(max a b):=by rw[<- Int.neg_neg (min (-a) (-b)),<- zgS,Int.neg_neg,Int.neg_neg]
def zid {L R B T x1 z1 x2 z2:Int}:zcY (-R) (-L) B T (-x1) z1 (-x2) z2↔zcY L R B T x1 z1 x2 z2:=by
 have e:acr (-R) (-L) B T (-x1) z1 (-x2) z2=[-((x2-x1)*(B-z1)-(z2-z1)*(R-x1)),-((x2-x1)*(T-z1)-(z2-z1)*(R-x1)),-((x2-x1)*(B-z1)-(z2-z1)*(L-x1)),-((x2-x1)*(T-z1)-(z2-z1)*(L-x1))]:=by unfold acr;simp only[zvK]
 have k:=zi1 (as:=acr L R B T x1 z1 x2 z2) (bs:=acr (-R) (-L) B T (-x1) z1 (-x2) z2) (λa=>by rw[e];exact zoB);unfold zcY;rw[k.1,k.2,zgS,zjt];generalize max x1 x2=a1;generalize min x1 x2=a2;generalize (∃ a∈acr L R B T x1 z1 x2 z2,0<=a)=P;generalize (∃ a∈acr L R B T x1 z1 x2 z2,a<=0)=Q;constructor
 ·rintro⟨h1,h2,h3,h4,h5,h6⟩;exact⟨by lia,by lia,h3,h4,h6,h5⟩
 ·rintro⟨h1,h2,h3,h4,h5,h6⟩;exact⟨by lia,by lia,h3,h4,h6,h5⟩
def zmY {a p q r t:Int}:a∈[-p,-q,-r,-t]↔-a∈[q,p,t,r]:=by
 have e:∀ x,a=-x↔-a=x:=λx=>⟨λh=>by rw[h,Int.neg_neg],λh=>by rw[<- h,Int.neg_neg]⟩
 simp only[List.mem_cons,List.not_mem_nil,or_false,e];exact⟨λh=>h.elim (λh=>.inr (.inl h)) (λh=>h.elim .inl (λh=>h.elim (λh=>.inr (.inr (.inr h))) (λh=>.inr (.inr (.inl h))))),λh=>h.elim (λh=>.inr (.inl h)) (λh=>h.elim .inl (λh=>h.elim (λh=>.inr (.inr (.inr h))) (λh=>.inr (.inr (.inl h)))))⟩
def zii {L R B T x1 z1 x2 z2:Int}:zcY L R (-T) (-B) x1 (-z1) x2 (-z2)↔zcY L R B T x1 z1 x2 z2:=by
 have e:acr L R (-T) (-B) x1 (-z1) x2 (-z2)=[-((x2-x1)*(T-z1)-(z2-z1)*(L-x1)),-((x2-x1)*(B-z1)-(z2-z1)*(L-x1)),-((x2-x1)*(T-z1)-(z2-z1)*(R-x1)),-((x2-x1)*(B-z1)-(z2-z1)*(R-x1))]:=by unfold acr;simp only[zwS]
 have k:=zi1 (as:=acr L R B T x1 z1 x2 z2) (bs:=acr L R (-T) (-B) x1 (-z1) x2 (-z2)) (λa=>by rw[e];exact zmY);unfold zcY;rw[k.1,k.2,zgS,zjt];generalize max z1 z2=a1;generalize min z1 z2=a2;generalize (∃ a∈acr L R B T x1 z1 x2 z2,0<=a)=P;generalize (∃ a∈acr L R B T x1 z1 x2 z2,a<=0)=Q;constructor
 ·rintro⟨h1,h2,h3,h4,h5,h6⟩;exact⟨h1,h2,by lia,by lia,h6,h5⟩
 ·rintro⟨h1,h2,h3,h4,h5,h6⟩;exact⟨h1,h2,by lia,by lia,h6,h5⟩
def zqf {P Q p q:Int}(h:P<=Q)(g:p<=q):(0<=P-p\/0<=Q-p\/0<=P-q\/0<=Q-q)↔p<=Q:=⟨λk=>by rcases k with k|k|k|k<;>lia,λk=>.inr (.inl (by lia))⟩
def zqt {P Q p q:Int}(h:P<=Q)(g:p<=q):(P-p<=0\/Q-p<=0\/P-q<=0\/Q-q<=0)↔P<=q:=⟨λk=>by rcases k with k|k|k|k<;>lia,λk=>.inr (.inr (.inl (by lia)))⟩
def zeN {L R B T:Int}(hx:L<=R)(hz:B<=T)(pa:ziR L R x1 (x2-x1) ea1 ea2 xa1 xa2)(pu:ziR B T z1 (z2-z1) eu1 eu2 xu1 xu2) :
    ziX ea1 ea2 xa1 xa2 eu1 eu2 xu1 xu2↔zcY L R B T x1 z1 x2 z2:=by
  have u0:0<=x2-x1:=by rcases pa with h|h|h<;>lia
  have v0:0<=z2-z1:=by rcases pu with h|h|h<;>lia
  rw[zmV];unfold zcY acr;rw[zog (r:=0),zne,show max x1 x2=x1+(x2-x1) by lia,show min x1 x2=x1 by lia,show max z1 z2=z1+(z2-z1) by lia,show min z1 z2=z1 by lia];generalize x2-x1=u at *;generalize z2-z1=v at *;have k1:=zb5 u0 (show B-z1<=T-z1 by lia);have k2:=zb5 v0 (show L-x1<=R-x1 by lia);rw[zqf k1 k2,zqt k1 k2];have c1:∀ s t:Int,(s-x1)*t=t*(s-x1):=λs t=>Int.mul_comm _ _
  have c3:∀ s t:Int,(s-z1)*t=t*(s-z1):=λs t=>Int.mul_comm _ _
  have k5:B<=z1->u*(B-z1)<=0:=λh=>by have:=zb5 u0 (show B-z1<=0 by lia);rwa[Int.mul_zero]at this
  have k6:z1<=T->0<=u*(T-z1):=λh=>by have:=zb5 u0 (show 0<=T-z1 by lia);rwa[Int.mul_zero]at this
  have k8:=zb5 v0 (show B-z1<=T-z1 by lia);rcases pa with⟨hu,h1,h2,rfl,rfl,rfl,rfl⟩|⟨hu,h1,rfl,rfl,rfl,rfl⟩|⟨hu,rfl,rfl,rfl,rfl⟩
  . clear k5 k6;subst hu;have k3:=zb5 v0 (show L-x1<=0 by lia);have k4:=zb5 v0 (show 0<=R-x1 by lia);rcases pu with⟨hv,g1,g2,rfl,rfl,rfl,rfl⟩|⟨hv,g1,rfl,rfl,rfl,rfl⟩|⟨hv,rfl,rfl,rfl,rfl⟩ <;>
    simp only[c3,Int.zero_mul,Int.mul_zero,Int.one_mul,Int.mul_one]at *<;>lia
  . simp only[Int.one_mul,Int.mul_one];lia
  . have k7:=zb5 u0 (show L-x1<=R-x1 by lia);rcases pu with⟨hv,g1,g2,rfl,rfl,rfl,rfl⟩|⟨hv,g1,rfl,rfl,rfl,rfl⟩|⟨hv,rfl,rfl,rfl,rfl⟩
    . subst hv;have k5:=k5 g1;have k6:=k6 g2;simp only[c1,c3,Int.zero_mul,Int.mul_zero,Int.one_mul,Int.mul_one]at *;lia
    . simp only[Int.one_mul,Int.mul_one];lia
    . simp only[c1,c3];exact⟨by rintro⟨⟨a,b⟩,⟨c,_,d⟩,e,f,_⟩;exact⟨by lia,by lia,by lia,by lia,d,f⟩,by rintro⟨a,b,c,d,e,f⟩;exact⟨⟨by lia,by lia⟩,⟨by lia,k7,e⟩,by lia,f,k8⟩⟩
def zn5 {L R B T:Int}(hx:L<=R)(hz:B<=T)(pa:zeZ L R x1 (x2-x1) ea1 ea2 xa1 xa2)(pu:zeZ B T z1 (z2-z1) eu1 eu2 xu1 xu2) :
    ziX ea1 ea2 xa1 xa2 eu1 eu2 xu1 xu2↔zcY L R B T x1 z1 x2 z2:=by
  rcases zjE pa with pa|pa<;>rcases zjE pu with pu|pu
  . exact zeN hx hz pa pu
  . rw[<- zii];exact zeN hx (by lia) pa pu
  . rw[<- zid];exact zeN (by lia) hz pa pu
  . rw[<- zid,<- zii];exact zeN (by lia) (by lia) pa pu
def zjJ (L R B T x1 z1 x2 z2 g s k:Int):acr (L+g*k) (R+g*k) (B+s*k) (T+s*k) x1 z1 x2 z2=(acr L R B T x1 z1 x2 z2).map λa=>a+k*((x2-x1)*s-(z2-z1)*g):=by unfold acr;simp only[List.map_cons,List.map_nil,List.cons.injEq,and_true];refine⟨?_,?_,?_,?_⟩<;>grind
def zo8 {as:List Int}{m m' d:Int}(h1:m∈as)(h2:∀ a∈as,a<=m)(h3:m'∈as.map λa=>a+d)(h4:∀ a∈as.map (λa=>a+d),a<=m'):m'=m+d:=by obtain⟨b,hb,rfl⟩:=List.mem_map.mp h3;have e1:=h2 b hb;have e2:=h4 (m+d) (List.mem_map.mpr ⟨m,h1,rfl⟩);lia
def zpe {as:List Int}{m m' d:Int}(h1:m∈as)(h2:∀ a∈as,m<=a)(h3:m'∈as.map λa=>a+d)(h4:∀ a∈as.map (λa=>a+d),m'<=a):m'=m+d:=by obtain⟨b,hb,rfl⟩:=List.mem_map.mp h3;have e1:=h2 b hb;have e2:=h4 (m+d) (List.mem_map.mpr ⟨m,h1,rfl⟩);lia
noncomputable def six (L R B T x1 z1 x2 z2 mx mn:Int):List Int:=[(max x1 x2)-L,R-(min x1 x2),(max z1 z2)-B,T-(min z1 z2),mx,-mn]
def znj {L R B T x1 z1 x2 z2 g s mx mn mx' mn' k:Int}(m1:mx∈acr (L+g*0) (R+g*0) (B+s*0) (T+s*0) x1 z1 x2 z2)(m2:∀ a∈acr (L+g*0) (R+g*0) (B+s*0) (T+s*0) x1 z1 x2 z2,a<=mx)
    (n1:mn∈acr (L+g*0) (R+g*0) (B+s*0) (T+s*0) x1 z1 x2 z2) (n2:∀ a∈acr (L+g*0) (R+g*0) (B+s*0) (T+s*0) x1 z1 x2 z2,mn<=a)
    (m1':mx'∈acr (L+g*1) (R+g*1) (B+s*1) (T+s*1) x1 z1 x2 z2) (m2':∀ a∈acr (L+g*1) (R+g*1) (B+s*1) (T+s*1) x1 z1 x2 z2,a<=mx')
    (n1':mn'∈acr (L+g*1) (R+g*1) (B+s*1) (T+s*1) x1 z1 x2 z2) (n2':∀ a∈acr (L+g*1) (R+g*1) (B+s*1) (T+s*1) x1 z1 x2 z2,mn'<=a) :
    (∀ i,i<6->0<=(six (L+g*0) (R+g*0) (B+s*0) (T+s*0) x1 z1 x2 z2 mx mn).getD i 0+k*((six (L+g*1) (R+g*1) (B+s*1) (T+s*1) x1 z1 x2 z2 mx' mn').getD i 0-(six (L+g*0) (R+g*0) (B+s*0) (T+s*0) x1 z1 x2 z2 mx mn).getD i 0)) ↔
    zcY (L+g*k) (R+g*k) (B+s*k) (T+s*k) x1 z1 x2 z2:=by
  rw[zjJ]at m1 m2 n1 n2 m1' m2' n1' n2'
  have id0:(acr L R B T x1 z1 x2 z2).map (λa=>a+0*((x2-x1)*s-(z2-z1)*g))=acr L R B T x1 z1 x2 z2:=by simp
  rw[id0]at m1 m2 n1 n2;rw[show(λa:Int=>a+1*((x2-x1)*s-(z2-z1)*g))=λa=>a+((x2-x1)*s-(z2-z1)*g) by funext a;rw[Int.one_mul]]at m1' m2' n1' n2';have e1:=zo8 m1 m2 m1' m2';have e2:=zpe n1 n2 n1' n2';unfold zcY;rw[zjJ];generalize (x2-x1)*s-(z2-z1)*g=d at *
  have f1:(∃ a∈(acr L R B T x1 z1 x2 z2).map (λa=>a+k*d),0<=a)↔0<=mx+k*d:=by
    constructor
    . rintro⟨a,ha,h⟩;obtain⟨b,hb,rfl⟩:=List.mem_map.mp ha;have:=m2 b hb;lia
    . intro h;exact⟨_,List.mem_map.mpr ⟨mx,m1,rfl⟩,h⟩
  have f2:(∃ a∈(acr L R B T x1 z1 x2 z2).map (λa=>a+k*d),a<=0)↔mn+k*d<=0:=by
    constructor
    . rintro⟨a,ha,h⟩;obtain⟨b,hb,rfl⟩:=List.mem_map.mp ha;have:=n2 b hb;lia
    . intro h;exact⟨_,List.mem_map.mpr ⟨mn,n1,rfl⟩,h⟩
  rw[f1,f2];subst e1 e2;unfold six;generalize (max x1 x2)=q1;generalize (min x1 x2)=q2;generalize (max z1 z2)=q3;generalize (min z1 z2)=q4;have h0:k*(q1-(L+g*1)-(q1-(L+g*0)))=-(g*k):=by grind
  have h1:k*(R+g*1-q2-(R+g*0-q2))=g*k:=by grind
  have h2:k*(q3-(B+s*1)-(q3-(B+s*0)))=-(s*k):=by grind
  have h3:k*(T+s*1-q4-(T+s*0-q4))=s*k:=by grind
  have h4:k*(mx+d-mx)=k*d:=by grind
  have h5:k*(-(mn+d) - -mn)=-(k*d):=by grind
  constructor
  . intro h;have a0:=h 0 (by decide);have a1:=h 1 (by decide);have a2:=h 2 (by decide);have a3:=h 3 (by decide);have a4:=h 4 (by decide);have a5:=h 5 (by decide);simp only[List.getD_cons_zero,List.getD_cons_succ]at a0 a1 a2 a3 a4 a5;rw[h0]at a0;rw[h1]at a1;rw[h2]at a2;rw[h3]at a3;rw[h4]at a4;rw[h5]at a5;refine⟨?_,?_,?_,?_,?_,?_⟩<;>lia
  . rintro⟨a0,a1,a2,a3,a4,a5⟩ i hi
    match i,hi with
    |0,_=>simp only[List.getD_cons_zero,List.getD_cons_succ];rw[h0];lia
    |1,_=>simp only[List.getD_cons_zero,List.getD_cons_succ];rw[h1];lia
    |2,_=>simp only[List.getD_cons_zero,List.getD_cons_succ];rw[h2];lia
    |3,_=>simp only[List.getD_cons_zero,List.getD_cons_succ];rw[h3];lia
    |4,_=>simp only[List.getD_cons_zero,List.getD_cons_succ];rw[h4];lia
    |5,_=>simp only[List.getD_cons_zero,List.getD_cons_succ];rw[h5];lia
def zp6 {S T k:Int}(h:0<T):-(S/T)<=k↔0<=S+k*T:=by have:-k<=S/T↔-k*T<=S:=Int.le_ediv_iff_mul_le h;rw[Int.neg_mul]at this;lia
def znp {S T k:Int}(h:T<0):k<=S / -T↔0<=S+k*T:=by have:k<=S / -T↔k * -T<=S:=Int.le_ediv_iff_mul_le (by lia);rw[Int.mul_neg]at this;lia
def Hit (L R B T x1 z1 x2 z2:Int):=∃ p q:Int,0<q/\0<=p/\p<=q/\L*q<=x1*q+p*(x2-x1)/\x1*q+p*(x2-x1)<=R*q/\B*q<=z1*q+p*(z2-z1)/\z1*q+p*(z2-z1)<=T*q
def mulL {k a b:Int}(h:0<=k)(g:a<=b):k*a<=k*b:=Int.mul_le_mul_of_nonneg_left g h
def zol {k a b:Int}(h:0<k)(g:k*a<=k*b):a<=b:=Int.le_of_mul_le_mul_left g h
def ftr {a b c d e f:Int}(hb:0<=b)(hf:0<=f)(hd:0<d)(h1:a*d<=c*b)(h2:c*f<=e*d):a*f<=e*b:=by
 refine zol hd ?_;have k1:=mulL hf h1;have k2:=mulL hb h2;have e1:d*(a*f)=f*(a*d):=by grind
 have e2:f*(c*b)=b*(c*f):=by grind
 have e3:b*(e*d)=d*(e*b):=by grind
 lia
theorem fmax:∀ {l:List (Int×Int)},l≠[]->(∀ e∈l,0<e.2)->∃ e∈l,∀ f∈l,f.1*e.2<=e.1*f.2
 |[],h,_=>absurd rfl h
 |[x],_,_=>⟨x,by simp,λf hf=>by simp at hf;subst hf;exact Int.le_refl _⟩
 |x::y::l,_,h=>by
  obtain⟨m,hm,g⟩:=fmax (l:=y::l) (by simp) λe he=>h e (by simp[he])
  have hx:=h x (by simp);have hm2:=h m (by simp[hm]);rcases Int.le_total (x.1*m.2) (m.1*x.2)with c|c
  ·refine⟨m,by simp[hm],λf hf=>?_⟩;rcases List.mem_cons.mp hf with rfl|hf
   ·exact c
   ·exact g f hf
  ·refine⟨x,by simp,λf hf=>?_⟩;rcases List.mem_cons.mp hf with rfl|hf
   ·exact Int.le_refl _
   ·exact ftr (Int.le_of_lt (h f (by simp[hf]))) (Int.le_of_lt hx) hm2 (g f hf) c
def zk5 (lo hi st sp:Int):∃ e1 e2 x1 x2,zeZ lo hi st sp e1 e2 x1 x2/\0<e2/\0<x2:=by
 unfold zeZ;rcases Int.lt_trichotomy sp 0 with h|h|h
 ·exact⟨st-hi,-sp,st-lo,-sp,.inr (.inr (.inr ⟨h,rfl,rfl,rfl,rfl⟩)),by lia,by lia⟩
 ·by_cases g:lo<=st/\st<=hi
  ·exact⟨0,1,1,1,.inl ⟨h,g.1,g.2,rfl,rfl,rfl,rfl⟩,by lia,by lia⟩
  ·exact⟨1,1,0,1,.inr (.inl ⟨h,by lia,rfl,rfl,rfl,rfl⟩),by lia,by lia⟩
 ·exact⟨lo-st,sp,hi-st,sp,.inr (.inr (.inl ⟨h,rfl,rfl,rfl,rfl⟩)),h,h⟩
def zkC {lo st p q:Int}(P:zeZ lo hi st sp e1 e2 x1 x2)(hq:0<q)(h0:0<=p)(h1:p<=q)(h2:e1*q<=p*e2)(h3:p*x2<=x1*q):lo*q<=st*q+p*sp/\st*q+p*sp<=hi*q:=by
 rcases P with⟨hu,g1,g2,rfl,rfl,rfl,rfl⟩|⟨hu,g1,rfl,rfl,rfl,rfl⟩|⟨hu,rfl,rfl,rfl,rfl⟩|⟨hu,rfl,rfl,rfl,rfl⟩
 ·subst hu;have k1:=mulL (Int.le_of_lt hq) g1;have k2:=mulL (Int.le_of_lt hq) g2;rw[Int.mul_comm q,Int.mul_comm q]at k1 k2;rw[Int.mul_zero];lia
 ·lia
 ·rw[Int.sub_mul]at h2 h3;lia
 ·rw[Int.sub_mul,Int.mul_neg]at h2 h3;lia
def zjS {lo st p q:Int}(P:zeZ lo hi st sp e1 e2 x1 x2)(hq:0<q)(h0:0<=p)(h1:p<=q)(h2:lo*q<=st*q+p*sp)(h3:st*q+p*sp<=hi*q):e1*q<=p*e2/\p*x2<=x1*q:=by
 rcases P with⟨hu,g1,g2,rfl,rfl,rfl,rfl⟩|⟨hu,g1,rfl,rfl,rfl,rfl⟩|⟨hu,rfl,rfl,rfl,rfl⟩|⟨hu,rfl,rfl,rfl,rfl⟩
 ·lia
 ·subst hu;rw[Int.mul_zero,Int.add_zero,Int.mul_comm lo,Int.mul_comm st]at h2;rw[Int.mul_zero,Int.add_zero,Int.mul_comm hi,Int.mul_comm st]at h3;have k1:=zol hq h2;have k2:=zol hq h3;lia
 ·rw[Int.sub_mul,Int.sub_mul];lia
 ·rw[Int.sub_mul,Int.sub_mul,Int.mul_neg];lia
def zk9 {L R B T x1 z1 x2 z2:Int}(hx:L<=R)(hz:B<=T):zcY L R B T x1 z1 x2 z2↔Hit L R B T x1 z1 x2 z2:=by
  obtain⟨a1,a2,a3,a4,pa,ha2,ha4⟩:=zk5 L R x1 (x2-x1);obtain⟨u1,u2,u3,u4,pu,hu2,hu4⟩:=zk5 B T z1 (z2-z1);rw[<- zn5 hx hz pa pu];constructor
  . intro h
    obtain⟨⟨p,q⟩,he,mx⟩:=fmax (l:=[((0:Int),(1:Int)),(a1,a2),(u1,u2)]) (by simp) (by
      intro e he;simp only[List.mem_cons,List.not_mem_nil,or_false]at he;rcases he with rfl|rfl|rfl
      . exact Int.one_pos
      . exact ha2
      . exact hu2)
    have hq:0<q:=by simp only[List.mem_cons,List.not_mem_nil,or_false,Prod.mk.injEq]at he;rcases he with he|he|he<;>lia
    have m0:=mx (0,1) (by simp);have m1:=mx (a1,a2) (by simp);have m2:=mx (u1,u2) (by simp);have n0:=h _ he (1,1) (by simp);have n1:=h _ he (a3,a4) (by simp);have n2:=h _ he (u3,u4) (by simp);dsimp only at m0 m1 m2 n0 n1 n2;have h0:0<=p:=by lia
    have h1:p<=q:=by lia
    obtain⟨k1,k2⟩:=zkC pa hq h0 h1 m1 n1;obtain⟨k3,k4⟩:=zkC pu hq h0 h1 m2 n2;exact⟨p,q,hq,h0,h1,k1,k2,k3,k4⟩
  . rintro⟨p,q,hq,h0,h1,k1,k2,k3,k4⟩;obtain⟨g1,g2⟩:=zjS pa hq h0 h1 k1 k2;obtain⟨g3,g4⟩:=zjS pu hq h0 h1 k3 k4;intro e he x hx
    have ee:0<e.2/\e.1*q<=p*e.2:=by
      simp only[List.mem_cons,List.not_mem_nil,or_false]at he;rcases he with rfl|rfl|rfl
      . exact⟨Int.one_pos,by lia⟩
      . exact⟨ha2,g1⟩
      . exact⟨hu2,g3⟩
    have xx:0<x.2/\p*x.2<=x.1*q:=by
      simp only[List.mem_cons,List.not_mem_nil,or_false]at hx;rcases hx with rfl|rfl|rfl
      . exact⟨Int.one_pos,by lia⟩
      . exact⟨ha4,g2⟩
      . exact⟨hu4,g4⟩
    exact ftr (Int.le_of_lt ee.1) (Int.le_of_lt xx.1) hq ee.2 xx.2
end Rm
namespace Dp
open PySem Rm My
structure Fg where
 x0:Int
 x1:Int
 z0:Int
 z1:Int
 f:Int
 l:Int
 g:Int
 s:Int
noncomputable abbrev fgD (F:Fg):D:=.tup [.int F.x0,.int F.x1,.int F.z0,.int F.z1,.int F.f,.int F.l,.int F.g,.int F.s]
structure FgB (F:Fg):Prop where
 x:F.x0<=F.x1
 z:F.z0<=F.z1
 b0:Bd 600 F.x0
 b1:Bd 600 F.x1
 b2:Bd 600 F.z0
 b3:Bd 600 F.z1
 bg:Bd 200 F.g
 bs:Bd 200 F.s
def zbG (F:Fg)(px pz qx qz h:Int):Prop:=F.f<=h/\h<=F.l/\Hit (F.x0+F.g*(h-F.f)) (F.x1+F.g*(h-F.f)) (F.z0+F.s*(h-F.f)) (F.z1+F.s*(h-F.f)) px pz qx qz
def zpw (ms:List (Int×Int))(F:Fg)(px pz qx qz:Int):Prop:=zae ms/\ms.length<=1/\∀ h,ms.any (inS h)=true↔zbG F px pz qx qz h
def zmo {fs:List Fg}{i:Nat}{d:D}(h:(fs.map fgD)[i]?=some d):∃ F,fs[i]?=some F/\d=fgD F:=by
 rw[List.getElem?_map]at h;cases e:fs[i]? with
 |none=>rw[e]at h;cases h
 |some p=>rw[e]at h;cases h;exact⟨p,rfl,rfl⟩
def zkP {a b:Int}(h0:0<=a)(h:a<=b):a.natAbs<=b.natAbs:=by refine Int.ofNat_le.mp ?_;rw[Int.natAbs_of_nonneg h0,Int.natAbs_of_nonneg (Int.le_trans h0 h)];exact h
def Bd.btw {x:Int}(ha:Bd n a)(hb:Bd n b)(h1:a<=x)(h2:x<=b):Bd n x:=by
 rcases Int.le_total 0 x with h|h
 ·exact hb.of_le (zkP h h2)
 ·refine ha.of_le ?_;rw[<- Int.natAbs_neg x,<- Int.natAbs_neg a];exact zkP (Int.neg_nonneg_of_nonpos h) (Int.neg_le_neg h1)
def Bd.max2 (ha:Bd n a)(hb:Bd n b):Bd n (max a b):=by
 rcases Int.le_total a b with h|h
 ·rw[Int.max_eq_right h];exact hb
 ·rw[Int.max_eq_left h];exact ha
def Bd.min2 (ha:Bd n a)(hb:Bd n b):Bd n (min a b):=by
 rcases Int.le_total a b with h|h
 ·rw[Int.min_eq_left h];exact ha
 ·rw[Int.min_eq_right h];exact hb
def zm6 {T mx mn:Int}(bL:Bd 700 L)(bR:Bd 700 R)(bB:Bd 700 B)(bT:Bd 700 T)(b1:Bd 700 x1)(b2:Bd 700 z1)(b3:Bd 700 x2)(b4:Bd 700 z2)(m1:mx∈acr L R B T x1 z1 x2 z2)(n1:mn∈acr L R B T x1 z1 x2 z2) :
    ∀ v∈six L R B T x1 z1 x2 z2 mx mn,Bd 1500 v:=by
  have pr:∀ {u v w t:Int},Bd 701 u->Bd 701 v->Bd 701 w->Bd 701 t->Bd 1500 (u*v-w*t):=λh1 h2 h3 h4=>(Bd.sub (n:=1402) (Bd.mul h1 h2) (Bd.mul h3 h4)).mono (by decide)
  have ba:∀ a∈acr L R B T x1 z1 x2 z2,Bd 1500 a:=by intro a ha;unfold acr at ha;simp only[List.mem_cons,List.not_mem_nil,or_false]at ha;rcases ha with rfl|rfl|rfl|rfl<;>exact pr (Bd.sub (by assumption) (by assumption)) (Bd.sub (by assumption) (by assumption)) (Bd.sub (by assumption) (by assumption)) (Bd.sub (by assumption) (by assumption))
  intro v hv;unfold six at hv;simp only[List.mem_cons,List.not_mem_nil,or_false]at hv;rcases hv with rfl|rfl|rfl|rfl|rfl|rfl
  . exact(Bd.sub (Bd.max2 b1 b3) bL).mono (by decide)
  . exact(Bd.sub bR (Bd.min2 b1 b3)).mono (by decide)
  . exact(Bd.sub (Bd.max2 b2 b4) bB).mono (by decide)
  . exact(Bd.sub bT (Bd.min2 b2 b4)).mono (by decide)
  . exact ba _ m1
  . exact(ba _ n1).neg
def zoC {px pz qx qz lo hi:Int}(B:FgB F)(ok:zae ms)(one:ms.length<=1)(hany:∀ h,ms.any (inS h)=[(F.f+lo,F.f+hi)].any (inS h))(hk:∀ k,(lo<=k/\k<=hi)↔(0<=k/\k<=F.l-F.f/\zcY (F.x0+F.g*k) (F.x1+F.g*k) (F.z0+F.s*k) (F.z1+F.s*k) px pz qx qz)):zpw ms F px pz qx qz:=by
 refine⟨ok,one,λh=>?_⟩;rw[hany h];have:=hk (h-F.f);rw[zk9 (by have:=B.x;lia) (by have:=B.z;lia)]at this;simp only[List.any_cons,List.any_nil,Bool.or_false,zdc];unfold zbG;constructor
 ·rintro⟨a,b⟩;obtain⟨c1,c2,c3⟩:=this.mp ⟨by lia,by lia⟩;exact⟨by lia,by lia,c3⟩
 ·rintro⟨a,b,c⟩;obtain⟨d1,d2⟩:=this.mpr ⟨by lia,by lia,c⟩;exact⟨by lia,by lia⟩
noncomputable def flt (a b:Int×Int):Bool:=decide (a.1*b.2<b.1*a.2)
def zeS {cs:List (Int×Int)}{k:Int}(h0:0<=k)(h:k<cs.length):∃ c,cs[k.toNat]?=some c/\atD (cs.map p2) k=some (p2 c):=by
 have hk:k.toNat<cs.length:=by lia
 refine⟨cs[k.toNat],List.getElem?_eq_getElem hk,?_⟩;have:=zbw (ds:=cs.map p2) (i:=k.toNat) (d:=p2 (cs[k.toNat])) (by rw[List.getElem?_map,List.getElem?_eq_getElem hk];rfl);rwa[show((k.toNat:Nat):Int)=k by lia]at this
noncomputable def lenV (ms:List (Int×Int)):Int:=(ms.map λm=>m.2-m.1).sum
def Sv (c:Int×Int)(t b:Int):Prop:=0<c.2/\c.1*b=t*c.2
noncomputable def hvT (a b p:Int×Int):Int:=if 0<b.1-a.1 then a.2*(b.1-a.1)*p.2+(b.2-a.2)*(p.1-a.1*p.2)else -(a.2*(b.1-a.1)*p.2+(b.2-a.2)*(p.1-a.1*p.2))
noncomputable def hvB (a b p:Int×Int):Int:=if 0<b.1-a.1 then(b.1-a.1)*p.2 else -((b.1-a.1)*p.2)
def zkT {a b p:Int×Int}(h:b.1≠a.1)(hp:0<p.2):0<hvB a b p:=by
 unfold hvB;split
 ·exact Int.mul_pos (by lia) hp
 ·have:=Int.mul_pos (show 0 < -(b.1-a.1) by lia) hp;rw[Int.neg_mul]at this;exact this
def ztw {b e:Int}(hb:0<b)(he:0<e)(hc:Sv c t b)(hd:Sv d u e):flt c d=decide (t*e<u*b):=by
 obtain⟨c0,c1⟩:=hc;obtain⟨d0,d1⟩:=hd;unfold flt;refine decide_eq_decide.mpr ?_;have hbe:0<b*e:=Int.mul_pos hb he;have hcd:0<c.2*d.2:=Int.mul_pos c0 d0;rw[<- Int.mul_lt_mul_right hbe,<- Int.mul_lt_mul_right (b:=t*e) (c:=u*b) hcd]
 have e1:c.1*d.2*(b*e)=t*e*(c.2*d.2):=by
  have:c.1*d.2*(b*e)=c.1*b*(d.2*e):=by grind
  rw[this,c1];grind
 have e2:d.1*c.2*(b*e)=u*b*(c.2*d.2):=by
  have:d.1*c.2*(b*e)=d.1*e*(c.2*b):=by grind
  rw[this,d1];grind
 rw[e1,e2]
structure Grd (cs:List (Int×Int)):Prop where
 two:2<=cs.length
 most:cs.length<=40
 asc:cs.Pairwise λa b=>a.1<b.1
 bd:∀ c∈cs,Bd 170 c.1/\Bd 190 c.2
noncomputable def zhI (cs:List (Int×Int)):Int:=(cs.getD 0 (0,0)).1
noncomputable def zfw (cs:List (Int×Int)):Int:=(cs.getD (cs.length-1) (0,0)).1
def OnG (cs:List (Int×Int))(p:Int×Int):Prop:=zhI cs*p.2<=p.1/\p.1<=zfw cs*p.2
noncomputable def ze0:List (Int×Int)->Int×Int->Option ((Int×Int)×(Int×Int))
 |a::b::r,p=>if p.1<=b.1*p.2 then some (a,b)else ze0 (b::r) p
 |_,_=>none
theorem seg_at:∀ {cs:List (Int×Int)} {p:Int×Int} {k:Nat} {a b:Int×Int},cs[k]?=some a->cs[k+1]?=some b->p.1<=b.1*p.2->(∀ j c,1<=j->j<=k->cs[j]?=some c->c.1*p.2<p.1)->ze0 cs p=some (a,b)
 |[],p,k,a,b,h,_,_,_=>by simp at h
 |[x],p,0,a,b,_,h,_,_=>by simp at h
 |[x],p,k+1,a,b,h,_,_,_=>by simp at h
 |x::y::r,p,0,a,b,h1,h2,h3,_=>by simp at h1 h2;subst h1 h2;unfold ze0;rw[if_pos h3]
 |x::y::r,p,k+1,a,b,h1,h2,h3,h4=>by have:=h4 1 y (by lia) (by lia) rfl;unfold ze0;rw[if_neg (by lia)];exact seg_at (by simpa using h1) (by simpa using h2) h3 λj c j1 j2 hc=>h4 (j+1) c (by lia) (by lia) (by simpa using hc)
theorem zhr:∀ {cs:List (Int×Int)} {p:Int×Int},2<=cs.length->p.1<=zfw cs*p.2->∃ k a b,cs[k]?=some a/\cs[k+1]?=some b/\p.1<=b.1*p.2/\∀ j c,1<=j->j<=k->cs[j]?=some c->c.1*p.2<p.1
 |[],p,h,_=>by simp at h
 |[x],p,h,_=>by simp at h
 |[x,y],p,_,h=>⟨0,x,y,rfl,rfl,h,λj c j1 j2=>by lia⟩
 |x::y::z::r,p,_,h=>by
  by_cases g:p.1<=y.1*p.2
  ·exact⟨0,x,y,rfl,rfl,g,λj c j1 j2=>by lia⟩
  ·obtain⟨k,a,b,h1,h2,h3,h4⟩:=zhr (cs:=y::z::r) (p:=p) (by simp) h;refine⟨k+1,a,b,by simpa using h1,by simpa using h2,h3,λj c j1 j2 hc=>?_⟩;cases j with
   |zero=>lia
   |succ j =>
    cases j with
    |zero=>simp at hc;subst hc;lia
    |succ j=>exact h4 (j+1) c (by lia) (by lia) (by simpa using hc)
def zdo (g:Grd cs){i j:Nat}{a b:Int×Int}(hij:i<j)(ha:cs[i]?=some a)(hb:cs[j]?=some b):a.1<b.1:=by have h1:=zax ha;have h2:=zax hb;rw[List.getElem?_eq_getElem h1]at ha;rw[List.getElem?_eq_getElem h2]at hb;cases ha;cases hb;exact List.pairwise_iff_getElem.mp g.asc i j h1 h2 hij
def zcz (g:Grd cs):∃ a,cs[0]?=some a/\zhI cs=a.1:=by
 have:=g.two;obtain⟨a,h⟩:∃ a,cs[0]?=some a:=⟨cs[0],List.getElem?_eq_getElem (by lia)⟩
 exact⟨a,h,by unfold zhI;rw[List.getD_eq_getElem?_getD,h];rfl⟩
def zju (g:Grd cs):∃ a,cs[cs.length-1]?=some a/\zfw cs=a.1:=by
 have:=g.two;obtain⟨a,h⟩:∃ a,cs[cs.length-1]?=some a:=⟨cs[cs.length-1],List.getElem?_eq_getElem (by lia)⟩
 exact⟨a,h,by unfold zfw;rw[List.getD_eq_getElem?_getD,h];rfl⟩
def GAt (S:Sto)(g:D)(cs:List (Int×Int)):=∃ n l,g=.ref n/\S[n]?=some (.ins "Ground" [("corners",.ref l)])/\S[l]?=some (.lst (cs.map p2))
def GAt.old {T:Sto}(h:GAt S g cs):GAt (S++T) g cs:=by obtain⟨n,l,e,h1,h2⟩:=h;exact⟨n,l,e,zby h1,zby h2⟩
def zuE {S:Sto}{P:D->Prop}{n l:Nat}(h:S[n]?=some (.ins "Ground" [("corners",.ref l)]))(q:P (.ref l)):∃ m c fs d,D.ref n=.ref m/\S[m]?=some (.ins c fs)/\fs.lookup ("corners":Str)=some d/\P d:=⟨n,_,_,_,rfl,h,by simp[List.lookup_cons],q⟩
noncomputable def sdO (a b c:Int×Int):Int:=(c.2-a.2)*(b.1-a.1)-(c.1-a.1)*(b.2-a.2)
noncomputable def sdI (a b c:Int×Int):Int:=if 0<(if b.1-a.1<0 then -sdO a b c else sdO a b c)then 1 else if(if b.1-a.1<0 then -sdO a b c else sdO a b c)<0 then -1 else 0
def Std (cs:List (Int×Int))(s:Int×Int):Prop:=Bd 180 s.1/\Bd 200 s.2/\OnG cs (s.1,1)/\∀ a b,ze0 cs (s.1,1)=some (a,b)->hvT a b (s.1,1)<=s.2*hvB a b (s.1,1)
def zoI (gr:Grd cs):∃ z,cs[cs.length-1]?=some z/\zfw cs=z.1/\atD (cs.map p2) (-1)=some (p2 z):=by
 have g1:=gr.two;obtain⟨z,hz,ez⟩:=zju gr;refine⟨z,hz,ez,?_⟩;have hne:cs≠[]:=λe=>by rw[e]at g1;simp at g1
 have en:cs=cs.dropLast++[z]:=by
  have h2:=List.dropLast_concat_getLast hne
  have h3:cs.getLast hne=z:=by rw[List.getLast_eq_getElem];have hl':=zax hz;rw[List.getElem?_eq_getElem hl']at hz;cases hz;rfl
  rw[h3]at h2;exact h2.symm
 rw[en,List.map_append];exact zeQ
structure Brk (cs:List (Int×Int))(p a b:Int×Int):Prop where
 ma:a∈cs
 mb:b∈cs
 lt:a.1<b.1
 lo:a.1*p.2<=p.1
 hi:p.1<=b.1*p.2
 no:∀ c∈cs,¬ (a.1<c.1/\c.1<b.1)
def zkE (gr:Grd cs)(on:OnG cs p):∃ a b,ze0 cs p=some (a,b)/\Brk cs p a b:=by
 obtain⟨k,a,b,ha,hb,hle,hlt⟩:=zhr gr.two on.2;refine⟨a,b,seg_at ha hb hle hlt,List.mem_of_getElem? ha,List.mem_of_getElem? hb,zdo gr (by lia) ha hb,?_,hle,λc hc h=>?_⟩
 ·cases k with
  |zero =>obtain⟨f,hf,ef⟩:=zcz gr;rw[ha]at hf;cases hf;have:=on.1;rw[ef]at this;exact this
  |succ k=>exact Int.le_of_lt (hlt (k+1) a (by lia) (by lia) ha)
 ·obtain⟨j,hj⟩:=List.mem_iff_getElem?.mp hc;rcases Nat.lt_trichotomy j k with g|g|g
  ·have:=zdo gr g hj ha;lia
  ·subst g;rw[ha]at hj;cases hj;lia
  ·rcases Nat.lt_or_ge (k+1) j with g2|g2
   ·have:=zdo gr g2 hb hj;lia
   ·have:j=k+1:=by lia
    subst this;rw[hb]at hj;cases hj;lia
def zmf {own:Nat}{fv:List Nat}{xs:List D}{ok:Sto->Prop}{g:DG}{tc:DT}{te:DE}{Z:Rho}{S:Sto}{Q:DK}(W:Nat->List D->Sto->Prop)(h0:W 0 [] S)(hok:∀ i ys S,W i ys S->ok S)(hbig:xs.length<=big)
  (step:∀ i d ys S,xs[i]?=some d->W i ys S->ztt (W (i+1)) λN=>g d (zfX own fv Z) S λρ2 S2=>tc ρ2 S2 λb S3=>if b=true then te ρ2 S3 λy S4=>N (ys++[y]) S4 else N ys S3)
  (fin:∀ ys S,W xs.length ys S->New Q S ys):zll own fv g tc te Z Q ⟨xs,ok⟩ S:=⟨hbig,W,h0,hok,λi d ys S e w=>step i d ys S e w (W (i+1)) λ_ _ h=>h,fin⟩
def zrJ {own:Nat}{fv:List Nat}{xs:List D}{ok:Sto->Prop}{g:DG}{tc:DT}{te:DE}{Z:Rho}{S:Sto}{Q:DK}(W:Nat->List D->Sto->Prop)(h0:W 0 [] S)(hok:∀ i ys S,W i ys S->ok S)(hbig:xs.length<=big)
  (step:∀ i d ys S,xs[i]?=some d->W i ys S->g d (zfX own fv Z) S λρ2 S2=>tc ρ2 S2 λb S3=>if b=true then te ρ2 S3 λy S4=>W (i+1) (ys++[y]) S4 else W (i+1) ys S3)
  (fin:∀ ys S,W xs.length ys S->New Q S ys):zll own fv g tc te Z Q ⟨xs,ok⟩ S:=⟨hbig,W,h0,hok,step,fin⟩
def zqI {a b d:Int×Int}(h:a.1≠b.1):sdI a b d=sdI b a d:=by
 have e:(if b.1-a.1<0 then -sdO a b d else sdO a b d)=(if a.1-b.1<0 then -sdO b a d else sdO b a d):=by
  by_cases z:b.1-a.1<0
  ·rw[if_pos z,if_neg (by lia)];unfold sdO;grind
  ·rw[if_neg z,if_pos (by lia)];unfold sdO;grind
 unfold sdI;rw[e]
def zcv (cs:List (Int×Int))(s:Int×Int):Prop:=OnG cs (s.1,1)/\∀ a b,ze0 cs (s.1,1)=some (a,b)->hvT a b (s.1,1)<=s.2*hvB a b (s.1,1)
noncomputable def zdk (t b:Int):Int:=-(-t/b)
def zpM {t b:Int}(hb:0<b):t<=zdk t b*b/\(zdk t b-1)*b<t:=by unfold zdk;have h1:=Int.ediv_mul_le (-t) (b:=b) (by lia);have h2:=Int.lt_ediv_add_one_mul_self (-t) hb;rw[Int.neg_mul,Int.sub_mul,Int.neg_mul,Int.one_mul];rw[Int.add_mul,Int.one_mul]at h2;lia
def zqH {t b z:Int}(hb:0<b):zdk t b<=z↔t<=z*b:=by
 obtain⟨h1,h2⟩:=zpM (t:=t) hb;constructor
 ·intro h;exact Int.le_trans h1 (Int.mul_le_mul_of_nonneg_right h (Int.le_of_lt hb))
 ·intro h;rcases Int.lt_or_le z (zdk t b)with g|g
  ·have:=Int.mul_le_mul_of_nonneg_right (show z<=zdk t b-1 by lia) (Int.le_of_lt hb);lia
  ·exact g
def zkJ (gr:Grd cs)(bk:Brk cs (xx,1) p r):0<hvB p r (xx,1)/\Bd 171 (hvB p r (xx,1))/\Bd 400 (hvT p r (xx,1))/\Bd 192 (zdk (hvT p r (xx,1)) (hvB p r (xx,1))):=by
 have hpr:=bk.lt;have hB:0<hvB p r (xx,1):=zkT (by lia) (show(0:Int)<1 by decide);obtain⟨bp1,bp2⟩:=gr.bd p bk.ma;obtain⟨br1,br2⟩:=gr.bd r bk.mb;have h1':p.1<=xx:=by have:p.1*1<=xx:=bk.lo;lia
 have h2':xx<=r.1:=by have:xx<=r.1*1:=bk.hi;lia
 have bx:Bd 171 xx:=(Bd.btw (n:=170) bp1 br1 h1' h2').mono (by decide)
 have bT:Bd 400 (hvT p r (xx,1)):=by have r1:Bd 171 (r.1-p.1):=Bd.sub br1 bp1;have r2:Bd 191 (r.2-p.2):=Bd.sub br2 bp2;have m1:Bd 361 (p.2*(r.1-p.1)):=Bd.mul bp2 r1;have m2:Bd 172 (xx-p.1):=Bd.sub bx (bp1.mono (by decide));have m3:Bd 363 ((r.2-p.2)*(xx-p.1)):=Bd.mul r2 m2;unfold hvT;rw[if_pos (by lia)];dsimp only;rw[Int.mul_one,Int.mul_one];exact(Bd.add (n:=363) (m1.mono (by decide)) m3).mono (by decide)
 have bB:Bd 171 (hvB p r (xx,1)):=by unfold hvB;rw[if_pos (by lia)];dsimp only;rw[Int.mul_one];exact Bd.sub br1 bp1
 refine⟨hB,bB,bT,?_⟩
 have eT:hvT p r (xx,1)=p.2*(r.1-xx)+r.2*(xx-p.1):=by
  unfold hvT;rw[if_pos (by lia)];dsimp only
  grind
 have eB:hvB p r (xx,1)=(r.1-xx)+(xx-p.1):=by unfold hvB;rw[if_pos (by lia)];dsimp only;lia
 have lo:-(2 ^ 190)*hvB p r (xx,1)<=hvT p r (xx,1):=by rw[eT,eB];have k1:=Int.mul_le_mul_of_nonneg_right (show -(2 ^ 190:Int)<=p.2 by unfold Bd at bp2;lia) (show 0<=r.1-xx by lia);have k2:=Int.mul_le_mul_of_nonneg_right (show -(2 ^ 190:Int)<=r.2 by unfold Bd at br2;lia) (show 0<=xx-p.1 by lia);rw[Int.mul_add];lia
 have hi:hvT p r (xx,1)<=2 ^ 190*hvB p r (xx,1):=by rw[eT,eB];have k1:=Int.mul_le_mul_of_nonneg_right (show p.2<=(2 ^ 190:Int) by unfold Bd at bp2;lia) (show 0<=r.1-xx by lia);have k2:=Int.mul_le_mul_of_nonneg_right (show r.2<=(2 ^ 190:Int) by unfold Bd at br2;lia) (show 0<=xx-p.1 by lia);rw[Int.mul_add];lia
 have d1:-(2 ^ 190)<=-hvT p r (xx,1)/hvB p r (xx,1):=(Int.le_ediv_iff_mul_le hB).mpr (by rw[Int.neg_mul];lia)
 have d2:-hvT p r (xx,1)/hvB p r (xx,1)<=2 ^ 190:=Int.ediv_le_of_le_mul hB (by have:=lo;rw[Int.neg_mul]at this;lia)
 unfold zdk;show _<2 ^ 192;lia
noncomputable def zcQ (cs:List (Int×Int)) (x:Int):Int:=match ze0 cs (x,1)with
 |some (a,b)=>zdk (hvT a b (x,1)) (hvB a b (x,1))
 |none=>0
def zoQ (gr:Grd cs){s:Int×Int}(on:OnG cs (s.1,1)):zcv cs s↔zcQ cs s.1<=s.2:=by
 obtain⟨a,b,seg,bk⟩:=zkE gr on;have hB:=(zkJ gr bk).1;unfold zcQ;rw[seg];dsimp only;rw[zqH hB];constructor
 ·intro h;exact h.2 a b seg
 ·intro h;refine⟨on,λa' b' seg'=>?_⟩;rw[seg]at seg';cases seg';exact h
def zop (gr:Grd cs)(on:OnG cs (x,1)):Bd 192 (zcQ cs x):=by obtain⟨a,b,seg,bk⟩:=zkE gr on;unfold zcQ;rw[seg];exact(zkJ gr bk).2.2.2
def Std.of {s:Int×Int}(b1:Bd 180 s.1)(b2:Bd 200 s.2)(h:zcv cs s):Std cs s:=⟨b1,b2,h.1,h.2⟩
noncomputable def nbP (cs:List (Int×Int)) (x y:Int) (k:Nat):Bool:=decide (min x y<(cs.getD k (0,0)).1)&&decide ((cs.getD k (0,0)).1<max x y)
noncomputable def nbK (cs:List (Int×Int)) (x y:Int) (n:Nat):List Int:=((List.range n).filter (nbP cs x y)).map λk:Nat=>(k:Int)
def zvk {cs:List (Int×Int)}{x y:Int}{i:Nat}(h:nbP cs x y i=true):(nbK cs x y (i+1)).map D.int=(nbK cs x y i).map D.int++[.int (i:Int)]:=by unfold nbK;rw[List.range_succ,List.filter_append,List.filter_cons_of_pos h];simp
def zpy {cs:List (Int×Int)}{x y:Int}{i:Nat}(h:nbP cs x y i=false):nbK cs x y (i+1)=nbK cs x y i:=by unfold nbK;rw[List.range_succ,List.filter_append,List.filter_cons_of_neg (by rw[h];exact Bool.false_ne_true)];simp
noncomputable def zb6 (cs:List (Int×Int)) (a b:Int×Int) (k:Int):Bool:=decide (0<sdI a b (cs.getD k.toNat (0,0)))
noncomputable def zb4 (cs:List (Int×Int)) (a b:Int×Int):Option Int:=(nbK cs a.1 b.1 cs.length).find? (zb6 cs a b)
theorem zk1 {p:Int->Bool}:∀ {ks:List Int} {i:Nat} {k:Int},ks[i]?=some k->(∀ x∈ks.take i,p x=false)->p k=true->ks.find? p=some k
 |[],i,k,h,_,_=>by simp at h
 |x::ks,0,k,h,_,hp=>by
  have e:x=k:=by simpa using h
  rw[List.find?_cons,e,hp]
 |x::ks,i+1,k,h,hn,hp=>by rw[List.find?_cons,hn x (by simp)];exact zk1 (by simpa using h) (λy hy=>hn y (by rw[List.take_succ_cons];exact List.mem_cons_of_mem _ hy)) hp
def zqZ {p:Int->Bool}{ks:List Int}(hn:∀ x∈ks,p x=false):ks.find? p=none:=List.find?_eq_none.mpr λx hx=>by rw[hn x hx];exact Bool.false_ne_true
def zss {cs:List (Int×Int)}{x y k:Int}{n:Nat}(h:k∈nbK cs x y n):0<=k/\k<n:=by unfold nbK at h;obtain⟨j,hj,rfl⟩:=List.mem_map.mp h;have:=List.mem_range.mp (List.mem_filter.mp hj).1;lia
def zoj {cs:List (Int×Int)}{a b:Int×Int}:zb4 cs a b=zb4 cs b a:=by
 by_cases h:a.1=b.1
 ·have e:∀ x:Int×Int,x.1=x.1->nbK cs a.1 b.1 cs.length=[]:=λ_ _=>by
   unfold nbK;rw[List.filter_eq_nil_iff.mpr λk _=>?_]
   ·rfl
   ·unfold nbP;rw[h];simp only[Bool.and_eq_true,decide_eq_true_eq];lia
  have e1:=e a rfl;have e2:nbK cs b.1 a.1 cs.length=[]:=by rw[h]at e1 ⊢;exact e1
  unfold zb4;rw[e1,e2];rfl
 ·have en:nbK cs a.1 b.1 cs.length=nbK cs b.1 a.1 cs.length:=by
   unfold nbK nbP;rw[Int.min_comm,Int.max_comm]
  unfold zb4;rw[en];congr 1;funext k;unfold zb6;rw[zqI h]
def zmI {cs:List (Int×Int)}{a b:Int×Int}{i:Nat}(hn:∀ j:Nat,j<i->nbP cs a.1 b.1 j=true->zb6 cs a b (j:Int)=false)(hi:i<cs.length)(h1:nbP cs a.1 b.1 i=true)(h2:zb6 cs a b (i:Int)=true):zb4 cs a b=some (i:Int):=by
 unfold zb4 nbK;rw[List.find?_map,List.find?_filter]
 have:(List.range cs.length).find? (λk=>decide (nbP cs a.1 b.1 k=true/\(zb6 cs a b ∘ λk:Nat=>(k:Int)) k=true))=some i:=by rw[List.find?_range_eq_some];refine⟨decide_eq_true ⟨h1,h2⟩,List.mem_range.mpr hi,λj hj=>?_⟩;rw[Bool.not_eq_true',decide_eq_false_iff_not];rintro⟨p1,p2⟩;have:=hn j hj p1;rw[show(zb6 cs a b ∘ λk:Nat=>(k:Int)) j=zb6 cs a b (j:Int)from rfl,this]at p2;cases p2
 rw[this];rfl
def zra {cs:List (Int×Int)}{a b:Int×Int}(hn:∀ j:Nat,j<cs.length->nbP cs a.1 b.1 j=true->zb6 cs a b (j:Int)=false):zb4 cs a b=none:=by
 unfold zb4;refine List.find?_eq_none.mpr λk hk=>?_
 unfold nbK at hk;obtain⟨j,hj,rfl⟩:=List.mem_map.mp hk;obtain⟨h1,h2⟩:=List.mem_filter.mp hj;rw[hn j (List.mem_range.mp h1) h2];exact Bool.false_ne_true
section
variable {g:Int}{p q r s d t u v:Int×Int}
end
section
variable {cs:List (Int×Int)}{a b:Int×Int}{rp:List (Int×Int)}
end
section
variable {w h t m:Int}{cs:List (Int×Int)}
end
noncomputable abbrev bcD (b:Str×(Int×Int)):D:=.tup [.str b.1,.int b.2.1,.int b.2.2]
noncomputable def abc:List Nat:=List.range' 97 26
def zsF:("abcdefghijklmnopqrstuvwxyz":Str).cps.toList=abc:=by decide +kernel
def zhT {c:Nat}:c∈abc↔97<=c/\c<=122:=by unfold abc;rw[List.mem_range'_1];lia
noncomputable def nmB (z:Str):Bool:=decide (1<=z.length)&&(decide (z.length<=8)&&z.cps.toList.all λc=>decide (c∈abc))
def zgh {z:Str}:nmB z=true↔1<=z.length/\z.length<=8/\∀ c∈z.cps.toList,c∈abc:=by unfold nmB;rw[Bool.and_eq_true,Bool.and_eq_true,decide_eq_true_eq,decide_eq_true_eq,List.all_eq_true];simp only[decide_eq_true_eq]
def zfW {z:Str}(h:nmB z=true)(k:Nat):fl k (.str z)=true:=by
  have h3:=(zgh.mp h).2.2
  have:z.cps.all (· < 0x110000)=true:=by rw[Array.all_eq_true'];intro x hx;have:=zhT.mp (h3 x (Array.mem_toList_iff.mpr hx));simp;lia
  cases k<;>exact this
structure Vl where
 cs:List (Int×Int)
 bs:List (Str×(Int×Int))
 fs:List Fg
 hz:Option Int
 h0:Int
 h1:Int
 dl:Int
structure FgV (F:Fg):Prop where
 b:FgB F
 o:F.f<=F.l
 f:Bd 300 F.f
 l:Bd 300 F.l
structure zd8 (V:Vl):Prop where
 gr:Grd V.cs
 b1:1<=V.bs.length
 b12:V.bs.length<=12
 nm:∀ b∈V.bs,nmB b.1=true
 nd:(V.bs.map (·.1)).Nodup
 st:∀ b∈V.bs,zcv V.cs b.2
 bd:∀ b∈V.bs,Bd 180 b.2.1/\Bd 200 b.2.2
 f12:V.fs.length<=12
 fg:∀ F∈V.fs,FgV F
 hz:∀ z,V.hz=some z->0<=z
 hh:V.h0<=V.h1
 b0:Bd 250 V.h0
 bl:Bd 250 V.h1
 dl:0<=V.dl
noncomputable abbrev vF (g b f h a l d:D):List (Str×D):=[("ground",g),("beacons",b),("fogs",f),("haze",h),("first",a),("last",l),("delay",d)]
def VAt (S:Sto)(v:D)(V:Vl):=∃ n g b f,v=.ref n/\S[n]?=some (.ins "Valley" (vF (.ref g) (.ref b) (.ref f) (zbZ V.hz) (.int V.h0) (.int V.h1) (.int V.dl)))/\GAt S (.ref g) V.cs/\S[b]?=some (.lst (V.bs.map bcD))/\S[f]?=some (.lst (V.fs.map fgD))
theorem VAt.old {T:Sto}{V:Vl}(h:VAt S v V):VAt (S++T) v V:=by obtain⟨n,g,b,f,e,h1,h2,h3,h4⟩:=h;exact⟨n,g,b,f,e,zby h1,h2.old,zby h3,zby h4⟩
section
variable {S:Sto}{P:D->Prop}{n:Nat}{g b f h a l d:D}
def zpc (k:S[n]?=some (.ins "Valley" (vF g b f h a l d)))(q:P g):∃ m c fs x,D.ref n=.ref m/\S[m]?=some (.ins c fs)/\fs.lookup ("ground":Str)=some x/\P x:=⟨n,_,_,g,rfl,k,by simp[List.lookup_cons],q⟩
def zmA (k:S[n]?=some (.ins "Valley" (vF g b f h a l d)))(q:P b):∃ m c fs x,D.ref n=.ref m/\S[m]?=some (.ins c fs)/\fs.lookup ("beacons":Str)=some x/\P x:=⟨n,_,_,b,rfl,k,by rw[List.lookup_cons,show((("beacons":Str)=="ground")=false) by decide +kernel];simp[List.lookup_cons],q⟩
def zso (k:S[n]?=some (.ins "Valley" (vF g b f h a l d)))(q:P f):∃ m c fs x,D.ref n=.ref m/\S[m]?=some (.ins c fs)/\fs.lookup ("fogs":Str)=some x/\P x:=⟨n,_,_,f,rfl,k,by rw[List.lookup_cons,show((("fogs":Str)=="ground")=false) by decide +kernel];dsimp only;rw[List.lookup_cons,show((("fogs":Str)=="beacons")=false) by decide +kernel];simp[List.lookup_cons],q⟩
def zsq (k:S[n]?=some (.ins "Valley" (vF g b f h a l d)))(q:P h):∃ m c fs x,D.ref n=.ref m/\S[m]?=some (.ins c fs)/\fs.lookup ("haze":Str)=some x/\P x:=⟨n,_,_,h,rfl,k,by rw[List.lookup_cons,show((("haze":Str)=="ground")=false) by decide +kernel];dsimp only;rw[List.lookup_cons,show((("haze":Str)=="beacons")=false) by decide +kernel];dsimp only;rw[List.lookup_cons,show((("haze":Str)=="fogs")=false) by decide +kernel];simp[List.lookup_cons],q⟩
def zri (k:S[n]?=some (.ins "Valley" (vF g b f h a l d)))(q:P a):∃ m c fs x,D.ref n=.ref m/\S[m]?=some (.ins c fs)/\fs.lookup ("first":Str)=some x/\P x:=⟨n,_,_,a,rfl,k,by rw[List.lookup_cons,show((("first":Str)=="ground")=false) by decide +kernel];dsimp only;rw[List.lookup_cons,show((("first":Str)=="beacons")=false) by decide +kernel];dsimp only;rw[List.lookup_cons,show((("first":Str)=="fogs")=false) by decide +kernel];dsimp only;rw[List.lookup_cons,show((("first":Str)=="haze")=false) by decide +kernel];simp[List.lookup_cons],q⟩
def zrw (k:S[n]?=some (.ins "Valley" (vF g b f h a l d)))(q:P l):∃ m c fs x,D.ref n=.ref m/\S[m]?=some (.ins c fs)/\fs.lookup ("last":Str)=some x/\P x:=⟨n,_,_,l,rfl,k,by rw[List.lookup_cons,show((("last":Str)=="ground")=false) by decide +kernel];dsimp only;rw[List.lookup_cons,show((("last":Str)=="beacons")=false) by decide +kernel];dsimp only;rw[List.lookup_cons,show((("last":Str)=="fogs")=false) by decide +kernel];dsimp only;rw[List.lookup_cons,show((("last":Str)=="haze")=false) by decide +kernel];dsimp only;rw[List.lookup_cons,show((("last":Str)=="first")=false) by decide +kernel];simp[List.lookup_cons],q⟩
end
def zg7 {bs:List (Str×(Int×Int))}{i:Nat}{d:D}(h:(bs.map bcD)[i]?=some d):∃ b,bs[i]?=some b/\d=bcD b:=by
 rw[List.getElem?_map]at h;cases e:bs[i]? with
 |none=>rw[e]at h;cases h
 |some p=>rw[e]at h;cases h;exact⟨p,rfl,rfl⟩
noncomputable def zlR (f:Str×(Int×Int)->D):D->D
 |.tup [.str z,.int a,.int b]=>f (z,a,b)
 |d=>d
def zgU (f:Str×(Int×Int)->D)(bs:List (Str×(Int×Int))):(bs.map bcD).map (zlR f)=bs.map f:=by rw[List.map_map];rfl
noncomputable def sqr (a b:Int×Int):Int:=(b.1-a.1)*(b.1-a.1)+(b.2-a.2)*(b.2-a.2)
noncomputable def hzy (z:Option Int) (q:Int):Bool:=match z with
 |some z=>decide (z<q)
 |none=>false
noncomputable def zdh (V:Vl) (a b:Int×Int):D:=match zb4 V.cs a b with
 | some k=>.tup [.str "ground",.int k]
 | none=>if hzy V.hz (sqr a b)=true then .tup [.str "haze",.int (sqr a b)]else .non
def Alw (V:Vl)(a b:Int×Int):Prop:=zb4 V.cs a b=none/\hzy V.hz (sqr a b)=false
def zft {V:Vl}{a b:Int×Int}:zdh V a b=.non↔Alw V a b:=by
 unfold zdh Alw;cases zb4 V.cs a b with
 |some k=>simp
 |none =>
  cases h:hzy V.hz (sqr a b)with
  |true=>simp
  |false=>simp
def zly (V:Vl)(a b:Int×Int)(h:Int):Prop:=Alw V a b/\¬ ∃ F∈V.fs,zbG F a.1 a.2 b.1 b.2 h
structure zf6 (V:Vl)(n m:Str)(s t:Int×Int)(ms:List (Int×Int)):Prop where
 ok:zae ms
 iff:∀ h,ms.any (inS h)=true↔V.h0<=h/\h<=V.h1/\(n=m\/zly V s t h)
 len:ms.length<=14
def znI {V:Vl}(ok:zd8 V){b c:Str×(Int×Int)}(hb:b∈V.bs)(hc:c∈V.bs)(e:b.1=c.1):b=c:=by
 obtain⟨i,hi,rfl⟩:=List.mem_iff_getElem.mp hb;obtain⟨j,hj,rfl⟩:=List.mem_iff_getElem.mp hc;have nd:=List.pairwise_iff_getElem.mp ok.nd;rcases Nat.lt_trichotomy i j with h|h|h
 ·exact absurd (by rw[List.getElem_map,List.getElem_map];exact e) (nd i j (by simpa using hi) (by simpa using hj) h)
 ·subst h;rfl
 ·exact absurd (by rw[List.getElem_map,List.getElem_map];exact e.symm) (nd j i (by simpa using hj) (by simpa using hi) h)
def zeF {S A B X:Sto}(h:∃ T,A=S++T)(e:B=A++X):∃ T,B=S++T:=by obtain⟨T,h⟩:=h;exact⟨T++X,by rw[e,h,List.append_assoc]⟩
def zoW {f:Str}{v:D}:putD f v []=[(f,v)]:=rfl
def zao {f g:Str}{v x:D}{r:List (Str×D)}(h:g≠f):putD f v ((g,x)::r)=(g,x)::putD f v r:=by show(if g=f then _ else _)=_;rw[if_neg h]
section
variable {g b f h a l d:D}
def vp2:putD "beacons" b ([("ground",g)]:List (Str×D))=([("ground",g),("beacons",b)]:List (Str×D)):=by rw[zao (by decide +kernel)];rfl
def vp3:putD "fogs" f ([("ground",g),("beacons",b)]:List (Str×D))=([("ground",g),("beacons",b),("fogs",f)]:List (Str×D)):=by rw[zao (by decide +kernel),zao (by decide +kernel)];rfl
def vp4:putD "haze" h ([("ground",g),("beacons",b),("fogs",f)]:List (Str×D))=([("ground",g),("beacons",b),("fogs",f),("haze",h)]:List (Str×D)):=by rw[zao (by decide +kernel),zao (by decide +kernel),zao (by decide +kernel)];rfl
def vp5:putD "first" a ([("ground",g),("beacons",b),("fogs",f),("haze",h)]:List (Str×D))=([("ground",g),("beacons",b),("fogs",f),("haze",h),("first",a)]:List (Str×D)):=by rw[zao (by decide +kernel),zao (by decide +kernel),zao (by decide +kernel),zao (by decide +kernel)];rfl
def vp6:putD "last" l ([("ground",g),("beacons",b),("fogs",f),("haze",h),("first",a)]:List (Str×D))=([("ground",g),("beacons",b),("fogs",f),("haze",h),("first",a),("last",l)]:List (Str×D)):=by rw[zao (by decide +kernel),zao (by decide +kernel),zao (by decide +kernel),zao (by decide +kernel),zao (by decide +kernel)];rfl
def vp7:putD "delay" d ([("ground",g),("beacons",b),("fogs",f),("haze",h),("first",a),("last",l)]:List (Str×D))=vF g b f h a l d:=by rw[zao (by decide +kernel),zao (by decide +kernel),zao (by decide +kernel),zao (by decide +kernel),zao (by decide +kernel),zao (by decide +kernel)];rfl
end
def ziu (z:Int):zbZ (some z)=.int z:=rfl
def zik:zbZ none=.non:=rfl
def zrB (fs:List Fg)(s t:Int×Int)(h:Int)(d:D):Prop:=(∃ (k:Nat) (F:Fg),fs[k]?=some F/\zbG F s.1 s.2 t.1 t.2 h/\(∀ (j:Nat) G,j<k->fs[j]?=some G->¬ zbG G s.1 s.2 t.1 t.2 h)/\d=.tup [.str "fog",.int k])\/((∀ F∈fs,¬ zbG F s.1 s.2 t.1 t.2 h)/\d=.non)
def zok (V:Vl)(n m:Str)(s t:Int×Int)(h:Int)(d:D):Prop:=(n=m/\d=.non)\/(n≠m/\((¬ Alw V s t/\d=zdh V s t)\/(Alw V s t/\zrB V.fs s t h d)))
theorem zok.non {V:Vl}(a:zok V n m s t h d):d=.non↔n=m\/zly V s t h:=by
 rcases a with⟨a1,rfl⟩|⟨a1,⟨a2,rfl⟩|⟨a2,⟨k,F,hk,hF,hn,rfl⟩|⟨hn,rfl⟩⟩⟩
 ·exact⟨λ_=>.inl a1,λ_=>rfl⟩
 ·rw[zft];exact⟨λz=>absurd z a2,λz=>z.elim (λz=>absurd z a1) λz=>absurd z.1 a2⟩
 ·exact⟨λz=>(by cases z),λz=>z.elim (λz=>absurd z a1) λz=>absurd ⟨F,List.mem_of_getElem? hk,hF⟩ z.2⟩
 ·exact⟨λ_=>.inr ⟨a2,by rintro⟨F,hF,g⟩;exact hn F hF g⟩,λ_=>rfl⟩
mutual
theorem eqv_refl:∀ (k:Nat) (d:D),fl k d=true->eqv d d=true
  |_,.non,_=>rfl
  |_,.bl b,_=>by show(b==b)=true;simp
  |_,.int i,_=>by show decide (i=i)=true;simp
  |_,.str x,_=>by show(x==x)=true;simp
  |0,.tup _,h=>by cases h
  |k+1,.tup xs,h=>eqvAll_refl k xs h
  |k,.ref _,h=>by cases k<;>cases h
  |k,.ty _,h=>by cases k<;>cases h
  |k,.rl _,h=>by cases k<;>cases h
  |k,.kt _,h=>by cases k<;>cases h
  |k,.exn _,h=>by cases k<;>cases h
theorem eqvAll_refl:∀ (k:Nat) (xs:List D),xs.all (fl k)=true->eqvAll xs xs=true
  |_,[],_=>rfl
  |k,x::xs,h=>by rw[List.all_cons,Bool.and_eq_true]at h;show(eqv x x&&eqvAll xs xs)=true;rw[eqv_refl k x h.1,eqvAll_refl k xs h.2];rfl
end
noncomputable def onS (p:Str->D):D->D
 |.str z=>p z
 |d=>d
def zqk {zs:List Str}{i:Nat}{d:D}(h:(zs.map D.str)[i]?=some d):∃ z,zs[i]?=some z/\d=.str z:=by
 rw[List.getElem?_map]at h;cases e:zs[i]? with
 |none=>rw[e]at h;cases h
 |some p=>rw[e]at h;cases h;exact⟨p,rfl,rfl⟩
def zqu (f:Str->D)(zs:List Str):(zs.map D.str).map (onS f)=zs.map f:=by rw[List.map_map];rfl
def znn {S:Sto}{Q:DK}{x y:Str}(fx:fl 20 (.str x)=true)(fy:fl 20 (.str y)=true)(q:Q (.bl (decide (x=y))) S):oEq (.str x) (.str y) S Q:=zqN fx fy (by
 by_cases h:x=y
 ·subst h;rw[decide_eq_true rfl];exact beq_self_eq_true x
 ·rw[decide_eq_false h];exact beq_eq_false_iff_ne.mpr h) q
open Classical in
def zsy {S:Sto}{Q:DK}{x y:Str}(fx:fl 20 (.str x)=true)(fy:fl 20 (.str y)=true)(q:Q (.bl (!decide (x=y))) S):oNe (.str x) (.str y) S Q:=zrb fx fy (by
 by_cases h:x=y
 ·subst h;rw[decide_eq_true rfl];exact beq_self_eq_true x
 ·rw[decide_eq_false h];exact beq_eq_false_iff_ne.mpr h) q
noncomputable abbrev vlD (x y z:D) (V:Vl):D:=.tup [x,y,z,zbZ V.hz,.int V.h0,.int V.h1,.int V.dl]
def VlS (S:Sto)(x y z:D)(V:Vl):Prop:=Lst S x (V.cs.map p2)/\Lst S y (V.bs.map bcD)/\Lst S z (V.fs.map fgD)
theorem VlS.old {T:Sto}{V:Vl}(h:VlS S x y z V):VlS (S++T) x y z V:=⟨h.1.old,h.2.1.old,h.2.2.old⟩
noncomputable def zch (n:Int):Str:=Str.ofString (toString n)
def ziv:∀ d:Nat,d<10->(Nat.digitChar d).toNat=d+48:=by decide
def zoe (m:Nat):(zch ((m:Nat):Int)).cps.toList=(Nat.toDigits 10 m).map Char.toNat:=by unfold zch;rw[Str.ofString_eq_toList];show((Nat.repr m).toList.map Char.toNat).toArray.toList=_;rw[Nat.toList_repr]
def zo3 {m:Nat}(h:0<m):(zch (-((m:Nat):Int))).cps.toList=45::(Nat.toDigits 10 m).map Char.toNat:=by
 obtain⟨k,rfl⟩:∃ k,m=k+1:=⟨m-1,by lia⟩
 unfold zch;rw[Str.ofString_eq_toList,show -(((k+1:Nat)):Int)=Int.negSucc k from rfl];show(("-"++Nat.repr (k+1)).toList.map Char.toNat).toArray.toList=_;rw[String.toList_append,Nat.toList_repr];rfl
def znZ {x y:Str}(h:x.cps.toList=y.cps.toList):x=y:=by cases x;cases y;congr 1;exact Array.toList_inj.mp h
theorem zd6:∀ (k m:Nat),m<10 ^ (k+1)->(Nat.toDigits 10 m).length<=k+1/\∀ c∈(Nat.toDigits 10 m).map Char.toNat,c<128
 |0,m,h=>by
  rw[Nat.toDigits_of_lt_base (by simpa using h)];refine⟨by simp,λc hc=>?_⟩;have:c=(Nat.digitChar m).toNat:=by simpa using hc
  rw[this,ziv m (by simpa using h)];have:m<10:=by simpa using h
  lia
 |k+1,m,h=>by
  by_cases hm:m<10
  ·obtain⟨a,b⟩:=zd6 k m (Nat.lt_of_lt_of_le hm (by rw[Nat.pow_succ];have:0<10 ^ k:=Nat.pow_pos (by decide);lia));exact⟨by lia,b⟩
  ·have hd:m%10<10:=Nat.mod_lt m (by decide)
   have e:Nat.toDigits 10 m=Nat.toDigits 10 (m/10)++Nat.toDigits 10 (m%10):=by rw[Nat.toDigits_append_toDigits (by decide) (by lia) hd,Nat.div_add_mod]
   obtain⟨a,b⟩:=zd6 k (m/10) (by rw[Nat.pow_succ]at h;lia);rw[e,Nat.toDigits_of_lt_base hd];refine⟨by simp;lia,λc hc=>?_⟩;rw[List.map_append]at hc;rcases List.mem_append.mp hc with hc|hc
   ·exact b c hc
   ·have:c=(Nat.digitChar (m%10)).toNat:=by simpa using hc
    rw[this,ziv _ hd];lia
def Pln (k:Nat)(z:Str):Prop:=z.length<=k/\∀ c∈z.cps.toList,c<128
theorem Pln.fl (h:Pln k z)(j:Nat):fl j (.str z)=true:=by
  have:z.cps.all (· < 0x110000)=true:=by rw[Array.all_eq_true'];intro x hx;have:=h.2 x (Array.mem_toList_iff.mpr hx);simp;lia
  cases j<;>exact this
def Pln.app (hx:Pln j x)(hy:Pln k y):Pln (j+k) (x++y):=by
 have e:(x++y).cps.toList=x.cps.toList++y.cps.toList:=by show(x.cps++y.cps).toList=_;simp
 refine⟨?_,λc hc=>?_⟩
 ·show(x.cps++y.cps).size<=_;rw[Array.size_append];have h1:x.cps.size<=j:=hx.1;have h2:y.cps.size<=k:=hy.1;lia
 ·rw[e]at hc;rcases List.mem_append.mp hc with hc|hc
  ·exact hx.2 c hc
  ·exact hy.2 c hc
def Pln.mono {k:Nat}(h:Pln j z)(hk:j<=k):Pln k z:=⟨Nat.le_trans h.1 hk,h.2⟩
noncomputable def onC (p:Nat->Bool):D->D
 |.str z=>.bl (p (z.cps.toList.headD 0))
 |d=>d
def znx {z:Str}{i:Nat}{d:D}(h:(signs z)[i]?=some d):∃ c,z.cps.toList[i]?=some c/\d=.str ⟨#[c]⟩:=by
 unfold signs at h;rw[List.getElem?_map]at h;cases e:z.cps.toList[i]? with
 |none=>rw[e]at h;cases h
 |some p=>rw[e]at h;cases h;exact⟨p,rfl,rfl⟩
def zmD (p:Nat->Bool)(z:Str):(signs z).map (onC p)=(z.cps.toList.map p).map D.bl:=by unfold signs;rw[List.map_map,List.map_map];rfl
def znC (z:Str):(signs z).length=z.length:=by unfold signs;rw[List.length_map];exact Array.length_toList
def zc9 (h:Bd 600 n):(zch n).length<=205/\∀ c∈(zch n).cps.toList,c<128:=by
 have hp:n.natAbs<10 ^ 204:=Nat.lt_of_lt_of_le h (by show 2 ^ 600<=10 ^ 204;rw[show 600=3*200 from rfl,Nat.pow_mul];exact Nat.le_trans (Nat.pow_le_pow_left (show 2 ^ 3<=10 by decide) 200) (Nat.pow_le_pow_right (by decide) (by decide)))
 obtain⟨a,b⟩:=zd6 203 n.natAbs hp;have zl:(zch n).length=(zch n).cps.toList.length:=Array.length_toList.symm;rcases Int.lt_or_le n 0 with g|g
 ·have e:=zo3 (m:=n.natAbs) (by lia);rw[show -((n.natAbs:Nat):Int)=n by lia]at e;rw[zl,e];refine⟨by simp;lia,λc hc=>?_⟩;rcases List.mem_cons.mp hc with rfl|hc
  ·decide
  ·exact b c hc
 ·have e:=zoe n.natAbs;rw[show((n.natAbs:Nat):Int)=n by lia]at e;rw[zl,e];exact⟨by simp;lia,b⟩
theorem zlb {B:Nat}:∀ {zs:List Str},(∀ z∈zs,z.length<=B)->(zs.map (·.length)).sum<=zs.length*B
 |[],_=>by simp
 |z::zs,h=>by
  have h1:=h z (by simp);have h2:=zlb (zs:=zs) λx hx=>h x (List.mem_cons_of_mem _ hx)
  rw[List.map_cons,List.sum_cons,List.length_cons,Nat.add_mul];lia
def len_app (x y:Str):(x++y).length=x.length+y.length:=by show(x.cps++y.cps).size=x.cps.size+y.cps.size;exact Array.size_append ..
theorem zi2 (z:Str):∀ zs:List Str,(Str.join z zs).length<=(zs.map (·.length)).sum+zs.length*z.length
 |[]=>Nat.zero_le _
 |[x]=>by show x.length<=_;simp
 |x::y::r=>by have:=zi2 z (y::r);show(x++z++Str.join z (y::r)).length<=_;rw[len_app,len_app,List.map_cons,List.sum_cons,List.length_cons,Nat.add_mul];lia
theorem zje {j:Nat}{z:Str}(pz:∀ c∈z.cps.toList,c<128):∀ {zs:List Str},(∀ x∈zs,∀ c∈x.cps.toList,c<128)->∀ c∈(Str.join z zs).cps.toList,c<128
 |[],_,c,hc=>by simp[Str.join,Str.empty]at hc
 |[x],h,c,hc=>h x (by simp) c hc
 |x::y::r,h,c,hc=>by
  have e:(Str.join z (x::y::r)).cps.toList=x.cps.toList++z.cps.toList++(Str.join z (y::r)).cps.toList:=by show((x.cps++z.cps)++(Str.join z (y::r)).cps).toList=_;simp
  rw[e]at hc;rcases List.mem_append.mp hc with hc|hc
  ·rcases List.mem_append.mp hc with hc|hc
   ·exact h x (by simp) c hc
   ·exact pz c hc
  ·exact zje (j:=j) pz (λw hw=>h w (List.mem_cons_of_mem _ hw)) c hc
structure VlT (V:Vl):Prop where
 ok:zd8 V
 hz:∀ z,V.hz=some z->Bd 600 z
 dl:Bd 600 V.dl
abbrev N60 (n:Int):Prop:=Bd 195 n
structure FgN (F:Fg):Prop where
 x0:N60 F.x0
 x1:N60 F.x1
 z0:N60 F.z0
 z1:N60 F.z1
 f:N60 F.f
 l:N60 F.l
 g:N60 F.g
 s:N60 F.s
structure VlN (V:Vl):Prop where
 t:VlT V
 b:∀ b∈V.bs,N60 b.2.1/\N60 b.2.2
 f:∀ F∈V.fs,FgN F
 h0:N60 V.h0
 h1:N60 V.h1
 hz:∀ z,V.hz=some z->N60 z
 dl:N60 V.dl
def zpY (x y:Str):(x++y).cps.toList=x.cps.toList++y.cps.toList:=by show(x.cps++y.cps).toList=_;simp
def AxP (lo hi a b p q:Int):Prop:=lo*q<=a*q+p*(b-a)/\a*q+p*(b-a)<=hi*q
def AxC (L R B T:Int)(a b:Int×Int):Nat->Int->Int->Prop
 |0,_,_=>True
 |1,p,q=>AxP L R a.1 b.1 p q
 |_,p,q=>AxP L R a.1 b.1 p q/\AxP B T a.2 b.2 p q
def zh7 {lo hi a b p q:Int}(h:b-a=0)(hq:0<q):AxP lo hi a b p q↔lo-a<=0/\0<=hi-a:=by
 unfold AxP;rw[h,Int.mul_zero,Int.add_zero];constructor
 ·rintro⟨h1,h2⟩;exact⟨by have:=Int.le_of_mul_le_mul_right h1 hq;lia,by have:=Int.le_of_mul_le_mul_right h2 hq;lia⟩
 ·rintro⟨h1,h2⟩;exact⟨Int.mul_le_mul_of_nonneg_right (by lia) (by lia),Int.mul_le_mul_of_nonneg_right (by lia) (by lia)⟩
def zm3 {lo hi a b p q:Int}:AxP lo hi a b p q↔(lo-a)*q<=p*(b-a)/\p*(b-a)<=(hi-a)*q:=by unfold AxP;rw[Int.sub_mul,Int.sub_mul];lia
def zs4 {lo hi a b p q:Int}:AxP lo hi a b p q↔-(hi-a)*q<=p * -(b-a)/\p * -(b-a)<=-(lo-a)*q:=by rw[zm3,Int.neg_mul,Int.neg_mul,Int.mul_neg];lia
def zuU {a b c d p q:Int}(hb:0<b)(hd:0<d)(hq:0<q)(h:a*d<=c*b):(c*q<=p*d)↔(a*q<=p*b/\c*q<=p*d):=by
 constructor
 ·intro k;exact⟨ftr (by lia) (by lia) hd h k,k⟩
 ·exact λk=>k.2
def zvi {a b c d p q:Int}(hb:0<b)(hd:0<d)(hq:0<q)(h:c*b<=a*d):(a*q<=p*b)↔(a*q<=p*b/\c*q<=p*d):=by
 constructor
 ·intro k;exact⟨k,ftr (by lia) (by lia) hb h k⟩
 ·exact λk=>k.1
def zuN {a b c d p q:Int}(hb:0<b)(hd:0<d)(hq:0<q)(h:c*b<=a*d):(p*d<=c*q)↔(p*b<=a*q/\p*d<=c*q):=by
 constructor
 ·intro k;exact⟨by have:=ftr (a:=p) (b:=q) (c:=c) (d:=d) (e:=a) (f:=b) (by lia) (by lia) hd k h;exact this,k⟩
 ·exact λk=>k.2
def zvy {a b c d p q:Int}(hb:0<b)(hd:0<d)(hq:0<q)(h:a*d<=c*b):(p*b<=a*q)↔(p*b<=a*q/\p*d<=c*q):=by
 constructor
 ·intro k;exact⟨k,by have:=ftr (a:=p) (b:=q) (c:=a) (d:=b) (e:=c) (f:=d) (by lia) (by lia) hb k h;exact this⟩
 ·exact λk=>k.1
def zte {L R B T:Int}{a b l h:Int×Int}(hl:0<l.2)(hh:0<h.2)(hw:∀ p q,0<q->(l.1*q<=p*l.2/\p*h.2<=h.1*q↔0<=p/\p<=q/\AxC L R B T a b 2 p q)):l.1*h.2<=h.1*l.2↔Hit L R B T a.1 a.2 b.1 b.2:=by
 constructor
 ·intro k;obtain⟨h1,h2,h3,h4⟩:=(hw l.1 l.2 hl).mp ⟨Int.le_refl _,k⟩;exact⟨l.1,l.2,hl,h1,h2,h3.1,h3.2,h4.1,h4.2⟩
 ·rintro⟨p,q,hq,h1,h2,h3,h4,h5,h6⟩;obtain⟨k1,k2⟩:=(hw p q hq).mpr ⟨h1,h2,⟨h3,h4⟩,⟨h5,h6⟩⟩;have:=ftr (a:=l.1) (b:=l.2) (c:=p) (d:=q) (e:=h.1) (f:=h.2) (by lia) (by lia) hq k1 k2;exact this
theorem zkQ:∀ {ms:List (Int×Int)} {lo hi:Int},zae ms->lo<=hi+2->(∀ c∈ms,lo<=c.1/\c.2<=hi)->2*(ms.length:Int)<=hi-lo+2
 |[],lo,hi,_,h,_=>by simp;lia
 |c::ms,lo,hi,ok,h,hb=>by
  have hc:=ok.le c (by simp);obtain⟨b1,b2⟩:=hb c (by simp);have:=zkQ (lo:=c.2+2) (hi:=hi) ok.tail (by lia) λd hd=>⟨(List.pairwise_cons.mp ok.ap).1 d hd,(hb d (List.mem_cons_of_mem _ hd)).2⟩
  rw[List.length_cons];lia
def zg8 {ms:List (Int×Int)}{c:Int×Int}(hc:c∈ms){h:Int}(h1:c.1<=h)(h2:h<=c.2):ms.any (inS h)=true:=List.any_eq_true.mpr ⟨c,hc,by unfold inS;simp;lia⟩
def zf6.box {V:Vl}(w:zf6 V n m s t ms){c:Int×Int}(hc:c∈ms):V.h0<=c.1/\c.2<=V.h1:=by have le:=w.ok.le c hc;have a:=(w.iff c.1).mp (zg8 hc (by lia) le);have b:=(w.iff c.2).mp (zg8 hc le (by lia));exact⟨a.1,b.2.1⟩
def zf6.few {V:Vl}(w:zf6 V n m s t ms)(h:V.h0<=V.h1)(h2:V.h1<=V.h0+100):ms.length<=60:=by
 have:=zkQ (lo:=V.h0) (hi:=V.h1) w.ok (by lia) λc hc=>w.box hc
 lia
def zwT {t:DE}{Z:Rho}{S:Sto}{Q:DK}(h:t Z S λx S1=>∃ i,x=.int i/\My.Bd 1900 i/\Q (.str (zch i)) S1):dF1 t Z S Q:=h
def zvh {out:Str}{Z:Rho}{Q:DK}(h:Q (.str out) S):dFs [] out Z S Q:=by rw[dFs];exact h
def zpH {c:Str}{ts:List (Sum Str DE)}{out:Str}{Z:Rho}{S:Sto}{Q:DK}(hl:(out++c).length<=100000)(h:dFs ts (out++c) Z S Q):dFs (.inl c::ts) out Z S Q:=by rw[dFs];exact⟨hl,h⟩
def zlt {i:Nat}{z:Str}{ts:List (Sum Str DE)}{out:Str}{Z:Rho}{S:Sto}{Q:DK}(hi:Z[i]?=some (some (.str z)))(hl:(out++z).length<=100000)(h:dFs ts (out++z) Z S Q):dFs (.inr (zaZ i)::ts) out Z S Q:=by rw[dFs];exact⟨.str z,hi,.inr ⟨z,rfl,hl,h⟩⟩
def zqp (ys:List D)(d:D):atD (ys++[d]) (-1)=some d:=by unfold atD ixD;rw[if_neg (by decide),if_pos (by rw[List.length_append];simp;lia),List.length_append];show(ys++[d])[(-1+(((ys.length+1:Nat)):Int)).toNat]?=some d;rw[show(-1+(((ys.length+1:Nat)):Int)).toNat=ys.length by lia,List.getElem?_append_right (Nat.le_refl _),Nat.sub_self];rfl
noncomputable def zbO (c:Int×Int):Str:=if c.1=c.2 then zch c.1 else zch c.1++".."++zch c.2
noncomputable def zes (ms:List (Int×Int)):Str:=if ms=[]then "never" else Str.join ", " (ms.map zbO)
noncomputable def zh1 (n m:Str) (ms:List (Int×Int)):Str:=n++" "++m++": "++zes ms
def zgI {c:Int×Int}(h1:Bd 600 c.1)(h2:Bd 600 c.2):Pln 420 (zbO c):=by
 obtain⟨a1,b1⟩:=zc9 h1;obtain⟨a2,b2⟩:=zc9 h2;unfold zbO;split
 ·exact⟨by lia,b1⟩
 ·exact(Pln.app (Pln.app (j:=205) (k:=2) ⟨a1,b1⟩ ⟨by decide +kernel,by decide +kernel⟩) (k:=205) ⟨a2,b2⟩).mono (by decide)
def zgK {ms:List (Int×Int)}(hl:ms.length<=100)(hb:∀ c∈ms,Bd 600 c.1/\Bd 600 c.2):((ms.map zbO).map (·.length)).sum+(ms.map zbO).length*(", ":Str).length<=43000:=by
 have s1:=zlb (zs:=ms.map zbO) (B:=420) λz hz=>by obtain⟨c,hc,rfl⟩:=List.mem_map.mp hz;exact(zgI (hb c hc).1 (hb c hc).2).1
 have e1:(", ":Str).length=2:=by decide +kernel
 rw[List.length_map]at s1;rw[e1,List.length_map];lia
def zjQ {ms:List (Int×Int)}(hl:ms.length<=100)(hb:∀ c∈ms,Bd 600 c.1/\Bd 600 c.2):Pln 43000 (zes ms):=by
 unfold zes;split
 ·exact⟨by decide +kernel,by decide +kernel⟩
 ·have j:=zi2 ", " (ms.map zbO)
  exact⟨Nat.le_trans j (zgK hl hb),zje (j:=0) (by decide +kernel) λx hx=>by obtain⟨c,hc,rfl⟩:=List.mem_map.mp hx;exact(zgI (hb c hc).1 (hb c hc).2).2⟩
def zjF {ms:List (Int×Int)}(hn:Pln 20 n)(hm:Pln 20 m)(h:Pln 43000 (zes ms)):Pln 43050 (zh1 n m ms) :=(Pln.app (Pln.app (Pln.app (Pln.app hn (k:=1) (y:=" ") ⟨by decide +kernel,by decide +kernel⟩) hm) (k:=2) (y:=": ") ⟨by decide +kernel,by decide +kernel⟩) h).mono (by decide)
def zk8 (z:Str):Str.empty++z=z:=znZ (by rw[zpY];rfl)
def zhs {z:Str}(h:nmB z=true):Pln 20 z:=by have h:=zgh.mp h;exact⟨by lia,λc hc=>by have:=zhT.mp (h.2.2 c hc);lia⟩
noncomputable def zow (ms:List (Int×Int)) (h:Int):List (Int×Int):=match ms.getLast? with
 |some c=>if c.2=h-1 then ms.dropLast++[(c.1,h)]else ms++[(h,h)]
 |none=>[(h,h)]
structure zhL (hs:List Int)(ms:List (Int×Int)):Prop where
 ok:zae ms
 iff:∀ h,ms.any (inS h)=true↔h∈hs
 len:ms.length<=hs.length
def zhL.box (g:zhL hs ms){c:Int×Int}(hc:c∈ms):c.1∈hs/\c.2∈hs:=by have le:=g.ok.le c hc;exact⟨(g.iff c.1).mp (zg8 hc (by lia) le),(g.iff c.2).mp (zg8 hc le (by lia))⟩
def zkO {c:Int×Int}(h:zae ms)(hc:c.1<=c.2)(hb:∀ d∈ms,d.2+2<=c.1):zae (ms++[c]):=by
 refine⟨λd hd=>?_,List.pairwise_append.mpr ⟨h.ap,by simp,λa ha b hb'=>by rw[List.mem_singleton.mp hb'];exact hb a ha⟩⟩;rcases List.mem_append.mp hd with hd|hd
 ·exact h.le d hd
 ·rw[List.mem_singleton.mp hd];exact hc
def zhL.snoc {h:Int}(g:zhL hs ms)(hh:∀ x∈hs,x<h):zhL (hs++[h]) (zow ms h):=by
 unfold zow
 have any2:∀ (as:List (Int×Int)) (c:Int×Int) (x:Int),(as++[c]).any (inS x)=true↔as.any (inS x)=true\/(c.1<=x/\x<=c.2):=λas c x=>by rw[List.any_append,Bool.or_eq_true];simp[zdc]
 have len:=g.len;cases e:ms.getLast? with
 |none =>have em:ms=[]:=List.getLast?_eq_none_iff.mp e;subst em;refine⟨⟨λc hc=>by rw[List.mem_singleton.mp hc];exact Int.le_refl _,by simp⟩,λx=>?_,by simp⟩;have:=any2 [] (h,h) x;rw[List.nil_append]at this;rw[this,g.iff x,List.mem_append,List.mem_singleton];exact or_congr Iff.rfl ⟨λk=>by have:=k.1;have:=k.2;simp at *;lia,λk=>by subst k;exact⟨Int.le_refl _,Int.le_refl _⟩⟩
 |some c =>
  obtain⟨as,ea⟩:∃ as,ms=as++[c]:=by obtain⟨as,h1⟩:=List.getLast?_eq_some_iff.mp e;exact⟨as,h1⟩
  subst ea;have mc:c∈as++[c]:=by simp
  obtain⟨b1,b2⟩:=g.box mc;have lc:=g.ok.le c mc;have la:∀ d∈as,d.2+2<=c.1:=λd hd=>(List.pairwise_append.mp g.ok.ap).2.2 d hd c (by simp)
  have oa:zae as:=⟨λd hd=>g.ok.le d (by simp[hd]),(List.pairwise_append.mp g.ok.ap).1⟩
  have h2:=hh _ b2;simp only;by_cases ec:c.2=h-1
  ·rw[if_pos ec,List.dropLast_concat];refine⟨zkO oa (by show c.1<=h;lia) la,λx=>?_,by simp at *;lia⟩;rw[any2,List.mem_append,<- g.iff x,any2,List.mem_singleton];show _\/(c.1<=x/\x<=h)↔_;rw[or_assoc];exact or_congr Iff.rfl (by lia)
  ·rw[if_neg ec];refine⟨zkO g.ok (Int.le_refl _) λd hd=>?_,λx=>?_,by simp at *;lia⟩
   ·rcases List.mem_append.mp hd with hd|hd
    ·have:=la d hd;show d.2+2<=h;lia
    ·rw[List.mem_singleton.mp hd];show c.2+2<=h;lia
   ·rw[any2,g.iff x,List.mem_append,List.mem_singleton];exact or_congr Iff.rfl ⟨λk=>by have:=k.1;have:=k.2;simp at *;lia,λk=>by subst k;exact⟨Int.le_refl _,Int.le_refl _⟩⟩
section
variable {see:Nat->Nat->Int->Prop}{dl:Int}{s:Nat}{h0:Int}
inductive Lt (see:Nat->Nat->Int->Prop)(dl:Int)(s:Nat)(h0:Int):Nat->Int->Prop
 |base:Lt see dl s h0 s h0
 |step {k j:Nat} {h u:Int}:Lt see dl s h0 k h->h<=u->see k j u->Lt see dl s h0 j (u+dl)
end
noncomputable def hrs (V:Vl):List Int:=(List.range (V.h1-V.h0+1).toNat).map λi:Nat=>V.h0+(i:Int)
section
variable {V:Vl}{is:List Nat}{v:Nat->D}
end
open Classical in
section
variable {V:Vl}{a j:Nat}{fi:List Nat}{f:Nat->En}{p:List Nat×(Nat->En)}{u:Int}
end
section
variable {see:Nat->Nat->Int->Prop}{dl:Int}{n s:Nat}{h:Int}{D D':Nat->Nat->Prop}{fi wi:List Nat}{f g:Nat->En}
end
end Dp
namespace My
open PySem PySem.Spec PyProof.Rows L2
section
variable {prog:Program}{w:World}{A:Around}{E:Value->Shared->Prop}{s:Shared}
def zwI {R:Result->Shared->Prop}{n:Nat}(hh:A.in1.handled=none)(hr:IsRange s.heap r a b c t u v)(hbig:Builtin.Range.small a b c=false)(hn:Builtin.Range.rangeSize a b c=n)(hlen:n<=2 ^ 24)(S:Addr)(res:Value)(c₀:Nat)(hS:s.heap.get? S=some { cls:=.type "list",data:=.seq #[] c₀ })(hR:∀ h' tk acc' c',(∀ b o,b≠S->s.heap.get? b=some o->h'.get? b=some o)->h'.get? S=some { cls:=.type "list",dict:=none,data:=.seq acc' c',slots:=#[] }->ItemsOf (λi v=>∃ t,v=.int (a+i*c) t) acc' n->R (.ok (.ret res)) { s with heap:=h',toks:=tk }) :
  wpAny (model prog w) A.in1 (Builtin.List.listExtendWith (.ref S) (.ref r) res)
   (λfin s'=>match fin with|.done f=>R (.ok f) s'|.again c'=>c'.quiet=true/\codeAny (model prog w) A c' R s') (λe s'=>R (.error e) s') s:=by
 have q1:S≠r:=λz=>by rw[z,hr]at hS;simp at hS
 have q2:S<s.heap.objs.size:=Heap.lt_size hS;have q3:S≠s.heap.objs.size:=Nat.ne_of_lt q2;have q4:S∉[s.heap.objs.size]:=λz=>q3 (List.mem_singleton.mp z)
 have W:=(Walks.longrange (prog:=prog) (w:=w) (A:=A.in1) hh s.heap.objs.size a c n).toS
 have go:∀ (h:Heap) (c₁ tk:Nat),IsLongIter h s.heap.objs.size (a+((0:Nat):Int)*c) ((n:Int)-((0:Nat):Int)) c->(∀ b o,b≠S->s.heap.get? b=some o->h.get? b=some o) ->
   h.get? S=some { cls:=.type "list",data:=.seq #[] c₁ }->codeAny (model prog w) A (.builtin "list.extend.loop" ⟨[.ref S,.ref s.heap.objs.size,res],[]⟩) R { s with heap:=h,toks:=tk }:=λh c₁ tk g1 g2 g3=>by
  refine codeAny_extend_loopS W (by rw[sizeLine_eq];lia) S q4 res n 0 _ #[] c₁ rfl (Nat.zero_le _) g1 g3 (ItemsOf.nil _) λs' acc' c' m1 m2 m3=>?_
  rw[Moved.eq_with m1];refine hR s'.heap s'.toks acc' c' (λx o z1 z2=>m1.heap x o (λz=>?_) (g2 x o z1 z2)) m2 m3;rcases List.mem_cons.mp z with z3|z3
  ·exact z1 z3
  ·exact absurd (Heap.lt_size z2) (by rw[List.mem_singleton.mp z3];exact Nat.lt_irrefl _)
 unfold Builtin.List.listExtendWith;refine wpAny_bind (wpAny_typeOf (T:="range") ⟨_,hr,rfl⟩ ?_);have e1:Builtin.List.listSameRef (.ref S) (.ref r)=false:=by simp[Builtin.List.listSameRef,q1]
 simp only[e1,show(Value.type "range"==Value.type "list")=false by decide,show(Value.type "range"==Value.type "tuple")=false by decide,Bool.or_false,Bool.false_eq_true,if_false];refine wpAny_bind (wpAny_pyIter_longrange hr hbig ?_);refine wpAny_bind (wpAny_holding (wpAny_hint_range (n:=n) (Heap.get?_push_of_some _ hr) hn hlen ?_))
 have i1:IsLongIter (s.heap.push { cls:=.type "longrange_iterator",data:=.fields #[rawInt a,rawInt (Builtin.Range.rangeSize a b c),rawInt c] }) s.heap.objs.size (a+((0:Nat):Int)*c) ((n:Int)-((0:Nat):Int)) c:=by show IsLongIter _ _ _ _ _;rw[hn];simpa using Heap.get?_push_size _ rfl
 have i2:=Heap.get?_push_of_some { cls:=.type "longrange_iterator",data:=.fields #[rawInt a,rawInt (Builtin.Range.rangeSize a b c),rawInt c] } hS;refine wpAny_ite_split (λ_=>?_) (λ_=>wpAny_pure ⟨plainId_quiet F.plain_extend_loop _,go _ c₀ _ i1 (λ_ _ _ z=>Heap.get?_push_of_some _ z) i2⟩);refine wpAny_bind (wpAny_rule ?_);refine wpAny_bind ?_;show wpAny _ A.in1 (updateSeq S (·.push .none) >>= λ_=>updateSeq S (·.pop)) _ _ _;refine wpAny_bind (wpAny_updateSeq i2 rfl ?_);have i3:=Heap.get?_update_self (Obj.mapSeq (·.push Value.none)) i2 rfl;refine wpAny_updateSeq (hz:=by seq_fits) i3 rfl ?_;have i4:=Heap.get?_update_self (Obj.mapSeq (·.pop)) i3 rfl;refine wpAny_pure ⟨plainId_quiet F.plain_extend_loop _,go _ _ _ ?_ (λx o z1 z2=>?_) i4⟩
 ·exact(Heap.get?_update_other _ _ q3).trans ((Heap.get?_update_other _ _ q3).trans i1)
 ·exact(Heap.get?_update_other _ _ (Ne.symm z1)).trans ((Heap.get?_update_other _ _ (Ne.symm z1)).trans (Heap.get?_push_of_some _ z2))
def zl1 {Q:Value->Shared->Prop}{n:Nat}(hh:A.in1.in1.handled=none)(hr:IsRange s.heap r a b c t u v)(hbig:Builtin.Range.small a b c=false)(hn:Builtin.Range.rangeSize a b c=n)(hlen:n<=2 ^ 24)(hQ:∀ h' tk acc' c',(∀ b o,s.heap.get? b=some o->h'.get? b=some o)->h'.get? s.heap.objs.size=some { cls:=.type "list",dict:=none,data:=.seq acc' c',slots:=#[] }->ItemsOf (λi v=>∃ t,v=.int (a+i*c) t) acc' n->Q (.ref s.heap.objs.size) { s with heap:=h',toks:=tk }) :
  wpAny (model prog w) A (call (.type "list") [.ref r]) Q E s:=by
 refine callType_codes (Q₁:=λx y=>x=.ref s.heap.objs.size/\y={ s with heap:=s.heap.push { cls:=.type "list",data:=.seq #[] } }) F.called_list (F.typeCall_list_1 _) F.entry_list_init (code_list_new _ ⟨rfl,rfl⟩) λx y z=>?_
 obtain⟨rfl,rfl⟩:=z;generalize hSz:s.heap.objs.size=S at *;have hS:(s.heap.push { cls:=.type "list",data:=.seq #[] }).get? S=some { cls:=.type "list",data:=.seq #[] }:=by rw[<- hSz];exact Heap.get?_push_size _ rfl
 refine⟨⟨_,hS,rfl⟩,F.args_list_init_2 _ _,?_⟩;have hr':=Heap.get?_push_of_some { cls:=.type "list",data:=.seq #[] } hr;have old:∀ b o,s.heap.get? b=some o->b≠S:=λb o e=>by rw[<- hSz];exact Nat.ne_of_lt (Heap.lt_size e)
 have up:∀ b o,s.heap.get? b=some o->(s.heap.push { cls:=.type "list",data:=.seq #[] }).get? b=some o:=λb o e=>Heap.get?_push_of_some _ e
 generalize s.heap.push { cls:=.type "list",data:=.seq #[] }=hp at hS hr' up;have nSr:S≠r:=λz=>by rw[z,hr']at hS;simp at hS
 show wpAny _ A.in1.in1 (do let old <- Builtin.List.listItems (.ref S);Builtin.List.listUpdate (.ref S) (λ_=>#[]);letGo old.toList.reverse;Builtin.List.listExtendWith (.ref S) (.ref r) .none) _ _ _;refine wpAny_bind ?_;unfold Builtin.List.listItems;refine wpAny_bind (wpAny_seqItems hS rfl (wpAny_pure ?_));show wpAny _ A.in1.in1 (updateSeq S (λ_=>#[]) >>= λ_=>letGo (#[]:Array Value).toList.reverse >>= λ_=>Builtin.List.listExtendWith (.ref S) (.ref r) .none) _ _ _;refine wpAny_bind (wpAny_updateSeq hS rfl ?_);have j1:=Heap.get?_update_self (Obj.mapSeq (λ_=>(#[]:Array Value))) hS rfl;have j2:∀ b o,b≠S->hp.get? b=some o->(hp.update S (Obj.mapSeq (λ_=>(#[]:Array Value)))).get? b=some o:=λb o hb e=>(Heap.get?_update_other _ _ (Ne.symm hb)).trans e
 refine wpAny_bind (wpAny_letGo ?_);refine zwI (A:=A.in1) hh (j2 r _ (Ne.symm nSr) hr') hbig hn hlen S .none _ j1 λh' tk acc' c' k1 k2 k3=>?_
 exact⟨rfl,hQ h' tk acc' c' (λb o e=>k1 b o (old b o e) (j2 b o (old b o e) (up b o e))) k2 k3⟩
end
def zwW (ta:TA):TE:=λU H Q=>ta U H λvs H1=>∃ i j:Int,vs=[.int i,.int j]/\j-i<=900/\∀ l,H1 l=none->Q (.ref l) (upd H1 l (.lst (((List.range (j-i).toNat).map λk:Nat=>i+(k:Int)).map V.int)))
def zt3 {P:Nat->Int}:∀ {n:Nat} {us:List Value},us.length=n->(∀ k v,us[k]?=some v->∃ t,v=Value.int (P k) t)->Vals (((List.range n).map P).map V.int) us:=λ{n us}=>by
 induction n generalizing us P with
 |zero=>intro h _;cases us with|nil=>exact .nil|cons _ _=>cases h
 |succ n ih =>
  intro h g;cases us with
  |nil=>cases h
  |cons u us =>
   have e0:List.map P (List.map Nat.succ (List.range n))=List.map (P ∘ Nat.succ) (List.range n):=by rw[List.map_map]
   rw[List.range_succ_eq_map,List.map_cons,List.map_cons,e0];obtain⟨t,e⟩:=g 0 u rfl;exact .cons ⟨t,e⟩ (ih (P:=P ∘ Nat.succ) (by simpa using h) λk v hk=>g (k+1) v (by simpa using hk))
def zl3 {X:Cx}{a b:Expr}{ta:TA}{p1 p2 pos1 pos2:Pos}(hc:X.calm=true)(hgl:Gl X "list")(hml:X.mg "list"=none)(hgr:Gl X "range")(hmr:X.mg "range"=none)(ha:PA X [a,b] ta)
    (hs:starEach [a,b] X.env=[(false,eval a X.env),(false,eval b X.env)]) (hs2:starEach [b] X.env=[(false,eval b X.env)]) :
    PE X (.Call (.Name "list" p1) [.Call (.Name "range" p2) [a,b] [] pos2] [] pos1) (zwW ta):=by
  have hs3:starEach [.Call (.Name "range" p2) [a,b] [] pos2] X.env=[(false,eval (.Call (.Name "range" p2) [a,b] [] pos2) X.env)]:=by rfl
  intro pins s U H Q I h;refine Call_ (zbB I hgl hml boot_list (PyProof.Rows.callWith_type1 ?_ (by rw[hs3];rfl) (by rfl)));rw[hs3];show wpAny _ X.A (spliced ((false,eval (.Call (.Name "range" p2) [a,b] [] pos2) X.env)::backTo pos1 [])) _ _ s;refine Calls.spliced_cons (Call_ (zbB I hgr hmr boot_range (PyProof.Rows.callWith_type1 (thn (ha pos2 pins s U H _ I h) λus s1 ⟨vs,H1,I1,r1,q1⟩=>?_) (by rw[hs,hs2]) (by rw[hs2];rfl))));obtain⟨i,j,e,hlen,q⟩:=q1;subst e;cases r1 with|cons r rr=>cases rr with|cons r' rr =>
  cases rr;obtain⟨t,rfl⟩:=r;obtain⟨t',rfl⟩:=r';refine call_range_2 (Calls.spliced_nil ?_);have I2:Inv X pins U H1 { s1 with heap:=s1.heap.push { cls:=.type "range",data:=.fields #[.int i t,.int j t',.int 1 s1.toks] },toks:=s1.toks+1 }:=I1.kept λb o e=>Heap.get?_push_of_some _ e
  have fin : ∀ h' tk acc' c', (∀ b o, (s1.heap.push { cls := .type "range", data := .fields #[.int i t, .int j t', .int 1 s1.toks] }).get? b = some o → h'.get? b = some o) →
      h'.get? (s1.heap.push { cls:=.type "range",data:=.fields #[.int i t,.int j t',.int 1 s1.toks] }).objs.size=some { cls:=.type "list",dict:=none,data:=.seq acc' c',slots:=#[] }->ItemsOf (λk v=>∃ t,v=Value.int (i+k*1) t) acc' (j-i).toNat ->
      EP X pins U Q (.ref (s1.heap.push { cls:=.type "range",data:=.fields #[.int i t,.int j t',.int 1 s1.toks] }).objs.size) { s1 with heap:=h',toks:=tk }:=λh' tk acc' c' hk he hacc=>by
    have hv:Vals (((List.range (j-i).toNat).map λk:Nat=>i+(k:Int)).map V.int) acc'.toList:=by
      refine zt3 (P:=λk:Nat=>i+(k:Int)) (by rw[Array.length_toList];exact hacc.1) λk v hv=>?_
      rw[Array.getElem?_toList]at hv;obtain⟨t,e⟩:=hacc.2 k v hv;exact⟨t,by rw[e,Int.mul_one]⟩
    exact⟨.ref _,_,I2.laid (t':=tk) (o:=.lst (((List.range (j-i).toNat).map λk:Nat=>i+(k:Int)).map V.int)) hk (Nat.le_refl _) ⟨by rw[List.length_map,List.length_map,List.length_range];exact Nat.le_of_lt (znH (by lia)),acc'.toList,c',hv,by rw[Array.toArray_toList];exact he⟩,rfl,q _ I2.fresh⟩
  have hz:Builtin.Range.rangeSize i j 1=((j-i).toNat:Nat):=by rw[rangeSize_one];split<;>lia
  cases hsm:Builtin.Range.small i j 1 with
  |true=>exact call_list_range (n:=(j-i).toNat) (I2.ok.hd hc) (IsRange.new ..) hsm hz (by lia) λh' tk acc' c' hk he hacc=>fin h' tk acc' c' hk he hacc
  |false=>exact zl1 (n:=(j-i).toNat) (I2.ok.hd hc) (IsRange.new ..) hsm hz (by lia) λh' tk acc' c' hk he hacc=>fin h' tk acc' c' hk he hacc
theorem zjX (xs:List α)(a:Nat):∀ m,a+m<=xs.length->((List.range m).map (a+·)).filterMap (xs[·]?)=(xs.drop a).take m
 |0,_=>by simp
 |m+1,h=>by rw[List.range_succ,List.map_append,List.filterMap_append,zjX xs a m (by lia),List.take_succ,List.getElem?_drop];simp only[List.map_cons,List.map_nil,List.filterMap_cons,List.filterMap_nil];rw[List.getElem?_eq_getElem (by lia)];rfl
def zvN (n:Nat)(lo hi:Option Int):Builtin.Str.strSliceIndices lo hi 1 n=(List.range (HT.sIx n n hi-HT.sIx n 0 lo)).map (HT.sIx n 0 lo+·):=by
 rw[<- sliceRange_one];unfold Builtin.Str.strSliceIndices
 have cl:∀ (o:Option Int) (d:Nat),(match o with|none=>(d:Int)|some i=>if(1:Int) > 0 then max 0 (min (if i<0 then i+(n:Int)else i) n)else max (-1) (min (if i<0 then i+(n:Int)else i) ((n:Int)-1)))=((HT.sIx n d o:Nat):Int):=λo d=>by
  cases o with
  |none=>rfl
  |some i =>
   show(if(1:Int) > 0 then _ else _)=(((if i<0 then(i+n).toNat else min i.toNat n):Nat):Int);rw[if_pos (by decide)];by_cases h:i<0
   ·rw[if_pos h,if_pos h];lia
   ·rw[if_neg h,if_neg h];lia
 have h1:=cl lo 0;have h2:=cl hi n;simp only[show((1:Int) > 0)=True by simp,if_true]at h1 h2 ⊢;rw[<- h1,<- h2];rfl
def zhk (n:Nat)(o:Option Int)(d:Nat)(hd:d<=n):HT.sIx n d o<=n:=by
  cases o with
  |none=>exact hd
  |some i =>show(if i<0 then(i+n).toNat else min i.toNat n)<=n;split<;>lia
def zmw (x:Str)(lo hi:Option Int):Txt.slice x lo hi=⟨((x.cps.toList.drop (HT.sIx x.length 0 lo)).take (HT.sIx x.length x.length hi-HT.sIx x.length 0 lo)).toArray⟩:=by
 have hl:x.cps.toList.length=x.length:=Array.length_toList;have b1:=zhk x.length lo 0 (Nat.zero_le _);have b2:=zhk x.length hi x.length (Nat.le_refl _);unfold Txt.slice;rw[zvN]
 have fm:((List.range (HT.sIx x.length x.length hi-HT.sIx x.length 0 lo)).map (HT.sIx x.length 0 lo+·)).filterMap (x.cps[·]?)=(x.cps.toList.drop (HT.sIx x.length 0 lo)).take (HT.sIx x.length x.length hi-HT.sIx x.length 0 lo):=by
  rcases Nat.lt_or_ge (HT.sIx x.length x.length hi) (HT.sIx x.length 0 lo)with g|g
  ·rw[show HT.sIx x.length x.length hi-HT.sIx x.length 0 lo=0 by lia];simp
  ·rw[<- zjX x.cps.toList _ _ (by rw[hl];lia)];congr 1;funext i;rw[Array.getElem?_toList]
 split
 ·rename_i h;rw[Bool.and_eq_true]at h;have h2:=eq_of_beq h.2;rw[List.length_map,List.length_range]at h2;have z1:HT.sIx x.length 0 lo=0:=by lia
  rw[h2,z1,List.drop_zero,List.take_of_length_le (by lia)]
 ·rw[fm]
def zwg:V->Option Int->Option Int->Hp->VK->Prop:=λx lo hi H Q=>∃ z:Str,x=.str z/\z.length<=sizeLine/\Q (.str ⟨((z.cps.toList.drop (HT.sIx z.length 0 lo)).take (HT.sIx z.length z.length hi-HT.sIx z.length 0 lo)).toArray⟩) H
def ztq {X:Cx}:SlR X zwg:=by
 intro pins s U H x v vl vu lo hi sl Q I rx hs pl pu h;obtain⟨z,rfl,hz,q⟩:=h;obtain⟨t,rfl⟩:=rx;refine⟨"str",_,F.slot_str_getitem.lookup,typeIs_str _ _ _,?_⟩
 have go:∀ (l u:Option (Int×Tok)),l.map (·.1)=lo->u.map (·.1)=hi->s.heap.IsSlice sl l u none->wpAny (model X.prog X.w) X.A (getItem (.str z t) (.ref sl)) (EP X pins U Q) X.xe s:=λl u el eu is=>by refine wpAny_getItem_str_slice is rfl ?_;unfold sliceMade slicePicked;rw[el,eu];refine post_val_or_str ⟨Nat.le_trans (Txt.slice_le z lo hi) hz,λt' k=>?_⟩;show EP X pins U Q (.str (Txt.slice z lo hi) t') _;rw[zmw];exact⟨.str _,H,I.tok _,⟨t',rfl⟩,q⟩
 obtain⟨o,ho,hc,hd⟩:=hs;cases pl with
 |none =>
  cases pu with
  |none=>exact go none none rfl rfl ⟨o,ho,hc,hd⟩
  |int j tj=>exact go none (some (j,tj)) rfl rfl ⟨o,ho,hc,hd⟩
 |int i ti =>
  cases pu with
  |none=>exact go (some (i,ti)) none rfl rfl ⟨o,ho,hc,hd⟩
  |int j tj=>exact go (some (i,ti)) (some (j,tj)) rfl rfl ⟨o,ho,hc,hd⟩
section
open AutoSeq1 (wpAny_loadPart')
variable {prog:Program}{w:World}{A:Around}{E:Value->Shared->Prop}{s:Shared}
def zht {it t:Addr}{i:Nat}{items:Array Value}{x:Value}{Q:Value->Shared->Prop}(hit:s.heap.IsTupleIter it t i)(ht:s.heap.IsTuple t items)(hx:items[i]?=some x)
  (hQ:∀ h',h'.IsTupleIter it t (i+1)->Heap.SameBut it s.heap h'->Q x { s with heap:=h' }):wpAny (model prog w) A (Builtin.SmallTypes.nextOf (.ref it)) Q E s:=by
 obtain⟨o,ho,hc,hd⟩:=id hit;obtain⟨ol,hol,_,nl,hdl⟩:=ht;unfold Builtin.SmallTypes.nextOf;refine wpAny_bind (wpAny_callSpecial?_slot (name:=Str.ofString "__next__") hit.typeIs F.slot_tuple_iterator_next (wpAny_call_entry F.slot_tuple_iterator_next hit.typeIs F.entry_tuple_iterator_next ?_ (F.args_tuple_iterator_next_1 _)));show wpAny _ _ (field (.ref it) 0 >>= _) _ _ s;refine wpAny_bind (wpAny_field ho hd (x:=.ref t) rfl ?_);show wpAny _ _ (if(Value.ref t==Value.none)=true then _ else _) _ _ s;rw[if_neg (show ¬ ((Value.ref t==Value.none)=true)from Bool.false_ne_true)];show wpAny _ _ (field (.ref it) 1 >>= _) _ _ s;refine wpAny_bind (wpAny_field ho hd (x:=.int i 0) rfl ?_);show wpAny _ _ (seqItems? (.ref t) >>= _) _ _ s;refine wpAny_bind (wpAny_seqItems hol hdl ?_);simp only[Int.toNat_natCast,hx];refine wpAny_bind (wpAny_setField ho hd (by simp) (wpAny_pure ⟨x,rfl,wpAny_pure (hQ _ ?_ (Heap.SameBut.update ..))⟩));exact⟨_,Heap.get?_update_self _ ho (Obj.isFreed_of_fields (Obj.data_mapFields hd _)),(Obj.cls_mapFields ..).trans hc,by rw[Obj.data_mapFields hd];simp[rawInt]⟩
def zfO {it t:Addr}{i:Nat}{items:Array Value}{Q:Value->Shared->Prop}(hh:A.handled=none)(hit:s.heap.IsTupleIter it t i)(ht:s.heap.IsTuple t items)(hx:items[i]?=none)
  (hE:∀ h' e,Heap.ExtBut it s.heap h'->(∃ o,h'.get? e=some o/\o.cls=.type "StopIteration")->E (.ref e) { s with heap:=h' }):wpAny (model prog w) A (Builtin.SmallTypes.nextOf (.ref it)) Q E s:=by
 obtain⟨o,ho,hc,hd⟩:=id hit;obtain⟨ol,hol,_,nl,hdl⟩:=ht;unfold Builtin.SmallTypes.nextOf;refine wpAny_bind (wpAny_callSpecial?_slot (name:=Str.ofString "__next__") hit.typeIs F.slot_tuple_iterator_next (wpAny_call_entry F.slot_tuple_iterator_next hit.typeIs F.entry_tuple_iterator_next ?_ (F.args_tuple_iterator_next_1 _)));show wpAny _ _ (field (.ref it) 0 >>= _) _ _ s;refine wpAny_bind (wpAny_field ho hd (x:=.ref t) rfl ?_);show wpAny _ _ (if(Value.ref t==Value.none)=true then _ else _) _ _ s;rw[if_neg (show ¬ ((Value.ref t==Value.none)=true)from Bool.false_ne_true)];show wpAny _ _ (field (.ref it) 1 >>= _) _ _ s;refine wpAny_bind (wpAny_field ho hd (x:=.int i 0) rfl ?_);show wpAny _ _ (seqItems? (.ref t) >>= _) _ _ s;refine wpAny_bind (wpAny_seqItems hol hdl ?_);simp only[Int.toNat_natCast,hx];refine wpAny_bind (wpAny_rule (wpAny_bind (wpAny_setField ho hd (by simp) ?_)));show wpAny _ _ (newExc (.type "StopIteration") [] >>= _) _ _ _;refine wpAny_bind ?_;simp only[newExc,newTuple];refine wpAny_bind (wpAny_newObj_type ?_ (by size_fits));refine wpAny_bind (m:=firstArgMember _ _) (wpAny_of_eq (a:=Value.none) (by first|rfl|(simp only[firstArgMember];rfl)) ?_);refine wpAny_newObj_type ?_ (by size_fits);simp only[raiseNew];refine wpAny_bind (wpAny_handled ?_)
 first|rw[show A.in1.handled=none from hh]|rw[hh]
 refine wpAny_bind (wpAny_pure (wpAny_throw ?_));exact hE _ _ (((Heap.SameBut.update ..).extBut.push _).push _) ⟨_,Heap.get?_push_size _ rfl,rfl⟩
def zsi (hh:A.handled=none)(it t:Addr)(hne:t≠it)(items:Array Value) :
  Draws prog w A it [it,t] items.size (λi v=>items[i]?=some v) (λi h=>h.IsTupleIter it t i/\h.IsTuple t items) where
 live:=λ_ _ st=>by obtain⟨o,ho,_⟩:=st.1;exact⟨o,ho⟩
 frame:=λ_ _ _ st hk=>⟨by obtain⟨o,ho,r⟩:=st.1;exact⟨o,hk it (by simp) o ho,r⟩,by obtain⟨o,ho,r⟩:=st.2;exact⟨o,hk t (by simp) o ho,r⟩⟩
 item:=λi s Q E hi st hQ=>zht st.1 st.2 (x:=items[i]) (by simp[hi]) λh' hit' hs'=>hQ _ h' s.toks (by simp[hi]) ⟨hit',st.2.extBut hs'.extBut hne⟩ hs'
 done:=λs Q E st hE=>zfO hh st.1 st.2 (by simp) hE
def ztz (hh:A.handled=none)(it t:Addr)(items:Array Value)(i:Nat)(hx:items[i]?=none) :
  Draws prog w A it [it,t] 0 (λ_ _=>True) (λ_ h=>h.IsTupleIter it t i/\h.IsTuple t items) where
 live:=λ_ _ st=>by obtain⟨o,ho,_⟩:=st.1;exact⟨o,ho⟩
 frame:=λ_ _ _ st hk=>⟨by obtain⟨o,ho,r⟩:=st.1;exact⟨o,hk it (by simp) o ho,r⟩,by obtain⟨o,ho,r⟩:=st.2;exact⟨o,hk t (by simp) o ho,r⟩⟩
 item:=λi s Q E hi=>absurd hi (Nat.not_lt_zero _)
 done:=λs Q E st hE=>zfO hh st.1 st.2 hx hE
def newT (l:Addr)(items:Array Value)(n:Nat)(dct:Option Addr)(sl:Array (Option Value)) :
    Meets (Builtin.«enumerate.__new__» ⟨[.type "enumerate",.ref l],[]⟩) (λ_ R s=>s.heap.get? l=some { cls:=.type "tuple",dict:=dct,data:=.seq items n,slots:=sl } /\
      R (.ok (.ret (.ref (s.heap.push { cls:=.type "tuple_iterator",data:=.fields #[.ref l,.int 0 0] }).objs.size)))
        { s with heap:=(s.heap.push { cls:=.type "tuple_iterator",data:=.fields #[.ref l,.int 0 0] }).push { cls:=.type "enumerate",data:=.fields #[.none,.bool false,.ref s.heap.objs.size,rawInt 0,.none,.none] } }) :=
  .of_wp λprog w A R s h=>by
    obtain⟨hp,g,d,tk,os⟩:=s;obtain⟨hl,h⟩:=h;have hsub:=sub_enumerate;have hL:Heap.IsTuple (Shared.heap ⟨hp,g,d,tk,os⟩) l items:=⟨_,hl,rfl,n,rfl⟩
    wp_walk using wpAny_loadPart' hl
    refine wpAny_stack_any λst=>wpAny_pure ?_
    split
    . rename_i c _ _ _ _ _;cases(c==Value.type "enumerate")
      . wp_walk using wpAny_loadPart' hl,wpAny_pyIter_tuple hL
        exact⟨_,rfl,h⟩
      . wp_walk using wpAny_loadPart' hl,wpAny_pyIter_tuple hL
        exact⟨_,rfl,h⟩
    . wp_walk using wpAny_loadPart' hl,wpAny_pyIter_tuple hL
      exact⟨_,rfl,h⟩
def zuD {l:Addr}{items:Array Value}{Q:Value->Shared->Prop}(hL:s.heap.IsTuple l items)
    (h:∀ h',IsEnum h' (s.heap.objs.size+1) s.heap.objs.size 0 .none->h'.IsTupleIter s.heap.objs.size l 0->h'.objs.size=s.heap.objs.size+2 ->
      (∀ b o,s.heap.get? b=some o->h'.get? b=some o)->Q (.ref (s.heap.objs.size+1)) { s with heap:=h' }):wpAny (model prog w) A (call (.type "enumerate") [.ref l]) Q E s:=by
  obtain⟨⟨c,dct,dt,sl⟩,hl,hc,n,hd⟩:=hL
  replace hc:c=.type "tuple":=hc
  replace hd:dt=.seq items n:=hd
  subst hc hd;refine callType_new F.called_enumerate (by decide) (F.typeCall_enumerate_1 _) (F.newCall_enumerate_1 _) (λobj=>F.args_object_init_2 obj _) F.entry_enumerate_new (newT l items n dct sl) ⟨hl,?_⟩;have hz:(s.heap.push { cls:=.type "tuple_iterator",data:=.fields #[.ref l,.int 0 0] }).objs.size=s.heap.objs.size+1:=Heap.size_push ..;show _/\_;rw[hz]
  have he : IsEnum ((s.heap.push { cls := .type "tuple_iterator", data := .fields #[.ref l, .int 0 0] }).push
      { cls:=.type "enumerate",data:=.fields #[.none,.bool false,.ref s.heap.objs.size,rawInt 0,.none,.none] }) (s.heap.objs.size+1) s.heap.objs.size 0 .none:=by
    have:=Heap.get?_push_size (s.heap.push { cls:=.type "tuple_iterator",data:=.fields #[.ref l,.int 0 0] })
      (o:={ cls:=.type "enumerate",data:=.fields #[.none,.bool false,.ref s.heap.objs.size,rawInt 0,.none,.none] }) rfl
    rw[hz]at this;exact this
  exact⟨⟨_,he,rfl⟩,h _ he ⟨_,Heap.get?_push_of_some _ (Heap.get?_push_size _ rfl),rfl,rfl⟩ (by rw[Heap.size_push,hz]) λb o x=>Heap.get?_push_of_some _ (Heap.get?_push_of_some _ x)⟩
end
noncomputable def znS (K:PySem.W.Frag) (l:Addr):It :=
  ⟨λi H=>∃ xs x,SqT K H l xs/\xs[i]?=some x,
   λi H v H'=>∃ p,v=.ref p/\H p=none/\∀ xs x,SqT K H l xs->xs[i]?=some x->H'=upd H p (.tup [.int i,x]),
   λi H=>∃ xs,SqT K H l xs/\xs.length<=i⟩
def zmt {h:Heap}{a b:Addr}{o u:Obj}(ha:h.get? a=some o)(hb:h.get? b=some u)(hc:o.cls≠u.cls):a≠b:=λe=>by subst e;rw[ha]at hb;cases hb;exact hc rfl
def zl7 {P:Program}{w:World}{K:PySem.W.Frag}{es:List Expr}{kk:Nat}{pos:Pos}{e it l:Addr}(hne:e≠it) :
  Turn P w K (.Tuple es kk pos) (znS K l) [e,it] e (λi h=>(∃ old,IsEnum h e it i old)/\h.IsTupleIter it l i) where
 mem:=by simp
 obj:=λi h st b hb=>by
  obtain⟨⟨old,he⟩,⟨o1,h1,_,h1d⟩⟩:=st;simp only[List.mem_cons,List.not_mem_nil,or_false]at hb;rcases hb with rfl|rfl
  ·exact⟨_,he,λv q=>by cases(show Data.fields _=Data.cell v from q)⟩
  ·exact⟨_,h1,λv q=>by rw[h1d]at q;cases q⟩
 keep:=λi h h' st k=>by obtain⟨⟨old,he⟩,⟨o,ho,r⟩⟩:=st;exact⟨⟨old,k e (by simp) _ he⟩,⟨o,k it (by simp) o ho,r⟩⟩
 item:=by
  intro X hP hw hK hc i pins s U H E I hf st hg;subst hP hw hK;obtain⟨⟨old,he⟩,h1⟩:=st;obtain⟨xs,x,hx1,hx⟩:=hg;obtain⟨its,rx,px,zx⟩:=I.tuple hx1;obtain⟨u,hu,ru⟩:=Vals.get rx hx;have pt:s.heap.IsTuple l its.toArray:=px;obtain⟨oi,ei,ci,_⟩:=id h1;obtain⟨ol,el,cl,_⟩:=id pt;have n1:l≠it:=zmt el ei (by rw[cl,ci];decide);have n2:e≠l:=zmt he el (by rw[cl];show Value.type "enumerate"≠Value.type "tuple";decide)
  have hlt:i<its.toArray.size:=by have:=(List.getElem?_eq_some_iff.mp hu).1;simpa using this
  refine wpAny_pyNext_enum_itemD (zsi (A:=X.A.in1) (show X.A.in1.handled=none from I.ok.hd hc) it l n1 its.toArray) he ⟨h1,pt⟩ hlt hne (by simp[hne,n2]) λu' h' tk hP a1 a2 a3 a4 hk=>?_
  have eu:u'=u:=by have hP':its.toArray[i]?=some u':=hP;rw[List.getElem?_toArray,hu]at hP';cases hP';rfl
  subst eu;refine⟨_,rfl,wpAny_letOwnedTupleGo_enum (s:={ s with heap:=h',toks:=tk+1 }) a1 λh'' he'' hs''=>?_⟩;have lt:∀ {c o},s.heap.get? c=some o->s.heap.objs.size≠c:=λq=>Nat.ne_of_gt (Heap.lt_size q)
  have k2:∀ b u,b∉[e,it]->s.heap.get? b=some u->h''.get? b=some u:=λb u hb q=>by simp only[List.mem_cons,List.not_mem_nil,or_false,not_or]at hb;exact hs''.extBut b u hb.1 (hk b u hb.1 hb.2 q)
  have new:h''.get? s.heap.objs.size=some { cls:=.type "tuple",data:=.seq #[.int i tk,u'] }:=hs''.extBut _ _ (lt he) a3;refine⟨.ref s.heap.objs.size,upd H s.heap.objs.size (.tup [.int i,x]),I.turnNew (t':=tk+1) hf k2 (Nat.le_refl _) ⟨by show 2<=sizeLine;decide,[.int i tk,u'],.cons ⟨_,rfl⟩ (.cons ru .nil),_,new,rfl,_,rfl⟩,rfl,⟨_,rfl,I.fresh,?_⟩,?_,λb hb=>?_⟩
  ·intro xs' x' hx1' hx';cases I.tuple_inj hx1 hx1';rw[hx]at hx';cases hx';rfl
  ·exact⟨⟨_,he''⟩,a2.1.extBut hs''.extBut (Ne.symm hne)⟩
  ·have:∃ o,s.heap.get? b=some o:=by
    simp only[List.mem_cons,List.not_mem_nil,or_false]at hb;rcases hb with rfl|rfl
    ·exact⟨_,he⟩
    ·exact⟨_,ei⟩
   obtain⟨o,q⟩:=this;rw[zP (lt q).symm];exact(hf b hb).1
 done:=by
  intro X hP hw hK hc i pins s U H E I hf st hg;subst hP hw hK;obtain⟨⟨old,he⟩,h1⟩:=st;obtain⟨xs,hx1,hl⟩:=hg;obtain⟨its,rx,px,zx⟩:=I.tuple hx1;have n1:=rx.length;have pt:s.heap.IsTuple l its.toArray:=px;have hnone:its.toArray[i]?=none:=by rw[List.getElem?_toArray];exact List.getElem?_eq_none (by lia)
  refine wpAny_pyNext_enum_endD (ztz (A:=X.A.in1) (show X.A.in1.handled=none from I.ok.hd hc) it l its.toArray i hnone) he ⟨h1,pt⟩ λh' hk=>⟨rfl,I.turnedL (t':=s.toks) hf λb u hb q=>?_⟩
  simp only[List.mem_cons,List.not_mem_nil,or_false,not_or]at hb;exact hk b u hb.2 q
 self:=λ_ _ _ _ _ st h=>by obtain⟨⟨old,he⟩,_⟩:=st;exact wpAny_pyIter_enum he h
section
variable {X:Cx}
def zsD (K:PySem.W.Frag)(ta:TA):TI:=λU H R=>ta U H λvs H1=>∃ l,vs=[.ref l]/\(((∃ xs,SqL K H1 l xs)/\R (Ite K l) H1)\/((∃ xs,SqT K H1 l xs)/\R (znS K l) H1))
def zn3 {es:List Expr}{kk:Nat}{tpos:Pos}{a:Expr}{ta:TA}{p pos:Pos}(hg:Gl X "enumerate")(hm:X.mg "enumerate"=none)(ha:PA X [a] ta)(hs:autoParam (starEach [a] X.env=[(false,eval a X.env)]) zL) :
    PI X (.Tuple es kk tpos) (.Call (.Name "enumerate" p) [a] [] pos) (zsD X.K ta):=by
  intro pins s U H R I h;refine Call_ (zbB I hg hm boot_enumerate (PyProof.Rows.callWith_type1 (thn (ha pos pins s U H _ I h) λus s1 ⟨vs,H1,I1,r1,q1⟩=>?_) hs rfl));obtain⟨l,e,q⟩:=q1;subst e;obtain⟨u,rfl,ru⟩:=vals1 r1;cases ru;rcases q with⟨⟨xs,hx⟩,q⟩|⟨⟨xs,hx⟩,q⟩
  . obtain⟨its,rx,px,zx⟩:=I1.list hx;refine call_enumerate_list px.isList λh' he hit hsz hk=>?_
    have I2:Inv X pins U H1 { s1 with heap:=h' }:=I1.kept (t':=s1.toks) hk;refine wpAny_pyIter_enum (s:={ s1 with heap:=h' }) he ?_;refine⟨_,_,_,_,H1,rfl,I2,zmF (Nat.ne_of_gt (Nat.lt_succ_self _)),⟨⟨_,he⟩,hit⟩,λb hb=>?_,q⟩
    have hb':s1.heap.objs.size<=b:=by simp only[List.mem_cons,List.not_mem_nil,or_false]at hb;rcases hb with rfl|rfl<;>first|exact Nat.le_add_right _ _|exact Nat.le_refl _
    exact I1.fpOk hb' (I1.hok.fresh hb')
  . obtain⟨its,rx,px,zx⟩:=I1.tuple hx;have pt:s1.heap.IsTuple l its.toArray:=px;refine zuD pt λh' he hit hsz hk=>?_
    have I2:Inv X pins U H1 { s1 with heap:=h' }:=I1.kept (t':=s1.toks) hk;refine wpAny_pyIter_enum (s:={ s1 with heap:=h' }) he ?_;refine⟨_,_,_,_,H1,rfl,I2,zl7 (Nat.ne_of_gt (Nat.lt_succ_self _)),⟨⟨_,he⟩,hit⟩,λb hb=>?_,q⟩
    have hb':s1.heap.objs.size<=b:=by simp only[List.mem_cons,List.not_mem_nil,or_false]at hb;rcases hb with rfl|rfl<;>first|exact Nat.le_add_right _ _|exact Nat.le_refl _
    exact I1.fpOk hb' (I1.hok.fresh hb')
end
def za5:Bool->Heap->Addr->Addr->Nat->Prop
 |true,h,it,l,k=>h.IsListIter it l k
 |false,h,it,l,k=>h.IsTupleIter it l k
def zbC:Bool->Heap->Addr->Array Value->Prop
 |true,h,l,xs=>h.IsList l xs
 |false,h,l,xs=>h.IsTuple l xs
def za5.grow (x:za5 b h it l k)(e:Heap.ExtBut c h h')(n:it≠c):za5 b h' it l k:=by
 cases b
 ·exact Heap.IsTupleIter.extBut (show h.IsTupleIter it l k from x) e n
 ·exact Heap.IsListIter.extBut (show h.IsListIter it l k from x) e n
def zbC.grow (x:zbC b h l xs)(e:Heap.ExtBut c h h')(n:l≠c):zbC b h' l xs:=by
 cases b
 ·exact Heap.IsTuple.extBut (show h.IsTuple l xs from x) e n
 ·exact Heap.IsList.extBut (show h.IsList l xs from x) e n
def za5.obj (x:za5 b h it l k):∃ o,h.get? it=some o/\(o.cls=.type "list_iterator"\/o.cls=.type "tuple_iterator")/\∃ vs,o.data=.fields vs:=by
 cases b
 ·obtain⟨o,ho,hc,hd⟩:h.IsTupleIter it l k:=x;exact⟨o,ho,.inr hc,_,hd⟩
 ·obtain⟨o,ho,hc,hd⟩:h.IsListIter it l k:=x;exact⟨o,ho,.inl hc,_,hd⟩
def za5.at {h':Heap}(x:za5 b h it l k)(e:∀ o,h.get? it=some o->h'.get? it=some o):za5 b h' it l k:=by
 cases b
 ·obtain⟨o,ho,hc,hd⟩:h.IsTupleIter it l k:=x;exact(⟨o,e o ho,hc,hd⟩:h'.IsTupleIter it l k)
 ·obtain⟨o,ho,hc,hd⟩:h.IsListIter it l k:=x;exact(⟨o,e o ho,hc,hd⟩:h'.IsListIter it l k)
def zbC.lt (x:zbC b h l xs):l<h.objs.size:=by
 cases b
 ·obtain⟨o,ho,_⟩:h.IsTuple l xs:=x;exact Heap.lt_size ho
 ·obtain⟨o,ho,_⟩:h.IsList l xs:=x;exact Heap.lt_size ho
section
variable {prog:Program}{w:World}{A:Around}{E:Value->Shared->Prop}{s:Shared}
def zeX {items:Array Value}{x:Value}{Q:Value->Shared->Prop}(hit:za5 b s.heap it t i)(ht:zbC b s.heap t items)(hx:items[i]?=some x)(hQ:∀ h',za5 b h' it t (i+1)->Heap.SameBut it s.heap h'->Q x { s with heap:=h' }):wpAny (model prog w) A (Builtin.SmallTypes.nextOf (.ref it)) Q E s:=by
 cases b
 ·exact zht hit ht hx hQ
 ·exact wpAny_nextOf_list_item hit ht hx hQ
def ziA {items:Array Value}{Q:Value->Shared->Prop}(hh:A.handled=none)(hit:za5 b s.heap it t i)(ht:zbC b s.heap t items)(hx:items[i]?=none)(hE:∀ h' e,Heap.ExtBut it s.heap h'->(∃ o,h'.get? e=some o/\o.cls=.type "StopIteration")->E (.ref e) { s with heap:=h' }):wpAny (model prog w) A (Builtin.SmallTypes.nextOf (.ref it)) Q E s:=by
 cases b
 ·exact zfO hh hit ht hx hE
 ·exact wpAny_nextOf_list_end hh hit ht hx hE
def zmc {TI TO:Addr}{x y:Value}{Q:Option Value->Shared->Prop}(D:ZipApart z TI TO i1 i2 l1 l2)(hz:IsZip s.heap z TI TO .none)(hTI:IsPair s.heap TI (.ref i1) (.ref i2))(hTO:IsPair s.heap TO a b)(h1:za5 b1 s.heap i1 l1 k)(h2:za5 b2 s.heap i2 l2 k)(hl1:zbC b1 s.heap l1 xs)(hl2:zbC b2 s.heap l2 ys)(hx:xs[k]?=some x)(hy:ys[k]?=some y)(hQ:∀ h',IsZip h' z TI TO (rawInt s.heap.objs.size)->IsPair h' TO x y->za5 b1 h' i1 l1 (k+1)->za5 b2 h' i2 l2 (k+1)->IsPair h' s.heap.objs.size x y ->
   (∀ c o,c≠z->c≠TO->c≠i1->c≠i2->s.heap.get? c=some o->h'.get? c=some o)->Q (some (.ref s.heap.objs.size)) { s with heap:=h' }):wpAny (model prog w) A (pyNext (.ref z)) Q E s:=by
 have hT:s.TypeIs (.ref z) "zip":=⟨_,hz,rfl⟩
 unfold pyNext;refine wpAny_bind (wpAny_attempt (wpAny_callSpecial?_slot (name:=Str.ofString "__next__") hT F.slot_zip_next (wpAny_call_entry F.slot_zip_next hT F.entry_zip_next ?_ (F.args_zip_next_1 _))));show wpAny _ _ (field (.ref z) 2 >>= _) _ _ _;refine wpAny_bind (wpAny_field hz rfl (x:=.bool false) rfl ?_);show wpAny _ _ (field (.ref z) 3 >>= _) _ _ _;refine wpAny_bind (wpAny_field hz rfl (x:=.ref TI) rfl (wpAny_bind (wpAny_seqItems hTI rfl ?_)));show wpAny _ _ (Builtin.SmallTypes.ownedTupleIsFree (.ref z) >>= _) _ _ _;refine wpAny_bind ?_;unfold Builtin.SmallTypes.ownedTupleIsFree;refine wpAny_bind (wpAny_field hz rfl (x:=.none) rfl (wpAny_pure ?_));simp only[if_true];refine wpAny_bind (wpAny_rule (wpAny_bind (wpAny_field hz rfl (x:=.ref TO) rfl (wpAny_bind (wpAny_setField_rec hz (by simp) λg1 z1 e1=>?_)))))
 replace z1:IsZip g1 z TI TO .ellipsis:=z1
 refine wpAny_bind ?_;simp only[List.zipIdx_cons,List.zipIdx_nil,List.forIn_cons,List.forIn_nil];refine wpAny_bind (wpAny_bind (wpAny_onRaise ?_));show wpAny _ _ (Builtin.SmallTypes.nextOf (.ref i1) >>= _) _ _ _;refine wpAny_bind (zeX (h1.grow e1.extBut D.i1z) (hl1.grow e1.extBut D.l1z) hx λg2 t1 e2=>wpAny_pure ?_);have p2:IsPair g2 TO a b:=e2.extBut _ _ D.TOi1 (e1.extBut _ _ D.TOz hTO);refine wpAny_bind (wpAny_seqItems p2 rfl (wpAny_bind (wpAny_updateSeq_pair p2 λg3 p3 e3=>wpAny_bind (wpAny_letGo (wpAny_pure ?_)))))
 replace p3:IsPair g3 TO x b:=p3
 refine wpAny_bind (wpAny_bind (wpAny_onRaise ?_));show wpAny _ _ (Builtin.SmallTypes.nextOf (.ref i2) >>= _) _ _ _;refine wpAny_bind (zeX (((h2.grow e1.extBut D.i2z).grow e2.extBut D.i12.symm).grow e3.extBut D.TOi2.symm) (((hl2.grow e1.extBut D.l2z).grow e2.extBut D.l2i1).grow e3.extBut D.l2TO) hy λg4 t2 e4=>wpAny_pure ?_);have p4:IsPair g4 TO x b:=e4.extBut _ _ D.TOi2 p3;refine wpAny_bind (wpAny_seqItems p4 rfl (wpAny_bind (wpAny_updateSeq_pair p4 λg5 p5 e5=>wpAny_bind (wpAny_letGo (wpAny_pure (wpAny_pure ?_))))))
 replace p5:IsPair g5 TO x y:=p5
 refine wpAny_bind (wpAny_seqItems p5 rfl (wpAny_bind (wpAny_newTuple ?_)));have sz:g5.objs.size=s.heap.objs.size:=by rw[e5.1,e4.1,e3.1,e2.1,e1.1]
 have z5:IsZip g5 z TI TO .ellipsis:=e5.extBut _ _ D.TOz.symm (e4.extBut _ _ D.i2z.symm (e3.extBut _ _ D.TOz.symm (e2.extBut _ _ D.i1z.symm z1)));have k5:∀ c o,c≠z->c≠TO->c≠i1->c≠i2->s.heap.get? c=some o->g5.get? c=some o:=λc o c1 c2 c3 c4 e=>e5.extBut _ _ c2 (e4.extBut _ _ c4 (e3.extBut _ _ c2 (e2.extBut _ _ c3 (e1.extBut _ _ c1 e))))
 have u1:za5 b1 g5 i1 l1 (k+1):=((t1.grow e3.extBut D.TOi1.symm).grow e4.extBut D.i12).grow e5.extBut D.TOi1.symm;have u2:za5 b2 g5 i2 l2 (k+1):=t2.grow e5.extBut D.TOi2.symm;have zl:z<g5.objs.size:=Heap.lt_size z5;show wpAny _ _ (Builtin.SmallTypes.ownedTupleHandOut (.ref z) (.ref g5.objs.size) >>= _) _ _ _;refine wpAny_bind ?_;unfold Builtin.SmallTypes.ownedTupleHandOut;have z6:IsZip (g5.push { cls:=.type "tuple",data:=.seq #[x,y] }) z TI TO .ellipsis:=Heap.get?_push_of_some _ z5;refine wpAny_bind (wpAny_setField_rec z6 (by simp) λg7 z7 e7=>?_)
 replace z7:IsZip g7 z TI TO (rawInt g5.objs.size):=z7
 refine wpAny_setField_rec z7 (by simp) λg8 z8 e8=>?_
 replace z8:IsZip g8 z TI TO (rawInt g5.objs.size):=z8
 have up:∀ c o,c≠z->g5.get? c=some o->g8.get? c=some o:=λc o c1 e=>e8.extBut _ _ c1 (e7.extBut _ _ c1 (Heap.get?_push_of_some _ e))
 have t8:IsPair g8 g5.objs.size x y:=e8.extBut _ _ (Nat.ne_of_gt zl) (e7.extBut _ _ (Nat.ne_of_gt zl) (Heap.get?_push_size _ rfl));rw[sz]at z8 t8;refine wpAny_pure ⟨_,rfl,wpAny_pure ?_⟩;show Q (some (.ref g5.objs.size)) _;rw[sz];exact hQ g8 z8 (up _ _ D.TOz p5) (u1.at λo e=>up _ o D.i1z e) (u2.at λo e=>up _ o D.i2z e) t8 λc o c1 c2 c3 c4 e=>up c o c1 (k5 c o c1 c2 c3 c4 e)
def zmU {TI TO:Addr}{Q:Option Value->Shared->Prop}(hh:A.handled=none)(D:ZipApart z TI TO i1 i2 l1 l2)(hz:IsZip s.heap z TI TO .none)(hTI:IsPair s.heap TI (.ref i1) (.ref i2))(hTO:IsPair s.heap TO a b)(h1:za5 b1 s.heap i1 l1 k)(h2:za5 b2 s.heap i2 l2 k)(hl1:zbC b1 s.heap l1 xs)(hl2:zbC b2 s.heap l2 ys)(hend:xs[k]?=none\/ys[k]?=none)(hQ:∀ h',(∀ c o,c≠z->c≠TO->c≠i1->c≠i2->s.heap.get? c=some o->h'.get? c=some o)->Q none { s with heap:=h' }):wpAny (model prog w) A (pyNext (.ref z)) Q E s:=by
 have hT:s.TypeIs (.ref z) "zip":=⟨_,hz,rfl⟩
 unfold pyNext;refine wpAny_bind (wpAny_attempt (wpAny_callSpecial?_slot (name:=Str.ofString "__next__") hT F.slot_zip_next (wpAny_call_entry F.slot_zip_next hT F.entry_zip_next ?_ (F.args_zip_next_1 _))))
 have out:∀ h' e,(∀ c o,c≠z->c≠TO->c≠i1->c≠i2->s.heap.get? c=some o->h'.get? c=some o)->(∃ o,h'.get? e=some o/\o.cls=.type "StopIteration") ->
   wpAny (model prog w) A ((isInstance (.ref e) (.type "StopIteration")) >>= λb=>if b=true then pure none else throw (.ref e)) Q E { s with heap:=h' }:=λh' e hk he=>by
  obtain⟨o,ho,hc⟩:=he;exact wpAny_bind (wpAny_isInstance (T:="StopIteration") (b:=true) ⟨o,ho,hc⟩ isSubtype_stop (wpAny_pure (hQ _ hk)))
 show wpAny _ _ (field (.ref z) 2 >>= _) _ _ _;refine wpAny_bind (wpAny_field hz rfl (x:=.bool false) rfl ?_);show wpAny _ _ (field (.ref z) 3 >>= _) _ _ _;refine wpAny_bind (wpAny_field hz rfl (x:=.ref TI) rfl (wpAny_bind (wpAny_seqItems hTI rfl ?_)));show wpAny _ _ (Builtin.SmallTypes.ownedTupleIsFree (.ref z) >>= _) _ _ _;refine wpAny_bind ?_;unfold Builtin.SmallTypes.ownedTupleIsFree;refine wpAny_bind (wpAny_field hz rfl (x:=.none) rfl (wpAny_pure ?_));simp only[if_true];refine wpAny_bind (wpAny_rule (wpAny_bind (wpAny_field hz rfl (x:=.ref TO) rfl (wpAny_bind (wpAny_setField_rec hz (by simp) λg1 z1 e1=>?_)))))
 replace z1:IsZip g1 z TI TO .ellipsis:=z1
 refine wpAny_bind ?_;simp only[List.zipIdx_cons,List.zipIdx_nil,List.forIn_cons,List.forIn_nil];refine wpAny_bind (wpAny_bind (wpAny_onRaise ?_));show wpAny _ _ (Builtin.SmallTypes.nextOf (.ref i1) >>= _) _ _ _;cases hx:xs[k]? with
 |none =>
  refine wpAny_bind (ziA hh (h1.grow e1.extBut D.i1z) (hl1.grow e1.extBut D.l1z) hx λg2 e e2 ⟨oe,hoe,hce⟩=>?_);have z2:IsZip g2 z TI TO .ellipsis:=e2 _ _ D.i1z.symm z1;have ne:e≠z:=λq=>by subst q;rw[z2]at hoe;cases hoe;simp at hce
  exact wpAny_setField_rec z2 (by simp) λg3 _ e3=>out g3 e (λc o c1 _ c3 _ q=>e3.extBut _ _ c1 (e2 _ _ c3 (e1.extBut _ _ c1 q))) ⟨oe,e3.extBut _ _ ne hoe,hce⟩
 |some x =>
  have hy:ys[k]?=none:=by rcases hend with h|h;rw[hx]at h;cases h;exact h
  refine wpAny_bind (zeX (h1.grow e1.extBut D.i1z) (hl1.grow e1.extBut D.l1z) hx λg2 t1 e2=>wpAny_pure ?_);have p2:IsPair g2 TO a b:=e2.extBut _ _ D.TOi1 (e1.extBut _ _ D.TOz hTO);refine wpAny_bind (wpAny_seqItems p2 rfl (wpAny_bind (wpAny_updateSeq_pair p2 λg3 p3 e3=>wpAny_bind (wpAny_letGo (wpAny_pure ?_)))));refine wpAny_bind (wpAny_bind (wpAny_onRaise ?_));show wpAny _ _ (Builtin.SmallTypes.nextOf (.ref i2) >>= _) _ _ _;refine wpAny_bind (ziA hh (((h2.grow e1.extBut D.i2z).grow e2.extBut D.i12.symm).grow e3.extBut D.TOi2.symm) (((hl2.grow e1.extBut D.l2z).grow e2.extBut D.l2i1).grow e3.extBut D.l2TO) hy λg4 e e4 ⟨oe,hoe,hce⟩=>?_);have z4:IsZip g4 z TI TO .ellipsis:=e4 _ _ D.i2z.symm (e3.extBut _ _ D.TOz.symm (e2.extBut _ _ D.i1z.symm z1));have ne:e≠z:=λq=>by subst q;rw[z4]at hoe;cases hoe;simp at hce
  exact wpAny_setField_rec z4 (by simp) λg5 _ e5=>out g5 e (λc o c1 c2 c3 c4 q=>e5.extBut _ _ c1 (e4 _ _ c4 (e3.extBut _ _ c2 (e2.extBut _ _ c3 (e1.extBut _ _ c1 q))))) ⟨oe,e5.extBut _ _ ne hoe,hce⟩
end
noncomputable abbrev itN (b:Bool):String:=if b=true then "list_iterator" else "tuple_iterator"
noncomputable abbrev zg1 (b:Bool) (h:Heap) (l:Addr):Heap:=h.push { cls:=.type (itN b),data:=.fields #[.ref l,.int 0 0] }
noncomputable abbrev zg2 (b1 b2:Bool) (h:Heap) (l1 l2:Addr):Heap:=zg1 b2 (zg1 b1 h l1) l2
noncomputable abbrev zg3 (b1 b2:Bool) (h:Heap) (l1 l2:Addr):Heap:=(zg2 b1 b2 h l1 l2).push { cls:=.type "tuple",data:=.seq #[.ref h.objs.size,.ref (zg1 b1 h l1).objs.size] }
noncomputable abbrev zg4 (b1 b2:Bool) (h:Heap) (l1 l2:Addr):Heap:=(zg3 b1 b2 h l1 l2).push { cls:=.type "tuple",data:=.seq #[.none,.none] }
noncomputable abbrev zg5 (b1 b2:Bool) (h:Heap) (l1 l2:Addr):Heap:=(zg4 b1 b2 h l1 l2).push { cls:=.type "zip",data:=.fields #[.none,.bool false,.bool false,.ref (zg2 b1 b2 h l1 l2).objs.size,.ref (zg3 b1 b2 h l1 l2).objs.size] }
theorem zbC.push (x:zbC b h l xs)(o:Obj):zbC b (h.push o) l xs:=by
 cases b
 ·obtain⟨u,hu,r⟩:h.IsTuple l xs:=x;exact(⟨u,Heap.get?_push_of_some _ hu,r⟩:(h.push o).IsTuple l xs)
 ·obtain⟨u,hu,r⟩:h.IsList l xs:=x;exact(⟨u,Heap.get?_push_of_some _ hu,r⟩:(h.push o).IsList l xs)
def zwU (b:Bool)(l1 l2:Addr)(xs ys:Array Value) :
  Meets (Builtin.«zip.__new__» ⟨[.type "zip",.ref l1,.ref l2],[]⟩) (λ_ R s=>zbC b s.heap l1 xs/\zbC b s.heap l2 ys/\R (.ok (.ret (.ref (zg4 b b s.heap l1 l2).objs.size))) { s with heap:=zg5 b b s.heap l1 l2 }):=by
 cases b
 ·exact .of_wp λprog w A R s h=>by
   obtain⟨hp,g,d,tk,os⟩:=s;obtain⟨h1,h2,h⟩:=h;have hsub:=sub_zip;have q1:Heap.IsTuple (Shared.heap ⟨hp,g,d,tk,os⟩) l1 xs:=h1;have q2:Heap.IsTuple (Shared.heap ⟨hp.push { cls:=.type "tuple_iterator",data:=.fields #[.ref l1,.int 0 0] },g,d,tk,os⟩) l2 ys:=zbC.push (b:=false) h2 _
   wp_walk using wpAny_pyIter_tuple q1,wpAny_pyIter_tuple q2
   exact⟨_,rfl,h⟩
 ·exact meets_zip_new l1 l2 xs ys
def zpq {b:Bool}{h:Heap}{it l:Addr}(e:h.get? it=some { cls:=.type (itN b),data:=.fields #[.ref l,.int 0 0] }):za5 b h it l 0:=by
 cases b
 ·exact(⟨_,e,rfl,rfl⟩:h.IsTupleIter it l 0)
 ·exact(⟨_,e,rfl,rfl⟩:h.IsListIter it l 0)
section
variable {prog:Program}{w:World}{A:Around}{E:Value->Shared->Prop}{s:Shared}
def zt6 {Q:Value->Shared->Prop}(hl1:zbC b s.heap l1 xs)(hl2:zbC b s.heap l2 ys)(h:∀ h',IsZip h' (s.heap.objs.size+4) (s.heap.objs.size+2) (s.heap.objs.size+3) .none->IsPair h' (s.heap.objs.size+2) (.ref s.heap.objs.size) (.ref (s.heap.objs.size+1))->IsPair h' (s.heap.objs.size+3) .none .none->za5 b h' s.heap.objs.size l1 0->za5 b h' (s.heap.objs.size+1) l2 0 ->
   (∀ c o,s.heap.get? c=some o->h'.get? c=some o)->Q (.ref (s.heap.objs.size+4)) { s with heap:=h' }):wpAny (model prog w) A (call (.type "zip") [.ref l1,.ref l2]) Q E s:=by
 refine callType_new F.called_zip (by decide) (F.typeCall_zip_2 _ _) (F.newCall_zip_2 _ _) (λobj=>F.args_object_init_3 obj _ _) F.entry_zip_new (zwU b l1 l2 xs ys) ⟨hl1,hl2,?_⟩;have s1:(zg1 b s.heap l1).objs.size=s.heap.objs.size+1:=Heap.size_push ..;have s2:(zg2 b b s.heap l1 l2).objs.size=s.heap.objs.size+2:=by rw[Heap.size_push,s1]
 have s3:(zg3 b b s.heap l1 l2).objs.size=s.heap.objs.size+3:=by rw[Heap.size_push,s2]
 have s4:(zg4 b b s.heap l1 l2).objs.size=s.heap.objs.size+4:=by rw[Heap.size_push,s3]
 have v1:(zg5 b b s.heap l1 l2).get? s.heap.objs.size=some _:=(λc o q=>Heap.get?_push_of_some _ (Heap.get?_push_of_some _ (Heap.get?_push_of_some _ (Heap.get?_push_of_some _ q))):∀ c o,(zg1 b s.heap l1).get? c=some o->(zg5 b b s.heap l1 l2).get? c=some o) _ _ (Heap.get?_push_size _ rfl);have v2:(zg5 b b s.heap l1 l2).get? (zg1 b s.heap l1).objs.size=some _:=(λc o q=>Heap.get?_push_of_some _ (Heap.get?_push_of_some _ (Heap.get?_push_of_some _ q)):∀ c o,(zg2 b b s.heap l1 l2).get? c=some o->(zg5 b b s.heap l1 l2).get? c=some o) _ _ (Heap.get?_push_size _ rfl);have v3:(zg5 b b s.heap l1 l2).get? (zg2 b b s.heap l1 l2).objs.size=some _:=(λc o q=>Heap.get?_push_of_some _ (Heap.get?_push_of_some _ q):∀ c o,(zg3 b b s.heap l1 l2).get? c=some o->(zg5 b b s.heap l1 l2).get? c=some o) _ _ (Heap.get?_push_size _ rfl);have v4:(zg5 b b s.heap l1 l2).get? (zg3 b b s.heap l1 l2).objs.size=some _:=Heap.get?_push_of_some _ (Heap.get?_push_size _ rfl);have v5:(zg5 b b s.heap l1 l2).get? (zg4 b b s.heap l1 l2).objs.size=some _:=Heap.get?_push_size _ rfl;show _/\_;rw[s2,s3,s4]at v5;rw[s1,s2]at v3;rw[s3]at v4;rw[s1]at v2;rw[s4];exact⟨⟨_,v5,rfl⟩,h _ v5 v3 v4 (zpq v1) (zpq v2) λc o x=>Heap.get?_push_of_some _ (Heap.get?_push_of_some _ (Heap.get?_push_of_some _ (Heap.get?_push_of_some _ (Heap.get?_push_of_some _ x))))⟩
end
def SqB (K:PySem.W.Frag)(b:Bool)(H:Hp)(l:Addr)(xs:List V):Prop:=match b with
 |true=>SqL K H l xs
 |false=>SqT K H l xs
def SqB.items (I:Inv X pins U H s)(h:SqB X.K b H l xs):∃ its:List Value,Vals xs its/\zbC b s.heap l its.toArray:=by
 cases b
 ·obtain⟨its,r,p,_⟩:=I.tuple (show SqT X.K H l xs from h);exact⟨its,r,p⟩
 ·obtain⟨its,r,p,_⟩:=I.list (show SqL X.K H l xs from h);exact⟨its,r,p.isList⟩
def SqB.inj (I:Inv X pins U H s)(h:SqB X.K b H l xs)(h':SqB X.K b H l ys):xs=ys:=by
 cases b
 ·exact I.tuple_inj (show SqT X.K H l xs from h) h'
 ·exact I.list_inj (show SqL X.K H l xs from h) h'
noncomputable def zl2 (K:PySem.W.Frag) (b1 b2:Bool) (l1 l2:Addr):It :=
  ⟨λi H=>∃ xs ys x y,SqB K b1 H l1 xs/\SqB K b2 H l2 ys/\xs[i]?=some x/\ys[i]?=some y,
   λi H v H'=>∃ p,v=.ref p/\H p=none/\∀ xs ys x y,SqB K b1 H l1 xs->SqB K b2 H l2 ys->xs[i]?=some x->ys[i]?=some y->H'=upd H p (.tup [x,y]),
   λi H=>∃ xs ys,SqB K b1 H l1 xs/\SqB K b2 H l2 ys/\(xs.length<=i\/ys.length<=i)⟩
def zmm {P:Program}{w:World}{K:PySem.W.Frag}{es:List Expr}{kk:Nat}{pos:Pos}{b1 b2:Bool}{TI TO:Addr}(D:ZipApart z TI TO i1 i2 l1 l2) :
  Turn P w K (.Tuple es kk pos) (zl2 K b1 b2 l1 l2) [z,TI,TO,i1,i2] z (λi h=>IsZip h z TI TO .none/\IsPair h TI (.ref i1) (.ref i2)/\(∃ a b,IsPair h TO a b)/\za5 b1 h i1 l1 i/\za5 b2 h i2 l2 i) where
 mem:=by simp
 obj:=λi h st b hb=>by
  obtain⟨hz,hTI,⟨a,c,hTO⟩,q1,q2⟩:=st;obtain⟨o1,g1,_,_,d1⟩:=q1.obj;obtain⟨o2,g2,_,_,d2⟩:=q2.obj;simp only[List.mem_cons,List.not_mem_nil,or_false]at hb;rcases hb with rfl|rfl|rfl|rfl|rfl
  ·exact⟨_,hz,λv q=>by cases(show Data.fields _=Data.cell v from q)⟩
  ·exact⟨_,hTI,λv q=>by cases(show Data.seq _ _=Data.cell v from q)⟩
  ·exact⟨_,hTO,λv q=>by cases(show Data.seq _ _=Data.cell v from q)⟩
  ·exact⟨_,g1,λv q=>by rw[d1]at q;cases q⟩
  ·exact⟨_,g2,λv q=>by rw[d2]at q;cases q⟩
 keep:=λi h h' st k=>by obtain⟨hz,hTI,⟨a,c,hTO⟩,q1,q2⟩:=st;exact⟨k z (by simp) _ hz,k TI (by simp) _ hTI,⟨a,c,k TO (by simp) _ hTO⟩,q1.at λo e=>k i1 (by simp) o e,q2.at λo e=>k i2 (by simp) o e⟩
 item:=by
  intro X hP hw hK hc i pins s U H E I hf st hg;subst hP hw hK;obtain⟨hz,hTI,⟨a,c,hTO⟩,q1,q2⟩:=st;obtain⟨xs,ys,x,y,hx1,hy1,hx,hy⟩:=hg;obtain⟨its,rx,px⟩:=hx1.items I;obtain⟨jts,ry,py⟩:=hy1.items I;obtain⟨u,hu,ru⟩:=Vals.get rx hx;obtain⟨v,hv,rv⟩:=Vals.get ry hy;refine zmc D hz hTI hTO q1 q2 px py (by simpa using hu) (by simpa using hv) λh' a1 a2 a3 a4 a5 hk=>?_
  refine⟨_,rfl,wpAny_letOwnedTupleGo_zip a1 λh'' hz'' hs''=>?_⟩;have lt:∀ {c o},s.heap.get? c=some o->s.heap.objs.size≠c:=λe=>Nat.ne_of_gt (Heap.lt_size e)
  have k2:∀ b u,b∉[z,TI,TO,i1,i2]->s.heap.get? b=some u->h''.get? b=some u:=λb u hb e=>by simp only[List.mem_cons,List.not_mem_nil,or_false,not_or]at hb;exact hs''.extBut b u hb.1 (hk b u hb.1 hb.2.2.1 hb.2.2.2.1 hb.2.2.2.2 e)
  have new:h''.get? s.heap.objs.size=some { cls:=.type "tuple",data:=.seq #[u,v] }:=hs''.extBut _ _ (lt hz) a5;refine⟨.ref s.heap.objs.size,upd H s.heap.objs.size (.tup [x,y]),I.turnNew (t':=s.toks) hf k2 (Nat.le_refl _) ⟨by show 2<=sizeLine;decide,[u,v],.cons ru (.cons rv .nil),_,new,rfl,_,rfl⟩,rfl,⟨_,rfl,I.fresh,?_⟩,?_,λb hb=>?_⟩
  ·intro xs' ys' x' y' hx1' hy1' hx' hy';cases hx1.inj I hx1';cases hy1.inj I hy1';rw[hx]at hx';rw[hy]at hy';cases hx';cases hy';rfl
  ·exact⟨hz'',hs''.extBut _ _ D.TIz (hk _ _ D.TIz D.TITO D.TIi1 D.TIi2 hTI),⟨_,_,hs''.extBut _ _ D.TOz a2⟩,a3.grow hs''.extBut D.i1z,a4.grow hs''.extBut D.i2z⟩
  ·have:∃ o,s.heap.get? b=some o:=by
    simp only[List.mem_cons,List.not_mem_nil,or_false]at hb;obtain⟨o1,e1,_⟩:=q1.obj;obtain⟨o2,e2,_⟩:=q2.obj;rcases hb with rfl|rfl|rfl|rfl|rfl
    ·exact⟨_,hz⟩
    ·exact⟨_,hTI⟩
    ·exact⟨_,hTO⟩
    ·exact⟨_,e1⟩
    ·exact⟨_,e2⟩
   obtain⟨o,e⟩:=this;rw[zP (lt e).symm];exact(hf b hb).1
 done:=by
  intro X hP hw hK hc i pins s U H E I hf st hg;subst hP hw hK;obtain⟨hz,hTI,⟨a,c,hTO⟩,q1,q2⟩:=st;obtain⟨xs,ys,hx1,hy1,hl⟩:=hg;obtain⟨its,rx,px⟩:=hx1.items I;obtain⟨jts,ry,py⟩:=hy1.items I;have n1:=rx.length;have n2:=ry.length;refine zmU (I.ok.hd hc) D hz hTI hTO q1 q2 px py ?_ λh' hk=>⟨rfl,I.turnedL (t':=s.toks) hf λb u hb e=>?_⟩
  ·rcases hl with hl|hl
   ·exact .inl (by rw[List.getElem?_toArray];exact List.getElem?_eq_none (by lia))
   ·exact .inr (by rw[List.getElem?_toArray];exact List.getElem?_eq_none (by lia))
  ·simp only[List.mem_cons,List.not_mem_nil,or_false,not_or]at hb;exact hk b u hb.1 hb.2.2.1 hb.2.2.2.1 hb.2.2.2.2 e
 self:=λ_ _ _ _ _ st h=>wpAny_pyIter_zip st.1 h
section
variable {X:Cx}
def zu5 (K:PySem.W.Frag)(ta:TA):TI:=λU H R=>ta U H λvs H1=>∃ b l1 l2,vs=[.ref l1,.ref l2]/\(∃ xs,SqB K b H1 l1 xs)/\(∃ ys,SqB K b H1 l2 ys)/\R (zl2 K b b l1 l2) H1
def zqw {es:List Expr}{kk:Nat}{tpos:Pos}{a b:Expr}{ta:TA}{p pos:Pos}(hg:Gl X "zip")(hm:X.mg "zip"=none)(ha:PA X [a,b] ta)(hs:autoParam (starEach [a,b] X.env=[(false,eval a X.env),(false,eval b X.env)]) zL)(hs2:autoParam (starEach [b] X.env=[(false,eval b X.env)]) zL) :
    PI X (.Tuple es kk tpos) (.Call (.Name "zip" p) [a,b] [] pos) (zu5 X.K ta):=by
  intro pins s U H R I h;refine Call_ (zbB I hg hm boot_zip (PyProof.Rows.callWith_type1 (thn (ha pos pins s U H _ I h) λus s1 ⟨vs,H1,I1,r1,q1⟩=>?_) (by rw[hs,hs2]) (by rw[hs2];rfl)));obtain⟨b',l1,l2,e,⟨xs,hx⟩,⟨ys,hy⟩,q⟩:=q1;subst e;obtain⟨u,v,rfl,ru,rv⟩:=vals2 r1;cases ru;cases rv;obtain⟨its,rx,px⟩:=hx.items I1;obtain⟨jts,ry,py⟩:=hy.items I1;refine zt6 px py λh' hz hTI hTO h1 h2 hk=>?_
  have I2:Inv X pins U H1 { s1 with heap:=h' }:=I1.kept (t':=s1.toks) hk;refine wpAny_pyIter_zip (s:={ s1 with heap:=h' }) hz ⟨_,_,_,_,H1,rfl,I2,zmm (PyProof.Rows.zipApart_new px.lt py.lt),⟨hz,hTI,⟨_,_,hTO⟩,h1,h2⟩,λb hb=>?_,q⟩
  have hb':s1.heap.objs.size<=b:=by simp only[List.mem_cons,List.not_mem_nil,or_false]at hb;rcases hb with rfl|rfl|rfl|rfl|rfl<;>first|exact Nat.le_add_right _ _|exact Nat.le_refl _
  exact I1.fpOk hb' (I1.hok.fresh hb')
end
section
def zws (l:Addr)(items:Array Value)(n:Nat)(b:Addr)(items2:Array Value)(n2:Nat)(dct:Option Addr)(sl:Array (Option Value))(hs0:¬(!items.isEmpty&&Builtin.List.listTooLong (items.size+items2.size))=true)(hs1:items.size<=sizeLine)(hs2:items.size+items2.size<=sizeLine+1) :
  Meets (Builtin.«list.extend» ⟨[.ref l,.ref b],[]⟩) (λ_ R s=>s.heap.get? l=some { cls:=.type "list",dict:=none,data:=.seq items n,slots:=#[] }/\s.heap.get? b=some { cls:=.type "tuple",dict:=dct,data:=.seq items2 n2,slots:=sl }/\R (.ok (.ret Value.none)) { s with heap:=s.heap.update l (Obj.mapSeq λx=>x++items2),toks:=s.toks }) :=
 .of_wp λprog w A R s h=>by
  obtain⟨hp,g,d,tk,os⟩:=s;obtain⟨hl,hb,h⟩:=h;have f1:=AutoSeq1.idx_int;have f2:=AutoSeq1.sub_tuple_tuple;have f3:=AutoSeq1.sub_list_list;have f4:=AutoSeq1.sub_tuple_list;have f5:=AutoSeq1.sub_list_tuple;have hz':(items++items2).size<=sizeLine+1:=by rw[Array.size_append];exact hs2
  wp_walk using (wpAny_updateSeq hl rfl (hz:=hs1) (_hz':=hz')),wpAny_loadPart' hl,wpAny_loadPart' hb
  exact⟨_,rfl,h⟩
end
section
variable {X:Cx}
def zo5 (K:PySem.W.Frag):V->List V->Hp->VK->Prop:=λx vs H Q=>zk3 x vs H Q\/∃ l b xs zs,x=.ref l/\vs=[.ref b]/\H l=some (.lst xs)/\SqT K H b zs/\xs.length+zs.length<=sizeLine/\Q .non (upd H l (.lst (xs++zs)))
def zln:MtM X "list.extend" (zo5 X.K):=by
 intro pins s U H x vs v us Q I rx rv h;rcases h with h|⟨l,b,xs,zs,rfl,rfl,hH,hB,hz,q⟩
 ·exact zno pins s U H x vs v us Q I rx rv h
 cases rx;obtain⟨u,rfl,ru⟩:=rv.one;cases ru;obtain⟨z,its,n,r,hl,e⟩:=I.lstM hH;obtain⟨its2,r2,⟨⟨c,dct,dt,sl⟩,e2,hc,n2,hd⟩,z2⟩:=I.tuple hB
 replace hc:c=.type "tuple":=hc
 replace hd:dt=.seq its2.toArray n2:=hd
 subst hc hd;have hl2:=r2.length;have hsz:its.toArray.size+its2.toArray.size<=sizeLine:=by rw[List.size_toArray,List.size_toArray];lia
 have hlong:¬ (!its.toArray.isEmpty&&Builtin.List.listTooLong (its.toArray.size+its2.toArray.size))=true:=by rw[zi7 hsz,Bool.and_false];exact Bool.false_ne_true
 refine call_meets F.slot_list_extend ⟨_,e,rfl⟩ F.entry_list_extend (F.args_list_extend_2 _ _)
  (zws l its.toArray n b its2.toArray n2 dct sl hlong (by rw[List.size_toArray];lia) (by lia)) ⟨e,e2,?_⟩
 refine⟨.non,_,I.lset (its':=its++its2) hH e (by simp) (r.append r2) ?_,rfl,q⟩;rw[List.length_append];lia
end
section
variable {prog:Program}{w:World}{A:Around}{E:Value->Shared->Prop}{s:Shared}
end
section
variable {X:Cx}
end
section
variable {X:Cx}
end
section
variable {X:Cx}
end
section
variable {prog:Program}{w:World}{A:Around}{E:Value->Shared->Prop}{s:Shared}
end
section
variable {prog:Program}{w:World}{A:Around}{E:Value->Shared->Prop}{s:Shared}
end
section
variable {prog:Program}{w:World}{A:Around}{E:Value->Shared->Prop}{s:Shared}
end
section
variable {prog:Program}{w:World}{A:Around}{s:Shared}
abbrev ze1 (prog:Program)(w:World)(h:Heap)(a:Addr)(c:List Str):Prop:=h.SetOf (PySem.strKind prog w) a (λy=>c.any (·==y)) c.length
def ze1.at {h':Heap}(x:ze1 prog w h a c)(k:∀ o,h.get? a=some o->h'.get? a=some o):ze1 prog w h' a c :=by obtain⟨o,es,ep,t,ho,r⟩:=x;exact⟨o,es,ep,t,k o ho,r⟩
theorem loopS {R:Result->Shared->Prop}{a:Addr}{wr:List Addr}{St:Nat->Shared->Prop}(W:WalksS prog w A.in1 it fp wr G n P St)(na:a∉fp)(f:Nat->Str)(hf:∀ i v,P i v->∃ t,v=.str (f i) t)(hb:n+1<scanBound) :
  ∀ (k i:Nat) (s:Shared),n-i=k->i<=n->St i s->ze1 prog w s.heap a (Dp.zb9 f i) ->
   (∀ s',Moved (a::wr) G s s'->ze1 prog w s'.heap a (Dp.zb9 f n)->R (.ok (.ret .none)) s') ->
   codeAny (model prog w) A (.builtin "set.update.loop" ⟨[.ref a,.ref it],[]⟩) R s
 |0,i,s,hk,hi,st,hS,hR=>by
  have e:i=n:=by lia
  subst e;refine codeAny_builtin PyProof.Rows.F.entry_set_update_loop ?_;rw[Around.under_plainId PyProof.Rows.F.plain_set_update_loop];show wpAny _ A.in1 (pyNext (.ref it) >>= _) _ _ _;refine wpAny_bind (W.done s _ _ st λs' m=>wpAny_pure (hR s' (m.mono λb q=>List.mem_cons_of_mem _ q) ?_));exact hS.at λo q=>m.heap a o (λz=>na (W.sub _ z)) q
 |k+1,i,s,hk,hi,st,hS,hR=>by
  refine codeAny_builtin PyProof.Rows.F.entry_set_update_loop ?_;rw[Around.under_plainId PyProof.Rows.F.plain_set_update_loop];show wpAny _ A.in1 (pyNext (.ref it) >>= _) _ _ _;refine wpAny_bind (W.item i s _ _ (by lia) st λv s1 pv st1 m=>?_);obtain⟨t,rfl⟩:=hf i v pv;have h1:ze1 prog w s1.heap a (Dp.zb9 f i):=hS.at λo q=>m.heap a o (λz=>na (W.sub _ z)) q
  show wpAny _ A.in1 (holding [Value.str (f i) t] (setAdd a (Value.str (f i) t)) >>= _) _ _ _;refine wpAny_bind (wpAny_holding ?_);unfold setAdd;refine wpAny_holding (wpAny_bind ((PySem.strKind prog w).pyHash (k:=f i) (strKind_is _ _ _ _) ?_));have room:(Dp.zb9 f i).length+1<scanBound:=by have:=Dp.zh4 f i;lia
  refine wpAny_setAddHashed_of (knd:=PySem.strKind prog w) (s:={ s1 with toks:=s1.toks+1 }) (strKind_is _ _ _ _) rfl h1 room λh2 sb hS2=>?_
  have h3:ze1 prog w h2 a (Dp.zb9 f (i+1)):=SetOf_congr hS2 (λy=>(Dp.zjw _ _ _).symm) (Dp.zgT _ _).symm;refine wpAny_pure ⟨plainId_quiet PyProof.Rows.F.plain_set_update_loop _,loopS W na f hf hb k (i+1) _ (by lia) (by lia) (W.frame _ s1 _ _ st1 (Nat.le_succ _) λb q o e=>?_) h3 λs' m' hS'=>?_⟩
  ·exact(sb.2 b λz=>na (z▸q)).trans e
  ·refine hR s' (Moved.trans W.gtrans ((m.mono λb q=>List.mem_cons_of_mem _ q).then_heap (Nat.le_succ _) λb o q e=>?_) m') hS';exact(sb.2 b λz=>q (z▸List.mem_cons_self)).trans e
end
section
variable {prog:Program}{w:World}{A:Around}{E:Value->Shared->Prop}{s:Shared}
noncomputable abbrev zfP (led:Bool):Obj:={ cls:=.type "set",dict:=none,data:=.set #[] 0 (.fresh 0 0 led) }
def znA {l:Addr}{its:Array Value}(f:Nat->Str){Q:Value->Shared->Prop}(hh:A.handled=none)(hl:s.heap.IsList l its)(hf:∀ (i:Nat) v,its[i]?=some v->∃ t,v=.str (f i) t)(hb:its.size+1<scanBound)
    (h:∀ (h':Heap) (tk:Nat),ze1 prog w h' s.heap.objs.size (Dp.zb9 f its.size)->(∀ b o,b<s.heap.objs.size->s.heap.get? b=some o->h'.get? b=some o)->Q (.ref s.heap.objs.size) { s with heap:=h',toks:=tk }) :
    wpAny (model prog w) A (call (.type "set") [.ref l]) Q E s:=by
  have ft:=F.called_set;obtain⟨c,tl,hmro⟩:=ft.mro;have hmade:=ft.made;have hsub:=ft.sub;have h1:=ft.notType;have h2:=ft.canCreate;have hct:=F.typeCall_set_1 (.ref l);refine wpAny_call (codeAny_of_tree ?_);show wpAny _ _ (callAny (.type "set") _) _ _ s;refine wpAny_pure ⟨Code.quiet_builtin _ (by decide +kernel),codeAny_builtin F.entry_type_call ?_⟩;rw[Around.under_plain (weight_type_call_type "set" [Value.ref l] []) rfl]
  repeat (any_goals (first|assumption|wp_step))
  refine codeAny_mono (code_set_new_1 (.ref l) (E:=E) (Q₁:=λv s1=>∃ led:Bool,v=.ref s.heap.objs.size/\s1={ s with heap:=s.heap.push (zfP led) }) λled=>⟨led,rfl,rfl⟩) λr s1 hr=>?_
  cases r with
  |error e=>exact hr
  |ok fl =>
    cases fl with
    |ret v =>
      obtain⟨led,rfl,rfl⟩:=hr;have e0:(s.heap.push (zfP led)).get? s.heap.objs.size=some (zfP led):=Heap.get?_push_size _ rfl;have hT:Shared.TypeIs { s with heap:=s.heap.push (zfP led) } (.ref s.heap.objs.size) "set":=⟨_,e0,rfl⟩
      have hli:=ft.init.lookup;have hbi:=ft.init.bind (.ref s.heap.objs.size)
      repeat (any_goals (first|assumption|wp_step))
      refine codeAny_mono (codeAny_call_builtin (R:=wants (λr s2=>r=.none/\∃ h' tk,s2={ s with heap:=h',toks:=tk }/\ze1 prog w h' s.heap.objs.size (Dp.zb9 f its.size)/\∀ b o,b<s.heap.objs.size->s.heap.get? b=some o->h'.get? b=some o) E) ft.init.plain F.entry_set_init (check_set_init_1 hT ?_)) λr2 s2 hr2=>?_
      . obtain⟨ol,hol,hcl,nl,hdl⟩:=hl;obtain⟨ocl,odi,oda,osl⟩:=ol;simp only at hcl hdl;subst hcl hdl;have hol2:(s.heap.push (zfP led)).get? l=some { cls:=.type "list",dict:=odi,data:=.seq its nl,slots:=osl }:=Heap.get?_push_of_some _ hol;have k1:=F.sub_list_set;have k2:=F.sub_list_frozenset;have k3:(Value.type "list"==Value.type "dict")=false:=by decide
        have hl1:(s.heap.push (zfP led)).IsList l its:=⟨_,hol2,rfl,nl,rfl⟩
        unfold Builtin.«set.__init__» noKeywords Builtin.Frozenset.updateFrom;generalize hPI:pyIter=PI
        wp_walk
        subst hPI;refine wpAny_pyIter_list hl1 (wpAny_bind (wpAny_runValue ?_));have ll:l<s.heap.objs.size:=Heap.lt_size hol;have n1:l≠(s.heap.push (zfP led)).objs.size:=by rw[Heap.size_push];exact Nat.ne_of_lt (Nat.lt_succ_of_lt ll)
        have n2:s.heap.objs.size∉[(s.heap.push (zfP led)).objs.size,l]:=by
          rw[Heap.size_push];intro z;rcases List.mem_cons.mp z with z|z
          . exact Nat.ne_of_lt (Nat.lt_succ_self _) z
          . exact Nat.ne_of_gt ll (List.mem_singleton.mp z)
        refine loopS ((Walks.list (show _=none by simp[hh]) _ l n1 its).toS) n2 f hf hb (its.size-0) 0 _ (by lia) (Nat.zero_le _) ⟨⟨_,Heap.get?_push_size _ rfl,rfl,rfl⟩,hl1.push _⟩ ?_ λs' m hS'=>?_
        . exact SetOf_congr ((setObjOf_fresh (knd:=PySem.strKind prog w) led).setOf (Heap.get?_push_of_some _ e0) (by unfold scanBound;lia)) (λ_=>rfl) rfl
        . obtain⟨h',g',d',tk',os'⟩:=s';cases(show g'=s.gens from m.gens);cases(show d'=s.drawn from m.drawn);cases(show os'=s.os from m.os);show wpAny _ _ _ _ _ _;refine wpAny_pure (wpAny_pure ⟨rfl,h',tk',rfl,hS',λb o q e=>?_⟩);refine m.heap b o (λz=>?_) (Heap.get?_push_of_some _ (Heap.get?_push_of_some _ e));rcases List.mem_cons.mp z with z|z
          . exact Nat.ne_of_lt q z
          . have z':=List.mem_singleton.mp z;rw[Heap.size_push]at z';exact Nat.ne_of_lt (Nat.lt_succ_of_lt q) z'
      . cases r2 with
        |error e=>exact hr2
        |ok fl2 =>
          cases fl2 with
          |ret r =>
            obtain⟨rfl,h',tk,rfl,hS',kp⟩:=hr2
            repeat (any_goals (first|assumption|wp_step))
            exact h _ _ hS' kp
          |_=>exact hr2.elim
    |_=>exact hr.elim
end
def zvm (K:PySem.W.Frag)(ta:TA):TE:=λU H Q=>ta U H λvs H1=>∃ l,∃ zs:List Str,vs=[.ref l]/\SqL K H1 l (zs.map V.str)/\zs.length<=4000/\Q (.int (Dp.zb9 (λi=>zs.getD i Str.empty) zs.length).length) H1
theorem zjv:∀ {zs:List Str} {us:List Value},Vals (zs.map V.str) us->∀ (i:Nat) v,us[i]?=some v->∃ t,v=.str (zs.getD i Str.empty) t
 |[],_,.nil,i,v,e=>by simp at e
 |z::zs,_,.cons r t,0,v,e=>by obtain⟨t,rfl⟩:=r;simp at e;exact⟨t,e.symm⟩
 |z::zs,_,.cons r t,i+1,v,e=>by obtain⟨t,h⟩:=zjv t i v (by simpa using e);exact⟨t,by rw[h];simp⟩
def zqx {X:Cx}{a:Expr}{ta:TA}{p1 p2 pos1 pos2:Pos}(hc:X.calm=true)(hgl:Gl X "len")(hml:X.mg "len"=none)(hgr:Gl X "set")(hmr:X.mg "set"=none)(ha:PA X [a] ta)
  (hs:starEach [a] X.env=[(false,eval a X.env)]:=by rfl)
  (hs3:starEach [.Call (.Name "set" p2) [a] [] pos2] X.env=[(false,eval (.Call (.Name "set" p2) [a] [] pos2) X.env)]:=by rfl) :
  PE X (.Call (.Name "len" p1) [.Call (.Name "set" p2) [a] [] pos2] [] pos1) (zvm X.K ta):=by
 intro pins s U H Q I h;refine Call_ (zbB I hgl hml boot_len (PyProof.Rows.callWith_builtin1 ?_ (by rw[hs3];rfl) (by rfl)));rw[hs3];show wpAny _ _ (spliced ((false,eval (.Call (.Name "set" p2) [a] [] pos2) X.env)::backTo pos1 [])) _ _ s;refine Calls.spliced_cons (Call_ (zbB I hgr hmr boot_set (PyProof.Rows.callWith_type1 (thn (ha pos2 pins s U H _ I h) λus s1 ⟨vs,H1,I1,r1,q1⟩=>?_) hs rfl)));obtain⟨l,zs,e,hx,h4,q⟩:=q1;subst e;obtain⟨u,rfl,ru⟩:=vals1 r1;cases ru;obtain⟨its,rx,px,zx⟩:=I1.list hx;have sz:its.toArray.size=zs.length:=by rw[List.size_toArray,<- rx.length,List.length_map]
 refine znA (λi=>zs.getD i Str.empty) (show _=none from I1.ok.hd hc) px.isList (λi v e=>zjv rx i v (by simpa using e)) (by rw[sz];unfold scanBound;lia) λh' tk hS kp=>Calls.spliced_nil ?_
 rw[sz]at hS;have le:=Dp.zh4 (λi=>zs.getD i Str.empty) zs.length;obtain⟨o,es,ep,t,ho,hex,hd,_,_,_,hf,hn⟩:=hS;refine call_len_set ho hex hd hf (by lia) ?_;rw[hn];exact⟨.int _,H1,I1.kept (t':=tk+1+1) (λb o q=>kp b o (Heap.lt_size q) q),⟨_,rfl⟩,q⟩
section
variable {X:Cx}{pins:List (Addr×Obj)}{U:L2.St}{H H':Hp}{s:Shared}{a:Addr}
end
section
variable {X:Cx}{pins:List (Addr×Obj)}{U:L2.St}{R:Result->Shared->Prop}{G:Hp->Prop}{l q I S:Addr}{oq:Obj}{vs:List Value}
end
def zpd (H:Hp)(cd:Value)(qual:Str):=∃ c oc vs t u,cd=.ref c/\H c=some (.frz oc u)/\oc.data=.fields vs/\vs[1]?=some (.str qual t)
section
variable {X:Cx}{pins:List (Addr×Obj)}{U:L2.St}{G:Hp->Prop}{q:Addr}{name qual x:Str}{params:Arguments}{body:Expr}{sc:Scope}{cl:List (Str×Addr)}{pm cd ct:Value}{free:List Str}{fv:List Nat}{te:TE}
end
def zv1 (H:Hp)(ps:Array Value)(l c:Nat)(qual:Str):Prop:=ps=#[]\/∃ a,ps=#[rawInt l,rawInt c,.ref a]/\zpd H (.ref a) qual
end My
namespace Dp
open PySem PySem.Spec PyProof.Rows L2 My
noncomputable def isStar:Expr->Bool
 |.Starred _ _=>true
 |_=>false
def zds {e:Expr}{es:List Expr}{env:Env}(h:isStar e=false):starEach (e::es) env=(false,eval e env)::starEach es env:=by cases e<;>first|rfl|cases h
theorem zgV {pos:Pos}{env:Env}:∀ {es:List Expr},es.all (λe=>!isStar e)=true->(backTo pos (starEach es env)).any (·.1)=false
 |[],_=>rfl
 |e::es,h=>by rw[List.all_cons,Bool.and_eq_true]at h;rw[zds (by simpa using h.1)];show(false||(backTo pos (starEach es env)).any (·.1))=false;rw[zgV h.2];rfl
def ze6 {e:Expr}{env:Env}(h:isStar e=false):starEach [e] env=[(false,eval e env)]:=zds h
def zjV {e g:Expr}{env:Env}(h:isStar e=false)(k:isStar g=false):starEach [e,g] env=[(false,eval e env),(false,eval g env)]:=by rw[zds h,ze6 k]
def zgQ (K:PySem.W.Frag)(H:Hp)(a:Addr)(xs:List V):Prop :=(∃ o,H a=some (.frz o (.lst xs)))\/∃ (o:Obj) (its:Array Value) (n:Nat),K.lookup a=some o/\o.cls=.type "list"/\o.dict=none/\o.data=.seq its n/\its.size<=sizeLine/\Vals xs its.toList
def zvV (K:PySem.W.Frag)(a:Addr)(xs:List V):=∃ (o:Obj) (its:Array Value) (n:Nat),K.lookup a=some o/\o.cls=.type "tuple"/\o.data=.seq its n/\its.size<=sizeLine/\Vals xs its.toList
def zgQ.sq {K:PySem.W.Frag}(h:zgQ K H a xs):SqL K H a xs:=h.imp (λh=>.inr h) id
mutual
inductive Rel (K:PySem.W.Frag)(aD:List Addr)(H:Hp):D->V->Prop
 |non:Rel K aD H .non .non
 |bl (b:Bool):Rel K aD H (.bl b) (.bl b)
 |int (i:Int):Rel K aD H (.int i) (.int i)
 |str (x:Str):Rel K aD H (.str x) (.str x)
 |ty (n:String):Rel K aD H (.ty n) (.ty n)
 |tup {a:Addr} {vs:List V} {ds:List D}:H a=some (.tup vs)->zB K aD H ds vs->Rel K aD H (.tup ds) (.ref a)
 |rl {a:Addr} {vs:List V} {ds:List D}:zgQ K H a vs->zB K aD H ds vs->Rel K aD H (.rl ds) (.ref a)
 |ref {n:Nat} {a:Addr}:aD[n]?=some a->Rel K aD H (.ref n) (.ref a)
 |exn {c:Str} {a C:Addr} {o:Obj} {u:HO}:H a=some (.frz o u)->o.cls=.ref C->PySem.W.nsIn K mainGlobals c=some (some (.ref C))->Rel K aD H (.exn c) (.ref a)
 |kt {a:Addr} {vs:List V} {ds:List D}:zvV K a vs->zB K aD H ds vs->Rel K aD H (.kt ds) (.ref a)
inductive zB (K:PySem.W.Frag)(aD:List Addr)(H:Hp):List D->List V->Prop
 |nil:zB K aD H [] []
 |cons {d:D} {v:V} {ds:List D} {vs:List V}:Rel K aD H d v->zB K aD H ds vs->zB K aD H (d::ds) (v::vs)
end
structure Wd (aD:List Addr)(H:Hp)(aD':List Addr)(H':Hp):Prop where
 pre:aD <+: aD'
 keep:∀ b o,b∉aD->H b=some o->H' b=some o
 tup:∀ b xs,H b=some (.tup xs)->H' b=some (.tup xs)
 frz:∀ b o u,H b=some (.frz o u)->H' b=some (.frz o u)
 new:∀ b,b∈aD'->b∉aD->H b=none
def Wd.refl {aD:List Addr}{H:Hp}:Wd aD H aD H:=⟨List.prefix_refl _,λ_ _ _ h=>h,λ_ _ h=>h,λ_ _ _ h=>h,λ_ h n=>absurd h n⟩
theorem Wd.trans (a:Wd aD H ad1 H1)(b:Wd ad1 H1 ad2 H2):Wd aD H ad2 H2 where
 pre:=a.pre.trans b.pre
 keep:=λc o hc h=>b.keep c o (λh1=>by rw[a.new c h1 hc]at h;cases h) (a.keep c o hc h)
 tup:=λc xs h=>b.tup c xs (a.tup c xs h)
 frz:=λc o u h=>b.frz c o u (a.frz c o u h)
 new:=λc h2 hc=>by
  by_cases h1:c∈ad1
  ·exact a.new c h1 hc
  ·have n1:=b.new c h2 h1;cases e:H c with
   |none=>rfl
   |some o=>rw[a.keep c o hc e]at n1;cases n1
def zhQ {α:Type}{l l':List α}(h:l <+: l'){n:Nat}{a:α}(e:l[n]?=some a):l'[n]?=some a:=by obtain⟨t,rfl⟩:=h;rw[List.getElem?_append_left (My.zaT e)];exact e
structure Wr (aD:List Addr)(H:Hp)(aD':List Addr)(H':Hp):Prop where
 pre:aD <+: aD'
 tup:∀ b xs,H b=some (.tup xs)->H' b=some (.tup xs)
 frz:∀ b o u,H b=some (.frz o u)->H' b=some (.frz o u)
def Wd.wr (w:Wd aD H aD' H'):Wr aD H aD' H':=⟨w.pre,w.tup,w.frz⟩
def zgQ.wr {K:PySem.W.Frag}(w:Wr aD H aD' H')(h:zgQ K H a xs):zgQ K H' a xs:=h.imp (by rintro⟨o,e⟩;exact⟨o,w.frz _ _ _ e⟩) id
mutual
theorem Rel.wr {K:PySem.W.Frag}{aD aD':List Addr}{H H':Hp}(w:Wr aD H aD' H'):∀ {d:D} {v:V},Rel K aD H d v->Rel K aD' H' d v
 |_,_,.non=>.non
 |_,_,.bl b=>.bl b
 |_,_,.int i=>.int i
 |_,_,.str x=>.str x
 |_,_,.ty n=>.ty n
 |_,_,.tup h r=>.tup (w.tup _ _ h) (zB.wr w r)
 |_,_,.rl h r=>.rl (h.wr w) (zB.wr w r)
 |_,_,.ref h=>.ref (zhQ w.pre h)
 |_,_,.exn h e n=>.exn (w.frz _ _ _ h) e n
 |_,_,.kt h r=>.kt h (zB.wr w r)
theorem zB.wr {K:PySem.W.Frag}{aD aD':List Addr}{H H':Hp}(w:Wr aD H aD' H'):∀ {ds:List D} {vs:List V},zB K aD H ds vs->zB K aD' H' ds vs
 |_,_,.nil=>.nil
 |_,_,.cons r t=>.cons (Rel.wr w r) (zB.wr w t)
end
def Rel.wd {K:PySem.W.Frag}(r:Rel K aD H d v)(w:Wd aD H aD' H'):Rel K aD' H' d v:=Rel.wr w.wr r
def zB.wd {K:PySem.W.Frag}(r:zB K aD H ds vs)(w:Wd aD H aD' H'):zB K aD' H' ds vs:=zB.wr w.wr r
section
variable {K:PySem.W.Frag}{aD:List Addr}{H:Hp}
theorem zB.length:∀ {ds:List D} {vs:List V},zB K aD H ds vs->ds.length=vs.length
  |_,_,.nil=>rfl
  |_,_,.cons _ t=>congrArg (· + 1) (zB.length t)
theorem zB.get:∀ {ds:List D} {vs:List V} {i:Nat} {d:D},zB K aD H ds vs->ds[i]?=some d->∃ v,vs[i]?=some v/\Rel K aD H d v
 |_,_,_,_,.nil,e=>by simp at e
 |_,_,0,_,.cons r _,e=>by simp at e;subst e;exact⟨_,rfl,r⟩
 |_,_,i+1,d,.cons _ t,e=>by obtain⟨v,h1,h2⟩:=zB.get (i:=i) (d:=d) t (by simpa using e);exact⟨v,by simpa using h1,h2⟩
theorem zB.append:∀ {ds es:List D} {vs us:List V},zB K aD H ds vs->zB K aD H es us->zB K aD H (ds++es) (vs++us)
 |_,_,_,_,.nil,s=>s
 |_,_,_,_,.cons r t,s=>.cons r (zB.append t s)
theorem zB.take:∀ {ds:List D} {vs:List V} (n:Nat),zB K aD H ds vs->zB K aD H (ds.take n) (vs.take n)
 |_,_,0,_=>.nil
 |_,_,_+1,.nil=>.nil
 |_,_,n+1,.cons r t=>.cons r (zB.take n t)
theorem zB.drop:∀ {ds:List D} {vs:List V} (n:Nat),zB K aD H ds vs->zB K aD H (ds.drop n) (vs.drop n)
 |_,_,0,r=>r
 |_,_,_+1,.nil=>.nil
 |_,_,n+1,.cons _ t=>zB.drop n t
theorem zB.set (r:Rel K aD H d v):∀ {ds:List D} {vs:List V} (i:Nat),zB K aD H ds vs->zB K aD H (ds.set i d) (vs.set i v)
 |_,_,_,.nil=>.nil
 |_,_,0,.cons _ t=>.cons r t
 |_,_,i+1,.cons q t=>.cons q (zB.set r i t)
theorem zB.ints:∀ {ns:List Int} {vs:List V},zB K aD H (ns.map D.int) vs->vs=ns.map V.int
 |[],_,.nil=>rfl
 |n::ns,_,.cons r t=>by cases r;rw[zB.ints t];rfl
theorem zB.bls:∀ {ns:List Bool} {vs:List V},zB K aD H (ns.map D.bl) vs->vs=ns.map V.bl
 |[],_,.nil=>rfl
 |n::ns,_,.cons r t=>by cases r;rw[zB.bls t];rfl
theorem zB.mk_ints:∀ (ns:List Int),zB K aD H (ns.map D.int) (ns.map V.int)
 |[]=>.nil
 |n::ns=>.cons (.int n) (zB.mk_ints ns)
end
inductive zaF (K:PySem.W.Frag)(aD:List Addr)(H:Hp):List (Str×D)->List (Str×V)->Prop
 |nil:zaF K aD H [] []
 |cons {f:Str} {d:D} {v:V} {fs:List (Str×D)} {vs:List (Str×V)}:Rel K aD H d v->zaF K aD H fs vs->zaF K aD H ((f,d)::fs) ((f,v)::vs)
theorem zaF.wr {K:PySem.W.Frag}(w:Wr aD H aD' H'):∀ {fs:List (Str×D)} {vs:List (Str×V)},zaF K aD H fs vs->zaF K aD' H' fs vs
 |_,_,.nil=>.nil
 |_,_,.cons r t=>.cons (Rel.wr w r) (zaF.wr w t)
theorem zaF.look {K:PySem.W.Frag}{aD:List Addr}{H:Hp}{f:Str}:∀ {fs:List (Str×D)} {vs:List (Str×V)} {d:D},zaF K aD H fs vs->fs.lookup f=some d->∃ v,vs.lookup f=some v/\Rel K aD H d v
 |_,_,d,.nil,e=>by simp at e
 |_,_,d,@zaF.cons _ _ _ g x v fs vs r t,e=>by
  rw[List.lookup_cons]at e ⊢;cases h:f==g with
  |true=>rw[h]at e;cases e;exact⟨v,rfl,r⟩
  |false=>rw[h]at e;exact zaF.look t e
theorem zaF.put {K:PySem.W.Frag}{f:Str}(rd:Rel K aD H d v):∀ {fs:List (Str×D)} {vs:List (Str×V)},zaF K aD H fs vs->zaF K aD H (putD f d fs) (zbp f v vs)
 |_,_,.nil=>.cons rd .nil
 |_,_,@zaF.cons _ _ _ g x u fs vs r t=>by
  show zaF K aD H (if g=f then(g,d)::fs else(g,x)::putD f d fs) (if g=f then(g,v)::vs else(g,u)::zbp f v vs);by_cases h:g=f
  ·rw[if_pos h,if_pos h];exact .cons rd t
  ·rw[if_neg h,if_neg h];exact .cons r (zaF.put rd t)
theorem zaF.length {K:PySem.W.Frag}{aD:List Addr}{H:Hp}:∀ {fs:List (Str×D)} {vs:List (Str×V)},zaF K aD H fs vs->fs.length=vs.length
  |_,_,.nil=>rfl
  |_,_,.cons _ t=>congrArg (· + 1) (zaF.length t)
theorem zjj {f:Str}{d:D}{q:Str×D}:∀ {fs:List (Str×D)},q∈putD f d fs->q.1=f\/q∈fs
 |[],h=>by
  have:q=(f,d):=by simpa [putD]using h
  subst this;exact .inl rfl
 |(g,x)::fs,h=>by
  have h:q∈if g=f then(g,d)::fs else(g,x)::putD f d fs:=h
  by_cases e:g=f
  ·rw[if_pos e]at h;rcases List.mem_cons.mp h with rfl|h
   ·exact .inl e
   ·exact .inr (List.mem_cons_of_mem _ h)
  ·rw[if_neg e]at h;rcases List.mem_cons.mp h with rfl|h
   ·exact .inr (by simp)
   ·exact(zjj h).imp id (List.mem_cons_of_mem _)
theorem zjH {f:Str}{d:D}:∀ {fs:List (Str×D)},fs.lookup f=some d->∃ q∈fs,q.1=f
 |[],e=>by simp at e
 |(g,x)::fs,e=>by
  rw[List.lookup_cons]at e;cases h:f==g with
  |true=>exact⟨(g,x),by simp,(eq_of_beq h).symm⟩
  |false =>rw[h]at e;obtain⟨q,hq,e'⟩:=zjH e;exact⟨q,List.mem_cons_of_mem _ hq,e'⟩
inductive RelK (K:PySem.W.Frag)(aD:List Addr)(H:Hp):List (Str×D)->List (Key×V)->Prop
 |nil:RelK K aD H [] []
 |cons {x:Str} {d:D} {v:V} {fs:List (Str×D)} {vs:List (Key×V)}:Rel K aD H d v->RelK K aD H fs vs->RelK K aD H ((x,d)::fs) ((.inr x,v)::vs)
inductive zcw (K:PySem.W.Frag)(aD:List Addr)(H:Hp):List (List Key×D)->List (List Key×V)->Prop
 |nil:zcw K aD H [] []
 |cons {x:List Key} {d:D} {v:V} {fs:List (List Key×D)} {vs:List (List Key×V)}:Rel K aD H d v->zcw K aD H fs vs->zcw K aD H ((x,d)::fs) ((x,v)::vs)
theorem RelK.wr {K:PySem.W.Frag}(w:Wr aD H aD' H'):∀ {fs:List (Str×D)} {vs:List (Key×V)},RelK K aD H fs vs->RelK K aD' H' fs vs
 |_,_,.nil=>.nil
 |_,_,.cons r t=>.cons (Rel.wr w r) (RelK.wr w t)
theorem zcw.wr {K:PySem.W.Frag}(w:Wr aD H aD' H'):∀ {fs:List (List Key×D)} {vs:List (List Key×V)},zcw K aD H fs vs->zcw K aD' H' fs vs
 |_,_,.nil=>.nil
 |_,_,.cons r t=>.cons (Rel.wr w r) (zcw.wr w t)
def zci (K:PySem.W.Frag)(aD:List Addr)(H:Hp)(a:Addr):Cell->Prop
 |.lst ds=>∃ vs,H a=some (.lst vs)/\zB K aD H ds vs
 |.ins c fs=>∃ C dx vs,H a=some (.ins C dx vs)/\Cls K C/\PySem.W.nsIn K mainGlobals c=some (some (.ref C))/\zaF K aD H fs vs/\∀ q∈fs,zam K C q.1
 |.dk kvs=>∃ vs,H a=some (.dK vs)/\RelK K aD H kvs vs
 |.dt kvs=>∃ vs,H a=some (.dT vs)/\zcw K aD H kvs vs
 | .tab x l c=>∃ ps cd,H a=some (.tbl ps)/\PySem.W.tabIn K x=some (cd,a)/\zv1 H ps l c (x++".<locals>."++"<lambda>")
def zp8 (g:zpd H v q)(w:Wr aD H aD' H'):zpd H' v q :=by obtain⟨c,oc,vs,t,u,e,h,r⟩:=g;exact⟨c,oc,vs,t,u,e,w.frz _ _ _ h,r⟩
class Bs where
 aD:List Addr
 H:Hp
structure zK [B:Bs](K:PySem.W.Frag)(aD:List Addr)(H:Hp)(S:Sto):Prop where
 wd:Wd B.aD B.H aD H
 len:aD.length=S.length
 nd:aD.Nodup
 cell:∀ (n:Nat) (a:Addr) (c:Cell),aD[n]?=some a->S[n]?=some c->zci K aD H a c
structure zal (K:PySem.W.Frag)(aD:List Addr)(H:Hp)(Z:Rho)(U:L2.St):Prop where
 len:Z.length=U.length
 val:∀ (i:Nat) (d:D),Z[i]?=some (some d)->∃ v,U[i]?=some (some v)/\Rel K aD H d v
theorem zal.wd {K:PySem.W.Frag}(h:zal K aD H Z U)(w:Wd aD H aD' H'):zal K aD' H' Z U :=⟨h.len,λi d e=>by obtain⟨v,e',r⟩:=h.val i d e;exact⟨v,e',r.wd w⟩⟩
variable [B:Bs]
section
variable {K:PySem.W.Frag}{aD:List Addr}{H:Hp}{S:Sto}
def zK.get (st:zK K aD H S){n:Nat}{c:Cell}(h:S[n]?=some c):∃ a,aD[n]?=some a/\zci K aD H a c:=by
 have hn:n<aD.length:=by rw[st.len];exact My.zaT h
 exact⟨aD[n],List.getElem?_eq_getElem hn,st.cell n _ c (List.getElem?_eq_getElem hn) h⟩
theorem zci.some (h:zci K aD H a c):∃ o,H a=some o:=by
 cases c with
 |lst ds=>obtain⟨vs,e,_⟩:=h;exact⟨_,e⟩
 |ins c fs=>obtain⟨C,dx,vs,e,_⟩:=h;exact⟨_,e⟩
 |dk kvs=>obtain⟨vs,e,_⟩:=h;exact⟨_,e⟩
 |dt kvs=>obtain⟨vs,e,_⟩:=h;exact⟨_,e⟩
 |tab x l c=>obtain⟨ps,cd,e,_⟩:=h;exact⟨_,e⟩
def zK.there (st:zK K aD H S){a:Addr}(h:a∈aD):∃ o,H a=some o:=by
 obtain⟨n,hn,e⟩:=List.mem_iff_getElem.mp h;have e':aD[n]?=some a:=by rw[List.getElem?_eq_getElem hn,e]
 have hs:n<S.length:=by rw[<- st.len];exact hn
 exact(st.cell n a S[n] e' (List.getElem?_eq_getElem hs)).some
def zK.fresh (st:zK K aD H S)(h:H l=none):l∉aD:=λm=>by obtain⟨o,e⟩:=st.there m;rw[h]at e;cases e
theorem zci.wr (h:zci K aD H a c)(w:Wr aD H aD' H')(same:H' a=H a):zci K aD' H' a c:=by
 cases c with
 |lst ds=>obtain⟨vs,e,r⟩:=h;exact⟨vs,same.trans e,zB.wr w r⟩
 |ins c fs=>obtain⟨C,dx,vs,e,c1,c2,r,n⟩:=h;exact⟨C,dx,vs,same.trans e,c1,c2,zaF.wr w r,n⟩
 |dk kvs=>obtain⟨vs,e,r⟩:=h;exact⟨vs,same.trans e,RelK.wr w r⟩
 |dt kvs=>obtain⟨vs,e,r⟩:=h;exact⟨vs,same.trans e,zcw.wr w r⟩
 |tab x l c=>obtain⟨ps,cd,e,t,g⟩:=h;exact⟨ps,cd,same.trans e,t,g.imp id λzq17=>by obtain⟨c,e,g⟩:=zq17;exact⟨c,e,zp8 g w⟩⟩
def zci.wd (h:zci K aD H a c)(w:Wd aD H aD' H')(same:H' a=H a):zci K aD' H' a c:=h.wr w.wr same
def Wd.laid {o:HO}(h:H l=none):Wd aD H aD (upd H l o) :=⟨List.prefix_refl _,λb u _ e=>zdI h e,λb u e=>zdI h e,λb u w e=>zdI h e,λ_ m n=>absurd m n⟩
def zK.bfree (st:zK K aD H S)(h:H p=none):B.H p=none:=by
 cases e:B.H p with
 |none=>rfl
 |some o =>
  by_cases m:p∈B.aD
  ·obtain⟨u,hu⟩:=st.there (st.wd.pre.subset m);rw[h]at hu;cases hu
  ·rw[st.wd.keep p o m e]at h;cases h
theorem zK.laid (st:zK K aD H S){o:HO}(h:H l=none):zK K aD (upd H l o) S :=
 ⟨st.wd.trans (Wd.laid h),st.len,st.nd,λn a c e1 e2=>(st.cell n a c e1 e2).wd (Wd.laid h) (by obtain⟨u,e⟩:=(st.cell n a c e1 e2).some;rw[zdI h e,e])⟩
def Wd.newL (st:zK K aD H S){o:HO}(h:H l=none):Wd aD H (aD++[l]) (upd H l o) :=
 ⟨List.prefix_append _ _,λb u _ e=>zdI h e,λb u e=>zdI h e,λb u w e=>zdI h e,λb m n=>by
  rcases List.mem_append.mp m with m|m
  ·exact absurd m n
  ·have:b=l:=by simpa using m
   subst this;exact h⟩
theorem zK.newL (st:zK K aD H S)(h:H l=none)(r:zB K aD H ds vs):zK K (aD++[l]) (upd H l (.lst vs)) (S++[.lst ds]) where
 wd:=st.wd.trans (Wd.newL st h)
 len:=by rw[List.length_append,List.length_append,st.len];rfl
 nd:=by
  rw[List.nodup_append];refine⟨st.nd,by simp,λa ha b hb e=>?_⟩;have:b=l:=by simpa using hb
  subst this;subst e;exact st.fresh h ha
 cell:=λn a c e1 e2=>by
  by_cases hn:n<aD.length
  ·rw[List.getElem?_append_left hn]at e1;rw[List.getElem?_append_left (by rw[<- st.len];exact hn)]at e2;have ok:=st.cell n a c e1 e2;obtain⟨u,e⟩:=ok.some;exact ok.wd (Wd.newL st h) (by rw[zdI h e,e])
  ·have hn':aD.length<=n:=Nat.le_of_not_lt hn;rw[List.getElem?_append_right hn']at e1;rw[List.getElem?_append_right (by rw[<- st.len];exact hn'),<- st.len]at e2;cases hk:n-aD.length with
   |zero =>
    rw[hk]at e1 e2;have e1':l=a:=by simpa using e1
    have e2':Cell.lst ds=c:=by simpa using e2
    subst e1' e2';exact⟨vs,zat,r.wd (Wd.newL st h)⟩
   |succ k=>rw[hk]at e1;simp at e1
def zK.newRef (st:zK K aD H S){l:Addr}{o:HO}:Rel K (aD++[l]) (upd H l o) (.ref S.length) (.ref l):=.ref (by rw[<- st.len,List.getElem?_append_right (Nat.le_refl _),Nat.sub_self];rfl)
def Wd.put {n:Nat}{a:Addr}{vs ws:List V}(e:aD[n]?=some a)(h:H a=some (.lst vs)):Wd aD H aD (upd H a (.lst ws)) :=
 ⟨List.prefix_refl _,λb u hb q=>by
   have:b≠a:=λz=>hb (by rw[z];exact List.mem_of_getElem? e)
   rw[zP this];exact q,
  λb xs q=>by rw[zP (zf1 q h (by intro z;cases z))];exact q,λb o u q=>by rw[zP (zf1 q h (by intro z;cases z))];exact q,λ_ m n=>absurd m n⟩
theorem zK.put (st:zK K aD H S){n:Nat}{a:Addr}{vs:List V}(e:aD[n]?=some a)(h:H a=some (.lst vs))(r:zB K aD H ds ws):zK K aD (upd H a (.lst ws)) (S.set n (.lst ds)) where
 wd:=st.wd.trans (Wd.put e h)
 len:=by rw[List.length_set];exact st.len
 nd:=st.nd
 cell:=λm b c e1 e2=>by
  have w:=Wd.put (ws:=ws) e h;by_cases hm:m=n
  ·subst hm;rw[e]at e1;cases e1;rw[List.getElem?_set_self (by rw[<- st.len];exact My.zaT e)]at e2;cases e2;exact⟨ws,zat,r.wd w⟩
  ·rw[List.getElem?_set_ne (Ne.symm hm)]at e2
   have ne:b≠a:=λz=>by subst z;have h1:=My.zaT e1;have h2:=My.zaT e;have q1:=(List.getElem?_eq_some_iff.mp e1).2;have q2:=(List.getElem?_eq_some_iff.mp e).2;exact hm ((List.getElem_inj st.nd).mp (q1.trans q2.symm))
   exact(st.cell m b c e1 e2).wd w (zP ne)
def zK.newI (st:zK K aD H S)(h:H x=none)(h2:H dx=none)(hne:dx≠x)(hc:Cls K C)(hn:PySem.W.nsIn K mainGlobals c=some (some (.ref C))) :
  Wd aD H (aD++[x]) (upd (upd H dx (.own x)) x (.ins C dx []))/\zK K (aD++[x]) (upd (upd H dx (.own x)) x (.ins C dx [])) (S++[.ins c []]):=by
 have st1:=st.laid (o:=.own x) h2;have hx:upd H dx (.own x) x=none:=by rw[zP (Ne.symm hne)];exact h
 have w1:Wd aD H aD (upd H dx (.own x)):=Wd.laid h2;have w2:Wd aD (upd H dx (.own x)) (aD++[x]) (upd (upd H dx (.own x)) x (.ins C dx [])):=Wd.newL st1 hx;refine⟨w1.trans w2,st.wd.trans (w1.trans w2),?_,?_,λn a c' e1 e2=>?_⟩
 ·rw[List.length_append,List.length_append,st.len];rfl
 ·rw[List.nodup_append];refine⟨st.nd,by simp,λa ha b hb e=>?_⟩;have:b=x:=by simpa using hb
  subst this;subst e;exact st.fresh h ha
 ·by_cases hn':n<aD.length
  ·rw[List.getElem?_append_left hn']at e1;rw[List.getElem?_append_left (by rw[<- st.len];exact hn')]at e2;have ok:=st1.cell n a c' e1 e2;obtain⟨u,e⟩:=ok.some;exact ok.wd w2 (by rw[zdI hx e,e])
  ·have hn':aD.length<=n:=Nat.le_of_not_lt hn';rw[List.getElem?_append_right hn']at e1;rw[List.getElem?_append_right (by rw[<- st.len];exact hn'),<- st.len]at e2;cases hk:n-aD.length with
   |zero =>
    rw[hk]at e1 e2;have e1':x=a:=by simpa using e1
    have e2':Cell.ins c []=c':=by simpa using e2
    subst e1' e2';exact⟨C,dx,[],zat,hc,hn,.nil,λq hq=>by cases hq⟩
   |succ k=>rw[hk]at e1;simp at e1
def Wd.putI {n:Nat}{a C dx C' dx':Addr}{vs ws:List (Str×V)}(e:aD[n]?=some a)(h:H a=some (.ins C dx vs)):Wd aD H aD (upd H a (.ins C' dx' ws)) :=
 ⟨List.prefix_refl _,λb u hb q=>by
   have:b≠a:=λz=>hb (by rw[z];exact List.mem_of_getElem? e)
   rw[zP this];exact q,
  λb xs q=>by rw[zP (zf1 q h (by intro z;cases z))];exact q,λb o u q=>by rw[zP (zf1 q h (by intro z;cases z))];exact q,λ_ m n=>absurd m n⟩
theorem zK.putI (st:zK K aD H S){n:Nat}{a C dx:Addr}{vs:List (Str×V)}{fs:List (Str×D)}(e:aD[n]?=some a)(h:H a=some (.ins C dx vs))(hc:Cls K C)(hn:PySem.W.nsIn K mainGlobals c=some (some (.ref C)))(rf:zaF K aD H fs vs)(hna:∀ q∈fs,zam K C q.1)(hf:zam K C f)(r:Rel K aD H d v) :
  zK K aD (upd H a (.ins C dx (zbp f v vs))) (S.set n (.ins c (putD f d fs))) where
 wd:=st.wd.trans (Wd.putI e h)
 len:=by rw[List.length_set];exact st.len
 nd:=st.nd
 cell:=λm b c' e1 e2=>by
  have w:Wd aD H aD (upd H a (.ins C dx (zbp f v vs))):=Wd.putI e h;by_cases hm:m=n
  ·subst hm;rw[e]at e1;cases e1;rw[List.getElem?_set_self (by rw[<- st.len];exact My.zaT e)]at e2;cases e2;refine⟨C,dx,_,zat,hc,hn,zaF.wr w.wr (zaF.put r rf),λq hq=>?_⟩;rcases zjj hq with h1|h1
   ·rw[h1];exact hf
   ·exact hna q h1
  ·rw[List.getElem?_set_ne (Ne.symm hm)]at e2
   have ne:b≠a:=λz=>by subst z;have q1:=(List.getElem?_eq_some_iff.mp e1).2;have q2:=(List.getElem?_eq_some_iff.mp e).2;exact hm ((List.getElem_inj st.nd).mp (q1.trans q2.symm))
   exact(st.cell m b c' e1 e2).wd w (zP ne)
def Wd.hid {o:HO}(w:Wd aD H aD' H')(hp:H p=none):Wd aD H aD' (upd H' p o) :=⟨w.pre,λb u hb q=>by rw[zP (za9 q hp)];exact w.keep b u hb q,λb u q=>by rw[zP (za9 q hp)];exact w.tup b u q,λb u v q=>by rw[zP (za9 q hp)];exact w.frz b u v q,w.new⟩
def Wr.hid {vs ws:List V}(h:H p=some (.lst vs)):Wr aD H aD (upd H p (.lst ws)) :=⟨List.prefix_refl _,λb xs q=>by rw[zP (zf1 q h (by intro z;cases z))];exact q,λb o u q=>by rw[zP (zf1 q h (by intro z;cases z))];exact q⟩
theorem zK.hid (st:zK K aD H S){vs ws:List V}(h:H p=some (.lst vs))(hp:p∉aD)(hb:B.H p=none):zK K aD (upd H p (.lst ws)) S :=⟨st.wd.hid hb,st.len,st.nd,λn a c e1 e2=>(st.cell n a c e1 e2).wr (Wr.hid h) (zP λz=>hp (by rw[<- z];exact List.mem_of_getElem? e1))⟩
def Wd.add (w:Wd aD H aD' H')(hp:H p=none):Wd aD H (aD'++[p]) H' :=
 ⟨w.pre.trans (List.prefix_append _ _),w.keep,w.tup,w.frz,λb m n=>by
  rcases List.mem_append.mp m with m|m
  ·exact w.new b m n
  ·have:b=p:=by simpa using m
   subst this;exact hp⟩
theorem zK.add (st:zK K aD H S){vs:List V}(h:H p=some (.lst vs))(hp:p∉aD)(r:zB K aD H ds vs)(hb:B.H p=none):zK K (aD++[p]) H (S++[.lst ds]) where
 wd:=st.wd.add hb
 len:=by rw[List.length_append,List.length_append,st.len];rfl
 nd:=by
  rw[List.nodup_append];refine⟨st.nd,by simp,λa ha b hb e=>?_⟩;have:b=p:=by simpa using hb
  subst this;subst e;exact hp ha
 cell:=λn a c e1 e2=>by
  have w:Wr aD H (aD++[p]) H:=⟨List.prefix_append _ _,λ_ _ q=>q,λ_ _ _ q=>q⟩
  by_cases hn:n<aD.length
  ·rw[List.getElem?_append_left hn]at e1;rw[List.getElem?_append_left (by rw[<- st.len];exact hn)]at e2;exact(st.cell n a c e1 e2).wr w rfl
  ·have hn':aD.length<=n:=Nat.le_of_not_lt hn;rw[List.getElem?_append_right hn']at e1;rw[List.getElem?_append_right (by rw[<- st.len];exact hn'),<- st.len]at e2;cases hk:n-aD.length with
   |zero =>
    rw[hk]at e1 e2;have e1':p=a:=by simpa using e1
    have e2':Cell.lst ds=c:=by simpa using e2
    subst e1' e2';exact⟨vs,h,zB.wr w r⟩
   |succ k=>rw[hk]at e1;simp at e1
theorem Lst.sq (st:zK K aD H S)(h:Lst S x xs)(r:Rel K aD H x v):∃ a vs,v=.ref a/\SqL K H a vs/\zB K aD H xs vs:=by
 rcases h with rfl|⟨n,rfl,h⟩
 ·cases r with
  |rl h r=>exact⟨_,_,rfl,h.sq,r⟩
 ·cases r with
  |ref e =>obtain⟨vs,e2,r⟩:=st.cell n _ _ e h;exact⟨_,vs,rfl,SqL.of e2,r⟩
theorem zdA.sq (st:zK K aD H S)(h:zdA S x xs)(r:Rel K aD H x v):∃ a vs,v=.ref a/\(SqL K H a vs\/SqT K H a vs)/\zB K aD H xs vs:=by
 rcases h with rfl|h
 ·cases r with
  |tup h r=>exact⟨_,_,rfl,.inr (SqT.of h),r⟩
 ·obtain⟨a,vs,e,s,r⟩:=Lst.sq st h r;exact⟨a,vs,e,.inl s,r⟩
end
omit B in
def el8 {a b c d:Type}{p1 p2 p3 p4:a->b->c->d->Prop}{R:Prop}(h:∃ (x:a) (y:b) (z:c) (w:d),p1 x y z w/\p2 x y z w/\p3 x y z w/\p4 x y z w)(f:∀ (x:a) (y:b) (z:c) (w:d),p1 x y z w->p2 x y z w->p3 x y z w->p4 x y z w->R):R :=Exists.elim h λx h=>Exists.elim h λy h=>Exists.elim h λz h=>Exists.elim h λw h=>f x y z w h.1 h.2.1 h.2.2.1 h.2.2.2
def KK (K:PySem.W.Frag)(aD:List Addr)(H:Hp)(Q0:DK)(Q:VK):=∀ d S' v H' aD',Q0 d S'->Wd aD H aD' H'->zK K aD' H' S'->Rel K aD' H' d v->Q v H'
def KK.wd {K:PySem.W.Frag}(k:KK K aD H Q0 Q)(w:Wd aD H aD' H'):KK K aD' H' Q0 Q:=λd S' v H' aD' q w'=>k d S' v H' aD' q (w.trans w')
def up (K:PySem.W.Frag)(t:DE):TE:=λU H Q=>∃ aD Z S Q0,zK K aD H S/\zal K aD H Z U/\t Z S Q0/\KK K aD H Q0 Q
def upT (K:PySem.W.Frag)(t:DT):TT:=λU H Q=>∃ aD Z S Q0,zK K aD H S/\zal K aD H Z U/\t Z S Q0/\∀ b S' H' aD',Q0 b S'->Wd aD H aD' H'->zK K aD' H' S'->Q b H'
def upA (K:PySem.W.Frag)(t:DA):TA:=λU H Q=>∃ aD Z S Q0,zK K aD H S/\zal K aD H Z U/\t Z S Q0/\∀ ds S' vs H' aD',Q0 ds S'->Wd aD H aD' H'->zK K aD' H' S'->zB K aD' H' ds vs->Q vs H'
def zK.base {K:PySem.W.Frag}(st:zK K aD H S):@zK ⟨aD,H⟩ K aD H S:=@zK.mk ⟨aD,H⟩ _ _ _ _ Wd.refl st.len st.nd st.cell
def zK.back {K:PySem.W.Frag}{aD':List Addr}{H':Hp}{S':Sto}(st:zK K aD H S)(st':@zK ⟨aD,H⟩ K aD' H' S'):zK K aD' H' S' :=⟨st.wd.trans (@zK.wd ⟨aD,H⟩ _ _ _ _ st'),@zK.len ⟨aD,H⟩ _ _ _ _ st',@zK.nd ⟨aD,H⟩ _ _ _ _ st',@zK.cell ⟨aD,H⟩ _ _ _ _ st'⟩
def KK.base {K:PySem.W.Frag}(st:zK K aD H S)(k:KK K aD H Q0 Q):@KK ⟨aD,H⟩ K aD H Q0 Q:=λd S' v H' aD' q w st' r=>k d S' v H' aD' q w (st.back st') r
def upF (K:PySem.W.Frag)(f:DSp):Sp:=λvs H Q _=>∃ aD S ds Q0,@zK ⟨aD,H⟩ K aD H S/\zB K aD H ds vs/\f ds S Q0/\@KK ⟨aD,H⟩ K aD H Q0 Q
structure zdp (K:PySem.W.Frag)(aD:List Addr)(H:Hp)(E0:zgd)(E:Ends):Prop where
 nx:∀ Z S U H' aD',E0.nx Z S->Wd aD H aD' H'->zK K aD' H' S->zal K aD' H' Z U->E.nx U H'
 rt:KK K aD H E0.rt E.rt
 bk:∀ Z S U H' aD',E0.bk Z S->Wd aD H aD' H'->zK K aD' H' S->zal K aD' H' Z U->E.bk U H'
 ct:∀ Z S U H' aD',E0.ct Z S->Wd aD H aD' H'->zK K aD' H' S->zal K aD' H' Z U->E.ct U H'
theorem zdp.wd {K:PySem.W.Frag}{E0:zgd}(k:zdp K aD H E0 E)(w:Wd aD H aD' H'):zdp K aD' H' E0 E :=⟨λZ S U H' aD' q w'=>k.nx Z S U H' aD' q (w.trans w'),k.rt.wd w,λZ S U H' aD' q w'=>k.bk Z S U H' aD' q (w.trans w'),λZ S U H' aD' q w'=>k.ct Z S U H' aD' q (w.trans w')⟩
def upS (K:PySem.W.Frag)(t:DS):TS:=λE U H=>∃ aD Z S E0,zK K aD H S/\zal K aD H Z U/\t E0 Z S/\zdp K aD H E0 E
@[irreducible] def PD (X:Cx)(e:Expr)(t:DE):Prop:=PE X e (up X.K t)
@[irreducible] def PTD (X:Cx)(e:Expr)(t:DT):Prop:=PT X e (upT X.K t)
@[irreducible] def PWD (X:Cx)(e:Expr)(t:DT):Prop:=PW X e (upT X.K t)
@[irreducible] def PAD (X:Cx)(es:List Expr)(t:DA):Prop:=PA X es (upA X.K t)
@[irreducible] def PSD (X:Cx)(st:Stmt)(t:DS):Prop:=PS X st (upS X.K t)
@[irreducible] def zcS (X:Cx)(st:List Stmt)(t:DS):Prop:=PSs X st (upS X.K t)
def zpO {e:Expr}{t':TE}(h:PE X e t)(m:∀ U H Q,t' U H Q->t U H Q):PE X e t':=λpins s U H Q I q=>h pins s U H Q I (m U H Q q)
def zgg {e:Expr}{t':TT}(h:PT X e t)(m:∀ U H Q,t' U H Q->t U H Q):PT X e t':=λpins s U H Q I q=>h pins s U H Q I (m U H Q q)
def zk6 {e:Expr}{t':TT}(h:PW X e t)(m:∀ U H Q,t' U H Q->t U H Q):PW X e t':=λwh pins s U H Q I q=>h wh pins s U H Q I (m U H Q q)
def zkI {e:List Expr}{t':TA}(h:PA X e t)(m:∀ U H Q,t' U H Q->t U H Q):PA X e t':=λpos pins s U H Q I q=>h pos pins s U H Q I (m U H Q q)
def zaN {st:Stmt}{t':TS}(h:PS X st t)(m:∀ D U H,t' D U H->t D U H):PS X st t':=λpins s U H D I q=>h pins s U H D I (m D U H q)
def zjK {st:List Stmt}{t':TS}(h:PSs X st t)(m:∀ D U H,t' D U H->t D U H):PSs X st t':=λpins s U H D I q=>h pins s U H D I (m D U H q)
section
variable {X:Cx}{a b c:Expr}{ta tb tc:DE}{pos:Pos}
def zaC {e:Expr}{d:DE}(h:PE X e t)(m:∀ U H Q,up X.K d U H Q->t U H Q):PD X e d:=by with_unfolding_all exact(zpO h m)
def zkg {e:Expr}{i:Nat}(h:PE X e (zn1 i)):PD X e (zaZ i):=by with_unfolding_all exact(zaC h λU H Q zq18=>by obtain⟨aD,Z,S,Q0,st,rh,⟨d,e,q⟩,k⟩:=zq18;obtain⟨v,ev,r⟩:=rh.val i d e;exact⟨v,ev,k d S v H aD q Wd.refl st r⟩)
def zfs {e:Expr}{v:V}{d:D}(h:PE X e (tC v))(r:∀ aD H,Rel X.K aD H d v):PD X e (dC d):=by with_unfolding_all exact(zaC h λU H Q hh=>el8 hh λaD Z S Q0 st rh q k=>k d S v H aD q Wd.refl st (r _ _))
def zf {i j}:PD X (.Constant (.int i) j pos) (dC (.int i)):=by with_unfolding_all exact(zfs zj4 λ_ _=>.int i)
def zdP {b j}:PD X (.Constant (.bool b) j pos) (dC (.bl b)):=by with_unfolding_all exact(zfs zvu λ_ _=>.bl b)
def zbl {j}:PD X (.Constant .none j pos) (dC .non):=by with_unfolding_all exact(zfs zta λ_ _=>.non)
def zaz {x j}:PD X (.Constant (.str x) j pos) (dC (.str x)):=by with_unfolding_all exact(zfs zjx λ_ _=>.str x)
def ziY {T:String}(hg:Gl X x)(hm:X.mg x=none)(hv:bootBuiltins x=some (.type T))(hn:autoParam (x≠"__name__") zW)(hd:autoParam ((x==("__debug__":Str))=false) zW):PD X (.Name x pos) (dC (.ty T)):=by with_unfolding_all exact(zfs (zvb hg hm hv hn hd) λ_ _=>.ty T)
def z9 {n:Int}(hg:Gl X x)(hm:∃ t,X.mg x=some (.int n t))(hd:autoParam ((x==("__debug__":Str))=false) zW):PD X (.Name x pos) (dC (.int n)):=by with_unfolding_all exact(zfs (zqq hg hm hd) λ_ _=>.int n)
def zrn {z:Str}(hg:Gl X x)(hm:∃ t,X.mg x=some (.str z t))(hd:autoParam ((x==("__debug__":Str))=false) zW):PD X (.Name x pos) (dC (.str z)):=by with_unfolding_all exact(zfs (by obtain⟨t,hm⟩:=hm;exact zld (v:=.str z) hg hm ⟨t,rfl⟩ hd) λ_ _=>.str z)
def zkS {i j:Int}{m n:Nat}{p1 p2:Pos}(c:Int)(h:autoParam (i ^ j.toNat=c) zcP)(h0:0<=j/\j<=1000000/\i.natAbs<2 ^ 64:=by exact⟨by decide,by decide,by decide⟩):PD X (.BinOp (.Constant (.int i) m p1) .Pow (.Constant (.int j) n p2) pos) (dC (.int c)):=by with_unfolding_all exact(zfs (zp2 c h h0) λ_ _=>.int c)
def OD (K:PySem.W.Frag)(r':DR2)(r:R2):=∀ aD H S x y v u Q0 Q,zK K aD H S->Rel K aD H x v->Rel K aD H y u->r' x y S Q0->KK K aD H Q0 Q->r v u H Q
def zho {K:PySem.W.Frag}(o:OD K r' r){U:L2.St}{H:Hp}{Q:VK}(h:up K (dOp r' ta tb) U H Q):tOp r (up K ta) (up K tb) U H Q:=by obtain⟨aD,Z,S,Q0,st,rh,q,k⟩:=h;refine⟨aD,Z,S,_,st,rh,q,λx S1 v H1 ad1 q1 w1 st1 r1=>?_⟩;refine⟨ad1,Z,S1,_,st1,rh.wd w1,q1,λy S2 u H2 ad2 q2 w2 st2 r2=>?_⟩;exact o ad2 H2 S2 x y v u Q0 Q st2 (r1.wd w2) r2 q2 (k.wd (w1.trans w2))
def zhc {op:Operator}(ho:OpR X (binaryOp op) r)(o:OD X.K r' r)(ha:PD X a ta)(hb:PD X b tb):PD X (.BinOp a op b pos) (dOp r' ta tb):=by with_unfolding_all exact(zaC (zpf ho ha hb) λ_ _ _=>zho o)
def zls {K:PySem.W.Frag}{C C':Int->Int->Prop}{g:Int->Int->D}{g':Int->Int->V}(hc:∀ i j,C i j->C' i j)(hg:∀ aD H i j,Rel K aD H (g i j) (g' i j)):OD K (oI C g) (rI C' g'):=λaD H S x y v u Q0 Q st rx ry zq19 k=>by obtain⟨i,j,ex,ey,c,q⟩:=zq19;subst ex ey;cases rx;cases ry;exact⟨i,j,rfl,rfl,hc i j c,k _ S _ H aD q Wd.refl st (hg aD H i j)⟩
def ziW {K:PySem.W.Frag}{g:Int->Int->D}{g':Int->Int->V}(hg:∀ aD H i j,Rel K aD H (g i j) (g' i j)):OD K (oI0 g) (rI0 g'):=λaD H S x y v u Q0 Q st rx ry zq20 k=>by obtain⟨i,j,ex,ey,q⟩:=zq20;subst ex ey;cases rx;cases ry;exact⟨i,j,rfl,rfl,k _ S _ H aD q Wd.refl st (hg aD H i j)⟩
def zm9 {i:Int}(h:i.natAbs<2 ^ 64):-(2 ^ 64)<i/\i<2 ^ 64:=⟨by lia,by lia⟩
def zuu (i j:Int):Prop:=zaa i j
def zrm:OpR X (binaryOp .Mult) (rI zuu λi j=>.int (i*j)):=opI λi j _ _ _ _ _ hc q=>by
 rcases hc with h|h|h
 ·exact mul_int q (IntMulOk.of_bits (zg6 h.1) (zg6 h.2))
 ·exact mul_int q (zmd.ok (.inl (zm9 h)))
 ·exact mul_int q (zmd.ok (.inr (zm9 h)))
def zU (ha:PD X a ta)(hb:PD X b tb):PD X (.BinOp a .Sub b pos) (dOp zag ta tb):=by with_unfolding_all exact(zhc ztn (ziW λ_ _ i j=>.int (i-j)) ha hb)
def zsl {z:Str}{n:Int}(hz:z.length<=1000)(h0:-1000<=n)(h1:n<=1000):MulOk z n:=by
 refine⟨?_,λ_ _=>?_,λh _=>?_⟩
 ·rw[decide_eq_false (by lia),decide_eq_false (by lia)];rfl
 ·have:(1000:Int)<=(2 ^ 63-1)/n\/n<1:=by
   rcases Int.lt_or_le n 1 with g|g
   ·exact .inr g
   ·exact .inl ((Int.le_ediv_iff_mul_le (by lia)).mpr (by lia))
  lia
 ·have:z.length*n.toNat<=1000*1000:=Nat.mul_le_mul hz (by lia);have hs:z.length*n.toNat<=sizeLine:=Nat.le_trans this (by decide)
  first
   |exact decide_eq_false (by lia)
   |(unfold tooLong;exact decide_eq_false (by lia))
   |simp[tooLong];lia
def zqr:OpR X (binaryOp .Mult) (λx y H Q=>∃ z n,x=.str z/\y=.int n/\MulOk z n/\Q (.str (Txt.mul z n)) H):=by intro pins s U H x y v u Q I rx ry h;obtain⟨z,n,rfl,rfl,ok,q⟩:=h;obtain⟨t,rfl⟩:=rx;obtain⟨t',rfl⟩:=ry;exact SB.mul ok λt' k=>⟨.str (Txt.mul z n),H,I.tok _,⟨_,rfl⟩,q⟩
omit B in
def zkN (h:Hg i):Builtin.Int.intBits i<=2 ^ 20:=by unfold Hg at h;exact intBits_le h
omit B in
def zpZ (h:Builtin.Int.intBits i<=2 ^ 20):Hg i:=by unfold Hg;exact Nat.lt_of_lt_of_le (natAbs_lt_pow_bits i) (Nat.pow_le_pow_right (by decide) h)
def zqG:OpR X (binaryOp .Mult) (rI (λi j=>Hg i/\Hg j) λi j=>.int (i*j)):=opI λi j _ _ _ _ _ hc q=>mul_int q (IntMulOk.of_bits (zkN hc.1) (zkN hc.2))
def zN (ha:PD X a ta)(hb:PD X b tb):PD X (.BinOp a .Mult b pos) (dOp zac ta tb):=by with_unfolding_all exact(zhc (zrm.or (zqr.or zqG)) (λaD H S x y v u Q0 Q st rx ry h k=>by
 rcases h with h|⟨z,n,rfl,rfl,hz,h0,h1,q⟩|h
 ·exact .inl (zls (λ_ _ h=>h) (λ_ _ i j=>.int (i*j)) aD H S x y v u Q0 Q st rx ry h k)
 ·cases rx;cases ry;exact .inr (.inl ⟨z,n,rfl,rfl,zsl hz h0 h1,k _ S _ H aD q Wd.refl st (.str _)⟩)
 ·exact .inr (.inr (zls (λ_ _ h=>h) (λ_ _ i j=>.int (i*j)) aD H S x y v u Q0 Q st rx ry h k))) ha hb)
def zan (ha:PD X a ta)(hb:PD X b tb):PD X (.BinOp a .FloorDiv b pos) (dOp oDiv ta tb):=by with_unfolding_all exact(zhc zos (zls (λ_ _ h=>h) λ_ _ i j=>.int (i.fdiv j)) ha hb)
def zah (ha:PD X a ta)(hb:PD X b tb):PD X (.BinOp a .Mod b pos) (dOp oMod ta tb):=by with_unfolding_all exact(zhc zqQ (zls (λ_ _ h=>h) λ_ _ i j=>.int (i.fmod j)) ha hb)
def zck {n:Nat}(h:n<=big):n<=sizeLine:=Nat.le_trans h (by decide)
def znw {n:Nat}(h:n<big):n<sizeLine:=Nat.lt_of_lt_of_le h (by decide)
def zd1 {K:PySem.W.Frag}(st:zK K aD H S)(k:KK K aD H Q0 Q)(r:zB K aD H ds vs)(q:Q0 (.ref S.length) (S++[.lst ds]))(l:Addr)(h:H l=none):Q (.ref l) (upd H l (.lst vs)) :=k _ _ _ _ _ q (Wd.newL st h) (st.newL h r) st.newRef
def zhn {K:PySem.W.Frag}(st:zK K aD H S)(k:KK K aD H Q0 Q)(r:zB K aD H ds vs)(q:Q0 (.tup ds) S)(l:Addr)(h:H l=none):Q (.ref l) (upd H l (.tup vs)) :=k _ _ _ _ _ q (Wd.laid h) (st.laid h) (.tup zat (r.wd (Wd.laid h)))
def zR (ha:PD X a ta)(hb:PD X b tb):PD X (.BinOp a .Add b pos) (dOp zaf ta tb):=by with_unfolding_all exact(zhc (zrz.or ((zoK rfl).or ((zp5 rfl).or zl9))) (λaD H S x y v u Q0 Q st rx ry h k=>by
  rcases h with⟨i,j,rfl,rfl,q⟩|⟨xs,ys,rfl,rfl,hz,q⟩|⟨xs,ys,hx,hy,hz,q⟩|⟨i,j,rfl,rfl,hz,q⟩
  ·cases rx;cases ry;exact .inl ⟨i,j,rfl,rfl,k _ S _ H aD q Wd.refl st (.int _)⟩
  ·cases rx with
   |tup h1 r1 =>
    cases ry with
    |tup h2 r2 =>
     have l1:=r1.length;have l2:=r2.length;refine .inr (.inl ⟨_,_,_,_,rfl,rfl,SqT.of h1,SqT.of h2,by rw[<- l1,<- l2];exact zck hz,λe=>?_,λ_ e=>?_,λ_ _ p hp=>zhn st k (r1.append r2) q p hp⟩)
     ·have e':xs=[]:=List.length_eq_zero_iff.mp (by rw[l1,e];rfl);subst e';exact k _ S _ H aD q Wd.refl st (.tup h2 r2)
     ·have e':ys=[]:=List.length_eq_zero_iff.mp (by rw[l2,e];rfl);subst e';rw[List.append_nil]at q;exact k _ S _ H aD q Wd.refl st (.tup h1 r1)
  ·obtain⟨a1,vs1,rfl,s1,r1⟩:=hx.sq st rx;obtain⟨a2,vs2,rfl,s2,r2⟩:=hy.sq st ry;exact .inr (.inr (.inl ⟨_,_,_,_,rfl,rfl,s1,s2,by rw[<- r1.length,<- r2.length];exact zck hz,λp hp=>zd1 st k (r1.append r2) q p hp⟩))
  ·cases rx;cases ry;exact .inr (.inr (.inr ⟨i,j,rfl,rfl,zck hz,k _ S _ H aD q Wd.refl st (.str _)⟩))) ha hb)
def zaA (ha:PD X a ta):PD X (.UnaryOp .USub a pos) (dUn za8 ta):=by with_unfolding_all exact(zaC (zu7 zrZ ha) λU H Q hh=>el8 hh λaD Z S Q0 st rh q k=>by refine⟨aD,Z,S,_,st,rh,q,λx S1 v H1 ad1 q1 w1 st1 r1=>?_⟩;obtain⟨i,rfl,q1⟩:=q1;cases r1;exact⟨i,rfl,k _ _ _ _ _ q1 w1 st1 (.int _)⟩)
def OC (X:Cx)(op:CmpOp)(r':DR2):=∃ r,OpR X (compareOp op) r/\OD X.K r' r
def zaR:OC X .Lt oLt:=⟨_,zuc,ziW λ_ _ _ _=>.bl _⟩
def zdH:OC X .LtE oLe:=⟨_,zvj,ziW λ_ _ _ _=>.bl _⟩
def zbn:OC X .Gt oGt:=⟨_,zu3,ziW λ_ _ _ _=>.bl _⟩
mutual
noncomputable def pyD:D->PyData
 |.non=>.none
 |.bl b=>.bool b
 |.int i=>.int i
 |.str x=>.str x
 |.tup xs=>.tuple (zaq xs)
 |.ref _=>.none
 |.ty _=>.none
 |.rl _=>.none
 |.exn _=>.none
 |.kt _=>.none
noncomputable def zaq:List D->List PyData
 |[]=>[]
 |x::xs=>pyD x::zaq xs
end
section
variable {pins:List (Addr×Obj)}{U:L2.St}{H:Hp}{s:Shared}{aD:List Addr}
def zea (I:Inv X pins U H s)(k:Nat)(h1:∀ d v u,fl k d=true->Rel X.K aD H d v->RelV v u->∃ as,Reads s.heap u (pyD d) as):∀ ds vs us,ds.all (fl k)=true->zB X.K aD H ds vs->Vals vs us->∃ as,ReadsAll s.heap us (zaq ds) as:=by
 intro ds
 induction ds with
 |nil=>intro vs us _ r rv;cases r;cases rv;exact⟨_,.nil⟩
 |cons d ds ih =>
  intro vs us hf r rv;rw[List.all_cons,Bool.and_eq_true]at hf;cases r with
  |cons r t =>
   cases rv with
   |cons q qt =>obtain⟨as,ra⟩:=h1 d _ _ hf.1 r q;obtain⟨bs,rb⟩:=ih _ _ hf.2 t qt;exact⟨_,.cons ra rb⟩
def zb8 (I:Inv X pins U H s):∀ (k:Nat) (d:D) (v:V) (u:Value),fl k d=true->Rel X.K aD H d v->RelV v u->∃ as,Reads s.heap u (pyD d) as:=by
 intro k
 induction k with
 |zero =>
  intro d v u hf r q;cases r with
  |non=>cases q;exact⟨_,.none⟩
  |bl b=>cases q;exact⟨_,.bool b⟩
  |int i=>obtain⟨t,rfl⟩:=q;exact⟨_,.int i t⟩
  |str x=>obtain⟨t,rfl⟩:=q;exact⟨_,.str x t⟩
  |ty n=>cases hf
  |tup h r=>cases hf
  |rl h r=>cases hf
  |kt h r=>cases hf
  |ref h=>cases hf
  |exn _ _ _=>cases hf
 |succ k ih =>
  intro d v u hf r q;cases r with
  |non=>cases q;exact⟨_,.none⟩
  |bl b=>cases q;exact⟨_,.bool b⟩
  |int i=>obtain⟨t,rfl⟩:=q;exact⟨_,.int i t⟩
  |str x=>obtain⟨t,rfl⟩:=q;exact⟨_,.str x t⟩
  |ty n=>cases hf
  |tup h r =>cases q;obtain⟨its,rv,ht,hz⟩:=I.tuple (SqT.of h);obtain⟨o,ho,hc,n,hd⟩:=ht;obtain⟨as,ra⟩:=zea I k ih _ _ _ hf r rv;exact⟨_,.tuple ho hc hd (by simpa using ra)⟩
  |rl h r=>cases hf
  |kt h r=>cases hf
  |ref h=>cases hf
  |exn _ _ _=>cases hf
end
def zfi:∀ (k:Nat) (d:D),fl k d=true->(pyD d).canLay0=true/\(pyD d).depth<=k:=by
 have all:∀ k,(∀ d,fl k d=true->(pyD d).canLay0=true/\(pyD d).depth<=k)->∀ ds:List D,ds.all (fl k)=true->PyData.canLayAll0 (zaq ds)=true/\PyData.depthAll (zaq ds)<=k:=by
  intro k h ds
  induction ds with
  |nil=>intro _;exact⟨rfl,Nat.zero_le _⟩
  |cons d ds ih =>
   intro hf;rw[List.all_cons,Bool.and_eq_true]at hf;obtain⟨a1,a2⟩:=h d hf.1;obtain⟨b1,b2⟩:=ih hf.2;refine⟨?_,?_⟩
   ·show(PyData.canLay0 (pyD d)&&PyData.canLayAll0 (zaq ds))=true;rw[a1,b1];rfl
   ·show max (PyData.depth (pyD d)) (PyData.depthAll (zaq ds))<=k;exact Nat.max_le.mpr ⟨a2,b2⟩
 intro k
 induction k with
 |zero =>
  intro d hf;cases d with
  |non=>exact⟨rfl,Nat.zero_le _⟩
  |bl b=>exact⟨rfl,Nat.zero_le _⟩
  |int i=>exact⟨rfl,Nat.zero_le _⟩
  |str x=>exact⟨hf,Nat.zero_le _⟩
  |tup xs=>cases hf
  |ref n=>cases hf
  |exn _=>cases hf
  |ty n=>cases hf
  |rl xs=>cases hf
  |kt xs=>cases hf
 |succ k ih =>
  intro d hf;cases d with
  |non=>exact⟨rfl,Nat.zero_le _⟩
  |bl b=>exact⟨rfl,Nat.zero_le _⟩
  |int i=>exact⟨rfl,Nat.zero_le _⟩
  |str x=>exact⟨hf,Nat.zero_le _⟩
  |tup xs =>obtain⟨h1,h2⟩:=all k ih xs hf;refine⟨h1,?_⟩;show PyData.depthAll (zaq xs)+1<=k+1;lia
  |ref n=>cases hf
  |exn _=>cases hf
  |ty n=>cases hf
  |rl xs=>cases hf
  |kt xs=>cases hf
def zdd (k:Nat):∀ ds:List D,ds.all (fl k)=true->PyData.canLayAll0 (zaq ds)=true/\PyData.depthAll (zaq ds)<=k:=by
 intro ds
 induction ds with
 |nil=>intro _;exact⟨rfl,Nat.zero_le _⟩
 |cons d ds ih =>
  intro hf;rw[List.all_cons,Bool.and_eq_true]at hf;obtain⟨a1,a2⟩:=zfi k d hf.1;obtain⟨b1,b2⟩:=ih hf.2;refine⟨?_,?_⟩
  ·show(PyData.canLay0 (pyD d)&&PyData.canLayAll0 (zaq ds))=true;rw[a1,b1];rfl
  ·show max (PyData.depth (pyD d)) (PyData.depthAll (zaq ds))<=k;exact Nat.max_le.mpr ⟨a2,b2⟩
mutual
theorem zjg:∀ (k:Nat) (x y:D),fl k x=true->fl k y=true->PyData.eqv (pyD x) (pyD y)=eqv x y
  |k,.non,y,_,hy=>by cases y<;>first|rfl|(cases k<;>cases hy)
  |k,.bl a,y,_,hy=>by cases y<;>first|rfl|(cases k<;>cases hy)
  |k,.int i,y,_,hy=>by
    cases y with
    |int j=>show(i==j)=decide (i=j);rw[Bool.beq_eq_decide_eq]
    |ref n=>cases k<;>cases hy
    |exn n=>cases k<;>cases hy
    |ty n=>cases k<;>cases hy
    |rl n=>cases k<;>cases hy
    |kt n=>cases k<;>cases hy
    |_=>rfl
  |k,.str a,y,_,hy=>by cases y<;>first|rfl|(cases k<;>cases hy)
  |0,.tup xs,y,hx,_=>by cases hx
  |k+1,.tup xs,y,hx,hy=>by
    cases y with
    |tup ys=>exact zek k xs ys hx hy
    |ref n=>cases hy
    |ty n=>cases hy
    |rl n=>cases hy
    |kt n=>cases hy
    |_=>rfl
  |k,.ref n,y,hx,_=>by cases k<;>cases hx
  |k,.ty n,y,hx,_=>by cases k<;>cases hx
  |k,.rl n,y,hx,_=>by cases k<;>cases hx
  |k,.kt n,y,hx,_=>by cases k<;>cases hx
  |k,.exn n,y,hx,_=>by cases k<;>cases hx
theorem zek:∀ (k:Nat) (xs ys:List D),xs.all (fl k)=true->ys.all (fl k)=true->PyData.eqvAll (zaq xs) (zaq ys)=eqvAll xs ys
  |k,[],[],_,_=>rfl
  |k,[],y::ys,_,_=>rfl
  |k,x::xs,[],_,_=>rfl
  |k,x::xs,y::ys,hx,hy=>by rw[List.all_cons,Bool.and_eq_true]at hx hy;show(PyData.eqv (pyD x) (pyD y)&&PyData.eqvAll (zaq xs) (zaq ys))=(eqv x y&&eqvAll xs ys);rw[zjg k x y hx.1 hy.1,zek k xs ys hx.2 hy.2]
end
noncomputable def zc7 (xss:List (List D)):List PyData:=xss.map λzs=>.list (zaq zs)
theorem zj2:∀ xss:List (List D),zeO xss=true->PyData.canLayAll0 (zc7 xss)=true/\PyData.depthAll (zc7 xss)<=21
 |[],_=>⟨rfl,Nat.zero_le _⟩
 |zs::xss,h=>by
  unfold zeO at h;rw[List.all_cons,Bool.and_eq_true]at h;obtain⟨a1,a2⟩:=zdd 20 zs h.1;obtain⟨b1,b2⟩:=zj2 xss h.2;refine⟨?_,?_⟩
  ·show(PyData.canLayAll0 (zaq zs)&&PyData.canLayAll0 (zc7 xss))=true;rw[a1,b1];rfl
  ·show max (PyData.depthAll (zaq zs)+1) (PyData.depthAll (zc7 xss))<=21;exact Nat.max_le.mpr ⟨by lia,b2⟩
theorem zm2:∀ xss yss:List (List D),zeO xss=true->zeO yss=true->PyData.eqvAll (zc7 xss) (zc7 yss)=eqvAll (xss.map D.tup) (yss.map D.tup)
 |[],[],_,_=>rfl
 |[],_::_,_,_=>rfl
 |_::_,[],_,_=>rfl
 |zs::xss,ws::yss,h,k=>by unfold zeO at h k;rw[List.all_cons,Bool.and_eq_true]at h k;show(PyData.eqvAll (zaq zs) (zaq ws)&&PyData.eqvAll (zc7 xss) (zc7 yss))=(eqvAll zs ws&&eqvAll (xss.map D.tup) (yss.map D.tup));rw[zek 20 zs ws h.1 k.1,zm2 xss yss h.2 k.2]
theorem zgN (I:Inv X pins U H s)(st:zK X.K aD H S):∀ (xs:List D) (xss:List (List D)) (vs:List V) (us:List Value),zgY S xs xss->zeO xss=true->zB X.K aD H xs vs->Vals vs us->∃ as,ReadsAll s.heap us (zc7 xss) as
 |[],[],_,_,_,_,r,rv=>by cases r;cases rv;exact⟨_,.nil⟩
 |[],_::_,_,_,h,_,_,_=>h.elim
 |_::_,[],_,_,h,_,_,_=>h.elim
 |x::xs,zs::xss,_,_,h,f,r,rv=>by
  unfold zeO at f;rw[List.all_cons,Bool.and_eq_true]at f;cases r with
  |cons r t =>
   obtain⟨a1,vs1,rfl,s1,r1⟩:=h.1.sq st r;cases rv with
   |cons q qt =>cases q;obtain⟨its,rv1,ht,hz⟩:=I.list s1;obtain⟨o,ho,hc,n,hd⟩:=ht.isList;obtain⟨as,ra⟩:=zea I 20 (zb8 I 20) _ _ _ f.1 r1 rv1;obtain⟨bs,rb⟩:=zgN I st xs xss _ _ h.2 f.2 t qt;exact⟨_,.cons (.list ho hc hd (by simpa using ra)) rb⟩
def zn2 {α β:Type}{f:α->Option β}{x:α}{xs:List α}{ps:List β}(h:za4 f (x::xs)=some ps):∃ y ys,f x=some y/\za4 f xs=some ys/\ps=y::ys:=by
 unfold za4 at h;cases e1:f x with
 |none=>rw[e1]at h;cases h
 |some y =>
  cases e2:za4 f xs with
  |none=>rw[e1,e2]at h;cases h
  |some ys=>rw[e1,e2]at h;cases h;exact⟨y,ys,rfl,rfl,rfl⟩
section
variable {pins:List (Addr×Obj)}{U:L2.St}{H:Hp}{s:Shared}{aD:List Addr}{S:Sto}
def zhV (k:Nat)(h1:∀ d v u p,tre S k d=some p->Rel X.K aD H d v->RelV v u->(∃ as,Reads s.heap u p as)/\p.canLay0=true/\p.depth<=k):∀ ds vs us ps,za4 (tre S k) ds=some ps->zB X.K aD H ds vs->Vals vs us->(∃ as,ReadsAll s.heap us ps as)/\PyData.canLayAll0 ps=true/\PyData.depthAll ps<=k:=by
 intro ds
 induction ds with
 |nil=>intro vs us ps e r rv;cases r;cases rv;cases e;exact⟨⟨_,.nil⟩,rfl,Nat.zero_le _⟩
 |cons d ds ih =>
  intro vs us ps e r rv;obtain⟨y,ys,e1,e2,rfl⟩:=zn2 e;cases r with
  |cons r t =>
   cases rv with
   |cons q qt =>
    obtain⟨⟨as,ra⟩,c1,d1⟩:=h1 d _ _ _ e1 r q;obtain⟨⟨bs,rb⟩,c2,d2⟩:=ih _ _ _ e2 t qt;refine⟨⟨_,.cons ra rb⟩,?_,?_⟩
    ·show(PyData.canLay0 y&&PyData.canLayAll0 ys)=true;rw[c1,c2];rfl
    ·show max (PyData.depth y) (PyData.depthAll ys)<=k;exact Nat.max_le.mpr ⟨d1,d2⟩
def zkR (I:Inv X pins U H s)(st:zK X.K aD H S):∀ (k:Nat) (d:D) (v:V) (u:Value) (p:PyData),tre S k d=some p->Rel X.K aD H d v->RelV v u->(∃ as,Reads s.heap u p as)/\p.canLay0=true/\p.depth<=k:=by
  intro k
  induction k with
  |zero =>
    intro d v u p e r q;cases r with
    |non=>cases q;cases e;exact⟨⟨_,.none⟩,rfl,Nat.zero_le _⟩
    |bl b=>cases q;cases e;exact⟨⟨_,.bool b⟩,rfl,Nat.zero_le _⟩
    |int i=>obtain⟨t,rfl⟩:=q;cases e;exact⟨⟨_,.int i t⟩,rfl,Nat.zero_le _⟩
    |str x =>
      obtain⟨t,rfl⟩:=q;have e:(if x.cps.all (· < 0x110000)=true then some (PyData.str x)else none)=some p:=e;by_cases hx:x.cps.all (· < 0x110000)=true
      . rw[if_pos hx]at e;cases e;exact⟨⟨_,.str x t⟩,hx,Nat.zero_le _⟩
      . rw[if_neg hx]at e;cases e
    |ty n=>cases e
    |tup h r=>cases e
    |rl h r=>cases e
    |kt h r=>cases e
    |ref h=>cases e
    |exn _ _ _=>cases e
  |succ k ih =>
    intro d v u p e r q;cases r with
    |non=>cases q;cases e;exact⟨⟨_,.none⟩,rfl,Nat.zero_le _⟩
    |bl b=>cases q;cases e;exact⟨⟨_,.bool b⟩,rfl,Nat.zero_le _⟩
    |int i=>obtain⟨t,rfl⟩:=q;cases e;exact⟨⟨_,.int i t⟩,rfl,Nat.zero_le _⟩
    |str x =>
      obtain⟨t,rfl⟩:=q;have e:(if x.cps.all (· < 0x110000)=true then some (PyData.str x)else none)=some p:=e;by_cases hx:x.cps.all (· < 0x110000)=true
      . rw[if_pos hx]at e;cases e;exact⟨⟨_,.str x t⟩,hx,Nat.zero_le _⟩
      . rw[if_neg hx]at e;cases e
    |ty n=>cases e
    |@tup a vs ds h r =>
      cases q;have e:(za4 (tre S k) ds).map PyData.tuple=some p:=e;cases e1:za4 (tre S k) ds with
      |none=>rw[e1]at e;cases e
      |some ps =>rw[e1]at e;cases e;obtain⟨its,rv,ht,hz⟩:=I.tuple (SqT.of h);obtain⟨o,ho,hc,n,hd⟩:=ht;obtain⟨⟨as,ra⟩,c1,d1⟩:=zhV k ih _ _ _ _ e1 r rv;exact⟨⟨_,.tuple ho hc hd (by simpa using ra)⟩,c1,Nat.succ_le_succ d1⟩
    |@rl a vs ds h r =>
      cases q;have e:(za4 (tre S k) ds).map PyData.list=some p:=e;cases e1:za4 (tre S k) ds with
      |none=>rw[e1]at e;cases e
      |some ps =>rw[e1]at e;cases e;obtain⟨its,rv,ht,hz⟩:=I.list h.sq;obtain⟨o,ho,hc,m,hd⟩:=ht.isList;obtain⟨⟨as,ra⟩,c1,d1⟩:=zhV k ih _ _ _ _ e1 r rv;exact⟨⟨_,.list ho hc hd (by simpa using ra)⟩,c1,Nat.succ_le_succ d1⟩
    |kt h r=>cases e
    |@ref n a h =>
      have e:(match S[n]? with
        |some (.lst xs)=>(za4 (tre S k) xs).map PyData.list
        |_=>none)=some p:=e
      cases hS:S[n]? with
      |none=>rw[hS]at e;cases e
      |some c =>
        rw[hS]at e;cases c with
        |lst xs =>
          have e:(za4 (tre S k) xs).map PyData.list=some p:=e;cases e1:za4 (tre S k) xs with
          |none=>rw[e1]at e;cases e
          |some ps =>rw[e1]at e;cases e;obtain⟨a',vs,ea,sq,rr⟩:=Lst.sq st (.inr ⟨n,rfl,hS⟩) (.ref h);cases ea;cases q;obtain⟨its,rv,ht,hz⟩:=I.list sq;obtain⟨o,ho,hc,m,hd⟩:=ht.isList;obtain⟨⟨as,ra⟩,c1,d1⟩:=zhV k ih _ _ _ _ e1 rr rv;exact⟨⟨_,.list ho hc hd (by simpa using ra)⟩,c1,Nat.succ_le_succ d1⟩
        |ins c fs=>cases e
        |dk kvs=>cases e
        |dt kvs=>cases e
        |tab x l c=>cases e
    |exn _ _ _=>cases e
end
def zsn (X:Cx)(g:Bool->Bool):R2:=λx y H Q=>∃ aD S dx dy b,zK X.K aD H S/\Rel X.K aD H dx x/\Rel X.K aD H dy y/\EqD S dx dy b/\Q (.bl (g b)) H
def zih {pins:List (Addr×Obj)}{U:L2.St}{H:Hp}{s:Shared}{aD:List Addr}{S:Sto}{dx dy:D}{x y:V}{v u:Value}{b:Bool}(I:Inv X pins U H s)(st:zK X.K aD H S)(rx:Rel X.K aD H dx x)(ry:Rel X.K aD H dy y)(qx:RelV x v)(qy:RelV y u)(h:EqD S dx dy b) :
  ∃ px py as bs,Reads s.heap v px as/\Reads s.heap u py bs/\px.canLay0=true/\py.canLay0=true/\min px.depth py.depth<=60/\PyData.eqv px py=b:=by
 rcases h with⟨fx,fy,rfl⟩|⟨xs,ys,hx,hy,fx,fy,rfl⟩|⟨xs,ys,xss,yss,hx,hy,lx,ly,fx,fy,rfl⟩|⟨p,hx,hy,rfl⟩
 ·obtain⟨as,ra⟩:=zb8 I 20 dx x v fx rx qx;obtain⟨bs,rb⟩:=zb8 I 20 dy y u fy ry qy;obtain⟨c1,d1⟩:=zfi 20 dx fx;obtain⟨c2,d2⟩:=zfi 20 dy fy;exact⟨_,_,as,bs,ra,rb,c1,c2,by lia,zjg 20 dx dy fx fy⟩
 ·obtain⟨a1,vs1,rfl,s1,r1⟩:=hx.sq st rx;obtain⟨a2,vs2,rfl,s2,r2⟩:=hy.sq st ry;cases qx;cases qy;obtain⟨its,rv,ht,hz⟩:=I.list s1;obtain⟨its2,rv2,ht2,hz2⟩:=I.list s2;obtain⟨o,ho,hc,n,hd⟩:=ht.isList;obtain⟨o2,ho2,hc2,n2,hd2⟩:=ht2.isList;obtain⟨as,ra⟩:=zea I 20 (zb8 I 20) _ _ _ fx r1 rv;obtain⟨bs,rb⟩:=zea I 20 (zb8 I 20) _ _ _ fy r2 rv2;obtain⟨c1,d1⟩:=zdd 20 xs fx;obtain⟨c2,d2⟩:=zdd 20 ys fy;refine⟨.list (zaq xs),.list (zaq ys),_,_,.list ho hc hd (by simpa using ra),.list ho2 hc2 hd2 (by simpa using rb),c1,c2,?_,zek 20 xs ys fx fy⟩;show min (PyData.depthAll (zaq xs)+1) (PyData.depthAll (zaq ys)+1)<=60;lia
 ·obtain⟨a1,vs1,rfl,s1,r1⟩:=hx.sq st rx;obtain⟨a2,vs2,rfl,s2,r2⟩:=hy.sq st ry;cases qx;cases qy;obtain⟨its,rv,ht,hz⟩:=I.list s1;obtain⟨its2,rv2,ht2,hz2⟩:=I.list s2;obtain⟨o,ho,hc,n,hd⟩:=ht.isList;obtain⟨o2,ho2,hc2,n2,hd2⟩:=ht2.isList;obtain⟨as,ra⟩:=zgN I st xs xss _ _ lx fx r1 rv;obtain⟨bs,rb⟩:=zgN I st ys yss _ _ ly fy r2 rv2;obtain⟨c1,d1⟩:=zj2 xss fx;obtain⟨c2,d2⟩:=zj2 yss fy;refine⟨.list (zc7 xss),.list (zc7 yss),_,_,.list ho hc hd (by simpa using ra),.list ho2 hc2 hd2 (by simpa using rb),c1,c2,?_,zm2 xss yss fx fy⟩;show min (PyData.depthAll (zc7 xss)+1) (PyData.depthAll (zc7 yss)+1)<=60;lia
 ·obtain⟨⟨as,ra⟩,c1,d1⟩:=zkR I st 20 _ _ _ _ hx rx qx;obtain⟨⟨bs,rb⟩,c2,d2⟩:=zkR I st 20 _ _ _ _ hy ry qy;exact⟨p,p,as,bs,ra,rb,c1,c2,by lia,PySem.SeqAt.eqv_refl p c1⟩
def zcH (hr:zaB k X.A):OC X .Eq oEq:=⟨zsn X id,by
  rintro pins s U H x y v u Q I qx qy ⟨aD,S,dx,dy,b,st,rx,ry,h,q⟩;obtain⟨px,py,as,bs,ra,rb,c1,c2,hd,e⟩:=zih I st rx ry qx qy h;have hu:=hr.units;exact PySem.SeqAt.rcAt_reads ra rb c1 c2 (by lia) X.prog X.w X.xe _ ⟨.bl _,H,I,by rw[e];rfl,q⟩,
 by rintro aD H S x y v u Q0 Q st rx ry ⟨b,h,q⟩ k;exact⟨aD,S,x,y,b,st,rx,ry,h,k _ S _ H aD q Wd.refl st (.bl _)⟩⟩
def ziV (hr:zaB k X.A):OC X .NotEq oNe:=⟨zsn X (!·),by
  rintro pins s U H x y v u Q I qx qy ⟨aD,S,dx,dy,b,st,rx,ry,h,q⟩;obtain⟨px,py,as,bs,ra,rb,c1,c2,hd,e⟩:=zih I st rx ry qx qy h;have hu:=hr.units;exact PySem.SeqAt.rcNeAt_reads ra rb c1 c2 (by lia) X.prog X.w X.xe _ ⟨.bl _,H,I,by rw[e];rfl,q⟩,
 by rintro aD H S x y v u Q0 Q st rx ry ⟨b,h,q⟩ k;exact⟨aD,S,x,y,b,st,rx,ry,h,k _ S _ H aD q Wd.refl st (.bl _)⟩⟩
def ziB {K:PySem.W.Frag}(r:Rel K aD H d v):decide (v=.non)=zdl d:=by cases r<;>rfl
def zrp:OpR X (compareOp .Is) (rB0 λi j=>.bl (i==j)):=λpins s U H x y v u Q I rx ry zq25=>by obtain⟨i,j,ex,ey,q⟩:=zq25;subst ex ey;cases rx;cases ry;exact is_bool ⟨.bl _,H,I,rfl,q⟩
def zqb:OpR X (compareOp .IsNot) (rB0 λi j=>.bl (!(i==j))):=λpins s U H x y v u Q I rx ry zq26=>by obtain⟨i,j,ex,ey,q⟩:=zq26;subst ex ey;cases rx;cases ry;exact isnot_bool ⟨.bl _,H,I,rfl,q⟩
def zul:OC X .Is oIs:=⟨_,zuy.or zrp,λaD H S x y v u Q0 Q st rx ry h k=>by
 rcases h with⟨rfl,q⟩|⟨a,b,rfl,rfl,q⟩
 ·cases ry;exact .inl ⟨rfl,by rw[ziB rx];exact k _ S _ H aD q Wd.refl st (.bl _)⟩
 ·cases rx;cases ry;exact .inr ⟨a,b,rfl,rfl,k _ S _ H aD q Wd.refl st (.bl _)⟩⟩
def zeG:OC X .IsNot zet:=⟨_,zrs.or zqb,λaD H S x y v u Q0 Q st rx ry h k=>by
 rcases h with⟨rfl,q⟩|⟨a,b,rfl,rfl,q⟩
 ·cases ry;exact .inl ⟨rfl,by rw[ziB rx];exact k _ S _ H aD q Wd.refl st (.bl _)⟩
 ·cases rx;cases ry;exact .inr ⟨a,b,rfl,rfl,k _ S _ H aD q Wd.refl st (.bl _)⟩⟩
def zeE (o:OC X op r')(ha:PD X a ta)(hb:PD X b tb)(h:autoParam (op≠.In) zW)(h2:autoParam (op≠.NotIn) zW):PD X (.Compare a [op] [b] pos) (dOp r' ta tb):=by
 with_unfolding_all
  obtain⟨r,ho,od⟩:=o;exact zaC (zky ho ha hb (zm1 _ h h2)) λ_ _ _=>zho od
def zH (o:OC X op r')(ha:PD X a ta)(hb:PD X b tb)(h:autoParam (op≠.In) zW)(h2:autoParam (op≠.NotIn) zW):PTD X (.Compare a [op] [b] pos) (dT (dOp r' ta tb)):=by
 with_unfolding_all
  obtain⟨r,ho,od⟩:=o;refine zgg (zpK ho ha hb (zm1 _ h h2)) λU H Q hh=>el8 hh λaD Z S Q0 st rh q k=>?_
  refine zho (Q:=λx H'=>∃ k,x=.bl k/\Q k H') od ⟨aD,Z,S,_,st,rh,q,λd S' v H' aD' ⟨b,e,q'⟩ w st' r=>?_⟩;subst e;cases r;exact⟨b,rfl,k b S' H' aD' q' w st'⟩
def zoL {K:PySem.W.Frag}(o1:OD K r1' r1)(o2:OD K r2' r2){U:L2.St}{H:Hp}{Q:VK}(h:up K (zg0 r1' r2' ta tb tc) U H Q):znl r1 r2 (up K ta) (up K tb) (up K tc) U H Q:=by
 obtain⟨aD,Z,S,Q0,st,rh,q,k⟩:=h;refine⟨aD,Z,S,_,st,rh,q,λx S1 v H1 ad1 q1 w1 st1 rx=>?_⟩;refine⟨ad1,Z,S1,_,st1,rh.wd w1,q1,λy S2 u H2 ad2 q2 w2 st2 ry=>?_⟩;refine o1 ad2 H2 S2 x y v u _ _ st2 (rx.wd w2) ry q2 λz S3 z' H3 ad3 ⟨c,e,q3⟩ w3 st3 rz=>?_
 subst e;cases rz;refine⟨c,rfl,?_⟩;cases c with
 |true =>rw[if_pos rfl]at q3 ⊢;refine⟨ad3,Z,S3,_,st3,rh.wd ((w1.trans w2).trans w3),q3,λz S4 z' H4 ad4 q4 w4 st4 rz=>?_⟩;exact o2 ad4 H4 S4 y z u z' Q0 Q st4 (ry.wd (w3.trans w4)) rz q4 (k.wd (((w1.trans w2).trans w3).trans w4))
 |false =>rw[if_neg Bool.false_ne_true]at q3 ⊢;exact k _ S3 _ H3 ad3 q3 ((w1.trans w2).trans w3) st3 (.bl _)
def zbz {e:Expr}(h:PD X e t)(he:autoParam (∀ whole,isTrue e X.env whole=(do let v <- whole;standAt e.pos;holding [v] (truthy v))) zeV):PTD X e (dT t):=by with_unfolding_all exact(zgg (ztF h he) λU H Q hh=>el8 hh λaD Z S Q0 st rh q k =>
 ⟨aD,Z,S,_,st,rh,q,by rintro d S' v H' aD' ⟨b,e,q'⟩ w st' r;subst e;cases r;exact⟨b,rfl,k b S' H' aD' q' w st'⟩⟩)
def zmC (o1:OC X op r1)(o2:OC X op' r2)(ha:PD X a ta)(hb:PD X b tb)(hc:PD X c tc)(hm:autoParam (lastMarks [op,op'] [b,c]=false) zlO):PTD X (.Compare a [op,op'] [b,c] pos) (dT (zg0 r1 r2 ta tb tc)):=by
 with_unfolding_all
  obtain⟨s1,h1,d1⟩:=o1;obtain⟨s2,h2,d2⟩:=o2;refine zgg (znP h1 h2 ha hb hc hm) λU H Q hh=>el8 hh λaD Z S Q0 st rh q k=>?_
  refine zoL (Q:=λx H'=>∃ k,x=.bl k/\Q k H') d1 d2 ⟨aD,Z,S,_,st,rh,q,λd S' v H' aD' ⟨b,e,q'⟩ w st' r=>?_⟩;subst e;cases r;exact⟨b,rfl,k b S' H' aD' q' w st'⟩
variable {tA tB':DT}{rest:List Expr}
def zca (h:PTD X a tA):PTD X (.UnaryOp .Not a pos) (zd2 tA):=by with_unfolding_all exact(zgg (ztm h) λU H Q hh=>el8 hh λaD Z S Q0 st rh q k=>⟨aD,Z,S,_,st,rh,q,λb S' H' aD' q' w st'=>k _ S' H' aD' q' w st'⟩)
theorem zbo {e:Expr}(h:PWD X e t):PTD X e t:=by with_unfolding_all exact(h _)
def zcu (ha:PTD X a tA):PWD X (.BoolOp .And [a] pos) tA:=by with_unfolding_all exact(zrd ha)
def zc3 (ha:PTD X a tA):PWD X (.BoolOp .Or [a] pos) tA:=by with_unfolding_all exact(zts ha)
def zcE (ha:PTD X a tA)(hb:PWD X (.BoolOp .And (b::rest) pos) tB'):PWD X (.BoolOp .And (a::b::rest) pos) (zeu tA tB'):=by with_unfolding_all exact(zk6 (ztb ha hb) λU H Q hh=>el8 hh λaD Z S Q0 st rh q k =>
 ⟨aD,Z,S,_,st,rh,q,λb S' H' aD' q' w st'=>by
  cases b with
  |true=>rw[if_pos rfl]at q' ⊢;exact⟨aD',Z,S',Q0,st',rh.wd w,q',λb S' H' aD' q w'=>k b S' H' aD' q (w.trans w')⟩
  |false=>rw[if_neg Bool.false_ne_true]at q' ⊢;exact k _ S' H' aD' q' w st'⟩)
def zd0 (ha:PTD X a tA)(hb:PWD X (.BoolOp .Or (b::rest) pos) tB'):PWD X (.BoolOp .Or (a::b::rest) pos) (dOr tA tB'):=by with_unfolding_all exact(zk6 (ztV ha hb) λU H Q hh=>el8 hh λaD Z S Q0 st rh q k =>
 ⟨aD,Z,S,_,st,rh,q,λb S' H' aD' q' w st'=>by
  cases b with
  |false=>rw[if_neg Bool.false_ne_true]at q' ⊢;exact⟨aD',Z,S',Q0,st',rh.wd w,q',λb S' H' aD' q w'=>k b S' H' aD' q (w.trans w')⟩
  |true=>rw[if_pos rfl]at q' ⊢;exact k _ S' H' aD' q' w st'⟩)
def zhl {op}(h:PD X a t):PD X (.BoolOp op [a] pos) t:=by with_unfolding_all exact(zs5 h)
def zeA (ha:PD X a ta)(hb:PD X (.BoolOp .And (b::rest) pos) tb):PD X (.BoolOp .And (a::b::rest) pos) (zeR ta tb):=by with_unfolding_all exact(zaC (zrU ha hb) λU H Q hh=>el8 hh λaD Z S Q0 st rh q k =>
 ⟨aD,Z,S,_,st,rh,q,by
  rintro d S' v H' aD' ⟨c,e,q'⟩ w st' r;subst e;cases r;refine⟨c,rfl,?_⟩;cases c with
  |true=>rw[if_pos rfl]at q' ⊢;exact⟨aD',Z,S',Q0,st',rh.wd w,q',k.wd w⟩
  |false=>rw[if_neg Bool.false_ne_true]at q' ⊢;exact k _ S' _ H' aD' q' w st' (.bl _)⟩)
def zf7 (ha:PD X a ta):PD X (.UnaryOp .Not a pos) (zf5 ta):=by with_unfolding_all exact(zaC (zrt ha) λU H Q hh=>el8 hh λaD Z S Q0 st rh q k =>
 ⟨aD,Z,S,_,st,rh,q,by rintro d S' v H' aD' ⟨c,e,q'⟩ w st' r;subst e;cases r;exact⟨c,rfl,k _ S' _ H' aD' q' w st' (.bl _)⟩⟩)
def znc (hc:PTD X c tA)(ha:PD X a ta)(hb:PD X b tb):PD X (.IfExp c a b pos) (zlZ tA ta tb):=by with_unfolding_all exact(zaC (zoO hc ha hb) λU H Q hh=>el8 hh λaD Z S Q0 st rh q k =>
 ⟨aD,Z,S,_,st,rh,q,λb S' H' aD' q' w st'=>by
  cases b with
  |true=>rw[if_pos rfl]at q' ⊢;exact⟨aD',Z,S',Q0,st',rh.wd w,q',k.wd w⟩
  |false=>rw[if_neg Bool.false_ne_true]at q' ⊢;exact⟨aD',Z,S',Q0,st',rh.wd w,q',k.wd w⟩⟩)
end
section
variable {X:Cx}{a b e:Expr}{es:List Expr}{ta tb te:DE}{t:DA}{pos:Pos}
def zp:PAD X [] zE:=by with_unfolding_all exact(zkI ztx λU H Q hh=>el8 hh λaD Z S Q0 st rh q k=>k [] S [] H aD q Wd.refl st .nil)
def zc (ha:PD X e te)(hr:PAD X es t)(hs:autoParam (starEach (e::es) X.env=(false,eval e X.env)::starEach es X.env) zf0):PAD X (e::es) (zj te t):=by with_unfolding_all exact(zkI (zpS ha hr hs) λU H Q hh=>el8 hh λaD Z S Q0 st rh q k =>⟨aD,Z,S,_,st,rh,q,λd S1 v H1 ad1 q1 w1 st1 r1=>⟨ad1,Z,S1,_,st1,rh.wd w1,q1,λds S2 vs H2 ad2 q2 w2 st2 r2=>k _ S2 _ H2 ad2 q2 (w1.trans w2) st2 (.cons (r1.wd w2) r2)⟩⟩)
def zX {x1}(h:PAD X es t):PD X (.Tuple es x1 pos) (dTup t):=by with_unfolding_all exact(zaC (zrX h) λU H Q hh=>el8 hh λaD Z S Q0 st rh q k =>⟨aD,Z,S,_,st,rh,q,by rintro ds S1 vs H1 ad1 ⟨hz,q1⟩ w1 st1 r1;exact⟨by rw[<- r1.length];exact zck hz,λp hp=>zhn st1 (k.wd w1) r1 q1 p hp⟩⟩)
def zay (h:PAD X es t):PD X (.List es pos) (za6 t):=by with_unfolding_all exact(zaC (zsJ h) λU H Q hh=>el8 hh λaD Z S Q0 st rh q k =>⟨aD,Z,S,_,st,rh,q,by rintro ds S1 vs H1 ad1 ⟨hz,q1⟩ w1 st1 r1;exact⟨by rw[<- r1.length];exact zck hz,λp hp=>zd1 st1 (k.wd w1) r1 q1 p hp⟩⟩)
def zr3 {xs:List D}{i:Int}{d:D}(h:atD xs i=some d){K:PySem.W.Frag}(r:zB K aD H xs vs):∃ v,atI vs i=some v/\Rel K aD H d v:=by
 have e:ixN vs.length i=ixD xs.length i:=by rw[r.length];rfl
 unfold atD at h;unfold atI;rw[e];cases q:ixD xs.length i with
 |none=>rw[q]at h;cases h
 |some j =>rw[q]at h;exact r.get h
def zq (ha:PD X a ta)(hb:PD X b tb)(hs:zkG b:=by intro _ _;rfl):PD X (.Subscript a b pos) (dOp oIx ta tb):=by with_unfolding_all exact(zaC (zt2 (zqA.or (zsr.or ztc)) ha hb hs) λ_ _ _=>zho λaD H S x y v u Q0 Q st rx ry h k=>by
 rcases h with⟨i,xs,d,ey,hx,e,q⟩|⟨z,i,c,rfl,rfl,hz,e,q⟩
 case inr =>cases rx;cases ry;exact .inr (.inr ⟨z,i,c,rfl,rfl,zck hz,e,k _ S _ H aD q Wd.refl st (.str _)⟩)
 subst ey;cases ry;obtain⟨p,vs,rfl,hs,r⟩:=hx.sq st rx;obtain⟨z,ez,rz⟩:=zr3 e r;rcases hs with hs|hs
 ·exact .inl ⟨p,vs,i,z,rfl,rfl,hs,ez,k _ S _ H aD q Wd.refl st rz⟩
 ·exact .inr (.inl ⟨p,vs,i,z,rfl,rfl,hs,ez,k _ S _ H aD q Wd.refl st rz⟩))
def upO (K:PySem.W.Frag)(t:Option DE):TO:=λU H Q=>∃ aD Z S Q0,zK K aD H S/\zal K aD H Z U/\zeW t Z S Q0/\∀ o S' H' aD',Q0 o S'->Wd aD H aD' H'->zK K aD' H' S'->Q o H'
def zkL:PO X none (upO X.K none):=λpins s U H Q I hh=>el8 hh λaD Z S Q0 st rh q k=>zpX pins s U H Q I (k none S H aD q Wd.refl st)
def zkA {t:DE}(h:PD X e t):PO X (some e) (upO X.K (some t)):=by with_unfolding_all exact(λpins s U H Q I hh=>el8 hh λaD Z S Q0 st rh q k=>zqy h pins s U H Q I ⟨aD,Z,S,_,st,rh,q,by rintro d S' v H' aD' ⟨i,e,q'⟩ w st' r;subst e;cases r;exact⟨i,rfl,k _ S' H' aD' q' w st'⟩⟩)
def zkF {K:PySem.W.Frag}(lo hi:Option Int)(r:zB K aD H xs vs):zB K aD H (cutD xs lo hi) (zfb vs lo hi):=by
  have e1:HT.sIx vs.length 0 lo=slD xs.length 0 lo:=by
    rw[r.length];cases lo with
    |none=>rfl
    |some k=>show HT.sIx _ _ (some k)=_;unfold HT.sIx slD;first|rfl|(simp only[];split<;>lia)
  have e2:HT.sIx vs.length vs.length hi=slD xs.length xs.length hi:=by
    rw[r.length];cases hi with
    |none=>rfl
    |some k=>show HT.sIx _ _ (some k)=_;unfold HT.sIx slD;first|rfl|(simp only[];split<;>lia)
  unfold cutD zfb;rw[e1,e2];exact(r.drop _).take _
def zui (K:PySem.W.Frag):V->Option Int->Option Int->Hp->VK->Prop:=λx lo hi H Q=>∃ a xs,x=.ref a/\SqT K H a xs /\
 ((HT.sIx xs.length 0 lo=0/\HT.sIx xs.length xs.length hi=xs.length)->Q (.ref a) H)/\(¬ (HT.sIx xs.length 0 lo=0/\HT.sIx xs.length xs.length hi=xs.length)->∀ p,H p=none->Q (.ref p) (upd H p (.tup (zfb xs lo hi))))
def ziE {prog:Program}{w:World}{A:Around}{E:Value->Shared->Prop}{s:Shared}{t sl:Addr}{items:Array Value}{vl vu:Value}{lo hi:Option Int}{Q:Value->Shared->Prop}(ht:IsTup s.heap t items)(hs:s.heap.IsSliceOf sl vl vu .none)(pl:IsPart vl lo)(pu:IsPart vu hi)
  (hw:HT.sIx items.size 0 lo=0/\HT.sIx items.size items.size hi=items.size) (h:Q (.ref t) s):wpAny (model prog w) A (getItem (.ref t) (.ref sl)) Q E s:=by
 obtain⟨os,hos,hcs,hds⟩:=id hs;have hTs:s.TypeIs (.ref sl) "slice":=⟨os,hos,hcs⟩
 unfold getItem
 try with_reducible refine wpAny_holding ?_
 first|refine wpAny_bind (wpAny_pure ?_)|skip
 refine wpAny_bind (wpAny_sequenceKey ht.typeIs (by decide) ?_)
 refine wpAny_bind (wpAny_callSpecial?_slot (name:=Str.ofString "__getitem__") ht.typeIs PyProof.Rows.slot_tuple_getitem
  (wpAny_call_entry PyProof.Rows.slot_tuple_getitem ht.typeIs PyProof.Rows.entry_tuple_getitem ?_ (PyProof.Rows.args_tuple_getitem _ _)))
 show wpAny _ _ (Builtin.Tuple.tupleItemsOf (.ref t) >>= _) _ _ s;refine wpAny_bind (tupleItemsOf_ ht ?_);refine wpAny_bind (wpAny_typeOf hTs ?_);rw[if_pos (by decide)];refine wpAny_bind (HT.zdZ hs pl pu ?_);show wpAny _ _ (if(((HT.sIx items.size 0 lo:Nat):Int)==0&&(1:Int)==1&&(HT.sIx items.size items.size hi-HT.sIx items.size 0 lo)==items.size)=true then _ else _) _ _ s;rw[if_pos (by rw[hw.1,hw.2];simp)];unfold Builtin.Tuple.tupleIsExact;refine wpAny_bind (wpAny_bind (wpAny_typeOf ht.typeIs (wpAny_pure ?_)));rw[if_pos (by decide)];refine wpAny_bind (wpAny_rule ?_)
 first
  |exact wpAny_pure ⟨_,rfl,wpAny_pure h⟩
  |exact wpAny_bind (wpAny_pure ⟨_,rfl,wpAny_pure h⟩)
  |exact wpAny_bind (wpAny_pure (wpAny_pure ⟨_,rfl,wpAny_pure h⟩))
  |trace_state
def zpV:SlR X (zui X.K):=by
 intro pins s U H x v vl vu lo hi sl Q I rx hs pl pu h;obtain⟨a,xs,rfl,hx,q1,q2⟩:=h;by_cases hw:HT.sIx xs.length 0 lo=0/\HT.sIx xs.length xs.length hi=xs.length
 ·cases rx;obtain⟨its,r,ht,hz⟩:=I.tuple hx;have hlen:its.toArray.size=xs.length:=by rw[List.size_toArray];exact r.length.symm
  refine⟨"tuple",_,PyProof.Rows.slot_tuple_getitem.lookup,ht.typeIs,?_⟩;exact ziE ht hs pl pu (by rw[hlen];exact hw) ⟨.ref a,H,I,rfl,q1 hw⟩
 ·exact zsL pins s U H (.ref a) v vl vu lo hi sl Q I rx hs pl pu ⟨a,xs,rfl,hx,hw,q2 hw⟩
def zmT (xs:List α)(lo hi:Option Int)(h1:slD xs.length 0 lo=0)(h2:slD xs.length xs.length hi=xs.length):cutD xs lo hi=xs:=by unfold cutD;rw[h1,h2];simp
def zhX (n d:Nat)(o:Option Int):HT.sIx n d o=slD n d o:=by
 cases o with
 |none=>rfl
 |some k=>rfl
def zpA {lo:Option Expr}{tl th:Option DE}{p2:Pos}(ha:PD X a ta)(hl:PO X lo (upO X.K tl))(hh:PO X hi (upO X.K th)):PD X (.Subscript a (.Slice lo hi none p2) pos) (dSl zlu ta tl th):=by with_unfolding_all exact(zaC (zo1 (zp4.or (zpV.or ztq)) ha hl hh) λU H Q hh=>el8 hh λaD Z S Q0 st rh q k =>
 ⟨aD,Z,S,_,st,rh,q,λx S1 v H1 ad1 q1 w1 st1 r1=>⟨ad1,Z,S1,_,st1,rh.wd w1,q1,λl S2 H2 ad2 q2 w2 st2=>⟨ad2,Z,S2,_,st2,rh.wd (w1.trans w2),q2,λh S3 H3 ad3 q3 w3 st3=>by
  have r3:=r1.wd (w2.trans w3);have k3:=k.wd ((w1.trans w2).trans w3);rcases q3 with⟨xs,rfl,q3⟩|⟨xs,hx,q3⟩|⟨z,rfl,hz,q3⟩
  ·cases r3 with
   |tup h1 r =>refine .inr (.inl ⟨_,_,rfl,SqT.of h1,λ⟨z1,z2⟩=>?_,λ_ p hp=>zhn st3 k3 (zkF _ _ r) q3 p hp⟩);rw[zhX,<- r.length]at z1 z2;rw[zmT xs _ _ z1 z2]at q3;exact k3 _ S3 _ H3 ad3 q3 Wd.refl st3 (.tup h1 r)
  ·obtain⟨p,vs,rfl,hs,r⟩:=hx.sq st3 r3;exact .inl ⟨p,vs,rfl,hs,λl hl=>zd1 st3 k3 (zkF _ _ r) q3 l hl⟩
  ·cases r3;refine .inr (.inr ⟨z,rfl,zck hz,?_⟩)
   have e:(⟨((z.cps.toList.drop (HT.sIx z.length 0 l)).take (HT.sIx z.length z.length h-HT.sIx z.length 0 l)).toArray⟩:Str)=zpa z l h:=by unfold zpa cutD;rw[zhX,zhX,show z.length=z.cps.toList.length from Array.length_toList.symm]
   rw[e];exact k3 _ S3 _ H3 ad3 q3 Wd.refl st3 (.str _)⟩⟩⟩)
end
end Dp
namespace Dp
open PySem PySem.Spec PyProof.Rows L2 My
variable [B:Bs]
section
variable {X:Cx}{a e:Expr}{es:List Expr}{ta te:DE}{t:DA}{pos p:Pos}
def zJ {f:DSp}(G:Got X.prog X.w X.K X.mg X.base k x ps (upF X.K f))(hr:zaB j X.A)(ha:PAD X (e::es) t)(hk:autoParam (k<=j) zW)(hg:autoParam (Gl X x) zL)(hdb:autoParam ((x==("__debug__":Str))=false) zW)(he:autoParam (starEach (e::es) X.env=(false,eval e X.env)::starEach es X.env) zf0)(hpl:autoParam ((backTo pos (starEach es X.env)).any (·.1)=false) zhB) :
  PD X (.Call (.Name x p) (e::es) [] pos) (dCall f t):=by with_unfolding_all exact(zaC (zsu G hr hk hg ha hdb he hpl) λU H Q hh=>el8 hh λaD Z S Q0 st rh q k =>
 ⟨aD,Z,S,_,st,rh,q,λds S1 vs H1 ad1 q1 w1 st1 r1=>by show upF X.K f (vs++[]) H1 Q E0;rw[List.append_nil];exact⟨ad1,S1,ds,Q0,st1.base,r1,q1,(k.wd w1).base st1⟩⟩)
def BD (K:PySem.W.Frag)(r':DB)(r:List V->Hp->VK->Prop):=∀ aD H S ds vs Q0 Q,zK K aD H S->zB K aD H ds vs->r' ds S Q0->KK K aD H Q0 Q->r vs H Q
def BC (X:Cx)(f:Value)(r':DB):=∃ r,zas X f r/\BD X.K r' r
def zaj {id:String}(o:BC X (.builtin id) r')(hm:X.mg x=none)(hv:bootBuiltins x=some (.builtin id))(ha:PAD X (e::es) t)(hg:autoParam (Gl X x) zL)(hn:autoParam (x≠"__name__") zW)(hdb:autoParam ((x==("__debug__":Str))=false) zW)(he:autoParam (starEach (e::es) X.env=(false,eval e X.env)::starEach es X.env) zf0)(hpl:autoParam ((backTo pos (starEach es X.env)).any (·.1)=false) zhB):PD X (.Call (.Name x p) (e::es) [] pos) (dB r' t):=by
 with_unfolding_all
  obtain⟨r,ho,od⟩:=o
  exact zaC (zox ho hg hm hv ha hn hdb he hpl) λU H Q hh=>el8 hh λaD Z S Q0 st rh q k =>⟨aD,Z,S,_,st,rh,q,λds S1 vs H1 ad1 q1 w1 st1 r1=>od ad1 H1 S1 ds vs Q0 Q st1 r1 q1 (k.wd w1)⟩
def zdm {T:String}(o:BC X (.type T) r')(hm:X.mg x=none)(hv:bootBuiltins x=some (.type T))(ha:PAD X (e::es) t)(hg:autoParam (Gl X x) zL)(hn:autoParam (x≠"__name__") zW)(hdb:autoParam ((x==("__debug__":Str))=false) zW)(he:autoParam (starEach (e::es) X.env=(false,eval e X.env)::starEach es X.env) zf0)(hpl:autoParam ((backTo pos (starEach es X.env)).any (·.1)=false) zhB):PD X (.Call (.Name x p) (e::es) [] pos) (dB r' t):=by
 with_unfolding_all
  obtain⟨r,ho,od⟩:=o
  exact zaC (zmB ho hg hm hv ha hn hdb he hpl) λU H Q hh=>el8 hh λaD Z S Q0 st rh q k =>⟨aD,Z,S,_,st,rh,q,λds S1 vs H1 ad1 q1 w1 st1 r1=>od ad1 H1 S1 ds vs Q0 Q st1 r1 q1 (k.wd w1)⟩
def zbD {K:PySem.W.Frag}{d:D}{vs:List V}(r:zB K aD H [d] vs):∃ v,vs=[v]/\Rel K aD H d v:=by
 cases r with
 |cons r t=>cases t;exact⟨_,rfl,r⟩
def zfA {K:PySem.W.Frag}{d e:D}{vs:List V}(r:zB K aD H [d,e] vs):∃ v u,vs=[v,u]/\Rel K aD H d v/\Rel K aD H e u:=by
 cases r with
 |cons r t =>obtain⟨u,rfl,r2⟩:=zbD t;exact⟨_,_,rfl,r,r2⟩
def zaH:BC X (.builtin "len") za0:=⟨_,zmP.or zi4,λaD H S ds vs Q0 Q st r h k=>by
 rcases h with⟨x,xs,e,hx,q⟩|⟨z,e,hz,q⟩
 case inr =>subst e;obtain⟨v,rfl,rv⟩:=zbD r;cases rv;exact .inr ⟨z,rfl,zck hz,k _ S _ H aD q Wd.refl st (.int _)⟩
 subst e;obtain⟨v,rfl,rv⟩:=zbD r;obtain⟨a,ws,rfl,hs,rs⟩:=hx.sq st rv;exact .inl ⟨a,ws,rfl,hs,k _ S _ H aD (by rw[rs.length]at q;exact q) Wd.refl st (.int _)⟩⟩
def zs3:BC X (.builtin "abs") zoc:=⟨_,zmR,by rintro aD H S ds vs Q0 Q st r ⟨i,e,q⟩ k;subst e;obtain⟨v,rfl,rv⟩:=zbD r;cases rv;exact⟨i,rfl,k _ S _ H aD q Wd.refl st (.int _)⟩⟩
def ztA (i j:Int):(if j > i then j else i)=max i j:=by rw[Int.max_def];split<;>split<;>lia
def zrR (i j:Int):(if j<i then j else i)=min i j:=by rw[Int.min_def];split<;>split<;>lia
def zdV (hc:autoParam (X.calm=true) zL):BC X (.builtin "max") zec:=⟨_,znb hc,by rintro aD H S ds vs Q0 Q st r ⟨i,j,e,q⟩ k;subst e;obtain⟨v,u,rfl,rv,ru⟩:=zfA r;cases rv;cases ru;exact⟨i,j,rfl,by rw[ztA];exact k _ S _ H aD q Wd.refl st (.int _)⟩⟩
def zeH (hc:autoParam (X.calm=true) zL):BC X (.builtin "min") zeY:=⟨_,znr hc,by rintro aD H S ds vs Q0 Q st r ⟨i,j,e,q⟩ k;subst e;obtain⟨v,u,rfl,rv,ru⟩:=zfA r;cases rv;cases ru;exact⟨i,j,rfl,by rw[zrR];exact k _ S _ H aD q Wd.refl st (.int _)⟩⟩
def zrg (hc:autoParam (X.calm=true) zL):BC X (.builtin "max") zme:=⟨_,zna rfl hc,by rintro aD H S ds vs Q0 Q st r ⟨x,ns,e,hx,h0,q⟩ k;subst e;obtain⟨v,rfl,rv⟩:=zbD r;obtain⟨a,ws,rfl,hs,rs⟩:=hx.sq st rv;cases rs.ints;exact⟨a,ns,rfl,hs,h0,λm h1 h2=>k _ S _ H aD (q m h1 h2) Wd.refl st (.int _)⟩⟩
def zql (hc:autoParam (X.calm=true) zL):BC X (.builtin "min") zlA:=⟨_,znB rfl hc,by rintro aD H S ds vs Q0 Q st r ⟨x,ns,e,hx,h0,q⟩ k;subst e;obtain⟨v,rfl,rv⟩:=zbD r;obtain⟨a,ws,rfl,hs,rs⟩:=hx.sq st rv;cases rs.ints;exact⟨a,ns,rfl,hs,h0,λm h1 h2=>k _ S _ H aD (q m h1 h2) Wd.refl st (.int _)⟩⟩
def zfN (hc:autoParam (X.calm=true) zL):BC X (.builtin "all") zfE:=⟨_,zmM rfl hc,by rintro aD H S ds vs Q0 Q st r ⟨x,ns,e,hx,q⟩ k;subst e;obtain⟨v,rfl,rv⟩:=zbD r;obtain⟨a,ws,rfl,hs,rs⟩:=hx.sq st rv;cases rs.bls;exact⟨a,ns,rfl,hs,k _ S _ H aD q Wd.refl st (.bl _)⟩⟩
def zn8:BC X (.type "tuple") zja:=⟨_,zng rfl,by
 rintro aD H S ds vs Q0 Q st r ⟨x,xs,e,hx,q⟩ k;subst e;obtain⟨v,rfl,rv⟩:=zbD r;rcases hx with rfl|hx
 ·cases rv with
  |tup h rr=>exact⟨_,_,rfl,.inr ⟨SqT.of h,k _ S _ H aD q Wd.refl st (.tup h rr)⟩⟩
 ·obtain⟨a,ws,rfl,hs,rs⟩:=hx.sq st rv;exact⟨a,ws,rfl,.inl ⟨hs,λl hl=>zhn st k rs q l hl⟩⟩⟩
def zdU:BC X (.type "list") zeq:=⟨_,zlC,by rintro aD H S ds vs Q0 Q st r ⟨x,xs,e,hx,q⟩ k;subst e;obtain⟨v,rfl,rv⟩:=zbD r;obtain⟨a,ws,rfl,hs,rs⟩:=hx.sq st rv;exact⟨a,ws,rfl,hs,λl hl=>zd1 st k rs q l hl⟩⟩
section
variable {K:PySem.W.Frag}
def zqB (t:String)(h:zhJ t=true):PySem.W.kitOne K (.type "NoneType") (.type t)=some false/\PySem.W.kitOne K (.type "bool") (.type t)=some (t=="bool"||t=="int")/\PySem.W.kitOne K (.type "int") (.type t)=some (t=="int") /\
  PySem.W.kitOne K (.type "str") (.type t)=some (t=="str")/\PySem.W.kitOne K (.type "tuple") (.type t)=some (t=="tuple")/\PySem.W.kitOne K (.type "list") (.type t)=some (t=="list"):=by
 unfold zhJ at h;simp only[Bool.or_eq_true,beq_iff_eq]at h;rcases h with(((rfl|rfl)|rfl)|rfl)|rfl
 ·exact⟨by kernel_rfl,by kernel_rfl,by kernel_rfl,by kernel_rfl,by kernel_rfl,by kernel_rfl⟩
 ·exact⟨by kernel_rfl,by kernel_rfl,by kernel_rfl,by kernel_rfl,by kernel_rfl,by kernel_rfl⟩
 ·exact⟨by kernel_rfl,by kernel_rfl,by kernel_rfl,by kernel_rfl,by kernel_rfl,by kernel_rfl⟩
 ·exact⟨by kernel_rfl,by kernel_rfl,by kernel_rfl,by kernel_rfl,by kernel_rfl,by kernel_rfl⟩
 ·exact⟨by kernel_rfl,by kernel_rfl,by kernel_rfl,by kernel_rfl,by kernel_rfl,by kernel_rfl⟩
end
def zhv:BC X (.builtin "isinstance") ze5:=⟨_,zoV,by
 rintro aD H S ds vs Q0 Q st r ⟨x,t,b,e,h,q⟩ k;subst e;obtain⟨v,u,rfl,rv,ru⟩:=zfA r;cases ru;have fin:=k _ S _ H aD q Wd.refl st (.bl b);unfold zsA at h;split at h
 ·cases h
 rename_i hty
 have hty':zhJ t=true:=by
  cases hh:zhJ t
  ·exact absurd (by show(!zhJ t)=true;rw[hh];rfl) hty
  ·rfl
 obtain⟨k1,k2,k3,k4,k5,k6⟩:=zqB (K:=X.K) t hty';cases rv with
 |non=>cases h;exact⟨_,_,_,_,rfl,.non,k1,fin⟩
 |bl c=>cases h;exact⟨_,_,_,_,rfl,.bl c,k2,fin⟩
 |int i=>cases h;exact⟨_,_,_,_,rfl,.int i,k3,fin⟩
 |str y=>cases h;exact⟨_,_,_,_,rfl,.str y,k4,fin⟩
 |ty n=>cases h
 |exn _ _ _=>cases h
 |tup ht rt=>cases h;exact⟨_,_,_,_,rfl,.tup ht,k5,fin⟩
 |rl hl rl=>cases h
 |kt hl rl=>cases h
 |@ref n a hn =>
  have h:(match S[n]? with | some (.lst _)=>some (t=="list") | _=>none)=some b:=h;cases hS:S[n]? with
  |none=>rw[hS]at h;cases h
  |some c =>
   rw[hS]at h;cases c with
   |ins c fs=>cases h
   |dk _=>cases h
   |dt _=>cases h
   |tab _ _ _=>cases h
   |lst xs =>cases h;obtain⟨vs,hv,_⟩:=st.cell n a _ hn hS;exact⟨_,_,_,_,rfl,.lst hv,k6,fin⟩⟩
theorem zlf:∀ {K:PySem.W.Frag} {aD:List Addr} {H:Hp} {cs:List (Int×Int)} {vs:List V},zB K aD H (cs.map p2) vs->∃ ps:List Addr,vs=ps.map V.ref/\zeh H ps cs
 |_,_,_,[],_,.nil=>⟨[],rfl,.nil⟩
 |_,_,_,c::cs,_,.cons r t=>by
  obtain⟨ps,rfl,h⟩:=zlf t;cases r with
  |tup h1 r1 =>obtain⟨v,u,rfl,rv,ru⟩:=zfA r1;cases rv;cases ru;exact⟨_::ps,rfl,.cons h1 h⟩
theorem zpE:∀ {K:PySem.W.Frag} {aD:List Addr} {H:Hp} {cs:List (Int×Int)} {ps:List Addr},zeh H ps cs->zB K aD H (cs.map p2) (ps.map V.ref)
 |_,_,_,_,_,.nil=>.nil
 |_,_,_,_,_,.cons r t=>.cons (.tup r (.cons (.int _) (.cons (.int _) .nil))) (zpE t)
def ztB (a b:Int×Int):plt a b=zgR a b:=by
 unfold plt zgR;by_cases h:a.1=b.1
 ·simp[h]
 ·simp[h]
def zo6:BC X (.builtin "sorted") zmZ:=⟨_,zjW rfl,by rintro aD H S ds vs Q0 Q st r ⟨x,cs,e,hx,h64,q⟩ k;subst e;obtain⟨v,rfl,rv⟩:=zbD r;obtain⟨a,ws,rfl,hs,rs⟩:=hx.sq st rv;obtain⟨ps,rfl,hp⟩:=zlf rs;exact⟨a,ps,cs,rfl,hs,hp,h64,λl ps' cs' hl hp' hperm hpw=>zd1 st k (zpE hp') (q cs' hperm (hpw.imp λh=>by rw[<- ztB];exact h)) l hl⟩⟩
def MD (X:Cx)(id:String)(r':DM):=∃ r,MtR X id r/\∀ aD H S x ds v vs Q0 Q,zK X.K aD H S->Rel X.K aD H x v->zB X.K aD H ds vs->r' x ds S Q0->KK X.K aD H Q0 Q->r v vs H Q
def ztp {K:PySem.W.Frag}{x:D}(st:zK K aD H S)(h:∃ n ys,x=.ref n/\S[n]?=some (.lst ys))(r:Rel K aD H x v):tyV K "list" v H:=by
 obtain⟨n,ys,rfl,h⟩:=h;cases r with
 |ref e =>obtain⟨vs,hv,_⟩:=st.cell n _ _ e h;exact .inl ⟨rfl,vs,SqL.of hv⟩
def zeK {name:Str}{id:String}{apos cpos:Pos}(slot:Slot "list" name id)(hty:typeOf (.builtin id)=pure (.type "method_descriptor"))(hm:MD X id r')(ho:PD X o to)(ha:PAD X (e::es) t)(hbase:autoParam (attributeBase o name X.env (eval o X.env)=eval o X.env) zL)(hfew:((backTo cpos (starEach (e::es) X.env)).all (λx=>!x.1)&&(backToKw cpos (keywordEach [] X.env)).all (λx=>x.1.isSome)
  &&decide ((e::es).length+([]:List Keyword).length+(if([]:List Keyword).isEmpty then 0 else 1)<30))=true:=by rfl) (hline:(apos.endLine==cpos.line)=true:=by rfl) (hs:starEach (e::es) X.env=(false,eval e X.env)::starEach es X.env:=by exact zds rfl) (hplain:(backTo cpos (starEach es X.env)).any (·.1)=false:=by exact zgV rfl) :
  PD X (.Call (.Attribute o name apos) (e::es) [] cpos) (dM r' to t):=by
 with_unfolding_all
  obtain⟨r,hr,od⟩:=hm
  exact zaC (ztH PySem.F.plainAttrs_list slot hty hr ho ha hbase hfew hline hs hplain) λU H Q hh=>el8 hh λaD Z S Q0 st rh q k =>
   ⟨aD,Z,S,_,st,rh,q,by rintro x S1 v H1 ad1 ⟨hl,q1⟩ w1 st1 r1;exact⟨ztp st1 hl r1,ad1,Z,S1,_,st1,rh.wd w1,q1,λds S2 vs H2 ad2 q2 w2 st2 r2 =>od ad2 H2 S2 x ds v vs Q0 Q st2 (r1.wd w2) r2 q2 (k.wd (w1.trans w2))⟩⟩
def zbH:MD X "list.append" zbY:=⟨_,zin,by
 rintro aD H S x ds v vs Q0 Q st rx r ⟨n,xs,y,ex,ey,hn,hl,q⟩ k;subst ex ey;obtain⟨u,rfl,ru⟩:=zbD r;cases rx with
 |ref e =>obtain⟨ws,hw,rw⟩:=st.cell n _ _ e hn;exact⟨_,ws,u,rfl,rfl,hw,by rw[<- rw.length];exact znw hl,k _ _ _ _ aD q (Wd.put e hw) (st.put e hw (rw.append (.cons ru .nil))) .non⟩⟩
def zlM:MD X "list.extend" zgC:=⟨_,zln,λaD H S x ds v vs Q0 Q st rx r h k=>by
 rcases h with⟨n,xs,m,ys,ex,ey,hn,hm,hne,hl,q⟩|⟨n,xs,ys,ex,ey,hn,hl,q⟩
 ·subst ex ey;obtain⟨u,rfl,ru⟩:=zbD r;cases rx with
  |ref e =>
   cases ru with
   |ref e2 =>obtain⟨ws,hw,rw⟩:=st.cell n _ _ e hn;obtain⟨ws2,hw2,rw2⟩:=st.cell m _ _ e2 hm;exact .inl ⟨_,_,ws,ws2,rfl,rfl,hw,hw2,by rw[<- rw.length,<- rw2.length];exact zck hl,k _ _ _ _ aD q (Wd.put e hw) (st.put e hw (rw.append rw2)) .non⟩
 ·subst ex ey;obtain⟨u,rfl,ru⟩:=zbD r;cases rx with
  |ref e =>
   cases ru with
   |tup h2 rw2 =>obtain⟨ws,hw,rw⟩:=st.cell n _ _ e hn;exact .inr ⟨_,_,ws,_,rfl,rfl,hw,SqT.of h2,by rw[<- rw.length,<- rw2.length];exact zck hl,k _ _ _ _ aD q (Wd.put e hw) (st.put e hw (rw.append rw2)) .non⟩⟩
end
end Dp
namespace Dp
open PySem PySem.Spec PyProof.Rows L2 My
variable [B:Bs]
def zeT (K:PySem.W.Frag)(b:Nat)(g':DG)(g:TG):=∀ aD H S Z U d v Q0 Q,zK K aD H S->zal K aD H Z U->Rel K aD H d v->g' d Z S Q0 ->
 (∀ ρ' S' σ' H' aD',Q0 ρ' S'->Wd aD H aD' H'->zK K aD' H' S'->zal K aD' H' ρ' σ'->σ'.length=U.length->(∀ j,b<=j->σ'[j]?=U[j]?)->Q σ' H')->g v U H Q
def zhj (K:PySem.W.Frag)(b:Nat)(g':DGs)(g:TGs):=∀ aD H S Z U ds vs Q0 Q,zK K aD H S->zal K aD H Z U->zB K aD H ds vs->g' ds Z S Q0 ->
 (∀ ρ' S' σ' H' aD',Q0 ρ' S'->Wd aD H aD' H'->zK K aD' H' S'->zal K aD' H' ρ' σ'->σ'.length=U.length->(∀ j,b<=j->σ'[j]?=U[j]?)->Q σ' H')->g vs U H Q
def PGD (X:Cx)(b:Nat)(tg:Expr)(g':DG):=∃ g,PG X tg g/\zeT X.K b g' g
def zmb (X:Cx)(b:Nat)(tgs:List Expr)(g':DGs):=∃ g,PGs X tgs g/\zhj X.K b g' g
theorem zal.set {K:PySem.W.Frag}(h:zal K aD H Z U)(r:Rel K aD H d v)(i:Nat):zal K aD H (Z.set i (some d)) (U.set i (some v)) where
 len:=by rw[List.length_set,List.length_set];exact h.len
 val:=λj e q=>by
  by_cases hj:j=i
  ·subst hj;have hl:j<Z.length:=by have:=My.zaT q;rw[List.length_set]at this;exact this
   rw[List.getElem?_set_self hl]at q;cases q;exact⟨v,List.getElem?_set_self (by rw[<- h.len];exact hl),r⟩
  ·rw[List.getElem?_set_ne (Ne.symm hj)]at q;obtain⟨u,e1,r1⟩:=h.val j e q;exact⟨u,by rw[List.getElem?_set_ne (Ne.symm hj)];exact e1,r1⟩
section
variable {X:Cx}{pos:Pos}{b:Nat}
def zaU {K:PySem.W.Frag}(i:Nat)(hb:i<b):zeT K b (zak i) (L2.zak i):=λaD H S Z U d v Q0 Q st rh r q k =>k _ S _ H aD q Wd.refl st (rh.set r i) (List.length_set ..) λj hj=>List.getElem?_set_ne (by lia)
def zad {i:Nat}{x:Str}(hN:X.N.Nodup)(hi:autoParam (X.N[i]?=some x) zL)(hx:autoParam (Loc X.env.scope x) zjc)(hf:autoParam (X.fn x=true\/X.env.scope.names.lookup x=some .local) zep)(hb:autoParam (i<b) zW):PGD X b (.Name x pos) (zak i) :=⟨_,zbv hN hi hx hf,zaU i hb⟩
def zdT:zmb X b [] zcg:=⟨_,zeJ,by rintro aD H S Z U ds vs Q0 Q st rh r ⟨e,q⟩ k;subst e;cases r;exact⟨rfl,k Z S U H aD q Wd.refl st rh rfl λ_ _=>rfl⟩⟩
def za3 {e:Expr}(h1:PGD X b e t)(h2:zmb X b es u)(hs:autoParam ((assignEach (e::es) X.env).map (·.2)=assign e X.env::(assignEach es X.env).map (·.2)) zL):zmb X b (e::es) (zaw t u):=by
 obtain⟨g1,p1,r1⟩:=h1;obtain⟨g2,p2,r2⟩:=h2;refine⟨_,zbq p1 p2 hs,λaD H S Z U ds vs Q0 Q st rh r ⟨d,rs,ed,q⟩ k=>?_⟩;subst ed;cases r with
 |cons r t =>refine⟨_,_,rfl,r1 aD H S Z U d _ _ _ st rh r q λρ1 S1 σ1 H1 ad1 q1 w1 st1 rh1 l1 a1=>?_⟩;exact r2 ad1 H1 S1 ρ1 σ1 _ _ _ _ st1 rh1 (t.wd w1) q1 λρ2 S2 σ2 H2 ad2 q2 w2 st2 rh2 l2 a2=>k ρ2 S2 σ2 H2 ad2 q2 (w1.trans w2) st2 rh2 (l2.trans l1) λj hj=>(a2 j hj).trans (a1 j hj)
def zdS {k n:Nat}(hc:X.calm=true)(h:zmb X b es t)(hn:autoParam ((assignEach es X.env).length=n) zL)(hst:autoParam ((assignEach es X.env).findIdx? (·.1)=none) zL):PGD X b (.Tuple es k pos) (zce n t):=by
 obtain⟨g,p,r⟩:=h;refine⟨_,zfx hc p hn hst,λaD H S Z U d v Q0 Q st rh rv ⟨xs,ed,hl,q⟩ k=>?_⟩;subst ed;cases rv with
 |tup h1 rs=>exact⟨_,_,rfl,SqT.of h1,by rw[<- rs.length];exact hl,r aD H S Z U xs _ _ _ st rh rs q k⟩
def zhZ (ho:PD X o to)(hi:PD X i ti)(ha:∀ v,assign (.Subscript o i pos) X.env v=(do
   let ov <- holding [v] (eval o X.env);let iv <- holding [v,ov] (eval i X.env)
   standAt pos
   holding [v,ov,iv] (setItem ov iv v)
   release [v,ov,iv] []):=by intro _;rfl):PGD X b (.Subscript o i pos) (zgP to ti):=by with_unfolding_all exact(⟨_,zsj ho hi set_list ha,λaD H S Z U d v Q0 Q st rh r q k=>⟨aD,Z,S,_,st,rh,q,λx S1 u H1 ad1 q1 w1 st1 r1=>⟨ad1,Z,S1,_,st1,rh.wd w1,q1,λy S2 z H2 ad2 q2 w2 st2 r2=>by
  obtain⟨n,xs,kk,j,ex,ey,hn,hj,q3⟩:=q2;subst ex ey;cases r2;cases r1 with
  |ref e =>have e2:=zhQ w2.pre e;obtain⟨ws,hw,rw⟩:=st2.cell n _ _ e2 hn;have rd:=r.wd (w1.trans w2);exact⟨_,ws,kk,j,rfl,rfl,hw,by rw[<- rw.length];exact hj,k Z _ U _ ad2 q3 ((w1.trans w2).trans (Wd.put e2 hw)) (st2.put e2 hw (rw.set rd j)) (rh.wd ((w1.trans w2).trans (Wd.put e2 hw))) rfl λ_ _=>rfl⟩⟩⟩⟩)
variable {st:Stmt}{sts:List Stmt}{t u:DS}{e:Expr}{te:DE}
def zM:zcS X [] zZ:=by with_unfolding_all exact(zjK zrf λE U H hh=>el8 hh λaD Z S E0 so rh q k=>k.nx Z S U H aD q Wd.refl so rh)
def zu (h:PSD X st t):zcS X [st] t:=by with_unfolding_all exact(zre h)
def zm (h1:PSD X st t)(h2:zcS X sts u):zcS X (st::sts) (zA t u):=by with_unfolding_all exact(zjK (zoX h1 h2) λE U H hh=>el8 hh λaD Z S E0 so rh q k =>⟨aD,Z,S,{ E0 with nx:=u E0 },so,rh,q,⟨λρ' S' σ' H' aD' q' w st' rh'=>⟨aD',ρ',S',E0,st',rh',q',k.wd w⟩,k.rt,k.bk,k.ct⟩⟩)
def zn9:PSD X (.Continue pos) zpF:=by with_unfolding_all exact(zaN zkk λE U H hh=>el8 hh λaD Z S E0 so rh q k=>k.ct Z S U H aD q Wd.refl so rh)
def zaS:PSD X st zbV:=by with_unfolding_all exact(zaN zoP λE U H hh=>el8 hh λaD Z S E0 so rh q k=>q)
def zap (he:PD X e te)(hs:autoParam (swapsWith e none pos.line X.env=pure false) zL):PSD X (.Expr e pos) (zaY te):=by with_unfolding_all exact(zaN (zqm he hs) λE U H hh=>el8 hh λaD Z S E0 so rh q k =>⟨aD,Z,S,_,so,rh,q,λd S' v H' aD' q' w st' r=>k.nx Z S' U H' aD' q' w st' (rh.wd w)⟩)
def zF (he:PD X e te):PSD X (.Return (some e) pos) (zT te):=by with_unfolding_all exact(zaN (ztk he) λE U H hh=>el8 hh λaD Z S E0 so rh q k=>⟨aD,Z,S,_,so,rh,q,k.rt⟩)
def zff (h:PSD X st t):PSD X st (sJ t):=by with_unfolding_all exact(zaN h λE U H zq46=>by obtain⟨aD,Z,S,E0,so,rh,⟨J,hJ,q⟩,k⟩:=zq46;exact 
 ⟨aD,Z,S,{ E0 with nx:=J },so,rh,q,⟨λρ' S' σ' H' aD' q' w st' rh'=>k.nx ρ' S' σ' H' aD' (hJ _ _ q') w st' rh',k.rt,k.bk,k.ct⟩⟩)
def zO {c:Expr}{a b:List Stmt}{tc:DT}(hc:PTD X c tc)(ha:zcS X a t)(hb:zcS X b u):PSD X (.If c a b pos) (sIf tc t u):=by with_unfolding_all exact(zaN (ztJ hc ha hb) λE U H hh=>el8 hh λaD Z S E0 so rh q k =>
 ⟨aD,Z,S,_,so,rh,q,λb S' H' aD' q' w st'=>by
  cases b with
  |true=>rw[if_pos rfl]at q' ⊢;exact⟨aD',Z,S',E0,st',rh.wd w,q',k.wd w⟩
  |false=>rw[if_neg Bool.false_ne_true]at q' ⊢;exact⟨aD',Z,S',E0,st',rh.wd w,q',k.wd w⟩⟩)
def zy {i:Nat}{x:Str}{pos':Pos}(hN:X.N.Nodup)(he:PD X e te)(hi:autoParam (X.N[i]?=some x) zL)(hx:autoParam (Loc X.env.scope x) zjc)(hs:autoParam (swapsWith e (some (.Name x pos')) pos.line X.env=pure false) zL)(hf:autoParam (X.fn x=true\/X.env.scope.names.lookup x=some .local) zep) :
  PSD X (.Assign [.Name x pos'] e pos) (zG te (zak i)):=by with_unfolding_all exact(zaN (zsS hN hi hx he hs hf) λE U H hh=>el8 hh λaD Z S E0 so rh q k =>
 ⟨aD,Z,S,_,so,rh,q,λd S' v H' aD' q' w st' r=>k.nx _ S' _ H' aD' q' w st' ((rh.wd w).set r i)⟩)
def zgc (he:PD X e te)(hg:PGD X 1000 tg g)(hs:autoParam (swapsWithSole [tg] e pos.line X.env=pure false) zL)(hw:autoParam (swappedStores [tg] e X.env=pure none) zL)(h1:autoParam ((assignEach [tg] X.env).map (·.2)=[assign tg X.env]) zL):PSD X (.Assign [tg] e pos) (zG te g):=by
 with_unfolding_all
  obtain⟨g',p,r⟩:=hg
  exact zaN (zsX he p hs hw h1) λE U H hh=>el8 hh λaD Z S E0 so rh q k =>⟨aD,Z,S,_,so,rh,q,λd S' v H' aD' q' w st' rv=>r aD' H' S' Z U d v _ _ st' (rh.wd w) rv q' λρ2 S2 σ2 H2 ad2 q2 w2 st2 rh2 _ _=>k.nx ρ2 S2 σ2 H2 ad2 q2 (w.trans w2) st2 rh2⟩
def zrj {i j:Nat}{x y:Str}{a b:Expr}{t:DA}{px py pt:Pos}{kt k2 pt2}(hc:X.calm=true)(hN:X.N.Nodup)(hi:X.N[i]?=some x)(hj:X.N[j]?=some y)(hij:i≠j)
  (hx:X.env.scope.names.lookup x=some .local) (hy:X.env.scope.names.lookup y=some .local) (ha:PAD X [a,b] t)
  (hw:swappedStores [.Tuple [.Name x px,.Name y py] kt pt] (.Tuple [a,b] k2 pt2) X.env=pure (some [x,y]))
  (hs:swapsWithSole [.Tuple [.Name x px,.Name y py] kt pt] (.Tuple [a,b] k2 pt2) pos.line X.env=pure false:=by rfl) :
  PSD X (.Assign [.Tuple [.Name x px,.Name y py] kt pt] (.Tuple [a,b] k2 pt2) pos) (zoA i j t):=by with_unfolding_all exact(zaN (zrF hc hN hi hj hij hx hy ha hw hs) λE U H hh=>el8 hh λaD Z S E0 so rh q k =>
 ⟨aD,Z,S,_,so,rh,q,λds S' vs H' aD' q' w st' r=>by
  obtain⟨d1,d2,e,q'⟩:=q';subst e;cases r with
  |cons r1 r' =>
   cases r' with
   |cons r2 r'' =>cases r'';exact⟨_,_,rfl,k.nx _ S' _ H' aD' q' w st' (((rh.wd w).set r1 i).set r2 j)⟩⟩)
def zqE {i:Nat}{x:Str}{pos':Pos}(hN:X.N.Nodup)(he:PD X e te)(hi:autoParam (X.N[i]?=some x) zL)(hx:autoParam (Loc X.env.scope x) zjc)(hf:autoParam (X.fn x=true\/X.env.scope.names.lookup x=some .local) zep) :
  PSD X (.AugAssign (.Name x pos') .Add e pos) (zot i te):=by with_unfolding_all exact(zaN (zrM hN hi hx he zth hf) λE U H zq47=>by
 obtain⟨aD,Z,S,E0,so,rh,⟨a,ea,q⟩,k⟩:=zq47;obtain⟨v,ev,rv⟩:=rh.val i _ ea;cases rv;refine⟨_,ev,aD,Z,S,_,so,rh,q,λd S' v H' aD' ⟨b,eb,q'⟩ w st' r=>?_⟩;subst eb;cases r;exact⟨a,b,rfl,rfl,k.nx _ S' _ H' aD' q' w st' ((rh.wd w).set (.int _) i)⟩)
def zix (hc:PTD X c tc)(hb:zcS X body t)(hp:autoParam (PassesOwn (model X.prog X.w) X.A X.env X.xe) zmO):PSD X (.While c body [] pos) (zhh tc t):=by with_unfolding_all exact(zaN (zoH hp hc hb) λE U H zq48=>by
 obtain⟨aD,Z,S,E0,so,rh,⟨W,⟨m0,w0⟩,turn⟩,k⟩:=zq48;refine⟨λm σ' H'=>∃ aD' ρ' S',W m ρ' S'/\Wd aD H aD' H'/\zK X.K aD' H' S'/\zal X.K aD' H' ρ' σ',⟨m0,aD,Z,S,w0,Wd.refl,so,rh⟩,?_⟩;rintro m σ1 H1 ⟨ad1,ρ1,S1,w1,d1,st1,rh1⟩;refine⟨ad1,ρ1,S1,_,st1,rh1,turn m ρ1 S1 w1,λb S2 H2 ad2 q2 d2 st2=>?_⟩;cases b with
 |true =>
  rw[if_pos rfl]at q2 ⊢;obtain⟨N,hN,q2⟩:=q2;refine⟨λσ' H'=>∃ aD' ρ' S',N ρ' S'/\Wd aD H aD' H'/\zK X.K aD' H' S'/\zal X.K aD' H' ρ' σ',?_,ad2,ρ1,S2,{ E0 with nx:=N,ct:=N,bk:=E0.nx },st2,rh1.wd d2,q2,?_⟩
  ·rintro σ' H' ⟨aD',ρ',S',n',d',st',rh'⟩;obtain⟨m',hm,w'⟩:=hN ρ' S' n';exact⟨m',hm,aD',ρ',S',w',d',st',rh'⟩
  ·have d12:=d1.trans d2;exact⟨λρ' S' σ' H' aD' q' w' st' rh'=>⟨aD',ρ',S',q',d12.trans w',st',rh'⟩,k.rt.wd d12,λρ' S' σ' H' aD' q' w' st' rh'=>k.nx ρ' S' σ' H' aD' q' (d12.trans w') st' rh',λρ' S' σ' H' aD' q' w' st' rh'=>⟨aD',ρ',S',q',d12.trans w',st',rh'⟩⟩
 |false =>rw[if_neg Bool.false_ne_true]at q2 ⊢;exact k.nx ρ1 S2 σ1 H2 ad2 q2 (d1.trans d2) st2 (rh1.wd d2))
end
structure ze2 (K:PySem.W.Frag)(ad0:List Addr)(H0:Hp)(J0:DIt)(J:It):Prop where
 go:∀ aD H S i,Wd ad0 H0 aD H->zK K aD H S->J0.ok S->i<J0.items.length->J.go i H
 yld:∀ aD H S i d x H',Wd ad0 H0 aD H->zK K aD H S->J0.ok S->J0.items[i]?=some d->J.yld i H x H'->Wd aD H aD H'/\zK K aD H' S/\Rel K aD H' d x
 stop:∀ aD H S,Wd ad0 H0 aD H->zK K aD H S->J0.ok S->J.stop J0.items.length H
def upI (K:PySem.W.Frag)(wi:DI):TI:=λU H R=>∃ aD Z S R0,zK K aD H S/\zal K aD H Z U/\wi Z S R0/\∀ J0 S' J H' aD',R0 J0 S'->Wd aD H aD' H'->zK K aD' H' S'->ze2 K aD' H' J0 J->R J H'
@[irreducible] def PID (X:Cx)(tg iter:Expr)(wi:DI):Prop:=PI X tg iter (upI X.K wi)
def zf9 {w':TI}(h:PI X tg iter w)(m:∀ U H R,w' U H R->w U H R):PI X tg iter w':=λpins s U H R I q=>h pins s U H R I (m U H R q)
section
variable {X:Cx}{tg e:Expr}
noncomputable def Its (z:Str):It:=⟨λi _=>i<z.cps.size,λi H x H'=>H'=H/\∃ c,z.cps[i]?=some c/\x=.str ⟨#[c]⟩,λi _=>z.cps.size<=i⟩
def zmL {P:Program}{w:World}{K:PySem.W.Frag}{tg:Expr}(z:Str)(t:Tok)(it:Addr):Turn P w K tg (Its z) [it] it (λi h=>h.IsStrIter it "str_ascii_iterator" z t i) where
 mem:=by simp
 obj:=λi h st b hb=>by
  have e:b=it:=by simpa using hb
  subst e;obtain⟨o,e,c,d⟩:=st;exact⟨o,e,λv y=>by rw[d]at y;cases y⟩
 keep:=λi h h' st k=>let ⟨o,e,r⟩:=st;⟨o,k it (by simp) o e,r⟩
 item:=by
  intro X hP hw hK hc i pins s U H E I hf st hg;subst hP hw hK;have hg:i<z.cps.size:=hg;obtain⟨f0,f1,f2,f3,f4,f5⟩:=hf it (by simp);refine wpAny_pyNext_ascii_item st (c:=z.cps[i]) (by simp[hg]) λh' st' sb=>?_
  have I1:Inv X pins U H { s with heap:=h',toks:=s.toks+1 }:=I.turned (t':=s.toks+1) (λb o hb e=>(sb.2 b hb).trans e) f0 f1 f3 f4 f5;obtain⟨o,e,c,d⟩:=id st';exact⟨_,rfl,zf3 (s:={ s with heap:=h',toks:=s.toks+1 }) e c d (by decide) ⟨.str ⟨#[z.cps[i]]⟩,H,I1,⟨_,rfl⟩,⟨rfl,z.cps[i],by simp[hg],rfl⟩,st',λb hb=>(hf b hb).1⟩⟩
 done:=by intro X hP hw hK hc i pins s U H E I hf st hg;subst hP hw hK;have hg:z.cps.size<=i:=hg;obtain⟨f0,f1,f2,f3,f4,f5⟩:=hf it (by simp);exact wpAny_pyNext_ascii_end (I.ok.hd hc) st (by simp[hg]) λh' eb=>⟨rfl,I.turned (t':=s.toks) (λb o hb e=>eb b o hb e) f0 f1 f3 f4 f5⟩
 self:=λ_ _ _ _ _ st hQ=>wpAny_pyIter_striter_ascii st hQ
def zmv {P:Program}{w:World}{K:PySem.W.Frag}{tg:Expr}(z:Str)(t:Tok)(it:Addr):Turn P w K tg (Its z) [it] it (λi h=>h.IsStrIter it "str_iterator" z t i) where
 mem:=by simp
 obj:=λi h st b hb=>by
  have e:b=it:=by simpa using hb
  subst e;obtain⟨o,e,c,d⟩:=st;exact⟨o,e,λv y=>by rw[d]at y;cases y⟩
 keep:=λi h h' st k=>let ⟨o,e,r⟩:=st;⟨o,k it (by simp) o e,r⟩
 item:=by
  intro X hP hw hK hc i pins s U H E I hf st hg;subst hP hw hK;have hg:i<z.cps.size:=hg;obtain⟨f0,f1,f2,f3,f4,f5⟩:=hf it (by simp);refine wpAny_pyNext_wide_item st (c:=z.cps[i]) (by simp[hg]) λh' st' sb=>?_
  have I1:Inv X pins U H { s with heap:=h',toks:=s.toks+1 }:=I.turned (t':=s.toks+1) (λb o hb e=>(sb.2 b hb).trans e) f0 f1 f3 f4 f5;obtain⟨o,e,c,d⟩:=id st';exact⟨_,rfl,zf3 (s:={ s with heap:=h',toks:=s.toks+1 }) e c d (by decide) ⟨.str ⟨#[z.cps[i]]⟩,H,I1,⟨_,rfl⟩,⟨rfl,z.cps[i],by simp[hg],rfl⟩,st',λb hb=>(hf b hb).1⟩⟩
 done:=by intro X hP hw hK hc i pins s U H E I hf st hg;subst hP hw hK;have hg:z.cps.size<=i:=hg;obtain⟨f0,f1,f2,f3,f4,f5⟩:=hf it (by simp);exact wpAny_pyNext_wide_end (I.ok.hd hc) st (by simp[hg]) λh' eb=>⟨rfl,I.turned (t':=s.toks) (λb o hb e=>eb b o hb e) f0 f1 f3 f4 f5⟩
 self:=λ_ _ _ _ _ st hQ=>wpAny_pyIter_striter_wide st hQ
def zrk (K:PySem.W.Frag)(tl:TE):TI:=λU H R=>tl U H λx H1=>(∃ a,x=.ref a/\(((∃ xs,SqL K H1 a xs)/\R (Itl K a) H1)\/((∃ xs,SqT K H1 a xs)/\R (Itt K a) H1)))\/(∃ z,x=.str z/\R (Its z) H1)
def zmK (hl:PE X l tl):PI X tg l (zrk X.K tl):=by
  intro pins s U H R I h;refine thn (hl pins s U H _ I h) λv s1 ⟨x,H1,I1,r1,q1⟩=>?_
  rcases q1 with⟨a,e,q1⟩|⟨z,e,q⟩
  case inr =>
    subst e;obtain⟨t,rfl⟩:=r1
    have fp:∀ b∈[s1.heap.objs.size],zd3 X pins H1 b:=λb hb=>by
      have e:b=s1.heap.objs.size:=by simpa using hb
      subst e;exact I1.fpOk (Nat.le_refl _) (I1.hok.fresh (Nat.le_refl _))
    cases ha:z.cps.all (· < 128)with
    |true=>exact wpAny_pyIter_ascii ha ⟨s1.heap.objs.size,[s1.heap.objs.size],_,_,H1,rfl,I1.kept (t':=s1.toks) λb o e=>Heap.get?_push_of_some _ e,zmL z t _,⟨_,Heap.get?_push_size _ rfl,rfl,rfl⟩,fp,q⟩
    |false=>exact wpAny_pyIter_wide ha ⟨s1.heap.objs.size,[s1.heap.objs.size],_,_,H1,rfl,I1.kept (t':=s1.toks) λb o e=>Heap.get?_push_of_some _ e,zmv z t _,⟨_,Heap.get?_push_size _ rfl,rfl,rfl⟩,fp,q⟩
  subst e;cases r1;rcases q1 with⟨⟨xs,hq⟩,q⟩|⟨⟨xs,hq⟩,q⟩
  . obtain⟨its,rv,p,hz⟩:=I1.list hq;refine wpAny_pyIter_list p.isList ?_;refine⟨s1.heap.objs.size,[s1.heap.objs.size],_,_,H1,rfl,I1.kept (t':=s1.toks) λb o e=>Heap.get?_push_of_some _ e,zmq a _,⟨_,Heap.get?_push_size _ rfl,rfl,rfl⟩,λb hb=>?_,q⟩;have e:b=s1.heap.objs.size:=by simpa using hb
    subst e;exact I1.fpOk (Nat.le_refl _) (I1.hok.fresh (Nat.le_refl _))
  . obtain⟨its,rv,p,hz⟩:=I1.tuple hq;refine wpAny_pyIter_tuple (show s1.heap.IsTuple a its.toArray from p) ?_;refine⟨s1.heap.objs.size,[s1.heap.objs.size],_,_,H1,rfl,I1.kept (t':=s1.toks) λb o e=>Heap.get?_push_of_some _ e,zlE a _,⟨_,Heap.get?_push_size _ rfl,rfl,rfl⟩,λb hb=>?_,q⟩;have e:b=s1.heap.objs.size:=by simpa using hb
    subst e;exact I1.fpOk (Nat.le_refl _) (I1.hok.fresh (Nat.le_refl _))
def zr1 {K:PySem.W.Frag}{aD:List Addr}{H:Hp}(z:Str):ze2 K aD H ⟨signs z,λ_=>True⟩ (Its z) where
 go:=λad1 H1 S i w st _ hi=>by show i<z.cps.size;have:i<(signs z).length:=hi;unfold signs at this;rw[List.length_map]at this;simpa using this
 yld:=by rintro ad1 H1 S i d x H' w st _ hd ⟨e,c,hc,hx⟩;subst e hx;have hd:(signs z)[i]?=some d:=hd;unfold signs at hd;rw[List.getElem?_map,Array.getElem?_toList,hc]at hd;cases hd;exact⟨Wd.refl,st,.str _⟩
 stop:=λad1 H1 S w st _=>by show z.cps.size<=(signs z).length;unfold signs;rw[List.length_map];simp
def zto {K:PySem.W.Frag}{H:Hp}{vs:List V}(h:H a=some (.tup vs))(r:zB K aD H ds vs):ze2 K aD H ⟨ds,λ_=>True⟩ (Itt K a) where
 go:=λad1 H1 S i w st _ hi=>⟨vs,vs[i]'(by rw[<- r.length];exact hi),SqT.of (w.tup _ _ h),List.getElem?_eq_getElem _⟩
 yld:=by rintro ad1 H1 S i d x H' w st _ hd ⟨e,hx⟩;subst e;obtain⟨v,ev,rv⟩:=r.get hd;rw[hx vs (SqT.of (w.tup _ _ h))]at ev;cases ev;exact⟨Wd.refl,st,rv.wd w⟩
 stop:=λad1 H1 S w st _=>⟨vs,SqT.of (w.tup _ _ h),by rw[<- r.length];exact Nat.le_refl _⟩
def zsz {K:PySem.W.Frag}{a:Addr}{ds:List D}(r:Rel K aD H x (.ref a)):ze2 K aD H ⟨ds,λS=>Lst S x ds⟩ (Itl K a) where
 go:=λad1 H1 S i w st ok hi=>by obtain⟨a',vs,e,s,rs⟩:=Lst.sq st ok (r.wd w);cases e;exact⟨vs,vs[i]'(by rw[<- rs.length];exact hi),s,List.getElem?_eq_getElem _⟩
 yld:=by rintro ad1 H1 S i d y H' w st ok hd ⟨e,hx⟩;subst e;obtain⟨a',vs,e,s,rs⟩:=Lst.sq st ok (r.wd w);cases e;obtain⟨v,ev,rv⟩:=rs.get hd;rw[hx vs s]at ev;cases ev;exact⟨Wd.refl,st,rv⟩
 stop:=λad1 H1 S w st ok=>by obtain⟨a',vs,e,s,rs⟩:=Lst.sq st ok (r.wd w);cases e;exact⟨vs,s,by rw[<- rs.length];exact Nat.le_refl _⟩
def zaJ (h:PD X e t):PID X tg e (zbf t):=by with_unfolding_all exact(zf9 (zmK h) λU H R hh=>el8 hh λaD Z S R0 st rh q k =>
 ⟨aD,Z,S,_,st,rh,q,λx S1 v H1 ad1 q1 w1 st1 r1=>by
  rcases q1 with⟨xs,rfl,q1⟩|⟨xs,hx,q1⟩|⟨z,rfl,q1⟩
  ·cases r1 with
   |tup h1 rs=>exact .inl ⟨_,rfl,.inr ⟨⟨_,SqT.of h1⟩,k _ S1 _ H1 ad1 q1 w1 st1 (zto h1 rs)⟩⟩
  ·obtain⟨a,vs,rfl,s,rs⟩:=hx.sq st1 r1;exact .inl ⟨a,rfl,.inl ⟨⟨vs,s⟩,k _ S1 _ H1 ad1 q1 w1 st1 (zsz r1)⟩⟩
  ·cases r1;exact .inr ⟨z,rfl,k _ S1 _ H1 ad1 q1 w1 st1 (zr1 z)⟩⟩)
def znV {lo:Int}{n i:Nat}{d:D}(h:(upto lo n)[i]?=some d):i<n/\d=.int (lo+i):=by
 unfold upto at h;rw[List.getElem?_map]at h;have hi:=My.zaT (xs:=List.range n) (i:=i) (x:=i);cases hr:(List.range n)[i]? with
 |none=>rw[hr]at h;cases h
 |some k =>rw[hr]at h;have h1:=My.zaT hr;rw[List.length_range]at h1;have h2:(List.range n)[i]?=some i:=List.getElem?_range h1;rw[hr]at h2;cases h2;cases h;exact⟨h1,rfl⟩
def zjq (lo:Int)(n:Nat):(upto lo n).length=n:=by unfold upto;rw[List.length_map,List.length_range]
def znh {K:PySem.W.Frag}{aD:List Addr}{H:Hp}(lo:Int)(n:Nat):ze2 K aD H ⟨upto lo n,λ_=>True⟩ (Itr lo n) where
 go:=λad1 H1 S i w st _ hi=>by rw[zjq]at hi;exact hi
 yld:=by rintro ad1 H1 S i d x H' w st _ hd ⟨e,hx⟩;subst e;obtain⟨_,rfl⟩:=znV hd;rw[hx];exact⟨Wd.refl,st,.int _⟩
 stop:=λad1 H1 S w st _=>by rw[zjq];exact Nat.le_refl _
def znK {P:Program}{w:World}{K:PySem.W.Frag}{tg:Expr}(it:Addr)(lo:Int)(n:Nat):Turn P w K tg (Itr lo n) [it] it (λi h=>IsLongIter h it (lo+(i:Nat)*1) ((n:Int)-(i:Nat)) 1) where
 mem:=by simp
 obj:=λi h st b hb=>by
  have e:b=it:=by simpa using hb
  subst e
  exact⟨_,st,λv z=>by have z':Data.fields _=Data.cell v:=z;cases z'⟩
 keep:=λi h h' st k=>k it (by simp) _ st
 item:=by
  intro X hP hw hK hc i pins s U H E I hf st' hg;subst hP hw hK;obtain⟨f0,f1,f2,f3,f4,f5⟩:=hf it (by simp);have W:=Walks.longrange (prog:=X.prog) (w:=X.w) (I.ok.hd hc) it lo 1 n;refine W.item i s _ _ hg st' λv h' tk hv st'' kk=>?_
  obtain⟨t,rfl⟩:=hv;have I1:Inv X pins U H { s with heap:=h',toks:=tk }:=I.turned (λb o hb e=>kk b o (by simpa using hb) e) f0 f1 f3 f4 f5;rw[Int.mul_one];exact⟨_,rfl,zf3 (s:={ s with heap:=h',toks:=tk }) (n:="longrange_iterator") st'' rfl rfl (by decide) ⟨.int (lo+i),H,I1,⟨t,rfl⟩,⟨rfl,rfl⟩,st'',λb hb=>(hf b hb).1⟩⟩
 done:=by intro X hP hw hK hc i pins s U H E I hf st' hg;subst hP hw hK;obtain⟨f0,f1,f2,f3,f4,f5⟩:=hf it (by simp);exact wpAny_pyNext_long_end (I.ok.hd hc) st' (by have:n<=i:=hg;lia) λh' eb=>⟨rfl,I.turned (t':=s.toks) (λb o hb e=>eb b o hb e) f0 f1 f3 f4 f5⟩
 self:=λ_ _ _ _ _ st h=>wpAny_pyIter_longiter st h
def range_any {R:It->Hp->Prop}{E:Value->Shared->Prop}{lo hi:Int}{t u v:Tok}{tk:Nat}(I:Inv X pins U H s)(q:R (Itr lo (hi-lo).toNat) H):wpAny (model X.prog X.w) X.A (pyIter (.ref s.heap.objs.size)) (PIE X pins U tg R) E { s with heap:=s.heap.push { cls:=.type "range",data:=.fields #[.int lo t,.int hi u,.int 1 v] },toks:=tk }:=by
  have I1:Inv X pins U H { s with heap:=s.heap.push { cls:=.type "range",data:=.fields #[.int lo t,.int hi u,.int 1 v] },toks:=tk }:=I.kept λb o e=>Heap.get?_push_of_some _ e
  have e1:lo+((0:Nat):Int)*1=lo:=by simp
  have e2:(((hi-lo).toNat:Nat):Int)-((0:Nat):Int)=Builtin.Range.rangeSize lo hi 1:=by rw[rangeSize_one];split<;>lia
  cases hsm:Builtin.Range.small lo hi 1 with
  |true =>
    refine wpAny_pyIter_range (IsRange.new ..) hsm ?_
    refine⟨(s.heap.push { cls:=.type "range",data:=.fields #[.int lo t,.int hi u,.int 1 v] }).objs.size,[(s.heap.push { cls:=.type "range",data:=.fields #[.int lo t,.int hi u,.int 1 v] }).objs.size],_,_,H,rfl,
      I1.kept (t':=tk) λb o e=>Heap.get?_push_of_some _ e,zhx _ lo (hi-lo).toNat,?_,λb hb=>?_,q⟩
    . show IsRangeIter _ _ (lo+((0:Nat):Int)*1) ((((hi-lo).toNat:Nat):Int)-((0:Nat):Int)) 1;rw[e1,e2];exact Heap.get?_push_size _ rfl
    . have e:b=(s.heap.push { cls:=.type "range",data:=.fields #[.int lo t,.int hi u,.int 1 v] }).objs.size:=by simpa using hb
      subst e;exact I1.fpOk (Nat.le_refl _) (I1.hok.fresh (Nat.le_refl _))
  |false =>
    refine wpAny_pyIter_longrange (IsRange.new ..) hsm ?_
    refine⟨(s.heap.push { cls:=.type "range",data:=.fields #[.int lo t,.int hi u,.int 1 v] }).objs.size,[(s.heap.push { cls:=.type "range",data:=.fields #[.int lo t,.int hi u,.int 1 v] }).objs.size],_,_,H,rfl,
      I1.kept (t':=tk) λb o e=>Heap.get?_push_of_some _ e,znK _ lo (hi-lo).toNat,?_,λb hb=>?_,q⟩
    . show IsLongIter _ _ (lo+((0:Nat):Int)*1) ((((hi-lo).toNat:Nat):Int)-((0:Nat):Int)) 1;rw[e1,e2];exact Heap.get?_push_size _ rfl
    . have e:b=(s.heap.push { cls:=.type "range",data:=.fields #[.int lo t,.int hi u,.int 1 v] }).objs.size:=by simpa using hb
      subst e;exact I1.fpOk (Nat.le_refl _) (I1.hok.fresh (Nat.le_refl _))
def zbW {a:Expr}{t:DA}{p pos:Pos}(hm:X.mg "range"=none)(ha:PAD X [a] t)(hg:autoParam (Gl X "range") zL)(hs:autoParam (starEach [a] X.env=[(false,eval a X.env)]) zhw):PID X tg (.Call (.Name "range" p) [a] [] pos) (zbP t):=by with_unfolding_all exact(zf9 (zmH hg hm ha hs) λU H R hh=>el8 hh λaD Z S R0 st rh q k =>
 ⟨aD,Z,S,_,st,rh,q,by rintro ds S1 vs H1 ad1 ⟨j,ed,b1,b2,q1⟩ w1 st1 r1;subst ed;obtain⟨v,rfl,rv⟩:=zbD r1;cases rv;exact⟨j,rfl,b1,b2,k _ S1 _ H1 ad1 q1 w1 st1 (znh 0 j.toNat)⟩⟩)
def zhR {a b:Expr}{t:DA}{p pos:Pos}(hm:X.mg "range"=none)(ha:PAD X [a,b] t)(hg:autoParam (Gl X "range") zL)(hs:autoParam (starEach [a,b] X.env=[(false,eval a X.env),(false,eval b X.env)]) znt)(hs2:autoParam (starEach [b] X.env=[(false,eval b X.env)]) zhw) :
  PID X tg (.Call (.Name "range" p) [a,b] [] pos) (zhf t):=by
 with_unfolding_all
  rintro pins s U H R I ⟨aD,Z,S,R0,st,rh,q,k⟩
  refine Call_ (zbB I hg hm boot_range (PyProof.Rows.callWith_type1 (thn (ha pos pins s U H (λvs H1=>∃ i j:Int,vs=[.int i,.int j]/\R (Itr i (j-i).toNat) H1) I ⟨aD,Z,S,_,st,rh,q,by rintro ds S1 vs H1 ad1 ⟨i,j,ed,q1⟩ w1 st1 r1;subst ed;obtain⟨v,u,rfl,rv,ru⟩:=zfA r1;cases rv;cases ru;exact⟨i,j,rfl,k _ S1 _ H1 ad1 q1 w1 st1 (znh i _)⟩⟩) λus s1 ⟨vs,H1,I1,r1,q1⟩=>?_) (by rw[hs,hs2]) (by rw[hs2];rfl)))
  obtain⟨i,j,e,q⟩:=q1;subst e;cases r1 with
  |cons r rr =>
   cases rr with
   |cons r' rr =>cases rr;obtain⟨t,rfl⟩:=r;obtain⟨t',rfl⟩:=r';exact call_range_2 (range_any I1 q)
def zav {pos:Pos}(hi:PID X tg iter wi)(hg:PGD X 1000 tg g)(hb:zcS X body t)(hp:autoParam (PassesOwn (model X.prog X.w) X.A X.env X.xe) zmO)(hc:autoParam (X.calm=true) zL)(hs:autoParam (∀ x,foldedSetIterable iter X.env x=pure x) zeV):PSD X (.For tg iter body [] pos) (zbg wi g t):=by
 with_unfolding_all
  obtain⟨g',pg,rg⟩:=hg;refine zaN (zs6 hp hc hi pg hb hs) λE U H hh=>el8 hh λaD Z S E0 so rh q k=>?_
  refine⟨aD,Z,S,_,so,rh,q,λJ0 S1 J H1 ad1 ⟨W,w0,hok,step,fin⟩ d1 st1 it=>?_⟩;refine⟨λi m σ' H'=>m=J0.items.length-i/\i<=J0.items.length/\∃ aD' ρ' S',W i ρ' S'/\Wd ad1 H1 aD' H'/\zK X.K aD' H' S'/\zal X.K aD' H' ρ' σ',⟨J0.items.length,rfl,Nat.zero_le _,ad1,Z,S1,w0,Wd.refl,st1,rh.wd d1⟩,?_⟩;rintro i m σ2 H2 ⟨rfl,hi2,ad2,ρ2,S2,w2,d2,st2,rh2⟩;by_cases hlt:i<J0.items.length
  ·have ed:J0.items[i]?=some J0.items[i]:=List.getElem?_eq_getElem hlt;refine .inr ⟨it.go ad2 H2 S2 i d2 st2 (hok _ _ _ w2) hlt,λσ' H'=>∃ aD' ρ' S',W (i+1) ρ' S'/\Wd ad1 H1 aD' H'/\zK X.K aD' H' S'/\zal X.K aD' H' ρ' σ',?_,λx H' hy=>?_⟩
   ·rintro σ' H' ⟨aD',ρ',S',w',d',st',rh'⟩;exact⟨J0.items.length-(i+1),by lia,rfl,hlt,aD',ρ',S',w',d',st',rh'⟩
   ·obtain⟨d3,st3,r3⟩:=it.yld ad2 H2 S2 i _ x H' d2 st2 (hok _ _ _ w2) ed hy;refine rg ad2 H' S2 ρ2 σ2 _ x _ _ st3 (rh2.wd d3) r3 (step i _ ρ2 S2 ed w2) λρ4 S4 σ4 H4 ad4 q4 d4 st4 rh4 _ _=>?_
    have d14:=(d2.trans d3).trans d4;have d04:=d1.trans d14;exact⟨ad4,ρ4,S4,{ E0 with nx:=W (i+1),ct:=W (i+1),bk:=E0.nx },st4,rh4,q4,⟨λρ' S' σ' H' aD' q' w' st' rh'=>⟨aD',ρ',S',q',d14.trans w',st',rh'⟩,k.rt.wd d04,λρ' S' σ' H' aD' q' w' st' rh'=>k.nx ρ' S' σ' H' aD' q' (d04.trans w') st' rh',λρ' S' σ' H' aD' q' w' st' rh'=>⟨aD',ρ',S',q',d14.trans w',st',rh'⟩⟩⟩
  ·have e:i=J0.items.length:=by lia
   subst e;exact .inl ⟨it.stop ad2 H2 S2 d2 st2 (hok _ _ _ w2),k.nx ρ2 S2 σ2 H2 ad2 (fin ρ2 S2 w2) (d1.trans d2) st2 rh2⟩
end
theorem zjb:∀ {a b:L2.St} (n:Nat),(∀ j,j<n->a[j]?=some none\/a.length<=j)->b.length=a.length->(∀ j,n<=j->b[j]?=a[j]?)->Agr a b
 |[],[],_,_,_,_=>True.intro
 |[],_::_,_,_,h,_=>by simp at h
 |_::_,[],_,_,h,_=>by simp at h
 |x::a,y::b,n,h0,hl,h=>by
  have hl':b.length=a.length:=by simpa using hl
  cases n with
  |zero =>
   have e:=h 0 (Nat.le_refl _);have e':y=x:=by simpa using e
   subst e';have rest:Agr a b:=zjb 0 (λj hj=>absurd hj (Nat.not_lt_zero _)) hl' λj _=>by simpa using h (j+1) (Nat.zero_le _)
   cases y with
   |none=>exact rest
   |some v=>exact⟨rfl,rest⟩
  |succ n =>
   have rest:Agr a b:=zjb n (λj hj=>by
    rcases h0 (j+1) (by lia)with e|e
    ·exact .inl (by simpa using e)
    ·exact .inr (by simpa using e)) hl' λj hj=>by simpa using h (j+1) (by lia)
   rcases h0 0 (Nat.succ_pos _)with e|e
   ·have e':x=none:=by simpa using e
    subst e';exact rest
   ·simp at e
def zpT {K:PySem.W.Frag}(h:zal K aD H Z U)(own:List Str)(fv:List Nat):zal K aD H (zfX own.length fv Z) (cst own fv U) where
  len:=by unfold zfX cst;rw[List.length_append,List.length_append,List.length_replicate,List.length_replicate,List.length_map,List.length_map]
  val:=λi d e=>by
    unfold zfX at e;unfold cst;by_cases hi:i<own.length
    . rw[List.getElem?_append_left (by rw[List.length_replicate];exact hi),List.getElem?_replicate]at e;split at e<;>cases e
    . have hi':own.length<=i:=Nat.le_of_not_lt hi;rw[List.getElem?_append_right (by rw[List.length_replicate];exact hi'),List.length_replicate,List.getElem?_map]at e;rw[List.getElem?_append_right (by rw[List.length_replicate];exact hi'),List.length_replicate,List.getElem?_map];cases hf:fv[i-own.length]? with
      |none=>rw[hf]at e;cases e
      |some j =>
        rw[hf]at e;simp only[Option.map_some,Option.some.injEq]at e ⊢;cases hr:Z[j]? with
        |none=>rw[hr]at e;cases e
        |some o =>rw[hr]at e;have e':o=some d:=e;subst e';obtain⟨v,ev,rv⟩:=h.val j d hr;exact⟨v,by rw[ev];rfl,rv⟩
@[irreducible] def zkc (X:Cx)(ifs:List Expr)(t:DT):Prop:=PFs X ifs (upT X.K t)
def zbb {X:Cx}:zkc X [] zbL:=by with_unfolding_all exact(λpins s U H Q I hh=>el8 hh λaD Z S Q0 st rh q k=>zsm pins s U H Q I (k true S H aD q Wd.refl st))
def zh2 (h:PTD X c t):zkc X [c] t:=by with_unfolding_all exact(ztg h)
def ofT {A B:Prop}(h:if true=true then A else B):A:=by rw[if_pos rfl]at h;exact h
def ofF {A B:Prop}(h:if false=true then A else B):B:=by rw[if_neg Bool.false_ne_true]at h;exact h
def zlV {K:PySem.W.Frag}{own:List Str}{fv:List Nat}{wi:DI}{tc:DT}{te:DE}(rg:zeT K own.length g g'){U:L2.St}{H:Hp}{Q:VK}(h:up K (dLC own.length fv wi g tc te) U H Q):tLC own fv (upI K wi) g' (upT K tc) (up K te) U H Q:=by
 obtain⟨aD,Z,S,Q0,so,rh,q,k⟩:=h;refine⟨aD,Z,S,_,so,rh,q,λJ0 S1 J H1 ad1 ⟨hbig,W,w0,hok,step,fin⟩ d1 st1 it=>?_⟩;intro p hp
 refine⟨λi m H'=>m=J0.items.length-i/\i<=J0.items.length/\∃ aD' S' ys vs,W i ys S'/\Wd ad1 H1 aD' H'/\zK K aD' H' S'/\p∉aD'/\H' p=some (.lst vs)/\zB K aD' H' ys vs/\vs.length<=i,
  ⟨J0.items.length,rfl,Nat.zero_le _,ad1,S1,[],[],w0,Wd.laid hp,st1.laid hp,st1.fresh hp,zat,.nil,Nat.le_refl _⟩,?_⟩
 rintro i m H2 ⟨rfl,hi2,ad2,S2,ys,vs,w2,d2,st2,hp2,hv2,r2,hl2⟩;by_cases hlt:i<J0.items.length
 ·have ed:J0.items[i]?=some J0.items[i]:=List.getElem?_eq_getElem hlt;refine .inr ⟨it.go ad2 H2 S2 i d2 st2 (hok _ _ _ w2) hlt,λx H' hy=>?_⟩;obtain⟨d3,st3,r3⟩:=it.yld ad2 H2 S2 i _ x H' d2 st2 (hok _ _ _ w2) ed hy;have rh3:=zpT (rh.wd ((d1.trans d2).trans d3)) own fv;refine rg ad2 H' S2 _ _ _ x _ _ st3 rh3 r3 (step i _ ys S2 ed w2) λρ4 S4 σ4 H4 ad4 q4 d4 st4 rh4 l4 a4=>?_
  refine⟨zjb own.length (λj hj=>.inl ?_) l4 a4,ad4,ρ4,S4,_,st4,rh4,q4,λb S5 H5 ad5 q5 d5 st5=>?_⟩
  ·unfold cst;rw[List.getElem?_append_left (by rw[List.length_replicate];exact hj),List.getElem?_replicate,if_pos hj]
  have fwd:∀ {ad9:List Addr} {H9:Hp},Wd ad2 H2 ad9 H9->p∉ad9/\H9 p=some (.lst vs):=λ{ad9 H9} w=>⟨(λm=>by have z:=w.new p m hp2;rw[hv2]at z;cases z),w.keep p _ hp2 hv2⟩
  have d25:=(d3.trans d4).trans d5;cases b with
  |true =>refine zoZ ?_;have q5:=Dp.ofT q5;refine⟨ad5,ρ4,S5,_,st5,rh4.wd d5,q5,λy S6 v H6 ad6 q6 d6 st6 r6=>?_⟩;have d26:=d25.trans d6;obtain⟨n6,e6⟩:=fwd d26;have hw:Wr ad6 H6 ad6 (upd H6 p (.lst (vs++[v]))):=Wr.hid e6;have hvl:vs.length<sizeLine:=znw (by lia);exact⟨vs,e6,hvl,J0.items.length-(i+1),by lia,rfl,hlt,ad6,S6,ys++[y],vs++[v],q6,(d2.trans d26).hid hp,st6.hid e6 n6 (st1.bfree hp),n6,zat,zB.wr hw ((r2.wd d26).append (.cons r6 .nil)),by rw[List.length_append];exact Nat.succ_le_succ hl2⟩
  |false =>refine zoo ?_;have q5:=Dp.ofF q5;obtain⟨n5,e5⟩:=fwd d25;exact⟨J0.items.length-(i+1),by lia,rfl,hlt,ad5,S5,ys,vs,q5,d2.trans d25,st5,n5,e5,r2.wd d25,by lia⟩
 ·have e:i=J0.items.length:=by lia
  subst e;refine .inl ⟨it.stop ad2 H2 S2 d2 st2 (hok _ _ _ w2),?_⟩;exact k _ _ _ _ (ad2++[p]) (fin ys S2 w2) (d1.trans (d2.add hp)) (st2.add hv2 hp2 r2 (st1.bfree hp)) (.ref (by rw[<- st2.len,List.getElem?_append_right (Nat.le_refl _),Nat.sub_self];rfl))
section
variable {X:Cx}{sc:Scope}{tg iter elt:Expr}{ifs:List Expr}{own free:List Str}{fv:List Nat}{wi:DI}{g:DG}{tc:DT}{te:DE}{pos:Pos}
def zdO (hfr:zcq (λx=>X.env.kindOf x=some .cell) sc.names)(hfv:zdC X sc free fv)(hi:PID X tg iter wi)(hg:zeT X.K own.length g g'/\∀ cl C s₀ H₀ ex,PG (inner X sc (own++free) cl C s₀ H₀ ex) tg g')(ht:∀ cl C s₀ H₀ ex,zkc (inner X sc (own++free) cl C s₀ H₀ ex) ifs tc)(he:∀ cl C s₀ H₀ ex,PD (inner X sc (own++free) cl C s₀ H₀ ex) elt te)(hcalm:autoParam (X.calm=true) zL)(hxe:autoParam ((X.xe=λ_ _=>False)) zL)(hkind:autoParam (sc.kind=.function) zL)(hcell:autoParam (∀ y∈sc.names,y.2=.cell->sc.names.lookup y.1=some .cell) zcP)(hnames:autoParam (∀ y∈sc.names,y.2=.local->sc.names.lookup y.1=some .local) zcP)(hs:autoParam (∀ x,foldedSetIterable iter X.env x=pure x) zeV):PD X (.ListComp elt [⟨tg,iter,ifs,0⟩] sc pos) (dLC own.length fv wi g tc te):=by with_unfolding_all exact(zaC (zuZ (tc:=upT X.K tc) (te:=up X.K te) hcalm hxe hkind hcell hnames hfr hfv hi hg.2 ht he hs) λ_ _ _=>zlV hg.1)
def zc5 {i:Nat}{y:Str}{py spos:Pos}(hN:X.N.Nodup)(hfr:zcq (λx=>X.env.kindOf x=some .cell) sc.names)(hfv:zdC X sc free fv)(hi:PID X tg iter wi)(hg:zeT X.K own.length g g'/\∀ cl C s₀ H₀ ex,PG (inner X sc (own++free) cl C s₀ H₀ ex) tg g')(ht:∀ cl C s₀ H₀ ex,zkc (inner X sc (own++free) cl C s₀ H₀ ex) ifs tc)(he:∀ cl C s₀ H₀ ex,PD (inner X sc (own++free) cl C s₀ H₀ ex) elt te)(hy:autoParam (X.N[i]?=some y) zL)(hyl:autoParam (X.env.scope.names.lookup y=some .local) zL)(hcalm:autoParam (X.calm=true) zL)(hxe:autoParam ((X.xe=λ_ _=>False)) zL)(hkind:autoParam (sc.kind=.function) zL)(hcell:autoParam (∀ y∈sc.names,y.2=.cell->sc.names.lookup y.1=some .cell) zcP)(hnames:autoParam (∀ y∈sc.names,y.2=.local->sc.names.lookup y.1=some .local) zcP)(hsw:autoParam (swapsWith (.ListComp elt [⟨tg,iter,ifs,0⟩] sc pos) (some (.Name y py)) spos.line X.env=pure true) zL)(hs:autoParam (∀ x,foldedSetIterable iter X.env x=pure x) zeV):PSD X (.Assign [.Name y py] (.ListComp elt [⟨tg,iter,ifs,0⟩] sc pos) spos) (zG (dLC own.length fv wi g tc te) (zak i)):=by with_unfolding_all exact(zaN (zqs (tc:=upT X.K tc) (te:=up X.K te) hN hy hyl hcalm hxe hkind hcell hnames hfr hfv hi hg.2 ht he hsw hs) λE U H hh=>el8 hh λaD Z S E0 so rh q k =>zlV (Q:=λx H1=>L2.zak i x U H1 E.nx) hg.1 ⟨aD,Z,S,_,so,rh,q,λd S' v H' aD' q' w st' r=>k.nx _ S' _ H' aD' q' w st' ((rh.wd w).set r i)⟩)
def zer {K:PySem.W.Frag}{b:Nat}:zhj K b zcg L2.zcg:=λaD H S Z U ds vs Q0 Q st rh r zq55 k=>by obtain⟨e,q⟩:=zq55;subst e;cases r;exact⟨rfl,k Z S U H aD q Wd.refl st rh rfl λ_ _=>rfl⟩
def za7 {K:PySem.W.Frag}(r1:zeT K b t t')(r2:zhj K b u u'):zhj K b (zaw t u) (L2.zaw t' u'):=λaD H S Z U ds vs Q0 Q st rh r zq56 k=>by
 obtain⟨d,rs,ed,q⟩:=zq56;subst ed;cases r with
 |cons r t =>refine⟨_,_,rfl,r1 aD H S Z U d _ _ _ st rh r q λρ1 S1 σ1 H1 ad1 q1 w1 st1 rh1 l1 a1=>?_⟩;exact r2 ad1 H1 S1 ρ1 σ1 _ _ _ _ st1 rh1 (t.wd w1) q1 λρ2 S2 σ2 H2 ad2 q2 w2 st2 rh2 l2 a2=>k ρ2 S2 σ2 H2 ad2 q2 (w1.trans w2) st2 rh2 (l2.trans l1) λj hj=>(a2 j hj).trans (a1 j hj)
def zeU {K:PySem.W.Frag}{n:Nat}(r:zhj K b t t'):zeT K b (zce n t) (L2.zce K n t'):=λaD H S Z U d v Q0 Q st rh rv zq57 k=>by
 obtain⟨xs,ed,hl,q⟩:=zq57;subst ed;cases rv with
 |tup h1 rs=>exact⟨_,_,rfl,SqT.of h1,by rw[<- rs.length];exact hl,r aD H S Z U xs _ _ _ st rh rs q k⟩
end
def zjO {K:PySem.W.Frag}(N:List Str)(r:zB K aD H ds vs):zal K aD H (zdx N.length ds) (L2.start N vs) where
  len:=by unfold zdx L2.start;rw[List.length_append,List.length_append,List.length_map,List.length_map,List.length_replicate,List.length_replicate,r.length]
  val:=λi d e=>by
    unfold zdx at e;unfold L2.start;by_cases hi:i<ds.length
    . rw[List.getElem?_append_left (by rw[List.length_map];exact hi),List.getElem?_map]at e;rw[List.getElem?_append_left (by rw[List.length_map,<- r.length];exact hi),List.getElem?_map];cases hd:ds[i]? with
      |none=>rw[hd]at e;cases e
      |some d' =>rw[hd]at e;cases e;obtain⟨v,ev,rv⟩:=r.get hd;exact⟨v,by rw[ev];rfl,rv⟩
    . rw[List.getElem?_append_right (by rw[List.length_map];exact Nat.le_of_not_lt hi),List.getElem?_replicate]at e;split at e<;>cases e
def zB.cut1 {K:PySem.W.Frag}{aD aD':List Addr}{H:Hp}(k:Nat)(h1:∀ d v,fl k d=true->Rel K aD H d v->Rel K aD' H d v):∀ ds vs,ds.all (fl k)=true->zB K aD H ds vs->zB K aD' H ds vs:=by
 intro ds
 induction ds with
 |nil=>intro vs _ r;cases r;exact .nil
 |cons d ds ih =>
  intro vs hf r;rw[List.all_cons,Bool.and_eq_true]at hf;cases r with
  |cons r t=>exact .cons (h1 d _ hf.1 r) (ih _ hf.2 t)
def Rel.cut {K:PySem.W.Frag}{aD aD':List Addr}{H:Hp}:∀ (k:Nat) (d:D) (v:V),fl k d=true->Rel K aD H d v->Rel K aD' H d v:=by
 intro k
 induction k with
 |zero =>
  intro d v hf r;cases r with
  |non=>exact .non
  |bl b=>exact .bl b
  |int i=>exact .int i
  |str x=>exact .str x
  |ty n=>cases hf
  |tup h r=>cases hf
  |rl h r=>cases hf
  |kt h r=>cases hf
  |ref h=>cases hf
  |exn _ _ _=>cases hf
 |succ k ih =>
  intro d v hf r;cases r with
  |non=>exact .non
  |bl b=>exact .bl b
  |int i=>exact .int i
  |str x=>exact .str x
  |ty n=>cases hf
  |tup h r=>exact .tup h (zB.cut1 k ih _ _ hf r)
  |rl h r=>cases hf
  |kt h r=>cases hf
  |ref h=>cases hf
  |exn _ _ _=>cases hf
theorem zB.cut {K:PySem.W.Frag}{aD':List Addr}(k:Nat)(ds:List D)(vs:List V)(hf:ds.all (fl k)=true)(r:zB K aD H ds vs):zB K aD' H ds vs:=zB.cut1 k (Rel.cut k) ds vs hf r
end Dp
namespace Dp
open PySem PySem.Spec PyProof.Rows L2 My
variable [B:Bs]
mutual
theorem Rel.low {K:PySem.W.Frag}{aD aD':List Addr}{H H':Hp}{m:Nat}(hm:aD.length<=m):∀ {d:D} {u v:V},Rel K aD H d u->Rel K aD' H' d v->Rel K (aD'.take m) H' d v
 |_,_,_,.non,r=>by cases r;exact .non
 |_,_,_,.bl b,r=>by cases r;exact .bl b
 |_,_,_,.int i,r=>by cases r;exact .int i
 |_,_,_,.str x,r=>by cases r;exact .str x
 |_,_,_,.ty n,r=>by cases r;exact .ty n
 |_,_,_,.tup _ t,r=>by
  cases r with
  |tup h t'=>exact .tup h (zB.low hm t t')
 |_,_,_,.rl _ t,r=>by
  cases r with
  |rl h t'=>exact .rl h (zB.low hm t t')
 |_,_,_,.kt _ t,r=>by
  cases r with
  |kt h t'=>exact .kt h (zB.low hm t t')
 |_,_,_,.exn _ _ _,r=>by
  cases r with
  |exn h e n=>exact .exn h e n
 |_,_,_,.ref h,r=>by
  cases r with
  |ref h'=>exact .ref (by rw[List.getElem?_take_of_lt (Nat.lt_of_lt_of_le (My.zaT h) hm)];exact h')
theorem zB.low {K:PySem.W.Frag}{aD aD':List Addr}{H H':Hp}{m:Nat}(hm:aD.length<=m):∀ {ds:List D} {us vs:List V},zB K aD H ds us->zB K aD' H' ds vs->zB K (aD'.take m) H' ds vs
 |_,_,_,.nil,r=>by cases r;exact .nil
 |_,_,_,.cons r t,q=>by
  cases q with
  |cons r' t'=>exact .cons (Rel.low hm r r') (zB.low hm t t')
end
theorem zaF.low {K:PySem.W.Frag}{aD aD':List Addr}{H H':Hp}{m:Nat}(hm:aD.length<=m):∀ {fs:List (Str×D)} {us vs:List (Str×V)},zaF K aD H fs us->zaF K aD' H' fs vs->zaF K (aD'.take m) H' fs vs
 |_,_,_,.nil,r=>by cases r;exact .nil
 |_,_,_,.cons r t,q=>by
  cases q with
  |cons r' t'=>exact .cons (Rel.low hm r r') (zaF.low hm t t')
theorem RelK.low {K:PySem.W.Frag}{aD aD':List Addr}{H H':Hp}{m:Nat}(hm:aD.length<=m):∀ {fs:List (Str×D)} {us vs:List (Key×V)},RelK K aD H fs us->RelK K aD' H' fs vs->RelK K (aD'.take m) H' fs vs
 |_,_,_,.nil,r=>by cases r;exact .nil
 |_,_,_,.cons r t,q=>by
  cases q with
  |cons r' t'=>exact .cons (Rel.low hm r r') (RelK.low hm t t')
theorem zcw.low {K:PySem.W.Frag}{aD aD':List Addr}{H H':Hp}{m:Nat}(hm:aD.length<=m):∀ {fs:List (List Key×D)} {us vs:List (List Key×V)},zcw K aD H fs us->zcw K aD' H' fs vs->zcw K (aD'.take m) H' fs vs
 |_,_,_,.nil,r=>by cases r;exact .nil
 |_,_,_,.cons r t,q=>by
  cases q with
  |cons r' t'=>exact .cons (Rel.low hm r r') (zcw.low hm t t')
def zhp {K:PySem.W.Frag}(st:zK K aD H S)(k:KK K aD H Q0 Q):KK K aD H (Fin S Q0) Q:=by
 intro d S' v H' aD' hf w st' r;rcases hf with q|⟨S1,pre,hlen,hd,hc,q⟩
 ·exact k d S' v H' aD' q w st' r
 have hS:S1.length<=S'.length:=pre.length_le;have had:aD.length<=S1.length:=by rw[st.len];exact hlen
 have htk:∀ {n:Nat} {a:Addr},(aD'.take S1.length)[n]?=some a->aD'[n]?=some a:=λ{n a} e=>by have hn:=My.zaT e;rw[List.length_take]at hn;rw[List.getElem?_take_of_lt (by lia)]at e;exact e
 have w1:Wd aD H (aD'.take S1.length) H':=by refine⟨?_,w.keep,w.tup,w.frz,λb m n=>w.new b (List.mem_of_mem_take m) n⟩;obtain⟨t,rfl⟩:=w.pre;rw[List.take_append,List.take_of_length_le had];exact List.prefix_append _ _
 refine k d S1 v H' _ q w1 ⟨st.wd.trans w1,by rw[List.length_take,st'.len];lia,st'.nd.sublist (List.take_sublist _ _),λn a c e1 e2=>?_⟩ ?_
 ·have e1':=htk e1;have ok:=st'.cell n a c e1' (zhQ pre e2);rcases hc n c e2 with h|h
  ·obtain⟨a0,ea,ok0⟩:=st.get h;cases c with
   |ins c fs =>obtain⟨C,dx,vs,hv,c1,c2,rv,hn⟩:=ok;obtain⟨_,_,us,_,_,_,ru,_⟩:=ok0;exact⟨C,dx,vs,hv,c1,c2,zaF.low had ru rv,hn⟩
   |dk kvs =>obtain⟨vs,hv,rv⟩:=ok;obtain⟨us,hu,ru⟩:=ok0;exact⟨vs,hv,RelK.low had ru rv⟩
   |dt kvs =>obtain⟨vs,hv,rv⟩:=ok;obtain⟨us,hu,ru⟩:=ok0;exact⟨vs,hv,zcw.low had ru rv⟩
   |tab x l c=>exact ok
   |lst xs =>obtain⟨vs,hv,rv⟩:=ok;obtain⟨us,hu,ru⟩:=ok0;exact⟨vs,hv,zB.low had ru rv⟩
  ·cases c with
   |ins c fs=>cases h
   |dk _=>cases h
   |dt _=>cases h
   |tab _ _ _=>cases h
   |lst xs =>obtain⟨vs,hv,rv⟩:=ok;exact⟨vs,hv,zB.cut 20 _ _ h rv⟩
 ·rcases hd with h|⟨n,rfl,hn⟩
  ·exact Rel.cut 20 _ _ h r
  ·cases r with
   |ref e=>exact .ref (by rw[List.getElem?_take_of_lt hn];exact e)
omit B in
def zpU {P:Program}{w:World}{K:PySem.W.Frag}{mg:Str->Option Value}{base:Heap}{st:Stmt}{k:Nat}{sp:DSp}(F:Fun K x qual st f fd)(S:zcC N ps (zY st))(len:∀ ds So Q,sp ds So Q->ds.length=ps.length)(body:BodyOk N.length b sp)(term:∀ (cdv:Value) (A:Around) (outer:List Env) (s:Shared) (H:Hp) (E:XK),zaB k (A.deeper (envOfC qual (zY st) s.heap.objs.size f cdv))->∀ [Bs],zcS (zcI CX0 P w K mg base N qual (zY st) f cdv A outer s H E).nox (zaI st) b) :
  zQ P w K mg base CX0 (k+1) f fd ps (upF K sp):=by
 with_unfolding_all
  refine F.ok S (by rintro vs H Q E ⟨aD,So,ds,Q0,so,r,hf,kk⟩;exact by rw[<- r.length];exact len ds So Q0 hf) λcdv A outer s H vs Q E hr ⟨aD,So,ds,Q0,so,r,hf,kk⟩=>?_
  letI:Bs:=⟨aD,H⟩
  refine⟨_,term cdv A outer s H E hr,aD,zdx N.length ds,So,_,so,zjO N r,body ds So Q0 hf,⟨λZ S' U H' aD' q w' st' rh=>zhp so kk .non S' .non H' aD' q w' st' .non,zhp so kk,λ_ _ _ _ _ q=>q.elim,λ_ _ _ _ _ q=>q.elim⟩⟩
omit B in
def zse {K:PySem.W.Frag}{ns:List Int}(hl:ns.length<=63)(hg:∀ n∈ns,Hg n)(hO:Only H)(hS:SqL K H a (ns.map V.int)):upF K zeC [.ref a] H (λv _=>v=.bl true) λ_ _ _=>False:=by
 have hr:zgQ K H a (ns.map V.int):=by
  rcases hS with(h|h)|h
  ·rcases hO a with e|⟨o,xs,e⟩
   ·rw[h]at e;cases e
   ·rw[h]at e;cases e
  ·exact .inl h
  ·exact .inr h
 refine⟨[],[],[.rl (ns.map D.int)],λd _=>d=.bl true,@zK.mk ⟨[],H⟩ _ _ _ _ Wd.refl rfl List.nodup_nil (λn a c e=>by simp at e),.cons (.rl hr (zB.mk_ints ns)) .nil,⟨ns,rfl,⟨rfl,hg⟩,hl,λ_=>rfl⟩,λd S' v H' aD' q w st' r=>?_⟩;have q':d=.bl true:=q;subst q';cases r;rfl
omit B in
theorem zjn:∀ {ns:List Int} {n:Int},n∈ns->PySem.W.WData.weight (.int n)<=PySem.W.WData.weightAll (ns.map PySem.W.WData.int)
 |m::ns,n,h=>by
  rw[List.map_cons,PySem.W.WData.weightAll];rcases List.mem_cons.mp h with rfl|h
  ·lia
  ·have:=zjn h;lia
omit B in
def zoG {l:PySem.W.OpenLaw}{n:Nat}{q:Program}{loose:List Str}{XP:(Str->Option Value)->Heap->Prop}{YP:World->Heap->Prop}{d:DefRec}{K:Params->PySem.W.Frag}{sp:World->Sp}{x:Str}(hn:l.most=some n)(hn2:n<=sizeLine)(hdf:d.params.defaults=[])(hr:zaB k callerA)(hY:∀ (w:World) (h:Heap),YP w h->(K w.params).In h)(F:∀ (w:World) (mg:Str->Option Value) (fa:Addr) (h:Heap),(K w.params).In h->h.Ns mainGlobals mg->mg d.name=some (.ref fa) ->
   ∃ fd:FuncData,(∀ (s:Shared) (u:Value),BindsTo s fd ⟨[u],[]⟩ [(x,u)])/\∀ base:Heap,(K w.params).In base->base.Ns mainGlobals mg->zQ l.prog w (K w.params) mg base CX0 k fa fd [x] (sp w)) (hsp:∀ (w:World) (H:Hp) (a:Addr) (ns:List Int),ns.length<=n->(∀ m∈ns,Hg m)->Only H->SqL (K w.params) H a (ns.map V.int)->sp w [.ref a] H (λv _=>v=.bl true) λ_ _ _=>False) :
  PySem.W.WalkO q loose XP YP l.row.toRowW d [] (λf vs=>PySem.call f vs):=by
 intro w s₀ s₁ mg mb G Y fa o pm cd doc dV kV ho hd hcd hD hmg hg args vals as hpre hlay hrd hwl hlo;obtain rfl:dV=.none:=PySem.W.Dflts.none hD hdf;obtain rfl:kV=.none:=PySem.W.Dflts.noKw hD;obtain⟨a,vs,ns,rfl,rfl,hobj,hints,hlen⟩:=Att.zmr hn hpre hwl
 have hbits:∀ m∈ns,Hg m:=λm hm=>by
  have h1:PySem.W.WData.layable (.list (ns.map .int))=true:=by simpa [PySem.W.WData.layableAll]using hlay
  have h2:PySem.W.WData.weight (.list (ns.map PySem.W.WData.int))<=2 ^ 20:=by unfold PySem.W.WData.layable at h1;rw[Bool.and_eq_true,decide_eq_true_eq]at h1;exact h1.2
  have h3:=Nat.le_trans (zjn hm) (by simpa only[PySem.W.WData.weight]using h2);exact zpZ (by simpa only[PySem.W.WData.weight,Builtin.Int.intBits]using h3)
 have KX:=hY w _ Y;obtain⟨fd,hb,hF⟩:=F w mg fa _ KX G.T.g hmg;refine PySem.W.enter_call (codeAny_mono (zoh KX G.T.g G.T.b G.T.builtins G.T.nolimit hg hobj hints (Nat.le_trans hlen hn2) hr hF hb (λH hO hS=>hsp w H a ns hlen hbits hO hS) λ_ _ _ z=>z) λr s' hq=>?_);obtain⟨rfl,h2,h3,h4⟩:=hq;exact⟨.inl ⟨.bool true,.bool true,[],rfl,λ_=>rfl,.bool true,Att.zny l _,λ_=>⟨List.Pairwise.nil,λ_ hm=>(nomatch hm)⟩⟩,h2,h3,h4⟩
omit B in
def ztT {us:List Value}(hl:us.length=1):∃ a0,us=[a0]:=by
  cases us with
  |nil=>simp at hl
  |cons a0 us =>
  cases us with
  |nil=>exact⟨a0,rfl⟩
  |cons b us=>simp at hl
omit B in
def zpG {us:List Value}(hl:us.length=2):∃ a0 a1,us=[a0,a1]:=by
  cases us with
  |nil=>simp at hl
  |cons a0 us =>
  cases us with
  |nil=>simp at hl
  |cons a1 us =>
  cases us with
  |nil=>exact⟨a0,a1,rfl⟩
  |cons b us=>simp at hl
omit B in
def zvs {us:List Value}(hl:us.length=3):∃ a0 a1 a2,us=[a0,a1,a2]:=by
  cases us with
  |nil=>simp at hl
  |cons a0 us =>
  cases us with
  |nil=>simp at hl
  |cons a1 us =>
  cases us with
  |nil=>simp at hl
  |cons a2 us =>
  cases us with
  |nil=>exact⟨a0,a1,a2,rfl⟩
  |cons b us=>simp at hl
omit B in
def zu6 {us:List Value}(hl:us.length=4):∃ a0 a1 a2 a3,us=[a0,a1,a2,a3]:=by
  cases us with
  |nil=>simp at hl
  |cons a0 us =>
  cases us with
  |nil=>simp at hl
  |cons a1 us =>
  cases us with
  |nil=>simp at hl
  |cons a2 us =>
  cases us with
  |nil=>simp at hl
  |cons a3 us =>
  cases us with
  |nil=>exact⟨a0,a1,a2,a3,rfl⟩
  |cons b us=>simp at hl
omit B in
def zux {us:List Value}(hl:us.length=5):∃ a0 a1 a2 a3 a4,us=[a0,a1,a2,a3,a4]:=by
  cases us with
  |nil=>simp at hl
  |cons a0 us =>
  cases us with
  |nil=>simp at hl
  |cons a1 us =>
  cases us with
  |nil=>simp at hl
  |cons a2 us =>
  cases us with
  |nil=>simp at hl
  |cons a3 us =>
  cases us with
  |nil=>simp at hl
  |cons a4 us =>
  cases us with
  |nil=>exact⟨a0,a1,a2,a3,a4,rfl⟩
  |cons b us=>simp at hl
omit B in
def zpI {α:Type}{us:List α}(hl:us.length=6):∃ a0 a1 a2 a3 a4 a5,us=[a0,a1,a2,a3,a4,a5]:=by
  cases us with
  |nil=>simp at hl
  |cons a0 us =>
  cases us with
  |nil=>simp at hl
  |cons a1 us =>
  cases us with
  |nil=>simp at hl
  |cons a2 us =>
  cases us with
  |nil=>simp at hl
  |cons a3 us =>
  cases us with
  |nil=>simp at hl
  |cons a4 us =>
  cases us with
  |nil=>simp at hl
  |cons a5 us =>
  cases us with
  |nil=>exact⟨a0,a1,a2,a3,a4,a5,rfl⟩
  |cons b us=>simp at hl
omit B in
def zvg {us:List Value}(hl:us.length=8):∃ a0 a1 a2 a3 a4 a5 a6 a7,us=[a0,a1,a2,a3,a4,a5,a6,a7]:=by
  cases us with
  |nil=>simp at hl
  |cons a0 us =>
  cases us with
  |nil=>simp at hl
  |cons a1 us =>
  cases us with
  |nil=>simp at hl
  |cons a2 us =>
  cases us with
  |nil=>simp at hl
  |cons a3 us =>
  cases us with
  |nil=>simp at hl
  |cons a4 us =>
  cases us with
  |nil=>simp at hl
  |cons a5 us =>
  cases us with
  |nil=>simp at hl
  |cons a6 us =>
  cases us with
  |nil=>simp at hl
  |cons a7 us =>
  cases us with
  |nil=>exact⟨a0,a1,a2,a3,a4,a5,a6,a7,rfl⟩
  |cons b us=>simp at hl
end Dp
namespace Dp
open PySem PySem.Spec PyProof.Rows L2 My
variable [B:Bs]
section
variable {X:Cx}
def zqS {K:PySem.W.Frag}{a:Addr}{ds:List D}(r:Rel K aD H x (.ref a)):ze2 K aD H ⟨zcb 0 ds,λS=>Lst S x ds⟩ (Ite K a) where
 go:=λad1 H1 S i w st ok hi=>by
  obtain⟨a',vs,e,s,rs⟩:=Lst.sq st ok (r.wd w);cases e;have hi':i<ds.length:=by rw[<- zb1 0 ds];exact hi
  exact⟨vs,vs[i]'(by rw[<- rs.length];exact hi'),s,List.getElem?_eq_getElem _⟩
 yld:=by rintro ad1 H1 S i d y H' w st ok hd ⟨p,ey,hp,he⟩;obtain⟨a',vs,e,s,rs⟩:=Lst.sq st ok (r.wd w);cases e;obtain⟨z,hz,rfl⟩:=zen hd;obtain⟨v,ev,rv⟩:=rs.get hz;rw[he vs v s ev,ey];refine⟨Wd.laid hp,st.laid hp,.tup zat (.cons ?_ (.cons (rv.wd (Wd.laid hp)) .nil))⟩;rw[Nat.zero_add];exact .int _
 stop:=λad1 H1 S w st ok=>by obtain⟨a',vs,e,s,rs⟩:=Lst.sq st ok (r.wd w);cases e;exact⟨vs,s,by show _<=(zcb 0 ds).length;rw[zb1,rs.length];exact Nat.le_refl _⟩
def zoR {K:PySem.W.Frag}{H:Hp}{vs:List V}(h:H a=some (.tup vs))(r:zB K aD H ds vs):ze2 K aD H ⟨zcb 0 ds,λ_=>True⟩ (znS K a) where
 go:=λad1 H1 S i w st _ hi=>by
  have hi':i<ds.length:=by rw[<- zb1 0 ds];exact hi
  exact⟨vs,vs[i]'(by rw[<- r.length];exact hi'),SqT.of (w.tup _ _ h),List.getElem?_eq_getElem _⟩
 yld:=by rintro ad1 H1 S i d y H' w st _ hd ⟨p,ey,hp,he⟩;obtain⟨z,hz,rfl⟩:=zen hd;obtain⟨v,ev,rv⟩:=r.get hz;rw[he vs v (SqT.of (w.tup _ _ h)) ev,ey];refine⟨Wd.laid hp,st.laid hp,.tup zat (.cons ?_ (.cons ((rv.wd w).wd (Wd.laid hp)) .nil))⟩;rw[Nat.zero_add];exact .int _
 stop:=λad1 H1 S w st _=>⟨vs,SqT.of (w.tup _ _ h),by show _<=(zcb 0 ds).length;rw[zb1,r.length];exact Nat.le_refl _⟩
def zjY {es:List Expr}{kk:Nat}{tpos:Pos}{a:Expr}{t:DA}{p pos:Pos}(hg:Gl X "enumerate")(hm:X.mg "enumerate"=none)(ha:PAD X [a] t)(hs:autoParam (starEach [a] X.env=[(false,eval a X.env)]) zhw) :
  PID X (.Tuple es kk tpos) (.Call (.Name "enumerate" p) [a] [] pos) (Dp.zlP t):=by with_unfolding_all exact(zf9 (zn3 hg hm ha hs) λU H R hh=>el8 hh λaD Z S R0 st rh q k =>
 ⟨aD,Z,S,_,st,rh,q,λds S1 vs H1 ad1 q0 w1 st1 r1=>by
  rcases q0 with⟨x,xs,ed,hx,q1⟩|⟨xs,ed,q1⟩
  ·subst ed;obtain⟨v,rfl,rv⟩:=zbD r1;obtain⟨b,ws,rfl,s,rs⟩:=hx.sq st1 rv;exact⟨b,rfl,.inl ⟨⟨ws,s⟩,k _ S1 _ H1 ad1 q1 w1 st1 (zqS rv)⟩⟩
  ·subst ed;obtain⟨v,rfl,rv⟩:=zbD r1;cases rv with
   |tup h r=>exact⟨_,rfl,.inr ⟨⟨_,SqT.of h⟩,k _ S1 _ H1 ad1 q1 w1 st1 (zoR h r)⟩⟩⟩)
def zr6 {K:PySem.W.Frag}{a b:Addr}{ds es:List D}(r:Rel K aD H x (.ref a))(r2:Rel K aD H y (.ref b)):ze2 K aD H ⟨zbK ds es,λS=>Lst S x ds/\Lst S y es⟩ (zl2 K true true a b) where
 go:=λad1 H1 S i w st ok hi=>by
  obtain⟨a',vs,e,s,rs⟩:=Lst.sq st ok.1 (r.wd w);obtain⟨b',us,e',s',rs'⟩:=Lst.sq st ok.2 (r2.wd w);cases e;cases e';have hi':i<min ds.length es.length:=by rw[<- zc1 ds es];exact hi
  exact⟨vs,us,vs[i]'(by rw[<- rs.length];lia),us[i]'(by rw[<- rs'.length];lia),s,s',List.getElem?_eq_getElem _,List.getElem?_eq_getElem _⟩
 yld:=by rintro ad1 H1 S i d z H' w st ok hd ⟨p,ey,hp,he⟩;obtain⟨a',vs,e,s,rs⟩:=Lst.sq st ok.1 (r.wd w);obtain⟨b',us,e',s',rs'⟩:=Lst.sq st ok.2 (r2.wd w);cases e;cases e';obtain⟨u1,u2,h1,h2,rfl⟩:=ze7 hd;obtain⟨v,ev,rv⟩:=rs.get h1;obtain⟨u,eu,ru⟩:=rs'.get h2;rw[he vs us v u s s' ev eu,ey];exact⟨Wd.laid hp,st.laid hp,.tup zat (.cons (rv.wd (Wd.laid hp)) (.cons (ru.wd (Wd.laid hp)) .nil))⟩
 stop:=λad1 H1 S w st ok=>by obtain⟨a',vs,e,s,rs⟩:=Lst.sq st ok.1 (r.wd w);obtain⟨b',us,e',s',rs'⟩:=Lst.sq st ok.2 (r2.wd w);cases e;cases e';refine⟨vs,us,s,s',?_⟩;show vs.length<=(zbK ds es).length\/us.length<=(zbK ds es).length;rw[zc1,rs.length,rs'.length];lia
def zpW {K:PySem.W.Frag}{H:Hp}{vs us:List V}(h:H a=some (.tup vs))(r:zB K aD H ds vs)(h2:H b=some (.tup us))(r2:zB K aD H es us):ze2 K aD H ⟨zbK ds es,λ_=>True⟩ (zl2 K false false a b) where
 go:=λad1 H1 S i w st _ hi=>by
  have hi':i<min ds.length es.length:=by rw[<- zc1 ds es];exact hi
  exact⟨vs,us,vs[i]'(by rw[<- r.length];lia),us[i]'(by rw[<- r2.length];lia),SqT.of (w.tup _ _ h),SqT.of (w.tup _ _ h2),List.getElem?_eq_getElem _,List.getElem?_eq_getElem _⟩
 yld:=by rintro ad1 H1 S i d z H' w st _ hd ⟨p,ey,hp,he⟩;obtain⟨u1,u2,h1,h2',rfl⟩:=ze7 hd;obtain⟨v,ev,rv⟩:=r.get h1;obtain⟨u,eu,ru⟩:=r2.get h2';rw[he vs us v u (SqT.of (w.tup _ _ h)) (SqT.of (w.tup _ _ h2)) ev eu,ey];exact⟨Wd.laid hp,st.laid hp,.tup zat (.cons ((rv.wd w).wd (Wd.laid hp)) (.cons ((ru.wd w).wd (Wd.laid hp)) .nil))⟩
 stop:=λad1 H1 S w st _=>by refine⟨vs,us,SqT.of (w.tup _ _ h),SqT.of (w.tup _ _ h2),?_⟩;show vs.length<=(zbK ds es).length\/us.length<=(zbK ds es).length;rw[zc1,r.length,r2.length];lia
def zsY {es:List Expr}{kk:Nat}{tpos:Pos}{a b:Expr}{t:DA}{p pos:Pos}(hg:Gl X "zip")(hm:X.mg "zip"=none)(ha:PAD X [a,b] t)(hs:autoParam (starEach [a,b] X.env=[(false,eval a X.env),(false,eval b X.env)]) znt)(hs2:autoParam (starEach [b] X.env=[(false,eval b X.env)]) zhw) :
  PID X (.Tuple es kk tpos) (.Call (.Name "zip" p) [a,b] [] pos) (Dp.zoS t):=by with_unfolding_all exact(zf9 (zqw hg hm ha hs hs2) λU H R hh=>el8 hh λaD Z S R0 st rh q k =>
 ⟨aD,Z,S,_,st,rh,q,λds S1 vs H1 ad1 q0 w1 st1 r1=>by
  rcases q0 with⟨x,y,xs,ys,ed,hx,hy,q1⟩|⟨xs,ys,ed,q1⟩
  ·subst ed;obtain⟨v,u,rfl,rv,ru⟩:=zfA r1;obtain⟨b1,ws,rfl,s,rs⟩:=hx.sq st1 rv;obtain⟨b2,ws2,rfl,s2,rs2⟩:=hy.sq st1 ru;exact⟨true,b1,b2,rfl,⟨ws,s⟩,⟨ws2,s2⟩,k _ S1 _ H1 ad1 q1 w1 st1 (zr6 rv ru)⟩
  ·subst ed;obtain⟨v,u,rfl,rv,ru⟩:=zfA r1;cases rv with
   |tup h r =>
    cases ru with
    |tup h2 r2=>exact⟨false,_,_,rfl,⟨_,SqT.of h⟩,⟨_,SqT.of h2⟩,k _ S1 _ H1 ad1 q1 w1 st1 (zpW h r h2 r2)⟩⟩)
end
section
variable {X:Cx}{a b:Expr}{ta tb:DE}{pos:Pos}
theorem zjl (x:D)(hx:fl 20 x=true):∀ ys:List D,ys.all (fl 20)=true->((zaq ys).any λz=>PyData.eqv z (pyD x))=ys.any λz=>eqv z x
 |[],_=>rfl
 |y::ys,h=>by rw[List.all_cons,Bool.and_eq_true]at h;show(PyData.eqv (pyD y) (pyD x)||(zaq ys).any λz=>PyData.eqv z (pyD x))=_;rw[zjg 20 y x h.1 hx,zjl x hx ys h.2];rfl
def zvP (X:Cx)(g:Bool->Bool):R2:=λx y H Q=>∃ aD S dx dy b,zK X.K aD H S/\Rel X.K aD H dx x/\Rel X.K aD H dy y/\InD S dx dy b/\Q (.bl (g b)) H
def zni {pins:List (Addr×Obj)}{U:L2.St}{H:Hp}{s:Shared}{aD:List Addr}{S:Sto}{dx dy:D}{x y:V}{v u:Value}{b:Bool}(I:Inv X pins U H s)(st:zK X.K aD H S)(rx:Rel X.K aD H dx x)(ry:Rel X.K aD H dy y)(qx:RelV x v)(qy:RelV y u)(h:InD S dx dy b) :
  ∃ pd ps as bs,Reads s.heap v pd as/\(Reads s.heap u (.list ps) bs\/Reads s.heap u (.tuple ps) bs)/\pd.canLay0=true/\PyData.canLayAll0 ps=true/\min (PyData.depthAll ps) pd.depth<=60/\(ps.any λz=>PyData.eqv z pd)=b:=by
 obtain⟨ys,hy,fx,fy,rfl⟩:=h;obtain⟨as,ra⟩:=zb8 I 20 dx x v fx rx qx;obtain⟨c1,d1⟩:=zfi 20 dx fx;obtain⟨c2,d2⟩:=zdd 20 ys fy;rcases hy with rfl|hy
 ·obtain⟨bs,rb⟩:=zb8 I 21 (.tup ys) y u fy ry qy;exact⟨pyD dx,zaq ys,as,bs,ra,.inr rb,c1,c2,by lia,zjl dx fx ys fy⟩
 ·obtain⟨a2,vs2,rfl,s2,r2⟩:=hy.sq st ry;cases qy;obtain⟨its2,rv2,ht2,hz2⟩:=I.list s2;obtain⟨o2,ho2,hc2,n2,hd2⟩:=ht2.isList;obtain⟨bs,rb⟩:=zea I 20 (zb8 I 20) _ _ _ fy r2 rv2;exact⟨pyD dx,zaq ys,as,_,ra,.inl (.list ho2 hc2 hd2 (by simpa using rb)),c1,c2,by lia,zjl dx fx ys fy⟩
def zuT (hr:zaB k X.A):OC X .In oIn:=⟨_,(OpR.or (r:=zvP X id) (by
  rintro pins s U H x y v u Q I qx qy ⟨aD,S,dx,dy,b,st,rx,ry,h,q⟩;obtain⟨pd,ps,as,bs,ra,rb,c1,c2,hd,e⟩:=zni I st rx ry qx qy h;have hu:=hr.units;rcases rb with rb|rb
  ·exact PySem.SeqAt.in_list_reads rb ra c2 c1 (by lia) ⟨.bl _,H,I,by rw[e];rfl,q⟩
  ·exact PySem.SeqAt.in_tuple_reads rb ra c2 c1 (by lia) ⟨.bl _,H,I,by rw[e];rfl,q⟩) zm5),
 λaD H S x y v u Q0 Q st rx ry h k=>by
  rcases h with⟨b,h,q⟩|⟨c,z,rfl,rfl,q⟩
  ·exact .inl ⟨aD,S,x,y,b,st,rx,ry,h,k _ S _ H aD q Wd.refl st (.bl _)⟩
  ·cases rx;cases ry;exact .inr ⟨_,z,rfl,rfl,by rw[PySem.StrLaws.found_one];exact k _ S _ H aD q Wd.refl st (.bl _)⟩⟩
def zrl (o:OC X op r')(ha:PD X a ta)(hb:PD X b tb)(hm:autoParam (behindInMarks op b=false) zlO):PD X (.Compare a [op] [b] pos) (dOp r' ta tb):=by
 with_unfolding_all
  obtain⟨r,ho,od⟩:=o;exact zaC (zky ho ha hb hm) λ_ _ _=>zho od
end
section
variable {X:Cx}
theorem ints_of:∀ {ns:List Int} {its:List Value},Vals (ns.map V.int) its->IntsAre its ns
 |[],_,r=>by cases r;exact .nil
 |n::ns,_,r=>by
  cases r with
  |cons h t =>obtain⟨k,rfl⟩:=h;exact .cons _ _ (ints_of t)
theorem zkz:∀ {ns:List Int} {its:List Value},IntsAre its ns->Vals (ns.map V.int) its
 |[],_,r=>by cases r;exact .nil
 |n::ns,_,r=>by
  cases r with
  |cons _ _ t=>exact .cons ⟨_,rfl⟩ (zkz t)
def ztl (K:PySem.W.Frag):List V->Hp->VK->Prop:=λxs H Q=>∃ (p:Addr) (ns:List Int),xs=[.ref p]/\SqL K H p (ns.map V.int)/\ns.length<64/\∀ (l:Addr) (ss:List Int),H l=none->ss.Perm ns->ss.Pairwise (λa b=>a<=b)->Q (.ref l) (upd H l (.lst (ss.map V.int)))
def zjM {K:PySem.W.Frag}(hK:X.K=K):zas X (.builtin "sorted") (ztl K):=λpins s U H xs us Q I r h=>by
 subst hK;obtain⟨p,ns,rfl,hS,h64,q⟩:=h;obtain⟨u,rfl,ru⟩:=vals1 r;cases ru;obtain⟨its,rv,pl,hz⟩:=I.list hS;have hI:=ints_of rv;have hlen:=rv.length;rw[List.length_map]at hlen hz;refine sorted_ints pl.isList hI (by lia) λout ss h1 h2 h3=>?_
 obtain⟨e,he⟩:=sortedAll_at s.heap its out;have hv:=zkz h1;refine⟨.ref (s.heap.objs.size+1),_,I.laid (t':=s.toks) (a:=s.heap.objs.size+1) (o:=.lst (ss.map V.int)) (λb o q=>sortedAll_old q) (Nat.le_succ _) ⟨?_,out.toList,e,hv,?_⟩,rfl,q _ ss (I.hok.fresh (Nat.le_succ _)) h2 h3⟩
 ·rw[List.length_map,h2.length_eq];exact hz
 ·rw[he]
def zoJ:BC X (.builtin "sorted") znJ:=⟨_,zjM rfl,by rintro aD H S ds vs Q0 Q st r ⟨x,ns,e,hx,h64,q⟩ k;subst e;obtain⟨v,rfl,rv⟩:=zbD r;obtain⟨a,ws,rfl,hs,rs⟩:=hx.sq st rv;cases rs.ints;exact⟨a,ns,rfl,hs,h64,λl ss hl hp hw=>zd1 st k (zB.mk_ints ss) (q ss hp hw) l hl⟩⟩
def zqR:BC X (.builtin "sorted") zl8:=by
 obtain⟨r1,c1,d1⟩:=zo6 (X:=X);obtain⟨r2,c2,d2⟩:=zoJ (X:=X);refine⟨λxs H Q=>r1 xs H Q\/r2 xs H Q,λpins s U H xs us Q I r h=>?_,λaD H S ds vs Q0 Q st r h k=>?_⟩
 ·rcases h with h|h
  ·exact c1 pins s U H xs us Q I r h
  ·exact c2 pins s U H xs us Q I r h
 ·rcases h with h|h
  ·exact .inl (d1 aD H S ds vs Q0 Q st r h k)
  ·exact .inr (d2 aD H S ds vs Q0 Q st r h k)
end
section
variable {X:Cx}{e:Expr}{pos p2 p3:Pos}{lo:Option Expr}
end
theorem zke {K:PySem.W.Frag}{aD:List Addr}{H:Hp}:∀ {zs:List Str} {vs:List V},zB K aD H (zs.map D.str) vs->vs=zs.map V.str
 |[],_,.nil=>rfl
 |z::zs,_,.cons r t=>by cases r;rw[zke t];rfl
def zqn {a:Expr}{t:DA}{p1 p2 pos1 pos2:Pos}(hgl:Gl X "len")(hml:X.mg "len"=none)(hgr:Gl X "set")(hmr:X.mg "set"=none)(ha:PAD X [a] t)(hc:autoParam (X.calm=true) zL)(hs:autoParam (starEach [a] X.env=[(false,eval a X.env)]) zhw)(hs3:autoParam (starEach [.Call (.Name "set" p2) [a] [] pos2] X.env=[(false,eval (.Call (.Name "set" p2) [a] [] pos2) X.env)]) zL) :
  PD X (.Call (.Name "len" p1) [.Call (.Name "set" p2) [a] [] pos2] [] pos1) (dB zli t):=by with_unfolding_all exact(zaC (zqx hc hgl hml hgr hmr ha hs hs3) λU H Q hh=>el8 hh λaD Z S Q0 st rh q k =>
  ⟨aD,Z,S,_,st,rh,q,by rintro ds S1 vs H1 ad1 ⟨x,zs,ed,hx,hl,q1⟩ w1 st1 r1;subst ed;obtain⟨v,rfl,rv⟩:=zbD r1;obtain⟨a1,ws,rfl,hs,rs⟩:=hx.sq st1 rv;cases zke rs;exact⟨a1,zs,rfl,hs,hl,k _ S1 _ H1 ad1 q1 w1 st1 (.int _)⟩⟩)
section
variable {X:Cx}{e:Expr}{t:DA}{p pos kp cp:Pos}{j:Nat}
end
section
variable {X:Cx}{e o value:Expr}{te to tv:DE}{f c:Str}{pos pos':Pos}
def zbE (he:PD X e te)(hb:attributeBase e f X.env (eval e X.env)=eval e X.env):PD X (.Attribute e f pos) (zcx f te):=by with_unfolding_all exact(zaC (zsk he hb) λU H Q hh=>el8 hh λaD Z S Q0 st rh q k =>
  ⟨aD,Z,S,_,st,rh,q,by
   rintro x S1 v H1 ad1 ⟨n,c,fs,d,ex,hn,hl,q1⟩ w1 st1 r1;subst ex;cases r1 with
   |ref en =>obtain⟨C,dx,vs,h1,hc,hns,rf,hna⟩:=st1.cell n _ _ en hn;obtain⟨v,hv,rv⟩:=rf.look hl;obtain⟨q2,hq2,e2⟩:=zjH hl;exact⟨_,C,dx,vs,v,rfl,h1,hc,e2▸hna q2 hq2,hv,k d S1 v H1 ad1 q1 w1 st1 rv⟩⟩)
def zcy (hna:∀ C,PySem.W.nsIn X.K mainGlobals c=some (some (.ref C))->zam X.K C f)(ho:PD X o to)(hv:PD X value tv)(hs:autoParam (swapsWith value (some (.Attribute o f pos')) pos.line X.env=pure false) zL) :
  PSD X (.Assign [.Attribute o f pos'] value pos) (zdj c f to tv):=by with_unfolding_all exact(zaN (zrY ho hv hs) λE U H hh=>el8 hh λaD Z S E0 so rh q k =>
 ⟨aD,Z,S,_,so,rh,q,λy S1 vy H1 ad1 q1 w1 st1 r1=>⟨ad1,Z,S1,_,st1,rh.wd w1,q1,by
  rintro x S2 vx H2 ad2 ⟨n,fs,ex,hn,hl,q2⟩ w2 st2 r2;subst ex;cases r2 with
  |ref en =>obtain⟨C,dx,vs,h1,hc,hns,rf,hna'⟩:=st2.cell n _ _ en hn;have w3:Wd ad2 H2 ad2 (upd H2 _ (.ins C dx (zbp f vy vs))):=Wd.putI en h1;exact⟨_,C,dx,vs,rfl,h1,hc,hna C hns,by rw[<- rf.length];lia,k.nx Z _ U _ ad2 q2 ((w1.trans w2).trans w3) (st2.putI en h1 hc hns rf hna' (hna C hns) (r1.wd w2)) (((rh.wd w1).wd w2).wd w3)⟩⟩⟩)
omit B in
def zkB {K:PySem.W.Frag}{init:DSp}(hc:Cls K C)(hn:PySem.W.nsIn K mainGlobals c=some (some (.ref C))):∀ vs H Q,upF K (zlQ c init) vs H Q E0->∀ x dx,H x=none->H dx=none->dx≠x ->
  upF K init (.ref x::vs) (upd (upd H dx (.own x)) x (.ins C dx [])) (λv H2=>v=.non/\Q (.ref x) H2) E0:=by
 rintro vs H Q ⟨aD,S,ds,Q0,st,r,hf,k⟩ x dx hx hdx hne
 letI:Bs:=⟨aD,H⟩
 obtain⟨w,st'⟩:=st.newI (c:=c) hx hdx hne hc hn;have rx:Rel K (aD++[x]) (upd (upd H dx (.own x)) x (.ins C dx [])) (.ref S.length) (.ref x):=.ref (by rw[<- st.len,List.getElem?_append_right (Nat.le_refl _),Nat.sub_self];rfl);have hf':init (.ref S.length::ds) (S++[.ins c []]) (λd S2=>d=.non/\Q0 (.ref S.length) S2):=hf;refine⟨aD++[x],S++[.ins c []],.ref S.length::ds,_,st'.base,.cons rx (r.wd w),hf',λd S' v H' aD' q w' st2 rv=>?_⟩;obtain⟨rfl,q⟩:=q;cases rv;exact⟨rfl,k _ S' _ H' aD' q (w.trans w') (st'.back st2) (rx.wd w')⟩
def zjT {e:Expr}{es:List Expr}{p:Pos}{f:DSp}(G:zia X.prog X.w X.K X.mg X.base k x (upF X.K f))(hr:zaB j X.A)(ha:PAD X (e::es) t)(hk:autoParam (k+1<=j) zW)(hg:autoParam (Gl X x) zL)(hdb:autoParam ((x==("__debug__":Str))=false) zW)(he:autoParam (starEach (e::es) X.env=(false,eval e X.env)::starEach es X.env) zf0)(hpl:autoParam ((backTo pos (starEach es X.env)).any (·.1)=false) zhB) :
  PD X (.Call (.Name x p) (e::es) [] pos) (dCall f t):=by with_unfolding_all exact(zaC (zuO G hr hk hg ha hdb he hpl) λU H Q hh=>el8 hh λaD Z S Q0 st rh q k =>
 ⟨aD,Z,S,_,st,rh,q,λds S1 vs H1 ad1 q1 w1 st1 r1=>by show upF X.K f (vs++[]) H1 Q E0;rw[List.append_nil];exact⟨ad1,S1,ds,Q0,st1.base,r1,q1,(k.wd w1).base st1⟩⟩)
end
end Dp
namespace Dp
open PySem PySem.Spec PyProof.Rows L2 My
def Fly (h0 h:Heap)(e:Addr)(cls:Value)(H:Hp):Prop:=h0.get? e=none/\H e=none/\∃ (a0:Value) (oe:Obj) (vs:Array Value) (T:Addr) (oT:Obj) (ts:Array Value),h.get? e=some oe/\(oe.cls=cls/\vs[0]?=some a0)/\oe.data=.fields vs/\vs[1]?=some (.ref T)/\h0.get? T=none/\T≠e/\h.get? T=some oT/\oT.data=.fields ts/\ts[3]?=some .none/\H T=none
def CXd (P:Program)(w:World):CXT:=λouter H s E e s'=>∃ (a C:Addr) (H':Hp),e=.ref a/\s'.os=s.os/\AllBare s'.gens/\Un (frs outer) [] H H' s.heap s'.heap/\HOk P w H' s'.heap/\Fly s.heap s'.heap a (.ref C) H'/\E (.ref C) none H'
noncomputable def zbs (h:Heap) (p:Addr->Bool):Heap:={ h with objs:=h.objs.mapIdx λi o=>if p i=true then o else { cls:=.none,data:=.freed } }
def zcs (h:Heap)(p:Addr->Bool)(b:Addr):(zbs h p).get? b=if p b=true then h.get? b else none:=by
  unfold zbs Heap.get?;dsimp only;rw[Array.getElem?_mapIdx];cases h.objs[b]? with
  |none=>cases p b<;>rfl
  |some o=>cases p b<;>rfl
def zfc (h:Heap)(p:Addr->Bool):(zbs h p).StaysIn h:=λb o e=>by
 rw[zcs]at e;split at e
 ·exact e
 ·cases e
theorem zgf {h base base':Heap}:∀ {l:List Env},h.FunFrames base l->(∀ L∈frs l,base'.get? L=none)->h.FunFrames base' l
 |[],_,_=>True.intro
 |env::l,⟨h1,⟨L,o,h2,h3,h4,h5⟩,h6⟩,hb=>⟨h1,⟨L,o,h2,hb L (List.mem_filterMap.mpr ⟨env,by simp,h2⟩),h4,h5⟩,zgf h6 λL' hL=>hb L' (by obtain⟨e',he,e2⟩:=List.mem_filterMap.mp hL;exact List.mem_filterMap.mpr ⟨e',List.mem_cons_of_mem _ he,e2⟩)⟩
section
variable {X:Cx}{pins:List (Addr×Obj)}{U:L2.St}{H:Hp}{s:Shared}
def zm7 (I:Inv X pins U H s)(hex:X.ex=[]){b:Addr}{o:Obj}(e:X.s₀.heap.get? b=some o):∃ o',s.heap.get? b=some o':=I.base.there b o e (by rw[hex];simp)
def zdq (I:Inv X pins U H s)(hex:X.ex=[]){b:Addr}(e:s.heap.get? b=none):X.s₀.heap.get? b=none:=by
 cases q:X.s₀.heap.get? b with
 |none=>rfl
 |some o=>obtain⟨o',h⟩:=zm7 I hex q;rw[e]at h;cases h
def zgO (I:Inv X pins U H s){b:Addr}(e:s.heap.get? b=none):H b=none:=by
 cases q:H b with
 |none=>rfl
 |some o =>
  have:=(I.hok b o q).lt;exfalso;cases o with
  |lst xs=>obtain⟨_,_,_,_,h⟩:=I.hok b _ q;rw[e]at h;cases h
  |tup xs=>obtain⟨_,_,_,ob,h,_⟩:=I.hok b _ q;rw[e]at h;cases h
  |dK kvs=>obtain⟨_,_,_,_,ob,_,_,h,_⟩:=I.hok b _ q;rw[e]at h;cases h
  |dT kvs=>obtain⟨_,_,_,_,ob,_,_,h,_⟩:=I.hok b _ q;rw[e]at h;cases h
  |set S n=>obtain⟨ob,_,_,_,h,_⟩:=I.hok b _ q;rw[e]at h;cases h
  |ins C dx fs=>obtain⟨_,_,_,h,_⟩:=I.hok b _ q;rw[e]at h;cases h
  |own y=>obtain⟨_,h⟩:=I.hok b _ q;rw[e]at h;cases h
  |xd fs=>obtain⟨_,⟨_,_,_,h,_⟩,_⟩:=I.hok b _ q;rw[e]at h;cases h
  |rng lo hi=>obtain⟨_,_,_,h⟩:=I.hok b _ q;rw[e]at h;cases h
  |frz ob u=>obtain⟨h,_⟩:=I.hok b _ q;rw[e]at h;cases h
  |tbl ps=>have h:s.heap.get? b=some _:=I.hok b _ q;rw[e]at h;cases h
  |met f y=>have h:s.heap.get? b=some _:=I.hok b _ q;rw[e]at h;cases h
  |ext φ=>obtain⟨_,⟨_,h⟩,_⟩:=I.hok b _ q;rw[e]at h;cases h
def ziw (I:Inv X pins U H s)(hex:X.ex=[])(hst:X.stack=X.env::X.outer)(hfr:X.env.frame=some X.env.locals){e T0:Addr}{h':Heap}(he:X.s₀.heap.get? e=none)(hT:X.s₀.heap.get? T0=none)(He:H e=none)(HT:H T0=none)
  (hk:∀ b o,s.heap.get? b=some o->b≠e->b≠T0->b∉frs X.stack->h'.get? b=some o) (hs:∀ b∈frs X.stack,∀ o,s.heap.get? b=some o->∃ sl,h'.get? b=some { o with slots:=sl }) :
  Un X.fs [] X.H₀ H X.s₀.heap h'/\HOk X.prog X.w H h':=by
 have nfr:∀ {b:Addr} {o:Obj},X.s₀.heap.get? b=some o->b∉X.fs->b∉frs X.stack:=λ{b o} q n m=>by
  rw[hst]at m;obtain⟨e',h1,h2⟩:=List.mem_filterMap.mp m;rcases List.mem_cons.mp h1 with rfl|h1
  ·rw[hfr]at h2;cases h2;exact absurd (Heap.lt_size q) (Nat.not_lt.mpr I.ok.above)
  ·exact n (List.mem_filterMap.mpr ⟨e',h1,h2⟩)
 have sub:∀ {b:Addr},b∈X.fs->b∈frs X.stack:=λ{b} m=>by obtain⟨e',h1,h2⟩:=List.mem_filterMap.mp m;rw[hst];exact List.mem_filterMap.mpr ⟨e',List.mem_cons_of_mem _ h1,h2⟩
 have nex:∀ b:Addr,b∉X.ex:=λb=>by rw[hex];simp
 have ne:∀ {b:Addr} {o:Obj},X.s₀.heap.get? b=some o->b≠e/\b≠T0:=λ{b o} q=>⟨λz=>(by rw[z,he]at q;cases q),λz=>(by rw[z,hT]at q;cases q)⟩
 have ub:=I.base;refine⟨⟨λb o q n m _=>?_,λb o q n m _=>?_,λb o q n _=>ub.free b o q n (nex b),λb o q _=>?_,ub.tups,ub.frzs,ub.tbls⟩,λa o q=>?_⟩
 ·exact hk b o (ub.keep b o q n m (nex b)) (ne q).1 (ne q).2 (nfr q m)
 ·obtain⟨sl,h1⟩:=ub.slot b o q n m (nex b);obtain⟨sl',h2⟩:=hs b (sub m) _ h1;exact⟨sl',h2⟩
 ·obtain⟨o',h1⟩:=ub.there b o q (nex b);by_cases m:b∈frs X.stack
  ·obtain⟨sl,h2⟩:=hs b m o' h1;exact⟨_,h2⟩
  ·exact⟨o',hk b o' h1 (ne q).1 (ne q).2 m⟩
 ·have inn:∀ {b:Addr},H b≠none->b≠e/\b≠T0/\b∉frs X.stack:=λ{b} n=>⟨λz=>n (by rw[z];exact He),λz=>n (by rw[z];exact HT),λz=>n (I.stkFree b z)⟩
  refine(I.hok a o q).stay (λb u hb r=>?_) (λ_ r=>r) λ_ _ r=>r
  have n:H b≠none:=by
   rcases hb with rfl|hb
   ·rw[q];exact Option.some_ne_none _
   ·rw[hb];exact Option.some_ne_none _
  obtain⟨n1,n2,n3⟩:=inn n;exact hk b u r n1 n2 n3
def znE (I:Inv X pins U H s)(hex:X.ex=[])(hst:X.stack=X.env::X.outer)(hfr:X.env.frame=some X.env.locals){e C:Addr}{E:Value->Shared->Prop}{Q:Unit->Shared->Prop}(F:Fly X.s₀.heap s.heap e (.ref C) H)
  (hQ:∀ s':Shared,s'.os=X.s₀.os->AllBare s'.gens->Un X.fs [] X.H₀ H X.s₀.heap s'.heap->HOk X.prog X.w H s'.heap->Fly X.s₀.heap s'.heap e (.ref C) H->Q ⟨⟩ s'):wpAny (model X.prog X.w) X.A (leaving X.env (.ref e)) Q E s:=by
 obtain⟨he,He,a0,oe,vs,T,oT,ts,f1,f2,f3,f4,f5,f6,f7,f8,f9,HT⟩:=F;have ff:s.heap.FunFrames X.base X.stack:=I.stack;obtain⟨p,hp⟩:∃ p:Addr->Bool,∀ b,p b=true↔b≠e/\b≠T/\b∉frs X.stack:=⟨λb=>decide (b≠e/\b≠T/\b∉frs X.stack),λb=>decide_eq_true_iff⟩
 have mno:∀ {b:Addr},¬ (b≠e/\b≠T/\b∉frs X.stack)->(zbs s.heap p).get? b=none:=λ{b} n=>by rw[zcs,if_neg (λz=>n ((hp b).mp z))]
 have myes:∀ {b:Addr} {o:Obj},s.heap.get? b=some o->b≠e->b≠T->b∉frs X.stack->(zbs s.heap p).get? b=some o:=λ{b o} q n1 n2 n3=>by rw[zcs,if_pos ((hp b).mpr ⟨n1,n2,n3⟩)];exact q
 have fb:s.heap.FunFrames (zbs s.heap p) X.stack:=zgf ff λL hL=>mno λz=>z.2.2 hL
 have fl:Heap.FlyingW (zbs s.heap p) X.stack e (.ref C) a0 s.heap:=⟨zfc _ _,mno λz=>z.1 rfl,fb,oe,vs,T,oT,ts,f1,f2,f3,f4,mno λz=>z.2.1 rfl,f6,f7,f8,f9⟩
 have fr:=I.ok.frames;rw[hst]at fr;rw[hst]at fl;refine wpAny_leaves_onW fr hfr fl λh' ⟨k1,k2,k3,oe',vs',T',oT',ts',g1,g2,g3,g4,g5,g6,g7,g8,g9⟩ us=>?_
 have hs:∀ b∈frs X.stack,∀ o,s.heap.get? b=some o->∃ sl,h'.get? b=some { o with slots:=sl }:=λb hb o q=>by obtain⟨_,o',h1,h2⟩:=ff.mem hb;rw[q]at h1;cases h1;exact us b o q h2
 have hk:∀ b o,s.heap.get? b=some o->b≠e->b≠T->b∉frs X.stack->h'.get? b=some o:=λb o q n1 n2 n3=>k1 b o (myes q n1 n2 n3)
 obtain⟨u1,u2⟩:=ziw I hex hst hfr he f5 He HT hk hs
 have nT:X.s₀.heap.get? T'=none/\H T'=none:=by
  by_cases z1:T'=T
  ·rw[z1];exact⟨f5,HT⟩
  ·by_cases z2:T'∈frs X.stack
   ·exfalso;obtain⟨_,o',h1,h2⟩:=ff.mem z2;obtain⟨sl,h3⟩:=hs T' z2 o' h1;rw[g7]at h3;cases h3;exact h2 ts' g8
   ·have:s.heap.get? T'=none:=by
     cases q:s.heap.get? T' with
     |none=>rfl
     |some o=>rw[myes q g6 z1 z2]at g5;cases g5
    exact⟨zdq I hex this,zgO I this⟩
 exact hQ _ I.os I.bare u1 u2 ⟨he,He,a0,oe',vs',T',oT',ts',g1,g2,g3,g4,nT.1,g6,g7,g8,g9,nT.2⟩
def zlI (I:Inv X pins U H s)(hex:X.ex=[])(hst:X.stack=X.env::X.outer)(hfr:X.env.frame=some X.env.locals){e C:Addr}{args:List Value}{h1:Heap}{E:Value->Shared->Prop}{Q:Unit->Shared->Prop}(hx:s.heap.MadeExcOf h1 e (.ref C) args)
  (hQ:∀ s':Shared,s'.os=X.s₀.os->AllBare s'.gens->Un X.fs [] X.H₀ H X.s₀.heap s'.heap->HOk X.prog X.w H s'.heap->Fly X.s₀.heap s'.heap e (.ref C) H->Q ⟨⟩ s'):wpAny (model X.prog X.w) X.A (leaving X.env (.ref e)) Q E { s with heap:=h1 }:=by
 have ff:s.heap.FunFrames X.base X.stack:=I.stack;obtain⟨p,hp⟩:∃ p:Addr->Bool,∀ b,p b=true↔b∉frs X.stack:=⟨λb=>decide (b∉frs X.stack),λb=>decide_eq_true_iff⟩
 have mno:∀ {b:Addr},b∈frs X.stack->(zbs s.heap p).get? b=none:=λ{b} n=>by rw[zcs,if_neg (λz=>(hp b).mp z n)]
 have myes:∀ {b:Addr} {o:Obj},s.heap.get? b=some o->b∉frs X.stack->(zbs s.heap p).get? b=some o:=λ{b o} q n3=>by rw[zcs,if_pos ((hp b).mpr n3)];exact q
 have fb:s.heap.FunFrames (zbs s.heap p) X.stack:=zgf ff λL hL=>mno hL
 have fr:=I.ok.frames;rw[hst]at fr;rw[hst]at fb;refine wpAny_leaves_madeW (base:=zbs s.heap p) (h:=s.heap) fr hfr (zfc _ _) fb hx λh' t ⟨k1,k2,k3,oe',vs',T',oT',ts',g1,g2,g3,g4,g5,g6,g7,g8,g9⟩ _ _ us=>?_
 have us':s.heap.UpToSlots h':=λb o q n=>us b o (hx.keeps b o q) n
 have hs:∀ b∈frs X.stack,∀ o,s.heap.get? b=some o->∃ sl,h'.get? b=some { o with slots:=sl }:=λb hb o q=>by obtain⟨_,o',h1,h2⟩:=ff.mem hb;rw[q]at h1;cases h1;exact us' b o q h2
 have hk:∀ b o,s.heap.get? b=some o->b≠e->b≠e->b∉frs X.stack->h'.get? b=some o:=λb o q _ _ n3=>k1 b o (myes q n3)
 have he:=zdq I hex hx.new;have He:=zgO I hx.new;obtain⟨u1,u2⟩:=ziw I hex hst hfr he he He He hk hs
 have nT:X.s₀.heap.get? T'=none/\H T'=none:=by
  by_cases z2:T'∈frs X.stack
  ·exfalso;obtain⟨_,o',h1,h2⟩:=ff.mem z2;obtain⟨sl,h3⟩:=hs T' z2 o' h1;rw[g7]at h3;cases h3;exact h2 ts' g8
  ·have:s.heap.get? T'=none:=by
    cases q:s.heap.get? T' with
    |none=>rfl
    |some o=>rw[myes q z2]at g5;cases g5
   exact⟨zdq I hex this,zgO I this⟩
 exact hQ _ I.os I.bare u1 u2 ⟨he,He,_,oe',vs',T',oT',ts',g1,g2,g3,g4,nT.1,g6,g7,g8,g9,nT.2⟩
end
def zcf (K:PySem.W.Frag)(f:zc0):Sp:=λvs H Q E=>∃ aD S ds Q0 X0,@zK ⟨aD,H⟩ K aD H S/\zB K aD H ds vs/\f ds S Q0 X0/\@KK ⟨aD,H⟩ K aD H Q0 Q /\
 ∀ (c:Str) (C:Addr) (S':Sto) (aD':List Addr) (H':Hp),X0 c S'->@zK ⟨aD,H⟩ K aD' H' S'->PySem.W.nsIn K mainGlobals c=some (some (.ref C))->E (.ref C) none H'
structure zfD (P:Program)(w:World)(K:PySem.W.Frag)(mg:Str->Option Value)(base:Heap)(k:Nat)(x:Str)(ps:List Str)(sp:Sp):Prop where
 ex:∃ f fd,zQ P w K mg base (CXd P w) k f fd ps sp/\Binds K fd ps []/\PySem.W.keepIn K (.ref f)=true/\mg x=some (.ref f)
def XOk [B:Bs](X:Cx)(ex:XR):=∀ (pins:List (Addr×Obj)) (U:L2.St) (H:Hp) (s s':Shared) (aD aD':List Addr) (Z:Rho) (S S':Sto) (c:Str) (C a:Addr) (H':Hp),Inv X pins U H s->zK X.K aD H S->zal X.K aD H Z U->ex Z c S'->zK X.K aD' H' S'->Wd aD H aD' H' ->
 PySem.W.nsIn X.K mainGlobals c=some (some (.ref C))->s'.os=s.os->AllBare s'.gens->Un (frs X.stack) [] H H' s.heap s'.heap->HOk X.prog X.w H' s'.heap->Fly s.heap s'.heap a (.ref C) H'->X.xe (.ref a) s'
def XMk [B:Bs](X:Cx)(ex:XR):=∀ (pins:List (Addr×Obj)) (U:L2.St) (H:Hp) (s:Shared) (aD:List Addr) (Z:Rho) (S:Sto) (c:Str) (C e:Addr) (args:List Value) (h1:Heap),Inv X pins U H s->zK X.K aD H S->zal X.K aD H Z U->ex Z c S ->
 PySem.W.nsIn X.K mainGlobals c=some (some (.ref C))->s.heap.MadeExcOf h1 e (.ref C) args->X.xe (.ref e) { s with heap:=h1 }
section
variable [B:Bs]{X:Cx}
def zbJ {f:zc0}{p pos:Pos}{e:Expr}{es:List Expr}(G:zfD X.prog X.w X.K X.mg X.base k x ps (zcf X.K f))(hX:XOk X ex)(hr:zaB j X.A)(ha:PAD X (e::es) t)(hk:autoParam (k<=j) zW)(hg:autoParam (Gl X x) zL)(hdb:autoParam ((x==("__debug__":Str))=false) zW)(he:autoParam (starEach (e::es) X.env=(false,eval e X.env)::starEach es X.env) zf0)(hpl:autoParam ((backTo pos (starEach es X.env)).any (·.1)=false) zhB) :
  PD X (.Call (.Name x p) (e::es) [] pos) (zb2 f ex t):=by
 with_unfolding_all
  intro pins s U H Q I h;obtain⟨aD,Z,S,Q0,st,rh,q,kk⟩:=h;obtain⟨fa,fd,F,b,kp,m⟩:=G.ex;have F:=F.mono hk;refine wpAny_Call_Name_kw (zc6 I hg m ?_ hdb);have hA:=ha pos pins s U H (λvs H1=>∃ ds S1 ad1,f ds S1 Q0 (ex Z)/\Wd aD H ad1 H1/\zK X.K ad1 H1 S1/\zB X.K ad1 H1 ds vs) I ⟨aD,Z,S,_,st,rh,q,λds S1 vs H1 ad1 q1 w1 st1 r1=>⟨ds,S1,ad1,q1,w1,st1,r1⟩⟩;refine PySem.W.callWith_K (h₀:=X.base) I.ok.mod.kin kp (thn hA λus s1 ⟨vs,H1,I1,r,q1⟩=>⟨I1.kIn,?_⟩) he hpl;obtain⟨ds,S1,ad1,q1,w1,st1,r1⟩:=q1
  have hsp:zcf X.K f vs H1 Q (λcls _ H'=>∃ c C S' aD',cls=Value.ref C/\ex Z c S'/\zK X.K aD' H' S'/\Wd ad1 H1 aD' H'/\PySem.W.nsIn X.K mainGlobals c=some (some (.ref C))) :=⟨ad1,S1,ds,Q0,ex Z,st1.base,r1,q1,(kk.wd w1).base st1,λc C S' aD' H' hx st' hn=>⟨c,C,S',aD',rfl,hx,st1.back st',@zK.wd ⟨ad1,H1⟩ _ _ _ _ st',hn⟩⟩
  have hl:us.length=ps.length:=by rw[<- r.length];exact F.len _ _ _ _ hsp
  refine wpAny_call (codeAny_mono (F.run X.A X.stack s1 H1 ⟨us,[]⟩ us vs Q _ hr I1.env0 (by have:=b s1 us I1.kIn (by rw[List.append_nil];exact hl);rwa[List.append_nil]at this) r hsp) λres s' hq=>?_);cases res with
  |error e =>obtain⟨a,C,H',rfl,os,bare,un,hok,fly,c,C',S',aD',hC,hx,st',wd',hn⟩:=hq;cases hC;exact hX pins U H1 s1 s' ad1 aD' Z S1 S' c C a H' I1 st1 (rh.wd w1) hx st' wd' hn os bare un hok fly
  |ok fl =>
   cases fl with
   |ret u=>exact I1.after hq
   |next=>exact False.elim hq
   |brk=>exact False.elim hq
   |cont=>exact False.elim hq
def zlL:XOk X xF:=λ_ _ _ _ _ _ _ _ _ _ _ _ _ _ _ _ _ h=>h.elim
structure ExC (K:PySem.W.Frag)(C:Addr):Prop where
 ex:∃ nm q N bs bm hdct sn sub ab col dd k0 k1 k2 k3 k5,K.lookup C=some (excClassObj nm q C N bs bm hdct sn sub ab col dd k0 k1 k2 k3 k5 "ValueError.__new__")/\PySem.W.nsOkIn K N=true/\PySem.W.nsIn K N "__init__"=some none /\
  PySem.W.tailIn K [.type "ValueError",.type "Exception",.type "BaseException",.type "object"] bm=true
def zfq {x:Str}{np cpos pos:Pos}{e:Expr}{t:DA}(hX:XMk X ex)(hc:X.calm=true)(hC:∀ C,PySem.W.nsIn X.K mainGlobals x=some (some (.ref C))->ExC X.K C)(hx:∃ C,PySem.W.nsIn X.K mainGlobals x=some (some (.ref C))/\X.mg x=some (.ref C))(hg:Gl X x)(ha:PAD X [e] t)(ht:∀ Z S Q,(∀ d,Q [d] S)->t Z S Q)(hdb:autoParam ((x==("__debug__":Str))=false) zW)(he:autoParam (starEach [e] X.env=(false,eval e X.env)::starEach [] X.env) zL) :
  PSD X (.Raise (some (.Call (.Name x np) [e] [] cpos)) none pos) (zfB ex x):=by
 with_unfolding_all
  intro pins s U H D I h;obtain⟨aD,Z,S,E0,st,rh,q,k⟩:=h;obtain⟨C,hn,hm⟩:=hx;obtain⟨nm,qn,N,bs,bm,hdct,sn,sub,ab,col,dd,k0,k1,k2,k3,k5,lk,no,ni,tl⟩:=(hC C hn).ex;have kin:=I.kIn;have T:=PySem.W.tail_of_in kin tl;have hv:=ha cpos pins s U H (λvs H1=>vs.length=1/\∃ ad1,Wd aD H ad1 H1/\zK X.K ad1 H1 S) I ⟨aD,Z,S,λds S'=>ds.length=1/\S'=S,st,rh,ht _ _ _ (λd=>⟨rfl,rfl⟩),λds S' vs H' aD' e' w' st' r'=>⟨by rw[<- r'.length];exact e'.1,aD',w',e'.2▸st'⟩⟩;refine wpAny_Raise_call_subT (C:=C) (nm:=nm) (q:=qn) (N:=N) (bs:=bs) (bm:=bm) (hdct:=hdct) (sn:=sn) (sub:=sub) (ab:=ab) (col:=col) (dd:=dd) (k0:=k0) (k1:=k1) (k2:=k2) (k3:=k3) (k5:=k5) PySem.F.excBase_ValueError (T.hasType PySem.F.excBase_ValueError.hasBase) (I.ok.hd hc) (by rw[he];rfl) (PySem.W.nsMap_none_of_in I.ok.mod.kin no ni) (zc6 I hg hm ⟨rfl,?_⟩ hdb);rw[he]at hv ⊢;refine Calls.evalArgs_plain (wpAny_mono hv (λus s1 hq=>?_) λ_ _ y=>y);obtain⟨vs,H1,I1,r,hl,ad1,w1,st1⟩:=hq;have k1':=I1.kIn;have hlen:us.length<=sizeLine:=by rw[<- r.length,hl];decide
  exact⟨rfl,hlen,k1' _ _ lk,(Heap.Ns.of_isNs (PySem.W.isNs_of_in I.ok.mod.kin no)).keeps I1.bk,PySem.W.tail_of_in k1' tl,λh' e' hx=>hX pins U H1 s1 ad1 Z S x C e' us h' I1 st1 (rh.wd w1) q hn hx⟩
noncomputable abbrev nxX (X:Cx):Cx:={ X with xe:=λ_ _=>False }
omit B in
def zs0 (I:Inv X pins U H s):Inv (nxX X) pins U H s :=⟨⟨I.ok.mod,I.ok.kind,I.ok.glob,I.ok.blt,I.ok.above,I.ok.inj,I.ok.has,I.ok.cab,I.ok.hd,I.ok.frames,I.ok.stk,I.ok.exf,I.ok.bs,I.ok.bsz,I.ok.noex,I.ok.exfs,I.ok.funs,I.ok.frf⟩,I.os,I.bare,I.base,I.loc,I.cell,I.free,I.freeC,I.pin,I.hok,I.len⟩
omit B in
def zor (I:Inv (nxX X) pins U H s):Inv X pins U H s :=⟨⟨I.ok.mod,I.ok.kind,I.ok.glob,I.ok.blt,I.ok.above,I.ok.inj,I.ok.has,I.ok.cab,I.ok.hd,I.ok.frames,I.ok.stk,I.ok.exf,I.ok.bs,I.ok.bsz,I.ok.noex,I.ok.exfs,I.ok.funs,I.ok.frf⟩,I.os,I.bare,I.base,I.loc,I.cell,I.free,I.freeC,I.pin,I.hok,I.len⟩
omit B in
def znQ {P:Program}{w:World}{K:PySem.W.Frag}{mg:Str->Option Value}{base:Heap}{st:Stmt}{k:Nat}{sp:zc0}(F:Fun K x qual st f fd)(S:zcC N ps (zY st))(len:∀ ds So Q ex,sp ds So Q ex->ds.length=ps.length)(body:zcB N.length b sp)(term:∀ (cdv:Value) (A:Around) (outer:List Env) (s:Shared) (H:Hp) (E:XK),zaB k (A.deeper (envOfC qual (zY st) s.heap.objs.size f cdv))->∀ [Bs] (ex:XR),XOk (zcI (CXd P w) P w K mg base N qual (zY st) f cdv A outer s H E) ex->XMk (zcI (CXd P w) P w K mg base N qual (zY st) f cdv A outer s H E) ex->zcS (zcI (CXd P w) P w K mg base N qual (zY st) f cdv A outer s H E) (zaI st) (b ex)) :
  zQ P w K mg base (CXd P w) (k+1) f fd ps (zcf K sp):=by
 with_unfolding_all
  obtain⟨oc,od,kV,doc,pm,an,cdv,ct,osl,rfl,lk,hcd⟩:=F.ex;refine zpg lk hcd S (by rintro vs H Q E ⟨aD,So,ds,Q0,X0,so,r,hf,kk,kx⟩;exact by rw[<- r.length];exact len ds So Q0 X0 hf) λA outer s H vs Q E hr ⟨aD,So,ds,Q0,X0,so,r,hf,kk,kx⟩=>?_
  letI:Bs:=⟨aD,H⟩
  have end1:∀ (c:Str) (C a:Addr) (S':Sto) (aD':List Addr) (H':Hp) (s':Shared),X0 c S'->zK K aD' H' S'->PySem.W.nsIn K mainGlobals c=some (some (.ref C))->s'.os=s.os->AllBare s'.gens->Un (frs outer) [] H H' s.heap s'.heap->HOk P w H' s'.heap->Fly s.heap s'.heap a (.ref C) H'->CXd P w outer H s E (.ref a) s' :=λc C a S' aD' H' s' hx st' hn o1 o2 o3 o4 o5=>⟨a,C,H',rfl,o1,o2,o3,o4,o5,kx c C S' aD' H' hx st' hn⟩
  refine⟨_,term cdv A outer s H E hr (λ_=>X0) ?_ ?_,aD,zdx N.length ds,So,_,so,zjO N r,body ds So Q0 X0 hf,⟨λZ S' U H' aD' q w' st' rh=>zhp so kk .non S' .non H' aD' q w' st' .non,zhp so kk,λ_ _ _ _ _ q=>q.elim,λ_ _ _ _ _ q=>q.elim⟩⟩
  ·intro pins U H1 s1 s' ad1 aD' Z S1 S' c C a H' I st1 rh hx st' wd' hn os bare un hok fly;have I':=I.call' (ch:=[]) os un hok bare (λb z=>absurd z (by simp))
   have f0:Fly s.heap s'.heap a (.ref C) H':=by obtain⟨g1,g2,a0,oe,vs,T,oT,ts,h1,h2,h3,h4,h5,h6⟩:=fly;exact⟨zdq I rfl g1,g2,a0,oe,vs,T,oT,ts,h1,h2,h3,h4,zdq I rfl h5,h6⟩
   exact znE I' rfl rfl rfl f0 λs'' o1 o2 o3 o4 o5=>end1 c C a S' aD' H' s'' hx st' hn o1 o2 o3 o4 o5
  ·intro pins U H1 s1 ad1 Z S1 c C e args h1 I st1 rh hx hn hmade;exact zlI I rfl rfl rfl hmade λs'' o1 o2 o3 o4 o5=>end1 c C e S1 ad1 H1 s'' hx st1 hn o1 o2 o3 o4 o5
end
noncomputable abbrev hand (X:Cx) (e:Addr):Cx:={ X with A:=X.A.mark (some (.ref e)),calm:=false,xe:=λ_ _=>False }
section
variable {X:Cx}{pins:List (Addr×Obj)}{U:L2.St}{H H':Hp}{s s':Shared}
def zjR (I:L2.Inv X pins U H s)(e:Addr):L2.Inv (hand X e) pins U H s :=⟨⟨I.ok.mod,I.ok.kind,I.ok.glob,I.ok.blt,I.ok.above,I.ok.inj,I.ok.has,I.ok.cab,(λz=>nomatch z),I.ok.frames,I.ok.stk,I.ok.exf,I.ok.bs,I.ok.bsz,I.ok.noex,I.ok.exfs,I.ok.funs,I.ok.frf⟩,I.os,I.bare,I.base,I.loc,I.cell,I.free,I.freeC,I.pin,I.hok,I.len⟩
def zhu {e:Addr}(hd:X.calm=true->X.A.handled=none)(I:L2.Inv (hand X e) pins U H s):L2.Inv X pins U H s :=⟨⟨I.ok.mod,I.ok.kind,I.ok.glob,I.ok.blt,I.ok.above,I.ok.inj,I.ok.has,I.ok.cab,hd,I.ok.frames,I.ok.stk,I.ok.exf,I.ok.bs,I.ok.bsz,I.ok.noex,I.ok.exfs,I.ok.funs,I.ok.frf⟩,I.os,I.bare,I.base,I.loc,I.cell,I.free,I.freeC,I.pin,I.hok,I.len⟩
def zla (I:L2.Inv X pins U H s)(un:Un (frs X.stack) [] H H' s.heap s'.heap)(hok:HOk X.prog X.w H' s'.heap){e T:Addr}{h2:Heap}{oe:Obj}(he:s.heap.get? e=none)(hT:s.heap.get? T=none)(He:H' e=none)(HT:H' T=none)
  (stkF:∀ b∈frs X.stack,H' b=none)
  (hk:∀ b o,s'.heap.get? b=some o->b≠e->b≠T->b∉frs X.stack->h2.get? b=some o) (hs:∀ b∈frs X.stack,∀ o,s'.heap.get? b=some o->∃ sl,h2.get? b=some { o with slots:=sl }) (hoe:h2.get? e=some oe) :
  Un (frs X.stack) [] H (upd H' e (.frz oe (.ext λ_=>True))) s.heap h2/\HOk X.prog X.w (upd H' e (.frz oe (.ext λ_=>True))) h2:=by
 have ne:∀ {b:Addr} {o:Obj},s.heap.get? b=some o->b≠e/\b≠T:=λ{b o} q=>⟨λz=>(by rw[z,he]at q;cases q),λz=>(by rw[z,hT]at q;cases q)⟩
 have ne':∀ {b:Addr} {u:HO},H' b=some u->b≠e:=λ{b u} q z=>by rw[z,He]at q;cases q
 refine⟨⟨λb o q n m x=>?_,λb o q n m x=>?_,λb o q n x=>?_,λb o q x=>?_,λb xs q=>?_,λb o u q=>?_,λb ps q=>?_⟩,λa o q=>?_⟩
 ·exact hk b o (un.keep b o q n m x) (ne q).1 (ne q).2 m
 ·obtain⟨sl,h1⟩:=un.slot b o q n m x;obtain⟨sl',h3⟩:=hs b m _ h1;exact⟨sl',h3⟩
 ·rw[zP (ne q).1];exact un.free b o q n x
 ·obtain⟨o',h1⟩:=un.there b o q x;by_cases m:b∈frs X.stack
  ·obtain⟨sl,h3⟩:=hs b m o' h1;exact⟨_,h3⟩
  ·exact⟨o',hk b o' h1 (ne q).1 (ne q).2 m⟩
 ·have:=un.tups b xs q;rw[zP (ne' this)];exact this
 ·have:=un.frzs b o u q;rw[zP (ne' this)];exact this
 ·obtain⟨more,h1⟩:=un.tbls b ps q;exact⟨more,by rw[zP (ne' h1)];exact h1⟩
 ·by_cases ha:a=e
  ·subst ha;rw[zat]at q;cases q;exact⟨hoe,True.intro,⟨oe,hoe⟩,λ_ _ _ _=>True.intro⟩
  ·rw[zP ha]at q;refine(hok a o q).stay (λb u hb r=>?_) (λb r=>by rw[zP (ne' r)];exact r) λb xs r=>by rw[zP (ne' r)];exact r
   have n:H' b≠none:=by
    rcases hb with rfl|hb
    ·rw[q];exact Option.some_ne_none _
    ·rw[hb];exact Option.some_ne_none _
   exact hk b u r (λz=>n (by rw[z];exact He)) (λz=>n (by rw[z];exact HT)) (λz=>n (stkF b z))
def name_goes {M:Model}{A:Around}{E:Value->Shared->Prop}{i:Nat}{x:Str}{pos:Pos}{Q:Unit->Shared->Prop}(I:L2.Inv X pins U H s)(hN:X.N.Nodup)(hi:X.N[i]?=some x)(hx:X.env.scope.names.lookup x=some .local)
    (h:∀ s',L2.Inv X pins (U.set i none) H s'->Q ⟨⟩ s'):wpAny M A (do bindName X.env x .none;unbindBehindTheSuite X.env x pos) Q E s:=by
  obtain⟨m,hn,hl⟩:=id I.loc;have lo:∀ {b:Addr} {o:Obj},X.s₀.heap.get? b=some o->b≠X.env.locals:=λ{b o} e=>Nat.ne_of_lt (Nat.lt_of_lt_of_le (Heap.lt_size e) I.ok.above)
  refine wpAny_nameGoes_keeps hx hn (by rw[I.ok.kind];rfl) λh' v hn' hs=>h _ ⟨I.ok,I.os,I.bare,⟨λb o e n hb hx=>(hs.2 b (lo e)).trans (I.base.keep b o e n hb hx),λb o e n hb hx=>?_,I.base.free,λb o e hx=>?_,I.base.tups,I.base.frzs,I.base.tbls⟩,⟨_,hn',λj y w e1 e2 e3=>?_⟩,λy c e=>?_,I.free,I.freeC,λp hp=>?_,λa o e=>?_,?_⟩
  . obtain⟨sl,e1⟩:=I.base.slot b o e n hb hx;exact⟨sl,(hs.2 b (lo e)).trans e1⟩
  . obtain⟨o',e1⟩:=I.base.there b o e hx;exact⟨o',(hs.2 b (lo e)).trans e1⟩
  . have hj : j ≠ i := λz => by
      subst z;rw[List.getElem?_set]at e2;split at e2
      . split at e2<;>cases e2
      . exact absurd rfl ‹_›
    rw[List.getElem?_set_ne (Ne.symm hj)]at e2;obtain⟨u',r',q⟩:=hl j y w e1 e2 e3;refine⟨u',r',?_⟩;rcases q with⟨k,e⟩|⟨k,c,e,z⟩
    . refine .inl ⟨k,?_⟩;have:y≠x:=λe=>hj (zgG hN e1 (e▸hi))
      simp[this,e]
    . exact .inr ⟨k,c,e,z.sameBut hs (I.cne y c e)⟩
  . obtain⟨w,z⟩:=I.cell y c e;exact⟨w,z.sameBut hs (I.cne y c e)⟩
  . obtain⟨e,n,ne,nf,d⟩:=I.pin p hp;exact⟨(hs.2 p.1 ne).trans e,n,ne,nf,d⟩
  . refine(I.hok a o e).stay (λc w hc q=>(hs.2 c ?_).trans q) (λ_ q=>q) λ_ _ q=>q
    rintro rfl;rcases hc with rfl|hc
    . rw[I.free]at e;cases e
    . rw[I.free]at hc;cases hc
  . rw[List.length_set];exact I.len
variable [B:Bs]
def zal.unset {K:PySem.W.Frag}(h:zal K aD H Z U)(i:Nat):zal K aD H (Z.set i none) (U.set i none):=by
  refine⟨by rw[List.length_set,List.length_set];exact h.len,λj d e=>?_⟩;rw[List.getElem?_set]at e;split at e
  . split at e<;>cases e
  . rename_i hj;obtain⟨v,ev,r⟩:=h.val j d e;exact⟨v,by rw[List.getElem?_set_ne hj];exact ev,r⟩
noncomputable abbrev zlv (X:Cx) (xe:Value->Shared->Prop) (pn:List (Addr×Obj)):Cx:={ X with xe:=xe,pn:=pn }
omit B in
def zqT (I:L2.Inv X pins U H s)(xe:Value->Shared->Prop):L2.Inv (zlv X xe (X.pn++pins)) [] U H s :=⟨⟨I.ok.mod,I.ok.kind,I.ok.glob,I.ok.blt,I.ok.above,I.ok.inj,I.ok.has,I.ok.cab,I.ok.hd,I.ok.frames,I.ok.stk,I.ok.exf,I.ok.bs,I.ok.bsz,I.ok.noex,I.ok.exfs,I.ok.funs,I.ok.frf⟩,I.os,I.bare,I.base,I.loc,I.cell,I.free,I.freeC,λp hp=>I.pin p (by rwa[List.append_nil]at hp),I.hok,I.len⟩
omit B in
def zdv {xe:Value->Shared->Prop}{pins':List (Addr×Obj)}(I:L2.Inv (zlv X xe (X.pn++pins)) pins' U H s):L2.Inv X pins U H s :=⟨⟨I.ok.mod,I.ok.kind,I.ok.glob,I.ok.blt,I.ok.above,I.ok.inj,I.ok.has,I.ok.cab,I.ok.hd,I.ok.frames,I.ok.stk,I.ok.exf,I.ok.bs,I.ok.bsz,I.ok.noex,I.ok.exfs,I.ok.funs,I.ok.frf⟩,I.os,I.bare,I.base,I.loc,I.cell,I.free,I.freeC,λp hp=>I.pin p (List.mem_append_left _ hp),I.hok,I.len⟩
theorem zdp.base {K:PySem.W.Frag}{E0:zgd}(st:zK K aD H S)(k:zdp K aD H E0 E):@zdp ⟨aD,H⟩ K aD H E0 E :=@zdp.mk ⟨aD,H⟩ _ _ _ _ _ (λZ S U H' aD' q w st' r=>k.nx Z S U H' aD' q w (st.back st') r) (k.rt.base st) (λZ S U H' aD' q w st' r=>k.bk Z S U H' aD' q w (st.back st') r) (λZ S U H' aD' q w st' r=>k.ct Z S U H' aD' q w (st.back st') r)
def zqO {i:Nat}{x:Str}{ok:List Str}{b:XR->DS}{h:DS}{body:List Stmt}{b0:Stmt}{suite:List Stmt}{np hpos pos:Pos}(hst:X.stack=X.env::X.outer)(hfr:X.env.frame=some X.env.locals)(hN:X.N.Nodup)(hi:X.N[i]?=some x)(hx:X.env.scope.names.lookup x=some .local)(hg:Gl X cls)(hcls:∃ Cc,X.mg cls=some (.ref Cc)/\∀ c C,ok.contains c=true->PySem.W.nsIn X.K mainGlobals c=some (some (.ref C))->PySem.W.exmOne X.K (.ref C) (.ref Cc)=some true)(hb:∀ [Bs] (xe:Value->Shared->Prop) (pn:List (Addr×Obj)) (ex:XR),XOk (zlv X xe pn) ex->zcS (zlv X xe pn) body (b ex))(hh:∀ e,zcS (hand X e) (b0::suite) h)(hdb:autoParam ((cls==("__debug__":Str))=false) zW) :
  PSD X (.Try body [.ExceptHandler (some (.Name cls np)) (some x) (b0::suite) hpos] [] [] pos) (zob i ok b h):=by
 with_unfolding_all
  intro pins s U H D I hq;obtain⟨aD,Z,S,E0,st,rh,q,k⟩:=hq;obtain⟨Cc,hm,hexm⟩:=hcls;refine wpAny_Try_except ?_
  have hbody:=@hb ⟨aD,H⟩ (λe s₁=>wpAny (model X.prog X.w) X.A (noteFrame e X.env) (λ_ s₂=>wpAny (model X.prog X.w) X.A (setFlight e none) (λ_ s₃=>wpAny (model X.prog X.w) X.A (handleBy e X.env [.ExceptHandler (some (.Name cls np)) (some x) (b0::suite) hpos]) (SP X pins D) X.xe s₃) X.xe s₂) X.xe s₁) (X.pn++pins)
   (λρ' c S'=>ok.contains c=true/\h { nx:=λρ2 S2=>E0.nx (ρ2.set i none) S2,rt:=E0.rt,bk:=λ_ _=>False,ct:=λ_ _=>False } (ρ'.set i (some (.exn c))) S') ?hX
  ·refine wpAny_mono (hbody [] s U H D (zqT I _) ⟨aD,Z,S,E0,st.base,rh,q,k.base st⟩) (λf s₁ hf=>?_) λ_ _ z=>z
   cases f with
   |next=>obtain⟨σ',H',I',q'⟩:=hf;exact wpAny_execs_nil ⟨σ',H',zdv I',q'⟩
   |brk=>obtain⟨σ',H',I',q'⟩:=hf;exact⟨σ',H',zdv I',q'⟩
   |cont=>obtain⟨σ',H',I',q'⟩:=hf;exact⟨σ',H',zdv I',q'⟩
   |ret u=>obtain⟨v,σ',H',I',r,q'⟩:=hf;exact⟨v,σ',H',zdv I',r,q'⟩
  intro pins' σ1 H1 s1 s' ad1 aD' ρ1 S1 S' c C a H' I1 st1 rh1 hx' st' wd' hn os bare un hok fly;obtain⟨hok',hh'⟩:=hx';obtain⟨he,He,a0,oe,vs,T,oT,ts,f1,f2,f3,f4,f5,f6,f7,f8,f9,HT⟩:=fly;have I0:L2.Inv X pins σ1 H1 s1:=zdv I1;have nil0:∀ b∈([]:List Addr),(b∈X.ex\/X.s₀.heap.objs.size<=b)/\b≠X.env.locals/\(∀ x c,X.env.cells.lookup x=some c->c≠b)/\∀ p∈X.pn++pins,p.1≠b:=λb z=>absurd z (by simp)
  have I':=I0.call' (ch:=[]) os un hok bare nil0;have ff:s'.heap.FunFrames X.base X.stack:=I'.stack;obtain⟨p,hp⟩:∃ p:Addr->Bool,∀ b,p b=true↔b≠a/\b≠T/\b∉frs X.stack:=⟨λb=>decide (b≠a/\b≠T/\b∉frs X.stack),λb=>decide_eq_true_iff⟩
  have mno:∀ {b:Addr},¬ (b≠a/\b≠T/\b∉frs X.stack)->(zbs s'.heap p).get? b=none:=λ{b} n=>by rw[zcs,if_neg (λz=>n ((hp b).mp z))]
  have myes:∀ {b:Addr} {o:Obj},s'.heap.get? b=some o->b≠a->b≠T->b∉frs X.stack->(zbs s'.heap p).get? b=some o:=λ{b o} q n1 n2 n3=>by rw[zcs,if_pos ((hp b).mpr ⟨n1,n2,n3⟩)];exact q
  have fb:s'.heap.FunFrames (zbs s'.heap p) X.stack:=zgf ff λL hL=>mno λz=>z.2.2 hL
  have fl:Heap.FlyingW (zbs s'.heap p) X.stack a (.ref C) a0 s'.heap:=⟨zfc _ _,mno λz=>z.1 rfl,fb,oe,vs,T,oT,ts,f1,f2,f3,f4,mno λz=>z.2.1 rfl,f6,f7,f8,f9⟩
  have fr:=I.ok.frames;rw[hst]at fr;rw[hst]at fl;have keep:∀ {h2:Heap},(zbs s'.heap p).StaysIn h2->∀ b o,s'.heap.get? b=some o->b≠a->b≠T->b∉frs X.stack->h2.get? b=some o:=λ{h2} k1 b o q n1 n2 n3=>k1 b o (myes q n1 n2 n3)
  have slot:∀ {h2:Heap},s'.heap.UpToSlots h2->∀ b∈frs X.stack,∀ o,s'.heap.get? b=some o->∃ sl,h2.get? b=some { o with slots:=sl }:=λ{h2} us b hb o q=>by obtain⟨_,o',h1,h2⟩:=ff.mem hb;rw[q]at h1;cases h1;exact us b o q h2
  show wpAny (model X.prog X.w) X.A (noteFrame (.ref a) X.env) _ _ s';refine wpAny_looks_onW fr hfr fl λh1 hheld us1=>?_
  refine wpAny_landsW hheld λh2 hfl2 us2=>?_
  obtain⟨k1,k2,k3,k4⟩:=id hfl2;obtain⟨oe2,vs2,T2,oT2,ts2,g1,g2,_⟩:=id k4;obtain⟨u2,hok2⟩:=zla I0 un hok he f5 He HT I'.stkFree (keep k1) (slot (us1.trans us2)) g1;have I2:=I0.call' (s':={ s' with heap:=h2 }) (ch:=[]) os u2 hok2 bare nil0;refine wpAny_handleBy_cons (codeAny_handlers_test (zc6 (zjR I2 a) hg hm ?_ hdb)) (by intro z;cases z);have LT:PySem.W.Looks (model X.prog X.w) h2 (typeOf (.ref a)) (.ref C):=g2.1▸(PySem.W.Looks.ld g1).andThen .now;refine(PySem.W.exm_one (h:=h2) I2.kIn LT (hexm c C hok' hn)).here ?_;refine codeAny_handlers_suite_as ?_;refine wpAny_setFlight_noneW k1 k3 k4.at λh3 b1 b2 b3 b4=>?_
  obtain⟨oe3,vs3,T3,oT3,ts3,e1,e2,_⟩:=id b3
  have us3:s'.heap.UpToSlots h3:=λb o q n=>by obtain⟨sl,z⟩:=us1.trans us2 b o q n;exact⟨sl,b4 b _ z n⟩
  obtain⟨u3,hok3⟩:=zla I0 un hok he f5 He HT I'.stkFree (keep b1) (slot us3) e1;have I3:=I0.call' (s':={ s' with heap:=h3 }) (ch:=[]) os u3 hok3 bare nil0;refine zcX I3 hN hi (.inl hx) (show RelV (.ref a) (.ref a)from rfl) (λs4 I4=>?_) (.inr hx);have wd0:Wd aD H aD' H':=@zK.wd ⟨aD,H⟩ _ _ _ _ st';have st3:zK X.K aD' (upd H' a (.frz oe3 (.ext λ_=>True))) S':=(st.back st').laid He;have w3:Wd aD' H' aD' (upd H' a (.frz oe3 (.ext λ_=>True))):=Wd.laid He;have rho:zal X.K aD' (upd H' a (.frz oe3 (.ext λ_=>True))) (ρ1.set i (some (.exn c))) (σ1.set i (some (.ref a))):=((rh1.wd wd').wd w3).set (.exn zat e2.1 hn) i;have wAll:=wd0.trans w3;have hs:=hh a pins s4 _ _ { nx:=λσ2 H2=>D.nx (σ2.set i none) H2,rt:=D.rt,bk:=λ_ _=>False,ct:=λ_ _=>False } (zjR I4 a) ⟨aD',_,S',_,st3,rho,hh',⟨λρ2 S2 σ2 H2 ad2 q2 w2 st2 rh2=>k.nx (ρ2.set i none) S2 (σ2.set i none) H2 ad2 q2 (wAll.trans w2) st2 (rh2.unset i),k.rt.wd wAll,λ_ _ _ _ _ z=>z.elim,λ_ _ _ _ _ z=>z.elim⟩⟩;refine wpAny_mono hs (λf s5 hf=>?_) λ_ _ z=>z.elim
  cases f with
  |next=>obtain⟨σ5,H5,I5,q5⟩:=hf;exact name_goes (zhu I.ok.hd I5) hN hi hx λs6 I6=>⟨_,H5,I6,q5⟩
  |brk=>obtain⟨_,_,_,z⟩:=hf;exact z.elim
  |cont=>obtain⟨_,_,_,z⟩:=hf;exact z.elim
  |ret u=>obtain⟨v,σ5,H5,I5,r5,q5⟩:=hf;exact name_goes (zhu I.ok.hd I5) hN hi hx λs6 I6=>⟨v,_,H5,I6,r5,q5⟩
end
structure IsC (K:PySem.W.Frag)(C:Addr):Prop where
 ga:PySem.W.findIn K (.ref C) "__getattribute__"=some (some (.builtin "BaseException.__getattribute__"))
 hk:PySem.W.findIn K (.ref C) "__getattr__"=some none
 cl:PySem.W.findIn K (.ref C) "__class__"=some (some (.builtin "object.__class__"))
 mo:PySem.W.mroIn K C (.type "object")=some true
 mb:PySem.W.mroIn K C (.type "BaseException")=some true
section
open PySem.W PySem.Builtin PySem.Builtin.ObjectAttr PySem.Builtin.Getset_descriptor
variable {prog:Program}{w:World}{A:Around}{E:Value->Shared->Prop}{s:Shared}{K:Frag}{x C:Addr}{o:Obj}
def zom {M:Model}(X:K.In h)(I:IsC K C):Looks M h (find (.ref x) (.ref C) "__class__") (.bind (.builtin "getset_descriptor.__get__") (.builtin "object.__class__")):=by have L1:=looks_findIn (M:=M) X I.cl;have L2:=looks_specialIn (M:=M) (v:=.builtin "object.__class__") (name:="__get__") (r:=some (.builtin "getset_descriptor.__get__")) X (by rfl);have L3:=looks_takesIn (M:=M) (a:=.builtin "object.__class__") (r:=true) X (by rfl);have L2':Looks M h (getOf (some (.builtin "object.__class__"))) (some (.builtin "getset_descriptor.__get__")):=L2;have L3':Looks M h (dataDescriptor? (some (.builtin "object.__class__")) (some (.builtin "getset_descriptor.__get__"))) (some (.builtin "getset_descriptor.__get__",.builtin "object.__class__")):=L3.andThen .now;exact L1.andThen (L2'.andThen (L3'.andThen (Looks.tag .now)))
def zqz {tp:Value}{R:Result->Shared->Prop}(X:K.In s.heap)(I:IsC K C)(hx:s.heap.get? x=some o)(hc:o.cls=.ref C)(h:R (.ok (.ret (.ref C))) s) :
  codeAny (model prog w) A (.call (.builtin "getset_descriptor.__get__") ⟨[.builtin "object.__class__",.ref x,tp],[]⟩) R s:=by
 obtain⟨hh,g,dr,t,os⟩:=s;have L0:Looks (model prog w) hh (typeOf (.ref x)) (.ref C):=hc▸(Looks.ld hx).andThen .now;have L1:=looks_mroIn (M:=model prog w) X I.mo;refine codeAny_call_builtin KF.slot_gs.plain KF.entry_gs (KF.slot_gs.check _ _ _ _ _ _ _ _ KF.type_class (KF.args_gs _ _ _) ?_);unfold Builtin.«getset_descriptor.__get__» descrGet;rw[dga_obj];refine wpAny_bind (wpAny_pure ?_);unfold descrGetter descrCheckInstance descrNameAndClass isInstance;simp only[KF.owner_class]
 repeat lk
 refine⟨Code.quiet_builtin _ (by decide +kernel),codeAny_builtin KF.entry_class ?_⟩;unfold Builtin.«object.__class__» shownTypeOf
 repeat lk
 exact h
def zns {M:Model}{nameV:Value}{Q:Unit->Shared->Prop}(X:K.In s.heap)(I:IsC K C)(hx:s.heap.get? x=some o)(hc:o.cls=.ref C)(hq:Q ⟨⟩ s):wpAny M A (checkBuiltinCall "BaseException.__getattribute__" ⟨[.ref x,nameV],[]⟩) Q E s:=by
  obtain⟨hh,g,dr,t,os⟩:=s;have L0:Looks M hh (typeOf (.ref x)) (.ref C):=hc▸(Looks.ld hx).andThen .now;have L1:=looks_mroIn (M:=M) X I.mb;have hk:builtinKind "BaseException.__getattribute__"=some .slot:=by decide +kernel
  have hsplit:splitId "BaseException.__getattribute__"=some ("BaseException","__getattribute__"):=by decide +kernel
  have ha:=F.args_bexc_ga (.ref x) nameV;simp only[checkBuiltinCall,hk,hsplit];refine wpAny_bind ((show Looks M hh (isInstance (.ref x) (.type "BaseException")) true from L0.andThen L1).at ?_)
  repeat (first|wp_step)
  exact hq
def zoa {Q:Option Value->Shared->Prop}(X:K.In s.heap)(I:IsC K C)(hx:s.heap.get? x=some o)(hc:o.cls=.ref C)(h:Q (some (.ref C)) { s with toks:=s.toks+1 }):wpAny (model prog w) A (getAttr? (.ref x) "__class__") Q E s:=by obtain⟨hh,g,d,t,os⟩:=s;have L0:Looks (model prog w) hh (typeOf (.ref x)) (.ref C):=hc▸(Looks.ld hx).andThen .now;have L1:=looks_findIn (M:=model prog w) X I.ga;have L2:=looks_findIn (M:=model prog w) X I.hk;have L3:=zom (M:=model prog w) (x:=x) X I;unfold getAttr? getAttrBy? getAttrBy;refine wpAny_bind (wpAny_mkText (wpAny_bind (wpAny_attempt (wpAny_holding (wpAny_bind (L0.at (wpAny_bind (L1.at ?_))))))));show wpAny _ _ (getAttrByItsOwn _ _ _ _ _ _) _ _ _;unfold getAttrByItsOwn;refine wpAny_bind (L2.at (wpAny_bind (wpAny_attempt (wpAny_holding ?_))));show wpAny _ _ (boundAndCalled _ _ _) _ _ _;unfold boundAndCalled;rw[F.excAttr_ValueError.ga.bind (.ref x)];refine wpAny_bind (wpAny_pure ?_);refine wpAny_call (codeAny_call_builtin F.excAttr_ValueError.ga.plain F.entry_bexc_ga (zns (s:=⟨hh,g,d,t+1,os⟩) X I hx hc ?_));unfold Builtin.«object.__getattribute__»;refine wpAny_bind (wpAny_pure (wpAny_bind (wpAny_pure (wpAny_bind (L0.at (wpAny_bind (L3.at ?_)))))));show wpAny _ _ (bindTo _ _ _ _) _ _ _;unfold bindTo;refine wpAny_bind (wpAny_holding (wpAny_call (zqz (s:=⟨hh,g,d,t+1,os⟩) X I hx hc ?_)));refine wpAny_pure ?_;exact handed_on rfl (wpAny_pure h)
def zoq (I:IsC K C):KitX K (.ref x) (.ref C) (λh=>∃ o,h.get? x=some o/\o.cls=.ref C):=by
  obtain⟨cdD,hcD,_⟩:=Option.bind_eq_some_iff.mp I.mo;unfold clsIn at hcD;split at hcD
  . rename_i c' d' cd' sl' ho
    exact
      { ty:=λM h _ ⟨o,h1,h2⟩=>h2▸(Looks.ld h1).andThen .now
        it:=λ_ _ X _=>by intro A' Q' E' s' k q;unfold isType loadHead;exact wpAny_bind (wpAny_loadPart (k _ _ (X _ _ ho)) (wpAny_pure q))
        ne:=λh tp dd its n sl X htp=>by
          refine Bool.eq_false_iff.mpr λq=>?_
          have e:C=tp:=Value.ref.inj (beq_iff_eq.mp q);subst e;have z:=(X _ _ ho).symm.trans htp;cases z
        ca:=λX ⟨o,h1,h2⟩ k=>zoa X I h1 h2 k }
  . cases hcD
end
section
variable [B:Bs]{X:Cx}
def CV (X:Cx)(c:Str)(np:Pos)(cv:Value):=∀ (pins:List (Addr×Obj)) (U:L2.St) (H:Hp) (s:Shared) (E:Value->Shared->Prop) (Q:Value->Shared->Prop),Inv X pins U H s->Q cv s->wpAny (model X.prog X.w) X.A (eval (.Name c np) X.env) Q E s
omit B in
def zsW {np:Pos}{C:Addr}(hg:Gl X c)(hm:X.mg c=some (.ref C))(hd:autoParam ((c==("__debug__":Str))=false) zW):CV X c np (.ref C):=λ_ _ _ _ _ _ I q=>zc6 I hg hm q hd
omit B in
def zva {np:Pos}{T:String}(hg:Gl X c)(hm:X.mg c=none)(hv:bootBuiltins c=some (.type T))(hn:autoParam (c≠"__name__") zW)(hd:autoParam ((c==("__debug__":Str))=false) zW):CV X c np (.type T):=λ_ _ _ _ _ _ I q=>zbB I hg hm hv q hn hd
def znM {e:Expr}{p pos:Pos}{tbl:List (Str×Bool)}(hg:Gl X "isinstance")(hm:X.mg "isinstance"=none)(he:PD X e t)(hc:CV X c np cv)(ht:∀ c' b C,tbl.lookup c'=some b->PySem.W.nsIn X.K mainGlobals c'=some (some (.ref C))->IsC X.K C/\PySem.W.kitOne X.K (.ref C) cv=some b)(hs:autoParam (starEach [e,.Name c np] X.env=(false,eval e X.env)::starEach [.Name c np] X.env) zL)(hpl:autoParam ((backTo pos (starEach [.Name c np] X.env)).any (·.1)=false) zL) :
  PD X (.Call (.Name "isinstance" p) [e,.Name c np] [] pos) (zhS tbl t):=by
 with_unfolding_all
  intro pins s U H Q I h;obtain⟨aD,Z,S,Q0,st,rh,q,k⟩:=h;refine wpAny_Call_Name_kw (zbB I hg hm boot_isinstance ?_)
  have hA:wpAny (model X.prog X.w) X.A (spliced (backTo pos (starEach [e,.Name c np] X.env))) (λus s1=>∃ u,us=[u,cv]/\EP X pins U (λv H1=>∃ c' b ad1,Rel X.K ad1 H1 (.exn c') v/\tbl.lookup c'=some b/\Q (.bl b) H1) u s1) X.xe s:=by rw[hs];show wpAny _ _ (spliced ((false,eval e X.env)::backTo pos (starEach [.Name c np] X.env))) _ _ s;have hv:=he pins s U H (λv H1=>∃ c' b ad1,Rel X.K ad1 H1 (.exn c') v/\tbl.lookup c'=some b/\Q (.bl b) H1) I ⟨aD,Z,S,_,st,rh,q,by rintro x S1 v H1 ad1 ⟨c',b,ex,hl,q1⟩ w1 st1 r1;exact⟨c',b,ad1,ex▸r1,hl,k _ S1 _ H1 ad1 q1 w1 st1 (.bl b)⟩⟩;refine Calls.spliced_cons (thn hv λu s1 hu=>?_);show wpAny _ _ (spliced ((false,eval (.Name c np) X.env)::[])) _ _ s1;obtain⟨v,H1,I1,r1,q1⟩:=hu;exact Calls.spliced_cons (hc pins U H1 s1 _ _ I1 (Calls.spliced_nil ⟨u,rfl,v,H1,I1,r1,q1⟩))
  refine PyProof.Rows.callWith_builtin1 (thn hA λus s1 hu=>?_) hs hpl;obtain⟨u,rfl,v,H1,I1,r1,c',b,ad1,rel,hl,q1⟩:=hu;cases rel with
  |exn ha hcl hn =>
   cases r1;obtain⟨ic,ki⟩:=ht _ _ _ hl hn;refine PySem.W.kia_one (zoq ic) I1.kIn ?_ ki (by intro z;cases z) λtk=>⟨.bl b,H1,I1.tok _,rfl,q1⟩
   obtain⟨h1,_⟩:=I1.hok _ _ ha;exact⟨_,h1,hcl⟩
def zqM {e:Expr}{p np pos:Pos}{tbl:List (Str×Bool)}(hg:Gl X "isinstance")(hm:X.mg "isinstance"=none)(he:PD X e t)(hgc:Gl X c)(ht:∃ Cc,X.mg c=some (.ref Cc)/\∀ c' b C,tbl.lookup c'=some b->PySem.W.nsIn X.K mainGlobals c'=some (some (.ref C))->IsC X.K C/\PySem.W.kitOne X.K (.ref C) (.ref Cc)=some b)(hd:autoParam ((c==("__debug__":Str))=false) zW)(hs:autoParam (starEach [e,.Name c np] X.env=(false,eval e X.env)::starEach [.Name c np] X.env) zL)(hpl:autoParam ((backTo pos (starEach [.Name c np] X.env)).any (·.1)=false) zL) :
  PD X (.Call (.Name "isinstance" p) [e,.Name c np] [] pos) (zhS tbl t):=by
 with_unfolding_all
  obtain⟨Cc,h1,h2⟩:=ht;exact znM hg hm he (zsW hgc h1 hd) h2 hs hpl
def zqV {e:Expr}{p np pos:Pos}{T:String}{tbl:List (Str×Bool)}(hg:Gl X "isinstance")(hm:X.mg "isinstance"=none)(he:PD X e t)(hgc:Gl X c)(ht:X.mg c=none/\∀ c' b C,tbl.lookup c'=some b->PySem.W.nsIn X.K mainGlobals c'=some (some (.ref C))->IsC X.K C/\PySem.W.kitOne X.K (.ref C) (.type T)=some b)(hv:bootBuiltins c=some (.type T))(hn:autoParam (c≠"__name__") zW)(hd:autoParam ((c==("__debug__":Str))=false) zW)(hs:autoParam (starEach [e,.Name c np] X.env=(false,eval e X.env)::starEach [.Name c np] X.env) zL)(hpl:autoParam ((backTo pos (starEach [.Name c np] X.env)).any (·.1)=false) zL) :
  PD X (.Call (.Name "isinstance" p) [e,.Name c np] [] pos) (zhS tbl t):=by with_unfolding_all exact(znM hg hm he (zva hgc ht.1 hv hn hd) ht.2 hs hpl)
end
noncomputable def exD (K:PySem.W.Frag) (C:Addr) (sl:List (Option Value)):PySem.Data->Bool
 | .cls cd=>cd.mro.head?==some (.ref C)&&!cd.hasDel&&sl.length==6&&sl[4]?==some (some (.builtin "ValueError.__new__"))&&PySem.W.nsOkIn K cd.ns&&PySem.W.nsIn K cd.ns "__init__"==some none&&PySem.W.tailIn K [.type "ValueError",.type "Exception",.type "BaseException",.type "object"] cd.mro.tail
 |_=>false
noncomputable def zlx (K:PySem.W.Frag) (C:Addr):Bool:=(K.lookup C).any λo=>o.cls==.type "type"&&exD K C o.slots.toList o.data
def ExC.of {K:PySem.W.Frag}{C:Addr}(q:zlx K C=true):ExC K C:=by
 unfold zlx at q;cases ho:K.lookup C with
 |none=>rw[ho]at q;cases q
 |some o =>
  rw[ho]at q;obtain⟨c,dd,d,⟨sl⟩⟩:=o;have q':(c==.type "type"&&exD K C sl d)=true:=q;rw[Bool.and_eq_true,beq_iff_eq]at q';obtain⟨rfl,q⟩:=q';cases d with
  |cls cd =>
   obtain⟨nm,bs,mro,ns,qn,hd,sn,sub,ab,col,del⟩:=cd;have q':(mro.head?==some (.ref C)&&!del&&sl.length==6&&sl[4]?==some (some (.builtin "ValueError.__new__"))&&PySem.W.nsOkIn K ns&&PySem.W.nsIn K ns "__init__"==some none&&PySem.W.tailIn K [.type "ValueError",.type "Exception",.type "BaseException",.type "object"] mro.tail)=true:=q;simp only[Bool.and_eq_true,beq_iff_eq,Bool.not_eq_true']at q';obtain⟨⟨⟨⟨⟨⟨e1,rfl⟩,e2⟩,e3⟩,h1⟩,h2⟩,h3⟩:=q';cases mro with
   |nil=>cases e1
   |cons m bm =>cases e1;obtain⟨k0,k1,k2,k3,k4,k5,rfl⟩:=zpI e2;cases e3;exact⟨nm,qn,ns,bs,bm,hd,sn,sub,ab,col,dd,k0,k1,k2,k3,k5,ho,h1,h2,h3⟩
  |_=>cases q
noncomputable def isIn (K:PySem.W.Frag) (C:Addr):Bool:=PySem.W.findIn K (.ref C) "__getattribute__"==some (some (.builtin "BaseException.__getattribute__"))&&PySem.W.findIn K (.ref C) "__getattr__"==some none&&PySem.W.findIn K (.ref C) "__class__"==some (some (.builtin "object.__class__")) &&
 PySem.W.mroIn K C (.type "object")==some true&&PySem.W.mroIn K C (.type "BaseException")==some true
def IsC.of {K:PySem.W.Frag}{C:Addr}(q:isIn K C=true):IsC K C:=by unfold isIn at q;simp only[Bool.and_eq_true,beq_iff_eq]at q;exact⟨q.1.1.1.1,q.1.1.1.2,q.1.1.2,q.1.2,q.2⟩
def zbI {a c:Str}{l:List Str}(h:(a::l).contains c=true):c=a\/l.contains c=true:=by rw[List.contains_cons,Bool.or_eq_true,beq_iff_eq]at h;exact h
def zaM {a c:Str}{b b':Bool}{l:List (Str×Bool)}(h:((a,b')::l).lookup c=some b):(c=a/\b'=b)\/l.lookup c=some b:=by
 rw[List.lookup_cons]at h;split at h
 ·rename_i e;exact .inl ⟨beq_iff_eq.mp e,Option.some.inj h⟩
 ·exact .inr h
section
variable {X:Cx}[B:Bs]
theorem zB.upto {K:PySem.W.Frag}{aD:List Addr}{H:Hp}(i:Int)(n:Nat):zB K aD H (upto i n) (((List.range n).map λk:Nat=>i+(k:Int)).map V.int):=by
 unfold Dp.upto;rw[List.map_map]
 induction List.range n with
 |nil=>exact .nil
 |cons k ks ih=>exact .cons (.int _) ih
def zqi {a b:Expr}{t:DA}{p1 p2 pos1 pos2:Pos}(hgl:Gl X "list")(hml:X.mg "list"=none)(hgr:Gl X "range")(hmr:X.mg "range"=none)(ha:PAD X [a,b] t)(hc:autoParam (X.calm=true) zL)(h1:autoParam (isStar a=false) zL)(h2:autoParam (isStar b=false) zL) :
  PD X (.Call (.Name "list" p1) [.Call (.Name "range" p2) [a,b] [] pos2] [] pos1) (dB zlh t):=by with_unfolding_all exact(zaC (zl3 hc hgl hml hgr hmr ha (zjV h1 h2) (ze6 h2)) λU H Q hh=>el8 hh λaD Z S Q0 st rh q k =>
 ⟨aD,Z,S,_,st,rh,q,by rintro ds S1 vs H1 ad1 ⟨i,j,e,hl,q1⟩ w1 st1 r1;subst e;obtain⟨u,w,rfl,ru,rw'⟩:=zfA r1;cases ru;cases rw';exact⟨i,j,rfl,hl,λl hl'=>zd1 st1 (k.wd w1) (zB.upto i _) q1 l hl'⟩⟩)
end
section
variable {K:PySem.W.Frag}{aD:List Addr}{H:Hp}{S:Sto}[B:Bs]
end
section
variable {X:Cx}{a b c:Expr}{td ti tz tv:DE}{pos apos cpos:Pos}[B:Bs]
end
structure FH (K:PySem.W.Frag)(n:Str)(st:Stmt)(f:Addr)(fd:FuncData):Prop where
 a:PySem.W.nsIn K mainGlobals n=some (some (.ref f))
 F:Fun K n n st f fd
structure AG (P:Program)(w:World)(base:Heap)(K:PySem.W.Frag)(h:Heap)(mg:Str->Option Value):Prop where
  X:K.In h
  G:h.Ns mainGlobals mg
section
variable {K:PySem.W.Frag}{n:Str}{st:Stmt}{f:Addr}{fd:FuncData}{mg:Str->Option Value}{k:Nat}{h:Heap}{ps:List Str}{sp:Sp}
def zt0 {oc:Value}{od an:Option Addr}{osl:Array (Option Value)}{kV doc pm cdv ct:Value}(a:PySem.W.nsIn K mainGlobals n=some (some (.ref f)))
  (l:K.lookup f=some ⟨oc,od,.func (PySem.W.fnOf n n (zbh st) (zaI st) (zY st) .none kV doc pm an cdv ct),osl⟩) (c:PySem.W.codeIn K cdv n=true) (k:PySem.W.keepIn K (.ref f)=true) :
  FH K n st f (PySem.W.fnOf n n (zbh st) (zaI st) (zY st) .none kV doc pm an cdv ct):=⟨a,zhe l c k⟩
def zV {base:Heap}(A:AG P w base K h mg)(H:FH K n st f fd)(ok:zQ P w K mg base CX0 k f fd ps sp)(b:autoParam (∀ (kV doc pm:Value) (an:Option Addr) (cdv ct:Value) (us:List Value),us.length=ps.length->bindArgs (PySem.W.fnOf n n (zbh st) (zaI st) (zY st) .none kV doc pm an cdv ct) ⟨us,[]⟩=pure (ps.zip us)) zmJ):Got P w K mg base k n ps sp:=⟨⟨f,fd,ok,H.F.binds b,H.F.kp,PySem.W.mg_of A.1 A.2 H.a⟩⟩
def zdW {base:Heap}(A:AG P w base K h mg)(H:FH K n st f fd)(ok:zQ P w K mg base (CXd P w) k f fd ps sp)(b:autoParam (∀ (kV doc pm:Value) (an:Option Addr) (cdv ct:Value) (us:List Value),us.length=ps.length->bindArgs (PySem.W.fnOf n n (zbh st) (zaI st) (zY st) .none kV doc pm an cdv ct) ⟨us,[]⟩=pure (ps.zip us)) zmJ):zfD P w K mg base k n ps sp:=⟨⟨f,fd,ok,H.F.binds b,H.F.kp,PySem.W.mg_of A.1 A.2 H.a⟩⟩
end
section
variable {X:Cx}
def zwn [B:Bs](i:Nat){x:Str}{pos:Pos}(hN:autoParam (X.N[i]?=some x) zL)(hv:autoParam (L2.Vis X.env.scope x) zl5)(hd:autoParam ((x==("__debug__":Str))=false) zW)(hcd:autoParam ((x==("__classdict__":Str))=false) zW):PD X (.Name x pos) (zaZ i):=by with_unfolding_all exact(zkg (znL hN hv hd hcd))
def zsh {N P:List Str}{sc:Scope}(h1:autoParam (sc.kind=.function) zL)(h2:autoParam (sc.isCoroutine=false) zL)(h3:autoParam (sc.isGenerator=false) zL)(h4:autoParam (N.Nodup) zcP)(h5:autoParam (N.take P.length=P) zL)(h6:autoParam (∀ x∈P,sc.names.lookup x=some .local\/sc.names.lookup x=some .cell) zcP)(h7:autoParam (∀ y∈sc.names,y.2≠.free) zcP):zcC N P sc:=⟨h1,h2,h3,h4,h5,h6,h7⟩
end
section
variable {X:Cx}{a b c:Expr}{ta tb:DE}{td ti tz tv:DE}{pos apos cpos:Pos}[B:Bs]
end
section
variable {X:Cx}{a b:Expr}{ta tb:DE}{pos apos cpos:Pos}[B:Bs]
def zfG (h:My.Bd 1900 i):i.natAbs.log2<1920:=by
 by_cases e:i.natAbs=0
 ·rw[e];decide
 ·exact Nat.lt_of_lt_of_le ((Nat.log2_lt e).mpr h) (by decide)
def zmG:zas X (.type "str") (λxs H Q=>(∃ i:Int,xs=[.int i]/\i.natAbs.log2<1920/\Q (.str (toString i)) H)\/∃ z,xs=[.str z]/\Q (.str z) H):=by
 intro pins s U H xs us Q I r h;rcases h with h|⟨z,rfl,q⟩
 ·exact zi8 pins s U H xs us Q I r h
 ·obtain⟨u,rfl,t,rfl⟩:=vals1 r;exact PySem.P.str_of_str ⟨.str z,H,I,⟨_,rfl⟩,q⟩
def zkd:BC X (.type "str") zjA:=⟨_,zmG,λaD H S ds vs Q0 Q st r h k=>by
 rcases h with⟨i,rfl,hb,q⟩|⟨z,rfl,q⟩
 ·obtain⟨v,rfl,rv⟩:=zbD r;cases rv;exact .inl ⟨i,rfl,zfG hb,k _ S _ H aD q Wd.refl st (.str _)⟩
 ·obtain⟨v,rfl,rv⟩:=zbD r;cases rv;exact .inr ⟨z,rfl,k _ S _ H aD q Wd.refl st (.str _)⟩⟩
theorem zi5:∀ {zs:List Str} {its:List Value},Vals (zs.map V.str) its->∃ l:List (Str×Tok),its=PySem.strValues l/\l.map (·.1)=zs
 |[],_,.nil=>⟨[],rfl,rfl⟩
 |z::zs,_,.cons r t=>by obtain⟨l,rfl,e⟩:=zi5 t;obtain⟨tk,rfl⟩:=r;exact⟨(z,tk)::l,rfl,by rw[List.map_cons,e]⟩
def znD {z:Str}{zs:List Str}(h:(zs.map (·.length)).sum+zs.length*z.length<=big):PySem.JoinOk z zs=true:=by unfold PySem.JoinOk;rw[PySem.StrLaws.joinTotal];show(!decide (_ > sizeLine))=true;rw[decide_eq_false (by rw[sizeLine_eq];unfold big at h;lia)];rfl
def zt9 (ta tb:TE):TE:=λU H Q=>ta U H λx H1=>(∃ z,x=.str z)/\tb U H1 λy H2=>∃ z l,∃ zs:List Str,x=.str z/\y=.ref l/\H2 l=some (.lst (zs.map V.str))/\(zs.map (·.length)).sum+zs.length*z.length<=big/\Q (.str (Str.join z zs)) H2
def zqL {ta tb:TE}(ha:PE X a ta)(hb:PE X b tb)(hbase:attributeBase a "join" X.env (eval a X.env)=eval a X.env)(hs:starEach [b] X.env=[(false,eval b X.env)])(hline:(apos.endLine==cpos.line)=true):PE X (.Call (.Attribute a "join" apos) [b] [] cpos) (zt9 ta tb):=by intro pins s U H Q I h;refine PySem.Call_method1 hbase hs hline (thn (ha pins s U H _ I h) λu s1 ⟨x,H1,I1,rx,⟨z,ex⟩,q1⟩=>?_);subst ex;obtain⟨t,rfl⟩:=rx;refine PySem.SB.join (thn (hb pins s1 U H1 _ I1 q1) λv s2 ⟨y,H2,I2,ry,z',l,zs,e1,e2,hH,hl,q2⟩=>?_);cases e1;subst e2;cases ry;obtain⟨hz,its,n,rr,hlen,ho⟩:=I2.lstM hH;obtain⟨ps,rfl,eps⟩:=zi5 rr;refine⟨l,ps,rfl,⟨_,ho,rfl,_,rfl⟩,zs,eps,znD hl,λt' k=>⟨.str (Str.join z zs),H2,I2.tok _,⟨t',?_⟩,q2⟩⟩;rw[show PySem.Txt.join z zs=Str.join z zs from PySem.StrLaws.glued_eq_join z zs]
end
section
variable {X:Cx}{a b:Expr}{ta tb:DE}{pos apos cpos:Pos}[B:Bs]
theorem zB.strs {K:PySem.W.Frag}{aD:List Addr}{H:Hp}:∀ {zs:List Str} {vs:List V},zB K aD H (zs.map D.str) vs->vs=zs.map V.str
 |[],_,.nil=>rfl
 |z::zs,_,.cons r t=>by cases r;rw[zB.strs t];rfl
def zkD (ha:PD X a ta)(hb:PD X b tb)(hbase:autoParam (attributeBase a "join" X.env (eval a X.env)=eval a X.env) zL)(hl:autoParam (isStar b=false) zL)(hline:autoParam ((apos.endLine==cpos.line)=true) zL):PD X (.Call (.Attribute a "join" apos) [b] [] cpos) (ziU ta tb):=by with_unfolding_all exact(zaC (zqL ha hb hbase (ze6 hl) hline) λU H Q hh=>el8 hh λaD Z S Q0 st rh q k =>
 ⟨aD,Z,S,_,st,rh,q,by
  rintro x S1 v H1 ad1 ⟨⟨z,ex⟩,q1⟩ w1 st1 r1;subst ex;cases r1
  exact⟨⟨z,rfl⟩,ad1,Z,S1,_,st1,rh.wd w1,q1,by
   rintro y S2 u H2 ad2 ⟨z',n,zs,e1,e2,hn,hl,q2⟩ w2 st2 r2;cases e1;subst e2;cases r2 with
   |ref e =>obtain⟨ws,hw,rw'⟩:=st2.cell n _ _ e hn;rw[rw'.strs]at hw;exact⟨z,_,zs,rfl,rfl,hw,hl,k _ S2 _ H2 ad2 q2 (w1.trans w2) st2 (.str _)⟩⟩⟩)
def tF3 (c:Str)(ta tb:TE):TE:=λU H Q=>ta U H λx H1=>(∃ i,x=.int i/\i.natAbs.log2<1920/\(Str.ofString (toString i)).length<=1000/\c.length<=1000)/\tb U H1 λy H2=>∃ i j,x=.int i/\y=.int j/\j.natAbs.log2<1920/\(Str.ofString (toString j)).length<=1000/\Q (.str (Str.ofString (toString i)++c++Str.ofString (toString j))) H2
def zt7 {ta tb:TE}{c:Str}{kk:Nat}{p1 p2 p3:Pos}(ha:PE X a ta)(hb:PE X b tb):PE X (.JoinedStr [.FormattedValue a (-1) none p1,.Constant (.str c) kk p2,.FormattedValue b (-1) none p3] pos) (tF3 c ta tb):=by
 intro pins s U H Q I h;have sz:∀ n:Nat,n<=100000->n<=sizeLine:=λn h=>Nat.le_trans h (by rw[sizeLine_eq];decide)
 refine JoinedStr_many (joinParts_cons (FormattedValue_plain (thn (ha pins s U H _ I h) λu s1 ⟨x,H1,I1,rx,⟨i,ex,hi,li,lc⟩,q1⟩=>?_)));subst ex;obtain⟨t,rfl⟩:=rx;refine formatField_int_small hi ?_;refine⟨sz _ (by rw[strLen_append];show 0+_<=_;lia),?_⟩;have e0:Str.empty++Str.ofString (toString i)=Str.ofString (toString i):=PySem.Str.append_left_empty rfl;rw[e0];refine joinParts_cons (thn (zjx (X:=X) (x:=c) (j:=kk) (pos:=p2) pins _ U H1 (λx H'=>x=.str c/\H'=H1) (I1.tok _) ⟨rfl,rfl⟩) λu s2 ⟨x2,H2,I2,rx2,ex2,eh⟩=>?_);subst ex2 eh;obtain⟨t2,rfl⟩:=rx2;refine⟨sz _ (by rw[strLen_append];lia),?_⟩;refine joinParts_cons (FormattedValue_plain (thn (hb pins s2 U H2 _ I2 q1) λu s3 ⟨y,H3,I3,ry,i',j,e1,e2,hj,lj,q2⟩=>?_));cases e1;subst e2;obtain⟨t3,rfl⟩:=ry;refine formatField_int_small hj ?_;refine⟨sz _ (by rw[strLen_append,strLen_append];lia),?_⟩;exact joinParts_nil ⟨.str _,H3,(I3.tok _).tok _,⟨_,rfl⟩,q2⟩ (sz _ (by rw[strLen_append,strLen_append];lia))
def zun {c:Str}{kk:Nat}{p1 p2 p3:Pos}(ha:PD X a ta)(hb:PD X b tb):PD X (.JoinedStr [.FormattedValue a (-1) none p1,.Constant (.str c) kk p2,.FormattedValue b (-1) none p3] pos) (dF3 c ta tb):=by with_unfolding_all exact(zaC (zt7 ha hb) λU H Q hh=>el8 hh λaD Z S Q0 st rh q k =>
 ⟨aD,Z,S,_,st,rh,q,by
  rintro x S1 v H1 ad1 ⟨⟨i,ex,hi,li,lc⟩,q1⟩ w1 st1 r1;subst ex;cases r1
  exact⟨⟨i,rfl,zfG hi,li,lc⟩,ad1,Z,S1,_,st1,rh.wd w1,q1,by rintro y S2 u H2 ad2 ⟨i',j,e1,e2,hj,lj,q2⟩ w2 st2 r2;cases e1;subst e2;cases r2;exact⟨i,j,rfl,rfl,zfG hj,lj,k _ S2 _ H2 ad2 q2 (w1.trans w2) st2 (.str _)⟩⟩⟩)
end
section
variable {X:Cx}{a b:Expr}{ta tb:DE}{pos apos cpos:Pos}[B:Bs]
end
section
variable {X:Cx}{tg:Expr}{pos:Pos}{b:Nat}[B:Bs]
end
section
variable {X:Cx}{a:Expr}{pos:Pos}[B:Bs]
def tFs:List (Sum Str TE)->Str->TE
 |[],out=>λ_ H Q=>Q (.str out) H
 |.inl c::ts,out=>λU H Q=>(out++c).length<=100000/\tFs ts (out++c) U H Q
 |.inr t::ts,out=>λU H Q=>t U H λx H1=>(∃ i,x=.int i/\i.natAbs.log2<1920/\(out++Str.ofString (toString i)).length<=100000/\tFs ts (out++Str.ofString (toString i)) U H1 Q)\/∃ z,x=.str z/\(out++z).length<=100000/\tFs ts (out++z) U H1 Q
inductive FsR (X:Cx):List Expr->List (Sum Str TE)->Prop
 |nil:FsR X [] []
 |lit {c:Str} {kk:Nat} {p:Pos} {es:List Expr} {ts:List (Sum Str TE)}:FsR X es ts->FsR X (.Constant (.str c) kk p::es) (.inl c::ts)
 |val {e:Expr} {t:TE} {p:Pos} {es:List Expr} {ts:List (Sum Str TE)}:PE X e t->FsR X es ts->FsR X (.FormattedValue e (-1) none p::es) (.inr t::ts)
omit B in
def zuG (h:FsR X es ts):∀ (pins:List (Addr×Obj)) (s:Shared) (U:L2.St) (H:Hp) (out:Str) (Q:VK),Inv X pins U H s->out.length<=100000->tFs ts out U H Q->wpAny (model X.prog X.w) X.A (joinParts out (evalEach es X.env)) (EP X pins U Q) X.xe s:=by
 have sz:∀ n:Nat,n<=100000->n<=sizeLine:=λn h=>Nat.le_trans h (by rw[sizeLine_eq];decide)
 induction h with
 |nil=>intro pins s U H out Q I ho q;exact joinParts_nil ⟨.str _,H,I.tok _,⟨_,rfl⟩,q⟩ (sz _ ho)
 |@lit c kk p es ts _ ih =>intro pins s U H out Q I ho q;have q:(out++c).length<=100000/\tFs ts (out++c) U H Q:=q;refine joinParts_cons (thn (zjx (X:=X) (x:=c) (j:=kk) (pos:=p) pins _ U H (λx H'=>x=.str c/\H'=H) I ⟨rfl,rfl⟩) λu s2 h2=>?_);obtain⟨x2,H2,I2,rx2,ex2,eh⟩:=h2;subst ex2 eh;obtain⟨t2,rfl⟩:=rx2;exact⟨sz _ q.1,ih pins s2 U H2 _ Q I2 q.1 q.2⟩
 |@val e t p es ts he _ ih =>
  intro pins s U H out Q I ho q;refine joinParts_cons (FormattedValue_plain (thn (he pins s U H _ I q) λu s1 h1=>?_));obtain⟨x,H1,I1,rx,q1⟩:=h1;rcases q1 with⟨i,ex,hi,li,q1⟩|⟨z,ex,li,q1⟩
  ·subst ex;obtain⟨t,rfl⟩:=rx;exact formatField_int_small hi ⟨sz _ li,ih pins _ U H1 _ Q ((I1.tok _).tok _) li q1⟩
  ·subst ex;obtain⟨t,rfl⟩:=rx;refine formatField_str (λt' tk=>⟨sz _ li,ih pins _ U H1 _ Q (I1.tok _) li q1⟩) (sz _ ?_);rw[strLen_append]at li;lia
omit B in
def zuR {e2:Expr}{es:List Expr}(h:FsR X (e1::e2::es) ts):PE X (.JoinedStr (e1::e2::es) pos) (tFs ts Str.empty):=λpins s U H Q I q=>JoinedStr_many (zuG h pins s U H _ Q I (Nat.zero_le _) q)
def tF1 (t:TE):TE:=λU H Q=>t U H λx H1=>(∃ i,x=.int i/\i.natAbs.log2<1920/\Q (.str (Str.ofString (toString i))) H1)
omit B in
def zt5 {p:Pos}(h:PE X a t):PE X (.JoinedStr [.FormattedValue a (-1) none p] pos) (tF1 t):=λpins s U H Q I q =>
 JoinedStr_one (FormattedValue_plain (thn (h pins s U H _ I q) λu s1 h1=>by obtain⟨x,H1,I1,rx,i,ex,hi,q1⟩:=h1;subst ex;obtain⟨t,rfl⟩:=rx;exact formatField_int_small hi ⟨.str _,H1,(I1.tok _).tok _,⟨_,rfl⟩,q1⟩))
def FsD (X:Cx)(es:List Expr)(ds:List (Sum Str DE)):Prop:=FsR X es (ds.map (Sum.map id (up X.K)))
def zrh:FsD X [] []:=.nil
def zkH {c:Str}{kk:Nat}{p:Pos}(h:FsD X es ds):FsD X (.Constant (.str c) kk p::es) (.inl c::ds):=.lit h
def zhM {e:Expr}{p:Pos}(he:PD X e t)(h:FsD X es ds):FsD X (.FormattedValue e (-1) none p::es) (.inr t::ds):=by with_unfolding_all exact(.val he h)
theorem ziT {K:PySem.W.Frag}:∀ (ds:List (Sum Str DE)) (out:Str) (U:L2.St) (H:Hp) (Q:VK),up K (dFs ds out) U H Q->tFs (ds.map (Sum.map id (up K))) out U H Q
 |[],out,U,H,Q,h=>by obtain⟨aD,Z,S,Q0,st,rh,q,k⟩:=h;exact k _ S _ H aD q Wd.refl st (.str _)
 |.inl c::ds,out,U,H,Q,h=>by obtain⟨aD,Z,S,Q0,st,rh,q,k⟩:=h;have q:(out++c).length<=100000/\dFs ds (out++c) Z S Q0:=q;exact⟨q.1,ziT ds _ U H Q ⟨aD,Z,S,Q0,st,rh,q.2,k⟩⟩
 |.inr t::ds,out,U,H,Q,h=>by
  obtain⟨aD,Z,S,Q0,st,rh,q,k⟩:=h;refine⟨aD,Z,S,_,st,rh,q,λx S1 v H1 ad1 q1 w1 st1 r1=>?_⟩;rcases q1 with⟨i,ex,hi,li,q1⟩|⟨z,ex,li,q1⟩
  ·subst ex;cases r1;exact .inl ⟨i,rfl,zfG hi,li,ziT ds _ U H1 Q ⟨ad1,Z,S1,Q0,st1,rh.wd w1,q1,k.wd w1⟩⟩
  ·subst ex;cases r1;exact .inr ⟨z,rfl,li,ziT ds _ U H1 Q ⟨ad1,Z,S1,Q0,st1,rh.wd w1,q1,k.wd w1⟩⟩
def zvr {e2:Expr}{es:List Expr}(h:FsD X (e1::e2::es) ds):PD X (.JoinedStr (e1::e2::es) pos) (dFs ds Str.empty):=by with_unfolding_all exact(zaC (zuR h) λU H Q hh=>ziT ds _ U H Q hh)
def zuq {p:Pos}(h:PD X a t):PD X (.JoinedStr [.FormattedValue a (-1) none p] pos) (dF1 t):=by with_unfolding_all exact(zaC (zt5 h) λU H Q hh=>el8 hh λaD Z S Q0 st rh q k =>
 ⟨aD,Z,S,_,st,rh,q,λx S1 v H1 ad1 q1 w1 st1 r1=>by obtain⟨i,ex,hi,q1⟩:=q1;subst ex;cases r1;exact⟨i,rfl,zfG hi,k _ S1 _ H1 ad1 q1 w1 st1 (.str _)⟩⟩)
end
section
variable {X:Cx}{sc:Scope}{tg iter elt:Expr}{ifs:List Expr}{own free:List Str}{fv:List Nat}{pos:Pos}
theorem zk2:∀ {free:List Str} {fv:List Nat},zdC X sc free fv->zdC (nxX X) sc free fv
 |[],[],h=>h
 |[],_::_,h=>h.elim
 |_::_,[],h=>h.elim
 |_::_,_::_,h=>⟨h.1,h.2.1,h.2.2.1,zk2 h.2.2.2⟩
def znY {g:TG}{tc:TT}{te:TE}{i:Nat}{y:Str}{py spos:Pos}(hN:X.N.Nodup)(hy:X.N[i]?=some y)(hyl:X.env.scope.names.lookup y=some .local)(hcalm:X.calm=true)(hkind:sc.kind=.function)(hcell:∀ y∈sc.names,y.2=.cell->sc.names.lookup y.1=some .cell)(hnames:∀ y∈sc.names,y.2=.local->sc.names.lookup y.1=some .local)(hfr:zcq (λx=>X.env.kindOf x=some .cell) sc.names)(hfv:zdC X sc free fv)(hi:PI X tg iter wi)(hg:∀ cl C s₀ H₀ ex,PG (inner (nxX X) sc (own++free) cl C s₀ H₀ ex) tg g)(ht:∀ cl C s₀ H₀ ex,PFs (inner (nxX X) sc (own++free) cl C s₀ H₀ ex) ifs tc)(he:∀ cl C s₀ H₀ ex,PE (inner (nxX X) sc (own++free) cl C s₀ H₀ ex) elt te)(hsw:swapsWith (.ListComp elt [⟨tg,iter,ifs,0⟩] sc pos) (some (.Name y py)) spos.line X.env=pure true)(hs:∀ x,foldedSetIterable iter X.env x=pure x):PS X (.Assign [.Name y py] (.ListComp elt [⟨tg,iter,ifs,0⟩] sc pos) spos) (zmi (tLC own fv wi g tc te) (L2.zak i)):=by
 intro pins s U H D I q;obtain⟨cl,hclos,hcl1,hcl2⟩:=zfg (env:=X.env) (sc:=sc) λy hy e=>I.ok.has y.1 (.inl (hfr.of y hy e))
 rw[exec_Assign_Name_used _ _ _ _ hsw];refine wpAny_bind (wpAny_standAt (wpAny_bind ?_));show wpAny _ X.A (do let _ <- comprehension (.ListComp elt [⟨tg,iter,ifs,0⟩] sc pos) sc X.env _ (newList []) false (eval iter X.env) (some (assign (.Name y py) X.env))) _ _ s
 refine wpAny_bind (wpAny_mono (wpAny_comprehension_free (use:=some (assign (.Name y py) X.env)) (Q:=λ_ s'=>SP X pins D .next s') rfl hs hclos hkind hnames
  (thn (hi pins s U H _ I q) λv s1 h1=>thn h1 λitv s2 h2=>?_)) (λ_ s' hq=>wpAny_pure (wpAny_pure hq)) λ_ _ e=>e)
 obtain⟨it,fp,tn,J,H2,e,I2,T,st2,f2,q2⟩:=h2;subst e;refine wpAny_mono (ze8 (X:=nxX X) (RR:=λacc C=>compPost (model X.prog X.w) X.A X.xe (some (assign (.Name y py) X.env)) (λ_ s'=>SP X pins D .next s') acc C) (Q:=λx H1=>L2.zak i x U H1 D.nx) hcalm rfl hkind hcell hfr (zk2 hfv) hg ht he (zs0 I2) T st2 f2 q2 hcl1 hcl2 ?_) (λ_ _ h3=>wpAny_mono h3 (λ_ _ k=>k) λ_ _ z=>z.elim) λ_ _ z=>z.elim
 intro p C m H' s' hm I' hC hCl hC0 hCc hCp q';have I':=zor I';show wpAny _ X.A (assign (.Name y py) X.env (.ref p)) _ _ _;refine wpAny_assign_Name (zfV (v:=.ref p) I' hN hy (.inl hyl) rfl (λs'' I'' hsb=>?_) (.inr hyl));obtain⟨a,hsb,ha⟩:=hsb
 have hCa:C≠a:=by
  rcases ha with rfl|ha
  ·exact hCl
  ·exact λe=>hCc _ _ ha e.symm
 refine⟨m,hm.sameBut hsb hCa,λh' hs'=>⟨_,H',I''.turned (t':=s''.toks) (λb o hb e=>hs'.extBut b o hb e) hC hCl (.inr hC0) hCc hCp,q'⟩⟩
variable [B:Bs]
def znG {tc:DT}{te:DE}{i:Nat}{y:Str}{py spos:Pos}(hN:X.N.Nodup)(hfr:zcq (λx=>X.env.kindOf x=some .cell) sc.names)(hfv:zdC X sc free fv)(hi:PID X tg iter wi)(hg:zeT X.K own.length g g'/\∀ cl C s₀ H₀ ex,PG (inner (nxX X) sc (own++free) cl C s₀ H₀ ex) tg g')(ht:∀ cl C s₀ H₀ ex,zkc (inner (nxX X) sc (own++free) cl C s₀ H₀ ex) ifs tc)(he:∀ cl C s₀ H₀ ex,PD (inner (nxX X) sc (own++free) cl C s₀ H₀ ex) elt te)(hy:autoParam (X.N[i]?=some y) zL)(hyl:autoParam (X.env.scope.names.lookup y=some .local) zL)(hcalm:autoParam (X.calm=true) zL)(hkind:autoParam (sc.kind=.function) zL)(hcell:autoParam (∀ y∈sc.names,y.2=.cell->sc.names.lookup y.1=some .cell) zcP)(hnames:autoParam (∀ y∈sc.names,y.2=.local->sc.names.lookup y.1=some .local) zcP)(hsw:autoParam (swapsWith (.ListComp elt [⟨tg,iter,ifs,0⟩] sc pos) (some (.Name y py)) spos.line X.env=pure true) zL)(hs:autoParam (∀ x,foldedSetIterable iter X.env x=pure x) zeV):PSD X (.Assign [.Name y py] (.ListComp elt [⟨tg,iter,ifs,0⟩] sc pos) spos) (zG (dLC own.length fv wi g tc te) (zak i)):=by with_unfolding_all exact(zaN (znY (tc:=upT X.K tc) (te:=up X.K te) hN hy hyl hcalm hkind hcell hnames hfr hfv hi hg.2 ht he hsw hs) λE U H hh=>el8 hh λaD Z S E0 so rh q k =>zlV (Q:=λx H1=>L2.zak i x U H1 E.nx) hg.1 ⟨aD,Z,S,_,so,rh,q,λd S' v H' aD' q' w st' r=>k.nx _ S' _ H' aD' q' w st' ((rh.wd w).set r i)⟩)
end
end Dp
namespace My
open PySem PySem.Spec PyProof.Rows L2
section
variable {X:Cx}{pins pl:List (Addr×Obj)}{U:L2.St}{H H':Hp}{s:Shared}{a:Addr}{o:Obj}
end
end My
namespace Dp
open PySem PySem.Spec PyProof.Rows L2 My
section
variable {K:PySem.W.Frag}{aD:List Addr}{H H':Hp}{S:Sto}[B:Bs]
end
end Dp
open PySem Dp
local macro_rules | `(tactic| walk_at"dat")=>`(tactic| first | assumption | exact zaV | exact zgb | (refine(zbT _ _ _).trans ?_;exact rfl) | exact zby (by assumption))
local macro_rules | `(tactic| walk_at"l")=>`(tactic| first | assumption | exact Lst.rl | exact Lst.at0 | exact Lst.new | (refine Lst.at ?_;exact rfl) | exact Lst.old (by assumption) | exact Lst.here (by assumption) | exact Lst.here (zby (by assumption)))
local macro_rules | `(tactic| walk_at"dseq")=>`(tactic| first | exact Or.inl rfl | (refine Or.inr ?_;walk_at"l"))
local macro_rules | `(tactic| walk_at"d")=>`(tactic| first | assumption | exact My.Bd.mono (by assumption) (by decide) | exact My.Bd.lit (by decide) (by decide) | (refine My.Bd.add ?_ ?_<;>walk_at"d") | (refine My.Bd.sub ?_ ?_<;>walk_at"d") | (refine My.Bd.neg ?_;walk_at"d") | (refine My.Bd.mulH ?_ ?_<;>walk_at"d") | (refine My.Bd.emod (by first | decide | lia) ?_;walk_at"d") | (refine My.Bd.ediv ?_;walk_at"d"))
local macro_rules | `(tactic| walk_at"dmul")=>`(tactic| first | assumption | exact Or.inr (Or.inl (by first | decide | lia)) | exact Or.inr (Or.inr (by first | decide | lia)) | exact Or.inl ⟨by walk_at"d",by walk_at"d"⟩)
local macro_rules | `(tactic| walk_at"ddiv")=>`(tactic| first | assumption | exact⟨by first | decide | lia,by walk_at"d"⟩)
local macro_rules | `(tactic| walk_at"dr1")=>`(tactic| first|(with_reducible refine zvL fun _ _ _=>?_)|(with_reducible refine zvB fun _ _=>?_)|(with_reducible refine zwF fun _ _=>?_)|((with_reducible refine nxi (W:=?rvw) ?rvk ?_);(case rvk=>assumption))|((with_reducible refine nxl (W:=?rvw) ?rvk ?_);(case rvk=>assumption)))
local macro_rules | `(tactic| walk_at"dr1")=>`(tactic| with_reducible first|refine zsN ?_|refine zr8 ?_|refine zsw ?_|refine zuw ?_|refine zwd ?_|refine zsf ?_|refine zwX ?_)
local macro_rules | `(tactic| walk_at"dr1")=>`(tactic| first|((with_reducible refine zuo (xs:=?rvx) ?rvl ?_);(case rvl=>walk_at"l")))
local macro_rules | `(tactic| walk_at"dr1")=>`(tactic| with_reducible first|refine zoZ ?_|refine zoo ?_|refine ztI ?_|refine zuS ?_|refine zt8 ?_|refine zmu ?_|refine zrK ?_|refine zu4 ?_|refine zuK ?_)
local macro_rules | `(tactic| walk_at"dr1")=>`(tactic| first|((with_reducible refine zuj (a:=?rvv) ?rvk ?_);(case rvk=>exact rfl))|((with_reducible refine zoY (xs:=?rvx) ?rvk ?rvl ?_);(case rvk=>walk_at"dat");(case rvl=>first | exact Nat.lt_of_ble_eq_true rfl | assumption | (simp only[big,List.length_append,List.length_cons,List.length_nil,List.length_map]at *;lia))))
local macro_rules | `(tactic| walk_at"dr1")=>`(tactic| with_reducible first|refine zrS ?_|refine zsE ?_|refine zrG ?_|refine zsI ?_|refine zwV ?_|refine zpt ?_|refine zv5 ?_|refine ztj ?_|refine zsT ?_|refine zti ?_)
local macro_rules | `(tactic| walk_at"dr1")=>`(tactic| first|((with_reducible refine zru ?rvk ?_);(case rvk=>exact rfl)))
local macro_rules | `(tactic| walk_at"dr1")=>`(tactic| with_reducible first|refine ziN ?_|refine zh3 ?_|refine zhy ?_|refine ziH ?_|refine zsK ?_|refine zqU ?_)
local macro_rules | `(tactic| walk_at"dr1")=>`(tactic| first|((with_reducible refine zsb (xs:=?rvx) ?rvl ?_);(case rvl=>walk_at"l"))|((with_reducible refine znU (xs:=?rvx) ?rvl ?_);(case rvl=>walk_at"l"))|((with_reducible refine zpR (xs:=?rvx) ?rvl ?_);(case rvl=>walk_at"l")))
local macro_rules | `(tactic| walk_at"dr1")=>`(tactic| with_reducible first|refine zum ?_|refine zvd ?_|refine zu0 ?_|refine zvq ?_|refine ze3 ?_|refine zvx ?_|refine zhA ?_|refine zrW ?_|refine ztQ ?_|refine zsU ?_|refine zrV ?_|refine zr0 ?_)
local macro_rules | `(tactic| walk_at"dr1")=>`(tactic| first|((with_reducible refine zua (ys:=?rvx) ?rvk ?_);(case rvk=>walk_at"dat")))
local macro_rules | `(tactic| walk_at"dr1")=>`(tactic| with_reducible first|refine r_b ?_|refine r_m ?_)
local macro_rules | `(tactic| walk_at"dr1")=>`(tactic| first|((with_reducible refine zsM (b:=?rvv) ?rvk ?_);(case rvk=>exact rfl)))
local macro_rules | `(tactic| walk_at"dr1")=>`(tactic| with_reducible first|refine zsQ ?_|refine zqo ?_|refine ztR ?_)
local macro_rules | `(tactic| walk_at"dr1")=>`(tactic| first|((with_reducible refine zuJ ?rvk ?_);(case rvk=>exact rfl)))
local macro_rules | `(tactic| walk_at"dr1")=>`(tactic| with_reducible first|refine zph ?_|refine zuv ?_)
local macro_rules | `(tactic| walk_at"dr1")=>`(tactic| with_reducible first|refine r_t ?_|refine zwE ?_|refine zvt ?_|refine zuX ?_|refine zv4 ?_|refine zuI ?_|refine zsv ?_|refine zrQ ?_|refine ztZ ?_|refine zpJ ?_|refine zu1 ?_|refine zjP ?_)
local macro_rules | `(tactic| walk_at"dr1")=>`(tactic| first|((with_reducible refine zve ?rvk ?_);(case rvk=>walk_at"dmul"))|((with_reducible refine zvf ?rvk ?_);(case rvk=>walk_at"ddiv"))|((with_reducible refine zu8 ?rvk ?_);(case rvk=>first | assumption | decide | lia))|((with_reducible refine zu2 (d:=?rvv) ?rvk ?_);(case rvk=>first | assumption | exact rfl))|((with_reducible refine zvv (xs:=?rvx) (d:=?rvv) ?rvl ?rvk ?_);(case rvl=>walk_at"l");(case rvk=>first | assumption | exact rfl)))
local macro_rules | `(tactic| walk_at"dr1")=>`(tactic| with_reducible first|refine r_c ?_|refine zlp ?_|refine zv8 ?_|refine zuW ?_|refine zuQ ?_|refine ztX ?_|refine zwK ?_|refine zvY ?_|refine zwv ?_|refine zvc ?_|refine ztS ?_|refine ztL ?_)
local macro_rules | `(tactic| walk_at"dr1")=>`(tactic| first|((with_reducible refine zfe (d:=?rvv) ?rvk ?_);(case rvk=>exact rfl)))
local macro_rules | `(tactic| walk_at"dr1")=>`(tactic| with_reducible first|refine zwQ ?_|refine zp1 ?_)
local macro_rules | `(tactic| walk_at"dr1")=>`(tactic| first|((with_reducible refine zri (g:=?rv1) (b:=?rv2) (f:=?rv3) (h:=?rv4) (a:=?rv5) (l:=?rv6) (d:=?rv7) ?rvk ?_);(case rvk=>walk_at"dat"))|((with_reducible refine zrw (g:=?rv1) (b:=?rv2) (f:=?rv3) (h:=?rv4) (a:=?rv5) (l:=?rv6) (d:=?rv7) ?rvk ?_);(case rvk=>walk_at"dat")))
local macro_rules | `(tactic| walk_at"dr1")=>`(tactic| first|((with_reducible refine zuE (l:=?rvx) ?rvk ?_);(case rvk=>walk_at"dat"))|((with_reducible refine zpc (g:=?rv1) (b:=?rv2) (f:=?rv3) (h:=?rv4) (a:=?rv5) (l:=?rv6) (d:=?rv7) ?rvk ?_);(case rvk=>walk_at"dat"))|((with_reducible refine zmA (g:=?rv1) (b:=?rv2) (f:=?rv3) (h:=?rv4) (a:=?rv5) (l:=?rv6) (d:=?rv7) ?rvk ?_);(case rvk=>walk_at"dat"))|((with_reducible refine zso (g:=?rv1) (b:=?rv2) (f:=?rv3) (h:=?rv4) (a:=?rv5) (l:=?rv6) (d:=?rv7) ?rvk ?_);(case rvk=>walk_at"dat"))|((with_reducible refine zsq (g:=?rv1) (b:=?rv2) (f:=?rv3) (h:=?rv4) (a:=?rv5) (l:=?rv6) (d:=?rv7) ?rvk ?_);(case rvk=>walk_at"dat")))
local macro_rules | `(tactic| walk_at"dr1")=>`(tactic| with_reducible first|refine zj1 ?_|refine zuk ?_|refine zrC ?_|refine zpn ?_|refine zq0 ?_|refine zuY ?_|refine zsV ?_|refine zpp ?_|refine zrH ?_|refine ztK ?_)
local macro_rules | `(tactic| walk_at"dr1")=>`(tactic| with_reducible first|refine zv6 ?_|refine k_drop ?_|refine zwN ?_|refine zwc ?_|refine zwq ?_|refine k_m ?_|refine zvA ?_|refine zvT ?_|refine zwG ?_|refine zwZ ?_|refine zwj ?_|refine zhC ?_)
local macro_rules | `(tactic| walk_at"dr1")=>`(tactic| with_reducible first|refine zwD ?_|refine zwL ?_|refine zvX ?_|refine zwp ?_|refine zvl ?_|refine zwP ?_|refine k_t ?_|refine zvF ?_|refine zvC ?_|refine zwk ?_|refine zwo ?_|refine zwm ?_)
local macro_rules | `(tactic| walk_at"g")=>`(tactic| repeat walk_at"dr1")
local macro_rules | `(tactic| walk_at"h")=>`(tactic| simp only[zdx,List.map_cons,List.map_nil,List.length_cons,List.length_nil,Nat.reduceSub,Nat.reduceAdd,List.replicate,List.cons_append,List.nil_append,List.set_cons_zero,List.set_cons_succ])
local macro_rules | `(tactic| walk_at"j")=>`(tactic| simp only[List.set_cons_zero,List.set_cons_succ])
namespace Dp
open PySem Rm My
def zbX:DSp:=λds S Q=>∃ (ns:List Int) (k:Nat),ds=[.rl (ns.map D.int),.int (k:Int)]/\Q (.int (ns.getD k 0)) S
abbrev gn0:DG:=zak 0
abbrev gn1:DG:=zak 1
abbrev gn2:DG:=zak 2
abbrev gn3:DG:=zak 3
abbrev gn4:DG:=zak 4
abbrev gn5:DG:=zak 5
abbrev gn6:DG:=zak 6
abbrev gn7:DG:=zak 7
abbrev gn8:DG:=zak 8
abbrev gn9:DG:=zak 9
abbrev zsg:DG:=zak 10
abbrev zsP:DG:=zak 11
abbrev zrA:DG:=zak 12
abbrev vr0:DE:=zaZ 0
abbrev vr1:DE:=zaZ 1
abbrev vr2:DE:=zaZ 2
abbrev vr3:DE:=zaZ 3
abbrev vr4:DE:=zaZ 4
abbrev vr5:DE:=zaZ 5
abbrev vr6:DE:=zaZ 6
abbrev vr7:DE:=zaZ 7
abbrev vr8:DE:=zaZ 8
abbrev vr9:DE:=zaZ 9
abbrev zsH:DE:=zaZ 10
abbrev ztd:DE:=zaZ 11
abbrev zwz:DE:=zaZ 12
abbrev ci0:DE:=dC (.int 0)
abbrev ci1:DE:=dC (.int 1)
abbrev ci2:DE:=dC (.int 2)
abbrev ci3:DE:=dC (.int 3)
abbrev ci4:DE:=dC (.int 4)
abbrev ci5:DE:=dC (.int 5)
abbrev ci6:DE:=dC (.int 6)
abbrev ci7:DE:=dC (.int 7)
abbrev ci8:DE:=dC (.int 8)
abbrev ci9:DE:=dC (.int 9)
abbrev zba:DE:=dOp oIx vr0 ci0
abbrev zbj:DE:=dOp oIx vr0 ci1
abbrev zdL:DE:=dOp oIx vr0 ci2
abbrev zdQ:DE:=dOp oIx vr0 ci3
abbrev ze9:DE:=dOp oIx vr0 ci4
abbrev ziS:DE:=dOp oIx vr0 ci5
abbrev zl6:DE:=dOp oIx vr0 ci6
abbrev zpl:DE:=dOp oIx vr0 ci7
abbrev zb0:DE:=dOp oIx vr1 ci0
abbrev zcF:DE:=dOp oIx vr1 ci1
abbrev zud:DE:=dOp oIx vr1 ci4
abbrev zut:DE:=dOp oIx vr1 ci5
abbrev zcd:DE:=dOp oIx vr2 ci0
abbrev zdM:DE:=dOp oIx vr2 ci1
abbrev zur:DE:=dOp oIx vr2 ci2
abbrev zem:DE:=dOp oIx vr3 ci0
abbrev zhm:DE:=dOp oIx vr3 ci1
abbrev zeL:DE:=dOp oIx vr4 ci0
abbrev zhi:DE:=dOp oIx vr4 ci1
abbrev zpv:DE:=dOp oIx vr5 ci0
abbrev zpo:DE:=dOp oIx vr5 ci1
abbrev zhD:DE:=dOp oIx vr7 ci0
abbrev zg9:DE:=dOp oIx vr7 ci1
abbrev ua0:DA:=zj vr0 zE
abbrev ua1:DA:=zj vr1 zE
abbrev ua2:DA:=zj vr2 zE
abbrev ua3:DA:=zj vr3 zE
abbrev ua4:DA:=zj vr4 zE
abbrev ua5:DA:=zj vr5 zE
abbrev ua6:DA:=zj vr6 zE
abbrev ua7:DA:=zj vr7 zE
abbrev ua9:DA:=zj vr9 zE
abbrev zha:DS :=
    (zA (sIf (dT (dOp oLt vr1 (dB za0 ua0))) (zT (dOp oIx vr0 vr1)) zZ)
 (zT ci0))
def zkh:BodyOk 2 zha zbX:=by
 rintro ds S Q ⟨ns,k,rfl,q⟩;unfold zha;walk_at"g";rw[List.length_map];refine r_d (λh=>?_) (λh=>?_)
 ·have hk:k<ns.length:=by lia
  have av:atD (ns.map D.int) (k:Int)=some (.int ns[k]):=zbw (by rw[List.getElem?_map,List.getElem?_eq_getElem hk];rfl);rw[List.getD_eq_getElem?_getD,List.getElem?_eq_getElem hk]at q;walk_at"g";exact fin_same q
 ·rw[List.getD_eq_getElem?_getD,List.getElem?_eq_none (by lia)]at q;walk_at"g";exact fin_same q
def zcm:DSp:=λds S Q=>∃ (ns:List Int) (st sz:Int),ds=[.rl (ns.map D.int),.int st,.int sz]/\ns.length<=63/\0<=st/\0<sz/\sz<60/\∀ zs:List Int,(zs.length:Int)=sz->New Q S (zs.map D.int)
abbrev zfH:DS :=
    (zA (zG (dLC 1 [] (zbP ua2) gn0 zbL (dOp zaf (dOp zac vr0 vr0) ci5)) gn3)
 (zA (zbg (zhf (zj vr1 (zj (dB za0 ua0) zE))) gn4 (zG (dOp zaf (dOp zac (dOp oIx vr3 (dOp oMod vr4 vr2)) ci3) (dOp oIx vr0 vr4)) (zgP vr3 (dOp oMod vr4 vr2))))
 (zT vr3)))
def ziL:BodyOk 5 zfH zcm:=by
 rintro ds S Q ⟨ns,st,sz,rfl,hl,s0,z0,z1,q⟩;unfold zfH;walk_at"g";refine⟨_,rfl,by lia,by lia,?_⟩;refine zbx (λ_=>true) (onI λk=>.int (k*k+5)) True.intro (by rw[zaK];unfold big;lia) (λi d ys hd hw=>?_) ?_
 ·obtain⟨hi,rfl⟩:=zbc hd;have cm:zaa (0+(i:Int)) (0+(i:Int)):=.inr (.inr (show _<2 ^ 64 by lia));walk_at"g";exact zcT hd hw rfl rfl
 rw[filter_true];obtain⟨t0,ht0,hl0⟩:∃ t0:List Int,(upto 0 sz.toNat).map (onI λk=>D.int (k*k+5))=t0.map D.int/\(t0.length:Int)=sz:=⟨(List.range sz.toNat).map λk:Nat=>(0+(k:Int))*(0+(k:Int))+5,by unfold upto;rw[List.map_map,List.map_map];rfl,by simp;lia⟩
 rw[ht0];walk_at"g";rw[List.length_map];walk_at"h";refine⟨_,_,rfl,?_⟩;refine zaL (λi Z S'=>∃ (zs:List Int) (w:Option D),S'=S++[.lst (zs.map D.int)]/\Z=[some (.rl (ns.map D.int)),some (.int st),some (.int sz),some (.ref S.length),w]/\(zs.length:Int)=sz) ⟨t0,none,rfl,rfl,hl0⟩ (λ_ _ _ _=>True.intro) ?_ ?_
 ·rintro i d Z S' hd ⟨zs,w,rfl,rfl,hzl⟩;obtain⟨hi,rfl⟩:=zbc hd;have r1:=Int.emod_nonneg (st+(i:Int)) (show sz≠0 by lia);have r2:=Int.emod_lt_of_pos (st+(i:Int)) z0;obtain⟨a,_,aa⟩:=zdu (zs:=zs) (k:=(st+(i:Int))%sz) r1 (by lia);obtain⟨b,_,ab⟩:=zdu (zs:=ns) (k:=st+(i:Int)) (by lia) (by lia);walk_at"g";refine zlW (n:=S.length) (xs:=zs.map D.int) zaV (zrE r1 (by lia)) (zhA ?_);walk_at"g";exact⟨zs.set ((st+(i:Int))%sz).toNat (a*3+b),_,by rw[List.map_set],rfl,by rw[List.length_set];exact hzl⟩
 rintro Z S' ⟨zs,w,rfl,rfl,hzl⟩;walk_at"g";exact fin_same (q zs hzl)
def zbF:DSp:=λds S Q=>∃ (c k:Int),ds=[.int c,.int k]/\0<=k/\k<3000/\∀ v,0<=v->v<2147483629->Q (.int v) S
abbrev zgw:DS :=
    (zA (zG (dOp oMod (dOp zac (dOp zaf (dOp zaf (dOp oMod vr0 (dC (.int 1000000007))) (dOp zac (dC (.int 7919)) vr1)) ci1) (dC (.int 48271))) (dC (.int 2147483647))) gn2)
 (zT (dOp oMod (dOp zac vr2 vr2) (dC (.int 2147483629)))))
def zjr:BodyOk 3 zgw zbF:=by rintro ds S Q ⟨c,k,rfl,h0,hk,q⟩;unfold zgw;have h1:=Int.emod_nonneg c (b:=1000000007) (by decide);have h2:=Int.emod_lt_of_pos c (b:=1000000007) (by decide);have cm1:zaa (c%1000000007+7919*k+1) 48271:=.inr (.inr (show(48271:Int).natAbs<2 ^ 64 by decide));have h3:=Int.emod_nonneg ((c%1000000007+7919*k+1)*48271) (b:=2147483647) (by decide);have h4:=Int.emod_lt_of_pos ((c%1000000007+7919*k+1)*48271) (b:=2147483647) (by decide);have cm2:zaa ((c%1000000007+7919*k+1)*48271%2147483647) ((c%1000000007+7919*k+1)*48271%2147483647):=.inr (.inr (show _<2 ^ 64 by lia));walk_at"g";exact fin_same (q _ (Int.emod_nonneg _ (by decide)) (Int.emod_lt_of_pos _ (by decide)))
def zsR (cs:List (Int×Int))(sc:Int):=∀ (i:Nat) a b,cs[i]?=some a->cs[i+1]?=some b->b.1-a.1<=4*sc
def zbN:DSp:=λds S Q=>∃ (x:D) (zs:List Int) (n sc:Int),ds=[x,.int n,.int sc]/\Lst S x (zs.map D.int)/\2<=n/\n<=12/\n<=zs.length/\1<=sc/\sc<=10 ^ 20/\∀ cs:List (Int×Int),Grd cs->(cs.length:Int)=n->zsR cs sc->New Q S (cs.map p2)
abbrev zee:DS :=
    (zA (zG (za6 zE) gn3)
 (zA (zG (dUn za8 (dC (.int 10))) gn4)
 (zA (zbg (zbP ua1) gn5 (zA (zG (dCall zbF (zj (dOp oIx vr0 vr5) ua5)) gn6)
 (zA (zaY (dM zbY vr3 (zj (dTup (zj (dOp zac vr4 vr2) (zj (dOp zac (dOp oMod (dOp oDiv vr6 ci8) ci9) vr2) zE))) zE)))
 (zG (dOp zaf (dOp zaf vr4 ci1) (dOp oMod (dOp oDiv vr6 (dC (.int 72))) ci4)) gn4))))
 (zT vr3))))
def zgD:BodyOk 7 zee zbN:=by
 rintro ds S Q ⟨x,zs,n,sc,rfl,hx,n2,n12,nz,sc1,sc2,q⟩;unfold zee;walk_at"g";refine⟨_,rfl,by lia,by lia,?_⟩;refine zaL (λi Z S'=>∃ (cs:List (Int×Int)) (u:Int) (w1 w2:Option D),S'=S++[.lst (cs.map p2)]/\Z=[some x,some (.int n),some (.int sc),some (.ref S.length),some (.int u),w1,w2]/\cs.length=i/\-10<=u/\u<=-10+4*(i:Int)/\(cs.Pairwise λa b=>a.1<b.1)/\zsR cs sc/\(∀ c∈cs,c.1<u*sc/\-(10*10 ^ 20)<=c.1/\0<=c.2/\c.2<=8*10 ^ 20)/\∀ z,cs[cs.length-1]?=some z->u*sc-z.1<=4*sc) ⟨[],-10,none,none,rfl,rfl,rfl,by lia,by lia,.nil,λi a b h=>by simp at h,by simp,λz h=>by simp at h⟩ (λ_ _ _ _=>True.intro) ?_ ?_
 ·rintro i d Z S' hd ⟨cs,u,w1,w2,rfl,rfl,hcl,u0,u1,hp,hn,hc,hz⟩;obtain⟨hi,rfl⟩:=zbc hd;have hx':Lst (S++[.lst (cs.map p2)]) x (zs.map D.int):=hx.old;obtain⟨z,_,az⟩:=zdu (zs:=zs) (k:=(0:Int)+(i:Int)) (by lia) (by lia);have hlim:(cs.map p2).length<big:=by rw[List.length_map];unfold big;lia
  walk_at"g";refine⟨z,_,rfl,by lia,by lia,λm m0 m1=>?_⟩;have h0:=Int.emod_nonneg (m/8) (show(9:Int)≠0 by decide);have h1:=Int.emod_lt_of_pos (m/8) (show(0:Int)<9 by decide);have cm1:zaa u sc:=.inr (.inl (show _<2 ^ 64 by lia));have cm2:zaa (m/8%9) sc:=.inr (.inl (show _<2 ^ 64 by lia));have k1:=Int.mul_nonneg h0 (show 0<=sc by lia)
  have k2:m/8%9*sc<=8*10 ^ 20:=by have:=Int.mul_le_mul (show m/8%9<=8 by lia) sc2 (by lia) (by decide);exact this
  have k3:-(10*10 ^ 20)<=u*sc:=by
   rcases Int.lt_or_le u 0 with g|g
   ·have:=Int.mul_le_mul (show -u<=10 by lia) sc2 (by lia) (by decide);rw[Int.neg_mul]at this;lia
   ·have:=Int.mul_nonneg g (show 0<=sc by lia);lia
  have v0:=Int.emod_nonneg (m/72) (show(4:Int)≠0 by decide);have v1:=Int.emod_lt_of_pos (m/72) (show(0:Int)<4 by decide);walk_at"g";generalize m/72%4=v at v0 v1 ⊢;generalize hh:m/8%9*sc=hgt at k1 k2 ⊢;have es:(u+1+v)*sc=u*sc+(1+v)*sc:=by grind
  have ks1:sc<=(1+v)*sc:=by have:=Int.mul_le_mul_of_nonneg_right (show 1<=1+v by lia) (show 0<=sc by lia);lia
  have ks2:(1+v)*sc<=4*sc:=Int.mul_le_mul_of_nonneg_right (by lia) (by lia);refine⟨cs++[(u*sc,hgt)],u+1+v,_,_,by rw[List.map_append];rfl,rfl,by simp[hcl],by lia,by lia,List.pairwise_append.mpr ⟨hp,List.pairwise_singleton _ _,λa ha b hb=>?_⟩,λj a b ha hb=>?_,λc hc'=>?_,λz' hz'=>?_⟩
  ·have:b=(u*sc,hgt):=by simpa using hb
   subst this;exact(hc a ha).1
  ·have lb:=zax hb;rw[List.length_append]at lb;have lb':j+1<cs.length+1:=lb;rcases Nat.lt_or_ge (j+1) cs.length with e|e
   ·rw[List.getElem?_append_left (by lia)]at ha hb;exact hn j a b ha hb
   ·have e1:j+1=cs.length:=by lia
    rw[List.getElem?_append_right (by lia),show j+1-cs.length=0 by lia]at hb;have:(u*sc,hgt)=b:=by simpa using hb
    subst this;rw[List.getElem?_append_left (by lia)]at ha;exact hz a (by rw[show cs.length-1=j by lia];exact ha)
  ·rcases List.mem_append.mp hc' with h|h
   ·have:=hc c h;exact⟨by lia,this.2.1,this.2.2.1,this.2.2.2⟩
   ·have:c=(u*sc,hgt):=by simpa using h
    subst this;exact⟨by show u*sc<_;lia,k3,k1,k2⟩
  ·rw[List.length_append,show cs.length+[(u*sc,hgt)].length-1=cs.length by simp,List.getElem?_append_right (Nat.le_refl _),Nat.sub_self]at hz';have:(u*sc,hgt)=z':=by simpa using hz'
   subst this;show(u+1+v)*sc-u*sc<=4*sc;lia
 ·rintro Z S' ⟨cs,u,w1,w2,rfl,rfl,hcl,u0,u1,hp,hn,hc,hz⟩;rw[zaK]at hcl u1;walk_at"g"
  have hus:u*sc<=40*10 ^ 20:=by
   rcases Int.lt_or_le u 0 with g|g
   ·have:=Int.mul_nonneg (show 0<=-u by lia) (show 0<=sc by lia);rw[Int.neg_mul]at this;lia
   ·exact Int.mul_le_mul (show u<=40 by lia) sc2 (by lia) (by decide)
  exact fin_same (q cs ⟨by lia,by lia,hp,λc hc'=>⟨by have:=hc c hc';show _<2 ^ 170;lia,by have:=hc c hc';show _<2 ^ 190;lia⟩⟩ (by lia) hn)
noncomputable def stemOf (b:Int):Str:=if b%4=0 then "" else if b%4=1 then "q" else if b%4=2 then "peak" else "hill"
noncomputable def za2 (b:Int) (k:Nat):Str:=stemOf b++⟨#[97+((b/4+7*(k:Int))%26).toNat]⟩
def zi6 (b:Int):(stemOf b).length<=4:=by
  unfold stemOf;split
  . decide +kernel
  . split
    . decide +kernel
    . split<;>decide +kernel
def zlj:∀ i:_root_.Fin 26,atS "abcdefghijklmnopqrstuvwxyz" ((i.val:Nat):Int)=some (97+i.val):=by decide +kernel
def zuH (b:Int)(k:Nat):fl 20 (.str (za2 b k))=true:=by
  show(stemOf b++(⟨#[97+((b/4+7*(k:Int))%26).toNat]⟩:Str)).cps.all (· < 0x110000)=true;show((stemOf b).cps++#[97+((b/4+7*(k:Int))%26).toNat]).all (· < 0x110000)=true;rw[Array.all_append,Bool.and_eq_true];refine⟨?_,?_⟩
  . unfold stemOf;split
    . decide +kernel
    . split
      . decide +kernel
      . split<;>decide +kernel
  . have:=Int.emod_lt_of_pos (b/4+7*(k:Int)) (show(0:Int)<26 by decide);simp;lia
def zcK:DSp:=λds S Q=>∃ b:Int,ds=[.int b]/\∀ g:Cell,Q (.ref (S.length+1)) (S++[g,.lst ((List.range 14).map λk=>.str (za2 b k))])
abbrev zgx:DS :=
    (zA (zG (dOp oIx (za6 (zj (dC (.str "")) (zj (dC (.str "q")) (zj (dC (.str "peak")) (zj (dC (.str "hill")) zE))))) (dOp oMod vr0 ci4)) gn1)
 (zT (dLC 1 [1,0] (zbP (zj (dC (.int 14)) zE)) gn0 zbL (dOp zaf vr1 (dOp oIx (dC (.str "abcdefghijklmnopqrstuvwxyz")) (dOp oMod (dOp zaf (dOp oDiv vr2 ci4) (dOp zac ci7 vr0)) (dC (.int 26))))))))
def zjd:BodyOk 2 zgx zcK:=by
  rintro ds S Q ⟨b,rfl,q⟩;unfold zgx;have hb:b%4=0\/b%4=1\/b%4=2\/b%4=3:=by lia
  have as:atD [.str "",.str "q",.str "peak",.str "hill"] (b%4)=some (.str (stemOf b)):=by unfold stemOf;rcases hb with e|e|e|e<;>rw[e]<;>rfl
  have sl:=zi6 b;walk_at"g";refine⟨_,rfl,by decide,by decide,?_⟩;refine zbx (λ_=>true) (onI λk=>.str (za2 b k.toNat)) True.intro (by rw[zaK];decide) (λi d ys hd hw=>?_) ?_
  . obtain⟨hi,rfl⟩:=zbc hd;have r1:=Int.emod_nonneg (b/4+7*(0+(i:Int))) (show(26:Int)≠0 by decide);have r2:=Int.emod_lt_of_pos (b/4+7*(0+(i:Int))) (show(0:Int)<26 by decide);walk_at"g";refine ztU (z:="abcdefghijklmnopqrstuvwxyz") (c:=97+((b/4+7*(0+(i:Int)))%26).toNat) (by decide +kernel) ?_ ?_
    . have:=zlj ⟨((b/4+7*(0+(i:Int)))%26).toNat,by lia⟩;rw[show((((b/4+7*(0+(i:Int)))%26).toNat:Nat):Int)=(b/4+7*(0+(i:Int)))%26 by lia]at this;exact this
    walk_at"g";refine zeb (by show(stemOf b).length+1<=big;unfold big;lia) ?_;refine zcT hd hw rfl ?_;show _=D.str (za2 b (0+(i:Int)).toNat);unfold za2;rw[show(((0+(i:Int)).toNat:Nat):Int)=0+(i:Int) by lia]
  rw[filter_true]
  have e:(upto 0 (14:Int).toNat).map (onI λk=>D.str (za2 b k.toNat))=(List.range 14).map λk=>D.str (za2 b k):=by
    unfold upto;rw[List.map_map];refine List.map_congr_left λk _=>?_
    show D.str (za2 b (0+(k:Int)).toNat)=_;rw[show(0+(k:Int)).toNat=k by lia]
  rw[e];walk_at"g";exact fin_same (q _)
def zdg:DSp:=λds S Q=>∃ (x:D) (cs:List (Int×Int)) (a:Int),ds=[x,.int a]/\Lst S x (cs.map p2)/\Grd cs/\Bd 180 a/\OnG cs (a,1)/\Q (.int (zcQ cs a)) S
abbrev zgX:DS :=
    (zA (zbg (zhf (zj ci1 (zj (dB za0 ua0) zE))) gn2 (zA (zG (dOp oIx vr0 (dOp zag vr2 ci1)) gn3)
 (zA (zG (dOp oIx vr0 vr2) gn4)
 (sIf (zeu (dT (dOp oLe zem vr1)) (dT (dOp oLe vr1 zeL))) (zA (zG (dOp zac (dOp zag zhi zhm) (dOp zag vr1 zem)) gn5)
 (zT (dOp zag zhm (dOp oDiv (dUn za8 vr5) (dOp zag zeL zem))))) zZ))))
 (zT (dC .non)))
def zkj:BodyOk 6 zgX zdg:=by
 rintro ds S Q ⟨x,cs,a,rfl,hx,gr,ba,on,q⟩;unfold zgX;have g1:=gr.two;obtain⟨kk,l,r,hkl,hkr,hle,hlt⟩:=zhr gr.two on.2;have seg:=seg_at hkl hkr hle hlt;have hle':a<=r.1:=by have:a<=r.1*1:=hle;lia
 have hab:=zdo gr (show kk<kk+1 by lia) hkl hkr
 have hlo:l.1<=a:=by
  cases kk with
  |zero =>obtain⟨f,hf,ef⟩:=zcz gr;have h:=on.1;rw[ef]at h;rw[hkl]at hf;cases hf;have:l.1*1<=a:=h;lia
  |succ j =>have:=hlt (j+1) l (by lia) (by lia) hkl;have:l.1*1<a:=this;lia
 have q':Q (.int (l.2-(-((r.2-l.2)*(a-l.1)))/(r.1-l.1))) S:=by
  have e:l.2-(-((r.2-l.2)*(a-l.1)))/(r.1-l.1)=zcQ cs a:=by
   unfold zcQ;rw[seg];unfold zdk hvT hvB;dsimp only;rw[if_pos (by lia),if_pos (by lia),Int.mul_one,Int.mul_one,Int.mul_one];have e2:-(l.2*(r.1-l.1)+(r.2-l.2)*(a-l.1))=-((r.2-l.2)*(a-l.1))+(-l.2)*(r.1-l.1):=by grind
   rw[e2,Int.add_mul_ediv_right _ _ (by lia)];lia
  rw[e];exact q
 walk_at"g";rw[List.length_map];refine⟨_,_,rfl,?_⟩;refine zaL (λi Z S'=>S'=S/\(∃ w2 w3 w4 w5:Option D,Z=[some x,some (.int a),w2,w3,w4,w5])/\i<=kk) ⟨rfl,⟨none,none,none,none,rfl⟩,by lia⟩ (λ_ _ _ _=>True.intro) ?_ ?_
 ·rintro i d Z S' hd ⟨rfl,⟨w2,w3,w4,w5,rfl⟩,hik⟩;obtain⟨hi,rfl⟩:=zbc hd;obtain⟨b,hb,ab⟩:=zeS (cs:=cs) (k:=1+(i:Int)-1) (by lia) (by lia);obtain⟨c,hc,ac⟩:=zeS (cs:=cs) (k:=1+(i:Int)) (by lia) (by lia);rw[show(1+(i:Int)-1).toNat=i by lia]at hb;rw[show(1+(i:Int)).toNat=i+1 by lia]at hc;have hbc:=zdo gr (show i<i+1 by lia) hb hc;obtain⟨bb1,bb2⟩:=gr.bd b (List.mem_of_getElem? hb);obtain⟨bc1,bc2⟩:=gr.bd c (List.mem_of_getElem? hc);have cm:zaa (c.2-b.2) (a-b.1):=.inl ⟨(Bd.sub bc2 bb2).mono (by decide),(Bd.sub ba (bb1.mono (by decide))).mono (by decide)⟩;have dv:0<c.1-b.1/\Bd 8000 (c.1-b.1):=⟨by lia,(Bd.sub bc1 bb1).mono (by decide)⟩
  walk_at"g";refine r_d (λh1=>?_) (λh1=>?_)
  ·walk_at"g";refine r_d (λh2=>?_) (λh2=>?_)
   ·have e:i=kk:=by
     rcases Nat.lt_or_ge i kk with z|z
     ·have:=hlt (i+1) c (by lia) (by lia) hc;have:c.1*1<a:=this;lia
     ·lia
    subst e;rw[hkl]at hb;cases hb;rw[hkr]at hc;cases hc;walk_at"g";exact fin_same q'
   ·walk_at"g";refine⟨rfl,⟨_,_,_,_,rfl⟩,?_⟩;rcases Nat.lt_or_ge i kk with z|z
    ·lia
    ·have:i=kk:=by lia
     subst this;rw[hkr]at hc;cases hc;lia
  ·exfalso;rcases Nat.lt_or_ge i kk with z|z
   ·rcases Nat.eq_zero_or_pos i with e|e
    ·subst e;obtain⟨f,hf,ef⟩:=zcz gr;rw[hb]at hf;cases hf;have h:=on.1;rw[ef]at h;have:b.1*1<=a:=h;lia
    ·have:=hlt i b e (by lia) hb;have:b.1*1<a:=this;lia
   ·have:i=kk:=by lia
    subst this;rw[hkl]at hb;cases hb;lia
 ·rintro Z S' ⟨rfl,_,hik⟩;rw[zaK]at hik;have:=zax hkr;lia
def zcn:DSp:=λds S Q=>∃ (c k:Int) (x:D) (cs:List (Int×Int)) (sc:Int) (nm:Str),ds=[.int c,.int k,x,.int sc,.str nm]/\Lst S x (cs.map p2)/\Grd cs/\0<=k/\k<100/\1<=sc/\sc<=10 ^ 20/\fl 20 (.str nm)=true/\∀ s:Int×Int,Bd 175 s.1->Bd 195 s.2->zcv cs s->Q (bcD (nm,s)) S
abbrev zfL:DS :=
    (zA (zG (dCall zbF (zj vr0 (zj (dOp zaf vr1 (dC (.int 20))) zE))) gn5)
 (zA (zG (dOp oDiv (dOp zag (dOp oIx (dOp oIx vr2 (dUn za8 ci1)) ci0) (dOp oIx zcd ci0)) vr3) gn6)
 (zA (zG (dOp zaf (dOp oIx zcd ci0) (dOp zac (dOp oMod vr5 (dOp zaf vr6 ci1)) vr3)) gn7)
 (zT (dTup (zj vr4 (zj vr7 (zj (dOp zaf (dCall zdg (zj vr2 ua7)) (dOp zac (dOp oIx (za6 (zj ci0 (zj ci1 (zj ci1 (zj ci2 (zj ci4 (zj ci7 zE))))))) (dOp oMod (dOp oDiv vr5 (dC (.int 50))) ci6)) vr3)) zE))))))))
def ziK:BodyOk 8 zfL zcn:=by
  rintro ds S Q ⟨c,k,x,cs,sc,nm,rfl,hx,gr,k0,k1,sc1,sc2,hnm,q⟩;unfold zfL;obtain⟨f,hf,ef⟩:=zcz gr;obtain⟨lc,hlc,elc,alc⟩:=zoI gr;have af:atD (cs.map p2) 0=some (p2 f):=zbw (i:=0) (by rw[List.getElem?_map,hf];rfl);have bf:=(gr.bd f (List.mem_of_getElem? hf)).1;have bl:=(gr.bd lc (List.mem_of_getElem? hlc)).1;have g1:=gr.two;have hfl:=zdo gr (show 0<cs.length-1 by lia) hf hlc;walk_at"g";refine⟨c,_,rfl,by lia,by lia,λm m0 m1=>?_⟩
  have dv:0<sc/\Bd 8000 sc:=⟨by lia,by
    have:Bd 200 sc:=by show _<2 ^ 200;lia
    exact this.mono (by decide)⟩
  have w0:0<=(lc.1-f.1)/sc:=Int.ediv_nonneg (by lia) (by lia);have w1:=Int.ediv_mul_le (lc.1-f.1) (b:=sc) (by lia);have v0:=Int.emod_nonneg m (show(lc.1-f.1)/sc+1≠0 by lia);have v1:=Int.emod_lt_of_pos m (show 0<(lc.1-f.1)/sc+1 by lia)
  have v2:m%((lc.1-f.1)/sc+1)<=m:=by have h1:=Int.mul_ediv_add_emod m ((lc.1-f.1)/sc+1);have h2:=Int.mul_nonneg (show 0<=(lc.1-f.1)/sc+1 by lia) (Int.ediv_nonneg m0 (show 0<=(lc.1-f.1)/sc+1 by lia));lia
  have cm1:zaa (m%((lc.1-f.1)/sc+1)) sc:=.inr (.inl (show _<2 ^ 64 by lia));have x0:=Int.mul_nonneg v0 (show 0<=sc by lia);have x1:m%((lc.1-f.1)/sc+1)*sc<=lc.1-f.1:=Int.le_trans (Int.mul_le_mul_of_nonneg_right (by lia) (by lia)) w1;walk_at"g";generalize m%((lc.1-f.1)/sc+1)*sc=d at x0 x1;have on:OnG cs (f.1+d,1):=⟨by rw[ef];show f.1*1<=f.1+d;lia,by rw[elc];show f.1+d<=lc.1*1;lia⟩
  have bx:Bd 171 (f.1+d):=(Bd.btw (n:=170) bf bl (by lia) (by lia)).mono (by decide);refine⟨x,cs,f.1+d,rfl,hx,gr,bx.mono (by decide),on,?_⟩;have bF:=zop gr on;have r1:=Int.emod_nonneg (m/50) (show(6:Int)≠0 by decide);have r2:=Int.emod_lt_of_pos (m/50) (show(0:Int)<6 by decide);obtain⟨u,hu,au⟩:=zdu (zs:=[0,1,1,2,4,7]) (k:=m/50%6) r1 (by show _<(6:Int);exact r2)
  have u0:0<=u/\u<=7:=by simp only[List.mem_cons,List.not_mem_nil,or_false]at hu;rcases hu with rfl|rfl|rfl|rfl|rfl|rfl<;>lia
  clear hu;have cm2:zaa u sc:=.inr (.inl (show _<2 ^ 64 by lia));have t0:=Int.mul_nonneg u0.1 (show 0<=sc by lia);have t1:u*sc<=7*10 ^ 20:=Int.mul_le_mul u0.2 sc2 (by lia) (by decide);walk_at"g";refine zau ?_ (q (f.1+d,zcQ cs (f.1+d)+u*sc) (bx.mono (by decide)) ((Bd.add bF (by show _<2 ^ 192;lia)).mono (by decide)) ((zoQ gr (s:=(f.1+d,zcQ cs (f.1+d)+u*sc)) on).mpr (by show zcQ cs (f.1+d)<=zcQ cs (f.1+d)+u*sc;lia)));show(fl 19 (.str nm)&&true)=true;rw[Bool.and_true];exact hnm
def zdN:DSp:=λds S Q=>∃ (c k:Int) (x:D) (cs:List (Int×Int)) (sc h0 h1:Int),ds=[.int c,.int k,x,.int sc,.tup [.int h0,.int h1]]/\Lst S x (cs.map p2)/\Grd cs/\0<=k/\k<100/\1<=sc/\sc<=10 ^ 20/\h0<=h1/\Bd 150 h0/\Bd 150 h1/\∀ F:Fg,FgV F->FgN F->Q (fgD F) S
abbrev zij:DS :=
    (zA (zG (dCall zbF (zj vr0 (zj (dOp zaf vr1 (dC (.int 40))) zE))) gn5)
 (zA (zG (dOp zaf (dOp oIx zcd ci0) (dOp zac (dOp zag (dOp oMod vr5 (dC (.int 14))) ci2) vr3)) gn6)
 (zA (zG (dOp zac (dOp zag (dOp oMod (dOp oDiv vr5 (dC (.int 14))) (dC (.int 14))) ci3) vr3) gn7)
 (zA (zG (dOp zaf (dOp zag zeL ci3) (dOp oMod (dOp oDiv vr5 (dC (.int 196))) (dOp zaf (dOp zag zhi zeL) ci5))) gn8)
 (zA (zG (dOp zac (dOp oMod (dOp oDiv vr5 (dC (.int 3000))) ci4) vr3) gn9)
 (zA (zG (dOp zac (dOp oMod (dOp oDiv vr5 (dC (.int 12000))) ci4) vr3) zsg)
 (zA (zG (dOp zac (dOp zag (dOp oMod (dOp oDiv vr5 (dC (.int 48000))) ci5) ci2) vr3) zsP)
 (zT (dTup (zj vr6 (zj (dOp zaf vr6 vr9) (zj vr7 (zj (dOp zaf vr7 zsH) (zj vr8 (zj (dOp zaf vr8 (dOp oMod (dOp oDiv vr5 (dC (.int 240000))) ci9)) (zj ztd (zj (dOp zac (dOp zag (dOp oMod (dOp oDiv vr5 (dC (.int 2160000))) ci3) ci1) vr3) zE)))))))))))))))))
def zlX:BodyOk 12 zij zdN:=by
 rintro ds S Q ⟨c,k,x,cs,sc,h0,h1,rfl,hx,gr,k0,k1,sc1,sc2,hh,bh0,bh1,q⟩;unfold zij;obtain⟨f,hf,ef⟩:=zcz gr;have af:atD (cs.map p2) 0=some (p2 f):=zbw (i:=0) (by rw[List.getElem?_map,hf];rfl);have bf:=(gr.bd f (List.mem_of_getElem? hf)).1;walk_at"g";refine⟨c,_,rfl,by lia,by lia,λm m0 m1=>?_⟩;have cm:∀ u:Int,u.natAbs<2 ^ 64->zaa u sc:=λu h=>.inr (.inl h)
 have c1:=cm (m%14-2) (by lia);have c2:=cm (m/14%14-3) (by lia);have c3:=cm (m/3000%4) (by lia);have c4:=cm (m/12000%4) (by lia);have c5:=cm (m/48000%5-2) (by lia);have c6:=cm (m/2160000%3-1) (by lia);have hm:0<h1-h0+5:=by lia
 have w1:=Int.mul_nonneg (show 0<=m/3000%4 by lia) (show 0<=sc by lia);have w2:=Int.mul_nonneg (show 0<=m/12000%4 by lia) (show 0<=sc by lia)
 have sb:∀ {u:Int},-100<=u->u<=100->Bd 190 (u*sc):=λ{u} h1 h2=>by show(u*sc).natAbs<2 ^ 190;rw[Int.natAbs_mul];exact Nat.lt_of_le_of_lt (Nat.mul_le_mul (show u.natAbs<=100 by lia) (show sc.natAbs<=10 ^ 20 by lia)) (by decide)
 have b1:Bd 190 ((m%14-2)*sc):=sb (by lia) (by lia);have b2:Bd 190 ((m/14%14-3)*sc):=sb (by lia) (by lia);have b3:Bd 190 (m/3000%4*sc):=sb (by lia) (by lia);have b4:Bd 190 (m/12000%4*sc):=sb (by lia) (by lia);have b5:Bd 190 ((m/48000%5-2)*sc):=sb (by lia) (by lia);have b6:Bd 190 ((m/2160000%3-1)*sc):=sb (by lia) (by lia);walk_at"g";have r0:=Int.emod_nonneg (m/196) (show h1-h0+5≠0 by lia);have r1:=Int.emod_lt_of_pos (m/196) hm
 have bl:Bd 300 (h0-3+m/196%(h1-h0+5)):=by
  have:Bd 201 (h0-3+m/196%(h1-h0+5)):=by unfold Bd at bh0 bh1 ⊢;lia
  exact this.mono (by decide)
 have b7:Bd 152 (h0-3+m/196%(h1-h0+5)):=by unfold Bd at bh0 bh1 ⊢;lia
 have b8:Bd 153 (h0-3+m/196%(h1-h0+5)+m/240000%9):=by unfold Bd at bh0 bh1 ⊢;lia
 have bl0:Bd 191 (f.1+(m%14-2)*sc):=Bd.add (bf.mono (by decide)) b1;have bl1:Bd 192 (f.1+(m%14-2)*sc+m/3000%4*sc):=Bd.add bl0 (b3.mono (by decide));have bl2:Bd 191 ((m/14%14-3)*sc+m/12000%4*sc):=Bd.add b2 b4;exact fin_same (q ⟨f.1+(m%14-2)*sc,f.1+(m%14-2)*sc+m/3000%4*sc,(m/14%14-3)*sc,(m/14%14-3)*sc+m/12000%4*sc,h0-3+m/196%(h1-h0+5),h0-3+m/196%(h1-h0+5)+m/240000%9,(m/48000%5-2)*sc,(m/2160000%3-1)*sc⟩ ⟨⟨by dsimp only;lia,by dsimp only;lia,bl0.mono (by decide),bl1.mono (by decide),b2.mono (by decide),bl2.mono (by decide),b5.mono (by decide),b6.mono (by decide)⟩,by dsimp only;lia,b7.mono (by decide),b8.mono (by decide)⟩ ⟨bl0.mono (by decide),bl1.mono (by decide),b2.mono (by decide),bl2.mono (by decide),b7.mono (by decide),b8.mono (by decide),b5.mono (by decide),b6.mono (by decide)⟩)
noncomputable def scl (c:Int):Int:=if c%3=2 then 10 ^ 20 else 1
def ztu (c:Int):1<=scl c/\scl c<=10 ^ 20:=by unfold scl;split<;>decide
def zst (c:Int):atD [.int 1,.int 1,.int 100000000000000000000] (c%3)=some (.int (scl c)):=by
  have h:c%3=0\/c%3=1\/c%3=2:=by lia
  unfold scl;rcases h with e|e|e<;>rw[e]<;>rfl
def zei (b:Int)(k:Nat):(za2 b k).cps.toList=(stemOf b).cps.toList++[97+((b/4+7*(k:Int))%26).toNat]:=by show((stemOf b).cps++#[97+((b/4+7*(k:Int))%26).toNat]).toList=_;simp
def znW (b:Int):∀ c∈(stemOf b).cps.toList,c∈abc:=by
  unfold stemOf;split
  . decide +kernel
  . split
    . decide +kernel
    . split<;>decide +kernel
def zqK (b:Int)(k:Nat):nmB (za2 b k)=true:=by
 have h1:=zi6 b
 have e:(za2 b k).length=(stemOf b).length+1:=by show((stemOf b).cps++#[97+((b/4+7*(k:Int))%26).toNat]).size=(stemOf b).cps.size+1;simp
 rw[zgh,e];refine⟨by lia,by lia,λc hc=>?_⟩;rw[zei]at hc;rcases List.mem_append.mp hc with hc|hc
 ·exact znW b c hc
 ·rw[List.mem_singleton.mp hc];exact zhT.mpr (by lia)
def zof {b:Int}{i j:Nat}(hi:i<14)(hj:j<14)(e:za2 b i=za2 b j):i=j:=by
 have h:(za2 b i).cps.toList=(za2 b j).cps.toList:=congrArg (λz:Str=>z.cps.toList) e;rw[zei,zei]at h;have h2:=List.append_cancel_left h;have h3:97+((b/4+7*(i:Int))%26).toNat=97+((b/4+7*(j:Int))%26).toNat:=by simpa using h2
 omega
def zoz (b:Int)(k:Nat):za2 b k≠"zzz":=λe=>by
 have h1:(za2 b k).cps.toList.length=("zzz":Str).cps.toList.length:=by rw[e]
 rw[zei,List.length_append]at h1;have h2:("zzz":Str).cps.toList.length=3:=by decide +kernel
 have h3:(stemOf b).cps.toList.length=0\/(stemOf b).cps.toList.length=1\/(stemOf b).cps.toList.length=4:=by
  unfold stemOf;split
  ·exact .inl (by decide +kernel)
  ·split
   ·exact .inr (.inl (by decide +kernel))
   ·split
    ·exact .inr (.inr (by decide +kernel))
    ·exact .inr (.inr (by decide +kernel))
 rw[h2,List.length_singleton]at h1;lia
def zcU:DSp:=λds S Q=>∃ (ns:List Int),ds=[.rl (ns.map D.int)]/\ns.length<=63/\∀ (T:Sto) (x y z:D) (V:Vl),VlN V->V.bs.length<=6->V.fs.length<=4->V.h1<=V.h0+11->(∀ b∈V.bs,b.1≠"zzz")->VlS (S++T) x y z V->Q (vlD x y z V) (S++T)
abbrev zgy:DS :=
    (zA (zG (dCall zbX (zj vr0 (zj ci0 zE))) gn1)
 (zA (zG (dCall zbX (zj vr0 (zj ci1 zE))) gn2)
 (zA (zG (dCall zbX (zj vr0 (zj ci2 zE))) gn3)
 (zA (zG (dCall zcm (zj vr0 (zj ci3 (zj (dC (.int 18)) zE)))) gn4)
 (zA (zG (dOp oIx (za6 (zj ci1 (zj ci1 (zj (dC (.int 100000000000000000000)) zE)))) (dOp oMod vr1 ci3)) gn5)
 (zA (zG (dOp oIx (za6 (zj ci0 (zj ci7 (zj (dUn za8 (dC (.int 1000000000000000000000000000000))) zE)))) (dOp oMod (dOp oDiv vr1 ci3) ci3)) gn6)
 (zA (zG (dTup (zj vr6 (zj (dOp zaf vr6 (dOp oMod (dOp oDiv vr1 ci9) (dC (.int 12)))) zE))) gn7)
 (zA (zG (dCall zbN (zj vr4 (zj (dOp zaf ci3 (dOp oMod (dOp oDiv vr1 (dC (.int 540))) ci6)) ua5))) gn8)
 (zA (zG (dCall zcK (zj (dOp oDiv vr2 (dC (.int 30))) zE)) gn9)
 (zA (zG (dLC 1 [4,8,5,9] (zbP (zj (dOp zaf ci1 (dOp oMod vr2 ci6)) zE)) gn0 zbL (dCall zcn (zj (dOp oIx vr1 (dOp zaf ci8 vr0)) (zj vr0 (zj vr2 (zj vr3 (zj (dOp oIx vr4 vr0) zE))))))) zsg)
 (zA (zG (dLC 1 [4,8,5,7] (zbP (zj (dOp oMod (dOp oDiv vr2 ci6) ci5) zE)) gn0 zbL (dCall zdN (zj (dOp oIx vr1 (dOp zaf (dC (.int 14)) (dOp oMod vr0 ci4))) (zj vr0 (zj vr2 (zj vr3 ua4)))))) zsP)
 (zA (zG (dC .non) zrA)
 (zA (sJ (sIf (dT (dOp oEq (dOp oMod vr3 ci2) ci1)) (zG (dOp zac (dOp zac (dOp oMod (dOp oDiv vr3 ci2) (dC (.int 25))) vr5) (dOp zac (dOp oMod (dOp oDiv vr3 ci2) (dC (.int 25))) vr5)) zrA) zZ))
 (zT (dTup (zj vr8 (zj zsH (zj ztd (zj zwz (zj zhD (zj zg9 (zj (dOp oIx (za6 (zj ci0 (zj ci1 (zj ci1 (zj ci2 (zj ci5 zE)))))) (dOp oMod (dOp oDiv vr1 (dC (.int 108))) ci5)) zE))))))))))))))))))))))
def zi9:BodyOk 13 zgy zcU:=by
  rintro ds S Q ⟨ns,rfl,hl,q⟩;unfold zgy;walk_at"g";refine⟨ns,0,rfl,?_⟩;walk_at"g";refine⟨ns,1,rfl,?_⟩;walk_at"g";refine⟨ns,2,rfl,?_⟩;obtain⟨sb1,sb2⟩:=ztu (ns.getD 0 0);have asc:=zst (ns.getD 0 0);generalize hsc:scl (ns.getD 0 0)=sc at sb1 sb2 asc q;generalize ns.getD 0 0=c0 at asc;generalize ns.getD 1 0=c1;generalize ns.getD 2 0=c2;walk_at"g";refine⟨ns,_,_,rfl,hl,by decide,by decide,by decide,λcells hcl=>?_⟩;have r1:=Int.emod_nonneg (c0/3) (show(3:Int)≠0 by decide);have r2:=Int.emod_lt_of_pos (c0/3) (show(0:Int)<3 by decide);obtain⟨fh,mfh,afh⟩:=zdu (zs:=[0,7,-1000000000000000000000000000000]) (k:=c0/3%3) r1 (by show _<(3:Int);exact r2)
  have bfh:Bd 150 fh/\Bd 150 (fh+c0/9%12):=by
    have:fh=0\/fh=7\/fh=-1000000000000000000000000000000:=by simpa using mfh
    have h9:0<=c0/9%12/\c0/9%12<12:=by lia
    constructor
    . show fh.natAbs<2 ^ 150;rcases this with rfl|rfl|rfl<;>decide
    . show(fh+c0/9%12).natAbs<2 ^ 150;have:(2:Nat) ^ 150=1427247692705959881058285969449495136382746624:=by decide
      rw[this];lia
  walk_at"g";walk_at"h";obtain⟨Sg,hSg⟩:∃ Sg:Sto,Sg=S++[Cell.lst (cells.map D.int),.lst [.int 1,.int 1,.int 100000000000000000000],.lst [.int 0,.int 7,.int (-1000000000000000000000000000000)]]:=⟨_,rfl⟩
  have kg:Lst Sg (.ref S.length) (cells.map D.int):=hSg▸Lst.at0;rw[<- hSg];refine⟨_,cells,_,sc,rfl,kg,by lia,by lia,by lia,sb1,sb2,λcs gr hcn near=>?_⟩;have g9:cs.length<=9:=by lia
  unfold New;obtain⟨S1,hS1⟩:∃ S1:Sto,S1=Sg++[.lst (cs.map p2)]:=⟨_,rfl⟩
  have kc:Lst S1 (.ref Sg.length) (cs.map p2):=hS1▸Lst.at0;have kg1:Lst S1 (.ref S.length) (cells.map D.int):=hS1▸kg.old;rw[<- hS1];walk_at"g";refine⟨_,rfl,λgb=>?_⟩;obtain⟨S2,hS2⟩:∃ S2:Sto,S2=S1++[gb,.lst ((List.range 14).map λk=>.str (za2 (c1/30) k))]:=⟨_,rfl⟩
  have kn:Lst S2 (.ref (S1.length+1)) ((List.range 14).map λk=>.str (za2 (c1/30) k)):=hS2▸Lst.at rfl;have kc2:Lst S2 (.ref Sg.length) (cs.map p2):=hS2▸kc.old;have kg2:Lst S2 (.ref S.length) (cells.map D.int):=hS2▸kg1.old;rw[<- hS2];have b0:=Int.emod_nonneg c1 (show(6:Int)≠0 by decide);have b1:=Int.emod_lt_of_pos c1 (show(0:Int)<6 by decide);walk_at"g";refine⟨_,rfl,by lia,by lia,?_⟩;refine zmf (λi ys S'=>S'=S2/\∃ bs:List (Str×(Int×Int)),ys=bs.map bcD/\bs.length=i/\(∀ b∈bs,zcv cs b.2/\Bd 175 b.2.1/\Bd 195 b.2.2)/\∀ (j:Nat) b,bs[j]?=some b->b.1=za2 (c1/30) j) ⟨rfl,[],rfl,rfl,by simp,λj b h=>by simp at h⟩ (λ_ _ _ _=>True.intro) (by rw[zaK];unfold big;lia) ?_ ?_
  . rintro i d ys S' hd ⟨rfl,bs,rfl,hbl,hbs,hnm⟩;obtain⟨hi,rfl⟩:=zbc hd;obtain⟨v,_,av⟩:=zdu (zs:=cells) (k:=8+(0+(i:Int))) (by lia) (by lia)
    have an:atD ((List.range 14).map λk=>D.str (za2 (c1/30) k)) (0+(i:Int))=some (.str (za2 (c1/30) i)):=by rw[show(0:Int)+(i:Int)=(i:Int) by lia];exact zbw (by rw[List.getElem?_map,List.getElem?_range (by lia)];rfl)
    walk_at"g";refine⟨v,_,_,cs,sc,_,rfl,kc2,gr,by lia,by lia,sb1,sb2,zuH _ _,λs s1 s2 ss=>?_⟩;walk_at"g";refine⟨rfl,bs++[(za2 (c1/30) i,s)],by rw[List.map_append];rfl,by simp[hbl],λb hb=>?_,λj b hb=>?_⟩
    . rcases List.mem_append.mp hb with h|h
      . exact hbs b h
      . have:b=(za2 (c1/30) i,s):=by simpa using h
        subst this;exact⟨ss,s1,s2⟩
    . rcases Nat.lt_or_ge j bs.length with g|g
      . rw[List.getElem?_append_left g]at hb;exact hnm j b hb
      . have lj:=zax hb;rw[List.length_append]at lj;have ej:j=bs.length:=by simp at lj;lia
        subst ej;rw[List.getElem?_append_right (Nat.le_refl _),Nat.sub_self]at hb;have:(za2 (c1/30) i,s)=b:=by simpa using hb
        rw[<- this,hbl]
  rintro ys S' ⟨rfl,bs,rfl,hbl,hbs,hnm⟩;rw[zaK]at hbl;unfold New;obtain⟨S3,hS3⟩:∃ S3:Sto,S3=S'++[.lst (bs.map bcD)]:=⟨_,rfl⟩
  have kb:Lst S3 (.ref S'.length) (bs.map bcD):=hS3▸Lst.at0;have kc3:Lst S3 (.ref Sg.length) (cs.map p2):=hS3▸kc2.old;have kg3:Lst S3 (.ref S.length) (cells.map D.int):=hS3▸kg2.old;rw[<- hS3];walk_at"g";refine⟨_,rfl,by lia,by lia,?_⟩;refine zmf (λi ys S'=>S'=S3/\∃ fs:List Fg,ys=fs.map fgD/\fs.length=i/\∀ F∈fs,FgV F/\FgN F) ⟨rfl,[],rfl,rfl,by simp⟩ (λ_ _ _ _=>True.intro) (by rw[zaK];unfold big;lia) ?_ ?_
  . rintro i d ys S'' hd ⟨rfl,fs,rfl,hfl,hfs⟩;obtain⟨hi,rfl⟩:=zbc hd;obtain⟨v,_,av⟩:=zdu (zs:=cells) (k:=14+(0+(i:Int))%4) (by lia) (by lia);walk_at"g";refine⟨v,_,_,cs,sc,fh,_,rfl,kc3,gr,by lia,by lia,sb1,sb2,by lia,bfh.1,bfh.2,λF hF hN=>?_⟩;walk_at"g";refine⟨rfl,fs++[F],by rw[List.map_append];rfl,by simp[hfl],λG hG=>?_⟩;rcases List.mem_append.mp hG with h|h
    . exact hfs G h
    . rw[List.mem_singleton.mp h];exact⟨hF,hN⟩
  rintro fsD S'' ⟨rfl,fs,rfl,hfl,hfs⟩;rw[zaK]at hfl;unfold New;obtain⟨S4,hS4⟩:∃ S4:Sto,S4=S''++[.lst (fs.map fgD)]:=⟨_,rfl⟩
  have kf:Lst S4 (.ref S''.length) (fs.map fgD):=hS4▸Lst.at0;have kb4:Lst S4 (.ref S'.length) (bs.map bcD):=hS4▸kb.old;have kc4:Lst S4 (.ref Sg.length) (cs.map p2):=hS4▸kc3.old;have e4:∃ T,S4=S++T:=zeF (zeF (zeF (zeF ⟨_,hSg⟩ hS1) hS2) hS3) hS4;rw[<- hS4];clear hS4 hS3 hS2 hS1 hSg;have h25:∀ u:Int,u.natAbs<2 ^ 60->zaa u sc:=λu h=>.inr (.inl (by lia))
  have cm1:=h25 (c2/2%25) (by lia)
  have bz:Bd 80 (c2/2%25*sc):=by have t0:=Int.mul_nonneg (show 0<=c2/2%25 by lia) (show 0<=sc by lia);have t1:c2/2%25*sc<=25*10 ^ 20:=Int.mul_le_mul (by lia) sb2 (by lia) (by decide);show _<2 ^ 80;lia
  have cm2:zaa (c2/2%25*sc) (c2/2%25*sc):=.inl ⟨bz.mono (by decide),bz.mono (by decide)⟩;obtain⟨T4,rfl⟩:=e4;have d1:=Int.emod_nonneg (c0/108) (show(5:Int)≠0 by decide);have d2:=Int.emod_lt_of_pos (c0/108) (show(0:Int)<5 by decide);obtain⟨dl,mdl,adl⟩:=zdu (zs:=[0,1,1,2,5]) (k:=c0/108%5) d1 (by show _<(5:Int);exact d2)
  have hdl:0<=dl/\dl<=5:=by
    have:dl=0\/dl=1\/dl=1\/dl=2\/dl=5:=by simpa using mdl
    lia
  have bnd:(bs.map (·.1)).Nodup:=by
    refine List.pairwise_iff_getElem.mpr λi j hi hj hij e=>?_
    rw[List.length_map]at hi hj;rw[List.getElem_map,List.getElem_map]at e;rw[hnm i _ (List.getElem?_eq_getElem hi),hnm j _ (List.getElem?_eq_getElem hj)]at e;have:=zof (by lia) (by lia) e;lia
  have bzz:∀ b∈bs,b.1≠"zzz":=λb hb=>by obtain⟨j,hj,ej⟩:=List.mem_iff_getElem.mp hb;rw[hnm j b (by rw[List.getElem?_eq_getElem hj,ej])];exact zoz _ _
  have bnm:∀ b∈bs,nmB b.1=true:=λb hb=>by obtain⟨j,hj,ej⟩:=List.mem_iff_getElem.mp hb;rw[hnm j b (by rw[List.getElem?_eq_getElem hj,ej])];exact zqK _ _
  have sm:∀ {x:Int},0<=x->x<=5->Bd 195 x:=λ{x} h1 h2=>(show Bd 3 x by show _<2 ^ 3;lia).mono (by decide)
  have fin:∀ (T:Sto) (hz:Option Int),(∀ z,hz=some z->0<=z/\Bd 195 z)->Q (.tup [.ref Sg.length,.ref S'.length,.ref S''.length,zbZ hz,.int fh,.int (fh+c0/9%12),.int dl]) (S++(T4++T)):=λT hz hhz=>by
    have ok:zd8 ⟨cs,bs,fs,hz,fh,fh+c0/9%12,dl⟩:={ gr:=gr,b1:=(by show 1<=bs.length;lia),b12:=(by show bs.length<=12;lia),nm:=bnm,nd:=bnd,st:=λb hb=>(hbs b hb).1,bd:=λb hb=>⟨(hbs b hb).2.1.mono (by decide),(hbs b hb).2.2.mono (by decide)⟩,f12:=(by show fs.length<=12;lia),fg:=λF hF=>(hfs F hF).1,hz:=λz e=>(hhz z e).1,hh:=(by show fh<=fh+c0/9%12;lia),b0:=bfh.1.mono (by decide),bl:=bfh.2.mono (by decide),dl:=hdl.1 }
    exact q (T4++T) _ _ _ ⟨cs,bs,fs,hz,fh,fh+c0/9%12,dl⟩ ⟨⟨ok,λz e=>(hhz z e).2.mono (by decide),(sm hdl.1 hdl.2).mono (by decide)⟩,λb hb=>⟨(hbs b hb).2.1.mono (by decide),(hbs b hb).2.2⟩,λF hF=>(hfs F hF).2,bfh.1.mono (by decide),bfh.2.mono (by decide),λz e=>(hhz z e).2,sm hdl.1 hdl.2⟩ (by show bs.length<=6;lia) (by show fs.length<=4;lia) (by show fh+c0/9%12<=fh+11;lia) bzz ⟨by rw[<- List.append_assoc];exact kc4.old,by rw[<- List.append_assoc];exact kb4.old,by rw[<- List.append_assoc];exact kf.old⟩
  walk_at"g";refine r_J (λZ S5=>S5=S++T4/\∃ hz:Option Int,(∀ z,hz=some z->0<=z/\Bd 195 z)/\Z=[some (.rl (ns.map D.int)),some (.int c0),some (.int c1),some (.int c2),some (.ref S.length),some (.int sc),some (.int fh),some (.tup [.int fh,.int (fh+c0/9%12)]),some (.ref Sg.length),some (.ref (S1.length+1)),some (.ref S'.length),some (.ref S''.length),some (zbZ hz)]) ?_ ?_
  . walk_at"g";refine r_d (λ_=>?_) (λ_=>?_)
    . walk_at"g";refine⟨rfl,some (c2/2%25*sc*(c2/2%25*sc)),λz e=>?_,rfl⟩;have e':=Option.some.inj e;rw[<- e'];have t0:=Int.mul_nonneg (show 0<=c2/2%25 by lia) (show 0<=sc by lia);exact⟨Int.mul_nonneg t0 t0,(Bd.mul bz bz).mono (by decide)⟩
    . walk_at"g";exact⟨rfl,none,(λz e=>by cases e),rfl⟩
  rintro Z S5 ⟨rfl,hz,hhz,rfl⟩;walk_at"g";exact fin_same (fin _ _ hhz)
def zaX:DSp:=λds S Q=>∃ (x:D) (cs:List (Int×Int)),ds=[x]/\Lst S x (cs.map p2)/\Grd cs/\Q .non S
abbrev zcO:DS :=
    (zA (sIf (dOr (dT (dOp oLt (dB za0 ua0) ci2)) (dT (dOp oGt (dB za0 ua0) (dC (.int 40))))) zbV zZ)
 (zbg (zhf (zj ci1 (zj (dB za0 ua0) zE))) gn1 (sIf (dT (dOp oLe (dOp oIx (dOp oIx vr0 vr1) ci0) (dOp oIx (dOp oIx vr0 (dOp zag vr1 ci1)) ci0))) zbV zZ)))
def zey:BodyOk 2 zcO zaX:=by
 rintro ds S Q ⟨x,cs,rfl,hx,g,q⟩;unfold zcO;have g1:=g.two;have g2:=g.most;walk_at"g";rw[List.length_map];refine r_d (λz=>absurd z (by lia)) (λ_=>?_);walk_at"g";rw[List.length_map];refine r_d (λz=>absurd z (by lia)) (λ_=>?_);walk_at"g";rw[List.length_map];refine⟨_,_,rfl,?_⟩;refine zaL (λi Z S'=>S'=S/\∃ w:Option D,Z=[some x,w]) ⟨rfl,none,rfl⟩ (λ_ _ _ _=>True.intro) ?_ ?_
 ·rintro i d Z S' hd ⟨rfl,w,rfl⟩;obtain⟨hi,rfl⟩:=zbc hd;obtain⟨a,ha,aa⟩:=zeS (cs:=cs) (k:=1+(i:Int)) (by lia) (by lia);obtain⟨b,hb,ab⟩:=zeS (cs:=cs) (k:=1+(i:Int)-1) (by lia) (by lia);have hlt:=zdo g (show(1+(i:Int)-1).toNat<(1+(i:Int)).toNat by lia) hb ha;walk_at"g";refine r_d (λz=>absurd z (by lia)) (λ_=>?_);walk_at"g";exact⟨rfl,_,rfl⟩
 ·rintro Z S' ⟨rfl,w,rfl⟩;exact fin_same q
def zc4:DSp:=λds S Q=>∃ (S0:Sto) (x:D) (cs:List (Int×Int)),ds=[.ref S0.length,x]/\S=S0++[.ins "Ground" []]/\Lst S0 x (cs.map p2)/\Grd cs/\Q .non (S0++[.ins "Ground" [("corners",.ref (S0.length+1))],.lst (cs.map p2)])
abbrev zco:DS :=
    (zA (zaY (dCall zaX ua1))
 (zdj "Ground" "corners" vr0 (dB zeq ua1)))
def zhP:BodyOk 2 zco zc4:=by rintro ds S Q ⟨S0,x,cs,rfl,rfl,hx,g,q⟩;unfold zco;have hx':Lst (S0++[.ins "Ground" []]) x (cs.map p2):=hx.old;walk_at"g";refine⟨x,cs,rfl,hx',g,?_⟩;walk_at"g";refine⟨S0.length,[],rfl,zaV,by decide,?_⟩;rw[zb3];exact fin_same q
def zej:DSp:=zlQ "Ground" zc4
def zaW:DSp:=λds S Q=>∃ (x y:D) (xs ys:List D),ds=[x,y]/\Lst S x xs/\Lst S y ys/\1<=xs.length/\xs.length<=12/\ys.length<=12/\Q .non S
abbrev zcM:DS :=
    (zA (sIf (dOr (dT (dOp oLt (dB za0 ua0) ci1)) (dT (dOp oGt (dB za0 ua0) (dC (.int 12))))) zbV zZ)
 (sIf (dT (dOp oGt (dB za0 ua1) (dC (.int 12)))) zbV zZ))
def zeD:BodyOk 2 zcM zaW:=by rintro ds S Q ⟨x,y,xs,ys,rfl,hx,hy,h1,h2,h3,q⟩;unfold zcM;walk_at"g";rw[decide_eq_false (show ¬ ((xs.length:Int)<1) by lia)];walk_at"g";rw[decide_eq_false (show ¬ ((12:Int)<xs.length) by lia)];walk_at"g";rw[decide_eq_false (show ¬ ((12:Int)<ys.length) by lia)];walk_at"g";exact fin_same q
def zdR:DSp:=λds S Q=>∃ z:Str,ds=[.str z]/\z.length<=1000/\Q (.bl (nmB z)) S
abbrev zit:DS :=
    (zA (sIf (dOr (dT (dOp oLt (dB za0 ua0) ci1)) (dT (dOp oGt (dB za0 ua0) ci8))) (zT (dC (.bl false))) zZ)
 (zT (dB zfE (zj (dLC 1 [] (zbf vr0) gn0 zbL (dOp oIn vr0 (dC (.str "abcdefghijklmnopqrstuvwxyz")))) zE))))
def zlz:BodyOk 1 zit zdR:=by
 rintro ds S Q ⟨z,rfl,hz,q⟩;unfold zit;have hb:z.length<=big:=by unfold big;lia
 walk_at"g";refine znO hb ?_;walk_at"g";unfold nmB at q;refine r_d (λh=>?_) (λh=>?_)
 ·walk_at"g";rw[decide_eq_false (show ¬ 1<=z.length by lia)]at q;exact fin_same q
 rw[decide_eq_true (show 1<=z.length by lia)]at q;walk_at"g";refine znO hb ?_;walk_at"g";refine r_d (λh=>?_) (λh=>?_)
 ·walk_at"g";rw[decide_eq_false (show ¬ z.length<=8 by lia)]at q;exact fin_same q
 rw[decide_eq_true (show z.length<=8 by lia)]at q;walk_at"g";refine zbx (λ_=>true) (onC λc=>decide (c∈abc)) True.intro (by rw[znC];exact hb) (λi d ys hd hw=>?_) ?_
 ·obtain⟨c,_,rfl⟩:=znx hd;walk_at"g";rw[zsF];exact zcT hd hw rfl rfl
 rw[filter_true,zmD];walk_at"g";refine zfR Lst.at0 rfl ?_;refine zau rfl ?_;rw[List.all_map];exact q
def zbe:DSp:=λds S Q=>∃ (x:D) (zs:List Str),ds=[x]/\Lst S x (zs.map D.str)/\zs.length<=100/\(∀ z∈zs,nmB z=true)/\zs.Nodup/\Q .non S
abbrev zdw:DS :=
    (zA (sIf (zd2 (dT (dB zfE (zj (dLC 1 [] (zbf vr0) gn0 zbL (dCall zdR ua0)) zE)))) zbV zZ)
 (sIf (dT (dOp oLt (dB zli ua0) (dB za0 ua0))) zbV zZ))
def zfn:BodyOk 1 zdw zbe:=by
 rintro ds S Q ⟨x,zs,rfl,hx,hl,hn,nd,q⟩;unfold zdw;walk_at"g";refine zbx (λ_=>true) (onS λz=>.bl (nmB z)) hx (by rw[List.length_map];unfold big;lia) (λi d ys hd hw=>?_) ?_
 ·obtain⟨z,hz,rfl⟩:=zqk hd;walk_at"g";refine⟨z,rfl,by have:=(zgh.mp (hn z (List.mem_of_getElem? hz))).2.1;lia,?_⟩;exact zcT hd hw rfl rfl
 rw[filter_true,zqu,show zs.map (λz=>D.bl (nmB z))=(zs.map nmB).map D.bl by rw[List.map_map];rfl];walk_at"g";refine zfR (b:=true) Lst.at0 (by rw[List.all_map,List.all_eq_true];exact hn) ?_;walk_at"g";refine zsC (zs:=zs) hx.old (by lia) ?_;rw[zlq nd];have hx1:Lst (S++[Cell.lst ((zs.map nmB).map D.bl)]) x (zs.map D.str):=hx.old;walk_at"g";rw[List.length_map,decide_eq_false (show ¬ ((zs.length:Int)<zs.length) by lia)];walk_at"g";exact zau rfl q
def zda:DSp:=λds S Q=>∃ (a b:Int×Int),ds=[p2 a,p2 b]/\zaa a.1 b.2/\zaa b.1 a.2/\Q (.bl (flt a b)) S
abbrev znm:DS :=(zT (dOp oLt (dOp zac zba zcF) (dOp zac zb0 zbj)))
def zq5:BodyOk 2 znm zda:=by rintro ds S Q ⟨a,b,rfl,c1,c2,q⟩;unfold znm;walk_at"g";exact fin_same q
def zdY:DSp:=λds S Q=>∃ (g:D) (cs:List (Int×Int)) (p:Int×Int),ds=[g,p2 p]/\GAt S g cs/\Grd cs/\Bd 1000 p.1/\Bd 1000 p.2/\Q (.bl (decide (zhI cs*p.2<=p.1)&&decide (p.1<=zfw cs*p.2))) S
abbrev zle:DS :=
    (zA (zG (dTup (zj (dOp oIx (dOp oIx (zcx "corners" vr0) ci0) ci0) (zj ci1 zE))) gn2)
 (zA (zG (dTup (zj (dOp oIx (dOp oIx (zcx "corners" vr0) (dUn za8 ci1)) ci0) (zj ci1 zE))) gn3)
 (zT (zeR (zf5 (dCall zda (zj vr1 ua2))) (zf5 (dCall zda (zj vr3 ua1)))))))
def zou:BodyOk 4 zle zdY:=by
 rintro ds S Q ⟨g,cs,p,rfl,⟨n,l,rfl,hn,hl⟩,gr,b1,b2,q⟩;unfold zle;have g1:=gr.two;obtain⟨a,ha,ea⟩:=zcz gr;obtain⟨z,hz,ez⟩:=zju gr;have aa:atD (cs.map p2) 0=some (p2 a):=zbw (i:=0) (by rw[List.getElem?_map,ha];rfl)
 have az:atD (cs.map p2) (-1)=some (p2 z):=by
  have hne:cs≠[]:=λe=>by rw[e]at g1;simp at g1
  have en:cs=cs.dropLast++[z]:=by
   have h2:=List.dropLast_concat_getLast hne
   have h3:cs.getLast hne=z:=by rw[List.getLast_eq_getElem];have hl':=zax hz;rw[List.getElem?_eq_getElem hl']at hz;cases hz;rfl
   rw[h3]at h2;exact h2.symm
  rw[en,List.map_append];exact zeQ
 obtain⟨ba,_⟩:=gr.bd a (List.mem_of_getElem? ha);obtain⟨bz,_⟩:=gr.bd z (List.mem_of_getElem? hz);rw[ea,ez]at q;have e1:flt p (a.1,1)=decide (p.1<a.1*p.2):=by unfold flt;dsimp only;rw[Int.mul_one]
 have e2:flt (z.1,1) p=decide (z.1*p.2<p.1):=by unfold flt;dsimp only;rw[Int.mul_one]
 have c1:zaa a.1 p.2:=.inl ⟨ba.mono (by decide),b2.mono (by decide)⟩;have c2:zaa z.1 p.2:=.inl ⟨bz.mono (by decide),b2.mono (by decide)⟩;have c3:∀ u:Int,zaa u 1:=λu=>.inr (.inr (by decide))
 walk_at"g";refine⟨p,(a.1,1),rfl,c3 _,c1,?_⟩;rw[e1];walk_at"g";refine zrI (λg=>?_) (λg=>?_)
 ·walk_at"g";refine⟨(z.1,1),p,rfl,c2,c3 _,?_⟩;rw[e2];walk_at"g";rw[decide_eq_true (show a.1*p.2<=p.1 by lia),Bool.true_and]at q;rw[show(!decide (z.1*p.2<p.1))=decide (p.1<=z.1*p.2) by rw[<- decide_not];exact decide_eq_decide.mpr (by lia)];exact fin_same q
 ·rw[decide_eq_false (show ¬ a.1*p.2<=p.1 by lia),Bool.false_and]at q;exact fin_same q
def zbu:DSp:=λds S Q=>∃ (t b:Int),ds=[.int t,.int b]/\Q (.int ((Int.gcd t b:Nat):Int)) S
abbrev zd5:DS :=
    (zA (zhh (dT (dOp oNe vr1 ci0)) (zA (zG (dOp oMod vr0 vr1) gn2)
 (zA (zG vr1 gn0)
 (zG vr2 gn1))))
 (zT (dB zoc ua0)))
def zgi:BodyOk 3 zd5 zbu:=by
 rintro ds S Q ⟨t,b,rfl,q⟩;unfold zd5;refine Dp.zhC ?_;refine ztr (λm Z S'=>S'=S/\∃ (x y:Int) (w:Option D),Z=[some (.int x),some (.int y),w]/\m=y.natAbs/\Int.gcd x y=Int.gcd t b) b.natAbs ⟨rfl,_,_,none,rfl,rfl,rfl⟩ ?_;rintro m Z S' ⟨rfl,x,y,w,rfl,rfl,e⟩;walk_at"g";refine zrI (λh0=>?_) (λh0=>?_)
 ·refine zmu ?_;refine Dp.zhC ?_;refine Dp.zpp ?_;refine Dp.zlp ?_;refine Dp.zfe rfl ?_;refine Dp.zfe rfl ?_;refine zrr h0 ?_;walk_at"g";exact⟨_,zkl h0,rfl,_,_,_,rfl,rfl,(zod x y).trans e⟩
 ·subst h0;rw[Int.gcd_zero]at e;walk_at"g";rw[<- e]at q;exact fin_same q
def zdi:DSp:=λds S Q=>∃ (t b:Int),ds=[.int t,.int b]/\b≠0/\Bd 8000 b/\Q (p2 (frT t b,frB t b)) S
abbrev zhb:DS :=
    (zA (zG (dCall zbu (zj vr0 ua1)) gn2)
 (zA (sJ (sIf (dT (dOp oLt vr1 ci0)) (zG (dUn za8 vr2) gn2) zZ))
 (zT (dTup (zj (dOp oDiv vr0 vr2) (zj (dOp oDiv vr1 vr2) zE))))))
def zks:BodyOk 3 zhb zdi:=by
 rintro ds S Q ⟨t,b,rfl,hb,bb,q⟩;unfold zhb;have hgn:=zps (t:=t) (b:=b) hb;have hgb:=zvw (t:=t) (b:=b) hb bb;walk_at"g";refine⟨t,b,rfl,?_⟩;walk_at"g";refine r_J (λZ S'=>S'=S/\Z=[some (.int t),some (.int b),some (.int (gd t b))]) ?_ ?_
 ·walk_at"g";refine r_d (λg=>?_) (λg=>?_)
  ·have hg:gd t b=-((Int.gcd t b:Nat):Int):=if_pos g;walk_at"g";exact⟨rfl,by rw[hg];rfl⟩
  ·have hg:gd t b=((Int.gcd t b:Nat):Int):=if_neg g;walk_at"g";exact⟨rfl,by rw[hg];rfl⟩
 rintro Z S' ⟨rfl,rfl⟩;refine Dp.zpn ?_;refine Dp.zph ?_;refine Dp.zjP ?_;refine Dp.zlp ?_;refine Dp.zfe rfl ?_;refine Dp.zfe rfl ?_;refine zmE ⟨hgn,hgb⟩ ?_;refine Dp.zjP ?_;refine Dp.zlp ?_;refine Dp.zfe rfl ?_;refine Dp.zfe rfl ?_;refine zmE ⟨hgn,hgb⟩ ?_;walk_at"g";exact fin_same q
def zcL:DSp:=λds S Q=>∃ (a b p:Int×Int),ds=[p2 a,p2 b,p2 p]/\b.1≠a.1/\0<p.2/\Bd 180 a.1/\Bd 200 a.2/\Bd 180 b.1/\Bd 200 b.2/\Bd 1000 p.1/\Bd 1000 p.2/\∀ c:Int×Int,Sv c (hvT a b p) (hvB a b p)->Int.gcd c.1 c.2=1->Bd 1400 c.1->Bd 1400 c.2->Q (p2 c) S
def zub {t b:Int}(hb:b≠0):Sv (frT t b,frB t b) (if 0<b then t else -t) (if 0<b then b else -b):=by
 have h1:=zoM t b;have h2:=zrc (t:=t) hb;refine⟨by show 0<frB t b;lia,?_⟩;show frT t b*_=_*frB t b;split
 ·rw[h1,Int.mul_comm]
 ·rw[Int.mul_neg,h1,Int.neg_mul,Int.mul_comm]
abbrev zgt:DS :=
    (zA (zG (dOp zag zb0 zba) gn3)
 (zA (zG (dOp zag zcF zbj) gn4)
 (zA (zG (dOp zaf (dOp zac (dOp zac zbj vr3) zdM) (dOp zac vr4 (dOp zag zcd (dOp zac zba zdM)))) gn5)
 (zT (dCall zdi (zj vr5 (zj (dOp zac vr3 zdM) zE)))))))
def zj8:BodyOk 6 zgt zcL:=by
 rintro ds S Q ⟨a,b,p,rfl,hne,hp,b1,b2,b3,b4,b5,b6,q⟩;unfold zgt;have r1:Bd 181 (b.1-a.1):=Bd.sub b3 b1;have r2:Bd 201 (b.2-a.2):=Bd.sub b4 b2;have m1:Bd 381 (a.2*(b.1-a.1)):=Bd.mul b2 r1;have m2:Bd 1381 (a.2*(b.1-a.1)*p.2):=Bd.mul m1 b6;have m3:Bd 1180 (a.1*p.2):=Bd.mul b1 b6;have m4:Bd 1181 (p.1-a.1*p.2):=Bd.sub (b5.mono (by decide)) m3;have m5:Bd 1382 ((b.2-a.2)*(p.1-a.1*p.2)):=Bd.mul r2 m4;have m6:Bd 1181 ((b.1-a.1)*p.2):=Bd.mul r1 b6;have bT:Bd 1400 (a.2*(b.1-a.1)*p.2+(b.2-a.2)*(p.1-a.1*p.2)):=(Bd.add (n:=1382) (m2.mono (by decide)) m5).mono (by decide);have c1:zaa a.2 (b.1-a.1):=.inl ⟨b2.mono (by decide),r1.mono (by decide)⟩;have c2:zaa (a.2*(b.1-a.1)) p.2:=.inl ⟨m1.mono (by decide),b6.mono (by decide)⟩;have c3:zaa a.1 p.2:=.inl ⟨b1.mono (by decide),b6.mono (by decide)⟩;have c4:zaa (b.2-a.2) (p.1-a.1*p.2):=.inl ⟨r2.mono (by decide),m4.mono (by decide)⟩;have c5:zaa (b.1-a.1) p.2:=.inl ⟨r1.mono (by decide),b6.mono (by decide)⟩;walk_at"g";have hr:(b.1-a.1)*p.2≠0:=Int.mul_ne_zero (by lia) (by lia);refine⟨_,_,rfl,hr,m6.mono (by decide),?_⟩;refine fin_same (q _ ?_ (zr7 hr) (zrT bT) ((zsd m6).mono (by decide)));have hs:=zub (t:=a.2*(b.1-a.1)*p.2+(b.2-a.2)*(p.1-a.1*p.2)) hr;unfold hvT hvB;by_cases g:0<b.1-a.1
 ·have:0<(b.1-a.1)*p.2:=Int.mul_pos g hp;rw[if_pos this,if_pos this]at hs;rw[if_pos g,if_pos g];exact hs
 ·have:¬ 0<(b.1-a.1)*p.2:=λz=>by
   have:=Int.mul_pos (show 0 < -(b.1-a.1) by lia) hp;rw[Int.neg_mul]at this;lia
  rw[if_neg this,if_neg this]at hs;rw[if_neg g,if_neg g];exact hs
def zcW:zc0:=λds S Q ex=>∃ (g:D) (cs:List (Int×Int)) (p:Int×Int),ds=[g,p2 p]/\GAt S g cs/\Grd cs/\0<p.2/\Bd 1000 p.1/\Bd 1000 p.2/\(¬ OnG cs p->ex "OffGround" S)/\(OnG cs p->∀ a b c:Int×Int,ze0 cs p=some (a,b)->Sv c (hvT a b p) (hvB a b p)->0<hvB a b p->Int.gcd c.1 c.2=1->Bd 1400 c.1->Bd 1400 c.2->Q (p2 c) S)
abbrev zgu (ex : XR) : DS :=
    (zA (sIf (zd2 (dT (dCall zdY (zj vr0 ua1)))) (zfB ex "OffGround") zZ)
 (zA (zG (zcx "corners" vr0) gn2)
 (zA (zG ci1 gn3)
 (zA (zhh (dT (dCall zda (zj (dTup (zj (dOp oIx (dOp oIx vr2 vr3) ci0) (zj ci1 zE))) ua1))) (zot 3 ci1))
 (zT (dCall zcL (zj (dOp oIx vr2 (dOp zag vr3 ci1)) (zj (dOp oIx vr2 vr3) ua1))))))))
def zjy:zcB 4 zgu zcW:=by
 rintro ds S Q ex ⟨g,cs,p,rfl,hg,gr,hp,b1,b2,hx,q⟩;unfold zgu;obtain⟨n,l,rfl,hn,hl⟩:=id hg;walk_at"g";refine⟨_,cs,p,rfl,hg,gr,b1,b2,?_⟩;by_cases on:OnG cs p
 case neg =>
  have e:(decide (zhI cs*p.2<=p.1)&&decide (p.1<=zfw cs*p.2))=false:=Bool.eq_false_iff.mpr λz=>on (by rw[Bool.and_eq_true,decide_eq_true_eq,decide_eq_true_eq]at z;exact z)
  rw[e];walk_at"g";exact hx on
 have q:=q on;obtain⟨kk,a,b,ha,hb,hle,hlt⟩:=zhr gr.two on.2;have seg:=seg_at ha hb hle hlt;have hk:=zax hb;rw[decide_eq_true on.1,decide_eq_true on.2,show(true&&true)=true from rfl];walk_at"g";refine ztr (λm Z S'=>S'=S/\∃ j:Nat,Z=[some (.ref n),some (p2 p),some (.ref l),some (.int ((j:Int)+1))]/\m=kk-j/\j<=kk) kk ⟨rfl,0,rfl,rfl,by lia⟩ ?_;rintro m Z S' ⟨rfl,j,rfl,rfl,hj⟩;obtain⟨c,hc,ac⟩:=zeS (cs:=cs) (k:=(j:Int)+1) (by lia) (by lia);have hc':cs[j+1]?=some c:=by rwa[show((j:Int)+1).toNat=j+1 by lia]at hc
 obtain⟨bc,bc2⟩:=gr.bd c (List.mem_of_getElem? hc);have e1:flt (c.1,1) p=decide (c.1*p.2<p.1):=by unfold flt;dsimp only;rw[Int.mul_one]
 walk_at"g";refine⟨(c.1,1),p,rfl,.inl ⟨bc.mono (by decide),b2.mono (by decide)⟩,.inr (.inr (show(1:Int).natAbs<2 ^ 64 by decide)),?_⟩;rw[e1];walk_at"g";refine r_d (λh=>?_) (λh=>?_)
 ·walk_at"g"
  have hjk:j<kk:=by
   rcases Nat.lt_or_ge j kk with z|z
   ·exact z
   ·have:j=kk:=by lia
    subst this;rw[hb]at hc';cases hc';lia
  exact⟨kk-(j+1),by lia,rfl,j+1,by simp,rfl,by lia⟩
 ·have hjk:j=kk:=by
   rcases Nat.lt_or_ge j kk with z|z
   ·have:=hlt (j+1) c (by lia) (by lia) hc';lia
   ·lia
  subst hjk;rw[hb]at hc';cases hc'
  have aa:atD (cs.map p2) ((j:Int)+1-1)=some (p2 a):=by rw[show(j:Int)+1-1=(j:Int) by lia];exact zbw (by rw[List.getElem?_map,ha];rfl)
  obtain⟨ba1,ba2⟩:=gr.bd a (List.mem_of_getElem? ha);have hab:=zdo gr (show j<j+1 by lia) ha hb;walk_at"g";refine⟨a,b,p,rfl,by lia,hp,ba1.mono (by decide),ba2.mono (by decide),bc.mono (by decide),bc2.mono (by decide),b1,b2,λc hs hg d1 d2=>?_⟩;exact fin_same (q a b c seg hs (zkT (by lia) hp) hg d1 d2)
def zdr:DSp:=λds S Q=>∃ (g:D) (cs:List (Int×Int)) (s:Int×Int),ds=[g,p2 s]/\GAt S g cs/\Grd cs/\Bd 180 s.1/\Bd 200 s.2/\∀ b:Bool,(b=true↔zcv cs s)->Q (.bl b) S
abbrev zjk:DS :=
    (zA (zG (dTup (zj zb0 (zj ci1 zE))) gn2)
 (zA (sIf (zd2 (dT (dCall zdY (zj vr0 ua2)))) (zT (dC (.bl false))) zZ)
 (zT (zf5 (dCall zda (zj (dTup (zj zcF (zj ci1 zE))) (zj (zb2 zcW xF (zj vr0 ua2)) zE)))))))
def zmx:BodyOk 3 zjk zdr:=by
 rintro ds S Q ⟨g,cs,s,rfl,hg,gr,b1,b2,q⟩;unfold zjk;have bo:Bd 1000 (1:Int):=Bd.lit (by decide) (by decide);walk_at"g";refine⟨g,cs,(s.1,1),rfl,hg,gr,b1.mono (by decide),bo,?_⟩;by_cases on:OnG cs (s.1,1)
 case neg =>
  have e:(decide (zhI cs*(s.1,(1:Int)).2<=(s.1,(1:Int)).1)&&decide ((s.1,(1:Int)).1<=zfw cs*(s.1,(1:Int)).2))=false:=Bool.eq_false_iff.mpr λz=>on (by rw[Bool.and_eq_true,decide_eq_true_eq,decide_eq_true_eq]at z;exact z)
  rw[e];walk_at"g";exact fin_same (q false ⟨λz=>(by cases z),λz=>absurd z.1 on⟩)
 rw[decide_eq_true on.1,decide_eq_true on.2,show(true&&true)=true from rfl];walk_at"g";refine⟨g,cs,(s.1,1),rfl,hg,gr,(show(0:Int)<1 by decide),b1.mono (by decide),bo,λoff=>absurd on off,λ_ a b c seg sv hb hgcd d1 d2=>?_⟩;walk_at"g";refine⟨(s.2,1),c,rfl,.inl ⟨b2.mono (by decide),d2.mono (by decide)⟩,.inr (.inr (show(1:Int).natAbs<2 ^ 64 by decide)),?_⟩;rw[ztw (t:=s.2) (b:=1) (by decide) hb ⟨(show(0:Int)<1 by decide),rfl⟩ sv];walk_at"g";refine fin_same (q _ ?_);rw[Bool.not_eq_true',decide_eq_false_iff_not];constructor
 ·intro h;refine⟨on,λa' b' seg'=>?_⟩;rw[seg]at seg';cases seg';lia
 ·intro h;have:=h.2 a b seg;lia
def zbk:DSp:=λds S Q=>∃ (g y:D) (cs:List (Int×Int)) (bs:List (Str×(Int×Int))),ds=[g,y]/\GAt S g cs/\Grd cs/\Lst S y (bs.map bcD)/\bs.length<=100/\(∀ b∈bs,zcv cs b.2/\Bd 180 b.2.1/\Bd 200 b.2.2)/\Q .non S
abbrev zdD:DS :=(sIf (zd2 (dT (dB zfE (zj (dLC 3 [0] (zbf vr1) (zce 3 (zaw gn0 (zaw gn1 (zaw gn2 zcg)))) zbL (dCall zdr (zj vr3 (zj (dTup (zj vr1 ua2)) zE)))) zE)))) zbV zZ)
def zfS:BodyOk 2 zdD zbk:=by
 rintro ds S Q ⟨g,y,cs,bs,rfl,hg,gr,hy,hl,hb,q⟩;unfold zdD;walk_at"g";refine zbx (λ_=>true) (zlR λ_=>.bl true) hy (by rw[List.length_map];unfold big;lia) (λi d ys hd hw=>?_) ?_
 ·obtain⟨b,hbi,rfl⟩:=zg7 hd;obtain⟨s1,s2,s3⟩:=hb b (List.mem_of_getElem? hbi);walk_at"g";refine⟨g,cs,b.2,rfl,hg,gr,s2,s3,λr hr=>?_⟩;rw[hr.mpr s1];exact zcT hd hw rfl rfl
 rw[filter_true,zgU,show bs.map (λ_=>D.bl true)=(bs.map λ_=>true).map D.bl by rw[List.map_map];rfl];walk_at"g";refine zfR (b:=true) Lst.at0 (by rw[List.all_map,List.all_eq_true];intro _ _;rfl) ?_;walk_at"g";exact zau rfl q
def zde:DSp:=λds S Q=>∃ i:Int,ds=[.int i]/\Q (.bl true) S
abbrev zhd:DS :=(zT (zeR (dB ze5 (zj vr0 (zj (dC (.ty "int")) zE))) (zf5 (dB ze5 (zj vr0 (zj (dC (.ty "bool")) zE))))))
def zkv:BodyOk 1 zhd zde:=by rintro ds S Q ⟨i,rfl,q⟩;unfold zhd;walk_at"g";exact fin_same q
def zef:DSp:=λds S Q=>∃ F:Fg,ds=[fgD F]/\F.x0<=F.x1/\F.z0<=F.z1/\F.f<=F.l/\Q (.bl true) S
abbrev zj5:DS :=
    (zA (sIf (dOr (zd2 (dT (dB ze5 (zj vr0 (zj (dC (.ty "tuple")) zE))))) (dT (dOp oNe (dB za0 ua0) ci8))) (zT (dC (.bl false))) zZ)
 (zA (sIf (zd2 (dT (dB zfE (zj (dLC 1 [] (zbf vr0) gn0 zbL (dCall zde ua0)) zE)))) (zT (dC (.bl false))) zZ)
 (zT (zeR (dOp oLe zba zbj) (zeR (dOp oLe zdL zdQ) (dOp oLe ze9 ziS))))))
def znf:BodyOk 1 zj5 zef:=by
 rintro ds S Q ⟨F,rfl,h1,h2,h3,q⟩;unfold zj5;walk_at"g";rw[show(!decide ((([D.int F.x0,D.int F.x1,D.int F.z0,D.int F.z1,D.int F.f,D.int F.l,D.int F.g,D.int F.s]:List D).length:Int)=8))=false by rfl];walk_at"g";refine zbx (λ_=>true) (λ_=>.bl true) True.intro (by show 8<=big;unfold big;decide) (λi d ys hd hw=>?_) ?_
 ·obtain⟨z,_,rfl⟩:=zdX (zs:=[F.x0,F.x1,F.z0,F.z1,F.f,F.l,F.g,F.s]) hd;walk_at"g";refine⟨z,rfl,?_⟩;exact zcT hd hw rfl rfl
 walk_at"g";refine zfR (bs:=List.replicate 8 true) (b:=true) Lst.at0 rfl ?_;walk_at"g";rw[decide_eq_true h1];walk_at"g";rw[decide_eq_true h2];walk_at"g";rw[decide_eq_true h3];exact zau rfl q
def zr4 (xs:List α)(f:α->D):(xs.map f).map (λ_=>D.bl true)=(xs.map λ_=>true).map D.bl:=by rw[List.map_map,List.map_map];rfl
def zbm:DSp:=λds S Q=>∃ (z:D) (fs:List Fg),ds=[z]/\Lst S z (fs.map fgD)/\fs.length<=100/\(∀ F∈fs,FgV F)/\Q .non S
abbrev zdF:DS :=(sIf (zd2 (dT (dB zfE (zj (dLC 1 [] (zbf vr0) gn0 zbL (dCall zef ua0)) zE)))) zbV zZ)
def zfF:BodyOk 1 zdF zbm:=by
 rintro ds S Q ⟨z,fs,rfl,hz,hl,hf,q⟩;unfold zdF;walk_at"g";refine zbx (λ_=>true) (λ_=>.bl true) hz (by rw[List.length_map];unfold big;lia) (λi d ys hd hw=>?_) ?_
 ·obtain⟨F,hF,rfl⟩:=zmo hd;have k:=hf F (List.mem_of_getElem? hF);walk_at"g";refine⟨F,rfl,k.b.x,k.b.z,k.o,?_⟩;exact zcT hd hw rfl rfl
 rw[filter_true,zr4];walk_at"g";refine zfR (b:=true) Lst.at0 (by rw[List.all_map,List.all_eq_true];intro _ _;rfl) ?_;walk_at"g";exact zau rfl q
def zbd:DSp:=λds S Q=>∃ (hz:Option Int) (a b d:Int),ds=[zbZ hz,.int a,.int b,.int d]/\a<=b/\0<=d/\(∀ z,hz=some z->0<=z)/\Q .non S
abbrev zdn:DS :=
    (zA (sIf (dT (dOp oGt vr1 vr2)) zbV zZ)
 (zA (sIf (dT (dOp oLt vr3 ci0)) zbV zZ)
 (sIf (zeu (dT (dOp zet vr0 (dC .non))) (dT (dOp oLt vr0 ci0))) zbV zZ)))
def zfo:BodyOk 4 zdn zbd:=by
 rintro ds S Q ⟨hz,a,b,d,rfl,hab,hd,hh,q⟩;unfold zdn;walk_at"g";rw[decide_eq_false (show ¬ b<a by lia)];walk_at"g";rw[decide_eq_false (show ¬ d<0 by lia)];cases hz with
 |none =>walk_at"g";exact fin_same q
 |some z =>have:=hh z rfl;unfold zbZ;walk_at"g";rw[decide_eq_false (show ¬ z<0 by lia)];walk_at"g";exact fin_same q
def zc2:DSp:=λds S Q=>∃ (S0:Sto) (g y z:D) (V:Vl),ds=[.ref S0.length,g,y,z,zbZ V.hz,.int V.h0,.int V.h1,.int V.dl]/\S=S0++[.ins "Valley" []]/\GAt S0 g V.cs/\Lst S0 y (V.bs.map bcD)/\Lst S0 z (V.fs.map fgD)/\zd8 V/\∀ T,VAt (S0++T) (.ref S0.length) V->Q .non (S0++T)
abbrev zcr:DS :=
    (zA (zaY (dCall zaW (zj vr2 ua3)))
 (zA (zaY (dCall zbe (zj (dLC 1 [] (zbf vr2) gn0 zbL zba) zE)))
 (zA (zaY (dCall zbk (zj vr1 ua2)))
 (zA (zaY (dCall zbm ua3))
 (zA (zaY (dCall zbd (zj vr4 (zj vr5 (zj vr6 ua7)))))
 (zA (zdj "Valley" "ground" vr0 (dCall zej (zj (zcx "corners" vr1) zE)))
 (zA (zdj "Valley" "beacons" vr0 (dB zeq ua2))
 (zA (zdj "Valley" "fogs" vr0 (dB zeq ua3))
 (zA (zdj "Valley" "haze" vr0 vr4)
 (zA (zdj "Valley" "first" vr0 vr5)
 (zA (zdj "Valley" "last" vr0 vr6)
 (zdj "Valley" "delay" vr0 vr7))))))))))))
def zhN:BodyOk 8 zcr zc2:=by
 rintro ds S Q ⟨S0,g,y,z,V,rfl,rfl,hg,hy,hz,ok,q⟩;unfold zcr;obtain⟨Sa,hSa⟩:∃ Sa:Sto,Sa=S0++[.ins "Valley" []]:=⟨_,rfl⟩
 have hya:Lst Sa y (V.bs.map bcD):=hSa▸hy.old;have hza:Lst Sa z (V.fs.map fgD):=hSa▸hz.old;rw[<- hSa];walk_at"g";refine⟨y,z,_,_,rfl,hya,hza,by rw[List.length_map];exact ok.b1,by rw[List.length_map];exact ok.b12,by rw[List.length_map];exact ok.f12,?_⟩;walk_at"g";have b12:=ok.b12;have f12:=ok.f12;refine zbx (λ_=>true) (zlR λb=>.str b.1) hya (by rw[List.length_map];unfold big;lia) (λi d ys hd hw=>?_) ?_
 ·obtain⟨b,_,rfl⟩:=zg7 hd;walk_at"g";exact zcT hd hw rfl rfl
 rw[filter_true,zgU,show V.bs.map (λb=>D.str b.1)=(V.bs.map (·.1)).map D.str by rw[List.map_map];rfl,hSa];walk_at"g";refine⟨_,V.bs.map (·.1),rfl,Lst.at rfl,by rw[List.length_map];lia,λn hn=>?_,ok.nd,?_⟩
 ·obtain⟨b,hb,rfl⟩:=List.mem_map.mp hn;exact ok.nm b hb
 walk_at"g";generalize (V.bs.map (·.1)).map D.str=nms;refine⟨g,y,V.cs,V.bs,rfl,hg.old,ok.gr,hy.old,by lia,λb hb=>⟨ok.st b hb,ok.bd b hb⟩,?_⟩;walk_at"g";refine⟨z,V.fs,rfl,hz.old,by lia,ok.fg,?_⟩;walk_at"g";refine⟨V.hz,_,_,_,rfl,ok.hh,ok.dl,ok.hz,?_⟩;obtain⟨gn,gl,rfl,hgn,hgl⟩:=hg;have hgn1:(S0++[.ins "Valley" [],.lst nms])[gn]?=some (.ins "Ground" [("corners",.ref gl)]):=zby hgn;walk_at"g";refine⟨_,_,V.cs,rfl,rfl,.inr ⟨gl,rfl,zby hgl⟩,ok.gr,⟨rfl,?_⟩⟩;rw[List.append_assoc,show(S0++[Cell.ins "Valley" [],.lst nms]).length=S0.length+2 by simp,show([Cell.ins "Valley" [],.lst nms]:Sto)++[.ins "Ground" [("corners",.ref (S0.length+2+1))],.lst (V.cs.map p2)]=[.ins "Valley" [],.lst nms,.ins "Ground" [("corners",.ref (S0.length+3))],.lst (V.cs.map p2)]from rfl];walk_at"g";refine⟨S0.length,[],rfl,zaV,by decide,?_⟩;rw[zb3,zoW];have hy2:∀ T,Lst (S0++T) y (V.bs.map bcD):=λT=>hy.old
 have hz2:∀ T,Lst (S0++T) z (V.fs.map fgD):=λT=>hz.old
 walk_at"g";refine⟨S0.length,_,rfl,zaV,by simp,?_⟩;rw[zb3,vp2];walk_at"g";refine⟨S0.length,_,rfl,zaV,by simp,?_⟩;rw[zb3,vp3];walk_at"g";refine⟨S0.length,_,rfl,zaV,by simp,?_⟩;rw[zb3,vp4];walk_at"g";refine⟨S0.length,_,rfl,zaV,by simp,?_⟩;rw[zb3,vp5];walk_at"g";refine⟨S0.length,_,rfl,zaV,by simp,?_⟩;rw[zb3,vp6];walk_at"g";refine⟨S0.length,_,rfl,zaV,by simp,?_⟩;rw[zb3,vp7];refine fin_same (q _ ⟨S0.length,_,_,_,rfl,zaV,⟨_,_,rfl,(zbT _ _ 2).trans rfl,(zbT _ _ 3).trans rfl⟩,(zbT _ _ 4).trans rfl,(zbT _ _ 5).trans rfl⟩)
def zfI:DSp:=zlQ "Valley" zc2
def zdf:DSp:=λds S Q=>∃ (x y z:D) (V:Vl),ds=[vlD x y z V]/\VlS S x y z V/\zd8 V/\∀ (T:Sto) (v:D),VAt (S++T) v V->Q v (S++T)
abbrev zhz:DS :=
    (zA (zG (dCall zej (zj (dB zeq (zj zba zE)) zE)) gn1)
 (zT (dCall zfI (zj vr1 (zj (dB zeq (zj zbj zE)) (zj (dB zeq (zj zdL zE)) (zj zdQ (zj ze9 (zj ziS (zj zl6 zE))))))))))
def zki:BodyOk 2 zhz zdf:=by
 rintro ds S Q ⟨x,y,z,V,rfl,hs,ok,q⟩;unfold zhz;obtain⟨kx,ky,kz⟩:=hs;walk_at"g";refine⟨S++[.lst (V.cs.map p2)],_,V.cs,by simp,rfl,Lst.at0,ok.gr,⟨rfl,?_⟩⟩;obtain⟨Sb,hSb⟩:∃ Sb:Sto,Sb=S++[Cell.lst (V.cs.map p2)]++[.ins "Ground" [("corners",.ref ((S++[Cell.lst (V.cs.map p2)]).length+1))],.lst (V.cs.map p2)]:=⟨_,rfl⟩
 have hg:GAt Sb (.ref (S.length+1)) V.cs:=hSb▸⟨_,_,by rw[show S.length+1=(S++[Cell.lst (V.cs.map p2)]).length by simp],zaV,(zbT _ _ 1).trans rfl⟩;have e1:∃ T,Sb=S++T:=zeF ⟨_,rfl⟩ hSb;have ky1:Lst Sb y (V.bs.map bcD):=by obtain⟨T,rfl⟩:=e1;exact ky.old
 have kz1:Lst Sb z (V.fs.map fgD):=by obtain⟨T,rfl⟩:=e1;exact kz.old
 rw[<- hSb];clear hSb;walk_at"g";have kz2:Lst (Sb++[.lst (V.bs.map bcD)]) z (V.fs.map fgD):=kz1.old;walk_at"g";refine⟨Sb++[.lst (V.bs.map bcD),.lst (V.fs.map fgD)],_,_,_,V,by simp,rfl,hg.old,Lst.at0,Lst.at (k:=1) rfl,ok,λT hv=>⟨rfl,?_⟩⟩;obtain⟨T1,rfl⟩:=e1
 have hv':VAt (S++(T1++([.lst (V.bs.map bcD),.lst (V.fs.map fgD)]++T))) (.ref ((S++T1)++[Cell.lst (V.bs.map bcD),.lst (V.fs.map fgD)]).length) V:=by
  have e:S++(T1++([Cell.lst (V.bs.map bcD),.lst (V.fs.map fgD)]++T))=S++T1++[Cell.lst (V.bs.map bcD),.lst (V.fs.map fgD)]++T:=by simp
  rw[e];exact hv
 have:=q _ _ hv';have e2:S++T1++[Cell.lst (V.bs.map bcD),.lst (V.fs.map fgD)]++T=S++(T1++([Cell.lst (V.bs.map bcD),.lst (V.fs.map fgD)]++T)):=by simp
 rw[e2];refine fin_same ?_;simpa using this
def ztW {cs:List (Int×Int)}{a b c:Int×Int}{j:Nat}(hj:cs[j]?=some c):(nbP cs a.1 b.1 j=true↔min a.1 b.1<c.1/\c.1<max a.1 b.1)/\(zb6 cs a b (j:Int)=true↔0<sdI a b c):=by
 have e:cs.getD j (0,0)=c:=by rw[List.getD_eq_getElem?_getD,hj];rfl
 have e2:cs.getD ((j:Int)).toNat (0,0)=c:=e;constructor
 ·unfold nbP;rw[e];simp
 ·unfold zb6;rw[e2];simp
def zcl:DSp:=λds S Q=>∃ (x:D) (cs:List (Int×Int)) (a b:Int×Int),ds=[x,p2 a,p2 b]/\Lst S x (cs.map p2)/\Grd cs/\(Bd 180 a.1/\Bd 200 a.2)/\(Bd 180 b.1/\Bd 200 b.2)/\Q (zbZ (zb4 cs a b)) S
abbrev zfM:DS :=
    (zA (sJ (sIf (dT (dOp oGt zb0 zcd)) (zoA 1 2 (zj vr2 ua1)) zZ))
 (zA (zG (dOp zag zcd zb0) gn3)
 (zA (zG (dOp zag zdM zcF) gn4)
 (zA (zbg (zbP (zj (dB za0 ua0) zE)) gn5 (zA (zG (dOp oIx vr0 vr5) (zce 2 (zaw gn6 (zaw gn7 zcg))))
 (sIf (zeu (dT (dOp oLt zb0 vr6)) (zeu (dT (dOp oLt vr6 zcd)) (dT (dOp oGt (dOp zac (dOp zag vr7 zcF) vr3) (dOp zac vr4 (dOp zag vr6 zb0)))))) (zT vr5) zZ)))
 (zT (dC .non))))))
def ziC:BodyOk 8 zfM zcl:=by
  rintro ds S Q ⟨x,cs,a,b,rfl,hx,gr,ba,bb,q⟩;unfold zfM;have g40:=gr.most;walk_at"g";walk_at"h";refine r_J (λZ S'=>S'=S/\∃ a' b':Int×Int,Z=[some x,some (p2 a'),some (p2 b'),none,none,none,none,none]/\a'.1<=b'.1/\(Bd 180 a'.1/\Bd 200 a'.2)/\(Bd 180 b'.1/\Bd 200 b'.2)/\Q (zbZ (zb4 cs a' b')) S) ?_ ?_
  . walk_at"g";refine r_d (λe=>?_) (λe=>?_)
    . walk_at"g";exact⟨rfl,b,a,rfl,by lia,bb,ba,by rw[zoj];exact q⟩
    . walk_at"g";exact⟨rfl,a,b,rfl,by lia,ba,bb,q⟩
  clear q ba bb;clear a b;rintro Z S' ⟨rfl,a,b,rfl,ab,ba,bb,q⟩;walk_at"g";rw[List.length_map];refine⟨_,rfl,by lia,by lia,?_⟩;have bw:Bd 181 (b.1-a.1):=Bd.sub bb.1 ba.1;have br:Bd 201 (b.2-a.2):=Bd.sub bb.2 ba.2;refine zaL (λi Z S2=>S2=S'/\∃ w5 w6 w7:Option D,Z=[some x,some (p2 a),some (p2 b),some (.int (b.1-a.1)),some (.int (b.2-a.2)),w5,w6,w7]/\∀ j:Nat,j<i->nbP cs a.1 b.1 j=true->zb6 cs a b (j:Int)=false) ⟨rfl,none,none,none,rfl,λj h=>by lia⟩ (λ_ _ _ _=>True.intro) ?_ ?_
  . rintro i d Z S2 hd ⟨rfl,w5,w6,w7,rfl,hn⟩;obtain⟨hi,rfl⟩:=zbc hd;have li:i<cs.length:=by lia
    obtain⟨c,hc,ac⟩:=zeS (cs:=cs) (k:=0+(i:Int)) (by lia) (by lia);have hc':cs[i]?=some c:=by rw[show(0+(i:Int)).toNat=i by lia]at hc;exact hc
    obtain⟨bc1,bc2⟩:=gr.bd c (List.mem_of_getElem? hc');obtain⟨p1,p2'⟩:=ztW (a:=a) (b:=b) hc';rw[Int.min_eq_left ab,Int.max_eq_right ab]at p1;have c1:zaa (c.2-a.2) (b.1-a.1):=.inl ⟨(Bd.sub (bc2.mono (by decide:(190:Nat)<=200)) ba.2).mono (by decide),bw.mono (by decide)⟩;have c2:zaa (b.2-a.2) (c.1-a.1):=.inl ⟨br.mono (by decide),(Bd.sub (bc1.mono (by decide:(170:Nat)<=180)) ba.1).mono (by decide)⟩
    have step:¬ (nbP cs a.1 b.1 i=true/\zb6 cs a b (i:Int)=true)->∀ j:Nat,j<i+1->nbP cs a.1 b.1 j=true->zb6 cs a b (j:Int)=false:=λno j hj h=>by
      rcases Nat.lt_or_ge j i with g|g
      . exact hn j g h
      . have:j=i:=by lia
        subst this;cases e:zb6 cs a b (j:Int)with
        |false=>rfl
        |true=>exact absurd ⟨h,e⟩ no
    walk_at"g";refine r_d (λe1=>?_) (λe1=>?_)
    . walk_at"g";refine r_d (λe2=>?_) (λe2=>?_)
      . walk_at"g"
        have es:(0<sdI a b c)↔(b.2-a.2)*(c.1-a.1)<(c.2-a.2)*(b.1-a.1):=by
          unfold sdI;rw[if_neg (show ¬ b.1-a.1<0 by lia)];have:(c.1-a.1)*(b.2-a.2)=(b.2-a.2)*(c.1-a.1):=Int.mul_comm _ _;unfold sdO;split
          . constructor<;>intro _<;>lia
          . split<;>constructor<;>intro _<;>lia
        refine r_d (λe3=>?_) (λe3=>?_)
        . walk_at"g";have:=zmI hn li (p1.mpr ⟨e1,e2⟩) (p2'.mpr (es.mpr (by lia)));rw[this]at q;refine fin_same ?_;rw[show(0:Int)+(i:Int)=i by lia];exact q
        . walk_at"g";exact⟨rfl,_,_,_,rfl,step λz=>by have:=es.mp (p2'.mp z.2);lia⟩
      . walk_at"g";exact⟨rfl,_,_,_,rfl,step λz=>by have:=p1.mp z.1;lia⟩
    . walk_at"g";exact⟨rfl,_,_,_,rfl,step λz=>by have:=p1.mp z.1;lia⟩
  rintro Z S2 ⟨rfl,w5,w6,w7,rfl,hn⟩;rw[zaK]at hn;rw[zra λj hj=>hn j (by lia)]at q;walk_at"g";exact fin_same q
def zcJ:DSp:=λds S Q=>∃ (L R B T:Int) (a b:Int×Int),ds=[.tup [.int L,.int R,.int B,.int T],p2 a,p2 b]/\(Bd 700 L/\Bd 700 R/\Bd 700 B/\Bd 700 T)/\(Bd 700 a.1/\Bd 700 a.2)/\(Bd 700 b.1/\Bd 700 b.2)/\∀ r:Bool,(r=true↔Hit L R B T a.1 a.2 b.1 b.2)->Q (.bl r) S
abbrev zgr:DS :=
    (zA (zG (dTup (zj ci0 (zj ci1 zE))) gn3)
 (zA (zG (dTup (zj ci1 (zj ci1 zE))) gn4)
 (zA (zbg (zbP (zj ci2 zE)) gn5 (zA (zG (dOp zag (dOp oIx vr2 vr5) (dOp oIx vr1 vr5)) gn6)
 (zA (zG (za6 (zj (dOp zag (dOp oIx vr0 (dOp zac ci2 vr5)) (dOp oIx vr1 vr5)) (zj (dOp zag (dOp oIx vr0 (dOp zaf (dOp zac ci2 vr5) ci1)) (dOp oIx vr1 vr5)) zE))) gn7)
 (zA (sIf (dT (dOp oEq vr6 ci0)) (zA (sIf (dOr (dT (dOp oGt zhD ci0)) (dT (dOp oLt zg9 ci0))) (zT (dC (.bl false))) zZ)
 zpF) zZ)
 (zA (sJ (sIf (dT (dOp oLt vr6 ci0)) (zA (zG (dUn za8 vr6) gn6)
 (zG (za6 (zj (dUn za8 zg9) (zj (dUn za8 zhD) zE))) gn7)) zZ))
 (zA (sJ (sIf (dT (dOp oGt (dOp zac zhD zhm) (dOp zac zem vr6))) (zG (dTup (zj zhD ua6)) gn3) zZ))
 (sIf (dT (dOp oLt (dOp zac zg9 zhi) (dOp zac zeL vr6))) (zG (dTup (zj zg9 ua6)) gn4) zZ)))))))
 (zT (dOp oLe (dOp zac zem zhi) (dOp zac zeL zhm))))))
def zjp:BodyOk 8 zgr zcJ:=by
 rintro ds S Q ⟨L,R,B,T,a,b,rfl,⟨bL,bR,bB,bT⟩,⟨ba1,ba2⟩,⟨bb1,bb2⟩,q⟩;unfold zgr;have b1:Bd 701 1:=(show Bd 2 1 by show(1:Int).natAbs<2 ^ 2;decide).mono (by decide);have b0:Bd 701 0:=(show Bd 2 0 by show(0:Int).natAbs<2 ^ 2;decide).mono (by decide);walk_at"g";refine⟨_,rfl,by decide,by decide,?_⟩;walk_at"h";refine zaL (λi Z S'=>i<=2/\∃ (l h:Int×Int) (w5 w6 w7:Option D) (G:Sto),S'=S++G/\Z=[some (.tup [.int L,.int R,.int B,.int T]),some (p2 a),some (p2 b),some (p2 l),some (p2 h),w5,w6,w7]/\0<l.2/\0<h.2/\(Bd 701 l.1/\Bd 701 l.2)/\(Bd 701 h.1/\Bd 701 h.2)/\∀ p q,0<q->(l.1*q<=p*l.2/\p*h.2<=h.1*q↔0<=p/\p<=q/\AxC L R B T a b i p q)) ⟨by lia,(0,1),(1,1),none,none,none,[],(List.append_nil S).symm,rfl,by decide,by decide,⟨b0,b1⟩,⟨b1,b1⟩,λp q hq=>by show 0*q<=p*1/\p*1<=1*q↔0<=p/\p<=q/\True;rw[and_true];lia⟩ (λ_ _ _ _=>True.intro) ?_ ?_
 ·rintro i d Z S' hd ⟨hi2,l,h,w5,w6,w7,G,rfl,rfl,l0,h0,⟨bl1,bl2⟩,⟨bh1,bh2⟩,hw⟩;obtain⟨hi,rfl⟩:=zbc hd;have hi:i<2:=hi
  obtain⟨lo,hi',u,v,a1,a2,a3,a4,blo,bhi,bu,bv,nxt,bad⟩:∃ lo hi' u v:Int,atD [.int L,.int R,.int B,.int T] (2*(0+(i:Int)))=some (.int lo)/\atD [.int L,.int R,.int B,.int T] (2*(0+(i:Int))+1)=some (.int hi')/\atD [.int a.1,.int a.2] (0+(i:Int))=some (.int u)/\atD [.int b.1,.int b.2] (0+(i:Int))=some (.int v)/\Bd 700 lo/\Bd 700 hi'/\Bd 700 u/\Bd 700 v/\(∀ p q,AxC L R B T a b (i+1) p q↔AxC L R B T a b i p q/\AxP lo hi' u v p q)/\(Hit L R B T a.1 a.2 b.1 b.2->∃ p q,0<q/\AxP lo hi' u v p q):=by
   have:i=0\/i=1:=by lia
   rcases this with rfl|rfl
   ·exact⟨L,R,a.1,b.1,rfl,rfl,rfl,rfl,bL,bR,ba1,bb1,λp q=>⟨λh=>⟨True.intro,h⟩,λh=>h.2⟩,by rintro⟨p,q,hq,_,_,h3,h4,_⟩;exact⟨p,q,hq,h3,h4⟩⟩
   ·exact⟨B,T,a.2,b.2,rfl,rfl,rfl,rfl,bB,bT,ba2,bb2,λp q=>Iff.rfl,by rintro⟨p,q,hq,_,_,_,_,h5,h6⟩;exact⟨p,q,hq,h5,h6⟩⟩
  have cm2:zaa 2 (0+(i:Int)):=.inr (.inl (by decide));have be0:Bd 701 (lo-u):=Bd.sub blo bu;have be1:Bd 701 (hi'-u):=Bd.sub bhi bu;have bst:Bd 701 (v-u):=Bd.sub bv bu
  have go:∀ (s e0 e1:Int) (w:Option D) (G':Sto),0<s->Bd 701 s->Bd 701 e0->Bd 701 e1->(∀ p q,AxP lo hi' u v p q↔e0*q<=p*s/\p*s<=e1*q)->∀ l' h':Int×Int,(l'=l/\e0*l.2<=l.1*s\/l'=(e0,s)/\l.1*s<=e0*l.2)->(h'=h/\h.1*s<=e1*h.2\/h'=(e1,s)/\e1*h.2<=h.1*s)->0<l'.2/\0<h'.2/\(Bd 701 l'.1/\Bd 701 l'.2)/\(Bd 701 h'.1/\Bd 701 h'.2)/\∀ p q,0<q->(l'.1*q<=p*l'.2/\p*h'.2<=h'.1*q↔0<=p/\p<=q/\AxC L R B T a b (i+1) p q):=λs e0 e1 w G' s0 bs b0 b1 ax l' h' hl hh=>by
   have key:∀ p q,0<q->((l'.1*q<=p*l'.2↔l.1*q<=p*l.2/\e0*q<=p*s)/\(p*h'.2<=h'.1*q↔p*h.2<=h.1*q/\p*s<=e1*q)):=λp q hq=>by
    constructor
    ·rcases hl with⟨rfl,k⟩|⟨rfl,k⟩
     ·exact zvi l0 s0 hq k
     ·exact zuU l0 s0 hq k
    ·rcases hh with⟨rfl,k⟩|⟨rfl,k⟩
     ·exact zvy h0 s0 hq k
     ·exact zuN h0 s0 hq k
   refine⟨?_,?_,?_,?_,λp q hq=>?_⟩
   ·rcases hl with⟨rfl,k⟩|⟨rfl,k⟩
    ·exact l0
    ·exact s0
   ·rcases hh with⟨rfl,k⟩|⟨rfl,k⟩
    ·exact h0
    ·exact s0
   ·rcases hl with⟨rfl,k⟩|⟨rfl,k⟩
    ·exact⟨bl1,bl2⟩
    ·exact⟨b0,bs⟩
   ·rcases hh with⟨rfl,k⟩|⟨rfl,k⟩
    ·exact⟨bh1,bh2⟩
    ·exact⟨b1,bs⟩
   ·have:=hw p q hq;rw[(key p q hq).1,(key p q hq).2,nxt p q,ax p q];constructor
    ·rintro⟨⟨k1,k2⟩,k3,k4⟩;obtain⟨k5,k6,k7⟩:=this.mp ⟨k1,k3⟩;exact⟨k5,k6,k7,k2,k4⟩
    ·rintro⟨k5,k6,k7,k2,k4⟩;obtain⟨k1,k3⟩:=this.mpr ⟨k5,k6,k7⟩;exact⟨⟨k1,k2⟩,k3,k4⟩
  walk_at"g";refine r_d (λe=>?_) (λe=>?_)
  ·walk_at"g";refine r_d (λe1=>?_) (λe1=>?_)
   ·walk_at"g";refine zau rfl (q false ⟨λz=>(by cases z),λz=>?_⟩);obtain⟨p,q,hq,hx⟩:=bad z;have:=(zh7 e hq).mp hx;lia
   walk_at"g";refine r_d (λe2=>?_) (λe2=>?_)
   ·walk_at"g";refine zau rfl (q false ⟨λz=>(by cases z),λz=>?_⟩);obtain⟨p,q,hq,hx⟩:=bad z;have:=(zh7 e hq).mp hx;lia
   ·walk_at"g";refine⟨by lia,l,h,_,_,_,_,rfl,rfl,l0,h0,⟨bl1,bl2⟩,⟨bh1,bh2⟩,λp q hq=>?_⟩;rw[hw p q hq,nxt p q,zh7 e hq];constructor
    ·rintro⟨k1,k2,k3⟩;exact⟨k1,k2,k3,by lia,by lia⟩
    ·rintro⟨k1,k2,k3,_⟩;exact⟨k1,k2,k3⟩
  refine zj1 ?_;refine zhC ?_;refine r_J (λZ S'=>∃ (s e0 e1:Int) (m:Nat) (G':Sto),S'=S++G'/\S'[m]?=some (.lst [.int e0,.int e1])/\Z=[some (.tup [.int L,.int R,.int B,.int T]),some (p2 a),some (p2 b),some (p2 l),some (p2 h),some (.int (0+(i:Int))),some (.int s),some (.ref m)]/\0<s/\Bd 701 s/\Bd 701 e0/\Bd 701 e1/\∀ p q,AxP lo hi' u v p q↔e0*q<=p*s/\p*s<=e1*q) ?_ ?_
  ·walk_at"g";refine r_d (λe1=>?_) (λe1=>?_)
   ·walk_at"g";exact⟨_,_,_,_,_,rfl,zgb,rfl,by lia,bst.neg,be1.neg,be0.neg,λp q=>zs4⟩
   ·walk_at"g";exact⟨_,_,_,_,_,rfl,zgb,rfl,by lia,bst,be0,be1,λp q=>zm3⟩
  rintro Z S' ⟨s,e0,e1,m,G',rfl,hm,rfl,s0,bs,be0',be1',ax⟩;have c1:zaa e0 l.2:=.inl ⟨be0'.mono (by decide),bl2.mono (by decide)⟩;have c2:zaa l.1 s:=.inl ⟨bl1.mono (by decide),bs.mono (by decide)⟩;have c3:zaa e1 h.2:=.inl ⟨be1'.mono (by decide),bh2.mono (by decide)⟩;have c4:zaa h.1 s:=.inl ⟨bh1.mono (by decide),bs.mono (by decide)⟩;refine zhC ?_;refine r_J (λZ S'=>S'=S++G'/\∃ l':Int×Int,(l'=l/\e0*l.2<=l.1*s\/l'=(e0,s)/\l.1*s<=e0*l.2)/\Z=[some (.tup [.int L,.int R,.int B,.int T]),some (p2 a),some (p2 b),some (p2 l'),some (p2 h),some (.int (0+(i:Int))),some (.int s),some (.ref m)]) ?_ ?_
  ·walk_at"g";refine r_d (λe1=>?_) (λe1=>?_)
   ·walk_at"g";exact⟨rfl,(e0,s),.inr ⟨rfl,by lia⟩,rfl⟩
   ·walk_at"g";exact⟨rfl,l,.inl ⟨rfl,by lia⟩,rfl⟩
  rintro Z S' ⟨rfl,l',hl',rfl⟩;walk_at"g";refine r_d (λe3=>?_) (λe3=>?_)
  ·walk_at"g";obtain⟨g1,g2,g3,g4,g5⟩:=go s e0 e1 none [] s0 bs be0' be1' ax l' (e1,s) hl' (.inr ⟨rfl,by lia⟩);exact⟨by lia,l',(e1,s),_,_,_,_,rfl,rfl,g1,g2,g3,g4,g5⟩
  ·walk_at"g";obtain⟨g1,g2,g3,g4,g5⟩:=go s e0 e1 none [] s0 bs be0' be1' ax l' h hl' (.inl ⟨rfl,by lia⟩);exact⟨by lia,l',h,_,_,_,_,rfl,rfl,g1,g2,g3,g4,g5⟩
 rintro Z S' ⟨_,l,h,w5,w6,w7,G,rfl,rfl,l0,h0,⟨bl1,bl2⟩,⟨bh1,bh2⟩,hw⟩;have c1:zaa l.1 h.2:=.inl ⟨bl1.mono (by decide),bh2.mono (by decide)⟩;have c2:zaa h.1 l.2:=.inl ⟨bh1.mono (by decide),bl2.mono (by decide)⟩;walk_at"g";have hw2:∀ p q,0<q->(l.1*q<=p*l.2/\p*h.2<=h.1*q↔0<=p/\p<=q/\AxC L R B T a b 2 p q):=hw;exact zau rfl (q _ (by rw[decide_eq_true_iff];exact zte l0 h0 hw2))
def zb7:DSp:=λds S Q=>∃ (F:Fg) (a b:Int×Int) (h:Int),ds=[fgD F,p2 a,p2 b,.int h]/\FgV F/\(Bd 200 a.1/\Bd 200 a.2)/\(Bd 200 b.1/\Bd 200 b.2)/\Bd 300 h/\∀ r:Bool,(r=true↔zbG F a.1 a.2 b.1 b.2 h)->Q (.bl r) S
abbrev zgB:DS :=
    (zA (sIf (dOr (dT (dOp oLt vr3 ze9)) (dT (dOp oGt vr3 ziS))) (zT (dC (.bl false))) zZ)
 (zA (zG (dOp zag vr3 ze9) gn4)
 (zA (zG (dOp zac zl6 vr4) gn5)
 (zA (zG (dOp zac zpl vr4) gn6)
 (zT (dCall zcJ (zj (dTup (zj (dOp zaf zba vr5) (zj (dOp zaf zbj vr5) (zj (dOp zaf zdL vr6) (zj (dOp zaf zdQ vr6) zE))))) (zj vr1 ua2))))))))
def zjL:BodyOk 7 zgB zb7:=by
 rintro ds S Q ⟨F,a,b,h,rfl,⟨fb,fo,ff,fl'⟩,⟨ba1,ba2⟩,⟨bb1,bb2⟩,bh,q⟩;unfold zgB;walk_at"g";refine r_d (λe=>?_) (λe=>?_)
 ·walk_at"g";exact fin_same (q false ⟨λz=>(by cases z),λz=>by have:=z.1;lia⟩)
 walk_at"g";refine r_d (λe2=>?_) (λe2=>?_)
 ·walk_at"g";exact fin_same (q false ⟨λz=>(by cases z),λz=>by have:=z.2.1;lia⟩)
 have bg:Bd 301 (h-F.f):=Bd.sub bh ff;have c1:zaa F.g (h-F.f):=.inl ⟨fb.bg.mono (by decide),bg.mono (by decide)⟩;have c2:zaa F.s (h-F.f):=.inl ⟨fb.bs.mono (by decide),bg.mono (by decide)⟩;have m1:Bd 501 (F.g*(h-F.f)):=Bd.mul fb.bg bg;have m2:Bd 501 (F.s*(h-F.f)):=Bd.mul fb.bs bg;have aD:∀ {x y:Int},Bd 600 x->Bd 501 y->Bd 700 (x+y):=λhx hy=>(Bd.add hx (hy.mono (by decide))).mono (by decide)
 walk_at"g";refine⟨_,_,_,_,a,b,rfl,⟨aD fb.b0 m1,aD fb.b1 m1,aD fb.b2 m2,aD fb.b3 m2⟩,⟨ba1.mono (by decide),ba2.mono (by decide)⟩,⟨bb1.mono (by decide),bb2.mono (by decide)⟩,λr hr=>?_⟩;exact fin_same (q r (hr.trans ⟨λz=>⟨by lia,by lia,z⟩,λz=>z.2.2⟩))
def zcc:DSp:=λds S Q=>∃ (x y z:D) (V:Vl) (k j:Nat) (h:Int),ds=[vlD x y z V,.int k,.int j,.int h]/\VlS S x y z V/\zd8 V/\Bd 300 h/\∃ n m s t,V.bs[k]?=some (n,s)/\V.bs[j]?=some (m,t)/\∀ d,zok V n m s t h d->Q d S
abbrev zfk:DS :=
    (zA (zG (dSl zlu (dOp oIx zbj vr1) (some ci1) none) gn4)
 (zA (zG (dSl zlu (dOp oIx zbj vr2) (some ci1) none) gn5)
 (zA (sIf (dT (dOp oEq vr1 vr2)) (zT (dC .non)) zZ)
 (zA (zG (dCall zcl (zj zba (zj vr4 ua5))) gn6)
 (zA (sIf (dT (dOp zet vr6 (dC .non))) (zT (dTup (zj (dC (.str "ground")) ua6))) zZ)
 (zA (zG (dOp zag zeL zpv) gn7)
 (zA (zG (dOp zag zhi zpo) gn8)
 (zA (sIf (zeu (dT (dOp zet zdQ (dC .non))) (dT (dOp oGt (dOp zaf (dOp zac vr7 vr7) (dOp zac vr8 vr8)) zdQ))) (zT (dTup (zj (dC (.str "haze")) (zj (dOp zaf (dOp zac vr7 vr7) (dOp zac vr8 vr8)) zE)))) zZ)
 (zA (zbg (zbP (zj (dB za0 (zj zdL zE)) zE)) gn9 (sIf (dT (dCall zb7 (zj (dOp oIx zdL vr9) (zj vr4 (zj vr5 ua3))))) (zT (dTup (zj (dC (.str "fog")) ua9))) zZ))
 (zT (dC .non)))))))))))
def zh8:BodyOk 10 zfk zcc:=by
 rintro ds S Q ⟨x,y,z,V,k,j,h,rfl,⟨kx,ky,kz⟩,ok,bh,n,m,s,t,hk,hj,q⟩;unfold zfk;have f12:=ok.f12;have ak:atD (V.bs.map bcD) (k:Nat)=some (bcD (n,s)):=zbw (by rw[List.getElem?_map,hk];rfl);have aj:atD (V.bs.map bcD) (j:Nat)=some (bcD (m,t)):=zbw (by rw[List.getElem?_map,hj];rfl);obtain⟨bs1,bs2⟩:=ok.bd _ (List.mem_of_getElem? hk);obtain⟨bt1,bt2⟩:=ok.bd _ (List.mem_of_getElem? hj);walk_at"g";refine r_d (λe=>?_) (λe=>?_)
 ·walk_at"g";have:k=j:=by lia
  subst this;rw[hk]at hj;cases hj;exact fin_same (q _ (.inl ⟨rfl,rfl⟩))
 have nm:n≠m:=λen=>by
  subst en;have a1:(V.bs.map (·.1))[k]?=some n:=by rw[List.getElem?_map,hk];rfl
  have a2:(V.bs.map (·.1))[j]?=some n:=by rw[List.getElem?_map,hj];rfl
  have lk:=zax a1;have lj:=zax a2
  have:=(List.getElem_inj (h₀:=lk) (h₁:=lj) ok.nd).mp (by rw[List.getElem?_eq_getElem lk]at a1;rw[List.getElem?_eq_getElem lj]at a2;exact(Option.some.inj a1).trans (Option.some.inj a2).symm)
  lia
 have q2:∀ d,((¬ Alw V s t/\d=zdh V s t)\/(Alw V s t/\zrB V.fs s t h d))->Q d S:=λd hd=>q d (.inr ⟨nm,hd⟩)
 clear q;walk_at"g";refine⟨x,V.cs,s,t,rfl,kx,ok.gr,⟨bs1,bs2⟩,⟨bt1,bt2⟩,?_⟩;cases hh:zb4 V.cs s t with
 |some c =>
  rw[ziu];walk_at"g";refine fin_same (q2 _ (.inl ⟨λz=>?_,?_⟩))
  ·have:=z.1;rw[hh]at this;cases this
  ·unfold zdh;rw[hh]
 |none =>
  rw[zik];have bw:Bd 201 (s.1-t.1):=Bd.sub (bs1.mono (by decide:(180:Nat)<=200)) (bt1.mono (by decide));have bv:Bd 201 (s.2-t.2):=Bd.sub bs2 bt2;have c1:zaa (s.1-t.1) (s.1-t.1):=.inl ⟨bw.mono (by decide),bw.mono (by decide)⟩;have c2:zaa (s.2-t.2) (s.2-t.2):=.inl ⟨bv.mono (by decide),bv.mono (by decide)⟩;have es:(s.1-t.1)*(s.1-t.1)+(s.2-t.2)*(s.2-t.2)=sqr s t:=by unfold sqr;grind
  walk_at"g"
  have rest:hzy V.hz (sqr s t)=false->zA (zbg (zbP (zj (dB za0 (zj (dOp oIx (zaZ 0) (dC (.int 2))) zE)) zE)) (zak 9) (sIf (dT (dCall zb7 (zj (dOp oIx (dOp oIx (zaZ 0) (dC (.int 2))) (zaZ 9)) (zj (zaZ 4) (zj (zaZ 5) (zj (zaZ 3) zE)))))) (zT (dTup (zj (dC (.str "fog")) (zj (zaZ 9) zE)))) zZ)) (zT (dC .non)) ⟨λ_ S'=>Fin S Q .non S',Fin S Q,λ_ _=>False,λ_ _=>False⟩ [some (vlD x y z V),some (.int k),some (.int j),some (.int h),some (p2 s),some (p2 t),some .non,some (.int (s.1-t.1)),some (.int (s.2-t.2)),none] S:=λhz0=>by
   have alw:Alw V s t:=⟨hh,hz0⟩
   walk_at"g";rw[List.length_map];refine⟨_,rfl,by lia,by lia,?_⟩;refine zaL (λi Z S2=>S2=S/\∃ w9:Option D,Z=[some (vlD x y z V),some (.int k),some (.int j),some (.int h),some (p2 s),some (p2 t),some .non,some (.int (s.1-t.1)),some (.int (s.2-t.2)),w9]/\∀ (j:Nat) G,j<i->V.fs[j]?=some G->¬ zbG G s.1 s.2 t.1 t.2 h) ⟨rfl,none,rfl,λj G hj=>by lia⟩ (λ_ _ _ _=>True.intro) ?_ ?_
   ·rintro i d Z S2 hd ⟨rfl,w9,rfl,hn⟩;obtain⟨hi,rfl⟩:=zbc hd;obtain⟨F,hF⟩:∃ F,V.fs[i]?=some F:=⟨_,List.getElem?_eq_getElem (by lia)⟩
    have aF:atD (V.fs.map fgD) (0+(i:Int))=some (fgD F):=by rw[show(0:Int)+(i:Int)=i by lia];exact zbw (by rw[List.getElem?_map,hF];rfl)
    walk_at"g";refine⟨F,s,t,h,rfl,ok.fg F (List.mem_of_getElem? hF),⟨bs1.mono (by decide),bs2⟩,⟨bt1.mono (by decide),bt2⟩,bh,λr hr=>?_⟩;walk_at"g";cases r with
    |true =>walk_at"g";refine fin_same (q2 _ (.inr ⟨alw,.inl ⟨i,F,hF,hr.mp rfl,hn,?_⟩⟩));rw[show(0:Int)+(i:Int)=i by lia]
    |false =>
     walk_at"g";refine⟨rfl,_,rfl,λj G hj hG=>?_⟩;rcases Nat.lt_or_ge j i with g|g
     ·exact hn j G g hG
     ·have:j=i:=by lia
      subst this;rw[hF]at hG;cases hG;exact λz=>by cases hr.mpr z
   ·rintro Z S2 ⟨rfl,w9,rfl,hn⟩;rw[zaK]at hn;walk_at"g";refine fin_same (q2 _ (.inr ⟨alw,.inr ⟨λF hF=>?_,rfl⟩⟩));obtain⟨i,hi,ei⟩:=List.mem_iff_getElem.mp hF;exact hn i F (by lia) (by rw[List.getElem?_eq_getElem hi,ei])
  cases hz:V.hz with
  |none =>rw[hz]at rest;rw[zik];walk_at"g";exact rest rfl
  |some hv =>
   rw[ziu,show zdl (.int hv)=false from rfl];have ax:atD [x,y,z,zbZ V.hz,.int V.h0,.int V.h1,.int V.dl] 3=some (.int hv):=by rw[hz];rfl
   have es':((n,s).2.1-(m,t).2.1)*((n,s).2.1-(m,t).2.1)+((n,s).2.2-(m,t).2.2)*((n,s).2.2-(m,t).2.2)=sqr s t:=es;walk_at"g";rw[es'];refine r_d (λe=>?_) (λe=>?_)
   ·walk_at"g";rw[es'];have hy:hzy V.hz (sqr s t)=true:=by rw[hz];exact decide_eq_true e
    refine fin_same (q2 _ (.inl ⟨λz=>?_,?_⟩))
    ·have:=z.2;rw[hy]at this;cases this
    ·unfold zdh;rw[hh,if_pos hy]
   ·refine zj1 ?_;exact rest (by rw[hz];exact decide_eq_false e)
def zcG:zc0:=λds S Q ex=>∃ (v:D) (V:Vl) (n:Str),ds=[v,.str n]/\VAt S v V/\zd8 V/\fl 20 (.str n)=true/\((∀ b∈V.bs,b.1≠n)->ex "NoBeacon" S)/\∀ s,(n,s)∈V.bs->Q (p2 s) S
abbrev zir (ex : XR) : DS :=
    (zA (zbg (zbf (zcx "beacons" vr0)) gn2 (sIf (dT (dOp oEq zcd vr1)) (zT (dTup (zj zdM (zj zur zE)))) zZ))
 (zfB ex "NoBeacon"))
def zlT:zcB 3 zir zcG:=by
 rintro ds S Q ex ⟨v,V,n,rfl,hv,ok,hn,hx,q⟩;unfold zir;obtain⟨m,g,b',f,rfl,hm,hg,hb,_⟩:=hv;walk_at"g";refine zaL (λi Z S'=>S'=S/\(∃ w,Z=[some (.ref m),some (.str n),w])/\∀ b∈V.bs.take i,b.1≠n) ⟨rfl,⟨none,rfl⟩,by simp⟩ (λi Z S' h=>h.1▸Lst.here hb) ?_ ?_
 ·rintro i d Z S' hd ⟨rfl,⟨w,rfl⟩,hno⟩;obtain⟨b,hbi,rfl⟩:=zg7 hd;have mb:=List.mem_of_getElem? hbi;walk_at"g";refine znn (zfW (ok.nm b mb) 20) hn ?_;walk_at"g";refine r_d (λh=>?_) (λh=>?_)
  ·walk_at"g";exact fin_same (q b.2 (by rw[<- h];exact mb))
  ·walk_at"g";refine⟨rfl,⟨_,rfl⟩,λc hc=>?_⟩;rw[zai hbi]at hc;rcases List.mem_append.mp hc with hc|hc
   ·exact hno c hc
   ·have:c=b:=by simpa using hc
    subst this;exact h
 ·rintro Z S' ⟨rfl,⟨w,rfl⟩,hno⟩;rw[List.length_map,List.take_length]at hno;walk_at"g";exact hx hno
def zaE:zc0:=λds S Q ex=>∃ (g:D) (cs:List (Int×Int)) (s:Int×Int),ds=[g,p2 s]/\GAt S g cs/\Grd cs/\Bd 180 s.1/\Bd 200 s.2/\(¬ zcv cs s->ex "OffGround" S)/\(zcv cs s->Q .non S)
abbrev zcA (ex:XR):DS :=(sIf (zd2 (dT (dCall zdr (zj vr0 ua1)))) (zfB ex "OffGround") zZ)
def zex:zcB 2 zcA zaE:=by
 rintro ds S Q ex ⟨g,cs,s,rfl,hg,gr,b1,b2,hx,q⟩;unfold zcA;walk_at"g";refine⟨g,cs,s,rfl,hg,gr,b1,b2,λb hb=>?_⟩;cases b with
 | true=>walk_at"g";exact fin_same (q (hb.mp rfl))
 | false=>walk_at"g";exact hx λz=>(by have:=hb.mpr z;cases this)
def zbi:DSp:=λds S Q=>∃ (g:D) (cs:List (Int×Int)) (x y:Int),ds=[g,.int x,.int y]/\GAt S g cs/\cs.length<=40/\New Q S ((nbK cs x y cs.length).map D.int)
abbrev zdE:DS :=
    (zA (zG (dB zeY (zj vr1 ua2)) gn3)
 (zA (zG (dB zec (zj vr1 ua2)) gn4)
 (zT (dLC 2 [3,4] (zlP (zj (zcx "corners" vr0) zE)) (zce 2 (zaw gn0 (zaw gn1 zcg))) (dT (zg0 oLt oLt vr2 zb0 vr3)) vr0))))
def zfJ:BodyOk 5 zdE zbi:=by
 rintro ds S Q ⟨g,cs,x,y,rfl,⟨n,l,rfl,hn,hl⟩,h40,q⟩;unfold zdE;walk_at"g";refine zvE (xs:=cs.map p2) (Lst.here hl) ?_;refine⟨by rw[zb1,List.length_map];unfold big;lia,λi ys S'=>S'=S/\ys=(nbK cs x y i).map D.int,⟨rfl,rfl⟩,by rintro i ys S' ⟨e,_⟩;exact e▸Lst.here hl,?_,?_⟩
 ·rintro i d ys S' hd ⟨rfl,rfl⟩;obtain⟨u,hu,rfl⟩:=zen hd;obtain⟨c,hc,rfl⟩:=zcR hu;have e0:((0+i:Nat):Int)=(i:Int):=by lia
  have eg:cs.getD i (0,0)=c:=by rw[List.getD_eq_getElem?_getD,hc];rfl
  rw[e0];walk_at"g";refine r_d (λg1=>?_) (λg1=>?_)
  ·walk_at"g";refine r_d (λg2=>?_) (λg2=>?_)
   ·walk_at"g";exact⟨rfl,(zvk (by unfold nbP;rw[eg,decide_eq_true g1,decide_eq_true g2];rfl)).symm⟩
   ·walk_at"g";exact⟨rfl,by rw[zpy (by unfold nbP;rw[eg,decide_eq_false g2,Bool.and_false])]⟩
  ·walk_at"g";exact⟨rfl,by rw[zpy (by unfold nbP;rw[eg,decide_eq_false g1,Bool.false_and])]⟩
 ·rintro ys S' ⟨rfl,rfl⟩;rw[zb1,List.length_map];exact fin_same q
def zdG:DSp:=λds S Q=>∃ (a b c:Int×Int),ds=[p2 a,p2 b,p2 c]/\zaa (c.2-a.2) (b.1-a.1)/\zaa (c.1-a.1) (b.2-a.2)/\Q (.int (sdI a b c)) S
abbrev zic:DS :=
    (zA (zG (dOp zag zb0 zba) gn3)
 (zA (zG (dOp zag zcF zbj) gn4)
 (zA (zG (dOp zag (dOp zac (dOp zag zdM zbj) vr3) (dOp zac (dOp zag zcd zba) vr4)) gn5)
 (zA (sJ (sIf (dT (dOp oLt vr3 ci0)) (zG (dUn za8 vr5) gn5) zZ))
 (zA (sIf (dT (dOp oGt vr5 ci0)) (zT ci1) zZ)
 (zA (sIf (dT (dOp oLt vr5 ci0)) (zT (dUn za8 ci1)) zZ)
 (zT ci0)))))))
def zmk:BodyOk 6 zic zdG:=by
 rintro ds S Q ⟨a,b,c,rfl,c1,c2,q⟩;unfold zic;walk_at"g";unfold sdI at q
 have key:∀ o:Int,o=(if b.1-a.1<0 then -sdO a b c else sdO a b c)->(if 0<o then Q (.int 1) S else if o<0 then Q (.int (-1)) S else Q (.int 0) S):=λo e=>by
  rw[<- e]at q;by_cases h:0<o
  ·rw[if_pos h]at q ⊢;exact q
  ·rw[if_neg h]at q ⊢;by_cases h2:o<0
   ·rw[if_pos h2]at q ⊢;exact q
   ·rw[if_neg h2]at q ⊢;exact q
 refine r_J (λZ S'=>S'=S/\Z=[some (p2 a),some (p2 b),some (p2 c),some (.int (b.1-a.1)),some (.int (b.2-a.2)),some (.int (if b.1-a.1<0 then -sdO a b c else sdO a b c))]) ?_ ?_
 ·walk_at"g";refine r_d (λg=>?_) (λg=>?_)
  ·walk_at"g";exact⟨rfl,by rw[if_pos g];rfl⟩
  ·walk_at"g";exact⟨rfl,by rw[if_neg g];rfl⟩
 rintro Z S' ⟨rfl,rfl⟩;have k:=key _ rfl;generalize (if b.1-a.1<0 then -sdO a b c else sdO a b c)=o at k;walk_at"g";refine r_d (λg=>?_) (λg=>?_)
 ·rw[if_pos g]at k;walk_at"g";exact fin_same k
 ·rw[if_neg g]at k;walk_at"g";refine r_d (λg2=>?_) (λg2=>?_)
  ·rw[if_pos g2]at k;walk_at"g";exact fin_same k
  ·rw[if_neg g2]at k;walk_at"g";exact fin_same k
def zed:zc0:=λds S Q ex=>∃ (g:D) (cs:List (Int×Int)) (a b:Int×Int),ds=[g,p2 a,p2 b]/\GAt S g cs/\Grd cs/\(Bd 180 a.1/\Bd 200 a.2)/\(Bd 180 b.1/\Bd 200 b.2)/\(¬ (zcv cs a/\zcv cs b)->ex "OffGround" S)/\(zcv cs a->zcv cs b->Q (zbZ (zb4 cs a b)) S)
abbrev zjG (ex : XR) : DS :=
    (zA (zaY (zb2 zaE ex (zj vr0 ua1)))
 (zA (zaY (zb2 zaE ex (zj vr0 ua2)))
 (zA (zbg (zbf (dCall zbi (zj vr0 (zj zb0 (zj zcd zE))))) gn3 (sIf (dT (dOp oGt (dCall zdG (zj vr1 (zj vr2 (zj (dOp oIx (zcx "corners" vr0) vr3) zE)))) ci0)) (zT vr3) zZ))
 (zT (dC .non)))))
def zmy:zcB 4 zjG zed:=by
 rintro ds S Q ex ⟨g,cs,a,b,rfl,hg,gr,ba,bb,hx,q⟩;unfold zjG;walk_at"g";refine⟨g,cs,a,rfl,hg,gr,ba.1,ba.2,λz=>hx λy=>z y.1,λza=>?_⟩;walk_at"g";refine⟨g,cs,b,rfl,hg,gr,bb.1,bb.2,λz=>hx λy=>z y.2,λzb=>?_⟩;have sa:=Std.of ba.1 ba.2 za;have sb:=Std.of bb.1 bb.2 zb;have q:=q za zb;walk_at"g";refine⟨g,cs,_,_,rfl,hg,gr.most,?_⟩;have kl:∀ k∈nbK cs a.1 b.1 cs.length,0<=k/\k<cs.length:=λk hk=>zss hk
 unfold zb4 at q;generalize nbK cs a.1 b.1 cs.length=ks at q kl;unfold New;walk_at"g";refine zaL (λi Z S'=>∃ w1,Z=[some g,some (p2 a),some (p2 b),w1]/\S'=S++[.lst (ks.map D.int)]/\∀ x∈ks.take i,zb6 cs a b x=false) ⟨none,rfl,rfl,by simp⟩ (by rintro i Z S' ⟨w1,_,e,_⟩;exact e▸Lst.at0) ?_ ?_
 ·rintro i d Z S' hd ⟨w1,rfl,rfl,hn⟩;obtain⟨k,hk,rfl⟩:=zdX hd;obtain⟨k0,k1⟩:=kl k (List.mem_of_getElem? hk);obtain⟨c,hc,ac⟩:=zeS (cs:=cs) k0 k1;have eg:cs.getD k.toNat (0,0)=c:=by rw[List.getD_eq_getElem?_getD,hc];rfl
  obtain⟨bc1,bc2⟩:=gr.bd c (List.mem_of_getElem? hc);obtain⟨n,l,rfl,hgn,hgl⟩:=hg.old (T:=[.lst (ks.map D.int)]);walk_at"g";refine⟨a,b,c,rfl,.inl ⟨(Bd.sub (bc2.mono (by decide:(190:Nat)<=200)) sa.2.1).mono (by decide),(Bd.sub sb.1 sa.1).mono (by decide)⟩,.inl ⟨(Bd.sub (bc1.mono (by decide:(170:Nat)<=180)) sa.1).mono (by decide),(Bd.sub sb.2.1 sa.2.1).mono (by decide)⟩,?_⟩;walk_at"g";refine r_d (λg1=>?_) (λg1=>?_)
  ·walk_at"g";rw[zk1 hk hn (by unfold zb6;rw[eg];exact decide_eq_true g1)]at q;exact zau rfl q
  ·walk_at"g";refine⟨_,rfl,rfl,λx hx=>?_⟩;rw[zai hk]at hx;rcases List.mem_append.mp hx with hx|hx
   ·exact hn x hx
   ·have:x=k:=by simpa using hx
    subst this;unfold zb6;rw[eg];exact decide_eq_false g1
 ·rintro Z S' ⟨w1,rfl,rfl,hn⟩;rw[List.length_map,List.take_length]at hn;rw[zqZ hn]at q;walk_at"g";exact zau rfl q
def zbr:DSp:=λds S Q=>∃ (a b:Int×Int),ds=[p2 a,p2 b]/\(Bd 180 a.1/\Bd 200 a.2)/\(Bd 180 b.1/\Bd 200 b.2)/\Q (.int (sqr a b)) S
abbrev zd7:DS :=
    (zA (zG (dOp zag zb0 zba) gn2)
 (zA (zG (dOp zag zcF zbj) gn3)
 (zT (dOp zaf (dOp zac vr2 vr2) (dOp zac vr3 vr3)))))
def zgo:BodyOk 4 zd7 zbr:=by rintro ds S Q ⟨a,b,rfl,⟨a1,a2⟩,⟨b1,b2⟩,q⟩;unfold zd7;have c1:Bd 8000 (b.1-a.1):=(Bd.sub b1 a1).mono (by decide);have c2:Bd 8000 (b.2-a.2):=(Bd.sub b2 a2).mono (by decide);have m1:zaa (b.1-a.1) (b.1-a.1):=.inl ⟨c1,c1⟩;have m2:zaa (b.2-a.2) (b.2-a.2):=.inl ⟨c2,c2⟩;walk_at"g";exact fin_same q
def zbM:DSp:=λds S Q=>∃ (v:D) (V:Vl) (a b:Int×Int),ds=[v,p2 a,p2 b]/\VAt S v V/\zd8 V/\((Bd 180 a.1/\Bd 200 a.2)/\zcv V.cs a)/\((Bd 180 b.1/\Bd 200 b.2)/\zcv V.cs b)/\Q (zdh V a b) S
abbrev zel:DS :=
    (zA (zG (zb2 zed xF (zj (zcx "ground" vr0) (zj vr1 ua2))) gn3)
 (zA (sIf (dT (dOp zet vr3 (dC .non))) (zT (dTup (zj (dC (.str "ground")) ua3))) zZ)
 (zA (zG (dCall zbr (zj vr1 ua2)) gn4)
 (zA (sIf (zeu (dT (dOp zet (zcx "haze" vr0) (dC .non))) (dT (dOp oGt vr4 (zcx "haze" vr0)))) (zT (dTup (zj (dC (.str "haze")) ua4))) zZ)
 (zT (dC .non))))))
def zgH:BodyOk 5 zel zbM:=by
 rintro ds S Q ⟨v,V,a,b,rfl,hv,ok,⟨ba,sa⟩,⟨bb,sb⟩,q⟩;unfold zel;obtain⟨n,g,bb',f,rfl,hn,hg,_,_⟩:=hv;walk_at"g";refine⟨_,V.cs,a,b,rfl,hg,ok.gr,ba,bb,λno=>(no ⟨sa,sb⟩).elim,λ_ _=>?_⟩;unfold zdh at q;cases e:zb4 V.cs a b with
 |some k =>rw[e]at q;unfold zbZ;walk_at"g";exact fin_same q
 |none =>
  rw[e]at q;unfold zbZ;walk_at"g";refine⟨a,b,rfl,ba,bb,?_⟩;dsimp only at q;have hn':S[n]?=some (.ins "Valley" (vF (.ref g) (.ref bb') (.ref f) (zbZ V.hz) (.int V.h0) (.int V.h1) (.int V.dl))):=hn;generalize sqr a b=sq at q;generalize V.hz=hz at q hn';cases hz with
  |none =>have q2:Q .non S:=q;unfold zbZ at hn';walk_at"g";exact fin_same q2
  |some z =>
   have q2:Q (if decide (z<sq)=true then .tup [.str "haze",.int sq]else .non) S:=q;unfold zbZ at hn';walk_at"g";refine r_d (λh=>?_) (λh=>?_)
   ·rw[if_pos (decide_eq_true h)]at q2;walk_at"g";exact fin_same q2
   ·rw[if_neg (by rw[decide_eq_false h];decide)]at q2;walk_at"g";exact fin_same q2
def zd9:DSp:=λds S Q=>∃ (F:Fg) (h:Int),ds=[fgD F,.int h]/\zaa F.g h/\zaa F.s h/\Q (.tup [.int (F.x0+F.g*h),.int (F.x1+F.g*h),.int (F.z0+F.s*h),.int (F.z1+F.s*h)]) S
abbrev zkM:DS :=
    (zA (zG (dOp zac zl6 vr1) gn2)
 (zA (zG (dOp zac zpl vr1) gn3)
 (zT (dTup (zj (dOp zaf zba vr2) (zj (dOp zaf zbj vr2) (zj (dOp zaf zdL vr3) (zj (dOp zaf zdQ vr3) zE))))))))
def zon:BodyOk 4 zkM zd9:=by rintro ds S Q ⟨F,h,rfl,c1,c2,q⟩;unfold zkM;walk_at"g";exact fin_same q
def zcN:DSp:=λds S Q=>∃ (L R B T x1 z1 x2 z2:Int),ds=[.tup [.int L,.int R,.int B,.int T],.tup [.int x1,.int z1],.tup [.int x2,.int z2]]/\Bd 1000 L/\Bd 1000 R/\Bd 1000 B/\Bd 1000 T/\Bd 1000 x1/\Bd 1000 z1/\Bd 1000 x2/\Bd 1000 z2 /\
 ∀ (ca cb:Cell) (mx mn:Int),mx∈acr L R B T x1 z1 x2 z2->(∀ a∈acr L R B T x1 z1 x2 z2,a<=mx)->mn∈acr L R B T x1 z1 x2 z2->(∀ a∈acr L R B T x1 z1 x2 z2,mn<=a)->Q (.ref (S.length+2)) (S++[ca,cb,.lst ((six L R B T x1 z1 x2 z2 mx mn).map D.int)])
abbrev ziy:DS :=
    (zA (zG (dOp zag zcd zb0) gn3)
 (zA (zG (dOp zag zdM zcF) gn4)
 (zA (zG (za6 (zj (dTup (zj zba (zj zdL zE))) (zj (dTup (zj zba (zj zdQ zE))) (zj (dTup (zj zbj (zj zdL zE))) (zj (dTup (zj zbj (zj zdQ zE))) zE))))) gn5)
 (zA (zG (dLC 2 [3,1,4] (zbf vr5) (zce 2 (zaw gn0 (zaw gn1 zcg))) zbL (dOp zag (dOp zac vr2 (dOp zag vr1 zhm)) (dOp zac vr4 (dOp zag vr0 zem)))) gn6)
 (zT (za6 (zj (dOp zag (dB zec (zj zb0 (zj zcd zE))) zba) (zj (dOp zag zbj (dB zeY (zj zb0 (zj zcd zE)))) (zj (dOp zag (dB zec (zj zcF (zj zdM zE))) zdL) (zj (dOp zag zdQ (dB zeY (zj zcF (zj zdM zE)))) (zj (dB zme ua6) (zj (dUn za8 (dB zlA ua6)) zE))))))))))))
def zlJ:BodyOk 7 ziy zcN:=by
 rintro ds S Q ⟨L,R,B,T,x1,z1,x2,z2,rfl,bL,bR,bB,bT,b1,b2,b3,b4,q⟩;unfold ziy;walk_at"g";refine zbx (λ_=>true) (on2 λc=>.int ((x2-x1)*(c.2-z1)-(z2-z1)*(c.1-x1))) (by walk_at"l") (Nat.le_of_ble_eq_true rfl) (λi d ys hd hw=>?_) ?_
 ·obtain⟨c,hc,rfl⟩:=zcR (cs:=[(L,B),(L,T),(R,B),(R,T)]) hd;have hm:=List.mem_of_getElem? hc
  have hb:Bd 1000 c.1/\Bd 1000 c.2:=by
   simp only[List.mem_cons,List.not_mem_nil,or_false]at hm;rcases hm with rfl|rfl|rfl|rfl
   ·exact⟨bL,bB⟩
   ·exact⟨bL,bT⟩
   ·exact⟨bR,bB⟩
   ·exact⟨bR,bT⟩
  have hb1:=hb.1;have hb2:=hb.2;have c1:zaa (x2-x1) (c.2-z1):=.inl ⟨(Bd.sub b3 b1).mono (by decide),(Bd.sub hb2 b2).mono (by decide)⟩;have c2:zaa (z2-z1) (c.1-x1):=.inl ⟨(Bd.sub b4 b2).mono (by decide),(Bd.sub hb1 b1).mono (by decide)⟩;walk_at"g";exact zcT hd hw rfl rfl
 rw[filter_true];show New _ _ ((acr L R B T x1 z1 x2 z2).map D.int);walk_at"g";refine zrP (ns:=acr L R B T x1 z1 x2 z2) (by walk_at"l") (Nat.le_of_ble_eq_true rfl) λmx m1 m2=>?_
 walk_at"g";refine zr2 (ns:=acr L R B T x1 z1 x2 z2) (by walk_at"l") (Nat.le_of_ble_eq_true rfl) λmn n1 n2=>?_
 walk_at"g";exact fin_same (q _ _ mx mn m1 m2 n1 n2)
def zdb:DSp:=λds S Q=>∃ (x:D) (cs:List (Int×Int)),ds=[x]/\zdA S x (cs.map p2)/\cs.length<=4000/\(cs.filter lec).length<64 /\
 ∀ ms:List (Int×Int),zae ms->(∀ h,ms.any (inS h)=cs.any (inS h))->ms.length<=(cs.filter lec).length->Q (.tup (ms.map p2)) S
def zlH {ss:List (Int×Int)}(srt:ss.Pairwise λa b=>zgR b a=false){i:Nat}{c d:Int×Int}(hc:ss[i]?=some c)(hd:d∈ss.take i):d.1<=c.1:=by obtain⟨j,hj,e⟩:=List.mem_iff_getElem.mp hd;rw[List.length_take]at hj;rw[List.getElem_take]at e;have hi:=zax hc;rw[List.getElem?_eq_getElem hi]at hc;cases hc;subst e;exact ztD (List.pairwise_iff_getElem.mp srt j i (by lia) hi (by lia))
def zfj {ss:List (Int×Int)}{i:Nat}{c:Int×Int}(hc:ss[i]?=some c)(h:Int):(ss.take (i+1)).any (inS h)=((ss.take i).any (inS h)||inS h c):=by rw[zai hc,List.any_append];simp
def zpC {α:Type}{l:List α}(h:0<l.length):∃ i x,l=i++[x]:=by
 have:l≠[]:=λe=>by rw[e]at h;cases h
 exact⟨l.dropLast,l.getLast this,(List.dropLast_concat_getLast this).symm⟩
abbrev zmS:DS :=
    (zA (zG (za6 zE) gn1)
 (zA (zbg (zbf (dB zl8 (zj (dLC 1 [] (zbf vr0) gn0 (dT (dOp oLe zba zbj)) (dTup (zj zba (zj zbj zE)))) zE))) (zce 2 (zaw gn2 (zaw gn3 zcg))) (sIf (zeu (dT (dOp oGt (dB za0 ua1) ci0)) (dT (dOp oLe vr2 (dOp zaf (dOp oIx (dOp oIx vr1 (dUn za8 ci1)) ci1) ci1)))) (zG (dTup (zj (dOp oIx (dOp oIx vr1 (dUn za8 ci1)) ci0) (zj (dB zec (zj (dOp oIx (dOp oIx vr1 (dUn za8 ci1)) ci1) ua3)) zE))) (zgP vr1 (dUn za8 ci1))) (zaY (dM zbY vr1 (zj (dTup (zj vr2 ua3)) zE)))))
 (zT (dB zja ua1))))
def zqF:BodyOk 4 zmS zdb:=by
 rintro ds S Q ⟨x,cs,rfl,hx,hcl,hfl,q⟩;unfold zmS;walk_at"g";refine zs9 (xs:=cs.map p2) hx.old λok hok=>?_
 refine zbx (ztf lec) (on2 p2) (by have:=hok [];rwa[List.append_nil]at this) ?_ (λi d ys hd hw=>?_) ?_
 ·rw[List.length_map];unfold big;lia
 ·obtain⟨c,hc,rfl⟩:=zcR hd;walk_at"g";refine r_d (λg=>?_) (λg=>?_)
  ·walk_at"g";exact zcT hd hw (decide_eq_true g) rfl
  ·walk_at"g";exact zt1 hd hw (decide_eq_false g)
 rw[zo0,zqJ];walk_at"g";refine zpQ (cs:=cs.filter lec) (Lst.at rfl) hfl λss perm srt=>?_
 have hsl:ss.length=(cs.filter lec).length:=perm.length_eq;have hsle:∀ c∈ss,c.1<=c.2:=λc hc=>of_decide_eq_true (List.mem_filter.mp (perm.mem_iff.mp hc)).2
 walk_at"g"
 refine zaL (λi Z S'=>∃ (ms:List (Int×Int)) (w1 w2:Option D),Z=[some x,some (.ref S.length),w1,w2]/\S'=S++[.lst (ms.map p2),.lst ((cs.filter lec).map p2),.lst (ss.map p2)]/\zae ms/\ms.length<=i /\
  (∀ h,ms.any (inS h)=(ss.take i).any (inS h))/\∀ m∈ms,∃ d∈ss.take i,m.1=d.1)
  ⟨[],none,none,rfl,rfl,zae.nil,Nat.le_refl _,λh=>rfl,by simp⟩ (by rintro i Z S' ⟨ms,w1,w2,_,e,_⟩;exact e▸Lst.at rfl) ?_ ?_
 ·rintro i d Z S' hd ⟨ms,w1,w2,rfl,rfl,ok,hml,hany,hlow⟩;obtain⟨c,hc,rfl⟩:=zcR hd;have hil:=zax hc;have hcle:=hsle c (List.mem_of_getElem? hc)
  have low:∀ m∈ms,m.1<=c.1:=λm hm=>by obtain⟨d,hd,e⟩:=hlow m hm;rw[e];exact zlH srt hc hd
  have hlow':∀ m,(∃ d∈ss.take i,m=d.1)->∃ d∈ss.take (i+1),m=d.1:=by rintro m ⟨d,hd,e⟩;exact⟨d,by rw[zai hc];exact List.mem_append_left _ hd,e⟩
  have hnew:∃ d∈ss.take (i+1),c.1=d.1:=⟨c,by rw[zai hc];simp,rfl⟩
  have app:(∀ m∈ms,m.2+2<=c.1)->∃ (ms':List (Int×Int)) (w1 w2:Option D),([some x,some (.ref S.length),some (.int c.1),some (.int c.2)]:Rho)=[some x,some (.ref S.length),w1,w2]/\S++[Cell.lst (ms.map p2++[p2 c]),.lst ((cs.filter lec).map p2),.lst (ss.map p2)]=S++[.lst (ms'.map p2),.lst ((cs.filter lec).map p2),.lst (ss.map p2)]/\zae ms'/\ms'.length<=i+1 /\
    (∀ h,ms'.any (inS h)=(ss.take (i+1)).any (inS h))/\∀ m∈ms',∃ d∈ss.take (i+1),m.1=d.1:=λap=>by
   refine⟨ms++[c],_,_,rfl,by rw[List.map_append];rfl,ok.snoc hcle ap,by rw[List.length_append];exact Nat.succ_le_succ hml,λh=>by rw[List.any_append,hany h,zfj hc];simp,λy hy=>?_⟩;rcases List.mem_append.mp hy with hy|hy
   ·exact hlow' _ (hlow y hy)
   ·have:y=c:=by simpa using hy
    subst this;exact hnew
  walk_at"g";rw[List.length_map];refine r_d (λh0=>?_) (λh0=>?_)
  ·obtain⟨ms0,m,rfl⟩:=zpC (l:=ms) (by lia);have hm1:=low m (by simp);have am:atD (List.map p2 (ms0++[m])) (-1)=some (p2 m):=by rw[List.map_append];exact zeQ
   have im:ixD (List.map p2 (ms0++[m])).length (-1)=some (ms0.map p2).length:=by rw[List.map_append];exact zkb
   walk_at"g";refine r_d (λh1=>?_) (λh1=>?_)
   ·walk_at"g";refine zlW zaV im ?_;walk_at"g";obtain⟨ok2,any2⟩:=zoE ok hcle hm1 h1;refine⟨ms0++[(m.1,max m.2 c.2)],_,_,rfl,?_,ok2,by rw[List.length_append]at hml ⊢;exact Nat.le_succ_of_le hml,λh=>by rw[any2 h,hany h,zfj hc],λy hy=>?_⟩
    ·rw[List.map_append,List.map_append,List.set_append_right _ _ (Nat.le_refl _),Nat.sub_self];rfl
    ·rcases List.mem_append.mp hy with hy|hy
     ·exact hlow' _ (hlow y (List.mem_append_left _ hy))
     ·have:y=(m.1,max m.2 c.2):=by simpa using hy
      subst this;exact hlow' _ (hlow m (by simp))
   ·walk_at"g";obtain⟨ok0,hmle,hap⟩:=ok.init
    exact app λy hy=>by
     rcases List.mem_append.mp hy with hy|hy
     ·have:=hap y hy;lia
     ·have:y=m:=by simpa using hy
      subst this;lia
  ·have em:ms=[]:=List.length_eq_zero_iff.mp (by lia);walk_at"g";exact app (by rw[em];simp)
 ·rintro Z S' ⟨ms,w1,w2,rfl,rfl,ok,hml,hany,hlow⟩;rw[List.length_map]at hml hany;walk_at"g";exact zau (zf4 ms) (q ms ok (λh=>by rw[hany h,List.take_length,zo7 perm,show cs.filter lec=cs.filter (λc=>decide (c.1<=c.2))from rfl,any_filter]) (by lia))
def zeM:DSp:=λds S Q=>∃ (F:Fg) (px pz qx qz:Int),ds=[fgD F,.tup [.int px,.int pz],.tup [.int qx,.int qz]]/\FgB F/\Bd 600 px/\Bd 600 pz/\Bd 600 qx/\Bd 600 qz/\∀ ms:List (Int×Int),zpw ms F px pz qx qz->Q (.tup (ms.map p2)) S
abbrev zkK:DS :=
    (zA (zG ci0 gn3)
 (zA (zG (dOp zag ziS ze9) gn4)
 (zA (zG (dCall zcN (zj (dCall zd9 (zj vr0 (zj ci0 zE))) (zj vr1 ua2))) gn5)
 (zA (zG (dCall zcN (zj (dCall zd9 (zj vr0 (zj ci1 zE))) (zj vr1 ua2))) gn6)
 (zA (zbg (zoS (zj vr5 ua6)) (zce 2 (zaw gn7 (zaw gn8 zcg))) (zA (zG (dOp zag vr8 vr7) gn9)
 (sIf (dT (dOp oGt vr9 ci0)) (zG (dB zec (zj vr3 (zj (dUn za8 (dOp oDiv vr7 vr9)) zE))) gn3) (sIf (dT (dOp oLt vr9 ci0)) (zG (dB zeY (zj vr4 (zj (dOp oDiv vr7 (dUn za8 vr9)) zE))) gn4) (sIf (dT (dOp oLt vr7 ci0)) (zT (dTup zE)) zZ)))))
 (zT (dCall zdb (zj (za6 (zj (dTup (zj (dOp zaf ze9 vr3) (zj (dOp zaf ze9 vr4) zE))) zE)) zE))))))))
def znT:BodyOk 10 zkK zeM:=by
  rintro ds S Q ⟨F,px,pz,qx,qz,rfl,B,bpx,bpz,bqx,bqz,q⟩;unfold zkK
  have bmv:∀ {x y c:Int},Bd 600 x->Bd 200 y->(c=0\/c=1)->Bd 700 (x+y*c):=λ{x y c} hx hy hc=>(Bd.add (n:=600) hx (by
    rcases hc with rfl|rfl
    . rw[Int.mul_zero];exact Bd.lit (by decide) (by decide)
    . rw[Int.mul_one];exact hy.mono (by decide))).mono (by decide)
  have cs:∀ {y c:Int},(c=0\/c=1)->zaa y c:=λhc=>.inr (.inr (by rcases hc with rfl|rfl<;>decide))
  walk_at"g";refine⟨F,0,rfl,cs (.inl rfl),cs (.inl rfl),?_⟩;walk_at"g";refine⟨_,_,_,_,px,pz,qx,qz,rfl,(bmv B.b0 B.bg (.inl rfl)).mono (by decide),(bmv B.b1 B.bg (.inl rfl)).mono (by decide),(bmv B.b2 B.bs (.inl rfl)).mono (by decide),(bmv B.b3 B.bs (.inl rfl)).mono (by decide),bpx.mono (by decide),bpz.mono (by decide),bqx.mono (by decide),bqz.mono (by decide),λca cb mx mn m1 m2 n1 n2=>?_⟩;walk_at"g";refine⟨F,1,rfl,cs (.inr rfl),cs (.inr rfl),?_⟩;walk_at"g";refine⟨_,_,_,_,px,pz,qx,qz,rfl,(bmv B.b0 B.bg (.inr rfl)).mono (by decide),(bmv B.b1 B.bg (.inr rfl)).mono (by decide),(bmv B.b2 B.bs (.inr rfl)).mono (by decide),(bmv B.b3 B.bs (.inr rfl)).mono (by decide),bpx.mono (by decide),bpz.mono (by decide),bqx.mono (by decide),bqz.mono (by decide),λca' cb' mx' mn' m1' m2' n1' n2'=>?_⟩;have mm:∀ k,_↔_:=λk=>znj (k:=k) m1 m2 n1 n2 m1' m2' n1' n2'
  have sb:=zm6 (bmv B.b0 B.bg (.inl rfl)) (bmv B.b1 B.bg (.inl rfl)) (bmv B.b2 B.bs (.inl rfl)) (bmv B.b3 B.bs (.inl rfl)) (bpx.mono (by decide)) (bpz.mono (by decide)) (bqx.mono (by decide)) (bqz.mono (by decide)) m1 n1;have ab:=zm6 (bmv B.b0 B.bg (.inr rfl)) (bmv B.b1 B.bg (.inr rfl)) (bmv B.b2 B.bs (.inr rfl)) (bmv B.b3 B.bs (.inr rfl)) (bpx.mono (by decide)) (bpz.mono (by decide)) (bqx.mono (by decide)) (bqz.mono (by decide)) m1' n1';have l1:(six (F.x0+F.g*0) (F.x1+F.g*0) (F.z0+F.s*0) (F.z1+F.s*0) px pz qx qz mx mn).length=6:=rfl;have l2:(six (F.x0+F.g*1) (F.x1+F.g*1) (F.z0+F.s*1) (F.z1+F.s*1) px pz qx qz mx' mn').length=6:=rfl;generalize six (F.x0+F.g*0) (F.x1+F.g*0) (F.z0+F.s*0) (F.z1+F.s*0) px pz qx qz mx mn=A at *;generalize six (F.x0+F.g*1) (F.x1+F.g*1) (F.z0+F.s*1) (F.z1+F.s*1) px pz qx qz mx' mn'=A' at *;clear m1 m2 n1 n2 m1' m2' n1' n2';have kA:(S++[ca,cb,Cell.lst (A.map D.int)]++[ca',cb',Cell.lst (A'.map D.int)])[S.length+2]?=some (.lst (A.map D.int)):=zby ((zbT _ _ _).trans rfl);have kA':(S++[ca,cb,Cell.lst (A.map D.int)]++[ca',cb',Cell.lst (A'.map D.int)])[(S++[ca,cb,Cell.lst (A.map D.int)]).length+2]?=some (.lst (A'.map D.int)):=(zbT _ _ _).trans rfl;have eS:S++[ca,cb,Cell.lst (A.map D.int)]++[ca',cb',Cell.lst (A'.map D.int)]=S++[ca,cb,Cell.lst (A.map D.int),ca',cb',Cell.lst (A'.map D.int)]:=by simp
  generalize (S++[ca,cb,Cell.lst (A.map D.int)]).length+2=na at *;generalize S++[ca,cb,Cell.lst (A.map D.int)]++[ca',cb',Cell.lst (A'.map D.int)]=S1 at *;walk_at"g";refine zvW (xs:=A.map D.int) (ys:=A'.map D.int) (Lst.here kA) (Lst.here kA') ?_
  refine zaL (λi Z S'=>S'=S1/\∃ (lo hi:Int) (w1 w2 w3:Option D),Z=[some (fgD F),some (.tup [.int px,.int pz]),some (.tup [.int qx,.int qz]),some (.int lo),some (.int hi),some (.ref (S.length+2)),some (.ref na),w1,w2,w3] /\
    ∀ k,(lo<=k/\k<=hi)↔(0<=k/\k<=F.l-F.f/\∀ j,j<i->0<=A.getD j 0+k*(A'.getD j 0-A.getD j 0))) ⟨rfl,0,F.l-F.f,none,none,none,rfl,λk=>⟨λh=>⟨h.1,h.2,λj hj=>absurd hj (by lia)⟩,λh=>⟨h.1,h.2.1⟩⟩⟩ (λi Z S' z=>z.1▸⟨Lst.here kA,Lst.here kA'⟩) ?_ ?_
  . rintro i d Z S' hd ⟨rfl,lo,hi,w1,w2,w3,rfl,hk⟩;obtain⟨x,y,hx,hy,rfl⟩:=ze7 hd;obtain⟨sv,hs,rfl⟩:=zdX hx;obtain⟨av,ha,rfl⟩:=zdX hy;have es:A.getD i 0=sv:=by rw[List.getD_eq_getElem?_getD,hs];rfl
    have ea:A'.getD i 0=av:=by rw[List.getD_eq_getElem?_getD,ha];rfl
    have bsv:=sb sv (List.mem_of_getElem? hs);have bav:=ab av (List.mem_of_getElem? ha);have bst:Bd 1600 (av-sv):=(Bd.sub bav bsv).mono (by decide);have bst':Bd 1600 (-(av-sv)):=bst.neg
    have next:∀ {P:Int->Prop},(∀ k,P k↔0<=sv+k*(av-sv))->∀ k,((0<=k/\k<=F.l-F.f/\∀ j,j<i->0<=A.getD j 0+k*(A'.getD j 0-A.getD j 0))/\P k)↔(0<=k/\k<=F.l-F.f/\∀ j,j<i+1->0<=A.getD j 0+k*(A'.getD j 0-A.getD j 0)):=λ{P} hP k=>by
      constructor
      . rintro⟨⟨c1,c2,c3⟩,c4⟩;refine⟨c1,c2,λj hj=>?_⟩;rcases Nat.lt_or_ge j i with h|h
        . exact c3 j h
        . have:j=i:=by lia
          subst this;rw[es,ea];exact(hP k).mp c4
      . rintro⟨c1,c2,c3⟩;refine⟨⟨c1,c2,λj hj=>c3 j (by lia)⟩,(hP k).mpr ?_⟩;have:=c3 i (by lia);rw[es,ea]at this;exact this
    walk_at"g";refine r_d (λg1=>?_) (λg1=>?_)
    . walk_at"g";refine⟨rfl,_,_,_,_,_,rfl,λk=>?_⟩;rw[<- next (λk=>zp6 (S:=sv) (T:=av-sv) (k:=k) (by lia)) k,<- hk k];lia
    . walk_at"g";refine r_d (λg2=>?_) (λg2=>?_)
      . walk_at"g";refine⟨rfl,_,_,_,_,_,rfl,λk=>?_⟩;rw[<- next (λk=>znp (S:=sv) (T:=av-sv) (k:=k) (by lia)) k,<- hk k];lia
      . have e0:av-sv=0:=by lia
        have flat:∀ k,(0<=sv)↔0<=sv+k*(av-sv):=λk=>by rw[e0,Int.mul_zero,Int.add_zero]
        walk_at"g";refine r_d (λg3=>?_) (λg3=>?_)
        . walk_at"g";rw[eS];refine zau (zf4 []) (q [] ⟨zae.nil,by decide,λh=>⟨λz=>absurd z (by simp),λz=>?_⟩⟩);have:=(mm (h-F.f)).mpr ((zk9 (by have:=B.x;lia) (by have:=B.z;lia)).mpr z.2.2) i (by have:=zax hs;lia);rw[es,ea,<- flat]at this;lia
        . walk_at"g";refine⟨rfl,_,_,_,_,_,rfl,λk=>?_⟩;rw[<- next flat k,<- hk k];constructor
          . intro h;exact⟨h,by lia⟩
          . intro h;exact h.1
  . rintro Z S' ⟨rfl,lo,hi,w1,w2,w3,rfl,hk⟩;rw[zc1,List.length_map,List.length_map,l1,l2]at hk;walk_at"g";refine⟨_,[(F.f+lo,F.f+hi)],rfl,.inr (by walk_at"l"),Nat.le_of_ble_eq_true rfl,?_,λms ok hany hml=>?_⟩
    . exact Nat.lt_of_le_of_lt (List.length_filter_le _ _) (Nat.le_of_ble_eq_true rfl)
    . rw[eS,List.append_assoc];exact zau (zf4 ms) (q ms (zoC B ok (Nat.le_trans hml (List.length_filter_le _ _)) hany λk=>by rw[hk k];exact and_congr_right λ_=>and_congr_right λ_=>mm k))
def zcV:DSp:=λds S Q=>∃ (x:D) (fs:List Fg) (px pz qx qz:Int),ds=[x,.tup [.int px,.int pz],.tup [.int qx,.int qz]]/\Lst S x (fs.map fgD)/\fs.length<64/\(∀ F∈fs,FgB F)/\Bd 600 px/\Bd 600 pz/\Bd 600 qx/\Bd 600 qz /\
 ∀ ms:List (Int×Int),zae ms->(∀ h,ms.any (inS h)=true↔∃ F∈fs,zbG F px pz qx qz h)->ms.length<=fs.length->Q (.tup (ms.map p2)) S
abbrev zgp:DS :=
    (zA (zG (za6 zE) gn3)
 (zA (zbg (zbf vr0) gn4 (zaY (dM zgC vr3 (zj (dCall zeM (zj vr4 (zj vr1 ua2))) zE))))
 (zT (dCall zdb ua3))))
def zjm:BodyOk 5 zgp zcV:=by
 rintro ds S Q ⟨x,fs,px,pz,qx,qz,rfl,hx,hl,hB,bpx,bpz,bqx,bqz,q⟩;unfold zgp;walk_at"g"
 refine zaL (λi Z S'=>∃ (cs:List (Int×Int)) (w:Option D),Z=[some x,some (.tup [.int px,.int pz]),some (.tup [.int qx,.int qz]),some (.ref S.length),w]/\S'=S++[.lst (cs.map p2)]/\cs.length<=i/\∀ h,cs.any (inS h)=true↔∃ F∈fs.take i,zbG F px pz qx qz h)
  ⟨[],none,rfl,rfl,Nat.le_refl _,λh=>by simp⟩ (by rintro i Z S' ⟨cs,w,_,e,_⟩;exact e▸hx.old) ?_ ?_
 ·rintro i d Z S' hd ⟨cs,w,rfl,rfl,hc,hh⟩;obtain⟨F,hF,rfl⟩:=zmo hd;have hi:=zax hF;walk_at"g";refine⟨F,px,pz,qx,qz,rfl,hB F (List.mem_of_getElem? hF),bpx,bpz,bqx,bqz,λms hm=>?_⟩;obtain⟨ok,hone,hat⟩:=hm;walk_at"g";refine znv (n:=S.length) zaV (by rw[List.length_map,List.length_map];unfold big;lia) ?_;walk_at"g";refine⟨cs++ms,_,rfl,by rw[List.map_append],by rw[List.length_append];lia,λh=>?_⟩;rw[List.any_append,Bool.or_eq_true,hh,hat,zai hF];constructor
  ·rintro(⟨G,hG,g⟩|g)
   ·exact⟨G,List.mem_append_left _ hG,g⟩
   ·exact⟨F,by simp,g⟩
  ·rintro⟨G,hG,g⟩;rcases List.mem_append.mp hG with hG|hG
   ·exact .inl ⟨G,hG,g⟩
   ·have:G=F:=by simpa using hG
    subst this;exact .inr g
 ·rintro Z S' ⟨cs,w,rfl,rfl,hc,hh⟩;rw[List.length_map]at hc hh;rw[List.take_length]at hh;have hf:=List.length_filter_le lec cs;walk_at"g";refine⟨_,cs,rfl,.inr Lst.at0,by lia,by lia,λms ok hany hml=>?_⟩;exact zau (zf4 ms) (q ms ok (λh=>by rw[hany h];exact hh h) (by lia))
def zfZ:DSp:=λds S Q=>∃ (cs:List (Int×Int)) (lo hi:Int),ds=[.tup (cs.map p2),.int lo,.int hi]/\zae cs/\cs.length<63 /\
 ∀ ms:List (Int×Int),zae ms->(∀ h,lo<=h->h<=hi->ms.any (inS h)=!(cs.any (inS h)))->ms.length<=cs.length+1->Q (.tup (ms.map p2)) S
abbrev zmz:DS :=
    (zA (zG (za6 zE) gn3)
 (zA (zG vr1 gn4)
 (zA (zbg (zbf vr0) gn5 (zA (zaY (dM zbY vr3 (zj (dTup (zj vr4 (zj (dOp zag zpv ci1) zE))) zE)))
 (zG (dOp zaf zpo ci1) gn4)))
 (zA (zaY (dM zbY vr3 (zj (dTup (zj vr4 ua2)) zE)))
 (zT (dCall zdb ua3))))))
def zp0:BodyOk 6 zmz zfZ:=by
  rintro ds S Q ⟨cs,lo,hi,rfl,ok,h31,q⟩;unfold zmz;walk_at"g";refine zaL (λi Z S'=>∃ (w:Option D),Z=[some (.tup (cs.map p2)),some (.int lo),some (.int hi),some (.ref S.length),some (.int (zar lo (cs.take i)).2),w]/\S'=S++[.lst ((zar lo (cs.take i)).1.map p2)]) ⟨none,rfl,rfl⟩ (λ_ _ _ _=>True.intro) ?_ ?_
  . rintro i d Z S' hd ⟨w,rfl,rfl⟩;obtain⟨c,hc,rfl⟩:=zcR hd;have hi':=zax hc
    have hlim:(List.map p2 (zar lo (cs.take i)).1).length<big:=by rw[List.length_map,zdy,List.length_take];unfold big;lia
    walk_at"g";refine⟨some (p2 c),?_,?_⟩
    . rw[zai hc,zeP];rfl
    . rw[zai hc,zeP,List.map_append];rfl
  . rintro Z S' ⟨w,rfl,rfl⟩;rw[List.length_map,List.take_length]
    have hlim:(List.map p2 (zar lo cs).1).length<big:=by rw[List.length_map,zdy];unfold big;lia
    have hf:=List.length_filter_le lec ((zar lo cs).1++[((zar lo cs).2,hi)]);rw[List.length_append,zdy]at hf;have hf:((((zar lo cs).1++[((zar lo cs).2,hi)])).filter lec).length<=cs.length+1:=hf;walk_at"g";refine⟨_,(zar lo cs).1++[((zar lo cs).2,hi)],rfl,.inr (by rw[List.map_append];exact Lst.at0),by rw[List.length_append,zdy];show cs.length+1<=4000;lia,by lia,λms okm hany hml=>?_⟩;refine zau (zf4 ms) (q ms okm (λh h0 h1=>?_) (by lia));rw[hany h,Bool.eq_iff_iff,zi3 h1 lo ok h0 (λ_ _ _=>trivial),<- zaD];cases cs.any (inS h)<;>simp
def zge:DSp:=λds S Q=>∃ (as bs:List (Int×Int)),ds=[.tup (as.map p2),.tup (bs.map p2)]/\zae as/\zae bs/\as.length+bs.length<64 /\
 ∀ ms:List (Int×Int),zae ms->(∀ h,ms.any (inS h)=(as.any (inS h)&&bs.any (inS h)))->ms.length<=as.length+bs.length->Q (.tup (ms.map p2)) S
abbrev znq:DS :=
    (zA (zG (za6 zE) gn2)
 (zA (zbg (zbf vr0) (zce 2 (zaw gn3 (zaw gn4 zcg))) (zbg (zbf vr1) (zce 2 (zaw gn5 (zaw gn6 zcg))) (zaY (dM zbY vr2 (zj (dTup (zj (dB zec (zj vr3 ua5)) (zj (dB zeY (zj vr4 ua6)) zE))) zE)))))
 (zT (dCall zdb ua2))))
def zp9:BodyOk 7 znq zge:=by
 rintro ds S Q ⟨as,bs,rfl,oka,okb,hlen,q⟩;unfold znq;have hmul:as.length*bs.length<=3969:=Nat.le_trans (Nat.mul_le_mul (show as.length<=63 by lia) (show bs.length<=63 by lia)) (by decide);walk_at"g";refine zaL (λi Z S'=>∃ (w1 w2 w3 w4:Option D),Z=[some (.tup (as.map p2)),some (.tup (bs.map p2)),some (.ref S.length),w1,w2,w3,w4]/\S'=S++[.lst ((zaG (as.take i) bs).map p2)]) ⟨none,none,none,none,rfl,rfl⟩ (λ_ _ _ _=>True.intro) ?_ ?_
 ·rintro i d Z S' hd ⟨w1,w2,w3,w4,rfl,rfl⟩;obtain⟨a,ha,rfl⟩:=zcR hd;have hi:=zax ha;walk_at"g";refine zaL (λj Z S'=>∃ (w3 w4:Option D),Z=[some (.tup (as.map p2)),some (.tup (bs.map p2)),some (.ref S.length),some (.int a.1),some (.int a.2),w3,w4]/\S'=S++[.lst ((zaG (as.take i) bs++(bs.take j).map (zaO a)).map p2)]) ⟨w3,w4,rfl,by simp⟩ (λ_ _ _ _=>True.intro) ?_ ?_
  ·rintro j d Z S' hd ⟨w3,w4,rfl,rfl⟩;obtain⟨b,hb,rfl⟩:=zcR hd;have hj:=zax hb
   have hlim:(List.map p2 (zaG (as.take i) bs++(bs.take j).map (zaO a))).length<big:=by rw[List.length_map,List.length_append,zhE,List.length_map,List.length_take,List.length_take];have:min i as.length*bs.length<=as.length*bs.length:=Nat.mul_le_mul (Nat.min_le_right _ _) (Nat.le_refl _);unfold big;lia
   walk_at"g";refine⟨_,_,rfl,?_⟩
   have e:zaG (as.take i) bs++(bs.take (j+1)).map (zaO a)=zaG (as.take i) bs++(bs.take j).map (zaO a)++[zaO a b]:=by rw[zai hb,List.map_append,<- List.append_assoc];rfl
   rw[e,List.map_append (l₂:=[zaO a b])];rfl
  ·rintro Z S' ⟨w3,w4,rfl,rfl⟩;walk_at"g";refine⟨_,_,_,_,rfl,?_⟩;rw[List.length_map,List.take_length,zkr ha]
 ·rintro Z S' ⟨w1,w2,w3,w4,rfl,rfl⟩;rw[List.length_map,List.take_length];have hf:((zaG as bs).filter lec).length<=as.length+bs.length:=zka oka okb;walk_at"g";refine⟨_,zaG as bs,rfl,.inr Lst.at0,by rw[zhE];lia,by lia,λms ok hany hml=>?_⟩;exact zau (zf4 ms) (q ms ok (λh=>by rw[hany h,zlU]) (by lia))
def zdJ:DSp:=λds S Q=>∃ (as bs:List (Int×Int)),ds=[.tup (as.map p2),.tup (bs.map p2)]/\zae as/\zae bs/\as.length+bs.length<63 /\
 ∀ ms:List (Int×Int),zae ms->(∀ h,ms.any (inS h)=(as.any (inS h)&&!(bs.any (inS h))))->ms.length<=as.length+bs.length+1->Q (.tup (ms.map p2)) S
abbrev zim:DS :=
    (zA (sIf (dT (dOp oEq (dB za0 ua0) ci0)) (zT (dTup zE)) zZ)
 (zT (dCall zge (zj vr0 (zj (dCall zfZ (zj vr1 (zj (dOp oIx zba ci0) (zj (dOp oIx (dOp oIx vr0 (dUn za8 ci1)) ci1) zE)))) zE)))))
def zl4:BodyOk 2 zim zdJ:=by
 rintro ds S Q ⟨as,bs,rfl,oka,okb,hlen,q⟩;unfold zim;walk_at"g";rw[List.length_map];refine r_d (λg=>?_) (λg=>?_)
 ·have ea:as=[]:=List.length_eq_zero_iff.mp (by lia);subst ea;walk_at"g";exact fin_same (q [] zae.nil (λh=>rfl) (by simp))
 ·obtain⟨c,as',rfl⟩:∃ c as',as=c::as':=by
   cases as with
   |nil=>exact absurd (by simp) g
   |cons c as'=>exact⟨c,as',rfl⟩
  obtain⟨ms0,m,em⟩:=zpC (l:=c::as') (by simp);have a0:atD (List.map p2 (c::as')) 0=some (p2 c):=zbw (i:=0) rfl;have am:atD (List.map p2 (c::as')) (-1)=some (p2 m):=by rw[em,List.map_append];exact zeQ
  walk_at"g";refine⟨bs,c.1,m.2,rfl,okb,by lia,λgs okg hg hgl=>?_⟩;walk_at"g";refine⟨c::as',gs,rfl,oka,okg,by lia,λms ok hany hml=>?_⟩;refine fin_same (q ms ok (λh=>?_) (by lia));rw[hany h];cases hA:(c::as').any (inS h)with
  |false=>rfl
  |true =>
   obtain⟨x,hx,x1,x2⟩:=zaD.mp hA
   have lo:c.1<=h:=by
    rcases List.mem_cons.mp hx with rfl|hx
    ·exact x1
    ·have:=(List.pairwise_cons.mp oka.ap).1 x hx;have:=oka.le c (by simp);lia
   have hi:h<=m.2:=by
    rw[em]at hx oka;obtain⟨_,hm,hap⟩:=oka.init;rcases List.mem_append.mp hx with hx|hx
    ·have:=hap x hx;lia
    ·have:x=m:=by simpa using hx
     subst this;exact x2
   rw[hg h lo hi]
def ze4:zc0:=λds S Q ex=>∃ (v:D) (V:Vl) (n m:Str),ds=[v,.str n,.str m]/\VAt S v V/\zd8 V/\fl 20 (.str n)=true/\fl 20 (.str m)=true/\((∀ b∈V.bs,b.1≠n)\/(∀ b∈V.bs,b.1≠m)->ex "NoBeacon" S)/\∀ s t,(n,s)∈V.bs->(m,t)∈V.bs->∀ ms,zf6 V n m s t ms->Q (.tup (ms.map p2)) S
abbrev zkX (ex : XR) : DS :=
    (zA (zG (zb2 zcG ex (zj vr0 ua1)) gn3)
 (zA (zG (zb2 zcG ex (zj vr0 ua2)) gn4)
 (zA (zG (dTup (zj (dTup (zj (zcx "first" vr0) (zj (zcx "last" vr0) zE))) zE)) gn5)
 (zA (sIf (dT (dOp oEq vr1 vr2)) (zT vr5) zZ)
 (zA (sIf (dT (dOp zet (dCall zbM (zj vr0 (zj vr3 ua4))) (dC .non))) (zT (dTup zE)) zZ)
 (zT (dCall zdJ (zj vr5 (zj (dCall zcV (zj (zcx "fogs" vr0) (zj vr3 ua4))) zE)))))))))
def zpb:zcB 6 zkX ze4:=by
  rintro ds S Q ex ⟨v,V,n,m,rfl,hv,ok,hn,hm,hx,q⟩;unfold zkX;walk_at"g";refine⟨v,V,n,rfl,hv,ok,hn,λno=>hx (.inl no),λs hs=>?_⟩;walk_at"g";refine⟨v,V,m,rfl,hv,ok,hm,λno=>hx (.inr no),λt ht=>?_⟩;have q':=q s t hs ht;clear hx q;have bs:=ok.bd _ hs;have bt:=ok.bd _ ht;have ss:=ok.st _ hs;have st:=ok.st _ ht;obtain⟨a,g,b',f,rfl,ha,hg,hb,hf⟩:=id hv;walk_at"g";refine znn hn hm ?_;walk_at"g"
  have one:zae [(V.h0,V.h1)]:=by
    refine⟨λc hc=>?_,List.pairwise_singleton _ _⟩;have:c=(V.h0,V.h1):=by simpa using hc
    subst this;exact ok.hh
  refine r_d (λh=>?_) (λh=>?_)
  . walk_at"g";refine fin_same (q' [(V.h0,V.h1)] ⟨one,λk=>?_,by show 1<=14;decide⟩);rw[zaD];constructor
    . rintro⟨c,hc,h1,h2⟩;have:c=(V.h0,V.h1):=by simpa using hc
      subst this;exact⟨h1,h2,.inl h⟩
    . rintro⟨h1,h2,_⟩;exact⟨(V.h0,V.h1),by simp,h1,h2⟩
  walk_at"g";refine⟨_,V,s,t,rfl,hv,ok,⟨bs,ss⟩,⟨bt,st⟩,?_⟩;by_cases al:Alw V s t
  case neg =>
    have e:zdl (zdh V s t)=false:=by
      cases h:zdh V s t with
      |non=>exact absurd (zft.mp h) al
      |_=>rfl
    refine r_c (zpt ?_);rw[e];walk_at"g";refine fin_same (q' [] ⟨zae.nil,λk=>?_,by show 0<=14;decide⟩);constructor
    . intro z;simp at z
    . rintro⟨_,_,z|z⟩
      . exact absurd z h
      . exact absurd z.1 al
  rw[zft.mpr al];walk_at"g";have f12:=ok.f12;refine⟨_,V.fs,s.1,s.2,t.1,t.2,rfl,Lst.here hf,by lia,λF hF=>(ok.fg F hF).b,bs.1.mono (by decide),bs.2.mono (by decide),bt.1.mono (by decide),bt.2.mono (by decide),λfs fok fh fl=>?_⟩;walk_at"g";refine⟨[(V.h0,V.h1)],fs,rfl,one,fok,by show 1+fs.length<63;lia,λms mok mh ml=>?_⟩;refine fin_same (q' ms ⟨mok,λk=>?_,by have:ms.length<=1+fs.length+1:=ml;lia⟩);rw[mh k,Bool.and_eq_true,zaD]
  have e:(!fs.any (inS k))=true↔¬ ∃ F∈V.fs,zbG F s.1 s.2 t.1 t.2 k:=by rw[<- fh k];cases fs.any (inS k)<;>simp
  rw[e];constructor
  . rintro⟨⟨c,hc,h1,h2⟩,h3⟩;have:c=(V.h0,V.h1):=by simpa using hc
    subst this;exact⟨h1,h2,.inr ⟨al,h3⟩⟩
  . rintro⟨h1,h2,z|z⟩
    . exact absurd z h
    . exact⟨⟨(V.h0,V.h1),by simp,h1,h2⟩,z.2⟩
def zcp:DSp:=λds S Q=>∃ (a b:Int),ds=[.int a,.int b]/\Bd 600 a/\Bd 600 b/\Q (.str (zbO (a,b))) S
abbrev zfz:DS :=(zT (zlZ (dT (dOp oEq vr0 vr1)) (dF1 vr0) (dF3 ".." vr0 vr1)))
def ziO:BodyOk 2 zfz zcp:=by
 rintro ds S Q ⟨a,b,rfl,ba,bb,q⟩;unfold zfz;obtain⟨l1,_⟩:=zc9 ba;obtain⟨l2,_⟩:=zc9 bb;unfold zbO at q;walk_at"g";refine r_d (λe=>?_) (λe=>?_)
 ·rw[if_pos e]at q;refine zwT ?_;walk_at"g";exact⟨ba.mono (by decide),fin_same q⟩
 ·rw[if_neg e]at q;walk_at"g";refine⟨⟨a,rfl,ba.mono (by decide),Nat.le_trans l1 (by decide),by decide +kernel⟩,?_⟩;walk_at"g";exact⟨a,b,rfl,rfl,bb.mono (by decide),Nat.le_trans l2 (by decide),fin_same q⟩
def zbR:zc0:=λds S Q ex=>∃ (v:D) (V:Vl) (n m:Str),ds=[v,.str n,.str m]/\VAt S v V/\zd8 V/\V.h1<=V.h0+100/\fl 20 (.str n)=true/\fl 20 (.str m)=true/\((∀ b∈V.bs,b.1≠n)\/(∀ b∈V.bs,b.1≠m)->ex "NoBeacon" S)/\∀ s t,(n,s)∈V.bs->(m,t)∈V.bs->∀ ms,zf6 V n m s t ms->∀ T,Q (.str (zh1 n m ms)) (S++T)
abbrev zfQ (ex : XR) : DS :=
    (zA (zG (dLC 2 [] (zbf (zb2 ze4 ex (zj vr0 (zj vr1 ua2)))) (zce 2 (zaw gn0 (zaw gn1 zcg))) zbL (dCall zcp (zj vr0 ua1))) gn3)
 (zA (sJ (zG (zlZ (dT (dOp oGt (dB za0 ua3) ci0)) (ziU (dC (.str ", ")) vr3) (dC (.str "never"))) gn4))
 (zT (dFs [.inr vr1,.inl " ",.inr vr2,.inl ": ",.inr vr4] Str.empty))))
def ziG:zcB 5 zfQ zbR:=by
 rintro ds S Q ex ⟨v,V,n,m,rfl,hv,ok,h100,fn,fm,hx,q⟩;unfold zfQ;walk_at"g";refine⟨v,V,n,m,rfl,hv,ok,fn,fm,hx,λs t hs ht ms hms=>?_⟩;have q:=q s t hs ht ms hms;have few:=hms.few ok.hh h100
 have bd:∀ c∈ms,Bd 600 c.1/\Bd 600 c.2:=λc hc=>by
  obtain⟨h1,h2⟩:=hms.box hc;have le:=hms.ok.le c hc;have b0:=ok.b0;have bl:=ok.bl;have k1:Bd 251 c.1:=by unfold Bd at b0 bl ⊢;lia
  have k2:Bd 251 c.2:=by unfold Bd at b0 bl ⊢;lia
  exact⟨k1.mono (by decide),k2.mono (by decide)⟩
 have pn:Pln 20 n:=zhs (ok.nm _ hs);have pm:Pln 20 m:=zhs (ok.nm _ ht);have ps:=zjQ (ms:=ms) (by lia) bd;have pj:=zgK (ms:=ms) (by lia) bd;walk_at"g";refine zmf (λi ys S'=>S'=S/\ys=((ms.take i).map zbO).map D.str) ⟨rfl,rfl⟩ (λ_ _ _ _=>True.intro) (by rw[List.length_map];unfold big;lia) ?_ ?_
 ·rintro i d ys S' hd ⟨rfl,rfl⟩;obtain⟨c,hc,rfl⟩:=zcR hd;obtain⟨b1,b2⟩:=bd c (List.mem_of_getElem? hc);walk_at"g";refine⟨c.1,c.2,rfl,b1,b2,?_⟩;walk_at"g";exact⟨rfl,by rw[zai hc,List.map_append,List.map_append];rfl⟩
 rintro ys S' ⟨rfl,rfl⟩;rw[List.length_map,List.take_length];walk_at"g";walk_at"h";refine zv3 (λZ S2=>S2=S'++[.lst ((ms.map zbO).map D.str)]/\Z=[some v,some (.str n),some (.str m),some (.ref S'.length),some (.str (zes ms))]) ?_ ?_
 ·walk_at"g";rw[List.length_map,List.length_map];unfold zes;refine r_d (λe=>?_) (λe=>?_)
  ·have ne:ms≠[]:=λz=>by rw[z]at e;simp at e
   rw[if_neg ne];walk_at"g";refine⟨⟨_,rfl⟩,?_⟩;walk_at"g";refine⟨_,_,ms.map zbO,rfl,rfl,zaV,Nat.le_trans pj (by decide),?_⟩;exact⟨rfl,rfl⟩
  ·have em:ms=[]:=List.eq_nil_of_length_eq_zero (by lia);rw[if_pos em];walk_at"g";exact⟨rfl,rfl⟩
 rintro Z S2 ⟨rfl,rfl⟩;have lin:=zjF pn pm ps;unfold zh1 at lin q;have l1:=pn.1;have l2:=pm.1;have l3:=ps.1;have e1:(" ":Str).length=1:=by decide +kernel
 have e2:(": ":Str).length=2:=by decide +kernel
 walk_at"g";refine zlt (z:=n) rfl (by rw[zk8];lia) ?_;rw[zk8];refine zpH (by rw[len_app];lia) ?_;refine zlt (z:=m) rfl (by rw[len_app,len_app];lia) ?_;refine zpH (by rw[len_app,len_app,len_app];lia) ?_;refine zlt (z:=zes ms) rfl (by rw[len_app,len_app,len_app,len_app];lia) ?_;exact zvh (fin_same (q _))
def zbt:DSp:=λds S Q=>∃ (x:D) (hs:List Int),ds=[x]/\Lst S x (hs.map D.int)/\hs.Pairwise (· < ·)/\hs.length<=100/\(∀ h∈hs,Bd 600 h)/\∀ ms,zae ms->(∀ h,ms.any (inS h)=true↔h∈hs)->∀ T,Q (.str (zes ms)) (S++T)
def zrO (ms:List (Int×Int)):(ms.map p2).all (fl 20)=true:=by rw[List.all_map,List.all_eq_true];exact λc _=>rfl
abbrev zd4:DS :=
    (zA (zG (za6 zE) gn1)
 (zA (zbg (zbf vr0) gn2 (sIf (zeu (dT (dOp oNe vr1 (za6 zE))) (dT (dOp oEq (dOp oIx (dOp oIx vr1 (dUn za8 ci1)) ci1) (dOp zag vr2 ci1)))) (zG (dTup (zj (dOp oIx (dOp oIx vr1 (dUn za8 ci1)) ci0) ua2)) (zgP vr1 (dUn za8 ci1))) (zaY (dM zbY vr1 (zj (dTup (zj vr2 ua2)) zE)))))
 (zA (zG (za6 zE) gn3)
 (zA (zbg (zbf vr1) (zce 2 (zaw gn4 (zaw gn5 zcg))) (sIf (dT (dOp oEq vr4 vr5)) (zaY (dM zbY vr3 (zj (dB zjA ua4) zE))) (zaY (dM zbY vr3 (zj (dOp zaf (dOp zaf (dB zjA ua4) (dC (.str ".."))) (dB zjA ua5)) zE)))))
 (zA (sIf (dT (dOp oEq vr3 (za6 zE))) (zT (dC (.str "never"))) zZ)
 (zT (ziU (dC (.str ", ")) vr3)))))))
def zgk:BodyOk 6 zd4 zbt:=by
  rintro ds S Q ⟨x,hs,rfl,hx,asc,l100,bd,q⟩;unfold zd4;have hx1:∀ T,Lst (S++T) x (hs.map D.int):=λT=>hx.old
  have hx2:=hx1 [.lst []];walk_at"g";walk_at"h";refine zaL (λi Z S'=>∃ (ms:List (Int×Int)) (G:Sto) (w2:Option D),S'=S++Cell.lst (ms.map p2)::G/\zhL (hs.take i) ms/\Z=[some x,some (.ref S.length),w2,none,none,none]) ⟨[],[],none,rfl,⟨⟨by simp,by simp⟩,by simp,by simp⟩,rfl⟩ (by rintro i Z S' ⟨_,_,_,e,_⟩;exact e▸hx1 _) ?_ ?_
  . rintro i d Z S' hd ⟨ms,G,w2,rfl,g,rfl⟩;obtain⟨h,hh,rfl⟩:=zdX hd;have li:=zax hh
    have hlt:∀ y∈hs.take i,y<h:=λy hy=>by obtain⟨j,hj,ej⟩:=List.mem_iff_getElem.mp hy;rw[List.length_take]at hj;rw[List.getElem_take]at ej;have:=List.pairwise_iff_getElem.mp asc j i (by lia) li (by lia);rw[List.getElem?_eq_getElem li]at hh;rw[ej,Option.some.inj hh]at this;exact this
    have g2:=g.snoc hlt;rw[<- zai hh]at g2;have lm:=g.len;rw[List.length_take]at lm;have lim:(ms.map p2).length<big:=by rw[List.length_map];unfold big;lia
    unfold zow at g2;cases e:ms.getLast? with
    |none =>have em:ms=[]:=List.getLast?_eq_none_iff.mp e;rw[e]at g2;subst em;walk_at"g";refine zpu (b:=true) (xs:=[]) (ys:=[]) (Lst.at0) (Lst.new) rfl rfl rfl ?_;walk_at"g";exact⟨_,_,_,rfl,g2,rfl⟩
    |some c =>
      rw[e]at g2;simp only at g2;obtain⟨as,ea⟩:=List.getLast?_eq_some_iff.mp e
      have al:atD (ms.map p2) (-1)=some (p2 c):=by rw[ea,List.map_append];exact zqp _ _
      have ne:eqvAll (ms.map p2) []=false:=by rw[ea];cases as<;>rfl
      walk_at"g";refine zpu (b:=false) (xs:=ms.map p2) (ys:=[]) (Lst.at0) (Lst.new) (zrO ms) rfl ne ?_;walk_at"g";refine r_d (λec=>?_) (λec=>?_)
      . rw[if_pos ec]at g2;walk_at"g";refine zlW zaV (j:=ms.length-1) (by unfold ixD;rw[List.length_map,if_neg (by decide),if_pos (by rw[ea,List.length_append];simp;lia)];congr 1;lia) (zhA ?_);walk_at"g";refine⟨ms.dropLast++[(c.1,h)],G++[.lst []],_,?_,g2,rfl⟩;rw[ea,List.dropLast_concat];simp
      . rw[if_neg ec]at g2;walk_at"g";refine⟨ms++[(h,h)],G++[.lst []],_,?_,g2,rfl⟩;rw[List.map_append];rfl
  rintro Z S' ⟨ms,G,w2,rfl,g,rfl⟩;rw[List.length_map,List.take_length]at g;have q:=λT=>q ms g.ok g.iff T
  have bm:∀ c∈ms,Bd 600 c.1/\Bd 600 c.2:=λc hc=>⟨bd _ (g.box hc).1,bd _ (g.box hc).2⟩
  have lm:=g.len;have pj:=zgK (ms:=ms) (by lia) bm;clear g;walk_at"g";refine zaL (λi Z S'=>∃ (G':Sto) (w4 w5:Option D),S'=S++(Cell.lst (ms.map p2)::G)++(Cell.lst (((ms.take i).map zbO).map D.str)::G')/\Z=[some x,some (.ref S.length),w2,some (.ref (S++(Cell.lst (ms.map p2)::G)).length),w4,w5]) ⟨[],none,none,by rw[List.append_assoc];rfl,by rw[List.length_append];rfl⟩ (by rintro i Z S' ⟨_,_,_,e,_⟩;exact e▸Lst.old Lst.at0) ?_ ?_
  . rintro i d Z S' hd ⟨G',w4,w5,rfl,rfl⟩;obtain⟨c,hc,rfl⟩:=zcR hd;have li:=zax hc;obtain⟨b1,b2⟩:=bm c (List.mem_of_getElem? hc);obtain⟨l1,_⟩:=zc9 b1;obtain⟨l2,_⟩:=zc9 b2;unfold zch at l1 l2;have lim:(((ms.take i).map zbO).map D.str).length<big:=by rw[List.length_map,List.length_map,List.length_take];unfold big;lia
    have es:zbO c=if c.1=c.2 then zch c.1 else zch c.1++".."++zch c.2:=rfl
    walk_at"g";refine r_d (λe=>?_) (λe=>?_)
    . rw[if_pos e]at es;walk_at"g";refine zlo (b1.mono (by decide)) ?_;walk_at"g";refine⟨G',_,_,?_,rfl⟩;rw[zai hc,List.map_append,List.map_append,List.map_cons,es];rfl
    . rw[if_neg e]at es;walk_at"g";refine zlo (b1.mono (by decide)) ?_;walk_at"g";refine zeb (by show _+2<=big;unfold big;lia) ?_;walk_at"g";refine zlo (b2.mono (by decide)) ?_;refine zeb (by rw[len_app];show _+2+_<=big;unfold big;lia) ?_;walk_at"g";refine⟨G',_,_,?_,rfl⟩;rw[zai hc,List.map_append,List.map_append,List.map_cons,es];rfl
  rintro Z S' ⟨G',w4,w5,rfl,rfl⟩;rw[List.length_map,List.take_length];walk_at"g";by_cases em:ms=[]
  . subst em;refine zlg (b:=true) (xs:=[]) (ys:=[]) Lst.at0 Lst.new rfl rfl rfl ?_;walk_at"g";have:=q ((Cell.lst (([]:List (Int×Int)).map p2)::G)++((Cell.lst ((([]:List (Int×Int)).map zbO).map D.str)::G')++[Cell.lst []]));refine fin_same ?_;rw[List.append_assoc];exact this
  . refine zlg (b := false) (xs := (ms.map zbO).map D.str) (ys := []) Lst.at0 Lst.new (by
      rw[List.map_map,List.all_map,List.all_eq_true];exact λc hc=>(zgI (bm c hc).1 (bm c hc).2).fl 20) rfl (by cases ms with
      |nil=>exact absurd rfl em
      |cons a as=>rfl) ?_
    walk_at"g";refine⟨⟨_,rfl⟩,?_⟩;walk_at"g";refine⟨_,_,ms.map zbO,rfl,rfl,zaV,Nat.le_trans pj (by decide),?_⟩;have:=q ((Cell.lst (ms.map p2)::G)++((Cell.lst ((ms.map zbO).map D.str)::G')++[Cell.lst []]));unfold zes at this;rw[if_neg em]at this;refine fin_same ?_;rw[List.append_assoc];exact this
def zbA:DSp:=λds S Q=>∃ (v:D) (V:Vl) (n m:Str),ds=[v,.str n,.str m]/\VAt S v V/\zd8 V/\V.h1<=V.h0+100/\fl 20 (.str n)=true/\fl 20 (.str m)=true/\((∀ b∈V.bs,b.1≠n)\/(∀ b∈V.bs,b.1≠m))/\∀ T,Q (.bl true) (S++T)
abbrev zfl:DS :=
    (zA (zG (za6 zE) gn3)
 (zA (zob 4 ["BadGround","OffGround","BadFog","BadName","Twice","TooMany","BadHour","NoBeacon"] (λex=>(zaY (zb2 zbR ex (zj vr0 (zj vr1 ua2))))) (zG (za6 (zj (zhS [("BadGround",false),("OffGround",false),("BadFog",false),("BadName",false),("Twice",false),("TooMany",false),("BadHour",false),("NoBeacon",true)] vr4) (zj (zhS [("BadGround",true),("OffGround",true),("BadFog",true),("BadName",true),("Twice",true),("TooMany",true),("BadHour",true),("NoBeacon",true)] vr4) zE))) gn3))
 (zT (dOp oEq vr3 (za6 (zj (dC (.bl true)) (zj (dC (.bl true)) zE)))))))
def zib:BodyOk 5 zfl zbA:=by
 rintro ds S Q ⟨v,V,n,m,rfl,hv,ok,h100,fn,fm,no,q⟩;unfold zfl;walk_at"g";refine⟨v,V,n,m,rfl,hv.old,ok,h100,fn,fm,λ_=>⟨rfl,?_⟩,λs t hs ht=>?_⟩
 ·walk_at"g";refine zlg (xs:=[.bl true,.bl true]) (ys:=[.bl true,.bl true]) (Lst.at (k:=1) rfl) (Lst.at (k:=2) rfl) rfl rfl rfl ?_;exact fin_same (q _)
 ·rcases no with no|no
  ·exact absurd rfl (no _ hs)
  ·exact absurd rfl (no _ ht)
abbrev zpx:DS :=
    (zA (zG (dCall zcU ua0) gn1)
 (zA (zG (dCall zdf ua1) gn2)
 (zA (zG (dLC 1 [] (zbf zcF) gn0 zbL zba) gn3)
 (zA (zbg (zbP (zj (dB za0 ua3) zE)) gn4 (zbg (zbP (zj (dB za0 ua3) zE)) gn5 (zA (zG (dB zlh (zj zud (zj (dOp zaf zut ci1) zE))) gn6)
 (zA (zG (dLC 1 [1,4,5] (zbf vr6) gn0 (dT (dOp oIs (dCall zcc (zj vr1 (zj vr2 (zj vr3 ua0)))) (dC .non))) vr0) gn7)
 (zA (zG (zb2 zbR xF (zj vr2 (zj (dOp oIx vr3 vr4) (zj (dOp oIx vr3 vr5) zE)))) gn8)
 (zA (zG (dOp zaf (dOp zaf (dOp zaf (dOp zaf (dOp oIx vr3 vr4) (dC (.str " "))) (dOp oIx vr3 vr5)) (dC (.str ": "))) (dCall zbt ua7)) gn9)
 (sIf (dOr (zd2 (dT (dB ze5 (zj vr8 (zj (dC (.ty "str")) zE))))) (dT (dOp oNe vr8 vr9))) (zT (dC (.bl false))) zZ)))))))
 (zT (zeR (dCall zbA (zj vr2 (zj (dC (.str "zzz")) (zj zem zE)))) (dCall zbA (zj vr2 (zj zem (zj (dC (.str "zzz")) zE))))))))))
def zry:BodyOk 10 zpx zeC:=by
  rintro ds S Q ⟨ns,rfl,⟨_,hg⟩,hl,q⟩;unfold zpx;walk_at"g";refine⟨ns,rfl,hl,λT x y z V N b6 f4 h11 nz hs=>?_⟩;generalize S++T=S1 at hs;have t:=N.t;have ok:=t.ok;have b1:=ok.b1;walk_at"g";refine⟨x,y,z,V,rfl,hs,ok,λT3 v hv=>?_⟩;have hs3:VlS (S1++T3) x y z V:=hs.old;generalize S1++T3=S3 at hv hs3;have ky:=hs3.2.1;walk_at"g";refine zbx (λ_=>true) (zlR λb=>.str b.1) ky (by rw[List.length_map];unfold big;lia) (λi d ys hd hw=>?_) ?_
  . obtain⟨b,hb,rfl⟩:=zg7 hd;walk_at"g";exact zcT hd hw rfl rfl
  rw[filter_true,zgU,show V.bs.map (λb=>D.str b.1)=(V.bs.map (·.1)).map D.str by rw[List.map_map];rfl];walk_at"g";walk_at"h";obtain⟨S4,hS4⟩:∃ S4:Sto,S4=S3++[.lst ((V.bs.map (·.1)).map D.str)]:=⟨_,rfl⟩
  have hv4:∀ T,VAt (S4++T) v V:=λT=>hS4▸hv.old.old
  have hs4:∀ T,VlS (S4++T) x y z V:=λT=>hS4▸hs3.old.old
  have hw4:∀ T,Lst (S4++T) (.ref S3.length) ((V.bs.map (·.1)).map D.str):=λT=>(hS4▸Lst.at0:Lst S4 (.ref S3.length) ((V.bs.map (·.1)).map D.str)).old
  rw[<- hS4];generalize S3.length=nw at hw4;clear hS4 hs3 hv ky;have hw5:Lst S4 (.ref nw) ((V.bs.map (·.1)).map D.str):=by simpa using hw4 []
  walk_at"g";rw[List.length_map,List.length_map];refine⟨_,rfl,by lia,by lia,?_⟩
  have aN:∀ (i:Nat) b,V.bs[i]?=some b->atD ((V.bs.map (·.1)).map D.str) (0+(i:Int))=some (.str b.1):=λi b hb=>by rw[show(0:Int)+(i:Int)=i by lia];exact zbw (by rw[List.getElem?_map,List.getElem?_map,hb];rfl)
  refine zaL (λi Z S'=>∃ (G:Sto) (w4 w5 w6 w7 w8 w9:Option D),S'=S4++G/\Z=[some (.rl (ns.map D.int)),some (vlD x y z V),some v,some (.ref nw),w4,w5,w6,w7,w8,w9]) ⟨[],none,none,none,none,none,none,(List.append_nil _).symm,rfl⟩ (λ_ _ _ _=>True.intro) ?_ ?_
  . rintro i d Z S' hd ⟨G,w4,w5,w6,w7,w8,w9,rfl,rfl⟩;obtain⟨hi,rfl⟩:=zbc hd;obtain⟨b,hb⟩:∃ b,V.bs[i]?=some b:=⟨_,List.getElem?_eq_getElem (by lia)⟩
    have mb:=List.mem_of_getElem? hb;have ai:=aN i b hb;have hw6:=hw4 G;walk_at"g";rw[List.length_map,List.length_map];refine⟨_,rfl,by lia,by lia,?_⟩;refine zaL (λj Z S'=>∃ (G:Sto) (w5 w6 w7 w8 w9:Option D),S'=S4++G/\Z=[some (.rl (ns.map D.int)),some (vlD x y z V),some v,some (.ref nw),some (.int (0+(i:Int))),w5,w6,w7,w8,w9]) ⟨G,w5,w6,w7,w8,w9,rfl,rfl⟩ (λ_ _ _ _=>True.intro) ?_ ?_
    . rintro j d Z S' hd ⟨G,w5,w6,w7,w8,w9,rfl,rfl⟩;obtain⟨hj,rfl⟩:=zbc hd;obtain⟨c,hc⟩:∃ c,V.bs[j]?=some c:=⟨_,List.getElem?_eq_getElem (by lia)⟩
      have mc:=List.mem_of_getElem? hc;have aj:=aN j c hc;walk_at"g";refine zrq (by lia) ?_;refine ze3 ?_;obtain⟨hrs,hhr⟩:∃ hrs:List Int,hrs=(List.range (V.h1+1-V.h0).toNat).map λk:Nat=>V.h0+(k:Int):=⟨_,rfl⟩
      have eu:upto V.h0 (V.h1+1-V.h0).toNat=hrs.map D.int:=by rw[hhr,List.map_map];rfl
      have hrm:∀ h,h∈hrs↔V.h0<=h/\h<=V.h1:=λh=>by
        rw[hhr,List.mem_map];constructor
        . rintro⟨k,hk,rfl⟩;rw[List.mem_range]at hk;lia
        . intro hh;exact⟨(h-V.h0).toNat,List.mem_range.mpr (by lia),by lia⟩
      have hrl:hrs.length<=12:=by rw[hhr,List.length_map,List.length_range];lia
      have hra:hrs.Pairwise (· < ·):=by rw[hhr,List.pairwise_map];exact List.pairwise_lt_range.imp λh=>by lia
      have bh:∀ h∈hrs,Bd 251 h:=λh hh=>by have:=(hrm h).mp hh;have b0:=ok.b0;have bl:=ok.bl;unfold Bd at b0 bl ⊢;lia
      rw[eu];clear eu hhr
      have kz:∀ T,Lst (S4++(G++[Cell.lst (hrs.map D.int)]++T)) (.ref (S4.length+G.length)) (hrs.map D.int):=λT=>by rw[<- List.append_assoc S4];exact Lst.old Lst.new
      have kz0:Lst (S4++(G++[Cell.lst (hrs.map D.int)])) (.ref (S4.length+G.length)) (hrs.map D.int):=Lst.new;walk_at"g"
      have fz:∃ f:Int->Bool,∀ h∈hrs,(f h=true↔b.1=c.1\/zly V b.2 c.2 h):=by
        classical
        exact⟨λh=>decide (b.1=c.1\/zly V b.2 c.2 h),λh _=>by simp⟩
      obtain⟨f,hf⟩:=fz;refine zrJ (λi ys S'=>S'=S4++(G++[Cell.lst (hrs.map D.int)])/\ys=((hrs.take i).filter f).map D.int) ⟨rfl,rfl⟩ (λi ys S' e=>e.1▸kz0) (by rw[List.length_map];unfold big;lia) ?_ ?_
      . rintro k d ys S' hd ⟨rfl,rfl⟩;obtain⟨h,hh,rfl⟩:=zdX hd;have mh:=List.mem_of_getElem? hh;walk_at"g";refine⟨x,y,z,V,i,j,h,by rw[show(0:Int)+(i:Int)=i by lia,show(0:Int)+(j:Int)=j by lia],hs4 _,ok,(bh h mh).mono (by decide),b.1,c.1,b.2,c.2,hb,hc,λe he=>?_⟩;have isn:zdl e=true↔e=.non:=by cases e<;>simp[zdl]
        have ef:zdl e=f h:=by rw[Bool.eq_iff_iff,isn,he.non,hf h mh]
        walk_at"g";rw[ef,zai hh,List.filter_append];cases hfh:f h with
        |true =>walk_at"g";refine⟨rfl,?_⟩;rw[List.filter_cons_of_pos hfh,List.map_append];rfl
        |false =>refine⟨rfl,?_⟩;rw[List.filter_cons_of_neg (by rw[hfh];decide)];simp
      rintro ys S' ⟨rfl,rfl⟩;rw[List.length_map,List.take_length];refine ze3 ?_;generalize hG2:G++[Cell.lst (hrs.map D.int)]++[Cell.lst ((hrs.filter f).map D.int)]=G2
      have kh:∀ T,Lst (S4++(G2++T)) (.ref (S4.length+(G++[Cell.lst (hrs.map D.int)]).length)) ((hrs.filter f).map D.int):=λT=>by rw[<- hG2,<- List.append_assoc S4];exact Lst.old Lst.new
      generalize S4.length+(G++[Cell.lst (hrs.map D.int)]).length=ih at kh;clear hG2 kz kz0;have hw7:=hw4 G2;walk_at"g";refine⟨v,V,b.1,c.1,rfl,hv4 _,ok,by lia,zfW (ok.nm b mb) 20,zfW (ok.nm c mc) 20,(λno=>?_),λs t hs' ht' ms hms T5=>?_⟩
      . rcases no with no|no
        . exact absurd rfl (no b mb)
        . exact absurd rfl (no c mc)
      have es:(b.1,s)=b:=znI ok hs' mb rfl;have et:(c.1,t)=c:=znI ok ht' mc rfl;have es2:s=b.2:=by rw[<- es]
      have et2:t=c.2:=by rw[<- et]
      subst es2 et2;have few:=hms.few ok.hh (by lia)
      have bd:∀ c∈ms,Bd 600 c.1/\Bd 600 c.2:=λc hc=>by obtain⟨h1,h2⟩:=hms.box hc;have le:=hms.ok.le c hc;exact⟨(bh c.1 ((hrm _).mpr (by lia))).mono (by decide),(bh c.2 ((hrm _).mpr (by lia))).mono (by decide)⟩
      have pn:Pln 20 b.1:=zhs (ok.nm b mb);have pm:Pln 20 c.1:=zhs (ok.nm c mc);have ps:=zjQ (ms:=ms) (by lia) bd;have lin:=zjF pn pm ps;have l1:=pn.1;have l2:=pm.1;have l3:=ps.1;have e1:(" ":Str).length=1:=by decide +kernel
      have e2:(": ":Str).length=2:=by decide +kernel
      rw[List.append_assoc];have hw8:=hw4 (G2++T5);walk_at"g";refine zeb (by rw[e1];unfold big;lia) ?_;walk_at"g";refine zeb (by rw[len_app,e1];unfold big;lia) ?_;walk_at"g";refine zeb (by rw[len_app,len_app,e1,e2];unfold big;lia) ?_;walk_at"g";refine⟨_,hrs.filter f,rfl,kh T5,hra.filter _,Nat.le_trans (List.length_filter_le _ _) (by lia),λh hh=>(bh h (List.mem_filter.mp hh).1).mono (by decide),λms2 ok2 iff2 T6=>?_⟩
      have em:ms2=ms:=zis ok2 hms.ok λh=>by
        rw[Bool.eq_iff_iff,iff2 h,hms.iff h,List.mem_filter,hrm h];constructor
        . rintro⟨⟨h1,h2⟩,h3⟩;exact⟨h1,h2,(hf h ((hrm h).mpr ⟨h1,h2⟩)).mp h3⟩
        . rintro⟨h1,h2,h3⟩;exact⟨⟨h1,h2⟩,(hf h ((hrm h).mpr ⟨h1,h2⟩)).mpr h3⟩
      subst em;walk_at"g";refine zeb (by rw[len_app,len_app,len_app,e1,e2];unfold big;lia) ?_;walk_at"g";rw[show b.1++" "++c.1++": "++zes ms2=zh1 b.1 c.1 ms2 from rfl];refine zsy (lin.fl 20) (lin.fl 20) ?_;rw[decide_eq_true (rfl:zh1 b.1 c.1 ms2=zh1 b.1 c.1 ms2)];walk_at"g";exact⟨G2++T5++T6,_,_,_,_,_,by simp,rfl⟩
    . rintro Z S' ⟨G,w5,w6,w7,w8,w9,rfl,rfl⟩;walk_at"g";exact⟨G,_,_,_,_,_,_,rfl,rfl⟩
  rintro Z S' ⟨G,w4,w5,w6,w7,w8,w9,rfl,rfl⟩;obtain⟨b,hb⟩:∃ b,V.bs[0]?=some b:=⟨_,List.getElem?_eq_getElem (by lia)⟩
  have mb:=List.mem_of_getElem? hb;have a0:atD ((V.bs.map (·.1)).map D.str) 0=some (.str b.1):=zbw (i:=0) (by rw[List.getElem?_map,List.getElem?_map,hb];rfl);have zz:fl 20 (.str ("zzz":Str))=true:=by decide +kernel
  have hw6:=hw4 G;walk_at"g";refine⟨v,V,"zzz",b.1,rfl,hv4 _,ok,by lia,zz,zfW (ok.nm b mb) 20,.inl nz,λT5=>?_⟩;rw[List.append_assoc];have hw7:=hw4 (G++T5);walk_at"g";refine⟨v,V,b.1,"zzz",rfl,hv4 _,ok,by lia,zfW (ok.nm b mb) 20,zz,.inr nz,λT6=>?_⟩;walk_at"g";exact fin_same (q _)
end Dp
namespace Law
open PySem.F PySem PySem.Spec PyProof.Rows L2 My Dp
noncomputable def top (i:Nat):Stmt:=PySem.Challenge.pw_beaconvale_k90_sights_as_lines.main.body.getD i (.Pass ⟨0,0,0,0⟩)
noncomputable abbrev zbS:Stmt:=inClass (top 42) 0
noncomputable abbrev zbU:Stmt:=inClass (top 60) 0
noncomputable abbrev zeg:Stmt:=top 85
def cgN [Bs]{X:Cx}{sc:Scope}{own free:List Str}{x:Str}{p:Pos}(h0:autoParam (0<own.length) zW)(hN:autoParam ((own++free).Nodup) zcP)(hi:autoParam ((own++free)[0]?=some x) zL)(hx:∀ cl C s₀ H₀ ex,Loc (inner X sc (own++free) cl C s₀ H₀ ex).env.scope x/\((inner X sc (own++free) cl C s₀ H₀ ex).fn x=true\/(inner X sc (own++free) cl C s₀ H₀ ex).env.scope.names.lookup x=some .local):=by intros;first|exact⟨Or.inl rfl,Or.inr rfl⟩|exact⟨Or.inr rfl,Or.inl rfl⟩):zeT X.K own.length (Dp.zak 0) (L2.zak 0)/\∀ cl C s₀ H₀ ex,PG (inner X sc (own++free) cl C s₀ H₀ ex) (.Name x p) (L2.zak 0):=⟨zaU 0 h0,λcl C s₀ H₀ ex=>zbv (i:=0) hN hi (hx cl C s₀ H₀ ex).1 (hx cl C s₀ H₀ ex).2⟩
abbrev Fk (K:W.Frag)(x:Str)(st:Stmt)(f:Addr)(fd:FuncData):Prop:=Fun K x x st f fd
def fnN {P:Program}{w:World}{K:W.Frag}{mg:Str->Option Value}{base:Heap}{st:Stmt}{M:List Str}{k:Nat}{sp:DSp}{b:DS}(F:Fun K x qual st f fd)(body:BodyOk (ps++M).length b sp)(term:∀ {cdv:Value} {A:Around} {outer:List Env} {s:Shared} {H:Hp} {E:XK} [Bs],(ps++M).Nodup->zaB k (A.deeper (envOfC qual (zY st) s.heap.objs.size f cdv))->zcS (zcI CX0 P w K mg base (ps++M) qual (zY st) f cdv A outer s H E).nox (zaI st) b)(S:autoParam (zcC (ps++M) ps (zY st)) znd)(len:autoParam (∀ ds So Q,sp ds So Q->ds.length=ps.length) zm8):zQ P w K mg base CX0 (k+1) f fd ps (upF K sp):=zpU F S len body λ_ _ _ _ _ _ hr=>term S.nd hr
def zhO {P:Program}{w:World}{K:W.Frag}{mg:Str->Option Value}{base:Heap}{st:Stmt}{M:List Str}{k:Nat}{sp:zc0}{b:XR->DS}(F:Fun K x qual st f fd)(body:zcB (ps++M).length b sp)(term:∀ {cdv:Value} {A:Around} {outer:List Env} {s:Shared} {H:Hp} {E:XK} [Bs],(ps++M).Nodup->zaB k (A.deeper (envOfC qual (zY st) s.heap.objs.size f cdv))->∀ (ex:XR),XOk (zcI (CXd P w) P w K mg base (ps++M) qual (zY st) f cdv A outer s H E) ex->XMk (zcI (CXd P w) P w K mg base (ps++M) qual (zY st) f cdv A outer s H E) ex->zcS (zcI (CXd P w) P w K mg base (ps++M) qual (zY st) f cdv A outer s H E) (zaI st) (b ex))(S:autoParam (zcC (ps++M) ps (zY st)) znd)(len:autoParam (∀ ds So Q ex,sp ds So Q ex->ds.length=ps.length) zm8):zQ P w K mg base (CXd P w) (k+1) f fd ps (zcf K sp):=znQ F S len body λ_ _ _ _ _ _ hr _=>term S.nd hr
def pdV [Bs]{X:Cx}{i:Nat}{x:Str}{p:Pos}(h1:autoParam (X.N[i]?=some x) zL)(h2:autoParam (Vis X.env.scope x) zl5)(h3:autoParam ((x==("__debug__":Str))=false) zW)(h4:autoParam ((x==("__classdict__":Str))=false) zW):PD X (.Name x p) (zaZ i):=zwn i h1 h2 h3 h4
section
variable {P:Program}{w:World}{K:W.Frag}{mg:Str->Option Value}{base:Heap}{f:Addr}{fd:FuncData}
variable (xg:mg "len"=none)
include xg in
def zko (F:Fk K "_law_cell" (top 69) f fd):zQ P w K mg base CX0 1 f fd ["script","k"] (upF K Dp.zbX):=fnN (M:=[]) F Dp.zkh λhnd hr=>(zm (zO (zH zaR pdV (zaj zaH xg boot_len (zc pdV zp))) (zu (zF (zq pdV pdV))) zM)
 (zu (zF zf)))
variable (xcj:Got P w K mg base 1 "_law_cell" ["script","k"] (upF K Dp.zbX))
variable (xq:mg "range"=none)
include xg xq in
def ziP (F:Fk K "_law_folded" (top 71) f fd):zQ P w K mg base CX0 1 f fd ["script","start","size"] (upF K Dp.zcm):=fnN (M:=["told","k"]) F Dp.ziL λhnd hr=>(zm (zc5 hnd (own:=["k"]) (free:=[]) True.intro True.intro (zbW xq (zc pdV zp)) cgN (λ_ _ _ _ _=>zbb) (λ_ _ _ _ _=>(zR (zN pdV pdV) zf)))
 (zm (zav (zhR xq (zc pdV (zc (zaj zaH xg boot_len (zc pdV zp)) zp))) (zad hnd) (zu (zgc (zR (zN (zq pdV (zah pdV pdV)) zf) (zq pdV pdV)) (zhZ pdV (zah pdV pdV)))))
 (zu (zF pdV))))
variable (xc3:Got P w K mg base 1 "_law_folded" ["script","start","size"] (upF K Dp.zcm))
def zjU (F:Fk K "_law_mixed" (top 70) f fd):zQ P w K mg base CX0 1 f fd ["cell","k"] (upF K Dp.zbF):=fnN (M:=["stir"]) F Dp.zjr λhnd hr=>(zm (zy hnd (zah (zN (zR (zR (zah pdV zf) (zN zf pdV)) zf) zf) zf))
 (zu (zF (zah (zN pdV pdV) zf))))
variable (xad:Got P w K mg base 1 "_law_mixed" ["cell","k"] (upF K Dp.zbF))
include xq xad in
def zgW (F:Fk K "_law_ground_by" (top 73) f fd):zQ P w K mg base CX0 2 f fd ["cells","count","scale"] (upF K Dp.zbN):=fnN (M:=["corners","x","k","m"]) F Dp.zgD λhnd hr=>(zm (zy hnd (zay zp))
 (zm (zy hnd (zaA zf))
 (zm (zav (zbW xq (zc pdV zp)) (zad hnd) (zm (zy hnd (zJ xad hr (zc (zq pdV pdV) (zc pdV zp))))
 (zm (zap (zeK PySem.F.slot_list_append PySem.F.type_list_append zbH pdV (zc (zX (zc (zN pdV pdV) (zc (zN (zah (zan pdV zf) zf) pdV) zp))) zp)))
 (zu (zy hnd (zR (zR pdV zf) (zah (zan pdV zf) zf)))))))
 (zu (zF pdV)))))
variable (xb5:Got P w K mg base 2 "_law_ground_by" ["cells","count","scale"] (upF K Dp.zbN))
include xq in
def ziZ (F:Fk K "_law_names" (top 74) f fd):zQ P w K mg base CX0 1 f fd ["base"] (upF K Dp.zcK):=fnN (M:=["stem"]) F Dp.zjd λhnd hr=>(zm (zy hnd (zq (zay (zc zaz (zc zaz (zc zaz (zc zaz zp))))) (zah pdV zf)))
 (zu (zF (zdO (own:=["k"]) (free:=["stem","base"]) ⟨rfl,rfl,True.intro⟩ ⟨rfl,rfl,rfl,rfl,rfl,rfl,True.intro⟩ (zbW xq (zc zf zp)) cgN (λ_ _ _ _ _=>zbb) (λ_ _ _ _ _=>(zR pdV (zq zaz (zah (zR (zan pdV zf) (zN zf pdV)) zf))))))))
variable (xeg:Got P w K mg base 1 "_law_names" ["base"] (upF K Dp.zcK))
include xg xq in
def zkn (F:Fk K "_law_high" (top 72) f fd):zQ P w K mg base CX0 1 f fd ["corners","x"] (upF K Dp.zdg):=fnN (M:=["k","left","right","rise"]) F Dp.zkj λhnd hr=>(zm (zav (zhR xq (zc zf (zc (zaj zaH xg boot_len (zc pdV zp)) zp))) (zad hnd) (zm (zy hnd (zq pdV (zU pdV zf)))
 (zm (zy hnd (zq pdV pdV))
 (zu (zO (zbo (zcE (zH zdH (zq pdV zf) pdV) (zcu (zH zdH pdV (zq pdV zf))))) (zm (zy hnd (zN (zU (zq pdV zf) (zq pdV zf)) (zU pdV (zq pdV zf))))
 (zu (zF (zU (zq pdV zf) (zan (zaA pdV) (zU (zq pdV zf) (zq pdV zf))))))) zM)))))
 (zu (zF zbl)))
variable (xe6:Got P w K mg base 1 "_law_high" ["corners","x"] (upF K Dp.zdg))
include xad xe6 in
def ziI (F:Fk K "_law_beacon" (top 75) f fd):zQ P w K mg base CX0 2 f fd ["cell","k","corners","scale","name"] (upF K Dp.zcn):=fnN (M:=["m","wide","x"]) F Dp.ziK λhnd hr=>(zm (zy hnd (zJ xad hr (zc pdV (zc (zR pdV zf) zp))))
 (zm (zy hnd (zan (zU (zq (zq pdV (zaA zf)) zf) (zq (zq pdV zf) zf)) pdV))
 (zm (zy hnd (zR (zq (zq pdV zf) zf) (zN (zah pdV (zR pdV zf)) pdV)))
 (zu (zF (zX (zc pdV (zc pdV (zc (zR (zJ xe6 hr (zc pdV (zc pdV zp))) (zN (zq (zay (zc zf (zc zf (zc zf (zc zf (zc zf (zc zf zp))))))) (zah (zan pdV zf) zf)) pdV)) zp)))))))))
variable (xc7:Got P w K mg base 2 "_law_beacon" ["cell","k","corners","scale","name"] (upF K Dp.zcn))
include xad in
def zlS (F:Fk K "_law_fog" (top 76) f fd):zQ P w K mg base CX0 2 f fd ["cell","k","corners","scale","hours"] (upF K Dp.zdN):=fnN (M:=["m","left","low","first","wide","high","drift"]) F Dp.zlX λhnd hr=>(zm (zy hnd (zJ xad hr (zc pdV (zc (zR pdV zf) zp))))
 (zm (zy hnd (zR (zq (zq pdV zf) zf) (zN (zU (zah pdV zf) zf) pdV)))
 (zm (zy hnd (zN (zU (zah (zan pdV zf) zf) zf) pdV))
 (zm (zy hnd (zR (zU (zq pdV zf) zf) (zah (zan pdV zf) (zR (zU (zq pdV zf) (zq pdV zf)) zf))))
 (zm (zy hnd (zN (zah (zan pdV zf) zf) pdV))
 (zm (zy hnd (zN (zah (zan pdV zf) zf) pdV))
 (zm (zy hnd (zN (zU (zah (zan pdV zf) zf) zf) pdV))
 (zu (zF (zX (zc pdV (zc (zR pdV pdV) (zc pdV (zc (zR pdV pdV) (zc pdV (zc (zR pdV (zah (zan pdV zf) zf)) (zc pdV (zc (zN (zU (zah (zan pdV zf) zf) zf) pdV) zp))))))))))))))))))
variable (xfp:Got P w K mg base 2 "_law_fog" ["cell","k","corners","scale","hours"] (upF K Dp.zdN))
include xcj xq xc3 xb5 xeg xc7 xfp in
def zjB (F:Fk K "_law_parts" (top 77) f fd):zQ P w K mg base CX0 3 f fd ["script"] (upF K Dp.zcU):=fnN (M:=["head","second","third","cells","scale","first","hours","corners","names","beacons","fogs","haze"]) F Dp.zi9 λhnd hr=>(zm (zy hnd (zJ xcj hr (zc pdV (zc zf zp))))
 (zm (zy hnd (zJ xcj hr (zc pdV (zc zf zp))))
 (zm (zy hnd (zJ xcj hr (zc pdV (zc zf zp))))
 (zm (zy hnd (zJ xc3 hr (zc pdV (zc zf (zc zf zp)))))
 (zm (zy hnd (zq (zay (zc zf (zc zf (zc (zkS 100000000000000000000) zp)))) (zah pdV zf)))
 (zm (zy hnd (zq (zay (zc zf (zc zf (zc (zaA (zkS 1000000000000000000000000000000)) zp)))) (zah (zan pdV zf) zf)))
 (zm (zy hnd (zX (zc pdV (zc (zR pdV (zah (zan pdV zf) zf)) zp))))
 (zm (zy hnd (zJ xb5 hr (zc pdV (zc (zR zf (zah (zan pdV zf) zf)) (zc pdV zp)))))
 (zm (zy hnd (zJ xeg hr (zc (zan pdV zf) zp)))
 (zm (zc5 hnd (own:=["k"]) (free:=["cells","corners","scale","names"]) ⟨rfl,rfl,rfl,rfl,True.intro⟩ ⟨rfl,rfl,rfl,rfl,rfl,rfl,rfl,rfl,rfl,rfl,rfl,rfl,True.intro⟩ (zbW xq (zc (zR zf (zah pdV zf)) zp)) cgN (λ_ _ _ _ _=>zbb) (λ_ _ _ _ _=>(zJ xc7 hr (zc (zq pdV (zR zf pdV)) (zc pdV (zc pdV (zc pdV (zc (zq pdV pdV) zp))))))))
 (zm (zc5 hnd (own:=["k"]) (free:=["cells","corners","scale","hours"]) ⟨rfl,rfl,rfl,rfl,True.intro⟩ ⟨rfl,rfl,rfl,rfl,rfl,rfl,rfl,rfl,rfl,rfl,rfl,rfl,True.intro⟩ (zbW xq (zc (zah (zan pdV zf) zf) zp)) cgN (λ_ _ _ _ _=>zbb) (λ_ _ _ _ _=>(zJ xfp hr (zc (zq pdV (zR zf (zah pdV zf))) (zc pdV (zc pdV (zc pdV (zc pdV zp))))))))
 (zm (zy hnd zbl)
 (zm (zff (zO (zH (zcH hr) (zah pdV zf) zf) (zu (zy hnd (zN (zN (zah (zan pdV zf) zf) pdV) (zN (zah (zan pdV zf) zf) pdV)))) zM))
 (zu (zF (zX (zc pdV (zc pdV (zc pdV (zc pdV (zc (zq pdV zf) (zc (zq pdV zf) (zc (zq (zay (zc zf (zc zf (zc zf (zc zf (zc zf zp)))))) (zah (zan pdV zf) zf)) zp)))))))))))))))))))))))
variable (xd7:Got P w K mg base 3 "_law_parts" ["script"] (upF K Dp.zcU))
variable (xb4:∃ t,mg "LEAST_CORNERS"=some (.int 2 t))
variable (xci:∃ t,mg "MOST_CORNERS"=some (.int 40 t))
include xg xq xb4 xci in
def zez (F:Fk K "refuse_bad_corners" (top 41) f fd):zQ P w K mg base CX0 1 f fd ["corners"] (upF K Dp.zaX):=fnN (M:=["k"]) F Dp.zey λhnd hr=>(zm (zO (zbo (zd0 (zH zaR (zaj zaH xg boot_len (zc pdV zp)) (z9 rfl xb4)) (zc3 (zH zbn (zaj zaH xg boot_len (zc pdV zp)) (z9 rfl xci))))) (zu zaS) zM)
 (zu (zav (zhR xq (zc zf (zc (zaj zaH xg boot_len (zc pdV zp)) zp))) (zad hnd) (zu (zO (zH zdH (zq (zq pdV pdV) zf) (zq (zq pdV (zU pdV zf)) zf)) (zu zaS) zM)))))
variable (xai:Got P w K mg base 1 "refuse_bad_corners" ["corners"] (upF K Dp.zaX))
variable (xa8:∀ C,W.nsIn K mainGlobals "Ground"=some (some (.ref C))->zam K C "corners")
variable (xag:mg "list"=none)
include xai xa8 xag in
def zhK (F:Fun K "__init__" "Ground.__init__" zbS f fd):zQ P w K mg base CX0 2 f fd ["self","corners"] (upF K Dp.zc4):=fnN (M:=[]) F Dp.zhP λhnd hr=>(zm (zap (zJ xai hr (zc pdV zp)))
 (zu (zcy xa8 pdV (zdm zdU xag boot_list (zc pdV zp)))))
variable (xcv:zia P w K mg base 2 "Ground" (upF K Dp.zej))
variable (xch:∃ t,mg "MOST_BEACONS"=some (.int 12 t))
variable (xel:∃ t,mg "MOST_FOGS"=some (.int 12 t))
include xg xch xel in
def zeB (F:Fk K "refuse_bad_numbers" (top 55) f fd):zQ P w K mg base CX0 1 f fd ["beacons","fogs"] (upF K Dp.zaW):=fnN (M:=[]) F Dp.zeD λhnd hr=>(zm (zO (zbo (zd0 (zH zaR (zaj zaH xg boot_len (zc pdV zp)) zf) (zc3 (zH zbn (zaj zaH xg boot_len (zc pdV zp)) (z9 rfl xch))))) (zu zaS) zM)
 (zu (zO (zH zbn (zaj zaH xg boot_len (zc pdV zp)) (z9 rfl xel)) (zu zaS) zM)))
variable (xal:Got P w K mg base 1 "refuse_bad_numbers" ["beacons","fogs"] (upF K Dp.zaW))
variable (xcg:∃ t,mg "MOST_LETTERS"=some (.int 8 t))
variable (xfq:∃ t,mg "LETTERS"=some (.str "abcdefghijklmnopqrstuvwxyz" t))
variable (xa3:mg "all"=none)
include xg xcg xfq xa3 in
def zlG (F:Fk K "is_name" (top 54) f fd):zQ P w K mg base CX0 1 f fd ["text"] (upF K Dp.zdR):=fnN (M:=[]) F Dp.zlz λhnd hr=>(zm (zO (zbo (zd0 (zH zaR (zaj zaH xg boot_len (zc pdV zp)) zf) (zc3 (zH zbn (zaj zaH xg boot_len (zc pdV zp)) (z9 rfl xcg))))) (zu (zF zdP)) zM)
 (zu (zF (zaj zfN xa3 boot_all (zc (zdO (own:=["sign"]) (free:=[]) True.intro True.intro (zaJ pdV) cgN (λ_ _ _ _ _=>zbb) (λ_ _ _ _ _=>(zrl (zuT hr) pdV (zrn rfl xfq)))) zp)))))
variable (xfx:Got P w K mg base 1 "is_name" ["text"] (upF K Dp.zdR))
variable (xhg:mg "set"=none)
include xg xa3 xfx xhg in
def zfp (F:Fk K "refuse_bad_names" (top 56) f fd):zQ P w K mg base CX0 2 f fd ["names"] (upF K Dp.zbe):=fnN (M:=[]) F Dp.zfn λhnd hr=>(zm (zO (zca (zbz (zaj zfN xa3 boot_all (zc (zdO (own:=["name"]) (free:=[]) True.intro True.intro (zaJ pdV) cgN (λ_ _ _ _ _=>zbb) (λ_ _ _ _ _=>(zJ xfx hr (zc pdV zp)))) zp)))) (zu zaS) zM)
 (zu (zO (zH zaR (zqn rfl xg rfl xhg (zc pdV zp)) (zaj zaH xg boot_len (zc pdV zp))) (zu zaS) zM)))
variable (xaw:Got P w K mg base 2 "refuse_bad_names" ["names"] (upF K Dp.zbe))
def zqC (F:Fk K "less" (top 35) f fd):zQ P w K mg base CX0 1 f fd ["one","other"] (upF K Dp.zda):=fnN (M:=[]) F Dp.zq5 λhnd hr=>(zu (zF (zeE zaR (zN (zq pdV zf) (zq pdV zf)) (zN (zq pdV zf) (zq pdV zf)))))
variable (xb8:Got P w K mg base 1 "less" ["one","other"] (upF K Dp.zda))
include xb8 in
def zoF (F:Fk K "is_on" (top 43) f fd):zQ P w K mg base CX0 2 f fd ["ground","place"] (upF K Dp.zdY):=fnN (M:=["first","last"]) F Dp.zou λhnd hr=>(zm (zy hnd (zX (zc (zq (zq (zbE pdV rfl) zf) zf) (zc zf zp))))
 (zm (zy hnd (zX (zc (zq (zq (zbE pdV rfl) (zaA zf)) zf) (zc zf zp))))
 (zu (zF (zeA (zf7 (zJ xb8 hr (zc pdV (zc pdV zp)))) (zhl (zf7 (zJ xb8 hr (zc pdV (zc pdV zp))))))))))
variable (xdr:Got P w K mg base 2 "is_on" ["ground","place"] (upF K Dp.zdY))
variable (xhf:mg "abs"=none)
include xhf in
def zgn (F:Fk K "common_divisor" (top 33) f fd):zQ P w K mg base CX0 1 f fd ["one","other"] (upF K Dp.zbu):=fnN (M:=["rest"]) F Dp.zgi λhnd hr=>(zm (zix (zH (ziV hr) pdV zf) (zm (zy hnd (zah pdV pdV))
 (zm (zy hnd pdV)
 (zu (zy hnd pdV)))))
 (zu (zF (zaj zs3 xhf boot_abs (zc pdV zp)))))
variable (xbh:Got P w K mg base 1 "common_divisor" ["one","other"] (upF K Dp.zbu))
include xbh in
def zkw (F:Fk K "fraction" (top 34) f fd):zQ P w K mg base CX0 2 f fd ["top","bottom"] (upF K Dp.zdi):=fnN (M:=["divisor"]) F Dp.zks λhnd hr=>(zm (zy hnd (zJ xbh hr (zc pdV (zc pdV zp))))
 (zm (zff (zO (zH zaR pdV zf) (zu (zy hnd (zaA pdV))) zM))
 (zu (zF (zX (zc (zan pdV pdV) (zc (zan pdV pdV) zp)))))))
variable (xe7:Got P w K mg base 2 "fraction" ["top","bottom"] (upF K Dp.zdi))
include xe7 in
def zjC (F:Fk K "height_on" (top 37) f fd):zQ P w K mg base CX0 3 f fd ["one","other","place"] (upF K Dp.zcL):=fnN (M:=["run","rise","top"]) F Dp.zj8 λhnd hr=>(zm (zy hnd (zU (zq pdV zf) (zq pdV zf)))
 (zm (zy hnd (zU (zq pdV zf) (zq pdV zf)))
 (zm (zy hnd (zR (zN (zN (zq pdV zf) pdV) (zq pdV zf)) (zN pdV (zU (zq pdV zf) (zN (zq pdV zf) (zq pdV zf))))))
 (zu (zF (zJ xe7 hr (zc pdV (zc (zN pdV (zq pdV zf)) zp))))))))
variable (xd5:Got P w K mg base 3 "height_on" ["one","other","place"] (upF K Dp.zcL))
variable (xao:∀ C,W.nsIn K mainGlobals "OffGround"=some (some (.ref C))->ExC K C)
variable (xaq:∃ C,W.nsIn K mainGlobals "OffGround"=some (some (.ref C))/\mg "OffGround"=some (.ref C))
include xb8 xdr xd5 xao xaq in
def zjf (F:Fk K "ground_at" (top 44) f fd):zQ P w K mg base (CXd P w) 4 f fd ["ground","place"] (zcf K Dp.zcW):=zhO (M:=["corners","k"]) F Dp.zjy λhnd hr ex hX hM=>(zm (zO (zca (zbz (zJ xdr hr (zc pdV (zc pdV zp))))) (zu (zfq hM rfl xao xaq rfl (zc zaz zp) (λ_ _ _ h=>h _))) zM)
 (zm (zy hnd (zbE pdV rfl))
 (zm (zy hnd zf)
 (zm (zix (zbz (zJ xb8 hr (zc (zX (zc (zq (zq pdV pdV) zf) (zc zf zp))) (zc pdV zp)))) (zu (zqE hnd zf)))
 (zu (zF (zJ xd5 hr (zc (zq pdV (zU pdV zf)) (zc (zq pdV pdV) (zc pdV zp))))))))))
variable (xd4:zfD P w K mg base 4 "ground_at" ["ground","place"] (zcf K Dp.zcW))
include xb8 xdr xd4 in
def znk (F:Fk K "stands" (top 45) f fd):zQ P w K mg base CX0 5 f fd ["ground","spot"] (upF K Dp.zdr):=fnN (M:=["place"]) F Dp.zmx λhnd hr=>(zm (zy hnd (zX (zc (zq pdV zf) (zc zf zp))))
 (zm (zO (zca (zbz (zJ xdr hr (zc pdV (zc pdV zp))))) (zu (zF zdP)) zM)
 (zu (zF (zf7 (zJ xb8 hr (zc (zX (zc (zq pdV zf) (zc zf zp))) (zc (zbJ xd4 zlL hr (zc pdV (zc pdV zp))) zp))))))))
variable (xcx:Got P w K mg base 5 "stands" ["ground","spot"] (upF K Dp.zdr))
include xa3 xcx in
def zfv (F:Fk K "refuse_bad_tops" (top 57) f fd):zQ P w K mg base CX0 6 f fd ["ground","beacons"] (upF K Dp.zbk):=fnN (M:=[]) F Dp.zfS λhnd hr=>(zu (zO (zca (zbz (zaj zfN xa3 boot_all (zc (zdO (own:=["name","x","z"]) (free:=["ground"]) ⟨rfl,True.intro⟩ ⟨rfl,rfl,rfl,True.intro⟩ (zaJ pdV) ⟨(zeU (za7 (zaU 0 (by decide)) (za7 (zaU 1 (by decide)) (za7 (zaU 2 (by decide)) zer)))),λ_ _ _ _ _=>(zfx rfl (zbq (zbv (show List.Nodup (["name","x","z","ground"]:List Str) by decide +kernel) rfl (Or.inl rfl) (Or.inr rfl)) (zbq (zbv (show List.Nodup (["name","x","z","ground"]:List Str) by decide +kernel) rfl (Or.inl rfl) (Or.inr rfl)) (zbq (zbv (show List.Nodup (["name","x","z","ground"]:List Str) by decide +kernel) rfl (Or.inl rfl) (Or.inr rfl)) zeJ))))⟩ (λ_ _ _ _ _=>zbb) (λ_ _ _ _ _=>(zJ xcx hr (zc pdV (zc (zX (zc pdV (zc pdV zp))) zp))))) zp)))) (zu zaS) zM))
variable (xa0:Got P w K mg base 6 "refuse_bad_tops" ["ground","beacons"] (upF K Dp.zbk))
variable (xhh:mg "int"=none)
variable (xu:mg "isinstance"=none)
variable (xg2:mg "bool"=none)
include xhh xu xg2 in
def zku (F:Fk K "is_whole" (top 1) f fd):zQ P w K mg base CX0 1 f fd ["value"] (upF K Dp.zde):=fnN (M:=[]) F Dp.zkv λhnd hr=>(zu (zF (zeA (zaj zhv xu boot_isinstance (zc pdV (zc (ziY rfl xhh boot_int) zp))) (zhl (zf7 (zaj zhv xu boot_isinstance (zc pdV (zc (ziY rfl xg2 boot_bool) zp))))))))
variable (xfb:Got P w K mg base 1 "is_whole" ["value"] (upF K Dp.zde))
variable (xfw:∃ t,mg "NUMBERS"=some (.int 8 t))
variable (xbt:∃ t,mg "LEFT"=some (.int 0 t))
variable (xas:∃ t,mg "RIGHT"=some (.int 1 t))
variable (xcu:∃ t,mg "LOW"=some (.int 2 t))
variable (xbs:∃ t,mg "HIGH"=some (.int 3 t))
variable (xck:∃ t,mg "FIRST"=some (.int 4 t))
variable (xfi:∃ t,mg "LAST"=some (.int 5 t))
variable (xdc:mg "tuple"=none)
include xg xa3 xu xfb xfw xbt xas xcu xbs xck xfi xdc in
def zmQ (F:Fk K "is_fog" (top 27) f fd):zQ P w K mg base CX0 2 f fd ["value"] (upF K Dp.zef):=fnN (M:=[]) F Dp.znf λhnd hr=>(zm (zO (zbo (zd0 (zca (zbz (zaj zhv xu boot_isinstance (zc pdV (zc (ziY rfl xdc boot_tuple) zp))))) (zc3 (zH (ziV hr) (zaj zaH xg boot_len (zc pdV zp)) (z9 rfl xfw))))) (zu (zF zdP)) zM)
 (zm (zO (zca (zbz (zaj zfN xa3 boot_all (zc (zdO (own:=["number"]) (free:=[]) True.intro True.intro (zaJ pdV) cgN (λ_ _ _ _ _=>zbb) (λ_ _ _ _ _=>(zJ xfb hr (zc pdV zp)))) zp)))) (zu (zF zdP)) zM)
 (zu (zF (zeA (zeE zdH (zq pdV (z9 rfl xbt)) (zq pdV (z9 rfl xas))) (zeA (zeE zdH (zq pdV (z9 rfl xcu)) (zq pdV (z9 rfl xbs))) (zhl (zeE zdH (zq pdV (z9 rfl xck)) (zq pdV (z9 rfl xfi))))))))))
variable (xgi:Got P w K mg base 2 "is_fog" ["value"] (upF K Dp.zef))
include xa3 xgi in
def zfT (F:Fk K "refuse_bad_fogs" (top 58) f fd):zQ P w K mg base CX0 3 f fd ["fogs"] (upF K Dp.zbm):=fnN (M:=[]) F Dp.zfF λhnd hr=>(zu (zO (zca (zbz (zaj zfN xa3 boot_all (zc (zdO (own:=["fog"]) (free:=[]) True.intro True.intro (zaJ pdV) cgN (λ_ _ _ _ _=>zbb) (λ_ _ _ _ _=>(zJ xgi hr (zc pdV zp)))) zp)))) (zu zaS) zM))
variable (xa4:Got P w K mg base 3 "refuse_bad_fogs" ["fogs"] (upF K Dp.zbm))
def zfm (F:Fk K "refuse_bad_hours" (top 59) f fd):zQ P w K mg base CX0 1 f fd ["haze","first","last","delay"] (upF K Dp.zbd):=fnN (M:=[]) F Dp.zfo λhnd hr=>(zm (zO (zH zbn pdV pdV) (zu zaS) zM)
 (zm (zO (zH zaR pdV zf) (zu zaS) zM)
 (zu (zO (zbo (zcE (zH zeG pdV zbl) (zcu (zH zaR pdV zf)))) (zu zaS) zM))))
variable (xau:Got P w K mg base 1 "refuse_bad_hours" ["haze","first","last","delay"] (upF K Dp.zbd))
variable (xbq:∀ C,W.nsIn K mainGlobals "Valley"=some (some (.ref C))->zam K C "ground")
variable (xa6:∀ C,W.nsIn K mainGlobals "Valley"=some (some (.ref C))->zam K C "beacons")
variable (xcf:∀ C,W.nsIn K mainGlobals "Valley"=some (some (.ref C))->zam K C "fogs")
variable (xce:∀ C,W.nsIn K mainGlobals "Valley"=some (some (.ref C))->zam K C "haze")
variable (xb7:∀ C,W.nsIn K mainGlobals "Valley"=some (some (.ref C))->zam K C "first")
variable (xcl:∀ C,W.nsIn K mainGlobals "Valley"=some (some (.ref C))->zam K C "last")
variable (xb2:∀ C,W.nsIn K mainGlobals "Valley"=some (some (.ref C))->zam K C "delay")
include xag xcv xal xaw xa0 xa4 xau xbq xa6 xcf xce xb7 xcl xb2 in
def zhH (F:Fun K "__init__" "Valley.__init__" zbU f fd):zQ P w K mg base CX0 7 f fd ["self","ground","beacons","fogs","haze","first","last","delay"] (upF K Dp.zc2):=fnN (M:=[]) F Dp.zhN λhnd hr=>(zm (zap (zJ xal hr (zc pdV (zc pdV zp))))
 (zm (zap (zJ xaw hr (zc (zdO (own:=["beacon"]) (free:=[]) True.intro True.intro (zaJ pdV) cgN (λ_ _ _ _ _=>zbb) (λ_ _ _ _ _=>(zq pdV zf))) zp)))
 (zm (zap (zJ xa0 hr (zc pdV (zc pdV zp))))
 (zm (zap (zJ xa4 hr (zc pdV zp)))
 (zm (zap (zJ xau hr (zc pdV (zc pdV (zc pdV (zc pdV zp))))))
 (zm (zcy xbq pdV (zjT xcv hr (zc (zbE pdV rfl) zp)))
 (zm (zcy xa6 pdV (zdm zdU xag boot_list (zc pdV zp)))
 (zm (zcy xcf pdV (zdm zdU xag boot_list (zc pdV zp)))
 (zm (zcy xce pdV pdV)
 (zm (zcy xb7 pdV pdV)
 (zm (zcy xcl pdV pdV)
 (zu (zcy xb2 pdV pdV)))))))))))))
variable (xgj:zia P w K mg base 7 "Valley" (upF K Dp.zfI))
include xag xcv xgj in
def zkm (F:Fk K "_law_made" (top 78) f fd):zQ P w K mg base CX0 9 f fd ["parts"] (upF K Dp.zdf):=fnN (M:=["ground"]) F Dp.zki λhnd hr=>(zm (zy hnd (zjT xcv hr (zc (zdm zdU xag boot_list (zc (zq pdV zf) zp)) zp)))
 (zu (zF (zjT xgj hr (zc pdV (zc (zdm zdU xag boot_list (zc (zq pdV zf) zp)) (zc (zdm zdU xag boot_list (zc (zq pdV zf) zp)) (zc (zq pdV zf) (zc (zq pdV zf) (zc (zq pdV zf) (zc (zq pdV zf) zp)))))))))))
variable (xe5:Got P w K mg base 9 "_law_made" ["parts"] (upF K Dp.zdf))
include xg xq in
def ziM (F:Fk K "_law_corner" (top 79) f fd):zQ P w K mg base CX0 1 f fd ["corners","one","other"] (upF K Dp.zcl):=fnN (M:=["wide","rise","k","x","z"]) F Dp.ziC λhnd hr=>(zm (zff (zO (zH zbn (zq pdV zf) (zq pdV zf)) (zu (zrj rfl hnd rfl rfl (by decide) rfl rfl (zc pdV (zc pdV zp)) rfl)) zM))
 (zm (zy hnd (zU (zq pdV zf) (zq pdV zf)))
 (zm (zy hnd (zU (zq pdV zf) (zq pdV zf)))
 (zm (zav (zbW xq (zc (zaj zaH xg boot_len (zc pdV zp)) zp)) (zad hnd) (zm (zgc (zq pdV pdV) (zdS rfl (za3 (zad hnd) (za3 (zad hnd) zdT))))
 (zu (zO (zbo (zcE (zH zaR (zq pdV zf) pdV) (zcE (zH zaR pdV (zq pdV zf)) (zcu (zH zbn (zN (zU pdV (zq pdV zf)) pdV) (zN pdV (zU pdV (zq pdV zf)))))))) (zu (zF pdV)) zM))))
 (zu (zF zbl))))))
variable (xc8:Got P w K mg base 1 "_law_corner" ["corners","one","other"] (upF K Dp.zcl))
include xq in
def zjo (F:Fk K "_law_meets" (top 80) f fd):zQ P w K mg base CX0 1 f fd ["box","one","other"] (upF K Dp.zcJ):=fnN (M:=["low","high","axis","step","ends"]) F Dp.zjp λhnd hr=>(zm (zy hnd (zX (zc zf (zc zf zp))))
 (zm (zy hnd (zX (zc zf (zc zf zp))))
 (zm (zav (zbW xq (zc zf zp)) (zad hnd) (zm (zy hnd (zU (zq pdV pdV) (zq pdV pdV)))
 (zm (zy hnd (zay (zc (zU (zq pdV (zN zf pdV)) (zq pdV pdV)) (zc (zU (zq pdV (zR (zN zf pdV) zf)) (zq pdV pdV)) zp))))
 (zm (zO (zH (zcH hr) pdV zf) (zm (zO (zbo (zd0 (zH zbn (zq pdV zf) zf) (zc3 (zH zaR (zq pdV zf) zf)))) (zu (zF zdP)) zM)
 (zu zn9)) zM)
 (zm (zff (zO (zH zaR pdV zf) (zm (zy hnd (zaA pdV))
 (zu (zy hnd (zay (zc (zaA (zq pdV zf)) (zc (zaA (zq pdV zf)) zp)))))) zM))
 (zm (zff (zO (zH zbn (zN (zq pdV zf) (zq pdV zf)) (zN (zq pdV zf) pdV)) (zu (zy hnd (zX (zc (zq pdV zf) (zc pdV zp))))) zM))
 (zu (zO (zH zaR (zN (zq pdV zf) (zq pdV zf)) (zN (zq pdV zf) pdV)) (zu (zy hnd (zX (zc (zq pdV zf) (zc pdV zp))))) zM))))))))
 (zu (zF (zeE zdH (zN (zq pdV zf) (zq pdV zf)) (zN (zq pdV zf) (zq pdV zf))))))))
variable (xep:Got P w K mg base 1 "_law_meets" ["box","one","other"] (upF K Dp.zcJ))
include xep in
def zjh (F:Fk K "_law_hides" (top 81) f fd):zQ P w K mg base CX0 2 f fd ["fog","one","other","hour"] (upF K Dp.zb7):=fnN (M:=["gone","along","up_by"]) F Dp.zjL λhnd hr=>(zm (zO (zbo (zd0 (zH zaR pdV (zq pdV zf)) (zc3 (zH zbn pdV (zq pdV zf))))) (zu (zF zdP)) zM)
 (zm (zy hnd (zU pdV (zq pdV zf)))
 (zm (zy hnd (zN (zq pdV zf) pdV))
 (zm (zy hnd (zN (zq pdV zf) pdV))
 (zu (zF (zJ xep hr (zc (zX (zc (zR (zq pdV zf) pdV) (zc (zR (zq pdV zf) pdV) (zc (zR (zq pdV zf) pdV) (zc (zR (zq pdV zf) pdV) zp))))) (zc pdV (zc pdV zp))))))))))
variable (xed:Got P w K mg base 2 "_law_hides" ["fog","one","other","hour"] (upF K Dp.zb7))
include xg xq xc8 xed in
def zhW (F:Fk K "_law_between" (top 82) f fd):zQ P w K mg base CX0 3 f fd ["parts","k","j","hour"] (upF K Dp.zcc):=fnN (M:=["one","other","corner","wide","tall","n"]) F Dp.zh8 λhnd hr=>(zm (zy hnd (zpA (zq (zq pdV zf) pdV) (zkA zf) zkL))
 (zm (zy hnd (zpA (zq (zq pdV zf) pdV) (zkA zf) zkL))
 (zm (zO (zH (zcH hr) pdV pdV) (zu (zF zbl)) zM)
 (zm (zy hnd (zJ xc8 hr (zc (zq pdV zf) (zc pdV (zc pdV zp)))))
 (zm (zO (zH zeG pdV zbl) (zu (zF (zX (zc zaz (zc pdV zp))))) zM)
 (zm (zy hnd (zU (zq pdV zf) (zq pdV zf)))
 (zm (zy hnd (zU (zq pdV zf) (zq pdV zf)))
 (zm (zO (zbo (zcE (zH zeG (zq pdV zf) zbl) (zcu (zH zbn (zR (zN pdV pdV) (zN pdV pdV)) (zq pdV zf))))) (zu (zF (zX (zc zaz (zc (zR (zN pdV pdV) (zN pdV pdV)) zp))))) zM)
 (zm (zav (zbW xq (zc (zaj zaH xg boot_len (zc (zq pdV zf) zp)) zp)) (zad hnd) (zu (zO (zbz (zJ xed hr (zc (zq (zq pdV zf) pdV) (zc pdV (zc pdV (zc pdV zp)))))) (zu (zF (zX (zc zaz (zc pdV zp))))) zM)))
 (zu (zF zbl)))))))))))
variable (xct:Got P w K mg base 3 "_law_between" ["parts","k","j","hour"] (upF K Dp.zcc))
variable (xeb:∀ C,W.nsIn K mainGlobals "NoBeacon"=some (some (.ref C))->ExC K C)
variable (xd8:∃ C,W.nsIn K mainGlobals "NoBeacon"=some (some (.ref C))/\mg "NoBeacon"=some (.ref C))
include xeb xd8 in
def zlF (F:Fk K "spot_of" (top 61) f fd):zQ P w K mg base (CXd P w) 1 f fd ["valley","name"] (zcf K Dp.zcG):=zhO (M:=["beacon"]) F Dp.zlT λhnd hr ex hX hM=>(zm (zav (zaJ (zbE pdV rfl)) (zad hnd) (zu (zO (zH (zcH hr) (zq pdV zf) pdV) (zu (zF (zX (zc (zq pdV zf) (zc (zq pdV zf) zp))))) zM)))
 (zu (zfq hM rfl xeb xd8 rfl (zc zaz zp) (λ_ _ _ h=>h _))))
variable (xev:zfD P w K mg base 1 "spot_of" ["valley","name"] (zcf K Dp.zcG))
include xao xaq xcx in
def zew (F:Fk K "refuse_not_standing" (top 46) f fd):zQ P w K mg base (CXd P w) 6 f fd ["ground","spot"] (zcf K Dp.zaE):=zhO (M:=[]) F Dp.zex λhnd hr ex hX hM=>(zu (zO (zca (zbz (zJ xcx hr (zc pdV (zc pdV zp))))) (zu (zfq hM rfl xao xaq rfl (zc zaz zp) (λ_ _ _ h=>h _))) zM))
variable (xac:zfD P w K mg base 6 "refuse_not_standing" ["ground","spot"] (zcf K Dp.zaE))
variable (xbn:mg "min"=none)
variable (xar:mg "max"=none)
variable (xee:mg "enumerate"=none)
include xbn xar xee in
def zfr (F:Fk K "numbers_between" (top 47) f fd):zQ P w K mg base CX0 1 f fd ["ground","x","other_x"] (upF K Dp.zbi):=fnN (M:=["low","high"]) F Dp.zfJ λhnd hr=>(zm (zy hnd (zaj zeH xbn boot_min (zc pdV (zc pdV zp))))
 (zm (zy hnd (zaj zdV xar boot_max (zc pdV (zc pdV zp))))
 (zu (zF (zdO (own:=["k","corner"]) (free:=["low","high"]) ⟨rfl,rfl,True.intro⟩ ⟨rfl,rfl,rfl,rfl,rfl,rfl,True.intro⟩ (zjY rfl xee (zc (zbE pdV rfl) zp)) ⟨(zeU (za7 (zaU 0 (by decide)) (za7 (zaU 1 (by decide)) zer))),λ_ _ _ _ _=>(zfx rfl (zbq (zbv (show List.Nodup (["k","corner","low","high"]:List Str) by decide +kernel) rfl (Or.inl rfl) (Or.inr rfl)) (zbq (zbv (show List.Nodup (["k","corner","low","high"]:List Str) by decide +kernel) rfl (Or.inl rfl) (Or.inr rfl)) zeJ)))⟩ (λ_ _ _ _ _=>(zh2 (zmC zaR zaR pdV (zq pdV zf) pdV))) (λ_ _ _ _ _=>pdV))))))
variable (xa5:Got P w K mg base 1 "numbers_between" ["ground","x","other_x"] (upF K Dp.zbi))
def zlw (F:Fk K "side_of" (top 36) f fd):zQ P w K mg base CX0 1 f fd ["one","other","spot"] (upF K Dp.zdG):=fnN (M:=["run","rise","over"]) F Dp.zmk λhnd hr=>(zm (zy hnd (zU (zq pdV zf) (zq pdV zf)))
 (zm (zy hnd (zU (zq pdV zf) (zq pdV zf)))
 (zm (zy hnd (zU (zN (zU (zq pdV zf) (zq pdV zf)) pdV) (zN (zU (zq pdV zf) (zq pdV zf)) pdV)))
 (zm (zff (zO (zH zaR pdV zf) (zu (zy hnd (zaA pdV))) zM))
 (zm (zO (zH zbn pdV zf) (zu (zF zf)) zM)
 (zm (zO (zH zaR pdV zf) (zu (zF (zaA zf))) zM)
 (zu (zF zf))))))))
variable (xfz:Got P w K mg base 1 "side_of" ["one","other","spot"] (upF K Dp.zdG))
include xac xa5 xfz in
def zmp (F:Fk K "hinder" (top 48) f fd):zQ P w K mg base (CXd P w) 7 f fd ["ground","one","other"] (zcf K Dp.zed):=zhO (M:=["k"]) F Dp.zmy λhnd hr ex hX hM=>(zm (zap (zbJ xac hX hr (zc pdV (zc pdV zp))))
 (zm (zap (zbJ xac hX hr (zc pdV (zc pdV zp))))
 (zm (zav (zaJ (zJ xa5 hr (zc pdV (zc (zq pdV zf) (zc (zq pdV zf) zp))))) (zad hnd) (zu (zO (zH zbn (zJ xfz hr (zc pdV (zc pdV (zc (zq (zbE pdV rfl) pdV) zp)))) zf) (zu (zF pdV)) zM)))
 (zu (zF zbl)))))
variable (xgg:zfD P w K mg base 7 "hinder" ["ground","one","other"] (zcf K Dp.zed))
def zgl (F:Fk K "square_between" (top 62) f fd):zQ P w K mg base CX0 1 f fd ["one","other"] (upF K Dp.zbr):=fnN (M:=["run","climb"]) F Dp.zgo λhnd hr=>(zm (zy hnd (zU (zq pdV zf) (zq pdV zf)))
 (zm (zy hnd (zU (zq pdV zf) (zq pdV zf)))
 (zu (zF (zR (zN pdV pdV) (zN pdV pdV))))))
variable (xbg:Got P w K mg base 1 "square_between" ["one","other"] (upF K Dp.zbr))
include xgg xbg in
def zgJ (F:Fk K "hidden_always" (top 63) f fd):zQ P w K mg base CX0 8 f fd ["valley","one","other"] (upF K Dp.zbM):=fnN (M:=["corner","square"]) F Dp.zgH λhnd hr=>(zm (zy hnd (zbJ xgg zlL hr (zc (zbE pdV rfl) (zc pdV (zc pdV zp)))))
 (zm (zO (zH zeG pdV zbl) (zu (zF (zX (zc zaz (zc pdV zp))))) zM)
 (zm (zy hnd (zJ xbg hr (zc pdV (zc pdV zp))))
 (zm (zO (zbo (zcE (zH zeG (zbE pdV rfl) zbl) (zcu (zH zbn pdV (zbE pdV rfl))))) (zu (zF (zX (zc zaz (zc pdV zp))))) zM)
 (zu (zF zbl))))))
variable (xb3:Got P w K mg base 8 "hidden_always" ["valley","one","other"] (upF K Dp.zbM))
variable (xgt:∃ t,mg "DRIFT"=some (.int 6 t))
variable (xg0:∃ t,mg "RISE"=some (.int 7 t))
include xbt xas xcu xbs xgt xg0 in
def zo9 (F:Fk K "moved" (top 28) f fd):zQ P w K mg base CX0 1 f fd ["fog","hours"] (upF K Dp.zd9):=fnN (M:=["along","upwards"]) F Dp.zon λhnd hr=>(zm (zy hnd (zN (zq pdV (z9 rfl xgt)) pdV))
 (zm (zy hnd (zN (zq pdV (z9 rfl xg0)) pdV))
 (zu (zF (zX (zc (zR (zq pdV (z9 rfl xbt)) pdV) (zc (zR (zq pdV (z9 rfl xas)) pdV) (zc (zR (zq pdV (z9 rfl xcu)) pdV) (zc (zR (zq pdV (z9 rfl xbs)) pdV) zp)))))))))
variable (xgb:Got P w K mg base 1 "moved" ["fog","hours"] (upF K Dp.zd9))
include xbt xas xcu xbs xbn xar in
def zlm (F:Fk K "margins" (top 29) f fd):zQ P w K mg base CX0 1 f fd ["box","one","other"] (upF K Dp.zcN):=fnN (M:=["run","climb","corners","across"]) F Dp.zlJ λhnd hr=>(zm (zy hnd (zU (zq pdV zf) (zq pdV zf)))
 (zm (zy hnd (zU (zq pdV zf) (zq pdV zf)))
 (zm (zy hnd (zay (zc (zX (zc (zq pdV (z9 rfl xbt)) (zc (zq pdV (z9 rfl xcu)) zp))) (zc (zX (zc (zq pdV (z9 rfl xbt)) (zc (zq pdV (z9 rfl xbs)) zp))) (zc (zX (zc (zq pdV (z9 rfl xas)) (zc (zq pdV (z9 rfl xcu)) zp))) (zc (zX (zc (zq pdV (z9 rfl xas)) (zc (zq pdV (z9 rfl xbs)) zp))) zp))))))
 (zm (zc5 hnd (own:=["x","z"]) (free:=["run","one","climb"]) ⟨rfl,rfl,rfl,True.intro⟩ ⟨rfl,rfl,rfl,rfl,rfl,rfl,rfl,rfl,rfl,True.intro⟩ (zaJ pdV) ⟨(zeU (za7 (zaU 0 (by decide)) (za7 (zaU 1 (by decide)) zer))),λ_ _ _ _ _=>(zfx rfl (zbq (zbv (show List.Nodup (["x","z","run","one","climb"]:List Str) by decide +kernel) rfl (Or.inl rfl) (Or.inr rfl)) (zbq (zbv (show List.Nodup (["x","z","run","one","climb"]:List Str) by decide +kernel) rfl (Or.inl rfl) (Or.inr rfl)) zeJ)))⟩ (λ_ _ _ _ _=>zbb) (λ_ _ _ _ _=>(zU (zN pdV (zU pdV (zq pdV zf))) (zN pdV (zU pdV (zq pdV zf))))))
 (zu (zF (zay (zc (zU (zaj zdV xar boot_max (zc (zq pdV zf) (zc (zq pdV zf) zp))) (zq pdV (z9 rfl xbt))) (zc (zU (zq pdV (z9 rfl xas)) (zaj zeH xbn boot_min (zc (zq pdV zf) (zc (zq pdV zf) zp)))) (zc (zU (zaj zdV xar boot_max (zc (zq pdV zf) (zc (zq pdV zf) zp))) (zq pdV (z9 rfl xcu))) (zc (zU (zq pdV (z9 rfl xbs)) (zaj zeH xbn boot_min (zc (zq pdV zf) (zc (zq pdV zf) zp)))) (zc (zaj zrg xar boot_max (zc pdV zp)) (zc (zaA (zaj zql xbn boot_min (zc pdV zp))) zp)))))))))))))
variable (xes:Got P w K mg base 1 "margins" ["box","one","other"] (upF K Dp.zcN))
variable (xgf:mg "sorted"=none)
include xg xdc xar xgf in
def zqv (F:Fk K "tidy" (top 3) f fd):zQ P w K mg base CX0 1 f fd ["pairs"] (upF K Dp.zdb):=fnN (M:=["found","low","high"]) F Dp.zqF λhnd hr=>(zm (zy hnd (zay zp))
 (zm (zav (zaJ (zaj zqR xgf boot_sorted (zc (zdO (own:=["pair"]) (free:=[]) True.intro True.intro (zaJ pdV) cgN (λ_ _ _ _ _=>(zh2 (zH zdH (zq pdV zf) (zq pdV zf)))) (λ_ _ _ _ _=>(zX (zc (zq pdV zf) (zc (zq pdV zf) zp))))) zp))) (zdS rfl (za3 (zad hnd) (za3 (zad hnd) zdT))) (zu (zO (zbo (zcE (zH zbn (zaj zaH xg boot_len (zc pdV zp)) zf) (zcu (zH zdH pdV (zR (zq (zq pdV (zaA zf)) zf) zf))))) (zu (zgc (zX (zc (zq (zq pdV (zaA zf)) zf) (zc (zaj zdV xar boot_max (zc (zq (zq pdV (zaA zf)) zf) (zc pdV zp))) zp))) (zhZ pdV (zaA zf)))) (zu (zap (zeK PySem.F.slot_list_append PySem.F.type_list_append zbH pdV (zc (zX (zc pdV (zc pdV zp))) zp)))))))
 (zu (zF (zdm zn8 xdc boot_tuple (zc pdV zp))))))
variable (xbd:Got P w K mg base 1 "tidy" ["pairs"] (upF K Dp.zdb))
variable (xhj:mg "zip"=none)
include xck xfi xbn xar xgb xes xbd xhj in
def zo2 (F:Fk K "foggy" (top 30) f fd):zQ P w K mg base CX0 2 f fd ["fog","one","other"] (upF K Dp.zeM):=fnN (M:=["low","high","starts","afters","start","after","step"]) F Dp.znT λhnd hr=>(zm (zy hnd zf)
 (zm (zy hnd (zU (zq pdV (z9 rfl xfi)) (zq pdV (z9 rfl xck))))
 (zm (zy hnd (zJ xes hr (zc (zJ xgb hr (zc pdV (zc zf zp))) (zc pdV (zc pdV zp)))))
 (zm (zy hnd (zJ xes hr (zc (zJ xgb hr (zc pdV (zc zf zp))) (zc pdV (zc pdV zp)))))
 (zm (zav (zsY rfl xhj (zc pdV (zc pdV zp))) (zdS rfl (za3 (zad hnd) (za3 (zad hnd) zdT))) (zm (zy hnd (zU pdV pdV))
 (zu (zO (zH zbn pdV zf) (zu (zy hnd (zaj zdV xar boot_max (zc pdV (zc (zaA (zan pdV pdV)) zp))))) (zu (zO (zH zaR pdV zf) (zu (zy hnd (zaj zeH xbn boot_min (zc pdV (zc (zan pdV (zaA pdV)) zp))))) (zu (zO (zH zaR pdV zf) (zu (zF (zX zp))) zM))))))))
 (zu (zF (zJ xbd hr (zc (zay (zc (zX (zc (zR (zq pdV (z9 rfl xck)) pdV) (zc (zR (zq pdV (z9 rfl xck)) pdV) zp))) zp)) zp)))))))))
variable (xgv:Got P w K mg base 2 "foggy" ["fog","one","other"] (upF K Dp.zeM))
include xbd xgv in
def zji (F:Fk K "foggy_all" (top 31) f fd):zQ P w K mg base CX0 3 f fd ["fogs","one","other"] (upF K Dp.zcV):=fnN (M:=["found","fog"]) F Dp.zjm λhnd hr=>(zm (zy hnd (zay zp))
 (zm (zav (zaJ pdV) (zad hnd) (zu (zap (zeK slot_list_extend type_list_extend zlM pdV (zc (zJ xgv hr (zc pdV (zc pdV (zc pdV zp)))) zp)))))
 (zu (zF (zJ xbd hr (zc pdV zp))))))
variable (xd6:Got P w K mg base 3 "foggy_all" ["fogs","one","other"] (upF K Dp.zcV))
include xbd in
def zqD (F:Fk K "gaps" (top 5) f fd):zQ P w K mg base CX0 2 f fd ["spans","low","high"] (upF K Dp.zfZ):=fnN (M:=["found","start","span"]) F Dp.zp0 λhnd hr=>(zm (zy hnd (zay zp))
 (zm (zy hnd pdV)
 (zm (zav (zaJ pdV) (zad hnd) (zm (zap (zeK PySem.F.slot_list_append PySem.F.type_list_append zbH pdV (zc (zX (zc pdV (zc (zU (zq pdV zf) zf) zp))) zp)))
 (zu (zy hnd (zR (zq pdV zf) zf)))))
 (zm (zap (zeK PySem.F.slot_list_append PySem.F.type_list_append zbH pdV (zc (zX (zc pdV (zc pdV zp))) zp)))
 (zu (zF (zJ xbd hr (zc pdV zp))))))))
variable (xg5:Got P w K mg base 2 "gaps" ["spans","low","high"] (upF K Dp.zfZ))
include xbn xar xbd in
def zpL (F:Fk K "both" (top 4) f fd):zQ P w K mg base CX0 2 f fd ["one","other"] (upF K Dp.zge):=fnN (M:=["found","low","high","other_low","other_high"]) F Dp.zp9 λhnd hr=>(zm (zy hnd (zay zp))
 (zm (zav (zaJ pdV) (zdS rfl (za3 (zad hnd) (za3 (zad hnd) zdT))) (zu (zav (zaJ pdV) (zdS rfl (za3 (zad hnd) (za3 (zad hnd) zdT))) (zu (zap (zeK PySem.F.slot_list_append PySem.F.type_list_append zbH pdV (zc (zX (zc (zaj zdV xar boot_max (zc pdV (zc pdV zp))) (zc (zaj zeH xbn boot_min (zc pdV (zc pdV zp))) zp))) zp)))))))
 (zu (zF (zJ xbd hr (zc pdV zp))))))
variable (xg7:Got P w K mg base 2 "both" ["one","other"] (upF K Dp.zge))
include xg xg5 xg7 in
def zlN (F:Fk K "without" (top 6) f fd):zQ P w K mg base CX0 3 f fd ["one","other"] (upF K Dp.zdJ):=fnN (M:=[]) F Dp.zl4 λhnd hr=>(zm (zO (zH (zcH hr) (zaj zaH xg boot_len (zc pdV zp)) zf) (zu (zF (zX zp))) zM)
 (zu (zF (zJ xg7 hr (zc pdV (zc (zJ xg5 hr (zc pdV (zc (zq (zq pdV zf) zf) (zc (zq (zq pdV (zaA zf)) zf) zp)))) zp))))))
variable (xft:Got P w K mg base 3 "without" ["one","other"] (upF K Dp.zdJ))
include xev xb3 xd6 xft in
def zoi (F:Fk K "sight" (top 64) f fd):zQ P w K mg base (CXd P w) 9 f fd ["valley","name","other"] (zcf K Dp.ze4):=zhO (M:=["one_top","other_top","hours"]) F Dp.zpb λhnd hr ex hX hM=>(zm (zy hnd (zbJ xev hX hr (zc pdV (zc pdV zp))))
 (zm (zy hnd (zbJ xev hX hr (zc pdV (zc pdV zp))))
 (zm (zy hnd (zX (zc (zX (zc (zbE pdV rfl) (zc (zbE pdV rfl) zp))) zp)))
 (zm (zO (zH (zcH hr) pdV pdV) (zu (zF pdV)) zM)
 (zm (zO (zH zeG (zJ xb3 hr (zc pdV (zc pdV (zc pdV zp)))) zbl) (zu (zF (zX zp))) zM)
 (zu (zF (zJ xft hr (zc pdV (zc (zJ xd6 hr (zc (zbE pdV rfl) (zc pdV (zc pdV zp)))) zp))))))))))
variable (xgx:zfD P w K mg base 9 "sight" ["valley","name","other"] (zcf K Dp.ze4))
def ziF (F:Fk K "shown_span" (top 66) f fd):zQ P w K mg base CX0 1 f fd ["low","high"] (upF K Dp.zcp):=fnN (M:=[]) F Dp.ziO λhnd hr=>(zu (zF (znc (zH (zcH hr) pdV pdV) (zuq pdV) (zun pdV pdV))))
variable (xc6:Got P w K mg base 1 "shown_span" ["low","high"] (upF K Dp.zcp))
include xg xgx xc6 in
def ziQ (F:Fk K "sight_line" (top 67) f fd):zQ P w K mg base (CXd P w) 10 f fd ["valley","name","other"] (zcf K Dp.zbR):=zhO (M:=["shown","hours"]) F Dp.ziG λhnd hr ex hX hM=>(zm (znG hnd (own:=["low","high"]) (free:=[]) True.intro True.intro (zaJ (zbJ xgx hX hr (zc pdV (zc pdV (zc pdV zp))))) ⟨(zeU (za7 (zaU 0 (by decide)) (za7 (zaU 1 (by decide)) zer))),λ_ _ _ _ _=>(zfx rfl (zbq (zbv (show List.Nodup (["low","high"]:List Str) by decide +kernel) rfl (Or.inl rfl) (Or.inr rfl)) (zbq (zbv (show List.Nodup (["low","high"]:List Str) by decide +kernel) rfl (Or.inl rfl) (Or.inr rfl)) zeJ)))⟩ (λ_ _ _ _ _=>zbb) (λ_ _ _ _ _=>(zJ xc6 hr (zc pdV (zc pdV zp)))))
 (zm (zff (zy hnd (znc (zH zbn (zaj zaH xg boot_len (zc pdV zp)) zf) (zkD zaz pdV) zaz)))
 (zu (zF (zvr (zhM pdV (zkH (zhM pdV (zkH (zhM pdV zrh))))))))))
variable (xap:zfD P w K mg base 10 "sight_line" ["valley","name","other"] (zcf K Dp.zbR))
variable (xfc:mg "str"=none)
include xfc in
def zgj (F:Fk K "_law_spans_text" (top 83) f fd):zQ P w K mg base CX0 1 f fd ["hours"] (upF K Dp.zbt):=fnN (M:=["told","hour","texts","low","high"]) F Dp.zgk λhnd hr=>(zm (zy hnd (zay zp))
 (zm (zav (zaJ pdV) (zad hnd) (zu (zO (zbo (zcE (zH (ziV hr) pdV (zay zp)) (zcu (zH (zcH hr) (zq (zq pdV (zaA zf)) zf) (zU pdV zf))))) (zu (zgc (zX (zc (zq (zq pdV (zaA zf)) zf) (zc pdV zp))) (zhZ pdV (zaA zf)))) (zu (zap (zeK PySem.F.slot_list_append PySem.F.type_list_append zbH pdV (zc (zX (zc pdV (zc pdV zp))) zp)))))))
 (zm (zy hnd (zay zp))
 (zm (zav (zaJ pdV) (zdS rfl (za3 (zad hnd) (za3 (zad hnd) zdT))) (zu (zO (zH (zcH hr) pdV pdV) (zu (zap (zeK PySem.F.slot_list_append PySem.F.type_list_append zbH pdV (zc (zdm zkd xfc boot_str (zc pdV zp)) zp)))) (zu (zap (zeK PySem.F.slot_list_append PySem.F.type_list_append zbH pdV (zc (zR (zR (zdm zkd xfc boot_str (zc pdV zp)) zaz) (zdm zkd xfc boot_str (zc pdV zp))) zp)))))))
 (zm (zO (zH (zcH hr) pdV (zay zp)) (zu (zF zaz)) zM)
 (zu (zF (zkD zaz pdV))))))))
variable (xbm:Got P w K mg base 1 "_law_spans_text" ["hours"] (upF K Dp.zbt))
variable (xc1:∃ Cc,mg "ValeError"=some (.ref Cc)/\∀ c C,(["BadGround","OffGround","BadFog","BadName","Twice","TooMany","BadHour","NoBeacon"]:List Str).contains c=true->W.nsIn K mainGlobals c=some (some (.ref C))->W.exmOne K (.ref C) (.ref Cc)=some true)
variable (xec:∃ Cc,mg "NoBeacon"=some (.ref Cc)/\∀ c b C,([("BadGround",false),("OffGround",false),("BadFog",false),("BadName",false),("Twice",false),("TooMany",false),("BadHour",false),("NoBeacon",true)]:List (Str×Bool)).lookup c=some b->W.nsIn K mainGlobals c=some (some (.ref C))->IsC K C/\W.kitOne K (.ref C) (.ref Cc)=some b)
variable (xcs:mg "ValueError"=none/\∀ c b C,([("BadGround",true),("OffGround",true),("BadFog",true),("BadName",true),("Twice",true),("TooMany",true),("BadHour",true),("NoBeacon",true)]:List (Str×Bool)).lookup c=some b->W.nsIn K mainGlobals c=some (some (.ref C))->IsC K C/\W.kitOne K (.ref C) (.type "ValueError")=some b)
include xu xap xc1 xec xcs in
def zh0 (F:Fk K "_law_refused" (top 84) f fd):zQ P w K mg base CX0 11 f fd ["valley","name","other"] (upF K Dp.zbA):=fnN (M:=["kinds","e"]) F Dp.zib λhnd hr=>(zm (zy hnd (zay zp))
 (zm (zqO rfl rfl hnd rfl rfl rfl xc1 (λ_ _ ex hX=>(zu (zap (zbJ xap hX hr (zc pdV (zc pdV (zc pdV zp))))))) (λ_=>(zu (zy hnd (zay (zc (zqM rfl xu (zkg (pv 4)) rfl xec) (zc (zqV rfl xu (zkg (pv 4)) rfl xcs (by decide +kernel)) zp)))))))
 (zu (zF (zeE (zcH hr) pdV (zay (zc zdP (zc zdP zp))))))))
variable (xbu:Got P w K mg base 11 "_law_refused" ["valley","name","other"] (upF K Dp.zbA))
include xg xq xd7 xag xu xe5 xct xap xfc xbm xbu in
def zsO (F:Fk K "law" zeg f fd):zQ P w K mg base CX0 12 f fd ["script"] (upF K Dp.zeC):=fnN (M:=["parts","valley","names","k","j","every","hours","found","due"]) F Dp.zry λhnd hr=>(zm (zy hnd (zJ xd7 hr (zc pdV zp)))
 (zm (zy hnd (zJ xe5 hr (zc pdV zp)))
 (zm (zc5 hnd (own:=["beacon"]) (free:=[]) True.intro True.intro (zaJ (zq pdV zf)) cgN (λ_ _ _ _ _=>zbb) (λ_ _ _ _ _=>(zq pdV zf)))
 (zm (zav (zbW xq (zc (zaj zaH xg boot_len (zc pdV zp)) zp)) (zad hnd) (zu (zav (zbW xq (zc (zaj zaH xg boot_len (zc pdV zp)) zp)) (zad hnd) (zm (zy hnd (zqi rfl xag rfl xq (zc (zq pdV zf) (zc (zR (zq pdV zf) zf) zp))))
 (zm (zc5 hnd (own:=["u"]) (free:=["parts","k","j"]) ⟨rfl,rfl,rfl,True.intro⟩ ⟨rfl,rfl,rfl,rfl,rfl,rfl,rfl,rfl,rfl,True.intro⟩ (zaJ pdV) cgN (λ_ _ _ _ _=>(zh2 (zH zul (zJ xct hr (zc pdV (zc pdV (zc pdV (zc pdV zp))))) zbl))) (λ_ _ _ _ _=>pdV))
 (zm (zy hnd (zbJ xap zlL hr (zc pdV (zc (zq pdV pdV) (zc (zq pdV pdV) zp)))))
 (zm (zy hnd (zR (zR (zR (zR (zq pdV pdV) zaz) (zq pdV pdV)) zaz) (zJ xbm hr (zc pdV zp))))
 (zu (zO (zbo (zd0 (zca (zbz (zaj zhv xu boot_isinstance (zc pdV (zc (ziY rfl xfc boot_str) zp))))) (zc3 (zH (ziV hr) pdV pdV)))) (zu (zF zdP)) zM)))))))))
 (zu (zF (zeA (zJ xbu hr (zc pdV (zc zaz (zc (zq pdV zf) zp)))) (zhl (zJ xbu hr (zc pdV (zc (zq pdV zf) (zc zaz zp))))))))))))
end
def all_mk {l:W.OpenLaw}{w:World}{K:W.Frag}{mg:Str->Option Value}{fa:Addr}(X:K.In h)(G:h.Ns mainGlobals mg)(hfa:mg "law"=some (.ref fa))(xfg:FH K "_law_cell" (top 69) xkh xkk)(xc9:FH K "_law_folded" (top 71) xjp xjk)(xen:FH K "_law_mixed" (top 70) xj2 xj6)(xb1:FH K "_law_ground_by" (top 73) xit xiv)(xd9:FH K "_law_names" (top 74) xke xj0)(xe8:FH K "_law_high" (top 72) xkq xkr)(xc2:FH K "_law_beacon" (top 75) xju xjo)(xfs:FH K "_law_fog" (top 76) xk1 xk0)(xef:FH K "_law_parts" (top 77) xj4 xka)(xak:FH K "refuse_bad_corners" (top 41) xh5 xhv)(xbv:W.nsIn K mainGlobals "Ground"=some (some (.ref xae)))(xe3:K.lookup xe2=some ⟨xi2,xi7,.func (W.fnOf "__init__" "Ground.__init__" (zbh zbS) (zaI zbS) (zY zbS) .none xi3 xi1 xi8 xi5 xhe xjb),xja⟩)(xew:W.codeIn K xhe "Ground.__init__"=true)(xe4:W.keepIn K (.ref xe2)=true)(xdf:W.makesIn K xae=true)(xdt:W.findIn K (.ref xae) "__init__"=some (some (.ref xe2)))(xdi:W.isFn K (.ref xe2)=true)(xdj:W.keepIn K (.ref xae)=true)(xdy:W.plainGet K xae Str.empty=true)(xdo:W.hasDictIn K xae=true)(xd2:W.plainOver K xae=true)(xds:W.findIn K (.ref xae) "__setattr__"=some (some (.builtin "object.__setattr__")))(xdk:W.findIn K (.ref xae) "corners"=some none)(xaj:FH K "refuse_bad_numbers" (top 55) xh7 xh2)(xfo:FH K "is_name" (top 54) xk3 xkv)(xat:FH K "refuse_bad_names" (top 56) xic xie)(xg3:FH K "less" (top 35) xlu xl3)(xgy:FH K "is_on" (top 43) xlk xlp)(xbr:FH K "common_divisor" (top 33) xip xio)(xfd:FH K "fraction" (top 34) xkg xkm)(xea:FH K "height_on" (top 37) xj3 xkb)(xeq:FH K "ground_at" (top 44) xj7 xkd)(xgc:FH K "stands" (top 45) xlb xla)(xa7:FH K "refuse_bad_tops" (top 57) xig xik)(xfe:FH K "is_whole" (top 1) xkj xko)(xgl:FH K "is_fog" (top 27) xk8 xk9)(xa9:FH K "refuse_bad_fogs" (top 58) xih xif)(xav:FH K "refuse_bad_hours" (top 59) xia xib)(xaa:W.nsIn K mainGlobals "Valley"=some (some (.ref xr)))(xex:K.lookup xey=some ⟨xjd,xi4,.func (W.fnOf "__init__" "Valley.__init__" (zbh zbU) (zaI zbU) (zY zbU) .none xi6 xjc xje xi9 xha xi0),xjf⟩)(xez:W.codeIn K xha "Valley.__init__"=true)(xe1:W.keepIn K (.ref xey)=true)(xdh:W.makesIn K xr=true)(xda:W.findIn K (.ref xr) "__init__"=some (some (.ref xey)))(xdn:W.isFn K (.ref xey)=true)(xdx:W.keepIn K (.ref xr)=true)(xde:W.plainGet K xr Str.empty=true)(xdd:W.hasDictIn K xr=true)(xdb:W.plainOver K xr=true)(xd0:W.findIn K (.ref xr) "__setattr__"=some (some (.builtin "object.__setattr__")))(xdp:W.findIn K (.ref xr) "ground"=some none)(xdl:W.findIn K (.ref xr) "beacons"=some none)(xdw:W.findIn K (.ref xr) "fogs"=some none)(xdv:W.findIn K (.ref xr) "haze"=some none)(xdz:W.findIn K (.ref xr) "first"=some none)(xdq:W.findIn K (.ref xr) "last"=some none)(xdu:W.findIn K (.ref xr) "delay"=some none)(xe9:FH K "_law_made" (top 78) xkn xkp)(xcy:FH K "_law_corner" (top 79) xjr xjv)(xej:FH K "_law_meets" (top 80) xkc xj9)(xek:FH K "_law_hides" (top 81) xj8 xj5)(xcr:FH K "_law_between" (top 82) xji xjh)(xf2:FH K "spot_of" (top 61) xk4 xk2)(xaf:FH K "refuse_not_standing" (top 46) xhq xhr)(xaz:FH K "numbers_between" (top 47) xij xii)(xf4:FH K "side_of" (top 36) xky xkz)(xge:FH K "hinder" (top 48) xk7 xk5)(xbk:FH K "square_between" (top 62) xiq xim)(xb6:FH K "hidden_always" (top 63) xiy xis)(xgq:FH K "moved" (top 28) xlf xlr)(xf3:FH K "margins" (top 29) xkx xku)(xg6:FH K "tidy" (top 3) xlz xl1)(xgu:FH K "foggy" (top 30) xlh xlg)(xeh:FH K "foggy_all" (top 31) xkf xj1)(xg1:FH K "gaps" (top 5) xl0 xl2)(xg4:FH K "both" (top 4) f_both xly)(xfv:FH K "without" (top 6) xkw xkt)(xgw:FH K "sight" (top 64) xli xll)(xc5:FH K "shown_span" (top 66) xjn xjz)(xc4:FH K "sight_line" (top 67) xjl xjx)(xbj:FH K "_law_spans_text" (top 83) xir xin)(xcq:FH K "_law_refused" (top 84) xjj xjg)(xhy:W.nsIn K mainGlobals "law"=some (some (.ref xix)))(xh1:K.lookup xix=some ⟨xlx,xlw,.func (W.fnOf "law" "law" (zbh zeg) (zaI zeg) (zY zeg) .none xjy xjt xjq xjm xid xjs),xlv⟩)(xh4:W.codeIn K xid "law"=true)(xh6:W.keepIn K (.ref xix)=true)(xf7:W.nsIn K mainGlobals "ValeError"=some (some (.ref xam)))(xco:W.nsIn K mainGlobals "BadGround"=some (some (.ref xeo)))(xem:isIn K xeo=true)(xan:W.nsIn K mainGlobals "OffGround"=some (some (.ref xcp)))(xf5:zlx K xcp=true)(xei:isIn K xcp=true)(xfh:W.nsIn K mainGlobals "BadFog"=some (some (.ref xgk)))(xgd:isIn K xgk=true)(xet:W.nsIn K mainGlobals "BadName"=some (some (.ref xfm)))(xfy:isIn K xfm=true)(xga:W.nsIn K mainGlobals "Twice"=some (some (.ref xgr)))(xgs:isIn K xgr=true)(xer:W.nsIn K mainGlobals "TooMany"=some (some (.ref xfn)))(xfr:isIn K xfn=true)(xeu:W.nsIn K mainGlobals "BadHour"=some (some (.ref xfu)))(xfl:isIn K xfu=true)(xah:W.nsIn K mainGlobals "NoBeacon"=some (some (.ref xab)))(xgh:zlx K xab=true)(xfa:isIn K xab=true)(xbb:W.exmOne K (.ref xeo) (.ref xam)=some true)(xbl:W.kitOne K (.ref xeo) (.ref xab)=some false)(xax:W.kitOne K (.ref xeo) (.type "ValueError")=some true)(xba:W.exmOne K (.ref xcp) (.ref xam)=some true)(xbe:W.kitOne K (.ref xcp) (.ref xab)=some false)(xay:W.kitOne K (.ref xcp) (.type "ValueError")=some true)(xca:W.exmOne K (.ref xgk) (.ref xam)=some true)(xcm:W.kitOne K (.ref xgk) (.ref xab)=some false)(xbx:W.kitOne K (.ref xgk) (.type "ValueError")=some true)(xby:W.exmOne K (.ref xfm) (.ref xam)=some true)(xcb:W.kitOne K (.ref xfm) (.ref xab)=some false)(xbp:W.kitOne K (.ref xfm) (.type "ValueError")=some true)(xcn:W.exmOne K (.ref xgr) (.ref xam)=some true)(xcw:W.kitOne K (.ref xgr) (.ref xab)=some false)(xcd:W.kitOne K (.ref xgr) (.type "ValueError")=some true)(xb0:W.exmOne K (.ref xfn) (.ref xam)=some true)(xb9:W.kitOne K (.ref xfn) (.ref xab)=some false)(xbf:W.kitOne K (.ref xfn) (.type "ValueError")=some true)(xbw:W.exmOne K (.ref xfu) (.ref xam)=some true)(xcc:W.kitOne K (.ref xfu) (.ref xab)=some false)(xbi:W.kitOne K (.ref xfu) (.type "ValueError")=some true)(xbo:W.exmOne K (.ref xab) (.ref xam)=some true)(xbz:W.kitOne K (.ref xab) (.ref xab)=some true)(xbc:W.kitOne K (.ref xab) (.type "ValueError")=some true)(xfj:W.nsIn K mainGlobals "ValueError"=some none)(xhs:W.nsIn K mainGlobals "len"=some none)(xhd:W.nsIn K mainGlobals "range"=some none)(xhl:W.nsIn K mainGlobals "list"=some none)(xh8:W.nsIn K mainGlobals "all"=some none)(xhw:W.nsIn K mainGlobals "set"=some none)(xht:W.nsIn K mainGlobals "abs"=some none)(xhz:W.nsIn K mainGlobals "int"=some none)(xfk:W.nsIn K mainGlobals "isinstance"=some none)(xhp:W.nsIn K mainGlobals "bool"=some none)(xhb:W.nsIn K mainGlobals "tuple"=some none)(xh9:W.nsIn K mainGlobals "min"=some none)(xh3:W.nsIn K mainGlobals "max"=some none)(xf6:W.nsIn K mainGlobals "enumerate"=some none)(xgz:W.nsIn K mainGlobals "sorted"=some none)(xh0:W.nsIn K mainGlobals "zip"=some none)(xhu:W.nsIn K mainGlobals "str"=some none)(xcz:W.nsIn K mainGlobals "LEAST_CORNERS"=some (some (.int 2 xil)))(xdm:W.nsIn K mainGlobals "MOST_CORNERS"=some (some (.int 40 xiz)))(xd1:W.nsIn K mainGlobals "MOST_BEACONS"=some (some (.int 12 xiw)))(xf9:W.nsIn K mainGlobals "MOST_FOGS"=some (some (.int 12 xjw)))(xd3:W.nsIn K mainGlobals "MOST_LETTERS"=some (some (.int 8 xiu)))(xgp:W.nsIn K mainGlobals "LETTERS"=some (some (.str "abcdefghijklmnopqrstuvwxyz" xks)))(xgo:W.nsIn K mainGlobals "NUMBERS"=some (some (.int 8 xki)))(xhn:W.nsIn K mainGlobals "LEFT"=some (some (.int 0 xlm)))(xhc:W.nsIn K mainGlobals "RIGHT"=some (some (.int 1 xk6)))(xhx:W.nsIn K mainGlobals "LOW"=some (some (.int 2 xls)))(xho:W.nsIn K mainGlobals "HIGH"=some (some (.int 3 xlq)))(xg8:W.nsIn K mainGlobals "FIRST"=some (some (.int 4 xld)))(xhm:W.nsIn K mainGlobals "LAST"=some (some (.int 5 xln)))(xg9:W.nsIn K mainGlobals "DRIFT"=some (some (.int 6 xlc)))(xhk:W.nsIn K mainGlobals "RISE"=some (some (.int 7 xlj))) :
  ∃ fd:FuncData,(∀ (s:Shared) (v:Value),BindsTo s fd ⟨[v],[]⟩ [("script",v)])/\∀ base:Heap,K.In base->base.Ns mainGlobals mg->zQ l.prog w K mg base CX0 12 fa fd ["script"] (upF K Dp.zeC):=by
 have e:=hfa.symm.trans (W.mg_of X G xhy);cases e
 have xa8:∀ C,W.nsIn K mainGlobals "Ground"=some (some (.ref C))->zam K C "corners":=λC hC=>by rw[xbv]at hC;cases hC;exact xdk
 have xgm:=zhe (st:=zbS) xe3 xew xe4;have zco:=xgm.binds (ps:=["self","corners"]) λ_ _ _ _ _ _ us hl=>by obtain⟨_,_,rfl⟩:=zpG hl;rfl
 have xbq:∀ C,W.nsIn K mainGlobals "Valley"=some (some (.ref C))->zam K C "ground":=λC hC=>by rw[xaa]at hC;cases hC;exact xdp
 have xa6:∀ C,W.nsIn K mainGlobals "Valley"=some (some (.ref C))->zam K C "beacons":=λC hC=>by rw[xaa]at hC;cases hC;exact xdl
 have xcf:∀ C,W.nsIn K mainGlobals "Valley"=some (some (.ref C))->zam K C "fogs":=λC hC=>by rw[xaa]at hC;cases hC;exact xdw
 have xce:∀ C,W.nsIn K mainGlobals "Valley"=some (some (.ref C))->zam K C "haze":=λC hC=>by rw[xaa]at hC;cases hC;exact xdv
 have xb7:∀ C,W.nsIn K mainGlobals "Valley"=some (some (.ref C))->zam K C "first":=λC hC=>by rw[xaa]at hC;cases hC;exact xdz
 have xcl:∀ C,W.nsIn K mainGlobals "Valley"=some (some (.ref C))->zam K C "last":=λC hC=>by rw[xaa]at hC;cases hC;exact xdq
 have xb2:∀ C,W.nsIn K mainGlobals "Valley"=some (some (.ref C))->zam K C "delay":=λC hC=>by rw[xaa]at hC;cases hC;exact xdu
 have xgn:=zhe (st:=zbU) xex xez xe1;have zcr:=xgn.binds (ps:=["self","ground","beacons","fogs","haze","first","last","delay"]) λ_ _ _ _ _ _ us hl=>by obtain⟨_,_,_,_,_,_,_,_,rfl⟩:=zvg hl;rfl
 have xkl:=zhe (st:=zeg) xh1 xh4 xh6
 have xao:∀ C,W.nsIn K mainGlobals "OffGround"=some (some (.ref C))->ExC K C:=λC h=>by rw[xan]at h;cases h;exact ExC.of xf5
 have xaq:∃ C,W.nsIn K mainGlobals "OffGround"=some (some (.ref C))/\mg "OffGround"=some (.ref C):=⟨_,xan,W.mg_of X G xan⟩
 have xeb:∀ C,W.nsIn K mainGlobals "NoBeacon"=some (some (.ref C))->ExC K C:=λC h=>by rw[xah]at h;cases h;exact ExC.of xgh
 have xd8:∃ C,W.nsIn K mainGlobals "NoBeacon"=some (some (.ref C))/\mg "NoBeacon"=some (.ref C):=⟨_,xah,W.mg_of X G xah⟩
 have xc1:∃ Cc,mg "ValeError"=some (.ref Cc)/\∀ c C,(["BadGround","OffGround","BadFog","BadName","Twice","TooMany","BadHour","NoBeacon"]:List Str).contains c=true->W.nsIn K mainGlobals c=some (some (.ref C))->W.exmOne K (.ref C) (.ref Cc)=some true:=by
  refine⟨_,W.mg_of X G xf7,λc C h hn=>?_⟩;rcases zbI h with rfl|h
  ·rw[xco]at hn;cases hn;exact xbb
  rcases zbI h with rfl|h
  ·rw[xan]at hn;cases hn;exact xba
  rcases zbI h with rfl|h
  ·rw[xfh]at hn;cases hn;exact xca
  rcases zbI h with rfl|h
  ·rw[xet]at hn;cases hn;exact xby
  rcases zbI h with rfl|h
  ·rw[xga]at hn;cases hn;exact xcn
  rcases zbI h with rfl|h
  ·rw[xer]at hn;cases hn;exact xb0
  rcases zbI h with rfl|h
  ·rw[xeu]at hn;cases hn;exact xbw
  rcases zbI h with rfl|h
  ·rw[xah]at hn;cases hn;exact xbo
  cases h
 have xec:∃ Cc,mg "NoBeacon"=some (.ref Cc)/\∀ c b C,([("BadGround",false),("OffGround",false),("BadFog",false),("BadName",false),("Twice",false),("TooMany",false),("BadHour",false),("NoBeacon",true)]:List (Str×Bool)).lookup c=some b->W.nsIn K mainGlobals c=some (some (.ref C))->IsC K C/\W.kitOne K (.ref C) (.ref Cc)=some b:=by
  refine⟨_,W.mg_of X G xah,λc b C h hn=>?_⟩;rcases zaM h with⟨rfl,rfl⟩|h
  ·rw[xco]at hn;cases hn;exact⟨IsC.of xem,xbl⟩
  rcases zaM h with⟨rfl,rfl⟩|h
  ·rw[xan]at hn;cases hn;exact⟨IsC.of xei,xbe⟩
  rcases zaM h with⟨rfl,rfl⟩|h
  ·rw[xfh]at hn;cases hn;exact⟨IsC.of xgd,xcm⟩
  rcases zaM h with⟨rfl,rfl⟩|h
  ·rw[xet]at hn;cases hn;exact⟨IsC.of xfy,xcb⟩
  rcases zaM h with⟨rfl,rfl⟩|h
  ·rw[xga]at hn;cases hn;exact⟨IsC.of xgs,xcw⟩
  rcases zaM h with⟨rfl,rfl⟩|h
  ·rw[xer]at hn;cases hn;exact⟨IsC.of xfr,xb9⟩
  rcases zaM h with⟨rfl,rfl⟩|h
  ·rw[xeu]at hn;cases hn;exact⟨IsC.of xfl,xcc⟩
  rcases zaM h with⟨rfl,rfl⟩|h
  ·rw[xah]at hn;cases hn;exact⟨IsC.of xfa,xbz⟩
  cases h
 have xcs:mg "ValueError"=none/\∀ c b C,([("BadGround",true),("OffGround",true),("BadFog",true),("BadName",true),("Twice",true),("TooMany",true),("BadHour",true),("NoBeacon",true)]:List (Str×Bool)).lookup c=some b->W.nsIn K mainGlobals c=some (some (.ref C))->IsC K C/\W.kitOne K (.ref C) (.type "ValueError")=some b:=by
  refine⟨W.mg_none_of X G xfj,λc b C h hn=>?_⟩;rcases zaM h with⟨rfl,rfl⟩|h
  ·rw[xco]at hn;cases hn;exact⟨IsC.of xem,xax⟩
  rcases zaM h with⟨rfl,rfl⟩|h
  ·rw[xan]at hn;cases hn;exact⟨IsC.of xei,xay⟩
  rcases zaM h with⟨rfl,rfl⟩|h
  ·rw[xfh]at hn;cases hn;exact⟨IsC.of xgd,xbx⟩
  rcases zaM h with⟨rfl,rfl⟩|h
  ·rw[xet]at hn;cases hn;exact⟨IsC.of xfy,xbp⟩
  rcases zaM h with⟨rfl,rfl⟩|h
  ·rw[xga]at hn;cases hn;exact⟨IsC.of xgs,xcd⟩
  rcases zaM h with⟨rfl,rfl⟩|h
  ·rw[xer]at hn;cases hn;exact⟨IsC.of xfr,xbf⟩
  rcases zaM h with⟨rfl,rfl⟩|h
  ·rw[xeu]at hn;cases hn;exact⟨IsC.of xfl,xbi⟩
  rcases zaM h with⟨rfl,rfl⟩|h
  ·rw[xah]at hn;cases hn;exact⟨IsC.of xfa,xbc⟩
  cases h
 have xg:=W.mg_none_of X G xhs;have xq:=W.mg_none_of X G xhd;have xag:=W.mg_none_of X G xhl;have xa3:=W.mg_none_of X G xh8;have xhg:=W.mg_none_of X G xhw;have xhf:=W.mg_none_of X G xht;have xhh:=W.mg_none_of X G xhz;have xu:=W.mg_none_of X G xfk;have xg2:=W.mg_none_of X G xhp;have xdc:=W.mg_none_of X G xhb;have xbn:=W.mg_none_of X G xh9;have xar:=W.mg_none_of X G xh3;have xee:=W.mg_none_of X G xf6;have xgf:=W.mg_none_of X G xgz;have xhj:=W.mg_none_of X G xh0;have xfc:=W.mg_none_of X G xhu;have xb4:∃ t,mg "LEAST_CORNERS"=some (.int 2 t):=⟨_,W.mg_of X G xcz⟩
 have xci:∃ t,mg "MOST_CORNERS"=some (.int 40 t):=⟨_,W.mg_of X G xdm⟩
 have xch:∃ t,mg "MOST_BEACONS"=some (.int 12 t):=⟨_,W.mg_of X G xd1⟩
 have xel:∃ t,mg "MOST_FOGS"=some (.int 12 t):=⟨_,W.mg_of X G xf9⟩
 have xcg:∃ t,mg "MOST_LETTERS"=some (.int 8 t):=⟨_,W.mg_of X G xd3⟩
 have xfq:∃ t,mg "LETTERS"=some (.str "abcdefghijklmnopqrstuvwxyz" t):=⟨_,W.mg_of X G xgp⟩
 have xfw:∃ t,mg "NUMBERS"=some (.int 8 t):=⟨_,W.mg_of X G xgo⟩
 have xbt:∃ t,mg "LEFT"=some (.int 0 t):=⟨_,W.mg_of X G xhn⟩
 have xas:∃ t,mg "RIGHT"=some (.int 1 t):=⟨_,W.mg_of X G xhc⟩
 have xcu:∃ t,mg "LOW"=some (.int 2 t):=⟨_,W.mg_of X G xhx⟩
 have xbs:∃ t,mg "HIGH"=some (.int 3 t):=⟨_,W.mg_of X G xho⟩
 have xck:∃ t,mg "FIRST"=some (.int 4 t):=⟨_,W.mg_of X G xg8⟩
 have xfi:∃ t,mg "LAST"=some (.int 5 t):=⟨_,W.mg_of X G xhm⟩
 have xgt:∃ t,mg "DRIFT"=some (.int 6 t):=⟨_,W.mg_of X G xg9⟩
 have xg0:∃ t,mg "RISE"=some (.int 7 t):=⟨_,W.mg_of X G xhk⟩
 refine⟨W.fnOf "law" "law" (zbh zeg) (zaI zeg) (zY zeg) .none xjy xjt xjq xjm xid xjs,λs v=>.of_eq rfl,λbase _ _=>?_⟩;have A:AG l.prog w base K h mg:=⟨X,G⟩
 have xcj:=zV A xfg (zko xg xfg.F);have xc3:=zV A xc9 (ziP xg xq xc9.F);have xad:=zV A xen (zjU xen.F);have xb5:=zV A xb1 (zgW xq xad xb1.F);have xeg:=zV A xd9 (ziZ xq xd9.F);have xe6:=zV A xe8 (zkn xg xq xe8.F);have xc7:=zV A xc2 (ziI xad xe6 xc2.F);have xfp:=zV A xfs (zlS xad xfs.F);have xd7:=zV A xef (zjB xcj xq xc3 xb5 xeg xc7 xfp xef.F);have xai:=zV A xak (zez xg xq xb4 xci xak.F);have xcv:zia l.prog w K mg base 2 "Ground" (upF K Dp.zej):=⟨⟨_,_,_,_,_,⟨xdf,xdt,xdi,xdj⟩,zhK xai xa8 xag xgm,zco,W.mg_of X G xbv,zkB ⟨xdy,xdo,xd2,xds⟩ xbv⟩⟩
 have xal:=zV A xaj (zeB xg xch xel xaj.F);have xfx:=zV A xfo (zlG xg xcg xfq xa3 xfo.F);have xaw:=zV A xat (zfp xg xa3 xfx xhg xat.F);have xb8:=zV A xg3 (zqC xg3.F);have xdr:=zV A xgy (zoF xb8 xgy.F);have xbh:=zV A xbr (zgn xhf xbr.F);have xe7:=zV A xfd (zkw xbh xfd.F);have xd5:=zV A xea (zjC xe7 xea.F);have xd4:=zdW A xeq (zjf xb8 xdr xd5 xao xaq xeq.F);have xcx:=zV A xgc (znk xb8 xdr xd4 xgc.F);have xa0:=zV A xa7 (zfv xa3 xcx xa7.F);have xfb:=zV A xfe (zku xhh xu xg2 xfe.F);have xgi:=zV A xgl (zmQ xg xa3 xu xfb xfw xbt xas xcu xbs xck xfi xdc xgl.F);have xa4:=zV A xa9 (zfT xa3 xgi xa9.F);have xau:=zV A xav (zfm xav.F);have xgj:zia l.prog w K mg base 7 "Valley" (upF K Dp.zfI):=⟨⟨_,_,_,_,_,⟨xdh,xda,xdn,xdx⟩,zhH xag xcv xal xaw xa0 xa4 xau xbq xa6 xcf xce xb7 xcl xb2 xgn,zcr,W.mg_of X G xaa,zkB ⟨xde,xdd,xdb,xd0⟩ xaa⟩⟩
 have xe5:=zV A xe9 (zkm xag xcv xgj xe9.F);have xc8:=zV A xcy (ziM xg xq xcy.F);have xep:=zV A xej (zjo xq xej.F);have xed:=zV A xek (zjh xep xek.F);have xct:=zV A xcr (zhW xg xq xc8 xed xcr.F);have xev:=zdW A xf2 (zlF xeb xd8 xf2.F);have xac:=zdW A xaf (zew xao xaq xcx xaf.F);have xa5:=zV A xaz (zfr xbn xar xee xaz.F);have xfz:=zV A xf4 (zlw xf4.F);have xgg:=zdW A xge (zmp xac xa5 xfz xge.F);have xbg:=zV A xbk (zgl xbk.F);have xb3:=zV A xb6 (zgJ xgg xbg xb6.F);have xgb:=zV A xgq (zo9 xbt xas xcu xbs xgt xg0 xgq.F);have xes:=zV A xf3 (zlm xbt xas xcu xbs xbn xar xf3.F);have xbd:=zV A xg6 (zqv xg xdc xar xgf xg6.F);have xgv:=zV A xgu (zo2 xck xfi xbn xar xgb xes xbd xhj xgu.F);have xd6:=zV A xeh (zji xbd xgv xeh.F);have xg5:=zV A xg1 (zqD xbd xg1.F);have xg7:=zV A xg4 (zpL xbn xar xbd xg4.F);have xft:=zV A xfv (zlN xg xg5 xg7 xfv.F);have xgx:=zdW A xgw (zoi xev xb3 xd6 xft xgw.F);have xc6:=zV A xc5 (ziF xc5.F);have xap:=zdW A xc4 (ziQ xg xgx xc6 xc4.F);have xbm:=zV A xbj (zgj xfc xbj.F);have xbu:=zV A xcq (zh0 xu xap xc1 xec xcs xcq.F);exact zsO xg xq xd7 xag xu xe5 xct xap xfc xbm xbu xkl
def walk {l:W.OpenLaw}{q:Program}{loose:List Str}{XP:(Str->Option Value)->Heap->Prop}{YP:World->Heap->Prop}{d:DefRec}{K:Params->W.Frag}(hn:l.most=some 63)(hdf:d.params.defaults=[])
  (hY:∀ (w:World) (h:Heap),YP w h->(K w.params).In h)
  (F:∀ (w:World) (mg:Str->Option Value) (fa:Addr) (h:Heap),(K w.params).In h->h.Ns mainGlobals mg->mg d.name=some (.ref fa) ->
   ∃ fd:FuncData,(∀ (s:Shared) (u:Value),BindsTo s fd ⟨[u],[]⟩ [("script",u)])/\∀ base:Heap,(K w.params).In base->base.Ns mainGlobals mg->zQ l.prog w (K w.params) mg base CX0 12 fa fd ["script"] (upF (K w.params) Dp.zeC)) :
  W.WalkO q loose XP YP l.row.toRowW d [] (λf vs=>PySem.call f vs) :=
 Dp.zoG (n:=63) (k:=12) (x:="script") (sp:=λw=>upF (K w.params) Dp.zeC) hn (by decide) hdf ⟨rfl,by decide,by decide⟩ hY F λ_ _ _ _ hl hg hO hS=>zse hl hg hO hS
end Law
local macro_rules | `(tactic| walk_at"fh")=>`(tactic| (refine' Dp.zt0 ?fa ?fl ?fc ?fk;(case fa=>k_is);(case fl=>k_is);(case fc=>k_is);(case fk=>k_is)))
open PySem PySem.W PyProof.Rows
namespace PySem.W.Fast
def tw15890805998384064613:=Prop
def tw12161300273029956071:=Prop
def tw17258885176995997306:=Prop
def tw5038803350557479695:=Prop
def tw7371171141894183746:=Prop
def tw17553068580365549640:=Prop
def tw4038148139874546343:=Prop
def tw5939925852977243892:=Prop
def tw3700655601366050991:=Prop
def tw4617521930920917983:=Prop
def tw5521109442959014370:=Prop
def tw15761801429379041854:=Prop
def tw10847325143531371595:=Prop
def tw11881013842531785408:=Prop
def tw12024675659396775819:=Prop
def tw630943986671650325:=Prop
def tw7796919232793690800:=Prop
def tw16079179104904713135:=Prop
def tw17875813161478341185:=Prop
def tw15828895078166159589:=Prop
def tw5943925743336168760:=Prop
def tw3144468526611354896:=Prop
def tw18300466099564866100:=Prop
def tw3265686614602702010:=Prop
def tw2262244063610457179:=Prop
def tw161002390406315428:=Prop
def tw14825276009226755219:=Prop
def tw14901256861064931238:=Prop
def tw136592359722496736:=Prop
def tw14765368484130019145:=Prop
def tw3647280267134504990:=Prop
def tw5213842099748597753:=Prop
def tw1355531188027056609:=Prop
def tw16598389522373890411:=Prop
def tw2521513193292809301:=Prop
def tw9885338166916341254:=Prop
def tw1454395275720233528:=Prop
def tw17190461474637896345:=Prop
def tw4781256018291204593:=Prop
def tw15418831974011595386:=Prop
def tw15894282811513882768:=Prop
def tw13383446897949043702:=Prop
def tw12307973811908942901:=Prop
def tw10730432915154885381:=Prop
def tw9591244558381027405:=Prop
def tw1037459930234494786:=Prop
def tw4467415812493324115:=Prop
def tw11767101494959598856:=Prop
def tw14383445102705526922:=Prop
def tw2544088607098865453:=Prop
def tw12858629848288026157:=Prop
def tw15937766859507671527:=Prop
def tw2916415199478649852:=Prop
def tw15249744255756189173:=Prop
def tw10055843427394451957:=Prop
def tw16631926312741859204:=Prop
def tw1247826432865371602:=Prop
def tw5226545801519005694:=Prop
def tw1031714371652990694:=Prop
def tw6734625462155185695:=Prop
def tw13666217074155235260:=Prop
def tw599332429069701481:=Prop
def tw9917864863529751654:=Prop
def tw1921052761197365238:=Prop
def tw10809611989169113093:=Prop
def tw12498013933105114333:=Prop
def tw4819597247208021758:=Prop
def tw12697929327866783379:=Prop
def tw3976541912961572927:=Prop
def tw1758311235136249396:=Prop
def tw9716306380513587125:=Prop
def tw740062822347443338:=Prop
def tw10945598881990088697:=Prop
def tw17277492506243377753:=Prop
def tw253326972924909357:=Prop
def tw11521534251086824077:=Prop
def tw4818270827280843278:=Prop
def tw6556404513240885121:=Prop
def tw13777638278594587114:=Prop
def tw14306908677613856591:=Prop
def tw9666380006178555920:=Prop
def tw6849721342223206810:=Prop
def tw15250343771613685059:=Prop
def tw11307743929445278445:=Prop
def tw3404576114113310791:=Prop
def tw18102926898547875515:=Prop
def tw10281321752953285780:=Prop
def tw12854576240112114331:=Prop
def tw840029634833162310:=Prop
def tw16869718086814790773:=Prop
def tw15681359345739174727:=Prop
def tw4671389072558554434:=Prop
def tw1778976552934709942:=Prop
def tw11551630334354580791:=Prop
def tw15003563884292911162:=Prop
def tw18226093051665547474:=Prop
def tw4329352536940726379:=Prop
def tw6515944954958821674:=Prop
def tw405500572010087142:=Prop
def tw5086668632854773707:=Prop
def tw9765445345838476172:=Prop
def tw13560840754716737393:=Prop
def tw5883538446379840103:=Prop
def tw13695950262949297910:=Prop
def tw2831576783888312331:=Prop
def tw5162196108302139776:=Prop
def tw2724804160219487730:=Prop
def tw11352296201006805366:=Prop
def tw12263354591109252988:=Prop
def tw14073215973553510502:=Prop
def tw7710003108329035900:=Prop
def tw4691677926811490778:=Prop
def tw856648949011137901:=Prop
def tw14525323051684246971:=Prop
def tw4657616214139336838:=Prop
def tw8403783460963217663:=Prop
def tw3509478786024006835:=Prop
def tw6380754131295029478:=Prop
def tw13576695334836969977:=Prop
def tw3160390740563615941:=Prop
def tw1081457719447387752:=Prop
def tw551934262855762375:=Prop
def tw10629794166264250499:=Prop
def tw5430740283278546625:=Prop
def tw9573309399726378139:=Prop
def tw10373031436214974996:=Prop
def tw13591979893250560989:=Prop
def tw17369046210717497362:=Prop
def tw8937279515927060528:=Prop
def tw16168438561891208325:=Prop
def tw1339219417235348366:=Prop
def tw13943324741713280044:=Prop
def tw9253773159038543092:=Prop
def tw16101423905345940227:=Prop
def tw10979952408260708466:=Prop
def tw7482961791093102522:=Prop
def tw12291736487173617826:=Prop
def tw10416352934559386567:=Prop
def tw11175262940804515051:=Prop
def tw4037300506412368458:=Prop
def tw13747548300831279646:=Prop
def tw7777898459301531103:=Prop
def tw11588994312813463073:=Prop
def tw8468030376993271634:=Prop
def tw8258765845726384774:=Prop
def tw14209846358099013211:=Prop
def tw5100345654203676543:=Prop
def tw10906996576525037788:=Prop
def tw2602814452548465106:=Prop
def tw15862743674010060966:=Prop
def tw12510734598929996505:=Prop
def tw15977057641006388548:=Prop
def tw10853571344241312870:=Prop
def tw12541743029556758882:=Prop
def tw2014592521720917361:=Prop
def tw7924269239195964105:=Prop
def tw6811697998741040379:=Prop
def tw6535318103965942103:=Prop
def tw11068877107230196659:=Prop
def tw8345199122394862129:=Prop
def tw13199949745351826999:=Prop
def tw2156934567056678063:=Prop
def tw14480733919619828177:=Prop
def tw11366940137833962780:=Prop
def tw8102586819322791685:=Prop
def tw5021509052151554487:=Prop
def tw9033504429964730218:=Prop
def tw10063312246536049549:=Prop
def tw5730035467857709500:=Prop
def tw8793389657139303786:=Prop
def tw2742848178430166661:=Prop
def tw17747063217714279004:=Prop
def tw14015808474021517856:=Prop
def tw12364372531435222642:=Prop
def tw11970873631517774998:=Prop
def tw7904941665285762894:=Prop
def tw4523944489736002596:=Prop
def tw16904614486363925006:=Prop
def tw9609631331784765568:=Prop
def tw3657329468297263004:=Prop
def tw8982452571552072538:=Prop
def tw15216963436026569272:=Prop
def tw17277027040330485261:=Prop
def tw5603748449509878618:=Prop
def tw12221447213317756848:=Prop
def tw10223736069888002001:=Prop
def tw16016449449958478842:=Prop
def tw11956888277819689168:=Prop
def tw6643929057738313259:=Prop
def tw5090965737190978908:=Prop
def tw8644367296194170903:=Prop
def tw17650752035301944351:=Prop
def tw4325296538934944294:=Prop
def tw13500471379023752789:=Prop
def tw9001203872630454773:=Prop
def tw2381795934811602459:=Prop
def tw7345380613483014480:=Prop
def tw12936731244314349772:=Prop
def tw17050508039451023328:=Prop
def tw5431721504441523393:=Prop
def tw10493059958648899203:=Prop
def tw17071533382114207763:=Prop
def tw7252934610641783027:=Prop
def tw12800257620037319775:=Prop
def tw2264399761570468879:=Prop
def tw1046464313694562266:=Prop
def tw15871701054175649059:=Prop
def tw7822638508796034691:=Prop
def tw7116627548628478064:=Prop
def tw1563793014718002561:=Prop
def tw696829500706951778:=Prop
def tw1278606285128225681:=Prop
def tw8646498705402218594:=Prop
def tw4572731468965626098:=Prop
end PySem.W.Fast
set_option maxRecDepth 100000 in
set_option maxHeartbeats 0 in
theorem PySem.Challenge.cw_beaconvale_k90_sights_as_lines_holds : PySem.Challenge.rw_beaconvale_k90_sights_as_lines.Holds := by
 w_on; o_law; k_head; (case hw => w_witness2)
 k_fill
 refine Law.walk (l := PySem.Challenge.rw_beaconvale_k90_sights_as_lines) rfl rfl (fun w h Y => PySem.W.kIn_of Y) ?F
 case F =>
  intro w mg fa h KX G hmg
  refine' Law.all_mk KX G hmg ?ad ?ae ?ah ?ao ?aq ?ar ?aw ?ay ?aA ?aB ?aC ?aE ?aG ?aH ?aI ?aJ ?aK ?aL ?aM ?aO ?aP ?aQ ?aR ?aS ?aT ?aU ?aV ?aW ?aX ?aY ?aZ ?a8 ?a9 ?be ?bi ?bj ?bn ?bp ?bq ?bA ?bC ?bD ?bE ?bG ?bH ?bI ?bJ ?bK ?bM ?bN ?bO ?bP ?bQ ?bS ?bU ?bV ?bW ?bX ?bY ?bZ ?b9 ?cc ?ce ?cf ?cg ?cj ?ck ?cn ?cq ?cr ?cu ?cw ?cx ?cy ?cz ?cA ?cB ?cC ?cD ?cE ?cF ?cG ?cH ?cI ?cJ ?cK ?cL ?cM ?cN ?cO ?cP ?cQ ?cR ?cS ?cT ?cU ?cV ?cW ?cX ?cY ?cZ ?c7 ?c8 ?c9 ?dc ?de ?df ?dg ?dh ?di ?dj ?dm ?dn ?dq ?du ?dw ?dz ?dA ?dD ?dE ?dF ?dG ?dH ?dI ?dJ ?dL ?dN ?dO ?dP ?dQ ?dR ?dS ?dU ?dW ?dX ?dY ?dZ ?d7 ?d8 ?d9 ?er ?eA ?eC ?eD ?eE ?eF ?eG ?eH ?eI ?eJ ?eK ?eL ?eM ?eN ?eO ?eP ?eQ ?eR ?eU ?eV ?eW
  case cL|cM|cO|cR|cT|cV|cX|cZ|c8|aC|bq|aJ|bG=>k_is
  case ad|ae|ah|ao|aq|ar|aw|ay|aA|aB=>walk_at "fh"
  case aE|aG|aH|aI|aK|aL|aM|aO|aP|aQ|aR=>k_is
  case aS|aT|aU|aV|aW|aX|aY|aZ|a8|a9|be|bi|bj|bn|bp=>walk_at "fh"
  case bA|bC|bD|bE|bH|bI|bJ|bK|bM|bN|bO|bP|bQ|bS|bU|bV|bW=>k_is
  case bX|bY|bZ|b9|cc|ce|cf|cg|cj|ck|cn|cq|cr|cu|cw|cx|cy|cz|cA|cB|cC|cD|cE|cF|cG=>walk_at "fh"
  case cH|cI|cJ|cK=>k_is
  case cN|cP|cQ|cS|cU|cW|cY|c7|c9|dc|de|df|dg|dh|di|dj|dm|dn|dq|du|dw|dz|dA|dD|dE|dF|dG|dH|dI|dJ|dL|dN|dO|dP=>kernel_rfl
  case dQ|dR|dS|dU|dW|dX|dY|dZ|d7|d8|d9|er|eA|eC|eD|eE|eF|eG|eH|eI|eJ|eK|eL|eM|eN|eO|eP|eQ|eR|eU|eV|eW=>k_is
#print axioms PySem.Challenge.cw_beaconvale_k90_sights_as_lines_holds
