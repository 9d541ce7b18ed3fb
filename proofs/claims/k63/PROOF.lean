import PyProof.Rows.All
import Wide.All
import OpenK.AllK
import Wide.FinOn
import Lean
import PyProof.EqAt
import PyProof.EqKinds
import PyProof.TupleCall
import PyProof.NeData
import PyProof.P3Eq
import PyProof.StrLawsIn
import PyProof.StrLawsJoin
import PyProof.StrBlockL
import PySem.Challenge.RW_beaconvale_k63_whole_bounds
set_option Elab.async false
set_option linter.all false
set_option maxRecDepth 100000
set_option maxHeartbeats 4000000
set_option Elab.async false
set_option linter.all false
set_option maxRecDepth 100000
def qa:=@List.length_map
def qb:=@List.getElem?_eq_getElem
def qc:=@PySem.Heap.get?_push_of_some
def qd:=@List.mem_of_getElem?
def qe:=@List.length_append
def qf:=@List.mem_cons
def qg:=@Nat.le_refl
def qh:=@List.getElem?_map
def qi:=@List.size_toArray
def qj:=@List.lookup_cons
def qk:=@PySem.Heap.lt_size
def ql:=@List.getElem?_append_right
def qm:=@List.not_mem_nil
def qo:=@Bool.false_ne_true
def qp:=@List.getD_eq_getElem?_getD
def qq:=@Nat.lt_of_lt_of_le
def qr:=@List.map_append
def qs:=@List.mem_cons_of_mem
def qu:=@List.mem_append
def qv:=@List.getElem?_append_left
def qw:=@List.length_replicate
def qA:=@Bool.and_eq_true
def qB:=@Nat.ne_of_lt
def qC:=@List.getElem?_set_self
def qD:=@Nat.lt_or_ge
def qE:=@List.getElem?_eq_none
def qF:=@List.append_assoc
def qG:=@Array.length_toList
def qH:=@List.getElem?_set_ne
def qI:=@List.mem_map
def qJ:=@Nat.zero_le
def qK:=@Nat.le_trans
def qL:=@List.mem_append_right
def qM:=@List.map_map
def qN:=@Option.some.inj
def qO:=@List.take_length
def qP:=@List.getElem?_eq_some_iff
def qQ:=@List.pairwise_iff_getElem
namespace L2
open PySem PySem.Spec PyProof.Rows
abbrev Key:=Sum Int Str
def zsy:Key->Value->Bool
 | .inl k,v=>Value.isInt k v
 | .inr x,v=>Value.isStrOf x v
def zxO (w:World):Key->Int
 | .inl k=>hashInt k
 | .inr x=>hashStr w x
theorem zbq:∀ {k:Key} {v:Value},zsy k v=true->(∃ i t,k=Sum.inl i/\v=Value.int i t)\/(∃ x t,k=Sum.inr x/\v=Value.str x t)
 | .inl i,v,h=>by
  obtain⟨t,e⟩:=Value.isInt_shape (k:=i) (v:=v) h
  exact .inl ⟨i,t,rfl,e⟩
 | .inr x,v,h=>by
  obtain⟨t,e⟩:=Value.isStrOf_shape (x:=x) (v:=v) h
  exact .inr ⟨x,t,rfl,e⟩
theorem zum (a b:Int):decide ((Sum.inl a:Key)=Sum.inl b)=(a==b):=by
 by_cases e:a=b
 ·subst e;simp
 ·have h:¬ (Sum.inl a:Key)=Sum.inl b:=fun q=>e (Sum.inl.inj q)
  rw [decide_eq_false h]
  exact (beq_eq_false_iff_ne.mpr e).symm
theorem zv3 (a b:Str):decide ((Sum.inr a:Key)=Sum.inr b)=decide (a=b):=by
 by_cases e:a=b
 ·subst e;simp
 ·have h:¬ (Sum.inr a:Key)=Sum.inr b:=fun q=>e (Sum.inr.inj q)
  rw [decide_eq_false h,decide_eq_false e]
theorem zvV (a:Int)(b:Str):decide ((Sum.inl a:Key)=Sum.inr b)=false:=decide_eq_false (fun q=>nomatch q)
theorem zuF (a:Str)(b:Int):decide ((Sum.inr a:Key)=Sum.inl b)=false:=decide_eq_false (fun q=>nomatch q)
def zn0 (prog:Program)(w:World):PySem.KeyKind prog w Key where
  is:=zsy
  hash:=zxO w
  inj:=fun v a b ha hb=>by
    rcases zbq ha with ⟨i,t,rfl,rfl⟩ | ⟨x,t,rfl,rfl⟩
    . rcases zbq hb with ⟨j,u,rfl,e⟩ | ⟨y,u,rfl,e⟩
      . injection e with e1 _;rw [e1]
      . exact nomatch e
    . rcases zbq hb with ⟨j,u,rfl,e⟩ | ⟨y,u,rfl,e⟩
      . exact nomatch e
      . injection e with e1 _;rw [e1]
  byValue:=fun k v h=>by
    rcases zbq h with ⟨i,t,rfl,rfl⟩ | ⟨x,t,rfl,rfl⟩<;>rfl
  pyHash:=fun hv h=>by
    rcases zbq hv with ⟨i,t,rfl,rfl⟩ | ⟨x,t,rfl,rfl⟩
    . exact wpAny_pyHash_int h
    . exact wpAny_pyHash_str h
  eqBool:=fun hu hv h=>by
    rcases zbq hu with ⟨i,t,rfl,rfl⟩ | ⟨x,t,rfl,rfl⟩
    . rcases zbq hv with ⟨j,u,rfl,rfl⟩ | ⟨y,u,rfl,rfl⟩
      . rw [zum] at h;exact wpAny_eqBool_int h
      . rw [zvV] at h;exact SeqAt.EqAt.int_str i t y u _ _ _ _ h
    . rcases zbq hv with ⟨j,u,rfl,rfl⟩ | ⟨y,u,rfl,rfl⟩
      . rw [zuF] at h;exact SeqAt.EqAt.str_int x t j u _ _ _ _ h
      . rw [zv3] at h;exact wpAny_eqBool_str h
  «strs»:=fun k x t v h=>by
    rcases zbq h with ⟨i,u,rfl,e⟩ | ⟨y,u,rfl,e⟩
    . exact nomatch e
    . injection e with e1 _
      subst e1
      cases v<;>rfl
inductive V where
 | non | bl (b:Bool) | int (i:Int) | str (x:Str) | byt (b:Array UInt8) | flt (b:UInt64) | ref (a:Addr) | ty (n:String)
 deriving DecidableEq
def RelV:V->Value->Prop
 | .non,u=>u=Value.none
 | .bl b,u=>u=Value.bool b
 | .int i,u=>∃ t,u=Value.int i t
 | .str x,u=>∃ t,u=Value.str x t
 | .byt b,u=>∃ t,u=Value.bytes b t
 | .flt b,u=>∃ t,u=Value.float b t
 | .ref a,u=>u=Value.ref a
 | .ty n,u=>u=Value.type n
abbrev Vals:List V->List Value->Prop:=Paired RelV
theorem Vals.length {xs:List V}{us:List Value}(r:Vals xs us):xs.length=us.length:=Paired.length r
theorem Vals.get:∀ {xs:List V} {us:List Value} {i:Nat} {x:V},Vals xs us->xs[i]?=some x->∃ u,us[i]?=some u/\RelV x u
 | _,_,_,_,.nil,e=>by simp at e
 | _,_,0,_,.cons r _,e=>by simp at e;subst e;exact⟨_,rfl,r⟩
 | _,_,i+1,x,.cons _ t,e=>by
  obtain⟨u,h1,h2⟩:=Vals.get (i:=i) (x:=x) t (by simpa using e)
  exact⟨u,by simpa using h1,h2⟩
theorem Vals.set {x:V}{u:Value}(r:RelV x u):∀ {xs:List V} {us:List Value} (i:Nat),Vals xs us->Vals (xs.set i x) (us.set i u)
 | _,_,_,.nil=>.nil
 | _,_,0,.cons _ t=>.cons r t
 | _,_,i+1,.cons q t=>.cons q (Vals.set r i t)
theorem Vals.append:∀ {xs ys:List V} {us ws:List Value},Vals xs us->Vals ys ws->Vals (xs++ys) (us++ws)
 | _,_,_,_,.nil,s=>s
 | _,_,_,_,.cons r t,s=>.cons r (Vals.append t s)
theorem Vals.take:∀ {xs:List V} {us:List Value} (n:Nat),Vals xs us->Vals (xs.take n) (us.take n)
 | _,_,0,_=>.nil
 | _,_,_+1,.nil=>.nil
 | _,_,n+1,.cons r t=>.cons r (Vals.take n t)
theorem Vals.drop:∀ {xs:List V} {us:List Value} (n:Nat),Vals xs us->Vals (xs.drop n) (us.drop n)
 | _,_,0,r=>r
 | _,_,_+1,.nil=>.nil
 | _,_,n+1,.cons _ t=>Vals.drop n t
def zi5:Option V->Option Value->Prop
 | some v,some u=>RelV v u
 | none,none=>True
 | _,_=>False
def KV {κ:Type}:List (κ×V)->List (κ×Value)->Prop:=Paired fun (p:κ×V) (q:κ×Value)=>p.1=q.1/\RelV p.2 q.2
def kV:Key->V
 | .inl i=>.int i
 | .inr x=>.str x
inductive HO where
 | lst (xs:List V)
 | tup (xs:List V)
 | dK (kvs:List (Key×V)) | dT (kvs:List (List Key×V))
 | set (S:Int->Bool) (n:Nat)
 | ins (C dx:Addr) (fs:List (Str×V))
 | own (x:Addr)
 | xd (fs:List (Str×V))
 | met (f x:Addr)
 | rng (lo hi:Int)
 | frz (o:Obj) (u:HO)
 | tbl (ps:Array Value)
 | ext (φ:Heap->Prop)
abbrev Hp:=Addr->Option HO
def upd (H:Hp)(a:Addr)(o:HO):Hp:=fun b=>if b=a then some o else H b
theorem za0 {H:Hp}{a:Addr}{o:HO}:upd H a o a=some o:=by unfold upd;rw [if_pos rfl]
theorem zaf {H:Hp}{a b:Addr}{o:HO}(h:b≠a):upd H a o b=H b:=by unfold upd;rw [if_neg h]
theorem ziu {H:Hp}{a b:Addr}{o u:HO}(h:H a=some o)(h':H b=some u)(d:o≠u):a≠b:=by
 intro e;subst e;rw [h] at h';exact d (qN h')
theorem zbG {H:Hp}{a b:Addr}{o:HO}(h:H a=some o)(h':H b=none):a≠b:=by
 intro e;subst e;rw [h] at h';cases h'
section
variable (P:Program)(w:World)
def zbo (H:Hp)(h:Heap)(a:Addr):HO->Prop
 | .lst xs=>xs.length<=sizeLine/\∃ (its:List Value) (n:Nat),Vals xs its/\h.get? a=some { cls:=.type "list",data:=.seq its.toArray n }
 | .tup xs=>xs.length<=sizeLine/\∃ its:List Value,Vals xs its/\IsTup h a its.toArray
 | .dK kvs=>kvs.length<=sizeLine/\(a==sysModules)=false/\∃ vs,KV kvs vs/\h.DictOf (zn0 P w) a vs
 | .dT kvs=>kvs.length<=sizeLine/\(a==sysModules)=false/\∃ xs:List (List Key×Addr×Value),
   Paired (fun (p:List Key×V) (q:List Key×Addr×Value)=>p.1=q.1/\H q.2.1=some (.tup (p.1.map kV))/\RelV p.2 q.2.2) kvs xs /\
   ∃ o es ep,h.get? a=some o/\o.ExactDict/\o.data=.dict es ep/\es.toList=xs.map (entryOfKey (tupleKind (zn0 P w)))/\(xs.map (·.1)).Nodup
 | .set S n=>h.SetOf (intKind P w) a S n
 | .ins C dx fs=>H dx=some (.own a)/\fs.length<=1000/\dx≠a/\h.get? a=some (PySem.W.instObj C dx) /\
   ∃ mA,h.Ns1 dx mA/\(∀ f,zi5 (fs.lookup f) (mA f))/\PySem.Within mA (fs.map (·.1))
 | .own _=>∃ o,h.get? a=some o
 | .xd fs=>∃ mA,h.Ns1 a mA/\∀ f,zi5 (fs.lookup f) (mA f)
 | .rng lo hi=>∃ t u v,h.get? a=some { cls:=.type "range",data:=.fields #[.int lo t,.int hi u,.int 1 v] }
 | .frz o u=>h.get? a=some o/\zbo H h a u
 | .tbl ps=>h.get? a=some { cls:=.none,data:=.fields ps }
 | .met f x=>h.get? a=some (PySem.W.methodObj (.ref f) (.ref x))
 | .ext φ=>φ h/\(∃ o,h.get? a=some o)/\∀ h1 h2:Heap,φ h1->(∀ o,h1.get? a=some o->h2.get? a=some o)->φ h2
def HOk (H:Hp)(h:Heap):Prop:=∀ a o,H a=some o->zbo P w H h a o
end
section
variable {P:Program}{w:World}{H H':Hp}{h h':Heap}{a:Addr}{o:HO}
theorem zbo.lt (x:zbo P w H h a o):a<h.objs.size:=by
 cases o with
 | lst xs=>obtain⟨_,_,_,_,e⟩:=x;exact qk e
 | tup xs=>obtain⟨_,_,_,p⟩:=x;exact p.lt
 | dK kvs=>obtain⟨_,_,_,_,o,_,_,e,_⟩:=x;exact qk e
 | dT kvs=>obtain⟨_,_,_,_,o,_,_,e,_⟩:=x;exact qk e
 | set S n=>obtain⟨o,_,_,_,e,_⟩:=x;exact qk e
 | ins C dx fs=>obtain⟨_,_,_,e,_⟩:=x;exact qk e
 | own y=>obtain⟨_,e⟩:=x;exact qk e
 | xd fs=>obtain⟨_,⟨_,_,_,e,_⟩,_⟩:=x;exact qk e
 | rng lo hi=>obtain⟨_,_,_,e⟩:=x;exact qk e
 | frz ob u=>obtain⟨e,_⟩:=x;exact qk e
 | tbl ps=>exact qk (show h.get? a=some _ from x)
 | met f y=>exact qk (show h.get? a=some _ from x)
 | ext φ=>obtain⟨_,⟨_,e⟩,_⟩:=x;exact qk e
theorem Paired.mapP {α β:Type}{F G:α->β->Prop}:∀ {l₁:List α} {l₂:List β},Paired F l₁ l₂->(∀ a b,F a b->G a b)->Paired G l₁ l₂
 | _,_,.nil,_=>.nil
 | _,_,.cons r t,f=>.cons (f _ _ r) (Paired.mapP t f)
theorem Paired.imp' {α β:Type}{F G:α->β->Prop}(f:∀ a b,F a b->G a b){l₁:List α}{l₂:List β}(r:Paired F l₁ l₂):Paired G l₁ l₂:=Paired.mapP r f
theorem zbo.stay (x:zbo P w H h a o)(k:∀ b u,(b=a\/H b=some (.own a))->h.get? b=some u->h'.get? b=some u)
  (ho:∀ b,H b=some (.own a)->H' b=some (.own a)) (ht:∀ b xs,H b=some (.tup xs)->H' b=some (.tup xs)):zbo P w H' h' a o:=by
 induction o with
 | lst xs=>obtain⟨z,its,n,r,e⟩:=x;exact⟨z,its,n,r,k _ _ (.inl rfl) e⟩
 | tup xs=>obtain⟨z,its,r,ob,e,c⟩:=x;exact⟨z,its,r,ob,k _ _ (.inl rfl) e,c⟩
 | dK kvs=>obtain⟨z,y,vs,r,ob,es,ep,e,c⟩:=x;exact⟨z,y,vs,r,ob,es,ep,k _ _ (.inl rfl) e,c⟩
 | dT kvs =>
  obtain⟨z,y,xs,r,ob,es,ep,e,c⟩:=x
  exact⟨z,y,xs,Paired.mapP r fun p q z=>⟨z.1,ht _ _ z.2.1,z.2.2⟩,ob,es,ep,k _ _ (.inl rfl) e,c⟩
 | set S n=>obtain⟨ob,es,ep,t,e,c⟩:=x;exact⟨ob,es,ep,t,k _ _ (.inl rfl) e,c⟩
 | ins C dx fs =>
  obtain⟨d,z,ne,e,mA,⟨od,es,ep,e2,c⟩,r⟩:=x
  exact⟨ho _ d,z,ne,k _ _ (.inl rfl) e,mA,⟨od,es,ep,k _ _ (.inr d) e2,c⟩,r⟩
 | own y=>obtain⟨ob,e⟩:=x;exact⟨ob,k _ _ (.inl rfl) e⟩
 | xd fs=>obtain⟨mA,⟨od,es,ep,e,c⟩,r⟩:=x;exact⟨mA,⟨od,es,ep,k _ _ (.inl rfl) e,c⟩,r⟩
 | rng lo hi=>obtain⟨t,u,v,e⟩:=x;exact⟨t,u,v,k _ _ (.inl rfl) e⟩
 | frz ob u ih=>obtain⟨e,q⟩:=x;exact⟨k _ _ (.inl rfl) e,ih q⟩
 | tbl ps =>
  have e:h.get? a=some { cls:=.none,data:=.fields ps }:=x
  show h'.get? a=some { cls:=.none,data:=.fields ps }
  exact k a _ (.inl rfl) e
 | met f y =>
  have e:h.get? a=some (PySem.W.methodObj (.ref f) (.ref y)):=x
  show h'.get? a=some (PySem.W.methodObj (.ref f) (.ref y))
  exact k a _ (.inl rfl) e
 | ext φ=>obtain⟨p,⟨o,e⟩,st⟩:=x;exact⟨st _ _ p fun o q=>k _ _ (.inl rfl) q,⟨o,k _ _ (.inl rfl) e⟩,st⟩
theorem HOk.lt (x:HOk P w H h)(e:H a=some o):a<h.objs.size:=(x a o e).lt
theorem HOk.fresh (x:HOk P w H h)(e:h.objs.size<=a):H a=none:=by
 cases q:H a with
 | none=>rfl
 | some u=>exact absurd (qq (x.lt q) e) (Nat.lt_irrefl _)
theorem HOk.kept (x:HOk P w H h)(k:∀ b u,h.get? b=some u->h'.get? b=some u):HOk P w H h':=fun a o e =>
 (x a o e).stay (fun b u _ q=>k b u q) (fun _ q=>q) fun _ _ q=>q
theorem HOk.laid (x:HOk P w H h)(k:∀ b u,h.get? b=some u->h'.get? b=some u)(hp:h.objs.size<=a)(new:zbo P w (upd H a o) h' a o):HOk P w (upd H a o) h':=fun b u e=>by
 have hn:=x.fresh hp
 by_cases hb:b=a
 ·subst hb;rw [za0] at e;cases e;exact new
 ·rw [zaf hb] at e
  exact (x b u e).stay (fun c v _ q=>k c v q) (fun c q=>by rw [zaf (zbG q hn)];exact q) fun c xs q=>by rw [zaf (zbG q hn)];exact q
end
def Rd (H:Hp)(a:Addr)(u:HO):Prop:=H a=some u\/∃ o,H a=some (.frz o u)
theorem Rd.ok {P:Program}{w:World}{H:Hp}{h:Heap}{a:Addr}{u:HO}(r:Rd H a u)(x:HOk P w H h):zbo P w H h a u:=by
 rcases r with r | ⟨o,r⟩
 ·exact x a u r
 ·obtain⟨_,q⟩:=x a _ r
  exact q
def Mut:Option HO->Prop
 | some (.lst _)=>True
 | some (.dK _)=>True
 | some (.dT _)=>True
 | some (.set _ _)=>True
 | some (.ins _ _ _)=>True
 | some (.ext _)=>True
 | _=>False
section
variable {P:Program}{w:World}{H:Hp}{h h':Heap}{x e:Addr}{o':HO}
theorem HOk.write (ok:HOk P w H h)(mu:Mut (H x))(he:e=x\/H e=some (.own x))(k:∀ b u,b≠e->h.get? b=some u->h'.get? b=some u)(heo:∃ u,h'.get? e=some u)
  (new:zbo P w (upd H x o') h' x o'):HOk P w (upd H x o') h':=fun b u q=>by
 have nown:∀ c y,H c=some (.own y)->c≠x:=fun c y r z=>by subst z;rw [r] at mu;exact mu
 have ntup:∀ c xs,H c=some (.tup xs)->c≠x:=fun c xs r z=>by subst z;rw [r] at mu;exact mu
 by_cases hb:b=x
 ·subst hb;rw [za0] at q;cases q;exact new
 ·rw [zaf hb] at q
  by_cases hbe:b=e
  ·have q':H b=some (.own x):=by
    rcases he with z | z
    ·exact absurd (hbe.trans z) hb
    ·rw [hbe];exact z
   rw [q] at q';cases q'
   obtain⟨v,hv⟩:=heo
   exact⟨v,by rw [hbe];exact hv⟩
  ·refine (ok b u q).stay (fun c v hc r=>k c v ?_ r) (fun c r=>by rw [zaf (nown c b r)];exact r) fun c xs r=>by rw [zaf (ntup c xs r)];exact r
   rcases hc with rfl | hc
   ·exact hbe
   ·rintro rfl
    rcases he with z | z
    ·exact nown c b hc z
    ·rw [hc] at z;cases z;exact hb rfl
end
structure Un (fs ex:List Addr)(H H':Hp)(h h':Heap):Prop where
 keep:∀ b o,h.get? b=some o->H b=none->b∉fs->b∉ex->h'.get? b=some o
 slot:∀ b o,h.get? b=some o->H b=none->b∈fs->b∉ex->∃ sl,h'.get? b=some { o with slots:=sl }
 free:∀ b o,h.get? b=some o->H b=none->b∉ex->H' b=none
 there:∀ b o,h.get? b=some o->b∉ex->∃ o',h'.get? b=some o'
 tups:∀ b xs,H b=some (.tup xs)->H' b=some (.tup xs)
 frzs:∀ b o u,H b=some (.frz o u)->H' b=some (.frz o u)
 tbls:∀ b ps,H b=some (.tbl ps)->∃ more,H' b=some (.tbl (ps++more))
section
variable {fs fs' ex ex':List Addr}{H H1 H2:Hp}{h h1 h2 h':Heap}{a x e:Addr}{o:HO}
theorem Un.any (u:Un fs ex H H1 h h1){b:Addr}{ob:Obj}(q:h.get? b=some ob)(n:H b=none)(hx:b∉ex):∃ sl,h1.get? b=some { ob with slots:=sl }:=by
 by_cases hb:b∈fs
 ·exact u.slot b ob q n hb hx
 ·exact⟨ob.slots,u.keep b ob q n hb hx⟩
theorem Un.kept (k:∀ b u,h.get? b=some u->h'.get? b=some u):Un fs ex H H h h' :=
 ⟨fun b ob q _ _ _=>k b ob q,fun b ob q _ _ _=>⟨ob.slots,k b ob q⟩,fun _ _ _ n _=>n,fun b ob q _=>⟨ob,k b ob q⟩,fun _ _ q=>q,fun _ _ _ q=>q,fun _ ps q=>⟨#[],by rw [q];simp⟩⟩
theorem Un.refl:Un fs ex H H h h:=Un.kept fun _ _ q=>q
theorem Un.laid (k:∀ b u,h.get? b=some u->h'.get? b=some u)(hp:h.objs.size<=a)(hn:H a=none):Un fs ex H (upd H a o) h h' where
 keep:=fun b u q _ _ _=>k b u q
 slot:=fun b u q _ _ _=>⟨u.slots,k b u q⟩
 free:=fun b u q n _=>by rw [zaf (qB (qq (qk q) hp))];exact n
 there:=fun b u q _=>⟨u,k b u q⟩
 tups:=fun b xs q=>by rw [zaf (zbG q hn)];exact q
 frzs:=fun b u xs q=>by rw [zaf (zbG q hn)];exact q
 tbls:=fun b ps q=>⟨#[],by rw [zaf (zbG q hn),q];simp⟩
theorem Un.write (mu:Mut (H x))(he:e=x\/H e=some (.own x))(k:∀ b u,b≠e->h.get? b=some u->h'.get? b=some u)(heo:∃ u,h'.get? e=some u):Un fs ex H (upd H x o) h h':=by
 have hx:∀ b,H b=none->b≠x:=fun b n z=>by subst z;rw [n] at mu;exact mu
 have hb:∀ b,H b=none->b≠e:=fun b n z=>by
  subst z
  rcases he with r | r
  ·exact hx b n r
  ·rw [n] at r;cases r
 have hm:∀ b u,H b=some u->¬ Mut (some u)->b≠x:=fun b u q nm z=>by subst z;rw [q] at mu;exact nm mu
 refine⟨fun b u q n _ _=>k b u (hb b n) q,fun b u q n _ _=>⟨u.slots,k b u (hb b n) q⟩,fun b u q n _=>by rw [zaf (hx b n)];exact n,fun b u q _=>?_,
  fun b xs q=>by rw [zaf (hm b _ q fun z=>z)];exact q,fun b u xs q=>by rw [zaf (hm b _ q fun z=>z)];exact q,fun b ps q=>⟨#[],by rw [zaf (hm b _ q fun z=>z),q];simp⟩⟩
 by_cases hbe:b=e
 ·subst hbe;exact heo
 ·exact⟨u,k b u hbe q⟩
end
def trk (h:Heap)(H:Hp):List Addr:=(List.range h.objs.size).filter fun a=>(H a).isSome
def zhb (h:Heap)(H:Hp):Heap:=PySem.W.hideAll h (trk h H)
theorem zpV (h:Heap)(H:Hp):(zhb h H).objs.size=h.objs.size:=PySem.W.hideAll_size _ _
theorem zr9 {h:Heap}{H:Hp}{b:Addr}{o:Obj}(e:h.get? b=some o)(n:H b=none):(zhb h H).get? b=some o :=
 PySem.W.hideAll_get _ e fun hm=>by
  have q:(H b).isSome=true:=(List.mem_filter.mp hm).2
  rw [n] at q;simp at q
theorem ztR {h:Heap}{H:Hp}{b:Addr}{o:Obj}(e:(zhb h H).get? b=some o):h.get? b=some o/\H b=none:=by
 have e':h.get? b=some o:=PySem.W.of_hideAll (trk h H) e
 refine⟨e',?_⟩
 cases q:H b with
 | none=>rfl
 | some x =>
  have hm:b∈trk h H:=List.mem_filter.mpr ⟨List.mem_range.mpr (qk e'),by simp [q]⟩
  have z:(zhb h H).get? b=none:=PySem.W.hideAll_none (trk h H) hm
  rw [z] at e;cases e
def ztu (g h:Heap)(L:Addr):List (Addr×Obj):=(List.range h.objs.size).filterMap fun a=>if a=L\/(g.get? a).isSome=true then none else (h.get? a).map fun o=>(a,o)
def rest (g h:Heap)(L d:Addr):List (Addr×Obj):=(ztu g h L).filter fun p=>decide (p.1≠d)
structure Mod (K:PySem.W.Frag)(mg:Str->Option Value)(base:Heap):Prop where
 kin:K.In base
 glob:base.Ns mainGlobals mg
 blt:∃ mb,base.Ns builtinsNs mb/\∀ x:Str,x≠"__name__"->mb x=bootBuiltins x
 nolimit:base.NoLimit
/-- the context: a def's body (or a comprehension's block) running. base: fixed through the whole law; s₀, H₀: the entry; outer: the frames whose slots others may change (a def's callers); stack: all frames that run;
   ex: iterators that were made ahead of the entry and are walked here (a comprehension's);fn: the names whose cells were made at the entry (a def: all;a comprehension's block: its own);calm: not within an except suite;pn: pins that every state bears;xe: what is wanted of an exception that leaves the code -/
structure Cx where
 prog:Program
 w:World
 K:PySem.W.Frag
 mg:Str->Option Value
 base:Heap
 A:Around
 N:List Str
 s₀:Shared
 H₀:Hp
 env:Env
 outer:List Env
 stack:List Env
 ex:List Addr
 fn:Str->Bool
 calm:Bool
 pn:List (Addr×Obj)
 xe:Value->Shared->Prop
def frs (l:List Env):List Addr:=l.filterMap (·.frame)
abbrev Cx.fs (X:Cx):List Addr:=frs X.outer
def Vis (sc:Scope)(x:Str):Prop:=sc.names.lookup x=some .local\/sc.names.lookup x=some .cell\/sc.names.lookup x=some .free
def Loc (sc:Scope)(x:Str):Prop:=sc.names.lookup x=some .local\/sc.names.lookup x=some .cell
def Look (env:Env)(h:Heap)(m:Str->Option Value)(x:Str)(u:Value):Prop :=
 (env.kindOf x=some .local/\m x=some u)\/((env.kindOf x=some .cell\/env.kindOf x=some .free)/\∃ c,env.cells.lookup x=some c/\h.IsCell c (some u))
structure Cx.Ok (X:Cx):Prop where
 mod:Mod X.K X.mg X.base
 kind:X.env.scope.kind=.function
 glob:X.env.globals=mainGlobals
 blt:X.env.builtins=builtinsNs
 above:X.s₀.heap.objs.size<=X.env.locals
 inj:∀ x y c,X.env.cells.lookup x=some c->X.env.cells.lookup y=some c->x=y
 has:∀ x,(X.env.kindOf x=some .cell\/X.env.kindOf x=some .free)->∃ c,X.env.cells.lookup x=some c
 cab:∀ x c,X.fn x=true->X.env.cells.lookup x=some c->X.s₀.heap.objs.size<=c
 hd:X.calm=true->X.A.handled=none
 frames:X.A.frames=some X.stack
 stk:X.stack=X.outer\/(X.stack=X.env::X.outer/\X.env.frame=some X.env.locals)
 exf:∀ b∈X.ex,b≠X.env.locals/\∀ x c,X.env.cells.lookup x=some c->c≠b
 bs:∀ b o,X.base.get? b=some o->X.s₀.heap.get? b=some o/\X.H₀ b=none
 bsz:X.base.objs.size<=X.s₀.heap.objs.size
 noex:∀ b o,X.base.get? b=some o->b∉X.ex
 exfs:∀ b∈X.ex,b∉X.fs
 funs:X.s₀.heap.FunFrames X.base X.outer
 frf:∀ b∈X.fs,X.H₀ b=none
structure Inv (X:Cx)(pins:List (Addr×Obj))(U:List (Option V))(H:Hp)(s:Shared):Prop where
 ok:X.Ok
 os:s.os=X.s₀.os
 bare:AllBare s.gens
 base:Un X.fs X.ex X.H₀ H X.s₀.heap s.heap
 loc:∃ m,s.heap.Ns X.env.locals m/\∀ (i:Nat) (x:Str) (v:V),X.N[i]?=some x->U[i]?=some (some v)->Vis X.env.scope x->∃ u,RelV v u/\Look X.env s.heap m x u
 cell:∀ x c,X.env.cells.lookup x=some c->∃ v,s.heap.IsCell c v
 free:H X.env.locals=none
 freeC:∀ x c,X.env.cells.lookup x=some c->H c=none
 pin:∀ p∈X.pn++pins,s.heap.get? p.1=some p.2/\H p.1=none/\p.1≠X.env.locals/\p.1∉X.fs/\∀ v,p.2.data≠.cell v
 hok:HOk X.prog X.w H s.heap
 len:U.length=X.N.length
section
variable {X:Cx}{pins:List (Addr×Obj)}{U:List (Option V)}{H H':Hp}{s:Shared}{h':Heap}
theorem Cx.Ok.nofr (ok:X.Ok){b:Addr}{o:Obj}(e:X.base.get? b=some o):b∉X.fs:=fun hb=>by
 have:=(ok.funs.mem hb).1
 rw [e] at this;cases this
theorem Inv.bs (I:Inv X pins U H s):∀ b o,X.base.get? b=some o->s.heap.get? b=some o/\H b=none:=fun b o e =>
 ⟨I.base.keep b o (I.ok.bs b o e).1 (I.ok.bs b o e).2 (I.ok.nofr e) (I.ok.noex b o e),I.base.free b o (I.ok.bs b o e).1 (I.ok.bs b o e).2 (I.ok.noex b o e)⟩
theorem Inv.bk (I:Inv X pins U H s):∀ b o,X.base.get? b=some o->s.heap.get? b=some o:=fun b o e=>(I.bs b o e).1
theorem Inv.mod (I:Inv X pins U H s):Mod X.K X.mg X.base:=I.ok.mod
theorem Inv.kIn (I:Inv X pins U H s):X.K.In s.heap:=I.ok.mod.kin.keeps I.bk
theorem Inv.lt (I:Inv X pins U H s):X.env.locals<s.heap.objs.size:=let ⟨_,hn,_⟩:=I.loc;hn.lt
theorem Inv.sz (I:Inv X pins U H s):X.s₀.heap.objs.size<=s.heap.objs.size:=qK I.ok.above (Nat.le_of_lt I.lt)
theorem Inv.nofs (I:Inv X pins U H s){a:Addr}(h:s.heap.objs.size<=a):a∉X.fs:=fun hb=>by
 obtain⟨_,o,ho,_⟩:=I.ok.funs.mem hb
 exact absurd (qq (qk ho) (qK I.sz h)) (Nat.lt_irrefl _)
theorem Inv.cne (I:Inv X pins U H s):∀ x c,X.env.cells.lookup x=some c->c≠X.env.locals:=fun x c e z=>by
 obtain⟨v,o,ho,hd⟩:=I.cell x c e
 obtain⟨m,⟨o',es,ep,ho',hd',_⟩,_⟩:=I.loc
 rw [z,ho'] at ho;cases ho;rw [hd'] at hd;cases hd
theorem Inv.funs (I:Inv X pins U H s):s.heap.FunFrames X.base X.outer:=by
 have all:∀ (l:List Env),(∀ b∈frs l,b∈X.fs)->X.s₀.heap.FunFrames X.base l->s.heap.FunFrames X.base l:=by
  intro l
  induction l with
  | nil=>intro _ _;trivial
  | cons env r ih =>
   intro hs hl
   obtain⟨hk,⟨L,o,hf,hn,ho,hd⟩,hr⟩:=hl
   have hL:L∈X.fs:=hs L (by unfold frs;rw [List.filterMap_cons,hf];exact List.mem_cons_self)
   obtain⟨sl,e⟩:=I.base.slot L o ho (I.ok.frf L hL) hL fun z=>I.ok.exfs L z hL
   exact⟨hk,⟨L,_,hf,hn,e,hd⟩,ih (fun b hb=>hs b (by unfold frs;rw [List.filterMap_cons,hf];exact qs _ hb)) hr⟩
 exact all X.outer (fun _ hb=>hb) I.ok.funs
theorem Inv.stack (I:Inv X pins U H s):s.heap.FunFrames X.base X.stack:=by
 rcases I.ok.stk with e | ⟨e,hf⟩
 ·rw [e];exact I.funs
 ·rw [e]
  obtain⟨m,hn,_⟩:=I.loc
  refine .cons (by rw [I.ok.kind];decide) hf hn ?_ I.funs
  exact Heap.get?_none_of_le (qK I.ok.bsz I.ok.above)
theorem Inv.stkSub (I:Inv X pins U H s):∀ b∈frs X.stack,b∈X.env.locals::X.fs:=fun b hb=>by
 rcases I.ok.stk with e | ⟨e,hf⟩
 ·rw [e] at hb;exact qs _ hb
 ·rw [e] at hb
  unfold frs at hb
  rw [List.filterMap_cons,hf] at hb
  exact hb
theorem Inv.stkFree (I:Inv X pins U H s):∀ b∈frs X.stack,H b=none:=fun b hb=>by
 rcases qf.mp (I.stkSub b hb) with e | hb
 ·rw [e];exact I.free
 ·obtain⟨_,o,ho,_⟩:=I.ok.funs.mem hb
  exact I.base.free b o ho (I.ok.frf b hb) fun z=>I.ok.exfs b z hb
theorem Inv.step {g':Array GenState}{t':Nat}{d':Drawn}{ch:List Addr}(I:Inv X pins U H s)
  (hch:∀ b∈ch,(b∈X.ex\/X.s₀.heap.objs.size<=b)/\b≠X.env.locals/\(∀ x c,X.env.cells.lookup x=some c->c≠b)/\∀ p∈X.pn++pins,p.1≠b)
  (keep:∀ b o,b≠X.env.locals->b∉X.fs->b∉ch->s.heap.get? b=some o->H b=none->h'.get? b=some o)
  (slot:∀ b o,b≠X.env.locals->b∈X.fs->b∉ch->s.heap.get? b=some o->H b=none->∃ sl,h'.get? b=some { o with slots:=sl }) (free:∀ b o,b∉ch->s.heap.get? b=some o->H b=none->H' b=none)
  (there:∀ b o,b∉ch->s.heap.get? b=some o->∃ o',h'.get? b=some o')
  (tups:∀ b xs,H b=some (.tup xs)->H' b=some (.tup xs)) (frzs:∀ b o u,H b=some (.frz o u)->H' b=some (.frz o u)) (tbls:∀ b ps,H b=some (.tbl ps)->∃ more,H' b=some (.tbl (ps++more)))
  (ns:∀ m,s.heap.Ns X.env.locals m->h'.Ns X.env.locals m) (hok:HOk X.prog X.w H' h') (hg:AllBare g') :
  Inv X pins U H' { s with heap:=h',gens:=g',drawn:=d',toks:=t' }:=by
 have neL:∀ b o,X.s₀.heap.get? b=some o->b≠X.env.locals:=fun b o e=>qB (qq (qk e) I.ok.above)
 have neC:∀ b o,X.s₀.heap.get? b=some o->b∉X.ex->b∉ch:=fun b o e hx hb=>by
  rcases (hch b hb).1 with z | z
  ·exact hx z
  ·exact absurd (qq (qk e) z) (Nat.lt_irrefl _)
 have cellK:∀ x c,X.env.cells.lookup x=some c->∀ v,s.heap.IsCell c v->h'.IsCell c v:=fun x c e v ⟨o,ho,hd⟩=>by
  have nch:c∉ch:=fun z=>(hch c z).2.2.1 x c e rfl
  by_cases hc:c∈X.fs
  ·obtain⟨sl,q⟩:=slot c o (I.cne x c e) hc nch ho (I.freeC x c e)
   exact⟨_,q,hd⟩
  ·exact⟨o,keep c o (I.cne x c e) hc nch ho (I.freeC x c e),hd⟩
 refine⟨I.ok,I.os,hg,⟨fun b o e n hb hx=>?_,fun b o e n hb hx=>?_,fun b o e n hx=>?_,fun b o e hx=>?_,fun b xs e=>tups b xs (I.base.tups b xs e),fun b o xs e=>frzs b o xs (I.base.frzs b o xs e),fun b ps e=>?_⟩,?_,fun x c e=>?_,?_,fun x c e=>?_,fun p hp=>?_,hok,I.len⟩
 ·exact keep b o (neL b o e) hb (neC b o e hx) (I.base.keep b o e n hb hx) (I.base.free b o e n hx)
 ·obtain⟨sl,e1⟩:=I.base.slot b o e n hb hx
  obtain⟨sl',e2⟩:=slot b _ (neL b o e) hb (neC b o e hx) e1 (I.base.free b o e n hx)
  exact⟨sl',e2⟩
 ·obtain⟨o',e1⟩:=I.base.there b o e hx
  exact free b o' (neC b o e hx) e1 (I.base.free b o e n hx)
 ·obtain⟨o',e1⟩:=I.base.there b o e hx
  exact there b o' (neC b o e hx) e1
 ·obtain⟨m1,e1⟩:=I.base.tbls b ps e
  obtain⟨m2,e2⟩:=tbls b _ e1
  exact⟨m1++m2,by rw [e2,Array.append_assoc]⟩
 ·obtain⟨m,hn,hl⟩:=I.loc
  refine⟨m,ns m hn,fun i x v e1 e2 e3=>?_⟩
  obtain⟨u,r,l⟩:=hl i x v e1 e2 e3
  refine⟨u,r,?_⟩
  rcases l with l | ⟨k,c,e,z⟩
  ·exact .inl l
  ·exact .inr ⟨k,c,e,cellK x c e _ z⟩
 ·obtain⟨v,z⟩:=I.cell x c e
  exact⟨v,cellK x c e v z⟩
 ·obtain⟨m,⟨o,_,_,ho,_⟩,_⟩:=I.loc
  exact free _ o (fun z=>(hch _ z).2.1 rfl) ho I.free
 ·obtain⟨v,o,ho,hd⟩:=I.cell x c e
  exact free c o (fun z=>(hch c z).2.2.1 x c e rfl) ho (I.freeC x c e)
 ·obtain⟨e,n,ne,nf,d⟩:=I.pin p hp
  have nch:p.1∉ch:=fun z=>(hch p.1 z).2.2.2 p hp rfl
  exact⟨keep p.1 p.2 ne nf nch e n,free p.1 p.2 nch e n,ne,nf,d⟩
theorem Inv.un {t':Nat}(I:Inv X pins U H s)(u:Un X.fs [] H H' s.heap h')(hok:HOk X.prog X.w H' h'):Inv X pins U H' { s with heap:=h',toks:=t' }:=by
 obtain⟨m,⟨o,es,ep,ho,r⟩,_⟩:=id I.loc
 obtain⟨sl,hL⟩:=u.any ho I.free (by simp)
 exact I.step (g':=s.gens) (d':=s.drawn) (ch:=[]) (fun _ z=>nomatch z) (fun b o _ hb _ e n=>u.keep b o e n hb (by simp)) (fun b o _ hb _ e n=>u.slot b o e n hb (by simp)) (fun b o _ e n=>u.free b o e n (by simp)) (fun b o _ e=>u.there b o e (by simp)) u.tups u.frzs u.tbls (fun m' hm=>by
  obtain⟨o',es',ep',ho',r'⟩:=hm
  rw [ho] at ho';cases ho'
  exact⟨_,es',ep',hL,r'⟩) hok I.bare
theorem Inv.call {g':Array GenState}{t':Nat}{d':Drawn}{ch:List Addr}(I:Inv X pins U H s)(u:Un (frs X.stack) ch H H' s.heap h')(hok:HOk X.prog X.w H' h')(hg:AllBare g')
  (hch:∀ b∈ch,(b∈X.ex\/X.s₀.heap.objs.size<=b)/\b≠X.env.locals/\(∀ x c,X.env.cells.lookup x=some c->c≠b)/\∀ p∈X.pn++pins,p.1≠b) :
  Inv X pins U H' { s with heap:=h',gens:=g',drawn:=d',toks:=t' }:=by
 obtain⟨m,⟨o,es,ep,ho,r⟩,_⟩:=id I.loc
 obtain⟨sl,hL⟩:=u.any ho I.free fun z=>(hch _ z).2.1 rfl
 exact I.step (ch:=ch) hch (fun b o hL hb hc e n=>u.keep b o e n (fun z=>(qf.mp (I.stkSub b z)).elim hL hb) hc) (fun b o _ _ hc e n=>u.any e n hc) (fun b o hc e n=>u.free b o e n hc) (fun b o hc e=>u.there b o e hc) u.tups u.frzs u.tbls (fun m' hm=>by
  obtain⟨o',es',ep',ho',r'⟩:=hm
  rw [ho] at ho';cases ho'
  exact⟨_,es',ep',hL,r'⟩) hok hg
theorem Inv.turned {t':Nat}{it:Addr}(I:Inv X pins U H s)(k:∀ b o,b≠it->s.heap.get? b=some o->h'.get? b=some o)(hn:H it=none)(hL:it≠X.env.locals)
  (h1:it∈X.ex\/X.s₀.heap.objs.size<=it) (h2:∀ x c,X.env.cells.lookup x=some c->c≠it) (h3:∀ p∈X.pn++pins,p.1≠it):Inv X pins U H { s with heap:=h',toks:=t' }:=by
 have nit:∀ b u,H b=some u->b≠it:=fun b u e z=>by rw [z,hn] at e;cases e
 refine I.step (g':=s.gens) (d':=s.drawn) (ch:=[it]) (fun b hb=>?_) (fun b o _ _ hc e _=>k b o (fun z=>hc (by simp [z])) e) (fun b o _ _ hc e _=>⟨o.slots,k b o (fun z=>hc (by simp [z])) e⟩) (fun _ _ _ _ n=>n)
  (fun b o hc e=>⟨o,k b o (fun z=>hc (by simp [z])) e⟩) (fun _ _ e=>e) (fun _ _ _ e=>e) (fun b ps e=>⟨#[],by rw [e];simp⟩) (fun m hm=>?_) (fun b u e=>?_) I.bare
 ·have e:b=it:=by simpa using hb
  subst e
  exact⟨h1,hL,h2,h3⟩
 ·obtain⟨o,es,ep,ho,r⟩:=hm
  exact⟨o,es,ep,k _ o (Ne.symm hL) ho,r⟩
 ·refine (I.hok b u e).stay (fun c v hc q=>k c v ?_ q) (fun _ q=>q) fun _ _ q=>q
  rcases hc with z | z
  ·rw [z];exact nit b u e
  ·exact nit c _ z
theorem Inv.tok (I:Inv X pins U H s)(t:Nat):Inv X pins U H { s with toks:=t }:=I.un (h':=s.heap) (t':=t) Un.refl I.hok
theorem Inv.kept {t':Nat}(I:Inv X pins U H s)(k:∀ b u,s.heap.get? b=some u->h'.get? b=some u):Inv X pins U H { s with heap:=h',toks:=t' }:=I.un (Un.kept k) (I.hok.kept k)
theorem Inv.laid {a:Addr}{o:HO}{t':Nat}(I:Inv X pins U H s)(k:∀ b u,s.heap.get? b=some u->h'.get? b=some u)(hp:s.heap.objs.size<=a)(new:zbo X.prog X.w (upd H a o) h' a o) :
  Inv X pins U (upd H a o) { s with heap:=h',toks:=t' }:=I.un (Un.laid k hp (I.hok.fresh hp)) (I.hok.laid k hp new)
theorem Inv.write {x e:Addr}{o:HO}{t':Nat}(I:Inv X pins U H s)(mu:Mut (H x))(he:e=x\/H e=some (.own x))(k:∀ b u,b≠e->s.heap.get? b=some u->h'.get? b=some u)(heo:∃ u,h'.get? e=some u)
  (new:zbo X.prog X.w (upd H x o) h' x o):Inv X pins U (upd H x o) { s with heap:=h',toks:=t' }:=I.un (Un.write mu he k heo) (I.hok.write mu he k heo new)
theorem Inv.weak {σ':List (Option V)}(I:Inv X pins U H s)(hl:σ'.length=U.length)(w:∀ (i:Nat) v,σ'[i]?=some (some v)->U[i]?=some (some v)):Inv X pins σ' H s :=
 ⟨I.ok,I.os,I.bare,I.base,let ⟨m,hn,hl'⟩:=I.loc;⟨m,hn,fun i x v e1 e2 e3=>hl' i x v e1 (w i v e2) e3⟩,I.cell,I.free,I.freeC,I.pin,I.hok,hl.trans I.len⟩
theorem Inv.pins_of {pins':List (Addr×Obj)}(I:Inv X pins U H s)(h:∀ p∈pins',s.heap.get? p.1=some p.2/\H p.1=none/\p.1≠X.env.locals/\p.1∉X.fs/\∀ v,p.2.data≠.cell v):Inv X pins' U H s :=
 ⟨I.ok,I.os,I.bare,I.base,I.loc,I.cell,I.free,I.freeC,fun p hp=>(qu.mp hp).elim (fun z=>I.pin p (List.mem_append_left _ z)) (h p),I.hok,I.len⟩
theorem zmf {N:List Str}(hN:N.Nodup){i j:Nat}{x:Str}(a:N[i]?=some x)(b:N[j]?=some x):i=j:=by
 obtain⟨h1,e1⟩:=qP.mp a
 obtain⟨h2,e2⟩:=qP.mp b
 exact (List.getElem_inj hN).mp (e1.trans e2.symm)
theorem zlf {M:Model}{A:Around}{E:Value->Shared->Prop}{i:Nat}{x:Str}{v:V}{u:Value}{Q:Unit->Shared->Prop}(I:Inv X pins U H s)(hN:X.N.Nodup)(hi:X.N[i]?=some x)(hx:Loc X.env.scope x)(r:RelV v u)
  (h:∀ s',Inv X pins (U.set i (some v)) H s'->(∃ a,Heap.SameBut a s.heap s'.heap/\(a=X.env.locals\/X.env.cells.lookup x=some a))->Q () s') (hf:X.fn x=true\/X.env.scope.names.lookup x=some .local:=by first | exact .inl rfl | exact .inr rfl | assumption):wpAny M A (storeName X.env x u) Q E s:=by
 obtain⟨m,hn,hl⟩:=id I.loc
 have hcls:(X.env.scope.kind==.class||(X.env.scope.kind==.module&&X.env.locals != X.env.globals))=false:=by rw [I.ok.kind];rfl
 have hiσ:i<U.length:=by rw [I.len];exact (qP.mp hi).1
 have cne:=I.cne
 have tracked:∀ {a:Addr} {h':Heap},(∃ o,s.heap.get? a=some o/\H a=none)->Heap.SameBut a s.heap h'->HOk X.prog X.w H h':=fun {a h'} ha hs b ob e=>by
  obtain⟨_,_,hfree⟩:=ha
  refine (I.hok b ob e).stay (fun c w' hc q=>(hs.2 c ?_).trans q) (fun _ q=>q) fun _ _ q=>q
  rintro rfl
  rcases hc with rfl | hc
  ·rw [hfree] at e;cases e
  ·rw [hfree] at hc;cases hc
 rcases hx with hk | hk
 ·refine wpAny_storeName_local hk hn (fun h' hn' hs=>?_) hcls
  obtain⟨oL,_,_,hoL,_⟩:=id hn
  refine h _ ⟨I.ok,I.os,I.bare,⟨fun b o e n hb hx=>?_,fun b o e n hb hx=>?_,I.base.free,fun b o e hx=>?_,I.base.tups,I.base.frzs,I.base.tbls⟩,⟨_,hn',fun j y v' e1 e2 e3=>?_⟩,fun y c e=>?_,I.free,I.freeC,fun p hp=>?_,tracked ⟨oL,hoL,I.free⟩ hs,by simpa using I.len⟩ ⟨_,hs,.inl rfl⟩
  ·exact (hs.2 b (qB (qq (qk e) I.ok.above))).trans (I.base.keep b o e n hb hx)
  ·obtain⟨sl,e1⟩:=I.base.slot b o e n hb hx
   exact⟨sl,(hs.2 b (qB (qq (qk e) I.ok.above))).trans e1⟩
  ·obtain⟨o',e1⟩:=I.base.there b o e hx
   exact⟨o',(hs.2 b (qB (qq (qk e) I.ok.above))).trans e1⟩
  ·by_cases hj:j=i
   ·subst hj
    rw [hi] at e1;cases e1
    rw [qC hiσ] at e2
    cases e2
    exact⟨u,r,.inl ⟨hk,by simp⟩⟩
   ·rw [qH (Ne.symm hj)] at e2
    obtain⟨u',r',q⟩:=hl j y v' e1 e2 e3
    refine⟨u',r',?_⟩
    rcases q with ⟨k,e⟩ | ⟨k,c,e,z⟩
    ·refine .inl ⟨k,?_⟩
     have:y≠x:=fun e=>hj (zmf hN e1 (e▸hi))
     simp [this,e]
    ·exact .inr ⟨k,c,e,z.sameBut hs (cne y c e)⟩
  ·obtain⟨w',z⟩:=I.cell y c e
   exact⟨w',z.sameBut hs (cne y c e)⟩
  ·obtain⟨e,n,ne,nf,d⟩:=I.pin p hp
   exact⟨(hs.2 p.1 ne).trans e,n,ne,nf,d⟩
 ·have hfn:X.fn x=true:=by
   rcases hf with z | z
   ·exact z
   ·rw [z] at hk;cases hk
  obtain⟨c,hc⟩:=I.ok.has x (.inl hk)
  obtain⟨w',z⟩:=I.cell x c hc
  refine wpAny_storeName_cell I.ok.kind hk hc z (fun h' hc' hs=>?_)
  obtain⟨oc,hoc,hocd⟩:=id z
  refine h { s with heap:=h' } ⟨I.ok,I.os,I.bare,⟨fun b o e n hb hx=>?_,fun b o e n hb hx=>?_,I.base.free,fun b o e hx=>?_,I.base.tups,I.base.frzs,I.base.tbls⟩,⟨m,hn.sameBut hs (Ne.symm (cne x c hc)),fun j y v' e1 e2 e3=>?_⟩,fun y c' e=>?_,I.free,I.freeC,fun p hp=>?_,tracked ⟨oc,hoc,I.freeC x c hc⟩ hs,by simpa using I.len⟩ ⟨c,hs,.inr hc⟩
  ·exact (hs.2 b (qB (qq (qk e) (I.ok.cab x c hfn hc)))).trans (I.base.keep b o e n hb hx)
  ·obtain⟨sl,e1⟩:=I.base.slot b o e n hb hx
   exact⟨sl,(hs.2 b (qB (qq (qk e) (I.ok.cab x c hfn hc)))).trans e1⟩
  ·obtain⟨o',e1⟩:=I.base.there b o e hx
   exact⟨o',(hs.2 b (qB (qq (qk e) (I.ok.cab x c hfn hc)))).trans e1⟩
  ·by_cases hj:j=i
   ·subst hj
    rw [hi] at e1;cases e1
    rw [qC hiσ] at e2
    cases e2
    exact⟨u,r,.inr ⟨.inl hk,c,hc,hc'⟩⟩
   ·rw [qH (Ne.symm hj)] at e2
    obtain⟨u',r',q⟩:=hl j y v' e1 e2 e3
    refine⟨u',r',?_⟩
    rcases q with q | ⟨k,c',e,z'⟩
    ·exact .inl q
    ·refine .inr ⟨k,c',e,z'.sameBut hs ?_⟩
     rintro rfl
     exact hj (zmf hN e1 (I.ok.inj _ _ _ e hc▸hi))
  ·by_cases hcc:c'=c
   ·subst hcc;exact⟨_,hc'⟩
   ·obtain⟨w2,z2⟩:=I.cell y c' e
    exact⟨w2,z2.sameBut hs hcc⟩
  ·obtain⟨e,n,ne,nf,d⟩:=I.pin p hp
   refine⟨(hs.2 p.1 ?_).trans e,n,ne,nf,d⟩
   intro q
   rw [q,hoc] at e
   have q':oc=p.2:=qN e
   exact d w' (by rw [<- q'];exact hocd)
theorem zfK {M:Model}{A:Around}{E:Value->Shared->Prop}{i:Nat}{x:Str}{v:V}{u:Value}{Q:Unit->Shared->Prop}(I:Inv X pins U H s)(hN:X.N.Nodup)(hi:X.N[i]?=some x)(hx:Loc X.env.scope x)(r:RelV v u)
  (h:∀ s',Inv X pins (U.set i (some v)) H s'->Q () s') (hf:X.fn x=true\/X.env.scope.names.lookup x=some .local:=by first | exact .inl rfl | exact .inr rfl | assumption):wpAny M A (storeName X.env x u) Q E s :=
 zlf I hN hi hx r (fun s' I' _=>h s' I') hf
theorem Inv.call' {s':Shared}{ch:List Addr}(I:Inv X pins U H s)(ho:s'.os=s.os)(u:Un (frs X.stack) ch H H' s.heap s'.heap)(hok:HOk X.prog X.w H' s'.heap)(hg:AllBare s'.gens)
  (hch:∀ b∈ch,(b∈X.ex\/X.s₀.heap.objs.size<=b)/\b≠X.env.locals/\(∀ x c,X.env.cells.lookup x=some c->c≠b)/\∀ p∈X.pn++pins,p.1≠b):Inv X pins U H' s':=by
 obtain⟨h',g',d',t',o'⟩:=s'
 have e:o'=s.os:=ho
 subst e
 exact I.call (g':=g') (t':=t') (d':=d') u hok hg hch
end
abbrev XK:=Value->Option Addr->Hp->Prop
abbrev St:=List (Option V)
abbrev VK:=V->Hp->Prop
abbrev TE:=St->Hp->VK->Prop
abbrev TT:=St->Hp->(Bool->Hp->Prop)->Prop
abbrev TA:=St->Hp->(List V->Hp->Prop)->Prop
structure Ends where
 nx:St->Hp->Prop
 rt:VK
 bk:St->Hp->Prop:=fun _ _=>False
 ct:St->Hp->Prop:=fun _ _=>False
abbrev TS:=Ends->St->Hp->Prop
def EP (X:Cx)(pins:List (Addr×Obj))(U:St)(Q:VK)(u:Value)(s':Shared):Prop:=∃ v H',Inv X pins U H' s'/\RelV v u/\Q v H'
def TP (X:Cx)(pins:List (Addr×Obj))(U:St)(Q:Bool->Hp->Prop)(b:Bool)(s':Shared):Prop:=∃ H',Inv X pins U H' s'/\Q b H'
def AP (X:Cx)(pins:List (Addr×Obj))(U:St)(Q:List V->Hp->Prop)(us:List Value)(s':Shared):Prop:=∃ vs H',Inv X pins U H' s'/\Vals vs us/\Q vs H'
def SP (X:Cx)(pins:List (Addr×Obj))(D:Ends)(f:Flow)(s':Shared):Prop :=
 match f with
 | .next=>∃ σ' H',Inv X pins σ' H' s'/\D.nx σ' H'
 | .brk=>∃ σ' H',Inv X pins σ' H' s'/\D.bk σ' H'
 | .cont=>∃ σ' H',Inv X pins σ' H' s'/\D.ct σ' H'
 | .ret u=>∃ v σ' H',Inv X pins σ' H' s'/\RelV v u/\D.rt v H'
def PE (X:Cx)(e:Expr)(t:TE):Prop :=
 ∀ (pins:List (Addr×Obj)) (s:Shared) (U:St) (H:Hp) (Q:VK),Inv X pins U H s->t U H Q->wpAny (model X.prog X.w) X.A (eval e X.env) (EP X pins U Q) X.xe s
def PT (X:Cx)(e:Expr)(t:TT):Prop :=
 ∀ (pins:List (Addr×Obj)) (s:Shared) (U:St) (H:Hp) (Q:Bool->Hp->Prop),Inv X pins U H s->t U H Q->wpAny (model X.prog X.w) X.A (isTrue e X.env (eval e X.env)) (TP X pins U Q) X.xe s
def PW (X:Cx)(e:Expr)(t:TT):Prop :=
 ∀ (whole:Sem Value) (pins:List (Addr×Obj)) (s:Shared) (U:St) (H:Hp) (Q:Bool->Hp->Prop),Inv X pins U H s->t U H Q->wpAny (model X.prog X.w) X.A (isTrue e X.env whole) (TP X pins U Q) X.xe s
def PA (X:Cx)(es:List Expr)(t:TA):Prop :=
 ∀ (pos:Pos) (pins:List (Addr×Obj)) (s:Shared) (U:St) (H:Hp) (Q:List V->Hp->Prop),Inv X pins U H s->t U H Q->wpAny (model X.prog X.w) X.A (spliced (backTo pos (starEach es X.env))) (AP X pins U Q) X.xe s
def PS (X:Cx)(st:Stmt)(t:TS):Prop :=
 ∀ (pins:List (Addr×Obj)) (s:Shared) (U:St) (H:Hp) (D:Ends),Inv X pins U H s->t D U H->wpAny (model X.prog X.w) X.A (exec st X.env) (SP X pins D) X.xe s
def PSs (X:Cx)(st:List Stmt)(t:TS):Prop :=
 ∀ (pins:List (Addr×Obj)) (s:Shared) (U:St) (H:Hp) (D:Ends),Inv X pins U H s->t D U H->wpAny (model X.prog X.w) X.A (execs st X.env) (SP X pins D) X.xe s
theorem thn {α:Type}{t:Sem α}{Q Q':α->Shared->Prop}{M:Model}{A:Around}{E:Value->Shared->Prop}{s:Shared}(h:wpAny M A t Q E s)(hQ:∀ a s,Q a s->Q' a s):wpAny M A t Q' E s:=wpAny_mono h hQ fun _ _ x=>x
section
variable {X:Cx}
def zuO (i:Nat):TE:=fun U H Q=>∃ v,U[i]?=some (some v)/\Q v H
def tC (v:V):TE:=fun _ H Q=>Q v H
theorem zuB {i:Nat}{x:Str}{pos:Pos}(hN:X.N[i]?=some x)(hv:Vis X.env.scope x)(hd:(x==("__debug__":Str))=false:=by decide)(hcd:(x==("__classdict__":Str))=false:=by decide):PE X (.Name x pos) (zuO i):=by
 intro pins s U H Q I h
 obtain⟨v,e,h⟩:=h
 obtain⟨m,hn,hl⟩:=I.loc
 obtain⟨u,r,l⟩:=hl i x v hN e hv
 have fin:EP X pins U Q u s:=⟨v,H,I,r,h⟩
 rcases l with ⟨hk,hm⟩ | ⟨hk,c,hc,hcell⟩
 ·exact wpAny_Name (wpAny_loadName_local I.ok.kind hk hn hm fin) hd
 ·rcases hk with hk | hk
  ·exact wpAny_Name (wpAny_loadName_cell I.ok.kind hk hc hcell fin) hd
  ·exact wpAny_Name (wpAny_loadName_free I.ok.kind hk hc hcell fin hcd) hd
theorem zmu {i j pos}:PE X (.Constant (.int i) j pos) (tC (.int i)):=fun _ _ _ H _ I h=>wpAny_Constant_int ⟨.int i,H,I.tok _,⟨_,rfl⟩,h⟩
theorem zxm {b j pos}:PE X (.Constant (.bool b) j pos) (tC (.bl b)):=fun _ _ _ H _ I h=>Constant_bool ⟨.bl b,H,I,rfl,h⟩
theorem zuv {j pos}:PE X (.Constant .none j pos) (tC .non):=fun _ _ _ H _ I h=>Constant_none ⟨.non,H,I,rfl,h⟩
theorem zud {x j pos}:PE X (.Constant (.str x) j pos) (tC (.str x)):=fun _ _ _ H _ I h=>Calls.Constant_str ⟨.str x,H,I.tok _,⟨_,rfl⟩,h⟩
def Gl (X:Cx)(x:Str):Prop:=X.env.kindOf x=some .globalImplicit
theorem zgI {E:Value->Shared->Prop}{pins:List (Addr×Obj)}{s:Shared}{U:St}{H:Hp}{x:Str}{u:Value}{pos:Pos}{Q:Value->Shared->Prop}(I:Inv X pins U H s)(hg:Gl X x)(hm:X.mg x=some u)(h:Q u s)
  (hd:(x==("__debug__":Str))=false:=by decide):wpAny (model X.prog X.w) X.A (eval (.Name x pos) X.env) Q E s :=
 Calls.Name_function_global I.ok.kind hg (Calls.loadGlobal_global (by rw [I.ok.glob];exact I.mod.glob.keeps I.bk) hm h) hd
theorem zcX {E:Value->Shared->Prop}{pins:List (Addr×Obj)}{s:Shared}{U:St}{H:Hp}{x:Str}{u:Value}{pos:Pos}{Q:Value->Shared->Prop}(I:Inv X pins U H s)(hg:Gl X x)(hm:X.mg x=none)(hv:bootBuiltins x=some u)(h:Q u s)
  (hn:x≠"__name__":=by decide) (hd:(x==("__debug__":Str))=false:=by decide):wpAny (model X.prog X.w) X.A (eval (.Name x pos) X.env) Q E s:=by
 obtain⟨mb,h1,h2⟩:=I.mod.blt
 exact Calls.Name_function_global I.ok.kind hg (Calls.loadGlobal_builtin (by rw [I.ok.glob];exact I.mod.glob.keeps I.bk) hm (by rw [I.ok.blt];exact h1.keeps I.bk) ((h2 x hn).trans hv) h) hd
theorem znH {x:Str}{v:V}{u:Value}{pos:Pos}(hg:Gl X x)(hm:X.mg x=some u)(r:RelV v u)(hd:(x==("__debug__":Str))=false:=by decide):PE X (.Name x pos) (tC v) :=
 fun _ _ _ H _ I h=>zgI I hg hm ⟨v,H,I,r,h⟩ hd
theorem zsQ {x:Str}{v:V}{u:Value}{pos:Pos}(hg:Gl X x)(hm:X.mg x=none)(hv:bootBuiltins x=some u)(r:RelV v u)(hn:x≠"__name__":=by decide)(hd:(x==("__debug__":Str))=false:=by decide):PE X (.Name x pos) (tC v) :=
 fun _ _ _ H _ I h=>zcX I hg hm hv ⟨v,H,I,r,h⟩ hn hd
variable {a b:Expr}{ta tb:TE}{pos:Pos}
def tB (t:TE):TT:=fun U H Q=>t U H fun x H1=>∃ c,x=.bl c/\Q c H1
theorem zvq {e:Expr}{t:TE}(h:PE X e t)(he:∀ whole,isTrue e X.env whole=(do let v <- whole;standAt e.pos;holding [v] (truthy v)):=by intro _;rfl):PT X e (tB t):=by
 intro pins s U H Q I hw
 refine isTrue_plain (thn (h pins s U H _ I hw) fun v s1 ⟨x,H1,I1,r1,q1⟩=>?_) (he _)
 obtain⟨d,rfl,q⟩:=q1
 cases r1
 exact wpAny_truthy_bool ⟨H1,I1,q⟩
variable {tA tB':TT}{rest:List Expr}
def zx5 (t u:TT):TT:=fun U H Q=>t U H fun c H1=>if c=true then u U H1 Q else Q false H1
def tOr (t u:TT):TT:=fun U H Q=>t U H fun c H1=>if c=true then Q true H1 else u U H1 Q
def zxZ (t:TT):TT:=fun U H Q=>t U H fun c H1=>Q (!c) H1
theorem zsR (ha:PT X a tA):PW X (.BoolOp .And [a] pos) tA:=by
 intro wh pins s U H Q I h
 refine isTrue_and (thn (ha pins s U H Q I h) fun c s1 e=>?_)
 cases c with
 | true=>exact isTrue_and_nil e
 | false=>exact e
theorem zu5 (ha:PT X a tA):PW X (.BoolOp .Or [a] pos) tA:=by
 intro wh pins s U H Q I h
 refine isTrue_or (thn (ha pins s U H Q I h) fun c s1 e=>?_)
 cases c with
 | false=>exact isTrue_or_nil e
 | true=>exact e
theorem zvi (ha:PT X a tA)(hb:PW X (.BoolOp .And (b::rest) pos) tB'):PW X (.BoolOp .And (a::b::rest) pos) (zx5 tA tB'):=by
 intro wh pins s U H Q I h
 refine isTrue_and (thn (ha pins s U H _ I h) fun c s1 ⟨H1,I1,q1⟩=>?_)
 cases c with
 | true=>exact hb wh pins s1 U H1 Q I1 q1
 | false=>exact⟨H1,I1,q1⟩
theorem zxv (ha:PT X a tA)(hb:PW X (.BoolOp .Or (b::rest) pos) tB'):PW X (.BoolOp .Or (a::b::rest) pos) (tOr tA tB'):=by
 intro wh pins s U H Q I h
 refine isTrue_or (thn (ha pins s U H _ I h) fun c s1 ⟨H1,I1,q1⟩=>?_)
 cases c with
 | true=>exact⟨H1,I1,q1⟩
 | false=>exact hb wh pins s1 U H1 Q I1 q1
theorem zu4 (ha:PT X a tA):PT X (.UnaryOp .Not a pos) (zxZ tA):=by
 intro pins s U H Q I h
 exact isTrue_not (ha pins s U H (fun c H1=>Q (!c) H1) I h)
def zwz (ta tb:TE):TE:=fun U H Q=>ta U H fun x H1=>∃ c,x=.bl c/\if c=true then tb U H1 Q else Q (.bl false) H1
def zxM (ta tb:TE):TE:=fun U H Q=>ta U H fun x H1=>∃ c,x=.bl c/\if c=true then Q (.bl true) H1 else tb U H1 Q
def zwF (ta:TE):TE:=fun U H Q=>ta U H fun x H1=>∃ c,x=.bl c/\Q (.bl (!c)) H1
theorem zug {op}{t:TE}(h:PE X a t):PE X (.BoolOp op [a] pos) t:=fun pins s U H Q I hw=>BoolOp_one (h pins s U H Q I hw)
theorem zvk (ha:PE X a ta)(hb:PE X (.BoolOp .And (b::rest) pos) tb):PE X (.BoolOp .And (a::b::rest) pos) (zwz ta tb):=by
 intro pins s U H Q I h
 refine BoolOp_and (thn (ha pins s U H _ I h) fun v s1 ⟨x,H1,I1,r1,q1⟩=>?_)
 obtain⟨c,rfl,q1⟩:=q1
 cases r1
 refine wpAny_truthy_bool ?_
 cases c with
 | true=>exact hb pins s1 U H1 Q I1 q1
 | false=>exact⟨.bl false,H1,I1,rfl,q1⟩
theorem zwl (ha:PE X a ta)(hb:PE X (.BoolOp .Or (b::rest) pos) tb):PE X (.BoolOp .Or (a::b::rest) pos) (zxM ta tb):=by
 intro pins s U H Q I h
 refine BoolOp_or (thn (ha pins s U H _ I h) fun v s1 ⟨x,H1,I1,r1,q1⟩=>?_)
 obtain⟨c,rfl,q1⟩:=q1
 cases r1
 refine wpAny_truthy_bool ?_
 cases c with
 | false=>exact hb pins s1 U H1 Q I1 q1
 | true=>exact⟨.bl true,H1,I1,rfl,q1⟩
theorem zvN (ha:PE X a ta):PE X (.UnaryOp .Not a pos) (zwF ta):=by
 intro pins s U H Q I h
 refine UnaryOp_ (thn (ha pins s U H _ I h) fun v s1 ⟨x,H1,I1,r1,q1⟩=>?_)
 obtain⟨c,rfl,q1⟩:=q1
 cases r1
 exact not_of (wpAny_truthy_bool ⟨.bl (!c),H1,I1,rfl,q1⟩)
end
def SqL (K:PySem.W.Frag)(H:Hp)(a:Addr)(xs:List V):Prop :=
 Rd H a (.lst xs) \/
  ∃ (o:Obj) (its:Array Value) (n:Nat),K.lookup a=some o/\o.cls=.type "list"/\o.dict=none/\o.data=.seq its n/\its.size<=sizeLine/\Vals xs its.toList
def SqT (K:PySem.W.Frag)(H:Hp)(a:Addr)(xs:List V):Prop :=
 Rd H a (.tup xs) \/
  ∃ (o:Obj) (its:Array Value) (n:Nat),K.lookup a=some o/\o.cls=.type "tuple"/\o.data=.seq its n/\its.size<=sizeLine/\Vals xs its.toList
def zxQ:Value->Option V
 | .none=>some .non
 | .bool b=>some (.bl b)
 | .int i _=>some (.int i)
 | .str x _=>some (.str x)
 | .bytes b _=>some (.byt b)
 | .float b _=>some (.flt b)
 | .ref a=>some (.ref a)
 | .type n=>some (.ty n)
 | _=>none
theorem RelV.abs {x:V}{u:Value}(r:RelV x u):zxQ u=some x:=by
 cases x with
 | non=>cases r;rfl
 | bl _=>cases r;rfl
 | int _=>obtain⟨t,rfl⟩:=r;rfl
 | str _=>obtain⟨t,rfl⟩:=r;rfl
 | byt _=>obtain⟨t,rfl⟩:=r;rfl
 | flt _=>obtain⟨t,rfl⟩:=r;rfl
 | ref _=>cases r;rfl
 | ty _=>cases r;rfl
theorem RelV.inj {x y:V}{u:Value}(r:RelV x u)(q:RelV y u):x=y:=qN (r.abs.symm.trans q.abs)
theorem Vals.inj:∀ {xs ys:List V} {us:List Value},Vals xs us->Vals ys us->xs=ys
 | _,_,_,.nil,.nil=>rfl
 | _,_,_,.cons r t,.cons r' t'=>by rw [r.inj r',Vals.inj t t']
section
variable {X:Cx}{pins:List (Addr×Obj)}{U:St}{H:Hp}{s:Shared}{a:Addr}{xs ys:List V}
theorem SqL.of {K:PySem.W.Frag}(h:H a=some (.lst xs)):SqL K H a xs:=.inl (.inl h)
theorem SqT.of {K:PySem.W.Frag}(h:H a=some (.tup xs)):SqT K H a xs:=.inl (.inl h)
theorem Inv.list (I:Inv X pins U H s)(h:SqL X.K H a xs):∃ its:List Value,Vals xs its/\PlainL s.heap a its.toArray/\xs.length<=sizeLine:=by
 rcases h with h | ⟨o,its,n,hk,hc,hd,hs,hz,r⟩
 ·obtain⟨z,its,n,r,e⟩:=h.ok I.hok
  exact⟨its,r,⟨_,n,e,rfl,rfl,rfl⟩,z⟩
 ·refine⟨its.toList,r,⟨o,n,I.kIn a o hk,hc,hd,by simpa using hs⟩,?_⟩
  have e:=r.length
  simp only [qG] at e
  omega
theorem Inv.tuple (I:Inv X pins U H s)(h:SqT X.K H a xs):∃ its:List Value,Vals xs its/\IsTup s.heap a its.toArray/\xs.length<=sizeLine:=by
 rcases h with h | ⟨o,its,n,hk,hc,hs,hz,r⟩
 ·obtain⟨z,its,r,p⟩:=h.ok I.hok
  exact⟨its,r,p,z⟩
 ·refine⟨its.toList,r,⟨o,I.kIn a o hk,hc,n,by simpa using hs⟩,?_⟩
  have e:=r.length
  simp only [qG] at e
  omega
theorem Inv.list_inj (I:Inv X pins U H s)(h:SqL X.K H a xs)(h':SqL X.K H a ys):xs=ys:=by
 obtain⟨its,r,⟨o,n,e,_,_,d⟩,_⟩:=I.list h
 obtain⟨its',r',⟨o',n',e',_,_,d'⟩,_⟩:=I.list h'
 rw [e] at e';cases e'
 rw [d] at d'
 injection d' with d1 _
 have:its=its':=by simpa using congrArg Array.toList d1
 subst this
 exact r.inj r'
theorem Inv.tuple_inj (I:Inv X pins U H s)(h:SqT X.K H a xs)(h':SqT X.K H a ys):xs=ys:=by
 obtain⟨its,r,⟨o,e,_,n,d⟩,_⟩:=I.tuple h
 obtain⟨its',r',⟨o',e',_,n',d'⟩,_⟩:=I.tuple h'
 rw [e] at e';cases e'
 rw [d] at d'
 injection d' with d1 _
 have:its=its':=by simpa using congrArg Array.toList d1
 subst this
 exact r.inj r'
end
abbrev Cx.wish (X:Cx)(E:Value->Shared->Prop):Cx:={ X with xe:=E }
abbrev Cx.nox (X:Cx):Cx:=X.wish fun _ _=>False
theorem Cx.Ok.wish {X:Cx}(ok:X.Ok)(E:Value->Shared->Prop):(X.wish E).Ok :=
 ⟨ok.mod,ok.kind,ok.glob,ok.blt,ok.above,ok.inj,ok.has,ok.cab,ok.hd,ok.frames,ok.stk,ok.exf,ok.bs,ok.bsz,ok.noex,ok.exfs,ok.funs,ok.frf⟩
theorem Cx.Ok.unwish {X:Cx}{E:Value->Shared->Prop}(ok:(X.wish E).Ok):X.Ok :=
 ⟨ok.mod,ok.kind,ok.glob,ok.blt,ok.above,ok.inj,ok.has,ok.cab,ok.hd,ok.frames,ok.stk,ok.exf,ok.bs,ok.bsz,ok.noex,ok.exfs,ok.funs,ok.frf⟩
section
variable {X:Cx}{pins:List (Addr×Obj)}{U:St}{H:Hp}{s:Shared}{E:Value->Shared->Prop}
theorem Inv.wish (I:Inv X pins U H s)(E:Value->Shared->Prop):Inv (X.wish E) pins U H s:=⟨I.ok.wish E,I.os,I.bare,I.base,I.loc,I.cell,I.free,I.freeC,I.pin,I.hok,I.len⟩
theorem Inv.unwish (I:Inv (X.wish E) pins U H s):Inv X pins U H s:=⟨I.ok.unwish,I.os,I.bare,I.base,I.loc,I.cell,I.free,I.freeC,I.pin,I.hok,I.len⟩
theorem SP.unwish {D:Ends}{f:Flow}{s':Shared}(h:SP (X.wish E) pins D f s'):SP X pins D f s':=by
 cases f with
 | next=>obtain⟨σ',H',I,q⟩:=h;exact⟨σ',H',I.unwish,q⟩
 | brk=>obtain⟨σ',H',I,q⟩:=h;exact⟨σ',H',I.unwish,q⟩
 | cont=>obtain⟨σ',H',I,q⟩:=h;exact⟨σ',H',I.unwish,q⟩
 | ret u=>obtain⟨v,σ',H',I,r,q⟩:=h;exact⟨v,σ',H',I.unwish,r,q⟩
theorem PSs.nox {st:List Stmt}{t:TS}(h:PSs X.nox st t):PSs X st t:=fun pins s U H D I hw =>
 wpAny_mono (h pins s U H D (I.wish _) hw) (fun _ _ q=>q.unwish) fun _ _ z=>False.elim z
end
section
variable {X:Cx}{st:Stmt}{rest:List Stmt}{t u:TS}{e:Expr}{te:TE}{pos:Pos}
def zwX:TS:=fun D U H=>D.nx U H
def zyp (t u:TS):TS:=fun D U H=>t { D with nx:=u D } U H
theorem zt3:PSs X [] zwX:=fun _ _ U H _ I h=>wpAny_execs_nil ⟨U,H,I,h⟩
theorem zrx (h1:PS X st t)(h2:PSs X rest u):PSs X (st::rest) (zyp t u):=by
 intro pins s U H D I h
 refine wpAny_execs_cons (thn (h1 pins s U H { D with nx:=u D } I h) fun f s1 q=>?_)
 cases f with
 | next =>
  obtain⟨σ',H',I',q⟩:=q
  exact h2 pins s1 σ' H' D I' q
 | ret v=>exact q
 | brk=>exact q
 | cont=>exact q
theorem ztE (h1:PS X st t):PSs X [st] t:=by
 intro pins s U H D I h
 refine wpAny_execs_cons (thn (h1 pins s U H D I h) fun f s1 q=>?_)
 cases f with
 | next=>exact wpAny_execs_nil q
 | ret v=>exact q
 | brk=>exact q
 | cont=>exact q
theorem Inv.quiet {pins:List (Addr×Obj)}{U:St}{H:Hp}{s:Shared}(I:Inv X pins U H s):interactive X.env=false:=by simp [interactive,I.ok.kind]
def zwq (te:TE):TS:=fun D U H=>te U H fun _ H1=>D.nx U H1
theorem ztP (he:PE X e te)(hs:swapsWith e none pos.line X.env=pure false:=by rfl):PS X (.Expr e pos) (zwq te):=by
 intro pins s U H D I h
 exact wpAny_Expr_any (thn (he pins s U H _ I h) fun v s1 ⟨x,H1,I1,r1,q1⟩=>⟨U,H1,I1,q1⟩) I.quiet hs
def zxG (te:TE):TS:=fun D U H=>te U H D.rt
theorem zvG (he:PE X e te):PS X (.Return (some e) pos) (zxG te):=by
 intro pins s U H D I h
 exact wpAny_Return_some (thn (he pins s U H _ I h) fun v s1 ⟨x,H1,I1,r1,q1⟩=>⟨x,U,H1,I1,r1,q1⟩)
def zx1 (c:TT)(t u:TS):TS:=fun D U H=>c U H fun b H1=>if b=true then t D U H1 else u D U H1
theorem zwQ {c:Expr}{a b:List Stmt}{tc:TT}(hc:PT X c tc)(ha:PSs X a t)(hb:PSs X b u):PS X (.If c a b pos) (zx1 tc t u):=by
 intro pins s U H D I h
 refine wpAny_If (thn (hc pins s U H _ I h) fun d s1 ⟨H1,I1,q1⟩=>?_)
 cases d with
 | true=>exact ha pins s1 U H1 D I1 q1
 | false=>exact hb pins s1 U H1 D I1 q1
def zuT:TS:=fun _ _ _=>False
theorem zrZ:PS X st zuT:=fun _ _ _ _ _ _ h=>h.elim
end
abbrev TG:=V->St->Hp->(St->Hp->Prop)->Prop
abbrev TGs:=List V->St->Hp->(St->Hp->Prop)->Prop
def PG (X:Cx)(target:Expr)(t:TG):Prop :=
 ∀ (pins:List (Addr×Obj)) (s:Shared) (U:St) (H:Hp) (v:V) (u:Value) (Q:St->Hp->Prop),Inv X pins U H s->RelV v u->t v U H Q ->
  wpAny (model X.prog X.w) X.A (assign target X.env u) (fun _ s'=>∃ σ' H',Inv X pins σ' H' s'/\Q σ' H') X.xe s
def PGs (X:Cx)(ts:List Expr)(t:TGs):Prop :=
 ∀ (pins:List (Addr×Obj)) (s:Shared) (U:St) (H:Hp) (vs:List V) (us:List Value) (Q:St->Hp->Prop),Inv X pins U H s->Vals vs us->t vs U H Q ->
  wpAny (model X.prog X.w) X.A (assignInOrder ((assignEach ts X.env).map (·.2)) us) (fun _ s'=>∃ σ' H',Inv X pins σ' H' s'/\Q σ' H') X.xe s
abbrev zrz:=V->V->V->Hp->(Hp->Prop)->Prop
def zvn (X:Cx)(t:zrz):Prop :=
 ∀ (pins:List (Addr×Obj)) (s:Shared) (U:St) (H:Hp) (o i v:V) (ov iv u:Value) (Q:Hp->Prop),Inv X pins U H s->RelV o ov->RelV i iv->RelV v u->t o i v H Q ->
  wpAny (model X.prog X.w) X.A (setItem ov iv u) (fun _ s'=>∃ H',Inv X pins U H' s'/\Q H') X.xe s
abbrev TIp:=V->V->Hp->VK->Prop
def PIp (X:Cx)(op:Operator)(t:TIp):Prop :=
 ∀ (pins:List (Addr×Obj)) (s:Shared) (U:St) (H:Hp) (x y:V) (v u:Value) (Q:VK),Inv X pins U H s->RelV x v->RelV y u->t x y H Q ->
  wpAny (model X.prog X.w) X.A (inplaceOp op v u) (EP X pins U Q) X.xe s
section
variable {X:Cx}{pos:Pos}
def zE (i:Nat):TG:=fun v U H Q=>Q (U.set i (some v)) H
theorem zar {i:Nat}{x:Str}(hN:X.N.Nodup)(hi:X.N[i]?=some x)(hx:Loc X.env.scope x)(hf:X.fn x=true\/X.env.scope.names.lookup x=some .local:=by first | exact .inl rfl | exact .inr rfl | assumption):PG X (.Name x pos) (zE i):=by
 intro pins s U H v u Q I r h
 exact wpAny_assign_Name (zfK I hN hi hx r (fun s' I'=>⟨_,H,I',h⟩) hf)
def zc9:TGs:=fun vs U H Q=>vs=[]/\Q U H
def zaI (t:TG)(u:TGs):TGs:=fun vs U H Q=>∃ v r,vs=v::r/\t v U H fun σ' H'=>u r σ' H' Q
theorem ziy:PGs X [] zc9:=by
 intro pins s U H vs us Q I r h
 obtain⟨e,h⟩:=h
 subst e
 cases r
 exact assignInOrder_nil ⟨U,H,I,h⟩
theorem zc5 {e:Expr}{es:List Expr}{t:TG}{u:TGs}(h1:PG X e t)(h2:PGs X es u)
  (hs:(assignEach (e::es) X.env).map (·.2)=assign e X.env::(assignEach es X.env).map (·.2):=by rfl):PGs X (e::es) (zaI t u):=by
 intro pins s U H vs us Q I r h
 obtain⟨v,vr,e1,h⟩:=h
 subst e1
 cases r with
 | cons r rr =>
  rw [hs]
  refine assignInOrder_cons (thn (h1 pins s U H _ _ _ I r h) fun _ s1 ⟨σ1,H1,I1,q1⟩=>?_)
  exact h2 pins s1 σ1 H1 _ _ Q I1 rr q1
def zc6 (K:PySem.W.Frag)(n:Nat)(t:TGs):TG:=fun v U H Q=>∃ a xs,v=.ref a/\SqT K H a xs/\xs.length=n/\t xs U H Q
theorem zj4 {es:List Expr}{k:Nat}{t:TGs}{n:Nat}(hc:X.calm=true)(h:PGs X es t)
  (hn:(assignEach es X.env).length=n:=by rfl) (hst:(assignEach es X.env).findIdx? (·.1)=none:=by rfl):PG X (.Tuple es k pos) (zc6 X.K n t):=by
 intro pins s U H v u Q I r hw
 obtain⟨a,xs,e1,hq,hl,hw⟩:=hw
 subst e1
 cases r
 obtain⟨its,rv,ht,hz⟩:=I.tuple hq
 refine assign_Tuple_tuple (I.ok.hd hc) ht (by simp [hn,<- hl,rv.length]) hst fun h' hx=>?_
 have I1:Inv X pins U H { s with heap:=h' }:=I.kept (t':=s.toks) fun b o e=>hx b o (qB (qk e)) e
 exact h pins _ U H xs _ Q I1 (by simpa using rv) hw
def zeI (to ti:TE)(t:zrz):TG:=fun v U H Q=>to U H fun o H1=>ti U H1 fun i H2=>t o i v H2 fun H3=>Q U H3
theorem zuX {o i:Expr}{to ti:TE}{t:zrz}(ho:PE X o to)(hi:PE X i ti)(hs:zvn X t)
  (ha:∀ v,assign (.Subscript o i pos) X.env v=(do
   let ov <- holding [v] (eval o X.env)
   let iv <- holding [v,ov] (eval i X.env)
   standAt pos
   holding [v,ov,iv] (setItem ov iv v)
   release [v,ov,iv] []):=by intro _;rfl):PG X (.Subscript o i pos) (zeI to ti t):=by
 intro pins s U H v u Q I r h
 rw [ha]
 refine wpAny_bind (wpAny_holding (thn (ho pins s U H _ I h) fun ov s1 ⟨x,H1,I1,r1,q1⟩=>?_))
 refine wpAny_bind (wpAny_holding (thn (hi pins s1 U H1 _ I1 q1) fun iv s2 ⟨y,H2,I2,r2,q2⟩=>?_))
 refine wpAny_bind (wpAny_standAt (wpAny_bind (wpAny_holding (thn (hs pins s2 U H2 x y v ov iv u _ I2 r1 r2 r q2) fun _ s3 ⟨H3,I3,q3⟩=>?_))))
 exact wpAny_release ⟨U,H3,I3,q3⟩
def zrP (te:TE)(g:TG):TS:=fun D U H=>te U H fun x H1=>g x U H1 D.nx
theorem zu1 {tg e:Expr}{te:TE}{g:TG}(he:PE X e te)(hg:PG X tg g)(hs:swapsWithSole [tg] e pos.line X.env=pure false:=by rfl)(hw:swappedStores [tg] e X.env=pure none:=by rfl)
  (h1:(assignEach [tg] X.env).map (·.2)=[assign tg X.env]:=by rfl):PS X (.Assign [tg] e pos) (zrP te g):=by
 intro pins s U H D I h
 refine wpAny_Assign_stores (thn (he pins s U H _ I h) fun v s1 ⟨x,H1,I1,r1,q1⟩=>?_) hs hw
 rw [h1]
 exact thn (hg pins s1 U H1 x v _ I1 r1 q1) fun _ s2 q=>q
theorem zvW {i:Nat}{x:Str}{e:Expr}{te:TE}{pos':Pos}(hN:X.N.Nodup)(hi:X.N[i]?=some x)(hx:Loc X.env.scope x)(he:PE X e te)(hs:swapsWith e (some (.Name x pos')) pos.line X.env=pure false:=by rfl)(hf:X.fn x=true\/X.env.scope.names.lookup x=some .local:=by first | exact .inl rfl | exact .inr rfl | assumption) :
  PS X (.Assign [.Name x pos'] e pos) (zrP te (zE i)):=by
 intro pins s U H D I h
 refine wpAny_Assign_Name (thn (he pins s U H _ I h) fun v s1 ⟨y,H1,I1,r1,q1⟩=>?_) hs
 exact zfK I1 hN hi hx r1 (fun s2 I2=>⟨_,H1,I2,q1⟩) hf
def zxC (i j:Nat)(ta:TA):TS:=fun D U H=>ta U H fun vs H1=>∃ v w,vs=[v,w]/\D.nx ((U.set i (some v)).set j (some w)) H1
theorem zuM {i j:Nat}{x y:Str}{a b:Expr}{ta:TA}{px py pt:Pos}{kt k2 pt2}(hc:X.calm=true)(hN:X.N.Nodup)(hi:X.N[i]?=some x)(hj:X.N[j]?=some y)(hij:i≠j)
  (hx:X.env.scope.names.lookup x=some .local) (hy:X.env.scope.names.lookup y=some .local) (ha:PA X [a,b] ta)
  (hw:swappedStores [.Tuple [.Name x px,.Name y py] kt pt] (.Tuple [a,b] k2 pt2) X.env=pure (some [x,y]))
  (hs:swapsWithSole [.Tuple [.Name x px,.Name y py] kt pt] (.Tuple [a,b] k2 pt2) pos.line X.env=pure false:=by rfl) :
  PS X (.Assign [.Tuple [.Name x px,.Name y py] kt pt] (.Tuple [a,b] k2 pt2) pos) (zxC i j ta):=by
 intro pins s U H D I h
 rw [exec_Assign_arm]
 refine wpAny_bind (wpAny_standAt ?_)
 rw [hs]
 refine wpAny_bind (wpAny_pure ?_)
 rw [if_neg (by decide)]
 refine wpAny_bind (Tuple_ (thn (ha _ pins s U H _ I h) fun us s1 ⟨vs,H1,I1,r1,q1⟩=>?_))
 obtain⟨v,w,e1,q1⟩:=q1
 subst e1
 obtain⟨u1,u2,rfl,rv,rw'⟩:∃ u1 u2,us=[u1,u2]/\RelV v u1/\RelV w u2:=by
  cases r1 with
  | cons p q =>
   cases q with
   | cons p' q' =>
    cases q'
    exact⟨_,_,rfl,p,p'⟩
 refine wpAny_newObj_type ?_ (by show 2<=sizeLine;decide)
 have I2:Inv X pins U H1 { s1 with heap:=s1.heap.push { cls:=.type "tuple",data:=.seq [u1,u2].toArray } }:=I1.kept (t':=s1.toks) fun b o e=>qc _ e
 rw [hw]
 refine wpAny_bind (wpAny_pure ?_)
 show wpAny (model X.prog X.w) X.A (do rule "assign.swapped-stores";let items <- unpackItems (.ref s1.heap.objs.size) 2 none;assignInOrder [fun v=>bindName X.env y v,fun v=>bindName X.env x v] items.reverse;pure Flow.next) _ _ _
 refine wpAny_bind (wpAny_rule (wpAny_bind (unpackItems_tuple (items:=#[u1,u2]) (I.ok.hd hc) (IsTup.new s1.heap _) fun h' hx'=>?_)))
 have I3:=I2.kept (h':=h') (t':=s1.toks) fun b o e=>hx' b o (qB (qk e)) e
 show wpAny _ _ (assignInOrder [fun v=>bindName X.env y v,fun v=>bindName X.env x v] [u2,u1] >>= fun _=>pure Flow.next) _ _ _
 refine wpAny_bind (assignInOrder_cons (wpAny_bindName (zfK I3 hN hj (.inl hy) rw' (fun s2 I4=>?_) (.inr hy))))
 refine assignInOrder_cons (wpAny_bindName (zfK I4 hN hi (.inl hx) rv (fun s3 I5=>assignInOrder_nil (wpAny_pure ?_)) (.inr hx)))
 rw [List.set_comm _ _ (Ne.symm hij)] at I5
 exact⟨_,H1,I5,q1⟩
def zxH (i:Nat)(te:TE)(ti:TIp):TS:=fun D U H=>∃ x,U[i]?=some (some x)/\te U H fun y H1=>ti x y H1 fun z H2=>D.nx (U.set i (some z)) H2
theorem zuP {i:Nat}{x:Str}{e:Expr}{te:TE}{op:Operator}{ti:TIp}{pos':Pos}(hN:X.N.Nodup)(hi:X.N[i]?=some x)(hx:Loc X.env.scope x)(he:PE X e te)(ho:PIp X op ti)(hf:X.fn x=true\/X.env.scope.names.lookup x=some .local:=by first | exact .inl rfl | exact .inr rfl | assumption) :
  PS X (.AugAssign (.Name x pos') op e pos) (zxH i te ti):=by
 intro pins s U H D I h
 obtain⟨v,e1,h⟩:=h
 obtain⟨m,hn,hl⟩:=I.loc
 have vis:Vis X.env.scope x:=by rcases hx with k | k;exact .inl k;exact .inr (.inl k)
 obtain⟨u,r,l⟩:=hl i x v hi e1 vis
 refine wpAny_AugAssign_Name ?_
 have go:wpAny (model X.prog X.w) X.A (eval e X.env) (fun w s₂=>wpAny (model X.prog X.w) X.A (inplaceOp op u w) (fun r s₃=>wpAny (model X.prog X.w) X.A (storeName X.env x r) (fun _=>SP X pins D .next) X.xe s₃) X.xe s₂) X.xe s:=by
  refine thn (he pins s U H _ I h) fun w s1 ⟨y,H1,I1,r1,q1⟩=>?_
  refine thn (ho pins s1 U H1 v y u w _ I1 r r1 q1) fun z s2 ⟨zv,H2,I2,r2,q2⟩=>?_
  exact zfK I2 hN hi hx r2 (fun s3 I3=>⟨_,H2,I3,q2⟩) hf
 rcases l with ⟨hk,hm⟩ | ⟨hk,c,hc,hcell⟩
 ·exact wpAny_loadName_local I.ok.kind hk hn hm go
 ·rcases hk with hk | hk
  ·exact wpAny_loadName_cell I.ok.kind hk hc hcell go
  ·rcases hx with k | k
   ·have:X.env.scope.names.lookup x=some .free:=hk
    rw [k] at this;cases this
   ·have:X.env.scope.names.lookup x=some .free:=hk
    rw [k] at this;cases this
def ipI (f:Int->Int->Int):TIp:=fun x y H Q=>∃ i j,x=.int i/\y=.int j/\Q (.int (f i j)) H
theorem zun:PIp X .Add (ipI fun i j=>i+j):=by
 intro pins s U H x y v u Q I r1 r2 h
 obtain⟨i,j,e1,e2,q⟩:=h
 subst e1;subst e2
 obtain⟨t,rfl⟩:=r1
 obtain⟨t',rfl⟩:=r2
 exact iadd_int ⟨.int _,H,I.tok _,⟨_,rfl⟩,q⟩
end
section
variable {X:Cx}{pos:Pos}
def zv6 (c:TT)(tb:TS):TS:=fun D U H=>∃ W:Nat->St->Hp->Prop,(∃ m,W m U H)/\∀ m U H,W m U H ->
 c U H fun b H1=>if b=true then ∃ N:St->Hp->Prop,(∀ σ' H',N σ' H'->∃ m',m'<m/\W m' σ' H')/\tb { D with nx:=N,ct:=N,bk:=D.nx } U H1 else D.nx U H1
theorem zrf {c:Expr}{body:List Stmt}{tc:TT}{tb:TS}(hp:PassesOwn (model X.prog X.w) X.A X.env X.xe)(hc:PT X c tc)(hb:PSs X body tb):PS X (.While c body [] pos) (zv6 tc tb):=by
 intro pins s U H D I h
 obtain⟨W,⟨m0,w0⟩,turn⟩:=h
 refine wpAny_While (codeAny_whileLoop (fun n s'=>∃ σ' H',Inv X pins σ' H' s'/\W n σ' H') ?_ m0 ⟨U,H,I,w0⟩)
 rintro n s1 ⟨σ1,H1,I1,w1⟩
 refine wpAny_passesOwn hp (thn (hc pins s1 σ1 H1 _ I1 (turn n σ1 H1 w1)) fun b s2 ⟨H2,I2,q2⟩=>?_)
 cases b with
 | true =>
  obtain⟨N,hN,q2⟩:=q2
  rw [if_pos rfl]
  refine wpAny_passesOwn hp (thn (hb pins s2 σ1 H2 _ I2 q2) fun f s3 q3=>?_)
  cases f with
  | next =>
   obtain⟨σ3,H3,I3,n3⟩:=q3
   obtain⟨m',hm,w3⟩:=hN σ3 H3 n3
   exact⟨m',hm,σ3,H3,I3,w3⟩
  | cont =>
   obtain⟨σ3,H3,I3,n3⟩:=q3
   obtain⟨m',hm,w3⟩:=hN σ3 H3 n3
   exact⟨m',hm,σ3,H3,I3,w3⟩
  | brk=>exact q3
  | ret v=>exact q3
 | false =>
  rw [if_neg qo]
  exact wpAny_execs_nil ⟨σ1,H2,I2,q2⟩
end
structure It where
 go:Nat->Hp->Prop
 yld:Nat->Hp->V->Hp->Prop
 stop:Nat->Hp->Prop
def zfI (X:Cx)(pins:List (Addr×Obj))(H:Hp)(b:Addr):Prop :=
 H b=none/\b≠X.env.locals/\b∉X.fs/\(b∈X.ex\/X.s₀.heap.objs.size<=b)/\(∀ x c,X.env.cells.lookup x=some c->c≠b)/\∀ p∈X.pn++pins,p.1≠b
theorem Inv.fpOk {X:Cx}{pins:List (Addr×Obj)}{U:St}{H H':Hp}{s:Shared}{b:Addr}(I:Inv X pins U H s)(hb:s.heap.objs.size<=b)(hn:H' b=none):zfI X pins H' b:=by
 refine⟨hn,Nat.ne_of_gt (qq I.lt hb),I.nofs hb,.inr (qK I.sz hb),fun x c e z=>?_,fun p hp z=>?_⟩
 ·obtain⟨v,q⟩:=I.cell x c e
  exact absurd (qq q.lt (by rw [z];exact hb)) (Nat.lt_irrefl _)
 ·exact absurd (qq (qk (I.pin p hp).1) (by rw [z];exact hb)) (Nat.lt_irrefl _)
structure Turn (P:Program)(w:World)(K:PySem.W.Frag)(tg:Expr)(J:It)(fp:List Addr)(it:Addr)(tn:Nat->Heap->Prop):Prop where
 mem:it∈fp
 obj:∀ i h,tn i h->∀ b∈fp,∃ o,h.get? b=some o/\∀ v,o.data≠.cell v
 keep:∀ i h h',tn i h->(∀ b∈fp,∀ o,h.get? b=some o->h'.get? b=some o)->tn i h'
 item:∀ (X:Cx),X.prog=P->X.w=w->X.K=K->X.calm=true->∀ (i:Nat) (pins:List (Addr×Obj)) (s:Shared) (U:St) (H:Hp) (E:Value->Shared->Prop),Inv X pins U H s->(∀ b∈fp,zfI X pins H b)->tn i s.heap->J.go i H ->
  wpAny (model P w) X.A (pyNext (.ref it)) (fun r s1=>∃ u,r=some u /\
   wpAny (model P w) X.A (letOwnedTupleGo tg (.ref it) u) (fun _ s2=>∃ x H',Inv X pins U H' s2/\RelV x u/\J.yld i H x H'/\tn (i+1) s2.heap/\∀ b∈fp,H' b=none) E s1) E s
 done:∀ (X:Cx),X.prog=P->X.w=w->X.K=K->X.calm=true->∀ (i:Nat) (pins:List (Addr×Obj)) (s:Shared) (U:St) (H:Hp) (E:Value->Shared->Prop),Inv X pins U H s->(∀ b∈fp,zfI X pins H b)->tn i s.heap->J.stop i H ->
  wpAny (model P w) X.A (pyNext (.ref it)) (fun r s1=>r=none/\Inv X pins U H s1) E s
 self:∀ (A:Around) (i:Nat) (s:Shared) (Q:Value->Shared->Prop) (E:Value->Shared->Prop),tn i s.heap->Q (.ref it) s->wpAny (model P w) A (pyIter (.ref it)) Q E s
abbrev TI:=St->Hp->(It->Hp->Prop)->Prop
def PIE (X:Cx)(pins:List (Addr×Obj))(U:St)(tg:Expr)(R:It->Hp->Prop)(itv:Value)(s2:Shared):Prop :=
 ∃ (it:Addr) (fp:List Addr) (tn:Nat->Heap->Prop) (J:It) (H':Hp),itv=.ref it/\Inv X pins U H' s2/\Turn X.prog X.w X.K tg J fp it tn/\tn 0 s2.heap/\(∀ b∈fp,zfI X pins H' b)/\R J H'
def PI (X:Cx)(tg iter:Expr)(wi:TI):Prop :=
 ∀ (pins:List (Addr×Obj)) (s:Shared) (U:St) (H:Hp) (R:It->Hp->Prop),Inv X pins U H s->wi U H R ->
  wpAny (model X.prog X.w) X.A (eval iter X.env) (fun v s1=>wpAny (model X.prog X.w) X.A (pyIter v) (PIE X pins U tg R) X.xe s1) X.xe s
theorem zis {M:Model}{A:Around}{E:Value->Shared->Prop}{s:Shared}{tg:Expr}{it:Addr}{u:Value}{o:Obj}{n:String}{vs:Array Value}{Q:Unit->Shared->Prop}(ho:s.heap.get? it=some o)(hc:o.cls=.type n)(hd:o.data=.fields vs)
    (hn:["enumerate","zip","dict_itemiterator","dict_reverseitemiterator","odict_iterator","itertools.zip_longest","itertools.pairwise"].contains n=false) (hQ:Q () s):wpAny M A (letOwnedTupleGo tg (.ref it) u) Q E s:=by
  unfold letOwnedTupleGo
  cases tg<;>first
    | exact wpAny_pure hQ
    | (cases u <;> first
        | exact wpAny_pure hQ
        | (refine wpAny_bind (wpAny_load ho ?_)
           rw [hc,hd]
           show wpAny M A (if (["enumerate","zip","dict_itemiterator","dict_reverseitemiterator","odict_iterator","itertools.zip_longest","itertools.pairwise"].contains n&&vs[0]?==some (rawInt _))=true then _ else _) Q E s
           rw [if_neg (by intro h;rw [hn,Bool.false_and] at h;cases h)]
           exact wpAny_pure hQ))
def Itl (K:PySem.W.Frag)(a:Addr):It :=
 ⟨fun i H=>∃ xs x,SqL K H a xs/\xs[i]?=some x,fun i H x H'=>H'=H/\∀ xs,SqL K H a xs->xs[i]?=some x,fun i H=>∃ xs,SqL K H a xs/\xs.length<=i⟩
def Itt (K:PySem.W.Frag)(a:Addr):It :=
 ⟨fun i H=>∃ xs x,SqT K H a xs/\xs[i]?=some x,fun i H x H'=>H'=H/\∀ xs,SqT K H a xs->xs[i]?=some x,fun i H=>∃ xs,SqT K H a xs/\xs.length<=i⟩
def Itr (lo:Int)(n:Nat):It:=⟨fun i _=>i<n,fun i H x H'=>H'=H/\x=.int (lo+i),fun i _=>n<=i⟩
theorem zpB {P:Program}{w:World}{K:PySem.W.Frag}{tg:Expr}(a it:Addr):Turn P w K tg (Itl K a) [it] it (fun i h=>h.IsListIter it a i) where
 mem:=by simp
 obj:=fun i h st b hb=>by
  have e:b=it:=by simpa using hb
  subst e
  obtain⟨o,e,c,d⟩:=st
  exact⟨o,e,fun v z=>by rw [d] at z;cases z⟩
 keep:=fun i h h' st k=>st.at fun o e=>k it (by simp) o e
 item:=by
  intro X hP hw hK hc i pins s U H E I hf st hg
  subst hP hw hK
  obtain⟨xs,x,hq,hx⟩:=hg
  obtain⟨its,rv,p,hz⟩:=I.list hq
  obtain⟨u,hu,ru⟩:=rv.get hx
  obtain⟨f0,f1,f2,f3,f4,f5⟩:=hf it (by simp)
  refine wpAny_pyNext_list_item st p.isList (x:=u) (by simpa using hu) fun h' st' sb=>?_
  have I1:Inv X pins U H { s with heap:=h' }:=I.turned (t':=s.toks) (fun b o hb e=>(sb.2 b hb).trans e) f0 f1 f3 f4 f5
  obtain⟨o,e,c,d⟩:=id st'
  exact⟨u,rfl,zis (s:={ s with heap:=h' }) e c d (by decide) ⟨x,H,I1,ru,⟨rfl,fun ys hy=>by rw [I.list_inj hy hq];exact hx⟩,st',fun b hb=>(hf b hb).1⟩⟩
 done:=by
  intro X hP hw hK hc i pins s U H E I hf st hg
  subst hP hw hK
  obtain⟨xs,hq,hx⟩:=hg
  obtain⟨its,rv,p,hz⟩:=I.list hq
  obtain⟨f0,f1,f2,f3,f4,f5⟩:=hf it (by simp)
  have hl:=rv.length
  exact wpAny_pyNext_list_end (I.ok.hd hc) st p.isList (by simp;omega) fun h' eb=>⟨rfl,I.turned (t':=s.toks) (fun b o hb e=>eb b o hb e) f0 f1 f3 f4 f5⟩
 self:=fun _ _ _ _ _ st h=>wpAny_pyIter_listiter st h
theorem zos {P:Program}{w:World}{K:PySem.W.Frag}{tg:Expr}(a it:Addr):Turn P w K tg (Itt K a) [it] it (fun i h=>h.IsTupleIter it a i) where
 mem:=by simp
 obj:=fun i h st b hb=>by
  have e:b=it:=by simpa using hb
  subst e
  obtain⟨o,e,c,d⟩:=st
  exact⟨o,e,fun v z=>by rw [d] at z;cases z⟩
 keep:=fun i h h' st k=>st.at fun o e=>k it (by simp) o e
 item:=by
  intro X hP hw hK hc i pins s U H E I hf st hg
  subst hP hw hK
  obtain⟨xs,x,hq,hx⟩:=hg
  obtain⟨its,rv,p,hz⟩:=I.tuple hq
  obtain⟨u,hu,ru⟩:=rv.get hx
  obtain⟨f0,f1,f2,f3,f4,f5⟩:=hf it (by simp)
  refine wpAny_pyNext_tuple_item st (show s.heap.IsTuple a its.toArray from p) (x:=u) (by simpa using hu) fun h' st' sb=>?_
  have I1:Inv X pins U H { s with heap:=h' }:=I.turned (t':=s.toks) (fun b o hb e=>(sb.2 b hb).trans e) f0 f1 f3 f4 f5
  obtain⟨o,e,c,d⟩:=id st'
  exact⟨u,rfl,zis (s:={ s with heap:=h' }) e c d (by decide) ⟨x,H,I1,ru,⟨rfl,fun ys hy=>by rw [I.tuple_inj hy hq];exact hx⟩,st',fun b hb=>(hf b hb).1⟩⟩
 done:=by
  intro X hP hw hK hc i pins s U H E I hf st hg
  subst hP hw hK
  obtain⟨xs,hq,hx⟩:=hg
  obtain⟨its,rv,p,hz⟩:=I.tuple hq
  obtain⟨f0,f1,f2,f3,f4,f5⟩:=hf it (by simp)
  have hl:=rv.length
  exact wpAny_pyNext_tuple_end (I.ok.hd hc) st (show s.heap.IsTuple a its.toArray from p) (by simp;omega) fun h' eb=>⟨rfl,I.turned (t':=s.toks) (fun b o hb e=>eb b o hb e) f0 f1 f3 f4 f5⟩
 self:=fun _ _ _ _ _ st h=>wpAny_pyIter_tupleiter st h
theorem zjR {P:Program}{w:World}{K:PySem.W.Frag}{tg:Expr}(it:Addr)(lo:Int)(n:Nat):Turn P w K tg (Itr lo n) [it] it (fun i h=>IsRangeIter h it (lo+(i:Nat)*1) ((n:Int)-(i:Nat)) 1) where
 mem:=by simp
 obj:=fun i h st b hb=>by
  have e:b=it:=by simpa using hb
  subst e
  exact⟨_,st,fun v z=>by
   have z':Data.fields _=Data.cell v:=z
   cases z'⟩
 keep:=fun i h h' st k=>k it (by simp) _ st
 item:=by
  intro X hP hw hK hc i pins s U H E I hf st hg
  subst hP hw hK
  obtain⟨f0,f1,f2,f3,f4,f5⟩:=hf it (by simp)
  have W:=Walks.range (prog:=X.prog) (w:=X.w) (I.ok.hd hc) it lo 1 n
  refine W.item i s _ _ hg st fun v h' tk hv st' kk=>?_
  obtain⟨t,rfl⟩:=hv
  have I1:Inv X pins U H { s with heap:=h',toks:=tk }:=I.turned (fun b o hb e=>kk b o (by simpa using hb) e) f0 f1 f3 f4 f5
  refine⟨_,rfl,zis (s:={ s with heap:=h',toks:=tk }) (n:="range_iterator") st' rfl rfl (by decide) ⟨.int (lo+i),H,I1,⟨t,?_⟩,⟨rfl,rfl⟩,st',fun b hb=>(hf b hb).1⟩⟩
  rw [Int.mul_one]
 done:=by
  intro X hP hw hK hc i pins s U H E I hf st hg
  subst hP hw hK
  obtain⟨f0,f1,f2,f3,f4,f5⟩:=hf it (by simp)
  exact wpAny_pyNext_range_end (I.ok.hd hc) st (by have:n<=i:=hg;omega) fun h' eb=>⟨rfl,I.turned (t':=s.toks) (fun b o hb e=>eb b o hb e) f0 f1 f3 f4 f5⟩
 self:=fun _ _ _ _ _ st h=>wpAny_pyIter_rangeiter st h
section
variable {X:Cx}{tg:Expr}
theorem zrB {pins:List (Addr×Obj)}{U:St}{H:Hp}{s:Shared}{R:It->Hp->Prop}{E:Value->Shared->Prop}{lo hi:Int}{t u v:Tok}{tk:Nat}(I:Inv X pins U H s)(h1:-(2 ^ 62)<=lo)(h2:lo<2 ^ 62)(h3:-(2 ^ 62)<=hi)(h4:hi<2 ^ 62)
    (q:R (Itr lo (hi-lo).toNat) H):wpAny (model X.prog X.w) X.A (pyIter (.ref s.heap.objs.size)) (PIE X pins U tg R) E { s with heap:=s.heap.push { cls:=.type "range",data:=.fields #[.int lo t,.int hi u,.int 1 v] },toks:=tk }:=by
  refine wpAny_pyIter_range (IsRange.new ..) (small_one h1 h2 h3 h4) ?_
  have I1:Inv X pins U H { s with heap:=s.heap.push { cls:=.type "range",data:=.fields #[.int lo t,.int hi u,.int 1 v] },toks:=tk }:=I.kept fun b o e=>qc _ e
  refine⟨(s.heap.push { cls:=.type "range",data:=.fields #[.int lo t,.int hi u,.int 1 v] }).objs.size,[(s.heap.push { cls:=.type "range",data:=.fields #[.int lo t,.int hi u,.int 1 v] }).objs.size],_,_,H,rfl,
    I1.kept (t':=tk) fun b o e=>qc _ e,zjR _ lo (hi-lo).toNat,?_,fun b hb=>?_,q⟩
  . have e1:lo+((0:Nat):Int)*1=lo:=by simp
    have e2:(((hi-lo).toNat:Nat):Int)-((0:Nat):Int)=Builtin.Range.rangeSize lo hi 1:=by rw [rangeSize_one];split<;>omega
    show IsRangeIter _ _ (lo+((0:Nat):Int)*1) ((((hi-lo).toNat:Nat):Int)-((0:Nat):Int)) 1
    rw [e1,e2]
    exact Heap.get?_push_size _ rfl
  . have e:b=(s.heap.push { cls:=.type "range",data:=.fields #[.int lo t,.int hi u,.int 1 v] }).objs.size:=by simpa using hb
    subst e
    exact I1.fpOk (qg _) (I1.hok.fresh (qg _))
def zbA (ta:TA):TI:=fun U H R=>ta U H fun vs H1=>∃ j:Int,vs=[.int j]/\-(2 ^ 62)<=j/\j<2 ^ 62/\R (Itr 0 j.toNat) H1
theorem zqo {a:Expr}{ta:TA}{p pos:Pos}(hg:Gl X "range")(hm:X.mg "range"=none)(ha:PA X [a] ta)(hs:starEach [a] X.env=[(false,eval a X.env)]:=by rfl):PI X tg (.Call (.Name "range" p) [a] [] pos) (zbA ta):=by
 intro pins s U H R I h
 refine Call_ (zcX I hg hm boot_range (PyProof.Rows.callWith_type1 (thn (ha pos pins s U H _ I h) fun us s1 ⟨vs,H1,I1,r1,q1⟩=>?_) hs rfl))
 obtain⟨j,e,q1,q2,q⟩:=q1
 subst e
 cases r1 with
 | cons r rr =>
  cases rr
  obtain⟨t,rfl⟩:=r
  exact call_range_1 (zrB I1 (by omega) (by omega) q1 q2 (by simpa using q))
def zyf (wi:TI)(g:TG)(tb:TS):TS:=fun D U H=>wi U H fun J H1=>∃ W:Nat->Nat->St->Hp->Prop,(∃ m,W 0 m U H1)/\∀ i m U H,W i m U H ->
 (J.stop i H/\D.nx U H)\/(J.go i H/\∃ N:St->Hp->Prop,(∀ σ' H',N σ' H'->∃ m',m'<m/\W (i+1) m' σ' H')/\∀ x H',J.yld i H x H'->g x U H' fun σ2 H2=>tb { D with nx:=N,ct:=N,bk:=D.nx } σ2 H2)
def zh1 (fp:List Addr)(h:Heap):List (Addr×Obj):=fp.filterMap fun b=>(h.get? b).map fun o=>(b,o)
theorem zfr {fp:List Addr}{h:Heap}{b:Addr}{o:Obj}(hb:b∈fp)(e:h.get? b=some o):(b,o)∈zh1 fp h:=List.mem_filterMap.mpr ⟨b,hb,by rw [e];rfl⟩
theorem zpw {fp:List Addr}{h:Heap}{p:Addr×Obj}(hp:p∈zh1 fp h):p.1∈fp/\h.get? p.1=some p.2:=by
 obtain⟨b,hb,e⟩:=List.mem_filterMap.mp hp
 cases q:h.get? b with
 | none=>rw [q] at e;cases e
 | some o =>
  rw [q] at e
  have e':(b,o)=p:=qN e
  subst e'
  exact⟨hb,q⟩
theorem Inv.pinned {pins:List (Addr×Obj)}{U:St}{H:Hp}{s:Shared}{fp:List Addr}(I:Inv X pins U H s)(hf:∀ b∈fp,zfI X pins H b)(ho:∀ b∈fp,∃ o,s.heap.get? b=some o/\∀ v,o.data≠.cell v):Inv X (pins++zh1 fp s.heap) U H s :=
 I.pins_of fun p hp=>(qu.mp hp).elim (fun z=>I.pin p (qL _ z)) fun z=>by
  obtain⟨hb,e⟩:=zpw z
  obtain⟨f0,f1,f2,_⟩:=hf p.1 hb
  obtain⟨o,e',d⟩:=ho p.1 hb
  rw [e] at e';cases e'
  exact⟨e,f0,f1,f2,d⟩
theorem Inv.unpinned {pins pl:List (Addr×Obj)}{U:St}{H:Hp}{s:Shared}(I:Inv X (pins++pl) U H s):Inv X pins U H s:=I.pins_of fun p hp=>I.pin p (qL _ (List.mem_append_left _ hp))
theorem zue {iter:Expr}{body:List Stmt}{wi:TI}{g:TG}{tb:TS}{pos:Pos}(hp:PassesOwn (model X.prog X.w) X.A X.env X.xe)(hc:X.calm=true)(hi:PI X tg iter wi)(hg:PG X tg g)(hb:PSs X body tb)
  (hs:∀ x,foldedSetIterable iter X.env x=pure x:=by intro _;rfl):PS X (.For tg iter body [] pos) (zyf wi g tb):=by
 intro pins s U H D I h
 refine wpAny_For (thn (hi pins s U H _ I h) fun v s1 h1=>thn h1 fun itv s2 h2=>?_) hs
 obtain⟨it,fp,tn,J,H2,e,I2,T,st2,f2,W,⟨m0,w0⟩,turn⟩:=h2
 subst e
 have stat:∀ {H':Hp},(∀ b∈fp,H' b=none)->∀ b∈fp,zfI X pins H' b:=fun hn b hb=>⟨hn b hb,(f2 b hb).2⟩
 refine codeAny_forLoop_any (fun n s'=>∃ i σ' H',Inv X pins σ' H' s'/\tn i s'.heap/\(∀ b∈fp,H' b=none)/\W i n σ' H') ?_ m0 ⟨0,U,H2,I2,st2,fun b hb=>(f2 b hb).1,w0⟩
 rintro n s3 ⟨i,σ3,H3,I3,st3,fr3,w3⟩
 rcases turn i n σ3 H3 w3 with ⟨stop,qn⟩ | ⟨go,N,hN,step⟩
 ·refine wpAny_passesOwn hp (thn (T.done X rfl rfl rfl hc i pins s3 σ3 H3 X.xe I3 (stat fr3) st3 stop) fun r s4 ⟨hr,I4⟩=>?_)
  subst hr
  exact wpAny_execs_nil ⟨σ3,H3,I4,qn⟩
 ·refine wpAny_passesOwn hp (thn (T.item X rfl rfl rfl hc i pins s3 σ3 H3 X.xe I3 (stat fr3) st3 go) fun r s4 ⟨u,hr,h4⟩=>?_)
  subst hr
  refine wpAny_passesOwn hp (thn h4 fun _ s5 ⟨x,H5,I5,r5,y5,st5,fr5⟩=>?_)
  have I5':=I5.pinned (stat fr5) (T.obj _ _ st5)
  refine wpAny_passesOwn hp (thn (hg _ s5 σ3 H5 x u _ I5' r5 (step x H5 y5)) fun _ s6 ⟨σ6,H6,I6,q6⟩=>?_)
  refine wpAny_passesOwn hp (thn (hb _ s6 σ6 H6 _ I6 q6) fun f s7 q7=>?_)
  have again:∀ {σ7:St} {H7:Hp},Inv X (pins++zh1 fp s5.heap) σ7 H7 s7->N σ7 H7->∃ m,m<n/\∃ i σ' H',Inv X pins σ' H' s7/\tn i s7.heap/\(∀ b∈fp,H' b=none)/\W i m σ' H':=fun {σ7 H7} I7 n7=>by
   obtain⟨m',hm,w7⟩:=hN σ7 H7 n7
   refine⟨m',hm,i+1,σ7,H7,I7.unpinned,T.keep _ _ _ st5 fun b hb o e=>(I7.pin (b,o) (qL _ (qL _ (zfr hb e)))).1,fun b hb=>?_,w7⟩
   obtain⟨o,e,d⟩:=T.obj _ _ st5 b hb
   exact (I7.pin (b,o) (qL _ (qL _ (zfr hb e)))).2.1
  cases f with
  | next=>obtain⟨σ7,H7,I7,n7⟩:=q7;exact again I7 n7
  | cont=>obtain⟨σ7,H7,I7,n7⟩:=q7;exact again I7 n7
  | brk=>obtain⟨σ7,H7,I7,q7⟩:=q7;exact⟨σ7,H7,I7.unpinned,q7⟩
  | ret v=>obtain⟨x7,σ7,H7,I7,r7,q7⟩:=q7;exact⟨x7,σ7,H7,I7.unpinned,r7,q7⟩
end
abbrev R2:=V->V->Hp->VK->Prop
def OpR (X:Cx)(f:Value->Value->Sem Value)(r:R2):Prop :=
 ∀ (pins:List (Addr×Obj)) (s:Shared) (U:St) (H:Hp) (x y:V) (v u:Value) (Q:VK),Inv X pins U H s->RelV x v->RelV y u->r x y H Q ->
  wpAny (model X.prog X.w) X.A (f v u) (EP X pins U Q) X.xe s
def UnR (X:Cx)(f:Value->Sem Value)(r:V->Hp->VK->Prop):Prop :=
 ∀ (pins:List (Addr×Obj)) (s:Shared) (U:St) (H:Hp) (x:V) (v:Value) (Q:VK),Inv X pins U H s->RelV x v->r x H Q ->
  wpAny (model X.prog X.w) X.A (f v) (EP X pins U Q) X.xe s
def zaS (X:Cx)(f:Value)(r:List V->Hp->VK->Prop):Prop :=
 ∀ (pins:List (Addr×Obj)) (s:Shared) (U:St) (H:Hp) (xs:List V) (us:List Value) (Q:VK),Inv X pins U H s->Vals xs us->r xs H Q ->
  wpAny (model X.prog X.w) X.A (call f us) (EP X pins U Q) X.xe s
def tOp (r:R2)(ta tb:TE):TE:=fun U H Q=>ta U H fun x H1=>tb U H1 fun y H2=>r x y H2 Q
def tUn (r:V->Hp->VK->Prop)(ta:TE):TE:=fun U H Q=>ta U H fun x H1=>r x H1 Q
def rI (C:Int->Int->Prop)(g:Int->Int->V):R2:=fun x y H Q=>∃ i j,x=.int i/\y=.int j/\C i j/\Q (g i j) H
def rI0 (g:Int->Int->V):R2:=fun x y H Q=>∃ i j,x=.int i/\y=.int j/\Q (g i j) H
def rU (g:Int->V):V->Hp->VK->Prop:=fun x H Q=>∃ i,x=.int i/\Q (g i) H
section
variable {X:Cx}{a b c:Expr}{ta tb tc:TE}{pos:Pos}
theorem zrC (ha:PE X a ta)(hb:PE X b tb){pins:List (Addr×Obj)}{s:Shared}{U:St}{H:Hp}{R:V->V->Hp->Prop}(I:Inv X pins U H s)
  (h:ta U H fun x H1=>tb U H1 fun y H2=>R x y H2) {Q:Value->Shared->Prop} {f:Value->Value->Sem Value}
  (hf:∀ v u s2 x y H2,Inv X pins U H2 s2->RelV x v->RelV y u->R x y H2->wpAny (model X.prog X.w) X.A (f v u) Q X.xe s2) :
  wpAny (model X.prog X.w) X.A (eval a X.env) (fun v s₁=>wpAny (model X.prog X.w) X.A (eval b X.env) (fun u s₂=>wpAny (model X.prog X.w) X.A (f v u) Q X.xe s₂) X.xe s₁) X.xe s:=by
 refine thn (ha pins s U H _ I h) fun v s1 ⟨x,H1,I1,r1,q1⟩=>?_
 refine thn (hb pins s1 U H1 _ I1 q1) fun u s2 ⟨y,H2,I2,r2,q2⟩=>?_
 exact hf v u s2 x y H2 I2 r1 r2 q2
theorem zso {op:Operator}{r:R2}(ho:OpR X (binaryOp op) r)(ha:PE X a ta)(hb:PE X b tb):PE X (.BinOp a op b pos) (tOp r ta tb):=by
 intro pins s U H Q I h
 exact wpAny_BinOp (zrC ha hb I h fun v u s2 x y H2 I2 rx ry q=>ho pins s2 U H2 x y v u Q I2 rx ry q)
theorem zw9 {op:UnaryOp}{r:V->Hp->VK->Prop}(ho:UnR X (unaryOp op) r)(ha:PE X a ta):PE X (.UnaryOp op a pos) (tUn r ta):=by
 intro pins s U H Q I h
 exact UnaryOp_ (thn (ha pins s U H _ I h) fun v s1 ⟨x,H1,I1,r1,q1⟩=>ho pins s1 U H1 x v Q I1 r1 q1)
theorem opI {f:Value->Value->Sem Value}{C:Int->Int->Prop}{g:Int->Int->Int}
  (rule:∀ (i j:Int) (t u:Tok) (s:Shared) (Q:Value->Shared->Prop) (E:Value->Shared->Prop),C i j->Q (.int (g i j) s.toks) { s with toks:=s.toks+1 }->wpAny (model X.prog X.w) X.A (f (.int i t) (.int j u)) Q E s) :
  OpR X f (rI C fun i j=>.int (g i j)):=by
 intro pins s U H x y v u Q I rx ry h
 obtain⟨i,j,rfl,rfl,hc,q⟩:=h
 obtain⟨t,rfl⟩:=rx
 obtain⟨t',rfl⟩:=ry
 exact rule i j t t' s _ _ hc ⟨.int (g i j),H,I.tok _,⟨_,rfl⟩,q⟩
theorem zuS {f:Value->Value->Sem Value}{g:Int->Int->Int}
  (rule:∀ (i j:Int) (t u:Tok) (s:Shared) (Q:Value->Shared->Prop) (E:Value->Shared->Prop),Q (.int (g i j) s.toks) { s with toks:=s.toks+1 }->wpAny (model X.prog X.w) X.A (f (.int i t) (.int j u)) Q E s) :
  OpR X f (rI0 fun i j=>.int (g i j)):=by
 intro pins s U H x y v u Q I rx ry h
 obtain⟨i,j,rfl,rfl,q⟩:=h
 obtain⟨t,rfl⟩:=rx
 obtain⟨t',rfl⟩:=ry
 exact rule i j t t' s _ _ ⟨.int (g i j),H,I.tok _,⟨_,rfl⟩,q⟩
theorem zpb {f:Value->Value->Sem Value}{g:Int->Int->Bool}
  (rule:∀ (i j:Int) (t u:Tok) (s:Shared) (Q:Value->Shared->Prop) (E:Value->Shared->Prop),Q (.bool (g i j)) s->wpAny (model X.prog X.w) X.A (f (.int i t) (.int j u)) Q E s) :
  OpR X f (rI0 fun i j=>.bl (g i j)):=by
 intro pins s U H x y v u Q I rx ry h
 obtain⟨i,j,rfl,rfl,q⟩:=h
 obtain⟨t,rfl⟩:=rx
 obtain⟨t',rfl⟩:=ry
 exact rule i j t t' s _ _ ⟨.bl (g i j),H,I,rfl,q⟩
def zxE (i j:Int):Prop:=0<=j/\j<=1000000/\i.natAbs<2 ^ 64
def zoz (i j:Int):Prop:=(-(2 ^ 64)<i/\i<2 ^ 64)\/(-(2 ^ 64)<j/\j<2 ^ 64)
theorem zoz.ok {i j:Int}(h:zoz i j):IntMulOk i j:=by
 rcases h with ⟨h1,h2⟩ | ⟨h1,h2⟩
 ·exact .of_left (intBits_le_64 h1 h2)
 ·exact .of_right (intBits_le_64 h1 h2)
theorem zvj:OpR X (binaryOp .Add) (rI0 fun i j=>.int (i+j)):=zuS fun _ _ _ _ _ _ _ q=>add_int q
theorem zuJ:OpR X (binaryOp .Sub) (rI0 fun i j=>.int (i-j)):=zuS fun _ _ _ _ _ _ _ q=>sub_int q
theorem zs9:OpR X (binaryOp .Mod) (rI (fun _ j=>j≠0) fun i j=>.int (i.fmod j)):=opI fun _ _ _ _ _ _ _ hc q=>mod_int' hc q
theorem zuI:OpR X (binaryOp .Pow) (rI zxE fun i j=>.int (i ^ j.toNat)):=opI fun _ _ _ _ _ _ _ hc q=>pow_int_small hc.1 hc.2.1 hc.2.2 q
theorem unI {f:Value->Sem Value}{g:Int->Int}
  (rule:∀ (i:Int) (t:Tok) (s:Shared) (Q:Value->Shared->Prop) (E:Value->Shared->Prop),Q (.int (g i) s.toks) { s with toks:=s.toks+1 }->wpAny (model X.prog X.w) X.A (f (.int i t)) Q E s) :
  UnR X f (rU fun i=>.int (g i)):=by
 intro pins s U H x v Q I rx h
 obtain⟨i,rfl,q⟩:=h
 obtain⟨t,rfl⟩:=rx
 exact rule i t s _ _ ⟨.int (g i),H,I.tok _,⟨_,rfl⟩,q⟩
theorem zvF:UnR X (unaryOp .USub) (rU fun i=>.int (-i)):=unI fun _ _ _ _ _ q=>neg_int q
end
section
variable {X:Cx}{a b c:Expr}{ta tb tc:TE}{pos:Pos}
theorem zjG {pins:List (Addr×Obj)}{U:St}{H:Hp}{s:Shared}{Q:VK}{k k':Bool}(I:Inv X pins U H s)(q:Q (.bl k) H)(e:k=k'):EP X pins U Q (.bool k') s:=by
 subst e
 exact⟨.bl k,H,I,rfl,q⟩
theorem zxz:OpR X (compareOp .Lt) (rI0 fun i j=>.bl (decide (i<j))):=zpb fun _ _ _ _ _ _ _ q=>lt_int q
theorem zwR:OpR X (compareOp .LtE) (rI0 fun i j=>.bl (decide (i<=j))):=zpb fun _ _ _ _ _ _ _ q=>le_int q
theorem zwt:OpR X (compareOp .Gt) (rI0 fun i j=>.bl (decide (j<i))):=zpb fun _ _ _ _ _ _ _ q=>gt_int q
theorem zwp:OpR X (compareOp .GtE) (rI0 fun i j=>.bl (decide (j<=i))):=zpb fun _ _ _ _ _ _ _ q=>ge_int q
theorem zpz:OpR X (compareOp .In) (fun x y H Q=>∃ i j,x=.str i/\y=.str j/\Q (.bl (!(Builtin.Str.occurrences j i 0 j.length 1).isEmpty)) H):=by
 intro pins s U H x y v u Q I rx ry h
 obtain⟨i,j,rfl,rfl,q⟩:=h
 obtain⟨t,rfl⟩:=rx
 obtain⟨t',rfl⟩:=ry
 exact in_str (zjG I q rfl)
theorem zv5:OpR X (compareOp .Is) (fun x y H Q=>y=.non/\Q (.bl (decide (x=.non))) H):=by
  intro pins s U H x y v u Q I rx ry h
  obtain⟨rfl,q⟩:=h
  cases ry
  refine is_none_gen (zjG I q ?_)
  cases x<;>first
    | (cases rx;rfl)
    | (obtain⟨t,rfl⟩:=rx;rfl)
theorem zs5:OpR X (compareOp .IsNot) (fun x y H Q=>y=.non/\Q (.bl (!decide (x=.non))) H):=by
  intro pins s U H x y v u Q I rx ry h
  obtain⟨rfl,q⟩:=h
  cases ry
  refine isnot_none_gen (zjG I q ?_)
  cases x<;>first
    | (cases rx;rfl)
    | (obtain⟨t,rfl⟩:=rx;rfl)
theorem zmS:OpR X (compareOp .NotIn) (fun x y H Q=>∃ i j,x=.str i/\y=.str j/\Q (.bl (!(!(Builtin.Str.occurrences j i 0 j.length 1).isEmpty))) H):=by
 intro pins s U H x y v u Q I rx ry h
 obtain⟨i,j,rfl,rfl,q⟩:=h
 obtain⟨t,rfl⟩:=rx
 obtain⟨t',rfl⟩:=ry
 exact notIn_str (zjG I q rfl)
theorem OpR.or {f:Value->Value->Sem Value}{r r':R2}(h:OpR X f r)(h':OpR X f r'):OpR X f (fun x y H Q=>r x y H Q\/r' x y H Q):=by
 intro pins s U H x y v u Q I rx ry q
 rcases q with q | q
 ·exact h pins s U H x y v u Q I rx ry q
 ·exact h' pins s U H x y v u Q I rx ry q
theorem zpu (b:Expr){op:CmpOp}(h:op≠.In:=by decide)(h2:op≠.NotIn:=by decide):behindInMarks op b=false:=by
  have e1:(op==CmpOp.In)=false:=by cases op<;>first | rfl | exact absurd rfl h
  have e2:(op==CmpOp.NotIn)=false:=by cases op<;>first | rfl | exact absurd rfl h2
  cases b<;>simp [behindInMarks,e1,e2]
theorem zn4 {op:CmpOp}{r:R2}(ho:OpR X (compareOp op) r)(ha:PE X a ta)(hb:PE X b tb)(hm:behindInMarks op b=false):PE X (.Compare a [op] [b] pos) (tOp r ta tb):=by
 intro pins s U H Q I h
 exact wpAny_Compare1 (zrC ha hb I h fun v u s2 x y H2 I2 rx ry q=>ho pins s2 U H2 x y v u Q I2 rx ry q) hm
def zsC (t:TE):TT:=fun U H Q=>t U H fun x H'=>∃ k,x=.bl k/\Q k H'
theorem znL {op:CmpOp}{r:R2}(ho:OpR X (compareOp op) r)(ha:PE X a ta)(hb:PE X b tb)(hm:behindInMarks op b=false):PT X (.Compare a [op] [b] pos) (zsC (tOp r ta tb)):=by
 intro pins s U H Q I h
 refine wpAny_isTrue_Compare1 (thn (ha pins s U H _ I h) fun v s1 ⟨x,H1,I1,r1,q1⟩=>thn (hb pins s1 U H1 _ I1 q1) fun u s2 ⟨y,H2,I2,r2,q2⟩ =>
  thn (ho pins s2 U H2 x y v u _ I2 r1 r2 q2) fun c s3 ⟨z,H3,I3,r3,k,e,q3⟩=>?_) hm
 subst e
 cases r3
 exact wpAny_truthy_bool ⟨H3,I3,q3⟩
def zpP (r r':R2)(ta tb tc:TE):TE:=fun U H Q=>ta U H fun x H1=>tb U H1 fun y H2=>r x y H2 fun z H3=>∃ k,z=.bl k /\
 (if k=true then tc U H3 fun w' H4=>r' y w' H4 Q else Q (.bl false) H3)
theorem zq9 {op op':CmpOp}{r r':R2}(ho:OpR X (compareOp op) r)(ho':OpR X (compareOp op') r')(ha:PE X a ta)(hb:PE X b tb)(hc:PE X c tc)
  (hm:lastMarks [op,op'] [b,c]=false:=by with_unfolding_all rfl):PT X (.Compare a [op,op'] [b,c] pos) (zsC (zpP r r' ta tb tc)):=by
 intro pins s U H Q I h
 refine isTrue_chain (thn (ha pins s U H _ I h) fun v s1 ⟨x,H1,I1,r1,q1⟩=>test_link (thn (hb pins s1 U H1 _ I1 q1) fun u s2 ⟨y,H2,I2,r2,q2⟩ =>
  thn (ho pins s2 U H2 x y v u _ I2 r1 r2 q2) fun d s3 ⟨z,H3,I3,r3,k,e,q3⟩=>?_)) hm
 subst e
 cases r3
 refine wpAny_truthy_bool ?_
 cases k with
 | false =>
  obtain⟨k',e',q'⟩:=q3
  cases e'
  exact ite_ff ⟨H3,I3,q'⟩
 | true =>
  refine ite_tt (test_last (thn (hc pins s3 U H3 _ I3 q3) fun w' s4 ⟨z',H4,I4,r4,q4⟩=>thn (ho' pins s4 U H4 y z' u w' _ I4 r2 r4 q4) fun d' s5 ⟨z2,H5,I5,r5,k2,e2,q5⟩=>?_))
  subst e2
  cases r5
  exact wpAny_truthy_bool ⟨H5,I5,q5⟩
theorem zgw:(sizeLine:Nat)<2 ^ 63:=by rw [sizeLine_eq];decide
theorem zoV:OpR X (binaryOp .Add) (fun x y H Q=>∃ i j,x=.str i/\y=.str j/\i.length+j.length<=sizeLine/\Q (.str (i++j)) H):=by
 intro pins s U H x y v u Q I rx ry h
 obtain⟨i,j,rfl,rfl,hz,q⟩:=h
 obtain⟨t,rfl⟩:=rx
 obtain⟨t',rfl⟩:=ry
 exact add_str (fun t' tk=>⟨.str (i++j),H,I.tok _,⟨_,rfl⟩,q⟩) hz
theorem vals1 {x:V}{us:List Value}(r:Vals [x] us):∃ u,us=[u]/\RelV x u:=by
 cases r with
 | cons r1 r2=>cases r2;exact⟨_,rfl,r1⟩
theorem vals2 {x y:V}{us:List Value}(r:Vals [x,y] us):∃ u w',us=[u,w']/\RelV x u/\RelV y w':=by
 cases r with
 | cons r1 r2 =>
  cases r2 with
  | cons r3 r4=>cases r4;exact⟨_,_,rfl,r1,r3⟩
theorem zq2:zaS X (.builtin "abs") (fun xs H Q=>∃ i,xs=[.int i]/\Q (.int (if i<0 then -i else i)) H):=by
 intro pins s U H xs us Q I r h
 obtain⟨i,rfl,q⟩:=h
 obtain⟨u,rfl,t,rfl⟩:=vals1 r
 exact call_abs_int fun u tk=>⟨.int (if i<0 then -i else i),H,I.tok _,⟨_,rfl⟩,q⟩
theorem zpy (hc:X.calm=true):zaS X (.builtin "max") (fun xs H Q=>∃ i j,xs=[.int i,.int j]/\Q (.int (if j > i then j else i)) H):=by
 intro pins s U H xs us Q I r h
 obtain⟨i,j,rfl,q⟩:=h
 obtain⟨u,w',rfl,⟨t,rfl⟩,⟨t',rfl⟩⟩:=vals2 r
 refine max_two_ints (I.ok.hd hc) fun h' tk k=>⟨_,H,I.kept k,?_,q⟩
 by_cases hj:j > i
 ·rw [if_pos hj,if_pos hj];exact⟨_,rfl⟩
 ·rw [if_neg hj,if_neg hj];exact⟨_,rfl⟩
theorem zps (hc:X.calm=true):zaS X (.builtin "min") (fun xs H Q=>∃ i j,xs=[.int i,.int j]/\Q (.int (if j<i then j else i)) H):=by
 intro pins s U H xs us Q I r h
 obtain⟨i,j,rfl,q⟩:=h
 obtain⟨u,w',rfl,⟨t,rfl⟩,⟨t',rfl⟩⟩:=vals2 r
 refine min_two_ints (I.ok.hd hc) fun h' tk k=>⟨_,H,I.kept k,?_,q⟩
 by_cases hj:j<i
 ·rw [if_pos hj,if_pos hj];exact⟨_,rfl⟩
 ·rw [if_neg hj,if_neg hj];exact⟨_,rfl⟩
theorem zqt:zaS X (.type "int") (fun xs H Q=>(∃ i,xs=[.int i]/\Q (.int i) H)\/∃ k,xs=[.bl k]/\Q (.int (if k then 1 else 0)) H):=by
 intro pins s U H xs us Q I r h
 rcases h with ⟨i,rfl,q⟩ | ⟨k,rfl,q⟩
 ·obtain⟨u,rfl,t,rfl⟩:=vals1 r
  exact call_int_int ⟨.int i,H,I,⟨_,rfl⟩,q⟩
 ·obtain⟨u,rfl,r1⟩:=vals1 r
  cases r1
  exact call_int_bool ⟨.int (if k then 1 else 0),H,I.tok _,⟨_,rfl⟩,q⟩
end
structure zkR (h:Heap)(x dx C:Addr)(mA:Str->Option Value):Prop where
 obj:h.get? x=some (PySem.W.instObj C dx)
 ns:h.Ns1 dx mA
 ne:dx≠x
theorem zpI {h:Heap}{dx:Addr}{mA:Str->Option Value}(n:h.Ns1 dx mA):∃ od,h.get? dx=some od/\∀ name,PySem.W.lookIn name od=some (mA name):=by
 obtain⟨o,es,ep,ho,hd,hk,_,hm⟩:=n
 refine⟨o,ho,fun name=>?_⟩
 have e:=hm name
 unfold nsFind findBy at e
 rw [<- Array.find?_toList] at e
 unfold PySem.W.lookIn
 rw [hd]
 dsimp only
 split
 ·rename_i y q
  rw [q] at e
  exact congrArg some e
 ·rename_i q
  rw [q] at e
  have a:es.toList.any (·.refKey)=false:=by
   rw [List.any_eq_false]
   intro y hy
   obtain⟨z,t,hkey⟩:=hk y (Array.mem_toList_iff.mp hy)
   simp [DictEntry.refKey,hkey]
  have a':¬ es.toList.any (·.refKey)=true:=by rw [a];exact qo
  rw [if_neg a']
  exact congrArg some e
theorem zkR.look {h:Heap}{x dx C:Addr}{mA:Str->Option Value}(I:zkR h x dx C mA):∃ od,PySem.W.InstAt h x (PySem.W.instObj C dx) C (some od)/\∀ name,PySem.W.lookIn name od=some (mA name) :=
 let ⟨od,ho,hl⟩:=zpI I.ns
 ⟨od,⟨I.obj,rfl,rfl,ho⟩,hl⟩
section
variable {prog:Program}{w:World}{A:Around}{E:Value->Shared->Prop}{s:Shared}{K:PySem.W.Frag}{x dx C f:Addr}{mA:Str->Option Value}{name:Str}{v:Value}
theorem get_map {expr:Bool}{Q:Value->Shared->Prop}(X:K.In s.heap)(I:zkR s.heap x dx C mA)(hg:PySem.W.plainGet K C name=true)(hh:PySem.W.hasDictIn K C=true)
  (ha:PySem.W.findIn K (.ref C) name=some none) (hv:mA name=some v) (hv':PySem.W.handedIn v=true) (h:Q v { s with toks:=s.toks+1 }) :
  wpAny (model prog w) A (getAttr (.ref x) name expr) Q E s:=by
 obtain⟨od,J,hl⟩:=I.look
 exact PySem.W.get_value X J (PySem.W.plainGet_of hg).1 (PySem.W.findObj_own hh ha rfl (by rw [hl,hv])) hv' h
theorem zsV {ns:List Str}{Q:Unit->Shared->Prop}(X:K.In s.heap)(I:zkR s.heap x dx C mA)
  (hs:PySem.W.findIn K (.ref C) "__setattr__"=some (some (.builtin "object.__setattr__"))) (hp:PySem.W.plainOver K C=true) (ht:PySem.W.takerIn K C name=some none) (hh:PySem.W.hasDictIn K C=true)
  (hw:PySem.Within mA ns) (hsz:ns.length<=sizeLine)
  (h:∀ h',zkR h' x dx C (fun y=>if y=name then some v else mA y)->Heap.SameBut dx s.heap h'->Q () { s with heap:=h',toks:=s.toks+2 }) :
  wpAny (model prog w) A (setAttr (.ref x) name v) Q E s:=by
 obtain⟨od,J,hl⟩:=I.look
 refine PySem.W.set_plain X J hs (PySem.W.osa_open (s:={ s with toks:=s.toks+1 }) (r:=none) X J hp ht fun b=>?_)
 obtain⟨cd,hc,hd'⟩:=PySem.W.any_some hh
 have hx:s.heap.get? x=some ⟨.ref C,some dx,.plain,#[]⟩:=I.obj
 refine wpAny_bind (wpAny_pure (wpAny_bind (wpAny_bind (wpAny_loadPart hx (wpAny_bind (PySem.W.Looks.here (s:={ s with toks:=s.toks+1 }) (PySem.W.looks_clsIn X hc) ?_))))))
 rw [hd']
 refine wpAny_pure (a:=some dx) (wpAny_bind (wpAny_pure (wpAny_bind ?_)))
 refine wpAny_nsSet1 (s:={ s with toks:=s.toks+1 }) I.ns fun h' hn2 hs2=>?_
 obtain⟨oD,esD,epD,hoD,hdD,hcD⟩:=hn2.count (PySem.Within.cons name v hw)
 refine wpAny_bind (wpAny_lookBehind hoD (by rw [hdD];exact pastItsLine_dict (qK hcD (by rw [List.length_cons];omega))) ?_)
 exact wpAny_pure (h _ ⟨(hs2.2 _ (Ne.symm I.ne)).trans I.obj,hn2,I.ne⟩ hs2)
theorem zq3 {R:Result->Shared->Prop}{vs:List Value}{kw:List (Str×Value)}(X:K.In s.heap)(hm:PySem.W.makesIn K C=true)
    (hi:PySem.W.findIn K (.ref C) "__init__"=some (some (.ref f))) (hf:PySem.W.typeIn K (.ref f)=some (.type "function"))
    (h:codeAny (model prog w) (A.under (.builtin "type.__call__" ⟨.ref C::vs,kw⟩)) (.call (.ref f) ⟨.ref (s.heap.objs.size+1)::vs,kw⟩) (PySem.W.InitBack (s.heap.objs.size+1) R)
      { s with heap:=(s.heap.push PySem.W.emptyDict).push (PySem.W.instObj C s.heap.objs.size) }) :
    codeAny (model prog w) A (.call (.ref C) ⟨vs,kw⟩) R s:=by
  obtain⟨hh,g,d,t,os⟩:=s
  exact PySem.W.make_core (PySem.W.makes_of X hm) (PySem.W.looks_findIn X hi) (fun self=>PySem.W.bind_fn X self hf) (.inl rfl) h
end
def zca (f:Str)(v:V):List (Str×V)->List (Str×V)
 | []=>[(f,v)]
 | (g,x)::r=>if g=f then (g,v)::r else (g,x)::zca f v r
theorem ziW (f g:Str)(v:V):∀ fs:List (Str×V),(zca f v fs).lookup g=if g=f then some v else fs.lookup g
 | []=>by
  show List.lookup g [(f,v)]=_
  by_cases h:g=f
  ·have hb:(g==f)=true:=beq_iff_eq.mpr h
   simp only [List.lookup,hb,if_pos h]
  ·have hb:(g==f)=false:=beq_eq_false_iff_ne.mpr h
   simp only [List.lookup,hb,if_neg h]
 | (k,x)::r=>by
  have ih:=ziW f g v r
  rw [show zca f v ((k,x)::r)=(if k=f then (k,v)::r else (k,x)::zca f v r) from rfl]
  by_cases hk:k=f
  ·rw [if_pos hk]
   by_cases h:g=k
   ·have hb:(g==k)=true:=beq_iff_eq.mpr h
    simp only [List.lookup,hb,if_pos (h.trans hk)]
   ·have hb:(g==k)=false:=beq_eq_false_iff_ne.mpr h
    simp only [List.lookup,hb,if_neg (fun e:g=f=>h (e.trans hk.symm))]
  ·rw [if_neg hk]
   by_cases h:g=k
   ·have hb:(g==k)=true:=beq_iff_eq.mpr h
    simp only [List.lookup,hb,if_neg (fun e:g=f=>hk (h.symm.trans e))]
   ·have hb:(g==k)=false:=beq_eq_false_iff_ne.mpr h
    simp only [List.lookup,hb]
    exact ih
theorem zid (f:Str)(v:V):∀ fs:List (Str×V),f∈(zca f v fs).map (·.1)/\∀ g,g∈fs.map (·.1)->g∈(zca f v fs).map (·.1)
 | []=>⟨by simp [zca],fun g h=>by simp at h⟩
 | (k,x)::r=>by
  obtain⟨i1,i2⟩:=zid f v r
  rw [show zca f v ((k,x)::r)=(if k=f then (k,v)::r else (k,x)::zca f v r) from rfl]
  by_cases hk:k=f
  ·rw [if_pos hk]
   subst hk
   exact⟨by simp,fun g h=>by simpa using h⟩
  ·rw [if_neg hk]
   refine⟨?_,fun g h=>?_⟩
   ·rw [List.map_cons]
    exact qs _ i1
   ·rw [List.map_cons] at h ⊢
    rcases qf.mp h with e | e
    ·exact qf.mpr (.inl e)
    ·exact qs _ (i2 g e)
theorem ziV (f:Str)(v:V):∀ fs:List (Str×V),(zca f v fs).length<=fs.length+1
 | []=>by simp [zca]
 | (k,x)::r=>by
  have ih:=ziV f v r
  rw [show zca f v ((k,x)::r)=(if k=f then (k,v)::r else (k,x)::zca f v r) from rfl]
  by_cases hk:k=f
  ·rw [if_pos hk,List.length_cons,List.length_cons];omega
  ·rw [if_neg hk,List.length_cons,List.length_cons];omega
theorem zi5.some_of {v:V}{o:Option Value}(r:zi5 (some v) o):∃ u,o=some u/\RelV v u:=by
 cases o with
 | none=>exact (show False from r).elim
 | some u=>exact⟨u,rfl,r⟩
theorem zqg {v:V}{u:Value}(r:RelV v u):PySem.W.handedIn u=true:=by
 cases v with
 | non=>cases (show u=Value.none from r);rfl
 | bl b=>cases (show u=Value.bool b from r);rfl
 | int i=>obtain⟨t,e⟩:=(show ∃ t,u=Value.int i t from r);cases e;rfl
 | str x=>obtain⟨t,e⟩:=(show ∃ t,u=Value.str x t from r);cases e;rfl
 | byt b=>obtain⟨t,e⟩:=(show ∃ t,u=Value.bytes b t from r);cases e;rfl
 | flt b=>obtain⟨t,e⟩:=(show ∃ t,u=Value.float b t from r);cases e;rfl
 | ref a=>cases (show u=Value.ref a from r);rfl
 | ty n=>cases (show u=Value.type n from r);rfl
section
variable {P:Program}{w:World}{H H':Hp}{h h':Heap}{a C dx:Addr}{fs fs':List (Str×V)}
theorem zkr (hok:HOk P w H h)(e:H a=some (.ins C dx fs)):∃ mA,zkR h a dx C mA/\(∀ f,zi5 (fs.lookup f) (mA f))/\PySem.Within mA (fs.map (·.1))/\fs.length<=1000/\H dx=some (.own a):=by
 obtain⟨d,z,ne,ob,mA,n,r,q⟩:=(show zbo P w H h a (.ins C dx fs) from hok a _ e)
 exact⟨mA,⟨ob,n,ne⟩,r,q,z,d⟩
end
structure Cls (K:PySem.W.Frag)(C:Addr):Prop where
 pg:PySem.W.plainGet K C Str.empty=true
 hd:PySem.W.hasDictIn K C=true
 po:PySem.W.plainOver K C=true
 sa:PySem.W.findIn K (.ref C) "__setattr__"=some (some (.builtin "object.__setattr__"))
theorem Cls.get {K:PySem.W.Frag}{C:Addr}(c:Cls K C)(f:Str):PySem.W.plainGet K C f=true:=c.pg
def zaC (K:PySem.W.Frag)(C:Addr)(f:Str):Prop:=PySem.W.findIn K (.ref C) f=some none
theorem zaC.taker {K:PySem.W.Frag}{C:Addr}{f:Str}(n:zaC K C f):PySem.W.takerIn K C f=some none:=by
 unfold PySem.W.takerIn
 rw [show PySem.W.findIn K (.ref C) f=some none from n]
 rfl
section
variable {X:Cx}{pins:List (Addr×Obj)}{U:St}{H:Hp}{s:Shared}{a C dx:Addr}{fs:List (Str×V)}{f:Str}{v:V}{A:Around}{E:Value->Shared->Prop}
theorem zoT {b:Bool}{Q:Value->Shared->Prop}(I:Inv X pins U H s)(e:H a=some (.ins C dx fs))(c:Cls X.K C)(n:zaC X.K C f)(l:fs.lookup f=some v)
  (h:∀ u s',Inv X pins U H s'->RelV v u->Q u s'):wpAny (model X.prog X.w) A (getAttr (.ref a) f b) Q E s:=by
 obtain⟨mA,O,r,_,_,_⟩:=zkr I.hok e
 obtain⟨u,hu,ru⟩:=zi5.some_of (v:=v) (o:=mA f) (by rw [<- l];exact r f)
 exact get_map I.kIn O (c.get f) c.hd n hu (zqg ru) (h u _ (I.tok _) ru)
theorem zoY {y:V}{u:Value}{Q:Unit->Shared->Prop}(I:Inv X pins U H s)(e:H a=some (.ins C dx fs))(c:Cls X.K C)(n:zaC X.K C f)(hl:fs.length<1000)(ry:RelV y u)
  (h:∀ s',Inv X pins U (upd H a (.ins C dx (zca f y fs))) s'->Q () s'):wpAny (model X.prog X.w) A (setAttr (.ref a) f u) Q E s:=by
 obtain⟨mA,O,r,wi,_,ho⟩:=zkr I.hok e
 have hz:(fs.map (·.1)).length<=sizeLine:=by rw [qa,sizeLine_eq];omega
 refine zsV I.kIn O c.sa c.po n.taker c.hd wi hz fun h' O' sb=>h _ ?_
 have hd:∃ o,h'.get? dx=some o:=let ⟨o,_,_,e',_⟩:=O'.ns;⟨o,e'⟩
 refine I.write (x:=a) (e:=dx) (by rw [e];exact True.intro) (.inr ho) (fun b q hb z=>(sb.2 b hb).trans z) hd ?_
 refine⟨by rw [zaf O.ne];exact ho,?_,O.ne,O'.obj,_,O'.ns,fun g=>?_,fun g hg=>?_⟩
 ·have:=ziV f y fs;omega
 ·show zi5 ((zca f y fs).lookup g) (if g=f then some u else mA g)
  rw [ziW]
  by_cases q:g=f
  ·rw [if_pos q,if_pos q];exact ry
  ·rw [if_neg q,if_neg q];exact r g
 ·by_cases q:g=f
  ·rw [q];exact (zid f y fs).1
  ·refine (zid f y fs).2 g (wi g fun z=>hg ?_)
   show (if g=f then some u else mA g)=none
   rw [if_neg q];exact z
theorem Inv.made (I:Inv X pins U H s):Inv X pins U (upd (upd H s.heap.objs.size (.own (s.heap.objs.size+1))) (s.heap.objs.size+1) (.ins C s.heap.objs.size []))
    { s with heap:=(s.heap.push PySem.W.emptyDict).push (PySem.W.instObj C s.heap.objs.size) }:=by
  have e1:(s.heap.push PySem.W.emptyDict).get? s.heap.objs.size=some PySem.W.emptyDict:=Heap.get?_push_size s.heap rfl
  have e2:((s.heap.push PySem.W.emptyDict).push (PySem.W.instObj C s.heap.objs.size)).get? (s.heap.objs.size+1)=some (PySem.W.instObj C s.heap.objs.size):=by
    have:=Heap.get?_push_size (s.heap.push PySem.W.emptyDict) (o:=PySem.W.instObj C s.heap.objs.size) rfl
    rwa [Heap.size_push] at this
  have e3:(s.heap.push PySem.W.emptyDict).Ns s.heap.objs.size (fun _=>none):=⟨PySem.W.emptyDict,#[],_,e1,rfl,(fun e he=>absurd he (by simp)),fun _=>rfl⟩
  have I1:=I.laid (a:=s.heap.objs.size) (o:=.own (s.heap.objs.size+1)) (h':=s.heap.push PySem.W.emptyDict) (t':=s.toks) (fun b u q=>qc _ q) (qg _) ⟨_,e1⟩
  refine I1.laid (a:=s.heap.objs.size+1) (o:=.ins C s.heap.objs.size []) (t':=s.toks) (fun b u q=>qc _ q) (Nat.le_of_eq (Heap.size_push _ _)) ?_
  have ne:s.heap.objs.size≠s.heap.objs.size+1:=qB (Nat.lt_succ_self _)
  refine⟨by rw [zaf ne,za0],qJ _,ne,e2,fun _=>none,(Heap.Ns1.of_empty e3).at fun o q=>qc _ q,fun _=>True.intro,fun y hy=>absurd rfl hy⟩
theorem zs3 {prog:Program}{w:World}{env:Env}{e:Expr}{f:Str}{pos:Pos}{s:Shared}{Q:Value->Shared->Prop}(hb:attributeBase e f env (eval e env)=eval e env)
  (h:wpAny (model prog w) A (eval e env) (fun o s₁=>wpAny (model prog w) A (getAttr o f true) Q E s₁) E s):wpAny (model prog w) A (eval (.Attribute e f pos) env) Q E s :=
 Attribute_any_ h (by rw [arm_eval_Attribute,hb])
end
def zxV (K:PySem.W.Frag)(ta:TE)(f:Str):TE:=fun U H Q=>ta U H fun x H1=>∃ a C dx fs v,x=.ref a/\H1 a=some (.ins C dx fs)/\Cls K C/\zaC K C f/\fs.lookup f=some v/\Q v H1
def zym (K:PySem.W.Frag)(ta tv:TE)(f:Str):TS:=fun D U H=>tv U H fun y H1=>ta U H1 fun x H2=>∃ a C dx fs,x=.ref a/\H2 a=some (.ins C dx fs)/\Cls K C/\zaC K C f/\fs.length<1000 /\
 D.nx U (upd H2 a (.ins C dx (zca f y fs)))
section
variable {X:Cx}{o e value:Expr}{f:Str}{pos pos' tpos:Pos}{ta tv:TE}
theorem zvI (he:PE X e ta)(hb:attributeBase e f X.env (eval e X.env)=eval e X.env):PE X (.Attribute e f pos) (zxV X.K ta f):=by
 intro pins s U H Q I h
 refine zs3 hb (thn (he pins s U H _ I h) fun u s1 ⟨x,H1,I1,rx,a,C,dx,fs,v,ex,ea,c,n,l,q⟩=>?_)
 subst ex
 obtain rfl:u=Value.ref a:=rx
 exact zoT I1 ea c n l fun u' s2 I2 ru=>⟨v,H1,I2,ru,q⟩
theorem zuU (ha:PE X o ta)(hv:PE X value tv)(hs:swapsWith value (some (.Attribute o f pos')) pos.line X.env=pure false):PS X (.Assign [.Attribute o f pos'] value pos) (zym X.K ta tv f):=by
 intro pins s U H D I h
 refine plainObj_wpAny_Assign_Attribute (thn (hv pins s U H _ I h) fun u s1 ⟨y,H1,I1,ry,q⟩=>thn (ha pins s1 U H1 _ I1 q) fun ov s2 ⟨x,H2,I2,rx,a,C,dx,fs,ex,ea,c,n,l,q2⟩=>?_) hs
 subst ex
 obtain rfl:ov=Value.ref a:=rx
 exact zoY I2 ea c n l ry fun s3 I3=>⟨U,_,I3,q2⟩
end
section
variable {X:Cx}{pins:List (Addr×Obj)}{U:St}{H:Hp}{s:Shared}{A:Around}{E:Value->Shared->Prop}{Q:Value->Shared->Prop}{c:Value}{b:Bool}
inductive zeF (K:PySem.W.Frag)(H:Hp):V->Value->Prop where
 | non:zeF K H .non (.type "NoneType")
 | bl (x:Bool):zeF K H (.bl x) (.type "bool")
 | int (i:Int):zeF K H (.int i) (.type "int")
 | str (x:Str):zeF K H (.str x) (.type "str")
 | flt (x:UInt64):zeF K H (.flt x) (.type "float")
 | lst {a:Addr} {xs:List V} (e:H a=some (.lst xs)):zeF K H (.ref a) (.type "list")
 | frz {a:Addr} {o:Obj} {xs:List V} (e:H a=some (.frz o (.lst xs))):zeF K H (.ref a) (.type "list")
 | tup {a:Addr} {xs:List V} (e:H a=some (.tup xs)):zeF K H (.ref a) (.type "tuple")
 | dK {a:Addr} {kvs:List (Key×V)} (e:H a=some (.dK kvs)):zeF K H (.ref a) (.type "dict")
 | dT {a:Addr} {kvs:List (List Key×V)} (e:H a=some (.dT kvs)):zeF K H (.ref a) (.type "dict")
 | ins {a C dx:Addr} {fs:List (Str×V)} (e:H a=some (.ins C dx fs)) (cl:Cls K C) (ha:PySem.W.findIn K (.ref C) "__class__"=some (some (.builtin "object.__class__")))
   (hn:PySem.W.specialIn K (.builtin "object.__class__") "__get__"=some (some (.builtin "getset_descriptor.__get__"))) (htk:PySem.W.takesIn K (.builtin "object.__class__")=some true)
   (hm:PySem.W.mroIn K C (.type "object")=some true):zeF K H (.ref a) (.ref C)
theorem zpE {x:V}{u t:Value}(I:Inv X pins U H s)(rx:RelV x u)(ty:zeF X.K H x t)(e:PySem.W.kitOne X.K t c=some b)(h:∀ tk,Q (.bool b) { s with toks:=tk }) :
  wpAny (model X.prog X.w) A (call (.builtin "isinstance") [u,c]) Q E s:=by
 cases ty with
 | non=>cases (show u=Value.none from rx);exact PySem.W.kia_one PySem.W.kitx_none I.kIn True.intro e (fun z=>nomatch z) h
 | bl y=>cases (show u=Value.bool y from rx);exact PySem.W.kia_one PySem.W.kitx_bool I.kIn True.intro e (fun z=>nomatch z) h
 | int i=>obtain⟨t,q⟩:=(show ∃ t,u=Value.int i t from rx);cases q;exact PySem.W.kia_one PySem.W.kitx_int I.kIn True.intro e (fun z=>nomatch z) h
 | str y=>obtain⟨t,q⟩:=(show ∃ t,u=Value.str y t from rx);cases q;exact PySem.W.kia_one PySem.W.kitx_str I.kIn True.intro e (fun z=>nomatch z) h
 | flt y=>obtain⟨t,q⟩:=(show ∃ t,u=Value.float y t from rx);cases q;exact PySem.W.kia_one PySem.W.kitx_float I.kIn True.intro e (fun z=>nomatch z) h
 | @lst a xs ea =>
  cases (show u=Value.ref a from rx)
  obtain⟨_,_,n,_,h1⟩:=(show zbo X.prog X.w H s.heap a (.lst xs) from I.hok a _ ea)
  exact PySem.W.kia_one PySem.W.kitx_list I.kIn ⟨_,h1,rfl⟩ e (fun z=>nomatch z) h
 | @frz a ob xs ea =>
  cases (show u=Value.ref a from rx)
  obtain⟨_,_,_,n,_,h1⟩:=(show zbo X.prog X.w H s.heap a (.frz ob (.lst xs)) from I.hok a _ ea)
  exact PySem.W.kia_one PySem.W.kitx_list I.kIn ⟨_,h1,rfl⟩ e (fun z=>nomatch z) h
 | @tup a xs ea =>
  cases (show u=Value.ref a from rx)
  obtain⟨_,_,_,p⟩:=(show zbo X.prog X.w H s.heap a (.tup xs) from I.hok a _ ea)
  obtain⟨o,h1,h2,_⟩:=p
  exact PySem.W.kia_one PySem.W.kitx_tuple I.kIn ⟨o,h1,h2⟩ e (fun z=>nomatch z) h
 | @dK a kvs ea =>
  cases (show u=Value.ref a from rx)
  obtain⟨_,_,vs,_,p⟩:=(show zbo X.prog X.w H s.heap a (.dK kvs) from I.hok a _ ea)
  obtain⟨o,es,ep,h1,h2,_⟩:=p
  exact PySem.W.kia_one PySem.W.kitx_dict I.kIn ⟨o,h1,h2.1⟩ e (fun z=>nomatch z) h
 | @dT a kvs ea =>
  cases (show u=Value.ref a from rx)
  obtain⟨_,_,xs,_,o,es,ep,h1,h2,_⟩:=(show zbo X.prog X.w H s.heap a (.dT kvs) from I.hok a _ ea)
  exact PySem.W.kia_one PySem.W.kitx_dict I.kIn ⟨o,h1,h2.1⟩ e (fun z=>nomatch z) h
 | @ins a C dx fs ea cl ha hn htk hm =>
  cases (show u=Value.ref a from rx)
  obtain⟨mA,O,_⟩:=zkr I.hok ea
  obtain⟨od,J,_⟩:=O.look
  exact PySem.W.kia_one (PySem.W.kitx_own (cl.get _) cl.hd ha hn htk hm) I.kIn J e (fun z=>nomatch z) h
end
structure zaT (k:Nat)(A:Around):Prop where
 hd:A.handled=none
 dp:A.depth+3*k+5<recursionLimit
 un:A.units+16*k+200<cLine
theorem zaT.mono {j k:Nat}{A:Around}(r:zaT k A)(h:j<=k):zaT j A:=⟨r.hd,by have:=r.dp;omega,by have:=r.un;omega⟩
theorem zaT.deeper {k:Nat}{A:Around}(r:zaT (k+1) A)(env:Env):zaT k (A.deeper env) :=
 ⟨r.hd,by have:=r.dp;show A.depth+1+3*k+5<_;omega,by have:=r.un;show A.units+3+16*k+200<_;omega⟩
theorem zoR {A:Around}{C:Addr}{us:List Value}{kw:List (Str×Value)}:(A.under (.builtin "type.__call__" ⟨.ref C::us,kw⟩)).depth=A.depth+1:=by
 first | rfl | simp [Around.under,Code.weight,Code.isCreation,Code.isGuard,Code.isCaller,Code.frames,Code.isFrame,guardIds]
theorem zon {A:Around}{C:Addr}{us:List Value}{kw:List (Str×Value)}:(A.under (.builtin "type.__call__" ⟨.ref C::us,kw⟩)).units=A.units+1:=by
 first | rfl | simp [Around.under,Code.cUnits,Code.frames,Code.isFrame]
theorem zaT.make {k:Nat}{A:Around}(r:zaT (k+1) A)(C:Addr)(us:List Value)(kw:List (Str×Value)):zaT k (A.under (.builtin "type.__call__" ⟨.ref C::us,kw⟩)) :=
 ⟨r.hd,by have:=r.dp;rw [zoR];omega,by have:=r.un;rw [zon];omega⟩
theorem zaT.depth {k:Nat}{A:Around}(r:zaT k A):A.depth<recursionLimit:=by have:=r.dp;omega
theorem zaT.units {k:Nat}{A:Around}(r:zaT k A):A.units+64<cLine:=by have:=r.un;omega
def zxU:TA:=fun _ H Q=>Q [] H
def zwY (ta:TE)(tr:TA):TA:=fun U H Q=>ta U H fun x H1=>tr U H1 fun xs H2=>Q (x::xs) H2
section
variable {X:Cx}{e:Expr}{es:List Expr}{te:TE}{t:TA}{pos:Pos}
theorem zvp:PA X [] zxU:=fun _ _ _ _ H Q I h=>Calls.spliced_nil ⟨[],H,I,.nil,h⟩
theorem ztV (ha:PE X e te)(hr:PA X es t)(hs:starEach (e::es) X.env=(false,eval e X.env)::starEach es X.env:=by rfl):PA X (e::es) (zwY te t):=by
 intro pos pins s U H Q I h
 rw [hs]
 show wpAny _ _ (spliced ((false,eval e X.env)::backTo pos (starEach es X.env))) _ _ s
 refine Calls.spliced_cons (thn (ha pins s U H _ I h) fun u s1 ⟨x,H1,I1,r1,q1⟩=>?_)
 exact thn (hr pos pins s1 U H1 _ I1 q1) fun us s2 ⟨xs,H2,I2,r2,q2⟩=>⟨x::xs,H2,I2,.cons r1 r2,q2⟩
def zxL (t:TA):TE:=fun U H Q=>t U H fun xs H1=>xs.length<=sizeLine/\∀ p,H1 p=none->Q (.ref p) (upd H1 p (.tup xs))
def zxR (t:TA):TE:=fun U H Q=>t U H fun xs H1=>xs.length<=sizeLine/\∀ p,H1 p=none->Q (.ref p) (upd H1 p (.lst xs))
theorem zwc {x1}(h:PA X es t):PE X (.Tuple es x1 pos) (zxL t):=by
 intro pins s U H Q I hq
 refine wpAny_Tuple_spliced (thn (h pos pins s U H _ I hq) fun us s1 ⟨xs,H1,I1,r,z,q⟩=>⟨by rw [<- r.length];exact z,?_⟩)
 have hf:H1 s1.heap.objs.size=none:=I1.hok.fresh (qg _)
 refine⟨.ref s1.heap.objs.size,upd H1 s1.heap.objs.size (.tup xs),I1.laid (t':=s1.toks) (fun b u e=>qc _ e) (qg _) ?_,rfl,q _ hf⟩
 exact⟨z,us,r,⟨_,Heap.get?_push_size _ rfl,rfl,_,rfl⟩⟩
theorem zvO (h:PA X es t):PE X (.List es pos) (zxR t):=by
 intro pins s U H Q I hq
 refine wpAny_List_spliced (thn (h pos pins s U H _ I hq) fun us s1 ⟨xs,H1,I1,r,z,q⟩=>⟨by rw [<- r.length];exact z,?_⟩)
 have hf:H1 s1.heap.objs.size=none:=I1.hok.fresh (qg _)
 refine⟨.ref s1.heap.objs.size,upd H1 s1.heap.objs.size (.lst xs),I1.laid (t':=s1.toks) (fun b u e=>qc _ e) (qg _) ?_,rfl,q _ hf⟩
 exact⟨z,us,0,r,Heap.get?_push_size _ rfl⟩
end
abbrev Sp:=List V->Hp->VK->XK->Prop
abbrev CXT:=List Env->Hp->Shared->XK->Value->Shared->Prop
structure zi0 (P:Program)(w:World)(K:PySem.W.Frag)(mg:Str->Option Value)(base:Heap)(A:Around)(outer:List Env)(s:Shared)(H:Hp):Prop where
 frames:A.frames=some outer
 mod:Mod K mg base
 bs:∀ b o,base.get? b=some o->s.heap.get? b=some o/\H b=none
 bsz:base.objs.size<=s.heap.objs.size
 funs:s.heap.FunFrames base outer
 frf:∀ b∈frs outer,H b=none
 hok:HOk P w H s.heap
 bare:AllBare s.gens
def CE (outer:List Env)(P:Program)(w:World)(H:Hp)(s:Shared)(Q:VK)(u:Value)(s':Shared):Prop :=
 ∃ v H',s'.os=s.os/\AllBare s'.gens/\Un (frs outer) [] H H' s.heap s'.heap/\HOk P w H' s'.heap/\RelV v u/\Q v H'
def CR (CX:CXT)(outer:List Env)(P:Program)(w:World)(H:Hp)(s:Shared)(Q:VK)(E:XK)(r:Result)(s':Shared):Prop :=
 match r with
 | .ok (.ret u)=>CE outer P w H s Q u s'
 | .ok _=>False
 | .error e=>CX outer H s E e s'
structure zaa (P:Program)(w:World)(K:PySem.W.Frag)(mg:Str->Option Value)(base:Heap)(CX:CXT)(k:Nat)(f:Addr)(fd:FuncData)(ps:List Str)(sp:Sp):Prop where
 len:∀ vs H Q E,sp vs H Q E->vs.length=ps.length
 run:∀ (A:Around) (outer:List Env) (s:Shared) (H:Hp) (args:Args) (us:List Value) (vs:List V) (Q:VK) (E:XK),zaT k A->zi0 P w K mg base A outer s H->BindsTo s fd args (ps.zip us)->Vals vs us->sp vs H Q E ->
  codeAny (model P w) A (.call (.ref f) args) (CR CX outer P w H s Q E) s
theorem zaa.mono {P:Program}{w:World}{K:PySem.W.Frag}{mg:Str->Option Value}{base:Heap}{CX:CXT}{j k:Nat}{f:Addr}{fd:FuncData}{ps:List Str}{sp:Sp}(F:zaa P w K mg base CX j f fd ps sp)(h:j<=k) :
  zaa P w K mg base CX k f fd ps sp:=⟨F.len,fun A outer s H args us vs Q E hr=>F.run A outer s H args us vs Q E (hr.mono h)⟩
theorem zi0.make {P:Program}{w:World}{K:PySem.W.Frag}{mg:Str->Option Value}{base:Heap}{A:Around}{outer:List Env}{s:Shared}{H:Hp}(e:zi0 P w K mg base A outer s H)(C:Addr)(us:List Value)(kw:List (Str×Value)) :
  zi0 P w K mg base (A.under (.builtin "type.__call__" ⟨.ref C::us,kw⟩)) outer s H:=⟨by first | exact e.frames | (simpa [Around.under,Code.envs,Code.isFrame,pushEnvs] using e.frames),e.mod,e.bs,e.bsz,e.funs,e.frf,e.hok,e.bare⟩
section
variable {X:Cx}{pins:List (Addr×Obj)}{U:St}{H:Hp}{s s':Shared}
theorem Inv.env0 (I:Inv X pins U H s):zi0 X.prog X.w X.K X.mg X.base X.A X.stack s H :=
 ⟨I.ok.frames,I.ok.mod,I.bs,qK I.ok.bsz I.sz,I.stack,I.stkFree,I.hok,I.bare⟩
theorem Inv.after {Q:VK}{u:Value}(I:Inv X pins U H s)(h:CE X.stack X.prog X.w H s Q u s'):EP X pins U Q u s':=by
 obtain⟨v,H',os,bare,un,hok,r,q⟩:=h
 obtain⟨hh,g,d,t,os'⟩:=s'
 obtain rfl:os'=s.os:=os
 exact⟨v,H',I.call (h':=hh) (g':=g) (d':=d) (t':=t) (ch:=[]) un hok bare (fun b z=>absurd z (by simp)),r,q⟩
end
def zoy (sp:Sp)(dvs:List V)(E:XK)(t:TA):TE:=fun U H Q=>t U H fun vs H1=>sp (vs++dvs) H1 Q E
def Binds (K:PySem.W.Frag)(fd:FuncData)(ps:List Str)(ds:List Value):Prop :=
 ∀ (s:Shared) (us:List Value),K.In s.heap->(us++ds).length=ps.length->BindsTo s fd ⟨us,[]⟩ (ps.zip (us++ds))
theorem Binds.all {K:PySem.W.Frag}{fd:FuncData}{ps:List Str}(h:∀ us:List Value,us.length=ps.length->bindArgs fd ⟨us,[]⟩=pure (ps.zip us)):Binds K fd ps []:=fun s us _ hl=>by
 rw [List.append_nil] at hl ⊢
 exact .of_eq (h us hl)
def Passes (CX:CXT)(X:Cx)(E:XK):Prop:=∀ (pins:List (Addr×Obj)) (U:St) (H:Hp) (s:Shared) (e:Value) (s':Shared),Inv X pins U H s->CX X.stack H s E e s'->X.xe e s'
section
variable {X:Cx}{CX:CXT}{k:Nat}{f C:Addr}{fd:FuncData}{ps:List Str}{sp:Sp}{dvs:List V}{ds:List Value}{E:XK}{x m:Str}{p pos apos:Pos}{e o:Expr}{es:List Expr}{ta:TE}{t:TA}
theorem zuf {pins:List (Addr×Obj)}{U:St}{H:Hp}{s:Shared}{Q:VK}{us:List Value}{vs:List V}(F:zaa X.prog X.w X.K X.mg X.base CX k f fd ps sp)(hr:zaT k X.A)(hb:Binds X.K fd ps ds)(hd:Vals dvs ds)(hx:Passes CX X E)
  (I:Inv X pins U H s) (r:Vals vs us) (h:sp (vs++dvs) H Q E):wpAny (model X.prog X.w) X.A (call (.ref f) us) (EP X pins U Q) X.xe s:=by
 have r2:Vals (vs++dvs) (us++ds):=r.append hd
 have hl:(us++ds).length=ps.length:=by rw [<- r2.length];exact F.len _ _ _ _ h
 refine wpAny_call (codeAny_mono (F.run X.A X.stack s H ⟨us,[]⟩ (us++ds) (vs++dvs) Q E hr I.env0 (hb s us I.kIn hl) r2 h) fun r s' hq=>?_)
 cases r with
 | error e=>exact hx pins U H s e s' I hq
 | ok fl =>
  cases fl with
  | ret u=>exact I.after hq
  | next=>exact False.elim hq
  | brk=>exact False.elim hq
  | cont=>exact False.elim hq
theorem ztY (F:zaa X.prog X.w X.K X.mg X.base CX k f fd ps sp)(hr:zaT k X.A)(hg:Gl X x)(hm:X.mg x=some (.ref f))(hk:PySem.W.keepIn X.K (.ref f)=true)(hb:Binds X.K fd ps ds)(hd:Vals dvs ds)(hx:Passes CX X E)
  (ha:PA X (e::es) t) (hdb:(x==("__debug__":Str))=false:=by decide) (he:starEach (e::es) X.env=(false,eval e X.env)::starEach es X.env:=by rfl) (hpl:(backTo pos (starEach es X.env)).any (·.1)=false:=by rfl) :
  PE X (.Call (.Name x p) (e::es) [] pos) (zoy sp dvs E t):=by
 intro pins s U H Q I h
 refine wpAny_Call_Name_kw (zgI I hg hm ?_ hdb)
 refine PySem.W.callWith_K (h₀:=X.base) I.ok.mod.kin hk (thn (ha pos pins s U H _ I h) fun us s1 ⟨vs,H1,I1,r,q⟩=>⟨I1.kIn,?_⟩) he hpl
 exact zuf F hr hb hd hx I1 r q
structure Mk (K:PySem.W.Frag)(C f:Addr):Prop where
 makes:PySem.W.makesIn K C=true
 init:PySem.W.findIn K (.ref C) "__init__"=some (some (.ref f))
 fn:PySem.W.isFn K (.ref f)=true
 kp:PySem.W.keepIn K (.ref C)=true
theorem zrv {pins:List (Addr×Obj)}{U:St}{H:Hp}{s:Shared}{Q:VK}{us:List Value}{vs:List V}(M:Mk X.K C f)(F:zaa X.prog X.w X.K X.mg X.base CX k f fd ps sp)(hr:zaT (k+1) X.A)(hb:Binds X.K fd ps ds)(hd:Vals dvs ds)
  (hx:Passes CX X E) (I:Inv X pins U H s) (r:Vals vs us)
  (h:∀ x dx,H x=none->H dx=none->dx≠x->sp (.ref x::(vs++dvs)) (upd (upd H dx (.own x)) x (.ins C dx [])) (fun v H2=>v=.non/\Q (.ref x) H2) E) :
  wpAny (model X.prog X.w) X.A (call (.ref C) us) (EP X pins U Q) X.xe s:=by
 have hq:=h (s.heap.objs.size+1) s.heap.objs.size (I.hok.fresh (Nat.le_succ _)) (I.hok.fresh (qg _)) (qB (Nat.lt_succ_self _))
 have I2:=Inv.made (C:=C) I
 have r2:Vals (V.ref (s.heap.objs.size+1)::(vs++dvs)) (Value.ref (s.heap.objs.size+1)::(us++ds)):=.cons rfl (r.append hd)
 have hl:(Value.ref (s.heap.objs.size+1)::us++ds).length=ps.length:=by
  have e:=r2.length
  rw [F.len _ _ _ _ hq] at e
  exact e.symm
 refine wpAny_call (zq3 (f:=f) I.kIn M.makes M.init (beq_iff_eq.mp M.fn) (codeAny_mono (F.run _ X.stack _ _ ⟨Value.ref (s.heap.objs.size+1)::us,[]⟩ (Value.ref (s.heap.objs.size+1)::(us++ds)) _ _ E (hr.make C us [])
  (I2.env0.make C us []) (hb _ (Value.ref (s.heap.objs.size+1)::us) I2.kIn hl) r2 hq) fun r s' hq'=>?_))
 cases r with
 | error e=>exact hx pins U _ _ e s' I2 hq'
 | ok fl =>
  cases fl with
  | ret u =>
   obtain⟨v,H',I3,rv,ev,q3⟩:=I2.after hq'
   subst ev
   exact⟨rv,⟨V.ref (s.heap.objs.size+1),H',I3,rfl,q3⟩⟩
  | next=>exact False.elim hq'
  | brk=>exact False.elim hq'
  | cont=>exact False.elim hq'
end
section
variable {X:Cx}{CX:CXT}{k:Nat}{f C:Addr}{fd:FuncData}{ps ks:List Str}{sp:Sp}{E:XK}{x m:Str}{p pos apos kpos:Pos}{e o:Expr}{es:List Expr}{kws:List Keyword}{te ta:TE}{t tk:TA}{nm:Option Str}
variable {g:List Value->List Value->List Value}{gV:List V->List V->List V}
end
structure zQ (N P:List Str)(sc:Scope):Prop where
 kind:sc.kind=.function
 co:sc.isCoroutine=false
 gen:sc.isGenerator=false
 nd:N.Nodup
 pre:N.take P.length=P
 par:∀ x∈P,sc.names.lookup x=some .local\/sc.names.lookup x=some .cell
 nofree:∀ y∈sc.names,y.2≠.free
theorem zk9 {kindOf:Str->Option NameKind}{x:Str}:∀ {binds:List (Str×Value)} {m:Str->Option Value},(∀ v,(x,v)∉binds)->bindL kindOf binds m x=m x
 | [],_,_=>rfl
 | (n,v)::r,m,h=>by
  unfold bindL
  rw [zk9 fun w hw=>h w (qs _ hw)]
  split
  ·have:x≠n:=by rintro rfl;exact h v List.mem_cons_self
   simp [this]
  ·rfl
theorem zlh {kindOf:Str->Option NameKind}{x:Str}:∀ {binds:List (Str×Value)} {m:Str->Option Value},(∀ v,(x,v)∉binds)->bindC kindOf binds m x=m x
 | [],_,_=>rfl
 | (n,v)::r,m,h=>by
  unfold bindC
  rw [zlh fun w hw=>h w (qs _ hw)]
  split
  ·rfl
  ·have:x≠n:=by rintro rfl;exact h v List.mem_cons_self
   simp [this]
theorem zle {kindOf:Str->Option NameKind}{x:Str}{v:Value}:∀ {P:List Str} {vs:List Value} {i:Nat} {m:Str->Option Value},P.Nodup->P[i]?=some x->vs[i]?=some v->kindOf x=some .local ->
  bindL kindOf (P.zip vs) m x=some v
 | [],_,_,_,_,h,_,_=>by simp at h
 | _::_,[],_,_,_,_,h,_=>by simp at h
 | p::P,w::vs,0,m,nd,h1,h2,hk=>by
  simp at h1 h2;subst h1;subst h2
  show bindL kindOf ((p,w)::P.zip vs) m p=_
  unfold bindL
  rw [zk9 fun v hv=>(List.nodup_cons.mp nd).1 (List.of_mem_zip hv).1,if_pos hk]
  simp
 | p::P,w::vs,i+1,m,nd,h1,h2,hk=>by
  show bindL kindOf ((p,w)::P.zip vs) m x=_
  unfold bindL
  exact zle (i:=i) (List.nodup_cons.mp nd).2 (by simpa using h1) (by simpa using h2) hk
theorem zk0 {kindOf:Str->Option NameKind}{x:Str}{v:Value}:∀ {P:List Str} {vs:List Value} {i:Nat} {m:Str->Option Value},P.Nodup->P[i]?=some x->vs[i]?=some v->kindOf x≠some .local ->
  bindC kindOf (P.zip vs) m x=some v
 | [],_,_,_,_,h,_,_=>by simp at h
 | _::_,[],_,_,_,_,h,_=>by simp at h
 | p::P,w::vs,0,m,nd,h1,h2,hk=>by
  simp at h1 h2;subst h1;subst h2
  show bindC kindOf ((p,w)::P.zip vs) m p=_
  unfold bindC
  rw [zlh fun v hv=>(List.nodup_cons.mp nd).1 (List.of_mem_zip hv).1,if_neg hk]
  simp
 | p::P,w::vs,i+1,m,nd,h1,h2,hk=>by
  show bindC kindOf ((p,w)::P.zip vs) m x=_
  unfold bindC
  exact zk0 (i:=i) (List.nodup_cons.mp nd).2 (by simpa using h1) (by simpa using h2) hk
def start (N:List Str)(vs:List V):St:=vs.map some++List.replicate (N.length-vs.length) none
def zgq (CX:CXT)(P:Program)(w:World)(K:PySem.W.Frag)(mg:Str->Option Value)(base:Heap)(N:List Str)(qual:Str)(scope:Scope)(f:Addr)(cd:Value)(A:Around)(outer:List Env)(s:Shared)(H:Hp)(E:XK):Cx where
 prog:=P
 w:=w
 K:=K
 mg:=mg
 base:=base
 A:=A.deeper (envOfC qual scope s.heap.objs.size f cd)
 N:=N
 s₀:=s
 H₀:=H
 env:=envOfC qual scope s.heap.objs.size f cd
 outer:=outer
 stack:=envOfC qual scope s.heap.objs.size f cd::outer
 ex:=[]
 calm:=true
 fn:=fun _=>true
 pn:=[]
 xe:=fun e s'=>wpAny (model P w) (A.deeper (envOfC qual scope s.heap.objs.size f cd)) (leaving (envOfC qual scope s.heap.objs.size f cd) e) (fun _ s''=>CX outer H s E e s'') (fun e' s''=>CX outer H s E e' s'') s'
theorem zmG {sc:Scope}{n:Nat}{x:Str}(h:sc.names.lookup x=some .cell):∃ c,(cellsFrom n sc.names []).lookup x=some c:=by
 have q:=PySem.W.cellsFrom_some sc.names n [] (.inl h)
 exact Option.isSome_iff_exists.mp q
theorem zpH {CX:CXT}{P:Program}{w:World}{K:PySem.W.Frag}{mg:Str->Option Value}{base:Heap}{N ps:List Str}{qual:Str}{scope:Scope}{f:Addr}{cd:Value}{A:Around}{outer:List Env}{s s1:Shared}{H:Hp}{E:XK}{us:List Value}{vs:List V}
    (S:zQ N ps scope) (hd:A.handled=none) (e0:zi0 P w K mg base A outer s H) (hl:vs.length=ps.length) (r:Vals vs us)
    (x:InCallC s s.heap.objs.size (bindL (envOfC qual scope s.heap.objs.size f cd).kindOf (ps.zip us) fun _=>none) (cellsFrom (s.heap.objs.size+1) scope.names []) (bindC (envOfC qual scope s.heap.objs.size f cd).kindOf (ps.zip us) fun _=>none) s1) :
    Inv (zgq CX P w K mg base N qual scope f cd A outer s H E) [] (start N vs) H s1:=by
  have hpl:ps.length<=N.length:=by have:=congrArg List.length S.pre;rw [List.length_take] at this;omega
  obtain⟨h1,tk,rfl,hk⟩:=x.done
  have noA:∀ b:Addr,b∉(zgq CX P w K mg base N qual scope f cd A outer s H E).ex:=fun b z=>absurd (show b∈([]:List Addr) from z) (by simp)
  refine⟨⟨e0.mod,S.kind,rfl,rfl,qg _,fun y z c h1 h2=>?_,fun y hy=>?_,fun y c _ h=>?_,fun _=>hd,Around.frames_deeper e0.frames,.inr ⟨rfl,rfl⟩,fun b z=>absurd z (noA b),e0.bs,e0.bsz,fun b _ _=>noA b,fun b z=>absurd z (noA b),e0.funs,e0.frf⟩,
    rfl,e0.bare,Un.kept hk,⟨_,x.toInCall.ns,fun i y v h1 h2 h3=>?_⟩,fun y c h=>⟨_,x.cell y c h⟩,e0.hok.fresh (qg _),fun y c h=>?_,fun p hp=>absurd (show p∈([]:List (Addr×Obj)) from hp) (by simp),e0.hok.kept hk,?_⟩
  . exact name_of_addr x.apart (PySem.mem_of_lookup h1) (PySem.mem_of_lookup h2)
  . have hy:scope.names.lookup y=some .cell\/scope.names.lookup y=some .free:=hy
    rcases hy with hy | hy
    . exact zmG hy
    . exact absurd rfl (S.nofree _ (PySem.mem_of_lookup hy))
  . exact Nat.le_of_lt (x.above y c (PySem.mem_of_lookup h))
  . have hi : i < vs.length := by
      unfold start at h2
      by_cases hi:i<vs.length
      . exact hi
      . rw [ql (by simpa using hi)] at h2
        rw [List.getElem?_replicate] at h2
        split at h2<;>cases h2
    have ha:vs[i]?=some v:=by
      unfold start at h2
      rw [qv (by simpa using hi),qh] at h2
      cases e:vs[i]? with
      | none=>rw [e] at h2;cases h2
      | some a=>rw [e] at h2;cases h2;rfl
    obtain⟨u,hu,rv⟩:=r.get ha
    have hp:ps[i]?=some y:=by
      rw [<- S.pre,List.getElem?_take_of_lt (by omega)];exact h1
    have ndP:ps.Nodup:=by rw [<- S.pre];exact S.nd.sublist (List.take_sublist _ _)
    refine⟨u,rv,?_⟩
    rcases S.par y (qd hp) with k | k
    . exact .inl ⟨k,zle ndP hp hu k⟩
    . obtain⟨c,e⟩:=zmG (n:=s.heap.objs.size+1) k
      refine .inr ⟨.inl k,c,e,?_⟩
      have q:=x.cell y c e
      rw [zk0 ndP hp hu (by show scope.names.lookup y≠_;rw [k];decide)] at q
      exact q
  . exact e0.hok.fresh (Nat.le_of_lt (x.above y c (PySem.mem_of_lookup h)))
  . unfold start
    show _=N.length
    rw [qe,qa,qw]
    omega
theorem zsm {CX:CXT}{P:Program}{w:World}{K:PySem.W.Frag}{mg:Str->Option Value}{base:Heap}{k:Nat}{f:Addr}{name qual:Str}{params:Arguments}{body:List Stmt}{scope:Scope}{dV kV doc pm cdv ct oc:Value}{an od:Option Addr}
  {osl:Array (Option Value)} {N ps:List Str} {sp:Sp} (lk:K.lookup f=some ⟨oc,od,.func (PySem.W.fnOf name qual params body scope dV kV doc pm an cdv ct),osl⟩) (hcd:PySem.W.codeIn K cdv qual=true) (S:zQ N ps scope)
  (len:∀ vs H Q E,sp vs H Q E->vs.length=ps.length)
  (hbody:∀ (A:Around) (outer:List Env) (s:Shared) (H:Hp) (vs:List V) (Q:VK) (E:XK),zaT k (A.deeper (envOfC qual scope s.heap.objs.size f cdv))->sp vs H Q E ->
   ∃ t,PSs (zgq CX P w K mg base N qual scope f cdv A outer s H E) body t/\t { nx:=fun _ H'=>Q .non H',rt:=Q } (start N vs) H) :
  zaa P w K mg base CX (k+1) f (PySem.W.fnOf name qual params body scope dV kV doc pm an cdv ct) ps sp:=by
 refine⟨len,fun A outer s H args us vs Q E hr e0 hb r hsp=>?_⟩
 have hl:=len _ _ _ _ hsp
 have KX:K.In s.heap:=e0.mod.kin.keeps fun b o e=>(e0.bs b o e).1
 have lim:s.heap.NoLimit:=e0.mod.nolimit.keeps fun b o e=>(e0.bs b o e).1
 have hkind:∀ y∈ps.zip us,scope.names.lookup y.1=some .local\/(scope.names.lookup y.1=some .cell/\((cellsFrom (s.heap.objs.size+1) scope.names []).lookup y.1).isSome=true):=fun⟨n,v⟩ hy=>by
  rcases S.par n (List.of_mem_zip hy).1 with q | q
  ·exact .inl q
  ·exact .inr ⟨q,PySem.W.cellsFrom_some _ _ _ (.inl q)⟩
 refine codeAny_call_function hr.depth (KX _ _ lk) rfl S.co S.gen rfl (PySem.W.codeRec_of KX hcd) (hb _ _ _ _ ?_)
 refine wpAny_newFunctionEnv_cells S.kind hkind fun env he s1 x=>?_
 subst he
 refine⟨lim.keeps x.toInCall.keep,codeAny_func ?_⟩
 obtain⟨t,ht,hq⟩:=hbody A outer s H vs Q E (hr.deeper _) hsp
 have I:Inv (zgq CX P w K mg base N qual scope f cdv A outer s H E) [] (start N vs) H s1:=zpH S hr.hd e0 hl r x
 refine wpAny_mono (ht [] s1 (start N vs) H _ I hq) (fun fl s' hs=>?_) fun e s' hs=>hs
 have fin:∀ {σ':St} {H':Hp} {v:V} {u:Value},Inv (zgq CX P w K mg base N qual scope f cdv A outer s H E) [] σ' H' s'->RelV v u->Q v H'->CE outer P w H s Q u s' :=
  fun {σ' H' v u} J rv q=>⟨v,H',J.os,J.bare,J.base,J.hok,rv,q⟩
 cases fl with
 | ret u =>
  obtain⟨v,σ',H',J,rv,q⟩:=hs
  exact fin J rv q
 | next =>
  obtain⟨σ',H',J,q⟩:=hs
  exact fin (v:=V.non) (u:=Value.none) J rfl q
 | brk =>
  obtain⟨_,_,_,q⟩:=hs
  exact False.elim q
 | cont =>
  obtain⟨_,_,_,q⟩:=hs
  exact False.elim q
section
variable {X:Cx}{x:Str}{p pos:Pos}{e:Expr}{es:List Expr}{t:TA}{id T:String}{r:List V->Hp->VK->Prop}
def tCB (r:List V->Hp->VK->Prop)(t:TA):TE:=fun U H Q=>t U H fun vs H1=>r vs H1 Q
theorem zr4 (hc:zaS X (.builtin id) r)(hg:Gl X x)(hm:X.mg x=none)(hv:bootBuiltins x=some (.builtin id))(ha:PA X (e::es) t)(hn:x≠"__name__":=by decide)(hdb:(x==("__debug__":Str))=false:=by decide)
  (he:starEach (e::es) X.env=(false,eval e X.env)::starEach es X.env:=by rfl) (hpl:(backTo pos (starEach es X.env)).any (·.1)=false:=by rfl):PE X (.Call (.Name x p) (e::es) [] pos) (tCB r t):=by
 intro pins s U H Q I h
 refine wpAny_Call_Name_kw (zcX I hg hm hv ?_ hn hdb)
 exact PyProof.Rows.callWith_builtin1 (thn (ha pos pins s U H _ I h) fun us s1 ⟨vs,H1,I1,r1,q1⟩=>hc pins s1 U H1 vs us Q I1 r1 q1) he hpl
theorem zpZ (hc:zaS X (.type T) r)(hg:Gl X x)(hm:X.mg x=none)(hv:bootBuiltins x=some (.type T))(ha:PA X (e::es) t)(hn:x≠"__name__":=by decide)(hdb:(x==("__debug__":Str))=false:=by decide)
  (he:starEach (e::es) X.env=(false,eval e X.env)::starEach es X.env:=by rfl) (hpl:(backTo pos (starEach es X.env)).any (·.1)=false:=by rfl):PE X (.Call (.Name x p) (e::es) [] pos) (tCB r t):=by
 intro pins s U H Q I h
 refine wpAny_Call_Name_kw (zcX I hg hm hv ?_ hn hdb)
 exact PyProof.Rows.callWith_type1 (thn (ha pos pins s U H _ I h) fun us s1 ⟨vs,H1,I1,r1,q1⟩=>hc pins s1 U H1 vs us Q I1 r1 q1) he hpl
end
end L2
namespace HT
open PySem PyProof.Rows
section
open PySem.SeqAt
open PySem.AutoSeq1 (wpAny_loadPart')
open PySem.MeetsSeq PySem.MeetsSeq2 PySem.MeetsSeq3
end
section
variable {prog:Program}{w:World}{A:Around}{E:Value->Shared->Prop}{s:Shared}
theorem zsO {t b:Addr}{vs ws:List Value}{Q:Value->Shared->Prop}(ht:IsTup s.heap t vs.toArray)(hb:IsTup s.heap b ws.toArray)(hv:vs≠[])
  (h1:ws=[]->Q (.ref t) s) (h2:ws≠[]->Q (.ref s.heap.objs.size) { s with heap:=s.heap.push { cls:=.type "tuple",data:=.seq (vs++ws).toArray } })
  (hsz:vs.length+ws.length<=sizeLine):wpAny (model prog w) A (binaryOp .Add (.ref t) (.ref b)) Q E s:=by
 obtain⟨⟨cls,dd,data,sl⟩,ho,hc,n,hd⟩:=id ht
 obtain⟨⟨cls2,dd2,data2,sl2⟩,ho2,hc2,n2,hd2⟩:=id hb
 simp only at hc hd hc2 hd2
 subst hc hd hc2 hd2
 have e:vs.toArray++ws.toArray=(vs++ws).toArray:=by simp
 by_cases hw:ws=[]
 ·exact concat_meets ⟨_,ho,rfl⟩ ⟨_,ho2,rfl⟩ noFill_tuple_add seq_tuple_add PySem.F.slot_tuple_add PySem.F.entry_tuple_add (PySem.F.args_tuple_add_2 _ _)
   (tuple_addW1 t b vs.toArray ws.toArray n n2 dd dd2 sl sl2 (by simpa using hv) (by simp [hw])) ⟨ho,ho2,h1 hw⟩
 ·refine concat_meets ⟨_,ho,rfl⟩ ⟨_,ho2,rfl⟩ noFill_tuple_add seq_tuple_add PySem.F.slot_tuple_add PySem.F.entry_tuple_add (PySem.F.args_tuple_add_2 _ _)
   (tuple_addW2 t b vs.toArray ws.toArray n n2 dd dd2 sl sl2 (by simpa using hv) (by simpa using hw) (by rw [qi,qi];exact hsz)) ⟨ho,ho2,?_⟩
  rw [e]
  exact h2 hw
def sIx (n d:Nat):Option Int->Nat
 | none=>d
 | some v=>if v<0 then (v+(n:Int)).toNat else min v.toNat n
theorem zju (n d:Nat)(hd:d<=n)(o:Option Int):sIx n d o<=n:=by
 cases o with
 | none=>exact hd
 | some v =>
  show (if v<0 then (v+(n:Int)).toNat else min v.toNat n)<=n
  by_cases hv:v<0
  ·rw [if_pos hv];omega
  ·rw [if_neg hv];exact Nat.min_le_right _ _
theorem znY (v:Int)(n d:Nat):(if v<0 then max (v+(n:Int)) 0 else min v (n:Int))=((sIx n d (some v):Nat):Int):=by
 show (if v<0 then max (v+(n:Int)) 0 else min v (n:Int))=(((if v<0 then (v+(n:Int)).toNat else min v.toNat n):Nat):Int)
 by_cases hv:v<0
 ·simp only [if_pos hv];omega
 ·simp only [if_neg hv];omega
theorem zo8 (lo hi:Option Int)(n:Nat):Builtin.Slice.sliceAdjust lo hi 1 (n:Int)=(((sIx n 0 lo:Nat):Int),((sIx n n hi:Nat):Int)):=by
 have h1:¬ ((1:Int)<0):=by omega
 unfold Builtin.Slice.sliceAdjust
 simp only [h1,if_false]
 refine Prod.ext ?_ ?_
 ·cases lo with
  | none=>rfl
  | some v=>exact znY v n 0
 ·cases hi with
  | none=>rfl
  | some v=>exact znY v n n
theorem zo7 (i j:Nat):Builtin.Slice.slicePlaces (i:Int) (j:Int) 1=j-i:=by
  unfold Builtin.Slice.slicePlaces
  have h1:(1:Int) > 0:=by omega
  simp only [h1,if_true,Int.ediv_one]
  split<;>omega
theorem zkg {v:Value}{o:Option Int}{Q:Option Int->Shared->Prop}(p:IsPart v o)(h:Q o s):wpAny (model prog w) A (Builtin.Slice.slicePartIndex v) Q E s:=by
 cases p with
 | none=>exact slicePart_none h
 | int i t=>exact slicePart_int h
theorem zfH {sl:Addr}{vl vu:Value}{lo hi:Option Int}{n:Nat}{Q:Int×Int×Nat->Shared->Prop}(hs:s.heap.IsSliceOf sl vl vu .none)(pl:IsPart vl lo)(pu:IsPart vu hi)
  (h:Q (((sIx n 0 lo:Nat):Int),1,sIx n n hi-sIx n 0 lo) s):wpAny (model prog w) A (Builtin.Slice.sliceApplied (.ref sl) (pure (n:Int))) Q E s:=by
 obtain⟨os,hos,hcs,hds⟩:=id hs
 unfold Builtin.Slice.sliceApplied Builtin.Slice.sliceFields
 refine wpAny_bind (wpAny_bind (wpAny_field hos hds (x:=vl) rfl (wpAny_bind (wpAny_field hos hds (x:=vu) rfl (wpAny_bind (wpAny_field hos hds (x:=.none) rfl (wpAny_pure ?_)))))))
 refine wpAny_bind (slicePart_none ?_)
 show wpAny _ _ (if ((1:Int)==0)=true then _ else _) _ _ s
 rw [if_neg (by decide)]
 refine wpAny_bind (zkg pl (wpAny_bind (zkg pu (wpAny_bind (wpAny_pure ?_)))))
 show wpAny _ _ (match Builtin.Slice.sliceAdjust lo hi 1 (n:Int) with | (lo,hi)=>pure (lo,(1:Int),Builtin.Slice.slicePlaces lo hi 1)) _ _ s
 rw [zo8 lo hi n]
 show wpAny _ _ (pure (((sIx n 0 lo:Nat):Int),(1:Int),Builtin.Slice.slicePlaces ((sIx n 0 lo:Nat):Int) ((sIx n n hi:Nat):Int) 1)) _ _ s
 rw [zo7]
 exact wpAny_pure h
theorem zqY (xs:Array Value)(i k:Nat):((List.range k).filterMap fun (m:Nat)=>xs[((i:Int)+(m:Int)*1).toNat]?).toArray=((xs.toList.drop i).take k).toArray:=by
 have e:(fun (m:Nat)=>xs[((i:Int)+(m:Int)*1).toNat]?)=fun m=>xs[i+m]?:=by
  funext m
  have:((i:Int)+(m:Int)*1).toNat=i+m:=by omega
  rw [this]
 rw [e]
 have:=pick_run xs i k
 rw [List.filterMap_map] at this
 have e2:((fun x=>xs[x]?) ∘ fun x=>i+x)=fun m=>xs[i+m]?:=rfl
 rw [e2] at this
 rw [this]
theorem ziR {t sl:Addr}{items:Array Value}{vl vu:Value}{lo hi:Option Int}{Q:Value->Shared->Prop}(ht:IsTup s.heap t items)(hs:s.heap.IsSliceOf sl vl vu .none)(pl:IsPart vl lo)(pu:IsPart vu hi)
  (hw:¬ (sIx items.size 0 lo=0/\sIx items.size items.size hi=items.size))
  (h:Q (.ref s.heap.objs.size) { s with heap:=s.heap.push { cls:=.type "tuple",data:=.seq ((items.toList.drop (sIx items.size 0 lo)).take (sIx items.size items.size hi-sIx items.size 0 lo)).toArray } })
  (hsz:items.size<=sizeLine):wpAny (model prog w) A (getItem (.ref t) (.ref sl)) Q E s:=by
 have htake:sizeOk (.seq ((items.toList.drop (sIx items.size 0 lo)).take (sIx items.size items.size hi-sIx items.size 0 lo)).toArray):=by
  show ((items.toList.drop (sIx items.size 0 lo)).take (sIx items.size items.size hi-sIx items.size 0 lo)).toArray.size<=sizeLine
  rw [qi,List.length_take,List.length_drop,qG]
  omega
 have hj:sIx items.size items.size hi<=items.size:=zju _ _ (qg _) hi
 obtain⟨os,hos,hcs,hds⟩:=id hs
 have hTs:s.TypeIs (.ref sl) "slice":=⟨os,hos,hcs⟩
 unfold getItem
 try with_reducible refine wpAny_holding ?_
 first | refine wpAny_bind (wpAny_pure ?_) | skip
 refine wpAny_bind (wpAny_sequenceKey ht.typeIs (by decide) ?_)
 refine wpAny_bind (wpAny_callSpecial?_slot (name:=Str.ofString "__getitem__") ht.typeIs PyProof.Rows.slot_tuple_getitem
  (wpAny_call_entry PyProof.Rows.slot_tuple_getitem ht.typeIs entry_tuple_getitem ?_ (args_tuple_getitem _ _)))
 show wpAny _ _ (Builtin.Tuple.tupleItemsOf (.ref t) >>= _) _ _ s
 refine wpAny_bind (tupleItemsOf_ ht ?_)
 refine wpAny_bind (wpAny_typeOf hTs ?_)
 rw [if_pos (by decide)]
 refine wpAny_bind (zfH hs pl pu ?_)
 have hno:¬ ((((sIx items.size 0 lo:Nat):Int)==0&&(1:Int)==1&&(sIx items.size items.size hi-sIx items.size 0 lo)==items.size)=true):=by
  intro q
  rw [qA,qA] at q
  have q1:((sIx items.size 0 lo:Nat):Int)=0:=eq_of_beq q.1.1
  have q2:sIx items.size items.size hi-sIx items.size 0 lo=items.size:=eq_of_beq q.2
  exact hw ⟨by omega,by omega⟩
 show wpAny _ _ (if (((sIx items.size 0 lo:Nat):Int)==0&&(1:Int)==1&&(sIx items.size items.size hi-sIx items.size 0 lo)==items.size)=true then _ else _) _ _ s
 rw [if_neg hno,zqY]
 first
  | exact wpAny_bind (m:=Builtin.Tuple.tupleExact _) (wpAny_newObj_type (wpAny_pure ⟨_,rfl,wpAny_pure h⟩) htake)
  | exact wpAny_bind (m:=Builtin.Tuple.tupleExact _) (wpAny_newObj_type (wpAny_bind (wpAny_pure (wpAny_pure ⟨_,rfl,wpAny_pure h⟩))) htake)
  | exact wpAny_bind (wpAny_bind (m:=Builtin.Tuple.tupleExact _) (wpAny_newObj_type (wpAny_pure (wpAny_pure ⟨_,rfl,wpAny_pure h⟩)) htake))
  | exact wpAny_bind (wpAny_bind (m:=Builtin.Tuple.tupleExact _) (wpAny_newObj_type (wpAny_pure ⟨_,rfl,wpAny_pure h⟩) htake))
end
end HT
namespace L2
open PySem PySem.Spec PyProof.Rows
abbrev TO:=St->Hp->(Option Int->Hp->Prop)->Prop
def PO (X:Cx)(e:Option Expr)(t:TO):Prop :=
 ∀ (pins:List (Addr×Obj)) (s:Shared) (U:St) (H:Hp) (Q:Option Int->Hp->Prop),Inv X pins U H s->t U H Q ->
  wpAny (model X.prog X.w) X.A (evalPart e X.env) (fun u s'=>∃ o H',Inv X pins U H' s'/\IsPart u o/\Q o H') X.xe s
def ztQ:TO:=fun _ H Q=>Q none H
def zwI (t:TE):TO:=fun U H Q=>t U H fun x H1=>∃ i,x=.int i/\Q (some i) H1
section
variable {X:Cx}{e:Expr}{te:TE}{lo hi:Option Expr}{tl th:TO}{pos p2:Pos}
theorem zub:PO X none ztQ:=by
 intro pins s U H Q I h
 rw [evalPart_none]
 exact wpAny_pure ⟨none,H,I,.none,h⟩
theorem ztJ (h:PE X e te):PO X (some e) (zwI te):=by
 intro pins s U H Q I hw
 rw [evalPart_some]
 refine thn (h pins s U H _ I hw) fun u s1 ⟨x,H1,I1,r1,q1⟩=>?_
 obtain⟨i,rfl,q⟩:=q1
 obtain⟨t,rfl⟩:=r1
 exact⟨some i,H1,I1,.int i t,q⟩
def SlR (X:Cx)(r:V->Option Int->Option Int->Hp->VK->Prop):Prop :=
 ∀ (pins:List (Addr×Obj)) (s:Shared) (U:St) (H:Hp) (x:V) (v vl vu:Value) (lo hi:Option Int) (sl:Addr) (Q:VK),Inv X pins U H s->RelV x v->s.heap.IsSliceOf sl vl vu .none->IsPart vl lo->IsPart vu hi->r x lo hi H Q ->
  ∃ T id,typeLookup (.type T) "__getitem__"=pure (some (.builtin id))/\s.TypeIs v T/\wpAny (model X.prog X.w) X.A (getItem v (.ref sl)) (EP X pins U Q) X.xe s
theorem SlR.or {r r':V->Option Int->Option Int->Hp->VK->Prop}(h:SlR X r)(h':SlR X r'):SlR X (fun x lo hi H Q=>r x lo hi H Q\/r' x lo hi H Q):=by
 intro pins s U H x v vl vu lo hi sl Q I rx hs pl pu q
 rcases q with q | q
 ·exact h pins s U H x v vl vu lo hi sl Q I rx hs pl pu q
 ·exact h' pins s U H x v vl vu lo hi sl Q I rx hs pl pu q
def tSl (r:V->Option Int->Option Int->Hp->VK->Prop)(te:TE)(tl th:TO):TE:=fun U H Q=>te U H fun x H1=>tl U H1 fun l H2=>th U H2 fun u H3=>r x l u H3 Q
theorem zqV {r:V->Option Int->Option Int->Hp->VK->Prop}(hr:SlR X r)(he:PE X e te)(hl:PO X lo tl)(hu:PO X hi th):PE X (.Subscript e (.Slice lo hi none p2) pos) (tSl r te tl th):=by
 intro pins s U H Q I h
 refine Subscript_ (thn (he pins s U H _ I h) fun v s1 ⟨x,H1,I1,r1,q1⟩=>?_)
 refine wpAny_Slice (thn (hl pins s1 U H1 _ I1 q1) fun vl s2 ⟨l,H2,I2,pl,q2⟩=>thn (hu pins s2 U H2 _ I2 q2) fun vu s3 ⟨u,H3,I3,pu,q3⟩=>?_)
 rw [evalPart_none]
 refine wpAny_pure ?_
 have I4:Inv X pins U H3 { s3 with heap:=s3.heap.push { cls:=.type "slice",data:=.fields #[vl,vu,.none] } }:=I3.kept (t':=s3.toks) fun b ob q=>qc _ q
 obtain⟨T,id,hT,ht,hg⟩:=hr pins { s3 with heap:=s3.heap.push { cls:=.type "slice",data:=.fields #[vl,vu,.none] } } U H3 x v vl vu l u s3.heap.objs.size Q I4 r1 (Heap.IsSliceOf.new ..) pl pu q3
 show wpAny (model X.prog X.w) X.A (subscriptTail e (.Slice lo hi none p2) v (.ref s3.heap.objs.size)) (EP X pins U Q) X.xe { s3 with heap:=s3.heap.push { cls:=.type "slice",data:=.fields #[vl,vu,.none] } }
 exact tail_any (ops:=[.ref s3.heap.objs.size,v]) ht hT hg (by with_unfolding_all rfl)
def zgU (xs:List V)(lo hi:Option Int):List V:=(xs.drop (HT.sIx xs.length 0 lo)).take (HT.sIx xs.length xs.length hi-HT.sIx xs.length 0 lo)
theorem ziX (xs:List V)(lo hi:Option Int):(zgU xs lo hi).length<=xs.length:=by
 unfold zgU
 rw [List.length_take,List.length_drop]
 omega
def zyl (K:PySem.W.Frag):V->Option Int->Option Int->Hp->VK->Prop:=fun x lo hi H Q=>∃ a xs,x=.ref a/\SqT K H a xs /\
 ¬ (HT.sIx xs.length 0 lo=0/\HT.sIx xs.length xs.length hi=xs.length)/\∀ p,H p=none->Q (.ref p) (upd H p (.tup (zgU xs lo hi)))
theorem zvf:SlR X (zyl X.K):=by
 intro pins s U H x v vl vu lo hi sl Q I rx hs pl pu h
 obtain⟨a,xs,rfl,hx,hw,q⟩:=h
 cases rx
 obtain⟨its,r,ht,hz⟩:=I.tuple hx
 have hlen:its.toArray.size=xs.length:=by rw [qi];exact r.length.symm
 refine⟨"tuple",_,PyProof.Rows.slot_tuple_getitem.lookup,ht.typeIs,?_⟩
 refine HT.ziR ht hs pl pu (by rw [hlen];exact hw) ?_ (by rw [hlen];exact hz)
 rw [hlen]
 refine⟨.ref s.heap.objs.size,_,I.laid (t':=s.toks) (o:=.tup (zgU xs lo hi)) (fun b ob q=>qc _ q) (qg _) ?_,rfl,q _ (I.hok.fresh (qg _))⟩
 exact⟨qK (ziX xs lo hi) hz,_,(r.drop (HT.sIx xs.length 0 lo)).take (HT.sIx xs.length xs.length hi-HT.sIx xs.length 0 lo),IsTup.new _ _⟩
def zw5 (K:PySem.W.Frag):R2:=fun x y H Q=>∃ a b xs ys,x=.ref a/\y=.ref b/\SqT K H a xs/\SqT K H b ys/\xs≠[]/\xs.length+ys.length<=sizeLine /\
 (ys=[]->Q (.ref a) H)/\(ys≠[]->∀ p,H p=none->Q (.ref p) (upd H p (.tup (xs++ys))))
theorem Vals.nil_iff {xs:List V}{us:List Value}(r:Vals xs us):us=[]↔xs=[]:=by
 cases r with
 | nil=>simp
 | cons _ _=>simp
theorem zt4:OpR X (binaryOp .Add) (zw5 X.K):=by
 intro pins s U H x y v u Q I rx ry h
 obtain⟨a,b,xs,ys,rfl,rfl,ha,hb,hx,hz,q1,q2⟩:=h
 cases rx
 cases ry
 obtain⟨its,r1,p1,_⟩:=I.tuple ha
 obtain⟨its2,r2,p2,_⟩:=I.tuple hb
 refine HT.zsO p1 p2 (fun z=>hx (r1.nil_iff.mp z)) (fun z=>⟨.ref a,H,I,rfl,q1 (r2.nil_iff.mp z)⟩) (fun z=>?_) (by rw [<- r1.length,<- r2.length];exact hz)
 refine⟨.ref s.heap.objs.size,_,I.laid (t':=s.toks) (o:=.tup (xs++ys)) (fun b ob q=>qc _ q) (qg _) ?_,rfl,q2 (fun w=>z (r2.nil_iff.mpr w)) _ (I.hok.fresh (qg _))⟩
 exact⟨by rw [qe];exact hz,_,r1.append r2,IsTup.new _ _⟩
end
def ixN (n:Nat)(i:Int):Option Nat:=if 0<=i then (if i<n then some i.toNat else none) else if -(n:Int)<=i then some (i+n).toNat else none
def atI {α:Type}(xs:List α)(i:Int):Option α:=(ixN xs.length i).bind fun j=>xs[j]?
theorem znK {n:Nat}{i:Int}{j:Nat}(h:ixN n i=some j):seqIndex? i n=some j/\j<n/\-(n:Int)<=i/\i<n:=by
 unfold ixN at h
 by_cases h0:0<=i
 ·rw [if_pos h0] at h
  by_cases h1:i<n
  ·rw [if_pos h1] at h
   have e:i.toNat=j:=qN h
   exact⟨by rw [seqIndex_of h0 h1,e],by omega,by omega,h1⟩
  ·rw [if_neg h1] at h;cases h
 ·rw [if_neg h0] at h
  by_cases h1:-(n:Int)<=i
  ·rw [if_pos h1] at h
   have e:(i+n).toNat=j:=qN h
   exact⟨by rw [seqIndex_neg (by omega) h1,e],by omega,h1,by omega⟩
  ·rw [if_neg h1] at h;cases h
theorem zkn {α:Type}{xs:List α}{i:Int}{v:α}(h:atI xs i=some v):∃ j,seqIndex? i xs.length=some j/\xs[j]?=some v/\j<xs.length/\-(xs.length:Int)<=i/\i<xs.length:=by
 unfold atI at h
 cases e:ixN xs.length i with
 | none=>rw [e] at h;cases h
 | some j =>
  rw [e] at h
  obtain⟨h1,h2,h3,h4⟩:=znK e
  exact⟨j,h1,h,h2,h3,h4⟩
def znV (b:Expr):Prop:=∀ o i,subscripted b false o i=operate [o,i] (getItem o i)
def IxR (X:Cx)(r:R2):Prop :=
 ∀ (value slice:Expr) (pins:List (Addr×Obj)) (s:Shared) (U:St) (H:Hp) (x y:V) (v u:Value) (Q:VK),Inv X pins U H s->RelV x v->RelV y u->r x y H Q ->
  subscripted slice false v u=operate [v,u] (getItem v u)->wpAny (model X.prog X.w) X.A (subscriptTail value slice v u) (EP X pins U Q) X.xe s
def MtR (X:Cx)(id:String)(r:V->List V->Hp->VK->Prop):Prop :=
 ∀ (pins:List (Addr×Obj)) (s:Shared) (U:St) (H:Hp) (x:V) (xs:List V) (v:Value) (us:List Value) (Q:VK),Inv X pins U H s->RelV x v->Vals xs us->r x xs H Q ->
  wpAny (model X.prog X.w) X.A (call (.builtin id) (v::us)) (EP X pins U Q) X.xe s
section
variable {X:Cx}{a b:Expr}{ta tb:TE}{pos:Pos}
theorem IxR.or {r r':R2}(h:IxR X r)(h':IxR X r'):IxR X (fun x y H Q=>r x y H Q\/r' x y H Q):=by
 intro value slice pins s U H x y v u Q I rx ry q hs
 rcases q with q | q
 ·exact h value slice pins s U H x y v u Q I rx ry q hs
 ·exact h' value slice pins s U H x y v u Q I rx ry q hs
theorem zxg {r:R2}(hr:IxR X r)(ha:PE X a ta)(hb:PE X b tb)(hs:znV b):PE X (.Subscript a b pos) (tOp r ta tb):=by
 intro pins s U H Q I h
 exact Subscript_ (zrC ha hb I h fun v u s2 x y H2 I2 rx ry q=>hr a b pins s2 U H2 x y v u Q I2 rx ry q (hs _ _))
def zyj (K:PySem.W.Frag):R2:=fun x y H Q=>∃ p xs i v,x=.ref p/\y=.int i/\SqL K H p xs/\atI xs i=some v/\Q v H
def zxN (K:PySem.W.Frag):R2:=fun x y H Q=>∃ p xs i v,x=.ref p/\y=.int i/\SqT K H p xs/\atI xs i=some v/\Q v H
def zxY:R2:=fun x y H Q=>∃ z i c,x=.str z/\y=.int i/\z.length<=sizeLine/\atI z.cps.toList i=some c/\Q (.str ⟨#[c]⟩) H
theorem zsH:IxR X (zyj X.K):=by
  intro value slice pins s U H x y v u Q I rx ry h hs
  obtain⟨p,xs,i,z,rfl,rfl,hq,he,q⟩:=h
  cases rx
  obtain⟨t,rfl⟩:=ry
  obtain⟨its,r,pl,hz⟩:=I.list hq
  obtain⟨j,h1,h2,h3,h4,h5⟩:=zkn he
  obtain⟨w,ew,rw'⟩:=r.get h2
  have hl:=r.length
  have hn:=zgw
  have fin:EP X pins U Q w s:=⟨z,H,I,rw',q⟩
  by_cases h0:0<=i
  . have hj : i.toNat = j := by
      rw [seqIndex_of h0 h5] at h1
      exact qN h1
    exact item_listR pl.isList h0 (by omega) (by rw [hj];simpa using ew) fin hs
  . have hj : (i + (its.toArray.size : Int)).toNat = j := by
      rw [seqIndex_neg (by omega) h4] at h1
      rw [qi,<- hl]
      exact qN h1
    exact subscriptTail_builtinR (x:=w) pl.isList.typeIs slot_list_getitem.lookup
      (wpAny_getItem_list_neg (Q:=fun r s'=>r=w/\EP X pins U Q r s') pl.isList (by omega) (by rw [qi]<;>omega) (by omega) (by rw [hj];simpa using ew) ⟨rfl,fin⟩) hs
theorem zuq:IxR X (zxN X.K):=by
 intro value slice pins s U H x y v u Q I rx ry h hs
 obtain⟨p,xs,i,z,rfl,rfl,hq,he,q⟩:=h
 cases rx
 obtain⟨t,rfl⟩:=ry
 obtain⟨its,r,pl,hz⟩:=I.tuple hq
 obtain⟨j,h1,h2,h3,h4,h5⟩:=zkn he
 obtain⟨w,ew,rw'⟩:=r.get h2
 have hl:=r.length
 have hn:=zgw
 have fin:EP X pins U Q w s:=⟨z,H,I,rw',q⟩
 exact subscriptTail_builtinR (x:=w) pl.typeIs slot_tuple_getitem.lookup
  (getItem_tuple (j:=j) (Q:=fun r s'=>r=w/\EP X pins U Q r s') pl (by omega) (by omega) (by rw [qi,<- hl];exact h1) (by simpa using ew) ⟨rfl,fin⟩) hs
theorem zus:IxR X zxY:=by
 intro value slice pins s U H x y v u Q I rx ry h hs
 obtain⟨z,i,c,rfl,rfl,hz,he,q⟩:=h
 obtain⟨t,rfl⟩:=rx
 obtain⟨t',rfl⟩:=ry
 obtain⟨j,h1,h2,h3,h4,h5⟩:=zkn he
 have hl:z.cps.toList.length=z.length:=by simp [Str.length]
 rw [hl] at h1 h4 h5
 have hn:=zgw
 exact tail_any (typeIs_str s z t) slot_str_getitem.lookup (getItem_str (c:=c) (by
  have e1:decide (i < -(2 ^ 63:Int))=false:=decide_eq_false (by omega)
  have e2:decide (i ≥ 2 ^ 63)=false:=decide_eq_false (by omega)
  rw [e1,e2,Bool.or_false]) (by rw [h1];simpa using h2) ⟨.str ⟨#[c]⟩,H,I.tok _,⟨_,rfl⟩,q⟩) hs
theorem zot (its:List Value)(n j:Nat)(u:Value):Obj.mapSeq (·.setIfInBounds j u) { cls:=.type "list",data:=.seq its.toArray n }={ cls:=.type "list",data:=.seq (its.set j u).toArray n }:=by
 simp [Obj.mapSeq]
theorem Inv.lst {pins:List (Addr×Obj)}{U:St}{H:Hp}{s:Shared}{p:Addr}{xs:List V}(I:Inv X pins U H s)(h:H p=some (.lst xs)) :
  ∃ (its:List Value) (n:Nat),Vals xs its/\s.heap.get? p=some { cls:=.type "list",data:=.seq its.toArray n }/\xs.length<=sizeLine:=by
 obtain⟨z,its,n,r,e⟩:=I.hok p _ h
 exact⟨its,n,r,e,z⟩
theorem Inv.lstUpd {pins:List (Addr×Obj)}{U:St}{H:Hp}{s:Shared}{p:Addr}{xs ys:List V}{its its':List Value}{n n':Nat}{f:Obj->Obj}(I:Inv X pins U H s)(h:H p=some (.lst xs))
    (ho:s.heap.get? p=some { cls:=.type "list",data:=.seq its.toArray n }) (hf:f { cls:=.type "list",data:=.seq its.toArray n }={ cls:=.type "list",data:=.seq its'.toArray n' }) (r:Vals ys its') (hz:ys.length<=sizeLine) (t:Nat) :
    Inv X pins U (upd H p (.lst ys)) { s with heap:=s.heap.update p f,toks:=t }:=by
  have e:(s.heap.update p f).get? p=some { cls:=.type "list",data:=.seq its'.toArray n' }:=by
    rw [Heap.get?_update_self f ho (by rw [hf]<;>rfl),hf]
  refine I.write (x:=p) (e:=p) (by rw [h];trivial) (.inl rfl) (fun b u hb q=>(Heap.get?_update_other _ _ (Ne.symm hb)).trans q) ⟨_,e⟩ ?_
  exact⟨hz,its',n',r,e⟩
def zww:V->V->V->Hp->(Hp->Prop)->Prop:=fun o i v H Q=>∃ p xs k j,o=.ref p/\i=.int k/\H p=some (.lst xs)/\ixN xs.length k=some j/\Q (upd H p (.lst (xs.set j v)))
theorem set_list:zvn X zww:=by
 intro pins s U H o i v ov iv u Q I ro ri rv h
 obtain⟨p,xs,k,j,rfl,rfl,hp,hj,q⟩:=h
 cases ro
 obtain⟨t,rfl⟩:=ri
 obtain⟨its,n,r,ho,hz⟩:=I.lst hp
 obtain⟨h1,h2,h3,h4⟩:=znK hj
 have hl:=r.length
 have hn:=zgw
 have I':Inv X pins U (upd H p (.lst (xs.set j v))) { s with heap:=s.heap.update p (Obj.mapSeq (·.setIfInBounds j u)) } :=
  I.lstUpd hp ho (zot its n j u) (r.set rv j) (by rw [List.length_set];exact hz) s.toks
 by_cases h0:0<=k
 ·have hk:k.toNat=j:=by
   rw [seqIndex_of h0 h4] at h1
   exact qN h1
  exact PySem.W.ki_setAt ho h0 (by omega) (by rw [qi,<- hl];exact h4) (by rw [hk];exact⟨_,I',q⟩)
 ·have hk:(k+(its.toArray.size:Int)).toNat=j:=by
   rw [seqIndex_neg (by omega) h3] at h1
   rw [qi,<- hl]
   exact qN h1
  exact PySem.W.ki_setBack ho (by omega) (by rw [qi,<- hl];exact h3) (by omega) (by rw [hk];exact⟨_,I',q⟩)
theorem zlP (lo hi:Option Int)(n:Nat):(sliceBounds lo hi none n).1=((HT.sIx n 0 lo:Nat):Int)/\(sliceBounds lo hi none n).2.1=((HT.sIx n n hi:Nat):Int)/\(sliceBounds lo hi none n).2.2=1:=by
  refine⟨?_,?_,rfl⟩
  . cases lo with
    | none=>simp [sliceBounds,HT.sIx]
    | some i =>
      simp only [sliceBounds,HT.sIx,Option.getD_none,show (1:Int) > 0 by decide,if_true]
      by_cases h:i<0
      . simp only [h,if_true]<;>omega
      . simp only [h,if_false]<;>omega
  . cases hi with
    | none=>simp [sliceBounds,HT.sIx]
    | some i =>
      simp only [sliceBounds,HT.sIx,Option.getD_none,show (1:Int) > 0 by decide,if_true]
      by_cases h:i<0
      . simp only [h,if_true]<;>omega
      . simp only [h,if_false]<;>omega
theorem zlv (its:List Value)(lo hi:Option Int):slicePick its.toArray lo hi none=((its.drop (HT.sIx its.length 0 lo)).take (HT.sIx its.length its.length hi-HT.sIx its.length 0 lo)).toArray:=by
  obtain⟨h1,h2,h3⟩:=zlP lo hi its.toArray.size
  unfold slicePick
  rw [h1,h2,h3]
  simp only [sliceRange_one,pick_run,qi]<;>rfl
def zyi (K:PySem.W.Frag):V->Option Int->Option Int->Hp->VK->Prop:=fun x lo hi H Q=>∃ a xs,x=.ref a/\SqL K H a xs/\∀ p,H p=none->Q (.ref p) (upd H p (.lst (zgU xs lo hi)))
theorem zsL:SlR X (zyi X.K):=by
  intro pins s U H x v vl vu lo hi sl Q I rx hs pl pu h
  obtain⟨a,xs,rfl,hx,q⟩:=h
  cases rx
  obtain⟨its,r,ht,hz⟩:=I.list hx
  have hlen:=r.length
  refine⟨"list",_,slot_list_getitem.lookup,ht.isList.typeIs,?_⟩
  refine wpAny_getItem_list_slice ht.isList hs pl pu .none (by simp) ?_ (by rw [qi]<;>omega)
  rw [zlv,<- hlen]
  refine⟨.ref s.heap.objs.size,_,I.laid (t':=s.toks) (o:=.lst (zgU xs lo hi)) (fun b ob q=>qc _ q) (qg _) ?_,rfl,q _ (I.hok.fresh (qg _))⟩
  exact⟨qK (ziX xs lo hi) hz,_,0,(r.drop (HT.sIx xs.length 0 lo)).take (HT.sIx xs.length xs.length hi-HT.sIx xs.length 0 lo),Heap.get?_push_size _ rfl⟩
theorem zl0:zaS X (.builtin "len") (fun xs H Q=>∃ p ys,xs=[.ref p]/\(SqL X.K H p ys\/SqT X.K H p ys)/\Q (.int ys.length) H):=by
  intro pins s U H xs us Q I r h
  obtain⟨p,ys,rfl,hq,q⟩:=h
  obtain⟨u,rfl,rx⟩:=vals1 r
  cases rx
  have hn:=zgw
  rcases hq with hq | hq
  . obtain⟨its,r',pl,hz⟩:=I.list hq
    have hlen:=r'.length
    exact Calls.call_len_list pl.isList (by simp only [qi]<;>omega) ⟨.int ys.length,H,I.tok _,⟨s.toks+1,by rw [qi,hlen]⟩,q⟩
  . obtain⟨its,r',pl,hz⟩:=I.tuple hq
    have hlen:=r'.length
    exact len_tuple pl (by simp only [qi]<;>omega) ⟨.int ys.length,H,I.tok _,⟨s.toks+1,by rw [qi,hlen]⟩,q⟩
theorem zmB:zaS X (.builtin "len") (fun xs H Q=>∃ z,xs=[.str z]/\z.length<=sizeLine/\Q (.int z.length) H):=by
 intro pins s U H xs us Q I r h
 obtain⟨z,rfl,hz,q⟩:=h
 obtain⟨u,rfl,t,rfl⟩:=vals1 r
 have hn:=zgw
 exact len_str (by omega) ⟨.int z.length,H,I.tok _,⟨_,rfl⟩,q⟩
theorem zaS.or {f:Value}{r r':List V->Hp->VK->Prop}(h:zaS X f r)(h':zaS X f r'):zaS X f (fun xs H Q=>r xs H Q\/r' xs H Q):=by
 intro pins s U H xs us Q I rs q
 rcases q with q | q
 ·exact h pins s U H xs us Q I rs q
 ·exact h' pins s U H xs us Q I rs q
theorem zlU:zaS X (.type "list") (fun xs H Q=>∃ p ys,xs=[.ref p]/\(SqL X.K H p ys\/SqT X.K H p ys)/\∀ l,H l=none->Q (.ref l) (upd H l (.lst ys))):=by
  intro pins s U H xs us Q I r h
  obtain⟨p,ys,rfl,hq,q⟩:=h
  obtain⟨u,rfl,rx⟩:=vals1 r
  cases rx
  have fin : ∀ (its : List Value), Vals ys its → ys.length ≤ sizeLine → ∀ (h' : Heap) (c' : Nat), (∀ b o', s.heap.get? b = some o' → h'.get? b = some o') →
      h'.get? s.heap.objs.size=some { cls:=.type "list",dict:=none,data:=.seq its.toArray c',slots:=#[] }->EP X pins U Q (.ref s.heap.objs.size) { s with heap:=h' }:=fun its r' hz h' c' kp e =>
    ⟨.ref s.heap.objs.size,_,I.laid (t':=s.toks) kp (qg _) (show zbo X.prog X.w _ h' _ (.lst ys) from ⟨hz,its,c',r',e⟩),rfl,q _ (I.hok.fresh (qg _))⟩
  rcases hq with hq | hq
  . obtain⟨its,r',pl,hz⟩:=I.list hq
    have hlen:=r'.length
    obtain⟨o,ho,hc,n,hd⟩:=pl.isList
    exact call_list_seq p (.inl rfl) ho hc hd (fun h' c' kp e=>fin its r' hz h' c' kp e) (by simp only [qi]<;>omega)
  . obtain⟨its,r',pl,hz⟩:=I.tuple hq
    have hlen:=r'.length
    obtain⟨o,ho,hc,n,hd⟩:=pl
    exact call_list_seq p (.inr rfl) ho hc hd (fun h' c' kp e=>fin its r' hz h' c' kp e) (by simp only [qi]<;>omega)
theorem zln:zaS X (.type "tuple") (fun xs H Q=>∃ p ys,xs=[.ref p]/\((SqL X.K H p ys/\∀ l,H l=none->Q (.ref l) (upd H l (.tup ys)))\/(SqT X.K H p ys/\Q (.ref p) H))):=by
  intro pins s U H xs us Q I r h
  obtain⟨p,ys,rfl,h⟩:=h
  obtain⟨u,rfl,rx⟩:=vals1 r
  cases rx
  rcases h with ⟨hq,q⟩ | ⟨hq,q⟩
  . obtain⟨its,r',pl,hz⟩:=I.list hq
    have hlen:=r'.length
    refine call_tuple_list pl.isList (fun h' kp=>?_) (by simp only [qi]<;>omega)
    have I1:Inv X pins U H { s with heap:=h' }:=I.kept (t':=s.toks) kp
    have I2:Inv X pins U (upd H h'.objs.size (.tup ys)) { s with heap:=h'.push { cls:=.type "tuple",data:=.seq its.toArray } } :=
      I1.laid (t':=s.toks) (fun b o e=>qc _ e) (qg _) (show zbo X.prog X.w _ _ _ (.tup ys) from ⟨hz,its,r',IsTup.new _ _⟩)
    exact⟨.ref h'.objs.size,_,I2,rfl,q _ (I1.hok.fresh (qg _))⟩
  . obtain⟨its,r',pl,hz⟩:=I.tuple hq
    exact call_tuple_same pl ⟨.ref p,H,I,rfl,q⟩
def tyV (K:PySem.W.Frag)(T:String)(x:V)(H:Hp):Prop:=match x with
 | .str _=>T="str"
 | .int _=>T="int"
 | .ref p=>(T="list"/\∃ xs,SqL K H p xs)\/(T="tuple"/\∃ o,K.lookup p=some o/\o.cls=.type "tuple"/\o.dict=none) \/
   (T="dict"/\((∃ kvs,H p=some (.dK kvs))\/∃ kvs,H p=some (.dT kvs)))\/(T="set"/\∃ S n,H p=some (.set S n))
 | _=>False
theorem zvS {pins:List (Addr×Obj)}{U:St}{H:Hp}{s:Shared}{T:String}{x:V}{v:Value}(I:Inv X pins U H s)(r:RelV x v)(ty:tyV X.K T x H) :
  s.TypeIs v T/\∀ a,v=.ref a->∃ ob,s.heap.get? a=some ob/\ob.dict=none:=by
 cases x with
 | str z =>
  obtain⟨t,rfl⟩:=r
  cases (show T="str" from ty)
  exact⟨typeIs_str s z t,fun _ e=>nomatch e⟩
 | int i =>
  obtain⟨t,rfl⟩:=r
  cases (show T="int" from ty)
  exact⟨typeIs_int s i t,fun _ e=>nomatch e⟩
 | ref p =>
  cases r
  rcases ty with ⟨rfl,xs,hq⟩ | ⟨rfl,o,hk,hc,hd⟩ | ⟨rfl,hk⟩ | ⟨rfl,S,n,hk⟩
  ·obtain⟨its,_,pl,_⟩:=I.list hq
   refine⟨pl.isList.typeIs,fun a e=>?_⟩
   cases e
   obtain⟨o,n,e,c,hd,_⟩:=pl
   exact⟨o,e,hd⟩
  ·refine⟨⟨o,I.kIn p o hk,hc⟩,fun a e=>?_⟩
   cases e
   exact⟨o,I.kIn _ o hk,hd⟩
  ·have z:∃ o,s.heap.get? p=some o/\o.ExactDict:=by
    rcases hk with ⟨kvs,hk⟩ | ⟨kvs,hk⟩
    ·obtain⟨_,_,_,_,o,_,_,e,ex,_⟩:=I.hok p _ hk
     exact⟨o,e,ex⟩
    ·obtain⟨_,_,_,_,o,_,_,e,ex,_⟩:=I.hok p _ hk
     exact⟨o,e,ex⟩
   obtain⟨o,e,ex⟩:=z
   refine⟨⟨o,e,ex.1⟩,fun a e2=>?_⟩
   cases e2
   exact⟨o,e,ex.2.1⟩
  ·obtain⟨o,_,_,_,e,ex,_⟩:=I.hok p _ hk
   refine⟨⟨o,e,ex.1⟩,fun a e2=>?_⟩
   cases e2
   exact⟨o,e,ex.2.1⟩
 | _=>exact False.elim ty
def tBM (K:PySem.W.Frag)(T:String)(r:V->List V->Hp->VK->Prop)(to:TE)(t:TA):TE:=fun U H Q=>to U H fun x H1=>tyV K T x H1/\t U H1 fun xs H2=>r x xs H2 Q
variable {o e:Expr}{es:List Expr}{to:TE}{t:TA}{name:Str}{apos cpos:Pos}{T id:String}{r:V->List V->Hp->VK->Prop}
theorem zxb (pa:PlainAttrs T)(slot:Slot T name id)(hty:typeOf (.builtin id)=pure (.type "method_descriptor"))(hm:MtR X id r)(ho:PE X o to)(ha:PA X (e::es) t)
    (hbase:attributeBase o name X.env (eval o X.env)=eval o X.env:=by rfl)
    (hfew:((backTo cpos (starEach (e::es) X.env)).all (fun x=>!x.1)&&(backToKw cpos (keywordEach [] X.env)).all (fun x=>x.1.isSome)
     &&decide ((e::es).length+([]:List Keyword).length+(if ([]:List Keyword).isEmpty then 0 else 1)<30))=true:=by rfl)
    (hline:(apos.endLine==cpos.line)=true:=by rfl) (hs:starEach (e::es) X.env=(false,eval e X.env)::starEach es X.env:=by rfl) (hplain:(backTo cpos (starEach es X.env)).any (·.1)=false:=by rfl) :
    PE X (.Call (.Attribute o name apos) (e::es) [] cpos) (tBM X.K T r to t):=by
  intro pins s U H Q I h
  refine wpAny_Call_method_late hbase hfew hline rfl (thn (ho pins s U H _ I h) fun v s1 ⟨x,H1,I1,r1,ty,q1⟩=>?_)
  obtain⟨h1,h2⟩:=zvS I1 r1 ty
  refine⟨T,id,pa,slot,hty,h1,h2,?_⟩
  have hA:=ha cpos pins s1 U H1 _ I1 q1
  rw [hs] at hA ⊢
  refine Calls.callWith_builtin (by show (false||(backTo cpos (starEach es X.env)).any (·.1))=false;rw [hplain]<;>rfl) (Calls.evalArgs_plain ?_)
  exact thn hA fun us s2 ⟨vs,H2,I2,r2,q2⟩=>hm pins s2 U H2 x vs v us Q I2 r1 r2 q2
/- xs.append(e),list.index on a module's tuple .. are MtR facts of 06m -/
end
def MtM (X:Cx)(id:String)(r:V->List V->Hp->VK->Prop):Prop :=
 ∀ (pins:List (Addr×Obj)) (s:Shared) (U:St) (H:Hp) (x:V) (xs:List V) (v:Value) (us:List Value) (Q:VK),Inv X pins U H s->RelV x v->Vals xs us->r x xs H Q ->
  wpAny (model X.prog X.w) X.A (call (.builtin id) (v::us)) (EP X pins U Q) X.xe s
theorem Vals.one:∀ {x:V} {us:List Value},Vals [x] us->∃ u,us=[u]/\RelV x u
 | _,_,.cons r .nil=>⟨_,rfl,r⟩
section
variable {X:Cx}{pins:List (Addr×Obj)}{U:St}{H:Hp}{s:Shared}{l b:Addr}{xs ys zs:List V}
theorem Inv.lset {its its':List Value}{n:Nat}{f:Array Value->Array Value}{t':Nat}(I:Inv X pins U H s)(hH:H l=some (.lst xs))
  (e:s.heap.get? l=some { cls:=.type "list",data:=.seq its.toArray n }) (hf:f its.toArray=its'.toArray) (hv:Vals ys its') (hz:ys.length<=sizeLine) :
  Inv X pins U (upd H l (.lst ys)) { s with heap:=s.heap.update l (Obj.mapSeq f),toks:=t' }:=by
 have q:=PySem.IsL.update e f
 rw [hf] at q
 refine I.write (x:=l) (e:=l) (by rw [hH];exact trivial) (.inl rfl) (fun b' u hb hu=>(Heap.get?_update_other s.heap (Obj.mapSeq f) (Ne.symm hb)).trans hu) ⟨_,q⟩ ?_
 exact⟨hz,its',_,hv,q⟩
theorem Inv.lnew {its:List Value}{t':Nat}(I:Inv X pins U H s)(hv:Vals ys its)(hz:ys.length<=sizeLine) :
  Inv X pins U (upd H s.heap.objs.size (.lst ys)) { s with heap:=s.heap.push { cls:=.type "list",data:=.seq its.toArray },toks:=t' } :=
 I.laid (fun _ _ q=>qc _ q) (qg _) ⟨hz,its,0,hv,Heap.get?_push_size _ rfl⟩
theorem Inv.fresh (I:Inv X pins U H s):H s.heap.objs.size=none:=I.hok.fresh (qg _)
theorem Inv.lstM (I:Inv X pins U H s)(hH:H l=some (.lst xs)):xs.length<=sizeLine/\∃ (its:List Value) (n:Nat),Vals xs its/\xs.length=its.length/\s.heap.get? l=some { cls:=.type "list",data:=.seq its.toArray n }:=by
 obtain⟨z,its,n,r,e⟩:=I.hok l _ hH
 exact⟨z,its,n,r,r.length,e⟩
theorem zmR {n:Nat}(h:n<=sizeLine):Builtin.List.listTooLong n=false:=by
 unfold Builtin.List.listTooLong
 exact decide_eq_false (by omega)
end
section
variable {X:Cx}
def zob:V->List V->Hp->VK->Prop:=fun x vs H Q=>∃ l xs y,x=.ref l/\vs=[y]/\H l=some (.lst xs)/\xs.length<sizeLine/\Q .non (upd H l (.lst (xs++[y])))
theorem zlc:MtM X "list.append" zob:=by
 intro pins s U H x vs v us Q I rx rv h
 obtain⟨l,xs,y,rfl,rfl,hH,hz,q⟩:=h
 cases rx
 obtain⟨u,rfl,ru⟩:=rv.one
 obtain⟨z,its,n,r,hl,e⟩:=I.lstM hH
 refine call_meets F.slot_list_append ⟨_,e,rfl⟩ F.entry_list_append (F.args_list_append_2 _ _) (PySem.list_append l its.toArray n u (by rw [qi];omega)) ⟨e,?_⟩
 refine⟨.non,_,I.lset (its':=its++[u]) hH e (by simp) (r.append (.cons ru .nil)) ?_,rfl,q⟩
 rw [qe,List.length_singleton]
 omega
def znU:V->List V->Hp->VK->Prop:=fun x vs H Q=>∃ l b xs zs,x=.ref l/\vs=[.ref b]/\H l=some (.lst xs)/\H b=some (.lst zs)/\xs.length+zs.length<=sizeLine/\Q .non (upd H l (.lst (xs++zs)))
theorem zpt:MtM X "list.extend" znU:=by
 intro pins s U H x vs v us Q I rx rv h
 obtain⟨l,b,xs,zs,rfl,rfl,hH,hB,hz,q⟩:=h
 cases rx
 obtain⟨u,rfl,ru⟩:=rv.one
 cases ru
 obtain⟨z,its,n,r,hl,e⟩:=I.lstM hH
 obtain⟨z2,its2,n2,r2,hl2,e2⟩:=I.lstM hB
 have hsz:its.toArray.size+its2.toArray.size<=sizeLine:=by rw [qi,qi];omega
 have hlong:¬ (!its.toArray.isEmpty&&Builtin.List.listTooLong (its.toArray.size+its2.toArray.size))=true:=by
  rw [zmR hsz,Bool.and_false]
  exact qo
 refine call_meets F.slot_list_extend ⟨_,e,rfl⟩ F.entry_list_extend (F.args_list_extend_2 _ _)
  (AutoSeq1.list_extend_list_list_0 l its.toArray n b its2.toArray n2 hlong (by rw [qi];omega) (by omega)) ⟨e,e2,?_⟩
 refine⟨.non,_,I.lset (its':=its++its2) hH e (by simp) (r.append r2) ?_,rfl,q⟩
 rw [qe]
 omega
end
section
variable {prog:Program}{w:World}{A:Around}{E:Value->Shared->Prop}{s:Shared}
end
section
variable {X:Cx}
end
end L2
namespace Att
open PySem PySem.W PySem.Calls PyProof.Rows
theorem zj9 {P:Params}{h:Heap}:∀ (ns:List Int) (vs:List Value),WellAll P h vs (ns.map WData.int)->IntsAre vs ns:=by
 intro ns
 induction ns with
 | nil =>
  intro vs w
  rw [List.map_nil] at w
  cases w
  exact .nil
 | cons n ns ih =>
  intro vs w
  rw [List.map_cons] at w
  cases w with
  | cons a b =>
   cases a
   exact .cons _ _ (ih _ b)
theorem zqq {l:OpenLaw}{n:Nat}(hn:l.most=some n){P:Params}{h:Heap}{args:List WData}{vals:List Value}
  (hpre:l.row.toRowW.claim.pre args=true) (hwl:WellAll P h vals args) :
  ∃ a vs ns,vals=[Value.ref a]/\args=[WData.list (ns.map WData.int)]/\h.get? a=some { cls:=.type "list",data:=.seq vs.toArray }/\IntsAre vs ns/\ns.length<=n:=by
 have hsh:WShape.hasAll [] args [.list .int]=true:=(pre_splitW hpre).1
 have hc:l.pre.holds [] { args:=args }=true:=(pre_splitW hpre).2
 obtain⟨d,r,rfl,h1,h2⟩:=hasAllW_cons hsh
 obtain rfl:=hasAllW_nil h2
 obtain⟨xs,rfl,h3⟩:=hasW_list h1
 obtain⟨ns,rfl⟩:=items_int h3
 have hlen:ns.length<=n:=by
  unfold OpenLaw.pre at hc
  have h4:(WTm.not (.lt (.lit (.int (n:Int))) (.len (.arg 0)))).holds [] { args:=[.list (ns.map .int)] }=true:=by
   have h4:=(holds_andW hc).1
   rw [hn] at h4
   exact h4
  have h5:=condW_of h4 (w_not (w_lt w_lit (w_len_list (w_arg rfl))))
  rw [qa] at h5
  refine Nat.le_of_not_lt fun q=>?_
  have q':(n:Int)<((ns.length:Nat):Int):=by omega
  first
   | (rw [decide_eq_true q'] at h5;exact absurd h5 (by decide))
   | (simp at h5;omega)
 cases hwl with
 | cons w1 w2 =>
  cases w2
  cases w1 with
  | list ho hall=>exact⟨_,_,ns,rfl,rfl,ho,zj9 ns _ hall,hlen⟩
theorem zqs (l:OpenLaw)(args:List WData):l.row.toRowW.claim.post args (.bool true) args=true :=
 postW_of (r:=l.row.toRowW) (X:=(true==true))
  (show WShape.has [] (.bool true) .bool=true by first | rfl | decide | simp [WShape.has,WShape.arms,WShape.armsAll])
  (show (WTm.eq .res (.lit (.bool true))).value [] { args:=args,res:=some (.bool true),after:=args }=some (.bool (true==true)) from w_eq_bool (w_res rfl) w_lit) rfl
section
variable {prog:Program}{w:World}{A:Around}{E:Value->Shared->Prop}{s:Shared}{K:Frag}
end
end Att
namespace L2
open PySem PySem.Spec PyProof.Rows
theorem zlb:∀ {vs:List Value} {ns:List Int},IntsAre vs ns->Vals (ns.map V.int) vs
 | _,_,.nil=>.nil
 | _,_,.cons n t h=>.cons ⟨t,rfl⟩ (zlb h)
def Only (H:Hp):Prop:=∀ b,H b=none\/∃ o xs,H b=some (.frz o (.lst xs))
theorem zrL {P:Program}{w:World}{K:PySem.W.Frag}{mg mb:Str->Option Value}{CX:CXT}{k:Nat}{fa a:Addr}{fd:FuncData}{x:Str}{sp:Sp}{s₁:Shared}{vs:List Value}{ns:List Int}
  (KX:K.In s₁.heap) (hns:s₁.heap.Ns mainGlobals mg) (hb:s₁.heap.Ns builtinsNs mb) (hbb:∀ x:Str,x≠"__name__"->mb x=bootBuiltins x) (hlim:s₁.heap.NoLimit) (hg:s₁.gens=#[])
  (ha:s₁.heap.get? a=some { cls:=.type "list",data:=.seq vs.toArray }) (hi:IntsAre vs ns) (hl:ns.length<=sizeLine) (hr:zaT k callerA)
  (F:∀ base:Heap,K.In base->base.Ns mainGlobals mg->zaa P w K mg base CX k fa fd [x] sp) (hbind:∀ (s:Shared) (u:Value),BindsTo s fd ⟨[u],[]⟩ [(x,u)])
  (hsp:∀ H:Hp,Only H->SqL K H a (ns.map V.int)->sp [.ref a] H (fun v _=>v=.bl true) fun _ _ _=>False)
  (hCX:∀ H e s',CX [] H s₁ (fun _ _ _=>False) e s'->False) :
  codeAny (model P w) callerA (.call (.ref fa) ⟨[.ref a],[]⟩) (fun r s'=>r=.ok (.ret (.bool true))/\OldK s₁.heap s'.heap/\s'.os=s₁.os/\AllBare s'.gens) s₁:=by
 have rv:=zlb hi
 have lenV:=hi.length
 have core:∀ H:Hp,Only H->SqL K H a (ns.map V.int)->HOk P w H s₁.heap->(∀ b,H b≠none->b=a)->(H a≠none->K.lookup a=none) ->
   codeAny (model P w) callerA (.call (.ref fa) ⟨[.ref a],[]⟩) (fun r s'=>r=.ok (.ret (.bool true))/\OldK s₁.heap s'.heap/\s'.os=s₁.os/\AllBare s'.gens) s₁:=by
  intro H hO hS hok hA hK
  have base_of:∀ {b:Addr} {o:Obj},s₁.heap.get? b=some o->H b=none->(zhb s₁.heap H).get? b=some o:=fun e n=>zr9 e n
  have noA:∀ {b:Addr} {o:Obj} {es:Array DictEntry} {ep:Nat},s₁.heap.get? b=some o->o.data=.dict es ep->H b=none:=fun {b o es ep} e d=>by
   cases q:H b with
   | none=>rfl
   | some u =>
    have e':b=a:=hA b (by rw [q];simp)
    subst e'
    rw [ha] at e;cases e
    have d':Data.seq vs.toArray _=Data.dict es ep:=d
    cases d'
  have nsK:∀ {b:Addr} {m:Str->Option Value},s₁.heap.Ns b m->(zhb s₁.heap H).Ns b m:=fun {b m} ⟨o,es,ep,e,d,r⟩=>⟨o,es,ep,base_of e (noA e d),d,r⟩
  have hKb:K.In (zhb s₁.heap H):=fun b o e=>base_of (KX b o e) (by
   cases q:H b with
   | none=>rfl
   | some u =>
    have e':b=a:=hA b (by rw [q];simp)
    subst e'
    rw [hK (by rw [q];simp)] at e;cases e)
  have hM:Mod K mg (zhb s₁.heap H):=⟨hKb,nsK hns,⟨mb,nsK hb,hbb⟩,let ⟨mc,h1,h2⟩:=hlim;⟨mc,nsK h1,h2⟩⟩
  have e0:zi0 P w K mg (zhb s₁.heap H) callerA [] s₁ H:=⟨rfl,hM,fun b o e=>ztR e,Nat.le_of_eq (zpV _ _),trivial,fun b hb=>absurd (show b∈([]:List Addr) from hb) (by simp),hok,.of_eq hg⟩
  refine codeAny_mono ((F _ hKb (nsK hns)).run callerA [] s₁ H ⟨[.ref a],[]⟩ [.ref a] [.ref a] _ _ hr e0 (hbind s₁ (.ref a)) (.cons rfl .nil) (hsp H hO hS)) fun r s' h=>?_
  cases r with
  | error e=>exact (hCX H e s' h).elim
  | ok fl =>
   cases fl with
   | next=>exact False.elim h
   | brk=>exact False.elim h
   | cont=>exact False.elim h
   | ret u =>
    obtain⟨v,H',os,bare,un,hok',r',q⟩:=h
    have q':v=.bl true:=q
    subst q'
    obtain rfl:u=Value.bool true:=r'
    refine⟨rfl,OldK.of_keep fun b o e=>?_,os,bare⟩
    cases q:H b with
    | none=>exact un.keep b o e q (by intro z;exact absurd (show b∈([]:List Addr) from z) (by simp)) (by simp)
    | some u =>
     rcases hO b with z | ⟨ob,xs,z⟩
     ·rw [q] at z;cases z
     ·have z2:=un.frzs b ob _ z
      obtain⟨e1,_⟩:=hok b _ z
      obtain⟨e2,_⟩:=hok' b _ z2
      rw [e] at e1;cases e1
      exact e2
 cases hk:K.lookup a with
 | some o =>
  have e:=KX a o hk
  rw [ha] at e
  cases e
  refine core (fun _=>none) (fun _=>.inl rfl) (.inr ⟨_,vs.toArray,_,hk,rfl,rfl,rfl,by rw [qi,lenV];exact hl,by simpa using rv⟩) (fun b u z=>by have z':(none:Option HO)=some u:=z;cases z') (fun b z=>absurd rfl z) fun z=>absurd rfl z
 | none =>
  refine core (fun b=>if b=a then some (.frz { cls:=.type "list",data:=.seq vs.toArray } (.lst (ns.map V.int))) else none) (fun b=>?_) (.inl (.inr ⟨{ cls:=.type "list",data:=.seq vs.toArray },if_pos rfl⟩)) (fun b u z=>?_) (fun b z=>?_) fun _=>hk
  ·by_cases hb:b=a
   ·exact .inr ⟨_,_,if_pos hb⟩
   ·exact .inl (if_neg hb)
  ·by_cases hb:b=a
   ·have z':=(if_pos hb).symm.trans z
    cases z'
    subst hb
    exact⟨ha,by rw [qa];exact hl,vs,_,rv,ha⟩
   ·have z':=(if_neg hb).symm.trans z
    cases z'
  ·by_cases hb:b=a
   ·exact hb
   ·exact absurd (if_neg hb) z
def inClass (s:Stmt)(j:Nat):Stmt:=match s with
 | .ClassDef _ _ _ body _ _ _ _ _ _ _=>body.getD j (.Pass ⟨0,0,0,0⟩)
 | _=>.Pass ⟨0,0,0,0⟩
def zbX (s:Stmt):Arguments:=match s with
 | .FunctionDef _ a _ _ _ _ _ _ _ _=>a
 | _=>{ posonlyargs:=[],args:=[],vararg:=none,kwonlyargs:=[],kw_defaults:=[],kwarg:=none,defaults:=[] }
def zbk (s:Stmt):List Stmt:=match s with
 | .FunctionDef _ _ b _ _ _ _ _ _ _=>b
 | _=>[]
def zJ (s:Stmt):Scope:=match s with
 | .FunctionDef _ _ _ _ _ _ sc _ _ _=>sc
 | _=>{ kind:=.function,names:=[],isGenerator:=false,isCoroutine:=false }
abbrev CX0:CXT:=fun _ _ _ _ _ _=>False
abbrev E0:XK:=fun _ _ _=>False
theorem zsl {X:Cx}:Passes CX0 X E0:=fun _ _ _ _ _ _ _ h=>h.elim
structure Fun (K:PySem.W.Frag)(x qual:Str)(st:Stmt)(f:Addr)(fd:FuncData):Prop where
 ex:∃ (oc:Value) (od:Option Addr) (kV doc pm:Value) (an:Option Addr) (cdv ct:Value) (osl:Array (Option Value)),
  fd=PySem.W.fnOf x qual (zbX st) (zbk st) (zJ st) .none kV doc pm an cdv ct/\K.lookup f=some ⟨oc,od,.func fd,osl⟩/\PySem.W.codeIn K cdv qual=true
 kp:PySem.W.keepIn K (.ref f)=true
section
variable {P:Program}{w:World}{K:PySem.W.Frag}{mg:Str->Option Value}{base:Heap}
theorem Fun.ok {x qual:Str}{st:Stmt}{f:Addr}{fd:FuncData}{N ps:List Str}{k:Nat}{sp:Sp}(F:Fun K x qual st f fd)(S:zQ N ps (zJ st))(len:∀ vs H Q E,sp vs H Q E->vs.length=ps.length)
  (hbody:∀ (cdv:Value) (A:Around) (outer:List Env) (s:Shared) (H:Hp) (vs:List V) (Q:VK) (E:XK),zaT k (A.deeper (envOfC qual (zJ st) s.heap.objs.size f cdv))->sp vs H Q E ->
   ∃ t,PSs (zgq CX0 P w K mg base N qual (zJ st) f cdv A outer s H E).nox (zbk st) t/\t { nx:=fun _ H'=>Q .non H',rt:=Q } (start N vs) H):zaa P w K mg base CX0 (k+1) f fd ps sp:=by
 obtain⟨oc,od,kV,doc,pm,an,cdv,ct,osl,rfl,lk,hcd⟩:=F.ex
 refine zsm lk hcd S len fun A outer s H vs Q E hr hsp=>?_
 obtain⟨t,h,q⟩:=hbody cdv A outer s H vs Q E hr hsp
 exact⟨t,h.nox,q⟩
theorem Fun.binds {x qual:Str}{st:Stmt}{f:Addr}{fd:FuncData}{ps:List Str}(F:Fun K x qual st f fd)
  (h:∀ (kV doc pm:Value) (an:Option Addr) (cdv ct:Value) (us:List Value),us.length=ps.length->bindArgs (PySem.W.fnOf x qual (zbX st) (zbk st) (zJ st) .none kV doc pm an cdv ct) ⟨us,[]⟩=pure (ps.zip us)):Binds K fd ps []:=by
 obtain⟨oc,od,kV,doc,pm,an,cdv,ct,osl,rfl,lk,hcd⟩:=F.ex
 exact .all (h kV doc pm an cdv ct)
theorem zjt {x qual:Str}{st:Stmt}{f:Addr}{oc:Value}{od an:Option Addr}{osl:Array (Option Value)}{kV doc pm cdv ct:Value}(l:K.lookup f=some ⟨oc,od,.func (PySem.W.fnOf x qual (zbX st) (zbk st) (zJ st) .none kV doc pm an cdv ct),osl⟩)
  (c:PySem.W.codeIn K cdv qual=true) (k:PySem.W.keepIn K (.ref f)=true):Fun K x qual st f (PySem.W.fnOf x qual (zbX st) (zbk st) (zJ st) .none kV doc pm an cdv ct):=⟨⟨oc,od,kV,doc,pm,an,cdv,ct,osl,rfl,l,c⟩,k⟩
end
theorem zqr {n:Nat}(h:n<=1000):n<sizeLine:=Nat.lt_of_le_of_lt h (by decide)
section
variable {X:Cx}
end
section
variable {κ:Type}[DecidableEq κ]
end
section
variable {P:Program}{w:World}{H:Hp}{h:Heap}{a:Addr}
end
section
variable {X:Cx}{pins:List (Addr×Obj)}{U:St}{H:Hp}{s:Shared}{a:Addr}{y v:V}{u r:Value}{o:Option V}{A:Around}{E:Value->Shared->Prop}
end
section
variable {X:Cx}{pins:List (Addr×Obj)}{U:St}{H:Hp}{s:Shared}{a:Addr}{kvs:List (Key×V)}{k:Key}{u:Value}{A:Around}{E:Value->Shared->Prop}
end
section
variable {X:Cx}{o i e value:Expr}{pos pos' tpos:Pos}{td ty tv:TE}
end
section
variable {X:Cx}{pos:Pos}
end
section
variable {X:Cx}{pins:List (Addr×Obj)}{U:St}{H:Hp}{s:Shared}{a:Addr}{y d:V}{u r:Value}{o:Option V}{A:Around}{E:Value->Shared->Prop}
end
section
variable {X:Cx}{o e f:Expr}{apos cpos:Pos}{td ty tx:TE}
end
section
variable {X:Cx}{pins:List (Addr×Obj)}{U:St}{H:Hp}{s:Shared}{a:Addr}{kvs:List (Key×V)}{A:Around}{E:Value->Shared->Prop}
end
section
variable {X:Cx}{pins:List (Addr×Obj)}{U:St}{H:Hp}{s:Shared}{a:Addr}{y:V}{u:Value}{A:Around}{E:Value->Shared->Prop}
end
end L2
namespace My
def Bd (n:Nat)(x:Int):Prop:=x.natAbs<2 ^ n
theorem Bd.mono {m n:Nat}{x:Int}(h:Bd m x)(hmn:m<=n):Bd n x:=qq h (Nat.pow_le_pow_right (by decide) hmn)
theorem Bd.add {n:Nat}{x y:Int}(h:Bd n x)(h':Bd n y):Bd (n+1) (x+y):=by
 unfold Bd at *;rw [Nat.pow_succ];omega
theorem Bd.sub {n:Nat}{x y:Int}(h:Bd n x)(h':Bd n y):Bd (n+1) (x-y):=by
 unfold Bd at *;rw [Nat.pow_succ];omega
theorem Bd.neg {n:Nat}{x:Int}(h:Bd n x):Bd n (-x):=by unfold Bd at *;omega
theorem Bd.mul {m n:Nat}{x y:Int}(h:Bd m x)(h':Bd n y):Bd (m+n) (x*y):=by
 unfold Bd at *;rw [Int.natAbs_mul,Nat.pow_add];exact Nat.mul_lt_mul'' h h'
theorem Bd.of_le {n:Nat}{x y:Int}(h:Bd n y)(h':x.natAbs<=y.natAbs):Bd n x:=Nat.lt_of_le_of_lt h' h
theorem Bd.dvd {n:Nat}{x y:Int}(h:Bd n y)(h0:y≠0)(d:x ∣ y):Bd n x :=
 h.of_le (Nat.le_of_dvd (by omega) (Int.natAbs_dvd_natAbs.mpr d))
theorem Bd.fdiv {n:Nat}{x y:Int}(h:Bd n x):Bd n (x.fdiv y):=h.of_le (Int.natAbs_fdiv_le_natAbs x y)
theorem Bd.lit {n:Nat}{x:Int}(h:x.natAbs<2 ^ 200)(hn:200<=n):Bd n x:=Bd.mono (m:=200) h hn
theorem Bd.emod {n:Nat}{x m:Int}(h0:0<m)(h:Bd n m):Bd n (x%m):=by
 have h1:=Int.emod_nonneg x (Int.ne_of_gt h0)
 have h2:=Int.emod_lt_of_pos x h0
 exact h.of_le (by omega)
theorem zri (a b:Int):Int.gcd b (a.fmod b)=Int.gcd a b:=by
 have e:a.fmod b=a-b*a.fdiv b:=by have:=Int.mul_fdiv_add_fmod a b;omega
 rw [e,Int.gcd_sub_mul_left_right,Int.gcd_comm]
theorem znn {a b:Int}(h:b≠0):(a.fmod b).natAbs<b.natAbs:=by
 rcases Int.lt_or_gt_of_ne h with h1 | h1
 ·have e:(-(-a)).fmod (-(-b))=-((-a).fmod (-b)):=Int.neg_fmod_neg (-a) (-b)
  rw [Int.neg_neg,Int.neg_neg] at e
  have h2:=Int.fmod_nonneg_of_pos (-a) (b:=-b) (by omega)
  have h3:=Int.fmod_lt_of_pos (-a) (b:=-b) (by omega)
  omega
 ·have:=Int.fmod_nonneg_of_pos a h1
  have:=Int.fmod_lt_of_pos a h1
  omega
def gd (t b:Int):Int:=if b<0 then -((Int.gcd t b:Nat):Int) else ((Int.gcd t b:Nat):Int)
def frT (t b:Int):Int:=t.fdiv (gd t b)
def frB (t b:Int):Int:=b.fdiv (gd t b)
theorem zsE {t b:Int}(h:b≠0):gd t b≠0:=by
  have:Int.gcd t b≠0:=fun e=>h (Int.gcd_eq_zero_iff.mp e).2
  unfold gd;split<;>omega
theorem znu (t b:Int):gd t b ∣ t:=by
 unfold gd;split
 ·exact Int.neg_dvd.mpr (Int.gcd_dvd_left ..)
 ·exact Int.gcd_dvd_left ..
theorem zih (t b:Int):gd t b ∣ b:=by
 unfold gd;split
 ·exact Int.neg_dvd.mpr (Int.gcd_dvd_right ..)
 ·exact Int.gcd_dvd_right ..
theorem zn2 (t b:Int):frT t b*gd t b=t:=Int.fdiv_mul_cancel (znu t b)
theorem zkT (t b:Int):frB t b*gd t b=b:=Int.fdiv_mul_cancel (zih t b)
theorem zrd (t b:Int):frT t b*b=frB t b*t:=by
 have h1:=zn2 t b
 have h2:=zkT t b
 generalize frT t b=x at *
 generalize frB t b=y at *
 generalize gd t b=g at *
 subst h1 h2
 rw [Int.mul_comm y g,<- Int.mul_assoc,Int.mul_comm (x*g) y]
theorem zts {t b:Int}(h:b≠0):1<=frB t b:=by
  have h2:=zkT t b
  have h3:gd t b≠0:=zsE h
  have h4:0<b->0<gd t b:=by
    intro hb;unfold gd at *;split<;>omega
  have h5:b<0->gd t b<0:=by
    intro hb;unfold gd at *;split<;>omega
  generalize frB t b=y at *
  generalize gd t b=g at *
  rcases Int.lt_or_gt_of_ne h with hb | hb
  . have hg:=h5 hb
    rcases Int.lt_or_le y 1 with hy | hy
    . have:0<=y*g:=Int.mul_nonneg_of_nonpos_of_nonpos (by omega) (by omega)
      omega
    . exact hy
  . have hg:=h4 hb
    rcases Int.lt_or_le y 1 with hy | hy
    . have:y*g<=0:=Int.mul_nonpos_of_nonpos_of_nonneg (by omega) (by omega)
      omega
    . exact hy
theorem zuV {t b:Int}(h:b≠0):Int.gcd (frT t b) (frB t b)=1:=by
  have h0:0<Int.gcd t b:=Nat.pos_of_ne_zero fun e=>h (Int.gcd_eq_zero_iff.mp e).2
  have h1:=zn2 t b
  have h2:=zkT t b
  have e:Int.gcd (frT t b*gd t b) (frB t b*gd t b)=Int.gcd (frT t b) (frB t b)*(gd t b).natAbs:=Int.gcd_mul_right ..
  rw [h1,h2] at e
  have e2:(gd t b).natAbs=Int.gcd t b:=by unfold gd;split<;>omega
  rw [e2] at e
  exact Nat.eq_of_mul_eq_mul_right h0 (by omega)
theorem zwG {n:Nat}{t b:Int}(h:b≠0)(hb:Bd n b):Bd n (gd t b):=hb.dvd h (zih t b)
theorem zvv {n:Nat}{t b:Int}(hb:Bd n b):Bd n (frB t b):=hb.fdiv
theorem zup {n:Nat}{t b:Int}(hb:Bd n t):Bd n (frT t b):=hb.fdiv
open PySem PySem.Spec PyProof.Rows L2
def zwA (_ j:Int):Prop:=j≠0/\Bd 8000 j
def zwy (_ j:Int):Prop:=j≠0
theorem zjv {j:Int}(h:Bd 8000 j):j.natAbs.log2<9000:=by
 rcases Nat.eq_zero_or_pos j.natAbs with e | e
 ·rw [e];decide
 ·have:j.natAbs.log2<8000:=(Nat.log2_lt (Nat.ne_of_gt e)).mpr h
  omega
theorem zkd {j:Int}(h:Bd 8000 j):Builtin.Int.intBits j<=2 ^ 20:=by
 unfold Builtin.Int.intBits
 split
 ·exact qJ _
 ·have:=zjv h
  omega
section
variable {X:Cx}
theorem zqW:OpR X (binaryOp .FloorDiv) (rI zwA fun i j=>.int (i.fdiv j)):=opI fun _ _ _ _ _ _ _ hc q=>floordiv_int hc.1 q (.inl (PyProof.noPylong_of_log2 (zjv hc.2)))
theorem zs4:OpR X (binaryOp .Mod) (rI zwy fun i j=>.int (i.fmod j)):=zs9
def rB0 (g:Bool->Bool->V):R2:=fun x y H Q=>∃ i j,x=.bl i/\y=.bl j/\Q (g i j) H
theorem ztO {i j:Int}{a b:Nat}{p1 p2 pos:Pos}(c:Int)(h:i ^ j.toNat=c)(h0:0<=j/\j<=1000000/\i.natAbs<2 ^ 64):PE X (.BinOp (.Constant (.int i) a p1) .Pow (.Constant (.int j) b p2) pos) (tC (.int c)):=by
 intro pins s U H Q I q
 have q':Q (.int c) H:=q
 rw [<- h] at q'
 exact zso zuI zmu zmu pins s U H Q I ⟨i,j,rfl,rfl,h0,q'⟩
def zx4:List V->Hp->VK->Prop:=fun xs H Q=>∃ i,xs=[.int i]/\Q (.int (i.natAbs:Int)) H
theorem zqi:zaS X (.builtin "abs") zx4:=fun pins s U H xs us Q I r h=>by
  obtain⟨i,e,q⟩:=h
  refine zq2 pins s U H xs us Q I r ⟨i,e,?_⟩
  have:(if i<0 then -i else i)=(i.natAbs:Int):=by split<;>omega
  rw [this];exact q
def zx0 (K:PySem.W.Frag):List V->Hp->VK->Prop:=fun xs H Q=>∃ p ys,xs=[.ref p]/\(SqL K H p ys\/SqT K H p ys)/\Q (.int ys.length) H
theorem zqF:zaS X (.builtin "len") (zx0 X.K):=zl0
def zxw (K:PySem.W.Frag):List V->Hp->VK->Prop:=fun xs H Q=>∃ p ys,xs=[.ref p]/\(SqL K H p ys\/SqT K H p ys)/\∀ l,H l=none->Q (.ref l) (upd H l (.lst ys))
theorem zop:zaS X (.type "list") (zxw X.K):=zlU
def zxJ:List V->Hp->VK->Prop:=fun xs H Q=>(∃ i,xs=[.int i]/\Q (.int i) H)\/∃ k,xs=[.bl k]/\Q (.int (if k then 1 else 0)) H
theorem zpF:zaS X (.type "int") zxJ:=zqt
def zx2:List V->Hp->VK->Prop:=fun xs H Q=>∃ i j,xs=[.int i,.int j]/\Q (.int (if j > i then j else i)) H
theorem zpX (hc:X.calm=true):zaS X (.builtin "max") zx2:=zpy hc
def zya:List V->Hp->VK->Prop:=fun xs H Q=>∃ i j,xs=[.int i,.int j]/\Q (.int (if j<i then j else i)) H
theorem zqh (hc:X.calm=true):zaS X (.builtin "min") zya:=zps hc
theorem zxl {x:Str}{T:String}{pos:Pos}(hg:Gl X x)(hm:X.mg x=none)(hv:bootBuiltins x=some (.type T))(hn:x≠"__name__":=by decide)(hd:(x==("__debug__":Str))=false:=by decide):PE X (.Name x pos) (tC (.ty T)):=zsQ (v:=.ty T) hg hm hv rfl hn hd
def zx7 (K:PySem.W.Frag):List V->Hp->VK->Prop:=fun xs H Q=>∃ x c t b,xs=[x,.ty c]/\zeF K H x t/\PySem.W.kitOne K t (.type c)=some b/\Q (.bl b) H
theorem zry:zaS X (.builtin "isinstance") (zx7 X.K):=fun pins s U H xs us Q I r h=>by
 obtain⟨x,c,t,b,rfl,ty,e,q⟩:=h
 obtain⟨u,w',rfl,ru,rw'⟩:=vals2 r
 cases rw'
 exact zpE I ru ty e fun tk=>⟨.bl b,H,I.tok _,rfl,q⟩
end
section
variable {X:Cx}{K:PySem.W.Frag}
end
structure Got (P:Program)(w:World)(K:PySem.W.Frag)(mg:Str->Option Value)(base:Heap)(k:Nat)(x:Str)(ps:List Str)(sp:Sp):Prop where
 ex:∃ f fd,zaa P w K mg base CX0 k f fd ps sp/\Binds K fd ps []/\PySem.W.keepIn K (.ref f)=true/\mg x=some (.ref f)
theorem zvh {X:Cx}{k j:Nat}{x:Str}{ps:List Str}{sp:Sp}{p pos:Pos}{e:Expr}{es:List Expr}{t:TA}(G:Got X.prog X.w X.K X.mg X.base k x ps sp)(hr:zaT j X.A)(hk:k<=j)(hg:Gl X x)
  (ha:PA X (e::es) t) (hdb:(x==("__debug__":Str))=false:=by decide) (he:starEach (e::es) X.env=(false,eval e X.env)::starEach es X.env:=by rfl) (hpl:(backTo pos (starEach es X.env)).any (·.1)=false:=by rfl) :
  PE X (.Call (.Name x p) (e::es) [] pos) (zoy sp [] E0 t):=by
 intro pins s U H Q I h
 obtain⟨f,fd,F,b,kp,m⟩:=G.ex
 exact ztY (F.mono hk) hr hg m kp b .nil zsl ha hdb he hpl pins s U H Q I h
section
variable {nx:L2.St->Hp->Prop}{rt:VK}{bk ct:L2.St->Hp->Prop}{U:L2.St}{H:Hp}{K:PySem.W.Frag}
end
section
variable {U:L2.St}{H:Hp}{K:PySem.W.Frag}
def zyk:R2:=fun x y H Q=>y=.non/\Q (.bl (decide (x=.non))) H
def zwH:R2:=fun x y H Q=>y=.non/\Q (.bl (!decide (x=.non))) H
theorem zxs {X:Cx}:OpR X (compareOp .Is) zyk:=zv5
theorem zv9 {X:Cx}:OpR X (compareOp .IsNot) zwH:=zs5
end
theorem zfv {H:Hp}{p b:Addr}{o u:HO}(hp:H p=none)(h:H b=some u):upd H p o b=some u:=by
 rw [zaf (zbG h hp)];exact h
theorem znt {prog:Program}{w:World}{A:Around}{R:Result->Shared->Prop}{s:Shared}{elt target iter:Expr}{ifs:List Expr}{scope:Scope}{pos:Pos}{it acc:Value}{env:Env}(I:Nat->Shared->Prop)
  (turn:∀ n s,I n s->wpAny (model prog w) A (pyNext it) (fun r s₁=>match r with
   | none=>R (.ok .next) s₁
   | some v=>wpAny (model prog w) A (letOwnedTupleGo target it v) (fun _ s₁'=>wpAny (model prog w) A (assign target env v) (fun _ s₂ =>
     wpAny (model prog w) A (forIn ifs true fun c r=>if r=true then do let ok <- isTrue c env (eval c env);pure (ForInStep.yield ok) else pure (ForInStep.yield r)) (fun ok s₃ =>
      if ok=true then wpAny (model prog w) A (eval elt env) (fun x s₄ =>
       wpAny (model prog w) A (call (.builtin "list.append") [acc,x]) (fun _ s₅=>∃ m,m<n/\I m s₅) (fun _ _=>False) s₄) (fun _ _=>False) s₃
      else ∃ m,m<n/\I m s₃) (fun _ _=>False) s₂) (fun _ _=>False) s₁') (fun _ _=>False) s₁) (fun _ _=>False) s)
  (n:Nat) (h:I n s):codeAny (model prog w) A (.compLoop (.ListComp elt [⟨target,iter,ifs,0⟩] scope pos) 0 it acc env) R s:=by
 refine codeAny_loop rfl I (fun n s hI=>?_) n h
 show wpAny _ A ((compTurn (.ListComp elt [⟨target,iter,ifs,0⟩] scope pos) 0 it acc env).onRaise (fun x=>do noteFrame x env;theTreesLotGoes x)) _ _ s
 refine wpAny_noted ?_
 rw [compTurn_list]
 refine wpAny_bind (wpAny_standAt (wpAny_bind (wpAny_mono (turn n s hI) (fun r s₁ h₁=>?_) fun _ _ h'=>h'.elim)))
 cases r with
 | none=>exact wpAny_pure h₁
 | some v =>
  refine wpAny_bind (wpAny_mono h₁ (fun _ s₁' h₁'=>?_) fun _ _ h'=>h'.elim)
  refine wpAny_bind (wpAny_mono h₁' (fun _ s₂ h₂=>wpAny_bind (wpAny_mono h₂ (fun ok s₃ h₃=>?_) fun _ _ h'=>h'.elim)) fun _ _ h'=>h'.elim)
  cases ok with
  | false=>exact wpAny_pure ⟨rfl,h₃⟩
  | true =>
   exact wpAny_bind (wpAny_bind (wpAny_mono h₃ (fun x s₄ h₄=>wpAny_bind (wpAny_mono h₄ (fun _ s₅ h₅=>wpAny_pure (wpAny_pure ⟨rfl,h₅⟩)) fun _ _ h'=>h'.elim)) fun _ _ h'=>h'.elim))
def inner (X:Cx)(sc:Scope)(N:List Str)(cl:List (Str×Addr))(C:Addr)(s₀:Shared)(H₀:Hp)(ex:List Addr):Cx :=
  { X with N:=N,s₀:=s₀,H₀:=H₀,env:=compEnvC sc cl C X.env,outer:=X.stack,ex:=ex,fn:=fun _=>false,pn:=[] }
def PFs (X:Cx)(ifs:List Expr)(t:TT):Prop :=
 ∀ (pins:List (Addr×Obj)) (s:Shared) (U:L2.St) (H:Hp) (Q:Bool->Hp->Prop),Inv X pins U H s->t U H Q ->
  wpAny (model X.prog X.w) X.A (forIn ifs true fun c r=>if r=true then do let ok <- isTrue c X.env (eval c X.env);pure (ForInStep.yield ok) else pure (ForInStep.yield r)) (TP X pins U Q) X.xe s
def zxf:TT:=fun _ H Q=>Q true H
theorem zvy {X:Cx}:PFs X [] zxf:=fun _ _ _ H _ I h=>wpAny_tests_nil ⟨H,I,h⟩
theorem zui {X:Cx}{c:Expr}{t:TT}(h:PT X c t):PFs X [c] t:=fun pins s U H Q I q=>wpAny_tests_one (h pins s U H Q I q)
def zhT (X:Cx)(sc:Scope):List Str->List Nat->Prop
 | [],[]=>True
 | x::xs,j::js=>X.N[j]?=some x/\sc.names.lookup x=some .free/\X.env.kindOf x=some .cell/\zhT X sc xs js
 | _,_=>False
def ze0 (P:Str->Prop):List (Str×NameKind)->Prop
 | []=>True
 | (n,.free)::r=>P n/\ze0 P r
 | _::r=>ze0 P r
theorem ze0.of {P:Str->Prop}:∀ {l:List (Str×NameKind)},ze0 P l->∀ y∈l,y.2=.free->P y.1
  | (n,k)::r,h,y,hy,e=>by
    rcases qf.mp hy with rfl | hy
    . dsimp only at e;subst e;exact h.1
    . refine ze0.of (l:=r) ?_ y hy e
      cases k<;>first | exact h.2 | exact h
def cst (own:List Str)(fv:List Nat)(U:L2.St):L2.St:=List.replicate own.length none++fv.map fun j=>(U[j]?).join
def Agr:L2.St->L2.St->Prop
 | [],[]=>True
 | none::r,_::s=>Agr r s
 | some v::r,some w::s=>v=w/\Agr r s
 | _,_=>False
theorem Agr.len:∀ {a b:L2.St},Agr a b->b.length=a.length
  | [],[],_=>rfl
  | none::r,_::s,h=>congrArg (· + 1) (Agr.len (a:=r) (b:=s) h)
  | some v::r,some w::s,h=>congrArg (· + 1) (Agr.len (a:=r) (b:=s) h.2)
theorem Agr.get:∀ {a b:L2.St},Agr a b->∀ (i:Nat) (v:V),a[i]?=some (some v)->b[i]?=some (some v)
 | none::r,_::s,h,i,v,e=>by
  cases i with
  | zero=>simp at e
  | succ i=>simpa using Agr.get (a:=r) (b:=s) h i v (by simpa using e)
 | some v'::r,some w::s,h,i,v,e=>by
  cases i with
  | zero=>simp at e;subst e;simp [h.1]
  | succ i=>simpa using Agr.get (a:=r) (b:=s) h.2 i v (by simpa using e)
def tLC (own:List Str)(fv:List Nat)(wi:TI)(g:TG)(tc:TT)(te:TE):TE:=fun U H Q=>wi U H fun J H1=>∀ p,H1 p=none ->
 ∃ W:Nat->Nat->Hp->Prop,(∃ m,W 0 m (upd H1 p (.lst [])))/\∀ i m H2,W i m H2 ->
  (J.stop i H2/\Q (.ref p) H2)\/(J.go i H2/\∀ x H',J.yld i H2 x H'->g x (cst own fv U) H' fun σ2 H3=>Agr (cst own fv U) σ2/\tc σ2 H3 fun b H4 =>
   if b=true then te σ2 H4 fun y H5=>∃ ys,H5 p=some (.lst ys)/\ys.length<sizeLine/\∃ m',m'<m/\W (i+1) m' (upd H5 p (.lst (ys++[y])))
   else ∃ m',m'<m/\W (i+1) m' H4)
theorem znq {env:Env}{n:Str}{c:Addr}(h:env.cells.lookup n=some c):cellOf env n=pure c:=by
 unfold cellOf;rw [h]
theorem zg8 {env:Env}:∀ (names:List (Str×NameKind)) (cs:List (Str×Addr)),(∀ y∈names,y.2=.free->∃ c,env.cells.lookup y.1=some c)->(∀ x c,cs.lookup x=some c->env.cells.lookup x=some c) ->
    ∃ cl,(forIn names cs fun (x:Str×NameKind) (r:List (Str×Addr))=>if (x.2==NameKind.free)=true then do let a <- cellOf env x.1;pure (ForInStep.yield ((x.1,a)::r)) else pure (ForInStep.yield r))=(pure cl:Sem (List (Str×Addr))) /\
      (∀ x c,cl.lookup x=some c->env.cells.lookup x=some c)/\(∀ x,(cs.lookup x).isSome=true->(cl.lookup x).isSome=true)/\∀ y∈names,y.2=.free->(cl.lookup y.1).isSome=true
  | [],cs,_,h2=>⟨cs,rfl,h2,fun _ h=>h,fun _ h=>nomatch h⟩
  | (n,k)::r,cs,h1,h2=>by
    rw [List.forIn_cons]
    by_cases hk:k=.free
    . subst hk
      obtain⟨c,hc⟩:=h1 (n,.free) List.mem_cons_self rfl
      obtain⟨cl,e,a1,a2,a3⟩:=zg8 (env:=env) r ((n,c)::cs) (fun y hy=>h1 y (qs _ hy)) (fun x d hx=>by
        rw [qj] at hx
        by_cases hxn:x=n
        . subst hxn;simp at hx;subst hx;exact hc
        . have:(x==n)=false:=by simpa using hxn
          rw [this] at hx;exact h2 x d hx)
      refine⟨cl,?_,a1,fun x hx=>a2 x ?_,fun y hy e'=>?_⟩
      . simp only [beq_self_eq_true,if_true,znq hc]
        simpa using e
      . rw [qj];split<;>simp_all
      . rcases qf.mp hy with rfl | hy
        . exact a2 _ (by simp [qj])
        . exact a3 y hy e'
    . have hb:(k==NameKind.free)=false:=by simpa using hk
      obtain⟨cl,e,a1,a2,a3⟩:=zg8 (env:=env) r cs (fun y hy=>h1 y (qs _ hy)) h2
      refine⟨cl,?_,a1,a2,fun y hy e'=>?_⟩
      . simp only [hb,Bool.false_eq_true,if_false]
        simpa using e
      . rcases qf.mp hy with rfl | hy
        . exact absurd e' hk
        . exact a3 y hy e'
theorem zjA {env:Env}{sc:Scope}(h:∀ y∈sc.names,y.2=.free->∃ c,env.cells.lookup y.1=some c) :
  ∃ cl,closureFor sc env=pure cl/\(∀ x c,cl.lookup x=some c->env.cells.lookup x=some c)/\∀ y∈sc.names,y.2=.free->(cl.lookup y.1).isSome=true:=by
 obtain⟨cl,e,a1,_,a3⟩:=zg8 (env:=env) sc.names [] h (fun x c hx=>by simp at hx)
 refine⟨cl,?_,a1,a3⟩
 unfold closureFor
 have e2:=e
 first
  | exact e2
  | (show (do let cs <- forIn sc.names [] _;pure cs)=_;rw [show (forIn sc.names [] _:Sem (List (Str×Addr)))=pure cl from e2];rfl)
  | simpa using e2
theorem zeJ {env:Env}{x:Str}:∀ {names:List (Str×NameKind)},(names.map fun (n,k)=>if (k==NameKind.free&&env.scope.kind==.function&&env.kindOf n==some .cell) then (n,NameKind.cell) else (n,k)).lookup x =
    (names.lookup x).map fun k=>if (k==NameKind.free&&env.scope.kind==.function&&env.kindOf x==some .cell) then NameKind.cell else k
  | []=>rfl
  | (n,k)::r=>by
    have ih:=zeJ (env:=env) (x:=x) (names:=r)
    rw [List.map_cons]
    by_cases hx:x=n
    . subst hx
      dsimp only
      split<;>simp_all [qj]
    . have hb:(x==n)=false:=by simpa using hx
      dsimp only
      split<;>(rw [qj,qj,hb];exact ih)
theorem mem_of_lookup {β:Type}{x:Str}{k:β}:∀ {l:List (Str×β)},l.lookup x=some k->(x,k)∈l
 | (n,b)::r,h=>by
  rw [qj] at h
  by_cases hx:x=n
  ·subst hx;simp at h;subst h;exact List.mem_cons_self
  ·have hb:(x==n)=false:=by simpa using hx
   rw [hb] at h
   exact qs _ (mem_of_lookup h)
section
variable {X:Cx}{sc:Scope}{tg iter elt:Expr}{ifs:List Expr}{own free:List Str}{fv:List Nat}{wi:TI}{g:TG}{tc:TT}{te:TE}{pos:Pos}
theorem zsv {U:L2.St}:∀ {free:List Str} {fv:List Nat},zhT X sc free fv->∀ (k:Nat) (x:Str) (v:V),free[k]?=some x->(fv.map fun j=>(U[j]?).join)[k]?=some (some v) ->
  ∃ j:Nat,X.N[j]?=some x/\U[j]?=some (some v)/\sc.names.lookup x=some .free/\X.env.kindOf x=some .cell
 | x'::xs,j::js,h,k,x,v,e1,e2=>by
  cases k with
  | zero =>
   simp at e1 e2
   subst e1
   refine⟨j,h.1,?_,h.2.1,h.2.2.1⟩
   cases q:U[j]? with
   | none=>rw [q] at e2;simp at e2
   | some o=>rw [q] at e2;simp at e2;rw [e2]
  | succ k=>exact zsv (free:=xs) (fv:=js) h.2.2.2 k x v (by simpa using e1) (by simpa using e2)
 | [],[],_,k,x,v,e1,_=>by simp at e1
theorem zqD:∀ {free:List Str} {fv:List Nat},zhT X sc free fv->fv.length=free.length
  | [],[],_=>rfl
  | _::_,_::_,h=>congrArg (· + 1) (zqD h.2.2.2)
theorem zke {RR:Value->Addr->Result->Shared->Prop}(hcalm:X.calm=true)(hxe:X.xe=fun _ _=>False)(hkind:sc.kind=.function)(hcell:∀ y∈sc.names,y.2≠.cell)
    (hfr:ze0 (fun x=>X.env.kindOf x=some .cell) sc.names) (hfv:zhT X sc free fv)
    (hg:∀ cl C s₀ H₀ ex,PG (inner X sc (own++free) cl C s₀ H₀ ex) tg g) (ht:∀ cl C s₀ H₀ ex,PFs (inner X sc (own++free) cl C s₀ H₀ ex) ifs tc) (he:∀ cl C s₀ H₀ ex,PE (inner X sc (own++free) cl C s₀ H₀ ex) elt te)
    {pins:List (Addr×Obj)} {s2:Shared} {U:L2.St} {H2:Hp} {it:Addr} {fp:List Addr} {tn:Nat->Heap->Prop} {J:It} {Q:VK} (I2:Inv X pins U H2 s2) (T:Turn X.prog X.w X.K tg J fp it tn) (st2:tn 0 s2.heap) (f2:∀ b∈fp,zfI X pins H2 b)
    (h:∀ p,H2 p=none->∃ W:Nat->Nat->Hp->Prop,(∃ m,W 0 m (upd H2 p (.lst [])))/\∀ i m H2,W i m H2 ->
      (J.stop i H2/\Q (.ref p) H2)\/(J.go i H2/\∀ x H',J.yld i H2 x H'->g x (cst own fv U) H' fun σ2 H3=>Agr (cst own fv U) σ2/\tc σ2 H3 fun b H4 =>
        if b=true then te σ2 H4 fun y H5=>∃ ys,H5 p=some (.lst ys)/\ys.length<sizeLine/\∃ m',m'<m/\W (i+1) m' (upd H5 p (.lst (ys++[y])))
        else ∃ m',m'<m/\W (i+1) m' H4))
    {cl:List (Str×Addr)} (hcl1:∀ x c,cl.lookup x=some c->X.env.cells.lookup x=some c) (hcl2:∀ y∈sc.names,y.2=.free->(cl.lookup y.1).isSome=true)
    (hRR:∀ (p C:Addr) (m:Str->Option Value) (H':Hp) (s':Shared),s'.heap.Ns C m->Inv X pins U H' s'->H' C=none->C≠X.env.locals->X.s₀.heap.objs.size<=C->(∀ x c,X.env.cells.lookup x=some c->c≠C)->(∀ q∈X.pn++pins,q.1≠C)->Q (.ref p) H' ->
      RR (.ref p) C (.ok .next) s') :
    wpAny (model X.prog X.w) X.A (newList []) (fun acc s3=>wpAny (model X.prog X.w) X.A (newFunctionEnv sc X.env.globals cl [] X.env.qual none .none (some X.env)) (fun cenv s4 =>
      codeAny (model X.prog X.w) X.A (.compStart (.ListComp elt [⟨tg,iter,ifs,0⟩] sc pos) 0 (.ref it) acc { cenv with scope:=relabel sc X.env }) (RR acc cenv.locals) s4) X.xe s3) X.xe s2:=by
  rw [hxe]
  refine wpAny_newObj_type ?_
  have I3:Inv X pins U (upd H2 s2.heap.objs.size (.lst [])) { s2 with heap:=s2.heap.push { cls:=.type "list",data:=.seq ([]:List Value).toArray } }:=I2.lnew (t':=s2.toks) .nil (qJ _)
  generalize hs3:({ s2 with heap:=s2.heap.push { cls:=.type "list",data:=.seq ([]:List Value).toArray } }:Shared)=s3 at I3 ⊢
  have hp:H2 s2.heap.objs.size=none:=I2.fresh
  obtain⟨W,⟨m0,w0⟩,turn⟩:=h s2.heap.objs.size hp
  generalize hH3:upd H2 s2.heap.objs.size (.lst [])=H3 at I3 w0 ⊢
  have hk3:∀ b o,s2.heap.get? b=some o->s3.heap.get? b=some o:=fun b o e=>by rw [<- hs3];exact qc _ e
  have hz3:s3.heap.objs.size=s2.heap.objs.size+1:=by rw [<- hs3];exact Heap.size_push ..
  have st3:tn 0 s3.heap:=T.keep _ _ _ st2 fun b _ o e=>hk3 b o e
  have hfpo:∀ b∈fp,∃ o,s3.heap.get? b=some o:=fun b hb=>let ⟨o,e,_⟩:=T.obj _ _ st3 b hb;⟨o,e⟩
  have hfpn:∀ b∈fp,b≠s2.heap.objs.size:=fun b hb e=>by
    obtain⟨o,e',_⟩:=T.obj _ _ st2 b hb
    have:=qk e'
    rw [e] at this;exact Nat.lt_irrefl _ this
  have f3:∀ b∈fp,H3 b=none:=fun b hb=>by rw [<- hH3,zaf (hfpn b hb)];exact (f2 b hb).1
  refine wpAny_newFunctionEnv hcell (by intro y hy;simp at hy) (fun h1 hns1 hsb1=>?_) hkind
  have hC0:H3 s3.heap.objs.size=none:=I3.fresh
  have old:∀ b o,s3.heap.get? b=some o->h1.get? b=some o:=fun b o e=>hsb1.extBut b o (qB (qk e)) (qc _ e)
  have hlow:X.s₀.heap.objs.size<=s3.heap.objs.size:=I3.sz
  have hloc:X.env.locals<s3.heap.objs.size:=I3.lt
  have hcells:∀ x c,X.env.cells.lookup x=some c->c<s3.heap.objs.size:=fun x c e=>by
    obtain⟨v,o,ho,_⟩:=I3.cell x c e
    exact qk ho
  have YOk:(inner X sc (own++free) cl s3.heap.objs.size s3 H3 fp).Ok:={
    mod:=I3.ok.mod
    kind:=by show (relabel sc X.env).kind=.function;exact hkind
    glob:=I3.ok.glob
    blt:=I3.ok.blt
    above:=qg _
    inj:=fun x y c hx hy=>I3.ok.inj x y c (hcl1 x c hx) (hcl1 y c hy)
    has:=fun x hx=>by
      have e : (sc.names.lookup x).map (fun k => if (k == NameKind.free && X.env.scope.kind == .function && X.env.kindOf x == some .cell) then NameKind.cell else k) = some .cell ∨
          (sc.names.lookup x).map (fun k=>if (k==NameKind.free&&X.env.scope.kind==.function&&X.env.kindOf x==some .cell) then NameKind.cell else k)=some .free:=by
        have:=@zeJ X.env x sc.names
        rcases hx with hx | hx
        . exact .inl (this.symm.trans hx)
        . exact .inr (this.symm.trans hx)
      cases q:sc.names.lookup x with
      | none=>rw [q] at e;simp at e
      | some k =>
        have hm:=mem_of_lookup q
        by_cases hkf:k=.free
        . subst hkf
          exact Option.isSome_iff_exists.mp (hcl2 (x,.free) hm rfl)
        . have hkc:k≠.cell:=hcell (x,k) hm
          rw [q] at e
          have hb:(k==NameKind.free)=false:=by simpa using hkf
          simp only [Option.map_some,hb,Bool.false_and,Bool.false_eq_true,if_false,Option.some.injEq] at e
          rcases e with e | e
          . exact absurd e hkc
          . exact absurd e hkf
    cab:=fun x c hx=>by cases hx
    hd:=I3.ok.hd
    frames:=I3.ok.frames
    stk:=.inl rfl
    exf:=fun b hb=>⟨fun e=>by obtain⟨o,e'⟩:=hfpo b hb;have:=qk e';rw [e] at this;exact Nat.lt_irrefl _ this,fun x c hx=>(f2 b hb).2.2.2.2.1 x c (hcl1 x c hx)⟩
    bs:=I3.bs
    bsz:=qK I3.ok.bsz I3.sz
    noex:=fun b o hb hm=>by
      rcases (f2 b hm).2.2.2.1 with hx | hx
      . exact I3.ok.noex b o hb hx
      . exact Nat.lt_irrefl _ (qq (qq (qk hb) I3.ok.bsz) hx)
    exfs:=fun b hb hm=>by
      rcases qf.mp (I3.stkSub b hm) with e | e
      . exact (f2 b hb).2.1 e
      . exact (f2 b hb).2.2.1 e
    funs:=I3.stack
    frf:=I3.stkFree }
  have hlen0:(cst own fv U).length=(own++free).length:=by
    unfold cst;rw [qe,qe,qw,qa,zqD hfv]
  have I4:∀ tk,Inv (inner X sc (own++free) cl s3.heap.objs.size s3 H3 fp) [] (cst own fv U) H3 { s3 with heap:=h1,toks:=tk }:=fun tk=>{
    ok:=YOk
    os:=rfl
    bare:=I3.bare
    base:=Un.kept old
    loc:=by
      refine⟨_,hns1,fun i x v hN hσ _=>?_⟩
      have hN':(own++free)[i]?=some x:=hN
      have hσ':(List.replicate own.length none++fv.map fun j=>(U[j]?).join)[i]?=some (some v):=hσ
      by_cases hi:i<own.length
      . rw [qv (by rw [qw];exact hi)] at hσ'
        rw [List.getElem?_replicate] at hσ'
        split at hσ'<;>simp at hσ'
      . rw [ql (by omega)] at hN'
        rw [ql (by rw [qw];omega),qw] at hσ'
        obtain⟨j,hj,hσj,hsx,hkx⟩:=zsv hfv _ x v hN' hσ'
        obtain⟨m,_,hall⟩:=I3.loc
        obtain⟨u,ru,lk⟩:=hall j x v hj hσj (.inr (.inl hkx))
        refine⟨u,ru,.inr ⟨?_,?_⟩⟩
        . have:=@zeJ X.env x sc.names
          rw [hsx] at this
          have e2:Env.kindOf (inner X sc (own++free) cl s3.heap.objs.size s3 H3 fp).env x=(sc.names.map fun (n,k)=>if (k==NameKind.free&&X.env.scope.kind==.function&&X.env.kindOf n==some .cell) then (n,NameKind.cell) else (n,k)).lookup x:=rfl
          rw [e2,this]
          simp only [Option.map_some]
          split
          . exact .inl rfl
          . exact .inr rfl
        . rcases lk with ⟨hl,_⟩ | ⟨_,c,hc,hcell'⟩
          . rw [hkx] at hl;cases hl
          . obtain⟨c',hc'⟩:=Option.isSome_iff_exists.mp (hcl2 (x,.free) (mem_of_lookup hsx) rfl)
            have:=hcl1 x c' hc'
            rw [hc] at this
            cases this
            refine⟨c,hc',?_⟩
            obtain⟨o,ho,hd⟩:=hcell'
            exact⟨o,old _ _ ho,hd⟩
    cell:=fun x c hx=>by
      obtain⟨v,o,ho,hd⟩:=I3.cell x c (hcl1 x c hx)
      exact⟨v,o,old _ _ ho,hd⟩
    free:=hC0
    freeC:=fun x c hx=>I3.freeC x c (hcl1 x c hx)
    pin:=fun q hq=>nomatch hq
    hok:=I3.hok.kept old
    len:=hlen0 }
  have back:∀ (m:Str->Option Value) (H':Hp) (s':Shared),s'.heap.Ns s3.heap.objs.size m->Inv (inner X sc (own++free) cl s3.heap.objs.size s3 H3 fp) [] (cst own fv U) H' s'->Q (.ref s2.heap.objs.size) H'->RR (.ref s2.heap.objs.size) s3.heap.objs.size (.ok .next) s':=fun m H' s' hm IY q=>by
    have u1:Un (frs X.stack) fp H3 H' s3.heap s'.heap:=IY.base
    have IX:Inv X pins U H' s':=I3.call' (ch:=fp) (IY.os) u1 IY.hok IY.bare fun b hb=>⟨(f2 b hb).2.2.2.1,(f2 b hb).2.1,(f2 b hb).2.2.2.2.1,(f2 b hb).2.2.2.2.2⟩
    refine hRR _ _ m H' s' hm IX IY.free (Nat.ne_of_gt hloc) hlow (fun x c hx=>qB (hcells x c hx)) (fun q' hq=>?_) q
    have:=(I3.pin q' hq).1
    exact qB (qk this)
  have stat:∀ {H':Hp},(∀ b∈fp,H' b=none)->∀ b∈fp,zfI (inner X sc (own++free) cl s3.heap.objs.size s3 H3 fp) [] H' b:=fun hn b hb =>
    ⟨hn b hb,(YOk.exf b hb).1,YOk.exfs b hb,.inl hb,(YOk.exf b hb).2,fun q hq=>nomatch hq⟩
  have hYxe:(inner X sc (own++free) cl s3.heap.objs.size s3 H3 fp).xe=fun _ _=>False:=hxe
  have loop:∀ tk,codeAny (model X.prog X.w) X.A (.compLoop (.ListComp elt [⟨tg,iter,ifs,0⟩] sc pos) 0 (.ref it) (.ref s2.heap.objs.size) (compEnvC sc cl s3.heap.objs.size X.env)) (RR (.ref s2.heap.objs.size) s3.heap.objs.size) { s3 with heap:=h1,toks:=tk }:=fun tk=>by
    refine znt (fun n s'=>∃ i H',Inv (inner X sc (own++free) cl s3.heap.objs.size s3 H3 fp) [] (cst own fv U) H' s'/\tn i s'.heap/\(∀ b∈fp,H' b=none)/\W i n H') ?_ m0 ⟨0,H3,I4 tk,T.keep _ _ _ st3 (fun b _ o e=>old b o e),f3,w0⟩
    rintro n s5 ⟨i,H5,I5,st5,fr5,w5⟩
    rcases turn i n H5 w5 with ⟨stop,q⟩ | ⟨go,step⟩
    . refine thn (T.done (inner X sc (own++free) cl s3.heap.objs.size s3 H3 fp) rfl rfl rfl hcalm i [] s5 _ H5 _ I5 (stat fr5) st5 stop) fun r s6 ⟨hr,I6⟩=>?_
      subst hr
      obtain⟨m,hm,_⟩:=I6.loc
      exact back m H5 s6 hm I6 q
    . refine thn (T.item (inner X sc (own++free) cl s3.heap.objs.size s3 H3 fp) rfl rfl rfl hcalm i [] s5 _ H5 _ I5 (stat fr5) st5 go) fun r s6 ⟨u,hr,h6⟩=>?_
      subst hr
      refine thn h6 fun _ s7 ⟨x,H7,I7,r7,y7,st7,fr7⟩=>?_
      have I7':=I7.pinned (stat fr7) (T.obj _ _ st7)
      have hg':=hg cl s3.heap.objs.size s3 H3 fp _ s7 _ H7 x u _ I7' r7 (step x H7 y7)
      have ht':=ht cl s3.heap.objs.size s3 H3 fp
      have he':=he cl s3.heap.objs.size s3 H3 fp
      have ap:MtM (inner X sc (own++free) cl s3.heap.objs.size s3 H3 fp) "list.append" zob:=zlc
      unfold PFs at ht'
      unfold PE at he'
      unfold MtM at ap
      rw [hYxe] at hg' ht' he' ap
      have again : ∀ {pl : List (Addr × Obj)} {σ8 : L2.St} {H8 : Hp} {s8 : Shared}, pl = zh1 fp s7.heap → Inv (inner X sc (own ++ free) cl s3.heap.objs.size s3 H3 fp) ([] ++ pl) σ8 H8 s8 → Agr (cst own fv U) σ8 → (∃ m', m' < n ∧ W (i + 1) m' H8) →
          ∃ m,m<n/\∃ i H',Inv (inner X sc (own++free) cl s3.heap.objs.size s3 H3 fp) [] (cst own fv U) H' s8/\tn i s8.heap/\(∀ b∈fp,H' b=none)/\W i m H':=fun {pl σ8 H8 s8} hpl I8 ag ⟨m',hm,w8⟩=>by
        subst hpl
        refine⟨m',hm,i+1,H8,(I8.unpinned).weak ag.len.symm (fun j v e=>ag.get j v e),T.keep _ _ _ st7 fun b hb o e=>(I8.pin (b,o) (qL _ (qL _ (zfr hb e)))).1,fun b hb=>?_,w8⟩
        obtain⟨o,e,d⟩:=T.obj _ _ st7 b hb
        exact (I8.pin (b,o) (qL _ (qL _ (zfr hb e)))).2.1
      refine thn hg' fun _ s8 ⟨σ8,H8,I8,ag,q8⟩=>?_
      refine thn (ht' _ s8 σ8 H8 _ I8 q8) fun b s9 ⟨H9,I9,q9⟩=>?_
      cases b with
      | false =>
        rw [if_neg qo] at q9 ⊢
        exact again rfl I9 ag q9
      | true =>
        rw [if_pos rfl] at q9 ⊢
        refine thn (he' _ s9 σ8 H9 _ I9 q9) fun y s10 ⟨yv,H10,I10,ry,ys,hy,hlt,q10⟩=>?_
        refine thn (ap _ s10 σ8 H10 (.ref s2.heap.objs.size) [yv] (.ref s2.heap.objs.size) [y] (fun v H'=>v=.non/\H'=upd H10 s2.heap.objs.size (.lst (ys++[yv]))) I10 rfl (.cons ry .nil) ⟨_,ys,yv,rfl,rfl,hy,hlt,rfl,rfl⟩) fun z s11 ⟨v11,H11,I11,_,_,e11⟩=>?_
        subst e11
        exact again rfl I11 ag q10
  refine codeAny_compStart_list (loop _) (T.self _ 0 _ _ _ (T.keep _ _ _ st3 fun b _ o e=>old b o e) (loop _))
theorem zxy (hcalm:X.calm=true)(hxe:X.xe=fun _ _=>False)(hkind:sc.kind=.function)(hcell:∀ y∈sc.names,y.2≠.cell)(hnames:∀ y∈sc.names,y.2=.local->sc.names.lookup y.1=some .local)
  (hfr:ze0 (fun x=>X.env.kindOf x=some .cell) sc.names) (hfv:zhT X sc free fv) (hi:PI X tg iter wi)
  (hg:∀ cl C s₀ H₀ ex,PG (inner X sc (own++free) cl C s₀ H₀ ex) tg g) (ht:∀ cl C s₀ H₀ ex,PFs (inner X sc (own++free) cl C s₀ H₀ ex) ifs tc) (he:∀ cl C s₀ H₀ ex,PE (inner X sc (own++free) cl C s₀ H₀ ex) elt te)
  (hs:∀ x,foldedSetIterable iter X.env x=pure x:=by intro _;rfl):PE X (.ListComp elt [⟨tg,iter,ifs,0⟩] sc pos) (tLC own fv wi g tc te):=by
 intro pins s U H Q I q
 obtain⟨cl,hclos,hcl1,hcl2⟩:=zjA (env:=X.env) (sc:=sc) fun y hy e=>I.ok.has y.1 (.inl (hfr.of y hy e))
 rw [eval_ListComp]
 refine wpAny_comprehension_free (use:=none) rfl hs hclos hkind hnames (thn (hi pins s U H _ I q) fun v s1 h1=>thn h1 fun itv s2 h2=>?_)
 obtain⟨it,fp,tn,J,H2,e,I2,T,st2,f2,q2⟩:=h2
 subst e
 refine zke (RR:=fun acc C=>compPost (model X.prog X.w) X.A X.xe none (EP X pins U Q) acc C) hcalm hxe hkind hcell hfr hfv hg ht he I2 T st2 f2 q2 hcl1 hcl2 ?_
 intro p C m H' s' hm I' hC hCl hC0 hCc hCp q'
 exact⟨m,hm,fun h' hs'=>⟨.ref p,H',I'.turned (t':=s'.toks) (fun b o hb e=>hs'.extBut b o hb e) hC hCl (.inr hC0) hCc hCp,rfl,q'⟩⟩
theorem ztG {i:Nat}{y:Str}{py spos:Pos}(hN:X.N.Nodup)(hy:X.N[i]?=some y)(hyl:X.env.scope.names.lookup y=some .local)(hcalm:X.calm=true)(hxe:X.xe=fun _ _=>False)(hkind:sc.kind=.function)(hcell:∀ y∈sc.names,y.2≠.cell)(hnames:∀ y∈sc.names,y.2=.local->sc.names.lookup y.1=some .local)
  (hfr:ze0 (fun x=>X.env.kindOf x=some .cell) sc.names) (hfv:zhT X sc free fv) (hi:PI X tg iter wi)
  (hg:∀ cl C s₀ H₀ ex,PG (inner X sc (own++free) cl C s₀ H₀ ex) tg g) (ht:∀ cl C s₀ H₀ ex,PFs (inner X sc (own++free) cl C s₀ H₀ ex) ifs tc) (he:∀ cl C s₀ H₀ ex,PE (inner X sc (own++free) cl C s₀ H₀ ex) elt te)
  (hsw:swapsWith (.ListComp elt [⟨tg,iter,ifs,0⟩] sc pos) (some (.Name y py)) spos.line X.env=pure true:=by rfl)
  (hs:∀ x,foldedSetIterable iter X.env x=pure x:=by intro _;rfl):PS X (.Assign [.Name y py] (.ListComp elt [⟨tg,iter,ifs,0⟩] sc pos) spos) (zrP (tLC own fv wi g tc te) (zE i)):=by
 intro pins s U H D I q
 obtain⟨cl,hclos,hcl1,hcl2⟩:=zjA (env:=X.env) (sc:=sc) fun y hy e=>I.ok.has y.1 (.inl (hfr.of y hy e))
 rw [exec_Assign_Name_used _ _ _ _ hsw]
 refine wpAny_bind (wpAny_standAt (wpAny_bind ?_))
 show wpAny _ X.A (do let _ <- comprehension (.ListComp elt [⟨tg,iter,ifs,0⟩] sc pos) sc X.env _ (newList []) false (eval iter X.env) (some (assign (.Name y py) X.env))) _ _ s
 refine wpAny_bind (wpAny_mono (wpAny_comprehension_free (use:=some (assign (.Name y py) X.env)) (Q:=fun _ s'=>SP X pins D .next s') rfl hs hclos hkind hnames
  (thn (hi pins s U H _ I q) fun v s1 h1=>thn h1 fun itv s2 h2=>?_)) (fun _ s' hq=>wpAny_pure (wpAny_pure hq)) fun _ _ e=>e)
 obtain⟨it,fp,tn,J,H2,e,I2,T,st2,f2,q2⟩:=h2
 subst e
 refine zke (RR:=fun acc C=>compPost (model X.prog X.w) X.A X.xe (some (assign (.Name y py) X.env)) (fun _ s'=>SP X pins D .next s') acc C) (Q:=fun x H1=>zE i x U H1 D.nx) hcalm hxe hkind hcell hfr hfv hg ht he I2 T st2 f2 q2 hcl1 hcl2 ?_
 intro p C m H' s' hm I' hC hCl hC0 hCc hCp q'
 show wpAny _ X.A (assign (.Name y py) X.env (.ref p)) _ _ _
 refine wpAny_assign_Name (zlf (v:=.ref p) I' hN hy (.inl hyl) rfl (fun s'' I'' hsb=>?_) (.inr hyl))
 obtain⟨a,hsb,ha⟩:=hsb
 have hCa:C≠a:=by
  rcases ha with rfl | ha
  ·exact hCl
  ·exact fun e=>hCc _ _ ha e.symm
 refine⟨m,hm.sameBut hsb hCa,fun h' hs'=>⟨_,H',I''.turned (t':=s''.toks) (fun b o hb e=>hs'.extBut b o hb e) hC hCl (.inr hC0) hCc hCp,q'⟩⟩
end
section
variable {U:L2.St}{H:Hp}{K:PySem.W.Frag}
end
section
variable {X:Cx}{tg:Expr}
end
mutual
inductive Dt (K:PySem.W.Frag)(H:Hp):V->PyData->Prop
 | non:Dt K H .non .none
 | bl (b:Bool):Dt K H (.bl b) (.bool b)
 | int (i:Int):Dt K H (.int i) (.int i)
 | tup {a:Addr} {xs:List V} {ds:List PyData}:SqT K H a xs->zjy K H xs ds->Dt K H (.ref a) (.tuple ds)
 | lst {a:Addr} {xs:List V} {ds:List PyData}:SqL K H a xs->zjy K H xs ds->Dt K H (.ref a) (.list ds)
inductive zjy (K:PySem.W.Frag)(H:Hp):List V->List PyData->Prop
 | nil:zjy K H [] []
 | cons {x:V} {xs:List V} {d:PyData} {ds:List PyData}:Dt K H x d->zjy K H xs ds->zjy K H (x::xs) (d::ds)
end
section
variable {X:Cx}{pins:List (Addr×Obj)}{U:L2.St}{H:Hp}{s:Shared}
end
section
variable {X:Cx}{pins:List (Addr×Obj)}{U:L2.St}{H:Hp}{s:Shared}
theorem _root_.L2.Inv.turnNew {h':Heap}{ch:List Addr}{a:Addr}{o:HO}{t':Nat}(I:Inv X pins U H s)(hf:∀ b∈ch,zfI X pins H b)(k:∀ b u,b∉ch->s.heap.get? b=some u->h'.get? b=some u)(ha:s.heap.objs.size<=a)
  (new:zbo X.prog X.w (upd H a o) h' a o):Inv X pins U (upd H a o) { s with heap:=h',toks:=t' }:=by
 have lt:∀ b u,s.heap.get? b=some u->b≠a:=fun b u e z=>by
  have:=qk e
  rw [z] at this;exact Nat.lt_irrefl _ (qq this ha)
 have ltH:∀ b u,H b=some u->b≠a:=fun b u e z=>by
  have:=I.hok.lt e
  rw [z] at this;exact Nat.lt_irrefl _ (qq this ha)
 have nch:∀ b u,H b=some u->b∉ch:=fun b u e z=>by rw [(hf b z).1] at e;cases e
 refine I.step (g':=s.gens) (d':=s.drawn) (ch:=ch) (fun b hb=>⟨(hf b hb).2.2.2.1,(hf b hb).2.1,(hf b hb).2.2.2.2.1,(hf b hb).2.2.2.2.2⟩) (fun b u _ _ hc e _=>k b u hc e) (fun b u _ _ hc e _=>⟨u.slots,k b u hc e⟩)
  (fun b u _ e n=>by rw [zaf (lt b u e)];exact n) (fun b u hc e=>⟨u,k b u hc e⟩) (fun b xs e=>by rw [zaf (ltH b _ e)];exact e) (fun b u v e=>by rw [zaf (ltH b _ e)];exact e)
  (fun b ps e=>⟨#[],by rw [zaf (ltH b _ e),e];simp⟩) (fun m hm=>?_) (fun b u e=>?_) I.bare
 ·obtain⟨ob,es,ep,ho,r⟩:=hm
  exact⟨ob,es,ep,k _ ob (fun z=>(hf _ z).2.1 rfl) ho,r⟩
 ·by_cases hb:b=a
  ·subst hb
   rw [za0] at e
   cases e
   exact new
  ·rw [zaf hb] at e
   refine (I.hok b u e).stay (fun c v hc q=>k c v ?_ q) (fun c q=>by rw [zaf (ltH c _ q)];exact q) fun c ys q=>by rw [zaf (ltH c _ q)];exact q
   rcases hc with z | z
   ·rw [z];exact nch b u e
   ·exact nch c _ z
theorem _root_.L2.Inv.turnedL {h':Heap}{ch:List Addr}{t':Nat}(I:Inv X pins U H s)(hf:∀ b∈ch,zfI X pins H b)(k:∀ b u,b∉ch->s.heap.get? b=some u->h'.get? b=some u):Inv X pins U H { s with heap:=h',toks:=t' }:=by
 have nch:∀ b u,H b=some u->b∉ch:=fun b u e z=>by rw [(hf b z).1] at e;cases e
 refine I.step (g':=s.gens) (d':=s.drawn) (ch:=ch) (fun b hb=>⟨(hf b hb).2.2.2.1,(hf b hb).2.1,(hf b hb).2.2.2.2.1,(hf b hb).2.2.2.2.2⟩) (fun b u _ _ hc e _=>k b u hc e) (fun b u _ _ hc e _=>⟨u.slots,k b u hc e⟩)
  (fun b u _ e n=>n) (fun b u hc e=>⟨u,k b u hc e⟩) (fun b xs e=>e) (fun b u v e=>e) (fun b ps e=>⟨#[],by rw [e];simp⟩) (fun m hm=>?_) (fun b u e=>?_) I.bare
 ·obtain⟨ob,es,ep,ho,r⟩:=hm
  exact⟨ob,es,ep,k _ ob (fun z=>(hf _ z).2.1 rfl) ho,r⟩
 ·refine (I.hok b u e).stay (fun c v hc q=>k c v ?_ q) (fun c q=>q) fun c ys q=>q
  rcases hc with z | z
  ·rw [z];exact nch b u e
  ·exact nch c _ z
end
section
variable {X:Cx}
end
def Ite (K:PySem.W.Frag)(l:Addr):It :=
  ⟨fun i H=>∃ xs x,SqL K H l xs/\xs[i]?=some x,
   fun i H v H'=>∃ p,v=.ref p/\H p=none/\∀ xs x,SqL K H l xs->xs[i]?=some x->H'=upd H p (.tup [.int i,x]),
   fun i H=>∃ xs,SqL K H l xs/\xs.length<=i⟩
theorem zqb {P:Program}{w:World}{K:PySem.W.Frag}{es:List Expr}{kk:Nat}{pos:Pos}{e it l:Addr}(hne:e≠it) :
  Turn P w K (.Tuple es kk pos) (Ite K l) [e,it] e (fun i h=>(∃ old,IsEnum h e it i old)/\h.IsListIter it l i) where
 mem:=by simp
 obj:=fun i h st b hb=>by
  obtain⟨⟨old,he⟩,⟨o1,h1,_,h1d⟩⟩:=st
  simp only [qf,qm,or_false] at hb
  rcases hb with rfl | rfl
  ·exact⟨_,he,fun v q=>by cases (show Data.fields _=Data.cell v from q)⟩
  ·exact⟨_,h1,fun v q=>by rw [h1d] at q;cases q⟩
 keep:=fun i h h' st k=>by
  obtain⟨⟨old,he⟩,h1⟩:=st
  exact⟨⟨old,k e (by simp) _ he⟩,h1.at fun o q=>k it (by simp) o q⟩
 item:=by
  intro X hP hw hK hc i pins s U H E I hf st hg
  subst hP hw hK
  obtain⟨⟨old,he⟩,h1⟩:=st
  obtain⟨xs,x,hx1,hx⟩:=hg
  obtain⟨its,rx,px,zx⟩:=I.list hx1
  obtain⟨u,hu,ru⟩:=Vals.get rx hx
  refine wpAny_pyNext_enum_item he h1 px.isList (by simpa using hu) hne fun h' a1 a2 a3 a4 hk=>?_
  refine⟨_,rfl,wpAny_letOwnedTupleGo_enum (s:={ s with heap:=h',toks:=s.toks+1 }) a1 fun h'' he'' hs''=>?_⟩
  have lt:∀ {c o},s.heap.get? c=some o->s.heap.objs.size≠c:=fun q=>Nat.ne_of_gt (qk q)
  have k2:∀ b u,b∉[e,it]->s.heap.get? b=some u->h''.get? b=some u:=fun b u hb q=>by
   simp only [qf,qm,or_false,not_or] at hb
   exact hs''.extBut b u hb.1 (hk b u hb.1 hb.2 q)
  have new:h''.get? s.heap.objs.size=some { cls:=.type "tuple",data:=.seq #[.int i s.toks,u] }:=hs''.extBut _ _ (lt he) a3
  refine⟨.ref s.heap.objs.size,upd H s.heap.objs.size (.tup [.int i,x]),I.turnNew (t':=s.toks+1) hf k2 (qg _) ⟨by show 2<=sizeLine;decide,[.int i s.toks,u],.cons ⟨_,rfl⟩ (.cons ru .nil),_,new,rfl,_,rfl⟩,rfl,⟨_,rfl,I.fresh,?_⟩,?_,fun b hb=>?_⟩
  ·intro xs' x' hx1' hx'
   cases I.list_inj hx1 hx1'
   rw [hx] at hx'
   cases hx'
   rfl
  ·exact⟨⟨_,he''⟩,a2.extBut hs''.extBut (Ne.symm hne)⟩
  ·have:∃ o,s.heap.get? b=some o:=by
    simp only [qf,qm,or_false] at hb
    obtain⟨o1,e1,_⟩:=h1
    rcases hb with rfl | rfl
    ·exact⟨_,he⟩
    ·exact⟨_,e1⟩
   obtain⟨o,q⟩:=this
   rw [zaf (lt q).symm]
   exact (hf b hb).1
 done:=by
  intro X hP hw hK hc i pins s U H E I hf st hg
  subst hP hw hK
  obtain⟨⟨old,he⟩,h1⟩:=st
  obtain⟨xs,hx1,hl⟩:=hg
  obtain⟨its,rx,px,zx⟩:=I.list hx1
  have n1:=rx.length
  refine wpAny_pyNext_enum_end (I.ok.hd hc) he h1 px.isList (by rw [List.getElem?_toArray];exact qE (by omega)) fun h' hk=>⟨rfl,I.turnedL (t':=s.toks) hf fun b u hb q=>?_⟩
  simp only [qf,qm,or_false,not_or] at hb
  exact hk b u hb.2 q
 self:=fun _ _ _ _ _ st h=>by
  obtain⟨⟨old,he⟩,_⟩:=st
  exact wpAny_pyIter_enum he h
section
variable {X:Cx}
end
def hT (x1 z1 x2 z2 a b:Int):Int:=z1*(x2-x1)*b+(z2-z1)*(a-x1*b)
def hB (x1 x2 b:Int):Int:=(x2-x1)*b
section
variable {U:L2.St}{H:Hp}
end
structure zkj (P:Program)(w:World)(K:PySem.W.Frag)(mg:Str->Option Value)(base:Heap)(k:Nat)(x:Str)(sp:Sp):Prop where
 ex:∃ (C f:Addr) (fd:FuncData) (ps:List Str) (sp0:Sp),Mk K C f/\zaa P w K mg base CX0 k f fd ps sp0/\Binds K fd ps []/\mg x=some (.ref C) /\
  ∀ vs H Q,sp vs H Q E0->∀ x dx,H x=none->H dx=none->dx≠x->sp0 (.ref x::vs) (upd (upd H dx (.own x)) x (.ins C dx [])) (fun v H2=>v=.non/\Q (.ref x) H2) E0
theorem zw3 {X:Cx}{k j:Nat}{x:Str}{sp:Sp}{p pos:Pos}{e:Expr}{es:List Expr}{t:TA}(G:zkj X.prog X.w X.K X.mg X.base k x sp)(hr:zaT j X.A)(hk:k+1<=j)(hg:Gl X x)
  (ha:PA X (e::es) t) (hdb:(x==("__debug__":Str))=false:=by decide) (he:starEach (e::es) X.env=(false,eval e X.env)::starEach es X.env:=by rfl) (hpl:(backTo pos (starEach es X.env)).any (·.1)=false:=by rfl) :
  PE X (.Call (.Name x p) (e::es) [] pos) (zoy sp [] E0 t):=by
 intro pins s U H Q I h
 obtain⟨C,f,fd,ps,sp0,M,F,b,hm,imp⟩:=G.ex
 refine wpAny_Call_Name_kw (zgI I hg hm ?_ hdb)
 refine PySem.W.callWith_K (h₀:=X.base) I.ok.mod.kin M.kp (thn (ha pos pins s U H _ I h) fun us s1 ⟨vs,H1,I1,r,q⟩=>⟨I1.kIn,?_⟩) he hpl
 have q':sp (vs++[]) H1 Q E0:=q
 rw [List.append_nil] at q'
 exact zrv (dvs:=[]) (ds:=[]) M F (hr.mono hk) b .nil zsl I1 r fun x dx h1 h2 h3=>by rw [List.append_nil];exact imp vs H1 Q q' x dx h1 h2 h3
theorem ztc {X:Cx}{x:Str}{n:Int}{pos:Pos}(hg:Gl X x)(hm:∃ t,X.mg x=some (.int n t))(hd:(x==("__debug__":Str))=false:=by decide):PE X (.Name x pos) (tC (.int n)):=by
 obtain⟨t,ht⟩:=hm
 exact znH (v:=.int n) hg ht ⟨t,rfl⟩ hd
section
variable {U:L2.St}{H:Hp}{K:PySem.W.Frag}
end
section
variable {X:Cx}{K:PySem.W.Frag}
theorem zvH {pins:List (Addr×Obj)}{U:L2.St}{H:Hp}{s:Shared}{p:Addr}{its:List Value}(_:Inv X pins U H s)(pl:PlainL s.heap p its.toArray) :
  p<s.heap.objs.size/\(s.heap.push { cls:=.type "list_iterator",data:=.fields #[.ref p,.int 0 0] }).IsListIter s.heap.objs.size p 0:=by
 obtain⟨o,ho,_⟩:=pl.isList
 exact⟨qk ho,_,Heap.get?_push_size _ rfl,rfl,rfl⟩
theorem zuy {H:Hp}{pins:List (Addr×Obj)}{U:L2.St}{s:Shared}{h':Heap}{tk:Nat}(I:Inv X pins U H s){o:Obj}(hk:∀ b u,b∉[s.heap.objs.size]->(s.heap.push o).get? b=some u->h'.get? b=some u) :
  Inv X pins U H { s with heap:=h',toks:=tk }:=I.kept (t':=tk) fun d u e=>hk d u (fun hm=>by
   have h1:d=s.heap.objs.size:=by simpa using hm
   have h2:=qk e
   rw [h1] at h2
   exact Nat.lt_irrefl _ h2) (qc _ e)
def zxW (K:PySem.W.Frag):List V->Hp->VK->Prop:=fun xs H Q=>∃ (p:Addr) (bs:List Bool),xs=[.ref p]/\SqL K H p (bs.map V.bl)/\Q (.bl (bs.all id)) H
theorem zrK {bs:List Bool}{its:List Value}(rv:Vals (bs.map V.bl) its){i:Nat}{v:Value}(h:its.toArray[i]?=some v):v=.bool (bs.getD i false):=by
 rw [<- Array.getElem?_toList] at h
 have hi:i<its.length:=by
  rcases qD i its.length with g | g
  ·exact g
  ·rw [qE (by simpa using g)] at h;cases h
 have hl:=rv.length
 rw [qa] at hl
 have e:(bs.map V.bl)[i]?=some (.bl (bs.getD i false)):=by
  rw [qh,qb (by omega)]
  simp [qp,qb (show i<bs.length by omega)]
 obtain⟨u,hu,ru⟩:=rv.get e
 rw [show its.toArray.toList=its from rfl,hu] at h
 cases h
 exact ru
theorem all_range (bs:List Bool):(List.range bs.length).all (fun i=>bs.getD i false)=bs.all id:=by
 rw [Bool.eq_iff_iff,List.all_eq_true,List.all_eq_true]
 constructor
 ·intro h b hb
  obtain⟨i,hi,rfl⟩:=List.mem_iff_getElem.mp hb
  simpa [qp,qb hi] using h i (List.mem_range.mpr hi)
 ·intro h i hi
  rw [List.mem_range] at hi
  have:=h bs[i] (List.getElem_mem hi)
  simpa [qp,qb hi] using this
theorem zqB (hK:X.K=K)(hc:X.calm=true):zaS X (.builtin "all") (zxW K):=fun pins s U H xs us Q I r h=>by
 subst hK
 obtain⟨p,bs,rfl,hS,q⟩:=h
 obtain⟨u,rfl,ru⟩:=vals1 r
 cases ru
 obtain⟨its,rv,pl,hz⟩:=I.list hS
 obtain⟨lt,st⟩:=zvH I pl
 have hl:=rv.length
 rw [qa] at hl
 have W:=Walks.list (prog:=X.prog) (w:=X.w) (A:=X.A.in1) (I.ok.hd hc) s.heap.objs.size p (qB lt) its.toArray
 refine call_all_walk (wpAny_pyIter_list pl.isList ⟨s.heap.objs.size,[s.heap.objs.size,p],[s.heap.objs.size],_,_,_,fun i=>bs.getD i false,rfl,W,⟨st,pl.isList.push _⟩,?_,?_⟩)
 ·intro i v s' Q' E' hv hq
  rw [zrK rv hv]
  exact wpAny_truthy_bool hq
 ·intro h' tk hk
  rw [qi,<- hl,all_range]
  exact⟨.bl _,H,zuy (s:=s) I hk,rfl,q⟩
def zwU (K:PySem.W.Frag):List V->Hp->VK->Prop:=fun xs H Q=>∃ (p:Addr) (ns:List Int),xs=[.ref p]/\SqL K H p (ns.map V.int)/\0<ns.length/\∀ m:Int,m∈ns->(∀ a∈ns,a<=m)->Q (.int m) H
def zwv (K:PySem.W.Frag):List V->Hp->VK->Prop:=fun xs H Q=>∃ (p:Addr) (ns:List Int),xs=[.ref p]/\SqL K H p (ns.map V.int)/\0<ns.length/\∀ m:Int,m∈ns->(∀ a∈ns,m<=a)->Q (.int m) H
theorem zho:∀ {ns:List Int} {its:List Value},Vals (ns.map V.int) its->∃ xs:Array (Int×Tok),its.toArray=intItems xs/\xs.toList.map (·.1)=ns
 | [],_,h=>by cases h;exact⟨#[],by simp [intItems],rfl⟩
 | n::ns,_,h=>by
  cases h with
  | cons r t =>
   obtain⟨tk,rfl⟩:=r
   obtain⟨xs,e1,e2⟩:=zho t
   refine⟨#[(n,tk)]++xs,?_,?_⟩
   ·apply Array.toList_inj.mp
    have:=congrArg Array.toList e1
    simp [intItems] at this ⊢
    exact this
   ·simp [e2]
theorem zpR (hK:X.K=K)(hc:X.calm=true):zaS X (.builtin "max") (zwU K):=fun pins s U H xs us Q I r h=>by
 subst hK
 obtain⟨p,ns,rfl,hS,hne,q⟩:=h
 obtain⟨u,rfl,ru⟩:=vals1 r
 cases ru
 obtain⟨its,rv,pl,hz⟩:=I.list hS
 obtain⟨xs,e1,e2⟩:=zho rv
 have hsz:0<xs.size:=by rw [<- qG,<- qa (f:=(·.1)),e2];exact hne
 refine max_intList (I.ok.hd hc) (e1▸pl.isList) hsz fun v h' tk hv hk=>?_
 obtain⟨t,rfl⟩:=intItems_at hv
 obtain⟨h1,h2⟩:=argBest_gt (numAt xs) (xs.size-1)
 refine⟨.int _,H,I.kept (t':=tk) hk,⟨t,rfl⟩,q _ ?_ fun a ha=>?_⟩
 ·rw [<- e2,numAt_eq];exact getD_mem (by rw [qa,qG];omega)
 ·rw [<- e2] at ha
  obtain⟨j,hj,rfl⟩:=mem_getD ha
  rw [qa,qG] at hj
  rw [<- numAt_eq];exact h2 j (by omega)
theorem zqf (hK:X.K=K)(hc:X.calm=true):zaS X (.builtin "min") (zwv K):=fun pins s U H xs us Q I r h=>by
 subst hK
 obtain⟨p,ns,rfl,hS,hne,q⟩:=h
 obtain⟨u,rfl,ru⟩:=vals1 r
 cases ru
 obtain⟨its,rv,pl,hz⟩:=I.list hS
 obtain⟨xs,e1,e2⟩:=zho rv
 have hsz:0<xs.size:=by rw [<- qG,<- qa (f:=(·.1)),e2];exact hne
 refine min_intList (I.ok.hd hc) (e1▸pl.isList) hsz fun v h' tk hv hk=>?_
 obtain⟨t,rfl⟩:=intItems_at hv
 obtain⟨h1,h2⟩:=argBest_lt (numAt xs) (xs.size-1)
 refine⟨.int _,H,I.kept (t':=tk) hk,⟨t,rfl⟩,q _ ?_ fun a ha=>?_⟩
 ·rw [<- e2,numAt_eq];exact getD_mem (by rw [qa,qG];omega)
 ·rw [<- e2] at ha
  obtain⟨j,hj,rfl⟩:=mem_getD ha
  rw [qa,qG] at hj
  rw [<- numAt_eq];exact h2 j (by omega)
def zwV (K:PySem.W.Frag):List V->Hp->VK->Prop:=fun xs H Q=>∃ p ys,xs=[.ref p]/\((SqL K H p ys/\∀ l,H l=none->Q (.ref l) (upd H l (.tup ys)))\/(SqT K H p ys/\Q (.ref p) H))
theorem zqu (hK:X.K=K):zaS X (.type "tuple") (zwV K):=hK▸zln
end
section
variable {X:Cx}{K:PySem.W.Frag}
def zwg (K:PySem.W.Frag):R2:=fun x y H Q=>∃ l b xs zs,x=.ref l/\y=.ref b/\SqL K H l xs/\SqL K H b zs/\xs.length+zs.length<=sizeLine/\∀ p,H p=none->Q (.ref p) (upd H p (.lst (xs++zs)))
theorem zs8 (hK:X.K=K):OpR X (binaryOp .Add) (zwg K):=by
 subst hK
 intro pins s U H x y v u Q I rx ry h
 obtain⟨l,b,xs,zs,rfl,rfl,hH,hB,hz,q⟩:=h
 cases rx
 cases ry
 obtain⟨its,r,pl,_⟩:=I.list hH
 obtain⟨its2,r2,pl2,_⟩:=I.list hB
 obtain⟨⟨cls,dd,data,sl⟩,ho,hc,n,hd⟩:=pl.isList
 obtain⟨⟨cls2,dd2,data2,sl2⟩,ho2,hc2,n2,hd2⟩:=pl2.isList
 simp only at hc hd hc2 hd2
 subst hc hd hc2 hd2
 have e1:=r.length
 have e2:=r2.length
 refine concat_meets ⟨_,ho,rfl⟩ ⟨_,ho2,rfl⟩ noFill_list_add seq_list_add PySem.F.slot_list_add PySem.F.entry_list_add (PySem.F.args_list_add_2 _ _) (list_addW l b its.toArray its2.toArray n n2 dd dd2 sl sl2 (by rw [qi,qi];omega)) ⟨ho,ho2,?_⟩
 have ea:its.toArray++its2.toArray=(its++its2).toArray:=by simp
 rw [ea]
 exact⟨.ref _,_,I.lnew (t':=s.toks) (r.append r2) (by rw [qe];omega),rfl,q _ I.fresh⟩
end
section
variable {U:L2.St}{K:PySem.W.Frag}{own:List Str}{fv:List Nat}{g:TG}{tc:TT}{te:TE}{R:Hp->Prop}{H1:Hp}{p a:Addr}{xs:List V}
end
def zf8 (H:Hp)(ps:List Addr)(cs:List (Int×Int)):Prop:=Paired (fun (p:Addr) (c:Int×Int)=>H p=some (.tup [.int c.1,.int c.2])) ps cs
theorem zf8.length {H:Hp}{ps:List Addr}{cs:List (Int×Int)}(h:zf8 H ps cs):ps.length=cs.length:=Paired.length h
theorem zbb {α:Type}{xs:List α}{i:Nat}{x:α}(h:xs[i]?=some x):i<xs.length:=by
 rcases qD i xs.length with g | g
 ·exact g
 ·rw [qE g] at h;cases h
open PySem PySem.W PyProof.Rows
def zan {α:Type}(lt:Nat->Nat->Bool):KasT α->α
 | .ret a=>a
 | .ask i j k=>zan lt (k (lt i j))
theorem zea {α β:Type}(lt:Nat->Nat->Bool)(f:α->KasT β):∀ t:KasT α,zan lt (t.bind f)=zan lt (f (zan lt t))
 | .ret _=>rfl
 | .ask i j k=>zea lt f (k (lt i j))
structure Swo (lt:Nat->Nat->Bool):Prop where
 asymm:∀ a b,lt a b=true->lt b a=false
 ntrans:∀ a b c,lt b a=false->lt c b=false->lt c a=false
section
variable {lt:Nat->Nat->Bool}
abbrev ga (p:Array Nat)(i:Nat):Nat:=p.getD i 0
theorem zh3 (p:Array Nat)(i:Nat):ga p i=(p[i]?).getD 0:=by simp [ga,Array.getD_eq_getD_getElem?]
theorem zpD {p:Array Nat}{src d:Nat}(hs:src<p.size)(hd:d<=src)(k:Nat):ga (bubble p src d) k=if k=src-d then ga p src else if src-d<k/\k<=src then ga p (k-1) else ga p k:=by
 rw [zh3,getElem?_bubble hs d hd]
 by_cases h1:k=src-d
 ·rw [if_pos h1,if_pos h1,zh3]
 ·rw [if_neg h1,if_neg h1]
  by_cases h2:src-d<k/\k<=src
  ·rw [if_pos h2,if_pos h2,zh3]
  ·rw [if_neg h2,if_neg h2,zh3]
theorem zdF {p:Array Nat}{i j:Nat}(hj:j<=p.size)(k:Nat):ga (kas_rev p i j) k=if i<=k/\k<j then ga p (i+j-1-k) else ga p k:=by
  unfold kas_rev
  rw [zh3,getElem?_mirror_all hj]
  split<;>rw [zh3]
def Asc (lt:Nat->Nat->Bool)(p:Array Nat)(n:Nat):Prop:=∀ i j,i<=j->j<n->lt (ga p j) (ga p i)=false
def Dsc (lt:Nat->Nat->Bool)(p:Array Nat)(n:Nat):Prop:=∀ i j,i<=j->j<n->lt (ga p i) (ga p j)=false
def Eqs (lt:Nat->Nat->Bool)(p:Array Nat)(a b:Nat):Prop:=∀ i j,a<=i->i<b->a<=j->j<b->lt (ga p i) (ga p j)=false
theorem irr (S:Swo lt)(a:Nat):lt a a=false:=by
 cases h:lt a a with
 | false=>rfl
 | true=>have:=S.asymm a a h;rw [h] at this;exact this
theorem Asc.snoc (S:Swo lt){p:Array Nat}{n:Nat}(h1:1<=n)(h:Asc lt p n)(hn:lt (ga p n) (ga p (n-1))=false):Asc lt p (n+1):=by
 intro i j hij hj
 rcases qD j n with g | g
 ·exact h i j hij g
 ·have e:j=n:=by omega
  subst e
  rcases qD i j with g' | g'
  ·exact S.ntrans (ga p i) (ga p (j-1)) (ga p j) (h i (j-1) (by omega) (by omega)) hn
  ·have:i=j:=by omega
   subst this
   exact irr S _
theorem Dsc.snoc (S:Swo lt){p:Array Nat}{n:Nat}(h1:1<=n)(h:Dsc lt p n)(hn:lt (ga p (n-1)) (ga p n)=false):Dsc lt p (n+1):=by
 intro i j hij hj
 rcases qD j n with g | g
 ·exact h i j hij g
 ·have e:j=n:=by omega
  subst e
  rcases qD i j with g' | g'
  ·exact S.ntrans (ga p j) (ga p (j-1)) (ga p i) hn (h i (j-1) (by omega) (by omega))
  ·have:i=j:=by omega
   subst this
   exact irr S _
theorem Dsc.rev {p:Array Nat}{n:Nat}(hn:n<=p.size)(h:Dsc lt p n):Asc lt (kas_rev p 0 n) n:=by
 intro i j hij hj
 rw [zdF hn,zdF hn,if_pos ⟨by omega,hj⟩,if_pos ⟨by omega,by omega⟩]
 exact h _ _ (by omega) (by omega)
theorem Asc.rev {p:Array Nat}{n:Nat}(hn:n<=p.size)(h:Asc lt p n):Dsc lt (kas_rev p 0 n) n:=by
 intro i j hij hj
 rw [zdF hn,zdF hn,if_pos ⟨by omega,by omega⟩,if_pos ⟨by omega,by omega⟩]
 exact h _ _ (by omega) (by omega)
theorem Dsc.turn (S:Swo lt){p:Array Nat}{n a:Nat}(hn:n<=p.size)(ha:a<=n)(h:Dsc lt p n)(he:Eqs lt p a n):Dsc lt (kas_rev p a n) n:=by
 intro i j hij hj
 rw [zdF hn,zdF hn]
 by_cases hi:a<=i
 ·rw [if_pos ⟨hi,by omega⟩,if_pos ⟨by omega,hj⟩]
  exact he _ _ (by omega) (by omega) (by omega) (by omega)
 ·rw [if_neg (by omega)]
  by_cases hj':a<=j
  ·rw [if_pos ⟨hj',hj⟩]
   exact h _ _ (by omega) (by omega)
  ·rw [if_neg (by omega)]
   exact h _ _ hij hj
theorem zd5 {p:Array Nat}{i j:Nat}:(kas_rev p i j).size=p.size:=mirror_size _ _ _ _
theorem zcu {p:Array Nat}{i j:Nat}:(kas_rev p i j).Perm p:=mirror_perm _ _ _ _
theorem zl5 (S:Swo lt)(p:Array Nat):∀ f n,1<=n->Asc lt p n->Asc lt p (zan lt (kas_asc p f n))/\n<=zan lt (kas_asc p f n)/\zan lt (kas_asc p f n)<=n+f/\(zan lt (kas_asc p f n)<n+f->lt (ga p (zan lt (kas_asc p f n))) (ga p (zan lt (kas_asc p f n)-1))=true)
 | 0,n,_,h=>⟨h,qg _,qg _,fun z=>absurd z (Nat.lt_irrefl _)⟩
 | f+1,n,h1,h=>by
  cases hc:lt (ga p n) (ga p (n-1)) with
  | true =>
   have e:zan lt (kas_asc p (f+1) n)=n:=by
    show zan lt (if lt (ga p n) (ga p (n-1))=true then KasT.ret n else kas_asc p f (n+1))=n
    rw [if_pos hc];rfl
   rw [e]
   exact⟨h,qg _,by omega,fun _=>hc⟩
  | false =>
   have e:zan lt (kas_asc p (f+1) n)=zan lt (kas_asc p f (n+1)):=by
    show zan lt (if lt (ga p n) (ga p (n-1))=true then KasT.ret n else kas_asc p f (n+1))=_
    rw [if_neg (by rw [hc];exact qo)]
   rw [e]
   obtain⟨a1,a2,a3,a4⟩:=zl5 S p f (n+1) (by omega) (h.snoc S h1 hc)
   exact⟨a1,by omega,by omega,fun z=>a4 (by omega)⟩
theorem zim (S:Swo lt):∀ f (p:Array Nat) n q,1<=n->n+f<=p.size->q+1<=n->Dsc lt p n->Eqs lt p (n-(q+1)) n ->
    let r:=zan lt (kas_desc f p n q)
    r.1.size=p.size/\r.1.Perm p/\n<=r.2.1/\r.2.1<=n+f/\r.2.2+1<=r.2.1/\Dsc lt r.1 r.2.1/\Eqs lt r.1 (r.2.1-(r.2.2+1)) r.2.1
  | 0,p,n,q,h1,hz,hq,h,he=>⟨rfl,Array.Perm.refl _,qg _,qg _,hq,h,he⟩
  | f+1,p,n,q,h1,hz,hq,h,he=>by
    have one:∀ p':Array Nat,Eqs lt p' (n+1-(0+1)) (n+1):=fun p' i j a b c d=>by
      have e1:i=n:=by omega
      have e2:j=n:=by omega
      subst e1;subst e2
      exact irr S _
    cases hc:lt (ga p n) (ga p (n-1)) with
    | true =>
      have hn:lt (ga p (n-1)) (ga p n)=false:=S.asymm _ _ hc
      by_cases hq0:q > 0
      . have e : zan lt (kas_desc (f + 1) p n q) = zan lt (kas_desc f (kas_rev p (n - (q + 1)) n) (n + 1) 0) := by
          show zan lt (if lt (ga p n) (ga p (n-1))=true then (if q > 0 then kas_desc f (kas_rev p (n-(q+1)) n) (n+1) 0 else kas_desc f p (n+1) 0) else _)=_
          rw [if_pos hc,if_pos hq0]
        have ht:=h.turn S (a:=n-(q+1)) (by omega) (by omega) he
        have k1:ga (kas_rev p (n-(q+1)) n) n=ga p n:=by rw [zdF (by omega),if_neg (by omega)]
        have k2:ga (kas_rev p (n-(q+1)) n) (n-1)=ga p (n-(q+1)):=by
          rw [zdF (by omega),if_pos ⟨by omega,by omega⟩]
          congr 1;omega
        have hs:=Dsc.snoc S (p:=kas_rev p (n-(q+1)) n) h1 ht (by
          rw [k1,k2]
          exact S.ntrans (ga p n) (ga p (n-1)) (ga p (n-(q+1))) hn (he _ _ (by omega) (by omega) (by omega) (by omega)))
        have ih:=zim S f (kas_rev p (n-(q+1)) n) (n+1) 0 (by omega) (by rw [zd5];omega) (by omega) hs (one _)
        rw [e]
        obtain⟨a1,a2,a3,a4,a5,a6,a7⟩:=ih
        exact⟨a1.trans zd5,a2.trans zcu,by omega,by omega,a5,a6,a7⟩
      . have e : zan lt (kas_desc (f + 1) p n q) = zan lt (kas_desc f p (n + 1) 0) := by
          show zan lt (if lt (ga p n) (ga p (n-1))=true then (if q > 0 then kas_desc f (kas_rev p (n-(q+1)) n) (n+1) 0 else kas_desc f p (n+1) 0) else _)=_
          rw [if_pos hc,if_neg hq0]
        have ih:=zim S f p (n+1) 0 (by omega) (by omega) (by omega) (h.snoc S h1 hn) (one _)
        rw [e]
        obtain⟨a1,a2,a3,a4,a5,a6,a7⟩:=ih
        exact⟨a1,a2,by omega,by omega,a5,a6,a7⟩
    | false =>
      cases hd:lt (ga p (n-1)) (ga p n) with
      | true =>
        have e:zan lt (kas_desc (f+1) p n q)=(p,n,q):=by
          show zan lt (if lt (ga p n) (ga p (n-1))=true then _ else KasT.ask (ga p (n-1)) (ga p n) fun d=>if d=true then .ret (p,n,q) else kas_desc f p (n+1) (q+1))=_
          rw [if_neg (by rw [hc];exact qo)]
          show zan lt (if lt (ga p (n-1)) (ga p n)=true then _ else _)=_
          rw [if_pos hd];rfl
        rw [e]
        exact⟨rfl,Array.Perm.refl _,qg _,by show n<=_;omega,hq,h,he⟩
      | false =>
        have e:zan lt (kas_desc (f+1) p n q)=zan lt (kas_desc f p (n+1) (q+1)):=by
          show zan lt (if lt (ga p n) (ga p (n-1))=true then _ else KasT.ask (ga p (n-1)) (ga p n) fun d=>if d=true then .ret (p,n,q) else kas_desc f p (n+1) (q+1))=_
          rw [if_neg (by rw [hc];exact qo)]
          show zan lt (if lt (ga p (n-1)) (ga p n)=true then _ else _)=_
          rw [if_neg (by rw [hd];exact qo)]
        have heq:Eqs lt p (n+1-(q+1+1)) (n+1):=by
          intro i j a b c d
          rcases qD i n with gi | gi<;>rcases qD j n with gj | gj
          . exact he i j (by omega) gi (by omega) gj
          . have:j=n:=by omega
            subst this
            exact S.ntrans (ga p j) (ga p (j-1)) (ga p i) hd (he i (j-1) (by omega) gi (by omega) (by omega))
          . have:i=n:=by omega
            subst this
            exact S.ntrans (ga p j) (ga p (i-1)) (ga p i) (he (i-1) j (by omega) (by omega) (by omega) gj) hc
          . have e1:i=n:=by omega
            have e2:j=n:=by omega
            subst e1;subst e2
            exact irr S _
        have ih:=zim S f p (n+1) (q+1) (by omega) (by omega) (by omega) (h.snoc S h1 hd) heq
        rw [e]
        obtain⟨a1,a2,a3,a4,a5,a6,a7⟩:=ih
        exact⟨a1,a2,by omega,by omega,a5,a6,a7⟩
def ziC (lt:Nat->Nat->Bool)(p:Array Nat)(nrem:Nat)(r:Nat×Array Nat):Prop:=r.2.size=p.size/\r.2.Perm p/\1<=r.1/\r.1<=nrem/\Asc lt r.2 r.1
theorem znJ (S:Swo lt){p:Array Nat}{n nrem:Nat}(h1:1<=n)(hn:n<=nrem)(hz:nrem<=p.size)(h:Dsc lt p n):ziC lt p nrem (zan lt (kas_tail3 n nrem p)):=by
 have e:zan lt (kas_tail3 n nrem p)=(zan lt (kas_asc (kas_rev p 0 n) (nrem-n) n),kas_rev p 0 n):=by
  unfold kas_tail3;rw [zea];rfl
 rw [e]
 obtain⟨a1,a2,a3,_⟩:=zl5 S (kas_rev p 0 n) (nrem-n) n h1 (h.rev (by omega))
 exact⟨zd5,zcu,by show 1<=zan lt _;omega,by show zan lt _<=nrem;omega,a1⟩
theorem ziT (S:Swo lt){p:Array Nat}{n nrem:Nat}(h1:1<=n)(hn:n+1<=nrem)(hz:nrem<=p.size)(h:Dsc lt p (n+1)):ziC lt p nrem (zan lt (kas_descPart n nrem p)):=by
 unfold kas_descPart
 rw [zea]
 have d:=zim S (nrem-(n+1)) p (n+1) 0 (by omega) (by omega) (by omega) h (fun i j a b c d=>by
  have e1:i=n:=by omega
  have e2:j=n:=by omega
  subst e1;subst e2
  exact irr S _)
 dsimp only at d
 generalize zan lt (kas_desc (nrem-(n+1)) p (n+1) 0)=r at d ⊢
 obtain⟨a1,a2,a3,a4,a5,a6,a7⟩:=d
 by_cases hq:r.2.2 > 0
 ·rw [if_pos hq]
  obtain⟨b1,b2,b3,b4,b5⟩:=znJ S (p:=kas_rev r.1 (r.2.1-(r.2.2+1)) r.2.1) (n:=r.2.1) (nrem:=nrem) (by omega) (by omega) (by rw [zd5];omega) (a6.turn S (by omega) (by omega) a7)
  exact⟨b1.trans (zd5.trans a1),b2.trans (zcu.trans a2),b3,b4,b5⟩
 ·rw [if_neg hq]
  obtain⟨b1,b2,b3,b4,b5⟩:=znJ S (p:=r.1) (n:=r.2.1) (nrem:=nrem) (by omega) (by omega) (by omega) a6
  exact⟨b1.trans a1,b2.trans a2,b3,b4,b5⟩
theorem zra (S:Swo lt){p:Array Nat}{nrem:Nat}(h1:1<=nrem)(hz:nrem<=p.size):ziC lt p nrem (zan lt (kas_count nrem p)):=by
 unfold kas_count
 rw [zea]
 have h0:Asc lt p 1:=fun i j a b=>by
  have e1:i=0:=by omega
  have e2:j=0:=by omega
  subst e1;subst e2
  exact irr S _
 obtain⟨a1,a2,a3,a4⟩:=zl5 S p (nrem-1) 1 (qg _) h0
 generalize zan lt (kas_asc p (nrem-1) 1)=n at a1 a2 a3 a4 ⊢
 by_cases hn:(n==nrem)=true
 ·rw [if_pos hn]
  have:n=nrem:=by simpa using hn
  exact⟨rfl,Array.Perm.refl _,a2,by show n<=nrem;omega,a1⟩
 ·rw [if_neg hn]
  have hne:n≠nrem:=by simpa using hn
  have hlt:=a4 (by omega)
  by_cases hn1:n > 1
  ·rw [if_pos hn1]
   show ziC lt p nrem (zan lt (if lt (ga p 0) (ga p (n-1))=true then KasT.ret (n,p) else kas_descPart n nrem (kas_rev p 0 n)))
   cases hc:lt (ga p 0) (ga p (n-1)) with
   | true=>rw [if_pos rfl];exact⟨rfl,Array.Perm.refl _,a2,by show n<=nrem;omega,a1⟩
   | false =>
    rw [if_neg qo]
    have hd:=a1.rev (n:=n) (by omega)
    have hs:=Dsc.snoc S (p:=kas_rev p 0 n) a2 hd (by
     have k1:ga (kas_rev p 0 n) n=ga p n:=by rw [zdF (by omega),if_neg (by omega)]
     have k2:ga (kas_rev p 0 n) (n-1)=ga p 0:=by rw [zdF (by omega),if_pos ⟨by omega,by omega⟩];congr 1;omega
     rw [k1,k2]
     exact S.ntrans (ga p n) (ga p (n-1)) (ga p 0) (S.asymm _ _ hlt) hc)
    obtain⟨b1,b2,b3,b4,b5⟩:=ziT S (p:=kas_rev p 0 n) (n:=n) (nrem:=nrem) a2 (by omega) (by rw [zd5];omega) hs
    exact⟨b1.trans zd5,b2.trans zcu,b3,b4,b5⟩
  ·rw [if_neg hn1]
   have e:n=1:=by omega
   subst e
   exact ziT S (qg _) (by omega) hz (Dsc.snoc S (qg _) (fun i j a b=>by
    have e1:i=0:=by omega
    have e2:j=0:=by omega
    subst e1;subst e2
    exact irr S _) (S.asymm _ _ hlt))
theorem zi9 (S:Swo lt){p:Array Nat}{k:Nat}(h:Asc lt p k):∀ f l r,l<=r->r<=k->r-l<=f->(∀ i,i<l->lt (ga p k) (ga p i)=false)->(∀ i,r<=i->i<k->lt (ga p k) (ga p i)=true) ->
  let m:=zan lt (kas_place p k f l r)
  m<=k/\(∀ i,i<m->lt (ga p k) (ga p i)=false)/\(∀ i,m<=i->i<k->lt (ga p k) (ga p i)=true)
 | 0,l,r,h1,h2,h3,hl,hr=>by
  have:l=r:=by omega
  subst this
  exact⟨h2,hl,hr⟩
 | f+1,l,r,h1,h2,h3,hl,hr=>by
  by_cases hlr:l ≥ r
  ·have e:zan lt (kas_place p k (f+1) l r)=l:=by
    unfold kas_place;rw [if_pos hlr];rfl
   rw [e]
   have:l=r:=by omega
   subst this
   exact⟨h2,hl,hr⟩
  ·have e:zan lt (kas_place p k (f+1) l r)=zan lt (if lt (ga p k) (ga p ((l+r)/2))=true then kas_place p k f l ((l+r)/2) else kas_place p k f ((l+r)/2+1) r):=by
    conv=>lhs;unfold kas_place
    rw [if_neg hlr];rfl
   rw [e]
   cases hc:lt (ga p k) (ga p ((l+r)/2)) with
   | true =>
    rw [if_pos rfl]
    refine zi9 S h f l ((l+r)/2) (by omega) (by omega) (by omega) hl fun i hi hik=>?_
    cases hx:lt (ga p k) (ga p i) with
    | true=>rfl
    | false =>
     have:=S.ntrans (ga p ((l+r)/2)) (ga p i) (ga p k) (h _ _ hi hik) hx
     rw [hc] at this;exact this.symm
   | false =>
    rw [if_neg qo]
    refine zi9 S h f ((l+r)/2+1) r (by omega) h2 (by omega) (fun i hi=>?_) hr
    exact S.ntrans (ga p i) (ga p ((l+r)/2)) (ga p k) (h _ _ (by omega) (by omega)) hc
theorem zp1 (S:Swo lt):∀ f (p:Array Nat) k,k+f<=p.size->Asc lt p k->let r:=zan lt (kas_bin f p k);r.size=p.size/\r.Perm p/\Asc lt r (k+f)
 | 0,p,k,_,h=>⟨rfl,Array.Perm.refl _,h⟩
 | f+1,p,k,hz,h=>by
  have e:zan lt (kas_bin (f+1) p k)=zan lt (kas_bin f (bubble p k (k-zan lt (kas_place p k k 0 k))) (k+1)):=by
   show zan lt ((kas_place p k k 0 k).bind fun l=>kas_bin f (bubble p k (k-l)) (k+1))=_
   rw [zea]
  rw [e]
  obtain⟨m1,m2,m3⟩:=zi9 S h k 0 k (qJ _) (qg _) (by omega) (fun i hi=>absurd hi (by omega)) (fun i hi hik=>absurd hi (by omega))
  generalize zan lt (kas_place p k k 0 k)=m at m1 m2 m3 ⊢
  have hb:∀ i,ga (bubble p k (k-m)) i=if i=m then ga p k else if m<i/\i<=k then ga p (i-1) else ga p i:=fun i=>by
   rw [zpD (by omega) (by omega),show k-(k-m)=m by omega]
  have hs:Asc lt (bubble p k (k-m)) (k+1):=by
   intro i j hij hj
   rw [hb,hb]
   by_cases hi:i=m
   ·rw [if_pos hi]
    by_cases hjm:j=m
    ·rw [if_pos hjm];exact irr S _
    ·rw [if_neg hjm,if_pos ⟨by omega,by omega⟩]
     exact S.asymm _ _ (m3 (j-1) (by omega) (by omega))
   ·rw [if_neg hi]
    by_cases hjm:j=m
    ·rw [if_pos hjm,if_neg (by omega)]
     exact m2 i (by omega)
    ·rw [if_neg hjm]
     by_cases hi2:m<i
     ·rw [if_pos (show m<i/\i<=k from ⟨hi2,by omega⟩),if_pos (show m<j/\j<=k from ⟨by omega,by omega⟩)]
      exact h _ _ (by omega) (by omega)
     ·rw [if_neg (show ¬ (m<i/\i<=k) by omega)]
      by_cases hj2:m<j
      ·rw [if_pos (show m<j/\j<=k from ⟨hj2,by omega⟩)]
       exact h _ _ (by omega) (by omega)
      ·rw [if_neg (show ¬ (m<j/\j<=k) by omega)]
       exact h _ _ hij (by omega)
  obtain⟨a1,a2,a3⟩:=zp1 S f (bubble p k (k-m)) (k+1) (by rw [bubble_size];omega) hs
  exact⟨a1.trans (bubble_size _ _ _),a2.trans (bubble_perm _ _ _),by rw [show k+(f+1)=k+1+f by omega];exact a3⟩
theorem zua (S:Swo lt){n:Nat}(h1:1<=n):(zan lt (kas_sort n)).size=n/\(zan lt (kas_sort n)).Perm (List.toArray (List.range n))/\Asc lt (zan lt (kas_sort n)) n:=by
 unfold kas_sort
 rw [zea]
 obtain⟨a1,a2,a3,a4,a5⟩:=zra S (p:=List.toArray (List.range n)) (nrem:=n) h1 (by simp)
 generalize zan lt (kas_count n (List.toArray (List.range n)))=r at a1 a2 a3 a4 a5 ⊢
 have hsz:(List.toArray (List.range n)).size=n:=by simp
 by_cases hr:r.1<n
 ·rw [if_pos hr]
  have em:max r.1 1=r.1:=by omega
  rw [em]
  obtain⟨b1,b2,b3⟩:=zp1 S (n-r.1) r.2 r.1 (by omega) a5
  exact⟨b1.trans (a1.trans hsz),b2.trans a2,by rw [show r.1+(n-r.1)=n by omega] at b3;exact b3⟩
 ·rw [if_neg hr]
  have e:r.1=n:=by omega
  rw [e] at a5
  exact⟨a1.trans hsz,a2,a5⟩
def KIn {α:Type}(n:Nat)(post:α->Prop):KasT α->Prop
 | .ret a=>post a
 | .ask i j k=>i<n/\j<n/\∀ b,KIn n post (k b)
theorem KIn.bind {α β:Type}{n:Nat}{post:α->Prop}{post':β->Prop}{f:α->KasT β}(hf:∀ a,post a->KIn n post' (f a)):∀ (t:KasT α),KIn n post t->KIn n post' (t.bind f)
 | .ret a,h=>hf a h
 | .ask i j k,h=>⟨h.1,h.2.1,fun b=>KIn.bind hf (k b) (h.2.2 b)⟩
def Ent (n:Nat)(p:Array Nat):Prop:=∀ x∈p.toList,x<n
theorem Ent.at {n:Nat}{p:Array Nat}(h0:0<n)(h:Ent n p)(i:Nat):ga p i<n:=by
 rw [zh3]
 cases e:p[i]? with
 | none=>exact h0
 | some x =>
  rw [<- Array.getElem?_toList] at e
  exact h x (qd e)
theorem Ent.perm {n:Nat}{p r:Array Nat}(hp:r.Perm p)(h:Ent n p):Ent n r:=fun x hx=>h x ((Array.perm_iff_toList_perm.mp hp).mem_iff.mp hx)
theorem zmq {n:Nat}{p:Array Nat}(h0:0<n)(h:Ent n p):∀ f k,KIn n (fun _=>True) (kas_asc p f k)
 | 0,_=>trivial
 | f+1,k=>⟨h.at h0 _,h.at h0 _,fun b=>by
  cases b with
  | true=>exact trivial
  | false=>exact zmq h0 h f (k+1)⟩
theorem zir {n:Nat}(h0:0<n):∀ f (p:Array Nat) k q,Ent n p->KIn n (fun r=>Ent n r.1) (kas_desc f p k q)
 | 0,p,k,q,h=>h
 | f+1,p,k,q,h=>⟨h.at h0 _,h.at h0 _,fun b=>by
  cases b with
  | true =>
   show KIn n _ (if q > 0 then _ else _)
   by_cases hq:q > 0
   ·rw [if_pos hq];exact zir h0 f _ _ _ (h.perm zcu)
   ·rw [if_neg hq];exact zir h0 f _ _ _ h
  | false=>exact⟨h.at h0 _,h.at h0 _,fun d=>by
    cases d with
    | true=>exact h
    | false=>exact zir h0 f _ _ _ h⟩⟩
theorem zn5 {n k m:Nat}{p:Array Nat}(h0:0<n)(h:Ent n p):KIn n (fun r=>Ent n r.2) (kas_tail3 k m p):=by
 refine KIn.bind (post:=fun _=>True) (fun r _=>?_) _ (zmq h0 (h.perm zcu) _ _)
 exact h.perm zcu
theorem ziY {n k m:Nat}{p:Array Nat}(h0:0<n)(h:Ent n p):KIn n (fun r=>Ent n r.2) (kas_descPart k m p):=by
 refine KIn.bind (post:=fun r=>Ent n r.1) (fun r hr=>?_) _ (zir h0 _ _ _ _ h)
 by_cases hq:r.2.2 > 0
 ·rw [if_pos hq];exact zn5 h0 (hr.perm zcu)
 ·rw [if_neg hq];exact zn5 h0 hr
theorem zrA {n m:Nat}{p:Array Nat}(h0:0<n)(h:Ent n p):KIn n (fun r=>Ent n r.2) (kas_count m p):=by
 refine KIn.bind (post:=fun _=>True) (fun k _=>?_) _ (zmq h0 h _ _)
 by_cases hk:(k==m)=true
 ·rw [if_pos hk];exact h
 ·rw [if_neg hk]
  by_cases h1:k > 1
  ·rw [if_pos h1]
   refine⟨h.at h0 _,h.at h0 _,fun c=>?_⟩
   cases c with
   | true=>exact h
   | false=>exact ziY h0 (h.perm zcu)
  ·rw [if_neg h1];exact ziY h0 h
theorem zi3 {n:Nat}{p:Array Nat}{k:Nat}(h0:0<n)(h:Ent n p):∀ f l r,KIn n (fun _=>True) (kas_place p k f l r)
 | 0,_,_=>trivial
 | f+1,l,r=>by
  unfold kas_place
  by_cases hl:l ≥ r
  ·rw [if_pos hl];exact trivial
  ·rw [if_neg hl]
   refine⟨h.at h0 _,h.at h0 _,fun c=>?_⟩
   cases c with
   | true=>exact zi3 h0 h f _ _
   | false=>exact zi3 h0 h f _ _
theorem zpT {n:Nat}(h0:0<n):∀ f (p:Array Nat) k,Ent n p->KIn n (fun r=>Ent n r) (kas_bin f p k)
 | 0,p,k,h=>h
 | f+1,p,k,h=>KIn.bind (post:=fun _=>True) (fun l _=>zpT h0 f _ _ (h.perm (bubble_perm _ _ _))) _ (zi3 h0 h _ _ _)
theorem ztt {n:Nat}(h0:0<n):KIn n (fun _=>True) (kas_sort n):=by
 refine KIn.bind (post:=fun r=>Ent n r.2) (fun r hr=>?_) _ (zrA h0 (p:=List.toArray (List.range n)) (fun x hx=>by simpa using hx))
 by_cases h:r.1<n
 ·rw [if_pos h]
  have hb:=zpT h0 (n-max r.1 1) r.2 (max r.1 1) hr
  clear h
  generalize kas_bin (n-max r.1 1) r.2 (max r.1 1)=t at hb
  induction t with
  | ret a=>exact trivial
  | ask i j k ih=>exact⟨hb.1,hb.2.1,fun b=>ih b (hb.2.2 b)⟩
 ·rw [if_neg h];exact trivial
end
open PySem PySem.Spec PySem.W PyProof.Rows L2
def plt (a b:Int×Int):Bool:=if a.1=b.1 then decide (a.2<b.2) else decide (a.1<b.1)
theorem znO (cs:List (Int×Int)):Swo fun i j=>plt (cs.getD i (0,0)) (cs.getD j (0,0)) where
  asymm:=fun a b h=>by
    unfold plt at h ⊢
    generalize cs.getD a (0,0)=A at *
    generalize cs.getD b (0,0)=B at *
    split at h<;>split<;>simp at h ⊢<;>omega
  ntrans:=fun a b c h1 h2=>by
    unfold plt at h1 h2 ⊢
    generalize cs.getD a (0,0)=A at *
    generalize cs.getD b (0,0)=B at *
    generalize cs.getD c (0,0)=C at *
    split at h1<;>split at h2<;>split<;>simp at h1 h2 ⊢<;>omega
def PrV (h:Heap)(v:Value)(c:Int×Int):Prop:=∃ (a:Addr) (o:Obj) (n:Nat) (t u:Tok),v=.ref a/\h.get? a=some o/\o.cls=.type "tuple"/\o.data=.seq #[.int c.1 t,.int c.2 u] n
theorem kwp {α:Type}{cmp:Nat->Nat->(Bool->Shared->Prop)->Shared->Prop}{lt:Nat->Nat->Bool}{n:Nat}{s:Shared}(hc:∀ i j C,i<n->j<n->C (lt i j) s->cmp i j C s){post:α->Prop}(Q:α->Shared->Prop) :
  ∀ t:KasT α,KIn n post t->Q (zan lt t) s->t.kasWp cmp Q s
 | .ret _,_,q=>q
 | .ask i j k,h,q=>hc i j _ h.1 h.2.1 (kwp hc Q (k (lt i j)) (h.2.2 _) q)
section
variable {prog:Program}{w:World}{A:Around}{E:Value->Shared->Prop}{s:Shared}
theorem zrJ {v v':Value}{c d:Int×Int}{Q:Bool->Shared->Prop}(h1:PrV s.heap v c)(h2:PrV s.heap v' d)(q:Q (plt c d) s):wpAny (model prog w) A (keyLt' (tuples' true) v v') Q E s:=by
 obtain⟨a,o,n,t,u,rfl,ho,_,hd⟩:=h1
 obtain⟨a',o',n',t',u',rfl,ho',_,hd'⟩:=h2
 refine kat_lt ho hd ho' hd' ?_
 show KatLex prog w A true _ Q [(.int c.1 t,.int d.1 t'),(.int c.2 u,.int d.2 u')] 0 s
 refine kat_cons (wpAny_eqBool_int ?_)
 by_cases e:c.1=d.1
 ·rw [show (c.1==d.1)=true by simpa using e]
  refine kat_yes (kat_cons (wpAny_eqBool_int ?_))
  by_cases e2:c.2=d.2
  ·rw [show (c.2==d.2)=true by simpa using e2]
   refine kat_yes (kat_nil ?_)
   have:plt c d=false:=by unfold plt;rw [if_pos e,e2];simp
   rw [this] at q
   exact q
  ·rw [show (c.2==d.2)=false by simpa using e2]
   refine kat_no ?_
   show wpAny (model prog w) A (oneLt' false _ _) Q _ s
   refine kat_one _ _ (lt_int ?_)
   have:plt c d=decide (c.2<d.2):=by unfold plt;rw [if_pos e]
   rw [this] at q
   exact q
 ·rw [show (c.1==d.1)=false by simpa using e]
  refine kat_no ?_
  show wpAny (model prog w) A (oneLt' true _ _) Q _ s
  refine oneLt_int ?_
  have:plt c d=decide (c.1<d.1):=by unfold plt;rw [if_neg e]
  rw [this] at q
  exact q
theorem zmj {h:Heap}:∀ {vs:List Value} {cs:List (Int×Int)},Paired (PrV h) vs cs->∃ fs:List Value,KatTups h vs fs/\fs.length=vs.length/\∀ f∈fs,∃ i t,f=.int i t
 | _,_,.nil=>⟨[],trivial,rfl,fun f hf=>absurd hf (by simp)⟩
 | _,_,.cons (a:=v) (b:=c) r t=>by
  obtain⟨fs,k,hl,hf⟩:=zmj t
  obtain⟨a,o,n,tk,u,rfl,ho,hc,hd⟩:=r
  refine⟨.int c.1 tk::fs,KatTups.cons ho hc hd rfl k,by simp [hl],fun f hm=>?_⟩
  rcases qf.mp hm with rfl | hm
  ·exact⟨_,_,rfl⟩
  ·exact hf f hm
theorem zf1 {α β:Type}{F:α->β->Prop}{da:α}{db:β}:∀ {l:List α} {m:List β},Paired F l m->∀ i,i<l.length->F (l.getD i da) (m.getD i db)
 | _,_,.nil,i,h=>absurd h (by simp)
 | _,_,.cons r _,0,_=>r
 | _::_,_::_,.cons _ t,i+1,h=>zf1 (da:=da) (db:=db) t i (by simpa using h)
theorem zjW {a:Addr}{vs:List Value}{cs:List (Int×Int)}{n:Nat}{P:PySem.Fin->Shared->Prop}(ho:s.heap.get? a=some (seqObj "list" vs.toArray n))(hv:Paired (PrV s.heap) vs cs)(h64:vs.length<64)
  (h:∀ p:List Nat,p.Perm (List.range vs.length)->(∀ i j,i<=j->j<vs.length->plt (cs.getD (p.getD j 0) (0,0)) (cs.getD (p.getD i 0) (0,0))=false) ->
   P (.done (.ret .none)) { s with heap:=sortedHeap s.heap a vs (p.map fun i=>vs.getD i Value.none).toArray }) :
  wpAny (model prog w) A (Builtin.«list.sort» ⟨[.ref a],[]⟩) P E s:=by
 rw [list_sort_plain]
 have ha:a<s.heap.objs.size:=qk ho
 refine wpAny_bind (listItems_at ho rfl ?_)
 refine wpAny_bind (listUpdate_at ho rfl ?_)
 obtain⟨e1,ho1⟩:∃ e1,(s.heap.update a (Obj.mapSeq fun _=>#[])).get? a=some (seqObj "list" #[] e1):=⟨_,get?_update_seq ho (fun _=>#[])⟩
 refine wpAny_bind (seqEpoch_at ho1 rfl ?_)
 refine wpAny_bind (wpAny_newTuple ?_)
 refine wpAny_bind (wpAny_newList ?_)
 refine wpAny_holding ?_
 have ho6:(((s.heap.update a (Obj.mapSeq fun _=>#[])).push (seqObj "tuple" vs.toArray 0)).push (seqObj "list" #[] 0)).get? a=some (seqObj "list" #[] e1):=by
  rw [Heap.get?_push_ne _ _ _ (by rw [size_push',Heap.size_update];exact qB (Nat.lt_succ_of_lt ha)),Heap.get?_push_ne _ _ _ (by rw [Heap.size_update];exact qB ha)]
  exact ho1
 have keep:∀ b u,b≠a->s.heap.get? b=some u->(((s.heap.update a (Obj.mapSeq fun _=>#[])).push (seqObj "tuple" vs.toArray 0)).push (seqObj "list" #[] 0)).get? b=some u:=fun b u hb hu=>by
  have hlt:b<s.heap.objs.size:=qk hu
  rw [Heap.get?_push_ne _ _ _ (by rw [size_push',Heap.size_update];exact qB (Nat.lt_succ_of_lt hlt)),Heap.get?_push_ne _ _ _ (by rw [Heap.size_update];exact qB hlt),Heap.get?_update_ne _ _ _ _ hb]
  exact hu
 have hv6:Paired (PrV (((s.heap.update a (Obj.mapSeq fun _=>#[])).push (seqObj "tuple" vs.toArray 0)).push (seqObj "list" #[] 0))) vs cs:=Paired.imp' (fun v c hp=>by
  obtain⟨b,o,m,t,u,rfl,hb,hc,hd⟩:=hp
  refine⟨b,o,m,t,u,rfl,keep b o (fun e=>?_) hb,hc,hd⟩
  subst e
  rw [ho] at hb
  cases hb
  injection hc with hc
  exact absurd hc (by decide)) hv
 show wpAny (model prog w) A _ P E { s with heap:=((s.heap.update a (Obj.mapSeq fun _=>#[])).push (seqObj "tuple" vs.toArray 0)).push (seqObj "list" #[] 0) }
 have hh:sortedHeap s.heap a vs=fun out=>(((s.heap.update a (Obj.mapSeq fun _=>#[])).push (seqObj "tuple" vs.toArray 0)).push (seqObj "list" #[] 0)).update a (Obj.mapSeq fun _=>out):=rfl
 rw [hh] at h
 generalize ((s.heap.update a (Obj.mapSeq fun _=>#[])).push (seqObj "tuple" vs.toArray 0)).push (seqObj "list" #[] 0)=h6 at *
 dsimp only
 have hsz:vs.toArray.size=vs.length:=by simp
 by_cases h2:vs.toArray.size<2
 ·rw [if_pos h2,if_pos h2]
  refine wpAny_bind (wpAny_pure ?_)
  rw [StateT.run_pure]
  refine wpAny_bind (wpAny_pure ?_)
  dsimp only
  refine wpAny_bind (seqEpoch_at ho6 rfl ?_)
  refine wpAny_bind (listUpdate_at ho6 rfl ?_ (hsz2:=by rw [Array.size_map];show (pairsOf vs).size<=_;rw [pairsOf_size,sizeLine_eq];omega))
  simp only [bne_self_eq_false,Bool.false_eq_true,if_false]
  have q:=h (List.range vs.length) (List.Perm.refl _) (fun i j hij hj=>by
   have e1:i=0:=by omega
   have e2:j=0:=by omega
   subst e1;subst e2
   exact irr (znO cs) _)
  have eo:(List.map (fun i=>vs.getD i Value.none) (List.range vs.length)).toArray=Array.map (·.2) (vs.toArray.zip vs.toArray):=by
   have hz:vs.length<2:=by omega
   clear q h hv6 hh hv ho h64 hsz h2
   match vs,hz with
   | [],_=>simp
   | [x],_=>simp [List.range_succ]
  rw [eo] at q
  exact wpAny_pure q
 ·rw [if_neg h2,if_neg h2]
  have hn2:2<=vs.length:=by omega
  obtain⟨fs,kt,hfl,hfi⟩:=zmj hv6
  refine wpAny_bind (kat_kind (s:={ s with heap:=h6 }) (T:=.type "int") kt (by omega) (fun v hm=>?_) (by rfl) ?_)
  ·obtain⟨i,t,rfl⟩:=hfi v hm
   exact Looks.of_pure rfl
  have cmp:∀ (i j:Nat) (C:Bool->Shared->Prop),i<vs.length->j<vs.length->C (plt (cs.getD i (0,0)) (cs.getD j (0,0))) { s with heap:=h6 }->kas_ask prog w A (tuples' (Value.type "int" != Value.type "tuple")) vs i j C { s with heap:=h6 }:=fun i j C hi hj hC =>
   zrJ (s:={ s with heap:=h6 }) (zf1 hv6 i hi) (zf1 hv6 j hj) hC
  refine wpAny_bind (wpAny_mono (kat_run (ks:=vs) (vs:=vs) (Q:=fun st' s'=>∃ p:Array Nat,p=zan (fun i j=>plt (cs.getD i (0,0)) (cs.getD j (0,0))) (kas_sort vs.length)/\s'={ s with heap:=h6 }/\arrOf st'=p.map (kas_item (vs.toArray.zip vs.toArray))/\failedOf st'=none)
   (G:=fun p s'=>p=zan (fun i j=>plt (cs.getD i (0,0)) (cs.getD j (0,0))) (kas_sort vs.length)/\s'={ s with heap:=h6 }) rfl hn2 h64 (fun p' st' s' a1 a2 a3 a4=>⟨p',a4.1,a4.2,a2,a3⟩) (kwp cmp _ _ (ztt (by omega)) ⟨rfl,rfl⟩)) ?_ fun _ _ e=>e)
  rintro⟨⟨⟩,st'⟩ s' ⟨p,hp,rfl,har,hf⟩
  dsimp only
  obtain⟨z1,z2,z3⟩:=zua (znO cs) (n:=vs.length) (by omega)
  rw [<- hp] at z1 z2 z3
  have hout:=kat_snds (vs:=vs) (ks:=vs) rfl har
  have hsz2:(List.toArray (p.toList.map fun i=>vs.getD i Value.none)).size=vs.length:=by rw [qi,qa,qG,z1]
  rw [hout]
  refine wpAny_bind (seqEpoch_at ho6 rfl ?_)
  refine wpAny_bind (listUpdate_at ho6 rfl ?_ (hsz2:=by rw [hsz2,sizeLine_eq];omega))
  rw [hf]
  simp only [bne_self_eq_false,Bool.false_eq_true,if_false]
  refine wpAny_pure (h p.toList ?_ fun i j hij hj=>?_)
  ·have:=Array.perm_iff_toList_perm.mp z2
   simpa using this
  ·have e:∀ k,p.toList.getD k 0=ga p k:=fun k=>by rw [zh3,qp,Array.getElem?_toList]
   rw [e,e]
   exact z3 i j hij hj
theorem zlN {l:Addr}{vs:List Value}{cs:List (Int×Int)}{Q:Value->Shared->Prop}(hl:s.heap.IsList l vs.toArray)(hv:Paired (PrV s.heap) vs cs)(h64:vs.length<64)
    (h:∀ p:List Nat,p.Perm (List.range vs.length)->(∀ i j,i<=j->j<vs.length->plt (cs.getD (p.getD j 0) (0,0)) (cs.getD (p.getD i 0) (0,0))=false) ->
      Q (.ref (s.heap.objs.size+1)) { s with heap:=sortedAll s.heap vs (p.map fun i=>vs.getD i Value.none).toArray }) :
    wpAny (model prog w) A (call (.builtin "sorted") [.ref l]) Q E s:=by
  refine Calls.call_function_entry kind_sorted plain_sorted entry_sorted (args_sorted1 _) ?_
  unfold Builtin.«sorted»
  refine wpAny_bind (m:=checkCount "sorted" 1 1 _) (wpAny_pure ?_)
  refine wpAny_bind (collect_list hl ?_)
  refine wpAny_bind (wpAny_newList ?_)
  have hsz:((s.heap.push (seqObj "list" #[] 0)).update s.heap.objs.size (Obj.mapSeq (·++vs.toArray))).objs.size=s.heap.objs.size+1:=by
    rw [Heap.size_update,size_push']
  have hoL:(((s.heap.push (seqObj "list" #[] 0)).update s.heap.objs.size (Obj.mapSeq (·++vs.toArray))).push (seqObj "list" vs.toArray 0)).get? (s.heap.objs.size+1)=some (seqObj "list" vs.toArray 0):=by
    rw [<- hsz];exact Heap.get?_push_size _ rfl
  have keep:∀ b o,s.heap.get? b=some o->(((s.heap.push (seqObj "list" #[] 0)).update s.heap.objs.size (Obj.mapSeq (·++vs.toArray))).push (seqObj "list" vs.toArray 0)).get? b=some o:=fun b o q=>by
    have hlt:b<s.heap.objs.size:=qk q
    rw [Heap.get?_push_ne _ _ _ (by rw [hsz];exact qB (Nat.lt_succ_of_lt hlt)),Heap.get?_update_ne _ _ _ _ (qB hlt),Heap.get?_push_ne _ _ _ (qB hlt)]
    exact q
  show wpAny _ _ _ _ _ { s with heap:=((s.heap.push (seqObj "list" #[] 0)).update s.heap.objs.size (Obj.mapSeq (·++vs.toArray))).push (seqObj "list" vs.toArray 0) }
  rw [hsz]
  refine wpAny_bind (wpAny_holding (wpAny_call_entry slot_list_sort ⟨_,hoL,rfl⟩ entry_list_sort (zjW (s:={ s with heap:=((s.heap.push (seqObj "list" #[] 0)).update s.heap.objs.size (Obj.mapSeq (·++vs.toArray))).push (seqObj "list" vs.toArray 0) }) hoL (Paired.imp' (fun v c hp=>by
    obtain⟨b,o,m,t,u,e,hb,hc,hd⟩:=hp
    exact⟨b,o,m,t,u,e,keep b o hb,hc,hd⟩) hv) h64 fun p a1 a2=>⟨_,rfl,?_⟩) (args_list_sort _)))
  exact wpAny_pure ⟨_,rfl,h p a1 a2⟩
end
def zvx (K:PySem.W.Frag):List V->Hp->VK->Prop:=fun xs H Q=>∃ (p:Addr) (ps:List Addr) (cs:List (Int×Int)),xs=[.ref p]/\SqL K H p (ps.map V.ref)/\zf8 H ps cs/\cs.length<64 /\
 ∀ (l:Addr) (ps':List Addr) (cs':List (Int×Int)),H l=none->zf8 H ps' cs'->cs'.Perm cs->cs'.Pairwise (fun a b=>plt b a=false)->Q (.ref l) (upd H l (.lst (ps'.map V.ref)))
theorem zlg:∀ {ps:List Addr} {its:List Value},Vals (ps.map V.ref) its->its=ps.map Value.ref
 | [],_,h=>by cases h;rfl
 | p::ps,_,h=>by
  cases h with
  | cons r t =>
   have:=zlg t
   cases r
   rw [this];rfl
theorem zkZ:∀ ps:List Addr,Vals (ps.map V.ref) (ps.map Value.ref)
 | []=>.nil
 | _::ps=>.cons rfl (zkZ ps)
theorem zkS {α:Type}(l:List α)(d:α){p:List Nat}(h:p.Perm (List.range l.length)):(p.map fun i=>l.getD i d).Perm l:=by
 have:=h.map fun i=>l.getD i d
 refine this.trans ?_
 have e:(List.range l.length).map (fun i=>l.getD i d)=l:=by
  apply List.ext_getElem
  ·simp
  ·intro i h1 h2
   simp [qp,qb h2]
 rw [e]
theorem zmW {X:Cx}{K:PySem.W.Frag}(hK:X.K=K):zaS X (.builtin "sorted") (zvx K):=fun pins s U H xs us Q I r h=>by
 subst hK
 obtain⟨p,ps,cs,rfl,hS,hP,h64,q⟩:=h
 obtain⟨u,rfl,ru⟩:=vals1 r
 cases ru
 obtain⟨its,rv,pl,hz⟩:=I.list hS
 have ei:=zlg rv
 subst ei
 have hlen:=hP.length
 have prv:∀ {ps:List Addr} {cs:List (Int×Int)},zf8 H ps cs->Paired (PrV s.heap) (ps.map Value.ref) cs:=by
  intro ps cs hP
  induction hP with
  | nil=>exact .nil
  | cons r t ih =>
   refine .cons ?_ ih
   obtain⟨its2,r2,pl2,_⟩:=I.tuple (SqT.of r)
   obtain⟨o,ho,hc,n,hd⟩:=pl2
   cases r2 with | cons x1 r2=>cases r2 with | cons x2 r2 =>
   cases r2
   obtain⟨t1,rfl⟩:=x1
   obtain⟨t2,rfl⟩:=x2
   exact⟨_,o,n,t1,t2,rfl,ho,hc,hd⟩
 refine zlN pl.isList (prv hP) (by rw [qa];omega) fun pm hpm hso=>?_
 rw [qa] at hpm hso
 have eo:(pm.map fun i=>(ps.map Value.ref).getD i Value.none)=(pm.map fun i=>ps.getD i 0).map Value.ref:=by
  rw [qM]
  apply List.map_congr_left
  intro i hi
  have hi':i<ps.length:=by simpa using hpm.mem_iff.mp hi
  simp [qp,qb hi']
 rw [eo]
 have hPl:(pm.map fun i=>ps.getD i 0).length=ps.length:=by rw [qa,hpm.length_eq,List.length_range]
 obtain⟨e,he⟩:=sortedAll_at s.heap (ps.map Value.ref) ((pm.map fun i=>ps.getD i 0).map Value.ref).toArray
 have hPr:zf8 H (pm.map fun i=>ps.getD i 0) (pm.map fun i=>cs.getD i (0,0)):=by
  have hb:∀ i∈pm,i<ps.length:=fun i hi=>by simpa using hpm.mem_iff.mp hi
  clear eo hPl he hpm hso
  induction pm with
  | nil=>exact .nil
  | cons i pm ih=>exact .cons (zf1 hP i (hb i (by simp))) (ih fun j hj=>hb j (by simp [hj]))
 refine⟨.ref (s.heap.objs.size+1),_,I.laid (t':=s.toks) (a:=s.heap.objs.size+1) (o:=.lst ((pm.map fun i=>ps.getD i 0).map V.ref)) (fun b o q=>sortedAll_old q) (Nat.le_succ _) ⟨by rw [qa,hPl];have:=hz;rw [qa] at this;exact this,_,e,zkZ _,he⟩,rfl,q _ _ _ (I.hok.fresh (Nat.le_succ _)) hPr ?_ ?_⟩
 ·rw [hlen] at hpm
  exact zkS cs (0,0) hpm
 ·rw [List.pairwise_map,qQ]
  intro i j hi hj hij
  have:=hso i j (Nat.le_of_lt hij) (by rw [<- List.length_range (n:=ps.length),<- hpm.length_eq];exact hj)
  simpa [qp,qb hi,qb hj] using this
section
variable {K:PySem.W.Frag}{H:Hp}
end
def zv4 (K:PySem.W.Frag):R2:=fun x y H Q=>∃ a b xs ys,x=.ref a/\y=.ref b/\SqT K H a xs/\SqT K H b ys/\xs.length+ys.length<=sizeLine/\(xs=[]->Q (.ref b) H)/\(xs≠[]->ys=[]->Q (.ref a) H)/\(xs≠[]->ys≠[]->∀ p,H p=none->Q (.ref p) (upd H p (.tup (xs++ys))))
theorem zrj {X:Cx}{K:PySem.W.Frag}(hK:X.K=K):OpR X (binaryOp .Add) (zv4 K):=by
 subst hK
 intro pins s U H x y v u Q I rx ry h
 obtain⟨a,b,xs,ys,rfl,rfl,ha,hb,hz,q0,q1,q2⟩:=h
 by_cases hx:xs=[]
 ·subst hx
  cases rx
  cases ry
  obtain⟨its,r1,p1,_⟩:=I.tuple ha
  obtain⟨its2,r2,p2,_⟩:=I.tuple hb
  cases r1
  obtain⟨⟨cls,dd,data,sl⟩,ho,hc,n,hd⟩:=id p1
  obtain⟨⟨cls2,dd2,data2,sl2⟩,ho2,hc2,n2,hd2⟩:=id p2
  simp only at hc hd hc2 hd2
  subst hc hd hc2 hd2
  exact concat_meets ⟨_,ho,rfl⟩ ⟨_,ho2,rfl⟩ noFill_tuple_add seq_tuple_add PySem.F.slot_tuple_add PySem.F.entry_tuple_add (PySem.F.args_tuple_add_2 _ _)
   (tuple_addW0 a b _ its2.toArray n n2 dd dd2 sl sl2 (by simp)) ⟨ho,ho2,⟨.ref b,H,I,rfl,q0 rfl⟩⟩
 ·exact zt4 pins s U H _ _ v u Q I rx ry ⟨a,b,xs,ys,rfl,rfl,ha,hb,hx,hz,q1 hx,q2 hx⟩
end My
namespace Dp
open PySem
inductive D where
 | non | bl (b:Bool) | int (i:Int) | str (x:Str) | tup (xs:List D) | ref (n:Nat) | ty (n:String) | rl (xs:List D) | exn (c:Str)
 deriving Inhabited
inductive Cell where
 | lst (xs:List D) | ins (c:Str) (fs:List (Str×D))
 | dk (kvs:List (Str×D)) | dt (kvs:List (List (Sum Int Str)×D))
 deriving Inhabited
abbrev Sto:=List Cell
abbrev Rho:=List (Option D)
abbrev DK:=D->Sto->Prop
abbrev DE:=Rho->Sto->DK->Prop
abbrev DT:=Rho->Sto->(Bool->Sto->Prop)->Prop
abbrev DA:=Rho->Sto->(List D->Sto->Prop)->Prop
abbrev DG:=D->Rho->Sto->(Rho->Sto->Prop)->Prop
abbrev DGs:=List D->Rho->Sto->(Rho->Sto->Prop)->Prop
structure zoF where
 nx:Rho->Sto->Prop
 rt:DK
 bk:Rho->Sto->Prop:=fun _ _=>False
 ct:Rho->Sto->Prop:=fun _ _=>False
abbrev DS:=zoF->Rho->Sto->Prop
structure DIt where
 items:List D
 ok:Sto->Prop
abbrev DI:=Rho->Sto->(DIt->Sto->Prop)->Prop
abbrev DSp:=List D->Sto->DK->Prop
def big:Nat:=1000000
def fl:Nat->D->Bool
  | _,.ref _=>false
  | _,.ty _=>false
  | _,.rl _=>false
  | _,.exn _=>false
  | 0,.tup _=>false
  | k+1,.tup xs=>xs.all (fl k)
  | _,.non=>true
  | _,.bl _=>true
  | _,.int _=>true
  | _,.str x=>x.cps.all (· < 0x110000)
mutual
def eqv:D->D->Bool
 | .non,.non=>true
 | .bl a,.bl b=>a==b
 | .bl a,.int j=>(if a then 1 else 0)==j
 | .int i,.bl b=>i==(if b then 1 else 0)
 | .int i,.int j=>decide (i=j)
 | .str x,.str y=>x==y
 | .tup xs,.tup ys=>eqvAll xs ys
 | _,_=>false
def eqvAll:List D->List D->Bool
 | [],[]=>true
 | x::xs,y::ys=>eqv x y&&eqvAll xs ys
 | _,_=>false
end
def Lst (S:Sto)(x:D)(xs:List D):Prop:=x=.rl xs\/∃ n,x=.ref n/\S[n]?=some (.lst xs)
def zeQ (S:Sto)(x:D)(xs:List D):Prop:=x=.tup xs\/Lst S x xs
def ixD (n:Nat)(k:Int):Option Nat:=if 0<=k then (if k<n then some k.toNat else none) else if -(n:Int)<=k then some (k+n).toNat else none
def atD (xs:List D)(k:Int):Option D:=(ixD xs.length k).bind fun j=>xs[j]?
def atS (z:Str)(k:Int):Option Nat:=(ixD z.cps.toList.length k).bind fun j=>z.cps.toList[j]?
def slD (n:Nat)(d:Nat):Option Int->Nat
 | none=>d
 | some k=>if k<0 then (k+n).toNat else min k.toNat n
def cutD {α:Type}(xs:List α)(lo hi:Option Int):List α:=(xs.drop (slD xs.length 0 lo)).take (slD xs.length xs.length hi-slD xs.length 0 lo)
def zf (i:Nat):DE:=fun Z S Q=>∃ d,Z[i]?=some (some d)/\Q d S
def dC (d:D):DE:=fun _ S Q=>Q d S
abbrev DR2:=D->D->Sto->DK->Prop
def dOp (r:DR2)(ta tb:DE):DE:=fun Z S Q=>ta Z S fun x S1=>tb Z S1 fun y S2=>r x y S2 Q
def dUn (r:D->Sto->DK->Prop)(ta:DE):DE:=fun Z S Q=>ta Z S fun x S1=>r x S1 Q
def zB:DA:=fun _ S Q=>Q [] S
def zm (ta:DE)(tr:DA):DA:=fun Z S Q=>ta Z S fun x S1=>tr Z S1 fun xs S2=>Q (x::xs) S2
def dTup (t:DA):DE:=fun Z S Q=>t Z S fun xs S1=>xs.length<=big/\Q (.tup xs) S1
def zbc (t:DA):DE:=fun Z S Q=>t Z S fun xs S1=>xs.length<=big/\Q (.ref S1.length) (S1++[.lst xs])
def dCall (f:DSp)(t:DA):DE:=fun Z S Q=>t Z S fun xs S1=>f xs S1 Q
abbrev DB:=List D->Sto->DK->Prop
def dB (r:DB)(t:DA):DE:=fun Z S Q=>t Z S fun xs S1=>r xs S1 Q
def dT (t:DE):DT:=fun Z S Q=>t Z S fun x S1=>∃ b,x=.bl b/\Q b S1
def zdR (t u:DT):DT:=fun Z S Q=>t Z S fun c S1=>if c=true then u Z S1 Q else Q false S1
def dOr (t u:DT):DT:=fun Z S Q=>t Z S fun c S1=>if c=true then Q true S1 else u Z S1 Q
def zeA (t:DT):DT:=fun Z S Q=>t Z S fun c S1=>Q (!c) S1
def zgM (t u:DE):DE:=fun Z S Q=>t Z S fun x S1=>∃ c,x=.bl c/\if c=true then u Z S1 Q else Q (.bl false) S1
def zrO (t u:DE):DE:=fun Z S Q=>t Z S fun x S1=>∃ c,x=.bl c/\if c=true then Q (.bl true) S1 else u Z S1 Q
def ziz (t:DE):DE:=fun Z S Q=>t Z S fun x S1=>∃ c,x=.bl c/\Q (.bl (!c)) S1
def zj1 (r r':DR2)(ta tb tc:DE):DE:=fun Z S Q=>ta Z S fun x S1=>tb Z S1 fun y S2=>r x y S2 fun z S3=>∃ c,z=.bl c/\if c=true then tc Z S3 fun w S4=>r' y w S4 Q else Q (.bl false) S3
def zjp:Option DE->Rho->Sto->(Option Int->Sto->Prop)->Prop
 | none=>fun _ S Q=>Q none S
 | some t=>fun Z S Q=>t Z S fun x S1=>∃ i,x=.int i/\Q (some i) S1
def dSl (r:D->Option Int->Option Int->Sto->DK->Prop)(ta:DE)(lo hi:Option DE):DE:=fun Z S Q=>ta Z S fun x S1=>zjp lo Z S1 fun l S2=>zjp hi Z S2 fun h S3=>r x l h S3 Q
def zcw (f:Str)(ta:DE):DE:=fun Z S Q=>ta Z S fun x S1=>∃ n c fs d,x=.ref n/\S1[n]?=some (.ins c fs)/\fs.lookup f=some d/\Q d S1
def putD (f:Str)(v:D):List (Str×D)->List (Str×D)
 | []=>[(f,v)]
 | (g,x)::r=>if g=f then (g,v)::r else (g,x)::putD f v r
def zoQ (c:Str)(init:DSp):DSp:=fun ds S Q=>init (.ref S.length::ds) (S++[.ins c []]) fun d S2=>d=.non/\Q (.ref S.length) S2
abbrev DM:=D->List D->Sto->DK->Prop
def dM (r:DM)(ta:DE)(t:DA):DE:=fun Z S Q=>ta Z S fun x S1=>(∃ n ys,x=.ref n/\S1[n]?=some (.lst ys))/\t Z S1 fun xs S2=>r x xs S2 Q
def oI (C:Int->Int->Prop)(g:Int->Int->D):DR2:=fun x y S Q=>∃ i j,x=.int i/\y=.int j/\C i j/\Q (g i j) S
def oI0 (g:Int->Int->D):DR2:=fun x y S Q=>∃ i j,x=.int i/\y=.int j/\Q (g i j) S
def oU (g:Int->D):D->Sto->DK->Prop:=fun x S Q=>∃ i,x=.int i/\Q (g i) S
def zat (i j:Int):Prop:=(My.Bd 8000 i/\My.Bd 8000 j)\/i.natAbs<2 ^ 64\/j.natAbs<2 ^ 64
def zsg (_ j:Int):Prop:=j≠0/\My.Bd 8000 j
def zxo (_ j:Int):Prop:=j≠0
def zae:DR2:=fun x y S Q=>(∃ i j,x=.int i/\y=.int j/\Q (.int (i+j)) S)\/(∃ xs ys,x=.tup xs/\y=.tup ys/\xs.length+ys.length<=big/\Q (.tup (xs++ys)) S) \/
 (∃ xs ys,Lst S x xs/\Lst S y ys/\xs.length+ys.length<=big/\Q (.ref S.length) (S++[.lst (xs++ys)])) \/
 (∃ i j:Str,x=.str i/\y=.str j/\i.length+j.length<=big/\Q (.str (i++j)) S)
def zah:DR2:=oI0 fun i j=>.int (i-j)
def zpi (z:Str)(n:Int):Str:=if n<1 then Str.empty else if (n==1||z.length==0)=true then z else ⟨(List.replicate n.toNat z.cps).foldl (·++·) #[]⟩
@[irreducible] def Hg (x:Int):Prop:=x.natAbs<2 ^ 1048576
def zax:DR2:=fun x y S Q=>oI zat (fun i j=>.int (i*j)) x y S Q\/(∃ (z:Str) (n:Int),x=.str z/\y=.int n/\z.length<=1000/\-1000<=n/\n<=1000/\Q (.str (zpi z n)) S)\/oI (fun i j=>Hg i/\Hg j) (fun i j=>.int (i*j)) x y S Q
def oDiv:DR2:=oI zsg fun i j=>.int (i.fdiv j)
def oMod:DR2:=oI zxo fun i j=>.int (i.fmod j)
def zck:D->Sto->DK->Prop:=oU fun i=>.int (-i)
def oLt:DR2:=oI0 fun i j=>.bl (decide (i<j))
def oLe:DR2:=oI0 fun i j=>.bl (decide (i<=j))
def oGt:DR2:=oI0 fun i j=>.bl (decide (j<i))
def oGe:DR2:=oI0 fun i j=>.bl (decide (j<=i))
def zjM (S:Sto):List D->List (List D)->Prop
 | [],[]=>True
 | x::xs,z::zs=>Lst S x z/\zjM S xs zs
 | _,_=>False
def zgP (xss:List (List D)):Bool:=xss.all fun zs=>zs.all (fl 20)
def EqD (S:Sto)(x y:D)(b:Bool):Prop:=(fl 20 x=true/\fl 20 y=true/\b=eqv x y)\/(∃ xs ys,Lst S x xs/\Lst S y ys/\xs.all (fl 20)=true/\ys.all (fl 20)=true/\b=eqvAll xs ys) \/
 (∃ xs ys xss yss,Lst S x xs/\Lst S y ys/\zjM S xs xss/\zjM S ys yss/\zgP xss=true/\zgP yss=true/\b=eqvAll (xss.map D.tup) (yss.map D.tup))
def oEq:DR2:=fun x y S Q=>∃ b,EqD S x y b/\Q (.bl b) S
def oNe:DR2:=fun x y S Q=>∃ b,EqD S x y b/\Q (.bl (!b)) S
def InD (S:Sto)(x y:D)(b:Bool):Prop:=∃ ys,zeQ S y ys/\fl 20 x=true/\ys.all (fl 20)=true/\b=ys.any fun z=>eqv z x
def oIn:DR2:=fun x y S Q=>(∃ b,InD S x y b/\Q (.bl b) S)\/(∃ (c:Nat) (z:Str),x=.str ⟨#[c]⟩/\y=.str z/\Q (.bl (decide (c∈z.cps.toList))) S)
def zl3:DR2:=fun x y S Q=>(∃ b,InD S x y b/\Q (.bl (!b)) S)\/(∃ (c:Nat) (z:Str),x=.str ⟨#[c]⟩/\y=.str z/\Q (.bl (!decide (c∈z.cps.toList))) S)
def zfu:D->Bool
 | .non=>true
 | _=>false
def oIs:DR2:=fun x y S Q=>(y=.non/\Q (.bl (zfu x)) S)\/(∃ a b,x=.bl a/\y=.bl b/\Q (.bl (a==b)) S)
def zd3:DR2:=fun x y S Q=>(y=.non/\Q (.bl (!zfu x)) S)\/(∃ a b,x=.bl a/\y=.bl b/\Q (.bl (!(a==b))) S)
def oIx:DR2:=fun x y S Q=>(∃ i xs d,y=.int i/\zeQ S x xs/\atD xs i=some d/\Q d S)\/(∃ (z:Str) (i:Int) (c:Nat),x=.str z/\y=.int i/\z.length<=big/\atS z i=some c/\Q (.str ⟨#[c]⟩) S)
def zrS (z:Str)(lo hi:Option Int):Str:=⟨(cutD z.cps.toList lo hi).toArray⟩
def zhg:D->Option Int->Option Int->Sto->DK->Prop:=fun x lo hi S Q=>(∃ xs,x=.tup xs/\Q (.tup (cutD xs lo hi)) S)\/(∃ xs,Lst S x xs/\Q (.ref S.length) (S++[.lst (cutD xs lo hi)]))\/(∃ z:Str,x=.str z/\z.length<=big/\Q (.str (zrS z lo hi)) S)
def zaH:DB:=fun vs S Q=>(∃ x xs,vs=[x]/\zeQ S x xs/\Q (.int xs.length) S)\/(∃ z:Str,vs=[.str z]/\z.length<=big/\Q (.int z.length) S)
def zmk:DB:=fun vs S Q=>∃ i,vs=[.int i]/\Q (.int (i.natAbs:Int)) S
def zfl:DB:=fun vs S Q=>∃ i j,vs=[.int i,.int j]/\Q (.int (max i j)) S
def zg6:DB:=fun vs S Q=>∃ i j,vs=[.int i,.int j]/\Q (.int (min i j)) S
def zoO:DB:=fun vs S Q=>∃ x ns,vs=[x]/\Lst S x (List.map D.int ns)/\0<ns.length/\∀ m:Int,m∈ns->(∀ a∈ns,a<=m)->Q (.int m) S
def zoM:DB:=fun vs S Q=>∃ x ns,vs=[x]/\Lst S x (List.map D.int ns)/\0<ns.length/\∀ m:Int,m∈ns->(∀ a∈ns,m<=a)->Q (.int m) S
def zhX:DB:=fun vs S Q=>∃ x bs,vs=[x]/\Lst S x (List.map D.bl bs)/\Q (.bl (bs.all id)) S
def zm1:DB:=fun vs S Q=>∃ x xs,vs=[x]/\zeQ S x xs/\Q (.tup xs) S
def zen:DB:=fun vs S Q=>∃ x xs,vs=[x]/\zeQ S x xs/\Q (.ref S.length) (S++[.lst xs])
def zr3:DB:=fun vs S Q=>(∃ i,vs=[.int i]/\Q (.int i) S)\/∃ b,vs=[.bl b]/\Q (.int (if b then 1 else 0)) S
def zkQ (t:String):Bool:=t=="int"||t=="bool"||t=="tuple"||t=="list"||t=="str"
def zuW (S:Sto)(t:String)(d:D):Option Bool:=if (!zkQ t)=true then none else match d with
 | .non=>some false
 | .bl _=>some (t=="bool"||t=="int")
 | .int _=>some (t=="int")
 | .str _=>some (t=="str")
 | .tup _=>some (t=="tuple")
 | .ref n=>match S[n]? with
  | some (.lst _)=>some (t=="list")
  | _=>none
 | .ty _=>none
 | .rl _=>none
 | .exn _=>none
def zhq:DB:=fun vs S Q=>∃ x t b,vs=[x,.ty t]/\zuW S t x=some b/\Q (.bl b) S
abbrev p2 (c:Int×Int):D:=.tup [.int c.1,.int c.2]
def zi2 (a b:Int×Int):Bool:=decide (a.1<b.1\/(a.1=b.1/\a.2<b.2))
def zqz:DB:=fun vs S Q=>∃ x cs,vs=[x]/\Lst S x (List.map p2 cs)/\cs.length<64/\∀ ss:List (Int×Int),ss.Perm cs->ss.Pairwise (fun a b=>zi2 b a=false)->Q (.ref S.length) (S++[.lst (ss.map p2)])
def zqQ:DB:=fun vs S Q=>∃ x ns,vs=[x]/\Lst S x (List.map D.int ns)/\ns.length<64/\∀ ss:List Int,ss.Perm ns->ss.Pairwise (fun a b=>a<=b)->Q (.ref S.length) (S++[.lst (ss.map D.int)])
def zpa:DB:=fun vs S Q=>zqz vs S Q\/zqQ vs S Q
def zcI:DM:=fun x vs S Q=>∃ n xs y,x=.ref n/\vs=[y]/\S[n]?=some (.lst xs)/\xs.length<big/\Q .non (S.set n (.lst (xs++[y])))
def ztM:DM:=fun x vs S Q=>∃ n xs m ys,x=.ref n/\vs=[.ref m]/\S[n]?=some (.lst xs)/\S[m]?=some (.lst ys)/\m≠n/\xs.length+ys.length<=big/\Q .non (S.set n (.lst (xs++ys)))
def zi7:DM:=fun x vs S Q=>ztM x vs S Q\/∃ n xs ys,x=.ref n/\vs=[.tup ys]/\S[n]?=some (.lst xs)/\xs.length+ys.length<=big/\Q .non (S.set n (.lst (xs++ys)))
def zmX:DM:=fun x vs S Q=>∃ n xs y j e,x=.ref n/\vs=[y]/\S[n]?=some (.lst xs)/\xs.all (fl 20)=true/\fl 20 y=true/\xs.length<=big/\xs[j]?=some e/\eqv e y=true/\(∀ (m:Nat) e',m<j->xs[m]?=some e'->eqv e' y=false)/\Q (.int (j:Nat)) S
def zE (i:Nat):DG:=fun d Z S Q=>Q (Z.set i (some d)) S
def zc9:DGs:=fun ds Z S Q=>ds=[]/\Q Z S
def zaI (t:DG)(u:DGs):DGs:=fun ds Z S Q=>∃ d r,ds=d::r/\t d Z S fun ρ' S'=>u r ρ' S' Q
def zc6 (n:Nat)(t:DGs):DG:=fun d Z S Q=>∃ xs,d=.tup xs/\xs.length=n/\t xs Z S Q
def zeI (to ti:DE):DG:=fun d Z S Q=>to Z S fun o S1=>ti Z S1 fun i S2=>∃ n xs k j,o=.ref n/\i=.int k/\S2[n]?=some (.lst xs)/\ixD xs.length k=some j/\Q Z (S2.set n (.lst (xs.set j d)))
def zH (t u:DS):DS:=fun E Z S=>t { E with nx:=u E } Z S
def zZ:DS:=fun E Z S=>E.nx Z S
def zY (t:DE):DS:=fun E Z S=>t Z S E.rt
def zbn (t:DE):DS:=fun E Z S=>t Z S fun _ S1=>E.nx Z S1
def zO (t:DE)(g:DG):DS:=fun E Z S=>t Z S fun x S1=>g x Z S1 E.nx
def sIf (c:DT)(t u:DS):DS:=fun E Z S=>c Z S fun b S1=>if b=true then t E Z S1 else u E Z S1
def sJ (t:DS):DS:=fun E Z S=>∃ J:Rho->Sto->Prop,(∀ Z S,J Z S->E.nx Z S)/\t { E with nx:=J } Z S
def zcC:DS:=fun _ _ _=>False
def zoj (i j:Nat)(t:DA):DS:=fun E Z S=>t Z S fun vs S1=>∃ a b,vs=[a,b]/\E.nx ((Z.set i (some a)).set j (some b)) S1
def zeV (c f:Str)(to tv:DE):DS:=fun E Z S=>tv Z S fun y S1=>to Z S1 fun x S2=>∃ n fs,x=.ref n/\S2[n]?=some (.ins c fs)/\fs.length<100/\E.nx Z (S2.set n (.ins c (putD f y fs)))
def zr1 (i:Nat)(t:DE):DS:=fun E Z S=>∃ a,Z[i]?=some (some (.int a))/\t Z S fun y S1=>∃ b,y=.int b/\E.nx (Z.set i (some (.int (a+b)))) S1
def zj7 (c:DT)(t:DS):DS:=fun E Z S=>∃ W:Nat->Rho->Sto->Prop,(∃ m,W m Z S)/\∀ m Z S,W m Z S ->
 c Z S fun b S1=>if b=true then ∃ N:Rho->Sto->Prop,(∀ ρ' S',N ρ' S'->∃ m',m'<m/\W m' ρ' S')/\t { E with nx:=N,ct:=N,bk:=E.nx } Z S1 else E.nx Z S1
def za2 (wi:DI)(g:DG)(t:DS):DS:=fun E Z S=>wi Z S fun J S1=>∃ W:Nat->Rho->Sto->Prop,W 0 Z S1/\(∀ i Z S,W i Z S->J.ok S) /\
 (∀ i d Z S,J.items[i]?=some d->W i Z S->g d Z S fun ρ2 S2=>t { E with nx:=W (i+1),ct:=W (i+1),bk:=E.nx } ρ2 S2)/\∀ Z S,W J.items.length Z S->E.nx Z S
def signs (z:Str):List D:=z.cps.toList.map fun c=>.str ⟨#[c]⟩
def ziF (x:D)(S1:Sto)(R:DIt->Sto->Prop):Prop:=(∃ xs,x=.tup xs/\R ⟨xs,fun _=>True⟩ S1)\/(∃ xs,Lst S1 x xs/\R ⟨xs,fun S=>Lst S x xs⟩ S1)\/(∃ z:Str,x=.str z/\R ⟨signs z,fun _=>True⟩ S1)
def zaZ (t:DE):DI:=fun Z S R=>t Z S fun x S1=>ziF x S1 R
def upto (lo:Int)(n:Nat):List D:=(List.range n).map fun k:Nat=>D.int (lo+(k:Int))
def zbA (t:DA):DI:=fun Z S R=>t Z S fun vs S1=>∃ j:Int,vs=[.int j]/\-(2 ^ 62)<=j/\j<2 ^ 62/\R ⟨upto 0 j.toNat,fun _=>True⟩ S1
def zlI (t:DA):DI:=fun Z S R=>t Z S fun vs S1=>∃ i j:Int,vs=[.int i,.int j]/\R ⟨upto i (j-i).toNat,fun _=>True⟩ S1
def zdk:Nat->List D->List D
 | _,[]=>[]
 | k,x::xs=>.tup [.int (k:Nat),x]::zdk (k+1) xs
def zb8:List D->List D->List D
 | x::xs,y::ys=>.tup [x,y]::zb8 xs ys
 | _,_=>[]
def zol:DB:=fun vs S Q=>∃ i j:Int,vs=[.int i,.int j]/\j-i<=900/\Q (.ref S.length) (S++[.lst (upto i (j-i).toNat)])
def zib (c:List Str)(z:Str):List Str:=if c.any (·==z)=true then c else c++[z]
def zda (f:Nat->Str):Nat->List Str
 | 0=>[]
 | i+1=>zib (zda f i) (f i)
def zre (zs:List Str):Nat:=(zda (fun i=>zs.getD i Str.empty) zs.length).length
def zph:DB:=fun vs S Q=>∃ x,∃ zs:List Str,vs=[x]/\Lst S x (zs.map D.str)/\zs.length<=4000/\Q (.int (zre zs)) S
def zmT (R:DIt->Sto->Prop)(vs:List D)(S1:Sto):Prop:=(∃ x xs,vs=[x]/\Lst S1 x xs/\R ⟨zdk 0 xs,fun S=>Lst S x xs⟩ S1)\/(∃ xs,vs=[.tup xs]/\R ⟨zdk 0 xs,fun _=>True⟩ S1)
def zor (t:DA):DI:=fun Z S R=>t Z S (zmT R)
def zoW (R:DIt->Sto->Prop)(vs:List D)(S1:Sto):Prop:=(∃ x y xs ys,vs=[x,y]/\Lst S1 x xs/\Lst S1 y ys/\R ⟨zb8 xs ys,fun S=>Lst S x xs/\Lst S y ys⟩ S1)\/(∃ xs ys,vs=[.tup xs,.tup ys]/\R ⟨zb8 xs ys,fun _=>True⟩ S1)
def zl9 (t:DA):DI:=fun Z S R=>t Z S (zoW R)
def zje (own:Nat)(fv:List Nat)(Z:Rho):Rho:=List.replicate own none++fv.map fun j=>(Z[j]?).join
def zbI:DT:=fun _ S Q=>Q true S
def dLC (own:Nat)(fv:List Nat)(wi:DI)(g:DG)(tc:DT)(te:DE):DE:=fun Z S Q=>wi Z S fun J S1=>J.items.length<=big/\∃ W:Nat->List D->Sto->Prop,W 0 [] S1/\(∀ i ys S,W i ys S->J.ok S) /\
 (∀ i d ys S,J.items[i]?=some d->W i ys S->g d (zje own fv Z) S fun ρ2 S2=>tc ρ2 S2 fun b S3=>if b=true then te ρ2 S3 fun y S4=>W (i+1) (ys++[y]) S4 else W (i+1) ys S3) /\
 ∀ ys S,W J.items.length ys S->Q (.ref S.length) (S++[.lst ys])
section
variable {κ:Type}[DecidableEq κ]
end
def fc:Cell->Bool
 | .lst xs=>xs.all (fl 20)
 | .ins _ _=>false
 | .dk _=>false
 | .dt _=>false
def Fin (S:Sto)(Q:DK):DK:=fun d S'=>Q d S'\/∃ S1,S1 <+: S'/\S.length<=S1.length/\(fl 20 d=true\/∃ n,d=.ref n/\n<S1.length)/\(∀ (n:Nat) c,S1[n]?=some c->S[n]?=some c\/fc c=true)/\Q d S1
def zfa (n:Nat)(ds:List D):Rho:=ds.map some++List.replicate (n-ds.length) none
def BodyOk (n:Nat)(b:DS)(f:DSp):Prop:=∀ ds S Q,f ds S Q->b ⟨fun _ S'=>Fin S Q .non S',Fin S Q,fun _ _=>False,fun _ _=>False⟩ (zfa n ds) S
abbrev XD:=Str->Sto->Prop
abbrev XR:=Rho->Str->Sto->Prop
abbrev zeH:=List D->Sto->DK->XD->Prop
def zcQ (f:zeH)(ex:XR)(t:DA):DE:=fun Z S Q=>t Z S fun xs S1=>f xs S1 Q (ex Z)
def xF:XR:=fun _ _ _=>False
def zfN (ex:XR)(c:Str):DS:=fun _ Z S=>ex Z c S
def zec (n:Nat)(b:XR->DS)(f:zeH):Prop:=∀ ds S Q ex,f ds S Q ex->b (fun _=>ex) ⟨fun _ S'=>Fin S Q .non S',Fin S Q,fun _ _=>False,fun _ _=>False⟩ (zfa n ds) S
def New (Q:DK)(S:Sto)(xs:List D):Prop:=Q (.ref S.length) (S++[.lst xs])
def Put (Q:Sto->Prop)(S:Sto)(n:Nat)(c:Cell):Prop:=Q (S.set n c)
def zoC (own:Nat)(fv:List Nat)(g:DG)(tc:DT)(te:DE)(Z:Rho)(Q:DK)(J:DIt)(S:Sto):Prop:=J.items.length<=big/\∃ W:Nat->List D->Sto->Prop,W 0 [] S/\(∀ i ys S,W i ys S->J.ok S) /\
 (∀ i d ys S,J.items[i]?=some d->W i ys S->g d (zje own fv Z) S fun ρ2 S2=>tc ρ2 S2 fun b S3=>if b=true then te ρ2 S3 fun y S4=>W (i+1) (ys++[y]) S4 else W (i+1) ys S3) /\
 ∀ ys S,W J.items.length ys S->New Q S ys
def zsx (d:D)(Z:Rho)(Q:Rho->Sto->Prop)(o i:D)(S2:Sto):Prop:=∃ n xs k j,o=.ref n/\i=.int k/\S2[n]?=some (.lst xs)/\ixD xs.length k=some j/\Q Z (S2.set n (.lst (xs.set j d)))
def zoo (nx:Rho->Sto->Prop)(rt:DK)(g:DG)(t:DS)(Z:Rho)(J:DIt)(S:Sto):Prop:=∃ W:Nat->Rho->Sto->Prop,W 0 Z S/\(∀ i Z S,W i Z S->J.ok S) /\
 (∀ i d Z S,J.items[i]?=some d->W i Z S->g d Z S fun ρ2 S2=>t ⟨W (i+1),rt,nx,W (i+1)⟩ ρ2 S2)/\∀ Z S,W J.items.length Z S->nx Z S
def zsd (W:Nat->Rho->Sto->Prop)(m:Nat)(t:DS)(rt:DK)(nx:Rho->Sto->Prop)(Z:Rho)(S:Sto):Prop:=∃ N:Rho->Sto->Prop,(∀ ρ' S',N ρ' S'->∃ m',m'<m/\W m' ρ' S')/\t ⟨N,rt,nx,N⟩ Z S
theorem zaw {nx:Rho->Sto->Prop}{rt:DK}{g:DG}{t:DS}{Z:Rho}{xs:List D}{ok:Sto->Prop}{S:Sto}(W:Nat->Rho->Sto->Prop)(h0:W 0 Z S)(hok:∀ i Z S,W i Z S->ok S)
  (step:∀ i d Z S,xs[i]?=some d->W i Z S->g d Z S fun ρ2 S2=>t ⟨W (i+1),rt,nx,W (i+1)⟩ ρ2 S2) (fin:∀ Z S,W xs.length Z S->nx Z S):zoo nx rt g t Z ⟨xs,ok⟩ S:=⟨W,h0,hok,step,fin⟩
theorem zsa {S:Sto}{Q:DK}{xs:List D}(h:Q (.ref S.length) (S++[.lst xs])):New Q S xs:=h
theorem zii {S T:Sto}{Q:DK}{xs:List D}(h:Q (.ref (S.length+T.length)) (S++(T++[.lst xs]))):New Q (S++T) xs:=by
 unfold New;rw [qe,qF];exact h
section
variable {S:Sto}{Q:DK}{xs:List D}{a b c d e f:Cell}
theorem zxp (h:Q (.ref (S.length+1)) (S++[a,.lst xs])):New Q (S++[a]) xs:=zii h
theorem zwT (h:Q (.ref (S.length+2)) (S++[a,b,.lst xs])):New Q (S++[a,b]) xs:=zii h
theorem zxd (h:Q (.ref (S.length+3)) (S++[a,b,c,.lst xs])):New Q (S++[a,b,c]) xs:=zii h
theorem zwE (h:Q (.ref (S.length+4)) (S++[a,b,c,d,.lst xs])):New Q (S++[a,b,c,d]) xs:=zii h
theorem zxj (h:Q (.ref (S.length+5)) (S++[a,b,c,d,e,.lst xs])):New Q (S++[a,b,c,d,e]) xs:=zii h
end
theorem zfP {S:Sto}{a:Cell}{T:Sto}{Q:Sto->Prop}{c:Cell}(h:Q (S++c::T)):Put Q (S++a::T) S.length c:=by
 unfold Put;rw [List.set_append_right _ _ (qg _),Nat.sub_self];exact h
section
variable {nx:Rho->Sto->Prop}{rt:DK}{bk ct:Rho->Sto->Prop}{Z:Rho}{S:Sto}
theorem zo6 {t u:DS}(h:t ⟨u ⟨nx,rt,bk,ct⟩,rt,bk,ct⟩ Z S):zH t u ⟨nx,rt,bk,ct⟩ Z S:=h
theorem r_J {t:DS}(J:Rho->Sto->Prop)(h:t ⟨J,rt,bk,ct⟩ Z S)(hJ:∀ Z S,J Z S->nx Z S):sJ t ⟨nx,rt,bk,ct⟩ Z S:=⟨J,hJ,h⟩
theorem zwi {i j:Nat}{t:DA}(h:t Z S fun vs S1=>∃ a b,vs=[a,b]/\nx ((Z.set i (some a)).set j (some b)) S1):zoj i j t ⟨nx,rt,bk,ct⟩ Z S:=h
theorem zuE {a b:D}{P:D->D->Prop}(h:P a b):∃ x y,[a,b]=[x,y]/\P x y:=⟨a,b,rfl,h⟩
theorem zvR (h:nx Z S):zZ ⟨nx,rt,bk,ct⟩ Z S:=h
theorem zst {t:DE}(h:t Z S rt):zY t ⟨nx,rt,bk,ct⟩ Z S:=h
theorem zuQ {t:DE}(h:t Z S fun _ S1=>nx Z S1):zbn t ⟨nx,rt,bk,ct⟩ Z S:=h
theorem zsu {t:DE}{g:DG}(h:t Z S fun x S1=>g x Z S1 nx):zO t g ⟨nx,rt,bk,ct⟩ Z S:=h
theorem zxF {c:DT}{t u:DS}(h:c Z S fun b S1=>if b=true then t ⟨nx,rt,bk,ct⟩ Z S1 else u ⟨nx,rt,bk,ct⟩ Z S1):sIf c t u ⟨nx,rt,bk,ct⟩ Z S:=h
theorem zvK {c f:Str}{to tv:DE}(h:tv Z S fun y S1=>to Z S1 fun x S2=>∃ n fs,x=.ref n/\S2[n]?=some (.ins c fs)/\fs.length<100/\nx Z (S2.set n (.ins c (putD f y fs)))):zeV c f to tv ⟨nx,rt,bk,ct⟩ Z S:=h
theorem zwB {i:Nat}{t:DE}{a:Int}(e:Z[i]?=some (some (.int a)))(h:t Z S fun y S1=>∃ b,y=.int b/\nx (Z.set i (some (.int (a+b)))) S1):zr1 i t ⟨nx,rt,bk,ct⟩ Z S:=⟨a,e,h⟩
theorem zxh {wi:DI}{g:DG}{t:DS}(h:wi Z S fun J S1=>zoo nx rt g t Z J S1):za2 wi g t ⟨nx,rt,bk,ct⟩ Z S:=h
theorem zvr {c:DT}{t:DS}(W:Nat->Rho->Sto->Prop)(m:Nat)(h0:W m Z S)(h:∀ m Z S,W m Z S->c Z S fun b S1=>if b=true then zsd W m t rt nx Z S1 else nx Z S1):zj7 c t ⟨nx,rt,bk,ct⟩ Z S:=⟨W,⟨m,h0⟩,h⟩
theorem zqK {t:DS}{W:Nat->Rho->Sto->Prop}{m:Nat}(h:t ⟨fun ρ' S'=>∃ m',m'<m/\W m' ρ' S',rt,nx,fun ρ' S'=>∃ m',m'<m/\W m' ρ' S'⟩ Z S):zsd W m t rt nx Z S:=⟨_,fun _ _ z=>z,h⟩
theorem zoa {i:Nat}{d:D}{Q:Rho->Sto->Prop}(h:Q (Z.set i (some d)) S):zE i d Z S Q:=h
theorem zuR {Q:Rho->Sto->Prop}(h:Q Z S):zc9 [] Z S Q:=⟨rfl,h⟩
theorem ztr {t:DG}{u:DGs}{d:D}{r:List D}{Q:Rho->Sto->Prop}(h:t d Z S fun ρ' S'=>u r ρ' S' Q):zaI t u (d::r) Z S Q:=⟨d,r,rfl,h⟩
theorem zu9 {n:Nat}{t:DGs}{xs:List D}{Q:Rho->Sto->Prop}(e:xs.length=n)(h:t xs Z S Q):zc6 n t (.tup xs) Z S Q:=⟨xs,rfl,e,h⟩
theorem zvc {to ti:DE}{d:D}{Q:Rho->Sto->Prop}(h:to Z S fun o S1=>ti Z S1 fun i S2=>zsx d Z Q o i S2):zeI to ti d Z S Q:=h
theorem zhl {i:Nat}{d:D}{Q:DK}(h:Z[i]?=some (some d))(q:Q d S):zf i Z S Q:=⟨d,h,q⟩
theorem r_c {d:D}{Q:DK}(q:Q d S):dC d Z S Q:=q
theorem zoN {r:DR2}{ta tb:DE}{Q:DK}(h:ta Z S fun x S1=>tb Z S1 fun y S2=>r x y S2 Q):dOp r ta tb Z S Q:=h
theorem zyn {r:D->Sto->DK->Prop}{ta:DE}{Q:DK}(h:ta Z S fun x S1=>r x S1 Q):dUn r ta Z S Q:=h
theorem zsi {Q:List D->Sto->Prop}(h:Q [] S):zB Z S Q:=h
theorem zl2 {ta:DE}{tr:DA}{Q:List D->Sto->Prop}(h:ta Z S fun x S1=>tr Z S1 fun xs S2=>Q (x::xs) S2):zm ta tr Z S Q:=h
theorem zsq {t:DA}{Q:DK}(h:t Z S fun xs S1=>xs.length<=big/\Q (.tup xs) S1):dTup t Z S Q:=h
theorem zsf {t:DA}{Q:DK}(h:t Z S fun xs S1=>xs.length<=big/\New Q S1 xs):zbc t Z S Q:=h
theorem zsk {xs:List D}{P:Prop}(h:Nat.ble xs.length big=true)(q:P):xs.length<=big/\P:=⟨Nat.le_of_ble_eq_true h,q⟩
theorem zul {f:DSp}{t:DA}{Q:DK}(h:t Z S fun xs S1=>f xs S1 Q):dCall f t Z S Q:=h
theorem r_b {r:DB}{t:DA}{Q:DK}(h:t Z S fun xs S1=>r xs S1 Q):dB r t Z S Q:=h
theorem r_m {r:DM}{ta:DE}{t:DA}{Q:DK}(h:ta Z S fun x S1=>(∃ n ys,x=.ref n/\S1[n]?=some (.lst ys))/\t Z S1 fun xs S2=>r x xs S2 Q):dM r ta t Z S Q:=h
theorem zxq {n:Nat}{ys:List D}{P:Prop}(h:S[n]?=some (.lst ys))(q:P):(∃ m ys,D.ref n=.ref m/\S[m]?=some (.lst ys))/\P:=⟨⟨n,ys,rfl,h⟩,q⟩
theorem r_t {t:DE}{Q:Bool->Sto->Prop}(h:t Z S fun x S1=>∃ b,x=.bl b/\Q b S1):dT t Z S Q:=h
theorem zxX {c:Bool}{P:Bool->Prop}(h:P c):∃ b,D.bl c=D.bl b/\P b:=⟨c,rfl,h⟩
theorem zwh {c:Int}{P:Int->Prop}(h:P c):∃ b,D.int c=D.int b/\P b:=⟨c,rfl,h⟩
theorem zwS {t u:DT}{Q:Bool->Sto->Prop}(h:t Z S fun c S1=>if c=true then u Z S1 Q else Q false S1):zdR t u Z S Q:=h
theorem zx8 {t u:DT}{Q:Bool->Sto->Prop}(h:t Z S fun c S1=>if c=true then Q true S1 else u Z S1 Q):dOr t u Z S Q:=h
theorem zwL {t:DT}{Q:Bool->Sto->Prop}(h:t Z S fun c S1=>Q (!c) S1):zeA t Z S Q:=h
theorem zv1 {t u:DE}{Q:DK}(h:t Z S fun x S1=>∃ c,x=.bl c/\if c=true then u Z S1 Q else Q (.bl false) S1):zgM t u Z S Q:=h
theorem zxt {t u:DE}{Q:DK}(h:t Z S fun x S1=>∃ c,x=.bl c/\if c=true then Q (.bl true) S1 else u Z S1 Q):zrO t u Z S Q:=h
theorem zvZ {t:DE}{Q:DK}(h:t Z S fun x S1=>∃ c,x=.bl c/\Q (.bl (!c)) S1):ziz t Z S Q:=h
theorem zt7 {r r':DR2}{ta tb tc:DE}{Q:DK}(h:ta Z S fun x S1=>tb Z S1 fun y S2=>r x y S2 fun z S3=>∃ c,z=.bl c/\if c=true then tc Z S3 fun w S4=>r' y w S4 Q else Q (.bl false) S3):zj1 r r' ta tb tc Z S Q:=h
theorem zw4 {f:Str}{ta:DE}{Q:DK}(h:ta Z S fun x S1=>∃ n c fs d,x=.ref n/\S1[n]?=some (.ins c fs)/\fs.lookup f=some d/\Q d S1):zcw f ta Z S Q:=h
theorem zyd {r:D->Option Int->Option Int->Sto->DK->Prop}{ta:DE}{lo hi:Option DE}{Q:DK}(h:ta Z S fun x S1=>zjp lo Z S1 fun l S2=>zjp hi Z S2 fun h S3=>r x l h S3 Q):dSl r ta lo hi Z S Q:=h
theorem zuk {Q:Option Int->Sto->Prop}(h:Q none S):zjp none Z S Q:=h
theorem zvQ {t:DE}{Q:Option Int->Sto->Prop}(h:t Z S fun x S1=>∃ i,x=.int i/\Q (some i) S1):zjp (some t) Z S Q:=h
theorem zpY {Q:Bool->Sto->Prop}(h:Q true S):zbI Z S Q:=h
end
section
variable {S:Sto}{Q:DK}
theorem zwN {i j:Int}(q:Q (.int (i+j)) S):zae (.int i) (.int j) S Q:=.inl ⟨i,j,rfl,rfl,q⟩
theorem zkf {x y:D}{xs ys:List D}(hx:Lst S x xs)(hy:Lst S y ys)(h:xs.length+ys.length<=big)(q:New Q S (xs++ys)):zae x y S Q:=.inr (.inr (.inl ⟨xs,ys,hx,hy,h,q⟩))
theorem zqc {i j:Str}(h:i.length+j.length<=big)(q:Q (.str (i++j)) S):zae (.str i) (.str j) S Q:=.inr (.inr (.inr ⟨i,j,rfl,rfl,h,q⟩))
theorem zwK {i j:Int}(q:Q (.int (i-j)) S):zah (.int i) (.int j) S Q:=⟨i,j,rfl,rfl,q⟩
theorem zxe {i j:Int}(c:zat i j)(q:Q (.int (i*j)) S):zax (.int i) (.int j) S Q:=.inl ⟨i,j,rfl,rfl,c,q⟩
theorem zqC {z:Str}{n:Int}(hz:z.length<=1000)(h0:-1000<=n)(h1:n<=1000)(q:Q (.str (zpi z n)) S):zax (.str z) (.int n) S Q:=.inr (.inl ⟨z,n,rfl,rfl,hz,h0,h1,q⟩)
theorem zqG {i j:Int}(hi:Hg i)(hj:Hg j)(q:Q (.int (i*j)) S):zax (.int i) (.int j) S Q:=.inr (.inr ⟨i,j,rfl,rfl,⟨hi,hj⟩,q⟩)
theorem zwn {c:Nat}{z:Str}(q:Q (.bl (decide (c∈z.cps.toList))) S):oIn (.str ⟨#[c]⟩) (.str z) S Q:=.inr ⟨c,z,rfl,rfl,q⟩
theorem zwP {i j:Int}(c:0<j/\My.Bd 8000 j)(q:Q (.int (i/j)) S):oDiv (.int i) (.int j) S Q:=⟨i,j,rfl,rfl,⟨by omega,c.2⟩,by show Q (.int (i.fdiv j)) S;rw [Int.fdiv_eq_ediv_of_nonneg i (by omega)];exact q⟩
theorem zwD {i j:Int}(c:0<j)(q:Q (.int (i%j)) S):oMod (.int i) (.int j) S Q:=⟨i,j,rfl,rfl,(by show j≠0;omega),by show Q (.int (i.fmod j)) S;rw [Int.fmod_eq_emod_of_nonneg i (by omega)];exact q⟩
theorem zqy {i j:Int}(c:zsg i j)(q:Q (.int (i.fdiv j)) S):oDiv (.int i) (.int j) S Q:=⟨i,j,rfl,rfl,c,q⟩
theorem zvT {i j:Int}(c:j≠0)(q:Q (.int (i.fmod j)) S):oMod (.int i) (.int j) S Q:=⟨i,j,rfl,rfl,c,q⟩
theorem zwo {i:Int}(q:Q (.int (-i)) S):zck (.int i) S Q:=⟨i,rfl,q⟩
theorem zxK {i j:Int}(q:Q (.bl (decide (i<j))) S):oLt (.int i) (.int j) S Q:=⟨i,j,rfl,rfl,q⟩
theorem zxT {i j:Int}(q:Q (.bl (decide (i<=j))) S):oLe (.int i) (.int j) S Q:=⟨i,j,rfl,rfl,q⟩
theorem zxI {i j:Int}(q:Q (.bl (decide (j<i))) S):oGt (.int i) (.int j) S Q:=⟨i,j,rfl,rfl,q⟩
theorem zyo {i j:Int}(q:Q (.bl (decide (j<=i))) S):oGe (.int i) (.int j) S Q:=⟨i,j,rfl,rfl,q⟩
theorem zw8 {i j:Int}(q:Q (.bl (decide (i=j))) S):oEq (.int i) (.int j) S Q:=⟨_,.inl ⟨rfl,rfl,rfl⟩,q⟩
theorem zxc {i j:Int}(q:Q (.bl (!decide (i=j))) S):oNe (.int i) (.int j) S Q:=⟨_,.inl ⟨rfl,rfl,rfl⟩,q⟩
theorem zx9 {x:D}(q:Q (.bl (zfu x)) S):oIs x .non S Q:=.inl ⟨rfl,q⟩
theorem zxi (q:Q (.bl true) S):oIs .non .non S Q:=.inl ⟨rfl,q⟩
theorem zw6 {i:Int}(q:Q (.bl false) S):oIs (.int i) .non S Q:=.inl ⟨rfl,q⟩
theorem zvJ (q:Q (.bl false) S):zd3 .non .non S Q:=.inl ⟨rfl,q⟩
theorem zve {i:Int}(q:Q (.bl true) S):zd3 (.int i) .non S Q:=.inl ⟨rfl,q⟩
theorem zta (q:Q (.bl false) S):zd3 (.bl true) (.bl true) S Q:=.inr ⟨_,_,rfl,rfl,q⟩
theorem zsD {x:D}(q:Q (.bl (!zfu x)) S):zd3 x .non S Q:=.inl ⟨rfl,q⟩
theorem zw1 {xs:List D}{i:Int}{d:D}(e:atD xs i=some d)(q:Q d S):oIx (.tup xs) (.int i) S Q:=.inl ⟨i,xs,d,rfl,.inl rfl,e,q⟩
theorem ziI {x:D}{xs:List D}{i:Int}{d:D}(h:Lst S x xs)(e:atD xs i=some d)(q:Q d S):oIx x (.int i) S Q:=.inl ⟨i,xs,d,rfl,.inr h,e,q⟩
theorem zok {z:Str}{i:Int}{c:Nat}(hz:z.length<=big)(e:atS z i=some c)(q:Q (.str ⟨#[c]⟩) S):oIx (.str z) (.int i) S Q:=.inr ⟨z,i,c,rfl,rfl,hz,e,q⟩
theorem zuj {xs:List D}{lo hi:Option Int}(q:Q (.tup (cutD xs lo hi)) S):zhg (.tup xs) lo hi S Q:=.inl ⟨xs,rfl,q⟩
theorem zu2 {x:D}{xs:List D}{lo hi:Option Int}(h:Lst S x xs)(q:New Q S (cutD xs lo hi)):zhg x lo hi S Q:=.inr (.inl ⟨xs,h,q⟩)
theorem zvU {xs:List D}(q:Q (.int xs.length) S):zaH [.tup xs] S Q:=.inl ⟨_,xs,rfl,.inl rfl,q⟩
theorem zvC {x:D}{xs:List D}(h:Lst S x xs)(q:Q (.int xs.length) S):zaH [x] S Q:=.inl ⟨_,xs,rfl,.inr h,q⟩
theorem zqj {z:Str}(hz:z.length<=big)(q:Q (.int z.length) S):zaH [.str z] S Q:=.inr ⟨z,rfl,hz,q⟩
theorem zwO {i:Int}(q:Q (.int (i.natAbs:Int)) S):zmk [.int i] S Q:=⟨i,rfl,q⟩
theorem zut {i j:Int}(q:Q (.int (max i j)) S):zfl [.int i,.int j] S Q:=⟨i,j,rfl,q⟩
theorem zuA {i j:Int}(q:Q (.int (min i j)) S):zg6 [.int i,.int j] S Q:=⟨i,j,rfl,q⟩
theorem zvY {x:D}{ns:List Int}(h:Lst S x (ns.map D.int))(h0:0<ns.length)(q:∀ m:Int,m∈ns->(∀ a∈ns,a<=m)->Q (.int m) S):zoO [x] S Q:=⟨x,ns,rfl,h,h0,q⟩
theorem zuh {x:D}{ns:List Int}(h:Lst S x (ns.map D.int))(h0:0<ns.length)(q:∀ m:Int,m∈ns->(∀ a∈ns,m<=a)->Q (.int m) S):zoM [x] S Q:=⟨x,ns,rfl,h,h0,q⟩
theorem zwx {x:D}{bs:List Bool}(h:Lst S x (bs.map D.bl))(q:Q (.bl (bs.all id)) S):zhX [x] S Q:=⟨x,bs,rfl,h,q⟩
theorem zr0 {x:D}{xs:List D}(h:Lst S x xs)(q:Q (.tup xs) S):zm1 [x] S Q:=⟨_,xs,rfl,.inr h,q⟩
theorem ztj {x:D}{xs:List D}(h:Lst S x xs)(q:New Q S xs):zen [x] S Q:=⟨_,xs,rfl,.inr h,q⟩
theorem zvw {b:Bool}(q:Q (.int (if b then 1 else 0)) S):zr3 [.bl b] S Q:=.inr ⟨b,rfl,q⟩
theorem zt2 {x:D}{cs:List (Int×Int)}(h:Lst S x (cs.map p2))(hl:cs.length<64)(q:∀ ss:List (Int×Int),ss.Perm cs->ss.Pairwise (fun a b=>zi2 b a=false)->New Q S (ss.map p2)):zpa [x] S Q:=.inl ⟨x,cs,rfl,h,hl,q⟩
theorem zq4 {n:Nat}{xs:List D}{y:D}(h:S[n]?=some (.lst xs))(hl:xs.length<big)(q:Put (Q .non) S n (.lst (xs++[y]))):zcI (.ref n) [y] S Q:=⟨n,xs,y,rfl,rfl,h,hl,q⟩
theorem zqA {n:Nat}{xs ys:List D}(h:S[n]?=some (.lst xs))(hl:xs.length+ys.length<=big)(q:Put (Q .non) S n (.lst (xs++ys))):zi7 (.ref n) [.tup ys] S Q:=.inr ⟨n,xs,ys,rfl,rfl,h,hl,q⟩
theorem zs0 {n j:Nat}{xs:List D}{y e:D}(h:S[n]?=some (.lst xs))(f:xs.all (fl 20)=true)(g:fl 20 y=true)(hl:xs.length<=big)(hj:xs[j]?=some e)(h1:eqv e y=true)(h2:∀ (m:Nat) e',m<j->xs[m]?=some e'->eqv e' y=false)(q:Q (.int (j:Nat)) S):zmX (.ref n) [y] S Q:=⟨n,xs,y,j,e,rfl,rfl,h,f,g,hl,hj,h1,h2,q⟩
theorem ze2 {n:Nat}{xs:List D}{k:Int}{j:Nat}{d:D}{Z:Rho}{Q:Rho->Sto->Prop}(h:S[n]?=some (.lst xs))(e:ixD xs.length k=some j)(q:Put (Q Z) S n (.lst (xs.set j d))):zsx d Z Q (.ref n) (.int k) S:=⟨n,xs,k,j,rfl,rfl,h,e,q⟩
end
section
variable {Z:Rho}{S:Sto}{R:DIt->Sto->Prop}
theorem zvt {t:DE}(h:t Z S fun x S1=>ziF x S1 R):zaZ t Z S R:=h
theorem zxx {xs:List D}(q:R ⟨xs,fun _=>True⟩ S):ziF (.tup xs) S R:=.inl ⟨xs,rfl,q⟩
theorem zw2 {x:D}{xs:List D}(h:Lst S x xs)(q:R ⟨xs,fun S=>Lst S x xs⟩ S):ziF x S R:=.inr (.inl ⟨xs,h,q⟩)
theorem zwf {z:Str}(q:R ⟨signs z,fun _=>True⟩ S):ziF (.str z) S R:=.inr (.inr ⟨z,rfl,q⟩)
theorem zvl {t:DA}(h:t Z S fun vs S1=>∃ j:Int,vs=[.int j]/\-(2 ^ 62)<=j/\j<2 ^ 62/\R ⟨upto 0 j.toNat,fun _=>True⟩ S1):zbA t Z S R:=h
theorem zwa {t:DA}(h:t Z S fun vs S1=>∃ i j:Int,vs=[.int i,.int j]/\R ⟨upto i (j-i).toNat,fun _=>True⟩ S1):zlI t Z S R:=h
theorem zuY {t:DA}(h:t Z S (zmT R)):zor t Z S R:=h
theorem zyg {x:D}{xs:List D}(h:Lst S x xs)(q:R ⟨zdk 0 xs,fun S=>Lst S x xs⟩ S):zmT R [x] S:=.inl ⟨x,xs,rfl,h,q⟩
theorem zvz {Q:DK}{i j:Int}(h:j-i<=900)(q:New Q S (upto i (j-i).toNat)):zol [.int i,.int j] S Q:=⟨i,j,rfl,h,q⟩
theorem zvm {Q:DK}{x:D}{zs:List Str}(hx:Lst S x (zs.map D.str))(hl:zs.length<=4000)(q:Q (.int (zre zs)) S):zph [x] S Q:=⟨x,zs,rfl,hx,hl,q⟩
theorem zw0 {t:DA}(h:t Z S (zoW R)):zl9 t Z S R:=h
theorem zqX {x y:D}{xs ys:List D}(hx:Lst S x xs)(hy:Lst S y ys)(q:R ⟨zb8 xs ys,fun S=>Lst S x xs/\Lst S y ys⟩ S):zoW R [x,y] S:=.inl ⟨x,y,xs,ys,rfl,hx,hy,q⟩
theorem zxB {own:Nat}{fv:List Nat}{wi:DI}{g:DG}{tc:DT}{te:DE}{Q:DK}(h:wi Z S fun J S1=>zoC own fv g tc te Z Q J S1):dLC own fv wi g tc te Z S Q:=h
end
theorem zoD {A B:Prop}(h:B):if false=true then A else B:=by rw [if_neg qo];exact h
theorem zmt {A B:Prop}(h:A):if true=true then A else B:=by rw [if_pos rfl];exact h
theorem r_d {c A B:Prop}[Decidable c](h1:c->A)(h2:¬ c->B):if decide c=true then A else B:=by
 by_cases h:c
 ·rw [decide_eq_true h,if_pos rfl];exact h1 h
 ·rw [decide_eq_false h,if_neg qo];exact h2 h
theorem zko {c A B:Prop}[Decidable c](h1:¬ c->A)(h2:c->B):if (!decide c)=true then A else B:=by
 by_cases h:c
 ·rw [decide_eq_true h];exact h2 h
 ·rw [decide_eq_false h];exact h1 h
theorem zbQ (S T:Sto)(k:Nat):(S++T)[S.length+k]?=T[k]?:=by
 rw [ql (Nat.le_add_right _ _),Nat.add_sub_cancel_left]
theorem ztl (S T:Sto):(S++T)[S.length]?=T[0]?:=zbQ S T 0
theorem zaz {S T:Sto}{c:Cell}:(S++c::T)[S.length]?=some c:=(zbQ S (c::T) 0).trans rfl
theorem zkJ {S T:Sto}{c:Cell}:(S++(T++[c]))[S.length+T.length]?=some c:=by rw [zbQ,ql (qg _),Nat.sub_self];rfl
theorem ztm (S T:Sto)(k:Nat)(c:Cell):(S++T).set (S.length+k) c=S++T.set k c:=by
 rw [List.set_append_right _ _ (Nat.le_add_right _ _),Nat.add_sub_cancel_left]
theorem zc0 (S T:Sto)(a c:Cell):(S++a::T).set S.length c=S++c::T:=ztm S (a::T) 0 c
theorem zay {S T:Sto}{n:Nat}{c:Cell}(h:S[n]?=some c):(S++T)[n]?=some c:=by
 have:n<S.length:=by
  rcases qD n S.length with g | g
  ·exact g
  ·rw [qE g] at h;cases h
 rw [qv this];exact h
theorem Lst.old {S T:Sto}{x:D}{xs:List D}(h:Lst S x xs):Lst (S++T) x xs:=h.imp id fun⟨n,e,h⟩=>⟨n,e,zay h⟩
theorem Lst.at {S T:Sto}{k:Nat}{xs:List D}(h:T[k]?=some (.lst xs)):Lst (S++T) (.ref (S.length+k)) xs:=.inr ⟨_,rfl,by rw [zbQ];exact h⟩
theorem Lst.at0 {S T:Sto}{xs:List D}:Lst (S++.lst xs::T) (.ref S.length) xs:=.inr ⟨_,rfl,by rw [ztl];rfl⟩
theorem Lst.new {S T:Sto}{xs:List D}:Lst (S++(T++[.lst xs])) (.ref (S.length+T.length)) xs:=.inr ⟨_,rfl,zkJ⟩
theorem Lst.rl {S:Sto}{xs:List D}:Lst S (.rl xs) xs:=.inl rfl
theorem Lst.here {S:Sto}{n:Nat}{xs:List D}(h:S[n]?=some (.lst xs)):Lst S (.ref n) xs:=.inr ⟨n,rfl,h⟩
theorem zaj {S T:Sto}{Q:DK}{d:D}(h:fl 20 d=true)(q:Q d S):Fin S Q d (S++T):=.inr ⟨S,List.prefix_append _ _,qg _,.inl h,fun _ _ e=>.inl e,q⟩
theorem fin_same {S S':Sto}{Q:DK}{d:D}(q:Q d S'):Fin S Q d S':=.inl q
section
variable {S:Sto}{Q:DK}
theorem zlk {i:Int}(q:Q (.bl true) S):zhq [.int i,.ty "int"] S Q:=⟨_,_,true,rfl,by rfl,q⟩
theorem zkm {i:Int}(q:Q (.bl false) S):zhq [.int i,.ty "bool"] S Q:=⟨_,_,false,rfl,by rfl,q⟩
theorem zlu {i:Bool}(q:Q (.bl true) S):zhq [.bl i,.ty "bool"] S Q:=⟨_,_,true,rfl,by rfl,q⟩
theorem zj3 {xs:List D}(q:Q (.bl true) S):zhq [.tup xs,.ty "tuple"] S Q:=⟨_,_,true,rfl,by rfl,q⟩
end
theorem zwJ {A B:Prop}(h:B):if (!true)=true then A else B:=zoD h
theorem zsj {A B:Prop}(h:A):if (!false)=true then A else B:=zmt h
theorem zhP {S:Sto}{Q:DK}{x:D}{bs:List Bool}{b:Bool}(h:Lst S x (bs.map D.bl))(e:bs.all id=b)(q:Q (.bl b) S):zhX [x] S Q:=zwx h (by rw [e];exact q)
def LcW (S:Sto)(items:List D)(p:D->Bool)(f:D->D)(i:Nat)(ys:List D)(S':Sto):Prop:=S'=S/\ys=((items.take i).filter p).map f
theorem zau {α:Type}{xs:List α}{i:Nat}{x:α}(h:xs[i]?=some x):xs.take (i+1)=xs.take i++[x]:=by rw [List.take_succ,h];rfl
theorem zbZ {S:Sto}{items:List D}{p:D->Bool}{f:D->D}{i:Nat}{ys:List D}{d y:D}(hd:items[i]?=some d)(hw:LcW S items p f i ys S)(hp:p d=true)(hy:y=f d):LcW S items p f (i+1) (ys++[y]) S :=
 ⟨rfl,by rw [zau hd,List.filter_append,qr,<- hw.2,List.filter_cons_of_pos hp,hy];rfl⟩
theorem zlJ {S:Sto}{items:List D}{p:D->Bool}{f:D->D}{i:Nat}{ys:List D}{d:D}(hd:items[i]?=some d)(hw:LcW S items p f i ys S)(hp:p d=false):LcW S items p f (i+1) ys S :=
 ⟨rfl,by rw [zau hd,List.filter_append,qr,<- hw.2,List.filter_cons_of_neg (by rw [hp];exact qo)];simp⟩
theorem za5 {own:Nat}{fv:List Nat}{xs:List D}{ok:Sto->Prop}{g:DG}{tc:DT}{te:DE}{Z:Rho}{S:Sto}{Q:DK}(p:D->Bool)(f:D->D)(hok:ok S)(hbig:xs.length<=big)
  (step:∀ i d ys,xs[i]?=some d->LcW S xs p f i ys S->g d (zje own fv Z) S fun ρ2 S2=>tc ρ2 S2 fun b S3=>if b=true then te ρ2 S3 fun y S4=>LcW S xs p f (i+1) (ys++[y]) S4 else LcW S xs p f (i+1) ys S3)
  (q:New Q S ((xs.filter p).map f)):zoC own fv g tc te Z Q ⟨xs,ok⟩ S:=by
 refine⟨hbig,LcW S xs p f,⟨rfl,by simp⟩,fun i ys S' h=>by rw [h.1];exact hok,fun i d ys S' hd h=>?_,fun ys S' h=>?_⟩
 ·obtain⟨rfl,_⟩:=id h
  exact step i d ys hd h
 ·obtain⟨rfl,rfl⟩:=h
  rw [qO];exact q
theorem map_const {α β:Type}(xs:List α)(c:β):xs.map (fun _=>c)=List.replicate xs.length c:=by
 induction xs with
 | nil=>rfl
 | cons x xs ih=>rw [List.map_cons,ih];rfl
theorem filter_true {α:Type}(xs:List α):xs.filter (fun _=>true)=xs:=List.filter_eq_self.mpr fun _ _=>rfl
theorem zbt {ds:List D}{i:Nat}{d:D}(h:ds[i]?=some d):atD ds (i:Int)=some d:=by
 have hl:i<ds.length:=by
  rcases qD i ds.length with g | g
  ·exact g
  ·rw [qE g] at h;cases h
 unfold atD ixD
 rw [if_pos (by omega),if_pos (by omega)]
 simpa using h
theorem zaX {lo:Int}{n i:Nat}{d:D}(h:(upto lo n)[i]?=some d):i<n/\d=.int (lo+i):=by
 unfold upto at h
 rw [qh] at h
 by_cases hi:i<n
 ·rw [List.getElem?_range hi] at h
  exact⟨hi,by simpa using h.symm⟩
 ·rw [qE (by simpa using hi)] at h;cases h
theorem zas (lo:Int)(n:Nat):(upto lo n).length=n:=by unfold upto;simp
theorem ze9 {zs:List Int}{k:Int}(h0:0<=k)(h:k<zs.length):∃ z,z∈zs/\atD (zs.map D.int) k=some (.int z):=by
 refine⟨zs[k.toNat]'(by omega),List.getElem_mem _,?_⟩
 unfold atD ixD
 rw [qa,if_pos h0,if_pos h]
 simp only [Option.bind_some]
 rw [qh,qb (by omega)];rfl
theorem zuN {zs:List Int}{k:Int}(h0:0<=k)(h:k<zs.length):ixD (zs.map D.int).length k=some k.toNat:=by
 unfold ixD
 rw [qa,if_pos h0,if_pos h]
theorem zrk {zs:List Int}{i:Nat}{v z:Int}(h:z∈zs.set i v):z∈zs\/z=v:=by
 rcases List.mem_or_eq_of_mem_set h with h | h
 ·exact .inl h
 ·exact .inr h
theorem zdh {zs:List Int}{i:Nat}{d:D}(h:(zs.map D.int)[i]?=some d):∃ z,zs[i]?=some z/\d=.int z:=by
 rw [qh] at h
 cases e:zs[i]? with
 | none=>rw [e] at h;cases h
 | some p=>rw [e] at h;cases h;exact⟨p,rfl,rfl⟩
theorem zcS {cs:List (Int×Int)}{i:Nat}{d:D}(h:(cs.map p2)[i]?=some d):∃ c,cs[i]?=some c/\d=p2 c:=by
 rw [qh] at h
 cases e:cs[i]? with
 | none=>rw [e] at h;cases h
 | some p=>rw [e] at h;cases h;exact⟨p,rfl,rfl⟩
theorem zao {α:Type}{xs:List α}{i:Nat}{x:α}(h:xs[i]?=some x):i<xs.length:=by
 rcases qD i xs.length with g | g
 ·exact g
 ·rw [qE g] at h;cases h
def zbd:Option Int->D
 | none=>.non
 | some v=>.int v
theorem zsN {S G:Sto}{Q:DK}{xs:List D}(h:fc (.lst xs)=true)(q:New Q S xs):Fin S Q (.ref S.length) (S++Cell.lst xs::G) :=
 .inr ⟨S++[Cell.lst xs],⟨G,by simp⟩,by simp,.inr ⟨_,rfl,by simp⟩,(fun n c hn=>by
  rcases qD n S.length with g | g
  ·rw [qv g] at hn;exact .inl hn
  ·have hl2:=zao hn
   rw [qe] at hl2
   have e:n=S.length:=by simp at hl2;omega
   subst e
   rw [ql (qg _),Nat.sub_self] at hn
   have:Cell.lst xs=c:=by simpa using hn
   subst this
   exact .inr h),q⟩
theorem zga:∀ {xs:List D} {k i:Nat} {d:D},(zdk k xs)[i]?=some d->∃ x,xs[i]?=some x/\d=.tup [.int ((k+i:Nat):Int),x]
 | [],k,i,d,h=>by simp [zdk] at h
 | x::xs,k,0,d,h=>⟨x,rfl,by simpa [zdk] using h.symm⟩
 | x::xs,k,i+1,d,h=>by
  obtain⟨y,e1,e2⟩:=zga (xs:=xs) (k:=k+1) (i:=i) (d:=d) (by simpa [zdk] using h)
  exact⟨y,by simpa using e1,by rw [e2,show k+1+i=k+(i+1) by omega]⟩
theorem zc4:∀ (k:Nat) (xs:List D),(zdk k xs).length=xs.length
  | _,[]=>rfl
  | k,x::xs=>congrArg (· + 1) (zc4 (k+1) xs)
theorem zfQ:∀ {xs ys:List D} {i:Nat} {d:D},(zb8 xs ys)[i]?=some d->∃ x y,xs[i]?=some x/\ys[i]?=some y/\d=.tup [x,y]
 | [],ys,i,d,h=>by simp [zb8] at h
 | x::xs,[],i,d,h=>by simp [zb8] at h
 | x::xs,y::ys,0,d,h=>⟨x,y,rfl,rfl,by simpa [zb8] using h.symm⟩
 | x::xs,y::ys,i+1,d,h=>by
  obtain⟨a,b,e1,e2,e3⟩:=zfQ (xs:=xs) (ys:=ys) (i:=i) (d:=d) (by simpa [zb8] using h)
  exact⟨a,b,by simpa using e1,by simpa using e2,e3⟩
theorem zd6:∀ (xs ys:List D),(zb8 xs ys).length=min xs.length ys.length
 | [],ys=>by simp [zb8]
 | x::xs,[]=>by simp [zb8]
 | x::xs,y::ys=>by
  show (zb8 xs ys).length+1=min (xs.length+1) (ys.length+1)
  rw [zd6 xs ys];omega
theorem Hg.of {n:Nat}{x:Int}(h:My.Bd n x)(hn:n<=1048576):Hg x:=by
 unfold Hg;exact qq h (Nat.pow_le_pow_right (by decide) hn)
def zfS:DSp:=fun ds S Q=>∃ ns:List Int,ds=[.rl (ns.map D.int)]/\(S=[]/\∀ n∈ns,Hg n)/\ns.length<=63/\∀ S',Q (.bl true) S'
theorem zto:∀ ds So Q,zfS ds So Q->ds.length=1:=fun ds So Q ⟨ns,e,_⟩=>by rw [e];rfl
theorem zkq {α β:Type}(f:α->β)(xs:List α)(lo hi:Option Int):cutD (xs.map f) lo hi=(cutD xs lo hi).map f:=by
 unfold cutD
 rw [qa,List.map_take,List.map_drop]
theorem zit {α:Type}(xs:List α)(lo hi:Option Int):(cutD xs lo hi).length<=slD xs.length xs.length hi-slD xs.length 0 lo:=by
 unfold cutD
 rw [List.length_take];omega
def onI (f:Int->D):D->D
 | .int h=>f h
 | d=>d
def onB (p:Int->Bool):D->Bool
 | .int h=>p h
 | _=>false
theorem zkt (p:Int->Bool)(hs:List Int):(hs.map D.int).filter (onB p)=(hs.filter p).map D.int:=by rw [List.filter_map];rfl
section
variable {nx:Rho->Sto->Prop}{rt:DK}{bk ct:Rho->Sto->Prop}{Z:Rho}{S:Sto}
theorem ztf {f:zeH}{ex:XR}{t:DA}{Q:DK}(h:t Z S fun xs S1=>f xs S1 Q (ex Z)):zcQ f ex t Z S Q:=h
theorem zsJ {ex:XR}{c:Str}(h:ex Z c S):zfN ex c ⟨nx,rt,bk,ct⟩ Z S:=h
end
theorem zwM {S:Sto}{Q:DK}{x y:D}{xs ys:List D}{b:Bool}(hx:Lst S x xs)(hy:Lst S y ys)(fx:xs.all (fl 20)=true)(fy:ys.all (fl 20)=true)(e:eqvAll xs ys=b)(q:Q (.bl (!b)) S):oNe x y S Q:=⟨_,.inr (.inl ⟨xs,ys,hx,hy,fx,fy,rfl⟩),by rw [e];exact q⟩
theorem ztH {S:Sto}{Q:DK}{x y:Str}{b:Bool}(fx:fl 20 (.str x)=true)(fy:fl 20 (.str y)=true)(e:(x==y)=b)(q:Q (.bl b) S):oEq (.str x) (.str y) S Q:=⟨_,.inl ⟨fx,fy,rfl⟩,by show Q (.bl (x==y)) S;rw [e];exact q⟩
section
variable {nx:Rho->Sto->Prop}{rt:DK}{bk ct:Rho->Sto->Prop}{Z:Rho}{S:Sto}{Q:DK}{td ti tz tv:DE}
end
section
variable {κ:Type}[DecidableEq κ]
end
theorem zji (c:List Str)(z:Str):(zib c z).length=if c.any (·==z) then c.length else c.length+1:=by
  unfold zib;split<;>simp
theorem zm2 (c:List Str)(z y:Str):(zib c z).any (·==y)=(c.any (·==y)||decide (y=z)):=by
  unfold zib
  by_cases h:c.any (·==z)=true
  . rw [if_pos h]
    by_cases e:y=z
    . subst e;rw [h];rfl
    . rw [decide_eq_false e,Bool.or_false]
  . rw [if_neg h,List.any_append]
    congr 1
    by_cases e:y=z
    . subst e;simp
    . rw [decide_eq_false e]
      have:(z==y)=false:=beq_eq_false_iff_ne.mpr fun q=>e q.symm
      simp [this]
theorem zkB (f:Nat->Str):∀ i,(zda f i).length<=i
  | 0=>qg _
  | i+1=>by
    have:=zkB f i
    show (zib (zda f i) (f i)).length<=i+1
    rw [zji];split<;>omega
theorem zmU (f:Nat->Str)(y:Str):∀ i,((zda f i).any (·==y)=true↔∃ j,j<i/\f j=y)
  | 0=>⟨fun h=>(by simp [zda] at h),fun⟨j,hj,_⟩=>(by omega)⟩
  | i+1=>by
    show ((zib (zda f i) (f i)).any (·==y)=true)↔_
    rw [zm2,Bool.or_eq_true,zmU f y i,decide_eq_true_eq]
    constructor
    . rintro (⟨j,hj,e⟩ | e)
      . exact⟨j,by omega,e⟩
      . exact⟨i,by omega,e.symm⟩
    . rintro⟨j,hj,e⟩
      rcases qD j i with h | h
      . exact .inl ⟨j,h,e⟩
      . have:j=i:=by omega
        subst this;exact .inr e.symm
theorem zmC (f:Nat->Str):∀ i,(∀ a b,a<b->b<i->f a≠f b)->(zda f i).length=i
 | 0,_=>rfl
 | i+1,h=>by
  show (zib (zda f i) (f i)).length=i+1
  rw [zji,zmC f i fun a b x y=>h a b x (by omega)]
  rw [if_neg]
  intro z
  obtain⟨j,hj,e⟩:=(zmU f (f i) i).mp z
  exact h j i hj (by omega) e
theorem zo3 {zs:List Str}(h:zs.Nodup):zre zs=zs.length:=zmC _ _ fun a b hab hb=>by
 show zs.getD a Str.empty≠zs.getD b Str.empty
 rw [qp,qp,qb hb,qb (show a<zs.length by omega)]
 exact qQ.mp h a b (by omega) hb hab
end Dp
namespace Rm
structure Pc where
 lo:Int
 hi:Int
 to:Int
 st:Int
instance:DecidableEq Pc:=fun p q=>if h:p.lo=q.lo/\p.hi=q.hi/\p.to=q.to/\p.st=q.st then isTrue (by cases p;cases q;obtain⟨h1,h2,h3,h4⟩:=h;cases h1;cases h2;cases h3;cases h4;rfl) else isFalse (fun e=>h (by subst e;exact⟨rfl,rfl,rfl,rfl⟩))
def Pc.led (p:Pc)(h:Int):Int:=p.to+p.st*(h-p.lo)
def Pc.fin (p:Pc):Int:=p.led p.hi
def inP (p:Pc)(h:Int):Prop:=p.lo<=h/\h<=p.hi
instance (p:Pc) (h:Int):Decidable (inP p h):=by unfold inP;infer_instance
def at':List Pc->Int->Option Int
 | [],_=>none
 | p::r,h=>if inP p h then some (p.led h) else at' r h
end Rm
namespace Dp
open PySem Rm
open PySem Rm My
theorem ziA (cs:List (Int×Int)):fl 20 (.tup (cs.map p2))=true:=by
 show (cs.map p2).all (fl 19)=true
 rw [List.all_map,List.all_eq_true]
 intro p _;rfl
theorem zmw {xs:List D}{x:D}:ixD (xs++[x]).length (-1)=some xs.length:=by
 have hl:((xs++[x]).length:Int)=xs.length+1:=by simp
 unfold ixD
 rw [if_neg (by omega),if_pos (by omega)]
 congr 1;omega
theorem zgQ {xs:List D}{x:D}:atD (xs++[x]) (-1)=some x:=by
 unfold atD
 rw [zmw]
 simp
end Dp
namespace Rm
open My Dp
def inS (h:Int)(c:Int×Int):Bool:=decide (c.1<=h)&&decide (h<=c.2)
def lec (c:Int×Int):Bool:=decide (c.1<=c.2)
structure zaA (cs:List (Int×Int)):Prop where
 le:∀ c∈cs,c.1<=c.2
 ap:cs.Pairwise fun a b=>a.2+2<=b.1
theorem zfD {h:Int}{c:Int×Int}:inS h c=true↔c.1<=h/\h<=c.2:=by unfold inS;simp
theorem zaP {h:Int}{cs:List (Int×Int)}:cs.any (inS h)=true↔∃ c∈cs,c.1<=h/\h<=c.2:=by
 rw [List.any_eq_true]
 constructor
 ·rintro⟨c,hc,g⟩;exact⟨c,hc,zfD.mp g⟩
 ·rintro⟨c,hc,g⟩;exact⟨c,hc,zfD.mpr g⟩
theorem zaA.nil:zaA []:=⟨fun c hc=>absurd hc (by simp),.nil⟩
theorem zaA.snoc {ms:List (Int×Int)}{c:Int×Int}(s:zaA ms)(hc:c.1<=c.2)(h:∀ m∈ms,m.2+2<=c.1):zaA (ms++[c]):=by
 refine⟨fun d hd=>?_,List.pairwise_append.mpr ⟨s.ap,List.pairwise_singleton _ _,fun a ha b hb=>?_⟩⟩
 ·rcases qu.mp hd with g | g
  ·exact s.le d g
  ·have:d=c:=by simpa using g
   subst this;exact hc
 ·have:b=c:=by simpa using hb
  subst this;exact h a ha
theorem zaA.init {ms:List (Int×Int)}{c:Int×Int}(s:zaA (ms++[c])):zaA ms/\c.1<=c.2/\∀ m∈ms,m.2+2<=c.1:=by
 obtain⟨h1,h2,h3⟩:=List.pairwise_append.mp s.ap
 exact⟨⟨fun d hd=>s.le d (List.mem_append_left _ hd),h1⟩,s.le c (by simp),fun m hm=>h3 m hm c (by simp)⟩
theorem zrT {ms:List (Int×Int)}{l c:Int×Int}(s:zaA (ms++[l]))(hc:c.1<=c.2)(h1:l.1<=c.1)(h2:c.1<=l.2+1) :
  zaA (ms++[(l.1,max l.2 c.2)])/\∀ h,(ms++[(l.1,max l.2 c.2)]).any (inS h)=((ms++[l]).any (inS h)||inS h c):=by
 obtain⟨s0,hl,hm⟩:=s.init
 refine⟨s0.snoc (by show l.1<=max l.2 c.2;omega) hm,fun h=>?_⟩
 rw [List.any_append,List.any_append,Bool.or_assoc]
 congr 1
 rw [Bool.eq_iff_iff,Bool.or_eq_true]
 simp only [List.any_cons,List.any_nil,Bool.or_false,zfD]
 omega
theorem zu0 {a b:Int×Int}(h:zi2 b a=false):a.1<=b.1:=by
 unfold zi2 at h
 rw [decide_eq_false_iff_not] at h
 omega
theorem any_filter (cs:List (Int×Int))(h:Int):(cs.filter fun c=>decide (c.1<=c.2)).any (inS h)=cs.any (inS h):=by
 rw [Bool.eq_iff_iff,zaP,zaP]
 constructor
 ·rintro⟨c,hc,g⟩;exact⟨c,(List.mem_filter.mp hc).1,g⟩
 ·rintro⟨c,hc,g⟩;exact⟨c,List.mem_filter.mpr ⟨hc,decide_eq_true (by omega)⟩,g⟩
theorem zq0 {a b:List (Int×Int)}(p:a.Perm b)(h:Int):a.any (inS h)=b.any (inS h):=by
 rw [Bool.eq_iff_iff,zaP,zaP]
 constructor
 ·rintro⟨c,hc,g⟩;exact⟨c,p.mem_iff.mp hc,g⟩
 ·rintro⟨c,hc,g⟩;exact⟨c,p.mem_iff.mpr hc,g⟩
def zbr (a b:Int×Int):Int×Int:=(max a.1 b.1,min a.2 b.2)
def za7 (as bs:List (Int×Int)):List (Int×Int):=as.flatMap fun a=>bs.map (zbr a)
theorem zov (as bs:List (Int×Int))(h:Int):(za7 as bs).any (inS h)=(as.any (inS h)&&bs.any (inS h)):=by
  rw [Bool.eq_iff_iff,qA,zaP,zaP,zaP]
  unfold za7
  constructor
  . rintro⟨c,hc,g1,g2⟩
    obtain⟨a,ha,hm⟩:=List.mem_flatMap.mp hc
    obtain⟨b,hb,rfl⟩:=qI.mp hm
    unfold zbr at g1 g2
    dsimp only at g1 g2
    refine⟨⟨a,ha,?_⟩,⟨b,hb,?_⟩⟩<;>omega
  . rintro⟨⟨a,ha,g1,g2⟩,⟨b,hb,k1,k2⟩⟩
    refine⟨zbr a b,List.mem_flatMap.mpr ⟨a,ha,qI.mpr ⟨b,hb,rfl⟩⟩,?_⟩
    unfold zbr
    dsimp only
    constructor<;>omega
theorem zmA {a b:Int×Int}(ha:a.1<=a.2)(hb:b.1<=b.2):(zbr a b).1<=(zbr a b).2↔b.1<=a.2/\a.1<=b.2:=by
 unfold zbr
 dsimp only
 omega
theorem zoe {a:Int×Int}(ha:a.1<=a.2):∀ {bs:List (Int×Int)},zaA bs->((bs.map (zbr a)).filter fun c=>decide (c.1<=c.2)).length<=(bs.filter fun b=>decide (b.2<=a.2)).length+1
  | [],_=>by simp
  | b::bs,s=>by
    obtain⟨cb,pb⟩:=List.pairwise_cons.mp s.ap
    have hb:=s.le b (by simp)
    have s':zaA bs:=⟨fun x hx=>s.le x (by simp [hx]),pb⟩
    have ih:=zoe ha s'
    rw [List.map_cons]
    by_cases h1:b.2<=a.2
    . rw [List.filter_cons_of_pos (p:=fun b:Int×Int=>decide (b.2<=a.2)) (decide_eq_true h1)]
      have:(((zbr a b)::bs.map (zbr a)).filter fun c=>decide (c.1<=c.2)).length<=((bs.map (zbr a)).filter fun c=>decide (c.1<=c.2)).length+1:=by
        rw [List.filter_cons];split<;>simp
      simp only [List.length_cons]
      omega
    . have none : (bs.map (zbr a)).filter (fun c => decide (c.1 ≤ c.2)) = [] := by
        rw [List.filter_eq_nil_iff]
        intro c hc
        obtain⟨x,hx,rfl⟩:=qI.mp hc
        have:=cb x hx
        have hx2:=s'.le x hx
        rw [decide_eq_true_eq,zmA ha hx2]
        omega
      rw [List.filter_cons,none]
      split<;>simp
theorem zm3:∀ {as bs:List (Int×Int)},zaA as->zaA bs->((za7 as bs).filter fun c=>decide (c.1<=c.2)).length<=as.length+bs.length
 | [],bs,_,_=>by simp [za7]
 | a::as,bs,sa,sb=>by
  obtain⟨ca,pa⟩:=List.pairwise_cons.mp sa.ap
  have ha:=sa.le a (by simp)
  have sa':zaA as:=⟨fun x hx=>sa.le x (by simp [hx]),pa⟩
  have sb2:zaA (bs.filter fun b=>!decide (b.2<=a.2)):=⟨fun x hx=>sb.le x (List.mem_filter.mp hx).1,sb.ap.filter _⟩
  have ih:=zm3 sa' sb2
  have one:=zoe ha sb
  have same:((za7 as bs).filter fun c=>decide (c.1<=c.2)).length=((za7 as (bs.filter fun b=>!decide (b.2<=a.2))).filter fun c=>decide (c.1<=c.2)).length:=by
   clear ih one
   induction as with
   | nil=>rfl
   | cons d ds ihd =>
    have hd:a.2+2<=d.1:=ca d (by simp)
    have hd2:=sa.le d (by simp)
    unfold za7 at ihd ⊢
    rw [List.flatMap_cons,List.flatMap_cons,List.filter_append,List.filter_append,qe,qe]
    have e1:((bs.map (zbr d)).filter fun c=>decide (c.1<=c.2)).length=(((bs.filter fun b=>!decide (b.2<=a.2)).map (zbr d)).filter fun c=>decide (c.1<=c.2)).length:=by
     have hle:=sb.le
     clear ihd sb sb2
     induction bs with
     | nil=>rfl
     | cons b bs ihb =>
      have ih':=ihb fun x hx=>hle x (by simp [hx])
      have hb:=hle b (by simp)
      by_cases h1:b.2<=a.2
      ·rw [List.filter_cons_of_neg (p:=fun b:Int×Int=>!decide (b.2<=a.2)) (by simp [h1]),List.map_cons,List.filter_cons_of_neg (by rw [decide_eq_true_eq,zmA hd2 hb];omega)]
       exact ih'
      ·rw [List.filter_cons_of_pos (p:=fun b:Int×Int=>!decide (b.2<=a.2)) (by simp [h1]),List.map_cons,List.map_cons,List.filter_cons,List.filter_cons]
       split
       ·simp only [List.length_cons];omega
       ·exact ih'
    have pa2:=List.pairwise_cons.mp (List.pairwise_cons.mp sa.ap).2
    have sd:zaA (a::ds):=⟨fun x hx=>by
     rcases qf.mp hx with rfl | hx
     ·exact ha
     ·exact sa.le x (by simp [hx]),List.pairwise_cons.mpr ⟨fun x hx=>ca x (by simp [hx]),pa2.2⟩⟩
    have e2:=ihd sd (fun x hx=>ca x (by simp [hx])) pa2.2 ⟨fun x hx=>sd.le x (by simp [hx]),pa2.2⟩
    rw [e1,e2]
  have split2:bs.length=(bs.filter fun b=>decide (b.2<=a.2)).length+(bs.filter fun b=>!decide (b.2<=a.2)).length:=by
   clear ih one same sb sb2
   induction bs with
   | nil=>rfl
   | cons b bs ihb =>
    rw [List.filter_cons,List.filter_cons]
    by_cases h1:b.2<=a.2
    ·simp [h1];omega
    ·simp [h1];omega
  unfold za7 at same ih ⊢
  rw [List.flatMap_cons,List.filter_append,qe,same]
  simp only [List.length_cons]
  omega
end Rm
namespace Dp
open PySem Rm My
def zcl:List (Int×Int)->Int->Option Int
 | [],_=>none
 | c::r,h=>if h<=c.2 then some (max c.1 h) else zcl r h
def on2 (f:Int×Int->D):D->D
 | .tup [.int a,.int b]=>f (a,b)
 | d=>d
def zvL (p:Int×Int->Bool):D->Bool
 | .tup [.int a,.int b]=>p (a,b)
 | _=>false
theorem zsY (f:Int×Int->D)(cs:List (Int×Int)):(cs.map p2).map (on2 f)=cs.map f:=by rw [qM];rfl
theorem zr5 (p:Int×Int->Bool)(cs:List (Int×Int)):(cs.map p2).filter (zvL p)=(cs.filter p).map p2:=by rw [List.filter_map];rfl
theorem zvu {S:Sto}{x:D}{xs:List D}{R:DIt->Sto->Prop}(h:zeQ S x xs)(q:∀ ok:Sto->Prop,(∀ T,ok (S++T))->R ⟨xs,ok⟩ S):ziF x S R:=by
 rcases h with rfl | h
 ·exact .inl ⟨xs,rfl,q _ fun _=>True.intro⟩
 ·exact .inr (.inl ⟨xs,h,q _ fun T=>h.old⟩)
theorem zeQ.old {S T:Sto}{x:D}{xs:List D}(h:zeQ S x xs):zeQ (S++T) x xs:=h.imp id Lst.old
theorem zjz (as bs:List (Int×Int)):(za7 as bs).length=as.length*bs.length:=by
 unfold za7
 induction as with
 | nil=>simp
 | cons a as ih=>rw [List.flatMap_cons,qe,ih,qa,List.length_cons,Nat.succ_mul,Nat.add_comm]
theorem zm5 {as bs:List (Int×Int)}{i:Nat}{a:Int×Int}(h:as[i]?=some a):za7 (as.take (i+1)) bs=za7 (as.take i) bs++bs.map (zbr a):=by
 unfold za7
 rw [zau h,List.flatMap_append];simp
def zaO:Int->List (Int×Int)->List (Int×Int)×Int
 | st,[]=>([],st)
 | st,c::cs=>((st,c.1-1)::(zaO (c.2+1) cs).1,(zaO (c.2+1) cs).2)
theorem ze7:∀ (st:Int) (cs:List (Int×Int)),(zaO st cs).1.length=cs.length
 | _,[]=>rfl
 | st,c::cs=>by show ((zaO (c.2+1) cs).1.length+1)=_;rw [ze7];rfl
theorem zhh:∀ (st:Int) (cs:List (Int×Int)) (c:Int×Int),zaO st (cs++[c])=((zaO st cs).1++[((zaO st cs).2,c.1-1)],c.2+1)
 | st,[],c=>rfl
 | st,d::cs,c=>by
  show ((st,d.1-1)::(zaO (d.2+1) (cs++[c])).1,(zaO (d.2+1) (cs++[c])).2)=_
  rw [zhh];rfl
theorem zms {hi h:Int}(hh:h<=hi):∀ (st:Int) {cs:List (Int×Int)},zaA cs->st<=h->(∀ c∈cs,c.2<=h->True)->(((zaO st cs).1++[((zaO st cs).2,hi)]).any (inS h)=true↔¬ ∃ c∈cs,c.1<=h/\h<=c.2)
  | st,[],_,hs,_=>by
    simp [zaO,zfD,hs,hh]
  | st,c::cs,s,hs,_=>by
    obtain⟨cb,pb⟩:=List.pairwise_cons.mp s.ap
    have hc:=s.le c (by simp)
    have s':zaA cs:=⟨fun x hx=>s.le x (by simp [hx]),pb⟩
    show (((st,c.1-1)::((zaO (c.2+1) cs).1++[((zaO (c.2+1) cs).2,hi)])).any (inS h)=true↔_)
    rw [List.any_cons,Bool.or_eq_true,zfD]
    rcases (by omega:h<c.1\/(c.1<=h/\h<=c.2)\/c.2<h) with g | g | g
    . constructor
      . rintro-⟨x,hx,k1,k2⟩
        rcases qf.mp hx with rfl | hx
        . omega
        . have:=cb x hx;omega
      . intro _
        exact .inl ⟨hs,by show h<=c.1-1;omega⟩
    . constructor
      . intro z
        exfalso
        rcases z with ⟨_,z⟩ | z
        . have:h<=c.1-1:=z
          omega
        . obtain⟨x,hx,k1,k2⟩:=zaP.mp z
          have low:∀ (st:Int) (cs:List (Int×Int)),zaA cs->(∀ d∈cs,st<=d.1)->∀ x∈(zaO st cs).1++[((zaO st cs).2,hi)],st<=x.1:=by
            intro st cs
            induction cs generalizing st with
            | nil => intro _ _ x hx; have : x = (st, hi) := by simpa [zaO] using hx
                     subst this;exact Int.le_refl _
            | cons d ds ih =>
              intro sd hd x hx
              obtain⟨c2,p2⟩:=List.pairwise_cons.mp sd.ap
              have hd1:=hd d (by simp)
              have hd2:=sd.le d (by simp)
              have hx:x∈(st,d.1-1)::((zaO (d.2+1) ds).1++[((zaO (d.2+1) ds).2,hi)]):=hx
              rcases qf.mp hx with rfl | hx
              . exact Int.le_refl _
              . have:=ih (d.2+1) ⟨fun y hy=>sd.le y (by simp [hy]),p2⟩ (fun y hy=>by have:=c2 y hy;omega) x hx
                omega
          have:=low (c.2+1) cs s' (fun d hd=>by have:=cb d hd;omega) x hx
          omega
      . intro z
        exact absurd ⟨c,by simp,g.1,g.2⟩ z
    . have ih:=zms hh (c.2+1) s' (by omega) (fun _ _ _=>trivial)
      constructor
      . rintro z ⟨x,hx,k1,k2⟩
        rcases qf.mp hx with rfl | hx
        . omega
        . rcases z with ⟨_,z⟩ | z
          . have:h<=c.1-1:=z
            omega
          . exact ih.mp z ⟨x,hx,k1,k2⟩
      . intro z
        exact .inr (ih.mpr fun⟨x,hx,k⟩=>z ⟨x,by simp [hx],k⟩)
end Dp
namespace Rm
open My Dp
def acr (L R B T x1 z1 x2 z2:Int):List Int :=
 [(x2-x1)*(B-z1)-(z2-z1)*(L-x1),(x2-x1)*(T-z1)-(z2-z1)*(L-x1),(x2-x1)*(B-z1)-(z2-z1)*(R-x1),(x2-x1)*(T-z1)-(z2-z1)*(R-x1)]
def zeO (L R B T x1 z1 x2 z2:Int):Prop :=
 L<=(max x1 x2)/\(min x1 x2)<=R/\B<=(max z1 z2)/\(min z1 z2)<=T/\(∃ a∈acr L R B T x1 z1 x2 z2,0<=a)/\∃ a∈acr L R B T x1 z1 x2 z2,a<=0
def zfq (lo hi st sp e1 e2 x1 x2:Int):Prop :=
 (sp=0/\lo<=st/\st<=hi/\e1=0/\e2=1/\x1=1/\x2=1)\/(sp=0/\(st<lo\/hi<st)/\e1=1/\e2=1/\x1=0/\x2=1) \/
 (0<sp/\e1=lo-st/\e2=sp/\x1=hi-st/\x2=sp)\/(sp<0/\e1=st-hi/\e2=-sp/\x1=st-lo/\x2=-sp)
def ziB (ea1 ea2 xa1 xa2 eu1 eu2 xu1 xu2:Int):Prop:=∀ e∈[((0:Int),(1:Int)),(ea1,ea2),(eu1,eu2)],∀ x∈[((1:Int),(1:Int)),(xa1,xa2),(xu1,xu2)],e.1*x.2<=x.1*e.2
theorem zcZ {u a b:Int}(h:0<=u)(h':a<=b):u*a<=u*b:=Int.mul_le_mul_of_nonneg_left h' h
theorem zq1 {p r P R:Int}{L x:Int}:(∃ a∈[P-L,R-L,P-x,R-x],p<=a)↔(p<=P-L\/p<=R-L\/p<=P-x\/p<=R-x):=by simp
theorem zp5 {p P R:Int}{L x:Int}:(∃ a∈[P-L,R-L,P-x,R-x],a<=p)↔(P-L<=p\/R-L<=p\/P-x<=p\/R-x<=p):=by simp
theorem zcY {ea1 ea2 xa1 xa2 eu1 eu2 xu1 xu2:Int}:ziB ea1 ea2 xa1 xa2 eu1 eu2 xu1 xu2 ↔
  (0<=xa1/\0<=xu1)/\(ea1<=ea2/\ea1*xa2<=xa1*ea2/\ea1*xu2<=xu1*ea2)/\(eu1<=eu2/\eu1*xa2<=xa1*eu2/\eu1*xu2<=xu1*eu2):=by
 unfold ziB
 simp
def zlH (lo hi st sp e1 e2 x1 x2:Int):Prop :=
 (sp=0/\lo<=st/\st<=hi/\e1=0/\e2=1/\x1=1/\x2=1)\/(sp=0/\(st<lo\/hi<st)/\e1=1/\e2=1/\x1=0/\x2=1)\/(0<sp/\e1=lo-st/\e2=sp/\x1=hi-st/\x2=sp)
theorem zmo {lo hi st s t e1 e2 x1 x2:Int}(h:zfq lo hi st (t-s) e1 e2 x1 x2):zlH lo hi st (t-s) e1 e2 x1 x2\/zlH (-hi) (-lo) (-st) (-t - -s) e1 e2 x1 x2:=by
 rcases h with h | h | h | ⟨h,rfl,rfl,rfl,rfl⟩
 ·exact .inl (.inl h)
 ·exact .inl (.inr (.inl h))
 ·exact .inl (.inr (.inr h))
 ·exact .inr (.inr (.inr ⟨by omega,by omega,by omega,by omega,by omega⟩))
theorem zlY {as bs:List Int}(h:∀ a,a∈bs↔-a∈as):((∃ a∈bs,0<=a)↔∃ a∈as,a<=0)/\((∃ a∈bs,a<=0)↔∃ a∈as,0<=a):=by
  have back:∀ a,a∈as->-a∈bs:=fun a ha=>(h (-a)).mpr (by rw [Int.neg_neg];exact ha)
  refine⟨⟨?_,?_⟩,?_,?_⟩<;>rintro⟨a,ha,h0⟩
  . exact⟨-a,(h a).mp ha,by omega⟩
  . exact⟨-a,back a ha,by omega⟩
  . exact⟨-a,(h a).mp ha,by omega⟩
  . exact⟨-a,back a ha,by omega⟩
theorem zrR {a p q r t:Int}:a∈[-p,-q,-r,-t]↔-a∈[r,t,p,q]:=by
 have e:∀ x,a=-x↔-a=x:=fun x=>⟨fun h=>by rw [h,Int.neg_neg],fun h=>by rw [<- h,Int.neg_neg]⟩
 simp only [qf,qm,or_false,e]
 exact⟨fun h=>h.elim (fun h=>.inr (.inr (.inl h))) (fun h=>h.elim (fun h=>.inr (.inr (.inr h))) (fun h=>h.elim .inl (fun h=>.inr (.inl h)))),fun h=>h.elim (fun h=>.inr (.inr (.inl h))) (fun h=>h.elim (fun h=>.inr (.inr (.inr h))) (fun h=>h.elim .inl (fun h=>.inr (.inl h))))⟩
theorem zxD (a b c d e:Int):(-a - -b)*c-d*(-e - -b)=-((a-b)*c-d*(e-b)):=by
 rw [show -a - -b=-(a-b) by omega,show -e - -b=-(e-b) by omega,Int.neg_mul,Int.mul_neg];omega
theorem zyh (a b c d e:Int):c*(-a - -b)-(-d - -b)*e=-(c*(a-b)-(d-b)*e):=by
 rw [show -a - -b=-(a-b) by omega,show -d - -b=-(d-b) by omega,Int.neg_mul,Int.mul_neg];omega
theorem zmg (a b:Int):max (-a) (-b)=-(min a b):=by omega
theorem zmQ (a b:Int):min (-a) (-b)=-(max a b):=by omega
theorem zkW {L R B T x1 z1 x2 z2:Int}:zeO (-R) (-L) B T (-x1) z1 (-x2) z2↔zeO L R B T x1 z1 x2 z2:=by
 have e:acr (-R) (-L) B T (-x1) z1 (-x2) z2=[-((x2-x1)*(B-z1)-(z2-z1)*(R-x1)),-((x2-x1)*(T-z1)-(z2-z1)*(R-x1)),-((x2-x1)*(B-z1)-(z2-z1)*(L-x1)),-((x2-x1)*(T-z1)-(z2-z1)*(L-x1))]:=by
  unfold acr
  simp only [zxD]
 have k:=zlY (as:=acr L R B T x1 z1 x2 z2) (bs:=acr (-R) (-L) B T (-x1) z1 (-x2) z2) (fun a=>by rw [e];exact zrR)
 unfold zeO
 rw [k.1,k.2,zmg,zmQ]
 generalize max x1 x2=a1
 generalize min x1 x2=a2
 generalize (∃ a∈acr L R B T x1 z1 x2 z2,0<=a)=P
 generalize (∃ a∈acr L R B T x1 z1 x2 z2,a<=0)=Q
 constructor
 ·rintro⟨h1,h2,h3,h4,h5,h6⟩;exact⟨by omega,by omega,h3,h4,h6,h5⟩
 ·rintro⟨h1,h2,h3,h4,h5,h6⟩;exact⟨by omega,by omega,h3,h4,h6,h5⟩
theorem zqa {a p q r t:Int}:a∈[-p,-q,-r,-t]↔-a∈[q,p,t,r]:=by
 have e:∀ x,a=-x↔-a=x:=fun x=>⟨fun h=>by rw [h,Int.neg_neg],fun h=>by rw [<- h,Int.neg_neg]⟩
 simp only [qf,qm,or_false,e]
 exact⟨fun h=>h.elim (fun h=>.inr (.inl h)) (fun h=>h.elim .inl (fun h=>h.elim (fun h=>.inr (.inr (.inr h))) (fun h=>.inr (.inr (.inl h))))),fun h=>h.elim (fun h=>.inr (.inl h)) (fun h=>h.elim .inl (fun h=>h.elim (fun h=>.inr (.inr (.inr h))) (fun h=>.inr (.inr (.inl h)))))⟩
theorem zk8 {L R B T x1 z1 x2 z2:Int}:zeO L R (-T) (-B) x1 (-z1) x2 (-z2)↔zeO L R B T x1 z1 x2 z2:=by
 have e:acr L R (-T) (-B) x1 (-z1) x2 (-z2)=[-((x2-x1)*(T-z1)-(z2-z1)*(L-x1)),-((x2-x1)*(B-z1)-(z2-z1)*(L-x1)),-((x2-x1)*(T-z1)-(z2-z1)*(R-x1)),-((x2-x1)*(B-z1)-(z2-z1)*(R-x1))]:=by
  unfold acr
  simp only [zyh]
 have k:=zlY (as:=acr L R B T x1 z1 x2 z2) (bs:=acr L R (-T) (-B) x1 (-z1) x2 (-z2)) (fun a=>by rw [e];exact zqa)
 unfold zeO
 rw [k.1,k.2,zmg,zmQ]
 generalize max z1 z2=a1
 generalize min z1 z2=a2
 generalize (∃ a∈acr L R B T x1 z1 x2 z2,0<=a)=P
 generalize (∃ a∈acr L R B T x1 z1 x2 z2,a<=0)=Q
 constructor
 ·rintro⟨h1,h2,h3,h4,h5,h6⟩;exact⟨h1,h2,by omega,by omega,h6,h5⟩
 ·rintro⟨h1,h2,h3,h4,h5,h6⟩;exact⟨h1,h2,by omega,by omega,h6,h5⟩
theorem ztZ {P Q p q:Int}(h:P<=Q)(g:p<=q):(0<=P-p\/0<=Q-p\/0<=P-q\/0<=Q-q)↔p<=Q:=⟨fun k=>by rcases k with k | k | k | k<;>omega,fun k=>.inr (.inl (by omega))⟩
theorem ztW {P Q p q:Int}(h:P<=Q)(g:p<=q):(P-p<=0\/Q-p<=0\/P-q<=0\/Q-q<=0)↔P<=q:=⟨fun k=>by rcases k with k | k | k | k<;>omega,fun k=>.inr (.inr (.inl (by omega)))⟩
theorem zgZ {L R B T x1 z1 x2 z2 ea1 ea2 xa1 xa2 eu1 eu2 xu1 xu2:Int}(hx:L<=R)(hz:B<=T)(pa:zlH L R x1 (x2-x1) ea1 ea2 xa1 xa2)(pu:zlH B T z1 (z2-z1) eu1 eu2 xu1 xu2) :
    ziB ea1 ea2 xa1 xa2 eu1 eu2 xu1 xu2↔zeO L R B T x1 z1 x2 z2:=by
  have u0:0<=x2-x1:=by rcases pa with h | h | h<;>omega
  have v0:0<=z2-z1:=by rcases pu with h | h | h<;>omega
  rw [zcY]
  unfold zeO acr
  rw [zq1 (r:=0),zp5,show max x1 x2=x1+(x2-x1) by omega,show min x1 x2=x1 by omega,show max z1 z2=z1+(z2-z1) by omega,show min z1 z2=z1 by omega]
  generalize x2-x1=u at *
  generalize z2-z1=v at *
  have k1:=zcZ u0 (show B-z1<=T-z1 by omega)
  have k2:=zcZ v0 (show L-x1<=R-x1 by omega)
  rw [ztZ k1 k2,ztW k1 k2]
  have c1:∀ s t:Int,(s-x1)*t=t*(s-x1):=fun s t=>Int.mul_comm _ _
  have c3:∀ s t:Int,(s-z1)*t=t*(s-z1):=fun s t=>Int.mul_comm _ _
  have k5:B<=z1->u*(B-z1)<=0:=fun h=>by have:=zcZ u0 (show B-z1<=0 by omega);rwa [Int.mul_zero] at this
  have k6:z1<=T->0<=u*(T-z1):=fun h=>by have:=zcZ u0 (show 0<=T-z1 by omega);rwa [Int.mul_zero] at this
  have k8:=zcZ v0 (show B-z1<=T-z1 by omega)
  rcases pa with ⟨hu,h1,h2,rfl,rfl,rfl,rfl⟩ | ⟨hu,h1,rfl,rfl,rfl,rfl⟩ | ⟨hu,rfl,rfl,rfl,rfl⟩
  . clear k5 k6
    subst hu
    have k3:=zcZ v0 (show L-x1<=0 by omega)
    have k4:=zcZ v0 (show 0<=R-x1 by omega)
    rcases pu with ⟨hv,g1,g2,rfl,rfl,rfl,rfl⟩ | ⟨hv,g1,rfl,rfl,rfl,rfl⟩ | ⟨hv,rfl,rfl,rfl,rfl⟩ <;>
    simp only [c3,Int.zero_mul,Int.mul_zero,Int.one_mul,Int.mul_one] at *<;>omega
  . simp only [Int.one_mul,Int.mul_one]
    omega
  . have k7:=zcZ u0 (show L-x1<=R-x1 by omega)
    rcases pu with ⟨hv,g1,g2,rfl,rfl,rfl,rfl⟩ | ⟨hv,g1,rfl,rfl,rfl,rfl⟩ | ⟨hv,rfl,rfl,rfl,rfl⟩
    . subst hv
      have k5:=k5 g1
      have k6:=k6 g2
      simp only [c1,c3,Int.zero_mul,Int.mul_zero,Int.one_mul,Int.mul_one] at *
      omega
    . simp only [Int.one_mul,Int.mul_one]
      omega
    . simp only [c1,c3]
      exact⟨fun⟨⟨a,b⟩,⟨c,_,d⟩,e,f,_⟩=>⟨by omega,by omega,by omega,by omega,d,f⟩,fun⟨a,b,c,d,e,f⟩=>⟨⟨by omega,by omega⟩,⟨by omega,k7,e⟩,by omega,f,k8⟩⟩
theorem zfR {L R B T x1 z1 x2 z2 ea1 ea2 xa1 xa2 eu1 eu2 xu1 xu2:Int}(hx:L<=R)(hz:B<=T)(pa:zfq L R x1 (x2-x1) ea1 ea2 xa1 xa2)(pu:zfq B T z1 (z2-z1) eu1 eu2 xu1 xu2) :
    ziB ea1 ea2 xa1 xa2 eu1 eu2 xu1 xu2↔zeO L R B T x1 z1 x2 z2:=by
  rcases zmo pa with pa | pa<;>rcases zmo pu with pu | pu
  . exact zgZ hx hz pa pu
  . rw [<- zk8];exact zgZ hx (by omega) pa pu
  . rw [<- zkW];exact zgZ (by omega) hz pa pu
  . rw [<- zkW,<- zk8];exact zgZ (by omega) (by omega) pa pu
theorem zmK (L R B T x1 z1 x2 z2 g s k:Int):acr (L+g*k) (R+g*k) (B+s*k) (T+s*k) x1 z1 x2 z2=(acr L R B T x1 z1 x2 z2).map fun a=>a+k*((x2-x1)*s-(z2-z1)*g):=by
  unfold acr
  simp only [List.map_cons,List.map_nil,List.cons.injEq,and_true]
  refine⟨?_,?_,?_,?_⟩<;>grind
theorem zrM {as:List Int}{m m' d:Int}(h1:m∈as)(h2:∀ a∈as,a<=m)(h3:m'∈as.map fun a=>a+d)(h4:∀ a∈as.map (fun a=>a+d),a<=m'):m'=m+d:=by
 obtain⟨b,hb,rfl⟩:=qI.mp h3
 have e1:=h2 b hb
 have e2:=h4 (m+d) (qI.mpr ⟨m,h1,rfl⟩)
 omega
theorem zrp {as:List Int}{m m' d:Int}(h1:m∈as)(h2:∀ a∈as,m<=a)(h3:m'∈as.map fun a=>a+d)(h4:∀ a∈as.map (fun a=>a+d),m'<=a):m'=m+d:=by
 obtain⟨b,hb,rfl⟩:=qI.mp h3
 have e1:=h2 b hb
 have e2:=h4 (m+d) (qI.mpr ⟨m,h1,rfl⟩)
 omega
def six (L R B T x1 z1 x2 z2 mx mn:Int):List Int:=[(max x1 x2)-L,R-(min x1 x2),(max z1 z2)-B,T-(min z1 z2),mx,-mn]
theorem zpJ {L R B T x1 z1 x2 z2 g s mx mn mx' mn' k:Int}(m1:mx∈acr (L+g*0) (R+g*0) (B+s*0) (T+s*0) x1 z1 x2 z2)(m2:∀ a∈acr (L+g*0) (R+g*0) (B+s*0) (T+s*0) x1 z1 x2 z2,a<=mx)
    (n1:mn∈acr (L+g*0) (R+g*0) (B+s*0) (T+s*0) x1 z1 x2 z2) (n2:∀ a∈acr (L+g*0) (R+g*0) (B+s*0) (T+s*0) x1 z1 x2 z2,mn<=a)
    (m1':mx'∈acr (L+g*1) (R+g*1) (B+s*1) (T+s*1) x1 z1 x2 z2) (m2':∀ a∈acr (L+g*1) (R+g*1) (B+s*1) (T+s*1) x1 z1 x2 z2,a<=mx')
    (n1':mn'∈acr (L+g*1) (R+g*1) (B+s*1) (T+s*1) x1 z1 x2 z2) (n2':∀ a∈acr (L+g*1) (R+g*1) (B+s*1) (T+s*1) x1 z1 x2 z2,mn'<=a) :
    (∀ i,i<6->0<=(six (L+g*0) (R+g*0) (B+s*0) (T+s*0) x1 z1 x2 z2 mx mn).getD i 0+k*((six (L+g*1) (R+g*1) (B+s*1) (T+s*1) x1 z1 x2 z2 mx' mn').getD i 0-(six (L+g*0) (R+g*0) (B+s*0) (T+s*0) x1 z1 x2 z2 mx mn).getD i 0)) ↔
    zeO (L+g*k) (R+g*k) (B+s*k) (T+s*k) x1 z1 x2 z2:=by
  rw [zmK] at m1 m2 n1 n2 m1' m2' n1' n2'
  have id0:(acr L R B T x1 z1 x2 z2).map (fun a=>a+0*((x2-x1)*s-(z2-z1)*g))=acr L R B T x1 z1 x2 z2:=by
    simp
  rw [id0] at m1 m2 n1 n2
  rw [show (fun a:Int=>a+1*((x2-x1)*s-(z2-z1)*g))=fun a=>a+((x2-x1)*s-(z2-z1)*g) by funext a;rw [Int.one_mul]] at m1' m2' n1' n2'
  have e1:=zrM m1 m2 m1' m2'
  have e2:=zrp n1 n2 n1' n2'
  unfold zeO
  rw [zmK]
  generalize (x2-x1)*s-(z2-z1)*g=d at *
  have f1:(∃ a∈(acr L R B T x1 z1 x2 z2).map (fun a=>a+k*d),0<=a)↔0<=mx+k*d:=by
    constructor
    . rintro⟨a,ha,h⟩
      obtain⟨b,hb,rfl⟩:=qI.mp ha
      have:=m2 b hb
      omega
    . intro h
      exact⟨_,qI.mpr ⟨mx,m1,rfl⟩,h⟩
  have f2:(∃ a∈(acr L R B T x1 z1 x2 z2).map (fun a=>a+k*d),a<=0)↔mn+k*d<=0:=by
    constructor
    . rintro⟨a,ha,h⟩
      obtain⟨b,hb,rfl⟩:=qI.mp ha
      have:=n2 b hb
      omega
    . intro h
      exact⟨_,qI.mpr ⟨mn,n1,rfl⟩,h⟩
  rw [f1,f2]
  subst e1 e2
  unfold six
  generalize (max x1 x2)=q1
  generalize (min x1 x2)=q2
  generalize (max z1 z2)=q3
  generalize (min z1 z2)=q4
  have h0:k*(q1-(L+g*1)-(q1-(L+g*0)))=-(g*k):=by grind
  have h1:k*(R+g*1-q2-(R+g*0-q2))=g*k:=by grind
  have h2:k*(q3-(B+s*1)-(q3-(B+s*0)))=-(s*k):=by grind
  have h3:k*(T+s*1-q4-(T+s*0-q4))=s*k:=by grind
  have h4:k*(mx+d-mx)=k*d:=by grind
  have h5:k*(-(mn+d) - -mn)=-(k*d):=by grind
  constructor
  . intro h
    have a0:=h 0 (by decide)
    have a1:=h 1 (by decide)
    have a2:=h 2 (by decide)
    have a3:=h 3 (by decide)
    have a4:=h 4 (by decide)
    have a5:=h 5 (by decide)
    simp only [List.getD_cons_zero,List.getD_cons_succ] at a0 a1 a2 a3 a4 a5
    rw [h0] at a0
    rw [h1] at a1
    rw [h2] at a2
    rw [h3] at a3
    rw [h4] at a4
    rw [h5] at a5
    refine⟨?_,?_,?_,?_,?_,?_⟩<;>omega
  . rintro⟨a0,a1,a2,a3,a4,a5⟩ i hi
    match i,hi with
    | 0,_=>simp only [List.getD_cons_zero,List.getD_cons_succ];rw [h0];omega
    | 1,_=>simp only [List.getD_cons_zero,List.getD_cons_succ];rw [h1];omega
    | 2,_=>simp only [List.getD_cons_zero,List.getD_cons_succ];rw [h2];omega
    | 3,_=>simp only [List.getD_cons_zero,List.getD_cons_succ];rw [h3];omega
    | 4,_=>simp only [List.getD_cons_zero,List.getD_cons_succ];rw [h4];omega
    | 5,_=>simp only [List.getD_cons_zero,List.getD_cons_succ];rw [h5];omega
theorem ztq {S T k:Int}(h:0<T):-(S/T)<=k↔0<=S+k*T:=by
 have:-k<=S/T↔-k*T<=S:=Int.le_ediv_iff_mul_le h
 rw [Int.neg_mul] at this
 omega
theorem zqO {S T k:Int}(h:T<0):k<=S / -T↔0<=S+k*T:=by
 have:k<=S / -T↔k * -T<=S:=Int.le_ediv_iff_mul_le (by omega)
 rw [Int.mul_neg] at this
 omega
def Hit (L R B T x1 z1 x2 z2:Int):Prop:=∃ p q:Int,0<q/\0<=p/\p<=q/\L*q<=x1*q+p*(x2-x1)/\x1*q+p*(x2-x1)<=R*q/\B*q<=z1*q+p*(z2-z1)/\z1*q+p*(z2-z1)<=T*q
theorem mulL {k a b:Int}(h:0<=k)(g:a<=b):k*a<=k*b:=Int.mul_le_mul_of_nonneg_left g h
theorem zq8 {k a b:Int}(h:0<k)(g:k*a<=k*b):a<=b:=Int.le_of_mul_le_mul_left g h
theorem ftr {a b c d e f:Int}(hb:0<=b)(hf:0<=f)(hd:0<d)(h1:a*d<=c*b)(h2:c*f<=e*d):a*f<=e*b:=by
 refine zq8 hd ?_
 have k1:=mulL hf h1
 have k2:=mulL hb h2
 have e1:d*(a*f)=f*(a*d):=by grind
 have e2:f*(c*b)=b*(c*f):=by grind
 have e3:b*(e*d)=d*(e*b):=by grind
 omega
theorem fmax:∀ {l:List (Int×Int)},l≠[]->(∀ e∈l,0<e.2)->∃ e∈l,∀ f∈l,f.1*e.2<=e.1*f.2
 | [],h,_=>absurd rfl h
 | [x],_,_=>⟨x,by simp,fun f hf=>by simp at hf;subst hf;exact Int.le_refl _⟩
 | x::y::l,_,h=>by
  obtain⟨m,hm,g⟩:=fmax (l:=y::l) (by simp) fun e he=>h e (by simp [he])
  have hx:=h x (by simp)
  have hm2:=h m (by simp [hm])
  rcases Int.le_total (x.1*m.2) (m.1*x.2) with c | c
  ·refine⟨m,by simp [hm],fun f hf=>?_⟩
   rcases qf.mp hf with rfl | hf
   ·exact c
   ·exact g f hf
  ·refine⟨x,by simp,fun f hf=>?_⟩
   rcases qf.mp hf with rfl | hf
   ·exact Int.le_refl _
   ·exact ftr (Int.le_of_lt (h f (by simp [hf]))) (Int.le_of_lt hx) hm2 (g f hf) c
theorem znZ (lo hi st sp:Int):∃ e1 e2 x1 x2,zfq lo hi st sp e1 e2 x1 x2/\0<e2/\0<x2:=by
 unfold zfq
 rcases Int.lt_trichotomy sp 0 with h | h | h
 ·exact⟨st-hi,-sp,st-lo,-sp,.inr (.inr (.inr ⟨h,rfl,rfl,rfl,rfl⟩)),by omega,by omega⟩
 ·by_cases g:lo<=st/\st<=hi
  ·exact⟨0,1,1,1,.inl ⟨h,g.1,g.2,rfl,rfl,rfl,rfl⟩,by omega,by omega⟩
  ·exact⟨1,1,0,1,.inr (.inl ⟨h,by omega,rfl,rfl,rfl,rfl⟩),by omega,by omega⟩
 ·exact⟨lo-st,sp,hi-st,sp,.inr (.inr (.inl ⟨h,rfl,rfl,rfl,rfl⟩)),h,h⟩
theorem znN {lo hi st sp e1 e2 x1 x2 p q:Int}(P:zfq lo hi st sp e1 e2 x1 x2)(hq:0<q)(h0:0<=p)(h1:p<=q)(h2:e1*q<=p*e2)(h3:p*x2<=x1*q):lo*q<=st*q+p*sp/\st*q+p*sp<=hi*q:=by
 rcases P with ⟨hu,g1,g2,rfl,rfl,rfl,rfl⟩ | ⟨hu,g1,rfl,rfl,rfl,rfl⟩ | ⟨hu,rfl,rfl,rfl,rfl⟩ | ⟨hu,rfl,rfl,rfl,rfl⟩
 ·subst hu
  have k1:=mulL (Int.le_of_lt hq) g1
  have k2:=mulL (Int.le_of_lt hq) g2
  rw [Int.mul_comm q,Int.mul_comm q] at k1 k2
  rw [Int.mul_zero];omega
 ·omega
 ·rw [Int.sub_mul] at h2 h3;omega
 ·rw [Int.sub_mul,Int.mul_neg] at h2 h3;omega
theorem zlS {lo hi st sp e1 e2 x1 x2 p q:Int}(P:zfq lo hi st sp e1 e2 x1 x2)(hq:0<q)(h0:0<=p)(h1:p<=q)(h2:lo*q<=st*q+p*sp)(h3:st*q+p*sp<=hi*q):e1*q<=p*e2/\p*x2<=x1*q:=by
 rcases P with ⟨hu,g1,g2,rfl,rfl,rfl,rfl⟩ | ⟨hu,g1,rfl,rfl,rfl,rfl⟩ | ⟨hu,rfl,rfl,rfl,rfl⟩ | ⟨hu,rfl,rfl,rfl,rfl⟩
 ·omega
 ·subst hu
  rw [Int.mul_zero,Int.add_zero,Int.mul_comm lo,Int.mul_comm st] at h2
  rw [Int.mul_zero,Int.add_zero,Int.mul_comm hi,Int.mul_comm st] at h3
  have k1:=zq8 hq h2
  have k2:=zq8 hq h3
  omega
 ·rw [Int.sub_mul,Int.sub_mul];omega
 ·rw [Int.sub_mul,Int.sub_mul,Int.mul_neg];omega
theorem zkv {L R B T x1 z1 x2 z2:Int}(hx:L<=R)(hz:B<=T):zeO L R B T x1 z1 x2 z2↔Hit L R B T x1 z1 x2 z2:=by
  obtain⟨a1,a2,a3,a4,pa,ha2,ha4⟩:=znZ L R x1 (x2-x1)
  obtain⟨u1,u2,u3,u4,pu,hu2,hu4⟩:=znZ B T z1 (z2-z1)
  rw [<- zfR hx hz pa pu]
  constructor
  . intro h
    obtain⟨⟨p,q⟩,he,mx⟩:=fmax (l:=[((0:Int),(1:Int)),(a1,a2),(u1,u2)]) (by simp) (by
      intro e he
      simp only [qf,qm,or_false] at he
      rcases he with rfl | rfl | rfl
      . exact Int.one_pos
      . exact ha2
      . exact hu2)
    have hq:0<q:=by
      simp only [qf,qm,or_false,Prod.mk.injEq] at he
      rcases he with he | he | he<;>omega
    have m0:=mx (0,1) (by simp)
    have m1:=mx (a1,a2) (by simp)
    have m2:=mx (u1,u2) (by simp)
    have n0:=h _ he (1,1) (by simp)
    have n1:=h _ he (a3,a4) (by simp)
    have n2:=h _ he (u3,u4) (by simp)
    dsimp only at m0 m1 m2 n0 n1 n2
    have h0:0<=p:=by omega
    have h1:p<=q:=by omega
    obtain⟨k1,k2⟩:=znN pa hq h0 h1 m1 n1
    obtain⟨k3,k4⟩:=znN pu hq h0 h1 m2 n2
    exact⟨p,q,hq,h0,h1,k1,k2,k3,k4⟩
  . rintro⟨p,q,hq,h0,h1,k1,k2,k3,k4⟩
    obtain⟨g1,g2⟩:=zlS pa hq h0 h1 k1 k2
    obtain⟨g3,g4⟩:=zlS pu hq h0 h1 k3 k4
    intro e he x hx
    have ee:0<e.2/\e.1*q<=p*e.2:=by
      simp only [qf,qm,or_false] at he
      rcases he with rfl | rfl | rfl
      . exact⟨Int.one_pos,by omega⟩
      . exact⟨ha2,g1⟩
      . exact⟨hu2,g3⟩
    have xx:0<x.2/\p*x.2<=x.1*q:=by
      simp only [qf,qm,or_false] at hx
      rcases hx with rfl | rfl | rfl
      . exact⟨Int.one_pos,by omega⟩
      . exact⟨ha4,g2⟩
      . exact⟨hu4,g4⟩
    exact ftr (Int.le_of_lt ee.1) (Int.le_of_lt xx.1) hq ee.2 xx.2
end Rm
namespace Dp
open PySem Rm My
structure Fg where
 x0:Int
 x1:Int
 z0:Int
 z1:Int
 f:Int
 l:Int
 g:Int
 s:Int
abbrev fgD (F:Fg):D:=.tup [.int F.x0,.int F.x1,.int F.z0,.int F.z1,.int F.f,.int F.l,.int F.g,.int F.s]
structure FgB (F:Fg):Prop where
 x:F.x0<=F.x1
 z:F.z0<=F.z1
 b0:Bd 600 F.x0
 b1:Bd 600 F.x1
 b2:Bd 600 F.z0
 b3:Bd 600 F.z1
 bg:Bd 200 F.g
 bs:Bd 200 F.s
def zbW (F:Fg)(px pz qx qz h:Int):Prop:=F.f<=h/\h<=F.l/\Hit (F.x0+F.g*(h-F.f)) (F.x1+F.g*(h-F.f)) (F.z0+F.s*(h-F.f)) (F.z1+F.s*(h-F.f)) px pz qx qz
def zsw (ms:List (Int×Int))(F:Fg)(px pz qx qz:Int):Prop:=zaA ms/\ms.length<=1/\∀ h,ms.any (inS h)=true↔zbW F px pz qx qz h
theorem zjY {fs:List Fg}{i:Nat}{d:D}(h:(fs.map fgD)[i]?=some d):∃ F,fs[i]?=some F/\d=fgD F:=by
 rw [qh] at h
 cases e:fs[i]? with
 | none=>rw [e] at h;cases h
 | some p=>rw [e] at h;cases h;exact⟨p,rfl,rfl⟩
theorem Bd.btw {n:Nat}{a b x:Int}(ha:Bd n a)(hb:Bd n b)(h1:a<=x)(h2:x<=b):Bd n x:=by
 unfold Bd at *;omega
theorem Bd.max2 {n:Nat}{a b:Int}(ha:Bd n a)(hb:Bd n b):Bd n (max a b):=by
 rcases Int.le_total a b with h | h
 ·rw [Int.max_eq_right h];exact hb
 ·rw [Int.max_eq_left h];exact ha
theorem Bd.min2 {n:Nat}{a b:Int}(ha:Bd n a)(hb:Bd n b):Bd n (min a b):=by
 rcases Int.le_total a b with h | h
 ·rw [Int.min_eq_left h];exact ha
 ·rw [Int.min_eq_right h];exact hb
theorem zqM {L R B T x1 z1 x2 z2 mx mn:Int}(bL:Bd 700 L)(bR:Bd 700 R)(bB:Bd 700 B)(bT:Bd 700 T)(b1:Bd 700 x1)(b2:Bd 700 z1)(b3:Bd 700 x2)(b4:Bd 700 z2)(m1:mx∈acr L R B T x1 z1 x2 z2)(n1:mn∈acr L R B T x1 z1 x2 z2) :
    ∀ v∈six L R B T x1 z1 x2 z2 mx mn,Bd 1500 v:=by
  have pr:∀ {u v w t:Int},Bd 701 u->Bd 701 v->Bd 701 w->Bd 701 t->Bd 1500 (u*v-w*t):=fun h1 h2 h3 h4=>(Bd.sub (n:=1402) (Bd.mul h1 h2) (Bd.mul h3 h4)).mono (by decide)
  have ba:∀ a∈acr L R B T x1 z1 x2 z2,Bd 1500 a:=by
    intro a ha
    unfold acr at ha
    simp only [qf,qm,or_false] at ha
    rcases ha with rfl | rfl | rfl | rfl<;>exact pr (Bd.sub (by assumption) (by assumption)) (Bd.sub (by assumption) (by assumption)) (Bd.sub (by assumption) (by assumption)) (Bd.sub (by assumption) (by assumption))
  intro v hv
  unfold six at hv
  simp only [qf,qm,or_false] at hv
  rcases hv with rfl | rfl | rfl | rfl | rfl | rfl
  . exact (Bd.sub (Bd.max2 b1 b3) bL).mono (by decide)
  . exact (Bd.sub bR (Bd.min2 b1 b3)).mono (by decide)
  . exact (Bd.sub (Bd.max2 b2 b4) bB).mono (by decide)
  . exact (Bd.sub bT (Bd.min2 b2 b4)).mono (by decide)
  . exact ba _ m1
  . exact (ba _ n1).neg
theorem zrV {ms:List (Int×Int)}{F:Fg}{px pz qx qz lo hi:Int}(B:FgB F)(ok:zaA ms)(one:ms.length<=1)(hany:∀ h,ms.any (inS h)=[(F.f+lo,F.f+hi)].any (inS h))
  (hk:∀ k,(lo<=k/\k<=hi)↔(0<=k/\k<=F.l-F.f/\zeO (F.x0+F.g*k) (F.x1+F.g*k) (F.z0+F.s*k) (F.z1+F.s*k) px pz qx qz)):zsw ms F px pz qx qz:=by
 refine⟨ok,one,fun h=>?_⟩
 rw [hany h]
 have:=hk (h-F.f)
 rw [zkv (by have:=B.x;omega) (by have:=B.z;omega)] at this
 simp only [List.any_cons,List.any_nil,Bool.or_false,zfD]
 unfold zbW
 constructor
 ·rintro⟨a,b⟩
  obtain⟨c1,c2,c3⟩:=this.mp ⟨by omega,by omega⟩
  exact⟨by omega,by omega,c3⟩
 ·rintro⟨a,b,c⟩
  obtain⟨d1,d2⟩:=this.mpr ⟨by omega,by omega,c⟩
  exact⟨by omega,by omega⟩
def flt (a b:Int×Int):Bool:=decide (a.1*b.2<b.1*a.2)
abbrev St2:=(Int×Int)×(Int×Int)
def rk (R:Int×Int->Int)(s:St2):Int×Int:=(R s.1,R s.2)
theorem zha {cs:List (Int×Int)}{k:Int}(h0:0<=k)(h:k<cs.length):∃ c,cs[k.toNat]?=some c/\atD (cs.map p2) k=some (p2 c):=by
 have hk:k.toNat<cs.length:=by omega
 refine⟨cs[k.toNat],qb hk,?_⟩
 have:=zbt (ds:=cs.map p2) (i:=k.toNat) (d:=p2 (cs[k.toNat])) (by rw [qh,qb hk];rfl)
 rwa [show ((k.toNat:Nat):Int)=k by omega] at this
def lenV (ms:List (Int×Int)):Int:=(ms.map fun m=>m.2-m.1).sum
def Sv (c:Int×Int)(t b:Int):Prop:=0<c.2/\c.1*b=t*c.2
def hvT (a b p:Int×Int):Int:=if 0<b.1-a.1 then a.2*(b.1-a.1)*p.2+(b.2-a.2)*(p.1-a.1*p.2) else -(a.2*(b.1-a.1)*p.2+(b.2-a.2)*(p.1-a.1*p.2))
def hvB (a b p:Int×Int):Int:=if 0<b.1-a.1 then (b.1-a.1)*p.2 else -((b.1-a.1)*p.2)
theorem znI {a b p:Int×Int}(h:b.1≠a.1)(hp:0<p.2):0<hvB a b p:=by
 unfold hvB
 split
 ·exact Int.mul_pos (by omega) hp
 ·have:=Int.mul_pos (show 0 < -(b.1-a.1) by omega) hp
  rw [Int.neg_mul] at this
  exact this
theorem zur {c d:Int×Int}{t b u e:Int}(hb:0<b)(he:0<e)(hc:Sv c t b)(hd:Sv d u e):flt c d=decide (t*e<u*b):=by
 obtain⟨c0,c1⟩:=hc
 obtain⟨d0,d1⟩:=hd
 unfold flt
 refine decide_eq_decide.mpr ?_
 have hbe:0<b*e:=Int.mul_pos hb he
 have hcd:0<c.2*d.2:=Int.mul_pos c0 d0
 rw [<- Int.mul_lt_mul_right hbe,<- Int.mul_lt_mul_right (b:=t*e) (c:=u*b) hcd]
 have e1:c.1*d.2*(b*e)=t*e*(c.2*d.2):=by
  have:c.1*d.2*(b*e)=c.1*b*(d.2*e):=by grind
  rw [this,c1];grind
 have e2:d.1*c.2*(b*e)=u*b*(c.2*d.2):=by
  have:d.1*c.2*(b*e)=d.1*e*(c.2*b):=by grind
  rw [this,d1];grind
 rw [e1,e2]
structure Grd (cs:List (Int×Int)):Prop where
 two:2<=cs.length
 most:cs.length<=40
 asc:cs.Pairwise fun a b=>a.1<b.1
 bd:∀ c∈cs,Bd 170 c.1/\Bd 190 c.2
def zi4 (cs:List (Int×Int)):Int:=(cs.getD 0 (0,0)).1
def zgO (cs:List (Int×Int)):Int:=(cs.getD (cs.length-1) (0,0)).1
def OnG (cs:List (Int×Int))(p:Int×Int):Prop:=zi4 cs*p.2<=p.1/\p.1<=zgO cs*p.2
def zhj:List (Int×Int)->Int×Int->Option ((Int×Int)×(Int×Int))
 | a::b::r,p=>if p.1<=b.1*p.2 then some (a,b) else zhj (b::r) p
 | _,_=>none
theorem seg_at:∀ {cs:List (Int×Int)} {p:Int×Int} {k:Nat} {a b:Int×Int},cs[k]?=some a->cs[k+1]?=some b->p.1<=b.1*p.2->(∀ j c,1<=j->j<=k->cs[j]?=some c->c.1*p.2<p.1)->zhj cs p=some (a,b)
 | [],p,k,a,b,h,_,_,_=>by simp at h
 | [x],p,0,a,b,_,h,_,_=>by simp at h
 | [x],p,k+1,a,b,h,_,_,_=>by simp at h
 | x::y::r,p,0,a,b,h1,h2,h3,_=>by
  simp at h1 h2
  subst h1 h2
  unfold zhj
  rw [if_pos h3]
 | x::y::r,p,k+1,a,b,h1,h2,h3,h4=>by
  have:=h4 1 y (by omega) (by omega) rfl
  unfold zhj
  rw [if_neg (by omega)]
  exact seg_at (by simpa using h1) (by simpa using h2) h3 fun j c j1 j2 hc=>h4 (j+1) c (by omega) (by omega) (by simpa using hc)
theorem zjE:∀ {cs:List (Int×Int)} {p:Int×Int},2<=cs.length->p.1<=zgO cs*p.2->∃ k a b,cs[k]?=some a/\cs[k+1]?=some b/\p.1<=b.1*p.2/\∀ j c,1<=j->j<=k->cs[j]?=some c->c.1*p.2<p.1
 | [],p,h,_=>by simp at h
 | [x],p,h,_=>by simp at h
 | [x,y],p,_,h=>⟨0,x,y,rfl,rfl,h,fun j c j1 j2=>by omega⟩
 | x::y::z::r,p,_,h=>by
  by_cases g:p.1<=y.1*p.2
  ·exact⟨0,x,y,rfl,rfl,g,fun j c j1 j2=>by omega⟩
  ·obtain⟨k,a,b,h1,h2,h3,h4⟩:=zjE (cs:=y::z::r) (p:=p) (by simp) h
   refine⟨k+1,a,b,by simpa using h1,by simpa using h2,h3,fun j c j1 j2 hc=>?_⟩
   cases j with
   | zero=>omega
   | succ j =>
    cases j with
    | zero=>simp at hc;subst hc;omega
    | succ j=>exact h4 (j+1) c (by omega) (by omega) (by simpa using hc)
theorem zdu {cs:List (Int×Int)}(g:Grd cs){i j:Nat}{a b:Int×Int}(hij:i<j)(ha:cs[i]?=some a)(hb:cs[j]?=some b):a.1<b.1:=by
 have h1:=zao ha
 have h2:=zao hb
 rw [qb h1] at ha
 rw [qb h2] at hb
 cases ha;cases hb
 exact qQ.mp g.asc i j h1 h2 hij
theorem zed {cs:List (Int×Int)}(g:Grd cs):∃ a,cs[0]?=some a/\zi4 cs=a.1:=by
 have:=g.two
 obtain⟨a,h⟩:∃ a,cs[0]?=some a:=⟨cs[0],qb (by omega)⟩
 exact⟨a,h,by unfold zi4;rw [qp,h];rfl⟩
theorem zjg {cs:List (Int×Int)}(g:Grd cs):∃ a,cs[cs.length-1]?=some a/\zgO cs=a.1:=by
 have:=g.two
 obtain⟨a,h⟩:∃ a,cs[cs.length-1]?=some a:=⟨cs[cs.length-1],qb (by omega)⟩
 exact⟨a,h,by unfold zgO;rw [qp,h];rfl⟩
def GAt (S:Sto)(g:D)(cs:List (Int×Int)):Prop:=∃ n l,g=.ref n/\S[n]?=some (.ins "Ground" [("corners",.ref l)])/\S[l]?=some (.lst (cs.map p2))
theorem GAt.old {S T:Sto}{g:D}{cs:List (Int×Int)}(h:GAt S g cs):GAt (S++T) g cs:=let ⟨n,l,e,h1,h2⟩:=h;⟨n,l,e,zay h1,zay h2⟩
theorem zxA {S:Sto}{P:D->Prop}{n l:Nat}(h:S[n]?=some (.ins "Ground" [("corners",.ref l)]))(q:P (.ref l)):∃ m c fs d,D.ref n=.ref m/\S[m]?=some (.ins c fs)/\fs.lookup ("corners":Str)=some d/\P d:=⟨n,_,_,_,rfl,h,by simp [qj],q⟩
def sdO (a b c:Int×Int):Int:=(c.2-a.2)*(b.1-a.1)-(c.1-a.1)*(b.2-a.2)
def sdI (a b c:Int×Int):Int:=if 0<(if b.1-a.1<0 then -sdO a b c else sdO a b c) then 1 else if (if b.1-a.1<0 then -sdO a b c else sdO a b c)<0 then -1 else 0
def Std (cs:List (Int×Int))(s:Int×Int):Prop:=Bd 180 s.1/\Bd 200 s.2/\OnG cs (s.1,1)/\∀ a b,zhj cs (s.1,1)=some (a,b)->hvT a b (s.1,1)<=s.2*hvB a b (s.1,1)
theorem zqS {cs:List (Int×Int)}(gr:Grd cs):∃ z,cs[cs.length-1]?=some z/\zgO cs=z.1/\atD (cs.map p2) (-1)=some (p2 z):=by
 have g1:=gr.two
 obtain⟨z,hz,ez⟩:=zjg gr
 refine⟨z,hz,ez,?_⟩
 have hne:cs≠[]:=fun e=>by rw [e] at g1;simp at g1
 have en:cs=cs.dropLast++[z]:=by
  have h2:=List.dropLast_concat_getLast hne
  have h3:cs.getLast hne=z:=by
   rw [List.getLast_eq_getElem]
   have hl':=zao hz
   rw [qb hl'] at hz
   cases hz;rfl
  rw [h3] at h2
  exact h2.symm
 rw [en,qr];exact zgQ
theorem zwd {cs:List (Int×Int)}(gr:Grd cs){c:Int×Int}(h:c∈cs):zi4 cs<=c.1/\c.1<=zgO cs:=by
 obtain⟨a,ha,ea⟩:=zed gr
 obtain⟨z,hz,ez⟩:=zjg gr
 obtain⟨i,hi,e⟩:=List.mem_iff_getElem.mp h
 have hc:cs[i]?=some c:=by rw [qb hi,e]
 rw [ea,ez]
 constructor
 ·cases i with
  | zero=>rw [ha] at hc;cases hc;exact Int.le_refl _
  | succ i=>exact Int.le_of_lt (zdu gr (by omega) ha hc)
 ·rcases qD i (cs.length-1) with g | g
  ·exact Int.le_of_lt (zdu gr g hc hz)
  ·have:i=cs.length-1:=by omega
   subst this
   rw [hz] at hc;cases hc;exact Int.le_refl _
structure Brk (cs:List (Int×Int))(p a b:Int×Int):Prop where
 ma:a∈cs
 mb:b∈cs
 lt:a.1<b.1
 lo:a.1*p.2<=p.1
 hi:p.1<=b.1*p.2
 no:∀ c∈cs,¬ (a.1<c.1/\c.1<b.1)
theorem znX {cs:List (Int×Int)}(gr:Grd cs){p:Int×Int}(on:OnG cs p):∃ a b,zhj cs p=some (a,b)/\Brk cs p a b:=by
 obtain⟨k,a,b,ha,hb,hle,hlt⟩:=zjE gr.two on.2
 refine⟨a,b,seg_at ha hb hle hlt,qd ha,qd hb,zdu gr (by omega) ha hb,?_,hle,fun c hc h=>?_⟩
 ·cases k with
  | zero =>
   obtain⟨f,hf,ef⟩:=zed gr
   rw [ha] at hf
   cases hf
   have:=on.1
   rw [ef] at this
   exact this
  | succ k=>exact Int.le_of_lt (hlt (k+1) a (by omega) (by omega) ha)
 ·obtain⟨j,hj⟩:=List.mem_iff_getElem?.mp hc
  rcases Nat.lt_trichotomy j k with g | g | g
  ·have:=zdu gr g hj ha;omega
  ·subst g;rw [ha] at hj;cases hj;omega
  ·rcases qD (k+1) j with g2 | g2
   ·have:=zdu gr g2 hb hj;omega
   ·have:j=k+1:=by omega
    subst this;rw [hb] at hj;cases hj;omega
theorem ziE {own:Nat}{fv:List Nat}{xs:List D}{ok:Sto->Prop}{g:DG}{tc:DT}{te:DE}{Z:Rho}{S:Sto}{Q:DK}(W:Nat->List D->Sto->Prop)(h0:W 0 [] S)(hok:∀ i ys S,W i ys S->ok S)(hbig:xs.length<=big)
  (step:∀ i d ys S,xs[i]?=some d->W i ys S->g d (zje own fv Z) S fun ρ2 S2=>tc ρ2 S2 fun b S3=>if b=true then te ρ2 S3 fun y S4=>W (i+1) (ys++[y]) S4 else W (i+1) ys S3)
  (fin:∀ ys S,W xs.length ys S->New Q S ys):zoC own fv g tc te Z Q ⟨xs,ok⟩ S:=⟨hbig,W,h0,hok,step,fin⟩
theorem zqx {s c d:Int×Int}(h:(0<d.1-s.1/\0<c.1-d.1)\/(d.1-s.1<0/\c.1-d.1<0)):0<sdI s c d↔(c.2-s.2)*((d.1-s.1).natAbs:Int)<(d.2-s.2)*((c.1-s.1).natAbs:Int):=by
 have e:(if c.1-s.1<0 then -sdO s c d else sdO s c d)=(d.2-s.2)*((c.1-s.1).natAbs:Int)-(c.2-s.2)*((d.1-s.1).natAbs:Int):=by
  rcases h with h | h
  ·rw [if_neg (by omega),show ((c.1-s.1).natAbs:Int)=c.1-s.1 by omega,show ((d.1-s.1).natAbs:Int)=d.1-s.1 by omega]
   unfold sdO;grind
  ·rw [if_pos (by omega),show ((c.1-s.1).natAbs:Int)=-(c.1-s.1) by omega,show ((d.1-s.1).natAbs:Int)=-(d.1-s.1) by omega]
   unfold sdO;grind
 unfold sdI
 rw [e]
 generalize (d.2-s.2)*((c.1-s.1).natAbs:Int)=x
 generalize (c.2-s.2)*((d.1-s.1).natAbs:Int)=y
 split
 ·exact⟨fun _=>by omega,fun _=>by decide⟩
 ·split
  ·exact⟨fun h=>by omega,fun h=>by omega⟩
  ·exact⟨fun h=>by omega,fun h=>by omega⟩
theorem ztz {a b d:Int×Int}(h:a.1≠b.1):sdI a b d=sdI b a d:=by
 have e:(if b.1-a.1<0 then -sdO a b d else sdO a b d)=(if a.1-b.1<0 then -sdO b a d else sdO b a d):=by
  by_cases z:b.1-a.1<0
  ·rw [if_pos z,if_neg (by omega)]
   unfold sdO;grind
  ·rw [if_neg z,if_pos (by omega)]
   unfold sdO;grind
 unfold sdI
 rw [e]
def zdS (cs:List (Int×Int))(s:Int×Int):Prop:=OnG cs (s.1,1)/\∀ a b,zhj cs (s.1,1)=some (a,b)->hvT a b (s.1,1)<=s.2*hvB a b (s.1,1)
def zeZ (t b:Int):Int:=-(-t/b)
theorem zt6 {t b:Int}(hb:0<b):t<=zeZ t b*b/\(zeZ t b-1)*b<t:=by
 unfold zeZ
 have h1:=Int.ediv_mul_le (-t) (b:=b) (by omega)
 have h2:=Int.lt_ediv_add_one_mul_self (-t) hb
 rw [Int.neg_mul,Int.sub_mul,Int.neg_mul,Int.one_mul]
 rw [Int.add_mul,Int.one_mul] at h2
 omega
theorem zt0 {t b z:Int}(hb:0<b):zeZ t b<=z↔t<=z*b:=by
 obtain⟨h1,h2⟩:=zt6 (t:=t) hb
 constructor
 ·intro h
  exact Int.le_trans h1 (Int.mul_le_mul_of_nonneg_right h (Int.le_of_lt hb))
 ·intro h
  rcases Int.lt_or_le z (zeZ t b) with g | g
  ·have:=Int.mul_le_mul_of_nonneg_right (show z<=zeZ t b-1 by omega) (Int.le_of_lt hb)
   omega
  ·exact g
theorem zn9 {cs:List (Int×Int)}(gr:Grd cs){p r:Int×Int}{xx:Int}(bk:Brk cs (xx,1) p r):0<hvB p r (xx,1)/\Bd 171 (hvB p r (xx,1))/\Bd 400 (hvT p r (xx,1))/\Bd 192 (zeZ (hvT p r (xx,1)) (hvB p r (xx,1))):=by
 have hpr:=bk.lt
 have hB:0<hvB p r (xx,1):=znI (by omega) (show (0:Int)<1 by decide)
 obtain⟨bp1,bp2⟩:=gr.bd p bk.ma
 obtain⟨br1,br2⟩:=gr.bd r bk.mb
 have h1':p.1<=xx:=by have:p.1*1<=xx:=bk.lo;omega
 have h2':xx<=r.1:=by have:xx<=r.1*1:=bk.hi;omega
 have bx:Bd 171 xx:=(Bd.btw (n:=170) bp1 br1 h1' h2').mono (by decide)
 have bT:Bd 400 (hvT p r (xx,1)):=by
  have r1:Bd 171 (r.1-p.1):=Bd.sub br1 bp1
  have r2:Bd 191 (r.2-p.2):=Bd.sub br2 bp2
  have m1:Bd 361 (p.2*(r.1-p.1)):=Bd.mul bp2 r1
  have m2:Bd 172 (xx-p.1):=Bd.sub bx (bp1.mono (by decide))
  have m3:Bd 363 ((r.2-p.2)*(xx-p.1)):=Bd.mul r2 m2
  unfold hvT
  rw [if_pos (by omega)]
  dsimp only
  rw [Int.mul_one,Int.mul_one]
  exact (Bd.add (n:=363) (m1.mono (by decide)) m3).mono (by decide)
 have bB:Bd 171 (hvB p r (xx,1)):=by
  unfold hvB
  rw [if_pos (by omega)]
  dsimp only
  rw [Int.mul_one]
  exact Bd.sub br1 bp1
 refine⟨hB,bB,bT,?_⟩
 have eT:hvT p r (xx,1)=p.2*(r.1-xx)+r.2*(xx-p.1):=by
  unfold hvT
  rw [if_pos (by omega)]
  dsimp only
  grind
 have eB:hvB p r (xx,1)=(r.1-xx)+(xx-p.1):=by
  unfold hvB
  rw [if_pos (by omega)]
  dsimp only
  omega
 have lo:-(2 ^ 190)*hvB p r (xx,1)<=hvT p r (xx,1):=by
  rw [eT,eB]
  have k1:=Int.mul_le_mul_of_nonneg_right (show -(2 ^ 190:Int)<=p.2 by unfold Bd at bp2;omega) (show 0<=r.1-xx by omega)
  have k2:=Int.mul_le_mul_of_nonneg_right (show -(2 ^ 190:Int)<=r.2 by unfold Bd at br2;omega) (show 0<=xx-p.1 by omega)
  rw [Int.mul_add]
  omega
 have hi:hvT p r (xx,1)<=2 ^ 190*hvB p r (xx,1):=by
  rw [eT,eB]
  have k1:=Int.mul_le_mul_of_nonneg_right (show p.2<=(2 ^ 190:Int) by unfold Bd at bp2;omega) (show 0<=r.1-xx by omega)
  have k2:=Int.mul_le_mul_of_nonneg_right (show r.2<=(2 ^ 190:Int) by unfold Bd at br2;omega) (show 0<=xx-p.1 by omega)
  rw [Int.mul_add]
  omega
 have d1:-(2 ^ 190)<=-hvT p r (xx,1)/hvB p r (xx,1):=(Int.le_ediv_iff_mul_le hB).mpr (by rw [Int.neg_mul];omega)
 have d2:-hvT p r (xx,1)/hvB p r (xx,1)<=2 ^ 190:=Int.ediv_le_of_le_mul hB (by
  have:=lo
  rw [Int.neg_mul] at this
  omega)
 unfold zeZ
 show _<2 ^ 192
 omega
def zdN (cs:List (Int×Int))(x:Int):Int:=match zhj cs (x,1) with
 | some (a,b)=>zeZ (hvT a b (x,1)) (hvB a b (x,1))
 | none=>0
theorem zq6 {cs:List (Int×Int)}(gr:Grd cs){s:Int×Int}(on:OnG cs (s.1,1)):zdS cs s↔zdN cs s.1<=s.2:=by
 obtain⟨a,b,seg,bk⟩:=znX gr on
 have hB:=(zn9 gr bk).1
 unfold zdN
 rw [seg]
 dsimp only
 rw [zt0 hB]
 constructor
 ·intro h;exact h.2 a b seg
 ·intro h
  refine⟨on,fun a' b' seg'=>?_⟩
  rw [seg] at seg';cases seg';exact h
theorem zq7 {cs:List (Int×Int)}(gr:Grd cs){x:Int}(on:OnG cs (x,1)):Bd 192 (zdN cs x):=by
 obtain⟨a,b,seg,bk⟩:=znX gr on
 unfold zdN
 rw [seg]
 exact (zn9 gr bk).2.2.2
theorem Std.of {cs:List (Int×Int)}{s:Int×Int}(b1:Bd 180 s.1)(b2:Bd 200 s.2)(h:zdS cs s):Std cs s:=⟨b1,b2,h.1,h.2⟩
def nbP (cs:List (Int×Int))(x y:Int)(k:Nat):Bool:=decide (min x y<(cs.getD k (0,0)).1)&&decide ((cs.getD k (0,0)).1<max x y)
def nbK (cs:List (Int×Int))(x y:Int)(n:Nat):List Int:=((List.range n).filter (nbP cs x y)).map fun k:Nat=>(k:Int)
theorem zw7 {cs:List (Int×Int)}{x y:Int}{i:Nat}(h:nbP cs x y i=true):(nbK cs x y (i+1)).map D.int=(nbK cs x y i).map D.int++[.int (i:Int)]:=by
 unfold nbK
 rw [List.range_succ,List.filter_append,List.filter_cons_of_pos h]
 simp
theorem zsp {cs:List (Int×Int)}{x y:Int}{i:Nat}(h:nbP cs x y i=false):nbK cs x y (i+1)=nbK cs x y i:=by
 unfold nbK
 rw [List.range_succ,List.filter_append,List.filter_cons_of_neg (by rw [h];exact qo)]
 simp
def zjd (cs:List (Int×Int))(a b:Int×Int)(k:Int):Bool:=decide (0<sdI a b (cs.getD k.toNat (0,0)))
def zdQ (cs:List (Int×Int))(a b:Int×Int):Option Int:=(nbK cs a.1 b.1 cs.length).find? (zjd cs a b)
theorem znM {p:Int->Bool}:∀ {ks:List Int} {i:Nat} {k:Int},ks[i]?=some k->(∀ x∈ks.take i,p x=false)->p k=true->ks.find? p=some k
 | [],i,k,h,_,_=>by simp at h
 | x::ks,0,k,h,_,hp=>by
  have e:x=k:=by simpa using h
  rw [List.find?_cons,e,hp]
 | x::ks,i+1,k,h,hn,hp=>by
  rw [List.find?_cons,hn x (by simp)]
  exact znM (by simpa using h) (fun y hy=>hn y (by rw [List.take_succ_cons];exact qs _ hy)) hp
theorem zsP {p:Int->Bool}{ks:List Int}(hn:∀ x∈ks,p x=false):ks.find? p=none:=List.find?_eq_none.mpr fun x hx=>by rw [hn x hx];exact qo
theorem zuG {cs:List (Int×Int)}{x y k:Int}{n:Nat}(h:k∈nbK cs x y n):0<=k/\k<n:=by
 unfold nbK at h
 obtain⟨j,hj,rfl⟩:=qI.mp h
 have:=List.mem_range.mp (List.mem_filter.mp hj).1
 omega
theorem zrg {cs:List (Int×Int)}{a b:Int×Int}:(zdQ cs a b).isNone=true↔∀ d∈cs,min a.1 b.1<d.1->d.1<max a.1 b.1->¬ 0<sdI a b d:=by
 unfold zdQ
 rw [Option.isNone_iff_eq_none,List.find?_eq_none]
 constructor
 ·intro h d hd d1 d2 hp
  obtain⟨j,hj⟩:=List.mem_iff_getElem?.mp hd
  have hl:=zao hj
  have eg:cs.getD j (0,0)=d:=by rw [qp,hj];rfl
  refine h (j:Int) ?_ ?_
  ·unfold nbK
   refine qI.mpr ⟨j,List.mem_filter.mpr ⟨List.mem_range.mpr hl,?_⟩,rfl⟩
   unfold nbP
   rw [eg,decide_eq_true d1,decide_eq_true d2];rfl
  ·unfold zjd
   rw [Int.toNat_natCast,eg];exact decide_eq_true hp
 ·intro h k hk
  unfold nbK at hk
  obtain⟨j,hj,rfl⟩:=qI.mp hk
  obtain⟨h1,h2⟩:=List.mem_filter.mp hj
  have hl:=List.mem_range.mp h1
  unfold nbP at h2
  rw [qA,decide_eq_true_eq,decide_eq_true_eq] at h2
  have eg:cs.getD j (0,0)=cs[j]:=by rw [qp,qb hl];rfl
  rw [eg] at h2
  unfold zjd
  rw [Int.toNat_natCast,eg,decide_eq_true_eq]
  exact h cs[j] (List.getElem_mem hl) h2.1 h2.2
theorem zlW {cs:List (Int×Int)}{a b:Int×Int}:zdQ cs a b=zdQ cs b a:=by
 by_cases h:a.1=b.1
 ·have e:∀ x:Int×Int,x.1=x.1->nbK cs a.1 b.1 cs.length=[]:=fun _ _=>by
   unfold nbK
   rw [List.filter_eq_nil_iff.mpr fun k _=>?_]
   ·rfl
   ·unfold nbP
    rw [h]
    simp only [qA,decide_eq_true_eq]
    omega
  have e1:=e a rfl
  have e2:nbK cs b.1 a.1 cs.length=[]:=by rw [h] at e1 ⊢;exact e1
  unfold zdQ
  rw [e1,e2];rfl
 ·have en:nbK cs a.1 b.1 cs.length=nbK cs b.1 a.1 cs.length:=by
   unfold nbK nbP
   rw [Int.min_comm,Int.max_comm]
  unfold zdQ
  rw [en]
  congr 1
  funext k
  unfold zjd
  rw [ztz h]
section
variable {g:Int}{p q r s d t u v:Int×Int}
end
section
variable {cs:List (Int×Int)}{a b:Int×Int}{rp:List (Int×Int)}
end
section
variable {w h t m:Int}{cs:List (Int×Int)}
end
abbrev bcD (b:Str×(Int×Int)):D:=.tup [.str b.1,.int b.2.1,.int b.2.2]
def abc:List Nat:=List.range' 97 26
theorem zuD:("abcdefghijklmnopqrstuvwxyz":Str).cps.toList=abc:=by decide +kernel
theorem ziw {c:Nat}:c∈abc↔97<=c/\c<=122:=by unfold abc;rw [List.mem_range'_1];omega
def nmB (z:Str):Bool:=decide (1<=z.length)&&(decide (z.length<=8)&&z.cps.toList.all fun c=>decide (c∈abc))
theorem zkz {z:Str}:nmB z=true↔1<=z.length/\z.length<=8/\∀ c∈z.cps.toList,c∈abc:=by
 unfold nmB
 rw [qA,qA,decide_eq_true_eq,decide_eq_true_eq,List.all_eq_true]
 simp only [decide_eq_true_eq]
theorem zfO {z:Str}(h:nmB z=true)(k:Nat):fl k (.str z)=true:=by
  have h3:=(zkz.mp h).2.2
  have:z.cps.all (· < 0x110000)=true:=by
    rw [Array.all_eq_true']
    intro x hx
    have:=ziw.mp (h3 x (Array.mem_toList_iff.mpr hx))
    simp;omega
  cases k<;>exact this
theorem zxn {b:Str×(Int×Int)}(h:nmB b.1=true):fl 20 (bcD b)=true:=by
 show (fl 19 (.str b.1)&&true)=true
 rw [Bool.and_true];exact zfO h 19
def nmW (a h c b t:Nat):Str:=⟨(List.replicate h a++c::List.replicate t b).toArray⟩
theorem zuc (a h c b t:Nat):(nmW a h c b t).length=h+1+t:=by
 show (List.replicate h a++c::List.replicate t b).toArray.size=_
 simp;omega
theorem zvd {a h c b t:Nat}(ha:a∈abc)(hb:b∈abc)(hc:c∈abc)(h3:h<=3)(h4:t<=4):nmB (nmW a h c b t)=true:=by
 rw [zkz,zuc]
 refine⟨by omega,by omega,fun x hx=>?_⟩
 have hx':x∈List.replicate h a++c::List.replicate t b:=by simpa [nmW] using hx
 rcases qu.mp hx' with z | z
 ·rw [List.eq_of_mem_replicate z];exact ha
 ·rcases qf.mp z with z | z
  ·rw [z];exact hc
  ·rw [List.eq_of_mem_replicate z];exact hb
theorem ztU {a h c d b t:Nat}(e:nmW a h c b t=nmW a h d b t):c=d:=by
 have:List.replicate h a++c::List.replicate t b=List.replicate h a++d::List.replicate t b:=by
  have:=congrArg (fun z:Str=>z.cps.toList) e
  simpa [nmW] using this
 have:=List.append_cancel_left this
 simpa using this
theorem zn3 (x y:List Nat):(⟨x.toArray⟩:Str)++(⟨y.toArray⟩:Str)=⟨(x++y).toArray⟩:=by
 show (⟨x.toArray++y.toArray⟩:Str)=_
 simp
theorem zmz (c:Nat)(n:Int)(h:0<=n):zpi ⟨#[c]⟩ n=⟨(List.replicate n.toNat c).toArray⟩:=by
  unfold zpi
  split
  . have:n.toNat=0:=by omega
    rw [this];rfl
  . split
    . rename_i g g2
      have:n=1:=by
        rcases Bool.or_eq_true .. |>.mp g2 with z | z
        . exact eq_of_beq z
        . exact absurd (show ((1:Nat)==0)=true from z) (by decide)
      subst this;rfl
    . have : ∀ (m : Nat) (acc : Array Nat), (List.replicate m #[c]).foldl (· ++ ·) acc = acc ++ (List.replicate m c).toArray := by
        intro m
        induction m with
        | zero=>intro acc;simp
        | succ m ih =>
          intro acc
          rw [List.replicate_succ,List.foldl_cons,ih,List.replicate_succ]
          apply Array.toList_inj.mp
          simp
      show (⟨(List.replicate n.toNat #[c]).foldl (·++·) #[]⟩:Str)=_
      rw [this];simp
structure Vl where
 cs:List (Int×Int)
 bs:List (Str×(Int×Int))
 fs:List Fg
 hz:Option Int
 h0:Int
 h1:Int
 dl:Int
structure FgV (F:Fg):Prop where
 b:FgB F
 o:F.f<=F.l
 f:Bd 300 F.f
 l:Bd 300 F.l
structure zcM (V:Vl):Prop where
 gr:Grd V.cs
 b1:1<=V.bs.length
 b12:V.bs.length<=12
 nm:∀ b∈V.bs,nmB b.1=true
 nd:(V.bs.map (·.1)).Nodup
 st:∀ b∈V.bs,zdS V.cs b.2
 bd:∀ b∈V.bs,Bd 180 b.2.1/\Bd 200 b.2.2
 f12:V.fs.length<=12
 fg:∀ F∈V.fs,FgV F
 hz:∀ z,V.hz=some z->0<=z
 hh:V.h0<=V.h1
 b0:Bd 250 V.h0
 bl:Bd 250 V.h1
 dl:0<=V.dl
abbrev vF (g b f h a l d:D):List (Str×D):=[("ground",g),("beacons",b),("fogs",f),("haze",h),("first",a),("last",l),("delay",d)]
def VAt (S:Sto)(v:D)(V:Vl):Prop:=∃ n g b f,v=.ref n/\S[n]?=some (.ins "Valley" (vF (.ref g) (.ref b) (.ref f) (zbd V.hz) (.int V.h0) (.int V.h1) (.int V.dl)))/\GAt S (.ref g) V.cs/\S[b]?=some (.lst (V.bs.map bcD))/\S[f]?=some (.lst (V.fs.map fgD))
theorem VAt.old {S T:Sto}{v:D}{V:Vl}(h:VAt S v V):VAt (S++T) v V:=let ⟨n,g,b,f,e,h1,h2,h3,h4⟩:=h;⟨n,g,b,f,e,zay h1,h2.old,zay h3,zay h4⟩
section
variable {S:Sto}{P:D->Prop}{n:Nat}{g b f h a l d:D}
theorem zrE (k:S[n]?=some (.ins "Valley" (vF g b f h a l d)))(q:P g):∃ m c fs x,D.ref n=.ref m/\S[m]?=some (.ins c fs)/\fs.lookup ("ground":Str)=some x/\P x:=⟨n,_,_,g,rfl,k,by simp [qj],q⟩
theorem zpO (k:S[n]?=some (.ins "Valley" (vF g b f h a l d)))(q:P b):∃ m c fs x,D.ref n=.ref m/\S[m]?=some (.ins c fs)/\fs.lookup ("beacons":Str)=some x/\P x:=⟨n,_,_,b,rfl,k,by rw [qj,show ((("beacons":Str)=="ground")=false) by decide +kernel];simp [qj],q⟩
theorem zu7 (k:S[n]?=some (.ins "Valley" (vF g b f h a l d)))(q:P f):∃ m c fs x,D.ref n=.ref m/\S[m]?=some (.ins c fs)/\fs.lookup ("fogs":Str)=some x/\P x:=⟨n,_,_,f,rfl,k,by rw [qj,show ((("fogs":Str)=="ground")=false) by decide +kernel];dsimp only;rw [qj,show ((("fogs":Str)=="beacons")=false) by decide +kernel];simp [qj],q⟩
theorem zvE (k:S[n]?=some (.ins "Valley" (vF g b f h a l d)))(q:P h):∃ m c fs x,D.ref n=.ref m/\S[m]?=some (.ins c fs)/\fs.lookup ("haze":Str)=some x/\P x:=⟨n,_,_,h,rfl,k,by rw [qj,show ((("haze":Str)=="ground")=false) by decide +kernel];dsimp only;rw [qj,show ((("haze":Str)=="beacons")=false) by decide +kernel];dsimp only;rw [qj,show ((("haze":Str)=="fogs")=false) by decide +kernel];simp [qj],q⟩
theorem ztg (k:S[n]?=some (.ins "Valley" (vF g b f h a l d)))(q:P a):∃ m c fs x,D.ref n=.ref m/\S[m]?=some (.ins c fs)/\fs.lookup ("first":Str)=some x/\P x:=⟨n,_,_,a,rfl,k,by rw [qj,show ((("first":Str)=="ground")=false) by decide +kernel];dsimp only;rw [qj,show ((("first":Str)=="beacons")=false) by decide +kernel];dsimp only;rw [qj,show ((("first":Str)=="fogs")=false) by decide +kernel];dsimp only;rw [qj,show ((("first":Str)=="haze")=false) by decide +kernel];simp [qj],q⟩
theorem zva (k:S[n]?=some (.ins "Valley" (vF g b f h a l d)))(q:P l):∃ m c fs x,D.ref n=.ref m/\S[m]?=some (.ins c fs)/\fs.lookup ("last":Str)=some x/\P x:=⟨n,_,_,l,rfl,k,by rw [qj,show ((("last":Str)=="ground")=false) by decide +kernel];dsimp only;rw [qj,show ((("last":Str)=="beacons")=false) by decide +kernel];dsimp only;rw [qj,show ((("last":Str)=="fogs")=false) by decide +kernel];dsimp only;rw [qj,show ((("last":Str)=="haze")=false) by decide +kernel];dsimp only;rw [qj,show ((("last":Str)=="first")=false) by decide +kernel];simp [qj],q⟩
theorem ztp (k:S[n]?=some (.ins "Valley" (vF g b f h a l d)))(q:P d):∃ m c fs x,D.ref n=.ref m/\S[m]?=some (.ins c fs)/\fs.lookup ("delay":Str)=some x/\P x:=⟨n,_,_,d,rfl,k,by rw [qj,show ((("delay":Str)=="ground")=false) by decide +kernel];dsimp only;rw [qj,show ((("delay":Str)=="beacons")=false) by decide +kernel];dsimp only;rw [qj,show ((("delay":Str)=="fogs")=false) by decide +kernel];dsimp only;rw [qj,show ((("delay":Str)=="haze")=false) by decide +kernel];dsimp only;rw [qj,show ((("delay":Str)=="first")=false) by decide +kernel];dsimp only;rw [qj,show ((("delay":Str)=="last")=false) by decide +kernel];simp [qj],q⟩
end
theorem zjD {bs:List (Str×(Int×Int))}{i:Nat}{d:D}(h:(bs.map bcD)[i]?=some d):∃ b,bs[i]?=some b/\d=bcD b:=by
 rw [qh] at h
 cases e:bs[i]? with
 | none=>rw [e] at h;cases h
 | some p=>rw [e] at h;cases h;exact⟨p,rfl,rfl⟩
theorem zjH {bs:List (Str×(Int×Int))}{k:Int}(h0:0<=k)(h:k<bs.length):∃ b,bs[k.toNat]?=some b/\atD (bs.map bcD) k=some (bcD b):=by
 have e:bs[k.toNat]?=some (bs[k.toNat]'(by omega)):=qb (by omega)
 refine⟨_,e,?_⟩
 have:=zbt (ds:=bs.map bcD) (i:=k.toNat) (by rw [qh,e];rfl)
 rwa [show ((k.toNat:Nat):Int)=k by omega] at this
def zoX (f:Str×(Int×Int)->D):D->D
 | .tup [.str z,.int a,.int b]=>f (z,a,b)
 | d=>d
theorem zjn (f:Str×(Int×Int)->D)(bs:List (Str×(Int×Int))):(bs.map bcD).map (zoX f)=bs.map f:=by rw [qM];rfl
def sqr (a b:Int×Int):Int:=(b.1-a.1)*(b.1-a.1)+(b.2-a.2)*(b.2-a.2)
theorem zr6 (a b:Int×Int):sqr a b=sqr b a:=by unfold sqr;grind
def hzy (z:Option Int)(q:Int):Bool:=match z with
 | some z=>decide (z<q)
 | none=>false
def ziq (V:Vl)(a b:Int×Int):D:=match zdQ V.cs a b with
 | some k=>.tup [.str "ground",.int k]
 | none=>if hzy V.hz (sqr a b)=true then .tup [.str "haze",.int (sqr a b)] else .non
def Alw (V:Vl)(a b:Int×Int):Prop:=zdQ V.cs a b=none/\hzy V.hz (sqr a b)=false
theorem zk7 {V:Vl}{a b:Int×Int}:ziq V a b=.non↔Alw V a b:=by
 unfold ziq Alw
 cases zdQ V.cs a b with
 | some k=>simp
 | none =>
  cases h:hzy V.hz (sqr a b) with
  | true=>simp
  | false=>simp
def ziZ (V:Vl)(a b:Int×Int)(h:Int):Prop:=Alw V a b/\¬ ∃ F∈V.fs,zbW F a.1 a.2 b.1 b.2 h
structure zsF (V:Vl)(n m:Str)(s t:Int×Int)(ms:List (Int×Int)):Prop where
 ok:zaA ms
 iff:∀ h,ms.any (inS h)=true↔V.h0<=h/\h<=V.h1/\(n=m\/ziZ V s t h)
 len:ms.length<=14
theorem zp9 {V:Vl}(ok:zcM V){b c:Str×(Int×Int)}(hb:b∈V.bs)(hc:c∈V.bs)(e:b.1=c.1):b=c:=by
 obtain⟨i,hi,rfl⟩:=List.mem_iff_getElem.mp hb
 obtain⟨j,hj,rfl⟩:=List.mem_iff_getElem.mp hc
 have nd:=qQ.mp ok.nd
 rcases Nat.lt_trichotomy i j with h | h | h
 ·exact absurd (by rw [List.getElem_map,List.getElem_map];exact e) (nd i j (by simpa using hi) (by simpa using hj) h)
 ·subst h;rfl
 ·exact absurd (by rw [List.getElem_map,List.getElem_map];exact e.symm) (nd j i (by simpa using hj) (by simpa using hi) h)
theorem zlG {V:Vl}(ok:zcM V){i j:Nat}{b c:Str×(Int×Int)}(hb:V.bs[i]?=some b)(hc:V.bs[j]?=some c):b.1=c.1↔i=j:=by
 have li:=zao hb
 have lj:=zao hc
 rw [qb li] at hb
 rw [qb lj] at hc
 cases hb;cases hc
 have nd:=qQ.mp ok.nd
 constructor
 ·intro e
  rcases Nat.lt_trichotomy i j with h | h | h
  ·exact absurd (by rw [List.getElem_map,List.getElem_map];exact e) (nd i j (by simpa using li) (by simpa using lj) h)
  ·exact h
  ·exact absurd (by rw [List.getElem_map,List.getElem_map];exact e.symm) (nd j i (by simpa using lj) (by simpa using li) h)
 ·rintro rfl;rfl
theorem zcG {S A B X:Sto}(h:∃ T,A=S++T)(e:B=A++X):∃ T,B=S++T:=let ⟨T,h⟩:=h;⟨T++X,by rw [e,h,qF]⟩
theorem zrU {f:Str}{v:D}:putD f v []=[(f,v)]:=rfl
theorem zaM {f g:Str}{v x:D}{r:List (Str×D)}(h:g≠f):putD f v ((g,x)::r)=(g,x)::putD f v r:=by
 show (if g=f then _ else _)=_
 rw [if_neg h]
section
variable {g b f h a l d:D}
theorem vp2:putD "beacons" b ([("ground",g)]:List (Str×D))=([("ground",g),("beacons",b)]:List (Str×D)):=by rw [zaM (by decide +kernel)];rfl
theorem vp3:putD "fogs" f ([("ground",g),("beacons",b)]:List (Str×D))=([("ground",g),("beacons",b),("fogs",f)]:List (Str×D)):=by rw [zaM (by decide +kernel),zaM (by decide +kernel)];rfl
theorem vp4:putD "haze" h ([("ground",g),("beacons",b),("fogs",f)]:List (Str×D))=([("ground",g),("beacons",b),("fogs",f),("haze",h)]:List (Str×D)):=by rw [zaM (by decide +kernel),zaM (by decide +kernel),zaM (by decide +kernel)];rfl
theorem vp5:putD "first" a ([("ground",g),("beacons",b),("fogs",f),("haze",h)]:List (Str×D))=([("ground",g),("beacons",b),("fogs",f),("haze",h),("first",a)]:List (Str×D)):=by rw [zaM (by decide +kernel),zaM (by decide +kernel),zaM (by decide +kernel),zaM (by decide +kernel)];rfl
theorem vp6:putD "last" l ([("ground",g),("beacons",b),("fogs",f),("haze",h),("first",a)]:List (Str×D))=([("ground",g),("beacons",b),("fogs",f),("haze",h),("first",a),("last",l)]:List (Str×D)):=by rw [zaM (by decide +kernel),zaM (by decide +kernel),zaM (by decide +kernel),zaM (by decide +kernel),zaM (by decide +kernel)];rfl
theorem vp7:putD "delay" d ([("ground",g),("beacons",b),("fogs",f),("haze",h),("first",a),("last",l)]:List (Str×D))=vF g b f h a l d:=by rw [zaM (by decide +kernel),zaM (by decide +kernel),zaM (by decide +kernel),zaM (by decide +kernel),zaM (by decide +kernel),zaM (by decide +kernel)];rfl
end
def zlL (lo hi st sp e1 e2 x1 x2:Int):Prop:=zfq lo hi st sp e1 e2 x1 x2\/(sp=0/\(st<lo\/hi<st)/\e1=2/\e2=1/\x1=0/\x2=1)
theorem zwC {L R B T x1 z1 x2 z2 ea1 ea2 xa1 xa2 eu1 eu2 xu1 xu2:Int}(hx:L<=R)(hz:B<=T)(pa:zlL L R x1 (x2-x1) ea1 ea2 xa1 xa2)(pu:zlL B T z1 (z2-z1) eu1 eu2 xu1 xu2):ziB ea1 ea2 xa1 xa2 eu1 eu2 xu1 xu2↔Hit L R B T x1 z1 x2 z2:=by
 have off:∀ {lo hi st sp e1 e2 x1 x2:Int},(sp=0/\(st<lo\/hi<st)/\e1=2/\e2=1/\x1=0/\x2=1)->zfq lo hi st sp 1 1 0 1:=fun h=>.inr (.inl ⟨h.1,h.2.1,rfl,rfl,rfl,rfl⟩)
 rw [<- zkv hx hz]
 rcases pa with pa | pa
 ·rcases pu with pu | pu
  ·exact zfR hx hz pa pu
  ·rw [<- zfR hx hz pa (off pu)]
   obtain⟨_,_,rfl,rfl,rfl,rfl⟩:=pu
   rw [zcY,zcY]
   omega
 ·rcases pu with pu | pu
  ·rw [<- zfR hx hz (off pa) pu]
   obtain⟨_,_,rfl,rfl,rfl,rfl⟩:=pa
   rw [zcY,zcY]
   omega
  ·rw [<- zfR hx hz (off pa) (off pu)]
   obtain⟨_,_,rfl,rfl,rfl,rfl⟩:=pa
   obtain⟨_,_,rfl,rfl,rfl,rfl⟩:=pu
   rw [zcY,zcY]
   omega
theorem zlZ {n:Nat}{lo hi st sp e1 e2 x1 x2:Int}(h:zlL lo hi st sp e1 e2 x1 x2)(hn:200<=n)(b1:Bd n lo)(b2:Bd n hi)(b3:Bd n st)(b4:Bd (n+1) sp):Bd (n+1) e1/\Bd (n+1) e2/\Bd (n+1) x1/\Bd (n+1) x2:=by
 have l:∀ c:Int,0<=c->c<=2->Bd (n+1) c:=fun c h0 h1=>by
  have:Bd 2 c:=by show _<2 ^ 2;omega
  exact this.mono (by omega)
 rcases h with (⟨_,_,_,rfl,rfl,rfl,rfl⟩ | ⟨_,_,rfl,rfl,rfl,rfl⟩ | ⟨_,rfl,rfl,rfl,rfl⟩ | ⟨_,rfl,rfl,rfl,rfl⟩) | ⟨_,_,rfl,rfl,rfl,rfl⟩
 ·exact⟨l _ (by decide) (by decide),l _ (by decide) (by decide),l _ (by decide) (by decide),l _ (by decide) (by decide)⟩
 ·exact⟨l _ (by decide) (by decide),l _ (by decide) (by decide),l _ (by decide) (by decide),l _ (by decide) (by decide)⟩
 ·exact⟨Bd.sub b1 b3,b4,Bd.sub b2 b3,b4⟩
 ·exact⟨Bd.sub b3 b2,b4.neg,Bd.sub b3 b1,b4.neg⟩
 ·exact⟨l _ (by decide) (by decide),l _ (by decide) (by decide),l _ (by decide) (by decide),l _ (by decide) (by decide)⟩
def onF:D->D
 | .tup [a,_]=>a
 | d=>d
def onL:D->D
 | .tup [_,b]=>b
 | d=>d
theorem zaE (z:Int):zbd (some z)=.int z:=rfl
theorem za6:zbd none=.non:=rfl
theorem zqZ {L R B T x1 z1 x2 z2:Int}:Hit L R B T x2 z2 x1 z1↔Hit L R B T x1 z1 x2 z2:=by
 have one:∀ {x1 z1 x2 z2:Int},Hit L R B T x1 z1 x2 z2->Hit L R B T x2 z2 x1 z1:=fun {x1 z1 x2 z2} ⟨p,q,h1,h2,h3,h4,h5,h6,h7⟩=>by
  have e1:x2*q+(q-p)*(x1-x2)=x1*q+p*(x2-x1):=by grind
  have e2:z2*q+(q-p)*(z1-z2)=z1*q+p*(z2-z1):=by grind
  exact⟨q-p,q,h1,by omega,by omega,by rw [e1];exact h4,by rw [e1];exact h5,by rw [e2];exact h6,by rw [e2];exact h7⟩
 exact⟨one,one⟩
theorem zpc {F:Fg}{a b:Int×Int}{h:Int}:zbW F b.1 b.2 a.1 a.2 h↔zbW F a.1 a.2 b.1 b.2 h:=by
 unfold zbW
 rw [zqZ]
theorem zpM {V:Vl}{a b:Int×Int}{h:Int}:ziZ V b a h↔ziZ V a b h:=by
 unfold ziZ Alw
 rw [zlW,zr6 b a]
 simp only [zpc]
theorem zti {α β:Type}(f:α->β)(xs ys:List α):xs.map f++ys.map f=(xs++ys).map f:=qr.symm
theorem zn7 (n:Str):∀ zs:List Str,((zs.map D.str).any fun z=>eqv z (.str n))=decide (n∈zs)
 | []=>by simp
 | z::zs=>by
  rw [List.map_cons,List.any_cons,zn7 n zs]
  show ((z==n)||decide (n∈zs))=decide (n∈z::zs)
  rw [Bool.eq_iff_iff,Bool.or_eq_true,beq_iff_eq,decide_eq_true_eq,decide_eq_true_eq,qf]
  exact⟨fun h=>h.imp (·.symm) id,fun h=>h.imp (·.symm) id⟩
theorem zn1 {zs:List Str}(h:∀ z∈zs,fl 20 (.str z)=true):(zs.map D.str).all (fl 20)=true:=by
 rw [List.all_map,List.all_eq_true];exact h
theorem zqR {S:Sto}{Q:DK}{x:D}{zs:List Str}{n:Str}(hx:zeQ S x (zs.map D.str))(hn:fl 20 (.str n)=true)(h:∀ z∈zs,fl 20 (.str z)=true)(q:Q (.bl (!decide (n∈zs))) S):zl3 (.str n) x S Q:=.inl ⟨_,⟨_,hx,hn,zn1 h,rfl⟩,by rw [zn7];exact q⟩
theorem zcM.flN {V:Vl}(ok:zcM V):∀ z∈V.bs.map (·.1),fl 20 (.str z)=true:=fun z hz=>by
 obtain⟨b,hb,rfl⟩:=qI.mp hz
 exact zfO (ok.nm b hb) 20
mutual
theorem eqv_refl:∀ (k:Nat) (d:D),fl k d=true->eqv d d=true
  | _,.non,_=>rfl
  | _,.bl b,_=>by show (b==b)=true;simp
  | _,.int i,_=>by show decide (i=i)=true;simp
  | _,.str x,_=>by show (x==x)=true;simp
  | 0,.tup _,h=>by cases h
  | k+1,.tup xs,h=>eqvAll_refl k xs h
  | k,.ref _,h=>by cases k<;>cases h
  | k,.ty _,h=>by cases k<;>cases h
  | k,.rl _,h=>by cases k<;>cases h
  | k,.exn _,h=>by cases k<;>cases h
theorem eqvAll_refl:∀ (k:Nat) (xs:List D),xs.all (fl k)=true->eqvAll xs xs=true
  | _,[],_=>rfl
  | k,x::xs,h=>by
    rw [List.all_cons,qA] at h
    show (eqv x x&&eqvAll xs xs)=true
    rw [eqv_refl k x h.1,eqvAll_refl k xs h.2];rfl
end
theorem zrs {S:Sto}{Q:DK}{x y:D}{xs:List D}(hx:Lst S x xs)(hy:Lst S y xs)(f:xs.all (fl 20)=true)(q:Q (.bl false) S):oNe x y S Q:=zwM hx hy f f (eqvAll_refl 20 xs f) q
theorem zsb {S:Sto}{Q:DK}{x:D}(f:fl 20 x=true)(q:Q (.bl false) S):oNe x x S Q:=⟨true,.inl ⟨f,f,(eqv_refl 20 x f).symm⟩,q⟩
theorem zv8 {P:Sto->Prop}(S':Sto){S:Sto}(e:S=S')(h:∀ S3,S3=S'->P S3):P S:=h S e
theorem zka {S T:Sto}{n:Nat}{c:Cell}(h:S.length<=n):(S++T).set n c=S++T.set (n-S.length) c:=List.set_append_right _ _ h
def onS (p:Str->D):D->D
 | .str z=>p z
 | d=>d
theorem zsT {zs:List Str}{i:Nat}{d:D}(h:(zs.map D.str)[i]?=some d):∃ z,zs[i]?=some z/\d=.str z:=by
 rw [qh] at h
 cases e:zs[i]? with
 | none=>rw [e] at h;cases h
 | some p=>rw [e] at h;cases h;exact⟨p,rfl,rfl⟩
theorem ztK (f:Str->D)(zs:List Str):(zs.map D.str).map (onS f)=zs.map f:=by rw [qM];rfl
theorem zqd {S:Sto}{Q:DK}{x y:Str}(fx:fl 20 (.str x)=true)(fy:fl 20 (.str y)=true)(q:Q (.bl (decide (x=y))) S):oEq (.str x) (.str y) S Q:=ztH fx fy (by
 by_cases h:x=y
 ·subst h;rw [decide_eq_true rfl];exact beq_self_eq_true x
 ·rw [decide_eq_false h];exact beq_eq_false_iff_ne.mpr h) q
open Classical in
abbrev vlD (x y z:D)(V:Vl):D:=.tup [x,y,z,zbd V.hz,.int V.h0,.int V.h1,.int V.dl]
def VlS (S:Sto)(x y z:D)(V:Vl):Prop:=Lst S x (V.cs.map p2)/\Lst S y (V.bs.map bcD)/\Lst S z (V.fs.map fgD)
theorem VlS.old {S T:Sto}{x y z:D}{V:Vl}(h:VlS S x y z V):VlS (S++T) x y z V:=⟨h.1.old,h.2.1.old,h.2.2.old⟩
def onC (p:Nat->Bool):D->D
 | .str z=>.bl (p (z.cps.toList.headD 0))
 | d=>d
theorem zqH {z:Str}{i:Nat}{d:D}(h:(signs z)[i]?=some d):∃ c,z.cps.toList[i]?=some c/\d=.str ⟨#[c]⟩:=by
 unfold signs at h
 rw [qh] at h
 cases e:z.cps.toList[i]? with
 | none=>rw [e] at h;cases h
 | some p=>rw [e] at h;cases h;exact⟨p,rfl,rfl⟩
theorem zpN (p:Nat->Bool)(z:Str):(signs z).map (onC p)=(z.cps.toList.map p).map D.bl:=by
 unfold signs
 rw [qM,qM];rfl
theorem zpv (z:Str):(signs z).length=z.length:=by
 unfold signs
 rw [qa];exact qG
section
variable {see:Nat->Nat->Int->Prop}{dl:Int}{s:Nat}{h0:Int}
inductive Lt (see:Nat->Nat->Int->Prop)(dl:Int)(s:Nat)(h0:Int):Nat->Int->Prop
 | base:Lt see dl s h0 s h0
 | step {k j:Nat} {h u:Int}:Lt see dl s h0 k h->h<=u->see k j u->Lt see dl s h0 j (u+dl)
inductive Lp (see:Nat->Nat->Int->Prop)(dl:Int)(s:Nat)(h0:Int):List Nat->Nat->Int->Prop
 | base:Lp see dl s h0 [s] s h0
 | step {vs:List Nat} {k j:Nat} {h u:Int}:Lp see dl s h0 vs k h->h<=u->see k j u->j∉vs->Lp see dl s h0 (j::vs) j (u+dl)
theorem Lp.nodup {vs:List Nat}{j:Nat}{h:Int}(w:Lp see dl s h0 vs j h):vs.Nodup:=by
 induction w with
 | base=>simp
 | step _ _ _ hn ih=>exact List.nodup_cons.mpr ⟨hn,ih⟩
theorem Lp.lt_n {n:Nat}(hs:s<n)(hn:∀ k j u,see k j u->j<n){vs:List Nat}{j:Nat}{h:Int}(w:Lp see dl s h0 vs j h):∀ x∈vs,x<n:=by
 induction w with
 | base =>
  intro x hx
  have:x=s:=by simpa using hx
  omega
 | step _ _ hse _ ih =>
  intro x hx
  rcases qf.mp hx with rfl | hx
  ·exact hn _ _ _ hse
  ·exact ih x hx
theorem Lp.mem (hd:0<=dl){vs:List Nat}{k:Nat}{h:Int}(w:Lp see dl s h0 vs k h):∀ x∈vs,∃ vs' hx,Lp see dl s h0 vs' x hx/\hx<=h:=by
 induction w with
 | base =>
  intro x hx
  have e:x=s:=by simpa using hx
  subst e;exact⟨_,_,.base,Int.le_refl _⟩
 | step w hu hs hn ih =>
  intro x hx
  rcases qf.mp hx with rfl | hx
  ·exact⟨_,_,.step w hu hs hn,Int.le_refl _⟩
  ·obtain⟨vs',hx',w',le⟩:=ih x hx
   exact⟨vs',hx',w',by omega⟩
theorem Lt.path (hd:0<=dl){j:Nat}{h:Int}(w:Lt see dl s h0 j h):∃ vs h',Lp see dl s h0 vs j h'/\h'<=h:=by
 induction w with
 | base=>exact⟨_,_,.base,Int.le_refl _⟩
 | @step k j h u _ hu hs ih =>
  obtain⟨vs,h',w',le⟩:=ih
  by_cases hm:j∈vs
  ·obtain⟨vs2,h2,w2,le2⟩:=w'.mem hd j hm
   exact⟨vs2,h2,w2,by omega⟩
  ·exact⟨_,_,.step w' (by omega) hs hm,Int.le_refl _⟩
theorem zrI:∀ {n:Nat} {vs:List Nat},vs.Nodup->(∀ x∈vs,x<n)->vs.length<=n:=by
 intro n vs nd h
 have:∀ {F N:List Nat},F.Nodup->(∀ x∈F,x∈N)->F.length<=N.length:=fun {F N}=>by
  induction F generalizing N with
  | nil=>intro _ _;exact qJ _
  | cons x F ih =>
   intro nd h
   obtain⟨n1,n2⟩:=List.nodup_cons.mp nd
   have hx:=h x (by simp)
   have:=ih (N:=N.erase x) n2 fun y hy=>(List.mem_erase_of_ne (fun e:y=x=>n1 (e▸hy))).mpr (h y (qs _ hy))
   rw [List.length_erase_of_mem hx] at this
   have:=List.length_pos_of_mem hx
   rw [List.length_cons];omega
 have:=this (N:=List.range n) nd fun x hx=>List.mem_range.mpr (h x hx)
 rwa [List.length_range] at this
structure Ear (see:Nat->Nat->Int->Prop)(dl:Int)(s:Nat)(h0:Int)(f:Nat->Option Int):Prop where
 snd:∀ j h,f j=some h->Lt see dl s h0 j h
 lst:∀ j h,Lt see dl s h0 j h->∃ h',f j=some h'/\h'<=h
structure Rnd (see:Nat->Nat->Int->Prop)(dl:Int)(s:Nat)(h0:Int)(n r:Nat)(lit:List (Option Int)):Prop where
 len:lit.length=n
 snd:∀ (j:Nat) h,lit[j]?=some (some h)->Lt see dl s h0 j h
 prg:∀ vs j h,Lp see dl s h0 vs j h->vs.length<=r+1->∃ h',lit[j]?=some (some h')/\h'<=h
structure Swp (see:Nat->Nat->Int->Prop)(dl:Int)(s:Nat)(h0:Int)(n r:Nat)(D:Nat->Nat->Prop)(lit:List (Option Int)):Prop where
 rnd:Rnd see dl s h0 n r lit
 don:∀ k j,D k j->∀ vs h u,Lp see dl s h0 vs k h->vs.length<=r+1->h<=u->see k j u->∃ h',lit[j]?=some (some h')/\h'<=u+dl
theorem Swp.keep {n r:Nat}{D D':Nat->Nat->Prop}{lit lit':List (Option Int)}(w:Swp see dl s h0 n r D lit)(hl:lit'.length=n)(hs:∀ (j:Nat) h,lit'[j]?=some (some h)->Lt see dl s h0 j h)(hle:∀ (j:Nat) h,lit[j]?=some (some h)->∃ h',lit'[j]?=some (some h')/\h'<=h)
  (hD:∀ k j,D' k j->¬ D k j->∀ vs h u,Lp see dl s h0 vs k h->vs.length<=r+1->h<=u->see k j u->∃ h',lit'[j]?=some (some h')/\h'<=u+dl):Swp see dl s h0 n r D' lit':=by
 have up:∀ {j:Nat} {x:Int},(∃ h',lit[j]?=some (some h')/\h'<=x)->∃ h',lit'[j]?=some (some h')/\h'<=x:=fun {j x} ⟨h',e,le⟩=>by
  obtain⟨h2,e2,le2⟩:=hle j h' e
  exact⟨h2,e2,by omega⟩
 refine⟨⟨hl,hs,fun vs j h p l=>up (w.rnd.prg vs j h p l)⟩,fun k j hkj vs h u p l hu hse=>?_⟩
 by_cases z:D k j
 ·exact up (w.don k j z vs h u p l hu hse)
 ·exact hD k j hkj z vs h u p l hu hse
theorem Swp.next {n r:Nat}{D:Nat->Nat->Prop}{lit:List (Option Int)}(hs:s<n)(hn:∀ k j u,see k j u->k<n/\j<n)(w:Swp see dl s h0 n r D lit)(all:∀ k j,k<n->j<n->D k j):Rnd see dl s h0 n (r+1) lit:=by
 refine⟨w.rnd.len,w.rnd.snd,fun vs j h p l=>?_⟩
 cases p with
 | base=>exact w.rnd.prg _ _ _ .base (by simp)
 | @step vs k _ h' u p hu hse hm =>
  have:=hn _ _ _ hse
  exact w.don k j (all k j this.1 this.2) vs h' u p (by simpa using l) hu hse
theorem Rnd.ear {n:Nat}{lit:List (Option Int)}(hd:0<=dl)(hs:s<n)(hn:∀ k j u,see k j u->k<n/\j<n)(w:Rnd see dl s h0 n n lit):Ear see dl s h0 fun j=>(lit[j]?).join:=by
 refine⟨fun j h e=>w.snd j h ?_,fun j h l=>?_⟩
 ·cases e2:lit[j]? with
  | none=>rw [e2] at e;cases e
  | some o=>rw [e2] at e;have e3:o=some h:=e;rw [e3]
 ·obtain⟨vs,h',p,le⟩:=l.path hd
  have:=zrI p.nodup (p.lt_n hs fun k j u z=>(hn k j u z).2)
  obtain⟨h2,e,le2⟩:=w.prg vs j h' p (by omega)
  exact⟨h2,by show (lit[j]?).join=_;rw [e];rfl,by omega⟩
end
def zfk (xs:List Int)(h:Int):Option Int:=(xs.filter fun u=>decide (h<=u)).head?
theorem zf9 {xs:List Int}(asc:xs.Pairwise (· < ·)){h u:Int}(e:zfk xs h=some u):u∈xs/\h<=u/\∀ v∈xs,h<=v->u<=v:=by
  unfold zfk at e
  have asc':=asc.sublist (List.filter_sublist (p:=fun u=>decide (h<=u)) (l:=xs))
  cases hf:xs.filter fun u=>decide (h<=u) with
  | nil=>rw [hf] at e;cases e
  | cons a r =>
    rw [hf] at e asc'
    have ea:a=u:=by simpa using e
    subst ea
    have ma:a∈xs.filter fun u=>decide (h<=u):=by rw [hf];simp
    obtain⟨m1,m2⟩:=List.mem_filter.mp ma
    refine⟨m1,of_decide_eq_true m2,fun v hv hle=>?_⟩
    have mv:v∈xs.filter fun u=>decide (h<=u):=List.mem_filter.mpr ⟨hv,decide_eq_true hle⟩
    rw [hf] at mv
    rcases qf.mp mv with rfl | mv
    . exact Int.le_refl _
    . have:=(List.pairwise_cons.mp asc').1 v mv
      omega
theorem zh0 {xs:List Int}{h:Int}(e:zfk xs h=none):∀ v∈xs,¬ h<=v:=fun v hv hle=>by
 unfold zfk at e
 rw [List.head?_eq_none_iff,List.filter_eq_nil_iff] at e
 exact e v hv (decide_eq_true hle)
theorem ztn {xs:List Int}(asc:xs.Pairwise (· < ·)){h:Int}{o:Option Int}(h1:∀ u,o=some u->u∈xs/\h<=u/\∀ v∈xs,h<=v->u<=v)(h2:o=none->∀ v∈xs,¬ h<=v):zfk xs h=o:=by
  cases e:zfk xs h with
  | none =>
    cases o with
    | none=>rfl
    | some u=>exact absurd (h1 u rfl).2.1 (zh0 e u (h1 u rfl).1)
  | some a =>
    obtain⟨a1,a2,a3⟩:=zf9 asc e
    cases o with
    | none=>exact absurd a2 (h2 rfl a a1)
    | some u =>
      obtain⟨b1,b2,b3⟩:=h1 u rfl
      exact congrArg some (by have:=a3 u b1 b2;have:=b3 a a1 a2;omega)
theorem ziU {ms:List (Int×Int)}(ok:zaA ms){h u:Int}(e:zcl ms h=some u):ms.any (inS u)=true/\h<=u/\∀ v,ms.any (inS v)=true->h<=v->u<=v:=by
 induction ms with
 | nil=>cases e
 | cons c r ih =>
  have e':(if h<=c.2 then some (max c.1 h) else zcl r h)=some u:=e
  have lc:=ok.le c (by simp)
  have okr:zaA r:=⟨fun d hd=>ok.le d (qs _ hd),(List.pairwise_cons.mp ok.ap).2⟩
  by_cases g:h<=c.2
  ·rw [if_pos g] at e'
   have eu:max c.1 h=u:=qN e'
   refine⟨zaP.mpr ⟨c,by simp,by omega,by omega⟩,by omega,fun v hv hle=>?_⟩
   obtain⟨d,hd,d1,d2⟩:=zaP.mp hv
   rcases qf.mp hd with rfl | hd
   ·omega
   ·have:=(List.pairwise_cons.mp ok.ap).1 d hd
    omega
  ·rw [if_neg g] at e'
   obtain⟨a1,a2,a3⟩:=ih okr e'
   obtain⟨d,hd,d1,d2⟩:=zaP.mp a1
   refine⟨zaP.mpr ⟨d,qs _ hd,d1,d2⟩,a2,fun v hv hle=>?_⟩
   obtain⟨d',hd',d1',d2'⟩:=zaP.mp hv
   rcases qf.mp hd' with rfl | hd'
   ·omega
   ·exact a3 v (zaP.mpr ⟨d',hd',d1',d2'⟩) hle
theorem znh {ms:List (Int×Int)}{h:Int}(e:zcl ms h=none):∀ v,h<=v->¬ ms.any (inS v)=true:=by
 induction ms with
 | nil=>intro v _ z;simp at z
 | cons c r ih =>
  have e':(if h<=c.2 then some (max c.1 h) else zcl r h)=none:=e
  by_cases g:h<=c.2
  ·rw [if_pos g] at e';cases e'
  ·rw [if_neg g] at e'
   intro v hle hv
   obtain⟨d,hd,d1,d2⟩:=zaP.mp hv
   rcases qf.mp hd with rfl | hd
   ·omega
   ·exact ih e' v hle (zaP.mpr ⟨d,hd,d1,d2⟩)
abbrev zad (os:List (Option Int)):List D:=os.map zbd
theorem zez {os:List (Option Int)}{k:Nat}(h:k<os.length):atD (zad os) (k:Int)=some (zbd ((os[k]?).join)):=zbt (by rw [qh,qb h];rfl)
theorem zuZ (os:List (Option Int)):(zad os).all (fl 20)=true:=by
  rw [List.all_map,List.all_eq_true]
  intro o _
  cases o<;>rfl
theorem zhK {os:List (Option Int)}{k:Nat}(h:k<os.length):ixD (zad os).length (k:Int)=some k:=by
 unfold ixD;rw [qa,if_pos (by omega),if_pos (by omega)];rfl
noncomputable def zfj (V:Vl) (k j:Nat) (h:Int):Bool:=@decide (k≠j/\∃ b c,V.bs[k]?=some b/\V.bs[j]?=some c/\ziZ V b.2 c.2 h) (Classical.propDecidable _)
theorem zdU {V:Vl}{k j:Nat}{h:Int}:zfj V k j h=true↔k≠j/\∃ b c,V.bs[k]?=some b/\V.bs[j]?=some c/\ziZ V b.2 c.2 h:=by unfold zfj;exact @decide_eq_true_iff _ (Classical.propDecidable _)
theorem zqk {V:Vl}{k j:Nat}{h:Int}:zfj V k j h=zfj V j k h:=by
 have one:∀ {k j},zfj V k j h=true->zfj V j k h=true:=fun {k j} w=>by
  obtain⟨ne,b,c,hb,hc,s⟩:=zdU.mp w
  exact zdU.mpr ⟨Ne.symm ne,c,b,hc,hb,zpM.mpr s⟩
 rw [Bool.eq_iff_iff];exact⟨one,one⟩
def hrs (V:Vl):List Int:=(List.range (V.h1-V.h0+1).toNat).map fun i:Nat=>V.h0+(i:Int)
theorem zoc {V:Vl}{h:Int}:h∈hrs V↔V.h0<=h/\h<=V.h1:=by
 unfold hrs
 rw [qI]
 constructor
 ·rintro⟨i,hi,rfl⟩
  have:=List.mem_range.mp hi
  omega
 ·rintro⟨h0,h1⟩
  exact⟨(h-V.h0).toNat,List.mem_range.mpr (by omega),by omega⟩
theorem ztX (V:Vl):(hrs V).Pairwise (· < ·):=by
  unfold hrs
  rw [List.pairwise_map]
  exact List.pairwise_lt_range.imp fun h=>by omega
noncomputable def zam (V:Vl) (k j:Nat):List Int:=(hrs V).filter (zfj V k j)
theorem zo2 {V:Vl}{k j:Nat}:zam V k j=zam V j k:=by
 unfold zam
 exact List.filter_congr fun h _=>zqk
theorem zpo {V:Vl}{k:Nat}:zam V k k=[]:=by
 unfold zam
 rw [List.filter_eq_nil_iff]
 intro h _ z
 exact (zdU.mp z).1 rfl
theorem zhR {V:Vl}{k j:Nat}{h:Int}:h∈zam V k j↔V.h0<=h/\h<=V.h1/\zfj V k j h=true:=by
 unfold zam
 rw [List.mem_filter,zoc,and_assoc]
theorem zf7 (V:Vl)(k j:Nat):(zam V k j).Pairwise (· < ·):=(ztX V).sublist List.filter_sublist
theorem zk1 {V:Vl}{k j:Nat}{m:Nat}(h:V.h1-V.h0+1<=m):(zam V k j).length<=m:=by
 unfold zam
 refine qK (List.length_filter_le _ _) ?_
 unfold hrs
 rw [qa,List.length_range];omega
structure zgp (S:Sto)(lo t:Nat)(rs:List Nat)(n:Nat)(F:Nat->Nat->List Int):Prop where
 tt:S[t]?=some (.lst (rs.map D.ref))
 len:rs.length=n
 nd:rs.Nodup
 lt:lo<=t
 row:∀ (k r:Nat),rs[k]?=some r->lo<=r/\r≠t/\∃ cs:List Nat,S[r]?=some (.lst (cs.map D.ref))/\cs.length=n/\∀ (j c:Nat),cs[j]?=some c->c≠t/\c∉rs/\S[c]?=some (.lst ((F k j).map D.int))
theorem zgp.old {S T:Sto}{lo t n:Nat}{rs:List Nat}{F:Nat->Nat->List Int}(h:zgp S lo t rs n F):zgp (S++T) lo t rs n F :=
 ⟨zay h.tt,h.len,h.nd,h.lt,fun k r hk=>let ⟨a,b,cs,c1,c2,c3⟩:=h.row k r hk;⟨a,b,cs,zay c1,c2,fun j c hc=>let ⟨d1,d2,d3⟩:=c3 j c hc;⟨d1,d2,zay d3⟩⟩⟩
def zcx (F:Nat->Nat->List Int)(k j:Nat)(L:List Int):Nat->Nat->List Int:=fun a b=>if a=k/\b=j then L else F a b
theorem zxu {rs:List Nat}(nd:rs.Nodup){i j:Nat}{r:Nat}(hi:rs[i]?=some r)(hj:rs[j]?=some r):i=j:=by
 have li:=zao hi
 have lj:=zao hj
 rw [qb li] at hi
 rw [qb lj] at hj
 have e:rs[i]=rs[j]:=qN (hi.trans hj.symm)
 have:=qQ.mp nd
 rcases Nat.lt_trichotomy i j with g | g | g
 ·exact absurd e (this i j li lj g)
 ·exact g
 ·exact absurd e.symm (this j i lj li g)
theorem zgp.put {S:Sto}{lo t n:Nat}{rs:List Nat}{F:Nat->Nat->List Int}(h:zgp S lo t rs n F){k j r c':Nat}{cs:List Nat}{L:List Int}(hk:rs[k]?=some r)(hr:S[r]?=some (.lst (cs.map D.ref)))(hc:S[c']?=some (.lst (L.map D.int)))(n1:c'≠t)(n2:c'∉rs):zgp (S.set r (.lst ((cs.set j c').map D.ref))) lo t rs n (zcx F k j L):=by
 have lr:r<S.length:=zao hr
 have mr:r∈rs:=qd hk
 obtain⟨a1,a2,cs0,b1,b2,b3⟩:=h.row k r hk
 have e0:cs0=cs:=by
  rw [hr] at b1
  have e:cs.map D.ref=cs0.map D.ref:=Cell.lst.inj (qN b1)
  exact (List.map_inj_right fun a b z=>D.ref.inj z).mp e.symm
 subst e0
 have ot:∀ {x:Nat} {c:Cell},x≠r->S[x]?=some c->(S.set r (.lst ((cs0.set j c').map D.ref)))[x]?=some c:=fun {x c} hx e=>by rw [qH (Ne.symm hx)];exact e
 refine⟨ot (Ne.symm a2) h.tt,h.len,h.nd,h.lt,fun k' r' hk'=>?_⟩
 by_cases er:r'=r
 ·subst er
  have ek:=zxu h.nd hk' hk
  subst ek
  refine⟨a1,a2,cs0.set j c',by rw [qC lr],by rw [List.length_set];exact b2,fun j' c hc'=>?_⟩
  by_cases ej:j'=j
  ·subst ej
   have lj:=zao hc'
   rw [List.length_set] at lj
   rw [qC lj] at hc'
   cases hc'
   refine⟨n1,n2,?_⟩
   unfold zcx
   rw [if_pos ⟨rfl,rfl⟩]
   exact ot (fun z=>n2 (z▸mr)) hc
  ·rw [qH (Ne.symm ej)] at hc'
   obtain⟨d1,d2,d3⟩:=b3 j' c hc'
   refine⟨d1,d2,?_⟩
   unfold zcx
   rw [if_neg (fun z=>ej z.2)]
   exact ot (fun z=>d2 (z▸mr)) d3
 ·obtain⟨x1,x2,cs',y1,y2,y3⟩:=h.row k' r' hk'
  refine⟨x1,x2,cs',ot er y1,y2,fun j' c hc'=>?_⟩
  obtain⟨d1,d2,d3⟩:=y3 j' c hc'
  refine⟨d1,d2,?_⟩
  unfold zcx
  rw [if_neg (fun z=>er (by have h1:=z.1;subst h1;rw [hk] at hk';exact (qN hk').symm))]
  exact ot (fun z=>d2 (z▸mr)) d3
def TabAt (S:Sto)(t:D)(n:Nat)(F:Nat->Nat->List Int):Prop:=∃ rs:List Nat,Lst S t (rs.map D.ref)/\rs.length=n/\∀ (k r:Nat),rs[k]?=some r->∃ cs:List Nat,S[r]?=some (.lst (cs.map D.ref))/\cs.length=n/\∀ (j c:Nat),cs[j]?=some c->S[c]?=some (.lst ((F k j).map D.int))
theorem TabAt.old {S T:Sto}{t:D}{n:Nat}{F:Nat->Nat->List Int}(h:TabAt S t n F):TabAt (S++T) t n F :=
 let ⟨rs,h1,h2,h3⟩:=h
 ⟨rs,h1.old,h2,fun k r hk=>let ⟨cs,c1,c2,c3⟩:=h3 k r hk;⟨cs,zay c1,c2,fun j c hc=>zay (c3 j c hc)⟩⟩
theorem TabAt.get {S:Sto}{t:D}{n:Nat}{F:Nat->Nat->List Int}(h:TabAt S t n F){k j:Nat}(hk:k<n)(hj:j<n):∃ (rows cells:List D) (r c:Nat),Lst S t rows/\atD rows (k:Int)=some (.ref r)/\Lst S (.ref r) cells/\atD cells (j:Int)=some (.ref c)/\Lst S (.ref c) ((F k j).map D.int):=by
 obtain⟨rs,h1,h2,h3⟩:=h
 have ek:rs[k]?=some (rs[k]'(by omega)):=qb (by omega)
 obtain⟨cs,c1,c2,c3⟩:=h3 k _ ek
 have ej:cs[j]?=some (cs[j]'(by omega)):=qb (by omega)
 exact⟨rs.map D.ref,cs.map D.ref,_,_,h1,zbt (by rw [qh,ek];rfl),Lst.here c1,zbt (by rw [qh,ej];rfl),Lst.here (c3 j _ ej)⟩
def zd0 (V:Vl)(k j:Nat)(u:Int):Prop:=u∈zam V k j
theorem ziH {V:Vl}{k j:Nat}{u:Int}(h:zd0 V k j u):k<V.bs.length/\j<V.bs.length:=by
 obtain⟨_,b,c,hb,hc,_⟩:=zdU.mp (zhR.mp h).2.2
 exact⟨zao hb,zao hc⟩
theorem zdW {lit:List (Option Int)}{k:Nat}{h:Int}(e:(lit[k]?).join=some h):lit[k]?=some (some h):=by
 cases e2:lit[k]? with
 | none=>rw [e2] at e;cases e
 | some o=>rw [e2] at e;have:o=some h:=e;rw [this]
def BdH (V:Vl)(k j:Nat)(ob oj:Option Int):Prop:=k≠j->∀ bk,ob=some bk->∀ u,zfk (zam V k j) bk=some u->∃ bj,oj=some bj/\bj<=u+V.dl
theorem zlC {V:Vl}(ok:zcM V){k j:Nat}{b c:Str×(Int×Int)}(hb:V.bs[k]?=some b)(hc:V.bs[j]?=some c)(hkj:k≠j){ms:List (Int×Int)}(hm:zsF V b.1 c.1 b.2 c.2 ms)(h:Int):zfk (zam V k j) h=zcl ms h:=by
 have ne:b.1≠c.1:=fun e=>hkj ((zlG ok hb hc).mp e)
 have iff:∀ u,u∈zam V k j↔ms.any (inS u)=true:=fun u=>by
  rw [zhR,hm.iff,zdU]
  constructor
  ·rintro⟨h1,h2,_,b',c',hb',hc',z⟩
   rw [hb] at hb';rw [hc] at hc';cases hb';cases hc'
   exact⟨h1,h2,.inr z⟩
  ·rintro⟨h1,h2,z | z⟩
   ·exact absurd z ne
   ·exact⟨h1,h2,hkj,b,c,hb,hc,z⟩
 refine ztn (zf7 V k j) (fun u e=>?_) (fun e v hv hle=>znh e v hle ((iff v).mp hv))
 obtain⟨a1,a2,a3⟩:=ziU hm.ok e
 exact⟨(iff u).mpr a1,a2,fun v hv=>a3 v ((iff v).mp hv)⟩
def zlF (V:Vl)(s:Nat)(h:Int)(bd:List (Option Int)):Prop:=bd.length=V.bs.length/\(∃ b,bd[s]?=some (some b)/\b<=h)/\∀ k j,k<V.bs.length->j<V.bs.length->BdH V k j ((bd[k]?).join) ((bd[j]?).join)
theorem ztD {os:List (Option Int)}{i:Nat}{d:D}(h:(zad os)[i]?=some d):i<os.length/\d=zbd ((os[i]?).join):=by
 have h':(os.map zbd)[i]?=some d:=h
 rw [qh] at h'
 cases e:os[i]? with
 | none=>rw [e] at h';cases h'
 | some o=>rw [e] at h';cases h';exact⟨zao e,rfl⟩
theorem znS (z n:Str):eqv (.str z) (.str n)=decide (z=n):=by
 show (z==n)=_
 rw [Bool.eq_iff_iff,beq_iff_eq,decide_eq_true_eq]
end Dp
namespace My
open PySem PySem.Spec PyProof.Rows L2
section
variable {prog:Program}{w:World}{A:Around}{E:Value->Shared->Prop}{s:Shared}
theorem zxS {R:Result->Shared->Prop}{r:Addr}{a b c:Int}{t u v:Tok}{n:Nat}(hh:A.in1.handled=none)(hr:IsRange s.heap r a b c t u v)(hbig:Builtin.Range.small a b c=false)(hn:Builtin.Range.rangeSize a b c=n)(hlen:n<=2 ^ 24)(S:Addr)(res:Value)(c₀:Nat)
  (hS:s.heap.get? S=some { cls:=.type "list",data:=.seq #[] c₀ })
  (hR:∀ h' tk acc' c',(∀ b o,b≠S->s.heap.get? b=some o->h'.get? b=some o)->h'.get? S=some { cls:=.type "list",dict:=none,data:=.seq acc' c',slots:=#[] }->ItemsOf (fun i v=>∃ t,v=.int (a+i*c) t) acc' n->R (.ok (.ret res)) { s with heap:=h',toks:=tk }) :
  wpAny (model prog w) A.in1 (Builtin.List.listExtendWith (.ref S) (.ref r) res)
   (fun fin s'=>match fin with | .done f=>R (.ok f) s' | .again c'=>c'.quiet=true/\codeAny (model prog w) A c' R s') (fun e s'=>R (.error e) s') s:=by
 have q1:S≠r:=fun z=>by rw [z,hr] at hS;simp at hS
 have q2:S<s.heap.objs.size:=qk hS
 have q3:S≠s.heap.objs.size:=qB q2
 have q4:S∉[s.heap.objs.size]:=fun z=>q3 (List.mem_singleton.mp z)
 have W:=(Walks.longrange (prog:=prog) (w:=w) (A:=A.in1) hh s.heap.objs.size a c n).toS
 have go:∀ (h:Heap) (c₁ tk:Nat),IsLongIter h s.heap.objs.size (a+((0:Nat):Int)*c) ((n:Int)-((0:Nat):Int)) c->(∀ b o,b≠S->s.heap.get? b=some o->h.get? b=some o) ->
   h.get? S=some { cls:=.type "list",data:=.seq #[] c₁ }->codeAny (model prog w) A (.builtin "list.extend.loop" ⟨[.ref S,.ref s.heap.objs.size,res],[]⟩) R { s with heap:=h,toks:=tk }:=fun h c₁ tk g1 g2 g3=>by
  refine codeAny_extend_loopS W (by rw [sizeLine_eq];omega) S q4 res n 0 _ #[] c₁ rfl (qJ _) g1 g3 (ItemsOf.nil _) fun s' acc' c' m1 m2 m3=>?_
  rw [Moved.eq_with m1]
  refine hR s'.heap s'.toks acc' c' (fun x o z1 z2=>m1.heap x o (fun z=>?_) (g2 x o z1 z2)) m2 m3
  rcases qf.mp z with z3 | z3
  ·exact z1 z3
  ·exact absurd (qk z2) (by rw [List.mem_singleton.mp z3];exact Nat.lt_irrefl _)
 unfold Builtin.List.listExtendWith
 refine wpAny_bind (wpAny_typeOf (T:="range") ⟨_,hr,rfl⟩ ?_)
 have e1:Builtin.List.listSameRef (.ref S) (.ref r)=false:=by simp [Builtin.List.listSameRef,q1]
 simp only [e1,show (Value.type "range"==Value.type "list")=false by decide,show (Value.type "range"==Value.type "tuple")=false by decide,Bool.or_false,Bool.false_eq_true,if_false]
 refine wpAny_bind (wpAny_pyIter_longrange hr hbig ?_)
 refine wpAny_bind (wpAny_holding (wpAny_hint_range (n:=n) (qc _ hr) hn hlen ?_))
 have i1:IsLongIter (s.heap.push { cls:=.type "longrange_iterator",data:=.fields #[rawInt a,rawInt (Builtin.Range.rangeSize a b c),rawInt c] }) s.heap.objs.size (a+((0:Nat):Int)*c) ((n:Int)-((0:Nat):Int)) c:=by
  show IsLongIter _ _ _ _ _;rw [hn];simpa using Heap.get?_push_size _ rfl
 have i2:=qc { cls:=.type "longrange_iterator",data:=.fields #[rawInt a,rawInt (Builtin.Range.rangeSize a b c),rawInt c] } hS
 refine wpAny_ite_split (fun _=>?_) (fun _=>wpAny_pure ⟨plainId_quiet F.plain_extend_loop _,go _ c₀ _ i1 (fun _ _ _ z=>qc _ z) i2⟩)
 refine wpAny_bind (wpAny_rule ?_)
 refine wpAny_bind ?_
 show wpAny _ A.in1 (updateSeq S (·.push .none) >>= fun _=>updateSeq S (·.pop)) _ _ _
 refine wpAny_bind (wpAny_updateSeq i2 rfl ?_)
 have i3:=Heap.get?_update_self (Obj.mapSeq (·.push Value.none)) i2 rfl
 refine wpAny_updateSeq (hz:=by seq_fits) i3 rfl ?_
 have i4:=Heap.get?_update_self (Obj.mapSeq (·.pop)) i3 rfl
 refine wpAny_pure ⟨plainId_quiet F.plain_extend_loop _,go _ _ _ ?_ (fun x o z1 z2=>?_) i4⟩
 ·exact (Heap.get?_update_other _ _ q3).trans ((Heap.get?_update_other _ _ q3).trans i1)
 ·exact (Heap.get?_update_other _ _ (Ne.symm z1)).trans ((Heap.get?_update_other _ _ (Ne.symm z1)).trans (qc _ z2))
theorem zom {Q:Value->Shared->Prop}{r:Addr}{a b c:Int}{t u v:Tok}{n:Nat}(hh:A.in1.in1.handled=none)(hr:IsRange s.heap r a b c t u v)(hbig:Builtin.Range.small a b c=false)(hn:Builtin.Range.rangeSize a b c=n)(hlen:n<=2 ^ 24)
  (hQ:∀ h' tk acc' c',(∀ b o,s.heap.get? b=some o->h'.get? b=some o)->h'.get? s.heap.objs.size=some { cls:=.type "list",dict:=none,data:=.seq acc' c',slots:=#[] }->ItemsOf (fun i v=>∃ t,v=.int (a+i*c) t) acc' n->Q (.ref s.heap.objs.size) { s with heap:=h',toks:=tk }) :
  wpAny (model prog w) A (call (.type "list") [.ref r]) Q E s:=by
 refine callType_codes (Q₁:=fun x y=>x=.ref s.heap.objs.size/\y={ s with heap:=s.heap.push { cls:=.type "list",data:=.seq #[] } }) F.called_list (F.typeCall_list_1 _) F.entry_list_init (code_list_new _ ⟨rfl,rfl⟩) fun x y z=>?_
 obtain⟨rfl,rfl⟩:=z
 generalize hSz:s.heap.objs.size=S at *
 have hS:(s.heap.push { cls:=.type "list",data:=.seq #[] }).get? S=some { cls:=.type "list",data:=.seq #[] }:=by rw [<- hSz];exact Heap.get?_push_size _ rfl
 refine⟨⟨_,hS,rfl⟩,F.args_list_init_2 _ _,?_⟩
 have hr':=qc { cls:=.type "list",data:=.seq #[] } hr
 have old:∀ b o,s.heap.get? b=some o->b≠S:=fun b o e=>by rw [<- hSz];exact qB (qk e)
 have up:∀ b o,s.heap.get? b=some o->(s.heap.push { cls:=.type "list",data:=.seq #[] }).get? b=some o:=fun b o e=>qc _ e
 generalize s.heap.push { cls:=.type "list",data:=.seq #[] }=hp at hS hr' up
 have nSr:S≠r:=fun z=>by rw [z,hr'] at hS;simp at hS
 show wpAny _ A.in1.in1 (do let old <- Builtin.List.listItems (.ref S);Builtin.List.listUpdate (.ref S) (fun _=>#[]);letGo old.toList.reverse;Builtin.List.listExtendWith (.ref S) (.ref r) .none) _ _ _
 refine wpAny_bind ?_
 unfold Builtin.List.listItems
 refine wpAny_bind (wpAny_seqItems hS rfl (wpAny_pure ?_))
 show wpAny _ A.in1.in1 (updateSeq S (fun _=>#[]) >>= fun _=>letGo (#[]:Array Value).toList.reverse >>= fun _=>Builtin.List.listExtendWith (.ref S) (.ref r) .none) _ _ _
 refine wpAny_bind (wpAny_updateSeq hS rfl ?_)
 have j1:=Heap.get?_update_self (Obj.mapSeq (fun _=>(#[]:Array Value))) hS rfl
 have j2:∀ b o,b≠S->hp.get? b=some o->(hp.update S (Obj.mapSeq (fun _=>(#[]:Array Value)))).get? b=some o:=fun b o hb e=>(Heap.get?_update_other _ _ (Ne.symm hb)).trans e
 refine wpAny_bind (wpAny_letGo ?_)
 refine zxS (A:=A.in1) hh (j2 r _ (Ne.symm nSr) hr') hbig hn hlen S .none _ j1 fun h' tk acc' c' k1 k2 k3=>?_
 exact⟨rfl,hQ h' tk acc' c' (fun b o e=>k1 b o (old b o e) (j2 b o (old b o e) (up b o e))) k2 k3⟩
end
def zx6 (ta:TA):TE:=fun U H Q=>ta U H fun vs H1=>∃ i j:Int,vs=[.int i,.int j]/\j-i<=900/\∀ l,H1 l=none->Q (.ref l) (upd H1 l (.lst (((List.range (j-i).toNat).map fun k:Nat=>i+(k:Int)).map V.int)))
theorem zxr {P:Nat->Int}:∀ {n:Nat} {us:List Value},us.length=n->(∀ k v,us[k]?=some v->∃ t,v=Value.int (P k) t)->Vals (((List.range n).map P).map V.int) us:=fun {n us}=>by
 induction n generalizing us P with
 | zero=>intro h _;cases us with | nil=>exact .nil | cons _ _=>cases h
 | succ n ih =>
  intro h g
  cases us with
  | nil=>cases h
  | cons u us =>
   have e0:List.map P (List.map Nat.succ (List.range n))=List.map (P ∘ Nat.succ) (List.range n):=by rw [qM]
   rw [List.range_succ_eq_map,List.map_cons,List.map_cons,e0]
   obtain⟨t,e⟩:=g 0 u rfl
   exact .cons ⟨t,e⟩ (ih (P:=P ∘ Nat.succ) (by simpa using h) fun k v hk=>g (k+1) v (by simpa using hk))
theorem zoH {X:Cx}{a b:Expr}{ta:TA}{p1 p2 pos1 pos2:Pos}(hc:X.calm=true)(hgl:Gl X "list")(hml:X.mg "list"=none)(hgr:Gl X "range")(hmr:X.mg "range"=none)(ha:PA X [a,b] ta)
    (hs:starEach [a,b] X.env=[(false,eval a X.env),(false,eval b X.env)]) (hs2:starEach [b] X.env=[(false,eval b X.env)]) :
    PE X (.Call (.Name "list" p1) [.Call (.Name "range" p2) [a,b] [] pos2] [] pos1) (zx6 ta):=by
  have hs3:starEach [.Call (.Name "range" p2) [a,b] [] pos2] X.env=[(false,eval (.Call (.Name "range" p2) [a,b] [] pos2) X.env)]:=by rfl
  intro pins s U H Q I h
  refine Call_ (zcX I hgl hml boot_list (PyProof.Rows.callWith_type1 ?_ (by rw [hs3];rfl) (by rfl)))
  rw [hs3]
  show wpAny _ X.A (spliced ((false,eval (.Call (.Name "range" p2) [a,b] [] pos2) X.env)::backTo pos1 [])) _ _ s
  refine Calls.spliced_cons (Call_ (zcX I hgr hmr boot_range (PyProof.Rows.callWith_type1 (thn (ha pos2 pins s U H _ I h) fun us s1 ⟨vs,H1,I1,r1,q1⟩=>?_) (by rw [hs,hs2]) (by rw [hs2];rfl))))
  obtain⟨i,j,e,hlen,q⟩:=q1
  subst e
  cases r1 with | cons r rr=>cases rr with | cons r' rr =>
  cases rr
  obtain⟨t,rfl⟩:=r
  obtain⟨t',rfl⟩:=r'
  refine call_range_2 (Calls.spliced_nil ?_)
  have I2:Inv X pins U H1 { s1 with heap:=s1.heap.push { cls:=.type "range",data:=.fields #[.int i t,.int j t',.int 1 s1.toks] },toks:=s1.toks+1 }:=I1.kept fun b o e=>qc _ e
  have fin : ∀ h' tk acc' c', (∀ b o, (s1.heap.push { cls := .type "range", data := .fields #[.int i t, .int j t', .int 1 s1.toks] }).get? b = some o → h'.get? b = some o) →
      h'.get? (s1.heap.push { cls:=.type "range",data:=.fields #[.int i t,.int j t',.int 1 s1.toks] }).objs.size=some { cls:=.type "list",dict:=none,data:=.seq acc' c',slots:=#[] }->ItemsOf (fun k v=>∃ t,v=Value.int (i+k*1) t) acc' (j-i).toNat ->
      EP X pins U Q (.ref (s1.heap.push { cls:=.type "range",data:=.fields #[.int i t,.int j t',.int 1 s1.toks] }).objs.size) { s1 with heap:=h',toks:=tk }:=fun h' tk acc' c' hk he hacc=>by
    have hv:Vals (((List.range (j-i).toNat).map fun k:Nat=>i+(k:Int)).map V.int) acc'.toList:=by
      refine zxr (P:=fun k:Nat=>i+(k:Int)) (by rw [qG];exact hacc.1) fun k v hv=>?_
      rw [Array.getElem?_toList] at hv
      obtain⟨t,e⟩:=hacc.2 k v hv
      exact⟨t,by rw [e,Int.mul_one]⟩
    exact⟨.ref _,_,I2.laid (t':=tk) (o:=.lst (((List.range (j-i).toNat).map fun k:Nat=>i+(k:Int)).map V.int)) hk (qg _) ⟨by rw [qa,qa,List.length_range];exact Nat.le_of_lt (zqr (by omega)),acc'.toList,c',hv,by rw [Array.toArray_toList];exact he⟩,rfl,q _ I2.fresh⟩
  have hz:Builtin.Range.rangeSize i j 1=((j-i).toNat:Nat):=by rw [rangeSize_one];split<;>omega
  cases hsm:Builtin.Range.small i j 1 with
  | true=>exact call_list_range (n:=(j-i).toNat) (I2.ok.hd hc) (IsRange.new ..) hsm hz (by omega) fun h' tk acc' c' hk he hacc=>fin h' tk acc' c' hk he hacc
  | false=>exact zom (n:=(j-i).toNat) (I2.ok.hd hc) (IsRange.new ..) hsm hz (by omega) fun h' tk acc' c' hk he hacc=>fin h' tk acc' c' hk he hacc
theorem zmE {α:Type}(xs:List α)(a:Nat):∀ m,a+m<=xs.length->((List.range m).map (a+·)).filterMap (xs[·]?)=(xs.drop a).take m
 | 0,_=>by simp
 | m+1,h=>by
  rw [List.range_succ,qr,List.filterMap_append,zmE xs a m (by omega),List.take_succ,List.getElem?_drop]
  simp only [List.map_cons,List.map_nil,List.filterMap_cons,List.filterMap_nil]
  rw [qb (by omega)];rfl
theorem zyc (n:Nat)(lo hi:Option Int):Builtin.Str.strSliceIndices lo hi 1 n=(List.range (HT.sIx n n hi-HT.sIx n 0 lo)).map (HT.sIx n 0 lo+·):=by
 rw [<- sliceRange_one]
 unfold Builtin.Str.strSliceIndices
 have cl:∀ (o:Option Int) (d:Nat),(match o with | none=>(d:Int) | some i=>if (1:Int) > 0 then max 0 (min (if i<0 then i+(n:Int) else i) n) else max (-1) (min (if i<0 then i+(n:Int) else i) ((n:Int)-1)))=((HT.sIx n d o:Nat):Int):=fun o d=>by
  cases o with
  | none=>rfl
  | some i =>
   show (if (1:Int) > 0 then _ else _)=(((if i<0 then (i+n).toNat else min i.toNat n):Nat):Int)
   rw [if_pos (by decide)]
   by_cases h:i<0
   ·rw [if_pos h,if_pos h];omega
   ·rw [if_neg h,if_neg h];omega
 have h1:=cl lo 0
 have h2:=cl hi n
 simp only [show ((1:Int) > 0)=True by simp,if_true] at h1 h2 ⊢
 rw [<- h1,<- h2]
 rfl
theorem zju (n:Nat)(o:Option Int)(d:Nat)(hd:d<=n):HT.sIx n d o<=n:=by
  cases o with
  | none=>exact hd
  | some i =>
    show (if i<0 then (i+n).toNat else min i.toNat n)<=n
    split<;>omega
theorem zql (x:Str)(lo hi:Option Int):Txt.slice x lo hi=⟨((x.cps.toList.drop (HT.sIx x.length 0 lo)).take (HT.sIx x.length x.length hi-HT.sIx x.length 0 lo)).toArray⟩:=by
 have hl:x.cps.toList.length=x.length:=qG
 have b1:=zju x.length lo 0 (qJ _)
 have b2:=zju x.length hi x.length (qg _)
 unfold Txt.slice
 rw [zyc]
 have fm:((List.range (HT.sIx x.length x.length hi-HT.sIx x.length 0 lo)).map (HT.sIx x.length 0 lo+·)).filterMap (x.cps[·]?)=(x.cps.toList.drop (HT.sIx x.length 0 lo)).take (HT.sIx x.length x.length hi-HT.sIx x.length 0 lo):=by
  rcases qD (HT.sIx x.length x.length hi) (HT.sIx x.length 0 lo) with g | g
  ·rw [show HT.sIx x.length x.length hi-HT.sIx x.length 0 lo=0 by omega];simp
  ·rw [<- zmE x.cps.toList _ _ (by rw [hl];omega)]
   congr 1
   funext i
   rw [Array.getElem?_toList]
 split
 ·rename_i h
  rw [qA] at h
  have h2:=eq_of_beq h.2
  rw [qa,List.length_range] at h2
  have z1:HT.sIx x.length 0 lo=0:=by omega
  rw [h2,z1,List.drop_zero,List.take_of_length_le (by omega)]
 ·rw [fm]
def zyb:V->Option Int->Option Int->Hp->VK->Prop:=fun x lo hi H Q=>∃ z:Str,x=.str z/\z.length<=sizeLine/\Q (.str ⟨((z.cps.toList.drop (HT.sIx z.length 0 lo)).take (HT.sIx z.length z.length hi-HT.sIx z.length 0 lo)).toArray⟩) H
theorem zvB {X:Cx}:SlR X zyb:=by
 intro pins s U H x v vl vu lo hi sl Q I rx hs pl pu h
 obtain⟨z,rfl,hz,q⟩:=h
 obtain⟨t,rfl⟩:=rx
 refine⟨"str",_,F.slot_str_getitem.lookup,typeIs_str _ _ _,?_⟩
 have go:∀ (l u:Option (Int×Tok)),l.map (·.1)=lo->u.map (·.1)=hi->s.heap.IsSlice sl l u none->wpAny (model X.prog X.w) X.A (getItem (.str z t) (.ref sl)) (EP X pins U Q) X.xe s:=fun l u el eu is=>by
  refine wpAny_getItem_str_slice is rfl ?_
  unfold sliceMade slicePicked
  rw [el,eu]
  refine post_val_or_str ⟨qK (Txt.slice_le z lo hi) hz,fun t' k=>?_⟩
  show EP X pins U Q (.str (Txt.slice z lo hi) t') _
  rw [zql]
  exact⟨.str _,H,I.tok _,⟨t',rfl⟩,q⟩
 obtain⟨o,ho,hc,hd⟩:=hs
 cases pl with
 | none =>
  cases pu with
  | none=>exact go none none rfl rfl ⟨o,ho,hc,hd⟩
  | int j tj=>exact go none (some (j,tj)) rfl rfl ⟨o,ho,hc,hd⟩
 | int i ti =>
  cases pu with
  | none=>exact go (some (i,ti)) none rfl rfl ⟨o,ho,hc,hd⟩
  | int j tj=>exact go (some (i,ti)) (some (j,tj)) rfl rfl ⟨o,ho,hc,hd⟩
section
open AutoSeq1 (wpAny_loadPart')
variable {prog:Program}{w:World}{A:Around}{E:Value->Shared->Prop}{s:Shared}
theorem zjC {it t:Addr}{i:Nat}{items:Array Value}{x:Value}{Q:Value->Shared->Prop}(hit:s.heap.IsTupleIter it t i)(ht:s.heap.IsTuple t items)(hx:items[i]?=some x)
  (hQ:∀ h',h'.IsTupleIter it t (i+1)->Heap.SameBut it s.heap h'->Q x { s with heap:=h' }):wpAny (model prog w) A (Builtin.SmallTypes.nextOf (.ref it)) Q E s:=by
 obtain⟨o,ho,hc,hd⟩:=id hit
 obtain⟨ol,hol,_,nl,hdl⟩:=ht
 unfold Builtin.SmallTypes.nextOf
 refine wpAny_bind (wpAny_callSpecial?_slot (name:=Str.ofString "__next__") hit.typeIs F.slot_tuple_iterator_next (wpAny_call_entry F.slot_tuple_iterator_next hit.typeIs F.entry_tuple_iterator_next ?_ (F.args_tuple_iterator_next_1 _)))
 show wpAny _ _ (field (.ref it) 0 >>= _) _ _ s
 refine wpAny_bind (wpAny_field ho hd (x:=.ref t) rfl ?_)
 show wpAny _ _ (if (Value.ref t==Value.none)=true then _ else _) _ _ s
 rw [if_neg (show ¬ ((Value.ref t==Value.none)=true) from qo)]
 show wpAny _ _ (field (.ref it) 1 >>= _) _ _ s
 refine wpAny_bind (wpAny_field ho hd (x:=.int i 0) rfl ?_)
 show wpAny _ _ (seqItems? (.ref t) >>= _) _ _ s
 refine wpAny_bind (wpAny_seqItems hol hdl ?_)
 simp only [Int.toNat_natCast,hx]
 refine wpAny_bind (wpAny_setField ho hd (by simp) (wpAny_pure ⟨x,rfl,wpAny_pure (hQ _ ?_ (Heap.SameBut.update ..))⟩))
 exact⟨_,Heap.get?_update_self _ ho (Obj.isFreed_of_fields (Obj.data_mapFields hd _)),(Obj.cls_mapFields ..).trans hc,by rw [Obj.data_mapFields hd];simp [rawInt]⟩
theorem zh2 {it t:Addr}{i:Nat}{items:Array Value}{Q:Value->Shared->Prop}(hh:A.handled=none)(hit:s.heap.IsTupleIter it t i)(ht:s.heap.IsTuple t items)(hx:items[i]?=none)
  (hE:∀ h' e,Heap.ExtBut it s.heap h'->(∃ o,h'.get? e=some o/\o.cls=.type "StopIteration")->E (.ref e) { s with heap:=h' }):wpAny (model prog w) A (Builtin.SmallTypes.nextOf (.ref it)) Q E s:=by
 obtain⟨o,ho,hc,hd⟩:=id hit
 obtain⟨ol,hol,_,nl,hdl⟩:=ht
 unfold Builtin.SmallTypes.nextOf
 refine wpAny_bind (wpAny_callSpecial?_slot (name:=Str.ofString "__next__") hit.typeIs F.slot_tuple_iterator_next (wpAny_call_entry F.slot_tuple_iterator_next hit.typeIs F.entry_tuple_iterator_next ?_ (F.args_tuple_iterator_next_1 _)))
 show wpAny _ _ (field (.ref it) 0 >>= _) _ _ s
 refine wpAny_bind (wpAny_field ho hd (x:=.ref t) rfl ?_)
 show wpAny _ _ (if (Value.ref t==Value.none)=true then _ else _) _ _ s
 rw [if_neg (show ¬ ((Value.ref t==Value.none)=true) from qo)]
 show wpAny _ _ (field (.ref it) 1 >>= _) _ _ s
 refine wpAny_bind (wpAny_field ho hd (x:=.int i 0) rfl ?_)
 show wpAny _ _ (seqItems? (.ref t) >>= _) _ _ s
 refine wpAny_bind (wpAny_seqItems hol hdl ?_)
 simp only [Int.toNat_natCast,hx]
 refine wpAny_bind (wpAny_rule (wpAny_bind (wpAny_setField ho hd (by simp) ?_)))
 show wpAny _ _ (newExc (.type "StopIteration") [] >>= _) _ _ _
 refine wpAny_bind ?_
 simp only [newExc,newTuple]
 refine wpAny_bind (wpAny_newObj_type ?_ (by size_fits))
 refine wpAny_bind (m:=firstArgMember _ _) (wpAny_of_eq (a:=Value.none) (by first | rfl | (simp only [firstArgMember];rfl)) ?_)
 refine wpAny_newObj_type ?_ (by size_fits)
 simp only [raiseNew]
 refine wpAny_bind (wpAny_handled ?_)
 first | rw [show A.in1.handled=none from hh] | rw [hh]
 refine wpAny_bind (wpAny_pure (wpAny_throw ?_))
 exact hE _ _ (((Heap.SameBut.update ..).extBut.push _).push _) ⟨_,Heap.get?_push_size _ rfl,rfl⟩
theorem zu8 (hh:A.handled=none)(it t:Addr)(hne:t≠it)(items:Array Value) :
  Draws prog w A it [it,t] items.size (fun i v=>items[i]?=some v) (fun i h=>h.IsTupleIter it t i/\h.IsTuple t items) where
 live:=fun _ _ st=>let ⟨o,ho,_⟩:=st.1;⟨o,ho⟩
 frame:=fun _ _ _ st hk=>⟨let ⟨o,ho,r⟩:=st.1;⟨o,hk it (by simp) o ho,r⟩,let ⟨o,ho,r⟩:=st.2;⟨o,hk t (by simp) o ho,r⟩⟩
 item:=fun i s Q E hi st hQ=>zjC st.1 st.2 (x:=items[i]) (by simp [hi]) fun h' hit' hs'=>hQ _ h' s.toks (by simp [hi]) ⟨hit',st.2.extBut hs'.extBut hne⟩ hs'
 done:=fun s Q E st hE=>zh2 hh st.1 st.2 (by simp) hE
theorem zuu (hh:A.handled=none)(it t:Addr)(items:Array Value)(i:Nat)(hx:items[i]?=none) :
  Draws prog w A it [it,t] 0 (fun _ _=>True) (fun _ h=>h.IsTupleIter it t i/\h.IsTuple t items) where
 live:=fun _ _ st=>let ⟨o,ho,_⟩:=st.1;⟨o,ho⟩
 frame:=fun _ _ _ st hk=>⟨let ⟨o,ho,r⟩:=st.1;⟨o,hk it (by simp) o ho,r⟩,let ⟨o,ho,r⟩:=st.2;⟨o,hk t (by simp) o ho,r⟩⟩
 item:=fun i s Q E hi=>absurd hi (Nat.not_lt_zero _)
 done:=fun s Q E st hE=>zh2 hh st.1 st.2 hx hE
theorem newT (l:Addr)(items:Array Value)(n:Nat)(dct:Option Addr)(sl:Array (Option Value)) :
    Meets (Builtin.«enumerate.__new__» ⟨[.type "enumerate",.ref l],[]⟩) (fun _ R s=>s.heap.get? l=some { cls:=.type "tuple",dict:=dct,data:=.seq items n,slots:=sl } /\
      R (.ok (.ret (.ref (s.heap.push { cls:=.type "tuple_iterator",data:=.fields #[.ref l,.int 0 0] }).objs.size)))
        { s with heap:=(s.heap.push { cls:=.type "tuple_iterator",data:=.fields #[.ref l,.int 0 0] }).push { cls:=.type "enumerate",data:=.fields #[.none,.bool false,.ref s.heap.objs.size,rawInt 0,.none,.none] } }) :=
  .of_wp fun prog w A R s h=>by
    obtain⟨hp,g,d,tk,os⟩:=s
    obtain⟨hl,h⟩:=h
    have hsub:=sub_enumerate
    have hL:Heap.IsTuple (Shared.heap ⟨hp,g,d,tk,os⟩) l items:=⟨_,hl,rfl,n,rfl⟩
    wp_walk using wpAny_loadPart' hl
    refine wpAny_stack_any fun st=>wpAny_pure ?_
    split
    . rename_i c _ _ _ _ _
      cases (c==Value.type "enumerate")
      . wp_walk using wpAny_loadPart' hl,wpAny_pyIter_tuple hL
        exact⟨_,rfl,h⟩
      . wp_walk using wpAny_loadPart' hl,wpAny_pyIter_tuple hL
        exact⟨_,rfl,h⟩
    . wp_walk using wpAny_loadPart' hl,wpAny_pyIter_tuple hL
      exact⟨_,rfl,h⟩
theorem zxa {l:Addr}{items:Array Value}{Q:Value->Shared->Prop}(hL:s.heap.IsTuple l items)
    (h:∀ h',IsEnum h' (s.heap.objs.size+1) s.heap.objs.size 0 .none->h'.IsTupleIter s.heap.objs.size l 0->h'.objs.size=s.heap.objs.size+2 ->
      (∀ b o,s.heap.get? b=some o->h'.get? b=some o)->Q (.ref (s.heap.objs.size+1)) { s with heap:=h' }):wpAny (model prog w) A (call (.type "enumerate") [.ref l]) Q E s:=by
  obtain⟨⟨c,dct,dt,sl⟩,hl,hc,n,hd⟩:=hL
  replace hc:c=.type "tuple":=hc
  replace hd:dt=.seq items n:=hd
  subst hc hd
  refine callType_new F.called_enumerate (by decide) (F.typeCall_enumerate_1 _) (F.newCall_enumerate_1 _) (fun obj=>F.args_object_init_2 obj _) F.entry_enumerate_new (newT l items n dct sl) ⟨hl,?_⟩
  have hz:(s.heap.push { cls:=.type "tuple_iterator",data:=.fields #[.ref l,.int 0 0] }).objs.size=s.heap.objs.size+1:=Heap.size_push ..
  show _/\_
  rw [hz]
  have he : IsEnum ((s.heap.push { cls := .type "tuple_iterator", data := .fields #[.ref l, .int 0 0] }).push
      { cls:=.type "enumerate",data:=.fields #[.none,.bool false,.ref s.heap.objs.size,rawInt 0,.none,.none] }) (s.heap.objs.size+1) s.heap.objs.size 0 .none:=by
    have:=Heap.get?_push_size (s.heap.push { cls:=.type "tuple_iterator",data:=.fields #[.ref l,.int 0 0] })
      (o:={ cls:=.type "enumerate",data:=.fields #[.none,.bool false,.ref s.heap.objs.size,rawInt 0,.none,.none] }) rfl
    rw [hz] at this;exact this
  exact⟨⟨_,he,rfl⟩,h _ he ⟨_,qc _ (Heap.get?_push_size _ rfl),rfl,rfl⟩ (by rw [Heap.size_push,hz]) fun b o x=>qc _ (qc _ x)⟩
end
def zrW (K:PySem.W.Frag)(l:Addr):It :=
  ⟨fun i H=>∃ xs x,SqT K H l xs/\xs[i]?=some x,
   fun i H v H'=>∃ p,v=.ref p/\H p=none/\∀ xs x,SqT K H l xs->xs[i]?=some x->H'=upd H p (.tup [.int i,x]),
   fun i H=>∃ xs,SqT K H l xs/\xs.length<=i⟩
theorem zp7 {h:Heap}{a b:Addr}{o u:Obj}(ha:h.get? a=some o)(hb:h.get? b=some u)(hc:o.cls≠u.cls):a≠b:=fun e=>by
 subst e
 rw [ha] at hb
 cases hb
 exact hc rfl
theorem zpd {P:Program}{w:World}{K:PySem.W.Frag}{es:List Expr}{kk:Nat}{pos:Pos}{e it l:Addr}(hne:e≠it) :
  Turn P w K (.Tuple es kk pos) (zrW K l) [e,it] e (fun i h=>(∃ old,IsEnum h e it i old)/\h.IsTupleIter it l i) where
 mem:=by simp
 obj:=fun i h st b hb=>by
  obtain⟨⟨old,he⟩,⟨o1,h1,_,h1d⟩⟩:=st
  simp only [qf,qm,or_false] at hb
  rcases hb with rfl | rfl
  ·exact⟨_,he,fun v q=>by cases (show Data.fields _=Data.cell v from q)⟩
  ·exact⟨_,h1,fun v q=>by rw [h1d] at q;cases q⟩
 keep:=fun i h h' st k=>by
  obtain⟨⟨old,he⟩,⟨o,ho,r⟩⟩:=st
  exact⟨⟨old,k e (by simp) _ he⟩,⟨o,k it (by simp) o ho,r⟩⟩
 item:=by
  intro X hP hw hK hc i pins s U H E I hf st hg
  subst hP hw hK
  obtain⟨⟨old,he⟩,h1⟩:=st
  obtain⟨xs,x,hx1,hx⟩:=hg
  obtain⟨its,rx,px,zx⟩:=I.tuple hx1
  obtain⟨u,hu,ru⟩:=Vals.get rx hx
  have pt:s.heap.IsTuple l its.toArray:=px
  obtain⟨oi,ei,ci,_⟩:=id h1
  obtain⟨ol,el,cl,_⟩:=id pt
  have n1:l≠it:=zp7 el ei (by rw [cl,ci];decide)
  have n2:e≠l:=zp7 he el (by rw [cl];show Value.type "enumerate"≠Value.type "tuple";decide)
  have hlt:i<its.toArray.size:=by
   have:=(qP.mp hu).1
   simpa using this
  refine wpAny_pyNext_enum_itemD (zu8 (A:=X.A.in1) (show X.A.in1.handled=none from I.ok.hd hc) it l n1 its.toArray) he ⟨h1,pt⟩ hlt hne (by simp [hne,n2]) fun u' h' tk hP a1 a2 a3 a4 hk=>?_
  have eu:u'=u:=by
   have hP':its.toArray[i]?=some u':=hP
   rw [List.getElem?_toArray,hu] at hP'
   cases hP';rfl
  subst eu
  refine⟨_,rfl,wpAny_letOwnedTupleGo_enum (s:={ s with heap:=h',toks:=tk+1 }) a1 fun h'' he'' hs''=>?_⟩
  have lt:∀ {c o},s.heap.get? c=some o->s.heap.objs.size≠c:=fun q=>Nat.ne_of_gt (qk q)
  have k2:∀ b u,b∉[e,it]->s.heap.get? b=some u->h''.get? b=some u:=fun b u hb q=>by
   simp only [qf,qm,or_false,not_or] at hb
   exact hs''.extBut b u hb.1 (hk b u hb.1 hb.2 q)
  have new:h''.get? s.heap.objs.size=some { cls:=.type "tuple",data:=.seq #[.int i tk,u'] }:=hs''.extBut _ _ (lt he) a3
  refine⟨.ref s.heap.objs.size,upd H s.heap.objs.size (.tup [.int i,x]),I.turnNew (t':=tk+1) hf k2 (qg _) ⟨by show 2<=sizeLine;decide,[.int i tk,u'],.cons ⟨_,rfl⟩ (.cons ru .nil),_,new,rfl,_,rfl⟩,rfl,⟨_,rfl,I.fresh,?_⟩,?_,fun b hb=>?_⟩
  ·intro xs' x' hx1' hx'
   cases I.tuple_inj hx1 hx1'
   rw [hx] at hx'
   cases hx'
   rfl
  ·exact⟨⟨_,he''⟩,a2.1.extBut hs''.extBut (Ne.symm hne)⟩
  ·have:∃ o,s.heap.get? b=some o:=by
    simp only [qf,qm,or_false] at hb
    rcases hb with rfl | rfl
    ·exact⟨_,he⟩
    ·exact⟨_,ei⟩
   obtain⟨o,q⟩:=this
   rw [zaf (lt q).symm]
   exact (hf b hb).1
 done:=by
  intro X hP hw hK hc i pins s U H E I hf st hg
  subst hP hw hK
  obtain⟨⟨old,he⟩,h1⟩:=st
  obtain⟨xs,hx1,hl⟩:=hg
  obtain⟨its,rx,px,zx⟩:=I.tuple hx1
  have n1:=rx.length
  have pt:s.heap.IsTuple l its.toArray:=px
  have hnone:its.toArray[i]?=none:=by rw [List.getElem?_toArray];exact qE (by omega)
  refine wpAny_pyNext_enum_endD (zuu (A:=X.A.in1) (show X.A.in1.handled=none from I.ok.hd hc) it l its.toArray i hnone) he ⟨h1,pt⟩ fun h' hk=>⟨rfl,I.turnedL (t':=s.toks) hf fun b u hb q=>?_⟩
  simp only [qf,qm,or_false,not_or] at hb
  exact hk b u hb.2 q
 self:=fun _ _ _ _ _ st h=>by
  obtain⟨⟨old,he⟩,_⟩:=st
  exact wpAny_pyIter_enum he h
section
variable {X:Cx}
def zvA (K:PySem.W.Frag)(ta:TA):TI:=fun U H R=>ta U H fun vs H1=>∃ l,vs=[.ref l]/\(((∃ xs,SqL K H1 l xs)/\R (Ite K l) H1)\/((∃ xs,SqT K H1 l xs)/\R (zrW K l) H1))
theorem zr8 {es:List Expr}{kk:Nat}{tpos:Pos}{a:Expr}{ta:TA}{p pos:Pos}(hg:Gl X "enumerate")(hm:X.mg "enumerate"=none)(ha:PA X [a] ta)(hs:starEach [a] X.env=[(false,eval a X.env)]:=by rfl) :
    PI X (.Tuple es kk tpos) (.Call (.Name "enumerate" p) [a] [] pos) (zvA X.K ta):=by
  intro pins s U H R I h
  refine Call_ (zcX I hg hm boot_enumerate (PyProof.Rows.callWith_type1 (thn (ha pos pins s U H _ I h) fun us s1 ⟨vs,H1,I1,r1,q1⟩=>?_) hs rfl))
  obtain⟨l,e,q⟩:=q1
  subst e
  obtain⟨u,rfl,ru⟩:=vals1 r1
  cases ru
  rcases q with ⟨⟨xs,hx⟩,q⟩ | ⟨⟨xs,hx⟩,q⟩
  . obtain⟨its,rx,px,zx⟩:=I1.list hx
    refine call_enumerate_list px.isList fun h' he hit hsz hk=>?_
    have I2:Inv X pins U H1 { s1 with heap:=h' }:=I1.kept (t':=s1.toks) hk
    refine wpAny_pyIter_enum (s:={ s1 with heap:=h' }) he ?_
    refine⟨_,_,_,_,H1,rfl,I2,zqb (Nat.ne_of_gt (Nat.lt_succ_self _)),⟨⟨_,he⟩,hit⟩,fun b hb=>?_,q⟩
    have hb':s1.heap.objs.size<=b:=by
      simp only [qf,qm,or_false] at hb
      rcases hb with rfl | rfl<;>first | exact Nat.le_add_right _ _ | exact qg _
    exact I1.fpOk hb' (I1.hok.fresh hb')
  . obtain⟨its,rx,px,zx⟩:=I1.tuple hx
    have pt:s1.heap.IsTuple l its.toArray:=px
    refine zxa pt fun h' he hit hsz hk=>?_
    have I2:Inv X pins U H1 { s1 with heap:=h' }:=I1.kept (t':=s1.toks) hk
    refine wpAny_pyIter_enum (s:={ s1 with heap:=h' }) he ?_
    refine⟨_,_,_,_,H1,rfl,I2,zpd (Nat.ne_of_gt (Nat.lt_succ_self _)),⟨⟨_,he⟩,hit⟩,fun b hb=>?_,q⟩
    have hb':s1.heap.objs.size<=b:=by
      simp only [qf,qm,or_false] at hb
      rcases hb with rfl | rfl<;>first | exact Nat.le_add_right _ _ | exact qg _
    exact I1.fpOk hb' (I1.hok.fresh hb')
end
def zbF:Bool->Heap->Addr->Addr->Nat->Prop
 | true,h,it,l,k=>h.IsListIter it l k
 | false,h,it,l,k=>h.IsTupleIter it l k
def zcm:Bool->Heap->Addr->Array Value->Prop
 | true,h,l,xs=>h.IsList l xs
 | false,h,l,xs=>h.IsTuple l xs
theorem zbF.grow {b:Bool}{h h':Heap}{c it l:Addr}{k:Nat}(x:zbF b h it l k)(e:Heap.ExtBut c h h')(n:it≠c):zbF b h' it l k:=by
 cases b
 ·exact Heap.IsTupleIter.extBut (show h.IsTupleIter it l k from x) e n
 ·exact Heap.IsListIter.extBut (show h.IsListIter it l k from x) e n
theorem zcm.grow {b:Bool}{h h':Heap}{c l:Addr}{xs:Array Value}(x:zcm b h l xs)(e:Heap.ExtBut c h h')(n:l≠c):zcm b h' l xs:=by
 cases b
 ·exact Heap.IsTuple.extBut (show h.IsTuple l xs from x) e n
 ·exact Heap.IsList.extBut (show h.IsList l xs from x) e n
theorem zbF.obj {b:Bool}{h:Heap}{it l:Addr}{k:Nat}(x:zbF b h it l k):∃ o,h.get? it=some o/\(o.cls=.type "list_iterator"\/o.cls=.type "tuple_iterator")/\∃ vs,o.data=.fields vs:=by
 cases b
 ·obtain⟨o,ho,hc,hd⟩:h.IsTupleIter it l k:=x
  exact⟨o,ho,.inr hc,_,hd⟩
 ·obtain⟨o,ho,hc,hd⟩:h.IsListIter it l k:=x
  exact⟨o,ho,.inl hc,_,hd⟩
theorem zbF.at {b:Bool}{h h':Heap}{it l:Addr}{k:Nat}(x:zbF b h it l k)(e:∀ o,h.get? it=some o->h'.get? it=some o):zbF b h' it l k:=by
 cases b
 ·obtain⟨o,ho,hc,hd⟩:h.IsTupleIter it l k:=x
  exact (⟨o,e o ho,hc,hd⟩:h'.IsTupleIter it l k)
 ·obtain⟨o,ho,hc,hd⟩:h.IsListIter it l k:=x
  exact (⟨o,e o ho,hc,hd⟩:h'.IsListIter it l k)
theorem zcm.lt {b:Bool}{h:Heap}{l:Addr}{xs:Array Value}(x:zcm b h l xs):l<h.objs.size:=by
 cases b
 ·obtain⟨o,ho,_⟩:h.IsTuple l xs:=x
  exact qk ho
 ·obtain⟨o,ho,_⟩:h.IsList l xs:=x
  exact qk ho
section
variable {prog:Program}{w:World}{A:Around}{E:Value->Shared->Prop}{s:Shared}
theorem zgN {b:Bool}{it t:Addr}{i:Nat}{items:Array Value}{x:Value}{Q:Value->Shared->Prop}(hit:zbF b s.heap it t i)(ht:zcm b s.heap t items)(hx:items[i]?=some x)
  (hQ:∀ h',zbF b h' it t (i+1)->Heap.SameBut it s.heap h'->Q x { s with heap:=h' }):wpAny (model prog w) A (Builtin.SmallTypes.nextOf (.ref it)) Q E s:=by
 cases b
 ·exact zjC hit ht hx hQ
 ·exact wpAny_nextOf_list_item hit ht hx hQ
theorem zld {b:Bool}{it t:Addr}{i:Nat}{items:Array Value}{Q:Value->Shared->Prop}(hh:A.handled=none)(hit:zbF b s.heap it t i)(ht:zcm b s.heap t items)(hx:items[i]?=none)
  (hE:∀ h' e,Heap.ExtBut it s.heap h'->(∃ o,h'.get? e=some o/\o.cls=.type "StopIteration")->E (.ref e) { s with heap:=h' }):wpAny (model prog w) A (Builtin.SmallTypes.nextOf (.ref it)) Q E s:=by
 cases b
 ·exact zh2 hh hit ht hx hE
 ·exact wpAny_nextOf_list_end hh hit ht hx hE
theorem zoL {b1 b2:Bool}{z TI TO i1 i2 l1 l2:Addr}{k:Nat}{xs ys:Array Value}{x y a b:Value}{Q:Option Value->Shared->Prop}(D:ZipApart z TI TO i1 i2 l1 l2)
  (hz:IsZip s.heap z TI TO .none) (hTI:IsPair s.heap TI (.ref i1) (.ref i2)) (hTO:IsPair s.heap TO a b) (h1:zbF b1 s.heap i1 l1 k) (h2:zbF b2 s.heap i2 l2 k) (hl1:zcm b1 s.heap l1 xs) (hl2:zcm b2 s.heap l2 ys) (hx:xs[k]?=some x) (hy:ys[k]?=some y)
  (hQ:∀ h',IsZip h' z TI TO (rawInt s.heap.objs.size)->IsPair h' TO x y->zbF b1 h' i1 l1 (k+1)->zbF b2 h' i2 l2 (k+1)->IsPair h' s.heap.objs.size x y ->
   (∀ c o,c≠z->c≠TO->c≠i1->c≠i2->s.heap.get? c=some o->h'.get? c=some o)->Q (some (.ref s.heap.objs.size)) { s with heap:=h' }):wpAny (model prog w) A (pyNext (.ref z)) Q E s:=by
 have hT:s.TypeIs (.ref z) "zip":=⟨_,hz,rfl⟩
 unfold pyNext
 refine wpAny_bind (wpAny_attempt (wpAny_callSpecial?_slot (name:=Str.ofString "__next__") hT F.slot_zip_next (wpAny_call_entry F.slot_zip_next hT F.entry_zip_next ?_ (F.args_zip_next_1 _))))
 show wpAny _ _ (field (.ref z) 2 >>= _) _ _ _
 refine wpAny_bind (wpAny_field hz rfl (x:=.bool false) rfl ?_);show wpAny _ _ (field (.ref z) 3 >>= _) _ _ _
 refine wpAny_bind (wpAny_field hz rfl (x:=.ref TI) rfl (wpAny_bind (wpAny_seqItems hTI rfl ?_)));show wpAny _ _ (Builtin.SmallTypes.ownedTupleIsFree (.ref z) >>= _) _ _ _
 refine wpAny_bind ?_;unfold Builtin.SmallTypes.ownedTupleIsFree
 refine wpAny_bind (wpAny_field hz rfl (x:=.none) rfl (wpAny_pure ?_));simp only [if_true]
 refine wpAny_bind (wpAny_rule (wpAny_bind (wpAny_field hz rfl (x:=.ref TO) rfl (wpAny_bind (wpAny_setField_rec hz (by simp) fun g1 z1 e1=>?_)))))
 replace z1:IsZip g1 z TI TO .ellipsis:=z1
 refine wpAny_bind ?_;simp only [List.zipIdx_cons,List.zipIdx_nil,List.forIn_cons,List.forIn_nil]
 refine wpAny_bind (wpAny_bind (wpAny_onRaise ?_));show wpAny _ _ (Builtin.SmallTypes.nextOf (.ref i1) >>= _) _ _ _
 refine wpAny_bind (zgN (h1.grow e1.extBut D.i1z) (hl1.grow e1.extBut D.l1z) hx fun g2 t1 e2=>wpAny_pure ?_)
 have p2:IsPair g2 TO a b:=e2.extBut _ _ D.TOi1 (e1.extBut _ _ D.TOz hTO)
 refine wpAny_bind (wpAny_seqItems p2 rfl (wpAny_bind (wpAny_updateSeq_pair p2 fun g3 p3 e3=>wpAny_bind (wpAny_letGo (wpAny_pure ?_)))))
 replace p3:IsPair g3 TO x b:=p3
 refine wpAny_bind (wpAny_bind (wpAny_onRaise ?_));show wpAny _ _ (Builtin.SmallTypes.nextOf (.ref i2) >>= _) _ _ _
 refine wpAny_bind (zgN (((h2.grow e1.extBut D.i2z).grow e2.extBut D.i12.symm).grow e3.extBut D.TOi2.symm) (((hl2.grow e1.extBut D.l2z).grow e2.extBut D.l2i1).grow e3.extBut D.l2TO) hy fun g4 t2 e4=>wpAny_pure ?_)
 have p4:IsPair g4 TO x b:=e4.extBut _ _ D.TOi2 p3
 refine wpAny_bind (wpAny_seqItems p4 rfl (wpAny_bind (wpAny_updateSeq_pair p4 fun g5 p5 e5=>wpAny_bind (wpAny_letGo (wpAny_pure (wpAny_pure ?_))))))
 replace p5:IsPair g5 TO x y:=p5
 refine wpAny_bind (wpAny_seqItems p5 rfl (wpAny_bind (wpAny_newTuple ?_)))
 have sz:g5.objs.size=s.heap.objs.size:=by rw [e5.1,e4.1,e3.1,e2.1,e1.1]
 have z5:IsZip g5 z TI TO .ellipsis:=e5.extBut _ _ D.TOz.symm (e4.extBut _ _ D.i2z.symm (e3.extBut _ _ D.TOz.symm (e2.extBut _ _ D.i1z.symm z1)))
 have k5:∀ c o,c≠z->c≠TO->c≠i1->c≠i2->s.heap.get? c=some o->g5.get? c=some o:=fun c o c1 c2 c3 c4 e=>e5.extBut _ _ c2 (e4.extBut _ _ c4 (e3.extBut _ _ c2 (e2.extBut _ _ c3 (e1.extBut _ _ c1 e))))
 have u1:zbF b1 g5 i1 l1 (k+1):=((t1.grow e3.extBut D.TOi1.symm).grow e4.extBut D.i12).grow e5.extBut D.TOi1.symm
 have u2:zbF b2 g5 i2 l2 (k+1):=t2.grow e5.extBut D.TOi2.symm
 have zl:z<g5.objs.size:=qk z5
 show wpAny _ _ (Builtin.SmallTypes.ownedTupleHandOut (.ref z) (.ref g5.objs.size) >>= _) _ _ _
 refine wpAny_bind ?_;unfold Builtin.SmallTypes.ownedTupleHandOut
 have z6:IsZip (g5.push { cls:=.type "tuple",data:=.seq #[x,y] }) z TI TO .ellipsis:=qc _ z5
 refine wpAny_bind (wpAny_setField_rec z6 (by simp) fun g7 z7 e7=>?_)
 replace z7:IsZip g7 z TI TO (rawInt g5.objs.size):=z7
 refine wpAny_setField_rec z7 (by simp) fun g8 z8 e8=>?_
 replace z8:IsZip g8 z TI TO (rawInt g5.objs.size):=z8
 have up:∀ c o,c≠z->g5.get? c=some o->g8.get? c=some o:=fun c o c1 e=>e8.extBut _ _ c1 (e7.extBut _ _ c1 (qc _ e))
 have t8:IsPair g8 g5.objs.size x y:=e8.extBut _ _ (Nat.ne_of_gt zl) (e7.extBut _ _ (Nat.ne_of_gt zl) (Heap.get?_push_size _ rfl))
 rw [sz] at z8 t8
 refine wpAny_pure ⟨_,rfl,wpAny_pure ?_⟩
 show Q (some (.ref g5.objs.size)) _
 rw [sz]
 exact hQ g8 z8 (up _ _ D.TOz p5) (u1.at fun o e=>up _ o D.i1z e) (u2.at fun o e=>up _ o D.i2z e) t8 fun c o c1 c2 c3 c4 e=>up c o c1 (k5 c o c1 c2 c3 c4 e)
theorem zp8 {b1 b2:Bool}{z TI TO i1 i2 l1 l2:Addr}{k:Nat}{xs ys:Array Value}{a b:Value}{Q:Option Value->Shared->Prop}(hh:A.handled=none)(D:ZipApart z TI TO i1 i2 l1 l2)
  (hz:IsZip s.heap z TI TO .none) (hTI:IsPair s.heap TI (.ref i1) (.ref i2)) (hTO:IsPair s.heap TO a b) (h1:zbF b1 s.heap i1 l1 k) (h2:zbF b2 s.heap i2 l2 k) (hl1:zcm b1 s.heap l1 xs) (hl2:zcm b2 s.heap l2 ys) (hend:xs[k]?=none\/ys[k]?=none)
  (hQ:∀ h',(∀ c o,c≠z->c≠TO->c≠i1->c≠i2->s.heap.get? c=some o->h'.get? c=some o)->Q none { s with heap:=h' }):wpAny (model prog w) A (pyNext (.ref z)) Q E s:=by
 have hT:s.TypeIs (.ref z) "zip":=⟨_,hz,rfl⟩
 unfold pyNext
 refine wpAny_bind (wpAny_attempt (wpAny_callSpecial?_slot (name:=Str.ofString "__next__") hT F.slot_zip_next (wpAny_call_entry F.slot_zip_next hT F.entry_zip_next ?_ (F.args_zip_next_1 _))))
 have out:∀ h' e,(∀ c o,c≠z->c≠TO->c≠i1->c≠i2->s.heap.get? c=some o->h'.get? c=some o)->(∃ o,h'.get? e=some o/\o.cls=.type "StopIteration") ->
   wpAny (model prog w) A ((isInstance (.ref e) (.type "StopIteration")) >>= fun b=>if b=true then pure none else throw (.ref e)) Q E { s with heap:=h' }:=fun h' e hk he=>by
  obtain⟨o,ho,hc⟩:=he
  exact wpAny_bind (wpAny_isInstance (T:="StopIteration") (b:=true) ⟨o,ho,hc⟩ isSubtype_stop (wpAny_pure (hQ _ hk)))
 show wpAny _ _ (field (.ref z) 2 >>= _) _ _ _
 refine wpAny_bind (wpAny_field hz rfl (x:=.bool false) rfl ?_);show wpAny _ _ (field (.ref z) 3 >>= _) _ _ _
 refine wpAny_bind (wpAny_field hz rfl (x:=.ref TI) rfl (wpAny_bind (wpAny_seqItems hTI rfl ?_)));show wpAny _ _ (Builtin.SmallTypes.ownedTupleIsFree (.ref z) >>= _) _ _ _
 refine wpAny_bind ?_;unfold Builtin.SmallTypes.ownedTupleIsFree
 refine wpAny_bind (wpAny_field hz rfl (x:=.none) rfl (wpAny_pure ?_));simp only [if_true]
 refine wpAny_bind (wpAny_rule (wpAny_bind (wpAny_field hz rfl (x:=.ref TO) rfl (wpAny_bind (wpAny_setField_rec hz (by simp) fun g1 z1 e1=>?_)))))
 replace z1:IsZip g1 z TI TO .ellipsis:=z1
 refine wpAny_bind ?_;simp only [List.zipIdx_cons,List.zipIdx_nil,List.forIn_cons,List.forIn_nil]
 refine wpAny_bind (wpAny_bind (wpAny_onRaise ?_));show wpAny _ _ (Builtin.SmallTypes.nextOf (.ref i1) >>= _) _ _ _
 cases hx:xs[k]? with
 | none =>
  refine wpAny_bind (zld hh (h1.grow e1.extBut D.i1z) (hl1.grow e1.extBut D.l1z) hx fun g2 e e2 ⟨oe,hoe,hce⟩=>?_)
  have z2:IsZip g2 z TI TO .ellipsis:=e2 _ _ D.i1z.symm z1
  have ne:e≠z:=fun q=>by subst q;rw [z2] at hoe;cases hoe;simp at hce
  exact wpAny_setField_rec z2 (by simp) fun g3 _ e3=>out g3 e (fun c o c1 _ c3 _ q=>e3.extBut _ _ c1 (e2 _ _ c3 (e1.extBut _ _ c1 q))) ⟨oe,e3.extBut _ _ ne hoe,hce⟩
 | some x =>
  have hy:ys[k]?=none:=by rcases hend with h | h;rw [hx] at h;cases h;exact h
  refine wpAny_bind (zgN (h1.grow e1.extBut D.i1z) (hl1.grow e1.extBut D.l1z) hx fun g2 t1 e2=>wpAny_pure ?_)
  have p2:IsPair g2 TO a b:=e2.extBut _ _ D.TOi1 (e1.extBut _ _ D.TOz hTO)
  refine wpAny_bind (wpAny_seqItems p2 rfl (wpAny_bind (wpAny_updateSeq_pair p2 fun g3 p3 e3=>wpAny_bind (wpAny_letGo (wpAny_pure ?_)))))
  refine wpAny_bind (wpAny_bind (wpAny_onRaise ?_));show wpAny _ _ (Builtin.SmallTypes.nextOf (.ref i2) >>= _) _ _ _
  refine wpAny_bind (zld hh (((h2.grow e1.extBut D.i2z).grow e2.extBut D.i12.symm).grow e3.extBut D.TOi2.symm) (((hl2.grow e1.extBut D.l2z).grow e2.extBut D.l2i1).grow e3.extBut D.l2TO) hy fun g4 e e4 ⟨oe,hoe,hce⟩=>?_)
  have z4:IsZip g4 z TI TO .ellipsis:=e4 _ _ D.i2z.symm (e3.extBut _ _ D.TOz.symm (e2.extBut _ _ D.i1z.symm z1))
  have ne:e≠z:=fun q=>by subst q;rw [z4] at hoe;cases hoe;simp at hce
  exact wpAny_setField_rec z4 (by simp) fun g5 _ e5=>out g5 e (fun c o c1 c2 c3 c4 q=>e5.extBut _ _ c1 (e4 _ _ c4 (e3.extBut _ _ c2 (e2.extBut _ _ c3 (e1.extBut _ _ c1 q))))) ⟨oe,e5.extBut _ _ ne hoe,hce⟩
end
abbrev itN (b:Bool):String:=if b=true then "list_iterator" else "tuple_iterator"
abbrev zg1 (b:Bool)(h:Heap)(l:Addr):Heap:=h.push { cls:=.type (itN b),data:=.fields #[.ref l,.int 0 0] }
abbrev zg2 (b1 b2:Bool)(h:Heap)(l1 l2:Addr):Heap:=zg1 b2 (zg1 b1 h l1) l2
abbrev zg3 (b1 b2:Bool)(h:Heap)(l1 l2:Addr):Heap:=(zg2 b1 b2 h l1 l2).push { cls:=.type "tuple",data:=.seq #[.ref h.objs.size,.ref (zg1 b1 h l1).objs.size] }
abbrev zg4 (b1 b2:Bool)(h:Heap)(l1 l2:Addr):Heap:=(zg3 b1 b2 h l1 l2).push { cls:=.type "tuple",data:=.seq #[.none,.none] }
abbrev zg5 (b1 b2:Bool)(h:Heap)(l1 l2:Addr):Heap:=(zg4 b1 b2 h l1 l2).push { cls:=.type "zip",data:=.fields #[.none,.bool false,.bool false,.ref (zg2 b1 b2 h l1 l2).objs.size,.ref (zg3 b1 b2 h l1 l2).objs.size] }
theorem zcm.push {b:Bool}{h:Heap}{l:Addr}{xs:Array Value}(x:zcm b h l xs)(o:Obj):zcm b (h.push o) l xs:=by
 cases b
 ·obtain⟨u,hu,r⟩:h.IsTuple l xs:=x
  exact (⟨u,qc _ hu,r⟩:(h.push o).IsTuple l xs)
 ·obtain⟨u,hu,r⟩:h.IsList l xs:=x
  exact (⟨u,qc _ hu,r⟩:(h.push o).IsList l xs)
theorem zx3 (b:Bool)(l1 l2:Addr)(xs ys:Array Value) :
  Meets (Builtin.«zip.__new__» ⟨[.type "zip",.ref l1,.ref l2],[]⟩) (fun _ R s=>zcm b s.heap l1 xs/\zcm b s.heap l2 ys/\R (.ok (.ret (.ref (zg4 b b s.heap l1 l2).objs.size))) { s with heap:=zg5 b b s.heap l1 l2 }):=by
 cases b
 ·exact .of_wp fun prog w A R s h=>by
   obtain⟨hp,g,d,tk,os⟩:=s
   obtain⟨h1,h2,h⟩:=h
   have hsub:=sub_zip
   have q1:Heap.IsTuple (Shared.heap ⟨hp,g,d,tk,os⟩) l1 xs:=h1
   have q2:Heap.IsTuple (Shared.heap ⟨hp.push { cls:=.type "tuple_iterator",data:=.fields #[.ref l1,.int 0 0] },g,d,tk,os⟩) l2 ys:=zcm.push (b:=false) h2 _
   wp_walk using wpAny_pyIter_tuple q1,wpAny_pyIter_tuple q2
   exact⟨_,rfl,h⟩
 ·exact meets_zip_new l1 l2 xs ys
theorem zsh {b:Bool}{h:Heap}{it l:Addr}(e:h.get? it=some { cls:=.type (itN b),data:=.fields #[.ref l,.int 0 0] }):zbF b h it l 0:=by
 cases b
 ·exact (⟨_,e,rfl,rfl⟩:h.IsTupleIter it l 0)
 ·exact (⟨_,e,rfl,rfl⟩:h.IsListIter it l 0)
section
variable {prog:Program}{w:World}{A:Around}{E:Value->Shared->Prop}{s:Shared}
theorem zxk {b:Bool}{l1 l2:Addr}{xs ys:Array Value}{Q:Value->Shared->Prop}(hl1:zcm b s.heap l1 xs)(hl2:zcm b s.heap l2 ys)
  (h:∀ h',IsZip h' (s.heap.objs.size+4) (s.heap.objs.size+2) (s.heap.objs.size+3) .none->IsPair h' (s.heap.objs.size+2) (.ref s.heap.objs.size) (.ref (s.heap.objs.size+1))->IsPair h' (s.heap.objs.size+3) .none .none->zbF b h' s.heap.objs.size l1 0->zbF b h' (s.heap.objs.size+1) l2 0 ->
   (∀ c o,s.heap.get? c=some o->h'.get? c=some o)->Q (.ref (s.heap.objs.size+4)) { s with heap:=h' }):wpAny (model prog w) A (call (.type "zip") [.ref l1,.ref l2]) Q E s:=by
 refine callType_new F.called_zip (by decide) (F.typeCall_zip_2 _ _) (F.newCall_zip_2 _ _) (fun obj=>F.args_object_init_3 obj _ _) F.entry_zip_new (zx3 b l1 l2 xs ys) ⟨hl1,hl2,?_⟩
 have s1:(zg1 b s.heap l1).objs.size=s.heap.objs.size+1:=Heap.size_push ..
 have s2:(zg2 b b s.heap l1 l2).objs.size=s.heap.objs.size+2:=by rw [Heap.size_push,s1]
 have s3:(zg3 b b s.heap l1 l2).objs.size=s.heap.objs.size+3:=by rw [Heap.size_push,s2]
 have s4:(zg4 b b s.heap l1 l2).objs.size=s.heap.objs.size+4:=by rw [Heap.size_push,s3]
 have v1:(zg5 b b s.heap l1 l2).get? s.heap.objs.size=some _:=(fun c o q=>qc _ (qc _ (qc _ (qc _ q))):∀ c o,(zg1 b s.heap l1).get? c=some o->(zg5 b b s.heap l1 l2).get? c=some o) _ _ (Heap.get?_push_size _ rfl)
 have v2:(zg5 b b s.heap l1 l2).get? (zg1 b s.heap l1).objs.size=some _:=(fun c o q=>qc _ (qc _ (qc _ q)):∀ c o,(zg2 b b s.heap l1 l2).get? c=some o->(zg5 b b s.heap l1 l2).get? c=some o) _ _ (Heap.get?_push_size _ rfl)
 have v3:(zg5 b b s.heap l1 l2).get? (zg2 b b s.heap l1 l2).objs.size=some _:=(fun c o q=>qc _ (qc _ q):∀ c o,(zg3 b b s.heap l1 l2).get? c=some o->(zg5 b b s.heap l1 l2).get? c=some o) _ _ (Heap.get?_push_size _ rfl)
 have v4:(zg5 b b s.heap l1 l2).get? (zg3 b b s.heap l1 l2).objs.size=some _:=qc _ (Heap.get?_push_size _ rfl)
 have v5:(zg5 b b s.heap l1 l2).get? (zg4 b b s.heap l1 l2).objs.size=some _:=Heap.get?_push_size _ rfl
 show _/\_
 rw [s2,s3,s4] at v5
 rw [s1,s2] at v3
 rw [s3] at v4
 rw [s1] at v2
 rw [s4]
 exact⟨⟨_,v5,rfl⟩,h _ v5 v3 v4 (zsh v1) (zsh v2) fun c o x=>qc _ (qc _ (qc _ (qc _ (qc _ x))))⟩
end
def SqB (K:PySem.W.Frag)(b:Bool)(H:Hp)(l:Addr)(xs:List V):Prop:=match b with
 | true=>SqL K H l xs
 | false=>SqT K H l xs
theorem SqB.items {X:Cx}{pins:List (Addr×Obj)}{U:L2.St}{H:Hp}{s:Shared}{b:Bool}{l:Addr}{xs:List V}(I:Inv X pins U H s)(h:SqB X.K b H l xs):∃ its:List Value,Vals xs its/\zcm b s.heap l its.toArray:=by
 cases b
 ·obtain⟨its,r,p,_⟩:=I.tuple (show SqT X.K H l xs from h)
  exact⟨its,r,p⟩
 ·obtain⟨its,r,p,_⟩:=I.list (show SqL X.K H l xs from h)
  exact⟨its,r,p.isList⟩
theorem SqB.inj {X:Cx}{pins:List (Addr×Obj)}{U:L2.St}{H:Hp}{s:Shared}{b:Bool}{l:Addr}{xs ys:List V}(I:Inv X pins U H s)(h:SqB X.K b H l xs)(h':SqB X.K b H l ys):xs=ys:=by
 cases b
 ·exact I.tuple_inj (show SqT X.K H l xs from h) h'
 ·exact I.list_inj (show SqL X.K H l xs from h) h'
def zpf (K:PySem.W.Frag)(b1 b2:Bool)(l1 l2:Addr):It :=
  ⟨fun i H=>∃ xs ys x y,SqB K b1 H l1 xs/\SqB K b2 H l2 ys/\xs[i]?=some x/\ys[i]?=some y,
   fun i H v H'=>∃ p,v=.ref p/\H p=none/\∀ xs ys x y,SqB K b1 H l1 xs->SqB K b2 H l2 ys->xs[i]?=some x->ys[i]?=some y->H'=upd H p (.tup [x,y]),
   fun i H=>∃ xs ys,SqB K b1 H l1 xs/\SqB K b2 H l2 ys/\(xs.length<=i\/ys.length<=i)⟩
theorem zpx {P:Program}{w:World}{K:PySem.W.Frag}{es:List Expr}{kk:Nat}{pos:Pos}{b1 b2:Bool}{z TI TO i1 i2 l1 l2:Addr}(D:ZipApart z TI TO i1 i2 l1 l2) :
  Turn P w K (.Tuple es kk pos) (zpf K b1 b2 l1 l2) [z,TI,TO,i1,i2] z (fun i h=>IsZip h z TI TO .none/\IsPair h TI (.ref i1) (.ref i2)/\(∃ a b,IsPair h TO a b)/\zbF b1 h i1 l1 i/\zbF b2 h i2 l2 i) where
 mem:=by simp
 obj:=fun i h st b hb=>by
  obtain⟨hz,hTI,⟨a,c,hTO⟩,q1,q2⟩:=st
  obtain⟨o1,g1,_,_,d1⟩:=q1.obj
  obtain⟨o2,g2,_,_,d2⟩:=q2.obj
  simp only [qf,qm,or_false] at hb
  rcases hb with rfl | rfl | rfl | rfl | rfl
  ·exact⟨_,hz,fun v q=>by cases (show Data.fields _=Data.cell v from q)⟩
  ·exact⟨_,hTI,fun v q=>by cases (show Data.seq _ _=Data.cell v from q)⟩
  ·exact⟨_,hTO,fun v q=>by cases (show Data.seq _ _=Data.cell v from q)⟩
  ·exact⟨_,g1,fun v q=>by rw [d1] at q;cases q⟩
  ·exact⟨_,g2,fun v q=>by rw [d2] at q;cases q⟩
 keep:=fun i h h' st k=>by
  obtain⟨hz,hTI,⟨a,c,hTO⟩,q1,q2⟩:=st
  exact⟨k z (by simp) _ hz,k TI (by simp) _ hTI,⟨a,c,k TO (by simp) _ hTO⟩,q1.at fun o e=>k i1 (by simp) o e,q2.at fun o e=>k i2 (by simp) o e⟩
 item:=by
  intro X hP hw hK hc i pins s U H E I hf st hg
  subst hP hw hK
  obtain⟨hz,hTI,⟨a,c,hTO⟩,q1,q2⟩:=st
  obtain⟨xs,ys,x,y,hx1,hy1,hx,hy⟩:=hg
  obtain⟨its,rx,px⟩:=hx1.items I
  obtain⟨jts,ry,py⟩:=hy1.items I
  obtain⟨u,hu,ru⟩:=Vals.get rx hx
  obtain⟨v,hv,rv⟩:=Vals.get ry hy
  refine zoL D hz hTI hTO q1 q2 px py (by simpa using hu) (by simpa using hv) fun h' a1 a2 a3 a4 a5 hk=>?_
  refine⟨_,rfl,wpAny_letOwnedTupleGo_zip a1 fun h'' hz'' hs''=>?_⟩
  have lt:∀ {c o},s.heap.get? c=some o->s.heap.objs.size≠c:=fun e=>Nat.ne_of_gt (qk e)
  have k2:∀ b u,b∉[z,TI,TO,i1,i2]->s.heap.get? b=some u->h''.get? b=some u:=fun b u hb e=>by
   simp only [qf,qm,or_false,not_or] at hb
   exact hs''.extBut b u hb.1 (hk b u hb.1 hb.2.2.1 hb.2.2.2.1 hb.2.2.2.2 e)
  have new:h''.get? s.heap.objs.size=some { cls:=.type "tuple",data:=.seq #[u,v] }:=hs''.extBut _ _ (lt hz) a5
  refine⟨.ref s.heap.objs.size,upd H s.heap.objs.size (.tup [x,y]),I.turnNew (t':=s.toks) hf k2 (qg _) ⟨by show 2<=sizeLine;decide,[u,v],.cons ru (.cons rv .nil),_,new,rfl,_,rfl⟩,rfl,⟨_,rfl,I.fresh,?_⟩,?_,fun b hb=>?_⟩
  ·intro xs' ys' x' y' hx1' hy1' hx' hy'
   cases hx1.inj I hx1'
   cases hy1.inj I hy1'
   rw [hx] at hx';rw [hy] at hy'
   cases hx';cases hy'
   rfl
  ·exact⟨hz'',hs''.extBut _ _ D.TIz (hk _ _ D.TIz D.TITO D.TIi1 D.TIi2 hTI),⟨_,_,hs''.extBut _ _ D.TOz a2⟩,a3.grow hs''.extBut D.i1z,a4.grow hs''.extBut D.i2z⟩
  ·have:∃ o,s.heap.get? b=some o:=by
    simp only [qf,qm,or_false] at hb
    obtain⟨o1,e1,_⟩:=q1.obj
    obtain⟨o2,e2,_⟩:=q2.obj
    rcases hb with rfl | rfl | rfl | rfl | rfl
    ·exact⟨_,hz⟩
    ·exact⟨_,hTI⟩
    ·exact⟨_,hTO⟩
    ·exact⟨_,e1⟩
    ·exact⟨_,e2⟩
   obtain⟨o,e⟩:=this
   rw [zaf (lt e).symm]
   exact (hf b hb).1
 done:=by
  intro X hP hw hK hc i pins s U H E I hf st hg
  subst hP hw hK
  obtain⟨hz,hTI,⟨a,c,hTO⟩,q1,q2⟩:=st
  obtain⟨xs,ys,hx1,hy1,hl⟩:=hg
  obtain⟨its,rx,px⟩:=hx1.items I
  obtain⟨jts,ry,py⟩:=hy1.items I
  have n1:=rx.length
  have n2:=ry.length
  refine zp8 (I.ok.hd hc) D hz hTI hTO q1 q2 px py ?_ fun h' hk=>⟨rfl,I.turnedL (t':=s.toks) hf fun b u hb e=>?_⟩
  ·rcases hl with hl | hl
   ·exact .inl (by rw [List.getElem?_toArray];exact qE (by omega))
   ·exact .inr (by rw [List.getElem?_toArray];exact qE (by omega))
  ·simp only [qf,qm,or_false,not_or] at hb
   exact hk b u hb.1 hb.2.2.1 hb.2.2.2.1 hb.2.2.2.2 e
 self:=fun _ _ _ _ _ st h=>wpAny_pyIter_zip st.1 h
section
variable {X:Cx}
def zws (K:PySem.W.Frag)(ta:TA):TI:=fun U H R=>ta U H fun vs H1=>∃ b l1 l2,vs=[.ref l1,.ref l2]/\(∃ xs,SqB K b H1 l1 xs)/\(∃ ys,SqB K b H1 l2 ys)/\R (zpf K b b l1 l2) H1
theorem zsX {es:List Expr}{kk:Nat}{tpos:Pos}{a b:Expr}{ta:TA}{p pos:Pos}(hg:Gl X "zip")(hm:X.mg "zip"=none)(ha:PA X [a,b] ta)(hs:starEach [a,b] X.env=[(false,eval a X.env),(false,eval b X.env)]:=by rfl)(hs2:starEach [b] X.env=[(false,eval b X.env)]:=by rfl) :
    PI X (.Tuple es kk tpos) (.Call (.Name "zip" p) [a,b] [] pos) (zws X.K ta):=by
  intro pins s U H R I h
  refine Call_ (zcX I hg hm boot_zip (PyProof.Rows.callWith_type1 (thn (ha pos pins s U H _ I h) fun us s1 ⟨vs,H1,I1,r1,q1⟩=>?_) (by rw [hs,hs2]) (by rw [hs2];rfl)))
  obtain⟨b',l1,l2,e,⟨xs,hx⟩,⟨ys,hy⟩,q⟩:=q1
  subst e
  obtain⟨u,v,rfl,ru,rv⟩:=vals2 r1
  cases ru
  cases rv
  obtain⟨its,rx,px⟩:=hx.items I1
  obtain⟨jts,ry,py⟩:=hy.items I1
  refine zxk px py fun h' hz hTI hTO h1 h2 hk=>?_
  have I2:Inv X pins U H1 { s1 with heap:=h' }:=I1.kept (t':=s1.toks) hk
  refine wpAny_pyIter_zip (s:={ s1 with heap:=h' }) hz ⟨_,_,_,_,H1,rfl,I2,zpx (PyProof.Rows.zipApart_new px.lt py.lt),⟨hz,hTI,⟨_,_,hTO⟩,h1,h2⟩,fun b hb=>?_,q⟩
  have hb':s1.heap.objs.size<=b:=by
    simp only [qf,qm,or_false] at hb
    rcases hb with rfl | rfl | rfl | rfl | rfl<;>first | exact Nat.le_add_right _ _ | exact qg _
  exact I1.fpOk hb' (I1.hok.fresh hb')
end
section
theorem zxP (l:Addr)(items:Array Value)(n:Nat)(b:Addr)(items2:Array Value)(n2:Nat)(dct:Option Addr)(sl:Array (Option Value))(hs0:¬(!items.isEmpty&&Builtin.List.listTooLong (items.size+items2.size))=true)(hs1:items.size<=sizeLine)(hs2:items.size+items2.size<=sizeLine+1) :
  Meets (Builtin.«list.extend» ⟨[.ref l,.ref b],[]⟩) (fun _ R s=>s.heap.get? l=some { cls:=.type "list",dict:=none,data:=.seq items n,slots:=#[] }/\s.heap.get? b=some { cls:=.type "tuple",dict:=dct,data:=.seq items2 n2,slots:=sl }/\R (.ok (.ret Value.none)) { s with heap:=s.heap.update l (Obj.mapSeq fun x=>x++items2),toks:=s.toks }) :=
 .of_wp fun prog w A R s h=>by
  obtain⟨hp,g,d,tk,os⟩:=s
  obtain⟨hl,hb,h⟩:=h
  have f1:=AutoSeq1.idx_int
  have f2:=AutoSeq1.sub_tuple_tuple
  have f3:=AutoSeq1.sub_list_list
  have f4:=AutoSeq1.sub_tuple_list
  have f5:=AutoSeq1.sub_list_tuple
  have hz':(items++items2).size<=sizeLine+1:=by rw [Array.size_append];exact hs2
  wp_walk using (wpAny_updateSeq hl rfl (hz:=hs1) (_hz':=hz')),wpAny_loadPart' hl,wpAny_loadPart' hb
  exact⟨_,rfl,h⟩
end
section
variable {X:Cx}
def zrr (K:PySem.W.Frag):V->List V->Hp->VK->Prop:=fun x vs H Q=>znU x vs H Q\/∃ l b xs zs,x=.ref l/\vs=[.ref b]/\H l=some (.lst xs)/\SqT K H b zs/\xs.length+zs.length<=sizeLine/\Q .non (upd H l (.lst (xs++zs)))
theorem zo1:MtM X "list.extend" (zrr X.K):=by
 intro pins s U H x vs v us Q I rx rv h
 rcases h with h | ⟨l,b,xs,zs,rfl,rfl,hH,hB,hz,q⟩
 ·exact zpt pins s U H x vs v us Q I rx rv h
 cases rx
 obtain⟨u,rfl,ru⟩:=rv.one
 cases ru
 obtain⟨z,its,n,r,hl,e⟩:=I.lstM hH
 obtain⟨its2,r2,⟨⟨c,dct,dt,sl⟩,e2,hc,n2,hd⟩,z2⟩:=I.tuple hB
 replace hc:c=.type "tuple":=hc
 replace hd:dt=.seq its2.toArray n2:=hd
 subst hc hd
 have hl2:=r2.length
 have hsz:its.toArray.size+its2.toArray.size<=sizeLine:=by rw [qi,qi];omega
 have hlong:¬ (!its.toArray.isEmpty&&Builtin.List.listTooLong (its.toArray.size+its2.toArray.size))=true:=by
  rw [zmR hsz,Bool.and_false]
  exact qo
 refine call_meets F.slot_list_extend ⟨_,e,rfl⟩ F.entry_list_extend (F.args_list_extend_2 _ _)
  (zxP l its.toArray n b its2.toArray n2 dct sl hlong (by rw [qi];omega) (by omega)) ⟨e,e2,?_⟩
 refine⟨.non,_,I.lset (its':=its++its2) hH e (by simp) (r.append r2) ?_,rfl,q⟩
 rw [qe]
 omega
end
section
variable {prog:Program}{w:World}{A:Around}{E:Value->Shared->Prop}{s:Shared}
end
section
variable {X:Cx}
end
section
variable {X:Cx}
end
section
variable {X:Cx}
end
section
variable {prog:Program}{w:World}{A:Around}{E:Value->Shared->Prop}{s:Shared}
end
section
variable {prog:Program}{w:World}{A:Around}{E:Value->Shared->Prop}{s:Shared}
end
section
variable {prog:Program}{w:World}{A:Around}{E:Value->Shared->Prop}{s:Shared}
end
section
variable {prog:Program}{w:World}{A:Around}{s:Shared}
abbrev zg7 (prog:Program)(w:World)(h:Heap)(a:Addr)(c:List Str):Prop:=h.SetOf (PySem.strKind prog w) a (fun y=>c.any (·==y)) c.length
theorem zg7.at {h h':Heap}{a:Addr}{c:List Str}(x:zg7 prog w h a c)(k:∀ o,h.get? a=some o->h'.get? a=some o):zg7 prog w h' a c :=
 let ⟨o,es,ep,t,ho,r⟩:=x;⟨o,es,ep,t,k o ho,r⟩
theorem loopS {R:Result->Shared->Prop}{it a:Addr}{fp wr:List Addr}{G:Array GenState->Array GenState->Prop}{n:Nat}{P:Nat->Value->Prop}{St:Nat->Shared->Prop}
  (W:WalksS prog w A.in1 it fp wr G n P St) (na:a∉fp) (f:Nat->Str) (hf:∀ i v,P i v->∃ t,v=.str (f i) t) (hb:n+1<scanBound) :
  ∀ (k i:Nat) (s:Shared),n-i=k->i<=n->St i s->zg7 prog w s.heap a (Dp.zda f i) ->
   (∀ s',Moved (a::wr) G s s'->zg7 prog w s'.heap a (Dp.zda f n)->R (.ok (.ret .none)) s') ->
   codeAny (model prog w) A (.builtin "set.update.loop" ⟨[.ref a,.ref it],[]⟩) R s
 | 0,i,s,hk,hi,st,hS,hR=>by
  have e:i=n:=by omega
  subst e
  refine codeAny_builtin PyProof.Rows.F.entry_set_update_loop ?_
  rw [Around.under_plainId PyProof.Rows.F.plain_set_update_loop]
  show wpAny _ A.in1 (pyNext (.ref it) >>= _) _ _ _
  refine wpAny_bind (W.done s _ _ st fun s' m=>wpAny_pure (hR s' (m.mono fun b q=>qs _ q) ?_))
  exact hS.at fun o q=>m.heap a o (fun z=>na (W.sub _ z)) q
 | k+1,i,s,hk,hi,st,hS,hR=>by
  refine codeAny_builtin PyProof.Rows.F.entry_set_update_loop ?_
  rw [Around.under_plainId PyProof.Rows.F.plain_set_update_loop]
  show wpAny _ A.in1 (pyNext (.ref it) >>= _) _ _ _
  refine wpAny_bind (W.item i s _ _ (by omega) st fun v s1 pv st1 m=>?_)
  obtain⟨t,rfl⟩:=hf i v pv
  have h1:zg7 prog w s1.heap a (Dp.zda f i):=hS.at fun o q=>m.heap a o (fun z=>na (W.sub _ z)) q
  show wpAny _ A.in1 (holding [Value.str (f i) t] (setAdd a (Value.str (f i) t)) >>= _) _ _ _
  refine wpAny_bind (wpAny_holding ?_)
  unfold setAdd
  refine wpAny_holding (wpAny_bind ((PySem.strKind prog w).pyHash (k:=f i) (strKind_is _ _ _ _) ?_))
  have room:(Dp.zda f i).length+1<scanBound:=by have:=Dp.zkB f i;omega
  refine wpAny_setAddHashed_of (knd:=PySem.strKind prog w) (s:={ s1 with toks:=s1.toks+1 }) (strKind_is _ _ _ _) rfl h1 room fun h2 sb hS2=>?_
  have h3:zg7 prog w h2 a (Dp.zda f (i+1)):=SetOf_congr hS2 (fun y=>(Dp.zm2 _ _ _).symm) (Dp.zji _ _).symm
  refine wpAny_pure ⟨plainId_quiet PyProof.Rows.F.plain_set_update_loop _,loopS W na f hf hb k (i+1) _ (by omega) (by omega) (W.frame _ s1 _ _ st1 (Nat.le_succ _) fun b q o e=>?_) h3 fun s' m' hS'=>?_⟩
  ·exact (sb.2 b fun z=>na (z▸q)).trans e
  ·refine hR s' (Moved.trans W.gtrans ((m.mono fun b q=>qs _ q).then_heap (Nat.le_succ _) fun b o q e=>?_) m') hS'
   exact (sb.2 b fun z=>q (z▸List.mem_cons_self)).trans e
end
section
variable {prog:Program}{w:World}{A:Around}{E:Value->Shared->Prop}{s:Shared}
abbrev zhN (led:Bool):Obj:={ cls:=.type "set",dict:=none,data:=.set #[] 0 (.fresh 0 0 led) }
theorem zqN {l:Addr}{its:Array Value}(f:Nat->Str){Q:Value->Shared->Prop}(hh:A.handled=none)(hl:s.heap.IsList l its)(hf:∀ (i:Nat) v,its[i]?=some v->∃ t,v=.str (f i) t)(hb:its.size+1<scanBound)
    (h:∀ (h':Heap) (tk:Nat),zg7 prog w h' s.heap.objs.size (Dp.zda f its.size)->(∀ b o,b<s.heap.objs.size->s.heap.get? b=some o->h'.get? b=some o)->Q (.ref s.heap.objs.size) { s with heap:=h',toks:=tk }) :
    wpAny (model prog w) A (call (.type "set") [.ref l]) Q E s:=by
  have ft:=F.called_set
  obtain⟨c,tl,hmro⟩:=ft.mro
  have hmade:=ft.made
  have hsub:=ft.sub
  have h1:=ft.notType
  have h2:=ft.canCreate
  have hct:=F.typeCall_set_1 (.ref l)
  refine wpAny_call (codeAny_of_tree ?_)
  show wpAny _ _ (callAny (.type "set") _) _ _ s
  refine wpAny_pure ⟨Code.quiet_builtin _ (by decide +kernel),codeAny_builtin F.entry_type_call ?_⟩
  rw [Around.under_plain (weight_type_call_type "set" [Value.ref l] []) rfl]
  repeat (any_goals (first | assumption | wp_step))
  refine codeAny_mono (code_set_new_1 (.ref l) (E:=E) (Q₁:=fun v s1=>∃ led:Bool,v=.ref s.heap.objs.size/\s1={ s with heap:=s.heap.push (zhN led) }) fun led=>⟨led,rfl,rfl⟩) fun r s1 hr=>?_
  cases r with
  | error e=>exact hr
  | ok fl =>
    cases fl with
    | ret v =>
      obtain⟨led,rfl,rfl⟩:=hr
      have e0:(s.heap.push (zhN led)).get? s.heap.objs.size=some (zhN led):=Heap.get?_push_size _ rfl
      have hT:Shared.TypeIs { s with heap:=s.heap.push (zhN led) } (.ref s.heap.objs.size) "set":=⟨_,e0,rfl⟩
      have hli:=ft.init.lookup
      have hbi:=ft.init.bind (.ref s.heap.objs.size)
      repeat (any_goals (first | assumption | wp_step))
      refine codeAny_mono (codeAny_call_builtin (R:=wants (fun r s2=>r=.none/\∃ h' tk,s2={ s with heap:=h',toks:=tk }/\zg7 prog w h' s.heap.objs.size (Dp.zda f its.size)/\∀ b o,b<s.heap.objs.size->s.heap.get? b=some o->h'.get? b=some o) E) ft.init.plain F.entry_set_init (check_set_init_1 hT ?_)) fun r2 s2 hr2=>?_
      . obtain⟨ol,hol,hcl,nl,hdl⟩:=hl
        obtain⟨ocl,odi,oda,osl⟩:=ol
        simp only at hcl hdl
        subst hcl hdl
        have hol2:(s.heap.push (zhN led)).get? l=some { cls:=.type "list",dict:=odi,data:=.seq its nl,slots:=osl }:=qc _ hol
        have k1:=F.sub_list_set
        have k2:=F.sub_list_frozenset
        have k3:(Value.type "list"==Value.type "dict")=false:=by decide
        have hl1:(s.heap.push (zhN led)).IsList l its:=⟨_,hol2,rfl,nl,rfl⟩
        unfold Builtin.«set.__init__» noKeywords Builtin.Frozenset.updateFrom
        generalize hPI:pyIter=PI
        wp_walk
        subst hPI
        refine wpAny_pyIter_list hl1 (wpAny_bind (wpAny_runValue ?_))
        have ll:l<s.heap.objs.size:=qk hol
        have n1:l≠(s.heap.push (zhN led)).objs.size:=by rw [Heap.size_push];exact qB (Nat.lt_succ_of_lt ll)
        have n2:s.heap.objs.size∉[(s.heap.push (zhN led)).objs.size,l]:=by
          rw [Heap.size_push]
          intro z
          rcases qf.mp z with z | z
          . exact qB (Nat.lt_succ_self _) z
          . exact Nat.ne_of_gt ll (List.mem_singleton.mp z)
        refine loopS ((Walks.list (show _=none by simp [hh]) _ l n1 its).toS) n2 f hf hb (its.size-0) 0 _ (by omega) (qJ _) ⟨⟨_,Heap.get?_push_size _ rfl,rfl,rfl⟩,hl1.push _⟩ ?_ fun s' m hS'=>?_
        . exact SetOf_congr ((setObjOf_fresh (knd:=PySem.strKind prog w) led).setOf (qc _ e0) (by unfold scanBound;omega)) (fun _=>rfl) rfl
        . obtain⟨h',g',d',tk',os'⟩:=s'
          cases (show g'=s.gens from m.gens)
          cases (show d'=s.drawn from m.drawn)
          cases (show os'=s.os from m.os)
          show wpAny _ _ _ _ _ _
          refine wpAny_pure (wpAny_pure ⟨rfl,h',tk',rfl,hS',fun b o q e=>?_⟩)
          refine m.heap b o (fun z=>?_) (qc _ (qc _ e))
          rcases qf.mp z with z | z
          . exact qB q z
          . have z':=List.mem_singleton.mp z
            rw [Heap.size_push] at z'
            exact qB (Nat.lt_succ_of_lt q) z'
      . cases r2 with
        | error e=>exact hr2
        | ok fl2 =>
          cases fl2 with
          | ret r =>
            obtain⟨rfl,h',tk,rfl,hS',kp⟩:=hr2
            repeat (any_goals (first | assumption | wp_step))
            exact h _ _ hS' kp
          | _=>exact hr2.elim
    | _=>exact hr.elim
end
def zwj (K:PySem.W.Frag)(ta:TA):TE:=fun U H Q=>ta U H fun vs H1=>∃ l,∃ zs:List Str,vs=[.ref l]/\SqL K H1 l (zs.map V.str)/\zs.length<=4000/\Q (.int (Dp.zda (fun i=>zs.getD i Str.empty) zs.length).length) H1
theorem zm0:∀ {zs:List Str} {us:List Value},Vals (zs.map V.str) us->∀ (i:Nat) v,us[i]?=some v->∃ t,v=.str (zs.getD i Str.empty) t
 | [],_,.nil,i,v,e=>by simp at e
 | z::zs,_,.cons r t,0,v,e=>by
  obtain⟨t,rfl⟩:=r
  simp at e
  exact⟨t,e.symm⟩
 | z::zs,_,.cons r t,i+1,v,e=>by
  obtain⟨t,h⟩:=zm0 t i v (by simpa using e)
  exact⟨t,by rw [h];simp⟩
theorem ztw {X:Cx}{a:Expr}{ta:TA}{p1 p2 pos1 pos2:Pos}(hc:X.calm=true)(hgl:Gl X "len")(hml:X.mg "len"=none)(hgr:Gl X "set")(hmr:X.mg "set"=none)(ha:PA X [a] ta)
  (hs:starEach [a] X.env=[(false,eval a X.env)]:=by rfl)
  (hs3:starEach [.Call (.Name "set" p2) [a] [] pos2] X.env=[(false,eval (.Call (.Name "set" p2) [a] [] pos2) X.env)]:=by rfl) :
  PE X (.Call (.Name "len" p1) [.Call (.Name "set" p2) [a] [] pos2] [] pos1) (zwj X.K ta):=by
 intro pins s U H Q I h
 refine Call_ (zcX I hgl hml boot_len (PyProof.Rows.callWith_builtin1 ?_ (by rw [hs3];rfl) (by rfl)))
 rw [hs3]
 show wpAny _ _ (spliced ((false,eval (.Call (.Name "set" p2) [a] [] pos2) X.env)::backTo pos1 [])) _ _ s
 refine Calls.spliced_cons (Call_ (zcX I hgr hmr boot_set (PyProof.Rows.callWith_type1 (thn (ha pos2 pins s U H _ I h) fun us s1 ⟨vs,H1,I1,r1,q1⟩=>?_) hs rfl)))
 obtain⟨l,zs,e,hx,h4,q⟩:=q1
 subst e
 obtain⟨u,rfl,ru⟩:=vals1 r1
 cases ru
 obtain⟨its,rx,px,zx⟩:=I1.list hx
 have sz:its.toArray.size=zs.length:=by rw [qi,<- rx.length,qa]
 refine zqN (fun i=>zs.getD i Str.empty) (show _=none from I1.ok.hd hc) px.isList (fun i v e=>zm0 rx i v (by simpa using e)) (by rw [sz];unfold scanBound;omega) fun h' tk hS kp=>Calls.spliced_nil ?_
 rw [sz] at hS
 have le:=Dp.zkB (fun i=>zs.getD i Str.empty) zs.length
 obtain⟨o,es,ep,t,ho,hex,hd,_,_,_,hf,hn⟩:=hS
 refine call_len_set ho hex hd hf (by omega) ?_
 rw [hn]
 exact⟨.int _,H1,I1.kept (t':=tk+1+1) (fun b o q=>kp b o (qk q) q),⟨_,rfl⟩,q⟩
end My
namespace Dp
open PySem PySem.Spec PyProof.Rows L2 My
def isStar:Expr->Bool
 | .Starred _ _=>true
 | _=>false
theorem zbK {e:Expr}{es:List Expr}{env:Env}(h:isStar e=false):starEach (e::es) env=(false,eval e env)::starEach es env:=by
  cases e<;>first | rfl | cases h
theorem zd2 {pos:Pos}{env:Env}:∀ {es:List Expr},es.all (fun e=>!isStar e)=true->(backTo pos (starEach es env)).any (·.1)=false
 | [],_=>rfl
 | e::es,h=>by
  rw [List.all_cons,qA] at h
  rw [zbK (by simpa using h.1)]
  show (false||(backTo pos (starEach es env)).any (·.1))=false
  rw [zd2 h.2];rfl
theorem zdY {e:Expr}{env:Env}(h:isStar e=false):starEach [e] env=[(false,eval e env)]:=zbK h
theorem zjf {e g:Expr}{env:Env}(h:isStar e=false)(k:isStar g=false):starEach [e,g] env=[(false,eval e env),(false,eval g env)]:=by rw [zbK h,zdY k]
def zjj (K:PySem.W.Frag)(H:Hp)(a:Addr)(xs:List V):Prop :=
 (∃ o,H a=some (.frz o (.lst xs)))\/∃ (o:Obj) (its:Array Value) (n:Nat),K.lookup a=some o/\o.cls=.type "list"/\o.dict=none/\o.data=.seq its n/\its.size<=sizeLine/\Vals xs its.toList
theorem zjj.sq {K:PySem.W.Frag}{H:Hp}{a:Addr}{xs:List V}(h:zjj K H a xs):SqL K H a xs:=h.imp (fun h=>.inr h) id
mutual
inductive Rel (K:PySem.W.Frag)(ad:List Addr)(H:Hp):D->V->Prop
 | non:Rel K ad H .non .non
 | bl (b:Bool):Rel K ad H (.bl b) (.bl b)
 | int (i:Int):Rel K ad H (.int i) (.int i)
 | str (x:Str):Rel K ad H (.str x) (.str x)
 | ty (n:String):Rel K ad H (.ty n) (.ty n)
 | tup {a:Addr} {vs:List V} {ds:List D}:H a=some (.tup vs)->zK K ad H ds vs->Rel K ad H (.tup ds) (.ref a)
 | rl {a:Addr} {vs:List V} {ds:List D}:zjj K H a vs->zK K ad H ds vs->Rel K ad H (.rl ds) (.ref a)
 | ref {n:Nat} {a:Addr}:ad[n]?=some a->Rel K ad H (.ref n) (.ref a)
 | exn {c:Str} {a C:Addr} {o:Obj} {u:HO}:H a=some (.frz o u)->o.cls=.ref C->PySem.W.nsIn K mainGlobals c=some (some (.ref C))->Rel K ad H (.exn c) (.ref a)
inductive zK (K:PySem.W.Frag)(ad:List Addr)(H:Hp):List D->List V->Prop
 | nil:zK K ad H [] []
 | cons {d:D} {v:V} {ds:List D} {vs:List V}:Rel K ad H d v->zK K ad H ds vs->zK K ad H (d::ds) (v::vs)
end
structure Wd (ad:List Addr)(H:Hp)(ad':List Addr)(H':Hp):Prop where
 pre:ad <+: ad'
 keep:∀ b o,b∉ad->H b=some o->H' b=some o
 tup:∀ b xs,H b=some (.tup xs)->H' b=some (.tup xs)
 frz:∀ b o u,H b=some (.frz o u)->H' b=some (.frz o u)
 new:∀ b,b∈ad'->b∉ad->H b=none
theorem Wd.refl {ad:List Addr}{H:Hp}:Wd ad H ad H:=⟨List.prefix_refl _,fun _ _ _ h=>h,fun _ _ h=>h,fun _ _ _ h=>h,fun _ h n=>absurd h n⟩
theorem Wd.trans {ad ad1 ad2:List Addr}{H H1 H2:Hp}(a:Wd ad H ad1 H1)(b:Wd ad1 H1 ad2 H2):Wd ad H ad2 H2 where
 pre:=a.pre.trans b.pre
 keep:=fun c o hc h=>b.keep c o (fun h1=>by rw [a.new c h1 hc] at h;cases h) (a.keep c o hc h)
 tup:=fun c xs h=>b.tup c xs (a.tup c xs h)
 frz:=fun c o u h=>b.frz c o u (a.frz c o u h)
 new:=fun c h2 hc=>by
  by_cases h1:c∈ad1
  ·exact a.new c h1 hc
  ·have n1:=b.new c h2 h1
   cases e:H c with
   | none=>rfl
   | some o=>rw [a.keep c o hc e] at n1;cases n1
theorem zkL {α:Type}{l l':List α}(h:l <+: l'){n:Nat}{a:α}(e:l[n]?=some a):l'[n]?=some a:=by
 obtain⟨t,rfl⟩:=h
 rw [qv (My.zbb e)];exact e
structure Wr (ad:List Addr)(H:Hp)(ad':List Addr)(H':Hp):Prop where
 pre:ad <+: ad'
 tup:∀ b xs,H b=some (.tup xs)->H' b=some (.tup xs)
 frz:∀ b o u,H b=some (.frz o u)->H' b=some (.frz o u)
theorem Wd.wr {ad ad':List Addr}{H H':Hp}(w:Wd ad H ad' H'):Wr ad H ad' H':=⟨w.pre,w.tup,w.frz⟩
theorem zjj.wr {K:PySem.W.Frag}{ad ad':List Addr}{H H':Hp}{a:Addr}{xs:List V}(w:Wr ad H ad' H')(h:zjj K H a xs):zjj K H' a xs:=h.imp (fun⟨o,e⟩=>⟨o,w.frz _ _ _ e⟩) id
mutual
theorem Rel.wr {K:PySem.W.Frag}{ad ad':List Addr}{H H':Hp}(w:Wr ad H ad' H'):∀ {d:D} {v:V},Rel K ad H d v->Rel K ad' H' d v
 | _,_,.non=>.non
 | _,_,.bl b=>.bl b
 | _,_,.int i=>.int i
 | _,_,.str x=>.str x
 | _,_,.ty n=>.ty n
 | _,_,.tup h r=>.tup (w.tup _ _ h) (zK.wr w r)
 | _,_,.rl h r=>.rl (h.wr w) (zK.wr w r)
 | _,_,.ref h=>.ref (zkL w.pre h)
 | _,_,.exn h e n=>.exn (w.frz _ _ _ h) e n
theorem zK.wr {K:PySem.W.Frag}{ad ad':List Addr}{H H':Hp}(w:Wr ad H ad' H'):∀ {ds:List D} {vs:List V},zK K ad H ds vs->zK K ad' H' ds vs
 | _,_,.nil=>.nil
 | _,_,.cons r t=>.cons (Rel.wr w r) (zK.wr w t)
end
theorem Rel.wd {K:PySem.W.Frag}{ad ad':List Addr}{H H':Hp}{d:D}{v:V}(r:Rel K ad H d v)(w:Wd ad H ad' H'):Rel K ad' H' d v:=Rel.wr w.wr r
theorem zK.wd {K:PySem.W.Frag}{ad ad':List Addr}{H H':Hp}{ds:List D}{vs:List V}(r:zK K ad H ds vs)(w:Wd ad H ad' H'):zK K ad' H' ds vs:=zK.wr w.wr r
section
variable {K:PySem.W.Frag}{ad:List Addr}{H:Hp}
theorem zK.length:∀ {ds:List D} {vs:List V},zK K ad H ds vs->ds.length=vs.length
  | _,_,.nil=>rfl
  | _,_,.cons _ t=>congrArg (· + 1) (zK.length t)
theorem zK.get:∀ {ds:List D} {vs:List V} {i:Nat} {d:D},zK K ad H ds vs->ds[i]?=some d->∃ v,vs[i]?=some v/\Rel K ad H d v
 | _,_,_,_,.nil,e=>by simp at e
 | _,_,0,_,.cons r _,e=>by simp at e;subst e;exact⟨_,rfl,r⟩
 | _,_,i+1,d,.cons _ t,e=>by
  obtain⟨v,h1,h2⟩:=zK.get (i:=i) (d:=d) t (by simpa using e)
  exact⟨v,by simpa using h1,h2⟩
theorem zK.append:∀ {ds es:List D} {vs us:List V},zK K ad H ds vs->zK K ad H es us->zK K ad H (ds++es) (vs++us)
 | _,_,_,_,.nil,s=>s
 | _,_,_,_,.cons r t,s=>.cons r (zK.append t s)
theorem zK.take:∀ {ds:List D} {vs:List V} (n:Nat),zK K ad H ds vs->zK K ad H (ds.take n) (vs.take n)
 | _,_,0,_=>.nil
 | _,_,_+1,.nil=>.nil
 | _,_,n+1,.cons r t=>.cons r (zK.take n t)
theorem zK.drop:∀ {ds:List D} {vs:List V} (n:Nat),zK K ad H ds vs->zK K ad H (ds.drop n) (vs.drop n)
 | _,_,0,r=>r
 | _,_,_+1,.nil=>.nil
 | _,_,n+1,.cons _ t=>zK.drop n t
theorem zK.set {d:D}{v:V}(r:Rel K ad H d v):∀ {ds:List D} {vs:List V} (i:Nat),zK K ad H ds vs->zK K ad H (ds.set i d) (vs.set i v)
 | _,_,_,.nil=>.nil
 | _,_,0,.cons _ t=>.cons r t
 | _,_,i+1,.cons q t=>.cons q (zK.set r i t)
theorem zK.ints:∀ {ns:List Int} {vs:List V},zK K ad H (ns.map D.int) vs->vs=ns.map V.int
 | [],_,.nil=>rfl
 | n::ns,_,.cons r t=>by cases r;rw [zK.ints t];rfl
theorem zK.bls:∀ {ns:List Bool} {vs:List V},zK K ad H (ns.map D.bl) vs->vs=ns.map V.bl
 | [],_,.nil=>rfl
 | n::ns,_,.cons r t=>by cases r;rw [zK.bls t];rfl
theorem zK.mk_ints:∀ (ns:List Int),zK K ad H (ns.map D.int) (ns.map V.int)
 | []=>.nil
 | n::ns=>.cons (.int n) (zK.mk_ints ns)
end
inductive za1 (K:PySem.W.Frag)(ad:List Addr)(H:Hp):List (Str×D)->List (Str×V)->Prop
 | nil:za1 K ad H [] []
 | cons {f:Str} {d:D} {v:V} {fs:List (Str×D)} {vs:List (Str×V)}:Rel K ad H d v->za1 K ad H fs vs->za1 K ad H ((f,d)::fs) ((f,v)::vs)
theorem za1.wr {K:PySem.W.Frag}{ad ad':List Addr}{H H':Hp}(w:Wr ad H ad' H'):∀ {fs:List (Str×D)} {vs:List (Str×V)},za1 K ad H fs vs->za1 K ad' H' fs vs
 | _,_,.nil=>.nil
 | _,_,.cons r t=>.cons (Rel.wr w r) (za1.wr w t)
theorem za1.look {K:PySem.W.Frag}{ad:List Addr}{H:Hp}{f:Str}:∀ {fs:List (Str×D)} {vs:List (Str×V)} {d:D},za1 K ad H fs vs->fs.lookup f=some d->∃ v,vs.lookup f=some v/\Rel K ad H d v
 | _,_,d,.nil,e=>by simp at e
 | _,_,d,@za1.cons _ _ _ g x v fs vs r t,e=>by
  rw [qj] at e ⊢
  cases h:f==g with
  | true=>rw [h] at e;cases e;exact⟨v,rfl,r⟩
  | false=>rw [h] at e;exact za1.look t e
theorem za1.put {K:PySem.W.Frag}{ad:List Addr}{H:Hp}{f:Str}{d:D}{v:V}(rd:Rel K ad H d v):∀ {fs:List (Str×D)} {vs:List (Str×V)},za1 K ad H fs vs->za1 K ad H (putD f d fs) (zca f v vs)
 | _,_,.nil=>.cons rd .nil
 | _,_,@za1.cons _ _ _ g x u fs vs r t=>by
  show za1 K ad H (if g=f then (g,d)::fs else (g,x)::putD f d fs) (if g=f then (g,v)::vs else (g,u)::zca f v vs)
  by_cases h:g=f
  ·rw [if_pos h,if_pos h];exact .cons rd t
  ·rw [if_neg h,if_neg h];exact .cons r (za1.put rd t)
theorem za1.length {K:PySem.W.Frag}{ad:List Addr}{H:Hp}:∀ {fs:List (Str×D)} {vs:List (Str×V)},za1 K ad H fs vs->fs.length=vs.length
  | _,_,.nil=>rfl
  | _,_,.cons _ t=>congrArg (· + 1) (za1.length t)
theorem zmY {f:Str}{d:D}{q:Str×D}:∀ {fs:List (Str×D)},q∈putD f d fs->q.1=f\/q∈fs
 | [],h=>by
  have:q=(f,d):=by simpa [putD] using h
  subst this;exact .inl rfl
 | (g,x)::fs,h=>by
  have h:q∈if g=f then (g,d)::fs else (g,x)::putD f d fs:=h
  by_cases e:g=f
  ·rw [if_pos e] at h
   rcases qf.mp h with rfl | h
   ·exact .inl e
   ·exact .inr (qs _ h)
  ·rw [if_neg e] at h
   rcases qf.mp h with rfl | h
   ·exact .inr (by simp)
   ·exact (zmY h).imp id (qs _)
theorem zmN {f:Str}{d:D}:∀ {fs:List (Str×D)},fs.lookup f=some d->∃ q∈fs,q.1=f
 | [],e=>by simp at e
 | (g,x)::fs,e=>by
  rw [qj] at e
  cases h:f==g with
  | true=>exact⟨(g,x),by simp,(eq_of_beq h).symm⟩
  | false =>
   rw [h] at e
   obtain⟨q,hq,e'⟩:=zmN e
   exact⟨q,qs _ hq,e'⟩
inductive RelK (K:PySem.W.Frag)(ad:List Addr)(H:Hp):List (Str×D)->List (Key×V)->Prop
 | nil:RelK K ad H [] []
 | cons {x:Str} {d:D} {v:V} {fs:List (Str×D)} {vs:List (Key×V)}:Rel K ad H d v->RelK K ad H fs vs->RelK K ad H ((x,d)::fs) ((.inr x,v)::vs)
inductive zdX (K:PySem.W.Frag)(ad:List Addr)(H:Hp):List (List Key×D)->List (List Key×V)->Prop
 | nil:zdX K ad H [] []
 | cons {x:List Key} {d:D} {v:V} {fs:List (List Key×D)} {vs:List (List Key×V)}:Rel K ad H d v->zdX K ad H fs vs->zdX K ad H ((x,d)::fs) ((x,v)::vs)
theorem RelK.wr {K:PySem.W.Frag}{ad ad':List Addr}{H H':Hp}(w:Wr ad H ad' H'):∀ {fs:List (Str×D)} {vs:List (Key×V)},RelK K ad H fs vs->RelK K ad' H' fs vs
 | _,_,.nil=>.nil
 | _,_,.cons r t=>.cons (Rel.wr w r) (RelK.wr w t)
theorem zdX.wr {K:PySem.W.Frag}{ad ad':List Addr}{H H':Hp}(w:Wr ad H ad' H'):∀ {fs:List (List Key×D)} {vs:List (List Key×V)},zdX K ad H fs vs->zdX K ad' H' fs vs
 | _,_,.nil=>.nil
 | _,_,.cons r t=>.cons (Rel.wr w r) (zdX.wr w t)
def zdz (K:PySem.W.Frag)(ad:List Addr)(H:Hp)(a:Addr):Cell->Prop
 | .lst ds=>∃ vs,H a=some (.lst vs)/\zK K ad H ds vs
 | .ins c fs=>∃ C dx vs,H a=some (.ins C dx vs)/\Cls K C/\PySem.W.nsIn K mainGlobals c=some (some (.ref C))/\za1 K ad H fs vs/\∀ q∈fs,zaC K C q.1
 | .dk kvs=>∃ vs,H a=some (.dK vs)/\RelK K ad H kvs vs
 | .dt kvs=>∃ vs,H a=some (.dT vs)/\zdX K ad H kvs vs
class Bs where
 ad:List Addr
 H:Hp
structure zT [B:Bs](K:PySem.W.Frag)(ad:List Addr)(H:Hp)(S:Sto):Prop where
 wd:Wd B.ad B.H ad H
 len:ad.length=S.length
 nd:ad.Nodup
 cell:∀ (n:Nat) (a:Addr) (c:Cell),ad[n]?=some a->S[n]?=some c->zdz K ad H a c
structure zaQ (K:PySem.W.Frag)(ad:List Addr)(H:Hp)(Z:Rho)(U:L2.St):Prop where
 len:Z.length=U.length
 val:∀ (i:Nat) (d:D),Z[i]?=some (some d)->∃ v,U[i]?=some (some v)/\Rel K ad H d v
theorem zaQ.wd {K:PySem.W.Frag}{ad ad':List Addr}{H H':Hp}{Z:Rho}{U:L2.St}(h:zaQ K ad H Z U)(w:Wd ad H ad' H'):zaQ K ad' H' Z U :=
 ⟨h.len,fun i d e=>let ⟨v,e',r⟩:=h.val i d e;⟨v,e',r.wd w⟩⟩
variable [B:Bs]
section
variable {K:PySem.W.Frag}{ad:List Addr}{H:Hp}{S:Sto}
theorem zT.get (st:zT K ad H S){n:Nat}{c:Cell}(h:S[n]?=some c):∃ a,ad[n]?=some a/\zdz K ad H a c:=by
 have hn:n<ad.length:=by rw [st.len];exact My.zbb h
 exact⟨ad[n],qb hn,st.cell n _ c (qb hn) h⟩
theorem zdz.some {a:Addr}{c:Cell}(h:zdz K ad H a c):∃ o,H a=some o:=by
 cases c with
 | lst ds=>obtain⟨vs,e,_⟩:=h;exact⟨_,e⟩
 | ins c fs=>obtain⟨C,dx,vs,e,_⟩:=h;exact⟨_,e⟩
 | dk kvs=>obtain⟨vs,e,_⟩:=h;exact⟨_,e⟩
 | dt kvs=>obtain⟨vs,e,_⟩:=h;exact⟨_,e⟩
theorem zT.there (st:zT K ad H S){a:Addr}(h:a∈ad):∃ o,H a=some o:=by
 obtain⟨n,hn,e⟩:=List.mem_iff_getElem.mp h
 have e':ad[n]?=some a:=by rw [qb hn,e]
 have hs:n<S.length:=by rw [<- st.len];exact hn
 exact (st.cell n a S[n] e' (qb hs)).some
theorem zT.fresh (st:zT K ad H S){l:Addr}(h:H l=none):l∉ad:=fun m=>by
 obtain⟨o,e⟩:=st.there m
 rw [h] at e;cases e
theorem zdz.wr {ad':List Addr}{H':Hp}{a:Addr}{c:Cell}(h:zdz K ad H a c)(w:Wr ad H ad' H')(same:H' a=H a):zdz K ad' H' a c:=by
 cases c with
 | lst ds=>obtain⟨vs,e,r⟩:=h;exact⟨vs,same.trans e,zK.wr w r⟩
 | ins c fs=>obtain⟨C,dx,vs,e,c1,c2,r,n⟩:=h;exact⟨C,dx,vs,same.trans e,c1,c2,za1.wr w r,n⟩
 | dk kvs=>obtain⟨vs,e,r⟩:=h;exact⟨vs,same.trans e,RelK.wr w r⟩
 | dt kvs=>obtain⟨vs,e,r⟩:=h;exact⟨vs,same.trans e,zdX.wr w r⟩
theorem zdz.wd {ad':List Addr}{H':Hp}{a:Addr}{c:Cell}(h:zdz K ad H a c)(w:Wd ad H ad' H')(same:H' a=H a):zdz K ad' H' a c:=h.wr w.wr same
theorem Wd.laid {l:Addr}{o:HO}(h:H l=none):Wd ad H ad (upd H l o) :=
 ⟨List.prefix_refl _,fun b u _ e=>zfv h e,fun b u e=>zfv h e,fun b u w e=>zfv h e,fun _ m n=>absurd m n⟩
theorem zT.bfree (st:zT K ad H S){p:Addr}(h:H p=none):B.H p=none:=by
 cases e:B.H p with
 | none=>rfl
 | some o =>
  by_cases m:p∈B.ad
  ·obtain⟨u,hu⟩:=st.there (st.wd.pre.subset m)
   rw [h] at hu;cases hu
  ·rw [st.wd.keep p o m e] at h;cases h
theorem zT.laid (st:zT K ad H S){l:Addr}{o:HO}(h:H l=none):zT K ad (upd H l o) S :=
 ⟨st.wd.trans (Wd.laid h),st.len,st.nd,fun n a c e1 e2=>(st.cell n a c e1 e2).wd (Wd.laid h) (by
  obtain⟨u,e⟩:=(st.cell n a c e1 e2).some
  rw [zfv h e,e])⟩
theorem Wd.newL (st:zT K ad H S){l:Addr}{o:HO}(h:H l=none):Wd ad H (ad++[l]) (upd H l o) :=
 ⟨List.prefix_append _ _,fun b u _ e=>zfv h e,fun b u e=>zfv h e,fun b u w e=>zfv h e,fun b m n=>by
  rcases qu.mp m with m | m
  ·exact absurd m n
  ·have:b=l:=by simpa using m
   subst this;exact h⟩
theorem zT.newL (st:zT K ad H S){l:Addr}{vs:List V}{ds:List D}(h:H l=none)(r:zK K ad H ds vs):zT K (ad++[l]) (upd H l (.lst vs)) (S++[.lst ds]) where
 wd:=st.wd.trans (Wd.newL st h)
 len:=by rw [qe,qe,st.len];rfl
 nd:=by
  rw [List.nodup_append]
  refine⟨st.nd,by simp,fun a ha b hb e=>?_⟩
  have:b=l:=by simpa using hb
  subst this;subst e
  exact st.fresh h ha
 cell:=fun n a c e1 e2=>by
  by_cases hn:n<ad.length
  ·rw [qv hn] at e1
   rw [qv (by rw [<- st.len];exact hn)] at e2
   have ok:=st.cell n a c e1 e2
   obtain⟨u,e⟩:=ok.some
   exact ok.wd (Wd.newL st h) (by rw [zfv h e,e])
  ·have hn':ad.length<=n:=Nat.le_of_not_lt hn
   rw [ql hn'] at e1
   rw [ql (by rw [<- st.len];exact hn'),<- st.len] at e2
   cases hk:n-ad.length with
   | zero =>
    rw [hk] at e1 e2
    have e1':l=a:=by simpa using e1
    have e2':Cell.lst ds=c:=by simpa using e2
    subst e1' e2'
    exact⟨vs,za0,r.wd (Wd.newL st h)⟩
   | succ k=>rw [hk] at e1;simp at e1
theorem zT.newRef (st:zT K ad H S){l:Addr}{o:HO}:Rel K (ad++[l]) (upd H l o) (.ref S.length) (.ref l):=.ref (by rw [<- st.len,ql (qg _),Nat.sub_self];rfl)
theorem Wd.put {n:Nat}{a:Addr}{vs ws:List V}(e:ad[n]?=some a)(h:H a=some (.lst vs)):Wd ad H ad (upd H a (.lst ws)) :=
 ⟨List.prefix_refl _,fun b u hb q=>by
   have:b≠a:=fun z=>hb (by rw [z];exact qd e)
   rw [zaf this];exact q,
  fun b xs q=>by rw [zaf (ziu q h (by intro z;cases z))];exact q,fun b o u q=>by rw [zaf (ziu q h (by intro z;cases z))];exact q,fun _ m n=>absurd m n⟩
theorem zT.put (st:zT K ad H S){n:Nat}{a:Addr}{vs ws:List V}{ds:List D}(e:ad[n]?=some a)(h:H a=some (.lst vs))(r:zK K ad H ds ws):zT K ad (upd H a (.lst ws)) (S.set n (.lst ds)) where
 wd:=st.wd.trans (Wd.put e h)
 len:=by rw [List.length_set];exact st.len
 nd:=st.nd
 cell:=fun m b c e1 e2=>by
  have w:=Wd.put (ws:=ws) e h
  by_cases hm:m=n
  ·subst hm
   rw [e] at e1;cases e1
   rw [qC (by rw [<- st.len];exact My.zbb e)] at e2
   cases e2
   exact⟨ws,za0,r.wd w⟩
  ·rw [qH (Ne.symm hm)] at e2
   have ne:b≠a:=fun z=>by
    subst z
    have h1:=My.zbb e1
    have h2:=My.zbb e
    have q1:=(qP.mp e1).2
    have q2:=(qP.mp e).2
    exact hm ((List.getElem_inj st.nd).mp (q1.trans q2.symm))
   exact (st.cell m b c e1 e2).wd w (zaf ne)
theorem zT.newI (st:zT K ad H S){x dx C:Addr}{c:Str}(h:H x=none)(h2:H dx=none)(hne:dx≠x)(hc:Cls K C)(hn:PySem.W.nsIn K mainGlobals c=some (some (.ref C))) :
  Wd ad H (ad++[x]) (upd (upd H dx (.own x)) x (.ins C dx []))/\zT K (ad++[x]) (upd (upd H dx (.own x)) x (.ins C dx [])) (S++[.ins c []]):=by
 have st1:=st.laid (o:=.own x) h2
 have hx:upd H dx (.own x) x=none:=by rw [zaf (Ne.symm hne)];exact h
 have w1:Wd ad H ad (upd H dx (.own x)):=Wd.laid h2
 have w2:Wd ad (upd H dx (.own x)) (ad++[x]) (upd (upd H dx (.own x)) x (.ins C dx [])):=Wd.newL st1 hx
 refine⟨w1.trans w2,st.wd.trans (w1.trans w2),?_,?_,fun n a c' e1 e2=>?_⟩
 ·rw [qe,qe,st.len];rfl
 ·rw [List.nodup_append]
  refine⟨st.nd,by simp,fun a ha b hb e=>?_⟩
  have:b=x:=by simpa using hb
  subst this;subst e
  exact st.fresh h ha
 ·by_cases hn':n<ad.length
  ·rw [qv hn'] at e1
   rw [qv (by rw [<- st.len];exact hn')] at e2
   have ok:=st1.cell n a c' e1 e2
   obtain⟨u,e⟩:=ok.some
   exact ok.wd w2 (by rw [zfv hx e,e])
  ·have hn':ad.length<=n:=Nat.le_of_not_lt hn'
   rw [ql hn'] at e1
   rw [ql (by rw [<- st.len];exact hn'),<- st.len] at e2
   cases hk:n-ad.length with
   | zero =>
    rw [hk] at e1 e2
    have e1':x=a:=by simpa using e1
    have e2':Cell.ins c []=c':=by simpa using e2
    subst e1' e2'
    exact⟨C,dx,[],za0,hc,hn,.nil,fun q hq=>by cases hq⟩
   | succ k=>rw [hk] at e1;simp at e1
theorem Wd.putI {n:Nat}{a C dx C' dx':Addr}{vs ws:List (Str×V)}(e:ad[n]?=some a)(h:H a=some (.ins C dx vs)):Wd ad H ad (upd H a (.ins C' dx' ws)) :=
 ⟨List.prefix_refl _,fun b u hb q=>by
   have:b≠a:=fun z=>hb (by rw [z];exact qd e)
   rw [zaf this];exact q,
  fun b xs q=>by rw [zaf (ziu q h (by intro z;cases z))];exact q,fun b o u q=>by rw [zaf (ziu q h (by intro z;cases z))];exact q,fun _ m n=>absurd m n⟩
theorem zT.putI (st:zT K ad H S){n:Nat}{a C dx:Addr}{c f:Str}{vs:List (Str×V)}{fs:List (Str×D)}{d:D}{v:V}(e:ad[n]?=some a)(h:H a=some (.ins C dx vs))(hc:Cls K C)(hn:PySem.W.nsIn K mainGlobals c=some (some (.ref C)))(rf:za1 K ad H fs vs)(hna:∀ q∈fs,zaC K C q.1)(hf:zaC K C f)(r:Rel K ad H d v) :
  zT K ad (upd H a (.ins C dx (zca f v vs))) (S.set n (.ins c (putD f d fs))) where
 wd:=st.wd.trans (Wd.putI e h)
 len:=by rw [List.length_set];exact st.len
 nd:=st.nd
 cell:=fun m b c' e1 e2=>by
  have w:Wd ad H ad (upd H a (.ins C dx (zca f v vs))):=Wd.putI e h
  by_cases hm:m=n
  ·subst hm
   rw [e] at e1;cases e1
   rw [qC (by rw [<- st.len];exact My.zbb e)] at e2
   cases e2
   refine⟨C,dx,_,za0,hc,hn,za1.wr w.wr (za1.put r rf),fun q hq=>?_⟩
   rcases zmY hq with h1 | h1
   ·rw [h1];exact hf
   ·exact hna q h1
  ·rw [qH (Ne.symm hm)] at e2
   have ne:b≠a:=fun z=>by
    subst z
    have q1:=(qP.mp e1).2
    have q2:=(qP.mp e).2
    exact hm ((List.getElem_inj st.nd).mp (q1.trans q2.symm))
   exact (st.cell m b c' e1 e2).wd w (zaf ne)
theorem Wd.hid {ad':List Addr}{H':Hp}{p:Addr}{o:HO}(w:Wd ad H ad' H')(hp:H p=none):Wd ad H ad' (upd H' p o) :=
 ⟨w.pre,fun b u hb q=>by rw [zaf (zbG q hp)];exact w.keep b u hb q,fun b u q=>by rw [zaf (zbG q hp)];exact w.tup b u q,fun b u v q=>by rw [zaf (zbG q hp)];exact w.frz b u v q,w.new⟩
theorem Wr.hid {p:Addr}{vs ws:List V}(h:H p=some (.lst vs)):Wr ad H ad (upd H p (.lst ws)) :=
 ⟨List.prefix_refl _,fun b xs q=>by rw [zaf (ziu q h (by intro z;cases z))];exact q,fun b o u q=>by rw [zaf (ziu q h (by intro z;cases z))];exact q⟩
theorem zT.hid (st:zT K ad H S){p:Addr}{vs ws:List V}(h:H p=some (.lst vs))(hp:p∉ad)(hb:B.H p=none):zT K ad (upd H p (.lst ws)) S :=
 ⟨st.wd.hid hb,st.len,st.nd,fun n a c e1 e2=>(st.cell n a c e1 e2).wr (Wr.hid h) (zaf fun z=>hp (by rw [<- z];exact qd e1))⟩
theorem Wd.add {ad':List Addr}{H':Hp}{p:Addr}(w:Wd ad H ad' H')(hp:H p=none):Wd ad H (ad'++[p]) H' :=
 ⟨w.pre.trans (List.prefix_append _ _),w.keep,w.tup,w.frz,fun b m n=>by
  rcases qu.mp m with m | m
  ·exact w.new b m n
  ·have:b=p:=by simpa using m
   subst this;exact hp⟩
theorem zT.add (st:zT K ad H S){p:Addr}{vs:List V}{ds:List D}(h:H p=some (.lst vs))(hp:p∉ad)(r:zK K ad H ds vs)(hb:B.H p=none):zT K (ad++[p]) H (S++[.lst ds]) where
 wd:=st.wd.add hb
 len:=by rw [qe,qe,st.len];rfl
 nd:=by
  rw [List.nodup_append]
  refine⟨st.nd,by simp,fun a ha b hb e=>?_⟩
  have:b=p:=by simpa using hb
  subst this;subst e
  exact hp ha
 cell:=fun n a c e1 e2=>by
  have w:Wr ad H (ad++[p]) H:=⟨List.prefix_append _ _,fun _ _ q=>q,fun _ _ _ q=>q⟩
  by_cases hn:n<ad.length
  ·rw [qv hn] at e1
   rw [qv (by rw [<- st.len];exact hn)] at e2
   exact (st.cell n a c e1 e2).wr w rfl
  ·have hn':ad.length<=n:=Nat.le_of_not_lt hn
   rw [ql hn'] at e1
   rw [ql (by rw [<- st.len];exact hn'),<- st.len] at e2
   cases hk:n-ad.length with
   | zero =>
    rw [hk] at e1 e2
    have e1':p=a:=by simpa using e1
    have e2':Cell.lst ds=c:=by simpa using e2
    subst e1' e2'
    exact⟨vs,h,zK.wr w r⟩
   | succ k=>rw [hk] at e1;simp at e1
theorem Lst.sq (st:zT K ad H S){x:D}{xs:List D}{v:V}(h:Lst S x xs)(r:Rel K ad H x v):∃ a vs,v=.ref a/\SqL K H a vs/\zK K ad H xs vs:=by
 rcases h with rfl | ⟨n,rfl,h⟩
 ·cases r with
  | rl h r=>exact⟨_,_,rfl,h.sq,r⟩
 ·cases r with
  | ref e =>
   obtain⟨vs,e2,r⟩:=st.cell n _ _ e h
   exact⟨_,vs,rfl,SqL.of e2,r⟩
theorem zeQ.sq (st:zT K ad H S){x:D}{xs:List D}{v:V}(h:zeQ S x xs)(r:Rel K ad H x v):∃ a vs,v=.ref a/\(SqL K H a vs\/SqT K H a vs)/\zK K ad H xs vs:=by
 rcases h with rfl | h
 ·cases r with
  | tup h r=>exact⟨_,_,rfl,.inr (SqT.of h),r⟩
 ·obtain⟨a,vs,e,s,r⟩:=Lst.sq st h r
  exact⟨a,vs,e,.inl s,r⟩
end
omit B in
theorem el8 {a b c d:Type}{p1 p2 p3 p4:a->b->c->d->Prop}{R:Prop}(h:∃ (x:a) (y:b) (z:c) (w:d),p1 x y z w/\p2 x y z w/\p3 x y z w/\p4 x y z w)(f:∀ (x:a) (y:b) (z:c) (w:d),p1 x y z w->p2 x y z w->p3 x y z w->p4 x y z w->R):R :=
 Exists.elim h fun x h=>Exists.elim h fun y h=>Exists.elim h fun z h=>Exists.elim h fun w h=>f x y z w h.1 h.2.1 h.2.2.1 h.2.2.2
def KK (K:PySem.W.Frag)(ad:List Addr)(H:Hp)(Q0:DK)(Q:VK):Prop:=∀ d S' v H' ad',Q0 d S'->Wd ad H ad' H'->zT K ad' H' S'->Rel K ad' H' d v->Q v H'
theorem KK.wd {K:PySem.W.Frag}{ad ad':List Addr}{H H':Hp}{Q0:DK}{Q:VK}(k:KK K ad H Q0 Q)(w:Wd ad H ad' H'):KK K ad' H' Q0 Q:=fun d S' v H' ad' q w'=>k d S' v H' ad' q (w.trans w')
def up (K:PySem.W.Frag)(t:DE):TE:=fun U H Q=>∃ ad Z S Q0,zT K ad H S/\zaQ K ad H Z U/\t Z S Q0/\KK K ad H Q0 Q
def upT (K:PySem.W.Frag)(t:DT):TT:=fun U H Q=>∃ ad Z S Q0,zT K ad H S/\zaQ K ad H Z U/\t Z S Q0/\∀ b S' H' ad',Q0 b S'->Wd ad H ad' H'->zT K ad' H' S'->Q b H'
def upA (K:PySem.W.Frag)(t:DA):TA:=fun U H Q=>∃ ad Z S Q0,zT K ad H S/\zaQ K ad H Z U/\t Z S Q0/\∀ ds S' vs H' ad',Q0 ds S'->Wd ad H ad' H'->zT K ad' H' S'->zK K ad' H' ds vs->Q vs H'
theorem zT.base {K:PySem.W.Frag}{ad:List Addr}{H:Hp}{S:Sto}(st:zT K ad H S):@zT ⟨ad,H⟩ K ad H S:=@zT.mk ⟨ad,H⟩ _ _ _ _ Wd.refl st.len st.nd st.cell
theorem zT.back {K:PySem.W.Frag}{ad ad':List Addr}{H H':Hp}{S S':Sto}(st:zT K ad H S)(st':@zT ⟨ad,H⟩ K ad' H' S'):zT K ad' H' S' :=
 ⟨st.wd.trans (@zT.wd ⟨ad,H⟩ _ _ _ _ st'),@zT.len ⟨ad,H⟩ _ _ _ _ st',@zT.nd ⟨ad,H⟩ _ _ _ _ st',@zT.cell ⟨ad,H⟩ _ _ _ _ st'⟩
theorem KK.base {K:PySem.W.Frag}{ad:List Addr}{H:Hp}{S:Sto}{Q0:DK}{Q:VK}(st:zT K ad H S)(k:KK K ad H Q0 Q):@KK ⟨ad,H⟩ K ad H Q0 Q:=fun d S' v H' ad' q w st' r=>k d S' v H' ad' q w (st.back st') r
def upF (K:PySem.W.Frag)(f:DSp):Sp:=fun vs H Q _=>∃ ad S ds Q0,@zT ⟨ad,H⟩ K ad H S/\zK K ad H ds vs/\f ds S Q0/\@KK ⟨ad,H⟩ K ad H Q0 Q
structure zjN (K:PySem.W.Frag)(ad:List Addr)(H:Hp)(E0:zoF)(E:Ends):Prop where
 nx:∀ Z S U H' ad',E0.nx Z S->Wd ad H ad' H'->zT K ad' H' S->zaQ K ad' H' Z U->E.nx U H'
 rt:KK K ad H E0.rt E.rt
 bk:∀ Z S U H' ad',E0.bk Z S->Wd ad H ad' H'->zT K ad' H' S->zaQ K ad' H' Z U->E.bk U H'
 ct:∀ Z S U H' ad',E0.ct Z S->Wd ad H ad' H'->zT K ad' H' S->zaQ K ad' H' Z U->E.ct U H'
theorem zjN.wd {K:PySem.W.Frag}{ad ad':List Addr}{H H':Hp}{E0:zoF}{E:Ends}(k:zjN K ad H E0 E)(w:Wd ad H ad' H'):zjN K ad' H' E0 E :=
 ⟨fun Z S U H' ad' q w'=>k.nx Z S U H' ad' q (w.trans w'),k.rt.wd w,fun Z S U H' ad' q w'=>k.bk Z S U H' ad' q (w.trans w'),fun Z S U H' ad' q w'=>k.ct Z S U H' ad' q (w.trans w')⟩
def upS (K:PySem.W.Frag)(t:DS):TS:=fun E U H=>∃ ad Z S E0,zT K ad H S/\zaQ K ad H Z U/\t E0 Z S/\zjN K ad H E0 E
@[irreducible] def PD (X:Cx)(e:Expr)(t:DE):Prop:=PE X e (up X.K t)
@[irreducible] def PTD (X:Cx)(e:Expr)(t:DT):Prop:=PT X e (upT X.K t)
@[irreducible] def PWD (X:Cx)(e:Expr)(t:DT):Prop:=PW X e (upT X.K t)
@[irreducible] def PAD (X:Cx)(es:List Expr)(t:DA):Prop:=PA X es (upA X.K t)
@[irreducible] def PSD (X:Cx)(st:Stmt)(t:DS):Prop:=PS X st (upS X.K t)
@[irreducible] def zgj (X:Cx)(st:List Stmt)(t:DS):Prop:=PSs X st (upS X.K t)
theorem ztL {X:Cx}{e:Expr}{t t':TE}(h:PE X e t)(m:∀ U H Q,t' U H Q->t U H Q):PE X e t':=fun pins s U H Q I q=>h pins s U H Q I (m U H Q q)
theorem zgC {X:Cx}{e:Expr}{t t':TT}(h:PT X e t)(m:∀ U H Q,t' U H Q->t U H Q):PT X e t':=fun pins s U H Q I q=>h pins s U H Q I (m U H Q q)
theorem znP {X:Cx}{e:Expr}{t t':TT}(h:PW X e t)(m:∀ U H Q,t' U H Q->t U H Q):PW X e t':=fun wh pins s U H Q I q=>h wh pins s U H Q I (m U H Q q)
theorem zn8 {X:Cx}{e:List Expr}{t t':TA}(h:PA X e t)(m:∀ U H Q,t' U H Q->t U H Q):PA X e t':=fun pos pins s U H Q I q=>h pos pins s U H Q I (m U H Q q)
theorem zbO {X:Cx}{st:Stmt}{t t':TS}(h:PS X st t)(m:∀ D U H,t' D U H->t D U H):PS X st t':=fun pins s U H D I q=>h pins s U H D I (m D U H q)
theorem zl1 {X:Cx}{st:List Stmt}{t t':TS}(h:PSs X st t)(m:∀ D U H,t' D U H->t D U H):PSs X st t':=fun pins s U H D I q=>h pins s U H D I (m D U H q)
section
variable {X:Cx}{a b c:Expr}{ta tb tc:DE}{pos:Pos}
theorem zbf {e:Expr}{t:TE}{d:DE}(h:PE X e t)(m:∀ U H Q,up X.K d U H Q->t U H Q):PD X e d:=by with_unfolding_all exact (ztL h m)
theorem zuL {e:Expr}{i:Nat}(h:PE X e (zuO i)):PD X e (zf i):=by with_unfolding_all exact (zbf h fun U H Q ⟨ad,Z,S,Q0,st,rh,⟨d,e,q⟩,k⟩=>by
 obtain⟨v,ev,r⟩:=rh.val i d e
 exact⟨v,ev,k d S v H ad q Wd.refl st r⟩)
theorem zhO {e:Expr}{v:V}{d:D}(h:PE X e (tC v))(r:∀ ad H,Rel X.K ad H d v):PD X e (dC d):=by with_unfolding_all exact (zbf h fun U H Q hh=>el8 hh fun ad Z S Q0 st rh q k=>k d S v H ad q Wd.refl st (r _ _))
theorem zp {i j}:PD X (.Constant (.int i) j pos) (dC (.int i)):=by with_unfolding_all exact (zhO zmu fun _ _=>.int i)
theorem zaR {b j}:PD X (.Constant (.bool b) j pos) (dC (.bl b)):=by with_unfolding_all exact (zhO zxm fun _ _=>.bl b)
theorem zaJ {j}:PD X (.Constant .none j pos) (dC .non):=by with_unfolding_all exact (zhO zuv fun _ _=>.non)
theorem zfb {x j}:PD X (.Constant (.str x) j pos) (dC (.str x)):=by with_unfolding_all exact (zhO zud fun _ _=>.str x)
theorem zlK {x:Str}{T:String}(hg:Gl X x)(hm:X.mg x=none)(hv:bootBuiltins x=some (.type T))(hn:x≠"__name__":=by decide)(hd:(x==("__debug__":Str))=false:=by decide):PD X (.Name x pos) (dC (.ty T)):=by with_unfolding_all exact (zhO (zxl hg hm hv hn hd) fun _ _=>.ty T)
theorem zal {x:Str}{n:Int}(hg:Gl X x)(hm:∃ t,X.mg x=some (.int n t))(hd:(x==("__debug__":Str))=false:=by decide):PD X (.Name x pos) (dC (.int n)):=by with_unfolding_all exact (zhO (ztc hg hm hd) fun _ _=>.int n)
theorem zsI {x z:Str}(hg:Gl X x)(hm:∃ t,X.mg x=some (.str z t))(hd:(x==("__debug__":Str))=false:=by decide):PD X (.Name x pos) (dC (.str z)):=by with_unfolding_all exact (zhO (by obtain⟨t,hm⟩:=hm;exact znH (v:=.str z) hg hm ⟨t,rfl⟩ hd) fun _ _=>.str z)
theorem zbB {i j:Int}{m n:Nat}{p1 p2:Pos}(c:Int)(h:i ^ j.toNat=c)(h0:0<=j/\j<=1000000/\i.natAbs<2 ^ 64):PD X (.BinOp (.Constant (.int i) m p1) .Pow (.Constant (.int j) n p2) pos) (dC (.int c)):=by with_unfolding_all exact (zhO (ztO c h h0) fun _ _=>.int c)
def OD (K:PySem.W.Frag)(r':DR2)(r:R2):Prop:=∀ ad H S x y v u Q0 Q,zT K ad H S->Rel K ad H x v->Rel K ad H y u->r' x y S Q0->KK K ad H Q0 Q->r v u H Q
theorem zil {K:PySem.W.Frag}{r':DR2}{r:R2}(o:OD K r' r){U:L2.St}{H:Hp}{Q:VK}(h:up K (dOp r' ta tb) U H Q):tOp r (up K ta) (up K tb) U H Q:=by
 obtain⟨ad,Z,S,Q0,st,rh,q,k⟩:=h
 refine⟨ad,Z,S,_,st,rh,q,fun x S1 v H1 ad1 q1 w1 st1 r1=>?_⟩
 refine⟨ad1,Z,S1,_,st1,rh.wd w1,q1,fun y S2 u H2 ad2 q2 w2 st2 r2=>?_⟩
 exact o ad2 H2 S2 x y v u Q0 Q st2 (r1.wd w2) r2 q2 (k.wd (w1.trans w2))
theorem zjV {op:Operator}{r':DR2}{r:R2}(ho:OpR X (binaryOp op) r)(o:OD X.K r' r)(ha:PD X a ta)(hb:PD X b tb):PD X (.BinOp a op b pos) (dOp r' ta tb):=by with_unfolding_all exact (zbf (zso ho ha hb) fun _ _ _=>zil o)
theorem zoG {K:PySem.W.Frag}{C C':Int->Int->Prop}{g:Int->Int->D}{g':Int->Int->V}(hc:∀ i j,C i j->C' i j)(hg:∀ ad H i j,Rel K ad H (g i j) (g' i j)):OD K (oI C g) (rI C' g'):=fun ad H S x y v u Q0 Q st rx ry ⟨i,j,ex,ey,c,q⟩ k=>by
 subst ex ey
 cases rx
 cases ry
 exact⟨i,j,rfl,rfl,hc i j c,k _ S _ H ad q Wd.refl st (hg ad H i j)⟩
theorem zjP {K:PySem.W.Frag}{g:Int->Int->D}{g':Int->Int->V}(hg:∀ ad H i j,Rel K ad H (g i j) (g' i j)):OD K (oI0 g) (rI0 g'):=fun ad H S x y v u Q0 Q st rx ry ⟨i,j,ex,ey,q⟩ k=>by
 subst ex ey
 cases rx
 cases ry
 exact⟨i,j,rfl,rfl,k _ S _ H ad q Wd.refl st (hg ad H i j)⟩
theorem zpA {i:Int}(h:i.natAbs<2 ^ 64):-(2 ^ 64)<i/\i<2 ^ 64:=⟨by omega,by omega⟩
def zwm (i j:Int):Prop:=zat i j
theorem ztd:OpR X (binaryOp .Mult) (rI zwm fun i j=>.int (i*j)):=opI fun i j _ _ _ _ _ hc q=>by
 rcases hc with h | h | h
 ·exact mul_int q (IntMulOk.of_bits (zkd h.1) (zkd h.2))
 ·exact mul_int q (zoz.ok (.inl (zpA h)))
 ·exact mul_int q (zoz.ok (.inr (zpA h)))
theorem zX (ha:PD X a ta)(hb:PD X b tb):PD X (.BinOp a .Sub b pos) (dOp zah ta tb):=by with_unfolding_all exact (zjV zuJ (zjP fun _ _ i j=>.int (i-j)) ha hb)
theorem zuK {z:Str}{n:Int}(hz:z.length<=1000)(h0:-1000<=n)(h1:n<=1000):MulOk z n:=by
 refine⟨?_,fun _ _=>?_,fun h _=>?_⟩
 ·rw [decide_eq_false (by omega),decide_eq_false (by omega)];rfl
 ·have:(1000:Int)<=(2 ^ 63-1)/n\/n<1:=by
   rcases Int.lt_or_le n 1 with g | g
   ·exact .inr g
   ·exact .inl ((Int.le_ediv_iff_mul_le (by omega)).mpr (by omega))
  omega
 ·have:z.length*n.toNat<=1000*1000:=Nat.mul_le_mul hz (by omega)
  have hs:z.length*n.toNat<=sizeLine:=qK this (by decide)
  first
   | exact decide_eq_false (by omega)
   | (unfold tooLong;exact decide_eq_false (by omega))
   | simp [tooLong];omega
theorem ztF:OpR X (binaryOp .Mult) (fun x y H Q=>∃ z n,x=.str z/\y=.int n/\MulOk z n/\Q (.str (Txt.mul z n)) H):=by
 intro pins s U H x y v u Q I rx ry h
 obtain⟨z,n,rfl,rfl,ok,q⟩:=h
 obtain⟨t,rfl⟩:=rx
 obtain⟨t',rfl⟩:=ry
 exact SB.mul ok fun t' k=>⟨.str (Txt.mul z n),H,I.tok _,⟨_,rfl⟩,q⟩
omit B in
theorem znQ {i:Int}(h:Hg i):Builtin.Int.intBits i<=2 ^ 20:=by
 unfold Hg at h
 exact intBits_le h
omit B in
theorem zte {i:Int}(h:Builtin.Int.intBits i<=2 ^ 20):Hg i:=by
 unfold Hg
 exact qq (natAbs_lt_pow_bits i) (Nat.pow_le_pow_right (by decide) h)
theorem ztA:OpR X (binaryOp .Mult) (rI (fun i j=>Hg i/\Hg j) fun i j=>.int (i*j)):=opI fun i j _ _ _ _ _ hc q=>mul_int q (IntMulOk.of_bits (znQ hc.1) (znQ hc.2))
theorem zak (ha:PD X a ta)(hb:PD X b tb):PD X (.BinOp a .Mult b pos) (dOp zax ta tb):=by with_unfolding_all exact (zjV (ztd.or (ztF.or ztA)) (fun ad H S x y v u Q0 Q st rx ry h k=>by
 rcases h with h | ⟨z,n,rfl,rfl,hz,h0,h1,q⟩ | h
 ·exact .inl (zoG (fun _ _ h=>h) (fun _ _ i j=>.int (i*j)) ad H S x y v u Q0 Q st rx ry h k)
 ·cases rx
  cases ry
  exact .inr (.inl ⟨z,n,rfl,rfl,zuK hz h0 h1,k _ S _ H ad q Wd.refl st (.str _)⟩)
 ·exact .inr (.inr (zoG (fun _ _ h=>h) (fun _ _ i j=>.int (i*j)) ad H S x y v u Q0 Q st rx ry h k))) ha hb)
theorem zdD (ha:PD X a ta)(hb:PD X b tb):PD X (.BinOp a .FloorDiv b pos) (dOp oDiv ta tb):=by with_unfolding_all exact (zjV zqW (zoG (fun _ _ h=>h) fun _ _ i j=>.int (i.fdiv j)) ha hb)
theorem za9 (ha:PD X a ta)(hb:PD X b tb):PD X (.BinOp a .Mod b pos) (dOp oMod ta tb):=by with_unfolding_all exact (zjV zs4 (zoG (fun _ _ h=>h) fun _ _ i j=>.int (i.fmod j)) ha hb)
theorem zdG {n:Nat}(h:n<=big):n<=sizeLine:=qK h (by decide)
theorem zpK {n:Nat}(h:n<big):n<sizeLine:=qq h (by decide)
theorem zfE {K:PySem.W.Frag}{ad:List Addr}{H:Hp}{S:Sto}{Q0:DK}{Q:VK}{ds:List D}{vs:List V}(st:zT K ad H S)(k:KK K ad H Q0 Q)(r:zK K ad H ds vs)(q:Q0 (.ref S.length) (S++[.lst ds]))(l:Addr)(h:H l=none):Q (.ref l) (upd H l (.lst vs)) :=
 k _ _ _ _ _ q (Wd.newL st h) (st.newL h r) st.newRef
theorem zj8 {K:PySem.W.Frag}{ad:List Addr}{H:Hp}{S:Sto}{Q0:DK}{Q:VK}{ds:List D}{vs:List V}(st:zT K ad H S)(k:KK K ad H Q0 Q)(r:zK K ad H ds vs)(q:Q0 (.tup ds) S)(l:Addr)(h:H l=none):Q (.ref l) (upd H l (.tup vs)) :=
 k _ _ _ _ _ q (Wd.laid h) (st.laid h) (.tup za0 (r.wd (Wd.laid h)))
theorem zV (ha:PD X a ta)(hb:PD X b tb):PD X (.BinOp a .Add b pos) (dOp zae ta tb):=by with_unfolding_all exact (zjV (zvj.or ((zrj rfl).or ((zs8 rfl).or zoV))) (fun ad H S x y v u Q0 Q st rx ry h k=>by
  rcases h with ⟨i,j,rfl,rfl,q⟩ | ⟨xs,ys,rfl,rfl,hz,q⟩ | ⟨xs,ys,hx,hy,hz,q⟩ | ⟨i,j,rfl,rfl,hz,q⟩
  ·cases rx
   cases ry
   exact .inl ⟨i,j,rfl,rfl,k _ S _ H ad q Wd.refl st (.int _)⟩
  ·cases rx with
   | tup h1 r1 =>
    cases ry with
    | tup h2 r2 =>
     have l1:=r1.length
     have l2:=r2.length
     refine .inr (.inl ⟨_,_,_,_,rfl,rfl,SqT.of h1,SqT.of h2,by rw [<- l1,<- l2];exact zdG hz,fun e=>?_,fun _ e=>?_,fun _ _ p hp=>zj8 st k (r1.append r2) q p hp⟩)
     ·have e':xs=[]:=List.length_eq_zero_iff.mp (by rw [l1,e];rfl)
      subst e'
      exact k _ S _ H ad q Wd.refl st (.tup h2 r2)
     ·have e':ys=[]:=List.length_eq_zero_iff.mp (by rw [l2,e];rfl)
      subst e'
      rw [List.append_nil] at q
      exact k _ S _ H ad q Wd.refl st (.tup h1 r1)
  ·obtain⟨a1,vs1,rfl,s1,r1⟩:=hx.sq st rx
   obtain⟨a2,vs2,rfl,s2,r2⟩:=hy.sq st ry
   exact .inr (.inr (.inl ⟨_,_,_,_,rfl,rfl,s1,s2,by rw [<- r1.length,<- r2.length];exact zdG hz,fun p hp=>zfE st k (r1.append r2) q p hp⟩))
  ·cases rx
   cases ry
   exact .inr (.inr (.inr ⟨i,j,rfl,rfl,zdG hz,k _ S _ H ad q Wd.refl st (.str _)⟩))) ha hb)
theorem zbj (ha:PD X a ta):PD X (.UnaryOp .USub a pos) (dUn zck ta):=by with_unfolding_all exact (zbf (zw9 zvF ha) fun U H Q hh=>el8 hh fun ad Z S Q0 st rh q k=>by
 refine⟨ad,Z,S,_,st,rh,q,fun x S1 v H1 ad1 q1 w1 st1 r1=>?_⟩
 obtain⟨i,rfl,q1⟩:=q1
 cases r1
 exact⟨i,rfl,k _ _ _ _ _ q1 w1 st1 (.int _)⟩)
def OC (X:Cx)(op:CmpOp)(r':DR2):Prop:=∃ r,OpR X (compareOp op) r/\OD X.K r' r
theorem zaW:OC X .Lt oLt:=⟨_,zxz,zjP fun _ _ _ _=>.bl _⟩
theorem ze1:OC X .LtE oLe:=⟨_,zwR,zjP fun _ _ _ _=>.bl _⟩
theorem zbe:OC X .Gt oGt:=⟨_,zwt,zjP fun _ _ _ _=>.bl _⟩
theorem zsr:OC X .GtE oGe:=⟨_,zwp,zjP fun _ _ _ _=>.bl _⟩
mutual
def pyD:D->PyData
 | .non=>.none
 | .bl b=>.bool b
 | .int i=>.int i
 | .str x=>.str x
 | .tup xs=>.tuple (zaB xs)
 | .ref _=>.none
 | .ty _=>.none
 | .rl _=>.none
 | .exn _=>.none
def zaB:List D->List PyData
 | []=>[]
 | x::xs=>pyD x::zaB xs
end
section
variable {pins:List (Addr×Obj)}{U:L2.St}{H:Hp}{s:Shared}{ad:List Addr}
theorem zeG (I:Inv X pins U H s)(k:Nat)(h1:∀ d v u,fl k d=true->Rel X.K ad H d v->RelV v u->∃ as,Reads s.heap u (pyD d) as):∀ ds vs us,ds.all (fl k)=true->zK X.K ad H ds vs->Vals vs us->∃ as,ReadsAll s.heap us (zaB ds) as:=by
 intro ds
 induction ds with
 | nil=>intro vs us _ r rv;cases r;cases rv;exact⟨_,.nil⟩
 | cons d ds ih =>
  intro vs us hf r rv
  rw [List.all_cons,qA] at hf
  cases r with
  | cons r t =>
   cases rv with
   | cons q qt =>
    obtain⟨as,ra⟩:=h1 d _ _ hf.1 r q
    obtain⟨bs,rb⟩:=ih _ _ hf.2 t qt
    exact⟨_,.cons ra rb⟩
theorem zcb (I:Inv X pins U H s):∀ (k:Nat) (d:D) (v:V) (u:Value),fl k d=true->Rel X.K ad H d v->RelV v u->∃ as,Reads s.heap u (pyD d) as:=by
 intro k
 induction k with
 | zero =>
  intro d v u hf r q
  cases r with
  | non=>cases q;exact⟨_,.none⟩
  | bl b=>cases q;exact⟨_,.bool b⟩
  | int i=>obtain⟨t,rfl⟩:=q;exact⟨_,.int i t⟩
  | str x=>obtain⟨t,rfl⟩:=q;exact⟨_,.str x t⟩
  | ty n=>cases hf
  | tup h r=>cases hf
  | rl h r=>cases hf
  | ref h=>cases hf
  | exn _ _ _=>cases hf
 | succ k ih =>
  intro d v u hf r q
  cases r with
  | non=>cases q;exact⟨_,.none⟩
  | bl b=>cases q;exact⟨_,.bool b⟩
  | int i=>obtain⟨t,rfl⟩:=q;exact⟨_,.int i t⟩
  | str x=>obtain⟨t,rfl⟩:=q;exact⟨_,.str x t⟩
  | ty n=>cases hf
  | tup h r =>
   cases q
   obtain⟨its,rv,ht,hz⟩:=I.tuple (SqT.of h)
   obtain⟨o,ho,hc,n,hd⟩:=ht
   obtain⟨as,ra⟩:=zeG I k ih _ _ _ hf r rv
   exact⟨_,.tuple ho hc hd (by simpa using ra)⟩
  | rl h r=>cases hf
  | ref h=>cases hf
  | exn _ _ _=>cases hf
end
theorem zfG:∀ (k:Nat) (d:D),fl k d=true->(pyD d).canLay0=true/\(pyD d).depth<=k:=by
 have all:∀ k,(∀ d,fl k d=true->(pyD d).canLay0=true/\(pyD d).depth<=k)->∀ ds:List D,ds.all (fl k)=true->PyData.canLayAll0 (zaB ds)=true/\PyData.depthAll (zaB ds)<=k:=by
  intro k h ds
  induction ds with
  | nil=>intro _;exact⟨rfl,qJ _⟩
  | cons d ds ih =>
   intro hf
   rw [List.all_cons,qA] at hf
   obtain⟨a1,a2⟩:=h d hf.1
   obtain⟨b1,b2⟩:=ih hf.2
   refine⟨?_,?_⟩
   ·show (PyData.canLay0 (pyD d)&&PyData.canLayAll0 (zaB ds))=true
    rw [a1,b1];rfl
   ·show max (PyData.depth (pyD d)) (PyData.depthAll (zaB ds))<=k
    exact Nat.max_le.mpr ⟨a2,b2⟩
 intro k
 induction k with
 | zero =>
  intro d hf
  cases d with
  | non=>exact⟨rfl,qJ _⟩
  | bl b=>exact⟨rfl,qJ _⟩
  | int i=>exact⟨rfl,qJ _⟩
  | str x=>exact⟨hf,qJ _⟩
  | tup xs=>cases hf
  | ref n=>cases hf
  | exn _=>cases hf
  | ty n=>cases hf
  | rl xs=>cases hf
 | succ k ih =>
  intro d hf
  cases d with
  | non=>exact⟨rfl,qJ _⟩
  | bl b=>exact⟨rfl,qJ _⟩
  | int i=>exact⟨rfl,qJ _⟩
  | str x=>exact⟨hf,qJ _⟩
  | tup xs =>
   obtain⟨h1,h2⟩:=all k ih xs hf
   refine⟨h1,?_⟩
   show PyData.depthAll (zaB xs)+1<=k+1
   omega
  | ref n=>cases hf
  | exn _=>cases hf
  | ty n=>cases hf
  | rl xs=>cases hf
theorem zdy (k:Nat):∀ ds:List D,ds.all (fl k)=true->PyData.canLayAll0 (zaB ds)=true/\PyData.depthAll (zaB ds)<=k:=by
 intro ds
 induction ds with
 | nil=>intro _;exact⟨rfl,qJ _⟩
 | cons d ds ih =>
  intro hf
  rw [List.all_cons,qA] at hf
  obtain⟨a1,a2⟩:=zfG k d hf.1
  obtain⟨b1,b2⟩:=ih hf.2
  refine⟨?_,?_⟩
  ·show (PyData.canLay0 (pyD d)&&PyData.canLayAll0 (zaB ds))=true
   rw [a1,b1];rfl
  ·show max (PyData.depth (pyD d)) (PyData.depthAll (zaB ds))<=k
   exact Nat.max_le.mpr ⟨a2,b2⟩
mutual
theorem zj0:∀ (k:Nat) (x y:D),fl k x=true->fl k y=true->PyData.eqv (pyD x) (pyD y)=eqv x y
  | k,.non,y,_,hy=>by cases y<;>first | rfl | (cases k<;>cases hy)
  | k,.bl a,y,_,hy=>by cases y<;>first | rfl | (cases k<;>cases hy)
  | k,.int i,y,_,hy=>by
    cases y with
    | int j=>show (i==j)=decide (i=j);rw [Bool.beq_eq_decide_eq]
    | ref n=>cases k<;>cases hy
    | exn n=>cases k<;>cases hy
    | ty n=>cases k<;>cases hy
    | rl n=>cases k<;>cases hy
    | _=>rfl
  | k,.str a,y,_,hy=>by cases y<;>first | rfl | (cases k<;>cases hy)
  | 0,.tup xs,y,hx,_=>by cases hx
  | k+1,.tup xs,y,hx,hy=>by
    cases y with
    | tup ys=>exact zf2 k xs ys hx hy
    | ref n=>cases hy
    | ty n=>cases hy
    | rl n=>cases hy
    | _=>rfl
  | k,.ref n,y,hx,_=>by cases k<;>cases hx
  | k,.ty n,y,hx,_=>by cases k<;>cases hx
  | k,.rl n,y,hx,_=>by cases k<;>cases hx
  | k,.exn n,y,hx,_=>by cases k<;>cases hx
theorem zf2:∀ (k:Nat) (xs ys:List D),xs.all (fl k)=true->ys.all (fl k)=true->PyData.eqvAll (zaB xs) (zaB ys)=eqvAll xs ys
  | k,[],[],_,_=>rfl
  | k,[],y::ys,_,_=>rfl
  | k,x::xs,[],_,_=>rfl
  | k,x::xs,y::ys,hx,hy=>by
    rw [List.all_cons,qA] at hx hy
    show (PyData.eqv (pyD x) (pyD y)&&PyData.eqvAll (zaB xs) (zaB ys))=(eqv x y&&eqvAll xs ys)
    rw [zj0 k x y hx.1 hy.1,zf2 k xs ys hx.2 hy.2]
end
def zeE (xss:List (List D)):List PyData:=xss.map fun zs=>.list (zaB zs)
theorem zl6:∀ xss:List (List D),zgP xss=true->PyData.canLayAll0 (zeE xss)=true/\PyData.depthAll (zeE xss)<=21
 | [],_=>⟨rfl,qJ _⟩
 | zs::xss,h=>by
  unfold zgP at h
  rw [List.all_cons,qA] at h
  obtain⟨a1,a2⟩:=zdy 20 zs h.1
  obtain⟨b1,b2⟩:=zl6 xss h.2
  refine⟨?_,?_⟩
  ·show (PyData.canLayAll0 (zaB zs)&&PyData.canLayAll0 (zeE xss))=true
   rw [a1,b1];rfl
  ·show max (PyData.depthAll (zaB zs)+1) (PyData.depthAll (zeE xss))<=21
   exact Nat.max_le.mpr ⟨by omega,b2⟩
theorem zqE:∀ xss yss:List (List D),zgP xss=true->zgP yss=true->PyData.eqvAll (zeE xss) (zeE yss)=eqvAll (xss.map D.tup) (yss.map D.tup)
 | [],[],_,_=>rfl
 | [],_::_,_,_=>rfl
 | _::_,[],_,_=>rfl
 | zs::xss,ws::yss,h,k=>by
  unfold zgP at h k
  rw [List.all_cons,qA] at h k
  show (PyData.eqvAll (zaB zs) (zaB ws)&&PyData.eqvAll (zeE xss) (zeE yss))=(eqvAll zs ws&&eqvAll (xss.map D.tup) (yss.map D.tup))
  rw [zf2 20 zs ws h.1 k.1,zqE xss yss h.2 k.2]
theorem zjc {pins:List (Addr×Obj)}{U:L2.St}{H:Hp}{s:Shared}{ad:List Addr}{S:Sto}(I:Inv X pins U H s)(st:zT X.K ad H S):∀ (xs:List D) (xss:List (List D)) (vs:List V) (us:List Value),zjM S xs xss->zgP xss=true->zK X.K ad H xs vs->Vals vs us->∃ as,ReadsAll s.heap us (zeE xss) as
 | [],[],_,_,_,_,r,rv=>by cases r;cases rv;exact⟨_,.nil⟩
 | [],_::_,_,_,h,_,_,_=>h.elim
 | _::_,[],_,_,h,_,_,_=>h.elim
 | x::xs,zs::xss,_,_,h,f,r,rv=>by
  unfold zgP at f
  rw [List.all_cons,qA] at f
  cases r with
  | cons r t =>
   obtain⟨a1,vs1,rfl,s1,r1⟩:=h.1.sq st r
   cases rv with
   | cons q qt =>
    cases q
    obtain⟨its,rv1,ht,hz⟩:=I.list s1
    obtain⟨o,ho,hc,n,hd⟩:=ht.isList
    obtain⟨as,ra⟩:=zeG I 20 (zcb I 20) _ _ _ f.1 r1 rv1
    obtain⟨bs,rb⟩:=zjc I st xs xss _ _ h.2 f.2 t qt
    exact⟨_,.cons (.list ho hc hd (by simpa using ra)) rb⟩
def zv0 (X:Cx)(g:Bool->Bool):R2:=fun x y H Q=>∃ ad S dx dy b,zT X.K ad H S/\Rel X.K ad H dx x/\Rel X.K ad H dy y/\EqD S dx dy b/\Q (.bl (g b)) H
theorem zk3 {pins:List (Addr×Obj)}{U:L2.St}{H:Hp}{s:Shared}{ad:List Addr}{S:Sto}{dx dy:D}{x y:V}{v u:Value}{b:Bool}(I:Inv X pins U H s)(st:zT X.K ad H S)(rx:Rel X.K ad H dx x)(ry:Rel X.K ad H dy y)(qx:RelV x v)(qy:RelV y u)(h:EqD S dx dy b) :
  ∃ px py as bs,Reads s.heap v px as/\Reads s.heap u py bs/\px.canLay0=true/\py.canLay0=true/\min px.depth py.depth<=60/\PyData.eqv px py=b:=by
 rcases h with ⟨fx,fy,rfl⟩ | ⟨xs,ys,hx,hy,fx,fy,rfl⟩ | ⟨xs,ys,xss,yss,hx,hy,lx,ly,fx,fy,rfl⟩
 ·obtain⟨as,ra⟩:=zcb I 20 dx x v fx rx qx
  obtain⟨bs,rb⟩:=zcb I 20 dy y u fy ry qy
  obtain⟨c1,d1⟩:=zfG 20 dx fx
  obtain⟨c2,d2⟩:=zfG 20 dy fy
  exact⟨_,_,as,bs,ra,rb,c1,c2,by omega,zj0 20 dx dy fx fy⟩
 ·obtain⟨a1,vs1,rfl,s1,r1⟩:=hx.sq st rx
  obtain⟨a2,vs2,rfl,s2,r2⟩:=hy.sq st ry
  cases qx
  cases qy
  obtain⟨its,rv,ht,hz⟩:=I.list s1
  obtain⟨its2,rv2,ht2,hz2⟩:=I.list s2
  obtain⟨o,ho,hc,n,hd⟩:=ht.isList
  obtain⟨o2,ho2,hc2,n2,hd2⟩:=ht2.isList
  obtain⟨as,ra⟩:=zeG I 20 (zcb I 20) _ _ _ fx r1 rv
  obtain⟨bs,rb⟩:=zeG I 20 (zcb I 20) _ _ _ fy r2 rv2
  obtain⟨c1,d1⟩:=zdy 20 xs fx
  obtain⟨c2,d2⟩:=zdy 20 ys fy
  refine⟨.list (zaB xs),.list (zaB ys),_,_,.list ho hc hd (by simpa using ra),.list ho2 hc2 hd2 (by simpa using rb),c1,c2,?_,zf2 20 xs ys fx fy⟩
  show min (PyData.depthAll (zaB xs)+1) (PyData.depthAll (zaB ys)+1)<=60
  omega
 ·obtain⟨a1,vs1,rfl,s1,r1⟩:=hx.sq st rx
  obtain⟨a2,vs2,rfl,s2,r2⟩:=hy.sq st ry
  cases qx
  cases qy
  obtain⟨its,rv,ht,hz⟩:=I.list s1
  obtain⟨its2,rv2,ht2,hz2⟩:=I.list s2
  obtain⟨o,ho,hc,n,hd⟩:=ht.isList
  obtain⟨o2,ho2,hc2,n2,hd2⟩:=ht2.isList
  obtain⟨as,ra⟩:=zjc I st xs xss _ _ lx fx r1 rv
  obtain⟨bs,rb⟩:=zjc I st ys yss _ _ ly fy r2 rv2
  obtain⟨c1,d1⟩:=zl6 xss fx
  obtain⟨c2,d2⟩:=zl6 yss fy
  refine⟨.list (zeE xss),.list (zeE yss),_,_,.list ho hc hd (by simpa using ra),.list ho2 hc2 hd2 (by simpa using rb),c1,c2,?_,zqE xss yss fx fy⟩
  show min (PyData.depthAll (zeE xss)+1) (PyData.depthAll (zeE yss)+1)<=60
  omega
theorem zcO {k:Nat}(hr:zaT k X.A):OC X .Eq oEq:=⟨zv0 X id,fun pins s U H x y v u Q I qx qy ⟨ad,S,dx,dy,b,st,rx,ry,h,q⟩=>by
  obtain⟨px,py,as,bs,ra,rb,c1,c2,hd,e⟩:=zk3 I st rx ry qx qy h
  have hu:=hr.units
  exact PySem.SeqAt.rcAt_reads ra rb c1 c2 (by omega) X.prog X.w X.xe _ ⟨.bl _,H,I,by rw [e];rfl,q⟩,
 fun ad H S x y v u Q0 Q st rx ry ⟨b,h,q⟩ k=>⟨ad,S,x,y,b,st,rx,ry,h,k _ S _ H ad q Wd.refl st (.bl _)⟩⟩
theorem zgT {k:Nat}(hr:zaT k X.A):OC X .NotEq oNe:=⟨zv0 X (!·),fun pins s U H x y v u Q I qx qy ⟨ad,S,dx,dy,b,st,rx,ry,h,q⟩=>by
  obtain⟨px,py,as,bs,ra,rb,c1,c2,hd,e⟩:=zk3 I st rx ry qx qy h
  have hu:=hr.units
  exact PySem.SeqAt.rcNeAt_reads ra rb c1 c2 (by omega) X.prog X.w X.xe _ ⟨.bl _,H,I,by rw [e];rfl,q⟩,
 fun ad H S x y v u Q0 Q st rx ry ⟨b,h,q⟩ k=>⟨ad,S,x,y,b,st,rx,ry,h,k _ S _ H ad q Wd.refl st (.bl _)⟩⟩
theorem zkX {K:PySem.W.Frag}{ad:List Addr}{H:Hp}{d:D}{v:V}(r:Rel K ad H d v):decide (v=.non)=zfu d:=by
  cases r<;>rfl
theorem zvX:OpR X (compareOp .Is) (rB0 fun i j=>.bl (i==j)):=fun pins s U H x y v u Q I rx ry ⟨i,j,ex,ey,q⟩=>by
 subst ex ey
 cases rx
 cases ry
 exact is_bool ⟨.bl _,H,I,rfl,q⟩
theorem zt8:OpR X (compareOp .IsNot) (rB0 fun i j=>.bl (!(i==j))):=fun pins s U H x y v u Q I rx ry ⟨i,j,ex,ey,q⟩=>by
 subst ex ey
 cases rx
 cases ry
 exact isnot_bool ⟨.bl _,H,I,rfl,q⟩
theorem zfZ:OC X .Is oIs:=⟨_,zxs.or zvX,fun ad H S x y v u Q0 Q st rx ry h k=>by
 rcases h with ⟨rfl,q⟩ | ⟨a,b,rfl,rfl,q⟩
 ·cases ry
  exact .inl ⟨rfl,by rw [zkX rx];exact k _ S _ H ad q Wd.refl st (.bl _)⟩
 ·cases rx
  cases ry
  exact .inr ⟨a,b,rfl,rfl,k _ S _ H ad q Wd.refl st (.bl _)⟩⟩
theorem zdH:OC X .IsNot zd3:=⟨_,zv9.or zt8,fun ad H S x y v u Q0 Q st rx ry h k=>by
 rcases h with ⟨rfl,q⟩ | ⟨a,b,rfl,rfl,q⟩
 ·cases ry
  exact .inl ⟨rfl,by rw [zkX rx];exact k _ S _ H ad q Wd.refl st (.bl _)⟩
 ·cases rx
  cases ry
  exact .inr ⟨a,b,rfl,rfl,k _ S _ H ad q Wd.refl st (.bl _)⟩⟩
theorem zdA {op:CmpOp}{r':DR2}(o:OC X op r')(ha:PD X a ta)(hb:PD X b tb)(h:op≠.In:=by decide)(h2:op≠.NotIn:=by decide):PD X (.Compare a [op] [b] pos) (dOp r' ta tb):=by
 with_unfolding_all
  obtain⟨r,ho,od⟩:=o
  exact zbf (zn4 ho ha hb (zpu _ h h2)) fun _ _ _=>zil od
theorem zM {op:CmpOp}{r':DR2}(o:OC X op r')(ha:PD X a ta)(hb:PD X b tb)(h:op≠.In:=by decide)(h2:op≠.NotIn:=by decide):PTD X (.Compare a [op] [b] pos) (dT (dOp r' ta tb)):=by
 with_unfolding_all
  obtain⟨r,ho,od⟩:=o
  refine zgC (znL ho ha hb (zpu _ h h2)) fun U H Q hh=>el8 hh fun ad Z S Q0 st rh q k=>?_
  refine zil (Q:=fun x H'=>∃ k,x=.bl k/\Q k H') od ⟨ad,Z,S,_,st,rh,q,fun d S' v H' ad' ⟨b,e,q'⟩ w st' r=>?_⟩
  subst e
  cases r
  exact⟨b,rfl,k b S' H' ad' q' w st'⟩
theorem zro {K:PySem.W.Frag}{r1' r2':DR2}{r1 r2:R2}(o1:OD K r1' r1)(o2:OD K r2' r2){U:L2.St}{H:Hp}{Q:VK}(h:up K (zj1 r1' r2' ta tb tc) U H Q):zpP r1 r2 (up K ta) (up K tb) (up K tc) U H Q:=by
 obtain⟨ad,Z,S,Q0,st,rh,q,k⟩:=h
 refine⟨ad,Z,S,_,st,rh,q,fun x S1 v H1 ad1 q1 w1 st1 rx=>?_⟩
 refine⟨ad1,Z,S1,_,st1,rh.wd w1,q1,fun y S2 u H2 ad2 q2 w2 st2 ry=>?_⟩
 refine o1 ad2 H2 S2 x y v u _ _ st2 (rx.wd w2) ry q2 fun z S3 z' H3 ad3 ⟨c,e,q3⟩ w3 st3 rz=>?_
 subst e
 cases rz
 refine⟨c,rfl,?_⟩
 cases c with
 | true =>
  rw [if_pos rfl] at q3 ⊢
  refine⟨ad3,Z,S3,_,st3,rh.wd ((w1.trans w2).trans w3),q3,fun z S4 z' H4 ad4 q4 w4 st4 rz=>?_⟩
  exact o2 ad4 H4 S4 y z u z' Q0 Q st4 (ry.wd (w3.trans w4)) rz q4 (k.wd (((w1.trans w2).trans w3).trans w4))
 | false =>
  rw [if_neg qo] at q3 ⊢
  exact k _ S3 _ H3 ad3 q3 ((w1.trans w2).trans w3) st3 (.bl _)
theorem zaV {e:Expr}{t:DE}(h:PD X e t)(he:∀ whole,isTrue e X.env whole=(do let v <- whole;standAt e.pos;holding [v] (truthy v)):=by intro _;rfl):PTD X e (dT t):=by with_unfolding_all exact (zgC (zvq h he) fun U H Q hh=>el8 hh fun ad Z S Q0 st rh q k =>
 ⟨ad,Z,S,_,st,rh,q,fun d S' v H' ad' ⟨b,e,q'⟩ w st' r=>by
  subst e
  cases r
  exact⟨b,rfl,k b S' H' ad' q' w st'⟩⟩)
theorem zpr {op op':CmpOp}{r1 r2:DR2}(o1:OC X op r1)(o2:OC X op' r2)(ha:PD X a ta)(hb:PD X b tb)(hc:PD X c tc)(hm:lastMarks [op,op'] [b,c]=false:=by with_unfolding_all rfl):PTD X (.Compare a [op,op'] [b,c] pos) (dT (zj1 r1 r2 ta tb tc)):=by
 with_unfolding_all
  obtain⟨s1,h1,d1⟩:=o1
  obtain⟨s2,h2,d2⟩:=o2
  refine zgC (zq9 h1 h2 ha hb hc hm) fun U H Q hh=>el8 hh fun ad Z S Q0 st rh q k=>?_
  refine zro (Q:=fun x H'=>∃ k,x=.bl k/\Q k H') d1 d2 ⟨ad,Z,S,_,st,rh,q,fun d S' v H' ad' ⟨b,e,q'⟩ w st' r=>?_⟩
  subst e
  cases r
  exact⟨b,rfl,k b S' H' ad' q' w st'⟩
variable {tA tB':DT}{rest:List Expr}
theorem zbY (h:PTD X a tA):PTD X (.UnaryOp .Not a pos) (zeA tA):=by with_unfolding_all exact (zgC (zu4 h) fun U H Q hh=>el8 hh fun ad Z S Q0 st rh q k=>⟨ad,Z,S,_,st,rh,q,fun b S' H' ad' q' w st'=>k _ S' H' ad' q' w st'⟩)
theorem zaF {e:Expr}{t:DT}(h:PWD X e t):PTD X e t:=by with_unfolding_all exact (h _)
theorem zbm (ha:PTD X a tA):PWD X (.BoolOp .And [a] pos) tA:=by with_unfolding_all exact (zsR ha)
theorem zbM (ha:PTD X a tA):PWD X (.BoolOp .Or [a] pos) tA:=by with_unfolding_all exact (zu5 ha)
theorem zbN (ha:PTD X a tA)(hb:PWD X (.BoolOp .And (b::rest) pos) tB'):PWD X (.BoolOp .And (a::b::rest) pos) (zdR tA tB'):=by with_unfolding_all exact (znP (zvi ha hb) fun U H Q hh=>el8 hh fun ad Z S Q0 st rh q k =>
 ⟨ad,Z,S,_,st,rh,q,fun b S' H' ad' q' w st'=>by
  cases b with
  | true=>rw [if_pos rfl] at q' ⊢;exact⟨ad',Z,S',Q0,st',rh.wd w,q',fun b S' H' ad' q w'=>k b S' H' ad' q (w.trans w')⟩
  | false=>rw [if_neg qo] at q' ⊢;exact k _ S' H' ad' q' w st'⟩)
theorem zb6 (ha:PTD X a tA)(hb:PWD X (.BoolOp .Or (b::rest) pos) tB'):PWD X (.BoolOp .Or (a::b::rest) pos) (dOr tA tB'):=by with_unfolding_all exact (znP (zxv ha hb) fun U H Q hh=>el8 hh fun ad Z S Q0 st rh q k =>
 ⟨ad,Z,S,_,st,rh,q,fun b S' H' ad' q' w st'=>by
  cases b with
  | false=>rw [if_neg qo] at q' ⊢;exact⟨ad',Z,S',Q0,st',rh.wd w,q',fun b S' H' ad' q w'=>k b S' H' ad' q (w.trans w')⟩
  | true=>rw [if_pos rfl] at q' ⊢;exact k _ S' H' ad' q' w st'⟩)
theorem zig {op}{t:DE}(h:PD X a t):PD X (.BoolOp op [a] pos) t:=by with_unfolding_all exact (zug h)
theorem zgz (ha:PD X a ta)(hb:PD X (.BoolOp .And (b::rest) pos) tb):PD X (.BoolOp .And (a::b::rest) pos) (zgM ta tb):=by with_unfolding_all exact (zbf (zvk ha hb) fun U H Q hh=>el8 hh fun ad Z S Q0 st rh q k =>
 ⟨ad,Z,S,_,st,rh,q,fun d S' v H' ad' ⟨c,e,q'⟩ w st' r=>by
  subst e
  cases r
  refine⟨c,rfl,?_⟩
  cases c with
  | true=>rw [if_pos rfl] at q' ⊢;exact⟨ad',Z,S',Q0,st',rh.wd w,q',k.wd w⟩
  | false=>rw [if_neg qo] at q' ⊢;exact k _ S' _ H' ad' q' w st' (.bl _)⟩)
theorem zv2 (ha:PD X a ta)(hb:PD X (.BoolOp .Or (b::rest) pos) tb):PD X (.BoolOp .Or (a::b::rest) pos) (zrO ta tb):=by with_unfolding_all exact (zbf (zwl ha hb) fun U H Q hh=>el8 hh fun ad Z S Q0 st rh q k =>
 ⟨ad,Z,S,_,st,rh,q,fun d S' v H' ad' ⟨c,e,q'⟩ w st' r=>by
  subst e
  cases r
  refine⟨c,rfl,?_⟩
  cases c with
  | false=>rw [if_neg qo] at q' ⊢;exact⟨ad',Z,S',Q0,st',rh.wd w,q',k.wd w⟩
  | true=>rw [if_pos rfl] at q' ⊢;exact k _ S' _ H' ad' q' w st' (.bl _)⟩)
theorem zij (ha:PD X a ta):PD X (.UnaryOp .Not a pos) (ziz ta):=by with_unfolding_all exact (zbf (zvN ha) fun U H Q hh=>el8 hh fun ad Z S Q0 st rh q k =>
 ⟨ad,Z,S,_,st,rh,q,fun d S' v H' ad' ⟨c,e,q'⟩ w st' r=>by
  subst e
  cases r
  exact⟨c,rfl,k _ S' _ H' ad' q' w st' (.bl _)⟩⟩)
end
section
variable {X:Cx}{a b e:Expr}{es:List Expr}{ta tb te:DE}{t:DA}{pos:Pos}
theorem zq:PAD X [] zB:=by with_unfolding_all exact (zn8 zvp fun U H Q hh=>el8 hh fun ad Z S Q0 st rh q k=>k [] S [] H ad q Wd.refl st .nil)
theorem zc (ha:PD X e te)(hr:PAD X es t)(hs:starEach (e::es) X.env=(false,eval e X.env)::starEach es X.env:=by exact zbK rfl):PAD X (e::es) (zm te t):=by with_unfolding_all exact (zn8 (ztV ha hr hs) fun U H Q hh=>el8 hh fun ad Z S Q0 st rh q k =>
 ⟨ad,Z,S,_,st,rh,q,fun d S1 v H1 ad1 q1 w1 st1 r1=>⟨ad1,Z,S1,_,st1,rh.wd w1,q1,fun ds S2 vs H2 ad2 q2 w2 st2 r2=>k _ S2 _ H2 ad2 q2 (w1.trans w2) st2 (.cons (r1.wd w2) r2)⟩⟩)
theorem zac {x1}(h:PAD X es t):PD X (.Tuple es x1 pos) (dTup t):=by with_unfolding_all exact (zbf (zwc h) fun U H Q hh=>el8 hh fun ad Z S Q0 st rh q k =>
 ⟨ad,Z,S,_,st,rh,q,fun ds S1 vs H1 ad1 ⟨hz,q1⟩ w1 st1 r1=>⟨by rw [<- r1.length];exact zdG hz,fun p hp=>zj8 st1 (k.wd w1) r1 q1 p hp⟩⟩)
theorem zaD (h:PAD X es t):PD X (.List es pos) (zbc t):=by with_unfolding_all exact (zbf (zvO h) fun U H Q hh=>el8 hh fun ad Z S Q0 st rh q k =>
 ⟨ad,Z,S,_,st,rh,q,fun ds S1 vs H1 ad1 ⟨hz,q1⟩ w1 st1 r1=>⟨by rw [<- r1.length];exact zdG hz,fun p hp=>zfE st1 (k.wd w1) r1 q1 p hp⟩⟩)
theorem zuo {xs:List D}{i:Int}{d:D}(h:atD xs i=some d){K:PySem.W.Frag}{ad:List Addr}{H:Hp}{vs:List V}(r:zK K ad H xs vs):∃ v,atI vs i=some v/\Rel K ad H d v:=by
 have e:ixN vs.length i=ixD xs.length i:=by rw [r.length];rfl
 unfold atD at h
 unfold atI
 rw [e]
 cases q:ixD xs.length i with
 | none=>rw [q] at h;cases h
 | some j =>
  rw [q] at h
  exact r.get h
theorem zA (ha:PD X a ta)(hb:PD X b tb)(hs:znV b:=by intro _ _;rfl):PD X (.Subscript a b pos) (dOp oIx ta tb):=by with_unfolding_all exact (zbf (zxg (zsH.or (zuq.or zus)) ha hb hs) fun _ _ _=>zil fun ad H S x y v u Q0 Q st rx ry h k=>by
 rcases h with ⟨i,xs,d,ey,hx,e,q⟩ | ⟨z,i,c,rfl,rfl,hz,e,q⟩
 case inr =>
  cases rx
  cases ry
  exact .inr (.inr ⟨z,i,c,rfl,rfl,zdG hz,e,k _ S _ H ad q Wd.refl st (.str _)⟩)
 subst ey
 cases ry
 obtain⟨p,vs,rfl,hs,r⟩:=hx.sq st rx
 obtain⟨z,ez,rz⟩:=zuo e r
 rcases hs with hs | hs
 ·exact .inl ⟨p,vs,i,z,rfl,rfl,hs,ez,k _ S _ H ad q Wd.refl st rz⟩
 ·exact .inr (.inl ⟨p,vs,i,z,rfl,rfl,hs,ez,k _ S _ H ad q Wd.refl st rz⟩))
def upO (K:PySem.W.Frag)(t:Option DE):TO:=fun U H Q=>∃ ad Z S Q0,zT K ad H S/\zaQ K ad H Z U/\zjp t Z S Q0/\∀ o S' H' ad',Q0 o S'->Wd ad H ad' H'->zT K ad' H' S'->Q o H'
theorem zgE:PO X none (upO X.K none):=fun pins s U H Q I hh=>el8 hh fun ad Z S Q0 st rh q k=>zub pins s U H Q I (k none S H ad q Wd.refl st)
theorem zeS {t:DE}(h:PD X e t):PO X (some e) (upO X.K (some t)):=by with_unfolding_all exact (fun pins s U H Q I hh=>el8 hh fun ad Z S Q0 st rh q k=>ztJ h pins s U H Q I ⟨ad,Z,S,_,st,rh,q,fun d S' v H' ad' ⟨i,e,q'⟩ w st' r=>by
 subst e
 cases r
 exact⟨i,rfl,k _ S' H' ad' q' w st'⟩⟩)
theorem znG {K:PySem.W.Frag}{ad:List Addr}{H:Hp}{xs:List D}{vs:List V}(lo hi:Option Int)(r:zK K ad H xs vs):zK K ad H (cutD xs lo hi) (zgU vs lo hi):=by
  have e1:HT.sIx vs.length 0 lo=slD xs.length 0 lo:=by
    rw [r.length];cases lo with
    | none=>rfl
    | some k=>show HT.sIx _ _ (some k)=_;unfold HT.sIx slD;first | rfl | (simp only [];split<;>omega)
  have e2:HT.sIx vs.length vs.length hi=slD xs.length xs.length hi:=by
    rw [r.length];cases hi with
    | none=>rfl
    | some k=>show HT.sIx _ _ (some k)=_;unfold HT.sIx slD;first | rfl | (simp only [];split<;>omega)
  unfold cutD zgU
  rw [e1,e2]
  exact (r.drop _).take _
def zwr (K:PySem.W.Frag):V->Option Int->Option Int->Hp->VK->Prop:=fun x lo hi H Q=>∃ a xs,x=.ref a/\SqT K H a xs /\
 ((HT.sIx xs.length 0 lo=0/\HT.sIx xs.length xs.length hi=xs.length)->Q (.ref a) H)/\(¬ (HT.sIx xs.length 0 lo=0/\HT.sIx xs.length xs.length hi=xs.length)->∀ p,H p=none->Q (.ref p) (upd H p (.tup (zgU xs lo hi))))
theorem zlD {prog:Program}{w:World}{A:Around}{E:Value->Shared->Prop}{s:Shared}{t sl:Addr}{items:Array Value}{vl vu:Value}{lo hi:Option Int}{Q:Value->Shared->Prop}(ht:IsTup s.heap t items)(hs:s.heap.IsSliceOf sl vl vu .none)(pl:IsPart vl lo)(pu:IsPart vu hi)
  (hw:HT.sIx items.size 0 lo=0/\HT.sIx items.size items.size hi=items.size) (h:Q (.ref t) s):wpAny (model prog w) A (getItem (.ref t) (.ref sl)) Q E s:=by
 obtain⟨os,hos,hcs,hds⟩:=id hs
 have hTs:s.TypeIs (.ref sl) "slice":=⟨os,hos,hcs⟩
 unfold getItem
 try with_reducible refine wpAny_holding ?_
 first | refine wpAny_bind (wpAny_pure ?_) | skip
 refine wpAny_bind (wpAny_sequenceKey ht.typeIs (by decide) ?_)
 refine wpAny_bind (wpAny_callSpecial?_slot (name:=Str.ofString "__getitem__") ht.typeIs PyProof.Rows.slot_tuple_getitem
  (wpAny_call_entry PyProof.Rows.slot_tuple_getitem ht.typeIs PyProof.Rows.entry_tuple_getitem ?_ (PyProof.Rows.args_tuple_getitem _ _)))
 show wpAny _ _ (Builtin.Tuple.tupleItemsOf (.ref t) >>= _) _ _ s
 refine wpAny_bind (tupleItemsOf_ ht ?_)
 refine wpAny_bind (wpAny_typeOf hTs ?_)
 rw [if_pos (by decide)]
 refine wpAny_bind (HT.zfH hs pl pu ?_)
 show wpAny _ _ (if (((HT.sIx items.size 0 lo:Nat):Int)==0&&(1:Int)==1&&(HT.sIx items.size items.size hi-HT.sIx items.size 0 lo)==items.size)=true then _ else _) _ _ s
 rw [if_pos (by rw [hw.1,hw.2];simp)]
 unfold Builtin.Tuple.tupleIsExact
 refine wpAny_bind (wpAny_bind (wpAny_typeOf ht.typeIs (wpAny_pure ?_)))
 rw [if_pos (by decide)]
 refine wpAny_bind (wpAny_rule ?_)
 first
  | exact wpAny_pure ⟨_,rfl,wpAny_pure h⟩
  | exact wpAny_bind (wpAny_pure ⟨_,rfl,wpAny_pure h⟩)
  | exact wpAny_bind (wpAny_pure (wpAny_pure ⟨_,rfl,wpAny_pure h⟩))
  | trace_state
theorem zt5:SlR X (zwr X.K):=by
 intro pins s U H x v vl vu lo hi sl Q I rx hs pl pu h
 obtain⟨a,xs,rfl,hx,q1,q2⟩:=h
 by_cases hw:HT.sIx xs.length 0 lo=0/\HT.sIx xs.length xs.length hi=xs.length
 ·cases rx
  obtain⟨its,r,ht,hz⟩:=I.tuple hx
  have hlen:its.toArray.size=xs.length:=by rw [qi];exact r.length.symm
  refine⟨"tuple",_,PyProof.Rows.slot_tuple_getitem.lookup,ht.typeIs,?_⟩
  exact zlD ht hs pl pu (by rw [hlen];exact hw) ⟨.ref a,H,I,rfl,q1 hw⟩
 ·exact zvf pins s U H (.ref a) v vl vu lo hi sl Q I rx hs pl pu ⟨a,xs,rfl,hx,hw,q2 hw⟩
theorem zqn {α:Type}(xs:List α)(lo hi:Option Int)(h1:slD xs.length 0 lo=0)(h2:slD xs.length xs.length hi=xs.length):cutD xs lo hi=xs:=by
 unfold cutD;rw [h1,h2];simp
theorem zkC (n d:Nat)(o:Option Int):HT.sIx n d o=slD n d o:=by
 cases o with
 | none=>rfl
 | some k=>rfl
theorem zix {lo hi:Option Expr}{tl th:Option DE}{p2:Pos}(ha:PD X a ta)(hl:PO X lo (upO X.K tl))(hh:PO X hi (upO X.K th)):PD X (.Subscript a (.Slice lo hi none p2) pos) (dSl zhg ta tl th):=by with_unfolding_all exact (zbf (zqV (zsL.or (zt5.or zvB)) ha hl hh) fun U H Q hh=>el8 hh fun ad Z S Q0 st rh q k =>
 ⟨ad,Z,S,_,st,rh,q,fun x S1 v H1 ad1 q1 w1 st1 r1=>⟨ad1,Z,S1,_,st1,rh.wd w1,q1,fun l S2 H2 ad2 q2 w2 st2=>⟨ad2,Z,S2,_,st2,rh.wd (w1.trans w2),q2,fun h S3 H3 ad3 q3 w3 st3=>by
  have r3:=r1.wd (w2.trans w3)
  have k3:=k.wd ((w1.trans w2).trans w3)
  rcases q3 with ⟨xs,rfl,q3⟩ | ⟨xs,hx,q3⟩ | ⟨z,rfl,hz,q3⟩
  ·cases r3 with
   | tup h1 r =>
    refine .inr (.inl ⟨_,_,rfl,SqT.of h1,fun⟨z1,z2⟩=>?_,fun _ p hp=>zj8 st3 k3 (znG _ _ r) q3 p hp⟩)
    rw [zkC,<- r.length] at z1 z2
    rw [zqn xs _ _ z1 z2] at q3
    exact k3 _ S3 _ H3 ad3 q3 Wd.refl st3 (.tup h1 r)
  ·obtain⟨p,vs,rfl,hs,r⟩:=hx.sq st3 r3
   exact .inl ⟨p,vs,rfl,hs,fun l hl=>zfE st3 k3 (znG _ _ r) q3 l hl⟩
  ·cases r3
   refine .inr (.inr ⟨z,rfl,zdG hz,?_⟩)
   have e:(⟨((z.cps.toList.drop (HT.sIx z.length 0 l)).take (HT.sIx z.length z.length h-HT.sIx z.length 0 l)).toArray⟩:Str)=zrS z l h:=by
    unfold zrS cutD
    rw [zkC,zkC,show z.length=z.cps.toList.length from qG.symm]
   rw [e]
   exact k3 _ S3 _ H3 ad3 q3 Wd.refl st3 (.str _)⟩⟩⟩)
end
end Dp
namespace Dp
open PySem PySem.Spec PyProof.Rows L2 My
variable [B:Bs]
section
variable {X:Cx}{a e:Expr}{es:List Expr}{ta te:DE}{t:DA}{pos p:Pos}
theorem zF {k j:Nat}{x:Str}{ps:List Str}{f:DSp}(G:Got X.prog X.w X.K X.mg X.base k x ps (upF X.K f))(hr:zaT j X.A)
  (ha:PAD X (e::es) t) (hk:k<=j:=by decide) (hg:Gl X x:=by rfl) (hdb:(x==("__debug__":Str))=false:=by decide) (he:starEach (e::es) X.env=(false,eval e X.env)::starEach es X.env:=by exact zbK rfl) (hpl:(backTo pos (starEach es X.env)).any (·.1)=false:=by exact zd2 rfl) :
  PD X (.Call (.Name x p) (e::es) [] pos) (dCall f t):=by with_unfolding_all exact (zbf (zvh G hr hk hg ha hdb he hpl) fun U H Q hh=>el8 hh fun ad Z S Q0 st rh q k =>
 ⟨ad,Z,S,_,st,rh,q,fun ds S1 vs H1 ad1 q1 w1 st1 r1=>by
  show upF X.K f (vs++[]) H1 Q E0
  rw [List.append_nil];exact⟨ad1,S1,ds,Q0,st1.base,r1,q1,(k.wd w1).base st1⟩⟩)
def BD (K:PySem.W.Frag)(r':DB)(r:List V->Hp->VK->Prop):Prop:=∀ ad H S ds vs Q0 Q,zT K ad H S->zK K ad H ds vs->r' ds S Q0->KK K ad H Q0 Q->r vs H Q
def BC (X:Cx)(f:Value)(r':DB):Prop:=∃ r,zaS X f r/\BD X.K r' r
theorem zai {x:Str}{id:String}{r':DB}(o:BC X (.builtin id) r')(hm:X.mg x=none)(hv:bootBuiltins x=some (.builtin id))(ha:PAD X (e::es) t)(hg:Gl X x:=by rfl)(hn:x≠"__name__":=by decide)(hdb:(x==("__debug__":Str))=false:=by decide)
  (he:starEach (e::es) X.env=(false,eval e X.env)::starEach es X.env:=by exact zbK rfl) (hpl:(backTo pos (starEach es X.env)).any (·.1)=false:=by exact zd2 rfl):PD X (.Call (.Name x p) (e::es) [] pos) (dB r' t):=by
 with_unfolding_all
  obtain⟨r,ho,od⟩:=o
  exact zbf (zr4 ho hg hm hv ha hn hdb he hpl) fun U H Q hh=>el8 hh fun ad Z S Q0 st rh q k =>
   ⟨ad,Z,S,_,st,rh,q,fun ds S1 vs H1 ad1 q1 w1 st1 r1=>od ad1 H1 S1 ds vs Q0 Q st1 r1 q1 (k.wd w1)⟩
theorem zeC {x:Str}{T:String}{r':DB}(o:BC X (.type T) r')(hm:X.mg x=none)(hv:bootBuiltins x=some (.type T))(ha:PAD X (e::es) t)(hg:Gl X x:=by rfl)(hn:x≠"__name__":=by decide)(hdb:(x==("__debug__":Str))=false:=by decide)
  (he:starEach (e::es) X.env=(false,eval e X.env)::starEach es X.env:=by exact zbK rfl) (hpl:(backTo pos (starEach es X.env)).any (·.1)=false:=by exact zd2 rfl):PD X (.Call (.Name x p) (e::es) [] pos) (dB r' t):=by
 with_unfolding_all
  obtain⟨r,ho,od⟩:=o
  exact zbf (zpZ ho hg hm hv ha hn hdb he hpl) fun U H Q hh=>el8 hh fun ad Z S Q0 st rh q k =>
   ⟨ad,Z,S,_,st,rh,q,fun ds S1 vs H1 ad1 q1 w1 st1 r1=>od ad1 H1 S1 ds vs Q0 Q st1 r1 q1 (k.wd w1)⟩
theorem zb7 {K:PySem.W.Frag}{ad:List Addr}{H:Hp}{d:D}{vs:List V}(r:zK K ad H [d] vs):∃ v,vs=[v]/\Rel K ad H d v:=by
 cases r with
 | cons r t=>cases t;exact⟨_,rfl,r⟩
theorem zhU {K:PySem.W.Frag}{ad:List Addr}{H:Hp}{d e:D}{vs:List V}(r:zK K ad H [d,e] vs):∃ v u,vs=[v,u]/\Rel K ad H d v/\Rel K ad H e u:=by
 cases r with
 | cons r t =>
  obtain⟨u,rfl,r2⟩:=zb7 t
  exact⟨_,_,rfl,r,r2⟩
theorem zap:BC X (.builtin "len") zaH:=⟨_,zqF.or zmB,fun ad H S ds vs Q0 Q st r h k=>by
 rcases h with ⟨x,xs,e,hx,q⟩ | ⟨z,e,hz,q⟩
 case inr =>
  subst e
  obtain⟨v,rfl,rv⟩:=zb7 r
  cases rv
  exact .inr ⟨z,rfl,zdG hz,k _ S _ H ad q Wd.refl st (.int _)⟩
 subst e
 obtain⟨v,rfl,rv⟩:=zb7 r
 obtain⟨a,ws,rfl,hs,rs⟩:=hx.sq st rv
 exact .inl ⟨a,ws,rfl,hs,k _ S _ H ad (by rw [rs.length] at q;exact q) Wd.refl st (.int _)⟩⟩
theorem zlV:BC X (.builtin "abs") zmk:=⟨_,zqi,fun ad H S ds vs Q0 Q st r ⟨i,e,q⟩ k=>by
 subst e
 obtain⟨v,rfl,rv⟩:=zb7 r
 cases rv
 exact⟨i,rfl,k _ S _ H ad q Wd.refl st (.int _)⟩⟩
theorem zvs (i j:Int):(if j > i then j else i)=max i j:=by
  rw [Int.max_def];split<;>split<;>omega
theorem zuH (i j:Int):(if j<i then j else i)=min i j:=by
  rw [Int.min_def];split<;>split<;>omega
theorem zeK (hc:X.calm=true:=by rfl):BC X (.builtin "max") zfl:=⟨_,zpX hc,fun ad H S ds vs Q0 Q st r ⟨i,j,e,q⟩ k=>by
 subst e
 obtain⟨v,u,rfl,rv,ru⟩:=zhU r
 cases rv
 cases ru
 exact⟨i,j,rfl,by rw [zvs];exact k _ S _ H ad q Wd.refl st (.int _)⟩⟩
theorem zgF (hc:X.calm=true:=by rfl):BC X (.builtin "min") zg6:=⟨_,zqh hc,fun ad H S ds vs Q0 Q st r ⟨i,j,e,q⟩ k=>by
 subst e
 obtain⟨v,u,rfl,rv,ru⟩:=zhU r
 cases rv
 cases ru
 exact⟨i,j,rfl,by rw [zuH];exact k _ S _ H ad q Wd.refl st (.int _)⟩⟩
theorem zsM (hc:X.calm=true:=by rfl):BC X (.builtin "max") zoO:=⟨_,zpR rfl hc,fun ad H S ds vs Q0 Q st r ⟨x,ns,e,hx,h0,q⟩ k=>by
 subst e
 obtain⟨v,rfl,rv⟩:=zb7 r
 obtain⟨a,ws,rfl,hs,rs⟩:=hx.sq st rv
 cases rs.ints
 exact⟨a,ns,rfl,hs,h0,fun m h1 h2=>k _ S _ H ad (q m h1 h2) Wd.refl st (.int _)⟩⟩
theorem ztI (hc:X.calm=true:=by rfl):BC X (.builtin "min") zoM:=⟨_,zqf rfl hc,fun ad H S ds vs Q0 Q st r ⟨x,ns,e,hx,h0,q⟩ k=>by
 subst e
 obtain⟨v,rfl,rv⟩:=zb7 r
 obtain⟨a,ws,rfl,hs,rs⟩:=hx.sq st rv
 cases rs.ints
 exact⟨a,ns,rfl,hs,h0,fun m h1 h2=>k _ S _ H ad (q m h1 h2) Wd.refl st (.int _)⟩⟩
theorem zh7 (hc:X.calm=true:=by rfl):BC X (.builtin "all") zhX:=⟨_,zqB rfl hc,fun ad H S ds vs Q0 Q st r ⟨x,ns,e,hx,q⟩ k=>by
 subst e
 obtain⟨v,rfl,rv⟩:=zb7 r
 obtain⟨a,ws,rfl,hs,rs⟩:=hx.sq st rv
 cases rs.bls
 exact⟨a,ns,rfl,hs,k _ S _ H ad q Wd.refl st (.bl _)⟩⟩
theorem zrw:BC X (.type "tuple") zm1:=⟨_,zqu rfl,fun ad H S ds vs Q0 Q st r ⟨x,xs,e,hx,q⟩ k=>by
 subst e
 obtain⟨v,rfl,rv⟩:=zb7 r
 rcases hx with rfl | hx
 ·cases rv with
  | tup h rr=>exact⟨_,_,rfl,.inr ⟨SqT.of h,k _ S _ H ad q Wd.refl st (.tup h rr)⟩⟩
 ·obtain⟨a,ws,rfl,hs,rs⟩:=hx.sq st rv
  exact⟨a,ws,rfl,.inl ⟨hs,fun l hl=>zj8 st k rs q l hl⟩⟩⟩
theorem zdb:BC X (.type "list") zen:=⟨_,zop,fun ad H S ds vs Q0 Q st r ⟨x,xs,e,hx,q⟩ k=>by
 subst e
 obtain⟨v,rfl,rv⟩:=zb7 r
 obtain⟨a,ws,rfl,hs,rs⟩:=hx.sq st rv
 exact⟨a,ws,rfl,hs,fun l hl=>zfE st k rs q l hl⟩⟩
theorem zvP:BC X (.type "int") zr3:=⟨_,zpF,fun ad H S ds vs Q0 Q st r h k=>by
 rcases h with ⟨i,rfl,q⟩ | ⟨b,rfl,q⟩
 ·obtain⟨v,rfl,rv⟩:=zb7 r
  cases rv
  exact .inl ⟨i,rfl,k _ S _ H ad q Wd.refl st (.int _)⟩
 ·obtain⟨v,rfl,rv⟩:=zb7 r
  cases rv
  exact .inr ⟨b,rfl,k _ S _ H ad q Wd.refl st (.int _)⟩⟩
section
variable {K:PySem.W.Frag}
theorem ztb (t:String)(h:zkQ t=true):PySem.W.kitOne K (.type "NoneType") (.type t)=some false/\PySem.W.kitOne K (.type "bool") (.type t)=some (t=="bool"||t=="int")/\PySem.W.kitOne K (.type "int") (.type t)=some (t=="int") /\
  PySem.W.kitOne K (.type "str") (.type t)=some (t=="str")/\PySem.W.kitOne K (.type "tuple") (.type t)=some (t=="tuple")/\PySem.W.kitOne K (.type "list") (.type t)=some (t=="list"):=by
 unfold zkQ at h
 simp only [Bool.or_eq_true,beq_iff_eq] at h
 rcases h with (((rfl | rfl) | rfl) | rfl) | rfl
 ·exact⟨by kernel_rfl,by kernel_rfl,by kernel_rfl,by kernel_rfl,by kernel_rfl,by kernel_rfl⟩
 ·exact⟨by kernel_rfl,by kernel_rfl,by kernel_rfl,by kernel_rfl,by kernel_rfl,by kernel_rfl⟩
 ·exact⟨by kernel_rfl,by kernel_rfl,by kernel_rfl,by kernel_rfl,by kernel_rfl,by kernel_rfl⟩
 ·exact⟨by kernel_rfl,by kernel_rfl,by kernel_rfl,by kernel_rfl,by kernel_rfl,by kernel_rfl⟩
 ·exact⟨by kernel_rfl,by kernel_rfl,by kernel_rfl,by kernel_rfl,by kernel_rfl,by kernel_rfl⟩
end
theorem zjX:BC X (.builtin "isinstance") zhq:=⟨_,zry,fun ad H S ds vs Q0 Q st r ⟨x,t,b,e,h,q⟩ k=>by
 subst e
 obtain⟨v,u,rfl,rv,ru⟩:=zhU r
 cases ru
 have fin:=k _ S _ H ad q Wd.refl st (.bl b)
 unfold zuW at h
 split at h
 ·cases h
 rename_i hty
 have hty':zkQ t=true:=by
  cases hh:zkQ t
  ·exact absurd (by show (!zkQ t)=true;rw [hh];rfl) hty
  ·rfl
 obtain⟨k1,k2,k3,k4,k5,k6⟩:=ztb (K:=X.K) t hty'
 cases rv with
 | non=>cases h;exact⟨_,_,_,_,rfl,.non,k1,fin⟩
 | bl c=>cases h;exact⟨_,_,_,_,rfl,.bl c,k2,fin⟩
 | int i=>cases h;exact⟨_,_,_,_,rfl,.int i,k3,fin⟩
 | str y=>cases h;exact⟨_,_,_,_,rfl,.str y,k4,fin⟩
 | ty n=>cases h
 | exn _ _ _=>cases h
 | tup ht rt=>cases h;exact⟨_,_,_,_,rfl,.tup ht,k5,fin⟩
 | rl hl rl=>cases h
 | @ref n a hn =>
  have h:(match S[n]? with | some (.lst _)=>some (t=="list") | _=>none)=some b:=h
  cases hS:S[n]? with
  | none=>rw [hS] at h;cases h
  | some c =>
   rw [hS] at h
   cases c with
   | ins c fs=>cases h
   | dk _=>cases h
   | dt _=>cases h
   | lst xs =>
    cases h
    obtain⟨vs,hv,_⟩:=st.cell n a _ hn hS
    exact⟨_,_,_,_,rfl,.lst hv,k6,fin⟩⟩
theorem zod:∀ {K:PySem.W.Frag} {ad:List Addr} {H:Hp} {cs:List (Int×Int)} {vs:List V},zK K ad H (cs.map p2) vs->∃ ps:List Addr,vs=ps.map V.ref/\zf8 H ps cs
 | _,_,_,[],_,.nil=>⟨[],rfl,.nil⟩
 | _,_,_,c::cs,_,.cons r t=>by
  obtain⟨ps,rfl,h⟩:=zod t
  cases r with
  | tup h1 r1 =>
   obtain⟨v,u,rfl,rv,ru⟩:=zhU r1
   cases rv
   cases ru
   exact⟨_::ps,rfl,.cons h1 h⟩
theorem zsn:∀ {K:PySem.W.Frag} {ad:List Addr} {H:Hp} {cs:List (Int×Int)} {ps:List Addr},zf8 H ps cs->zK K ad H (cs.map p2) (ps.map V.ref)
 | _,_,_,_,_,.nil=>.nil
 | _,_,_,_,_,.cons r t=>.cons (.tup r (.cons (.int _) (.cons (.int _) .nil))) (zsn t)
theorem zuC (a b:Int×Int):plt a b=zi2 a b:=by
 unfold plt zi2
 by_cases h:a.1=b.1
 ·simp [h]
 ·simp [h]
theorem zrQ:BC X (.builtin "sorted") zqz:=⟨_,zmW rfl,fun ad H S ds vs Q0 Q st r ⟨x,cs,e,hx,h64,q⟩ k=>by
 subst e
 obtain⟨v,rfl,rv⟩:=zb7 r
 obtain⟨a,ws,rfl,hs,rs⟩:=hx.sq st rv
 obtain⟨ps,rfl,hp⟩:=zod rs
 exact⟨a,ps,cs,rfl,hs,hp,h64,fun l ps' cs' hl hp' hperm hpw=>zfE st k (zsn hp') (q cs' hperm (hpw.imp fun h=>by rw [<- zuC];exact h)) l hl⟩⟩
def MD (X:Cx)(id:String)(r':DM):Prop:=∃ r,MtR X id r/\∀ ad H S x ds v vs Q0 Q,zT X.K ad H S->Rel X.K ad H x v->zK X.K ad H ds vs->r' x ds S Q0->KK X.K ad H Q0 Q->r v vs H Q
theorem zwb {K:PySem.W.Frag}{ad:List Addr}{H:Hp}{S:Sto}{x:D}{v:V}(st:zT K ad H S)(h:∃ n ys,x=.ref n/\S[n]?=some (.lst ys))(r:Rel K ad H x v):tyV K "list" v H:=by
 obtain⟨n,ys,rfl,h⟩:=h
 cases r with
 | ref e =>
  obtain⟨vs,hv,_⟩:=st.cell n _ _ e h
  exact .inl ⟨rfl,vs,SqL.of hv⟩
theorem zgl {o:Expr}{to:DE}{name:Str}{id:String}{apos cpos:Pos}{r':DM}(slot:Slot "list" name id)(hty:typeOf (.builtin id)=pure (.type "method_descriptor"))(hm:MD X id r')(ho:PD X o to)(ha:PAD X (e::es) t)
  (hbase:attributeBase o name X.env (eval o X.env)=eval o X.env:=by rfl)
  (hfew:((backTo cpos (starEach (e::es) X.env)).all (fun x=>!x.1)&&(backToKw cpos (keywordEach [] X.env)).all (fun x=>x.1.isSome)
  &&decide ((e::es).length+([]:List Keyword).length+(if ([]:List Keyword).isEmpty then 0 else 1)<30))=true:=by rfl)
  (hline:(apos.endLine==cpos.line)=true:=by rfl) (hs:starEach (e::es) X.env=(false,eval e X.env)::starEach es X.env:=by exact zbK rfl) (hplain:(backTo cpos (starEach es X.env)).any (·.1)=false:=by exact zd2 rfl) :
  PD X (.Call (.Attribute o name apos) (e::es) [] cpos) (dM r' to t):=by
 with_unfolding_all
  obtain⟨r,hr,od⟩:=hm
  exact zbf (zxb PySem.F.plainAttrs_list slot hty hr ho ha hbase hfew hline hs hplain) fun U H Q hh=>el8 hh fun ad Z S Q0 st rh q k =>
   ⟨ad,Z,S,_,st,rh,q,fun x S1 v H1 ad1 ⟨hl,q1⟩ w1 st1 r1=>⟨zwb st1 hl r1,ad1,Z,S1,_,st1,rh.wd w1,q1,fun ds S2 vs H2 ad2 q2 w2 st2 r2 =>
    od ad2 H2 S2 x ds v vs Q0 Q st2 (r1.wd w2) r2 q2 (k.wd (w1.trans w2))⟩⟩
theorem zcn:MD X "list.append" zcI:=⟨_,zlc,fun ad H S x ds v vs Q0 Q st rx r ⟨n,xs,y,ex,ey,hn,hl,q⟩ k=>by
 subst ex ey
 obtain⟨u,rfl,ru⟩:=zb7 r
 cases rx with
 | ref e =>
  obtain⟨ws,hw,rw⟩:=st.cell n _ _ e hn
  exact⟨_,ws,u,rfl,rfl,hw,by rw [<- rw.length];exact zpK hl,k _ _ _ _ ad q (Wd.put e hw) (st.put e hw (rw.append (.cons ru .nil))) .non⟩⟩
theorem zoI:MD X "list.extend" zi7:=⟨_,zo1,fun ad H S x ds v vs Q0 Q st rx r h k=>by
 rcases h with ⟨n,xs,m,ys,ex,ey,hn,hm,hne,hl,q⟩ | ⟨n,xs,ys,ex,ey,hn,hl,q⟩
 ·subst ex ey
  obtain⟨u,rfl,ru⟩:=zb7 r
  cases rx with
  | ref e =>
   cases ru with
   | ref e2 =>
    obtain⟨ws,hw,rw⟩:=st.cell n _ _ e hn
    obtain⟨ws2,hw2,rw2⟩:=st.cell m _ _ e2 hm
    exact .inl ⟨_,_,ws,ws2,rfl,rfl,hw,hw2,by rw [<- rw.length,<- rw2.length];exact zdG hl,k _ _ _ _ ad q (Wd.put e hw) (st.put e hw (rw.append rw2)) .non⟩
 ·subst ex ey
  obtain⟨u,rfl,ru⟩:=zb7 r
  cases rx with
  | ref e =>
   cases ru with
   | tup h2 rw2 =>
    obtain⟨ws,hw,rw⟩:=st.cell n _ _ e hn
    exact .inr ⟨_,_,ws,_,rfl,rfl,hw,SqT.of h2,by rw [<- rw.length,<- rw2.length];exact zdG hl,k _ _ _ _ ad q (Wd.put e hw) (st.put e hw (rw.append rw2)) .non⟩⟩
end
end Dp
namespace Dp
open PySem PySem.Spec PyProof.Rows L2 My
variable [B:Bs]
def zjr (K:PySem.W.Frag)(b:Nat)(g':DG)(g:TG):Prop:=∀ ad H S Z U d v Q0 Q,zT K ad H S->zaQ K ad H Z U->Rel K ad H d v->g' d Z S Q0 ->
 (∀ ρ' S' σ' H' ad',Q0 ρ' S'->Wd ad H ad' H'->zT K ad' H' S'->zaQ K ad' H' ρ' σ'->σ'.length=U.length->(∀ j,b<=j->σ'[j]?=U[j]?)->Q σ' H')->g v U H Q
def zj6 (K:PySem.W.Frag)(b:Nat)(g':DGs)(g:TGs):Prop:=∀ ad H S Z U ds vs Q0 Q,zT K ad H S->zaQ K ad H Z U->zK K ad H ds vs->g' ds Z S Q0 ->
 (∀ ρ' S' σ' H' ad',Q0 ρ' S'->Wd ad H ad' H'->zT K ad' H' S'->zaQ K ad' H' ρ' σ'->σ'.length=U.length->(∀ j,b<=j->σ'[j]?=U[j]?)->Q σ' H')->g vs U H Q
def PGD (X:Cx)(b:Nat)(tg:Expr)(g':DG):Prop:=∃ g,PG X tg g/\zjr X.K b g' g
def zoS (X:Cx)(b:Nat)(tgs:List Expr)(g':DGs):Prop:=∃ g,PGs X tgs g/\zj6 X.K b g' g
theorem zaQ.set {K:PySem.W.Frag}{ad:List Addr}{H:Hp}{Z:Rho}{U:L2.St}{d:D}{v:V}(h:zaQ K ad H Z U)(r:Rel K ad H d v)(i:Nat):zaQ K ad H (Z.set i (some d)) (U.set i (some v)) where
 len:=by rw [List.length_set,List.length_set];exact h.len
 val:=fun j e q=>by
  by_cases hj:j=i
  ·subst hj
   have hl:j<Z.length:=by have:=My.zbb q;rw [List.length_set] at this;exact this
   rw [qC hl] at q
   cases q
   exact⟨v,qC (by rw [<- h.len];exact hl),r⟩
  ·rw [qH (Ne.symm hj)] at q
   obtain⟨u,e1,r1⟩:=h.val j e q
   exact⟨u,by rw [qH (Ne.symm hj)];exact e1,r1⟩
section
variable {X:Cx}{pos:Pos}{b:Nat}
theorem zag {K:PySem.W.Frag}(i:Nat)(hb:i<b):zjr K b (zE i) (L2.zE i):=fun ad H S Z U d v Q0 Q st rh r q k =>
 k _ S _ H ad q Wd.refl st (rh.set r i) (List.length_set ..) fun j hj=>qH (by omega)
theorem z9 {i:Nat}{x:Str}(hN:X.N.Nodup)(hi:X.N[i]?=some x:=by rfl)(hx:Loc X.env.scope x:=by first | exact Or.inl rfl | exact Or.inr rfl)(hf:X.fn x=true\/X.env.scope.names.lookup x=some .local:=by first | exact .inl rfl | exact .inr rfl | assumption)(hb:i<b:=by decide):PGD X b (.Name x pos) (zE i) :=
 ⟨_,zar hN hi hx hf,zag i hb⟩
theorem zd7:zoS X b [] zc9:=⟨_,ziy,fun ad H S Z U ds vs Q0 Q st rh r ⟨e,q⟩ k=>by
 subst e
 cases r
 exact⟨rfl,k Z S U H ad q Wd.refl st rh rfl fun _ _=>rfl⟩⟩
theorem zaN {e:Expr}{es:List Expr}{t:DG}{u:DGs}(h1:PGD X b e t)(h2:zoS X b es u)(hs:(assignEach (e::es) X.env).map (·.2)=assign e X.env::(assignEach es X.env).map (·.2):=by rfl):zoS X b (e::es) (zaI t u):=by
 obtain⟨g1,p1,r1⟩:=h1
 obtain⟨g2,p2,r2⟩:=h2
 refine⟨_,zc5 p1 p2 hs,fun ad H S Z U ds vs Q0 Q st rh r ⟨d,rs,ed,q⟩ k=>?_⟩
 subst ed
 cases r with
 | cons r t =>
  refine⟨_,_,rfl,r1 ad H S Z U d _ _ _ st rh r q fun ρ1 S1 σ1 H1 ad1 q1 w1 st1 rh1 l1 a1=>?_⟩
  exact r2 ad1 H1 S1 ρ1 σ1 _ _ _ _ st1 rh1 (t.wd w1) q1 fun ρ2 S2 σ2 H2 ad2 q2 w2 st2 rh2 l2 a2=>k ρ2 S2 σ2 H2 ad2 q2 (w1.trans w2) st2 rh2 (l2.trans l1) fun j hj=>(a2 j hj).trans (a1 j hj)
theorem zd9 {es:List Expr}{k n:Nat}{t:DGs}(hc:X.calm=true)(h:zoS X b es t)(hn:(assignEach es X.env).length=n:=by rfl)(hst:(assignEach es X.env).findIdx? (·.1)=none:=by rfl):PGD X b (.Tuple es k pos) (zc6 n t):=by
 obtain⟨g,p,r⟩:=h
 refine⟨_,zj4 hc p hn hst,fun ad H S Z U d v Q0 Q st rh rv ⟨xs,ed,hl,q⟩ k=>?_⟩
 subst ed
 cases rv with
 | tup h1 rs=>exact⟨_,_,rfl,SqT.of h1,by rw [<- rs.length];exact hl,r ad H S Z U xs _ _ _ st rh rs q k⟩
theorem zdg {o i:Expr}{to ti:DE}(ho:PD X o to)(hi:PD X i ti)
  (ha:∀ v,assign (.Subscript o i pos) X.env v=(do
   let ov <- holding [v] (eval o X.env)
   let iv <- holding [v,ov] (eval i X.env)
   standAt pos
   holding [v,ov,iv] (setItem ov iv v)
   release [v,ov,iv] []):=by intro _;rfl):PGD X b (.Subscript o i pos) (zeI to ti):=by with_unfolding_all exact (⟨_,zuX ho hi set_list ha,fun ad H S Z U d v Q0 Q st rh r q k=>⟨ad,Z,S,_,st,rh,q,fun x S1 u H1 ad1 q1 w1 st1 r1=>⟨ad1,Z,S1,_,st1,rh.wd w1,q1,fun y S2 z H2 ad2 q2 w2 st2 r2=>by
  obtain⟨n,xs,kk,j,ex,ey,hn,hj,q3⟩:=q2
  subst ex ey
  cases r2
  cases r1 with
  | ref e =>
   have e2:=zkL w2.pre e
   obtain⟨ws,hw,rw⟩:=st2.cell n _ _ e2 hn
   have rd:=r.wd (w1.trans w2)
   exact⟨_,ws,kk,j,rfl,rfl,hw,by rw [<- rw.length];exact hj,k Z _ U _ ad2 q3 ((w1.trans w2).trans (Wd.put e2 hw)) (st2.put e2 hw (rw.set rd j)) (rh.wd ((w1.trans w2).trans (Wd.put e2 hw))) rfl fun _ _=>rfl⟩⟩⟩⟩)
variable {st:Stmt}{sts:List Stmt}{t u:DS}{e:Expr}{te:DE}
theorem zN:zgj X [] zZ:=by with_unfolding_all exact (zl1 zt3 fun E U H hh=>el8 hh fun ad Z S E0 so rh q k=>k.nx Z S U H ad q Wd.refl so rh)
theorem zy (h:PSD X st t):zgj X [st] t:=by with_unfolding_all exact (ztE h)
theorem zu (h1:PSD X st t)(h2:zgj X sts u):zgj X (st::sts) (zH t u):=by with_unfolding_all exact (zl1 (zrx h1 h2) fun E U H hh=>el8 hh fun ad Z S E0 so rh q k =>
 ⟨ad,Z,S,{ E0 with nx:=u E0 },so,rh,q,⟨fun ρ' S' σ' H' ad' q' w st' rh'=>⟨ad',ρ',S',E0,st',rh',q',k.wd w⟩,k.rt,k.bk,k.ct⟩⟩)
theorem zbs:PSD X st zcC:=by with_unfolding_all exact (zbO zrZ fun E U H hh=>el8 hh fun ad Z S E0 so rh q k=>q)
theorem zaG (he:PD X e te)(hs:swapsWith e none pos.line X.env=pure false:=by rfl):PSD X (.Expr e pos) (zbn te):=by with_unfolding_all exact (zbO (ztP he hs) fun E U H hh=>el8 hh fun ad Z S E0 so rh q k =>
 ⟨ad,Z,S,_,so,rh,q,fun d S' v H' ad' q' w st' r=>k.nx Z S' U H' ad' q' w st' (rh.wd w)⟩)
theorem zL (he:PD X e te):PSD X (.Return (some e) pos) (zY te):=by with_unfolding_all exact (zbO (zvG he) fun E U H hh=>el8 hh fun ad Z S E0 so rh q k=>⟨ad,Z,S,_,so,rh,q,k.rt⟩)
theorem zdI (h:PSD X st t):PSD X st (sJ t):=by with_unfolding_all exact (zbO h fun E U H ⟨ad,Z,S,E0,so,rh,⟨J,hJ,q⟩,k⟩ =>
 ⟨ad,Z,S,{ E0 with nx:=J },so,rh,q,⟨fun ρ' S' σ' H' ad' q' w st' rh'=>k.nx ρ' S' σ' H' ad' (hJ _ _ q') w st' rh',k.rt,k.bk,k.ct⟩⟩)
theorem zR {c:Expr}{a b:List Stmt}{tc:DT}(hc:PTD X c tc)(ha:zgj X a t)(hb:zgj X b u):PSD X (.If c a b pos) (sIf tc t u):=by with_unfolding_all exact (zbO (zwQ hc ha hb) fun E U H hh=>el8 hh fun ad Z S E0 so rh q k =>
 ⟨ad,Z,S,_,so,rh,q,fun b S' H' ad' q' w st'=>by
  cases b with
  | true=>rw [if_pos rfl] at q' ⊢;exact⟨ad',Z,S',E0,st',rh.wd w,q',k.wd w⟩
  | false=>rw [if_neg qo] at q' ⊢;exact⟨ad',Z,S',E0,st',rh.wd w,q',k.wd w⟩⟩)
theorem zG {i:Nat}{x:Str}{pos':Pos}(hN:X.N.Nodup)(he:PD X e te)(hi:X.N[i]?=some x:=by rfl)(hx:Loc X.env.scope x:=by first | exact Or.inl rfl | exact Or.inr rfl)(hs:swapsWith e (some (.Name x pos')) pos.line X.env=pure false:=by rfl)(hf:X.fn x=true\/X.env.scope.names.lookup x=some .local:=by first | exact .inl rfl | exact .inr rfl | assumption) :
  PSD X (.Assign [.Name x pos'] e pos) (zO te (zE i)):=by with_unfolding_all exact (zbO (zvW hN hi hx he hs hf) fun E U H hh=>el8 hh fun ad Z S E0 so rh q k =>
 ⟨ad,Z,S,_,so,rh,q,fun d S' v H' ad' q' w st' r=>k.nx _ S' _ H' ad' q' w st' ((rh.wd w).set r i)⟩)
theorem zcF {tg:Expr}{g:DG}(he:PD X e te)(hg:PGD X 1000 tg g)(hs:swapsWithSole [tg] e pos.line X.env=pure false:=by rfl)(hw:swappedStores [tg] e X.env=pure none:=by rfl)
  (h1:(assignEach [tg] X.env).map (·.2)=[assign tg X.env]:=by rfl):PSD X (.Assign [tg] e pos) (zO te g):=by
 with_unfolding_all
  obtain⟨g',p,r⟩:=hg
  exact zbO (zu1 he p hs hw h1) fun E U H hh=>el8 hh fun ad Z S E0 so rh q k =>
   ⟨ad,Z,S,_,so,rh,q,fun d S' v H' ad' q' w st' rv=>r ad' H' S' Z U d v _ _ st' (rh.wd w) rv q' fun ρ2 S2 σ2 H2 ad2 q2 w2 st2 rh2 _ _=>k.nx ρ2 S2 σ2 H2 ad2 q2 (w.trans w2) st2 rh2⟩
theorem znR {i j:Nat}{x y:Str}{a b:Expr}{t:DA}{px py pt:Pos}{kt k2 pt2}(hc:X.calm=true)(hN:X.N.Nodup)(hi:X.N[i]?=some x)(hj:X.N[j]?=some y)(hij:i≠j)
  (hx:X.env.scope.names.lookup x=some .local) (hy:X.env.scope.names.lookup y=some .local) (ha:PAD X [a,b] t)
  (hw:swappedStores [.Tuple [.Name x px,.Name y py] kt pt] (.Tuple [a,b] k2 pt2) X.env=pure (some [x,y]))
  (hs:swapsWithSole [.Tuple [.Name x px,.Name y py] kt pt] (.Tuple [a,b] k2 pt2) pos.line X.env=pure false:=by rfl) :
  PSD X (.Assign [.Tuple [.Name x px,.Name y py] kt pt] (.Tuple [a,b] k2 pt2) pos) (zoj i j t):=by with_unfolding_all exact (zbO (zuM hc hN hi hj hij hx hy ha hw hs) fun E U H hh=>el8 hh fun ad Z S E0 so rh q k =>
 ⟨ad,Z,S,_,so,rh,q,fun ds S' vs H' ad' q' w st' r=>by
  obtain⟨d1,d2,e,q'⟩:=q'
  subst e
  cases r with
  | cons r1 r' =>
   cases r' with
   | cons r2 r'' =>
    cases r''
    exact⟨_,_,rfl,k.nx _ S' _ H' ad' q' w st' (((rh.wd w).set r1 i).set r2 j)⟩⟩)
theorem zsZ {i:Nat}{x:Str}{pos':Pos}(hN:X.N.Nodup)(he:PD X e te)(hi:X.N[i]?=some x:=by rfl)(hx:Loc X.env.scope x:=by first | exact Or.inl rfl | exact Or.inr rfl)(hf:X.fn x=true\/X.env.scope.names.lookup x=some .local:=by first | exact .inl rfl | exact .inr rfl | assumption) :
  PSD X (.AugAssign (.Name x pos') .Add e pos) (zr1 i te):=by with_unfolding_all exact (zbO (zuP hN hi hx he zun hf) fun E U H ⟨ad,Z,S,E0,so,rh,⟨a,ea,q⟩,k⟩=>by
 obtain⟨v,ev,rv⟩:=rh.val i _ ea
 cases rv
 refine⟨_,ev,ad,Z,S,_,so,rh,q,fun d S' v H' ad' ⟨b,eb,q'⟩ w st' r=>?_⟩
 subst eb
 cases r
 exact⟨a,b,rfl,rfl,k.nx _ S' _ H' ad' q' w st' ((rh.wd w).set (.int _) i)⟩)
theorem zk4 {c:Expr}{body:List Stmt}{tc:DT}(hc:PTD X c tc)(hb:zgj X body t)(hp:PassesOwn (model X.prog X.w) X.A X.env X.xe:=by first | exact PassesOwn.never | exact PassesOwn.leaving):PSD X (.While c body [] pos) (zj7 tc t):=by with_unfolding_all exact (zbO (zrf hp hc hb) fun E U H ⟨ad,Z,S,E0,so,rh,⟨W,⟨m0,w0⟩,turn⟩,k⟩=>by
 refine⟨fun m σ' H'=>∃ ad' ρ' S',W m ρ' S'/\Wd ad H ad' H'/\zT X.K ad' H' S'/\zaQ X.K ad' H' ρ' σ',⟨m0,ad,Z,S,w0,Wd.refl,so,rh⟩,?_⟩
 rintro m σ1 H1 ⟨ad1,ρ1,S1,w1,d1,st1,rh1⟩
 refine⟨ad1,ρ1,S1,_,st1,rh1,turn m ρ1 S1 w1,fun b S2 H2 ad2 q2 d2 st2=>?_⟩
 cases b with
 | true =>
  rw [if_pos rfl] at q2 ⊢
  obtain⟨N,hN,q2⟩:=q2
  refine⟨fun σ' H'=>∃ ad' ρ' S',N ρ' S'/\Wd ad H ad' H'/\zT X.K ad' H' S'/\zaQ X.K ad' H' ρ' σ',?_,ad2,ρ1,S2,{ E0 with nx:=N,ct:=N,bk:=E0.nx },st2,rh1.wd d2,q2,?_⟩
  ·rintro σ' H' ⟨ad',ρ',S',n',d',st',rh'⟩
   obtain⟨m',hm,w'⟩:=hN ρ' S' n'
   exact⟨m',hm,ad',ρ',S',w',d',st',rh'⟩
  ·have d12:=d1.trans d2
   exact⟨fun ρ' S' σ' H' ad' q' w' st' rh'=>⟨ad',ρ',S',q',d12.trans w',st',rh'⟩,k.rt.wd d12,fun ρ' S' σ' H' ad' q' w' st' rh'=>k.nx ρ' S' σ' H' ad' q' (d12.trans w') st' rh',fun ρ' S' σ' H' ad' q' w' st' rh'=>⟨ad',ρ',S',q',d12.trans w',st',rh'⟩⟩
 | false =>
  rw [if_neg qo] at q2 ⊢
  exact k.nx ρ1 S2 σ1 H2 ad2 q2 (d1.trans d2) st2 (rh1.wd d2))
end
structure zgL (K:PySem.W.Frag)(ad0:List Addr)(H0:Hp)(J0:DIt)(J:It):Prop where
 go:∀ ad H S i,Wd ad0 H0 ad H->zT K ad H S->J0.ok S->i<J0.items.length->J.go i H
 yld:∀ ad H S i d x H',Wd ad0 H0 ad H->zT K ad H S->J0.ok S->J0.items[i]?=some d->J.yld i H x H'->Wd ad H ad H'/\zT K ad H' S/\Rel K ad H' d x
 stop:∀ ad H S,Wd ad0 H0 ad H->zT K ad H S->J0.ok S->J.stop J0.items.length H
def upI (K:PySem.W.Frag)(wi:DI):TI:=fun U H R=>∃ ad Z S R0,zT K ad H S/\zaQ K ad H Z U/\wi Z S R0/\∀ J0 S' J H' ad',R0 J0 S'->Wd ad H ad' H'->zT K ad' H' S'->zgL K ad' H' J0 J->R J H'
@[irreducible] def PID (X:Cx)(tg iter:Expr)(wi:DI):Prop:=PI X tg iter (upI X.K wi)
theorem ziJ {X:Cx}{tg iter:Expr}{w w':TI}(h:PI X tg iter w)(m:∀ U H R,w' U H R->w U H R):PI X tg iter w':=fun pins s U H R I q=>h pins s U H R I (m U H R q)
section
variable {X:Cx}{tg e:Expr}
def Its (z:Str):It:=⟨fun i _=>i<z.cps.size,fun i H x H'=>H'=H/\∃ c,z.cps[i]?=some c/\x=.str ⟨#[c]⟩,fun i _=>z.cps.size<=i⟩
theorem zqe {P:Program}{w:World}{K:PySem.W.Frag}{tg:Expr}(z:Str)(t:Tok)(it:Addr):Turn P w K tg (Its z) [it] it (fun i h=>h.IsStrIter it "str_ascii_iterator" z t i) where
 mem:=by simp
 obj:=fun i h st b hb=>by
  have e:b=it:=by simpa using hb
  subst e
  obtain⟨o,e,c,d⟩:=st
  exact⟨o,e,fun v y=>by rw [d] at y;cases y⟩
 keep:=fun i h h' st k=>let ⟨o,e,r⟩:=st;⟨o,k it (by simp) o e,r⟩
 item:=by
  intro X hP hw hK hc i pins s U H E I hf st hg
  subst hP hw hK
  have hg:i<z.cps.size:=hg
  obtain⟨f0,f1,f2,f3,f4,f5⟩:=hf it (by simp)
  refine wpAny_pyNext_ascii_item st (c:=z.cps[i]) (by simp [hg]) fun h' st' sb=>?_
  have I1:Inv X pins U H { s with heap:=h',toks:=s.toks+1 }:=I.turned (t':=s.toks+1) (fun b o hb e=>(sb.2 b hb).trans e) f0 f1 f3 f4 f5
  obtain⟨o,e,c,d⟩:=id st'
  exact⟨_,rfl,zis (s:={ s with heap:=h',toks:=s.toks+1 }) e c d (by decide) ⟨.str ⟨#[z.cps[i]]⟩,H,I1,⟨_,rfl⟩,⟨rfl,z.cps[i],by simp [hg],rfl⟩,st',fun b hb=>(hf b hb).1⟩⟩
 done:=by
  intro X hP hw hK hc i pins s U H E I hf st hg
  subst hP hw hK
  have hg:z.cps.size<=i:=hg
  obtain⟨f0,f1,f2,f3,f4,f5⟩:=hf it (by simp)
  exact wpAny_pyNext_ascii_end (I.ok.hd hc) st (by simp [hg]) fun h' eb=>⟨rfl,I.turned (t':=s.toks) (fun b o hb e=>eb b o hb e) f0 f1 f3 f4 f5⟩
 self:=fun _ _ _ _ _ st hQ=>wpAny_pyIter_striter_ascii st hQ
theorem zpC {P:Program}{w:World}{K:PySem.W.Frag}{tg:Expr}(z:Str)(t:Tok)(it:Addr):Turn P w K tg (Its z) [it] it (fun i h=>h.IsStrIter it "str_iterator" z t i) where
 mem:=by simp
 obj:=fun i h st b hb=>by
  have e:b=it:=by simpa using hb
  subst e
  obtain⟨o,e,c,d⟩:=st
  exact⟨o,e,fun v y=>by rw [d] at y;cases y⟩
 keep:=fun i h h' st k=>let ⟨o,e,r⟩:=st;⟨o,k it (by simp) o e,r⟩
 item:=by
  intro X hP hw hK hc i pins s U H E I hf st hg
  subst hP hw hK
  have hg:i<z.cps.size:=hg
  obtain⟨f0,f1,f2,f3,f4,f5⟩:=hf it (by simp)
  refine wpAny_pyNext_wide_item st (c:=z.cps[i]) (by simp [hg]) fun h' st' sb=>?_
  have I1:Inv X pins U H { s with heap:=h',toks:=s.toks+1 }:=I.turned (t':=s.toks+1) (fun b o hb e=>(sb.2 b hb).trans e) f0 f1 f3 f4 f5
  obtain⟨o,e,c,d⟩:=id st'
  exact⟨_,rfl,zis (s:={ s with heap:=h',toks:=s.toks+1 }) e c d (by decide) ⟨.str ⟨#[z.cps[i]]⟩,H,I1,⟨_,rfl⟩,⟨rfl,z.cps[i],by simp [hg],rfl⟩,st',fun b hb=>(hf b hb).1⟩⟩
 done:=by
  intro X hP hw hK hc i pins s U H E I hf st hg
  subst hP hw hK
  have hg:z.cps.size<=i:=hg
  obtain⟨f0,f1,f2,f3,f4,f5⟩:=hf it (by simp)
  exact wpAny_pyNext_wide_end (I.ok.hd hc) st (by simp [hg]) fun h' eb=>⟨rfl,I.turned (t':=s.toks) (fun b o hb e=>eb b o hb e) f0 f1 f3 f4 f5⟩
 self:=fun _ _ _ _ _ st hQ=>wpAny_pyIter_striter_wide st hQ
def zs6 (K:PySem.W.Frag)(tl:TE):TI:=fun U H R=>tl U H fun x H1=>(∃ a,x=.ref a/\(((∃ xs,SqL K H1 a xs)/\R (Itl K a) H1)\/((∃ xs,SqT K H1 a xs)/\R (Itt K a) H1)))\/(∃ z,x=.str z/\R (Its z) H1)
theorem zqm {l:Expr}{tl:TE}(hl:PE X l tl):PI X tg l (zs6 X.K tl):=by
  intro pins s U H R I h
  refine thn (hl pins s U H _ I h) fun v s1 ⟨x,H1,I1,r1,q1⟩=>?_
  rcases q1 with ⟨a,e,q1⟩ | ⟨z,e,q⟩
  case inr =>
    subst e
    obtain⟨t,rfl⟩:=r1
    have fp:∀ b∈[s1.heap.objs.size],zfI X pins H1 b:=fun b hb=>by
      have e:b=s1.heap.objs.size:=by simpa using hb
      subst e
      exact I1.fpOk (qg _) (I1.hok.fresh (qg _))
    cases ha:z.cps.all (· < 128) with
    | true=>exact wpAny_pyIter_ascii ha ⟨s1.heap.objs.size,[s1.heap.objs.size],_,_,H1,rfl,I1.kept (t':=s1.toks) fun b o e=>qc _ e,zqe z t _,⟨_,Heap.get?_push_size _ rfl,rfl,rfl⟩,fp,q⟩
    | false=>exact wpAny_pyIter_wide ha ⟨s1.heap.objs.size,[s1.heap.objs.size],_,_,H1,rfl,I1.kept (t':=s1.toks) fun b o e=>qc _ e,zpC z t _,⟨_,Heap.get?_push_size _ rfl,rfl,rfl⟩,fp,q⟩
  subst e
  cases r1
  rcases q1 with ⟨⟨xs,hq⟩,q⟩ | ⟨⟨xs,hq⟩,q⟩
  . obtain⟨its,rv,p,hz⟩:=I1.list hq
    refine wpAny_pyIter_list p.isList ?_
    refine⟨s1.heap.objs.size,[s1.heap.objs.size],_,_,H1,rfl,I1.kept (t':=s1.toks) fun b o e=>qc _ e,zpB a _,⟨_,Heap.get?_push_size _ rfl,rfl,rfl⟩,fun b hb=>?_,q⟩
    have e:b=s1.heap.objs.size:=by simpa using hb
    subst e
    exact I1.fpOk (qg _) (I1.hok.fresh (qg _))
  . obtain⟨its,rv,p,hz⟩:=I1.tuple hq
    refine wpAny_pyIter_tuple (show s1.heap.IsTuple a its.toArray from p) ?_
    refine⟨s1.heap.objs.size,[s1.heap.objs.size],_,_,H1,rfl,I1.kept (t':=s1.toks) fun b o e=>qc _ e,zos a _,⟨_,Heap.get?_push_size _ rfl,rfl,rfl⟩,fun b hb=>?_,q⟩
    have e:b=s1.heap.objs.size:=by simpa using hb
    subst e
    exact I1.fpOk (qg _) (I1.hok.fresh (qg _))
theorem zvb {K:PySem.W.Frag}{ad:List Addr}{H:Hp}(z:Str):zgL K ad H ⟨signs z,fun _=>True⟩ (Its z) where
 go:=fun ad1 H1 S i w st _ hi=>by
  show i<z.cps.size
  have:i<(signs z).length:=hi
  unfold signs at this
  rw [qa] at this
  simpa using this
 yld:=fun ad1 H1 S i d x H' w st _ hd ⟨e,c,hc,hx⟩=>by
  subst e hx
  have hd:(signs z)[i]?=some d:=hd
  unfold signs at hd
  rw [qh,Array.getElem?_toList,hc] at hd
  cases hd
  exact⟨Wd.refl,st,.str _⟩
 stop:=fun ad1 H1 S w st _=>by
  show z.cps.size<=(signs z).length
  unfold signs
  rw [qa];simp
theorem zvM {K:PySem.W.Frag}{ad:List Addr}{H:Hp}{a:Addr}{vs:List V}{ds:List D}(h:H a=some (.tup vs))(r:zK K ad H ds vs):zgL K ad H ⟨ds,fun _=>True⟩ (Itt K a) where
 go:=fun ad1 H1 S i w st _ hi=>⟨vs,vs[i]'(by rw [<- r.length];exact hi),SqT.of (w.tup _ _ h),qb _⟩
 yld:=fun ad1 H1 S i d x H' w st _ hd ⟨e,hx⟩=>by
  subst e
  obtain⟨v,ev,rv⟩:=r.get hd
  rw [hx vs (SqT.of (w.tup _ _ h))] at ev
  cases ev
  exact⟨Wd.refl,st,rv.wd w⟩
 stop:=fun ad1 H1 S w st _=>⟨vs,SqT.of (w.tup _ _ h),by rw [<- r.length];exact qg _⟩
theorem zu6 {K:PySem.W.Frag}{ad:List Addr}{H:Hp}{a:Addr}{x:D}{ds:List D}(r:Rel K ad H x (.ref a)):zgL K ad H ⟨ds,fun S=>Lst S x ds⟩ (Itl K a) where
 go:=fun ad1 H1 S i w st ok hi=>by
  obtain⟨a',vs,e,s,rs⟩:=Lst.sq st ok (r.wd w)
  cases e
  exact⟨vs,vs[i]'(by rw [<- rs.length];exact hi),s,qb _⟩
 yld:=fun ad1 H1 S i d y H' w st ok hd ⟨e,hx⟩=>by
  subst e
  obtain⟨a',vs,e,s,rs⟩:=Lst.sq st ok (r.wd w)
  cases e
  obtain⟨v,ev,rv⟩:=rs.get hd
  rw [hx vs s] at ev
  cases ev
  exact⟨Wd.refl,st,rv⟩
 stop:=fun ad1 H1 S w st ok=>by
  obtain⟨a',vs,e,s,rs⟩:=Lst.sq st ok (r.wd w)
  cases e
  exact⟨vs,s,by rw [<- rs.length];exact qg _⟩
theorem zav {t:DE}(h:PD X e t):PID X tg e (zaZ t):=by with_unfolding_all exact (ziJ (zqm h) fun U H R hh=>el8 hh fun ad Z S R0 st rh q k =>
 ⟨ad,Z,S,_,st,rh,q,fun x S1 v H1 ad1 q1 w1 st1 r1=>by
  rcases q1 with ⟨xs,rfl,q1⟩ | ⟨xs,hx,q1⟩ | ⟨z,rfl,q1⟩
  ·cases r1 with
   | tup h1 rs=>exact .inl ⟨_,rfl,.inr ⟨⟨_,SqT.of h1⟩,k _ S1 _ H1 ad1 q1 w1 st1 (zvM h1 rs)⟩⟩
  ·obtain⟨a,vs,rfl,s,rs⟩:=hx.sq st1 r1
   exact .inl ⟨a,rfl,.inl ⟨⟨vs,s⟩,k _ S1 _ H1 ad1 q1 w1 st1 (zu6 r1)⟩⟩
  ·cases r1
   exact .inr ⟨z,rfl,k _ S1 _ H1 ad1 q1 w1 st1 (zvb z)⟩⟩)
theorem zrD {lo:Int}{n i:Nat}{d:D}(h:(upto lo n)[i]?=some d):i<n/\d=.int (lo+i):=by
 unfold upto at h
 rw [qh] at h
 have hi:=My.zbb (xs:=List.range n) (i:=i) (x:=i)
 cases hr:(List.range n)[i]? with
 | none=>rw [hr] at h;cases h
 | some k =>
  rw [hr] at h
  have h1:=My.zbb hr
  rw [List.length_range] at h1
  have h2:(List.range n)[i]?=some i:=List.getElem?_range h1
  rw [hr] at h2
  cases h2
  cases h
  exact⟨h1,rfl⟩
theorem zlM (lo:Int)(n:Nat):(upto lo n).length=n:=by unfold upto;rw [qa,List.length_range]
theorem zpL {K:PySem.W.Frag}{ad:List Addr}{H:Hp}(lo:Int)(n:Nat):zgL K ad H ⟨upto lo n,fun _=>True⟩ (Itr lo n) where
 go:=fun ad1 H1 S i w st _ hi=>by rw [zlM] at hi;exact hi
 yld:=fun ad1 H1 S i d x H' w st _ hd ⟨e,hx⟩=>by
  subst e
  obtain⟨_,rfl⟩:=zrD hd
  rw [hx]
  exact⟨Wd.refl,st,.int _⟩
 stop:=fun ad1 H1 S w st _=>by rw [zlM];exact qg _
theorem zpG {P:Program}{w:World}{K:PySem.W.Frag}{tg:Expr}(it:Addr)(lo:Int)(n:Nat):Turn P w K tg (Itr lo n) [it] it (fun i h=>IsLongIter h it (lo+(i:Nat)*1) ((n:Int)-(i:Nat)) 1) where
 mem:=by simp
 obj:=fun i h st b hb=>by
  have e:b=it:=by simpa using hb
  subst e
  exact⟨_,st,fun v z=>by
   have z':Data.fields _=Data.cell v:=z
   cases z'⟩
 keep:=fun i h h' st k=>k it (by simp) _ st
 item:=by
  intro X hP hw hK hc i pins s U H E I hf st' hg
  subst hP hw hK
  obtain⟨f0,f1,f2,f3,f4,f5⟩:=hf it (by simp)
  have W:=Walks.longrange (prog:=X.prog) (w:=X.w) (I.ok.hd hc) it lo 1 n
  refine W.item i s _ _ hg st' fun v h' tk hv st'' kk=>?_
  obtain⟨t,rfl⟩:=hv
  have I1:Inv X pins U H { s with heap:=h',toks:=tk }:=I.turned (fun b o hb e=>kk b o (by simpa using hb) e) f0 f1 f3 f4 f5
  rw [Int.mul_one]
  exact⟨_,rfl,zis (s:={ s with heap:=h',toks:=tk }) (n:="longrange_iterator") st'' rfl rfl (by decide) ⟨.int (lo+i),H,I1,⟨t,rfl⟩,⟨rfl,rfl⟩,st'',fun b hb=>(hf b hb).1⟩⟩
 done:=by
  intro X hP hw hK hc i pins s U H E I hf st' hg
  subst hP hw hK
  obtain⟨f0,f1,f2,f3,f4,f5⟩:=hf it (by simp)
  exact wpAny_pyNext_long_end (I.ok.hd hc) st' (by have:n<=i:=hg;omega) fun h' eb=>⟨rfl,I.turned (t':=s.toks) (fun b o hb e=>eb b o hb e) f0 f1 f3 f4 f5⟩
 self:=fun _ _ _ _ _ st h=>wpAny_pyIter_longiter st h
theorem range_any {pins:List (Addr×Obj)}{U:L2.St}{H:Hp}{s:Shared}{R:It->Hp->Prop}{E:Value->Shared->Prop}{lo hi:Int}{t u v:Tok}{tk:Nat}(I:Inv X pins U H s)
    (q:R (Itr lo (hi-lo).toNat) H):wpAny (model X.prog X.w) X.A (pyIter (.ref s.heap.objs.size)) (PIE X pins U tg R) E { s with heap:=s.heap.push { cls:=.type "range",data:=.fields #[.int lo t,.int hi u,.int 1 v] },toks:=tk }:=by
  have I1:Inv X pins U H { s with heap:=s.heap.push { cls:=.type "range",data:=.fields #[.int lo t,.int hi u,.int 1 v] },toks:=tk }:=I.kept fun b o e=>qc _ e
  have e1:lo+((0:Nat):Int)*1=lo:=by simp
  have e2:(((hi-lo).toNat:Nat):Int)-((0:Nat):Int)=Builtin.Range.rangeSize lo hi 1:=by rw [rangeSize_one];split<;>omega
  cases hsm:Builtin.Range.small lo hi 1 with
  | true =>
    refine wpAny_pyIter_range (IsRange.new ..) hsm ?_
    refine⟨(s.heap.push { cls:=.type "range",data:=.fields #[.int lo t,.int hi u,.int 1 v] }).objs.size,[(s.heap.push { cls:=.type "range",data:=.fields #[.int lo t,.int hi u,.int 1 v] }).objs.size],_,_,H,rfl,
      I1.kept (t':=tk) fun b o e=>qc _ e,zjR _ lo (hi-lo).toNat,?_,fun b hb=>?_,q⟩
    . show IsRangeIter _ _ (lo+((0:Nat):Int)*1) ((((hi-lo).toNat:Nat):Int)-((0:Nat):Int)) 1
      rw [e1,e2]
      exact Heap.get?_push_size _ rfl
    . have e:b=(s.heap.push { cls:=.type "range",data:=.fields #[.int lo t,.int hi u,.int 1 v] }).objs.size:=by simpa using hb
      subst e
      exact I1.fpOk (qg _) (I1.hok.fresh (qg _))
  | false =>
    refine wpAny_pyIter_longrange (IsRange.new ..) hsm ?_
    refine⟨(s.heap.push { cls:=.type "range",data:=.fields #[.int lo t,.int hi u,.int 1 v] }).objs.size,[(s.heap.push { cls:=.type "range",data:=.fields #[.int lo t,.int hi u,.int 1 v] }).objs.size],_,_,H,rfl,
      I1.kept (t':=tk) fun b o e=>qc _ e,zpG _ lo (hi-lo).toNat,?_,fun b hb=>?_,q⟩
    . show IsLongIter _ _ (lo+((0:Nat):Int)*1) ((((hi-lo).toNat:Nat):Int)-((0:Nat):Int)) 1
      rw [e1,e2]
      exact Heap.get?_push_size _ rfl
    . have e:b=(s.heap.push { cls:=.type "range",data:=.fields #[.int lo t,.int hi u,.int 1 v] }).objs.size:=by simpa using hb
      subst e
      exact I1.fpOk (qg _) (I1.hok.fresh (qg _))
theorem zba {a:Expr}{t:DA}{p pos:Pos}(hm:X.mg "range"=none)(ha:PAD X [a] t)(hg:Gl X "range":=by rfl)(hs:starEach [a] X.env=[(false,eval a X.env)]:=by exact zdY rfl):PID X tg (.Call (.Name "range" p) [a] [] pos) (zbA t):=by with_unfolding_all exact (ziJ (zqo hg hm ha hs) fun U H R hh=>el8 hh fun ad Z S R0 st rh q k =>
 ⟨ad,Z,S,_,st,rh,q,fun ds S1 vs H1 ad1 ⟨j,ed,b1,b2,q1⟩ w1 st1 r1=>by
  subst ed
  obtain⟨v,rfl,rv⟩:=zb7 r1
  cases rv
  exact⟨j,rfl,b1,b2,k _ S1 _ H1 ad1 q1 w1 st1 (zpL 0 j.toNat)⟩⟩)
theorem znT {a b:Expr}{t:DA}{p pos:Pos}(hm:X.mg "range"=none)(ha:PAD X [a,b] t)(hg:Gl X "range":=by rfl)(hs:starEach [a,b] X.env=[(false,eval a X.env),(false,eval b X.env)]:=by exact zjf rfl rfl)(hs2:starEach [b] X.env=[(false,eval b X.env)]:=by exact zdY rfl) :
  PID X tg (.Call (.Name "range" p) [a,b] [] pos) (zlI t):=by
 with_unfolding_all
  rintro pins s U H R I ⟨ad,Z,S,R0,st,rh,q,k⟩
  refine Call_ (zcX I hg hm boot_range (PyProof.Rows.callWith_type1 (thn (ha pos pins s U H (fun vs H1=>∃ i j:Int,vs=[.int i,.int j]/\R (Itr i (j-i).toNat) H1) I ⟨ad,Z,S,_,st,rh,q,fun ds S1 vs H1 ad1 ⟨i,j,ed,q1⟩ w1 st1 r1=>by
   subst ed
   obtain⟨v,u,rfl,rv,ru⟩:=zhU r1
   cases rv
   cases ru
   exact⟨i,j,rfl,k _ S1 _ H1 ad1 q1 w1 st1 (zpL i _)⟩⟩) fun us s1 ⟨vs,H1,I1,r1,q1⟩=>?_) (by rw [hs,hs2]) (by rw [hs2];rfl)))
  obtain⟨i,j,e,q⟩:=q1
  subst e
  cases r1 with
  | cons r rr =>
   cases rr with
   | cons r' rr =>
    cases rr
    obtain⟨t,rfl⟩:=r
    obtain⟨t',rfl⟩:=r'
    exact call_range_2 (range_any I1 q)
theorem zaq {iter:Expr}{body:List Stmt}{wi:DI}{g:DG}{t:DS}{pos:Pos}(hi:PID X tg iter wi)(hg:PGD X 1000 tg g)(hb:zgj X body t)(hp:PassesOwn (model X.prog X.w) X.A X.env X.xe:=by first | exact PassesOwn.never | exact PassesOwn.leaving)(hc:X.calm=true:=by rfl)(hs:∀ x,foldedSetIterable iter X.env x=pure x:=by intro _;rfl):PSD X (.For tg iter body [] pos) (za2 wi g t):=by
 with_unfolding_all
  obtain⟨g',pg,rg⟩:=hg
  refine zbO (zue hp hc hi pg hb hs) fun E U H hh=>el8 hh fun ad Z S E0 so rh q k=>?_
  refine⟨ad,Z,S,_,so,rh,q,fun J0 S1 J H1 ad1 ⟨W,w0,hok,step,fin⟩ d1 st1 it=>?_⟩
  refine⟨fun i m σ' H'=>m=J0.items.length-i/\i<=J0.items.length/\∃ ad' ρ' S',W i ρ' S'/\Wd ad1 H1 ad' H'/\zT X.K ad' H' S'/\zaQ X.K ad' H' ρ' σ',⟨J0.items.length,rfl,qJ _,ad1,Z,S1,w0,Wd.refl,st1,rh.wd d1⟩,?_⟩
  rintro i m σ2 H2 ⟨rfl,hi2,ad2,ρ2,S2,w2,d2,st2,rh2⟩
  by_cases hlt:i<J0.items.length
  ·have ed:J0.items[i]?=some J0.items[i]:=qb hlt
   refine .inr ⟨it.go ad2 H2 S2 i d2 st2 (hok _ _ _ w2) hlt,fun σ' H'=>∃ ad' ρ' S',W (i+1) ρ' S'/\Wd ad1 H1 ad' H'/\zT X.K ad' H' S'/\zaQ X.K ad' H' ρ' σ',?_,fun x H' hy=>?_⟩
   ·rintro σ' H' ⟨ad',ρ',S',w',d',st',rh'⟩
    exact⟨J0.items.length-(i+1),by omega,rfl,hlt,ad',ρ',S',w',d',st',rh'⟩
   ·obtain⟨d3,st3,r3⟩:=it.yld ad2 H2 S2 i _ x H' d2 st2 (hok _ _ _ w2) ed hy
    refine rg ad2 H' S2 ρ2 σ2 _ x _ _ st3 (rh2.wd d3) r3 (step i _ ρ2 S2 ed w2) fun ρ4 S4 σ4 H4 ad4 q4 d4 st4 rh4 _ _=>?_
    have d14:=(d2.trans d3).trans d4
    have d04:=d1.trans d14
    exact⟨ad4,ρ4,S4,{ E0 with nx:=W (i+1),ct:=W (i+1),bk:=E0.nx },st4,rh4,q4,⟨fun ρ' S' σ' H' ad' q' w' st' rh'=>⟨ad',ρ',S',q',d14.trans w',st',rh'⟩,k.rt.wd d04,fun ρ' S' σ' H' ad' q' w' st' rh'=>k.nx ρ' S' σ' H' ad' q' (d04.trans w') st' rh',fun ρ' S' σ' H' ad' q' w' st' rh'=>⟨ad',ρ',S',q',d14.trans w',st',rh'⟩⟩⟩
  ·have e:i=J0.items.length:=by omega
   subst e
   exact .inl ⟨it.stop ad2 H2 S2 d2 st2 (hok _ _ _ w2),k.nx ρ2 S2 σ2 H2 ad2 (fin ρ2 S2 w2) (d1.trans d2) st2 rh2⟩
end
theorem zl7:∀ {a b:L2.St} (n:Nat),(∀ j,j<n->a[j]?=some none\/a.length<=j)->b.length=a.length->(∀ j,n<=j->b[j]?=a[j]?)->Agr a b
 | [],[],_,_,_,_=>True.intro
 | [],_::_,_,_,h,_=>by simp at h
 | _::_,[],_,_,h,_=>by simp at h
 | x::a,y::b,n,h0,hl,h=>by
  have hl':b.length=a.length:=by simpa using hl
  cases n with
  | zero =>
   have e:=h 0 (qg _)
   have e':y=x:=by simpa using e
   subst e'
   have rest:Agr a b:=zl7 0 (fun j hj=>absurd hj (Nat.not_lt_zero _)) hl' fun j _=>by simpa using h (j+1) (qJ _)
   cases y with
   | none=>exact rest
   | some v=>exact⟨rfl,rest⟩
  | succ n =>
   have rest:Agr a b:=zl7 n (fun j hj=>by
    rcases h0 (j+1) (by omega) with e | e
    ·exact .inl (by simpa using e)
    ·exact .inr (by simpa using e)) hl' fun j hj=>by simpa using h (j+1) (by omega)
   rcases h0 0 (Nat.succ_pos _) with e | e
   ·have e':x=none:=by simpa using e
    subst e'
    exact rest
   ·simp at e
theorem ztC {K:PySem.W.Frag}{ad:List Addr}{H:Hp}{Z:Rho}{U:L2.St}(h:zaQ K ad H Z U)(own:List Str)(fv:List Nat):zaQ K ad H (zje own.length fv Z) (cst own fv U) where
  len:=by unfold zje cst;rw [qe,qe,qw,qw,qa,qa]
  val:=fun i d e=>by
    unfold zje at e
    unfold cst
    by_cases hi:i<own.length
    . rw [qv (by rw [qw];exact hi),List.getElem?_replicate] at e
      split at e<;>cases e
    . have hi':own.length<=i:=Nat.le_of_not_lt hi
      rw [ql (by rw [qw];exact hi'),qw,qh] at e
      rw [ql (by rw [qw];exact hi'),qw,qh]
      cases hf:fv[i-own.length]? with
      | none=>rw [hf] at e;cases e
      | some j =>
        rw [hf] at e
        simp only [Option.map_some,Option.some.injEq] at e ⊢
        cases hr:Z[j]? with
        | none=>rw [hr] at e;cases e
        | some o =>
          rw [hr] at e
          have e':o=some d:=e
          subst e'
          obtain⟨v,ev,rv⟩:=h.val j d hr
          exact⟨v,by rw [ev];rfl,rv⟩
@[irreducible] def zpe (X:Cx)(ifs:List Expr)(t:DT):Prop:=PFs X ifs (upT X.K t)
theorem za3 {X:Cx}:zpe X [] zbI:=by with_unfolding_all exact (fun pins s U H Q I hh=>el8 hh fun ad Z S Q0 st rh q k=>zvy pins s U H Q I (k true S H ad q Wd.refl st))
theorem zfB {X:Cx}{c:Expr}{t:DT}(h:PTD X c t):zpe X [c] t:=by with_unfolding_all exact (zui h)
theorem ofT {A B:Prop}(h:if true=true then A else B):A:=by rw [if_pos rfl] at h;exact h
theorem ofF {A B:Prop}(h:if false=true then A else B):B:=by rw [if_neg qo] at h;exact h
theorem zsA {K:PySem.W.Frag}{own:List Str}{fv:List Nat}{wi:DI}{g:DG}{g':TG}{tc:DT}{te:DE}(rg:zjr K own.length g g'){U:L2.St}{H:Hp}{Q:VK}(h:up K (dLC own.length fv wi g tc te) U H Q):tLC own fv (upI K wi) g' (upT K tc) (up K te) U H Q:=by
 obtain⟨ad,Z,S,Q0,so,rh,q,k⟩:=h
 refine⟨ad,Z,S,_,so,rh,q,fun J0 S1 J H1 ad1 ⟨hbig,W,w0,hok,step,fin⟩ d1 st1 it=>?_⟩
 intro p hp
 refine⟨fun i m H'=>m=J0.items.length-i/\i<=J0.items.length/\∃ ad' S' ys vs,W i ys S'/\Wd ad1 H1 ad' H'/\zT K ad' H' S'/\p∉ad'/\H' p=some (.lst vs)/\zK K ad' H' ys vs/\vs.length<=i,
  ⟨J0.items.length,rfl,qJ _,ad1,S1,[],[],w0,Wd.laid hp,st1.laid hp,st1.fresh hp,za0,.nil,qg _⟩,?_⟩
 rintro i m H2 ⟨rfl,hi2,ad2,S2,ys,vs,w2,d2,st2,hp2,hv2,r2,hl2⟩
 by_cases hlt:i<J0.items.length
 ·have ed:J0.items[i]?=some J0.items[i]:=qb hlt
  refine .inr ⟨it.go ad2 H2 S2 i d2 st2 (hok _ _ _ w2) hlt,fun x H' hy=>?_⟩
  obtain⟨d3,st3,r3⟩:=it.yld ad2 H2 S2 i _ x H' d2 st2 (hok _ _ _ w2) ed hy
  have rh3:=ztC (rh.wd ((d1.trans d2).trans d3)) own fv
  refine rg ad2 H' S2 _ _ _ x _ _ st3 rh3 r3 (step i _ ys S2 ed w2) fun ρ4 S4 σ4 H4 ad4 q4 d4 st4 rh4 l4 a4=>?_
  refine⟨zl7 own.length (fun j hj=>.inl ?_) l4 a4,ad4,ρ4,S4,_,st4,rh4,q4,fun b S5 H5 ad5 q5 d5 st5=>?_⟩
  ·unfold cst
   rw [qv (by rw [qw];exact hj),List.getElem?_replicate,if_pos hj]
  have fwd:∀ {ad9:List Addr} {H9:Hp},Wd ad2 H2 ad9 H9->p∉ad9/\H9 p=some (.lst vs):=fun {ad9 H9} w=>⟨(fun m=>by
   have z:=w.new p m hp2
   rw [hv2] at z;cases z),w.keep p _ hp2 hv2⟩
  have d25:=(d3.trans d4).trans d5
  cases b with
  | true =>
   refine zmt ?_
   have q5:=Dp.ofT q5
   refine⟨ad5,ρ4,S5,_,st5,rh4.wd d5,q5,fun y S6 v H6 ad6 q6 d6 st6 r6=>?_⟩
   have d26:=d25.trans d6
   obtain⟨n6,e6⟩:=fwd d26
   have hw:Wr ad6 H6 ad6 (upd H6 p (.lst (vs++[v]))):=Wr.hid e6
   have hvl:vs.length<sizeLine:=zpK (by omega)
   exact⟨vs,e6,hvl,J0.items.length-(i+1),by omega,rfl,hlt,ad6,S6,ys++[y],vs++[v],q6,(d2.trans d26).hid hp,st6.hid e6 n6 (st1.bfree hp),n6,za0,zK.wr hw ((r2.wd d26).append (.cons r6 .nil)),by rw [qe];exact Nat.succ_le_succ hl2⟩
  | false =>
   refine zoD ?_
   have q5:=Dp.ofF q5
   obtain⟨n5,e5⟩:=fwd d25
   exact⟨J0.items.length-(i+1),by omega,rfl,hlt,ad5,S5,ys,vs,q5,d2.trans d25,st5,n5,e5,r2.wd d25,by omega⟩
 ·have e:i=J0.items.length:=by omega
  subst e
  refine .inl ⟨it.stop ad2 H2 S2 d2 st2 (hok _ _ _ w2),?_⟩
  exact k _ _ _ _ (ad2++[p]) (fin ys S2 w2) (d1.trans (d2.add hp)) (st2.add hv2 hp2 r2 (st1.bfree hp)) (.ref (by rw [<- st2.len,ql (qg _),Nat.sub_self];rfl))
section
variable {X:Cx}{sc:Scope}{tg iter elt:Expr}{ifs:List Expr}{own free:List Str}{fv:List Nat}{wi:DI}{g:DG}{tc:DT}{te:DE}{pos:Pos}
theorem zb5 {g':TG}(hfr:ze0 (fun x=>X.env.kindOf x=some .cell) sc.names)(hfv:zhT X sc free fv)(hi:PID X tg iter wi)
  (hg:zjr X.K own.length g g'/\∀ cl C s₀ H₀ ex,PG (inner X sc (own++free) cl C s₀ H₀ ex) tg g') (ht:∀ cl C s₀ H₀ ex,zpe (inner X sc (own++free) cl C s₀ H₀ ex) ifs tc) (he:∀ cl C s₀ H₀ ex,PD (inner X sc (own++free) cl C s₀ H₀ ex) elt te) (hcalm:X.calm=true:=by rfl) (hxe:(X.xe=fun _ _=>False):=by rfl) (hkind:sc.kind=.function:=by rfl) (hcell:∀ y∈sc.names,y.2≠.cell:=by decide +kernel) (hnames:∀ y∈sc.names,y.2=.local->sc.names.lookup y.1=some .local:=by decide +kernel)
  (hs:∀ x,foldedSetIterable iter X.env x=pure x:=by intro _;rfl):PD X (.ListComp elt [⟨tg,iter,ifs,0⟩] sc pos) (dLC own.length fv wi g tc te):=by with_unfolding_all exact (zbf (zxy (tc:=upT X.K tc) (te:=up X.K te) hcalm hxe hkind hcell hnames hfr hfv hi hg.2 ht he hs) fun _ _ _=>zsA hg.1)
theorem zeR {g':TG}{i:Nat}{y:Str}{py spos:Pos}(hN:X.N.Nodup)(hfr:ze0 (fun x=>X.env.kindOf x=some .cell) sc.names)(hfv:zhT X sc free fv)(hi:PID X tg iter wi)
  (hg:zjr X.K own.length g g'/\∀ cl C s₀ H₀ ex,PG (inner X sc (own++free) cl C s₀ H₀ ex) tg g') (ht:∀ cl C s₀ H₀ ex,zpe (inner X sc (own++free) cl C s₀ H₀ ex) ifs tc) (he:∀ cl C s₀ H₀ ex,PD (inner X sc (own++free) cl C s₀ H₀ ex) elt te) (hy:X.N[i]?=some y:=by rfl) (hyl:X.env.scope.names.lookup y=some .local:=by rfl) (hcalm:X.calm=true:=by rfl) (hxe:(X.xe=fun _ _=>False):=by rfl) (hkind:sc.kind=.function:=by rfl) (hcell:∀ y∈sc.names,y.2≠.cell:=by decide +kernel) (hnames:∀ y∈sc.names,y.2=.local->sc.names.lookup y.1=some .local:=by decide +kernel)
  (hsw:swapsWith (.ListComp elt [⟨tg,iter,ifs,0⟩] sc pos) (some (.Name y py)) spos.line X.env=pure true:=by rfl)
  (hs:∀ x,foldedSetIterable iter X.env x=pure x:=by intro _;rfl):PSD X (.Assign [.Name y py] (.ListComp elt [⟨tg,iter,ifs,0⟩] sc pos) spos) (zO (dLC own.length fv wi g tc te) (zE i)):=by with_unfolding_all exact (zbO (ztG (tc:=upT X.K tc) (te:=up X.K te) hN hy hyl hcalm hxe hkind hcell hnames hfr hfv hi hg.2 ht he hsw hs) fun E U H hh=>el8 hh fun ad Z S E0 so rh q k =>
  zsA (Q:=fun x H1=>L2.zE i x U H1 E.nx) hg.1 ⟨ad,Z,S,_,so,rh,q,fun d S' v H' ad' q' w st' r=>k.nx _ S' _ H' ad' q' w st' ((rh.wd w).set r i)⟩)
theorem zhS {K:PySem.W.Frag}{b:Nat}:zj6 K b zc9 L2.zc9:=fun ad H S Z U ds vs Q0 Q st rh r ⟨e,q⟩ k=>by
 subst e
 cases r
 exact⟨rfl,k Z S U H ad q Wd.refl st rh rfl fun _ _=>rfl⟩
theorem zcr {K:PySem.W.Frag}{b:Nat}{t:DG}{u:DGs}{t':TG}{u':TGs}(r1:zjr K b t t')(r2:zj6 K b u u'):zj6 K b (zaI t u) (L2.zaI t' u'):=fun ad H S Z U ds vs Q0 Q st rh r ⟨d,rs,ed,q⟩ k=>by
 subst ed
 cases r with
 | cons r t =>
  refine⟨_,_,rfl,r1 ad H S Z U d _ _ _ st rh r q fun ρ1 S1 σ1 H1 ad1 q1 w1 st1 rh1 l1 a1=>?_⟩
  exact r2 ad1 H1 S1 ρ1 σ1 _ _ _ _ st1 rh1 (t.wd w1) q1 fun ρ2 S2 σ2 H2 ad2 q2 w2 st2 rh2 l2 a2=>k ρ2 S2 σ2 H2 ad2 q2 (w1.trans w2) st2 rh2 (l2.trans l1) fun j hj=>(a2 j hj).trans (a1 j hj)
theorem zi8 {K:PySem.W.Frag}{b n:Nat}{t:DGs}{t':TGs}(r:zj6 K b t t'):zjr K b (zc6 n t) (L2.zc6 K n t'):=fun ad H S Z U d v Q0 Q st rh rv ⟨xs,ed,hl,q⟩ k=>by
 subst ed
 cases rv with
 | tup h1 rs=>exact⟨_,_,rfl,SqT.of h1,by rw [<- rs.length];exact hl,r ad H S Z U xs _ _ _ st rh rs q k⟩
end
theorem zlO {K:PySem.W.Frag}{ad:List Addr}{H:Hp}{ds:List D}{vs:List V}(N:List Str)(r:zK K ad H ds vs):zaQ K ad H (zfa N.length ds) (L2.start N vs) where
  len:=by unfold zfa L2.start;rw [qe,qe,qa,qa,qw,qw,r.length]
  val:=fun i d e=>by
    unfold zfa at e
    unfold L2.start
    by_cases hi:i<ds.length
    . rw [qv (by rw [qa];exact hi),qh] at e
      rw [qv (by rw [qa,<- r.length];exact hi),qh]
      cases hd:ds[i]? with
      | none=>rw [hd] at e;cases e
      | some d' =>
        rw [hd] at e
        cases e
        obtain⟨v,ev,rv⟩:=r.get hd
        exact⟨v,by rw [ev];rfl,rv⟩
    . rw [ql (by rw [qa];exact Nat.le_of_not_lt hi),List.getElem?_replicate] at e
      split at e<;>cases e
theorem zK.cut1 {K:PySem.W.Frag}{ad ad':List Addr}{H:Hp}(k:Nat)(h1:∀ d v,fl k d=true->Rel K ad H d v->Rel K ad' H d v):∀ ds vs,ds.all (fl k)=true->zK K ad H ds vs->zK K ad' H ds vs:=by
 intro ds
 induction ds with
 | nil=>intro vs _ r;cases r;exact .nil
 | cons d ds ih =>
  intro vs hf r
  rw [List.all_cons,qA] at hf
  cases r with
  | cons r t=>exact .cons (h1 d _ hf.1 r) (ih _ hf.2 t)
theorem Rel.cut {K:PySem.W.Frag}{ad ad':List Addr}{H:Hp}:∀ (k:Nat) (d:D) (v:V),fl k d=true->Rel K ad H d v->Rel K ad' H d v:=by
 intro k
 induction k with
 | zero =>
  intro d v hf r
  cases r with
  | non=>exact .non
  | bl b=>exact .bl b
  | int i=>exact .int i
  | str x=>exact .str x
  | ty n=>cases hf
  | tup h r=>cases hf
  | rl h r=>cases hf
  | ref h=>cases hf
  | exn _ _ _=>cases hf
 | succ k ih =>
  intro d v hf r
  cases r with
  | non=>exact .non
  | bl b=>exact .bl b
  | int i=>exact .int i
  | str x=>exact .str x
  | ty n=>cases hf
  | tup h r=>exact .tup h (zK.cut1 k ih _ _ hf r)
  | rl h r=>cases hf
  | ref h=>cases hf
  | exn _ _ _=>cases hf
theorem zK.cut {K:PySem.W.Frag}{ad ad':List Addr}{H:Hp}(k:Nat)(ds:List D)(vs:List V)(hf:ds.all (fl k)=true)(r:zK K ad H ds vs):zK K ad' H ds vs:=zK.cut1 k (Rel.cut k) ds vs hf r
end Dp
namespace Dp
open PySem PySem.Spec PyProof.Rows L2 My
variable [B:Bs]
mutual
theorem Rel.low {K:PySem.W.Frag}{ad ad':List Addr}{H H':Hp}{m:Nat}(hm:ad.length<=m):∀ {d:D} {u v:V},Rel K ad H d u->Rel K ad' H' d v->Rel K (ad'.take m) H' d v
 | _,_,_,.non,r=>by cases r;exact .non
 | _,_,_,.bl b,r=>by cases r;exact .bl b
 | _,_,_,.int i,r=>by cases r;exact .int i
 | _,_,_,.str x,r=>by cases r;exact .str x
 | _,_,_,.ty n,r=>by cases r;exact .ty n
 | _,_,_,.tup _ t,r=>by
  cases r with
  | tup h t'=>exact .tup h (zK.low hm t t')
 | _,_,_,.rl _ t,r=>by
  cases r with
  | rl h t'=>exact .rl h (zK.low hm t t')
 | _,_,_,.exn _ _ _,r=>by
  cases r with
  | exn h e n=>exact .exn h e n
 | _,_,_,.ref h,r=>by
  cases r with
  | ref h'=>exact .ref (by rw [List.getElem?_take_of_lt (qq (My.zbb h) hm)];exact h')
theorem zK.low {K:PySem.W.Frag}{ad ad':List Addr}{H H':Hp}{m:Nat}(hm:ad.length<=m):∀ {ds:List D} {us vs:List V},zK K ad H ds us->zK K ad' H' ds vs->zK K (ad'.take m) H' ds vs
 | _,_,_,.nil,r=>by cases r;exact .nil
 | _,_,_,.cons r t,q=>by
  cases q with
  | cons r' t'=>exact .cons (Rel.low hm r r') (zK.low hm t t')
end
theorem za1.low {K:PySem.W.Frag}{ad ad':List Addr}{H H':Hp}{m:Nat}(hm:ad.length<=m):∀ {fs:List (Str×D)} {us vs:List (Str×V)},za1 K ad H fs us->za1 K ad' H' fs vs->za1 K (ad'.take m) H' fs vs
 | _,_,_,.nil,r=>by cases r;exact .nil
 | _,_,_,.cons r t,q=>by
  cases q with
  | cons r' t'=>exact .cons (Rel.low hm r r') (za1.low hm t t')
theorem RelK.low {K:PySem.W.Frag}{ad ad':List Addr}{H H':Hp}{m:Nat}(hm:ad.length<=m):∀ {fs:List (Str×D)} {us vs:List (Key×V)},RelK K ad H fs us->RelK K ad' H' fs vs->RelK K (ad'.take m) H' fs vs
 | _,_,_,.nil,r=>by cases r;exact .nil
 | _,_,_,.cons r t,q=>by
  cases q with
  | cons r' t'=>exact .cons (Rel.low hm r r') (RelK.low hm t t')
theorem zdX.low {K:PySem.W.Frag}{ad ad':List Addr}{H H':Hp}{m:Nat}(hm:ad.length<=m):∀ {fs:List (List Key×D)} {us vs:List (List Key×V)},zdX K ad H fs us->zdX K ad' H' fs vs->zdX K (ad'.take m) H' fs vs
 | _,_,_,.nil,r=>by cases r;exact .nil
 | _,_,_,.cons r t,q=>by
  cases q with
  | cons r' t'=>exact .cons (Rel.low hm r r') (zdX.low hm t t')
theorem zjw {K:PySem.W.Frag}{ad:List Addr}{H:Hp}{S:Sto}{Q0:DK}{Q:VK}(st:zT K ad H S)(k:KK K ad H Q0 Q):KK K ad H (Fin S Q0) Q:=by
 intro d S' v H' ad' hf w st' r
 rcases hf with q | ⟨S1,pre,hlen,hd,hc,q⟩
 ·exact k d S' v H' ad' q w st' r
 have hS:S1.length<=S'.length:=pre.length_le
 have had:ad.length<=S1.length:=by rw [st.len];exact hlen
 have htk:∀ {n:Nat} {a:Addr},(ad'.take S1.length)[n]?=some a->ad'[n]?=some a:=fun {n a} e=>by
  have hn:=My.zbb e
  rw [List.length_take] at hn
  rw [List.getElem?_take_of_lt (by omega)] at e
  exact e
 have w1:Wd ad H (ad'.take S1.length) H':=by
  refine⟨?_,w.keep,w.tup,w.frz,fun b m n=>w.new b (List.mem_of_mem_take m) n⟩
  obtain⟨t,rfl⟩:=w.pre
  rw [List.take_append,List.take_of_length_le had]
  exact List.prefix_append _ _
 refine k d S1 v H' _ q w1 ⟨st.wd.trans w1,by rw [List.length_take,st'.len];omega,st'.nd.sublist (List.take_sublist _ _),fun n a c e1 e2=>?_⟩ ?_
 ·have e1':=htk e1
  have ok:=st'.cell n a c e1' (zkL pre e2)
  rcases hc n c e2 with h | h
  ·obtain⟨a0,ea,ok0⟩:=st.get h
   cases c with
   | ins c fs =>
    obtain⟨C,dx,vs,hv,c1,c2,rv,hn⟩:=ok
    obtain⟨_,_,us,_,_,_,ru,_⟩:=ok0
    exact⟨C,dx,vs,hv,c1,c2,za1.low had ru rv,hn⟩
   | dk kvs =>
    obtain⟨vs,hv,rv⟩:=ok
    obtain⟨us,hu,ru⟩:=ok0
    exact⟨vs,hv,RelK.low had ru rv⟩
   | dt kvs =>
    obtain⟨vs,hv,rv⟩:=ok
    obtain⟨us,hu,ru⟩:=ok0
    exact⟨vs,hv,zdX.low had ru rv⟩
   | lst xs =>
    obtain⟨vs,hv,rv⟩:=ok
    obtain⟨us,hu,ru⟩:=ok0
    exact⟨vs,hv,zK.low had ru rv⟩
  ·cases c with
   | ins c fs=>cases h
   | dk _=>cases h
   | dt _=>cases h
   | lst xs =>
    obtain⟨vs,hv,rv⟩:=ok
    exact⟨vs,hv,zK.cut 20 _ _ h rv⟩
 ·rcases hd with h | ⟨n,rfl,hn⟩
  ·exact Rel.cut 20 _ _ h r
  ·cases r with
   | ref e=>exact .ref (by rw [List.getElem?_take_of_lt hn];exact e)
omit B in
theorem zU {P:Program}{w:World}{K:PySem.W.Frag}{mg:Str->Option Value}{base:Heap}{x qual:Str}{st:Stmt}{f:Addr}{fd:FuncData}{N ps:List Str}{k:Nat}{sp:DSp}{b:DS}(F:Fun K x qual st f fd)(S:zQ N ps (zJ st))
  (len:∀ ds So Q,sp ds So Q->ds.length=ps.length) (body:BodyOk N.length b sp)
  (term:∀ (cdv:Value) (A:Around) (outer:List Env) (s:Shared) (H:Hp) (E:XK),zaT k (A.deeper (envOfC qual (zJ st) s.heap.objs.size f cdv))->∀ [Bs],zgj (zgq CX0 P w K mg base N qual (zJ st) f cdv A outer s H E).nox (zbk st) b) :
  zaa P w K mg base CX0 (k+1) f fd ps (upF K sp):=by
 with_unfolding_all
  refine F.ok S (fun vs H Q E ⟨ad,So,ds,Q0,so,r,hf,kk⟩=>by rw [<- r.length];exact len ds So Q0 hf) fun cdv A outer s H vs Q E hr ⟨ad,So,ds,Q0,so,r,hf,kk⟩=>?_
  letI:Bs:=⟨ad,H⟩
  refine⟨_,term cdv A outer s H E hr,ad,zfa N.length ds,So,_,so,zlO N r,body ds So Q0 hf,⟨fun Z S' U H' ad' q w' st' rh=>zjw so kk .non S' .non H' ad' q w' st' .non,zjw so kk,fun _ _ _ _ _ q=>q.elim,fun _ _ _ _ _ q=>q.elim⟩⟩
omit B in
theorem zuw {K:PySem.W.Frag}{H:Hp}{a:Addr}{ns:List Int}(hl:ns.length<=63)(hg:∀ n∈ns,Hg n)(hO:Only H)(hS:SqL K H a (ns.map V.int)):upF K zfS [.ref a] H (fun v _=>v=.bl true) fun _ _ _=>False:=by
 have hr:zjj K H a (ns.map V.int):=by
  rcases hS with (h | h) | h
  ·rcases hO a with e | ⟨o,xs,e⟩
   ·rw [h] at e;cases e
   ·rw [h] at e;cases e
  ·exact .inl h
  ·exact .inr h
 refine⟨[],[],[.rl (ns.map D.int)],fun d _=>d=.bl true,@zT.mk ⟨[],H⟩ _ _ _ _ Wd.refl rfl List.nodup_nil (fun n a c e=>by simp at e),.cons (.rl hr (zK.mk_ints ns)) .nil,⟨ns,rfl,⟨rfl,hg⟩,hl,fun _=>rfl⟩,fun d S' v H' ad' q w st' r=>?_⟩
 have q':d=.bl true:=q
 subst q'
 cases r
 rfl
omit B in
theorem zma:∀ {ns:List Int} {n:Int},n∈ns->PySem.W.WData.weight (.int n)<=PySem.W.WData.weightAll (ns.map PySem.W.WData.int)
 | m::ns,n,h=>by
  rw [List.map_cons,PySem.W.WData.weightAll]
  rcases qf.mp h with rfl | h
  ·omega
  ·have:=zma h;omega
omit B in
theorem zrm {l:PySem.W.OpenLaw}{n k:Nat}{q:Program}{loose:List Str}{XP:(Str->Option Value)->Heap->Prop}{YP:World->Heap->Prop}{d:DefRec}{K:Params->PySem.W.Frag}{sp:World->Sp}{x:Str}
  (hn:l.most=some n) (hn2:n<=sizeLine) (hdf:d.params.defaults=[]) (hr:zaT k callerA) (hY:∀ (w:World) (h:Heap),YP w h->(K w.params).In h)
  (F:∀ (w:World) (mg:Str->Option Value) (fa:Addr) (h:Heap),(K w.params).In h->h.Ns mainGlobals mg->mg d.name=some (.ref fa) ->
   ∃ fd:FuncData,(∀ (s:Shared) (u:Value),BindsTo s fd ⟨[u],[]⟩ [(x,u)])/\∀ base:Heap,(K w.params).In base->base.Ns mainGlobals mg->zaa l.prog w (K w.params) mg base CX0 k fa fd [x] (sp w))
  (hsp:∀ (w:World) (H:Hp) (a:Addr) (ns:List Int),ns.length<=n->(∀ m∈ns,Hg m)->Only H->SqL (K w.params) H a (ns.map V.int)->sp w [.ref a] H (fun v _=>v=.bl true) fun _ _ _=>False) :
  PySem.W.WalkO q loose XP YP l.row.toRowW d [] (fun f vs=>PySem.call f vs):=by
 intro w s₀ s₁ mg mb G Y fa o pm cd doc dV kV ho hd hcd hD hmg hg args vals as hpre hlay hrd hwl hlo
 obtain rfl:dV=.none:=PySem.W.Dflts.none hD hdf
 obtain rfl:kV=.none:=PySem.W.Dflts.noKw hD
 obtain⟨a,vs,ns,rfl,rfl,hobj,hints,hlen⟩:=Att.zqq hn hpre hwl
 have hbits:∀ m∈ns,Hg m:=fun m hm=>by
  have h1:PySem.W.WData.layable (.list (ns.map .int))=true:=by simpa [PySem.W.WData.layableAll] using hlay
  have h2:PySem.W.WData.weight (.list (ns.map PySem.W.WData.int))<=2 ^ 20:=by
   unfold PySem.W.WData.layable at h1
   rw [qA,decide_eq_true_eq] at h1
   exact h1.2
  have h3:=qK (zma hm) (by simpa only [PySem.W.WData.weight] using h2)
  exact zte (by simpa only [PySem.W.WData.weight,Builtin.Int.intBits] using h3)
 have KX:=hY w _ Y
 obtain⟨fd,hb,hF⟩:=F w mg fa _ KX G.T.g hmg
 refine PySem.W.enter_call (codeAny_mono (zrL KX G.T.g G.T.b G.T.builtins G.T.nolimit hg hobj hints (qK hlen hn2) hr hF hb (fun H hO hS=>hsp w H a ns hlen hbits hO hS) fun _ _ _ z=>z) fun r s' hq=>?_)
 obtain⟨rfl,h2,h3,h4⟩:=hq
 exact⟨.inl ⟨.bool true,.bool true,[],rfl,fun _=>rfl,.bool true,Att.zqs l _,fun _=>⟨List.Pairwise.nil,fun _ hm=>(nomatch hm)⟩⟩,h2,h3,h4⟩
omit B in
theorem zsc {us:List Value}(hl:us.length=1):∃ a0,us=[a0]:=by
  cases us with
  | nil=>simp at hl
  | cons a0 us =>
  cases us with
  | nil=>exact⟨a0,rfl⟩
  | cons b us=>simp at hl
omit B in
theorem zo0 {us:List Value}(hl:us.length=2):∃ a0 a1,us=[a0,a1]:=by
  cases us with
  | nil=>simp at hl
  | cons a0 us =>
  cases us with
  | nil=>simp at hl
  | cons a1 us =>
  cases us with
  | nil=>exact⟨a0,a1,rfl⟩
  | cons b us=>simp at hl
omit B in
theorem zsB {us:List Value}(hl:us.length=3):∃ a0 a1 a2,us=[a0,a1,a2]:=by
  cases us with
  | nil=>simp at hl
  | cons a0 us =>
  cases us with
  | nil=>simp at hl
  | cons a1 us =>
  cases us with
  | nil=>simp at hl
  | cons a2 us =>
  cases us with
  | nil=>exact⟨a0,a1,a2,rfl⟩
  | cons b us=>simp at hl
omit B in
theorem zse {us:List Value}(hl:us.length=4):∃ a0 a1 a2 a3,us=[a0,a1,a2,a3]:=by
  cases us with
  | nil=>simp at hl
  | cons a0 us =>
  cases us with
  | nil=>simp at hl
  | cons a1 us =>
  cases us with
  | nil=>simp at hl
  | cons a2 us =>
  cases us with
  | nil=>simp at hl
  | cons a3 us =>
  cases us with
  | nil=>exact⟨a0,a1,a2,a3,rfl⟩
  | cons b us=>simp at hl
omit B in
theorem zss {us:List Value}(hl:us.length=5):∃ a0 a1 a2 a3 a4,us=[a0,a1,a2,a3,a4]:=by
  cases us with
  | nil=>simp at hl
  | cons a0 us =>
  cases us with
  | nil=>simp at hl
  | cons a1 us =>
  cases us with
  | nil=>simp at hl
  | cons a2 us =>
  cases us with
  | nil=>simp at hl
  | cons a3 us =>
  cases us with
  | nil=>simp at hl
  | cons a4 us =>
  cases us with
  | nil=>exact⟨a0,a1,a2,a3,a4,rfl⟩
  | cons b us=>simp at hl
omit B in
theorem zwZ {us:List Value}(hl:us.length=8):∃ a0 a1 a2 a3 a4 a5 a6 a7,us=[a0,a1,a2,a3,a4,a5,a6,a7]:=by
  cases us with
  | nil=>simp at hl
  | cons a0 us =>
  cases us with
  | nil=>simp at hl
  | cons a1 us =>
  cases us with
  | nil=>simp at hl
  | cons a2 us =>
  cases us with
  | nil=>simp at hl
  | cons a3 us =>
  cases us with
  | nil=>simp at hl
  | cons a4 us =>
  cases us with
  | nil=>simp at hl
  | cons a5 us =>
  cases us with
  | nil=>simp at hl
  | cons a6 us =>
  cases us with
  | nil=>simp at hl
  | cons a7 us =>
  cases us with
  | nil=>exact⟨a0,a1,a2,a3,a4,a5,a6,a7,rfl⟩
  | cons b us=>simp at hl
end Dp
namespace Dp
open PySem PySem.Spec PyProof.Rows L2 My
variable [B:Bs]
section
variable {X:Cx}
theorem zth {K:PySem.W.Frag}{ad:List Addr}{H:Hp}{a:Addr}{x:D}{ds:List D}(r:Rel K ad H x (.ref a)):zgL K ad H ⟨zdk 0 ds,fun S=>Lst S x ds⟩ (Ite K a) where
 go:=fun ad1 H1 S i w st ok hi=>by
  obtain⟨a',vs,e,s,rs⟩:=Lst.sq st ok (r.wd w)
  cases e
  have hi':i<ds.length:=by rw [<- zc4 0 ds];exact hi
  exact⟨vs,vs[i]'(by rw [<- rs.length];exact hi'),s,qb _⟩
 yld:=fun ad1 H1 S i d y H' w st ok hd ⟨p,ey,hp,he⟩=>by
  obtain⟨a',vs,e,s,rs⟩:=Lst.sq st ok (r.wd w)
  cases e
  obtain⟨z,hz,rfl⟩:=zga hd
  obtain⟨v,ev,rv⟩:=rs.get hz
  rw [he vs v s ev,ey]
  refine⟨Wd.laid hp,st.laid hp,.tup za0 (.cons ?_ (.cons (rv.wd (Wd.laid hp)) .nil))⟩
  rw [Nat.zero_add];exact .int _
 stop:=fun ad1 H1 S w st ok=>by
  obtain⟨a',vs,e,s,rs⟩:=Lst.sq st ok (r.wd w)
  cases e
  exact⟨vs,s,by show _<=(zdk 0 ds).length;rw [zc4,rs.length];exact qg _⟩
theorem zrY {K:PySem.W.Frag}{ad:List Addr}{H:Hp}{a:Addr}{vs:List V}{ds:List D}(h:H a=some (.tup vs))(r:zK K ad H ds vs):zgL K ad H ⟨zdk 0 ds,fun _=>True⟩ (zrW K a) where
 go:=fun ad1 H1 S i w st _ hi=>by
  have hi':i<ds.length:=by rw [<- zc4 0 ds];exact hi
  exact⟨vs,vs[i]'(by rw [<- r.length];exact hi'),SqT.of (w.tup _ _ h),qb _⟩
 yld:=fun ad1 H1 S i d y H' w st _ hd ⟨p,ey,hp,he⟩=>by
  obtain⟨z,hz,rfl⟩:=zga hd
  obtain⟨v,ev,rv⟩:=r.get hz
  rw [he vs v (SqT.of (w.tup _ _ h)) ev,ey]
  refine⟨Wd.laid hp,st.laid hp,.tup za0 (.cons ?_ (.cons ((rv.wd w).wd (Wd.laid hp)) .nil))⟩
  rw [Nat.zero_add];exact .int _
 stop:=fun ad1 H1 S w st _=>⟨vs,SqT.of (w.tup _ _ h),by show _<=(zdk 0 ds).length;rw [zc4,r.length];exact qg _⟩
theorem zmc {es:List Expr}{kk:Nat}{tpos:Pos}{a:Expr}{t:DA}{p pos:Pos}(hg:Gl X "enumerate")(hm:X.mg "enumerate"=none)(ha:PAD X [a] t)(hs:starEach [a] X.env=[(false,eval a X.env)]:=by exact zdY rfl) :
  PID X (.Tuple es kk tpos) (.Call (.Name "enumerate" p) [a] [] pos) (Dp.zor t):=by with_unfolding_all exact (ziJ (zr8 hg hm ha hs) fun U H R hh=>el8 hh fun ad Z S R0 st rh q k =>
 ⟨ad,Z,S,_,st,rh,q,fun ds S1 vs H1 ad1 q0 w1 st1 r1=>by
  rcases q0 with ⟨x,xs,ed,hx,q1⟩ | ⟨xs,ed,q1⟩
  ·subst ed
   obtain⟨v,rfl,rv⟩:=zb7 r1
   obtain⟨b,ws,rfl,s,rs⟩:=hx.sq st1 rv
   exact⟨b,rfl,.inl ⟨⟨ws,s⟩,k _ S1 _ H1 ad1 q1 w1 st1 (zth rv)⟩⟩
  ·subst ed
   obtain⟨v,rfl,rv⟩:=zb7 r1
   cases rv with
   | tup h r=>exact⟨_,rfl,.inr ⟨⟨_,SqT.of h⟩,k _ S1 _ H1 ad1 q1 w1 st1 (zrY h r)⟩⟩⟩)
theorem zuz {K:PySem.W.Frag}{ad:List Addr}{H:Hp}{a b:Addr}{x y:D}{ds es:List D}(r:Rel K ad H x (.ref a))(r2:Rel K ad H y (.ref b)):zgL K ad H ⟨zb8 ds es,fun S=>Lst S x ds/\Lst S y es⟩ (zpf K true true a b) where
 go:=fun ad1 H1 S i w st ok hi=>by
  obtain⟨a',vs,e,s,rs⟩:=Lst.sq st ok.1 (r.wd w)
  obtain⟨b',us,e',s',rs'⟩:=Lst.sq st ok.2 (r2.wd w)
  cases e
  cases e'
  have hi':i<min ds.length es.length:=by rw [<- zd6 ds es];exact hi
  exact⟨vs,us,vs[i]'(by rw [<- rs.length];omega),us[i]'(by rw [<- rs'.length];omega),s,s',qb _,qb _⟩
 yld:=fun ad1 H1 S i d z H' w st ok hd ⟨p,ey,hp,he⟩=>by
  obtain⟨a',vs,e,s,rs⟩:=Lst.sq st ok.1 (r.wd w)
  obtain⟨b',us,e',s',rs'⟩:=Lst.sq st ok.2 (r2.wd w)
  cases e
  cases e'
  obtain⟨u1,u2,h1,h2,rfl⟩:=zfQ hd
  obtain⟨v,ev,rv⟩:=rs.get h1
  obtain⟨u,eu,ru⟩:=rs'.get h2
  rw [he vs us v u s s' ev eu,ey]
  exact⟨Wd.laid hp,st.laid hp,.tup za0 (.cons (rv.wd (Wd.laid hp)) (.cons (ru.wd (Wd.laid hp)) .nil))⟩
 stop:=fun ad1 H1 S w st ok=>by
  obtain⟨a',vs,e,s,rs⟩:=Lst.sq st ok.1 (r.wd w)
  obtain⟨b',us,e',s',rs'⟩:=Lst.sq st ok.2 (r2.wd w)
  cases e
  cases e'
  refine⟨vs,us,s,s',?_⟩
  show vs.length<=(zb8 ds es).length\/us.length<=(zb8 ds es).length
  rw [zd6,rs.length,rs'.length];omega
theorem ztv {K:PySem.W.Frag}{ad:List Addr}{H:Hp}{a b:Addr}{vs us:List V}{ds es:List D}(h:H a=some (.tup vs))(r:zK K ad H ds vs)(h2:H b=some (.tup us))(r2:zK K ad H es us):zgL K ad H ⟨zb8 ds es,fun _=>True⟩ (zpf K false false a b) where
 go:=fun ad1 H1 S i w st _ hi=>by
  have hi':i<min ds.length es.length:=by rw [<- zd6 ds es];exact hi
  exact⟨vs,us,vs[i]'(by rw [<- r.length];omega),us[i]'(by rw [<- r2.length];omega),SqT.of (w.tup _ _ h),SqT.of (w.tup _ _ h2),qb _,qb _⟩
 yld:=fun ad1 H1 S i d z H' w st _ hd ⟨p,ey,hp,he⟩=>by
  obtain⟨u1,u2,h1,h2',rfl⟩:=zfQ hd
  obtain⟨v,ev,rv⟩:=r.get h1
  obtain⟨u,eu,ru⟩:=r2.get h2'
  rw [he vs us v u (SqT.of (w.tup _ _ h)) (SqT.of (w.tup _ _ h2)) ev eu,ey]
  exact⟨Wd.laid hp,st.laid hp,.tup za0 (.cons ((rv.wd w).wd (Wd.laid hp)) (.cons ((ru.wd w).wd (Wd.laid hp)) .nil))⟩
 stop:=fun ad1 H1 S w st _=>by
  refine⟨vs,us,SqT.of (w.tup _ _ h),SqT.of (w.tup _ _ h2),?_⟩
  show vs.length<=(zb8 ds es).length\/us.length<=(zb8 ds es).length
  rw [zd6,r.length,r2.length];omega
theorem zlQ {es:List Expr}{kk:Nat}{tpos:Pos}{a b:Expr}{t:DA}{p pos:Pos}(hg:Gl X "zip")(hm:X.mg "zip"=none)(ha:PAD X [a,b] t)(hs:starEach [a,b] X.env=[(false,eval a X.env),(false,eval b X.env)]:=by exact zjf rfl rfl)(hs2:starEach [b] X.env=[(false,eval b X.env)]:=by exact zdY rfl) :
  PID X (.Tuple es kk tpos) (.Call (.Name "zip" p) [a,b] [] pos) (Dp.zl9 t):=by with_unfolding_all exact (ziJ (zsX hg hm ha hs hs2) fun U H R hh=>el8 hh fun ad Z S R0 st rh q k =>
 ⟨ad,Z,S,_,st,rh,q,fun ds S1 vs H1 ad1 q0 w1 st1 r1=>by
  rcases q0 with ⟨x,y,xs,ys,ed,hx,hy,q1⟩ | ⟨xs,ys,ed,q1⟩
  ·subst ed
   obtain⟨v,u,rfl,rv,ru⟩:=zhU r1
   obtain⟨b1,ws,rfl,s,rs⟩:=hx.sq st1 rv
   obtain⟨b2,ws2,rfl,s2,rs2⟩:=hy.sq st1 ru
   exact⟨true,b1,b2,rfl,⟨ws,s⟩,⟨ws2,s2⟩,k _ S1 _ H1 ad1 q1 w1 st1 (zuz rv ru)⟩
  ·subst ed
   obtain⟨v,u,rfl,rv,ru⟩:=zhU r1
   cases rv with
   | tup h r =>
    cases ru with
    | tup h2 r2=>exact⟨false,_,_,rfl,⟨_,SqT.of h⟩,⟨_,SqT.of h2⟩,k _ S1 _ H1 ad1 q1 w1 st1 (ztv h r h2 r2)⟩⟩)
end
section
variable {X:Cx}{a b:Expr}{ta tb:DE}{pos:Pos}
theorem zmi (x:D)(hx:fl 20 x=true):∀ ys:List D,ys.all (fl 20)=true->((zaB ys).any fun z=>PyData.eqv z (pyD x))=ys.any fun z=>eqv z x
 | [],_=>rfl
 | y::ys,h=>by
  rw [List.all_cons,qA] at h
  show (PyData.eqv (pyD y) (pyD x)||(zaB ys).any fun z=>PyData.eqv z (pyD x))=_
  rw [zj0 20 y x h.1 hx,zmi x hx ys h.2]
  rfl
def zvo (X:Cx)(g:Bool->Bool):R2:=fun x y H Q=>∃ ad S dx dy b,zT X.K ad H S/\Rel X.K ad H dx x/\Rel X.K ad H dy y/\InD S dx dy b/\Q (.bl (g b)) H
theorem zk6 {pins:List (Addr×Obj)}{U:L2.St}{H:Hp}{s:Shared}{ad:List Addr}{S:Sto}{dx dy:D}{x y:V}{v u:Value}{b:Bool}(I:Inv X pins U H s)(st:zT X.K ad H S)(rx:Rel X.K ad H dx x)(ry:Rel X.K ad H dy y)(qx:RelV x v)(qy:RelV y u)(h:InD S dx dy b) :
  ∃ pd ps as bs,Reads s.heap v pd as/\(Reads s.heap u (.list ps) bs\/Reads s.heap u (.tuple ps) bs)/\pd.canLay0=true/\PyData.canLayAll0 ps=true/\min (PyData.depthAll ps) pd.depth<=60/\(ps.any fun z=>PyData.eqv z pd)=b:=by
 obtain⟨ys,hy,fx,fy,rfl⟩:=h
 obtain⟨as,ra⟩:=zcb I 20 dx x v fx rx qx
 obtain⟨c1,d1⟩:=zfG 20 dx fx
 obtain⟨c2,d2⟩:=zdy 20 ys fy
 rcases hy with rfl | hy
 ·obtain⟨bs,rb⟩:=zcb I 21 (.tup ys) y u fy ry qy
  exact⟨pyD dx,zaB ys,as,bs,ra,.inr rb,c1,c2,by omega,zmi dx fx ys fy⟩
 ·obtain⟨a2,vs2,rfl,s2,r2⟩:=hy.sq st ry
  cases qy
  obtain⟨its2,rv2,ht2,hz2⟩:=I.list s2
  obtain⟨o2,ho2,hc2,n2,hd2⟩:=ht2.isList
  obtain⟨bs,rb⟩:=zeG I 20 (zcb I 20) _ _ _ fy r2 rv2
  exact⟨pyD dx,zaB ys,as,_,ra,.inl (.list ho2 hc2 hd2 (by simpa using rb)),c1,c2,by omega,zmi dx fx ys fy⟩
theorem zwe {k:Nat}(hr:zaT k X.A):OC X .In oIn:=⟨_,(OpR.or (r:=zvo X id) (fun pins s U H x y v u Q I qx qy ⟨ad,S,dx,dy,b,st,rx,ry,h,q⟩=>by
  obtain⟨pd,ps,as,bs,ra,rb,c1,c2,hd,e⟩:=zk6 I st rx ry qx qy h
  have hu:=hr.units
  rcases rb with rb | rb
  ·exact PySem.SeqAt.in_list_reads rb ra c2 c1 (by omega) ⟨.bl _,H,I,by rw [e];rfl,q⟩
  ·exact PySem.SeqAt.in_tuple_reads rb ra c2 c1 (by omega) ⟨.bl _,H,I,by rw [e];rfl,q⟩) zpz),
 fun ad H S x y v u Q0 Q st rx ry h k=>by
  rcases h with ⟨b,h,q⟩ | ⟨c,z,rfl,rfl,q⟩
  ·exact .inl ⟨ad,S,x,y,b,st,rx,ry,h,k _ S _ H ad q Wd.refl st (.bl _)⟩
  ·cases rx
   cases ry
   exact .inr ⟨_,z,rfl,rfl,by rw [PySem.StrLaws.found_one];exact k _ S _ H ad q Wd.refl st (.bl _)⟩⟩
theorem zrG {k:Nat}(hr:zaT k X.A):OC X .NotIn zl3:=⟨_,(OpR.or (r:=zvo X (!·)) (fun pins s U H x y v u Q I qx qy ⟨ad,S,dx,dy,b,st,rx,ry,h,q⟩=>by
  obtain⟨pd,ps,as,bs,ra,rb,c1,c2,hd,e⟩:=zk6 I st rx ry qx qy h
  have hu:=hr.units
  rcases rb with rb | rb
  ·exact PySem.SeqAt.notIn_list_reads rb ra c2 c1 (by omega) ⟨.bl _,H,I,by rw [e];rfl,q⟩
  ·exact PySem.SeqAt.notIn_tuple_reads rb ra c2 c1 (by omega) ⟨.bl _,H,I,by rw [e];rfl,q⟩) zmS),
 fun ad H S x y v u Q0 Q st rx ry h k=>by
  rcases h with ⟨b,h,q⟩ | ⟨c,z,rfl,rfl,q⟩
  ·exact .inl ⟨ad,S,x,y,b,st,rx,ry,h,k _ S _ H ad q Wd.refl st (.bl _)⟩
  ·cases rx
   cases ry
   exact .inr ⟨_,z,rfl,rfl,by rw [PySem.StrLaws.found_one];exact k _ S _ H ad q Wd.refl st (.bl _)⟩⟩
theorem ztT {op:CmpOp}{r':DR2}(o:OC X op r')(ha:PD X a ta)(hb:PD X b tb)(hm:behindInMarks op b=false:=by with_unfolding_all rfl):PD X (.Compare a [op] [b] pos) (dOp r' ta tb):=by
 with_unfolding_all
  obtain⟨r,ho,od⟩:=o
  exact zbf (zn4 ho ha hb hm) fun _ _ _=>zil od
theorem zsU {op:CmpOp}{r':DR2}(o:OC X op r')(ha:PD X a ta)(hb:PD X b tb)(hm:behindInMarks op b=false:=by with_unfolding_all rfl):PTD X (.Compare a [op] [b] pos) (dT (dOp r' ta tb)):=by
 with_unfolding_all
  obtain⟨r,ho,od⟩:=o
  refine zgC (znL ho ha hb hm) fun U H Q hh=>el8 hh fun ad Z S Q0 st rh q k=>?_
  refine zil (Q:=fun x H'=>∃ k,x=.bl k/\Q k H') od ⟨ad,Z,S,_,st,rh,q,fun d S' v H' ad' ⟨b,e,q'⟩ w st' r=>?_⟩
  subst e
  cases r
  exact⟨b,rfl,k b S' H' ad' q' w st'⟩
end
section
variable {X:Cx}
theorem ints_of:∀ {ns:List Int} {its:List Value},Vals (ns.map V.int) its->IntsAre its ns
 | [],_,r=>by cases r;exact .nil
 | n::ns,_,r=>by
  cases r with
  | cons h t =>
   obtain⟨k,rfl⟩:=h
   exact .cons _ _ (ints_of t)
theorem znW:∀ {ns:List Int} {its:List Value},IntsAre its ns->Vals (ns.map V.int) its
 | [],_,r=>by cases r;exact .nil
 | n::ns,_,r=>by
  cases r with
  | cons _ _ t=>exact .cons ⟨_,rfl⟩ (znW t)
def zv7 (K:PySem.W.Frag):List V->Hp->VK->Prop:=fun xs H Q=>∃ (p:Addr) (ns:List Int),xs=[.ref p]/\SqL K H p (ns.map V.int)/\ns.length<64/\∀ (l:Addr) (ss:List Int),H l=none->ss.Perm ns->ss.Pairwise (fun a b=>a<=b)->Q (.ref l) (upd H l (.lst (ss.map V.int)))
theorem zl8 {K:PySem.W.Frag}(hK:X.K=K):zaS X (.builtin "sorted") (zv7 K):=fun pins s U H xs us Q I r h=>by
 subst hK
 obtain⟨p,ns,rfl,hS,h64,q⟩:=h
 obtain⟨u,rfl,ru⟩:=vals1 r
 cases ru
 obtain⟨its,rv,pl,hz⟩:=I.list hS
 have hI:=ints_of rv
 have hlen:=rv.length
 rw [qa] at hlen hz
 refine sorted_ints pl.isList hI (by omega) fun out ss h1 h2 h3=>?_
 obtain⟨e,he⟩:=sortedAll_at s.heap its out
 have hv:=znW h1
 refine⟨.ref (s.heap.objs.size+1),_,I.laid (t':=s.toks) (a:=s.heap.objs.size+1) (o:=.lst (ss.map V.int)) (fun b o q=>sortedAll_old q) (Nat.le_succ _) ⟨?_,out.toList,e,hv,?_⟩,rfl,q _ ss (I.hok.fresh (Nat.le_succ _)) h2 h3⟩
 ·rw [qa,h2.length_eq];exact hz
 ·rw [he]
theorem zqU:BC X (.builtin "sorted") zqQ:=⟨_,zl8 rfl,fun ad H S ds vs Q0 Q st r ⟨x,ns,e,hx,h64,q⟩ k=>by
 subst e
 obtain⟨v,rfl,rv⟩:=zb7 r
 obtain⟨a,ws,rfl,hs,rs⟩:=hx.sq st rv
 cases rs.ints
 exact⟨a,ns,rfl,hs,h64,fun l ss hl hp hw=>zfE st k (zK.mk_ints ss) (q ss hp hw) l hl⟩⟩
theorem zsG:BC X (.builtin "sorted") zpa:=by
 obtain⟨r1,c1,d1⟩:=zrQ (X:=X)
 obtain⟨r2,c2,d2⟩:=zqU (X:=X)
 refine⟨fun xs H Q=>r1 xs H Q\/r2 xs H Q,fun pins s U H xs us Q I r h=>?_,fun ad H S ds vs Q0 Q st r h k=>?_⟩
 ·rcases h with h | h
  ·exact c1 pins s U H xs us Q I r h
  ·exact c2 pins s U H xs us Q I r h
 ·rcases h with h | h
  ·exact .inl (d1 ad H S ds vs Q0 Q st r h k)
  ·exact .inr (d2 ad H S ds vs Q0 Q st r h k)
end
section
variable {X:Cx}{e:Expr}{pos p2 p3:Pos}{lo:Option Expr}
end
theorem zlT {K:PySem.W.Frag}{ad:List Addr}{H:Hp}:∀ {zs:List Str} {vs:List V},zK K ad H (zs.map D.str) vs->vs=zs.map V.str
 | [],_,.nil=>rfl
 | z::zs,_,.cons r t=>by cases r;rw [zlT t];rfl
theorem zsK {X:Cx}{a:Expr}{t:DA}{p1 p2 pos1 pos2:Pos}(hgl:Gl X "len")(hml:X.mg "len"=none)(hgr:Gl X "set")(hmr:X.mg "set"=none)(ha:PAD X [a] t)(hc:X.calm=true:=by rfl)
  (hs:starEach [a] X.env=[(false,eval a X.env)]:=by exact zdY rfl)
  (hs3:starEach [.Call (.Name "set" p2) [a] [] pos2] X.env=[(false,eval (.Call (.Name "set" p2) [a] [] pos2) X.env)]:=by rfl) :
  PD X (.Call (.Name "len" p1) [.Call (.Name "set" p2) [a] [] pos2] [] pos1) (dB zph t):=by with_unfolding_all exact (zbf (ztw hc hgl hml hgr hmr ha hs hs3) fun U H Q hh=>el8 hh fun ad Z S Q0 st rh q k =>
  ⟨ad,Z,S,_,st,rh,q,fun ds S1 vs H1 ad1 ⟨x,zs,ed,hx,hl,q1⟩ w1 st1 r1=>by
   subst ed
   obtain⟨v,rfl,rv⟩:=zb7 r1
   obtain⟨a1,ws,rfl,hs,rs⟩:=hx.sq st1 rv
   cases zlT rs
   exact⟨a1,zs,rfl,hs,hl,k _ S1 _ H1 ad1 q1 w1 st1 (.int _)⟩⟩)
section
variable {X:Cx}{e:Expr}{t:DA}{p pos kp cp:Pos}{j:Nat}
end
section
variable {X:Cx}{e o value:Expr}{te to tv:DE}{f c:Str}{pos pos':Pos}
theorem zbx (he:PD X e te)(hb:attributeBase e f X.env (eval e X.env)=eval e X.env):PD X (.Attribute e f pos) (zcw f te):=by with_unfolding_all exact (zbf (zvI he hb) fun U H Q hh=>el8 hh fun ad Z S Q0 st rh q k =>
  ⟨ad,Z,S,_,st,rh,q,fun x S1 v H1 ad1 ⟨n,c,fs,d,ex,hn,hl,q1⟩ w1 st1 r1=>by
   subst ex
   cases r1 with
   | ref en =>
    obtain⟨C,dx,vs,h1,hc,hns,rf,hna⟩:=st1.cell n _ _ en hn
    obtain⟨v,hv,rv⟩:=rf.look hl
    obtain⟨q2,hq2,e2⟩:=zmN hl
    exact⟨_,C,dx,vs,v,rfl,h1,hc,e2▸hna q2 hq2,hv,k d S1 v H1 ad1 q1 w1 st1 rv⟩⟩)
theorem zeg (hna:∀ C,PySem.W.nsIn X.K mainGlobals c=some (some (.ref C))->zaC X.K C f)(ho:PD X o to)(hv:PD X value tv)(hs:swapsWith value (some (.Attribute o f pos')) pos.line X.env=pure false:=by rfl) :
  PSD X (.Assign [.Attribute o f pos'] value pos) (zeV c f to tv):=by with_unfolding_all exact (zbO (zuU ho hv hs) fun E U H hh=>el8 hh fun ad Z S E0 so rh q k =>
 ⟨ad,Z,S,_,so,rh,q,fun y S1 vy H1 ad1 q1 w1 st1 r1=>⟨ad1,Z,S1,_,st1,rh.wd w1,q1,fun x S2 vx H2 ad2 ⟨n,fs,ex,hn,hl,q2⟩ w2 st2 r2=>by
  subst ex
  cases r2 with
  | ref en =>
   obtain⟨C,dx,vs,h1,hc,hns,rf,hna'⟩:=st2.cell n _ _ en hn
   have w3:Wd ad2 H2 ad2 (upd H2 _ (.ins C dx (zca f vy vs))):=Wd.putI en h1
   exact⟨_,C,dx,vs,rfl,h1,hc,hna C hns,by rw [<- rf.length];omega,k.nx Z _ U _ ad2 q2 ((w1.trans w2).trans w3) (st2.putI en h1 hc hns rf hna' (hna C hns) (r1.wd w2)) (((rh.wd w1).wd w2).wd w3)⟩⟩⟩)
omit B in
theorem zn6 {K:PySem.W.Frag}{C:Addr}{c:Str}{init:DSp}(hc:Cls K C)(hn:PySem.W.nsIn K mainGlobals c=some (some (.ref C))):∀ vs H Q,upF K (zoQ c init) vs H Q E0->∀ x dx,H x=none->H dx=none->dx≠x ->
  upF K init (.ref x::vs) (upd (upd H dx (.own x)) x (.ins C dx [])) (fun v H2=>v=.non/\Q (.ref x) H2) E0:=by
 rintro vs H Q ⟨ad,S,ds,Q0,st,r,hf,k⟩ x dx hx hdx hne
 letI:Bs:=⟨ad,H⟩
 obtain⟨w,st'⟩:=st.newI (c:=c) hx hdx hne hc hn
 have rx:Rel K (ad++[x]) (upd (upd H dx (.own x)) x (.ins C dx [])) (.ref S.length) (.ref x):=.ref (by rw [<- st.len,ql (qg _),Nat.sub_self];rfl)
 have hf':init (.ref S.length::ds) (S++[.ins c []]) (fun d S2=>d=.non/\Q0 (.ref S.length) S2):=hf
 refine⟨ad++[x],S++[.ins c []],.ref S.length::ds,_,st'.base,.cons rx (r.wd w),hf',fun d S' v H' ad' q w' st2 rv=>?_⟩
 obtain⟨rfl,q⟩:=q
 cases rv
 exact⟨rfl,k _ S' _ H' ad' q (w.trans w') (st'.back st2) (rx.wd w')⟩
theorem zmV {k j:Nat}{x:Str}{e:Expr}{es:List Expr}{t:DA}{p:Pos}{f:DSp}(G:zkj X.prog X.w X.K X.mg X.base k x (upF X.K f))(hr:zaT j X.A)
  (ha:PAD X (e::es) t) (hk:k+1<=j:=by decide) (hg:Gl X x:=by rfl) (hdb:(x==("__debug__":Str))=false:=by decide) (he:starEach (e::es) X.env=(false,eval e X.env)::starEach es X.env:=by exact zbK rfl) (hpl:(backTo pos (starEach es X.env)).any (·.1)=false:=by exact zd2 rfl) :
  PD X (.Call (.Name x p) (e::es) [] pos) (dCall f t):=by with_unfolding_all exact (zbf (zw3 G hr hk hg ha hdb he hpl) fun U H Q hh=>el8 hh fun ad Z S Q0 st rh q k =>
 ⟨ad,Z,S,_,st,rh,q,fun ds S1 vs H1 ad1 q1 w1 st1 r1=>by
  show upF X.K f (vs++[]) H1 Q E0
  rw [List.append_nil];exact⟨ad1,S1,ds,Q0,st1.base,r1,q1,(k.wd w1).base st1⟩⟩)
end
end Dp
namespace Dp
open PySem PySem.Spec PyProof.Rows L2 My
def Fly (h0 h:Heap)(e:Addr)(cls:Value)(H:Hp):Prop:=h0.get? e=none/\H e=none/\∃ (a0:Value) (oe:Obj) (vs:Array Value) (T:Addr) (oT:Obj) (ts:Array Value),h.get? e=some oe/\(oe.cls=cls/\vs[0]?=some a0)/\oe.data=.fields vs/\vs[1]?=some (.ref T)/\h0.get? T=none/\T≠e/\h.get? T=some oT/\oT.data=.fields ts/\ts[3]?=some .none/\H T=none
def CXd (P:Program)(w:World):CXT:=fun outer H s E e s'=>∃ (a C:Addr) (H':Hp),e=.ref a/\s'.os=s.os/\AllBare s'.gens/\Un (frs outer) [] H H' s.heap s'.heap/\HOk P w H' s'.heap/\Fly s.heap s'.heap a (.ref C) H'/\E (.ref C) none H'
def zet (h:Heap)(p:Addr->Bool):Heap:={ h with objs:=h.objs.mapIdx fun i o=>if p i=true then o else { cls:=.none,data:=.freed } }
theorem zfJ (h:Heap)(p:Addr->Bool)(b:Addr):(zet h p).get? b=if p b=true then h.get? b else none:=by
  unfold zet Heap.get?
  dsimp only
  rw [Array.getElem?_mapIdx]
  cases h.objs[b]? with
  | none=>cases p b<;>rfl
  | some o=>cases p b<;>rfl
theorem zjT (h:Heap)(p:Addr->Bool):(zet h p).StaysIn h:=fun b o e=>by
 rw [zfJ] at e
 split at e
 ·exact e
 ·cases e
theorem zkG {h base base':Heap}:∀ {l:List Env},h.FunFrames base l->(∀ L∈frs l,base'.get? L=none)->h.FunFrames base' l
 | [],_,_=>True.intro
 | env::l,⟨h1,⟨L,o,h2,h3,h4,h5⟩,h6⟩,hb=>⟨h1,⟨L,o,h2,hb L (List.mem_filterMap.mpr ⟨env,by simp,h2⟩),h4,h5⟩,zkG h6 fun L' hL=>hb L' (by
   obtain⟨e',he,e2⟩:=List.mem_filterMap.mp hL
   exact List.mem_filterMap.mpr ⟨e',qs _ he,e2⟩)⟩
section
variable {X:Cx}{pins:List (Addr×Obj)}{U:L2.St}{H:Hp}{s:Shared}
theorem zp2 (I:Inv X pins U H s)(hex:X.ex=[]){b:Addr}{o:Obj}(e:X.s₀.heap.get? b=some o):∃ o',s.heap.get? b=some o':=I.base.there b o e (by rw [hex];simp)
theorem ze8 (I:Inv X pins U H s)(hex:X.ex=[]){b:Addr}(e:s.heap.get? b=none):X.s₀.heap.get? b=none:=by
 cases q:X.s₀.heap.get? b with
 | none=>rfl
 | some o=>obtain⟨o',h⟩:=zp2 I hex q;rw [e] at h;cases h
theorem zjm (I:Inv X pins U H s){b:Addr}(e:s.heap.get? b=none):H b=none:=by
 cases q:H b with
 | none=>rfl
 | some o =>
  have:=(I.hok b o q).lt
  exfalso
  cases o with
  | lst xs=>obtain⟨_,_,_,_,h⟩:=I.hok b _ q;rw [e] at h;cases h
  | tup xs=>obtain⟨_,_,_,ob,h,_⟩:=I.hok b _ q;rw [e] at h;cases h
  | dK kvs=>obtain⟨_,_,_,_,ob,_,_,h,_⟩:=I.hok b _ q;rw [e] at h;cases h
  | dT kvs=>obtain⟨_,_,_,_,ob,_,_,h,_⟩:=I.hok b _ q;rw [e] at h;cases h
  | set S n=>obtain⟨ob,_,_,_,h,_⟩:=I.hok b _ q;rw [e] at h;cases h
  | ins C dx fs=>obtain⟨_,_,_,h,_⟩:=I.hok b _ q;rw [e] at h;cases h
  | own y=>obtain⟨_,h⟩:=I.hok b _ q;rw [e] at h;cases h
  | xd fs=>obtain⟨_,⟨_,_,_,h,_⟩,_⟩:=I.hok b _ q;rw [e] at h;cases h
  | rng lo hi=>obtain⟨_,_,_,h⟩:=I.hok b _ q;rw [e] at h;cases h
  | frz ob u=>obtain⟨h,_⟩:=I.hok b _ q;rw [e] at h;cases h
  | tbl ps=>have h:s.heap.get? b=some _:=I.hok b _ q;rw [e] at h;cases h
  | met f y=>have h:s.heap.get? b=some _:=I.hok b _ q;rw [e] at h;cases h
  | ext φ=>obtain⟨_,⟨_,h⟩,_⟩:=I.hok b _ q;rw [e] at h;cases h
theorem zk2 (I:Inv X pins U H s)(hex:X.ex=[])(hst:X.stack=X.env::X.outer)(hfr:X.env.frame=some X.env.locals){e T0:Addr}{h':Heap}(he:X.s₀.heap.get? e=none)(hT:X.s₀.heap.get? T0=none)(He:H e=none)(HT:H T0=none)
  (hk:∀ b o,s.heap.get? b=some o->b≠e->b≠T0->b∉frs X.stack->h'.get? b=some o) (hs:∀ b∈frs X.stack,∀ o,s.heap.get? b=some o->∃ sl,h'.get? b=some { o with slots:=sl }) :
  Un X.fs [] X.H₀ H X.s₀.heap h'/\HOk X.prog X.w H h':=by
 have nfr:∀ {b:Addr} {o:Obj},X.s₀.heap.get? b=some o->b∉X.fs->b∉frs X.stack:=fun {b o} q n m=>by
  rw [hst] at m
  obtain⟨e',h1,h2⟩:=List.mem_filterMap.mp m
  rcases qf.mp h1 with rfl | h1
  ·rw [hfr] at h2
   cases h2
   exact absurd (qk q) (Nat.not_lt.mpr I.ok.above)
  ·exact n (List.mem_filterMap.mpr ⟨e',h1,h2⟩)
 have sub:∀ {b:Addr},b∈X.fs->b∈frs X.stack:=fun {b} m=>by
  obtain⟨e',h1,h2⟩:=List.mem_filterMap.mp m
  rw [hst]
  exact List.mem_filterMap.mpr ⟨e',qs _ h1,h2⟩
 have nex:∀ b:Addr,b∉X.ex:=fun b=>by rw [hex];simp
 have ne:∀ {b:Addr} {o:Obj},X.s₀.heap.get? b=some o->b≠e/\b≠T0:=fun {b o} q=>⟨fun z=>(by rw [z,he] at q;cases q),fun z=>(by rw [z,hT] at q;cases q)⟩
 have ub:=I.base
 refine⟨⟨fun b o q n m _=>?_,fun b o q n m _=>?_,fun b o q n _=>ub.free b o q n (nex b),fun b o q _=>?_,ub.tups,ub.frzs,ub.tbls⟩,fun a o q=>?_⟩
 ·exact hk b o (ub.keep b o q n m (nex b)) (ne q).1 (ne q).2 (nfr q m)
 ·obtain⟨sl,h1⟩:=ub.slot b o q n m (nex b)
  obtain⟨sl',h2⟩:=hs b (sub m) _ h1
  exact⟨sl',h2⟩
 ·obtain⟨o',h1⟩:=ub.there b o q (nex b)
  by_cases m:b∈frs X.stack
  ·obtain⟨sl,h2⟩:=hs b m o' h1
   exact⟨_,h2⟩
  ·exact⟨o',hk b o' h1 (ne q).1 (ne q).2 m⟩
 ·have inn:∀ {b:Addr},H b≠none->b≠e/\b≠T0/\b∉frs X.stack:=fun {b} n=>⟨fun z=>n (by rw [z];exact He),fun z=>n (by rw [z];exact HT),fun z=>n (I.stkFree b z)⟩
  refine (I.hok a o q).stay (fun b u hb r=>?_) (fun _ r=>r) fun _ _ r=>r
  have n:H b≠none:=by
   rcases hb with rfl | hb
   ·rw [q];exact Option.some_ne_none _
   ·rw [hb];exact Option.some_ne_none _
  obtain⟨n1,n2,n3⟩:=inn n
  exact hk b u r n1 n2 n3
theorem zpQ (I:Inv X pins U H s)(hex:X.ex=[])(hst:X.stack=X.env::X.outer)(hfr:X.env.frame=some X.env.locals){e C:Addr}{E:Value->Shared->Prop}{Q:Unit->Shared->Prop}(F:Fly X.s₀.heap s.heap e (.ref C) H)
  (hQ:∀ s':Shared,s'.os=X.s₀.os->AllBare s'.gens->Un X.fs [] X.H₀ H X.s₀.heap s'.heap->HOk X.prog X.w H s'.heap->Fly X.s₀.heap s'.heap e (.ref C) H->Q () s'):wpAny (model X.prog X.w) X.A (leaving X.env (.ref e)) Q E s:=by
 obtain⟨he,He,a0,oe,vs,T,oT,ts,f1,f2,f3,f4,f5,f6,f7,f8,f9,HT⟩:=F
 have ff:s.heap.FunFrames X.base X.stack:=I.stack
 obtain⟨p,hp⟩:∃ p:Addr->Bool,∀ b,p b=true↔b≠e/\b≠T/\b∉frs X.stack:=⟨fun b=>decide (b≠e/\b≠T/\b∉frs X.stack),fun b=>decide_eq_true_iff⟩
 have mno:∀ {b:Addr},¬ (b≠e/\b≠T/\b∉frs X.stack)->(zet s.heap p).get? b=none:=fun {b} n=>by
  rw [zfJ,if_neg (fun z=>n ((hp b).mp z))]
 have myes:∀ {b:Addr} {o:Obj},s.heap.get? b=some o->b≠e->b≠T->b∉frs X.stack->(zet s.heap p).get? b=some o:=fun {b o} q n1 n2 n3=>by
  rw [zfJ,if_pos ((hp b).mpr ⟨n1,n2,n3⟩)];exact q
 have fb:s.heap.FunFrames (zet s.heap p) X.stack:=zkG ff fun L hL=>mno fun z=>z.2.2 hL
 have fl:Heap.FlyingW (zet s.heap p) X.stack e (.ref C) a0 s.heap:=⟨zjT _ _,mno fun z=>z.1 rfl,fb,oe,vs,T,oT,ts,f1,f2,f3,f4,mno fun z=>z.2.1 rfl,f6,f7,f8,f9⟩
 have fr:=I.ok.frames
 rw [hst] at fr
 rw [hst] at fl
 refine wpAny_leaves_onW fr hfr fl fun h' ⟨k1,k2,k3,oe',vs',T',oT',ts',g1,g2,g3,g4,g5,g6,g7,g8,g9⟩ us=>?_
 have hs:∀ b∈frs X.stack,∀ o,s.heap.get? b=some o->∃ sl,h'.get? b=some { o with slots:=sl }:=fun b hb o q=>by
  obtain⟨_,o',h1,h2⟩:=ff.mem hb
  rw [q] at h1;cases h1
  exact us b o q h2
 have hk:∀ b o,s.heap.get? b=some o->b≠e->b≠T->b∉frs X.stack->h'.get? b=some o:=fun b o q n1 n2 n3=>k1 b o (myes q n1 n2 n3)
 obtain⟨u1,u2⟩:=zk2 I hex hst hfr he f5 He HT hk hs
 have nT:X.s₀.heap.get? T'=none/\H T'=none:=by
  by_cases z1:T'=T
  ·rw [z1];exact⟨f5,HT⟩
  ·by_cases z2:T'∈frs X.stack
   ·exfalso
    obtain⟨_,o',h1,h2⟩:=ff.mem z2
    obtain⟨sl,h3⟩:=hs T' z2 o' h1
    rw [g7] at h3;cases h3
    exact h2 ts' g8
   ·have:s.heap.get? T'=none:=by
     cases q:s.heap.get? T' with
     | none=>rfl
     | some o=>rw [myes q g6 z1 z2] at g5;cases g5
    exact⟨ze8 I hex this,zjm I this⟩
 exact hQ _ I.os I.bare u1 u2 ⟨he,He,a0,oe',vs',T',oT',ts',g1,g2,g3,g4,nT.1,g6,g7,g8,g9,nT.2⟩
theorem zou (I:Inv X pins U H s)(hex:X.ex=[])(hst:X.stack=X.env::X.outer)(hfr:X.env.frame=some X.env.locals){e C:Addr}{args:List Value}{h1:Heap}{E:Value->Shared->Prop}{Q:Unit->Shared->Prop}(hx:s.heap.MadeExcOf h1 e (.ref C) args)
  (hQ:∀ s':Shared,s'.os=X.s₀.os->AllBare s'.gens->Un X.fs [] X.H₀ H X.s₀.heap s'.heap->HOk X.prog X.w H s'.heap->Fly X.s₀.heap s'.heap e (.ref C) H->Q () s'):wpAny (model X.prog X.w) X.A (leaving X.env (.ref e)) Q E { s with heap:=h1 }:=by
 have ff:s.heap.FunFrames X.base X.stack:=I.stack
 obtain⟨p,hp⟩:∃ p:Addr->Bool,∀ b,p b=true↔b∉frs X.stack:=⟨fun b=>decide (b∉frs X.stack),fun b=>decide_eq_true_iff⟩
 have mno:∀ {b:Addr},b∈frs X.stack->(zet s.heap p).get? b=none:=fun {b} n=>by
  rw [zfJ,if_neg (fun z=>(hp b).mp z n)]
 have myes:∀ {b:Addr} {o:Obj},s.heap.get? b=some o->b∉frs X.stack->(zet s.heap p).get? b=some o:=fun {b o} q n3=>by
  rw [zfJ,if_pos ((hp b).mpr n3)];exact q
 have fb:s.heap.FunFrames (zet s.heap p) X.stack:=zkG ff fun L hL=>mno hL
 have fr:=I.ok.frames
 rw [hst] at fr
 rw [hst] at fb
 refine wpAny_leaves_madeW (base:=zet s.heap p) (h:=s.heap) fr hfr (zjT _ _) fb hx fun h' t ⟨k1,k2,k3,oe',vs',T',oT',ts',g1,g2,g3,g4,g5,g6,g7,g8,g9⟩ _ _ us=>?_
 have us':s.heap.UpToSlots h':=fun b o q n=>us b o (hx.keeps b o q) n
 have hs:∀ b∈frs X.stack,∀ o,s.heap.get? b=some o->∃ sl,h'.get? b=some { o with slots:=sl }:=fun b hb o q=>by
  obtain⟨_,o',h1,h2⟩:=ff.mem hb
  rw [q] at h1;cases h1
  exact us' b o q h2
 have hk:∀ b o,s.heap.get? b=some o->b≠e->b≠e->b∉frs X.stack->h'.get? b=some o:=fun b o q _ _ n3=>k1 b o (myes q n3)
 have he:=ze8 I hex hx.new
 have He:=zjm I hx.new
 obtain⟨u1,u2⟩:=zk2 I hex hst hfr he he He He hk hs
 have nT:X.s₀.heap.get? T'=none/\H T'=none:=by
  by_cases z2:T'∈frs X.stack
  ·exfalso
   obtain⟨_,o',h1,h2⟩:=ff.mem z2
   obtain⟨sl,h3⟩:=hs T' z2 o' h1
   rw [g7] at h3;cases h3
   exact h2 ts' g8
  ·have:s.heap.get? T'=none:=by
    cases q:s.heap.get? T' with
    | none=>rfl
    | some o=>rw [myes q z2] at g5;cases g5
   exact⟨ze8 I hex this,zjm I this⟩
 exact hQ _ I.os I.bare u1 u2 ⟨he,He,_,oe',vs',T',oT',ts',g1,g2,g3,g4,nT.1,g6,g7,g8,g9,nT.2⟩
end
def zc7 (K:PySem.W.Frag)(f:zeH):Sp:=fun vs H Q E=>∃ ad S ds Q0 X0,@zT ⟨ad,H⟩ K ad H S/\zK K ad H ds vs/\f ds S Q0 X0/\@KK ⟨ad,H⟩ K ad H Q0 Q /\
 ∀ (c:Str) (C:Addr) (S':Sto) (ad':List Addr) (H':Hp),X0 c S'->@zT ⟨ad,H⟩ K ad' H' S'->PySem.W.nsIn K mainGlobals c=some (some (.ref C))->E (.ref C) none H'
structure zgW (P:Program)(w:World)(K:PySem.W.Frag)(mg:Str->Option Value)(base:Heap)(k:Nat)(x:Str)(ps:List Str)(sp:Sp):Prop where
 ex:∃ f fd,zaa P w K mg base (CXd P w) k f fd ps sp/\Binds K fd ps []/\PySem.W.keepIn K (.ref f)=true/\mg x=some (.ref f)
def XOk [B:Bs](X:Cx)(ex:XR):Prop:=∀ (pins:List (Addr×Obj)) (U:L2.St) (H:Hp) (s s':Shared) (ad ad':List Addr) (Z:Rho) (S S':Sto) (c:Str) (C a:Addr) (H':Hp),Inv X pins U H s->zT X.K ad H S->zaQ X.K ad H Z U->ex Z c S'->zT X.K ad' H' S'->Wd ad H ad' H' ->
 PySem.W.nsIn X.K mainGlobals c=some (some (.ref C))->s'.os=s.os->AllBare s'.gens->Un (frs X.stack) [] H H' s.heap s'.heap->HOk X.prog X.w H' s'.heap->Fly s.heap s'.heap a (.ref C) H'->X.xe (.ref a) s'
def XMk [B:Bs](X:Cx)(ex:XR):Prop:=∀ (pins:List (Addr×Obj)) (U:L2.St) (H:Hp) (s:Shared) (ad:List Addr) (Z:Rho) (S:Sto) (c:Str) (C e:Addr) (args:List Value) (h1:Heap),Inv X pins U H s->zT X.K ad H S->zaQ X.K ad H Z U->ex Z c S ->
 PySem.W.nsIn X.K mainGlobals c=some (some (.ref C))->s.heap.MadeExcOf h1 e (.ref C) args->X.xe (.ref e) { s with heap:=h1 }
section
variable [B:Bs]{X:Cx}
theorem zct {k j:Nat}{x:Str}{ps:List Str}{f:zeH}{ex:XR}{p pos:Pos}{e:Expr}{es:List Expr}{t:DA}(G:zgW X.prog X.w X.K X.mg X.base k x ps (zc7 X.K f))(hX:XOk X ex)(hr:zaT j X.A)
  (ha:PAD X (e::es) t) (hk:k<=j:=by decide) (hg:Gl X x:=by rfl) (hdb:(x==("__debug__":Str))=false:=by decide) (he:starEach (e::es) X.env=(false,eval e X.env)::starEach es X.env:=by exact zbK rfl) (hpl:(backTo pos (starEach es X.env)).any (·.1)=false:=by exact zd2 rfl) :
  PD X (.Call (.Name x p) (e::es) [] pos) (zcQ f ex t):=by
 with_unfolding_all
  intro pins s U H Q I h
  obtain⟨ad,Z,S,Q0,st,rh,q,kk⟩:=h
  obtain⟨fa,fd,F,b,kp,m⟩:=G.ex
  have F:=F.mono hk
  refine wpAny_Call_Name_kw (zgI I hg m ?_ hdb)
  have hA:=ha pos pins s U H (fun vs H1=>∃ ds S1 ad1,f ds S1 Q0 (ex Z)/\Wd ad H ad1 H1/\zT X.K ad1 H1 S1/\zK X.K ad1 H1 ds vs) I ⟨ad,Z,S,_,st,rh,q,fun ds S1 vs H1 ad1 q1 w1 st1 r1=>⟨ds,S1,ad1,q1,w1,st1,r1⟩⟩
  refine PySem.W.callWith_K (h₀:=X.base) I.ok.mod.kin kp (thn hA fun us s1 ⟨vs,H1,I1,r,q1⟩=>⟨I1.kIn,?_⟩) he hpl
  obtain⟨ds,S1,ad1,q1,w1,st1,r1⟩:=q1
  have hsp:zc7 X.K f vs H1 Q (fun cls _ H'=>∃ c C S' ad',cls=Value.ref C/\ex Z c S'/\zT X.K ad' H' S'/\Wd ad1 H1 ad' H'/\PySem.W.nsIn X.K mainGlobals c=some (some (.ref C))) :=
   ⟨ad1,S1,ds,Q0,ex Z,st1.base,r1,q1,(kk.wd w1).base st1,fun c C S' ad' H' hx st' hn=>⟨c,C,S',ad',rfl,hx,st1.back st',@zT.wd ⟨ad1,H1⟩ _ _ _ _ st',hn⟩⟩
  have hl:us.length=ps.length:=by rw [<- r.length];exact F.len _ _ _ _ hsp
  refine wpAny_call (codeAny_mono (F.run X.A X.stack s1 H1 ⟨us,[]⟩ us vs Q _ hr I1.env0 (by have:=b s1 us I1.kIn (by rw [List.append_nil];exact hl);rwa [List.append_nil] at this) r hsp) fun res s' hq=>?_)
  cases res with
  | error e =>
   obtain⟨a,C,H',rfl,os,bare,un,hok,fly,c,C',S',ad',hC,hx,st',wd',hn⟩:=hq
   cases hC
   exact hX pins U H1 s1 s' ad1 ad' Z S1 S' c C a H' I1 st1 (rh.wd w1) hx st' wd' hn os bare un hok fly
  | ok fl =>
   cases fl with
   | ret u=>exact I1.after hq
   | next=>exact False.elim hq
   | brk=>exact False.elim hq
   | cont=>exact False.elim hq
theorem zjF:XOk X xF:=fun _ _ _ _ _ _ _ _ _ _ _ _ _ _ _ _ _ h=>h.elim
structure ExC (K:PySem.W.Frag)(C:Addr):Prop where
 ex:∃ nm q N bs bm hdct sn sub ab col dd k0 k1 k2 k3 k5,K.lookup C=some (excClassObj nm q C N bs bm hdct sn sub ab col dd k0 k1 k2 k3 k5 "ValueError.__new__")/\PySem.W.nsOkIn K N=true/\PySem.W.nsIn K N "__init__"=some none /\
  PySem.W.tailIn K [.type "ValueError",.type "Exception",.type "BaseException",.type "object"] bm=true
theorem ze5 {x:Str}{ex:XR}{np cpos pos:Pos}{e:Expr}{t:DA}(hX:XMk X ex)(hc:X.calm=true)(hC:∀ C,PySem.W.nsIn X.K mainGlobals x=some (some (.ref C))->ExC X.K C)(hx:∃ C,PySem.W.nsIn X.K mainGlobals x=some (some (.ref C))/\X.mg x=some (.ref C))(hg:Gl X x)
  (ha:PAD X [e] t) (ht:∀ Z S Q,(∀ d,Q [d] S)->t Z S Q) (hdb:(x==("__debug__":Str))=false:=by decide) (he:starEach [e] X.env=(false,eval e X.env)::starEach [] X.env:=by rfl) :
  PSD X (.Raise (some (.Call (.Name x np) [e] [] cpos)) none pos) (zfN ex x):=by
 with_unfolding_all
  intro pins s U H D I h
  obtain⟨ad,Z,S,E0,st,rh,q,k⟩:=h
  obtain⟨C,hn,hm⟩:=hx
  obtain⟨nm,qn,N,bs,bm,hdct,sn,sub,ab,col,dd,k0,k1,k2,k3,k5,lk,no,ni,tl⟩:=(hC C hn).ex
  have kin:=I.kIn
  have T:=PySem.W.tail_of_in kin tl
  have hv:=ha cpos pins s U H (fun vs H1=>vs.length=1/\∃ ad1,Wd ad H ad1 H1/\zT X.K ad1 H1 S) I ⟨ad,Z,S,fun ds S'=>ds.length=1/\S'=S,st,rh,ht _ _ _ (fun d=>⟨rfl,rfl⟩),fun ds S' vs H' ad' e' w' st' r'=>⟨by rw [<- r'.length];exact e'.1,ad',w',e'.2▸st'⟩⟩
  refine wpAny_Raise_call_subT (C:=C) (nm:=nm) (q:=qn) (N:=N) (bs:=bs) (bm:=bm) (hdct:=hdct) (sn:=sn) (sub:=sub) (ab:=ab) (col:=col) (dd:=dd) (k0:=k0) (k1:=k1) (k2:=k2) (k3:=k3) (k5:=k5) PySem.F.excBase_ValueError (T.hasType PySem.F.excBase_ValueError.hasBase) (I.ok.hd hc) (by rw [he];rfl) (PySem.W.nsMap_none_of_in I.ok.mod.kin no ni) (zgI I hg hm ⟨rfl,?_⟩ hdb)
  rw [he] at hv ⊢
  refine Calls.evalArgs_plain (wpAny_mono hv (fun us s1 hq=>?_) fun _ _ y=>y)
  obtain⟨vs,H1,I1,r,hl,ad1,w1,st1⟩:=hq
  have k1':=I1.kIn
  have hlen:us.length<=sizeLine:=by rw [<- r.length,hl];decide
  exact⟨rfl,hlen,k1' _ _ lk,(Heap.Ns.of_isNs (PySem.W.isNs_of_in I.ok.mod.kin no)).keeps I1.bk,PySem.W.tail_of_in k1' tl,fun h' e' hx=>hX pins U H1 s1 ad1 Z S x C e' us h' I1 st1 (rh.wd w1) q hn hx⟩
omit B in
theorem zdV {P:Program}{w:World}{K:PySem.W.Frag}{mg:Str->Option Value}{base:Heap}{x qual:Str}{st:Stmt}{f:Addr}{fd:FuncData}{N ps:List Str}{k:Nat}{sp:zeH}{b:XR->DS}(F:Fun K x qual st f fd)(S:zQ N ps (zJ st))
  (len:∀ ds So Q ex,sp ds So Q ex->ds.length=ps.length) (body:zec N.length b sp)
  (term:∀ (cdv:Value) (A:Around) (outer:List Env) (s:Shared) (H:Hp) (E:XK),zaT k (A.deeper (envOfC qual (zJ st) s.heap.objs.size f cdv))->∀ [Bs] (ex:XR),XOk (zgq (CXd P w) P w K mg base N qual (zJ st) f cdv A outer s H E) ex->XMk (zgq (CXd P w) P w K mg base N qual (zJ st) f cdv A outer s H E) ex->zgj (zgq (CXd P w) P w K mg base N qual (zJ st) f cdv A outer s H E) (zbk st) (b ex)) :
  zaa P w K mg base (CXd P w) (k+1) f fd ps (zc7 K sp):=by
 with_unfolding_all
  obtain⟨oc,od,kV,doc,pm,an,cdv,ct,osl,rfl,lk,hcd⟩:=F.ex
  refine zsm lk hcd S (fun vs H Q E ⟨ad,So,ds,Q0,X0,so,r,hf,kk,kx⟩=>by rw [<- r.length];exact len ds So Q0 X0 hf) fun A outer s H vs Q E hr ⟨ad,So,ds,Q0,X0,so,r,hf,kk,kx⟩=>?_
  letI:Bs:=⟨ad,H⟩
  have end1:∀ (c:Str) (C a:Addr) (S':Sto) (ad':List Addr) (H':Hp) (s':Shared),X0 c S'->zT K ad' H' S'->PySem.W.nsIn K mainGlobals c=some (some (.ref C))->s'.os=s.os->AllBare s'.gens->Un (frs outer) [] H H' s.heap s'.heap->HOk P w H' s'.heap->Fly s.heap s'.heap a (.ref C) H'->CXd P w outer H s E (.ref a) s' :=
   fun c C a S' ad' H' s' hx st' hn o1 o2 o3 o4 o5=>⟨a,C,H',rfl,o1,o2,o3,o4,o5,kx c C S' ad' H' hx st' hn⟩
  refine⟨_,term cdv A outer s H E hr (fun _=>X0) ?_ ?_,ad,zfa N.length ds,So,_,so,zlO N r,body ds So Q0 X0 hf,⟨fun Z S' U H' ad' q w' st' rh=>zjw so kk .non S' .non H' ad' q w' st' .non,zjw so kk,fun _ _ _ _ _ q=>q.elim,fun _ _ _ _ _ q=>q.elim⟩⟩
  ·intro pins U H1 s1 s' ad1 ad' Z S1 S' c C a H' I st1 rh hx st' wd' hn os bare un hok fly
   have I':=I.call' (ch:=[]) os un hok bare (fun b z=>absurd z (by simp))
   have f0:Fly s.heap s'.heap a (.ref C) H':=by
    obtain⟨g1,g2,a0,oe,vs,T,oT,ts,h1,h2,h3,h4,h5,h6⟩:=fly
    exact⟨ze8 I rfl g1,g2,a0,oe,vs,T,oT,ts,h1,h2,h3,h4,ze8 I rfl h5,h6⟩
   exact zpQ I' rfl rfl rfl f0 fun s'' o1 o2 o3 o4 o5=>end1 c C a S' ad' H' s'' hx st' hn o1 o2 o3 o4 o5
  ·intro pins U H1 s1 ad1 Z S1 c C e args h1 I st1 rh hx hn hmade
   exact zou I rfl rfl rfl hmade fun s'' o1 o2 o3 o4 o5=>end1 c C e S1 ad1 H1 s'' hx st1 hn o1 o2 o3 o4 o5
end
section
variable {X:Cx}{pins:List (Addr×Obj)}{U:L2.St}{H H':Hp}{s s':Shared}
variable [B:Bs]
end
section
open PySem.W PySem.Builtin PySem.Builtin.ObjectAttr PySem.Builtin.Getset_descriptor
variable {prog:Program}{w:World}{A:Around}{E:Value->Shared->Prop}{s:Shared}{K:Frag}{x C:Addr}{o:Obj}
end
section
variable [B:Bs]{X:Cx}
end
def zmM (K:PySem.W.Frag)(C:Addr):Bool:=match K.lookup C with
 | some ⟨.type "type",_,.cls cd,sl⟩=>(match cd.mro,sl.toList with
  | .ref C'::bm,[_,_,_,_,some (.builtin n),_]=>C'==C&&!cd.hasDel&&n=="ValueError.__new__"&&PySem.W.nsOkIn K cd.ns&&PySem.W.nsIn K cd.ns "__init__"==some none&&PySem.W.tailIn K [.type "ValueError",.type "Exception",.type "BaseException",.type "object"] bm
  | _,_=>false)
 | _=>false
theorem ExC.of {K:PySem.W.Frag}{C:Addr}(q:zmM K C=true):ExC K C:=by
 unfold zmM at q
 split at q
 ·rename_i dd cd sl ho
  split at q
  ·rename_i C' bm k0 k1 k2 k3 n k5 hm hs
   simp only [qA,beq_iff_eq,Bool.not_eq_true'] at q
   obtain⟨⟨⟨⟨⟨rfl,hdel⟩,rfl⟩,h1⟩,h2⟩,h3⟩:=q
   obtain⟨nm,bs,mro,ns,qn,hd,sn,sub,ab,col,del⟩:=cd
   dsimp only at hm hdel
   subst hm hdel
   have hsl:sl=#[k0,k1,k2,k3,some (.builtin "ValueError.__new__"),k5]:=by
    obtain⟨l⟩:=sl
    simp only at hs
    rw [hs]
   subst hsl
   exact⟨nm,qn,ns,bs,bm,hd,sn,sub,ab,col,dd,k0,k1,k2,k3,k5,ho,h1,h2,h3⟩
  ·cases q
 ·cases q
section
variable {X:Cx}[B:Bs]
theorem zkY:∀ {ds:List D} {j:Nat} {d:D},ds[j]?=some d->(zaB ds)[j]?=some (pyD d)
 | [],_,_,h=>by simp at h
 | x::xs,0,d,h=>by
  have:x=d:=by simpa using h
  subst this;rfl
 | x::xs,j+1,d,h=>by
  show (zaB xs)[j]?=_
  exact zkY (by simpa using h)
def zt1 (X:Cx):V->List V->Hp->VK->Prop:=fun x vs H Q=>∃ l ws y ad ds d,∃ j:Nat,∃ e,x=.ref l/\vs=[y]/\H l=some (.lst ws)/\zK X.K ad H ds ws/\Rel X.K ad H d y/\ds.all (fl 20)=true/\fl 20 d=true/\ds[j]?=some e/\eqv e d=true/\(∀ (m:Nat) e',m<j->ds[m]?=some e'->eqv e' d=false)/\Q (.int (j:Nat)) H
theorem zrh {k:Nat}(hr:zaT k X.A):MtR X "list.index" (zt1 X):=by
 intro pins s U H x vs v us Q I rx rv h
 obtain⟨l,ws,y,ad,ds,d,j,e,rfl,rfl,hH,r,ry,fds,fd,hj,he,hno,q⟩:=h
 cases rx
 obtain⟨u,rfl,ru⟩:=rv.one
 obtain⟨hz,its,n,rr,hl,ho⟩:=I.lstM hH
 obtain⟨as,ra⟩:=zeG I 20 (zcb I 20) _ _ _ fds r rr
 obtain⟨bs,rb⟩:=zcb I 20 d y u fd ry ru
 obtain⟨c1,d1⟩:=zdy 20 ds fds
 obtain⟨c2,d2⟩:=zfG 20 d fd
 have hlen:=r.length
 have hu:=hr.units
 have hjl:j<its.length:=by
  have:=My.zbb hj
  omega
 have hm:=SeqAt.readsAll_map (zaB ds) _ _ c1 ra
 have rd:∀ (m:Nat) (hm':m<its.length) e',ds[m]?=some e'->PyData.eqv (SeqAt.readOf s.heap its[m]) (pyD d)=eqv e' d:=fun m hm' e' h'=>by
  have h1:(its.map (SeqAt.readOf s.heap))[m]?=some (pyD e'):=by rw [hm];exact zkY h'
  rw [qh,qb hm'] at h1
  have h2:SeqAt.readOf s.heap its[m]=pyD e':=by simpa using h1
  rw [h2]
  have fe:fl 20 e'=true:=List.all_eq_true.mp fds e' (qd h')
  exact zj0 20 e' d fe fd
 refine call_meets F.slot_list_index ⟨_,ho,rfl⟩ F.entry_list_index (F.args_list_index_2 _ _)
  (SeqAt.list_indexAt l its.toArray n none #[] u (fun z=>PyData.eqv (SeqAt.readOf s.heap z) (pyD d)) j (by rw [qi];exact hjl) (by rw [sizeLine_eq] at hz;omega) ?_ ?_) ⟨ho,SeqAt.items_eqAt (vs:=its.toArray) (by simpa using ra) rb c1 c2 ?_,?_⟩
 ·exact (rd j hjl e hj).trans he
 ·intro m hm1 hm2
  have hm3:m<its.length:=by simpa using hm1
  have hml:m<ds.length:=by omega
  exact (rd m hm3 _ (qb hml)).trans (hno m _ hm2 (qb hml))
 ·show X.A.units+1+min (PyData.depthAll (zaB ds)) (pyD d).depth<cLine
  omega
 ·exact⟨.int (j:Nat),H,I.tok _,⟨_,rfl⟩,q⟩
theorem zr7 {k:Nat}(hr:zaT k X.A):MD X "list.index" zmX:=⟨_,zrh hr,fun ad H S x ds v vs Q0 Q st rx r ⟨n,xs,y,j,e,ex,ey,hn,f,g,hl,hj,h1,h2,q⟩ kk=>by
 subst ex ey
 obtain⟨u,rfl,ru⟩:=zb7 r
 cases rx with
 | ref ea =>
  obtain⟨ws,hw,rw⟩:=st.cell n _ _ ea hn
  exact⟨_,ws,u,ad,xs,y,j,e,rfl,rfl,hw,rw,ru,f,g,hj,h1,h2,kk _ S _ H ad q Wd.refl st (.int _)⟩⟩
theorem zK.upto {K:PySem.W.Frag}{ad:List Addr}{H:Hp}(i:Int)(n:Nat):zK K ad H (upto i n) (((List.range n).map fun k:Nat=>i+(k:Int)).map V.int):=by
 unfold Dp.upto
 rw [qM]
 induction List.range n with
 | nil=>exact .nil
 | cons k ks ih=>exact .cons (.int _) ih
theorem zsS {a b:Expr}{t:DA}{p1 p2 pos1 pos2:Pos}(hgl:Gl X "list")(hml:X.mg "list"=none)(hgr:Gl X "range")(hmr:X.mg "range"=none)(ha:PAD X [a,b] t)(hc:X.calm=true:=by rfl)(h1:isStar a=false:=by rfl)(h2:isStar b=false:=by rfl) :
  PD X (.Call (.Name "list" p1) [.Call (.Name "range" p2) [a,b] [] pos2] [] pos1) (dB zol t):=by with_unfolding_all exact (zbf (zoH hc hgl hml hgr hmr ha (zjf h1 h2) (zdY h2)) fun U H Q hh=>el8 hh fun ad Z S Q0 st rh q k =>
 ⟨ad,Z,S,_,st,rh,q,fun ds S1 vs H1 ad1 ⟨i,j,e,hl,q1⟩ w1 st1 r1=>by
  subst e
  obtain⟨u,w,rfl,ru,rw'⟩:=zhU r1
  cases ru
  cases rw'
  exact⟨i,j,rfl,hl,fun l hl'=>zfE st1 (k.wd w1) (zK.upto i _) q1 l hl'⟩⟩)
end
section
variable {K:PySem.W.Frag}{ad:List Addr}{H:Hp}{S:Sto}[B:Bs]
end
section
variable {X:Cx}{a b c:Expr}{td ti tz tv:DE}{pos apos cpos:Pos}[B:Bs]
end
structure FH (K:PySem.W.Frag)(n:Str)(st:Stmt)(f:Addr)(fd:FuncData):Prop where
 a:PySem.W.nsIn K mainGlobals n=some (some (.ref f))
 F:Fun K n n st f fd
section
variable {K:PySem.W.Frag}{n:Str}{st:Stmt}{f:Addr}{fd:FuncData}{mg:Str->Option Value}{k:Nat}{h:Heap}{ps:List Str}{sp:Sp}
theorem zwk {oc:Value}{od an:Option Addr}{osl:Array (Option Value)}{kV doc pm cdv ct:Value}(a:PySem.W.nsIn K mainGlobals n=some (some (.ref f)))
  (l:K.lookup f=some ⟨oc,od,.func (PySem.W.fnOf n n (zbX st) (zbk st) (zJ st) .none kV doc pm an cdv ct),osl⟩) (c:PySem.W.codeIn K cdv n=true) (k:PySem.W.keepIn K (.ref f)=true) :
  FH K n st f (PySem.W.fnOf n n (zbX st) (zbk st) (zJ st) .none kV doc pm an cdv ct):=⟨a,zjt l c k⟩
theorem zab (P:Program)(w:World)(base:Heap)(X:K.In h)(G:h.Ns mainGlobals mg)(H:FH K n st f fd)(ok:zaa P w K mg base CX0 k f fd ps sp)
  (b:∀ (kV doc pm:Value) (an:Option Addr) (cdv ct:Value) (us:List Value),us.length=ps.length->bindArgs (PySem.W.fnOf n n (zbX st) (zbk st) (zJ st) .none kV doc pm an cdv ct) ⟨us,[]⟩=pure (ps.zip us):=by intro _ _ _ _ _ _ us hl;first | (obtain⟨_,e⟩:=zsc hl;subst e;rfl) | (obtain⟨_,_,e⟩:=zo0 hl;subst e;rfl) | (obtain⟨_,_,_,e⟩:=zsB hl;subst e;rfl) | (obtain⟨_,_,_,_,e⟩:=zse hl;subst e;rfl) | (obtain⟨_,_,_,_,_,e⟩:=zss hl;subst e;rfl) | (obtain⟨_,_,_,_,_,_,e⟩:=len_6 hl;subst e;rfl) | (obtain⟨_,_,_,_,_,_,_,e⟩:=len_7 hl;subst e;rfl)):Got P w K mg base k n ps sp:=⟨⟨f,fd,ok,H.F.binds b,H.F.kp,PySem.W.mg_of X G H.a⟩⟩
theorem zeP (P:Program)(w:World)(base:Heap)(X:K.In h)(G:h.Ns mainGlobals mg)(H:FH K n st f fd)(ok:zaa P w K mg base (CXd P w) k f fd ps sp)
  (b:∀ (kV doc pm:Value) (an:Option Addr) (cdv ct:Value) (us:List Value),us.length=ps.length->bindArgs (PySem.W.fnOf n n (zbX st) (zbk st) (zJ st) .none kV doc pm an cdv ct) ⟨us,[]⟩=pure (ps.zip us):=by intro _ _ _ _ _ _ us hl;first | (obtain⟨_,e⟩:=zsc hl;subst e;rfl) | (obtain⟨_,_,e⟩:=zo0 hl;subst e;rfl) | (obtain⟨_,_,_,e⟩:=zsB hl;subst e;rfl) | (obtain⟨_,_,_,_,e⟩:=zse hl;subst e;rfl) | (obtain⟨_,_,_,_,_,e⟩:=zss hl;subst e;rfl) | (obtain⟨_,_,_,_,_,_,e⟩:=len_6 hl;subst e;rfl) | (obtain⟨_,_,_,_,_,_,_,e⟩:=len_7 hl;subst e;rfl)):zgW P w K mg base k n ps sp:=⟨⟨f,fd,ok,H.F.binds b,H.F.kp,PySem.W.mg_of X G H.a⟩⟩
end
section
variable {X:Cx}
theorem zj [B:Bs](i:Nat){x:Str}{pos:Pos}(hN:X.N[i]?=some x:=by rfl)(hv:L2.Vis X.env.scope x:=by first | exact Or.inl rfl | exact Or.inr (Or.inl rfl) | exact Or.inr (Or.inr rfl))(hd:(x==("__debug__":Str))=false:=by decide)(hcd:(x==("__classdict__":Str))=false:=by decide):PD X (.Name x pos) (zf i):=by with_unfolding_all exact (zuL (zuB hN hv hd hcd))
theorem zW {N P:List Str}{sc:Scope}(h1:sc.kind=.function:=by rfl)(h2:sc.isCoroutine=false:=by rfl)(h3:sc.isGenerator=false:=by rfl)(h4:N.Nodup:=by decide +kernel)(h5:N.take P.length=P:=by rfl)(h6:∀ x∈P,sc.names.lookup x=some .local\/sc.names.lookup x=some .cell:=by decide +kernel)(h7:∀ y∈sc.names,y.2≠.free:=by decide +kernel):zQ N P sc:=⟨h1,h2,h3,h4,h5,h6,h7⟩
end
section
variable {X:Cx}{a b c:Expr}{ta tb:DE}{td ti tz tv:DE}{pos apos cpos:Pos}[B:Bs]
end
section
variable {X:Cx}{a b:Expr}{ta tb:DE}{pos apos cpos:Pos}[B:Bs]
end
section
variable {X:Cx}{a b:Expr}{ta tb:DE}{pos apos cpos:Pos}[B:Bs]
end
end Dp
open PySem Dp
local macro_rules | `(tactic| walk_at "dat")=>`(tactic| first | assumption | exact zaz | exact zkJ | (refine (zbQ _ _ _).trans ?_;exact rfl) | exact zay (by assumption))
local macro_rules | `(tactic| walk_at "dlat")=>`(tactic| first | assumption | exact Lst.rl | exact Lst.at0 | exact Lst.new | (refine Lst.at ?_;exact rfl) | exact Lst.old (by assumption) | exact Lst.here (by assumption) | exact Lst.here (zay (by assumption)))
local macro_rules | `(tactic| walk_at "dseq")=>`(tactic| first | exact Or.inl rfl | (refine Or.inr ?_;walk_at "dlat"))
local macro_rules | `(tactic| walk_at "dbd")=>`(tactic| first | assumption | exact My.Bd.mono (by assumption) (by decide) | exact My.Bd.lit (by decide) (by decide) | (refine My.Bd.add ?_ ?_<;>walk_at "dbd") | (refine My.Bd.sub ?_ ?_<;>walk_at "dbd") | (refine My.Bd.neg ?_;walk_at "dbd") | (refine My.Bd.mulH ?_ ?_<;>walk_at "dbd") | (refine My.Bd.emod (by omega) ?_;walk_at "dbd") | (refine My.Bd.ediv ?_;walk_at "dbd"))
local macro_rules | `(tactic| walk_at "dmul")=>`(tactic| first | assumption | exact Or.inr (Or.inl (by omega)) | exact Or.inr (Or.inr (by omega)) | exact Or.inl ⟨by walk_at "dbd",by walk_at "dbd"⟩)
local macro_rules | `(tactic| walk_at "ddiv")=>`(tactic| first | assumption | exact⟨by omega,by walk_at "dbd"⟩)
local macro_rules | `(tactic| walk_at "dr1")=>`(tactic| with_reducible first|refine zvl ?_|refine zwa ?_|refine zuY ?_|refine zw0 ?_|refine zxB ?_)
local macro_rules | `(tactic| walk_at "dr1")=>`(tactic| first|((with_reducible refine zw2 (xs:=?rvx) ?rvl ?_);(case rvl=>walk_at "dlat")))
local macro_rules | `(tactic| walk_at "dr1")=>`(tactic| with_reducible first|refine zmt ?_|refine zoD ?_|refine zwJ ?_|refine zsj ?_|refine zxh ?_|refine zqK ?_|refine zvt ?_|refine zxx ?_|refine zwf ?_)
local macro_rules | `(tactic| walk_at "dr1")=>`(tactic| first|((with_reducible refine zu2 (xs:=?rvx) ?rvl ?_);(case rvl=>walk_at "dlat"))|((with_reducible refine zwB (a:=?rvv) ?rvk ?_);(case rvk=>exact rfl))|((with_reducible refine zq4 (xs:=?rvx) ?rvk ?rvl ?_);(case rvk=>walk_at "dat");(case rvl=>first | exact Nat.lt_of_ble_eq_true rfl | assumption | (simp only [big,qe,List.length_cons,List.length_nil,qa] at *;omega))))
local macro_rules | `(tactic| walk_at "dr1")=>`(tactic| with_reducible first|refine zuj ?_)
local macro_rules | `(tactic| walk_at "dr1")=>`(tactic| with_reducible first|refine zvc ?_|refine zpY ?_|refine zxi ?_|refine zw6 ?_|refine zvJ ?_|refine zve ?_|refine zta ?_|refine zx9 ?_|refine zsD ?_|refine zyd ?_|refine zuk ?_|refine zvQ ?_)
local macro_rules | `(tactic| walk_at "dr1")=>`(tactic| first|((with_reducible refine zu9 ?rvk ?_);(case rvk=>exact rfl)))
local macro_rules | `(tactic| walk_at "dr1")=>`(tactic| with_reducible first|refine zlk ?_|refine zkm ?_|refine zlu ?_|refine zj3 ?_|refine zuR ?_|refine ztr ?_)
local macro_rules | `(tactic| walk_at "dr1")=>`(tactic| first|((with_reducible refine zr0 (xs:=?rvx) ?rvl ?_);(case rvl=>walk_at "dlat"))|((with_reducible refine ztj (xs:=?rvx) ?rvl ?_);(case rvl=>walk_at "dlat")))
local macro_rules | `(tactic| walk_at "dr1")=>`(tactic| with_reducible first|refine zvw ?_)
local macro_rules | `(tactic| walk_at "dr1")=>`(tactic| first|((with_reducible refine zvC (xs:=?rvx) ?rvl ?_);(case rvl=>walk_at "dlat")))
local macro_rules | `(tactic| walk_at "dr1")=>`(tactic| with_reducible first|refine zxp ?_|refine zwT ?_|refine zxd ?_|refine zwE ?_|refine zxj ?_|refine zii ?_|refine zsa ?_|refine zfP ?_|refine zwO ?_|refine zut ?_|refine zuA ?_|refine zvU ?_)
local macro_rules | `(tactic| walk_at "dr1")=>`(tactic| first|((with_reducible refine zxq (ys:=?rvx) ?rvk ?_);(case rvk=>walk_at "dat")))
local macro_rules | `(tactic| walk_at "dr1")=>`(tactic| with_reducible first|refine zul ?_|refine ztf ?_|refine r_b ?_|refine r_m ?_)
local macro_rules | `(tactic| walk_at "dr1")=>`(tactic| first|((with_reducible refine zsk ?rvk ?_);(case rvk=>exact rfl)))
local macro_rules | `(tactic| walk_at "dr1")=>`(tactic| with_reducible first|refine zsq ?_|refine zsf ?_)
local macro_rules | `(tactic| walk_at "dr1")=>`(tactic| with_reducible first|refine r_t ?_|refine zxX ?_|refine zwh ?_|refine zwL ?_|refine zx8 ?_|refine zwS ?_|refine zxt ?_|refine zv1 ?_|refine zvZ ?_|refine zt7 ?_|refine zsi ?_|refine zl2 ?_)
local macro_rules | `(tactic| walk_at "dr1")=>`(tactic| first|((with_reducible refine zxe ?rvk ?_);(case rvk=>walk_at "dmul"))|((with_reducible refine zwP ?rvk ?_);(case rvk=>walk_at "ddiv"))|((with_reducible refine zwD ?rvk ?_);(case rvk=>first | omega | assumption))|((with_reducible refine zw1 (d:=?rvv) ?rvk ?_);(case rvk=>first | assumption | exact rfl))|((with_reducible refine ziI (xs:=?rvx) (d:=?rvv) ?rvl ?rvk ?_);(case rvl=>walk_at "dlat");(case rvk=>first | assumption | exact rfl)))
local macro_rules | `(tactic| walk_at "dr1")=>`(tactic| with_reducible first|refine zwo ?_)
local macro_rules | `(tactic| walk_at "dr1")=>`(tactic| with_reducible first|refine r_c ?_|refine zoN ?_|refine zyn ?_|refine zwN ?_|refine zwn ?_|refine zwK ?_|refine zxK ?_|refine zxT ?_|refine zxI ?_|refine zyo ?_|refine zw8 ?_|refine zxc ?_)
local macro_rules | `(tactic| walk_at "dr1")=>`(tactic| first|((with_reducible refine zhl (d:=?rvv) ?rvk ?_);(case rvk=>exact rfl)))
local macro_rules | `(tactic| walk_at "dr1")=>`(tactic| with_reducible first|refine zxF ?_|refine zoa ?_)
local macro_rules | `(tactic| walk_at "dr1")=>`(tactic| first|((with_reducible refine ztg (g:=?rv1) (b:=?rv2) (f:=?rv3) (h:=?rv4) (a:=?rv5) (l:=?rv6) (d:=?rv7) ?rvk ?_);(case rvk=>walk_at "dat"))|((with_reducible refine zva (g:=?rv1) (b:=?rv2) (f:=?rv3) (h:=?rv4) (a:=?rv5) (l:=?rv6) (d:=?rv7) ?rvk ?_);(case rvk=>walk_at "dat"))|((with_reducible refine ztp (g:=?rv1) (b:=?rv2) (f:=?rv3) (h:=?rv4) (a:=?rv5) (l:=?rv6) (d:=?rv7) ?rvk ?_);(case rvk=>walk_at "dat")))
local macro_rules | `(tactic| walk_at "dr1")=>`(tactic| first|((with_reducible refine zxA (l:=?rvx) ?rvk ?_);(case rvk=>walk_at "dat"))|((with_reducible refine zrE (g:=?rv1) (b:=?rv2) (f:=?rv3) (h:=?rv4) (a:=?rv5) (l:=?rv6) (d:=?rv7) ?rvk ?_);(case rvk=>walk_at "dat"))|((with_reducible refine zpO (g:=?rv1) (b:=?rv2) (f:=?rv3) (h:=?rv4) (a:=?rv5) (l:=?rv6) (d:=?rv7) ?rvk ?_);(case rvk=>walk_at "dat"))|((with_reducible refine zu7 (g:=?rv1) (b:=?rv2) (f:=?rv3) (h:=?rv4) (a:=?rv5) (l:=?rv6) (d:=?rv7) ?rvk ?_);(case rvk=>walk_at "dat"))|((with_reducible refine zvE (g:=?rv1) (b:=?rv2) (f:=?rv3) (h:=?rv4) (a:=?rv5) (l:=?rv6) (d:=?rv7) ?rvk ?_);(case rvk=>walk_at "dat")))
local macro_rules | `(tactic| walk_at "dr1")=>`(tactic| with_reducible first|refine zo6 ?_|refine zvR ?_|refine zwi ?_|refine zuE ?_|refine zst ?_|refine zsJ ?_|refine zuQ ?_|refine zsu ?_|refine zvK ?_|refine zw4 ?_)
local macro_rules | `(tactic| walk_at "g")=>`(tactic| repeat walk_at "dr1")
local macro_rules | `(tactic| walk_at "drho")=>`(tactic| simp only [zfa,List.map_cons,List.map_nil,List.length_cons,List.length_nil,Nat.reduceSub,Nat.reduceAdd,List.replicate,List.cons_append,List.nil_append,List.set_cons_zero,List.set_cons_succ])
local macro_rules | `(tactic| walk_at "drho2")=>`(tactic| simp only [List.set_cons_zero,List.set_cons_succ])
namespace Dp
open PySem Rm My
def zcU:DSp:=fun ds S Q=>∃ (ns:List Int) (k:Int),ds=[.rl (ns.map D.int),.int k]/\(∀ n∈ns,Hg n)/\0<=k/\∀ v,Hg v->Q (.int v) S
def zhe:DS :=
    (zH (sIf (dT (dOp oLt (zf 1) (dB zaH (zm (zf 0) zB)))) (zY (dOp oIx (zf 0) (zf 1))) zZ)
 (zY (dC (.int 0))))
theorem zoE:∀ ds So Q,zcU ds So Q->ds.length=2:=by rintro ds So Q ⟨_,_,rfl,_⟩;rfl
theorem zqL:BodyOk 2 zhe zcU:=by
 rintro ds S Q ⟨ns,k,rfl,hg,k0,q⟩
 unfold zhe
 walk_at "g"
 rw [qa]
 refine r_d (fun h=>?_) (fun h=>?_)
 ·obtain⟨z,hz,az⟩:=ze9 (zs:=ns) k0 h
  walk_at "g"
  exact fin_same (q z (hg z hz))
 ·walk_at "g"
  exact fin_same (q 0 (Hg.of (n:=1) (by show (0:Int).natAbs<2 ^ 1;decide) (by decide)))
def zrt (c k:Int):Int:=(c%1000000000000000000000000000000000000000000000000000000000000+7907*k+1)*271828182845904523536028747135266249775*((c%1000000000000000000000000000000000000000000000000000000000000+7907*k+1)*271828182845904523536028747135266249775)%618970019642690137449562111
def zgg (c k s:Int):Int:=(zrt c k+104729*(k+1))*zrt c k%618970019642690137449562111/8%s
def zP:DSp:=fun ds S Q=>∃ (c k s:Int),ds=[.int c,.int k,.int s]/\0<=k/\k<1000/\0<s/\∀ v,0<=v->v<s->v=zgg c k s->Q (.int v) S
def zf5:DS :=
    (zH (zO (dC (.int 618970019642690137449562111)) (zE 3))
 (zH (zO (dOp zax (dOp zae (dOp zae (dOp oMod (zf 0) (dC (.int 1000000000000000000000000000000000000000000000000000000000000))) (dOp zax (dC (.int 7907)) (zf 1))) (dC (.int 1))) (dC (.int 271828182845904523536028747135266249775))) (zE 4))
 (zH (zO (dOp oMod (dOp zax (zf 4) (zf 4)) (zf 3)) (zE 5))
 (zH (zO (dOp oMod (dOp zax (dOp zae (zf 5) (dOp zax (dC (.int 104729)) (dOp zae (zf 1) (dC (.int 1))))) (zf 5)) (zf 3)) (zE 5))
 (zY (dOp oMod (dOp oDiv (zf 5) (dC (.int 8))) (zf 2)))))))
theorem znj:∀ ds So Q,zP ds So Q->ds.length=3:=by rintro ds So Q ⟨_,_,_,rfl,_⟩;rfl
theorem zpn:BodyOk 6 zf5 zP:=by
 rintro ds S Q ⟨c,k,s,rfl,h0,hk,hs,q⟩
 unfold zf5
 have b1:My.Bd 300 (c%1000000000000000000000000000000000000000000000000000000000000+7907*k+1):=by
  have h1:=Int.emod_nonneg c (b:=1000000000000000000000000000000000000000000000000000000000000) (by decide)
  have h2:=Int.emod_lt_of_pos c (b:=1000000000000000000000000000000000000000000000000000000000000) (by decide)
  show _<2 ^ 300
  omega
 have b2:My.Bd 200 (271828182845904523536028747135266249775:Int):=My.Bd.lit (by decide) (by decide)
 have b3:=My.Bd.mul b1 b2
 have cm1:zat (c%1000000000000000000000000000000000000000000000000000000000000+7907*k+1) 271828182845904523536028747135266249775:=.inl ⟨b1.mono (by decide),b2.mono (by decide)⟩
 generalize hb:c%1000000000000000000000000000000000000000000000000000000000000+7907*k+1=u at *
 have cm2:zat (u*271828182845904523536028747135266249775) (u*271828182845904523536028747135266249775):=.inl ⟨b3.mono (by decide),b3.mono (by decide)⟩
 walk_at "g"
 rw [hb]
 walk_at "g"
 have b4:My.Bd 200 (u*271828182845904523536028747135266249775*(u*271828182845904523536028747135266249775)%618970019642690137449562111):=My.Bd.emod (by decide) (My.Bd.lit (by decide) (by decide))
 generalize hm:u*271828182845904523536028747135266249775*(u*271828182845904523536028747135266249775)%618970019642690137449562111=m at *
 have b5:My.Bd 200 (104729*(k+1)):=by
  show _<2 ^ 200
  omega
 have cm3:zat (m+104729*(k+1)) m:=.inl ⟨(My.Bd.add b4 b5).mono (by decide),b4.mono (by decide)⟩
 walk_at "g"
 exact fin_same (q _ (Int.emod_nonneg _ (by omega)) (Int.emod_lt_of_pos _ (by omega)) (by unfold zgg zrt;rw [hb,hm]))
def zdc:DSp:=fun ds S Q=>∃ (c k nr:Int) (far:Bool),ds=[.int c,.int k,.int nr,.bl far]/\Hg c/\0<=k/\k<900/\0<nr/\nr<1000/\∀ v:Int,-(5*10 ^ 49)<=v->v<5*10 ^ 49->Q (.int v) S
def zge:DS :=
    (zH (sIf (dT (zf 3)) (zY (dOp zah (dOp oMod (dOp zax (dOp zax (zf 0) (dC (.int 1422907482840247632891030073750636927810831))) (dOp zae (zf 1) (dC (.int 2)))) (dC (.int 100000000000000000000000000000000000000000000000000))) (dOp zax (dC (.int 5)) (dC (.int 10000000000000000000000000000000000000000000000000))))) zZ)
 (zY (dCall zP (zm (zf 0) (zm (zf 1) (zm (zf 2) zB))))))
theorem znd:∀ ds So Q,zdc ds So Q->ds.length=4:=by rintro ds So Q ⟨_,_,_,_,rfl,_⟩;rfl
theorem zoq:BodyOk 4 zge zdc:=by
 rintro ds S Q ⟨c,k,nr,far,rfl,hc,k0,k1,n0,n1,q⟩
 unfold zge
 cases far with
 | true =>
  walk_at "g"
  refine zqG hc (Hg.of (n:=200) (by show _<2 ^ 200;decide) (by decide)) ?_
  generalize c*1422907482840247632891030073750636927810831=u
  have cm:zat u (k+2):=.inr (.inr (by omega))
  walk_at "g"
  have r1:=Int.emod_nonneg (u*(k+2)) (show (100000000000000000000000000000000000000000000000000:Int)≠0 by decide)
  have r2:=Int.emod_lt_of_pos (u*(k+2)) (show (0:Int)<100000000000000000000000000000000000000000000000000 by decide)
  exact fin_same (q _ (by omega) (by omega))
 | false =>
  walk_at "g"
  refine⟨c,k,nr,rfl,k0,by omega,n0,fun v v0 v1 _=>?_⟩
  exact fin_same (q v (by omega) (by omega))
def zcj:DSp:=fun ds S Q=>∃ (c n:Int) (far:Bool),ds=[.int c,.int n,.bl far]/\Hg c/\2<=n/\n<=40/\∀ cs:List (Int×Int),(cs.length:Int)=n->Grd cs->(∀ c∈cs,Bd 169 c.1/\Bd 169 c.2)->New Q S (cs.map p2)
def zdK:DS :=
    (zH (zO (zbc zB) (zE 3))
 (zH (zO (dOp zah (dCall zdc (zm (zf 0) (zm (dC (.int 0)) (zm (dC (.int 9)) (zm (zf 2) zB))))) (dC (.int 9))) (zE 4))
 (zH (za2 (zbA (zm (zf 1) zB)) (zE 5) (zH (zO (dCall zP (zm (zf 0) (zm (dOp zae (dOp zax (dC (.int 2)) (zf 5)) (dC (.int 1))) (zm (dC (.int 9)) zB)))) (zE 6))
 (zH (sJ (sIf (zdR (dT (zf 2)) (dT (dOp oEq (dOp oMod (zf 5) (dC (.int 3))) (dC (.int 1))))) (zO (dCall zdc (zm (zf 0) (zm (zf 5) (zm (dC (.int 9)) (zm (zf 2) zB))))) (zE 6)) zZ))
 (zH (zbn (dM zcI (zf 3) (zm (dTup (zm (zf 4) (zm (zf 6) zB))) zB)))
 (zH (zO (dOp zae (dC (.int 1)) (dCall zP (zm (zf 0) (zm (dOp zae (dOp zax (dC (.int 2)) (zf 5)) (dC (.int 2))) (zm (dC (.int 7)) zB))))) (zE 7))
 (zH (sJ (sIf (zdR (dT (zf 2)) (dT (dOp oEq (dOp oMod (zf 5) (dC (.int 2))) (dC (.int 0))))) (zO (dOp zae (dC (.int 1)) (dOp oMod (dOp zax (dOp zax (zf 0) (dC (.int 7928331467292760530673834318599741))) (dOp zae (zf 5) (dC (.int 3)))) (dC (.int 1000000000000000000000000000000000000000000000000)))) (zE 7)) zZ))
 (zO (dOp zae (zf 4) (zf 7)) (zE 4))))))))
 (zY (zf 3)))))
theorem zkb:∀ ds So Q,zcj ds So Q->ds.length=3:=by rintro ds So Q ⟨_,_,_,rfl,_⟩;rfl
theorem zkU:BodyOk 8 zdK zcj:=by
 rintro ds S Q ⟨c,n,far,rfl,hc,n0,n1,q⟩
 unfold zdK
 walk_at "g"
 refine⟨c,0,9,far,rfl,hc,by decide,by decide,by decide,by decide,fun v0 v1 v2=>?_⟩
 walk_at "g"
 walk_at "drho"
 refine⟨n,rfl,by omega,by omega,?_⟩
 refine zaw (fun i Z S'=>∃ (cs:List (Int×Int)) (pl:Int) (w5 w6 w7:Option D),S'=S++[.lst (cs.map p2)]/\Z=[some (.int c),some (.int n),some (.bl far),some (.ref S.length),some (.int pl),w5,w6,w7]/\cs.length=i/\cs.Pairwise (fun a b=>a.1<b.1)/\(∀ x∈cs,x.1<pl/\-(6*10 ^ 49)<=x.1/\Bd 169 x.2)/\v0-9<=pl/\pl<=v0-9+i*(10 ^ 48)) ⟨[],v0-9,none,none,none,rfl,rfl,rfl,.nil,by simp,by omega,by omega⟩ (fun _ _ _ _=>True.intro) ?_ ?_
 ·rintro i d Z S' hd ⟨cs,pl,w5,w6,w7,rfl,rfl,hl,asc,hcs,p0,p1⟩
  obtain⟨hi,rfl⟩:=zaX hd
  have cm1:zat 2 (0+(i:Int)):=.inr (.inl (by decide))
  walk_at "g"
  refine⟨c,_,9,rfl,by omega,by omega,by decide,fun m m0 m1 _=>?_⟩
  walk_at "g"
  refine r_J (fun Z S'=>S'=S++[.lst (cs.map p2)]/\∃ hh:Int,Bd 169 hh/\Z=[some (.int c),some (.int n),some (.bl far),some (.ref S.length),some (.int pl),some (.int (0+(i:Int))),some (.int hh),w7]) ?_ ?_
  ·have b0:Bd 169 m:=by show _<2 ^ 169;omega
   walk_at "g"
   cases far with
   | true =>
    walk_at "g"
    refine r_d (fun _=>?_) (fun _=>?_)
    ·walk_at "g"
     refine⟨c,_,9,true,rfl,hc,by omega,by omega,by decide,by decide,fun u u0 u1=>?_⟩
     walk_at "g"
     exact⟨rfl,u,by show _<2 ^ 169;omega,rfl⟩
    ·walk_at "g"
     exact⟨rfl,m,b0,rfl⟩
   | false =>
    walk_at "g"
    exact⟨rfl,m,b0,rfl⟩
  rintro Z S' ⟨rfl,hh,bh,rfl⟩
  have hlim:(cs.map p2).length<big:=by rw [qa];unfold big;omega
  walk_at "g"
  refine⟨c,_,7,rfl,by omega,by omega,by decide,fun m' m0' m1' _=>?_⟩
  walk_at "g"
  refine r_J (fun Z S'=>S'=S++[.lst (cs.map p2++[p2 (pl,hh)])]/\∃ wd:Int,1<=wd/\wd<=10 ^ 48/\Z=[some (.int c),some (.int n),some (.bl far),some (.ref S.length),some (.int pl),some (.int (0+(i:Int))),some (.int hh),some (.int wd)]) ?_ ?_
  ·walk_at "g"
   cases far with
   | true =>
    walk_at "g"
    refine r_d (fun _=>?_) (fun _=>?_)
    ·walk_at "g"
     refine zqG hc (Hg.of (n:=200) (by show _<2 ^ 200;decide) (by decide)) ?_
     generalize c*7928331467292760530673834318599741=u
     have cm:zat u (0+(i:Int)+3):=.inr (.inr (by omega))
     walk_at "g"
     have r1:=Int.emod_nonneg (u*(0+(i:Int)+3)) (show (1000000000000000000000000000000000000000000000000:Int)≠0 by decide)
     have r2:=Int.emod_lt_of_pos (u*(0+(i:Int)+3)) (show (0:Int)<1000000000000000000000000000000000000000000000000 by decide)
     exact⟨rfl,_,by omega,by omega,rfl⟩
    ·walk_at "g"
     exact⟨rfl,_,by omega,by omega,rfl⟩
   | false =>
    walk_at "g"
    exact⟨rfl,_,by omega,by omega,rfl⟩
  rintro Z S' ⟨rfl,wd,d0,d1,rfl⟩
  walk_at "g"
  refine⟨cs++[(pl,hh)],pl+wd,_,_,_,by rw [qr];rfl,rfl,by simp [hl],?_,?_,by omega,by omega⟩
  ·rw [List.pairwise_append]
   refine⟨asc,List.pairwise_singleton _ _,fun a ha b hb=>?_⟩
   have:b=(pl,hh):=by simpa using hb
   subst this
   exact (hcs a ha).1
  ·intro x hx
   rcases qu.mp hx with hx | hx
   ·obtain⟨a1,a2,a3⟩:=hcs x hx
    exact⟨by omega,a2,a3⟩
   ·have:x=(pl,hh):=by simpa using hx
    subst this
    exact⟨by show pl<pl+wd;omega,by show -(6*10 ^ 49)<=pl;omega,bh⟩
 ·rintro Z S' ⟨cs,pl,w5,w6,w7,rfl,rfl,hl,asc,hcs,p0,p1⟩
  rw [zas] at hl p1
  walk_at "g"
  have hb:∀ x∈cs,Bd 169 x.1/\Bd 169 x.2:=fun x hx=>by
   obtain⟨a1,a2,a3⟩:=hcs x hx
   exact⟨by show _<2 ^ 169;omega,a3⟩
  refine fin_same (q cs (by omega) ⟨by omega,by omega,asc,fun x hx=>⟨(hb x hx).1.mono (by decide),(hb x hx).2.mono (by decide)⟩⟩ hb)
def zcA:DSp:=fun ds S Q=>∃ (ns:List Int) (st most:Int),ds=[.rl (ns.map D.int),.int st,.int most]/\ns.length<=63/\0<=st/\0<most/\most<60/\∀ zs:List Int,(zs.length:Int)<=most->(∀ z∈zs,0<=z/\z<10 ^ 60)->New Q S (zs.map D.int)
def zeu:DS :=
    (zH (zO (zbc zB) (zE 3))
 (zH (za2 (zlI (zm (zf 1) (zm (dB zaH (zm (zf 0) zB)) zB))) (zE 4) (sIf (dT (dOp oLt (dB zaH (zm (zf 3) zB)) (zf 2))) (zbn (dM zcI (zf 3) (zm (dOp oMod (dOp oIx (zf 0) (zf 4)) (dC (.int 1000000000000000000000000000000000000000000000000000000000000))) zB))) (zH (zO (dOp zae (dOp zax (dOp oIx (zf 3) (dOp oMod (zf 4) (zf 2))) (dC (.int 10007))) (dOp oMod (dOp oIx (zf 0) (zf 4)) (dC (.int 1000000000000000000000000000000000000000000000000000000000000)))) (zE 5))
 (zO (dOp oMod (zf 5) (dC (.int 1000000000000000000000000000000000000000000000000000000000000))) (zeI (zf 3) (dOp oMod (zf 4) (zf 2)))))))
 (zY (zf 3))))
theorem zkk:∀ ds So Q,zcA ds So Q->ds.length=3:=by rintro ds So Q ⟨_,_,_,rfl,_⟩;rfl
theorem zlt:BodyOk 6 zeu zcA:=by
 rintro ds S Q ⟨ns,st,most,rfl,hl,hst,h0,h1,q⟩
 unfold zeu
 walk_at "g"
 refine⟨_,_,rfl,?_⟩
 refine zaw (fun i Z S'=>∃ zs w1 w2,Z=[some (.rl (ns.map D.int)),some (.int st),some (.int most),some (.ref S.length),w1,w2]/\S'=S++[.lst (zs.map D.int)]/\(zs.length:Int)<=most/\∀ z∈zs,0<=z/\z<10 ^ 60)
  ⟨[],none,none,rfl,rfl,by show (0:Int)<=most;omega,by simp⟩ (fun _ _ _ _=>True.intro) ?_ ?_
 ·rintro i d Z S' hd ⟨zs,w1,w2,rfl,rfl,hz,hb⟩
  obtain⟨hi,rfl⟩:=zaX hd
  rw [qa] at hi
  obtain⟨v,_,av⟩:=ze9 (zs:=ns) (k:=st+i) (by omega) (by omega)
  have hv1:=Int.emod_nonneg v (b:=1000000000000000000000000000000000000000000000000000000000000) (by decide)
  have hv2:=Int.emod_lt_of_pos v (b:=1000000000000000000000000000000000000000000000000000000000000) (by decide)
  walk_at "g"
  rw [qa]
  refine r_d (fun g=>?_) (fun g=>?_)
  ·walk_at "g"
   refine⟨zs++[v%1000000000000000000000000000000000000000000000000000000000000],_,_,rfl,by rw [qr];rfl,by rw [qe];show ((zs.length+1:Nat):Int)<=most;omega,fun z hz=>?_⟩
   rcases qu.mp hz with hz | hz
   ·exact hb z hz
   ·have:z=v%1000000000000000000000000000000000000000000000000000000000000:=by simpa using hz
    subst this;exact⟨hv1,by omega⟩
  ·have m1:=Int.emod_nonneg (st+i) (b:=most) (by omega)
   have m2:=Int.emod_lt_of_pos (st+i) (b:=most) (by omega)
   obtain⟨u,hu,au⟩:=ze9 (zs:=zs) (k:=(st+i)%most) m1 (by omega)
   have iu:=zuN (zs:=zs) (k:=(st+i)%most) m1 (by omega)
   walk_at "g"
   refine ze2 zaz iu ?_
   walk_at "g"
   refine⟨zs.set _ _,_,_,rfl,by rw [List.map_set],by simpa using hz,fun z hz'=>?_⟩
   rcases zrk hz' with h | h
   ·exact hb z h
   ·subst h
    exact⟨Int.emod_nonneg _ (by decide),Int.lt_of_lt_of_le (Int.emod_lt_of_pos _ (by decide)) (by decide)⟩
 ·rintro Z S' ⟨zs,w1,w2,rfl,rfl,hz,hb⟩
  walk_at "g"
  exact fin_same (q zs hz hb)
theorem zmL (i:Int)(h0:0<=i)(h1:i<26):atS "abcdefghijklmnopqrstuvwxyz" i=some (97+i.toNat):=by
 have:∀ j:_root_.Fin 26,atS "abcdefghijklmnopqrstuvwxyz" ((j.val:Nat):Int)=some (97+j.val):=by decide +kernel
 have:=this ⟨i.toNat,by omega⟩
 rwa [show ((i.toNat:Nat):Int)=i by omega] at this
def zio (zs:List Str):Prop:=∃ a h b t:Nat,a∈abc/\b∈abc/\h<=3/\t<=4/\zs.Nodup/\∀ z∈zs,∃ c∈abc,z=nmW a h c b t
theorem zio.nm {zs:List Str}(h:zio zs){z:Str}(hz:z∈zs):nmB z=true:=by
 obtain⟨a,h,b,t,ha,hb,h3,h4,_,hs⟩:=h
 obtain⟨c,hc,rfl⟩:=hs z hz
 exact zvd ha hb hc h3 h4
def zcV:DSp:=fun ds S Q=>∃ (c n:Int),ds=[.int c,.int n]/\0<=n/\n<=12/\∀ zs:List Str,(zs.length:Int)=n->zio zs->New Q S (zs.map D.str)
def ze3:DS :=
    (zH (zO (dC (.str "abcdefghijklmnopqrstuvwxyz")) (zE 2))
 (zH (zO (dOp zax (dOp oIx (zf 2) (dCall zP (zm (zf 0) (zm (dC (.int 70)) (zm (dC (.int 26)) zB))))) (dCall zP (zm (zf 0) (zm (dC (.int 71)) (zm (dC (.int 4)) zB))))) (zE 3))
 (zH (zO (dOp zax (dOp oIx (zf 2) (dCall zP (zm (zf 0) (zm (dC (.int 72)) (zm (dC (.int 26)) zB))))) (dCall zP (zm (zf 0) (zm (dC (.int 73)) (zm (dC (.int 5)) zB))))) (zE 4))
 (zY (dLC 1 [3,2,0,4] (zbA (zm (zf 1) zB)) (zE 0) zbI (dOp zae (dOp zae (zf 1) (dOp oIx (zf 2) (dOp oMod (dOp zae (dCall zP (zm (zf 3) (zm (dC (.int 74)) (zm (dC (.int 26)) zB)))) (dOp zax (dC (.int 3)) (zf 0))) (dC (.int 26))))) (zf 4)))))))
theorem zlq:∀ ds So Q,zcV ds So Q->ds.length=2:=by rintro ds So Q ⟨_,_,rfl,_⟩;rfl
theorem zmP:BodyOk 5 ze3 zcV:=by
 rintro ds S Q ⟨c,n,rfl,n0,n1,q⟩
 unfold ze3
 walk_at "g"
 refine⟨c,_,_,rfl,by decide,by decide,by decide,fun m m0 m1 _=>?_⟩
 refine zok (c:=97+m.toNat) (by decide +kernel) (zmL m m0 m1) ?_
 walk_at "g"
 refine⟨c,_,_,rfl,by decide,by decide,by decide,fun h h0 h1 _=>?_⟩
 refine zqC (by show 1<=1000;decide) (by omega) (by omega) ?_
 rw [zmz _ _ h0]
 walk_at "g"
 refine⟨c,_,_,rfl,by decide,by decide,by decide,fun l l0 l1 _=>?_⟩
 refine zok (c:=97+l.toNat) (by decide +kernel) (zmL l l0 l1) ?_
 walk_at "g"
 refine⟨c,_,_,rfl,by decide,by decide,by decide,fun t t0 t1 _=>?_⟩
 refine zqC (by show 1<=1000;decide) (by omega) (by omega) ?_
 rw [zmz _ _ t0]
 walk_at "g"
 refine⟨_,rfl,by omega,by omega,?_⟩
 have ha:97+m.toNat∈abc:=ziw.mpr (by omega)
 have hb:97+l.toNat∈abc:=ziw.mpr (by omega)
 have hq:∀ k:Nat,97+((zgg c 74 26+3*(0+(k:Int)))%26).toNat∈abc:=fun k=>ziw.mpr (by omega)
 refine za5 (fun _=>true) (onI fun k=>.str (nmW (97+m.toNat) h.toNat (97+((zgg c 74 26+3*k)%26).toNat) (97+l.toNat) t.toNat)) True.intro (by rw [zas];unfold big;omega) (fun i d ys hd hw=>?_) ?_
 ·obtain⟨hi,rfl⟩:=zaX hd
  walk_at "g"
  refine⟨c,_,_,rfl,by decide,by decide,by decide,fun u u0 u1 ue=>?_⟩
  subst ue
  have cm:zat 3 (0+(i:Int)):=.inr (.inl (by decide))
  walk_at "g"
  refine zok (c:=97+((zgg c 74 26+3*(0+(i:Int)))%26).toNat) (by decide +kernel) (zmL _ (by omega) (by omega)) ?_
  have lh:(⟨(List.replicate h.toNat (97+m.toNat)).toArray⟩:Str).length=h.toNat:=by show (List.replicate h.toNat (97+m.toNat)).toArray.size=_;simp
  refine zqc (by rw [lh];show h.toNat+1<=big;unfold big;omega) ?_
  rw [show (⟨#[97+((zgg c 74 26+3*(0+(i:Int)))%26).toNat]⟩:Str)=⟨[97+((zgg c 74 26+3*(0+(i:Int)))%26).toNat].toArray⟩ from rfl,zn3]
  walk_at "g"
  refine zqc (by show (List.toArray _).size+(List.toArray _).size<=big;rw [qi,qi,qe,qw,qw];show h.toNat+1+t.toNat<=big;unfold big;omega) ?_
  rw [zn3]
  refine zbZ hd hw rfl ?_
  show _=D.str (nmW _ _ _ _ _)
  unfold nmW
  rw [qF];rfl
 rw [filter_true]
 obtain⟨zs,hzs,hzl,hzg⟩:∃ zs:List Str,(upto 0 n.toNat).map (onI fun k=>D.str (nmW (97+m.toNat) h.toNat (97+((zgg c 74 26+3*k)%26).toNat) (97+l.toNat) t.toNat))=zs.map D.str/\zs.length=n.toNat/\∀ (i:Nat) z,zs[i]?=some z->i<n.toNat/\z=nmW (97+m.toNat) h.toNat (97+((zgg c 74 26+3*(0+(i:Int)))%26).toNat) (97+l.toNat) t.toNat:=by
  refine⟨(List.range n.toNat).map fun k:Nat=>nmW (97+m.toNat) h.toNat (97+((zgg c 74 26+3*(0+(k:Int)))%26).toNat) (97+l.toNat) t.toNat,?_,by simp,fun i z hz=>?_⟩
  ·unfold upto
   rw [qM,qM];rfl
  ·rw [qh] at hz
   by_cases hi:i<n.toNat
   ·rw [List.getElem?_range hi] at hz
    exact⟨hi,by simpa using hz.symm⟩
   ·rw [qE (by simpa using hi)] at hz;cases hz
 rw [hzs]
 refine zsa (fin_same (q zs (by omega) ⟨97+m.toNat,h.toNat,97+l.toNat,t.toNat,ha,hb,by omega,by omega,?_,fun z hz=>?_⟩))
 ·refine qQ.mpr fun i j hi hj hij e=>?_
  obtain⟨i1,ei⟩:=hzg i _ (qb hi)
  obtain⟨j1,ej⟩:=hzg j _ (qb hj)
  rw [ei,ej] at e
  have:=ztU e
  omega
 ·obtain⟨i,hi,e⟩:=List.mem_iff_getElem.mp hz
  obtain⟨_,ez⟩:=hzg i z (by rw [qb hi,e])
  exact⟨_,hq i,ez⟩
def zcy:DSp:=fun ds S Q=>∃ (x:D) (cs:List (Int×Int)) (a:Int),ds=[x,.int a]/\Lst S x (cs.map p2)/\Grd cs/\Bd 180 a/\OnG cs (a,1)/\Q (.int (zdN cs a)) S
def zep:DS :=
    (zH (za2 (zbA (zm (dOp zah (dB zaH (zm (zf 0) zB)) (dC (.int 1))) zB)) (zE 2) (zH (zoj 3 4 (zm (dOp oIx (zf 0) (zf 2)) (zm (dOp oIx (zf 0) (dOp zae (zf 2) (dC (.int 1)))) zB)))
 (sIf (zdR (dT (dOp oLe (dOp oIx (zf 3) (dC (.int 0))) (zf 1))) (dT (dOp oLe (zf 1) (dOp oIx (zf 4) (dC (.int 0)))))) (zH (zO (dOp zax (dOp zah (dOp oIx (zf 3) (dC (.int 1))) (dOp oIx (zf 4) (dC (.int 1)))) (dOp zah (zf 1) (dOp oIx (zf 3) (dC (.int 0))))) (zE 5))
 (zY (dOp zah (dOp oIx (zf 3) (dC (.int 1))) (dOp oDiv (zf 5) (dOp zah (dOp oIx (zf 4) (dC (.int 0))) (dOp oIx (zf 3) (dC (.int 0)))))))) zZ)))
 (zY (dC .non)))
theorem zkI:∀ ds So Q,zcy ds So Q->ds.length=2:=by rintro ds So Q ⟨_,_,_,rfl,_⟩;rfl
theorem zlr:BodyOk 6 zep zcy:=by
 rintro ds S Q ⟨x,cs,a,rfl,hx,gr,ba,on,q⟩
 unfold zep
 have g1:=gr.two
 obtain⟨kk,l,r,hkl,hkr,hle,hlt⟩:=zjE gr.two on.2
 have seg:=seg_at hkl hkr hle hlt
 have hle':a<=r.1:=by have:a<=r.1*1:=hle;omega
 have hab:=zdu gr (show kk<kk+1 by omega) hkl hkr
 have hlo:l.1<=a:=by
  cases kk with
  | zero =>
   obtain⟨f,hf,ef⟩:=zed gr
   have h:=on.1
   rw [ef] at h
   rw [hkl] at hf;cases hf
   have:l.1*1<=a:=h
   omega
  | succ j =>
   have:=hlt (j+1) l (by omega) (by omega) hkl
   have:l.1*1<a:=this
   omega
 have q':Q (.int (l.2-((l.2-r.2)*(a-l.1))/(r.1-l.1))) S:=by
  have e:l.2-((l.2-r.2)*(a-l.1))/(r.1-l.1)=zdN cs a:=by
   unfold zdN
   rw [seg]
   unfold zeZ hvT hvB
   dsimp only
   rw [if_pos (by omega),if_pos (by omega),Int.mul_one,Int.mul_one,Int.mul_one]
   have e2:-(l.2*(r.1-l.1)+(r.2-l.2)*(a-l.1))=(l.2-r.2)*(a-l.1)+(-l.2)*(r.1-l.1):=by grind
   rw [e2,Int.add_mul_ediv_right _ _ (by omega)]
   omega
  rw [e];exact q
 walk_at "g"
 rw [qa]
 refine⟨_,rfl,by have:=gr.most;omega,by have:=gr.most;omega,?_⟩
 refine zaw (fun i Z S'=>S'=S/\(∃ w2 w3 w4 w5:Option D,Z=[some x,some (.int a),w2,w3,w4,w5])/\i<=kk) ⟨rfl,⟨none,none,none,none,rfl⟩,by omega⟩ (fun _ _ _ _=>True.intro) ?_ ?_
 ·rintro i d Z S' hd ⟨rfl,⟨w2,w3,w4,w5,rfl⟩,hik⟩
  obtain⟨hi,rfl⟩:=zaX hd
  obtain⟨b,hb,ab⟩:=zha (cs:=cs) (k:=0+(i:Int)) (by omega) (by omega)
  obtain⟨c,hc,ac⟩:=zha (cs:=cs) (k:=0+(i:Int)+1) (by omega) (by omega)
  rw [show (0+(i:Int)).toNat=i by omega] at hb
  rw [show (0+(i:Int)+1).toNat=i+1 by omega] at hc
  have hbc:=zdu gr (show i<i+1 by omega) hb hc
  obtain⟨bb1,bb2⟩:=gr.bd b (qd hb)
  obtain⟨bc1,bc2⟩:=gr.bd c (qd hc)
  have cm:zat (b.2-c.2) (a-b.1):=.inl ⟨(Bd.sub bb2 bc2).mono (by decide),(Bd.sub ba (bb1.mono (by decide))).mono (by decide)⟩
  have dv:0<c.1-b.1/\Bd 8000 (c.1-b.1):=⟨by omega,(Bd.sub bc1 bb1).mono (by decide)⟩
  walk_at "g"
  refine r_d (fun h1=>?_) (fun h1=>?_)
  ·walk_at "g"
   refine r_d (fun h2=>?_) (fun h2=>?_)
   ·have e:i=kk:=by
     rcases qD i kk with z | z
     ·have:=hlt (i+1) c (by omega) (by omega) hc
      have:c.1*1<a:=this
      omega
     ·omega
    subst e
    rw [hkl] at hb;cases hb
    rw [hkr] at hc;cases hc
    walk_at "g"
    exact fin_same q'
   ·walk_at "g"
    refine⟨rfl,⟨_,_,_,_,rfl⟩,?_⟩
    rcases qD i kk with z | z
    ·omega
    ·have:i=kk:=by omega
     subst this
     rw [hkr] at hc;cases hc;omega
  ·exfalso
   rcases qD i kk with z | z
   ·rcases Nat.eq_zero_or_pos i with e | e
    ·subst e
     obtain⟨f,hf,ef⟩:=zed gr
     rw [hb] at hf;cases hf
     have h:=on.1
     rw [ef] at h
     have:b.1*1<=a:=h
     omega
    ·have:=hlt i b e (by omega) hb
     have:b.1*1<a:=this
     omega
   ·have:i=kk:=by omega
    subst this
    rw [hkl] at hb;cases hb;omega
 ·rintro Z S' ⟨rfl,_,hik⟩
  rw [zas] at hik
  have:=zao hkr
  omega
structure zwW (cs:List (Int×Int))(bs:List (Str×(Int×Int))):Prop where
 nm:zio (bs.map (·.1))
 st:∀ b∈bs,zdS cs b.2/\Bd 175 b.2.1/\Bd 198 b.2.2
def zcg:DSp:=fun ds S Q=>∃ (u x y:D) (ns:List Int) (cs:List (Int×Int)) (zs:List Str),ds=[u,x,y]/\Lst S u (ns.map D.int)/\Lst S x (cs.map p2)/\Lst S y (zs.map D.str)/\zs.length<=ns.length/\zs.length<=12/\(∀ n∈ns,0<=n/\n<10 ^ 60)/\Grd cs/\zio zs/\∀ bs:List (Str×(Int×Int)),bs.length=zs.length->zwW cs bs->New Q S (bs.map bcD)
def zdJ:DS :=
    (zH (zO (zbc zB) (zE 3))
 (zH (zO (dOp zae (dOp zah (dOp oIx (dOp oIx (zf 1) (dUn zck (dC (.int 1)))) (dC (.int 0))) (dOp oIx (dOp oIx (zf 1) (dC (.int 0))) (dC (.int 0)))) (dC (.int 1))) (zE 4))
 (zH (za2 (zbA (zm (dB zaH (zm (zf 2) zB)) zB)) (zE 5) (zH (zO (dOp oIx (zf 0) (zf 5)) (zE 6))
 (zH (zO (dOp zae (dOp oIx (dOp oIx (zf 1) (dC (.int 0))) (dC (.int 0))) (dCall zP (zm (zf 6) (zm (dC (.int 40)) (zm (zf 4) zB))))) (zE 7))
 (zH (sJ (sIf (dT (dOp oGt (zf 4) (dC (.int 100000000000000000000)))) (zO (dOp zae (dOp oIx (dOp oIx (zf 1) (dC (.int 0))) (dC (.int 0))) (dOp oMod (zf 6) (zf 4))) (zE 7)) zZ))
 (zH (sJ (sIf (dT (dOp oEq (dCall zP (zm (zf 6) (zm (dC (.int 41)) (zm (dC (.int 3)) zB)))) (dC (.int 0)))) (zO (dOp oIx (dOp oIx (zf 1) (dCall zP (zm (zf 6) (zm (dC (.int 42)) (zm (dB zaH (zm (zf 1) zB)) zB))))) (dC (.int 0))) (zE 7)) zZ))
 (zH (zO (dOp oIx (zbc (zm (dC (.int 0)) (zm (dCall zP (zm (zf 6) (zm (dC (.int 43)) (zm (dC (.int 4)) zB)))) (zm (dCall zP (zm (zf 6) (zm (dC (.int 44)) (zm (dC (.int 13)) zB)))) (zm (dOp oMod (zf 6) (dC (.int 10000000000000000000000000000000000000000))) zB))))) (dCall zP (zm (zf 6) (zm (dC (.int 45)) (zm (dC (.int 4)) zB))))) (zE 8))
 (zH (sJ (sIf (dT (dOp oLt (zf 4) (dC (.int 100000000000000000000)))) (zO (dOp oMod (zf 8) (dC (.int 20))) (zE 8)) zZ))
 (zbn (dM zcI (zf 3) (zm (dTup (zm (dOp oIx (zf 2) (zf 5)) (zm (zf 7) (zm (dOp zae (dCall zcy (zm (zf 1) (zm (zf 7) zB))) (zf 8)) zB)))) zB))))))))))
 (zY (zf 3)))))
theorem zjJ:∀ ds So Q,zcg ds So Q->ds.length=3:=by rintro ds So Q ⟨_,_,_,_,_,_,rfl,_⟩;rfl
theorem zkp:BodyOk 9 zdJ zcg:=by
  rintro ds S Q ⟨u,x,y,ns,cs,zs,rfl,hu,hx,hy,zn,z12,hns,gr,nms,q⟩
  unfold zdJ
  obtain⟨f,hf,ef⟩:=zed gr
  obtain⟨lc,hlc,elc,alc⟩:=zqS gr
  have af:atD (cs.map p2) 0=some (p2 f):=zbt (i:=0) (by rw [qh,hf];rfl)
  have bf:=(gr.bd f (qd hf)).1
  have bl:=(gr.bd lc (qd hlc)).1
  have g1:=gr.two
  have g40:=gr.most
  have hfl:=zdu gr (show 0<cs.length-1 by omega) hf hlc
  have hx0:Lst (S++[.lst []]) x (cs.map p2):=hx.old
  have hy0:Lst (S++[.lst []]) y (zs.map D.str):=hy.old
  walk_at "g"
  walk_at "drho"
  rw [qa]
  refine⟨_,rfl,by omega,by omega,?_⟩
  generalize hwd:lc.1-f.1+1=wd
  refine zaw (fun i Z S'=>∃ (bs:List (Str×(Int×Int))) (G:Sto) (w5 w6 w7 w8:Option D),S'=S++Cell.lst (bs.map bcD)::G/\Z=[some u,some x,some y,some (.ref S.length),some (.int wd),w5,w6,w7,w8]/\bs.length=i/\bs.map (·.1)=zs.take i/\∀ b∈bs,zdS cs b.2/\Bd 175 b.2.1/\Bd 198 b.2.2) ⟨[],[],none,none,none,none,rfl,rfl,rfl,by simp,by simp⟩ (fun _ _ _ _=>True.intro) ?_ ?_
  . rintro i d Z S' hd ⟨bs,G,w5,w6,w7,w8,rfl,rfl,hl,hnm,hst⟩
    obtain⟨hi,rfl⟩:=zaX hd
    have hin:0+(i:Int)<ns.length:=by omega
    obtain⟨c,hc,ac⟩:=ze9 (zs:=ns) (k:=0+(i:Int)) (by omega) hin
    obtain⟨c0,c1⟩:=hns c hc
    have hu1:Lst (S++Cell.lst (bs.map bcD)::G) u (ns.map D.int):=hu.old
    have hx1:Lst (S++Cell.lst (bs.map bcD)::G) x (cs.map p2):=hx.old
    walk_at "g"
    refine⟨c,_,wd,rfl,by decide,by decide,by omega,fun m m0 m1 _=>?_⟩
    walk_at "g"
    refine r_J (fun Z S'=>S'=S++Cell.lst (bs.map bcD)::G/\∃ pl:Int,f.1<=pl/\pl<=lc.1/\Z=[some u,some x,some y,some (.ref S.length),some (.int wd),some (.int (0+(i:Int))),some (.int c),some (.int pl),w8]) ?_ ?_
    . walk_at "g"
      refine r_d (fun _=>?_) (fun _=>?_)
      . have r1:=Int.emod_nonneg c (show wd≠0 by omega)
        have r2:=Int.emod_lt_of_pos c (show 0<wd by omega)
        walk_at "g"
        exact⟨rfl,f.1+c%wd,by omega,by omega,rfl⟩
      . walk_at "g"
        exact⟨rfl,f.1+m,by omega,by omega,rfl⟩
    rintro Z S' ⟨rfl,pl,p0,p1,rfl⟩
    walk_at "g"
    refine r_J (fun Z S'=>S'=S++Cell.lst (bs.map bcD)::G/\∃ pl:Int,f.1<=pl/\pl<=lc.1/\Z=[some u,some x,some y,some (.ref S.length),some (.int wd),some (.int (0+(i:Int))),some (.int c),some (.int pl),w8]) ?_ ?_
    . walk_at "g"
      refine⟨c,_,3,rfl,by decide,by decide,by decide,fun m' m0' m1' _=>?_⟩
      walk_at "g"
      refine r_d (fun _=>?_) (fun _=>?_)
      . walk_at "g"
        rw [qa]
        refine⟨c,_,_,rfl,by decide,by decide,by omega,fun j j0 j1 _=>?_⟩
        obtain⟨cc,hcc,acc⟩:=zha (cs:=cs) j0 j1
        have on:=zwd gr (qd hcc)
        rw [ef,elc] at on
        walk_at "g"
        exact⟨rfl,cc.1,on.1,on.2,rfl⟩
      . walk_at "g"
        exact⟨rfl,pl,p0,p1,rfl⟩
    clear p0 p1 pl
    rintro Z S' ⟨rfl,pl,p0,p1,rfl⟩
    walk_at "g"
    refine⟨c,_,4,rfl,by decide,by decide,by decide,fun a1 a10 a11 _=>?_⟩
    walk_at "g"
    refine⟨c,_,13,rfl,by decide,by decide,by decide,fun a2 a20 a21 _=>?_⟩
    have r1:=Int.emod_nonneg c (show (10000000000000000000000000000000000000000:Int)≠0 by decide)
    have r2:=Int.emod_lt_of_pos c (show (0:Int)<10000000000000000000000000000000000000000 by decide)
    walk_at "g"
    refine⟨c,_,4,rfl,by decide,by decide,by decide,fun a3 a30 a31 _=>?_⟩
    obtain⟨tw,htw,atw⟩:=ze9 (zs:=[0,a1,a2,c%10000000000000000000000000000000000000000]) (k:=a3) a30 a31
    have tw0:0<=tw/\tw<10 ^ 40:=by
      simp only [qf,qm,or_false] at htw
      rcases htw with rfl | rfl | rfl | rfl<;>omega
    clear htw
    have atw':atD [.int 0,.int a1,.int a2,.int (c%10000000000000000000000000000000000000000)] a3=some (.int tw):=atw
    refine ziI (xs:=[.int 0,.int a1,.int a2,.int (c%10000000000000000000000000000000000000000)]) (by walk_at "dlat") atw' ?_
    obtain⟨G2,hG2⟩:∃ G2:Sto,G2=G++[Cell.lst [.int 0,.int a1,.int a2,.int (c%10000000000000000000000000000000000000000)]]:=⟨_,rfl⟩
    rw [show S++(Cell.lst (bs.map bcD)::G++[Cell.lst [D.int 0,.int a1,.int a2,.int (c%10000000000000000000000000000000000000000)]])=S++Cell.lst (bs.map bcD)::G2 by rw [hG2];simp]
    walk_at "g"
    walk_at "drho2"
    refine r_J (fun Z S'=>S'=S++Cell.lst (bs.map bcD)::G2/\∃ tw:Int,0<=tw/\tw<10 ^ 40/\Z=[some u,some x,some y,some (.ref S.length),some (.int wd),some (.int (0+(i:Int))),some (.int c),some (.int pl),some (.int tw)]) ?_ ?_
    . walk_at "g"
      refine r_d (fun _=>?_) (fun _=>?_)
      . walk_at "g"
        exact⟨rfl,tw%20,by omega,by omega,rfl⟩
      . walk_at "g"
        exact⟨rfl,tw,by omega,by omega,rfl⟩
    clear atw' atw tw0 tw hG2
    rintro Z S' ⟨rfl,tw,t0,t1,rfl⟩
    have hlim:(bs.map bcD).length<big:=by rw [qa];unfold big;omega
    obtain⟨z,hz⟩:∃ z,zs[i]?=some z:=⟨zs[i]'(by omega),qb (by omega)⟩
    have az:atD (zs.map D.str) (0+(i:Int))=some (.str z):=by
      rw [show (0:Int)+(i:Int)=(i:Int) by omega]
      exact zbt (by rw [qh,hz];rfl)
    have hy2:Lst (S++Cell.lst (bs.map bcD)::G2) y (zs.map D.str):=hy.old
    have hx2:Lst (S++Cell.lst (bs.map bcD)::G2) x (cs.map p2):=hx.old
    walk_at "g"
    have on:OnG cs (pl,1):=⟨by rw [ef];show f.1*1<=pl;omega,by rw [elc];show pl<=lc.1*1;omega⟩
    have bp:Bd 170 pl:=Bd.btw bf bl p0 p1
    refine⟨x,cs,pl,rfl,hx2,gr,bp.mono (by decide),on,?_⟩
    have bF:=zq7 gr on
    walk_at "g"
    refine⟨bs++[(z,(pl,zdN cs pl+tw))],G2,_,_,_,_,by rw [qr];rfl,rfl,by simp [hl],by rw [qr,hnm,zau hz];rfl,fun b hb=>?_⟩
    rcases qu.mp hb with hb | hb
    . exact hst b hb
    . have:b=(z,(pl,zdN cs pl+tw)):=by simpa using hb
      subst this
      refine⟨(zq6 gr (s:=(pl,zdN cs pl+tw)) on).mpr (by show zdN cs pl<=zdN cs pl+tw;omega),bp.mono (by decide),?_⟩
      exact (Bd.add (n:=192) bF (by show _<2 ^ 192;omega)).mono (by decide)
  rintro Z S' ⟨bs,G,w5,w6,w7,w8,rfl,rfl,hl,hnm,hst⟩
  rw [zas] at hl hnm
  rw [List.take_of_length_le (by omega)] at hnm
  walk_at "g"
  refine zsN ?_ (q bs (by omega) ⟨by rw [hnm];exact nms,hst⟩)
  show (bs.map bcD).all (fl 20)=true
  rw [List.all_map,List.all_eq_true]
  intro b hb
  exact zxn (nms.nm (by rw [<- hnm];exact qI.mpr ⟨b,hb,rfl⟩))
theorem at3 {a b c:Int}{k:Int}{P:Int->Prop}(h0:0<=k)(h1:k<3)(pa:P a)(pb:P b)(pc:P c):∃ v,P v/\atD [.int a,.int b,.int c] k=some (.int v):=by
  obtain⟨v,hv,av⟩:=ze9 (zs:=[a,b,c]) (k:=k) h0 h1
  refine⟨v,?_,av⟩
  simp only [qf,qm,or_false] at hv
  rcases hv with rfl | rfl | rfl<;>assumption
theorem fb1 {x y m k:Int}(hx:Bd 198 x)(hy:Bd 198 y)(m0:0<=m)(m1:m<100)(k0:0<=k)(k1:k<100):Bd 230 ((x+y)/2+m-k):=by
 have h:Bd 199 (x+y):=Bd.add hx hy
 clear hx hy
 generalize x+y=w at h
 unfold Bd at *;omega
theorem fb2 {x w:Int}(hx:Bd 230 x)(hw:Bd 190 w):Bd 250 (x+w) :=
 (Bd.add hx (hw.mono (by decide))).mono (by decide)
theorem fb3 {a b m:Int}(ha:Bd 250 a)(hb:Bd 250 b)(m0:0<=m)(m1:m<b-a+3):Bd 260 (a+m-1):=by
 unfold Bd at *;omega
theorem fb4 {a e:Int}(ha:Bd 260 a)(e0:0<=e)(e1:e<=1000):Bd 280 (a+e) :=
 (Bd.add ha ((show Bd 20 e by show _<2 ^ 20;omega).mono (by decide))).mono (by decide)
theorem fb5 {x y:Int}(hx:Bd 175 x)(hy:Bd 175 y):(0:Int)<=(x-y).natAbs/\Bd 190 ((x-y).natAbs:Int)/\Bd 190 ((x-y).natAbs/3:Int):=by
 unfold Bd at *
 have h:(x-y).natAbs<2 ^ 190:=by omega
 generalize (x-y).natAbs=k at h
 exact⟨Int.natCast_nonneg _,h,by omega⟩
theorem fb6 {m:Int}(m0:-10<=m)(m1:m<100):Bd 190 m:=by
 show _<2 ^ 190;omega
structure FgW (h0 h1:Int)(F:Fg):Prop where
 v:FgV F
 a:h0-1<=F.f
 b:F.f<=h1+1
 c:F.l<=F.f+1000
theorem zu3 {h0 h1 a w b r m e g s:Int}(u0:Bd 250 a)(u1:Bd 250 (a+w))(u2:Bd 250 b)(u3:Bd 250 (b+r))(u4:Bd 260 (h0+m-1))(u5:Bd 280 (h0+m-1+e))(bg:Bd 190 g)(bs:Bd 190 s)(w0:0<=w)(r0:0<=r)(m0:0<=m)(m1:m<h1-h0+3)(e0:0<=e)(e1:e<=1000):FgW h0 h1 ⟨a,a+w,b,b+r,h0+m-1,h0+m-1+e,g,s⟩ :=
 ⟨⟨⟨by dsimp only;omega,by dsimp only;omega,u0.mono (by decide),u1.mono (by decide),u2.mono (by decide),u3.mono (by decide),bg.mono (by decide),bs.mono (by decide)⟩,by dsimp only;omega,u4.mono (by decide),u5.mono (by decide)⟩,by dsimp only;omega,by dsimp only;omega,by dsimp only;omega⟩
def zem:DSp:=fun ds S Q=>∃ (c:Int) (x y:D) (bs:List (Str×(Int×Int))) (h0 h1:Int),ds=[.int c,x,y,.int h0,.int h1]/\Lst S y (bs.map bcD)/\1<=bs.length/\bs.length<=12/\(∀ b∈bs,Bd 175 b.2.1/\Bd 198 b.2.2)/\h0<=h1/\Bd 250 h0/\Bd 250 h1/\∀ F:Fg,FgW h0 h1 F->Q (fgD F) S
def zf4:DS :=
    (zH (zO (dOp oIx (zf 2) (dCall zP (zm (zf 0) (zm (dC (.int 50)) (zm (dB zaH (zm (zf 2) zB)) zB))))) (zE 5))
 (zH (zO (dOp oIx (zf 2) (dCall zP (zm (zf 0) (zm (dC (.int 51)) (zm (dB zaH (zm (zf 2) zB)) zB))))) (zE 6))
 (zH (zO (dOp zah (dOp zae (dOp oDiv (dOp zae (dOp oIx (zf 5) (dC (.int 1))) (dOp oIx (zf 6) (dC (.int 1)))) (dC (.int 2))) (dCall zP (zm (zf 0) (zm (dC (.int 52)) (zm (dC (.int 7)) zB))))) (dC (.int 3))) (zE 7))
 (zH (zO (dOp zah (dOp zae (dOp oDiv (dOp zae (dOp oIx (zf 5) (dC (.int 2))) (dOp oIx (zf 6) (dC (.int 2)))) (dC (.int 2))) (dCall zP (zm (zf 0) (zm (dC (.int 53)) (zm (dC (.int 9)) zB))))) (dC (.int 5))) (zE 8))
 (zH (zO (dOp zah (dOp zae (zf 3) (dCall zP (zm (zf 0) (zm (dC (.int 54)) (zm (dOp zae (dOp zah (zf 4) (zf 3)) (dC (.int 3))) zB))))) (dC (.int 1))) (zE 9))
 (zH (zO (dOp zae (zf 9) (dOp oIx (zbc (zm (dCall zP (zm (zf 0) (zm (dC (.int 55)) (zm (dC (.int 4)) zB)))) (zm (dCall zP (zm (zf 0) (zm (dC (.int 55)) (zm (dC (.int 12)) zB)))) (zm (dC (.int 1000)) zB)))) (dCall zP (zm (zf 0) (zm (dC (.int 56)) (zm (dC (.int 3)) zB)))))) (zE 10))
 (zH (zO (dOp oIx (zbc (zm (dCall zP (zm (zf 0) (zm (dC (.int 57)) (zm (dC (.int 3)) zB)))) (zm (dCall zP (zm (zf 0) (zm (dC (.int 57)) (zm (dC (.int 9)) zB)))) (zm (dB zmk (zm (dOp zah (dOp oIx (zf 5) (dC (.int 1))) (dOp oIx (zf 6) (dC (.int 1)))) zB)) zB)))) (dCall zP (zm (zf 0) (zm (dC (.int 58)) (zm (dC (.int 3)) zB))))) (zE 11))
 (zH (zO (dOp oIx (zbc (zm (dC (.int 0)) (zm (dOp zah (dCall zP (zm (zf 0) (zm (dC (.int 59)) (zm (dC (.int 5)) zB)))) (dC (.int 2))) (zm (dOp oDiv (dB zmk (zm (dOp zah (dOp oIx (zf 5) (dC (.int 1))) (dOp oIx (zf 6) (dC (.int 1)))) zB)) (dC (.int 3))) zB)))) (dCall zP (zm (zf 0) (zm (dC (.int 60)) (zm (dC (.int 3)) zB))))) (zE 12))
 (zH (zO (dOp oIx (zbc (zm (dC (.int 0)) (zm (dC (.int 0)) (zm (dOp zah (dCall zP (zm (zf 0) (zm (dC (.int 61)) (zm (dC (.int 5)) zB)))) (dC (.int 2))) zB)))) (dCall zP (zm (zf 0) (zm (dC (.int 62)) (zm (dC (.int 3)) zB))))) (zE 13))
 (zY (dTup (zm (zf 7) (zm (dOp zae (zf 7) (zf 11)) (zm (zf 8) (zm (dOp zae (zf 8) (dCall zP (zm (zf 0) (zm (dC (.int 63)) (zm (dC (.int 9)) zB))))) (zm (zf 9) (zm (zf 10) (zm (zf 12) (zm (zf 13) zB)))))))))))))))))))
theorem znf:∀ ds So Q,zem ds So Q->ds.length=5:=by rintro ds So Q ⟨_,_,_,_,_,_,rfl,_⟩;rfl
theorem zow:BodyOk 14 zf4 zem:=by
 rintro ds S Q ⟨c,x,y,bs,h0,h1,rfl,hy,l1,l12,hbs,hh,b0,b1,q⟩
 unfold zf4
 walk_at "g"
 try walk_at "drho"
 rw [qa]
 refine⟨c,_,_,rfl,by decide,by decide,by omega,fun i i0 i1 _=>?_⟩
 obtain⟨o,ho,ao⟩:=zjH (bs:=bs) i0 i1
 obtain⟨bo1,bo2⟩:=hbs o (qd ho)
 walk_at "g"
 try walk_at "drho2"
 rw [qa]
 refine⟨c,_,_,rfl,by decide,by decide,by omega,fun j j0 j1 _=>?_⟩
 obtain⟨t,ht,at'⟩:=zjH (bs:=bs) j0 j1
 obtain⟨bt1,bt2⟩:=hbs t (qd ht)
 clear ho ht ao hbs
 walk_at "g"
 try walk_at "drho2"
 refine⟨c,_,_,rfl,by decide,by decide,by decide,fun m1 m10 m11 _=>?_⟩
 walk_at "g"
 try walk_at "drho2"
 refine⟨c,_,_,rfl,by decide,by decide,by decide,fun m2 m20 m21 _=>?_⟩
 walk_at "g"
 try walk_at "drho2"
 refine⟨c,_,_,rfl,by decide,by decide,by omega,fun m3 m30 m31 _=>?_⟩
 walk_at "g"
 refine⟨c,_,_,rfl,by decide,by decide,by omega,fun m4 m40 m41 _=>?_⟩
 walk_at "g"
 refine⟨c,_,_,rfl,by decide,by decide,by omega,fun m5 m50 m51 _=>?_⟩
 walk_at "g"
 try walk_at "drho2"
 refine⟨c,_,_,rfl,by decide,by decide,by omega,fun m6 m60 m61 _=>?_⟩
 obtain⟨e,⟨e0,e1⟩,ae⟩:=at3 (a:=m4) (b:=m5) (c:=1000) (k:=m6) (P:=fun v=>0<=v/\v<=1000) m60 m61 (by omega) (by omega) (by omega)
 walk_at "g"
 refine⟨c,_,_,rfl,by decide,by decide,by omega,fun n4 n40 n41 _=>?_⟩
 walk_at "g"
 refine⟨c,_,_,rfl,by decide,by decide,by omega,fun n5 n50 n51 _=>?_⟩
 walk_at "g"
 try walk_at "drho2"
 refine⟨c,_,_,rfl,by decide,by decide,by omega,fun n6 n60 n61 _=>?_⟩
 obtain⟨wd,⟨wd0,bwd⟩,awd⟩:=at3 (a:=n4) (b:=n5) (c:=(o.2.1-t.2.1).natAbs) (k:=n6) (P:=fun v=>0<=v/\Bd 190 v) n60 n61 ⟨n40,fb6 (by omega) (by omega)⟩ ⟨n50,fb6 (by omega) (by omega)⟩ ⟨(fb5 bo1 bt1).1,(fb5 bo1 bt1).2.1⟩
 walk_at "g"
 refine⟨c,_,_,rfl,by decide,by decide,by omega,fun p4 p40 p41 _=>?_⟩
 walk_at "g"
 try walk_at "drho2"
 refine⟨c,_,_,rfl,by decide,by decide,by omega,fun p6 p60 p61 _=>?_⟩
 obtain⟨dr,bdr,adr⟩:=at3 (a:=0) (b:=p4-2) (c:=(o.2.1-t.2.1).natAbs/3) (k:=p6) (P:=fun v=>Bd 190 v) p60 p61 (fb6 (by decide) (by decide)) (fb6 (by omega) (by omega)) (fb5 bo1 bt1).2.2
 walk_at "g"
 refine⟨c,_,_,rfl,by decide,by decide,by omega,fun q4 q40 q41 _=>?_⟩
 walk_at "g"
 try walk_at "drho2"
 refine⟨c,_,_,rfl,by decide,by decide,by omega,fun q6 q60 q61 _=>?_⟩
 obtain⟨rs,brs,ars⟩:=at3 (a:=0) (b:=0) (c:=q4-2) (k:=q6) (P:=fun v=>Bd 190 v) q60 q61 (fb6 (by decide) (by decide)) (fb6 (by decide) (by decide)) (fb6 (by omega) (by omega))
 walk_at "g"
 refine⟨c,_,_,rfl,by decide,by decide,by omega,fun r4 r40 r41 _=>?_⟩
 walk_at "g"
 have v0:=fb1 (k:=3) (bo1.mono (by decide)) (bt1.mono (by decide)) m10 (by omega) (by decide) (by decide)
 have v2:=fb1 (k:=5) (bo2.mono (by decide)) (bt2.mono (by decide)) m20 (by omega) (by decide) (by decide)
 have v4:=fb3 b0 b1 m30 m31
 exact zaj rfl (q _ (zu3 (v0.mono (by decide)) (fb2 v0 bwd) (v2.mono (by decide)) (fb2 v2 (fb6 (by omega) (by omega))) v4 (fb4 v4 e0 e1) bdr brs wd0 r40 m30 m31 e0 e1))
structure VlW (V:Vl)(most fogs hours:Int):Prop where
 ok:zcM V
 nm:zio (V.bs.map (·.1))
 mb:(V.bs.length:Int)<=most
 mf:(V.fs.length:Int)<=fogs
 hr:V.h1<V.h0+hours
 d3:V.dl<=3
 h59:∀ z,V.hz=some z->z<=10 ^ 59
 st:∀ b∈V.bs,Bd 175 b.2.1/\Bd 198 b.2.2
 cb:∀ c∈V.cs,Bd 169 c.1/\Bd 169 c.2
 fw:∀ F∈V.fs,FgW V.h0 V.h1 F
 b0:Bd 170 V.h0
def zdv:DSp:=fun ds S Q=>∃ (ns:List Int) (most fogs hours:Int),ds=[.rl (ns.map D.int),.int most,.int fogs,.int hours]/\ns.length<=63/\(∀ n∈ns,Hg n)/\1<=most/\most<=12/\0<=fogs/\fogs<=12/\1<=hours/\hours<=10 ^ 49/\∀ (T:Sto) (x y z:D) (V:Vl),VlW V most fogs hours->VlS (S++T) x y z V->Q (vlD x y z V) (S++T)
def zfn:DS :=
    (zH (zO (dCall zcU (zm (zf 0) (zm (dC (.int 0)) zB))) (zE 4))
 (zH (zO (dOp oEq (dCall zP (zm (zf 4) (zm (dC (.int 0)) (zm (dC (.int 3)) zB)))) (dC (.int 0))) (zE 5))
 (zH (zO (dOp zae (dC (.int 1)) (dCall zP (zm (zf 4) (zm (dC (.int 1)) (zm (zf 1) zB))))) (zE 6))
 (zH (zO (dCall zcj (zm (dCall zcU (zm (zf 0) (zm (dC (.int 1)) zB))) (zm (dOp zae (dC (.int 2)) (dCall zP (zm (zf 4) (zm (dC (.int 2)) (zm (dC (.int 6)) zB))))) (zm (zf 5) zB)))) (zE 7))
 (zH (zO (dOp zae (dCall zcA (zm (zf 0) (zm (dC (.int 2)) (zm (dOp zae (zf 6) (zf 2)) zB)))) (dLC 1 [] (zbA (zm (zf 6) zB)) (zE 0) zbI (dC (.int 0)))) (zE 8))
 (zH (zO (dCall zcg (zm (zf 8) (zm (zf 7) (zm (dCall zcV (zm (zf 4) (zm (zf 6) zB))) zB)))) (zE 9))
 (zH (zO (dOp oIx (zbc (zm (dOp zah (dCall zP (zm (zf 4) (zm (dC (.int 3)) (zm (dC (.int 9)) zB)))) (dC (.int 4))) (zm (dOp oMod (zf 4) (dC (.int 100000000000000000000000000000000000000000000000000))) zB))) (dOp oDiv (dCall zP (zm (zf 4) (zm (dC (.int 4)) (zm (dC (.int 3)) zB)))) (dC (.int 2)))) (zE 10))
 (zH (zO (dOp zae (zf 10) (dCall zP (zm (zf 4) (zm (dC (.int 5)) (zm (zf 3) zB))))) (zE 11))
 (zH (zO (dLC 1 [7,9,10,11] (zaZ (dSl zhg (zf 8) (some (zf 6)) (some (dOp zah (dB zaH (zm (zf 8) zB)) (zf 6))))) (zE 0) zbI (dCall zem (zm (zf 0) (zm (zf 1) (zm (zf 2) (zm (zf 3) (zm (zf 4) zB))))))) (zE 12))
 (zH (zO (dOp oIx (zbc (zm (dC .non) (zm (dCall zP (zm (zf 4) (zm (dC (.int 6)) (zm (dC (.int 400)) zB)))) (zm (dC (.int 100000000000000000000000000000000000000000000000000000000000)) zB)))) (dCall zP (zm (zf 4) (zm (dC (.int 7)) (zm (dC (.int 3)) zB))))) (zE 13))
 (zY (dTup (zm (zf 7) (zm (zf 9) (zm (zf 12) (zm (zf 13) (zm (zf 10) (zm (zf 11) (zm (dCall zP (zm (zf 4) (zm (dC (.int 8)) (zm (dC (.int 4)) zB)))) zB)))))))))))))))))))
theorem zmh:∀ ds So Q,zdv ds So Q->ds.length=4:=by rintro ds So Q ⟨_,_,_,_,rfl,_⟩;rfl
theorem znF:BodyOk 14 zfn zdv:=by
  rintro ds S Q ⟨ns,most,fogs,hours,rfl,hl,hg,m1,m12,f0,f12,hr1,hr2,q⟩
  unfold zfn
  walk_at "g"
  refine⟨ns,0,rfl,hg,by decide,fun hd hhd=>?_⟩
  walk_at "g"
  refine⟨hd,0,3,rfl,by decide,by decide,by decide,fun a0 _ _ _=>?_⟩
  walk_at "g"
  refine⟨hd,1,most,rfl,by decide,by decide,by omega,fun a1 a10 a11 _=>?_⟩
  walk_at "g"
  refine⟨ns,1,rfl,hg,by decide,fun c1 hc1=>?_⟩
  walk_at "g"
  refine⟨hd,2,6,rfl,by decide,by decide,by decide,fun a2 a20 a21 _=>?_⟩
  walk_at "g"
  refine⟨c1,_,_,rfl,hc1,by omega,by omega,fun cs hcl gr hcb=>?_⟩
  unfold New
  walk_at "drho"
  obtain⟨S1,hS1⟩:∃ S1:Sto,S1=S++[.lst (cs.map p2)]:=⟨_,rfl⟩
  have kc1:Lst S1 (.ref S.length) (cs.map p2):=hS1▸Lst.at0
  rw [<- hS1]
  walk_at "g"
  refine⟨ns,2,1+a1+fogs,rfl,hl,by decide,by omega,by omega,fun zs hzl hzs=>?_⟩
  walk_at "g"
  refine⟨1+a1,rfl,by omega,by omega,?_⟩
  refine za5 (fun _=>true) (onI fun _=>.int 0) True.intro (by rw [zas];unfold big;omega) (fun i d ys hd hw=>?_) ?_
  . obtain⟨hi,rfl⟩:=zaX hd
    walk_at "g"
    exact zbZ hd hw rfl rfl
  rw [filter_true]
  obtain⟨os,hos,hol,hoz⟩:∃ os:List Int,(upto 0 (1+a1).toNat).map (onI fun _=>D.int 0)=os.map D.int/\os.length=(1+a1).toNat/\∀ z∈os,z=0:=by
    refine⟨List.replicate (1+a1).toNat 0,?_,by simp,fun z hz=>List.eq_of_mem_replicate hz⟩
    unfold upto
    rw [qM,List.map_replicate]
    refine List.ext_getElem (by simp) fun j h1 h2=>?_
    simp [onI]
  rw [hos]
  clear hos
  walk_at "g"
  refine zkf (xs:=zs.map D.int) (ys:=os.map D.int) (by walk_at "dlat") (by walk_at "dlat") (by rw [qa,qa];unfold big;omega) ?_
  rw [<- qr]
  have hmn:∀ n∈zs++os,0<=n/\n<10 ^ 60:=fun n hn=>by
    rcases qu.mp hn with h | h
    . exact hzs n h
    . rw [hoz n h];decide
  have hml:(zs++os).length=zs.length+(1+a1).toNat:=by rw [qe,hol]
  generalize zs++os=nb at hmn hml
  walk_at "g"
  walk_at "drho2"
  obtain⟨S2,hS2⟩:∃ S2:Sto,S2=S1++[.lst (zs.map D.int),.lst (os.map D.int),.lst (nb.map D.int)]:=⟨_,rfl⟩
  have kn2:Lst S2 (.ref (S1.length+2)) (nb.map D.int):=hS2▸Lst.at rfl
  have kc2:Lst S2 (.ref S.length) (cs.map p2):=hS2▸kc1.old
  rw [<- hS2]
  walk_at "g"
  refine⟨hd,_,rfl,by omega,by omega,fun nm hnl hnm=>?_⟩
  unfold New
  obtain⟨S3,hS3⟩:∃ S3:Sto,S3=S2++[.lst (nm.map D.str)]:=⟨_,rfl⟩
  have ks3:Lst S3 (.ref S2.length) (nm.map D.str):=hS3▸Lst.at0
  have kn3:Lst S3 (.ref (S1.length+2)) (nb.map D.int):=hS3▸kn2.old
  have kc3:Lst S3 (.ref S.length) (cs.map p2):=hS3▸kc2.old
  rw [<- hS3]
  walk_at "g"
  refine⟨_,_,_,nb,cs,nm,rfl,kn3,kc3,ks3,by omega,by omega,hmn,gr,hnm,fun bs hbl hbo=>?_⟩
  unfold New
  obtain⟨S4,hS4⟩:∃ S4:Sto,S4=S3++[.lst (bs.map bcD)]:=⟨_,rfl⟩
  have kb4:Lst S4 (.ref S3.length) (bs.map bcD):=hS4▸Lst.at0
  have kn4:Lst S4 (.ref (S1.length+2)) (nb.map D.int):=hS4▸kn3.old
  have kc4:Lst S4 (.ref S.length) (cs.map p2):=hS4▸kc3.old
  rw [<- hS4]
  walk_at "g"
  refine⟨hd,3,9,rfl,by decide,by decide,by decide,fun a3 a30 a31 _=>?_⟩
  walk_at "g"
  refine⟨hd,4,3,rfl,by decide,by decide,by decide,fun a4 a40 a41 _=>?_⟩
  have r1:=Int.emod_nonneg hd (show (100000000000000000000000000000000000000000000000000:Int)≠0 by decide)
  have r2:=Int.emod_lt_of_pos hd (show (0:Int)<100000000000000000000000000000000000000000000000000 by decide)
  walk_at "g"
  obtain⟨h0,hh0,ah0⟩:=ze9 (zs:=[a3-4,hd%100000000000000000000000000000000000000000000000000]) (k:=a4/2) (by omega) (by show _<(2:Int);omega)
  have ah0':atD [.int (a3-4),.int (hd%100000000000000000000000000000000000000000000000000)] (a4/2)=some (.int h0):=ah0
  have bh0:-4<=h0/\h0<10 ^ 50:=by
    simp only [qf,qm,or_false] at hh0
    rcases hh0 with rfl | rfl<;>omega
  clear hh0 ah0
  walk_at "g"
  refine⟨hd,5,hours,rfl,by decide,by decide,by omega,fun a5 a50 a51 _=>?_⟩
  obtain⟨S5,hS5⟩:∃ S5:Sto,S5=S4++[.lst [.int (a3-4),.int (hd%100000000000000000000000000000000000000000000000000)]]:=⟨_,rfl⟩
  have kb5:Lst S5 (.ref S3.length) (bs.map bcD):=hS5▸kb4.old
  have kn5:Lst S5 (.ref (S1.length+2)) (nb.map D.int):=hS5▸kn4.old
  have kc5:Lst S5 (.ref S.length) (cs.map p2):=hS5▸kc4.old
  rw [<- hS5]
  walk_at "drho2"
  walk_at "g"
  rw [qa,zkq]
  have hfl:(cutD nb (some (1+a1)) (some ((nb.length:Int)-(1+a1)))).length<=fogs.toNat:=by
    refine qK (zit _ _ _) ?_
    unfold slD
    dsimp only
    rw [if_neg (by omega),if_neg (by omega)]
    omega
  generalize cutD nb (some (1+a1)) (some ((nb.length:Int)-(1+a1)))=fcs at hfl
  obtain⟨S6,hS6⟩:∃ S6:Sto,S6=S5++[.lst (fcs.map D.int)]:=⟨_,rfl⟩
  have kf6:Lst S6 (.ref S5.length) (fcs.map D.int):=hS6▸Lst.at0
  have kb6:Lst S6 (.ref S3.length) (bs.map bcD):=hS6▸kb5.old
  have kc6:Lst S6 (.ref S.length) (cs.map p2):=hS6▸kc5.old
  rw [<- hS6]
  have hb250:Bd 250 h0/\Bd 250 (h0+a5)/\Bd 170 h0:=⟨by show _<2 ^ 250;omega,by show _<2 ^ 250;omega,by show _<2 ^ 170;omega⟩
  refine ziE (fun i ys S'=>S'=S6/\∃ fs:List Fg,ys=fs.map fgD/\fs.length=i/\∀ F∈fs,FgW h0 (h0+a5) F) ⟨rfl,[],rfl,rfl,by simp⟩ (fun i ys S' h=>h.1▸kf6) (by rw [qa];unfold big;omega) ?_ ?_
  . rintro i d ys S' hd ⟨rfl,fs,rfl,hfl',hfs⟩
    obtain⟨v,_,rfl⟩:=zdh hd
    walk_at "g"
    refine⟨v,_,_,bs,h0,h0+a5,rfl,kb6,by omega,by omega,fun b hb=>(hbo.st b hb).2,by omega,hb250.1,hb250.2.1,fun F hF=>?_⟩
    refine⟨rfl,fs++[F],by rw [qr];rfl,by simp [hfl'],fun G hG=>?_⟩
    rcases qu.mp hG with h | h
    . exact hfs G h
    . have:G=F:=by simpa using h
      subst this;exact hF
  rintro ys S' ⟨rfl,fs,rfl,hfl2,hfs⟩
  rw [qa] at hfl2
  unfold New
  obtain⟨S7,hS7⟩:∃ S7:Sto,S7=S'++[.lst (fs.map fgD)]:=⟨_,rfl⟩
  have kf7:Lst S7 (.ref S'.length) (fs.map fgD):=hS7▸Lst.at0
  have kb7:Lst S7 (.ref S3.length) (bs.map bcD):=hS7▸kb6.old
  have kc7:Lst S7 (.ref S.length) (cs.map p2):=hS7▸kc6.old
  have e7:∃ T,S7=S++T:=zcG (zcG (zcG (zcG (zcG (zcG ⟨_,hS1⟩ hS2) hS3) hS4) hS5) hS6) hS7
  rw [<- hS7]
  clear hS7 hS6 hS5 hS4 hS3 hS2 hS1
  walk_at "g"
  refine⟨hd,6,400,rfl,by decide,by decide,by decide,fun a6 a60 a61 _=>?_⟩
  walk_at "g"
  refine⟨hd,7,3,rfl,by decide,by decide,by decide,fun a7 a70 a71 _=>?_⟩
  obtain⟨hz,ahz,hz0⟩:∃ hz:Option Int,atD [.non,.int a6,.int 100000000000000000000000000000000000000000000000000000000000] a7=some (zbd hz)/\∀ z,hz=some z->0<=z/\z<=10 ^ 59:=by
    have:a7=0\/a7=1\/a7=2:=by omega
    rcases this with rfl | rfl | rfl
    . exact⟨none,rfl,fun z h=>by cases h⟩
    . exact⟨some a6,rfl,fun z h=>by cases h;omega⟩
    . exact⟨some 100000000000000000000000000000000000000000000000000000000000,rfl,fun z h=>by cases h;decide⟩
  walk_at "g"
  refine⟨hd,8,4,rfl,by decide,by decide,by decide,fun a8 a80 a81 _=>?_⟩
  walk_at "g"
  obtain⟨T7,rfl⟩:=e7
  rw [qF]
  have hbl':(bs.length:Int)=1+a1:=by omega
  refine fin_same (q _ _ _ _ ⟨cs,bs,fs,hz,h0,h0+a5,a8⟩ ?_ (by rw [<- qF];exact VlS.old ⟨kc7,kb7,kf7⟩))
  exact { ok:={ gr:=gr,b1:=by show 1<=bs.length;omega,b12:=by show bs.length<=12;omega,nm:=fun b hb=>hbo.nm.nm (qI.mpr ⟨b,hb,rfl⟩),nd:=let ⟨_,_,_,_,_,_,_,_,h,_⟩:=hbo.nm;h,st:=fun b hb=>(hbo.st b hb).1,bd:=fun b hb=>⟨(hbo.st b hb).2.1.mono (by decide),(hbo.st b hb).2.2.mono (by decide)⟩,f12:=by show fs.length<=12;omega,fg:=fun F hF=>(hfs F hF).v,hz:=fun z h=>(hz0 z h).1,hh:=by show h0<=h0+a5;omega,b0:=hb250.1,bl:=hb250.2.1,dl:=a80 },nm:=hbo.nm,mb:=by show (bs.length:Int)<=most;omega,mf:=by show (fs.length:Int)<=fogs;omega,hr:=by show h0+a5<h0+hours;omega,d3:=by show a8<=3;omega,h59:=fun z h=>(hz0 z h).2,st:=fun b hb=>(hbo.st b hb).2,cb:=hcb,fw:=hfs,b0:=hb250.2.2 }
def za8:DSp:=fun ds S Q=>∃ (x:D) (cs:List (Int×Int)),ds=[x]/\Lst S x (cs.map p2)/\Grd cs/\Q .non S
def zbJ:DS :=
    (zH (sIf (dOr (dT (dOp oLt (dB zaH (zm (zf 0) zB)) (dC (.int 2)))) (dT (dOp oGt (dB zaH (zm (zf 0) zB)) (dC (.int 40))))) zcC zZ)
 (za2 (zlI (zm (dC (.int 1)) (zm (dB zaH (zm (zf 0) zB)) zB))) (zE 1) (sIf (dT (dOp oLe (dOp oIx (dOp oIx (zf 0) (zf 1)) (dC (.int 0))) (dOp oIx (dOp oIx (zf 0) (dOp zah (zf 1) (dC (.int 1)))) (dC (.int 0))))) zcC zZ)))
theorem zgm:∀ ds So Q,za8 ds So Q->ds.length=1:=by rintro ds So Q ⟨_,_,rfl,_⟩;rfl
theorem zgJ:BodyOk 2 zbJ za8:=by
 rintro ds S Q ⟨x,cs,rfl,hx,g,q⟩
 unfold zbJ
 have g1:=g.two
 have g2:=g.most
 walk_at "g"
 rw [qa]
 refine r_d (fun z=>absurd z (by omega)) (fun _=>?_)
 walk_at "g"
 rw [qa]
 refine r_d (fun z=>absurd z (by omega)) (fun _=>?_)
 walk_at "g"
 rw [qa]
 refine⟨_,_,rfl,?_⟩
 refine zaw (fun i Z S'=>S'=S/\∃ w:Option D,Z=[some x,w]) ⟨rfl,none,rfl⟩ (fun _ _ _ _=>True.intro) ?_ ?_
 ·rintro i d Z S' hd ⟨rfl,w,rfl⟩
  obtain⟨hi,rfl⟩:=zaX hd
  obtain⟨a,ha,aa⟩:=zha (cs:=cs) (k:=1+(i:Int)) (by omega) (by omega)
  obtain⟨b,hb,ab⟩:=zha (cs:=cs) (k:=1+(i:Int)-1) (by omega) (by omega)
  have hlt:=zdu g (show (1+(i:Int)-1).toNat<(1+(i:Int)).toNat by omega) hb ha
  walk_at "g"
  refine r_d (fun z=>absurd z (by omega)) (fun _=>?_)
  walk_at "g"
  exact⟨rfl,_,rfl⟩
 ·rintro Z S' ⟨rfl,w,rfl⟩
  exact fin_same q
def zdd:DSp:=fun ds S Q=>∃ (S0:Sto) (x:D) (cs:List (Int×Int)),ds=[.ref S0.length,x]/\S=S0++[.ins "Ground" []]/\Lst S0 x (cs.map p2)/\Grd cs/\Q .non (S0++[.ins "Ground" [("corners",.ref (S0.length+1))],.lst (cs.map p2)])
def zbV:DS :=
    (zH (zbn (dCall za8 (zm (zf 1) zB)))
 (zeV "Ground" "corners" (zf 0) (dB zen (zm (zf 1) zB))))
theorem zkc:∀ ds So Q,zdd ds So Q->ds.length=2:=by rintro ds So Q ⟨_,_,_,rfl,_⟩;rfl
theorem zks:BodyOk 2 zbV zdd:=by
 rintro ds S Q ⟨S0,x,cs,rfl,rfl,hx,g,q⟩
 unfold zbV
 have hx':Lst (S0++[.ins "Ground" []]) x (cs.map p2):=hx.old
 walk_at "g"
 refine⟨x,cs,rfl,hx',g,?_⟩
 walk_at "g"
 refine⟨S0.length,[],rfl,zaz,by decide,?_⟩
 rw [zc0]
 exact fin_same q
def zf3:DSp:=zoQ "Ground" zdd
def za4:DSp:=fun ds S Q=>∃ (x y:D) (xs ys:List D),ds=[x,y]/\Lst S x xs/\Lst S y ys/\1<=xs.length/\xs.length<=12/\ys.length<=12/\Q .non S
def zbH:DS :=
    (zH (sIf (dOr (dT (dOp oLt (dB zaH (zm (zf 0) zB)) (dC (.int 1)))) (dT (dOp oGt (dB zaH (zm (zf 0) zB)) (dC (.int 12))))) zcC zZ)
 (sIf (dT (dOp oGt (dB zaH (zm (zf 1) zB)) (dC (.int 12)))) zcC zZ))
theorem zgr:∀ ds So Q,za4 ds So Q->ds.length=2:=by rintro ds So Q ⟨_,_,_,_,rfl,_⟩;rfl
theorem zgD:BodyOk 2 zbH za4:=by
 rintro ds S Q ⟨x,y,xs,ys,rfl,hx,hy,h1,h2,h3,q⟩
 unfold zbH
 walk_at "g"
 rw [decide_eq_false (show ¬ ((xs.length:Int)<1) by omega)]
 walk_at "g"
 rw [decide_eq_false (show ¬ ((12:Int)<xs.length) by omega)]
 walk_at "g"
 rw [decide_eq_false (show ¬ ((12:Int)<ys.length) by omega)]
 walk_at "g"
 exact fin_same q
def zeD:DSp:=fun ds S Q=>∃ z:Str,ds=[.str z]/\z.length<=1000/\Q (.bl (nmB z)) S
def zgc:DS :=
    (zH (sIf (dOr (dT (dOp oLt (dB zaH (zm (zf 0) zB)) (dC (.int 1)))) (dT (dOp oGt (dB zaH (zm (zf 0) zB)) (dC (.int 8))))) (zY (dC (.bl false))) zZ)
 (zY (dB zhX (zm (dLC 1 [] (zaZ (zf 0)) (zE 0) zbI (dOp oIn (zf 0) (dC (.str "abcdefghijklmnopqrstuvwxyz")))) zB))))
theorem znE:∀ ds So Q,zeD ds So Q->ds.length=1:=by rintro ds So Q ⟨_,rfl,_⟩;rfl
theorem zpk:BodyOk 1 zgc zeD:=by
 rintro ds S Q ⟨z,rfl,hz,q⟩
 unfold zgc
 have hb:z.length<=big:=by unfold big;omega
 walk_at "g"
 refine zqj hb ?_
 walk_at "g"
 unfold nmB at q
 refine r_d (fun h=>?_) (fun h=>?_)
 ·walk_at "g"
  rw [decide_eq_false (show ¬ 1<=z.length by omega)] at q
  exact fin_same q
 rw [decide_eq_true (show 1<=z.length by omega)] at q
 walk_at "g"
 refine zqj hb ?_
 walk_at "g"
 refine r_d (fun h=>?_) (fun h=>?_)
 ·walk_at "g"
  rw [decide_eq_false (show ¬ z.length<=8 by omega)] at q
  exact fin_same q
 rw [decide_eq_true (show z.length<=8 by omega)] at q
 walk_at "g"
 refine za5 (fun _=>true) (onC fun c=>decide (c∈abc)) True.intro (by rw [zpv];exact hb) (fun i d ys hd hw=>?_) ?_
 ·obtain⟨c,_,rfl⟩:=zqH hd
  walk_at "g"
  rw [zuD]
  exact zbZ hd hw rfl rfl
 rw [filter_true,zpN]
 walk_at "g"
 refine zhP Lst.at0 rfl ?_
 refine zaj rfl ?_
 rw [List.all_map]
 exact q
def zbg:DSp:=fun ds S Q=>∃ (x:D) (zs:List Str),ds=[x]/\Lst S x (zs.map D.str)/\zs.length<=100/\(∀ z∈zs,nmB z=true)/\zs.Nodup/\Q .non S
def zb1:DS :=
    (zH (sIf (zeA (dT (dB zhX (zm (dLC 1 [] (zaZ (zf 0)) (zE 0) zbI (dCall zeD (zm (zf 0) zB))) zB)))) zcC zZ)
 (sIf (dT (dOp oLt (dB zph (zm (zf 0) zB)) (dB zaH (zm (zf 0) zB)))) zcC zZ))
theorem zgS:∀ ds So Q,zbg ds So Q->ds.length=1:=by rintro ds So Q ⟨_,_,rfl,_⟩;rfl
theorem zhv:BodyOk 1 zb1 zbg:=by
 rintro ds S Q ⟨x,zs,rfl,hx,hl,hn,nd,q⟩
 unfold zb1
 walk_at "g"
 refine za5 (fun _=>true) (onS fun z=>.bl (nmB z)) hx (by rw [qa];unfold big;omega) (fun i d ys hd hw=>?_) ?_
 ·obtain⟨z,hz,rfl⟩:=zsT hd
  walk_at "g"
  refine⟨z,rfl,by have:=(zkz.mp (hn z (qd hz))).2.1;omega,?_⟩
  exact zbZ hd hw rfl rfl
 rw [filter_true,ztK,show zs.map (fun z=>D.bl (nmB z))=(zs.map nmB).map D.bl by rw [qM];rfl]
 walk_at "g"
 refine zhP (b:=true) Lst.at0 (by rw [List.all_map,List.all_eq_true];exact hn) ?_
 walk_at "g"
 refine zvm (zs:=zs) hx.old (by omega) ?_
 rw [zo3 nd]
 have hx1:Lst (S++[Cell.lst ((zs.map nmB).map D.bl)]) x (zs.map D.str):=hx.old
 walk_at "g"
 rw [qa,decide_eq_false (show ¬ ((zs.length:Int)<zs.length) by omega)]
 walk_at "g"
 exact zaj rfl q
def zd8:DSp:=fun ds S Q=>∃ (a b:Int×Int),ds=[p2 a,p2 b]/\zat a.1 b.2/\zat b.1 a.2/\Q (.bl (flt a b)) S
def zjL:DS :=
  (zY (dOp oLt (dOp zax (dOp oIx (zf 0) (dC (.int 0))) (dOp oIx (zf 1) (dC (.int 1)))) (dOp zax (dOp oIx (zf 1) (dC (.int 0))) (dOp oIx (zf 0) (dC (.int 1))))))
theorem zrc:∀ ds So Q,zd8 ds So Q->ds.length=2:=by rintro ds So Q ⟨_,_,rfl,_⟩;rfl
theorem zt9:BodyOk 2 zjL zd8:=by
 rintro ds S Q ⟨a,b,rfl,c1,c2,q⟩
 unfold zjL
 walk_at "g"
 exact fin_same q
def zeN:DSp:=fun ds S Q=>∃ (g:D) (cs:List (Int×Int)) (p:Int×Int),ds=[g,p2 p]/\GAt S g cs/\Grd cs/\Bd 1000 p.1/\Bd 1000 p.2/\Q (.bl (decide (zi4 cs*p.2<=p.1)&&decide (p.1<=zgO cs*p.2))) S
def zik:DS :=
    (zH (zO (dTup (zm (dOp oIx (dOp oIx (zcw "corners" (zf 0)) (dC (.int 0))) (dC (.int 0))) (zm (dC (.int 1)) zB))) (zE 2))
 (zH (zO (dTup (zm (dOp oIx (dOp oIx (zcw "corners" (zf 0)) (dUn zck (dC (.int 1)))) (dC (.int 0))) (zm (dC (.int 1)) zB))) (zE 3))
 (zY (zgM (ziz (dCall zd8 (zm (zf 1) (zm (zf 2) zB)))) (ziz (dCall zd8 (zm (zf 3) (zm (zf 1) zB))))))))
theorem zp4:∀ ds So Q,zeN ds So Q->ds.length=2:=by rintro ds So Q ⟨_,_,_,rfl,_⟩;rfl
theorem zrq:BodyOk 4 zik zeN:=by
 rintro ds S Q ⟨g,cs,p,rfl,⟨n,l,rfl,hn,hl⟩,gr,b1,b2,q⟩
 unfold zik
 have g1:=gr.two
 obtain⟨a,ha,ea⟩:=zed gr
 obtain⟨z,hz,ez⟩:=zjg gr
 have aa:atD (cs.map p2) 0=some (p2 a):=zbt (i:=0) (by rw [qh,ha];rfl)
 have az:atD (cs.map p2) (-1)=some (p2 z):=by
  have hne:cs≠[]:=fun e=>by rw [e] at g1;simp at g1
  have en:cs=cs.dropLast++[z]:=by
   have h2:=List.dropLast_concat_getLast hne
   have h3:cs.getLast hne=z:=by
    rw [List.getLast_eq_getElem]
    have hl':=zao hz
    rw [qb hl'] at hz
    cases hz;rfl
   rw [h3] at h2
   exact h2.symm
  rw [en,qr];exact zgQ
 obtain⟨ba,_⟩:=gr.bd a (qd ha)
 obtain⟨bz,_⟩:=gr.bd z (qd hz)
 rw [ea,ez] at q
 have e1:flt p (a.1,1)=decide (p.1<a.1*p.2):=by unfold flt;dsimp only;rw [Int.mul_one]
 have e2:flt (z.1,1) p=decide (z.1*p.2<p.1):=by unfold flt;dsimp only;rw [Int.mul_one]
 have c1:zat a.1 p.2:=.inl ⟨ba.mono (by decide),b2.mono (by decide)⟩
 have c2:zat z.1 p.2:=.inl ⟨bz.mono (by decide),b2.mono (by decide)⟩
 have c3:∀ u:Int,zat u 1:=fun u=>.inr (.inr (by decide))
 walk_at "g"
 refine⟨p,(a.1,1),rfl,c3 _,c1,?_⟩
 rw [e1]
 walk_at "g"
 refine zko (fun g=>?_) (fun g=>?_)
 ·walk_at "g"
  refine⟨(z.1,1),p,rfl,c2,c3 _,?_⟩
  rw [e2]
  walk_at "g"
  rw [decide_eq_true (show a.1*p.2<=p.1 by omega),Bool.true_and] at q
  rw [show (!decide (z.1*p.2<p.1))=decide (p.1<=z.1*p.2) by rw [<- decide_not];exact decide_eq_decide.mpr (by omega)]
  exact fin_same q
 ·rw [decide_eq_false (show ¬ a.1*p.2<=p.1 by omega),Bool.false_and] at q
  exact fin_same q
def zbC:DSp:=fun ds S Q=>∃ (t b:Int),ds=[.int t,.int b]/\Q (.int ((Int.gcd t b:Nat):Int)) S
def zcv:DS :=
    (zH (zj7 (dT (dOp oNe (zf 1) (dC (.int 0)))) (zH (zO (dOp oMod (zf 0) (zf 1)) (zE 2))
 (zH (zO (zf 1) (zE 0))
 (zO (zf 2) (zE 1)))))
 (zY (dB zmk (zm (zf 0) zB))))
theorem zh6:∀ ds So Q,zbC ds So Q->ds.length=2:=by rintro ds So Q ⟨_,_,rfl,_⟩;rfl
theorem ziS:BodyOk 3 zcv zbC:=by
 rintro ds S Q ⟨t,b,rfl,q⟩
 unfold zcv
 refine Dp.zo6 ?_
 refine zvr (fun m Z S'=>S'=S/\∃ (x y:Int) (w:Option D),Z=[some (.int x),some (.int y),w]/\m=y.natAbs/\Int.gcd x y=Int.gcd t b) b.natAbs ⟨rfl,_,_,none,rfl,rfl,rfl⟩ ?_
 rintro m Z S' ⟨rfl,x,y,w,rfl,rfl,e⟩
 walk_at "g"
 refine zko (fun h0=>?_) (fun h0=>?_)
 ·refine zqK ?_
  refine Dp.zo6 ?_
  refine Dp.zsu ?_
  refine Dp.zoN ?_
  refine Dp.zhl rfl ?_
  refine Dp.zhl rfl ?_
  refine zvT h0 ?_
  walk_at "g"
  exact⟨_,znn h0,rfl,_,_,_,rfl,rfl,(zri x y).trans e⟩
 ·subst h0
  rw [Int.gcd_zero] at e
  walk_at "g"
  rw [<- e] at q
  exact fin_same q
def zdr:DSp:=fun ds S Q=>∃ (t b:Int),ds=[.int t,.int b]/\b≠0/\Bd 8000 b/\Q (p2 (frT t b,frB t b)) S
def zfs:DS :=
    (zH (zO (dCall zbC (zm (zf 0) (zm (zf 1) zB))) (zE 2))
 (zH (sJ (sIf (dT (dOp oLt (zf 1) (dC (.int 0)))) (zO (dUn zck (zf 2)) (zE 2)) zZ))
 (zY (dTup (zm (dOp oDiv (zf 0) (zf 2)) (zm (dOp oDiv (zf 1) (zf 2)) zB))))))
theorem zmJ:∀ ds So Q,zdr ds So Q->ds.length=2:=by rintro ds So Q ⟨_,_,rfl,_⟩;rfl
theorem zno:BodyOk 3 zfs zdr:=by
 rintro ds S Q ⟨t,b,rfl,hb,bb,q⟩
 unfold zfs
 have hgn:=zsE (t:=t) (b:=b) hb
 have hgb:=zwG (t:=t) (b:=b) hb bb
 walk_at "g"
 refine⟨t,b,rfl,?_⟩
 walk_at "g"
 refine r_J (fun Z S'=>S'=S/\Z=[some (.int t),some (.int b),some (.int (gd t b))]) ?_ ?_
 ·walk_at "g"
  refine r_d (fun g=>?_) (fun g=>?_)
  ·have hg:gd t b=-((Int.gcd t b:Nat):Int):=if_pos g
   walk_at "g"
   exact⟨rfl,by rw [hg];rfl⟩
  ·have hg:gd t b=((Int.gcd t b:Nat):Int):=if_neg g
   walk_at "g"
   exact⟨rfl,by rw [hg];rfl⟩
 rintro Z S' ⟨rfl,rfl⟩
 refine Dp.zst ?_
 refine Dp.zsq ?_
 refine Dp.zl2 ?_
 refine Dp.zoN ?_
 refine Dp.zhl rfl ?_
 refine Dp.zhl rfl ?_
 refine zqy ⟨hgn,hgb⟩ ?_
 refine Dp.zl2 ?_
 refine Dp.zoN ?_
 refine Dp.zhl rfl ?_
 refine Dp.zhl rfl ?_
 refine zqy ⟨hgn,hgb⟩ ?_
 walk_at "g"
 exact fin_same q
def zcW:DSp:=fun ds S Q=>∃ (a b p:Int×Int),ds=[p2 a,p2 b,p2 p]/\b.1≠a.1/\0<p.2/\Bd 180 a.1/\Bd 200 a.2/\Bd 180 b.1/\Bd 200 b.2/\Bd 1000 p.1/\Bd 1000 p.2/\∀ c:Int×Int,Sv c (hvT a b p) (hvB a b p)->Int.gcd c.1 c.2=1->Bd 1400 c.1->Bd 1400 c.2->Q (p2 c) S
theorem zwu {t b:Int}(hb:b≠0):Sv (frT t b,frB t b) (if 0<b then t else -t) (if 0<b then b else -b):=by
 have h1:=zrd t b
 have h2:=zts (t:=t) hb
 refine⟨by show 0<frB t b;omega,?_⟩
 show frT t b*_=_*frB t b
 split
 ·rw [h1,Int.mul_comm]
 ·rw [Int.mul_neg,h1,Int.neg_mul,Int.mul_comm]
def zeW:DS :=
    (zH (zO (dOp zah (dOp oIx (zf 1) (dC (.int 0))) (dOp oIx (zf 0) (dC (.int 0)))) (zE 3))
 (zH (zO (dOp zah (dOp oIx (zf 1) (dC (.int 1))) (dOp oIx (zf 0) (dC (.int 1)))) (zE 4))
 (zH (zO (dOp zae (dOp zax (dOp zax (dOp oIx (zf 0) (dC (.int 1))) (zf 3)) (dOp oIx (zf 2) (dC (.int 1)))) (dOp zax (zf 4) (dOp zah (dOp oIx (zf 2) (dC (.int 0))) (dOp zax (dOp oIx (zf 0) (dC (.int 0))) (dOp oIx (zf 2) (dC (.int 1))))))) (zE 5))
 (zY (dCall zdr (zm (zf 5) (zm (dOp zax (zf 3) (dOp oIx (zf 2) (dC (.int 1)))) zB)))))))
theorem zlp:∀ ds So Q,zcW ds So Q->ds.length=3:=by rintro ds So Q ⟨_,_,_,rfl,_⟩;rfl
theorem zmO:BodyOk 6 zeW zcW:=by
 rintro ds S Q ⟨a,b,p,rfl,hne,hp,b1,b2,b3,b4,b5,b6,q⟩
 unfold zeW
 have r1:Bd 181 (b.1-a.1):=Bd.sub b3 b1
 have r2:Bd 201 (b.2-a.2):=Bd.sub b4 b2
 have m1:Bd 381 (a.2*(b.1-a.1)):=Bd.mul b2 r1
 have m2:Bd 1381 (a.2*(b.1-a.1)*p.2):=Bd.mul m1 b6
 have m3:Bd 1180 (a.1*p.2):=Bd.mul b1 b6
 have m4:Bd 1181 (p.1-a.1*p.2):=Bd.sub (b5.mono (by decide)) m3
 have m5:Bd 1382 ((b.2-a.2)*(p.1-a.1*p.2)):=Bd.mul r2 m4
 have m6:Bd 1181 ((b.1-a.1)*p.2):=Bd.mul r1 b6
 have bT:Bd 1400 (a.2*(b.1-a.1)*p.2+(b.2-a.2)*(p.1-a.1*p.2)):=(Bd.add (n:=1382) (m2.mono (by decide)) m5).mono (by decide)
 have c1:zat a.2 (b.1-a.1):=.inl ⟨b2.mono (by decide),r1.mono (by decide)⟩
 have c2:zat (a.2*(b.1-a.1)) p.2:=.inl ⟨m1.mono (by decide),b6.mono (by decide)⟩
 have c3:zat a.1 p.2:=.inl ⟨b1.mono (by decide),b6.mono (by decide)⟩
 have c4:zat (b.2-a.2) (p.1-a.1*p.2):=.inl ⟨r2.mono (by decide),m4.mono (by decide)⟩
 have c5:zat (b.1-a.1) p.2:=.inl ⟨r1.mono (by decide),b6.mono (by decide)⟩
 walk_at "g"
 have hr:(b.1-a.1)*p.2≠0:=Int.mul_ne_zero (by omega) (by omega)
 refine⟨_,_,rfl,hr,m6.mono (by decide),?_⟩
 refine fin_same (q _ ?_ (zuV hr) (zup bT) ((zvv m6).mono (by decide)))
 have hs:=zwu (t:=a.2*(b.1-a.1)*p.2+(b.2-a.2)*(p.1-a.1*p.2)) hr
 unfold hvT hvB
 by_cases g:0<b.1-a.1
 ·have:0<(b.1-a.1)*p.2:=Int.mul_pos g hp
  rw [if_pos this,if_pos this] at hs
  rw [if_pos g,if_pos g];exact hs
 ·have:¬ 0<(b.1-a.1)*p.2:=fun z=>by
   have:=Int.mul_pos (show 0 < -(b.1-a.1) by omega) hp
   rw [Int.neg_mul] at this
   omega
  rw [if_neg this,if_neg this] at hs
  rw [if_neg g,if_neg g];exact hs
def zcP:zeH:=fun ds S Q ex=>∃ (g:D) (cs:List (Int×Int)) (p:Int×Int),ds=[g,p2 p]/\GAt S g cs/\Grd cs/\0<p.2/\Bd 1000 p.1/\Bd 1000 p.2/\(¬ OnG cs p->ex "OffGround" S)/\(OnG cs p->∀ a b c:Int×Int,zhj cs p=some (a,b)->Sv c (hvT a b p) (hvB a b p)->0<hvB a b p->Int.gcd c.1 c.2=1->Bd 1400 c.1->Bd 1400 c.2->Q (p2 c) S)
def ze4 (ex : XR) : DS :=
    (zH (sIf (zeA (dT (dCall zeN (zm (zf 0) (zm (zf 1) zB))))) (zfN ex "OffGround") zZ)
 (zH (zO (zcw "corners" (zf 0)) (zE 2))
 (zH (zO (dC (.int 1)) (zE 3))
 (zH (zj7 (dT (dCall zd8 (zm (dTup (zm (dOp oIx (dOp oIx (zf 2) (zf 3)) (dC (.int 0))) (zm (dC (.int 1)) zB))) (zm (zf 1) zB)))) (zr1 3 (dC (.int 1))))
 (zY (dCall zcW (zm (dOp oIx (zf 2) (dOp zah (zf 3) (dC (.int 1)))) (zm (dOp oIx (zf 2) (zf 3)) (zm (zf 1) zB)))))))))
theorem zlB:∀ ds So Q ex,zcP ds So Q ex->ds.length=2:=by rintro ds So Q ex ⟨_,_,_,rfl,_⟩;rfl
theorem zme:zec 4 ze4 zcP:=by
 rintro ds S Q ex ⟨g,cs,p,rfl,hg,gr,hp,b1,b2,hx,q⟩
 unfold ze4
 obtain⟨n,l,rfl,hn,hl⟩:=id hg
 walk_at "g"
 refine⟨_,cs,p,rfl,hg,gr,b1,b2,?_⟩
 by_cases on:OnG cs p
 case neg =>
  have e:(decide (zi4 cs*p.2<=p.1)&&decide (p.1<=zgO cs*p.2))=false:=Bool.eq_false_iff.mpr fun z=>on (by rw [qA,decide_eq_true_eq,decide_eq_true_eq] at z;exact z)
  rw [e]
  walk_at "g"
  exact hx on
 have q:=q on
 obtain⟨kk,a,b,ha,hb,hle,hlt⟩:=zjE gr.two on.2
 have seg:=seg_at ha hb hle hlt
 have hk:=zao hb
 rw [decide_eq_true on.1,decide_eq_true on.2,show (true&&true)=true from rfl]
 walk_at "g"
 refine zvr (fun m Z S'=>S'=S/\∃ j:Nat,Z=[some (.ref n),some (p2 p),some (.ref l),some (.int ((j:Int)+1))]/\m=kk-j/\j<=kk) kk ⟨rfl,0,rfl,rfl,by omega⟩ ?_
 rintro m Z S' ⟨rfl,j,rfl,rfl,hj⟩
 obtain⟨c,hc,ac⟩:=zha (cs:=cs) (k:=(j:Int)+1) (by omega) (by omega)
 have hc':cs[j+1]?=some c:=by rwa [show ((j:Int)+1).toNat=j+1 by omega] at hc
 obtain⟨bc,bc2⟩:=gr.bd c (qd hc)
 have e1:flt (c.1,1) p=decide (c.1*p.2<p.1):=by unfold flt;dsimp only;rw [Int.mul_one]
 walk_at "g"
 refine⟨(c.1,1),p,rfl,.inl ⟨bc.mono (by decide),b2.mono (by decide)⟩,.inr (.inr (show (1:Int).natAbs<2 ^ 64 by decide)),?_⟩
 rw [e1]
 walk_at "g"
 refine r_d (fun h=>?_) (fun h=>?_)
 ·walk_at "g"
  have hjk:j<kk:=by
   rcases qD j kk with z | z
   ·exact z
   ·have:j=kk:=by omega
    subst this
    rw [hb] at hc'
    cases hc'
    omega
  exact⟨kk-(j+1),by omega,rfl,j+1,by simp,rfl,by omega⟩
 ·have hjk:j=kk:=by
   rcases qD j kk with z | z
   ·have:=hlt (j+1) c (by omega) (by omega) hc'
    omega
   ·omega
  subst hjk
  rw [hb] at hc'
  cases hc'
  have aa:atD (cs.map p2) ((j:Int)+1-1)=some (p2 a):=by
   rw [show (j:Int)+1-1=(j:Int) by omega]
   exact zbt (by rw [qh,ha];rfl)
  obtain⟨ba1,ba2⟩:=gr.bd a (qd ha)
  have hab:=zdu gr (show j<j+1 by omega) ha hb
  walk_at "g"
  refine⟨a,b,p,rfl,by omega,hp,ba1.mono (by decide),ba2.mono (by decide),bc.mono (by decide),bc2.mono (by decide),b1,b2,fun c hs hg d1 d2=>?_⟩
  exact fin_same (q a b c seg hs (znI (by omega) hp) hg d1 d2)
def zee:DSp:=fun ds S Q=>∃ (g:D) (cs:List (Int×Int)) (s:Int×Int),ds=[g,p2 s]/\GAt S g cs/\Grd cs/\Bd 180 s.1/\Bd 200 s.2/\∀ b:Bool,(b=true↔zdS cs s)->Q (.bl b) S
def zg0:DS :=
    (zH (zO (dTup (zm (dOp oIx (zf 1) (dC (.int 0))) (zm (dC (.int 1)) zB))) (zE 2))
 (zH (sIf (zeA (dT (dCall zeN (zm (zf 0) (zm (zf 2) zB))))) (zY (dC (.bl false))) zZ)
 (zY (ziz (dCall zd8 (zm (dTup (zm (dOp oIx (zf 1) (dC (.int 1))) (zm (dC (.int 1)) zB))) (zm (zcQ zcP xF (zm (zf 0) (zm (zf 2) zB))) zB)))))))
theorem zoZ:∀ ds So Q,zee ds So Q->ds.length=2:=by rintro ds So Q ⟨_,_,_,rfl,_⟩;rfl
theorem zp6:BodyOk 3 zg0 zee:=by
 rintro ds S Q ⟨g,cs,s,rfl,hg,gr,b1,b2,q⟩
 unfold zg0
 have bo:Bd 1000 (1:Int):=Bd.lit (by decide) (by decide)
 walk_at "g"
 refine⟨g,cs,(s.1,1),rfl,hg,gr,b1.mono (by decide),bo,?_⟩
 by_cases on:OnG cs (s.1,1)
 case neg =>
  have e:(decide (zi4 cs*(s.1,(1:Int)).2<=(s.1,(1:Int)).1)&&decide ((s.1,(1:Int)).1<=zgO cs*(s.1,(1:Int)).2))=false:=Bool.eq_false_iff.mpr fun z=>on (by rw [qA,decide_eq_true_eq,decide_eq_true_eq] at z;exact z)
  rw [e]
  walk_at "g"
  exact fin_same (q false ⟨fun z=>(by cases z),fun z=>absurd z.1 on⟩)
 rw [decide_eq_true on.1,decide_eq_true on.2,show (true&&true)=true from rfl]
 walk_at "g"
 refine⟨g,cs,(s.1,1),rfl,hg,gr,(show (0:Int)<1 by decide),b1.mono (by decide),bo,fun off=>absurd on off,fun _ a b c seg sv hb hgcd d1 d2=>?_⟩
 walk_at "g"
 refine⟨(s.2,1),c,rfl,.inl ⟨b2.mono (by decide),d2.mono (by decide)⟩,.inr (.inr (show (1:Int).natAbs<2 ^ 64 by decide)),?_⟩
 rw [zur (t:=s.2) (b:=1) (by decide) hb ⟨(show (0:Int)<1 by decide),rfl⟩ sv]
 walk_at "g"
 refine fin_same (q _ ?_)
 rw [Bool.not_eq_true',decide_eq_false_iff_not]
 constructor
 ·intro h
  refine⟨on,fun a' b' seg'=>?_⟩
  rw [seg] at seg';cases seg';omega
 ·intro h
  have:=h.2 a b seg
  omega
def zbv:DSp:=fun ds S Q=>∃ (g y:D) (cs:List (Int×Int)) (bs:List (Str×(Int×Int))),ds=[g,y]/\GAt S g cs/\Grd cs/\Lst S y (bs.map bcD)/\bs.length<=100/\(∀ b∈bs,zdS cs b.2/\Bd 180 b.2.1/\Bd 200 b.2.2)/\Q .non S
def zce:DS :=
  (sIf (zeA (dT (dB zhX (zm (dLC 3 [0] (zaZ (zf 1)) (zc6 3 (zaI (zE 0) (zaI (zE 1) (zaI (zE 2) zc9)))) zbI (dCall zee (zm (zf 3) (zm (dTup (zm (zf 1) (zm (zf 2) zB))) zB)))) zB)))) zcC zZ)
theorem zhF:∀ ds So Q,zbv ds So Q->ds.length=2:=by rintro ds So Q ⟨_,_,_,_,rfl,_⟩;rfl
theorem zhQ:BodyOk 2 zce zbv:=by
 rintro ds S Q ⟨g,y,cs,bs,rfl,hg,gr,hy,hl,hb,q⟩
 unfold zce
 walk_at "g"
 refine za5 (fun _=>true) (zoX fun _=>.bl true) hy (by rw [qa];unfold big;omega) (fun i d ys hd hw=>?_) ?_
 ·obtain⟨b,hbi,rfl⟩:=zjD hd
  obtain⟨s1,s2,s3⟩:=hb b (qd hbi)
  walk_at "g"
  refine⟨g,cs,b.2,rfl,hg,gr,s2,s3,fun r hr=>?_⟩
  rw [hr.mpr s1]
  exact zbZ hd hw rfl rfl
 rw [filter_true,zjn,show bs.map (fun _=>D.bl true)=(bs.map fun _=>true).map D.bl by rw [qM];rfl]
 walk_at "g"
 refine zhP (b:=true) Lst.at0 (by rw [List.all_map,List.all_eq_true];intro _ _;rfl) ?_
 walk_at "g"
 exact zaj rfl q
def zdE:DSp:=fun ds S Q=>∃ i:Int,ds=[.int i]/\Q (.bl true) S
def zfw:DS :=
  (zY (zgM (dB zhq (zm (zf 0) (zm (dC (.ty "int")) zB))) (ziz (dB zhq (zm (zf 0) (zm (dC (.ty "bool")) zB))))))
theorem zmd:∀ ds So Q,zdE ds So Q->ds.length=1:=by rintro ds So Q ⟨_,rfl,_⟩;rfl
theorem znl:BodyOk 1 zfw zdE:=by
 rintro ds S Q ⟨i,rfl,q⟩
 unfold zfw
 walk_at "g"
 exact fin_same q
def zfc:DSp:=fun ds S Q=>∃ F:Fg,ds=[fgD F]/\F.x0<=F.x1/\F.z0<=F.z1/\F.f<=F.l/\Q (.bl true) S
def zhr:DS :=
    (zH (sIf (dOr (zeA (dT (dB zhq (zm (zf 0) (zm (dC (.ty "tuple")) zB))))) (dT (dOp oNe (dB zaH (zm (zf 0) zB)) (dC (.int 8))))) (zY (dC (.bl false))) zZ)
 (zH (sIf (zeA (dT (dB zhX (zm (dLC 1 [] (zaZ (zf 0)) (zE 0) zbI (dCall zdE (zm (zf 0) zB))) zB)))) (zY (dC (.bl false))) zZ)
 (zY (zgM (dOp oLe (dOp oIx (zf 0) (dC (.int 0))) (dOp oIx (zf 0) (dC (.int 1)))) (zgM (dOp oLe (dOp oIx (zf 0) (dC (.int 2))) (dOp oIx (zf 0) (dC (.int 3)))) (dOp oLe (dOp oIx (zf 0) (dC (.int 4))) (dOp oIx (zf 0) (dC (.int 5)))))))))
theorem zpj:∀ ds So Q,zfc ds So Q->ds.length=1:=by rintro ds So Q ⟨_,rfl,_⟩;rfl
theorem zqv:BodyOk 1 zhr zfc:=by
 rintro ds S Q ⟨F,rfl,h1,h2,h3,q⟩
 unfold zhr
 walk_at "g"
 rw [show (!decide ((([D.int F.x0,D.int F.x1,D.int F.z0,D.int F.z1,D.int F.f,D.int F.l,D.int F.g,D.int F.s]:List D).length:Int)=8))=false by rfl]
 walk_at "g"
 refine za5 (fun _=>true) (fun _=>.bl true) True.intro (by show 8<=big;unfold big;decide) (fun i d ys hd hw=>?_) ?_
 ·obtain⟨z,_,rfl⟩:=zdh (zs:=[F.x0,F.x1,F.z0,F.z1,F.f,F.l,F.g,F.s]) hd
  walk_at "g"
  refine⟨z,rfl,?_⟩
  exact zbZ hd hw rfl rfl
 walk_at "g"
 refine zhP (bs:=List.replicate 8 true) (b:=true) Lst.at0 rfl ?_
 walk_at "g"
 rw [decide_eq_true h1]
 walk_at "g"
 rw [decide_eq_true h2]
 walk_at "g"
 rw [decide_eq_true h3]
 exact zaj rfl q
theorem zvD {α:Type}(xs:List α)(f:α->D):(xs.map f).map (fun _=>D.bl true)=(xs.map fun _=>true).map D.bl:=by rw [qM,qM];rfl
def zbu:DSp:=fun ds S Q=>∃ (z:D) (fs:List Fg),ds=[z]/\Lst S z (fs.map fgD)/\fs.length<=100/\(∀ F∈fs,FgV F)/\Q .non S
def zcc:DS :=
  (sIf (zeA (dT (dB zhX (zm (dLC 1 [] (zaZ (zf 0)) (zE 0) zbI (dCall zfc (zm (zf 0) zB))) zB)))) zcC zZ)
theorem zhx:∀ ds So Q,zbu ds So Q->ds.length=1:=by rintro ds So Q ⟨_,_,rfl,_⟩;rfl
theorem zhY:BodyOk 1 zcc zbu:=by
 rintro ds S Q ⟨z,fs,rfl,hz,hl,hf,q⟩
 unfold zcc
 walk_at "g"
 refine za5 (fun _=>true) (fun _=>.bl true) hz (by rw [qa];unfold big;omega) (fun i d ys hd hw=>?_) ?_
 ·obtain⟨F,hF,rfl⟩:=zjY hd
  have k:=hf F (qd hF)
  walk_at "g"
  refine⟨F,rfl,k.b.x,k.b.z,k.o,?_⟩
  exact zbZ hd hw rfl rfl
 rw [filter_true,zvD]
 walk_at "g"
 refine zhP (b:=true) Lst.at0 (by rw [List.all_map,List.all_eq_true];intro _ _;rfl) ?_
 walk_at "g"
 exact zaj rfl q
def zbh:DSp:=fun ds S Q=>∃ (hz:Option Int) (a b d:Int),ds=[zbd hz,.int a,.int b,.int d]/\a<=b/\0<=d/\(∀ z,hz=some z->0<=z)/\Q .non S
def zb2:DS :=
    (zH (sIf (dT (dOp oGt (zf 1) (zf 2))) zcC zZ)
 (zH (sIf (dT (dOp oLt (zf 3) (dC (.int 0)))) zcC zZ)
 (sIf (zdR (dT (dOp zd3 (zf 0) (dC .non))) (dT (dOp oLt (zf 0) (dC (.int 0))))) zcC zZ)))
theorem zhn:∀ ds So Q,zbh ds So Q->ds.length=4:=by rintro ds So Q ⟨_,_,_,_,rfl,_⟩;rfl
theorem zhy:BodyOk 4 zb2 zbh:=by
 rintro ds S Q ⟨hz,a,b,d,rfl,hab,hd,hh,q⟩
 unfold zb2
 walk_at "g"
 rw [decide_eq_false (show ¬ b<a by omega)]
 walk_at "g"
 rw [decide_eq_false (show ¬ d<0 by omega)]
 cases hz with
 | none =>
  walk_at "g"
  exact fin_same q
 | some z =>
  have:=hh z rfl
  unfold zbd
  walk_at "g"
  rw [decide_eq_false (show ¬ z<0 by omega)]
  walk_at "g"
  exact fin_same q
def zdi:DSp:=fun ds S Q=>∃ (S0:Sto) (g y z:D) (V:Vl),ds=[.ref S0.length,g,y,z,zbd V.hz,.int V.h0,.int V.h1,.int V.dl]/\S=S0++[.ins "Valley" []]/\GAt S0 g V.cs/\Lst S0 y (V.bs.map bcD)/\Lst S0 z (V.fs.map fgD)/\zcM V/\∀ T,VAt (S0++T) (.ref S0.length) V->Q .non (S0++T)
def zbU:DS :=
    (zH (zbn (dCall za4 (zm (zf 2) (zm (zf 3) zB))))
 (zH (zbn (dCall zbg (zm (dLC 1 [] (zaZ (zf 2)) (zE 0) zbI (dOp oIx (zf 0) (dC (.int 0)))) zB)))
 (zH (zbn (dCall zbv (zm (zf 1) (zm (zf 2) zB))))
 (zH (zbn (dCall zbu (zm (zf 3) zB)))
 (zH (zbn (dCall zbh (zm (zf 4) (zm (zf 5) (zm (zf 6) (zm (zf 7) zB))))))
 (zH (zeV "Valley" "ground" (zf 0) (dCall zf3 (zm (zcw "corners" (zf 1)) zB)))
 (zH (zeV "Valley" "beacons" (zf 0) (dB zen (zm (zf 2) zB)))
 (zH (zeV "Valley" "fogs" (zf 0) (dB zen (zm (zf 3) zB)))
 (zH (zeV "Valley" "haze" (zf 0) (zf 4))
 (zH (zeV "Valley" "first" (zf 0) (zf 5))
 (zH (zeV "Valley" "last" (zf 0) (zf 6))
 (zeV "Valley" "delay" (zf 0) (zf 7)))))))))))))
theorem zj5:∀ ds So Q,zdi ds So Q->ds.length=8:=by rintro ds So Q ⟨_,_,_,_,_,rfl,_⟩;rfl
theorem zkx:BodyOk 8 zbU zdi:=by
 rintro ds S Q ⟨S0,g,y,z,V,rfl,rfl,hg,hy,hz,ok,q⟩
 unfold zbU
 obtain⟨Sa,hSa⟩:∃ Sa:Sto,Sa=S0++[.ins "Valley" []]:=⟨_,rfl⟩
 have hya:Lst Sa y (V.bs.map bcD):=hSa▸hy.old
 have hza:Lst Sa z (V.fs.map fgD):=hSa▸hz.old
 rw [<- hSa]
 walk_at "g"
 refine⟨y,z,_,_,rfl,hya,hza,by rw [qa];exact ok.b1,by rw [qa];exact ok.b12,by rw [qa];exact ok.f12,?_⟩
 walk_at "g"
 have b12:=ok.b12
 have f12:=ok.f12
 refine za5 (fun _=>true) (zoX fun b=>.str b.1) hya (by rw [qa];unfold big;omega) (fun i d ys hd hw=>?_) ?_
 ·obtain⟨b,_,rfl⟩:=zjD hd
  walk_at "g"
  exact zbZ hd hw rfl rfl
 rw [filter_true,zjn,show V.bs.map (fun b=>D.str b.1)=(V.bs.map (·.1)).map D.str by rw [qM];rfl,hSa]
 walk_at "g"
 refine⟨_,V.bs.map (·.1),rfl,Lst.at rfl,by rw [qa];omega,fun n hn=>?_,ok.nd,?_⟩
 ·obtain⟨b,hb,rfl⟩:=qI.mp hn
  exact ok.nm b hb
 walk_at "g"
 generalize (V.bs.map (·.1)).map D.str=nms
 refine⟨g,y,V.cs,V.bs,rfl,hg.old,ok.gr,hy.old,by omega,fun b hb=>⟨ok.st b hb,ok.bd b hb⟩,?_⟩
 walk_at "g"
 refine⟨z,V.fs,rfl,hz.old,by omega,ok.fg,?_⟩
 walk_at "g"
 refine⟨V.hz,_,_,_,rfl,ok.hh,ok.dl,ok.hz,?_⟩
 obtain⟨gn,gl,rfl,hgn,hgl⟩:=hg
 have hgn1:(S0++[.ins "Valley" [],.lst nms])[gn]?=some (.ins "Ground" [("corners",.ref gl)]):=zay hgn
 walk_at "g"
 refine⟨_,_,V.cs,rfl,rfl,.inr ⟨gl,rfl,zay hgl⟩,ok.gr,⟨rfl,?_⟩⟩
 rw [qF,show (S0++[Cell.ins "Valley" [],.lst nms]).length=S0.length+2 by simp,show ([Cell.ins "Valley" [],.lst nms]:Sto)++[.ins "Ground" [("corners",.ref (S0.length+2+1))],.lst (V.cs.map p2)]=[.ins "Valley" [],.lst nms,.ins "Ground" [("corners",.ref (S0.length+3))],.lst (V.cs.map p2)] from rfl]
 walk_at "g"
 refine⟨S0.length,[],rfl,zaz,by decide,?_⟩
 rw [zc0,zrU]
 have hy2:∀ T,Lst (S0++T) y (V.bs.map bcD):=fun T=>hy.old
 have hz2:∀ T,Lst (S0++T) z (V.fs.map fgD):=fun T=>hz.old
 walk_at "g"
 refine⟨S0.length,_,rfl,zaz,by simp,?_⟩
 rw [zc0,vp2]
 walk_at "g"
 refine⟨S0.length,_,rfl,zaz,by simp,?_⟩
 rw [zc0,vp3]
 walk_at "g"
 refine⟨S0.length,_,rfl,zaz,by simp,?_⟩
 rw [zc0,vp4]
 walk_at "g"
 refine⟨S0.length,_,rfl,zaz,by simp,?_⟩
 rw [zc0,vp5]
 walk_at "g"
 refine⟨S0.length,_,rfl,zaz,by simp,?_⟩
 rw [zc0,vp6]
 walk_at "g"
 refine⟨S0.length,_,rfl,zaz,by simp,?_⟩
 rw [zc0,vp7]
 refine fin_same (q _ ⟨S0.length,_,_,_,rfl,zaz,⟨_,_,rfl,(zbQ _ _ 2).trans rfl,(zbQ _ _ 3).trans rfl⟩,(zbQ _ _ 4).trans rfl,(zbQ _ _ 5).trans rfl⟩)
def zie:DSp:=zoQ "Valley" zdi
def zcE:DSp:=fun ds S Q=>∃ (x y z:D) (V:Vl),ds=[vlD x y z V]/\VlS S x y z V/\zcM V/\∀ (T:Sto) (v:D),VAt (S++T) v V->Q v (S++T)
def zel:DS :=
  (zY (dCall zie (zm (dCall zf3 (zm (dB zen (zm (dOp oIx (zf 0) (dC (.int 0))) zB)) zB)) (zm (dB zen (zm (dOp oIx (zf 0) (dC (.int 1))) zB)) (zm (dB zen (zm (dOp oIx (zf 0) (dC (.int 2))) zB)) (zm (dOp oIx (zf 0) (dC (.int 3))) (zm (dOp oIx (zf 0) (dC (.int 4))) (zm (dOp oIx (zf 0) (dC (.int 5))) (zm (dOp oIx (zf 0) (dC (.int 6))) zB)))))))))
theorem zku:∀ ds So Q,zcE ds So Q->ds.length=1:=by rintro ds So Q ⟨_,_,_,_,rfl,_⟩;rfl
theorem zli:BodyOk 1 zel zcE:=by
 rintro ds S Q ⟨x,y,z,V,rfl,hs,ok,q⟩
 unfold zel
 obtain⟨kx,ky,kz⟩:=hs
 walk_at "g"
 refine⟨S++[.lst (V.cs.map p2)],_,V.cs,by simp,rfl,Lst.at0,ok.gr,⟨rfl,?_⟩⟩
 obtain⟨Sb,hSb⟩:∃ Sb:Sto,Sb=S++[Cell.lst (V.cs.map p2)]++[.ins "Ground" [("corners",.ref ((S++[Cell.lst (V.cs.map p2)]).length+1))],.lst (V.cs.map p2)]:=⟨_,rfl⟩
 have hg:GAt Sb (.ref (S.length+1)) V.cs:=hSb▸⟨_,_,by rw [show S.length+1=(S++[Cell.lst (V.cs.map p2)]).length by simp],zaz,(zbQ _ _ 1).trans rfl⟩
 have e1:∃ T,Sb=S++T:=zcG ⟨_,rfl⟩ hSb
 have ky1:Lst Sb y (V.bs.map bcD):=by obtain⟨T,rfl⟩:=e1;exact ky.old
 have kz1:Lst Sb z (V.fs.map fgD):=by obtain⟨T,rfl⟩:=e1;exact kz.old
 rw [<- hSb]
 clear hSb
 walk_at "g"
 have kz2:Lst (Sb++[.lst (V.bs.map bcD)]) z (V.fs.map fgD):=kz1.old
 walk_at "g"
 refine⟨Sb++[.lst (V.bs.map bcD),.lst (V.fs.map fgD)],_,_,_,V,by simp,rfl,hg.old,Lst.at0,Lst.at (k:=1) rfl,ok,fun T hv=>⟨rfl,?_⟩⟩
 obtain⟨T1,rfl⟩:=e1
 have hv':VAt (S++(T1++([.lst (V.bs.map bcD),.lst (V.fs.map fgD)]++T))) (.ref ((S++T1)++[Cell.lst (V.bs.map bcD),.lst (V.fs.map fgD)]).length) V:=by
  have e:S++(T1++([Cell.lst (V.bs.map bcD),.lst (V.fs.map fgD)]++T))=S++T1++[Cell.lst (V.bs.map bcD),.lst (V.fs.map fgD)]++T:=by simp
  rw [e];exact hv
 have:=q _ _ hv'
 have e2:S++T1++[Cell.lst (V.bs.map bcD),.lst (V.fs.map fgD)]++T=S++(T1++([Cell.lst (V.bs.map bcD),.lst (V.fs.map fgD)]++T)):=by simp
 rw [e2]
 refine fin_same ?_
 simpa using this
def zc8:DSp:=fun ds S Q=>∃ (x:D) (cs:List (Int×Int)) (a b:Int×Int),ds=[x,p2 a,p2 b]/\Lst S x (cs.map p2)/\(∀ c∈cs,Bd 170 c.1/\Bd 190 c.2)/\(Bd 200 a.1/\Bd 600 a.2)/\(Bd 200 b.1/\Bd 600 b.2)/\∀ r:Bool,(r=true↔zdQ cs a b=none)->Q (.bl r) S
def zeY:DS :=
    (zH (sJ (sIf (dT (dOp oLt (dOp oIx (zf 2) (dC (.int 0))) (dOp oIx (zf 1) (dC (.int 0))))) (zoj 1 2 (zm (zf 2) (zm (zf 1) zB))) zZ))
 (zH (za2 (zaZ (zf 0)) (zE 3) (sIf (zdR (dT (dOp oLt (dOp oIx (zf 1) (dC (.int 0))) (dOp oIx (zf 3) (dC (.int 0))))) (dT (dOp oLt (dOp oIx (zf 3) (dC (.int 0))) (dOp oIx (zf 2) (dC (.int 0)))))) (zH (zO (dOp zax (dOp zah (dOp oIx (zf 2) (dC (.int 1))) (dOp oIx (zf 1) (dC (.int 1)))) (dOp zah (dOp oIx (zf 3) (dC (.int 0))) (dOp oIx (zf 1) (dC (.int 0))))) (zE 4))
 (sIf (dT (dOp oGt (dOp zax (dOp zah (dOp oIx (zf 3) (dC (.int 1))) (dOp oIx (zf 1) (dC (.int 1)))) (dOp zah (dOp oIx (zf 2) (dC (.int 0))) (dOp oIx (zf 1) (dC (.int 0))))) (zf 4))) (zY (dC (.bl false))) zZ)) zZ))
 (zY (dC (.bl true)))))
theorem zlz:∀ ds So Q,zc8 ds So Q->ds.length=3:=by rintro ds So Q ⟨_,_,_,_,rfl,_⟩;rfl
theorem zmF:BodyOk 5 zeY zc8:=by
 rintro ds S Q ⟨x,cs,a,b,rfl,hx,gr,⟨ba1,ba2⟩,⟨bb1,bb2⟩,q⟩
 unfold zeY
 walk_at "g"
 refine r_J (fun Z S'=>S'=S/\∃ o t:Int×Int,Z=[some x,some (p2 o),some (p2 t),none,none]/\o.1<=t.1/\(Bd 200 o.1/\Bd 600 o.2)/\(Bd 200 t.1/\Bd 600 t.2)/\∀ r:Bool,(r=true↔zdQ cs o t=none)->Q (.bl r) S) ?_ ?_
 ·walk_at "g"
  refine r_d (fun h=>?_) (fun h=>?_)
  ·walk_at "g"
   exact⟨rfl,b,a,rfl,by omega,⟨bb1,bb2⟩,⟨ba1,ba2⟩,fun r hr=>q r (by rw [hr,zlW])⟩
  ·walk_at "g"
   exact⟨rfl,a,b,rfl,by omega,⟨ba1,ba2⟩,⟨bb1,bb2⟩,q⟩
 clear ba1 ba2 bb1 bb2 q
 rintro Z S' ⟨rfl,o,t,rfl,hot,⟨bo1,bo2⟩,⟨bt1,bt2⟩,q⟩
 have e1:zdQ cs o t=none↔∀ d∈cs,o.1<d.1->d.1<t.1->¬ (t.2-o.2)*(d.1-o.1)<(d.2-o.2)*(t.1-o.1):=by
  rw [<- Option.isNone_iff_eq_none,zrg,Int.min_eq_left hot,Int.max_eq_right hot]
  constructor
  ·intro h d hd d1 d2
   have:=h d hd d1 d2
   rwa [zqx (.inl ⟨by omega,by omega⟩),show ((d.1-o.1).natAbs:Int)=d.1-o.1 by omega,show ((t.1-o.1).natAbs:Int)=t.1-o.1 by omega] at this
  ·intro h d hd d1 d2
   have:=h d hd d1 d2
   rwa [zqx (.inl ⟨by omega,by omega⟩),show ((d.1-o.1).natAbs:Int)=d.1-o.1 by omega,show ((t.1-o.1).natAbs:Int)=t.1-o.1 by omega]
 walk_at "g"
 refine zaw (fun i Z S2=>S2=S'/\(∃ w1 w2:Option D,Z=[some x,some (p2 o),some (p2 t),w1,w2])/\∀ d∈cs.take i,o.1<d.1->d.1<t.1->¬ (t.2-o.2)*(d.1-o.1)<(d.2-o.2)*(t.1-o.1)) ⟨rfl,⟨none,none,rfl⟩,by simp⟩ (fun i Z S2 h=>h.1▸hx) ?_ ?_
 ·rintro i d Z S2 hd ⟨rfl,⟨w1,w2,rfl⟩,hn⟩
  obtain⟨c,hc,rfl⟩:=zcS hd
  have mc:=qd hc
  obtain⟨bc1,bc2⟩:=gr c mc
  have cm1:zat (c.2-o.2) (t.1-o.1):=.inl ⟨(Bd.sub (bc2.mono (by decide:(190:Nat)<=600)) bo2).mono (by decide),(Bd.sub bt1 bo1).mono (by decide)⟩
  have cm2:zat (t.2-o.2) (c.1-o.1):=.inl ⟨(Bd.sub bt2 bo2).mono (by decide),(Bd.sub (bc1.mono (by decide:(170:Nat)<=200)) bo1).mono (by decide)⟩
  have nxt:(o.1<c.1->c.1<t.1->¬ (t.2-o.2)*(c.1-o.1)<(c.2-o.2)*(t.1-o.1))->∀ d∈cs.take (i+1),o.1<d.1->d.1<t.1->¬ (t.2-o.2)*(d.1-o.1)<(d.2-o.2)*(t.1-o.1):=fun h d hd=>by
   rw [zau hc] at hd
   rcases qu.mp hd with hd | hd
   ·exact hn d hd
   ·have:d=c:=by simpa using hd
    subst this;exact h
  walk_at "g"
  refine r_d (fun h1=>?_) (fun h1=>?_)
  ·walk_at "g"
   refine r_d (fun h2=>?_) (fun h2=>?_)
   ·walk_at "g"
    refine r_d (fun h3=>?_) (fun h3=>?_)
    ·walk_at "g"
     exact fin_same (q false ⟨fun z=>(by cases z),fun z=>absurd h3 (e1.mp z c mc h1 h2)⟩)
    ·walk_at "g"
     exact⟨rfl,⟨_,_,rfl⟩,nxt fun _ _=>h3⟩
   ·walk_at "g"
    exact⟨rfl,⟨_,_,rfl⟩,nxt fun _ z=>absurd z h2⟩
  ·walk_at "g"
   exact⟨rfl,⟨_,_,rfl⟩,nxt fun z=>absurd z h1⟩
 ·rintro Z S2 ⟨rfl,⟨w1,w2,rfl⟩,hn⟩
  rw [qa,qO] at hn
  walk_at "g"
  exact fin_same (q true ⟨fun _=>e1.mpr hn,fun _=>rfl⟩)
def zcL:DSp:=fun ds S Q=>∃ (a w lo hi:Int),ds=[.int a,.int w,.int lo,.int hi]/\∀ e1 e2 x1 x2:Int,zlL lo hi a w e1 e2 x1 x2->Q (.tup [p2 (e1,e2),p2 (x1,x2)]) S
def zfo:DS :=
    (zH (sIf (dT (dOp oEq (zf 1) (dC (.int 0)))) (zY (dOp oIx (zbc (zm (dTup (zm (dTup (zm (dC (.int 0)) (zm (dC (.int 1)) zB))) (zm (dTup (zm (dC (.int 1)) (zm (dC (.int 1)) zB))) zB))) (zm (dTup (zm (dTup (zm (dC (.int 2)) (zm (dC (.int 1)) zB))) (zm (dTup (zm (dC (.int 0)) (zm (dC (.int 1)) zB))) zB))) zB))) (dB zr3 (zm (zrO (dOp oLt (zf 0) (zf 2)) (dOp oLt (zf 3) (zf 0))) zB)))) zZ)
 (zH (sIf (dT (dOp oGt (zf 1) (dC (.int 0)))) (zY (dTup (zm (dTup (zm (dOp zah (zf 2) (zf 0)) (zm (zf 1) zB))) (zm (dTup (zm (dOp zah (zf 3) (zf 0)) (zm (zf 1) zB))) zB)))) zZ)
 (zY (dTup (zm (dTup (zm (dOp zah (zf 0) (zf 3)) (zm (dUn zck (zf 1)) zB))) (zm (dTup (zm (dOp zah (zf 0) (zf 2)) (zm (dUn zck (zf 1)) zB))) zB))))))
theorem zmZ:∀ ds So Q,zcL ds So Q->ds.length=4:=by rintro ds So Q ⟨_,_,_,_,rfl,_⟩;rfl
theorem znb:BodyOk 4 zfo zcL:=by
 rintro ds S Q ⟨a,w,lo,hi,rfl,q⟩
 unfold zfo
 walk_at "g"
 refine r_d (fun h=>?_) (fun h=>?_)
 ·walk_at "g"
  refine r_d (fun h1=>?_) (fun h1=>?_)
  ·walk_at "g"
   exact zaj rfl (q 2 1 0 1 (.inr ⟨h,.inl h1,rfl,rfl,rfl,rfl⟩))
  ·walk_at "g"
   rcases Int.lt_or_le hi a with g | g
   ·rw [decide_eq_true g]
    refine ziI (xs:=[.tup [.tup [.int 0,.int 1],.tup [.int 1,.int 1]],.tup [.tup [.int 2,.int 1],.tup [.int 0,.int 1]]]) Lst.at0 (i:=1) rfl ?_
    exact zaj rfl (q 2 1 0 1 (.inr ⟨h,.inr g,rfl,rfl,rfl,rfl⟩))
   ·rw [decide_eq_false (show ¬ hi<a by omega)]
    refine ziI (xs:=[.tup [.tup [.int 0,.int 1],.tup [.int 1,.int 1]],.tup [.tup [.int 2,.int 1],.tup [.int 0,.int 1]]]) Lst.at0 (i:=0) rfl ?_
    exact zaj rfl (q 0 1 1 1 (.inl (.inl ⟨h,by omega,g,rfl,rfl,rfl,rfl⟩)))
 ·walk_at "g"
  refine r_d (fun h1=>?_) (fun h1=>?_)
  ·walk_at "g"
   exact fin_same (q _ _ _ _ (.inl (.inr (.inr (.inl ⟨h1,rfl,rfl,rfl,rfl⟩)))))
  ·walk_at "g"
   exact fin_same (q _ _ _ _ (.inl (.inr (.inr (.inr ⟨by omega,rfl,rfl,rfl,rfl⟩)))))
def zds:DSp:=fun ds S Q=>∃ (L R B T:Int) (a b:Int×Int),ds=[.tup [.int L,.int R,.int B,.int T],p2 a,p2 b]/\L<=R/\B<=T/\(Bd 700 L/\Bd 700 R/\Bd 700 B/\Bd 700 T)/\(Bd 700 a.1/\Bd 700 a.2)/\(Bd 700 b.1/\Bd 700 b.2)/\∀ r:Bool,(r=true↔Hit L R B T a.1 a.2 b.1 b.2)->Q (.bl r) S
def zfx:DS :=
    (zH (zO (zbc (zm (dTup (zm (dTup (zm (dC (.int 0)) (zm (dC (.int 1)) zB))) (zm (dTup (zm (dC (.int 1)) (zm (dC (.int 1)) zB))) zB))) (zm (dCall zcL (zm (dOp oIx (zf 1) (dC (.int 0))) (zm (dOp zah (dOp oIx (zf 2) (dC (.int 0))) (dOp oIx (zf 1) (dC (.int 0)))) (zm (dOp oIx (zf 0) (dC (.int 0))) (zm (dOp oIx (zf 0) (dC (.int 1))) zB))))) zB))) (zE 3))
 (zH (zbn (dM zcI (zf 3) (zm (dCall zcL (zm (dOp oIx (zf 1) (dC (.int 1))) (zm (dOp zah (dOp oIx (zf 2) (dC (.int 1))) (dOp oIx (zf 1) (dC (.int 1)))) (zm (dOp oIx (zf 0) (dC (.int 2))) (zm (dOp oIx (zf 0) (dC (.int 3))) zB))))) zB)))
 (zH (za2 (zaZ (dLC 1 [] (zaZ (zf 3)) (zE 0) zbI (dOp oIx (zf 0) (dC (.int 0))))) (zE 4) (za2 (zaZ (dLC 1 [] (zaZ (zf 3)) (zE 0) zbI (dOp oIx (zf 0) (dC (.int 1))))) (zE 5) (sIf (dT (dOp oGt (dOp zax (dOp oIx (zf 4) (dC (.int 0))) (dOp oIx (zf 5) (dC (.int 1)))) (dOp zax (dOp oIx (zf 5) (dC (.int 0))) (dOp oIx (zf 4) (dC (.int 1)))))) (zY (dC (.bl false))) zZ)))
 (zY (dC (.bl true))))))
theorem zmH:∀ ds So Q,zds ds So Q->ds.length=3:=by rintro ds So Q ⟨_,_,_,_,_,_,rfl,_⟩;rfl
theorem znA:BodyOk 6 zfx zds:=by
 rintro ds S Q ⟨L,R,B,T,a,b,rfl,hx,hz,⟨bL,bR,bB,bT⟩,⟨ba1,ba2⟩,⟨bb1,bb2⟩,q⟩
 unfold zfx
 walk_at "g"
 refine⟨_,_,_,_,rfl,fun e1 e2 x1 x2 pa=>?_⟩
 walk_at "g"
 refine⟨_,_,_,_,rfl,fun f1 f2 y1 y2 pu=>?_⟩
 walk_at "drho"
 obtain⟨d1,d2,d3,d4⟩:=zlZ pa (by decide) bL bR ba1 (Bd.sub bb1 ba1)
 obtain⟨g1,g2,g3,g4⟩:=zlZ pu (by decide) bB bT ba2 (Bd.sub bb2 ba2)
 have hit:=zwC hx hz pa pu
 unfold ziB at hit
 clear pa pu
 obtain⟨ls,hls⟩:∃ ls:List (Int×Int),ls=[(0,1),(e1,e2),(f1,f2)]:=⟨_,rfl⟩
 obtain⟨hs,hhs⟩:∃ hs:List (Int×Int),hs=[(1,1),(x1,x2),(y1,y2)]:=⟨_,rfl⟩
 have bo:∀ c:Int,0<=c->c<=2->Bd 701 c:=fun c h0 h1=>by
  have:Bd 2 c:=by show _<2 ^ 2;omega
  exact this.mono (by decide)
 have bl:∀ c∈ls,Bd 701 c.1/\Bd 701 c.2:=fun c hc=>by
  rw [hls] at hc
  simp only [qf,qm,or_false] at hc
  rcases hc with rfl | rfl | rfl
  ·exact⟨bo _ (by decide) (by decide),bo _ (by decide) (by decide)⟩
  ·exact⟨d1,d2⟩
  ·exact⟨g1,g2⟩
 have bh:∀ c∈hs,Bd 701 c.1/\Bd 701 c.2:=fun c hc=>by
  rw [hhs] at hc
  simp only [qf,qm,or_false] at hc
  rcases hc with rfl | rfl | rfl
  ·exact⟨bo _ (by decide) (by decide),bo _ (by decide) (by decide)⟩
  ·exact⟨d3,d4⟩
  ·exact⟨g3,g4⟩
 have hit':(∀ e∈ls,∀ x∈hs,e.1*x.2<=x.1*e.2)↔Hit L R B T a.1 a.2 b.1 b.2:=by rw [hls,hhs];exact hit
 clear hit
 have lh:hs.length=3:=by rw [hhs];rfl
 have ll:ls.length=3:=by rw [hls];rfl
 have ep:([.tup [p2 (0,1),p2 (1,1)],.tup [p2 (e1,e2),p2 (x1,x2)]]:List D)++[.tup [p2 (f1,f2),p2 (y1,y2)]]=[.tup [p2 (0,1),p2 (1,1)],.tup [p2 (e1,e2),p2 (x1,x2)],.tup [p2 (f1,f2),p2 (y1,y2)]]:=rfl
 have eF:([.tup [p2 (0,1),p2 (1,1)],.tup [p2 (e1,e2),p2 (x1,x2)],.tup [p2 (f1,f2),p2 (y1,y2)]]:List D).map onF=ls.map p2:=by rw [hls];rfl
 have eL:([.tup [p2 (0,1),p2 (1,1)],.tup [p2 (e1,e2),p2 (x1,x2)],.tup [p2 (f1,f2),p2 (y1,y2)]]:List D).map onL=hs.map p2:=by rw [hhs];rfl
 obtain⟨ps,hps⟩:∃ ps:List D,ps=[.tup [p2 (0,1),p2 (1,1)],.tup [p2 (e1,e2),p2 (x1,x2)],.tup [p2 (f1,f2),p2 (y1,y2)]]:=⟨_,rfl⟩
 have lp:ps.length=3:=by rw [hps];rfl
 rw [<- hps] at ep eF eL
 have hpi:∀ (i:Nat) d,ps[i]?=some d->∃ u v:Int×Int,d=.tup [p2 u,p2 v]:=fun i d hd=>by
  have hm:=qd hd
  rw [hps] at hm
  simp only [qf,qm,or_false] at hm
  rcases hm with rfl | rfl | rfl
  ·exact⟨_,_,rfl⟩
  ·exact⟨_,_,rfl⟩
  ·exact⟨_,_,rfl⟩
 clear hls hhs
 walk_at "g"
 show zoC _ _ _ _ _ _ _ ⟨([D.tup [p2 (0,1),p2 (1,1)],.tup [p2 (e1,e2),p2 (x1,x2)]]++[.tup [p2 (f1,f2),p2 (y1,y2)]]:List D),_⟩ (S++[.lst ([D.tup [p2 (0,1),p2 (1,1)],.tup [p2 (e1,e2),p2 (x1,x2)]]++[.tup [p2 (f1,f2),p2 (y1,y2)]])])
 rw [ep]
 refine za5 (fun _=>true) onF Lst.at0 (by rw [lp];decide) (fun i d ys hd hw=>?_) ?_
 ·obtain⟨u,v,rfl⟩:=hpi i d hd
  walk_at "g"
  exact zbZ hd hw rfl rfl
 rw [filter_true,eF]
 walk_at "g"
 refine zaw (fun i Z S'=>∃ (G:Sto) (w1 w2:Option D),S'=S++(Cell.lst ps::Cell.lst (ls.map p2)::G)/\Z=[some (.tup [.int L,.int R,.int B,.int T]),some (p2 a),some (p2 b),some (.ref S.length),w1,w2]/\∀ e∈ls.take i,∀ x∈hs,e.1*x.2<=x.1*e.2) ⟨[],none,none,rfl,rfl,by simp⟩ (fun i Z S' ⟨G,w1,w2,e,_⟩=>e▸Lst.at (k:=1) rfl) ?_ ?_
 ·rintro i d Z S' hd ⟨G,w1,w2,rfl,rfl,hle⟩
  obtain⟨e,he,rfl⟩:=zcS hd
  have me:=qd he
  have kp:Lst (S++(Cell.lst ps::Cell.lst (ls.map p2)::G)) (.ref S.length) ps:=Lst.at0
  walk_at "g"
  refine za5 (fun _=>true) onL kp (by rw [lp];decide) (fun i d ys hd hw=>?_) ?_
  ·obtain⟨u,v,rfl⟩:=hpi i d hd
   walk_at "g"
   exact zbZ hd hw rfl rfl
  rw [filter_true,eL]
  walk_at "g"
  obtain⟨S2,hS2⟩:∃ S2:Sto,S2=S++(Cell.lst ps::Cell.lst (ls.map p2)::G++[.lst (hs.map p2)]):=⟨_,rfl⟩
  have kh:Lst S2 (.ref (S.length+(Cell.lst ps::Cell.lst (ls.map p2)::G).length)) (hs.map p2):=hS2▸Lst.new
  rw [<- hS2]
  refine zaw (fun j Z S'=>S'=S2/\(∃ w2:Option D,Z=[some (.tup [.int L,.int R,.int B,.int T]),some (p2 a),some (p2 b),some (.ref S.length),some (p2 e),w2])/\∀ x∈hs.take j,e.1*x.2<=x.1*e.2) ⟨rfl,⟨_,rfl⟩,by simp⟩ (fun j Z S' h=>h.1▸kh) ?_ ?_
  ·rintro j d Z S' hd ⟨rfl,⟨w2,rfl⟩,hlj⟩
   obtain⟨x,hx',rfl⟩:=zcS hd
   have mx:=qd hx'
   have cm1:zat e.1 x.2:=.inl ⟨(bl e me).1.mono (by decide),(bh x mx).2.mono (by decide)⟩
   have cm2:zat x.1 e.2:=.inl ⟨(bh x mx).1.mono (by decide),(bl e me).2.mono (by decide)⟩
   walk_at "g"
   refine r_d (fun h=>?_) (fun h=>?_)
   ·walk_at "g"
    rw [hS2]
    refine zaj rfl (q false ⟨fun z=>(by cases z),fun z=>?_⟩)
    have:=hit'.mpr z e me x mx
    omega
   ·walk_at "g"
    refine⟨rfl,⟨_,rfl⟩,fun y hy=>?_⟩
    rw [zau hx'] at hy
    rcases qu.mp hy with hy | hy
    ·exact hlj y hy
    ·have:y=x:=by simpa using hy
     subst this;omega
  ·rintro Z S' ⟨rfl,⟨w2,rfl⟩,hlj⟩
   rw [qa,qO] at hlj
   refine⟨G++[.lst (hs.map p2)],_,_,by rw [hS2];rfl,rfl,fun y hy=>?_⟩
   rw [zau he] at hy
   rcases qu.mp hy with hy | hy
   ·exact hle y hy
   ·have:y=e:=by simpa using hy
    subst this;exact hlj
 ·rintro Z S' ⟨G,w1,w2,rfl,rfl,hle⟩
  rw [qa,qO] at hle
  walk_at "g"
  exact zaj rfl (q true ⟨fun _=>hit'.mp hle,fun _=>rfl⟩)
def zcz:DSp:=fun ds S Q=>∃ (F:Fg) (a b:Int×Int) (h:Int),ds=[fgD F,p2 a,p2 b,.int h]/\FgV F/\(Bd 180 a.1/\Bd 200 a.2)/\(Bd 180 b.1/\Bd 200 b.2)/\Bd 300 h/\∀ r:Bool,(r=true↔zbW F a.1 a.2 b.1 b.2 h)->Q (.bl r) S
def zeq:DS :=
    (zH (sIf (dOr (dT (dOp oLt (zf 3) (dOp oIx (zf 0) (dC (.int 4))))) (dT (dOp oLt (dOp oIx (zf 0) (dC (.int 5))) (zf 3)))) (zY (dC (.bl false))) zZ)
 (zH (zO (dOp zax (dOp oIx (zf 0) (dC (.int 6))) (dOp zah (zf 3) (dOp oIx (zf 0) (dC (.int 4))))) (zE 4))
 (zH (zO (dOp zax (dOp oIx (zf 0) (dC (.int 7))) (dOp zah (zf 3) (dOp oIx (zf 0) (dC (.int 4))))) (zE 5))
 (zY (dCall zds (zm (dTup (zm (dOp zae (dOp oIx (zf 0) (dC (.int 0))) (zf 4)) (zm (dOp zae (dOp oIx (zf 0) (dC (.int 1))) (zf 4)) (zm (dOp zae (dOp oIx (zf 0) (dC (.int 2))) (zf 5)) (zm (dOp zae (dOp oIx (zf 0) (dC (.int 3))) (zf 5)) zB))))) (zm (zf 1) (zm (zf 2) zB))))))))
theorem zkl:∀ ds So Q,zcz ds So Q->ds.length=4:=by rintro ds So Q ⟨_,_,_,_,rfl,_⟩;rfl
theorem zlm:BodyOk 6 zeq zcz:=by
 rintro ds S Q ⟨F,a,b,h,rfl,ok,⟨ba1,ba2⟩,⟨bb1,bb2⟩,bh,q⟩
 unfold zeq
 walk_at "g"
 refine r_d (fun h1=>?_) (fun h1=>?_)
 ·walk_at "g"
  exact fin_same (q false ⟨fun z=>(by cases z),fun z=>by have:=z.1;omega⟩)
 walk_at "g"
 refine r_d (fun h2=>?_) (fun h2=>?_)
 ·walk_at "g"
  exact fin_same (q false ⟨fun z=>(by cases z),fun z=>by have:=z.2.1;omega⟩)
 have bk:Bd 301 (h-F.f):=Bd.sub bh ok.f
 have cm1:zat F.g (h-F.f):=.inl ⟨ok.b.bg.mono (by decide),bk.mono (by decide)⟩
 have cm2:zat F.s (h-F.f):=.inl ⟨ok.b.bs.mono (by decide),bk.mono (by decide)⟩
 have p1:Bd 501 (F.g*(h-F.f)):=Bd.mul ok.b.bg bk
 have p2':Bd 501 (F.s*(h-F.f)):=Bd.mul ok.b.bs bk
 have ad:∀ {x y:Int},Bd 600 x->Bd 501 y->Bd 700 (x+y):=fun hx hy=>(Bd.add (n:=600) hx (hy.mono (by decide))).mono (by decide)
 walk_at "g"
 refine⟨_,_,_,_,a,b,rfl,by have:=ok.b.x;omega,by have:=ok.b.z;omega,⟨ad ok.b.b0 p1,ad ok.b.b1 p1,ad ok.b.b2 p2',ad ok.b.b3 p2'⟩,⟨ba1.mono (by decide),ba2.mono (by decide)⟩,⟨bb1.mono (by decide),bb2.mono (by decide)⟩,fun r hr=>?_⟩
 refine fin_same (q r ?_)
 rw [hr]
 exact⟨fun z=>⟨by omega,by omega,z⟩,fun z=>z.2.2⟩
theorem zpW (b:Str×(Int×Int)):D.tup (cutD [.str b.1,.int b.2.1,.int b.2.2] (some 1) none)=p2 b.2:=rfl
theorem zye (a b c d e f g:D):cutD [a,b,c,d,e,f,g] none (some 4)=[a,b,c,d]:=rfl
def zdC:DSp:=fun ds S Q=>∃ (x y z:D) (V:Vl) (k j h:Int) (b c:Str×(Int×Int)),ds=[vlD x y z V,.int k,.int j,.int h]/\VlS S x y z V/\zcM V/\0<=k/\0<=j/\V.bs[k.toNat]?=some b/\V.bs[j.toNat]?=some c/\Bd 300 h/\∀ r:Bool,(r=true↔b.1=c.1\/ziZ V b.2 c.2 h)->Q (.bl r) S
def zft:DS :=
    (zH (zO (dSl zhg (zf 0) none (some (dC (.int 4)))) (zc6 4 (zaI (zE 4) (zaI (zE 5) (zaI (zE 6) (zaI (zE 7) zc9))))))
 (zH (sIf (dT (dOp oEq (zf 1) (zf 2))) (zY (dC (.bl true))) zZ)
 (zH (zO (dSl zhg (dOp oIx (zf 5) (zf 1)) (some (dC (.int 1))) none) (zE 8))
 (zH (zO (dSl zhg (dOp oIx (zf 5) (zf 2)) (some (dC (.int 1))) none) (zE 9))
 (zH (sIf (zeA (dT (dCall zc8 (zm (zf 4) (zm (zf 8) (zm (zf 9) zB)))))) (zY (dC (.bl false))) zZ)
 (zH (zO (dOp zae (dOp zax (dOp zah (dOp oIx (zf 8) (dC (.int 0))) (dOp oIx (zf 9) (dC (.int 0)))) (dOp zah (dOp oIx (zf 8) (dC (.int 0))) (dOp oIx (zf 9) (dC (.int 0))))) (dOp zax (dOp zah (dOp oIx (zf 8) (dC (.int 1))) (dOp oIx (zf 9) (dC (.int 1)))) (dOp zah (dOp oIx (zf 8) (dC (.int 1))) (dOp oIx (zf 9) (dC (.int 1)))))) (zE 10))
 (zH (sIf (zdR (dT (dOp zd3 (zf 7) (dC .non))) (dT (dOp oGt (zf 10) (zf 7)))) (zY (dC (.bl false))) zZ)
 (zY (dOp oEq (dB zaH (zm (dLC 1 [8,9,3] (zaZ (zf 6)) (zE 0) (dT (dCall zcz (zm (zf 0) (zm (zf 1) (zm (zf 2) (zm (zf 3) zB)))))) (zf 0)) zB)) (dC (.int 0)))))))))))
theorem zl4:∀ ds So Q,zdC ds So Q->ds.length=4:=by rintro ds So Q ⟨_,_,_,_,_,_,_,_,_,rfl,_⟩;rfl
theorem zm9:BodyOk 11 zft zdC:=by
 rintro ds S Q ⟨x,y,z,V,k,j,h,b,c,rfl,⟨hx,hy,hz⟩,ok,k0,j0,hb,hc,bh,q⟩
 unfold zft
 walk_at "g"
 rw [zye]
 walk_at "g"
 refine r_d (fun e=>?_) (fun e=>?_)
 ·walk_at "g"
  refine fin_same (q true ⟨fun _=>.inl ?_,fun _=>rfl⟩)
  rw [e] at hb;rw [hb] at hc;cases hc;rfl
 have hne:b.1≠c.1:=fun z=>e (by have:=(zlG ok hb hc).mp z;omega)
 have mb:=qd hb
 have mc:=qd hc
 have bb:=ok.bd b mb
 have bc:=ok.bd c mc
 have ab:atD (V.bs.map bcD) k=some (bcD b):=by
  have:=zbt (ds:=V.bs.map bcD) (i:=k.toNat) (by rw [qh,hb];rfl)
  rwa [show ((k.toNat:Nat):Int)=k by omega] at this
 have ac:atD (V.bs.map bcD) j=some (bcD c):=by
  have:=zbt (ds:=V.bs.map bcD) (i:=j.toNat) (by rw [qh,hc];rfl)
  rwa [show ((j.toNat:Nat):Int)=j by omega] at this
 walk_at "g"
 rw [zpW,zpW]
 walk_at "drho"
 refine⟨x,V.cs,b.2,c.2,rfl,hx,ok.gr.bd,⟨bb.1.mono (by decide),bb.2.mono (by decide)⟩,⟨bc.1.mono (by decide),bc.2.mono (by decide)⟩,fun r hr=>?_⟩
 have c1:Bd 8000 (b.2.1-c.2.1):=(Bd.sub bb.1 bc.1).mono (by decide)
 have c2:Bd 8000 (b.2.2-c.2.2):=(Bd.sub bb.2 bc.2).mono (by decide)
 have m1:zat (b.2.1-c.2.1) (b.2.1-c.2.1):=.inl ⟨c1,c1⟩
 have m2:zat (b.2.2-c.2.2) (b.2.2-c.2.2):=.inl ⟨c2,c2⟩
 have esq:(b.2.1-c.2.1)*(b.2.1-c.2.1)+(b.2.2-c.2.2)*(b.2.2-c.2.2)=sqr b.2 c.2:=by unfold sqr;grind
 cases r with
 | false =>
  walk_at "g"
  refine fin_same (q false ⟨fun z=>(by cases z),fun z=>?_⟩)
  rcases z with z | z
  ·exact absurd z hne
  ·exact absurd (hr.mpr z.1.1) (by decide)
 | true =>
  have hin:=hr.mp rfl
  clear hr
  walk_at "g"
  rw [esq]
  cases hhz:hzy V.hz (sqr b.2 c.2) with
  | true =>
   obtain⟨zz,hV,lt⟩:∃ zz,V.hz=some zz/\zz<sqr b.2 c.2:=by
    cases hV:V.hz with
    | none=>rw [hV] at hhz;cases hhz
    | some zz=>rw [hV] at hhz;exact⟨zz,rfl,of_decide_eq_true hhz⟩
   rw [hV,zaE,show zfu (D.int zz)=false from rfl]
   walk_at "g"
   rw [decide_eq_true lt]
   walk_at "g"
   refine fin_same (q false ⟨fun z=>(by cases z),fun z=>?_⟩)
   rcases z with z | z
   ·exact absurd z hne
   ·have:=z.1.2;rw [hhz] at this;cases this
  | false =>
   have hzF:V.hz=none\/∃ zz,V.hz=some zz/\¬ zz<sqr b.2 c.2:=by
    cases hV:V.hz with
    | none=>exact .inl rfl
    | some zz=>rw [hV] at hhz;exact .inr ⟨zz,rfl,of_decide_eq_false hhz⟩
   have f12:=ok.f12
   rcases hzF with hV | ⟨zz,hV,nlt⟩
   ·rw [hV,za6,show zfu D.non=true from rfl]
    walk_at "g"
    refine ziE (fun i ys S'=>S'=S/\(ys=[]↔∀ F∈V.fs.take i,¬ zbW F b.2.1 b.2.2 c.2.1 c.2.2 h)) ⟨rfl,by simp⟩ (fun i ys S' w=>w.1▸hz) (by rw [qa];unfold big;omega) ?_ ?_
    ·rintro i d ys S' hd ⟨rfl,hys⟩
     obtain⟨F,hF,rfl⟩:=zjY hd
     walk_at "g"
     refine⟨F,b.2,c.2,h,rfl,ok.fg F (qd hF),bb,bc,bh,fun r hr=>?_⟩
     rw [zau hF]
     cases r with
     | true =>
      walk_at "g"
      refine⟨rfl,⟨fun z=>absurd z (by simp),fun z=>absurd (hr.mp rfl) (z F (by simp))⟩⟩
     | false =>
      walk_at "g"
      refine⟨rfl,hys.trans ⟨fun g G hG=>?_,fun g G hG=>g G (List.mem_append_left _ hG)⟩⟩
      rcases qu.mp hG with hG | hG
      ·exact g G hG
      ·have:G=F:=by simpa using hG
       subst this
       exact fun z=>absurd (hr.mpr z) (by decide)
    ·rintro ys S' ⟨rfl,hys⟩
     rw [qa,qO] at hys
     walk_at "g"
     refine zaj rfl (q _ ?_)
     rw [decide_eq_true_eq]
     constructor
     ·intro z
      exact .inr ⟨⟨hin,hhz⟩,fun⟨F,hF,hd⟩=>hys.mp (List.length_eq_zero_iff.mp (by omega)) F hF hd⟩
     ·rintro (z | z)
      ·exact absurd z hne
      ·have:=hys.mpr fun F hF hd=>z.2 ⟨F,hF,hd⟩
       rw [this];rfl
   ·rw [hV,zaE,show zfu (D.int zz)=false from rfl]
    walk_at "g"
    rw [decide_eq_false nlt]
    walk_at "g"
    refine ziE (fun i ys S'=>S'=S/\(ys=[]↔∀ F∈V.fs.take i,¬ zbW F b.2.1 b.2.2 c.2.1 c.2.2 h)) ⟨rfl,by simp⟩ (fun i ys S' w=>w.1▸hz) (by rw [qa];unfold big;omega) ?_ ?_
    ·rintro i d ys S' hd ⟨rfl,hys⟩
     obtain⟨F,hF,rfl⟩:=zjY hd
     walk_at "g"
     refine⟨F,b.2,c.2,h,rfl,ok.fg F (qd hF),bb,bc,bh,fun r hr=>?_⟩
     rw [zau hF]
     cases r with
     | true =>
      walk_at "g"
      refine⟨rfl,⟨fun z=>absurd z (by simp),fun z=>absurd (hr.mp rfl) (z F (by simp))⟩⟩
     | false =>
      walk_at "g"
      refine⟨rfl,hys.trans ⟨fun g G hG=>?_,fun g G hG=>g G (List.mem_append_left _ hG)⟩⟩
      rcases qu.mp hG with hG | hG
      ·exact g G hG
      ·have:G=F:=by simpa using hG
       subst this
       exact fun z=>absurd (hr.mpr z) (by decide)
    ·rintro ys S' ⟨rfl,hys⟩
     rw [qa,qO] at hys
     walk_at "g"
     refine zaj rfl (q _ ?_)
     rw [decide_eq_true_eq]
     constructor
     ·intro z
      exact .inr ⟨⟨hin,hhz⟩,fun⟨F,hF,hd⟩=>hys.mp (List.length_eq_zero_iff.mp (by omega)) F hF hd⟩
     ·rintro (z | z)
      ·exact absurd z hne
      ·have:=hys.mpr fun F hF hd=>z.2 ⟨F,hF,hd⟩
       rw [this];rfl
def zdw:DSp:=fun ds S Q=>∃ (x y z:D) (V:Vl),ds=[vlD x y z V]/\VlS S x y z V/\zcM V/\V.h1-V.h0<=800/\∀ (T:Sto) (t:D),TabAt (S++T) t V.bs.length (zam V)->Q t (S++T)
def zfy:DS :=
    (zH (zO (dB zaH (zm (dOp oIx (zf 0) (dC (.int 1))) zB)) (zE 1))
 (zH (zO (dB zol (zm (dOp oIx (zf 0) (dC (.int 4))) (zm (dOp zae (dOp oIx (zf 0) (dC (.int 5))) (dC (.int 1))) zB))) (zE 2))
 (zH (zO (dLC 1 [1] (zbA (zm (zf 1) zB)) (zE 0) zbI (dLC 1 [] (zbA (zm (zf 1) zB)) (zE 0) zbI (zbc zB))) (zE 3))
 (zH (za2 (zbA (zm (zf 1) zB)) (zE 4) (za2 (zbA (zm (zf 4) zB)) (zE 5) (zH (zO (dLC 1 [0,4,5] (zaZ (zf 2)) (zE 0) (dT (dCall zdC (zm (zf 1) (zm (zf 2) (zm (zf 3) (zm (zf 0) zB)))))) (zf 0)) (zeI (dOp oIx (zf 3) (zf 4)) (zf 5)))
 (zO (dOp oIx (dOp oIx (zf 3) (zf 4)) (zf 5)) (zeI (dOp oIx (zf 3) (zf 5)) (zf 4))))))
 (zY (zf 3))))))
theorem zlR:∀ ds So Q,zdw ds So Q->ds.length=1:=by rintro ds So Q ⟨_,_,_,_,rfl,_⟩;rfl
theorem znD:BodyOk 6 zfy zdw:=by
 rintro ds S Q ⟨x,y,z,V,rfl,hs,ok,hr,q⟩
 unfold zfy
 obtain⟨hx,hy,hz⟩:=id hs
 have b12:=ok.b12
 have hh:=ok.hh
 walk_at "g"
 rw [qa]
 refine zvz (by omega) ?_
 have eh:upto V.h0 (V.h1+1-V.h0).toNat=(hrs V).map D.int:=by
  unfold upto hrs
  rw [qM,show V.h1+1-V.h0=V.h1-V.h0+1 by omega];rfl
 rw [eh]
 have lh:(hrs V).length<=801:=by unfold hrs;rw [qa,List.length_range];omega
 walk_at "g"
 walk_at "drho"
 obtain⟨S1,hS1⟩:∃ S1:Sto,S1=S++[.lst ((hrs V).map D.int)]:=⟨_,rfl⟩
 have kh:Lst S1 (.ref S.length) ((hrs V).map D.int):=hS1▸Lst.at0
 have hs1:VlS S1 x y z V:=hS1▸hs.old
 have l1:S.length<=S1.length:=by rw [hS1];simp
 rw [<- hS1]
 generalize S.length=hr' at kh
 refine⟨_,rfl,by omega,by omega,?_⟩
 refine ziE (fun i ys S'=>∃ (G:Sto) (rs:List Nat),S'=S1++G/\ys=rs.map D.ref/\rs.length=i/\rs.Nodup/\∀ r∈rs,S1.length<=r/\r<S'.length/\∃ cs:List Nat,S'[r]?=some (.lst (cs.map D.ref))/\cs.length=V.bs.length/\∀ c∈cs,c∉rs/\c<S'.length/\S'[c]?=some (.lst [])) ⟨[],[],by simp,rfl,rfl,by simp,by simp⟩ (fun _ _ _ _=>True.intro) (by rw [zas];unfold big;omega) ?_ ?_
 ·rintro i d ys S' hd ⟨G,rs,rfl,rfl,hi,nd,hrs'⟩
  obtain⟨hi',rfl⟩:=zaX hd
  obtain⟨S2,hS2⟩:∃ S2:Sto,S2=S1++G:=⟨_,rfl⟩
  rw [<- hS2] at hrs' ⊢
  walk_at "g"
  refine⟨_,rfl,by omega,by omega,?_⟩
  refine ziE (fun j ys S'=>∃ (G:Sto) (cs:List Nat),S'=S2++G/\ys=cs.map D.ref/\cs.length=j/\∀ c∈cs,S2.length<=c/\c<S'.length/\S'[c]?=some (.lst [])) ⟨[],[],by simp,rfl,rfl,by simp⟩ (fun _ _ _ _=>True.intro) (by rw [zas];unfold big;omega) ?_ ?_
  ·rintro j d ys S' hd' ⟨G',cs,rfl,rfl,hj,hcs⟩
   obtain⟨hj',rfl⟩:=zaX hd'
   refine zoa (zpY ?_)
   refine zmt ?_
   refine zsf (zsi (zsk rfl ?_))
   unfold New
   refine⟨G'++[.lst []],cs++[(S2++G').length],by rw [qF],by rw [qr];rfl,by simp [hj],fun c hc=>?_⟩
   rcases qu.mp hc with hc | hc
   ·obtain⟨h1,h2,h3⟩:=hcs c hc
    exact⟨h1,by rw [qe];omega,zay h3⟩
   ·have e:c=(S2++G').length:=by simpa using hc
    subst e
    exact⟨by simp,by simp,zaz⟩
  rintro ys S' ⟨G',cs,rfl,rfl,hj,hcs⟩
  rw [zas] at hj
  unfold New
  have hlen:S2.length<=(S2++G').length:=by simp
  have l12:S1.length<=S2.length:=by rw [hS2];simp
  refine⟨G++G'++[.lst (cs.map D.ref)],rs++[(S2++G').length],by rw [hS2];simp,by rw [qr];rfl,by simp [hi],?_,fun r hr2=>?_⟩
  ·rw [List.nodup_append]
   refine⟨nd,by simp,fun a ha b hb e=>?_⟩
   have eb:b=(S2++G').length:=by simpa using hb
   have:=(hrs' a ha).2.1
   omega
  ·rcases qu.mp hr2 with hr2 | hr2
   ·obtain⟨a1,a2,cs',a3,a4,a5⟩:=hrs' r hr2
    refine⟨a1,by rw [qe];omega,cs',zay (zay a3),a4,fun c hc=>?_⟩
    obtain⟨c1,c2,c3⟩:=a5 c hc
    refine⟨fun z=>?_,by rw [qe];omega,zay (zay c3)⟩
    rcases qu.mp z with z | z
    ·exact c1 z
    ·have:c=(S2++G').length:=by simpa using z
     omega
   ·have e:r=(S2++G').length:=by simpa using hr2
    subst e
    refine⟨by omega,by simp,cs,zaz,by omega,fun c hc=>?_⟩
    obtain⟨c1,c2,c3⟩:=hcs c hc
    refine⟨fun z=>?_,by rw [qe];omega,zay c3⟩
    rcases qu.mp z with z | z
    ·have:=(hrs' c z).2.1
     omega
    ·have:c=(S2++G').length:=by simpa using z
     omega
 rintro ys S' ⟨G,rs,rfl,rfl,hi,nd,hrs'⟩
 rw [zas,show ((V.bs.length:Nat):Int).toNat=V.bs.length by omega] at hi
 unfold New
 have t0:zgp (S1++G++[.lst (rs.map D.ref)]) S1.length (S1++G).length rs V.bs.length (fun _ _=>[]):=by
  refine⟨zaz,hi,nd,by simp,fun k r hk=>?_⟩
  obtain⟨a1,a2,cs,a3,a4,a5⟩:=hrs' r (qd hk)
  refine⟨a1,by omega,cs,zay a3,a4,fun j c hc=>?_⟩
  obtain⟨c1,c2,c3⟩:=a5 c (qd hc)
  exact⟨by omega,c1,zay c3⟩
 have e0:∃ G',S1++G++[Cell.lst (rs.map D.ref)]=S1++G':=⟨G++[.lst (rs.map D.ref)],by rw [qF]⟩
 generalize S1++G++[Cell.lst (rs.map D.ref)]=S3 at t0 e0
 generalize (S1++G).length=t at t0
 clear hrs'
 walk_at "g"
 walk_at "drho2"
 refine⟨_,rfl,by omega,by omega,?_⟩
 refine zaw (fun k Z S'=>∃ (G:Sto) (F:Nat->Nat->List Int) (w4 w5:Option D),S'=S1++G/\zgp S' S1.length t rs V.bs.length F/\(∀ a b,b<a->a<k->F a b=zam V a b/\F b a=zam V b a)/\(∀ a,F a a=[])/\Z=[some (vlD x y z V),some (.int V.bs.length),some (.ref hr'),some (.ref t),w4,w5]) (by obtain⟨G',e0⟩:=e0;exact⟨G',_,_,_,e0,t0,fun a b _ h=>by omega,fun _=>rfl,rfl⟩) (fun _ _ _ _=>True.intro) ?_ ?_
 ·rintro k d Z S' hd ⟨G,F,w4,w5,rfl,tb,hF,hF0,rfl⟩
  obtain⟨hk,rfl⟩:=zaX hd
  walk_at "g"
  refine⟨_,rfl,by omega,by omega,?_⟩
  refine zaw (fun j Z S'=>∃ (G:Sto) (F:Nat->Nat->List Int) (w5:Option D),S'=S1++G/\zgp S' S1.length t rs V.bs.length F/\(∀ a b,b<a->(a<k\/(a=k/\b<j))->F a b=zam V a b/\F b a=zam V b a)/\(∀ a,F a a=[])/\Z=[some (vlD x y z V),some (.int V.bs.length),some (.ref hr'),some (.ref t),some (.int (0+(k:Int))),w5]) ⟨G,F,_,rfl,tb,fun a b h1 h2=>hF a b h1 (by omega),hF0,rfl⟩ (fun _ _ _ _=>True.intro) ?_ ?_
  ·rintro j d Z S' hd' ⟨G,F,w5,rfl,tb,hF,hF0,rfl⟩
   obtain⟨hj,rfl⟩:=zaX hd'
   have hjk:j<k:=by omega
   have hkn:k<V.bs.length:=by omega
   obtain⟨b,hb,ab⟩:=zjH (bs:=V.bs) (k:=0+(k:Int)) (by omega) (by omega)
   obtain⟨c,hc,ac⟩:=zjH (bs:=V.bs) (k:=0+(j:Int)) (by omega) (by omega)
   have ek:(0+(k:Int)).toNat=k:=by omega
   have ej:(0+(j:Int)).toNat=j:=by omega
   have kh2:Lst (S1++G) (.ref hr') ((hrs V).map D.int):=kh.old
   have hs2:VlS (S1++G) x y z V:=hs1.old
   walk_at "g"
   refine za5 (onB (zfj V k j)) id kh2 (by rw [qa];unfold big;omega) (fun i d ys hd3 hw=>?_) ?_
   ·obtain⟨h,hh',rfl⟩:=zdh hd3
    have mh:=zoc.mp (qd hh')
    walk_at "g"
    refine⟨x,y,z,V,_,_,h,b,c,rfl,hs2,ok,by omega,by omega,hb,hc,(Bd.btw (n:=250) ok.b0 ok.bl mh.1 mh.2).mono (by decide),fun r hr3=>?_⟩
    rw [ek] at hb
    rw [ej] at hc
    have ne:b.1≠c.1:=fun z=>by have:=(zlG ok hb hc).mp z;omega
    have er:r=zfj V k j h:=by
     rw [Bool.eq_iff_iff,hr3,zdU]
     constructor
     ·rintro (z | z)
      ·exact absurd z ne
      ·exact⟨by omega,b,c,hb,hc,z⟩
     ·rintro⟨_,b',c',hb',hc',z⟩
      rw [hb] at hb';rw [hc] at hc'
      cases hb';cases hc'
      exact .inr z
    cases hr4:r with
    | true =>
     walk_at "g"
     exact zbZ hd3 hw (by show zfj V k j h=true;rw [<- er];exact hr4) rfl
    | false =>
     walk_at "g"
     exact zlJ hd3 hw (by show zfj V k j h=false;rw [<- er];exact hr4)
   rw [zkt,List.map_id]
   show New _ (S1++G) ((zam V k j).map D.int)
   unfold New
   obtain⟨S4,hS4⟩:∃ S4:Sto,S4=S1++G++[.lst ((zam V k j).map D.int)]:=⟨_,rfl⟩
   have tb4:zgp S4 S1.length t rs V.bs.length F:=hS4▸tb.old
   have hc4:S4[(S1++G).length]?=some (.lst ((zam V k j).map D.int)):=hS4▸zaz
   have nt:(S1++G).length≠t:=fun e=>by
    have:=tb.tt
    rw [<- e,qE (qg _)] at this;cases this
   have nr:(S1++G).length∉rs:=fun e=>by
    obtain⟨i,hi2,e2⟩:=List.mem_iff_getElem.mp e
    obtain⟨_,_,cs,c1,_⟩:=tb.row i _ (qb hi2)
    rw [e2,qE (qg _)] at c1;cases c1
   have e4:∃ G',S4=S1++G':=zcG ⟨G,rfl⟩ hS4
   rw [<- hS4]
   generalize (S1++G).length=cN at hc4 nt nr
   clear hS4 kh2 hs2 tb
   have lrs:=tb4.len
   obtain⟨rk,hrk⟩:∃ rk,rs[k]?=some rk:=⟨rs[k]'(by omega),qb (by omega)⟩
   obtain⟨rj,hrj⟩:∃ rj,rs[j]?=some rj:=⟨rs[j]'(by omega),qb (by omega)⟩
   obtain⟨l1k,ntk,csk,hk1,hk2,hk3⟩:=tb4.row k rk hrk
   have ark:atD (rs.map D.ref) (0+(k:Int))=some (.ref rk):=by
    have:=zbt (ds:=rs.map D.ref) (i:=k) (by rw [qh,hrk];rfl)
    rwa [show ((k:Nat):Int)=0+(k:Int) by omega] at this
   have arj:atD (rs.map D.ref) (0+(j:Int))=some (.ref rj):=by
    have:=zbt (ds:=rs.map D.ref) (i:=j) (by rw [qh,hrj];rfl)
    rwa [show ((j:Nat):Int)=0+(j:Int) by omega] at this
   have tt4:=Lst.here tb4.tt
   walk_at "g"
   refine ze2 hk1 (j:=j) (by unfold ixD;rw [qa,if_pos (by omega),if_pos (by omega)];exact congrArg some (by omega)) ?_
   unfold Put
   rw [show ((csk.map D.ref).set j (.ref cN))=(csk.set j cN).map D.ref by rw [List.map_set]]
   have tb5:=tb4.put (j:=j) (c':=cN) hrk hk1 hc4 nt nr
   have nkc:cN≠rk:=fun e=>nr (e▸qd hrk)
   have hc5:(S4.set rk (.lst ((csk.set j cN).map D.ref)))[cN]?=some (.lst ((zam V k j).map D.int)):=by rw [qH (Ne.symm nkc)];exact hc4
   have hk5:(S4.set rk (.lst ((csk.set j cN).map D.ref)))[rk]?=some (.lst ((csk.set j cN).map D.ref)):=by rw [qC (zao hk1)]
   have e5:∃ G',S4.set rk (.lst ((csk.set j cN).map D.ref))=S1++G':=by
    obtain⟨G',rfl⟩:=e4
    exact⟨_,zka l1k⟩
   generalize S4.set rk (.lst ((csk.set j cN).map D.ref))=S5 at tb5 hc5 hk5 e5
   clear tb4 hc4 hk1 e4 tt4 hk3
   obtain⟨l1j,ntj,csj,hj1,hj2,hj3⟩:=tb5.row j rj hrj
   have tt5:=Lst.here tb5.tt
   have kk5:=Lst.here hk5
   have acN:atD ((csk.set j cN).map D.ref) (0+(j:Int))=some (.ref cN):=by
    have:=zbt (ds:=(csk.set j cN).map D.ref) (i:=j) (by rw [qh,qC (by omega)];rfl)
    rwa [show ((j:Nat):Int)=0+(j:Int) by omega] at this
   walk_at "g"
   refine ze2 hj1 (j:=k) (by unfold ixD;rw [qa,if_pos (by omega),if_pos (by omega)];exact congrArg some (by omega)) ?_
   unfold Put
   rw [show ((csj.map D.ref).set k (.ref cN))=(csj.set k cN).map D.ref by rw [List.map_set]]
   have tb6:=tb5.put (j:=k) (c':=cN) hrj hj1 hc5 nt nr
   obtain⟨G5,rfl⟩:=e5
   refine⟨_,_,_,zka l1j,tb6,fun a b' h1 h2=>?_,fun a=>?_,rfl⟩
   ·by_cases e1:a=k/\b'=j
    ·obtain⟨rfl,rfl⟩:=e1
     constructor
     ·show zcx (zcx F a b' (zam V a b')) b' a (zam V a b') a b'=_
      unfold zcx
      rw [if_neg (by omega),if_pos ⟨rfl,rfl⟩]
     ·show zcx (zcx F a b' (zam V a b')) b' a (zam V a b') b' a=_
      unfold zcx
      rw [if_pos ⟨rfl,rfl⟩];exact zo2
    ·have h3:a<k\/(a=k/\b'<j):=by
      rcases h2 with h2 | ⟨h2,h3⟩
      ·exact .inl h2
      ·exact .inr ⟨h2,by have:b'≠j:=fun z=>e1 ⟨h2,z⟩;omega⟩
     obtain⟨f1,f2⟩:=hF a b' h1 h3
     constructor
     ·show zcx (zcx F k j _) j k _ a b'=_
      unfold zcx
      rw [if_neg (by omega),if_neg e1];exact f1
     ·show zcx (zcx F k j _) j k _ b' a=_
      unfold zcx
      rw [if_neg (by omega),if_neg (by omega)];exact f2
   ·show zcx (zcx F k j _) j k _ a a=_
    unfold zcx
    rw [if_neg (by omega),if_neg (by omega)];exact hF0 a
  ·rintro Z S' ⟨G,F,w5,rfl,tb,hF,hF0,rfl⟩
   rw [zas,show (0+(k:Int)).toNat=k by omega] at hF
   exact⟨G,F,_,_,rfl,tb,fun a b h1 h2=>hF a b h1 (by omega),hF0,rfl⟩
 ·rintro Z S' ⟨G,F,w4,w5,rfl,tb,hF,hF0,rfl⟩
  rw [zas,show ((V.bs.length:Nat):Int).toNat=V.bs.length by omega] at hF
  walk_at "g"
  have fe:∀ a b,a<V.bs.length->b<V.bs.length->F a b=zam V a b:=fun a b ha hb=>by
   rcases Nat.lt_trichotomy a b with g | g | g
   ·exact (hF b a g hb).2
   ·subst g;rw [hF0 a,zpo]
   ·exact (hF a b g ha).1
  rw [hS1,qF] at tb ⊢
  refine fin_same (q _ _ ⟨rs,Lst.here tb.tt,tb.len,fun k r hk=>?_⟩)
  obtain⟨_,_,cs,c1,c2,c3⟩:=tb.row k r hk
  have lk:k<V.bs.length:=by have:=zao hk;have:=tb.len;omega
  refine⟨cs,c1,c2,fun j c hc=>?_⟩
  have lj:j<V.bs.length:=by have:=zao hc;omega
  rw [<- fe k j lk lj]
  exact (c3 j c hc).2.2
def zb0:DSp:=fun ds S Q=>∃ (x y z:D) (V:Vl) (t:D) (s:Nat) (h:Int),ds=[vlD x y z V,t,.int (s:Nat),.int h]/\VlS S x y z V/\zcM V/\V.h1-V.h0<=800/\TabAt S t V.bs.length (zam V)/\s<V.bs.length/\∀ (T:Sto) (k:Nat) (lit:List (Option Int)),lit.length=V.bs.length->Ear (zd0 V) V.dl s h (fun j=>(lit[j]?).join)->(S++T)[k]?=some (.lst (zad lit))->S.length<=k->Q (.ref k) (S++T)
def zdj:DS :=
    (zH (zO (dLC 1 [] (zaZ (dOp oIx (zf 0) (dC (.int 1)))) (zE 0) zbI (dC .non)) (zE 4))
 (zH (zO (zf 3) (zeI (zf 4) (zf 2)))
 (zH (za2 (zaZ (dOp oIx (zf 0) (dC (.int 1)))) (zE 5) (za2 (zbA (zm (dB zaH (zm (zf 4) zB)) zB)) (zE 6) (za2 (zbA (zm (dB zaH (zm (zf 4) zB)) zB)) (zE 7) (sIf (dT (dOp zd3 (dOp oIx (zf 4) (zf 6)) (dC .non))) (zH (zO (dLC 1 [4,6] (zaZ (dOp oIx (dOp oIx (zf 1) (zf 6)) (zf 7))) (zE 0) (dT (dOp oGe (zf 0) (dOp oIx (zf 1) (zf 2)))) (zf 0)) (zE 8))
 (sIf (zdR (dT (dOp oGt (dB zaH (zm (zf 8) zB)) (dC (.int 0)))) (dOr (dT (dOp oIs (dOp oIx (zf 4) (zf 7)) (dC .non))) (dT (dOp oLt (dOp zae (dOp oIx (zf 8) (dC (.int 0))) (dOp oIx (zf 0) (dC (.int 6)))) (dOp oIx (zf 4) (zf 7)))))) (zO (dOp zae (dOp oIx (zf 8) (dC (.int 0))) (dOp oIx (zf 0) (dC (.int 6)))) (zeI (zf 4) (zf 7))) zZ)) zZ))))
 (zY (zf 4)))))
theorem zjb:∀ ds So Q,zb0 ds So Q->ds.length=4:=by rintro ds So Q ⟨_,_,_,_,_,_,_,rfl,_⟩;rfl
theorem zjU:BodyOk 9 zdj zb0:=by
  rintro ds S Q ⟨x,y,z,V,t,s,h,rfl,hs,ok,h8,ht,hsn,q⟩
  unfold zdj
  obtain⟨hx,hy,hz⟩:=id hs
  have b12:=ok.b12
  have hd:=ok.dl
  walk_at "g"
  refine za5 (fun _=>true) (fun _=>.non) hy (by rw [qa];unfold big;omega) (fun i d ys hd' hw=>?_) ?_
  . walk_at "g"
    exact zbZ hd' hw rfl rfl
  rw [filter_true,qM,show V.bs.map ((fun _=>D.non) ∘ bcD)=zad (List.replicate V.bs.length none) by show _=(List.replicate V.bs.length (none:Option Int)).map zbd;rw [List.map_replicate];exact map_const V.bs D.non]
  walk_at "g"
  walk_at "drho"
  refine ze2 (j:=s) zaz (zhK (by rw [qw];exact hsn)) (zfP ?_)
  rw [show (zad (List.replicate V.bs.length none)).set s (.int h)=zad ((List.replicate V.bs.length none).set s (some h)) by rw [<- zaE];exact (List.map_set ..).symm]
  have hyT:∀ T,Lst (S++T) y (V.bs.map bcD):=fun T=>hy.old
  have hy1:=hyT [.lst (zad ((List.replicate V.bs.length none).set s (some h)))]
  walk_at "g"
  have r0:Rnd (zd0 V) V.dl s h V.bs.length 0 ((List.replicate V.bs.length none).set s (some h)):=by
    refine⟨by simp,fun j h' e=>?_,fun vs j h' p l=>?_⟩
    . by_cases ej:j=s
      . subst ej
        rw [qC (by simpa using hsn)] at e
        cases e;exact .base
      . rw [qH (Ne.symm ej)] at e
        have:=List.eq_of_mem_replicate (qd e)
        cases this
    . cases p with
      | base=>exact⟨h,by rw [qC (by simpa using hsn)],Int.le_refl _⟩
      | step p _ _ hm=>cases p<;>simp at l
  refine zaw (fun r Z S'=>∃ (G:Sto) (lit:List (Option Int)) (w5 w6 w7 w8:Option D),S'=S++Cell.lst (zad lit)::G/\Rnd (zd0 V) V.dl s h V.bs.length r lit/\Z=[some (vlD x y z V),some t,some (.int (s:Nat)),some (.int h),some (.ref S.length),w5,w6,w7,w8]) ⟨[],_,_,_,_,_,rfl,r0,rfl⟩ (fun i Z S' ⟨G,lit,_,_,_,_,e,_⟩=>e▸hyT _) ?_ ?_
  . rintro r d Z S' hd' ⟨G,lit,w5,w6,w7,w8,rfl,hR,rfl⟩
    have ll:=hR.len
    walk_at "g"
    rw [qa]
    refine⟨_,rfl,by omega,by omega,?_⟩
    refine zaw (fun k Z S'=>∃ (G:Sto) (lit:List (Option Int)) (w6 w7 w8:Option D),S'=S++Cell.lst (zad lit)::G/\Swp (zd0 V) V.dl s h V.bs.length r (fun a b=>a<k) lit/\Z=[some (vlD x y z V),some t,some (.int (s:Nat)),some (.int h),some (.ref S.length),some d,w6,w7,w8]) ⟨G,lit,_,_,_,rfl,⟨hR,fun a b z=>by omega⟩,rfl⟩ (fun _ _ _ _=>True.intro) ?_ ?_
    . rintro k d' Z S' hdk ⟨G,lit,w6,w7,w8,rfl,hS,rfl⟩
      obtain⟨hk,rfl⟩:=zaX hdk
      have hkn:k<V.bs.length:=by omega
      have ll:=hS.rnd.len
      walk_at "g"
      rw [qa]
      refine⟨_,rfl,by omega,by omega,?_⟩
      refine zaw (fun j Z S'=>∃ (G:Sto) (lit:List (Option Int)) (w7 w8:Option D),S'=S++Cell.lst (zad lit)::G/\Swp (zd0 V) V.dl s h V.bs.length r (fun a b=>a<k\/(a=k/\b<j)) lit/\Z=[some (vlD x y z V),some t,some (.int (s:Nat)),some (.int h),some (.ref S.length),some d,some (.int (0+(k:Int))),w7,w8]) ⟨G,lit,_,_,rfl,hS.keep hS.rnd.len hS.rnd.snd (fun j h e=>⟨h,e,Int.le_refl _⟩) fun a b z1 z2=>absurd (show a<k by omega) z2,rfl⟩ (fun _ _ _ _=>True.intro) ?_ ?_
      . rintro j d' Z S' hdj ⟨G,lit,w7,w8,rfl,hS,rfl⟩
        obtain⟨hj,rfl⟩:=zaX hdj
        have ll:=hS.rnd.len
        have hjn:j<V.bs.length:=by omega
        have ak:=zez (os:=lit) (k:=k) (by omega)
        have aj:=zez (os:=lit) (k:=j) (by omega)
        rw [show ((k:Nat):Int)=0+(k:Int) by omega] at ak
        rw [show ((j:Nat):Int)=0+(j:Int) by omega] at aj
        have stay:(∀ vs h' u,Lp (zd0 V) V.dl s h vs k h'->vs.length<=r+1->h'<=u->zd0 V k j u->∃ h2,lit[j]?=some (some h2)/\h2<=u+V.dl)->Swp (zd0 V) V.dl s h V.bs.length r (fun a b=>a<k\/(a=k/\b<j+1)) lit:=fun hq =>
          hS.keep ll hS.rnd.snd (fun j h e=>⟨h,e,Int.le_refl _⟩) fun a b z1 z2=>by
            have e1:a=k:=by omega
            have e2:b=j:=by omega
            subst e1 e2;exact hq
        cases hlk:(lit[k]?).join with
        | none =>
          rw [hlk,za6] at ak
          walk_at "g"
          refine⟨G,lit,_,_,rfl,stay fun vs h' u p l _ _=>?_,rfl⟩
          obtain⟨h2,e,_⟩:=hS.rnd.prg vs k h' p l
          rw [e] at hlk;cases hlk
        | some hk' =>
          have glk:=zdW hlk
          rw [hlk,zaE] at ak
          obtain⟨rows,cells,rr,cc,t1,t2,t3,t4,t5⟩:=ht.get hkn hjn
          rw [show ((k:Nat):Int)=0+(k:Int) by omega] at t2
          rw [show ((j:Nat):Int)=0+(j:Int) by omega] at t4
          have t1':Lst (S++Cell.lst (zad lit)::G) t rows:=t1.old
          have t3':Lst (S++Cell.lst (zad lit)::G) (.ref rr) cells:=t3.old
          have t5':Lst (S++Cell.lst (zad lit)::G) (.ref cc) ((zam V k j).map D.int):=t5.old
          have ls:(zam V k j).length<=801:=zk1 (by omega)
          have kl:Lst (S++Cell.lst (zad lit)::G) (.ref S.length) (zad lit):=Lst.at0
          walk_at "g"
          refine za5 (onB fun u=>decide (hk'<=u)) id t5' (by rw [qa];unfold big;omega) (fun i d ys hd3 hw=>?_) ?_
          . obtain⟨u,hu,rfl⟩:=zdh hd3
            walk_at "g"
            refine r_d (fun g=>?_) (fun g=>?_)
            . walk_at "g"
              exact zbZ hd3 hw (decide_eq_true g) rfl
            . exact zlJ hd3 hw (decide_eq_false g)
          rw [zkt,List.map_id]
          have fsp:zfk (zam V k j) hk'=((zam V k j).filter fun u=>decide (hk'<=u)).head?:=rfl
          have asc:=zf7 V k j
          generalize hsp:(zam V k j).filter (fun u=>decide (hk'<=u))=sp at fsp
          walk_at "g"
          rw [qa]
          have prg':∀ vs h' u,Lp (zd0 V) V.dl s h vs k h'->vs.length<=r+1->h'<=u->zd0 V k j u->hk'<=u:=fun vs h' u p l hu _=>by
            obtain⟨h2,e,le⟩:=hS.rnd.prg vs k h' p l
            rw [glk] at e;cases e;omega
          cases sp with
          | nil =>
            rw [decide_eq_false (by simp)]
            walk_at "g"
            refine⟨_,lit,_,_,rfl,stay fun vs h' u p l hu hse=>?_,rfl⟩
            exact absurd (prg' vs h' u p l hu hse) (zh0 fsp u hse)
          | cons u0 rest =>
            obtain⟨m0,g0,least⟩:=zf9 asc fsp
            rw [decide_eq_true (by simp)]
            have a0:atD ((u0::rest).map D.int) 0=some (.int u0):=zbt (ds:=(u0::rest).map D.int) (i:=0) rfl
            have kl2:Lst (S++(Cell.lst (zad lit)::G++[Cell.lst ((u0::rest).map D.int)])) (.ref S.length) (zad lit):=Lst.at0
            have lnew:Lt (zd0 V) V.dl s h j (u0+V.dl):=.step (hS.rnd.snd k hk' glk) g0 m0
            have put':∀ (_:∀ h2,lit[j]?=some (some h2)->u0+V.dl<=h2),Swp (zd0 V) V.dl s h V.bs.length r (fun a b=>a<k\/(a=k/\b<j+1)) (lit.set j (some (u0+V.dl))):=fun hlow=>by
              have gs:(lit.set j (some (u0+V.dl)))[j]?=some (some (u0+V.dl)):=by rw [qC (by omega)]
              refine hS.keep (by rw [List.length_set];exact ll) (fun j' h' e=>?_) (fun j' h' e=>?_) fun a b z1 z2=>?_
              . by_cases ej:j'=j
                . subst ej;rw [gs] at e;cases e;exact lnew
                . rw [qH (Ne.symm ej)] at e;exact hS.rnd.snd j' h' e
              . by_cases ej:j'=j
                . subst ej;exact⟨_,gs,hlow h' e⟩
                . exact⟨h',by rw [qH (Ne.symm ej)];exact e,Int.le_refl _⟩
              . have e1:a=k:=by omega
                have e2:b=j:=by omega
                subst e1 e2
                intro vs h' u p l hu hse
                exact⟨_,gs,by have:=least u hse (prg' vs h' u p l hu hse);omega⟩
            have hput:(zad lit).set j (.int (u0+V.dl))=zad (lit.set j (some (u0+V.dl))):=by rw [<- zaE];exact (List.map_set ..).symm
            have hix:=zhK (os:=lit) (k:=j) (by omega)
            rw [show ((j:Nat):Int)=0+(j:Int) by omega] at hix
            cases hlj:(lit[j]?).join with
            | none =>
              rw [hlj,za6] at aj
              walk_at "g"
              refine ze2 zaz hix (zfP ?_)
              rw [hput]
              refine⟨_,_,_,_,rfl,put' fun h2 e=>?_,rfl⟩
              rw [e] at hlj;cases hlj
            | some hj' =>
              have glj:=zdW hlj
              rw [hlj,zaE] at aj
              walk_at "g"
              refine r_d (fun g=>?_) (fun g=>?_)
              . walk_at "g"
                refine ze2 zaz hix (zfP ?_)
                rw [hput]
                refine⟨_,_,_,_,rfl,put' fun h2 e=>?_,rfl⟩
                rw [glj] at e;cases e;omega
              . walk_at "g"
                refine⟨_,lit,_,_,rfl,stay fun vs h' u p l hu hse=>?_,rfl⟩
                exact⟨hj',glj,by have:=least u hse (prg' vs h' u p l hu hse);omega⟩
      . rintro Z S' ⟨G,lit,w7,w8,rfl,hS,rfl⟩
        rw [zas] at hS
        exact⟨G,lit,_,_,_,rfl,hS.keep hS.rnd.len hS.rnd.snd (fun j h e=>⟨h,e,Int.le_refl _⟩) fun a b z1 z2 vs h' u p l hu hse=>by
          have:=ziH hse
          exact absurd (show a<k\/(a=k/\b<((lit.length:Nat):Int).toNat) by have:=hS.rnd.len;omega) (by have:=hS.rnd.len;omega),rfl⟩
    . rintro Z S' ⟨G,lit,w6,w7,w8,rfl,hS,rfl⟩
      rw [zas] at hS
      exact⟨G,lit,_,_,_,_,rfl,hS.next hsn (fun k j u z=>ziH z) fun k j hk hj=>by omega,rfl⟩
  . rintro Z S' ⟨G,lit,w5,w6,w7,w8,rfl,hR,rfl⟩
    rw [qa] at hR
    walk_at "g"
    exact fin_same (q _ _ lit hR.len (hR.ear hd hsn fun k j u z=>ziH z) zaz (qg _))
def zcJ:DSp:=fun ds S Q=>∃ (v:D) (V:Vl),ds=[v]/\VAt S v V/\V.bs.length<=100/\New Q S ((V.bs.map (·.1)).map D.str)
def zfm:DS :=
  (zY (dLC 1 [] (zaZ (zcw "beacons" (zf 0))) (zE 0) zbI (dOp oIx (zf 0) (dC (.int 0)))))
theorem zmx:∀ ds So Q,zcJ ds So Q->ds.length=1:=by rintro ds So Q ⟨_,_,rfl,_⟩;rfl
theorem zne:BodyOk 1 zfm zcJ:=by
 rintro ds S Q ⟨v,V,rfl,hv,hl,q⟩
 unfold zfm
 obtain⟨m,g,b',f,rfl,hm,hg,hb,_⟩:=hv
 walk_at "g"
 refine za5 (fun _=>true) (zoX fun b=>.str b.1) (Lst.here hb) (by rw [qa];unfold big;omega) (fun i d ys hd hw=>?_) ?_
 ·obtain⟨b,_,rfl⟩:=zjD hd
  walk_at "g"
  exact zbZ hd hw rfl rfl
 rw [filter_true,zjn,show V.bs.map (fun b=>D.str b.1)=(V.bs.map (·.1)).map D.str by rw [qM];rfl]
 exact fin_same q
def zbi:zeH:=fun ds S Q ex=>∃ (v:D) (V:Vl) (n:Str),ds=[v,.str n]/\VAt S v V/\zcM V/\fl 20 (.str n)=true/\(n∉V.bs.map (·.1)->∀ T,ex "NoBeacon" (S++T))/\(n∈V.bs.map (·.1)->Q .non S)
def zb4 (ex:XR):DS :=
  (sIf (dT (dOp zl3 (zf 1) (dCall zcJ (zm (zf 0) zB)))) (zfN ex "NoBeacon") zZ)
theorem zhk:∀ ds So Q ex,zbi ds So Q ex->ds.length=2:=by rintro ds So Q ex ⟨_,_,_,rfl,_⟩;rfl
theorem zhw:zec 2 zb4 zbi:=by
 rintro ds S Q ex ⟨v,V,n,rfl,hv,ok,hn,hx,q⟩
 unfold zb4
 have b12:=ok.b12
 walk_at "g"
 refine⟨v,V,rfl,hv,by omega,?_⟩
 walk_at "g"
 refine zqR (.inr Lst.at0) hn ok.flN ?_
 walk_at "g"
 refine zko (fun h=>?_) (fun h=>?_)
 ·walk_at "g"
  exact hx h _
 ·walk_at "g"
  exact zaj rfl (q h)
def zbD:zeH:=fun ds S Q ex=>∃ (v:D) (V:Vl) (h:Int),ds=[v,.int h]/\VAt S v V/\(¬ (V.h0<=h/\h<=V.h1)->ex "BadHour" S)/\(V.h0<=h->h<=V.h1->Q .non S)
def zcp (ex:XR):DS :=
  (sIf (dOr (dT (dOp oLt (zf 1) (zcw "first" (zf 0)))) (dT (dOp oGt (zf 1) (zcw "last" (zf 0))))) (zfN ex "BadHour") zZ)
theorem zia:∀ ds So Q ex,zbD ds So Q ex->ds.length=2:=by rintro ds So Q ex ⟨_,_,_,rfl,_⟩;rfl
theorem ziK:zec 2 zcp zbD:=by
 rintro ds S Q ex ⟨v,V,h,rfl,hv,hx,q⟩
 unfold zcp
 obtain⟨m,g,b',f,rfl,hm,hg,hb,_⟩:=hv
 walk_at "g"
 refine r_d (fun h1=>?_) (fun h1=>?_)
 ·walk_at "g"
  exact hx (by omega)
 walk_at "g"
 refine r_d (fun h2=>?_) (fun h2=>?_)
 ·walk_at "g"
  exact hx (by omega)
 walk_at "g"
 exact fin_same (q (by omega) (by omega))
def zdl:zeH:=fun ds S Q ex=>∃ (v:D) (V:Vl) (n:Str),ds=[v,.str n]/\VAt S v V/\zcM V/\fl 20 (.str n)=true/\((∀ b∈V.bs,b.1≠n)->ex "NoBeacon" S)/\∀ s,(n,s)∈V.bs->Q (p2 s) S
def zf6 (ex : XR) : DS :=
    (zH (za2 (zaZ (zcw "beacons" (zf 0))) (zE 2) (sIf (dT (dOp oEq (dOp oIx (zf 2) (dC (.int 0))) (zf 1))) (zY (dTup (zm (dOp oIx (zf 2) (dC (.int 1))) (zm (dOp oIx (zf 2) (dC (.int 2))) zB)))) zZ))
 (zfN ex "NoBeacon"))
theorem znB:∀ ds So Q ex,zdl ds So Q ex->ds.length=2:=by rintro ds So Q ex ⟨_,_,_,rfl,_⟩;rfl
theorem zoP:zec 3 zf6 zdl:=by
 rintro ds S Q ex ⟨v,V,n,rfl,hv,ok,hn,hx,q⟩
 unfold zf6
 obtain⟨m,g,b',f,rfl,hm,hg,hb,_⟩:=hv
 walk_at "g"
 refine zaw (fun i Z S'=>S'=S/\(∃ w,Z=[some (.ref m),some (.str n),w])/\∀ b∈V.bs.take i,b.1≠n) ⟨rfl,⟨none,rfl⟩,by simp⟩ (fun i Z S' h=>h.1▸Lst.here hb) ?_ ?_
 ·rintro i d Z S' hd ⟨rfl,⟨w,rfl⟩,hno⟩
  obtain⟨b,hbi,rfl⟩:=zjD hd
  have mb:=qd hbi
  walk_at "g"
  refine zqd (zfO (ok.nm b mb) 20) hn ?_
  walk_at "g"
  refine r_d (fun h=>?_) (fun h=>?_)
  ·walk_at "g"
   exact fin_same (q b.2 (by rw [<- h];exact mb))
  ·walk_at "g"
   refine⟨rfl,⟨_,rfl⟩,fun c hc=>?_⟩
   rw [zau hbi] at hc
   rcases qu.mp hc with hc | hc
   ·exact hno c hc
   ·have:c=b:=by simpa using hc
    subst this;exact h
 ·rintro Z S' ⟨rfl,⟨w,rfl⟩,hno⟩
  rw [qa,qO] at hno
  walk_at "g"
  exact hx hno
def zaL:zeH:=fun ds S Q ex=>∃ (g:D) (cs:List (Int×Int)) (s:Int×Int),ds=[g,p2 s]/\GAt S g cs/\Grd cs/\Bd 180 s.1/\Bd 200 s.2/\(¬ zdS cs s->ex "OffGround" S)/\(zdS cs s->Q .non S)
def zbz (ex:XR):DS :=
  (sIf (zeA (dT (dCall zee (zm (zf 0) (zm (zf 1) zB))))) (zfN ex "OffGround") zZ)
theorem zfY:∀ ds So Q ex,zaL ds So Q ex->ds.length=2:=by rintro ds So Q ex ⟨_,_,_,rfl,_⟩;rfl
theorem zgo:zec 2 zbz zaL:=by
 rintro ds S Q ex ⟨g,cs,s,rfl,hg,gr,b1,b2,hx,q⟩
 unfold zbz
 walk_at "g"
 refine⟨g,cs,s,rfl,hg,gr,b1,b2,fun b hb=>?_⟩
 cases b with
 | true=>walk_at "g";exact fin_same (q (hb.mp rfl))
 | false=>walk_at "g";exact hx fun z=>(by have:=hb.mpr z;cases this)
def zbw:DSp:=fun ds S Q=>∃ (g:D) (cs:List (Int×Int)) (x y:Int),ds=[g,.int x,.int y]/\GAt S g cs/\cs.length<=40/\New Q S ((nbK cs x y cs.length).map D.int)
def zcf:DS :=
    (zH (zO (dB zg6 (zm (zf 1) (zm (zf 2) zB))) (zE 3))
 (zH (zO (dB zfl (zm (zf 1) (zm (zf 2) zB))) (zE 4))
 (zY (dLC 2 [3,4] (zor (zm (zcw "corners" (zf 0)) zB)) (zc6 2 (zaI (zE 0) (zaI (zE 1) zc9))) (dT (zj1 oLt oLt (zf 2) (dOp oIx (zf 1) (dC (.int 0))) (zf 3))) (zf 0)))))
theorem zhA:∀ ds So Q,zbw ds So Q->ds.length=3:=by rintro ds So Q ⟨_,_,_,_,rfl,_⟩;rfl
theorem zhZ:BodyOk 5 zcf zbw:=by
 rintro ds S Q ⟨g,cs,x,y,rfl,⟨n,l,rfl,hn,hl⟩,h40,q⟩
 unfold zcf
 walk_at "g"
 refine zyg (xs:=cs.map p2) (Lst.here hl) ?_
 refine⟨by rw [zc4,qa];unfold big;omega,fun i ys S'=>S'=S/\ys=(nbK cs x y i).map D.int,⟨rfl,rfl⟩,fun i ys S' ⟨e,_⟩=>e▸Lst.here hl,?_,?_⟩
 ·rintro i d ys S' hd ⟨rfl,rfl⟩
  obtain⟨u,hu,rfl⟩:=zga hd
  obtain⟨c,hc,rfl⟩:=zcS hu
  have e0:((0+i:Nat):Int)=(i:Int):=by omega
  have eg:cs.getD i (0,0)=c:=by rw [qp,hc];rfl
  rw [e0]
  walk_at "g"
  refine r_d (fun g1=>?_) (fun g1=>?_)
  ·walk_at "g"
   refine r_d (fun g2=>?_) (fun g2=>?_)
   ·walk_at "g"
    exact⟨rfl,(zw7 (by unfold nbP;rw [eg,decide_eq_true g1,decide_eq_true g2];rfl)).symm⟩
   ·walk_at "g"
    exact⟨rfl,by rw [zsp (by unfold nbP;rw [eg,decide_eq_false g2,Bool.and_false])]⟩
  ·walk_at "g"
   exact⟨rfl,by rw [zsp (by unfold nbP;rw [eg,decide_eq_false g1,Bool.false_and])]⟩
 ·rintro ys S' ⟨rfl,rfl⟩
  rw [zc4,qa]
  exact fin_same q
def zeB:DSp:=fun ds S Q=>∃ (a b c:Int×Int),ds=[p2 a,p2 b,p2 c]/\zat (c.2-a.2) (b.1-a.1)/\zat (c.1-a.1) (b.2-a.2)/\Q (.int (sdI a b c)) S
def zgb:DS :=
    (zH (zO (dOp zah (dOp oIx (zf 1) (dC (.int 0))) (dOp oIx (zf 0) (dC (.int 0)))) (zE 3))
 (zH (zO (dOp zah (dOp oIx (zf 1) (dC (.int 1))) (dOp oIx (zf 0) (dC (.int 1)))) (zE 4))
 (zH (zO (dOp zah (dOp zax (dOp zah (dOp oIx (zf 2) (dC (.int 1))) (dOp oIx (zf 0) (dC (.int 1)))) (zf 3)) (dOp zax (dOp zah (dOp oIx (zf 2) (dC (.int 0))) (dOp oIx (zf 0) (dC (.int 0)))) (zf 4))) (zE 5))
 (zH (sJ (sIf (dT (dOp oLt (zf 3) (dC (.int 0)))) (zO (dUn zck (zf 5)) (zE 5)) zZ))
 (zH (sIf (dT (dOp oGt (zf 5) (dC (.int 0)))) (zY (dC (.int 1))) zZ)
 (zH (sIf (dT (dOp oLt (zf 5) (dC (.int 0)))) (zY (dUn zck (dC (.int 1)))) zZ)
 (zY (dC (.int 0)))))))))
theorem zm6:∀ ds So Q,zeB ds So Q->ds.length=3:=by rintro ds So Q ⟨_,_,_,rfl,_⟩;rfl
theorem zox:BodyOk 6 zgb zeB:=by
 rintro ds S Q ⟨a,b,c,rfl,c1,c2,q⟩
 unfold zgb
 walk_at "g"
 unfold sdI at q
 have key:∀ o:Int,o=(if b.1-a.1<0 then -sdO a b c else sdO a b c)->(if 0<o then Q (.int 1) S else if o<0 then Q (.int (-1)) S else Q (.int 0) S):=fun o e=>by
  rw [<- e] at q
  by_cases h:0<o
  ·rw [if_pos h] at q ⊢;exact q
  ·rw [if_neg h] at q ⊢
   by_cases h2:o<0
   ·rw [if_pos h2] at q ⊢;exact q
   ·rw [if_neg h2] at q ⊢;exact q
 refine r_J (fun Z S'=>S'=S/\Z=[some (p2 a),some (p2 b),some (p2 c),some (.int (b.1-a.1)),some (.int (b.2-a.2)),some (.int (if b.1-a.1<0 then -sdO a b c else sdO a b c))]) ?_ ?_
 ·walk_at "g"
  refine r_d (fun g=>?_) (fun g=>?_)
  ·walk_at "g"
   exact⟨rfl,by rw [if_pos g];rfl⟩
  ·walk_at "g"
   exact⟨rfl,by rw [if_neg g];rfl⟩
 rintro Z S' ⟨rfl,rfl⟩
 have k:=key _ rfl
 generalize (if b.1-a.1<0 then -sdO a b c else sdO a b c)=o at k
 walk_at "g"
 refine r_d (fun g=>?_) (fun g=>?_)
 ·rw [if_pos g] at k
  walk_at "g"
  exact fin_same k
 ·rw [if_neg g] at k
  walk_at "g"
  refine r_d (fun g2=>?_) (fun g2=>?_)
  ·rw [if_pos g2] at k
   walk_at "g"
   exact fin_same k
  ·rw [if_neg g2] at k
   walk_at "g"
   exact fin_same k
def ze6:zeH:=fun ds S Q ex=>∃ (g:D) (cs:List (Int×Int)) (a b:Int×Int),ds=[g,p2 a,p2 b]/\GAt S g cs/\Grd cs/\(Bd 180 a.1/\Bd 200 a.2)/\(Bd 180 b.1/\Bd 200 b.2)/\(¬ (zdS cs a/\zdS cs b)->ex "OffGround" S)/\(zdS cs a->zdS cs b->Q (zbd (zdQ cs a b)) S)
def zhc (ex : XR) : DS :=
    (zH (zbn (zcQ zaL ex (zm (zf 0) (zm (zf 1) zB))))
 (zH (zbn (zcQ zaL ex (zm (zf 0) (zm (zf 2) zB))))
 (zH (za2 (zaZ (dCall zbw (zm (zf 0) (zm (dOp oIx (zf 1) (dC (.int 0))) (zm (dOp oIx (zf 2) (dC (.int 0))) zB))))) (zE 3) (sIf (dT (dOp oGt (dCall zeB (zm (zf 1) (zm (zf 2) (zm (dOp oIx (zcw "corners" (zf 0)) (zf 3)) zB)))) (dC (.int 0)))) (zY (zf 3)) zZ))
 (zY (dC .non)))))
theorem zof:∀ ds So Q ex,ze6 ds So Q ex->ds.length=3:=by rintro ds So Q ex ⟨_,_,_,_,rfl,_⟩;rfl
theorem zp3:zec 4 zhc ze6:=by
 rintro ds S Q ex ⟨g,cs,a,b,rfl,hg,gr,ba,bb,hx,q⟩
 unfold zhc
 walk_at "g"
 refine⟨g,cs,a,rfl,hg,gr,ba.1,ba.2,fun z=>hx fun y=>z y.1,fun za=>?_⟩
 walk_at "g"
 refine⟨g,cs,b,rfl,hg,gr,bb.1,bb.2,fun z=>hx fun y=>z y.2,fun zb=>?_⟩
 have sa:=Std.of ba.1 ba.2 za
 have sb:=Std.of bb.1 bb.2 zb
 have q:=q za zb
 walk_at "g"
 refine⟨g,cs,_,_,rfl,hg,gr.most,?_⟩
 have kl:∀ k∈nbK cs a.1 b.1 cs.length,0<=k/\k<cs.length:=fun k hk=>zuG hk
 unfold zdQ at q
 generalize nbK cs a.1 b.1 cs.length=ks at q kl
 unfold New
 walk_at "g"
 refine zaw (fun i Z S'=>∃ w1,Z=[some g,some (p2 a),some (p2 b),w1]/\S'=S++[.lst (ks.map D.int)]/\∀ x∈ks.take i,zjd cs a b x=false) ⟨none,rfl,rfl,by simp⟩ (fun i Z S' ⟨w1,_,e,_⟩=>e▸Lst.at0) ?_ ?_
 ·rintro i d Z S' hd ⟨w1,rfl,rfl,hn⟩
  obtain⟨k,hk,rfl⟩:=zdh hd
  obtain⟨k0,k1⟩:=kl k (qd hk)
  obtain⟨c,hc,ac⟩:=zha (cs:=cs) k0 k1
  have eg:cs.getD k.toNat (0,0)=c:=by rw [qp,hc];rfl
  obtain⟨bc1,bc2⟩:=gr.bd c (qd hc)
  obtain⟨n,l,rfl,hgn,hgl⟩:=hg.old (T:=[.lst (ks.map D.int)])
  walk_at "g"
  refine⟨a,b,c,rfl,.inl ⟨(Bd.sub (bc2.mono (by decide:(190:Nat)<=200)) sa.2.1).mono (by decide),(Bd.sub sb.1 sa.1).mono (by decide)⟩,.inl ⟨(Bd.sub (bc1.mono (by decide:(170:Nat)<=180)) sa.1).mono (by decide),(Bd.sub sb.2.1 sa.2.1).mono (by decide)⟩,?_⟩
  walk_at "g"
  refine r_d (fun g1=>?_) (fun g1=>?_)
  ·walk_at "g"
   rw [znM hk hn (by unfold zjd;rw [eg];exact decide_eq_true g1)] at q
   exact zaj rfl q
  ·walk_at "g"
   refine⟨_,rfl,rfl,fun x hx=>?_⟩
   rw [zau hk] at hx
   rcases qu.mp hx with hx | hx
   ·exact hn x hx
   ·have:x=k:=by simpa using hx
    subst this
    unfold zjd;rw [eg];exact decide_eq_false g1
 ·rintro Z S' ⟨w1,rfl,rfl,hn⟩
  rw [qa,qO] at hn
  rw [zsP hn] at q
  walk_at "g"
  exact zaj rfl q
def zbE:DSp:=fun ds S Q=>∃ (a b:Int×Int),ds=[p2 a,p2 b]/\(Bd 180 a.1/\Bd 200 a.2)/\(Bd 180 b.1/\Bd 200 b.2)/\Q (.int (sqr a b)) S
def zcq:DS :=
    (zH (zO (dOp zah (dOp oIx (zf 1) (dC (.int 0))) (dOp oIx (zf 0) (dC (.int 0)))) (zE 2))
 (zH (zO (dOp zah (dOp oIx (zf 1) (dC (.int 1))) (dOp oIx (zf 0) (dC (.int 1)))) (zE 3))
 (zY (dOp zae (dOp zax (zf 2) (zf 2)) (dOp zax (zf 3) (zf 3))))))
theorem zhV:∀ ds So Q,zbE ds So Q->ds.length=2:=by rintro ds So Q ⟨_,_,rfl,_⟩;rfl
theorem ziM:BodyOk 4 zcq zbE:=by
 rintro ds S Q ⟨a,b,rfl,⟨a1,a2⟩,⟨b1,b2⟩,q⟩
 unfold zcq
 have c1:Bd 8000 (b.1-a.1):=(Bd.sub b1 a1).mono (by decide)
 have c2:Bd 8000 (b.2-a.2):=(Bd.sub b2 a2).mono (by decide)
 have m1:zat (b.1-a.1) (b.1-a.1):=.inl ⟨c1,c1⟩
 have m2:zat (b.2-a.2) (b.2-a.2):=.inl ⟨c2,c2⟩
 walk_at "g"
 exact fin_same q
def zbR:DSp:=fun ds S Q=>∃ (v:D) (V:Vl) (a b:Int×Int),ds=[v,p2 a,p2 b]/\VAt S v V/\zcM V/\((Bd 180 a.1/\Bd 200 a.2)/\zdS V.cs a)/\((Bd 180 b.1/\Bd 200 b.2)/\zdS V.cs b)/\Q (ziq V a b) S
def zcN:DS :=
    (zH (zO (zcQ ze6 xF (zm (zcw "ground" (zf 0)) (zm (zf 1) (zm (zf 2) zB)))) (zE 3))
 (zH (sIf (dT (dOp zd3 (zf 3) (dC .non))) (zY (dTup (zm (dC (.str "ground")) (zm (zf 3) zB)))) zZ)
 (zH (zO (dCall zbE (zm (zf 1) (zm (zf 2) zB))) (zE 4))
 (zH (sIf (zdR (dT (dOp zd3 (zcw "haze" (zf 0)) (dC .non))) (dT (dOp oGt (zf 4) (zcw "haze" (zf 0))))) (zY (dTup (zm (dC (.str "haze")) (zm (zf 4) zB)))) zZ)
 (zY (dC .non))))))
theorem ziL:∀ ds So Q,zbR ds So Q->ds.length=3:=by rintro ds So Q ⟨_,_,_,_,rfl,_⟩;rfl
theorem zjk:BodyOk 5 zcN zbR:=by
 rintro ds S Q ⟨v,V,a,b,rfl,hv,ok,⟨ba,sa⟩,⟨bb,sb⟩,q⟩
 unfold zcN
 obtain⟨n,g,bb',f,rfl,hn,hg,_,_⟩:=hv
 walk_at "g"
 refine⟨_,V.cs,a,b,rfl,hg,ok.gr,ba,bb,fun no=>(no ⟨sa,sb⟩).elim,fun _ _=>?_⟩
 unfold ziq at q
 cases e:zdQ V.cs a b with
 | some k =>
  rw [e] at q
  unfold zbd
  walk_at "g"
  exact fin_same q
 | none =>
  rw [e] at q
  unfold zbd
  walk_at "g"
  refine⟨a,b,rfl,ba,bb,?_⟩
  dsimp only at q
  have hn':S[n]?=some (.ins "Valley" (vF (.ref g) (.ref bb') (.ref f) (zbd V.hz) (.int V.h0) (.int V.h1) (.int V.dl))):=hn
  generalize sqr a b=sq at q
  generalize V.hz=hz at q hn'
  cases hz with
  | none =>
   have q2:Q .non S:=q
   unfold zbd at hn'
   walk_at "g"
   exact fin_same q2
  | some z =>
   have q2:Q (if decide (z<sq)=true then .tup [.str "haze",.int sq] else .non) S:=q
   unfold zbd at hn'
   walk_at "g"
   refine r_d (fun h=>?_) (fun h=>?_)
   ·rw [if_pos (decide_eq_true h)] at q2
    walk_at "g"
    exact fin_same q2
   ·rw [if_neg (by rw [decide_eq_false h];decide)] at q2
    walk_at "g"
    exact fin_same q2
def zeT:DSp:=fun ds S Q=>∃ (F:Fg) (h:Int),ds=[fgD F,.int h]/\zat F.g h/\zat F.s h/\Q (.tup [.int (F.x0+F.g*h),.int (F.x1+F.g*h),.int (F.z0+F.s*h),.int (F.z1+F.s*h)]) S
def ziG:DS :=
    (zH (zO (dOp zax (dOp oIx (zf 0) (dC (.int 6))) (zf 1)) (zE 2))
 (zH (zO (dOp zax (dOp oIx (zf 0) (dC (.int 7))) (zf 1)) (zE 3))
 (zY (dTup (zm (dOp zae (dOp oIx (zf 0) (dC (.int 0))) (zf 2)) (zm (dOp zae (dOp oIx (zf 0) (dC (.int 1))) (zf 2)) (zm (dOp zae (dOp oIx (zf 0) (dC (.int 2))) (zf 3)) (zm (dOp zae (dOp oIx (zf 0) (dC (.int 3))) (zf 3)) zB))))))))
theorem zqI:∀ ds So Q,zeT ds So Q->ds.length=2:=by rintro ds So Q ⟨_,_,rfl,_⟩;rfl
theorem zru:BodyOk 4 ziG zeT:=by
 rintro ds S Q ⟨F,h,rfl,c1,c2,q⟩
 unfold ziG
 walk_at "g"
 exact fin_same q
def zde:DSp:=fun ds S Q=>∃ (L R B T x1 z1 x2 z2:Int),ds=[.tup [.int L,.int R,.int B,.int T],.tup [.int x1,.int z1],.tup [.int x2,.int z2]]/\Bd 1000 L/\Bd 1000 R/\Bd 1000 B/\Bd 1000 T/\Bd 1000 x1/\Bd 1000 z1/\Bd 1000 x2/\Bd 1000 z2 /\
 ∀ (ca cb:Cell) (mx mn:Int),mx∈acr L R B T x1 z1 x2 z2->(∀ a∈acr L R B T x1 z1 x2 z2,a<=mx)->mn∈acr L R B T x1 z1 x2 z2->(∀ a∈acr L R B T x1 z1 x2 z2,mn<=a)->Q (.ref (S.length+2)) (S++[ca,cb,.lst ((six L R B T x1 z1 x2 z2 mx mn).map D.int)])
def zgf:DS :=
    (zH (zO (dOp zah (dOp oIx (zf 2) (dC (.int 0))) (dOp oIx (zf 1) (dC (.int 0)))) (zE 3))
 (zH (zO (dOp zah (dOp oIx (zf 2) (dC (.int 1))) (dOp oIx (zf 1) (dC (.int 1)))) (zE 4))
 (zH (zO (zbc (zm (dTup (zm (dOp oIx (zf 0) (dC (.int 0))) (zm (dOp oIx (zf 0) (dC (.int 2))) zB))) (zm (dTup (zm (dOp oIx (zf 0) (dC (.int 0))) (zm (dOp oIx (zf 0) (dC (.int 3))) zB))) (zm (dTup (zm (dOp oIx (zf 0) (dC (.int 1))) (zm (dOp oIx (zf 0) (dC (.int 2))) zB))) (zm (dTup (zm (dOp oIx (zf 0) (dC (.int 1))) (zm (dOp oIx (zf 0) (dC (.int 3))) zB))) zB))))) (zE 5))
 (zH (zO (dLC 2 [3,1,4] (zaZ (zf 5)) (zc6 2 (zaI (zE 0) (zaI (zE 1) zc9))) zbI (dOp zah (dOp zax (zf 2) (dOp zah (zf 1) (dOp oIx (zf 3) (dC (.int 1))))) (dOp zax (zf 4) (dOp zah (zf 0) (dOp oIx (zf 3) (dC (.int 0))))))) (zE 6))
 (zY (zbc (zm (dOp zah (dB zfl (zm (dOp oIx (zf 1) (dC (.int 0))) (zm (dOp oIx (zf 2) (dC (.int 0))) zB))) (dOp oIx (zf 0) (dC (.int 0)))) (zm (dOp zah (dOp oIx (zf 0) (dC (.int 1))) (dB zg6 (zm (dOp oIx (zf 1) (dC (.int 0))) (zm (dOp oIx (zf 2) (dC (.int 0))) zB)))) (zm (dOp zah (dB zfl (zm (dOp oIx (zf 1) (dC (.int 1))) (zm (dOp oIx (zf 2) (dC (.int 1))) zB))) (dOp oIx (zf 0) (dC (.int 2)))) (zm (dOp zah (dOp oIx (zf 0) (dC (.int 3))) (dB zg6 (zm (dOp oIx (zf 1) (dC (.int 1))) (zm (dOp oIx (zf 2) (dC (.int 1))) zB)))) (zm (dB zoO (zm (zf 6) zB)) (zm (dUn zck (dB zoM (zm (zf 6) zB))) zB))))))))))))
theorem zni:∀ ds So Q,zde ds So Q->ds.length=3:=by rintro ds So Q ⟨_,_,_,_,_,_,_,_,rfl,_⟩;rfl
theorem zo5:BodyOk 7 zgf zde:=by
 rintro ds S Q ⟨L,R,B,T,x1,z1,x2,z2,rfl,bL,bR,bB,bT,b1,b2,b3,b4,q⟩
 unfold zgf
 walk_at "g"
 refine za5 (fun _=>true) (on2 fun c=>.int ((x2-x1)*(c.2-z1)-(z2-z1)*(c.1-x1))) (by walk_at "dlat") (Nat.le_of_ble_eq_true rfl) (fun i d ys hd hw=>?_) ?_
 ·obtain⟨c,hc,rfl⟩:=zcS (cs:=[(L,B),(L,T),(R,B),(R,T)]) hd
  have hm:=qd hc
  have hb:Bd 1000 c.1/\Bd 1000 c.2:=by
   simp only [qf,qm,or_false] at hm
   rcases hm with rfl | rfl | rfl | rfl
   ·exact⟨bL,bB⟩
   ·exact⟨bL,bT⟩
   ·exact⟨bR,bB⟩
   ·exact⟨bR,bT⟩
  have hb1:=hb.1
  have hb2:=hb.2
  have c1:zat (x2-x1) (c.2-z1):=.inl ⟨(Bd.sub b3 b1).mono (by decide),(Bd.sub hb2 b2).mono (by decide)⟩
  have c2:zat (z2-z1) (c.1-x1):=.inl ⟨(Bd.sub b4 b2).mono (by decide),(Bd.sub hb1 b1).mono (by decide)⟩
  walk_at "g"
  exact zbZ hd hw rfl rfl
 rw [filter_true]
 show New _ _ ((acr L R B T x1 z1 x2 z2).map D.int)
 walk_at "g"
 refine zvY (ns:=acr L R B T x1 z1 x2 z2) (by walk_at "dlat") (Nat.le_of_ble_eq_true rfl) fun mx m1 m2=>?_
 walk_at "g"
 refine zuh (ns:=acr L R B T x1 z1 x2 z2) (by walk_at "dlat") (Nat.le_of_ble_eq_true rfl) fun mn n1 n2=>?_
 walk_at "g"
 exact fin_same (q _ _ mx mn m1 m2 n1 n2)
def zeb:DSp:=fun ds S Q=>∃ (x:D) (cs:List (Int×Int)),ds=[x]/\zeQ S x (cs.map p2)/\cs.length<=4000/\(cs.filter lec).length<64 /\
 ∀ ms:List (Int×Int),zaA ms->(∀ h,ms.any (inS h)=cs.any (inS h))->ms.length<=(cs.filter lec).length->Q (.tup (ms.map p2)) S
theorem zoA {ss:List (Int×Int)}(srt:ss.Pairwise fun a b=>zi2 b a=false){i:Nat}{c d:Int×Int}(hc:ss[i]?=some c)(hd:d∈ss.take i):d.1<=c.1:=by
 obtain⟨j,hj,e⟩:=List.mem_iff_getElem.mp hd
 rw [List.length_take] at hj
 rw [List.getElem_take] at e
 have hi:=zao hc
 rw [qb hi] at hc
 cases hc
 subst e
 exact zu0 (qQ.mp srt j i (by omega) hi (by omega))
theorem zht {ss:List (Int×Int)}{i:Nat}{c:Int×Int}(hc:ss[i]?=some c)(h:Int):(ss.take (i+1)).any (inS h)=((ss.take i).any (inS h)||inS h c):=by
 rw [zau hc,List.any_append];simp
theorem zsz {α:Type}{l:List α}(h:0<l.length):∃ i x,l=i++[x]:=by
 have:l≠[]:=fun e=>by rw [e] at h;cases h
 exact⟨l.dropLast,l.getLast this,(List.dropLast_concat_getLast this).symm⟩
def zjS:DS :=
    (zH (zO (zbc zB) (zE 1))
 (zH (za2 (zaZ (dB zpa (zm (dLC 1 [] (zaZ (zf 0)) (zE 0) (dT (dOp oLe (dOp oIx (zf 0) (dC (.int 0))) (dOp oIx (zf 0) (dC (.int 1))))) (dTup (zm (dOp oIx (zf 0) (dC (.int 0))) (zm (dOp oIx (zf 0) (dC (.int 1))) zB)))) zB))) (zc6 2 (zaI (zE 2) (zaI (zE 3) zc9))) (sIf (zdR (dT (dOp oGt (dB zaH (zm (zf 1) zB)) (dC (.int 0)))) (dT (dOp oLe (zf 2) (dOp zae (dOp oIx (dOp oIx (zf 1) (dUn zck (dC (.int 1)))) (dC (.int 1))) (dC (.int 1)))))) (zO (dTup (zm (dOp oIx (dOp oIx (zf 1) (dUn zck (dC (.int 1)))) (dC (.int 0))) (zm (dB zfl (zm (dOp oIx (dOp oIx (zf 1) (dUn zck (dC (.int 1)))) (dC (.int 1))) (zm (zf 3) zB))) zB))) (zeI (zf 1) (dUn zck (dC (.int 1))))) (zbn (dM zcI (zf 1) (zm (dTup (zm (zf 2) (zm (zf 3) zB))) zB)))))
 (zY (dB zm1 (zm (zf 1) zB)))))
theorem zrN:∀ ds So Q,zeb ds So Q->ds.length=1:=by rintro ds So Q ⟨_,_,rfl,_⟩;rfl
theorem ztB:BodyOk 4 zjS zeb:=by
 rintro ds S Q ⟨x,cs,rfl,hx,hcl,hfl,q⟩
 unfold zjS
 walk_at "g"
 refine zvu (xs:=cs.map p2) hx.old fun ok hok=>?_
 refine za5 (zvL lec) (on2 p2) (by have:=hok [];rwa [List.append_nil] at this) ?_ (fun i d ys hd hw=>?_) ?_
 ·rw [qa];unfold big;omega
 ·obtain⟨c,hc,rfl⟩:=zcS hd
  walk_at "g"
  refine r_d (fun g=>?_) (fun g=>?_)
  ·walk_at "g"
   exact zbZ hd hw (decide_eq_true g) rfl
  ·walk_at "g"
   exact zlJ hd hw (decide_eq_false g)
 rw [zr5,zsY]
 walk_at "g"
 refine zt2 (cs:=cs.filter lec) (Lst.at rfl) hfl fun ss perm srt=>?_
 have hsl:ss.length=(cs.filter lec).length:=perm.length_eq
 have hsle:∀ c∈ss,c.1<=c.2:=fun c hc=>of_decide_eq_true (List.mem_filter.mp (perm.mem_iff.mp hc)).2
 walk_at "g"
 refine zaw (fun i Z S'=>∃ (ms:List (Int×Int)) (w1 w2:Option D),Z=[some x,some (.ref S.length),w1,w2]/\S'=S++[.lst (ms.map p2),.lst ((cs.filter lec).map p2),.lst (ss.map p2)]/\zaA ms/\ms.length<=i /\
  (∀ h,ms.any (inS h)=(ss.take i).any (inS h))/\∀ m∈ms,∃ d∈ss.take i,m.1=d.1)
  ⟨[],none,none,rfl,rfl,zaA.nil,qg _,fun h=>rfl,by simp⟩ (fun i Z S' ⟨ms,w1,w2,_,e,_⟩=>e▸Lst.at rfl) ?_ ?_
 ·rintro i d Z S' hd ⟨ms,w1,w2,rfl,rfl,ok,hml,hany,hlow⟩
  obtain⟨c,hc,rfl⟩:=zcS hd
  have hil:=zao hc
  have hcle:=hsle c (qd hc)
  have low:∀ m∈ms,m.1<=c.1:=fun m hm=>by
   obtain⟨d,hd,e⟩:=hlow m hm
   rw [e]
   exact zoA srt hc hd
  have hlow':∀ m,(∃ d∈ss.take i,m=d.1)->∃ d∈ss.take (i+1),m=d.1:=fun m ⟨d,hd,e⟩=>⟨d,by rw [zau hc];exact List.mem_append_left _ hd,e⟩
  have hnew:∃ d∈ss.take (i+1),c.1=d.1:=⟨c,by rw [zau hc];simp,rfl⟩
  have app:(∀ m∈ms,m.2+2<=c.1)->∃ (ms':List (Int×Int)) (w1 w2:Option D),([some x,some (.ref S.length),some (.int c.1),some (.int c.2)]:Rho)=[some x,some (.ref S.length),w1,w2]/\S++[Cell.lst (ms.map p2++[p2 c]),.lst ((cs.filter lec).map p2),.lst (ss.map p2)]=S++[.lst (ms'.map p2),.lst ((cs.filter lec).map p2),.lst (ss.map p2)]/\zaA ms'/\ms'.length<=i+1 /\
    (∀ h,ms'.any (inS h)=(ss.take (i+1)).any (inS h))/\∀ m∈ms',∃ d∈ss.take (i+1),m.1=d.1:=fun ap=>by
   refine⟨ms++[c],_,_,rfl,by rw [qr];rfl,ok.snoc hcle ap,by rw [qe];exact Nat.succ_le_succ hml,fun h=>by rw [List.any_append,hany h,zht hc];simp,fun y hy=>?_⟩
   rcases qu.mp hy with hy | hy
   ·exact hlow' _ (hlow y hy)
   ·have:y=c:=by simpa using hy
    subst this
    exact hnew
  walk_at "g"
  rw [qa]
  refine r_d (fun h0=>?_) (fun h0=>?_)
  ·obtain⟨ms0,m,rfl⟩:=zsz (l:=ms) (by omega)
   have hm1:=low m (by simp)
   have am:atD (List.map p2 (ms0++[m])) (-1)=some (p2 m):=by rw [qr];exact zgQ
   have im:ixD (List.map p2 (ms0++[m])).length (-1)=some (ms0.map p2).length:=by rw [qr];exact zmw
   walk_at "g"
   refine r_d (fun h1=>?_) (fun h1=>?_)
   ·walk_at "g"
    refine ze2 zaz im ?_
    walk_at "g"
    obtain⟨ok2,any2⟩:=zrT ok hcle hm1 h1
    refine⟨ms0++[(m.1,max m.2 c.2)],_,_,rfl,?_,ok2,by rw [qe] at hml ⊢;exact Nat.le_succ_of_le hml,fun h=>by rw [any2 h,hany h,zht hc],fun y hy=>?_⟩
    ·rw [qr,qr,List.set_append_right _ _ (qg _),Nat.sub_self];rfl
    ·rcases qu.mp hy with hy | hy
     ·exact hlow' _ (hlow y (List.mem_append_left _ hy))
     ·have:y=(m.1,max m.2 c.2):=by simpa using hy
      subst this
      exact hlow' _ (hlow m (by simp))
   ·walk_at "g"
    obtain⟨ok0,hmle,hap⟩:=ok.init
    exact app fun y hy=>by
     rcases qu.mp hy with hy | hy
     ·have:=hap y hy
      omega
     ·have:y=m:=by simpa using hy
      subst this
      omega
  ·have em:ms=[]:=List.length_eq_zero_iff.mp (by omega)
   walk_at "g"
   exact app (by rw [em];simp)
 ·rintro Z S' ⟨ms,w1,w2,rfl,rfl,ok,hml,hany,hlow⟩
  rw [qa] at hml hany
  walk_at "g"
  exact zaj (ziA ms) (q ms ok (fun h=>by rw [hany h,qO,zq0 perm,show cs.filter lec=cs.filter (fun c=>decide (c.1<=c.2)) from rfl,any_filter]) (by omega))
def zfU:DSp:=fun ds S Q=>∃ (F:Fg) (px pz qx qz:Int),ds=[fgD F,.tup [.int px,.int pz],.tup [.int qx,.int qz]]/\FgB F/\Bd 600 px/\Bd 600 pz/\Bd 600 qx/\Bd 600 qz/\∀ ms:List (Int×Int),zsw ms F px pz qx qz->Q (.tup (ms.map p2)) S
def zin:DS :=
    (zH (zO (dC (.int 0)) (zE 3))
 (zH (zO (dOp zah (dOp oIx (zf 0) (dC (.int 5))) (dOp oIx (zf 0) (dC (.int 4)))) (zE 4))
 (zH (zO (dCall zde (zm (dCall zeT (zm (zf 0) (zm (dC (.int 0)) zB))) (zm (zf 1) (zm (zf 2) zB)))) (zE 5))
 (zH (zO (dCall zde (zm (dCall zeT (zm (zf 0) (zm (dC (.int 1)) zB))) (zm (zf 1) (zm (zf 2) zB)))) (zE 6))
 (zH (za2 (zl9 (zm (zf 5) (zm (zf 6) zB))) (zc6 2 (zaI (zE 7) (zaI (zE 8) zc9))) (zH (zO (dOp zah (zf 8) (zf 7)) (zE 9))
 (sIf (dT (dOp oGt (zf 9) (dC (.int 0)))) (zO (dB zfl (zm (zf 3) (zm (dUn zck (dOp oDiv (zf 7) (zf 9))) zB))) (zE 3)) (sIf (dT (dOp oLt (zf 9) (dC (.int 0)))) (zO (dB zg6 (zm (zf 4) (zm (dOp oDiv (zf 7) (dUn zck (zf 9))) zB))) (zE 4)) (sIf (dT (dOp oLt (zf 7) (dC (.int 0)))) (zY (dTup zB)) zZ)))))
 (zY (dCall zeb (zm (zbc (zm (dTup (zm (dOp zae (dOp oIx (zf 0) (dC (.int 4))) (zf 3)) (zm (dOp zae (dOp oIx (zf 0) (dC (.int 4))) (zf 4)) zB))) zB)) zB))))))))
theorem zp0:∀ ds So Q,zfU ds So Q->ds.length=3:=by rintro ds So Q ⟨_,_,_,_,_,rfl,_⟩;rfl
theorem zr2:BodyOk 10 zin zfU:=by
  rintro ds S Q ⟨F,px,pz,qx,qz,rfl,B,bpx,bpz,bqx,bqz,q⟩
  unfold zin
  have bmv:∀ {x y c:Int},Bd 600 x->Bd 200 y->(c=0\/c=1)->Bd 700 (x+y*c):=fun {x y c} hx hy hc=>(Bd.add (n:=600) hx (by
    rcases hc with rfl | rfl
    . rw [Int.mul_zero];exact Bd.lit (by decide) (by decide)
    . rw [Int.mul_one];exact hy.mono (by decide))).mono (by decide)
  have cs:∀ {y c:Int},(c=0\/c=1)->zat y c:=fun hc=>.inr (.inr (by rcases hc with rfl | rfl<;>decide))
  walk_at "g"
  refine⟨F,0,rfl,cs (.inl rfl),cs (.inl rfl),?_⟩
  walk_at "g"
  refine⟨_,_,_,_,px,pz,qx,qz,rfl,(bmv B.b0 B.bg (.inl rfl)).mono (by decide),(bmv B.b1 B.bg (.inl rfl)).mono (by decide),(bmv B.b2 B.bs (.inl rfl)).mono (by decide),(bmv B.b3 B.bs (.inl rfl)).mono (by decide),bpx.mono (by decide),bpz.mono (by decide),bqx.mono (by decide),bqz.mono (by decide),fun ca cb mx mn m1 m2 n1 n2=>?_⟩
  walk_at "g"
  refine⟨F,1,rfl,cs (.inr rfl),cs (.inr rfl),?_⟩
  walk_at "g"
  refine⟨_,_,_,_,px,pz,qx,qz,rfl,(bmv B.b0 B.bg (.inr rfl)).mono (by decide),(bmv B.b1 B.bg (.inr rfl)).mono (by decide),(bmv B.b2 B.bs (.inr rfl)).mono (by decide),(bmv B.b3 B.bs (.inr rfl)).mono (by decide),bpx.mono (by decide),bpz.mono (by decide),bqx.mono (by decide),bqz.mono (by decide),fun ca' cb' mx' mn' m1' m2' n1' n2'=>?_⟩
  have mm:∀ k,_↔_:=fun k=>zpJ (k:=k) m1 m2 n1 n2 m1' m2' n1' n2'
  have sb:=zqM (bmv B.b0 B.bg (.inl rfl)) (bmv B.b1 B.bg (.inl rfl)) (bmv B.b2 B.bs (.inl rfl)) (bmv B.b3 B.bs (.inl rfl)) (bpx.mono (by decide)) (bpz.mono (by decide)) (bqx.mono (by decide)) (bqz.mono (by decide)) m1 n1
  have ab:=zqM (bmv B.b0 B.bg (.inr rfl)) (bmv B.b1 B.bg (.inr rfl)) (bmv B.b2 B.bs (.inr rfl)) (bmv B.b3 B.bs (.inr rfl)) (bpx.mono (by decide)) (bpz.mono (by decide)) (bqx.mono (by decide)) (bqz.mono (by decide)) m1' n1'
  have l1:(six (F.x0+F.g*0) (F.x1+F.g*0) (F.z0+F.s*0) (F.z1+F.s*0) px pz qx qz mx mn).length=6:=rfl
  have l2:(six (F.x0+F.g*1) (F.x1+F.g*1) (F.z0+F.s*1) (F.z1+F.s*1) px pz qx qz mx' mn').length=6:=rfl
  generalize six (F.x0+F.g*0) (F.x1+F.g*0) (F.z0+F.s*0) (F.z1+F.s*0) px pz qx qz mx mn=A at *
  generalize six (F.x0+F.g*1) (F.x1+F.g*1) (F.z0+F.s*1) (F.z1+F.s*1) px pz qx qz mx' mn'=A' at *
  clear m1 m2 n1 n2 m1' m2' n1' n2'
  have kA:(S++[ca,cb,Cell.lst (A.map D.int)]++[ca',cb',Cell.lst (A'.map D.int)])[S.length+2]?=some (.lst (A.map D.int)):=zay ((zbQ _ _ _).trans rfl)
  have kA':(S++[ca,cb,Cell.lst (A.map D.int)]++[ca',cb',Cell.lst (A'.map D.int)])[(S++[ca,cb,Cell.lst (A.map D.int)]).length+2]?=some (.lst (A'.map D.int)):=(zbQ _ _ _).trans rfl
  have eS:S++[ca,cb,Cell.lst (A.map D.int)]++[ca',cb',Cell.lst (A'.map D.int)]=S++[ca,cb,Cell.lst (A.map D.int),ca',cb',Cell.lst (A'.map D.int)]:=by simp
  generalize (S++[ca,cb,Cell.lst (A.map D.int)]).length+2=na at *
  generalize S++[ca,cb,Cell.lst (A.map D.int)]++[ca',cb',Cell.lst (A'.map D.int)]=S1 at *
  walk_at "g"
  refine zqX (xs:=A.map D.int) (ys:=A'.map D.int) (Lst.here kA) (Lst.here kA') ?_
  refine zaw (fun i Z S'=>S'=S1/\∃ (lo hi:Int) (w1 w2 w3:Option D),Z=[some (fgD F),some (.tup [.int px,.int pz]),some (.tup [.int qx,.int qz]),some (.int lo),some (.int hi),some (.ref (S.length+2)),some (.ref na),w1,w2,w3] /\
    ∀ k,(lo<=k/\k<=hi)↔(0<=k/\k<=F.l-F.f/\∀ j,j<i->0<=A.getD j 0+k*(A'.getD j 0-A.getD j 0))) ⟨rfl,0,F.l-F.f,none,none,none,rfl,fun k=>⟨fun h=>⟨h.1,h.2,fun j hj=>absurd hj (by omega)⟩,fun h=>⟨h.1,h.2.1⟩⟩⟩ (fun i Z S' z=>z.1▸⟨Lst.here kA,Lst.here kA'⟩) ?_ ?_
  . rintro i d Z S' hd ⟨rfl,lo,hi,w1,w2,w3,rfl,hk⟩
    obtain⟨x,y,hx,hy,rfl⟩:=zfQ hd
    obtain⟨sv,hs,rfl⟩:=zdh hx
    obtain⟨av,ha,rfl⟩:=zdh hy
    have es:A.getD i 0=sv:=by rw [qp,hs];rfl
    have ea:A'.getD i 0=av:=by rw [qp,ha];rfl
    have bsv:=sb sv (qd hs)
    have bav:=ab av (qd ha)
    have bst:Bd 1600 (av-sv):=(Bd.sub bav bsv).mono (by decide)
    have bst':Bd 1600 (-(av-sv)):=bst.neg
    have next:∀ {P:Int->Prop},(∀ k,P k↔0<=sv+k*(av-sv))->∀ k,((0<=k/\k<=F.l-F.f/\∀ j,j<i->0<=A.getD j 0+k*(A'.getD j 0-A.getD j 0))/\P k)↔(0<=k/\k<=F.l-F.f/\∀ j,j<i+1->0<=A.getD j 0+k*(A'.getD j 0-A.getD j 0)):=fun {P} hP k=>by
      constructor
      . rintro⟨⟨c1,c2,c3⟩,c4⟩
        refine⟨c1,c2,fun j hj=>?_⟩
        rcases qD j i with h | h
        . exact c3 j h
        . have:j=i:=by omega
          subst this
          rw [es,ea]
          exact (hP k).mp c4
      . rintro⟨c1,c2,c3⟩
        refine⟨⟨c1,c2,fun j hj=>c3 j (by omega)⟩,(hP k).mpr ?_⟩
        have:=c3 i (by omega)
        rw [es,ea] at this
        exact this
    walk_at "g"
    refine r_d (fun g1=>?_) (fun g1=>?_)
    . walk_at "g"
      refine⟨rfl,_,_,_,_,_,rfl,fun k=>?_⟩
      rw [<- next (fun k=>ztq (S:=sv) (T:=av-sv) (k:=k) (by omega)) k,<- hk k]
      omega
    . walk_at "g"
      refine r_d (fun g2=>?_) (fun g2=>?_)
      . walk_at "g"
        refine⟨rfl,_,_,_,_,_,rfl,fun k=>?_⟩
        rw [<- next (fun k=>zqO (S:=sv) (T:=av-sv) (k:=k) (by omega)) k,<- hk k]
        omega
      . have e0:av-sv=0:=by omega
        have flat:∀ k,(0<=sv)↔0<=sv+k*(av-sv):=fun k=>by rw [e0,Int.mul_zero,Int.add_zero]
        walk_at "g"
        refine r_d (fun g3=>?_) (fun g3=>?_)
        . walk_at "g"
          rw [eS]
          refine zaj (ziA []) (q [] ⟨zaA.nil,by decide,fun h=>⟨fun z=>absurd z (by simp),fun z=>?_⟩⟩)
          have:=(mm (h-F.f)).mpr ((zkv (by have:=B.x;omega) (by have:=B.z;omega)).mpr z.2.2) i (by have:=zao hs;omega)
          rw [es,ea,<- flat] at this
          omega
        . walk_at "g"
          refine⟨rfl,_,_,_,_,_,rfl,fun k=>?_⟩
          rw [<- next flat k,<- hk k]
          constructor
          . intro h;exact⟨h,by omega⟩
          . intro h;exact h.1
  . rintro Z S' ⟨rfl,lo,hi,w1,w2,w3,rfl,hk⟩
    rw [zd6,qa,qa,l1,l2] at hk
    walk_at "g"
    refine⟨_,[(F.f+lo,F.f+hi)],rfl,.inr (by walk_at "dlat"),Nat.le_of_ble_eq_true rfl,?_,fun ms ok hany hml=>?_⟩
    . exact Nat.lt_of_le_of_lt (List.length_filter_le _ _) (Nat.le_of_ble_eq_true rfl)
    . rw [eS,qF]
      exact zaj (ziA ms) (q ms (zrV B ok (qK hml (List.length_filter_le _ _)) hany fun k=>by rw [hk k];exact and_congr_right fun _=>and_congr_right fun _=>mm k))
def zc3:DSp:=fun ds S Q=>∃ (x:D) (fs:List Fg) (px pz qx qz:Int),ds=[x,.tup [.int px,.int pz],.tup [.int qx,.int qz]]/\Lst S x (fs.map fgD)/\fs.length<64/\(∀ F∈fs,FgB F)/\Bd 600 px/\Bd 600 pz/\Bd 600 qx/\Bd 600 qz /\
 ∀ ms:List (Int×Int),zaA ms->(∀ h,ms.any (inS h)=true↔∃ F∈fs,zbW F px pz qx qz h)->ms.length<=fs.length->Q (.tup (ms.map p2)) S
def zeU:DS :=
    (zH (zO (zbc zB) (zE 3))
 (zH (za2 (zaZ (zf 0)) (zE 4) (zbn (dM zi7 (zf 3) (zm (dCall zfU (zm (zf 4) (zm (zf 1) (zm (zf 2) zB)))) zB))))
 (zY (dCall zeb (zm (zf 3) zB)))))
theorem zls:∀ ds So Q,zc3 ds So Q->ds.length=3:=by rintro ds So Q ⟨_,_,_,_,_,_,rfl,_⟩;rfl
theorem zmn:BodyOk 5 zeU zc3:=by
 rintro ds S Q ⟨x,fs,px,pz,qx,qz,rfl,hx,hl,hB,bpx,bpz,bqx,bqz,q⟩
 unfold zeU
 walk_at "g"
 refine zaw (fun i Z S'=>∃ (cs:List (Int×Int)) (w:Option D),Z=[some x,some (.tup [.int px,.int pz]),some (.tup [.int qx,.int qz]),some (.ref S.length),w]/\S'=S++[.lst (cs.map p2)]/\cs.length<=i/\∀ h,cs.any (inS h)=true↔∃ F∈fs.take i,zbW F px pz qx qz h)
  ⟨[],none,rfl,rfl,qg _,fun h=>by simp⟩ (fun i Z S' ⟨cs,w,_,e,_⟩=>e▸hx.old) ?_ ?_
 ·rintro i d Z S' hd ⟨cs,w,rfl,rfl,hc,hh⟩
  obtain⟨F,hF,rfl⟩:=zjY hd
  have hi:=zao hF
  walk_at "g"
  refine⟨F,px,pz,qx,qz,rfl,hB F (qd hF),bpx,bpz,bqx,bqz,fun ms hm=>?_⟩
  obtain⟨ok,hone,hat⟩:=hm
  walk_at "g"
  refine zqA (n:=S.length) zaz (by rw [qa,qa];unfold big;omega) ?_
  walk_at "g"
  refine⟨cs++ms,_,rfl,by rw [qr],by rw [qe];omega,fun h=>?_⟩
  rw [List.any_append,Bool.or_eq_true,hh,hat,zau hF]
  constructor
  ·rintro (⟨G,hG,g⟩ | g)
   ·exact⟨G,List.mem_append_left _ hG,g⟩
   ·exact⟨F,by simp,g⟩
  ·rintro⟨G,hG,g⟩
   rcases qu.mp hG with hG | hG
   ·exact .inl ⟨G,hG,g⟩
   ·have:G=F:=by simpa using hG
    subst this
    exact .inr g
 ·rintro Z S' ⟨cs,w,rfl,rfl,hc,hh⟩
  rw [qa] at hc hh
  rw [qO] at hh
  have hf:=List.length_filter_le lec cs
  walk_at "g"
  refine⟨_,cs,rfl,.inr Lst.at0,by omega,by omega,fun ms ok hany hml=>?_⟩
  exact zaj (ziA ms) (q ms ok (fun h=>by rw [hany h];exact hh h) (by omega))
def zgB:DSp:=fun ds S Q=>∃ (cs:List (Int×Int)) (lo hi:Int),ds=[.tup (cs.map p2),.int lo,.int hi]/\zaA cs/\cs.length<63 /\
 ∀ ms:List (Int×Int),zaA ms->(∀ h,lo<=h->h<=hi->ms.any (inS h)=!(cs.any (inS h)))->ms.length<=cs.length+1->Q (.tup (ms.map p2)) S
def zj2:DS :=
    (zH (zO (zbc zB) (zE 3))
 (zH (zO (zf 1) (zE 4))
 (zH (za2 (zaZ (zf 0)) (zE 5) (zH (zbn (dM zcI (zf 3) (zm (dTup (zm (zf 4) (zm (dOp zah (dOp oIx (zf 5) (dC (.int 0))) (dC (.int 1))) zB))) zB)))
 (zO (dOp zae (dOp oIx (zf 5) (dC (.int 1))) (dC (.int 1))) (zE 4))))
 (zH (zbn (dM zcI (zf 3) (zm (dTup (zm (zf 4) (zm (zf 2) zB))) zB)))
 (zY (dCall zeb (zm (zf 3) zB)))))))
theorem zrX:∀ ds So Q,zgB ds So Q->ds.length=3:=by rintro ds So Q ⟨_,_,_,rfl,_⟩;rfl
theorem ztS:BodyOk 6 zj2 zgB:=by
  rintro ds S Q ⟨cs,lo,hi,rfl,ok,h31,q⟩
  unfold zj2
  walk_at "g"
  refine zaw (fun i Z S'=>∃ (w:Option D),Z=[some (.tup (cs.map p2)),some (.int lo),some (.int hi),some (.ref S.length),some (.int (zaO lo (cs.take i)).2),w]/\S'=S++[.lst ((zaO lo (cs.take i)).1.map p2)]) ⟨none,rfl,rfl⟩ (fun _ _ _ _=>True.intro) ?_ ?_
  . rintro i d Z S' hd ⟨w,rfl,rfl⟩
    obtain⟨c,hc,rfl⟩:=zcS hd
    have hi':=zao hc
    have hlim:(List.map p2 (zaO lo (cs.take i)).1).length<big:=by
      rw [qa,ze7,List.length_take];unfold big;omega
    walk_at "g"
    refine⟨some (p2 c),?_,?_⟩
    . rw [zau hc,zhh];rfl
    . rw [zau hc,zhh,qr];rfl
  . rintro Z S' ⟨w,rfl,rfl⟩
    rw [qa,qO]
    have hlim:(List.map p2 (zaO lo cs).1).length<big:=by
      rw [qa,ze7];unfold big;omega
    have hf:=List.length_filter_le lec ((zaO lo cs).1++[((zaO lo cs).2,hi)])
    rw [qe,ze7] at hf
    have hf:((((zaO lo cs).1++[((zaO lo cs).2,hi)])).filter lec).length<=cs.length+1:=hf
    walk_at "g"
    refine⟨_,(zaO lo cs).1++[((zaO lo cs).2,hi)],rfl,.inr (by rw [qr];exact Lst.at0),by rw [qe,ze7];show cs.length+1<=4000;omega,by omega,fun ms okm hany hml=>?_⟩
    refine zaj (ziA ms) (q ms okm (fun h h0 h1=>?_) (by omega))
    rw [hany h,Bool.eq_iff_iff,zms h1 lo ok h0 (fun _ _ _=>trivial),<- zaP]
    cases cs.any (inS h)<;>simp
def zgG:DSp:=fun ds S Q=>∃ (as bs:List (Int×Int)),ds=[.tup (as.map p2),.tup (bs.map p2)]/\zaA as/\zaA bs/\as.length+bs.length<64 /\
 ∀ ms:List (Int×Int),zaA ms->(∀ h,ms.any (inS h)=(as.any (inS h)&&bs.any (inS h)))->ms.length<=as.length+bs.length->Q (.tup (ms.map p2)) S
def zjQ:DS :=
    (zH (zO (zbc zB) (zE 2))
 (zH (za2 (zaZ (zf 0)) (zc6 2 (zaI (zE 3) (zaI (zE 4) zc9))) (za2 (zaZ (zf 1)) (zc6 2 (zaI (zE 5) (zaI (zE 6) zc9))) (zbn (dM zcI (zf 2) (zm (dTup (zm (dB zfl (zm (zf 3) (zm (zf 5) zB))) (zm (dB zg6 (zm (zf 4) (zm (zf 6) zB))) zB))) zB)))))
 (zY (dCall zeb (zm (zf 2) zB)))))
theorem zrF:∀ ds So Q,zgG ds So Q->ds.length=2:=by rintro ds So Q ⟨_,_,rfl,_⟩;rfl
theorem zs7:BodyOk 7 zjQ zgG:=by
 rintro ds S Q ⟨as,bs,rfl,oka,okb,hlen,q⟩
 unfold zjQ
 have hmul:as.length*bs.length<=3969:=qK (Nat.mul_le_mul (show as.length<=63 by omega) (show bs.length<=63 by omega)) (by decide)
 walk_at "g"
 refine zaw (fun i Z S'=>∃ (w1 w2 w3 w4:Option D),Z=[some (.tup (as.map p2)),some (.tup (bs.map p2)),some (.ref S.length),w1,w2,w3,w4]/\S'=S++[.lst ((za7 (as.take i) bs).map p2)]) ⟨none,none,none,none,rfl,rfl⟩ (fun _ _ _ _=>True.intro) ?_ ?_
 ·rintro i d Z S' hd ⟨w1,w2,w3,w4,rfl,rfl⟩
  obtain⟨a,ha,rfl⟩:=zcS hd
  have hi:=zao ha
  walk_at "g"
  refine zaw (fun j Z S'=>∃ (w3 w4:Option D),Z=[some (.tup (as.map p2)),some (.tup (bs.map p2)),some (.ref S.length),some (.int a.1),some (.int a.2),w3,w4]/\S'=S++[.lst ((za7 (as.take i) bs++(bs.take j).map (zbr a)).map p2)]) ⟨w3,w4,rfl,by simp⟩ (fun _ _ _ _=>True.intro) ?_ ?_
  ·rintro j d Z S' hd ⟨w3,w4,rfl,rfl⟩
   obtain⟨b,hb,rfl⟩:=zcS hd
   have hj:=zao hb
   have hlim:(List.map p2 (za7 (as.take i) bs++(bs.take j).map (zbr a))).length<big:=by
    rw [qa,qe,zjz,qa,List.length_take,List.length_take]
    have:min i as.length*bs.length<=as.length*bs.length:=Nat.mul_le_mul (Nat.min_le_right _ _) (qg _)
    unfold big;omega
   walk_at "g"
   refine⟨_,_,rfl,?_⟩
   have e:za7 (as.take i) bs++(bs.take (j+1)).map (zbr a)=za7 (as.take i) bs++(bs.take j).map (zbr a)++[zbr a b]:=by
    rw [zau hb,qr,<- qF];rfl
   rw [e,qr (l₂:=[zbr a b])]
   rfl
  ·rintro Z S' ⟨w3,w4,rfl,rfl⟩
   refine⟨_,_,_,_,rfl,?_⟩
   rw [qa,qO,zm5 ha]
 ·rintro Z S' ⟨w1,w2,w3,w4,rfl,rfl⟩
  rw [qa,qO]
  have hf:((za7 as bs).filter lec).length<=as.length+bs.length:=zm3 oka okb
  walk_at "g"
  refine⟨_,za7 as bs,rfl,.inr Lst.at0,by rw [zjz];omega,by omega,fun ms ok hany hml=>?_⟩
  exact zaj (ziA ms) (q ms ok (fun h=>by rw [hany h,zov]) (by omega))
def zej:DSp:=fun ds S Q=>∃ (as bs:List (Int×Int)),ds=[.tup (as.map p2),.tup (bs.map p2)]/\zaA as/\zaA bs/\as.length+bs.length<63 /\
 ∀ ms:List (Int×Int),zaA ms->(∀ h,ms.any (inS h)=(as.any (inS h)&&!(bs.any (inS h))))->ms.length<=as.length+bs.length+1->Q (.tup (ms.map p2)) S
def zf0:DS :=
    (zH (sIf (dT (dOp oEq (dB zaH (zm (zf 0) zB)) (dC (.int 0)))) (zY (dTup zB)) zZ)
 (zY (dCall zgG (zm (zf 0) (zm (dCall zgB (zm (zf 1) (zm (dOp oIx (dOp oIx (zf 0) (dC (.int 0))) (dC (.int 0))) (zm (dOp oIx (dOp oIx (zf 0) (dUn zck (dC (.int 1)))) (dC (.int 1))) zB)))) zB)))))
theorem znx:∀ ds So Q,zej ds So Q->ds.length=2:=by rintro ds So Q ⟨_,_,rfl,_⟩;rfl
theorem zpm:BodyOk 2 zf0 zej:=by
 rintro ds S Q ⟨as,bs,rfl,oka,okb,hlen,q⟩
 unfold zf0
 walk_at "g"
 rw [qa]
 refine r_d (fun g=>?_) (fun g=>?_)
 ·have ea:as=[]:=List.length_eq_zero_iff.mp (by omega)
  subst ea
  walk_at "g"
  exact fin_same (q [] zaA.nil (fun h=>rfl) (by simp))
 ·obtain⟨c,as',rfl⟩:∃ c as',as=c::as':=by
   cases as with
   | nil=>exact absurd (by simp) g
   | cons c as'=>exact⟨c,as',rfl⟩
  obtain⟨ms0,m,em⟩:=zsz (l:=c::as') (by simp)
  have a0:atD (List.map p2 (c::as')) 0=some (p2 c):=zbt (i:=0) rfl
  have am:atD (List.map p2 (c::as')) (-1)=some (p2 m):=by rw [em,qr];exact zgQ
  walk_at "g"
  refine⟨bs,c.1,m.2,rfl,okb,by omega,fun gs okg hg hgl=>?_⟩
  walk_at "g"
  refine⟨c::as',gs,rfl,oka,okg,by omega,fun ms ok hany hml=>?_⟩
  refine fin_same (q ms ok (fun h=>?_) (by omega))
  rw [hany h]
  cases hA:(c::as').any (inS h) with
  | false=>rfl
  | true =>
   obtain⟨x,hx,x1,x2⟩:=zaP.mp hA
   have lo:c.1<=h:=by
    rcases qf.mp hx with rfl | hx
    ·exact x1
    ·have:=(List.pairwise_cons.mp oka.ap).1 x hx
     have:=oka.le c (by simp)
     omega
   have hi:h<=m.2:=by
    rw [em] at hx oka
    obtain⟨_,hm,hap⟩:=oka.init
    rcases qu.mp hx with hx | hx
    ·have:=hap x hx
     omega
    ·have:x=m:=by simpa using hx
     subst this
     exact x2
   rw [hg h lo hi]
def zfX:zeH:=fun ds S Q ex=>∃ (v:D) (V:Vl) (n m:Str),ds=[v,.str n,.str m]/\VAt S v V/\zcM V/\fl 20 (.str n)=true/\fl 20 (.str m)=true/\((∀ b∈V.bs,b.1≠n)\/(∀ b∈V.bs,b.1≠m)->ex "NoBeacon" S)/\∀ s t,(n,s)∈V.bs->(m,t)∈V.bs->∀ ms,zsF V n m s t ms->Q (.tup (ms.map p2)) S
def ziD (ex : XR) : DS :=
    (zH (zO (zcQ zdl ex (zm (zf 0) (zm (zf 1) zB))) (zE 3))
 (zH (zO (zcQ zdl ex (zm (zf 0) (zm (zf 2) zB))) (zE 4))
 (zH (zO (dTup (zm (dTup (zm (zcw "first" (zf 0)) (zm (zcw "last" (zf 0)) zB))) zB)) (zE 5))
 (zH (sIf (dT (dOp oEq (zf 1) (zf 2))) (zY (zf 5)) zZ)
 (zH (sIf (dT (dOp zd3 (dCall zbR (zm (zf 0) (zm (zf 3) (zm (zf 4) zB)))) (dC .non))) (zY (dTup zB)) zZ)
 (zY (dCall zej (zm (zf 5) (zm (dCall zc3 (zm (zcw "fogs" (zf 0)) (zm (zf 3) (zm (zf 4) zB)))) zB)))))))))
theorem zqJ:∀ ds So Q ex,zfX ds So Q ex->ds.length=3:=by rintro ds So Q ex ⟨_,_,_,_,rfl,_⟩;rfl
theorem zrb:zec 6 ziD zfX:=by
  rintro ds S Q ex ⟨v,V,n,m,rfl,hv,ok,hn,hm,hx,q⟩
  unfold ziD
  walk_at "g"
  refine⟨v,V,n,rfl,hv,ok,hn,fun no=>hx (.inl no),fun s hs=>?_⟩
  walk_at "g"
  refine⟨v,V,m,rfl,hv,ok,hm,fun no=>hx (.inr no),fun t ht=>?_⟩
  have q':=q s t hs ht
  clear hx q
  have bs:=ok.bd _ hs
  have bt:=ok.bd _ ht
  have ss:=ok.st _ hs
  have st:=ok.st _ ht
  obtain⟨a,g,b',f,rfl,ha,hg,hb,hf⟩:=id hv
  walk_at "g"
  refine zqd hn hm ?_
  walk_at "g"
  have one:zaA [(V.h0,V.h1)]:=by
    refine⟨fun c hc=>?_,List.pairwise_singleton _ _⟩
    have:c=(V.h0,V.h1):=by simpa using hc
    subst this;exact ok.hh
  refine r_d (fun h=>?_) (fun h=>?_)
  . walk_at "g"
    refine fin_same (q' [(V.h0,V.h1)] ⟨one,fun k=>?_,by show 1<=14;decide⟩)
    rw [zaP]
    constructor
    . rintro⟨c,hc,h1,h2⟩
      have:c=(V.h0,V.h1):=by simpa using hc
      subst this
      exact⟨h1,h2,.inl h⟩
    . rintro⟨h1,h2,_⟩
      exact⟨(V.h0,V.h1),by simp,h1,h2⟩
  walk_at "g"
  refine⟨_,V,s,t,rfl,hv,ok,⟨bs,ss⟩,⟨bt,st⟩,?_⟩
  by_cases al:Alw V s t
  case neg =>
    have e:zfu (ziq V s t)=false:=by
      cases h:ziq V s t with
      | non=>exact absurd (zk7.mp h) al
      | _=>rfl
    refine r_c (zsD ?_)
    rw [e]
    walk_at "g"
    refine fin_same (q' [] ⟨zaA.nil,fun k=>?_,by show 0<=14;decide⟩)
    constructor
    . intro z;simp at z
    . rintro⟨_,_,z | z⟩
      . exact absurd z h
      . exact absurd z.1 al
  rw [zk7.mpr al]
  walk_at "g"
  have f12:=ok.f12
  refine⟨_,V.fs,s.1,s.2,t.1,t.2,rfl,Lst.here hf,by omega,fun F hF=>(ok.fg F hF).b,bs.1.mono (by decide),bs.2.mono (by decide),bt.1.mono (by decide),bt.2.mono (by decide),fun fs fok fh fl=>?_⟩
  walk_at "g"
  refine⟨[(V.h0,V.h1)],fs,rfl,one,fok,by show 1+fs.length<63;omega,fun ms mok mh ml=>?_⟩
  refine fin_same (q' ms ⟨mok,fun k=>?_,by have:ms.length<=1+fs.length+1:=ml;omega⟩)
  rw [mh k,qA,zaP]
  have e:(!fs.any (inS k))=true↔¬ ∃ F∈V.fs,zbW F s.1 s.2 t.1 t.2 k:=by
    rw [<- fh k]
    cases fs.any (inS k)<;>simp
  rw [e]
  constructor
  . rintro⟨⟨c,hc,h1,h2⟩,h3⟩
    have:c=(V.h0,V.h1):=by simpa using hc
    subst this
    exact⟨h1,h2,.inr ⟨al,h3⟩⟩
  . rintro⟨h1,h2,z | z⟩
    . exact absurd z h
    . exact⟨⟨(V.h0,V.h1),by simp,h1,h2⟩,z.2⟩
def zcD:DSp:=fun ds S Q=>∃ (ms:List (Int×Int)) (h:Int),ds=[.tup (ms.map p2),.int h]/\Q (zbd (zcl ms h)) S
def zey:DS :=
    (zH (za2 (zaZ (zf 0)) (zc6 2 (zaI (zE 2) (zaI (zE 3) zc9))) (sIf (dT (dOp oLe (zf 1) (zf 3))) (zY (dB zfl (zm (zf 2) (zm (zf 1) zB)))) zZ))
 (zY (dC .non)))
theorem zkH:∀ ds So Q,zcD ds So Q->ds.length=2:=by rintro ds So Q ⟨_,_,rfl,_⟩;rfl
theorem zlo:BodyOk 4 zey zcD:=by
 rintro ds S Q ⟨ms,h,rfl,q⟩
 unfold zey
 walk_at "g"
 refine zaw (fun i Z S'=>∃ w1 w2,Z=[some (.tup (ms.map p2)),some (.int h),w1,w2]/\S'=S/\zcl ms h=zcl (ms.drop i) h) ⟨none,none,rfl,rfl,rfl⟩ (fun _ _ _ _=>True.intro) ?_ ?_
 ·rintro i d Z S' hd ⟨w1,w2,rfl,rfl,e⟩
  obtain⟨c,hc,rfl⟩:=zcS hd
  have hi:=zao hc
  have ed:ms.drop i=c::ms.drop (i+1):=by
   rw [List.drop_eq_getElem_cons hi]
   rw [qb hi] at hc
   cases hc;rfl
  rw [ed] at e
  walk_at "g"
  refine r_d (fun g=>?_) (fun g=>?_)
  ·walk_at "g"
   have e2:zcl ms h=some (max c.1 h):=by rw [e];unfold zcl;rw [if_pos g]
   rw [e2] at q
   exact fin_same q
  ·walk_at "g"
   refine⟨_,_,rfl,rfl,?_⟩
   rw [e]
   show (if h<=c.2 then _ else _)=_
   rw [if_neg g]
 ·rintro Z S' ⟨w1,w2,rfl,rfl,e⟩
  rw [qa,List.drop_length] at e
  rw [e] at q
  walk_at "g"
  exact fin_same q
def zci:DSp:=fun ds S Q=>∃ (v:D) (V:Vl) (b c:Str×(Int×Int)) (k j:Nat) (ob oj:Option Int),ds=[v,.str b.1,zbd ob,.str c.1,zbd oj]/\VAt S v V/\zcM V/\V.bs[k]?=some b/\V.bs[j]?=some c/\(k=j->ob=oj)/\∀ r:Bool,(r=true↔BdH V k j ob oj)->Q (.bl r) S
def zdM:DS :=
    (zH (sIf (dT (dOp oIs (zf 2) (dC .non))) (zY (dC (.bl true))) zZ)
 (zH (zO (dCall zcD (zm (zcQ zfX xF (zm (zf 0) (zm (zf 1) (zm (zf 3) zB)))) (zm (zf 2) zB))) (zE 5))
 (zH (sIf (dT (dOp oIs (zf 5) (dC .non))) (zY (dC (.bl true))) zZ)
 (zY (zgM (dOp zd3 (zf 4) (dC .non)) (dOp oLe (zf 4) (dOp zae (zf 5) (zcw "delay" (zf 0)))))))))
theorem zjK:∀ ds So Q,zci ds So Q->ds.length=5:=by rintro ds So Q ⟨_,_,_,_,_,_,_,_,rfl,_⟩;rfl
theorem zkP:BodyOk 6 zdM zci:=by
 rintro ds S Q ⟨v,V,b,c,k,j,ob,oj,rfl,hv,ok,hb,hc,hkj,q⟩
 unfold zdM
 have mb:=qd hb
 have mc:=qd hc
 cases ob with
 | none =>
  rw [za6]
  walk_at "g"
  exact fin_same (q true ⟨fun _ _ bk e=>(by cases e),fun _=>rfl⟩)
 | some bk =>
  rw [zaE]
  walk_at "g"
  refine⟨v,V,b.1,c.1,rfl,hv,ok,zfO (ok.nm b mb) 20,zfO (ok.nm c mc) 20,fun no=>?_,fun s t hs ht ms hm=>?_⟩
  ·rcases no with no | no
   ·exact no b mb rfl
   ·exact no c mc rfl
  have es:s=b.2:=congrArg Prod.snd (zp9 ok hs mb rfl)
  have et:t=c.2:=congrArg Prod.snd (zp9 ok ht mc rfl)
  subst es et
  walk_at "g"
  refine⟨ms,bk,rfl,?_⟩
  have key:∀ (r:Bool),(r=true↔∀ u,zcl ms bk=some u->∃ bj,oj=some bj/\bj<=u+V.dl)->Q (.bl r) S:=fun r hr=>q r (by
   rw [hr]
   by_cases e:k=j
   ·have eo:=hkj e
    subst e
    rw [hb] at hc;cases hc
    constructor
    ·intro _ z;exact absurd rfl z
    ·intro _ u hu
     obtain⟨a1,a2,_⟩:=ziU hm.ok hu
     have:=ok.dl
     exact⟨bk,eo.symm,by omega⟩
   ·unfold BdH
    rw [<- zlC ok hb hc e hm bk]
    constructor
    ·intro z _ bk' e1 u hu;cases e1;exact z u hu
    ·intro z u hu;exact z e bk rfl u hu)
  clear q
  obtain⟨a,g,b',f,rfl,ha,hg,hb',hf⟩:=id hv
  cases hf':zcl ms bk with
  | none =>
   rw [za6]
   walk_at "g"
   exact fin_same (key true ⟨fun _ u e=>(by rw [hf'] at e;cases e),fun _=>rfl⟩)
  | some u =>
   rw [zaE]
   walk_at "g"
   cases oj with
   | none =>
    rw [za6]
    walk_at "g"
    refine fin_same (key false ⟨fun z=>(by cases z),fun z=>?_⟩)
    obtain⟨bj,e,_⟩:=z u hf'
    cases e
   | some bj =>
    rw [zaE]
    refine zsj ?_
    walk_at "g"
    refine fin_same (key _ ?_)
    rw [decide_eq_true_eq]
    constructor
    ·intro z u' e;rw [hf'] at e;cases e;exact⟨bj,rfl,z⟩
    ·intro z
     obtain⟨bj',e,le⟩:=z u hf'
     cases e;exact le
def zbP:DSp:=fun ds S Q=>∃ (v:D) (V:Vl) (s:Nat) (b:Str×(Int×Int)) (h:Int) (y:D) (bd:List (Option Int)) (u:Unit),ds=[v,.str b.1,.int h,y]/\VAt S v V/\zcM V/\V.bs[s]?=some b/\V.h0<=h/\h<=V.h1/\Lst S y (zad bd)/\bd.length<=100/\∀ r:Bool,(r=true↔zlF V s h bd)->Q (.bl r) S
def zdP:DS :=
    (zH (zbn (zcQ zbi xF (zm (zf 0) (zm (zf 1) zB))))
 (zH (zbn (zcQ zbD xF (zm (zf 0) (zm (zf 2) zB))))
 (zH (zO (dCall zcJ (zm (zf 0) zB)) (zE 4))
 (zH (sIf (dT (dOp oNe (dB zaH (zm (zf 3) zB)) (dB zaH (zm (zf 4) zB)))) (zY (dC (.bl false))) zZ)
 (zH (zO (dOp oIx (zf 3) (dM zmX (zf 4) (zm (zf 1) zB))) (zE 5))
 (zH (sIf (dOr (dT (dOp oIs (zf 5) (dC .non))) (dT (dOp oGt (zf 5) (zf 2)))) (zY (dC (.bl false))) zZ)
 (zH (za2 (zl9 (zm (zf 4) (zm (zf 3) zB))) (zc6 2 (zaI (zE 6) (zaI (zE 7) zc9))) (za2 (zl9 (zm (zf 4) (zm (zf 3) zB))) (zc6 2 (zaI (zE 8) (zaI (zE 9) zc9))) (sIf (zeA (dT (dCall zci (zm (zf 0) (zm (zf 6) (zm (zf 7) (zm (zf 8) (zm (zf 9) zB)))))))) (zY (dC (.bl false))) zZ)))
 (zY (dC (.bl true))))))))))
theorem zjx:∀ ds So Q,zbP ds So Q->ds.length=4:=by rintro ds So Q ⟨_,_,_,_,_,_,_,_,rfl,_⟩;rfl
theorem zkV:BodyOk 10 zdP zbP:=by
 rintro ds S Q ⟨v,V,s,b,h,y,bd,_,rfl,hv,ok,hb,h0,h1,hy,lb,q⟩
 unfold zdP
 have mb:=qd hb
 have b12:=ok.b12
 have hsn:=zao hb
 walk_at "g"
 refine⟨v,V,b.1,rfl,hv,ok,zfO (ok.nm b mb) 20,fun no=>absurd (qI.mpr ⟨b,mb,rfl⟩) no,fun _=>?_⟩
 walk_at "g"
 refine⟨v,V,h,rfl,hv,fun no=>absurd ⟨h0,h1⟩ no,fun _ _=>?_⟩
 walk_at "g"
 refine⟨v,V,rfl,hv,by omega,?_⟩
 have flN:=ok.flN
 have lN:(V.bs.map (·.1)).length=V.bs.length:=qa ..
 have gN:∀ (i:Nat) c,V.bs[i]?=some c->(V.bs.map (·.1))[i]?=some c.1:=fun i c hc=>by rw [qh,hc];rfl
 generalize hzs:V.bs.map (·.1)=zs at flN lN gN
 have hy1:Lst (S++[.lst (zs.map D.str)]) y (zad bd):=hy.old
 have hv1:VAt (S++[.lst (zs.map D.str)]) v V:=hv.old
 walk_at "g"
 walk_at "drho"
 rw [qa,qa]
 refine zko (fun e=>?_) (fun e=>?_)
 ·walk_at "g"
  exact zaj rfl (q false ⟨fun z=>(by cases z),fun z=>absurd z.1 (by omega)⟩)
 have hl:bd.length=V.bs.length:=by omega
 walk_at "g"
 refine zs0 (j:=s) (e:=.str b.1) zaz (zn1 flN) (zfO (ok.nm b mb) 20) (by rw [qa];unfold big;omega) (by rw [qh,gN s b hb];rfl) (by rw [znS,decide_eq_true rfl]) (fun m e' hm he=>?_) ?_
 ·rw [qh] at he
  have lm:m<V.bs.length:=by omega
  rw [gN m _ (qb lm)] at he
  cases he
  rw [znS]
  refine decide_eq_false fun z=>?_
  have:=(zlG ok (qb lm) hb).mp z
  omega
 have as':=zez (os:=bd) (k:=s) (by omega)
 refine ziI hy1 as' ?_
 cases hs:(bd[s]?).join with
 | none =>
  rw [za6]
  walk_at "g"
  refine zaj rfl (q false ⟨fun z=>(by cases z),fun z=>?_⟩)
  obtain⟨_,⟨b',e',_⟩,_⟩:=z
  rw [e'] at hs;cases hs
 | some b0 =>
  have gs:=zdW hs
  rw [zaE]
  walk_at "g"
  walk_at "drho2"
  refine r_d (fun g=>?_) (fun g=>?_)
  ·walk_at "g"
   refine zaj rfl (q false ⟨fun z=>(by cases z),fun z=>?_⟩)
   obtain⟨_,⟨b',e',le⟩,_⟩:=z
   rw [gs] at e';cases e';omega
  ·walk_at "g"
   refine zqX Lst.at0 hy1 ?_
   have zl:(zb8 (zs.map D.str) (zad bd)).length=V.bs.length:=by rw [zd6,qa,qa];omega
   have itm:∀ {i:Nat} {d:D},(zb8 (zs.map D.str) (zad bd))[i]?=some d->∃ c,V.bs[i]?=some c/\d=.tup [.str c.1,zbd ((bd[i]?).join)]:=fun {i d} hd=>by
    obtain⟨a,o,ha,ho,rfl⟩:=zfQ hd
    obtain⟨li,rfl⟩:=ztD ho
    have lv:i<V.bs.length:=by omega
    rw [qh,gN i _ (qb lv)] at ha
    cases ha
    exact⟨_,qb lv,rfl⟩
   refine zaw (fun i Z S'=>S'=S++[.lst (zs.map D.str)]/\(∀ k j,k<i->j<V.bs.length->BdH V k j ((bd[k]?).join) ((bd[j]?).join))/\∃ w6 w7 w8 w9:Option D,Z=[some v,some (.str b.1),some (.int h),some y,some (.ref S.length),some (.int b0),w6,w7,w8,w9]) ⟨rfl,fun k j hk=>by omega,_,_,_,_,rfl⟩ (fun i Z S' w=>w.1▸⟨Lst.at0,hy1⟩) ?_ ?_
   ·rintro i d Z S' hd ⟨rfl,hi,w6,w7,w8,w9,rfl⟩
    obtain⟨c1,hc1,rfl⟩:=itm hd
    walk_at "g"
    refine zqX Lst.at0 hy1 ?_
    refine zaw (fun j Z S'=>S'=S++[.lst (zs.map D.str)]/\(∀ j',j'<j->BdH V i j' ((bd[i]?).join) ((bd[j']?).join))/\∃ w8 w9:Option D,Z=[some v,some (.str b.1),some (.int h),some y,some (.ref S.length),some (.int b0),some (.str c1.1),some (zbd ((bd[i]?).join)),w8,w9]) ⟨rfl,fun j hj=>by omega,_,_,rfl⟩ (fun i Z S' w=>w.1▸⟨Lst.at0,hy1⟩) ?_ ?_
    ·rintro j d Z S' hd' ⟨rfl,hj,w8,w9,rfl⟩
     obtain⟨c2,hc2,rfl⟩:=itm hd'
     walk_at "g"
     refine⟨v,V,c1,c2,i,j,_,_,rfl,hv1,ok,hc1,hc2,fun e=>by rw [e],fun r hr=>?_⟩
     cases r with
     | true =>
      walk_at "g"
      refine⟨rfl,fun j' hj'=>?_,_,_,rfl⟩
      rcases qD j' j with g | g
      ·exact hj j' g
      ·have e:j'=j:=by omega
       subst e;exact hr.mp rfl
     | false =>
      walk_at "g"
      refine zaj rfl (q false ⟨fun z=>(by cases z),fun z=>?_⟩)
      exact absurd (hr.mpr (z.2.2 i j (zao hc1) (zao hc2))) (by decide)
    ·rintro Z S' ⟨rfl,hj,w8,w9,rfl⟩
     rw [zl] at hj
     refine⟨rfl,fun k j hk hjn=>?_,_,_,_,_,rfl⟩
     rcases qD k i with g | g
     ·exact hi k j g hjn
     ·have e:k=i:=by omega
      subst e;exact hj j hjn
   ·rintro Z S' ⟨rfl,hi,w6,w7,w8,w9,rfl⟩
    rw [zl] at hi
    walk_at "g"
    exact zaj rfl (q true ⟨fun _=>⟨hl,⟨b0,gs,by omega⟩,hi⟩,fun _=>rfl⟩)
def zdx:DSp:=fun ds S Q=>∃ (o:D) (du:List (Option Int)) (c f:Int),ds=[o,.int c,.int f]/\Lst S o (zad du)/\1<=du.length/\du.length<=12/\∀ (T:Sto) (k:Nat) (bd:List (Option Int)),bd.length<=20->(S++T)[k]?=some (.lst (zad bd))->S.length<=k->Q (.ref k) (S++T)
def zfp:DS :=
    (zH (zO (dB zen (zm (zf 0) zB)) (zE 3))
 (zH (zO (dCall zP (zm (zf 1) (zm (dC (.int 43)) (zm (dB zaH (zm (zf 0) zB)) zB)))) (zE 4))
 (zH (zO (dCall zP (zm (zf 1) (zm (dC (.int 44)) (zm (dC (.int 7)) zB)))) (zE 5))
 (zH (sIf (dT (dOp oEq (zf 5) (dC (.int 0)))) (zY (zf 3)) zZ)
 (zH (sJ (sIf (dT (dOp oLt (zf 5) (dC (.int 4)))) (sIf (dT (dOp oIs (dOp oIx (zf 3) (zf 4)) (dC .non))) (zO (dOp zae (zf 2) (dCall zP (zm (zf 1) (zm (dC (.int 45)) (zm (dC (.int 20)) zB))))) (zeI (zf 3) (zf 4))) (zO (dOp zae (dOp oIx (zf 3) (zf 4)) (dOp oIx (zbc (zm (dUn zck (dC (.int 1))) (zm (dUn zck (dCall zP (zm (zf 1) (zm (dC (.int 46)) (zm (dC (.int 6)) zB))))) (zm (dC (.int 1)) zB)))) (dOp zah (zf 5) (dC (.int 1))))) (zeI (zf 3) (zf 4)))) zZ))
 (zH (sJ (sIf (dT (dOp oEq (zf 5) (dC (.int 4)))) (zO (dC .non) (zeI (zf 3) (zf 4))) zZ))
 (zH (sJ (sIf (dT (dOp oEq (zf 5) (dC (.int 5)))) (zO (dOp oIx (zbc (zm (dOp oIx (zbc (zm (dSl zhg (zf 3) none (some (dUn zck (dC (.int 1))))) (zm (dOp zae (zf 3) (zbc (zm (dC .non) zB))) zB))) (dCall zP (zm (zf 1) (zm (dC (.int 47)) (zm (dC (.int 2)) zB))))) (zm (dOp zae (zf 3) (zbc (zm (zf 2) zB))) zB))) (dCall zP (zm (zf 1) (zm (dC (.int 48)) (zm (dC (.int 2)) zB))))) (zE 3)) zZ))
 (zH (sJ (sIf (dT (dOp oEq (zf 5) (dC (.int 6)))) (zO (dLC 1 [2,1] (zbA (zm (dB zaH (zm (zf 0) zB)) zB)) (zE 0) zbI (dOp zah (dOp zae (zf 1) (dCall zP (zm (zf 2) (zm (dOp zae (dC (.int 49)) (zf 0)) (zm (dC (.int 12)) zB))))) (dC (.int 3)))) (zE 3)) zZ))
 (zY (zf 3))))))))))
theorem zmD:∀ ds So Q,zdx ds So Q->ds.length=3:=by rintro ds So Q ⟨_,_,_,_,rfl,_⟩;rfl
theorem zns:BodyOk 6 zfp zdx:=by
 rintro ds S Q ⟨o,du,c,f,rfl,ho,l1,l12,q⟩
 unfold zfp
 walk_at "g"
 have ho1:∀ T,Lst (S++T) o (zad du):=fun T=>ho.old
 have ho2:=ho1 [.lst (zad du)]
 walk_at "g"
 rw [qa]
 refine⟨c,43,_,rfl,by decide,by decide,by omega,fun at' a0 a1 _=>?_⟩
 walk_at "g"
 refine⟨c,44,7,rfl,by decide,by decide,by decide,fun kd k0 k1 _=>?_⟩
 walk_at "g"
 walk_at "drho"
 refine r_d (fun e=>?_) (fun e=>?_)
 ·walk_at "g"
  exact fin_same (q _ _ du (by omega) zaz (qg _))
 walk_at "g"
 obtain⟨ai,rfl⟩:∃ ai:Nat,at'=(ai:Int):=⟨at'.toNat,by omega⟩
 have lai:ai<du.length:=by omega
 have aat:=zez (os:=du) (k:=ai) lai
 refine r_J (fun Z S'=>∃ (G:Sto) (bd:List (Option Int)),S'=S++Cell.lst (zad bd)::G/\bd.length=du.length/\Z=[some o,some (.int c),some (.int f),some (.ref S.length),some (.int (ai:Int)),some (.int kd)]) ?_ ?_
 ·walk_at "g"
  refine r_d (fun h4=>?_) (fun h4=>?_)
  ·have hset:∀ v:Int,(zad du).set ai (.int v)=zad (du.set ai (some v)):=fun v=>by rw [<- zaE];exact (List.map_set ..).symm
   cases hdu:(du[ai]?).join with
   | none =>
    rw [hdu,za6] at aat
    walk_at "g"
    refine⟨c,45,20,rfl,by decide,by decide,by decide,fun m m0 m1 _=>?_⟩
    walk_at "g"
    refine ze2 zaz (zhK lai) (zfP ?_)
    rw [hset]
    exact⟨_,_,rfl,by rw [List.length_set],rfl⟩
   | some v =>
    rw [hdu,zaE] at aat
    walk_at "g"
    refine⟨c,46,6,rfl,by decide,by decide,by decide,fun m m0 m1 _=>?_⟩
    obtain⟨w,_,aw⟩:=ze9 (zs:=[-1,-m,1]) (k:=kd-1) (by omega) (by show _<(3:Int);omega)
    have aw':atD [.int (-1),.int (-m),.int 1] (kd-1)=some (.int w):=aw
    walk_at "g"
    refine ze2 zaz (zhK lai) (zfP ?_)
    rw [hset]
    exact⟨_,_,rfl,by rw [List.length_set],rfl⟩
  ·walk_at "g"
   exact⟨[],du,rfl,rfl,rfl⟩
 rintro Z S' ⟨G,bd,rfl,lb,rfl⟩
 walk_at "g"
 refine r_J (fun Z S'=>∃ (G:Sto) (bd:List (Option Int)),S'=S++Cell.lst (zad bd)::G/\bd.length=du.length/\Z=[some o,some (.int c),some (.int f),some (.ref S.length),some (.int (ai:Int)),some (.int kd)]) ?_ ?_
 ·walk_at "g"
  refine r_d (fun h4=>?_) (fun h4=>?_)
  ·walk_at "g"
   refine ze2 zaz (zhK (by omega)) (zfP ?_)
   rw [show (zad bd).set ai .non=zad (bd.set ai none) by rw [<- za6];exact (List.map_set ..).symm]
   exact⟨_,_,rfl,by rw [List.length_set];exact lb,rfl⟩
  ·walk_at "g"
   exact⟨G,bd,rfl,lb,rfl⟩
 clear lb bd
 rintro Z S' ⟨G,bd,rfl,lb,rfl⟩
 walk_at "g"
 refine r_J (fun Z S'=>∃ (G:Sto) (k:Nat) (bd:List (Option Int)),S'=S++G/\(S++G)[k]?=some (.lst (zad bd))/\S.length<=k/\bd.length<=20/\Z=[some o,some (.int c),some (.int f),some (.ref k),some (.int (ai:Int)),some (.int kd)]) ?_ ?_
 ·walk_at "g"
  refine r_d (fun h4=>?_) (fun h4=>?_)
  ·have kb:∀ T,Lst (S++Cell.lst (zad bd)::T) (.ref S.length) (zad bd):=fun T=>Lst.at0
   obtain⟨S1,hS1⟩:∃ S1:Sto,S1=S++Cell.lst (zad bd)::G:=⟨_,rfl⟩
   have kb1:Lst S1 (.ref S.length) (zad bd):=hS1▸Lst.at0
   have e1:∃ G',S1=S++G':=⟨_,hS1⟩
   have l1':S.length<=S1.length:=by rw [hS1];simp
   rw [<- hS1]
   walk_at "g"
   have ecut:cutD (zad bd) none (some (-1))=zad (cutD bd none (some (-1))):=zkq zbd bd none (some (-1))
   have lcut:(cutD bd none (some (-1))).length<=20:=qK (zit _ _ _) (by unfold slD;simp;omega)
   rw [ecut]
   refine zkf (xs:=zad bd) (ys:=[.non]) kb1.old (Lst.at (k:=1) rfl) (by rw [qa];unfold big;simp;omega) ?_
   rw [show zad bd++[.non]=zad (bd++[none]) by show _=(bd++[none]).map zbd;rw [qr];rfl]
   walk_at "g"
   refine⟨c,47,2,rfl,by decide,by decide,by decide,fun m m0 m1 _=>?_⟩
   have hm:∃ r:Nat,(r=0\/r=2)/\atD [D.ref S1.length,.ref (S1.length+2)] m=some (.ref (S1.length+r)):=by
    have:m=0\/m=1:=by omega
    rcases this with rfl | rfl
    ·exact⟨0,.inl rfl,rfl⟩
    ·exact⟨2,.inr rfl,rfl⟩
   obtain⟨r,hr,ar⟩:=hm
   walk_at "g"
   refine zkf (xs:=zad bd) (ys:=[.int f]) kb1.old (Lst.at (k:=4) rfl) (by rw [qa];unfold big;simp;omega) ?_
   rw [show zad bd++[.int f]=zad (bd++[some f]) by show _=(bd++[some f]).map zbd;rw [qr];rfl]
   walk_at "g"
   refine⟨c,48,2,rfl,by decide,by decide,by decide,fun m' m0' m1' _=>?_⟩
   have hm':∃ r':Nat,(r'=r\/r'=5)/\atD [D.ref (S1.length+r),.ref (S1.length+5)] m'=some (.ref (S1.length+r')):=by
    have:m'=0\/m'=1:=by omega
    rcases this with rfl | rfl
    ·exact⟨r,.inl rfl,rfl⟩
    ·exact⟨5,.inr rfl,rfl⟩
   obtain⟨r',hr',ar'⟩:=hm'
   have ar2:∀ n:Nat,n=5->atD [D.ref (S1.length+r),.ref (S1.length+n)] m'=some (.ref (S1.length+r')):=fun n e=>by rw [e];exact ar'
   refine ziI (d:=.ref (S1.length+r')) (by first | exact Lst.new | exact Lst.at0 | exact Lst.at (k:=6) rfl) (by first | exact ar' | exact ar2 _ rfl) ?_
   walk_at "g"
   obtain⟨G',e1⟩:=e1
   have ecell:∃ bd':List (Option Int),bd'.length<=20/\(S1++[Cell.lst (zad (cutD bd none (some (-1)))),.lst [.non],.lst (zad (bd++[none])),.lst [.ref S1.length,.ref (S1.length+2)],.lst [.int f],.lst (zad (bd++[some f])),.lst [.ref (S1.length+r),.ref (S1.length+5)]])[S1.length+r']?=some (.lst (zad bd')):=by
    rcases hr' with rfl | rfl
    ·rcases hr with rfl | rfl
     ·exact⟨_,lcut,(zbQ _ _ 0).trans rfl⟩
     ·exact⟨_,by rw [qe];simp;omega,(zbQ _ _ 2).trans rfl⟩
    ·exact⟨_,by rw [qe];simp;omega,(zbQ _ _ 5).trans rfl⟩
   obtain⟨bd',lb',hc'⟩:=ecell
   subst e1
   rw [qF] at hc'
   exact⟨_,_,bd',by rw [qF];rfl,hc',by omega,lb',rfl⟩
  ·walk_at "g"
   exact⟨_,_,bd,rfl,zaz,qg _,by omega,rfl⟩
 clear lb bd G
 rintro Z S' ⟨G,k,bd,rfl,hk,lk,lb,rfl⟩
 walk_at "g"
 refine r_J (fun Z S'=>∃ (G:Sto) (k:Nat) (bd:List (Option Int)),S'=S++G/\(S++G)[k]?=some (.lst (zad bd))/\S.length<=k/\bd.length<=20/\Z=[some o,some (.int c),some (.int f),some (.ref k),some (.int (ai:Int)),some (.int kd)]) ?_ ?_
 ·walk_at "g"
  refine r_d (fun h4=>?_) (fun h4=>?_)
  ·have ho3:=ho1 G
   walk_at "g"
   rw [qa]
   refine⟨_,rfl,by omega,by omega,?_⟩
   refine ziE (fun i ys S'=>S'=S++G/\∃ bd:List (Option Int),ys=zad bd/\bd.length=i) ⟨rfl,[],rfl,rfl⟩ (fun _ _ _ _=>True.intro) (by rw [zas];unfold big;omega) ?_ ?_
   ·rintro i d ys S' hd ⟨rfl,bd',rfl,lb'⟩
    obtain⟨hi,rfl⟩:=zaX hd
    walk_at "g"
    refine⟨c,_,12,rfl,by omega,by omega,by decide,fun m m0 m1 _=>?_⟩
    walk_at "g"
    refine⟨rfl,bd'++[some (f+m-3)],?_,by simp [lb']⟩
    show _=(bd'++[some (f+m-3)]).map zbd
    rw [qr];rfl
   rintro ys S' ⟨rfl,bd',rfl,lb'⟩
   rw [zas] at lb'
   walk_at "g"
   exact⟨_,_,bd',rfl,zkJ,by omega,by omega,rfl⟩
  ·walk_at "g"
   exact⟨G,k,bd,rfl,hk,lk,lb,rfl⟩
 rintro Z S' ⟨G,k,bd,rfl,hk,lk,lb,rfl⟩
 walk_at "g"
 exact fin_same (q _ _ bd lb hk lk)
def zdB:DSp:=fun ds S Q=>∃ (x y z:D) (V:Vl) (t:D) (s:Nat) (h:Int) (o:D) (bd:List (Option Int)),ds=[vlD x y z V,t,.int (s:Nat),.int h,o]/\VlS S x y z V/\zcM V/\V.h1-V.h0<=800/\TabAt S t V.bs.length (zam V)/\s<V.bs.length/\Lst S o (zad bd)/\bd.length<=100/\∀ r:Bool,(r=true↔zlF V s h bd)->Q (.bl r) S
def zfz:DS :=
    (zH (zO (dB zaH (zm (dOp oIx (zf 0) (dC (.int 1))) zB)) (zE 5))
 (zH (sIf (dOr (dT (dOp oNe (dB zaH (zm (zf 4) zB)) (zf 5))) (dOr (dT (dOp oIs (dOp oIx (zf 4) (zf 2)) (dC .non))) (dT (dOp oGt (dOp oIx (zf 4) (zf 2)) (zf 3))))) (zY (dC (.bl false))) zZ)
 (zH (za2 (zbA (zm (zf 5) zB)) (zE 6) (za2 (zbA (zm (zf 5) zB)) (zE 7) (sIf (zdR (dT (dOp oNe (zf 6) (zf 7))) (dT (dOp zd3 (dOp oIx (zf 4) (zf 6)) (dC .non)))) (zH (zO (dLC 1 [4,6] (zaZ (dOp oIx (dOp oIx (zf 1) (zf 6)) (zf 7))) (zE 0) (dT (dOp oGe (zf 0) (dOp oIx (zf 1) (zf 2)))) (zf 0)) (zE 8))
 (sIf (zdR (dT (dOp oGt (dB zaH (zm (zf 8) zB)) (dC (.int 0)))) (dOr (dT (dOp oIs (dOp oIx (zf 4) (zf 7)) (dC .non))) (dT (dOp oGt (dOp oIx (zf 4) (zf 7)) (dOp zae (dOp oIx (zf 8) (dC (.int 0))) (dOp oIx (zf 0) (dC (.int 6)))))))) (zY (dC (.bl false))) zZ)) zZ)))
 (zY (dC (.bl true))))))
theorem zmm:∀ ds So Q,zdB ds So Q->ds.length=5:=by rintro ds So Q ⟨_,_,_,_,_,_,_,_,_,rfl,_⟩;rfl
theorem znv:BodyOk 9 zfz zdB:=by
 rintro ds S Q ⟨x,y,z,V,t,s,h,o,bd,rfl,hs,ok,h8,ht,hsn,ho,lb,q⟩
 unfold zfz
 obtain⟨hx,hy,hz⟩:=id hs
 have b12:=ok.b12
 walk_at "g"
 rw [qa,qa]
 refine zko (fun e=>?_) (fun e=>?_)
 ·walk_at "g"
  exact fin_same (q false ⟨fun z=>(by cases z),fun z=>absurd z.1 (by omega)⟩)
 have hl:bd.length=V.bs.length:=by omega
 have as':=zez (os:=bd) (k:=s) (by omega)
 walk_at "g"
 walk_at "drho"
 cases hs':(bd[s]?).join with
 | none =>
  rw [za6]
  walk_at "g"
  refine zmt ?_
  walk_at "g"
  refine fin_same (q false ⟨fun z=>(by cases z),fun z=>?_⟩)
  obtain⟨_,⟨b',e',_⟩,_⟩:=z
  rw [e'] at hs';cases hs'
 | some b0 =>
  have gs:=zdW hs'
  rw [hs',zaE] at as'
  rw [zaE]
  refine zoD ?_
  walk_at "g"
  refine r_d (fun g=>?_) (fun g=>?_)
  ·walk_at "g"
   refine fin_same (q false ⟨fun z=>(by cases z),fun z=>?_⟩)
   obtain⟨_,⟨b',e',le⟩,_⟩:=z
   rw [gs] at e';cases e';omega
  walk_at "g"
  refine⟨_,rfl,by omega,by omega,?_⟩
  refine zaw (fun k Z S'=>∃ (G:Sto) (w6 w7 w8:Option D),S'=S++G/\(∀ a j,a<k->j<V.bs.length->BdH V a j ((bd[a]?).join) ((bd[j]?).join))/\Z=[some (vlD x y z V),some t,some (.int (s:Nat)),some (.int h),some o,some (.int V.bs.length),w6,w7,w8]) ⟨[],_,_,_,by simp,fun a j ha=>by omega,rfl⟩ (fun _ _ _ _=>True.intro) ?_ ?_
  ·rintro k d Z S' hd ⟨G,w6,w7,w8,rfl,hk,rfl⟩
   obtain⟨lk,rfl⟩:=zaX hd
   have hkn:k<V.bs.length:=by omega
   walk_at "g"
   refine⟨_,rfl,by omega,by omega,?_⟩
   refine zaw (fun j Z S'=>∃ (G:Sto) (w7 w8:Option D),S'=S++G/\(∀ b,b<j->BdH V k b ((bd[k]?).join) ((bd[b]?).join))/\Z=[some (vlD x y z V),some t,some (.int (s:Nat)),some (.int h),some o,some (.int V.bs.length),some (.int (0+(k:Int))),w7,w8]) ⟨G,_,_,rfl,fun b hb=>by omega,rfl⟩ (fun _ _ _ _=>True.intro) ?_ ?_
   ·rintro j d Z S' hd' ⟨G,w7,w8,rfl,hj,rfl⟩
    obtain⟨lj,rfl⟩:=zaX hd'
    have hjn:j<V.bs.length:=by omega
    have ak:=zez (os:=bd) (k:=k) (by omega)
    have aj:=zez (os:=bd) (k:=j) (by omega)
    rw [show ((k:Nat):Int)=0+(k:Int) by omega] at ak
    rw [show ((j:Nat):Int)=0+(j:Int) by omega] at aj
    have nxt:BdH V k j ((bd[k]?).join) ((bd[j]?).join)->∀ b,b<j+1->BdH V k b ((bd[k]?).join) ((bd[b]?).join):=fun hq b hb=>by
     rcases qD b j with g | g
     ·exact hj b g
     ·have e:b=j:=by omega
      subst e;exact hq
    have bad:¬ BdH V k j ((bd[k]?).join) ((bd[j]?).join)->Q (.bl false) S:=fun hq=>q false ⟨fun z=>(by cases z),fun z=>absurd (z.2.2 k j hkn hjn) hq⟩
    have ho1:Lst (S++G) o (zad bd):=ho.old
    walk_at "g"
    refine zko (fun hne=>?_) (fun heq=>?_)
    case refine_2 =>
     walk_at "g"
     exact⟨G,_,_,rfl,nxt fun z=>absurd (show k=j by omega) z,rfl⟩
    have hkj:k≠j:=fun e=>hne (by omega)
    cases hbk:(bd[k]?).join with
    | none =>
     rw [hbk,za6] at ak
     rw [hbk] at nxt
     walk_at "g"
     exact⟨G,_,_,rfl,nxt fun _ bk e=>(by cases e),rfl⟩
    | some bk =>
     rw [hbk,zaE] at ak
     rw [hbk] at nxt bad
     obtain⟨rows,cells,rr,cc,t1,t2,t3,t4,t5⟩:=ht.get hkn hjn
     rw [show ((k:Nat):Int)=0+(k:Int) by omega] at t2
     rw [show ((j:Nat):Int)=0+(j:Int) by omega] at t4
     have t1':Lst (S++G) t rows:=t1.old
     have t3':Lst (S++G) (.ref rr) cells:=t3.old
     have t5':Lst (S++G) (.ref cc) ((zam V k j).map D.int):=t5.old
     have ls:(zam V k j).length<=801:=zk1 (by omega)
     walk_at "g"
     refine za5 (onB fun u=>decide (bk<=u)) id t5' (by rw [qa];unfold big;omega) (fun i d ys hd3 hw=>?_) ?_
     ·obtain⟨u,hu,rfl⟩:=zdh hd3
      walk_at "g"
      refine r_d (fun g=>?_) (fun g=>?_)
      ·walk_at "g"
       exact zbZ hd3 hw (decide_eq_true g) rfl
      ·exact zlJ hd3 hw (decide_eq_false g)
     rw [zkt,List.map_id]
     have fsp:zfk (zam V k j) bk=((zam V k j).filter fun u=>decide (bk<=u)).head?:=rfl
     generalize hsp:(zam V k j).filter (fun u=>decide (bk<=u))=sp at fsp
     walk_at "g"
     rw [qa]
     cases sp with
     | nil =>
      rw [decide_eq_false (by simp)]
      walk_at "g"
      exact⟨_,_,_,rfl,nxt fun _ bk' e u hu=>(by cases e;rw [fsp] at hu;cases hu),rfl⟩
     | cons u0 rest =>
      rw [decide_eq_true (by simp)]
      have fsp':zfk (zam V k j) bk=some u0:=fsp
      have a0:atD ((u0::rest).map D.int) 0=some (.int u0):=zbt (ds:=(u0::rest).map D.int) (i:=0) rfl
      have ho2:Lst (S++(G++[Cell.lst ((u0::rest).map D.int)])) o (zad bd):=ho.old
      cases hbj:(bd[j]?).join with
      | none =>
       rw [hbj,za6] at aj
       rw [hbj] at bad
       walk_at "g"
       refine zaj rfl (bad fun z=>?_)
       obtain⟨bj,e,_⟩:=z hkj bk rfl u0 fsp'
       cases e
      | some bj =>
       rw [hbj,zaE] at aj
       rw [hbj] at bad nxt
       walk_at "g"
       refine r_d (fun g=>?_) (fun g=>?_)
       ·walk_at "g"
        refine zaj rfl (bad fun z=>?_)
        obtain⟨bj',e,le⟩:=z hkj bk rfl u0 fsp'
        cases e;omega
       ·walk_at "g"
        exact⟨_,_,_,rfl,nxt fun _ bk' e u hu=>(by cases e;rw [fsp'] at hu;cases hu;exact⟨bj,rfl,by omega⟩),rfl⟩
   ·rintro Z S' ⟨G,w7,w8,rfl,hj,rfl⟩
    rw [zas] at hj
    refine⟨G,_,_,_,rfl,fun a j ha hjn=>?_,rfl⟩
    rcases qD a k with g | g
    ·exact hk a j g hjn
    ·have e:a=k:=by omega
     subst e;exact hj j (by omega)
  ·rintro Z S' ⟨G,w6,w7,w8,rfl,hk,rfl⟩
   rw [zas] at hk
   walk_at "g"
   exact zaj rfl (q true ⟨fun _=>⟨hl,⟨b0,gs,by omega⟩,fun k j hkn hjn=>hk k j (by omega) hjn⟩,fun _=>rfl⟩)
def zb3:DSp:=fun ds S Q=>∃ (o e:D) (bd du:List (Option Int)),ds=[o,e]/\Lst S o (zad bd)/\Lst S e (zad du)/\du.length<=100/\bd.length=du.length/\(∀ (k:Nat) d,du[k]?=some (some d)->∃ b,bd[k]?=some (some b)/\b<=d)/\Q (.bl true) S
def zdf:DS :=
    (zH (za2 (zbA (zm (dB zaH (zm (zf 1) zB)) zB)) (zE 2) (sIf (zdR (dT (dOp zd3 (dOp oIx (zf 1) (zf 2)) (dC .non))) (dOr (dT (dOp oIs (dOp oIx (zf 0) (zf 2)) (dC .non))) (dT (dOp oGt (dOp oIx (zf 0) (zf 2)) (dOp oIx (zf 1) (zf 2)))))) (zY (dC (.bl false))) zZ))
 (zY (dC (.bl true))))
theorem zja:∀ ds So Q,zb3 ds So Q->ds.length=2:=by rintro ds So Q ⟨_,_,_,_,rfl,_⟩;rfl
theorem zjZ:BodyOk 3 zdf zb3:=by
 rintro ds S Q ⟨o,e,bd,du,rfl,ho,he,ld,lb,hq,q⟩
 unfold zdf
 walk_at "g"
 rw [qa]
 refine⟨_,rfl,by omega,by omega,?_⟩
 refine zaw (fun k Z S'=>S'=S/\∃ w2:Option D,Z=[some o,some e,w2]) ⟨rfl,_,rfl⟩ (fun _ _ _ _=>True.intro) ?_ ?_
 ·rintro k d Z S' hd ⟨rfl,w2,rfl⟩
  obtain⟨lk,rfl⟩:=zaX hd
  have ab:=zez (os:=bd) (k:=k) (by omega)
  have ad:=zez (os:=du) (k:=k) (by omega)
  rw [show ((k:Nat):Int)=0+(k:Int) by omega] at ab ad
  cases hd':(du[k]?).join with
  | none =>
   rw [hd',za6] at ad
   walk_at "g"
   exact⟨rfl,_,rfl⟩
  | some dk =>
   obtain⟨b,hb,le⟩:=hq k dk (zdW hd')
   rw [hd',zaE] at ad
   rw [hb] at ab
   have ab':atD (zad bd) (0+(k:Int))=some (.int b):=ab
   walk_at "g"
   rw [decide_eq_false (by omega)]
   walk_at "g"
   exact⟨rfl,_,rfl⟩
 ·rintro Z S' ⟨rfl,w2,rfl⟩
  walk_at "g"
  exact fin_same q
theorem zqT {V:Vl}{s:Nat}{h:Int}{lit:List (Option Int)}(hl:lit.length=V.bs.length)(w:Ear (zd0 V) V.dl s h fun j=>(lit[j]?).join):zlF V s h lit:=by
 refine⟨hl,?_,fun k j hk hj hkj bk ek u hu=>?_⟩
 ·obtain⟨h',e,le⟩:=w.lst s h .base
  exact⟨h',zdW e,le⟩
 ·obtain⟨m,g,_⟩:=zf9 (zf7 V k j) hu
  exact w.lst j _ (.step (w.snd k bk ek) g m)
theorem zoK {V:Vl}{s:Nat}{h:Int}{bd:List (Option Int)}(w:zlF V s h bd){j:Nat}{t:Int}(l:Lt (zd0 V) V.dl s h j t):∃ b,bd[j]?=some (some b)/\b<=t:=by
 induction l with
 | base=>exact w.2.1
 | @step k j h' u _ hu hse ih =>
  obtain⟨bk,ek,le⟩:=ih
  obtain⟨lk,lj⟩:=ziH hse
  have hkj:k≠j:=(zdU.mp (zhR.mp hse).2.2).1
  cases hf:zfk (zam V k j) bk with
  | none=>exact absurd (show bk<=u by omega) (zh0 hf u hse)
  | some u0 =>
   obtain⟨_,_,least⟩:=zf9 (zf7 V k j) hf
   have:=least u hse (by omega)
   obtain⟨bj,ej,lej⟩:=w.2.2 k j lk lj hkj bk (by rw [ek];rfl) u0 hf
   exact⟨bj,zdW ej,by omega⟩
def zlE:DS :=
    (zH (zO (dCall zdv (zm (zf 0) (zm (dC (.int 4)) (zm (dC (.int 6)) (zm (dC (.int 16)) zB))))) (zE 1))
 (zH (zO (dCall zcE (zm (zf 1) zB)) (zE 2))
 (zH (zO (dCall zdw (zm (zf 1) zB)) (zE 3))
 (zH (za2 (zbA (zm (dB zaH (zm (dOp oIx (zf 1) (dC (.int 1))) zB)) zB)) (zE 4) (zH (zO (dOp oIx (dOp oIx (dOp oIx (zf 1) (dC (.int 1))) (zf 4)) (dC (.int 0))) (zE 5))
 (zH (zO (dOp zae (dOp oIx (zf 1) (dC (.int 4))) (dCall zP (zm (dCall zcU (zm (zf 0) (zm (zf 4) zB))) (zm (dC (.int 35)) (zm (dOp zae (dOp zah (dOp oIx (zf 1) (dC (.int 5))) (dOp oIx (zf 1) (dC (.int 4)))) (dC (.int 1))) zB))))) (zE 6))
 (zH (zO (dCall zb0 (zm (zf 1) (zm (zf 3) (zm (zf 4) (zm (zf 6) zB))))) (zE 7))
 (zH (sIf (dT (dOp zd3 (dCall zbP (zm (zf 2) (zm (zf 5) (zm (zf 6) (zm (dB zen (zm (zf 7) zB)) zB))))) (dC (.bl true)))) (zY (dC (.bl false))) zZ)
 (za2 (zaZ (dOp zae (dSl zhg (zf 0) none (some (dC (.int 6)))) (zbc (zm (dC (.int 0)) (zm (dC (.int 3)) (zm (dC (.int 6)) zB)))))) (zE 8) (zH (zO (dCall zdx (zm (zf 7) (zm (zf 8) (zm (dOp oIx (zf 1) (dC (.int 4))) zB)))) (zE 9))
 (zH (zO (dB zen (zm (zf 9) zB)) (zE 10))
 (zH (zO (dCall zbP (zm (zf 2) (zm (zf 5) (zm (zf 6) (zm (zf 10) zB))))) (zE 11))
 (zH (sIf (dOr (zeA (dT (dB zhq (zm (zf 11) (zm (dC (.ty "bool")) zB))))) (dT (dOp oNe (zf 10) (zf 9)))) (zY (dC (.bl false))) zZ)
 (sIf (dOr (dT (dOp oNe (zf 11) (dCall zdB (zm (zf 1) (zm (zf 3) (zm (zf 4) (zm (zf 6) (zm (zf 9) zB)))))))) (zdR (dT (zf 11)) (zeA (dT (dCall zb3 (zm (zf 9) (zm (zf 7) zB))))))) (zY (dC (.bl false))) zZ)))))))))))
 (zY (dC (.bl true)))))))
theorem zvg:BodyOk 12 zlE zfS:=by
 rintro ds S Q ⟨ns,rfl,⟨_,hg⟩,hl,q⟩
 unfold zlE
 walk_at "g"
 refine⟨ns,4,6,16,rfl,hl,hg,by decide,by decide,by decide,by decide,by decide,by decide,fun T x y z V w hs=>?_⟩
 generalize S++T=S1 at hs
 have ok:=w.ok
 have b1:=ok.b1
 have b12:=ok.b12
 have hr:=w.hr
 have hh:=ok.hh
 walk_at "g"
 refine⟨x,y,z,V,rfl,hs,ok,fun T v hv=>?_⟩
 have hs2:VlS (S1++T) x y z V:=hs.old
 generalize S1++T=S2 at hv hs2
 walk_at "g"
 refine⟨x,y,z,V,rfl,hs2,ok,by omega,fun T t ht=>?_⟩
 have hs3:VlS (S2++T) x y z V:=hs2.old
 have hv3:VAt (S2++T) v V:=hv.old
 generalize S2++T=S3 at ht hs3 hv3
 clear hs hs2 hv w
 obtain⟨hx,hy,hz⟩:=id hs3
 walk_at "g"
 walk_at "drho"
 rw [qa]
 refine⟨_,rfl,by omega,by omega,?_⟩
 refine zaw (fun i Z S'=>∃ (G:Sto) (w4 w5 w6 w7 w8 w9 w10 w11:Option D),S'=S3++G/\Z=[some (.rl (ns.map D.int)),some (vlD x y z V),some v,some t,w4,w5,w6,w7,w8,w9,w10,w11]) ⟨[],_,_,_,_,_,_,_,_,by simp,rfl⟩ (fun _ _ _ _=>True.intro) ?_ ?_
 ·rintro i d Z S' hd' ⟨G,w4,w5,w6,w7,w8,w9,w10,w11,rfl,rfl⟩
  obtain⟨hi,rfl⟩:=zaX hd'
  have hin:i<V.bs.length:=by omega
  obtain⟨b,hb,ab⟩:=zjH (bs:=V.bs) (k:=0+(i:Int)) (by omega) (by omega)
  rw [show (0+(i:Int)).toNat=i by omega] at hb
  have hy4:Lst (S3++G) y (V.bs.map bcD):=hy.old
  have hs4:VlS (S3++G) x y z V:=hs3.old
  have hv4:VAt (S3++G) v V:=hv3.old
  have ht4:TabAt (S3++G) t V.bs.length (zam V):=ht.old
  have e4:∃ G',S3++G=S3++G':=⟨G,rfl⟩
  generalize S3++G=S4 at hy4 hs4 hv4 ht4 e4
  walk_at "g"
  refine⟨ns,_,rfl,hg,by omega,fun c0 _=>?_⟩
  walk_at "g"
  refine⟨c0,35,_,rfl,by decide,by decide,by omega,fun m m0 m1 _=>?_⟩
  have hin':V.h0<=V.h0+m/\V.h0+m<=V.h1:=by omega
  walk_at "g"
  generalize V.h0+m=hour at hin'
  refine⟨x,y,z,V,t,i,hour,by rw [show (0+(i:Int))=((i:Nat):Int) by omega],hs4,ok,by omega,ht4,hin,fun T kd lit ll ear hk lk=>?_⟩
  have hold:=zqT ll ear
  have kd5:Lst (S4++T) (.ref kd) (zad lit):=Lst.here hk
  have hs5:VlS (S4++T) x y z V:=hs4.old
  have hv5:VAt (S4++T) v V:=hv4.old
  have ht5:TabAt (S4++T) t V.bs.length (zam V):=ht4.old
  have e5:∃ G',S4++T=S3++G':=zcG e4 rfl
  generalize S4++T=S5 at kd5 hs5 hv5 ht5 e5
  clear hs4 hv4 ht4 hk lk e4
  walk_at "g"
  refine⟨v,V,i,b,hour,_,lit,(),rfl,hv5.old,ok,hb,hin'.1,hin'.2,Lst.at0,by omega,fun r hr'=>?_⟩
  have er:r=true:=hr'.mpr hold
  subst er
  walk_at "g"
  have kc:∀ T,Lst (S5++T) (.ref kd) (zad lit):=fun T=>kd5.old
  rw [zkq]
  refine zkf (xs:=(cutD ns none (some 6)).map D.int) (ys:=([0,3,6]:List Int).map D.int) (Lst.at (k:=1) rfl) (Lst.at (k:=2) rfl) (by rw [qa];have:=zit ns none (some 6);unfold slD at this;simp at this;unfold big;simp;omega) ?_
  rw [zti]
  have lcs:(cutD ns none (some 6)++[0,3,6]).length<=9:=by have:=zit ns none (some 6);unfold slD at this;simp at this;rw [qe];simp;omega
  generalize cutD ns none (some 6)++[0,3,6]=cells at lcs
  walk_at "g"
  obtain⟨S6,hS6⟩:∃ S6:Sto,S6=S5++[Cell.lst (zad lit),.lst ((cutD ns none (some 6)).map D.int),.lst [.int 0,.int 3,.int 6],.lst (cells.map D.int)]:=⟨_,rfl⟩
  refine zv8 (P:=fun S=>zoo _ _ _ _ _ _ S) S6 hS6.symm fun S7 e7=>?_
  subst e7
  have kc6:Lst S7 (.ref (S5.length+3)) (cells.map D.int):=hS6▸Lst.at (k:=3) rfl
  have kd6:Lst S7 (.ref kd) (zad lit):=hS6▸kd5.old
  have hs6:VlS S7 x y z V:=hS6▸hs5.old
  have hv6:VAt S7 v V:=hS6▸hv5.old
  have ht6:TabAt S7 t V.bs.length (zam V):=hS6▸ht5.old
  have e6:∃ G',S7=S3++G':=zcG e5 hS6
  clear hS6 kd5 hs5 hv5 ht5 e5 kc
  generalize S5.length+3=cr at kc6
  refine zaw (fun j Z S'=>∃ (G:Sto) (w8 w9 w10 w11:Option D),S'=S7++G/\Z=[some (.rl (ns.map D.int)),some (vlD x y z V),some v,some t,some (.int (0+(i:Int))),some (.str b.1),some (.int hour),some (.ref kd),w8,w9,w10,w11]) ⟨[],_,_,_,_,by simp,rfl⟩ (fun j Z S' ⟨G,_,_,_,_,e,_⟩=>e▸kc6.old) ?_ ?_
  ·rintro j d Z S' hd3 ⟨G,w8,w9,w10,w11,rfl,rfl⟩
   obtain⟨c,hc,rfl⟩:=zdh hd3
   walk_at "g"
   refine⟨_,lit,c,V.h0,rfl,kd6.old,by omega,by omega,fun T kb bd lb hkb lkb=>?_⟩
   have kb8:Lst (S7++G++T) (.ref kb) (zad bd):=Lst.here hkb
   have kd8:Lst (S7++G++T) (.ref kd) (zad lit):=kd6.old.old
   have hs8:VlS (S7++G++T) x y z V:=hs6.old.old
   have hv8:VAt (S7++G++T) v V:=hv6.old.old
   have ht8:TabAt (S7++G++T) t V.bs.length (zam V):=ht6.old.old
   have e8:∃ G',S7++G++T=S7++G':=⟨G++T,qF ..⟩
   generalize S7++G++T=S8 at kb8 kd8 hs8 hv8 ht8 e8
   clear hkb lkb
   walk_at "g"
   refine⟨v,V,i,b,hour,_,bd,(),rfl,hv8.old,ok,hb,hin'.1,hin'.2,Lst.at0,by omega,fun r hr2=>?_⟩
   have kb9:Lst (S8++[.lst (zad bd)]) (.ref kb) (zad bd):=kb8.old
   have kd9:Lst (S8++[.lst (zad bd)]) (.ref kd) (zad lit):=kd8.old
   walk_at "g"
   refine zrs Lst.at0 kb9 (zuZ bd) ?_
   walk_at "g"
   refine⟨x,y,z,V,t,i,hour,_,bd,by rw [show (0+(i:Int))=((i:Nat):Int) by omega],hs8.old,ok,by omega,ht8.old,hin,kb9,by omega,fun r3 hr3=>?_⟩
   have er:r3=r:=by rw [Bool.eq_iff_iff,hr3,hr2]
   subst er
   obtain⟨G',e8⟩:=e8
   have fin:∃ G2,S8++[Cell.lst (zad bd)]=S7++G2:=⟨_,by rw [e8,qF]⟩
   cases r3 with
   | true =>
    have hB:=hr2.mp rfl
    refine zsb rfl ?_
    walk_at "g"
    refine⟨_,_,bd,lit,rfl,kb9,kd9,by omega,by have:=hB.1;omega,fun k d e=>zoK hB (ear.snd k d (by show (lit[k]?).join=_;rw [e];rfl)),?_⟩
    walk_at "g"
    obtain⟨G2,eG⟩:=fin
    exact⟨G2,_,_,_,_,eG,rfl⟩
   | false =>
    refine zsb rfl ?_
    walk_at "g"
    obtain⟨G2,eG⟩:=fin
    exact⟨G2,_,_,_,_,eG,rfl⟩
  ·rintro Z S' ⟨G,w8,w9,w10,w11,rfl,rfl⟩
   obtain⟨G',e6⟩:=e6
   exact⟨G'++G,_,_,_,_,_,_,_,_,by rw [e6,qF],rfl⟩
 ·rintro Z S' ⟨G,w4,w5,w6,w7,w8,w9,w10,w11,rfl,rfl⟩
  walk_at "g"
  exact fin_same (q _)
end Dp
namespace Law
open PySem PySem.Spec PyProof.Rows L2 My Dp
def top (i:Nat):Stmt:=PySem.Challenge.pw_beaconvale_k63_whole_bounds.main.body.getD i (.Pass ⟨0,0,0,0⟩)
abbrev zjs:Stmt:=top 73
abbrev zhW:Stmt:=top 74
abbrev zhJ:Stmt:=top 76
abbrev zff:Stmt:=top 77
abbrev zfL:Stmt:=top 75
abbrev zgs:Stmt:=top 81
abbrev zfW:Stmt:=top 78
abbrev zfh:Stmt:=top 79
abbrev zh4:Stmt:=top 80
abbrev zhi:Stmt:=top 82
abbrev zco:Stmt:=top 42
abbrev zbS:Stmt:=inClass (top 43) 0
abbrev zcs:Stmt:=top 56
abbrev zhG:Stmt:=top 55
abbrev zcT:Stmt:=top 57
abbrev zmv:Stmt:=top 36
abbrev zkK:Stmt:=top 44
abbrev zd4:Stmt:=top 34
abbrev zgV:Stmt:=top 35
abbrev zgi:Stmt:=top 38
abbrev zgv:Stmt:=top 45
abbrev zjh:Stmt:=top 46
abbrev zdp:Stmt:=top 58
abbrev zgY:Stmt:=top 1
abbrev zjo:Stmt:=top 28
abbrev zdo:Stmt:=top 59
abbrev zc2:Stmt:=top 60
abbrev zbT:Stmt:=inClass (top 61) 0
abbrev zfF:Stmt:=top 83
abbrev zgt:Stmt:=top 84
abbrev zgX:Stmt:=top 85
abbrev zhf:Stmt:=top 86
abbrev zfM:Stmt:=top 87
abbrev zhd:Stmt:=top 88
abbrev zhs:Stmt:=top 89
abbrev zeM:Stmt:=top 90
abbrev zgR:Stmt:=top 62
abbrev zcR:Stmt:=top 64
abbrev zdZ:Stmt:=top 65
abbrev zhL:Stmt:=top 63
abbrev zch:Stmt:=top 47
abbrev zdm:Stmt:=top 48
abbrev zh5:Stmt:=top 37
abbrev zi1:Stmt:=top 49
abbrev zdT:Stmt:=top 66
abbrev zek:Stmt:=top 67
abbrev zkE:Stmt:=top 29
abbrev zhH:Stmt:=top 30
abbrev zmy:Stmt:=top 3
abbrev zkO:Stmt:=top 31
abbrev zgu:Stmt:=top 32
abbrev zm4:Stmt:=top 5
abbrev zmr:Stmt:=top 4
abbrev zif:Stmt:=top 6
abbrev zkM:Stmt:=top 68
abbrev zfT:Stmt:=top 7
abbrev zfg:Stmt:=top 70
abbrev zfe:Stmt:=top 71
abbrev zhm:Stmt:=top 92
abbrev zg9:Stmt:=top 91
abbrev zeL:Stmt:=top 93
abbrev zfA:Stmt:=top 94
section
variable {P:Program}{w:World}{K:W.Frag}{mg:Str->Option Value}{base:Heap}{f:Addr}{fd:FuncData}
variable (xq:mg "len"=none)
theorem zpU:zQ ["script","k"] ["script","k"] (zJ zjs):=zW
include xq in
theorem zqP (F:Fun K "_law_at" "_law_at" zjs f fd):zaa P w K mg base CX0 1 f fd ["script","k"] (upF K Dp.zcU):=by
  refine zU (b:=Dp.zhe) F zpU Dp.zoE Dp.zqL (fun cdv A outer s H E hr=>?_)
  unfold Dp.zhe
  exact (zu (zR (zM zaW (zj 1) (zai zap xq boot_len (zc (zj 0) zq))) (zy (zL (zA (zj 0) (zj 1)))) zN)
 (zy (zL zp)))
variable (xbr:Got P w K mg base 1 "_law_at" ["script","k"] (upF K Dp.zcU))
theorem zeo:zQ ["cell","k","size","prime","base","mixed"] ["cell","k","size"] (zJ zhW):=zW
theorem zpl (F:Fun K "_law_mix" "_law_mix" zhW f fd):zaa P w K mg base CX0 1 f fd ["cell","k","size"] (upF K Dp.zP):=by
  refine zU (b:=Dp.zf5) F zeo Dp.znj Dp.zpn (fun cdv A outer s H E hr=>?_)
  unfold Dp.zf5
  exact (zu (zG (i:=3) zeo.nd zp)
 (zu (zG (i:=4) zeo.nd (zak (zV (zV (za9 (zj 0) (zbB 1000000000000000000000000000000000000000000000000000000000000 (by decide +kernel) ⟨by decide,by decide,by decide⟩)) (zak zp (zj 1))) zp) zp))
 (zu (zG (i:=5) zeo.nd (za9 (zak (zj 4) (zj 4)) (zj 3)))
 (zu (zG (i:=5) zeo.nd (za9 (zak (zV (zj 5) (zak zp (zV (zj 1) zp))) (zj 5)) (zj 3)))
 (zy (zL (za9 (zdD (zj 5) zp) (zj 2))))))))
variable (xg:Got P w K mg base 1 "_law_mix" ["cell","k","size"] (upF K Dp.zP))
theorem zo9:zQ ["cell","k","near","far"] ["cell","k","near","far"] (zJ zhJ):=zW
include xg in
theorem zo4 (F:Fun K "_law_far" "_law_far" zhJ f fd):zaa P w K mg base CX0 2 f fd ["cell","k","near","far"] (upF K Dp.zdc):=by
  refine zU (b:=Dp.zge) F zo9 Dp.znd Dp.zoq (fun cdv A outer s H E hr=>?_)
  unfold Dp.zge
  exact (zu (zR (zaV (zj 3)) (zy (zL (zX (za9 (zak (zak (zj 0) (zbB 1422907482840247632891030073750636927810831 (by decide +kernel) ⟨by decide,by decide,by decide⟩)) (zV (zj 1) zp)) (zbB 100000000000000000000000000000000000000000000000000 (by decide +kernel) ⟨by decide,by decide,by decide⟩)) (zak zp (zbB 10000000000000000000000000000000000000000000000000 (by decide +kernel) ⟨by decide,by decide,by decide⟩))))) zN)
 (zy (zL (zF xg hr (zc (zj 0) (zc (zj 1) (zc (zj 2) zq)))))))
variable (xd0:Got P w K mg base 2 "_law_far" ["cell","k","near","far"] (upF K Dp.zdc))
variable (xr:mg "range"=none)
theorem zaU:zQ ["cell","count","far","corners","place","k","height","wide"] ["cell","count","far"] (zJ zff):=zW
include xg xd0 xr in
theorem zkA (F:Fun K "_law_corners" "_law_corners" zff f fd):zaa P w K mg base CX0 3 f fd ["cell","count","far"] (upF K Dp.zcj):=by
  refine zU (b:=Dp.zdK) F zaU Dp.zkb Dp.zkU (fun cdv A outer s H E hr=>?_)
  unfold Dp.zdK
  exact (zu (zG (i:=3) zaU.nd (zaD zq))
 (zu (zG (i:=4) zaU.nd (zX (zF xd0 hr (zc (zj 0) (zc zp (zc zp (zc (zj 2) zq))))) zp))
 (zu (zaq (zba xr (zc (zj 1) zq)) (z9 (i:=5) zaU.nd) (zu (zG (i:=6) zaU.nd (zF xg hr (zc (zj 0) (zc (zV (zak zp (zj 5)) zp) (zc zp zq)))))
 (zu (zdI (zR (zaF (zbN (zaV (zj 2)) (zbm (zM (zcO hr) (za9 (zj 5) zp) zp)))) (zy (zG (i:=6) zaU.nd (zF xd0 hr (zc (zj 0) (zc (zj 5) (zc zp (zc (zj 2) zq))))))) zN))
 (zu (zaG (zgl PySem.F.slot_list_append PySem.F.type_list_append zcn (zj 3) (zc (zac (zc (zj 4) (zc (zj 6) zq))) zq)))
 (zu (zG (i:=7) zaU.nd (zV zp (zF xg hr (zc (zj 0) (zc (zV (zak zp (zj 5)) zp) (zc zp zq))))))
 (zu (zdI (zR (zaF (zbN (zaV (zj 2)) (zbm (zM (zcO hr) (za9 (zj 5) zp) zp)))) (zy (zG (i:=7) zaU.nd (zV zp (za9 (zak (zak (zj 0) (zbB 7928331467292760530673834318599741 (by decide +kernel) ⟨by decide,by decide,by decide⟩)) (zV (zj 5) zp)) (zbB 1000000000000000000000000000000000000000000000000 (by decide +kernel) ⟨by decide,by decide,by decide⟩))))) zN))
 (zy (zG (i:=4) zaU.nd (zV (zj 4) (zj 7))))))))))
 (zy (zL (zj 3))))))
variable (xcb:Got P w K mg base 3 "_law_corners" ["cell","count","far"] (upF K Dp.zcj))
theorem zdL:zQ ["script","first","most","numbers","k","kept"] ["script","first","most"] (zJ zfL):=zW
include xq xr in
theorem zly (F:Fun K "_law_folded" "_law_folded" zfL f fd):zaa P w K mg base CX0 1 f fd ["script","first","most"] (upF K Dp.zcA):=by
  refine zU (b:=Dp.zeu) F zdL Dp.zkk Dp.zlt (fun cdv A outer s H E hr=>?_)
  unfold Dp.zeu
  exact (zu (zG (i:=3) zdL.nd (zaD zq))
 (zu (zaq (znT xr (zc (zj 1) (zc (zai zap xq boot_len (zc (zj 0) zq)) zq))) (z9 (i:=4) zdL.nd) (zy (zR (zM zaW (zai zap xq boot_len (zc (zj 3) zq)) (zj 2)) (zy (zaG (zgl PySem.F.slot_list_append PySem.F.type_list_append zcn (zj 3) (zc (za9 (zA (zj 0) (zj 4)) (zbB 1000000000000000000000000000000000000000000000000000000000000 (by decide +kernel) ⟨by decide,by decide,by decide⟩)) zq)))) (zu (zG (i:=5) zdL.nd (zV (zak (zA (zj 3) (za9 (zj 4) (zj 2))) zp) (za9 (zA (zj 0) (zj 4)) (zbB 1000000000000000000000000000000000000000000000000000000000000 (by decide +kernel) ⟨by decide,by decide,by decide⟩))))
 (zy (zcF (za9 (zj 5) (zbB 1000000000000000000000000000000000000000000000000000000000000 (by decide +kernel) ⟨by decide,by decide,by decide⟩)) (zdg (zj 3) (za9 (zj 4) (zj 2)))))))))
 (zy (zL (zj 3)))))
variable (xci:Got P w K mg base 1 "_law_folded" ["script","first","most"] (upF K Dp.zcA))
theorem zei:zQ ["cell","count","letters","head","tail"] ["cell","count"] (zJ zgs):=zW
include xg xr in
theorem zmb (F:Fun K "_law_names" "_law_names" zgs f fd):zaa P w K mg base CX0 2 f fd ["cell","count"] (upF K Dp.zcV):=by
  refine zU (b:=Dp.ze3) F zei Dp.zlq Dp.zmP (fun cdv A outer s H E hr=>?_)
  unfold Dp.ze3
  exact (zu (zG (i:=2) zei.nd zfb)
 (zu (zG (i:=3) zei.nd (zak (zA (zj 2) (zF xg hr (zc (zj 0) (zc zp (zc zp zq))))) (zF xg hr (zc (zj 0) (zc zp (zc zp zq))))))
 (zu (zG (i:=4) zei.nd (zak (zA (zj 2) (zF xg hr (zc (zj 0) (zc zp (zc zp zq))))) (zF xg hr (zc (zj 0) (zc zp (zc zp zq))))))
 (zy (zL (zb5 (own:=["k"]) (free:=["head","letters","cell","tail"]) (fv:=[3,2,0,4]) ⟨rfl,rfl,rfl,rfl,True.intro⟩ ⟨rfl,rfl,rfl,rfl,rfl,rfl,rfl,rfl,rfl,rfl,rfl,rfl,True.intro⟩ (zba xr (zc (zj 1) zq)) ⟨(zag 0 (by decide)),fun _ _ _ _ _=>(zar (i:=0) (show List.Nodup (["k","head","letters","cell","tail"]:List Str) by decide +kernel) rfl (Or.inl rfl) (Or.inr rfl))⟩ (fun _ _ _ _ _=>za3) (fun _ _ _ _ _=>(zV (zV (zj 1) (zA (zj 2) (za9 (zV (zF xg hr (zc (zj 3) (zc zp (zc zp zq)))) (zak zp (zj 0))) zp))) (zj 4)))))))))
variable (xdp:Got P w K mg base 2 "_law_names" ["cell","count"] (upF K Dp.zcV))
theorem zdO:zQ ["corners","place","k","one","other","fall"] ["corners","place"] (zJ zfW):=zW
include xq xr in
theorem zlj (F:Fun K "_law_height" "_law_height" zfW f fd):zaa P w K mg base CX0 1 f fd ["corners","place"] (upF K Dp.zcy):=by
  refine zU (b:=Dp.zep) F zdO Dp.zkI Dp.zlr (fun cdv A outer s H E hr=>?_)
  unfold Dp.zep
  exact (zu (zaq (zba xr (zc (zX (zai zap xq boot_len (zc (zj 0) zq)) zp) zq)) (z9 (i:=2) zdO.nd) (zu (znR (i:=3) (j:=4) rfl zdO.nd rfl rfl (by decide) rfl rfl (zc (zA (zj 0) (zj 2)) (zc (zA (zj 0) (zV (zj 2) zp)) zq)) rfl)
 (zy (zR (zaF (zbN (zM ze1 (zA (zj 3) zp) (zj 1)) (zbm (zM ze1 (zj 1) (zA (zj 4) zp))))) (zu (zG (i:=5) zdO.nd (zak (zX (zA (zj 3) zp) (zA (zj 4) zp)) (zX (zj 1) (zA (zj 3) zp))))
 (zy (zL (zX (zA (zj 3) zp) (zdD (zj 5) (zX (zA (zj 4) zp) (zA (zj 3) zp))))))) zN))))
 (zy (zL zaJ)))
variable (xcs:Got P w K mg base 1 "_law_height" ["corners","place"] (upF K Dp.zcy))
theorem zaK:zQ ["numbers","corners","names","beacons","wide","k","cell","place","tower"] ["numbers","corners","names"] (zJ zfh):=zW
include xq xg xr xcs in
theorem zkD (F:Fun K "_law_beacons" "_law_beacons" zfh f fd):zaa P w K mg base CX0 2 f fd ["numbers","corners","names"] (upF K Dp.zcg):=by
  refine zU (b:=Dp.zdJ) F zaK Dp.zjJ Dp.zkp (fun cdv A outer s H E hr=>?_)
  unfold Dp.zdJ
  exact (zu (zG (i:=3) zaK.nd (zaD zq))
 (zu (zG (i:=4) zaK.nd (zV (zX (zA (zA (zj 1) (zbj zp)) zp) (zA (zA (zj 1) zp) zp)) zp))
 (zu (zaq (zba xr (zc (zai zap xq boot_len (zc (zj 2) zq)) zq)) (z9 (i:=5) zaK.nd) (zu (zG (i:=6) zaK.nd (zA (zj 0) (zj 5)))
 (zu (zG (i:=7) zaK.nd (zV (zA (zA (zj 1) zp) zp) (zF xg hr (zc (zj 6) (zc zp (zc (zj 4) zq))))))
 (zu (zdI (zR (zM zbe (zj 4) (zbB 100000000000000000000 (by decide +kernel) ⟨by decide,by decide,by decide⟩)) (zy (zG (i:=7) zaK.nd (zV (zA (zA (zj 1) zp) zp) (za9 (zj 6) (zj 4))))) zN))
 (zu (zdI (zR (zM (zcO hr) (zF xg hr (zc (zj 6) (zc zp (zc zp zq)))) zp) (zy (zG (i:=7) zaK.nd (zA (zA (zj 1) (zF xg hr (zc (zj 6) (zc zp (zc (zai zap xq boot_len (zc (zj 1) zq)) zq))))) zp))) zN))
 (zu (zG (i:=8) zaK.nd (zA (zaD (zc zp (zc (zF xg hr (zc (zj 6) (zc zp (zc zp zq)))) (zc (zF xg hr (zc (zj 6) (zc zp (zc zp zq)))) (zc (za9 (zj 6) (zbB 10000000000000000000000000000000000000000 (by decide +kernel) ⟨by decide,by decide,by decide⟩)) zq))))) (zF xg hr (zc (zj 6) (zc zp (zc zp zq))))))
 (zu (zdI (zR (zM zaW (zj 4) (zbB 100000000000000000000 (by decide +kernel) ⟨by decide,by decide,by decide⟩)) (zy (zG (i:=8) zaK.nd (za9 (zj 8) zp))) zN))
 (zy (zaG (zgl PySem.F.slot_list_append PySem.F.type_list_append zcn (zj 3) (zc (zac (zc (zA (zj 2) (zj 5)) (zc (zj 7) (zc (zV (zF xcs hr (zc (zj 1) (zc (zj 7) zq))) (zj 8)) zq)))) zq)))))))))))
 (zy (zL (zj 3))))))
variable (xb6:Got P w K mg base 2 "_law_beacons" ["numbers","corners","names"] (upF K Dp.zcg))
variable (xe6:mg "abs"=none)
theorem zbp:zQ ["cell","corners","beacons","first","last","one","other","left","low","begin","end","wide","drift","rise"] ["cell","corners","beacons","first","last"] (zJ zh4):=zW
include xq xg xe6 in
theorem zoB (F:Fun K "_law_fog" "_law_fog" zh4 f fd):zaa P w K mg base CX0 2 f fd ["cell","corners","beacons","first","last"] (upF K Dp.zem):=by
  refine zU (b:=Dp.zf4) F zbp Dp.znf Dp.zow (fun cdv A outer s H E hr=>?_)
  unfold Dp.zf4
  exact (zu (zG (i:=5) zbp.nd (zA (zj 2) (zF xg hr (zc (zj 0) (zc zp (zc (zai zap xq boot_len (zc (zj 2) zq)) zq))))))
 (zu (zG (i:=6) zbp.nd (zA (zj 2) (zF xg hr (zc (zj 0) (zc zp (zc (zai zap xq boot_len (zc (zj 2) zq)) zq))))))
 (zu (zG (i:=7) zbp.nd (zX (zV (zdD (zV (zA (zj 5) zp) (zA (zj 6) zp)) zp) (zF xg hr (zc (zj 0) (zc zp (zc zp zq))))) zp))
 (zu (zG (i:=8) zbp.nd (zX (zV (zdD (zV (zA (zj 5) zp) (zA (zj 6) zp)) zp) (zF xg hr (zc (zj 0) (zc zp (zc zp zq))))) zp))
 (zu (zG (i:=9) zbp.nd (zX (zV (zj 3) (zF xg hr (zc (zj 0) (zc zp (zc (zV (zX (zj 4) (zj 3)) zp) zq))))) zp))
 (zu (zG (i:=10) zbp.nd (zV (zj 9) (zA (zaD (zc (zF xg hr (zc (zj 0) (zc zp (zc zp zq)))) (zc (zF xg hr (zc (zj 0) (zc zp (zc zp zq)))) (zc zp zq)))) (zF xg hr (zc (zj 0) (zc zp (zc zp zq)))))))
 (zu (zG (i:=11) zbp.nd (zA (zaD (zc (zF xg hr (zc (zj 0) (zc zp (zc zp zq)))) (zc (zF xg hr (zc (zj 0) (zc zp (zc zp zq)))) (zc (zai zlV xe6 boot_abs (zc (zX (zA (zj 5) zp) (zA (zj 6) zp)) zq)) zq)))) (zF xg hr (zc (zj 0) (zc zp (zc zp zq))))))
 (zu (zG (i:=12) zbp.nd (zA (zaD (zc zp (zc (zX (zF xg hr (zc (zj 0) (zc zp (zc zp zq)))) zp) (zc (zdD (zai zlV xe6 boot_abs (zc (zX (zA (zj 5) zp) (zA (zj 6) zp)) zq)) zp) zq)))) (zF xg hr (zc (zj 0) (zc zp (zc zp zq))))))
 (zu (zG (i:=13) zbp.nd (zA (zaD (zc zp (zc zp (zc (zX (zF xg hr (zc (zj 0) (zc zp (zc zp zq)))) zp) zq)))) (zF xg hr (zc (zj 0) (zc zp (zc zp zq))))))
 (zy (zL (zac (zc (zj 7) (zc (zV (zj 7) (zj 11)) (zc (zj 8) (zc (zV (zj 8) (zF xg hr (zc (zj 0) (zc zp (zc zp zq))))) (zc (zj 9) (zc (zj 10) (zc (zj 12) (zc (zj 13) zq))))))))))))))))))))
variable (xfc:Got P w K mg base 2 "_law_fog" ["cell","corners","beacons","first","last"] (upF K Dp.zem))
theorem zaY:zQ ["script","most","fogs","hours","head","far","count","corners","numbers","beacons","first","last","mists","haze"] ["script","most","fogs","hours"] (zJ zhi):=zW
include xq xbr xg xr xcb xci xdp xb6 xfc in
theorem zna (F:Fun K "_law_vale" "_law_vale" zhi f fd):zaa P w K mg base CX0 4 f fd ["script","most","fogs","hours"] (upF K Dp.zdv):=by
  refine zU (b:=Dp.zfn) F zaY Dp.zmh Dp.znF (fun cdv A outer s H E hr=>?_)
  unfold Dp.zfn
  exact (zu (zG (i:=4) zaY.nd (zF xbr hr (zc (zj 0) (zc zp zq))))
 (zu (zG (i:=5) zaY.nd (zdA (zcO hr) (zF xg hr (zc (zj 4) (zc zp (zc zp zq)))) zp))
 (zu (zG (i:=6) zaY.nd (zV zp (zF xg hr (zc (zj 4) (zc zp (zc (zj 1) zq))))))
 (zu (zG (i:=7) zaY.nd (zF xcb hr (zc (zF xbr hr (zc (zj 0) (zc zp zq))) (zc (zV zp (zF xg hr (zc (zj 4) (zc zp (zc zp zq))))) (zc (zj 5) zq)))))
 (zu (zG (i:=8) zaY.nd (zV (zF xci hr (zc (zj 0) (zc zp (zc (zV (zj 6) (zj 2)) zq)))) (zb5 (own:=["k"]) (free:=[]) (fv:=[]) True.intro True.intro (zba xr (zc (zj 6) zq)) ⟨(zag 0 (by decide)),fun _ _ _ _ _=>(zar (i:=0) (show List.Nodup (["k"]:List Str) by decide +kernel) rfl (Or.inl rfl) (Or.inr rfl))⟩ (fun _ _ _ _ _=>za3) (fun _ _ _ _ _=>zp))))
 (zu (zG (i:=9) zaY.nd (zF xb6 hr (zc (zj 8) (zc (zj 7) (zc (zF xdp hr (zc (zj 4) (zc (zj 6) zq))) zq)))))
 (zu (zG (i:=10) zaY.nd (zA (zaD (zc (zX (zF xg hr (zc (zj 4) (zc zp (zc zp zq)))) zp) (zc (za9 (zj 4) (zbB 100000000000000000000000000000000000000000000000000 (by decide +kernel) ⟨by decide,by decide,by decide⟩)) zq))) (zdD (zF xg hr (zc (zj 4) (zc zp (zc zp zq)))) zp)))
 (zu (zG (i:=11) zaY.nd (zV (zj 10) (zF xg hr (zc (zj 4) (zc zp (zc (zj 3) zq))))))
 (zu (zeR (i:=12) zaY.nd (own:=["cell"]) (free:=["corners","beacons","first","last"]) (fv:=[7,9,10,11]) ⟨rfl,rfl,rfl,rfl,True.intro⟩ ⟨rfl,rfl,rfl,rfl,rfl,rfl,rfl,rfl,rfl,rfl,rfl,rfl,True.intro⟩ (zav (zix (zj 8) (zeS (zj 6)) (zeS (zX (zai zap xq boot_len (zc (zj 8) zq)) (zj 6))))) ⟨(zag 0 (by decide)),fun _ _ _ _ _=>(zar (i:=0) (show List.Nodup (["cell","corners","beacons","first","last"]:List Str) by decide +kernel) rfl (Or.inl rfl) (Or.inr rfl))⟩ (fun _ _ _ _ _=>za3) (fun _ _ _ _ _=>(zF xfc hr (zc (zj 0) (zc (zj 1) (zc (zj 2) (zc (zj 3) (zc (zj 4) zq))))))))
 (zu (zG (i:=13) zaY.nd (zA (zaD (zc zaJ (zc (zF xg hr (zc (zj 4) (zc zp (zc zp zq)))) (zc (zbB 100000000000000000000000000000000000000000000000000000000000 (by decide +kernel) ⟨by decide,by decide,by decide⟩) zq)))) (zF xg hr (zc (zj 4) (zc zp (zc zp zq))))))
 (zy (zL (zac (zc (zj 7) (zc (zj 9) (zc (zj 12) (zc (zj 13) (zc (zj 10) (zc (zj 11) (zc (zF xg hr (zc (zj 4) (zc zp (zc zp zq)))) zq))))))))))))))))))))
variable (xeq:Got P w K mg base 4 "_law_vale" ["script","most","fogs","hours"] (upF K Dp.zdv))
variable (xbm:∃ t,mg "LEAST_CORNERS"=some (.int 2 t))
variable (xbv:∃ t,mg "MOST_CORNERS"=some (.int 40 t))
theorem zef:zQ ["corners","k"] ["corners"] (zJ zco):=zW
include xq xr xbm xbv in
theorem zgx (F:Fun K "refuse_bad_corners" "refuse_bad_corners" zco f fd):zaa P w K mg base CX0 1 f fd ["corners"] (upF K Dp.za8):=by
  refine zU (b:=Dp.zbJ) F zef Dp.zgm Dp.zgJ (fun cdv A outer s H E hr=>?_)
  unfold Dp.zbJ
  exact (zu (zR (zaF (zb6 (zM zaW (zai zap xq boot_len (zc (zj 0) zq)) (zal rfl xbm)) (zbM (zM zbe (zai zap xq boot_len (zc (zj 0) zq)) (zal rfl xbv))))) (zy zbs) zN)
 (zy (zaq (znT xr (zc zp (zc (zai zap xq boot_len (zc (zj 0) zq)) zq))) (z9 (i:=1) zef.nd) (zy (zR (zM ze1 (zA (zA (zj 0) (zj 1)) zp) (zA (zA (zj 0) (zX (zj 1) zp)) zp)) (zy zbs) zN)))))
variable (xaj:Got P w K mg base 1 "refuse_bad_corners" ["corners"] (upF K Dp.za8))
variable (xa6:∀ C,W.nsIn K mainGlobals "Ground"=some (some (.ref C))->zaC K C "corners")
variable (xac:mg "list"=none)
theorem zkN:zQ ["self","corners"] ["self","corners"] (zJ zbS):=zW
include xaj xa6 xac in
theorem zkh (F:Fun K "__init__" "Ground.__init__" zbS f fd):zaa P w K mg base CX0 2 f fd ["self","corners"] (upF K Dp.zdd):=by
  refine zU (b:=Dp.zbV) F zkN Dp.zkc Dp.zks (fun cdv A outer s H E hr=>?_)
  unfold Dp.zbV
  exact (zu (zaG (zF xaj hr (zc (zj 1) zq)))
 (zy (zeg xa6 (zj 0) (zeC zdb xac boot_list (zc (zj 1) zq)))))
variable (xcf:zkj P w K mg base 2 "Ground" (upF K Dp.zf3))
variable (xbw:∃ t,mg "MOST_BEACONS"=some (.int 12 t))
variable (xdv:∃ t,mg "MOST_FOGS"=some (.int 12 t))
theorem zgK:zQ ["beacons","fogs"] ["beacons","fogs"] (zJ zcs):=zW
include xq xbw xdv in
theorem zgA (F:Fun K "refuse_bad_numbers" "refuse_bad_numbers" zcs f fd):zaa P w K mg base CX0 1 f fd ["beacons","fogs"] (upF K Dp.za4):=by
  refine zU (b:=Dp.zbH) F zgK Dp.zgr Dp.zgD (fun cdv A outer s H E hr=>?_)
  unfold Dp.zbH
  exact (zu (zR (zaF (zb6 (zM zaW (zai zap xq boot_len (zc (zj 0) zq)) zp) (zbM (zM zbe (zai zap xq boot_len (zc (zj 0) zq)) (zal rfl xbw))))) (zy zbs) zN)
 (zy (zR (zM zbe (zai zap xq boot_len (zc (zj 1) zq)) (zal rfl xdv)) (zy zbs) zN)))
variable (xah:Got P w K mg base 1 "refuse_bad_numbers" ["beacons","fogs"] (upF K Dp.za4))
variable (xb2:∃ t,mg "MOST_LETTERS"=some (.int 8 t))
variable (xe5:∃ t,mg "LETTERS"=some (.str "abcdefghijklmnopqrstuvwxyz" t))
variable (xax:mg "all"=none)
theorem zpp:zQ ["text"] ["text"] (zJ zhG):=zW
include xq xb2 xe5 xax in
theorem zoJ (F:Fun K "is_name" "is_name" zhG f fd):zaa P w K mg base CX0 1 f fd ["text"] (upF K Dp.zeD):=by
  refine zU (b:=Dp.zgc) F zpp Dp.znE Dp.zpk (fun cdv A outer s H E hr=>?_)
  unfold Dp.zgc
  exact (zu (zR (zaF (zb6 (zM zaW (zai zap xq boot_len (zc (zj 0) zq)) zp) (zbM (zM zbe (zai zap xq boot_len (zc (zj 0) zq)) (zal rfl xb2))))) (zy (zL zaR)) zN)
 (zy (zL (zai zh7 xax boot_all (zc (zb5 (own:=["sign"]) (free:=[]) (fv:=[]) True.intro True.intro (zav (zj 0)) ⟨(zag 0 (by decide)),fun _ _ _ _ _=>(zar (i:=0) (show List.Nodup (["sign"]:List Str) by decide +kernel) rfl (Or.inl rfl) (Or.inr rfl))⟩ (fun _ _ _ _ _=>za3) (fun _ _ _ _ _=>(ztT (zwe hr) (zj 0) (zsI rfl xe5)))) zq)))))
variable (xex:Got P w K mg base 1 "is_name" ["text"] (upF K Dp.zeD))
variable (xid:mg "set"=none)
theorem zhu:zQ ["names"] ["names"] (zJ zcT):=zW
include xq xax xex xid in
theorem zhB (F:Fun K "refuse_bad_names" "refuse_bad_names" zcT f fd):zaa P w K mg base CX0 2 f fd ["names"] (upF K Dp.zbg):=by
  refine zU (b:=Dp.zb1) F zhu Dp.zgS Dp.zhv (fun cdv A outer s H E hr=>?_)
  unfold Dp.zb1
  exact (zu (zR (zbY (zaV (zai zh7 xax boot_all (zc (zb5 (own:=["name"]) (free:=[]) (fv:=[]) True.intro True.intro (zav (zj 0)) ⟨(zag 0 (by decide)),fun _ _ _ _ _=>(zar (i:=0) (show List.Nodup (["name"]:List Str) by decide +kernel) rfl (Or.inl rfl) (Or.inr rfl))⟩ (fun _ _ _ _ _=>za3) (fun _ _ _ _ _=>(zF xex hr (zc (zj 0) zq)))) zq)))) (zy zbs) zN)
 (zy (zR (zM zaW (zsK rfl xq rfl xid (zc (zj 0) zq)) (zai zap xq boot_len (zc (zj 0) zq))) (zy zbs) zN)))
variable (xas:Got P w K mg base 2 "refuse_bad_names" ["names"] (upF K Dp.zbg))
theorem zty:zQ ["one","other"] ["one","other"] (zJ zmv):=zW
theorem ztx (F:Fun K "less" "less" zmv f fd):zaa P w K mg base CX0 1 f fd ["one","other"] (upF K Dp.zd8):=by
 refine zU (b:=Dp.zjL) F zty Dp.zrc Dp.zt9 (fun cdv A outer s H E hr=>?_)
 unfold Dp.zjL
 exact (zy (zL (zdA zaW (zak (zA (zj 0) zp) (zA (zj 1) zp)) (zak (zA (zj 1) zp) (zA (zj 0) zp)))))
variable (xbq:Got P w K mg base 1 "less" ["one","other"] (upF K Dp.zd8))
theorem zjq:zQ ["ground","place","first","last"] ["ground","place"] (zJ zkK):=zW
include xbq in
theorem zrH (F:Fun K "is_on" "is_on" zkK f fd):zaa P w K mg base CX0 2 f fd ["ground","place"] (upF K Dp.zeN):=by
  refine zU (b:=Dp.zik) F zjq Dp.zp4 Dp.zrq (fun cdv A outer s H E hr=>?_)
  unfold Dp.zik
  exact (zu (zG (i:=2) zjq.nd (zac (zc (zA (zA (zbx (zj 0) rfl) zp) zp) (zc zp zq))))
 (zu (zG (i:=3) zjq.nd (zac (zc (zA (zA (zbx (zj 0) rfl) (zbj zp)) zp) (zc zp zq))))
 (zy (zL (zgz (zij (zF xbq hr (zc (zj 1) (zc (zj 2) zq)))) (zig (zij (zF xbq hr (zc (zj 3) (zc (zj 1) zq))))))))))
variable (xdj:Got P w K mg base 2 "is_on" ["ground","place"] (upF K Dp.zeN))
theorem zcd:zQ ["one","other","rest"] ["one","other"] (zJ zd4):=zW
include xe6 in
theorem ziN (F:Fun K "common_divisor" "common_divisor" zd4 f fd):zaa P w K mg base CX0 1 f fd ["one","other"] (upF K Dp.zbC):=by
  refine zU (b:=Dp.zcv) F zcd Dp.zh6 Dp.ziS (fun cdv A outer s H E hr=>?_)
  unfold Dp.zcv
  exact (zu (zk4 (zM (zgT hr) (zj 1) zp) (zu (zG (i:=2) zcd.nd (za9 (zj 0) (zj 1)))
 (zu (zG (i:=0) zcd.nd (zj 1))
 (zy (zG (i:=1) zcd.nd (zj 2))))))
 (zy (zL (zai zlV xe6 boot_abs (zc (zj 0) zq)))))
variable (xbb:Got P w K mg base 1 "common_divisor" ["one","other"] (upF K Dp.zbC))
theorem zgn:zQ ["top","bottom","divisor"] ["top","bottom"] (zJ zgV):=zW
include xbb in
theorem znk (F:Fun K "fraction" "fraction" zgV f fd):zaa P w K mg base CX0 2 f fd ["top","bottom"] (upF K Dp.zdr):=by
  refine zU (b:=Dp.zfs) F zgn Dp.zmJ Dp.zno (fun cdv A outer s H E hr=>?_)
  unfold Dp.zfs
  exact (zu (zG (i:=2) zgn.nd (zF xbb hr (zc (zj 0) (zc (zj 1) zq))))
 (zu (zdI (zR (zM zaW (zj 1) zp) (zy (zG (i:=2) zgn.nd (zbj (zj 2)))) zN))
 (zy (zL (zac (zc (zdD (zj 0) (zj 2)) (zc (zdD (zj 1) (zj 2)) zq)))))))
variable (xep:Got P w K mg base 2 "fraction" ["top","bottom"] (upF K Dp.zdr))
theorem zes:zQ ["one","other","place","run","rise","top"] ["one","other","place"] (zJ zgi):=zW
include xep in
theorem zlX (F:Fun K "height_on" "height_on" zgi f fd):zaa P w K mg base CX0 3 f fd ["one","other","place"] (upF K Dp.zcW):=by
  refine zU (b:=Dp.zeW) F zes Dp.zlp Dp.zmO (fun cdv A outer s H E hr=>?_)
  unfold Dp.zeW
  exact (zu (zG (i:=3) zes.nd (zX (zA (zj 1) zp) (zA (zj 0) zp)))
 (zu (zG (i:=4) zes.nd (zX (zA (zj 1) zp) (zA (zj 0) zp)))
 (zu (zG (i:=5) zes.nd (zV (zak (zak (zA (zj 0) zp) (zj 3)) (zA (zj 2) zp)) (zak (zj 4) (zX (zA (zj 2) zp) (zak (zA (zj 0) zp) (zA (zj 2) zp))))))
 (zy (zL (zF xep hr (zc (zj 5) (zc (zak (zj 3) (zA (zj 2) zp)) zq))))))))
variable (xdo:Got P w K mg base 3 "height_on" ["one","other","place"] (upF K Dp.zcW))
variable (xam:∀ C,W.nsIn K mainGlobals "OffGround"=some (some (.ref C))->ExC K C)
variable (xal:∃ C,W.nsIn K mainGlobals "OffGround"=some (some (.ref C))/\mg "OffGround"=some (.ref C))
theorem zex:zQ ["ground","place","corners","k"] ["ground","place"] (zJ zgv):=zW
include xbq xdj xdo xam xal in
theorem zml (F:Fun K "ground_at" "ground_at" zgv f fd):zaa P w K mg base (CXd P w) 4 f fd ["ground","place"] (zc7 K Dp.zcP):=by
  refine zdV (b:=Dp.ze4) F zex Dp.zlB Dp.zme (fun cdv A outer s H E hr _ ex hX hM=>?_)
  unfold Dp.ze4
  exact (zu (zR (zbY (zaV (zF xdj hr (zc (zj 0) (zc (zj 1) zq))))) (zy (ze5 hM rfl xam xal rfl (zc zfb zq) (fun _ _ _ h=>h _))) zN)
 (zu (zG (i:=2) zex.nd (zbx (zj 0) rfl))
 (zu (zG (i:=3) zex.nd zp)
 (zu (zk4 (zaV (zF xbq hr (zc (zac (zc (zA (zA (zj 2) (zj 3)) zp) (zc zp zq))) (zc (zj 1) zq)))) (zy (zsZ (i:=3) zex.nd zp)))
 (zy (zL (zF xdo hr (zc (zA (zj 2) (zX (zj 3) zp)) (zc (zA (zj 2) (zj 3)) (zc (zj 1) zq))))))))))
variable (xdz:zgW P w K mg base 4 "ground_at" ["ground","place"] (zc7 K Dp.zcP))
theorem zla:zQ ["ground","spot","place"] ["ground","spot"] (zJ zjh):=zW
include xbq xdj xdz in
theorem zpS (F:Fun K "stands" "stands" zjh f fd):zaa P w K mg base CX0 5 f fd ["ground","spot"] (upF K Dp.zee):=by
  refine zU (b:=Dp.zg0) F zla Dp.zoZ Dp.zp6 (fun cdv A outer s H E hr=>?_)
  unfold Dp.zg0
  exact (zu (zG (i:=2) zla.nd (zac (zc (zA (zj 1) zp) (zc zp zq))))
 (zu (zR (zbY (zaV (zF xdj hr (zc (zj 0) (zc (zj 2) zq))))) (zy (zL zaR)) zN)
 (zy (zL (zij (zF xbq hr (zc (zac (zc (zA (zj 1) zp) (zc zp zq))) (zc (zct xdz zjF hr (zc (zj 0) (zc (zj 2) zq))) zq))))))))
variable (xce:Got P w K mg base 5 "stands" ["ground","spot"] (upF K Dp.zee))
theorem zh8:zQ ["ground","beacons"] ["ground","beacons"] (zJ zdp):=zW
include xax xce in
theorem zic (F:Fun K "refuse_bad_tops" "refuse_bad_tops" zdp f fd):zaa P w K mg base CX0 6 f fd ["ground","beacons"] (upF K Dp.zbv):=by
 refine zU (b:=Dp.zce) F zh8 Dp.zhF Dp.zhQ (fun cdv A outer s H E hr=>?_)
 unfold Dp.zce
 exact (zy (zR (zbY (zaV (zai zh7 xax boot_all (zc (zb5 (own:=["name","x","z"]) (free:=["ground"]) (fv:=[0]) ⟨rfl,True.intro⟩ ⟨rfl,rfl,rfl,True.intro⟩ (zav (zj 1)) ⟨(zi8 (zcr (zag 0 (by decide)) (zcr (zag 1 (by decide)) (zcr (zag 2 (by decide)) zhS)))),fun _ _ _ _ _=>(zj4 (n:=3) rfl (zc5 (zar (i:=0) (show List.Nodup (["name","x","z","ground"]:List Str) by decide +kernel) rfl (Or.inl rfl) (Or.inr rfl)) (zc5 (zar (i:=1) (show List.Nodup (["name","x","z","ground"]:List Str) by decide +kernel) rfl (Or.inl rfl) (Or.inr rfl)) (zc5 (zar (i:=2) (show List.Nodup (["name","x","z","ground"]:List Str) by decide +kernel) rfl (Or.inl rfl) (Or.inr rfl)) ziy))))⟩ (fun _ _ _ _ _=>za3) (fun _ _ _ _ _=>(zF xce hr (zc (zj 3) (zc (zac (zc (zj 1) (zc (zj 2) zq))) zq))))) zq)))) (zy zbs) zN))
variable (xa5:Got P w K mg base 6 "refuse_bad_tops" ["ground","beacons"] (upF K Dp.zbv))
variable (xfz:mg "int"=none)
variable (xab:mg "isinstance"=none)
variable (xeu:mg "bool"=none)
theorem znc:zQ ["value"] ["value"] (zJ zgY):=zW
include xfz xab xeu in
theorem zng (F:Fun K "is_whole" "is_whole" zgY f fd):zaa P w K mg base CX0 1 f fd ["value"] (upF K Dp.zdE):=by
 refine zU (b:=Dp.zfw) F znc Dp.zmd Dp.znl (fun cdv A outer s H E hr=>?_)
 unfold Dp.zfw
 exact (zy (zL (zgz (zai zjX xab boot_isinstance (zc (zj 0) (zc (zlK rfl xfz boot_int) zq))) (zig (zij (zai zjX xab boot_isinstance (zc (zj 0) (zc (zlK rfl xeu boot_bool) zq))))))))
variable (xec:Got P w K mg base 1 "is_whole" ["value"] (upF K Dp.zdE))
variable (xe3:∃ t,mg "NUMBERS"=some (.int 8 t))
variable (xbi:∃ t,mg "LEFT"=some (.int 0 t))
variable (xan:∃ t,mg "RIGHT"=some (.int 1 t))
variable (xcd:∃ t,mg "LOW"=some (.int 2 t))
variable (xbh:∃ t,mg "HIGH"=some (.int 3 t))
variable (xbx:∃ t,mg "FIRST"=some (.int 4 t))
variable (xew:∃ t,mg "LAST"=some (.int 5 t))
variable (xcw:mg "tuple"=none)
theorem zqw:zQ ["value"] ["value"] (zJ zjo):=zW
include xq xax xab xec xe3 xbi xan xcd xbh xbx xew xcw in
theorem zqp (F:Fun K "is_fog" "is_fog" zjo f fd):zaa P w K mg base CX0 2 f fd ["value"] (upF K Dp.zfc):=by
  refine zU (b:=Dp.zhr) F zqw Dp.zpj Dp.zqv (fun cdv A outer s H E hr=>?_)
  unfold Dp.zhr
  exact (zu (zR (zaF (zb6 (zbY (zaV (zai zjX xab boot_isinstance (zc (zj 0) (zc (zlK rfl xcw boot_tuple) zq))))) (zbM (zM (zgT hr) (zai zap xq boot_len (zc (zj 0) zq)) (zal rfl xe3))))) (zy (zL zaR)) zN)
 (zu (zR (zbY (zaV (zai zh7 xax boot_all (zc (zb5 (own:=["number"]) (free:=[]) (fv:=[]) True.intro True.intro (zav (zj 0)) ⟨(zag 0 (by decide)),fun _ _ _ _ _=>(zar (i:=0) (show List.Nodup (["number"]:List Str) by decide +kernel) rfl (Or.inl rfl) (Or.inr rfl))⟩ (fun _ _ _ _ _=>za3) (fun _ _ _ _ _=>(zF xec hr (zc (zj 0) zq)))) zq)))) (zy (zL zaR)) zN)
 (zy (zL (zgz (zdA ze1 (zA (zj 0) (zal rfl xbi)) (zA (zj 0) (zal rfl xan))) (zgz (zdA ze1 (zA (zj 0) (zal rfl xcd)) (zA (zj 0) (zal rfl xbh))) (zig (zdA ze1 (zA (zj 0) (zal rfl xbx)) (zA (zj 0) (zal rfl xew))))))))))
variable (xfn:Got P w K mg base 2 "is_fog" ["value"] (upF K Dp.zfc))
theorem zh9:zQ ["fogs"] ["fogs"] (zJ zdo):=zW
include xax xfn in
theorem zhI (F:Fun K "refuse_bad_fogs" "refuse_bad_fogs" zdo f fd):zaa P w K mg base CX0 3 f fd ["fogs"] (upF K Dp.zbu):=by
 refine zU (b:=Dp.zcc) F zh9 Dp.zhx Dp.zhY (fun cdv A outer s H E hr=>?_)
 unfold Dp.zcc
 exact (zy (zR (zbY (zaV (zai zh7 xax boot_all (zc (zb5 (own:=["fog"]) (free:=[]) (fv:=[]) True.intro True.intro (zav (zj 0)) ⟨(zag 0 (by decide)),fun _ _ _ _ _=>(zar (i:=0) (show List.Nodup (["fog"]:List Str) by decide +kernel) rfl (Or.inl rfl) (Or.inr rfl))⟩ (fun _ _ _ _ _=>za3) (fun _ _ _ _ _=>(zF xfn hr (zc (zj 0) zq)))) zq)))) (zy zbs) zN))
variable (xa0:Got P w K mg base 3 "refuse_bad_fogs" ["fogs"] (upF K Dp.zbu))
theorem zhE:zQ ["haze","first","last","delay"] ["haze","first","last","delay"] (zJ zc2):=zW
theorem zhD (F:Fun K "refuse_bad_hours" "refuse_bad_hours" zc2 f fd):zaa P w K mg base CX0 1 f fd ["haze","first","last","delay"] (upF K Dp.zbh):=by
  refine zU (b:=Dp.zb2) F zhE Dp.zhn Dp.zhy (fun cdv A outer s H E hr=>?_)
  unfold Dp.zb2
  exact (zu (zR (zM zbe (zj 1) (zj 2)) (zy zbs) zN)
 (zu (zR (zM zaW (zj 3) zp) (zy zbs) zN)
 (zy (zR (zaF (zbN (zM zdH (zj 0) zaJ) (zbm (zM zaW (zj 0) zp)))) (zy zbs) zN))))
variable (xaq:Got P w K mg base 1 "refuse_bad_hours" ["haze","first","last","delay"] (upF K Dp.zbh))
variable (xba:∀ C,W.nsIn K mainGlobals "Valley"=some (some (.ref C))->zaC K C "ground")
variable (xaz:∀ C,W.nsIn K mainGlobals "Valley"=some (some (.ref C))->zaC K C "beacons")
variable (xbu:∀ C,W.nsIn K mainGlobals "Valley"=some (some (.ref C))->zaC K C "fogs")
variable (xbs:∀ C,W.nsIn K mainGlobals "Valley"=some (some (.ref C))->zaC K C "haze")
variable (xbp:∀ C,W.nsIn K mainGlobals "Valley"=some (some (.ref C))->zaC K C "first")
variable (xb1:∀ C,W.nsIn K mainGlobals "Valley"=some (some (.ref C))->zaC K C "last")
variable (xbn:∀ C,W.nsIn K mainGlobals "Valley"=some (some (.ref C))->zaC K C "delay")
theorem zki:zQ ["self","ground","beacons","fogs","haze","first","last","delay"] ["self","ground","beacons","fogs","haze","first","last","delay"] (zJ zbT):=zW
include xac xcf xah xas xa5 xa0 xaq xba xaz xbu xbs xbp xb1 xbn in
theorem zkF (F:Fun K "__init__" "Valley.__init__" zbT f fd):zaa P w K mg base CX0 7 f fd ["self","ground","beacons","fogs","haze","first","last","delay"] (upF K Dp.zdi):=by
  refine zU (b:=Dp.zbU) F zki Dp.zj5 Dp.zkx (fun cdv A outer s H E hr=>?_)
  unfold Dp.zbU
  exact (zu (zaG (zF xah hr (zc (zj 2) (zc (zj 3) zq))))
 (zu (zaG (zF xas hr (zc (zb5 (own:=["beacon"]) (free:=[]) (fv:=[]) True.intro True.intro (zav (zj 2)) ⟨(zag 0 (by decide)),fun _ _ _ _ _=>(zar (i:=0) (show List.Nodup (["beacon"]:List Str) by decide +kernel) rfl (Or.inl rfl) (Or.inr rfl))⟩ (fun _ _ _ _ _=>za3) (fun _ _ _ _ _=>(zA (zj 0) zp))) zq)))
 (zu (zaG (zF xa5 hr (zc (zj 1) (zc (zj 2) zq))))
 (zu (zaG (zF xa0 hr (zc (zj 3) zq)))
 (zu (zaG (zF xaq hr (zc (zj 4) (zc (zj 5) (zc (zj 6) (zc (zj 7) zq))))))
 (zu (zeg xba (zj 0) (zmV xcf hr (zc (zbx (zj 1) rfl) zq)))
 (zu (zeg xaz (zj 0) (zeC zdb xac boot_list (zc (zj 2) zq)))
 (zu (zeg xbu (zj 0) (zeC zdb xac boot_list (zc (zj 3) zq)))
 (zu (zeg xbs (zj 0) (zj 4))
 (zu (zeg xbp (zj 0) (zj 5))
 (zu (zeg xb1 (zj 0) (zj 6))
 (zy (zeg xbn (zj 0) (zj 7))))))))))))))
variable (xfs:zkj P w K mg base 7 "Valley" (upF K Dp.zie))
theorem zll:zQ ["vale"] ["vale"] (zJ zfF):=zW
include xac xcf xfs in
theorem zlx (F:Fun K "_law_valley" "_law_valley" zfF f fd):zaa P w K mg base CX0 9 f fd ["vale"] (upF K Dp.zcE):=by
 refine zU (b:=Dp.zel) F zll Dp.zku Dp.zli (fun cdv A outer s H E hr=>?_)
 unfold Dp.zel
 exact (zy (zL (zmV xfs hr (zc (zmV xcf hr (zc (zeC zdb xac boot_list (zc (zA (zj 0) zp) zq)) zq)) (zc (zeC zdb xac boot_list (zc (zA (zj 0) zp) zq)) (zc (zeC zdb xac boot_list (zc (zA (zj 0) zp) zq)) (zc (zA (zj 0) zp) (zc (zA (zj 0) zp) (zc (zA (zj 0) zp) (zc (zA (zj 0) zp) zq))))))))))
variable (xco:Got P w K mg base 9 "_law_valley" ["vale"] (upF K Dp.zcE))
theorem zer:zQ ["corners","one","other","spot","rise"] ["corners","one","other"] (zJ zgt):=zW
theorem zmp (F:Fun K "_law_clear" "_law_clear" zgt f fd):zaa P w K mg base CX0 1 f fd ["corners","one","other"] (upF K Dp.zc8):=by
  refine zU (b:=Dp.zeY) F zer Dp.zlz Dp.zmF (fun cdv A outer s H E hr=>?_)
  unfold Dp.zeY
  exact (zu (zdI (zR (zM zaW (zA (zj 2) zp) (zA (zj 1) zp)) (zy (znR (i:=1) (j:=2) rfl zer.nd rfl rfl (by decide) rfl rfl (zc (zj 2) (zc (zj 1) zq)) rfl)) zN))
 (zu (zaq (zav (zj 0)) (z9 (i:=3) zer.nd) (zy (zR (zaF (zbN (zM zaW (zA (zj 1) zp) (zA (zj 3) zp)) (zbm (zM zaW (zA (zj 3) zp) (zA (zj 2) zp))))) (zu (zG (i:=4) zer.nd (zak (zX (zA (zj 2) zp) (zA (zj 1) zp)) (zX (zA (zj 3) zp) (zA (zj 1) zp))))
 (zy (zR (zM zbe (zak (zX (zA (zj 3) zp) (zA (zj 1) zp)) (zX (zA (zj 2) zp) (zA (zj 1) zp))) (zj 4)) (zy (zL zaR)) zN))) zN)))
 (zy (zL zaR))))
variable (xdw:Got P w K mg base 1 "_law_clear" ["corners","one","other"] (upF K Dp.zc8))
theorem znw:zQ ["at","way","low","high"] ["at","way","low","high"] (zJ zgX):=zW
include xfz in
theorem znp (F:Fun K "_law_part" "_law_part" zgX f fd):zaa P w K mg base CX0 1 f fd ["at","way","low","high"] (upF K Dp.zcL):=by
  refine zU (b:=Dp.zfo) F znw Dp.zmZ Dp.znb (fun cdv A outer s H E hr=>?_)
  unfold Dp.zfo
  exact (zu (zR (zM (zcO hr) (zj 1) zp) (zy (zL (zA (zaD (zc (zac (zc (zac (zc zp (zc zp zq))) (zc (zac (zc zp (zc zp zq))) zq))) (zc (zac (zc (zac (zc zp (zc zp zq))) (zc (zac (zc zp (zc zp zq))) zq))) zq))) (zeC zvP xfz boot_int (zc (zv2 (zdA zaW (zj 0) (zj 2)) (zig (zdA zaW (zj 3) (zj 0)))) zq))))) zN)
 (zu (zR (zM zbe (zj 1) zp) (zy (zL (zac (zc (zac (zc (zX (zj 2) (zj 0)) (zc (zj 1) zq))) (zc (zac (zc (zX (zj 3) (zj 0)) (zc (zj 1) zq))) zq))))) zN)
 (zy (zL (zac (zc (zac (zc (zX (zj 0) (zj 3)) (zc (zbj (zj 1)) zq))) (zc (zac (zc (zX (zj 0) (zj 2)) (zc (zbj (zj 1)) zq))) zq)))))))
variable (xcm:Got P w K mg base 1 "_law_part" ["at","way","low","high"] (upF K Dp.zcL))
theorem zeX:zQ ["box","one","other","parts","low","high"] ["box","one","other"] (zJ zhf):=zW
include xcm in
theorem zm7 (F:Fun K "_law_meet" "_law_meet" zhf f fd):zaa P w K mg base CX0 2 f fd ["box","one","other"] (upF K Dp.zds):=by
  refine zU (b:=Dp.zfx) F zeX Dp.zmH Dp.znA (fun cdv A outer s H E hr=>?_)
  unfold Dp.zfx
  exact (zu (zG (i:=3) zeX.nd (zaD (zc (zac (zc (zac (zc zp (zc zp zq))) (zc (zac (zc zp (zc zp zq))) zq))) (zc (zF xcm hr (zc (zA (zj 1) zp) (zc (zX (zA (zj 2) zp) (zA (zj 1) zp)) (zc (zA (zj 0) zp) (zc (zA (zj 0) zp) zq))))) zq))))
 (zu (zaG (zgl PySem.F.slot_list_append PySem.F.type_list_append zcn (zj 3) (zc (zF xcm hr (zc (zA (zj 1) zp) (zc (zX (zA (zj 2) zp) (zA (zj 1) zp)) (zc (zA (zj 0) zp) (zc (zA (zj 0) zp) zq))))) zq)))
 (zu (zaq (zav (zb5 (own:=["part"]) (free:=[]) (fv:=[]) True.intro True.intro (zav (zj 3)) ⟨(zag 0 (by decide)),fun _ _ _ _ _=>(zar (i:=0) (show List.Nodup (["part"]:List Str) by decide +kernel) rfl (Or.inl rfl) (Or.inr rfl))⟩ (fun _ _ _ _ _=>za3) (fun _ _ _ _ _=>(zA (zj 0) zp)))) (z9 (i:=4) zeX.nd) (zy (zaq (zav (zb5 (own:=["part"]) (free:=[]) (fv:=[]) True.intro True.intro (zav (zj 3)) ⟨(zag 0 (by decide)),fun _ _ _ _ _=>(zar (i:=0) (show List.Nodup (["part"]:List Str) by decide +kernel) rfl (Or.inl rfl) (Or.inr rfl))⟩ (fun _ _ _ _ _=>za3) (fun _ _ _ _ _=>(zA (zj 0) zp)))) (z9 (i:=5) zeX.nd) (zy (zR (zM zbe (zak (zA (zj 4) zp) (zA (zj 5) zp)) (zak (zA (zj 5) zp) (zA (zj 4) zp))) (zy (zL zaR)) zN)))))
 (zy (zL zaR)))))
variable (xel:Got P w K mg base 2 "_law_meet" ["box","one","other"] (upF K Dp.zds))
theorem zfd:zQ ["fog","one","other","hour","along","upward"] ["fog","one","other","hour"] (zJ zfM):=zW
include xel in
theorem zlA (F:Fun K "_law_fogged" "_law_fogged" zfM f fd):zaa P w K mg base CX0 3 f fd ["fog","one","other","hour"] (upF K Dp.zcz):=by
  refine zU (b:=Dp.zeq) F zfd Dp.zkl Dp.zlm (fun cdv A outer s H E hr=>?_)
  unfold Dp.zeq
  exact (zu (zR (zaF (zb6 (zM zaW (zj 3) (zA (zj 0) zp)) (zbM (zM zaW (zA (zj 0) zp) (zj 3))))) (zy (zL zaR)) zN)
 (zu (zG (i:=4) zfd.nd (zak (zA (zj 0) zp) (zX (zj 3) (zA (zj 0) zp))))
 (zu (zG (i:=5) zfd.nd (zak (zA (zj 0) zp) (zX (zj 3) (zA (zj 0) zp))))
 (zy (zL (zF xel hr (zc (zac (zc (zV (zA (zj 0) zp) (zj 4)) (zc (zV (zA (zj 0) zp) (zj 4)) (zc (zV (zA (zj 0) zp) (zj 5)) (zc (zV (zA (zj 0) zp) (zj 5)) zq))))) (zc (zj 1) (zc (zj 2) zq)))))))))
variable (xcq:Got P w K mg base 3 "_law_fogged" ["fog","one","other","hour"] (upF K Dp.zcz))
theorem zbL:zQ ["vale","k","j","hour","corners","beacons","mists","haze","one","other","square"] ["vale","k","j","hour"] (zJ zhd):=zW
include xq xdw xcq in
theorem znr (F:Fun K "_law_sees" "_law_sees" zhd f fd):zaa P w K mg base CX0 4 f fd ["vale","k","j","hour"] (upF K Dp.zdC):=by
  refine zU (b:=Dp.zft) F zbL Dp.zl4 Dp.zm9 (fun cdv A outer s H E hr=>?_)
  unfold Dp.zft
  exact (zu (zcF (zix (zj 0) zgE (zeS zp)) (zd9 (n:=4) rfl (zaN (z9 (i:=4) zbL.nd) (zaN (z9 (i:=5) zbL.nd) (zaN (z9 (i:=6) zbL.nd) (zaN (z9 (i:=7) zbL.nd) zd7))))))
 (zu (zR (zM (zcO hr) (zj 1) (zj 2)) (zy (zL zaR)) zN)
 (zu (zG (i:=8) zbL.nd (zix (zA (zj 5) (zj 1)) (zeS zp) zgE))
 (zu (zG (i:=9) zbL.nd (zix (zA (zj 5) (zj 2)) (zeS zp) zgE))
 (zu (zR (zbY (zaV (zF xdw hr (zc (zj 4) (zc (zj 8) (zc (zj 9) zq)))))) (zy (zL zaR)) zN)
 (zu (zG (i:=10) zbL.nd (zV (zak (zX (zA (zj 8) zp) (zA (zj 9) zp)) (zX (zA (zj 8) zp) (zA (zj 9) zp))) (zak (zX (zA (zj 8) zp) (zA (zj 9) zp)) (zX (zA (zj 8) zp) (zA (zj 9) zp)))))
 (zu (zR (zaF (zbN (zM zdH (zj 7) zaJ) (zbm (zM zbe (zj 10) (zj 7))))) (zy (zL zaR)) zN)
 (zy (zL (zdA (zcO hr) (zai zap xq boot_len (zc (zb5 (own:=["fog"]) (free:=["one","other","hour"]) (fv:=[8,9,3]) ⟨rfl,rfl,rfl,True.intro⟩ ⟨rfl,rfl,rfl,rfl,rfl,rfl,rfl,rfl,rfl,True.intro⟩ (zav (zj 6)) ⟨(zag 0 (by decide)),fun _ _ _ _ _=>(zar (i:=0) (show List.Nodup (["fog","one","other","hour"]:List Str) by decide +kernel) rfl (Or.inl rfl) (Or.inr rfl))⟩ (fun _ _ _ _ _=>(zfB (zaV (zF xcq hr (zc (zj 0) (zc (zj 1) (zc (zj 2) (zc (zj 3) zq)))))))) (fun _ _ _ _ _=>(zj 0))) zq)) zp))))))))))
variable (xeh:Got P w K mg base 4 "_law_sees" ["vale","k","j","hour"] (upF K Dp.zdC))
theorem zcK:zQ ["vale","count","hours","table","k","j"] ["vale"] (zJ zhs):=zW
include xq xr xac xeh in
theorem znz (F:Fun K "_law_seen" "_law_seen" zhs f fd):zaa P w K mg base CX0 5 f fd ["vale"] (upF K Dp.zdw):=by
  refine zU (b:=Dp.zfy) F zcK Dp.zlR Dp.znD (fun cdv A outer s H E hr=>?_)
  unfold Dp.zfy
  exact (zu (zG (i:=1) zcK.nd (zai zap xq boot_len (zc (zA (zj 0) zp) zq)))
 (zu (zG (i:=2) zcK.nd (zsS rfl xac rfl xr (zc (zA (zj 0) zp) (zc (zV (zA (zj 0) zp) zp) zq))))
 (zu (zeR (i:=3) zcK.nd (own:=["k"]) (free:=["count"]) (fv:=[1]) ⟨rfl,True.intro⟩ ⟨rfl,rfl,rfl,True.intro⟩ (zba xr (zc (zj 1) zq)) ⟨(zag 0 (by decide)),fun _ _ _ _ _=>(zar (i:=0) (show List.Nodup (["k","count"]:List Str) by decide +kernel) rfl (Or.inl rfl) (Or.inr rfl))⟩ (fun _ _ _ _ _=>za3) (fun _ _ _ _ _=>(zb5 (own:=["j"]) (free:=[]) (fv:=[]) True.intro True.intro (zba xr (zc (zj 1) zq)) ⟨(zag 0 (by decide)),fun _ _ _ _ _=>(zar (i:=0) (show List.Nodup (["j"]:List Str) by decide +kernel) rfl (Or.inl rfl) (Or.inr rfl))⟩ (fun _ _ _ _ _=>za3) (fun _ _ _ _ _=>(zaD zq)))))
 (zu (zaq (zba xr (zc (zj 1) zq)) (z9 (i:=4) zcK.nd) (zy (zaq (zba xr (zc (zj 4) zq)) (z9 (i:=5) zcK.nd) (zu (zcF (zb5 (own:=["hour"]) (free:=["vale","k","j"]) (fv:=[0,4,5]) ⟨rfl,rfl,rfl,True.intro⟩ ⟨rfl,rfl,rfl,rfl,rfl,rfl,rfl,rfl,rfl,True.intro⟩ (zav (zj 2)) ⟨(zag 0 (by decide)),fun _ _ _ _ _=>(zar (i:=0) (show List.Nodup (["hour","vale","k","j"]:List Str) by decide +kernel) rfl (Or.inl rfl) (Or.inr rfl))⟩ (fun _ _ _ _ _=>(zfB (zaV (zF xeh hr (zc (zj 1) (zc (zj 2) (zc (zj 3) (zc (zj 0) zq)))))))) (fun _ _ _ _ _=>(zj 0))) (zdg (zA (zj 3) (zj 4)) (zj 5)))
 (zy (zcF (zA (zA (zj 3) (zj 4)) (zj 5)) (zdg (zA (zj 3) (zj 5)) (zj 4))))))))
 (zy (zL (zj 3)))))))
variable (xei:Got P w K mg base 5 "_law_seen" ["vale"] (upF K Dp.zdw))
theorem zby:zQ ["vale","table","start","hour","lit","turn","k","j","spied"] ["vale","table","start","hour"] (zJ zeM):=zW
include xq xr in
theorem zjO (F:Fun K "_law_earliest" "_law_earliest" zeM f fd):zaa P w K mg base CX0 1 f fd ["vale","table","start","hour"] (upF K Dp.zb0):=by
  refine zU (b:=Dp.zdj) F zby Dp.zjb Dp.zjU (fun cdv A outer s H E hr=>?_)
  unfold Dp.zdj
  exact (zu (zG (i:=4) zby.nd (zb5 (own:=["beacon"]) (free:=[]) (fv:=[]) True.intro True.intro (zav (zA (zj 0) zp)) ⟨(zag 0 (by decide)),fun _ _ _ _ _=>(zar (i:=0) (show List.Nodup (["beacon"]:List Str) by decide +kernel) rfl (Or.inl rfl) (Or.inr rfl))⟩ (fun _ _ _ _ _=>za3) (fun _ _ _ _ _=>zaJ)))
 (zu (zcF (zj 3) (zdg (zj 4) (zj 2)))
 (zu (zaq (zav (zA (zj 0) zp)) (z9 (i:=5) zby.nd) (zy (zaq (zba xr (zc (zai zap xq boot_len (zc (zj 4) zq)) zq)) (z9 (i:=6) zby.nd) (zy (zaq (zba xr (zc (zai zap xq boot_len (zc (zj 4) zq)) zq)) (z9 (i:=7) zby.nd) (zy (zR (zM zdH (zA (zj 4) (zj 6)) zaJ) (zu (zeR (i:=8) zby.nd (own:=["u"]) (free:=["lit","k"]) (fv:=[4,6]) ⟨rfl,rfl,True.intro⟩ ⟨rfl,rfl,rfl,rfl,rfl,rfl,True.intro⟩ (zav (zA (zA (zj 1) (zj 6)) (zj 7))) ⟨(zag 0 (by decide)),fun _ _ _ _ _=>(zar (i:=0) (show List.Nodup (["u","lit","k"]:List Str) by decide +kernel) rfl (Or.inl rfl) (Or.inr rfl))⟩ (fun _ _ _ _ _=>(zfB (zM zsr (zj 0) (zA (zj 1) (zj 2))))) (fun _ _ _ _ _=>(zj 0)))
 (zy (zR (zaF (zbN (zM zbe (zai zap xq boot_len (zc (zj 8) zq)) zp) (zbm (zaF (zb6 (zM zfZ (zA (zj 4) (zj 7)) zaJ) (zbM (zM zaW (zV (zA (zj 8) zp) (zA (zj 0) zp)) (zA (zj 4) (zj 7))))))))) (zy (zcF (zV (zA (zj 8) zp) (zA (zj 0) zp)) (zdg (zj 4) (zj 7)))) zN))) zN)))))))
 (zy (zL (zj 4))))))
variable (xbt:Got P w K mg base 1 "_law_earliest" ["vale","table","start","hour"] (upF K Dp.zb0))
theorem zm8:zQ ["valley"] ["valley"] (zJ zgR):=zW
theorem znm (F:Fun K "names_of" "names_of" zgR f fd):zaa P w K mg base CX0 1 f fd ["valley"] (upF K Dp.zcJ):=by
 refine zU (b:=Dp.zfm) F zm8 Dp.zmx Dp.zne (fun cdv A outer s H E hr=>?_)
 unfold Dp.zfm
 exact (zy (zL (zb5 (own:=["beacon"]) (free:=[]) (fv:=[]) True.intro True.intro (zav (zbx (zj 0) rfl)) ⟨(zag 0 (by decide)),fun _ _ _ _ _=>(zar (i:=0) (show List.Nodup (["beacon"]:List Str) by decide +kernel) rfl (Or.inl rfl) (Or.inr rfl))⟩ (fun _ _ _ _ _=>za3) (fun _ _ _ _ _=>(zA (zj 0) zp)))))
variable (xa8:Got P w K mg base 1 "names_of" ["valley"] (upF K Dp.zcJ))
variable (xau:∀ C,W.nsIn K mainGlobals "NoBeacon"=some (some (.ref C))->ExC K C)
variable (xav:∃ C,W.nsIn K mainGlobals "NoBeacon"=some (some (.ref C))/\mg "NoBeacon"=some (.ref C))
theorem zhC:zQ ["valley","name"] ["valley","name"] (zJ zcR):=zW
include xa8 xau xav in
theorem zhz (F:Fun K "refuse_no_beacon" "refuse_no_beacon" zcR f fd):zaa P w K mg base (CXd P w) 2 f fd ["valley","name"] (zc7 K Dp.zbi):=by
 refine zdV (b:=Dp.zb4) F zhC Dp.zhk Dp.zhw (fun cdv A outer s H E hr _ ex hX hM=>?_)
 unfold Dp.zb4
 exact (zy (zR (zsU (zrG hr) (zj 1) (zF xa8 hr (zc (zj 0) zq))) (zy (ze5 hM rfl xau xav rfl (zc zfb zq) (fun _ _ _ h=>h _))) zN))
variable (xar:zgW P w K mg base 2 "refuse_no_beacon" ["valley","name"] (zc7 K Dp.zbi))
variable (xea:∀ C,W.nsIn K mainGlobals "BadHour"=some (some (.ref C))->ExC K C)
variable (xef:∃ C,W.nsIn K mainGlobals "BadHour"=some (some (.ref C))/\mg "BadHour"=some (.ref C))
theorem ziQ:zQ ["valley","hour"] ["valley","hour"] (zJ zdZ):=zW
include xea xef in
theorem ziP (F:Fun K "refuse_no_hour" "refuse_no_hour" zdZ f fd):zaa P w K mg base (CXd P w) 1 f fd ["valley","hour"] (zc7 K Dp.zbD):=by
 refine zdV (b:=Dp.zcp) F ziQ Dp.zia Dp.ziK (fun cdv A outer s H E hr _ ex hX hM=>?_)
 unfold Dp.zcp
 exact (zy (zR (zaF (zb6 (zM zaW (zj 1) (zbx (zj 0) rfl)) (zbM (zM zbe (zj 1) (zbx (zj 0) rfl))))) (zy (ze5 hM rfl xea xef rfl (zc zfb zq) (fun _ _ _ h=>h _))) zN))
variable (xbf:zgW P w K mg base 1 "refuse_no_hour" ["valley","hour"] (zc7 K Dp.zbD))
theorem zjI:zQ ["valley","name","beacon"] ["valley","name"] (zJ zhL):=zW
include xau xav in
theorem zoU (F:Fun K "spot_of" "spot_of" zhL f fd):zaa P w K mg base (CXd P w) 1 f fd ["valley","name"] (zc7 K Dp.zdl):=by
  refine zdV (b:=Dp.zf6) F zjI Dp.znB Dp.zoP (fun cdv A outer s H E hr _ ex hX hM=>?_)
  unfold Dp.zf6
  exact (zu (zaq (zav (zbx (zj 0) rfl)) (z9 (i:=2) zjI.nd) (zy (zR (zM (zcO hr) (zA (zj 2) zp) (zj 1)) (zy (zL (zac (zc (zA (zj 2) zp) (zc (zA (zj 2) zp) zq))))) zN)))
 (zy (ze5 hM rfl xau xav rfl (zc zfb zq) (fun _ _ _ h=>h _))))
variable (xd3:zgW P w K mg base 1 "spot_of" ["valley","name"] (zc7 K Dp.zdl))
theorem zgh:zQ ["ground","spot"] ["ground","spot"] (zJ zch):=zW
include xam xal xce in
theorem zgk (F:Fun K "refuse_not_standing" "refuse_not_standing" zch f fd):zaa P w K mg base (CXd P w) 6 f fd ["ground","spot"] (zc7 K Dp.zaL):=by
 refine zdV (b:=Dp.zbz) F zgh Dp.zfY Dp.zgo (fun cdv A outer s H E hr _ ex hX hM=>?_)
 unfold Dp.zbz
 exact (zy (zR (zbY (zaV (zF xce hr (zc (zj 0) (zc (zj 1) zq))))) (zy (ze5 hM rfl xam xal rfl (zc zfb zq) (fun _ _ _ h=>h _))) zN))
variable (xae:zgW P w K mg base 6 "refuse_not_standing" ["ground","spot"] (zc7 K Dp.zaL))
variable (xa9:mg "min"=none)
variable (xaf:mg "max"=none)
variable (xdt:mg "enumerate"=none)
theorem zc1:zQ ["ground","x","other_x","low","high"] ["ground","x","other_x"] (zJ zdm):=zW
include xa9 xaf xdt in
theorem zhM (F:Fun K "numbers_between" "numbers_between" zdm f fd):zaa P w K mg base CX0 1 f fd ["ground","x","other_x"] (upF K Dp.zbw):=by
  refine zU (b:=Dp.zcf) F zc1 Dp.zhA Dp.zhZ (fun cdv A outer s H E hr=>?_)
  unfold Dp.zcf
  exact (zu (zG (i:=3) zc1.nd (zai zgF xa9 boot_min (zc (zj 1) (zc (zj 2) zq))))
 (zu (zG (i:=4) zc1.nd (zai zeK xaf boot_max (zc (zj 1) (zc (zj 2) zq))))
 (zy (zL (zb5 (own:=["k","corner"]) (free:=["low","high"]) (fv:=[3,4]) ⟨rfl,rfl,True.intro⟩ ⟨rfl,rfl,rfl,rfl,rfl,rfl,True.intro⟩ (zmc rfl xdt (zc (zbx (zj 0) rfl) zq)) ⟨(zi8 (zcr (zag 0 (by decide)) (zcr (zag 1 (by decide)) zhS))),fun _ _ _ _ _=>(zj4 (n:=2) rfl (zc5 (zar (i:=0) (show List.Nodup (["k","corner","low","high"]:List Str) by decide +kernel) rfl (Or.inl rfl) (Or.inr rfl)) (zc5 (zar (i:=1) (show List.Nodup (["k","corner","low","high"]:List Str) by decide +kernel) rfl (Or.inl rfl) (Or.inr rfl)) ziy)))⟩ (fun _ _ _ _ _=>(zfB (zpr zaW zaW (zj 2) (zA (zj 1) zp) (zj 3)))) (fun _ _ _ _ _=>(zj 0)))))))
variable (xa4:Got P w K mg base 1 "numbers_between" ["ground","x","other_x"] (upF K Dp.zbw))
theorem zeh:zQ ["one","other","spot","run","rise","over"] ["one","other","spot"] (zJ zh5):=zW
theorem zog (F:Fun K "side_of" "side_of" zh5 f fd):zaa P w K mg base CX0 1 f fd ["one","other","spot"] (upF K Dp.zeB):=by
  refine zU (b:=Dp.zgb) F zeh Dp.zm6 Dp.zox (fun cdv A outer s H E hr=>?_)
  unfold Dp.zgb
  exact (zu (zG (i:=3) zeh.nd (zX (zA (zj 1) zp) (zA (zj 0) zp)))
 (zu (zG (i:=4) zeh.nd (zX (zA (zj 1) zp) (zA (zj 0) zp)))
 (zu (zG (i:=5) zeh.nd (zX (zak (zX (zA (zj 2) zp) (zA (zj 0) zp)) (zj 3)) (zak (zX (zA (zj 2) zp) (zA (zj 0) zp)) (zj 4))))
 (zu (zdI (zR (zM zaW (zj 3) zp) (zy (zG (i:=5) zeh.nd (zbj (zj 5)))) zN))
 (zu (zR (zM zbe (zj 5) zp) (zy (zL zp)) zN)
 (zu (zR (zM zaW (zj 5) zp) (zy (zL (zbj zp))) zN)
 (zy (zL zp))))))))
variable (xey:Got P w K mg base 1 "side_of" ["one","other","spot"] (upF K Dp.zeB))
theorem zk5:zQ ["ground","one","other","k"] ["ground","one","other"] (zJ zi1):=zW
include xae xa4 xey in
theorem zpq (F:Fun K "hinder" "hinder" zi1 f fd):zaa P w K mg base (CXd P w) 7 f fd ["ground","one","other"] (zc7 K Dp.ze6):=by
  refine zdV (b:=Dp.zhc) F zk5 Dp.zof Dp.zp3 (fun cdv A outer s H E hr _ ex hX hM=>?_)
  unfold Dp.zhc
  exact (zu (zaG (zct xae hX hr (zc (zj 0) (zc (zj 1) zq))))
 (zu (zaG (zct xae hX hr (zc (zj 0) (zc (zj 2) zq))))
 (zu (zaq (zav (zF xa4 hr (zc (zj 0) (zc (zA (zj 1) zp) (zc (zA (zj 2) zp) zq))))) (z9 (i:=3) zk5.nd) (zy (zR (zM zbe (zF xey hr (zc (zj 1) (zc (zj 2) (zc (zA (zbx (zj 0) rfl) (zj 3)) zq)))) zp) (zy (zL (zj 3))) zN)))
 (zy (zL zaJ)))))
variable (xfq:zgW P w K mg base 7 "hinder" ["ground","one","other"] (zc7 K Dp.ze6))
theorem zdn:zQ ["one","other","run","climb"] ["one","other"] (zJ zdT):=zW
theorem ziO (F:Fun K "square_between" "square_between" zdT f fd):zaa P w K mg base CX0 1 f fd ["one","other"] (upF K Dp.zbE):=by
  refine zU (b:=Dp.zcq) F zdn Dp.zhV Dp.ziM (fun cdv A outer s H E hr=>?_)
  unfold Dp.zcq
  exact (zu (zG (i:=2) zdn.nd (zX (zA (zj 1) zp) (zA (zj 0) zp)))
 (zu (zG (i:=3) zdn.nd (zX (zA (zj 1) zp) (zA (zj 0) zp)))
 (zy (zL (zV (zak (zj 2) (zj 2)) (zak (zj 3) (zj 3)))))))
variable (xbc:Got P w K mg base 1 "square_between" ["one","other"] (upF K Dp.zbE))
theorem zd1:zQ ["valley","one","other","corner","square"] ["valley","one","other"] (zJ zek):=zW
include xfq xbc in
theorem zi6 (F:Fun K "hidden_always" "hidden_always" zek f fd):zaa P w K mg base CX0 8 f fd ["valley","one","other"] (upF K Dp.zbR):=by
  refine zU (b:=Dp.zcN) F zd1 Dp.ziL Dp.zjk (fun cdv A outer s H E hr=>?_)
  unfold Dp.zcN
  exact (zu (zG (i:=3) zd1.nd (zct xfq zjF hr (zc (zbx (zj 0) rfl) (zc (zj 1) (zc (zj 2) zq)))))
 (zu (zR (zM zdH (zj 3) zaJ) (zy (zL (zac (zc zfb (zc (zj 3) zq))))) zN)
 (zu (zG (i:=4) zd1.nd (zF xbc hr (zc (zj 1) (zc (zj 2) zq))))
 (zu (zR (zaF (zbN (zM zdH (zbx (zj 0) rfl) zaJ) (zbm (zM zbe (zj 4) (zbx (zj 0) rfl))))) (zy (zL (zac (zc zfb (zc (zj 4) zq))))) zN)
 (zy (zL zaJ))))))
variable (xbo:Got P w K mg base 8 "hidden_always" ["valley","one","other"] (upF K Dp.zbR))
variable (xgl:∃ t,mg "DRIFT"=some (.int 6 t))
variable (xg5:∃ t,mg "RISE"=some (.int 7 t))
theorem zjl:zQ ["fog","hours","along","upwards"] ["fog","hours"] (zJ zkE):=zW
include xbi xan xcd xbh xgl xg5 in
theorem zrn (F:Fun K "moved" "moved" zkE f fd):zaa P w K mg base CX0 1 f fd ["fog","hours"] (upF K Dp.zeT):=by
  refine zU (b:=Dp.ziG) F zjl Dp.zqI Dp.zru (fun cdv A outer s H E hr=>?_)
  unfold Dp.ziG
  exact (zu (zG (i:=2) zjl.nd (zak (zA (zj 0) (zal rfl xgl)) (zj 1)))
 (zu (zG (i:=3) zjl.nd (zak (zA (zj 0) (zal rfl xg5)) (zj 1)))
 (zy (zL (zac (zc (zV (zA (zj 0) (zal rfl xbi)) (zj 2)) (zc (zV (zA (zj 0) (zal rfl xan)) (zj 2)) (zc (zV (zA (zj 0) (zal rfl xcd)) (zj 3)) (zc (zV (zA (zj 0) (zal rfl xbh)) (zj 3)) zq)))))))))
variable (xfj:Got P w K mg base 1 "moved" ["fog","hours"] (upF K Dp.zeT))
theorem zew:zQ ["box","one","other","run","climb","corners","across"] ["box","one","other"] (zJ zhH):=zW
include xbi xan xcd xbh xa9 xaf in
theorem zoi (F:Fun K "margins" "margins" zhH f fd):zaa P w K mg base CX0 1 f fd ["box","one","other"] (upF K Dp.zde):=by
  refine zU (b:=Dp.zgf) F zew Dp.zni Dp.zo5 (fun cdv A outer s H E hr=>?_)
  unfold Dp.zgf
  exact (zu (zG (i:=3) zew.nd (zX (zA (zj 2) zp) (zA (zj 1) zp)))
 (zu (zG (i:=4) zew.nd (zX (zA (zj 2) zp) (zA (zj 1) zp)))
 (zu (zG (i:=5) zew.nd (zaD (zc (zac (zc (zA (zj 0) (zal rfl xbi)) (zc (zA (zj 0) (zal rfl xcd)) zq))) (zc (zac (zc (zA (zj 0) (zal rfl xbi)) (zc (zA (zj 0) (zal rfl xbh)) zq))) (zc (zac (zc (zA (zj 0) (zal rfl xan)) (zc (zA (zj 0) (zal rfl xcd)) zq))) (zc (zac (zc (zA (zj 0) (zal rfl xan)) (zc (zA (zj 0) (zal rfl xbh)) zq))) zq))))))
 (zu (zeR (i:=6) zew.nd (own:=["x","z"]) (free:=["run","one","climb"]) (fv:=[3,1,4]) ⟨rfl,rfl,rfl,True.intro⟩ ⟨rfl,rfl,rfl,rfl,rfl,rfl,rfl,rfl,rfl,True.intro⟩ (zav (zj 5)) ⟨(zi8 (zcr (zag 0 (by decide)) (zcr (zag 1 (by decide)) zhS))),fun _ _ _ _ _=>(zj4 (n:=2) rfl (zc5 (zar (i:=0) (show List.Nodup (["x","z","run","one","climb"]:List Str) by decide +kernel) rfl (Or.inl rfl) (Or.inr rfl)) (zc5 (zar (i:=1) (show List.Nodup (["x","z","run","one","climb"]:List Str) by decide +kernel) rfl (Or.inl rfl) (Or.inr rfl)) ziy)))⟩ (fun _ _ _ _ _=>za3) (fun _ _ _ _ _=>(zX (zak (zj 2) (zX (zj 1) (zA (zj 3) zp))) (zak (zj 4) (zX (zj 0) (zA (zj 3) zp))))))
 (zy (zL (zaD (zc (zX (zai zeK xaf boot_max (zc (zA (zj 1) zp) (zc (zA (zj 2) zp) zq))) (zA (zj 0) (zal rfl xbi))) (zc (zX (zA (zj 0) (zal rfl xan)) (zai zgF xa9 boot_min (zc (zA (zj 1) zp) (zc (zA (zj 2) zp) zq)))) (zc (zX (zai zeK xaf boot_max (zc (zA (zj 1) zp) (zc (zA (zj 2) zp) zq))) (zA (zj 0) (zal rfl xcd))) (zc (zX (zA (zj 0) (zal rfl xbh)) (zai zgF xa9 boot_min (zc (zA (zj 1) zp) (zc (zA (zj 2) zp) zq)))) (zc (zai zsM xaf boot_max (zc (zj 6) zq)) (zc (zbj (zai ztI xa9 boot_min (zc (zj 6) zq))) zq)))))))))))))
variable (xd1:Got P w K mg base 1 "margins" ["box","one","other"] (upF K Dp.zde))
variable (xfu:mg "sorted"=none)
theorem ziv:zQ ["pairs","found","low","high"] ["pairs"] (zJ zmy):=zW
include xq xcw xaf xfu in
theorem ztk (F:Fun K "tidy" "tidy" zmy f fd):zaa P w K mg base CX0 1 f fd ["pairs"] (upF K Dp.zeb):=by
  refine zU (b:=Dp.zjS) F ziv Dp.zrN Dp.ztB (fun cdv A outer s H E hr=>?_)
  unfold Dp.zjS
  exact (zu (zG (i:=1) ziv.nd (zaD zq))
 (zu (zaq (zav (zai zsG xfu boot_sorted (zc (zb5 (own:=["pair"]) (free:=[]) (fv:=[]) True.intro True.intro (zav (zj 0)) ⟨(zag 0 (by decide)),fun _ _ _ _ _=>(zar (i:=0) (show List.Nodup (["pair"]:List Str) by decide +kernel) rfl (Or.inl rfl) (Or.inr rfl))⟩ (fun _ _ _ _ _=>(zfB (zM ze1 (zA (zj 0) zp) (zA (zj 0) zp)))) (fun _ _ _ _ _=>(zac (zc (zA (zj 0) zp) (zc (zA (zj 0) zp) zq))))) zq))) (zd9 (n:=2) rfl (zaN (z9 (i:=2) ziv.nd) (zaN (z9 (i:=3) ziv.nd) zd7))) (zy (zR (zaF (zbN (zM zbe (zai zap xq boot_len (zc (zj 1) zq)) zp) (zbm (zM ze1 (zj 2) (zV (zA (zA (zj 1) (zbj zp)) zp) zp))))) (zy (zcF (zac (zc (zA (zA (zj 1) (zbj zp)) zp) (zc (zai zeK xaf boot_max (zc (zA (zA (zj 1) (zbj zp)) zp) (zc (zj 3) zq))) zq))) (zdg (zj 1) (zbj zp)))) (zy (zaG (zgl PySem.F.slot_list_append PySem.F.type_list_append zcn (zj 1) (zc (zac (zc (zj 2) (zc (zj 3) zq))) zq)))))))
 (zy (zL (zeC zrw xcw boot_tuple (zc (zj 1) zq))))))
variable (xa7:Got P w K mg base 1 "tidy" ["pairs"] (upF K Dp.zeb))
variable (xfb:mg "zip"=none)
theorem zb9:zQ ["fog","one","other","low","high","starts","afters","start","after","step"] ["fog","one","other"] (zJ zkO):=zW
include xbx xew xa9 xaf xfj xd1 xa7 xfb in
theorem zq5 (F:Fun K "foggy" "foggy" zkO f fd):zaa P w K mg base CX0 2 f fd ["fog","one","other"] (upF K Dp.zfU):=by
  refine zU (b:=Dp.zin) F zb9 Dp.zp0 Dp.zr2 (fun cdv A outer s H E hr=>?_)
  unfold Dp.zin
  exact (zu (zG (i:=3) zb9.nd zp)
 (zu (zG (i:=4) zb9.nd (zX (zA (zj 0) (zal rfl xew)) (zA (zj 0) (zal rfl xbx))))
 (zu (zG (i:=5) zb9.nd (zF xd1 hr (zc (zF xfj hr (zc (zj 0) (zc zp zq))) (zc (zj 1) (zc (zj 2) zq)))))
 (zu (zG (i:=6) zb9.nd (zF xd1 hr (zc (zF xfj hr (zc (zj 0) (zc zp zq))) (zc (zj 1) (zc (zj 2) zq)))))
 (zu (zaq (zlQ rfl xfb (zc (zj 5) (zc (zj 6) zq))) (zd9 (n:=2) rfl (zaN (z9 (i:=7) zb9.nd) (zaN (z9 (i:=8) zb9.nd) zd7))) (zu (zG (i:=9) zb9.nd (zX (zj 8) (zj 7)))
 (zy (zR (zM zbe (zj 9) zp) (zy (zG (i:=3) zb9.nd (zai zeK xaf boot_max (zc (zj 3) (zc (zbj (zdD (zj 7) (zj 9))) zq))))) (zy (zR (zM zaW (zj 9) zp) (zy (zG (i:=4) zb9.nd (zai zgF xa9 boot_min (zc (zj 4) (zc (zdD (zj 7) (zbj (zj 9))) zq))))) (zy (zR (zM zaW (zj 7) zp) (zy (zL (zac zq))) zN))))))))
 (zy (zL (zF xa7 hr (zc (zaD (zc (zac (zc (zV (zA (zj 0) (zal rfl xbx)) (zj 3)) (zc (zV (zA (zj 0) (zal rfl xbx)) (zj 4)) zq))) zq)) zq)))))))))
variable (xgf:Got P w K mg base 2 "foggy" ["fog","one","other"] (upF K Dp.zfU))
theorem zfV:zQ ["fogs","one","other","found","fog"] ["fogs","one","other"] (zJ zgu):=zW
include xa7 xgf in
theorem zmI (F:Fun K "foggy_all" "foggy_all" zgu f fd):zaa P w K mg base CX0 3 f fd ["fogs","one","other"] (upF K Dp.zc3):=by
  refine zU (b:=Dp.zeU) F zfV Dp.zls Dp.zmn (fun cdv A outer s H E hr=>?_)
  unfold Dp.zeU
  exact (zu (zG (i:=3) zfV.nd (zaD zq))
 (zu (zaq (zav (zj 0)) (z9 (i:=4) zfV.nd) (zy (zaG (zgl PySem.F.slot_list_extend PySem.F.type_list_extend zoI (zj 3) (zc (zF xgf hr (zc (zj 4) (zc (zj 1) (zc (zj 2) zq)))) zq)))))
 (zy (zL (zF xa7 hr (zc (zj 3) zq))))))
variable (xdy:Got P w K mg base 3 "foggy_all" ["fogs","one","other"] (upF K Dp.zc3))
theorem zgy:zQ ["spans","low","high","found","start","span"] ["spans","low","high"] (zJ zm4):=zW
include xa7 in
theorem ztN (F:Fun K "gaps" "gaps" zm4 f fd):zaa P w K mg base CX0 2 f fd ["spans","low","high"] (upF K Dp.zgB):=by
  refine zU (b:=Dp.zj2) F zgy Dp.zrX Dp.ztS (fun cdv A outer s H E hr=>?_)
  unfold Dp.zj2
  exact (zu (zG (i:=3) zgy.nd (zaD zq))
 (zu (zG (i:=4) zgy.nd (zj 1))
 (zu (zaq (zav (zj 0)) (z9 (i:=5) zgy.nd) (zu (zaG (zgl PySem.F.slot_list_append PySem.F.type_list_append zcn (zj 3) (zc (zac (zc (zj 4) (zc (zX (zA (zj 5) zp) zp) zq))) zq)))
 (zy (zG (i:=4) zgy.nd (zV (zA (zj 5) zp) zp)))))
 (zu (zaG (zgl PySem.F.slot_list_append PySem.F.type_list_append zcn (zj 3) (zc (zac (zc (zj 4) (zc (zj 2) zq))) zq)))
 (zy (zL (zF xa7 hr (zc (zj 3) zq))))))))
variable (xg3:Got P w K mg base 2 "gaps" ["spans","low","high"] (upF K Dp.zgB))
theorem zfC:zQ ["one","other","found","low","high","other_low","other_high"] ["one","other"] (zJ zmr):=zW
include xa9 xaf xa7 in
theorem zsW (F:Fun K "both" "both" zmr f fd):zaa P w K mg base CX0 2 f fd ["one","other"] (upF K Dp.zgG):=by
  refine zU (b:=Dp.zjQ) F zfC Dp.zrF Dp.zs7 (fun cdv A outer s H E hr=>?_)
  unfold Dp.zjQ
  exact (zu (zG (i:=2) zfC.nd (zaD zq))
 (zu (zaq (zav (zj 0)) (zd9 (n:=2) rfl (zaN (z9 (i:=3) zfC.nd) (zaN (z9 (i:=4) zfC.nd) zd7))) (zy (zaq (zav (zj 1)) (zd9 (n:=2) rfl (zaN (z9 (i:=5) zfC.nd) (zaN (z9 (i:=6) zfC.nd) zd7))) (zy (zaG (zgl PySem.F.slot_list_append PySem.F.type_list_append zcn (zj 2) (zc (zac (zc (zai zeK xaf boot_max (zc (zj 3) (zc (zj 5) zq))) (zc (zai zgF xa9 boot_min (zc (zj 4) (zc (zj 6) zq))) zq))) zq)))))))
 (zy (zL (zF xa7 hr (zc (zj 2) zq))))))
variable (xg8:Got P w K mg base 2 "both" ["one","other"] (upF K Dp.zgG))
theorem zoh:zQ ["one","other"] ["one","other"] (zJ zif):=zW
include xq xg3 xg8 in
theorem zpg (F:Fun K "without" "without" zif f fd):zaa P w K mg base CX0 3 f fd ["one","other"] (upF K Dp.zej):=by
  refine zU (b:=Dp.zf0) F zoh Dp.znx Dp.zpm (fun cdv A outer s H E hr=>?_)
  unfold Dp.zf0
  exact (zu (zR (zM (zcO hr) (zai zap xq boot_len (zc (zj 0) zq)) zp) (zy (zL (zac zq))) zN)
 (zy (zL (zF xg8 hr (zc (zj 0) (zc (zF xg3 hr (zc (zj 1) (zc (zA (zA (zj 0) zp) zp) (zc (zA (zA (zj 0) (zbj zp)) zp) zq)))) zq))))))
variable (xfa:Got P w K mg base 3 "without" ["one","other"] (upF K Dp.zej))
theorem zhp:zQ ["valley","name","other","one_top","other_top","hours"] ["valley","name","other"] (zJ zkM):=zW
include xd3 xbo xdy xfa in
theorem zrl (F:Fun K "sight" "sight" zkM f fd):zaa P w K mg base (CXd P w) 9 f fd ["valley","name","other"] (zc7 K Dp.zfX):=by
  refine zdV (b:=Dp.ziD) F zhp Dp.zqJ Dp.zrb (fun cdv A outer s H E hr _ ex hX hM=>?_)
  unfold Dp.ziD
  exact (zu (zG (i:=3) zhp.nd (zct xd3 hX hr (zc (zj 0) (zc (zj 1) zq))))
 (zu (zG (i:=4) zhp.nd (zct xd3 hX hr (zc (zj 0) (zc (zj 2) zq))))
 (zu (zG (i:=5) zhp.nd (zac (zc (zac (zc (zbx (zj 0) rfl) (zc (zbx (zj 0) rfl) zq))) zq)))
 (zu (zR (zM (zcO hr) (zj 1) (zj 2)) (zy (zL (zj 5))) zN)
 (zu (zR (zM zdH (zF xbo hr (zc (zj 0) (zc (zj 3) (zc (zj 4) zq)))) zaJ) (zy (zL (zac zq))) zN)
 (zy (zL (zF xfa hr (zc (zj 5) (zc (zF xdy hr (zc (zbx (zj 0) rfl) (zc (zj 3) (zc (zj 4) zq)))) zq))))))))))
variable (xgj:zgW P w K mg base 9 "sight" ["valley","name","other"] (zc7 K Dp.zfX))
theorem zfi:zQ ["spans","hour","low","high"] ["spans","hour"] (zJ zfT):=zW
include xaf in
theorem zlw (F:Fun K "first_from" "first_from" zfT f fd):zaa P w K mg base CX0 1 f fd ["spans","hour"] (upF K Dp.zcD):=by
  refine zU (b:=Dp.zey) F zfi Dp.zkH Dp.zlo (fun cdv A outer s H E hr=>?_)
  unfold Dp.zey
  exact (zu (zaq (zav (zj 0)) (zd9 (n:=2) rfl (zaN (z9 (i:=2) zfi.nd) (zaN (z9 (i:=3) zfi.nd) zd7))) (zy (zR (zM ze1 (zj 1) (zj 3)) (zy (zL (zai zeK xaf boot_max (zc (zj 2) (zc (zj 1) zq))))) zN)))
 (zy (zL zaJ)))
variable (xch:Got P w K mg base 1 "first_from" ["spans","hour"] (upF K Dp.zcD))
theorem zgH:zQ ["valley","name","bound","other","other_bound","seen"] ["valley","name","bound","other","other_bound"] (zJ zfg):=zW
include xgj xch in
theorem zky (F:Fun K "bound_holds" "bound_holds" zfg f fd):zaa P w K mg base CX0 10 f fd ["valley","name","bound","other","other_bound"] (upF K Dp.zci):=by
  refine zU (b:=Dp.zdM) F zgH Dp.zjK Dp.zkP (fun cdv A outer s H E hr=>?_)
  unfold Dp.zdM
  exact (zu (zR (zM zfZ (zj 2) zaJ) (zy (zL zaR)) zN)
 (zu (zG (i:=5) zgH.nd (zF xch hr (zc (zct xgj zjF hr (zc (zj 0) (zc (zj 1) (zc (zj 3) zq)))) (zc (zj 2) zq))))
 (zu (zR (zM zfZ (zj 5) zaJ) (zy (zL zaR)) zN)
 (zy (zL (zgz (zdA zdH (zj 4) zaJ) (zig (zdA ze1 (zj 4) (zV (zj 5) (zbx (zj 0) rfl))))))))))
variable (xb7:Got P w K mg base 10 "bound_holds" ["valley","name","bound","other","other_bound"] (upF K Dp.zci))
theorem zbl:zQ ["valley","name","hour","bounds","names","own","one","bound","other","other_bound"] ["valley","name","hour","bounds"] (zJ zfe):=zW
include xq xa8 xar xbf xfb xb7 in
theorem zkw (F:Fun K "bounds_hold" "bounds_hold" zfe f fd):zaa P w K mg base CX0 11 f fd ["valley","name","hour","bounds"] (upF K Dp.zbP):=by
  refine zU (b:=Dp.zdP) F zbl Dp.zjx Dp.zkV (fun cdv A outer s H E hr=>?_)
  unfold Dp.zdP
  exact (zu (zaG (zct xar zjF hr (zc (zj 0) (zc (zj 1) zq))))
 (zu (zaG (zct xbf zjF hr (zc (zj 0) (zc (zj 2) zq))))
 (zu (zG (i:=4) zbl.nd (zF xa8 hr (zc (zj 0) zq)))
 (zu (zR (zM (zgT hr) (zai zap xq boot_len (zc (zj 3) zq)) (zai zap xq boot_len (zc (zj 4) zq))) (zy (zL zaR)) zN)
 (zu (zG (i:=5) zbl.nd (zA (zj 3) (zgl PySem.F.slot_list_index PySem.F.type_list_index (zr7 hr) (zj 4) (zc (zj 1) zq))))
 (zu (zR (zaF (zb6 (zM zfZ (zj 5) zaJ) (zbM (zM zbe (zj 5) (zj 2))))) (zy (zL zaR)) zN)
 (zu (zaq (zlQ rfl xfb (zc (zj 4) (zc (zj 3) zq))) (zd9 (n:=2) rfl (zaN (z9 (i:=6) zbl.nd) (zaN (z9 (i:=7) zbl.nd) zd7))) (zy (zaq (zlQ rfl xfb (zc (zj 4) (zc (zj 3) zq))) (zd9 (n:=2) rfl (zaN (z9 (i:=8) zbl.nd) (zaN (z9 (i:=9) zbl.nd) zd7))) (zy (zR (zbY (zaV (zF xb7 hr (zc (zj 0) (zc (zj 6) (zc (zj 7) (zc (zj 8) (zc (zj 9) zq)))))))) (zy (zL zaR)) zN)))))
 (zy (zL zaR)))))))))
variable (xbj:Got P w K mg base 11 "bounds_hold" ["valley","name","hour","bounds"] (upF K Dp.zbP))
theorem zcH:zQ ["due","cell","first","bounds","at","kind"] ["due","cell","first"] (zJ zhm):=zW
include xq xg xr xac in
theorem znC (F:Fun K "_law_bent" "_law_bent" zhm f fd):zaa P w K mg base CX0 2 f fd ["due","cell","first"] (upF K Dp.zdx):=by
  refine zU (b:=Dp.zfp) F zcH Dp.zmD Dp.zns (fun cdv A outer s H E hr=>?_)
  unfold Dp.zfp
  exact (zu (zG (i:=3) zcH.nd (zeC zdb xac boot_list (zc (zj 0) zq)))
 (zu (zG (i:=4) zcH.nd (zF xg hr (zc (zj 1) (zc zp (zc (zai zap xq boot_len (zc (zj 0) zq)) zq)))))
 (zu (zG (i:=5) zcH.nd (zF xg hr (zc (zj 1) (zc zp (zc zp zq)))))
 (zu (zR (zM (zcO hr) (zj 5) zp) (zy (zL (zj 3))) zN)
 (zu (zdI (zR (zM zaW (zj 5) zp) (zy (zR (zM zfZ (zA (zj 3) (zj 4)) zaJ) (zy (zcF (zV (zj 2) (zF xg hr (zc (zj 1) (zc zp (zc zp zq))))) (zdg (zj 3) (zj 4)))) (zy (zcF (zV (zA (zj 3) (zj 4)) (zA (zaD (zc (zbj zp) (zc (zbj (zF xg hr (zc (zj 1) (zc zp (zc zp zq))))) (zc zp zq)))) (zX (zj 5) zp))) (zdg (zj 3) (zj 4)))))) zN))
 (zu (zdI (zR (zM (zcO hr) (zj 5) zp) (zy (zcF zaJ (zdg (zj 3) (zj 4)))) zN))
 (zu (zdI (zR (zM (zcO hr) (zj 5) zp) (zy (zG (i:=3) zcH.nd (zA (zaD (zc (zA (zaD (zc (zix (zj 3) zgE (zeS (zbj zp))) (zc (zV (zj 3) (zaD (zc zaJ zq))) zq))) (zF xg hr (zc (zj 1) (zc zp (zc zp zq))))) (zc (zV (zj 3) (zaD (zc (zj 2) zq))) zq))) (zF xg hr (zc (zj 1) (zc zp (zc zp zq))))))) zN))
 (zu (zdI (zR (zM (zcO hr) (zj 5) zp) (zy (zeR (i:=3) zcH.nd (own:=["k"]) (free:=["first","cell"]) (fv:=[2,1]) ⟨rfl,rfl,True.intro⟩ ⟨rfl,rfl,rfl,rfl,rfl,rfl,True.intro⟩ (zba xr (zc (zai zap xq boot_len (zc (zj 0) zq)) zq)) ⟨(zag 0 (by decide)),fun _ _ _ _ _=>(zar (i:=0) (show List.Nodup (["k","first","cell"]:List Str) by decide +kernel) rfl (Or.inl rfl) (Or.inr rfl))⟩ (fun _ _ _ _ _=>za3) (fun _ _ _ _ _=>(zX (zV (zj 1) (zF xg hr (zc (zj 2) (zc (zV zp (zj 0)) (zc zp zq))))) zp)))) zN))
 (zy (zL (zj 3)))))))))))
variable (xeb:Got P w K mg base 2 "_law_bent" ["due","cell","first"] (upF K Dp.zdx))
theorem zdq:zQ ["vale","table","start","hour","bounds","count","k","j","spied"] ["vale","table","start","hour","bounds"] (zJ zg9):=zW
include xq xr in
theorem zny (F:Fun K "_law_hold" "_law_hold" zg9 f fd):zaa P w K mg base CX0 1 f fd ["vale","table","start","hour","bounds"] (upF K Dp.zdB):=by
  refine zU (b:=Dp.zfz) F zdq Dp.zmm Dp.znv (fun cdv A outer s H E hr=>?_)
  unfold Dp.zfz
  exact (zu (zG (i:=5) zdq.nd (zai zap xq boot_len (zc (zA (zj 0) zp) zq)))
 (zu (zR (zaF (zb6 (zM (zgT hr) (zai zap xq boot_len (zc (zj 4) zq)) (zj 5)) (zb6 (zM zfZ (zA (zj 4) (zj 2)) zaJ) (zbM (zM zbe (zA (zj 4) (zj 2)) (zj 3)))))) (zy (zL zaR)) zN)
 (zu (zaq (zba xr (zc (zj 5) zq)) (z9 (i:=6) zdq.nd) (zy (zaq (zba xr (zc (zj 5) zq)) (z9 (i:=7) zdq.nd) (zy (zR (zaF (zbN (zM (zgT hr) (zj 6) (zj 7)) (zbm (zM zdH (zA (zj 4) (zj 6)) zaJ)))) (zu (zeR (i:=8) zdq.nd (own:=["u"]) (free:=["bounds","k"]) (fv:=[4,6]) ⟨rfl,rfl,True.intro⟩ ⟨rfl,rfl,rfl,rfl,rfl,rfl,True.intro⟩ (zav (zA (zA (zj 1) (zj 6)) (zj 7))) ⟨(zag 0 (by decide)),fun _ _ _ _ _=>(zar (i:=0) (show List.Nodup (["u","bounds","k"]:List Str) by decide +kernel) rfl (Or.inl rfl) (Or.inr rfl))⟩ (fun _ _ _ _ _=>(zfB (zM zsr (zj 0) (zA (zj 1) (zj 2))))) (fun _ _ _ _ _=>(zj 0)))
 (zy (zR (zaF (zbN (zM zbe (zai zap xq boot_len (zc (zj 8) zq)) zp) (zbm (zaF (zb6 (zM zfZ (zA (zj 4) (zj 7)) zaJ) (zbM (zM zbe (zA (zj 4) (zj 7)) (zV (zA (zj 8) zp) (zA (zj 0) zp))))))))) (zy (zL zaR)) zN))) zN)))))
 (zy (zL zaR)))))
variable (xes:Got P w K mg base 1 "_law_hold" ["vale","table","start","hour","bounds"] (upF K Dp.zdB))
theorem zgd:zQ ["bounds","due","k"] ["bounds","due"] (zJ zeL):=zW
include xq xr in
theorem zjB (F:Fun K "_law_no_later" "_law_no_later" zeL f fd):zaa P w K mg base CX0 1 f fd ["bounds","due"] (upF K Dp.zb3):=by
  refine zU (b:=Dp.zdf) F zgd Dp.zja Dp.zjZ (fun cdv A outer s H E hr=>?_)
  unfold Dp.zdf
  exact (zu (zaq (zba xr (zc (zai zap xq boot_len (zc (zj 1) zq)) zq)) (z9 (i:=2) zgd.nd) (zy (zR (zaF (zbN (zM zdH (zA (zj 1) (zj 2)) zaJ) (zbm (zaF (zb6 (zM zfZ (zA (zj 0) (zj 2)) zaJ) (zbM (zM zbe (zA (zj 0) (zj 2)) (zA (zj 1) (zj 2))))))))) (zy (zL zaR)) zN)))
 (zy (zL zaR)))
variable (xb0:Got P w K mg base 1 "_law_no_later" ["bounds","due"] (upF K Dp.zb3))
theorem zcB:zQ ["script","vale","valley","table","k","name","hour","due","cell","bounds","handed","found"] ["script"] (zJ zfA):=zW
include xq xbr xg xr xeq xac xab xeu xco xei xbt xbj xeb xes xb0 in
theorem zux (F:Fun K "law" "law" zfA f fd):zaa P w K mg base CX0 12 f fd ["script"] (upF K Dp.zfS):=by
  refine zU (b:=Dp.zlE) F zcB Dp.zto Dp.zvg (fun cdv A outer s H E hr=>?_)
  unfold Dp.zlE
  exact (zu (zG (i:=1) zcB.nd (zF xeq hr (zc (zj 0) (zc zp (zc zp (zc zp zq))))))
 (zu (zG (i:=2) zcB.nd (zF xco hr (zc (zj 1) zq)))
 (zu (zG (i:=3) zcB.nd (zF xei hr (zc (zj 1) zq)))
 (zu (zaq (zba xr (zc (zai zap xq boot_len (zc (zA (zj 1) zp) zq)) zq)) (z9 (i:=4) zcB.nd) (zu (zG (i:=5) zcB.nd (zA (zA (zA (zj 1) zp) (zj 4)) zp))
 (zu (zG (i:=6) zcB.nd (zV (zA (zj 1) zp) (zF xg hr (zc (zF xbr hr (zc (zj 0) (zc (zj 4) zq))) (zc zp (zc (zV (zX (zA (zj 1) zp) (zA (zj 1) zp)) zp) zq))))))
 (zu (zG (i:=7) zcB.nd (zF xbt hr (zc (zj 1) (zc (zj 3) (zc (zj 4) (zc (zj 6) zq))))))
 (zu (zR (zM zdH (zF xbj hr (zc (zj 2) (zc (zj 5) (zc (zj 6) (zc (zeC zdb xac boot_list (zc (zj 7) zq)) zq))))) zaR) (zy (zL zaR)) zN)
 (zy (zaq (zav (zV (zix (zj 0) zgE (zeS zp)) (zaD (zc zp (zc zp (zc zp zq)))))) (z9 (i:=8) zcB.nd) (zu (zG (i:=9) zcB.nd (zF xeb hr (zc (zj 7) (zc (zj 8) (zc (zA (zj 1) zp) zq)))))
 (zu (zG (i:=10) zcB.nd (zeC zdb xac boot_list (zc (zj 9) zq)))
 (zu (zG (i:=11) zcB.nd (zF xbj hr (zc (zj 2) (zc (zj 5) (zc (zj 6) (zc (zj 10) zq))))))
 (zu (zR (zaF (zb6 (zbY (zaV (zai zjX xab boot_isinstance (zc (zj 11) (zc (zlK rfl xeu boot_bool) zq))))) (zbM (zM (zgT hr) (zj 10) (zj 9))))) (zy (zL zaR)) zN)
 (zy (zR (zaF (zb6 (zM (zgT hr) (zj 11) (zF xes hr (zc (zj 1) (zc (zj 3) (zc (zj 4) (zc (zj 6) (zc (zj 9) zq))))))) (zbM (zaF (zbN (zaV (zj 11)) (zbm (zbY (zaV (zF xb0 hr (zc (zj 9) (zc (zj 7) zq))))))))))) (zy (zL zaR)) zN)))))))))))))
 (zy (zL zaR))))))
end
theorem all_mk {l:W.OpenLaw}{w:World}{K:W.Frag}{h:Heap}{mg:Str->Option Value}{fa:Addr}(X:K.In h)(G:h.Ns mainGlobals mg)(hfa:mg "law"=some (.ref fa))
  {xku xke xki xh8 xio xi1 xig xh7 xj9 xjl xfo xft xj7 xgd xlm xlb xgz xjg xi0 xiz xkx xgr xji xk0 xgq xgc xip xiw xjv xjr xin xjo xjj xho xjw xga xgv xkc xfl xgn xko xkv xgw xg1 xk5 xkm xll xk2 xi2 xlj f_both xkp xk7 xiu xic xh9 xjt xjk xhh:Addr}{xkw xkf xkj xh5 xie xiy xil xh6 xkg xja xfr xf2 xkn xge xlp xld xgu xi7 xi5 xix xks xgo xi9 xky xgp xf6 xit xi4 xjc xj4 xir xjm xj5 xhp xj0 xf5 xg0 xkh xfk xgm xj8 xk1 xgx xhb xlc xkl xlf xk3 xi3 xlq xli xkd xla xiv xia xib xj1 xjy xhw:FuncData}
  {xh2 xhj:Option Addr} {xhr:Array (Option Value)} {xh0 xh3 xhl xhf xfi xhu:Value} {xca:Addr} {xad:Addr}
  {xhs xhv:Option Addr} {xh1:Array (Option Value)} {xht xhe xhq xhz xfm xhm:Value} {xb4:Addr} {xu:Addr}
  {xln xkq:Option Addr} {xlh:Array (Option Value)} {xlg xkk xka xkb xik xj6:Value} {xjx:Addr}
  {xgs:Addr}
  {xh4:Addr}
  {xg2:Addr}
  {xgt:Tok} {xhd:Tok} {xg4:Tok} {xiq:Tok} {xha:Tok} {xjz:Tok} {xj3:Tok} {xk9:Tok} {xkt:Tok} {xlk:Tok} {xk6:Tok} {xkz:Tok} {xk4:Tok} {xkr:Tok} {xk8:Tok}
  (xfv:FH K "_law_at" zjs xku xkw)
  (xe1:FH K "_law_mix" zhW xke xkf)
  (xe7:FH K "_law_far" zhJ xki xkj)
  (xb9:FH K "_law_corners" zff xh8 xh5)
  (xck:FH K "_law_folded" zfL xio xie)
  (xdu:FH K "_law_names" zgs xi1 xiy)
  (xcn:FH K "_law_height" zfW xig xil)
  (xb8:FH K "_law_beacons" zfh xh7 xh6)
  (xe4:FH K "_law_fog" zh4 xj9 xkg)
  (xek:FH K "_law_vale" zhi xjl xja)
  (xai:FH K "refuse_bad_corners" zco xfo xfr)
  (xbk:W.nsIn K mainGlobals "Ground"=some (some (.ref xad))) (xd8:K.lookup xca=some ⟨xh0,xh2,.func (W.fnOf "__init__" "Ground.__init__" (zbX zbS) (zbk zbS) (zJ zbS) .none xh3 xhl xhf xhj xfi xhu),xhr⟩) (xd5:W.codeIn K xfi "Ground.__init__"=true) (xd9:W.keepIn K (.ref xca)=true)
  (xc5:W.makesIn K xad=true) (xde:W.findIn K (.ref xad) "__init__"=some (some (.ref xca))) (xdb:W.isFn K (.ref xca)=true) (xc3:W.keepIn K (.ref xad)=true) (xc1:W.plainGet K xad Str.empty=true) (xc6:W.hasDictIn K xad=true) (xc4:W.plainOver K xad=true) (xct:W.findIn K (.ref xad) "__setattr__"=some (some (.builtin "object.__setattr__"))) (xdn:W.findIn K (.ref xad) "corners"=some none)
  (xak:FH K "refuse_bad_numbers" zcs xft xf2)
  (xez:FH K "is_name" zhG xj7 xkn)
  (xao:FH K "refuse_bad_names" zcT xgd xge)
  (xg9:FH K "less" zmv xlm xlp)
  (xgg:FH K "is_on" zkK xlb xld)
  (xbg:FH K "common_divisor" zd4 xgz xgu)
  (xet:FH K "fraction" zgV xjg xi7)
  (xdr:FH K "height_on" zgi xi0 xi5)
  (xds:FH K "ground_at" zgv xiz xix)
  (xfw:FH K "stands" zjh xkx xks)
  (xay:FH K "refuse_bad_tops" zdp xgr xgo)
  (xen:FH K "is_whole" zgY xji xi9)
  (xfy:FH K "is_fog" zjo xk0 xky)
  (xaw:FH K "refuse_bad_fogs" zdo xgq xgp)
  (xap:FH K "refuse_bad_hours" zc2 xgc xf6)
  (xaa:W.nsIn K mainGlobals "Valley"=some (some (.ref xu))) (xd7:K.lookup xb4=some ⟨xht,xhs,.func (W.fnOf "__init__" "Valley.__init__" (zbX zbT) (zbk zbT) (zJ zbT) .none xhe xhq xhz xhv xfm xhm),xh1⟩) (xd4:W.codeIn K xfm "Valley.__init__"=true) (xd6:W.keepIn K (.ref xb4)=true)
  (xdh:W.makesIn K xu=true) (xcz:W.findIn K (.ref xu) "__init__"=some (some (.ref xb4))) (xdm:W.isFn K (.ref xb4)=true) (xda:W.keepIn K (.ref xu)=true) (xc8:W.plainGet K xu Str.empty=true) (xcy:W.hasDictIn K xu=true) (xdc:W.plainOver K xu=true) (xc9:W.findIn K (.ref xu) "__setattr__"=some (some (.builtin "object.__setattr__"))) (xcv:W.findIn K (.ref xu) "ground"=some none) (xcu:W.findIn K (.ref xu) "beacons"=some none) (xdd:W.findIn K (.ref xu) "fogs"=some none) (xdl:W.findIn K (.ref xu) "haze"=some none) (xdi:W.findIn K (.ref xu) "first"=some none) (xdf:W.findIn K (.ref xu) "last"=some none) (xdk:W.findIn K (.ref xu) "delay"=some none)
  (xcl:FH K "_law_valley" zfF xip xit)
  (xdq:FH K "_law_clear" zgt xiw xi4)
  (xem:FH K "_law_part" zgX xjv xjc)
  (xer:FH K "_law_meet" zhf xjr xj4)
  (xcp:FH K "_law_fogged" zfM xin xir)
  (xee:FH K "_law_sees" zhd xjo xjm)
  (xeg:FH K "_law_seen" zhs xjj xj5)
  (xbz:FH K "_law_earliest" zeM xho xhp)
  (xed:FH K "names_of" zgR xjw xj0)
  (xat:FH K "refuse_no_beacon" zcR xga xf5)
  (xbd:FH K "refuse_no_hour" zdZ xgv xg0)
  (xfd:FH K "spot_of" zhL xkc xkh)
  (xag:FH K "refuse_not_standing" zch xfl xfk)
  (xa3:FH K "numbers_between" zdm xgn xgm)
  (xe8:FH K "side_of" zh5 xko xj8)
  (xfx:FH K "hinder" zi1 xkv xk1)
  (xbe:FH K "square_between" zdT xgw xgx)
  (xbl:FH K "hidden_always" zek xg1 xhb)
  (xgh:FH K "moved" zkE xk5 xlc)
  (xe2:FH K "margins" zhH xkm xkl)
  (xhc:FH K "tidy" zmy xll xlf)
  (xgi:FH K "foggy" zkO xk2 xk3)
  (xdx:FH K "foggy_all" zgu xi2 xi3)
  (xg6:FH K "gaps" zm4 xlj xlq)
  (xg7:FH K "both" zmr f_both xli)
  (xe9:FH K "without" zif xkp xkd)
  (xgk:FH K "sight" zkM xk7 xla)
  (xcg:FH K "first_from" zfT xiu xiv)
  (xcc:FH K "bound_holds" zfg xic xia)
  (xb5:FH K "bounds_hold" zfe xh9 xib)
  (xeo:FH K "_law_bent" zhm xjt xj1)
  (xej:FH K "_law_hold" zg9 xjk xjy)
  (xby:FH K "_law_no_later" zeL xhh xhw)
  (xjd:W.nsIn K mainGlobals "law"=some (some (.ref xjx))) (xj2:K.lookup xjx=some ⟨xlg,xln,.func (W.fnOf "law" "law" (zbX zfA) (zbk zfA) (zJ zfA) .none xkk xka xkb xkq xik xj6),xlh⟩) (xi6:W.codeIn K xik "law"=true) (xjp:W.keepIn K (.ref xjx)=true)
  (xb3:W.nsIn K mainGlobals "OffGround"=some (some (.ref xgs))) (xfg:zmM K xgs=true) (xd2:W.nsIn K mainGlobals "BadHour"=some (some (.ref xh4))) (xgb:zmM K xh4=true) (xcj:W.nsIn K mainGlobals "NoBeacon"=some (some (.ref xg2))) (xfp:zmM K xg2=true)
  (xjb:W.nsIn K mainGlobals "len"=some none) (xhg:W.nsIn K mainGlobals "range"=some none) (xjh:W.nsIn K mainGlobals "abs"=some none) (xis:W.nsIn K mainGlobals "list"=some none) (xjf:W.nsIn K mainGlobals "all"=some none) (xjq:W.nsIn K mainGlobals "set"=some none) (xjs:W.nsIn K mainGlobals "int"=some none) (xev:W.nsIn K mainGlobals "isinstance"=some none) (xim:W.nsIn K mainGlobals "bool"=some none) (xhn:W.nsIn K mainGlobals "tuple"=some none) (xjn:W.nsIn K mainGlobals "min"=some none) (xju:W.nsIn K mainGlobals "max"=some none) (xfh:W.nsIn K mainGlobals "enumerate"=some none) (xgy:W.nsIn K mainGlobals "sorted"=some none) (xi8:W.nsIn K mainGlobals "zip"=some none)
  (xcr:W.nsIn K mainGlobals "LEAST_CORNERS"=some (some (.int 2 xgt))) (xcx:W.nsIn K mainGlobals "MOST_CORNERS"=some (some (.int 40 xhd))) (xc2:W.nsIn K mainGlobals "MOST_BEACONS"=some (some (.int 12 xg4))) (xfe:W.nsIn K mainGlobals "MOST_FOGS"=some (some (.int 12 xiq))) (xc7:W.nsIn K mainGlobals "MOST_LETTERS"=some (some (.int 8 xha))) (xf9:W.nsIn K mainGlobals "LETTERS"=some (some (.str "abcdefghijklmnopqrstuvwxyz" xjz))) (xf7:W.nsIn K mainGlobals "NUMBERS"=some (some (.int 8 xj3))) (xii:W.nsIn K mainGlobals "LEFT"=some (some (.int 0 xk9))) (xhx:W.nsIn K mainGlobals "RIGHT"=some (some (.int 1 xkt))) (xje:W.nsIn K mainGlobals "LOW"=some (some (.int 2 xlk))) (xif:W.nsIn K mainGlobals "HIGH"=some (some (.int 3 xk6))) (xhk:W.nsIn K mainGlobals "FIRST"=some (some (.int 4 xkz))) (xih:W.nsIn K mainGlobals "LAST"=some (some (.int 5 xk4))) (xhy:W.nsIn K mainGlobals "DRIFT"=some (some (.int 6 xkr))) (xij:W.nsIn K mainGlobals "RISE"=some (some (.int 7 xk8))) :
  ∃ fd:FuncData,(∀ (s:Shared) (v:Value),BindsTo s fd ⟨[v],[]⟩ [("script",v)])/\∀ base:Heap,K.In base->base.Ns mainGlobals mg->zaa l.prog w K mg base CX0 12 fa fd ["script"] (upF K Dp.zfS):=by
 have e:=hfa.symm.trans (W.mg_of X G xjd)
 cases e
 have xa6:∀ C,W.nsIn K mainGlobals "Ground"=some (some (.ref C))->zaC K C "corners":=fun C hC=>by
  rw [xbk] at hC;cases hC;exact xdn
 have xf3:=zjt (st:=zbS) xd8 xd5 xd9
 have zbV:=xf3.binds (ps:=["self","corners"]) fun _ _ _ _ _ _ us hl=>by obtain⟨_,_,rfl⟩:=zo0 hl;rfl
 have xba:∀ C,W.nsIn K mainGlobals "Valley"=some (some (.ref C))->zaC K C "ground":=fun C hC=>by
  rw [xaa] at hC;cases hC;exact xcv
 have xaz:∀ C,W.nsIn K mainGlobals "Valley"=some (some (.ref C))->zaC K C "beacons":=fun C hC=>by
  rw [xaa] at hC;cases hC;exact xcu
 have xbu:∀ C,W.nsIn K mainGlobals "Valley"=some (some (.ref C))->zaC K C "fogs":=fun C hC=>by
  rw [xaa] at hC;cases hC;exact xdd
 have xbs:∀ C,W.nsIn K mainGlobals "Valley"=some (some (.ref C))->zaC K C "haze":=fun C hC=>by
  rw [xaa] at hC;cases hC;exact xdl
 have xbp:∀ C,W.nsIn K mainGlobals "Valley"=some (some (.ref C))->zaC K C "first":=fun C hC=>by
  rw [xaa] at hC;cases hC;exact xdi
 have xb1:∀ C,W.nsIn K mainGlobals "Valley"=some (some (.ref C))->zaC K C "last":=fun C hC=>by
  rw [xaa] at hC;cases hC;exact xdf
 have xbn:∀ C,W.nsIn K mainGlobals "Valley"=some (some (.ref C))->zaC K C "delay":=fun C hC=>by
  rw [xaa] at hC;cases hC;exact xdk
 have xf4:=zjt (st:=zbT) xd7 xd4 xd6
 have zbU:=xf4.binds (ps:=["self","ground","beacons","fogs","haze","first","last","delay"]) fun _ _ _ _ _ _ us hl=>by obtain⟨_,_,_,_,_,_,_,_,rfl⟩:=zwZ hl;rfl
 have xlr:=zjt (st:=zfA) xj2 xi6 xjp
 have xam:∀ C,W.nsIn K mainGlobals "OffGround"=some (some (.ref C))->ExC K C:=fun C h=>by
  rw [xb3] at h;cases h;exact ExC.of xfg
 have xal:∃ C,W.nsIn K mainGlobals "OffGround"=some (some (.ref C))/\mg "OffGround"=some (.ref C):=⟨_,xb3,W.mg_of X G xb3⟩
 have xau:∀ C,W.nsIn K mainGlobals "NoBeacon"=some (some (.ref C))->ExC K C:=fun C h=>by
  rw [xcj] at h;cases h;exact ExC.of xfp
 have xav:∃ C,W.nsIn K mainGlobals "NoBeacon"=some (some (.ref C))/\mg "NoBeacon"=some (.ref C):=⟨_,xcj,W.mg_of X G xcj⟩
 have xea:∀ C,W.nsIn K mainGlobals "BadHour"=some (some (.ref C))->ExC K C:=fun C h=>by
  rw [xd2] at h;cases h;exact ExC.of xgb
 have xef:∃ C,W.nsIn K mainGlobals "BadHour"=some (some (.ref C))/\mg "BadHour"=some (.ref C):=⟨_,xd2,W.mg_of X G xd2⟩
 have xq:=W.mg_none_of X G xjb
 have xr:=W.mg_none_of X G xhg
 have xe6:=W.mg_none_of X G xjh
 have xac:=W.mg_none_of X G xis
 have xax:=W.mg_none_of X G xjf
 have xid:=W.mg_none_of X G xjq
 have xfz:=W.mg_none_of X G xjs
 have xab:=W.mg_none_of X G xev
 have xeu:=W.mg_none_of X G xim
 have xcw:=W.mg_none_of X G xhn
 have xa9:=W.mg_none_of X G xjn
 have xaf:=W.mg_none_of X G xju
 have xdt:=W.mg_none_of X G xfh
 have xfu:=W.mg_none_of X G xgy
 have xfb:=W.mg_none_of X G xi8
 have xbm:∃ t,mg "LEAST_CORNERS"=some (.int 2 t):=⟨_,W.mg_of X G xcr⟩
 have xbv:∃ t,mg "MOST_CORNERS"=some (.int 40 t):=⟨_,W.mg_of X G xcx⟩
 have xbw:∃ t,mg "MOST_BEACONS"=some (.int 12 t):=⟨_,W.mg_of X G xc2⟩
 have xdv:∃ t,mg "MOST_FOGS"=some (.int 12 t):=⟨_,W.mg_of X G xfe⟩
 have xb2:∃ t,mg "MOST_LETTERS"=some (.int 8 t):=⟨_,W.mg_of X G xc7⟩
 have xe5:∃ t,mg "LETTERS"=some (.str "abcdefghijklmnopqrstuvwxyz" t):=⟨_,W.mg_of X G xf9⟩
 have xe3:∃ t,mg "NUMBERS"=some (.int 8 t):=⟨_,W.mg_of X G xf7⟩
 have xbi:∃ t,mg "LEFT"=some (.int 0 t):=⟨_,W.mg_of X G xii⟩
 have xan:∃ t,mg "RIGHT"=some (.int 1 t):=⟨_,W.mg_of X G xhx⟩
 have xcd:∃ t,mg "LOW"=some (.int 2 t):=⟨_,W.mg_of X G xje⟩
 have xbh:∃ t,mg "HIGH"=some (.int 3 t):=⟨_,W.mg_of X G xif⟩
 have xbx:∃ t,mg "FIRST"=some (.int 4 t):=⟨_,W.mg_of X G xhk⟩
 have xew:∃ t,mg "LAST"=some (.int 5 t):=⟨_,W.mg_of X G xih⟩
 have xgl:∃ t,mg "DRIFT"=some (.int 6 t):=⟨_,W.mg_of X G xhy⟩
 have xg5:∃ t,mg "RISE"=some (.int 7 t):=⟨_,W.mg_of X G xij⟩
 refine⟨W.fnOf "law" "law" (zbX zfA) (zbk zfA) (zJ zfA) .none xkk xka xkb xkq xik xj6,fun s v=>.of_eq rfl,fun base _ _=>?_⟩
 have xbr:=zab l.prog w base X G xfv (zqP xq xfv.F)
 have xg:=zab l.prog w base X G xe1 (zpl xe1.F)
 have xd0:=zab l.prog w base X G xe7 (zo4 xg xe7.F)
 have xcb:=zab l.prog w base X G xb9 (zkA xg xd0 xr xb9.F)
 have xci:=zab l.prog w base X G xck (zly xq xr xck.F)
 have xdp:=zab l.prog w base X G xdu (zmb xg xr xdu.F)
 have xcs:=zab l.prog w base X G xcn (zlj xq xr xcn.F)
 have xb6:=zab l.prog w base X G xb8 (zkD xq xg xr xcs xb8.F)
 have xfc:=zab l.prog w base X G xe4 (zoB xq xg xe6 xe4.F)
 have xeq:=zab l.prog w base X G xek (zna xq xbr xg xr xcb xci xdp xb6 xfc xek.F)
 have xaj:=zab l.prog w base X G xai (zgx xq xr xbm xbv xai.F)
 have xcf:zkj l.prog w K mg base 2 "Ground" (upF K Dp.zf3):=⟨⟨_,_,_,_,_,⟨xc5,xde,xdb,xc3⟩,zkh xaj xa6 xac xf3,zbV,W.mg_of X G xbk,zn6 ⟨xc1,xc6,xc4,xct⟩ xbk⟩⟩
 have xah:=zab l.prog w base X G xak (zgA xq xbw xdv xak.F)
 have xex:=zab l.prog w base X G xez (zoJ xq xb2 xe5 xax xez.F)
 have xas:=zab l.prog w base X G xao (zhB xq xax xex xid xao.F)
 have xbq:=zab l.prog w base X G xg9 (ztx xg9.F)
 have xdj:=zab l.prog w base X G xgg (zrH xbq xgg.F)
 have xbb:=zab l.prog w base X G xbg (ziN xe6 xbg.F)
 have xep:=zab l.prog w base X G xet (znk xbb xet.F)
 have xdo:=zab l.prog w base X G xdr (zlX xep xdr.F)
 have xdz:=zeP l.prog w base X G xds (zml xbq xdj xdo xam xal xds.F)
 have xce:=zab l.prog w base X G xfw (zpS xbq xdj xdz xfw.F)
 have xa5:=zab l.prog w base X G xay (zic xax xce xay.F)
 have xec:=zab l.prog w base X G xen (zng xfz xab xeu xen.F)
 have xfn:=zab l.prog w base X G xfy (zqp xq xax xab xec xe3 xbi xan xcd xbh xbx xew xcw xfy.F)
 have xa0:=zab l.prog w base X G xaw (zhI xax xfn xaw.F)
 have xaq:=zab l.prog w base X G xap (zhD xap.F)
 have xfs:zkj l.prog w K mg base 7 "Valley" (upF K Dp.zie):=⟨⟨_,_,_,_,_,⟨xdh,xcz,xdm,xda⟩,zkF xac xcf xah xas xa5 xa0 xaq xba xaz xbu xbs xbp xb1 xbn xf4,zbU,W.mg_of X G xaa,zn6 ⟨xc8,xcy,xdc,xc9⟩ xaa⟩⟩
 have xco:=zab l.prog w base X G xcl (zlx xac xcf xfs xcl.F)
 have xdw:=zab l.prog w base X G xdq (zmp xdq.F)
 have xcm:=zab l.prog w base X G xem (znp xfz xem.F)
 have xel:=zab l.prog w base X G xer (zm7 xcm xer.F)
 have xcq:=zab l.prog w base X G xcp (zlA xel xcp.F)
 have xeh:=zab l.prog w base X G xee (znr xq xdw xcq xee.F)
 have xei:=zab l.prog w base X G xeg (znz xq xr xac xeh xeg.F)
 have xbt:=zab l.prog w base X G xbz (zjO xq xr xbz.F)
 have xa8:=zab l.prog w base X G xed (znm xed.F)
 have xar:=zeP l.prog w base X G xat (zhz xa8 xau xav xat.F)
 have xbf:=zeP l.prog w base X G xbd (ziP xea xef xbd.F)
 have xd3:=zeP l.prog w base X G xfd (zoU xau xav xfd.F)
 have xae:=zeP l.prog w base X G xag (zgk xam xal xce xag.F)
 have xa4:=zab l.prog w base X G xa3 (zhM xa9 xaf xdt xa3.F)
 have xey:=zab l.prog w base X G xe8 (zog xe8.F)
 have xfq:=zeP l.prog w base X G xfx (zpq xae xa4 xey xfx.F)
 have xbc:=zab l.prog w base X G xbe (ziO xbe.F)
 have xbo:=zab l.prog w base X G xbl (zi6 xfq xbc xbl.F)
 have xfj:=zab l.prog w base X G xgh (zrn xbi xan xcd xbh xgl xg5 xgh.F)
 have xd1:=zab l.prog w base X G xe2 (zoi xbi xan xcd xbh xa9 xaf xe2.F)
 have xa7:=zab l.prog w base X G xhc (ztk xq xcw xaf xfu xhc.F)
 have xgf:=zab l.prog w base X G xgi (zq5 xbx xew xa9 xaf xfj xd1 xa7 xfb xgi.F)
 have xdy:=zab l.prog w base X G xdx (zmI xa7 xgf xdx.F)
 have xg3:=zab l.prog w base X G xg6 (ztN xa7 xg6.F)
 have xg8:=zab l.prog w base X G xg7 (zsW xa9 xaf xa7 xg7.F)
 have xfa:=zab l.prog w base X G xe9 (zpg xq xg3 xg8 xe9.F)
 have xgj:=zeP l.prog w base X G xgk (zrl xd3 xbo xdy xfa xgk.F)
 have xch:=zab l.prog w base X G xcg (zlw xaf xcg.F)
 have xb7:=zab l.prog w base X G xcc (zky xgj xch xcc.F)
 have xbj:=zab l.prog w base X G xb5 (zkw xq xa8 xar xbf xfb xb7 xb5.F)
 have xeb:=zab l.prog w base X G xeo (znC xq xg xr xac xeo.F)
 have xes:=zab l.prog w base X G xej (zny xq xr xej.F)
 have xb0:=zab l.prog w base X G xby (zjB xq xr xby.F)
 exact zux xq xbr xg xr xeq xac xab xeu xco xei xbt xbj xeb xes xb0 xlr
theorem walk {l:W.OpenLaw}{q:Program}{loose:List Str}{XP:(Str->Option Value)->Heap->Prop}{YP:World->Heap->Prop}{d:DefRec}{K:Params->W.Frag}(hn:l.most=some 63)(hdf:d.params.defaults=[])
  (hY:∀ (w:World) (h:Heap),YP w h->(K w.params).In h)
  (F:∀ (w:World) (mg:Str->Option Value) (fa:Addr) (h:Heap),(K w.params).In h->h.Ns mainGlobals mg->mg d.name=some (.ref fa) ->
   ∃ fd:FuncData,(∀ (s:Shared) (u:Value),BindsTo s fd ⟨[u],[]⟩ [("script",u)])/\∀ base:Heap,(K w.params).In base->base.Ns mainGlobals mg->zaa l.prog w (K w.params) mg base CX0 12 fa fd ["script"] (upF (K w.params) Dp.zfS)) :
  W.WalkO q loose XP YP l.row.toRowW d [] (fun f vs=>PySem.call f vs) :=
 Dp.zrm (n:=63) (k:=12) (x:="script") (sp:=fun w=>upF (K w.params) Dp.zfS) hn (by decide) hdf ⟨rfl,by decide,by decide⟩ hY F fun _ _ _ _ hl hg hO hS=>zuw hl hg hO hS
end Law
local macro_rules | `(tactic| walk_at "fh")=>`(tactic| (refine' Dp.zwk ?fa ?fl ?fc ?fk;(case fa=>k_is);(case fl=>k_is);(case fc=>k_is);(case fk=>k_is)))
open PySem PySem.W PyProof.Rows
namespace PySem.W.Fast
def tw668989419211881364:=Prop
def tw8391959212278864808:=Prop
def tw9203308660558389714:=Prop
def tw11372833469497591146:=Prop
def tw3970515130043352621:=Prop
def tw9134082188522692856:=Prop
def tw2036510004746778359:=Prop
def tw2696495609426371217:=Prop
def tw4499566100049995324:=Prop
def tw1913891707143635975:=Prop
def tw5315401721363395876:=Prop
def tw5699934597806450079:=Prop
def tw16369368064438861501:=Prop
def tw6676553048864784489:=Prop
def tw8664872771136450595:=Prop
def tw12487780481002876137:=Prop
def tw1905216478936665234:=Prop
def tw16101864082481221078:=Prop
def tw5952907151243558614:=Prop
def tw11494407214117804009:=Prop
def tw8885985989140830475:=Prop
def tw16599380419639897271:=Prop
def tw18426135976312084650:=Prop
def tw2136401718922668949:=Prop
def tw4861210271100724223:=Prop
def tw13894539736960256253:=Prop
def tw14239563720405896807:=Prop
def tw2608157365423853164:=Prop
def tw7837649004463723153:=Prop
def tw13481941872697652179:=Prop
def tw468471580587962161:=Prop
def tw5822323019606627268:=Prop
def tw2759372816170364085:=Prop
def tw10049297974154789033:=Prop
def tw3761960647508205389:=Prop
def tw10035424435732196853:=Prop
def tw6197472760092033249:=Prop
def tw4800592920931228127:=Prop
def tw8596561792131512091:=Prop
def tw398089937379407764:=Prop
def tw12774765912389306063:=Prop
def tw1942946737686080460:=Prop
def tw2348668648971759898:=Prop
def tw7814569088027057085:=Prop
def tw11192171555533772429:=Prop
def tw5128227045696059257:=Prop
def tw18438103687324646310:=Prop
def tw165788791076395650:=Prop
def tw15862225281227548662:=Prop
def tw14551238687366745351:=Prop
def tw13571954335622553659:=Prop
def tw6467993487917222793:=Prop
def tw3723963859776652285:=Prop
def tw7991999256755222145:=Prop
def tw12179590063651912668:=Prop
def tw14994204335944283610:=Prop
def tw15808450683767235890:=Prop
def tw1957070471829154963:=Prop
def tw16621559694593239603:=Prop
def tw8728700590631944317:=Prop
def tw2012367254286940822:=Prop
def tw7754578253599430716:=Prop
def tw16708790217292043835:=Prop
def tw7889532779759888416:=Prop
def tw14393020017117059407:=Prop
def tw6865757746388171356:=Prop
def tw4074688679276022899:=Prop
def tw7624007890950204881:=Prop
def tw17586575807406569288:=Prop
def tw13853133351178058250:=Prop
def tw4393211138032903694:=Prop
def tw13637194122129100083:=Prop
def tw6483630546845209905:=Prop
def tw14503687554487360746:=Prop
def tw9859788762582923515:=Prop
def tw15279971972417437865:=Prop
def tw6145627119413476231:=Prop
def tw12537363619972518591:=Prop
def tw2309585845414959387:=Prop
def tw14756843868974953232:=Prop
def tw10610760475037054366:=Prop
def tw5148160042920797236:=Prop
def tw1077041567451454997:=Prop
def tw3812306911318990937:=Prop
def tw12289416812512679438:=Prop
def tw9758853897676141357:=Prop
def tw18337852758399312090:=Prop
def tw13587143900881942034:=Prop
def tw3924110962088849973:=Prop
def tw14743536433843120602:=Prop
def tw4022127391994066199:=Prop
def tw2369618557695380433:=Prop
def tw3973180470704443125:=Prop
def tw13859278075711187522:=Prop
def tw3040303976923789930:=Prop
def tw6690479707796079386:=Prop
def tw7545014033289437020:=Prop
def tw4684552224878058944:=Prop
def tw1692317072011512841:=Prop
def tw3655008577465738029:=Prop
def tw18340685357769200515:=Prop
def tw2403093309082161683:=Prop
def tw2546694686814195548:=Prop
def tw15572531468876950710:=Prop
def tw2926868945378743419:=Prop
def tw15868481355490661580:=Prop
def tw240274670551923036:=Prop
def tw1039537195318327415:=Prop
def tw17049507307237862393:=Prop
def tw9348910684821667429:=Prop
def tw4041552595182116619:=Prop
def tw12607654435765580834:=Prop
def tw17119804348110689808:=Prop
def tw12240925928590647629:=Prop
def tw2762848981609245153:=Prop
def tw37990760749554529:=Prop
def tw11185879051657729932:=Prop
def tw10470765999449173410:=Prop
def tw775862770764806298:=Prop
def tw2156390454050843270:=Prop
def tw17902605527027709813:=Prop
def tw8145833145171864072:=Prop
def tw1996528295624711249:=Prop
def tw12839665788316867781:=Prop
def tw12021849483267607659:=Prop
def tw3810214631876845189:=Prop
def tw4623641193101432913:=Prop
def tw5760518191357606859:=Prop
def tw5967889924232103535:=Prop
def tw1822865533254124219:=Prop
def tw3957744740739495643:=Prop
def tw6243224721237214300:=Prop
def tw17776438163217196960:=Prop
def tw15042642779763088776:=Prop
def tw16984648633787649010:=Prop
def tw8754652114141544891:=Prop
def tw245277270334355240:=Prop
def tw5738962270694039596:=Prop
def tw489197657004835286:=Prop
def tw11197451732556145549:=Prop
def tw3076458442779291118:=Prop
def tw5266458919599809932:=Prop
def tw7053064587084483028:=Prop
def tw2729520662930418789:=Prop
def tw7353833799452499228:=Prop
def tw9608724174029400352:=Prop
def tw10590546223213658892:=Prop
def tw8436573356513175050:=Prop
def tw5452250533492471009:=Prop
def tw16902164095002353169:=Prop
def tw1890797447362518649:=Prop
def tw3155273752485016328:=Prop
def tw10493466624973782770:=Prop
def tw10604920663204101032:=Prop
def tw13036643581618215709:=Prop
def tw1730109510138390690:=Prop
def tw5872625919240919933:=Prop
def tw2796253434529798565:=Prop
def tw16817858523474581301:=Prop
def tw8857728085889870929:=Prop
def tw16419077478397791243:=Prop
def tw11636400720192333102:=Prop
def tw10754140668848984187:=Prop
def tw4984726038489344100:=Prop
def tw16600077717902772829:=Prop
def tw2367718375741373885:=Prop
def tw11273692890649917091:=Prop
def tw2405060412827743242:=Prop
def tw1168908772383494387:=Prop
def tw6094652613946990813:=Prop
def tw3639335434579453760:=Prop
def tw8791181654842415293:=Prop
def tw871743403398466788:=Prop
def tw7330892608461396298:=Prop
def tw6400340446513033425:=Prop
def tw5567987211043785570:=Prop
def tw16662103399328951923:=Prop
def tw11738444872857518040:=Prop
def tw3720031102769964049:=Prop
def tw3633989681462836965:=Prop
def tw199557225432438748:=Prop
def tw14963659456376134159:=Prop
def tw4243067456750301339:=Prop
def tw4959836254326553098:=Prop
def tw534091913608741856:=Prop
def tw2252656598315134058:=Prop
def tw11379821582097817273:=Prop
def tw4721868072472951183:=Prop
def tw14573300955050955124:=Prop
def tw11749463264940995159:=Prop
def tw9490064475766531608:=Prop
def tw8455398776995087261:=Prop
def tw15573025093518395727:=Prop
def tw15323110544440886123:=Prop
def tw12042401855434347014:=Prop
def tw1023929175978217575:=Prop
def tw5761331345297974816:=Prop
def tw13097980240576239128:=Prop
def tw3473619511449621497:=Prop
def tw14198408384255054408:=Prop
def tw14887545389507990363:=Prop
def tw8082224244580004030:=Prop
def tw17036721775043262701:=Prop
def tw15455410744261386797:=Prop
def tw4281938675226375709:=Prop
def tw3342717005165173919:=Prop
def tw15304206211453723759:=Prop
def tw15452510022097669597:=Prop
def tw16022802039242021442:=Prop
def tw4941562181177797950:=Prop
def tw12480607666249408120:=Prop
def tw832814095523197286:=Prop
def tw12964561444942261268:=Prop
def tw5621159055180452593:=Prop
def tw3683896995222019488:=Prop
def tw621172289883124513:=Prop
def tw3168520879466997496:=Prop
def tw17402156231041622605:=Prop
def tw8696230393816655903:=Prop
def tw1767134965558306136:=Prop
def tw3932561817310266784:=Prop
def tw12533928542680379418:=Prop
def tw3100700527526305032:=Prop
def tw12217575429154146961:=Prop
def tw10837423928222160084:=Prop
def tw13111192609695280200:=Prop
def tw13045323913961944035:=Prop
def tw946437963091941838:=Prop
def tw15385178380384246945:=Prop
def tw7267623053241682338:=Prop
def tw2335946497995745359:=Prop
def tw9632430890318412762:=Prop
def tw9382028392171044915:=Prop
def tw14754982927278420092:=Prop
def tw7120114121492705085:=Prop
def tw15673214670657701486:=Prop
def tw12886732115493482317:=Prop
def tw8110035983168857774:=Prop
def tw15485970978735875750:=Prop
def tw15495333303336370980:=Prop
def tw7442684250439650352:=Prop
def tw5445710020979157577:=Prop
def tw5116841857554978055:=Prop
def tw14161797571234718846:=Prop
def tw13434909953135458096:=Prop
def tw16691320954139575540:=Prop
def tw9264186247478349139:=Prop
def tw1504487946705274138:=Prop
def tw8782233480690657574:=Prop
def tw10860404438397829618:=Prop
def tw5250539055446893103:=Prop
def tw16771777016927954571:=Prop
def tw7683861299513079511:=Prop
def tw2852724551727598984:=Prop
def tw14468779976955330894:=Prop
def tw10933044725795883900:=Prop
def tw16894521405726132374:=Prop
def tw9952728719588480467:=Prop
def tw5908272136553359716:=Prop
def tw2879125229377399596:=Prop
def tw2595548722679130379:=Prop
def tw9461265267219058431:=Prop
def tw4318517865020866425:=Prop
def tw1962942572124174191:=Prop
def tw9233115813257801701:=Prop
def tw11595598255892766097:=Prop
def tw9760831821182588254:=Prop
def tw1733519240345311371:=Prop
def tw1629346073483177437:=Prop
def tw13960337307233617690:=Prop
def tw13832956085667261019:=Prop
def tw13816007215372360675:=Prop
def tw10819115235033788616:=Prop
def tw2489016387480791203:=Prop
def tw13942576823912552004:=Prop
def tw7739184474123462005:=Prop
def tw5674460880173827359:=Prop
def tw10816713058842301878:=Prop
def tw7165108250559532664:=Prop
def tw7185337109678882558:=Prop
def tw5153815365585901009:=Prop
def tw2275752600199518839:=Prop
def tw9433201635973092118:=Prop
def tw330067346226870278:=Prop
def tw10945275589049521229:=Prop
def tw5609221555667658782:=Prop
def tw3371300631942587039:=Prop
def tw9046082190260704469:=Prop
def tw12329016298706271293:=Prop
def tw13690402902548396561:=Prop
def tw10164164270528828701:=Prop
def tw8894893296544137858:=Prop
def tw5448920053992670140:=Prop
def tw2767867544179349836:=Prop
def tw1354397041281073112:=Prop
def tw8912751236279118547:=Prop
def tw11192221614087384139:=Prop
def tw6429082726754207081:=Prop
def tw9431761121365237295:=Prop
def tw431549393074929683:=Prop
def tw4253381775141324785:=Prop
def tw7925789073551577088:=Prop
def tw2219913567459934928:=Prop
def tw1954393926092765198:=Prop
def tw6833453797925468776:=Prop
def tw1393407745745658345:=Prop
def tw5108136085131917777:=Prop
def tw10280189322145419785:=Prop
def tw172705219360837502:=Prop
def tw1130291767119158011:=Prop
def tw3274794602704216621:=Prop
def tw6311872458880420712:=Prop
def tw1367520783838443237:=Prop
def tw12704826149536819688:=Prop
def tw14149920623887303214:=Prop
def tw13231522262900211902:=Prop
def tw6162570741214041685:=Prop
def tw9232501874911530788:=Prop
def tw1691365070101627324:=Prop
def tw13139415209011172234:=Prop
def tw7037427528038228972:=Prop
def tw12407735931421740572:=Prop
def tw4543195712573317008:=Prop
def tw2026565206471584025:=Prop
def tw13002012810639921762:=Prop
def tw5127720541328029130:=Prop
def tw4098340520140642502:=Prop
def tw17857730094206428483:=Prop
def tw10026863684961343940:=Prop
def tw9986690050145342460:=Prop
def tw9369658502827374573:=Prop
def tw5274572243374324214:=Prop
def tw17114149934977255239:=Prop
def tw15043840220366772490:=Prop
def tw14701226771060070900:=Prop
def tw1133996945594572069:=Prop
def tw2702787892980309015:=Prop
def tw15273834803571820387:=Prop
def tw6354052358489676745:=Prop
def tw16215850097291733508:=Prop
def tw11345553352948635220:=Prop
def tw17591263704071812925:=Prop
def tw10326180259354847089:=Prop
def tw6109436057096844906:=Prop
def tw7064193880891054148:=Prop
def tw5236583650220740605:=Prop
def tw15455936336213947326:=Prop
def tw5899046754876419869:=Prop
def tw11998490565974423810:=Prop
def tw3797832487232108468:=Prop
def tw1150096973179157323:=Prop
def tw12038181459246213296:=Prop
def tw7581093790469442984:=Prop
def tw17929515581621794098:=Prop
def tw9777460283465143353:=Prop
def tw7304321195905292668:=Prop
def tw6275120045338273248:=Prop
def tw997032042714586142:=Prop
def tw5214468681290733702:=Prop
def tw442773027315373397:=Prop
def tw17300374407226452353:=Prop
def tw16942695692317357626:=Prop
def tw16690073853656889437:=Prop
def tw16158822067669222299:=Prop
def tw15582149989580958559:=Prop
def tw14901864760550971235:=Prop
def tw14601249092716315705:=Prop
def tw14537753421510510168:=Prop
def tw13933774809992180122:=Prop
def tw4869947756097786211:=Prop
def tw17916055823321897864:=Prop
def tw17755062315290493474:=Prop
def tw1737744235637728380:=Prop
def tw16666204081908385590:=Prop
def tw16402442430660490622:=Prop
def tw13625311183438199427:=Prop
def tw12953353975846248787:=Prop
def tw11873952937730364787:=Prop
def tw11122985709348488512:=Prop
def tw10278335720411301028:=Prop
def tw16936826548462052116:=Prop
def tw836463414344723269:=Prop
def tw4736210253620227536:=Prop
def tw284160175464714692:=Prop
def tw15471813461569591379:=Prop
def tw13230084861917972070:=Prop
def tw12784666065601035961:=Prop
def tw12259690252998683920:=Prop
def tw11958889903230634682:=Prop
def tw7069451233272149020:=Prop
def tw6657194354319371867:=Prop
def tw6033535386727517040:=Prop
def tw3354928956963462133:=Prop
def tw2901664549570310772:=Prop
def tw2221420366643752984:=Prop
def tw18317730887510687046:=Prop
def tw16057219407969306342:=Prop
def tw15844197992714583518:=Prop
def tw14915220329369990501:=Prop
def tw10405821105454714360:=Prop
def tw9930902629116098294:=Prop
def tw9783019383641307332:=Prop
def tw9444361618681099692:=Prop
def tw9233460684497544111:=Prop
def tw8967876415257430072:=Prop
def tw8858873408796083296:=Prop
def tw8671209555744453255:=Prop
def tw8585871244243405643:=Prop
def tw8407073709476687374:=Prop
def tw8307847872122986175:=Prop
def tw8081706988636732447:=Prop
def tw8026665137627517987:=Prop
def tw7785529430306402545:=Prop
def tw7779723004459213214:=Prop
def tw7759791987641238986:=Prop
def tw7408923170682274807:=Prop
def tw7146132187344548646:=Prop
def tw7132936106578367068:=Prop
def tw6714865697938118663:=Prop
def tw6544079849156737813:=Prop
def tw6540838876394757966:=Prop
def tw6439221787880129349:=Prop
def tw6380147349497200358:=Prop
def tw6363047300622538279:=Prop
def tw6137365682404073672:=Prop
def tw593001898326089540:=Prop
def tw5695713035967979983:=Prop
def tw552467536228158639:=Prop
def tw5410699665151520506:=Prop
def tw5159057625833450223:=Prop
def tw5102246514730491460:=Prop
def tw4943168761446160085:=Prop
def tw4791008243235688930:=Prop
def tw4587231019312227420:=Prop
def tw4555459689955182076:=Prop
def tw4537810401513533398:=Prop
def tw4379142302912293697:=Prop
def tw435078341572309766:=Prop
def tw4280608942021968550:=Prop
def tw4201097289753228750:=Prop
def tw4193663530730959051:=Prop
def tw4175365170509245253:=Prop
def tw3807833839123205773:=Prop
def tw3778459154677407820:=Prop
def tw3309144671814361420:=Prop
def tw2967084326695539983:=Prop
def tw2881179232331212259:=Prop
def tw2791570132977577676:=Prop
def tw2665534729968985495:=Prop
def tw2596789515926734702:=Prop
def tw2509100032828397813:=Prop
def tw2506471433056997780:=Prop
def tw2382059556207025292:=Prop
def tw2372153706335455351:=Prop
def tw2345229831356134264:=Prop
def tw1912169201535801046:=Prop
def tw1896259184884398919:=Prop
def tw18204044885414981300:=Prop
def tw18137768339623428121:=Prop
def tw18093384545251414918:=Prop
def tw18073255040980698856:=Prop
def tw17881000771588328504:=Prop
def tw17609120364380840261:=Prop
def tw17554748860990900128:=Prop
def tw17489944875675192113:=Prop
def tw17476995761559288232:=Prop
def tw17467530971353100081:=Prop
def tw17279008728003671306:=Prop
def tw17276663716145211651:=Prop
def tw16741262488624500716:=Prop
def tw16584590777188845031:=Prop
def tw16545111332705283567:=Prop
def tw16372741114196191925:=Prop
def tw16321900639228677666:=Prop
def tw16276988619944998792:=Prop
def tw16176539943848765026:=Prop
def tw16175375549652024206:=Prop
def tw16135139169371017787:=Prop
def tw15997316467008495445:=Prop
def tw15916793195666979368:=Prop
def tw15679045402830727890:=Prop
def tw15487499172082933288:=Prop
def tw15385553708509973364:=Prop
def tw15330602169131489508:=Prop
def tw15254445718883683826:=Prop
def tw15209364946158501827:=Prop
def tw15195119314259315426:=Prop
def tw15188088973155333416:=Prop
def tw15133948464667262346:=Prop
def tw15074049019666883620:=Prop
def tw1456359731993750458:=Prop
def tw14409248358432885638:=Prop
def tw14341711851026332071:=Prop
def tw14335659049970971213:=Prop
def tw13963909620645371612:=Prop
def tw13866998455260201031:=Prop
def tw13823429565311544005:=Prop
def tw13789461469272164315:=Prop
def tw1367992420296958271:=Prop
def tw13633658084499368469:=Prop
def tw13361445879164126505:=Prop
def tw13358103935011938406:=Prop
def tw13261159152690339866:=Prop
def tw1316487354994222612:=Prop
def tw1314993370896171967:=Prop
def tw12957604483780664559:=Prop
def tw12759571220306624040:=Prop
def tw12710140935446940533:=Prop
def tw12609696603969297638:=Prop
def tw12586260115262732130:=Prop
def tw12540804683791024937:=Prop
def tw12509088709095133296:=Prop
def tw1247902002017680746:=Prop
def tw12439481109475937649:=Prop
def tw1240154787608549381:=Prop
def tw12034215717956298008:=Prop
def tw11994155994925183424:=Prop
def tw11964374339320674391:=Prop
def tw11840120752225998960:=Prop
def tw11825268849590040043:=Prop
def tw11762646896103701686:=Prop
def tw11703170741791312093:=Prop
def tw11364776170261328672:=Prop
def tw11319022639619357290:=Prop
def tw11147027718627286988:=Prop
def tw1092326663275342446:=Prop
def tw10185482325655297227:=Prop
def tw10108441590140809213:=Prop
def tw10067077832718019600:=Prop
end PySem.W.Fast
set_option maxRecDepth 100000 in
set_option maxHeartbeats 0 in
theorem PySem.Challenge.cw_beaconvale_k63_whole_bounds_holds : PySem.Challenge.rw_beaconvale_k63_whole_bounds.Holds := by
 w_on; o_law; k_head; (case hw => w_witness2)
 k_fill
 refine Law.walk (l := PySem.Challenge.rw_beaconvale_k63_whole_bounds) rfl rfl (fun w h Y => PySem.W.kIn_of Y) ?F
 case F =>
  intro w mg fa h KX G hmg
  refine' Law.all_mk KX G hmg ?ah ?aq ?ax ?ay ?aA ?aB ?aC ?aD ?aE ?aF ?aG ?aH ?aI ?aJ ?aK ?aL ?aM ?aN ?aO ?aP ?aQ ?aR ?aS ?aT ?aU ?aV ?aW ?aX ?aY ?aZ ?a9 ?be ?bi ?bn ?bq ?br ?bu ?bv ?bw ?bA ?bC ?bD ?bE ?bG ?bH ?bI ?bJ ?bK ?bM ?bN ?bO ?bP ?bQ ?bS ?bU ?bV ?bW ?bX ?bY ?bZ ?b7 ?b8 ?b9 ?ce ?cf ?cg ?cj ?ck ?cn ?cq ?cu ?cv ?cw ?cx ?cy ?cz ?cA ?cB ?cC ?cD ?cE ?cF ?cG ?cH ?cI ?cJ ?cK ?cL ?cM ?cO ?cP ?cQ ?cR ?cS ?cT ?cU ?cV ?cW ?cX ?cY ?cZ ?c6 ?c7 ?c8 ?c9 ?dc ?de ?df ?dg ?dh ?di ?dj ?dm ?dn ?dq ?dw ?dz ?dA ?dD ?dE ?dF ?dG ?dH ?dI ?dJ ?dL ?dN ?dO ?dP ?dQ ?dR
  case cU|cW|cY|aH|bA|aM|bH=>k_is
  case ah|aq|ax|ay|aA|aB|aC|aD|aE|aF|aG=>walk_at "fh"
  case aI|aJ|aK|aL|aN|aO|aP|aQ|aR|aS|aT=>k_is
  case aU|aV|aW|aX|aY|aZ|a9|be|bi|bn|bq|br|bu|bv|bw=>walk_at "fh"
  case bC|bD|bE|bG|bI|bJ|bK|bM|bN|bO|bP|bQ|bS|bU|bV|bW|bX=>k_is
  case bY|bZ|b7|b8|b9|ce|cf|cg|cj|ck|cn|cq|cu|cv|cw|cx|cy|cz|cA|cB|cC|cD|cE|cF|cG|cH|cI|cJ|cK|cL|cM|cO|cP=>walk_at "fh"
  case cQ|cR|cS|cT=>k_is
  case cV|cX|cZ=>kernel_rfl
  case c6|c7|c8|c9|dc|de|df|dg|dh|di|dj|dm|dn|dq|dw|dz|dA|dD|dE|dF|dG|dH|dI|dJ|dL|dN|dO|dP|dQ|dR=>k_is
#print axioms PySem.Challenge.cw_beaconvale_k63_whole_bounds_holds
