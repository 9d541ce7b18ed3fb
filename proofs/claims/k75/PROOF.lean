import PyProof.Rows.All
import Wide.All
import OpenK.AllK
import Wide.FinOn
import Lean
import PyProof.EqAt
import PyProof.EqKinds
import PyProof.TupleCall
import PyProof.NeData
import PyProof.P3Eq
import PyProof.StrLawsIn
import PyProof.StrLawsJoin
import PyProof.StrBlockL
import PyProof.Rows.StrSplitCount
import PySem.Challenge.RW_beaconvale_k75_whole_no_third_helps
set_option Elab.async false
set_option linter.all false
set_option maxRecDepth 100000
set_option maxHeartbeats 4000000
set_option Elab.async false
set_option linter.all false
set_option maxRecDepth 100000
def qb:=@List.length_map
def qc:=@List.getElem?_eq_getElem
def qd:=@PySem.Heap.get?_push_of_some
def qe:=@List.mem_of_getElem?
def qf:=@Nat.le_refl
def qg:=@List.length_append
def qh:=@List.mem_cons
def qi:=@List.getElem?_append_right
def qj:=@List.getElem?_append_left
def qk:=@List.lookup_cons
def qm:=@List.size_toArray
def qo:=@List.getElem?_map
def qp:=@PySem.Heap.get?_push_size
def qq:=@Bool.false_ne_true
def qr:=@PySem.Heap.lt_size
def qu:=@List.getElem?_eq_none
def qv:=@List.map_append
def qw:=@Int.le_refl
def qA:=@Option.some.inj
def qB:=@List.mem_cons_of_mem
def qC:=@List.getD_eq_getElem?_getD
def qD:=@Nat.lt_of_lt_of_le
def qE:=@List.not_mem_nil
def qF:=@List.mem_append
def qG:=@List.append_assoc
def qH:=@Bool.and_eq_true
def qI:=@List.length_replicate
def qJ:=@List.map_cons
def qK:=@Nat.ne_of_lt
def qL:=@List.getElem?_set_self
def qM:=@Nat.lt_or_ge
def qN:=@Nat.zero_le
def qO:=@List.getElem?_eq_some_iff
def qP:=@List.length_cons
def qQ:=@Array.length_toList
def qR:=@List.mem_iff_getElem
namespace L2
open PySem PySem.Spec PyProof.Rows
abbrev Key:=Sum Int Str
def zih:Key->Value->Bool
 | .inl k,v=>Value.isInt k v
 | .inr x,v=>Value.isStrOf x v
def zy5 (w:World):Key->Int
 | .inl k=>hashInt k
 | .inr x=>hashStr w x
theorem zba:∀ {k:Key} {v:Value},zih k v=true->(∃ i t,k=Sum.inl i/\v=Value.int i t)\/(∃ x t,k=Sum.inr x/\v=Value.str x t)
 | .inl i,v,h=>by
  obtain⟨t,e⟩:=Value.isInt_shape (k:=i) (v:=v) h
  exact .inl ⟨i,t,rfl,e⟩
 | .inr x,v,h=>by
  obtain⟨t,e⟩:=Value.isStrOf_shape (x:=x) (v:=v) h
  exact .inr ⟨x,t,rfl,e⟩
theorem zqj (i:Int)(t:Tok):zih (.inl i) (.int i t)=true:=by simp [zih,Value.isInt]
theorem zp8 (x:Str)(t:Tok):zih (.inr x) (.str x t)=true:=by simp [zih,Value.isStrOf]
theorem zwI (a b:Int):decide ((Sum.inl a:Key)=Sum.inl b)=(a==b):=by
 by_cases e:a=b
 ·subst e;simp
 ·have h:¬ (Sum.inl a:Key)=Sum.inl b:=fun q=>e (Sum.inl.inj q)
  rw [decide_eq_false h]
  exact (beq_eq_false_iff_ne.mpr e).symm
theorem zvP (a b:Str):decide ((Sum.inr a:Key)=Sum.inr b)=decide (a=b):=by
 by_cases e:a=b
 ·subst e;simp
 ·have h:¬ (Sum.inr a:Key)=Sum.inr b:=fun q=>e (Sum.inr.inj q)
  rw [decide_eq_false h,decide_eq_false e]
theorem zwo (a:Int)(b:Str):decide ((Sum.inl a:Key)=Sum.inr b)=false:=decide_eq_false (fun q=>nomatch q)
theorem zvc (a:Str)(b:Int):decide ((Sum.inr a:Key)=Sum.inl b)=false:=decide_eq_false (fun q=>nomatch q)
def zbB (prog:Program)(w:World):PySem.KeyKind prog w Key where
  is:=zih
  hash:=zy5 w
  inj:=fun v a b ha hb=>by
    rcases zba ha with ⟨i,t,rfl,rfl⟩ | ⟨x,t,rfl,rfl⟩
    . rcases zba hb with ⟨j,u,rfl,e⟩ | ⟨y,u,rfl,e⟩
      . injection e with e1 _;rw [e1]
      . exact nomatch e
    . rcases zba hb with ⟨j,u,rfl,e⟩ | ⟨y,u,rfl,e⟩
      . exact nomatch e
      . injection e with e1 _;rw [e1]
  byValue:=fun k v h=>by
    rcases zba h with ⟨i,t,rfl,rfl⟩ | ⟨x,t,rfl,rfl⟩<;>rfl
  pyHash:=fun hv h=>by
    rcases zba hv with ⟨i,t,rfl,rfl⟩ | ⟨x,t,rfl,rfl⟩
    . exact wpAny_pyHash_int h
    . exact wpAny_pyHash_str h
  eqBool:=fun hu hv h=>by
    rcases zba hu with ⟨i,t,rfl,rfl⟩ | ⟨x,t,rfl,rfl⟩
    . rcases zba hv with ⟨j,u,rfl,rfl⟩ | ⟨y,u,rfl,rfl⟩
      . rw [zwI] at h;exact wpAny_eqBool_int h
      . rw [zwo] at h;exact SeqAt.EqAt.int_str i t y u _ _ _ _ h
    . rcases zba hv with ⟨j,u,rfl,rfl⟩ | ⟨y,u,rfl,rfl⟩
      . rw [zvc] at h;exact SeqAt.EqAt.str_int x t j u _ _ _ _ h
      . rw [zvP] at h;exact wpAny_eqBool_str h
  «strs»:=fun k x t v h=>by
    rcases zba h with ⟨i,u,rfl,e⟩ | ⟨y,u,rfl,e⟩
    . exact nomatch e
    . injection e with e1 _
      subst e1
      cases v<;>rfl
theorem znj (prog:Program)(w:World)(i:Int)(t:Tok):(zbB prog w).is (.inl i) (.int i t)=true:=zqj i t
theorem znu (prog:Program)(w:World)(x:Str)(t:Tok):(zbB prog w).is (.inr x) (.str x t)=true:=zp8 x t
inductive V where
 | non | bl (b:Bool) | int (i:Int) | str (x:Str) | byt (b:Array UInt8) | flt (b:UInt64) | ref (a:Addr) | ty (n:String)
 deriving DecidableEq
def RelV:V->Value->Prop
 | .non,u=>u=Value.none
 | .bl b,u=>u=Value.bool b
 | .int i,u=>∃ t,u=Value.int i t
 | .str x,u=>∃ t,u=Value.str x t
 | .byt b,u=>∃ t,u=Value.bytes b t
 | .flt b,u=>∃ t,u=Value.float b t
 | .ref a,u=>u=Value.ref a
 | .ty n,u=>u=Value.type n
abbrev Vals:List V->List Value->Prop:=Paired RelV
theorem Vals.length {xs:List V}{us:List Value}(r:Vals xs us):xs.length=us.length:=Paired.length r
theorem Vals.get:∀ {xs:List V} {us:List Value} {i:Nat} {x:V},Vals xs us->xs[i]?=some x->∃ u,us[i]?=some u/\RelV x u
 | _,_,_,_,.nil,e=>by simp at e
 | _,_,0,_,.cons r _,e=>by simp at e;subst e;exact⟨_,rfl,r⟩
 | _,_,i+1,x,.cons _ t,e=>by
  obtain⟨u,h1,h2⟩:=Vals.get (i:=i) (x:=x) t (by simpa using e)
  exact⟨u,by simpa using h1,h2⟩
theorem Vals.set {x:V}{u:Value}(r:RelV x u):∀ {xs:List V} {us:List Value} (i:Nat),Vals xs us->Vals (xs.set i x) (us.set i u)
 | _,_,_,.nil=>.nil
 | _,_,0,.cons _ t=>.cons r t
 | _,_,i+1,.cons q t=>.cons q (Vals.set r i t)
theorem Vals.append:∀ {xs ys:List V} {us ws:List Value},Vals xs us->Vals ys ws->Vals (xs++ys) (us++ws)
 | _,_,_,_,.nil,s=>s
 | _,_,_,_,.cons r t,s=>.cons r (Vals.append t s)
theorem Vals.take:∀ {xs:List V} {us:List Value} (n:Nat),Vals xs us->Vals (xs.take n) (us.take n)
 | _,_,0,_=>.nil
 | _,_,_+1,.nil=>.nil
 | _,_,n+1,.cons r t=>.cons r (Vals.take n t)
theorem Vals.drop:∀ {xs:List V} {us:List Value} (n:Nat),Vals xs us->Vals (xs.drop n) (us.drop n)
 | _,_,0,r=>r
 | _,_,_+1,.nil=>.nil
 | _,_,n+1,.cons _ t=>Vals.drop n t
def zei:Option V->Option Value->Prop
 | some v,some u=>RelV v u
 | none,none=>True
 | _,_=>False
def KV {κ:Type}:List (κ×V)->List (κ×Value)->Prop:=Paired fun (p:κ×V) (q:κ×Value)=>p.1=q.1/\RelV p.2 q.2
def kV:Key->V
 | .inl i=>.int i
 | .inr x=>.str x
inductive HO where
 | lst (xs:List V)
 | tup (xs:List V)
 | dK (kvs:List (Key×V)) | dT (kvs:List (List Key×V))
 | set (S:Int->Bool) (n:Nat)
 | ins (C dx:Addr) (fs:List (Str×V))
 | own (x:Addr)
 | xd (fs:List (Str×V))
 | met (f x:Addr)
 | rng (lo hi:Int)
 | frz (o:Obj) (u:HO)
 | tbl (ps:Array Value)
 | ext (φ:Heap->Prop)
abbrev Hp:=Addr->Option HO
def upd (H:Hp)(a:Addr)(o:HO):Hp:=fun b=>if b=a then some o else H b
theorem zav {H:Hp}{a:Addr}{o:HO}:upd H a o a=some o:=by unfold upd;rw [if_pos rfl]
theorem zZ {H:Hp}{a b:Addr}{o:HO}(h:b≠a):upd H a o b=H b:=by unfold upd;rw [if_neg h]
theorem zeU {H:Hp}{a b:Addr}{o u:HO}(h:H a=some o)(h':H b=some u)(d:o≠u):a≠b:=by
 intro e;subst e;rw [h] at h';exact d (qA h')
theorem zbx {H:Hp}{a b:Addr}{o:HO}(h:H a=some o)(h':H b=none):a≠b:=by
 intro e;subst e;rw [h] at h';cases h'
section
variable (P:Program)(w:World)
def zaD (H:Hp)(h:Heap)(a:Addr):HO->Prop
 | .lst xs=>xs.length<=sizeLine/\∃ (its:List Value) (n:Nat),Vals xs its/\h.get? a=some { cls:=.type "list",data:=.seq its.toArray n }
 | .tup xs=>xs.length<=sizeLine/\∃ its:List Value,Vals xs its/\IsTup h a its.toArray
 | .dK kvs=>kvs.length<=sizeLine/\(a==sysModules)=false/\∃ vs,KV kvs vs/\h.DictOf (zbB P w) a vs
 | .dT kvs=>kvs.length<=sizeLine/\(a==sysModules)=false/\∃ xs:List (List Key×Addr×Value),
   Paired (fun (p:List Key×V) (q:List Key×Addr×Value)=>p.1=q.1/\H q.2.1=some (.tup (p.1.map kV))/\RelV p.2 q.2.2) kvs xs /\
   ∃ o es ep,h.get? a=some o/\o.ExactDict/\o.data=.dict es ep/\es.toList=xs.map (entryOfKey (tupleKind (zbB P w)))/\(xs.map (·.1)).Nodup
 | .set S n=>h.SetOf (intKind P w) a S n
 | .ins C dx fs=>H dx=some (.own a)/\fs.length<=1000/\dx≠a/\h.get? a=some (PySem.W.instObj C dx) /\
   ∃ mA,h.Ns1 dx mA/\(∀ f,zei (fs.lookup f) (mA f))/\PySem.Within mA (fs.map (·.1))
 | .own _=>∃ o,h.get? a=some o
 | .xd fs=>∃ mA,h.Ns1 a mA/\∀ f,zei (fs.lookup f) (mA f)
 | .rng lo hi=>∃ t u v,h.get? a=some { cls:=.type "range",data:=.fields #[.int lo t,.int hi u,.int 1 v] }
 | .frz o u=>h.get? a=some o/\zaD H h a u
 | .tbl ps=>h.get? a=some { cls:=.none,data:=.fields ps }
 | .met f x=>h.get? a=some (PySem.W.methodObj (.ref f) (.ref x))
 | .ext φ=>φ h/\(∃ o,h.get? a=some o)/\∀ h1 h2:Heap,φ h1->(∀ o,h1.get? a=some o->h2.get? a=some o)->φ h2
def HOk (H:Hp)(h:Heap):Prop:=∀ a o,H a=some o->zaD P w H h a o
end
section
variable {P:Program}{w:World}{H H':Hp}{h h':Heap}{a:Addr}{o:HO}
theorem zaD.lt (x:zaD P w H h a o):a<h.objs.size:=by
 cases o with
 | lst xs=>obtain⟨_,_,_,_,e⟩:=x;exact qr e
 | tup xs=>obtain⟨_,_,_,p⟩:=x;exact p.lt
 | dK kvs=>obtain⟨_,_,_,_,o,_,_,e,_⟩:=x;exact qr e
 | dT kvs=>obtain⟨_,_,_,_,o,_,_,e,_⟩:=x;exact qr e
 | set S n=>obtain⟨o,_,_,_,e,_⟩:=x;exact qr e
 | ins C dx fs=>obtain⟨_,_,_,e,_⟩:=x;exact qr e
 | own y=>obtain⟨_,e⟩:=x;exact qr e
 | xd fs=>obtain⟨_,⟨_,_,_,e,_⟩,_⟩:=x;exact qr e
 | rng lo hi=>obtain⟨_,_,_,e⟩:=x;exact qr e
 | frz ob u=>obtain⟨e,_⟩:=x;exact qr e
 | tbl ps=>exact qr (show h.get? a=some _ from x)
 | met f y=>exact qr (show h.get? a=some _ from x)
 | ext φ=>obtain⟨_,⟨_,e⟩,_⟩:=x;exact qr e
theorem Paired.mapP {α β:Type}{F G:α->β->Prop}:∀ {l₁:List α} {l₂:List β},Paired F l₁ l₂->(∀ a b,F a b->G a b)->Paired G l₁ l₂
 | _,_,.nil,_=>.nil
 | _,_,.cons r t,f=>.cons (f _ _ r) (Paired.mapP t f)
theorem Paired.imp' {α β:Type}{F G:α->β->Prop}(f:∀ a b,F a b->G a b){l₁:List α}{l₂:List β}(r:Paired F l₁ l₂):Paired G l₁ l₂:=Paired.mapP r f
theorem zaD.stay (x:zaD P w H h a o)(k:∀ b u,(b=a\/H b=some (.own a))->h.get? b=some u->h'.get? b=some u)
  (ho:∀ b,H b=some (.own a)->H' b=some (.own a)) (ht:∀ b xs,H b=some (.tup xs)->H' b=some (.tup xs)):zaD P w H' h' a o:=by
 induction o with
 | lst xs=>obtain⟨z,its,n,r,e⟩:=x;exact⟨z,its,n,r,k _ _ (.inl rfl) e⟩
 | tup xs=>obtain⟨z,its,r,ob,e,c⟩:=x;exact⟨z,its,r,ob,k _ _ (.inl rfl) e,c⟩
 | dK kvs=>obtain⟨z,y,vs,r,ob,es,ep,e,c⟩:=x;exact⟨z,y,vs,r,ob,es,ep,k _ _ (.inl rfl) e,c⟩
 | dT kvs =>
  obtain⟨z,y,xs,r,ob,es,ep,e,c⟩:=x
  exact⟨z,y,xs,Paired.mapP r fun p q z=>⟨z.1,ht _ _ z.2.1,z.2.2⟩,ob,es,ep,k _ _ (.inl rfl) e,c⟩
 | set S n=>obtain⟨ob,es,ep,t,e,c⟩:=x;exact⟨ob,es,ep,t,k _ _ (.inl rfl) e,c⟩
 | ins C dx fs =>
  obtain⟨d,z,ne,e,mA,⟨od,es,ep,e2,c⟩,r⟩:=x
  exact⟨ho _ d,z,ne,k _ _ (.inl rfl) e,mA,⟨od,es,ep,k _ _ (.inr d) e2,c⟩,r⟩
 | own y=>obtain⟨ob,e⟩:=x;exact⟨ob,k _ _ (.inl rfl) e⟩
 | xd fs=>obtain⟨mA,⟨od,es,ep,e,c⟩,r⟩:=x;exact⟨mA,⟨od,es,ep,k _ _ (.inl rfl) e,c⟩,r⟩
 | rng lo hi=>obtain⟨t,u,v,e⟩:=x;exact⟨t,u,v,k _ _ (.inl rfl) e⟩
 | frz ob u ih=>obtain⟨e,q⟩:=x;exact⟨k _ _ (.inl rfl) e,ih q⟩
 | tbl ps =>
  have e:h.get? a=some { cls:=.none,data:=.fields ps }:=x
  show h'.get? a=some { cls:=.none,data:=.fields ps }
  exact k a _ (.inl rfl) e
 | met f y =>
  have e:h.get? a=some (PySem.W.methodObj (.ref f) (.ref y)):=x
  show h'.get? a=some (PySem.W.methodObj (.ref f) (.ref y))
  exact k a _ (.inl rfl) e
 | ext φ=>obtain⟨p,⟨o,e⟩,st⟩:=x;exact⟨st _ _ p fun o q=>k _ _ (.inl rfl) q,⟨o,k _ _ (.inl rfl) e⟩,st⟩
theorem HOk.lt (x:HOk P w H h)(e:H a=some o):a<h.objs.size:=(x a o e).lt
theorem HOk.fresh (x:HOk P w H h)(e:h.objs.size<=a):H a=none:=by
 cases q:H a with
 | none=>rfl
 | some u=>exact absurd (qD (x.lt q) e) (Nat.lt_irrefl _)
theorem HOk.kept (x:HOk P w H h)(k:∀ b u,h.get? b=some u->h'.get? b=some u):HOk P w H h':=fun a o e =>
 (x a o e).stay (fun b u _ q=>k b u q) (fun _ q=>q) fun _ _ q=>q
theorem HOk.laid (x:HOk P w H h)(k:∀ b u,h.get? b=some u->h'.get? b=some u)(hp:h.objs.size<=a)(new:zaD P w (upd H a o) h' a o):HOk P w (upd H a o) h':=fun b u e=>by
 have hn:=x.fresh hp
 by_cases hb:b=a
 ·subst hb;rw [zav] at e;cases e;exact new
 ·rw [zZ hb] at e
  exact (x b u e).stay (fun c v _ q=>k c v q) (fun c q=>by rw [zZ (zbx q hn)];exact q) fun c xs q=>by rw [zZ (zbx q hn)];exact q
end
def Rd (H:Hp)(a:Addr)(u:HO):Prop:=H a=some u\/∃ o,H a=some (.frz o u)
theorem Rd.ok {P:Program}{w:World}{H:Hp}{h:Heap}{a:Addr}{u:HO}(r:Rd H a u)(x:HOk P w H h):zaD P w H h a u:=by
 rcases r with r | ⟨o,r⟩
 ·exact x a u r
 ·obtain⟨_,q⟩:=x a _ r
  exact q
def Mut:Option HO->Prop
 | some (.lst _)=>True
 | some (.dK _)=>True
 | some (.dT _)=>True
 | some (.set _ _)=>True
 | some (.ins _ _ _)=>True
 | some (.ext _)=>True
 | _=>False
section
variable {P:Program}{w:World}{H:Hp}{h h':Heap}{x e:Addr}{o':HO}
theorem HOk.write (ok:HOk P w H h)(mu:Mut (H x))(he:e=x\/H e=some (.own x))(k:∀ b u,b≠e->h.get? b=some u->h'.get? b=some u)(heo:∃ u,h'.get? e=some u)
  (new:zaD P w (upd H x o') h' x o'):HOk P w (upd H x o') h':=fun b u q=>by
 have nown:∀ c y,H c=some (.own y)->c≠x:=fun c y r z=>by subst z;rw [r] at mu;exact mu
 have ntup:∀ c xs,H c=some (.tup xs)->c≠x:=fun c xs r z=>by subst z;rw [r] at mu;exact mu
 by_cases hb:b=x
 ·subst hb;rw [zav] at q;cases q;exact new
 ·rw [zZ hb] at q
  by_cases hbe:b=e
  ·have q':H b=some (.own x):=by
    rcases he with z | z
    ·exact absurd (hbe.trans z) hb
    ·rw [hbe];exact z
   rw [q] at q';cases q'
   obtain⟨v,hv⟩:=heo
   exact⟨v,by rw [hbe];exact hv⟩
  ·refine (ok b u q).stay (fun c v hc r=>k c v ?_ r) (fun c r=>by rw [zZ (nown c b r)];exact r) fun c xs r=>by rw [zZ (ntup c xs r)];exact r
   rcases hc with rfl | hc
   ·exact hbe
   ·rintro rfl
    rcases he with z | z
    ·exact nown c b hc z
    ·rw [hc] at z;cases z;exact hb rfl
end
structure Un (fs ex:List Addr)(H H':Hp)(h h':Heap):Prop where
 keep:∀ b o,h.get? b=some o->H b=none->b∉fs->b∉ex->h'.get? b=some o
 slot:∀ b o,h.get? b=some o->H b=none->b∈fs->b∉ex->∃ sl,h'.get? b=some { o with slots:=sl }
 free:∀ b o,h.get? b=some o->H b=none->b∉ex->H' b=none
 there:∀ b o,h.get? b=some o->b∉ex->∃ o',h'.get? b=some o'
 tups:∀ b xs,H b=some (.tup xs)->H' b=some (.tup xs)
 frzs:∀ b o u,H b=some (.frz o u)->H' b=some (.frz o u)
 tbls:∀ b ps,H b=some (.tbl ps)->∃ more,H' b=some (.tbl (ps++more))
section
variable {fs fs' ex ex':List Addr}{H H1 H2:Hp}{h h1 h2 h':Heap}{a x e:Addr}{o:HO}
theorem Un.any (u:Un fs ex H H1 h h1){b:Addr}{ob:Obj}(q:h.get? b=some ob)(n:H b=none)(hx:b∉ex):∃ sl,h1.get? b=some { ob with slots:=sl }:=by
 by_cases hb:b∈fs
 ·exact u.slot b ob q n hb hx
 ·exact⟨ob.slots,u.keep b ob q n hb hx⟩
theorem Un.kept (k:∀ b u,h.get? b=some u->h'.get? b=some u):Un fs ex H H h h' :=
 ⟨fun b ob q _ _ _=>k b ob q,fun b ob q _ _ _=>⟨ob.slots,k b ob q⟩,fun _ _ _ n _=>n,fun b ob q _=>⟨ob,k b ob q⟩,fun _ _ q=>q,fun _ _ _ q=>q,fun _ ps q=>⟨#[],by rw [q];simp⟩⟩
theorem Un.refl:Un fs ex H H h h:=Un.kept fun _ _ q=>q
theorem Un.laid (k:∀ b u,h.get? b=some u->h'.get? b=some u)(hp:h.objs.size<=a)(hn:H a=none):Un fs ex H (upd H a o) h h' where
 keep:=fun b u q _ _ _=>k b u q
 slot:=fun b u q _ _ _=>⟨u.slots,k b u q⟩
 free:=fun b u q n _=>by rw [zZ (qK (qD (qr q) hp))];exact n
 there:=fun b u q _=>⟨u,k b u q⟩
 tups:=fun b xs q=>by rw [zZ (zbx q hn)];exact q
 frzs:=fun b u xs q=>by rw [zZ (zbx q hn)];exact q
 tbls:=fun b ps q=>⟨#[],by rw [zZ (zbx q hn),q];simp⟩
theorem Un.write (mu:Mut (H x))(he:e=x\/H e=some (.own x))(k:∀ b u,b≠e->h.get? b=some u->h'.get? b=some u)(heo:∃ u,h'.get? e=some u):Un fs ex H (upd H x o) h h':=by
 have hx:∀ b,H b=none->b≠x:=fun b n z=>by subst z;rw [n] at mu;exact mu
 have hb:∀ b,H b=none->b≠e:=fun b n z=>by
  subst z
  rcases he with r | r
  ·exact hx b n r
  ·rw [n] at r;cases r
 have hm:∀ b u,H b=some u->¬ Mut (some u)->b≠x:=fun b u q nm z=>by subst z;rw [q] at mu;exact nm mu
 refine⟨fun b u q n _ _=>k b u (hb b n) q,fun b u q n _ _=>⟨u.slots,k b u (hb b n) q⟩,fun b u q n _=>by rw [zZ (hx b n)];exact n,fun b u q _=>?_,
  fun b xs q=>by rw [zZ (hm b _ q fun z=>z)];exact q,fun b u xs q=>by rw [zZ (hm b _ q fun z=>z)];exact q,fun b ps q=>⟨#[],by rw [zZ (hm b _ q fun z=>z),q];simp⟩⟩
 by_cases hbe:b=e
 ·subst hbe;exact heo
 ·exact⟨u,k b u hbe q⟩
end
def trk (h:Heap)(H:Hp):List Addr:=(List.range h.objs.size).filter fun a=>(H a).isSome
def zgD (h:Heap)(H:Hp):Heap:=PySem.W.hideAll h (trk h H)
theorem zqP (h:Heap)(H:Hp):(zgD h H).objs.size=h.objs.size:=PySem.W.hideAll_size _ _
theorem zsp {h:Heap}{H:Hp}{b:Addr}{o:Obj}(e:h.get? b=some o)(n:H b=none):(zgD h H).get? b=some o :=
 PySem.W.hideAll_get _ e fun hm=>by
  have q:(H b).isSome=true:=(List.mem_filter.mp hm).2
  rw [n] at q;simp at q
theorem ztW {h:Heap}{H:Hp}{b:Addr}{o:Obj}(e:(zgD h H).get? b=some o):h.get? b=some o/\H b=none:=by
 have e':h.get? b=some o:=PySem.W.of_hideAll (trk h H) e
 refine⟨e',?_⟩
 cases q:H b with
 | none=>rfl
 | some x =>
  have hm:b∈trk h H:=List.mem_filter.mpr ⟨List.mem_range.mpr (qr e'),by simp [q]⟩
  have z:(zgD h H).get? b=none:=PySem.W.hideAll_none (trk h H) hm
  rw [z] at e;cases e
def zuV (g h:Heap)(L:Addr):List (Addr×Obj):=(List.range h.objs.size).filterMap fun a=>if a=L\/(g.get? a).isSome=true then none else (h.get? a).map fun o=>(a,o)
def rest (g h:Heap)(L d:Addr):List (Addr×Obj):=(zuV g h L).filter fun p=>decide (p.1≠d)
structure Mod (K:PySem.W.Frag)(mg:Str->Option Value)(base:Heap):Prop where
 kin:K.In base
 glob:base.Ns mainGlobals mg
 blt:∃ mb,base.Ns builtinsNs mb/\∀ x:Str,x≠"__name__"->mb x=bootBuiltins x
 nolimit:base.NoLimit
/-- the context: a def's body (or a comprehension's block) running. base: fixed through the whole law; s₀, H₀: the entry; outer: the frames whose slots others may change (a def's callers); stack: all frames that run;
   ex: iterators that were made ahead of the entry and are walked here (a comprehension's);fn: the names whose cells were made at the entry (a def: all;a comprehension's block: its own);calm: not within an except suite;pn: pins that every state bears;xe: what is wanted of an exception that leaves the code -/
structure Cx where
 prog:Program
 w:World
 K:PySem.W.Frag
 mg:Str->Option Value
 base:Heap
 A:Around
 N:List Str
 s₀:Shared
 H₀:Hp
 env:Env
 outer:List Env
 stack:List Env
 ex:List Addr
 fn:Str->Bool
 calm:Bool
 pn:List (Addr×Obj)
 xe:Value->Shared->Prop
def frs (l:List Env):List Addr:=l.filterMap (·.frame)
abbrev Cx.fs (X:Cx):List Addr:=frs X.outer
def Vis (sc:Scope)(x:Str):Prop:=sc.names.lookup x=some .local\/sc.names.lookup x=some .cell\/sc.names.lookup x=some .free
def Loc (sc:Scope)(x:Str):Prop:=sc.names.lookup x=some .local\/sc.names.lookup x=some .cell
def Look (env:Env)(h:Heap)(m:Str->Option Value)(x:Str)(u:Value):Prop :=
 (env.kindOf x=some .local/\m x=some u)\/((env.kindOf x=some .cell\/env.kindOf x=some .free)/\∃ c,env.cells.lookup x=some c/\h.IsCell c (some u))
structure Cx.Ok (X:Cx):Prop where
 mod:Mod X.K X.mg X.base
 kind:X.env.scope.kind=.function
 glob:X.env.globals=mainGlobals
 blt:X.env.builtins=builtinsNs
 above:X.s₀.heap.objs.size<=X.env.locals
 inj:∀ x y c,X.env.cells.lookup x=some c->X.env.cells.lookup y=some c->x=y
 has:∀ x,(X.env.kindOf x=some .cell\/X.env.kindOf x=some .free)->∃ c,X.env.cells.lookup x=some c
 cab:∀ x c,X.fn x=true->X.env.cells.lookup x=some c->X.s₀.heap.objs.size<=c
 hd:X.calm=true->X.A.handled=none
 frames:X.A.frames=some X.stack
 stk:X.stack=X.outer\/(X.stack=X.env::X.outer/\X.env.frame=some X.env.locals)
 exf:∀ b∈X.ex,b≠X.env.locals/\∀ x c,X.env.cells.lookup x=some c->c≠b
 bs:∀ b o,X.base.get? b=some o->X.s₀.heap.get? b=some o/\X.H₀ b=none
 bsz:X.base.objs.size<=X.s₀.heap.objs.size
 noex:∀ b o,X.base.get? b=some o->b∉X.ex
 exfs:∀ b∈X.ex,b∉X.fs
 funs:X.s₀.heap.FunFrames X.base X.outer
 frf:∀ b∈X.fs,X.H₀ b=none
structure Inv (X:Cx)(pins:List (Addr×Obj))(U:List (Option V))(H:Hp)(s:Shared):Prop where
 ok:X.Ok
 os:s.os=X.s₀.os
 bare:AllBare s.gens
 base:Un X.fs X.ex X.H₀ H X.s₀.heap s.heap
 loc:∃ m,s.heap.Ns X.env.locals m/\∀ (i:Nat) (x:Str) (v:V),X.N[i]?=some x->U[i]?=some (some v)->Vis X.env.scope x->∃ u,RelV v u/\Look X.env s.heap m x u
 cell:∀ x c,X.env.cells.lookup x=some c->∃ v,s.heap.IsCell c v
 free:H X.env.locals=none
 freeC:∀ x c,X.env.cells.lookup x=some c->H c=none
 pin:∀ p∈X.pn++pins,s.heap.get? p.1=some p.2/\H p.1=none/\p.1≠X.env.locals/\p.1∉X.fs/\∀ v,p.2.data≠.cell v
 hok:HOk X.prog X.w H s.heap
 len:U.length=X.N.length
section
variable {X:Cx}{pins:List (Addr×Obj)}{U:List (Option V)}{H H':Hp}{s:Shared}{h':Heap}
theorem Cx.Ok.nofr (ok:X.Ok){b:Addr}{o:Obj}(e:X.base.get? b=some o):b∉X.fs:=fun hb=>by
 have:=(ok.funs.mem hb).1
 rw [e] at this;cases this
theorem Inv.bs (I:Inv X pins U H s):∀ b o,X.base.get? b=some o->s.heap.get? b=some o/\H b=none:=fun b o e =>
 ⟨I.base.keep b o (I.ok.bs b o e).1 (I.ok.bs b o e).2 (I.ok.nofr e) (I.ok.noex b o e),I.base.free b o (I.ok.bs b o e).1 (I.ok.bs b o e).2 (I.ok.noex b o e)⟩
theorem Inv.bk (I:Inv X pins U H s):∀ b o,X.base.get? b=some o->s.heap.get? b=some o:=fun b o e=>(I.bs b o e).1
theorem Inv.mod (I:Inv X pins U H s):Mod X.K X.mg X.base:=I.ok.mod
theorem Inv.kIn (I:Inv X pins U H s):X.K.In s.heap:=I.ok.mod.kin.keeps I.bk
theorem Inv.lt (I:Inv X pins U H s):X.env.locals<s.heap.objs.size:=let ⟨_,hn,_⟩:=I.loc;hn.lt
theorem Inv.sz (I:Inv X pins U H s):X.s₀.heap.objs.size<=s.heap.objs.size:=Nat.le_trans I.ok.above (Nat.le_of_lt I.lt)
theorem Inv.nofs (I:Inv X pins U H s){a:Addr}(h:s.heap.objs.size<=a):a∉X.fs:=fun hb=>by
 obtain⟨_,o,ho,_⟩:=I.ok.funs.mem hb
 exact absurd (qD (qr ho) (Nat.le_trans I.sz h)) (Nat.lt_irrefl _)
theorem Inv.cne (I:Inv X pins U H s):∀ x c,X.env.cells.lookup x=some c->c≠X.env.locals:=fun x c e z=>by
 obtain⟨v,o,ho,hd⟩:=I.cell x c e
 obtain⟨m,⟨o',es,ep,ho',hd',_⟩,_⟩:=I.loc
 rw [z,ho'] at ho;cases ho;rw [hd'] at hd;cases hd
theorem Inv.funs (I:Inv X pins U H s):s.heap.FunFrames X.base X.outer:=by
 have all:∀ (l:List Env),(∀ b∈frs l,b∈X.fs)->X.s₀.heap.FunFrames X.base l->s.heap.FunFrames X.base l:=by
  intro l
  induction l with
  | nil=>intro _ _;trivial
  | cons env r ih =>
   intro hs hl
   obtain⟨hk,⟨L,o,hf,hn,ho,hd⟩,hr⟩:=hl
   have hL:L∈X.fs:=hs L (by unfold frs;rw [List.filterMap_cons,hf];exact List.mem_cons_self)
   obtain⟨sl,e⟩:=I.base.slot L o ho (I.ok.frf L hL) hL fun z=>I.ok.exfs L z hL
   exact⟨hk,⟨L,_,hf,hn,e,hd⟩,ih (fun b hb=>hs b (by unfold frs;rw [List.filterMap_cons,hf];exact qB _ hb)) hr⟩
 exact all X.outer (fun _ hb=>hb) I.ok.funs
theorem Inv.stack (I:Inv X pins U H s):s.heap.FunFrames X.base X.stack:=by
 rcases I.ok.stk with e | ⟨e,hf⟩
 ·rw [e];exact I.funs
 ·rw [e]
  obtain⟨m,hn,_⟩:=I.loc
  refine .cons (by rw [I.ok.kind];decide) hf hn ?_ I.funs
  exact Heap.get?_none_of_le (Nat.le_trans I.ok.bsz I.ok.above)
theorem Inv.stkSub (I:Inv X pins U H s):∀ b∈frs X.stack,b∈X.env.locals::X.fs:=fun b hb=>by
 rcases I.ok.stk with e | ⟨e,hf⟩
 ·rw [e] at hb;exact qB _ hb
 ·rw [e] at hb
  unfold frs at hb
  rw [List.filterMap_cons,hf] at hb
  exact hb
theorem Inv.stkFree (I:Inv X pins U H s):∀ b∈frs X.stack,H b=none:=fun b hb=>by
 rcases qh.mp (I.stkSub b hb) with e | hb
 ·rw [e];exact I.free
 ·obtain⟨_,o,ho,_⟩:=I.ok.funs.mem hb
  exact I.base.free b o ho (I.ok.frf b hb) fun z=>I.ok.exfs b z hb
theorem Inv.step {g':Array GenState}{t':Nat}{d':Drawn}{ch:List Addr}(I:Inv X pins U H s)
  (hch:∀ b∈ch,(b∈X.ex\/X.s₀.heap.objs.size<=b)/\b≠X.env.locals/\(∀ x c,X.env.cells.lookup x=some c->c≠b)/\∀ p∈X.pn++pins,p.1≠b)
  (keep:∀ b o,b≠X.env.locals->b∉X.fs->b∉ch->s.heap.get? b=some o->H b=none->h'.get? b=some o)
  (slot:∀ b o,b≠X.env.locals->b∈X.fs->b∉ch->s.heap.get? b=some o->H b=none->∃ sl,h'.get? b=some { o with slots:=sl }) (free:∀ b o,b∉ch->s.heap.get? b=some o->H b=none->H' b=none)
  (there:∀ b o,b∉ch->s.heap.get? b=some o->∃ o',h'.get? b=some o')
  (tups:∀ b xs,H b=some (.tup xs)->H' b=some (.tup xs)) (frzs:∀ b o u,H b=some (.frz o u)->H' b=some (.frz o u)) (tbls:∀ b ps,H b=some (.tbl ps)->∃ more,H' b=some (.tbl (ps++more)))
  (ns:∀ m,s.heap.Ns X.env.locals m->h'.Ns X.env.locals m) (hok:HOk X.prog X.w H' h') (hg:AllBare g') :
  Inv X pins U H' { s with heap:=h',gens:=g',drawn:=d',toks:=t' }:=by
 have neL:∀ b o,X.s₀.heap.get? b=some o->b≠X.env.locals:=fun b o e=>qK (qD (qr e) I.ok.above)
 have neC:∀ b o,X.s₀.heap.get? b=some o->b∉X.ex->b∉ch:=fun b o e hx hb=>by
  rcases (hch b hb).1 with z | z
  ·exact hx z
  ·exact absurd (qD (qr e) z) (Nat.lt_irrefl _)
 have cellK:∀ x c,X.env.cells.lookup x=some c->∀ v,s.heap.IsCell c v->h'.IsCell c v:=fun x c e v ⟨o,ho,hd⟩=>by
  have nch:c∉ch:=fun z=>(hch c z).2.2.1 x c e rfl
  by_cases hc:c∈X.fs
  ·obtain⟨sl,q⟩:=slot c o (I.cne x c e) hc nch ho (I.freeC x c e)
   exact⟨_,q,hd⟩
  ·exact⟨o,keep c o (I.cne x c e) hc nch ho (I.freeC x c e),hd⟩
 refine⟨I.ok,I.os,hg,⟨fun b o e n hb hx=>?_,fun b o e n hb hx=>?_,fun b o e n hx=>?_,fun b o e hx=>?_,fun b xs e=>tups b xs (I.base.tups b xs e),fun b o xs e=>frzs b o xs (I.base.frzs b o xs e),fun b ps e=>?_⟩,?_,fun x c e=>?_,?_,fun x c e=>?_,fun p hp=>?_,hok,I.len⟩
 ·exact keep b o (neL b o e) hb (neC b o e hx) (I.base.keep b o e n hb hx) (I.base.free b o e n hx)
 ·obtain⟨sl,e1⟩:=I.base.slot b o e n hb hx
  obtain⟨sl',e2⟩:=slot b _ (neL b o e) hb (neC b o e hx) e1 (I.base.free b o e n hx)
  exact⟨sl',e2⟩
 ·obtain⟨o',e1⟩:=I.base.there b o e hx
  exact free b o' (neC b o e hx) e1 (I.base.free b o e n hx)
 ·obtain⟨o',e1⟩:=I.base.there b o e hx
  exact there b o' (neC b o e hx) e1
 ·obtain⟨m1,e1⟩:=I.base.tbls b ps e
  obtain⟨m2,e2⟩:=tbls b _ e1
  exact⟨m1++m2,by rw [e2,Array.append_assoc]⟩
 ·obtain⟨m,hn,hl⟩:=I.loc
  refine⟨m,ns m hn,fun i x v e1 e2 e3=>?_⟩
  obtain⟨u,r,l⟩:=hl i x v e1 e2 e3
  refine⟨u,r,?_⟩
  rcases l with l | ⟨k,c,e,z⟩
  ·exact .inl l
  ·exact .inr ⟨k,c,e,cellK x c e _ z⟩
 ·obtain⟨v,z⟩:=I.cell x c e
  exact⟨v,cellK x c e v z⟩
 ·obtain⟨m,⟨o,_,_,ho,_⟩,_⟩:=I.loc
  exact free _ o (fun z=>(hch _ z).2.1 rfl) ho I.free
 ·obtain⟨v,o,ho,hd⟩:=I.cell x c e
  exact free c o (fun z=>(hch c z).2.2.1 x c e rfl) ho (I.freeC x c e)
 ·obtain⟨e,n,ne,nf,d⟩:=I.pin p hp
  have nch:p.1∉ch:=fun z=>(hch p.1 z).2.2.2 p hp rfl
  exact⟨keep p.1 p.2 ne nf nch e n,free p.1 p.2 nch e n,ne,nf,d⟩
theorem Inv.un {t':Nat}(I:Inv X pins U H s)(u:Un X.fs [] H H' s.heap h')(hok:HOk X.prog X.w H' h'):Inv X pins U H' { s with heap:=h',toks:=t' }:=by
 obtain⟨m,⟨o,es,ep,ho,r⟩,_⟩:=id I.loc
 obtain⟨sl,hL⟩:=u.any ho I.free (by simp)
 exact I.step (g':=s.gens) (d':=s.drawn) (ch:=[]) (fun _ z=>nomatch z) (fun b o _ hb _ e n=>u.keep b o e n hb (by simp)) (fun b o _ hb _ e n=>u.slot b o e n hb (by simp)) (fun b o _ e n=>u.free b o e n (by simp)) (fun b o _ e=>u.there b o e (by simp)) u.tups u.frzs u.tbls (fun m' hm=>by
  obtain⟨o',es',ep',ho',r'⟩:=hm
  rw [ho] at ho';cases ho'
  exact⟨_,es',ep',hL,r'⟩) hok I.bare
theorem Inv.call {g':Array GenState}{t':Nat}{d':Drawn}{ch:List Addr}(I:Inv X pins U H s)(u:Un (frs X.stack) ch H H' s.heap h')(hok:HOk X.prog X.w H' h')(hg:AllBare g')
  (hch:∀ b∈ch,(b∈X.ex\/X.s₀.heap.objs.size<=b)/\b≠X.env.locals/\(∀ x c,X.env.cells.lookup x=some c->c≠b)/\∀ p∈X.pn++pins,p.1≠b) :
  Inv X pins U H' { s with heap:=h',gens:=g',drawn:=d',toks:=t' }:=by
 obtain⟨m,⟨o,es,ep,ho,r⟩,_⟩:=id I.loc
 obtain⟨sl,hL⟩:=u.any ho I.free fun z=>(hch _ z).2.1 rfl
 exact I.step (ch:=ch) hch (fun b o hL hb hc e n=>u.keep b o e n (fun z=>(qh.mp (I.stkSub b z)).elim hL hb) hc) (fun b o _ _ hc e n=>u.any e n hc) (fun b o hc e n=>u.free b o e n hc) (fun b o hc e=>u.there b o e hc) u.tups u.frzs u.tbls (fun m' hm=>by
  obtain⟨o',es',ep',ho',r'⟩:=hm
  rw [ho] at ho';cases ho'
  exact⟨_,es',ep',hL,r'⟩) hok hg
theorem Inv.turned {t':Nat}{it:Addr}(I:Inv X pins U H s)(k:∀ b o,b≠it->s.heap.get? b=some o->h'.get? b=some o)(hn:H it=none)(hL:it≠X.env.locals)
  (h1:it∈X.ex\/X.s₀.heap.objs.size<=it) (h2:∀ x c,X.env.cells.lookup x=some c->c≠it) (h3:∀ p∈X.pn++pins,p.1≠it):Inv X pins U H { s with heap:=h',toks:=t' }:=by
 have nit:∀ b u,H b=some u->b≠it:=fun b u e z=>by rw [z,hn] at e;cases e
 refine I.step (g':=s.gens) (d':=s.drawn) (ch:=[it]) (fun b hb=>?_) (fun b o _ _ hc e _=>k b o (fun z=>hc (by simp [z])) e) (fun b o _ _ hc e _=>⟨o.slots,k b o (fun z=>hc (by simp [z])) e⟩) (fun _ _ _ _ n=>n)
  (fun b o hc e=>⟨o,k b o (fun z=>hc (by simp [z])) e⟩) (fun _ _ e=>e) (fun _ _ _ e=>e) (fun b ps e=>⟨#[],by rw [e];simp⟩) (fun m hm=>?_) (fun b u e=>?_) I.bare
 ·have e:b=it:=by simpa using hb
  subst e
  exact⟨h1,hL,h2,h3⟩
 ·obtain⟨o,es,ep,ho,r⟩:=hm
  exact⟨o,es,ep,k _ o (Ne.symm hL) ho,r⟩
 ·refine (I.hok b u e).stay (fun c v hc q=>k c v ?_ q) (fun _ q=>q) fun _ _ q=>q
  rcases hc with z | z
  ·rw [z];exact nit b u e
  ·exact nit c _ z
theorem Inv.tok (I:Inv X pins U H s)(t:Nat):Inv X pins U H { s with toks:=t }:=I.un (h':=s.heap) (t':=t) Un.refl I.hok
theorem Inv.kept {t':Nat}(I:Inv X pins U H s)(k:∀ b u,s.heap.get? b=some u->h'.get? b=some u):Inv X pins U H { s with heap:=h',toks:=t' }:=I.un (Un.kept k) (I.hok.kept k)
theorem Inv.laid {a:Addr}{o:HO}{t':Nat}(I:Inv X pins U H s)(k:∀ b u,s.heap.get? b=some u->h'.get? b=some u)(hp:s.heap.objs.size<=a)(new:zaD X.prog X.w (upd H a o) h' a o) :
  Inv X pins U (upd H a o) { s with heap:=h',toks:=t' }:=I.un (Un.laid k hp (I.hok.fresh hp)) (I.hok.laid k hp new)
theorem Inv.write {x e:Addr}{o:HO}{t':Nat}(I:Inv X pins U H s)(mu:Mut (H x))(he:e=x\/H e=some (.own x))(k:∀ b u,b≠e->s.heap.get? b=some u->h'.get? b=some u)(heo:∃ u,h'.get? e=some u)
  (new:zaD X.prog X.w (upd H x o) h' x o):Inv X pins U (upd H x o) { s with heap:=h',toks:=t' }:=I.un (Un.write mu he k heo) (I.hok.write mu he k heo new)
theorem Inv.weak {σ':List (Option V)}(I:Inv X pins U H s)(hl:σ'.length=U.length)(w:∀ (i:Nat) v,σ'[i]?=some (some v)->U[i]?=some (some v)):Inv X pins σ' H s :=
 ⟨I.ok,I.os,I.bare,I.base,let ⟨m,hn,hl'⟩:=I.loc;⟨m,hn,fun i x v e1 e2 e3=>hl' i x v e1 (w i v e2) e3⟩,I.cell,I.free,I.freeC,I.pin,I.hok,hl.trans I.len⟩
theorem Inv.pins_of {pins':List (Addr×Obj)}(I:Inv X pins U H s)(h:∀ p∈pins',s.heap.get? p.1=some p.2/\H p.1=none/\p.1≠X.env.locals/\p.1∉X.fs/\∀ v,p.2.data≠.cell v):Inv X pins' U H s :=
 ⟨I.ok,I.os,I.bare,I.base,I.loc,I.cell,I.free,I.freeC,fun p hp=>(qF.mp hp).elim (fun z=>I.pin p (List.mem_append_left _ z)) (h p),I.hok,I.len⟩
theorem zm9 {N:List Str}(hN:N.Nodup){i j:Nat}{x:Str}(a:N[i]?=some x)(b:N[j]?=some x):i=j:=by
 obtain⟨h1,e1⟩:=qO.mp a
 obtain⟨h2,e2⟩:=qO.mp b
 exact (List.getElem_inj hN).mp (e1.trans e2.symm)
theorem zlm {M:Model}{A:Around}{E:Value->Shared->Prop}{i:Nat}{x:Str}{v:V}{u:Value}{Q:Unit->Shared->Prop}(I:Inv X pins U H s)(hN:X.N.Nodup)(hi:X.N[i]?=some x)(hx:Loc X.env.scope x)(r:RelV v u)
  (h:∀ s',Inv X pins (U.set i (some v)) H s'->(∃ a,Heap.SameBut a s.heap s'.heap/\(a=X.env.locals\/X.env.cells.lookup x=some a))->Q () s') (hf:X.fn x=true\/X.env.scope.names.lookup x=some .local:=by first | exact .inl rfl | exact .inr rfl | assumption):wpAny M A (storeName X.env x u) Q E s:=by
 obtain⟨m,hn,hl⟩:=id I.loc
 have hcls:(X.env.scope.kind==.class||(X.env.scope.kind==.module&&X.env.locals != X.env.globals))=false:=by rw [I.ok.kind];rfl
 have hiσ:i<U.length:=by rw [I.len];exact (qO.mp hi).1
 have cne:=I.cne
 have tracked:∀ {a:Addr} {h':Heap},(∃ o,s.heap.get? a=some o/\H a=none)->Heap.SameBut a s.heap h'->HOk X.prog X.w H h':=fun {a h'} ha hs b ob e=>by
  obtain⟨_,_,hfree⟩:=ha
  refine (I.hok b ob e).stay (fun c w' hc q=>(hs.2 c ?_).trans q) (fun _ q=>q) fun _ _ q=>q
  rintro rfl
  rcases hc with rfl | hc
  ·rw [hfree] at e;cases e
  ·rw [hfree] at hc;cases hc
 rcases hx with hk | hk
 ·refine wpAny_storeName_local hk hn (fun h' hn' hs=>?_) hcls
  obtain⟨oL,_,_,hoL,_⟩:=id hn
  refine h _ ⟨I.ok,I.os,I.bare,⟨fun b o e n hb hx=>?_,fun b o e n hb hx=>?_,I.base.free,fun b o e hx=>?_,I.base.tups,I.base.frzs,I.base.tbls⟩,⟨_,hn',fun j y v' e1 e2 e3=>?_⟩,fun y c e=>?_,I.free,I.freeC,fun p hp=>?_,tracked ⟨oL,hoL,I.free⟩ hs,by simpa using I.len⟩ ⟨_,hs,.inl rfl⟩
  ·exact (hs.2 b (qK (qD (qr e) I.ok.above))).trans (I.base.keep b o e n hb hx)
  ·obtain⟨sl,e1⟩:=I.base.slot b o e n hb hx
   exact⟨sl,(hs.2 b (qK (qD (qr e) I.ok.above))).trans e1⟩
  ·obtain⟨o',e1⟩:=I.base.there b o e hx
   exact⟨o',(hs.2 b (qK (qD (qr e) I.ok.above))).trans e1⟩
  ·by_cases hj:j=i
   ·subst hj
    rw [hi] at e1;cases e1
    rw [qL hiσ] at e2
    cases e2
    exact⟨u,r,.inl ⟨hk,by simp⟩⟩
   ·rw [List.getElem?_set_ne (Ne.symm hj)] at e2
    obtain⟨u',r',q⟩:=hl j y v' e1 e2 e3
    refine⟨u',r',?_⟩
    rcases q with ⟨k,e⟩ | ⟨k,c,e,z⟩
    ·refine .inl ⟨k,?_⟩
     have:y≠x:=fun e=>hj (zm9 hN e1 (e▸hi))
     simp [this,e]
    ·exact .inr ⟨k,c,e,z.sameBut hs (cne y c e)⟩
  ·obtain⟨w',z⟩:=I.cell y c e
   exact⟨w',z.sameBut hs (cne y c e)⟩
  ·obtain⟨e,n,ne,nf,d⟩:=I.pin p hp
   exact⟨(hs.2 p.1 ne).trans e,n,ne,nf,d⟩
 ·have hfn:X.fn x=true:=by
   rcases hf with z | z
   ·exact z
   ·rw [z] at hk;cases hk
  obtain⟨c,hc⟩:=I.ok.has x (.inl hk)
  obtain⟨w',z⟩:=I.cell x c hc
  refine wpAny_storeName_cell I.ok.kind hk hc z (fun h' hc' hs=>?_)
  obtain⟨oc,hoc,hocd⟩:=id z
  refine h { s with heap:=h' } ⟨I.ok,I.os,I.bare,⟨fun b o e n hb hx=>?_,fun b o e n hb hx=>?_,I.base.free,fun b o e hx=>?_,I.base.tups,I.base.frzs,I.base.tbls⟩,⟨m,hn.sameBut hs (Ne.symm (cne x c hc)),fun j y v' e1 e2 e3=>?_⟩,fun y c' e=>?_,I.free,I.freeC,fun p hp=>?_,tracked ⟨oc,hoc,I.freeC x c hc⟩ hs,by simpa using I.len⟩ ⟨c,hs,.inr hc⟩
  ·exact (hs.2 b (qK (qD (qr e) (I.ok.cab x c hfn hc)))).trans (I.base.keep b o e n hb hx)
  ·obtain⟨sl,e1⟩:=I.base.slot b o e n hb hx
   exact⟨sl,(hs.2 b (qK (qD (qr e) (I.ok.cab x c hfn hc)))).trans e1⟩
  ·obtain⟨o',e1⟩:=I.base.there b o e hx
   exact⟨o',(hs.2 b (qK (qD (qr e) (I.ok.cab x c hfn hc)))).trans e1⟩
  ·by_cases hj:j=i
   ·subst hj
    rw [hi] at e1;cases e1
    rw [qL hiσ] at e2
    cases e2
    exact⟨u,r,.inr ⟨.inl hk,c,hc,hc'⟩⟩
   ·rw [List.getElem?_set_ne (Ne.symm hj)] at e2
    obtain⟨u',r',q⟩:=hl j y v' e1 e2 e3
    refine⟨u',r',?_⟩
    rcases q with q | ⟨k,c',e,z'⟩
    ·exact .inl q
    ·refine .inr ⟨k,c',e,z'.sameBut hs ?_⟩
     rintro rfl
     exact hj (zm9 hN e1 (I.ok.inj _ _ _ e hc▸hi))
  ·by_cases hcc:c'=c
   ·subst hcc;exact⟨_,hc'⟩
   ·obtain⟨w2,z2⟩:=I.cell y c' e
    exact⟨w2,z2.sameBut hs hcc⟩
  ·obtain⟨e,n,ne,nf,d⟩:=I.pin p hp
   refine⟨(hs.2 p.1 ?_).trans e,n,ne,nf,d⟩
   intro q
   rw [q,hoc] at e
   have q':oc=p.2:=qA e
   exact d w' (by rw [<- q'];exact hocd)
theorem zi1 {M:Model}{A:Around}{E:Value->Shared->Prop}{i:Nat}{x:Str}{v:V}{u:Value}{Q:Unit->Shared->Prop}(I:Inv X pins U H s)(hN:X.N.Nodup)(hi:X.N[i]?=some x)(hx:Loc X.env.scope x)(r:RelV v u)
  (h:∀ s',Inv X pins (U.set i (some v)) H s'->Q () s') (hf:X.fn x=true\/X.env.scope.names.lookup x=some .local:=by first | exact .inl rfl | exact .inr rfl | assumption):wpAny M A (storeName X.env x u) Q E s :=
 zlm I hN hi hx r (fun s' I' _=>h s' I') hf
theorem Inv.call' {s':Shared}{ch:List Addr}(I:Inv X pins U H s)(ho:s'.os=s.os)(u:Un (frs X.stack) ch H H' s.heap s'.heap)(hok:HOk X.prog X.w H' s'.heap)(hg:AllBare s'.gens)
  (hch:∀ b∈ch,(b∈X.ex\/X.s₀.heap.objs.size<=b)/\b≠X.env.locals/\(∀ x c,X.env.cells.lookup x=some c->c≠b)/\∀ p∈X.pn++pins,p.1≠b):Inv X pins U H' s':=by
 obtain⟨h',g',d',t',o'⟩:=s'
 have e:o'=s.os:=ho
 subst e
 exact I.call (g':=g') (t':=t') (d':=d') u hok hg hch
end
abbrev XK:=Value->Option Addr->Hp->Prop
abbrev St:=List (Option V)
abbrev VK:=V->Hp->Prop
abbrev TE:=St->Hp->VK->Prop
abbrev TT:=St->Hp->(Bool->Hp->Prop)->Prop
abbrev TA:=St->Hp->(List V->Hp->Prop)->Prop
structure Ends where
 nx:St->Hp->Prop
 rt:VK
 bk:St->Hp->Prop:=fun _ _=>False
 ct:St->Hp->Prop:=fun _ _=>False
abbrev TS:=Ends->St->Hp->Prop
def EP (X:Cx)(pins:List (Addr×Obj))(U:St)(Q:VK)(u:Value)(s':Shared):Prop:=∃ v H',Inv X pins U H' s'/\RelV v u/\Q v H'
def TP (X:Cx)(pins:List (Addr×Obj))(U:St)(Q:Bool->Hp->Prop)(b:Bool)(s':Shared):Prop:=∃ H',Inv X pins U H' s'/\Q b H'
def AP (X:Cx)(pins:List (Addr×Obj))(U:St)(Q:List V->Hp->Prop)(us:List Value)(s':Shared):Prop:=∃ vs H',Inv X pins U H' s'/\Vals vs us/\Q vs H'
def SP (X:Cx)(pins:List (Addr×Obj))(D:Ends)(f:Flow)(s':Shared):Prop :=
 match f with
 | .next=>∃ σ' H',Inv X pins σ' H' s'/\D.nx σ' H'
 | .brk=>∃ σ' H',Inv X pins σ' H' s'/\D.bk σ' H'
 | .cont=>∃ σ' H',Inv X pins σ' H' s'/\D.ct σ' H'
 | .ret u=>∃ v σ' H',Inv X pins σ' H' s'/\RelV v u/\D.rt v H'
def PE (X:Cx)(e:Expr)(t:TE):Prop :=
 ∀ (pins:List (Addr×Obj)) (s:Shared) (U:St) (H:Hp) (Q:VK),Inv X pins U H s->t U H Q->wpAny (model X.prog X.w) X.A (eval e X.env) (EP X pins U Q) X.xe s
def PT (X:Cx)(e:Expr)(t:TT):Prop :=
 ∀ (pins:List (Addr×Obj)) (s:Shared) (U:St) (H:Hp) (Q:Bool->Hp->Prop),Inv X pins U H s->t U H Q->wpAny (model X.prog X.w) X.A (isTrue e X.env (eval e X.env)) (TP X pins U Q) X.xe s
def PW (X:Cx)(e:Expr)(t:TT):Prop :=
 ∀ (whole:Sem Value) (pins:List (Addr×Obj)) (s:Shared) (U:St) (H:Hp) (Q:Bool->Hp->Prop),Inv X pins U H s->t U H Q->wpAny (model X.prog X.w) X.A (isTrue e X.env whole) (TP X pins U Q) X.xe s
def PA (X:Cx)(es:List Expr)(t:TA):Prop :=
 ∀ (pos:Pos) (pins:List (Addr×Obj)) (s:Shared) (U:St) (H:Hp) (Q:List V->Hp->Prop),Inv X pins U H s->t U H Q->wpAny (model X.prog X.w) X.A (spliced (backTo pos (starEach es X.env))) (AP X pins U Q) X.xe s
def PS (X:Cx)(st:Stmt)(t:TS):Prop :=
 ∀ (pins:List (Addr×Obj)) (s:Shared) (U:St) (H:Hp) (D:Ends),Inv X pins U H s->t D U H->wpAny (model X.prog X.w) X.A (exec st X.env) (SP X pins D) X.xe s
def PSs (X:Cx)(st:List Stmt)(t:TS):Prop :=
 ∀ (pins:List (Addr×Obj)) (s:Shared) (U:St) (H:Hp) (D:Ends),Inv X pins U H s->t D U H->wpAny (model X.prog X.w) X.A (execs st X.env) (SP X pins D) X.xe s
theorem thn {α:Type}{t:Sem α}{Q Q':α->Shared->Prop}{M:Model}{A:Around}{E:Value->Shared->Prop}{s:Shared}(h:wpAny M A t Q E s)(hQ:∀ a s,Q a s->Q' a s):wpAny M A t Q' E s:=wpAny_mono h hQ fun _ _ x=>x
section
variable {X:Cx}
def zvd (i:Nat):TE:=fun U H Q=>∃ v,U[i]?=some (some v)/\Q v H
def tC (v:V):TE:=fun _ H Q=>Q v H
theorem zwv {i:Nat}{x:Str}{pos:Pos}(hN:X.N[i]?=some x)(hv:Vis X.env.scope x)(hd:(x==("__debug__":Str))=false:=by decide)(hcd:(x==("__classdict__":Str))=false:=by decide):PE X (.Name x pos) (zvd i):=by
 intro pins s U H Q I h
 obtain⟨v,e,h⟩:=h
 obtain⟨m,hn,hl⟩:=I.loc
 obtain⟨u,r,l⟩:=hl i x v hN e hv
 have fin:EP X pins U Q u s:=⟨v,H,I,r,h⟩
 rcases l with ⟨hk,hm⟩ | ⟨hk,c,hc,hcell⟩
 ·exact wpAny_Name (wpAny_loadName_local I.ok.kind hk hn hm fin) hd
 ·rcases hk with hk | hk
  ·exact wpAny_Name (wpAny_loadName_cell I.ok.kind hk hc hcell fin) hd
  ·exact wpAny_Name (wpAny_loadName_free I.ok.kind hk hc hcell fin hcd) hd
theorem zm3 {i j pos}:PE X (.Constant (.int i) j pos) (tC (.int i)):=fun _ _ _ H _ I h=>wpAny_Constant_int ⟨.int i,H,I.tok _,⟨_,rfl⟩,h⟩
theorem zxG {b j pos}:PE X (.Constant (.bool b) j pos) (tC (.bl b)):=fun _ _ _ H _ I h=>Constant_bool ⟨.bl b,H,I,rfl,h⟩
theorem zw0 {j pos}:PE X (.Constant .none j pos) (tC .non):=fun _ _ _ H _ I h=>Constant_none ⟨.non,H,I,rfl,h⟩
theorem zvb {x j pos}:PE X (.Constant (.str x) j pos) (tC (.str x)):=fun _ _ _ H _ I h=>Calls.Constant_str ⟨.str x,H,I.tok _,⟨_,rfl⟩,h⟩
def Gl (X:Cx)(x:Str):Prop:=X.env.kindOf x=some .globalImplicit
theorem zf9 {E:Value->Shared->Prop}{pins:List (Addr×Obj)}{s:Shared}{U:St}{H:Hp}{x:Str}{u:Value}{pos:Pos}{Q:Value->Shared->Prop}(I:Inv X pins U H s)(hg:Gl X x)(hm:X.mg x=some u)(h:Q u s)
  (hd:(x==("__debug__":Str))=false:=by decide):wpAny (model X.prog X.w) X.A (eval (.Name x pos) X.env) Q E s :=
 Calls.Name_function_global I.ok.kind hg (Calls.loadGlobal_global (by rw [I.ok.glob];exact I.mod.glob.keeps I.bk) hm h) hd
theorem zdT {E:Value->Shared->Prop}{pins:List (Addr×Obj)}{s:Shared}{U:St}{H:Hp}{x:Str}{u:Value}{pos:Pos}{Q:Value->Shared->Prop}(I:Inv X pins U H s)(hg:Gl X x)(hm:X.mg x=none)(hv:bootBuiltins x=some u)(h:Q u s)
  (hn:x≠"__name__":=by decide) (hd:(x==("__debug__":Str))=false:=by decide):wpAny (model X.prog X.w) X.A (eval (.Name x pos) X.env) Q E s:=by
 obtain⟨mb,h1,h2⟩:=I.mod.blt
 exact Calls.Name_function_global I.ok.kind hg (Calls.loadGlobal_builtin (by rw [I.ok.glob];exact I.mod.glob.keeps I.bk) hm (by rw [I.ok.blt];exact h1.keeps I.bk) ((h2 x hn).trans hv) h) hd
theorem znW {x:Str}{v:V}{u:Value}{pos:Pos}(hg:Gl X x)(hm:X.mg x=some u)(r:RelV v u)(hd:(x==("__debug__":Str))=false:=by decide):PE X (.Name x pos) (tC v) :=
 fun _ _ _ H _ I h=>zf9 I hg hm ⟨v,H,I,r,h⟩ hd
theorem ztH {x:Str}{v:V}{u:Value}{pos:Pos}(hg:Gl X x)(hm:X.mg x=none)(hv:bootBuiltins x=some u)(r:RelV v u)(hn:x≠"__name__":=by decide)(hd:(x==("__debug__":Str))=false:=by decide):PE X (.Name x pos) (tC v) :=
 fun _ _ _ H _ I h=>zdT I hg hm hv ⟨v,H,I,r,h⟩ hn hd
variable {a b:Expr}{ta tb:TE}{pos:Pos}
def tB (t:TE):TT:=fun U H Q=>t U H fun x H1=>∃ c,x=.bl c/\Q c H1
theorem zws {e:Expr}{t:TE}(h:PE X e t)(he:∀ whole,isTrue e X.env whole=(do let v <- whole;standAt e.pos;holding [v] (truthy v)):=by intro _;rfl):PT X e (tB t):=by
 intro pins s U H Q I hw
 refine isTrue_plain (thn (h pins s U H _ I hw) fun v s1 ⟨x,H1,I1,r1,q1⟩=>?_) (he _)
 obtain⟨d,rfl,q⟩:=q1
 cases r1
 exact wpAny_truthy_bool ⟨H1,I1,q⟩
variable {tA tB':TT}{rest:List Expr}
def zzl (t u:TT):TT:=fun U H Q=>t U H fun c H1=>if c=true then u U H1 Q else Q false H1
def tOr (t u:TT):TT:=fun U H Q=>t U H fun c H1=>if c=true then Q true H1 else u U H1 Q
def zzn (t:TT):TT:=fun U H Q=>t U H fun c H1=>Q (!c) H1
theorem ztE (ha:PT X a tA):PW X (.BoolOp .And [a] pos) tA:=by
 intro wh pins s U H Q I h
 refine isTrue_and (thn (ha pins s U H Q I h) fun c s1 e=>?_)
 cases c with
 | true=>exact isTrue_and_nil e
 | false=>exact e
theorem zvw (ha:PT X a tA):PW X (.BoolOp .Or [a] pos) tA:=by
 intro wh pins s U H Q I h
 refine isTrue_or (thn (ha pins s U H Q I h) fun c s1 e=>?_)
 cases c with
 | false=>exact isTrue_or_nil e
 | true=>exact e
theorem zvN (ha:PT X a tA)(hb:PW X (.BoolOp .And (b::rest) pos) tB'):PW X (.BoolOp .And (a::b::rest) pos) (zzl tA tB'):=by
 intro wh pins s U H Q I h
 refine isTrue_and (thn (ha pins s U H _ I h) fun c s1 ⟨H1,I1,q1⟩=>?_)
 cases c with
 | true=>exact hb wh pins s1 U H1 Q I1 q1
 | false=>exact⟨H1,I1,q1⟩
theorem zxH (ha:PT X a tA)(hb:PW X (.BoolOp .Or (b::rest) pos) tB'):PW X (.BoolOp .Or (a::b::rest) pos) (tOr tA tB'):=by
 intro wh pins s U H Q I h
 refine isTrue_or (thn (ha pins s U H _ I h) fun c s1 ⟨H1,I1,q1⟩=>?_)
 cases c with
 | true=>exact⟨H1,I1,q1⟩
 | false=>exact hb wh pins s1 U H1 Q I1 q1
theorem zwV (ha:PT X a tA):PT X (.UnaryOp .Not a pos) (zzn tA):=by
 intro pins s U H Q I h
 exact isTrue_not (ha pins s U H (fun c H1=>Q (!c) H1) I h)
def zyt (ta tb:TE):TE:=fun U H Q=>ta U H fun x H1=>∃ c,x=.bl c/\if c=true then tb U H1 Q else Q (.bl false) H1
def zzc (ta tb:TE):TE:=fun U H Q=>ta U H fun x H1=>∃ c,x=.bl c/\if c=true then Q (.bl true) H1 else tb U H1 Q
def zxw (ta:TE):TE:=fun U H Q=>ta U H fun x H1=>∃ c,x=.bl c/\Q (.bl (!c)) H1
theorem zvj {op}{t:TE}(h:PE X a t):PE X (.BoolOp op [a] pos) t:=fun pins s U H Q I hw=>BoolOp_one (h pins s U H Q I hw)
theorem zww (ha:PE X a ta)(hb:PE X (.BoolOp .And (b::rest) pos) tb):PE X (.BoolOp .And (a::b::rest) pos) (zyt ta tb):=by
 intro pins s U H Q I h
 refine BoolOp_and (thn (ha pins s U H _ I h) fun v s1 ⟨x,H1,I1,r1,q1⟩=>?_)
 obtain⟨c,rfl,q1⟩:=q1
 cases r1
 refine wpAny_truthy_bool ?_
 cases c with
 | true=>exact hb pins s1 U H1 Q I1 q1
 | false=>exact⟨.bl false,H1,I1,rfl,q1⟩
theorem zyz (ha:PE X a ta)(hb:PE X (.BoolOp .Or (b::rest) pos) tb):PE X (.BoolOp .Or (a::b::rest) pos) (zzc ta tb):=by
 intro pins s U H Q I h
 refine BoolOp_or (thn (ha pins s U H _ I h) fun v s1 ⟨x,H1,I1,r1,q1⟩=>?_)
 obtain⟨c,rfl,q1⟩:=q1
 cases r1
 refine wpAny_truthy_bool ?_
 cases c with
 | false=>exact hb pins s1 U H1 Q I1 q1
 | true=>exact⟨.bl true,H1,I1,rfl,q1⟩
theorem zvv (ha:PE X a ta):PE X (.UnaryOp .Not a pos) (zxw ta):=by
 intro pins s U H Q I h
 refine UnaryOp_ (thn (ha pins s U H _ I h) fun v s1 ⟨x,H1,I1,r1,q1⟩=>?_)
 obtain⟨c,rfl,q1⟩:=q1
 cases r1
 exact not_of (wpAny_truthy_bool ⟨.bl (!c),H1,I1,rfl,q1⟩)
def tIf (t:TT)(ta tb:TE):TE:=fun U H Q=>t U H fun c H1=>if c=true then ta U H1 Q else tb U H1 Q
theorem zsQ {c:Expr}(hc:PT X c tA)(ha:PE X a ta)(hb:PE X b tb):PE X (.IfExp c a b pos) (tIf tA ta tb):=by
 intro pins s U H Q I h
 refine wpAny_IfExp (thn (hc pins s U H _ I h) fun d s1 ⟨H1,I1,q1⟩=>?_)
 cases d with
 | true=>exact ha pins s1 U H1 Q I1 q1
 | false=>exact hb pins s1 U H1 Q I1 q1
end
def SqL (K:PySem.W.Frag)(H:Hp)(a:Addr)(xs:List V):Prop :=
 Rd H a (.lst xs) \/
  ∃ (o:Obj) (its:Array Value) (n:Nat),K.lookup a=some o/\o.cls=.type "list"/\o.dict=none/\o.data=.seq its n/\its.size<=sizeLine/\Vals xs its.toList
def SqT (K:PySem.W.Frag)(H:Hp)(a:Addr)(xs:List V):Prop :=
 Rd H a (.tup xs) \/
  ∃ (o:Obj) (its:Array Value) (n:Nat),K.lookup a=some o/\o.cls=.type "tuple"/\o.data=.seq its n/\its.size<=sizeLine/\Vals xs its.toList
def zy1:Value->Option V
 | .none=>some .non
 | .bool b=>some (.bl b)
 | .int i _=>some (.int i)
 | .str x _=>some (.str x)
 | .bytes b _=>some (.byt b)
 | .float b _=>some (.flt b)
 | .ref a=>some (.ref a)
 | .type n=>some (.ty n)
 | _=>none
theorem RelV.abs {x:V}{u:Value}(r:RelV x u):zy1 u=some x:=by
 cases x with
 | non=>cases r;rfl
 | bl _=>cases r;rfl
 | int _=>obtain⟨t,rfl⟩:=r;rfl
 | str _=>obtain⟨t,rfl⟩:=r;rfl
 | byt _=>obtain⟨t,rfl⟩:=r;rfl
 | flt _=>obtain⟨t,rfl⟩:=r;rfl
 | ref _=>cases r;rfl
 | ty _=>cases r;rfl
theorem RelV.inj {x y:V}{u:Value}(r:RelV x u)(q:RelV y u):x=y:=qA (r.abs.symm.trans q.abs)
theorem Vals.inj:∀ {xs ys:List V} {us:List Value},Vals xs us->Vals ys us->xs=ys
 | _,_,_,.nil,.nil=>rfl
 | _,_,_,.cons r t,.cons r' t'=>by rw [r.inj r',Vals.inj t t']
section
variable {X:Cx}{pins:List (Addr×Obj)}{U:St}{H:Hp}{s:Shared}{a:Addr}{xs ys:List V}
theorem SqL.of {K:PySem.W.Frag}(h:H a=some (.lst xs)):SqL K H a xs:=.inl (.inl h)
theorem SqT.of {K:PySem.W.Frag}(h:H a=some (.tup xs)):SqT K H a xs:=.inl (.inl h)
theorem Inv.list (I:Inv X pins U H s)(h:SqL X.K H a xs):∃ its:List Value,Vals xs its/\PlainL s.heap a its.toArray/\xs.length<=sizeLine:=by
 rcases h with h | ⟨o,its,n,hk,hc,hd,hs,hz,r⟩
 ·obtain⟨z,its,n,r,e⟩:=h.ok I.hok
  exact⟨its,r,⟨_,n,e,rfl,rfl,rfl⟩,z⟩
 ·refine⟨its.toList,r,⟨o,n,I.kIn a o hk,hc,hd,by simpa using hs⟩,?_⟩
  have e:=r.length
  simp only [qQ] at e
  lia
theorem Inv.tuple (I:Inv X pins U H s)(h:SqT X.K H a xs):∃ its:List Value,Vals xs its/\IsTup s.heap a its.toArray/\xs.length<=sizeLine:=by
 rcases h with h | ⟨o,its,n,hk,hc,hs,hz,r⟩
 ·obtain⟨z,its,r,p⟩:=h.ok I.hok
  exact⟨its,r,p,z⟩
 ·refine⟨its.toList,r,⟨o,I.kIn a o hk,hc,n,by simpa using hs⟩,?_⟩
  have e:=r.length
  simp only [qQ] at e
  lia
theorem Inv.list_inj (I:Inv X pins U H s)(h:SqL X.K H a xs)(h':SqL X.K H a ys):xs=ys:=by
 obtain⟨its,r,⟨o,n,e,_,_,d⟩,_⟩:=I.list h
 obtain⟨its',r',⟨o',n',e',_,_,d'⟩,_⟩:=I.list h'
 rw [e] at e';cases e'
 rw [d] at d'
 injection d' with d1 _
 have:its=its':=by simpa using congrArg Array.toList d1
 subst this
 exact r.inj r'
theorem Inv.tuple_inj (I:Inv X pins U H s)(h:SqT X.K H a xs)(h':SqT X.K H a ys):xs=ys:=by
 obtain⟨its,r,⟨o,e,_,n,d⟩,_⟩:=I.tuple h
 obtain⟨its',r',⟨o',e',_,n',d'⟩,_⟩:=I.tuple h'
 rw [e] at e';cases e'
 rw [d] at d'
 injection d' with d1 _
 have:its=its':=by simpa using congrArg Array.toList d1
 subst this
 exact r.inj r'
end
abbrev Cx.wish (X:Cx)(E:Value->Shared->Prop):Cx:={ X with xe:=E }
abbrev Cx.nox (X:Cx):Cx:=X.wish fun _ _=>False
theorem Cx.Ok.wish {X:Cx}(ok:X.Ok)(E:Value->Shared->Prop):(X.wish E).Ok :=
 ⟨ok.mod,ok.kind,ok.glob,ok.blt,ok.above,ok.inj,ok.has,ok.cab,ok.hd,ok.frames,ok.stk,ok.exf,ok.bs,ok.bsz,ok.noex,ok.exfs,ok.funs,ok.frf⟩
theorem Cx.Ok.unwish {X:Cx}{E:Value->Shared->Prop}(ok:(X.wish E).Ok):X.Ok :=
 ⟨ok.mod,ok.kind,ok.glob,ok.blt,ok.above,ok.inj,ok.has,ok.cab,ok.hd,ok.frames,ok.stk,ok.exf,ok.bs,ok.bsz,ok.noex,ok.exfs,ok.funs,ok.frf⟩
section
variable {X:Cx}{pins:List (Addr×Obj)}{U:St}{H:Hp}{s:Shared}{E:Value->Shared->Prop}
theorem Inv.wish (I:Inv X pins U H s)(E:Value->Shared->Prop):Inv (X.wish E) pins U H s:=⟨I.ok.wish E,I.os,I.bare,I.base,I.loc,I.cell,I.free,I.freeC,I.pin,I.hok,I.len⟩
theorem Inv.unwish (I:Inv (X.wish E) pins U H s):Inv X pins U H s:=⟨I.ok.unwish,I.os,I.bare,I.base,I.loc,I.cell,I.free,I.freeC,I.pin,I.hok,I.len⟩
theorem SP.unwish {D:Ends}{f:Flow}{s':Shared}(h:SP (X.wish E) pins D f s'):SP X pins D f s':=by
 cases f with
 | next=>obtain⟨σ',H',I,q⟩:=h;exact⟨σ',H',I.unwish,q⟩
 | brk=>obtain⟨σ',H',I,q⟩:=h;exact⟨σ',H',I.unwish,q⟩
 | cont=>obtain⟨σ',H',I,q⟩:=h;exact⟨σ',H',I.unwish,q⟩
 | ret u=>obtain⟨v,σ',H',I,r,q⟩:=h;exact⟨v,σ',H',I.unwish,r,q⟩
theorem PSs.nox {st:List Stmt}{t:TS}(h:PSs X.nox st t):PSs X st t:=fun pins s U H D I hw =>
 wpAny_mono (h pins s U H D (I.wish _) hw) (fun _ _ q=>q.unwish) fun _ _ z=>False.elim z
end
section
variable {X:Cx}{st:Stmt}{rest:List Stmt}{t u:TS}{e:Expr}{te:TE}{pos:Pos}
def zx3:TS:=fun D U H=>D.nx U H
def zzf (t u:TS):TS:=fun D U H=>t { D with nx:=u D } U H
theorem zul:PSs X [] zx3:=fun _ _ U H _ I h=>wpAny_execs_nil ⟨U,H,I,h⟩
theorem zrF (h1:PS X st t)(h2:PSs X rest u):PSs X (st::rest) (zzf t u):=by
 intro pins s U H D I h
 refine wpAny_execs_cons (thn (h1 pins s U H { D with nx:=u D } I h) fun f s1 q=>?_)
 cases f with
 | next =>
  obtain⟨σ',H',I',q⟩:=q
  exact h2 pins s1 σ' H' D I' q
 | ret v=>exact q
 | brk=>exact q
 | cont=>exact q
theorem zu2 (h1:PS X st t):PSs X [st] t:=by
 intro pins s U H D I h
 refine wpAny_execs_cons (thn (h1 pins s U H D I h) fun f s1 q=>?_)
 cases f with
 | next=>exact wpAny_execs_nil q
 | ret v=>exact q
 | brk=>exact q
 | cont=>exact q
theorem Inv.quiet {pins:List (Addr×Obj)}{U:St}{H:Hp}{s:Shared}(I:Inv X pins U H s):interactive X.env=false:=by simp [interactive,I.ok.kind]
def zyL (te:TE):TS:=fun D U H=>te U H fun _ H1=>D.nx U H1
theorem zuH (he:PE X e te)(hs:swapsWith e none pos.line X.env=pure false:=by rfl):PS X (.Expr e pos) (zyL te):=by
 intro pins s U H D I h
 exact wpAny_Expr_any (thn (he pins s U H _ I h) fun v s1 ⟨x,H1,I1,r1,q1⟩=>⟨U,H1,I1,q1⟩) I.quiet hs
def zzp (te:TE):TS:=fun D U H=>te U H D.rt
theorem zw6 (he:PE X e te):PS X (.Return (some e) pos) (zzp te):=by
 intro pins s U H D I h
 exact wpAny_Return_some (thn (he pins s U H _ I h) fun v s1 ⟨x,H1,I1,r1,q1⟩=>⟨x,U,H1,I1,r1,q1⟩)
def zyY (c:TT)(t u:TS):TS:=fun D U H=>c U H fun b H1=>if b=true then t D U H1 else u D U H1
theorem zyC {c:Expr}{a b:List Stmt}{tc:TT}(hc:PT X c tc)(ha:PSs X a t)(hb:PSs X b u):PS X (.If c a b pos) (zyY tc t u):=by
 intro pins s U H D I h
 refine wpAny_If (thn (hc pins s U H _ I h) fun d s1 ⟨H1,I1,q1⟩=>?_)
 cases d with
 | true=>exact ha pins s1 U H1 D I1 q1
 | false=>exact hb pins s1 U H1 D I1 q1
def zvA:TS:=fun _ _ _=>False
theorem zsc:PS X st zvA:=fun _ _ _ _ _ _ h=>h.elim
end
abbrev TG:=V->St->Hp->(St->Hp->Prop)->Prop
abbrev TGs:=List V->St->Hp->(St->Hp->Prop)->Prop
def PG (X:Cx)(target:Expr)(t:TG):Prop :=
 ∀ (pins:List (Addr×Obj)) (s:Shared) (U:St) (H:Hp) (v:V) (u:Value) (Q:St->Hp->Prop),Inv X pins U H s->RelV v u->t v U H Q ->
  wpAny (model X.prog X.w) X.A (assign target X.env u) (fun _ s'=>∃ σ' H',Inv X pins σ' H' s'/\Q σ' H') X.xe s
def PGs (X:Cx)(ts:List Expr)(t:TGs):Prop :=
 ∀ (pins:List (Addr×Obj)) (s:Shared) (U:St) (H:Hp) (vs:List V) (us:List Value) (Q:St->Hp->Prop),Inv X pins U H s->Vals vs us->t vs U H Q ->
  wpAny (model X.prog X.w) X.A (assignInOrder ((assignEach ts X.env).map (·.2)) us) (fun _ s'=>∃ σ' H',Inv X pins σ' H' s'/\Q σ' H') X.xe s
abbrev zsi:=V->V->V->Hp->(Hp->Prop)->Prop
def zwg (X:Cx)(t:zsi):Prop :=
 ∀ (pins:List (Addr×Obj)) (s:Shared) (U:St) (H:Hp) (o i v:V) (ov iv u:Value) (Q:Hp->Prop),Inv X pins U H s->RelV o ov->RelV i iv->RelV v u->t o i v H Q ->
  wpAny (model X.prog X.w) X.A (setItem ov iv u) (fun _ s'=>∃ H',Inv X pins U H' s'/\Q H') X.xe s
abbrev TIp:=V->V->Hp->VK->Prop
def PIp (X:Cx)(op:Operator)(t:TIp):Prop :=
 ∀ (pins:List (Addr×Obj)) (s:Shared) (U:St) (H:Hp) (x y:V) (v u:Value) (Q:VK),Inv X pins U H s->RelV x v->RelV y u->t x y H Q ->
  wpAny (model X.prog X.w) X.A (inplaceOp op v u) (EP X pins U Q) X.xe s
section
variable {X:Cx}{pos:Pos}
def zB (i:Nat):TG:=fun v U H Q=>Q (U.set i (some v)) H
theorem zar {i:Nat}{x:Str}(hN:X.N.Nodup)(hi:X.N[i]?=some x)(hx:Loc X.env.scope x)(hf:X.fn x=true\/X.env.scope.names.lookup x=some .local:=by first | exact .inl rfl | exact .inr rfl | assumption):PG X (.Name x pos) (zB i):=by
 intro pins s U H v u Q I r h
 exact wpAny_assign_Name (zi1 I hN hi hx r (fun s' I'=>⟨_,H,I',h⟩) hf)
def zb3:TGs:=fun vs U H Q=>vs=[]/\Q U H
def zah (t:TG)(u:TGs):TGs:=fun vs U H Q=>∃ v r,vs=v::r/\t v U H fun σ' H'=>u r σ' H' Q
theorem zgj:PGs X [] zb3:=by
 intro pins s U H vs us Q I r h
 obtain⟨e,h⟩:=h
 subst e
 cases r
 exact assignInOrder_nil ⟨U,H,I,h⟩
theorem zbH {e:Expr}{es:List Expr}{t:TG}{u:TGs}(h1:PG X e t)(h2:PGs X es u)
  (hs:(assignEach (e::es) X.env).map (·.2)=assign e X.env::(assignEach es X.env).map (·.2):=by rfl):PGs X (e::es) (zah t u):=by
 intro pins s U H vs us Q I r h
 obtain⟨v,vr,e1,h⟩:=h
 subst e1
 cases r with
 | cons r rr =>
  rw [hs]
  refine assignInOrder_cons (thn (h1 pins s U H _ _ _ I r h) fun _ s1 ⟨σ1,H1,I1,q1⟩=>?_)
  exact h2 pins s1 σ1 H1 _ _ Q I1 rr q1
def zbZ (K:PySem.W.Frag)(n:Nat)(t:TGs):TG:=fun v U H Q=>∃ a xs,v=.ref a/\SqT K H a xs/\xs.length=n/\t xs U H Q
theorem zhZ {es:List Expr}{k:Nat}{t:TGs}{n:Nat}(hc:X.calm=true)(h:PGs X es t)
  (hn:(assignEach es X.env).length=n:=by rfl) (hst:(assignEach es X.env).findIdx? (·.1)=none:=by rfl):PG X (.Tuple es k pos) (zbZ X.K n t):=by
 intro pins s U H v u Q I r hw
 obtain⟨a,xs,e1,hq,hl,hw⟩:=hw
 subst e1
 cases r
 obtain⟨its,rv,ht,hz⟩:=I.tuple hq
 refine assign_Tuple_tuple (I.ok.hd hc) ht (by simp [hn,<- hl,rv.length]) hst fun h' hx=>?_
 have I1:Inv X pins U H { s with heap:=h' }:=I.kept (t':=s.toks) fun b o e=>hx b o (qK (qr e)) e
 exact h pins _ U H xs _ Q I1 (by simpa using rv) hw
def zi3 (to ti:TE)(t:zsi):TG:=fun v U H Q=>to U H fun o H1=>ti U H1 fun i H2=>t o i v H2 fun H3=>Q U H3
theorem zwY {o i:Expr}{to ti:TE}{t:zsi}(ho:PE X o to)(hi:PE X i ti)(hs:zwg X t)
  (ha:∀ v,assign (.Subscript o i pos) X.env v=(do
   let ov <- holding [v] (eval o X.env)
   let iv <- holding [v,ov] (eval i X.env)
   standAt pos
   holding [v,ov,iv] (setItem ov iv v)
   release [v,ov,iv] []):=by intro _;rfl):PG X (.Subscript o i pos) (zi3 to ti t):=by
 intro pins s U H v u Q I r h
 rw [ha]
 refine wpAny_bind (wpAny_holding (thn (ho pins s U H _ I h) fun ov s1 ⟨x,H1,I1,r1,q1⟩=>?_))
 refine wpAny_bind (wpAny_holding (thn (hi pins s1 U H1 _ I1 q1) fun iv s2 ⟨y,H2,I2,r2,q2⟩=>?_))
 refine wpAny_bind (wpAny_standAt (wpAny_bind (wpAny_holding (thn (hs pins s2 U H2 x y v ov iv u _ I2 r1 r2 r q2) fun _ s3 ⟨H3,I3,q3⟩=>?_))))
 exact wpAny_release ⟨U,H3,I3,q3⟩
def zsj (te:TE)(g:TG):TS:=fun D U H=>te U H fun x H1=>g x U H1 D.nx
theorem zxb {tg e:Expr}{te:TE}{g:TG}(he:PE X e te)(hg:PG X tg g)(hs:swapsWithSole [tg] e pos.line X.env=pure false:=by rfl)(hw:swappedStores [tg] e X.env=pure none:=by rfl)
  (h1:(assignEach [tg] X.env).map (·.2)=[assign tg X.env]:=by rfl):PS X (.Assign [tg] e pos) (zsj te g):=by
 intro pins s U H D I h
 refine wpAny_Assign_stores (thn (he pins s U H _ I h) fun v s1 ⟨x,H1,I1,r1,q1⟩=>?_) hs hw
 rw [h1]
 exact thn (hg pins s1 U H1 x v _ I1 r1 q1) fun _ s2 q=>q
theorem zwW {i:Nat}{x:Str}{e:Expr}{te:TE}{pos':Pos}(hN:X.N.Nodup)(hi:X.N[i]?=some x)(hx:Loc X.env.scope x)(he:PE X e te)(hs:swapsWith e (some (.Name x pos')) pos.line X.env=pure false:=by rfl)(hf:X.fn x=true\/X.env.scope.names.lookup x=some .local:=by first | exact .inl rfl | exact .inr rfl | assumption) :
  PS X (.Assign [.Name x pos'] e pos) (zsj te (zB i)):=by
 intro pins s U H D I h
 refine wpAny_Assign_Name (thn (he pins s U H _ I h) fun v s1 ⟨y,H1,I1,r1,q1⟩=>?_) hs
 exact zi1 I1 hN hi hx r1 (fun s2 I2=>⟨_,H1,I2,q1⟩) hf
def zzo (i:Nat)(te:TE)(ti:TIp):TS:=fun D U H=>∃ x,U[i]?=some (some x)/\te U H fun y H1=>ti x y H1 fun z H2=>D.nx (U.set i (some z)) H2
theorem zv2 {i:Nat}{x:Str}{e:Expr}{te:TE}{op:Operator}{ti:TIp}{pos':Pos}(hN:X.N.Nodup)(hi:X.N[i]?=some x)(hx:Loc X.env.scope x)(he:PE X e te)(ho:PIp X op ti)(hf:X.fn x=true\/X.env.scope.names.lookup x=some .local:=by first | exact .inl rfl | exact .inr rfl | assumption) :
  PS X (.AugAssign (.Name x pos') op e pos) (zzo i te ti):=by
 intro pins s U H D I h
 obtain⟨v,e1,h⟩:=h
 obtain⟨m,hn,hl⟩:=I.loc
 have vis:Vis X.env.scope x:=by rcases hx with k | k;exact .inl k;exact .inr (.inl k)
 obtain⟨u,r,l⟩:=hl i x v hi e1 vis
 refine wpAny_AugAssign_Name ?_
 have go:wpAny (model X.prog X.w) X.A (eval e X.env) (fun w s₂=>wpAny (model X.prog X.w) X.A (inplaceOp op u w) (fun r s₃=>wpAny (model X.prog X.w) X.A (storeName X.env x r) (fun _=>SP X pins D .next) X.xe s₃) X.xe s₂) X.xe s:=by
  refine thn (he pins s U H _ I h) fun w s1 ⟨y,H1,I1,r1,q1⟩=>?_
  refine thn (ho pins s1 U H1 v y u w _ I1 r r1 q1) fun z s2 ⟨zv,H2,I2,r2,q2⟩=>?_
  exact zi1 I2 hN hi hx r2 (fun s3 I3=>⟨_,H2,I3,q2⟩) hf
 rcases l with ⟨hk,hm⟩ | ⟨hk,c,hc,hcell⟩
 ·exact wpAny_loadName_local I.ok.kind hk hn hm go
 ·rcases hk with hk | hk
  ·exact wpAny_loadName_cell I.ok.kind hk hc hcell go
  ·rcases hx with k | k
   ·have:X.env.scope.names.lookup x=some .free:=hk
    rw [k] at this;cases this
   ·have:X.env.scope.names.lookup x=some .free:=hk
    rw [k] at this;cases this
def ipI (f:Int->Int->Int):TIp:=fun x y H Q=>∃ i j,x=.int i/\y=.int j/\Q (.int (f i j)) H
theorem zwG:PIp X .Add (ipI fun i j=>i+j):=by
 intro pins s U H x y v u Q I r1 r2 h
 obtain⟨i,j,e1,e2,q⟩:=h
 subst e1;subst e2
 obtain⟨t,rfl⟩:=r1
 obtain⟨t',rfl⟩:=r2
 exact iadd_int ⟨.int _,H,I.tok _,⟨_,rfl⟩,q⟩
end
section
variable {X:Cx}{pos:Pos}
def zvL (c:TT)(tb:TS):TS:=fun D U H=>∃ W:Nat->St->Hp->Prop,(∃ m,W m U H)/\∀ m U H,W m U H ->
 c U H fun b H1=>if b=true then ∃ N:St->Hp->Prop,(∀ σ' H',N σ' H'->∃ m',m'<m/\W m' σ' H')/\tb { D with nx:=N,ct:=N,bk:=D.nx } U H1 else D.nx U H1
theorem zr4 {c:Expr}{body:List Stmt}{tc:TT}{tb:TS}(hp:PassesOwn (model X.prog X.w) X.A X.env X.xe)(hc:PT X c tc)(hb:PSs X body tb):PS X (.While c body [] pos) (zvL tc tb):=by
 intro pins s U H D I h
 obtain⟨W,⟨m0,w0⟩,turn⟩:=h
 refine wpAny_While (codeAny_whileLoop (fun n s'=>∃ σ' H',Inv X pins σ' H' s'/\W n σ' H') ?_ m0 ⟨U,H,I,w0⟩)
 rintro n s1 ⟨σ1,H1,I1,w1⟩
 refine wpAny_passesOwn hp (thn (hc pins s1 σ1 H1 _ I1 (turn n σ1 H1 w1)) fun b s2 ⟨H2,I2,q2⟩=>?_)
 cases b with
 | true =>
  obtain⟨N,hN,q2⟩:=q2
  rw [if_pos rfl]
  refine wpAny_passesOwn hp (thn (hb pins s2 σ1 H2 _ I2 q2) fun f s3 q3=>?_)
  cases f with
  | next =>
   obtain⟨σ3,H3,I3,n3⟩:=q3
   obtain⟨m',hm,w3⟩:=hN σ3 H3 n3
   exact⟨m',hm,σ3,H3,I3,w3⟩
  | cont =>
   obtain⟨σ3,H3,I3,n3⟩:=q3
   obtain⟨m',hm,w3⟩:=hN σ3 H3 n3
   exact⟨m',hm,σ3,H3,I3,w3⟩
  | brk=>exact q3
  | ret v=>exact q3
 | false =>
  rw [if_neg qq]
  exact wpAny_execs_nil ⟨σ1,H2,I2,q2⟩
end
structure It where
 go:Nat->Hp->Prop
 yld:Nat->Hp->V->Hp->Prop
 stop:Nat->Hp->Prop
def zfn (X:Cx)(pins:List (Addr×Obj))(H:Hp)(b:Addr):Prop :=
 H b=none/\b≠X.env.locals/\b∉X.fs/\(b∈X.ex\/X.s₀.heap.objs.size<=b)/\(∀ x c,X.env.cells.lookup x=some c->c≠b)/\∀ p∈X.pn++pins,p.1≠b
theorem Inv.fpOk {X:Cx}{pins:List (Addr×Obj)}{U:St}{H H':Hp}{s:Shared}{b:Addr}(I:Inv X pins U H s)(hb:s.heap.objs.size<=b)(hn:H' b=none):zfn X pins H' b:=by
 refine⟨hn,Nat.ne_of_gt (qD I.lt hb),I.nofs hb,.inr (Nat.le_trans I.sz hb),fun x c e z=>?_,fun p hp z=>?_⟩
 ·obtain⟨v,q⟩:=I.cell x c e
  exact absurd (qD q.lt (by rw [z];exact hb)) (Nat.lt_irrefl _)
 ·exact absurd (qD (qr (I.pin p hp).1) (by rw [z];exact hb)) (Nat.lt_irrefl _)
structure Turn (P:Program)(w:World)(K:PySem.W.Frag)(tg:Expr)(J:It)(fp:List Addr)(it:Addr)(tn:Nat->Heap->Prop):Prop where
 mem:it∈fp
 obj:∀ i h,tn i h->∀ b∈fp,∃ o,h.get? b=some o/\∀ v,o.data≠.cell v
 keep:∀ i h h',tn i h->(∀ b∈fp,∀ o,h.get? b=some o->h'.get? b=some o)->tn i h'
 item:∀ (X:Cx),X.prog=P->X.w=w->X.K=K->X.calm=true->∀ (i:Nat) (pins:List (Addr×Obj)) (s:Shared) (U:St) (H:Hp) (E:Value->Shared->Prop),Inv X pins U H s->(∀ b∈fp,zfn X pins H b)->tn i s.heap->J.go i H ->
  wpAny (model P w) X.A (pyNext (.ref it)) (fun r s1=>∃ u,r=some u /\
   wpAny (model P w) X.A (letOwnedTupleGo tg (.ref it) u) (fun _ s2=>∃ x H',Inv X pins U H' s2/\RelV x u/\J.yld i H x H'/\tn (i+1) s2.heap/\∀ b∈fp,H' b=none) E s1) E s
 done:∀ (X:Cx),X.prog=P->X.w=w->X.K=K->X.calm=true->∀ (i:Nat) (pins:List (Addr×Obj)) (s:Shared) (U:St) (H:Hp) (E:Value->Shared->Prop),Inv X pins U H s->(∀ b∈fp,zfn X pins H b)->tn i s.heap->J.stop i H ->
  wpAny (model P w) X.A (pyNext (.ref it)) (fun r s1=>r=none/\Inv X pins U H s1) E s
 self:∀ (A:Around) (i:Nat) (s:Shared) (Q:Value->Shared->Prop) (E:Value->Shared->Prop),tn i s.heap->Q (.ref it) s->wpAny (model P w) A (pyIter (.ref it)) Q E s
abbrev TI:=St->Hp->(It->Hp->Prop)->Prop
def PIE (X:Cx)(pins:List (Addr×Obj))(U:St)(tg:Expr)(R:It->Hp->Prop)(itv:Value)(s2:Shared):Prop :=
 ∃ (it:Addr) (fp:List Addr) (tn:Nat->Heap->Prop) (J:It) (H':Hp),itv=.ref it/\Inv X pins U H' s2/\Turn X.prog X.w X.K tg J fp it tn/\tn 0 s2.heap/\(∀ b∈fp,zfn X pins H' b)/\R J H'
def PI (X:Cx)(tg iter:Expr)(wi:TI):Prop :=
 ∀ (pins:List (Addr×Obj)) (s:Shared) (U:St) (H:Hp) (R:It->Hp->Prop),Inv X pins U H s->wi U H R ->
  wpAny (model X.prog X.w) X.A (eval iter X.env) (fun v s1=>wpAny (model X.prog X.w) X.A (pyIter v) (PIE X pins U tg R) X.xe s1) X.xe s
theorem ziD {M:Model}{A:Around}{E:Value->Shared->Prop}{s:Shared}{tg:Expr}{it:Addr}{u:Value}{o:Obj}{n:String}{vs:Array Value}{Q:Unit->Shared->Prop}(ho:s.heap.get? it=some o)(hc:o.cls=.type n)(hd:o.data=.fields vs)
    (hn:["enumerate","zip","dict_itemiterator","dict_reverseitemiterator","odict_iterator","itertools.zip_longest","itertools.pairwise"].contains n=false) (hQ:Q () s):wpAny M A (letOwnedTupleGo tg (.ref it) u) Q E s:=by
  unfold letOwnedTupleGo
  cases tg<;>first
    | exact wpAny_pure hQ
    | (cases u <;> first
        | exact wpAny_pure hQ
        | (refine wpAny_bind (wpAny_load ho ?_)
           rw [hc,hd]
           show wpAny M A (if (["enumerate","zip","dict_itemiterator","dict_reverseitemiterator","odict_iterator","itertools.zip_longest","itertools.pairwise"].contains n&&vs[0]?==some (rawInt _))=true then _ else _) Q E s
           rw [if_neg (by intro h;rw [hn,Bool.false_and] at h;cases h)]
           exact wpAny_pure hQ))
def Itl (K:PySem.W.Frag)(a:Addr):It :=
 ⟨fun i H=>∃ xs x,SqL K H a xs/\xs[i]?=some x,fun i H x H'=>H'=H/\∀ xs,SqL K H a xs->xs[i]?=some x,fun i H=>∃ xs,SqL K H a xs/\xs.length<=i⟩
def Itt (K:PySem.W.Frag)(a:Addr):It :=
 ⟨fun i H=>∃ xs x,SqT K H a xs/\xs[i]?=some x,fun i H x H'=>H'=H/\∀ xs,SqT K H a xs->xs[i]?=some x,fun i H=>∃ xs,SqT K H a xs/\xs.length<=i⟩
def Itr (lo:Int)(n:Nat):It:=⟨fun i _=>i<n,fun i H x H'=>H'=H/\x=.int (lo+i),fun i _=>n<=i⟩
theorem zpZ {P:Program}{w:World}{K:PySem.W.Frag}{tg:Expr}(a it:Addr):Turn P w K tg (Itl K a) [it] it (fun i h=>h.IsListIter it a i) where
 mem:=by simp
 obj:=fun i h st b hb=>by
  have e:b=it:=by simpa using hb
  subst e
  obtain⟨o,e,c,d⟩:=st
  exact⟨o,e,fun v z=>by rw [d] at z;cases z⟩
 keep:=fun i h h' st k=>st.at fun o e=>k it (by simp) o e
 item:=by
  intro X hP hw hK hc i pins s U H E I hf st hg
  subst hP hw hK
  obtain⟨xs,x,hq,hx⟩:=hg
  obtain⟨its,rv,p,hz⟩:=I.list hq
  obtain⟨u,hu,ru⟩:=rv.get hx
  obtain⟨f0,f1,f2,f3,f4,f5⟩:=hf it (by simp)
  refine wpAny_pyNext_list_item st p.isList (x:=u) (by simpa using hu) fun h' st' sb=>?_
  have I1:Inv X pins U H { s with heap:=h' }:=I.turned (t':=s.toks) (fun b o hb e=>(sb.2 b hb).trans e) f0 f1 f3 f4 f5
  obtain⟨o,e,c,d⟩:=id st'
  exact⟨u,rfl,ziD (s:={ s with heap:=h' }) e c d (by decide) ⟨x,H,I1,ru,⟨rfl,fun ys hy=>by rw [I.list_inj hy hq];exact hx⟩,st',fun b hb=>(hf b hb).1⟩⟩
 done:=by
  intro X hP hw hK hc i pins s U H E I hf st hg
  subst hP hw hK
  obtain⟨xs,hq,hx⟩:=hg
  obtain⟨its,rv,p,hz⟩:=I.list hq
  obtain⟨f0,f1,f2,f3,f4,f5⟩:=hf it (by simp)
  have hl:=rv.length
  exact wpAny_pyNext_list_end (I.ok.hd hc) st p.isList (by simp;lia) fun h' eb=>⟨rfl,I.turned (t':=s.toks) (fun b o hb e=>eb b o hb e) f0 f1 f3 f4 f5⟩
 self:=fun _ _ _ _ _ st h=>wpAny_pyIter_listiter st h
theorem zo8 {P:Program}{w:World}{K:PySem.W.Frag}{tg:Expr}(a it:Addr):Turn P w K tg (Itt K a) [it] it (fun i h=>h.IsTupleIter it a i) where
 mem:=by simp
 obj:=fun i h st b hb=>by
  have e:b=it:=by simpa using hb
  subst e
  obtain⟨o,e,c,d⟩:=st
  exact⟨o,e,fun v z=>by rw [d] at z;cases z⟩
 keep:=fun i h h' st k=>st.at fun o e=>k it (by simp) o e
 item:=by
  intro X hP hw hK hc i pins s U H E I hf st hg
  subst hP hw hK
  obtain⟨xs,x,hq,hx⟩:=hg
  obtain⟨its,rv,p,hz⟩:=I.tuple hq
  obtain⟨u,hu,ru⟩:=rv.get hx
  obtain⟨f0,f1,f2,f3,f4,f5⟩:=hf it (by simp)
  refine wpAny_pyNext_tuple_item st (show s.heap.IsTuple a its.toArray from p) (x:=u) (by simpa using hu) fun h' st' sb=>?_
  have I1:Inv X pins U H { s with heap:=h' }:=I.turned (t':=s.toks) (fun b o hb e=>(sb.2 b hb).trans e) f0 f1 f3 f4 f5
  obtain⟨o,e,c,d⟩:=id st'
  exact⟨u,rfl,ziD (s:={ s with heap:=h' }) e c d (by decide) ⟨x,H,I1,ru,⟨rfl,fun ys hy=>by rw [I.tuple_inj hy hq];exact hx⟩,st',fun b hb=>(hf b hb).1⟩⟩
 done:=by
  intro X hP hw hK hc i pins s U H E I hf st hg
  subst hP hw hK
  obtain⟨xs,hq,hx⟩:=hg
  obtain⟨its,rv,p,hz⟩:=I.tuple hq
  obtain⟨f0,f1,f2,f3,f4,f5⟩:=hf it (by simp)
  have hl:=rv.length
  exact wpAny_pyNext_tuple_end (I.ok.hd hc) st (show s.heap.IsTuple a its.toArray from p) (by simp;lia) fun h' eb=>⟨rfl,I.turned (t':=s.toks) (fun b o hb e=>eb b o hb e) f0 f1 f3 f4 f5⟩
 self:=fun _ _ _ _ _ st h=>wpAny_pyIter_tupleiter st h
theorem zj8 {P:Program}{w:World}{K:PySem.W.Frag}{tg:Expr}(it:Addr)(lo:Int)(n:Nat):Turn P w K tg (Itr lo n) [it] it (fun i h=>IsRangeIter h it (lo+(i:Nat)*1) ((n:Int)-(i:Nat)) 1) where
 mem:=by simp
 obj:=fun i h st b hb=>by
  have e:b=it:=by simpa using hb
  subst e
  exact⟨_,st,fun v z=>by
   have z':Data.fields _=Data.cell v:=z
   cases z'⟩
 keep:=fun i h h' st k=>k it (by simp) _ st
 item:=by
  intro X hP hw hK hc i pins s U H E I hf st hg
  subst hP hw hK
  obtain⟨f0,f1,f2,f3,f4,f5⟩:=hf it (by simp)
  have W:=Walks.range (prog:=X.prog) (w:=X.w) (I.ok.hd hc) it lo 1 n
  refine W.item i s _ _ hg st fun v h' tk hv st' kk=>?_
  obtain⟨t,rfl⟩:=hv
  have I1:Inv X pins U H { s with heap:=h',toks:=tk }:=I.turned (fun b o hb e=>kk b o (by simpa using hb) e) f0 f1 f3 f4 f5
  refine⟨_,rfl,ziD (s:={ s with heap:=h',toks:=tk }) (n:="range_iterator") st' rfl rfl (by decide) ⟨.int (lo+i),H,I1,⟨t,?_⟩,⟨rfl,rfl⟩,st',fun b hb=>(hf b hb).1⟩⟩
  rw [Int.mul_one]
 done:=by
  intro X hP hw hK hc i pins s U H E I hf st hg
  subst hP hw hK
  obtain⟨f0,f1,f2,f3,f4,f5⟩:=hf it (by simp)
  exact wpAny_pyNext_range_end (I.ok.hd hc) st (by have:n<=i:=hg;lia) fun h' eb=>⟨rfl,I.turned (t':=s.toks) (fun b o hb e=>eb b o hb e) f0 f1 f3 f4 f5⟩
 self:=fun _ _ _ _ _ st h=>wpAny_pyIter_rangeiter st h
section
variable {X:Cx}{tg:Expr}
theorem zsR {pins:List (Addr×Obj)}{U:St}{H:Hp}{s:Shared}{R:It->Hp->Prop}{E:Value->Shared->Prop}{lo hi:Int}{t u v:Tok}{tk:Nat}(I:Inv X pins U H s)(h1:-(2 ^ 62)<=lo)(h2:lo<2 ^ 62)(h3:-(2 ^ 62)<=hi)(h4:hi<2 ^ 62)
    (q:R (Itr lo (hi-lo).toNat) H):wpAny (model X.prog X.w) X.A (pyIter (.ref s.heap.objs.size)) (PIE X pins U tg R) E { s with heap:=s.heap.push { cls:=.type "range",data:=.fields #[.int lo t,.int hi u,.int 1 v] },toks:=tk }:=by
  refine wpAny_pyIter_range (IsRange.new ..) (small_one h1 h2 h3 h4) ?_
  have I1:Inv X pins U H { s with heap:=s.heap.push { cls:=.type "range",data:=.fields #[.int lo t,.int hi u,.int 1 v] },toks:=tk }:=I.kept fun b o e=>qd _ e
  refine⟨(s.heap.push { cls:=.type "range",data:=.fields #[.int lo t,.int hi u,.int 1 v] }).objs.size,[(s.heap.push { cls:=.type "range",data:=.fields #[.int lo t,.int hi u,.int 1 v] }).objs.size],_,_,H,rfl,
    I1.kept (t':=tk) fun b o e=>qd _ e,zj8 _ lo (hi-lo).toNat,?_,fun b hb=>?_,q⟩
  . have e1:lo+((0:Nat):Int)*1=lo:=by simp
    have e2:(((hi-lo).toNat:Nat):Int)-((0:Nat):Int)=Builtin.Range.rangeSize lo hi 1:=by rw [rangeSize_one];split<;>lia
    show IsRangeIter _ _ (lo+((0:Nat):Int)*1) ((((hi-lo).toNat:Nat):Int)-((0:Nat):Int)) 1
    rw [e1,e2]
    exact qp _ rfl
  . have e:b=(s.heap.push { cls:=.type "range",data:=.fields #[.int lo t,.int hi u,.int 1 v] }).objs.size:=by simpa using hb
    subst e
    exact I1.fpOk (qf _) (I1.hok.fresh (qf _))
def zhe (ta:TA):TI:=fun U H R=>ta U H fun vs H1=>∃ j:Int,vs=[.int j]/\-(2 ^ 62)<=j/\j<2 ^ 62/\R (Itr 0 j.toNat) H1
theorem zqX {a:Expr}{ta:TA}{p pos:Pos}(hg:Gl X "range")(hm:X.mg "range"=none)(ha:PA X [a] ta)(hs:starEach [a] X.env=[(false,eval a X.env)]:=by rfl):PI X tg (.Call (.Name "range" p) [a] [] pos) (zhe ta):=by
 intro pins s U H R I h
 refine Call_ (zdT I hg hm boot_range (PyProof.Rows.callWith_type1 (thn (ha pos pins s U H _ I h) fun us s1 ⟨vs,H1,I1,r1,q1⟩=>?_) hs rfl))
 obtain⟨j,e,q1,q2,q⟩:=q1
 subst e
 cases r1 with
 | cons r rr =>
  cases rr
  obtain⟨t,rfl⟩:=r
  exact call_range_1 (zsR I1 (by lia) (by lia) q1 q2 (by simpa using q))
def zzu (wi:TI)(g:TG)(tb:TS):TS:=fun D U H=>wi U H fun J H1=>∃ W:Nat->Nat->St->Hp->Prop,(∃ m,W 0 m U H1)/\∀ i m U H,W i m U H ->
 (J.stop i H/\D.nx U H)\/(J.go i H/\∃ N:St->Hp->Prop,(∀ σ' H',N σ' H'->∃ m',m'<m/\W (i+1) m' σ' H')/\∀ x H',J.yld i H x H'->g x U H' fun σ2 H2=>tb { D with nx:=N,ct:=N,bk:=D.nx } σ2 H2)
def zhL (fp:List Addr)(h:Heap):List (Addr×Obj):=fp.filterMap fun b=>(h.get? b).map fun o=>(b,o)
theorem ze0 {fp:List Addr}{h:Heap}{b:Addr}{o:Obj}(hb:b∈fp)(e:h.get? b=some o):(b,o)∈zhL fp h:=List.mem_filterMap.mpr ⟨b,hb,by rw [e];rfl⟩
theorem zra {fp:List Addr}{h:Heap}{p:Addr×Obj}(hp:p∈zhL fp h):p.1∈fp/\h.get? p.1=some p.2:=by
 obtain⟨b,hb,e⟩:=List.mem_filterMap.mp hp
 cases q:h.get? b with
 | none=>rw [q] at e;cases e
 | some o =>
  rw [q] at e
  have e':(b,o)=p:=qA e
  subst e'
  exact⟨hb,q⟩
theorem Inv.pinned {pins:List (Addr×Obj)}{U:St}{H:Hp}{s:Shared}{fp:List Addr}(I:Inv X pins U H s)(hf:∀ b∈fp,zfn X pins H b)(ho:∀ b∈fp,∃ o,s.heap.get? b=some o/\∀ v,o.data≠.cell v):Inv X (pins++zhL fp s.heap) U H s :=
 I.pins_of fun p hp=>(qF.mp hp).elim (fun z=>I.pin p (List.mem_append_right _ z)) fun z=>by
  obtain⟨hb,e⟩:=zra z
  obtain⟨f0,f1,f2,_⟩:=hf p.1 hb
  obtain⟨o,e',d⟩:=ho p.1 hb
  rw [e] at e';cases e'
  exact⟨e,f0,f1,f2,d⟩
theorem Inv.unpinned {pins pl:List (Addr×Obj)}{U:St}{H:Hp}{s:Shared}(I:Inv X (pins++pl) U H s):Inv X pins U H s:=I.pins_of fun p hp=>I.pin p (List.mem_append_right _ (List.mem_append_left _ hp))
theorem zvG {iter:Expr}{body:List Stmt}{wi:TI}{g:TG}{tb:TS}{pos:Pos}(hp:PassesOwn (model X.prog X.w) X.A X.env X.xe)(hc:X.calm=true)(hi:PI X tg iter wi)(hg:PG X tg g)(hb:PSs X body tb)
  (hs:∀ x,foldedSetIterable iter X.env x=pure x:=by intro _;rfl):PS X (.For tg iter body [] pos) (zzu wi g tb):=by
 intro pins s U H D I h
 refine wpAny_For (thn (hi pins s U H _ I h) fun v s1 h1=>thn h1 fun itv s2 h2=>?_) hs
 obtain⟨it,fp,tn,J,H2,e,I2,T,st2,f2,W,⟨m0,w0⟩,turn⟩:=h2
 subst e
 have stat:∀ {H':Hp},(∀ b∈fp,H' b=none)->∀ b∈fp,zfn X pins H' b:=fun hn b hb=>⟨hn b hb,(f2 b hb).2⟩
 refine codeAny_forLoop_any (fun n s'=>∃ i σ' H',Inv X pins σ' H' s'/\tn i s'.heap/\(∀ b∈fp,H' b=none)/\W i n σ' H') ?_ m0 ⟨0,U,H2,I2,st2,fun b hb=>(f2 b hb).1,w0⟩
 rintro n s3 ⟨i,σ3,H3,I3,st3,fr3,w3⟩
 rcases turn i n σ3 H3 w3 with ⟨stop,qn⟩ | ⟨go,N,hN,step⟩
 ·refine wpAny_passesOwn hp (thn (T.done X rfl rfl rfl hc i pins s3 σ3 H3 X.xe I3 (stat fr3) st3 stop) fun r s4 ⟨hr,I4⟩=>?_)
  subst hr
  exact wpAny_execs_nil ⟨σ3,H3,I4,qn⟩
 ·refine wpAny_passesOwn hp (thn (T.item X rfl rfl rfl hc i pins s3 σ3 H3 X.xe I3 (stat fr3) st3 go) fun r s4 ⟨u,hr,h4⟩=>?_)
  subst hr
  refine wpAny_passesOwn hp (thn h4 fun _ s5 ⟨x,H5,I5,r5,y5,st5,fr5⟩=>?_)
  have I5':=I5.pinned (stat fr5) (T.obj _ _ st5)
  refine wpAny_passesOwn hp (thn (hg _ s5 σ3 H5 x u _ I5' r5 (step x H5 y5)) fun _ s6 ⟨σ6,H6,I6,q6⟩=>?_)
  refine wpAny_passesOwn hp (thn (hb _ s6 σ6 H6 _ I6 q6) fun f s7 q7=>?_)
  have again:∀ {σ7:St} {H7:Hp},Inv X (pins++zhL fp s5.heap) σ7 H7 s7->N σ7 H7->∃ m,m<n/\∃ i σ' H',Inv X pins σ' H' s7/\tn i s7.heap/\(∀ b∈fp,H' b=none)/\W i m σ' H':=fun {σ7 H7} I7 n7=>by
   obtain⟨m',hm,w7⟩:=hN σ7 H7 n7
   refine⟨m',hm,i+1,σ7,H7,I7.unpinned,T.keep _ _ _ st5 fun b hb o e=>(I7.pin (b,o) (List.mem_append_right _ (List.mem_append_right _ (ze0 hb e)))).1,fun b hb=>?_,w7⟩
   obtain⟨o,e,d⟩:=T.obj _ _ st5 b hb
   exact (I7.pin (b,o) (List.mem_append_right _ (List.mem_append_right _ (ze0 hb e)))).2.1
  cases f with
  | next=>obtain⟨σ7,H7,I7,n7⟩:=q7;exact again I7 n7
  | cont=>obtain⟨σ7,H7,I7,n7⟩:=q7;exact again I7 n7
  | brk=>obtain⟨σ7,H7,I7,q7⟩:=q7;exact⟨σ7,H7,I7.unpinned,q7⟩
  | ret v=>obtain⟨x7,σ7,H7,I7,r7,q7⟩:=q7;exact⟨x7,σ7,H7,I7.unpinned,r7,q7⟩
end
abbrev R2:=V->V->Hp->VK->Prop
def OpR (X:Cx)(f:Value->Value->Sem Value)(r:R2):Prop :=
 ∀ (pins:List (Addr×Obj)) (s:Shared) (U:St) (H:Hp) (x y:V) (v u:Value) (Q:VK),Inv X pins U H s->RelV x v->RelV y u->r x y H Q ->
  wpAny (model X.prog X.w) X.A (f v u) (EP X pins U Q) X.xe s
def UnR (X:Cx)(f:Value->Sem Value)(r:V->Hp->VK->Prop):Prop :=
 ∀ (pins:List (Addr×Obj)) (s:Shared) (U:St) (H:Hp) (x:V) (v:Value) (Q:VK),Inv X pins U H s->RelV x v->r x H Q ->
  wpAny (model X.prog X.w) X.A (f v) (EP X pins U Q) X.xe s
def zaO (X:Cx)(f:Value)(r:List V->Hp->VK->Prop):Prop :=
 ∀ (pins:List (Addr×Obj)) (s:Shared) (U:St) (H:Hp) (xs:List V) (us:List Value) (Q:VK),Inv X pins U H s->Vals xs us->r xs H Q ->
  wpAny (model X.prog X.w) X.A (call f us) (EP X pins U Q) X.xe s
def tOp (r:R2)(ta tb:TE):TE:=fun U H Q=>ta U H fun x H1=>tb U H1 fun y H2=>r x y H2 Q
def tUn (r:V->Hp->VK->Prop)(ta:TE):TE:=fun U H Q=>ta U H fun x H1=>r x H1 Q
def rI (C:Int->Int->Prop)(g:Int->Int->V):R2:=fun x y H Q=>∃ i j,x=.int i/\y=.int j/\C i j/\Q (g i j) H
def rI0 (g:Int->Int->V):R2:=fun x y H Q=>∃ i j,x=.int i/\y=.int j/\Q (g i j) H
def rU (g:Int->V):V->Hp->VK->Prop:=fun x H Q=>∃ i,x=.int i/\Q (g i) H
section
variable {X:Cx}{a b c:Expr}{ta tb tc:TE}{pos:Pos}
theorem zrZ (ha:PE X a ta)(hb:PE X b tb){pins:List (Addr×Obj)}{s:Shared}{U:St}{H:Hp}{R:V->V->Hp->Prop}(I:Inv X pins U H s)
  (h:ta U H fun x H1=>tb U H1 fun y H2=>R x y H2) {Q:Value->Shared->Prop} {f:Value->Value->Sem Value}
  (hf:∀ v u s2 x y H2,Inv X pins U H2 s2->RelV x v->RelV y u->R x y H2->wpAny (model X.prog X.w) X.A (f v u) Q X.xe s2) :
  wpAny (model X.prog X.w) X.A (eval a X.env) (fun v s₁=>wpAny (model X.prog X.w) X.A (eval b X.env) (fun u s₂=>wpAny (model X.prog X.w) X.A (f v u) Q X.xe s₂) X.xe s₁) X.xe s:=by
 refine thn (ha pins s U H _ I h) fun v s1 ⟨x,H1,I1,r1,q1⟩=>?_
 refine thn (hb pins s1 U H1 _ I1 q1) fun u s2 ⟨y,H2,I2,r2,q2⟩=>?_
 exact hf v u s2 x y H2 I2 r1 r2 q2
theorem ztj {op:Operator}{r:R2}(ho:OpR X (binaryOp op) r)(ha:PE X a ta)(hb:PE X b tb):PE X (.BinOp a op b pos) (tOp r ta tb):=by
 intro pins s U H Q I h
 exact wpAny_BinOp (zrZ ha hb I h fun v u s2 x y H2 I2 rx ry q=>ho pins s2 U H2 x y v u Q I2 rx ry q)
theorem zxE {op:UnaryOp}{r:V->Hp->VK->Prop}(ho:UnR X (unaryOp op) r)(ha:PE X a ta):PE X (.UnaryOp op a pos) (tUn r ta):=by
 intro pins s U H Q I h
 exact UnaryOp_ (thn (ha pins s U H _ I h) fun v s1 ⟨x,H1,I1,r1,q1⟩=>ho pins s1 U H1 x v Q I1 r1 q1)
theorem opI {f:Value->Value->Sem Value}{C:Int->Int->Prop}{g:Int->Int->Int}
  (rule:∀ (i j:Int) (t u:Tok) (s:Shared) (Q:Value->Shared->Prop) (E:Value->Shared->Prop),C i j->Q (.int (g i j) s.toks) { s with toks:=s.toks+1 }->wpAny (model X.prog X.w) X.A (f (.int i t) (.int j u)) Q E s) :
  OpR X f (rI C fun i j=>.int (g i j)):=by
 intro pins s U H x y v u Q I rx ry h
 obtain⟨i,j,rfl,rfl,hc,q⟩:=h
 obtain⟨t,rfl⟩:=rx
 obtain⟨t',rfl⟩:=ry
 exact rule i j t t' s _ _ hc ⟨.int (g i j),H,I.tok _,⟨_,rfl⟩,q⟩
theorem zvQ {f:Value->Value->Sem Value}{g:Int->Int->Int}
  (rule:∀ (i j:Int) (t u:Tok) (s:Shared) (Q:Value->Shared->Prop) (E:Value->Shared->Prop),Q (.int (g i j) s.toks) { s with toks:=s.toks+1 }->wpAny (model X.prog X.w) X.A (f (.int i t) (.int j u)) Q E s) :
  OpR X f (rI0 fun i j=>.int (g i j)):=by
 intro pins s U H x y v u Q I rx ry h
 obtain⟨i,j,rfl,rfl,q⟩:=h
 obtain⟨t,rfl⟩:=rx
 obtain⟨t',rfl⟩:=ry
 exact rule i j t t' s _ _ ⟨.int (g i j),H,I.tok _,⟨_,rfl⟩,q⟩
theorem zsB {f:Value->Value->Sem Value}{g:Int->Int->Bool}
  (rule:∀ (i j:Int) (t u:Tok) (s:Shared) (Q:Value->Shared->Prop) (E:Value->Shared->Prop),Q (.bool (g i j)) s->wpAny (model X.prog X.w) X.A (f (.int i t) (.int j u)) Q E s) :
  OpR X f (rI0 fun i j=>.bl (g i j)):=by
 intro pins s U H x y v u Q I rx ry h
 obtain⟨i,j,rfl,rfl,q⟩:=h
 obtain⟨t,rfl⟩:=rx
 obtain⟨t',rfl⟩:=ry
 exact rule i j t t' s _ _ ⟨.bl (g i j),H,I,rfl,q⟩
def zzi (i j:Int):Prop:=0<=j/\j<=1000000/\i.natAbs<2 ^ 64
def zo3 (i j:Int):Prop:=(-(2 ^ 64)<i/\i<2 ^ 64)\/(-(2 ^ 64)<j/\j<2 ^ 64)
theorem zo3.ok {i j:Int}(h:zo3 i j):IntMulOk i j:=by
 rcases h with ⟨h1,h2⟩ | ⟨h1,h2⟩
 ·exact .of_left (intBits_le_64 h1 h2)
 ·exact .of_right (intBits_le_64 h1 h2)
theorem zwk:OpR X (binaryOp .Add) (rI0 fun i j=>.int (i+j)):=zvQ fun _ _ _ _ _ _ _ q=>add_int q
theorem zu9:OpR X (binaryOp .Sub) (rI0 fun i j=>.int (i-j)):=zvQ fun _ _ _ _ _ _ _ q=>sub_int q
theorem zt8:OpR X (binaryOp .Mod) (rI (fun _ j=>j≠0) fun i j=>.int (i.fmod j)):=opI fun _ _ _ _ _ _ _ hc q=>mod_int' hc q
theorem zvm:OpR X (binaryOp .Pow) (rI zzi fun i j=>.int (i ^ j.toNat)):=opI fun _ _ _ _ _ _ _ hc q=>pow_int_small hc.1 hc.2.1 hc.2.2 q
theorem unI {f:Value->Sem Value}{g:Int->Int}
  (rule:∀ (i:Int) (t:Tok) (s:Shared) (Q:Value->Shared->Prop) (E:Value->Shared->Prop),Q (.int (g i) s.toks) { s with toks:=s.toks+1 }->wpAny (model X.prog X.w) X.A (f (.int i t)) Q E s) :
  UnR X f (rU fun i=>.int (g i)):=by
 intro pins s U H x v Q I rx h
 obtain⟨i,rfl,q⟩:=h
 obtain⟨t,rfl⟩:=rx
 exact rule i t s _ _ ⟨.int (g i),H,I.tok _,⟨_,rfl⟩,q⟩
theorem zvY:UnR X (unaryOp .USub) (rU fun i=>.int (-i)):=unI fun _ _ _ _ _ q=>neg_int q
end
section
variable {X:Cx}{a b c:Expr}{ta tb tc:TE}{pos:Pos}
theorem zqr {pins:List (Addr×Obj)}{U:St}{H:Hp}{s:Shared}{Q:VK}{k k':Bool}(I:Inv X pins U H s)(q:Q (.bl k) H)(e:k=k'):EP X pins U Q (.bool k') s:=by
 subst e
 exact⟨.bl k,H,I,rfl,q⟩
theorem zyf:OpR X (compareOp .Lt) (rI0 fun i j=>.bl (decide (i<j))):=zsB fun _ _ _ _ _ _ _ q=>lt_int q
theorem zx2:OpR X (compareOp .LtE) (rI0 fun i j=>.bl (decide (i<=j))):=zsB fun _ _ _ _ _ _ _ q=>le_int q
theorem zyk:OpR X (compareOp .Gt) (rI0 fun i j=>.bl (decide (j<i))):=zsB fun _ _ _ _ _ _ _ q=>gt_int q
theorem zqH:OpR X (compareOp .In) (fun x y H Q=>∃ i j,x=.str i/\y=.str j/\Q (.bl (!(Builtin.Str.occurrences j i 0 j.length 1).isEmpty)) H):=by
 intro pins s U H x y v u Q I rx ry h
 obtain⟨i,j,rfl,rfl,q⟩:=h
 obtain⟨t,rfl⟩:=rx
 obtain⟨t',rfl⟩:=ry
 exact in_str (zqr I q rfl)
theorem zu7:OpR X (compareOp .IsNot) (fun x y H Q=>y=.non/\Q (.bl (!decide (x=.non))) H):=by
  intro pins s U H x y v u Q I rx ry h
  obtain⟨rfl,q⟩:=h
  cases ry
  refine isnot_none_gen (zqr I q ?_)
  cases x<;>first
    | (cases rx;rfl)
    | (obtain⟨t,rfl⟩:=rx;rfl)
theorem OpR.or {f:Value->Value->Sem Value}{r r':R2}(h:OpR X f r)(h':OpR X f r'):OpR X f (fun x y H Q=>r x y H Q\/r' x y H Q):=by
 intro pins s U H x y v u Q I rx ry q
 rcases q with q | q
 ·exact h pins s U H x y v u Q I rx ry q
 ·exact h' pins s U H x y v u Q I rx ry q
theorem zqE (b:Expr){op:CmpOp}(h:op≠.In:=by decide)(h2:op≠.NotIn:=by decide):behindInMarks op b=false:=by
  have e1:(op==CmpOp.In)=false:=by cases op<;>first | rfl | exact absurd rfl h
  have e2:(op==CmpOp.NotIn)=false:=by cases op<;>first | rfl | exact absurd rfl h2
  cases b<;>simp [behindInMarks,e1,e2]
theorem zn7 {op:CmpOp}{r:R2}(ho:OpR X (compareOp op) r)(ha:PE X a ta)(hb:PE X b tb)(hm:behindInMarks op b=false):PE X (.Compare a [op] [b] pos) (tOp r ta tb):=by
 intro pins s U H Q I h
 exact wpAny_Compare1 (zrZ ha hb I h fun v u s2 x y H2 I2 rx ry q=>ho pins s2 U H2 x y v u Q I2 rx ry q) hm
def zte (t:TE):TT:=fun U H Q=>t U H fun x H'=>∃ k,x=.bl k/\Q k H'
theorem zuO {op:CmpOp}{r:R2}(ho:OpR X (compareOp op) r)(ha:PE X a ta)(hb:PE X b tb)(hm:behindInMarks op b=false):PT X (.Compare a [op] [b] pos) (zte (tOp r ta tb)):=by
 intro pins s U H Q I h
 refine wpAny_isTrue_Compare1 (thn (ha pins s U H _ I h) fun v s1 ⟨x,H1,I1,r1,q1⟩=>thn (hb pins s1 U H1 _ I1 q1) fun u s2 ⟨y,H2,I2,r2,q2⟩ =>
  thn (ho pins s2 U H2 x y v u _ I2 r1 r2 q2) fun c s3 ⟨z,H3,I3,r3,k,e,q3⟩=>?_) hm
 subst e
 cases r3
 exact wpAny_truthy_bool ⟨H3,I3,q3⟩
def zp9 (r r':R2)(ta tb tc:TE):TE:=fun U H Q=>ta U H fun x H1=>tb U H1 fun y H2=>r x y H2 fun z H3=>∃ k,z=.bl k /\
 (if k=true then tc U H3 fun w' H4=>r' y w' H4 Q else Q (.bl false) H3)
theorem zrB {op op':CmpOp}{r r':R2}(ho:OpR X (compareOp op) r)(ho':OpR X (compareOp op') r')(ha:PE X a ta)(hb:PE X b tb)(hc:PE X c tc)
  (hm:lastMarks [op,op'] [b,c]=false:=by with_unfolding_all rfl):PT X (.Compare a [op,op'] [b,c] pos) (zte (zp9 r r' ta tb tc)):=by
 intro pins s U H Q I h
 refine isTrue_chain (thn (ha pins s U H _ I h) fun v s1 ⟨x,H1,I1,r1,q1⟩=>test_link (thn (hb pins s1 U H1 _ I1 q1) fun u s2 ⟨y,H2,I2,r2,q2⟩ =>
  thn (ho pins s2 U H2 x y v u _ I2 r1 r2 q2) fun d s3 ⟨z,H3,I3,r3,k,e,q3⟩=>?_)) hm
 subst e
 cases r3
 refine wpAny_truthy_bool ?_
 cases k with
 | false =>
  obtain⟨k',e',q'⟩:=q3
  cases e'
  exact ite_ff ⟨H3,I3,q'⟩
 | true =>
  refine ite_tt (test_last (thn (hc pins s3 U H3 _ I3 q3) fun w' s4 ⟨z',H4,I4,r4,q4⟩=>thn (ho' pins s4 U H4 y z' u w' _ I4 r2 r4 q4) fun d' s5 ⟨z2,H5,I5,r5,k2,e2,q5⟩=>?_))
  subst e2
  cases r5
  exact wpAny_truthy_bool ⟨H5,I5,q5⟩
theorem zgh:(sizeLine:Nat)<2 ^ 63:=by rw [sizeLine_eq];decide
theorem zpf:OpR X (binaryOp .Add) (fun x y H Q=>∃ i j,x=.str i/\y=.str j/\i.length+j.length<=sizeLine/\Q (.str (i++j)) H):=by
 intro pins s U H x y v u Q I rx ry h
 obtain⟨i,j,rfl,rfl,hz,q⟩:=h
 obtain⟨t,rfl⟩:=rx
 obtain⟨t',rfl⟩:=ry
 exact add_str (fun t' tk=>⟨.str (i++j),H,I.tok _,⟨_,rfl⟩,q⟩) hz
theorem vals1 {x:V}{us:List Value}(r:Vals [x] us):∃ u,us=[u]/\RelV x u:=by
 cases r with
 | cons r1 r2=>cases r2;exact⟨_,rfl,r1⟩
theorem vals2 {x y:V}{us:List Value}(r:Vals [x,y] us):∃ u w',us=[u,w']/\RelV x u/\RelV y w':=by
 cases r with
 | cons r1 r2 =>
  cases r2 with
  | cons r3 r4=>cases r4;exact⟨_,_,rfl,r1,r3⟩
theorem zsx:zaO X (.builtin "abs") (fun xs H Q=>∃ i,xs=[.int i]/\Q (.int (if i<0 then -i else i)) H):=by
 intro pins s U H xs us Q I r h
 obtain⟨i,rfl,q⟩:=h
 obtain⟨u,rfl,t,rfl⟩:=vals1 r
 exact call_abs_int fun u tk=>⟨.int (if i<0 then -i else i),H,I.tok _,⟨_,rfl⟩,q⟩
theorem zpQ (hc:X.calm=true):zaO X (.builtin "max") (fun xs H Q=>∃ i j,xs=[.int i,.int j]/\Q (.int (if j > i then j else i)) H):=by
 intro pins s U H xs us Q I r h
 obtain⟨i,j,rfl,q⟩:=h
 obtain⟨u,w',rfl,⟨t,rfl⟩,⟨t',rfl⟩⟩:=vals2 r
 refine max_two_ints (I.ok.hd hc) fun h' tk k=>⟨_,H,I.kept k,?_,q⟩
 by_cases hj:j > i
 ·rw [if_pos hj,if_pos hj];exact⟨_,rfl⟩
 ·rw [if_neg hj,if_neg hj];exact⟨_,rfl⟩
theorem zpK (hc:X.calm=true):zaO X (.builtin "min") (fun xs H Q=>∃ i j,xs=[.int i,.int j]/\Q (.int (if j<i then j else i)) H):=by
 intro pins s U H xs us Q I r h
 obtain⟨i,j,rfl,q⟩:=h
 obtain⟨u,w',rfl,⟨t,rfl⟩,⟨t',rfl⟩⟩:=vals2 r
 refine min_two_ints (I.ok.hd hc) fun h' tk k=>⟨_,H,I.kept k,?_,q⟩
 by_cases hj:j<i
 ·rw [if_pos hj,if_pos hj];exact⟨_,rfl⟩
 ·rw [if_neg hj,if_neg hj];exact⟨_,rfl⟩
end
structure zkZ (h:Heap)(x dx C:Addr)(mA:Str->Option Value):Prop where
 obj:h.get? x=some (PySem.W.instObj C dx)
 ns:h.Ns1 dx mA
 ne:dx≠x
theorem zqU {h:Heap}{dx:Addr}{mA:Str->Option Value}(n:h.Ns1 dx mA):∃ od,h.get? dx=some od/\∀ name,PySem.W.lookIn name od=some (mA name):=by
 obtain⟨o,es,ep,ho,hd,hk,_,hm⟩:=n
 refine⟨o,ho,fun name=>?_⟩
 have e:=hm name
 unfold nsFind findBy at e
 rw [<- Array.find?_toList] at e
 unfold PySem.W.lookIn
 rw [hd]
 dsimp only
 split
 ·rename_i y q
  rw [q] at e
  exact congrArg some e
 ·rename_i q
  rw [q] at e
  have a:es.toList.any (·.refKey)=false:=by
   rw [List.any_eq_false]
   intro y hy
   obtain⟨z,t,hkey⟩:=hk y (Array.mem_toList_iff.mp hy)
   simp [DictEntry.refKey,hkey]
  have a':¬ es.toList.any (·.refKey)=true:=by rw [a];exact qq
  rw [if_neg a']
  exact congrArg some e
theorem zkZ.look {h:Heap}{x dx C:Addr}{mA:Str->Option Value}(I:zkZ h x dx C mA):∃ od,PySem.W.InstAt h x (PySem.W.instObj C dx) C (some od)/\∀ name,PySem.W.lookIn name od=some (mA name) :=
 let ⟨od,ho,hl⟩:=zqU I.ns
 ⟨od,⟨I.obj,rfl,rfl,ho⟩,hl⟩
section
variable {prog:Program}{w:World}{A:Around}{E:Value->Shared->Prop}{s:Shared}{K:PySem.W.Frag}{x dx C f:Addr}{mA:Str->Option Value}{name:Str}{v:Value}
theorem get_map {expr:Bool}{Q:Value->Shared->Prop}(X:K.In s.heap)(I:zkZ s.heap x dx C mA)(hg:PySem.W.plainGet K C name=true)(hh:PySem.W.hasDictIn K C=true)
  (ha:PySem.W.findIn K (.ref C) name=some none) (hv:mA name=some v) (hv':PySem.W.handedIn v=true) (h:Q v { s with toks:=s.toks+1 }) :
  wpAny (model prog w) A (getAttr (.ref x) name expr) Q E s:=by
 obtain⟨od,J,hl⟩:=I.look
 exact PySem.W.get_value X J (PySem.W.plainGet_of hg).1 (PySem.W.findObj_own hh ha rfl (by rw [hl,hv])) hv' h
theorem zuk {ns:List Str}{Q:Unit->Shared->Prop}(X:K.In s.heap)(I:zkZ s.heap x dx C mA)
  (hs:PySem.W.findIn K (.ref C) "__setattr__"=some (some (.builtin "object.__setattr__"))) (hp:PySem.W.plainOver K C=true) (ht:PySem.W.takerIn K C name=some none) (hh:PySem.W.hasDictIn K C=true)
  (hw:PySem.Within mA ns) (hsz:ns.length<=sizeLine)
  (h:∀ h',zkZ h' x dx C (fun y=>if y=name then some v else mA y)->Heap.SameBut dx s.heap h'->Q () { s with heap:=h',toks:=s.toks+2 }) :
  wpAny (model prog w) A (setAttr (.ref x) name v) Q E s:=by
 obtain⟨od,J,hl⟩:=I.look
 refine PySem.W.set_plain X J hs (PySem.W.osa_open (s:={ s with toks:=s.toks+1 }) (r:=none) X J hp ht fun b=>?_)
 obtain⟨cd,hc,hd'⟩:=PySem.W.any_some hh
 have hx:s.heap.get? x=some ⟨.ref C,some dx,.plain,#[]⟩:=I.obj
 refine wpAny_bind (wpAny_pure (wpAny_bind (wpAny_bind (wpAny_loadPart hx (wpAny_bind (PySem.W.Looks.here (s:={ s with toks:=s.toks+1 }) (PySem.W.looks_clsIn X hc) ?_))))))
 rw [hd']
 refine wpAny_pure (a:=some dx) (wpAny_bind (wpAny_pure (wpAny_bind ?_)))
 refine wpAny_nsSet1 (s:={ s with toks:=s.toks+1 }) I.ns fun h' hn2 hs2=>?_
 obtain⟨oD,esD,epD,hoD,hdD,hcD⟩:=hn2.count (PySem.Within.cons name v hw)
 refine wpAny_bind (wpAny_lookBehind hoD (by rw [hdD];exact pastItsLine_dict (Nat.le_trans hcD (by rw [qP];lia))) ?_)
 exact wpAny_pure (h _ ⟨(hs2.2 _ (Ne.symm I.ne)).trans I.obj,hn2,I.ne⟩ hs2)
theorem zrQ {R:Result->Shared->Prop}{vs:List Value}{kw:List (Str×Value)}(X:K.In s.heap)(hm:PySem.W.makesIn K C=true)
    (hi:PySem.W.findIn K (.ref C) "__init__"=some (some (.ref f))) (hf:PySem.W.typeIn K (.ref f)=some (.type "function"))
    (h:codeAny (model prog w) (A.under (.builtin "type.__call__" ⟨.ref C::vs,kw⟩)) (.call (.ref f) ⟨.ref (s.heap.objs.size+1)::vs,kw⟩) (PySem.W.InitBack (s.heap.objs.size+1) R)
      { s with heap:=(s.heap.push PySem.W.emptyDict).push (PySem.W.instObj C s.heap.objs.size) }) :
    codeAny (model prog w) A (.call (.ref C) ⟨vs,kw⟩) R s:=by
  obtain⟨hh,g,d,t,os⟩:=s
  exact PySem.W.make_core (PySem.W.makes_of X hm) (PySem.W.looks_findIn X hi) (fun self=>PySem.W.bind_fn X self hf) (.inl rfl) h
end
def zb0 (f:Str)(v:V):List (Str×V)->List (Str×V)
 | []=>[(f,v)]
 | (g,x)::r=>if g=f then (g,v)::r else (g,x)::zb0 f v r
theorem ziP (f g:Str)(v:V):∀ fs:List (Str×V),(zb0 f v fs).lookup g=if g=f then some v else fs.lookup g
 | []=>by
  show List.lookup g [(f,v)]=_
  by_cases h:g=f
  ·have hb:(g==f)=true:=beq_iff_eq.mpr h
   simp only [List.lookup,hb,if_pos h]
  ·have hb:(g==f)=false:=beq_eq_false_iff_ne.mpr h
   simp only [List.lookup,hb,if_neg h]
 | (k,x)::r=>by
  have ih:=ziP f g v r
  rw [show zb0 f v ((k,x)::r)=(if k=f then (k,v)::r else (k,x)::zb0 f v r) from rfl]
  by_cases hk:k=f
  ·rw [if_pos hk]
   by_cases h:g=k
   ·have hb:(g==k)=true:=beq_iff_eq.mpr h
    simp only [List.lookup,hb,if_pos (h.trans hk)]
   ·have hb:(g==k)=false:=beq_eq_false_iff_ne.mpr h
    simp only [List.lookup,hb,if_neg (fun e:g=f=>h (e.trans hk.symm))]
  ·rw [if_neg hk]
   by_cases h:g=k
   ·have hb:(g==k)=true:=beq_iff_eq.mpr h
    simp only [List.lookup,hb,if_neg (fun e:g=f=>hk (h.symm.trans e))]
   ·have hb:(g==k)=false:=beq_eq_false_iff_ne.mpr h
    simp only [List.lookup,hb]
    exact ih
theorem zhC (f:Str)(v:V):∀ fs:List (Str×V),f∈(zb0 f v fs).map (·.1)/\∀ g,g∈fs.map (·.1)->g∈(zb0 f v fs).map (·.1)
 | []=>⟨by simp [zb0],fun g h=>by simp at h⟩
 | (k,x)::r=>by
  obtain⟨i1,i2⟩:=zhC f v r
  rw [show zb0 f v ((k,x)::r)=(if k=f then (k,v)::r else (k,x)::zb0 f v r) from rfl]
  by_cases hk:k=f
  ·rw [if_pos hk]
   subst hk
   exact⟨by simp,fun g h=>by simpa using h⟩
  ·rw [if_neg hk]
   refine⟨?_,fun g h=>?_⟩
   ·rw [qJ]
    exact qB _ i1
   ·rw [qJ] at h ⊢
    rcases qh.mp h with e | e
    ·exact qh.mpr (.inl e)
    ·exact qB _ (i2 g e)
theorem ziQ (f:Str)(v:V):∀ fs:List (Str×V),(zb0 f v fs).length<=fs.length+1
 | []=>by simp [zb0]
 | (k,x)::r=>by
  have ih:=ziQ f v r
  rw [show zb0 f v ((k,x)::r)=(if k=f then (k,v)::r else (k,x)::zb0 f v r) from rfl]
  by_cases hk:k=f
  ·rw [if_pos hk,qP,qP];lia
  ·rw [if_neg hk,qP,qP];lia
theorem zei.some_of {v:V}{o:Option Value}(r:zei (some v) o):∃ u,o=some u/\RelV v u:=by
 cases o with
 | none=>exact (show False from r).elim
 | some u=>exact⟨u,rfl,r⟩
theorem zqv {v:V}{u:Value}(r:RelV v u):PySem.W.handedIn u=true:=by
 cases v with
 | non=>cases (show u=Value.none from r);rfl
 | bl b=>cases (show u=Value.bool b from r);rfl
 | int i=>obtain⟨t,e⟩:=(show ∃ t,u=Value.int i t from r);cases e;rfl
 | str x=>obtain⟨t,e⟩:=(show ∃ t,u=Value.str x t from r);cases e;rfl
 | byt b=>obtain⟨t,e⟩:=(show ∃ t,u=Value.bytes b t from r);cases e;rfl
 | flt b=>obtain⟨t,e⟩:=(show ∃ t,u=Value.float b t from r);cases e;rfl
 | ref a=>cases (show u=Value.ref a from r);rfl
 | ty n=>cases (show u=Value.type n from r);rfl
section
variable {P:Program}{w:World}{H H':Hp}{h h':Heap}{a C dx:Addr}{fs fs':List (Str×V)}
theorem zkx (hok:HOk P w H h)(e:H a=some (.ins C dx fs)):∃ mA,zkZ h a dx C mA/\(∀ f,zei (fs.lookup f) (mA f))/\PySem.Within mA (fs.map (·.1))/\fs.length<=1000/\H dx=some (.own a):=by
 obtain⟨d,z,ne,ob,mA,n,r,q⟩:=(show zaD P w H h a (.ins C dx fs) from hok a _ e)
 exact⟨mA,⟨ob,n,ne⟩,r,q,z,d⟩
end
structure Cls (K:PySem.W.Frag)(C:Addr):Prop where
 pg:PySem.W.plainGet K C Str.empty=true
 hd:PySem.W.hasDictIn K C=true
 po:PySem.W.plainOver K C=true
 sa:PySem.W.findIn K (.ref C) "__setattr__"=some (some (.builtin "object.__setattr__"))
theorem Cls.get {K:PySem.W.Frag}{C:Addr}(c:Cls K C)(f:Str):PySem.W.plainGet K C f=true:=c.pg
def zat (K:PySem.W.Frag)(C:Addr)(f:Str):Prop:=PySem.W.findIn K (.ref C) f=some none
theorem zat.taker {K:PySem.W.Frag}{C:Addr}{f:Str}(n:zat K C f):PySem.W.takerIn K C f=some none:=by
 unfold PySem.W.takerIn
 rw [show PySem.W.findIn K (.ref C) f=some none from n]
 rfl
section
variable {X:Cx}{pins:List (Addr×Obj)}{U:St}{H:Hp}{s:Shared}{a C dx:Addr}{fs:List (Str×V)}{f:Str}{v:V}{A:Around}{E:Value->Shared->Prop}
theorem zoV {b:Bool}{Q:Value->Shared->Prop}(I:Inv X pins U H s)(e:H a=some (.ins C dx fs))(c:Cls X.K C)(n:zat X.K C f)(l:fs.lookup f=some v)
  (h:∀ u s',Inv X pins U H s'->RelV v u->Q u s'):wpAny (model X.prog X.w) A (getAttr (.ref a) f b) Q E s:=by
 obtain⟨mA,O,r,_,_,_⟩:=zkx I.hok e
 obtain⟨u,hu,ru⟩:=zei.some_of (v:=v) (o:=mA f) (by rw [<- l];exact r f)
 exact get_map I.kIn O (c.get f) c.hd n hu (zqv ru) (h u _ (I.tok _) ru)
theorem zoQ {y:V}{u:Value}{Q:Unit->Shared->Prop}(I:Inv X pins U H s)(e:H a=some (.ins C dx fs))(c:Cls X.K C)(n:zat X.K C f)(hl:fs.length<1000)(ry:RelV y u)
  (h:∀ s',Inv X pins U (upd H a (.ins C dx (zb0 f y fs))) s'->Q () s'):wpAny (model X.prog X.w) A (setAttr (.ref a) f u) Q E s:=by
 obtain⟨mA,O,r,wi,_,ho⟩:=zkx I.hok e
 have hz:(fs.map (·.1)).length<=sizeLine:=by rw [qb,sizeLine_eq];lia
 refine zuk I.kIn O c.sa c.po n.taker c.hd wi hz fun h' O' sb=>h _ ?_
 have hd:∃ o,h'.get? dx=some o:=let ⟨o,_,_,e',_⟩:=O'.ns;⟨o,e'⟩
 refine I.write (x:=a) (e:=dx) (by rw [e];exact True.intro) (.inr ho) (fun b q hb z=>(sb.2 b hb).trans z) hd ?_
 refine⟨by rw [zZ O.ne];exact ho,?_,O.ne,O'.obj,_,O'.ns,fun g=>?_,fun g hg=>?_⟩
 ·have:=ziQ f y fs;lia
 ·show zei ((zb0 f y fs).lookup g) (if g=f then some u else mA g)
  rw [ziP]
  by_cases q:g=f
  ·rw [if_pos q,if_pos q];exact ry
  ·rw [if_neg q,if_neg q];exact r g
 ·by_cases q:g=f
  ·rw [q];exact (zhC f y fs).1
  ·refine (zhC f y fs).2 g (wi g fun z=>hg ?_)
   show (if g=f then some u else mA g)=none
   rw [if_neg q];exact z
theorem Inv.made (I:Inv X pins U H s):Inv X pins U (upd (upd H s.heap.objs.size (.own (s.heap.objs.size+1))) (s.heap.objs.size+1) (.ins C s.heap.objs.size []))
    { s with heap:=(s.heap.push PySem.W.emptyDict).push (PySem.W.instObj C s.heap.objs.size) }:=by
  have e1:(s.heap.push PySem.W.emptyDict).get? s.heap.objs.size=some PySem.W.emptyDict:=qp s.heap rfl
  have e2:((s.heap.push PySem.W.emptyDict).push (PySem.W.instObj C s.heap.objs.size)).get? (s.heap.objs.size+1)=some (PySem.W.instObj C s.heap.objs.size):=by
    have:=qp (s.heap.push PySem.W.emptyDict) (o:=PySem.W.instObj C s.heap.objs.size) rfl
    rwa [Heap.size_push] at this
  have e3:(s.heap.push PySem.W.emptyDict).Ns s.heap.objs.size (fun _=>none):=⟨PySem.W.emptyDict,#[],_,e1,rfl,(fun e he=>absurd he (by simp)),fun _=>rfl⟩
  have I1:=I.laid (a:=s.heap.objs.size) (o:=.own (s.heap.objs.size+1)) (h':=s.heap.push PySem.W.emptyDict) (t':=s.toks) (fun b u q=>qd _ q) (qf _) ⟨_,e1⟩
  refine I1.laid (a:=s.heap.objs.size+1) (o:=.ins C s.heap.objs.size []) (t':=s.toks) (fun b u q=>qd _ q) (Nat.le_of_eq (Heap.size_push _ _)) ?_
  have ne:s.heap.objs.size≠s.heap.objs.size+1:=qK (Nat.lt_succ_self _)
  refine⟨by rw [zZ ne,zav],qN _,ne,e2,fun _=>none,(Heap.Ns1.of_empty e3).at fun o q=>qd _ q,fun _=>True.intro,fun y hy=>absurd rfl hy⟩
theorem zt5 {prog:Program}{w:World}{env:Env}{e:Expr}{f:Str}{pos:Pos}{s:Shared}{Q:Value->Shared->Prop}(hb:attributeBase e f env (eval e env)=eval e env)
  (h:wpAny (model prog w) A (eval e env) (fun o s₁=>wpAny (model prog w) A (getAttr o f true) Q E s₁) E s):wpAny (model prog w) A (eval (.Attribute e f pos) env) Q E s :=
 Attribute_any_ h (by rw [arm_eval_Attribute,hb])
end
def zyV (K:PySem.W.Frag)(ta:TE)(f:Str):TE:=fun U H Q=>ta U H fun x H1=>∃ a C dx fs v,x=.ref a/\H1 a=some (.ins C dx fs)/\Cls K C/\zat K C f/\fs.lookup f=some v/\Q v H1
def zy7 (K:PySem.W.Frag)(ta tv:TE)(f:Str):TS:=fun D U H=>tv U H fun y H1=>ta U H1 fun x H2=>∃ a C dx fs,x=.ref a/\H2 a=some (.ins C dx fs)/\Cls K C/\zat K C f/\fs.length<1000 /\
 D.nx U (upd H2 a (.ins C dx (zb0 f y fs)))
section
variable {X:Cx}{o e value:Expr}{f:Str}{pos pos' tpos:Pos}{ta tv:TE}
theorem zvM (he:PE X e ta)(hb:attributeBase e f X.env (eval e X.env)=eval e X.env):PE X (.Attribute e f pos) (zyV X.K ta f):=by
 intro pins s U H Q I h
 refine zt5 hb (thn (he pins s U H _ I h) fun u s1 ⟨x,H1,I1,rx,a,C,dx,fs,v,ex,ea,c,n,l,q⟩=>?_)
 subst ex
 obtain rfl:u=Value.ref a:=rx
 exact zoV I1 ea c n l fun u' s2 I2 ru=>⟨v,H1,I2,ru,q⟩
theorem zvz (ha:PE X o ta)(hv:PE X value tv)(hs:swapsWith value (some (.Attribute o f pos')) pos.line X.env=pure false):PS X (.Assign [.Attribute o f pos'] value pos) (zy7 X.K ta tv f):=by
 intro pins s U H D I h
 refine plainObj_wpAny_Assign_Attribute (thn (hv pins s U H _ I h) fun u s1 ⟨y,H1,I1,ry,q⟩=>thn (ha pins s1 U H1 _ I1 q) fun ov s2 ⟨x,H2,I2,rx,a,C,dx,fs,ex,ea,c,n,l,q2⟩=>?_) hs
 subst ex
 obtain rfl:ov=Value.ref a:=rx
 exact zoQ I2 ea c n l ry fun s3 I3=>⟨U,_,I3,q2⟩
end
section
variable {X:Cx}{pins:List (Addr×Obj)}{U:St}{H:Hp}{s:Shared}{A:Around}{E:Value->Shared->Prop}{Q:Value->Shared->Prop}{c:Value}{b:Bool}
inductive zek (K:PySem.W.Frag)(H:Hp):V->Value->Prop where
 | non:zek K H .non (.type "NoneType")
 | bl (x:Bool):zek K H (.bl x) (.type "bool")
 | int (i:Int):zek K H (.int i) (.type "int")
 | str (x:Str):zek K H (.str x) (.type "str")
 | flt (x:UInt64):zek K H (.flt x) (.type "float")
 | lst {a:Addr} {xs:List V} (e:H a=some (.lst xs)):zek K H (.ref a) (.type "list")
 | frz {a:Addr} {o:Obj} {xs:List V} (e:H a=some (.frz o (.lst xs))):zek K H (.ref a) (.type "list")
 | tup {a:Addr} {xs:List V} (e:H a=some (.tup xs)):zek K H (.ref a) (.type "tuple")
 | dK {a:Addr} {kvs:List (Key×V)} (e:H a=some (.dK kvs)):zek K H (.ref a) (.type "dict")
 | dT {a:Addr} {kvs:List (List Key×V)} (e:H a=some (.dT kvs)):zek K H (.ref a) (.type "dict")
 | ins {a C dx:Addr} {fs:List (Str×V)} (e:H a=some (.ins C dx fs)) (cl:Cls K C) (ha:PySem.W.findIn K (.ref C) "__class__"=some (some (.builtin "object.__class__")))
   (hn:PySem.W.specialIn K (.builtin "object.__class__") "__get__"=some (some (.builtin "getset_descriptor.__get__"))) (htk:PySem.W.takesIn K (.builtin "object.__class__")=some true)
   (hm:PySem.W.mroIn K C (.type "object")=some true):zek K H (.ref a) (.ref C)
theorem zpT {x:V}{u t:Value}(I:Inv X pins U H s)(rx:RelV x u)(ty:zek X.K H x t)(e:PySem.W.kitOne X.K t c=some b)(h:∀ tk,Q (.bool b) { s with toks:=tk }) :
  wpAny (model X.prog X.w) A (call (.builtin "isinstance") [u,c]) Q E s:=by
 cases ty with
 | non=>cases (show u=Value.none from rx);exact PySem.W.kia_one PySem.W.kitx_none I.kIn True.intro e (fun z=>nomatch z) h
 | bl y=>cases (show u=Value.bool y from rx);exact PySem.W.kia_one PySem.W.kitx_bool I.kIn True.intro e (fun z=>nomatch z) h
 | int i=>obtain⟨t,q⟩:=(show ∃ t,u=Value.int i t from rx);cases q;exact PySem.W.kia_one PySem.W.kitx_int I.kIn True.intro e (fun z=>nomatch z) h
 | str y=>obtain⟨t,q⟩:=(show ∃ t,u=Value.str y t from rx);cases q;exact PySem.W.kia_one PySem.W.kitx_str I.kIn True.intro e (fun z=>nomatch z) h
 | flt y=>obtain⟨t,q⟩:=(show ∃ t,u=Value.float y t from rx);cases q;exact PySem.W.kia_one PySem.W.kitx_float I.kIn True.intro e (fun z=>nomatch z) h
 | @lst a xs ea =>
  cases (show u=Value.ref a from rx)
  obtain⟨_,_,n,_,h1⟩:=(show zaD X.prog X.w H s.heap a (.lst xs) from I.hok a _ ea)
  exact PySem.W.kia_one PySem.W.kitx_list I.kIn ⟨_,h1,rfl⟩ e (fun z=>nomatch z) h
 | @frz a ob xs ea =>
  cases (show u=Value.ref a from rx)
  obtain⟨_,_,_,n,_,h1⟩:=(show zaD X.prog X.w H s.heap a (.frz ob (.lst xs)) from I.hok a _ ea)
  exact PySem.W.kia_one PySem.W.kitx_list I.kIn ⟨_,h1,rfl⟩ e (fun z=>nomatch z) h
 | @tup a xs ea =>
  cases (show u=Value.ref a from rx)
  obtain⟨_,_,_,p⟩:=(show zaD X.prog X.w H s.heap a (.tup xs) from I.hok a _ ea)
  obtain⟨o,h1,h2,_⟩:=p
  exact PySem.W.kia_one PySem.W.kitx_tuple I.kIn ⟨o,h1,h2⟩ e (fun z=>nomatch z) h
 | @dK a kvs ea =>
  cases (show u=Value.ref a from rx)
  obtain⟨_,_,vs,_,p⟩:=(show zaD X.prog X.w H s.heap a (.dK kvs) from I.hok a _ ea)
  obtain⟨o,es,ep,h1,h2,_⟩:=p
  exact PySem.W.kia_one PySem.W.kitx_dict I.kIn ⟨o,h1,h2.1⟩ e (fun z=>nomatch z) h
 | @dT a kvs ea =>
  cases (show u=Value.ref a from rx)
  obtain⟨_,_,xs,_,o,es,ep,h1,h2,_⟩:=(show zaD X.prog X.w H s.heap a (.dT kvs) from I.hok a _ ea)
  exact PySem.W.kia_one PySem.W.kitx_dict I.kIn ⟨o,h1,h2.1⟩ e (fun z=>nomatch z) h
 | @ins a C dx fs ea cl ha hn htk hm =>
  cases (show u=Value.ref a from rx)
  obtain⟨mA,O,_⟩:=zkx I.hok ea
  obtain⟨od,J,_⟩:=O.look
  exact PySem.W.kia_one (PySem.W.kitx_own (cl.get _) cl.hd ha hn htk hm) I.kIn J e (fun z=>nomatch z) h
end
structure zaM (k:Nat)(A:Around):Prop where
 hd:A.handled=none
 dp:A.depth+3*k+5<recursionLimit
 un:A.units+16*k+200<cLine
theorem zaM.mono {j k:Nat}{A:Around}(r:zaM k A)(h:j<=k):zaM j A:=⟨r.hd,by have:=r.dp;lia,by have:=r.un;lia⟩
theorem zaM.deeper {k:Nat}{A:Around}(r:zaM (k+1) A)(env:Env):zaM k (A.deeper env) :=
 ⟨r.hd,by have:=r.dp;show A.depth+1+3*k+5<_;lia,by have:=r.un;show A.units+3+16*k+200<_;lia⟩
theorem zoN {A:Around}{C:Addr}{us:List Value}{kw:List (Str×Value)}:(A.under (.builtin "type.__call__" ⟨.ref C::us,kw⟩)).depth=A.depth+1:=by
 first | rfl | simp [Around.under,Code.weight,Code.isCreation,Code.isGuard,Code.isCaller,Code.frames,Code.isFrame,guardIds]
theorem zo6 {A:Around}{C:Addr}{us:List Value}{kw:List (Str×Value)}:(A.under (.builtin "type.__call__" ⟨.ref C::us,kw⟩)).units=A.units+1:=by
 first | rfl | simp [Around.under,Code.cUnits,Code.frames,Code.isFrame]
theorem zaM.make {k:Nat}{A:Around}(r:zaM (k+1) A)(C:Addr)(us:List Value)(kw:List (Str×Value)):zaM k (A.under (.builtin "type.__call__" ⟨.ref C::us,kw⟩)) :=
 ⟨r.hd,by have:=r.dp;rw [zoN];lia,by have:=r.un;rw [zo6];lia⟩
theorem zaM.depth {k:Nat}{A:Around}(r:zaM k A):A.depth<recursionLimit:=by have:=r.dp;lia
theorem zaM.units {k:Nat}{A:Around}(r:zaM k A):A.units+64<cLine:=by have:=r.un;lia
def zzw:TA:=fun _ H Q=>Q [] H
def zyN (ta:TE)(tr:TA):TA:=fun U H Q=>ta U H fun x H1=>tr U H1 fun xs H2=>Q (x::xs) H2
section
variable {X:Cx}{e:Expr}{es:List Expr}{te:TE}{t:TA}{pos:Pos}
theorem zv1:PA X [] zzw:=fun _ _ _ _ H Q I h=>Calls.spliced_nil ⟨[],H,I,.nil,h⟩
theorem ztw (ha:PE X e te)(hr:PA X es t)(hs:starEach (e::es) X.env=(false,eval e X.env)::starEach es X.env:=by rfl):PA X (e::es) (zyN te t):=by
 intro pos pins s U H Q I h
 rw [hs]
 show wpAny _ _ (spliced ((false,eval e X.env)::backTo pos (starEach es X.env))) _ _ s
 refine Calls.spliced_cons (thn (ha pins s U H _ I h) fun u s1 ⟨x,H1,I1,r1,q1⟩=>?_)
 exact thn (hr pos pins s1 U H1 _ I1 q1) fun us s2 ⟨xs,H2,I2,r2,q2⟩=>⟨x::xs,H2,I2,.cons r1 r2,q2⟩
def zyX (t:TA):TE:=fun U H Q=>t U H fun xs H1=>xs.length<=sizeLine/\∀ p,H1 p=none->Q (.ref p) (upd H1 p (.tup xs))
def zyT (t:TA):TE:=fun U H Q=>t U H fun xs H1=>xs.length<=sizeLine/\∀ p,H1 p=none->Q (.ref p) (upd H1 p (.lst xs))
theorem zvW {x1}(h:PA X es t):PE X (.Tuple es x1 pos) (zyX t):=by
 intro pins s U H Q I hq
 refine wpAny_Tuple_spliced (thn (h pos pins s U H _ I hq) fun us s1 ⟨xs,H1,I1,r,z,q⟩=>⟨by rw [<- r.length];exact z,?_⟩)
 have hf:H1 s1.heap.objs.size=none:=I1.hok.fresh (qf _)
 refine⟨.ref s1.heap.objs.size,upd H1 s1.heap.objs.size (.tup xs),I1.laid (t':=s1.toks) (fun b u e=>qd _ e) (qf _) ?_,rfl,q _ hf⟩
 exact⟨z,us,r,⟨_,qp _ rfl,rfl,_,rfl⟩⟩
theorem zxa (h:PA X es t):PE X (.List es pos) (zyT t):=by
 intro pins s U H Q I hq
 refine wpAny_List_spliced (thn (h pos pins s U H _ I hq) fun us s1 ⟨xs,H1,I1,r,z,q⟩=>⟨by rw [<- r.length];exact z,?_⟩)
 have hf:H1 s1.heap.objs.size=none:=I1.hok.fresh (qf _)
 refine⟨.ref s1.heap.objs.size,upd H1 s1.heap.objs.size (.lst xs),I1.laid (t':=s1.toks) (fun b u e=>qd _ e) (qf _) ?_,rfl,q _ hf⟩
 exact⟨z,us,0,r,qp _ rfl⟩
end
abbrev Sp:=List V->Hp->VK->XK->Prop
abbrev CXT:=List Env->Hp->Shared->XK->Value->Shared->Prop
structure zi5 (P:Program)(w:World)(K:PySem.W.Frag)(mg:Str->Option Value)(base:Heap)(A:Around)(outer:List Env)(s:Shared)(H:Hp):Prop where
 frames:A.frames=some outer
 mod:Mod K mg base
 bs:∀ b o,base.get? b=some o->s.heap.get? b=some o/\H b=none
 bsz:base.objs.size<=s.heap.objs.size
 funs:s.heap.FunFrames base outer
 frf:∀ b∈frs outer,H b=none
 hok:HOk P w H s.heap
 bare:AllBare s.gens
def CE (outer:List Env)(P:Program)(w:World)(H:Hp)(s:Shared)(Q:VK)(u:Value)(s':Shared):Prop :=
 ∃ v H',s'.os=s.os/\AllBare s'.gens/\Un (frs outer) [] H H' s.heap s'.heap/\HOk P w H' s'.heap/\RelV v u/\Q v H'
def CR (CX:CXT)(outer:List Env)(P:Program)(w:World)(H:Hp)(s:Shared)(Q:VK)(E:XK)(r:Result)(s':Shared):Prop :=
 match r with
 | .ok (.ret u)=>CE outer P w H s Q u s'
 | .ok _=>False
 | .error e=>CX outer H s E e s'
structure zW (P:Program)(w:World)(K:PySem.W.Frag)(mg:Str->Option Value)(base:Heap)(CX:CXT)(k:Nat)(f:Addr)(fd:FuncData)(ps:List Str)(sp:Sp):Prop where
 len:∀ vs H Q E,sp vs H Q E->vs.length=ps.length
 run:∀ (A:Around) (outer:List Env) (s:Shared) (H:Hp) (args:Args) (us:List Value) (vs:List V) (Q:VK) (E:XK),zaM k A->zi5 P w K mg base A outer s H->BindsTo s fd args (ps.zip us)->Vals vs us->sp vs H Q E ->
  codeAny (model P w) A (.call (.ref f) args) (CR CX outer P w H s Q E) s
theorem zW.mono {P:Program}{w:World}{K:PySem.W.Frag}{mg:Str->Option Value}{base:Heap}{CX:CXT}{j k:Nat}{f:Addr}{fd:FuncData}{ps:List Str}{sp:Sp}(F:zW P w K mg base CX j f fd ps sp)(h:j<=k) :
  zW P w K mg base CX k f fd ps sp:=⟨F.len,fun A outer s H args us vs Q E hr=>F.run A outer s H args us vs Q E (hr.mono h)⟩
theorem zi5.make {P:Program}{w:World}{K:PySem.W.Frag}{mg:Str->Option Value}{base:Heap}{A:Around}{outer:List Env}{s:Shared}{H:Hp}(e:zi5 P w K mg base A outer s H)(C:Addr)(us:List Value)(kw:List (Str×Value)) :
  zi5 P w K mg base (A.under (.builtin "type.__call__" ⟨.ref C::us,kw⟩)) outer s H:=⟨by first | exact e.frames | (simpa [Around.under,Code.envs,Code.isFrame,pushEnvs] using e.frames),e.mod,e.bs,e.bsz,e.funs,e.frf,e.hok,e.bare⟩
section
variable {X:Cx}{pins:List (Addr×Obj)}{U:St}{H:Hp}{s s':Shared}
theorem Inv.env0 (I:Inv X pins U H s):zi5 X.prog X.w X.K X.mg X.base X.A X.stack s H :=
 ⟨I.ok.frames,I.ok.mod,I.bs,Nat.le_trans I.ok.bsz I.sz,I.stack,I.stkFree,I.hok,I.bare⟩
theorem Inv.after {Q:VK}{u:Value}(I:Inv X pins U H s)(h:CE X.stack X.prog X.w H s Q u s'):EP X pins U Q u s':=by
 obtain⟨v,H',os,bare,un,hok,r,q⟩:=h
 obtain⟨hh,g,d,t,os'⟩:=s'
 obtain rfl:os'=s.os:=os
 exact⟨v,H',I.call (h':=hh) (g':=g) (d':=d) (t':=t) (ch:=[]) un hok bare (fun b z=>absurd z (by simp)),r,q⟩
end
def zoP (sp:Sp)(dvs:List V)(E:XK)(t:TA):TE:=fun U H Q=>t U H fun vs H1=>sp (vs++dvs) H1 Q E
def Binds (K:PySem.W.Frag)(fd:FuncData)(ps:List Str)(ds:List Value):Prop :=
 ∀ (s:Shared) (us:List Value),K.In s.heap->(us++ds).length=ps.length->BindsTo s fd ⟨us,[]⟩ (ps.zip (us++ds))
theorem Binds.all {K:PySem.W.Frag}{fd:FuncData}{ps:List Str}(h:∀ us:List Value,us.length=ps.length->bindArgs fd ⟨us,[]⟩=pure (ps.zip us)):Binds K fd ps []:=fun s us _ hl=>by
 rw [List.append_nil] at hl ⊢
 exact .of_eq (h us hl)
def Passes (CX:CXT)(X:Cx)(E:XK):Prop:=∀ (pins:List (Addr×Obj)) (U:St) (H:Hp) (s:Shared) (e:Value) (s':Shared),Inv X pins U H s->CX X.stack H s E e s'->X.xe e s'
section
variable {X:Cx}{CX:CXT}{k:Nat}{f C:Addr}{fd:FuncData}{ps:List Str}{sp:Sp}{dvs:List V}{ds:List Value}{E:XK}{x m:Str}{p pos apos:Pos}{e o:Expr}{es:List Expr}{ta:TE}{t:TA}
theorem zwe {pins:List (Addr×Obj)}{U:St}{H:Hp}{s:Shared}{Q:VK}{us:List Value}{vs:List V}(F:zW X.prog X.w X.K X.mg X.base CX k f fd ps sp)(hr:zaM k X.A)(hb:Binds X.K fd ps ds)(hd:Vals dvs ds)(hx:Passes CX X E)
  (I:Inv X pins U H s) (r:Vals vs us) (h:sp (vs++dvs) H Q E):wpAny (model X.prog X.w) X.A (call (.ref f) us) (EP X pins U Q) X.xe s:=by
 have r2:Vals (vs++dvs) (us++ds):=r.append hd
 have hl:(us++ds).length=ps.length:=by rw [<- r2.length];exact F.len _ _ _ _ h
 refine wpAny_call (codeAny_mono (F.run X.A X.stack s H ⟨us,[]⟩ (us++ds) (vs++dvs) Q E hr I.env0 (hb s us I.kIn hl) r2 h) fun r s' hq=>?_)
 cases r with
 | error e=>exact hx pins U H s e s' I hq
 | ok fl =>
  cases fl with
  | ret u=>exact I.after hq
  | next=>exact False.elim hq
  | brk=>exact False.elim hq
  | cont=>exact False.elim hq
theorem zum (F:zW X.prog X.w X.K X.mg X.base CX k f fd ps sp)(hr:zaM k X.A)(hg:Gl X x)(hm:X.mg x=some (.ref f))(hk:PySem.W.keepIn X.K (.ref f)=true)(hb:Binds X.K fd ps ds)(hd:Vals dvs ds)(hx:Passes CX X E)
  (ha:PA X (e::es) t) (hdb:(x==("__debug__":Str))=false:=by decide) (he:starEach (e::es) X.env=(false,eval e X.env)::starEach es X.env:=by rfl) (hpl:(backTo pos (starEach es X.env)).any (·.1)=false:=by rfl) :
  PE X (.Call (.Name x p) (e::es) [] pos) (zoP sp dvs E t):=by
 intro pins s U H Q I h
 refine wpAny_Call_Name_kw (zf9 I hg hm ?_ hdb)
 refine PySem.W.callWith_K (h₀:=X.base) I.ok.mod.kin hk (thn (ha pos pins s U H _ I h) fun us s1 ⟨vs,H1,I1,r,q⟩=>⟨I1.kIn,?_⟩) he hpl
 exact zwe F hr hb hd hx I1 r q
structure Mk (K:PySem.W.Frag)(C f:Addr):Prop where
 makes:PySem.W.makesIn K C=true
 init:PySem.W.findIn K (.ref C) "__init__"=some (some (.ref f))
 fn:PySem.W.isFn K (.ref f)=true
 kp:PySem.W.keepIn K (.ref C)=true
theorem zry {pins:List (Addr×Obj)}{U:St}{H:Hp}{s:Shared}{Q:VK}{us:List Value}{vs:List V}(M:Mk X.K C f)(F:zW X.prog X.w X.K X.mg X.base CX k f fd ps sp)(hr:zaM (k+1) X.A)(hb:Binds X.K fd ps ds)(hd:Vals dvs ds)
  (hx:Passes CX X E) (I:Inv X pins U H s) (r:Vals vs us)
  (h:∀ x dx,H x=none->H dx=none->dx≠x->sp (.ref x::(vs++dvs)) (upd (upd H dx (.own x)) x (.ins C dx [])) (fun v H2=>v=.non/\Q (.ref x) H2) E) :
  wpAny (model X.prog X.w) X.A (call (.ref C) us) (EP X pins U Q) X.xe s:=by
 have hq:=h (s.heap.objs.size+1) s.heap.objs.size (I.hok.fresh (Nat.le_succ _)) (I.hok.fresh (qf _)) (qK (Nat.lt_succ_self _))
 have I2:=Inv.made (C:=C) I
 have r2:Vals (V.ref (s.heap.objs.size+1)::(vs++dvs)) (Value.ref (s.heap.objs.size+1)::(us++ds)):=.cons rfl (r.append hd)
 have hl:(Value.ref (s.heap.objs.size+1)::us++ds).length=ps.length:=by
  have e:=r2.length
  rw [F.len _ _ _ _ hq] at e
  exact e.symm
 refine wpAny_call (zrQ (f:=f) I.kIn M.makes M.init (beq_iff_eq.mp M.fn) (codeAny_mono (F.run _ X.stack _ _ ⟨Value.ref (s.heap.objs.size+1)::us,[]⟩ (Value.ref (s.heap.objs.size+1)::(us++ds)) _ _ E (hr.make C us [])
  (I2.env0.make C us []) (hb _ (Value.ref (s.heap.objs.size+1)::us) I2.kIn hl) r2 hq) fun r s' hq'=>?_))
 cases r with
 | error e=>exact hx pins U _ _ e s' I2 hq'
 | ok fl =>
  cases fl with
  | ret u =>
   obtain⟨v,H',I3,rv,ev,q3⟩:=I2.after hq'
   subst ev
   exact⟨rv,⟨V.ref (s.heap.objs.size+1),H',I3,rfl,q3⟩⟩
  | next=>exact False.elim hq'
  | brk=>exact False.elim hq'
  | cont=>exact False.elim hq'
end
section
variable {X:Cx}{CX:CXT}{k:Nat}{f C:Addr}{fd:FuncData}{ps ks:List Str}{sp:Sp}{E:XK}{x m:Str}{p pos apos kpos:Pos}{e o:Expr}{es:List Expr}{kws:List Keyword}{te ta:TE}{t tk:TA}{nm:Option Str}
variable {g:List Value->List Value->List Value}{gV:List V->List V->List V}
end
structure zN (N P:List Str)(sc:Scope):Prop where
 kind:sc.kind=.function
 co:sc.isCoroutine=false
 gen:sc.isGenerator=false
 nd:N.Nodup
 pre:N.take P.length=P
 par:∀ x∈P,sc.names.lookup x=some .local\/sc.names.lookup x=some .cell
 nofree:∀ y∈sc.names,y.2≠.free
theorem zk9 {kindOf:Str->Option NameKind}{x:Str}:∀ {binds:List (Str×Value)} {m:Str->Option Value},(∀ v,(x,v)∉binds)->bindL kindOf binds m x=m x
 | [],_,_=>rfl
 | (n,v)::r,m,h=>by
  unfold bindL
  rw [zk9 fun w hw=>h w (qB _ hw)]
  split
  ·have:x≠n:=by rintro rfl;exact h v List.mem_cons_self
   simp [this]
  ·rfl
theorem zlo {kindOf:Str->Option NameKind}{x:Str}:∀ {binds:List (Str×Value)} {m:Str->Option Value},(∀ v,(x,v)∉binds)->bindC kindOf binds m x=m x
 | [],_,_=>rfl
 | (n,v)::r,m,h=>by
  unfold bindC
  rw [zlo fun w hw=>h w (qB _ hw)]
  split
  ·rfl
  ·have:x≠n:=by rintro rfl;exact h v List.mem_cons_self
   simp [this]
theorem zlc {kindOf:Str->Option NameKind}{x:Str}{v:Value}:∀ {P:List Str} {vs:List Value} {i:Nat} {m:Str->Option Value},P.Nodup->P[i]?=some x->vs[i]?=some v->kindOf x=some .local ->
  bindL kindOf (P.zip vs) m x=some v
 | [],_,_,_,_,h,_,_=>by simp at h
 | _::_,[],_,_,_,_,h,_=>by simp at h
 | p::P,w::vs,0,m,nd,h1,h2,hk=>by
  simp at h1 h2;subst h1;subst h2
  show bindL kindOf ((p,w)::P.zip vs) m p=_
  unfold bindL
  rw [zk9 fun v hv=>(List.nodup_cons.mp nd).1 (List.of_mem_zip hv).1,if_pos hk]
  simp
 | p::P,w::vs,i+1,m,nd,h1,h2,hk=>by
  show bindL kindOf ((p,w)::P.zip vs) m x=_
  unfold bindL
  exact zlc (i:=i) (List.nodup_cons.mp nd).2 (by simpa using h1) (by simpa using h2) hk
theorem zld {kindOf:Str->Option NameKind}{x:Str}{v:Value}:∀ {P:List Str} {vs:List Value} {i:Nat} {m:Str->Option Value},P.Nodup->P[i]?=some x->vs[i]?=some v->kindOf x≠some .local ->
  bindC kindOf (P.zip vs) m x=some v
 | [],_,_,_,_,h,_,_=>by simp at h
 | _::_,[],_,_,_,_,h,_=>by simp at h
 | p::P,w::vs,0,m,nd,h1,h2,hk=>by
  simp at h1 h2;subst h1;subst h2
  show bindC kindOf ((p,w)::P.zip vs) m p=_
  unfold bindC
  rw [zlo fun v hv=>(List.nodup_cons.mp nd).1 (List.of_mem_zip hv).1,if_neg hk]
  simp
 | p::P,w::vs,i+1,m,nd,h1,h2,hk=>by
  show bindC kindOf ((p,w)::P.zip vs) m x=_
  unfold bindC
  exact zld (i:=i) (List.nodup_cons.mp nd).2 (by simpa using h1) (by simpa using h2) hk
def start (N:List Str)(vs:List V):St:=vs.map some++List.replicate (N.length-vs.length) none
def zfS (CX:CXT)(P:Program)(w:World)(K:PySem.W.Frag)(mg:Str->Option Value)(base:Heap)(N:List Str)(qual:Str)(scope:Scope)(f:Addr)(cd:Value)(A:Around)(outer:List Env)(s:Shared)(H:Hp)(E:XK):Cx where
 prog:=P
 w:=w
 K:=K
 mg:=mg
 base:=base
 A:=A.deeper (envOfC qual scope s.heap.objs.size f cd)
 N:=N
 s₀:=s
 H₀:=H
 env:=envOfC qual scope s.heap.objs.size f cd
 outer:=outer
 stack:=envOfC qual scope s.heap.objs.size f cd::outer
 ex:=[]
 calm:=true
 fn:=fun _=>true
 pn:=[]
 xe:=fun e s'=>wpAny (model P w) (A.deeper (envOfC qual scope s.heap.objs.size f cd)) (leaving (envOfC qual scope s.heap.objs.size f cd) e) (fun _ s''=>CX outer H s E e s'') (fun e' s''=>CX outer H s E e' s'') s'
theorem zme {sc:Scope}{n:Nat}{x:Str}(h:sc.names.lookup x=some .cell):∃ c,(cellsFrom n sc.names []).lookup x=some c:=by
 have q:=PySem.W.cellsFrom_some sc.names n [] (.inl h)
 exact Option.isSome_iff_exists.mp q
theorem zrs {CX:CXT}{P:Program}{w:World}{K:PySem.W.Frag}{mg:Str->Option Value}{base:Heap}{N ps:List Str}{qual:Str}{scope:Scope}{f:Addr}{cd:Value}{A:Around}{outer:List Env}{s s1:Shared}{H:Hp}{E:XK}{us:List Value}{vs:List V}
    (S:zN N ps scope) (hd:A.handled=none) (e0:zi5 P w K mg base A outer s H) (hl:vs.length=ps.length) (r:Vals vs us)
    (x:InCallC s s.heap.objs.size (bindL (envOfC qual scope s.heap.objs.size f cd).kindOf (ps.zip us) fun _=>none) (cellsFrom (s.heap.objs.size+1) scope.names []) (bindC (envOfC qual scope s.heap.objs.size f cd).kindOf (ps.zip us) fun _=>none) s1) :
    Inv (zfS CX P w K mg base N qual scope f cd A outer s H E) [] (start N vs) H s1:=by
  have hpl:ps.length<=N.length:=by have:=congrArg List.length S.pre;rw [List.length_take] at this;lia
  obtain⟨h1,tk,rfl,hk⟩:=x.done
  have noA:∀ b:Addr,b∉(zfS CX P w K mg base N qual scope f cd A outer s H E).ex:=fun b z=>absurd (show b∈([]:List Addr) from z) (by simp)
  refine⟨⟨e0.mod,S.kind,rfl,rfl,qf _,fun y z c h1 h2=>?_,fun y hy=>?_,fun y c _ h=>?_,fun _=>hd,Around.frames_deeper e0.frames,.inr ⟨rfl,rfl⟩,fun b z=>absurd z (noA b),e0.bs,e0.bsz,fun b _ _=>noA b,fun b z=>absurd z (noA b),e0.funs,e0.frf⟩,
    rfl,e0.bare,Un.kept hk,⟨_,x.toInCall.ns,fun i y v h1 h2 h3=>?_⟩,fun y c h=>⟨_,x.cell y c h⟩,e0.hok.fresh (qf _),fun y c h=>?_,fun p hp=>absurd (show p∈([]:List (Addr×Obj)) from hp) (by simp),e0.hok.kept hk,?_⟩
  . exact name_of_addr x.apart (PySem.mem_of_lookup h1) (PySem.mem_of_lookup h2)
  . have hy:scope.names.lookup y=some .cell\/scope.names.lookup y=some .free:=hy
    rcases hy with hy | hy
    . exact zme hy
    . exact absurd rfl (S.nofree _ (PySem.mem_of_lookup hy))
  . exact Nat.le_of_lt (x.above y c (PySem.mem_of_lookup h))
  . have hi : i < vs.length := by
      unfold start at h2
      by_cases hi:i<vs.length
      . exact hi
      . rw [qi (by simpa using hi)] at h2
        rw [List.getElem?_replicate] at h2
        split at h2<;>cases h2
    have ha:vs[i]?=some v:=by
      unfold start at h2
      rw [qj (by simpa using hi),qo] at h2
      cases e:vs[i]? with
      | none=>rw [e] at h2;cases h2
      | some a=>rw [e] at h2;cases h2;rfl
    obtain⟨u,hu,rv⟩:=r.get ha
    have hp:ps[i]?=some y:=by
      rw [<- S.pre,List.getElem?_take_of_lt (by lia)];exact h1
    have ndP:ps.Nodup:=by rw [<- S.pre];exact S.nd.sublist (List.take_sublist _ _)
    refine⟨u,rv,?_⟩
    rcases S.par y (qe hp) with k | k
    . exact .inl ⟨k,zlc ndP hp hu k⟩
    . obtain⟨c,e⟩:=zme (n:=s.heap.objs.size+1) k
      refine .inr ⟨.inl k,c,e,?_⟩
      have q:=x.cell y c e
      rw [zld ndP hp hu (by show scope.names.lookup y≠_;rw [k];decide)] at q
      exact q
  . exact e0.hok.fresh (Nat.le_of_lt (x.above y c (PySem.mem_of_lookup h)))
  . unfold start
    show _=N.length
    rw [qg,qb,qI]
    lia
theorem ztk {CX:CXT}{P:Program}{w:World}{K:PySem.W.Frag}{mg:Str->Option Value}{base:Heap}{k:Nat}{f:Addr}{name qual:Str}{params:Arguments}{body:List Stmt}{scope:Scope}{dV kV doc pm cdv ct oc:Value}{an od:Option Addr}
  {osl:Array (Option Value)} {N ps:List Str} {sp:Sp} (lk:K.lookup f=some ⟨oc,od,.func (PySem.W.fnOf name qual params body scope dV kV doc pm an cdv ct),osl⟩) (hcd:PySem.W.codeIn K cdv qual=true) (S:zN N ps scope)
  (len:∀ vs H Q E,sp vs H Q E->vs.length=ps.length)
  (hbody:∀ (A:Around) (outer:List Env) (s:Shared) (H:Hp) (vs:List V) (Q:VK) (E:XK),zaM k (A.deeper (envOfC qual scope s.heap.objs.size f cdv))->sp vs H Q E ->
   ∃ t,PSs (zfS CX P w K mg base N qual scope f cdv A outer s H E) body t/\t { nx:=fun _ H'=>Q .non H',rt:=Q } (start N vs) H) :
  zW P w K mg base CX (k+1) f (PySem.W.fnOf name qual params body scope dV kV doc pm an cdv ct) ps sp:=by
 refine⟨len,fun A outer s H args us vs Q E hr e0 hb r hsp=>?_⟩
 have hl:=len _ _ _ _ hsp
 have KX:K.In s.heap:=e0.mod.kin.keeps fun b o e=>(e0.bs b o e).1
 have lim:s.heap.NoLimit:=e0.mod.nolimit.keeps fun b o e=>(e0.bs b o e).1
 have hkind:∀ y∈ps.zip us,scope.names.lookup y.1=some .local\/(scope.names.lookup y.1=some .cell/\((cellsFrom (s.heap.objs.size+1) scope.names []).lookup y.1).isSome=true):=fun⟨n,v⟩ hy=>by
  rcases S.par n (List.of_mem_zip hy).1 with q | q
  ·exact .inl q
  ·exact .inr ⟨q,PySem.W.cellsFrom_some _ _ _ (.inl q)⟩
 refine codeAny_call_function hr.depth (KX _ _ lk) rfl S.co S.gen rfl (PySem.W.codeRec_of KX hcd) (hb _ _ _ _ ?_)
 refine wpAny_newFunctionEnv_cells S.kind hkind fun env he s1 x=>?_
 subst he
 refine⟨lim.keeps x.toInCall.keep,codeAny_func ?_⟩
 obtain⟨t,ht,hq⟩:=hbody A outer s H vs Q E (hr.deeper _) hsp
 have I:Inv (zfS CX P w K mg base N qual scope f cdv A outer s H E) [] (start N vs) H s1:=zrs S hr.hd e0 hl r x
 refine wpAny_mono (ht [] s1 (start N vs) H _ I hq) (fun fl s' hs=>?_) fun e s' hs=>hs
 have fin:∀ {σ':St} {H':Hp} {v:V} {u:Value},Inv (zfS CX P w K mg base N qual scope f cdv A outer s H E) [] σ' H' s'->RelV v u->Q v H'->CE outer P w H s Q u s' :=
  fun {σ' H' v u} J rv q=>⟨v,H',J.os,J.bare,J.base,J.hok,rv,q⟩
 cases fl with
 | ret u =>
  obtain⟨v,σ',H',J,rv,q⟩:=hs
  exact fin J rv q
 | next =>
  obtain⟨σ',H',J,q⟩:=hs
  exact fin (v:=V.non) (u:=Value.none) J rfl q
 | brk =>
  obtain⟨_,_,_,q⟩:=hs
  exact False.elim q
 | cont =>
  obtain⟨_,_,_,q⟩:=hs
  exact False.elim q
section
variable {X:Cx}{x:Str}{p pos:Pos}{e:Expr}{es:List Expr}{t:TA}{id T:String}{r:List V->Hp->VK->Prop}
def tCB (r:List V->Hp->VK->Prop)(t:TA):TE:=fun U H Q=>t U H fun vs H1=>r vs H1 Q
theorem zrT (hc:zaO X (.builtin id) r)(hg:Gl X x)(hm:X.mg x=none)(hv:bootBuiltins x=some (.builtin id))(ha:PA X (e::es) t)(hn:x≠"__name__":=by decide)(hdb:(x==("__debug__":Str))=false:=by decide)
  (he:starEach (e::es) X.env=(false,eval e X.env)::starEach es X.env:=by rfl) (hpl:(backTo pos (starEach es X.env)).any (·.1)=false:=by rfl):PE X (.Call (.Name x p) (e::es) [] pos) (tCB r t):=by
 intro pins s U H Q I h
 refine wpAny_Call_Name_kw (zdT I hg hm hv ?_ hn hdb)
 exact PyProof.Rows.callWith_builtin1 (thn (ha pos pins s U H _ I h) fun us s1 ⟨vs,H1,I1,r1,q1⟩=>hc pins s1 U H1 vs us Q I1 r1 q1) he hpl
theorem zqb (hc:zaO X (.type T) r)(hg:Gl X x)(hm:X.mg x=none)(hv:bootBuiltins x=some (.type T))(ha:PA X (e::es) t)(hn:x≠"__name__":=by decide)(hdb:(x==("__debug__":Str))=false:=by decide)
  (he:starEach (e::es) X.env=(false,eval e X.env)::starEach es X.env:=by rfl) (hpl:(backTo pos (starEach es X.env)).any (·.1)=false:=by rfl):PE X (.Call (.Name x p) (e::es) [] pos) (tCB r t):=by
 intro pins s U H Q I h
 refine wpAny_Call_Name_kw (zdT I hg hm hv ?_ hn hdb)
 exact PyProof.Rows.callWith_type1 (thn (ha pos pins s U H _ I h) fun us s1 ⟨vs,H1,I1,r1,q1⟩=>hc pins s1 U H1 vs us Q I1 r1 q1) he hpl
end
end L2
namespace HT
open PySem PyProof.Rows
section
open PySem.SeqAt
open PySem.AutoSeq1 (wpAny_loadPart')
open PySem.MeetsSeq PySem.MeetsSeq2 PySem.MeetsSeq3
end
section
variable {prog:Program}{w:World}{A:Around}{E:Value->Shared->Prop}{s:Shared}
theorem zuM {t b:Addr}{vs ws:List Value}{Q:Value->Shared->Prop}(ht:IsTup s.heap t vs.toArray)(hb:IsTup s.heap b ws.toArray)(hv:vs≠[])
  (h1:ws=[]->Q (.ref t) s) (h2:ws≠[]->Q (.ref s.heap.objs.size) { s with heap:=s.heap.push { cls:=.type "tuple",data:=.seq (vs++ws).toArray } })
  (hsz:vs.length+ws.length<=sizeLine):wpAny (model prog w) A (binaryOp .Add (.ref t) (.ref b)) Q E s:=by
 obtain⟨⟨cls,dd,data,sl⟩,ho,hc,n,hd⟩:=id ht
 obtain⟨⟨cls2,dd2,data2,sl2⟩,ho2,hc2,n2,hd2⟩:=id hb
 simp only at hc hd hc2 hd2
 subst hc hd hc2 hd2
 have e:vs.toArray++ws.toArray=(vs++ws).toArray:=by simp
 by_cases hw:ws=[]
 ·exact concat_meets ⟨_,ho,rfl⟩ ⟨_,ho2,rfl⟩ noFill_tuple_add seq_tuple_add PySem.F.slot_tuple_add PySem.F.entry_tuple_add (PySem.F.args_tuple_add_2 _ _)
   (tuple_addW1 t b vs.toArray ws.toArray n n2 dd dd2 sl sl2 (by simpa using hv) (by simp [hw])) ⟨ho,ho2,h1 hw⟩
 ·refine concat_meets ⟨_,ho,rfl⟩ ⟨_,ho2,rfl⟩ noFill_tuple_add seq_tuple_add PySem.F.slot_tuple_add PySem.F.entry_tuple_add (PySem.F.args_tuple_add_2 _ _)
   (tuple_addW2 t b vs.toArray ws.toArray n n2 dd dd2 sl sl2 (by simpa using hv) (by simpa using hw) (by rw [qm,qm];exact hsz)) ⟨ho,ho2,?_⟩
  rw [e]
  exact h2 hw
def sIx (n d:Nat):Option Int->Nat
 | none=>d
 | some v=>if v<0 then (v+(n:Int)).toNat else min v.toNat n
theorem zjZ (n d:Nat)(hd:d<=n)(o:Option Int):sIx n d o<=n:=by
 cases o with
 | none=>exact hd
 | some v =>
  show (if v<0 then (v+(n:Int)).toNat else min v.toNat n)<=n
  by_cases hv:v<0
  ·rw [if_pos hv];lia
  ·rw [if_neg hv];exact Nat.min_le_right _ _
theorem zon (v:Int)(n d:Nat):(if v<0 then max (v+(n:Int)) 0 else min v (n:Int))=((sIx n d (some v):Nat):Int):=by
 show (if v<0 then max (v+(n:Int)) 0 else min v (n:Int))=(((if v<0 then (v+(n:Int)).toNat else min v.toNat n):Nat):Int)
 by_cases hv:v<0
 ·simp only [if_pos hv];lia
 ·simp only [if_neg hv];lia
theorem zoY (lo hi:Option Int)(n:Nat):Builtin.Slice.sliceAdjust lo hi 1 (n:Int)=(((sIx n 0 lo:Nat):Int),((sIx n n hi:Nat):Int)):=by
 have h1:¬ ((1:Int)<0):=by lia
 unfold Builtin.Slice.sliceAdjust
 simp only [h1,if_false]
 refine Prod.ext ?_ ?_
 ·cases lo with
  | none=>rfl
  | some v=>exact zon v n 0
 ·cases hi with
  | none=>rfl
  | some v=>exact zon v n n
theorem zpx (i j:Nat):Builtin.Slice.slicePlaces (i:Int) (j:Int) 1=j-i:=by
  unfold Builtin.Slice.slicePlaces
  have h1:(1:Int) > 0:=by lia
  simp only [h1,if_true,Int.ediv_one]
  split<;>lia
theorem zki {v:Value}{o:Option Int}{Q:Option Int->Shared->Prop}(p:IsPart v o)(h:Q o s):wpAny (model prog w) A (Builtin.Slice.slicePartIndex v) Q E s:=by
 cases p with
 | none=>exact slicePart_none h
 | int i t=>exact slicePart_int h
theorem zfe {sl:Addr}{vl vu:Value}{lo hi:Option Int}{n:Nat}{Q:Int×Int×Nat->Shared->Prop}(hs:s.heap.IsSliceOf sl vl vu .none)(pl:IsPart vl lo)(pu:IsPart vu hi)
  (h:Q (((sIx n 0 lo:Nat):Int),1,sIx n n hi-sIx n 0 lo) s):wpAny (model prog w) A (Builtin.Slice.sliceApplied (.ref sl) (pure (n:Int))) Q E s:=by
 obtain⟨os,hos,hcs,hds⟩:=id hs
 unfold Builtin.Slice.sliceApplied Builtin.Slice.sliceFields
 refine wpAny_bind (wpAny_bind (wpAny_field hos hds (x:=vl) rfl (wpAny_bind (wpAny_field hos hds (x:=vu) rfl (wpAny_bind (wpAny_field hos hds (x:=.none) rfl (wpAny_pure ?_)))))))
 refine wpAny_bind (slicePart_none ?_)
 show wpAny _ _ (if ((1:Int)==0)=true then _ else _) _ _ s
 rw [if_neg (by decide)]
 refine wpAny_bind (zki pl (wpAny_bind (zki pu (wpAny_bind (wpAny_pure ?_)))))
 show wpAny _ _ (match Builtin.Slice.sliceAdjust lo hi 1 (n:Int) with | (lo,hi)=>pure (lo,(1:Int),Builtin.Slice.slicePlaces lo hi 1)) _ _ s
 rw [zoY lo hi n]
 show wpAny _ _ (pure (((sIx n 0 lo:Nat):Int),(1:Int),Builtin.Slice.slicePlaces ((sIx n 0 lo:Nat):Int) ((sIx n n hi:Nat):Int) 1)) _ _ s
 rw [zpx]
 exact wpAny_pure h
theorem zsr (xs:Array Value)(i k:Nat):((List.range k).filterMap fun (m:Nat)=>xs[((i:Int)+(m:Int)*1).toNat]?).toArray=((xs.toList.drop i).take k).toArray:=by
 have e:(fun (m:Nat)=>xs[((i:Int)+(m:Int)*1).toNat]?)=fun m=>xs[i+m]?:=by
  funext m
  have:((i:Int)+(m:Int)*1).toNat=i+m:=by lia
  rw [this]
 rw [e]
 have:=pick_run xs i k
 rw [List.filterMap_map] at this
 have e2:((fun x=>xs[x]?) ∘ fun x=>i+x)=fun m=>xs[i+m]?:=rfl
 rw [e2] at this
 rw [this]
theorem ziF {t sl:Addr}{items:Array Value}{vl vu:Value}{lo hi:Option Int}{Q:Value->Shared->Prop}(ht:IsTup s.heap t items)(hs:s.heap.IsSliceOf sl vl vu .none)(pl:IsPart vl lo)(pu:IsPart vu hi)
  (hw:¬ (sIx items.size 0 lo=0/\sIx items.size items.size hi=items.size))
  (h:Q (.ref s.heap.objs.size) { s with heap:=s.heap.push { cls:=.type "tuple",data:=.seq ((items.toList.drop (sIx items.size 0 lo)).take (sIx items.size items.size hi-sIx items.size 0 lo)).toArray } })
  (hsz:items.size<=sizeLine):wpAny (model prog w) A (getItem (.ref t) (.ref sl)) Q E s:=by
 have htake:sizeOk (.seq ((items.toList.drop (sIx items.size 0 lo)).take (sIx items.size items.size hi-sIx items.size 0 lo)).toArray):=by
  show ((items.toList.drop (sIx items.size 0 lo)).take (sIx items.size items.size hi-sIx items.size 0 lo)).toArray.size<=sizeLine
  rw [qm,List.length_take,List.length_drop,qQ]
  lia
 have hj:sIx items.size items.size hi<=items.size:=zjZ _ _ (qf _) hi
 obtain⟨os,hos,hcs,hds⟩:=id hs
 have hTs:s.TypeIs (.ref sl) "slice":=⟨os,hos,hcs⟩
 unfold getItem
 try with_reducible refine wpAny_holding ?_
 first | refine wpAny_bind (wpAny_pure ?_) | skip
 refine wpAny_bind (wpAny_sequenceKey ht.typeIs (by decide) ?_)
 refine wpAny_bind (wpAny_callSpecial?_slot (name:=Str.ofString "__getitem__") ht.typeIs PyProof.Rows.slot_tuple_getitem
  (wpAny_call_entry PyProof.Rows.slot_tuple_getitem ht.typeIs entry_tuple_getitem ?_ (args_tuple_getitem _ _)))
 show wpAny _ _ (Builtin.Tuple.tupleItemsOf (.ref t) >>= _) _ _ s
 refine wpAny_bind (tupleItemsOf_ ht ?_)
 refine wpAny_bind (wpAny_typeOf hTs ?_)
 rw [if_pos (by decide)]
 refine wpAny_bind (zfe hs pl pu ?_)
 have hno:¬ ((((sIx items.size 0 lo:Nat):Int)==0&&(1:Int)==1&&(sIx items.size items.size hi-sIx items.size 0 lo)==items.size)=true):=by
  intro q
  rw [qH,qH] at q
  have q1:((sIx items.size 0 lo:Nat):Int)=0:=eq_of_beq q.1.1
  have q2:sIx items.size items.size hi-sIx items.size 0 lo=items.size:=eq_of_beq q.2
  exact hw ⟨by lia,by lia⟩
 show wpAny _ _ (if (((sIx items.size 0 lo:Nat):Int)==0&&(1:Int)==1&&(sIx items.size items.size hi-sIx items.size 0 lo)==items.size)=true then _ else _) _ _ s
 rw [if_neg hno,zsr]
 first
  | exact wpAny_bind (m:=Builtin.Tuple.tupleExact _) (wpAny_newObj_type (wpAny_pure ⟨_,rfl,wpAny_pure h⟩) htake)
  | exact wpAny_bind (m:=Builtin.Tuple.tupleExact _) (wpAny_newObj_type (wpAny_bind (wpAny_pure (wpAny_pure ⟨_,rfl,wpAny_pure h⟩))) htake)
  | exact wpAny_bind (wpAny_bind (m:=Builtin.Tuple.tupleExact _) (wpAny_newObj_type (wpAny_pure (wpAny_pure ⟨_,rfl,wpAny_pure h⟩)) htake))
  | exact wpAny_bind (wpAny_bind (m:=Builtin.Tuple.tupleExact _) (wpAny_newObj_type (wpAny_pure ⟨_,rfl,wpAny_pure h⟩) htake))
end
end HT
namespace L2
open PySem PySem.Spec PyProof.Rows
abbrev TO:=St->Hp->(Option Int->Hp->Prop)->Prop
def PO (X:Cx)(e:Option Expr)(t:TO):Prop :=
 ∀ (pins:List (Addr×Obj)) (s:Shared) (U:St) (H:Hp) (Q:Option Int->Hp->Prop),Inv X pins U H s->t U H Q ->
  wpAny (model X.prog X.w) X.A (evalPart e X.env) (fun u s'=>∃ o H',Inv X pins U H' s'/\IsPart u o/\Q o H') X.xe s
def zuQ:TO:=fun _ H Q=>Q none H
def zyJ (t:TE):TO:=fun U H Q=>t U H fun x H1=>∃ i,x=.int i/\Q (some i) H1
section
variable {X:Cx}{e:Expr}{te:TE}{lo hi:Option Expr}{tl th:TO}{pos p2:Pos}
theorem zut:PO X none zuQ:=by
 intro pins s U H Q I h
 rw [evalPart_none]
 exact wpAny_pure ⟨none,H,I,.none,h⟩
theorem ztV (h:PE X e te):PO X (some e) (zyJ te):=by
 intro pins s U H Q I hw
 rw [evalPart_some]
 refine thn (h pins s U H _ I hw) fun u s1 ⟨x,H1,I1,r1,q1⟩=>?_
 obtain⟨i,rfl,q⟩:=q1
 obtain⟨t,rfl⟩:=r1
 exact⟨some i,H1,I1,.int i t,q⟩
def SlR (X:Cx)(r:V->Option Int->Option Int->Hp->VK->Prop):Prop :=
 ∀ (pins:List (Addr×Obj)) (s:Shared) (U:St) (H:Hp) (x:V) (v vl vu:Value) (lo hi:Option Int) (sl:Addr) (Q:VK),Inv X pins U H s->RelV x v->s.heap.IsSliceOf sl vl vu .none->IsPart vl lo->IsPart vu hi->r x lo hi H Q ->
  ∃ T id,typeLookup (.type T) "__getitem__"=pure (some (.builtin id))/\s.TypeIs v T/\wpAny (model X.prog X.w) X.A (getItem v (.ref sl)) (EP X pins U Q) X.xe s
theorem SlR.or {r r':V->Option Int->Option Int->Hp->VK->Prop}(h:SlR X r)(h':SlR X r'):SlR X (fun x lo hi H Q=>r x lo hi H Q\/r' x lo hi H Q):=by
 intro pins s U H x v vl vu lo hi sl Q I rx hs pl pu q
 rcases q with q | q
 ·exact h pins s U H x v vl vu lo hi sl Q I rx hs pl pu q
 ·exact h' pins s U H x v vl vu lo hi sl Q I rx hs pl pu q
def tSl (r:V->Option Int->Option Int->Hp->VK->Prop)(te:TE)(tl th:TO):TE:=fun U H Q=>te U H fun x H1=>tl U H1 fun l H2=>th U H2 fun u H3=>r x l u H3 Q
theorem zsd {r:V->Option Int->Option Int->Hp->VK->Prop}(hr:SlR X r)(he:PE X e te)(hl:PO X lo tl)(hu:PO X hi th):PE X (.Subscript e (.Slice lo hi none p2) pos) (tSl r te tl th):=by
 intro pins s U H Q I h
 refine Subscript_ (thn (he pins s U H _ I h) fun v s1 ⟨x,H1,I1,r1,q1⟩=>?_)
 refine wpAny_Slice (thn (hl pins s1 U H1 _ I1 q1) fun vl s2 ⟨l,H2,I2,pl,q2⟩=>thn (hu pins s2 U H2 _ I2 q2) fun vu s3 ⟨u,H3,I3,pu,q3⟩=>?_)
 rw [evalPart_none]
 refine wpAny_pure ?_
 have I4:Inv X pins U H3 { s3 with heap:=s3.heap.push { cls:=.type "slice",data:=.fields #[vl,vu,.none] } }:=I3.kept (t':=s3.toks) fun b ob q=>qd _ q
 obtain⟨T,id,hT,ht,hg⟩:=hr pins { s3 with heap:=s3.heap.push { cls:=.type "slice",data:=.fields #[vl,vu,.none] } } U H3 x v vl vu l u s3.heap.objs.size Q I4 r1 (Heap.IsSliceOf.new ..) pl pu q3
 show wpAny (model X.prog X.w) X.A (subscriptTail e (.Slice lo hi none p2) v (.ref s3.heap.objs.size)) (EP X pins U Q) X.xe { s3 with heap:=s3.heap.push { cls:=.type "slice",data:=.fields #[vl,vu,.none] } }
 exact tail_any (ops:=[.ref s3.heap.objs.size,v]) ht hT hg (by with_unfolding_all rfl)
def zgR (xs:List V)(lo hi:Option Int):List V:=(xs.drop (HT.sIx xs.length 0 lo)).take (HT.sIx xs.length xs.length hi-HT.sIx xs.length 0 lo)
theorem ziO (xs:List V)(lo hi:Option Int):(zgR xs lo hi).length<=xs.length:=by
 unfold zgR
 rw [List.length_take,List.length_drop]
 lia
def zzd (K:PySem.W.Frag):V->Option Int->Option Int->Hp->VK->Prop:=fun x lo hi H Q=>∃ a xs,x=.ref a/\SqT K H a xs /\
 ¬ (HT.sIx xs.length 0 lo=0/\HT.sIx xs.length xs.length hi=xs.length)/\∀ p,H p=none->Q (.ref p) (upd H p (.tup (zgR xs lo hi)))
theorem zvI:SlR X (zzd X.K):=by
 intro pins s U H x v vl vu lo hi sl Q I rx hs pl pu h
 obtain⟨a,xs,rfl,hx,hw,q⟩:=h
 cases rx
 obtain⟨its,r,ht,hz⟩:=I.tuple hx
 have hlen:its.toArray.size=xs.length:=by rw [qm];exact r.length.symm
 refine⟨"tuple",_,PyProof.Rows.slot_tuple_getitem.lookup,ht.typeIs,?_⟩
 refine HT.ziF ht hs pl pu (by rw [hlen];exact hw) ?_ (by rw [hlen];exact hz)
 rw [hlen]
 refine⟨.ref s.heap.objs.size,_,I.laid (t':=s.toks) (o:=.tup (zgR xs lo hi)) (fun b ob q=>qd _ q) (qf _) ?_,rfl,q _ (I.hok.fresh (qf _))⟩
 exact⟨Nat.le_trans (ziO xs lo hi) hz,_,(r.drop (HT.sIx xs.length 0 lo)).take (HT.sIx xs.length xs.length hi-HT.sIx xs.length 0 lo),IsTup.new _ _⟩
def zyl (K:PySem.W.Frag):R2:=fun x y H Q=>∃ a b xs ys,x=.ref a/\y=.ref b/\SqT K H a xs/\SqT K H b ys/\xs≠[]/\xs.length+ys.length<=sizeLine /\
 (ys=[]->Q (.ref a) H)/\(ys≠[]->∀ p,H p=none->Q (.ref p) (upd H p (.tup (xs++ys))))
theorem Vals.nil_iff {xs:List V}{us:List Value}(r:Vals xs us):us=[]↔xs=[]:=by
 cases r with
 | nil=>simp
 | cons _ _=>simp
theorem zur:OpR X (binaryOp .Add) (zyl X.K):=by
 intro pins s U H x y v u Q I rx ry h
 obtain⟨a,b,xs,ys,rfl,rfl,ha,hb,hx,hz,q1,q2⟩:=h
 cases rx
 cases ry
 obtain⟨its,r1,p1,_⟩:=I.tuple ha
 obtain⟨its2,r2,p2,_⟩:=I.tuple hb
 refine HT.zuM p1 p2 (fun z=>hx (r1.nil_iff.mp z)) (fun z=>⟨.ref a,H,I,rfl,q1 (r2.nil_iff.mp z)⟩) (fun z=>?_) (by rw [<- r1.length,<- r2.length];exact hz)
 refine⟨.ref s.heap.objs.size,_,I.laid (t':=s.toks) (o:=.tup (xs++ys)) (fun b ob q=>qd _ q) (qf _) ?_,rfl,q2 (fun w=>z (r2.nil_iff.mpr w)) _ (I.hok.fresh (qf _))⟩
 exact⟨by rw [qg];exact hz,_,r1.append r2,IsTup.new _ _⟩
end
def ixN (n:Nat)(i:Int):Option Nat:=if 0<=i then (if i<n then some i.toNat else none) else if -(n:Int)<=i then some (i+n).toNat else none
def atI {α:Type}(xs:List α)(i:Int):Option α:=(ixN xs.length i).bind fun j=>xs[j]?
theorem zob {n:Nat}{i:Int}{j:Nat}(h:ixN n i=some j):seqIndex? i n=some j/\j<n/\-(n:Int)<=i/\i<n:=by
 unfold ixN at h
 by_cases h0:0<=i
 ·rw [if_pos h0] at h
  by_cases h1:i<n
  ·rw [if_pos h1] at h
   have e:i.toNat=j:=qA h
   exact⟨by rw [seqIndex_of h0 h1,e],by lia,by lia,h1⟩
  ·rw [if_neg h1] at h;cases h
 ·rw [if_neg h0] at h
  by_cases h1:-(n:Int)<=i
  ·rw [if_pos h1] at h
   have e:(i+n).toNat=j:=qA h
   exact⟨by rw [seqIndex_neg (by lia) h1,e],by lia,h1,by lia⟩
  ·rw [if_neg h1] at h;cases h
theorem zkW {α:Type}{xs:List α}{i:Int}{v:α}(h:atI xs i=some v):∃ j,seqIndex? i xs.length=some j/\xs[j]?=some v/\j<xs.length/\-(xs.length:Int)<=i/\i<xs.length:=by
 unfold atI at h
 cases e:ixN xs.length i with
 | none=>rw [e] at h;cases h
 | some j =>
  rw [e] at h
  obtain⟨h1,h2,h3,h4⟩:=zob e
  exact⟨j,h1,h,h2,h3,h4⟩
def zn0 (b:Expr):Prop:=∀ o i,subscripted b false o i=operate [o,i] (getItem o i)
def IxR (X:Cx)(r:R2):Prop :=
 ∀ (value slice:Expr) (pins:List (Addr×Obj)) (s:Shared) (U:St) (H:Hp) (x y:V) (v u:Value) (Q:VK),Inv X pins U H s->RelV x v->RelV y u->r x y H Q ->
  subscripted slice false v u=operate [v,u] (getItem v u)->wpAny (model X.prog X.w) X.A (subscriptTail value slice v u) (EP X pins U Q) X.xe s
def MtR (X:Cx)(id:String)(r:V->List V->Hp->VK->Prop):Prop :=
 ∀ (pins:List (Addr×Obj)) (s:Shared) (U:St) (H:Hp) (x:V) (xs:List V) (v:Value) (us:List Value) (Q:VK),Inv X pins U H s->RelV x v->Vals xs us->r x xs H Q ->
  wpAny (model X.prog X.w) X.A (call (.builtin id) (v::us)) (EP X pins U Q) X.xe s
section
variable {X:Cx}{a b:Expr}{ta tb:TE}{pos:Pos}
theorem IxR.or {r r':R2}(h:IxR X r)(h':IxR X r'):IxR X (fun x y H Q=>r x y H Q\/r' x y H Q):=by
 intro value slice pins s U H x y v u Q I rx ry q hs
 rcases q with q | q
 ·exact h value slice pins s U H x y v u Q I rx ry q hs
 ·exact h' value slice pins s U H x y v u Q I rx ry q hs
theorem zxr {r:R2}(hr:IxR X r)(ha:PE X a ta)(hb:PE X b tb)(hs:zn0 b):PE X (.Subscript a b pos) (tOp r ta tb):=by
 intro pins s U H Q I h
 exact Subscript_ (zrZ ha hb I h fun v u s2 x y H2 I2 rx ry q=>hr a b pins s2 U H2 x y v u Q I2 rx ry q (hs _ _))
def zyW (K:PySem.W.Frag):R2:=fun x y H Q=>∃ p xs i v,x=.ref p/\y=.int i/\SqL K H p xs/\atI xs i=some v/\Q v H
def zy9 (K:PySem.W.Frag):R2:=fun x y H Q=>∃ p xs i v,x=.ref p/\y=.int i/\SqT K H p xs/\atI xs i=some v/\Q v H
def zzh:R2:=fun x y H Q=>∃ z i c,x=.str z/\y=.int i/\z.length<=sizeLine/\atI z.cps.toList i=some c/\Q (.str ⟨#[c]⟩) H
theorem zug:IxR X (zyW X.K):=by
  intro value slice pins s U H x y v u Q I rx ry h hs
  obtain⟨p,xs,i,z,rfl,rfl,hq,he,q⟩:=h
  cases rx
  obtain⟨t,rfl⟩:=ry
  obtain⟨its,r,pl,hz⟩:=I.list hq
  obtain⟨j,h1,h2,h3,h4,h5⟩:=zkW he
  obtain⟨w,ew,rw'⟩:=r.get h2
  have hl:=r.length
  have hn:=zgh
  have fin:EP X pins U Q w s:=⟨z,H,I,rw',q⟩
  by_cases h0:0<=i
  . have hj : i.toNat = j := by
      rw [seqIndex_of h0 h5] at h1
      exact qA h1
    exact item_listR pl.isList h0 (by lia) (by rw [hj];simpa using ew) fin hs
  . have hj : (i + (its.toArray.size : Int)).toNat = j := by
      rw [seqIndex_neg (by lia) h4] at h1
      rw [qm,<- hl]
      exact qA h1
    exact subscriptTail_builtinR (x:=w) pl.isList.typeIs slot_list_getitem.lookup
      (wpAny_getItem_list_neg (Q:=fun r s'=>r=w/\EP X pins U Q r s') pl.isList (by lia) (by rw [qm]<;>lia) (by lia) (by rw [hj];simpa using ew) ⟨rfl,fin⟩) hs
theorem zwT:IxR X (zy9 X.K):=by
 intro value slice pins s U H x y v u Q I rx ry h hs
 obtain⟨p,xs,i,z,rfl,rfl,hq,he,q⟩:=h
 cases rx
 obtain⟨t,rfl⟩:=ry
 obtain⟨its,r,pl,hz⟩:=I.tuple hq
 obtain⟨j,h1,h2,h3,h4,h5⟩:=zkW he
 obtain⟨w,ew,rw'⟩:=r.get h2
 have hl:=r.length
 have hn:=zgh
 have fin:EP X pins U Q w s:=⟨z,H,I,rw',q⟩
 exact subscriptTail_builtinR (x:=w) pl.typeIs slot_tuple_getitem.lookup
  (getItem_tuple (j:=j) (Q:=fun r s'=>r=w/\EP X pins U Q r s') pl (by lia) (by lia) (by rw [qm,<- hl];exact h1) (by simpa using ew) ⟨rfl,fin⟩) hs
theorem zxc:IxR X zzh:=by
 intro value slice pins s U H x y v u Q I rx ry h hs
 obtain⟨z,i,c,rfl,rfl,hz,he,q⟩:=h
 obtain⟨t,rfl⟩:=rx
 obtain⟨t',rfl⟩:=ry
 obtain⟨j,h1,h2,h3,h4,h5⟩:=zkW he
 have hl:z.cps.toList.length=z.length:=by simp [Str.length]
 rw [hl] at h1 h4 h5
 have hn:=zgh
 exact tail_any (typeIs_str s z t) slot_str_getitem.lookup (getItem_str (c:=c) (by
  have e1:decide (i < -(2 ^ 63:Int))=false:=decide_eq_false (by lia)
  have e2:decide (i ≥ 2 ^ 63)=false:=decide_eq_false (by lia)
  rw [e1,e2,Bool.or_false]) (by rw [h1];simpa using h2) ⟨.str ⟨#[c]⟩,H,I.tok _,⟨_,rfl⟩,q⟩) hs
theorem zou (its:List Value)(n j:Nat)(u:Value):Obj.mapSeq (·.setIfInBounds j u) { cls:=.type "list",data:=.seq its.toArray n }={ cls:=.type "list",data:=.seq (its.set j u).toArray n }:=by
 simp [Obj.mapSeq]
theorem Inv.lst {pins:List (Addr×Obj)}{U:St}{H:Hp}{s:Shared}{p:Addr}{xs:List V}(I:Inv X pins U H s)(h:H p=some (.lst xs)) :
  ∃ (its:List Value) (n:Nat),Vals xs its/\s.heap.get? p=some { cls:=.type "list",data:=.seq its.toArray n }/\xs.length<=sizeLine:=by
 obtain⟨z,its,n,r,e⟩:=I.hok p _ h
 exact⟨its,n,r,e,z⟩
theorem Inv.lstUpd {pins:List (Addr×Obj)}{U:St}{H:Hp}{s:Shared}{p:Addr}{xs ys:List V}{its its':List Value}{n n':Nat}{f:Obj->Obj}(I:Inv X pins U H s)(h:H p=some (.lst xs))
    (ho:s.heap.get? p=some { cls:=.type "list",data:=.seq its.toArray n }) (hf:f { cls:=.type "list",data:=.seq its.toArray n }={ cls:=.type "list",data:=.seq its'.toArray n' }) (r:Vals ys its') (hz:ys.length<=sizeLine) (t:Nat) :
    Inv X pins U (upd H p (.lst ys)) { s with heap:=s.heap.update p f,toks:=t }:=by
  have e:(s.heap.update p f).get? p=some { cls:=.type "list",data:=.seq its'.toArray n' }:=by
    rw [Heap.get?_update_self f ho (by rw [hf]<;>rfl),hf]
  refine I.write (x:=p) (e:=p) (by rw [h];trivial) (.inl rfl) (fun b u hb q=>(Heap.get?_update_other _ _ (Ne.symm hb)).trans q) ⟨_,e⟩ ?_
  exact⟨hz,its',n',r,e⟩
def zxM:V->V->V->Hp->(Hp->Prop)->Prop:=fun o i v H Q=>∃ p xs k j,o=.ref p/\i=.int k/\H p=some (.lst xs)/\ixN xs.length k=some j/\Q (upd H p (.lst (xs.set j v)))
theorem set_list:zwg X zxM:=by
 intro pins s U H o i v ov iv u Q I ro ri rv h
 obtain⟨p,xs,k,j,rfl,rfl,hp,hj,q⟩:=h
 cases ro
 obtain⟨t,rfl⟩:=ri
 obtain⟨its,n,r,ho,hz⟩:=I.lst hp
 obtain⟨h1,h2,h3,h4⟩:=zob hj
 have hl:=r.length
 have hn:=zgh
 have I':Inv X pins U (upd H p (.lst (xs.set j v))) { s with heap:=s.heap.update p (Obj.mapSeq (·.setIfInBounds j u)) } :=
  I.lstUpd hp ho (zou its n j u) (r.set rv j) (by rw [List.length_set];exact hz) s.toks
 by_cases h0:0<=k
 ·have hk:k.toNat=j:=by
   rw [seqIndex_of h0 h4] at h1
   exact qA h1
  exact PySem.W.ki_setAt ho h0 (by lia) (by rw [qm,<- hl];exact h4) (by rw [hk];exact⟨_,I',q⟩)
 ·have hk:(k+(its.toArray.size:Int)).toNat=j:=by
   rw [seqIndex_neg (by lia) h3] at h1
   rw [qm,<- hl]
   exact qA h1
  exact PySem.W.ki_setBack ho (by lia) (by rw [qm,<- hl];exact h3) (by lia) (by rw [hk];exact⟨_,I',q⟩)
theorem zmq (lo hi:Option Int)(n:Nat):(sliceBounds lo hi none n).1=((HT.sIx n 0 lo:Nat):Int)/\(sliceBounds lo hi none n).2.1=((HT.sIx n n hi:Nat):Int)/\(sliceBounds lo hi none n).2.2=1:=by
  refine⟨?_,?_,rfl⟩
  . cases lo with
    | none=>simp [sliceBounds,HT.sIx]
    | some i =>
      simp only [sliceBounds,HT.sIx,Option.getD_none,show (1:Int) > 0 by decide,if_true]
      by_cases h:i<0
      . simp only [h,if_true]<;>lia
      . simp only [h,if_false]<;>lia
  . cases hi with
    | none=>simp [sliceBounds,HT.sIx]
    | some i =>
      simp only [sliceBounds,HT.sIx,Option.getD_none,show (1:Int) > 0 by decide,if_true]
      by_cases h:i<0
      . simp only [h,if_true]<;>lia
      . simp only [h,if_false]<;>lia
theorem zlA (its:List Value)(lo hi:Option Int):slicePick its.toArray lo hi none=((its.drop (HT.sIx its.length 0 lo)).take (HT.sIx its.length its.length hi-HT.sIx its.length 0 lo)).toArray:=by
  obtain⟨h1,h2,h3⟩:=zmq lo hi its.toArray.size
  unfold slicePick
  rw [h1,h2,h3]
  simp only [sliceRange_one,pick_run,qm]<;>rfl
def zyR (K:PySem.W.Frag):V->Option Int->Option Int->Hp->VK->Prop:=fun x lo hi H Q=>∃ a xs,x=.ref a/\SqL K H a xs/\∀ p,H p=none->Q (.ref p) (upd H p (.lst (zgR xs lo hi)))
theorem zuU:SlR X (zyR X.K):=by
  intro pins s U H x v vl vu lo hi sl Q I rx hs pl pu h
  obtain⟨a,xs,rfl,hx,q⟩:=h
  cases rx
  obtain⟨its,r,ht,hz⟩:=I.list hx
  have hlen:=r.length
  refine⟨"list",_,slot_list_getitem.lookup,ht.isList.typeIs,?_⟩
  refine wpAny_getItem_list_slice ht.isList hs pl pu .none (by simp) ?_ (by rw [qm]<;>lia)
  rw [zlA,<- hlen]
  refine⟨.ref s.heap.objs.size,_,I.laid (t':=s.toks) (o:=.lst (zgR xs lo hi)) (fun b ob q=>qd _ q) (qf _) ?_,rfl,q _ (I.hok.fresh (qf _))⟩
  exact⟨Nat.le_trans (ziO xs lo hi) hz,_,0,(r.drop (HT.sIx xs.length 0 lo)).take (HT.sIx xs.length xs.length hi-HT.sIx xs.length 0 lo),qp _ rfl⟩
theorem zl3:zaO X (.builtin "len") (fun xs H Q=>∃ p ys,xs=[.ref p]/\(SqL X.K H p ys\/SqT X.K H p ys)/\Q (.int ys.length) H):=by
  intro pins s U H xs us Q I r h
  obtain⟨p,ys,rfl,hq,q⟩:=h
  obtain⟨u,rfl,rx⟩:=vals1 r
  cases rx
  have hn:=zgh
  rcases hq with hq | hq
  . obtain⟨its,r',pl,hz⟩:=I.list hq
    have hlen:=r'.length
    exact Calls.call_len_list pl.isList (by simp only [qm]<;>lia) ⟨.int ys.length,H,I.tok _,⟨s.toks+1,by rw [qm,hlen]⟩,q⟩
  . obtain⟨its,r',pl,hz⟩:=I.tuple hq
    have hlen:=r'.length
    exact len_tuple pl (by simp only [qm]<;>lia) ⟨.int ys.length,H,I.tok _,⟨s.toks+1,by rw [qm,hlen]⟩,q⟩
theorem zmK:zaO X (.builtin "len") (fun xs H Q=>∃ z,xs=[.str z]/\z.length<=sizeLine/\Q (.int z.length) H):=by
 intro pins s U H xs us Q I r h
 obtain⟨z,rfl,hz,q⟩:=h
 obtain⟨u,rfl,t,rfl⟩:=vals1 r
 have hn:=zgh
 exact len_str (by lia) ⟨.int z.length,H,I.tok _,⟨_,rfl⟩,q⟩
theorem zaO.or {f:Value}{r r':List V->Hp->VK->Prop}(h:zaO X f r)(h':zaO X f r'):zaO X f (fun xs H Q=>r xs H Q\/r' xs H Q):=by
 intro pins s U H xs us Q I rs q
 rcases q with q | q
 ·exact h pins s U H xs us Q I rs q
 ·exact h' pins s U H xs us Q I rs q
theorem zl0:zaO X (.type "list") (fun xs H Q=>∃ p ys,xs=[.ref p]/\(SqL X.K H p ys\/SqT X.K H p ys)/\∀ l,H l=none->Q (.ref l) (upd H l (.lst ys))):=by
  intro pins s U H xs us Q I r h
  obtain⟨p,ys,rfl,hq,q⟩:=h
  obtain⟨u,rfl,rx⟩:=vals1 r
  cases rx
  have fin : ∀ (its : List Value), Vals ys its → ys.length ≤ sizeLine → ∀ (h' : Heap) (c' : Nat), (∀ b o', s.heap.get? b = some o' → h'.get? b = some o') →
      h'.get? s.heap.objs.size=some { cls:=.type "list",dict:=none,data:=.seq its.toArray c',slots:=#[] }->EP X pins U Q (.ref s.heap.objs.size) { s with heap:=h' }:=fun its r' hz h' c' kp e =>
    ⟨.ref s.heap.objs.size,_,I.laid (t':=s.toks) kp (qf _) (show zaD X.prog X.w _ h' _ (.lst ys) from ⟨hz,its,c',r',e⟩),rfl,q _ (I.hok.fresh (qf _))⟩
  rcases hq with hq | hq
  . obtain⟨its,r',pl,hz⟩:=I.list hq
    have hlen:=r'.length
    obtain⟨o,ho,hc,n,hd⟩:=pl.isList
    exact call_list_seq p (.inl rfl) ho hc hd (fun h' c' kp e=>fin its r' hz h' c' kp e) (by simp only [qm]<;>lia)
  . obtain⟨its,r',pl,hz⟩:=I.tuple hq
    have hlen:=r'.length
    obtain⟨o,ho,hc,n,hd⟩:=pl
    exact call_list_seq p (.inr rfl) ho hc hd (fun h' c' kp e=>fin its r' hz h' c' kp e) (by simp only [qm]<;>lia)
theorem zlv:zaO X (.type "tuple") (fun xs H Q=>∃ p ys,xs=[.ref p]/\((SqL X.K H p ys/\∀ l,H l=none->Q (.ref l) (upd H l (.tup ys)))\/(SqT X.K H p ys/\Q (.ref p) H))):=by
  intro pins s U H xs us Q I r h
  obtain⟨p,ys,rfl,h⟩:=h
  obtain⟨u,rfl,rx⟩:=vals1 r
  cases rx
  rcases h with ⟨hq,q⟩ | ⟨hq,q⟩
  . obtain⟨its,r',pl,hz⟩:=I.list hq
    have hlen:=r'.length
    refine call_tuple_list pl.isList (fun h' kp=>?_) (by simp only [qm]<;>lia)
    have I1:Inv X pins U H { s with heap:=h' }:=I.kept (t':=s.toks) kp
    have I2:Inv X pins U (upd H h'.objs.size (.tup ys)) { s with heap:=h'.push { cls:=.type "tuple",data:=.seq its.toArray } } :=
      I1.laid (t':=s.toks) (fun b o e=>qd _ e) (qf _) (show zaD X.prog X.w _ _ _ (.tup ys) from ⟨hz,its,r',IsTup.new _ _⟩)
    exact⟨.ref h'.objs.size,_,I2,rfl,q _ (I1.hok.fresh (qf _))⟩
  . obtain⟨its,r',pl,hz⟩:=I.tuple hq
    exact call_tuple_same pl ⟨.ref p,H,I,rfl,q⟩
def tyV (K:PySem.W.Frag)(T:String)(x:V)(H:Hp):Prop:=match x with
 | .str _=>T="str"
 | .int _=>T="int"
 | .ref p=>(T="list"/\∃ xs,SqL K H p xs)\/(T="tuple"/\∃ o,K.lookup p=some o/\o.cls=.type "tuple"/\o.dict=none) \/
   (T="dict"/\((∃ kvs,H p=some (.dK kvs))\/∃ kvs,H p=some (.dT kvs)))\/(T="set"/\∃ S n,H p=some (.set S n))
 | _=>False
theorem zwA {pins:List (Addr×Obj)}{U:St}{H:Hp}{s:Shared}{T:String}{x:V}{v:Value}(I:Inv X pins U H s)(r:RelV x v)(ty:tyV X.K T x H) :
  s.TypeIs v T/\∀ a,v=.ref a->∃ ob,s.heap.get? a=some ob/\ob.dict=none:=by
 cases x with
 | str z =>
  obtain⟨t,rfl⟩:=r
  cases (show T="str" from ty)
  exact⟨typeIs_str s z t,fun _ e=>nomatch e⟩
 | int i =>
  obtain⟨t,rfl⟩:=r
  cases (show T="int" from ty)
  exact⟨typeIs_int s i t,fun _ e=>nomatch e⟩
 | ref p =>
  cases r
  rcases ty with ⟨rfl,xs,hq⟩ | ⟨rfl,o,hk,hc,hd⟩ | ⟨rfl,hk⟩ | ⟨rfl,S,n,hk⟩
  ·obtain⟨its,_,pl,_⟩:=I.list hq
   refine⟨pl.isList.typeIs,fun a e=>?_⟩
   cases e
   obtain⟨o,n,e,c,hd,_⟩:=pl
   exact⟨o,e,hd⟩
  ·refine⟨⟨o,I.kIn p o hk,hc⟩,fun a e=>?_⟩
   cases e
   exact⟨o,I.kIn _ o hk,hd⟩
  ·have z:∃ o,s.heap.get? p=some o/\o.ExactDict:=by
    rcases hk with ⟨kvs,hk⟩ | ⟨kvs,hk⟩
    ·obtain⟨_,_,_,_,o,_,_,e,ex,_⟩:=I.hok p _ hk
     exact⟨o,e,ex⟩
    ·obtain⟨_,_,_,_,o,_,_,e,ex,_⟩:=I.hok p _ hk
     exact⟨o,e,ex⟩
   obtain⟨o,e,ex⟩:=z
   refine⟨⟨o,e,ex.1⟩,fun a e2=>?_⟩
   cases e2
   exact⟨o,e,ex.2.1⟩
  ·obtain⟨o,_,_,_,e,ex,_⟩:=I.hok p _ hk
   refine⟨⟨o,e,ex.1⟩,fun a e2=>?_⟩
   cases e2
   exact⟨o,e,ex.2.1⟩
 | _=>exact False.elim ty
def tBM (K:PySem.W.Frag)(T:String)(r:V->List V->Hp->VK->Prop)(to:TE)(t:TA):TE:=fun U H Q=>to U H fun x H1=>tyV K T x H1/\t U H1 fun xs H2=>r x xs H2 Q
variable {o e:Expr}{es:List Expr}{to:TE}{t:TA}{name:Str}{apos cpos:Pos}{T id:String}{r:V->List V->Hp->VK->Prop}
theorem zxK (pa:PlainAttrs T)(slot:Slot T name id)(hty:typeOf (.builtin id)=pure (.type "method_descriptor"))(hm:MtR X id r)(ho:PE X o to)(ha:PA X (e::es) t)
    (hbase:attributeBase o name X.env (eval o X.env)=eval o X.env:=by rfl)
    (hfew:((backTo cpos (starEach (e::es) X.env)).all (fun x=>!x.1)&&(backToKw cpos (keywordEach [] X.env)).all (fun x=>x.1.isSome)
     &&decide ((e::es).length+([]:List Keyword).length+(if ([]:List Keyword).isEmpty then 0 else 1)<30))=true:=by rfl)
    (hline:(apos.endLine==cpos.line)=true:=by rfl) (hs:starEach (e::es) X.env=(false,eval e X.env)::starEach es X.env:=by rfl) (hplain:(backTo cpos (starEach es X.env)).any (·.1)=false:=by rfl) :
    PE X (.Call (.Attribute o name apos) (e::es) [] cpos) (tBM X.K T r to t):=by
  intro pins s U H Q I h
  refine wpAny_Call_method_late hbase hfew hline rfl (thn (ho pins s U H _ I h) fun v s1 ⟨x,H1,I1,r1,ty,q1⟩=>?_)
  obtain⟨h1,h2⟩:=zwA I1 r1 ty
  refine⟨T,id,pa,slot,hty,h1,h2,?_⟩
  have hA:=ha cpos pins s1 U H1 _ I1 q1
  rw [hs] at hA ⊢
  refine Calls.callWith_builtin (by show (false||(backTo cpos (starEach es X.env)).any (·.1))=false;rw [hplain]<;>rfl) (Calls.evalArgs_plain ?_)
  exact thn hA fun us s2 ⟨vs,H2,I2,r2,q2⟩=>hm pins s2 U H2 x vs v us Q I2 r1 r2 q2
/- xs.append(e),list.index on a module's tuple .. are MtR facts of 06m -/
end
def MtM (X:Cx)(id:String)(r:V->List V->Hp->VK->Prop):Prop :=
 ∀ (pins:List (Addr×Obj)) (s:Shared) (U:St) (H:Hp) (x:V) (xs:List V) (v:Value) (us:List Value) (Q:VK),Inv X pins U H s->RelV x v->Vals xs us->r x xs H Q ->
  wpAny (model X.prog X.w) X.A (call (.builtin id) (v::us)) (EP X pins U Q) X.xe s
theorem Vals.one:∀ {x:V} {us:List Value},Vals [x] us->∃ u,us=[u]/\RelV x u
 | _,_,.cons r .nil=>⟨_,rfl,r⟩
theorem Vals.eraseIdx:∀ {xs:List V} {us:List Value} (i:Nat),Vals xs us->Vals (xs.eraseIdx i) (us.eraseIdx i)
 | _,_,_,.nil=>.nil
 | _,_,0,.cons _ t=>t
 | _,_,i+1,.cons r t=>.cons r (Vals.eraseIdx i t)
theorem zlk {α:Type}:∀ (l:List α) (i:Nat),(l.eraseIdx i).length<=l.length
 | [],_=>qf _
 | _::_,0=>Nat.le_succ _
 | _::r,i+1=>Nat.succ_le_succ (zlk r i)
section
variable {X:Cx}{pins:List (Addr×Obj)}{U:St}{H:Hp}{s:Shared}{l b:Addr}{xs ys zs:List V}
theorem Inv.lset {its its':List Value}{n:Nat}{f:Array Value->Array Value}{t':Nat}(I:Inv X pins U H s)(hH:H l=some (.lst xs))
  (e:s.heap.get? l=some { cls:=.type "list",data:=.seq its.toArray n }) (hf:f its.toArray=its'.toArray) (hv:Vals ys its') (hz:ys.length<=sizeLine) :
  Inv X pins U (upd H l (.lst ys)) { s with heap:=s.heap.update l (Obj.mapSeq f),toks:=t' }:=by
 have q:=PySem.IsL.update e f
 rw [hf] at q
 refine I.write (x:=l) (e:=l) (by rw [hH];exact trivial) (.inl rfl) (fun b' u hb hu=>(Heap.get?_update_other s.heap (Obj.mapSeq f) (Ne.symm hb)).trans hu) ⟨_,q⟩ ?_
 exact⟨hz,its',_,hv,q⟩
theorem Inv.lnew {its:List Value}{t':Nat}(I:Inv X pins U H s)(hv:Vals ys its)(hz:ys.length<=sizeLine) :
  Inv X pins U (upd H s.heap.objs.size (.lst ys)) { s with heap:=s.heap.push { cls:=.type "list",data:=.seq its.toArray },toks:=t' } :=
 I.laid (fun _ _ q=>qd _ q) (qf _) ⟨hz,its,0,hv,qp _ rfl⟩
theorem Inv.fresh (I:Inv X pins U H s):H s.heap.objs.size=none:=I.hok.fresh (qf _)
theorem Inv.lstM (I:Inv X pins U H s)(hH:H l=some (.lst xs)):xs.length<=sizeLine/\∃ (its:List Value) (n:Nat),Vals xs its/\xs.length=its.length/\s.heap.get? l=some { cls:=.type "list",data:=.seq its.toArray n }:=by
 obtain⟨z,its,n,r,e⟩:=I.hok l _ hH
 exact⟨z,its,n,r,r.length,e⟩
theorem zmV {n:Nat}(h:n<=sizeLine):Builtin.List.listTooLong n=false:=by
 unfold Builtin.List.listTooLong
 exact decide_eq_false (by lia)
end
section
variable {X:Cx}
def zn4:V->List V->Hp->VK->Prop:=fun x vs H Q=>∃ l xs y,x=.ref l/\vs=[y]/\H l=some (.lst xs)/\xs.length<sizeLine/\Q .non (upd H l (.lst (xs++[y])))
theorem zll:MtM X "list.append" zn4:=by
 intro pins s U H x vs v us Q I rx rv h
 obtain⟨l,xs,y,rfl,rfl,hH,hz,q⟩:=h
 cases rx
 obtain⟨u,rfl,ru⟩:=rv.one
 obtain⟨z,its,n,r,hl,e⟩:=I.lstM hH
 refine call_meets F.slot_list_append ⟨_,e,rfl⟩ F.entry_list_append (F.args_list_append_2 _ _) (PySem.list_append l its.toArray n u (by rw [qm];lia)) ⟨e,?_⟩
 refine⟨.non,_,I.lset (its':=its++[u]) hH e (by simp) (r.append (.cons ru .nil)) ?_,rfl,q⟩
 rw [qg,List.length_singleton]
 lia
def znK:V->List V->Hp->VK->Prop:=fun x vs H Q=>∃ l b xs zs,x=.ref l/\vs=[.ref b]/\H l=some (.lst xs)/\H b=some (.lst zs)/\xs.length+zs.length<=sizeLine/\Q .non (upd H l (.lst (xs++zs)))
theorem zqn:MtM X "list.extend" znK:=by
 intro pins s U H x vs v us Q I rx rv h
 obtain⟨l,b,xs,zs,rfl,rfl,hH,hB,hz,q⟩:=h
 cases rx
 obtain⟨u,rfl,ru⟩:=rv.one
 cases ru
 obtain⟨z,its,n,r,hl,e⟩:=I.lstM hH
 obtain⟨z2,its2,n2,r2,hl2,e2⟩:=I.lstM hB
 have hsz:its.toArray.size+its2.toArray.size<=sizeLine:=by rw [qm,qm];lia
 have hlong:¬ (!its.toArray.isEmpty&&Builtin.List.listTooLong (its.toArray.size+its2.toArray.size))=true:=by
  rw [zmV hsz,Bool.and_false]
  exact qq
 refine call_meets F.slot_list_extend ⟨_,e,rfl⟩ F.entry_list_extend (F.args_list_extend_2 _ _)
  (AutoSeq1.list_extend_list_list_0 l its.toArray n b its2.toArray n2 hlong (by rw [qm];lia) (by lia)) ⟨e,e2,?_⟩
 refine⟨.non,_,I.lset (its':=its++its2) hH e (by simp) (r.append r2) ?_,rfl,q⟩
 rw [qg]
 lia
def zxi:V->List V->Hp->VK->Prop:=fun x vs H Q=>∃ l xs i k y,x=.ref l/\vs=[.int i]/\H l=some (.lst xs)/\-(2 ^ 63)<=i/\i<2 ^ 63/\seqIndex? i xs.length=some k/\xs[k]?=some y/\Q y (upd H l (.lst (xs.eraseIdx k)))
theorem zsE:MtM X "list.pop" zxi:=by
 intro pins s U H x vs v us Q I rx rv h
 obtain⟨l,xs,i,k,y,rfl,rfl,hH,h1,h2,hk,hy,q⟩:=h
 cases rx
 obtain⟨u,rfl,ru⟩:=rv.one
 obtain⟨t,rfl⟩:=ru
 obtain⟨z,its,n,r,hl,e⟩:=I.lstM hH
 obtain⟨w,hw,rw'⟩:=r.get hy
 refine call_meets F.slot_list_pop ⟨_,e,rfl⟩ F.entry_list_pop (F.args_list_pop_2 _ _)
  (MeetsSeq.list_pop_at l its.toArray n i t k w (fitsIndex_both h1 h2) (by rw [qm,<- hl];exact hk) (by rw [<- Array.getElem?_toList];exact hw) (by rw [qm];lia)) ⟨e,?_⟩
 refine⟨y,_,I.lset (its':=its.eraseIdx k) hH e ?_ (r.eraseIdx k) ?_,rw',q⟩
 ·show its.toArray.eraseIdxIfInBounds k=(its.eraseIdx k).toArray
  rw [List.eraseIdxIfInBounds_toArray]
 ·have:=zlk xs k
  lia
end
section
variable {prog:Program}{w:World}{A:Around}{E:Value->Shared->Prop}{s:Shared}
end
section
variable {X:Cx}
end
end L2
namespace Att
open PySem PySem.W PySem.Calls PyProof.Rows
theorem zkb {P:Params}{h:Heap}:∀ (ns:List Int) (vs:List Value),WellAll P h vs (ns.map WData.int)->IntsAre vs ns:=by
 intro ns
 induction ns with
 | nil =>
  intro vs w
  rw [List.map_nil] at w
  cases w
  exact .nil
 | cons n ns ih =>
  intro vs w
  rw [qJ] at w
  cases w with
  | cons a b =>
   cases a
   exact .cons _ _ (ih _ b)
theorem zpM {l:OpenLaw}{n:Nat}(hn:l.most=some n){P:Params}{h:Heap}{args:List WData}{vals:List Value}
  (hpre:l.row.toRowW.claim.pre args=true) (hwl:WellAll P h vals args) :
  ∃ a vs ns,vals=[Value.ref a]/\args=[WData.list (ns.map WData.int)]/\h.get? a=some { cls:=.type "list",data:=.seq vs.toArray }/\IntsAre vs ns/\ns.length<=n:=by
 have hsh:WShape.hasAll [] args [.list .int]=true:=(pre_splitW hpre).1
 have hc:l.pre.holds [] { args:=args }=true:=(pre_splitW hpre).2
 obtain⟨d,r,rfl,h1,h2⟩:=hasAllW_cons hsh
 obtain rfl:=hasAllW_nil h2
 obtain⟨xs,rfl,h3⟩:=hasW_list h1
 obtain⟨ns,rfl⟩:=items_int h3
 have hlen:ns.length<=n:=by
  unfold OpenLaw.pre at hc
  have h4:(WTm.not (.lt (.lit (.int (n:Int))) (.len (.arg 0)))).holds [] { args:=[.list (ns.map .int)] }=true:=by
   have h4:=(holds_andW hc).1
   rw [hn] at h4
   exact h4
  have h5:=condW_of h4 (w_not (w_lt w_lit (w_len_list (w_arg rfl))))
  rw [qb] at h5
  refine Nat.le_of_not_lt fun q=>?_
  have q':(n:Int)<((ns.length:Nat):Int):=by lia
  first
   | (rw [decide_eq_true q'] at h5;exact absurd h5 (by decide))
   | (simp at h5;lia)
 cases hwl with
 | cons w1 w2 =>
  cases w2
  cases w1 with
  | list ho hall=>exact⟨_,_,ns,rfl,rfl,ho,zkb ns _ hall,hlen⟩
theorem zqN (l:OpenLaw)(args:List WData):l.row.toRowW.claim.post args (.bool true) args=true :=
 postW_of (r:=l.row.toRowW) (X:=(true==true))
  (show WShape.has [] (.bool true) .bool=true by first | rfl | decide | simp [WShape.has,WShape.arms,WShape.armsAll])
  (show (WTm.eq .res (.lit (.bool true))).value [] { args:=args,res:=some (.bool true),after:=args }=some (.bool (true==true)) from w_eq_bool (w_res rfl) w_lit) rfl
section
variable {prog:Program}{w:World}{A:Around}{E:Value->Shared->Prop}{s:Shared}{K:Frag}
end
end Att
namespace L2
open PySem PySem.Spec PyProof.Rows
theorem zlg:∀ {vs:List Value} {ns:List Int},IntsAre vs ns->Vals (ns.map V.int) vs
 | _,_,.nil=>.nil
 | _,_,.cons n t h=>.cons ⟨t,rfl⟩ (zlg h)
def Only (H:Hp):Prop:=∀ b,H b=none\/∃ o xs,H b=some (.frz o (.lst xs))
theorem zrv {P:Program}{w:World}{K:PySem.W.Frag}{mg mb:Str->Option Value}{CX:CXT}{k:Nat}{fa a:Addr}{fd:FuncData}{x:Str}{sp:Sp}{s₁:Shared}{vs:List Value}{ns:List Int}
  (KX:K.In s₁.heap) (hns:s₁.heap.Ns mainGlobals mg) (hb:s₁.heap.Ns builtinsNs mb) (hbb:∀ x:Str,x≠"__name__"->mb x=bootBuiltins x) (hlim:s₁.heap.NoLimit) (hg:s₁.gens=#[])
  (ha:s₁.heap.get? a=some { cls:=.type "list",data:=.seq vs.toArray }) (hi:IntsAre vs ns) (hl:ns.length<=sizeLine) (hr:zaM k callerA)
  (F:∀ base:Heap,K.In base->base.Ns mainGlobals mg->zW P w K mg base CX k fa fd [x] sp) (hbind:∀ (s:Shared) (u:Value),BindsTo s fd ⟨[u],[]⟩ [(x,u)])
  (hsp:∀ H:Hp,Only H->SqL K H a (ns.map V.int)->sp [.ref a] H (fun v _=>v=.bl true) fun _ _ _=>False)
  (hCX:∀ H e s',CX [] H s₁ (fun _ _ _=>False) e s'->False) :
  codeAny (model P w) callerA (.call (.ref fa) ⟨[.ref a],[]⟩) (fun r s'=>r=.ok (.ret (.bool true))/\OldK s₁.heap s'.heap/\s'.os=s₁.os/\AllBare s'.gens) s₁:=by
 have rv:=zlg hi
 have lenV:=hi.length
 have core:∀ H:Hp,Only H->SqL K H a (ns.map V.int)->HOk P w H s₁.heap->(∀ b,H b≠none->b=a)->(H a≠none->K.lookup a=none) ->
   codeAny (model P w) callerA (.call (.ref fa) ⟨[.ref a],[]⟩) (fun r s'=>r=.ok (.ret (.bool true))/\OldK s₁.heap s'.heap/\s'.os=s₁.os/\AllBare s'.gens) s₁:=by
  intro H hO hS hok hA hK
  have base_of:∀ {b:Addr} {o:Obj},s₁.heap.get? b=some o->H b=none->(zgD s₁.heap H).get? b=some o:=fun e n=>zsp e n
  have noA:∀ {b:Addr} {o:Obj} {es:Array DictEntry} {ep:Nat},s₁.heap.get? b=some o->o.data=.dict es ep->H b=none:=fun {b o es ep} e d=>by
   cases q:H b with
   | none=>rfl
   | some u =>
    have e':b=a:=hA b (by rw [q];simp)
    subst e'
    rw [ha] at e;cases e
    have d':Data.seq vs.toArray _=Data.dict es ep:=d
    cases d'
  have nsK:∀ {b:Addr} {m:Str->Option Value},s₁.heap.Ns b m->(zgD s₁.heap H).Ns b m:=fun {b m} ⟨o,es,ep,e,d,r⟩=>⟨o,es,ep,base_of e (noA e d),d,r⟩
  have hKb:K.In (zgD s₁.heap H):=fun b o e=>base_of (KX b o e) (by
   cases q:H b with
   | none=>rfl
   | some u =>
    have e':b=a:=hA b (by rw [q];simp)
    subst e'
    rw [hK (by rw [q];simp)] at e;cases e)
  have hM:Mod K mg (zgD s₁.heap H):=⟨hKb,nsK hns,⟨mb,nsK hb,hbb⟩,let ⟨mc,h1,h2⟩:=hlim;⟨mc,nsK h1,h2⟩⟩
  have e0:zi5 P w K mg (zgD s₁.heap H) callerA [] s₁ H:=⟨rfl,hM,fun b o e=>ztW e,Nat.le_of_eq (zqP _ _),trivial,fun b hb=>absurd (show b∈([]:List Addr) from hb) (by simp),hok,.of_eq hg⟩
  refine codeAny_mono ((F _ hKb (nsK hns)).run callerA [] s₁ H ⟨[.ref a],[]⟩ [.ref a] [.ref a] _ _ hr e0 (hbind s₁ (.ref a)) (.cons rfl .nil) (hsp H hO hS)) fun r s' h=>?_
  cases r with
  | error e=>exact (hCX H e s' h).elim
  | ok fl =>
   cases fl with
   | next=>exact False.elim h
   | brk=>exact False.elim h
   | cont=>exact False.elim h
   | ret u =>
    obtain⟨v,H',os,bare,un,hok',r',q⟩:=h
    have q':v=.bl true:=q
    subst q'
    obtain rfl:u=Value.bool true:=r'
    refine⟨rfl,OldK.of_keep fun b o e=>?_,os,bare⟩
    cases q:H b with
    | none=>exact un.keep b o e q (by intro z;exact absurd (show b∈([]:List Addr) from z) (by simp)) (by simp)
    | some u =>
     rcases hO b with z | ⟨ob,xs,z⟩
     ·rw [q] at z;cases z
     ·have z2:=un.frzs b ob _ z
      obtain⟨e1,_⟩:=hok b _ z
      obtain⟨e2,_⟩:=hok' b _ z2
      rw [e] at e1;cases e1
      exact e2
 cases hk:K.lookup a with
 | some o =>
  have e:=KX a o hk
  rw [ha] at e
  cases e
  refine core (fun _=>none) (fun _=>.inl rfl) (.inr ⟨_,vs.toArray,_,hk,rfl,rfl,rfl,by rw [qm,lenV];exact hl,by simpa using rv⟩) (fun b u z=>by have z':(none:Option HO)=some u:=z;cases z') (fun b z=>absurd rfl z) fun z=>absurd rfl z
 | none =>
  refine core (fun b=>if b=a then some (.frz { cls:=.type "list",data:=.seq vs.toArray } (.lst (ns.map V.int))) else none) (fun b=>?_) (.inl (.inr ⟨{ cls:=.type "list",data:=.seq vs.toArray },if_pos rfl⟩)) (fun b u z=>?_) (fun b z=>?_) fun _=>hk
  ·by_cases hb:b=a
   ·exact .inr ⟨_,_,if_pos hb⟩
   ·exact .inl (if_neg hb)
  ·by_cases hb:b=a
   ·have z':=(if_pos hb).symm.trans z
    cases z'
    subst hb
    exact⟨ha,by rw [qb];exact hl,vs,_,rv,ha⟩
   ·have z':=(if_neg hb).symm.trans z
    cases z'
  ·by_cases hb:b=a
   ·exact hb
   ·exact absurd (if_neg hb) z
def inClass (s:Stmt)(j:Nat):Stmt:=match s with
 | .ClassDef _ _ _ body _ _ _ _ _ _ _=>body.getD j (.Pass ⟨0,0,0,0⟩)
 | _=>.Pass ⟨0,0,0,0⟩
def zbM (s:Stmt):Arguments:=match s with
 | .FunctionDef _ a _ _ _ _ _ _ _ _=>a
 | _=>{ posonlyargs:=[],args:=[],vararg:=none,kwonlyargs:=[],kw_defaults:=[],kwarg:=none,defaults:=[] }
def za9 (s:Stmt):List Stmt:=match s with
 | .FunctionDef _ _ b _ _ _ _ _ _ _=>b
 | _=>[]
def zH (s:Stmt):Scope:=match s with
 | .FunctionDef _ _ _ _ _ _ sc _ _ _=>sc
 | _=>{ kind:=.function,names:=[],isGenerator:=false,isCoroutine:=false }
abbrev CX0:CXT:=fun _ _ _ _ _ _=>False
abbrev E0:XK:=fun _ _ _=>False
theorem ztd {X:Cx}:Passes CX0 X E0:=fun _ _ _ _ _ _ _ h=>h.elim
structure Fun (K:PySem.W.Frag)(x qual:Str)(st:Stmt)(f:Addr)(fd:FuncData):Prop where
 ex:∃ (oc:Value) (od:Option Addr) (kV doc pm:Value) (an:Option Addr) (cdv ct:Value) (osl:Array (Option Value)),
  fd=PySem.W.fnOf x qual (zbM st) (za9 st) (zH st) .none kV doc pm an cdv ct/\K.lookup f=some ⟨oc,od,.func fd,osl⟩/\PySem.W.codeIn K cdv qual=true
 kp:PySem.W.keepIn K (.ref f)=true
section
variable {P:Program}{w:World}{K:PySem.W.Frag}{mg:Str->Option Value}{base:Heap}
theorem Fun.ok {x qual:Str}{st:Stmt}{f:Addr}{fd:FuncData}{N ps:List Str}{k:Nat}{sp:Sp}(F:Fun K x qual st f fd)(S:zN N ps (zH st))(len:∀ vs H Q E,sp vs H Q E->vs.length=ps.length)
  (hbody:∀ (cdv:Value) (A:Around) (outer:List Env) (s:Shared) (H:Hp) (vs:List V) (Q:VK) (E:XK),zaM k (A.deeper (envOfC qual (zH st) s.heap.objs.size f cdv))->sp vs H Q E ->
   ∃ t,PSs (zfS CX0 P w K mg base N qual (zH st) f cdv A outer s H E).nox (za9 st) t/\t { nx:=fun _ H'=>Q .non H',rt:=Q } (start N vs) H):zW P w K mg base CX0 (k+1) f fd ps sp:=by
 obtain⟨oc,od,kV,doc,pm,an,cdv,ct,osl,rfl,lk,hcd⟩:=F.ex
 refine ztk lk hcd S len fun A outer s H vs Q E hr hsp=>?_
 obtain⟨t,h,q⟩:=hbody cdv A outer s H vs Q E hr hsp
 exact⟨t,h.nox,q⟩
theorem Fun.binds {x qual:Str}{st:Stmt}{f:Addr}{fd:FuncData}{ps:List Str}(F:Fun K x qual st f fd)
  (h:∀ (kV doc pm:Value) (an:Option Addr) (cdv ct:Value) (us:List Value),us.length=ps.length->bindArgs (PySem.W.fnOf x qual (zbM st) (za9 st) (zH st) .none kV doc pm an cdv ct) ⟨us,[]⟩=pure (ps.zip us)):Binds K fd ps []:=by
 obtain⟨oc,od,kV,doc,pm,an,cdv,ct,osl,rfl,lk,hcd⟩:=F.ex
 exact .all (h kV doc pm an cdv ct)
theorem zkj {x qual:Str}{st:Stmt}{f:Addr}{oc:Value}{od an:Option Addr}{osl:Array (Option Value)}{kV doc pm cdv ct:Value}(l:K.lookup f=some ⟨oc,od,.func (PySem.W.fnOf x qual (zbM st) (za9 st) (zH st) .none kV doc pm an cdv ct),osl⟩)
  (c:PySem.W.codeIn K cdv qual=true) (k:PySem.W.keepIn K (.ref f)=true):Fun K x qual st f (PySem.W.fnOf x qual (zbM st) (za9 st) (zH st) .none kV doc pm an cdv ct):=⟨⟨oc,od,kV,doc,pm,an,cdv,ct,osl,rfl,l,c⟩,k⟩
end
theorem zsV {A:Around}{k:Nat}(hr:zaM k A):A.units+1<cLine:=Nat.lt_of_le_of_lt (Nat.add_le_add_left (by decide:1<=64) _) hr.units
section
variable {X:Cx}
end
section
variable {κ:Type}[DecidableEq κ]
def zcQ (kvs:List (κ×V))(k:κ):Option V:=(kvs.find? fun kv=>decide (kv.1=k)).map (·.2)
def putK (kvs:List (κ×V))(k:κ)(v:V):List (κ×V) :=
 if (kvs.any fun kv=>decide (kv.1=k))=true then kvs.map (fun kv=>if kv.1=k then (kv.1,v) else kv) else kvs++[(k,v)]
theorem zmD {k:κ}:zcQ ([]:List (κ×V)) k=none:=rfl
theorem zfq {p:κ×V}{r:List (κ×V)}{k:κ}(e:p.1=k):zcQ (p::r) k=some p.2:=by simp [zcQ,List.find?_cons,e]
theorem zft {p:κ×V}{r:List (κ×V)}{k:κ}(e:¬ p.1=k):zcQ (p::r) k=zcQ r k:=by simp [zcQ,List.find?_cons,e]
theorem zgJ (k:κ):∀ kvs:List (κ×V),(kvs.any fun kv=>decide (kv.1=k))=(zcQ kvs k).isSome
 | []=>rfl
 | p::r=>by
  rw [List.any_cons]
  by_cases e:p.1=k
  ·simp only [zfq e,decide_eq_true e,Bool.true_or,Option.isSome_some]
  ·rw [zft e,decide_eq_false e,Bool.false_or];exact zgJ k r
theorem ziM (kvs:List (κ×V))(k:κ)(v:V):(putK kvs k v).length<=kvs.length+1:=by
 unfold putK
 split
 ·rw [qb];lia
 ·rw [qg,qP,List.length_nil];lia
theorem zei.isSome_eq {o:Option V}{u:Option Value}(r:zei o u):o.isSome=u.isSome:=by
 cases o with
 | none=>cases u with
  | none=>rfl
  | some _=>exact (show False from r).elim
 | some _=>cases u with
  | none=>exact (show False from r).elim
  | some _=>rfl
theorem KV.val {kvs:List (κ×V)}{vs:List (κ×Value)}(r:KV kvs vs)(k:κ):zei (zcQ kvs k) (valueAt vs k):=by
 unfold KV at r
 induction r with
 | nil=>exact True.intro
 | @cons p q ps qs h t ih =>
  obtain⟨h1,h2⟩:=h
  by_cases e:p.1=k
  ·have e':q.1=k:=h1.symm.trans e
   have b:valueAt (q::qs) k=some q.2:=by simp [valueAt,List.find?_cons,e']
   rw [zfq e,b];exact h2
  ·have e':¬ q.1=k:=fun z=>e (h1.trans z)
   have b:valueAt (q::qs) k=valueAt qs k:=by simp [valueAt,List.find?_cons,e']
   rw [zft e,b];exact ih
theorem KV.any {kvs:List (κ×V)}{vs:List (κ×Value)}(r:KV kvs vs)(k:κ):(kvs.any fun kv=>decide (kv.1=k))=vs.any fun kv=>decide (kv.1=k):=by
 unfold KV at r
 induction r with
 | nil=>rfl
 | cons h t ih=>rw [List.any_cons,List.any_cons,ih,h.1]
theorem KV.repl {kvs:List (κ×V)}{vs:List (κ×Value)}(r:KV kvs vs)(k:κ){y:V}{u:Value}(ry:RelV y u) :
  KV (kvs.map fun kv=>if kv.1=k then (kv.1,y) else kv) (vs.map fun kv=>if kv.1=k then (kv.1,u) else kv):=by
 unfold KV at r ⊢
 induction r with
 | nil=>exact .nil
 | @cons p q ps qs h t ih =>
  rw [qJ,qJ]
  refine .cons ?_ ih
  obtain⟨h1,h2⟩:=h
  by_cases e:p.1=k
  ·rw [if_pos e,if_pos (h1.symm.trans e)];exact⟨h1,ry⟩
  ·rw [if_neg e,if_neg (fun z=>e (h1.trans z))];exact⟨h1,h2⟩
theorem KV.put {kvs:List (κ×V)}{vs:List (κ×Value)}(r:KV kvs vs)(k:κ){y:V}{u:Value}(ry:RelV y u):KV (putK kvs k y) (stored vs k u):=by
 unfold putK stored
 rw [r.any k]
 by_cases e:(vs.any fun kv=>decide (kv.1=k))=true
 ·rw [if_pos e,if_pos e];exact r.repl k ry
 ·rw [if_neg e,if_neg e];exact Paired.snoc r ⟨rfl,ry⟩
theorem KV.length {kvs:List (κ×V)}{vs:List (κ×Value)}(r:KV kvs vs):kvs.length=vs.length:=Paired.length r
end
theorem zoM {P:Program}{w:World}{k:Key}{u:Value}(r:RelV (kV k) u):(zbB P w).is k u=true:=by
 cases k with
 | inl i=>obtain⟨t,e⟩:=(show ∃ t,u=Value.int i t from r);subst e;exact znj P w i t
 | inr x=>obtain⟨t,e⟩:=(show ∃ t,u=Value.str x t from r);subst e;exact znu P w x t
theorem zli {P:Program}{w:World}:∀ {ks:List Key} {us:List Value},Vals (ks.map kV) us->ItemsAre (zbB P w) ks us
 | [],_,r=>by rw [List.map_nil] at r;cases r;exact .nil
 | k::ks,_,r=>by
  rw [qJ] at r
  cases r with
  | cons h t=>exact .cons (zoM h) (zli t)
abbrev KT (H:Hp):List (List Key×V)->List (List Key×Addr×Value)->Prop:=Paired fun p q=>p.1=q.1/\H q.2.1=some (.tup (p.1.map kV))/\RelV p.2 q.2.2
theorem KT.val {H:Hp}{kvs:List (List Key×V)}{xs:List (List Key×Addr×Value)}(r:KT H kvs xs)(k:List Key):zei (zcQ kvs k) ((atKey xs k).map (·.2)):=by
 induction r with
 | nil=>exact True.intro
 | @cons p q ps qs h t ih =>
  obtain⟨h1,_,h2⟩:=h
  by_cases e:p.1=k
  ·have e':q.1=k:=h1.symm.trans e
   have b:atKey (q::qs) k=some q.2:=by simp [atKey,List.find?_cons,e']
   rw [zfq e,b];exact h2
  ·have e':¬ q.1=k:=fun z=>e (h1.trans z)
   have b:atKey (q::qs) k=atKey qs k:=by simp [atKey,List.find?_cons,e']
   rw [zft e,b];exact ih
theorem KT.repl {H:Hp}{kvs:List (List Key×V)}{xs:List (List Key×Addr×Value)}(r:KT H kvs xs)(k:List Key){y:V}{u:Value}(ry:RelV y u) :
  KT H (kvs.map fun kv=>if kv.1=k then (kv.1,y) else kv) (xs.map (putAt k u)):=by
 induction r with
 | nil=>exact .nil
 | @cons p q ps qs h t ih =>
  rw [qJ,qJ]
  refine .cons ?_ ih
  obtain⟨h1,h2,h3⟩:=h
  unfold putAt
  by_cases e:p.1=k
  ·rw [if_pos e,if_pos (h1.symm.trans e)];exact⟨h1,h2,ry⟩
  ·rw [if_neg e,if_neg (fun z=>e (h1.trans z))];exact⟨h1,h2,h3⟩
theorem KT.put {H:Hp}{kvs:List (List Key×V)}{xs:List (List Key×Addr×Value)}(r:KT H kvs xs)(k:List Key){b:Addr}{y:V}{u:Value}(hb:H b=some (.tup (k.map kV)))(ry:RelV y u) :
  KT H (putK kvs k y) (storedH xs k b u):=by
 have e:(kvs.any fun kv=>decide (kv.1=k))=(atKey xs k).isSome:=by
  rw [zgJ,(r.val k).isSome_eq,Option.isSome_map]
 unfold putK storedH
 rw [e]
 by_cases q:(atKey xs k).isSome=true
 ·rw [if_pos q,if_pos q];exact r.repl k ry
 ·rw [if_neg q,if_neg q];exact Paired.snoc r ⟨rfl,hb,ry⟩
theorem KT.keeps {H H':Hp}{kvs:List (List Key×V)}{xs:List (List Key×Addr×Value)}(r:KT H kvs xs)(ht:∀ b ys,H b=some (.tup ys)->H' b=some (.tup ys)):KT H' kvs xs :=
 Paired.mapP r fun _ _ z=>⟨z.1,ht _ _ z.2.1,z.2.2⟩
section
variable {P:Program}{w:World}{H:Hp}{h:Heap}{a:Addr}
theorem ztn {u:HO}(ok:HOk P w H h)(e:Rd H a u):zaD P w H h a u:=e.ok ok
theorem zoy {kvs:List (Key×V)}(ok:HOk P w H h)(e:Rd H a (.dK kvs)):kvs.length<=sizeLine/\(a==sysModules)=false/\∃ vs,KV kvs vs/\h.DictOf (zbB P w) a vs :=
 show zaD P w H h a (.dK kvs) from ztn ok e
theorem zxt {kvs:List (Key×V)}(ok:HOk P w H h)(e:H a=some (.dK kvs)):kvs.length<=sizeLine/\(a==sysModules)=false/\∃ vs,KV kvs vs/\h.DictOf (zbB P w) a vs:=zoy ok (.inl e)
theorem zmd {ks:List Key}(ok:HOk P w H h)(e:H a=some (.tup (ks.map kV))):(tupleKind (zbB P w)).is h ks a:=by
 obtain⟨_,its,r,o,h1,h2,n,h3⟩:=(show zaD P w H h a (.tup (ks.map kV)) from ok a _ e)
 exact⟨o,its.toArray,n,h1,h2,h3,by simpa using zli r⟩
theorem zoE {kvs:List (List Key×V)}(ok:HOk P w H h)(e:Rd H a (.dT kvs)):kvs.length<=sizeLine/\(a==sysModules)=false /\
  ∃ xs,KT H kvs xs/\h.DictOfH (tupleKind (zbB P w)) a xs:=by
 obtain⟨z,y,xs,r,o,es,ep,h1,h2,h3,h4,h5⟩:=(show zaD P w H h a (.dT kvs) from ztn ok e)
 refine⟨z,y,xs,r,o,es,ep,h1,h2,h3,h4,fun x hx=>?_,h5⟩
 have all:∀ {l:List (List Key×V)} {m:List (List Key×Addr×Value)},KT H l m->∀ x∈m,(tupleKind (zbB P w)).is h x.1 x.2.1:=by
  intro l m q
  induction q with
  | nil=>intro x hx;exact nomatch hx
  | @cons p q ps qs hq t ih =>
   intro x hx
   rcases qh.mp hx with e | hx
   ·subst e
    exact zmd ok (by rw [<- hq.1];exact hq.2.1)
   ·exact ih x hx
 exact all r x hx
theorem zxO {kvs:List (List Key×V)}(ok:HOk P w H h)(e:H a=some (.dT kvs)):kvs.length<=sizeLine/\(a==sysModules)=false /\
  ∃ xs,KT H kvs xs/\h.DictOfH (tupleKind (zbB P w)) a xs:=zoE ok (.inl e)
end
def zfX (H:Hp)(a:Addr)(y:V)(r:Option V):Prop :=
 (∃ kvs k,Rd H a (.dK kvs)/\y=kV k/\r=zcQ kvs k)\/∃ kvs k b,Rd H a (.dT kvs)/\y=.ref b/\H b=some (.tup (k.map kV))/\r=zcQ kvs k
def zh0 (H:Hp)(a:Addr)(y v:V)(H':Hp):Prop :=
 (∃ kvs k,H a=some (.dK kvs)/\y=kV k/\kvs.length<sizeLine/\H'=upd H a (.dK (putK kvs k v))) \/
 ∃ kvs k b,H a=some (.dT kvs)/\y=.ref b/\H b=some (.tup (k.map kV))/\kvs.length<sizeLine/\H'=upd H a (.dT (putK kvs k v))
theorem zfX.k {H:Hp}{a:Addr}{kvs:List (Key×V)}{k:Key}(e:H a=some (.dK kvs)):zfX H a (kV k) (zcQ kvs k):=.inl ⟨kvs,k,.inl e,rfl,rfl⟩
theorem zfX.t {H:Hp}{a b:Addr}{kvs:List (List Key×V)}{k:List Key}(e:H a=some (.dT kvs))(eb:H b=some (.tup (k.map kV))):zfX H a (.ref b) (zcQ kvs k):=.inr ⟨kvs,k,b,.inl e,rfl,eb,rfl⟩
theorem zh0.k {H:Hp}{a:Addr}{kvs:List (Key×V)}{k:Key}{v:V}(e:H a=some (.dK kvs))(hl:kvs.length<sizeLine):zh0 H a (kV k) v (upd H a (.dK (putK kvs k v))):=.inl ⟨kvs,k,e,rfl,hl,rfl⟩
theorem zh0.t {H:Hp}{a b:Addr}{kvs:List (List Key×V)}{k:List Key}{v:V}(e:H a=some (.dT kvs))(eb:H b=some (.tup (k.map kV)))(hl:kvs.length<sizeLine) :
  zh0 H a (.ref b) v (upd H a (.dT (putK kvs k v))):=.inr ⟨kvs,k,b,e,rfl,eb,hl,rfl⟩
section
variable {X:Cx}{pins:List (Addr×Obj)}{U:St}{H:Hp}{s:Shared}{a:Addr}{y v:V}{u r:Value}{o:Option V}{A:Around}{E:Value->Shared->Prop}
theorem Inv.big (I:Inv X pins U H s):sysModules<s.heap.objs.size:=by
 have h:mainGlobals<s.heap.objs.size:=(I.mod.glob.keeps I.bk).lt
 exact Nat.lt_trans (by decide) h
theorem zpS {Q:Value->Shared->Prop}(hu:A.units+1<cLine)(I:Inv X pins U H s)(g:zfX H a y (some v))(ry:RelV y u)(h:∀ w' s',Inv X pins U H s'->RelV v w'->Q w' s') :
  wpAny (model X.prog X.w) A (getItem (.ref a) u) Q E s:=by
 rcases g with ⟨kvs,k,e,ey,l⟩ | ⟨kvs,k,b,e,ey,eb,l⟩
 ·subst ey
  obtain⟨z,hd,vs,rel,dd⟩:=zoy I.hok e
  obtain⟨w',hw,rw'⟩:=zei.some_of (v:=v) (o:=valueAt vs k) (by rw [l];exact rel.val k)
  exact wpAny_getItem_of (zoM ry) dd.mapOf hw (h w' _ (I.tok _) rw')
 ·subst ey
  cases (show u=Value.ref b from ry)
  obtain⟨z,hd,xs,rel,dd⟩:=zoE I.hok e
  obtain⟨w',hw,rw'⟩:=zei.some_of (v:=v) (o:=(atKey xs k).map (·.2)) (by rw [l];exact rel.val k)
  obtain⟨p,hp,hp2⟩:=Option.map_eq_some_iff.mp hw
  refine wpAny_getItem_heap (tupleKind_room_in1 hu) (zmd I.hok eb) dd hp ?_
  rw [hp2]
  exact h w' _ (I.tok _) rw'
theorem zn3 {h':Heap}{t':Nat}{ob:HO}(I:Inv X pins U H s)(mu:Mut (H a))(hs:Heap.SameBut a s.heap h')(he:∃ q,h'.get? a=some q)(new:zaD X.prog X.w (upd H a ob) h' a ob) :
  Inv X pins U (upd H a ob) { s with heap:=h',toks:=t' } :=
 I.write (x:=a) (e:=a) mu (.inl rfl) (fun b q hb z=>(hs.2 b hb).trans z) he new
theorem zwt {P:Program}{w:World}{H':Hp}{h':Heap}{kvs:List (Key×V)}{vs:List (Key×Value)}(z:kvs.length<=sizeLine)(hd:(a==sysModules)=false)(rel:KV kvs vs)(dd:h'.DictOf (zbB P w) a vs) :
  zaD P w H' h' a (.dK kvs):=⟨z,hd,vs,rel,dd⟩
theorem zqo {H':Hp}{Q:Unit->Shared->Prop}(hu:A.units+1<cLine)(I:Inv X pins U H s)(g:zh0 H a y v H')(ry:RelV y u)(rv:RelV v r)(h:∀ s',Inv X pins U H' s'->Q () s') :
  wpAny (model X.prog X.w) A (setItem (.ref a) u r) Q E s:=by
 rcases g with ⟨kvs,k,e,ey,l,eH⟩ | ⟨kvs,k,b,e,ey,eb,l,eH⟩
 ·subst ey eH
  obtain⟨z,hd,vs,rel,dd⟩:=zxt I.hok e
  have hz:vs.length<=sizeLine:=by rw [<- rel.length];exact z
  have hl:(putK kvs k v).length<=sizeLine:=by have:=ziM kvs k v;lia
  refine wpAny_setItem_pairs (hsz:=hz) (zoM ry) dd fun h' dd' hs=>h _ ?_
  have he:∃ q,h'.get? a=some q:=let ⟨q,_,_,hq,_⟩:=dd';⟨q,hq⟩
  exact zn3 I (by rw [e];exact True.intro) hs he (zwt hl hd (rel.put k rv) dd')
 ·subst ey eH
  cases (show u=Value.ref b from ry)
  obtain⟨z,hd,xs,rel,dd⟩:=zxO I.hok e
  have hz:xs.length<=sizeLine:=by rw [<- Paired.length rel];exact z
  have hl:(putK kvs k v).length<=sizeLine:=by have:=ziM kvs k v;lia
  refine wpAny_setItem_heap (hsz:=hz) (tupleKind_room_in1 hu) (zmd I.hok eb) dd fun h' dd' hs=>h _ ?_
  obtain⟨q,es,ep,hq,h2,h3,h4,_,h5⟩:=dd'
  refine zn3 I (by rw [e];exact True.intro) hs ⟨q,hq⟩ ⟨hl,hd,_,(rel.put k eb rv).keeps fun c ys ec=>?_,q,es,ep,hq,h2,h3,h4,h5⟩
  rw [zZ (zeU ec e (fun z=>nomatch z))]
  exact ec
end
section
variable {X:Cx}{pins:List (Addr×Obj)}{U:St}{H:Hp}{s:Shared}{a:Addr}{kvs:List (Key×V)}{k:Key}{u:Value}{A:Around}{E:Value->Shared->Prop}
end
def zsw (i:Expr):Prop:=∀ ov iv,subscripted i false ov iv=operate [ov,iv] (getItem ov iv)
theorem zuA {prog:Program}{w:World}{A:Around}{E:Value->Shared->Prop}{s:Shared}{env:Env}{value slice:Expr}{pos:Pos}{T id:String}{Q:Value->Shared->Prop}
  (hl:typeLookup (.type T) "__getitem__"=pure (some (.builtin id))) (hs:zsw slice)
  (h:wpAny (model prog w) A (eval value env) (fun o s₁=>wpAny (model prog w) A (eval slice env) (fun i s₂=>s₂.TypeIs o T/\wpAny (model prog w) A (getItem o i) Q E s₂) E s₁) E s) :
  wpAny (model prog w) A (eval (.Subscript value slice pos) env) Q E s:=by
 refine Subscript_ (wpAny_mono h (fun o s₁ h₁=>wpAny_mono h₁ (fun i s₂ h₂=>?_) fun _ _ x=>x) fun _ _ x=>x)
 obtain⟨hT,h₂⟩:=h₂
 unfold subscriptTail
 refine wpAny_bind ?_
 rw [getitemInPython_of_ne hT.not_modules]
 refine wpAny_bind (wpAny_specialOf hT hl ?_)
 have fin:wpAny (model prog w) A (subscripted slice false o i) (fun r s₃=>wpAny (model prog w) A (letTemporaryGo value o r >>= fun _=>pure r) Q E s₃) E s₂:=by
  rw [hs o i]
  exact wpAny_operating (wpAny_mono h₂ (fun r s₃ h₃=>wpAny_bind (wpAny_letTemporaryGo (wpAny_pure h₃))) fun _ _ x=>x)
 first
  | exact wpAny_pure (wpAny_bind fin)
  | exact wpAny_bind (wpAny_pure (wpAny_bind fin))
  | exact wpAny_bind fin
theorem znk {X:Cx}{pins:List (Addr×Obj)}{U:St}{H:Hp}{s:Shared}{a:Addr}{y:V}{o:Option V}(I:Inv X pins U H s)(g:zfX H a y o):s.TypeIs (.ref a) "dict":=by
 rcases g with ⟨kvs,k,e,_,_⟩ | ⟨kvs,k,b,e,_,_,_⟩
 ·obtain⟨_,_,vs,_,dd⟩:=zoy I.hok e
  exact dd.typeIs
 ·obtain⟨_,_,xs,_,dd⟩:=zoE I.hok e
  exact dd.typeIs
def zyo (td ty:TE):TE:=fun U H Q=>td U H fun x H1=>ty U H1 fun y H2=>∃ a v,x=.ref a/\zfX H2 a y (some v)/\Q v H2
def zyK (td ty tv:TE):TS:=fun D U H=>tv U H fun v H1=>td U H1 fun x H2=>ty U H2 fun y H3=>∃ a H4,x=.ref a/\zh0 H3 a y v H4/\D.nx U H4
section
variable {X:Cx}{o i e value:Expr}{pos pos' tpos:Pos}{td ty tv:TE}
theorem ztQ (hu:X.A.units+1<cLine)(ho:PE X o td)(hi:PE X i ty)(hs:zsw i):PE X (.Subscript o i pos) (zyo td ty):=by
 intro pins s U H Q I h
 refine zuA PySem.F.slot_dict_getitem.lookup hs (thn (ho pins s U H _ I h) fun u s1 ⟨x,H1,I1,rx,q1⟩=>thn (hi pins s1 U H1 _ I1 q1) fun iv s2 ⟨y,H2,I2,ry,a,v,ex,g,q2⟩=>?_)
 subst ex
 obtain rfl:u=Value.ref a:=rx
 exact⟨znk I2 g,zpS hu I2 g ry fun w' s3 I3 rw'=>⟨v,H2,I3,rw',q2⟩⟩
theorem zuq (hu:X.A.units+1<cLine)(ho:PE X o td)(hi:PE X i ty)(hv:PE X value tv)(hs:swapsWith value (some (.Subscript o i pos')) pos.line X.env=pure false) :
  PS X (.Assign [.Subscript o i pos'] value pos) (zyK td ty tv):=by
 intro pins s U H D I h
 refine wpAny_Assign_Subscript (thn (hv pins s U H _ I h) fun r s1 ⟨v,H1,I1,rv,q1⟩=>thn (ho pins s1 U H1 _ I1 q1) fun u s2 ⟨x,H2,I2,rx,q2⟩=>thn (hi pins s2 U H2 _ I2 q2) fun iv s3 ⟨y,H3,I3,ry,a,H4,ex,g,q3⟩=>?_) hs
 subst ex
 obtain rfl:u=Value.ref a:=rx
 exact zqo hu I3 g ry rv fun s4 I4=>⟨U,H4,I4,q3⟩
end
theorem zrL {P:Program}{w:World}{H:Hp}(h:Heap)(hb:sysModules<h.objs.size):zaD P w H (h.push { cls:=.type "dict",data:=.dict #[] }) h.objs.size (.dK []) :=
 ⟨qN _,beq_eq_false_iff_ne.mpr (Ne.symm (qK hb)),[],.nil,Heap.DictOf.new h⟩
theorem zsn {P:Program}{w:World}{H:Hp}(h:Heap)(hb:sysModules<h.objs.size):zaD P w H (h.push { cls:=.type "dict",data:=.dict #[] }) h.objs.size (.dT []) :=
 ⟨qN _,beq_eq_false_iff_ne.mpr (Ne.symm (qK hb)),[],.nil,_,#[],0,qp _ rfl,⟨rfl,rfl,rfl⟩,rfl,rfl,List.nodup_nil⟩
def zwJ:TE:=fun _ H Q=>∀ p,H p=none->Q (.ref p) (upd H p (.dK []))
def zvU:TE:=fun _ H Q=>∀ p,H p=none->Q (.ref p) (upd H p (.dT []))
section
variable {X:Cx}{pos:Pos}
theorem zr8:PE X (.Dict [] [] pos) zwJ:=fun pins s U H Q I h =>
 wpAny_Dict_empty ⟨.ref s.heap.objs.size,_,I.laid (a:=s.heap.objs.size) (o:=.dK []) (t':=s.toks) (fun _ _ q=>qd _ q) (qf _) (zrL s.heap I.big),rfl,h _ (I.hok.fresh (qf _))⟩
theorem zr9:PE X (.Dict [] [] pos) zvU:=fun pins s U H Q I h =>
 wpAny_Dict_empty ⟨.ref s.heap.objs.size,_,I.laid (a:=s.heap.objs.size) (o:=.dT []) (t':=s.toks) (fun _ _ q=>qd _ q) (qf _) (zsn s.heap I.big),rfl,h _ (I.hok.fresh (qf _))⟩
end
section
variable {X:Cx}{pins:List (Addr×Obj)}{U:St}{H:Hp}{s:Shared}{a:Addr}{y d:V}{u r:Value}{o:Option V}{A:Around}{E:Value->Shared->Prop}
end
section
variable {X:Cx}{o e f:Expr}{apos cpos:Pos}{td ty tx:TE}
end
section
variable {X:Cx}{pins:List (Addr×Obj)}{U:St}{H:Hp}{s:Shared}{a:Addr}{kvs:List (Key×V)}{A:Around}{E:Value->Shared->Prop}
end
section
variable {X:Cx}{pins:List (Addr×Obj)}{U:St}{H:Hp}{s:Shared}{a:Addr}{y:V}{u:Value}{A:Around}{E:Value->Shared->Prop}
end
end L2
namespace My
def Bd (n:Nat)(x:Int):Prop:=x.natAbs<2 ^ n
theorem Bd.mono {m n:Nat}{x:Int}(h:Bd m x)(hmn:m<=n):Bd n x:=qD h (Nat.pow_le_pow_right (by decide) hmn)
theorem Bd.add {n:Nat}{x y:Int}(h:Bd n x)(h':Bd n y):Bd (n+1) (x+y):=by
 unfold Bd at *;rw [Nat.pow_succ];lia
theorem Bd.sub {n:Nat}{x y:Int}(h:Bd n x)(h':Bd n y):Bd (n+1) (x-y):=by
 unfold Bd at *;rw [Nat.pow_succ];lia
theorem Bd.neg {n:Nat}{x:Int}(h:Bd n x):Bd n (-x):=by unfold Bd at *;lia
theorem Bd.mul {m n:Nat}{x y:Int}(h:Bd m x)(h':Bd n y):Bd (m+n) (x*y):=by
 unfold Bd at *;rw [Int.natAbs_mul,Nat.pow_add];exact Nat.mul_lt_mul'' h h'
theorem Bd.of_le {n:Nat}{x y:Int}(h:Bd n y)(h':x.natAbs<=y.natAbs):Bd n x:=Nat.lt_of_le_of_lt h' h
theorem Bd.dvd {n:Nat}{x y:Int}(h:Bd n y)(h0:y≠0)(d:x ∣ y):Bd n x :=
 h.of_le (Nat.le_of_dvd (by lia) (Int.natAbs_dvd_natAbs.mpr d))
theorem Bd.fdiv {n:Nat}{x y:Int}(h:Bd n x):Bd n (x.fdiv y):=h.of_le (Int.natAbs_fdiv_le_natAbs x y)
theorem Bd.lit {n:Nat}{x:Int}(h:x.natAbs<2 ^ 200)(hn:200<=n):Bd n x:=Bd.mono (m:=200) h hn
theorem zst (a b:Int):Int.gcd b (a.fmod b)=Int.gcd a b:=by
 have e:a.fmod b=a-b*a.fdiv b:=by have:=Int.mul_fdiv_add_fmod a b;lia
 rw [e,Int.gcd_sub_mul_left_right,Int.gcd_comm]
theorem znB {a b:Int}(h:b≠0):(a.fmod b).natAbs<b.natAbs:=by
 rcases Int.lt_or_gt_of_ne h with h1 | h1
 ·have e:(-(-a)).fmod (-(-b))=-((-a).fmod (-b)):=Int.neg_fmod_neg (-a) (-b)
  rw [Int.neg_neg,Int.neg_neg] at e
  have h2:=Int.fmod_nonneg_of_pos (-a) (b:=-b) (by lia)
  have h3:=Int.fmod_lt_of_pos (-a) (b:=-b) (by lia)
  lia
 ·have:=Int.fmod_nonneg_of_pos a h1
  have:=Int.fmod_lt_of_pos a h1
  lia
def gd (t b:Int):Int:=if b<0 then -((Int.gcd t b:Nat):Int) else ((Int.gcd t b:Nat):Int)
def frT (t b:Int):Int:=t.fdiv (gd t b)
def frB (t b:Int):Int:=b.fdiv (gd t b)
theorem zti {t b:Int}(h:b≠0):gd t b≠0:=by
  have:Int.gcd t b≠0:=fun e=>h (Int.gcd_eq_zero_iff.mp e).2
  unfold gd;split<;>lia
theorem znA (t b:Int):gd t b ∣ t:=by
 unfold gd;split
 ·exact Int.neg_dvd.mpr (Int.gcd_dvd_left ..)
 ·exact Int.gcd_dvd_left ..
theorem zhz (t b:Int):gd t b ∣ b:=by
 unfold gd;split
 ·exact Int.neg_dvd.mpr (Int.gcd_dvd_right ..)
 ·exact Int.gcd_dvd_right ..
theorem zok (t b:Int):frT t b*gd t b=t:=Int.fdiv_mul_cancel (znA t b)
theorem zkw (t b:Int):frB t b*gd t b=b:=Int.fdiv_mul_cancel (zhz t b)
theorem zrC (t b:Int):frT t b*b=frB t b*t:=by
 have h1:=zok t b
 have h2:=zkw t b
 generalize frT t b=x at *
 generalize frB t b=y at *
 generalize gd t b=g at *
 subst h1 h2
 rw [Int.mul_comm y g,<- Int.mul_assoc,Int.mul_comm (x*g) y]
theorem zt7 {t b:Int}(h:b≠0):1<=frB t b:=by
  have h2:=zkw t b
  have h3:gd t b≠0:=zti h
  have h4:0<b->0<gd t b:=by
    intro hb;unfold gd at *;split<;>lia
  have h5:b<0->gd t b<0:=by
    intro hb;unfold gd at *;split<;>lia
  generalize frB t b=y at *
  generalize gd t b=g at *
  rcases Int.lt_or_gt_of_ne h with hb | hb
  . have hg:=h5 hb
    rcases Int.lt_or_le y 1 with hy | hy
    . have:0<=y*g:=Int.mul_nonneg_of_nonpos_of_nonpos (by lia) (by lia)
      lia
    . exact hy
  . have hg:=h4 hb
    rcases Int.lt_or_le y 1 with hy | hy
    . have:y*g<=0:=Int.mul_nonpos_of_nonpos_of_nonneg (by lia) (by lia)
      lia
    . exact hy
theorem zva {t b:Int}(h:b≠0):Int.gcd (frT t b) (frB t b)=1:=by
  have h0:0<Int.gcd t b:=Nat.pos_of_ne_zero fun e=>h (Int.gcd_eq_zero_iff.mp e).2
  have h1:=zok t b
  have h2:=zkw t b
  have e:Int.gcd (frT t b*gd t b) (frB t b*gd t b)=Int.gcd (frT t b) (frB t b)*(gd t b).natAbs:=Int.gcd_mul_right ..
  rw [h1,h2] at e
  have e2:(gd t b).natAbs=Int.gcd t b:=by unfold gd;split<;>lia
  rw [e2] at e
  exact Nat.eq_of_mul_eq_mul_right h0 (by lia)
theorem zxL {n:Nat}{t b:Int}(h:b≠0)(hb:Bd n b):Bd n (gd t b):=hb.dvd h (zhz t b)
theorem zvS {n:Nat}{t b:Int}(hb:Bd n b):Bd n (frB t b):=hb.fdiv
theorem zvy {n:Nat}{t b:Int}(hb:Bd n t):Bd n (frT t b):=hb.fdiv
open PySem PySem.Spec PyProof.Rows L2
def zxp (_ j:Int):Prop:=j≠0/\Bd 8000 j
def zxI (_ j:Int):Prop:=j≠0
theorem zjS {j:Int}(h:Bd 8000 j):j.natAbs.log2<9000:=by
 rcases Nat.eq_zero_or_pos j.natAbs with e | e
 ·rw [e];decide
 ·have:j.natAbs.log2<8000:=(Nat.log2_lt (Nat.ne_of_gt e)).mpr h
  lia
theorem zjM {j:Int}(h:Bd 8000 j):Builtin.Int.intBits j<=2 ^ 20:=by
 unfold Builtin.Int.intBits
 split
 ·exact qN _
 ·have:=zjS h
  lia
section
variable {X:Cx}
theorem zse:OpR X (binaryOp .FloorDiv) (rI zxp fun i j=>.int (i.fdiv j)):=opI fun _ _ _ _ _ _ _ hc q=>floordiv_int hc.1 q (.inl (PyProof.noPylong_of_log2 (zjS hc.2)))
theorem ztx:OpR X (binaryOp .Mod) (rI zxI fun i j=>.int (i.fmod j)):=zt8
def rB0 (g:Bool->Bool->V):R2:=fun x y H Q=>∃ i j,x=.bl i/\y=.bl j/\Q (g i j) H
theorem zuG {i j:Int}{a b:Nat}{p1 p2 pos:Pos}(c:Int)(h:i ^ j.toNat=c)(h0:0<=j/\j<=1000000/\i.natAbs<2 ^ 64):PE X (.BinOp (.Constant (.int i) a p1) .Pow (.Constant (.int j) b p2) pos) (tC (.int c)):=by
 intro pins s U H Q I q
 have q':Q (.int c) H:=q
 rw [<- h] at q'
 exact ztj zvm zm3 zm3 pins s U H Q I ⟨i,j,rfl,rfl,h0,q'⟩
def zzk:List V->Hp->VK->Prop:=fun xs H Q=>∃ i,xs=[.int i]/\Q (.int (i.natAbs:Int)) H
theorem zqD:zaO X (.builtin "abs") zzk:=fun pins s U H xs us Q I r h=>by
  obtain⟨i,e,q⟩:=h
  refine zsx pins s U H xs us Q I r ⟨i,e,?_⟩
  have:(if i<0 then -i else i)=(i.natAbs:Int):=by split<;>lia
  rw [this];exact q
def zzv (K:PySem.W.Frag):List V->Hp->VK->Prop:=fun xs H Q=>∃ p ys,xs=[.ref p]/\(SqL K H p ys\/SqT K H p ys)/\Q (.int ys.length) H
theorem zqR:zaO X (.builtin "len") (zzv X.K):=zl3
def zxA (K:PySem.W.Frag):List V->Hp->VK->Prop:=fun xs H Q=>∃ p ys,xs=[.ref p]/\(SqL K H p ys\/SqT K H p ys)/\∀ l,H l=none->Q (.ref l) (upd H l (.lst ys))
theorem zoD:zaO X (.type "list") (zxA X.K):=zl0
def zyS:List V->Hp->VK->Prop:=fun xs H Q=>∃ i j,xs=[.int i,.int j]/\Q (.int (if j > i then j else i)) H
theorem zqx (hc:X.calm=true):zaO X (.builtin "max") zyS:=zpQ hc
def zyU:List V->Hp->VK->Prop:=fun xs H Q=>∃ i j,xs=[.int i,.int j]/\Q (.int (if j<i then j else i)) H
theorem zpV (hc:X.calm=true):zaO X (.builtin "min") zyU:=zpK hc
theorem zx9 {x:Str}{T:String}{pos:Pos}(hg:Gl X x)(hm:X.mg x=none)(hv:bootBuiltins x=some (.type T))(hn:x≠"__name__":=by decide)(hd:(x==("__debug__":Str))=false:=by decide):PE X (.Name x pos) (tC (.ty T)):=ztH (v:=.ty T) hg hm hv rfl hn hd
def zzx (K:PySem.W.Frag):List V->Hp->VK->Prop:=fun xs H Q=>∃ x c t b,xs=[x,.ty c]/\zek K H x t/\PySem.W.kitOne K t (.type c)=some b/\Q (.bl b) H
theorem zr1:zaO X (.builtin "isinstance") (zzx X.K):=fun pins s U H xs us Q I r h=>by
 obtain⟨x,c,t,b,rfl,ty,e,q⟩:=h
 obtain⟨u,w',rfl,ru,rw'⟩:=vals2 r
 cases rw'
 exact zpT I ru ty e fun tk=>⟨.bl b,H,I.tok _,rfl,q⟩
end
section
variable {X:Cx}{K:PySem.W.Frag}
end
structure Got (P:Program)(w:World)(K:PySem.W.Frag)(mg:Str->Option Value)(base:Heap)(k:Nat)(x:Str)(ps:List Str)(sp:Sp):Prop where
 ex:∃ f fd,zW P w K mg base CX0 k f fd ps sp/\Binds K fd ps []/\PySem.W.keepIn K (.ref f)=true/\mg x=some (.ref f)
theorem zwB {X:Cx}{k j:Nat}{x:Str}{ps:List Str}{sp:Sp}{p pos:Pos}{e:Expr}{es:List Expr}{t:TA}(G:Got X.prog X.w X.K X.mg X.base k x ps sp)(hr:zaM j X.A)(hk:k<=j)(hg:Gl X x)
  (ha:PA X (e::es) t) (hdb:(x==("__debug__":Str))=false:=by decide) (he:starEach (e::es) X.env=(false,eval e X.env)::starEach es X.env:=by rfl) (hpl:(backTo pos (starEach es X.env)).any (·.1)=false:=by rfl) :
  PE X (.Call (.Name x p) (e::es) [] pos) (zoP sp [] E0 t):=by
 intro pins s U H Q I h
 obtain⟨f,fd,F,b,kp,m⟩:=G.ex
 exact zum (F.mono hk) hr hg m kp b .nil ztd ha hdb he hpl pins s U H Q I h
section
variable {nx:L2.St->Hp->Prop}{rt:VK}{bk ct:L2.St->Hp->Prop}{U:L2.St}{H:Hp}{K:PySem.W.Frag}
end
section
variable {U:L2.St}{H:Hp}{K:PySem.W.Frag}
def zyh:R2:=fun x y H Q=>y=.non/\Q (.bl (!decide (x=.non))) H
theorem zvD {X:Cx}:OpR X (compareOp .IsNot) zyh:=zu7
end
theorem zex {H:Hp}{p b:Addr}{o u:HO}(hp:H p=none)(h:H b=some u):upd H p o b=some u:=by
 rw [zZ (zbx h hp)];exact h
theorem znp {prog:Program}{w:World}{A:Around}{R:Result->Shared->Prop}{s:Shared}{elt target iter:Expr}{ifs:List Expr}{scope:Scope}{pos:Pos}{it acc:Value}{env:Env}(I:Nat->Shared->Prop)
  (turn:∀ n s,I n s->wpAny (model prog w) A (pyNext it) (fun r s₁=>match r with
   | none=>R (.ok .next) s₁
   | some v=>wpAny (model prog w) A (letOwnedTupleGo target it v) (fun _ s₁'=>wpAny (model prog w) A (assign target env v) (fun _ s₂ =>
     wpAny (model prog w) A (forIn ifs true fun c r=>if r=true then do let ok <- isTrue c env (eval c env);pure (ForInStep.yield ok) else pure (ForInStep.yield r)) (fun ok s₃ =>
      if ok=true then wpAny (model prog w) A (eval elt env) (fun x s₄ =>
       wpAny (model prog w) A (call (.builtin "list.append") [acc,x]) (fun _ s₅=>∃ m,m<n/\I m s₅) (fun _ _=>False) s₄) (fun _ _=>False) s₃
      else ∃ m,m<n/\I m s₃) (fun _ _=>False) s₂) (fun _ _=>False) s₁') (fun _ _=>False) s₁) (fun _ _=>False) s)
  (n:Nat) (h:I n s):codeAny (model prog w) A (.compLoop (.ListComp elt [⟨target,iter,ifs,0⟩] scope pos) 0 it acc env) R s:=by
 refine codeAny_loop rfl I (fun n s hI=>?_) n h
 show wpAny _ A ((compTurn (.ListComp elt [⟨target,iter,ifs,0⟩] scope pos) 0 it acc env).onRaise (fun x=>do noteFrame x env;theTreesLotGoes x)) _ _ s
 refine wpAny_noted ?_
 rw [compTurn_list]
 refine wpAny_bind (wpAny_standAt (wpAny_bind (wpAny_mono (turn n s hI) (fun r s₁ h₁=>?_) fun _ _ h'=>h'.elim)))
 cases r with
 | none=>exact wpAny_pure h₁
 | some v =>
  refine wpAny_bind (wpAny_mono h₁ (fun _ s₁' h₁'=>?_) fun _ _ h'=>h'.elim)
  refine wpAny_bind (wpAny_mono h₁' (fun _ s₂ h₂=>wpAny_bind (wpAny_mono h₂ (fun ok s₃ h₃=>?_) fun _ _ h'=>h'.elim)) fun _ _ h'=>h'.elim)
  cases ok with
  | false=>exact wpAny_pure ⟨rfl,h₃⟩
  | true =>
   exact wpAny_bind (wpAny_bind (wpAny_mono h₃ (fun x s₄ h₄=>wpAny_bind (wpAny_mono h₄ (fun _ s₅ h₅=>wpAny_pure (wpAny_pure ⟨rfl,h₅⟩)) fun _ _ h'=>h'.elim)) fun _ _ h'=>h'.elim))
def inner (X:Cx)(sc:Scope)(N:List Str)(cl:List (Str×Addr))(C:Addr)(s₀:Shared)(H₀:Hp)(ex:List Addr):Cx :=
  { X with N:=N,s₀:=s₀,H₀:=H₀,env:=compEnvC sc cl C X.env,outer:=X.stack,ex:=ex,fn:=fun _=>false,pn:=[] }
def PFs (X:Cx)(ifs:List Expr)(t:TT):Prop :=
 ∀ (pins:List (Addr×Obj)) (s:Shared) (U:L2.St) (H:Hp) (Q:Bool->Hp->Prop),Inv X pins U H s->t U H Q ->
  wpAny (model X.prog X.w) X.A (forIn ifs true fun c r=>if r=true then do let ok <- isTrue c X.env (eval c X.env);pure (ForInStep.yield ok) else pure (ForInStep.yield r)) (TP X pins U Q) X.xe s
def zxB:TT:=fun _ H Q=>Q true H
theorem zwX {X:Cx}:PFs X [] zxB:=fun _ _ _ H _ I h=>wpAny_tests_nil ⟨H,I,h⟩
theorem zwn {X:Cx}{c:Expr}{t:TT}(h:PT X c t):PFs X [c] t:=fun pins s U H Q I q=>wpAny_tests_one (h pins s U H Q I q)
def zh6 (X:Cx)(sc:Scope):List Str->List Nat->Prop
 | [],[]=>True
 | x::xs,j::js=>X.N[j]?=some x/\sc.names.lookup x=some .free/\X.env.kindOf x=some .cell/\zh6 X sc xs js
 | _,_=>False
def zeC (P:Str->Prop):List (Str×NameKind)->Prop
 | []=>True
 | (n,.free)::r=>P n/\zeC P r
 | _::r=>zeC P r
theorem zeC.of {P:Str->Prop}:∀ {l:List (Str×NameKind)},zeC P l->∀ y∈l,y.2=.free->P y.1
  | (n,k)::r,h,y,hy,e=>by
    rcases qh.mp hy with rfl | hy
    . dsimp only at e;subst e;exact h.1
    . refine zeC.of (l:=r) ?_ y hy e
      cases k<;>first | exact h.2 | exact h
def cst (own:List Str)(fv:List Nat)(U:L2.St):L2.St:=List.replicate own.length none++fv.map fun j=>(U[j]?).join
def Agr:L2.St->L2.St->Prop
 | [],[]=>True
 | none::r,_::s=>Agr r s
 | some v::r,some w::s=>v=w/\Agr r s
 | _,_=>False
theorem Agr.len:∀ {a b:L2.St},Agr a b->b.length=a.length
  | [],[],_=>rfl
  | none::r,_::s,h=>congrArg (· + 1) (Agr.len (a:=r) (b:=s) h)
  | some v::r,some w::s,h=>congrArg (· + 1) (Agr.len (a:=r) (b:=s) h.2)
theorem Agr.get:∀ {a b:L2.St},Agr a b->∀ (i:Nat) (v:V),a[i]?=some (some v)->b[i]?=some (some v)
 | none::r,_::s,h,i,v,e=>by
  cases i with
  | zero=>simp at e
  | succ i=>simpa using Agr.get (a:=r) (b:=s) h i v (by simpa using e)
 | some v'::r,some w::s,h,i,v,e=>by
  cases i with
  | zero=>simp at e;subst e;simp [h.1]
  | succ i=>simpa using Agr.get (a:=r) (b:=s) h.2 i v (by simpa using e)
def tLC (own:List Str)(fv:List Nat)(wi:TI)(g:TG)(tc:TT)(te:TE):TE:=fun U H Q=>wi U H fun J H1=>∀ p,H1 p=none ->
 ∃ W:Nat->Nat->Hp->Prop,(∃ m,W 0 m (upd H1 p (.lst [])))/\∀ i m H2,W i m H2 ->
  (J.stop i H2/\Q (.ref p) H2)\/(J.go i H2/\∀ x H',J.yld i H2 x H'->g x (cst own fv U) H' fun σ2 H3=>Agr (cst own fv U) σ2/\tc σ2 H3 fun b H4 =>
   if b=true then te σ2 H4 fun y H5=>∃ ys,H5 p=some (.lst ys)/\ys.length<sizeLine/\∃ m',m'<m/\W (i+1) m' (upd H5 p (.lst (ys++[y])))
   else ∃ m',m'<m/\W (i+1) m' H4)
theorem znw {env:Env}{n:Str}{c:Addr}(h:env.cells.lookup n=some c):cellOf env n=pure c:=by
 unfold cellOf;rw [h]
theorem zgW {env:Env}:∀ (names:List (Str×NameKind)) (cs:List (Str×Addr)),(∀ y∈names,y.2=.free->∃ c,env.cells.lookup y.1=some c)->(∀ x c,cs.lookup x=some c->env.cells.lookup x=some c) ->
    ∃ cl,(forIn names cs fun (x:Str×NameKind) (r:List (Str×Addr))=>if (x.2==NameKind.free)=true then do let a <- cellOf env x.1;pure (ForInStep.yield ((x.1,a)::r)) else pure (ForInStep.yield r))=(pure cl:Sem (List (Str×Addr))) /\
      (∀ x c,cl.lookup x=some c->env.cells.lookup x=some c)/\(∀ x,(cs.lookup x).isSome=true->(cl.lookup x).isSome=true)/\∀ y∈names,y.2=.free->(cl.lookup y.1).isSome=true
  | [],cs,_,h2=>⟨cs,rfl,h2,fun _ h=>h,fun _ h=>nomatch h⟩
  | (n,k)::r,cs,h1,h2=>by
    rw [List.forIn_cons]
    by_cases hk:k=.free
    . subst hk
      obtain⟨c,hc⟩:=h1 (n,.free) List.mem_cons_self rfl
      obtain⟨cl,e,a1,a2,a3⟩:=zgW (env:=env) r ((n,c)::cs) (fun y hy=>h1 y (qB _ hy)) (fun x d hx=>by
        rw [qk] at hx
        by_cases hxn:x=n
        . subst hxn;simp at hx;subst hx;exact hc
        . have:(x==n)=false:=by simpa using hxn
          rw [this] at hx;exact h2 x d hx)
      refine⟨cl,?_,a1,fun x hx=>a2 x ?_,fun y hy e'=>?_⟩
      . simp only [beq_self_eq_true,if_true,znw hc]
        simpa using e
      . rw [qk];split<;>simp_all
      . rcases qh.mp hy with rfl | hy
        . exact a2 _ (by simp [qk])
        . exact a3 y hy e'
    . have hb:(k==NameKind.free)=false:=by simpa using hk
      obtain⟨cl,e,a1,a2,a3⟩:=zgW (env:=env) r cs (fun y hy=>h1 y (qB _ hy)) h2
      refine⟨cl,?_,a1,a2,fun y hy e'=>?_⟩
      . simp only [hb,Bool.false_eq_true,if_false]
        simpa using e
      . rcases qh.mp hy with rfl | hy
        . exact absurd e' hk
        . exact a3 y hy e'
theorem zka {env:Env}{sc:Scope}(h:∀ y∈sc.names,y.2=.free->∃ c,env.cells.lookup y.1=some c) :
  ∃ cl,closureFor sc env=pure cl/\(∀ x c,cl.lookup x=some c->env.cells.lookup x=some c)/\∀ y∈sc.names,y.2=.free->(cl.lookup y.1).isSome=true:=by
 obtain⟨cl,e,a1,_,a3⟩:=zgW (env:=env) sc.names [] h (fun x c hx=>by simp at hx)
 refine⟨cl,?_,a1,a3⟩
 unfold closureFor
 have e2:=e
 first
  | exact e2
  | (show (do let cs <- forIn sc.names [] _;pure cs)=_;rw [show (forIn sc.names [] _:Sem (List (Str×Addr)))=pure cl from e2];rfl)
  | simpa using e2
theorem zer {env:Env}{x:Str}:∀ {names:List (Str×NameKind)},(names.map fun (n,k)=>if (k==NameKind.free&&env.scope.kind==.function&&env.kindOf n==some .cell) then (n,NameKind.cell) else (n,k)).lookup x =
    (names.lookup x).map fun k=>if (k==NameKind.free&&env.scope.kind==.function&&env.kindOf x==some .cell) then NameKind.cell else k
  | []=>rfl
  | (n,k)::r=>by
    have ih:=zer (env:=env) (x:=x) (names:=r)
    rw [qJ]
    by_cases hx:x=n
    . subst hx
      dsimp only
      split<;>simp_all [qk]
    . have hb:(x==n)=false:=by simpa using hx
      dsimp only
      split<;>(rw [qk,qk,hb];exact ih)
theorem mem_of_lookup {β:Type}{x:Str}{k:β}:∀ {l:List (Str×β)},l.lookup x=some k->(x,k)∈l
 | (n,b)::r,h=>by
  rw [qk] at h
  by_cases hx:x=n
  ·subst hx;simp at h;subst h;exact List.mem_cons_self
  ·have hb:(x==n)=false:=by simpa using hx
   rw [hb] at h
   exact qB _ (mem_of_lookup h)
section
variable {X:Cx}{sc:Scope}{tg iter elt:Expr}{ifs:List Expr}{own free:List Str}{fv:List Nat}{wi:TI}{g:TG}{tc:TT}{te:TE}{pos:Pos}
theorem ztf {U:L2.St}:∀ {free:List Str} {fv:List Nat},zh6 X sc free fv->∀ (k:Nat) (x:Str) (v:V),free[k]?=some x->(fv.map fun j=>(U[j]?).join)[k]?=some (some v) ->
  ∃ j:Nat,X.N[j]?=some x/\U[j]?=some (some v)/\sc.names.lookup x=some .free/\X.env.kindOf x=some .cell
 | x'::xs,j::js,h,k,x,v,e1,e2=>by
  cases k with
  | zero =>
   simp at e1 e2
   subst e1
   refine⟨j,h.1,?_,h.2.1,h.2.2.1⟩
   cases q:U[j]? with
   | none=>rw [q] at e2;simp at e2
   | some o=>rw [q] at e2;simp at e2;rw [e2]
  | succ k=>exact ztf (free:=xs) (fv:=js) h.2.2.2 k x v (by simpa using e1) (by simpa using e2)
 | [],[],_,k,x,v,e1,_=>by simp at e1
theorem zqY:∀ {free:List Str} {fv:List Nat},zh6 X sc free fv->fv.length=free.length
  | [],[],_=>rfl
  | _::_,_::_,h=>congrArg (· + 1) (zqY h.2.2.2)
theorem zjD {RR:Value->Addr->Result->Shared->Prop}(hcalm:X.calm=true)(hxe:X.xe=fun _ _=>False)(hkind:sc.kind=.function)(hcell:∀ y∈sc.names,y.2≠.cell)
    (hfr:zeC (fun x=>X.env.kindOf x=some .cell) sc.names) (hfv:zh6 X sc free fv)
    (hg:∀ cl C s₀ H₀ ex,PG (inner X sc (own++free) cl C s₀ H₀ ex) tg g) (ht:∀ cl C s₀ H₀ ex,PFs (inner X sc (own++free) cl C s₀ H₀ ex) ifs tc) (he:∀ cl C s₀ H₀ ex,PE (inner X sc (own++free) cl C s₀ H₀ ex) elt te)
    {pins:List (Addr×Obj)} {s2:Shared} {U:L2.St} {H2:Hp} {it:Addr} {fp:List Addr} {tn:Nat->Heap->Prop} {J:It} {Q:VK} (I2:Inv X pins U H2 s2) (T:Turn X.prog X.w X.K tg J fp it tn) (st2:tn 0 s2.heap) (f2:∀ b∈fp,zfn X pins H2 b)
    (h:∀ p,H2 p=none->∃ W:Nat->Nat->Hp->Prop,(∃ m,W 0 m (upd H2 p (.lst [])))/\∀ i m H2,W i m H2 ->
      (J.stop i H2/\Q (.ref p) H2)\/(J.go i H2/\∀ x H',J.yld i H2 x H'->g x (cst own fv U) H' fun σ2 H3=>Agr (cst own fv U) σ2/\tc σ2 H3 fun b H4 =>
        if b=true then te σ2 H4 fun y H5=>∃ ys,H5 p=some (.lst ys)/\ys.length<sizeLine/\∃ m',m'<m/\W (i+1) m' (upd H5 p (.lst (ys++[y])))
        else ∃ m',m'<m/\W (i+1) m' H4))
    {cl:List (Str×Addr)} (hcl1:∀ x c,cl.lookup x=some c->X.env.cells.lookup x=some c) (hcl2:∀ y∈sc.names,y.2=.free->(cl.lookup y.1).isSome=true)
    (hRR:∀ (p C:Addr) (m:Str->Option Value) (H':Hp) (s':Shared),s'.heap.Ns C m->Inv X pins U H' s'->H' C=none->C≠X.env.locals->X.s₀.heap.objs.size<=C->(∀ x c,X.env.cells.lookup x=some c->c≠C)->(∀ q∈X.pn++pins,q.1≠C)->Q (.ref p) H' ->
      RR (.ref p) C (.ok .next) s') :
    wpAny (model X.prog X.w) X.A (newList []) (fun acc s3=>wpAny (model X.prog X.w) X.A (newFunctionEnv sc X.env.globals cl [] X.env.qual none .none (some X.env)) (fun cenv s4 =>
      codeAny (model X.prog X.w) X.A (.compStart (.ListComp elt [⟨tg,iter,ifs,0⟩] sc pos) 0 (.ref it) acc { cenv with scope:=relabel sc X.env }) (RR acc cenv.locals) s4) X.xe s3) X.xe s2:=by
  rw [hxe]
  refine wpAny_newObj_type ?_
  have I3:Inv X pins U (upd H2 s2.heap.objs.size (.lst [])) { s2 with heap:=s2.heap.push { cls:=.type "list",data:=.seq ([]:List Value).toArray } }:=I2.lnew (t':=s2.toks) .nil (qN _)
  generalize hs3:({ s2 with heap:=s2.heap.push { cls:=.type "list",data:=.seq ([]:List Value).toArray } }:Shared)=s3 at I3 ⊢
  have hp:H2 s2.heap.objs.size=none:=I2.fresh
  obtain⟨W,⟨m0,w0⟩,turn⟩:=h s2.heap.objs.size hp
  generalize hH3:upd H2 s2.heap.objs.size (.lst [])=H3 at I3 w0 ⊢
  have hk3:∀ b o,s2.heap.get? b=some o->s3.heap.get? b=some o:=fun b o e=>by rw [<- hs3];exact qd _ e
  have hz3:s3.heap.objs.size=s2.heap.objs.size+1:=by rw [<- hs3];exact Heap.size_push ..
  have st3:tn 0 s3.heap:=T.keep _ _ _ st2 fun b _ o e=>hk3 b o e
  have hfpo:∀ b∈fp,∃ o,s3.heap.get? b=some o:=fun b hb=>let ⟨o,e,_⟩:=T.obj _ _ st3 b hb;⟨o,e⟩
  have hfpn:∀ b∈fp,b≠s2.heap.objs.size:=fun b hb e=>by
    obtain⟨o,e',_⟩:=T.obj _ _ st2 b hb
    have:=qr e'
    rw [e] at this;exact Nat.lt_irrefl _ this
  have f3:∀ b∈fp,H3 b=none:=fun b hb=>by rw [<- hH3,zZ (hfpn b hb)];exact (f2 b hb).1
  refine wpAny_newFunctionEnv hcell (by intro y hy;simp at hy) (fun h1 hns1 hsb1=>?_) hkind
  have hC0:H3 s3.heap.objs.size=none:=I3.fresh
  have old:∀ b o,s3.heap.get? b=some o->h1.get? b=some o:=fun b o e=>hsb1.extBut b o (qK (qr e)) (qd _ e)
  have hlow:X.s₀.heap.objs.size<=s3.heap.objs.size:=I3.sz
  have hloc:X.env.locals<s3.heap.objs.size:=I3.lt
  have hcells:∀ x c,X.env.cells.lookup x=some c->c<s3.heap.objs.size:=fun x c e=>by
    obtain⟨v,o,ho,_⟩:=I3.cell x c e
    exact qr ho
  have YOk:(inner X sc (own++free) cl s3.heap.objs.size s3 H3 fp).Ok:={
    mod:=I3.ok.mod
    kind:=by show (relabel sc X.env).kind=.function;exact hkind
    glob:=I3.ok.glob
    blt:=I3.ok.blt
    above:=qf _
    inj:=fun x y c hx hy=>I3.ok.inj x y c (hcl1 x c hx) (hcl1 y c hy)
    has:=fun x hx=>by
      have e : (sc.names.lookup x).map (fun k => if (k == NameKind.free && X.env.scope.kind == .function && X.env.kindOf x == some .cell) then NameKind.cell else k) = some .cell ∨
          (sc.names.lookup x).map (fun k=>if (k==NameKind.free&&X.env.scope.kind==.function&&X.env.kindOf x==some .cell) then NameKind.cell else k)=some .free:=by
        have:=@zer X.env x sc.names
        rcases hx with hx | hx
        . exact .inl (this.symm.trans hx)
        . exact .inr (this.symm.trans hx)
      cases q:sc.names.lookup x with
      | none=>rw [q] at e;simp at e
      | some k =>
        have hm:=mem_of_lookup q
        by_cases hkf:k=.free
        . subst hkf
          exact Option.isSome_iff_exists.mp (hcl2 (x,.free) hm rfl)
        . have hkc:k≠.cell:=hcell (x,k) hm
          rw [q] at e
          have hb:(k==NameKind.free)=false:=by simpa using hkf
          simp only [Option.map_some,hb,Bool.false_and,Bool.false_eq_true,if_false,Option.some.injEq] at e
          rcases e with e | e
          . exact absurd e hkc
          . exact absurd e hkf
    cab:=fun x c hx=>by cases hx
    hd:=I3.ok.hd
    frames:=I3.ok.frames
    stk:=.inl rfl
    exf:=fun b hb=>⟨fun e=>by obtain⟨o,e'⟩:=hfpo b hb;have:=qr e';rw [e] at this;exact Nat.lt_irrefl _ this,fun x c hx=>(f2 b hb).2.2.2.2.1 x c (hcl1 x c hx)⟩
    bs:=I3.bs
    bsz:=Nat.le_trans I3.ok.bsz I3.sz
    noex:=fun b o hb hm=>by
      rcases (f2 b hm).2.2.2.1 with hx | hx
      . exact I3.ok.noex b o hb hx
      . exact Nat.lt_irrefl _ (qD (qD (qr hb) I3.ok.bsz) hx)
    exfs:=fun b hb hm=>by
      rcases qh.mp (I3.stkSub b hm) with e | e
      . exact (f2 b hb).2.1 e
      . exact (f2 b hb).2.2.1 e
    funs:=I3.stack
    frf:=I3.stkFree }
  have hlen0:(cst own fv U).length=(own++free).length:=by
    unfold cst;rw [qg,qg,qI,qb,zqY hfv]
  have I4:∀ tk,Inv (inner X sc (own++free) cl s3.heap.objs.size s3 H3 fp) [] (cst own fv U) H3 { s3 with heap:=h1,toks:=tk }:=fun tk=>{
    ok:=YOk
    os:=rfl
    bare:=I3.bare
    base:=Un.kept old
    loc:=by
      refine⟨_,hns1,fun i x v hN hσ _=>?_⟩
      have hN':(own++free)[i]?=some x:=hN
      have hσ':(List.replicate own.length none++fv.map fun j=>(U[j]?).join)[i]?=some (some v):=hσ
      by_cases hi:i<own.length
      . rw [qj (by rw [qI];exact hi)] at hσ'
        rw [List.getElem?_replicate] at hσ'
        split at hσ'<;>simp at hσ'
      . rw [qi (by lia)] at hN'
        rw [qi (by rw [qI];lia),qI] at hσ'
        obtain⟨j,hj,hσj,hsx,hkx⟩:=ztf hfv _ x v hN' hσ'
        obtain⟨m,_,hall⟩:=I3.loc
        obtain⟨u,ru,lk⟩:=hall j x v hj hσj (.inr (.inl hkx))
        refine⟨u,ru,.inr ⟨?_,?_⟩⟩
        . have:=@zer X.env x sc.names
          rw [hsx] at this
          have e2:Env.kindOf (inner X sc (own++free) cl s3.heap.objs.size s3 H3 fp).env x=(sc.names.map fun (n,k)=>if (k==NameKind.free&&X.env.scope.kind==.function&&X.env.kindOf n==some .cell) then (n,NameKind.cell) else (n,k)).lookup x:=rfl
          rw [e2,this]
          simp only [Option.map_some]
          split
          . exact .inl rfl
          . exact .inr rfl
        . rcases lk with ⟨hl,_⟩ | ⟨_,c,hc,hcell'⟩
          . rw [hkx] at hl;cases hl
          . obtain⟨c',hc'⟩:=Option.isSome_iff_exists.mp (hcl2 (x,.free) (mem_of_lookup hsx) rfl)
            have:=hcl1 x c' hc'
            rw [hc] at this
            cases this
            refine⟨c,hc',?_⟩
            obtain⟨o,ho,hd⟩:=hcell'
            exact⟨o,old _ _ ho,hd⟩
    cell:=fun x c hx=>by
      obtain⟨v,o,ho,hd⟩:=I3.cell x c (hcl1 x c hx)
      exact⟨v,o,old _ _ ho,hd⟩
    free:=hC0
    freeC:=fun x c hx=>I3.freeC x c (hcl1 x c hx)
    pin:=fun q hq=>nomatch hq
    hok:=I3.hok.kept old
    len:=hlen0 }
  have back:∀ (m:Str->Option Value) (H':Hp) (s':Shared),s'.heap.Ns s3.heap.objs.size m->Inv (inner X sc (own++free) cl s3.heap.objs.size s3 H3 fp) [] (cst own fv U) H' s'->Q (.ref s2.heap.objs.size) H'->RR (.ref s2.heap.objs.size) s3.heap.objs.size (.ok .next) s':=fun m H' s' hm IY q=>by
    have u1:Un (frs X.stack) fp H3 H' s3.heap s'.heap:=IY.base
    have IX:Inv X pins U H' s':=I3.call' (ch:=fp) (IY.os) u1 IY.hok IY.bare fun b hb=>⟨(f2 b hb).2.2.2.1,(f2 b hb).2.1,(f2 b hb).2.2.2.2.1,(f2 b hb).2.2.2.2.2⟩
    refine hRR _ _ m H' s' hm IX IY.free (Nat.ne_of_gt hloc) hlow (fun x c hx=>qK (hcells x c hx)) (fun q' hq=>?_) q
    have:=(I3.pin q' hq).1
    exact qK (qr this)
  have stat:∀ {H':Hp},(∀ b∈fp,H' b=none)->∀ b∈fp,zfn (inner X sc (own++free) cl s3.heap.objs.size s3 H3 fp) [] H' b:=fun hn b hb =>
    ⟨hn b hb,(YOk.exf b hb).1,YOk.exfs b hb,.inl hb,(YOk.exf b hb).2,fun q hq=>nomatch hq⟩
  have hYxe:(inner X sc (own++free) cl s3.heap.objs.size s3 H3 fp).xe=fun _ _=>False:=hxe
  have loop:∀ tk,codeAny (model X.prog X.w) X.A (.compLoop (.ListComp elt [⟨tg,iter,ifs,0⟩] sc pos) 0 (.ref it) (.ref s2.heap.objs.size) (compEnvC sc cl s3.heap.objs.size X.env)) (RR (.ref s2.heap.objs.size) s3.heap.objs.size) { s3 with heap:=h1,toks:=tk }:=fun tk=>by
    refine znp (fun n s'=>∃ i H',Inv (inner X sc (own++free) cl s3.heap.objs.size s3 H3 fp) [] (cst own fv U) H' s'/\tn i s'.heap/\(∀ b∈fp,H' b=none)/\W i n H') ?_ m0 ⟨0,H3,I4 tk,T.keep _ _ _ st3 (fun b _ o e=>old b o e),f3,w0⟩
    rintro n s5 ⟨i,H5,I5,st5,fr5,w5⟩
    rcases turn i n H5 w5 with ⟨stop,q⟩ | ⟨go,step⟩
    . refine thn (T.done (inner X sc (own++free) cl s3.heap.objs.size s3 H3 fp) rfl rfl rfl hcalm i [] s5 _ H5 _ I5 (stat fr5) st5 stop) fun r s6 ⟨hr,I6⟩=>?_
      subst hr
      obtain⟨m,hm,_⟩:=I6.loc
      exact back m H5 s6 hm I6 q
    . refine thn (T.item (inner X sc (own++free) cl s3.heap.objs.size s3 H3 fp) rfl rfl rfl hcalm i [] s5 _ H5 _ I5 (stat fr5) st5 go) fun r s6 ⟨u,hr,h6⟩=>?_
      subst hr
      refine thn h6 fun _ s7 ⟨x,H7,I7,r7,y7,st7,fr7⟩=>?_
      have I7':=I7.pinned (stat fr7) (T.obj _ _ st7)
      have hg':=hg cl s3.heap.objs.size s3 H3 fp _ s7 _ H7 x u _ I7' r7 (step x H7 y7)
      have ht':=ht cl s3.heap.objs.size s3 H3 fp
      have he':=he cl s3.heap.objs.size s3 H3 fp
      have ap:MtM (inner X sc (own++free) cl s3.heap.objs.size s3 H3 fp) "list.append" zn4:=zll
      unfold PFs at ht'
      unfold PE at he'
      unfold MtM at ap
      rw [hYxe] at hg' ht' he' ap
      have again : ∀ {pl : List (Addr × Obj)} {σ8 : L2.St} {H8 : Hp} {s8 : Shared}, pl = zhL fp s7.heap → Inv (inner X sc (own ++ free) cl s3.heap.objs.size s3 H3 fp) ([] ++ pl) σ8 H8 s8 → Agr (cst own fv U) σ8 → (∃ m', m' < n ∧ W (i + 1) m' H8) →
          ∃ m,m<n/\∃ i H',Inv (inner X sc (own++free) cl s3.heap.objs.size s3 H3 fp) [] (cst own fv U) H' s8/\tn i s8.heap/\(∀ b∈fp,H' b=none)/\W i m H':=fun {pl σ8 H8 s8} hpl I8 ag ⟨m',hm,w8⟩=>by
        subst hpl
        refine⟨m',hm,i+1,H8,(I8.unpinned).weak ag.len.symm (fun j v e=>ag.get j v e),T.keep _ _ _ st7 fun b hb o e=>(I8.pin (b,o) (List.mem_append_right _ (List.mem_append_right _ (ze0 hb e)))).1,fun b hb=>?_,w8⟩
        obtain⟨o,e,d⟩:=T.obj _ _ st7 b hb
        exact (I8.pin (b,o) (List.mem_append_right _ (List.mem_append_right _ (ze0 hb e)))).2.1
      refine thn hg' fun _ s8 ⟨σ8,H8,I8,ag,q8⟩=>?_
      refine thn (ht' _ s8 σ8 H8 _ I8 q8) fun b s9 ⟨H9,I9,q9⟩=>?_
      cases b with
      | false =>
        rw [if_neg qq] at q9 ⊢
        exact again rfl I9 ag q9
      | true =>
        rw [if_pos rfl] at q9 ⊢
        refine thn (he' _ s9 σ8 H9 _ I9 q9) fun y s10 ⟨yv,H10,I10,ry,ys,hy,hlt,q10⟩=>?_
        refine thn (ap _ s10 σ8 H10 (.ref s2.heap.objs.size) [yv] (.ref s2.heap.objs.size) [y] (fun v H'=>v=.non/\H'=upd H10 s2.heap.objs.size (.lst (ys++[yv]))) I10 rfl (.cons ry .nil) ⟨_,ys,yv,rfl,rfl,hy,hlt,rfl,rfl⟩) fun z s11 ⟨v11,H11,I11,_,_,e11⟩=>?_
        subst e11
        exact again rfl I11 ag q10
  refine codeAny_compStart_list (loop _) (T.self _ 0 _ _ _ (T.keep _ _ _ st3 fun b _ o e=>old b o e) (loop _))
theorem zx7 (hcalm:X.calm=true)(hxe:X.xe=fun _ _=>False)(hkind:sc.kind=.function)(hcell:∀ y∈sc.names,y.2≠.cell)(hnames:∀ y∈sc.names,y.2=.local->sc.names.lookup y.1=some .local)
  (hfr:zeC (fun x=>X.env.kindOf x=some .cell) sc.names) (hfv:zh6 X sc free fv) (hi:PI X tg iter wi)
  (hg:∀ cl C s₀ H₀ ex,PG (inner X sc (own++free) cl C s₀ H₀ ex) tg g) (ht:∀ cl C s₀ H₀ ex,PFs (inner X sc (own++free) cl C s₀ H₀ ex) ifs tc) (he:∀ cl C s₀ H₀ ex,PE (inner X sc (own++free) cl C s₀ H₀ ex) elt te)
  (hs:∀ x,foldedSetIterable iter X.env x=pure x:=by intro _;rfl):PE X (.ListComp elt [⟨tg,iter,ifs,0⟩] sc pos) (tLC own fv wi g tc te):=by
 intro pins s U H Q I q
 obtain⟨cl,hclos,hcl1,hcl2⟩:=zka (env:=X.env) (sc:=sc) fun y hy e=>I.ok.has y.1 (.inl (hfr.of y hy e))
 rw [eval_ListComp]
 refine wpAny_comprehension_free (use:=none) rfl hs hclos hkind hnames (thn (hi pins s U H _ I q) fun v s1 h1=>thn h1 fun itv s2 h2=>?_)
 obtain⟨it,fp,tn,J,H2,e,I2,T,st2,f2,q2⟩:=h2
 subst e
 refine zjD (RR:=fun acc C=>compPost (model X.prog X.w) X.A X.xe none (EP X pins U Q) acc C) hcalm hxe hkind hcell hfr hfv hg ht he I2 T st2 f2 q2 hcl1 hcl2 ?_
 intro p C m H' s' hm I' hC hCl hC0 hCc hCp q'
 exact⟨m,hm,fun h' hs'=>⟨.ref p,H',I'.turned (t':=s'.toks) (fun b o hb e=>hs'.extBut b o hb e) hC hCl (.inr hC0) hCc hCp,rfl,q'⟩⟩
theorem ztZ {i:Nat}{y:Str}{py spos:Pos}(hN:X.N.Nodup)(hy:X.N[i]?=some y)(hyl:X.env.scope.names.lookup y=some .local)(hcalm:X.calm=true)(hxe:X.xe=fun _ _=>False)(hkind:sc.kind=.function)(hcell:∀ y∈sc.names,y.2≠.cell)(hnames:∀ y∈sc.names,y.2=.local->sc.names.lookup y.1=some .local)
  (hfr:zeC (fun x=>X.env.kindOf x=some .cell) sc.names) (hfv:zh6 X sc free fv) (hi:PI X tg iter wi)
  (hg:∀ cl C s₀ H₀ ex,PG (inner X sc (own++free) cl C s₀ H₀ ex) tg g) (ht:∀ cl C s₀ H₀ ex,PFs (inner X sc (own++free) cl C s₀ H₀ ex) ifs tc) (he:∀ cl C s₀ H₀ ex,PE (inner X sc (own++free) cl C s₀ H₀ ex) elt te)
  (hsw:swapsWith (.ListComp elt [⟨tg,iter,ifs,0⟩] sc pos) (some (.Name y py)) spos.line X.env=pure true:=by rfl)
  (hs:∀ x,foldedSetIterable iter X.env x=pure x:=by intro _;rfl):PS X (.Assign [.Name y py] (.ListComp elt [⟨tg,iter,ifs,0⟩] sc pos) spos) (zsj (tLC own fv wi g tc te) (zB i)):=by
 intro pins s U H D I q
 obtain⟨cl,hclos,hcl1,hcl2⟩:=zka (env:=X.env) (sc:=sc) fun y hy e=>I.ok.has y.1 (.inl (hfr.of y hy e))
 rw [exec_Assign_Name_used _ _ _ _ hsw]
 refine wpAny_bind (wpAny_standAt (wpAny_bind ?_))
 show wpAny _ X.A (do let _ <- comprehension (.ListComp elt [⟨tg,iter,ifs,0⟩] sc pos) sc X.env _ (newList []) false (eval iter X.env) (some (assign (.Name y py) X.env))) _ _ s
 refine wpAny_bind (wpAny_mono (wpAny_comprehension_free (use:=some (assign (.Name y py) X.env)) (Q:=fun _ s'=>SP X pins D .next s') rfl hs hclos hkind hnames
  (thn (hi pins s U H _ I q) fun v s1 h1=>thn h1 fun itv s2 h2=>?_)) (fun _ s' hq=>wpAny_pure (wpAny_pure hq)) fun _ _ e=>e)
 obtain⟨it,fp,tn,J,H2,e,I2,T,st2,f2,q2⟩:=h2
 subst e
 refine zjD (RR:=fun acc C=>compPost (model X.prog X.w) X.A X.xe (some (assign (.Name y py) X.env)) (fun _ s'=>SP X pins D .next s') acc C) (Q:=fun x H1=>zB i x U H1 D.nx) hcalm hxe hkind hcell hfr hfv hg ht he I2 T st2 f2 q2 hcl1 hcl2 ?_
 intro p C m H' s' hm I' hC hCl hC0 hCc hCp q'
 show wpAny _ X.A (assign (.Name y py) X.env (.ref p)) _ _ _
 refine wpAny_assign_Name (zlm (v:=.ref p) I' hN hy (.inl hyl) rfl (fun s'' I'' hsb=>?_) (.inr hyl))
 obtain⟨a,hsb,ha⟩:=hsb
 have hCa:C≠a:=by
  rcases ha with rfl | ha
  ·exact hCl
  ·exact fun e=>hCc _ _ ha e.symm
 refine⟨m,hm.sameBut hsb hCa,fun h' hs'=>⟨_,H',I''.turned (t':=s''.toks) (fun b o hb e=>hs'.extBut b o hb e) hC hCl (.inr hC0) hCc hCp,q'⟩⟩
end
section
variable {U:L2.St}{H:Hp}{K:PySem.W.Frag}
end
section
variable {X:Cx}{tg:Expr}
end
mutual
inductive Dt (K:PySem.W.Frag)(H:Hp):V->PyData->Prop
 | non:Dt K H .non .none
 | bl (b:Bool):Dt K H (.bl b) (.bool b)
 | int (i:Int):Dt K H (.int i) (.int i)
 | tup {a:Addr} {xs:List V} {ds:List PyData}:SqT K H a xs->zj0 K H xs ds->Dt K H (.ref a) (.tuple ds)
 | lst {a:Addr} {xs:List V} {ds:List PyData}:SqL K H a xs->zj0 K H xs ds->Dt K H (.ref a) (.list ds)
inductive zj0 (K:PySem.W.Frag)(H:Hp):List V->List PyData->Prop
 | nil:zj0 K H [] []
 | cons {x:V} {xs:List V} {d:PyData} {ds:List PyData}:Dt K H x d->zj0 K H xs ds->zj0 K H (x::xs) (d::ds)
end
section
variable {X:Cx}{pins:List (Addr×Obj)}{U:L2.St}{H:Hp}{s:Shared}
end
section
variable {X:Cx}{pins:List (Addr×Obj)}{U:L2.St}{H:Hp}{s:Shared}
theorem _root_.L2.Inv.turnNew {h':Heap}{ch:List Addr}{a:Addr}{o:HO}{t':Nat}(I:Inv X pins U H s)(hf:∀ b∈ch,zfn X pins H b)(k:∀ b u,b∉ch->s.heap.get? b=some u->h'.get? b=some u)(ha:s.heap.objs.size<=a)
  (new:zaD X.prog X.w (upd H a o) h' a o):Inv X pins U (upd H a o) { s with heap:=h',toks:=t' }:=by
 have lt:∀ b u,s.heap.get? b=some u->b≠a:=fun b u e z=>by
  have:=qr e
  rw [z] at this;exact Nat.lt_irrefl _ (qD this ha)
 have ltH:∀ b u,H b=some u->b≠a:=fun b u e z=>by
  have:=I.hok.lt e
  rw [z] at this;exact Nat.lt_irrefl _ (qD this ha)
 have nch:∀ b u,H b=some u->b∉ch:=fun b u e z=>by rw [(hf b z).1] at e;cases e
 refine I.step (g':=s.gens) (d':=s.drawn) (ch:=ch) (fun b hb=>⟨(hf b hb).2.2.2.1,(hf b hb).2.1,(hf b hb).2.2.2.2.1,(hf b hb).2.2.2.2.2⟩) (fun b u _ _ hc e _=>k b u hc e) (fun b u _ _ hc e _=>⟨u.slots,k b u hc e⟩)
  (fun b u _ e n=>by rw [zZ (lt b u e)];exact n) (fun b u hc e=>⟨u,k b u hc e⟩) (fun b xs e=>by rw [zZ (ltH b _ e)];exact e) (fun b u v e=>by rw [zZ (ltH b _ e)];exact e)
  (fun b ps e=>⟨#[],by rw [zZ (ltH b _ e),e];simp⟩) (fun m hm=>?_) (fun b u e=>?_) I.bare
 ·obtain⟨ob,es,ep,ho,r⟩:=hm
  exact⟨ob,es,ep,k _ ob (fun z=>(hf _ z).2.1 rfl) ho,r⟩
 ·by_cases hb:b=a
  ·subst hb
   rw [zav] at e
   cases e
   exact new
  ·rw [zZ hb] at e
   refine (I.hok b u e).stay (fun c v hc q=>k c v ?_ q) (fun c q=>by rw [zZ (ltH c _ q)];exact q) fun c ys q=>by rw [zZ (ltH c _ q)];exact q
   rcases hc with z | z
   ·rw [z];exact nch b u e
   ·exact nch c _ z
theorem _root_.L2.Inv.turnedL {h':Heap}{ch:List Addr}{t':Nat}(I:Inv X pins U H s)(hf:∀ b∈ch,zfn X pins H b)(k:∀ b u,b∉ch->s.heap.get? b=some u->h'.get? b=some u):Inv X pins U H { s with heap:=h',toks:=t' }:=by
 have nch:∀ b u,H b=some u->b∉ch:=fun b u e z=>by rw [(hf b z).1] at e;cases e
 refine I.step (g':=s.gens) (d':=s.drawn) (ch:=ch) (fun b hb=>⟨(hf b hb).2.2.2.1,(hf b hb).2.1,(hf b hb).2.2.2.2.1,(hf b hb).2.2.2.2.2⟩) (fun b u _ _ hc e _=>k b u hc e) (fun b u _ _ hc e _=>⟨u.slots,k b u hc e⟩)
  (fun b u _ e n=>n) (fun b u hc e=>⟨u,k b u hc e⟩) (fun b xs e=>e) (fun b u v e=>e) (fun b ps e=>⟨#[],by rw [e];simp⟩) (fun m hm=>?_) (fun b u e=>?_) I.bare
 ·obtain⟨ob,es,ep,ho,r⟩:=hm
  exact⟨ob,es,ep,k _ ob (fun z=>(hf _ z).2.1 rfl) ho,r⟩
 ·refine (I.hok b u e).stay (fun c v hc q=>k c v ?_ q) (fun c q=>q) fun c ys q=>q
  rcases hc with z | z
  ·rw [z];exact nch b u e
  ·exact nch c _ z
end
section
variable {X:Cx}
end
def Ite (K:PySem.W.Frag)(l:Addr):It :=
  ⟨fun i H=>∃ xs x,SqL K H l xs/\xs[i]?=some x,
   fun i H v H'=>∃ p,v=.ref p/\H p=none/\∀ xs x,SqL K H l xs->xs[i]?=some x->H'=upd H p (.tup [.int i,x]),
   fun i H=>∃ xs,SqL K H l xs/\xs.length<=i⟩
theorem zqI {P:Program}{w:World}{K:PySem.W.Frag}{es:List Expr}{kk:Nat}{pos:Pos}{e it l:Addr}(hne:e≠it) :
  Turn P w K (.Tuple es kk pos) (Ite K l) [e,it] e (fun i h=>(∃ old,IsEnum h e it i old)/\h.IsListIter it l i) where
 mem:=by simp
 obj:=fun i h st b hb=>by
  obtain⟨⟨old,he⟩,⟨o1,h1,_,h1d⟩⟩:=st
  simp only [qh,qE,or_false] at hb
  rcases hb with rfl | rfl
  ·exact⟨_,he,fun v q=>by cases (show Data.fields _=Data.cell v from q)⟩
  ·exact⟨_,h1,fun v q=>by rw [h1d] at q;cases q⟩
 keep:=fun i h h' st k=>by
  obtain⟨⟨old,he⟩,h1⟩:=st
  exact⟨⟨old,k e (by simp) _ he⟩,h1.at fun o q=>k it (by simp) o q⟩
 item:=by
  intro X hP hw hK hc i pins s U H E I hf st hg
  subst hP hw hK
  obtain⟨⟨old,he⟩,h1⟩:=st
  obtain⟨xs,x,hx1,hx⟩:=hg
  obtain⟨its,rx,px,zx⟩:=I.list hx1
  obtain⟨u,hu,ru⟩:=Vals.get rx hx
  refine wpAny_pyNext_enum_item he h1 px.isList (by simpa using hu) hne fun h' a1 a2 a3 a4 hk=>?_
  refine⟨_,rfl,wpAny_letOwnedTupleGo_enum (s:={ s with heap:=h',toks:=s.toks+1 }) a1 fun h'' he'' hs''=>?_⟩
  have lt:∀ {c o},s.heap.get? c=some o->s.heap.objs.size≠c:=fun q=>Nat.ne_of_gt (qr q)
  have k2:∀ b u,b∉[e,it]->s.heap.get? b=some u->h''.get? b=some u:=fun b u hb q=>by
   simp only [qh,qE,or_false,not_or] at hb
   exact hs''.extBut b u hb.1 (hk b u hb.1 hb.2 q)
  have new:h''.get? s.heap.objs.size=some { cls:=.type "tuple",data:=.seq #[.int i s.toks,u] }:=hs''.extBut _ _ (lt he) a3
  refine⟨.ref s.heap.objs.size,upd H s.heap.objs.size (.tup [.int i,x]),I.turnNew (t':=s.toks+1) hf k2 (qf _) ⟨by show 2<=sizeLine;decide,[.int i s.toks,u],.cons ⟨_,rfl⟩ (.cons ru .nil),_,new,rfl,_,rfl⟩,rfl,⟨_,rfl,I.fresh,?_⟩,?_,fun b hb=>?_⟩
  ·intro xs' x' hx1' hx'
   cases I.list_inj hx1 hx1'
   rw [hx] at hx'
   cases hx'
   rfl
  ·exact⟨⟨_,he''⟩,a2.extBut hs''.extBut (Ne.symm hne)⟩
  ·have:∃ o,s.heap.get? b=some o:=by
    simp only [qh,qE,or_false] at hb
    obtain⟨o1,e1,_⟩:=h1
    rcases hb with rfl | rfl
    ·exact⟨_,he⟩
    ·exact⟨_,e1⟩
   obtain⟨o,q⟩:=this
   rw [zZ (lt q).symm]
   exact (hf b hb).1
 done:=by
  intro X hP hw hK hc i pins s U H E I hf st hg
  subst hP hw hK
  obtain⟨⟨old,he⟩,h1⟩:=st
  obtain⟨xs,hx1,hl⟩:=hg
  obtain⟨its,rx,px,zx⟩:=I.list hx1
  have n1:=rx.length
  refine wpAny_pyNext_enum_end (I.ok.hd hc) he h1 px.isList (by rw [List.getElem?_toArray];exact qu (by lia)) fun h' hk=>⟨rfl,I.turnedL (t':=s.toks) hf fun b u hb q=>?_⟩
  simp only [qh,qE,or_false,not_or] at hb
  exact hk b u hb.2 q
 self:=fun _ _ _ _ _ st h=>by
  obtain⟨⟨old,he⟩,_⟩:=st
  exact wpAny_pyIter_enum he h
section
variable {X:Cx}
end
def hT (x1 z1 x2 z2 a b:Int):Int:=z1*(x2-x1)*b+(z2-z1)*(a-x1*b)
def hB (x1 x2 b:Int):Int:=(x2-x1)*b
section
variable {U:L2.St}{H:Hp}
end
structure zkF (P:Program)(w:World)(K:PySem.W.Frag)(mg:Str->Option Value)(base:Heap)(k:Nat)(x:Str)(sp:Sp):Prop where
 ex:∃ (C f:Addr) (fd:FuncData) (ps:List Str) (sp0:Sp),Mk K C f/\zW P w K mg base CX0 k f fd ps sp0/\Binds K fd ps []/\mg x=some (.ref C) /\
  ∀ vs H Q,sp vs H Q E0->∀ x dx,H x=none->H dx=none->dx≠x->sp0 (.ref x::vs) (upd (upd H dx (.own x)) x (.ins C dx [])) (fun v H2=>v=.non/\Q (.ref x) H2) E0
theorem zxD {X:Cx}{k j:Nat}{x:Str}{sp:Sp}{p pos:Pos}{e:Expr}{es:List Expr}{t:TA}(G:zkF X.prog X.w X.K X.mg X.base k x sp)(hr:zaM j X.A)(hk:k+1<=j)(hg:Gl X x)
  (ha:PA X (e::es) t) (hdb:(x==("__debug__":Str))=false:=by decide) (he:starEach (e::es) X.env=(false,eval e X.env)::starEach es X.env:=by rfl) (hpl:(backTo pos (starEach es X.env)).any (·.1)=false:=by rfl) :
  PE X (.Call (.Name x p) (e::es) [] pos) (zoP sp [] E0 t):=by
 intro pins s U H Q I h
 obtain⟨C,f,fd,ps,sp0,M,F,b,hm,imp⟩:=G.ex
 refine wpAny_Call_Name_kw (zf9 I hg hm ?_ hdb)
 refine PySem.W.callWith_K (h₀:=X.base) I.ok.mod.kin M.kp (thn (ha pos pins s U H _ I h) fun us s1 ⟨vs,H1,I1,r,q⟩=>⟨I1.kIn,?_⟩) he hpl
 have q':sp (vs++[]) H1 Q E0:=q
 rw [List.append_nil] at q'
 exact zry (dvs:=[]) (ds:=[]) M F (hr.mono hk) b .nil ztd I1 r fun x dx h1 h2 h3=>by rw [List.append_nil];exact imp vs H1 Q q' x dx h1 h2 h3
theorem zt3 {X:Cx}{x:Str}{n:Int}{pos:Pos}(hg:Gl X x)(hm:∃ t,X.mg x=some (.int n t))(hd:(x==("__debug__":Str))=false:=by decide):PE X (.Name x pos) (tC (.int n)):=by
 obtain⟨t,ht⟩:=hm
 exact znW (v:=.int n) hg ht ⟨t,rfl⟩ hd
section
variable {U:L2.St}{H:Hp}{K:PySem.W.Frag}
end
section
variable {X:Cx}{K:PySem.W.Frag}
theorem zwl {pins:List (Addr×Obj)}{U:L2.St}{H:Hp}{s:Shared}{p:Addr}{its:List Value}(_:Inv X pins U H s)(pl:PlainL s.heap p its.toArray) :
  p<s.heap.objs.size/\(s.heap.push { cls:=.type "list_iterator",data:=.fields #[.ref p,.int 0 0] }).IsListIter s.heap.objs.size p 0:=by
 obtain⟨o,ho,_⟩:=pl.isList
 exact⟨qr ho,_,qp _ rfl,rfl,rfl⟩
theorem zvx {H:Hp}{pins:List (Addr×Obj)}{U:L2.St}{s:Shared}{h':Heap}{tk:Nat}(I:Inv X pins U H s){o:Obj}(hk:∀ b u,b∉[s.heap.objs.size]->(s.heap.push o).get? b=some u->h'.get? b=some u) :
  Inv X pins U H { s with heap:=h',toks:=tk }:=I.kept (t':=tk) fun d u e=>hk d u (fun hm=>by
   have h1:d=s.heap.objs.size:=by simpa using hm
   have h2:=qr e
   rw [h1] at h2
   exact Nat.lt_irrefl _ h2) (qd _ e)
def zza (K:PySem.W.Frag):List V->Hp->VK->Prop:=fun xs H Q=>∃ (p:Addr) (bs:List Bool),xs=[.ref p]/\SqL K H p (bs.map V.bl)/\Q (.bl (bs.all id)) H
theorem zsu {bs:List Bool}{its:List Value}(rv:Vals (bs.map V.bl) its){i:Nat}{v:Value}(h:its.toArray[i]?=some v):v=.bool (bs.getD i false):=by
 rw [<- Array.getElem?_toList] at h
 have hi:i<its.length:=by
  rcases qM i its.length with g | g
  ·exact g
  ·rw [qu (by simpa using g)] at h;cases h
 have hl:=rv.length
 rw [qb] at hl
 have e:(bs.map V.bl)[i]?=some (.bl (bs.getD i false)):=by
  rw [qo,qc (by lia)]
  simp [qC,qc (show i<bs.length by lia)]
 obtain⟨u,hu,ru⟩:=rv.get e
 rw [show its.toArray.toList=its from rfl,hu] at h
 cases h
 exact ru
theorem all_range (bs:List Bool):(List.range bs.length).all (fun i=>bs.getD i false)=bs.all id:=by
 rw [Bool.eq_iff_iff,List.all_eq_true,List.all_eq_true]
 constructor
 ·intro h b hb
  obtain⟨i,hi,rfl⟩:=qR.mp hb
  simpa [qC,qc hi] using h i (List.mem_range.mpr hi)
 ·intro h i hi
  rw [List.mem_range] at hi
  have:=h bs[i] (List.getElem_mem hi)
  simpa [qC,qc hi] using this
theorem zp3 (hK:X.K=K)(hc:X.calm=true):zaO X (.builtin "all") (zza K):=fun pins s U H xs us Q I r h=>by
 subst hK
 obtain⟨p,bs,rfl,hS,q⟩:=h
 obtain⟨u,rfl,ru⟩:=vals1 r
 cases ru
 obtain⟨its,rv,pl,hz⟩:=I.list hS
 obtain⟨lt,st⟩:=zwl I pl
 have hl:=rv.length
 rw [qb] at hl
 have W:=Walks.list (prog:=X.prog) (w:=X.w) (A:=X.A.in1) (I.ok.hd hc) s.heap.objs.size p (qK lt) its.toArray
 refine call_all_walk (wpAny_pyIter_list pl.isList ⟨s.heap.objs.size,[s.heap.objs.size,p],[s.heap.objs.size],_,_,_,fun i=>bs.getD i false,rfl,W,⟨st,pl.isList.push _⟩,?_,?_⟩)
 ·intro i v s' Q' E' hv hq
  rw [zsu rv hv]
  exact wpAny_truthy_bool hq
 ·intro h' tk hk
  rw [qm,<- hl,all_range]
  exact⟨.bl _,H,zvx (s:=s) I hk,rfl,q⟩
def zxJ (K:PySem.W.Frag):List V->Hp->VK->Prop:=fun xs H Q=>∃ (p:Addr) (ns:List Int),xs=[.ref p]/\SqL K H p (ns.map V.int)/\0<ns.length/\∀ m:Int,m∈ns->(∀ a∈ns,a<=m)->Q (.int m) H
def zxV (K:PySem.W.Frag):List V->Hp->VK->Prop:=fun xs H Q=>∃ (p:Addr) (ns:List Int),xs=[.ref p]/\SqL K H p (ns.map V.int)/\0<ns.length/\∀ m:Int,m∈ns->(∀ a∈ns,m<=a)->Q (.int m) H
theorem zha:∀ {ns:List Int} {its:List Value},Vals (ns.map V.int) its->∃ xs:Array (Int×Tok),its.toArray=intItems xs/\xs.toList.map (·.1)=ns
 | [],_,h=>by cases h;exact⟨#[],by simp [intItems],rfl⟩
 | n::ns,_,h=>by
  cases h with
  | cons r t =>
   obtain⟨tk,rfl⟩:=r
   obtain⟨xs,e1,e2⟩:=zha t
   refine⟨#[(n,tk)]++xs,?_,?_⟩
   ·apply Array.toList_inj.mp
    have:=congrArg Array.toList e1
    simp [intItems] at this ⊢
    exact this
   ·simp [e2]
theorem zqu (hK:X.K=K)(hc:X.calm=true):zaO X (.builtin "max") (zxJ K):=fun pins s U H xs us Q I r h=>by
 subst hK
 obtain⟨p,ns,rfl,hS,hne,q⟩:=h
 obtain⟨u,rfl,ru⟩:=vals1 r
 cases ru
 obtain⟨its,rv,pl,hz⟩:=I.list hS
 obtain⟨xs,e1,e2⟩:=zha rv
 have hsz:0<xs.size:=by rw [<- qQ,<- qb (f:=(·.1)),e2];exact hne
 refine max_intList (I.ok.hd hc) (e1▸pl.isList) hsz fun v h' tk hv hk=>?_
 obtain⟨t,rfl⟩:=intItems_at hv
 obtain⟨h1,h2⟩:=argBest_gt (numAt xs) (xs.size-1)
 refine⟨.int _,H,I.kept (t':=tk) hk,⟨t,rfl⟩,q _ ?_ fun a ha=>?_⟩
 ·rw [<- e2,numAt_eq];exact getD_mem (by rw [qb,qQ];lia)
 ·rw [<- e2] at ha
  obtain⟨j,hj,rfl⟩:=mem_getD ha
  rw [qb,qQ] at hj
  rw [<- numAt_eq];exact h2 j (by lia)
theorem zql (hK:X.K=K)(hc:X.calm=true):zaO X (.builtin "min") (zxV K):=fun pins s U H xs us Q I r h=>by
 subst hK
 obtain⟨p,ns,rfl,hS,hne,q⟩:=h
 obtain⟨u,rfl,ru⟩:=vals1 r
 cases ru
 obtain⟨its,rv,pl,hz⟩:=I.list hS
 obtain⟨xs,e1,e2⟩:=zha rv
 have hsz:0<xs.size:=by rw [<- qQ,<- qb (f:=(·.1)),e2];exact hne
 refine min_intList (I.ok.hd hc) (e1▸pl.isList) hsz fun v h' tk hv hk=>?_
 obtain⟨t,rfl⟩:=intItems_at hv
 obtain⟨h1,h2⟩:=argBest_lt (numAt xs) (xs.size-1)
 refine⟨.int _,H,I.kept (t':=tk) hk,⟨t,rfl⟩,q _ ?_ fun a ha=>?_⟩
 ·rw [<- e2,numAt_eq];exact getD_mem (by rw [qb,qQ];lia)
 ·rw [<- e2] at ha
  obtain⟨j,hj,rfl⟩:=mem_getD ha
  rw [qb,qQ] at hj
  rw [<- numAt_eq];exact h2 j (by lia)
def zye (K:PySem.W.Frag):List V->Hp->VK->Prop:=fun xs H Q=>∃ p ys,xs=[.ref p]/\((SqL K H p ys/\∀ l,H l=none->Q (.ref l) (upd H l (.tup ys)))\/(SqT K H p ys/\Q (.ref p) H))
theorem zqG (hK:X.K=K):zaO X (.type "tuple") (zye K):=hK▸zlv
end
section
variable {X:Cx}{K:PySem.W.Frag}
def zx8 (K:PySem.W.Frag):R2:=fun x y H Q=>∃ l b xs zs,x=.ref l/\y=.ref b/\SqL K H l xs/\SqL K H b zs/\xs.length+zs.length<=sizeLine/\∀ p,H p=none->Q (.ref p) (upd H p (.lst (xs++zs)))
theorem zuF (hK:X.K=K):OpR X (binaryOp .Add) (zx8 K):=by
 subst hK
 intro pins s U H x y v u Q I rx ry h
 obtain⟨l,b,xs,zs,rfl,rfl,hH,hB,hz,q⟩:=h
 cases rx
 cases ry
 obtain⟨its,r,pl,_⟩:=I.list hH
 obtain⟨its2,r2,pl2,_⟩:=I.list hB
 obtain⟨⟨cls,dd,data,sl⟩,ho,hc,n,hd⟩:=pl.isList
 obtain⟨⟨cls2,dd2,data2,sl2⟩,ho2,hc2,n2,hd2⟩:=pl2.isList
 simp only at hc hd hc2 hd2
 subst hc hd hc2 hd2
 have e1:=r.length
 have e2:=r2.length
 refine concat_meets ⟨_,ho,rfl⟩ ⟨_,ho2,rfl⟩ noFill_list_add seq_list_add PySem.F.slot_list_add PySem.F.entry_list_add (PySem.F.args_list_add_2 _ _) (list_addW l b its.toArray its2.toArray n n2 dd dd2 sl sl2 (by rw [qm,qm];lia)) ⟨ho,ho2,?_⟩
 have ea:its.toArray++its2.toArray=(its++its2).toArray:=by simp
 rw [ea]
 exact⟨.ref _,_,I.lnew (t':=s.toks) (r.append r2) (by rw [qg];lia),rfl,q _ I.fresh⟩
end
section
variable {U:L2.St}{K:PySem.W.Frag}{own:List Str}{fv:List Nat}{g:TG}{tc:TT}{te:TE}{R:Hp->Prop}{H1:Hp}{p a:Addr}{xs:List V}
end
def zfM (H:Hp)(ps:List Addr)(cs:List (Int×Int)):Prop:=Paired (fun (p:Addr) (c:Int×Int)=>H p=some (.tup [.int c.1,.int c.2])) ps cs
theorem zfM.length {H:Hp}{ps:List Addr}{cs:List (Int×Int)}(h:zfM H ps cs):ps.length=cs.length:=Paired.length h
theorem za1 {α:Type}{xs:List α}{i:Nat}{x:α}(h:xs[i]?=some x):i<xs.length:=by
 rcases qM i xs.length with g | g
 ·exact g
 ·rw [qu g] at h;cases h
open PySem PySem.W PyProof.Rows
def zai {α:Type}(lt:Nat->Nat->Bool):KasT α->α
 | .ret a=>a
 | .ask i j k=>zai lt (k (lt i j))
theorem zdO {α β:Type}(lt:Nat->Nat->Bool)(f:α->KasT β):∀ t:KasT α,zai lt (t.bind f)=zai lt (f (zai lt t))
 | .ret _=>rfl
 | .ask i j k=>zdO lt f (k (lt i j))
structure Swo (lt:Nat->Nat->Bool):Prop where
 asymm:∀ a b,lt a b=true->lt b a=false
 ntrans:∀ a b c,lt b a=false->lt c b=false->lt c a=false
section
variable {lt:Nat->Nat->Bool}
abbrev ga (p:Array Nat)(i:Nat):Nat:=p.getD i 0
theorem zhY (p:Array Nat)(i:Nat):ga p i=(p[i]?).getD 0:=by simp [ga,Array.getD_eq_getD_getElem?]
theorem zqp {p:Array Nat}{src d:Nat}(hs:src<p.size)(hd:d<=src)(k:Nat):ga (bubble p src d) k=if k=src-d then ga p src else if src-d<k/\k<=src then ga p (k-1) else ga p k:=by
 rw [zhY,getElem?_bubble hs d hd]
 by_cases h1:k=src-d
 ·rw [if_pos h1,if_pos h1,zhY]
 ·rw [if_neg h1,if_neg h1]
  by_cases h2:src-d<k/\k<=src
  ·rw [if_pos h2,if_pos h2,zhY]
  ·rw [if_neg h2,if_neg h2,zhY]
theorem zdu {p:Array Nat}{i j:Nat}(hj:j<=p.size)(k:Nat):ga (kas_rev p i j) k=if i<=k/\k<j then ga p (i+j-1-k) else ga p k:=by
  unfold kas_rev
  rw [zhY,getElem?_mirror_all hj]
  split<;>rw [zhY]
def Asc (lt:Nat->Nat->Bool)(p:Array Nat)(n:Nat):Prop:=∀ i j,i<=j->j<n->lt (ga p j) (ga p i)=false
def Dsc (lt:Nat->Nat->Bool)(p:Array Nat)(n:Nat):Prop:=∀ i j,i<=j->j<n->lt (ga p i) (ga p j)=false
def Eqs (lt:Nat->Nat->Bool)(p:Array Nat)(a b:Nat):Prop:=∀ i j,a<=i->i<b->a<=j->j<b->lt (ga p i) (ga p j)=false
theorem irr (S:Swo lt)(a:Nat):lt a a=false:=by
 cases h:lt a a with
 | false=>rfl
 | true=>have:=S.asymm a a h;rw [h] at this;exact this
theorem Asc.snoc (S:Swo lt){p:Array Nat}{n:Nat}(h1:1<=n)(h:Asc lt p n)(hn:lt (ga p n) (ga p (n-1))=false):Asc lt p (n+1):=by
 intro i j hij hj
 rcases qM j n with g | g
 ·exact h i j hij g
 ·have e:j=n:=by lia
  subst e
  rcases qM i j with g' | g'
  ·exact S.ntrans (ga p i) (ga p (j-1)) (ga p j) (h i (j-1) (by lia) (by lia)) hn
  ·have:i=j:=by lia
   subst this
   exact irr S _
theorem Dsc.snoc (S:Swo lt){p:Array Nat}{n:Nat}(h1:1<=n)(h:Dsc lt p n)(hn:lt (ga p (n-1)) (ga p n)=false):Dsc lt p (n+1):=by
 intro i j hij hj
 rcases qM j n with g | g
 ·exact h i j hij g
 ·have e:j=n:=by lia
  subst e
  rcases qM i j with g' | g'
  ·exact S.ntrans (ga p j) (ga p (j-1)) (ga p i) hn (h i (j-1) (by lia) (by lia))
  ·have:i=j:=by lia
   subst this
   exact irr S _
theorem Dsc.rev {p:Array Nat}{n:Nat}(hn:n<=p.size)(h:Dsc lt p n):Asc lt (kas_rev p 0 n) n:=by
 intro i j hij hj
 rw [zdu hn,zdu hn,if_pos ⟨by lia,hj⟩,if_pos ⟨by lia,by lia⟩]
 exact h _ _ (by lia) (by lia)
theorem Asc.rev {p:Array Nat}{n:Nat}(hn:n<=p.size)(h:Asc lt p n):Dsc lt (kas_rev p 0 n) n:=by
 intro i j hij hj
 rw [zdu hn,zdu hn,if_pos ⟨by lia,by lia⟩,if_pos ⟨by lia,by lia⟩]
 exact h _ _ (by lia) (by lia)
theorem Dsc.turn (S:Swo lt){p:Array Nat}{n a:Nat}(hn:n<=p.size)(ha:a<=n)(h:Dsc lt p n)(he:Eqs lt p a n):Dsc lt (kas_rev p a n) n:=by
 intro i j hij hj
 rw [zdu hn,zdu hn]
 by_cases hi:a<=i
 ·rw [if_pos ⟨hi,by lia⟩,if_pos ⟨by lia,hj⟩]
  exact he _ _ (by lia) (by lia) (by lia) (by lia)
 ·rw [if_neg (by lia)]
  by_cases hj':a<=j
  ·rw [if_pos ⟨hj',hj⟩]
   exact h _ _ (by lia) (by lia)
  ·rw [if_neg (by lia)]
   exact h _ _ hij hj
theorem zdG {p:Array Nat}{i j:Nat}:(kas_rev p i j).size=p.size:=mirror_size _ _ _ _
theorem zcB {p:Array Nat}{i j:Nat}:(kas_rev p i j).Perm p:=mirror_perm _ _ _ _
theorem zl8 (S:Swo lt)(p:Array Nat):∀ f n,1<=n->Asc lt p n->Asc lt p (zai lt (kas_asc p f n))/\n<=zai lt (kas_asc p f n)/\zai lt (kas_asc p f n)<=n+f/\(zai lt (kas_asc p f n)<n+f->lt (ga p (zai lt (kas_asc p f n))) (ga p (zai lt (kas_asc p f n)-1))=true)
 | 0,n,_,h=>⟨h,qf _,qf _,fun z=>absurd z (Nat.lt_irrefl _)⟩
 | f+1,n,h1,h=>by
  cases hc:lt (ga p n) (ga p (n-1)) with
  | true =>
   have e:zai lt (kas_asc p (f+1) n)=n:=by
    show zai lt (if lt (ga p n) (ga p (n-1))=true then KasT.ret n else kas_asc p f (n+1))=n
    rw [if_pos hc];rfl
   rw [e]
   exact⟨h,qf _,by lia,fun _=>hc⟩
  | false =>
   have e:zai lt (kas_asc p (f+1) n)=zai lt (kas_asc p f (n+1)):=by
    show zai lt (if lt (ga p n) (ga p (n-1))=true then KasT.ret n else kas_asc p f (n+1))=_
    rw [if_neg (by rw [hc];exact qq)]
   rw [e]
   obtain⟨a1,a2,a3,a4⟩:=zl8 S p f (n+1) (by lia) (h.snoc S h1 hc)
   exact⟨a1,by lia,by lia,fun z=>a4 (by lia)⟩
theorem zio (S:Swo lt):∀ f (p:Array Nat) n q,1<=n->n+f<=p.size->q+1<=n->Dsc lt p n->Eqs lt p (n-(q+1)) n ->
    let r:=zai lt (kas_desc f p n q)
    r.1.size=p.size/\r.1.Perm p/\n<=r.2.1/\r.2.1<=n+f/\r.2.2+1<=r.2.1/\Dsc lt r.1 r.2.1/\Eqs lt r.1 (r.2.1-(r.2.2+1)) r.2.1
  | 0,p,n,q,h1,hz,hq,h,he=>⟨rfl,Array.Perm.refl _,qf _,qf _,hq,h,he⟩
  | f+1,p,n,q,h1,hz,hq,h,he=>by
    have one:∀ p':Array Nat,Eqs lt p' (n+1-(0+1)) (n+1):=fun p' i j a b c d=>by
      have e1:i=n:=by lia
      have e2:j=n:=by lia
      subst e1;subst e2
      exact irr S _
    cases hc:lt (ga p n) (ga p (n-1)) with
    | true =>
      have hn:lt (ga p (n-1)) (ga p n)=false:=S.asymm _ _ hc
      by_cases hq0:q > 0
      . have e : zai lt (kas_desc (f + 1) p n q) = zai lt (kas_desc f (kas_rev p (n - (q + 1)) n) (n + 1) 0) := by
          show zai lt (if lt (ga p n) (ga p (n-1))=true then (if q > 0 then kas_desc f (kas_rev p (n-(q+1)) n) (n+1) 0 else kas_desc f p (n+1) 0) else _)=_
          rw [if_pos hc,if_pos hq0]
        have ht:=h.turn S (a:=n-(q+1)) (by lia) (by lia) he
        have k1:ga (kas_rev p (n-(q+1)) n) n=ga p n:=by rw [zdu (by lia),if_neg (by lia)]
        have k2:ga (kas_rev p (n-(q+1)) n) (n-1)=ga p (n-(q+1)):=by
          rw [zdu (by lia),if_pos ⟨by lia,by lia⟩]
          congr 1;lia
        have hs:=Dsc.snoc S (p:=kas_rev p (n-(q+1)) n) h1 ht (by
          rw [k1,k2]
          exact S.ntrans (ga p n) (ga p (n-1)) (ga p (n-(q+1))) hn (he _ _ (by lia) (by lia) (by lia) (by lia)))
        have ih:=zio S f (kas_rev p (n-(q+1)) n) (n+1) 0 (by lia) (by rw [zdG];lia) (by lia) hs (one _)
        rw [e]
        obtain⟨a1,a2,a3,a4,a5,a6,a7⟩:=ih
        exact⟨a1.trans zdG,a2.trans zcB,by lia,by lia,a5,a6,a7⟩
      . have e : zai lt (kas_desc (f + 1) p n q) = zai lt (kas_desc f p (n + 1) 0) := by
          show zai lt (if lt (ga p n) (ga p (n-1))=true then (if q > 0 then kas_desc f (kas_rev p (n-(q+1)) n) (n+1) 0 else kas_desc f p (n+1) 0) else _)=_
          rw [if_pos hc,if_neg hq0]
        have ih:=zio S f p (n+1) 0 (by lia) (by lia) (by lia) (h.snoc S h1 hn) (one _)
        rw [e]
        obtain⟨a1,a2,a3,a4,a5,a6,a7⟩:=ih
        exact⟨a1,a2,by lia,by lia,a5,a6,a7⟩
    | false =>
      cases hd:lt (ga p (n-1)) (ga p n) with
      | true =>
        have e:zai lt (kas_desc (f+1) p n q)=(p,n,q):=by
          show zai lt (if lt (ga p n) (ga p (n-1))=true then _ else KasT.ask (ga p (n-1)) (ga p n) fun d=>if d=true then .ret (p,n,q) else kas_desc f p (n+1) (q+1))=_
          rw [if_neg (by rw [hc];exact qq)]
          show zai lt (if lt (ga p (n-1)) (ga p n)=true then _ else _)=_
          rw [if_pos hd];rfl
        rw [e]
        exact⟨rfl,Array.Perm.refl _,qf _,by show n<=_;lia,hq,h,he⟩
      | false =>
        have e:zai lt (kas_desc (f+1) p n q)=zai lt (kas_desc f p (n+1) (q+1)):=by
          show zai lt (if lt (ga p n) (ga p (n-1))=true then _ else KasT.ask (ga p (n-1)) (ga p n) fun d=>if d=true then .ret (p,n,q) else kas_desc f p (n+1) (q+1))=_
          rw [if_neg (by rw [hc];exact qq)]
          show zai lt (if lt (ga p (n-1)) (ga p n)=true then _ else _)=_
          rw [if_neg (by rw [hd];exact qq)]
        have heq:Eqs lt p (n+1-(q+1+1)) (n+1):=by
          intro i j a b c d
          rcases qM i n with gi | gi<;>rcases qM j n with gj | gj
          . exact he i j (by lia) gi (by lia) gj
          . have:j=n:=by lia
            subst this
            exact S.ntrans (ga p j) (ga p (j-1)) (ga p i) hd (he i (j-1) (by lia) gi (by lia) (by lia))
          . have:i=n:=by lia
            subst this
            exact S.ntrans (ga p j) (ga p (i-1)) (ga p i) (he (i-1) j (by lia) (by lia) (by lia) gj) hc
          . have e1:i=n:=by lia
            have e2:j=n:=by lia
            subst e1;subst e2
            exact irr S _
        have ih:=zio S f p (n+1) (q+1) (by lia) (by lia) (by lia) (h.snoc S h1 hd) heq
        rw [e]
        obtain⟨a1,a2,a3,a4,a5,a6,a7⟩:=ih
        exact⟨a1,a2,by lia,by lia,a5,a6,a7⟩
def zix (lt:Nat->Nat->Bool)(p:Array Nat)(nrem:Nat)(r:Nat×Array Nat):Prop:=r.2.size=p.size/\r.2.Perm p/\1<=r.1/\r.1<=nrem/\Asc lt r.2 r.1
theorem zoh (S:Swo lt){p:Array Nat}{n nrem:Nat}(h1:1<=n)(hn:n<=nrem)(hz:nrem<=p.size)(h:Dsc lt p n):zix lt p nrem (zai lt (kas_tail3 n nrem p)):=by
 have e:zai lt (kas_tail3 n nrem p)=(zai lt (kas_asc (kas_rev p 0 n) (nrem-n) n),kas_rev p 0 n):=by
  unfold kas_tail3;rw [zdO];rfl
 rw [e]
 obtain⟨a1,a2,a3,_⟩:=zl8 S (kas_rev p 0 n) (nrem-n) n h1 (h.rev (by lia))
 exact⟨zdG,zcB,by show 1<=zai lt _;lia,by show zai lt _<=nrem;lia,a1⟩
theorem ziN (S:Swo lt){p:Array Nat}{n nrem:Nat}(h1:1<=n)(hn:n+1<=nrem)(hz:nrem<=p.size)(h:Dsc lt p (n+1)):zix lt p nrem (zai lt (kas_descPart n nrem p)):=by
 unfold kas_descPart
 rw [zdO]
 have d:=zio S (nrem-(n+1)) p (n+1) 0 (by lia) (by lia) (by lia) h (fun i j a b c d=>by
  have e1:i=n:=by lia
  have e2:j=n:=by lia
  subst e1;subst e2
  exact irr S _)
 dsimp only at d
 generalize zai lt (kas_desc (nrem-(n+1)) p (n+1) 0)=r at d ⊢
 obtain⟨a1,a2,a3,a4,a5,a6,a7⟩:=d
 by_cases hq:r.2.2 > 0
 ·rw [if_pos hq]
  obtain⟨b1,b2,b3,b4,b5⟩:=zoh S (p:=kas_rev r.1 (r.2.1-(r.2.2+1)) r.2.1) (n:=r.2.1) (nrem:=nrem) (by lia) (by lia) (by rw [zdG];lia) (a6.turn S (by lia) (by lia) a7)
  exact⟨b1.trans (zdG.trans a1),b2.trans (zcB.trans a2),b3,b4,b5⟩
 ·rw [if_neg hq]
  obtain⟨b1,b2,b3,b4,b5⟩:=zoh S (p:=r.1) (n:=r.2.1) (nrem:=nrem) (by lia) (by lia) (by lia) a6
  exact⟨b1.trans a1,b2.trans a2,b3,b4,b5⟩
theorem zsy (S:Swo lt){p:Array Nat}{nrem:Nat}(h1:1<=nrem)(hz:nrem<=p.size):zix lt p nrem (zai lt (kas_count nrem p)):=by
 unfold kas_count
 rw [zdO]
 have h0:Asc lt p 1:=fun i j a b=>by
  have e1:i=0:=by lia
  have e2:j=0:=by lia
  subst e1;subst e2
  exact irr S _
 obtain⟨a1,a2,a3,a4⟩:=zl8 S p (nrem-1) 1 (qf _) h0
 generalize zai lt (kas_asc p (nrem-1) 1)=n at a1 a2 a3 a4 ⊢
 by_cases hn:(n==nrem)=true
 ·rw [if_pos hn]
  have:n=nrem:=by simpa using hn
  exact⟨rfl,Array.Perm.refl _,a2,by show n<=nrem;lia,a1⟩
 ·rw [if_neg hn]
  have hne:n≠nrem:=by simpa using hn
  have hlt:=a4 (by lia)
  by_cases hn1:n > 1
  ·rw [if_pos hn1]
   show zix lt p nrem (zai lt (if lt (ga p 0) (ga p (n-1))=true then KasT.ret (n,p) else kas_descPart n nrem (kas_rev p 0 n)))
   cases hc:lt (ga p 0) (ga p (n-1)) with
   | true=>rw [if_pos rfl];exact⟨rfl,Array.Perm.refl _,a2,by show n<=nrem;lia,a1⟩
   | false =>
    rw [if_neg qq]
    have hd:=a1.rev (n:=n) (by lia)
    have hs:=Dsc.snoc S (p:=kas_rev p 0 n) a2 hd (by
     have k1:ga (kas_rev p 0 n) n=ga p n:=by rw [zdu (by lia),if_neg (by lia)]
     have k2:ga (kas_rev p 0 n) (n-1)=ga p 0:=by rw [zdu (by lia),if_pos ⟨by lia,by lia⟩];congr 1;lia
     rw [k1,k2]
     exact S.ntrans (ga p n) (ga p (n-1)) (ga p 0) (S.asymm _ _ hlt) hc)
    obtain⟨b1,b2,b3,b4,b5⟩:=ziN S (p:=kas_rev p 0 n) (n:=n) (nrem:=nrem) a2 (by lia) (by rw [zdG];lia) hs
    exact⟨b1.trans zdG,b2.trans zcB,b3,b4,b5⟩
  ·rw [if_neg hn1]
   have e:n=1:=by lia
   subst e
   exact ziN S (qf _) (by lia) hz (Dsc.snoc S (qf _) (fun i j a b=>by
    have e1:i=0:=by lia
    have e2:j=0:=by lia
    subst e1;subst e2
    exact irr S _) (S.asymm _ _ hlt))
theorem zjf (S:Swo lt){p:Array Nat}{k:Nat}(h:Asc lt p k):∀ f l r,l<=r->r<=k->r-l<=f->(∀ i,i<l->lt (ga p k) (ga p i)=false)->(∀ i,r<=i->i<k->lt (ga p k) (ga p i)=true) ->
  let m:=zai lt (kas_place p k f l r)
  m<=k/\(∀ i,i<m->lt (ga p k) (ga p i)=false)/\(∀ i,m<=i->i<k->lt (ga p k) (ga p i)=true)
 | 0,l,r,h1,h2,h3,hl,hr=>by
  have:l=r:=by lia
  subst this
  exact⟨h2,hl,hr⟩
 | f+1,l,r,h1,h2,h3,hl,hr=>by
  by_cases hlr:l ≥ r
  ·have e:zai lt (kas_place p k (f+1) l r)=l:=by
    unfold kas_place;rw [if_pos hlr];rfl
   rw [e]
   have:l=r:=by lia
   subst this
   exact⟨h2,hl,hr⟩
  ·have e:zai lt (kas_place p k (f+1) l r)=zai lt (if lt (ga p k) (ga p ((l+r)/2))=true then kas_place p k f l ((l+r)/2) else kas_place p k f ((l+r)/2+1) r):=by
    conv=>lhs;unfold kas_place
    rw [if_neg hlr];rfl
   rw [e]
   cases hc:lt (ga p k) (ga p ((l+r)/2)) with
   | true =>
    rw [if_pos rfl]
    refine zjf S h f l ((l+r)/2) (by lia) (by lia) (by lia) hl fun i hi hik=>?_
    cases hx:lt (ga p k) (ga p i) with
    | true=>rfl
    | false =>
     have:=S.ntrans (ga p ((l+r)/2)) (ga p i) (ga p k) (h _ _ hi hik) hx
     rw [hc] at this;exact this.symm
   | false =>
    rw [if_neg qq]
    refine zjf S h f ((l+r)/2+1) r (by lia) h2 (by lia) (fun i hi=>?_) hr
    exact S.ntrans (ga p i) (ga p ((l+r)/2)) (ga p k) (h _ _ (by lia) (by lia)) hc
theorem zqZ (S:Swo lt):∀ f (p:Array Nat) k,k+f<=p.size->Asc lt p k->let r:=zai lt (kas_bin f p k);r.size=p.size/\r.Perm p/\Asc lt r (k+f)
 | 0,p,k,_,h=>⟨rfl,Array.Perm.refl _,h⟩
 | f+1,p,k,hz,h=>by
  have e:zai lt (kas_bin (f+1) p k)=zai lt (kas_bin f (bubble p k (k-zai lt (kas_place p k k 0 k))) (k+1)):=by
   show zai lt ((kas_place p k k 0 k).bind fun l=>kas_bin f (bubble p k (k-l)) (k+1))=_
   rw [zdO]
  rw [e]
  obtain⟨m1,m2,m3⟩:=zjf S h k 0 k (qN _) (qf _) (by lia) (fun i hi=>absurd hi (by lia)) (fun i hi hik=>absurd hi (by lia))
  generalize zai lt (kas_place p k k 0 k)=m at m1 m2 m3 ⊢
  have hb:∀ i,ga (bubble p k (k-m)) i=if i=m then ga p k else if m<i/\i<=k then ga p (i-1) else ga p i:=fun i=>by
   rw [zqp (by lia) (by lia),show k-(k-m)=m by lia]
  have hs:Asc lt (bubble p k (k-m)) (k+1):=by
   intro i j hij hj
   rw [hb,hb]
   by_cases hi:i=m
   ·rw [if_pos hi]
    by_cases hjm:j=m
    ·rw [if_pos hjm];exact irr S _
    ·rw [if_neg hjm,if_pos ⟨by lia,by lia⟩]
     exact S.asymm _ _ (m3 (j-1) (by lia) (by lia))
   ·rw [if_neg hi]
    by_cases hjm:j=m
    ·rw [if_pos hjm,if_neg (by lia)]
     exact m2 i (by lia)
    ·rw [if_neg hjm]
     by_cases hi2:m<i
     ·rw [if_pos (show m<i/\i<=k from ⟨hi2,by lia⟩),if_pos (show m<j/\j<=k from ⟨by lia,by lia⟩)]
      exact h _ _ (by lia) (by lia)
     ·rw [if_neg (show ¬ (m<i/\i<=k) by lia)]
      by_cases hj2:m<j
      ·rw [if_pos (show m<j/\j<=k from ⟨hj2,by lia⟩)]
       exact h _ _ (by lia) (by lia)
      ·rw [if_neg (show ¬ (m<j/\j<=k) by lia)]
       exact h _ _ hij (by lia)
  obtain⟨a1,a2,a3⟩:=zqZ S f (bubble p k (k-m)) (k+1) (by rw [bubble_size];lia) hs
  exact⟨a1.trans (bubble_size _ _ _),a2.trans (bubble_perm _ _ _),by rw [show k+(f+1)=k+1+f by lia];exact a3⟩
theorem zuN (S:Swo lt){n:Nat}(h1:1<=n):(zai lt (kas_sort n)).size=n/\(zai lt (kas_sort n)).Perm (List.toArray (List.range n))/\Asc lt (zai lt (kas_sort n)) n:=by
 unfold kas_sort
 rw [zdO]
 obtain⟨a1,a2,a3,a4,a5⟩:=zsy S (p:=List.toArray (List.range n)) (nrem:=n) h1 (by simp)
 generalize zai lt (kas_count n (List.toArray (List.range n)))=r at a1 a2 a3 a4 a5 ⊢
 have hsz:(List.toArray (List.range n)).size=n:=by simp
 by_cases hr:r.1<n
 ·rw [if_pos hr]
  have em:max r.1 1=r.1:=by lia
  rw [em]
  obtain⟨b1,b2,b3⟩:=zqZ S (n-r.1) r.2 r.1 (by lia) a5
  exact⟨b1.trans (a1.trans hsz),b2.trans a2,by rw [show r.1+(n-r.1)=n by lia] at b3;exact b3⟩
 ·rw [if_neg hr]
  have e:r.1=n:=by lia
  rw [e] at a5
  exact⟨a1.trans hsz,a2,a5⟩
def KIn {α:Type}(n:Nat)(post:α->Prop):KasT α->Prop
 | .ret a=>post a
 | .ask i j k=>i<n/\j<n/\∀ b,KIn n post (k b)
theorem KIn.bind {α β:Type}{n:Nat}{post:α->Prop}{post':β->Prop}{f:α->KasT β}(hf:∀ a,post a->KIn n post' (f a)):∀ (t:KasT α),KIn n post t->KIn n post' (t.bind f)
 | .ret a,h=>hf a h
 | .ask i j k,h=>⟨h.1,h.2.1,fun b=>KIn.bind hf (k b) (h.2.2 b)⟩
def Ent (n:Nat)(p:Array Nat):Prop:=∀ x∈p.toList,x<n
theorem Ent.at {n:Nat}{p:Array Nat}(h0:0<n)(h:Ent n p)(i:Nat):ga p i<n:=by
 rw [zhY]
 cases e:p[i]? with
 | none=>exact h0
 | some x =>
  rw [<- Array.getElem?_toList] at e
  exact h x (qe e)
theorem Ent.perm {n:Nat}{p r:Array Nat}(hp:r.Perm p)(h:Ent n p):Ent n r:=fun x hx=>h x ((Array.perm_iff_toList_perm.mp hp).mem_iff.mp hx)
theorem zmu {n:Nat}{p:Array Nat}(h0:0<n)(h:Ent n p):∀ f k,KIn n (fun _=>True) (kas_asc p f k)
 | 0,_=>trivial
 | f+1,k=>⟨h.at h0 _,h.at h0 _,fun b=>by
  cases b with
  | true=>exact trivial
  | false=>exact zmu h0 h f (k+1)⟩
theorem zh9 {n:Nat}(h0:0<n):∀ f (p:Array Nat) k q,Ent n p->KIn n (fun r=>Ent n r.1) (kas_desc f p k q)
 | 0,p,k,q,h=>h
 | f+1,p,k,q,h=>⟨h.at h0 _,h.at h0 _,fun b=>by
  cases b with
  | true =>
   show KIn n _ (if q > 0 then _ else _)
   by_cases hq:q > 0
   ·rw [if_pos hq];exact zh9 h0 f _ _ _ (h.perm zcB)
   ·rw [if_neg hq];exact zh9 h0 f _ _ _ h
  | false=>exact⟨h.at h0 _,h.at h0 _,fun d=>by
    cases d with
    | true=>exact h
    | false=>exact zh9 h0 f _ _ _ h⟩⟩
theorem znM {n k m:Nat}{p:Array Nat}(h0:0<n)(h:Ent n p):KIn n (fun r=>Ent n r.2) (kas_tail3 k m p):=by
 refine KIn.bind (post:=fun _=>True) (fun r _=>?_) _ (zmu h0 (h.perm zcB) _ _)
 exact h.perm zcB
theorem ziT {n k m:Nat}{p:Array Nat}(h0:0<n)(h:Ent n p):KIn n (fun r=>Ent n r.2) (kas_descPart k m p):=by
 refine KIn.bind (post:=fun r=>Ent n r.1) (fun r hr=>?_) _ (zh9 h0 _ _ _ _ h)
 by_cases hq:r.2.2 > 0
 ·rw [if_pos hq];exact znM h0 (hr.perm zcB)
 ·rw [if_neg hq];exact znM h0 hr
theorem zrD {n m:Nat}{p:Array Nat}(h0:0<n)(h:Ent n p):KIn n (fun r=>Ent n r.2) (kas_count m p):=by
 refine KIn.bind (post:=fun _=>True) (fun k _=>?_) _ (zmu h0 h _ _)
 by_cases hk:(k==m)=true
 ·rw [if_pos hk];exact h
 ·rw [if_neg hk]
  by_cases h1:k > 1
  ·rw [if_pos h1]
   refine⟨h.at h0 _,h.at h0 _,fun c=>?_⟩
   cases c with
   | true=>exact h
   | false=>exact ziT h0 (h.perm zcB)
  ·rw [if_neg h1];exact ziT h0 h
theorem zi6 {n:Nat}{p:Array Nat}{k:Nat}(h0:0<n)(h:Ent n p):∀ f l r,KIn n (fun _=>True) (kas_place p k f l r)
 | 0,_,_=>trivial
 | f+1,l,r=>by
  unfold kas_place
  by_cases hl:l ≥ r
  ·rw [if_pos hl];exact trivial
  ·rw [if_neg hl]
   refine⟨h.at h0 _,h.at h0 _,fun c=>?_⟩
   cases c with
   | true=>exact zi6 h0 h f _ _
   | false=>exact zi6 h0 h f _ _
theorem zpI {n:Nat}(h0:0<n):∀ f (p:Array Nat) k,Ent n p->KIn n (fun r=>Ent n r) (kas_bin f p k)
 | 0,p,k,h=>h
 | f+1,p,k,h=>KIn.bind (post:=fun _=>True) (fun l _=>zpI h0 f _ _ (h.perm (bubble_perm _ _ _))) _ (zi6 h0 h _ _ _)
theorem zuc {n:Nat}(h0:0<n):KIn n (fun _=>True) (kas_sort n):=by
 refine KIn.bind (post:=fun r=>Ent n r.2) (fun r hr=>?_) _ (zrD h0 (p:=List.toArray (List.range n)) (fun x hx=>by simpa using hx))
 by_cases h:r.1<n
 ·rw [if_pos h]
  have hb:=zpI h0 (n-max r.1 1) r.2 (max r.1 1) hr
  clear h
  generalize kas_bin (n-max r.1 1) r.2 (max r.1 1)=t at hb
  induction t with
  | ret a=>exact trivial
  | ask i j k ih=>exact⟨hb.1,hb.2.1,fun b=>ih b (hb.2.2 b)⟩
 ·rw [if_neg h];exact trivial
end
open PySem PySem.Spec PySem.W PyProof.Rows L2
def plt (a b:Int×Int):Bool:=if a.1=b.1 then decide (a.2<b.2) else decide (a.1<b.1)
theorem znS (cs:List (Int×Int)):Swo fun i j=>plt (cs.getD i (0,0)) (cs.getD j (0,0)) where
  asymm:=fun a b h=>by
    unfold plt at h ⊢
    generalize cs.getD a (0,0)=A at *
    generalize cs.getD b (0,0)=B at *
    split at h<;>split<;>simp at h ⊢<;>lia
  ntrans:=fun a b c h1 h2=>by
    unfold plt at h1 h2 ⊢
    generalize cs.getD a (0,0)=A at *
    generalize cs.getD b (0,0)=B at *
    generalize cs.getD c (0,0)=C at *
    split at h1<;>split at h2<;>split<;>simp at h1 h2 ⊢<;>lia
def PrV (h:Heap)(v:Value)(c:Int×Int):Prop:=∃ (a:Addr) (o:Obj) (n:Nat) (t u:Tok),v=.ref a/\h.get? a=some o/\o.cls=.type "tuple"/\o.data=.seq #[.int c.1 t,.int c.2 u] n
theorem kwp {α:Type}{cmp:Nat->Nat->(Bool->Shared->Prop)->Shared->Prop}{lt:Nat->Nat->Bool}{n:Nat}{s:Shared}(hc:∀ i j C,i<n->j<n->C (lt i j) s->cmp i j C s){post:α->Prop}(Q:α->Shared->Prop) :
  ∀ t:KasT α,KIn n post t->Q (zai lt t) s->t.kasWp cmp Q s
 | .ret _,_,q=>q
 | .ask i j k,h,q=>hc i j _ h.1 h.2.1 (kwp hc Q (k (lt i j)) (h.2.2 _) q)
section
variable {prog:Program}{w:World}{A:Around}{E:Value->Shared->Prop}{s:Shared}
theorem zrX {v v':Value}{c d:Int×Int}{Q:Bool->Shared->Prop}(h1:PrV s.heap v c)(h2:PrV s.heap v' d)(q:Q (plt c d) s):wpAny (model prog w) A (keyLt' (tuples' true) v v') Q E s:=by
 obtain⟨a,o,n,t,u,rfl,ho,_,hd⟩:=h1
 obtain⟨a',o',n',t',u',rfl,ho',_,hd'⟩:=h2
 refine kat_lt ho hd ho' hd' ?_
 show KatLex prog w A true _ Q [(.int c.1 t,.int d.1 t'),(.int c.2 u,.int d.2 u')] 0 s
 refine kat_cons (wpAny_eqBool_int ?_)
 by_cases e:c.1=d.1
 ·rw [show (c.1==d.1)=true by simpa using e]
  refine kat_yes (kat_cons (wpAny_eqBool_int ?_))
  by_cases e2:c.2=d.2
  ·rw [show (c.2==d.2)=true by simpa using e2]
   refine kat_yes (kat_nil ?_)
   have:plt c d=false:=by unfold plt;rw [if_pos e,e2];simp
   rw [this] at q
   exact q
  ·rw [show (c.2==d.2)=false by simpa using e2]
   refine kat_no ?_
   show wpAny (model prog w) A (oneLt' false _ _) Q _ s
   refine kat_one _ _ (lt_int ?_)
   have:plt c d=decide (c.2<d.2):=by unfold plt;rw [if_pos e]
   rw [this] at q
   exact q
 ·rw [show (c.1==d.1)=false by simpa using e]
  refine kat_no ?_
  show wpAny (model prog w) A (oneLt' true _ _) Q _ s
  refine oneLt_int ?_
  have:plt c d=decide (c.1<d.1):=by unfold plt;rw [if_neg e]
  rw [this] at q
  exact q
theorem znc {h:Heap}:∀ {vs:List Value} {cs:List (Int×Int)},Paired (PrV h) vs cs->∃ fs:List Value,KatTups h vs fs/\fs.length=vs.length/\∀ f∈fs,∃ i t,f=.int i t
 | _,_,.nil=>⟨[],trivial,rfl,fun f hf=>absurd hf (by simp)⟩
 | _,_,.cons (a:=v) (b:=c) r t=>by
  obtain⟨fs,k,hl,hf⟩:=znc t
  obtain⟨a,o,n,tk,u,rfl,ho,hc,hd⟩:=r
  refine⟨.int c.1 tk::fs,KatTups.cons ho hc hd rfl k,by simp [hl],fun f hm=>?_⟩
  rcases qh.mp hm with rfl | hm
  ·exact⟨_,_,rfl⟩
  ·exact hf f hm
theorem zfA {α β:Type}{F:α->β->Prop}{da:α}{db:β}:∀ {l:List α} {m:List β},Paired F l m->∀ i,i<l.length->F (l.getD i da) (m.getD i db)
 | _,_,.nil,i,h=>absurd h (by simp)
 | _,_,.cons r _,0,_=>r
 | _::_,_::_,.cons _ t,i+1,h=>zfA (da:=da) (db:=db) t i (by simpa using h)
theorem zjX {a:Addr}{vs:List Value}{cs:List (Int×Int)}{n:Nat}{P:PySem.Fin->Shared->Prop}(ho:s.heap.get? a=some (seqObj "list" vs.toArray n))(hv:Paired (PrV s.heap) vs cs)(h64:vs.length<64)
  (h:∀ p:List Nat,p.Perm (List.range vs.length)->(∀ i j,i<=j->j<vs.length->plt (cs.getD (p.getD j 0) (0,0)) (cs.getD (p.getD i 0) (0,0))=false) ->
   P (.done (.ret .none)) { s with heap:=sortedHeap s.heap a vs (p.map fun i=>vs.getD i Value.none).toArray }) :
  wpAny (model prog w) A (Builtin.«list.sort» ⟨[.ref a],[]⟩) P E s:=by
 rw [list_sort_plain]
 have ha:a<s.heap.objs.size:=qr ho
 refine wpAny_bind (listItems_at ho rfl ?_)
 refine wpAny_bind (listUpdate_at ho rfl ?_)
 obtain⟨e1,ho1⟩:∃ e1,(s.heap.update a (Obj.mapSeq fun _=>#[])).get? a=some (seqObj "list" #[] e1):=⟨_,get?_update_seq ho (fun _=>#[])⟩
 refine wpAny_bind (seqEpoch_at ho1 rfl ?_)
 refine wpAny_bind (wpAny_newTuple ?_)
 refine wpAny_bind (wpAny_newList ?_)
 refine wpAny_holding ?_
 have ho6:(((s.heap.update a (Obj.mapSeq fun _=>#[])).push (seqObj "tuple" vs.toArray 0)).push (seqObj "list" #[] 0)).get? a=some (seqObj "list" #[] e1):=by
  rw [Heap.get?_push_ne _ _ _ (by rw [size_push',Heap.size_update];exact qK (Nat.lt_succ_of_lt ha)),Heap.get?_push_ne _ _ _ (by rw [Heap.size_update];exact qK ha)]
  exact ho1
 have keep:∀ b u,b≠a->s.heap.get? b=some u->(((s.heap.update a (Obj.mapSeq fun _=>#[])).push (seqObj "tuple" vs.toArray 0)).push (seqObj "list" #[] 0)).get? b=some u:=fun b u hb hu=>by
  have hlt:b<s.heap.objs.size:=qr hu
  rw [Heap.get?_push_ne _ _ _ (by rw [size_push',Heap.size_update];exact qK (Nat.lt_succ_of_lt hlt)),Heap.get?_push_ne _ _ _ (by rw [Heap.size_update];exact qK hlt),Heap.get?_update_ne _ _ _ _ hb]
  exact hu
 have hv6:Paired (PrV (((s.heap.update a (Obj.mapSeq fun _=>#[])).push (seqObj "tuple" vs.toArray 0)).push (seqObj "list" #[] 0))) vs cs:=Paired.imp' (fun v c hp=>by
  obtain⟨b,o,m,t,u,rfl,hb,hc,hd⟩:=hp
  refine⟨b,o,m,t,u,rfl,keep b o (fun e=>?_) hb,hc,hd⟩
  subst e
  rw [ho] at hb
  cases hb
  injection hc with hc
  exact absurd hc (by decide)) hv
 show wpAny (model prog w) A _ P E { s with heap:=((s.heap.update a (Obj.mapSeq fun _=>#[])).push (seqObj "tuple" vs.toArray 0)).push (seqObj "list" #[] 0) }
 have hh:sortedHeap s.heap a vs=fun out=>(((s.heap.update a (Obj.mapSeq fun _=>#[])).push (seqObj "tuple" vs.toArray 0)).push (seqObj "list" #[] 0)).update a (Obj.mapSeq fun _=>out):=rfl
 rw [hh] at h
 generalize ((s.heap.update a (Obj.mapSeq fun _=>#[])).push (seqObj "tuple" vs.toArray 0)).push (seqObj "list" #[] 0)=h6 at *
 dsimp only
 have hsz:vs.toArray.size=vs.length:=by simp
 by_cases h2:vs.toArray.size<2
 ·rw [if_pos h2,if_pos h2]
  refine wpAny_bind (wpAny_pure ?_)
  rw [StateT.run_pure]
  refine wpAny_bind (wpAny_pure ?_)
  dsimp only
  refine wpAny_bind (seqEpoch_at ho6 rfl ?_)
  refine wpAny_bind (listUpdate_at ho6 rfl ?_ (hsz2:=by rw [Array.size_map];show (pairsOf vs).size<=_;rw [pairsOf_size,sizeLine_eq];lia))
  simp only [bne_self_eq_false,Bool.false_eq_true,if_false]
  have q:=h (List.range vs.length) (List.Perm.refl _) (fun i j hij hj=>by
   have e1:i=0:=by lia
   have e2:j=0:=by lia
   subst e1;subst e2
   exact irr (znS cs) _)
  have eo:(List.map (fun i=>vs.getD i Value.none) (List.range vs.length)).toArray=Array.map (·.2) (vs.toArray.zip vs.toArray):=by
   have hz:vs.length<2:=by lia
   clear q h hv6 hh hv ho h64 hsz h2
   match vs,hz with
   | [],_=>simp
   | [x],_=>simp [List.range_succ]
  rw [eo] at q
  exact wpAny_pure q
 ·rw [if_neg h2,if_neg h2]
  have hn2:2<=vs.length:=by lia
  obtain⟨fs,kt,hfl,hfi⟩:=znc hv6
  refine wpAny_bind (kat_kind (s:={ s with heap:=h6 }) (T:=.type "int") kt (by lia) (fun v hm=>?_) (by rfl) ?_)
  ·obtain⟨i,t,rfl⟩:=hfi v hm
   exact Looks.of_pure rfl
  have cmp:∀ (i j:Nat) (C:Bool->Shared->Prop),i<vs.length->j<vs.length->C (plt (cs.getD i (0,0)) (cs.getD j (0,0))) { s with heap:=h6 }->kas_ask prog w A (tuples' (Value.type "int" != Value.type "tuple")) vs i j C { s with heap:=h6 }:=fun i j C hi hj hC =>
   zrX (s:={ s with heap:=h6 }) (zfA hv6 i hi) (zfA hv6 j hj) hC
  refine wpAny_bind (wpAny_mono (kat_run (ks:=vs) (vs:=vs) (Q:=fun st' s'=>∃ p:Array Nat,p=zai (fun i j=>plt (cs.getD i (0,0)) (cs.getD j (0,0))) (kas_sort vs.length)/\s'={ s with heap:=h6 }/\arrOf st'=p.map (kas_item (vs.toArray.zip vs.toArray))/\failedOf st'=none)
   (G:=fun p s'=>p=zai (fun i j=>plt (cs.getD i (0,0)) (cs.getD j (0,0))) (kas_sort vs.length)/\s'={ s with heap:=h6 }) rfl hn2 h64 (fun p' st' s' a1 a2 a3 a4=>⟨p',a4.1,a4.2,a2,a3⟩) (kwp cmp _ _ (zuc (by lia)) ⟨rfl,rfl⟩)) ?_ fun _ _ e=>e)
  rintro⟨⟨⟩,st'⟩ s' ⟨p,hp,rfl,har,hf⟩
  dsimp only
  obtain⟨z1,z2,z3⟩:=zuN (znS cs) (n:=vs.length) (by lia)
  rw [<- hp] at z1 z2 z3
  have hout:=kat_snds (vs:=vs) (ks:=vs) rfl har
  have hsz2:(List.toArray (p.toList.map fun i=>vs.getD i Value.none)).size=vs.length:=by rw [qm,qb,qQ,z1]
  rw [hout]
  refine wpAny_bind (seqEpoch_at ho6 rfl ?_)
  refine wpAny_bind (listUpdate_at ho6 rfl ?_ (hsz2:=by rw [hsz2,sizeLine_eq];lia))
  rw [hf]
  simp only [bne_self_eq_false,Bool.false_eq_true,if_false]
  refine wpAny_pure (h p.toList ?_ fun i j hij hj=>?_)
  ·have:=Array.perm_iff_toList_perm.mp z2
   simpa using this
  ·have e:∀ k,p.toList.getD k 0=ga p k:=fun k=>by rw [zhY,qC,Array.getElem?_toList]
   rw [e,e]
   exact z3 i j hij hj
theorem zmQ {l:Addr}{vs:List Value}{cs:List (Int×Int)}{Q:Value->Shared->Prop}(hl:s.heap.IsList l vs.toArray)(hv:Paired (PrV s.heap) vs cs)(h64:vs.length<64)
    (h:∀ p:List Nat,p.Perm (List.range vs.length)->(∀ i j,i<=j->j<vs.length->plt (cs.getD (p.getD j 0) (0,0)) (cs.getD (p.getD i 0) (0,0))=false) ->
      Q (.ref (s.heap.objs.size+1)) { s with heap:=sortedAll s.heap vs (p.map fun i=>vs.getD i Value.none).toArray }) :
    wpAny (model prog w) A (call (.builtin "sorted") [.ref l]) Q E s:=by
  refine Calls.call_function_entry kind_sorted plain_sorted entry_sorted (args_sorted1 _) ?_
  unfold Builtin.«sorted»
  refine wpAny_bind (m:=checkCount "sorted" 1 1 _) (wpAny_pure ?_)
  refine wpAny_bind (collect_list hl ?_)
  refine wpAny_bind (wpAny_newList ?_)
  have hsz:((s.heap.push (seqObj "list" #[] 0)).update s.heap.objs.size (Obj.mapSeq (·++vs.toArray))).objs.size=s.heap.objs.size+1:=by
    rw [Heap.size_update,size_push']
  have hoL:(((s.heap.push (seqObj "list" #[] 0)).update s.heap.objs.size (Obj.mapSeq (·++vs.toArray))).push (seqObj "list" vs.toArray 0)).get? (s.heap.objs.size+1)=some (seqObj "list" vs.toArray 0):=by
    rw [<- hsz];exact qp _ rfl
  have keep:∀ b o,s.heap.get? b=some o->(((s.heap.push (seqObj "list" #[] 0)).update s.heap.objs.size (Obj.mapSeq (·++vs.toArray))).push (seqObj "list" vs.toArray 0)).get? b=some o:=fun b o q=>by
    have hlt:b<s.heap.objs.size:=qr q
    rw [Heap.get?_push_ne _ _ _ (by rw [hsz];exact qK (Nat.lt_succ_of_lt hlt)),Heap.get?_update_ne _ _ _ _ (qK hlt),Heap.get?_push_ne _ _ _ (qK hlt)]
    exact q
  show wpAny _ _ _ _ _ { s with heap:=((s.heap.push (seqObj "list" #[] 0)).update s.heap.objs.size (Obj.mapSeq (·++vs.toArray))).push (seqObj "list" vs.toArray 0) }
  rw [hsz]
  refine wpAny_bind (wpAny_holding (wpAny_call_entry slot_list_sort ⟨_,hoL,rfl⟩ entry_list_sort (zjX (s:={ s with heap:=((s.heap.push (seqObj "list" #[] 0)).update s.heap.objs.size (Obj.mapSeq (·++vs.toArray))).push (seqObj "list" vs.toArray 0) }) hoL (Paired.imp' (fun v c hp=>by
    obtain⟨b,o,m,t,u,e,hb,hc,hd⟩:=hp
    exact⟨b,o,m,t,u,e,keep b o hb,hc,hd⟩) hv) h64 fun p a1 a2=>⟨_,rfl,?_⟩) (args_list_sort _)))
  exact wpAny_pure ⟨_,rfl,h p a1 a2⟩
end
def zw2 (K:PySem.W.Frag):List V->Hp->VK->Prop:=fun xs H Q=>∃ (p:Addr) (ps:List Addr) (cs:List (Int×Int)),xs=[.ref p]/\SqL K H p (ps.map V.ref)/\zfM H ps cs/\cs.length<64 /\
 ∀ (l:Addr) (ps':List Addr) (cs':List (Int×Int)),H l=none->zfM H ps' cs'->cs'.Perm cs->cs'.Pairwise (fun a b=>plt b a=false)->Q (.ref l) (upd H l (.lst (ps'.map V.ref)))
theorem zk5:∀ {ps:List Addr} {its:List Value},Vals (ps.map V.ref) its->its=ps.map Value.ref
 | [],_,h=>by cases h;rfl
 | p::ps,_,h=>by
  cases h with
  | cons r t =>
   have:=zk5 t
   cases r
   rw [this];rfl
theorem zk8:∀ ps:List Addr,Vals (ps.map V.ref) (ps.map Value.ref)
 | []=>.nil
 | _::ps=>.cons rfl (zk8 ps)
theorem zkB {α:Type}(l:List α)(d:α){p:List Nat}(h:p.Perm (List.range l.length)):(p.map fun i=>l.getD i d).Perm l:=by
 have:=h.map fun i=>l.getD i d
 refine this.trans ?_
 have e:(List.range l.length).map (fun i=>l.getD i d)=l:=by
  apply List.ext_getElem
  ·simp
  ·intro i h1 h2
   simp [qC,qc h2]
 rw [e]
theorem zmE {X:Cx}{K:PySem.W.Frag}(hK:X.K=K):zaO X (.builtin "sorted") (zw2 K):=fun pins s U H xs us Q I r h=>by
 subst hK
 obtain⟨p,ps,cs,rfl,hS,hP,h64,q⟩:=h
 obtain⟨u,rfl,ru⟩:=vals1 r
 cases ru
 obtain⟨its,rv,pl,hz⟩:=I.list hS
 have ei:=zk5 rv
 subst ei
 have hlen:=hP.length
 have prv:∀ {ps:List Addr} {cs:List (Int×Int)},zfM H ps cs->Paired (PrV s.heap) (ps.map Value.ref) cs:=by
  intro ps cs hP
  induction hP with
  | nil=>exact .nil
  | cons r t ih =>
   refine .cons ?_ ih
   obtain⟨its2,r2,pl2,_⟩:=I.tuple (SqT.of r)
   obtain⟨o,ho,hc,n,hd⟩:=pl2
   cases r2 with | cons x1 r2=>cases r2 with | cons x2 r2 =>
   cases r2
   obtain⟨t1,rfl⟩:=x1
   obtain⟨t2,rfl⟩:=x2
   exact⟨_,o,n,t1,t2,rfl,ho,hc,hd⟩
 refine zmQ pl.isList (prv hP) (by rw [qb];lia) fun pm hpm hso=>?_
 rw [qb] at hpm hso
 have eo:(pm.map fun i=>(ps.map Value.ref).getD i Value.none)=(pm.map fun i=>ps.getD i 0).map Value.ref:=by
  rw [List.map_map]
  apply List.map_congr_left
  intro i hi
  have hi':i<ps.length:=by simpa using hpm.mem_iff.mp hi
  simp [qC,qc hi']
 rw [eo]
 have hPl:(pm.map fun i=>ps.getD i 0).length=ps.length:=by rw [qb,hpm.length_eq,List.length_range]
 obtain⟨e,he⟩:=sortedAll_at s.heap (ps.map Value.ref) ((pm.map fun i=>ps.getD i 0).map Value.ref).toArray
 have hPr:zfM H (pm.map fun i=>ps.getD i 0) (pm.map fun i=>cs.getD i (0,0)):=by
  have hb:∀ i∈pm,i<ps.length:=fun i hi=>by simpa using hpm.mem_iff.mp hi
  clear eo hPl he hpm hso
  induction pm with
  | nil=>exact .nil
  | cons i pm ih=>exact .cons (zfA hP i (hb i (by simp))) (ih fun j hj=>hb j (by simp [hj]))
 refine⟨.ref (s.heap.objs.size+1),_,I.laid (t':=s.toks) (a:=s.heap.objs.size+1) (o:=.lst ((pm.map fun i=>ps.getD i 0).map V.ref)) (fun b o q=>sortedAll_old q) (Nat.le_succ _) ⟨by rw [qb,hPl];have:=hz;rw [qb] at this;exact this,_,e,zk8 _,he⟩,rfl,q _ _ _ (I.hok.fresh (Nat.le_succ _)) hPr ?_ ?_⟩
 ·rw [hlen] at hpm
  exact zkB cs (0,0) hpm
 ·rw [List.pairwise_map,List.pairwise_iff_getElem]
  intro i j hi hj hij
  have:=hso i j (Nat.le_of_lt hij) (by rw [<- List.length_range (n:=ps.length),<- hpm.length_eq];exact hj)
  simpa [qC,qc hi,qc hj] using this
section
variable {K:PySem.W.Frag}{H:Hp}
end
def zvf (K:PySem.W.Frag):R2:=fun x y H Q=>∃ a b xs ys,x=.ref a/\y=.ref b/\SqT K H a xs/\SqT K H b ys/\xs.length+ys.length<=sizeLine/\(xs=[]->Q (.ref b) H)/\(xs≠[]->ys=[]->Q (.ref a) H)/\(xs≠[]->ys≠[]->∀ p,H p=none->Q (.ref p) (upd H p (.tup (xs++ys))))
theorem zsz {X:Cx}{K:PySem.W.Frag}(hK:X.K=K):OpR X (binaryOp .Add) (zvf K):=by
 subst hK
 intro pins s U H x y v u Q I rx ry h
 obtain⟨a,b,xs,ys,rfl,rfl,ha,hb,hz,q0,q1,q2⟩:=h
 by_cases hx:xs=[]
 ·subst hx
  cases rx
  cases ry
  obtain⟨its,r1,p1,_⟩:=I.tuple ha
  obtain⟨its2,r2,p2,_⟩:=I.tuple hb
  cases r1
  obtain⟨⟨cls,dd,data,sl⟩,ho,hc,n,hd⟩:=id p1
  obtain⟨⟨cls2,dd2,data2,sl2⟩,ho2,hc2,n2,hd2⟩:=id p2
  simp only at hc hd hc2 hd2
  subst hc hd hc2 hd2
  exact concat_meets ⟨_,ho,rfl⟩ ⟨_,ho2,rfl⟩ noFill_tuple_add seq_tuple_add PySem.F.slot_tuple_add PySem.F.entry_tuple_add (PySem.F.args_tuple_add_2 _ _)
   (tuple_addW0 a b _ its2.toArray n n2 dd dd2 sl sl2 (by simp)) ⟨ho,ho2,⟨.ref b,H,I,rfl,q0 rfl⟩⟩
 ·exact zur pins s U H _ _ v u Q I rx ry ⟨a,b,xs,ys,rfl,rfl,ha,hb,hx,hz,q1 hx,q2 hx⟩
end My
namespace Dp
open PySem
inductive D where
 | non | bl (b:Bool) | int (i:Int) | str (x:Str) | tup (xs:List D) | ref (n:Nat) | ty (n:String) | rl (xs:List D) | exn (c:Str)
 deriving Inhabited
inductive Cell where
 | lst (xs:List D) | ins (c:Str) (fs:List (Str×D))
 | dk (kvs:List (Str×D)) | dt (kvs:List (List (Sum Int Str)×D))
 deriving Inhabited
abbrev Sto:=List Cell
abbrev Rho:=List (Option D)
abbrev DK:=D->Sto->Prop
abbrev DE:=Rho->Sto->DK->Prop
abbrev DT:=Rho->Sto->(Bool->Sto->Prop)->Prop
abbrev DA:=Rho->Sto->(List D->Sto->Prop)->Prop
abbrev DG:=D->Rho->Sto->(Rho->Sto->Prop)->Prop
abbrev DGs:=List D->Rho->Sto->(Rho->Sto->Prop)->Prop
structure zo1 where
 nx:Rho->Sto->Prop
 rt:DK
 bk:Rho->Sto->Prop:=fun _ _=>False
 ct:Rho->Sto->Prop:=fun _ _=>False
abbrev DS:=zo1->Rho->Sto->Prop
structure DIt where
 items:List D
 ok:Sto->Prop
abbrev DI:=Rho->Sto->(DIt->Sto->Prop)->Prop
abbrev DSp:=List D->Sto->DK->Prop
def big:Nat:=1000000
def fl:Nat->D->Bool
  | _,.ref _=>false
  | _,.ty _=>false
  | _,.rl _=>false
  | _,.exn _=>false
  | 0,.tup _=>false
  | k+1,.tup xs=>xs.all (fl k)
  | _,.non=>true
  | _,.bl _=>true
  | _,.int _=>true
  | _,.str x=>x.cps.all (· < 0x110000)
mutual
def eqv:D->D->Bool
 | .non,.non=>true
 | .bl a,.bl b=>a==b
 | .bl a,.int j=>(if a then 1 else 0)==j
 | .int i,.bl b=>i==(if b then 1 else 0)
 | .int i,.int j=>decide (i=j)
 | .str x,.str y=>x==y
 | .tup xs,.tup ys=>eqvAll xs ys
 | _,_=>false
def eqvAll:List D->List D->Bool
 | [],[]=>true
 | x::xs,y::ys=>eqv x y&&eqvAll xs ys
 | _,_=>false
end
def Lst (S:Sto)(x:D)(xs:List D):Prop:=x=.rl xs\/∃ n,x=.ref n/\S[n]?=some (.lst xs)
def zeP (S:Sto)(x:D)(xs:List D):Prop:=x=.tup xs\/Lst S x xs
def ixD (n:Nat)(k:Int):Option Nat:=if 0<=k then (if k<n then some k.toNat else none) else if -(n:Int)<=k then some (k+n).toNat else none
def atD (xs:List D)(k:Int):Option D:=(ixD xs.length k).bind fun j=>xs[j]?
def atS (z:Str)(k:Int):Option Nat:=(ixD z.cps.toList.length k).bind fun j=>z.cps.toList[j]?
def slD (n:Nat)(d:Nat):Option Int->Nat
 | none=>d
 | some k=>if k<0 then (k+n).toNat else min k.toNat n
def cutD {α:Type}(xs:List α)(lo hi:Option Int):List α:=(xs.drop (slD xs.length 0 lo)).take (slD xs.length xs.length hi-slD xs.length 0 lo)
def zf (i:Nat):DE:=fun Z S Q=>∃ d,Z[i]?=some (some d)/\Q d S
def dC (d:D):DE:=fun _ S Q=>Q d S
abbrev DR2:=D->D->Sto->DK->Prop
def dOp (r:DR2)(ta tb:DE):DE:=fun Z S Q=>ta Z S fun x S1=>tb Z S1 fun y S2=>r x y S2 Q
def dUn (r:D->Sto->DK->Prop)(ta:DE):DE:=fun Z S Q=>ta Z S fun x S1=>r x S1 Q
def zA:DA:=fun _ S Q=>Q [] S
def zm (ta:DE)(tr:DA):DA:=fun Z S Q=>ta Z S fun x S1=>tr Z S1 fun xs S2=>Q (x::xs) S2
def dTup (t:DA):DE:=fun Z S Q=>t Z S fun xs S1=>xs.length<=big/\Q (.tup xs) S1
def zcj (t:DA):DE:=fun Z S Q=>t Z S fun xs S1=>xs.length<=big/\Q (.ref S1.length) (S1++[.lst xs])
def dCall (f:DSp)(t:DA):DE:=fun Z S Q=>t Z S fun xs S1=>f xs S1 Q
abbrev DB:=List D->Sto->DK->Prop
def dB (r:DB)(t:DA):DE:=fun Z S Q=>t Z S fun xs S1=>r xs S1 Q
def dT (t:DE):DT:=fun Z S Q=>t Z S fun x S1=>∃ b,x=.bl b/\Q b S1
def zej (t u:DT):DT:=fun Z S Q=>t Z S fun c S1=>if c=true then u Z S1 Q else Q false S1
def dOr (t u:DT):DT:=fun Z S Q=>t Z S fun c S1=>if c=true then Q true S1 else u Z S1 Q
def zfi (t:DT):DT:=fun Z S Q=>t Z S fun c S1=>Q (!c) S1
def ziy (t u:DE):DE:=fun Z S Q=>t Z S fun x S1=>∃ c,x=.bl c/\if c=true then u Z S1 Q else Q (.bl false) S1
def zr3 (t u:DE):DE:=fun Z S Q=>t Z S fun x S1=>∃ c,x=.bl c/\if c=true then Q (.bl true) S1 else u Z S1 Q
def zij (t:DE):DE:=fun Z S Q=>t Z S fun x S1=>∃ c,x=.bl c/\Q (.bl (!c)) S1
def zkv (c:DT)(ta tb:DE):DE:=fun Z S Q=>c Z S fun b S1=>if b=true then ta Z S1 Q else tb Z S1 Q
def zhT (r r':DR2)(ta tb tc:DE):DE:=fun Z S Q=>ta Z S fun x S1=>tb Z S1 fun y S2=>r x y S2 fun z S3=>∃ c,z=.bl c/\if c=true then tc Z S3 fun w S4=>r' y w S4 Q else Q (.bl false) S3
def ziX:Option DE->Rho->Sto->(Option Int->Sto->Prop)->Prop
 | none=>fun _ S Q=>Q none S
 | some t=>fun Z S Q=>t Z S fun x S1=>∃ i,x=.int i/\Q (some i) S1
def dSl (r:D->Option Int->Option Int->Sto->DK->Prop)(ta:DE)(lo hi:Option DE):DE:=fun Z S Q=>ta Z S fun x S1=>ziX lo Z S1 fun l S2=>ziX hi Z S2 fun h S3=>r x l h S3 Q
def zbK (f:Str)(ta:DE):DE:=fun Z S Q=>ta Z S fun x S1=>∃ n c fs d,x=.ref n/\S1[n]?=some (.ins c fs)/\fs.lookup f=some d/\Q d S1
def putD (f:Str)(v:D):List (Str×D)->List (Str×D)
 | []=>[(f,v)]
 | (g,x)::r=>if g=f then (g,v)::r else (g,x)::putD f v r
def zoZ (c:Str)(init:DSp):DSp:=fun ds S Q=>init (.ref S.length::ds) (S++[.ins c []]) fun d S2=>d=.non/\Q (.ref S.length) S2
abbrev DM:=D->List D->Sto->DK->Prop
def dM (r:DM)(ta:DE)(t:DA):DE:=fun Z S Q=>ta Z S fun x S1=>(∃ n ys,x=.ref n/\S1[n]?=some (.lst ys))/\t Z S1 fun xs S2=>r x xs S2 Q
def oI (C:Int->Int->Prop)(g:Int->Int->D):DR2:=fun x y S Q=>∃ i j,x=.int i/\y=.int j/\C i j/\Q (g i j) S
def oI0 (g:Int->Int->D):DR2:=fun x y S Q=>∃ i j,x=.int i/\y=.int j/\Q (g i j) S
def oU (g:Int->D):D->Sto->DK->Prop:=fun x S Q=>∃ i,x=.int i/\Q (g i) S
def zaL (i j:Int):Prop:=(My.Bd 8000 i/\My.Bd 8000 j)\/i.natAbs<2 ^ 64\/j.natAbs<2 ^ 64
def ztp (_ j:Int):Prop:=j≠0/\My.Bd 8000 j
def zyB (_ j:Int):Prop:=j≠0
def zal:DR2:=fun x y S Q=>(∃ i j,x=.int i/\y=.int j/\Q (.int (i+j)) S)\/(∃ xs ys,x=.tup xs/\y=.tup ys/\xs.length+ys.length<=big/\Q (.tup (xs++ys)) S) \/
 (∃ xs ys,Lst S x xs/\Lst S y ys/\xs.length+ys.length<=big/\Q (.ref S.length) (S++[.lst (xs++ys)])) \/
 (∃ i j:Str,x=.str i/\y=.str j/\i.length+j.length<=big/\Q (.str (i++j)) S)
def zap:DR2:=oI0 fun i j=>.int (i-j)
def zy2 (z:Str)(n:Int):Str:=if n<1 then Str.empty else if (n==1||z.length==0)=true then z else ⟨(List.replicate n.toNat z.cps).foldl (·++·) #[]⟩
@[irreducible] def Hg (x:Int):Prop:=x.natAbs<2 ^ 1048576
def zbo:DR2:=fun x y S Q=>oI zaL (fun i j=>.int (i*j)) x y S Q\/(∃ (z:Str) (n:Int),x=.str z/\y=.int n/\z.length<=1000/\-1000<=n/\n<=1000/\Q (.str (zy2 z n)) S)\/oI (fun i j=>Hg i/\Hg j) (fun i j=>.int (i*j)) x y S Q
def oDiv:DR2:=oI ztp fun i j=>.int (i.fdiv j)
def oMod:DR2:=oI zyB fun i j=>.int (i.fmod j)
def zb2:D->Sto->DK->Prop:=oU fun i=>.int (-i)
def oLt:DR2:=oI0 fun i j=>.bl (decide (i<j))
def oLe:DR2:=oI0 fun i j=>.bl (decide (i<=j))
def oGt:DR2:=oI0 fun i j=>.bl (decide (j<i))
def zjL (S:Sto):List D->List (List D)->Prop
 | [],[]=>True
 | x::xs,z::zs=>Lst S x z/\zjL S xs zs
 | _,_=>False
def zgE (xss:List (List D)):Bool:=xss.all fun zs=>zs.all (fl 20)
def EqD (S:Sto)(x y:D)(b:Bool):Prop:=(fl 20 x=true/\fl 20 y=true/\b=eqv x y)\/(∃ xs ys,Lst S x xs/\Lst S y ys/\xs.all (fl 20)=true/\ys.all (fl 20)=true/\b=eqvAll xs ys) \/
 (∃ xs ys xss yss,Lst S x xs/\Lst S y ys/\zjL S xs xss/\zjL S ys yss/\zgE xss=true/\zgE yss=true/\b=eqvAll (xss.map D.tup) (yss.map D.tup))
def oEq:DR2:=fun x y S Q=>∃ b,EqD S x y b/\Q (.bl b) S
def oNe:DR2:=fun x y S Q=>∃ b,EqD S x y b/\Q (.bl (!b)) S
def InD (S:Sto)(x y:D)(b:Bool):Prop:=∃ ys,zeP S y ys/\fl 20 x=true/\ys.all (fl 20)=true/\b=ys.any fun z=>eqv z x
def oIn:DR2:=fun x y S Q=>(∃ b,InD S x y b/\Q (.bl b) S)\/(∃ (c:Nat) (z:Str),x=.str ⟨#[c]⟩/\y=.str z/\Q (.bl (decide (c∈z.cps.toList))) S)
def zlI:D->Bool
 | .non=>true
 | _=>false
def zhO:DR2:=fun x y S Q=>(y=.non/\Q (.bl (!zlI x)) S)\/(∃ a b,x=.bl a/\y=.bl b/\Q (.bl (!(a==b))) S)
def oIx:DR2:=fun x y S Q=>(∃ i xs d,y=.int i/\zeP S x xs/\atD xs i=some d/\Q d S)\/(∃ (z:Str) (i:Int) (c:Nat),x=.str z/\y=.int i/\z.length<=big/\atS z i=some c/\Q (.str ⟨#[c]⟩) S)
def zsg (z:Str)(lo hi:Option Int):Str:=⟨(cutD z.cps.toList lo hi).toArray⟩
def zje:D->Option Int->Option Int->Sto->DK->Prop:=fun x lo hi S Q=>(∃ xs,x=.tup xs/\Q (.tup (cutD xs lo hi)) S)\/(∃ xs,Lst S x xs/\Q (.ref S.length) (S++[.lst (cutD xs lo hi)]))\/(∃ z:Str,x=.str z/\z.length<=big/\Q (.str (zsg z lo hi)) S)
def zbn:DB:=fun vs S Q=>(∃ x xs,vs=[x]/\zeP S x xs/\Q (.int xs.length) S)\/(∃ z:Str,vs=[.str z]/\z.length<=big/\Q (.int z.length) S)
def zrO:DB:=fun vs S Q=>∃ i,vs=[.int i]/\Q (.int (i.natAbs:Int)) S
def zdd:DB:=fun vs S Q=>∃ i j,vs=[.int i,.int j]/\Q (.int (max i j)) S
def zeD:DB:=fun vs S Q=>∃ i j,vs=[.int i,.int j]/\Q (.int (min i j)) S
def zpl:DB:=fun vs S Q=>∃ x ns,vs=[x]/\Lst S x (List.map D.int ns)/\0<ns.length/\∀ m:Int,m∈ns->(∀ a∈ns,a<=m)->Q (.int m) S
def zos:DB:=fun vs S Q=>∃ x ns,vs=[x]/\Lst S x (List.map D.int ns)/\0<ns.length/\∀ m:Int,m∈ns->(∀ a∈ns,m<=a)->Q (.int m) S
def zhE:DB:=fun vs S Q=>∃ x bs,vs=[x]/\Lst S x (List.map D.bl bs)/\Q (.bl (bs.all id)) S
def zgd:DB:=fun vs S Q=>∃ x xs,vs=[x]/\zeP S x xs/\Q (.tup xs) S
def zjU:DB:=fun vs S Q=>∃ x xs,vs=[x]/\zeP S x xs/\Q (.ref S.length) (S++[.lst xs])
def zk1 (t:String):Bool:=t=="int"||t=="bool"||t=="tuple"||t=="list"||t=="str"
def zw1 (S:Sto)(t:String)(d:D):Option Bool:=if (!zk1 t)=true then none else match d with
 | .non=>some false
 | .bl _=>some (t=="bool"||t=="int")
 | .int _=>some (t=="int")
 | .str _=>some (t=="str")
 | .tup _=>some (t=="tuple")
 | .ref n=>match S[n]? with
  | some (.lst _)=>some (t=="list")
  | _=>none
 | .ty _=>none
 | .rl _=>none
 | .exn _=>none
def zjh:DB:=fun vs S Q=>∃ x t b,vs=[x,.ty t]/\zw1 S t x=some b/\Q (.bl b) S
abbrev p2 (c:Int×Int):D:=.tup [.int c.1,.int c.2]
def zjq (a b:Int×Int):Bool:=decide (a.1<b.1\/(a.1=b.1/\a.2<b.2))
def zpH:DB:=fun vs S Q=>∃ x cs,vs=[x]/\Lst S x (List.map p2 cs)/\cs.length<64/\∀ ss:List (Int×Int),ss.Perm cs->ss.Pairwise (fun a b=>zjq b a=false)->Q (.ref S.length) (S++[.lst (ss.map p2)])
def zqs:DB:=fun vs S Q=>∃ x ns,vs=[x]/\Lst S x (List.map D.int ns)/\ns.length<64/\∀ ss:List Int,ss.Perm ns->ss.Pairwise (fun a b=>a<=b)->Q (.ref S.length) (S++[.lst (ss.map D.int)])
def zoq:DB:=fun vs S Q=>zpH vs S Q\/zqs vs S Q
def zcM:DM:=fun x vs S Q=>∃ n xs y,x=.ref n/\vs=[y]/\S[n]?=some (.lst xs)/\xs.length<big/\Q .non (S.set n (.lst (xs++[y])))
def zty:DM:=fun x vs S Q=>∃ n xs m ys,x=.ref n/\vs=[.ref m]/\S[n]?=some (.lst xs)/\S[m]?=some (.lst ys)/\m≠n/\xs.length+ys.length<=big/\Q .non (S.set n (.lst (xs++ys)))
def zjk:DM:=fun x vs S Q=>zty x vs S Q\/∃ n xs ys,x=.ref n/\vs=[.tup ys]/\S[n]?=some (.lst xs)/\xs.length+ys.length<=big/\Q .non (S.set n (.lst (xs++ys)))
def zo0:DM:=fun x vs S Q=>∃ n xs y,x=.ref n/\vs=[.int 0]/\S[n]?=some (.lst (y::xs))/\Q y (S.set n (.lst xs))
def zB (i:Nat):DG:=fun d Z S Q=>Q (Z.set i (some d)) S
def zb3:DGs:=fun ds Z S Q=>ds=[]/\Q Z S
def zah (t:DG)(u:DGs):DGs:=fun ds Z S Q=>∃ d r,ds=d::r/\t d Z S fun ρ' S'=>u r ρ' S' Q
def zbZ (n:Nat)(t:DGs):DG:=fun d Z S Q=>∃ xs,d=.tup xs/\xs.length=n/\t xs Z S Q
def zi3 (to ti:DE):DG:=fun d Z S Q=>to Z S fun o S1=>ti Z S1 fun i S2=>∃ n xs k j,o=.ref n/\i=.int k/\S2[n]?=some (.lst xs)/\ixD xs.length k=some j/\Q Z (S2.set n (.lst (xs.set j d)))
def zG (t u:DS):DS:=fun E Z S=>t { E with nx:=u E } Z S
def zag:DS:=fun E Z S=>E.nx Z S
def z9 (t:DE):DS:=fun E Z S=>t Z S E.rt
def zaq (t:DE):DS:=fun E Z S=>t Z S fun _ S1=>E.nx Z S1
def zO (t:DE)(g:DG):DS:=fun E Z S=>t Z S fun x S1=>g x Z S1 E.nx
def sIf (c:DT)(t u:DS):DS:=fun E Z S=>c Z S fun b S1=>if b=true then t E Z S1 else u E Z S1
def sJ (t:DS):DS:=fun E Z S=>∃ J:Rho->Sto->Prop,(∀ Z S,J Z S->E.nx Z S)/\t { E with nx:=J } Z S
def zcG:DS:=fun _ _ _=>False
def zeB (c f:Str)(to tv:DE):DS:=fun E Z S=>tv Z S fun y S1=>to Z S1 fun x S2=>∃ n fs,x=.ref n/\S2[n]?=some (.ins c fs)/\fs.length<100/\E.nx Z (S2.set n (.ins c (putD f y fs)))
def zsO (i:Nat)(t:DE):DS:=fun E Z S=>∃ a,Z[i]?=some (some (.int a))/\t Z S fun y S1=>∃ b,y=.int b/\E.nx (Z.set i (some (.int (a+b)))) S1
def zfm (c:DT)(t:DS):DS:=fun E Z S=>∃ W:Nat->Rho->Sto->Prop,(∃ m,W m Z S)/\∀ m Z S,W m Z S ->
 c Z S fun b S1=>if b=true then ∃ N:Rho->Sto->Prop,(∀ ρ' S',N ρ' S'->∃ m',m'<m/\W m' ρ' S')/\t { E with nx:=N,ct:=N,bk:=E.nx } Z S1 else E.nx Z S1
def za3 (wi:DI)(g:DG)(t:DS):DS:=fun E Z S=>wi Z S fun J S1=>∃ W:Nat->Rho->Sto->Prop,W 0 Z S1/\(∀ i Z S,W i Z S->J.ok S) /\
 (∀ i d Z S,J.items[i]?=some d->W i Z S->g d Z S fun ρ2 S2=>t { E with nx:=W (i+1),ct:=W (i+1),bk:=E.nx } ρ2 S2)/\∀ Z S,W J.items.length Z S->E.nx Z S
def signs (z:Str):List D:=z.cps.toList.map fun c=>.str ⟨#[c]⟩
def zii (x:D)(S1:Sto)(R:DIt->Sto->Prop):Prop:=(∃ xs,x=.tup xs/\R ⟨xs,fun _=>True⟩ S1)\/(∃ xs,Lst S1 x xs/\R ⟨xs,fun S=>Lst S x xs⟩ S1)\/(∃ z:Str,x=.str z/\R ⟨signs z,fun _=>True⟩ S1)
def zaN (t:DE):DI:=fun Z S R=>t Z S fun x S1=>zii x S1 R
def upto (lo:Int)(n:Nat):List D:=(List.range n).map fun k:Nat=>D.int (lo+(k:Int))
def zhe (t:DA):DI:=fun Z S R=>t Z S fun vs S1=>∃ j:Int,vs=[.int j]/\-(2 ^ 62)<=j/\j<2 ^ 62/\R ⟨upto 0 j.toNat,fun _=>True⟩ S1
def zpk (t:DA):DI:=fun Z S R=>t Z S fun vs S1=>∃ i j:Int,vs=[.int i,.int j]/\R ⟨upto i (j-i).toNat,fun _=>True⟩ S1
def steps (lo st:Int)(n:Nat):List D:=(List.range n).map fun k:Nat=>D.int (lo+(k:Int)*st)
def zda:Nat->List D->List D
 | _,[]=>[]
 | k,x::xs=>.tup [.int (k:Nat),x]::zda (k+1) xs
def zcA:List D->List D->List D
 | x::xs,y::ys=>.tup [x,y]::zcA xs ys
 | _,_=>[]
def zhW (c:List Str)(z:Str):List Str:=if c.any (·==z)=true then c else c++[z]
def zc4 (f:Nat->Str):Nat->List Str
 | 0=>[]
 | i+1=>zhW (zc4 f i) (f i)
def zrR (zs:List Str):Nat:=(zc4 (fun i=>zs.getD i Str.empty) zs.length).length
def zoI:DB:=fun vs S Q=>∃ x,∃ zs:List Str,vs=[x]/\Lst S x (zs.map D.str)/\zs.length<=4000/\Q (.int (zrR zs)) S
def zmX (R:DIt->Sto->Prop)(vs:List D)(S1:Sto):Prop:=(∃ x xs,vs=[x]/\Lst S1 x xs/\R ⟨zda 0 xs,fun S=>Lst S x xs⟩ S1)\/(∃ xs,vs=[.tup xs]/\R ⟨zda 0 xs,fun _=>True⟩ S1)
def zg7 (t:DA):DI:=fun Z S R=>t Z S (zmX R)
def zpo (R:DIt->Sto->Prop)(vs:List D)(S1:Sto):Prop:=(∃ x y xs ys,vs=[x,y]/\Lst S1 x xs/\Lst S1 y ys/\R ⟨zcA xs ys,fun S=>Lst S x xs/\Lst S y ys⟩ S1)\/(∃ xs ys,vs=[.tup xs,.tup ys]/\R ⟨zcA xs ys,fun _=>True⟩ S1)
def zsG (t:DA):DI:=fun Z S R=>t Z S (zpo R)
def zkN (own:Nat)(fv:List Nat)(Z:Rho):Rho:=List.replicate own none++fv.map fun j=>(Z[j]?).join
def zcy:DT:=fun _ S Q=>Q true S
def dLC (own:Nat)(fv:List Nat)(wi:DI)(g:DG)(tc:DT)(te:DE):DE:=fun Z S Q=>wi Z S fun J S1=>J.items.length<=big/\∃ W:Nat->List D->Sto->Prop,W 0 [] S1/\(∀ i ys S,W i ys S->J.ok S) /\
 (∀ i d ys S,J.items[i]?=some d->W i ys S->g d (zkN own fv Z) S fun ρ2 S2=>tc ρ2 S2 fun b S3=>if b=true then te ρ2 S3 fun y S4=>W (i+1) (ys++[y]) S4 else W (i+1) ys S3) /\
 ∀ ys S,W J.items.length ys S->Q (.ref S.length) (S++[.lst ys])
def kD:Sum Int Str->D
 | .inl i=>.int i
 | .inr x=>.str x
section
variable {κ:Type}[DecidableEq κ]
def dval (kvs:List (κ×D))(k:κ):Option D:=(kvs.find? fun kv=>decide (kv.1=k)).map (·.2)
def dput (kvs:List (κ×D))(k:κ)(v:D):List (κ×D):=if (kvs.any fun kv=>decide (kv.1=k))=true then kvs.map (fun kv=>if kv.1=k then (kv.1,v) else kv) else kvs++[(k,v)]
end
def DGt (S:Sto)(x y:D)(o:Option D):Prop:=(∃ n kvs z,x=.ref n/\y=.str z/\S[n]?=some (.dk kvs)/\o=dval kvs z)\/(∃ n kvs ks,x=.ref n/\y=.tup (ks.map kD)/\S[n]?=some (.dt kvs)/\o=dval kvs ks)
def zoL:DE:=fun _ S Q=>Q (.ref S.length) (S++[.dk []])
def zoO:DE:=fun _ S Q=>Q (.ref S.length) (S++[.dt []])
def zi7 (td ti:DE):DE:=fun Z S Q=>td Z S fun x S1=>ti Z S1 fun y S2=>∃ d,DGt S2 x y (some d)/\Q d S2
def zeE (S:Sto)(x y v:D)(Q:Sto->Prop):Prop:=(∃ n kvs z,x=.ref n/\y=.str z/\S[n]?=some (.dk kvs)/\kvs.length<big/\Q (S.set n (.dk (dput kvs z v))))\/(∃ n kvs ks,x=.ref n/\y=.tup (ks.map kD)/\S[n]?=some (.dt kvs)/\kvs.length<big/\Q (S.set n (.dt (dput kvs ks v))))
def zie (td ti tv:DE):DS:=fun E Z S=>tv Z S fun v S1=>td Z S1 fun x S2=>ti Z S2 fun y S3=>zeE S3 x y v (E.nx Z)
def fc:Cell->Bool
 | .lst xs=>xs.all (fl 20)
 | .ins _ _=>false
 | .dk _=>false
 | .dt _=>false
def Fin (S:Sto)(Q:DK):DK:=fun d S'=>Q d S'\/∃ S1,S1 <+: S'/\S.length<=S1.length/\(fl 20 d=true\/∃ n,d=.ref n/\n<S1.length)/\(∀ (n:Nat) c,S1[n]?=some c->S[n]?=some c\/fc c=true)/\Q d S1
def zeK (n:Nat)(ds:List D):Rho:=ds.map some++List.replicate (n-ds.length) none
def BodyOk (n:Nat)(b:DS)(f:DSp):Prop:=∀ ds S Q,f ds S Q->b ⟨fun _ S'=>Fin S Q .non S',Fin S Q,fun _ _=>False,fun _ _=>False⟩ (zeK n ds) S
abbrev XD:=Str->Sto->Prop
abbrev XR:=Rho->Str->Sto->Prop
abbrev zfd:=List D->Sto->DK->XD->Prop
def zdp (f:zfd)(ex:XR)(t:DA):DE:=fun Z S Q=>t Z S fun xs S1=>f xs S1 Q (ex Z)
def xF:XR:=fun _ _ _=>False
def zh8 (ex:XR)(c:Str):DS:=fun _ Z S=>ex Z c S
def ze6 (n:Nat)(b:XR->DS)(f:zfd):Prop:=∀ ds S Q ex,f ds S Q ex->b (fun _=>ex) ⟨fun _ S'=>Fin S Q .non S',Fin S Q,fun _ _=>False,fun _ _=>False⟩ (zeK n ds) S
def New (Q:DK)(S:Sto)(xs:List D):Prop:=Q (.ref S.length) (S++[.lst xs])
def Put (Q:Sto->Prop)(S:Sto)(n:Nat)(c:Cell):Prop:=Q (S.set n c)
def zv9 (own:Nat)(fv:List Nat)(g:DG)(tc:DT)(te:DE)(Z:Rho)(Q:DK)(J:DIt)(S:Sto):Prop:=J.items.length<=big/\∃ W:Nat->List D->Sto->Prop,W 0 [] S/\(∀ i ys S,W i ys S->J.ok S) /\
 (∀ i d ys S,J.items[i]?=some d->W i ys S->g d (zkN own fv Z) S fun ρ2 S2=>tc ρ2 S2 fun b S3=>if b=true then te ρ2 S3 fun y S4=>W (i+1) (ys++[y]) S4 else W (i+1) ys S3) /\
 ∀ ys S,W J.items.length ys S->New Q S ys
def zsZ (d:D)(Z:Rho)(Q:Rho->Sto->Prop)(o i:D)(S2:Sto):Prop:=∃ n xs k j,o=.ref n/\i=.int k/\S2[n]?=some (.lst xs)/\ixD xs.length k=some j/\Q Z (S2.set n (.lst (xs.set j d)))
def zsX (nx:Rho->Sto->Prop)(rt:DK)(g:DG)(t:DS)(Z:Rho)(J:DIt)(S:Sto):Prop:=∃ W:Nat->Rho->Sto->Prop,W 0 Z S/\(∀ i Z S,W i Z S->J.ok S) /\
 (∀ i d Z S,J.items[i]?=some d->W i Z S->g d Z S fun ρ2 S2=>t ⟨W (i+1),rt,nx,W (i+1)⟩ ρ2 S2)/\∀ Z S,W J.items.length Z S->nx Z S
def zpy (W:Nat->Rho->Sto->Prop)(m:Nat)(t:DS)(rt:DK)(nx:Rho->Sto->Prop)(Z:Rho)(S:Sto):Prop:=∃ N:Rho->Sto->Prop,(∀ ρ' S',N ρ' S'->∃ m',m'<m/\W m' ρ' S')/\t ⟨N,rt,nx,N⟩ Z S
theorem zau {nx:Rho->Sto->Prop}{rt:DK}{g:DG}{t:DS}{Z:Rho}{xs:List D}{ok:Sto->Prop}{S:Sto}(W:Nat->Rho->Sto->Prop)(h0:W 0 Z S)(hok:∀ i Z S,W i Z S->ok S)
  (step:∀ i d Z S,xs[i]?=some d->W i Z S->g d Z S fun ρ2 S2=>t ⟨W (i+1),rt,nx,W (i+1)⟩ ρ2 S2) (fin:∀ Z S,W xs.length Z S->nx Z S):zsX nx rt g t Z ⟨xs,ok⟩ S:=⟨W,h0,hok,step,fin⟩
theorem zyp {S:Sto}{Q:DK}{xs:List D}(h:Q (.ref S.length) (S++[.lst xs])):New Q S xs:=h
theorem ziu {S T:Sto}{Q:DK}{xs:List D}(h:Q (.ref (S.length+T.length)) (S++(T++[.lst xs]))):New Q (S++T) xs:=by
 unfold New;rw [qg,qG];exact h
section
variable {S:Sto}{Q:DK}{xs:List D}{a b c d e f:Cell}
theorem zyw (h:Q (.ref (S.length+1)) (S++[a,.lst xs])):New Q (S++[a]) xs:=ziu h
theorem zxY (h:Q (.ref (S.length+2)) (S++[a,b,.lst xs])):New Q (S++[a,b]) xs:=ziu h
theorem zxz (h:Q (.ref (S.length+3)) (S++[a,b,c,.lst xs])):New Q (S++[a,b,c]) xs:=ziu h
theorem zyG (h:Q (.ref (S.length+4)) (S++[a,b,c,d,.lst xs])):New Q (S++[a,b,c,d]) xs:=ziu h
theorem zyD (h:Q (.ref (S.length+5)) (S++[a,b,c,d,e,.lst xs])):New Q (S++[a,b,c,d,e]) xs:=ziu h
end
theorem zl4 {S:Sto}{a:Cell}{T:Sto}{Q:Sto->Prop}{c:Cell}(h:Q (S++c::T)):Put Q (S++a::T) S.length c:=by
 unfold Put;rw [List.set_append_right _ _ (qf _),Nat.sub_self];exact h
theorem zwK {S:Sto}{a:Cell}{G T:Sto}{Q:Sto->Prop}{c:Cell}(h:Q (S++c::(G++T))):Put Q (S++(a::G++T)) S.length c:=zl4 h
theorem zyA {S:Sto}{Q:Sto->Prop}{n:Nat}{c:Cell}(h:Q (S.set n c)):Put Q S n c:=h
theorem zjT {S T:Sto}{Q:Sto->Prop}{k:Nat}{c:Cell}(h:Q (S++T.set k c)):Put Q (S++T) (S.length+k) c:=by
 unfold Put;rw [List.set_append_right _ _ (Nat.le_add_right _ _),Nat.add_sub_cancel_left];exact h
section
variable {nx:Rho->Sto->Prop}{rt:DK}{bk ct:Rho->Sto->Prop}{Z:Rho}{S:Sto}
theorem zlJ {t u:DS}(h:t ⟨u ⟨nx,rt,bk,ct⟩,rt,bk,ct⟩ Z S):zG t u ⟨nx,rt,bk,ct⟩ Z S:=h
theorem r_J {t:DS}(J:Rho->Sto->Prop)(h:t ⟨J,rt,bk,ct⟩ Z S)(hJ:∀ Z S,J Z S->nx Z S):sJ t ⟨nx,rt,bk,ct⟩ Z S:=⟨J,hJ,h⟩
theorem zsM {t:DS}(h:t ⟨nx,rt,bk,ct⟩ Z S):sJ t ⟨nx,rt,bk,ct⟩ Z S:=⟨nx,fun _ _ h=>h,h⟩
theorem zvK (h:nx Z S):zag ⟨nx,rt,bk,ct⟩ Z S:=h
theorem ztc {t:DE}(h:t Z S rt):z9 t ⟨nx,rt,bk,ct⟩ Z S:=h
theorem zxd {t:DE}(h:t Z S fun _ S1=>nx Z S1):zaq t ⟨nx,rt,bk,ct⟩ Z S:=h
theorem zs0 {t:DE}{g:DG}(h:t Z S fun x S1=>g x Z S1 nx):zO t g ⟨nx,rt,bk,ct⟩ Z S:=h
theorem zv4 {c:DT}{t u:DS}(h:c Z S fun b S1=>if b=true then t ⟨nx,rt,bk,ct⟩ Z S1 else u ⟨nx,rt,bk,ct⟩ Z S1):sIf c t u ⟨nx,rt,bk,ct⟩ Z S:=h
theorem zvh {c f:Str}{to tv:DE}(h:tv Z S fun y S1=>to Z S1 fun x S2=>∃ n fs,x=.ref n/\S2[n]?=some (.ins c fs)/\fs.length<100/\nx Z (S2.set n (.ins c (putD f y fs)))):zeB c f to tv ⟨nx,rt,bk,ct⟩ Z S:=h
theorem zyy {i:Nat}{t:DE}{a:Int}(e:Z[i]?=some (some (.int a)))(h:t Z S fun y S1=>∃ b,y=.int b/\nx (Z.set i (some (.int (a+b)))) S1):zsO i t ⟨nx,rt,bk,ct⟩ Z S:=⟨a,e,h⟩
theorem zxT {wi:DI}{g:DG}{t:DS}(h:wi Z S fun J S1=>zsX nx rt g t Z J S1):za3 wi g t ⟨nx,rt,bk,ct⟩ Z S:=h
theorem zr5 {c:DT}{t:DS}(W:Nat->Rho->Sto->Prop)(m:Nat)(h0:W m Z S)(h:∀ m Z S,W m Z S->c Z S fun b S1=>if b=true then zpy W m t rt nx Z S1 else nx Z S1):zfm c t ⟨nx,rt,bk,ct⟩ Z S:=⟨W,⟨m,h0⟩,h⟩
theorem zx4 {c:DT}{t:DS}(W:Nat->Rho->Sto->Prop)(E:Rho->Sto->Prop)(m:Nat)(h0:W m Z S)(hE:∀ Z S,E Z S->nx Z S)(h:∀ nx':Rho->Sto->Prop,(∀ Z S,E Z S->nx' Z S)->∀ m Z S,W m Z S->c Z S fun b S1=>if b=true then zpy W m t rt nx' Z S1 else nx' Z S1):zfm c t ⟨nx,rt,bk,ct⟩ Z S:=⟨W,⟨m,h0⟩,h nx hE⟩
theorem zpJ {t:DS}{W:Nat->Rho->Sto->Prop}{m:Nat}(h:t ⟨fun ρ' S'=>∃ m',m'<m/\W m' ρ' S',rt,nx,fun ρ' S'=>∃ m',m'<m/\W m' ρ' S'⟩ Z S):zpy W m t rt nx Z S:=⟨_,fun _ _ z=>z,h⟩
theorem zom {i:Nat}{d:D}{Q:Rho->Sto->Prop}(h:Q (Z.set i (some d)) S):zB i d Z S Q:=h
theorem zwp {Q:Rho->Sto->Prop}(h:Q Z S):zb3 [] Z S Q:=⟨rfl,h⟩
theorem zuB {t:DG}{u:DGs}{d:D}{r:List D}{Q:Rho->Sto->Prop}(h:t d Z S fun ρ' S'=>u r ρ' S' Q):zah t u (d::r) Z S Q:=⟨d,r,rfl,h⟩
theorem zw5 {n:Nat}{t:DGs}{xs:List D}{Q:Rho->Sto->Prop}(e:xs.length=n)(h:t xs Z S Q):zbZ n t (.tup xs) Z S Q:=⟨xs,rfl,e,h⟩
theorem zvk {to ti:DE}{d:D}{Q:Rho->Sto->Prop}(h:to Z S fun o S1=>ti Z S1 fun i S2=>zsZ d Z Q o i S2):zi3 to ti d Z S Q:=h
theorem zgx {i:Nat}{d:D}{Q:DK}(h:Z[i]?=some (some d))(q:Q d S):zf i Z S Q:=⟨d,h,q⟩
theorem r_c {d:D}{Q:DK}(q:Q d S):dC d Z S Q:=q
theorem zpC {r:DR2}{ta tb:DE}{Q:DK}(h:ta Z S fun x S1=>tb Z S1 fun y S2=>r x y S2 Q):dOp r ta tb Z S Q:=h
theorem zyP {r:D->Sto->DK->Prop}{ta:DE}{Q:DK}(h:ta Z S fun x S1=>r x S1 Q):dUn r ta Z S Q:=h
theorem zyM {Q:List D->Sto->Prop}(h:Q [] S):zA Z S Q:=h
theorem zm1 {ta:DE}{tr:DA}{Q:List D->Sto->Prop}(h:ta Z S fun x S1=>tr Z S1 fun xs S2=>Q (x::xs) S2):zm ta tr Z S Q:=h
theorem ztm {t:DA}{Q:DK}(h:t Z S fun xs S1=>xs.length<=big/\Q (.tup xs) S1):dTup t Z S Q:=h
theorem zyv {t:DA}{Q:DK}(h:t Z S fun xs S1=>xs.length<=big/\New Q S1 xs):zcj t Z S Q:=h
theorem zyu {xs:List D}{P:Prop}(h:Nat.ble xs.length big=true)(q:P):xs.length<=big/\P:=⟨Nat.le_of_ble_eq_true h,q⟩
theorem zv5 {f:DSp}{t:DA}{Q:DK}(h:t Z S fun xs S1=>f xs S1 Q):dCall f t Z S Q:=h
theorem r_b {r:DB}{t:DA}{Q:DK}(h:t Z S fun xs S1=>r xs S1 Q):dB r t Z S Q:=h
theorem r_m {r:DM}{ta:DE}{t:DA}{Q:DK}(h:ta Z S fun x S1=>(∃ n ys,x=.ref n/\S1[n]?=some (.lst ys))/\t Z S1 fun xs S2=>r x xs S2 Q):dM r ta t Z S Q:=h
theorem zxX {n:Nat}{ys:List D}{P:Prop}(h:S[n]?=some (.lst ys))(q:P):(∃ m ys,D.ref n=.ref m/\S[m]?=some (.lst ys))/\P:=⟨⟨n,ys,rfl,h⟩,q⟩
theorem r_t {t:DE}{Q:Bool->Sto->Prop}(h:t Z S fun x S1=>∃ b,x=.bl b/\Q b S1):dT t Z S Q:=h
theorem zyZ {c:Bool}{P:Bool->Prop}(h:P c):∃ b,D.bl c=D.bl b/\P b:=⟨c,rfl,h⟩
theorem zyj {c:Int}{P:Int->Prop}(h:P c):∃ b,D.int c=D.int b/\P b:=⟨c,rfl,h⟩
theorem zys {t u:DT}{Q:Bool->Sto->Prop}(h:t Z S fun c S1=>if c=true then u Z S1 Q else Q false S1):zej t u Z S Q:=h
theorem zzr {t u:DT}{Q:Bool->Sto->Prop}(h:t Z S fun c S1=>if c=true then Q true S1 else u Z S1 Q):dOr t u Z S Q:=h
theorem zyx {t:DT}{Q:Bool->Sto->Prop}(h:t Z S fun c S1=>Q (!c) S1):zfi t Z S Q:=h
theorem zwc {t u:DE}{Q:DK}(h:t Z S fun x S1=>∃ c,x=.bl c/\if c=true then u Z S1 Q else Q (.bl false) S1):ziy t u Z S Q:=h
theorem zxU {t u:DE}{Q:DK}(h:t Z S fun x S1=>∃ c,x=.bl c/\if c=true then Q (.bl true) S1 else u Z S1 Q):zr3 t u Z S Q:=h
theorem zvp {t:DE}{Q:DK}(h:t Z S fun x S1=>∃ c,x=.bl c/\Q (.bl (!c)) S1):zij t Z S Q:=h
theorem zxs {c:DT}{ta tb:DE}{Q:DK}(h:c Z S fun b S1=>if b=true then ta Z S1 Q else tb Z S1 Q):zkv c ta tb Z S Q:=h
theorem zud {r r':DR2}{ta tb tc:DE}{Q:DK}(h:ta Z S fun x S1=>tb Z S1 fun y S2=>r x y S2 fun z S3=>∃ c,z=.bl c/\if c=true then tc Z S3 fun w S4=>r' y w S4 Q else Q (.bl false) S3):zhT r r' ta tb tc Z S Q:=h
theorem zx0 {f:Str}{ta:DE}{Q:DK}(h:ta Z S fun x S1=>∃ n c fs d,x=.ref n/\S1[n]?=some (.ins c fs)/\fs.lookup f=some d/\Q d S1):zbK f ta Z S Q:=h
theorem zy4 {r:D->Option Int->Option Int->Sto->DK->Prop}{ta:DE}{lo hi:Option DE}{Q:DK}(h:ta Z S fun x S1=>ziX lo Z S1 fun l S2=>ziX hi Z S2 fun h S3=>r x l h S3 Q):dSl r ta lo hi Z S Q:=h
theorem zwj {Q:Option Int->Sto->Prop}(h:Q none S):ziX none Z S Q:=h
theorem zvH {t:DE}{Q:Option Int->Sto->Prop}(h:t Z S fun x S1=>∃ i,x=.int i/\Q (some i) S1):ziX (some t) Z S Q:=h
theorem zvl {Q:Bool->Sto->Prop}(h:Q true S):zcy Z S Q:=h
end
section
variable {S:Sto}{Q:DK}
theorem zya {i j:Int}(q:Q (.int (i+j)) S):zal (.int i) (.int j) S Q:=.inl ⟨i,j,rfl,rfl,q⟩
theorem zlZ {xs ys:List D}(h:xs.length+ys.length<=big)(q:Q (.tup (xs++ys)) S):zal (.tup xs) (.tup ys) S Q:=.inr (.inl ⟨xs,ys,rfl,rfl,h,q⟩)
theorem zw4 {x y:D}{xs ys:List D}(hx:Lst S x xs)(hy:Lst S y ys)(h:xs.length+ys.length<=big)(q:New Q S (xs++ys)):zal x y S Q:=.inr (.inr (.inl ⟨xs,ys,hx,hy,h,q⟩))
theorem zwS {i j:Str}(h:i.length+j.length<=big)(q:Q (.str (i++j)) S):zal (.str i) (.str j) S Q:=.inr (.inr (.inr ⟨i,j,rfl,rfl,h,q⟩))
theorem zyc {i j:Int}(q:Q (.int (i-j)) S):zap (.int i) (.int j) S Q:=⟨i,j,rfl,rfl,q⟩
theorem zxq {i j:Int}(c:zaL i j)(q:Q (.int (i*j)) S):zbo (.int i) (.int j) S Q:=.inl ⟨i,j,rfl,rfl,c,q⟩
theorem zym {c:Nat}{z:Str}(q:Q (.bl (decide (c∈z.cps.toList))) S):oIn (.str ⟨#[c]⟩) (.str z) S Q:=.inr ⟨c,z,rfl,rfl,q⟩
theorem zxy {i j:Int}(c:0<j/\My.Bd 8000 j)(q:Q (.int (i/j)) S):oDiv (.int i) (.int j) S Q:=⟨i,j,rfl,rfl,⟨by lia,c.2⟩,by show Q (.int (i.fdiv j)) S;rw [Int.fdiv_eq_ediv_of_nonneg i (by lia)];exact q⟩
theorem zxo {i j:Int}(c:0<j)(q:Q (.int (i%j)) S):oMod (.int i) (.int j) S Q:=⟨i,j,rfl,rfl,(by show j≠0;lia),by show Q (.int (i.fmod j)) S;rw [Int.fmod_eq_emod_of_nonneg i (by lia)];exact q⟩
theorem zp1 {i j:Int}(c:ztp i j)(q:Q (.int (i.fdiv j)) S):oDiv (.int i) (.int j) S Q:=⟨i,j,rfl,rfl,c,q⟩
theorem zvn {i j:Int}(c:j≠0)(q:Q (.int (i.fmod j)) S):oMod (.int i) (.int j) S Q:=⟨i,j,rfl,rfl,c,q⟩
theorem zxZ {i:Int}(q:Q (.int (-i)) S):zb2 (.int i) S Q:=⟨i,rfl,q⟩
theorem zy6 {i j:Int}(q:Q (.bl (decide (i<j))) S):oLt (.int i) (.int j) S Q:=⟨i,j,rfl,rfl,q⟩
theorem zzq {i j:Int}(q:Q (.bl (decide (i<=j))) S):oLe (.int i) (.int j) S Q:=⟨i,j,rfl,rfl,q⟩
theorem zzj {i j:Int}(q:Q (.bl (decide (j<i))) S):oGt (.int i) (.int j) S Q:=⟨i,j,rfl,rfl,q⟩
theorem zyq {i j:Int}(q:Q (.bl (decide (i=j))) S):oEq (.int i) (.int j) S Q:=⟨_,.inl ⟨rfl,rfl,rfl⟩,q⟩
theorem zyr {i j:Int}(q:Q (.bl (!decide (i=j))) S):oNe (.int i) (.int j) S Q:=⟨_,.inl ⟨rfl,rfl,rfl⟩,q⟩
theorem zvZ (q:Q (.bl false) S):zhO .non .non S Q:=.inl ⟨rfl,q⟩
theorem zxm {i:Int}(q:Q (.bl true) S):zhO (.int i) .non S Q:=.inl ⟨rfl,q⟩
theorem zs8 {x:D}(q:Q (.bl (!zlI x)) S):zhO x .non S Q:=.inl ⟨rfl,q⟩
theorem zyE {xs:List D}{i:Int}{d:D}(e:atD xs i=some d)(q:Q d S):oIx (.tup xs) (.int i) S Q:=.inl ⟨i,xs,d,rfl,.inl rfl,e,q⟩
theorem zyI {x:D}{xs:List D}{i:Int}{d:D}(h:Lst S x xs)(e:atD xs i=some d)(q:Q d S):oIx x (.int i) S Q:=.inl ⟨i,xs,d,rfl,.inr h,e,q⟩
theorem zxW {z:Str}{i:Int}{c:Nat}(hz:z.length<=big)(e:atS z i=some c)(q:Q (.str ⟨#[c]⟩) S):oIx (.str z) (.int i) S Q:=.inr ⟨z,i,c,rfl,rfl,hz,e,q⟩
theorem zwd {xs:List D}{lo hi:Option Int}(q:Q (.tup (cutD xs lo hi)) S):zje (.tup xs) lo hi S Q:=.inl ⟨xs,rfl,q⟩
theorem zwD {x:D}{xs:List D}{lo hi:Option Int}(h:Lst S x xs)(q:New Q S (cutD xs lo hi)):zje x lo hi S Q:=.inr (.inl ⟨xs,h,q⟩)
theorem zvX {xs:List D}(q:Q (.int xs.length) S):zbn [.tup xs] S Q:=.inl ⟨_,xs,rfl,.inl rfl,q⟩
theorem zv7 {x:D}{xs:List D}(h:Lst S x xs)(q:Q (.int xs.length) S):zbn [x] S Q:=.inl ⟨_,xs,rfl,.inr h,q⟩
theorem zrq {z:Str}(hz:z.length<=big)(q:Q (.int z.length) S):zbn [.str z] S Q:=.inr ⟨z,rfl,hz,q⟩
theorem zxx {i:Int}(q:Q (.int (i.natAbs:Int)) S):zrO [.int i] S Q:=⟨i,rfl,q⟩
theorem zwM {i j:Int}(q:Q (.int (max i j)) S):zdd [.int i,.int j] S Q:=⟨i,j,rfl,q⟩
theorem zw8 {i j:Int}(q:Q (.int (min i j)) S):zeD [.int i,.int j] S Q:=⟨i,j,rfl,q⟩
theorem zwF {x:D}{ns:List Int}(h:Lst S x (ns.map D.int))(h0:0<ns.length)(q:∀ m:Int,m∈ns->(∀ a∈ns,a<=m)->Q (.int m) S):zpl [x] S Q:=⟨x,ns,rfl,h,h0,q⟩
theorem zwZ {x:D}{ns:List Int}(h:Lst S x (ns.map D.int))(h0:0<ns.length)(q:∀ m:Int,m∈ns->(∀ a∈ns,m<=a)->Q (.int m) S):zos [x] S Q:=⟨x,ns,rfl,h,h0,q⟩
theorem zxn {x:D}{bs:List Bool}(h:Lst S x (bs.map D.bl))(q:Q (.bl (bs.all id)) S):zhE [x] S Q:=⟨x,bs,rfl,h,q⟩
theorem zrI {x:D}{xs:List D}(h:Lst S x xs)(q:Q (.tup xs) S):zgd [x] S Q:=⟨_,xs,rfl,.inr h,q⟩
theorem zt1 {x:D}{xs:List D}(h:Lst S x xs)(q:New Q S xs):zjU [x] S Q:=⟨_,xs,rfl,.inr h,q⟩
theorem zu6 {x:D}{cs:List (Int×Int)}(h:Lst S x (cs.map p2))(hl:cs.length<64)(q:∀ ss:List (Int×Int),ss.Perm cs->ss.Pairwise (fun a b=>zjq b a=false)->New Q S (ss.map p2)):zoq [x] S Q:=.inl ⟨x,cs,rfl,h,hl,q⟩
theorem zrx {n:Nat}{xs:List D}{y:D}(h:S[n]?=some (.lst xs))(hl:xs.length<big)(q:Put (Q .non) S n (.lst (xs++[y]))):zcM (.ref n) [y] S Q:=⟨n,xs,y,rfl,rfl,h,hl,q⟩
theorem zpU {n:Nat}{xs ys:List D}(h:S[n]?=some (.lst xs))(hl:xs.length+ys.length<=big)(q:Put (Q .non) S n (.lst (xs++ys))):zjk (.ref n) [.tup ys] S Q:=.inr ⟨n,xs,ys,rfl,rfl,h,hl,q⟩
theorem zxk {n:Nat}{xs:List D}{y:D}(h:S[n]?=some (.lst (y::xs)))(q:Put (Q y) S n (.lst xs)):zo0 (.ref n) [.int 0] S Q:=⟨n,xs,y,rfl,rfl,h,q⟩
theorem zlN {n:Nat}{xs:List D}{k:Int}{j:Nat}{d:D}{Z:Rho}{Q:Rho->Sto->Prop}(h:S[n]?=some (.lst xs))(e:ixD xs.length k=some j)(q:Put (Q Z) S n (.lst (xs.set j d))):zsZ d Z Q (.ref n) (.int k) S:=⟨n,xs,k,j,rfl,rfl,h,e,q⟩
end
section
variable {Z:Rho}{S:Sto}{R:DIt->Sto->Prop}
theorem zwq {t:DE}(h:t Z S fun x S1=>zii x S1 R):zaN t Z S R:=h
theorem zxC {xs:List D}(q:R ⟨xs,fun _=>True⟩ S):zii (.tup xs) S R:=.inl ⟨xs,rfl,q⟩
theorem zx5 {x:D}{xs:List D}(h:Lst S x xs)(q:R ⟨xs,fun S=>Lst S x xs⟩ S):zii x S R:=.inr (.inl ⟨xs,h,q⟩)
theorem zxu {z:Str}(q:R ⟨signs z,fun _=>True⟩ S):zii (.str z) S R:=.inr (.inr ⟨z,rfl,q⟩)
theorem zv0 {t:DA}(h:t Z S fun vs S1=>∃ j:Int,vs=[.int j]/\-(2 ^ 62)<=j/\j<2 ^ 62/\R ⟨upto 0 j.toNat,fun _=>True⟩ S1):zhe t Z S R:=h
theorem zve {t:DA}(h:t Z S fun vs S1=>∃ i j:Int,vs=[.int i,.int j]/\R ⟨upto i (j-i).toNat,fun _=>True⟩ S1):zpk t Z S R:=h
theorem zxg {t:DA}(h:t Z S (zmX R)):zg7 t Z S R:=h
theorem zma {x:D}{xs:List D}(h:Lst S x xs)(q:R ⟨zda 0 xs,fun S=>Lst S x xs⟩ S):zmX R [x] S:=.inl ⟨x,xs,rfl,h,q⟩
theorem zvE {Q:DK}{x:D}{zs:List Str}(hx:Lst S x (zs.map D.str))(hl:zs.length<=4000)(q:Q (.int (zrR zs)) S):zoI [x] S Q:=⟨x,zs,rfl,hx,hl,q⟩
theorem zyi {t:DA}(h:t Z S (zpo R)):zsG t Z S R:=h
theorem zzm {x y:D}{xs ys:List D}(hx:Lst S x xs)(hy:Lst S y ys)(q:R ⟨zcA xs ys,fun S=>Lst S x xs/\Lst S y ys⟩ S):zpo R [x,y] S:=.inl ⟨x,y,xs,ys,rfl,hx,hy,q⟩
theorem zzg {own:Nat}{fv:List Nat}{wi:DI}{g:DG}{tc:DT}{te:DE}{Q:DK}(h:wi Z S fun J S1=>zv9 own fv g tc te Z Q J S1):dLC own fv wi g tc te Z S Q:=h
end
theorem zsk {A B:Prop}(h:B):if false=true then A else B:=by rw [if_neg qq];exact h
theorem zrN {A B:Prop}(h:A):if true=true then A else B:=by rw [if_pos rfl];exact h
theorem r_d {c A B:Prop}[Decidable c](h1:c->A)(h2:¬ c->B):if decide c=true then A else B:=by
 by_cases h:c
 ·rw [decide_eq_true h,if_pos rfl];exact h1 h
 ·rw [decide_eq_false h,if_neg qq];exact h2 h
theorem zjx {c A B:Prop}[Decidable c](h1:¬ c->A)(h2:c->B):if (!decide c)=true then A else B:=by
 by_cases h:c
 ·rw [decide_eq_true h];exact h2 h
 ·rw [decide_eq_false h];exact h1 h
theorem zbF (S T:Sto)(k:Nat):(S++T)[S.length+k]?=T[k]?:=by
 rw [qi (Nat.le_add_right _ _),Nat.add_sub_cancel_left]
theorem zu3 (S T:Sto):(S++T)[S.length]?=T[0]?:=zbF S T 0
theorem zaF {S T:Sto}{c:Cell}:(S++c::T)[S.length]?=some c:=(zbF S (c::T) 0).trans rfl
theorem znR {S T:Sto}{c:Cell}:(S++(T++[c]))[S.length+T.length]?=some c:=by rw [zbF,qi (qf _),Nat.sub_self];rfl
theorem ztX (S T:Sto)(k:Nat)(c:Cell):(S++T).set (S.length+k) c=S++T.set k c:=by
 rw [List.set_append_right _ _ (Nat.le_add_right _ _),Nat.add_sub_cancel_left]
theorem za8 (S T:Sto)(a c:Cell):(S++a::T).set S.length c=S++c::T:=ztX S (a::T) 0 c
theorem zaK {S T:Sto}{n:Nat}{c:Cell}(h:S[n]?=some c):(S++T)[n]?=some c:=by
 have:n<S.length:=by
  rcases qM n S.length with g | g
  ·exact g
  ·rw [qu g] at h;cases h
 rw [qj this];exact h
theorem Lst.old {S T:Sto}{x:D}{xs:List D}(h:Lst S x xs):Lst (S++T) x xs:=h.imp id fun⟨n,e,h⟩=>⟨n,e,zaK h⟩
theorem Lst.at {S T:Sto}{k:Nat}{xs:List D}(h:T[k]?=some (.lst xs)):Lst (S++T) (.ref (S.length+k)) xs:=.inr ⟨_,rfl,by rw [zbF];exact h⟩
theorem Lst.at0 {S T:Sto}{xs:List D}:Lst (S++.lst xs::T) (.ref S.length) xs:=.inr ⟨_,rfl,by rw [zu3];rfl⟩
theorem Lst.new {S T:Sto}{xs:List D}:Lst (S++(T++[.lst xs])) (.ref (S.length+T.length)) xs:=.inr ⟨_,rfl,znR⟩
theorem Lst.rl {S:Sto}{xs:List D}:Lst S (.rl xs) xs:=.inl rfl
theorem Lst.here {S:Sto}{n:Nat}{xs:List D}(h:S[n]?=some (.lst xs)):Lst S (.ref n) xs:=.inr ⟨n,rfl,h⟩
theorem zaA {S T:Sto}{Q:DK}{d:D}(h:fl 20 d=true)(q:Q d S):Fin S Q d (S++T):=.inr ⟨S,List.prefix_append _ _,qf _,.inl h,fun _ _ e=>.inl e,q⟩
theorem fin_same {S S':Sto}{Q:DK}{d:D}(q:Q d S'):Fin S Q d S':=.inl q
section
variable {S:Sto}{Q:DK}
theorem zlw {i:Int}(q:Q (.bl true) S):zjh [.int i,.ty "int"] S Q:=⟨_,_,true,rfl,by rfl,q⟩
theorem zkl {i:Int}(q:Q (.bl false) S):zjh [.int i,.ty "bool"] S Q:=⟨_,_,false,rfl,by rfl,q⟩
theorem zjQ {xs:List D}(q:Q (.bl true) S):zjh [.tup xs,.ty "tuple"] S Q:=⟨_,_,true,rfl,by rfl,q⟩
end
theorem zxR {A B:Prop}(h:B):if (!true)=true then A else B:=zsk h
theorem zxP {A B:Prop}(h:A):if (!false)=true then A else B:=zrN h
theorem zhP {S:Sto}{Q:DK}{x:D}{bs:List Bool}{b:Bool}(h:Lst S x (bs.map D.bl))(e:bs.all id=b)(q:Q (.bl b) S):zhE [x] S Q:=zxn h (by rw [e];exact q)
def LcW (S:Sto)(items:List D)(p:D->Bool)(f:D->D)(i:Nat)(ys:List D)(S':Sto):Prop:=S'=S/\ys=((items.take i).filter p).map f
theorem zaC {α:Type}{xs:List α}{i:Nat}{x:α}(h:xs[i]?=some x):xs.take (i+1)=xs.take i++[x]:=by rw [List.take_succ,h];rfl
theorem zdg {S:Sto}{items:List D}{p:D->Bool}{f:D->D}{i:Nat}{ys:List D}{d y:D}(hd:items[i]?=some d)(hw:LcW S items p f i ys S)(hp:p d=true)(hy:y=f d):LcW S items p f (i+1) (ys++[y]) S :=
 ⟨rfl,by rw [zaC hd,List.filter_append,qv,<- hw.2,List.filter_cons_of_pos hp,hy];rfl⟩
theorem ztg {S:Sto}{items:List D}{p:D->Bool}{f:D->D}{i:Nat}{ys:List D}{d:D}(hd:items[i]?=some d)(hw:LcW S items p f i ys S)(hp:p d=false):LcW S items p f (i+1) ys S :=
 ⟨rfl,by rw [zaC hd,List.filter_append,qv,<- hw.2,List.filter_cons_of_neg (by rw [hp];exact qq)];simp⟩
theorem zbE {own:Nat}{fv:List Nat}{xs:List D}{ok:Sto->Prop}{g:DG}{tc:DT}{te:DE}{Z:Rho}{S:Sto}{Q:DK}(p:D->Bool)(f:D->D)(hok:ok S)(hbig:xs.length<=big)
  (step:∀ i d ys,xs[i]?=some d->LcW S xs p f i ys S->g d (zkN own fv Z) S fun ρ2 S2=>tc ρ2 S2 fun b S3=>if b=true then te ρ2 S3 fun y S4=>LcW S xs p f (i+1) (ys++[y]) S4 else LcW S xs p f (i+1) ys S3)
  (q:New Q S ((xs.filter p).map f)):zv9 own fv g tc te Z Q ⟨xs,ok⟩ S:=by
 refine⟨hbig,LcW S xs p f,⟨rfl,by simp⟩,fun i ys S' h=>by rw [h.1];exact hok,fun i d ys S' hd h=>?_,fun ys S' h=>?_⟩
 ·obtain⟨rfl,_⟩:=id h
  exact step i d ys hd h
 ·obtain⟨rfl,rfl⟩:=h
  rw [List.take_length];exact q
theorem filter_true {α:Type}(xs:List α):xs.filter (fun _=>true)=xs:=List.filter_eq_self.mpr fun _ _=>rfl
theorem zfa {ds:List D}{i:Nat}{d:D}(h:ds[i]?=some d):atD ds (i:Int)=some d:=by
 have hl:i<ds.length:=by
  rcases qM i ds.length with g | g
  ·exact g
  ·rw [qu g] at h;cases h
 unfold atD ixD
 rw [if_pos (by lia),if_pos (by lia)]
 simpa using h
theorem zib {lo:Int}{n i:Nat}{d:D}(h:(upto lo n)[i]?=some d):i<n/\d=.int (lo+i):=by
 unfold upto at h
 rw [qo] at h
 by_cases hi:i<n
 ·rw [List.getElem?_range hi] at h
  exact⟨hi,by simpa using h.symm⟩
 ·rw [qu (by simpa using hi)] at h;cases h
theorem zf5 (lo:Int)(n:Nat):(upto lo n).length=n:=by unfold upto;simp
theorem zqt {zs:List Int}{k:Int}(h0:0<=k)(h:k<zs.length):∃ z,z∈zs/\atD (zs.map D.int) k=some (.int z):=by
 refine⟨zs[k.toNat]'(by lia),List.getElem_mem _,?_⟩
 unfold atD ixD
 rw [qb,if_pos h0,if_pos h]
 simp only [Option.bind_some]
 rw [qo,qc (by lia)];rfl
theorem zvF {zs:List Int}{k:Int}(h0:0<=k)(h:k<zs.length):ixD (zs.map D.int).length k=some k.toNat:=by
 unfold ixD
 rw [qb,if_pos h0,if_pos h]
theorem zrw {zs:List Int}{i:Nat}{v z:Int}(h:z∈zs.set i v):z∈zs\/z=v:=by
 rcases List.mem_or_eq_of_mem_set h with h | h
 ·exact .inl h
 ·exact .inr h
theorem zem {zs:List Int}{i:Nat}{d:D}(h:(zs.map D.int)[i]?=some d):∃ z,zs[i]?=some z/\d=.int z:=by
 rw [qo] at h
 cases e:zs[i]? with
 | none=>rw [e] at h;cases h
 | some p=>rw [e] at h;cases h;exact⟨p,rfl,rfl⟩
theorem zeI {cs:List (Int×Int)}{i:Nat}{d:D}(h:(cs.map p2)[i]?=some d):∃ c,cs[i]?=some c/\d=p2 c:=by
 rw [qo] at h
 cases e:cs[i]? with
 | none=>rw [e] at h;cases h
 | some p=>rw [e] at h;cases h;exact⟨p,rfl,rfl⟩
theorem zab {α:Type}{xs:List α}{i:Nat}{x:α}(h:xs[i]?=some x):i<xs.length:=by
 rcases qM i xs.length with g | g
 ·exact g
 ·rw [qu g] at h;cases h
def zbL:Option Int->D
 | none=>.non
 | some v=>.int v
theorem zcn:∀ {xs:List D} {k i:Nat} {d:D},(zda k xs)[i]?=some d->∃ x,xs[i]?=some x/\d=.tup [.int ((k+i:Nat):Int),x]
 | [],k,i,d,h=>by simp [zda] at h
 | x::xs,k,0,d,h=>⟨x,rfl,by simpa [zda] using h.symm⟩
 | x::xs,k,i+1,d,h=>by
  obtain⟨y,e1,e2⟩:=zcn (xs:=xs) (k:=k+1) (i:=i) (d:=d) (by simpa [zda] using h)
  exact⟨y,by simpa using e1,by rw [e2,show k+1+i=k+(i+1) by lia]⟩
theorem zcq:∀ (k:Nat) (xs:List D),(zda k xs).length=xs.length
  | _,[]=>rfl
  | k,x::xs=>congrArg (· + 1) (zcq (k+1) xs)
theorem zgQ:∀ {xs ys:List D} {i:Nat} {d:D},(zcA xs ys)[i]?=some d->∃ x y,xs[i]?=some x/\ys[i]?=some y/\d=.tup [x,y]
 | [],ys,i,d,h=>by simp [zcA] at h
 | x::xs,[],i,d,h=>by simp [zcA] at h
 | x::xs,y::ys,0,d,h=>⟨x,y,rfl,rfl,by simpa [zcA] using h.symm⟩
 | x::xs,y::ys,i+1,d,h=>by
  obtain⟨a,b,e1,e2,e3⟩:=zgQ (xs:=xs) (ys:=ys) (i:=i) (d:=d) (by simpa [zcA] using h)
  exact⟨a,b,by simpa using e1,by simpa using e2,e3⟩
theorem zed:∀ (xs ys:List D),(zcA xs ys).length=min xs.length ys.length
 | [],ys=>by simp [zcA]
 | x::xs,[]=>by simp [zcA]
 | x::xs,y::ys=>by
  show (zcA xs ys).length+1=min (xs.length+1) (ys.length+1)
  rw [zed xs ys];lia
def zfu:DSp:=fun ds S Q=>∃ ns:List Int,ds=[.rl (ns.map D.int)]/\(S=[]/\∀ n∈ns,Hg n)/\ns.length<=63/\∀ S',Q (.bl true) S'
theorem ztY:∀ ds So Q,zfu ds So Q->ds.length=1:=fun ds So Q ⟨ns,e,_⟩=>by rw [e];rfl
theorem znP {α β:Type}(f:α->β)(xs:List α)(lo hi:Option Int):cutD (xs.map f) lo hi=(cutD xs lo hi).map f:=by
 unfold cutD
 rw [qb,List.map_take,List.map_drop]
theorem zub {α:Type}(xs:List α)(lo hi:Option Int):(cutD xs lo hi).length<=slD xs.length xs.length hi-slD xs.length 0 lo:=by
 unfold cutD
 rw [List.length_take];lia
section
variable {nx:Rho->Sto->Prop}{rt:DK}{bk ct:Rho->Sto->Prop}{Z:Rho}{S:Sto}
theorem zu4 {f:zfd}{ex:XR}{t:DA}{Q:DK}(h:t Z S fun xs S1=>f xs S1 Q (ex Z)):zdp f ex t Z S Q:=h
theorem zuS {ex:XR}{c:Str}(h:ex Z c S):zh8 ex c ⟨nx,rt,bk,ct⟩ Z S:=h
end
theorem zuI {S:Sto}{Q:DK}{x y:Str}{b:Bool}(fx:fl 20 (.str x)=true)(fy:fl 20 (.str y)=true)(e:(x==y)=b)(q:Q (.bl b) S):oEq (.str x) (.str y) S Q:=⟨_,.inl ⟨fx,fy,rfl⟩,by show Q (.bl (x==y)) S;rw [e];exact q⟩
theorem zui {S:Sto}{Q:DK}{x y:Str}{b:Bool}(fx:fl 20 (.str x)=true)(fy:fl 20 (.str y)=true)(e:(x==y)=b)(q:Q (.bl (!b)) S):oNe (.str x) (.str y) S Q:=⟨_,.inl ⟨fx,fy,rfl⟩,by show Q (.bl (!(x==y))) S;rw [e];exact q⟩
section
variable {nx:Rho->Sto->Prop}{rt:DK}{bk ct:Rho->Sto->Prop}{Z:Rho}{S:Sto}{Q:DK}{td ti tz tv:DE}
theorem zwN (h:Q (.ref S.length) (S++[.dk []])):zoL Z S Q:=h
theorem zwr (h:Q (.ref S.length) (S++[.dt []])):zoO Z S Q:=h
theorem zyF (h:td Z S fun x S1=>ti Z S1 fun y S2=>∃ d,DGt S2 x y (some d)/\Q d S2):zi7 td ti Z S Q:=h
theorem zwH (h:tv Z S fun v S1=>td Z S1 fun x S2=>ti Z S2 fun y S3=>zeE S3 x y v (nx Z)):zie td ti tv ⟨nx,rt,bk,ct⟩ Z S:=h
theorem DGt.k {n:Nat}{kvs:List (Str×D)}{z:Str}{o:Option D}(h:S[n]?=some (.dk kvs))(e:dval kvs z=o):DGt S (.ref n) (.str z) o:=.inl ⟨n,kvs,z,rfl,rfl,h,e.symm⟩
theorem DGt.t {n:Nat}{kvs:List (List (Sum Int Str)×D)}{ks:List (Sum Int Str)}{o:Option D}(h:S[n]?=some (.dt kvs))(e:dval kvs ks=o):DGt S (.ref n) (.tup (ks.map kD)) o:=.inr ⟨n,kvs,ks,rfl,rfl,h,e.symm⟩
theorem zeE.k {n:Nat}{kvs:List (Str×D)}{z:Str}{v:D}{P:Sto->Prop}(h:S[n]?=some (.dk kvs))(hl:kvs.length<big)(q:Put P S n (.dk (dput kvs z v))):zeE S (.ref n) (.str z) v P:=.inl ⟨n,kvs,z,rfl,rfl,h,hl,q⟩
theorem zeE.t {n:Nat}{kvs:List (List (Sum Int Str)×D)}{ks:List (Sum Int Str)}{v:D}{P:Sto->Prop}(h:S[n]?=some (.dt kvs))(hl:kvs.length<big)(q:Put P S n (.dt (dput kvs ks v))):zeE S (.ref n) (.tup (ks.map kD)) v P:=.inr ⟨n,kvs,ks,rfl,rfl,h,hl,q⟩
end
section
variable {κ:Type}[DecidableEq κ]
theorem zmS {k:κ}:dval ([]:List (κ×D)) k=none:=rfl
theorem zbz {p:κ×D}{kvs:List (κ×D)}{k:κ}:dval (p::kvs) k=if p.1=k then some p.2 else dval kvs k:=by
 unfold dval
 rw [List.find?_cons]
 by_cases h:p.1=k
 ·rw [if_pos h,decide_eq_true h];rfl
 ·rw [if_neg h,decide_eq_false h]
theorem zg9 (kvs:List (κ×D))(k:κ):(kvs.any fun kv=>decide (kv.1=k))=(dval kvs k).isSome:=by
 induction kvs with
 | nil=>rfl
 | cons p kvs ih =>
  rw [List.any_cons,zbz,ih]
  by_cases h:p.1=k
  ·rw [if_pos h,decide_eq_true h];rfl
  ·rw [if_neg h,decide_eq_false h];rfl
theorem zpP (kvs:List (κ×D))(k j:κ)(v:D):dval (kvs++[(k,v)]) j=(dval kvs j).or (if k=j then some v else none):=by
 induction kvs with
 | nil=>rw [List.nil_append,zbz,zmS];simp
 | cons p kvs ih =>
  rw [List.cons_append,zbz,zbz,ih]
  by_cases h:p.1=j
  ·rw [if_pos h,if_pos h];rfl
  ·rw [if_neg h,if_neg h]
theorem zjo (kvs:List (κ×D))(k j:κ)(v:D):dval (dput kvs k v) j=if k=j then some v else dval kvs j:=by
  unfold dput
  rw [zg9]
  cases e:dval kvs k with
  | none =>
    rw [show (none:Option D).isSome=false from rfl,if_neg qq,zpP]
    by_cases h:k=j
    . subst h;rw [e,if_pos rfl];rfl
    . rw [if_neg h,if_neg h];cases dval kvs j<;>rfl
  | some w =>
    rw [show (some w).isSome=true from rfl,if_pos rfl]
    have:∀ kvs:List (κ×D),dval (kvs.map fun kv=>if kv.1=k then (kv.1,v) else kv) j=if k=j then (dval kvs j).map fun _=>v else dval kvs j:=fun kvs=>by
      induction kvs with
      | nil=>simp [zmS]
      | cons p kvs ih =>
        rw [qJ,zbz,zbz,ih]
        by_cases hp:p.1=k
        . rw [if_pos hp]
          by_cases h:k=j
          . rw [if_pos h,if_pos (hp.trans h),if_pos (hp.trans h)];simp [h]
          . have:¬ p.1=j:=fun z=>h (hp.symm.trans z)
            rw [if_neg this,if_neg this,if_neg h]
        . rw [if_neg hp]
          by_cases h:k=j
          . have:¬ p.1=j:=fun z=>hp (z.trans h.symm)
            rw [if_neg this,if_neg this]
          . rw [if_neg h,if_neg h]
    rw [this]
    by_cases h:k=j
    . subst h;rw [if_pos rfl,if_pos rfl,e];rfl
    . rw [if_neg h,if_neg h]
theorem ziW (kvs:List (κ×D))(k:κ)(v:D):(dput kvs k v).length<=kvs.length+1:=by
 unfold dput
 split
 ·rw [qb];lia
 ·simp
theorem zqd (kvs:List (κ×D))(k:κ)(v:D):(dput kvs k v).map (·.1)=if (dval kvs k).isSome=true then kvs.map (·.1) else kvs.map (·.1)++[k]:=by
  unfold dput
  rw [zg9]
  split
  . rw [List.map_map]
    refine List.map_congr_left fun p _=>?_
    show (if p.1=k then (p.1,v) else p).1=p.1
    split<;>rfl
  . rw [qv];rfl
end
theorem zjv (c:List Str)(z:Str):(zhW c z).length=if c.any (·==z) then c.length else c.length+1:=by
  unfold zhW;split<;>simp
theorem zl7 (c:List Str)(z y:Str):(zhW c z).any (·==y)=(c.any (·==y)||decide (y=z)):=by
  unfold zhW
  by_cases h:c.any (·==z)=true
  . rw [if_pos h]
    by_cases e:y=z
    . subst e;rw [h];rfl
    . rw [decide_eq_false e,Bool.or_false]
  . rw [if_neg h,List.any_append]
    congr 1
    by_cases e:y=z
    . subst e;simp
    . rw [decide_eq_false e]
      have:(z==y)=false:=beq_eq_false_iff_ne.mpr fun q=>e q.symm
      simp [this]
theorem zky (f:Nat->Str):∀ i,(zc4 f i).length<=i
  | 0=>qf _
  | i+1=>by
    have:=zky f i
    show (zhW (zc4 f i) (f i)).length<=i+1
    rw [zjv];split<;>lia
theorem zmM (f:Nat->Str)(y:Str):∀ i,((zc4 f i).any (·==y)=true↔∃ j,j<i/\f j=y)
  | 0=>⟨fun h=>(by simp [zc4] at h),fun⟨j,hj,_⟩=>(by lia)⟩
  | i+1=>by
    show ((zhW (zc4 f i) (f i)).any (·==y)=true)↔_
    rw [zl7,Bool.or_eq_true,zmM f y i,decide_eq_true_eq]
    constructor
    . rintro (⟨j,hj,e⟩ | e)
      . exact⟨j,by lia,e⟩
      . exact⟨i,by lia,e.symm⟩
    . rintro⟨j,hj,e⟩
      rcases qM j i with h | h
      . exact .inl ⟨j,h,e⟩
      . have:j=i:=by lia
        subst this;exact .inr e.symm
theorem zmr (f:Nat->Str):∀ i,(∀ a b,a<b->b<i->f a≠f b)->(zc4 f i).length=i
 | 0,_=>rfl
 | i+1,h=>by
  show (zhW (zc4 f i) (f i)).length=i+1
  rw [zjv,zmr f i fun a b x y=>h a b x (by lia)]
  rw [if_neg]
  intro z
  obtain⟨j,hj,e⟩:=(zmM f (f i) i).mp z
  exact h j i hj (by lia) e
theorem zoK {zs:List Str}(h:zs.Nodup):zrR zs=zs.length:=zmr _ _ fun a b hab hb=>by
 show zs.getD a Str.empty≠zs.getD b Str.empty
 rw [qC,qC,qc hb,qc (show a<zs.length by lia)]
 exact List.pairwise_iff_getElem.mp h a b (by lia) hb hab
end Dp
namespace Rm
structure Pc where
 lo:Int
 hi:Int
 to:Int
 st:Int
instance:DecidableEq Pc:=fun p q=>if h:p.lo=q.lo/\p.hi=q.hi/\p.to=q.to/\p.st=q.st then isTrue (by cases p;cases q;obtain⟨h1,h2,h3,h4⟩:=h;cases h1;cases h2;cases h3;cases h4;rfl) else isFalse (fun e=>h (by subst e;exact⟨rfl,rfl,rfl,rfl⟩))
def Pc.led (p:Pc)(h:Int):Int:=p.to+p.st*(h-p.lo)
def Pc.fin (p:Pc):Int:=p.led p.hi
def draw (p:Pc)(t:Int):Prop:=if p.lo=p.hi then t=p.to\/t=p.to+1 else t=p.led (p.hi+1)
instance (p:Pc) (t:Int):Decidable (draw p t):=by unfold draw;infer_instance
structure Good (p:Pc):Prop where
 le:p.lo<=p.hi
 st:p.st=0\/p.st=1
 one:p.lo=p.hi->p.st=0
structure Link (p q:Pc):Prop where
 nx:q.lo=p.hi+1
 up:p.fin<=q.to
 nd:¬ draw p q.to
structure IsR (ps:List Pc):Prop where
 good:∀ p∈ps,Good p
 link:∀ (i:Nat) p q,ps[i]?=some p->ps[i+1]?=some q->Link p q
theorem IsR.nil:IsR []:=⟨(fun _ h=>by simp at h),fun i p q h=>by simp at h⟩
def inP (p:Pc)(h:Int):Prop:=p.lo<=h/\h<=p.hi
instance (p:Pc) (h:Int):Decidable (inP p h):=by unfold inP;infer_instance
def at':List Pc->Int->Option Int
 | [],_=>none
 | p::r,h=>if inP p h then some (p.led h) else at' r h
theorem zaz (p:Pc)(r:List Pc)(h:Int):at' (p::r) h=if inP p h then some (p.led h) else at' r h:=rfl
theorem zh2 (a b:List Pc)(h:Int):at' (a++b) h=(at' a h).or (at' b h):=by
 induction a with
 | nil=>simp [at']
 | cons p a ih =>
  rw [List.cons_append,zaz,zaz]
  split
  ·rfl
  ·exact ih
theorem IsR.init {ps:List Pc}{p:Pc}(h:IsR (ps++[p])):IsR ps/\Good p/\∀ q,ps.getLast?=some q->Link q p:=by
 refine⟨⟨fun q hq=>h.good q (by simp [hq]),fun i a b ha hb=>h.link i a b ?_ ?_⟩,h.good p (by simp),fun q hq=>?_⟩
 ·rw [qj (by
   rcases qM i ps.length with g | g
   ·exact g
   ·rw [qu g] at ha;cases ha)];exact ha
 ·rw [qj (by
   rcases qM (i+1) ps.length with g | g
   ·exact g
   ·rw [qu g] at hb;cases hb)];exact hb
 ·have hne:ps≠[]:=by intro e;rw [e] at hq;simp at hq
  have hl:0<ps.length:=List.length_pos_iff.mpr hne
  refine h.link (ps.length-1) q p ?_ ?_
  ·rw [qj (by lia),<- List.getLast?_eq_getElem?];exact hq
  ·rw [show ps.length-1+1=ps.length by lia,qi (qf _),Nat.sub_self];rfl
theorem IsR.snoc {ps:List Pc}{p:Pc}(h:IsR ps)(g:Good p)(l:∀ q,ps.getLast?=some q->Link q p):IsR (ps++[p]):=by
 refine⟨fun q hq=>?_,fun i a b ha hb=>?_⟩
 ·rcases qF.mp hq with hq | hq
  ·exact h.good q hq
  ·have:q=p:=by simpa using hq
   subst this;exact g
 ·rcases qM (i+1) ps.length with hi | hi
  ·rw [qj (by lia)] at ha
   rw [qj hi] at hb
   exact h.link i a b ha hb
  ·rcases qM i ps.length with hj | hj
   ·have e:i+1=ps.length:=by lia
    rw [qj hj] at ha
    rw [e,qi (qf _),Nat.sub_self] at hb
    have eb:p=b:=by simpa using hb
    subst eb
    exact l a (by rw [List.getLast?_eq_getElem?,show ps.length-1=i by lia];exact ha)
   ·rw [qi (by lia)] at hb
    rw [qu (by simp;lia)] at hb
    cases hb
theorem IsR.below:∀ {ps:List Pc} {p:Pc},IsR (ps++[p])->∀ q∈ps,q.hi<p.lo:=by
 intro ps
 induction hn:ps.length generalizing ps with
 | zero=>intro p h q hq;have:=List.length_eq_zero_iff.mp hn;subst this;simp at hq
 | succ n ih =>
  intro p h q hq
  have hne:ps≠[]:=by intro e;rw [e] at hn;simp at hn
  have hs:=List.dropLast_concat_getLast hne
  obtain⟨h1,hg,hl⟩:=h.init
  have lk:=hl (ps.getLast hne) (List.getLast?_eq_some_getLast hne)
  have gl:=h1.good _ (List.getLast_mem hne)
  have a1:=lk.nx
  rw [<- hs] at hq
  rcases qF.mp hq with hq | hq
  ·have h1':IsR (ps.dropLast++[ps.getLast hne]):=by rw [hs];exact h1
   have:=ih (ps:=ps.dropLast) (by rw [List.length_dropLast,hn];rfl) h1' q hq
   have:=gl.le
   lia
  ·have:q=ps.getLast hne:=by simpa using hq
   rw [this];lia
theorem zk4 {ps:List Pc}{h:Int}(hb:∀ q∈ps,q.hi<h):at' ps h=none:=by
 induction ps with
 | nil=>rfl
 | cons p r ih =>
  rw [zaz,if_neg (by intro z;have:=hb p (by simp);have:=z.2;lia)]
  exact ih fun q hq=>hb q (by simp [hq])
theorem zic {ps:List Pc}{p:Pc}(hr:IsR (ps++[p]))(h:Int):at' (ps++[p]) h=if inP p h then some (p.led h) else at' ps h:=by
 rw [zh2]
 by_cases hi:inP p h
 ·rw [if_pos hi,zk4 fun q hq=>by have:=hr.below q hq;have:=hi.1;lia]
  rw [zaz,if_pos hi];rfl
 ·rw [if_neg hi]
  have:at' [p] h=none:=by rw [zaz,if_neg hi];rfl
  rw [this,Option.or_none]
theorem zcm {p:Pc}(h:p.st=0\/p.st=1)(x:Int):p.led x=if p.st=0 then p.to else p.to+(x-p.lo):=by
  unfold Pc.led
  rcases h with e | e<;>rw [e]<;>simp
structure zgP (ps:List Pc)(lo hi to st:Int)(qs:List Pc):Prop where
 isR:IsR qs
 led:∀ h,at' qs h=if lo<=h/\h<=hi then some (to+st*(h-lo)) else at' ps h
 last:lo<=hi->∃ q,qs.getLast?=some q/\q.hi=hi/\q.fin=to+st*(hi-lo)
 none:hi<lo->qs=ps
 len:qs.length<=ps.length+1
 head:∀ p,ps.head?=some p->∃ q,qs.head?=some q/\q.lo=p.lo/\q.to=p.to
 first:ps=[]->lo<=hi->∃ q,qs.head?=some q/\q.lo=lo/\q.to=to
def zd9 (ps:List Pc)(lo hi to st:Int):List Pc :=
 match ps.getLast? with
 | none=>if lo<=hi then [⟨lo,hi,to,if lo<hi then st else 0⟩] else []
 | some p=>if lo<=hi/\draw p to then
   (if (if st=to-p.fin then hi else lo)+1<=hi then ps.dropLast++[⟨p.lo,lo,p.to,to-p.fin⟩]++[⟨lo+1,hi,to+st*(lo+1-lo),if lo+1<hi then st else 0⟩] else ps.dropLast++[⟨p.lo,(if st=to-p.fin then hi else lo),p.to,to-p.fin⟩])
  else if lo<=hi then ps++[⟨lo,hi,to,if lo<hi then st else 0⟩] else ps
theorem zqk {p:Pc}{t:Int}(g:Good p)(hd:draw p t):(t-p.fin=0\/t-p.fin=1)/\(p.lo<p.hi->t-p.fin=p.st):=by
  unfold draw at hd
  unfold Pc.fin
  rw [zcm g.st] at hd ⊢
  have:=g.le
  have h1:=g.one
  rcases g.st with e | e<;>simp only [e] at hd ⊢<;>split at hd<;>rename_i hh<;>simp at hd ⊢<;>(try simp only [e] at h1)<;>lia
theorem zfE {ps:List Pc}{p:Pc}(h:ps.getLast?=some p):ps=ps.dropLast++[p]:=by
 have hne:ps≠[]:=by intro e;rw [e] at h;simp at h
 rw [List.getLast?_eq_some_getLast hne] at h
 have e:=List.dropLast_concat_getLast hne
 cases h
 exact e.symm
theorem Link.same {q p P:Pc}(h:Link q p)(h1:P.lo=p.lo)(h2:P.to=p.to):Link q P:=⟨by rw [h1];exact h.nx,by rw [h2];exact h.up,by rw [h2];exact h.nd⟩
theorem zeV {e:Int}(he:e=0\/e=1)(x:Int):e*x=if e=0 then 0 else x:=by
  rcases he with rfl | rfl<;>simp
theorem zvg {ps:List Pc}{lo hi to st:Int}(hr:IsR ps)(hst:st=0\/st=1)(hp:lo<=hi->∀ p,ps.getLast?=some p->p.hi+1=lo/\p.fin<=to):zgP ps lo hi to st (zd9 ps lo hi to st):=by
  by_cases hlh:lo<=hi
  case neg =>
    have e:zd9 ps lo hi to st=ps:=by
      unfold zd9
      cases hl:ps.getLast? with
      | none=>rw [List.getLast?_eq_none_iff] at hl;subst hl;simp only [];rw [if_neg hlh]
      | some p=>simp only [];rw [if_neg (fun z=>hlh z.1),if_neg hlh]
    rw [e]
    exact⟨hr,fun h=>by rw [if_neg (by lia)],fun z=>absurd z hlh,fun _=>rfl,by lia,fun p hp=>⟨p,hp,rfl,rfl⟩,fun _ z=>absurd z hlh⟩
  have hs:st*(hi-lo)=if st=0 then 0 else hi-lo:=zeV hst _
  have newG:Good ⟨lo,hi,to,if lo<hi then st else 0⟩:=⟨hlh,by show (if lo<hi then st else 0)=0\/_=1;split<;>first | exact hst | exact .inl rfl,fun e=>by
    have e':lo=hi:=e
    show (if lo<hi then st else 0)=0
    rw [if_neg (by lia)]⟩
  have newL:∀ h,inP ⟨lo,hi,to,if lo<hi then st else 0⟩ h->Pc.led ⟨lo,hi,to,if lo<hi then st else 0⟩ h=to+st*(h-lo):=fun h ⟨h1,h2⟩=>by
    have h1':lo<=h:=h1
    have h2':h<=hi:=h2
    show to+(if lo<hi then st else 0)*(h-lo)=_
    by_cases hl:lo<hi
    . rw [if_pos hl]
    . rw [if_neg hl,show h=lo by lia];simp
  have app:(∀ p,ps.getLast?=some p->Link p ⟨lo,hi,to,if lo<hi then st else 0⟩)->zgP ps lo hi to st (ps++[⟨lo,hi,to,if lo<hi then st else 0⟩]):=fun lk=>by
    have hr':=hr.snoc newG lk
    refine⟨hr',fun h=>?_,fun _=>⟨_,List.getLast?_concat,rfl,newL hi ⟨hlh,qw _⟩⟩,fun z=>by lia,by simp,fun p hp=>?_,fun e _=>by subst e;exact⟨_,rfl,rfl,rfl⟩⟩
    . rw [zic hr']
      by_cases hh:lo<=h/\h<=hi
      . rw [if_pos hh,if_pos (show inP ⟨lo,hi,to,if lo<hi then st else 0⟩ h from hh),newL h hh]
      . rw [if_neg hh,if_neg (show ¬ inP ⟨lo,hi,to,if lo<hi then st else 0⟩ h from hh)]
    . refine⟨p,?_,rfl,rfl⟩
      cases ps with
      | nil=>simp at hp
      | cons a r=>exact hp
  cases hl:ps.getLast? with
  | none =>
    have e:zd9 ps lo hi to st=ps++[⟨lo,hi,to,if lo<hi then st else 0⟩]:=by
      have:ps=[]:=List.getLast?_eq_none_iff.mp hl
      subst this
      unfold zd9
      simp only [List.getLast?_nil];rw [if_pos hlh];rfl
    rw [e]
    exact app fun p h=>by rw [hl] at h;cases h
  | some p =>
    obtain⟨hn,hu⟩:=hp hlh p hl
    have hps:=zfE hl
    have hr2:IsR (ps.dropLast++[p]):=by rw [<- hps];exact hr
    obtain⟨hi0,hg,hlk⟩:=hr2.init
    by_cases hd:draw p to
    case neg =>
      have e:zd9 ps lo hi to st=ps++[⟨lo,hi,to,if lo<hi then st else 0⟩]:=by
        unfold zd9
        rw [hl]
        simp only []
        rw [if_neg (fun z=>hd z.2),if_pos hlh]
      rw [e]
      exact app fun q hq=>by
        rw [hl] at hq;cases hq
        exact⟨hn.symm,hu,hd⟩
    obtain⟨he,hes⟩:=zqk hg hd
    generalize hE:to-p.fin=e at he hes
    have hple:=hg.le
    have drawn:∀ x,lo<=x->(∀ h,inP p h->Pc.led ⟨p.lo,x,p.to,e⟩ h=p.led h)/\(∀ h,lo<=h->Pc.led ⟨p.lo,x,p.to,e⟩ h=to+e*(h-lo))/\IsR (ps.dropLast++[⟨p.lo,x,p.to,e⟩]):=fun x hx=>by
      refine⟨fun h ⟨h1,h2⟩=>?_,fun h h1=>?_,hi0.snoc ⟨by show p.lo<=x;lia,he,fun z=>by have z':p.lo=x:=z;lia⟩ fun q hq=>(hlk q hq).same rfl rfl⟩
      . show p.to+e*(h-p.lo)=p.to+p.st*(h-p.lo)
        by_cases hq:p.lo<p.hi
        . rw [hes hq]
        . rw [show h=p.lo by lia];simp
      . show p.to+e*(h-p.lo)=to+e*(h-lo)
        rw [zeV he,zeV he]
        unfold Pc.fin at hE
        rw [zcm hg.st] at hE
        by_cases hq:p.lo<p.hi
        . have:=hes hq
          rw [<- this] at hE
          split at hE<;>rename_i z<;>(first | rw [if_pos z,if_pos z] | rw [if_neg z,if_neg z])<;>lia
        . have e1:=hg.one (by lia)
          rw [if_pos e1] at hE
          split<;>lia
    have atd:∀ x h,lo<=x->at' (ps.dropLast++[⟨p.lo,x,p.to,e⟩]) h=if lo<=h/\h<=x then some (to+e*(h-lo)) else at' ps h:=fun x h hx=>by
      obtain⟨d1,d2,d3⟩:=drawn x hx
      rw [zic d3]
      have ea:at' ps h=if inP p h then some (p.led h) else at' ps.dropLast h:=by
        have:=zic hr2 h
        rw [<- hps] at this;exact this
      by_cases hh:lo<=h/\h<=x
      . rw [if_pos hh,if_pos (show inP ⟨p.lo,x,p.to,e⟩ h from ⟨by show p.lo<=h;lia,hh.2⟩),d2 h hh.1]
      . rw [if_neg hh,ea]
        by_cases hp':inP p h
        . have a1:=hp'.1
          have a2:=hp'.2
          rw [if_pos hp',if_pos (show inP ⟨p.lo,x,p.to,e⟩ h from ⟨a1,by show h<=x;lia⟩),d1 h hp']
        . rw [if_neg hp', if_neg (show ¬ inP ⟨p.lo, x, p.to, e⟩ h from fun z => by
            have z1:p.lo<=h:=z.1
            have z2:h<=x:=z.2
            exact hp' ⟨z1,by lia⟩)]
    have hlen:(ps.dropLast).length+1=ps.length:=by
      have:=congrArg List.length hps
      rw [qg] at this
      simpa using this.symm
    have hhead:∀ (x:Int) (r:List Pc) (q:Pc),ps.head?=some q->∃ q',(ps.dropLast++[(⟨p.lo,x,p.to,e⟩:Pc)]++r).head?=some q'/\q'.lo=q.lo/\q'.to=q.to:=fun x r q hq=>by
      rw [hps] at hq
      cases hdl:ps.dropLast with
      | nil =>
        rw [hdl] at hq
        have:p=q:=by simpa using hq
        subst this
        exact⟨_,rfl,rfl,rfl⟩
      | cons a l =>
        rw [hdl] at hq
        have:a=q:=by simpa using hq
        subst this
        exact⟨a,rfl,rfl,rfl⟩
    have hne:ps≠[]:=by intro z;rw [z] at hl;simp at hl
    by_cases hse:st=e
    . have eq : zd9 ps lo hi to st = ps.dropLast ++ [⟨p.lo, hi, p.to, e⟩] := by
        unfold zd9
        rw [hl]
        simp only []
        rw [hE,if_pos ⟨hlh,hd⟩,if_pos hse,if_neg (by lia)]
      rw [eq]
      obtain⟨d1,d2,d3⟩:=drawn hi hlh
      refine⟨d3,fun h=>by rw [atd hi h hlh,hse],fun _=>⟨_,List.getLast?_concat,rfl,by show Pc.led _ hi=_;rw [d2 hi hlh,hse]⟩,fun z=>by lia,by rw [qg];show _+1<=_;lia,fun q hq=>?_,fun z=>absurd z hne⟩
      have:=hhead hi [] q hq
      rw [List.append_nil] at this;exact this
    . by_cases h2:lo+1<=hi
      . have eq : zd9 ps lo hi to st = ps.dropLast ++ [⟨p.lo, lo, p.to, e⟩] ++ [⟨lo + 1, hi, to + st * (lo + 1 - lo), if lo + 1 < hi then st else 0⟩] := by
          unfold zd9
          rw [hl]
          simp only []
          rw [hE,if_pos ⟨hlh,hd⟩,if_neg hse,if_pos h2]
        rw [eq]
        obtain⟨d1,d2,d3⟩:=drawn lo (qw _)
        have e1:to+st*(lo+1-lo)=to+st:=by rw [show lo+1-lo=1 by lia,Int.mul_one]
        have fl:Pc.fin ⟨p.lo,lo,p.to,e⟩=to:=by
          show Pc.led _ lo=_
          rw [d2 lo (qw _)];simp
        have gR:Good ⟨lo+1,hi,to+st*(lo+1-lo),if lo+1<hi then st else 0⟩:=⟨h2,by show (if lo+1<hi then st else 0)=0\/_=1;split<;>first | exact hst | exact .inl rfl,fun z=>by
          have z':lo+1=hi:=z
          show (if lo+1<hi then st else 0)=0
          rw [if_neg (by lia)]⟩
        have lR:∀ h,inP ⟨lo+1,hi,to+st*(lo+1-lo),if lo+1<hi then st else 0⟩ h->Pc.led ⟨lo+1,hi,to+st*(lo+1-lo),if lo+1<hi then st else 0⟩ h=to+st*(h-lo):=fun h ⟨z1,z2⟩=>by
          have z1':lo+1<=h:=z1
          have z2':h<=hi:=z2
          show to+st*(lo+1-lo)+(if lo+1<hi then st else 0)*(h-(lo+1))=_
          rw [e1]
          by_cases z:lo+1<hi
          . rw [if_pos z,zeV hst,zeV hst];split<;>lia
          . rw [if_neg z,show h=lo+1 by lia,zeV hst];split<;>simp<;>lia
        have hr3:IsR (ps.dropLast++[⟨p.lo,lo,p.to,e⟩]++[⟨lo+1,hi,to+st*(lo+1-lo),if lo+1<hi then st else 0⟩]):=d3.snoc gR fun q hq=>by
          rw [List.getLast?_concat] at hq
          cases hq
          refine⟨rfl,by rw [fl];show to<=to+st*(lo+1-lo);rw [e1];lia,?_⟩
          show ¬ draw _ (to+st*(lo+1-lo))
          rw [e1]
          unfold draw
          rw [if_neg (by show ¬ p.lo=lo;lia)]
          rw [d2 (lo+1) (by lia),show lo+1-lo=1 by lia,Int.mul_one]
          lia
        refine⟨hr3,fun h=>?_,fun _=>⟨_,List.getLast?_concat,rfl,lR hi ⟨h2,qw _⟩⟩,fun z=>by lia,by rw [qg,qg];show _+1+1<=_;lia,fun q hq=>hhead lo _ q hq,fun z=>absurd z hne⟩
        rw [zic hr3,atd lo h (qw _)]
        by_cases hh:lo+1<=h/\h<=hi
        . rw [if_pos (show inP ⟨lo+1,hi,to+st*(lo+1-lo),if lo+1<hi then st else 0⟩ h from hh),lR h hh,if_pos ⟨by lia,hh.2⟩]
        . rw [if_neg (show ¬ inP ⟨lo+1,hi,to+st*(lo+1-lo),if lo+1<hi then st else 0⟩ h from hh)]
          by_cases hx:h=lo
          . subst hx
            rw [if_pos ⟨qw _,qw _⟩,if_pos ⟨qw _,hlh⟩];simp
          . rw [if_neg (by lia),if_neg (by lia)]
      . have eq : zd9 ps lo hi to st = ps.dropLast ++ [⟨p.lo, lo, p.to, e⟩] := by
          unfold zd9
          rw [hl]
          simp only []
          rw [hE,if_pos ⟨hlh,hd⟩,if_neg hse,if_neg h2]
        rw [eq]
        obtain⟨d1,d2,d3⟩:=drawn lo (qw _)
        have hlo:hi=lo:=by lia
        subst hlo
        refine⟨d3,fun h=>?_,fun _=>⟨_,List.getLast?_concat,rfl,by show Pc.led _ hi=_;rw [d2 hi hlh];simp⟩,fun z=>by lia,by rw [qg];show _+1<=_;lia,fun q hq=>?_,fun z=>absurd z hne⟩
        . rw [atd hi h hlh]
          by_cases hh:hi<=h/\h<=hi
          . rw [if_pos hh,if_pos hh,show h=hi by lia];simp
          . rw [if_neg hh,if_neg hh]
        . have:=hhead hi [] q hq
          rw [List.append_nil] at this;exact this
theorem IsR.tail {p:Pc}{r:List Pc}(h:IsR (p::r)):IsR r:=⟨fun q hq=>h.good q (by simp [hq]),fun i a b ha hb=>h.link (i+1) a b (by simpa using ha) (by simpa using hb)⟩
theorem IsR.hd {p q:Pc}{r:List Pc}(h:IsR (p::q::r)):Link p q:=h.link 0 p q rfl rfl
theorem IsR.above:∀ {r:List Pc} {p:Pc},IsR (p::r)->∀ q∈r,p.hi<q.lo
 | [],_,_,q,hq=>by simp at hq
 | a::r,p,h,q,hq=>by
  have l:=h.hd.nx
  have g:=(h.good a (by simp)).le
  rcases qh.mp hq with rfl | hq
  ·lia
  ·have:=IsR.above h.tail q hq
   lia
theorem zfp {ps:List Pc}{h:Int}(hb:∀ q∈ps,h<q.lo):at' ps h=none:=by
 induction ps with
 | nil=>rfl
 | cons p r ih =>
  rw [zaz,if_neg (by intro z;have:=hb p (by simp);have:=z.1;lia)]
  exact ih fun q hq=>hb q (by simp [hq])
theorem zgS {p:Pc}(g:Good p){a b:Int}(h:a<=b):p.led a<=p.led b:=by
  rw [zcm g.st,zcm g.st];split<;>lia
theorem zht (p:Pc):p.led p.lo=p.to:=by unfold Pc.led;simp
theorem zmW {p:Pc}(g:Good p):p.to<=p.fin:=by
 have:=zgS g g.le
 rw [zht] at this;exact this
theorem ze2:∀ {r:List Pc} {p:Pc},IsR (p::r)->∀ {h v:Int},at' (p::r) h=some v->p.to<=v/\p.lo<=h
 | r,p,hr,h,v,e=>by
  rw [zaz] at e
  have g:=hr.good p (by simp)
  split at e
  ·rename_i hi
   cases e
   have:=zgS g hi.1
   rw [zht] at this
   exact⟨this,hi.1⟩
  ·cases r with
   | nil=>cases e
   | cons q r =>
    obtain⟨a,b⟩:=ze2 hr.tail e
    have l:=hr.hd
    have:=zmW g
    have:=l.up
    have:=l.nx
    have:=g.le
    exact⟨by lia,by lia⟩
theorem zcK:∀ {ps:List Pc},IsR ps->∀ {a b x y:Int},at' ps a=some x->at' ps b=some y->a<=b->x<=y
 | [],_,a,b,x,y,ha,_,_=>by cases ha
 | p::r,hr,a,b,x,y,ha,hb,hab=>by
  have g:=hr.good p (by simp)
  rw [zaz] at ha hb
  split at ha
  ·rename_i ia
   cases ha
   split at hb
   ·rename_i ib
    cases hb
    exact zgS g hab
   ·cases r with
    | nil=>cases hb
    | cons q r =>
     obtain⟨h1,_⟩:=ze2 hr.tail hb
     have:=hr.hd.up
     have:=zgS g ia.2
     unfold Pc.fin at *
     lia
  ·rename_i ia
   split at hb
   ·rename_i ib
    exfalso
    cases r with
    | nil=>cases ha
    | cons q r =>
     obtain⟨_,h2⟩:=ze2 hr.tail ha
     have:=hr.hd.nx
     have:=ib.2
     lia
   ·exact zcK hr.tail ha hb hab
theorem zfg:∀ {r:List Pc} {p:Pc},IsR (p::r)->∀ {a b y:Int},at' (p::r) b=some y->p.lo<=a->a<=b->∃ x,at' (p::r) a=some x
 | r,p,hr,a,b,y,hb,h1,h2=>by
  rw [zaz]
  by_cases ia:inP p a
  ·rw [if_pos ia];exact⟨_,rfl⟩
  ·rw [if_neg ia]
   have ha:p.hi<a:=by
    rcases Int.lt_or_le p.hi a with g | g
    ·exact g
    ·exact absurd ⟨h1,g⟩ ia
   rw [zaz,if_neg (by intro z;have:=z.2;lia)] at hb
   cases r with
   | nil=>cases hb
   | cons q r=>exact zfg hr.tail hb (by have:=hr.hd.nx;lia) h2
theorem zcD {p:Pc}{r:List Pc}(g:Good p):at' (p::r) p.lo=some p.to:=by
 rw [zaz,if_pos ⟨qw _,g.le⟩,zht]
theorem ztq {p q:Pc}{r s:List Pc}(hp:IsR (p::r))(hq:IsR (q::s))(e:∀ h,at' (p::r) h=at' (q::s) h)(hlo:p.lo=q.lo)(hto:p.to=q.to):q.hi<=p.hi:=by
  rcases Int.lt_or_le p.hi q.hi with hlt | hle
  case inr=>exact hle
  exfalso
  have gp:=hp.good p (by simp)
  have gq:=hq.good q (by simp)
  have e1:=e (p.hi+1)
  have hle:=gp.le
  rw [zaz p,if_neg (by intro z;have:=z.2;lia),zaz q,if_pos ⟨by lia,by lia⟩] at e1
  cases r with
  | nil=>cases e1
  | cons p' r =>
    have lk:=hp.hd
    have hx:p'.lo=p.hi+1:=lk.nx
    rw [<- hx,zcD (hp.good p' (by simp))] at e1
    have e2:p'.to=q.led (p.hi+1):=by rw [<- hx];exact qA e1
    apply lk.nd
    unfold draw
    by_cases h1:p.lo=p.hi
    . rw [if_pos h1,e2,zcm gq.st]
      split<;>lia
    . rw [if_neg h1,e2]
      have e3:=e (p.lo+1)
      rw [zaz p,if_pos ⟨by lia,by lia⟩,zaz q,if_pos ⟨by lia,by lia⟩] at e3
      have e4:p.led (p.lo+1)=q.led (p.lo+1):=qA e3
      rw [zcm gp.st,zcm gq.st] at e4 ⊢
      have a1:=gp.st
      have a2:=gq.st
      split at e4<;>split at e4<;>(first | rw [if_pos (by assumption)] | rw [if_neg (by assumption)])<;>(first | rw [if_pos (by assumption)] | rw [if_neg (by assumption)] | skip)<;>lia
theorem ztR {p q:Pc}(gp:Good p)(gq:Good q)(h1:p.lo=q.lo)(h2:p.hi=q.hi)(h3:p.to=q.to)(h4:p.lo<p.hi->p.led (p.lo+1)=q.led (p.lo+1)):p=q:=by
  have hs:p.st=q.st:=by
    by_cases h:p.lo<p.hi
    . have e:=h4 h
      rw [zcm gp.st,zcm gq.st] at e
      have a1:=gp.st
      have a2:=gq.st
      split at e<;>split at e<;>lia
    . have:=gp.le
      rw [gp.one (by lia),gq.one (by lia)]
  cases p
  cases q
  simp_all
theorem zeb:∀ {ps qs:List Pc},IsR ps->IsR qs->(∀ h,at' ps h=at' qs h)->ps=qs
 | [],[],_,_,_=>rfl
 | [],q::s,_,hq,e=>by
  have:=e q.lo
  rw [zcD (hq.good q (by simp))] at this;cases this
 | p::r,[],hp,_,e=>by
  have:=e p.lo
  rw [zcD (hp.good p (by simp))] at this;cases this
 | p::r,q::s,hp,hq,e=>by
  have gp:=hp.good p (by simp)
  have gq:=hq.good q (by simp)
  have hlo:p.lo=q.lo:=by
   have e1:=e p.lo
   rw [zcD gp] at e1
   have e2:=e q.lo
   rw [zcD gq] at e2
   have:=(ze2 hq e1.symm).2
   have:=(ze2 hp e2).2
   lia
  have hto:p.to=q.to:=by
   have e1:=e p.lo
   rw [zcD gp,hlo,zcD gq] at e1
   exact qA e1
  have h1:=ztq hp hq e hlo hto
  have h2:=ztq hq hp (fun h=>(e h).symm) hlo.symm hto.symm
  have hpq:p=q:=ztR gp gq hlo (by lia) hto fun hlt=>by
   have e3:=e (p.lo+1)
   rw [zaz p,if_pos ⟨by lia,by lia⟩,zaz q,if_pos ⟨by lia,by lia⟩] at e3
   exact qA e3
  subst hpq
  rw [zeb hp.tail hq.tail fun h=>?_]
  by_cases hi:h<=p.hi
  ·rw [zfp fun z hz=>by have:=hp.above z hz;lia,zfp fun z hz=>by have:=hq.above z hz;lia]
  ·have:=e h
   rw [zaz,zaz,if_neg (by intro z;have:=z.2;lia),if_neg (by intro z;have:=z.2;lia)] at this
   exact this
structure Pre (f:Int->Option Int)(a n:Int)(ps:List Pc):Prop where
 isR:IsR ps
 le:a<=n
 led:∀ h,at' ps h=if a<=h/\h<n then f h else none
 all:∀ h,a<=h->h<n->∃ v,f h=some v
 emp:ps=[]->n=a
 last:∀ p,ps.getLast?=some p->p.hi+1=n/\f p.hi=some p.fin
theorem Pre.start (f:Int->Option Int)(a:Int):Pre f a a []:=⟨IsR.nil,qw _,fun h=>by rw [if_neg (by lia)];rfl,fun h h1 h2=>by lia,fun _=>rfl,by simp⟩
def zif (f:Int->Option Int):Prop:=∀ a b x y,f a=some x->f b=some y->a<=b->x<=y
theorem Pre.need {f:Int->Option Int}{a n lo hi to st:Int}{ps:List Pc}(h:Pre f a n ps)(m:zif f)(hlo:lo<=hi->lo=n)(hf:∀ x,lo<=x->x<=hi->f x=some (to+st*(x-lo))):lo<=hi->∀ p,ps.getLast?=some p->p.hi+1=lo/\p.fin<=to:=fun z p hp=>by
 obtain⟨e1,e2⟩:=h.last p hp
 have e3:=hf lo (qw _) z
 have:=m p.hi lo _ _ e2 e3 (by have:=hlo z;lia)
 exact⟨by have:=hlo z;lia,by simpa using this⟩
theorem Pre.put {f:Int->Option Int}{a n lo hi to st:Int}{ps qs:List Pc}(h:Pre f a n ps)(hlo:lo<=hi->lo=n)(hf:∀ x,lo<=x->x<=hi->f x=some (to+st*(x-lo)))(hq:zgP ps lo hi to st qs):Pre f a (if lo<=hi then hi+1 else n) qs:=by
 by_cases hl:lo<=hi
 ·rw [if_pos hl]
  have e:=hlo hl
  subst e
  have hle:=h.le
  refine⟨hq.isR,by lia,fun x=>?_,fun x h1 h2=>?_,fun z=>?_,fun p hp=>?_⟩
  ·rw [hq.led,h.led]
   by_cases c:lo<=x/\x<=hi
   ·rw [if_pos c,if_pos ⟨by lia,by lia⟩,hf x c.1 c.2]
   ·rw [if_neg c]
    by_cases d:a<=x/\x<lo
    ·rw [if_pos d,if_pos ⟨d.1,by lia⟩]
    ·rw [if_neg d,if_neg (by lia)]
  ·by_cases c:x<lo
   ·exact h.all x h1 c
   ·exact⟨_,hf x (by lia) (by lia)⟩
  ·obtain⟨q,e,_⟩:=hq.last hl
   rw [z] at e;simp at e
  ·obtain⟨q,e,e2,e3⟩:=hq.last hl
   rw [hp] at e
   cases e
   exact⟨by lia,by rw [e2,e3];exact hf hi hl (qw _)⟩
 ·rw [if_neg hl,hq.none (by lia)];exact h
theorem Pre.done {f:Int->Option Int}{a n:Int}{ps:List Pc}(h:Pre f a n ps)(ha:∀ x,x<a->f x=none)(hn:∀ x,n<=x->f x=none)(x:Int):at' ps x=f x:=by
 rw [h.led]
 by_cases c:a<=x/\x<n
 ·rw [if_pos c]
 ·rw [if_neg c]
  by_cases d:x<a
  ·rw [ha x d]
  ·rw [hn x (by lia)]
end Rm
namespace Dp
open PySem Rm
abbrev Pd (p:Pc):D:=.tup [.int p.lo,.int p.hi,.int p.to,.int p.st]
theorem zt4 {ps:List Pc}{p:Pc}(h:ps.getLast?=some p):atD (ps.map Pd) (-1)=some (Pd p):=by
 rw [zfE h,qv]
 unfold atD ixD
 rw [if_neg (by decide),if_pos (by simp;lia)]
 have e:(-1+((List.map Pd ps.dropLast++List.map Pd [p]).length:Int)).toNat=(List.map Pd ps.dropLast).length:=by simp;lia
 simp only [Option.bind_some]
 rw [e]
 simp
theorem zts {ps:List Pc}{p:Pc}(h:ps.getLast?=some p):ixD (ps.map Pd).length (-1)=some (ps.length-1):=by
 have:ps≠[]:=by intro e;rw [e] at h;simp at h
 have:=List.length_pos_iff.mpr this
 unfold ixD
 rw [if_neg (by decide),if_pos (by simp;lia),qb]
 congr 1
 lia
theorem zmj {ps:List Pc}{p q:Pc}(h:ps.getLast?=some p):(ps.map Pd).set (ps.length-1) (Pd q)=(ps.dropLast++[q]).map Pd:=by
 have e:=zfE h
 have hl:ps.length-1=ps.dropLast.length:=by rw [List.length_dropLast]
 rw [hl]
 conv=>lhs;rw [e]
 rw [qv,qv,List.set_append_right _ _ (by simp)]
 simp
theorem get_map {ps:List Pc}{i:Nat}{d:D}(h:(ps.map Pd)[i]?=some d):∃ p,ps[i]?=some p/\d=Pd p:=by
 rw [qo] at h
 cases e:ps[i]? with
 | none=>rw [e] at h;cases h
 | some p=>rw [e] at h;cases h;exact⟨p,rfl,rfl⟩
theorem ziB (ps:List Pc):fl 20 (.tup (ps.map Pd))=true:=by
 show (ps.map Pd).all (fl 19)=true
 rw [List.all_map,List.all_eq_true]
 intro p _;rfl
theorem znT {ps:List Pc}{h:Int}{i:Nat}{p:Pc}(hp:ps[i]?=some p)(hn:at' (ps.take i) h=none)(hin:inP p h):at' ps h=some (p.led h):=by
 have e:ps=ps.take i++p::ps.drop (i+1):=by
  have h1:=List.take_append_drop i ps
  have hl:i<ps.length:=by
   rcases qM i ps.length with g | g
   ·exact g
   ·rw [qu g] at hp;cases hp
  rw [qc hl] at hp
  cases hp
  rw [List.drop_eq_getElem_cons hl] at h1
  exact h1.symm
 rw [e,zh2,hn,zaz,if_pos hin];rfl
theorem set_same {S:Sto}{n:Nat}{c:Cell}(h:S[n]?=some c):S.set n c=S:=List.ext_getElem? fun i=>by
 by_cases hi:i=n
 ·subst hi;rw [qL (zab h),h]
 ·rw [List.getElem?_set_ne (Ne.symm hi)]
theorem znZ {p:Pc}(h:p.st=0):p.fin=p.to:=by unfold Pc.fin Pc.led;rw [h];simp
theorem zn2 {p:Pc}(h:p.st=1):p.fin=p.to+(p.hi-p.lo):=by unfold Pc.fin Pc.led;rw [h];simp
theorem zit {p:Pc}(h:p.st=0)(x:Int):p.led x=p.to:=by unfold Pc.led;rw [h];simp
theorem ziC {p:Pc}(h:p.st=1)(x:Int):p.led x=p.to+(x-p.lo):=by unfold Pc.led;rw [h];simp
theorem apart {ps:List Pc}(hr:IsR ps):∀ {i j:Nat} {a b:Pc},i<j->ps[i]?=some a->ps[j]?=some b->a.hi<b.lo:=by
 have key:∀ (k j:Nat) (a b:Pc),ps[j]?=some a->ps[j+k+1]?=some b->a.hi<b.lo:=by
  intro k
  induction k with
  | zero=>intro j a b ha hb;have:=(hr.link j a b ha hb).nx;lia
  | succ k ih =>
   intro j a b ha hb
   have hlb:=zab hb
   have hm:ps[j+k+1]?=some (ps[j+k+1]'(by lia)):=qc _
   have h1:=ih j a _ ha hm
   have h2:=(hr.link (j+k+1) _ b hm hb).nx
   have h3:=(hr.good _ (List.getElem_mem (by lia:j+k+1<ps.length))).le
   lia
 intro i j a b hij ha hb
 refine key (j-i-1) i a b ha ?_
 rw [show i+(j-i-1)+1=j by lia];exact hb
theorem zbS {ps:List Pc}(hr:IsR ps){i:Nat}{p:Pc}(hp:ps[i]?=some p){h:Int}(hi:inP p h):at' ps h=some (p.led h):=by
 refine znT hp (zk4 fun q hq=>?_) hi
 obtain⟨j,hj,e⟩:=qR.mp hq
 rw [List.length_take] at hj
 rw [List.getElem_take] at e
 have:q.hi<p.lo:=apart hr (i:=j) (j:=i) (by lia) (by rw [<- e];exact qc _) hp
 have:=hi.1
 lia
theorem lo_le {ps:List Pc}(hr:IsR ps){p q:Pc}(h0:ps[0]?=some p)(hq:q∈ps):p.lo<=q.lo:=by
 obtain⟨j,hj,rfl⟩:=qR.mp hq
 rcases Nat.eq_zero_or_pos j with h | h
 ·subst h
  rw [qc (by lia)] at h0
  cases h0
  exact qw _
 ·have:=apart hr h h0 (qc hj)
  have:=(hr.good p (qe h0)).le
  lia
theorem ztF (p q:Pc):eqv (Pd p) (Pd q)=decide (p=q):=by
 obtain⟨a,b,c,d⟩:=p
 obtain⟨a',b',c',d'⟩:=q
 show eqvAll [.int a,.int b,.int c,.int d] [.int a',.int b',.int c',.int d']=_
 show (decide (a=a')&&(decide (b=b')&&(decide (c=c')&&(decide (d=d')&&true))))=_
 rw [Bool.and_true,<- Bool.decide_and,<- Bool.decide_and,<- Bool.decide_and]
 congr 1
 simp
theorem zqm:∀ (ps qs:List Pc),eqvAll (ps.map Pd) (qs.map Pd)=decide (ps=qs)
 | [],[]=>rfl
 | [],q::s=>rfl
 | p::r,[]=>rfl
 | p::r,q::s=>by
  show (eqv (Pd p) (Pd q)&&eqvAll (r.map Pd) (s.map Pd))=_
  rw [ztF,zqm r s,<- Bool.decide_and]
  congr 1
  simp
theorem zoB {S:Sto}{Q:DK}{ps qs:List Pc}(q:Q (.bl (!decide (ps=qs))) S):oNe (.tup (ps.map Pd)) (.tup (qs.map Pd)) S Q:=⟨_,.inl ⟨ziB ps,ziB qs,rfl⟩,by
 show Q (.bl (!eqvAll (ps.map Pd) (qs.map Pd))) S
 rw [zqm];exact q⟩
def endOf (qs:List Pc):Int:=match qs.getLast? with
 | none=>0
 | some q=>q.hi+1
theorem zhS {qs:List Pc}(hq:IsR qs){v:Int}(h:endOf qs<=v):at' qs v=none:=by
 cases hl:qs.getLast? with
 | none=>rw [List.getLast?_eq_none_iff.mp hl];rfl
 | some q =>
  unfold endOf at h
  rw [hl] at h
  have h':q.hi+1<=v:=h
  have e:=zfE hl
  refine zk4 fun r hr=>?_
  rw [e] at hr hq
  have gq:=(hq.good q (by simp)).le
  rcases qF.mp hr with hr | hr
  ·have:=hq.below r hr;lia
  ·have:r=q:=by simpa using hr
   subst this;lia
theorem zqi {qs:List Pc}(hq:IsR qs){j:Nat}{f:Pc}(ef:qs[j]?=some f):(∀ g,qs[j+1]?=some g->g.lo=f.hi+1)/\(qs[j+1]?=none->endOf qs=f.hi+1):=by
 refine⟨fun g hg=>(hq.link j f g ef hg).nx,fun hn=>?_⟩
 have h1:=zab ef
 have h2:=List.getElem?_eq_none_iff.mp hn
 have:qs.getLast?=some f:=by rw [List.getLast?_eq_getElem?,show qs.length-1=j by lia];exact ef
 unfold endOf
 rw [this]
def zcg (qs:List Pc)(j:Nat):Int:=match qs[j]? with
 | some q=>q.lo
 | none=>endOf qs
theorem zhN {qs:List Pc}(hq:IsR qs){j:Nat}{f:Pc}(ef:qs[j]?=some f):zcg qs j=f.lo/\zcg qs (j+1)=f.hi+1:=by
 obtain⟨a,b⟩:=zqi hq ef
 unfold zcg
 rw [ef]
 refine⟨rfl,?_⟩
 cases h:qs[j+1]? with
 | none=>exact b h
 | some g=>exact a g h
theorem znN {ps:List Pc}{p:Pc}(hr:IsR ps)(h:ps.head?=some p):at' ps p.lo=some p.to:=by
 have e:ps[0]?=some p:=by rw [<- List.head?_eq_getElem?];exact h
 have g:=(hr.good p (qe e)).le
 rw [zbS hr e ⟨qw _,g⟩]
 show some (p.to+p.st*(p.lo-p.lo))=_
 rw [Int.sub_self,Int.mul_zero,Int.add_zero]
open PySem Rm My
def zgk:List (Int×Int)->Prop
 | []=>True
 | c::r=>c.1<=c.2/\(∀ d∈r,c.2+2<=d.1)/\zgk r
def zaZ:List (Int×Int)->Int->Option Int
 | [],_=>none
 | c::r,h=>if h<=c.2 then some (max h c.1) else zaZ r h
theorem zeS:∀ (a b:List (Int×Int)) (h:Int),zaZ (a++b) h=(zaZ a h).or (zaZ b h)
  | [],b,h=>by simp [zaZ]
  | c::a,b,h=>by
    show (if h<=c.2 then _ else zaZ (a++b) h)=_
    rw [zeS a b h]
    show _=((if h<=c.2 then some (max h c.1) else zaZ a h).or _)
    split<;>rfl
theorem zfV:∀ {a:List (Int×Int)} {h:Int},(∀ c∈a,c.2<h)->zaZ a h=none
 | [],h,_=>rfl
 | c::a,h,hb=>by
  show (if h<=c.2 then _ else zaZ a h)=none
  rw [if_neg (by have:=hb c (by simp);lia)]
  exact zfV fun d hd=>hb d (by simp [hd])
theorem zgk.mem:∀ {cs:List (Int×Int)},zgk cs->∀ {i:Nat} {c:Int×Int},cs[i]?=some c->c.1<=c.2/\∀ d∈cs.take i,d.2+2<=c.1
 | [],_,i,c,h=>by simp at h
 | a::r,ok,0,c,h=>by simp at h;subst h;exact⟨ok.1,by simp⟩
 | a::r,ok,i+1,c,h=>by
  have h':r[i]?=some c:=by simpa using h
  obtain⟨h1,h2⟩:=zgk.mem ok.2.2 h'
  refine⟨h1,fun d hd=>?_⟩
  rw [List.take_succ_cons] at hd
  rcases qh.mp hd with rfl | hd
  ·exact ok.2.1 c (qe h')
  ·exact h2 d hd
theorem ziv (cs:List (Int×Int)):fl 20 (.tup (cs.map p2))=true:=by
 show (cs.map p2).all (fl 19)=true
 rw [List.all_map,List.all_eq_true]
 intro p _;rfl
theorem zmo {xs:List D}{x:D}:ixD (xs++[x]).length (-1)=some xs.length:=by
 have hl:((xs++[x]).length:Int)=xs.length+1:=by simp
 unfold ixD
 rw [if_neg (by lia),if_pos (by lia)]
 congr 1;lia
theorem zjp {xs:List D}{x:D}:atD (xs++[x]) (-1)=some x:=by
 unfold atD
 rw [zmo]
 simp
end Dp
namespace Rm
open My Dp
def inS (h:Int)(c:Int×Int):Bool:=decide (c.1<=h)&&decide (h<=c.2)
def lec (c:Int×Int):Bool:=decide (c.1<=c.2)
structure zao (cs:List (Int×Int)):Prop where
 le:∀ c∈cs,c.1<=c.2
 ap:cs.Pairwise fun a b=>a.2+2<=b.1
theorem ze7 {h:Int}{c:Int×Int}:inS h c=true↔c.1<=h/\h<=c.2:=by unfold inS;simp
theorem zaH {h:Int}{cs:List (Int×Int)}:cs.any (inS h)=true↔∃ c∈cs,c.1<=h/\h<=c.2:=by
 rw [List.any_eq_true]
 constructor
 ·rintro⟨c,hc,g⟩;exact⟨c,hc,ze7.mp g⟩
 ·rintro⟨c,hc,g⟩;exact⟨c,hc,ze7.mpr g⟩
theorem zao.nil:zao []:=⟨fun c hc=>absurd hc (by simp),.nil⟩
theorem zao.snoc {ms:List (Int×Int)}{c:Int×Int}(s:zao ms)(hc:c.1<=c.2)(h:∀ m∈ms,m.2+2<=c.1):zao (ms++[c]):=by
 refine⟨fun d hd=>?_,List.pairwise_append.mpr ⟨s.ap,List.pairwise_singleton _ _,fun a ha b hb=>?_⟩⟩
 ·rcases qF.mp hd with g | g
  ·exact s.le d g
  ·have:d=c:=by simpa using g
   subst this;exact hc
 ·have:b=c:=by simpa using hb
  subst this;exact h a ha
theorem zao.init {ms:List (Int×Int)}{c:Int×Int}(s:zao (ms++[c])):zao ms/\c.1<=c.2/\∀ m∈ms,m.2+2<=c.1:=by
 obtain⟨h1,h2,h3⟩:=List.pairwise_append.mp s.ap
 exact⟨⟨fun d hd=>s.le d (List.mem_append_left _ hd),h1⟩,s.le c (by simp),fun m hm=>h3 m hm c (by simp)⟩
theorem zsh {ms:List (Int×Int)}{l c:Int×Int}(s:zao (ms++[l]))(hc:c.1<=c.2)(h1:l.1<=c.1)(h2:c.1<=l.2+1) :
  zao (ms++[(l.1,max l.2 c.2)])/\∀ h,(ms++[(l.1,max l.2 c.2)]).any (inS h)=((ms++[l]).any (inS h)||inS h c):=by
 obtain⟨s0,hl,hm⟩:=s.init
 refine⟨s0.snoc (by show l.1<=max l.2 c.2;lia) hm,fun h=>?_⟩
 rw [List.any_append,List.any_append,Bool.or_assoc]
 congr 1
 rw [Bool.eq_iff_iff,Bool.or_eq_true]
 simp only [List.any_cons,List.any_nil,Bool.or_false,ze7]
 lia
theorem zu8 {a b:Int×Int}(h:zjq b a=false):a.1<=b.1:=by
 unfold zjq at h
 rw [decide_eq_false_iff_not] at h
 lia
theorem any_filter (cs:List (Int×Int))(h:Int):(cs.filter fun c=>decide (c.1<=c.2)).any (inS h)=cs.any (inS h):=by
 rw [Bool.eq_iff_iff,zaH,zaH]
 constructor
 ·rintro⟨c,hc,g⟩;exact⟨c,(List.mem_filter.mp hc).1,g⟩
 ·rintro⟨c,hc,g⟩;exact⟨c,List.mem_filter.mpr ⟨hc,decide_eq_true (by lia)⟩,g⟩
theorem zrM {a b:List (Int×Int)}(p:a.Perm b)(h:Int):a.any (inS h)=b.any (inS h):=by
 rw [Bool.eq_iff_iff,zaH,zaH]
 constructor
 ·rintro⟨c,hc,g⟩;exact⟨c,p.mem_iff.mp hc,g⟩
 ·rintro⟨c,hc,g⟩;exact⟨c,p.mem_iff.mpr hc,g⟩
def zbb (a b:Int×Int):Int×Int:=(max a.1 b.1,min a.2 b.2)
def zaV (as bs:List (Int×Int)):List (Int×Int):=as.flatMap fun a=>bs.map (zbb a)
theorem zow (as bs:List (Int×Int))(h:Int):(zaV as bs).any (inS h)=(as.any (inS h)&&bs.any (inS h)):=by
  rw [Bool.eq_iff_iff,qH,zaH,zaH,zaH]
  unfold zaV
  constructor
  . rintro⟨c,hc,g1,g2⟩
    obtain⟨a,ha,hm⟩:=List.mem_flatMap.mp hc
    obtain⟨b,hb,rfl⟩:=List.mem_map.mp hm
    unfold zbb at g1 g2
    dsimp only at g1 g2
    refine⟨⟨a,ha,?_⟩,⟨b,hb,?_⟩⟩<;>lia
  . rintro⟨⟨a,ha,g1,g2⟩,⟨b,hb,k1,k2⟩⟩
    refine⟨zbb a b,List.mem_flatMap.mpr ⟨a,ha,List.mem_map.mpr ⟨b,hb,rfl⟩⟩,?_⟩
    unfold zbb
    dsimp only
    constructor<;>lia
theorem zmF {a b:Int×Int}(ha:a.1<=a.2)(hb:b.1<=b.2):(zbb a b).1<=(zbb a b).2↔b.1<=a.2/\a.1<=b.2:=by
 unfold zbb
 dsimp only
 lia
theorem zn9 {a:Int×Int}(ha:a.1<=a.2):∀ {bs:List (Int×Int)},zao bs->((bs.map (zbb a)).filter fun c=>decide (c.1<=c.2)).length<=(bs.filter fun b=>decide (b.2<=a.2)).length+1
  | [],_=>by simp
  | b::bs,s=>by
    obtain⟨cb,pb⟩:=List.pairwise_cons.mp s.ap
    have hb:=s.le b (by simp)
    have s':zao bs:=⟨fun x hx=>s.le x (by simp [hx]),pb⟩
    have ih:=zn9 ha s'
    rw [qJ]
    by_cases h1:b.2<=a.2
    . rw [List.filter_cons_of_pos (p:=fun b:Int×Int=>decide (b.2<=a.2)) (decide_eq_true h1)]
      have:(((zbb a b)::bs.map (zbb a)).filter fun c=>decide (c.1<=c.2)).length<=((bs.map (zbb a)).filter fun c=>decide (c.1<=c.2)).length+1:=by
        rw [List.filter_cons];split<;>simp
      simp only [qP]
      lia
    . have none : (bs.map (zbb a)).filter (fun c => decide (c.1 ≤ c.2)) = [] := by
        rw [List.filter_eq_nil_iff]
        intro c hc
        obtain⟨x,hx,rfl⟩:=List.mem_map.mp hc
        have:=cb x hx
        have hx2:=s'.le x hx
        rw [decide_eq_true_eq,zmF ha hx2]
        lia
      rw [List.filter_cons,none]
      split<;>simp
theorem zm2:∀ {as bs:List (Int×Int)},zao as->zao bs->((zaV as bs).filter fun c=>decide (c.1<=c.2)).length<=as.length+bs.length
 | [],bs,_,_=>by simp [zaV]
 | a::as,bs,sa,sb=>by
  obtain⟨ca,pa⟩:=List.pairwise_cons.mp sa.ap
  have ha:=sa.le a (by simp)
  have sa':zao as:=⟨fun x hx=>sa.le x (by simp [hx]),pa⟩
  have sb2:zao (bs.filter fun b=>!decide (b.2<=a.2)):=⟨fun x hx=>sb.le x (List.mem_filter.mp hx).1,sb.ap.filter _⟩
  have ih:=zm2 sa' sb2
  have one:=zn9 ha sb
  have same:((zaV as bs).filter fun c=>decide (c.1<=c.2)).length=((zaV as (bs.filter fun b=>!decide (b.2<=a.2))).filter fun c=>decide (c.1<=c.2)).length:=by
   clear ih one
   induction as with
   | nil=>rfl
   | cons d ds ihd =>
    have hd:a.2+2<=d.1:=ca d (by simp)
    have hd2:=sa.le d (by simp)
    unfold zaV at ihd ⊢
    rw [List.flatMap_cons,List.flatMap_cons,List.filter_append,List.filter_append,qg,qg]
    have e1:((bs.map (zbb d)).filter fun c=>decide (c.1<=c.2)).length=(((bs.filter fun b=>!decide (b.2<=a.2)).map (zbb d)).filter fun c=>decide (c.1<=c.2)).length:=by
     have hle:=sb.le
     clear ihd sb sb2
     induction bs with
     | nil=>rfl
     | cons b bs ihb =>
      have ih':=ihb fun x hx=>hle x (by simp [hx])
      have hb:=hle b (by simp)
      by_cases h1:b.2<=a.2
      ·rw [List.filter_cons_of_neg (p:=fun b:Int×Int=>!decide (b.2<=a.2)) (by simp [h1]),qJ,List.filter_cons_of_neg (by rw [decide_eq_true_eq,zmF hd2 hb];lia)]
       exact ih'
      ·rw [List.filter_cons_of_pos (p:=fun b:Int×Int=>!decide (b.2<=a.2)) (by simp [h1]),qJ,qJ,List.filter_cons,List.filter_cons]
       split
       ·simp only [qP];lia
       ·exact ih'
    have pa2:=List.pairwise_cons.mp (List.pairwise_cons.mp sa.ap).2
    have sd:zao (a::ds):=⟨fun x hx=>by
     rcases qh.mp hx with rfl | hx
     ·exact ha
     ·exact sa.le x (by simp [hx]),List.pairwise_cons.mpr ⟨fun x hx=>ca x (by simp [hx]),pa2.2⟩⟩
    have e2:=ihd sd (fun x hx=>ca x (by simp [hx])) pa2.2 ⟨fun x hx=>sd.le x (by simp [hx]),pa2.2⟩
    rw [e1,e2]
  have split2:bs.length=(bs.filter fun b=>decide (b.2<=a.2)).length+(bs.filter fun b=>!decide (b.2<=a.2)).length:=by
   clear ih one same sb sb2
   induction bs with
   | nil=>rfl
   | cons b bs ihb =>
    rw [List.filter_cons,List.filter_cons]
    by_cases h1:b.2<=a.2
    ·simp [h1];lia
    ·simp [h1];lia
  unfold zaV at same ih ⊢
  rw [List.flatMap_cons,List.filter_append,qg,same]
  simp only [qP]
  lia
end Rm
namespace Dp
open PySem Rm My
def zd8:List (Int×Int)->Int->Option Int
 | [],_=>none
 | c::r,h=>if h<=c.2 then some (max c.1 h) else zd8 r h
def on2 (f:Int×Int->D):D->D
 | .tup [.int a,.int b]=>f (a,b)
 | d=>d
def zw9 (p:Int×Int->Bool):D->Bool
 | .tup [.int a,.int b]=>p (a,b)
 | _=>false
theorem ztv (f:Int×Int->D)(cs:List (Int×Int)):(cs.map p2).map (on2 f)=cs.map f:=by rw [List.map_map];rfl
theorem zrz (p:Int×Int->Bool)(cs:List (Int×Int)):(cs.map p2).filter (zw9 p)=(cs.filter p).map p2:=by rw [List.filter_map];rfl
theorem zvs {S:Sto}{x:D}{xs:List D}{R:DIt->Sto->Prop}(h:zeP S x xs)(q:∀ ok:Sto->Prop,(∀ T,ok (S++T))->R ⟨xs,ok⟩ S):zii x S R:=by
 rcases h with rfl | h
 ·exact .inl ⟨xs,rfl,q _ fun _=>True.intro⟩
 ·exact .inr (.inl ⟨xs,h,q _ fun T=>h.old⟩)
theorem zeP.old {S T:Sto}{x:D}{xs:List D}(h:zeP S x xs):zeP (S++T) x xs:=h.imp id Lst.old
theorem zjz (as bs:List (Int×Int)):(zaV as bs).length=as.length*bs.length:=by
 unfold zaV
 induction as with
 | nil=>simp
 | cons a as ih=>rw [List.flatMap_cons,qg,ih,qb,qP,Nat.succ_mul,Nat.add_comm]
theorem znq {as bs:List (Int×Int)}{i:Nat}{a:Int×Int}(h:as[i]?=some a):zaV (as.take (i+1)) bs=zaV (as.take i) bs++bs.map (zbb a):=by
 unfold zaV
 rw [zaC h,List.flatMap_append];simp
def zaB:Int->List (Int×Int)->List (Int×Int)×Int
 | st,[]=>([],st)
 | st,c::cs=>((st,c.1-1)::(zaB (c.2+1) cs).1,(zaB (c.2+1) cs).2)
theorem zeJ:∀ (st:Int) (cs:List (Int×Int)),(zaB st cs).1.length=cs.length
 | _,[]=>rfl
 | st,c::cs=>by show ((zaB (c.2+1) cs).1.length+1)=_;rw [zeJ];rfl
theorem zgt:∀ (st:Int) (cs:List (Int×Int)) (c:Int×Int),zaB st (cs++[c])=((zaB st cs).1++[((zaB st cs).2,c.1-1)],c.2+1)
 | st,[],c=>rfl
 | st,d::cs,c=>by
  show ((st,d.1-1)::(zaB (d.2+1) (cs++[c])).1,(zaB (d.2+1) (cs++[c])).2)=_
  rw [zgt];rfl
theorem zmN {hi h:Int}(hh:h<=hi):∀ (st:Int) {cs:List (Int×Int)},zao cs->st<=h->(∀ c∈cs,c.2<=h->True)->(((zaB st cs).1++[((zaB st cs).2,hi)]).any (inS h)=true↔¬ ∃ c∈cs,c.1<=h/\h<=c.2)
  | st,[],_,hs,_=>by
    simp [zaB,ze7,hs,hh]
  | st,c::cs,s,hs,_=>by
    obtain⟨cb,pb⟩:=List.pairwise_cons.mp s.ap
    have hc:=s.le c (by simp)
    have s':zao cs:=⟨fun x hx=>s.le x (by simp [hx]),pb⟩
    show (((st,c.1-1)::((zaB (c.2+1) cs).1++[((zaB (c.2+1) cs).2,hi)])).any (inS h)=true↔_)
    rw [List.any_cons,Bool.or_eq_true,ze7]
    rcases (by lia:h<c.1\/(c.1<=h/\h<=c.2)\/c.2<h) with g | g | g
    . constructor
      . rintro-⟨x,hx,k1,k2⟩
        rcases qh.mp hx with rfl | hx
        . lia
        . have:=cb x hx;lia
      . intro _
        exact .inl ⟨hs,by show h<=c.1-1;lia⟩
    . constructor
      . intro z
        exfalso
        rcases z with ⟨_,z⟩ | z
        . have:h<=c.1-1:=z
          lia
        . obtain⟨x,hx,k1,k2⟩:=zaH.mp z
          have low:∀ (st:Int) (cs:List (Int×Int)),zao cs->(∀ d∈cs,st<=d.1)->∀ x∈(zaB st cs).1++[((zaB st cs).2,hi)],st<=x.1:=by
            intro st cs
            induction cs generalizing st with
            | nil => intro _ _ x hx; have : x = (st, hi) := by simpa [zaB] using hx
                     subst this;exact qw _
            | cons d ds ih =>
              intro sd hd x hx
              obtain⟨c2,p2⟩:=List.pairwise_cons.mp sd.ap
              have hd1:=hd d (by simp)
              have hd2:=sd.le d (by simp)
              have hx:x∈(st,d.1-1)::((zaB (d.2+1) ds).1++[((zaB (d.2+1) ds).2,hi)]):=hx
              rcases qh.mp hx with rfl | hx
              . exact qw _
              . have:=ih (d.2+1) ⟨fun y hy=>sd.le y (by simp [hy]),p2⟩ (fun y hy=>by have:=c2 y hy;lia) x hx
                lia
          have:=low (c.2+1) cs s' (fun d hd=>by have:=cb d hd;lia) x hx
          lia
      . intro z
        exact absurd ⟨c,by simp,g.1,g.2⟩ z
    . have ih:=zmN hh (c.2+1) s' (by lia) (fun _ _ _=>trivial)
      constructor
      . rintro z ⟨x,hx,k1,k2⟩
        rcases qh.mp hx with rfl | hx
        . lia
        . rcases z with ⟨_,z⟩ | z
          . have:h<=c.1-1:=z
            lia
          . exact ih.mp z ⟨x,hx,k1,k2⟩
      . intro z
        exact .inr (ih.mpr fun⟨x,hx,k⟩=>z ⟨x,by simp [hx],k⟩)
end Dp
namespace Rm
open My Dp
def acr (L R B T x1 z1 x2 z2:Int):List Int :=
 [(x2-x1)*(B-z1)-(z2-z1)*(L-x1),(x2-x1)*(T-z1)-(z2-z1)*(L-x1),(x2-x1)*(B-z1)-(z2-z1)*(R-x1),(x2-x1)*(T-z1)-(z2-z1)*(R-x1)]
def zel (L R B T x1 z1 x2 z2:Int):Prop :=
 L<=(max x1 x2)/\(min x1 x2)<=R/\B<=(max z1 z2)/\(min z1 z2)<=T/\(∃ a∈acr L R B T x1 z1 x2 z2,0<=a)/\∃ a∈acr L R B T x1 z1 x2 z2,a<=0
def zgY (lo hi st sp e1 e2 x1 x2:Int):Prop :=
 (sp=0/\lo<=st/\st<=hi/\e1=0/\e2=1/\x1=1/\x2=1)\/(sp=0/\(st<lo\/hi<st)/\e1=1/\e2=1/\x1=0/\x2=1) \/
 (0<sp/\e1=lo-st/\e2=sp/\x1=hi-st/\x2=sp)\/(sp<0/\e1=st-hi/\e2=-sp/\x1=st-lo/\x2=-sp)
def zlL (ea1 ea2 xa1 xa2 eu1 eu2 xu1 xu2:Int):Prop:=∀ e∈[((0:Int),(1:Int)),(ea1,ea2),(eu1,eu2)],∀ x∈[((1:Int),(1:Int)),(xa1,xa2),(xu1,xu2)],e.1*x.2<=x.1*e.2
theorem zcX {u a b:Int}(h:0<=u)(h':a<=b):u*a<=u*b:=Int.mul_le_mul_of_nonneg_left h' h
theorem zrA {p r P R:Int}{L x:Int}:(∃ a∈[P-L,R-L,P-x,R-x],p<=a)↔(p<=P-L\/p<=R-L\/p<=P-x\/p<=R-x):=by simp
theorem zpG {p P R:Int}{L x:Int}:(∃ a∈[P-L,R-L,P-x,R-x],a<=p)↔(P-L<=p\/R-L<=p\/P-x<=p\/R-x<=p):=by simp
theorem zrj {ea1 ea2 xa1 xa2 eu1 eu2 xu1 xu2:Int}:zlL ea1 ea2 xa1 xa2 eu1 eu2 xu1 xu2 ↔
  (0<=xa1/\0<=xu1)/\(ea1<=ea2/\ea1*xa2<=xa1*ea2/\ea1*xu2<=xu1*ea2)/\(eu1<=eu2/\eu1*xa2<=xa1*eu2/\eu1*xu2<=xu1*eu2):=by
 unfold zlL
 simp
def zlQ (lo hi st sp e1 e2 x1 x2:Int):Prop :=
 (sp=0/\lo<=st/\st<=hi/\e1=0/\e2=1/\x1=1/\x2=1)\/(sp=0/\(st<lo\/hi<st)/\e1=1/\e2=1/\x1=0/\x2=1)\/(0<sp/\e1=lo-st/\e2=sp/\x1=hi-st/\x2=sp)
theorem zmG {lo hi st s t e1 e2 x1 x2:Int}(h:zgY lo hi st (t-s) e1 e2 x1 x2):zlQ lo hi st (t-s) e1 e2 x1 x2\/zlQ (-hi) (-lo) (-st) (-t - -s) e1 e2 x1 x2:=by
 rcases h with h | h | h | ⟨h,rfl,rfl,rfl,rfl⟩
 ·exact .inl (.inl h)
 ·exact .inl (.inr (.inl h))
 ·exact .inl (.inr (.inr h))
 ·exact .inr (.inr (.inr ⟨by lia,by lia,by lia,by lia,by lia⟩))
theorem zmY {as bs:List Int}(h:∀ a,a∈bs↔-a∈as):((∃ a∈bs,0<=a)↔∃ a∈as,a<=0)/\((∃ a∈bs,a<=0)↔∃ a∈as,0<=a):=by
  have back:∀ a,a∈as->-a∈bs:=fun a ha=>(h (-a)).mpr (by rw [Int.neg_neg];exact ha)
  refine⟨⟨?_,?_⟩,?_,?_⟩<;>rintro⟨a,ha,h0⟩
  . exact⟨-a,(h a).mp ha,by lia⟩
  . exact⟨-a,back a ha,by lia⟩
  . exact⟨-a,(h a).mp ha,by lia⟩
  . exact⟨-a,back a ha,by lia⟩
theorem zrH {a p q r t:Int}:a∈[-p,-q,-r,-t]↔-a∈[r,t,p,q]:=by
 have e:∀ x,a=-x↔-a=x:=fun x=>⟨fun h=>by rw [h,Int.neg_neg],fun h=>by rw [<- h,Int.neg_neg]⟩
 simp only [qh,qE,or_false,e]
 exact⟨fun h=>h.elim (fun h=>.inr (.inr (.inl h))) (fun h=>h.elim (fun h=>.inr (.inr (.inr h))) (fun h=>h.elim .inl (fun h=>.inr (.inl h)))),fun h=>h.elim (fun h=>.inr (.inr (.inl h))) (fun h=>h.elim (fun h=>.inr (.inr (.inr h))) (fun h=>h.elim .inl (fun h=>.inr (.inl h))))⟩
theorem zzt (a b c d e:Int):(-a - -b)*c-d*(-e - -b)=-((a-b)*c-d*(e-b)):=by
 rw [show -a - -b=-(a-b) by lia,show -e - -b=-(e-b) by lia,Int.neg_mul,Int.mul_neg];lia
theorem zyO (a b c d e:Int):c*(-a - -b)-(-d - -b)*e=-(c*(a-b)-(d-b)*e):=by
 rw [show -a - -b=-(a-b) by lia,show -d - -b=-(d-b) by lia,Int.neg_mul,Int.mul_neg];lia
theorem zmA (a b:Int):max (-a) (-b)=-(min a b):=by lia
theorem zlT (a b:Int):min (-a) (-b)=-(max a b):=by lia
theorem zlj {L R B T x1 z1 x2 z2:Int}:zel (-R) (-L) B T (-x1) z1 (-x2) z2↔zel L R B T x1 z1 x2 z2:=by
 have e:acr (-R) (-L) B T (-x1) z1 (-x2) z2=[-((x2-x1)*(B-z1)-(z2-z1)*(R-x1)),-((x2-x1)*(T-z1)-(z2-z1)*(R-x1)),-((x2-x1)*(B-z1)-(z2-z1)*(L-x1)),-((x2-x1)*(T-z1)-(z2-z1)*(L-x1))]:=by
  unfold acr
  simp only [zzt]
 have k:=zmY (as:=acr L R B T x1 z1 x2 z2) (bs:=acr (-R) (-L) B T (-x1) z1 (-x2) z2) (fun a=>by rw [e];exact zrH)
 unfold zel
 rw [k.1,k.2,zmA,zlT]
 generalize max x1 x2=a1
 generalize min x1 x2=a2
 generalize (∃ a∈acr L R B T x1 z1 x2 z2,0<=a)=P
 generalize (∃ a∈acr L R B T x1 z1 x2 z2,a<=0)=Q
 constructor
 ·rintro⟨h1,h2,h3,h4,h5,h6⟩;exact⟨by lia,by lia,h3,h4,h6,h5⟩
 ·rintro⟨h1,h2,h3,h4,h5,h6⟩;exact⟨by lia,by lia,h3,h4,h6,h5⟩
theorem zqB {a p q r t:Int}:a∈[-p,-q,-r,-t]↔-a∈[q,p,t,r]:=by
 have e:∀ x,a=-x↔-a=x:=fun x=>⟨fun h=>by rw [h,Int.neg_neg],fun h=>by rw [<- h,Int.neg_neg]⟩
 simp only [qh,qE,or_false,e]
 exact⟨fun h=>h.elim (fun h=>.inr (.inl h)) (fun h=>h.elim .inl (fun h=>h.elim (fun h=>.inr (.inr (.inr h))) (fun h=>.inr (.inr (.inl h))))),fun h=>h.elim (fun h=>.inr (.inl h)) (fun h=>h.elim .inl (fun h=>h.elim (fun h=>.inr (.inr (.inr h))) (fun h=>.inr (.inr (.inl h)))))⟩
theorem zlh {L R B T x1 z1 x2 z2:Int}:zel L R (-T) (-B) x1 (-z1) x2 (-z2)↔zel L R B T x1 z1 x2 z2:=by
 have e:acr L R (-T) (-B) x1 (-z1) x2 (-z2)=[-((x2-x1)*(T-z1)-(z2-z1)*(L-x1)),-((x2-x1)*(B-z1)-(z2-z1)*(L-x1)),-((x2-x1)*(T-z1)-(z2-z1)*(R-x1)),-((x2-x1)*(B-z1)-(z2-z1)*(R-x1))]:=by
  unfold acr
  simp only [zyO]
 have k:=zmY (as:=acr L R B T x1 z1 x2 z2) (bs:=acr L R (-T) (-B) x1 (-z1) x2 (-z2)) (fun a=>by rw [e];exact zqB)
 unfold zel
 rw [k.1,k.2,zmA,zlT]
 generalize max z1 z2=a1
 generalize min z1 z2=a2
 generalize (∃ a∈acr L R B T x1 z1 x2 z2,0<=a)=P
 generalize (∃ a∈acr L R B T x1 z1 x2 z2,a<=0)=Q
 constructor
 ·rintro⟨h1,h2,h3,h4,h5,h6⟩;exact⟨h1,h2,by lia,by lia,h6,h5⟩
 ·rintro⟨h1,h2,h3,h4,h5,h6⟩;exact⟨h1,h2,by lia,by lia,h6,h5⟩
theorem zt6 {P Q p q:Int}(h:P<=Q)(g:p<=q):(0<=P-p\/0<=Q-p\/0<=P-q\/0<=Q-q)↔p<=Q:=⟨fun k=>by rcases k with k | k | k | k<;>lia,fun k=>.inr (.inl (by lia))⟩
theorem zuz {P Q p q:Int}(h:P<=Q)(g:p<=q):(P-p<=0\/Q-p<=0\/P-q<=0\/Q-q<=0)↔P<=q:=⟨fun k=>by rcases k with k | k | k | k<;>lia,fun k=>.inr (.inr (.inl (by lia)))⟩
theorem zgN {L R B T x1 z1 x2 z2 ea1 ea2 xa1 xa2 eu1 eu2 xu1 xu2:Int}(hx:L<=R)(hz:B<=T)(pa:zlQ L R x1 (x2-x1) ea1 ea2 xa1 xa2)(pu:zlQ B T z1 (z2-z1) eu1 eu2 xu1 xu2) :
    zlL ea1 ea2 xa1 xa2 eu1 eu2 xu1 xu2↔zel L R B T x1 z1 x2 z2:=by
  have u0:0<=x2-x1:=by rcases pa with h | h | h<;>lia
  have v0:0<=z2-z1:=by rcases pu with h | h | h<;>lia
  rw [zrj]
  unfold zel acr
  rw [zrA (r:=0),zpG,show max x1 x2=x1+(x2-x1) by lia,show min x1 x2=x1 by lia,show max z1 z2=z1+(z2-z1) by lia,show min z1 z2=z1 by lia]
  generalize x2-x1=u at *
  generalize z2-z1=v at *
  have k1:=zcX u0 (show B-z1<=T-z1 by lia)
  have k2:=zcX v0 (show L-x1<=R-x1 by lia)
  rw [zt6 k1 k2,zuz k1 k2]
  have c1:∀ s t:Int,(s-x1)*t=t*(s-x1):=fun s t=>Int.mul_comm _ _
  have c3:∀ s t:Int,(s-z1)*t=t*(s-z1):=fun s t=>Int.mul_comm _ _
  have k5:B<=z1->u*(B-z1)<=0:=fun h=>by have:=zcX u0 (show B-z1<=0 by lia);rwa [Int.mul_zero] at this
  have k6:z1<=T->0<=u*(T-z1):=fun h=>by have:=zcX u0 (show 0<=T-z1 by lia);rwa [Int.mul_zero] at this
  have k8:=zcX v0 (show B-z1<=T-z1 by lia)
  rcases pa with ⟨hu,h1,h2,rfl,rfl,rfl,rfl⟩ | ⟨hu,h1,rfl,rfl,rfl,rfl⟩ | ⟨hu,rfl,rfl,rfl,rfl⟩
  . clear k5 k6
    subst hu
    have k3:=zcX v0 (show L-x1<=0 by lia)
    have k4:=zcX v0 (show 0<=R-x1 by lia)
    rcases pu with ⟨hv,g1,g2,rfl,rfl,rfl,rfl⟩ | ⟨hv,g1,rfl,rfl,rfl,rfl⟩ | ⟨hv,rfl,rfl,rfl,rfl⟩ <;>
    simp only [c3,Int.zero_mul,Int.mul_zero,Int.one_mul,Int.mul_one] at *<;>lia
  . simp only [Int.one_mul,Int.mul_one]
    lia
  . have k7:=zcX u0 (show L-x1<=R-x1 by lia)
    rcases pu with ⟨hv,g1,g2,rfl,rfl,rfl,rfl⟩ | ⟨hv,g1,rfl,rfl,rfl,rfl⟩ | ⟨hv,rfl,rfl,rfl,rfl⟩
    . subst hv
      have k5:=k5 g1
      have k6:=k6 g2
      simp only [c1,c3,Int.zero_mul,Int.mul_zero,Int.one_mul,Int.mul_one] at *
      lia
    . simp only [Int.one_mul,Int.mul_one]
      lia
    . simp only [c1,c3]
      exact⟨fun⟨⟨a,b⟩,⟨c,_,d⟩,e,f,_⟩=>⟨by lia,by lia,by lia,by lia,d,f⟩,fun⟨a,b,c,d,e,f⟩=>⟨⟨by lia,by lia⟩,⟨by lia,k7,e⟩,by lia,f,k8⟩⟩
theorem zru {L R B T x1 z1 x2 z2 ea1 ea2 xa1 xa2 eu1 eu2 xu1 xu2:Int}(hx:L<=R)(hz:B<=T)(pa:zgY L R x1 (x2-x1) ea1 ea2 xa1 xa2)(pu:zgY B T z1 (z2-z1) eu1 eu2 xu1 xu2) :
    zlL ea1 ea2 xa1 xa2 eu1 eu2 xu1 xu2↔zel L R B T x1 z1 x2 z2:=by
  rcases zmG pa with pa | pa<;>rcases zmG pu with pu | pu
  . exact zgN hx hz pa pu
  . rw [<- zlh];exact zgN hx (by lia) pa pu
  . rw [<- zlj];exact zgN (by lia) hz pa pu
  . rw [<- zlj,<- zlh];exact zgN (by lia) (by lia) pa pu
theorem zml (L R B T x1 z1 x2 z2 g s k:Int):acr (L+g*k) (R+g*k) (B+s*k) (T+s*k) x1 z1 x2 z2=(acr L R B T x1 z1 x2 z2).map fun a=>a+k*((x2-x1)*s-(z2-z1)*g):=by
  unfold acr
  simp only [qJ,List.map_nil,List.cons.injEq,and_true]
  refine⟨?_,?_,?_,?_⟩<;>grind
theorem zsS {as:List Int}{m m' d:Int}(h1:m∈as)(h2:∀ a∈as,a<=m)(h3:m'∈as.map fun a=>a+d)(h4:∀ a∈as.map (fun a=>a+d),a<=m'):m'=m+d:=by
 obtain⟨b,hb,rfl⟩:=List.mem_map.mp h3
 have e1:=h2 b hb
 have e2:=h4 (m+d) (List.mem_map.mpr ⟨m,h1,rfl⟩)
 lia
theorem zsF {as:List Int}{m m' d:Int}(h1:m∈as)(h2:∀ a∈as,m<=a)(h3:m'∈as.map fun a=>a+d)(h4:∀ a∈as.map (fun a=>a+d),m'<=a):m'=m+d:=by
 obtain⟨b,hb,rfl⟩:=List.mem_map.mp h3
 have e1:=h2 b hb
 have e2:=h4 (m+d) (List.mem_map.mpr ⟨m,h1,rfl⟩)
 lia
def six (L R B T x1 z1 x2 z2 mx mn:Int):List Int:=[(max x1 x2)-L,R-(min x1 x2),(max z1 z2)-B,T-(min z1 z2),mx,-mn]
theorem zqa {L R B T x1 z1 x2 z2 g s mx mn mx' mn' k:Int}(m1:mx∈acr (L+g*0) (R+g*0) (B+s*0) (T+s*0) x1 z1 x2 z2)(m2:∀ a∈acr (L+g*0) (R+g*0) (B+s*0) (T+s*0) x1 z1 x2 z2,a<=mx)
    (n1:mn∈acr (L+g*0) (R+g*0) (B+s*0) (T+s*0) x1 z1 x2 z2) (n2:∀ a∈acr (L+g*0) (R+g*0) (B+s*0) (T+s*0) x1 z1 x2 z2,mn<=a)
    (m1':mx'∈acr (L+g*1) (R+g*1) (B+s*1) (T+s*1) x1 z1 x2 z2) (m2':∀ a∈acr (L+g*1) (R+g*1) (B+s*1) (T+s*1) x1 z1 x2 z2,a<=mx')
    (n1':mn'∈acr (L+g*1) (R+g*1) (B+s*1) (T+s*1) x1 z1 x2 z2) (n2':∀ a∈acr (L+g*1) (R+g*1) (B+s*1) (T+s*1) x1 z1 x2 z2,mn'<=a) :
    (∀ i,i<6->0<=(six (L+g*0) (R+g*0) (B+s*0) (T+s*0) x1 z1 x2 z2 mx mn).getD i 0+k*((six (L+g*1) (R+g*1) (B+s*1) (T+s*1) x1 z1 x2 z2 mx' mn').getD i 0-(six (L+g*0) (R+g*0) (B+s*0) (T+s*0) x1 z1 x2 z2 mx mn).getD i 0)) ↔
    zel (L+g*k) (R+g*k) (B+s*k) (T+s*k) x1 z1 x2 z2:=by
  rw [zml] at m1 m2 n1 n2 m1' m2' n1' n2'
  have id0:(acr L R B T x1 z1 x2 z2).map (fun a=>a+0*((x2-x1)*s-(z2-z1)*g))=acr L R B T x1 z1 x2 z2:=by
    simp
  rw [id0] at m1 m2 n1 n2
  rw [show (fun a:Int=>a+1*((x2-x1)*s-(z2-z1)*g))=fun a=>a+((x2-x1)*s-(z2-z1)*g) by funext a;rw [Int.one_mul]] at m1' m2' n1' n2'
  have e1:=zsS m1 m2 m1' m2'
  have e2:=zsF n1 n2 n1' n2'
  unfold zel
  rw [zml]
  generalize (x2-x1)*s-(z2-z1)*g=d at *
  have f1:(∃ a∈(acr L R B T x1 z1 x2 z2).map (fun a=>a+k*d),0<=a)↔0<=mx+k*d:=by
    constructor
    . rintro⟨a,ha,h⟩
      obtain⟨b,hb,rfl⟩:=List.mem_map.mp ha
      have:=m2 b hb
      lia
    . intro h
      exact⟨_,List.mem_map.mpr ⟨mx,m1,rfl⟩,h⟩
  have f2:(∃ a∈(acr L R B T x1 z1 x2 z2).map (fun a=>a+k*d),a<=0)↔mn+k*d<=0:=by
    constructor
    . rintro⟨a,ha,h⟩
      obtain⟨b,hb,rfl⟩:=List.mem_map.mp ha
      have:=n2 b hb
      lia
    . intro h
      exact⟨_,List.mem_map.mpr ⟨mn,n1,rfl⟩,h⟩
  rw [f1,f2]
  subst e1 e2
  unfold six
  generalize (max x1 x2)=q1
  generalize (min x1 x2)=q2
  generalize (max z1 z2)=q3
  generalize (min z1 z2)=q4
  have h0:k*(q1-(L+g*1)-(q1-(L+g*0)))=-(g*k):=by grind
  have h1:k*(R+g*1-q2-(R+g*0-q2))=g*k:=by grind
  have h2:k*(q3-(B+s*1)-(q3-(B+s*0)))=-(s*k):=by grind
  have h3:k*(T+s*1-q4-(T+s*0-q4))=s*k:=by grind
  have h4:k*(mx+d-mx)=k*d:=by grind
  have h5:k*(-(mn+d) - -mn)=-(k*d):=by grind
  constructor
  . intro h
    have a0:=h 0 (by decide)
    have a1:=h 1 (by decide)
    have a2:=h 2 (by decide)
    have a3:=h 3 (by decide)
    have a4:=h 4 (by decide)
    have a5:=h 5 (by decide)
    simp only [List.getD_cons_zero,List.getD_cons_succ] at a0 a1 a2 a3 a4 a5
    rw [h0] at a0
    rw [h1] at a1
    rw [h2] at a2
    rw [h3] at a3
    rw [h4] at a4
    rw [h5] at a5
    refine⟨?_,?_,?_,?_,?_,?_⟩<;>lia
  . rintro⟨a0,a1,a2,a3,a4,a5⟩ i hi
    match i,hi with
    | 0,_=>simp only [List.getD_cons_zero,List.getD_cons_succ];rw [h0];lia
    | 1,_=>simp only [List.getD_cons_zero,List.getD_cons_succ];rw [h1];lia
    | 2,_=>simp only [List.getD_cons_zero,List.getD_cons_succ];rw [h2];lia
    | 3,_=>simp only [List.getD_cons_zero,List.getD_cons_succ];rw [h3];lia
    | 4,_=>simp only [List.getD_cons_zero,List.getD_cons_succ];rw [h4];lia
    | 5,_=>simp only [List.getD_cons_zero,List.getD_cons_succ];rw [h5];lia
theorem ztD {S T k:Int}(h:0<T):-(S/T)<=k↔0<=S+k*T:=by
 have:-k<=S/T↔-k*T<=S:=Int.le_ediv_iff_mul_le h
 rw [Int.neg_mul] at this
 lia
theorem zp0 {S T k:Int}(h:T<0):k<=S / -T↔0<=S+k*T:=by
 have:k<=S / -T↔k * -T<=S:=Int.le_ediv_iff_mul_le (by lia)
 rw [Int.mul_neg] at this
 lia
def Hit (L R B T x1 z1 x2 z2:Int):Prop:=∃ p q:Int,0<q/\0<=p/\p<=q/\L*q<=x1*q+p*(x2-x1)/\x1*q+p*(x2-x1)<=R*q/\B*q<=z1*q+p*(z2-z1)/\z1*q+p*(z2-z1)<=T*q
theorem mulL {k a b:Int}(h:0<=k)(g:a<=b):k*a<=k*b:=Int.mul_le_mul_of_nonneg_left g h
theorem zso {k a b:Int}(h:0<k)(g:k*a<=k*b):a<=b:=Int.le_of_mul_le_mul_left g h
theorem ftr {a b c d e f:Int}(hb:0<=b)(hf:0<=f)(hd:0<d)(h1:a*d<=c*b)(h2:c*f<=e*d):a*f<=e*b:=by
 refine zso hd ?_
 have k1:=mulL hf h1
 have k2:=mulL hb h2
 have e1:d*(a*f)=f*(a*d):=by grind
 have e2:f*(c*b)=b*(c*f):=by grind
 have e3:b*(e*d)=d*(e*b):=by grind
 lia
theorem fmax:∀ {l:List (Int×Int)},l≠[]->(∀ e∈l,0<e.2)->∃ e∈l,∀ f∈l,f.1*e.2<=e.1*f.2
 | [],h,_=>absurd rfl h
 | [x],_,_=>⟨x,by simp,fun f hf=>by simp at hf;subst hf;exact qw _⟩
 | x::y::l,_,h=>by
  obtain⟨m,hm,g⟩:=fmax (l:=y::l) (by simp) fun e he=>h e (by simp [he])
  have hx:=h x (by simp)
  have hm2:=h m (by simp [hm])
  rcases Int.le_total (x.1*m.2) (m.1*x.2) with c | c
  ·refine⟨m,by simp [hm],fun f hf=>?_⟩
   rcases qh.mp hf with rfl | hf
   ·exact c
   ·exact g f hf
  ·refine⟨x,by simp,fun f hf=>?_⟩
   rcases qh.mp hf with rfl | hf
   ·exact qw _
   ·exact ftr (Int.le_of_lt (h f (by simp [hf]))) (Int.le_of_lt hx) hm2 (g f hf) c
theorem zoe (lo hi st sp:Int):∃ e1 e2 x1 x2,zgY lo hi st sp e1 e2 x1 x2/\0<e2/\0<x2:=by
 unfold zgY
 rcases Int.lt_trichotomy sp 0 with h | h | h
 ·exact⟨st-hi,-sp,st-lo,-sp,.inr (.inr (.inr ⟨h,rfl,rfl,rfl,rfl⟩)),by lia,by lia⟩
 ·by_cases g:lo<=st/\st<=hi
  ·exact⟨0,1,1,1,.inl ⟨h,g.1,g.2,rfl,rfl,rfl,rfl⟩,by lia,by lia⟩
  ·exact⟨1,1,0,1,.inr (.inl ⟨h,by lia,rfl,rfl,rfl,rfl⟩),by lia,by lia⟩
 ·exact⟨lo-st,sp,hi-st,sp,.inr (.inr (.inl ⟨h,rfl,rfl,rfl,rfl⟩)),h,h⟩
theorem zoc {lo hi st sp e1 e2 x1 x2 p q:Int}(P:zgY lo hi st sp e1 e2 x1 x2)(hq:0<q)(h0:0<=p)(h1:p<=q)(h2:e1*q<=p*e2)(h3:p*x2<=x1*q):lo*q<=st*q+p*sp/\st*q+p*sp<=hi*q:=by
 rcases P with ⟨hu,g1,g2,rfl,rfl,rfl,rfl⟩ | ⟨hu,g1,rfl,rfl,rfl,rfl⟩ | ⟨hu,rfl,rfl,rfl,rfl⟩ | ⟨hu,rfl,rfl,rfl,rfl⟩
 ·subst hu
  have k1:=mulL (Int.le_of_lt hq) g1
  have k2:=mulL (Int.le_of_lt hq) g2
  rw [Int.mul_comm q,Int.mul_comm q] at k1 k2
  rw [Int.mul_zero];lia
 ·lia
 ·rw [Int.sub_mul] at h2 h3;lia
 ·rw [Int.sub_mul,Int.mul_neg] at h2 h3;lia
theorem zmI {lo hi st sp e1 e2 x1 x2 p q:Int}(P:zgY lo hi st sp e1 e2 x1 x2)(hq:0<q)(h0:0<=p)(h1:p<=q)(h2:lo*q<=st*q+p*sp)(h3:st*q+p*sp<=hi*q):e1*q<=p*e2/\p*x2<=x1*q:=by
 rcases P with ⟨hu,g1,g2,rfl,rfl,rfl,rfl⟩ | ⟨hu,g1,rfl,rfl,rfl,rfl⟩ | ⟨hu,rfl,rfl,rfl,rfl⟩ | ⟨hu,rfl,rfl,rfl,rfl⟩
 ·lia
 ·subst hu
  rw [Int.mul_zero,Int.add_zero,Int.mul_comm lo,Int.mul_comm st] at h2
  rw [Int.mul_zero,Int.add_zero,Int.mul_comm hi,Int.mul_comm st] at h3
  have k1:=zso hq h2
  have k2:=zso hq h3
  lia
 ·rw [Int.sub_mul,Int.sub_mul];lia
 ·rw [Int.sub_mul,Int.sub_mul,Int.mul_neg];lia
theorem znL {L R B T x1 z1 x2 z2:Int}(hx:L<=R)(hz:B<=T):zel L R B T x1 z1 x2 z2↔Hit L R B T x1 z1 x2 z2:=by
  obtain⟨a1,a2,a3,a4,pa,ha2,ha4⟩:=zoe L R x1 (x2-x1)
  obtain⟨u1,u2,u3,u4,pu,hu2,hu4⟩:=zoe B T z1 (z2-z1)
  rw [<- zru hx hz pa pu]
  constructor
  . intro h
    obtain⟨⟨p,q⟩,he,mx⟩:=fmax (l:=[((0:Int),(1:Int)),(a1,a2),(u1,u2)]) (by simp) (by
      intro e he
      simp only [qh,qE,or_false] at he
      rcases he with rfl | rfl | rfl
      . exact Int.one_pos
      . exact ha2
      . exact hu2)
    have hq:0<q:=by
      simp only [qh,qE,or_false,Prod.mk.injEq] at he
      rcases he with he | he | he<;>lia
    have m0:=mx (0,1) (by simp)
    have m1:=mx (a1,a2) (by simp)
    have m2:=mx (u1,u2) (by simp)
    have n0:=h _ he (1,1) (by simp)
    have n1:=h _ he (a3,a4) (by simp)
    have n2:=h _ he (u3,u4) (by simp)
    dsimp only at m0 m1 m2 n0 n1 n2
    have h0:0<=p:=by lia
    have h1:p<=q:=by lia
    obtain⟨k1,k2⟩:=zoc pa hq h0 h1 m1 n1
    obtain⟨k3,k4⟩:=zoc pu hq h0 h1 m2 n2
    exact⟨p,q,hq,h0,h1,k1,k2,k3,k4⟩
  . rintro⟨p,q,hq,h0,h1,k1,k2,k3,k4⟩
    obtain⟨g1,g2⟩:=zmI pa hq h0 h1 k1 k2
    obtain⟨g3,g4⟩:=zmI pu hq h0 h1 k3 k4
    intro e he x hx
    have ee:0<e.2/\e.1*q<=p*e.2:=by
      simp only [qh,qE,or_false] at he
      rcases he with rfl | rfl | rfl
      . exact⟨Int.one_pos,by lia⟩
      . exact⟨ha2,g1⟩
      . exact⟨hu2,g3⟩
    have xx:0<x.2/\p*x.2<=x.1*q:=by
      simp only [qh,qE,or_false] at hx
      rcases hx with rfl | rfl | rfl
      . exact⟨Int.one_pos,by lia⟩
      . exact⟨ha4,g2⟩
      . exact⟨hu4,g4⟩
    exact ftr (Int.le_of_lt ee.1) (Int.le_of_lt xx.1) hq ee.2 xx.2
end Rm
namespace Dp
open PySem Rm My
structure Fg where
 x0:Int
 x1:Int
 z0:Int
 z1:Int
 f:Int
 l:Int
 g:Int
 s:Int
abbrev fgD (F:Fg):D:=.tup [.int F.x0,.int F.x1,.int F.z0,.int F.z1,.int F.f,.int F.l,.int F.g,.int F.s]
structure FgB (F:Fg):Prop where
 x:F.x0<=F.x1
 z:F.z0<=F.z1
 b0:Bd 600 F.x0
 b1:Bd 600 F.x1
 b2:Bd 600 F.z0
 b3:Bd 600 F.z1
 bg:Bd 200 F.g
 bs:Bd 200 F.s
def ze8 (F:Fg)(px pz qx qz h:Int):Prop:=F.f<=h/\h<=F.l/\Hit (F.x0+F.g*(h-F.f)) (F.x1+F.g*(h-F.f)) (F.z0+F.s*(h-F.f)) (F.z1+F.s*(h-F.f)) px pz qx qz
def ztl (ms:List (Int×Int))(F:Fg)(px pz qx qz:Int):Prop:=zao ms/\ms.length<=1/\∀ h,ms.any (inS h)=true↔ze8 F px pz qx qz h
theorem zpO {fs:List Fg}{i:Nat}{d:D}(h:(fs.map fgD)[i]?=some d):∃ F,fs[i]?=some F/\d=fgD F:=by
 rw [qo] at h
 cases e:fs[i]? with
 | none=>rw [e] at h;cases h
 | some p=>rw [e] at h;cases h;exact⟨p,rfl,rfl⟩
theorem Bd.max2 {n:Nat}{a b:Int}(ha:Bd n a)(hb:Bd n b):Bd n (max a b):=by
 rcases Int.le_total a b with h | h
 ·rw [Int.max_eq_right h];exact hb
 ·rw [Int.max_eq_left h];exact ha
theorem Bd.min2 {n:Nat}{a b:Int}(ha:Bd n a)(hb:Bd n b):Bd n (min a b):=by
 rcases Int.le_total a b with h | h
 ·rw [Int.min_eq_left h];exact ha
 ·rw [Int.min_eq_right h];exact hb
theorem zpW {L R B T x1 z1 x2 z2 mx mn:Int}(bL:Bd 700 L)(bR:Bd 700 R)(bB:Bd 700 B)(bT:Bd 700 T)(b1:Bd 700 x1)(b2:Bd 700 z1)(b3:Bd 700 x2)(b4:Bd 700 z2)(m1:mx∈acr L R B T x1 z1 x2 z2)(n1:mn∈acr L R B T x1 z1 x2 z2) :
    ∀ v∈six L R B T x1 z1 x2 z2 mx mn,Bd 1500 v:=by
  have pr:∀ {u v w t:Int},Bd 701 u->Bd 701 v->Bd 701 w->Bd 701 t->Bd 1500 (u*v-w*t):=fun h1 h2 h3 h4=>(Bd.sub (n:=1402) (Bd.mul h1 h2) (Bd.mul h3 h4)).mono (by decide)
  have ba:∀ a∈acr L R B T x1 z1 x2 z2,Bd 1500 a:=by
    intro a ha
    unfold acr at ha
    simp only [qh,qE,or_false] at ha
    rcases ha with rfl | rfl | rfl | rfl<;>exact pr (Bd.sub (by assumption) (by assumption)) (Bd.sub (by assumption) (by assumption)) (Bd.sub (by assumption) (by assumption)) (Bd.sub (by assumption) (by assumption))
  intro v hv
  unfold six at hv
  simp only [qh,qE,or_false] at hv
  rcases hv with rfl | rfl | rfl | rfl | rfl | rfl
  . exact (Bd.sub (Bd.max2 b1 b3) bL).mono (by decide)
  . exact (Bd.sub bR (Bd.min2 b1 b3)).mono (by decide)
  . exact (Bd.sub (Bd.max2 b2 b4) bB).mono (by decide)
  . exact (Bd.sub bT (Bd.min2 b2 b4)).mono (by decide)
  . exact ba _ m1
  . exact (ba _ n1).neg
theorem zrG {ms:List (Int×Int)}{F:Fg}{px pz qx qz lo hi:Int}(B:FgB F)(ok:zao ms)(one:ms.length<=1)(hany:∀ h,ms.any (inS h)=[(F.f+lo,F.f+hi)].any (inS h))
  (hk:∀ k,(lo<=k/\k<=hi)↔(0<=k/\k<=F.l-F.f/\zel (F.x0+F.g*k) (F.x1+F.g*k) (F.z0+F.s*k) (F.z1+F.s*k) px pz qx qz)):ztl ms F px pz qx qz:=by
 refine⟨ok,one,fun h=>?_⟩
 rw [hany h]
 have:=hk (h-F.f)
 rw [znL (by have:=B.x;lia) (by have:=B.z;lia)] at this
 simp only [List.any_cons,List.any_nil,Bool.or_false,ze7]
 unfold ze8
 constructor
 ·rintro⟨a,b⟩
  obtain⟨c1,c2,c3⟩:=this.mp ⟨by lia,by lia⟩
  exact⟨by lia,by lia,c3⟩
 ·rintro⟨a,b,c⟩
  obtain⟨d1,d2⟩:=this.mpr ⟨by lia,by lia,c⟩
  exact⟨by lia,by lia⟩
def flt (a b:Int×Int):Bool:=decide (a.1*b.2<b.1*a.2)
theorem zlM {cs:List (Int×Int)}{k:Int}(h0:0<=k)(h:k<cs.length):∃ c,cs[k.toNat]?=some c/\atD (cs.map p2) k=some (p2 c):=by
 have hk:k.toNat<cs.length:=by lia
 refine⟨cs[k.toNat],qc hk,?_⟩
 have:=zfa (ds:=cs.map p2) (i:=k.toNat) (d:=p2 (cs[k.toNat])) (by rw [qo,qc hk];rfl)
 rwa [show ((k.toNat:Nat):Int)=k by lia] at this
def lenV (ms:List (Int×Int)):Int:=(ms.map fun m=>m.2-m.1).sum
def Sv (c:Int×Int)(t b:Int):Prop:=0<c.2/\c.1*b=t*c.2
def hvT (a b p:Int×Int):Int:=if 0<b.1-a.1 then a.2*(b.1-a.1)*p.2+(b.2-a.2)*(p.1-a.1*p.2) else -(a.2*(b.1-a.1)*p.2+(b.2-a.2)*(p.1-a.1*p.2))
def hvB (a b p:Int×Int):Int:=if 0<b.1-a.1 then (b.1-a.1)*p.2 else -((b.1-a.1)*p.2)
theorem zuK {a b p:Int×Int}(h:b.1≠a.1)(hp:0<p.2):0<hvB a b p:=by
 unfold hvB
 split
 ·exact Int.mul_pos (by lia) hp
 ·have:=Int.mul_pos (show 0 < -(b.1-a.1) by lia) hp
  rw [Int.neg_mul] at this
  exact this
theorem zwO {c d:Int×Int}{t b u e:Int}(hb:0<b)(he:0<e)(hc:Sv c t b)(hd:Sv d u e):flt c d=decide (t*e<u*b):=by
 obtain⟨c0,c1⟩:=hc
 obtain⟨d0,d1⟩:=hd
 unfold flt
 refine decide_eq_decide.mpr ?_
 have hbe:0<b*e:=Int.mul_pos hb he
 have hcd:0<c.2*d.2:=Int.mul_pos c0 d0
 rw [<- Int.mul_lt_mul_right hbe,<- Int.mul_lt_mul_right (b:=t*e) (c:=u*b) hcd]
 have e1:c.1*d.2*(b*e)=t*e*(c.2*d.2):=by
  have:c.1*d.2*(b*e)=c.1*b*(d.2*e):=by grind
  rw [this,c1];grind
 have e2:d.1*c.2*(b*e)=u*b*(c.2*d.2):=by
  have:d.1*c.2*(b*e)=d.1*e*(c.2*b):=by grind
  rw [this,d1];grind
 rw [e1,e2]
structure Grd (cs:List (Int×Int)):Prop where
 two:2<=cs.length
 most:cs.length<=40
 asc:cs.Pairwise fun a b=>a.1<b.1
 bd:∀ c∈cs,Bd 170 c.1/\Bd 190 c.2
def zkH (cs:List (Int×Int)):Int:=(cs.getD 0 (0,0)).1
def zjy (cs:List (Int×Int)):Int:=(cs.getD (cs.length-1) (0,0)).1
def OnG (cs:List (Int×Int))(p:Int×Int):Prop:=zkH cs*p.2<=p.1/\p.1<=zjy cs*p.2
def zjm:List (Int×Int)->Int×Int->Option ((Int×Int)×(Int×Int))
 | a::b::r,p=>if p.1<=b.1*p.2 then some (a,b) else zjm (b::r) p
 | _,_=>none
theorem seg_at:∀ {cs:List (Int×Int)} {p:Int×Int} {k:Nat} {a b:Int×Int},cs[k]?=some a->cs[k+1]?=some b->p.1<=b.1*p.2->(∀ j c,1<=j->j<=k->cs[j]?=some c->c.1*p.2<p.1)->zjm cs p=some (a,b)
 | [],p,k,a,b,h,_,_,_=>by simp at h
 | [x],p,0,a,b,_,h,_,_=>by simp at h
 | [x],p,k+1,a,b,h,_,_,_=>by simp at h
 | x::y::r,p,0,a,b,h1,h2,h3,_=>by
  simp at h1 h2
  subst h1 h2
  unfold zjm
  rw [if_pos h3]
 | x::y::r,p,k+1,a,b,h1,h2,h3,h4=>by
  have:=h4 1 y (by lia) (by lia) rfl
  unfold zjm
  rw [if_neg (by lia)]
  exact seg_at (by simpa using h1) (by simpa using h2) h3 fun j c j1 j2 hc=>h4 (j+1) c (by lia) (by lia) (by simpa using hc)
theorem zqc:∀ {cs:List (Int×Int)} {p:Int×Int},2<=cs.length->p.1<=zjy cs*p.2->∃ k a b,cs[k]?=some a/\cs[k+1]?=some b/\p.1<=b.1*p.2/\∀ j c,1<=j->j<=k->cs[j]?=some c->c.1*p.2<p.1
 | [],p,h,_=>by simp at h
 | [x],p,h,_=>by simp at h
 | [x,y],p,_,h=>⟨0,x,y,rfl,rfl,h,fun j c j1 j2=>by lia⟩
 | x::y::z::r,p,_,h=>by
  by_cases g:p.1<=y.1*p.2
  ·exact⟨0,x,y,rfl,rfl,g,fun j c j1 j2=>by lia⟩
  ·obtain⟨k,a,b,h1,h2,h3,h4⟩:=zqc (cs:=y::z::r) (p:=p) (by simp) h
   refine⟨k+1,a,b,by simpa using h1,by simpa using h2,h3,fun j c j1 j2 hc=>?_⟩
   cases j with
   | zero=>lia
   | succ j =>
    cases j with
    | zero=>simp at hc;subst hc;lia
    | succ j=>exact h4 (j+1) c (by lia) (by lia) (by simpa using hc)
theorem zqC {cs:List (Int×Int)}(g:Grd cs){i j:Nat}{a b:Int×Int}(hij:i<j)(ha:cs[i]?=some a)(hb:cs[j]?=some b):a.1<b.1:=by
 have h1:=zab ha
 have h2:=zab hb
 rw [qc h1] at ha
 rw [qc h2] at hb
 cases ha;cases hb
 exact List.pairwise_iff_getElem.mp g.asc i j h1 h2 hij
theorem zqT {cs:List (Int×Int)}(g:Grd cs):∃ a,cs[0]?=some a/\zkH cs=a.1:=by
 have:=g.two
 obtain⟨a,h⟩:∃ a,cs[0]?=some a:=⟨cs[0],qc (by lia)⟩
 exact⟨a,h,by unfold zkH;rw [qC,h];rfl⟩
theorem zrY {cs:List (Int×Int)}(g:Grd cs):∃ a,cs[cs.length-1]?=some a/\zjy cs=a.1:=by
 have:=g.two
 obtain⟨a,h⟩:∃ a,cs[cs.length-1]?=some a:=⟨cs[cs.length-1],qc (by lia)⟩
 exact⟨a,h,by unfold zjy;rw [qC,h];rfl⟩
def GAt (S:Sto)(g:D)(cs:List (Int×Int)):Prop:=∃ n l,g=.ref n/\S[n]?=some (.ins "Ground" [("corners",.ref l)])/\S[l]?=some (.lst (cs.map p2))
theorem GAt.old {S T:Sto}{g:D}{cs:List (Int×Int)}(h:GAt S g cs):GAt (S++T) g cs:=let ⟨n,l,e,h1,h2⟩:=h;⟨n,l,e,zaK h1,zaK h2⟩
theorem zxQ {S:Sto}{P:D->Prop}{n l:Nat}(h:S[n]?=some (.ins "Ground" [("corners",.ref l)]))(q:P (.ref l)):∃ m c fs d,D.ref n=.ref m/\S[m]?=some (.ins c fs)/\fs.lookup ("corners":Str)=some d/\P d:=⟨n,_,_,_,rfl,h,by simp [qk],q⟩
def sdO (a b c:Int×Int):Int:=(c.2-a.2)*(b.1-a.1)-(c.1-a.1)*(b.2-a.2)
def sdI (a b c:Int×Int):Int:=if 0<(if b.1-a.1<0 then -sdO a b c else sdO a b c) then 1 else if (if b.1-a.1<0 then -sdO a b c else sdO a b c)<0 then -1 else 0
def Std (cs:List (Int×Int))(s:Int×Int):Prop:=Bd 180 s.1/\Bd 200 s.2/\OnG cs (s.1,1)/\∀ a b,zjm cs (s.1,1)=some (a,b)->hvT a b (s.1,1)<=s.2*hvB a b (s.1,1)
def zd1 (cs:List (Int×Int))(s:Int×Int):Prop:=OnG cs (s.1,1)/\∀ a b,zjm cs (s.1,1)=some (a,b)->hvT a b (s.1,1)<=s.2*hvB a b (s.1,1)
theorem Std.of {cs:List (Int×Int)}{s:Int×Int}(b1:Bd 180 s.1)(b2:Bd 200 s.2)(h:zd1 cs s):Std cs s:=⟨b1,b2,h.1,h.2⟩
def nbP (cs:List (Int×Int))(x y:Int)(k:Nat):Bool:=decide (min x y<(cs.getD k (0,0)).1)&&decide ((cs.getD k (0,0)).1<max x y)
def nbK (cs:List (Int×Int))(x y:Int)(n:Nat):List Int:=((List.range n).filter (nbP cs x y)).map fun k:Nat=>(k:Int)
theorem zxF {cs:List (Int×Int)}{x y:Int}{i:Nat}(h:nbP cs x y i=true):(nbK cs x y (i+1)).map D.int=(nbK cs x y i).map D.int++[.int (i:Int)]:=by
 unfold nbK
 rw [List.range_succ,List.filter_append,List.filter_cons_of_pos h]
 simp
theorem ztb {cs:List (Int×Int)}{x y:Int}{i:Nat}(h:nbP cs x y i=false):nbK cs x y (i+1)=nbK cs x y i:=by
 unfold nbK
 rw [List.range_succ,List.filter_append,List.filter_cons_of_neg (by rw [h];exact qq)]
 simp
def zpD (cs:List (Int×Int))(a b:Int×Int)(k:Int):Bool:=decide (0<sdI a b (cs.getD k.toNat (0,0)))
def zkM (cs:List (Int×Int))(a b:Int×Int):Option Int:=(nbK cs a.1 b.1 cs.length).find? (zpD cs a b)
theorem zol {p:Int->Bool}:∀ {ks:List Int} {i:Nat} {k:Int},ks[i]?=some k->(∀ x∈ks.take i,p x=false)->p k=true->ks.find? p=some k
 | [],i,k,h,_,_=>by simp at h
 | x::ks,0,k,h,_,hp=>by
  have e:x=k:=by simpa using h
  rw [List.find?_cons,e,hp]
 | x::ks,i+1,k,h,hn,hp=>by
  rw [List.find?_cons,hn x (by simp)]
  exact zol (by simpa using h) (fun y hy=>hn y (by rw [List.take_succ_cons];exact qB _ hy)) hp
theorem zuf {p:Int->Bool}{ks:List Int}(hn:∀ x∈ks,p x=false):ks.find? p=none:=List.find?_eq_none.mpr fun x hx=>by rw [hn x hx];exact qq
theorem zxh {cs:List (Int×Int)}{x y k:Int}{n:Nat}(h:k∈nbK cs x y n):0<=k/\k<n:=by
 unfold nbK at h
 obtain⟨j,hj,rfl⟩:=List.mem_map.mp h
 have:=List.mem_range.mp (List.mem_filter.mp hj).1
 lia
section
variable {g:Int}{p q r s d t u v:Int×Int}
end
section
variable {cs:List (Int×Int)}{a b:Int×Int}{rp:List (Int×Int)}
end
section
variable {w h t m:Int}{cs:List (Int×Int)}
end
abbrev bcD (b:Str×(Int×Int)):D:=.tup [.str b.1,.int b.2.1,.int b.2.2]
def abc:List Nat:=List.range' 97 26
theorem zxf:("abcdefghijklmnopqrstuvwxyz":Str).cps.toList=abc:=by decide +kernel
theorem zoi {c:Nat}:c∈abc↔97<=c/\c<=122:=by unfold abc;rw [List.mem_range'_1];lia
def nmB (z:Str):Bool:=decide (1<=z.length)&&(decide (z.length<=8)&&z.cps.toList.all fun c=>decide (c∈abc))
theorem zkq {z:Str}:nmB z=true↔1<=z.length/\z.length<=8/\∀ c∈z.cps.toList,c∈abc:=by
 unfold nmB
 rw [qH,qH,decide_eq_true_eq,decide_eq_true_eq,List.all_eq_true]
 simp only [decide_eq_true_eq]
theorem zjH {z:Str}(h:nmB z=true)(k:Nat):fl k (.str z)=true:=by
  have h3:=(zkq.mp h).2.2
  have:z.cps.all (· < 0x110000)=true:=by
    rw [Array.all_eq_true']
    intro x hx
    have:=zoi.mp (h3 x (Array.mem_toList_iff.mpr hx))
    simp;lia
  cases k<;>exact this
structure Vl where
 cs:List (Int×Int)
 bs:List (Str×(Int×Int))
 fs:List Fg
 hz:Option Int
 h0:Int
 h1:Int
 dl:Int
structure FgV (F:Fg):Prop where
 b:FgB F
 o:F.f<=F.l
 f:Bd 300 F.f
 l:Bd 300 F.l
structure zcN (V:Vl):Prop where
 gr:Grd V.cs
 b1:1<=V.bs.length
 b12:V.bs.length<=12
 nm:∀ b∈V.bs,nmB b.1=true
 nd:(V.bs.map (·.1)).Nodup
 st:∀ b∈V.bs,zd1 V.cs b.2
 bd:∀ b∈V.bs,Bd 180 b.2.1/\Bd 200 b.2.2
 f12:V.fs.length<=12
 fg:∀ F∈V.fs,FgV F
 hz:∀ z,V.hz=some z->0<=z
 hh:V.h0<=V.h1
 b0:Bd 250 V.h0
 bl:Bd 250 V.h1
 dl:0<=V.dl
abbrev vF (g b f h a l d:D):List (Str×D):=[("ground",g),("beacons",b),("fogs",f),("haze",h),("first",a),("last",l),("delay",d)]
def VAt (S:Sto)(v:D)(V:Vl):Prop:=∃ n g b f,v=.ref n/\S[n]?=some (.ins "Valley" (vF (.ref g) (.ref b) (.ref f) (zbL V.hz) (.int V.h0) (.int V.h1) (.int V.dl)))/\GAt S (.ref g) V.cs/\S[b]?=some (.lst (V.bs.map bcD))/\S[f]?=some (.lst (V.fs.map fgD))
theorem VAt.old {S T:Sto}{v:D}{V:Vl}(h:VAt S v V):VAt (S++T) v V:=let ⟨n,g,b,f,e,h1,h2,h3,h4⟩:=h;⟨n,g,b,f,e,zaK h1,h2.old,zaK h3,zaK h4⟩
section
variable {S:Sto}{P:D->Prop}{n:Nat}{g b f h a l d:D}
theorem zrJ (k:S[n]?=some (.ins "Valley" (vF g b f h a l d)))(q:P g):∃ m c fs x,D.ref n=.ref m/\S[m]?=some (.ins c fs)/\fs.lookup ("ground":Str)=some x/\P x:=⟨n,_,_,g,rfl,k,by simp [qk],q⟩
theorem zpF (k:S[n]?=some (.ins "Valley" (vF g b f h a l d)))(q:P b):∃ m c fs x,D.ref n=.ref m/\S[m]?=some (.ins c fs)/\fs.lookup ("beacons":Str)=some x/\P x:=⟨n,_,_,b,rfl,k,by rw [qk,show ((("beacons":Str)=="ground")=false) by decide +kernel];simp [qk],q⟩
theorem zvo (k:S[n]?=some (.ins "Valley" (vF g b f h a l d)))(q:P f):∃ m c fs x,D.ref n=.ref m/\S[m]?=some (.ins c fs)/\fs.lookup ("fogs":Str)=some x/\P x:=⟨n,_,_,f,rfl,k,by rw [qk,show ((("fogs":Str)=="ground")=false) by decide +kernel];dsimp only;rw [qk,show ((("fogs":Str)=="beacons")=false) by decide +kernel];simp [qk],q⟩
theorem zvC (k:S[n]?=some (.ins "Valley" (vF g b f h a l d)))(q:P h):∃ m c fs x,D.ref n=.ref m/\S[m]?=some (.ins c fs)/\fs.lookup ("haze":Str)=some x/\P x:=⟨n,_,_,h,rfl,k,by rw [qk,show ((("haze":Str)=="ground")=false) by decide +kernel];dsimp only;rw [qk,show ((("haze":Str)=="beacons")=false) by decide +kernel];dsimp only;rw [qk,show ((("haze":Str)=="fogs")=false) by decide +kernel];simp [qk],q⟩
theorem zuC (k:S[n]?=some (.ins "Valley" (vF g b f h a l d)))(q:P a):∃ m c fs x,D.ref n=.ref m/\S[m]?=some (.ins c fs)/\fs.lookup ("first":Str)=some x/\P x:=⟨n,_,_,a,rfl,k,by rw [qk,show ((("first":Str)=="ground")=false) by decide +kernel];dsimp only;rw [qk,show ((("first":Str)=="beacons")=false) by decide +kernel];dsimp only;rw [qk,show ((("first":Str)=="fogs")=false) by decide +kernel];dsimp only;rw [qk,show ((("first":Str)=="haze")=false) by decide +kernel];simp [qk],q⟩
theorem zvt (k:S[n]?=some (.ins "Valley" (vF g b f h a l d)))(q:P l):∃ m c fs x,D.ref n=.ref m/\S[m]?=some (.ins c fs)/\fs.lookup ("last":Str)=some x/\P x:=⟨n,_,_,l,rfl,k,by rw [qk,show ((("last":Str)=="ground")=false) by decide +kernel];dsimp only;rw [qk,show ((("last":Str)=="beacons")=false) by decide +kernel];dsimp only;rw [qk,show ((("last":Str)=="fogs")=false) by decide +kernel];dsimp only;rw [qk,show ((("last":Str)=="haze")=false) by decide +kernel];dsimp only;rw [qk,show ((("last":Str)=="first")=false) by decide +kernel];simp [qk],q⟩
theorem zu5 (k:S[n]?=some (.ins "Valley" (vF g b f h a l d)))(q:P d):∃ m c fs x,D.ref n=.ref m/\S[m]?=some (.ins c fs)/\fs.lookup ("delay":Str)=some x/\P x:=⟨n,_,_,d,rfl,k,by rw [qk,show ((("delay":Str)=="ground")=false) by decide +kernel];dsimp only;rw [qk,show ((("delay":Str)=="beacons")=false) by decide +kernel];dsimp only;rw [qk,show ((("delay":Str)=="fogs")=false) by decide +kernel];dsimp only;rw [qk,show ((("delay":Str)=="haze")=false) by decide +kernel];dsimp only;rw [qk,show ((("delay":Str)=="first")=false) by decide +kernel];dsimp only;rw [qk,show ((("delay":Str)=="last")=false) by decide +kernel];simp [qk],q⟩
end
theorem zgi {bs:List (Str×(Int×Int))}{i:Nat}{d:D}(h:(bs.map bcD)[i]?=some d):∃ b,bs[i]?=some b/\d=bcD b:=by
 rw [qo] at h
 cases e:bs[i]? with
 | none=>rw [e] at h;cases h
 | some p=>rw [e] at h;cases h;exact⟨p,rfl,rfl⟩
def zkm (f:Str×(Int×Int)->D):D->D
 | .tup [.str z,.int a,.int b]=>f (z,a,b)
 | d=>d
theorem zfs (f:Str×(Int×Int)->D)(bs:List (Str×(Int×Int))):(bs.map bcD).map (zkm f)=bs.map f:=by rw [List.map_map];rfl
def sqr (a b:Int×Int):Int:=(b.1-a.1)*(b.1-a.1)+(b.2-a.2)*(b.2-a.2)
def hzy (z:Option Int)(q:Int):Bool:=match z with
 | some z=>decide (z<q)
 | none=>false
def ziw (V:Vl)(a b:Int×Int):D:=match zkM V.cs a b with
 | some k=>.tup [.str "ground",.int k]
 | none=>if hzy V.hz (sqr a b)=true then .tup [.str "haze",.int (sqr a b)] else .non
def Alw (V:Vl)(a b:Int×Int):Prop:=zkM V.cs a b=none/\hzy V.hz (sqr a b)=false
theorem zlf {V:Vl}{a b:Int×Int}:ziw V a b=.non↔Alw V a b:=by
 unfold ziw Alw
 cases zkM V.cs a b with
 | some k=>simp
 | none =>
  cases h:hzy V.hz (sqr a b) with
  | true=>simp
  | false=>simp
def zsA (V:Vl)(a b:Int×Int)(h:Int):Prop:=Alw V a b/\¬ ∃ F∈V.fs,ze8 F a.1 a.2 b.1 b.2 h
structure zjC (V:Vl)(n m:Str)(s t:Int×Int)(ms:List (Int×Int)):Prop where
 ok:zao ms
 iff:∀ h,ms.any (inS h)=true↔V.h0<=h/\h<=V.h1/\(n=m\/zsA V s t h)
 len:ms.length<=14
theorem zgc {V:Vl}(ok:zcN V){b c:Str×(Int×Int)}(hb:b∈V.bs)(hc:c∈V.bs)(e:b.1=c.1):b=c:=by
 obtain⟨i,hi,rfl⟩:=qR.mp hb
 obtain⟨j,hj,rfl⟩:=qR.mp hc
 have nd:=List.pairwise_iff_getElem.mp ok.nd
 rcases Nat.lt_trichotomy i j with h | h | h
 ·exact absurd (by rw [List.getElem_map,List.getElem_map];exact e) (nd i j (by simpa using hi) (by simpa using hj) h)
 ·subst h;rfl
 ·exact absurd (by rw [List.getElem_map,List.getElem_map];exact e.symm) (nd j i (by simpa using hj) (by simpa using hi) h)
theorem zto {V:Vl}(ok:zcN V){i j:Nat}{b c:Str×(Int×Int)}(hb:V.bs[i]?=some b)(hc:V.bs[j]?=some c):b.1=c.1↔i=j:=by
 have li:=zab hb
 have lj:=zab hc
 rw [qc li] at hb
 rw [qc lj] at hc
 cases hb;cases hc
 have nd:=List.pairwise_iff_getElem.mp ok.nd
 constructor
 ·intro e
  rcases Nat.lt_trichotomy i j with h | h | h
  ·exact absurd (by rw [List.getElem_map,List.getElem_map];exact e) (nd i j (by simpa using li) (by simpa using lj) h)
  ·exact h
  ·exact absurd (by rw [List.getElem_map,List.getElem_map];exact e.symm) (nd j i (by simpa using lj) (by simpa using li) h)
 ·rintro rfl;rfl
theorem ztr {S A B X:Sto}(h:∃ T,A=S++T)(e:B=A++X):∃ T,B=S++T:=let ⟨T,h⟩:=h;⟨T++X,by rw [e,h,qG]⟩
theorem zrW {f:Str}{v:D}:putD f v []=[(f,v)]:=rfl
theorem zay {f g:Str}{v x:D}{r:List (Str×D)}(h:g≠f):putD f v ((g,x)::r)=(g,x)::putD f v r:=by
 show (if g=f then _ else _)=_
 rw [if_neg h]
section
variable {g b f h a l d:D}
theorem vp2:putD "beacons" b ([("ground",g)]:List (Str×D))=([("ground",g),("beacons",b)]:List (Str×D)):=by rw [zay (by decide +kernel)];rfl
theorem vp3:putD "fogs" f ([("ground",g),("beacons",b)]:List (Str×D))=([("ground",g),("beacons",b),("fogs",f)]:List (Str×D)):=by rw [zay (by decide +kernel),zay (by decide +kernel)];rfl
theorem vp4:putD "haze" h ([("ground",g),("beacons",b),("fogs",f)]:List (Str×D))=([("ground",g),("beacons",b),("fogs",f),("haze",h)]:List (Str×D)):=by rw [zay (by decide +kernel),zay (by decide +kernel),zay (by decide +kernel)];rfl
theorem vp5:putD "first" a ([("ground",g),("beacons",b),("fogs",f),("haze",h)]:List (Str×D))=([("ground",g),("beacons",b),("fogs",f),("haze",h),("first",a)]:List (Str×D)):=by rw [zay (by decide +kernel),zay (by decide +kernel),zay (by decide +kernel),zay (by decide +kernel)];rfl
theorem vp6:putD "last" l ([("ground",g),("beacons",b),("fogs",f),("haze",h),("first",a)]:List (Str×D))=([("ground",g),("beacons",b),("fogs",f),("haze",h),("first",a),("last",l)]:List (Str×D)):=by rw [zay (by decide +kernel),zay (by decide +kernel),zay (by decide +kernel),zay (by decide +kernel),zay (by decide +kernel)];rfl
theorem vp7:putD "delay" d ([("ground",g),("beacons",b),("fogs",f),("haze",h),("first",a),("last",l)]:List (Str×D))=vF g b f h a l d:=by rw [zay (by decide +kernel),zay (by decide +kernel),zay (by decide +kernel),zay (by decide +kernel),zay (by decide +kernel),zay (by decide +kernel)];rfl
end
theorem zr7 {α:Type}(xs:List α){k:Int}(h0:0<=k)(h1:k<=xs.length):cutD xs none (some k)=xs.take k.toNat:=by
 unfold cutD slD
 dsimp only
 rw [if_neg (by lia),List.drop_zero,Nat.sub_zero,Nat.min_eq_left (by lia)]
def onS (p:Str->D):D->D
 | .str z=>p z
 | d=>d
theorem zuJ {zs:List Str}{i:Nat}{d:D}(h:(zs.map D.str)[i]?=some d):∃ z,zs[i]?=some z/\d=.str z:=by
 rw [qo] at h
 cases e:zs[i]? with
 | none=>rw [e] at h;cases h
 | some p=>rw [e] at h;cases h;exact⟨p,rfl,rfl⟩
theorem ztt (f:Str->D)(zs:List Str):(zs.map D.str).map (onS f)=zs.map f:=by rw [List.map_map];rfl
theorem zpL {S:Sto}{Q:DK}{x y:Str}(fx:fl 20 (.str x)=true)(fy:fl 20 (.str y)=true)(q:Q (.bl (decide (x=y))) S):oEq (.str x) (.str y) S Q:=zuI fx fy (by
 by_cases h:x=y
 ·subst h;rw [decide_eq_true rfl];exact beq_self_eq_true x
 ·rw [decide_eq_false h];exact beq_eq_false_iff_ne.mpr h) q
open Classical in
abbrev vlD (x y z:D)(V:Vl):D:=.tup [x,y,z,zbL V.hz,.int V.h0,.int V.h1,.int V.dl]
def VlS (S:Sto)(x y z:D)(V:Vl):Prop:=Lst S x (V.cs.map p2)/\Lst S y (V.bs.map bcD)/\Lst S z (V.fs.map fgD)
theorem VlS.old {S T:Sto}{x y z:D}{V:Vl}(h:VlS S x y z V):VlS (S++T) x y z V:=⟨h.1.old,h.2.1.old,h.2.2.old⟩
def onC (p:Nat->Bool):D->D
 | .str z=>.bl (p (z.cps.toList.headD 0))
 | d=>d
theorem zqS {z:Str}{i:Nat}{d:D}(h:(signs z)[i]?=some d):∃ c,z.cps.toList[i]?=some c/\d=.str ⟨#[c]⟩:=by
 unfold signs at h
 rw [qo] at h
 cases e:z.cps.toList[i]? with
 | none=>rw [e] at h;cases h
 | some p=>rw [e] at h;cases h;exact⟨p,rfl,rfl⟩
theorem zqg (p:Nat->Bool)(z:Str):(signs z).map (onC p)=(z.cps.toList.map p).map D.bl:=by
 unfold signs
 rw [List.map_map,List.map_map];rfl
theorem zrh (z:Str):(signs z).length=z.length:=by
 unfold signs
 rw [qb];exact qQ
section
variable {see:Nat->Nat->Int->Prop}{dl:Int}{s:Nat}{h0:Int}
inductive Lt (see:Nat->Nat->Int->Prop)(dl:Int)(s:Nat)(h0:Int):Nat->Int->Prop
 | base:Lt see dl s h0 s h0
 | step {k j:Nat} {h u:Int}:Lt see dl s h0 k h->h<=u->see k j u->Lt see dl s h0 j (u+dl)
theorem Lt.ge (hd:0<=dl){j:Nat}{h:Int}(w:Lt see dl s h0 j h):h0<=h:=by
 induction w with
 | base=>exact qw _
 | step _ hu _ ih=>lia
theorem zsJ:∀ {n:Nat} {vs:List Nat},vs.Nodup->(∀ x∈vs,x<n)->vs.length<=n:=by
 intro n vs nd h
 have:∀ {F N:List Nat},F.Nodup->(∀ x∈F,x∈N)->F.length<=N.length:=fun {F N}=>by
  induction F generalizing N with
  | nil=>intro _ _;exact qN _
  | cons x F ih =>
   intro nd h
   obtain⟨n1,n2⟩:=List.nodup_cons.mp nd
   have hx:=h x (by simp)
   have:=ih (N:=N.erase x) n2 fun y hy=>(List.mem_erase_of_ne (fun e:y=x=>n1 (e▸hy))).mpr (h y (qB _ hy))
   rw [List.length_erase_of_mem hx] at this
   have:=List.length_pos_of_mem hx
   rw [qP];lia
 have:=this (N:=List.range n) nd fun x hx=>List.mem_range.mpr (h x hx)
 rwa [List.length_range] at this
structure Ear (see:Nat->Nat->Int->Prop)(dl:Int)(s:Nat)(h0:Int)(f:Nat->Option Int):Prop where
 snd:∀ j h,f j=some h->Lt see dl s h0 j h
 lst:∀ j h,Lt see dl s h0 j h->∃ h',f j=some h'/\h'<=h
theorem Ear.uniq {f g:Nat->Option Int}(a:Ear see dl s h0 f)(b:Ear see dl s h0 g)(j:Nat):f j=g j:=by
 cases hf:f j with
 | none =>
  cases hg:g j with
  | none=>rfl
  | some h =>
   obtain⟨h',e,_⟩:=a.lst j h (b.snd j h hg)
   rw [hf] at e;cases e
 | some h =>
  obtain⟨h',e,le⟩:=b.lst j h (a.snd j h hf)
  obtain⟨h2,e2,le2⟩:=a.lst j h' (b.snd j h' e)
  rw [hf] at e2;cases e2
  rw [e];exact congrArg some (by lia)
end
def zcw (xs:List Int)(h:Int):Option Int:=(xs.filter fun u=>decide (h<=u)).head?
theorem zcr {xs:List Int}(asc:xs.Pairwise (· < ·)){h u:Int}(e:zcw xs h=some u):u∈xs/\h<=u/\∀ v∈xs,h<=v->u<=v:=by
  unfold zcw at e
  have asc':=asc.sublist (List.filter_sublist (p:=fun u=>decide (h<=u)) (l:=xs))
  cases hf:xs.filter fun u=>decide (h<=u) with
  | nil=>rw [hf] at e;cases e
  | cons a r =>
    rw [hf] at e asc'
    have ea:a=u:=by simpa using e
    subst ea
    have ma:a∈xs.filter fun u=>decide (h<=u):=by rw [hf];simp
    obtain⟨m1,m2⟩:=List.mem_filter.mp ma
    refine⟨m1,of_decide_eq_true m2,fun v hv hle=>?_⟩
    have mv:v∈xs.filter fun u=>decide (h<=u):=List.mem_filter.mpr ⟨hv,decide_eq_true hle⟩
    rw [hf] at mv
    rcases qh.mp mv with rfl | mv
    . exact qw _
    . have:=(List.pairwise_cons.mp asc').1 v mv
      lia
theorem zeM {xs:List Int}{h:Int}(e:zcw xs h=none):∀ v∈xs,¬ h<=v:=fun v hv hle=>by
 unfold zcw at e
 rw [List.head?_eq_none_iff,List.filter_eq_nil_iff] at e
 exact e v hv (decide_eq_true hle)
theorem zuj {xs:List Int}(asc:xs.Pairwise (· < ·)){h:Int}{o:Option Int}(h1:∀ u,o=some u->u∈xs/\h<=u/\∀ v∈xs,h<=v->u<=v)(h2:o=none->∀ v∈xs,¬ h<=v):zcw xs h=o:=by
  cases e:zcw xs h with
  | none =>
    cases o with
    | none=>rfl
    | some u=>exact absurd (h1 u rfl).2.1 (zeM e u (h1 u rfl).1)
  | some a =>
    obtain⟨a1,a2,a3⟩:=zcr asc e
    cases o with
    | none=>exact absurd a2 (h2 rfl a a1)
    | some u =>
      obtain⟨b1,b2,b3⟩:=h1 u rfl
      exact congrArg some (by have:=a3 u b1 b2;have:=b3 a a1 a2;lia)
theorem ziU {ms:List (Int×Int)}(ok:zao ms){h u:Int}(e:zd8 ms h=some u):ms.any (inS u)=true/\h<=u/\∀ v,ms.any (inS v)=true->h<=v->u<=v:=by
 induction ms with
 | nil=>cases e
 | cons c r ih =>
  have e':(if h<=c.2 then some (max c.1 h) else zd8 r h)=some u:=e
  have lc:=ok.le c (by simp)
  have okr:zao r:=⟨fun d hd=>ok.le d (qB _ hd),(List.pairwise_cons.mp ok.ap).2⟩
  by_cases g:h<=c.2
  ·rw [if_pos g] at e'
   have eu:max c.1 h=u:=qA e'
   refine⟨zaH.mpr ⟨c,by simp,by lia,by lia⟩,by lia,fun v hv hle=>?_⟩
   obtain⟨d,hd,d1,d2⟩:=zaH.mp hv
   rcases qh.mp hd with rfl | hd
   ·lia
   ·have:=(List.pairwise_cons.mp ok.ap).1 d hd
    lia
  ·rw [if_neg g] at e'
   obtain⟨a1,a2,a3⟩:=ih okr e'
   obtain⟨d,hd,d1,d2⟩:=zaH.mp a1
   refine⟨zaH.mpr ⟨d,qB _ hd,d1,d2⟩,a2,fun v hv hle=>?_⟩
   obtain⟨d',hd',d1',d2'⟩:=zaH.mp hv
   rcases qh.mp hd' with rfl | hd'
   ·lia
   ·exact a3 v (zaH.mpr ⟨d',hd',d1',d2'⟩) hle
theorem ziR {ms:List (Int×Int)}{h:Int}(e:zd8 ms h=none):∀ v,h<=v->¬ ms.any (inS v)=true:=by
 induction ms with
 | nil=>intro v _ z;simp at z
 | cons c r ih =>
  have e':(if h<=c.2 then some (max c.1 h) else zd8 r h)=none:=e
  by_cases g:h<=c.2
  ·rw [if_pos g] at e';cases e'
  ·rw [if_neg g] at e'
   intro v hle hv
   obtain⟨d,hd,d1,d2⟩:=zaH.mp hv
   rcases qh.mp hd with rfl | hd
   ·lia
   ·exact ih e' v hle (zaH.mpr ⟨d,hd,d1,d2⟩)
abbrev zgB (os:List (Option Int)):List D:=os.map zbL
theorem zwC (os:List (Option Int)):(zgB os).all (fl 20)=true:=by
  rw [List.all_map,List.all_eq_true]
  intro o _
  cases o<;>rfl
theorem zue:∀ a b:Option Int,eqv (zbL a) (zbL b)=decide (a=b)
 | none,none=>rfl
 | none,some _=>rfl
 | some _,none=>rfl
 | some a,some b=>by show decide (a=b)=_;simp
noncomputable def zpe (V:Vl) (k j:Nat) (h:Int):Bool:=@decide (k≠j/\∃ b c,V.bs[k]?=some b/\V.bs[j]?=some c/\zsA V b.2 c.2 h) (Classical.propDecidable _)
theorem zgV {V:Vl}{k j:Nat}{h:Int}:zpe V k j h=true↔k≠j/\∃ b c,V.bs[k]?=some b/\V.bs[j]?=some c/\zsA V b.2 c.2 h:=by unfold zpe;exact @decide_eq_true_iff _ (Classical.propDecidable _)
def hrs (V:Vl):List Int:=(List.range (V.h1-V.h0+1).toNat).map fun i:Nat=>V.h0+(i:Int)
theorem zuP {V:Vl}{h:Int}:h∈hrs V↔V.h0<=h/\h<=V.h1:=by
 unfold hrs
 rw [List.mem_map]
 constructor
 ·rintro⟨i,hi,rfl⟩
  have:=List.mem_range.mp hi
  lia
 ·rintro⟨h0,h1⟩
  exact⟨(h-V.h0).toNat,List.mem_range.mpr (by lia),by lia⟩
theorem zuR (V:Vl):(hrs V).Pairwise (· < ·):=by
  unfold hrs
  rw [List.pairwise_map]
  exact List.pairwise_lt_range.imp fun h=>by lia
noncomputable def zbk (V:Vl) (k j:Nat):List Int:=(hrs V).filter (zpe V k j)
theorem zpz {V:Vl}{k:Nat}:zbk V k k=[]:=by
 unfold zbk
 rw [List.filter_eq_nil_iff]
 intro h _ z
 exact (zgV.mp z).1 rfl
theorem zdI {V:Vl}{k j:Nat}{h:Int}:h∈zbk V k j↔V.h0<=h/\h<=V.h1/\zpe V k j h=true:=by
 unfold zbk
 rw [List.mem_filter,zuP,and_assoc]
theorem zco (V:Vl)(k j:Nat):(zbk V k j).Pairwise (· < ·):=(zuR V).sublist List.filter_sublist
def zjl (V:Vl)(k j:Nat)(u:Int):Prop:=u∈zbk V k j
theorem zn5 {V:Vl}{k j:Nat}{u:Int}(h:zjl V k j u):k<V.bs.length/\j<V.bs.length:=by
 obtain⟨_,b,c,hb,hc,_⟩:=zgV.mp (zdI.mp h).2.2
 exact⟨zab hb,zab hc⟩
theorem zly {V:Vl}(ok:zcN V){k j:Nat}{b c:Str×(Int×Int)}(hb:V.bs[k]?=some b)(hc:V.bs[j]?=some c)(hkj:k≠j){ms:List (Int×Int)}(hm:zjC V b.1 c.1 b.2 c.2 ms)(h:Int):zcw (zbk V k j) h=zd8 ms h:=by
 have ne:b.1≠c.1:=fun e=>hkj ((zto ok hb hc).mp e)
 have iff:∀ u,u∈zbk V k j↔ms.any (inS u)=true:=fun u=>by
  rw [zdI,hm.iff,zgV]
  constructor
  ·rintro⟨h1,h2,_,b',c',hb',hc',z⟩
   rw [hb] at hb';rw [hc] at hc';cases hb';cases hc'
   exact⟨h1,h2,.inr z⟩
  ·rintro⟨h1,h2,z | z⟩
   ·exact absurd z ne
   ·exact⟨h1,h2,hkj,b,c,hb,hc,z⟩
 refine zuj (zco V k j) (fun u e=>?_) (fun e v hv hle=>ziR e v hle ((iff v).mp hv))
 obtain⟨a1,a2,a3⟩:=ziU hm.ok e
 exact⟨(iff u).mpr a1,a2,fun v hv=>a3 v ((iff v).mp hv)⟩
theorem zuE (z n:Str):eqv (.str z) (.str n)=decide (z=n):=by
 show (z==n)=_
 rw [Bool.eq_iff_iff,beq_iff_eq,decide_eq_true_eq]
def zy0 (V:Vl)(i:Nat)(z:Str):Prop:=∃ b,V.bs[i]?=some b/\b.1=z
theorem zoj:∀ {r:List Pc} {p:Pc},IsR (p::r)->∃ q∈p::r,p.lo+(r.length:Int)<=q.hi
 | [],p,h=>⟨p,by simp,by have:=(h.good p (by simp)).le;simpa using this⟩
 | q::s,p,h=>by
  obtain⟨t,ht,e⟩:=zoj h.tail
  have h1:=IsR.above h q (by simp)
  have h2:=(h.good p (by simp)).le
  exact⟨t,qh.mpr (.inr ht),by rw [qP];push_cast;lia⟩
theorem zpi {ps:List Pc}{a b:Int}(hr:IsR ps)(h:∀ x v,at' ps x=some v->a<=x/\x<=b):(ps.length:Int)<=max 0 (b-a+1):=by
 cases ps with
 | nil=>simp;lia
 | cons p r =>
  obtain⟨q,hq,e⟩:=zoj hr
  obtain⟨i,hi,ei⟩:=qR.mp hq
  have g:=hr.good q hq
  have h1:=h q.hi _ (zbS hr (by rw [qc hi,ei]) ⟨g.le,qw _⟩)
  have h2:=h p.lo _ (zcD (hr.good p (by simp)))
  rw [qP]
  push_cast
  lia
def zbt (a:Int)(ps:List Pc):Prop:=∀ p∈ps.head?,p.lo=a
theorem zbt.at {a:Int}{ps:List Pc}(hr:IsR ps)(d:zbt a ps){x y v:Int}(e:at' ps y=some v)(h1:a<=x)(h2:x<=y):∃ u,at' ps x=some u/\u<=v:=by
 cases ps with
 | nil=>cases e
 | cons p r =>
  have hp:p.lo=a:=d p rfl
  obtain⟨u,hu⟩:=zfg hr e (by lia) h2
  exact⟨u,hu,zcK hr hu e h2⟩
theorem zbt.of {a:Int}{ps:List Pc}(hr:IsR ps)(h0:∀ x v,at' ps x=some v->a<=x)(h1:∀ x v,at' ps x=some v->∃ u,at' ps a=some u):zbt a ps:=fun p hp=>by
 cases ps with
 | nil=>cases hp
 | cons q r =>
  cases hp
  have e:=zcD (r:=r) (hr.good p (by simp))
  have g:=h0 _ _ e
  obtain⟨u,hu⟩:=h1 _ _ e
  have:=(ze2 hr hu).2
  lia
theorem zj1:∀ (ms:List (Int×Int)) (h:Int),zaZ ms h=zd8 ms h
 | [],_=>rfl
 | c::r,h=>by
  show (if h<=c.2 then some (max h c.1) else zaZ r h)=if h<=c.2 then some (max c.1 h) else zd8 r h
  rw [zj1 r h,show max h c.1=max c.1 h by lia]
structure Hrg (V:Vl)(s:Nat)(f:Nat->List Pc):Prop where
 isR:∀ j,IsR (f j)
 dom:∀ j x v,at' (f j) x=some v->V.h0<=x/\x<=V.h1
 dwn:∀ j,zbt V.h0 (f j)
 snd:∀ j x v,at' (f j) x=some v->Lt (zjl V) V.dl s x j v
 st:∀ x,V.h0<=x->x<=V.h1->at' (f s) x=some x
structure zdi (V:Vl)(k j:Nat)(ps:List Pc):Prop where
  isR:IsR ps
  led:∀ x,at' ps x=if V.h0<=x then (if k=j then (if x<=V.h1 then some (x+V.dl) else none) else (zcw (zbk V k j) x).map (· + V.dl)) else none
  len:ps.length<=28
theorem zfZ.stp {V:Vl}(ok:zcN V){b c:Str×(Int×Int)}{k j:Nat}(hb:V.bs[k]?=some b)(hc:V.bs[j]?=some c){ms:List (Int×Int)}{ps:List Pc}(hm:zjC V b.1 c.1 b.2 c.2 ms)(i:IsR ps)(l:ps.length<=2*ms.length)(led:∀ h,at' ps h=if V.h0<=h then (zaZ ms h).map (· + V.dl) else none):zdi V k j ps:=by
  refine⟨i,fun x=>?_,by have:=hm.len;lia⟩
  rw [led,zj1]
  by_cases h0:V.h0<=x
  . rw [if_pos h0,if_pos h0]
    by_cases e:k=j
    . subst e
      rw [hb] at hc;cases hc
      rw [if_pos rfl]
      cases hf:zd8 ms x with
      | none =>
        have:=ziR hf x (qw _)
        rw [hm.iff] at this
        rw [if_neg (fun g=>this ⟨h0,g,.inl rfl⟩)];rfl
      | some u =>
        obtain⟨h1,h2,h3⟩:=ziU hm.ok hf
        have h4:=(hm.iff u).mp h1
        have h5:=h3 x ((hm.iff x).mpr ⟨h0,by lia,.inl rfl⟩) (qw _)
        rw [if_pos (by lia),show u=x by lia];rfl
    . rw [if_neg e,zly ok hb hc e hm x]
  . rw [if_neg h0,if_neg h0]
structure Rlx (f:Nat->List Pc)(k j:Nat)(ps r:List Pc):Prop where
 isR:IsR r
 is:∀ x v,at' r x=some v->at' (f j) x=some v\/∃ w,at' (f k) x=some w/\at' ps w=some v/\∀ v',at' (f j) x=some v'->v<=v'
 old:∀ x v,at' (f j) x=some v->∃ v',at' r x=some v'/\v'<=v
 new:∀ x w v,at' (f k) x=some w->at' ps w=some v->∃ v',at' r x=some v'/\v'<=v
theorem Hrg.ge {V:Vl}{s:Nat}{f:Nat->List Pc}(hd:0<=V.dl)(H:Hrg V s f){j:Nat}{x v:Int}(e:at' (f j) x=some v):x<=v:=(H.snd j x v e).ge hd
theorem Hrg.relax {V:Vl}{s:Nat}{f:Nat->List Pc}{k j:Nat}{ps r:List Pc}(hd:0<=V.dl)(H:Hrg V s f)(sp:zdi V k j ps)(R:Rlx f k j ps r):Hrg V s (fun a=>if a=j then r else f a):=by
 have dom:∀ x v,at' r x=some v->V.h0<=x/\x<=V.h1:=fun x v e=>by
  rcases R.is x v e with h | ⟨w,h,_⟩
  ·exact H.dom j x v h
  ·exact H.dom k x w h
 have stp:∀ w v,at' ps w=some v->∀ w',V.h0<=w'->w'<=w->∃ v',at' ps w'=some v':=fun w v e w' h1 h2=>by
  rw [sp.led] at e
  rw [sp.led,if_pos h1]
  rw [if_pos (show V.h0<=w by lia)] at e
  by_cases ek:k=j
  ·rw [if_pos ek] at e ⊢
   by_cases g:w<=V.h1
   ·exact⟨_,by rw [if_pos (by lia)]⟩
   ·rw [if_neg g] at e;cases e
  ·rw [if_neg ek] at e ⊢
   cases hf:zcw (zbk V k j) w with
   | none=>rw [hf] at e;cases e
   | some u =>
    obtain⟨m0,g0,_⟩:=zcr (zco V k j) hf
    cases hf':zcw (zbk V k j) w' with
    | none=>exact absurd (show w'<=u by lia) (zeM hf' u m0)
    | some u'=>exact⟨_,rfl⟩
 refine⟨fun a=>?_,fun a x v e=>?_,fun a=>?_,fun a x v e=>?_,fun x h0 h1=>?_⟩
 ·split
  ·exact R.isR
  ·exact H.isR a
 ·split at e
  ·exact dom x v e
  ·exact H.dom a x v e
 ·split
  ·refine zbt.of R.isR (fun x v e=>(dom x v e).1) fun x v e=>?_
   have h0:=dom x v e
   rcases R.is x v e with h | ⟨w,h,h',_⟩
   ·obtain⟨u,hu,_⟩:=(H.dwn j).at (H.isR j) h (qw _) h0.1
    obtain⟨v',hv',_⟩:=R.old _ u hu
    exact⟨v',hv'⟩
   ·obtain⟨u,hu,le⟩:=(H.dwn k).at (H.isR k) h (qw _) h0.1
    obtain⟨v1,hv1⟩:=stp w v h' u (by have:=H.ge hd hu;lia) le
    obtain⟨v',hv',_⟩:=R.new _ u v1 hu hv1
    exact⟨v',hv'⟩
  ·exact H.dwn a
 ·split at e
  ·rename_i ea
   subst ea
   rcases R.is x v e with h | ⟨w,h,h',low⟩
   ·exact H.snd a x v h
   ·have lw:=H.snd k x w h
    have hw:V.h0<=w:=by have:=(H.dom k x w h).1;have:=H.ge hd h;lia
    rw [sp.led,if_pos hw] at h'
    by_cases ek:k=a
    ·subst ek
     rw [if_pos rfl] at h'
     by_cases g:w<=V.h1
     ·rw [if_pos g] at h'
      have ev:w+V.dl=v:=qA h'
      have:=low w h
      have e2:v=w:=by lia
      rw [e2];exact lw
     ·rw [if_neg g] at h';cases h'
    ·rw [if_neg ek] at h'
     cases hf:zcw (zbk V k a) w with
     | none=>rw [hf] at h';cases h'
     | some u =>
      rw [hf] at h'
      have ev:u+V.dl=v:=qA h'
      obtain⟨m0,g0,_⟩:=zcr (zco V k a) hf
      rw [<- ev];exact .step lw g0 m0
  ·exact H.snd a x v e
 ·split
  ·rename_i es
   subst es
   obtain⟨v',hv',le⟩:=R.old x x (H.st x h0 h1)
   have:x<=v':=by
    rcases R.is x v' hv' with h | ⟨w,h,h',_⟩
    ·exact H.ge hd h
    ·have g1:=H.ge hd h
     rw [sp.led,if_pos (by lia)] at h'
     by_cases ek:k=s
     ·rw [if_pos ek] at h'
      by_cases g:w<=V.h1
      ·rw [if_pos g] at h';have:=qA h';lia
      ·rw [if_neg g] at h';cases h'
     ·rw [if_neg ek] at h'
      cases hf:zcw (zbk V k s) w with
      | none=>rw [hf] at h';cases h'
      | some u =>
       rw [hf] at h'
       have ev:u+V.dl=v':=qA h'
       have:=(zcr (zco V k s) hf).2.1
       lia
   rw [hv',show v'=x by lia]
  ·exact H.st x h0 h1
def zrK (V:Vl)(f:Nat->List Pc)(k:Nat):Prop:=∀ j x w u,j<V.bs.length->k≠j->at' (f k) x=some w->zcw (zbk V k j) w=some u->∃ v',at' (f j) x=some v'/\v'<=u+V.dl
theorem Hrg.low {V:Vl}{s:Nat}{f:Nat->List Pc}(H:Hrg V s f)(cl:∀ k,k<V.bs.length->zrK V f k){x:Int}(h0:V.h0<=x)(h1:x<=V.h1){j:Nat}{v:Int}(l:Lt (zjl V) V.dl s x j v):∃ v',at' (f j) x=some v'/\v'<=v:=by
 induction l with
 | base=>exact⟨x,H.st x h0 h1,qw _⟩
 | step l hle hs ih =>
  rename_i k j h u
  obtain⟨w,hw,le⟩:=ih
  have hlt:=zn5 hs
  have hkj:k≠j:=fun e=>by
   subst e
   unfold zjl at hs
   rw [zpz] at hs;cases hs
  cases hf:zcw (zbk V k j) w with
  | none=>exact absurd (show w<=u by lia) (zeM hf u hs)
  | some u' =>
   obtain⟨_,_,least⟩:=zcr (zco V k j) hf
   obtain⟨v',hv',le'⟩:=cl k hlt.1 j x w u' hlt.2 hkj hw hf
   exact⟨v',hv',by have:=least u hs (by lia);lia⟩
theorem Hrg.ear {V:Vl}{s:Nat}{f:Nat->List Pc}(H:Hrg V s f)(cl:∀ k,k<V.bs.length->zrK V f k){x:Int}(h0:V.h0<=x)(h1:x<=V.h1):Ear (zjl V) V.dl s x (fun j=>at' (f j) x):=⟨fun j h e=>H.snd j x h e,fun j h l=>H.low cl h0 h1 l⟩
theorem zus {V:Vl}{s:Nat}{x:Int}(hd:0<=V.dl)(h1:x<=V.h1){j:Nat}{v:Int}(l:Lt (zjl V) V.dl s x j v):v<=V.h1+V.dl:=by
 cases l with
 | base=>lia
 | step l hle hs =>
  have:=(zdI.mp hs).2.1
  lia
theorem znQ {l:List Nat}{a b:Nat->Nat}(h:∀ i∈l,a i<=b i):(l.map a).sum<=(l.map b).sum:=by
 induction l with
 | nil=>simp
 | cons k r ih =>
  have h1:=h k (qh.mpr (.inl rfl))
  have h2:=ih fun i hi=>h i (qh.mpr (.inr hi))
  rw [qJ,qJ,List.sum_cons,List.sum_cons];lia
theorem zn8 {l:List Nat}{a b:Nat->Nat}(h:∀ i∈l,a i<=b i){k:Nat}(hk:k∈l)(hlt:a k<b k):(l.map a).sum<(l.map b).sum:=by
 induction l with
 | nil=>cases hk
 | cons q r ih =>
  have h1:=h q (qh.mpr (.inl rfl))
  have h2:=znQ fun i hi=>h i (qh.mpr (.inr hi))
  rw [qJ,qJ,List.sum_cons,List.sum_cons]
  rcases qh.mp hk with rfl | hk
  ·lia
  ·have:=ih (fun i hi=>h i (qh.mpr (.inr hi))) hk;lia
def wtH (V:Vl)(ps:List Pc)(i:Nat):Nat:=match at' ps (V.h0+(i:Int)) with
 | some v=>(v-V.h0).toNat
 | none=>(V.h1-V.h0+V.dl).toNat+1
def zhM (V:Vl)(f:Nat->List Pc):Nat:=((List.range V.bs.length).map fun j=>((List.range (V.h1-V.h0+1).toNat).map (wtH V (f j))).sum).sum
theorem zs7 {V:Vl}{ps qs:List Pc}{i:Nat}(bd:∀ x v,at' qs x=some v->v<=V.h1+V.dl)(h:∀ x v,at' ps x=some v->∃ v',at' qs x=some v'/\v'<=v):wtH V qs i<=wtH V ps i:=by
 unfold wtH
 cases e:at' ps (V.h0+(i:Int)) with
 | some v =>
  obtain⟨v',e',le⟩:=h _ v e
  rw [e'];dsimp only;lia
 | none =>
  cases e':at' qs (V.h0+(i:Int)) with
  | none=>exact qf _
  | some v'=>have:=bd _ v' e';dsimp only;lia
theorem Rlx.less {V:Vl}{s:Nat}{f:Nat->List Pc}{k j:Nat}{ps r:List Pc}(hd:0<=V.dl)(H:Hrg V s f)(H':Hrg V s (fun a=>if a=j then r else f a))(hj:j<V.bs.length)(R:Rlx f k j ps r)(ne:r≠f j):zhM V (fun a=>if a=j then r else f a)<zhM V f:=by
 have at_r:∀ x v,at' r x=some v->V.h0<=x/\x<=V.h1/\x<=v/\v<=V.h1+V.dl:=fun x v e=>by
  have e1:at' ((fun a=>if a=j then r else f a) j) x=some v:=by dsimp only;rw [if_pos rfl];exact e
  have d:=H'.dom j x v e1
  exact⟨d.1,d.2,H'.ge hd e1,zus hd d.2 (H'.snd j x v e1)⟩
 have bd:∀ x v,at' r x=some v->v<=V.h1+V.dl:=fun x v e=>(at_r x v e).2.2.2
 obtain⟨x,hx⟩:∃ x,at' r x≠at' (f j) x:=Classical.byContradiction fun no=>ne (zeb R.isR (H.isR j) fun h=>Classical.byContradiction fun c=>no ⟨h,c⟩)
 obtain⟨v,hv,hlt⟩:∃ v,at' r x=some v/\∀ v',at' (f j) x=some v'->v<v':=by
  cases e:at' (f j) x with
  | some v' =>
   obtain⟨v,hv,le⟩:=R.old x v' e
   refine⟨v,hv,fun v2 e2=>?_⟩
   cases e2
   rcases Int.lt_or_eq_of_le le with g | g
   ·exact g
   ·rw [hv,e,g] at hx;exact absurd rfl hx
  | none =>
   cases e2:at' r x with
   | none=>rw [e,e2] at hx;exact absurd rfl hx
   | some v=>exact⟨v,rfl,fun v' z=>by cases z⟩
 obtain⟨g0,g1,g2,g3⟩:=at_r x v hv
 unfold zhM
 refine zn8 (fun a _=>znQ fun i _=>?_) (List.mem_range.mpr hj) (zn8 (fun i _=>?_) (k:=(x-V.h0).toNat) (List.mem_range.mpr (by lia)) ?_)
 ·dsimp only
  split
  ·rename_i ea
   subst ea
   exact zs7 bd R.old
  ·exact qf _
 ·dsimp only;rw [if_pos rfl];exact zs7 bd R.old
 ·dsimp only;rw [if_pos rfl]
  unfold wtH
  rw [show V.h0+((x-V.h0).toNat:Int)=x by lia,hv]
  cases e:at' (f j) x with
  | some v'=>have:=hlt v' e;dsimp only;lia
  | none=>dsimp only;lia
end Dp
namespace My
open PySem PySem.Spec PyProof.Rows L2
section
variable {prog:Program}{w:World}{A:Around}{E:Value->Shared->Prop}{s:Shared}
end
theorem zmi {α:Type}(xs:List α)(a:Nat):∀ m,a+m<=xs.length->((List.range m).map (a+·)).filterMap (xs[·]?)=(xs.drop a).take m
 | 0,_=>by simp
 | m+1,h=>by
  rw [List.range_succ,qv,List.filterMap_append,zmi xs a m (by lia),List.take_succ,List.getElem?_drop]
  simp only [qJ,List.map_nil,List.filterMap_cons,List.filterMap_nil]
  rw [qc (by lia)];rfl
theorem zzb (n:Nat)(lo hi:Option Int):Builtin.Str.strSliceIndices lo hi 1 n=(List.range (HT.sIx n n hi-HT.sIx n 0 lo)).map (HT.sIx n 0 lo+·):=by
 rw [<- sliceRange_one]
 unfold Builtin.Str.strSliceIndices
 have cl:∀ (o:Option Int) (d:Nat),(match o with | none=>(d:Int) | some i=>if (1:Int) > 0 then max 0 (min (if i<0 then i+(n:Int) else i) n) else max (-1) (min (if i<0 then i+(n:Int) else i) ((n:Int)-1)))=((HT.sIx n d o:Nat):Int):=fun o d=>by
  cases o with
  | none=>rfl
  | some i =>
   show (if (1:Int) > 0 then _ else _)=(((if i<0 then (i+n).toNat else min i.toNat n):Nat):Int)
   rw [if_pos (by decide)]
   by_cases h:i<0
   ·rw [if_pos h,if_pos h];lia
   ·rw [if_neg h,if_neg h];lia
 have h1:=cl lo 0
 have h2:=cl hi n
 simp only [show ((1:Int) > 0)=True by simp,if_true] at h1 h2 ⊢
 rw [<- h1,<- h2]
 rfl
theorem zjZ (n:Nat)(o:Option Int)(d:Nat)(hd:d<=n):HT.sIx n d o<=n:=by
  cases o with
  | none=>exact hd
  | some i =>
    show (if i<0 then (i+n).toNat else min i.toNat n)<=n
    split<;>lia
theorem zqM (x:Str)(lo hi:Option Int):Txt.slice x lo hi=⟨((x.cps.toList.drop (HT.sIx x.length 0 lo)).take (HT.sIx x.length x.length hi-HT.sIx x.length 0 lo)).toArray⟩:=by
 have hl:x.cps.toList.length=x.length:=qQ
 have b1:=zjZ x.length lo 0 (qN _)
 have b2:=zjZ x.length hi x.length (qf _)
 unfold Txt.slice
 rw [zzb]
 have fm:((List.range (HT.sIx x.length x.length hi-HT.sIx x.length 0 lo)).map (HT.sIx x.length 0 lo+·)).filterMap (x.cps[·]?)=(x.cps.toList.drop (HT.sIx x.length 0 lo)).take (HT.sIx x.length x.length hi-HT.sIx x.length 0 lo):=by
  rcases qM (HT.sIx x.length x.length hi) (HT.sIx x.length 0 lo) with g | g
  ·rw [show HT.sIx x.length x.length hi-HT.sIx x.length 0 lo=0 by lia];simp
  ·rw [<- zmi x.cps.toList _ _ (by rw [hl];lia)]
   congr 1
   funext i
   rw [Array.getElem?_toList]
 split
 ·rename_i h
  rw [qH] at h
  have h2:=eq_of_beq h.2
  rw [qb,List.length_range] at h2
  have z1:HT.sIx x.length 0 lo=0:=by lia
  rw [h2,z1,List.drop_zero,List.take_of_length_le (by lia)]
 ·rw [fm]
def zy8:V->Option Int->Option Int->Hp->VK->Prop:=fun x lo hi H Q=>∃ z:Str,x=.str z/\z.length<=sizeLine/\Q (.str ⟨((z.cps.toList.drop (HT.sIx z.length 0 lo)).take (HT.sIx z.length z.length hi-HT.sIx z.length 0 lo)).toArray⟩) H
theorem zwi {X:Cx}:SlR X zy8:=by
 intro pins s U H x v vl vu lo hi sl Q I rx hs pl pu h
 obtain⟨z,rfl,hz,q⟩:=h
 obtain⟨t,rfl⟩:=rx
 refine⟨"str",_,F.slot_str_getitem.lookup,typeIs_str _ _ _,?_⟩
 have go:∀ (l u:Option (Int×Tok)),l.map (·.1)=lo->u.map (·.1)=hi->s.heap.IsSlice sl l u none->wpAny (model X.prog X.w) X.A (getItem (.str z t) (.ref sl)) (EP X pins U Q) X.xe s:=fun l u el eu is=>by
  refine wpAny_getItem_str_slice is rfl ?_
  unfold sliceMade slicePicked
  rw [el,eu]
  refine post_val_or_str ⟨Nat.le_trans (Txt.slice_le z lo hi) hz,fun t' k=>?_⟩
  show EP X pins U Q (.str (Txt.slice z lo hi) t') _
  rw [zqM]
  exact⟨.str _,H,I.tok _,⟨t',rfl⟩,q⟩
 obtain⟨o,ho,hc,hd⟩:=hs
 cases pl with
 | none =>
  cases pu with
  | none=>exact go none none rfl rfl ⟨o,ho,hc,hd⟩
  | int j tj=>exact go none (some (j,tj)) rfl rfl ⟨o,ho,hc,hd⟩
 | int i ti =>
  cases pu with
  | none=>exact go (some (i,ti)) none rfl rfl ⟨o,ho,hc,hd⟩
  | int j tj=>exact go (some (i,ti)) (some (j,tj)) rfl rfl ⟨o,ho,hc,hd⟩
section
open AutoSeq1 (wpAny_loadPart')
variable {prog:Program}{w:World}{A:Around}{E:Value->Shared->Prop}{s:Shared}
theorem zj2 {it t:Addr}{i:Nat}{items:Array Value}{x:Value}{Q:Value->Shared->Prop}(hit:s.heap.IsTupleIter it t i)(ht:s.heap.IsTuple t items)(hx:items[i]?=some x)
  (hQ:∀ h',h'.IsTupleIter it t (i+1)->Heap.SameBut it s.heap h'->Q x { s with heap:=h' }):wpAny (model prog w) A (Builtin.SmallTypes.nextOf (.ref it)) Q E s:=by
 obtain⟨o,ho,hc,hd⟩:=id hit
 obtain⟨ol,hol,_,nl,hdl⟩:=ht
 unfold Builtin.SmallTypes.nextOf
 refine wpAny_bind (wpAny_callSpecial?_slot (name:=Str.ofString "__next__") hit.typeIs F.slot_tuple_iterator_next (wpAny_call_entry F.slot_tuple_iterator_next hit.typeIs F.entry_tuple_iterator_next ?_ (F.args_tuple_iterator_next_1 _)))
 show wpAny _ _ (field (.ref it) 0 >>= _) _ _ s
 refine wpAny_bind (wpAny_field ho hd (x:=.ref t) rfl ?_)
 show wpAny _ _ (if (Value.ref t==Value.none)=true then _ else _) _ _ s
 rw [if_neg (show ¬ ((Value.ref t==Value.none)=true) from qq)]
 show wpAny _ _ (field (.ref it) 1 >>= _) _ _ s
 refine wpAny_bind (wpAny_field ho hd (x:=.int i 0) rfl ?_)
 show wpAny _ _ (seqItems? (.ref t) >>= _) _ _ s
 refine wpAny_bind (wpAny_seqItems hol hdl ?_)
 simp only [Int.toNat_natCast,hx]
 refine wpAny_bind (wpAny_setField ho hd (by simp) (wpAny_pure ⟨x,rfl,wpAny_pure (hQ _ ?_ (Heap.SameBut.update ..))⟩))
 exact⟨_,Heap.get?_update_self _ ho (Obj.isFreed_of_fields (Obj.data_mapFields hd _)),(Obj.cls_mapFields ..).trans hc,by rw [Obj.data_mapFields hd];simp [rawInt]⟩
theorem zhy {it t:Addr}{i:Nat}{items:Array Value}{Q:Value->Shared->Prop}(hh:A.handled=none)(hit:s.heap.IsTupleIter it t i)(ht:s.heap.IsTuple t items)(hx:items[i]?=none)
  (hE:∀ h' e,Heap.ExtBut it s.heap h'->(∃ o,h'.get? e=some o/\o.cls=.type "StopIteration")->E (.ref e) { s with heap:=h' }):wpAny (model prog w) A (Builtin.SmallTypes.nextOf (.ref it)) Q E s:=by
 obtain⟨o,ho,hc,hd⟩:=id hit
 obtain⟨ol,hol,_,nl,hdl⟩:=ht
 unfold Builtin.SmallTypes.nextOf
 refine wpAny_bind (wpAny_callSpecial?_slot (name:=Str.ofString "__next__") hit.typeIs F.slot_tuple_iterator_next (wpAny_call_entry F.slot_tuple_iterator_next hit.typeIs F.entry_tuple_iterator_next ?_ (F.args_tuple_iterator_next_1 _)))
 show wpAny _ _ (field (.ref it) 0 >>= _) _ _ s
 refine wpAny_bind (wpAny_field ho hd (x:=.ref t) rfl ?_)
 show wpAny _ _ (if (Value.ref t==Value.none)=true then _ else _) _ _ s
 rw [if_neg (show ¬ ((Value.ref t==Value.none)=true) from qq)]
 show wpAny _ _ (field (.ref it) 1 >>= _) _ _ s
 refine wpAny_bind (wpAny_field ho hd (x:=.int i 0) rfl ?_)
 show wpAny _ _ (seqItems? (.ref t) >>= _) _ _ s
 refine wpAny_bind (wpAny_seqItems hol hdl ?_)
 simp only [Int.toNat_natCast,hx]
 refine wpAny_bind (wpAny_rule (wpAny_bind (wpAny_setField ho hd (by simp) ?_)))
 show wpAny _ _ (newExc (.type "StopIteration") [] >>= _) _ _ _
 refine wpAny_bind ?_
 simp only [newExc,newTuple]
 refine wpAny_bind (wpAny_newObj_type ?_ (by size_fits))
 refine wpAny_bind (m:=firstArgMember _ _) (wpAny_of_eq (a:=Value.none) (by first | rfl | (simp only [firstArgMember];rfl)) ?_)
 refine wpAny_newObj_type ?_ (by size_fits)
 simp only [raiseNew]
 refine wpAny_bind (wpAny_handled ?_)
 first | rw [show A.in1.handled=none from hh] | rw [hh]
 refine wpAny_bind (wpAny_pure (wpAny_throw ?_))
 exact hE _ _ (((Heap.SameBut.update ..).extBut.push _).push _) ⟨_,qp _ rfl,rfl⟩
theorem zvi (hh:A.handled=none)(it t:Addr)(hne:t≠it)(items:Array Value) :
  Draws prog w A it [it,t] items.size (fun i v=>items[i]?=some v) (fun i h=>h.IsTupleIter it t i/\h.IsTuple t items) where
 live:=fun _ _ st=>let ⟨o,ho,_⟩:=st.1;⟨o,ho⟩
 frame:=fun _ _ _ st hk=>⟨let ⟨o,ho,r⟩:=st.1;⟨o,hk it (by simp) o ho,r⟩,let ⟨o,ho,r⟩:=st.2;⟨o,hk t (by simp) o ho,r⟩⟩
 item:=fun i s Q E hi st hQ=>zj2 st.1 st.2 (x:=items[i]) (by simp [hi]) fun h' hit' hs'=>hQ _ h' s.toks (by simp [hi]) ⟨hit',st.2.extBut hs'.extBut hne⟩ hs'
 done:=fun s Q E st hE=>zhy hh st.1 st.2 (by simp) hE
theorem zwz (hh:A.handled=none)(it t:Addr)(items:Array Value)(i:Nat)(hx:items[i]?=none) :
  Draws prog w A it [it,t] 0 (fun _ _=>True) (fun _ h=>h.IsTupleIter it t i/\h.IsTuple t items) where
 live:=fun _ _ st=>let ⟨o,ho,_⟩:=st.1;⟨o,ho⟩
 frame:=fun _ _ _ st hk=>⟨let ⟨o,ho,r⟩:=st.1;⟨o,hk it (by simp) o ho,r⟩,let ⟨o,ho,r⟩:=st.2;⟨o,hk t (by simp) o ho,r⟩⟩
 item:=fun i s Q E hi=>absurd hi (Nat.not_lt_zero _)
 done:=fun s Q E st hE=>zhy hh st.1 st.2 hx hE
theorem newT (l:Addr)(items:Array Value)(n:Nat)(dct:Option Addr)(sl:Array (Option Value)) :
    Meets (Builtin.«enumerate.__new__» ⟨[.type "enumerate",.ref l],[]⟩) (fun _ R s=>s.heap.get? l=some { cls:=.type "tuple",dict:=dct,data:=.seq items n,slots:=sl } /\
      R (.ok (.ret (.ref (s.heap.push { cls:=.type "tuple_iterator",data:=.fields #[.ref l,.int 0 0] }).objs.size)))
        { s with heap:=(s.heap.push { cls:=.type "tuple_iterator",data:=.fields #[.ref l,.int 0 0] }).push { cls:=.type "enumerate",data:=.fields #[.none,.bool false,.ref s.heap.objs.size,rawInt 0,.none,.none] } }) :=
  .of_wp fun prog w A R s h=>by
    obtain⟨hp,g,d,tk,os⟩:=s
    obtain⟨hl,h⟩:=h
    have hsub:=sub_enumerate
    have hL:Heap.IsTuple (Shared.heap ⟨hp,g,d,tk,os⟩) l items:=⟨_,hl,rfl,n,rfl⟩
    wp_walk using wpAny_loadPart' hl
    refine wpAny_stack_any fun st=>wpAny_pure ?_
    split
    . rename_i c _ _ _ _ _
      cases (c==Value.type "enumerate")
      . wp_walk using wpAny_loadPart' hl,wpAny_pyIter_tuple hL
        exact⟨_,rfl,h⟩
      . wp_walk using wpAny_loadPart' hl,wpAny_pyIter_tuple hL
        exact⟨_,rfl,h⟩
    . wp_walk using wpAny_loadPart' hl,wpAny_pyIter_tuple hL
      exact⟨_,rfl,h⟩
theorem zxN {l:Addr}{items:Array Value}{Q:Value->Shared->Prop}(hL:s.heap.IsTuple l items)
    (h:∀ h',IsEnum h' (s.heap.objs.size+1) s.heap.objs.size 0 .none->h'.IsTupleIter s.heap.objs.size l 0->h'.objs.size=s.heap.objs.size+2 ->
      (∀ b o,s.heap.get? b=some o->h'.get? b=some o)->Q (.ref (s.heap.objs.size+1)) { s with heap:=h' }):wpAny (model prog w) A (call (.type "enumerate") [.ref l]) Q E s:=by
  obtain⟨⟨c,dct,dt,sl⟩,hl,hc,n,hd⟩:=hL
  replace hc:c=.type "tuple":=hc
  replace hd:dt=.seq items n:=hd
  subst hc hd
  refine callType_new F.called_enumerate (by decide) (F.typeCall_enumerate_1 _) (F.newCall_enumerate_1 _) (fun obj=>F.args_object_init_2 obj _) F.entry_enumerate_new (newT l items n dct sl) ⟨hl,?_⟩
  have hz:(s.heap.push { cls:=.type "tuple_iterator",data:=.fields #[.ref l,.int 0 0] }).objs.size=s.heap.objs.size+1:=Heap.size_push ..
  show _/\_
  rw [hz]
  have he : IsEnum ((s.heap.push { cls := .type "tuple_iterator", data := .fields #[.ref l, .int 0 0] }).push
      { cls:=.type "enumerate",data:=.fields #[.none,.bool false,.ref s.heap.objs.size,rawInt 0,.none,.none] }) (s.heap.objs.size+1) s.heap.objs.size 0 .none:=by
    have:=qp (s.heap.push { cls:=.type "tuple_iterator",data:=.fields #[.ref l,.int 0 0] })
      (o:={ cls:=.type "enumerate",data:=.fields #[.none,.bool false,.ref s.heap.objs.size,rawInt 0,.none,.none] }) rfl
    rw [hz] at this;exact this
  exact⟨⟨_,he,rfl⟩,h _ he ⟨_,qd _ (qp _ rfl),rfl,rfl⟩ (by rw [Heap.size_push,hz]) fun b o x=>qd _ (qd _ x)⟩
end
def zrS (K:PySem.W.Frag)(l:Addr):It :=
  ⟨fun i H=>∃ xs x,SqT K H l xs/\xs[i]?=some x,
   fun i H v H'=>∃ p,v=.ref p/\H p=none/\∀ xs x,SqT K H l xs->xs[i]?=some x->H'=upd H p (.tup [.int i,x]),
   fun i H=>∃ xs,SqT K H l xs/\xs.length<=i⟩
theorem zrf {h:Heap}{a b:Addr}{o u:Obj}(ha:h.get? a=some o)(hb:h.get? b=some u)(hc:o.cls≠u.cls):a≠b:=fun e=>by
 subst e
 rw [ha] at hb
 cases hb
 exact hc rfl
theorem zo4 {P:Program}{w:World}{K:PySem.W.Frag}{es:List Expr}{kk:Nat}{pos:Pos}{e it l:Addr}(hne:e≠it) :
  Turn P w K (.Tuple es kk pos) (zrS K l) [e,it] e (fun i h=>(∃ old,IsEnum h e it i old)/\h.IsTupleIter it l i) where
 mem:=by simp
 obj:=fun i h st b hb=>by
  obtain⟨⟨old,he⟩,⟨o1,h1,_,h1d⟩⟩:=st
  simp only [qh,qE,or_false] at hb
  rcases hb with rfl | rfl
  ·exact⟨_,he,fun v q=>by cases (show Data.fields _=Data.cell v from q)⟩
  ·exact⟨_,h1,fun v q=>by rw [h1d] at q;cases q⟩
 keep:=fun i h h' st k=>by
  obtain⟨⟨old,he⟩,⟨o,ho,r⟩⟩:=st
  exact⟨⟨old,k e (by simp) _ he⟩,⟨o,k it (by simp) o ho,r⟩⟩
 item:=by
  intro X hP hw hK hc i pins s U H E I hf st hg
  subst hP hw hK
  obtain⟨⟨old,he⟩,h1⟩:=st
  obtain⟨xs,x,hx1,hx⟩:=hg
  obtain⟨its,rx,px,zx⟩:=I.tuple hx1
  obtain⟨u,hu,ru⟩:=Vals.get rx hx
  have pt:s.heap.IsTuple l its.toArray:=px
  obtain⟨oi,ei,ci,_⟩:=id h1
  obtain⟨ol,el,cl,_⟩:=id pt
  have n1:l≠it:=zrf el ei (by rw [cl,ci];decide)
  have n2:e≠l:=zrf he el (by rw [cl];show Value.type "enumerate"≠Value.type "tuple";decide)
  have hlt:i<its.toArray.size:=by
   have:=(qO.mp hu).1
   simpa using this
  refine wpAny_pyNext_enum_itemD (zvi (A:=X.A.in1) (show X.A.in1.handled=none from I.ok.hd hc) it l n1 its.toArray) he ⟨h1,pt⟩ hlt hne (by simp [hne,n2]) fun u' h' tk hP a1 a2 a3 a4 hk=>?_
  have eu:u'=u:=by
   have hP':its.toArray[i]?=some u':=hP
   rw [List.getElem?_toArray,hu] at hP'
   cases hP';rfl
  subst eu
  refine⟨_,rfl,wpAny_letOwnedTupleGo_enum (s:={ s with heap:=h',toks:=tk+1 }) a1 fun h'' he'' hs''=>?_⟩
  have lt:∀ {c o},s.heap.get? c=some o->s.heap.objs.size≠c:=fun q=>Nat.ne_of_gt (qr q)
  have k2:∀ b u,b∉[e,it]->s.heap.get? b=some u->h''.get? b=some u:=fun b u hb q=>by
   simp only [qh,qE,or_false,not_or] at hb
   exact hs''.extBut b u hb.1 (hk b u hb.1 hb.2 q)
  have new:h''.get? s.heap.objs.size=some { cls:=.type "tuple",data:=.seq #[.int i tk,u'] }:=hs''.extBut _ _ (lt he) a3
  refine⟨.ref s.heap.objs.size,upd H s.heap.objs.size (.tup [.int i,x]),I.turnNew (t':=tk+1) hf k2 (qf _) ⟨by show 2<=sizeLine;decide,[.int i tk,u'],.cons ⟨_,rfl⟩ (.cons ru .nil),_,new,rfl,_,rfl⟩,rfl,⟨_,rfl,I.fresh,?_⟩,?_,fun b hb=>?_⟩
  ·intro xs' x' hx1' hx'
   cases I.tuple_inj hx1 hx1'
   rw [hx] at hx'
   cases hx'
   rfl
  ·exact⟨⟨_,he''⟩,a2.1.extBut hs''.extBut (Ne.symm hne)⟩
  ·have:∃ o,s.heap.get? b=some o:=by
    simp only [qh,qE,or_false] at hb
    rcases hb with rfl | rfl
    ·exact⟨_,he⟩
    ·exact⟨_,ei⟩
   obtain⟨o,q⟩:=this
   rw [zZ (lt q).symm]
   exact (hf b hb).1
 done:=by
  intro X hP hw hK hc i pins s U H E I hf st hg
  subst hP hw hK
  obtain⟨⟨old,he⟩,h1⟩:=st
  obtain⟨xs,hx1,hl⟩:=hg
  obtain⟨its,rx,px,zx⟩:=I.tuple hx1
  have n1:=rx.length
  have pt:s.heap.IsTuple l its.toArray:=px
  have hnone:its.toArray[i]?=none:=by rw [List.getElem?_toArray];exact qu (by lia)
  refine wpAny_pyNext_enum_endD (zwz (A:=X.A.in1) (show X.A.in1.handled=none from I.ok.hd hc) it l its.toArray i hnone) he ⟨h1,pt⟩ fun h' hk=>⟨rfl,I.turnedL (t':=s.toks) hf fun b u hb q=>?_⟩
  simp only [qh,qE,or_false,not_or] at hb
  exact hk b u hb.2 q
 self:=fun _ _ _ _ _ st h=>by
  obtain⟨⟨old,he⟩,_⟩:=st
  exact wpAny_pyIter_enum he h
section
variable {X:Cx}
def zwf (K:PySem.W.Frag)(ta:TA):TI:=fun U H R=>ta U H fun vs H1=>∃ l,vs=[.ref l]/\(((∃ xs,SqL K H1 l xs)/\R (Ite K l) H1)\/((∃ xs,SqT K H1 l xs)/\R (zrS K l) H1))
theorem zss {es:List Expr}{kk:Nat}{tpos:Pos}{a:Expr}{ta:TA}{p pos:Pos}(hg:Gl X "enumerate")(hm:X.mg "enumerate"=none)(ha:PA X [a] ta)(hs:starEach [a] X.env=[(false,eval a X.env)]:=by rfl) :
    PI X (.Tuple es kk tpos) (.Call (.Name "enumerate" p) [a] [] pos) (zwf X.K ta):=by
  intro pins s U H R I h
  refine Call_ (zdT I hg hm boot_enumerate (PyProof.Rows.callWith_type1 (thn (ha pos pins s U H _ I h) fun us s1 ⟨vs,H1,I1,r1,q1⟩=>?_) hs rfl))
  obtain⟨l,e,q⟩:=q1
  subst e
  obtain⟨u,rfl,ru⟩:=vals1 r1
  cases ru
  rcases q with ⟨⟨xs,hx⟩,q⟩ | ⟨⟨xs,hx⟩,q⟩
  . obtain⟨its,rx,px,zx⟩:=I1.list hx
    refine call_enumerate_list px.isList fun h' he hit hsz hk=>?_
    have I2:Inv X pins U H1 { s1 with heap:=h' }:=I1.kept (t':=s1.toks) hk
    refine wpAny_pyIter_enum (s:={ s1 with heap:=h' }) he ?_
    refine⟨_,_,_,_,H1,rfl,I2,zqI (Nat.ne_of_gt (Nat.lt_succ_self _)),⟨⟨_,he⟩,hit⟩,fun b hb=>?_,q⟩
    have hb':s1.heap.objs.size<=b:=by
      simp only [qh,qE,or_false] at hb
      rcases hb with rfl | rfl<;>first | exact Nat.le_add_right _ _ | exact qf _
    exact I1.fpOk hb' (I1.hok.fresh hb')
  . obtain⟨its,rx,px,zx⟩:=I1.tuple hx
    have pt:s1.heap.IsTuple l its.toArray:=px
    refine zxN pt fun h' he hit hsz hk=>?_
    have I2:Inv X pins U H1 { s1 with heap:=h' }:=I1.kept (t':=s1.toks) hk
    refine wpAny_pyIter_enum (s:={ s1 with heap:=h' }) he ?_
    refine⟨_,_,_,_,H1,rfl,I2,zo4 (Nat.ne_of_gt (Nat.lt_succ_self _)),⟨⟨_,he⟩,hit⟩,fun b hb=>?_,q⟩
    have hb':s1.heap.objs.size<=b:=by
      simp only [qh,qE,or_false] at hb
      rcases hb with rfl | rfl<;>first | exact Nat.le_add_right _ _ | exact qf _
    exact I1.fpOk hb' (I1.hok.fresh hb')
end
def zbs:Bool->Heap->Addr->Addr->Nat->Prop
 | true,h,it,l,k=>h.IsListIter it l k
 | false,h,it,l,k=>h.IsTupleIter it l k
def zch:Bool->Heap->Addr->Array Value->Prop
 | true,h,l,xs=>h.IsList l xs
 | false,h,l,xs=>h.IsTuple l xs
theorem zbs.grow {b:Bool}{h h':Heap}{c it l:Addr}{k:Nat}(x:zbs b h it l k)(e:Heap.ExtBut c h h')(n:it≠c):zbs b h' it l k:=by
 cases b
 ·exact Heap.IsTupleIter.extBut (show h.IsTupleIter it l k from x) e n
 ·exact Heap.IsListIter.extBut (show h.IsListIter it l k from x) e n
theorem zch.grow {b:Bool}{h h':Heap}{c l:Addr}{xs:Array Value}(x:zch b h l xs)(e:Heap.ExtBut c h h')(n:l≠c):zch b h' l xs:=by
 cases b
 ·exact Heap.IsTuple.extBut (show h.IsTuple l xs from x) e n
 ·exact Heap.IsList.extBut (show h.IsList l xs from x) e n
theorem zbs.obj {b:Bool}{h:Heap}{it l:Addr}{k:Nat}(x:zbs b h it l k):∃ o,h.get? it=some o/\(o.cls=.type "list_iterator"\/o.cls=.type "tuple_iterator")/\∃ vs,o.data=.fields vs:=by
 cases b
 ·obtain⟨o,ho,hc,hd⟩:h.IsTupleIter it l k:=x
  exact⟨o,ho,.inr hc,_,hd⟩
 ·obtain⟨o,ho,hc,hd⟩:h.IsListIter it l k:=x
  exact⟨o,ho,.inl hc,_,hd⟩
theorem zbs.at {b:Bool}{h h':Heap}{it l:Addr}{k:Nat}(x:zbs b h it l k)(e:∀ o,h.get? it=some o->h'.get? it=some o):zbs b h' it l k:=by
 cases b
 ·obtain⟨o,ho,hc,hd⟩:h.IsTupleIter it l k:=x
  exact (⟨o,e o ho,hc,hd⟩:h'.IsTupleIter it l k)
 ·obtain⟨o,ho,hc,hd⟩:h.IsListIter it l k:=x
  exact (⟨o,e o ho,hc,hd⟩:h'.IsListIter it l k)
theorem zch.lt {b:Bool}{h:Heap}{l:Addr}{xs:Array Value}(x:zch b h l xs):l<h.objs.size:=by
 cases b
 ·obtain⟨o,ho,_⟩:h.IsTuple l xs:=x
  exact qr ho
 ·obtain⟨o,ho,_⟩:h.IsList l xs:=x
  exact qr ho
section
variable {prog:Program}{w:World}{A:Around}{E:Value->Shared->Prop}{s:Shared}
theorem zgC {b:Bool}{it t:Addr}{i:Nat}{items:Array Value}{x:Value}{Q:Value->Shared->Prop}(hit:zbs b s.heap it t i)(ht:zch b s.heap t items)(hx:items[i]?=some x)
  (hQ:∀ h',zbs b h' it t (i+1)->Heap.SameBut it s.heap h'->Q x { s with heap:=h' }):wpAny (model prog w) A (Builtin.SmallTypes.nextOf (.ref it)) Q E s:=by
 cases b
 ·exact zj2 hit ht hx hQ
 ·exact wpAny_nextOf_list_item hit ht hx hQ
theorem zk7 {b:Bool}{it t:Addr}{i:Nat}{items:Array Value}{Q:Value->Shared->Prop}(hh:A.handled=none)(hit:zbs b s.heap it t i)(ht:zch b s.heap t items)(hx:items[i]?=none)
  (hE:∀ h' e,Heap.ExtBut it s.heap h'->(∃ o,h'.get? e=some o/\o.cls=.type "StopIteration")->E (.ref e) { s with heap:=h' }):wpAny (model prog w) A (Builtin.SmallTypes.nextOf (.ref it)) Q E s:=by
 cases b
 ·exact zhy hh hit ht hx hE
 ·exact wpAny_nextOf_list_end hh hit ht hx hE
theorem zov {b1 b2:Bool}{z TI TO i1 i2 l1 l2:Addr}{k:Nat}{xs ys:Array Value}{x y a b:Value}{Q:Option Value->Shared->Prop}(D:ZipApart z TI TO i1 i2 l1 l2)
  (hz:IsZip s.heap z TI TO .none) (hTI:IsPair s.heap TI (.ref i1) (.ref i2)) (hTO:IsPair s.heap TO a b) (h1:zbs b1 s.heap i1 l1 k) (h2:zbs b2 s.heap i2 l2 k) (hl1:zch b1 s.heap l1 xs) (hl2:zch b2 s.heap l2 ys) (hx:xs[k]?=some x) (hy:ys[k]?=some y)
  (hQ:∀ h',IsZip h' z TI TO (rawInt s.heap.objs.size)->IsPair h' TO x y->zbs b1 h' i1 l1 (k+1)->zbs b2 h' i2 l2 (k+1)->IsPair h' s.heap.objs.size x y ->
   (∀ c o,c≠z->c≠TO->c≠i1->c≠i2->s.heap.get? c=some o->h'.get? c=some o)->Q (some (.ref s.heap.objs.size)) { s with heap:=h' }):wpAny (model prog w) A (pyNext (.ref z)) Q E s:=by
 have hT:s.TypeIs (.ref z) "zip":=⟨_,hz,rfl⟩
 unfold pyNext
 refine wpAny_bind (wpAny_attempt (wpAny_callSpecial?_slot (name:=Str.ofString "__next__") hT F.slot_zip_next (wpAny_call_entry F.slot_zip_next hT F.entry_zip_next ?_ (F.args_zip_next_1 _))))
 show wpAny _ _ (field (.ref z) 2 >>= _) _ _ _
 refine wpAny_bind (wpAny_field hz rfl (x:=.bool false) rfl ?_);show wpAny _ _ (field (.ref z) 3 >>= _) _ _ _
 refine wpAny_bind (wpAny_field hz rfl (x:=.ref TI) rfl (wpAny_bind (wpAny_seqItems hTI rfl ?_)));show wpAny _ _ (Builtin.SmallTypes.ownedTupleIsFree (.ref z) >>= _) _ _ _
 refine wpAny_bind ?_;unfold Builtin.SmallTypes.ownedTupleIsFree
 refine wpAny_bind (wpAny_field hz rfl (x:=.none) rfl (wpAny_pure ?_));simp only [if_true]
 refine wpAny_bind (wpAny_rule (wpAny_bind (wpAny_field hz rfl (x:=.ref TO) rfl (wpAny_bind (wpAny_setField_rec hz (by simp) fun g1 z1 e1=>?_)))))
 replace z1:IsZip g1 z TI TO .ellipsis:=z1
 refine wpAny_bind ?_;simp only [List.zipIdx_cons,List.zipIdx_nil,List.forIn_cons,List.forIn_nil]
 refine wpAny_bind (wpAny_bind (wpAny_onRaise ?_));show wpAny _ _ (Builtin.SmallTypes.nextOf (.ref i1) >>= _) _ _ _
 refine wpAny_bind (zgC (h1.grow e1.extBut D.i1z) (hl1.grow e1.extBut D.l1z) hx fun g2 t1 e2=>wpAny_pure ?_)
 have p2:IsPair g2 TO a b:=e2.extBut _ _ D.TOi1 (e1.extBut _ _ D.TOz hTO)
 refine wpAny_bind (wpAny_seqItems p2 rfl (wpAny_bind (wpAny_updateSeq_pair p2 fun g3 p3 e3=>wpAny_bind (wpAny_letGo (wpAny_pure ?_)))))
 replace p3:IsPair g3 TO x b:=p3
 refine wpAny_bind (wpAny_bind (wpAny_onRaise ?_));show wpAny _ _ (Builtin.SmallTypes.nextOf (.ref i2) >>= _) _ _ _
 refine wpAny_bind (zgC (((h2.grow e1.extBut D.i2z).grow e2.extBut D.i12.symm).grow e3.extBut D.TOi2.symm) (((hl2.grow e1.extBut D.l2z).grow e2.extBut D.l2i1).grow e3.extBut D.l2TO) hy fun g4 t2 e4=>wpAny_pure ?_)
 have p4:IsPair g4 TO x b:=e4.extBut _ _ D.TOi2 p3
 refine wpAny_bind (wpAny_seqItems p4 rfl (wpAny_bind (wpAny_updateSeq_pair p4 fun g5 p5 e5=>wpAny_bind (wpAny_letGo (wpAny_pure (wpAny_pure ?_))))))
 replace p5:IsPair g5 TO x y:=p5
 refine wpAny_bind (wpAny_seqItems p5 rfl (wpAny_bind (wpAny_newTuple ?_)))
 have sz:g5.objs.size=s.heap.objs.size:=by rw [e5.1,e4.1,e3.1,e2.1,e1.1]
 have z5:IsZip g5 z TI TO .ellipsis:=e5.extBut _ _ D.TOz.symm (e4.extBut _ _ D.i2z.symm (e3.extBut _ _ D.TOz.symm (e2.extBut _ _ D.i1z.symm z1)))
 have k5:∀ c o,c≠z->c≠TO->c≠i1->c≠i2->s.heap.get? c=some o->g5.get? c=some o:=fun c o c1 c2 c3 c4 e=>e5.extBut _ _ c2 (e4.extBut _ _ c4 (e3.extBut _ _ c2 (e2.extBut _ _ c3 (e1.extBut _ _ c1 e))))
 have u1:zbs b1 g5 i1 l1 (k+1):=((t1.grow e3.extBut D.TOi1.symm).grow e4.extBut D.i12).grow e5.extBut D.TOi1.symm
 have u2:zbs b2 g5 i2 l2 (k+1):=t2.grow e5.extBut D.TOi2.symm
 have zl:z<g5.objs.size:=qr z5
 show wpAny _ _ (Builtin.SmallTypes.ownedTupleHandOut (.ref z) (.ref g5.objs.size) >>= _) _ _ _
 refine wpAny_bind ?_;unfold Builtin.SmallTypes.ownedTupleHandOut
 have z6:IsZip (g5.push { cls:=.type "tuple",data:=.seq #[x,y] }) z TI TO .ellipsis:=qd _ z5
 refine wpAny_bind (wpAny_setField_rec z6 (by simp) fun g7 z7 e7=>?_)
 replace z7:IsZip g7 z TI TO (rawInt g5.objs.size):=z7
 refine wpAny_setField_rec z7 (by simp) fun g8 z8 e8=>?_
 replace z8:IsZip g8 z TI TO (rawInt g5.objs.size):=z8
 have up:∀ c o,c≠z->g5.get? c=some o->g8.get? c=some o:=fun c o c1 e=>e8.extBut _ _ c1 (e7.extBut _ _ c1 (qd _ e))
 have t8:IsPair g8 g5.objs.size x y:=e8.extBut _ _ (Nat.ne_of_gt zl) (e7.extBut _ _ (Nat.ne_of_gt zl) (qp _ rfl))
 rw [sz] at z8 t8
 refine wpAny_pure ⟨_,rfl,wpAny_pure ?_⟩
 show Q (some (.ref g5.objs.size)) _
 rw [sz]
 exact hQ g8 z8 (up _ _ D.TOz p5) (u1.at fun o e=>up _ o D.i1z e) (u2.at fun o e=>up _ o D.i2z e) t8 fun c o c1 c2 c3 c4 e=>up c o c1 (k5 c o c1 c2 c3 c4 e)
theorem zrp {b1 b2:Bool}{z TI TO i1 i2 l1 l2:Addr}{k:Nat}{xs ys:Array Value}{a b:Value}{Q:Option Value->Shared->Prop}(hh:A.handled=none)(D:ZipApart z TI TO i1 i2 l1 l2)
  (hz:IsZip s.heap z TI TO .none) (hTI:IsPair s.heap TI (.ref i1) (.ref i2)) (hTO:IsPair s.heap TO a b) (h1:zbs b1 s.heap i1 l1 k) (h2:zbs b2 s.heap i2 l2 k) (hl1:zch b1 s.heap l1 xs) (hl2:zch b2 s.heap l2 ys) (hend:xs[k]?=none\/ys[k]?=none)
  (hQ:∀ h',(∀ c o,c≠z->c≠TO->c≠i1->c≠i2->s.heap.get? c=some o->h'.get? c=some o)->Q none { s with heap:=h' }):wpAny (model prog w) A (pyNext (.ref z)) Q E s:=by
 have hT:s.TypeIs (.ref z) "zip":=⟨_,hz,rfl⟩
 unfold pyNext
 refine wpAny_bind (wpAny_attempt (wpAny_callSpecial?_slot (name:=Str.ofString "__next__") hT F.slot_zip_next (wpAny_call_entry F.slot_zip_next hT F.entry_zip_next ?_ (F.args_zip_next_1 _))))
 have out:∀ h' e,(∀ c o,c≠z->c≠TO->c≠i1->c≠i2->s.heap.get? c=some o->h'.get? c=some o)->(∃ o,h'.get? e=some o/\o.cls=.type "StopIteration") ->
   wpAny (model prog w) A ((isInstance (.ref e) (.type "StopIteration")) >>= fun b=>if b=true then pure none else throw (.ref e)) Q E { s with heap:=h' }:=fun h' e hk he=>by
  obtain⟨o,ho,hc⟩:=he
  exact wpAny_bind (wpAny_isInstance (T:="StopIteration") (b:=true) ⟨o,ho,hc⟩ isSubtype_stop (wpAny_pure (hQ _ hk)))
 show wpAny _ _ (field (.ref z) 2 >>= _) _ _ _
 refine wpAny_bind (wpAny_field hz rfl (x:=.bool false) rfl ?_);show wpAny _ _ (field (.ref z) 3 >>= _) _ _ _
 refine wpAny_bind (wpAny_field hz rfl (x:=.ref TI) rfl (wpAny_bind (wpAny_seqItems hTI rfl ?_)));show wpAny _ _ (Builtin.SmallTypes.ownedTupleIsFree (.ref z) >>= _) _ _ _
 refine wpAny_bind ?_;unfold Builtin.SmallTypes.ownedTupleIsFree
 refine wpAny_bind (wpAny_field hz rfl (x:=.none) rfl (wpAny_pure ?_));simp only [if_true]
 refine wpAny_bind (wpAny_rule (wpAny_bind (wpAny_field hz rfl (x:=.ref TO) rfl (wpAny_bind (wpAny_setField_rec hz (by simp) fun g1 z1 e1=>?_)))))
 replace z1:IsZip g1 z TI TO .ellipsis:=z1
 refine wpAny_bind ?_;simp only [List.zipIdx_cons,List.zipIdx_nil,List.forIn_cons,List.forIn_nil]
 refine wpAny_bind (wpAny_bind (wpAny_onRaise ?_));show wpAny _ _ (Builtin.SmallTypes.nextOf (.ref i1) >>= _) _ _ _
 cases hx:xs[k]? with
 | none =>
  refine wpAny_bind (zk7 hh (h1.grow e1.extBut D.i1z) (hl1.grow e1.extBut D.l1z) hx fun g2 e e2 ⟨oe,hoe,hce⟩=>?_)
  have z2:IsZip g2 z TI TO .ellipsis:=e2 _ _ D.i1z.symm z1
  have ne:e≠z:=fun q=>by subst q;rw [z2] at hoe;cases hoe;simp at hce
  exact wpAny_setField_rec z2 (by simp) fun g3 _ e3=>out g3 e (fun c o c1 _ c3 _ q=>e3.extBut _ _ c1 (e2 _ _ c3 (e1.extBut _ _ c1 q))) ⟨oe,e3.extBut _ _ ne hoe,hce⟩
 | some x =>
  have hy:ys[k]?=none:=by rcases hend with h | h;rw [hx] at h;cases h;exact h
  refine wpAny_bind (zgC (h1.grow e1.extBut D.i1z) (hl1.grow e1.extBut D.l1z) hx fun g2 t1 e2=>wpAny_pure ?_)
  have p2:IsPair g2 TO a b:=e2.extBut _ _ D.TOi1 (e1.extBut _ _ D.TOz hTO)
  refine wpAny_bind (wpAny_seqItems p2 rfl (wpAny_bind (wpAny_updateSeq_pair p2 fun g3 p3 e3=>wpAny_bind (wpAny_letGo (wpAny_pure ?_)))))
  refine wpAny_bind (wpAny_bind (wpAny_onRaise ?_));show wpAny _ _ (Builtin.SmallTypes.nextOf (.ref i2) >>= _) _ _ _
  refine wpAny_bind (zk7 hh (((h2.grow e1.extBut D.i2z).grow e2.extBut D.i12.symm).grow e3.extBut D.TOi2.symm) (((hl2.grow e1.extBut D.l2z).grow e2.extBut D.l2i1).grow e3.extBut D.l2TO) hy fun g4 e e4 ⟨oe,hoe,hce⟩=>?_)
  have z4:IsZip g4 z TI TO .ellipsis:=e4 _ _ D.i2z.symm (e3.extBut _ _ D.TOz.symm (e2.extBut _ _ D.i1z.symm z1))
  have ne:e≠z:=fun q=>by subst q;rw [z4] at hoe;cases hoe;simp at hce
  exact wpAny_setField_rec z4 (by simp) fun g5 _ e5=>out g5 e (fun c o c1 c2 c3 c4 q=>e5.extBut _ _ c1 (e4 _ _ c4 (e3.extBut _ _ c2 (e2.extBut _ _ c3 (e1.extBut _ _ c1 q))))) ⟨oe,e5.extBut _ _ ne hoe,hce⟩
end
abbrev itN (b:Bool):String:=if b=true then "list_iterator" else "tuple_iterator"
abbrev zg1 (b:Bool)(h:Heap)(l:Addr):Heap:=h.push { cls:=.type (itN b),data:=.fields #[.ref l,.int 0 0] }
abbrev zg2 (b1 b2:Bool)(h:Heap)(l1 l2:Addr):Heap:=zg1 b2 (zg1 b1 h l1) l2
abbrev zg3 (b1 b2:Bool)(h:Heap)(l1 l2:Addr):Heap:=(zg2 b1 b2 h l1 l2).push { cls:=.type "tuple",data:=.seq #[.ref h.objs.size,.ref (zg1 b1 h l1).objs.size] }
abbrev zg4 (b1 b2:Bool)(h:Heap)(l1 l2:Addr):Heap:=(zg3 b1 b2 h l1 l2).push { cls:=.type "tuple",data:=.seq #[.none,.none] }
abbrev zg5 (b1 b2:Bool)(h:Heap)(l1 l2:Addr):Heap:=(zg4 b1 b2 h l1 l2).push { cls:=.type "zip",data:=.fields #[.none,.bool false,.bool false,.ref (zg2 b1 b2 h l1 l2).objs.size,.ref (zg3 b1 b2 h l1 l2).objs.size] }
theorem zch.push {b:Bool}{h:Heap}{l:Addr}{xs:Array Value}(x:zch b h l xs)(o:Obj):zch b (h.push o) l xs:=by
 cases b
 ·obtain⟨u,hu,r⟩:h.IsTuple l xs:=x
  exact (⟨u,qd _ hu,r⟩:(h.push o).IsTuple l xs)
 ·obtain⟨u,hu,r⟩:h.IsList l xs:=x
  exact (⟨u,qd _ hu,r⟩:(h.push o).IsList l xs)
theorem zy3 (b:Bool)(l1 l2:Addr)(xs ys:Array Value) :
  Meets (Builtin.«zip.__new__» ⟨[.type "zip",.ref l1,.ref l2],[]⟩) (fun _ R s=>zch b s.heap l1 xs/\zch b s.heap l2 ys/\R (.ok (.ret (.ref (zg4 b b s.heap l1 l2).objs.size))) { s with heap:=zg5 b b s.heap l1 l2 }):=by
 cases b
 ·exact .of_wp fun prog w A R s h=>by
   obtain⟨hp,g,d,tk,os⟩:=s
   obtain⟨h1,h2,h⟩:=h
   have hsub:=sub_zip
   have q1:Heap.IsTuple (Shared.heap ⟨hp,g,d,tk,os⟩) l1 xs:=h1
   have q2:Heap.IsTuple (Shared.heap ⟨hp.push { cls:=.type "tuple_iterator",data:=.fields #[.ref l1,.int 0 0] },g,d,tk,os⟩) l2 ys:=zch.push (b:=false) h2 _
   wp_walk using wpAny_pyIter_tuple q1,wpAny_pyIter_tuple q2
   exact⟨_,rfl,h⟩
 ·exact meets_zip_new l1 l2 xs ys
theorem zsW {b:Bool}{h:Heap}{it l:Addr}(e:h.get? it=some { cls:=.type (itN b),data:=.fields #[.ref l,.int 0 0] }):zbs b h it l 0:=by
 cases b
 ·exact (⟨_,e,rfl,rfl⟩:h.IsTupleIter it l 0)
 ·exact (⟨_,e,rfl,rfl⟩:h.IsListIter it l 0)
section
variable {prog:Program}{w:World}{A:Around}{E:Value->Shared->Prop}{s:Shared}
theorem zyb {b:Bool}{l1 l2:Addr}{xs ys:Array Value}{Q:Value->Shared->Prop}(hl1:zch b s.heap l1 xs)(hl2:zch b s.heap l2 ys)
  (h:∀ h',IsZip h' (s.heap.objs.size+4) (s.heap.objs.size+2) (s.heap.objs.size+3) .none->IsPair h' (s.heap.objs.size+2) (.ref s.heap.objs.size) (.ref (s.heap.objs.size+1))->IsPair h' (s.heap.objs.size+3) .none .none->zbs b h' s.heap.objs.size l1 0->zbs b h' (s.heap.objs.size+1) l2 0 ->
   (∀ c o,s.heap.get? c=some o->h'.get? c=some o)->Q (.ref (s.heap.objs.size+4)) { s with heap:=h' }):wpAny (model prog w) A (call (.type "zip") [.ref l1,.ref l2]) Q E s:=by
 refine callType_new F.called_zip (by decide) (F.typeCall_zip_2 _ _) (F.newCall_zip_2 _ _) (fun obj=>F.args_object_init_3 obj _ _) F.entry_zip_new (zy3 b l1 l2 xs ys) ⟨hl1,hl2,?_⟩
 have s1:(zg1 b s.heap l1).objs.size=s.heap.objs.size+1:=Heap.size_push ..
 have s2:(zg2 b b s.heap l1 l2).objs.size=s.heap.objs.size+2:=by rw [Heap.size_push,s1]
 have s3:(zg3 b b s.heap l1 l2).objs.size=s.heap.objs.size+3:=by rw [Heap.size_push,s2]
 have s4:(zg4 b b s.heap l1 l2).objs.size=s.heap.objs.size+4:=by rw [Heap.size_push,s3]
 have v1:(zg5 b b s.heap l1 l2).get? s.heap.objs.size=some _:=(fun c o q=>qd _ (qd _ (qd _ (qd _ q))):∀ c o,(zg1 b s.heap l1).get? c=some o->(zg5 b b s.heap l1 l2).get? c=some o) _ _ (qp _ rfl)
 have v2:(zg5 b b s.heap l1 l2).get? (zg1 b s.heap l1).objs.size=some _:=(fun c o q=>qd _ (qd _ (qd _ q)):∀ c o,(zg2 b b s.heap l1 l2).get? c=some o->(zg5 b b s.heap l1 l2).get? c=some o) _ _ (qp _ rfl)
 have v3:(zg5 b b s.heap l1 l2).get? (zg2 b b s.heap l1 l2).objs.size=some _:=(fun c o q=>qd _ (qd _ q):∀ c o,(zg3 b b s.heap l1 l2).get? c=some o->(zg5 b b s.heap l1 l2).get? c=some o) _ _ (qp _ rfl)
 have v4:(zg5 b b s.heap l1 l2).get? (zg3 b b s.heap l1 l2).objs.size=some _:=qd _ (qp _ rfl)
 have v5:(zg5 b b s.heap l1 l2).get? (zg4 b b s.heap l1 l2).objs.size=some _:=qp _ rfl
 show _/\_
 rw [s2,s3,s4] at v5
 rw [s1,s2] at v3
 rw [s3] at v4
 rw [s1] at v2
 rw [s4]
 exact⟨⟨_,v5,rfl⟩,h _ v5 v3 v4 (zsW v1) (zsW v2) fun c o x=>qd _ (qd _ (qd _ (qd _ (qd _ x))))⟩
end
def SqB (K:PySem.W.Frag)(b:Bool)(H:Hp)(l:Addr)(xs:List V):Prop:=match b with
 | true=>SqL K H l xs
 | false=>SqT K H l xs
theorem SqB.items {X:Cx}{pins:List (Addr×Obj)}{U:L2.St}{H:Hp}{s:Shared}{b:Bool}{l:Addr}{xs:List V}(I:Inv X pins U H s)(h:SqB X.K b H l xs):∃ its:List Value,Vals xs its/\zch b s.heap l its.toArray:=by
 cases b
 ·obtain⟨its,r,p,_⟩:=I.tuple (show SqT X.K H l xs from h)
  exact⟨its,r,p⟩
 ·obtain⟨its,r,p,_⟩:=I.list (show SqL X.K H l xs from h)
  exact⟨its,r,p.isList⟩
theorem SqB.inj {X:Cx}{pins:List (Addr×Obj)}{U:L2.St}{H:Hp}{s:Shared}{b:Bool}{l:Addr}{xs ys:List V}(I:Inv X pins U H s)(h:SqB X.K b H l xs)(h':SqB X.K b H l ys):xs=ys:=by
 cases b
 ·exact I.tuple_inj (show SqT X.K H l xs from h) h'
 ·exact I.list_inj (show SqL X.K H l xs from h) h'
def zo2 (K:PySem.W.Frag)(b1 b2:Bool)(l1 l2:Addr):It :=
  ⟨fun i H=>∃ xs ys x y,SqB K b1 H l1 xs/\SqB K b2 H l2 ys/\xs[i]?=some x/\ys[i]?=some y,
   fun i H v H'=>∃ p,v=.ref p/\H p=none/\∀ xs ys x y,SqB K b1 H l1 xs->SqB K b2 H l2 ys->xs[i]?=some x->ys[i]?=some y->H'=upd H p (.tup [x,y]),
   fun i H=>∃ xs ys,SqB K b1 H l1 xs/\SqB K b2 H l2 ys/\(xs.length<=i\/ys.length<=i)⟩
theorem zqf {P:Program}{w:World}{K:PySem.W.Frag}{es:List Expr}{kk:Nat}{pos:Pos}{b1 b2:Bool}{z TI TO i1 i2 l1 l2:Addr}(D:ZipApart z TI TO i1 i2 l1 l2) :
  Turn P w K (.Tuple es kk pos) (zo2 K b1 b2 l1 l2) [z,TI,TO,i1,i2] z (fun i h=>IsZip h z TI TO .none/\IsPair h TI (.ref i1) (.ref i2)/\(∃ a b,IsPair h TO a b)/\zbs b1 h i1 l1 i/\zbs b2 h i2 l2 i) where
 mem:=by simp
 obj:=fun i h st b hb=>by
  obtain⟨hz,hTI,⟨a,c,hTO⟩,q1,q2⟩:=st
  obtain⟨o1,g1,_,_,d1⟩:=q1.obj
  obtain⟨o2,g2,_,_,d2⟩:=q2.obj
  simp only [qh,qE,or_false] at hb
  rcases hb with rfl | rfl | rfl | rfl | rfl
  ·exact⟨_,hz,fun v q=>by cases (show Data.fields _=Data.cell v from q)⟩
  ·exact⟨_,hTI,fun v q=>by cases (show Data.seq _ _=Data.cell v from q)⟩
  ·exact⟨_,hTO,fun v q=>by cases (show Data.seq _ _=Data.cell v from q)⟩
  ·exact⟨_,g1,fun v q=>by rw [d1] at q;cases q⟩
  ·exact⟨_,g2,fun v q=>by rw [d2] at q;cases q⟩
 keep:=fun i h h' st k=>by
  obtain⟨hz,hTI,⟨a,c,hTO⟩,q1,q2⟩:=st
  exact⟨k z (by simp) _ hz,k TI (by simp) _ hTI,⟨a,c,k TO (by simp) _ hTO⟩,q1.at fun o e=>k i1 (by simp) o e,q2.at fun o e=>k i2 (by simp) o e⟩
 item:=by
  intro X hP hw hK hc i pins s U H E I hf st hg
  subst hP hw hK
  obtain⟨hz,hTI,⟨a,c,hTO⟩,q1,q2⟩:=st
  obtain⟨xs,ys,x,y,hx1,hy1,hx,hy⟩:=hg
  obtain⟨its,rx,px⟩:=hx1.items I
  obtain⟨jts,ry,py⟩:=hy1.items I
  obtain⟨u,hu,ru⟩:=Vals.get rx hx
  obtain⟨v,hv,rv⟩:=Vals.get ry hy
  refine zov D hz hTI hTO q1 q2 px py (by simpa using hu) (by simpa using hv) fun h' a1 a2 a3 a4 a5 hk=>?_
  refine⟨_,rfl,wpAny_letOwnedTupleGo_zip a1 fun h'' hz'' hs''=>?_⟩
  have lt:∀ {c o},s.heap.get? c=some o->s.heap.objs.size≠c:=fun e=>Nat.ne_of_gt (qr e)
  have k2:∀ b u,b∉[z,TI,TO,i1,i2]->s.heap.get? b=some u->h''.get? b=some u:=fun b u hb e=>by
   simp only [qh,qE,or_false,not_or] at hb
   exact hs''.extBut b u hb.1 (hk b u hb.1 hb.2.2.1 hb.2.2.2.1 hb.2.2.2.2 e)
  have new:h''.get? s.heap.objs.size=some { cls:=.type "tuple",data:=.seq #[u,v] }:=hs''.extBut _ _ (lt hz) a5
  refine⟨.ref s.heap.objs.size,upd H s.heap.objs.size (.tup [x,y]),I.turnNew (t':=s.toks) hf k2 (qf _) ⟨by show 2<=sizeLine;decide,[u,v],.cons ru (.cons rv .nil),_,new,rfl,_,rfl⟩,rfl,⟨_,rfl,I.fresh,?_⟩,?_,fun b hb=>?_⟩
  ·intro xs' ys' x' y' hx1' hy1' hx' hy'
   cases hx1.inj I hx1'
   cases hy1.inj I hy1'
   rw [hx] at hx';rw [hy] at hy'
   cases hx';cases hy'
   rfl
  ·exact⟨hz'',hs''.extBut _ _ D.TIz (hk _ _ D.TIz D.TITO D.TIi1 D.TIi2 hTI),⟨_,_,hs''.extBut _ _ D.TOz a2⟩,a3.grow hs''.extBut D.i1z,a4.grow hs''.extBut D.i2z⟩
  ·have:∃ o,s.heap.get? b=some o:=by
    simp only [qh,qE,or_false] at hb
    obtain⟨o1,e1,_⟩:=q1.obj
    obtain⟨o2,e2,_⟩:=q2.obj
    rcases hb with rfl | rfl | rfl | rfl | rfl
    ·exact⟨_,hz⟩
    ·exact⟨_,hTI⟩
    ·exact⟨_,hTO⟩
    ·exact⟨_,e1⟩
    ·exact⟨_,e2⟩
   obtain⟨o,e⟩:=this
   rw [zZ (lt e).symm]
   exact (hf b hb).1
 done:=by
  intro X hP hw hK hc i pins s U H E I hf st hg
  subst hP hw hK
  obtain⟨hz,hTI,⟨a,c,hTO⟩,q1,q2⟩:=st
  obtain⟨xs,ys,hx1,hy1,hl⟩:=hg
  obtain⟨its,rx,px⟩:=hx1.items I
  obtain⟨jts,ry,py⟩:=hy1.items I
  have n1:=rx.length
  have n2:=ry.length
  refine zrp (I.ok.hd hc) D hz hTI hTO q1 q2 px py ?_ fun h' hk=>⟨rfl,I.turnedL (t':=s.toks) hf fun b u hb e=>?_⟩
  ·rcases hl with hl | hl
   ·exact .inl (by rw [List.getElem?_toArray];exact qu (by lia))
   ·exact .inr (by rw [List.getElem?_toArray];exact qu (by lia))
  ·simp only [qh,qE,or_false,not_or] at hb
   exact hk b u hb.1 hb.2.2.1 hb.2.2.2.1 hb.2.2.2.2 e
 self:=fun _ _ _ _ _ st h=>wpAny_pyIter_zip st.1 h
section
variable {X:Cx}
def zxS (K:PySem.W.Frag)(ta:TA):TI:=fun U H R=>ta U H fun vs H1=>∃ b l1 l2,vs=[.ref l1,.ref l2]/\(∃ xs,SqB K b H1 l1 xs)/\(∃ ys,SqB K b H1 l2 ys)/\R (zo2 K b b l1 l2) H1
theorem ztz {es:List Expr}{kk:Nat}{tpos:Pos}{a b:Expr}{ta:TA}{p pos:Pos}(hg:Gl X "zip")(hm:X.mg "zip"=none)(ha:PA X [a,b] ta)(hs:starEach [a,b] X.env=[(false,eval a X.env),(false,eval b X.env)]:=by rfl)(hs2:starEach [b] X.env=[(false,eval b X.env)]:=by rfl) :
    PI X (.Tuple es kk tpos) (.Call (.Name "zip" p) [a,b] [] pos) (zxS X.K ta):=by
  intro pins s U H R I h
  refine Call_ (zdT I hg hm boot_zip (PyProof.Rows.callWith_type1 (thn (ha pos pins s U H _ I h) fun us s1 ⟨vs,H1,I1,r1,q1⟩=>?_) (by rw [hs,hs2]) (by rw [hs2];rfl)))
  obtain⟨b',l1,l2,e,⟨xs,hx⟩,⟨ys,hy⟩,q⟩:=q1
  subst e
  obtain⟨u,v,rfl,ru,rv⟩:=vals2 r1
  cases ru
  cases rv
  obtain⟨its,rx,px⟩:=hx.items I1
  obtain⟨jts,ry,py⟩:=hy.items I1
  refine zyb px py fun h' hz hTI hTO h1 h2 hk=>?_
  have I2:Inv X pins U H1 { s1 with heap:=h' }:=I1.kept (t':=s1.toks) hk
  refine wpAny_pyIter_zip (s:={ s1 with heap:=h' }) hz ⟨_,_,_,_,H1,rfl,I2,zqf (PyProof.Rows.zipApart_new px.lt py.lt),⟨hz,hTI,⟨_,_,hTO⟩,h1,h2⟩,fun b hb=>?_,q⟩
  have hb':s1.heap.objs.size<=b:=by
    simp only [qh,qE,or_false] at hb
    rcases hb with rfl | rfl | rfl | rfl | rfl<;>first | exact Nat.le_add_right _ _ | exact qf _
  exact I1.fpOk hb' (I1.hok.fresh hb')
end
section
theorem zzs (l:Addr)(items:Array Value)(n:Nat)(b:Addr)(items2:Array Value)(n2:Nat)(dct:Option Addr)(sl:Array (Option Value))(hs0:¬(!items.isEmpty&&Builtin.List.listTooLong (items.size+items2.size))=true)(hs1:items.size<=sizeLine)(hs2:items.size+items2.size<=sizeLine+1) :
  Meets (Builtin.«list.extend» ⟨[.ref l,.ref b],[]⟩) (fun _ R s=>s.heap.get? l=some { cls:=.type "list",dict:=none,data:=.seq items n,slots:=#[] }/\s.heap.get? b=some { cls:=.type "tuple",dict:=dct,data:=.seq items2 n2,slots:=sl }/\R (.ok (.ret Value.none)) { s with heap:=s.heap.update l (Obj.mapSeq fun x=>x++items2),toks:=s.toks }) :=
 .of_wp fun prog w A R s h=>by
  obtain⟨hp,g,d,tk,os⟩:=s
  obtain⟨hl,hb,h⟩:=h
  have f1:=AutoSeq1.idx_int
  have f2:=AutoSeq1.sub_tuple_tuple
  have f3:=AutoSeq1.sub_list_list
  have f4:=AutoSeq1.sub_tuple_list
  have f5:=AutoSeq1.sub_list_tuple
  have hz':(items++items2).size<=sizeLine+1:=by rw [Array.size_append];exact hs2
  wp_walk using (wpAny_updateSeq hl rfl (hz:=hs1) (_hz':=hz')),wpAny_loadPart' hl,wpAny_loadPart' hb
  exact⟨_,rfl,h⟩
end
section
variable {X:Cx}
def zsK (K:PySem.W.Frag):V->List V->Hp->VK->Prop:=fun x vs H Q=>znK x vs H Q\/∃ l b xs zs,x=.ref l/\vs=[.ref b]/\H l=some (.lst xs)/\SqT K H b zs/\xs.length+zs.length<=sizeLine/\Q .non (upd H l (.lst (xs++zs)))
theorem zpv:MtM X "list.extend" (zsK X.K):=by
 intro pins s U H x vs v us Q I rx rv h
 rcases h with h | ⟨l,b,xs,zs,rfl,rfl,hH,hB,hz,q⟩
 ·exact zqn pins s U H x vs v us Q I rx rv h
 cases rx
 obtain⟨u,rfl,ru⟩:=rv.one
 cases ru
 obtain⟨z,its,n,r,hl,e⟩:=I.lstM hH
 obtain⟨its2,r2,⟨⟨c,dct,dt,sl⟩,e2,hc,n2,hd⟩,z2⟩:=I.tuple hB
 replace hc:c=.type "tuple":=hc
 replace hd:dt=.seq its2.toArray n2:=hd
 subst hc hd
 have hl2:=r2.length
 have hsz:its.toArray.size+its2.toArray.size<=sizeLine:=by rw [qm,qm];lia
 have hlong:¬ (!its.toArray.isEmpty&&Builtin.List.listTooLong (its.toArray.size+its2.toArray.size))=true:=by
  rw [zmV hsz,Bool.and_false]
  exact qq
 refine call_meets F.slot_list_extend ⟨_,e,rfl⟩ F.entry_list_extend (F.args_list_extend_2 _ _)
  (zzs l its.toArray n b its2.toArray n2 dct sl hlong (by rw [qm];lia) (by lia)) ⟨e,e2,?_⟩
 refine⟨.non,_,I.lset (its':=its++its2) hH e (by simp) (r.append r2) ?_,rfl,q⟩
 rw [qg]
 lia
end
section
variable {prog:Program}{w:World}{A:Around}{E:Value->Shared->Prop}{s:Shared}
end
section
variable {X:Cx}
end
section
variable {X:Cx}
end
section
variable {X:Cx}
end
section
variable {prog:Program}{w:World}{A:Around}{E:Value->Shared->Prop}{s:Shared}
end
section
variable {prog:Program}{w:World}{A:Around}{E:Value->Shared->Prop}{s:Shared}
end
section
variable {prog:Program}{w:World}{A:Around}{E:Value->Shared->Prop}{s:Shared}
end
section
variable {prog:Program}{w:World}{A:Around}{s:Shared}
abbrev zhc (prog:Program)(w:World)(h:Heap)(a:Addr)(c:List Str):Prop:=h.SetOf (PySem.strKind prog w) a (fun y=>c.any (·==y)) c.length
theorem zhc.at {h h':Heap}{a:Addr}{c:List Str}(x:zhc prog w h a c)(k:∀ o,h.get? a=some o->h'.get? a=some o):zhc prog w h' a c :=
 let ⟨o,es,ep,t,ho,r⟩:=x;⟨o,es,ep,t,k o ho,r⟩
theorem loopS {R:Result->Shared->Prop}{it a:Addr}{fp wr:List Addr}{G:Array GenState->Array GenState->Prop}{n:Nat}{P:Nat->Value->Prop}{St:Nat->Shared->Prop}
  (W:WalksS prog w A.in1 it fp wr G n P St) (na:a∉fp) (f:Nat->Str) (hf:∀ i v,P i v->∃ t,v=.str (f i) t) (hb:n+1<scanBound) :
  ∀ (k i:Nat) (s:Shared),n-i=k->i<=n->St i s->zhc prog w s.heap a (Dp.zc4 f i) ->
   (∀ s',Moved (a::wr) G s s'->zhc prog w s'.heap a (Dp.zc4 f n)->R (.ok (.ret .none)) s') ->
   codeAny (model prog w) A (.builtin "set.update.loop" ⟨[.ref a,.ref it],[]⟩) R s
 | 0,i,s,hk,hi,st,hS,hR=>by
  have e:i=n:=by lia
  subst e
  refine codeAny_builtin PyProof.Rows.F.entry_set_update_loop ?_
  rw [Around.under_plainId PyProof.Rows.F.plain_set_update_loop]
  show wpAny _ A.in1 (pyNext (.ref it) >>= _) _ _ _
  refine wpAny_bind (W.done s _ _ st fun s' m=>wpAny_pure (hR s' (m.mono fun b q=>qB _ q) ?_))
  exact hS.at fun o q=>m.heap a o (fun z=>na (W.sub _ z)) q
 | k+1,i,s,hk,hi,st,hS,hR=>by
  refine codeAny_builtin PyProof.Rows.F.entry_set_update_loop ?_
  rw [Around.under_plainId PyProof.Rows.F.plain_set_update_loop]
  show wpAny _ A.in1 (pyNext (.ref it) >>= _) _ _ _
  refine wpAny_bind (W.item i s _ _ (by lia) st fun v s1 pv st1 m=>?_)
  obtain⟨t,rfl⟩:=hf i v pv
  have h1:zhc prog w s1.heap a (Dp.zc4 f i):=hS.at fun o q=>m.heap a o (fun z=>na (W.sub _ z)) q
  show wpAny _ A.in1 (holding [Value.str (f i) t] (setAdd a (Value.str (f i) t)) >>= _) _ _ _
  refine wpAny_bind (wpAny_holding ?_)
  unfold setAdd
  refine wpAny_holding (wpAny_bind ((PySem.strKind prog w).pyHash (k:=f i) (strKind_is _ _ _ _) ?_))
  have room:(Dp.zc4 f i).length+1<scanBound:=by have:=Dp.zky f i;lia
  refine wpAny_setAddHashed_of (knd:=PySem.strKind prog w) (s:={ s1 with toks:=s1.toks+1 }) (strKind_is _ _ _ _) rfl h1 room fun h2 sb hS2=>?_
  have h3:zhc prog w h2 a (Dp.zc4 f (i+1)):=SetOf_congr hS2 (fun y=>(Dp.zl7 _ _ _).symm) (Dp.zjv _ _).symm
  refine wpAny_pure ⟨plainId_quiet PyProof.Rows.F.plain_set_update_loop _,loopS W na f hf hb k (i+1) _ (by lia) (by lia) (W.frame _ s1 _ _ st1 (Nat.le_succ _) fun b q o e=>?_) h3 fun s' m' hS'=>?_⟩
  ·exact (sb.2 b fun z=>na (z▸q)).trans e
  ·refine hR s' (Moved.trans W.gtrans ((m.mono fun b q=>qB _ q).then_heap (Nat.le_succ _) fun b o q e=>?_) m') hS'
   exact (sb.2 b fun z=>q (z▸List.mem_cons_self)).trans e
end
section
variable {prog:Program}{w:World}{A:Around}{E:Value->Shared->Prop}{s:Shared}
abbrev zhV (led:Bool):Obj:={ cls:=.type "set",dict:=none,data:=.set #[] 0 (.fresh 0 0 led) }
theorem zri {l:Addr}{its:Array Value}(f:Nat->Str){Q:Value->Shared->Prop}(hh:A.handled=none)(hl:s.heap.IsList l its)(hf:∀ (i:Nat) v,its[i]?=some v->∃ t,v=.str (f i) t)(hb:its.size+1<scanBound)
    (h:∀ (h':Heap) (tk:Nat),zhc prog w h' s.heap.objs.size (Dp.zc4 f its.size)->(∀ b o,b<s.heap.objs.size->s.heap.get? b=some o->h'.get? b=some o)->Q (.ref s.heap.objs.size) { s with heap:=h',toks:=tk }) :
    wpAny (model prog w) A (call (.type "set") [.ref l]) Q E s:=by
  have ft:=F.called_set
  obtain⟨c,tl,hmro⟩:=ft.mro
  have hmade:=ft.made
  have hsub:=ft.sub
  have h1:=ft.notType
  have h2:=ft.canCreate
  have hct:=F.typeCall_set_1 (.ref l)
  refine wpAny_call (codeAny_of_tree ?_)
  show wpAny _ _ (callAny (.type "set") _) _ _ s
  refine wpAny_pure ⟨Code.quiet_builtin _ (by decide +kernel),codeAny_builtin F.entry_type_call ?_⟩
  rw [Around.under_plain (weight_type_call_type "set" [Value.ref l] []) rfl]
  repeat (any_goals (first | assumption | wp_step))
  refine codeAny_mono (code_set_new_1 (.ref l) (E:=E) (Q₁:=fun v s1=>∃ led:Bool,v=.ref s.heap.objs.size/\s1={ s with heap:=s.heap.push (zhV led) }) fun led=>⟨led,rfl,rfl⟩) fun r s1 hr=>?_
  cases r with
  | error e=>exact hr
  | ok fl =>
    cases fl with
    | ret v =>
      obtain⟨led,rfl,rfl⟩:=hr
      have e0:(s.heap.push (zhV led)).get? s.heap.objs.size=some (zhV led):=qp _ rfl
      have hT:Shared.TypeIs { s with heap:=s.heap.push (zhV led) } (.ref s.heap.objs.size) "set":=⟨_,e0,rfl⟩
      have hli:=ft.init.lookup
      have hbi:=ft.init.bind (.ref s.heap.objs.size)
      repeat (any_goals (first | assumption | wp_step))
      refine codeAny_mono (codeAny_call_builtin (R:=wants (fun r s2=>r=.none/\∃ h' tk,s2={ s with heap:=h',toks:=tk }/\zhc prog w h' s.heap.objs.size (Dp.zc4 f its.size)/\∀ b o,b<s.heap.objs.size->s.heap.get? b=some o->h'.get? b=some o) E) ft.init.plain F.entry_set_init (check_set_init_1 hT ?_)) fun r2 s2 hr2=>?_
      . obtain⟨ol,hol,hcl,nl,hdl⟩:=hl
        obtain⟨ocl,odi,oda,osl⟩:=ol
        simp only at hcl hdl
        subst hcl hdl
        have hol2:(s.heap.push (zhV led)).get? l=some { cls:=.type "list",dict:=odi,data:=.seq its nl,slots:=osl }:=qd _ hol
        have k1:=F.sub_list_set
        have k2:=F.sub_list_frozenset
        have k3:(Value.type "list"==Value.type "dict")=false:=by decide
        have hl1:(s.heap.push (zhV led)).IsList l its:=⟨_,hol2,rfl,nl,rfl⟩
        unfold Builtin.«set.__init__» noKeywords Builtin.Frozenset.updateFrom
        generalize hPI:pyIter=PI
        wp_walk
        subst hPI
        refine wpAny_pyIter_list hl1 (wpAny_bind (wpAny_runValue ?_))
        have ll:l<s.heap.objs.size:=qr hol
        have n1:l≠(s.heap.push (zhV led)).objs.size:=by rw [Heap.size_push];exact qK (Nat.lt_succ_of_lt ll)
        have n2:s.heap.objs.size∉[(s.heap.push (zhV led)).objs.size,l]:=by
          rw [Heap.size_push]
          intro z
          rcases qh.mp z with z | z
          . exact qK (Nat.lt_succ_self _) z
          . exact Nat.ne_of_gt ll (List.mem_singleton.mp z)
        refine loopS ((Walks.list (show _=none by simp [hh]) _ l n1 its).toS) n2 f hf hb (its.size-0) 0 _ (by lia) (qN _) ⟨⟨_,qp _ rfl,rfl,rfl⟩,hl1.push _⟩ ?_ fun s' m hS'=>?_
        . exact SetOf_congr ((setObjOf_fresh (knd:=PySem.strKind prog w) led).setOf (qd _ e0) (by unfold scanBound;lia)) (fun _=>rfl) rfl
        . obtain⟨h',g',d',tk',os'⟩:=s'
          cases (show g'=s.gens from m.gens)
          cases (show d'=s.drawn from m.drawn)
          cases (show os'=s.os from m.os)
          show wpAny _ _ _ _ _ _
          refine wpAny_pure (wpAny_pure ⟨rfl,h',tk',rfl,hS',fun b o q e=>?_⟩)
          refine m.heap b o (fun z=>?_) (qd _ (qd _ e))
          rcases qh.mp z with z | z
          . exact qK q z
          . have z':=List.mem_singleton.mp z
            rw [Heap.size_push] at z'
            exact qK (Nat.lt_succ_of_lt q) z'
      . cases r2 with
        | error e=>exact hr2
        | ok fl2 =>
          cases fl2 with
          | ret r =>
            obtain⟨rfl,h',tk,rfl,hS',kp⟩:=hr2
            repeat (any_goals (first | assumption | wp_step))
            exact h _ _ hS' kp
          | _=>exact hr2.elim
    | _=>exact hr.elim
end
def zx6 (K:PySem.W.Frag)(ta:TA):TE:=fun U H Q=>ta U H fun vs H1=>∃ l,∃ zs:List Str,vs=[.ref l]/\SqL K H1 l (zs.map V.str)/\zs.length<=4000/\Q (.int (Dp.zc4 (fun i=>zs.getD i Str.empty) zs.length).length) H1
theorem zmp:∀ {zs:List Str} {us:List Value},Vals (zs.map V.str) us->∀ (i:Nat) v,us[i]?=some v->∃ t,v=.str (zs.getD i Str.empty) t
 | [],_,.nil,i,v,e=>by simp at e
 | z::zs,_,.cons r t,0,v,e=>by
  obtain⟨t,rfl⟩:=r
  simp at e
  exact⟨t,e.symm⟩
 | z::zs,_,.cons r t,i+1,v,e=>by
  obtain⟨t,h⟩:=zmp t i v (by simpa using e)
  exact⟨t,by rw [h];simp⟩
theorem zuL {X:Cx}{a:Expr}{ta:TA}{p1 p2 pos1 pos2:Pos}(hc:X.calm=true)(hgl:Gl X "len")(hml:X.mg "len"=none)(hgr:Gl X "set")(hmr:X.mg "set"=none)(ha:PA X [a] ta)
  (hs:starEach [a] X.env=[(false,eval a X.env)]:=by rfl)
  (hs3:starEach [.Call (.Name "set" p2) [a] [] pos2] X.env=[(false,eval (.Call (.Name "set" p2) [a] [] pos2) X.env)]:=by rfl) :
  PE X (.Call (.Name "len" p1) [.Call (.Name "set" p2) [a] [] pos2] [] pos1) (zx6 X.K ta):=by
 intro pins s U H Q I h
 refine Call_ (zdT I hgl hml boot_len (PyProof.Rows.callWith_builtin1 ?_ (by rw [hs3];rfl) (by rfl)))
 rw [hs3]
 show wpAny _ _ (spliced ((false,eval (.Call (.Name "set" p2) [a] [] pos2) X.env)::backTo pos1 [])) _ _ s
 refine Calls.spliced_cons (Call_ (zdT I hgr hmr boot_set (PyProof.Rows.callWith_type1 (thn (ha pos2 pins s U H _ I h) fun us s1 ⟨vs,H1,I1,r1,q1⟩=>?_) hs rfl)))
 obtain⟨l,zs,e,hx,h4,q⟩:=q1
 subst e
 obtain⟨u,rfl,ru⟩:=vals1 r1
 cases ru
 obtain⟨its,rx,px,zx⟩:=I1.list hx
 have sz:its.toArray.size=zs.length:=by rw [qm,<- rx.length,qb]
 refine zri (fun i=>zs.getD i Str.empty) (show _=none from I1.ok.hd hc) px.isList (fun i v e=>zmp rx i v (by simpa using e)) (by rw [sz];unfold scanBound;lia) fun h' tk hS kp=>Calls.spliced_nil ?_
 rw [sz] at hS
 have le:=Dp.zky (fun i=>zs.getD i Str.empty) zs.length
 obtain⟨o,es,ep,t,ho,hex,hd,_,_,_,hf,hn⟩:=hS
 refine call_len_set ho hex hd hf (by lia) ?_
 rw [hn]
 exact⟨.int _,H1,I1.kept (t':=tk+1+1) (fun b o q=>kp b o (qr q) q),⟨_,rfl⟩,q⟩
end My
namespace Dp
open PySem PySem.Spec PyProof.Rows L2 My
def isStar:Expr->Bool
 | .Starred _ _=>true
 | _=>false
theorem zbA {e:Expr}{es:List Expr}{env:Env}(h:isStar e=false):starEach (e::es) env=(false,eval e env)::starEach es env:=by
  cases e<;>first | rfl | cases h
theorem zdH {pos:Pos}{env:Env}:∀ {es:List Expr},es.all (fun e=>!isStar e)=true->(backTo pos (starEach es env)).any (·.1)=false
 | [],_=>rfl
 | e::es,h=>by
  rw [List.all_cons,qH] at h
  rw [zbA (by simpa using h.1)]
  show (false||(backTo pos (starEach es env)).any (·.1))=false
  rw [zdH h.2];rfl
theorem zee {e:Expr}{env:Env}(h:isStar e=false):starEach [e] env=[(false,eval e env)]:=zbA h
theorem zmU {e g:Expr}{env:Env}(h:isStar e=false)(k:isStar g=false):starEach [e,g] env=[(false,eval e env),(false,eval g env)]:=by rw [zbA h,zee k]
def zjg (K:PySem.W.Frag)(H:Hp)(a:Addr)(xs:List V):Prop :=
 (∃ o,H a=some (.frz o (.lst xs)))\/∃ (o:Obj) (its:Array Value) (n:Nat),K.lookup a=some o/\o.cls=.type "list"/\o.dict=none/\o.data=.seq its n/\its.size<=sizeLine/\Vals xs its.toList
theorem zjg.sq {K:PySem.W.Frag}{H:Hp}{a:Addr}{xs:List V}(h:zjg K H a xs):SqL K H a xs:=h.imp (fun h=>.inr h) id
mutual
inductive Rel (K:PySem.W.Frag)(ad:List Addr)(H:Hp):D->V->Prop
 | non:Rel K ad H .non .non
 | bl (b:Bool):Rel K ad H (.bl b) (.bl b)
 | int (i:Int):Rel K ad H (.int i) (.int i)
 | str (x:Str):Rel K ad H (.str x) (.str x)
 | ty (n:String):Rel K ad H (.ty n) (.ty n)
 | tup {a:Addr} {vs:List V} {ds:List D}:H a=some (.tup vs)->zK K ad H ds vs->Rel K ad H (.tup ds) (.ref a)
 | rl {a:Addr} {vs:List V} {ds:List D}:zjg K H a vs->zK K ad H ds vs->Rel K ad H (.rl ds) (.ref a)
 | ref {n:Nat} {a:Addr}:ad[n]?=some a->Rel K ad H (.ref n) (.ref a)
 | exn {c:Str} {a C:Addr} {o:Obj} {u:HO}:H a=some (.frz o u)->o.cls=.ref C->PySem.W.nsIn K mainGlobals c=some (some (.ref C))->Rel K ad H (.exn c) (.ref a)
inductive zK (K:PySem.W.Frag)(ad:List Addr)(H:Hp):List D->List V->Prop
 | nil:zK K ad H [] []
 | cons {d:D} {v:V} {ds:List D} {vs:List V}:Rel K ad H d v->zK K ad H ds vs->zK K ad H (d::ds) (v::vs)
end
structure Wd (ad:List Addr)(H:Hp)(ad':List Addr)(H':Hp):Prop where
 pre:ad <+: ad'
 keep:∀ b o,b∉ad->H b=some o->H' b=some o
 tup:∀ b xs,H b=some (.tup xs)->H' b=some (.tup xs)
 frz:∀ b o u,H b=some (.frz o u)->H' b=some (.frz o u)
 new:∀ b,b∈ad'->b∉ad->H b=none
theorem Wd.refl {ad:List Addr}{H:Hp}:Wd ad H ad H:=⟨List.prefix_refl _,fun _ _ _ h=>h,fun _ _ h=>h,fun _ _ _ h=>h,fun _ h n=>absurd h n⟩
theorem Wd.trans {ad ad1 ad2:List Addr}{H H1 H2:Hp}(a:Wd ad H ad1 H1)(b:Wd ad1 H1 ad2 H2):Wd ad H ad2 H2 where
 pre:=a.pre.trans b.pre
 keep:=fun c o hc h=>b.keep c o (fun h1=>by rw [a.new c h1 hc] at h;cases h) (a.keep c o hc h)
 tup:=fun c xs h=>b.tup c xs (a.tup c xs h)
 frz:=fun c o u h=>b.frz c o u (a.frz c o u h)
 new:=fun c h2 hc=>by
  by_cases h1:c∈ad1
  ·exact a.new c h1 hc
  ·have n1:=b.new c h2 h1
   cases e:H c with
   | none=>rfl
   | some o=>rw [a.keep c o hc e] at n1;cases n1
theorem zk2 {α:Type}{l l':List α}(h:l <+: l'){n:Nat}{a:α}(e:l[n]?=some a):l'[n]?=some a:=by
 obtain⟨t,rfl⟩:=h
 rw [qj (My.za1 e)];exact e
structure Wr (ad:List Addr)(H:Hp)(ad':List Addr)(H':Hp):Prop where
 pre:ad <+: ad'
 tup:∀ b xs,H b=some (.tup xs)->H' b=some (.tup xs)
 frz:∀ b o u,H b=some (.frz o u)->H' b=some (.frz o u)
theorem Wd.wr {ad ad':List Addr}{H H':Hp}(w:Wd ad H ad' H'):Wr ad H ad' H':=⟨w.pre,w.tup,w.frz⟩
theorem zjg.wr {K:PySem.W.Frag}{ad ad':List Addr}{H H':Hp}{a:Addr}{xs:List V}(w:Wr ad H ad' H')(h:zjg K H a xs):zjg K H' a xs:=h.imp (fun⟨o,e⟩=>⟨o,w.frz _ _ _ e⟩) id
mutual
theorem Rel.wr {K:PySem.W.Frag}{ad ad':List Addr}{H H':Hp}(w:Wr ad H ad' H'):∀ {d:D} {v:V},Rel K ad H d v->Rel K ad' H' d v
 | _,_,.non=>.non
 | _,_,.bl b=>.bl b
 | _,_,.int i=>.int i
 | _,_,.str x=>.str x
 | _,_,.ty n=>.ty n
 | _,_,.tup h r=>.tup (w.tup _ _ h) (zK.wr w r)
 | _,_,.rl h r=>.rl (h.wr w) (zK.wr w r)
 | _,_,.ref h=>.ref (zk2 w.pre h)
 | _,_,.exn h e n=>.exn (w.frz _ _ _ h) e n
theorem zK.wr {K:PySem.W.Frag}{ad ad':List Addr}{H H':Hp}(w:Wr ad H ad' H'):∀ {ds:List D} {vs:List V},zK K ad H ds vs->zK K ad' H' ds vs
 | _,_,.nil=>.nil
 | _,_,.cons r t=>.cons (Rel.wr w r) (zK.wr w t)
end
theorem Rel.wd {K:PySem.W.Frag}{ad ad':List Addr}{H H':Hp}{d:D}{v:V}(r:Rel K ad H d v)(w:Wd ad H ad' H'):Rel K ad' H' d v:=Rel.wr w.wr r
theorem zK.wd {K:PySem.W.Frag}{ad ad':List Addr}{H H':Hp}{ds:List D}{vs:List V}(r:zK K ad H ds vs)(w:Wd ad H ad' H'):zK K ad' H' ds vs:=zK.wr w.wr r
section
variable {K:PySem.W.Frag}{ad:List Addr}{H:Hp}
theorem zK.length:∀ {ds:List D} {vs:List V},zK K ad H ds vs->ds.length=vs.length
  | _,_,.nil=>rfl
  | _,_,.cons _ t=>congrArg (· + 1) (zK.length t)
theorem zK.get:∀ {ds:List D} {vs:List V} {i:Nat} {d:D},zK K ad H ds vs->ds[i]?=some d->∃ v,vs[i]?=some v/\Rel K ad H d v
 | _,_,_,_,.nil,e=>by simp at e
 | _,_,0,_,.cons r _,e=>by simp at e;subst e;exact⟨_,rfl,r⟩
 | _,_,i+1,d,.cons _ t,e=>by
  obtain⟨v,h1,h2⟩:=zK.get (i:=i) (d:=d) t (by simpa using e)
  exact⟨v,by simpa using h1,h2⟩
theorem zK.append:∀ {ds es:List D} {vs us:List V},zK K ad H ds vs->zK K ad H es us->zK K ad H (ds++es) (vs++us)
 | _,_,_,_,.nil,s=>s
 | _,_,_,_,.cons r t,s=>.cons r (zK.append t s)
theorem zK.take:∀ {ds:List D} {vs:List V} (n:Nat),zK K ad H ds vs->zK K ad H (ds.take n) (vs.take n)
 | _,_,0,_=>.nil
 | _,_,_+1,.nil=>.nil
 | _,_,n+1,.cons r t=>.cons r (zK.take n t)
theorem zK.drop:∀ {ds:List D} {vs:List V} (n:Nat),zK K ad H ds vs->zK K ad H (ds.drop n) (vs.drop n)
 | _,_,0,r=>r
 | _,_,_+1,.nil=>.nil
 | _,_,n+1,.cons _ t=>zK.drop n t
theorem zK.set {d:D}{v:V}(r:Rel K ad H d v):∀ {ds:List D} {vs:List V} (i:Nat),zK K ad H ds vs->zK K ad H (ds.set i d) (vs.set i v)
 | _,_,_,.nil=>.nil
 | _,_,0,.cons _ t=>.cons r t
 | _,_,i+1,.cons q t=>.cons q (zK.set r i t)
theorem zK.ints:∀ {ns:List Int} {vs:List V},zK K ad H (ns.map D.int) vs->vs=ns.map V.int
 | [],_,.nil=>rfl
 | n::ns,_,.cons r t=>by cases r;rw [zK.ints t];rfl
theorem zK.bls:∀ {ns:List Bool} {vs:List V},zK K ad H (ns.map D.bl) vs->vs=ns.map V.bl
 | [],_,.nil=>rfl
 | n::ns,_,.cons r t=>by cases r;rw [zK.bls t];rfl
theorem zK.mk_ints:∀ (ns:List Int),zK K ad H (ns.map D.int) (ns.map V.int)
 | []=>.nil
 | n::ns=>.cons (.int n) (zK.mk_ints ns)
end
inductive zaT (K:PySem.W.Frag)(ad:List Addr)(H:Hp):List (Str×D)->List (Str×V)->Prop
 | nil:zaT K ad H [] []
 | cons {f:Str} {d:D} {v:V} {fs:List (Str×D)} {vs:List (Str×V)}:Rel K ad H d v->zaT K ad H fs vs->zaT K ad H ((f,d)::fs) ((f,v)::vs)
theorem zaT.wr {K:PySem.W.Frag}{ad ad':List Addr}{H H':Hp}(w:Wr ad H ad' H'):∀ {fs:List (Str×D)} {vs:List (Str×V)},zaT K ad H fs vs->zaT K ad' H' fs vs
 | _,_,.nil=>.nil
 | _,_,.cons r t=>.cons (Rel.wr w r) (zaT.wr w t)
theorem zaT.look {K:PySem.W.Frag}{ad:List Addr}{H:Hp}{f:Str}:∀ {fs:List (Str×D)} {vs:List (Str×V)} {d:D},zaT K ad H fs vs->fs.lookup f=some d->∃ v,vs.lookup f=some v/\Rel K ad H d v
 | _,_,d,.nil,e=>by simp at e
 | _,_,d,@zaT.cons _ _ _ g x v fs vs r t,e=>by
  rw [qk] at e ⊢
  cases h:f==g with
  | true=>rw [h] at e;cases e;exact⟨v,rfl,r⟩
  | false=>rw [h] at e;exact zaT.look t e
theorem zaT.put {K:PySem.W.Frag}{ad:List Addr}{H:Hp}{f:Str}{d:D}{v:V}(rd:Rel K ad H d v):∀ {fs:List (Str×D)} {vs:List (Str×V)},zaT K ad H fs vs->zaT K ad H (putD f d fs) (zb0 f v vs)
 | _,_,.nil=>.cons rd .nil
 | _,_,@zaT.cons _ _ _ g x u fs vs r t=>by
  show zaT K ad H (if g=f then (g,d)::fs else (g,x)::putD f d fs) (if g=f then (g,v)::vs else (g,u)::zb0 f v vs)
  by_cases h:g=f
  ·rw [if_pos h,if_pos h];exact .cons rd t
  ·rw [if_neg h,if_neg h];exact .cons r (zaT.put rd t)
theorem zaT.length {K:PySem.W.Frag}{ad:List Addr}{H:Hp}:∀ {fs:List (Str×D)} {vs:List (Str×V)},zaT K ad H fs vs->fs.length=vs.length
  | _,_,.nil=>rfl
  | _,_,.cons _ t=>congrArg (· + 1) (zaT.length t)
theorem zl1 {f:Str}{d:D}{q:Str×D}:∀ {fs:List (Str×D)},q∈putD f d fs->q.1=f\/q∈fs
 | [],h=>by
  have:q=(f,d):=by simpa [putD] using h
  subst this;exact .inl rfl
 | (g,x)::fs,h=>by
  have h:q∈if g=f then (g,d)::fs else (g,x)::putD f d fs:=h
  by_cases e:g=f
  ·rw [if_pos e] at h
   rcases qh.mp h with rfl | h
   ·exact .inl e
   ·exact .inr (qB _ h)
  ·rw [if_neg e] at h
   rcases qh.mp h with rfl | h
   ·exact .inr (by simp)
   ·exact (zl1 h).imp id (qB _)
theorem zmL {f:Str}{d:D}:∀ {fs:List (Str×D)},fs.lookup f=some d->∃ q∈fs,q.1=f
 | [],e=>by simp at e
 | (g,x)::fs,e=>by
  rw [qk] at e
  cases h:f==g with
  | true=>exact⟨(g,x),by simp,(eq_of_beq h).symm⟩
  | false =>
   rw [h] at e
   obtain⟨q,hq,e'⟩:=zmL e
   exact⟨q,qB _ hq,e'⟩
inductive RelK (K:PySem.W.Frag)(ad:List Addr)(H:Hp):List (Str×D)->List (Key×V)->Prop
 | nil:RelK K ad H [] []
 | cons {x:Str} {d:D} {v:V} {fs:List (Str×D)} {vs:List (Key×V)}:Rel K ad H d v->RelK K ad H fs vs->RelK K ad H ((x,d)::fs) ((.inr x,v)::vs)
inductive zaG (K:PySem.W.Frag)(ad:List Addr)(H:Hp):List (List Key×D)->List (List Key×V)->Prop
 | nil:zaG K ad H [] []
 | cons {x:List Key} {d:D} {v:V} {fs:List (List Key×D)} {vs:List (List Key×V)}:Rel K ad H d v->zaG K ad H fs vs->zaG K ad H ((x,d)::fs) ((x,v)::vs)
theorem RelK.wr {K:PySem.W.Frag}{ad ad':List Addr}{H H':Hp}(w:Wr ad H ad' H'):∀ {fs:List (Str×D)} {vs:List (Key×V)},RelK K ad H fs vs->RelK K ad' H' fs vs
 | _,_,.nil=>.nil
 | _,_,.cons r t=>.cons (Rel.wr w r) (RelK.wr w t)
theorem zaG.wr {K:PySem.W.Frag}{ad ad':List Addr}{H H':Hp}(w:Wr ad H ad' H'):∀ {fs:List (List Key×D)} {vs:List (List Key×V)},zaG K ad H fs vs->zaG K ad' H' fs vs
 | _,_,.nil=>.nil
 | _,_,.cons r t=>.cons (Rel.wr w r) (zaG.wr w t)
def zcF (K:PySem.W.Frag)(ad:List Addr)(H:Hp)(a:Addr):Cell->Prop
 | .lst ds=>∃ vs,H a=some (.lst vs)/\zK K ad H ds vs
 | .ins c fs=>∃ C dx vs,H a=some (.ins C dx vs)/\Cls K C/\PySem.W.nsIn K mainGlobals c=some (some (.ref C))/\zaT K ad H fs vs/\∀ q∈fs,zat K C q.1
 | .dk kvs=>∃ vs,H a=some (.dK vs)/\RelK K ad H kvs vs
 | .dt kvs=>∃ vs,H a=some (.dT vs)/\zaG K ad H kvs vs
class Bs where
 ad:List Addr
 H:Hp
structure zQ [B:Bs](K:PySem.W.Frag)(ad:List Addr)(H:Hp)(S:Sto):Prop where
 wd:Wd B.ad B.H ad H
 len:ad.length=S.length
 nd:ad.Nodup
 cell:∀ (n:Nat) (a:Addr) (c:Cell),ad[n]?=some a->S[n]?=some c->zcF K ad H a c
structure zaI (K:PySem.W.Frag)(ad:List Addr)(H:Hp)(Z:Rho)(U:L2.St):Prop where
 len:Z.length=U.length
 val:∀ (i:Nat) (d:D),Z[i]?=some (some d)->∃ v,U[i]?=some (some v)/\Rel K ad H d v
theorem zaI.wd {K:PySem.W.Frag}{ad ad':List Addr}{H H':Hp}{Z:Rho}{U:L2.St}(h:zaI K ad H Z U)(w:Wd ad H ad' H'):zaI K ad' H' Z U :=
 ⟨h.len,fun i d e=>let ⟨v,e',r⟩:=h.val i d e;⟨v,e',r.wd w⟩⟩
variable [B:Bs]
section
variable {K:PySem.W.Frag}{ad:List Addr}{H:Hp}{S:Sto}
theorem zQ.get (st:zQ K ad H S){n:Nat}{c:Cell}(h:S[n]?=some c):∃ a,ad[n]?=some a/\zcF K ad H a c:=by
 have hn:n<ad.length:=by rw [st.len];exact My.za1 h
 exact⟨ad[n],qc hn,st.cell n _ c (qc hn) h⟩
theorem zcF.some {a:Addr}{c:Cell}(h:zcF K ad H a c):∃ o,H a=some o:=by
 cases c with
 | lst ds=>obtain⟨vs,e,_⟩:=h;exact⟨_,e⟩
 | ins c fs=>obtain⟨C,dx,vs,e,_⟩:=h;exact⟨_,e⟩
 | dk kvs=>obtain⟨vs,e,_⟩:=h;exact⟨_,e⟩
 | dt kvs=>obtain⟨vs,e,_⟩:=h;exact⟨_,e⟩
theorem zQ.there (st:zQ K ad H S){a:Addr}(h:a∈ad):∃ o,H a=some o:=by
 obtain⟨n,hn,e⟩:=qR.mp h
 have e':ad[n]?=some a:=by rw [qc hn,e]
 have hs:n<S.length:=by rw [<- st.len];exact hn
 exact (st.cell n a S[n] e' (qc hs)).some
theorem zQ.fresh (st:zQ K ad H S){l:Addr}(h:H l=none):l∉ad:=fun m=>by
 obtain⟨o,e⟩:=st.there m
 rw [h] at e;cases e
theorem zcF.wr {ad':List Addr}{H':Hp}{a:Addr}{c:Cell}(h:zcF K ad H a c)(w:Wr ad H ad' H')(same:H' a=H a):zcF K ad' H' a c:=by
 cases c with
 | lst ds=>obtain⟨vs,e,r⟩:=h;exact⟨vs,same.trans e,zK.wr w r⟩
 | ins c fs=>obtain⟨C,dx,vs,e,c1,c2,r,n⟩:=h;exact⟨C,dx,vs,same.trans e,c1,c2,zaT.wr w r,n⟩
 | dk kvs=>obtain⟨vs,e,r⟩:=h;exact⟨vs,same.trans e,RelK.wr w r⟩
 | dt kvs=>obtain⟨vs,e,r⟩:=h;exact⟨vs,same.trans e,zaG.wr w r⟩
theorem zcF.wd {ad':List Addr}{H':Hp}{a:Addr}{c:Cell}(h:zcF K ad H a c)(w:Wd ad H ad' H')(same:H' a=H a):zcF K ad' H' a c:=h.wr w.wr same
theorem Wd.laid {l:Addr}{o:HO}(h:H l=none):Wd ad H ad (upd H l o) :=
 ⟨List.prefix_refl _,fun b u _ e=>zex h e,fun b u e=>zex h e,fun b u w e=>zex h e,fun _ m n=>absurd m n⟩
theorem zQ.bfree (st:zQ K ad H S){p:Addr}(h:H p=none):B.H p=none:=by
 cases e:B.H p with
 | none=>rfl
 | some o =>
  by_cases m:p∈B.ad
  ·obtain⟨u,hu⟩:=st.there (st.wd.pre.subset m)
   rw [h] at hu;cases hu
  ·rw [st.wd.keep p o m e] at h;cases h
theorem zQ.laid (st:zQ K ad H S){l:Addr}{o:HO}(h:H l=none):zQ K ad (upd H l o) S :=
 ⟨st.wd.trans (Wd.laid h),st.len,st.nd,fun n a c e1 e2=>(st.cell n a c e1 e2).wd (Wd.laid h) (by
  obtain⟨u,e⟩:=(st.cell n a c e1 e2).some
  rw [zex h e,e])⟩
theorem Wd.newL (st:zQ K ad H S){l:Addr}{o:HO}(h:H l=none):Wd ad H (ad++[l]) (upd H l o) :=
 ⟨List.prefix_append _ _,fun b u _ e=>zex h e,fun b u e=>zex h e,fun b u w e=>zex h e,fun b m n=>by
  rcases qF.mp m with m | m
  ·exact absurd m n
  ·have:b=l:=by simpa using m
   subst this;exact h⟩
theorem zQ.newL (st:zQ K ad H S){l:Addr}{vs:List V}{ds:List D}(h:H l=none)(r:zK K ad H ds vs):zQ K (ad++[l]) (upd H l (.lst vs)) (S++[.lst ds]) where
 wd:=st.wd.trans (Wd.newL st h)
 len:=by rw [qg,qg,st.len];rfl
 nd:=by
  rw [List.nodup_append]
  refine⟨st.nd,by simp,fun a ha b hb e=>?_⟩
  have:b=l:=by simpa using hb
  subst this;subst e
  exact st.fresh h ha
 cell:=fun n a c e1 e2=>by
  by_cases hn:n<ad.length
  ·rw [qj hn] at e1
   rw [qj (by rw [<- st.len];exact hn)] at e2
   have ok:=st.cell n a c e1 e2
   obtain⟨u,e⟩:=ok.some
   exact ok.wd (Wd.newL st h) (by rw [zex h e,e])
  ·have hn':ad.length<=n:=Nat.le_of_not_lt hn
   rw [qi hn'] at e1
   rw [qi (by rw [<- st.len];exact hn'),<- st.len] at e2
   cases hk:n-ad.length with
   | zero =>
    rw [hk] at e1 e2
    have e1':l=a:=by simpa using e1
    have e2':Cell.lst ds=c:=by simpa using e2
    subst e1' e2'
    exact⟨vs,zav,r.wd (Wd.newL st h)⟩
   | succ k=>rw [hk] at e1;simp at e1
theorem zQ.newRef (st:zQ K ad H S){l:Addr}{o:HO}:Rel K (ad++[l]) (upd H l o) (.ref S.length) (.ref l):=.ref (by rw [<- st.len,qi (qf _),Nat.sub_self];rfl)
theorem Wd.put {n:Nat}{a:Addr}{vs ws:List V}(e:ad[n]?=some a)(h:H a=some (.lst vs)):Wd ad H ad (upd H a (.lst ws)) :=
 ⟨List.prefix_refl _,fun b u hb q=>by
   have:b≠a:=fun z=>hb (by rw [z];exact qe e)
   rw [zZ this];exact q,
  fun b xs q=>by rw [zZ (zeU q h (by intro z;cases z))];exact q,fun b o u q=>by rw [zZ (zeU q h (by intro z;cases z))];exact q,fun _ m n=>absurd m n⟩
theorem zQ.put (st:zQ K ad H S){n:Nat}{a:Addr}{vs ws:List V}{ds:List D}(e:ad[n]?=some a)(h:H a=some (.lst vs))(r:zK K ad H ds ws):zQ K ad (upd H a (.lst ws)) (S.set n (.lst ds)) where
 wd:=st.wd.trans (Wd.put e h)
 len:=by rw [List.length_set];exact st.len
 nd:=st.nd
 cell:=fun m b c e1 e2=>by
  have w:=Wd.put (ws:=ws) e h
  by_cases hm:m=n
  ·subst hm
   rw [e] at e1;cases e1
   rw [qL (by rw [<- st.len];exact My.za1 e)] at e2
   cases e2
   exact⟨ws,zav,r.wd w⟩
  ·rw [List.getElem?_set_ne (Ne.symm hm)] at e2
   have ne:b≠a:=fun z=>by
    subst z
    have h1:=My.za1 e1
    have h2:=My.za1 e
    have q1:=(qO.mp e1).2
    have q2:=(qO.mp e).2
    exact hm ((List.getElem_inj st.nd).mp (q1.trans q2.symm))
   exact (st.cell m b c e1 e2).wd w (zZ ne)
theorem zQ.newI (st:zQ K ad H S){x dx C:Addr}{c:Str}(h:H x=none)(h2:H dx=none)(hne:dx≠x)(hc:Cls K C)(hn:PySem.W.nsIn K mainGlobals c=some (some (.ref C))) :
  Wd ad H (ad++[x]) (upd (upd H dx (.own x)) x (.ins C dx []))/\zQ K (ad++[x]) (upd (upd H dx (.own x)) x (.ins C dx [])) (S++[.ins c []]):=by
 have st1:=st.laid (o:=.own x) h2
 have hx:upd H dx (.own x) x=none:=by rw [zZ (Ne.symm hne)];exact h
 have w1:Wd ad H ad (upd H dx (.own x)):=Wd.laid h2
 have w2:Wd ad (upd H dx (.own x)) (ad++[x]) (upd (upd H dx (.own x)) x (.ins C dx [])):=Wd.newL st1 hx
 refine⟨w1.trans w2,st.wd.trans (w1.trans w2),?_,?_,fun n a c' e1 e2=>?_⟩
 ·rw [qg,qg,st.len];rfl
 ·rw [List.nodup_append]
  refine⟨st.nd,by simp,fun a ha b hb e=>?_⟩
  have:b=x:=by simpa using hb
  subst this;subst e
  exact st.fresh h ha
 ·by_cases hn':n<ad.length
  ·rw [qj hn'] at e1
   rw [qj (by rw [<- st.len];exact hn')] at e2
   have ok:=st1.cell n a c' e1 e2
   obtain⟨u,e⟩:=ok.some
   exact ok.wd w2 (by rw [zex hx e,e])
  ·have hn':ad.length<=n:=Nat.le_of_not_lt hn'
   rw [qi hn'] at e1
   rw [qi (by rw [<- st.len];exact hn'),<- st.len] at e2
   cases hk:n-ad.length with
   | zero =>
    rw [hk] at e1 e2
    have e1':x=a:=by simpa using e1
    have e2':Cell.ins c []=c':=by simpa using e2
    subst e1' e2'
    exact⟨C,dx,[],zav,hc,hn,.nil,fun q hq=>by cases hq⟩
   | succ k=>rw [hk] at e1;simp at e1
theorem Wd.putI {n:Nat}{a C dx C' dx':Addr}{vs ws:List (Str×V)}(e:ad[n]?=some a)(h:H a=some (.ins C dx vs)):Wd ad H ad (upd H a (.ins C' dx' ws)) :=
 ⟨List.prefix_refl _,fun b u hb q=>by
   have:b≠a:=fun z=>hb (by rw [z];exact qe e)
   rw [zZ this];exact q,
  fun b xs q=>by rw [zZ (zeU q h (by intro z;cases z))];exact q,fun b o u q=>by rw [zZ (zeU q h (by intro z;cases z))];exact q,fun _ m n=>absurd m n⟩
theorem zQ.putI (st:zQ K ad H S){n:Nat}{a C dx:Addr}{c f:Str}{vs:List (Str×V)}{fs:List (Str×D)}{d:D}{v:V}(e:ad[n]?=some a)(h:H a=some (.ins C dx vs))(hc:Cls K C)(hn:PySem.W.nsIn K mainGlobals c=some (some (.ref C)))(rf:zaT K ad H fs vs)(hna:∀ q∈fs,zat K C q.1)(hf:zat K C f)(r:Rel K ad H d v) :
  zQ K ad (upd H a (.ins C dx (zb0 f v vs))) (S.set n (.ins c (putD f d fs))) where
 wd:=st.wd.trans (Wd.putI e h)
 len:=by rw [List.length_set];exact st.len
 nd:=st.nd
 cell:=fun m b c' e1 e2=>by
  have w:Wd ad H ad (upd H a (.ins C dx (zb0 f v vs))):=Wd.putI e h
  by_cases hm:m=n
  ·subst hm
   rw [e] at e1;cases e1
   rw [qL (by rw [<- st.len];exact My.za1 e)] at e2
   cases e2
   refine⟨C,dx,_,zav,hc,hn,zaT.wr w.wr (zaT.put r rf),fun q hq=>?_⟩
   rcases zl1 hq with h1 | h1
   ·rw [h1];exact hf
   ·exact hna q h1
  ·rw [List.getElem?_set_ne (Ne.symm hm)] at e2
   have ne:b≠a:=fun z=>by
    subst z
    have q1:=(qO.mp e1).2
    have q2:=(qO.mp e).2
    exact hm ((List.getElem_inj st.nd).mp (q1.trans q2.symm))
   exact (st.cell m b c' e1 e2).wd w (zZ ne)
theorem Wd.hid {ad':List Addr}{H':Hp}{p:Addr}{o:HO}(w:Wd ad H ad' H')(hp:H p=none):Wd ad H ad' (upd H' p o) :=
 ⟨w.pre,fun b u hb q=>by rw [zZ (zbx q hp)];exact w.keep b u hb q,fun b u q=>by rw [zZ (zbx q hp)];exact w.tup b u q,fun b u v q=>by rw [zZ (zbx q hp)];exact w.frz b u v q,w.new⟩
theorem Wr.hid {p:Addr}{vs ws:List V}(h:H p=some (.lst vs)):Wr ad H ad (upd H p (.lst ws)) :=
 ⟨List.prefix_refl _,fun b xs q=>by rw [zZ (zeU q h (by intro z;cases z))];exact q,fun b o u q=>by rw [zZ (zeU q h (by intro z;cases z))];exact q⟩
theorem zQ.hid (st:zQ K ad H S){p:Addr}{vs ws:List V}(h:H p=some (.lst vs))(hp:p∉ad)(hb:B.H p=none):zQ K ad (upd H p (.lst ws)) S :=
 ⟨st.wd.hid hb,st.len,st.nd,fun n a c e1 e2=>(st.cell n a c e1 e2).wr (Wr.hid h) (zZ fun z=>hp (by rw [<- z];exact qe e1))⟩
theorem Wd.add {ad':List Addr}{H':Hp}{p:Addr}(w:Wd ad H ad' H')(hp:H p=none):Wd ad H (ad'++[p]) H' :=
 ⟨w.pre.trans (List.prefix_append _ _),w.keep,w.tup,w.frz,fun b m n=>by
  rcases qF.mp m with m | m
  ·exact w.new b m n
  ·have:b=p:=by simpa using m
   subst this;exact hp⟩
theorem zQ.add (st:zQ K ad H S){p:Addr}{vs:List V}{ds:List D}(h:H p=some (.lst vs))(hp:p∉ad)(r:zK K ad H ds vs)(hb:B.H p=none):zQ K (ad++[p]) H (S++[.lst ds]) where
 wd:=st.wd.add hb
 len:=by rw [qg,qg,st.len];rfl
 nd:=by
  rw [List.nodup_append]
  refine⟨st.nd,by simp,fun a ha b hb e=>?_⟩
  have:b=p:=by simpa using hb
  subst this;subst e
  exact hp ha
 cell:=fun n a c e1 e2=>by
  have w:Wr ad H (ad++[p]) H:=⟨List.prefix_append _ _,fun _ _ q=>q,fun _ _ _ q=>q⟩
  by_cases hn:n<ad.length
  ·rw [qj hn] at e1
   rw [qj (by rw [<- st.len];exact hn)] at e2
   exact (st.cell n a c e1 e2).wr w rfl
  ·have hn':ad.length<=n:=Nat.le_of_not_lt hn
   rw [qi hn'] at e1
   rw [qi (by rw [<- st.len];exact hn'),<- st.len] at e2
   cases hk:n-ad.length with
   | zero =>
    rw [hk] at e1 e2
    have e1':p=a:=by simpa using e1
    have e2':Cell.lst ds=c:=by simpa using e2
    subst e1' e2'
    exact⟨vs,h,zK.wr w r⟩
   | succ k=>rw [hk] at e1;simp at e1
theorem Lst.sq (st:zQ K ad H S){x:D}{xs:List D}{v:V}(h:Lst S x xs)(r:Rel K ad H x v):∃ a vs,v=.ref a/\SqL K H a vs/\zK K ad H xs vs:=by
 rcases h with rfl | ⟨n,rfl,h⟩
 ·cases r with
  | rl h r=>exact⟨_,_,rfl,h.sq,r⟩
 ·cases r with
  | ref e =>
   obtain⟨vs,e2,r⟩:=st.cell n _ _ e h
   exact⟨_,vs,rfl,SqL.of e2,r⟩
theorem zeP.sq (st:zQ K ad H S){x:D}{xs:List D}{v:V}(h:zeP S x xs)(r:Rel K ad H x v):∃ a vs,v=.ref a/\(SqL K H a vs\/SqT K H a vs)/\zK K ad H xs vs:=by
 rcases h with rfl | h
 ·cases r with
  | tup h r=>exact⟨_,_,rfl,.inr (SqT.of h),r⟩
 ·obtain⟨a,vs,e,s,r⟩:=Lst.sq st h r
  exact⟨a,vs,e,.inl s,r⟩
end
omit B in
theorem el8 {a b c d:Type}{p1 p2 p3 p4:a->b->c->d->Prop}{R:Prop}(h:∃ (x:a) (y:b) (z:c) (w:d),p1 x y z w/\p2 x y z w/\p3 x y z w/\p4 x y z w)(f:∀ (x:a) (y:b) (z:c) (w:d),p1 x y z w->p2 x y z w->p3 x y z w->p4 x y z w->R):R :=
 Exists.elim h fun x h=>Exists.elim h fun y h=>Exists.elim h fun z h=>Exists.elim h fun w h=>f x y z w h.1 h.2.1 h.2.2.1 h.2.2.2
def KK (K:PySem.W.Frag)(ad:List Addr)(H:Hp)(Q0:DK)(Q:VK):Prop:=∀ d S' v H' ad',Q0 d S'->Wd ad H ad' H'->zQ K ad' H' S'->Rel K ad' H' d v->Q v H'
theorem KK.wd {K:PySem.W.Frag}{ad ad':List Addr}{H H':Hp}{Q0:DK}{Q:VK}(k:KK K ad H Q0 Q)(w:Wd ad H ad' H'):KK K ad' H' Q0 Q:=fun d S' v H' ad' q w'=>k d S' v H' ad' q (w.trans w')
def up (K:PySem.W.Frag)(t:DE):TE:=fun U H Q=>∃ ad Z S Q0,zQ K ad H S/\zaI K ad H Z U/\t Z S Q0/\KK K ad H Q0 Q
def upT (K:PySem.W.Frag)(t:DT):TT:=fun U H Q=>∃ ad Z S Q0,zQ K ad H S/\zaI K ad H Z U/\t Z S Q0/\∀ b S' H' ad',Q0 b S'->Wd ad H ad' H'->zQ K ad' H' S'->Q b H'
def upA (K:PySem.W.Frag)(t:DA):TA:=fun U H Q=>∃ ad Z S Q0,zQ K ad H S/\zaI K ad H Z U/\t Z S Q0/\∀ ds S' vs H' ad',Q0 ds S'->Wd ad H ad' H'->zQ K ad' H' S'->zK K ad' H' ds vs->Q vs H'
theorem zQ.base {K:PySem.W.Frag}{ad:List Addr}{H:Hp}{S:Sto}(st:zQ K ad H S):@zQ ⟨ad,H⟩ K ad H S:=@zQ.mk ⟨ad,H⟩ _ _ _ _ Wd.refl st.len st.nd st.cell
theorem zQ.back {K:PySem.W.Frag}{ad ad':List Addr}{H H':Hp}{S S':Sto}(st:zQ K ad H S)(st':@zQ ⟨ad,H⟩ K ad' H' S'):zQ K ad' H' S' :=
 ⟨st.wd.trans (@zQ.wd ⟨ad,H⟩ _ _ _ _ st'),@zQ.len ⟨ad,H⟩ _ _ _ _ st',@zQ.nd ⟨ad,H⟩ _ _ _ _ st',@zQ.cell ⟨ad,H⟩ _ _ _ _ st'⟩
theorem KK.base {K:PySem.W.Frag}{ad:List Addr}{H:Hp}{S:Sto}{Q0:DK}{Q:VK}(st:zQ K ad H S)(k:KK K ad H Q0 Q):@KK ⟨ad,H⟩ K ad H Q0 Q:=fun d S' v H' ad' q w st' r=>k d S' v H' ad' q w (st.back st') r
def upF (K:PySem.W.Frag)(f:DSp):Sp:=fun vs H Q _=>∃ ad S ds Q0,@zQ ⟨ad,H⟩ K ad H S/\zK K ad H ds vs/\f ds S Q0/\@KK ⟨ad,H⟩ K ad H Q0 Q
structure zj9 (K:PySem.W.Frag)(ad:List Addr)(H:Hp)(E0:zo1)(E:Ends):Prop where
 nx:∀ Z S U H' ad',E0.nx Z S->Wd ad H ad' H'->zQ K ad' H' S->zaI K ad' H' Z U->E.nx U H'
 rt:KK K ad H E0.rt E.rt
 bk:∀ Z S U H' ad',E0.bk Z S->Wd ad H ad' H'->zQ K ad' H' S->zaI K ad' H' Z U->E.bk U H'
 ct:∀ Z S U H' ad',E0.ct Z S->Wd ad H ad' H'->zQ K ad' H' S->zaI K ad' H' Z U->E.ct U H'
theorem zj9.wd {K:PySem.W.Frag}{ad ad':List Addr}{H H':Hp}{E0:zo1}{E:Ends}(k:zj9 K ad H E0 E)(w:Wd ad H ad' H'):zj9 K ad' H' E0 E :=
 ⟨fun Z S U H' ad' q w'=>k.nx Z S U H' ad' q (w.trans w'),k.rt.wd w,fun Z S U H' ad' q w'=>k.bk Z S U H' ad' q (w.trans w'),fun Z S U H' ad' q w'=>k.ct Z S U H' ad' q (w.trans w')⟩
def upS (K:PySem.W.Frag)(t:DS):TS:=fun E U H=>∃ ad Z S E0,zQ K ad H S/\zaI K ad H Z U/\t E0 Z S/\zj9 K ad H E0 E
@[irreducible] def PD (X:Cx)(e:Expr)(t:DE):Prop:=PE X e (up X.K t)
@[irreducible] def PTD (X:Cx)(e:Expr)(t:DT):Prop:=PT X e (upT X.K t)
@[irreducible] def PWD (X:Cx)(e:Expr)(t:DT):Prop:=PW X e (upT X.K t)
@[irreducible] def PAD (X:Cx)(es:List Expr)(t:DA):Prop:=PA X es (upA X.K t)
@[irreducible] def PSD (X:Cx)(st:Stmt)(t:DS):Prop:=PS X st (upS X.K t)
@[irreducible] def zfY (X:Cx)(st:List Stmt)(t:DS):Prop:=PSs X st (upS X.K t)
theorem ztu {X:Cx}{e:Expr}{t t':TE}(h:PE X e t)(m:∀ U H Q,t' U H Q->t U H Q):PE X e t':=fun pins s U H Q I q=>h pins s U H Q I (m U H Q q)
theorem zir {X:Cx}{e:Expr}{t t':TT}(h:PT X e t)(m:∀ U H Q,t' U H Q->t U H Q):PT X e t':=fun pins s U H Q I q=>h pins s U H Q I (m U H Q q)
theorem znO {X:Cx}{e:Expr}{t t':TT}(h:PW X e t)(m:∀ U H Q,t' U H Q->t U H Q):PW X e t':=fun wh pins s U H Q I q=>h wh pins s U H Q I (m U H Q q)
theorem znU {X:Cx}{e:List Expr}{t t':TA}(h:PA X e t)(m:∀ U H Q,t' U H Q->t U H Q):PA X e t':=fun pos pins s U H Q I q=>h pos pins s U H Q I (m U H Q q)
theorem zbC {X:Cx}{st:Stmt}{t t':TS}(h:PS X st t)(m:∀ D U H,t' D U H->t D U H):PS X st t':=fun pins s U H D I q=>h pins s U H D I (m D U H q)
theorem zl5 {X:Cx}{st:List Stmt}{t t':TS}(h:PSs X st t)(m:∀ D U H,t' D U H->t D U H):PSs X st t':=fun pins s U H D I q=>h pins s U H D I (m D U H q)
section
variable {X:Cx}{a b c:Expr}{ta tb tc:DE}{pos:Pos}
theorem zaS {e:Expr}{t:TE}{d:DE}(h:PE X e t)(m:∀ U H Q,up X.K d U H Q->t U H Q):PD X e d:=by with_unfolding_all exact (ztu h m)
theorem zxj {e:Expr}{i:Nat}(h:PE X e (zvd i)):PD X e (zf i):=by with_unfolding_all exact (zaS h fun U H Q ⟨ad,Z,S,Q0,st,rh,⟨d,e,q⟩,k⟩=>by
 obtain⟨v,ev,r⟩:=rh.val i d e
 exact⟨v,ev,k d S v H ad q Wd.refl st r⟩)
theorem zh1 {e:Expr}{v:V}{d:D}(h:PE X e (tC v))(r:∀ ad H,Rel X.K ad H d v):PD X e (dC d):=by with_unfolding_all exact (zaS h fun U H Q hh=>el8 hh fun ad Z S Q0 st rh q k=>k d S v H ad q Wd.refl st (r _ _))
theorem zy {i j}:PD X (.Constant (.int i) j pos) (dC (.int i)):=by with_unfolding_all exact (zh1 zm3 fun _ _=>.int i)
theorem zfD {b j}:PD X (.Constant (.bool b) j pos) (dC (.bl b)):=by with_unfolding_all exact (zh1 zxG fun _ _=>.bl b)
theorem zeH {j}:PD X (.Constant .none j pos) (dC .non):=by with_unfolding_all exact (zh1 zw0 fun _ _=>.non)
theorem zdq {x j}:PD X (.Constant (.str x) j pos) (dC (.str x)):=by with_unfolding_all exact (zh1 zvb fun _ _=>.str x)
theorem zo9 {x:Str}{T:String}(hg:Gl X x)(hm:X.mg x=none)(hv:bootBuiltins x=some (.type T))(hn:x≠"__name__":=by decide)(hd:(x==("__debug__":Str))=false:=by decide):PD X (.Name x pos) (dC (.ty T)):=by with_unfolding_all exact (zh1 (zx9 hg hm hv hn hd) fun _ _=>.ty T)
theorem zL {x:Str}{n:Int}(hg:Gl X x)(hm:∃ t,X.mg x=some (.int n t))(hd:(x==("__debug__":Str))=false:=by decide):PD X (.Name x pos) (dC (.int n)):=by with_unfolding_all exact (zh1 (zt3 hg hm hd) fun _ _=>.int n)
theorem zuo {x z:Str}(hg:Gl X x)(hm:∃ t,X.mg x=some (.str z t))(hd:(x==("__debug__":Str))=false:=by decide):PD X (.Name x pos) (dC (.str z)):=by with_unfolding_all exact (zh1 (by obtain⟨t,hm⟩:=hm;exact znW (v:=.str z) hg hm ⟨t,rfl⟩ hd) fun _ _=>.str z)
theorem zbj {i j:Int}{m n:Nat}{p1 p2:Pos}(c:Int)(h:i ^ j.toNat=c)(h0:0<=j/\j<=1000000/\i.natAbs<2 ^ 64):PD X (.BinOp (.Constant (.int i) m p1) .Pow (.Constant (.int j) n p2) pos) (dC (.int c)):=by with_unfolding_all exact (zh1 (zuG c h h0) fun _ _=>.int c)
def OD (K:PySem.W.Frag)(r':DR2)(r:R2):Prop:=∀ ad H S x y v u Q0 Q,zQ K ad H S->Rel K ad H x v->Rel K ad H y u->r' x y S Q0->KK K ad H Q0 Q->r v u H Q
theorem zkc {K:PySem.W.Frag}{r':DR2}{r:R2}(o:OD K r' r){U:L2.St}{H:Hp}{Q:VK}(h:up K (dOp r' ta tb) U H Q):tOp r (up K ta) (up K tb) U H Q:=by
 obtain⟨ad,Z,S,Q0,st,rh,q,k⟩:=h
 refine⟨ad,Z,S,_,st,rh,q,fun x S1 v H1 ad1 q1 w1 st1 r1=>?_⟩
 refine⟨ad1,Z,S1,_,st1,rh.wd w1,q1,fun y S2 u H2 ad2 q2 w2 st2 r2=>?_⟩
 exact o ad2 H2 S2 x y v u Q0 Q st2 (r1.wd w2) r2 q2 (k.wd (w1.trans w2))
theorem zjB {op:Operator}{r':DR2}{r:R2}(ho:OpR X (binaryOp op) r)(o:OD X.K r' r)(ha:PD X a ta)(hb:PD X b tb):PD X (.BinOp a op b pos) (dOp r' ta tb):=by with_unfolding_all exact (zaS (ztj ho ha hb) fun _ _ _=>zkc o)
theorem zpp {K:PySem.W.Frag}{C C':Int->Int->Prop}{g:Int->Int->D}{g':Int->Int->V}(hc:∀ i j,C i j->C' i j)(hg:∀ ad H i j,Rel K ad H (g i j) (g' i j)):OD K (oI C g) (rI C' g'):=fun ad H S x y v u Q0 Q st rx ry ⟨i,j,ex,ey,c,q⟩ k=>by
 subst ex ey
 cases rx
 cases ry
 exact⟨i,j,rfl,rfl,hc i j c,k _ S _ H ad q Wd.refl st (hg ad H i j)⟩
theorem zlK {K:PySem.W.Frag}{g:Int->Int->D}{g':Int->Int->V}(hg:∀ ad H i j,Rel K ad H (g i j) (g' i j)):OD K (oI0 g) (rI0 g'):=fun ad H S x y v u Q0 Q st rx ry ⟨i,j,ex,ey,q⟩ k=>by
 subst ex ey
 cases rx
 cases ry
 exact⟨i,j,rfl,rfl,k _ S _ H ad q Wd.refl st (hg ad H i j)⟩
theorem zqz {i:Int}(h:i.natAbs<2 ^ 64):-(2 ^ 64)<i/\i<2 ^ 64:=⟨by lia,by lia⟩
def zyH (i j:Int):Prop:=zaL i j
theorem ztN:OpR X (binaryOp .Mult) (rI zyH fun i j=>.int (i*j)):=opI fun i j _ _ _ _ _ hc q=>by
 rcases hc with h | h | h
 ·exact mul_int q (IntMulOk.of_bits (zjM h.1) (zjM h.2))
 ·exact mul_int q (zo3.ok (.inl (zqz h)))
 ·exact mul_int q (zo3.ok (.inr (zqz h)))
theorem zae (ha:PD X a ta)(hb:PD X b tb):PD X (.BinOp a .Sub b pos) (dOp zap ta tb):=by with_unfolding_all exact (zjB zu9 (zlK fun _ _ i j=>.int (i-j)) ha hb)
theorem zwR {z:Str}{n:Int}(hz:z.length<=1000)(h0:-1000<=n)(h1:n<=1000):MulOk z n:=by
 refine⟨?_,fun _ _=>?_,fun h _=>?_⟩
 ·rw [decide_eq_false (by lia),decide_eq_false (by lia)];rfl
 ·have:(1000:Int)<=(2 ^ 63-1)/n\/n<1:=by
   rcases Int.lt_or_le n 1 with g | g
   ·exact .inr g
   ·exact .inl ((Int.le_ediv_iff_mul_le (by lia)).mpr (by lia))
  lia
 ·have:z.length*n.toNat<=1000*1000:=Nat.mul_le_mul hz (by lia)
  have hs:z.length*n.toNat<=sizeLine:=Nat.le_trans this (by decide)
  first
   | exact decide_eq_false (by lia)
   | (unfold tooLong;exact decide_eq_false (by lia))
   | simp [tooLong];lia
theorem zt9:OpR X (binaryOp .Mult) (fun x y H Q=>∃ z n,x=.str z/\y=.int n/\MulOk z n/\Q (.str (Txt.mul z n)) H):=by
 intro pins s U H x y v u Q I rx ry h
 obtain⟨z,n,rfl,rfl,ok,q⟩:=h
 obtain⟨t,rfl⟩:=rx
 obtain⟨t',rfl⟩:=ry
 exact SB.mul ok fun t' k=>⟨.str (Txt.mul z n),H,I.tok _,⟨_,rfl⟩,q⟩
omit B in
theorem zog {i:Int}(h:Hg i):Builtin.Int.intBits i<=2 ^ 20:=by
 unfold Hg at h
 exact intBits_le h
omit B in
theorem ztO {i:Int}(h:Builtin.Int.intBits i<=2 ^ 20):Hg i:=by
 unfold Hg
 exact qD (natAbs_lt_pow_bits i) (Nat.pow_le_pow_right (by decide) h)
theorem ztB:OpR X (binaryOp .Mult) (rI (fun i j=>Hg i/\Hg j) fun i j=>.int (i*j)):=opI fun i j _ _ _ _ _ hc q=>mul_int q (IntMulOk.of_bits (zog hc.1) (zog hc.2))
theorem zaJ (ha:PD X a ta)(hb:PD X b tb):PD X (.BinOp a .Mult b pos) (dOp zbo ta tb):=by with_unfolding_all exact (zjB (ztN.or (zt9.or ztB)) (fun ad H S x y v u Q0 Q st rx ry h k=>by
 rcases h with h | ⟨z,n,rfl,rfl,hz,h0,h1,q⟩ | h
 ·exact .inl (zpp (fun _ _ h=>h) (fun _ _ i j=>.int (i*j)) ad H S x y v u Q0 Q st rx ry h k)
 ·cases rx
  cases ry
  exact .inr (.inl ⟨z,n,rfl,rfl,zwR hz h0 h1,k _ S _ H ad q Wd.refl st (.str _)⟩)
 ·exact .inr (.inr (zpp (fun _ _ h=>h) (fun _ _ i j=>.int (i*j)) ad H S x y v u Q0 Q st rx ry h k))) ha hb)
theorem zaQ (ha:PD X a ta)(hb:PD X b tb):PD X (.BinOp a .FloorDiv b pos) (dOp oDiv ta tb):=by with_unfolding_all exact (zjB zse (zpp (fun _ _ h=>h) fun _ _ i j=>.int (i.fdiv j)) ha hb)
theorem zas (ha:PD X a ta)(hb:PD X b tb):PD X (.BinOp a .Mod b pos) (dOp oMod ta tb):=by with_unfolding_all exact (zjB ztx (zpp (fun _ _ h=>h) fun _ _ i j=>.int (i.fmod j)) ha hb)
theorem zdw {n:Nat}(h:n<=big):n<=sizeLine:=Nat.le_trans h (by decide)
theorem zjN {n:Nat}(h:n<big):n<sizeLine:=qD h (by decide)
theorem zgq {K:PySem.W.Frag}{ad:List Addr}{H:Hp}{S:Sto}{Q0:DK}{Q:VK}{ds:List D}{vs:List V}(st:zQ K ad H S)(k:KK K ad H Q0 Q)(r:zK K ad H ds vs)(q:Q0 (.ref S.length) (S++[.lst ds]))(l:Addr)(h:H l=none):Q (.ref l) (upd H l (.lst vs)) :=
 k _ _ _ _ _ q (Wd.newL st h) (st.newL h r) st.newRef
theorem zjE {K:PySem.W.Frag}{ad:List Addr}{H:Hp}{S:Sto}{Q0:DK}{Q:VK}{ds:List D}{vs:List V}(st:zQ K ad H S)(k:KK K ad H Q0 Q)(r:zK K ad H ds vs)(q:Q0 (.tup ds) S)(l:Addr)(h:H l=none):Q (.ref l) (upd H l (.tup vs)) :=
 k _ _ _ _ _ q (Wd.laid h) (st.laid h) (.tup zav (r.wd (Wd.laid h)))
theorem zaa (ha:PD X a ta)(hb:PD X b tb):PD X (.BinOp a .Add b pos) (dOp zal ta tb):=by with_unfolding_all exact (zjB (zwk.or ((zsz rfl).or ((zuF rfl).or zpf))) (fun ad H S x y v u Q0 Q st rx ry h k=>by
  rcases h with ⟨i,j,rfl,rfl,q⟩ | ⟨xs,ys,rfl,rfl,hz,q⟩ | ⟨xs,ys,hx,hy,hz,q⟩ | ⟨i,j,rfl,rfl,hz,q⟩
  ·cases rx
   cases ry
   exact .inl ⟨i,j,rfl,rfl,k _ S _ H ad q Wd.refl st (.int _)⟩
  ·cases rx with
   | tup h1 r1 =>
    cases ry with
    | tup h2 r2 =>
     have l1:=r1.length
     have l2:=r2.length
     refine .inr (.inl ⟨_,_,_,_,rfl,rfl,SqT.of h1,SqT.of h2,by rw [<- l1,<- l2];exact zdw hz,fun e=>?_,fun _ e=>?_,fun _ _ p hp=>zjE st k (r1.append r2) q p hp⟩)
     ·have e':xs=[]:=List.length_eq_zero_iff.mp (by rw [l1,e];rfl)
      subst e'
      exact k _ S _ H ad q Wd.refl st (.tup h2 r2)
     ·have e':ys=[]:=List.length_eq_zero_iff.mp (by rw [l2,e];rfl)
      subst e'
      rw [List.append_nil] at q
      exact k _ S _ H ad q Wd.refl st (.tup h1 r1)
  ·obtain⟨a1,vs1,rfl,s1,r1⟩:=hx.sq st rx
   obtain⟨a2,vs2,rfl,s2,r2⟩:=hy.sq st ry
   exact .inr (.inr (.inl ⟨_,_,_,_,rfl,rfl,s1,s2,by rw [<- r1.length,<- r2.length];exact zdw hz,fun p hp=>zgq st k (r1.append r2) q p hp⟩))
  ·cases rx
   cases ry
   exact .inr (.inr (.inr ⟨i,j,rfl,rfl,zdw hz,k _ S _ H ad q Wd.refl st (.str _)⟩))) ha hb)
theorem za0 (ha:PD X a ta):PD X (.UnaryOp .USub a pos) (dUn zb2 ta):=by with_unfolding_all exact (zaS (zxE zvY ha) fun U H Q hh=>el8 hh fun ad Z S Q0 st rh q k=>by
 refine⟨ad,Z,S,_,st,rh,q,fun x S1 v H1 ad1 q1 w1 st1 r1=>?_⟩
 obtain⟨i,rfl,q1⟩:=q1
 cases r1
 exact⟨i,rfl,k _ _ _ _ _ q1 w1 st1 (.int _)⟩)
def OC (X:Cx)(op:CmpOp)(r':DR2):Prop:=∃ r,OpR X (compareOp op) r/\OD X.K r' r
theorem zbi:OC X .Lt oLt:=⟨_,zyf,zlK fun _ _ _ _=>.bl _⟩
theorem zdx:OC X .LtE oLe:=⟨_,zx2,zlK fun _ _ _ _=>.bl _⟩
theorem zcz:OC X .Gt oGt:=⟨_,zyk,zlK fun _ _ _ _=>.bl _⟩
mutual
def pyD:D->PyData
 | .non=>.none
 | .bl b=>.bool b
 | .int i=>.int i
 | .str x=>.str x
 | .tup xs=>.tuple (zaE xs)
 | .ref _=>.none
 | .ty _=>.none
 | .rl _=>.none
 | .exn _=>.none
def zaE:List D->List PyData
 | []=>[]
 | x::xs=>pyD x::zaE xs
end
section
variable {pins:List (Addr×Obj)}{U:L2.St}{H:Hp}{s:Shared}{ad:List Addr}
theorem zfl (I:Inv X pins U H s)(k:Nat)(h1:∀ d v u,fl k d=true->Rel X.K ad H d v->RelV v u->∃ as,Reads s.heap u (pyD d) as):∀ ds vs us,ds.all (fl k)=true->zK X.K ad H ds vs->Vals vs us->∃ as,ReadsAll s.heap us (zaE ds) as:=by
 intro ds
 induction ds with
 | nil=>intro vs us _ r rv;cases r;cases rv;exact⟨_,.nil⟩
 | cons d ds ih =>
  intro vs us hf r rv
  rw [List.all_cons,qH] at hf
  cases r with
  | cons r t =>
   cases rv with
   | cons q qt =>
    obtain⟨as,ra⟩:=h1 d _ _ hf.1 r q
    obtain⟨bs,rb⟩:=ih _ _ hf.2 t qt
    exact⟨_,.cons ra rb⟩
theorem zcS (I:Inv X pins U H s):∀ (k:Nat) (d:D) (v:V) (u:Value),fl k d=true->Rel X.K ad H d v->RelV v u->∃ as,Reads s.heap u (pyD d) as:=by
 intro k
 induction k with
 | zero =>
  intro d v u hf r q
  cases r with
  | non=>cases q;exact⟨_,.none⟩
  | bl b=>cases q;exact⟨_,.bool b⟩
  | int i=>obtain⟨t,rfl⟩:=q;exact⟨_,.int i t⟩
  | str x=>obtain⟨t,rfl⟩:=q;exact⟨_,.str x t⟩
  | ty n=>cases hf
  | tup h r=>cases hf
  | rl h r=>cases hf
  | ref h=>cases hf
  | exn _ _ _=>cases hf
 | succ k ih =>
  intro d v u hf r q
  cases r with
  | non=>cases q;exact⟨_,.none⟩
  | bl b=>cases q;exact⟨_,.bool b⟩
  | int i=>obtain⟨t,rfl⟩:=q;exact⟨_,.int i t⟩
  | str x=>obtain⟨t,rfl⟩:=q;exact⟨_,.str x t⟩
  | ty n=>cases hf
  | tup h r =>
   cases q
   obtain⟨its,rv,ht,hz⟩:=I.tuple (SqT.of h)
   obtain⟨o,ho,hc,n,hd⟩:=ht
   obtain⟨as,ra⟩:=zfl I k ih _ _ _ hf r rv
   exact⟨_,.tuple ho hc hd (by simpa using ra)⟩
  | rl h r=>cases hf
  | ref h=>cases hf
  | exn _ _ _=>cases hf
end
theorem zgu:∀ (k:Nat) (d:D),fl k d=true->(pyD d).canLay0=true/\(pyD d).depth<=k:=by
 have all:∀ k,(∀ d,fl k d=true->(pyD d).canLay0=true/\(pyD d).depth<=k)->∀ ds:List D,ds.all (fl k)=true->PyData.canLayAll0 (zaE ds)=true/\PyData.depthAll (zaE ds)<=k:=by
  intro k h ds
  induction ds with
  | nil=>intro _;exact⟨rfl,qN _⟩
  | cons d ds ih =>
   intro hf
   rw [List.all_cons,qH] at hf
   obtain⟨a1,a2⟩:=h d hf.1
   obtain⟨b1,b2⟩:=ih hf.2
   refine⟨?_,?_⟩
   ·show (PyData.canLay0 (pyD d)&&PyData.canLayAll0 (zaE ds))=true
    rw [a1,b1];rfl
   ·show max (PyData.depth (pyD d)) (PyData.depthAll (zaE ds))<=k
    exact Nat.max_le.mpr ⟨a2,b2⟩
 intro k
 induction k with
 | zero =>
  intro d hf
  cases d with
  | non=>exact⟨rfl,qN _⟩
  | bl b=>exact⟨rfl,qN _⟩
  | int i=>exact⟨rfl,qN _⟩
  | str x=>exact⟨hf,qN _⟩
  | tup xs=>cases hf
  | ref n=>cases hf
  | exn _=>cases hf
  | ty n=>cases hf
  | rl xs=>cases hf
 | succ k ih =>
  intro d hf
  cases d with
  | non=>exact⟨rfl,qN _⟩
  | bl b=>exact⟨rfl,qN _⟩
  | int i=>exact⟨rfl,qN _⟩
  | str x=>exact⟨hf,qN _⟩
  | tup xs =>
   obtain⟨h1,h2⟩:=all k ih xs hf
   refine⟨h1,?_⟩
   show PyData.depthAll (zaE xs)+1<=k+1
   lia
  | ref n=>cases hf
  | exn _=>cases hf
  | ty n=>cases hf
  | rl xs=>cases hf
theorem zeF (k:Nat):∀ ds:List D,ds.all (fl k)=true->PyData.canLayAll0 (zaE ds)=true/\PyData.depthAll (zaE ds)<=k:=by
 intro ds
 induction ds with
 | nil=>intro _;exact⟨rfl,qN _⟩
 | cons d ds ih =>
  intro hf
  rw [List.all_cons,qH] at hf
  obtain⟨a1,a2⟩:=zgu k d hf.1
  obtain⟨b1,b2⟩:=ih hf.2
  refine⟨?_,?_⟩
  ·show (PyData.canLay0 (pyD d)&&PyData.canLayAll0 (zaE ds))=true
   rw [a1,b1];rfl
  ·show max (PyData.depth (pyD d)) (PyData.depthAll (zaE ds))<=k
   exact Nat.max_le.mpr ⟨a2,b2⟩
mutual
theorem zlV:∀ (k:Nat) (x y:D),fl k x=true->fl k y=true->PyData.eqv (pyD x) (pyD y)=eqv x y
  | k,.non,y,_,hy=>by cases y<;>first | rfl | (cases k<;>cases hy)
  | k,.bl a,y,_,hy=>by cases y<;>first | rfl | (cases k<;>cases hy)
  | k,.int i,y,_,hy=>by
    cases y with
    | int j=>show (i==j)=decide (i=j);rw [Bool.beq_eq_decide_eq]
    | ref n=>cases k<;>cases hy
    | exn n=>cases k<;>cases hy
    | ty n=>cases k<;>cases hy
    | rl n=>cases k<;>cases hy
    | _=>rfl
  | k,.str a,y,_,hy=>by cases y<;>first | rfl | (cases k<;>cases hy)
  | 0,.tup xs,y,hx,_=>by cases hx
  | k+1,.tup xs,y,hx,hy=>by
    cases y with
    | tup ys=>exact zfG k xs ys hx hy
    | ref n=>cases hy
    | ty n=>cases hy
    | rl n=>cases hy
    | _=>rfl
  | k,.ref n,y,hx,_=>by cases k<;>cases hx
  | k,.ty n,y,hx,_=>by cases k<;>cases hx
  | k,.rl n,y,hx,_=>by cases k<;>cases hx
  | k,.exn n,y,hx,_=>by cases k<;>cases hx
theorem zfG:∀ (k:Nat) (xs ys:List D),xs.all (fl k)=true->ys.all (fl k)=true->PyData.eqvAll (zaE xs) (zaE ys)=eqvAll xs ys
  | k,[],[],_,_=>rfl
  | k,[],y::ys,_,_=>rfl
  | k,x::xs,[],_,_=>rfl
  | k,x::xs,y::ys,hx,hy=>by
    rw [List.all_cons,qH] at hx hy
    show (PyData.eqv (pyD x) (pyD y)&&PyData.eqvAll (zaE xs) (zaE ys))=(eqv x y&&eqvAll xs ys)
    rw [zlV k x y hx.1 hy.1,zfG k xs ys hx.2 hy.2]
end
def zep (xss:List (List D)):List PyData:=xss.map fun zs=>.list (zaE zs)
theorem zmJ:∀ xss:List (List D),zgE xss=true->PyData.canLayAll0 (zep xss)=true/\PyData.depthAll (zep xss)<=21
 | [],_=>⟨rfl,qN _⟩
 | zs::xss,h=>by
  unfold zgE at h
  rw [List.all_cons,qH] at h
  obtain⟨a1,a2⟩:=zeF 20 zs h.1
  obtain⟨b1,b2⟩:=zmJ xss h.2
  refine⟨?_,?_⟩
  ·show (PyData.canLayAll0 (zaE zs)&&PyData.canLayAll0 (zep xss))=true
   rw [a1,b1];rfl
  ·show max (PyData.depthAll (zaE zs)+1) (PyData.depthAll (zep xss))<=21
   exact Nat.max_le.mpr ⟨by lia,b2⟩
theorem zrr:∀ xss yss:List (List D),zgE xss=true->zgE yss=true->PyData.eqvAll (zep xss) (zep yss)=eqvAll (xss.map D.tup) (yss.map D.tup)
 | [],[],_,_=>rfl
 | [],_::_,_,_=>rfl
 | _::_,[],_,_=>rfl
 | zs::xss,ws::yss,h,k=>by
  unfold zgE at h k
  rw [List.all_cons,qH] at h k
  show (PyData.eqvAll (zaE zs) (zaE ws)&&PyData.eqvAll (zep xss) (zep yss))=(eqvAll zs ws&&eqvAll (xss.map D.tup) (yss.map D.tup))
  rw [zfG 20 zs ws h.1 k.1,zrr xss yss h.2 k.2]
theorem zju {pins:List (Addr×Obj)}{U:L2.St}{H:Hp}{s:Shared}{ad:List Addr}{S:Sto}(I:Inv X pins U H s)(st:zQ X.K ad H S):∀ (xs:List D) (xss:List (List D)) (vs:List V) (us:List Value),zjL S xs xss->zgE xss=true->zK X.K ad H xs vs->Vals vs us->∃ as,ReadsAll s.heap us (zep xss) as
 | [],[],_,_,_,_,r,rv=>by cases r;cases rv;exact⟨_,.nil⟩
 | [],_::_,_,_,h,_,_,_=>h.elim
 | _::_,[],_,_,h,_,_,_=>h.elim
 | x::xs,zs::xss,_,_,h,f,r,rv=>by
  unfold zgE at f
  rw [List.all_cons,qH] at f
  cases r with
  | cons r t =>
   obtain⟨a1,vs1,rfl,s1,r1⟩:=h.1.sq st r
   cases rv with
   | cons q qt =>
    cases q
    obtain⟨its,rv1,ht,hz⟩:=I.list s1
    obtain⟨o,ho,hc,n,hd⟩:=ht.isList
    obtain⟨as,ra⟩:=zfl I 20 (zcS I 20) _ _ _ f.1 r1 rv1
    obtain⟨bs,rb⟩:=zju I st xs xss _ _ h.2 f.2 t qt
    exact⟨_,.cons (.list ho hc hd (by simpa using ra)) rb⟩
def zwL (X:Cx)(g:Bool->Bool):R2:=fun x y H Q=>∃ ad S dx dy b,zQ X.K ad H S/\Rel X.K ad H dx x/\Rel X.K ad H dy y/\EqD S dx dy b/\Q (.bl (g b)) H
theorem zln {pins:List (Addr×Obj)}{U:L2.St}{H:Hp}{s:Shared}{ad:List Addr}{S:Sto}{dx dy:D}{x y:V}{v u:Value}{b:Bool}(I:Inv X pins U H s)(st:zQ X.K ad H S)(rx:Rel X.K ad H dx x)(ry:Rel X.K ad H dy y)(qx:RelV x v)(qy:RelV y u)(h:EqD S dx dy b) :
  ∃ px py as bs,Reads s.heap v px as/\Reads s.heap u py bs/\px.canLay0=true/\py.canLay0=true/\min px.depth py.depth<=60/\PyData.eqv px py=b:=by
 rcases h with ⟨fx,fy,rfl⟩ | ⟨xs,ys,hx,hy,fx,fy,rfl⟩ | ⟨xs,ys,xss,yss,hx,hy,lx,ly,fx,fy,rfl⟩
 ·obtain⟨as,ra⟩:=zcS I 20 dx x v fx rx qx
  obtain⟨bs,rb⟩:=zcS I 20 dy y u fy ry qy
  obtain⟨c1,d1⟩:=zgu 20 dx fx
  obtain⟨c2,d2⟩:=zgu 20 dy fy
  exact⟨_,_,as,bs,ra,rb,c1,c2,by lia,zlV 20 dx dy fx fy⟩
 ·obtain⟨a1,vs1,rfl,s1,r1⟩:=hx.sq st rx
  obtain⟨a2,vs2,rfl,s2,r2⟩:=hy.sq st ry
  cases qx
  cases qy
  obtain⟨its,rv,ht,hz⟩:=I.list s1
  obtain⟨its2,rv2,ht2,hz2⟩:=I.list s2
  obtain⟨o,ho,hc,n,hd⟩:=ht.isList
  obtain⟨o2,ho2,hc2,n2,hd2⟩:=ht2.isList
  obtain⟨as,ra⟩:=zfl I 20 (zcS I 20) _ _ _ fx r1 rv
  obtain⟨bs,rb⟩:=zfl I 20 (zcS I 20) _ _ _ fy r2 rv2
  obtain⟨c1,d1⟩:=zeF 20 xs fx
  obtain⟨c2,d2⟩:=zeF 20 ys fy
  refine⟨.list (zaE xs),.list (zaE ys),_,_,.list ho hc hd (by simpa using ra),.list ho2 hc2 hd2 (by simpa using rb),c1,c2,?_,zfG 20 xs ys fx fy⟩
  show min (PyData.depthAll (zaE xs)+1) (PyData.depthAll (zaE ys)+1)<=60
  lia
 ·obtain⟨a1,vs1,rfl,s1,r1⟩:=hx.sq st rx
  obtain⟨a2,vs2,rfl,s2,r2⟩:=hy.sq st ry
  cases qx
  cases qy
  obtain⟨its,rv,ht,hz⟩:=I.list s1
  obtain⟨its2,rv2,ht2,hz2⟩:=I.list s2
  obtain⟨o,ho,hc,n,hd⟩:=ht.isList
  obtain⟨o2,ho2,hc2,n2,hd2⟩:=ht2.isList
  obtain⟨as,ra⟩:=zju I st xs xss _ _ lx fx r1 rv
  obtain⟨bs,rb⟩:=zju I st ys yss _ _ ly fy r2 rv2
  obtain⟨c1,d1⟩:=zmJ xss fx
  obtain⟨c2,d2⟩:=zmJ yss fy
  refine⟨.list (zep xss),.list (zep yss),_,_,.list ho hc hd (by simpa using ra),.list ho2 hc2 hd2 (by simpa using rb),c1,c2,?_,zrr xss yss fx fy⟩
  show min (PyData.depthAll (zep xss)+1) (PyData.depthAll (zep yss)+1)<=60
  lia
theorem zc8 {k:Nat}(hr:zaM k X.A):OC X .Eq oEq:=⟨zwL X id,fun pins s U H x y v u Q I qx qy ⟨ad,S,dx,dy,b,st,rx,ry,h,q⟩=>by
  obtain⟨px,py,as,bs,ra,rb,c1,c2,hd,e⟩:=zln I st rx ry qx qy h
  have hu:=hr.units
  exact PySem.SeqAt.rcAt_reads ra rb c1 c2 (by lia) X.prog X.w X.xe _ ⟨.bl _,H,I,by rw [e];rfl,q⟩,
 fun ad H S x y v u Q0 Q st rx ry ⟨b,h,q⟩ k=>⟨ad,S,x,y,b,st,rx,ry,h,k _ S _ H ad q Wd.refl st (.bl _)⟩⟩
theorem zeG {k:Nat}(hr:zaM k X.A):OC X .NotEq oNe:=⟨zwL X (!·),fun pins s U H x y v u Q I qx qy ⟨ad,S,dx,dy,b,st,rx,ry,h,q⟩=>by
  obtain⟨px,py,as,bs,ra,rb,c1,c2,hd,e⟩:=zln I st rx ry qx qy h
  have hu:=hr.units
  exact PySem.SeqAt.rcNeAt_reads ra rb c1 c2 (by lia) X.prog X.w X.xe _ ⟨.bl _,H,I,by rw [e];rfl,q⟩,
 fun ad H S x y v u Q0 Q st rx ry ⟨b,h,q⟩ k=>⟨ad,S,x,y,b,st,rx,ry,h,k _ S _ H ad q Wd.refl st (.bl _)⟩⟩
theorem zqJ {K:PySem.W.Frag}{ad:List Addr}{H:Hp}{d:D}{v:V}(r:Rel K ad H d v):decide (v=.non)=zlI d:=by
  cases r<;>rfl
theorem ztI:OpR X (compareOp .IsNot) (rB0 fun i j=>.bl (!(i==j))):=fun pins s U H x y v u Q I rx ry ⟨i,j,ex,ey,q⟩=>by
 subst ex ey
 cases rx
 cases ry
 exact isnot_bool ⟨.bl _,H,I,rfl,q⟩
theorem zjR:OC X .IsNot zhO:=⟨_,zvD.or ztI,fun ad H S x y v u Q0 Q st rx ry h k=>by
 rcases h with ⟨rfl,q⟩ | ⟨a,b,rfl,rfl,q⟩
 ·cases ry
  exact .inl ⟨rfl,by rw [zqJ rx];exact k _ S _ H ad q Wd.refl st (.bl _)⟩
 ·cases rx
  cases ry
  exact .inr ⟨a,b,rfl,rfl,k _ S _ H ad q Wd.refl st (.bl _)⟩⟩
theorem zfj {op:CmpOp}{r':DR2}(o:OC X op r')(ha:PD X a ta)(hb:PD X b tb)(h:op≠.In:=by decide)(h2:op≠.NotIn:=by decide):PD X (.Compare a [op] [b] pos) (dOp r' ta tb):=by
 with_unfolding_all
  obtain⟨r,ho,od⟩:=o
  exact zaS (zn7 ho ha hb (zqE _ h h2)) fun _ _ _=>zkc od
theorem zP {op:CmpOp}{r':DR2}(o:OC X op r')(ha:PD X a ta)(hb:PD X b tb)(h:op≠.In:=by decide)(h2:op≠.NotIn:=by decide):PTD X (.Compare a [op] [b] pos) (dT (dOp r' ta tb)):=by
 with_unfolding_all
  obtain⟨r,ho,od⟩:=o
  refine zir (zuO ho ha hb (zqE _ h h2)) fun U H Q hh=>el8 hh fun ad Z S Q0 st rh q k=>?_
  refine zkc (Q:=fun x H'=>∃ k,x=.bl k/\Q k H') od ⟨ad,Z,S,_,st,rh,q,fun d S' v H' ad' ⟨b,e,q'⟩ w st' r=>?_⟩
  subst e
  cases r
  exact⟨b,rfl,k b S' H' ad' q' w st'⟩
theorem zrU {K:PySem.W.Frag}{r1' r2':DR2}{r1 r2:R2}(o1:OD K r1' r1)(o2:OD K r2' r2){U:L2.St}{H:Hp}{Q:VK}(h:up K (zhT r1' r2' ta tb tc) U H Q):zp9 r1 r2 (up K ta) (up K tb) (up K tc) U H Q:=by
 obtain⟨ad,Z,S,Q0,st,rh,q,k⟩:=h
 refine⟨ad,Z,S,_,st,rh,q,fun x S1 v H1 ad1 q1 w1 st1 rx=>?_⟩
 refine⟨ad1,Z,S1,_,st1,rh.wd w1,q1,fun y S2 u H2 ad2 q2 w2 st2 ry=>?_⟩
 refine o1 ad2 H2 S2 x y v u _ _ st2 (rx.wd w2) ry q2 fun z S3 z' H3 ad3 ⟨c,e,q3⟩ w3 st3 rz=>?_
 subst e
 cases rz
 refine⟨c,rfl,?_⟩
 cases c with
 | true =>
  rw [if_pos rfl] at q3 ⊢
  refine⟨ad3,Z,S3,_,st3,rh.wd ((w1.trans w2).trans w3),q3,fun z S4 z' H4 ad4 q4 w4 st4 rz=>?_⟩
  exact o2 ad4 H4 S4 y z u z' Q0 Q st4 (ry.wd (w3.trans w4)) rz q4 (k.wd (((w1.trans w2).trans w3).trans w4))
 | false =>
  rw [if_neg qq] at q3 ⊢
  exact k _ S3 _ H3 ad3 q3 ((w1.trans w2).trans w3) st3 (.bl _)
theorem zck {e:Expr}{t:DE}(h:PD X e t)(he:∀ whole,isTrue e X.env whole=(do let v <- whole;standAt e.pos;holding [v] (truthy v)):=by intro _;rfl):PTD X e (dT t):=by with_unfolding_all exact (zir (zws h he) fun U H Q hh=>el8 hh fun ad Z S Q0 st rh q k =>
 ⟨ad,Z,S,_,st,rh,q,fun d S' v H' ad' ⟨b,e,q'⟩ w st' r=>by
  subst e
  cases r
  exact⟨b,rfl,k b S' H' ad' q' w st'⟩⟩)
theorem zk6 {op op':CmpOp}{r1 r2:DR2}(o1:OC X op r1)(o2:OC X op' r2)(ha:PD X a ta)(hb:PD X b tb)(hc:PD X c tc)(hm:lastMarks [op,op'] [b,c]=false:=by with_unfolding_all rfl):PTD X (.Compare a [op,op'] [b,c] pos) (dT (zhT r1 r2 ta tb tc)):=by
 with_unfolding_all
  obtain⟨s1,h1,d1⟩:=o1
  obtain⟨s2,h2,d2⟩:=o2
  refine zir (zrB h1 h2 ha hb hc hm) fun U H Q hh=>el8 hh fun ad Z S Q0 st rh q k=>?_
  refine zrU (Q:=fun x H'=>∃ k,x=.bl k/\Q k H') d1 d2 ⟨ad,Z,S,_,st,rh,q,fun d S' v H' ad' ⟨b,e,q'⟩ w st' r=>?_⟩
  subst e
  cases r
  exact⟨b,rfl,k b S' H' ad' q' w st'⟩
variable {tA tB':DT}{rest:List Expr}
theorem zde (h:PTD X a tA):PTD X (.UnaryOp .Not a pos) (zfi tA):=by with_unfolding_all exact (zir (zwV h) fun U H Q hh=>el8 hh fun ad Z S Q0 st rh q k=>⟨ad,Z,S,_,st,rh,q,fun b S' H' ad' q' w st'=>k _ S' H' ad' q' w st'⟩)
theorem zbW {e:Expr}{t:DT}(h:PWD X e t):PTD X e t:=by with_unfolding_all exact (h _)
theorem zct (ha:PTD X a tA):PWD X (.BoolOp .And [a] pos) tA:=by with_unfolding_all exact (ztE ha)
theorem zgs (ha:PTD X a tA):PWD X (.BoolOp .Or [a] pos) tA:=by with_unfolding_all exact (zvw ha)
theorem zcL (ha:PTD X a tA)(hb:PWD X (.BoolOp .And (b::rest) pos) tB'):PWD X (.BoolOp .And (a::b::rest) pos) (zej tA tB'):=by with_unfolding_all exact (znO (zvN ha hb) fun U H Q hh=>el8 hh fun ad Z S Q0 st rh q k =>
 ⟨ad,Z,S,_,st,rh,q,fun b S' H' ad' q' w st'=>by
  cases b with
  | true=>rw [if_pos rfl] at q' ⊢;exact⟨ad',Z,S',Q0,st',rh.wd w,q',fun b S' H' ad' q w'=>k b S' H' ad' q (w.trans w')⟩
  | false=>rw [if_neg qq] at q' ⊢;exact k _ S' H' ad' q' w st'⟩)
theorem zhv (ha:PTD X a tA)(hb:PWD X (.BoolOp .Or (b::rest) pos) tB'):PWD X (.BoolOp .Or (a::b::rest) pos) (dOr tA tB'):=by with_unfolding_all exact (znO (zxH ha hb) fun U H Q hh=>el8 hh fun ad Z S Q0 st rh q k =>
 ⟨ad,Z,S,_,st,rh,q,fun b S' H' ad' q' w st'=>by
  cases b with
  | false=>rw [if_neg qq] at q' ⊢;exact⟨ad',Z,S',Q0,st',rh.wd w,q',fun b S' H' ad' q w'=>k b S' H' ad' q (w.trans w')⟩
  | true=>rw [if_pos rfl] at q' ⊢;exact k _ S' H' ad' q' w st'⟩)
theorem zkh {op}{t:DE}(h:PD X a t):PD X (.BoolOp op [a] pos) t:=by with_unfolding_all exact (zvj h)
theorem ziA (ha:PD X a ta)(hb:PD X (.BoolOp .And (b::rest) pos) tb):PD X (.BoolOp .And (a::b::rest) pos) (ziy ta tb):=by with_unfolding_all exact (zaS (zww ha hb) fun U H Q hh=>el8 hh fun ad Z S Q0 st rh q k =>
 ⟨ad,Z,S,_,st,rh,q,fun d S' v H' ad' ⟨c,e,q'⟩ w st' r=>by
  subst e
  cases r
  refine⟨c,rfl,?_⟩
  cases c with
  | true=>rw [if_pos rfl] at q' ⊢;exact⟨ad',Z,S',Q0,st',rh.wd w,q',k.wd w⟩
  | false=>rw [if_neg qq] at q' ⊢;exact k _ S' _ H' ad' q' w st' (.bl _)⟩)
theorem zvu (ha:PD X a ta)(hb:PD X (.BoolOp .Or (b::rest) pos) tb):PD X (.BoolOp .Or (a::b::rest) pos) (zr3 ta tb):=by with_unfolding_all exact (zaS (zyz ha hb) fun U H Q hh=>el8 hh fun ad Z S Q0 st rh q k =>
 ⟨ad,Z,S,_,st,rh,q,fun d S' v H' ad' ⟨c,e,q'⟩ w st' r=>by
  subst e
  cases r
  refine⟨c,rfl,?_⟩
  cases c with
  | false=>rw [if_neg qq] at q' ⊢;exact⟨ad',Z,S',Q0,st',rh.wd w,q',k.wd w⟩
  | true=>rw [if_pos rfl] at q' ⊢;exact k _ S' _ H' ad' q' w st' (.bl _)⟩)
theorem ziz (ha:PD X a ta):PD X (.UnaryOp .Not a pos) (zij ta):=by with_unfolding_all exact (zaS (zvv ha) fun U H Q hh=>el8 hh fun ad Z S Q0 st rh q k =>
 ⟨ad,Z,S,_,st,rh,q,fun d S' v H' ad' ⟨c,e,q'⟩ w st' r=>by
  subst e
  cases r
  exact⟨c,rfl,k _ S' _ H' ad' q' w st' (.bl _)⟩⟩)
theorem zkd (hc:PTD X c tA)(ha:PD X a ta)(hb:PD X b tb):PD X (.IfExp c a b pos) (zkv tA ta tb):=by with_unfolding_all exact (zaS (zsQ hc ha hb) fun U H Q hh=>el8 hh fun ad Z S Q0 st rh q k =>
 ⟨ad,Z,S,_,st,rh,q,fun b S' H' ad' q' w st'=>by
  cases b with
  | true=>rw [if_pos rfl] at q' ⊢;exact⟨ad',Z,S',Q0,st',rh.wd w,q',k.wd w⟩
  | false=>rw [if_neg qq] at q' ⊢;exact⟨ad',Z,S',Q0,st',rh.wd w,q',k.wd w⟩⟩)
end
section
variable {X:Cx}{a b e:Expr}{es:List Expr}{ta tb te:DE}{t:DA}{pos:Pos}
theorem zq:PAD X [] zA:=by with_unfolding_all exact (znU zv1 fun U H Q hh=>el8 hh fun ad Z S Q0 st rh q k=>k [] S [] H ad q Wd.refl st .nil)
theorem zc (ha:PD X e te)(hr:PAD X es t)(hs:starEach (e::es) X.env=(false,eval e X.env)::starEach es X.env:=by exact zbA rfl):PAD X (e::es) (zm te t):=by with_unfolding_all exact (znU (ztw ha hr hs) fun U H Q hh=>el8 hh fun ad Z S Q0 st rh q k =>
 ⟨ad,Z,S,_,st,rh,q,fun d S1 v H1 ad1 q1 w1 st1 r1=>⟨ad1,Z,S1,_,st1,rh.wd w1,q1,fun ds S2 vs H2 ad2 q2 w2 st2 r2=>k _ S2 _ H2 ad2 q2 (w1.trans w2) st2 (.cons (r1.wd w2) r2)⟩⟩)
theorem zac {x1}(h:PAD X es t):PD X (.Tuple es x1 pos) (dTup t):=by with_unfolding_all exact (zaS (zvW h) fun U H Q hh=>el8 hh fun ad Z S Q0 st rh q k =>
 ⟨ad,Z,S,_,st,rh,q,fun ds S1 vs H1 ad1 ⟨hz,q1⟩ w1 st1 r1=>⟨by rw [<- r1.length];exact zdw hz,fun p hp=>zjE st1 (k.wd w1) r1 q1 p hp⟩⟩)
theorem za5 (h:PAD X es t):PD X (.List es pos) (zcj t):=by with_unfolding_all exact (zaS (zxa h) fun U H Q hh=>el8 hh fun ad Z S Q0 st rh q k =>
 ⟨ad,Z,S,_,st,rh,q,fun ds S1 vs H1 ad1 ⟨hz,q1⟩ w1 st1 r1=>⟨by rw [<- r1.length];exact zdw hz,fun p hp=>zgq st1 (k.wd w1) r1 q1 p hp⟩⟩)
theorem zvr {xs:List D}{i:Int}{d:D}(h:atD xs i=some d){K:PySem.W.Frag}{ad:List Addr}{H:Hp}{vs:List V}(r:zK K ad H xs vs):∃ v,atI vs i=some v/\Rel K ad H d v:=by
 have e:ixN vs.length i=ixD xs.length i:=by rw [r.length];rfl
 unfold atD at h
 unfold atI
 rw [e]
 cases q:ixD xs.length i with
 | none=>rw [q] at h;cases h
 | some j =>
  rw [q] at h
  exact r.get h
theorem zE (ha:PD X a ta)(hb:PD X b tb)(hs:zn0 b:=by intro _ _;rfl):PD X (.Subscript a b pos) (dOp oIx ta tb):=by with_unfolding_all exact (zaS (zxr (zug.or (zwT.or zxc)) ha hb hs) fun _ _ _=>zkc fun ad H S x y v u Q0 Q st rx ry h k=>by
 rcases h with ⟨i,xs,d,ey,hx,e,q⟩ | ⟨z,i,c,rfl,rfl,hz,e,q⟩
 case inr =>
  cases rx
  cases ry
  exact .inr (.inr ⟨z,i,c,rfl,rfl,zdw hz,e,k _ S _ H ad q Wd.refl st (.str _)⟩)
 subst ey
 cases ry
 obtain⟨p,vs,rfl,hs,r⟩:=hx.sq st rx
 obtain⟨z,ez,rz⟩:=zvr e r
 rcases hs with hs | hs
 ·exact .inl ⟨p,vs,i,z,rfl,rfl,hs,ez,k _ S _ H ad q Wd.refl st rz⟩
 ·exact .inr (.inl ⟨p,vs,i,z,rfl,rfl,hs,ez,k _ S _ H ad q Wd.refl st rz⟩))
def upO (K:PySem.W.Frag)(t:Option DE):TO:=fun U H Q=>∃ ad Z S Q0,zQ K ad H S/\zaI K ad H Z U/\ziX t Z S Q0/\∀ o S' H' ad',Q0 o S'->Wd ad H ad' H'->zQ K ad' H' S'->Q o H'
theorem zia:PO X none (upO X.K none):=fun pins s U H Q I hh=>el8 hh fun ad Z S Q0 st rh q k=>zut pins s U H Q I (k none S H ad q Wd.refl st)
theorem ziq {t:DE}(h:PD X e t):PO X (some e) (upO X.K (some t)):=by with_unfolding_all exact (fun pins s U H Q I hh=>el8 hh fun ad Z S Q0 st rh q k=>ztV h pins s U H Q I ⟨ad,Z,S,_,st,rh,q,fun d S' v H' ad' ⟨i,e,q'⟩ w st' r=>by
 subst e
 cases r
 exact⟨i,rfl,k _ S' H' ad' q' w st'⟩⟩)
theorem znY {K:PySem.W.Frag}{ad:List Addr}{H:Hp}{xs:List D}{vs:List V}(lo hi:Option Int)(r:zK K ad H xs vs):zK K ad H (cutD xs lo hi) (zgR vs lo hi):=by
  have e1:HT.sIx vs.length 0 lo=slD xs.length 0 lo:=by
    rw [r.length];cases lo with
    | none=>rfl
    | some k=>show HT.sIx _ _ (some k)=_;unfold HT.sIx slD;first | rfl | (simp only [];split<;>lia)
  have e2:HT.sIx vs.length vs.length hi=slD xs.length xs.length hi:=by
    rw [r.length];cases hi with
    | none=>rfl
    | some k=>show HT.sIx _ _ (some k)=_;unfold HT.sIx slD;first | rfl | (simp only [];split<;>lia)
  unfold cutD zgR
  rw [e1,e2]
  exact (r.drop _).take _
def zyd (K:PySem.W.Frag):V->Option Int->Option Int->Hp->VK->Prop:=fun x lo hi H Q=>∃ a xs,x=.ref a/\SqT K H a xs /\
 ((HT.sIx xs.length 0 lo=0/\HT.sIx xs.length xs.length hi=xs.length)->Q (.ref a) H)/\(¬ (HT.sIx xs.length 0 lo=0/\HT.sIx xs.length xs.length hi=xs.length)->∀ p,H p=none->Q (.ref p) (upd H p (.tup (zgR xs lo hi))))
theorem zlq {prog:Program}{w:World}{A:Around}{E:Value->Shared->Prop}{s:Shared}{t sl:Addr}{items:Array Value}{vl vu:Value}{lo hi:Option Int}{Q:Value->Shared->Prop}(ht:IsTup s.heap t items)(hs:s.heap.IsSliceOf sl vl vu .none)(pl:IsPart vl lo)(pu:IsPart vu hi)
  (hw:HT.sIx items.size 0 lo=0/\HT.sIx items.size items.size hi=items.size) (h:Q (.ref t) s):wpAny (model prog w) A (getItem (.ref t) (.ref sl)) Q E s:=by
 obtain⟨os,hos,hcs,hds⟩:=id hs
 have hTs:s.TypeIs (.ref sl) "slice":=⟨os,hos,hcs⟩
 unfold getItem
 try with_reducible refine wpAny_holding ?_
 first | refine wpAny_bind (wpAny_pure ?_) | skip
 refine wpAny_bind (wpAny_sequenceKey ht.typeIs (by decide) ?_)
 refine wpAny_bind (wpAny_callSpecial?_slot (name:=Str.ofString "__getitem__") ht.typeIs PyProof.Rows.slot_tuple_getitem
  (wpAny_call_entry PyProof.Rows.slot_tuple_getitem ht.typeIs PyProof.Rows.entry_tuple_getitem ?_ (PyProof.Rows.args_tuple_getitem _ _)))
 show wpAny _ _ (Builtin.Tuple.tupleItemsOf (.ref t) >>= _) _ _ s
 refine wpAny_bind (tupleItemsOf_ ht ?_)
 refine wpAny_bind (wpAny_typeOf hTs ?_)
 rw [if_pos (by decide)]
 refine wpAny_bind (HT.zfe hs pl pu ?_)
 show wpAny _ _ (if (((HT.sIx items.size 0 lo:Nat):Int)==0&&(1:Int)==1&&(HT.sIx items.size items.size hi-HT.sIx items.size 0 lo)==items.size)=true then _ else _) _ _ s
 rw [if_pos (by rw [hw.1,hw.2];simp)]
 unfold Builtin.Tuple.tupleIsExact
 refine wpAny_bind (wpAny_bind (wpAny_typeOf ht.typeIs (wpAny_pure ?_)))
 rw [if_pos (by decide)]
 refine wpAny_bind (wpAny_rule ?_)
 first
  | exact wpAny_pure ⟨_,rfl,wpAny_pure h⟩
  | exact wpAny_bind (wpAny_pure ⟨_,rfl,wpAny_pure h⟩)
  | exact wpAny_bind (wpAny_pure (wpAny_pure ⟨_,rfl,wpAny_pure h⟩))
  | trace_state
theorem ztK:SlR X (zyd X.K):=by
 intro pins s U H x v vl vu lo hi sl Q I rx hs pl pu h
 obtain⟨a,xs,rfl,hx,q1,q2⟩:=h
 by_cases hw:HT.sIx xs.length 0 lo=0/\HT.sIx xs.length xs.length hi=xs.length
 ·cases rx
  obtain⟨its,r,ht,hz⟩:=I.tuple hx
  have hlen:its.toArray.size=xs.length:=by rw [qm];exact r.length.symm
  refine⟨"tuple",_,PyProof.Rows.slot_tuple_getitem.lookup,ht.typeIs,?_⟩
  exact zlq ht hs pl pu (by rw [hlen];exact hw) ⟨.ref a,H,I,rfl,q1 hw⟩
 ·exact zvI pins s U H (.ref a) v vl vu lo hi sl Q I rx hs pl pu ⟨a,xs,rfl,hx,hw,q2 hw⟩
theorem zqQ {α:Type}(xs:List α)(lo hi:Option Int)(h1:slD xs.length 0 lo=0)(h2:slD xs.length xs.length hi=xs.length):cutD xs lo hi=xs:=by
 unfold cutD;rw [h1,h2];simp
theorem zkE (n d:Nat)(o:Option Int):HT.sIx n d o=slD n d o:=by
 cases o with
 | none=>rfl
 | some k=>rfl
theorem zlS {lo hi:Option Expr}{tl th:Option DE}{p2:Pos}(ha:PD X a ta)(hl:PO X lo (upO X.K tl))(hh:PO X hi (upO X.K th)):PD X (.Subscript a (.Slice lo hi none p2) pos) (dSl zje ta tl th):=by with_unfolding_all exact (zaS (zsd (zuU.or (ztK.or zwi)) ha hl hh) fun U H Q hh=>el8 hh fun ad Z S Q0 st rh q k =>
 ⟨ad,Z,S,_,st,rh,q,fun x S1 v H1 ad1 q1 w1 st1 r1=>⟨ad1,Z,S1,_,st1,rh.wd w1,q1,fun l S2 H2 ad2 q2 w2 st2=>⟨ad2,Z,S2,_,st2,rh.wd (w1.trans w2),q2,fun h S3 H3 ad3 q3 w3 st3=>by
  have r3:=r1.wd (w2.trans w3)
  have k3:=k.wd ((w1.trans w2).trans w3)
  rcases q3 with ⟨xs,rfl,q3⟩ | ⟨xs,hx,q3⟩ | ⟨z,rfl,hz,q3⟩
  ·cases r3 with
   | tup h1 r =>
    refine .inr (.inl ⟨_,_,rfl,SqT.of h1,fun⟨z1,z2⟩=>?_,fun _ p hp=>zjE st3 k3 (znY _ _ r) q3 p hp⟩)
    rw [zkE,<- r.length] at z1 z2
    rw [zqQ xs _ _ z1 z2] at q3
    exact k3 _ S3 _ H3 ad3 q3 Wd.refl st3 (.tup h1 r)
  ·obtain⟨p,vs,rfl,hs,r⟩:=hx.sq st3 r3
   exact .inl ⟨p,vs,rfl,hs,fun l hl=>zgq st3 k3 (znY _ _ r) q3 l hl⟩
  ·cases r3
   refine .inr (.inr ⟨z,rfl,zdw hz,?_⟩)
   have e:(⟨((z.cps.toList.drop (HT.sIx z.length 0 l)).take (HT.sIx z.length z.length h-HT.sIx z.length 0 l)).toArray⟩:Str)=zsg z l h:=by
    unfold zsg cutD
    rw [zkE,zkE,show z.length=z.cps.toList.length from qQ.symm]
   rw [e]
   exact k3 _ S3 _ H3 ad3 q3 Wd.refl st3 (.str _)⟩⟩⟩)
end
end Dp
namespace Dp
open PySem PySem.Spec PyProof.Rows L2 My
variable [B:Bs]
section
variable {X:Cx}{a e:Expr}{es:List Expr}{ta te:DE}{t:DA}{pos p:Pos}
theorem zJ {k j:Nat}{x:Str}{ps:List Str}{f:DSp}(G:Got X.prog X.w X.K X.mg X.base k x ps (upF X.K f))(hr:zaM j X.A)
  (ha:PAD X (e::es) t) (hk:k<=j:=by decide) (hg:Gl X x:=by rfl) (hdb:(x==("__debug__":Str))=false:=by decide) (he:starEach (e::es) X.env=(false,eval e X.env)::starEach es X.env:=by exact zbA rfl) (hpl:(backTo pos (starEach es X.env)).any (·.1)=false:=by exact zdH rfl) :
  PD X (.Call (.Name x p) (e::es) [] pos) (dCall f t):=by with_unfolding_all exact (zaS (zwB G hr hk hg ha hdb he hpl) fun U H Q hh=>el8 hh fun ad Z S Q0 st rh q k =>
 ⟨ad,Z,S,_,st,rh,q,fun ds S1 vs H1 ad1 q1 w1 st1 r1=>by
  show upF X.K f (vs++[]) H1 Q E0
  rw [List.append_nil];exact⟨ad1,S1,ds,Q0,st1.base,r1,q1,(k.wd w1).base st1⟩⟩)
def BD (K:PySem.W.Frag)(r':DB)(r:List V->Hp->VK->Prop):Prop:=∀ ad H S ds vs Q0 Q,zQ K ad H S->zK K ad H ds vs->r' ds S Q0->KK K ad H Q0 Q->r vs H Q
def BC (X:Cx)(f:Value)(r':DB):Prop:=∃ r,zaO X f r/\BD X.K r' r
theorem zak {x:Str}{id:String}{r':DB}(o:BC X (.builtin id) r')(hm:X.mg x=none)(hv:bootBuiltins x=some (.builtin id))(ha:PAD X (e::es) t)(hg:Gl X x:=by rfl)(hn:x≠"__name__":=by decide)(hdb:(x==("__debug__":Str))=false:=by decide)
  (he:starEach (e::es) X.env=(false,eval e X.env)::starEach es X.env:=by exact zbA rfl) (hpl:(backTo pos (starEach es X.env)).any (·.1)=false:=by exact zdH rfl):PD X (.Call (.Name x p) (e::es) [] pos) (dB r' t):=by
 with_unfolding_all
  obtain⟨r,ho,od⟩:=o
  exact zaS (zrT ho hg hm hv ha hn hdb he hpl) fun U H Q hh=>el8 hh fun ad Z S Q0 st rh q k =>
   ⟨ad,Z,S,_,st,rh,q,fun ds S1 vs H1 ad1 q1 w1 st1 r1=>od ad1 H1 S1 ds vs Q0 Q st1 r1 q1 (k.wd w1)⟩
theorem zg0 {x:Str}{T:String}{r':DB}(o:BC X (.type T) r')(hm:X.mg x=none)(hv:bootBuiltins x=some (.type T))(ha:PAD X (e::es) t)(hg:Gl X x:=by rfl)(hn:x≠"__name__":=by decide)(hdb:(x==("__debug__":Str))=false:=by decide)
  (he:starEach (e::es) X.env=(false,eval e X.env)::starEach es X.env:=by exact zbA rfl) (hpl:(backTo pos (starEach es X.env)).any (·.1)=false:=by exact zdH rfl):PD X (.Call (.Name x p) (e::es) [] pos) (dB r' t):=by
 with_unfolding_all
  obtain⟨r,ho,od⟩:=o
  exact zaS (zqb ho hg hm hv ha hn hdb he hpl) fun U H Q hh=>el8 hh fun ad Z S Q0 st rh q k =>
   ⟨ad,Z,S,_,st,rh,q,fun ds S1 vs H1 ad1 q1 w1 st1 r1=>od ad1 H1 S1 ds vs Q0 Q st1 r1 q1 (k.wd w1)⟩
theorem zcs {K:PySem.W.Frag}{ad:List Addr}{H:Hp}{d:D}{vs:List V}(r:zK K ad H [d] vs):∃ v,vs=[v]/\Rel K ad H d v:=by
 cases r with
 | cons r t=>cases t;exact⟨_,rfl,r⟩
theorem zjs {K:PySem.W.Frag}{ad:List Addr}{H:Hp}{d e:D}{vs:List V}(r:zK K ad H [d,e] vs):∃ v u,vs=[v,u]/\Rel K ad H d v/\Rel K ad H e u:=by
 cases r with
 | cons r t =>
  obtain⟨u,rfl,r2⟩:=zcs t
  exact⟨_,_,rfl,r,r2⟩
theorem zaR:BC X (.builtin "len") zbn:=⟨_,zqR.or zmK,fun ad H S ds vs Q0 Q st r h k=>by
 rcases h with ⟨x,xs,e,hx,q⟩ | ⟨z,e,hz,q⟩
 case inr =>
  subst e
  obtain⟨v,rfl,rv⟩:=zcs r
  cases rv
  exact .inr ⟨z,rfl,zdw hz,k _ S _ H ad q Wd.refl st (.int _)⟩
 subst e
 obtain⟨v,rfl,rv⟩:=zcs r
 obtain⟨a,ws,rfl,hs,rs⟩:=hx.sq st rv
 exact .inl ⟨a,ws,rfl,hs,k _ S _ H ad (by rw [rs.length] at q;exact q) Wd.refl st (.int _)⟩⟩
theorem zw3:BC X (.builtin "abs") zrO:=⟨_,zqD,fun ad H S ds vs Q0 Q st r ⟨i,e,q⟩ k=>by
 subst e
 obtain⟨v,rfl,rv⟩:=zcs r
 cases rv
 exact⟨i,rfl,k _ S _ H ad q Wd.refl st (.int _)⟩⟩
theorem zwx (i j:Int):(if j > i then j else i)=max i j:=by
  rw [Int.max_def];split<;>split<;>lia
theorem zxe (i j:Int):(if j<i then j else i)=min i j:=by
  rw [Int.min_def];split<;>split<;>lia
theorem zb9 (hc:X.calm=true:=by rfl):BC X (.builtin "max") zdd:=⟨_,zqx hc,fun ad H S ds vs Q0 Q st r ⟨i,j,e,q⟩ k=>by
 subst e
 obtain⟨v,u,rfl,rv,ru⟩:=zjs r
 cases rv
 cases ru
 exact⟨i,j,rfl,by rw [zwx];exact k _ S _ H ad q Wd.refl st (.int _)⟩⟩
theorem zdJ (hc:X.calm=true:=by rfl):BC X (.builtin "min") zeD:=⟨_,zpV hc,fun ad H S ds vs Q0 Q st r ⟨i,j,e,q⟩ k=>by
 subst e
 obtain⟨v,u,rfl,rv,ru⟩:=zjs r
 cases rv
 cases ru
 exact⟨i,j,rfl,by rw [zxe];exact k _ S _ H ad q Wd.refl st (.int _)⟩⟩
theorem ztU (hc:X.calm=true:=by rfl):BC X (.builtin "max") zpl:=⟨_,zqu rfl hc,fun ad H S ds vs Q0 Q st r ⟨x,ns,e,hx,h0,q⟩ k=>by
 subst e
 obtain⟨v,rfl,rv⟩:=zcs r
 obtain⟨a,ws,rfl,hs,rs⟩:=hx.sq st rv
 cases rs.ints
 exact⟨a,ns,rfl,hs,h0,fun m h1 h2=>k _ S _ H ad (q m h1 h2) Wd.refl st (.int _)⟩⟩
theorem zuw (hc:X.calm=true:=by rfl):BC X (.builtin "min") zos:=⟨_,zql rfl hc,fun ad H S ds vs Q0 Q st r ⟨x,ns,e,hx,h0,q⟩ k=>by
 subst e
 obtain⟨v,rfl,rv⟩:=zcs r
 obtain⟨a,ws,rfl,hs,rs⟩:=hx.sq st rv
 cases rs.ints
 exact⟨a,ns,rfl,hs,h0,fun m h1 h2=>k _ S _ H ad (q m h1 h2) Wd.refl st (.int _)⟩⟩
theorem zhQ (hc:X.calm=true:=by rfl):BC X (.builtin "all") zhE:=⟨_,zp3 rfl hc,fun ad H S ds vs Q0 Q st r ⟨x,ns,e,hx,q⟩ k=>by
 subst e
 obtain⟨v,rfl,rv⟩:=zcs r
 obtain⟨a,ws,rfl,hs,rs⟩:=hx.sq st rv
 cases rs.bls
 exact⟨a,ns,rfl,hs,k _ S _ H ad q Wd.refl st (.bl _)⟩⟩
theorem zgU:BC X (.type "tuple") zgd:=⟨_,zqG rfl,fun ad H S ds vs Q0 Q st r ⟨x,xs,e,hx,q⟩ k=>by
 subst e
 obtain⟨v,rfl,rv⟩:=zcs r
 rcases hx with rfl | hx
 ·cases rv with
  | tup h rr=>exact⟨_,_,rfl,.inr ⟨SqT.of h,k _ S _ H ad q Wd.refl st (.tup h rr)⟩⟩
 ·obtain⟨a,ws,rfl,hs,rs⟩:=hx.sq st rv
  exact⟨a,ws,rfl,.inl ⟨hs,fun l hl=>zjE st k rs q l hl⟩⟩⟩
theorem zkA:BC X (.type "list") zjU:=⟨_,zoD,fun ad H S ds vs Q0 Q st r ⟨x,xs,e,hx,q⟩ k=>by
 subst e
 obtain⟨v,rfl,rv⟩:=zcs r
 obtain⟨a,ws,rfl,hs,rs⟩:=hx.sq st rv
 exact⟨a,ws,rfl,hs,fun l hl=>zgq st k rs q l hl⟩⟩
section
variable {K:PySem.W.Frag}
theorem zuY (t:String)(h:zk1 t=true):PySem.W.kitOne K (.type "NoneType") (.type t)=some false/\PySem.W.kitOne K (.type "bool") (.type t)=some (t=="bool"||t=="int")/\PySem.W.kitOne K (.type "int") (.type t)=some (t=="int") /\
  PySem.W.kitOne K (.type "str") (.type t)=some (t=="str")/\PySem.W.kitOne K (.type "tuple") (.type t)=some (t=="tuple")/\PySem.W.kitOne K (.type "list") (.type t)=some (t=="list"):=by
 unfold zk1 at h
 simp only [Bool.or_eq_true,beq_iff_eq] at h
 rcases h with (((rfl | rfl) | rfl) | rfl) | rfl
 ·exact⟨by kernel_rfl,by kernel_rfl,by kernel_rfl,by kernel_rfl,by kernel_rfl,by kernel_rfl⟩
 ·exact⟨by kernel_rfl,by kernel_rfl,by kernel_rfl,by kernel_rfl,by kernel_rfl,by kernel_rfl⟩
 ·exact⟨by kernel_rfl,by kernel_rfl,by kernel_rfl,by kernel_rfl,by kernel_rfl,by kernel_rfl⟩
 ·exact⟨by kernel_rfl,by kernel_rfl,by kernel_rfl,by kernel_rfl,by kernel_rfl,by kernel_rfl⟩
 ·exact⟨by kernel_rfl,by kernel_rfl,by kernel_rfl,by kernel_rfl,by kernel_rfl,by kernel_rfl⟩
end
theorem zmh:BC X (.builtin "isinstance") zjh:=⟨_,zr1,fun ad H S ds vs Q0 Q st r ⟨x,t,b,e,h,q⟩ k=>by
 subst e
 obtain⟨v,u,rfl,rv,ru⟩:=zjs r
 cases ru
 have fin:=k _ S _ H ad q Wd.refl st (.bl b)
 unfold zw1 at h
 split at h
 ·cases h
 rename_i hty
 have hty':zk1 t=true:=by
  cases hh:zk1 t
  ·exact absurd (by show (!zk1 t)=true;rw [hh];rfl) hty
  ·rfl
 obtain⟨k1,k2,k3,k4,k5,k6⟩:=zuY (K:=X.K) t hty'
 cases rv with
 | non=>cases h;exact⟨_,_,_,_,rfl,.non,k1,fin⟩
 | bl c=>cases h;exact⟨_,_,_,_,rfl,.bl c,k2,fin⟩
 | int i=>cases h;exact⟨_,_,_,_,rfl,.int i,k3,fin⟩
 | str y=>cases h;exact⟨_,_,_,_,rfl,.str y,k4,fin⟩
 | ty n=>cases h
 | exn _ _ _=>cases h
 | tup ht rt=>cases h;exact⟨_,_,_,_,rfl,.tup ht,k5,fin⟩
 | rl hl rl=>cases h
 | @ref n a hn =>
  have h:(match S[n]? with | some (.lst _)=>some (t=="list") | _=>none)=some b:=h
  cases hS:S[n]? with
  | none=>rw [hS] at h;cases h
  | some c =>
   rw [hS] at h
   cases c with
   | ins c fs=>cases h
   | dk _=>cases h
   | dt _=>cases h
   | lst xs =>
    cases h
    obtain⟨vs,hv,_⟩:=st.cell n a _ hn hS
    exact⟨_,_,_,_,rfl,.lst hv,k6,fin⟩⟩
theorem znV:∀ {K:PySem.W.Frag} {ad:List Addr} {H:Hp} {cs:List (Int×Int)} {vs:List V},zK K ad H (cs.map p2) vs->∃ ps:List Addr,vs=ps.map V.ref/\zfM H ps cs
 | _,_,_,[],_,.nil=>⟨[],rfl,.nil⟩
 | _,_,_,c::cs,_,.cons r t=>by
  obtain⟨ps,rfl,h⟩:=znV t
  cases r with
  | tup h1 r1 =>
   obtain⟨v,u,rfl,rv,ru⟩:=zjs r1
   cases rv
   cases ru
   exact⟨_::ps,rfl,.cons h1 h⟩
theorem zs4:∀ {K:PySem.W.Frag} {ad:List Addr} {H:Hp} {cs:List (Int×Int)} {ps:List Addr},zfM H ps cs->zK K ad H (cs.map p2) (ps.map V.ref)
 | _,_,_,_,_,.nil=>.nil
 | _,_,_,_,_,.cons r t=>.cons (.tup r (.cons (.int _) (.cons (.int _) .nil))) (zs4 t)
theorem zv8 (a b:Int×Int):plt a b=zjq a b:=by
 unfold plt zjq
 by_cases h:a.1=b.1
 ·simp [h]
 ·simp [h]
theorem zsf:BC X (.builtin "sorted") zpH:=⟨_,zmE rfl,fun ad H S ds vs Q0 Q st r ⟨x,cs,e,hx,h64,q⟩ k=>by
 subst e
 obtain⟨v,rfl,rv⟩:=zcs r
 obtain⟨a,ws,rfl,hs,rs⟩:=hx.sq st rv
 obtain⟨ps,rfl,hp⟩:=znV rs
 exact⟨a,ps,cs,rfl,hs,hp,h64,fun l ps' cs' hl hp' hperm hpw=>zgq st k (zs4 hp') (q cs' hperm (hpw.imp fun h=>by rw [<- zv8];exact h)) l hl⟩⟩
def MD (X:Cx)(id:String)(r':DM):Prop:=∃ r,MtR X id r/\∀ ad H S x ds v vs Q0 Q,zQ X.K ad H S->Rel X.K ad H x v->zK X.K ad H ds vs->r' x ds S Q0->KK X.K ad H Q0 Q->r v vs H Q
theorem zvq {K:PySem.W.Frag}{ad:List Addr}{H:Hp}{S:Sto}{x:D}{v:V}(st:zQ K ad H S)(h:∃ n ys,x=.ref n/\S[n]?=some (.lst ys))(r:Rel K ad H x v):tyV K "list" v H:=by
 obtain⟨n,ys,rfl,h⟩:=h
 cases r with
 | ref e =>
  obtain⟨vs,hv,_⟩:=st.cell n _ _ e h
  exact .inl ⟨rfl,vs,SqL.of hv⟩
theorem zfT {o:Expr}{to:DE}{name:Str}{id:String}{apos cpos:Pos}{r':DM}(slot:Slot "list" name id)(hty:typeOf (.builtin id)=pure (.type "method_descriptor"))(hm:MD X id r')(ho:PD X o to)(ha:PAD X (e::es) t)
  (hbase:attributeBase o name X.env (eval o X.env)=eval o X.env:=by rfl)
  (hfew:((backTo cpos (starEach (e::es) X.env)).all (fun x=>!x.1)&&(backToKw cpos (keywordEach [] X.env)).all (fun x=>x.1.isSome)
  &&decide ((e::es).length+([]:List Keyword).length+(if ([]:List Keyword).isEmpty then 0 else 1)<30))=true:=by rfl)
  (hline:(apos.endLine==cpos.line)=true:=by rfl) (hs:starEach (e::es) X.env=(false,eval e X.env)::starEach es X.env:=by exact zbA rfl) (hplain:(backTo cpos (starEach es X.env)).any (·.1)=false:=by exact zdH rfl) :
  PD X (.Call (.Attribute o name apos) (e::es) [] cpos) (dM r' to t):=by
 with_unfolding_all
  obtain⟨r,hr,od⟩:=hm
  exact zaS (zxK PySem.F.plainAttrs_list slot hty hr ho ha hbase hfew hline hs hplain) fun U H Q hh=>el8 hh fun ad Z S Q0 st rh q k =>
   ⟨ad,Z,S,_,st,rh,q,fun x S1 v H1 ad1 ⟨hl,q1⟩ w1 st1 r1=>⟨zvq st1 hl r1,ad1,Z,S1,_,st1,rh.wd w1,q1,fun ds S2 vs H2 ad2 q2 w2 st2 r2 =>
    od ad2 H2 S2 x ds v vs Q0 Q st2 (r1.wd w2) r2 q2 (k.wd (w1.trans w2))⟩⟩
theorem zcp:MD X "list.append" zcM:=⟨_,zll,fun ad H S x ds v vs Q0 Q st rx r ⟨n,xs,y,ex,ey,hn,hl,q⟩ k=>by
 subst ex ey
 obtain⟨u,rfl,ru⟩:=zcs r
 cases rx with
 | ref e =>
  obtain⟨ws,hw,rw⟩:=st.cell n _ _ e hn
  exact⟨_,ws,u,rfl,rfl,hw,by rw [<- rw.length];exact zjN hl,k _ _ _ _ ad q (Wd.put e hw) (st.put e hw (rw.append (.cons ru .nil))) .non⟩⟩
theorem zoT:MD X "list.extend" zjk:=⟨_,zpv,fun ad H S x ds v vs Q0 Q st rx r h k=>by
 rcases h with ⟨n,xs,m,ys,ex,ey,hn,hm,hne,hl,q⟩ | ⟨n,xs,ys,ex,ey,hn,hl,q⟩
 ·subst ex ey
  obtain⟨u,rfl,ru⟩:=zcs r
  cases rx with
  | ref e =>
   cases ru with
   | ref e2 =>
    obtain⟨ws,hw,rw⟩:=st.cell n _ _ e hn
    obtain⟨ws2,hw2,rw2⟩:=st.cell m _ _ e2 hm
    exact .inl ⟨_,_,ws,ws2,rfl,rfl,hw,hw2,by rw [<- rw.length,<- rw2.length];exact zdw hl,k _ _ _ _ ad q (Wd.put e hw) (st.put e hw (rw.append rw2)) .non⟩
 ·subst ex ey
  obtain⟨u,rfl,ru⟩:=zcs r
  cases rx with
  | ref e =>
   cases ru with
   | tup h2 rw2 =>
    obtain⟨ws,hw,rw⟩:=st.cell n _ _ e hn
    exact .inr ⟨_,_,ws,_,rfl,rfl,hw,SqT.of h2,by rw [<- rw.length,<- rw2.length];exact zdw hl,k _ _ _ _ ad q (Wd.put e hw) (st.put e hw (rw.append rw2)) .non⟩⟩
end
end Dp
namespace Dp
open PySem PySem.Spec PyProof.Rows L2 My
variable [B:Bs]
def zjr (K:PySem.W.Frag)(b:Nat)(g':DG)(g:TG):Prop:=∀ ad H S Z U d v Q0 Q,zQ K ad H S->zaI K ad H Z U->Rel K ad H d v->g' d Z S Q0 ->
 (∀ ρ' S' σ' H' ad',Q0 ρ' S'->Wd ad H ad' H'->zQ K ad' H' S'->zaI K ad' H' ρ' σ'->σ'.length=U.length->(∀ j,b<=j->σ'[j]?=U[j]?)->Q σ' H')->g v U H Q
def zkk (K:PySem.W.Frag)(b:Nat)(g':DGs)(g:TGs):Prop:=∀ ad H S Z U ds vs Q0 Q,zQ K ad H S->zaI K ad H Z U->zK K ad H ds vs->g' ds Z S Q0 ->
 (∀ ρ' S' σ' H' ad',Q0 ρ' S'->Wd ad H ad' H'->zQ K ad' H' S'->zaI K ad' H' ρ' σ'->σ'.length=U.length->(∀ j,b<=j->σ'[j]?=U[j]?)->Q σ' H')->g vs U H Q
def PGD (X:Cx)(b:Nat)(tg:Expr)(g':DG):Prop:=∃ g,PG X tg g/\zjr X.K b g' g
def zoz (X:Cx)(b:Nat)(tgs:List Expr)(g':DGs):Prop:=∃ g,PGs X tgs g/\zkk X.K b g' g
theorem zaI.set {K:PySem.W.Frag}{ad:List Addr}{H:Hp}{Z:Rho}{U:L2.St}{d:D}{v:V}(h:zaI K ad H Z U)(r:Rel K ad H d v)(i:Nat):zaI K ad H (Z.set i (some d)) (U.set i (some v)) where
 len:=by rw [List.length_set,List.length_set];exact h.len
 val:=fun j e q=>by
  by_cases hj:j=i
  ·subst hj
   have hl:j<Z.length:=by have:=My.za1 q;rw [List.length_set] at this;exact this
   rw [qL hl] at q
   cases q
   exact⟨v,qL (by rw [<- h.len];exact hl),r⟩
  ·rw [List.getElem?_set_ne (Ne.symm hj)] at q
   obtain⟨u,e1,r1⟩:=h.val j e q
   exact⟨u,by rw [List.getElem?_set_ne (Ne.symm hj)];exact e1,r1⟩
section
variable {X:Cx}{pos:Pos}{b:Nat}
theorem zaj {K:PySem.W.Frag}(i:Nat)(hb:i<b):zjr K b (zB i) (L2.zB i):=fun ad H S Z U d v Q0 Q st rh r q k =>
 k _ S _ H ad q Wd.refl st (rh.set r i) (List.length_set ..) fun j hj=>List.getElem?_set_ne (by lia)
theorem zT {i:Nat}{x:Str}(hN:X.N.Nodup)(hi:X.N[i]?=some x:=by rfl)(hx:Loc X.env.scope x:=by first | exact Or.inl rfl | exact Or.inr rfl)(hf:X.fn x=true\/X.env.scope.names.lookup x=some .local:=by first | exact .inl rfl | exact .inr rfl | assumption)(hb:i<b:=by decide):PGD X b (.Name x pos) (zB i) :=
 ⟨_,zar hN hi hx hf,zaj i hb⟩
theorem zcb:zoz X b [] zb3:=⟨_,zgj,fun ad H S Z U ds vs Q0 Q st rh r ⟨e,q⟩ k=>by
 subst e
 cases r
 exact⟨rfl,k Z S U H ad q Wd.refl st rh rfl fun _ _=>rfl⟩⟩
theorem zaf {e:Expr}{es:List Expr}{t:DG}{u:DGs}(h1:PGD X b e t)(h2:zoz X b es u)(hs:(assignEach (e::es) X.env).map (·.2)=assign e X.env::(assignEach es X.env).map (·.2):=by rfl):zoz X b (e::es) (zah t u):=by
 obtain⟨g1,p1,r1⟩:=h1
 obtain⟨g2,p2,r2⟩:=h2
 refine⟨_,zbH p1 p2 hs,fun ad H S Z U ds vs Q0 Q st rh r ⟨d,rs,ed,q⟩ k=>?_⟩
 subst ed
 cases r with
 | cons r t =>
  refine⟨_,_,rfl,r1 ad H S Z U d _ _ _ st rh r q fun ρ1 S1 σ1 H1 ad1 q1 w1 st1 rh1 l1 a1=>?_⟩
  exact r2 ad1 H1 S1 ρ1 σ1 _ _ _ _ st1 rh1 (t.wd w1) q1 fun ρ2 S2 σ2 H2 ad2 q2 w2 st2 rh2 l2 a2=>k ρ2 S2 σ2 H2 ad2 q2 (w1.trans w2) st2 rh2 (l2.trans l1) fun j hj=>(a2 j hj).trans (a1 j hj)
theorem zcc {es:List Expr}{k n:Nat}{t:DGs}(hc:X.calm=true)(h:zoz X b es t)(hn:(assignEach es X.env).length=n:=by rfl)(hst:(assignEach es X.env).findIdx? (·.1)=none:=by rfl):PGD X b (.Tuple es k pos) (zbZ n t):=by
 obtain⟨g,p,r⟩:=h
 refine⟨_,zhZ hc p hn hst,fun ad H S Z U d v Q0 Q st rh rv ⟨xs,ed,hl,q⟩ k=>?_⟩
 subst ed
 cases rv with
 | tup h1 rs=>exact⟨_,_,rfl,SqT.of h1,by rw [<- rs.length];exact hl,r ad H S Z U xs _ _ _ st rh rs q k⟩
theorem zkU {o i:Expr}{to ti:DE}(ho:PD X o to)(hi:PD X i ti)
  (ha:∀ v,assign (.Subscript o i pos) X.env v=(do
   let ov <- holding [v] (eval o X.env)
   let iv <- holding [v,ov] (eval i X.env)
   standAt pos
   holding [v,ov,iv] (setItem ov iv v)
   release [v,ov,iv] []):=by intro _;rfl):PGD X b (.Subscript o i pos) (zi3 to ti):=by with_unfolding_all exact (⟨_,zwY ho hi set_list ha,fun ad H S Z U d v Q0 Q st rh r q k=>⟨ad,Z,S,_,st,rh,q,fun x S1 u H1 ad1 q1 w1 st1 r1=>⟨ad1,Z,S1,_,st1,rh.wd w1,q1,fun y S2 z H2 ad2 q2 w2 st2 r2=>by
  obtain⟨n,xs,kk,j,ex,ey,hn,hj,q3⟩:=q2
  subst ex ey
  cases r2
  cases r1 with
  | ref e =>
   have e2:=zk2 w2.pre e
   obtain⟨ws,hw,rw⟩:=st2.cell n _ _ e2 hn
   have rd:=r.wd (w1.trans w2)
   exact⟨_,ws,kk,j,rfl,rfl,hw,by rw [<- rw.length];exact hj,k Z _ U _ ad2 q3 ((w1.trans w2).trans (Wd.put e2 hw)) (st2.put e2 hw (rw.set rd j)) (rh.wd ((w1.trans w2).trans (Wd.put e2 hw))) rfl fun _ _=>rfl⟩⟩⟩⟩)
variable {st:Stmt}{sts:List Stmt}{t u:DS}{e:Expr}{te:DE}
theorem zV:zfY X [] zag:=by with_unfolding_all exact (zl5 zul fun E U H hh=>el8 hh fun ad Z S E0 so rh q k=>k.nx Z S U H ad q Wd.refl so rh)
theorem zu (h:PSD X st t):zfY X [st] t:=by with_unfolding_all exact (zu2 h)
theorem zp (h1:PSD X st t)(h2:zfY X sts u):zfY X (st::sts) (zG t u):=by with_unfolding_all exact (zl5 (zrF h1 h2) fun E U H hh=>el8 hh fun ad Z S E0 so rh q k =>
 ⟨ad,Z,S,{ E0 with nx:=u E0 },so,rh,q,⟨fun ρ' S' σ' H' ad' q' w st' rh'=>⟨ad',ρ',S',E0,st',rh',q',k.wd w⟩,k.rt,k.bk,k.ct⟩⟩)
theorem zbf:PSD X st zcG:=by with_unfolding_all exact (zbC zsc fun E U H hh=>el8 hh fun ad Z S E0 so rh q k=>q)
theorem zad (he:PD X e te)(hs:swapsWith e none pos.line X.env=pure false:=by rfl):PSD X (.Expr e pos) (zaq te):=by with_unfolding_all exact (zbC (zuH he hs) fun E U H hh=>el8 hh fun ad Z S E0 so rh q k =>
 ⟨ad,Z,S,_,so,rh,q,fun d S' v H' ad' q' w st' r=>k.nx Z S' U H' ad' q' w st' (rh.wd w)⟩)
theorem zM (he:PD X e te):PSD X (.Return (some e) pos) (z9 te):=by with_unfolding_all exact (zbC (zw6 he) fun E U H hh=>el8 hh fun ad Z S E0 so rh q k=>⟨ad,Z,S,_,so,rh,q,k.rt⟩)
theorem zjG (h:PSD X st t):PSD X st (sJ t):=by with_unfolding_all exact (zbC h fun E U H ⟨ad,Z,S,E0,so,rh,⟨J,hJ,q⟩,k⟩ =>
 ⟨ad,Z,S,{ E0 with nx:=J },so,rh,q,⟨fun ρ' S' σ' H' ad' q' w st' rh'=>k.nx ρ' S' σ' H' ad' (hJ _ _ q') w st' rh',k.rt,k.bk,k.ct⟩⟩)
theorem zY {c:Expr}{a b:List Stmt}{tc:DT}(hc:PTD X c tc)(ha:zfY X a t)(hb:zfY X b u):PSD X (.If c a b pos) (sIf tc t u):=by with_unfolding_all exact (zbC (zyC hc ha hb) fun E U H hh=>el8 hh fun ad Z S E0 so rh q k =>
 ⟨ad,Z,S,_,so,rh,q,fun b S' H' ad' q' w st'=>by
  cases b with
  | true=>rw [if_pos rfl] at q' ⊢;exact⟨ad',Z,S',E0,st',rh.wd w,q',k.wd w⟩
  | false=>rw [if_neg qq] at q' ⊢;exact⟨ad',Z,S',E0,st',rh.wd w,q',k.wd w⟩⟩)
theorem zF {i:Nat}{x:Str}{pos':Pos}(hN:X.N.Nodup)(he:PD X e te)(hi:X.N[i]?=some x:=by rfl)(hx:Loc X.env.scope x:=by first | exact Or.inl rfl | exact Or.inr rfl)(hs:swapsWith e (some (.Name x pos')) pos.line X.env=pure false:=by rfl)(hf:X.fn x=true\/X.env.scope.names.lookup x=some .local:=by first | exact .inl rfl | exact .inr rfl | assumption) :
  PSD X (.Assign [.Name x pos'] e pos) (zO te (zB i)):=by with_unfolding_all exact (zbC (zwW hN hi hx he hs hf) fun E U H hh=>el8 hh fun ad Z S E0 so rh q k =>
 ⟨ad,Z,S,_,so,rh,q,fun d S' v H' ad' q' w st' r=>k.nx _ S' _ H' ad' q' w st' ((rh.wd w).set r i)⟩)
theorem zin {tg:Expr}{g:DG}(he:PD X e te)(hg:PGD X 1000 tg g)(hs:swapsWithSole [tg] e pos.line X.env=pure false:=by rfl)(hw:swappedStores [tg] e X.env=pure none:=by rfl)
  (h1:(assignEach [tg] X.env).map (·.2)=[assign tg X.env]:=by rfl):PSD X (.Assign [tg] e pos) (zO te g):=by
 with_unfolding_all
  obtain⟨g',p,r⟩:=hg
  exact zbC (zxb he p hs hw h1) fun E U H hh=>el8 hh fun ad Z S E0 so rh q k =>
   ⟨ad,Z,S,_,so,rh,q,fun d S' v H' ad' q' w st' rv=>r ad' H' S' Z U d v _ _ st' (rh.wd w) rv q' fun ρ2 S2 σ2 H2 ad2 q2 w2 st2 rh2 _ _=>k.nx ρ2 S2 σ2 H2 ad2 q2 (w.trans w2) st2 rh2⟩
theorem zuX {i:Nat}{x:Str}{pos':Pos}(hN:X.N.Nodup)(he:PD X e te)(hi:X.N[i]?=some x:=by rfl)(hx:Loc X.env.scope x:=by first | exact Or.inl rfl | exact Or.inr rfl)(hf:X.fn x=true\/X.env.scope.names.lookup x=some .local:=by first | exact .inl rfl | exact .inr rfl | assumption) :
  PSD X (.AugAssign (.Name x pos') .Add e pos) (zsO i te):=by with_unfolding_all exact (zbC (zv2 hN hi hx he zwG hf) fun E U H ⟨ad,Z,S,E0,so,rh,⟨a,ea,q⟩,k⟩=>by
 obtain⟨v,ev,rv⟩:=rh.val i _ ea
 cases rv
 refine⟨_,ev,ad,Z,S,_,so,rh,q,fun d S' v H' ad' ⟨b,eb,q'⟩ w st' r=>?_⟩
 subst eb
 cases r
 exact⟨a,b,rfl,rfl,k.nx _ S' _ H' ad' q' w st' ((rh.wd w).set (.int _) i)⟩)
theorem zfI {c:Expr}{body:List Stmt}{tc:DT}(hc:PTD X c tc)(hb:zfY X body t)(hp:PassesOwn (model X.prog X.w) X.A X.env X.xe:=by first | exact PassesOwn.never | exact PassesOwn.leaving):PSD X (.While c body [] pos) (zfm tc t):=by with_unfolding_all exact (zbC (zr4 hp hc hb) fun E U H ⟨ad,Z,S,E0,so,rh,⟨W,⟨m0,w0⟩,turn⟩,k⟩=>by
 refine⟨fun m σ' H'=>∃ ad' ρ' S',W m ρ' S'/\Wd ad H ad' H'/\zQ X.K ad' H' S'/\zaI X.K ad' H' ρ' σ',⟨m0,ad,Z,S,w0,Wd.refl,so,rh⟩,?_⟩
 rintro m σ1 H1 ⟨ad1,ρ1,S1,w1,d1,st1,rh1⟩
 refine⟨ad1,ρ1,S1,_,st1,rh1,turn m ρ1 S1 w1,fun b S2 H2 ad2 q2 d2 st2=>?_⟩
 cases b with
 | true =>
  rw [if_pos rfl] at q2 ⊢
  obtain⟨N,hN,q2⟩:=q2
  refine⟨fun σ' H'=>∃ ad' ρ' S',N ρ' S'/\Wd ad H ad' H'/\zQ X.K ad' H' S'/\zaI X.K ad' H' ρ' σ',?_,ad2,ρ1,S2,{ E0 with nx:=N,ct:=N,bk:=E0.nx },st2,rh1.wd d2,q2,?_⟩
  ·rintro σ' H' ⟨ad',ρ',S',n',d',st',rh'⟩
   obtain⟨m',hm,w'⟩:=hN ρ' S' n'
   exact⟨m',hm,ad',ρ',S',w',d',st',rh'⟩
  ·have d12:=d1.trans d2
   exact⟨fun ρ' S' σ' H' ad' q' w' st' rh'=>⟨ad',ρ',S',q',d12.trans w',st',rh'⟩,k.rt.wd d12,fun ρ' S' σ' H' ad' q' w' st' rh'=>k.nx ρ' S' σ' H' ad' q' (d12.trans w') st' rh',fun ρ' S' σ' H' ad' q' w' st' rh'=>⟨ad',ρ',S',q',d12.trans w',st',rh'⟩⟩
 | false =>
  rw [if_neg qq] at q2 ⊢
  exact k.nx ρ1 S2 σ1 H2 ad2 q2 (d1.trans d2) st2 (rh1.wd d2))
end
structure zgF (K:PySem.W.Frag)(ad0:List Addr)(H0:Hp)(J0:DIt)(J:It):Prop where
 go:∀ ad H S i,Wd ad0 H0 ad H->zQ K ad H S->J0.ok S->i<J0.items.length->J.go i H
 yld:∀ ad H S i d x H',Wd ad0 H0 ad H->zQ K ad H S->J0.ok S->J0.items[i]?=some d->J.yld i H x H'->Wd ad H ad H'/\zQ K ad H' S/\Rel K ad H' d x
 stop:∀ ad H S,Wd ad0 H0 ad H->zQ K ad H S->J0.ok S->J.stop J0.items.length H
def upI (K:PySem.W.Frag)(wi:DI):TI:=fun U H R=>∃ ad Z S R0,zQ K ad H S/\zaI K ad H Z U/\wi Z S R0/\∀ J0 S' J H' ad',R0 J0 S'->Wd ad H ad' H'->zQ K ad' H' S'->zgF K ad' H' J0 J->R J H'
@[irreducible] def PID (X:Cx)(tg iter:Expr)(wi:DI):Prop:=PI X tg iter (upI X.K wi)
theorem zim {X:Cx}{tg iter:Expr}{w w':TI}(h:PI X tg iter w)(m:∀ U H R,w' U H R->w U H R):PI X tg iter w':=fun pins s U H R I q=>h pins s U H R I (m U H R q)
section
variable {X:Cx}{tg e:Expr}
def Its (z:Str):It:=⟨fun i _=>i<z.cps.size,fun i H x H'=>H'=H/\∃ c,z.cps[i]?=some c/\x=.str ⟨#[c]⟩,fun i _=>z.cps.size<=i⟩
theorem zre {P:Program}{w:World}{K:PySem.W.Frag}{tg:Expr}(z:Str)(t:Tok)(it:Addr):Turn P w K tg (Its z) [it] it (fun i h=>h.IsStrIter it "str_ascii_iterator" z t i) where
 mem:=by simp
 obj:=fun i h st b hb=>by
  have e:b=it:=by simpa using hb
  subst e
  obtain⟨o,e,c,d⟩:=st
  exact⟨o,e,fun v y=>by rw [d] at y;cases y⟩
 keep:=fun i h h' st k=>let ⟨o,e,r⟩:=st;⟨o,k it (by simp) o e,r⟩
 item:=by
  intro X hP hw hK hc i pins s U H E I hf st hg
  subst hP hw hK
  have hg:i<z.cps.size:=hg
  obtain⟨f0,f1,f2,f3,f4,f5⟩:=hf it (by simp)
  refine wpAny_pyNext_ascii_item st (c:=z.cps[i]) (by simp [hg]) fun h' st' sb=>?_
  have I1:Inv X pins U H { s with heap:=h',toks:=s.toks+1 }:=I.turned (t':=s.toks+1) (fun b o hb e=>(sb.2 b hb).trans e) f0 f1 f3 f4 f5
  obtain⟨o,e,c,d⟩:=id st'
  exact⟨_,rfl,ziD (s:={ s with heap:=h',toks:=s.toks+1 }) e c d (by decide) ⟨.str ⟨#[z.cps[i]]⟩,H,I1,⟨_,rfl⟩,⟨rfl,z.cps[i],by simp [hg],rfl⟩,st',fun b hb=>(hf b hb).1⟩⟩
 done:=by
  intro X hP hw hK hc i pins s U H E I hf st hg
  subst hP hw hK
  have hg:z.cps.size<=i:=hg
  obtain⟨f0,f1,f2,f3,f4,f5⟩:=hf it (by simp)
  exact wpAny_pyNext_ascii_end (I.ok.hd hc) st (by simp [hg]) fun h' eb=>⟨rfl,I.turned (t':=s.toks) (fun b o hb e=>eb b o hb e) f0 f1 f3 f4 f5⟩
 self:=fun _ _ _ _ _ st hQ=>wpAny_pyIter_striter_ascii st hQ
theorem zqw {P:Program}{w:World}{K:PySem.W.Frag}{tg:Expr}(z:Str)(t:Tok)(it:Addr):Turn P w K tg (Its z) [it] it (fun i h=>h.IsStrIter it "str_iterator" z t i) where
 mem:=by simp
 obj:=fun i h st b hb=>by
  have e:b=it:=by simpa using hb
  subst e
  obtain⟨o,e,c,d⟩:=st
  exact⟨o,e,fun v y=>by rw [d] at y;cases y⟩
 keep:=fun i h h' st k=>let ⟨o,e,r⟩:=st;⟨o,k it (by simp) o e,r⟩
 item:=by
  intro X hP hw hK hc i pins s U H E I hf st hg
  subst hP hw hK
  have hg:i<z.cps.size:=hg
  obtain⟨f0,f1,f2,f3,f4,f5⟩:=hf it (by simp)
  refine wpAny_pyNext_wide_item st (c:=z.cps[i]) (by simp [hg]) fun h' st' sb=>?_
  have I1:Inv X pins U H { s with heap:=h',toks:=s.toks+1 }:=I.turned (t':=s.toks+1) (fun b o hb e=>(sb.2 b hb).trans e) f0 f1 f3 f4 f5
  obtain⟨o,e,c,d⟩:=id st'
  exact⟨_,rfl,ziD (s:={ s with heap:=h',toks:=s.toks+1 }) e c d (by decide) ⟨.str ⟨#[z.cps[i]]⟩,H,I1,⟨_,rfl⟩,⟨rfl,z.cps[i],by simp [hg],rfl⟩,st',fun b hb=>(hf b hb).1⟩⟩
 done:=by
  intro X hP hw hK hc i pins s U H E I hf st hg
  subst hP hw hK
  have hg:z.cps.size<=i:=hg
  obtain⟨f0,f1,f2,f3,f4,f5⟩:=hf it (by simp)
  exact wpAny_pyNext_wide_end (I.ok.hd hc) st (by simp [hg]) fun h' eb=>⟨rfl,I.turned (t':=s.toks) (fun b o hb e=>eb b o hb e) f0 f1 f3 f4 f5⟩
 self:=fun _ _ _ _ _ st hQ=>wpAny_pyIter_striter_wide st hQ
def ztS (K:PySem.W.Frag)(tl:TE):TI:=fun U H R=>tl U H fun x H1=>(∃ a,x=.ref a/\(((∃ xs,SqL K H1 a xs)/\R (Itl K a) H1)\/((∃ xs,SqT K H1 a xs)/\R (Itt K a) H1)))\/(∃ z,x=.str z/\R (Its z) H1)
theorem zpR {l:Expr}{tl:TE}(hl:PE X l tl):PI X tg l (ztS X.K tl):=by
  intro pins s U H R I h
  refine thn (hl pins s U H _ I h) fun v s1 ⟨x,H1,I1,r1,q1⟩=>?_
  rcases q1 with ⟨a,e,q1⟩ | ⟨z,e,q⟩
  case inr =>
    subst e
    obtain⟨t,rfl⟩:=r1
    have fp:∀ b∈[s1.heap.objs.size],zfn X pins H1 b:=fun b hb=>by
      have e:b=s1.heap.objs.size:=by simpa using hb
      subst e
      exact I1.fpOk (qf _) (I1.hok.fresh (qf _))
    cases ha:z.cps.all (· < 128) with
    | true=>exact wpAny_pyIter_ascii ha ⟨s1.heap.objs.size,[s1.heap.objs.size],_,_,H1,rfl,I1.kept (t':=s1.toks) fun b o e=>qd _ e,zre z t _,⟨_,qp _ rfl,rfl,rfl⟩,fp,q⟩
    | false=>exact wpAny_pyIter_wide ha ⟨s1.heap.objs.size,[s1.heap.objs.size],_,_,H1,rfl,I1.kept (t':=s1.toks) fun b o e=>qd _ e,zqw z t _,⟨_,qp _ rfl,rfl,rfl⟩,fp,q⟩
  subst e
  cases r1
  rcases q1 with ⟨⟨xs,hq⟩,q⟩ | ⟨⟨xs,hq⟩,q⟩
  . obtain⟨its,rv,p,hz⟩:=I1.list hq
    refine wpAny_pyIter_list p.isList ?_
    refine⟨s1.heap.objs.size,[s1.heap.objs.size],_,_,H1,rfl,I1.kept (t':=s1.toks) fun b o e=>qd _ e,zpZ a _,⟨_,qp _ rfl,rfl,rfl⟩,fun b hb=>?_,q⟩
    have e:b=s1.heap.objs.size:=by simpa using hb
    subst e
    exact I1.fpOk (qf _) (I1.hok.fresh (qf _))
  . obtain⟨its,rv,p,hz⟩:=I1.tuple hq
    refine wpAny_pyIter_tuple (show s1.heap.IsTuple a its.toArray from p) ?_
    refine⟨s1.heap.objs.size,[s1.heap.objs.size],_,_,H1,rfl,I1.kept (t':=s1.toks) fun b o e=>qd _ e,zo8 a _,⟨_,qp _ rfl,rfl,rfl⟩,fun b hb=>?_,q⟩
    have e:b=s1.heap.objs.size:=by simpa using hb
    subst e
    exact I1.fpOk (qf _) (I1.hok.fresh (qf _))
theorem zxl {K:PySem.W.Frag}{ad:List Addr}{H:Hp}(z:Str):zgF K ad H ⟨signs z,fun _=>True⟩ (Its z) where
 go:=fun ad1 H1 S i w st _ hi=>by
  show i<z.cps.size
  have:i<(signs z).length:=hi
  unfold signs at this
  rw [qb] at this
  simpa using this
 yld:=fun ad1 H1 S i d x H' w st _ hd ⟨e,c,hc,hx⟩=>by
  subst e hx
  have hd:(signs z)[i]?=some d:=hd
  unfold signs at hd
  rw [qo,Array.getElem?_toList,hc] at hd
  cases hd
  exact⟨Wd.refl,st,.str _⟩
 stop:=fun ad1 H1 S w st _=>by
  show z.cps.size<=(signs z).length
  unfold signs
  rw [qb];simp
theorem zwu {K:PySem.W.Frag}{ad:List Addr}{H:Hp}{a:Addr}{vs:List V}{ds:List D}(h:H a=some (.tup vs))(r:zK K ad H ds vs):zgF K ad H ⟨ds,fun _=>True⟩ (Itt K a) where
 go:=fun ad1 H1 S i w st _ hi=>⟨vs,vs[i]'(by rw [<- r.length];exact hi),SqT.of (w.tup _ _ h),qc _⟩
 yld:=fun ad1 H1 S i d x H' w st _ hd ⟨e,hx⟩=>by
  subst e
  obtain⟨v,ev,rv⟩:=r.get hd
  rw [hx vs (SqT.of (w.tup _ _ h))] at ev
  cases ev
  exact⟨Wd.refl,st,rv.wd w⟩
 stop:=fun ad1 H1 S w st _=>⟨vs,SqT.of (w.tup _ _ h),by rw [<- r.length];exact qf _⟩
theorem zwm {K:PySem.W.Frag}{ad:List Addr}{H:Hp}{a:Addr}{x:D}{ds:List D}(r:Rel K ad H x (.ref a)):zgF K ad H ⟨ds,fun S=>Lst S x ds⟩ (Itl K a) where
 go:=fun ad1 H1 S i w st ok hi=>by
  obtain⟨a',vs,e,s,rs⟩:=Lst.sq st ok (r.wd w)
  cases e
  exact⟨vs,vs[i]'(by rw [<- rs.length];exact hi),s,qc _⟩
 yld:=fun ad1 H1 S i d y H' w st ok hd ⟨e,hx⟩=>by
  subst e
  obtain⟨a',vs,e,s,rs⟩:=Lst.sq st ok (r.wd w)
  cases e
  obtain⟨v,ev,rv⟩:=rs.get hd
  rw [hx vs s] at ev
  cases ev
  exact⟨Wd.refl,st,rv⟩
 stop:=fun ad1 H1 S w st ok=>by
  obtain⟨a',vs,e,s,rs⟩:=Lst.sq st ok (r.wd w)
  cases e
  exact⟨vs,s,by rw [<- rs.length];exact qf _⟩
theorem zam {t:DE}(h:PD X e t):PID X tg e (zaN t):=by with_unfolding_all exact (zim (zpR h) fun U H R hh=>el8 hh fun ad Z S R0 st rh q k =>
 ⟨ad,Z,S,_,st,rh,q,fun x S1 v H1 ad1 q1 w1 st1 r1=>by
  rcases q1 with ⟨xs,rfl,q1⟩ | ⟨xs,hx,q1⟩ | ⟨z,rfl,q1⟩
  ·cases r1 with
   | tup h1 rs=>exact .inl ⟨_,rfl,.inr ⟨⟨_,SqT.of h1⟩,k _ S1 _ H1 ad1 q1 w1 st1 (zwu h1 rs)⟩⟩
  ·obtain⟨a,vs,rfl,s,rs⟩:=hx.sq st1 r1
   exact .inl ⟨a,rfl,.inl ⟨⟨vs,s⟩,k _ S1 _ H1 ad1 q1 w1 st1 (zwm r1)⟩⟩
  ·cases r1
   exact .inr ⟨z,rfl,k _ S1 _ H1 ad1 q1 w1 st1 (zxl z)⟩⟩)
theorem zrt {lo:Int}{n i:Nat}{d:D}(h:(upto lo n)[i]?=some d):i<n/\d=.int (lo+i):=by
 unfold upto at h
 rw [qo] at h
 have hi:=My.za1 (xs:=List.range n) (i:=i) (x:=i)
 cases hr:(List.range n)[i]? with
 | none=>rw [hr] at h;cases h
 | some k =>
  rw [hr] at h
  have h1:=My.za1 hr
  rw [List.length_range] at h1
  have h2:(List.range n)[i]?=some i:=List.getElem?_range h1
  rw [hr] at h2
  cases h2
  cases h
  exact⟨h1,rfl⟩
theorem zmB (lo:Int)(n:Nat):(upto lo n).length=n:=by unfold upto;rw [qb,List.length_range]
theorem zrg {K:PySem.W.Frag}{ad:List Addr}{H:Hp}(lo:Int)(n:Nat):zgF K ad H ⟨upto lo n,fun _=>True⟩ (Itr lo n) where
 go:=fun ad1 H1 S i w st _ hi=>by rw [zmB] at hi;exact hi
 yld:=fun ad1 H1 S i d x H' w st _ hd ⟨e,hx⟩=>by
  subst e
  obtain⟨_,rfl⟩:=zrt hd
  rw [hx]
  exact⟨Wd.refl,st,.int _⟩
 stop:=fun ad1 H1 S w st _=>by rw [zmB];exact qf _
theorem zrn {P:Program}{w:World}{K:PySem.W.Frag}{tg:Expr}(it:Addr)(lo:Int)(n:Nat):Turn P w K tg (Itr lo n) [it] it (fun i h=>IsLongIter h it (lo+(i:Nat)*1) ((n:Int)-(i:Nat)) 1) where
 mem:=by simp
 obj:=fun i h st b hb=>by
  have e:b=it:=by simpa using hb
  subst e
  exact⟨_,st,fun v z=>by
   have z':Data.fields _=Data.cell v:=z
   cases z'⟩
 keep:=fun i h h' st k=>k it (by simp) _ st
 item:=by
  intro X hP hw hK hc i pins s U H E I hf st' hg
  subst hP hw hK
  obtain⟨f0,f1,f2,f3,f4,f5⟩:=hf it (by simp)
  have W:=Walks.longrange (prog:=X.prog) (w:=X.w) (I.ok.hd hc) it lo 1 n
  refine W.item i s _ _ hg st' fun v h' tk hv st'' kk=>?_
  obtain⟨t,rfl⟩:=hv
  have I1:Inv X pins U H { s with heap:=h',toks:=tk }:=I.turned (fun b o hb e=>kk b o (by simpa using hb) e) f0 f1 f3 f4 f5
  rw [Int.mul_one]
  exact⟨_,rfl,ziD (s:={ s with heap:=h',toks:=tk }) (n:="longrange_iterator") st'' rfl rfl (by decide) ⟨.int (lo+i),H,I1,⟨t,rfl⟩,⟨rfl,rfl⟩,st'',fun b hb=>(hf b hb).1⟩⟩
 done:=by
  intro X hP hw hK hc i pins s U H E I hf st' hg
  subst hP hw hK
  obtain⟨f0,f1,f2,f3,f4,f5⟩:=hf it (by simp)
  exact wpAny_pyNext_long_end (I.ok.hd hc) st' (by have:n<=i:=hg;lia) fun h' eb=>⟨rfl,I.turned (t':=s.toks) (fun b o hb e=>eb b o hb e) f0 f1 f3 f4 f5⟩
 self:=fun _ _ _ _ _ st h=>wpAny_pyIter_longiter st h
theorem range_any {pins:List (Addr×Obj)}{U:L2.St}{H:Hp}{s:Shared}{R:It->Hp->Prop}{E:Value->Shared->Prop}{lo hi:Int}{t u v:Tok}{tk:Nat}(I:Inv X pins U H s)
    (q:R (Itr lo (hi-lo).toNat) H):wpAny (model X.prog X.w) X.A (pyIter (.ref s.heap.objs.size)) (PIE X pins U tg R) E { s with heap:=s.heap.push { cls:=.type "range",data:=.fields #[.int lo t,.int hi u,.int 1 v] },toks:=tk }:=by
  have I1:Inv X pins U H { s with heap:=s.heap.push { cls:=.type "range",data:=.fields #[.int lo t,.int hi u,.int 1 v] },toks:=tk }:=I.kept fun b o e=>qd _ e
  have e1:lo+((0:Nat):Int)*1=lo:=by simp
  have e2:(((hi-lo).toNat:Nat):Int)-((0:Nat):Int)=Builtin.Range.rangeSize lo hi 1:=by rw [rangeSize_one];split<;>lia
  cases hsm:Builtin.Range.small lo hi 1 with
  | true =>
    refine wpAny_pyIter_range (IsRange.new ..) hsm ?_
    refine⟨(s.heap.push { cls:=.type "range",data:=.fields #[.int lo t,.int hi u,.int 1 v] }).objs.size,[(s.heap.push { cls:=.type "range",data:=.fields #[.int lo t,.int hi u,.int 1 v] }).objs.size],_,_,H,rfl,
      I1.kept (t':=tk) fun b o e=>qd _ e,zj8 _ lo (hi-lo).toNat,?_,fun b hb=>?_,q⟩
    . show IsRangeIter _ _ (lo+((0:Nat):Int)*1) ((((hi-lo).toNat:Nat):Int)-((0:Nat):Int)) 1
      rw [e1,e2]
      exact qp _ rfl
    . have e:b=(s.heap.push { cls:=.type "range",data:=.fields #[.int lo t,.int hi u,.int 1 v] }).objs.size:=by simpa using hb
      subst e
      exact I1.fpOk (qf _) (I1.hok.fresh (qf _))
  | false =>
    refine wpAny_pyIter_longrange (IsRange.new ..) hsm ?_
    refine⟨(s.heap.push { cls:=.type "range",data:=.fields #[.int lo t,.int hi u,.int 1 v] }).objs.size,[(s.heap.push { cls:=.type "range",data:=.fields #[.int lo t,.int hi u,.int 1 v] }).objs.size],_,_,H,rfl,
      I1.kept (t':=tk) fun b o e=>qd _ e,zrn _ lo (hi-lo).toNat,?_,fun b hb=>?_,q⟩
    . show IsLongIter _ _ (lo+((0:Nat):Int)*1) ((((hi-lo).toNat:Nat):Int)-((0:Nat):Int)) 1
      rw [e1,e2]
      exact qp _ rfl
    . have e:b=(s.heap.push { cls:=.type "range",data:=.fields #[.int lo t,.int hi u,.int 1 v] }).objs.size:=by simpa using hb
      subst e
      exact I1.fpOk (qf _) (I1.hok.fresh (qf _))
theorem zkr {a:Expr}{t:DA}{p pos:Pos}(hm:X.mg "range"=none)(ha:PAD X [a] t)(hg:Gl X "range":=by rfl)(hs:starEach [a] X.env=[(false,eval a X.env)]:=by exact zee rfl):PID X tg (.Call (.Name "range" p) [a] [] pos) (zhe t):=by with_unfolding_all exact (zim (zqX hg hm ha hs) fun U H R hh=>el8 hh fun ad Z S R0 st rh q k =>
 ⟨ad,Z,S,_,st,rh,q,fun ds S1 vs H1 ad1 ⟨j,ed,b1,b2,q1⟩ w1 st1 r1=>by
  subst ed
  obtain⟨v,rfl,rv⟩:=zcs r1
  cases rv
  exact⟨j,rfl,b1,b2,k _ S1 _ H1 ad1 q1 w1 st1 (zrg 0 j.toNat)⟩⟩)
theorem zun {a b:Expr}{t:DA}{p pos:Pos}(hm:X.mg "range"=none)(ha:PAD X [a,b] t)(hg:Gl X "range":=by rfl)(hs:starEach [a,b] X.env=[(false,eval a X.env),(false,eval b X.env)]:=by exact zmU rfl rfl)(hs2:starEach [b] X.env=[(false,eval b X.env)]:=by exact zee rfl) :
  PID X tg (.Call (.Name "range" p) [a,b] [] pos) (zpk t):=by
 with_unfolding_all
  rintro pins s U H R I ⟨ad,Z,S,R0,st,rh,q,k⟩
  refine Call_ (zdT I hg hm boot_range (PyProof.Rows.callWith_type1 (thn (ha pos pins s U H (fun vs H1=>∃ i j:Int,vs=[.int i,.int j]/\R (Itr i (j-i).toNat) H1) I ⟨ad,Z,S,_,st,rh,q,fun ds S1 vs H1 ad1 ⟨i,j,ed,q1⟩ w1 st1 r1=>by
   subst ed
   obtain⟨v,u,rfl,rv,ru⟩:=zjs r1
   cases rv
   cases ru
   exact⟨i,j,rfl,k _ S1 _ H1 ad1 q1 w1 st1 (zrg i _)⟩⟩) fun us s1 ⟨vs,H1,I1,r1,q1⟩=>?_) (by rw [hs,hs2]) (by rw [hs2];rfl)))
  obtain⟨i,j,e,q⟩:=q1
  subst e
  cases r1 with
  | cons r rr =>
   cases rr with
   | cons r' rr =>
    cases rr
    obtain⟨t,rfl⟩:=r
    obtain⟨t',rfl⟩:=r'
    exact call_range_2 (range_any I1 q)
theorem zan {iter:Expr}{body:List Stmt}{wi:DI}{g:DG}{t:DS}{pos:Pos}(hi:PID X tg iter wi)(hg:PGD X 1000 tg g)(hb:zfY X body t)(hp:PassesOwn (model X.prog X.w) X.A X.env X.xe:=by first | exact PassesOwn.never | exact PassesOwn.leaving)(hc:X.calm=true:=by rfl)(hs:∀ x,foldedSetIterable iter X.env x=pure x:=by intro _;rfl):PSD X (.For tg iter body [] pos) (za3 wi g t):=by
 with_unfolding_all
  obtain⟨g',pg,rg⟩:=hg
  refine zbC (zvG hp hc hi pg hb hs) fun E U H hh=>el8 hh fun ad Z S E0 so rh q k=>?_
  refine⟨ad,Z,S,_,so,rh,q,fun J0 S1 J H1 ad1 ⟨W,w0,hok,step,fin⟩ d1 st1 it=>?_⟩
  refine⟨fun i m σ' H'=>m=J0.items.length-i/\i<=J0.items.length/\∃ ad' ρ' S',W i ρ' S'/\Wd ad1 H1 ad' H'/\zQ X.K ad' H' S'/\zaI X.K ad' H' ρ' σ',⟨J0.items.length,rfl,qN _,ad1,Z,S1,w0,Wd.refl,st1,rh.wd d1⟩,?_⟩
  rintro i m σ2 H2 ⟨rfl,hi2,ad2,ρ2,S2,w2,d2,st2,rh2⟩
  by_cases hlt:i<J0.items.length
  ·have ed:J0.items[i]?=some J0.items[i]:=qc hlt
   refine .inr ⟨it.go ad2 H2 S2 i d2 st2 (hok _ _ _ w2) hlt,fun σ' H'=>∃ ad' ρ' S',W (i+1) ρ' S'/\Wd ad1 H1 ad' H'/\zQ X.K ad' H' S'/\zaI X.K ad' H' ρ' σ',?_,fun x H' hy=>?_⟩
   ·rintro σ' H' ⟨ad',ρ',S',w',d',st',rh'⟩
    exact⟨J0.items.length-(i+1),by lia,rfl,hlt,ad',ρ',S',w',d',st',rh'⟩
   ·obtain⟨d3,st3,r3⟩:=it.yld ad2 H2 S2 i _ x H' d2 st2 (hok _ _ _ w2) ed hy
    refine rg ad2 H' S2 ρ2 σ2 _ x _ _ st3 (rh2.wd d3) r3 (step i _ ρ2 S2 ed w2) fun ρ4 S4 σ4 H4 ad4 q4 d4 st4 rh4 _ _=>?_
    have d14:=(d2.trans d3).trans d4
    have d04:=d1.trans d14
    exact⟨ad4,ρ4,S4,{ E0 with nx:=W (i+1),ct:=W (i+1),bk:=E0.nx },st4,rh4,q4,⟨fun ρ' S' σ' H' ad' q' w' st' rh'=>⟨ad',ρ',S',q',d14.trans w',st',rh'⟩,k.rt.wd d04,fun ρ' S' σ' H' ad' q' w' st' rh'=>k.nx ρ' S' σ' H' ad' q' (d04.trans w') st' rh',fun ρ' S' σ' H' ad' q' w' st' rh'=>⟨ad',ρ',S',q',d14.trans w',st',rh'⟩⟩⟩
  ·have e:i=J0.items.length:=by lia
   subst e
   exact .inl ⟨it.stop ad2 H2 S2 d2 st2 (hok _ _ _ w2),k.nx ρ2 S2 σ2 H2 ad2 (fin ρ2 S2 w2) (d1.trans d2) st2 rh2⟩
end
theorem zmc:∀ {a b:L2.St} (n:Nat),(∀ j,j<n->a[j]?=some none\/a.length<=j)->b.length=a.length->(∀ j,n<=j->b[j]?=a[j]?)->Agr a b
 | [],[],_,_,_,_=>True.intro
 | [],_::_,_,_,h,_=>by simp at h
 | _::_,[],_,_,h,_=>by simp at h
 | x::a,y::b,n,h0,hl,h=>by
  have hl':b.length=a.length:=by simpa using hl
  cases n with
  | zero =>
   have e:=h 0 (qf _)
   have e':y=x:=by simpa using e
   subst e'
   have rest:Agr a b:=zmc 0 (fun j hj=>absurd hj (Nat.not_lt_zero _)) hl' fun j _=>by simpa using h (j+1) (qN _)
   cases y with
   | none=>exact rest
   | some v=>exact⟨rfl,rest⟩
  | succ n =>
   have rest:Agr a b:=zmc n (fun j hj=>by
    rcases h0 (j+1) (by lia) with e | e
    ·exact .inl (by simpa using e)
    ·exact .inr (by simpa using e)) hl' fun j hj=>by simpa using h (j+1) (by lia)
   rcases h0 0 (Nat.succ_pos _) with e | e
   ·have e':x=none:=by simpa using e
    subst e'
    exact rest
   ·simp at e
theorem zux {K:PySem.W.Frag}{ad:List Addr}{H:Hp}{Z:Rho}{U:L2.St}(h:zaI K ad H Z U)(own:List Str)(fv:List Nat):zaI K ad H (zkN own.length fv Z) (cst own fv U) where
  len:=by unfold zkN cst;rw [qg,qg,qI,qI,qb,qb]
  val:=fun i d e=>by
    unfold zkN at e
    unfold cst
    by_cases hi:i<own.length
    . rw [qj (by rw [qI];exact hi),List.getElem?_replicate] at e
      split at e<;>cases e
    . have hi':own.length<=i:=Nat.le_of_not_lt hi
      rw [qi (by rw [qI];exact hi'),qI,qo] at e
      rw [qi (by rw [qI];exact hi'),qI,qo]
      cases hf:fv[i-own.length]? with
      | none=>rw [hf] at e;cases e
      | some j =>
        rw [hf] at e
        simp only [Option.map_some,Option.some.injEq] at e ⊢
        cases hr:Z[j]? with
        | none=>rw [hr] at e;cases e
        | some o =>
          rw [hr] at e
          have e':o=some d:=e
          subst e'
          obtain⟨v,ev,rv⟩:=h.val j d hr
          exact⟨v,by rw [ev];rfl,rv⟩
@[irreducible] def zpr (X:Cx)(ifs:List Expr)(t:DT):Prop:=PFs X ifs (upT X.K t)
theorem zbD {X:Cx}:zpr X [] zcy:=by with_unfolding_all exact (fun pins s U H Q I hh=>el8 hh fun ad Z S Q0 st rh q k=>zwX pins s U H Q I (k true S H ad q Wd.refl st))
theorem zks {X:Cx}{c:Expr}{t:DT}(h:PTD X c t):zpr X [c] t:=by with_unfolding_all exact (zwn h)
theorem ofT {A B:Prop}(h:if true=true then A else B):A:=by rw [if_pos rfl] at h;exact h
theorem ofF {A B:Prop}(h:if false=true then A else B):B:=by rw [if_neg qq] at h;exact h
theorem zs5 {K:PySem.W.Frag}{own:List Str}{fv:List Nat}{wi:DI}{g:DG}{g':TG}{tc:DT}{te:DE}(rg:zjr K own.length g g'){U:L2.St}{H:Hp}{Q:VK}(h:up K (dLC own.length fv wi g tc te) U H Q):tLC own fv (upI K wi) g' (upT K tc) (up K te) U H Q:=by
 obtain⟨ad,Z,S,Q0,so,rh,q,k⟩:=h
 refine⟨ad,Z,S,_,so,rh,q,fun J0 S1 J H1 ad1 ⟨hbig,W,w0,hok,step,fin⟩ d1 st1 it=>?_⟩
 intro p hp
 refine⟨fun i m H'=>m=J0.items.length-i/\i<=J0.items.length/\∃ ad' S' ys vs,W i ys S'/\Wd ad1 H1 ad' H'/\zQ K ad' H' S'/\p∉ad'/\H' p=some (.lst vs)/\zK K ad' H' ys vs/\vs.length<=i,
  ⟨J0.items.length,rfl,qN _,ad1,S1,[],[],w0,Wd.laid hp,st1.laid hp,st1.fresh hp,zav,.nil,qf _⟩,?_⟩
 rintro i m H2 ⟨rfl,hi2,ad2,S2,ys,vs,w2,d2,st2,hp2,hv2,r2,hl2⟩
 by_cases hlt:i<J0.items.length
 ·have ed:J0.items[i]?=some J0.items[i]:=qc hlt
  refine .inr ⟨it.go ad2 H2 S2 i d2 st2 (hok _ _ _ w2) hlt,fun x H' hy=>?_⟩
  obtain⟨d3,st3,r3⟩:=it.yld ad2 H2 S2 i _ x H' d2 st2 (hok _ _ _ w2) ed hy
  have rh3:=zux (rh.wd ((d1.trans d2).trans d3)) own fv
  refine rg ad2 H' S2 _ _ _ x _ _ st3 rh3 r3 (step i _ ys S2 ed w2) fun ρ4 S4 σ4 H4 ad4 q4 d4 st4 rh4 l4 a4=>?_
  refine⟨zmc own.length (fun j hj=>.inl ?_) l4 a4,ad4,ρ4,S4,_,st4,rh4,q4,fun b S5 H5 ad5 q5 d5 st5=>?_⟩
  ·unfold cst
   rw [qj (by rw [qI];exact hj),List.getElem?_replicate,if_pos hj]
  have fwd:∀ {ad9:List Addr} {H9:Hp},Wd ad2 H2 ad9 H9->p∉ad9/\H9 p=some (.lst vs):=fun {ad9 H9} w=>⟨(fun m=>by
   have z:=w.new p m hp2
   rw [hv2] at z;cases z),w.keep p _ hp2 hv2⟩
  have d25:=(d3.trans d4).trans d5
  cases b with
  | true =>
   refine zrN ?_
   have q5:=Dp.ofT q5
   refine⟨ad5,ρ4,S5,_,st5,rh4.wd d5,q5,fun y S6 v H6 ad6 q6 d6 st6 r6=>?_⟩
   have d26:=d25.trans d6
   obtain⟨n6,e6⟩:=fwd d26
   have hw:Wr ad6 H6 ad6 (upd H6 p (.lst (vs++[v]))):=Wr.hid e6
   have hvl:vs.length<sizeLine:=zjN (by lia)
   exact⟨vs,e6,hvl,J0.items.length-(i+1),by lia,rfl,hlt,ad6,S6,ys++[y],vs++[v],q6,(d2.trans d26).hid hp,st6.hid e6 n6 (st1.bfree hp),n6,zav,zK.wr hw ((r2.wd d26).append (.cons r6 .nil)),by rw [qg];exact Nat.succ_le_succ hl2⟩
  | false =>
   refine zsk ?_
   have q5:=Dp.ofF q5
   obtain⟨n5,e5⟩:=fwd d25
   exact⟨J0.items.length-(i+1),by lia,rfl,hlt,ad5,S5,ys,vs,q5,d2.trans d25,st5,n5,e5,r2.wd d25,by lia⟩
 ·have e:i=J0.items.length:=by lia
  subst e
  refine .inl ⟨it.stop ad2 H2 S2 d2 st2 (hok _ _ _ w2),?_⟩
  exact k _ _ _ _ (ad2++[p]) (fin ys S2 w2) (d1.trans (d2.add hp)) (st2.add hv2 hp2 r2 (st1.bfree hp)) (.ref (by rw [<- st2.len,qi (qf _),Nat.sub_self];rfl))
section
variable {X:Cx}{sc:Scope}{tg iter elt:Expr}{ifs:List Expr}{own free:List Str}{fv:List Nat}{wi:DI}{g:DG}{tc:DT}{te:DE}{pos:Pos}
theorem zdA {g':TG}(hfr:zeC (fun x=>X.env.kindOf x=some .cell) sc.names)(hfv:zh6 X sc free fv)(hi:PID X tg iter wi)
  (hg:zjr X.K own.length g g'/\∀ cl C s₀ H₀ ex,PG (inner X sc (own++free) cl C s₀ H₀ ex) tg g') (ht:∀ cl C s₀ H₀ ex,zpr (inner X sc (own++free) cl C s₀ H₀ ex) ifs tc) (he:∀ cl C s₀ H₀ ex,PD (inner X sc (own++free) cl C s₀ H₀ ex) elt te) (hcalm:X.calm=true:=by rfl) (hxe:(X.xe=fun _ _=>False):=by rfl) (hkind:sc.kind=.function:=by rfl) (hcell:∀ y∈sc.names,y.2≠.cell:=by decide +kernel) (hnames:∀ y∈sc.names,y.2=.local->sc.names.lookup y.1=some .local:=by decide +kernel)
  (hs:∀ x,foldedSetIterable iter X.env x=pure x:=by intro _;rfl):PD X (.ListComp elt [⟨tg,iter,ifs,0⟩] sc pos) (dLC own.length fv wi g tc te):=by with_unfolding_all exact (zaS (zx7 (tc:=upT X.K tc) (te:=up X.K te) hcalm hxe hkind hcell hnames hfr hfv hi hg.2 ht he hs) fun _ _ _=>zs5 hg.1)
theorem zgz {g':TG}{i:Nat}{y:Str}{py spos:Pos}(hN:X.N.Nodup)(hfr:zeC (fun x=>X.env.kindOf x=some .cell) sc.names)(hfv:zh6 X sc free fv)(hi:PID X tg iter wi)
  (hg:zjr X.K own.length g g'/\∀ cl C s₀ H₀ ex,PG (inner X sc (own++free) cl C s₀ H₀ ex) tg g') (ht:∀ cl C s₀ H₀ ex,zpr (inner X sc (own++free) cl C s₀ H₀ ex) ifs tc) (he:∀ cl C s₀ H₀ ex,PD (inner X sc (own++free) cl C s₀ H₀ ex) elt te) (hy:X.N[i]?=some y:=by rfl) (hyl:X.env.scope.names.lookup y=some .local:=by rfl) (hcalm:X.calm=true:=by rfl) (hxe:(X.xe=fun _ _=>False):=by rfl) (hkind:sc.kind=.function:=by rfl) (hcell:∀ y∈sc.names,y.2≠.cell:=by decide +kernel) (hnames:∀ y∈sc.names,y.2=.local->sc.names.lookup y.1=some .local:=by decide +kernel)
  (hsw:swapsWith (.ListComp elt [⟨tg,iter,ifs,0⟩] sc pos) (some (.Name y py)) spos.line X.env=pure true:=by rfl)
  (hs:∀ x,foldedSetIterable iter X.env x=pure x:=by intro _;rfl):PSD X (.Assign [.Name y py] (.ListComp elt [⟨tg,iter,ifs,0⟩] sc pos) spos) (zO (dLC own.length fv wi g tc te) (zB i)):=by with_unfolding_all exact (zbC (ztZ (tc:=upT X.K tc) (te:=up X.K te) hN hy hyl hcalm hxe hkind hcell hnames hfr hfv hi hg.2 ht he hsw hs) fun E U H hh=>el8 hh fun ad Z S E0 so rh q k =>
  zs5 (Q:=fun x H1=>L2.zB i x U H1 E.nx) hg.1 ⟨ad,Z,S,_,so,rh,q,fun d S' v H' ad' q' w st' r=>k.nx _ S' _ H' ad' q' w st' ((rh.wd w).set r i)⟩)
theorem zfH {K:PySem.W.Frag}{b:Nat}:zkk K b zb3 L2.zb3:=fun ad H S Z U ds vs Q0 Q st rh r ⟨e,q⟩ k=>by
 subst e
 cases r
 exact⟨rfl,k Z S U H ad q Wd.refl st rh rfl fun _ _=>rfl⟩
theorem zbd {K:PySem.W.Frag}{b:Nat}{t:DG}{u:DGs}{t':TG}{u':TGs}(r1:zjr K b t t')(r2:zkk K b u u'):zkk K b (zah t u) (L2.zah t' u'):=fun ad H S Z U ds vs Q0 Q st rh r ⟨d,rs,ed,q⟩ k=>by
 subst ed
 cases r with
 | cons r t =>
  refine⟨_,_,rfl,r1 ad H S Z U d _ _ _ st rh r q fun ρ1 S1 σ1 H1 ad1 q1 w1 st1 rh1 l1 a1=>?_⟩
  exact r2 ad1 H1 S1 ρ1 σ1 _ _ _ _ st1 rh1 (t.wd w1) q1 fun ρ2 S2 σ2 H2 ad2 q2 w2 st2 rh2 l2 a2=>k ρ2 S2 σ2 H2 ad2 q2 (w1.trans w2) st2 rh2 (l2.trans l1) fun j hj=>(a2 j hj).trans (a1 j hj)
theorem zgy {K:PySem.W.Frag}{b n:Nat}{t:DGs}{t':TGs}(r:zkk K b t t'):zjr K b (zbZ n t) (L2.zbZ K n t'):=fun ad H S Z U d v Q0 Q st rh rv ⟨xs,ed,hl,q⟩ k=>by
 subst ed
 cases rv with
 | tup h1 rs=>exact⟨_,_,rfl,SqT.of h1,by rw [<- rs.length];exact hl,r ad H S Z U xs _ _ _ st rh rs q k⟩
end
theorem zlX {K:PySem.W.Frag}{ad:List Addr}{H:Hp}{ds:List D}{vs:List V}(N:List Str)(r:zK K ad H ds vs):zaI K ad H (zeK N.length ds) (L2.start N vs) where
  len:=by unfold zeK L2.start;rw [qg,qg,qb,qb,qI,qI,r.length]
  val:=fun i d e=>by
    unfold zeK at e
    unfold L2.start
    by_cases hi:i<ds.length
    . rw [qj (by rw [qb];exact hi),qo] at e
      rw [qj (by rw [qb,<- r.length];exact hi),qo]
      cases hd:ds[i]? with
      | none=>rw [hd] at e;cases e
      | some d' =>
        rw [hd] at e
        cases e
        obtain⟨v,ev,rv⟩:=r.get hd
        exact⟨v,by rw [ev];rfl,rv⟩
    . rw [qi (by rw [qb];exact Nat.le_of_not_lt hi),List.getElem?_replicate] at e
      split at e<;>cases e
theorem zK.cut1 {K:PySem.W.Frag}{ad ad':List Addr}{H:Hp}(k:Nat)(h1:∀ d v,fl k d=true->Rel K ad H d v->Rel K ad' H d v):∀ ds vs,ds.all (fl k)=true->zK K ad H ds vs->zK K ad' H ds vs:=by
 intro ds
 induction ds with
 | nil=>intro vs _ r;cases r;exact .nil
 | cons d ds ih =>
  intro vs hf r
  rw [List.all_cons,qH] at hf
  cases r with
  | cons r t=>exact .cons (h1 d _ hf.1 r) (ih _ hf.2 t)
theorem Rel.cut {K:PySem.W.Frag}{ad ad':List Addr}{H:Hp}:∀ (k:Nat) (d:D) (v:V),fl k d=true->Rel K ad H d v->Rel K ad' H d v:=by
 intro k
 induction k with
 | zero =>
  intro d v hf r
  cases r with
  | non=>exact .non
  | bl b=>exact .bl b
  | int i=>exact .int i
  | str x=>exact .str x
  | ty n=>cases hf
  | tup h r=>cases hf
  | rl h r=>cases hf
  | ref h=>cases hf
  | exn _ _ _=>cases hf
 | succ k ih =>
  intro d v hf r
  cases r with
  | non=>exact .non
  | bl b=>exact .bl b
  | int i=>exact .int i
  | str x=>exact .str x
  | ty n=>cases hf
  | tup h r=>exact .tup h (zK.cut1 k ih _ _ hf r)
  | rl h r=>cases hf
  | ref h=>cases hf
  | exn _ _ _=>cases hf
theorem zK.cut {K:PySem.W.Frag}{ad ad':List Addr}{H:Hp}(k:Nat)(ds:List D)(vs:List V)(hf:ds.all (fl k)=true)(r:zK K ad H ds vs):zK K ad' H ds vs:=zK.cut1 k (Rel.cut k) ds vs hf r
end Dp
namespace Dp
open PySem PySem.Spec PyProof.Rows L2 My
variable [B:Bs]
mutual
theorem Rel.low {K:PySem.W.Frag}{ad ad':List Addr}{H H':Hp}{m:Nat}(hm:ad.length<=m):∀ {d:D} {u v:V},Rel K ad H d u->Rel K ad' H' d v->Rel K (ad'.take m) H' d v
 | _,_,_,.non,r=>by cases r;exact .non
 | _,_,_,.bl b,r=>by cases r;exact .bl b
 | _,_,_,.int i,r=>by cases r;exact .int i
 | _,_,_,.str x,r=>by cases r;exact .str x
 | _,_,_,.ty n,r=>by cases r;exact .ty n
 | _,_,_,.tup _ t,r=>by
  cases r with
  | tup h t'=>exact .tup h (zK.low hm t t')
 | _,_,_,.rl _ t,r=>by
  cases r with
  | rl h t'=>exact .rl h (zK.low hm t t')
 | _,_,_,.exn _ _ _,r=>by
  cases r with
  | exn h e n=>exact .exn h e n
 | _,_,_,.ref h,r=>by
  cases r with
  | ref h'=>exact .ref (by rw [List.getElem?_take_of_lt (qD (My.za1 h) hm)];exact h')
theorem zK.low {K:PySem.W.Frag}{ad ad':List Addr}{H H':Hp}{m:Nat}(hm:ad.length<=m):∀ {ds:List D} {us vs:List V},zK K ad H ds us->zK K ad' H' ds vs->zK K (ad'.take m) H' ds vs
 | _,_,_,.nil,r=>by cases r;exact .nil
 | _,_,_,.cons r t,q=>by
  cases q with
  | cons r' t'=>exact .cons (Rel.low hm r r') (zK.low hm t t')
end
theorem zaT.low {K:PySem.W.Frag}{ad ad':List Addr}{H H':Hp}{m:Nat}(hm:ad.length<=m):∀ {fs:List (Str×D)} {us vs:List (Str×V)},zaT K ad H fs us->zaT K ad' H' fs vs->zaT K (ad'.take m) H' fs vs
 | _,_,_,.nil,r=>by cases r;exact .nil
 | _,_,_,.cons r t,q=>by
  cases q with
  | cons r' t'=>exact .cons (Rel.low hm r r') (zaT.low hm t t')
theorem RelK.low {K:PySem.W.Frag}{ad ad':List Addr}{H H':Hp}{m:Nat}(hm:ad.length<=m):∀ {fs:List (Str×D)} {us vs:List (Key×V)},RelK K ad H fs us->RelK K ad' H' fs vs->RelK K (ad'.take m) H' fs vs
 | _,_,_,.nil,r=>by cases r;exact .nil
 | _,_,_,.cons r t,q=>by
  cases q with
  | cons r' t'=>exact .cons (Rel.low hm r r') (RelK.low hm t t')
theorem zaG.low {K:PySem.W.Frag}{ad ad':List Addr}{H H':Hp}{m:Nat}(hm:ad.length<=m):∀ {fs:List (List Key×D)} {us vs:List (List Key×V)},zaG K ad H fs us->zaG K ad' H' fs vs->zaG K (ad'.take m) H' fs vs
 | _,_,_,.nil,r=>by cases r;exact .nil
 | _,_,_,.cons r t,q=>by
  cases q with
  | cons r' t'=>exact .cons (Rel.low hm r r') (zaG.low hm t t')
theorem zj5 {K:PySem.W.Frag}{ad:List Addr}{H:Hp}{S:Sto}{Q0:DK}{Q:VK}(st:zQ K ad H S)(k:KK K ad H Q0 Q):KK K ad H (Fin S Q0) Q:=by
 intro d S' v H' ad' hf w st' r
 rcases hf with q | ⟨S1,pre,hlen,hd,hc,q⟩
 ·exact k d S' v H' ad' q w st' r
 have hS:S1.length<=S'.length:=pre.length_le
 have had:ad.length<=S1.length:=by rw [st.len];exact hlen
 have htk:∀ {n:Nat} {a:Addr},(ad'.take S1.length)[n]?=some a->ad'[n]?=some a:=fun {n a} e=>by
  have hn:=My.za1 e
  rw [List.length_take] at hn
  rw [List.getElem?_take_of_lt (by lia)] at e
  exact e
 have w1:Wd ad H (ad'.take S1.length) H':=by
  refine⟨?_,w.keep,w.tup,w.frz,fun b m n=>w.new b (List.mem_of_mem_take m) n⟩
  obtain⟨t,rfl⟩:=w.pre
  rw [List.take_append,List.take_of_length_le had]
  exact List.prefix_append _ _
 refine k d S1 v H' _ q w1 ⟨st.wd.trans w1,by rw [List.length_take,st'.len];lia,st'.nd.sublist (List.take_sublist _ _),fun n a c e1 e2=>?_⟩ ?_
 ·have e1':=htk e1
  have ok:=st'.cell n a c e1' (zk2 pre e2)
  rcases hc n c e2 with h | h
  ·obtain⟨a0,ea,ok0⟩:=st.get h
   cases c with
   | ins c fs =>
    obtain⟨C,dx,vs,hv,c1,c2,rv,hn⟩:=ok
    obtain⟨_,_,us,_,_,_,ru,_⟩:=ok0
    exact⟨C,dx,vs,hv,c1,c2,zaT.low had ru rv,hn⟩
   | dk kvs =>
    obtain⟨vs,hv,rv⟩:=ok
    obtain⟨us,hu,ru⟩:=ok0
    exact⟨vs,hv,RelK.low had ru rv⟩
   | dt kvs =>
    obtain⟨vs,hv,rv⟩:=ok
    obtain⟨us,hu,ru⟩:=ok0
    exact⟨vs,hv,zaG.low had ru rv⟩
   | lst xs =>
    obtain⟨vs,hv,rv⟩:=ok
    obtain⟨us,hu,ru⟩:=ok0
    exact⟨vs,hv,zK.low had ru rv⟩
  ·cases c with
   | ins c fs=>cases h
   | dk _=>cases h
   | dt _=>cases h
   | lst xs =>
    obtain⟨vs,hv,rv⟩:=ok
    exact⟨vs,hv,zK.cut 20 _ _ h rv⟩
 ·rcases hd with h | ⟨n,rfl,hn⟩
  ·exact Rel.cut 20 _ _ h r
  ·cases r with
   | ref e=>exact .ref (by rw [List.getElem?_take_of_lt hn];exact e)
omit B in
theorem zR {P:Program}{w:World}{K:PySem.W.Frag}{mg:Str->Option Value}{base:Heap}{x qual:Str}{st:Stmt}{f:Addr}{fd:FuncData}{N ps:List Str}{k:Nat}{sp:DSp}{b:DS}(F:Fun K x qual st f fd)(S:zN N ps (zH st))
  (len:∀ ds So Q,sp ds So Q->ds.length=ps.length) (body:BodyOk N.length b sp)
  (term:∀ (cdv:Value) (A:Around) (outer:List Env) (s:Shared) (H:Hp) (E:XK),zaM k (A.deeper (envOfC qual (zH st) s.heap.objs.size f cdv))->∀ [Bs],zfY (zfS CX0 P w K mg base N qual (zH st) f cdv A outer s H E).nox (za9 st) b) :
  zW P w K mg base CX0 (k+1) f fd ps (upF K sp):=by
 with_unfolding_all
  refine F.ok S (fun vs H Q E ⟨ad,So,ds,Q0,so,r,hf,kk⟩=>by rw [<- r.length];exact len ds So Q0 hf) fun cdv A outer s H vs Q E hr ⟨ad,So,ds,Q0,so,r,hf,kk⟩=>?_
  letI:Bs:=⟨ad,H⟩
  refine⟨_,term cdv A outer s H E hr,ad,zeK N.length ds,So,_,so,zlX N r,body ds So Q0 hf,⟨fun Z S' U H' ad' q w' st' rh=>zj5 so kk .non S' .non H' ad' q w' st' .non,zj5 so kk,fun _ _ _ _ _ q=>q.elim,fun _ _ _ _ _ q=>q.elim⟩⟩
omit B in
theorem zv6 {K:PySem.W.Frag}{H:Hp}{a:Addr}{ns:List Int}(hl:ns.length<=63)(hg:∀ n∈ns,Hg n)(hO:Only H)(hS:SqL K H a (ns.map V.int)):upF K zfu [.ref a] H (fun v _=>v=.bl true) fun _ _ _=>False:=by
 have hr:zjg K H a (ns.map V.int):=by
  rcases hS with (h | h) | h
  ·rcases hO a with e | ⟨o,xs,e⟩
   ·rw [h] at e;cases e
   ·rw [h] at e;cases e
  ·exact .inl h
  ·exact .inr h
 refine⟨[],[],[.rl (ns.map D.int)],fun d _=>d=.bl true,@zQ.mk ⟨[],H⟩ _ _ _ _ Wd.refl rfl List.nodup_nil (fun n a c e=>by simp at e),.cons (.rl hr (zK.mk_ints ns)) .nil,⟨ns,rfl,⟨rfl,hg⟩,hl,fun _=>rfl⟩,fun d S' v H' ad' q w st' r=>?_⟩
 have q':d=.bl true:=q
 subst q'
 cases r
 rfl
omit B in
theorem zna:∀ {ns:List Int} {n:Int},n∈ns->PySem.W.WData.weight (.int n)<=PySem.W.WData.weightAll (ns.map PySem.W.WData.int)
 | m::ns,n,h=>by
  rw [qJ,PySem.W.WData.weightAll]
  rcases qh.mp h with rfl | h
  ·lia
  ·have:=zna h;lia
omit B in
theorem zsl {l:PySem.W.OpenLaw}{n k:Nat}{q:Program}{loose:List Str}{XP:(Str->Option Value)->Heap->Prop}{YP:World->Heap->Prop}{d:DefRec}{K:Params->PySem.W.Frag}{sp:World->Sp}{x:Str}
  (hn:l.most=some n) (hn2:n<=sizeLine) (hdf:d.params.defaults=[]) (hr:zaM k callerA) (hY:∀ (w:World) (h:Heap),YP w h->(K w.params).In h)
  (F:∀ (w:World) (mg:Str->Option Value) (fa:Addr) (h:Heap),(K w.params).In h->h.Ns mainGlobals mg->mg d.name=some (.ref fa) ->
   ∃ fd:FuncData,(∀ (s:Shared) (u:Value),BindsTo s fd ⟨[u],[]⟩ [(x,u)])/\∀ base:Heap,(K w.params).In base->base.Ns mainGlobals mg->zW l.prog w (K w.params) mg base CX0 k fa fd [x] (sp w))
  (hsp:∀ (w:World) (H:Hp) (a:Addr) (ns:List Int),ns.length<=n->(∀ m∈ns,Hg m)->Only H->SqL (K w.params) H a (ns.map V.int)->sp w [.ref a] H (fun v _=>v=.bl true) fun _ _ _=>False) :
  PySem.W.WalkO q loose XP YP l.row.toRowW d [] (fun f vs=>PySem.call f vs):=by
 intro w s₀ s₁ mg mb G Y fa o pm cd doc dV kV ho hd hcd hD hmg hg args vals as hpre hlay hrd hwl hlo
 obtain rfl:dV=.none:=PySem.W.Dflts.none hD hdf
 obtain rfl:kV=.none:=PySem.W.Dflts.noKw hD
 obtain⟨a,vs,ns,rfl,rfl,hobj,hints,hlen⟩:=Att.zpM hn hpre hwl
 have hbits:∀ m∈ns,Hg m:=fun m hm=>by
  have h1:PySem.W.WData.layable (.list (ns.map .int))=true:=by simpa [PySem.W.WData.layableAll] using hlay
  have h2:PySem.W.WData.weight (.list (ns.map PySem.W.WData.int))<=2 ^ 20:=by
   unfold PySem.W.WData.layable at h1
   rw [qH,decide_eq_true_eq] at h1
   exact h1.2
  have h3:=Nat.le_trans (zna hm) (by simpa only [PySem.W.WData.weight] using h2)
  exact ztO (by simpa only [PySem.W.WData.weight,Builtin.Int.intBits] using h3)
 have KX:=hY w _ Y
 obtain⟨fd,hb,hF⟩:=F w mg fa _ KX G.T.g hmg
 refine PySem.W.enter_call (codeAny_mono (zrv KX G.T.g G.T.b G.T.builtins G.T.nolimit hg hobj hints (Nat.le_trans hlen hn2) hr hF hb (fun H hO hS=>hsp w H a ns hlen hbits hO hS) fun _ _ _ z=>z) fun r s' hq=>?_)
 obtain⟨rfl,h2,h3,h4⟩:=hq
 exact⟨.inl ⟨.bool true,.bool true,[],rfl,fun _=>rfl,.bool true,Att.zqN l _,fun _=>⟨List.Pairwise.nil,fun _ hm=>(nomatch hm)⟩⟩,h2,h3,h4⟩
omit B in
theorem zsU {us:List Value}(hl:us.length=1):∃ a0,us=[a0]:=by
  cases us with
  | nil=>simp at hl
  | cons a0 us =>
  cases us with
  | nil=>exact⟨a0,rfl⟩
  | cons b us=>simp at hl
omit B in
theorem zoF {us:List Value}(hl:us.length=2):∃ a0 a1,us=[a0,a1]:=by
  cases us with
  | nil=>simp at hl
  | cons a0 us =>
  cases us with
  | nil=>simp at hl
  | cons a1 us =>
  cases us with
  | nil=>exact⟨a0,a1,rfl⟩
  | cons b us=>simp at hl
omit B in
theorem zs6 {us:List Value}(hl:us.length=3):∃ a0 a1 a2,us=[a0,a1,a2]:=by
  cases us with
  | nil=>simp at hl
  | cons a0 us =>
  cases us with
  | nil=>simp at hl
  | cons a1 us =>
  cases us with
  | nil=>simp at hl
  | cons a2 us =>
  cases us with
  | nil=>exact⟨a0,a1,a2,rfl⟩
  | cons b us=>simp at hl
omit B in
theorem zs3 {us:List Value}(hl:us.length=4):∃ a0 a1 a2 a3,us=[a0,a1,a2,a3]:=by
  cases us with
  | nil=>simp at hl
  | cons a0 us =>
  cases us with
  | nil=>simp at hl
  | cons a1 us =>
  cases us with
  | nil=>simp at hl
  | cons a2 us =>
  cases us with
  | nil=>simp at hl
  | cons a3 us =>
  cases us with
  | nil=>exact⟨a0,a1,a2,a3,rfl⟩
  | cons b us=>simp at hl
omit B in
theorem zs9 {us:List Value}(hl:us.length=5):∃ a0 a1 a2 a3 a4,us=[a0,a1,a2,a3,a4]:=by
  cases us with
  | nil=>simp at hl
  | cons a0 us =>
  cases us with
  | nil=>simp at hl
  | cons a1 us =>
  cases us with
  | nil=>simp at hl
  | cons a2 us =>
  cases us with
  | nil=>simp at hl
  | cons a3 us =>
  cases us with
  | nil=>simp at hl
  | cons a4 us =>
  cases us with
  | nil=>exact⟨a0,a1,a2,a3,a4,rfl⟩
  | cons b us=>simp at hl
omit B in
theorem zta {us:List Value}(hl:us.length=6):∃ a0 a1 a2 a3 a4 a5,us=[a0,a1,a2,a3,a4,a5]:=by
  cases us with
  | nil=>simp at hl
  | cons a0 us =>
  cases us with
  | nil=>simp at hl
  | cons a1 us =>
  cases us with
  | nil=>simp at hl
  | cons a2 us =>
  cases us with
  | nil=>simp at hl
  | cons a3 us =>
  cases us with
  | nil=>simp at hl
  | cons a4 us =>
  cases us with
  | nil=>simp at hl
  | cons a5 us =>
  cases us with
  | nil=>exact⟨a0,a1,a2,a3,a4,a5,rfl⟩
  | cons b us=>simp at hl
omit B in
theorem zxv {us:List Value}(hl:us.length=8):∃ a0 a1 a2 a3 a4 a5 a6 a7,us=[a0,a1,a2,a3,a4,a5,a6,a7]:=by
  cases us with
  | nil=>simp at hl
  | cons a0 us =>
  cases us with
  | nil=>simp at hl
  | cons a1 us =>
  cases us with
  | nil=>simp at hl
  | cons a2 us =>
  cases us with
  | nil=>simp at hl
  | cons a3 us =>
  cases us with
  | nil=>simp at hl
  | cons a4 us =>
  cases us with
  | nil=>simp at hl
  | cons a5 us =>
  cases us with
  | nil=>simp at hl
  | cons a6 us =>
  cases us with
  | nil=>simp at hl
  | cons a7 us =>
  cases us with
  | nil=>exact⟨a0,a1,a2,a3,a4,a5,a6,a7,rfl⟩
  | cons b us=>simp at hl
end Dp
namespace Dp
open PySem PySem.Spec PyProof.Rows L2 My
variable [B:Bs]
section
variable {X:Cx}
theorem zuy {K:PySem.W.Frag}{ad:List Addr}{H:Hp}{a:Addr}{x:D}{ds:List D}(r:Rel K ad H x (.ref a)):zgF K ad H ⟨zda 0 ds,fun S=>Lst S x ds⟩ (Ite K a) where
 go:=fun ad1 H1 S i w st ok hi=>by
  obtain⟨a',vs,e,s,rs⟩:=Lst.sq st ok (r.wd w)
  cases e
  have hi':i<ds.length:=by rw [<- zcq 0 ds];exact hi
  exact⟨vs,vs[i]'(by rw [<- rs.length];exact hi'),s,qc _⟩
 yld:=fun ad1 H1 S i d y H' w st ok hd ⟨p,ey,hp,he⟩=>by
  obtain⟨a',vs,e,s,rs⟩:=Lst.sq st ok (r.wd w)
  cases e
  obtain⟨z,hz,rfl⟩:=zcn hd
  obtain⟨v,ev,rv⟩:=rs.get hz
  rw [he vs v s ev,ey]
  refine⟨Wd.laid hp,st.laid hp,.tup zav (.cons ?_ (.cons (rv.wd (Wd.laid hp)) .nil))⟩
  rw [Nat.zero_add];exact .int _
 stop:=fun ad1 H1 S w st ok=>by
  obtain⟨a',vs,e,s,rs⟩:=Lst.sq st ok (r.wd w)
  cases e
  exact⟨vs,s,by show _<=(zda 0 ds).length;rw [zcq,rs.length];exact qf _⟩
theorem zsN {K:PySem.W.Frag}{ad:List Addr}{H:Hp}{a:Addr}{vs:List V}{ds:List D}(h:H a=some (.tup vs))(r:zK K ad H ds vs):zgF K ad H ⟨zda 0 ds,fun _=>True⟩ (zrS K a) where
 go:=fun ad1 H1 S i w st _ hi=>by
  have hi':i<ds.length:=by rw [<- zcq 0 ds];exact hi
  exact⟨vs,vs[i]'(by rw [<- r.length];exact hi'),SqT.of (w.tup _ _ h),qc _⟩
 yld:=fun ad1 H1 S i d y H' w st _ hd ⟨p,ey,hp,he⟩=>by
  obtain⟨z,hz,rfl⟩:=zcn hd
  obtain⟨v,ev,rv⟩:=r.get hz
  rw [he vs v (SqT.of (w.tup _ _ h)) ev,ey]
  refine⟨Wd.laid hp,st.laid hp,.tup zav (.cons ?_ (.cons ((rv.wd w).wd (Wd.laid hp)) .nil))⟩
  rw [Nat.zero_add];exact .int _
 stop:=fun ad1 H1 S w st _=>⟨vs,SqT.of (w.tup _ _ h),by show _<=(zda 0 ds).length;rw [zcq,r.length];exact qf _⟩
theorem zc1 {es:List Expr}{kk:Nat}{tpos:Pos}{a:Expr}{t:DA}{p pos:Pos}(hg:Gl X "enumerate")(hm:X.mg "enumerate"=none)(ha:PAD X [a] t)(hs:starEach [a] X.env=[(false,eval a X.env)]:=by exact zee rfl) :
  PID X (.Tuple es kk tpos) (.Call (.Name "enumerate" p) [a] [] pos) (Dp.zg7 t):=by with_unfolding_all exact (zim (zss hg hm ha hs) fun U H R hh=>el8 hh fun ad Z S R0 st rh q k =>
 ⟨ad,Z,S,_,st,rh,q,fun ds S1 vs H1 ad1 q0 w1 st1 r1=>by
  rcases q0 with ⟨x,xs,ed,hx,q1⟩ | ⟨xs,ed,q1⟩
  ·subst ed
   obtain⟨v,rfl,rv⟩:=zcs r1
   obtain⟨b,ws,rfl,s,rs⟩:=hx.sq st1 rv
   exact⟨b,rfl,.inl ⟨⟨ws,s⟩,k _ S1 _ H1 ad1 q1 w1 st1 (zuy rv)⟩⟩
  ·subst ed
   obtain⟨v,rfl,rv⟩:=zcs r1
   cases rv with
   | tup h r=>exact⟨_,rfl,.inr ⟨⟨_,SqT.of h⟩,k _ S1 _ H1 ad1 q1 w1 st1 (zsN h r)⟩⟩⟩)
theorem zv3 {K:PySem.W.Frag}{ad:List Addr}{H:Hp}{a b:Addr}{x y:D}{ds es:List D}(r:Rel K ad H x (.ref a))(r2:Rel K ad H y (.ref b)):zgF K ad H ⟨zcA ds es,fun S=>Lst S x ds/\Lst S y es⟩ (zo2 K true true a b) where
 go:=fun ad1 H1 S i w st ok hi=>by
  obtain⟨a',vs,e,s,rs⟩:=Lst.sq st ok.1 (r.wd w)
  obtain⟨b',us,e',s',rs'⟩:=Lst.sq st ok.2 (r2.wd w)
  cases e
  cases e'
  have hi':i<min ds.length es.length:=by rw [<- zed ds es];exact hi
  exact⟨vs,us,vs[i]'(by rw [<- rs.length];lia),us[i]'(by rw [<- rs'.length];lia),s,s',qc _,qc _⟩
 yld:=fun ad1 H1 S i d z H' w st ok hd ⟨p,ey,hp,he⟩=>by
  obtain⟨a',vs,e,s,rs⟩:=Lst.sq st ok.1 (r.wd w)
  obtain⟨b',us,e',s',rs'⟩:=Lst.sq st ok.2 (r2.wd w)
  cases e
  cases e'
  obtain⟨u1,u2,h1,h2,rfl⟩:=zgQ hd
  obtain⟨v,ev,rv⟩:=rs.get h1
  obtain⟨u,eu,ru⟩:=rs'.get h2
  rw [he vs us v u s s' ev eu,ey]
  exact⟨Wd.laid hp,st.laid hp,.tup zav (.cons (rv.wd (Wd.laid hp)) (.cons (ru.wd (Wd.laid hp)) .nil))⟩
 stop:=fun ad1 H1 S w st ok=>by
  obtain⟨a',vs,e,s,rs⟩:=Lst.sq st ok.1 (r.wd w)
  obtain⟨b',us,e',s',rs'⟩:=Lst.sq st ok.2 (r2.wd w)
  cases e
  cases e'
  refine⟨vs,us,s,s',?_⟩
  show vs.length<=(zcA ds es).length\/us.length<=(zcA ds es).length
  rw [zed,rs.length,rs'.length];lia
theorem ztA {K:PySem.W.Frag}{ad:List Addr}{H:Hp}{a b:Addr}{vs us:List V}{ds es:List D}(h:H a=some (.tup vs))(r:zK K ad H ds vs)(h2:H b=some (.tup us))(r2:zK K ad H es us):zgF K ad H ⟨zcA ds es,fun _=>True⟩ (zo2 K false false a b) where
 go:=fun ad1 H1 S i w st _ hi=>by
  have hi':i<min ds.length es.length:=by rw [<- zed ds es];exact hi
  exact⟨vs,us,vs[i]'(by rw [<- r.length];lia),us[i]'(by rw [<- r2.length];lia),SqT.of (w.tup _ _ h),SqT.of (w.tup _ _ h2),qc _,qc _⟩
 yld:=fun ad1 H1 S i d z H' w st _ hd ⟨p,ey,hp,he⟩=>by
  obtain⟨u1,u2,h1,h2',rfl⟩:=zgQ hd
  obtain⟨v,ev,rv⟩:=r.get h1
  obtain⟨u,eu,ru⟩:=r2.get h2'
  rw [he vs us v u (SqT.of (w.tup _ _ h)) (SqT.of (w.tup _ _ h2)) ev eu,ey]
  exact⟨Wd.laid hp,st.laid hp,.tup zav (.cons ((rv.wd w).wd (Wd.laid hp)) (.cons ((ru.wd w).wd (Wd.laid hp)) .nil))⟩
 stop:=fun ad1 H1 S w st _=>by
  refine⟨vs,us,SqT.of (w.tup _ _ h),SqT.of (w.tup _ _ h2),?_⟩
  show vs.length<=(zcA ds es).length\/us.length<=(zcA ds es).length
  rw [zed,r.length,r2.length];lia
theorem zvV {es:List Expr}{kk:Nat}{tpos:Pos}{a b:Expr}{t:DA}{p pos:Pos}(hg:Gl X "zip")(hm:X.mg "zip"=none)(ha:PAD X [a,b] t)(hs:starEach [a,b] X.env=[(false,eval a X.env),(false,eval b X.env)]:=by exact zmU rfl rfl)(hs2:starEach [b] X.env=[(false,eval b X.env)]:=by exact zee rfl) :
  PID X (.Tuple es kk tpos) (.Call (.Name "zip" p) [a,b] [] pos) (Dp.zsG t):=by with_unfolding_all exact (zim (ztz hg hm ha hs hs2) fun U H R hh=>el8 hh fun ad Z S R0 st rh q k =>
 ⟨ad,Z,S,_,st,rh,q,fun ds S1 vs H1 ad1 q0 w1 st1 r1=>by
  rcases q0 with ⟨x,y,xs,ys,ed,hx,hy,q1⟩ | ⟨xs,ys,ed,q1⟩
  ·subst ed
   obtain⟨v,u,rfl,rv,ru⟩:=zjs r1
   obtain⟨b1,ws,rfl,s,rs⟩:=hx.sq st1 rv
   obtain⟨b2,ws2,rfl,s2,rs2⟩:=hy.sq st1 ru
   exact⟨true,b1,b2,rfl,⟨ws,s⟩,⟨ws2,s2⟩,k _ S1 _ H1 ad1 q1 w1 st1 (zv3 rv ru)⟩
  ·subst ed
   obtain⟨v,u,rfl,rv,ru⟩:=zjs r1
   cases rv with
   | tup h r =>
    cases ru with
    | tup h2 r2=>exact⟨false,_,_,rfl,⟨_,SqT.of h⟩,⟨_,SqT.of h2⟩,k _ S1 _ H1 ad1 q1 w1 st1 (ztA h r h2 r2)⟩⟩)
end
section
variable {X:Cx}{a b:Expr}{ta tb:DE}{pos:Pos}
theorem zmm (x:D)(hx:fl 20 x=true):∀ ys:List D,ys.all (fl 20)=true->((zaE ys).any fun z=>PyData.eqv z (pyD x))=ys.any fun z=>eqv z x
 | [],_=>rfl
 | y::ys,h=>by
  rw [List.all_cons,qH] at h
  show (PyData.eqv (pyD y) (pyD x)||(zaE ys).any fun z=>PyData.eqv z (pyD x))=_
  rw [zlV 20 y x h.1 hx,zmm x hx ys h.2]
  rfl
def zze (X:Cx)(g:Bool->Bool):R2:=fun x y H Q=>∃ ad S dx dy b,zQ X.K ad H S/\Rel X.K ad H dx x/\Rel X.K ad H dy y/\InD S dx dy b/\Q (.bl (g b)) H
theorem zp6 {pins:List (Addr×Obj)}{U:L2.St}{H:Hp}{s:Shared}{ad:List Addr}{S:Sto}{dx dy:D}{x y:V}{v u:Value}{b:Bool}(I:Inv X pins U H s)(st:zQ X.K ad H S)(rx:Rel X.K ad H dx x)(ry:Rel X.K ad H dy y)(qx:RelV x v)(qy:RelV y u)(h:InD S dx dy b) :
  ∃ pd ps as bs,Reads s.heap v pd as/\(Reads s.heap u (.list ps) bs\/Reads s.heap u (.tuple ps) bs)/\pd.canLay0=true/\PyData.canLayAll0 ps=true/\min (PyData.depthAll ps) pd.depth<=60/\(ps.any fun z=>PyData.eqv z pd)=b:=by
 obtain⟨ys,hy,fx,fy,rfl⟩:=h
 obtain⟨as,ra⟩:=zcS I 20 dx x v fx rx qx
 obtain⟨c1,d1⟩:=zgu 20 dx fx
 obtain⟨c2,d2⟩:=zeF 20 ys fy
 rcases hy with rfl | hy
 ·obtain⟨bs,rb⟩:=zcS I 21 (.tup ys) y u fy ry qy
  exact⟨pyD dx,zaE ys,as,bs,ra,.inr rb,c1,c2,by lia,zmm dx fx ys fy⟩
 ·obtain⟨a2,vs2,rfl,s2,r2⟩:=hy.sq st ry
  cases qy
  obtain⟨its2,rv2,ht2,hz2⟩:=I.list s2
  obtain⟨o2,ho2,hc2,n2,hd2⟩:=ht2.isList
  obtain⟨bs,rb⟩:=zfl I 20 (zcS I 20) _ _ _ fy r2 rv2
  exact⟨pyD dx,zaE ys,as,_,ra,.inl (.list ho2 hc2 hd2 (by simpa using rb)),c1,c2,by lia,zmm dx fx ys fy⟩
theorem zsY {k:Nat}(hr:zaM k X.A):OC X .In oIn:=⟨_,(OpR.or (r:=zze X id) (fun pins s U H x y v u Q I qx qy ⟨ad,S,dx,dy,b,st,rx,ry,h,q⟩=>by
  obtain⟨pd,ps,as,bs,ra,rb,c1,c2,hd,e⟩:=zp6 I st rx ry qx qy h
  have hu:=hr.units
  rcases rb with rb | rb
  ·exact PySem.SeqAt.in_list_reads rb ra c2 c1 (by lia) ⟨.bl _,H,I,by rw [e];rfl,q⟩
  ·exact PySem.SeqAt.in_tuple_reads rb ra c2 c1 (by lia) ⟨.bl _,H,I,by rw [e];rfl,q⟩) zqH),
 fun ad H S x y v u Q0 Q st rx ry h k=>by
  rcases h with ⟨b,h,q⟩ | ⟨c,z,rfl,rfl,q⟩
  ·exact .inl ⟨ad,S,x,y,b,st,rx,ry,h,k _ S _ H ad q Wd.refl st (.bl _)⟩
  ·cases rx
   cases ry
   exact .inr ⟨_,z,rfl,rfl,by rw [PySem.StrLaws.found_one];exact k _ S _ H ad q Wd.refl st (.bl _)⟩⟩
theorem zn1 {op:CmpOp}{r':DR2}(o:OC X op r')(ha:PD X a ta)(hb:PD X b tb)(hm:behindInMarks op b=false:=by with_unfolding_all rfl):PD X (.Compare a [op] [b] pos) (dOp r' ta tb):=by
 with_unfolding_all
  obtain⟨r,ho,od⟩:=o
  exact zaS (zn7 ho ha hb hm) fun _ _ _=>zkc od
end
section
variable {X:Cx}
theorem ints_of:∀ {ns:List Int} {its:List Value},Vals (ns.map V.int) its->IntsAre its ns
 | [],_,r=>by cases r;exact .nil
 | n::ns,_,r=>by
  cases r with
  | cons h t =>
   obtain⟨k,rfl⟩:=h
   exact .cons _ _ (ints_of t)
theorem znX:∀ {ns:List Int} {its:List Value},IntsAre its ns->Vals (ns.map V.int) its
 | [],_,r=>by cases r;exact .nil
 | n::ns,_,r=>by
  cases r with
  | cons _ _ t=>exact .cons ⟨_,rfl⟩ (znX t)
def zwa (K:PySem.W.Frag):List V->Hp->VK->Prop:=fun xs H Q=>∃ (p:Addr) (ns:List Int),xs=[.ref p]/\SqL K H p (ns.map V.int)/\ns.length<64/\∀ (l:Addr) (ss:List Int),H l=none->ss.Perm ns->ss.Pairwise (fun a b=>a<=b)->Q (.ref l) (upd H l (.lst (ss.map V.int)))
theorem zmw {K:PySem.W.Frag}(hK:X.K=K):zaO X (.builtin "sorted") (zwa K):=fun pins s U H xs us Q I r h=>by
 subst hK
 obtain⟨p,ns,rfl,hS,h64,q⟩:=h
 obtain⟨u,rfl,ru⟩:=vals1 r
 cases ru
 obtain⟨its,rv,pl,hz⟩:=I.list hS
 have hI:=ints_of rv
 have hlen:=rv.length
 rw [qb] at hlen hz
 refine sorted_ints pl.isList hI (by lia) fun out ss h1 h2 h3=>?_
 obtain⟨e,he⟩:=sortedAll_at s.heap its out
 have hv:=znX h1
 refine⟨.ref (s.heap.objs.size+1),_,I.laid (t':=s.toks) (a:=s.heap.objs.size+1) (o:=.lst (ss.map V.int)) (fun b o q=>sortedAll_old q) (Nat.le_succ _) ⟨?_,out.toList,e,hv,?_⟩,rfl,q _ ss (I.hok.fresh (Nat.le_succ _)) h2 h3⟩
 ·rw [qb,h2.length_eq];exact hz
 ·rw [he]
theorem zr2:BC X (.builtin "sorted") zqs:=⟨_,zmw rfl,fun ad H S ds vs Q0 Q st r ⟨x,ns,e,hx,h64,q⟩ k=>by
 subst e
 obtain⟨v,rfl,rv⟩:=zcs r
 obtain⟨a,ws,rfl,hs,rs⟩:=hx.sq st rv
 cases rs.ints
 exact⟨a,ns,rfl,hs,h64,fun l ss hl hp hw=>zgq st k (zK.mk_ints ss) (q ss hp hw) l hl⟩⟩
theorem zuu:BC X (.builtin "sorted") zoq:=by
 obtain⟨r1,c1,d1⟩:=zsf (X:=X)
 obtain⟨r2,c2,d2⟩:=zr2 (X:=X)
 refine⟨fun xs H Q=>r1 xs H Q\/r2 xs H Q,fun pins s U H xs us Q I r h=>?_,fun ad H S ds vs Q0 Q st r h k=>?_⟩
 ·rcases h with h | h
  ·exact c1 pins s U H xs us Q I r h
  ·exact c2 pins s U H xs us Q I r h
 ·rcases h with h | h
  ·exact .inl (d1 ad H S ds vs Q0 Q st r h k)
  ·exact .inr (d2 ad H S ds vs Q0 Q st r h k)
end
section
variable {X:Cx}{e:Expr}{pos p2 p3:Pos}{lo:Option Expr}
end
theorem zmR {K:PySem.W.Frag}{ad:List Addr}{H:Hp}:∀ {zs:List Str} {vs:List V},zK K ad H (zs.map D.str) vs->vs=zs.map V.str
 | [],_,.nil=>rfl
 | z::zs,_,.cons r t=>by cases r;rw [zmR t];rfl
theorem ztL {X:Cx}{a:Expr}{t:DA}{p1 p2 pos1 pos2:Pos}(hgl:Gl X "len")(hml:X.mg "len"=none)(hgr:Gl X "set")(hmr:X.mg "set"=none)(ha:PAD X [a] t)(hc:X.calm=true:=by rfl)
  (hs:starEach [a] X.env=[(false,eval a X.env)]:=by exact zee rfl)
  (hs3:starEach [.Call (.Name "set" p2) [a] [] pos2] X.env=[(false,eval (.Call (.Name "set" p2) [a] [] pos2) X.env)]:=by rfl) :
  PD X (.Call (.Name "len" p1) [.Call (.Name "set" p2) [a] [] pos2] [] pos1) (dB zoI t):=by with_unfolding_all exact (zaS (zuL hc hgl hml hgr hmr ha hs hs3) fun U H Q hh=>el8 hh fun ad Z S Q0 st rh q k =>
  ⟨ad,Z,S,_,st,rh,q,fun ds S1 vs H1 ad1 ⟨x,zs,ed,hx,hl,q1⟩ w1 st1 r1=>by
   subst ed
   obtain⟨v,rfl,rv⟩:=zcs r1
   obtain⟨a1,ws,rfl,hs,rs⟩:=hx.sq st1 rv
   cases zmR rs
   exact⟨a1,zs,rfl,hs,hl,k _ S1 _ H1 ad1 q1 w1 st1 (.int _)⟩⟩)
section
variable {X:Cx}{e:Expr}{t:DA}{p pos kp cp:Pos}{j:Nat}
end
section
variable {X:Cx}{e o value:Expr}{te to tv:DE}{f c:Str}{pos pos':Pos}
theorem zaX (he:PD X e te)(hb:attributeBase e f X.env (eval e X.env)=eval e X.env):PD X (.Attribute e f pos) (zbK f te):=by with_unfolding_all exact (zaS (zvM he hb) fun U H Q hh=>el8 hh fun ad Z S Q0 st rh q k =>
  ⟨ad,Z,S,_,st,rh,q,fun x S1 v H1 ad1 ⟨n,c,fs,d,ex,hn,hl,q1⟩ w1 st1 r1=>by
   subst ex
   cases r1 with
   | ref en =>
    obtain⟨C,dx,vs,h1,hc,hns,rf,hna⟩:=st1.cell n _ _ en hn
    obtain⟨v,hv,rv⟩:=rf.look hl
    obtain⟨q2,hq2,e2⟩:=zmL hl
    exact⟨_,C,dx,vs,v,rfl,h1,hc,e2▸hna q2 hq2,hv,k d S1 v H1 ad1 q1 w1 st1 rv⟩⟩)
theorem zdP (hna:∀ C,PySem.W.nsIn X.K mainGlobals c=some (some (.ref C))->zat X.K C f)(ho:PD X o to)(hv:PD X value tv)(hs:swapsWith value (some (.Attribute o f pos')) pos.line X.env=pure false:=by rfl) :
  PSD X (.Assign [.Attribute o f pos'] value pos) (zeB c f to tv):=by with_unfolding_all exact (zbC (zvz ho hv hs) fun E U H hh=>el8 hh fun ad Z S E0 so rh q k =>
 ⟨ad,Z,S,_,so,rh,q,fun y S1 vy H1 ad1 q1 w1 st1 r1=>⟨ad1,Z,S1,_,st1,rh.wd w1,q1,fun x S2 vx H2 ad2 ⟨n,fs,ex,hn,hl,q2⟩ w2 st2 r2=>by
  subst ex
  cases r2 with
  | ref en =>
   obtain⟨C,dx,vs,h1,hc,hns,rf,hna'⟩:=st2.cell n _ _ en hn
   have w3:Wd ad2 H2 ad2 (upd H2 _ (.ins C dx (zb0 f vy vs))):=Wd.putI en h1
   exact⟨_,C,dx,vs,rfl,h1,hc,hna C hns,by rw [<- rf.length];lia,k.nx Z _ U _ ad2 q2 ((w1.trans w2).trans w3) (st2.putI en h1 hc hns rf hna' (hna C hns) (r1.wd w2)) (((rh.wd w1).wd w2).wd w3)⟩⟩⟩)
omit B in
theorem zof {K:PySem.W.Frag}{C:Addr}{c:Str}{init:DSp}(hc:Cls K C)(hn:PySem.W.nsIn K mainGlobals c=some (some (.ref C))):∀ vs H Q,upF K (zoZ c init) vs H Q E0->∀ x dx,H x=none->H dx=none->dx≠x ->
  upF K init (.ref x::vs) (upd (upd H dx (.own x)) x (.ins C dx [])) (fun v H2=>v=.non/\Q (.ref x) H2) E0:=by
 rintro vs H Q ⟨ad,S,ds,Q0,st,r,hf,k⟩ x dx hx hdx hne
 letI:Bs:=⟨ad,H⟩
 obtain⟨w,st'⟩:=st.newI (c:=c) hx hdx hne hc hn
 have rx:Rel K (ad++[x]) (upd (upd H dx (.own x)) x (.ins C dx [])) (.ref S.length) (.ref x):=.ref (by rw [<- st.len,qi (qf _),Nat.sub_self];rfl)
 have hf':init (.ref S.length::ds) (S++[.ins c []]) (fun d S2=>d=.non/\Q0 (.ref S.length) S2):=hf
 refine⟨ad++[x],S++[.ins c []],.ref S.length::ds,_,st'.base,.cons rx (r.wd w),hf',fun d S' v H' ad' q w' st2 rv=>?_⟩
 obtain⟨rfl,q⟩:=q
 cases rv
 exact⟨rfl,k _ S' _ H' ad' q (w.trans w') (st'.back st2) (rx.wd w')⟩
theorem zms {k j:Nat}{x:Str}{e:Expr}{es:List Expr}{t:DA}{p:Pos}{f:DSp}(G:zkF X.prog X.w X.K X.mg X.base k x (upF X.K f))(hr:zaM j X.A)
  (ha:PAD X (e::es) t) (hk:k+1<=j:=by decide) (hg:Gl X x:=by rfl) (hdb:(x==("__debug__":Str))=false:=by decide) (he:starEach (e::es) X.env=(false,eval e X.env)::starEach es X.env:=by exact zbA rfl) (hpl:(backTo pos (starEach es X.env)).any (·.1)=false:=by exact zdH rfl) :
  PD X (.Call (.Name x p) (e::es) [] pos) (dCall f t):=by with_unfolding_all exact (zaS (zxD G hr hk hg ha hdb he hpl) fun U H Q hh=>el8 hh fun ad Z S Q0 st rh q k =>
 ⟨ad,Z,S,_,st,rh,q,fun ds S1 vs H1 ad1 q1 w1 st1 r1=>by
  show upF X.K f (vs++[]) H1 Q E0
  rw [List.append_nil];exact⟨ad1,S1,ds,Q0,st1.base,r1,q1,(k.wd w1).base st1⟩⟩)
end
end Dp
namespace Dp
open PySem PySem.Spec PyProof.Rows L2 My
def Fly (h0 h:Heap)(e:Addr)(cls:Value)(H:Hp):Prop:=h0.get? e=none/\H e=none/\∃ (a0:Value) (oe:Obj) (vs:Array Value) (T:Addr) (oT:Obj) (ts:Array Value),h.get? e=some oe/\(oe.cls=cls/\vs[0]?=some a0)/\oe.data=.fields vs/\vs[1]?=some (.ref T)/\h0.get? T=none/\T≠e/\h.get? T=some oT/\oT.data=.fields ts/\ts[3]?=some .none/\H T=none
def CXd (P:Program)(w:World):CXT:=fun outer H s E e s'=>∃ (a C:Addr) (H':Hp),e=.ref a/\s'.os=s.os/\AllBare s'.gens/\Un (frs outer) [] H H' s.heap s'.heap/\HOk P w H' s'.heap/\Fly s.heap s'.heap a (.ref C) H'/\E (.ref C) none H'
def zdW (h:Heap)(p:Addr->Bool):Heap:={ h with objs:=h.objs.mapIdx fun i o=>if p i=true then o else { cls:=.none,data:=.freed } }
theorem zfv (h:Heap)(p:Addr->Bool)(b:Addr):(zdW h p).get? b=if p b=true then h.get? b else none:=by
  unfold zdW Heap.get?
  dsimp only
  rw [Array.getElem?_mapIdx]
  cases h.objs[b]? with
  | none=>cases p b<;>rfl
  | some o=>cases p b<;>rfl
theorem zjK (h:Heap)(p:Addr->Bool):(zdW h p).StaysIn h:=fun b o e=>by
 rw [zfv] at e
 split at e
 ·exact e
 ·cases e
theorem zkz {h base base':Heap}:∀ {l:List Env},h.FunFrames base l->(∀ L∈frs l,base'.get? L=none)->h.FunFrames base' l
 | [],_,_=>True.intro
 | env::l,⟨h1,⟨L,o,h2,h3,h4,h5⟩,h6⟩,hb=>⟨h1,⟨L,o,h2,hb L (List.mem_filterMap.mpr ⟨env,by simp,h2⟩),h4,h5⟩,zkz h6 fun L' hL=>hb L' (by
   obtain⟨e',he,e2⟩:=List.mem_filterMap.mp hL
   exact List.mem_filterMap.mpr ⟨e',qB _ he,e2⟩)⟩
section
variable {X:Cx}{pins:List (Addr×Obj)}{U:L2.St}{H:Hp}{s:Shared}
theorem zrc (I:Inv X pins U H s)(hex:X.ex=[]){b:Addr}{o:Obj}(e:X.s₀.heap.get? b=some o):∃ o',s.heap.get? b=some o':=I.base.there b o e (by rw [hex];simp)
theorem zeL (I:Inv X pins U H s)(hex:X.ex=[]){b:Addr}(e:s.heap.get? b=none):X.s₀.heap.get? b=none:=by
 cases q:X.s₀.heap.get? b with
 | none=>rfl
 | some o=>obtain⟨o',h⟩:=zrc I hex q;rw [e] at h;cases h
theorem zji (I:Inv X pins U H s){b:Addr}(e:s.heap.get? b=none):H b=none:=by
 cases q:H b with
 | none=>rfl
 | some o =>
  have:=(I.hok b o q).lt
  exfalso
  cases o with
  | lst xs=>obtain⟨_,_,_,_,h⟩:=I.hok b _ q;rw [e] at h;cases h
  | tup xs=>obtain⟨_,_,_,ob,h,_⟩:=I.hok b _ q;rw [e] at h;cases h
  | dK kvs=>obtain⟨_,_,_,_,ob,_,_,h,_⟩:=I.hok b _ q;rw [e] at h;cases h
  | dT kvs=>obtain⟨_,_,_,_,ob,_,_,h,_⟩:=I.hok b _ q;rw [e] at h;cases h
  | set S n=>obtain⟨ob,_,_,_,h,_⟩:=I.hok b _ q;rw [e] at h;cases h
  | ins C dx fs=>obtain⟨_,_,_,h,_⟩:=I.hok b _ q;rw [e] at h;cases h
  | own y=>obtain⟨_,h⟩:=I.hok b _ q;rw [e] at h;cases h
  | xd fs=>obtain⟨_,⟨_,_,_,h,_⟩,_⟩:=I.hok b _ q;rw [e] at h;cases h
  | rng lo hi=>obtain⟨_,_,_,h⟩:=I.hok b _ q;rw [e] at h;cases h
  | frz ob u=>obtain⟨h,_⟩:=I.hok b _ q;rw [e] at h;cases h
  | tbl ps=>have h:s.heap.get? b=some _:=I.hok b _ q;rw [e] at h;cases h
  | met f y=>have h:s.heap.get? b=some _:=I.hok b _ q;rw [e] at h;cases h
  | ext φ=>obtain⟨_,⟨_,h⟩,_⟩:=I.hok b _ q;rw [e] at h;cases h
theorem zla (I:Inv X pins U H s)(hex:X.ex=[])(hst:X.stack=X.env::X.outer)(hfr:X.env.frame=some X.env.locals){e T0:Addr}{h':Heap}(he:X.s₀.heap.get? e=none)(hT:X.s₀.heap.get? T0=none)(He:H e=none)(HT:H T0=none)
  (hk:∀ b o,s.heap.get? b=some o->b≠e->b≠T0->b∉frs X.stack->h'.get? b=some o) (hs:∀ b∈frs X.stack,∀ o,s.heap.get? b=some o->∃ sl,h'.get? b=some { o with slots:=sl }) :
  Un X.fs [] X.H₀ H X.s₀.heap h'/\HOk X.prog X.w H h':=by
 have nfr:∀ {b:Addr} {o:Obj},X.s₀.heap.get? b=some o->b∉X.fs->b∉frs X.stack:=fun {b o} q n m=>by
  rw [hst] at m
  obtain⟨e',h1,h2⟩:=List.mem_filterMap.mp m
  rcases qh.mp h1 with rfl | h1
  ·rw [hfr] at h2
   cases h2
   exact absurd (qr q) (Nat.not_lt.mpr I.ok.above)
  ·exact n (List.mem_filterMap.mpr ⟨e',h1,h2⟩)
 have sub:∀ {b:Addr},b∈X.fs->b∈frs X.stack:=fun {b} m=>by
  obtain⟨e',h1,h2⟩:=List.mem_filterMap.mp m
  rw [hst]
  exact List.mem_filterMap.mpr ⟨e',qB _ h1,h2⟩
 have nex:∀ b:Addr,b∉X.ex:=fun b=>by rw [hex];simp
 have ne:∀ {b:Addr} {o:Obj},X.s₀.heap.get? b=some o->b≠e/\b≠T0:=fun {b o} q=>⟨fun z=>(by rw [z,he] at q;cases q),fun z=>(by rw [z,hT] at q;cases q)⟩
 have ub:=I.base
 refine⟨⟨fun b o q n m _=>?_,fun b o q n m _=>?_,fun b o q n _=>ub.free b o q n (nex b),fun b o q _=>?_,ub.tups,ub.frzs,ub.tbls⟩,fun a o q=>?_⟩
 ·exact hk b o (ub.keep b o q n m (nex b)) (ne q).1 (ne q).2 (nfr q m)
 ·obtain⟨sl,h1⟩:=ub.slot b o q n m (nex b)
  obtain⟨sl',h2⟩:=hs b (sub m) _ h1
  exact⟨sl',h2⟩
 ·obtain⟨o',h1⟩:=ub.there b o q (nex b)
  by_cases m:b∈frs X.stack
  ·obtain⟨sl,h2⟩:=hs b m o' h1
   exact⟨_,h2⟩
  ·exact⟨o',hk b o' h1 (ne q).1 (ne q).2 m⟩
 ·have inn:∀ {b:Addr},H b≠none->b≠e/\b≠T0/\b∉frs X.stack:=fun {b} n=>⟨fun z=>n (by rw [z];exact He),fun z=>n (by rw [z];exact HT),fun z=>n (I.stkFree b z)⟩
  refine (I.hok a o q).stay (fun b u hb r=>?_) (fun _ r=>r) fun _ _ r=>r
  have n:H b≠none:=by
   rcases hb with rfl | hb
   ·rw [q];exact Option.some_ne_none _
   ·rw [hb];exact Option.some_ne_none _
  obtain⟨n1,n2,n3⟩:=inn n
  exact hk b u r n1 n2 n3
theorem zrl (I:Inv X pins U H s)(hex:X.ex=[])(hst:X.stack=X.env::X.outer)(hfr:X.env.frame=some X.env.locals){e C:Addr}{E:Value->Shared->Prop}{Q:Unit->Shared->Prop}(F:Fly X.s₀.heap s.heap e (.ref C) H)
  (hQ:∀ s':Shared,s'.os=X.s₀.os->AllBare s'.gens->Un X.fs [] X.H₀ H X.s₀.heap s'.heap->HOk X.prog X.w H s'.heap->Fly X.s₀.heap s'.heap e (.ref C) H->Q () s'):wpAny (model X.prog X.w) X.A (leaving X.env (.ref e)) Q E s:=by
 obtain⟨he,He,a0,oe,vs,T,oT,ts,f1,f2,f3,f4,f5,f6,f7,f8,f9,HT⟩:=F
 have ff:s.heap.FunFrames X.base X.stack:=I.stack
 obtain⟨p,hp⟩:∃ p:Addr->Bool,∀ b,p b=true↔b≠e/\b≠T/\b∉frs X.stack:=⟨fun b=>decide (b≠e/\b≠T/\b∉frs X.stack),fun b=>decide_eq_true_iff⟩
 have mno:∀ {b:Addr},¬ (b≠e/\b≠T/\b∉frs X.stack)->(zdW s.heap p).get? b=none:=fun {b} n=>by
  rw [zfv,if_neg (fun z=>n ((hp b).mp z))]
 have myes:∀ {b:Addr} {o:Obj},s.heap.get? b=some o->b≠e->b≠T->b∉frs X.stack->(zdW s.heap p).get? b=some o:=fun {b o} q n1 n2 n3=>by
  rw [zfv,if_pos ((hp b).mpr ⟨n1,n2,n3⟩)];exact q
 have fb:s.heap.FunFrames (zdW s.heap p) X.stack:=zkz ff fun L hL=>mno fun z=>z.2.2 hL
 have fl:Heap.FlyingW (zdW s.heap p) X.stack e (.ref C) a0 s.heap:=⟨zjK _ _,mno fun z=>z.1 rfl,fb,oe,vs,T,oT,ts,f1,f2,f3,f4,mno fun z=>z.2.1 rfl,f6,f7,f8,f9⟩
 have fr:=I.ok.frames
 rw [hst] at fr
 rw [hst] at fl
 refine wpAny_leaves_onW fr hfr fl fun h' ⟨k1,k2,k3,oe',vs',T',oT',ts',g1,g2,g3,g4,g5,g6,g7,g8,g9⟩ us=>?_
 have hs:∀ b∈frs X.stack,∀ o,s.heap.get? b=some o->∃ sl,h'.get? b=some { o with slots:=sl }:=fun b hb o q=>by
  obtain⟨_,o',h1,h2⟩:=ff.mem hb
  rw [q] at h1;cases h1
  exact us b o q h2
 have hk:∀ b o,s.heap.get? b=some o->b≠e->b≠T->b∉frs X.stack->h'.get? b=some o:=fun b o q n1 n2 n3=>k1 b o (myes q n1 n2 n3)
 obtain⟨u1,u2⟩:=zla I hex hst hfr he f5 He HT hk hs
 have nT:X.s₀.heap.get? T'=none/\H T'=none:=by
  by_cases z1:T'=T
  ·rw [z1];exact⟨f5,HT⟩
  ·by_cases z2:T'∈frs X.stack
   ·exfalso
    obtain⟨_,o',h1,h2⟩:=ff.mem z2
    obtain⟨sl,h3⟩:=hs T' z2 o' h1
    rw [g7] at h3;cases h3
    exact h2 ts' g8
   ·have:s.heap.get? T'=none:=by
     cases q:s.heap.get? T' with
     | none=>rfl
     | some o=>rw [myes q g6 z1 z2] at g5;cases g5
    exact⟨zeL I hex this,zji I this⟩
 exact hQ _ I.os I.bare u1 u2 ⟨he,He,a0,oe',vs',T',oT',ts',g1,g2,g3,g4,nT.1,g6,g7,g8,g9,nT.2⟩
theorem zpg (I:Inv X pins U H s)(hex:X.ex=[])(hst:X.stack=X.env::X.outer)(hfr:X.env.frame=some X.env.locals){e C:Addr}{args:List Value}{h1:Heap}{E:Value->Shared->Prop}{Q:Unit->Shared->Prop}(hx:s.heap.MadeExcOf h1 e (.ref C) args)
  (hQ:∀ s':Shared,s'.os=X.s₀.os->AllBare s'.gens->Un X.fs [] X.H₀ H X.s₀.heap s'.heap->HOk X.prog X.w H s'.heap->Fly X.s₀.heap s'.heap e (.ref C) H->Q () s'):wpAny (model X.prog X.w) X.A (leaving X.env (.ref e)) Q E { s with heap:=h1 }:=by
 have ff:s.heap.FunFrames X.base X.stack:=I.stack
 obtain⟨p,hp⟩:∃ p:Addr->Bool,∀ b,p b=true↔b∉frs X.stack:=⟨fun b=>decide (b∉frs X.stack),fun b=>decide_eq_true_iff⟩
 have mno:∀ {b:Addr},b∈frs X.stack->(zdW s.heap p).get? b=none:=fun {b} n=>by
  rw [zfv,if_neg (fun z=>(hp b).mp z n)]
 have myes:∀ {b:Addr} {o:Obj},s.heap.get? b=some o->b∉frs X.stack->(zdW s.heap p).get? b=some o:=fun {b o} q n3=>by
  rw [zfv,if_pos ((hp b).mpr n3)];exact q
 have fb:s.heap.FunFrames (zdW s.heap p) X.stack:=zkz ff fun L hL=>mno hL
 have fr:=I.ok.frames
 rw [hst] at fr
 rw [hst] at fb
 refine wpAny_leaves_madeW (base:=zdW s.heap p) (h:=s.heap) fr hfr (zjK _ _) fb hx fun h' t ⟨k1,k2,k3,oe',vs',T',oT',ts',g1,g2,g3,g4,g5,g6,g7,g8,g9⟩ _ _ us=>?_
 have us':s.heap.UpToSlots h':=fun b o q n=>us b o (hx.keeps b o q) n
 have hs:∀ b∈frs X.stack,∀ o,s.heap.get? b=some o->∃ sl,h'.get? b=some { o with slots:=sl }:=fun b hb o q=>by
  obtain⟨_,o',h1,h2⟩:=ff.mem hb
  rw [q] at h1;cases h1
  exact us' b o q h2
 have hk:∀ b o,s.heap.get? b=some o->b≠e->b≠e->b∉frs X.stack->h'.get? b=some o:=fun b o q _ _ n3=>k1 b o (myes q n3)
 have he:=zeL I hex hx.new
 have He:=zji I hx.new
 obtain⟨u1,u2⟩:=zla I hex hst hfr he he He He hk hs
 have nT:X.s₀.heap.get? T'=none/\H T'=none:=by
  by_cases z2:T'∈frs X.stack
  ·exfalso
   obtain⟨_,o',h1,h2⟩:=ff.mem z2
   obtain⟨sl,h3⟩:=hs T' z2 o' h1
   rw [g7] at h3;cases h3
   exact h2 ts' g8
  ·have:s.heap.get? T'=none:=by
    cases q:s.heap.get? T' with
    | none=>rfl
    | some o=>rw [myes q z2] at g5;cases g5
   exact⟨zeL I hex this,zji I this⟩
 exact hQ _ I.os I.bare u1 u2 ⟨he,He,_,oe',vs',T',oT',ts',g1,g2,g3,g4,nT.1,g6,g7,g8,g9,nT.2⟩
end
def zec (K:PySem.W.Frag)(f:zfd):Sp:=fun vs H Q E=>∃ ad S ds Q0 X0,@zQ ⟨ad,H⟩ K ad H S/\zK K ad H ds vs/\f ds S Q0 X0/\@KK ⟨ad,H⟩ K ad H Q0 Q /\
 ∀ (c:Str) (C:Addr) (S':Sto) (ad':List Addr) (H':Hp),X0 c S'->@zQ ⟨ad,H⟩ K ad' H' S'->PySem.W.nsIn K mainGlobals c=some (some (.ref C))->E (.ref C) none H'
structure zjb (P:Program)(w:World)(K:PySem.W.Frag)(mg:Str->Option Value)(base:Heap)(k:Nat)(x:Str)(ps:List Str)(sp:Sp):Prop where
 ex:∃ f fd,zW P w K mg base (CXd P w) k f fd ps sp/\Binds K fd ps []/\PySem.W.keepIn K (.ref f)=true/\mg x=some (.ref f)
def XOk [B:Bs](X:Cx)(ex:XR):Prop:=∀ (pins:List (Addr×Obj)) (U:L2.St) (H:Hp) (s s':Shared) (ad ad':List Addr) (Z:Rho) (S S':Sto) (c:Str) (C a:Addr) (H':Hp),Inv X pins U H s->zQ X.K ad H S->zaI X.K ad H Z U->ex Z c S'->zQ X.K ad' H' S'->Wd ad H ad' H' ->
 PySem.W.nsIn X.K mainGlobals c=some (some (.ref C))->s'.os=s.os->AllBare s'.gens->Un (frs X.stack) [] H H' s.heap s'.heap->HOk X.prog X.w H' s'.heap->Fly s.heap s'.heap a (.ref C) H'->X.xe (.ref a) s'
def XMk [B:Bs](X:Cx)(ex:XR):Prop:=∀ (pins:List (Addr×Obj)) (U:L2.St) (H:Hp) (s:Shared) (ad:List Addr) (Z:Rho) (S:Sto) (c:Str) (C e:Addr) (args:List Value) (h1:Heap),Inv X pins U H s->zQ X.K ad H S->zaI X.K ad H Z U->ex Z c S ->
 PySem.W.nsIn X.K mainGlobals c=some (some (.ref C))->s.heap.MadeExcOf h1 e (.ref C) args->X.xe (.ref e) { s with heap:=h1 }
section
variable [B:Bs]{X:Cx}
theorem zcZ {k j:Nat}{x:Str}{ps:List Str}{f:zfd}{ex:XR}{p pos:Pos}{e:Expr}{es:List Expr}{t:DA}(G:zjb X.prog X.w X.K X.mg X.base k x ps (zec X.K f))(hX:XOk X ex)(hr:zaM j X.A)
  (ha:PAD X (e::es) t) (hk:k<=j:=by decide) (hg:Gl X x:=by rfl) (hdb:(x==("__debug__":Str))=false:=by decide) (he:starEach (e::es) X.env=(false,eval e X.env)::starEach es X.env:=by exact zbA rfl) (hpl:(backTo pos (starEach es X.env)).any (·.1)=false:=by exact zdH rfl) :
  PD X (.Call (.Name x p) (e::es) [] pos) (zdp f ex t):=by
 with_unfolding_all
  intro pins s U H Q I h
  obtain⟨ad,Z,S,Q0,st,rh,q,kk⟩:=h
  obtain⟨fa,fd,F,b,kp,m⟩:=G.ex
  have F:=F.mono hk
  refine wpAny_Call_Name_kw (zf9 I hg m ?_ hdb)
  have hA:=ha pos pins s U H (fun vs H1=>∃ ds S1 ad1,f ds S1 Q0 (ex Z)/\Wd ad H ad1 H1/\zQ X.K ad1 H1 S1/\zK X.K ad1 H1 ds vs) I ⟨ad,Z,S,_,st,rh,q,fun ds S1 vs H1 ad1 q1 w1 st1 r1=>⟨ds,S1,ad1,q1,w1,st1,r1⟩⟩
  refine PySem.W.callWith_K (h₀:=X.base) I.ok.mod.kin kp (thn hA fun us s1 ⟨vs,H1,I1,r,q1⟩=>⟨I1.kIn,?_⟩) he hpl
  obtain⟨ds,S1,ad1,q1,w1,st1,r1⟩:=q1
  have hsp:zec X.K f vs H1 Q (fun cls _ H'=>∃ c C S' ad',cls=Value.ref C/\ex Z c S'/\zQ X.K ad' H' S'/\Wd ad1 H1 ad' H'/\PySem.W.nsIn X.K mainGlobals c=some (some (.ref C))) :=
   ⟨ad1,S1,ds,Q0,ex Z,st1.base,r1,q1,(kk.wd w1).base st1,fun c C S' ad' H' hx st' hn=>⟨c,C,S',ad',rfl,hx,st1.back st',@zQ.wd ⟨ad1,H1⟩ _ _ _ _ st',hn⟩⟩
  have hl:us.length=ps.length:=by rw [<- r.length];exact F.len _ _ _ _ hsp
  refine wpAny_call (codeAny_mono (F.run X.A X.stack s1 H1 ⟨us,[]⟩ us vs Q _ hr I1.env0 (by have:=b s1 us I1.kIn (by rw [List.append_nil];exact hl);rwa [List.append_nil] at this) r hsp) fun res s' hq=>?_)
  cases res with
  | error e =>
   obtain⟨a,C,H',rfl,os,bare,un,hok,fly,c,C',S',ad',hC,hx,st',wd',hn⟩:=hq
   cases hC
   exact hX pins U H1 s1 s' ad1 ad' Z S1 S' c C a H' I1 st1 (rh.wd w1) hx st' wd' hn os bare un hok fly
  | ok fl =>
   cases fl with
   | ret u=>exact I1.after hq
   | next=>exact False.elim hq
   | brk=>exact False.elim hq
   | cont=>exact False.elim hq
theorem zlO:XOk X xF:=fun _ _ _ _ _ _ _ _ _ _ _ _ _ _ _ _ _ h=>h.elim
structure ExC (K:PySem.W.Frag)(C:Addr):Prop where
 ex:∃ nm q N bs bm hdct sn sub ab col dd k0 k1 k2 k3 k5,K.lookup C=some (excClassObj nm q C N bs bm hdct sn sub ab col dd k0 k1 k2 k3 k5 "ValueError.__new__")/\PySem.W.nsOkIn K N=true/\PySem.W.nsIn K N "__init__"=some none /\
  PySem.W.tailIn K [.type "ValueError",.type "Exception",.type "BaseException",.type "object"] bm=true
theorem zhK {x:Str}{ex:XR}{np cpos pos:Pos}{e:Expr}{t:DA}(hX:XMk X ex)(hc:X.calm=true)(hC:∀ C,PySem.W.nsIn X.K mainGlobals x=some (some (.ref C))->ExC X.K C)(hx:∃ C,PySem.W.nsIn X.K mainGlobals x=some (some (.ref C))/\X.mg x=some (.ref C))(hg:Gl X x)
  (ha:PAD X [e] t) (ht:∀ Z S Q,(∀ d,Q [d] S)->t Z S Q) (hdb:(x==("__debug__":Str))=false:=by decide) (he:starEach [e] X.env=(false,eval e X.env)::starEach [] X.env:=by rfl) :
  PSD X (.Raise (some (.Call (.Name x np) [e] [] cpos)) none pos) (zh8 ex x):=by
 with_unfolding_all
  intro pins s U H D I h
  obtain⟨ad,Z,S,E0,st,rh,q,k⟩:=h
  obtain⟨C,hn,hm⟩:=hx
  obtain⟨nm,qn,N,bs,bm,hdct,sn,sub,ab,col,dd,k0,k1,k2,k3,k5,lk,no,ni,tl⟩:=(hC C hn).ex
  have kin:=I.kIn
  have T:=PySem.W.tail_of_in kin tl
  have hv:=ha cpos pins s U H (fun vs H1=>vs.length=1/\∃ ad1,Wd ad H ad1 H1/\zQ X.K ad1 H1 S) I ⟨ad,Z,S,fun ds S'=>ds.length=1/\S'=S,st,rh,ht _ _ _ (fun d=>⟨rfl,rfl⟩),fun ds S' vs H' ad' e' w' st' r'=>⟨by rw [<- r'.length];exact e'.1,ad',w',e'.2▸st'⟩⟩
  refine wpAny_Raise_call_subT (C:=C) (nm:=nm) (q:=qn) (N:=N) (bs:=bs) (bm:=bm) (hdct:=hdct) (sn:=sn) (sub:=sub) (ab:=ab) (col:=col) (dd:=dd) (k0:=k0) (k1:=k1) (k2:=k2) (k3:=k3) (k5:=k5) PySem.F.excBase_ValueError (T.hasType PySem.F.excBase_ValueError.hasBase) (I.ok.hd hc) (by rw [he];rfl) (PySem.W.nsMap_none_of_in I.ok.mod.kin no ni) (zf9 I hg hm ⟨rfl,?_⟩ hdb)
  rw [he] at hv ⊢
  refine Calls.evalArgs_plain (wpAny_mono hv (fun us s1 hq=>?_) fun _ _ y=>y)
  obtain⟨vs,H1,I1,r,hl,ad1,w1,st1⟩:=hq
  have k1':=I1.kIn
  have hlen:us.length<=sizeLine:=by rw [<- r.length,hl];decide
  exact⟨rfl,hlen,k1' _ _ lk,(Heap.Ns.of_isNs (PySem.W.isNs_of_in I.ok.mod.kin no)).keeps I1.bk,PySem.W.tail_of_in k1' tl,fun h' e' hx=>hX pins U H1 s1 ad1 Z S x C e' us h' I1 st1 (rh.wd w1) q hn hx⟩
omit B in
theorem zfb {P:Program}{w:World}{K:PySem.W.Frag}{mg:Str->Option Value}{base:Heap}{x qual:Str}{st:Stmt}{f:Addr}{fd:FuncData}{N ps:List Str}{k:Nat}{sp:zfd}{b:XR->DS}(F:Fun K x qual st f fd)(S:zN N ps (zH st))
  (len:∀ ds So Q ex,sp ds So Q ex->ds.length=ps.length) (body:ze6 N.length b sp)
  (term:∀ (cdv:Value) (A:Around) (outer:List Env) (s:Shared) (H:Hp) (E:XK),zaM k (A.deeper (envOfC qual (zH st) s.heap.objs.size f cdv))->∀ [Bs] (ex:XR),XOk (zfS (CXd P w) P w K mg base N qual (zH st) f cdv A outer s H E) ex->XMk (zfS (CXd P w) P w K mg base N qual (zH st) f cdv A outer s H E) ex->zfY (zfS (CXd P w) P w K mg base N qual (zH st) f cdv A outer s H E) (za9 st) (b ex)) :
  zW P w K mg base (CXd P w) (k+1) f fd ps (zec K sp):=by
 with_unfolding_all
  obtain⟨oc,od,kV,doc,pm,an,cdv,ct,osl,rfl,lk,hcd⟩:=F.ex
  refine ztk lk hcd S (fun vs H Q E ⟨ad,So,ds,Q0,X0,so,r,hf,kk,kx⟩=>by rw [<- r.length];exact len ds So Q0 X0 hf) fun A outer s H vs Q E hr ⟨ad,So,ds,Q0,X0,so,r,hf,kk,kx⟩=>?_
  letI:Bs:=⟨ad,H⟩
  have end1:∀ (c:Str) (C a:Addr) (S':Sto) (ad':List Addr) (H':Hp) (s':Shared),X0 c S'->zQ K ad' H' S'->PySem.W.nsIn K mainGlobals c=some (some (.ref C))->s'.os=s.os->AllBare s'.gens->Un (frs outer) [] H H' s.heap s'.heap->HOk P w H' s'.heap->Fly s.heap s'.heap a (.ref C) H'->CXd P w outer H s E (.ref a) s' :=
   fun c C a S' ad' H' s' hx st' hn o1 o2 o3 o4 o5=>⟨a,C,H',rfl,o1,o2,o3,o4,o5,kx c C S' ad' H' hx st' hn⟩
  refine⟨_,term cdv A outer s H E hr (fun _=>X0) ?_ ?_,ad,zeK N.length ds,So,_,so,zlX N r,body ds So Q0 X0 hf,⟨fun Z S' U H' ad' q w' st' rh=>zj5 so kk .non S' .non H' ad' q w' st' .non,zj5 so kk,fun _ _ _ _ _ q=>q.elim,fun _ _ _ _ _ q=>q.elim⟩⟩
  ·intro pins U H1 s1 s' ad1 ad' Z S1 S' c C a H' I st1 rh hx st' wd' hn os bare un hok fly
   have I':=I.call' (ch:=[]) os un hok bare (fun b z=>absurd z (by simp))
   have f0:Fly s.heap s'.heap a (.ref C) H':=by
    obtain⟨g1,g2,a0,oe,vs,T,oT,ts,h1,h2,h3,h4,h5,h6⟩:=fly
    exact⟨zeL I rfl g1,g2,a0,oe,vs,T,oT,ts,h1,h2,h3,h4,zeL I rfl h5,h6⟩
   exact zrl I' rfl rfl rfl f0 fun s'' o1 o2 o3 o4 o5=>end1 c C a S' ad' H' s'' hx st' hn o1 o2 o3 o4 o5
  ·intro pins U H1 s1 ad1 Z S1 c C e args h1 I st1 rh hx hn hmade
   exact zpg I rfl rfl rfl hmade fun s'' o1 o2 o3 o4 o5=>end1 c C e S1 ad1 H1 s'' hx st1 hn o1 o2 o3 o4 o5
end
section
variable {X:Cx}{pins:List (Addr×Obj)}{U:L2.St}{H H':Hp}{s s':Shared}
variable [B:Bs]
end
section
open PySem.W PySem.Builtin PySem.Builtin.ObjectAttr PySem.Builtin.Getset_descriptor
variable {prog:Program}{w:World}{A:Around}{E:Value->Shared->Prop}{s:Shared}{K:Frag}{x C:Addr}{o:Obj}
end
section
variable [B:Bs]{X:Cx}
end
def zpt (K:PySem.W.Frag)(C:Addr):Bool:=match K.lookup C with
 | some ⟨.type "type",_,.cls cd,sl⟩=>(match cd.mro,sl.toList with
  | .ref C'::bm,[_,_,_,_,some (.builtin n),_]=>C'==C&&!cd.hasDel&&n=="ValueError.__new__"&&PySem.W.nsOkIn K cd.ns&&PySem.W.nsIn K cd.ns "__init__"==some none&&PySem.W.tailIn K [.type "ValueError",.type "Exception",.type "BaseException",.type "object"] bm
  | _,_=>false)
 | _=>false
theorem ExC.of {K:PySem.W.Frag}{C:Addr}(q:zpt K C=true):ExC K C:=by
 unfold zpt at q
 split at q
 ·rename_i dd cd sl ho
  split at q
  ·rename_i C' bm k0 k1 k2 k3 n k5 hm hs
   simp only [qH,beq_iff_eq,Bool.not_eq_true'] at q
   obtain⟨⟨⟨⟨⟨rfl,hdel⟩,rfl⟩,h1⟩,h2⟩,h3⟩:=q
   obtain⟨nm,bs,mro,ns,qn,hd,sn,sub,ab,col,del⟩:=cd
   dsimp only at hm hdel
   subst hm hdel
   have hsl:sl=#[k0,k1,k2,k3,some (.builtin "ValueError.__new__"),k5]:=by
    obtain⟨l⟩:=sl
    simp only at hs
    rw [hs]
   subst hsl
   exact⟨nm,qn,ns,bs,bm,hd,sn,sub,ab,col,dd,k0,k1,k2,k3,k5,ho,h1,h2,h3⟩
  ·cases q
 ·cases q
section
variable {X:Cx}[B:Bs]
theorem zuD:MD X "list.pop" zo0:=⟨_,zsE,fun ad H S x ds v vs Q0 Q st rx r ⟨n,xs,y,ex,ey,hn,q⟩ k=>by
 subst ex ey
 obtain⟨u,rfl,ru⟩:=zcs r
 cases ru
 cases rx with
 | ref e =>
  obtain⟨ws,hw,rw⟩:=st.cell n _ _ e hn
  cases rw with
  | @cons _ w _ ws' rw1 rw2 =>
   have w':=Wd.put (ws:=ws') e hw
   exact⟨_,w::ws',0,0,w,rfl,rfl,hw,by decide,by decide,by unfold seqIndex?;simp,rfl,k _ _ _ _ ad q w' (st.put e hw rw2) (rw1.wd w')⟩⟩
end
section
variable {K:PySem.W.Frag}{ad:List Addr}{H:Hp}{S:Sto}[B:Bs]
omit B in
theorem RelK.val:∀ {fs:List (Str×D)} {vs:List (Key×V)} (z:Str),RelK K ad H fs vs->(dval fs z=none/\L2.zcQ vs (Sum.inr z:Key)=none)\/∃ d v,dval fs z=some d/\L2.zcQ vs (Sum.inr z:Key)=some v/\Rel K ad H d v
 | _,_,z,.nil=>.inl ⟨rfl,L2.zmD⟩
 | _,_,z,@RelK.cons _ _ _ x d v fs vs r t=>by
  by_cases h:x=z
  ·exact .inr ⟨d,v,by rw [zbz,if_pos h],by rw [L2.zfq (by rw [h])],r⟩
  ·have h':¬ (Sum.inr x:Key)=Sum.inr z:=fun e=>h (Sum.inr.inj e)
   rw [zbz,if_neg h,L2.zft h']
   exact RelK.val z t
omit B in
theorem zaG.val:∀ {fs:List (List Key×D)} {vs:List (List Key×V)} (z:List Key),zaG K ad H fs vs->(dval fs z=none/\L2.zcQ vs z=none)\/∃ d v,dval fs z=some d/\L2.zcQ vs z=some v/\Rel K ad H d v
 | _,_,z,.nil=>.inl ⟨rfl,L2.zmD⟩
 | _,_,z,@zaG.cons _ _ _ x d v fs vs r t=>by
  by_cases h:x=z
  ·exact .inr ⟨d,v,by rw [zbz,if_pos h],by rw [L2.zfq h],r⟩
  ·rw [zbz,if_neg h,L2.zft h]
   exact zaG.val z t
omit B in
theorem RelK.snoc {x:Str}{d:D}{v:V}(rd:Rel K ad H d v):∀ {fs:List (Str×D)} {vs:List (Key×V)},RelK K ad H fs vs->RelK K ad H (fs++[(x,d)]) (vs++[(.inr x,v)])
 | _,_,.nil=>.cons rd .nil
 | _,_,.cons r t=>.cons r (RelK.snoc rd t)
omit B in
theorem zaG.snoc {x:List Key}{d:D}{v:V}(rd:Rel K ad H d v):∀ {fs:List (List Key×D)} {vs:List (List Key×V)},zaG K ad H fs vs->zaG K ad H (fs++[(x,d)]) (vs++[(x,v)])
 | _,_,.nil=>.cons rd .nil
 | _,_,.cons r t=>.cons r (zaG.snoc rd t)
omit B in
theorem RelK.repl {z:Str}{d:D}{v:V}(rd:Rel K ad H d v):∀ {fs:List (Str×D)} {vs:List (Key×V)},RelK K ad H fs vs->RelK K ad H (fs.map fun kv=>if kv.1=z then (kv.1,d) else kv) (vs.map fun kv=>if kv.1=(Sum.inr z:Key) then (kv.1,v) else kv)
 | _,_,.nil=>.nil
 | _,_,@RelK.cons _ _ _ x d' v' fs vs r t=>by
  rw [qJ,qJ]
  by_cases h:x=z
  ·rw [if_pos h,if_pos (by rw [h])];exact .cons rd (RelK.repl rd t)
  ·rw [if_neg h,if_neg (fun e=>h (Sum.inr.inj e))];exact .cons r (RelK.repl rd t)
omit B in
theorem zaG.repl {z:List Key}{d:D}{v:V}(rd:Rel K ad H d v):∀ {fs:List (List Key×D)} {vs:List (List Key×V)},zaG K ad H fs vs->zaG K ad H (fs.map fun kv=>if kv.1=z then (kv.1,d) else kv) (vs.map fun kv=>if kv.1=z then (kv.1,v) else kv)
 | _,_,.nil=>.nil
 | _,_,@zaG.cons _ _ _ x d' v' fs vs r t=>by
  rw [qJ,qJ]
  by_cases h:x=z
  ·rw [if_pos h,if_pos h];exact .cons rd (zaG.repl rd t)
  ·rw [if_neg h,if_neg h];exact .cons r (zaG.repl rd t)
omit B in
theorem RelK.put {z:Str}{d:D}{v:V}(rd:Rel K ad H d v){fs:List (Str×D)}{vs:List (Key×V)}(r:RelK K ad H fs vs):RelK K ad H (dput fs z d) (putK vs (Sum.inr z:Key) v):=by
 unfold dput putK
 rw [zg9,L2.zgJ]
 rcases r.val z with ⟨e1,e2⟩ | ⟨d',v',e1,e2,_⟩
 ·rw [e1,e2]
  rw [if_neg (by simp),if_neg (by simp)];exact r.snoc rd
 ·rw [e1,e2]
  rw [if_pos (by simp),if_pos (by simp)];exact r.repl rd
omit B in
theorem zaG.put {z:List Key}{d:D}{v:V}(rd:Rel K ad H d v){fs:List (List Key×D)}{vs:List (List Key×V)}(r:zaG K ad H fs vs):zaG K ad H (dput fs z d) (putK vs z v):=by
 unfold dput putK
 rw [zg9,L2.zgJ]
 rcases r.val z with ⟨e1,e2⟩ | ⟨d',v',e1,e2,_⟩
 ·rw [e1,e2]
  rw [if_neg (by simp),if_neg (by simp)];exact r.snoc rd
 ·rw [e1,e2]
  rw [if_pos (by simp),if_pos (by simp)];exact r.repl rd
omit B in
theorem RelK.length:∀ {fs:List (Str×D)} {vs:List (Key×V)},RelK K ad H fs vs->fs.length=vs.length
  | _,_,.nil=>rfl
  | _,_,.cons _ t=>congrArg (· + 1) (RelK.length t)
omit B in
theorem zaG.length:∀ {fs:List (List Key×D)} {vs:List (List Key×V)},zaG K ad H fs vs->fs.length=vs.length
  | _,_,.nil=>rfl
  | _,_,.cons _ t=>congrArg (· + 1) (zaG.length t)
omit B in
theorem zgM:∀ {ks:List Key} {vs:List V},zK K ad H (ks.map kD) vs->vs=ks.map kV
 | [],_,.nil=>rfl
 | .inl i::ks,_,.cons r t=>by
  have e:∀ {d:D} {v:V},d=.int i->Rel K ad H d v->v=.int i:=fun e r=>by subst e;cases r;rfl
  rw [e rfl r,zgM t];rfl
 | .inr x::ks,_,.cons r t=>by
  have e:∀ {d:D} {v:V},d=.str x->Rel K ad H d v->v=.str x:=fun e r=>by subst e;cases r;rfl
  rw [e rfl r,zgM t];rfl
theorem zQ.newC (st:zQ K ad H S){l:Addr}{o:HO}{c:Cell}(h:H l=none)(hc:zcF K (ad++[l]) (upd H l o) l c):zQ K (ad++[l]) (upd H l o) (S++[c]) where
 wd:=st.wd.trans (Wd.newL st h)
 len:=by rw [qg,qg,st.len];rfl
 nd:=by
  rw [List.nodup_append]
  refine⟨st.nd,by simp,fun a ha b hb e=>?_⟩
  have:b=l:=by simpa using hb
  subst this;subst e
  exact st.fresh h ha
 cell:=fun n a c' e1 e2=>by
  by_cases hn:n<ad.length
  ·rw [qj hn] at e1
   rw [qj (by rw [<- st.len];exact hn)] at e2
   have ok:=st.cell n a c' e1 e2
   obtain⟨u,e⟩:=ok.some
   exact ok.wd (Wd.newL st h) (by rw [zex h e,e])
  ·have hn':ad.length<=n:=Nat.le_of_not_lt hn
   rw [qi hn'] at e1
   rw [qi (by rw [<- st.len];exact hn'),<- st.len] at e2
   cases hk:n-ad.length with
   | zero =>
    rw [hk] at e1 e2
    have e1':l=a:=by simpa using e1
    have e2':c=c':=by simpa using e2
    subst e1' e2'
    exact hc
   | succ k=>rw [hk] at e1;simp at e1
omit B in
theorem Wd.putC {n:Nat}{a:Addr}{o o':HO}(e:ad[n]?=some a)(h:H a=some o)(h1:∀ xs,o≠.tup xs)(h2:∀ q u,o≠.frz q u):Wd ad H ad (upd H a o') :=
 ⟨List.prefix_refl _,fun b u hb q=>by
   have:b≠a:=fun z=>hb (by rw [z];exact qe e)
   rw [zZ this];exact q,
  fun b xs q=>by rw [zZ (zeU q h (fun z=>h1 xs z.symm))];exact q,fun b o u q=>by rw [zZ (zeU q h (fun z=>h2 o u z.symm))];exact q,fun _ m n=>absurd m n⟩
theorem zQ.putC (st:zQ K ad H S){n:Nat}{a:Addr}{o o':HO}{c:Cell}(e:ad[n]?=some a)(h:H a=some o)(h1:∀ xs,o≠.tup xs)(h2:∀ q u,o≠.frz q u)(hc:zcF K ad (upd H a o') a c):zQ K ad (upd H a o') (S.set n c) where
 wd:=st.wd.trans (Wd.putC e h h1 h2)
 len:=by rw [List.length_set];exact st.len
 nd:=st.nd
 cell:=fun m b c' e1 e2=>by
  have w:Wd ad H ad (upd H a o'):=Wd.putC e h h1 h2
  by_cases hm:m=n
  ·subst hm
   rw [e] at e1;cases e1
   rw [qL (by rw [<- st.len];exact My.za1 e)] at e2
   cases e2
   exact hc
  ·rw [List.getElem?_set_ne (Ne.symm hm)] at e2
   have ne:b≠a:=fun z=>by
    subst z
    have q1:=(qO.mp e1).2
    have q2:=(qO.mp e).2
    exact hm ((List.getElem_inj st.nd).mp (q1.trans q2.symm))
   exact (st.cell m b c' e1 e2).wd w (zZ ne)
theorem zu1 (st:zQ K ad H S){x y:D}{v u:V}{o:Option D}(rx:Rel K ad H x v)(ry:Rel K ad H y u)(g:DGt S x y o):∃ a o',v=.ref a/\zfX H a u o'/\((o=none/\o'=none)\/∃ d w,o=some d/\o'=some w/\Rel K ad H d w):=by
 rcases g with ⟨n,kvs,z,rfl,rfl,hn,rfl⟩ | ⟨n,kvs,ks,rfl,rfl,hn,rfl⟩
 ·cases ry
  cases rx with
  | ref e =>
   obtain⟨vs,hv,r⟩:=st.cell n _ _ e hn
   exact⟨_,_,rfl,zfX.k (k:=Sum.inr z) hv,r.val z⟩
 ·cases rx with
  | ref e =>
   obtain⟨vs,hv,r⟩:=st.cell n _ _ e hn
   cases ry with
   | tup hb rb =>
    have e2:=zgM rb
    subst e2
    exact⟨_,_,rfl,zfX.t hv hb,r.val ks⟩
end
section
variable {X:Cx}{a b c:Expr}{td ti tz tv:DE}{pos apos cpos:Pos}[B:Bs]
theorem ztT:PD X (.Dict [] [] pos) zoL:=by with_unfolding_all exact (zaS zr8 fun U H Q hh=>el8 hh fun ad Z S Q0 st rh q k p hp =>
 k _ _ _ _ _ q (Wd.newL st hp) (st.newC hp ⟨[],zav,.nil⟩) st.newRef)
theorem ztG:PD X (.Dict [] [] pos) zoO:=by with_unfolding_all exact (zaS zr9 fun U H Q hh=>el8 hh fun ad Z S Q0 st rh q k p hp =>
 k _ _ _ _ _ q (Wd.newL st hp) (st.newC hp ⟨[],zav,.nil⟩) st.newRef)
theorem zhs {j:Nat}(hr:zaM j X.A)(ho:PD X a td)(hi:PD X b ti)(hs:zsw b:=by intro _ _;rfl):PD X (.Subscript a b pos) (zi7 td ti):=by with_unfolding_all exact (zaS (ztQ (zsV hr) ho hi hs) fun U H Q hh=>el8 hh fun ad Z S Q0 st rh q k =>
 ⟨ad,Z,S,_,st,rh,q,fun x S1 v H1 ad1 q1 w1 st1 r1=>⟨ad1,Z,S1,_,st1,rh.wd w1,q1,fun y S2 u H2 ad2 ⟨d,g,q2⟩ w2 st2 r2=>by
  obtain⟨p,o',rfl,g',h⟩:=zu1 st2 (r1.wd w2) r2 g
  rcases h with ⟨e,_⟩ | ⟨d',w,e,rfl,rw'⟩
  ·cases e
  ·cases e
   exact⟨p,w,rfl,g',k _ S2 _ H2 ad2 q2 (w1.trans w2) st2 rw'⟩⟩⟩)
theorem zgK {j:Nat}(hr:zaM j X.A)(ho:PD X a td)(hi:PD X b ti)(hv:PD X c tv)(hs:swapsWith c (some (.Subscript a b apos)) pos.line X.env=pure false:=by rfl):PSD X (.Assign [.Subscript a b apos] c pos) (zie td ti tv):=by with_unfolding_all exact (zbC (zuq (zsV hr) ho hi hv hs) fun E U H hh=>el8 hh fun ad Z S E0 so rh q k =>
 ⟨ad,Z,S,_,so,rh,q,fun v S1 vv H1 ad1 q1 w1 st1 r1=>⟨ad1,Z,S1,_,st1,rh.wd w1,q1,fun x S2 vx H2 ad2 q2 w2 st2 r2=>⟨ad2,Z,S2,_,st2,rh.wd (w1.trans w2),q2,fun y S3 vy H3 ad3 q3 w3 st3 r3=>by
  have rx:=r2.wd w3
  have rv:=r1.wd (w2.trans w3)
  have w13:=(w1.trans w2).trans w3
  rcases q3 with ⟨n,kvs,z,rfl,rfl,hn,hl,q3⟩ | ⟨n,kvs,ks,rfl,rfl,hn,hl,q3⟩
  ·cases r3
   cases rx with
   | ref e =>
    obtain⟨vs,hv',r⟩:=st3.cell n _ _ e hn
    have h1:∀ xs,HO.dK vs≠.tup xs:=fun _ z=>by cases z
    have h2:∀ q u,HO.dK vs≠.frz q u:=fun _ _ z=>by cases z
    have w:=Wd.putC (o':=.dK (putK vs (Sum.inr z:Key) vv)) e hv' h1 h2
    refine⟨_,_,rfl,zh0.k (k:=Sum.inr z) hv' (by rw [<- r.length];exact zjN hl),?_⟩
    exact k.nx _ _ _ _ _ q3 (w13.trans w) (st3.putC e hv' h1 h2 ⟨_,zav,RelK.wr w.wr (r.put rv)⟩) (rh.wd (w13.trans w))
  ·cases rx with
   | ref e =>
    obtain⟨vs,hv',r⟩:=st3.cell n _ _ e hn
    cases r3 with
    | tup hb rb =>
     have e2:=zgM rb
     subst e2
     have h1:∀ xs,HO.dT vs≠.tup xs:=fun _ z=>by cases z
     have h2:∀ q u,HO.dT vs≠.frz q u:=fun _ _ z=>by cases z
     have w:=Wd.putC (o':=.dT (putK vs ks vv)) e hv' h1 h2
     refine⟨_,_,rfl,zh0.t hv' hb (by rw [<- r.length];exact zjN hl),?_⟩
     exact k.nx _ _ _ _ _ q3 (w13.trans w) (st3.putC e hv' h1 h2 ⟨_,zav,zaG.wr w.wr (r.put rv)⟩) (rh.wd (w13.trans w))⟩⟩⟩)
end
structure FH (K:PySem.W.Frag)(n:Str)(st:Stmt)(f:Addr)(fd:FuncData):Prop where
 a:PySem.W.nsIn K mainGlobals n=some (some (.ref f))
 F:Fun K n n st f fd
section
variable {K:PySem.W.Frag}{n:Str}{st:Stmt}{f:Addr}{fd:FuncData}{mg:Str->Option Value}{k:Nat}{h:Heap}{ps:List Str}{sp:Sp}
theorem zyg {oc:Value}{od an:Option Addr}{osl:Array (Option Value)}{kV doc pm cdv ct:Value}(a:PySem.W.nsIn K mainGlobals n=some (some (.ref f)))
  (l:K.lookup f=some ⟨oc,od,.func (PySem.W.fnOf n n (zbM st) (za9 st) (zH st) .none kV doc pm an cdv ct),osl⟩) (c:PySem.W.codeIn K cdv n=true) (k:PySem.W.keepIn K (.ref f)=true) :
  FH K n st f (PySem.W.fnOf n n (zbM st) (za9 st) (zH st) .none kV doc pm an cdv ct):=⟨a,zkj l c k⟩
theorem zX (P:Program)(w:World)(base:Heap)(X:K.In h)(G:h.Ns mainGlobals mg)(H:FH K n st f fd)(ok:zW P w K mg base CX0 k f fd ps sp)
  (b:∀ (kV doc pm:Value) (an:Option Addr) (cdv ct:Value) (us:List Value),us.length=ps.length->bindArgs (PySem.W.fnOf n n (zbM st) (za9 st) (zH st) .none kV doc pm an cdv ct) ⟨us,[]⟩=pure (ps.zip us):=by intro _ _ _ _ _ _ us hl;first | (obtain⟨_,e⟩:=zsU hl;subst e;rfl) | (obtain⟨_,_,e⟩:=zoF hl;subst e;rfl) | (obtain⟨_,_,_,e⟩:=zs6 hl;subst e;rfl) | (obtain⟨_,_,_,_,e⟩:=zs3 hl;subst e;rfl) | (obtain⟨_,_,_,_,_,e⟩:=zs9 hl;subst e;rfl) | (obtain⟨_,_,_,_,_,_,e⟩:=zta hl;subst e;rfl) | (obtain⟨_,_,_,_,_,_,_,e⟩:=len_7 hl;subst e;rfl)):Got P w K mg base k n ps sp:=⟨⟨f,fd,ok,H.F.binds b,H.F.kp,PySem.W.mg_of X G H.a⟩⟩
theorem zge (P:Program)(w:World)(base:Heap)(X:K.In h)(G:h.Ns mainGlobals mg)(H:FH K n st f fd)(ok:zW P w K mg base (CXd P w) k f fd ps sp)
  (b:∀ (kV doc pm:Value) (an:Option Addr) (cdv ct:Value) (us:List Value),us.length=ps.length->bindArgs (PySem.W.fnOf n n (zbM st) (za9 st) (zH st) .none kV doc pm an cdv ct) ⟨us,[]⟩=pure (ps.zip us):=by intro _ _ _ _ _ _ us hl;first | (obtain⟨_,e⟩:=zsU hl;subst e;rfl) | (obtain⟨_,_,e⟩:=zoF hl;subst e;rfl) | (obtain⟨_,_,_,e⟩:=zs6 hl;subst e;rfl) | (obtain⟨_,_,_,_,e⟩:=zs3 hl;subst e;rfl) | (obtain⟨_,_,_,_,_,e⟩:=zs9 hl;subst e;rfl) | (obtain⟨_,_,_,_,_,_,e⟩:=zta hl;subst e;rfl) | (obtain⟨_,_,_,_,_,_,_,e⟩:=len_7 hl;subst e;rfl)):zjb P w K mg base k n ps sp:=⟨⟨f,fd,ok,H.F.binds b,H.F.kp,PySem.W.mg_of X G H.a⟩⟩
end
section
variable {X:Cx}
theorem zj [B:Bs](i:Nat){x:Str}{pos:Pos}(hN:X.N[i]?=some x:=by rfl)(hv:L2.Vis X.env.scope x:=by first | exact Or.inl rfl | exact Or.inr (Or.inl rfl) | exact Or.inr (Or.inr rfl))(hd:(x==("__debug__":Str))=false:=by decide)(hcd:(x==("__classdict__":Str))=false:=by decide):PD X (.Name x pos) (zf i):=by with_unfolding_all exact (zxj (zwv hN hv hd hcd))
theorem zU {N P:List Str}{sc:Scope}(h1:sc.kind=.function:=by rfl)(h2:sc.isCoroutine=false:=by rfl)(h3:sc.isGenerator=false:=by rfl)(h4:N.Nodup:=by decide +kernel)(h5:N.take P.length=P:=by rfl)(h6:∀ x∈P,sc.names.lookup x=some .local\/sc.names.lookup x=some .cell:=by decide +kernel)(h7:∀ y∈sc.names,y.2≠.free:=by decide +kernel):zN N P sc:=⟨h1,h2,h3,h4,h5,h6,h7⟩
end
section
variable {X:Cx}{a b c:Expr}{ta tb:DE}{td ti tz tv:DE}{pos apos cpos:Pos}[B:Bs]
end
section
variable {X:Cx}{a b:Expr}{ta tb:DE}{pos apos cpos:Pos}[B:Bs]
end
section
variable {X:Cx}{a b:Expr}{ta tb:DE}{pos apos cpos:Pos}[B:Bs]
end
section
variable {X:Cx}{a b:Expr}{ta tb:DE}{pos apos cpos:Pos}[B:Bs]
end
end Dp
open PySem Dp
local macro_rules | `(tactic| walk_at "dat")=>`(tactic| first | assumption | exact zaF | exact znR | (refine (zbF _ _ _).trans ?_;exact rfl) | exact zaK (by assumption))
local macro_rules | `(tactic| walk_at "dlat")=>`(tactic| first | assumption | exact Lst.rl | exact Lst.at0 | exact Lst.new | (refine Lst.at ?_;exact rfl) | exact Lst.old (by assumption) | exact Lst.here (by assumption) | exact Lst.here (zaK (by assumption)))
local macro_rules | `(tactic| walk_at "dseq")=>`(tactic| first | exact Or.inl rfl | (refine Or.inr ?_;walk_at "dlat"))
local macro_rules | `(tactic| walk_at "dbd")=>`(tactic| first | assumption | exact My.Bd.mono (by assumption) (by decide) | exact My.Bd.lit (by decide) (by decide) | (refine My.Bd.add ?_ ?_<;>walk_at "dbd") | (refine My.Bd.sub ?_ ?_<;>walk_at "dbd") | (refine My.Bd.neg ?_;walk_at "dbd") | (refine My.Bd.mulH ?_ ?_<;>walk_at "dbd") | (refine My.Bd.emod (by lia) ?_;walk_at "dbd") | (refine My.Bd.ediv ?_;walk_at "dbd"))
local macro_rules | `(tactic| walk_at "dmul")=>`(tactic| first | assumption | exact Or.inr (Or.inl (by lia)) | exact Or.inr (Or.inr (by lia)) | exact Or.inl ⟨by walk_at "dbd",by walk_at "dbd"⟩)
local macro_rules | `(tactic| walk_at "ddiv")=>`(tactic| first | assumption | exact⟨by lia,by walk_at "dbd"⟩)
local macro_rules | `(tactic| walk_at "dr1")=>`(tactic| with_reducible first|refine zv0 ?_|refine zve ?_|refine zxg ?_|refine zyi ?_|refine zzg ?_|refine zwN ?_|refine zwr ?_|refine zyF ?_|refine zwH ?_)
local macro_rules | `(tactic| walk_at "dr1")=>`(tactic| first|((with_reducible refine zwD (xs:=?rvx) ?rvl ?_);(case rvl=>walk_at "dlat"))|((with_reducible refine zyy (a:=?rvv) ?rvk ?_);(case rvk=>exact rfl))|((with_reducible refine zrx (xs:=?rvx) ?rvk ?rvl ?_);(case rvk=>walk_at "dat");(case rvl=>first | exact Nat.lt_of_ble_eq_true rfl | assumption | (simp only [big,qg,qP,List.length_nil,qb] at *;lia)))|((with_reducible refine zx5 (xs:=?rvx) ?rvl ?_);(case rvl=>walk_at "dlat")))
local macro_rules | `(tactic| walk_at "dr1")=>`(tactic| first|((with_reducible refine zxX (ys:=?rvx) ?rvk ?_);(case rvk=>walk_at "dat"))|((with_reducible refine zv7 (xs:=?rvx) ?rvl ?_);(case rvl=>walk_at "dlat"))|((with_reducible refine zrI (xs:=?rvx) ?rvl ?_);(case rvl=>walk_at "dlat"))|((with_reducible refine zt1 (xs:=?rvx) ?rvl ?_);(case rvl=>walk_at "dlat"))|((with_reducible refine zw5 ?rvk ?_);(case rvk=>exact rfl)))
local macro_rules | `(tactic| walk_at "dr1")=>`(tactic| first|((with_reducible refine zxy ?rvk ?_);(case rvk=>walk_at "ddiv"))|((with_reducible refine zxo ?rvk ?_);(case rvk=>first | lia | assumption))|((with_reducible refine zyE (d:=?rvv) ?rvk ?_);(case rvk=>first | assumption | exact rfl))|((with_reducible refine zyI (xs:=?rvx) (d:=?rvv) ?rvl ?rvk ?_);(case rvl=>walk_at "dlat");(case rvk=>first | assumption | exact rfl))|((with_reducible refine zyu ?rvk ?_);(case rvk=>exact rfl)))
local macro_rules | `(tactic| walk_at "dr1")=>`(tactic| first|((with_reducible refine zuC (g:=?rv1) (b:=?rv2) (f:=?rv3) (h:=?rv4) (a:=?rv5) (l:=?rv6) (d:=?rv7) ?rvk ?_);(case rvk=>walk_at "dat"))|((with_reducible refine zvt (g:=?rv1) (b:=?rv2) (f:=?rv3) (h:=?rv4) (a:=?rv5) (l:=?rv6) (d:=?rv7) ?rvk ?_);(case rvk=>walk_at "dat"))|((with_reducible refine zu5 (g:=?rv1) (b:=?rv2) (f:=?rv3) (h:=?rv4) (a:=?rv5) (l:=?rv6) (d:=?rv7) ?rvk ?_);(case rvk=>walk_at "dat"))|((with_reducible refine zgx (d:=?rvv) ?rvk ?_);(case rvk=>exact rfl))|((with_reducible refine zxq ?rvk ?_);(case rvk=>walk_at "dmul")))
local macro_rules | `(tactic| walk_at "dr1")=>`(tactic| first|((with_reducible refine zxQ (l:=?rvx) ?rvk ?_);(case rvk=>walk_at "dat"))|((with_reducible refine zrJ (g:=?rv1) (b:=?rv2) (f:=?rv3) (h:=?rv4) (a:=?rv5) (l:=?rv6) (d:=?rv7) ?rvk ?_);(case rvk=>walk_at "dat"))|((with_reducible refine zpF (g:=?rv1) (b:=?rv2) (f:=?rv3) (h:=?rv4) (a:=?rv5) (l:=?rv6) (d:=?rv7) ?rvk ?_);(case rvk=>walk_at "dat"))|((with_reducible refine zvo (g:=?rv1) (b:=?rv2) (f:=?rv3) (h:=?rv4) (a:=?rv5) (l:=?rv6) (d:=?rv7) ?rvk ?_);(case rvk=>walk_at "dat"))|((with_reducible refine zvC (g:=?rv1) (b:=?rv2) (f:=?rv3) (h:=?rv4) (a:=?rv5) (l:=?rv6) (d:=?rv7) ?rvk ?_);(case rvk=>walk_at "dat")))
local macro_rules | `(tactic| walk_at "dr1")=>`(tactic| with_reducible first|refine zrN ?_|refine zsk ?_|refine zxR ?_|refine zxP ?_|refine zxT ?_|refine zpJ ?_|refine zwq ?_|refine zxC ?_|refine zxu ?_)
local macro_rules | `(tactic| walk_at "dr1")=>`(tactic| with_reducible first|refine zvk ?_|refine zvl ?_|refine zvZ ?_|refine zxm ?_|refine zs8 ?_|refine zy4 ?_|refine zwj ?_|refine zvH ?_|refine zwd ?_)
local macro_rules | `(tactic| walk_at "dr1")=>`(tactic| with_reducible first|refine zlw ?_|refine zkl ?_|refine zjQ ?_|refine zwp ?_|refine zuB ?_)
local macro_rules | `(tactic| walk_at "dr1")=>`(tactic| with_reducible first|refine zwM ?_|refine zw8 ?_|refine zvX ?_)
local macro_rules | `(tactic| walk_at "dr1")=>`(tactic| with_reducible first|refine zyw ?_|refine zxY ?_|refine zxz ?_|refine zyG ?_|refine zyD ?_|refine ziu ?_|refine zyp ?_|refine zl4 ?_|refine zwK ?_|refine zjT ?_|refine zyA ?_|refine zxx ?_)
local macro_rules | `(tactic| walk_at "dr1")=>`(tactic| with_reducible first|refine zv5 ?_|refine zu4 ?_|refine r_b ?_|refine r_m ?_)
local macro_rules | `(tactic| walk_at "dr1")=>`(tactic| with_reducible first|refine zm1 ?_|refine ztm ?_|refine zyv ?_)
local macro_rules | `(tactic| walk_at "dr1")=>`(tactic| with_reducible first|refine r_t ?_|refine zyZ ?_|refine zyj ?_|refine zyx ?_|refine zzr ?_|refine zys ?_|refine zxU ?_|refine zwc ?_|refine zvp ?_|refine zxs ?_|refine zud ?_|refine zyM ?_)
local macro_rules | `(tactic| walk_at "dr1")=>`(tactic| with_reducible first|refine r_c ?_|refine zpC ?_|refine zyP ?_|refine zya ?_|refine zym ?_|refine zyc ?_|refine zy6 ?_|refine zzq ?_|refine zzj ?_|refine zyq ?_|refine zyr ?_|refine zxZ ?_)
local macro_rules | `(tactic| walk_at "dr1")=>`(tactic| with_reducible first|refine zv4 ?_|refine zom ?_)
local macro_rules | `(tactic| walk_at "dr1")=>`(tactic| with_reducible first|refine zlJ ?_|refine zvK ?_|refine ztc ?_|refine zuS ?_|refine zxd ?_|refine zs0 ?_|refine zvh ?_|refine zx0 ?_)
local macro_rules | `(tactic| walk_at "g")=>`(tactic| repeat walk_at "dr1")
local macro_rules | `(tactic| walk_at "drho")=>`(tactic| simp only [zeK,qJ,List.map_nil,qP,List.length_nil,Nat.reduceSub,Nat.reduceAdd,List.replicate,List.cons_append,List.nil_append,List.set_cons_zero,List.set_cons_succ])
local macro_rules | `(tactic| walk_at "drho2")=>`(tactic| simp only [List.set_cons_zero,List.set_cons_succ])
namespace Dp
open PySem Rm My
def zce:DSp:=fun ds S Q=>∃ (ns:List Int) (k:Int),ds=[.rl (ns.map D.int),.int k]/\0<=k/\∀ v,Q (.int v) S
def zdC:DS :=
    (zG (sIf (dT (dOp oLt (zf 1) (dB zbn (zm (zf 0) zA)))) (z9 (dOp oIx (zf 0) (zf 1))) zag)
 (z9 (dC (.int 0))))
theorem zjF:∀ ds So Q,zce ds So Q->ds.length=2:=by rintro ds So Q ⟨_,_,rfl,_⟩;rfl
theorem zkT:BodyOk 2 zdC zce:=by
 rintro ds S Q ⟨ns,k,rfl,h0,q⟩
 unfold zdC
 walk_at "g"
 rw [qb]
 refine r_d (fun g=>?_) (fun g=>?_)
 ·obtain⟨v,_,av⟩:=zqt (zs:=ns) h0 (by lia)
  walk_at "g"
  exact fin_same (q _)
 ·walk_at "g"
  exact fin_same (q _)
def zbJ:DSp:=fun ds S Q=>∃ (c k:Int),ds=[.int c,.int k]/\0<=k/\k<3000/\∀ v,0<=v->v<1000000000000000000000000000000000000000000000000000000000033->Q (.int v) S
def zes:DS :=
    (zG (zO (dOp zbo (dOp zal (dOp oMod (zf 0) (dC (.int 1000000000000000000000000000000000000000000000000000000000000))) (dC (.int 3))) (dOp zal (dC (.int 16180339887498948482045868343656381177203)) (dOp zbo (dOp zbo (dC (.int 2)) (zf 1)) (zf 1)))) (zB 2))
 (zG (zO (dOp zal (zf 2) (dOp zbo (dC (.int 6151)) (zf 1))) (zB 2))
 (z9 (dOp oMod (dOp zbo (zf 2) (zf 2)) (dOp zal (dC (.int 1000000000000000000000000000000000000000000000000000000000000)) (dC (.int 33)))))))
theorem zls:∀ ds So Q,zbJ ds So Q->ds.length=2:=by rintro ds So Q ⟨_,_,rfl,_⟩;rfl
theorem zlY:BodyOk 3 zes zbJ:=by
 rintro ds S Q ⟨c,k,rfl,h0,hk,q⟩
 unfold zes
 have b1:My.Bd 300 (c%1000000000000000000000000000000000000000000000000000000000000+3):=by
  have h1:=Int.emod_nonneg c (b:=1000000000000000000000000000000000000000000000000000000000000) (by decide)
  have h2:=Int.emod_lt_of_pos c (b:=1000000000000000000000000000000000000000000000000000000000000) (by decide)
  show _<2 ^ 300
  lia
 have hk2:0<=2*k*k/\2*k*k<=18000000:=⟨Int.mul_nonneg (by lia) h0,Int.le_trans (Int.mul_le_mul (show 2*k<=6000 by lia) (show k<=3000 by lia) h0 (by decide)) (by decide)⟩
 have b2:My.Bd 300 (16180339887498948482045868343656381177203+2*k*k):=by
  show _<2 ^ 300
  lia
 have cm1:zaL (c%1000000000000000000000000000000000000000000000000000000000000+3) (16180339887498948482045868343656381177203+2*k*k):=.inl ⟨b1.mono (by decide),b2.mono (by decide)⟩
 have b3:My.Bd 700 ((c%1000000000000000000000000000000000000000000000000000000000000+3)*(16180339887498948482045868343656381177203+2*k*k)+6151*k):=(My.Bd.add (n:=600) (My.Bd.mul b1 b2) (by
  show _<2 ^ 600
  lia)).mono (by decide)
 have cm2:zaL ((c%1000000000000000000000000000000000000000000000000000000000000+3)*(16180339887498948482045868343656381177203+2*k*k)+6151*k) ((c%1000000000000000000000000000000000000000000000000000000000000+3)*(16180339887498948482045868343656381177203+2*k*k)+6151*k):=.inl ⟨b3.mono (by decide),b3.mono (by decide)⟩
 walk_at "g"
 exact fin_same (q _ (Int.emod_nonneg _ (by decide)) (Int.emod_lt_of_pos _ (by decide)))
def zcT:DSp:=fun ds S Q=>∃ (x:D) (ns:List Int) (most:Int),ds=[x,.int most]/\Lst S x (ns.map D.int)/\ns.length<=63/\1<=most/\most<=60/\∀ zs:List Int,(zs.length:Int)=most->(∀ z∈zs,0<=z/\z<1000000000000000000000000000000000000000000000000000000000033)->New Q S (zs.map D.int)
def zeu:DS :=
    (zG (zO (dLC 1 [] (zhe (zm (zf 1) zA)) (zB 0) zcy (dCall zbJ (zm (zf 0) (zm (dC (.int 40)) zA)))) (zB 2))
 (zG (za3 (zg7 (zm (zf 0) zA)) (zbZ 2 (zah (zB 3) (zah (zB 4) zb3))) (zG (zO (dOp oMod (zf 3) (zf 1)) (zB 5))
 (zO (dCall zbJ (zm (dOp zal (dOp oIx (zf 2) (zf 5)) (dOp oMod (zf 4) (dC (.int 1000000000000000000000000000000000000000000000000000000000000)))) (zm (dOp oMod (zf 3) (dC (.int 37))) zA))) (zi3 (zf 2) (zf 5)))))
 (z9 (zf 2))))
theorem zlu:∀ ds So Q,zcT ds So Q->ds.length=2:=by rintro ds So Q ⟨_,_,_,rfl,_⟩;rfl
theorem zl9:BodyOk 6 zeu zcT:=by
 rintro ds S Q ⟨x,ns,most,rfl,hx,hl,h1,h2,q⟩
 unfold zeu
 walk_at "g"
 refine⟨_,rfl,by lia,by lia,?_⟩
 refine⟨by rw [zf5];unfold big;lia,fun i ys S'=>S'=S/\∃ zs:List Int,ys=zs.map D.int/\zs.length=i/\∀ z∈zs,0<=z/\z<1000000000000000000000000000000000000000000000000000000000033,⟨rfl,[],rfl,rfl,by simp⟩,fun _ _ _ _=>True.intro,?_,?_⟩
 ·rintro i d ys S' hd ⟨rfl,zs,rfl,hz,hb⟩
  obtain⟨hi,rfl⟩:=zib hd
  walk_at "g"
  refine⟨_,_,rfl,by decide,by decide,fun v v0 v1=>?_⟩
  refine⟨rfl,zs++[v],by rw [qv];rfl,by simp [hz],fun z hz'=>?_⟩
  rcases qF.mp hz' with h | h
  ·exact hb z h
  ·have:z=v:=by simpa using h
   subst this;exact⟨v0,v1⟩
 rintro ys S' ⟨rfl,zs,rfl,hz,hb⟩
 rw [zf5] at hz
 have hz:(zs.length:Int)=most:=by lia
 walk_at "g"
 refine zma (xs:=ns.map D.int) hx.old ?_
 refine zau (fun i Z S''=>∃ (zs:List Int) (w1 w2 w3:Option D),Z=[some x,some (.int most),some (.ref S'.length),w1,w2,w3]/\S''=S'++[.lst (zs.map D.int)]/\(zs.length:Int)=most/\∀ z∈zs,0<=z/\z<1000000000000000000000000000000000000000000000000000000000033)
  ⟨zs,_,_,_,rfl,rfl,hz,hb⟩ (fun i Z S'' zq0=>by obtain⟨zs,w1,w2,w3,_,e,_⟩:=zq0;exact e▸hx.old) ?_ ?_
 ·rintro i d Z S'' hd ⟨zs,w1,w2,w3,rfl,rfl,hz,hb⟩
  obtain⟨y,hy,rfl⟩:=zcn hd
  obtain⟨n,_,rfl⟩:=zem hy
  have m1:=Int.emod_nonneg ((0+i:Nat):Int) (show most≠0 by lia)
  have m2:=Int.emod_lt_of_pos ((0+i:Nat):Int) (show 0<most by lia)
  obtain⟨u,hu,au⟩:=zqt (zs:=zs) (k:=((0+i:Nat):Int)%most) m1 (by lia)
  have iu:=zvF (zs:=zs) (k:=((0+i:Nat):Int)%most) m1 (by lia)
  have k1:=Int.emod_nonneg ((0+i:Nat):Int) (show (37:Int)≠0 by decide)
  have k2:=Int.emod_lt_of_pos ((0+i:Nat):Int) (show (0:Int)<37 by decide)
  walk_at "g"
  refine⟨_,_,rfl,k1,by lia,fun v v0 v1=>?_⟩
  walk_at "g"
  refine zlN zaF iu ?_
  walk_at "g"
  refine⟨zs.set _ v,_,_,_,rfl,by rw [List.map_set],by simpa using hz,fun z hz'=>?_⟩
  rcases zrw hz' with h | h
  ·exact hb z h
  ·subst h;exact⟨v0,v1⟩
 ·rintro Z S'' ⟨zs,w1,w2,w3,rfl,rfl,hz,hb⟩
  walk_at "g"
  exact fin_same (q zs hz hb)
def hTl:List Str:=["","a","zz","beacon"]
def hNm (k t:Nat):Str:=⟨#[97+k]⟩++hTl.getD t ""
theorem zod:∀ t,(∀ c∈(hTl.getD t "").cps.toList,c∈abc)/\(hTl.getD t "").length<=6
 | 0=>by decide +kernel
 | 1=>by decide +kernel
 | 2=>by decide +kernel
 | 3=>by decide +kernel
 | _+4=>by
  show (∀ c∈("":Str).cps.toList,c∈abc)/\("":Str).length<=6
  decide +kernel
theorem zjt (k t:Nat):(hNm k t).cps.toList=(97+k)::(hTl.getD t "").cps.toList:=by
 show (#[97+k]++(hTl.getD t "").cps).toList=_
 simp
theorem zvR {k t:Nat}(h:k<26):nmB (hNm k t)=true:=by
 obtain⟨h1,h2⟩:=zod t
 have e:(hNm k t).length=1+(hTl.getD t "").length:=by
  show (#[97+k]++(hTl.getD t "").cps).size=1+(hTl.getD t "").cps.size
  simp
 rw [zkq,e]
 refine⟨by lia,by lia,fun c hc=>?_⟩
 rw [zjt] at hc
 rcases qh.mp hc with hc | hc
 ·rw [hc];exact zoi.mpr (by lia)
 ·exact h1 c hc
theorem zt0 {k t k' t':Nat}(e:hNm k t=hNm k' t'):k=k':=by
 have h:(hNm k t).cps.toList=(hNm k' t').cps.toList:=congrArg (fun z:Str=>z.cps.toList) e
 rw [zjt,zjt] at h
 have:=(List.cons.inj h).1
 lia
theorem zx1 (i:Nat)(h:i<8):atS "abcdefgh" ((0+i:Nat):Int)=some (97+i):=by
  have:i=0\/i=1\/i=2\/i=3\/i=4\/i=5\/i=6\/i=7:=by lia
  rcases this with rfl | rfl | rfl | rfl | rfl | rfl | rfl | rfl<;>decide +kernel
theorem zwE {n:Int}:atD (hTl.map D.str) (n%4)=some (.str (hTl.getD (n%4).toNat "")):=by
  have:n%4=0\/n%4=1\/n%4=2\/n%4=3:=by lia
  rcases this with e | e | e | e<;>rw [e]<;>rfl
def zko (bs:List (Str×(Int×Int))):Prop:=∀ (j:Nat) b,bs[j]?=some b->(∃ t,b.1=hNm j t)/\-6<=b.2.1/\b.2.1<=6/\0<=b.2.2/\b.2.2<=8
theorem zko.nm {bs:List (Str×(Int×Int))}(h:zko bs)(hl:bs.length<=8):∀ b∈bs,nmB b.1=true:=fun b hb=>by
 obtain⟨j,hj,ej⟩:=qR.mp hb
 obtain⟨⟨t,e⟩,_⟩:=h j b (by rw [qc hj,ej])
 rw [e];exact zvR (by lia)
theorem zko.nd {bs:List (Str×(Int×Int))}(h:zko bs):(bs.map (·.1)).Nodup:=by
 refine List.pairwise_iff_getElem.mpr fun i j hi hj hij e=>?_
 rw [qb] at hi hj
 rw [List.getElem_map,List.getElem_map] at e
 obtain⟨⟨t,e1⟩,_⟩:=h i _ (qc hi)
 obtain⟨⟨t',e2⟩,_⟩:=h j _ (qc hj)
 rw [e1,e2] at e
 have:=zt0 e
 lia
def zcl:DSp:=fun ds S Q=>∃ (u:D) (ns:List Int),ds=[u]/\Lst S u (ns.map D.int)/\ns.length<=8/\∀ (T:Sto) (bs:List (Str×(Int×Int))),bs.length=ns.length->zko bs->Q (.ref S.length) (S++.lst (bs.map bcD)::T)
def zdz:DS :=
    (zG (zO (zcj zA) (zB 1))
 (zG (za3 (zg7 (zm (zf 0) zA)) (zbZ 2 (zah (zB 2) (zah (zB 3) zb3))) (zG (zO (dOp zal (dOp oIx (dC (.str "abcdefgh")) (zf 2)) (dOp oIx (zcj (zm (dC (.str "")) (zm (dC (.str "a")) (zm (dC (.str "zz")) (zm (dC (.str "beacon")) zA))))) (dOp oMod (zf 3) (dC (.int 4))))) (zB 4))
 (zaq (dM zcM (zf 1) (zm (dTup (zm (zf 4) (zm (dOp zap (dOp oMod (dOp oDiv (zf 3) (dC (.int 4))) (dC (.int 13))) (dC (.int 6))) (zm (dOp oMod (dOp oDiv (zf 3) (dC (.int 60))) (dC (.int 9))) zA)))) zA)))))
 (z9 (zf 1))))
theorem zjW:∀ ds So Q,zcl ds So Q->ds.length=1:=by rintro ds So Q ⟨_,_,rfl,_⟩;rfl
theorem zkJ:BodyOk 5 zdz zcl:=by
 rintro ds S Q ⟨u,ns,rfl,hu,n8,q⟩
 unfold zdz
 have hu0:∀ T,Lst (S++T) u (ns.map D.int):=fun T=>hu.old
 have hu1:=hu0 [.lst []]
 walk_at "g"
 refine zma (xs:=ns.map D.int) hu1 ?_
 refine zau (fun i Z S'=>∃ (bs:List (Str×(Int×Int))) (T:Sto) (w2 w3 w4:Option D),S'=S++Cell.lst (bs.map bcD)::T/\bs.length=i/\zko bs/\Z=[some u,some (.ref S.length),w2,w3,w4]) ⟨[],[],_,_,_,rfl,rfl,fun j b h=>by simp at h,rfl⟩ (fun i Z S' zq1=>by obtain⟨_,_,_,_,_,e,_⟩:=zq1;exact e▸hu0 _) ?_ ?_
 ·rintro i d Z S' hd ⟨bs,T,w2,w3,w4,rfl,hl,hb,rfl⟩
  obtain⟨y,hy,rfl⟩:=zcn hd
  obtain⟨n,hn,rfl⟩:=zem hy
  have li:=zab hn
  walk_at "g"
  refine zxW (c:=97+i) (by decide +kernel) (zx1 i (by lia)) ?_
  have atl:atD [.str "",.str "a",.str "zz",.str "beacon"] (n%4)=some (.str (hTl.getD (n%4).toNat "")):=zwE
  walk_at "g"
  have l6:=(zod (n%4).toNat).2
  refine zwS (by show 1+_<=big;unfold big;lia) ?_
  rw [show (⟨#[97+i]⟩:Str)++hTl.getD (n%4).toNat ""=hNm i (n%4).toNat from rfl]
  have hlim:(bs.map bcD).length<big:=by rw [qb];unfold big;lia
  walk_at "g"
  refine⟨bs++[(hNm i (n%4).toNat,(n/4%13-6,n/60%9))],_,_,_,_,by rw [qv];rfl,by simp [hl],fun j b h=>?_,rfl⟩
  rcases qM j bs.length with g | g
  ·rw [qj g] at h;exact hb j b h
  ·have lj:=zab h
   rw [qg] at lj
   have ej:j=bs.length:=by simp at lj;lia
   subst ej
   rw [qi (qf _),Nat.sub_self] at h
   have e:(hNm i (n%4).toNat,(n/4%13-6,n/60%9))=b:=by simpa using h
   rw [<- e]
   exact⟨⟨_,by rw [hl]⟩,by dsimp only;lia,by dsimp only;lia,by dsimp only;lia,by dsimp only;lia⟩
 rintro Z S' ⟨bs,T,w2,w3,w4,rfl,hl,hb,rfl⟩
 rw [zcq,qb] at hl
 walk_at "g"
 exact fin_same (q T bs hl hb)
def zds:DSp:=fun ds S Q=>∃ (u:D) (ns:List Int) (a b:Int),ds=[u,.int a,.int b]/\Lst S u (ns.map D.int)/\ns.length<=12/\-100<=a/\a<=b/\b<=1000/\∀ fs:List Fg,fs.length<=ns.length->(∀ F∈fs,FgV F)->New Q S (fs.map fgD)
def ze3:DS :=
    (zG (zO (zcj zA) (zB 3))
 (zG (za3 (zaN (zf 0)) (zB 4) (zG (zO (dCall zbJ (zm (zf 4) (zm (dC (.int 71)) zA))) (zB 5))
 (sIf (dT (dOp oGt (dOp oMod (zf 5) (dC (.int 4))) (dC (.int 0)))) (zG (zO (dOp zap (dOp oMod (dOp oDiv (zf 5) (dC (.int 4))) (dC (.int 15))) (dC (.int 8))) (zB 6))
 (zG (zO (dOp zap (dOp oMod (dOp oDiv (zf 5) (dC (.int 60))) (dC (.int 12))) (dC (.int 2))) (zB 7))
 (zG (zO (dOp zal (dOp zap (zf 1) (dC (.int 3))) (dOp oMod (dOp oDiv (zf 5) (dC (.int 720))) (dOp zal (dOp zap (zf 2) (zf 1)) (dC (.int 6))))) (zB 8))
 (zG (zO (dOp zal (zf 8) (dOp oMod (dOp oDiv (zf 5) (dC (.int 1000000000000000))) (dC (.int 12)))) (zB 9))
 (zG (zO (dOp zap (dOp oMod (dOp oDiv (zf 5) (dC (.int 100000000000000000000))) (dC (.int 5))) (dC (.int 2))) (zB 10))
 (zG (zO (dOp zap (dOp oMod (dOp oDiv (zf 5) (dC (.int 10000000000000000000000000))) (dC (.int 3))) (dC (.int 1))) (zB 11))
 (zaq (dM zcM (zf 3) (zm (dTup (zm (zf 6) (zm (dOp zal (zf 6) (dOp oMod (dOp oDiv (zf 5) (dC (.int 1000000000000000000000000000000))) (dC (.int 5)))) (zm (zf 7) (zm (dOp zal (zf 7) (dOp oMod (dOp oDiv (zf 5) (dC (.int 100000000000000000000000000000000000))) (dC (.int 6)))) (zm (zf 8) (zm (zf 9) (zm (zf 10) (zm (zf 11) zA))))))))) zA))))))))) zag)))
 (z9 (zf 3))))
theorem zm7:∀ ds So Q,zds ds So Q->ds.length=3:=by rintro ds So Q ⟨_,_,_,_,rfl,_⟩;rfl
theorem znH:BodyOk 12 ze3 zds:=by
 rintro ds S Q ⟨u,ns,a,b,rfl,hu,n12,a0,ab,b1,q⟩
 unfold ze3
 have hu0:∀ T,Lst (S++T) u (ns.map D.int):=fun T=>hu.old
 have hu1:=hu0 [.lst []]
 walk_at "g"
 refine zau (fun i Z S'=>∃ (fs:List Fg) (w4 w5 w6 w7 w8 w9 w10 w11:Option D),S'=S++[Cell.lst (fs.map fgD)]/\fs.length<=i/\(∀ F∈fs,FgV F)/\Z=[some u,some (.int a),some (.int b),some (.ref S.length),w4,w5,w6,w7,w8,w9,w10,w11]) ⟨[],_,_,_,_,_,_,_,_,rfl,qf _,by simp,rfl⟩ (fun i Z S' zq2=>by obtain⟨_,_,_,_,_,_,_,_,_,e,_⟩:=zq2;exact e▸hu0 _) ?_ ?_
 ·rintro i d Z S' hd ⟨fs,w4,w5,w6,w7,w8,w9,w10,w11,rfl,hl,hf,rfl⟩
  obtain⟨n,hn,rfl⟩:=zem hd
  have li:=zab hn
  walk_at "g"
  refine⟨n,_,rfl,by decide,by decide,fun m m0 m1=>?_⟩
  have hp:0<b-a+6:=by lia
  walk_at "g"
  refine r_d (fun _=>?_) (fun _=>?_)
  ·have r0:=Int.emod_nonneg (m/720) (show b-a+6≠0 by lia)
   have r1:=Int.emod_lt_of_pos (m/720) hp
   have hlim:(fs.map fgD).length<big:=by rw [qb];unfold big;lia
   walk_at "g"
   have sm:∀ {v:Int} {k:Nat},20<=k->-10000<=v->v<=10000->Bd k v:=fun {v k} hk h1 h2=>(show Bd 20 v by show _<2 ^ 20;lia).mono hk
   refine⟨fs++[⟨m/4%15-8,m/4%15-8+m/1000000000000000000000000000000%5,m/60%12-2,m/60%12-2+m/100000000000000000000000000000000000%6,a-3+m/720%(b-a+6),a-3+m/720%(b-a+6)+m/1000000000000000%12,m/100000000000000000000%5-2,m/10000000000000000000000000%3-1⟩],_,_,_,_,_,_,_,_,by rw [qv];rfl,by simp;lia,fun F hF=>?_,rfl⟩
   rcases qF.mp hF with h | h
   ·exact hf F h
   ·rw [List.mem_singleton.mp h]
    exact⟨⟨by dsimp only;lia,by dsimp only;lia,sm (by decide) (by dsimp only;lia) (by dsimp only;lia),sm (by decide) (by dsimp only;lia) (by dsimp only;lia),sm (by decide) (by dsimp only;lia) (by dsimp only;lia),sm (by decide) (by dsimp only;lia) (by dsimp only;lia),sm (by decide) (by dsimp only;lia) (by dsimp only;lia),sm (by decide) (by dsimp only;lia) (by dsimp only;lia)⟩,by dsimp only;lia,sm (by decide) (by dsimp only;lia) (by dsimp only;lia),sm (by decide) (by dsimp only;lia) (by dsimp only;lia)⟩
  ·walk_at "g"
   exact⟨fs,_,_,_,_,_,_,_,_,rfl,by lia,hf,rfl⟩
 rintro Z S' ⟨fs,w4,w5,w6,w7,w8,w9,w10,w11,rfl,hl,hf,rfl⟩
 rw [qb] at hl
 walk_at "g"
 exact fin_same (q fs hl hf)
theorem zmk {h1 h2 t w z:Int}(b1:h1<=7)(b2:h2<=7)(t0:0<=t)(tw:t<=w)(hz:7<=z):h1*w+(h2-h1)*t<=z*w:=by
 have e:h1*w+(h2-h1)*t=h1*(w-t)+h2*t:=by grind
 have a1:=Int.mul_le_mul_of_nonneg_right b1 (show 0<=w-t by lia)
 have a2:=Int.mul_le_mul_of_nonneg_right b2 t0
 have a3:=Int.mul_le_mul_of_nonneg_right hz (show 0<=w by lia)
 rw [e];lia
def grH (a b:Int):List (Int×Int):=[(-9,-3),(a,b),(9,-3)]
theorem zvJ {a b:Int}(a0:-5<=a)(a1:a<=5)(b0:-6<=b)(b1:b<=5):Grd (grH a b):=by
  have sm:∀ {v:Int} {k:Nat},20<=k->-100<=v->v<=100->Bd k v:=fun {v k} hk h1 h2=>(show Bd 20 v by show _<2 ^ 20;lia).mono hk
  refine⟨show 2<=3 by decide,show 3<=40 by decide,?_,fun c hc=>?_⟩
  . unfold grH
    refine .cons (fun c hc=>?_) (.cons (fun c hc=>?_) (.cons (fun c hc=>by simp at hc) .nil))
    . have:c=(a,b)\/c=(9,-3):=by simpa using hc
      rcases this with rfl | rfl<;>dsimp only<;>lia
    . have:c=(9,-3):=by simpa using hc
      subst this;dsimp only;lia
  . have:c=(-9,-3)\/c=(a,b)\/c=(9,-3):=by simpa [grH] using hc
    rcases this with rfl | rfl | rfl<;>exact⟨sm (by decide) (by dsimp only;lia) (by dsimp only;lia),sm (by decide) (by dsimp only;lia) (by dsimp only;lia)⟩
theorem zuZ {a b x z:Int}(a0:-5<=a)(a1:a<=5)(b1:b<=5)(x0:-6<=x)(x1:x<=6)(hz:7<=z):zd1 (grH a b) (x,z):=by
 refine⟨⟨show -9*1<=x by lia,show x<=9*1 by lia⟩,fun p q e=>?_⟩
 have e':(if x<=a*1 then some ((((-9:Int),(-3:Int)),(a,b))) else if x<=9*1 then some ((a,b),((9:Int),(-3:Int))) else none)=some (p,q):=e
 split at e'
 ·rename_i h
  cases e'
  unfold hvT hvB
  rw [if_pos (by dsimp only;lia),if_pos (by dsimp only;lia)]
  have:=zmk (h1:=-3) (h2:=b) (t:=x+9) (w:=a+9) (z:=z) (by decide) (by lia) (by lia) (by lia) hz
  dsimp only
  simp only [Int.mul_one]
  rw [show a - -9=a+9 by lia,show x - -9=x+9 by lia]
  exact this
 ·rename_i h
  rw [if_pos (by lia)] at e'
  cases e'
  unfold hvT hvB
  rw [if_pos (by dsimp only;lia),if_pos (by dsimp only;lia)]
  have:=zmk (h1:=b) (h2:=-3) (t:=x-a) (w:=9-a) (z:=z) (by lia) (by decide) (by lia) (by lia) hz
  dsimp only
  simp only [Int.mul_one]
  exact this
def zcU:DSp:=fun ds S Q=>∃ (ns:List Int),ds=[.rl (ns.map D.int)]/\ns.length<=63/\∀ (T:Sto) (x y z:D) (V:Vl),zcN V->2<=V.bs.length->V.bs.length<=5->V.fs.length<=6->-5<=V.h0->V.h0<=5->V.h1<=V.h0+23->V.dl<=3->VlS (S++T) x y z V->Q (vlD x y z V) (S++T)
def zew:DS :=
    (zG (zO (dOp oMod (dCall zce (zm (zf 0) (zm (dC (.int 0)) zA))) (dC (.int 1000000000000000000000000000000))) (zB 1))
 (zG (zO (dOp zal (dC (.int 2)) (dOp oMod (zf 1) (dC (.int 4)))) (zB 2))
 (zG (zO (dCall zcT (zm (dSl zje (zf 0) (some (dC (.int 2))) none) (zm (dC (.int 6)) zA))) (zB 3))
 (zG (zO (dOp zap (dOp oMod (dOp oDiv (zf 1) (dC (.int 4))) (dC (.int 11))) (dC (.int 5))) (zB 4))
 (zG (zO (dOp zal (zf 4) (dOp oMod (dOp oDiv (zf 1) (dC (.int 44))) (dC (.int 24)))) (zB 5))
 (zG (zO (zcj (zm (dTup (zm (dUn zb2 (dC (.int 9))) (zm (dUn zb2 (dC (.int 3))) zA))) (zm (dTup (zm (dOp zap (dOp oMod (dOp oDiv (zf 1) (dC (.int 1000000))) (dC (.int 11))) (dC (.int 5))) (zm (dOp zap (dOp oMod (dOp oDiv (zf 1) (dC (.int 100000000))) (dC (.int 12))) (dC (.int 6))) zA))) (zm (dTup (zm (dC (.int 9)) (zm (dUn zb2 (dC (.int 3))) zA))) zA)))) (zB 6))
 (zG (zO (dOp oIx (zcj (zm (dC .non) (zm (dOp zal (dC (.int 9)) (dOp oMod (dOp oDiv (zf 1) (dC (.int 10000000000))) (dC (.int 200)))) (zm (dC (.int 40)) zA)))) (dOp oMod (dOp oDiv (zf 1) (dC (.int 10000000000000))) (dC (.int 3)))) (zB 7))
 (zG (zO (dLC 3 [] (zaN (dCall zcl (zm (dSl zje (zf 3) none (some (zf 2))) zA))) (zbZ 3 (zah (zB 0) (zah (zB 1) (zah (zB 2) zb3)))) zcy (dTup (zm (zf 0) (zm (zf 1) (zm (dOp zal (zf 2) (dC (.int 7))) zA))))) (zB 8))
 (zG (zO (dCall zds (zm (zf 3) (zm (zf 4) (zm (zf 5) zA)))) (zB 9))
 (z9 (dTup (zm (zf 6) (zm (zf 8) (zm (zf 9) (zm (zf 7) (zm (zf 4) (zm (zf 5) (zm (dOp oMod (dOp oDiv (zf 1) (dC (.int 1000000000000000))) (dC (.int 4))) zA))))))))))))))))))
theorem zlD:∀ ds So Q,zcU ds So Q->ds.length=1:=by rintro ds So Q ⟨_,rfl,_⟩;rfl
theorem zmb:BodyOk 10 zew zcU:=by
  rintro ds S Q ⟨ns,rfl,hl,q⟩
  unfold zew
  walk_at "g"
  refine⟨ns,0,rfl,by decide,fun c0=>?_⟩
  have h0:=Int.emod_nonneg c0 (show (1000000000000000000000000000000:Int)≠0 by decide)
  have h1:=Int.emod_lt_of_pos c0 (show (0:Int)<1000000000000000000000000000000 by decide)
  walk_at "g"
  generalize c0%1000000000000000000000000000000=hd at h0 h1
  rw [znP]
  have cl:(cutD ns (some 2) none).length<=63:=Nat.le_trans (zub _ _ _) (by unfold slD;dsimp only;split<;>lia)
  generalize cutD ns (some 2) none=cn at cl
  refine⟨_,cn,6,rfl,Lst.at0,cl,by decide,by decide,fun zs hz hzb=>?_⟩
  unfold New
  have hz6:zs.length=6:=by lia
  obtain⟨hz',ahz,hzo⟩:∃ hz:Option Int,atD [.non,.int (9+hd/10000000000%200),.int 40] (hd/10000000000000%3)=some (zbL hz)/\∀ z,hz=some z->0<=z:=by
    have:hd/10000000000000%3=0\/hd/10000000000000%3=1\/hd/10000000000000%3=2:=by lia
    rcases this with e | e | e<;>rw [e]
    . exact⟨none,rfl,fun z h=>by cases h⟩
    . exact⟨some (9+hd/10000000000%200),rfl,fun z h=>by cases h;lia⟩
    . exact⟨some 40,rfl,fun z h=>by cases h;decide⟩
  walk_at "g"
  rw [znP,zr7 zs (by lia) (by lia)]
  have lb:(zs.take (2+hd%4).toNat).length=(2+hd%4).toNat:=by rw [List.length_take];lia
  generalize zs.take (2+hd%4).toNat=bn at lb
  obtain⟨Sa,hSa⟩:∃ Sa:Sto,Sa=S++[Cell.lst (cn.map D.int)]:=⟨_,rfl⟩
  have ga:Grd (grH (hd/1000000%11-5) (hd/100000000%12-6)):=zvJ (by lia) (by lia) (by lia) (by lia)
  have gs:∀ x z:Int,-6<=x->x<=6->7<=z->zd1 (grH (hd/1000000%11-5) (hd/100000000%12-6)) (x,z):=fun x z h1 h2 h3=>zuZ (by lia) (by lia) (by lia) h1 h2 h3
  generalize hgr:grH (hd/1000000%11-5) (hd/100000000%12-6)=gr at ga gs
  have egr:[D.tup [D.int (-9),D.int (-3)],D.tup [D.int (hd/1000000%11-5),D.int (hd/100000000%12-6)],D.tup [D.int 9,D.int (-3)]]=gr.map p2:=by rw [<- hgr];rfl
  rw [<- hSa,egr]
  refine⟨_,bn,rfl,Lst.at (k:=3) rfl,by lia,fun T1 bs lbs hbs=>?_⟩
  obtain⟨Sb,hSb⟩:∃ Sb:Sto,Sb=Sa++[Cell.lst (zs.map D.int),.lst (gr.map p2),.lst [.non,.int (9+hd/10000000000%200),.int 40],.lst (bn.map D.int)]:=⟨_,rfl⟩
  have ks:∀ T,Lst (Sb++T) (.ref Sa.length) (zs.map D.int):=fun T=>hSb▸Lst.old Lst.at0
  have kg:∀ T,Lst (Sb++T) (.ref (Sa.length+1)) (gr.map p2):=fun T=>hSb▸Lst.old (Lst.at (k:=1) rfl)
  have xb:∃ T,Sb=S++T:=⟨_,by rw [hSb,hSa,qG]⟩
  rw [<- hSb]
  clear hSb hSa egr hgr ahz
  generalize Sa.length=na at ks kg
  walk_at "g"
  refine zbE (fun _=>true) (zkm fun b=>bcD (b.1,(b.2.1,b.2.2+7))) Lst.at0 (by rw [qb];unfold big;lia) (fun i d ys hd' hw=>?_) ?_
  . obtain⟨b,hb,rfl⟩:=zgi hd'
    walk_at "g"
    exact zdg hd' hw rfl rfl
  rw [filter_true,zfs,show bs.map (fun b=>bcD (b.1,(b.2.1,b.2.2+7)))=(bs.map fun b=>(b.1,(b.2.1,b.2.2+7))).map bcD by rw [List.map_map];rfl]
  have nm1:∀ b∈bs.map (fun b=>(b.1,(b.2.1,b.2.2+7))),nmB b.1=true/\-6<=b.2.1/\b.2.1<=6/\7<=b.2.2/\b.2.2<=15:=fun b hb=>by
    obtain⟨b',hb',rfl⟩:=List.mem_map.mp hb
    obtain⟨j,hj,ej⟩:=qR.mp hb'
    obtain⟨_,k1,k2,k3,k4⟩:=hbs j b' (by rw [qc hj,ej])
    exact⟨hbs.nm (by lia) b' hb',k1,k2,by dsimp only;lia,by dsimp only;lia⟩
  have nd1:((bs.map (fun b=>(b.1,(b.2.1,b.2.2+7)))).map (·.1)).Nodup:=by
    rw [List.map_map];exact hbs.nd
  have ln1:(bs.map (fun b=>(b.1,(b.2.1,b.2.2+7)))).length=(2+hd%4).toNat:=by rw [qb,lbs,lb]
  generalize bs.map (fun b=>(b.1,(b.2.1,b.2.2+7)))=b2 at nm1 nd1 ln1
  unfold New
  rw [qG]
  obtain⟨Sc,hSc⟩:∃ Sc:Sto,Sc=Sb++(Cell.lst (bs.map bcD)::T1):=⟨_,rfl⟩
  have ks2:∀ T,Lst (Sc++T) (.ref na) (zs.map D.int):=fun T=>hSc▸(ks _).old
  have kg2:∀ T,Lst (Sc++T) (.ref (na+1)) (gr.map p2):=fun T=>hSc▸(kg _).old
  have xc:∃ T,Sc=S++T:=ztr xb hSc
  rw [<- qG,<- hSc]
  clear hSc
  walk_at "g"
  refine⟨_,zs,_,_,rfl,ks2 _,by lia,by lia,by lia,by lia,fun fs lf hf=>?_⟩
  unfold New
  walk_at "g"
  have sm:∀ {v:Int} {k:Nat},20<=k->-100<=v->v<=100->Bd k v:=fun {v k} hk h1 h2=>(show Bd 20 v by show _<2 ^ 20;lia).mono hk
  have e2:Sc++[Cell.lst (b2.map bcD)]++[.lst (fs.map fgD)]=Sc++[Cell.lst (b2.map bcD),.lst (fs.map fgD)]:=by simp
  have e3:(Sc++[Cell.lst (b2.map bcD)]).length=Sc.length+1:=by simp
  rw [e2,e3]
  have vs:VlS (Sc++[Cell.lst (b2.map bcD),.lst (fs.map fgD)]) (.ref (na+1)) (.ref Sc.length) (.ref (Sc.length+1)) ⟨gr,b2,fs,hz',hd/4%11-5,hd/4%11-5+hd/44%24,hd/1000000000000000%4⟩:=⟨kg2 _,Lst.at0,Lst.at (k:=1) rfl⟩
  have ok:zcN ⟨gr,b2,fs,hz',hd/4%11-5,hd/4%11-5+hd/44%24,hd/1000000000000000%4⟩:={ gr:=ga,b1:=(by show 1<=b2.length;lia),b12:=(by show b2.length<=12;lia),nm:=fun b hb=>(nm1 b hb).1,nd:=nd1,st:=fun b hb=>gs b.2.1 b.2.2 (nm1 b hb).2.1 (nm1 b hb).2.2.1 (nm1 b hb).2.2.2.1,bd:=fun b hb=>⟨sm (by decide) (by have:=(nm1 b hb).2;lia) (by have:=(nm1 b hb).2;lia),sm (by decide) (by have:=(nm1 b hb).2;lia) (by have:=(nm1 b hb).2;lia)⟩,f12:=(by show fs.length<=12;lia),fg:=hf,hz:=hzo,hh:=(by dsimp only;lia),b0:=sm (by decide) (by dsimp only;lia) (by dsimp only;lia),bl:=sm (by decide) (by dsimp only;lia) (by dsimp only;lia),dl:=(by dsimp only;lia) }
  obtain⟨Tc,rfl⟩:=xc
  rw [qG] at vs ⊢
  exact fin_same (q _ _ _ _ _ ok (by dsimp only;lia) (by dsimp only;lia) (by dsimp only;lia) (by dsimp only;lia) (by dsimp only;lia) (by dsimp only;lia) (by dsimp only;lia) vs)
def zaU:DSp:=fun ds S Q=>∃ (x:D) (cs:List (Int×Int)),ds=[x]/\Lst S x (cs.map p2)/\Grd cs/\Q .non S
def zbu:DS :=
    (zG (sIf (dOr (dT (dOp oLt (dB zbn (zm (zf 0) zA)) (dC (.int 2)))) (dT (dOp oGt (dB zbn (zm (zf 0) zA)) (dC (.int 40))))) zcG zag)
 (za3 (zpk (zm (dC (.int 1)) (zm (dB zbn (zm (zf 0) zA)) zA))) (zB 1) (sIf (dT (dOp oLe (dOp oIx (dOp oIx (zf 0) (zf 1)) (dC (.int 0))) (dOp oIx (dOp oIx (zf 0) (dOp zap (zf 1) (dC (.int 1)))) (dC (.int 0))))) zcG zag)))
theorem zf8:∀ ds So Q,zaU ds So Q->ds.length=1:=by rintro ds So Q ⟨_,_,rfl,_⟩;rfl
theorem zgn:BodyOk 2 zbu zaU:=by
 rintro ds S Q ⟨x,cs,rfl,hx,g,q⟩
 unfold zbu
 have g1:=g.two
 have g2:=g.most
 walk_at "g"
 rw [qb]
 refine r_d (fun z=>absurd z (by lia)) (fun _=>?_)
 walk_at "g"
 rw [qb]
 refine r_d (fun z=>absurd z (by lia)) (fun _=>?_)
 walk_at "g"
 rw [qb]
 refine⟨_,_,rfl,?_⟩
 refine zau (fun i Z S'=>S'=S/\∃ w:Option D,Z=[some x,w]) ⟨rfl,none,rfl⟩ (fun _ _ _ _=>True.intro) ?_ ?_
 ·rintro i d Z S' hd ⟨rfl,w,rfl⟩
  obtain⟨hi,rfl⟩:=zib hd
  obtain⟨a,ha,aa⟩:=zlM (cs:=cs) (k:=1+(i:Int)) (by lia) (by lia)
  obtain⟨b,hb,ab⟩:=zlM (cs:=cs) (k:=1+(i:Int)-1) (by lia) (by lia)
  have hlt:=zqC g (show (1+(i:Int)-1).toNat<(1+(i:Int)).toNat by lia) hb ha
  walk_at "g"
  refine r_d (fun z=>absurd z (by lia)) (fun _=>?_)
  walk_at "g"
  exact⟨rfl,_,rfl⟩
 ·rintro Z S' ⟨rfl,w,rfl⟩
  exact fin_same q
def zdb:DSp:=fun ds S Q=>∃ (S0:Sto) (x:D) (cs:List (Int×Int)),ds=[.ref S0.length,x]/\S=S0++[.ins "Ground" []]/\Lst S0 x (cs.map p2)/\Grd cs/\Q .non (S0++[.ins "Ground" [("corners",.ref (S0.length+1))],.lst (cs.map p2)])
def zbP:DS :=
    (zG (zaq (dCall zaU (zm (zf 1) zA)))
 (zeB "Ground" "corners" (zf 0) (dB zjU (zm (zf 1) zA))))
theorem zjA:∀ ds So Q,zdb ds So Q->ds.length=2:=by rintro ds So Q ⟨_,_,_,rfl,_⟩;rfl
theorem zkp:BodyOk 2 zbP zdb:=by
 rintro ds S Q ⟨S0,x,cs,rfl,rfl,hx,g,q⟩
 unfold zbP
 have hx':Lst (S0++[.ins "Ground" []]) x (cs.map p2):=hx.old
 walk_at "g"
 refine⟨x,cs,rfl,hx',g,?_⟩
 walk_at "g"
 refine⟨S0.length,[],rfl,zaF,by decide,?_⟩
 rw [za8]
 exact fin_same q
def zfJ:DSp:=zoZ "Ground" zdb
def zaW:DSp:=fun ds S Q=>∃ (x y:D) (xs ys:List D),ds=[x,y]/\Lst S x xs/\Lst S y ys/\1<=xs.length/\xs.length<=12/\ys.length<=12/\Q .non S
def zbw:DS :=
    (zG (sIf (dOr (dT (dOp oLt (dB zbn (zm (zf 0) zA)) (dC (.int 1)))) (dT (dOp oGt (dB zbn (zm (zf 0) zA)) (dC (.int 12))))) zcG zag)
 (sIf (dT (dOp oGt (dB zbn (zm (zf 1) zA)) (dC (.int 12)))) zcG zag))
theorem zf6:∀ ds So Q,zaW ds So Q->ds.length=2:=by rintro ds So Q ⟨_,_,_,_,rfl,_⟩;rfl
theorem zgf:BodyOk 2 zbw zaW:=by
 rintro ds S Q ⟨x,y,xs,ys,rfl,hx,hy,h1,h2,h3,q⟩
 unfold zbw
 walk_at "g"
 rw [decide_eq_false (show ¬ ((xs.length:Int)<1) by lia)]
 walk_at "g"
 rw [decide_eq_false (show ¬ ((12:Int)<xs.length) by lia)]
 walk_at "g"
 rw [decide_eq_false (show ¬ ((12:Int)<ys.length) by lia)]
 walk_at "g"
 exact fin_same q
def zd4:DSp:=fun ds S Q=>∃ z:Str,ds=[.str z]/\z.length<=1000/\Q (.bl (nmB z)) S
def zfL:DS :=
    (zG (sIf (dOr (dT (dOp oLt (dB zbn (zm (zf 0) zA)) (dC (.int 1)))) (dT (dOp oGt (dB zbn (zm (zf 0) zA)) (dC (.int 8))))) (z9 (dC (.bl false))) zag)
 (z9 (dB zhE (zm (dLC 1 [] (zaN (zf 0)) (zB 0) zcy (dOp oIn (zf 0) (dC (.str "abcdefghijklmnopqrstuvwxyz")))) zA))))
theorem znJ:∀ ds So Q,zd4 ds So Q->ds.length=1:=by rintro ds So Q ⟨_,rfl,_⟩;rfl
theorem zoC:BodyOk 1 zfL zd4:=by
 rintro ds S Q ⟨z,rfl,hz,q⟩
 unfold zfL
 have hb:z.length<=big:=by unfold big;lia
 walk_at "g"
 refine zrq hb ?_
 walk_at "g"
 unfold nmB at q
 refine r_d (fun h=>?_) (fun h=>?_)
 ·walk_at "g"
  rw [decide_eq_false (show ¬ 1<=z.length by lia)] at q
  exact fin_same q
 rw [decide_eq_true (show 1<=z.length by lia)] at q
 walk_at "g"
 refine zrq hb ?_
 walk_at "g"
 refine r_d (fun h=>?_) (fun h=>?_)
 ·walk_at "g"
  rw [decide_eq_false (show ¬ z.length<=8 by lia)] at q
  exact fin_same q
 rw [decide_eq_true (show z.length<=8 by lia)] at q
 walk_at "g"
 refine zbE (fun _=>true) (onC fun c=>decide (c∈abc)) True.intro (by rw [zrh];exact hb) (fun i d ys hd hw=>?_) ?_
 ·obtain⟨c,_,rfl⟩:=zqS hd
  walk_at "g"
  rw [zxf]
  exact zdg hd hw rfl rfl
 rw [filter_true,zqg]
 walk_at "g"
 refine zhP Lst.at0 rfl ?_
 refine zaA rfl ?_
 rw [List.all_map]
 exact q
def za6:DSp:=fun ds S Q=>∃ (x:D) (zs:List Str),ds=[x]/\Lst S x (zs.map D.str)/\zs.length<=100/\(∀ z∈zs,nmB z=true)/\zs.Nodup/\Q .non S
def zbU:DS :=
    (zG (sIf (zfi (dT (dB zhE (zm (dLC 1 [] (zaN (zf 0)) (zB 0) zcy (dCall zd4 (zm (zf 0) zA))) zA)))) zcG zag)
 (sIf (dT (dOp oLt (dB zoI (zm (zf 0) zA)) (dB zbn (zm (zf 0) zA)))) zcG zag))
theorem zg6:∀ ds So Q,za6 ds So Q->ds.length=1:=by rintro ds So Q ⟨_,_,rfl,_⟩;rfl
theorem zhk:BodyOk 1 zbU za6:=by
 rintro ds S Q ⟨x,zs,rfl,hx,hl,hn,nd,q⟩
 unfold zbU
 walk_at "g"
 refine zbE (fun _=>true) (onS fun z=>.bl (nmB z)) hx (by rw [qb];unfold big;lia) (fun i d ys hd hw=>?_) ?_
 ·obtain⟨z,hz,rfl⟩:=zuJ hd
  walk_at "g"
  refine⟨z,rfl,by have:=(zkq.mp (hn z (qe hz))).2.1;lia,?_⟩
  exact zdg hd hw rfl rfl
 rw [filter_true,ztt,show zs.map (fun z=>D.bl (nmB z))=(zs.map nmB).map D.bl by rw [List.map_map];rfl]
 walk_at "g"
 refine zhP (b:=true) Lst.at0 (by rw [List.all_map,List.all_eq_true];exact hn) ?_
 walk_at "g"
 refine zvE (zs:=zs) hx.old (by lia) ?_
 rw [zoK nd]
 have hx1:Lst (S++[Cell.lst ((zs.map nmB).map D.bl)]) x (zs.map D.str):=hx.old
 walk_at "g"
 rw [qb,decide_eq_false (show ¬ ((zs.length:Int)<zs.length) by lia)]
 walk_at "g"
 exact zaA rfl q
def zdK:DSp:=fun ds S Q=>∃ (a b:Int×Int),ds=[p2 a,p2 b]/\zaL a.1 b.2/\zaL b.1 a.2/\Q (.bl (flt a b)) S
def zjV:DS :=
  (z9 (dOp oLt (dOp zbo (dOp oIx (zf 0) (dC (.int 0))) (dOp oIx (zf 1) (dC (.int 1)))) (dOp zbo (dOp oIx (zf 1) (dC (.int 0))) (dOp oIx (zf 0) (dC (.int 1))))))
theorem zsm:∀ ds So Q,zdK ds So Q->ds.length=2:=by rintro ds So Q ⟨_,_,rfl,_⟩;rfl
theorem ztC:BodyOk 2 zjV zdK:=by
 rintro ds S Q ⟨a,b,rfl,c1,c2,q⟩
 unfold zjV
 walk_at "g"
 exact fin_same q
def zeq:DSp:=fun ds S Q=>∃ (g:D) (cs:List (Int×Int)) (p:Int×Int),ds=[g,p2 p]/\GAt S g cs/\Grd cs/\Bd 1000 p.1/\Bd 1000 p.2/\Q (.bl (decide (zkH cs*p.2<=p.1)&&decide (p.1<=zjy cs*p.2))) S
def zil:DS :=
    (zG (zO (dTup (zm (dOp oIx (dOp oIx (zbK "corners" (zf 0)) (dC (.int 0))) (dC (.int 0))) (zm (dC (.int 1)) zA))) (zB 2))
 (zG (zO (dTup (zm (dOp oIx (dOp oIx (zbK "corners" (zf 0)) (dUn zb2 (dC (.int 1)))) (dC (.int 0))) (zm (dC (.int 1)) zA))) (zB 3))
 (z9 (ziy (zij (dCall zdK (zm (zf 1) (zm (zf 2) zA)))) (zij (dCall zdK (zm (zf 3) (zm (zf 1) zA))))))))
theorem zqe:∀ ds So Q,zeq ds So Q->ds.length=2:=by rintro ds So Q ⟨_,_,_,rfl,_⟩;rfl
theorem zsT:BodyOk 4 zil zeq:=by
 rintro ds S Q ⟨g,cs,p,rfl,⟨n,l,rfl,hn,hl⟩,gr,b1,b2,q⟩
 unfold zil
 have g1:=gr.two
 obtain⟨a,ha,ea⟩:=zqT gr
 obtain⟨z,hz,ez⟩:=zrY gr
 have aa:atD (cs.map p2) 0=some (p2 a):=zfa (i:=0) (by rw [qo,ha];rfl)
 have az:atD (cs.map p2) (-1)=some (p2 z):=by
  have hne:cs≠[]:=fun e=>by rw [e] at g1;simp at g1
  have en:cs=cs.dropLast++[z]:=by
   have h2:=List.dropLast_concat_getLast hne
   have h3:cs.getLast hne=z:=by
    rw [List.getLast_eq_getElem]
    have hl':=zab hz
    rw [qc hl'] at hz
    cases hz;rfl
   rw [h3] at h2
   exact h2.symm
  rw [en,qv];exact zjp
 obtain⟨ba,_⟩:=gr.bd a (qe ha)
 obtain⟨bz,_⟩:=gr.bd z (qe hz)
 rw [ea,ez] at q
 have e1:flt p (a.1,1)=decide (p.1<a.1*p.2):=by unfold flt;dsimp only;rw [Int.mul_one]
 have e2:flt (z.1,1) p=decide (z.1*p.2<p.1):=by unfold flt;dsimp only;rw [Int.mul_one]
 have c1:zaL a.1 p.2:=.inl ⟨ba.mono (by decide),b2.mono (by decide)⟩
 have c2:zaL z.1 p.2:=.inl ⟨bz.mono (by decide),b2.mono (by decide)⟩
 have c3:∀ u:Int,zaL u 1:=fun u=>.inr (.inr (by decide))
 walk_at "g"
 refine⟨p,(a.1,1),rfl,c3 _,c1,?_⟩
 rw [e1]
 walk_at "g"
 refine zjx (fun g=>?_) (fun g=>?_)
 ·walk_at "g"
  refine⟨(z.1,1),p,rfl,c2,c3 _,?_⟩
  rw [e2]
  walk_at "g"
  rw [decide_eq_true (show a.1*p.2<=p.1 by lia),Bool.true_and] at q
  rw [show (!decide (z.1*p.2<p.1))=decide (p.1<=z.1*p.2) by rw [<- decide_not];exact decide_eq_decide.mpr (by lia)]
  exact fin_same q
 ·rw [decide_eq_false (show ¬ a.1*p.2<=p.1 by lia),Bool.false_and] at q
  exact fin_same q
def zbr:DSp:=fun ds S Q=>∃ (t b:Int),ds=[.int t,.int b]/\Q (.int ((Int.gcd t b:Nat):Int)) S
def zcx:DS :=
    (zG (zfm (dT (dOp oNe (zf 1) (dC (.int 0)))) (zG (zO (dOp oMod (zf 0) (zf 1)) (zB 2))
 (zG (zO (zf 1) (zB 0))
 (zO (zf 2) (zB 1)))))
 (z9 (dB zrO (zm (zf 0) zA))))
theorem zh3:∀ ds So Q,zbr ds So Q->ds.length=2:=by rintro ds So Q ⟨_,_,rfl,_⟩;rfl
theorem ziH:BodyOk 3 zcx zbr:=by
 rintro ds S Q ⟨t,b,rfl,q⟩
 unfold zcx
 refine Dp.zlJ ?_
 refine zr5 (fun m Z S'=>S'=S/\∃ (x y:Int) (w:Option D),Z=[some (.int x),some (.int y),w]/\m=y.natAbs/\Int.gcd x y=Int.gcd t b) b.natAbs ⟨rfl,_,_,none,rfl,rfl,rfl⟩ ?_
 rintro m Z S' ⟨rfl,x,y,w,rfl,rfl,e⟩
 walk_at "g"
 refine zjx (fun h0=>?_) (fun h0=>?_)
 ·refine zpJ ?_
  refine Dp.zlJ ?_
  refine Dp.zs0 ?_
  refine Dp.zpC ?_
  refine Dp.zgx rfl ?_
  refine Dp.zgx rfl ?_
  refine zvn h0 ?_
  walk_at "g"
  exact⟨_,znB h0,rfl,_,_,_,rfl,rfl,(zst x y).trans e⟩
 ·subst h0
  rw [Int.gcd_zero] at e
  walk_at "g"
  rw [<- e] at q
  exact fin_same q
def zdo:DSp:=fun ds S Q=>∃ (t b:Int),ds=[.int t,.int b]/\b≠0/\Bd 8000 b/\Q (p2 (frT t b,frB t b)) S
def zeW:DS :=
    (zG (zO (dCall zbr (zm (zf 0) (zm (zf 1) zA))) (zB 2))
 (zG (sJ (sIf (dT (dOp oLt (zf 1) (dC (.int 0)))) (zO (dUn zb2 (zf 2)) (zB 2)) zag))
 (z9 (dTup (zm (dOp oDiv (zf 0) (zf 2)) (zm (dOp oDiv (zf 1) (zf 2)) zA))))))
theorem zmT:∀ ds So Q,zdo ds So Q->ds.length=2:=by rintro ds So Q ⟨_,_,rfl,_⟩;rfl
theorem znh:BodyOk 3 zeW zdo:=by
 rintro ds S Q ⟨t,b,rfl,hb,bb,q⟩
 unfold zeW
 have hgn:=zti (t:=t) (b:=b) hb
 have hgb:=zxL (t:=t) (b:=b) hb bb
 walk_at "g"
 refine⟨t,b,rfl,?_⟩
 walk_at "g"
 refine r_J (fun Z S'=>S'=S/\Z=[some (.int t),some (.int b),some (.int (gd t b))]) ?_ ?_
 ·walk_at "g"
  refine r_d (fun g=>?_) (fun g=>?_)
  ·have hg:gd t b=-((Int.gcd t b:Nat):Int):=if_pos g
   walk_at "g"
   exact⟨rfl,by rw [hg];rfl⟩
  ·have hg:gd t b=((Int.gcd t b:Nat):Int):=if_neg g
   walk_at "g"
   exact⟨rfl,by rw [hg];rfl⟩
 rintro Z S' ⟨rfl,rfl⟩
 refine Dp.ztc ?_
 refine Dp.ztm ?_
 refine Dp.zm1 ?_
 refine Dp.zpC ?_
 refine Dp.zgx rfl ?_
 refine Dp.zgx rfl ?_
 refine zp1 ⟨hgn,hgb⟩ ?_
 refine Dp.zm1 ?_
 refine Dp.zpC ?_
 refine Dp.zgx rfl ?_
 refine Dp.zgx rfl ?_
 refine zp1 ⟨hgn,hgb⟩ ?_
 walk_at "g"
 exact fin_same q
def zcR:DSp:=fun ds S Q=>∃ (a b p:Int×Int),ds=[p2 a,p2 b,p2 p]/\b.1≠a.1/\0<p.2/\Bd 180 a.1/\Bd 200 a.2/\Bd 180 b.1/\Bd 200 b.2/\Bd 1000 p.1/\Bd 1000 p.2/\∀ c:Int×Int,Sv c (hvT a b p) (hvB a b p)->Int.gcd c.1 c.2=1->Bd 1400 c.1->Bd 1400 c.2->Q (p2 c) S
theorem zyn {t b:Int}(hb:b≠0):Sv (frT t b,frB t b) (if 0<b then t else -t) (if 0<b then b else -b):=by
 have h1:=zrC t b
 have h2:=zt7 (t:=t) hb
 refine⟨by show 0<frB t b;lia,?_⟩
 show frT t b*_=_*frB t b
 split
 ·rw [h1,Int.mul_comm]
 ·rw [Int.mul_neg,h1,Int.neg_mul,Int.mul_comm]
def zet:DS :=
    (zG (zO (dOp zap (dOp oIx (zf 1) (dC (.int 0))) (dOp oIx (zf 0) (dC (.int 0)))) (zB 3))
 (zG (zO (dOp zap (dOp oIx (zf 1) (dC (.int 1))) (dOp oIx (zf 0) (dC (.int 1)))) (zB 4))
 (zG (zO (dOp zal (dOp zbo (dOp zbo (dOp oIx (zf 0) (dC (.int 1))) (zf 3)) (dOp oIx (zf 2) (dC (.int 1)))) (dOp zbo (zf 4) (dOp zap (dOp oIx (zf 2) (dC (.int 0))) (dOp zbo (dOp oIx (zf 0) (dC (.int 0))) (dOp oIx (zf 2) (dC (.int 1))))))) (zB 5))
 (z9 (dCall zdo (zm (zf 5) (zm (dOp zbo (zf 3) (dOp oIx (zf 2) (dC (.int 1)))) zA)))))))
theorem zlG:∀ ds So Q,zcR ds So Q->ds.length=3:=by rintro ds So Q ⟨_,_,_,rfl,_⟩;rfl
theorem zmn:BodyOk 6 zet zcR:=by
 rintro ds S Q ⟨a,b,p,rfl,hne,hp,b1,b2,b3,b4,b5,b6,q⟩
 unfold zet
 have r1:Bd 181 (b.1-a.1):=Bd.sub b3 b1
 have r2:Bd 201 (b.2-a.2):=Bd.sub b4 b2
 have m1:Bd 381 (a.2*(b.1-a.1)):=Bd.mul b2 r1
 have m2:Bd 1381 (a.2*(b.1-a.1)*p.2):=Bd.mul m1 b6
 have m3:Bd 1180 (a.1*p.2):=Bd.mul b1 b6
 have m4:Bd 1181 (p.1-a.1*p.2):=Bd.sub (b5.mono (by decide)) m3
 have m5:Bd 1382 ((b.2-a.2)*(p.1-a.1*p.2)):=Bd.mul r2 m4
 have m6:Bd 1181 ((b.1-a.1)*p.2):=Bd.mul r1 b6
 have bT:Bd 1400 (a.2*(b.1-a.1)*p.2+(b.2-a.2)*(p.1-a.1*p.2)):=(Bd.add (n:=1382) (m2.mono (by decide)) m5).mono (by decide)
 have c1:zaL a.2 (b.1-a.1):=.inl ⟨b2.mono (by decide),r1.mono (by decide)⟩
 have c2:zaL (a.2*(b.1-a.1)) p.2:=.inl ⟨m1.mono (by decide),b6.mono (by decide)⟩
 have c3:zaL a.1 p.2:=.inl ⟨b1.mono (by decide),b6.mono (by decide)⟩
 have c4:zaL (b.2-a.2) (p.1-a.1*p.2):=.inl ⟨r2.mono (by decide),m4.mono (by decide)⟩
 have c5:zaL (b.1-a.1) p.2:=.inl ⟨r1.mono (by decide),b6.mono (by decide)⟩
 walk_at "g"
 have hr:(b.1-a.1)*p.2≠0:=Int.mul_ne_zero (by lia) (by lia)
 refine⟨_,_,rfl,hr,m6.mono (by decide),?_⟩
 refine fin_same (q _ ?_ (zva hr) (zvy bT) ((zvS m6).mono (by decide)))
 have hs:=zyn (t:=a.2*(b.1-a.1)*p.2+(b.2-a.2)*(p.1-a.1*p.2)) hr
 unfold hvT hvB
 by_cases g:0<b.1-a.1
 ·have:0<(b.1-a.1)*p.2:=Int.mul_pos g hp
  rw [if_pos this,if_pos this] at hs
  rw [if_pos g,if_pos g];exact hs
 ·have:¬ 0<(b.1-a.1)*p.2:=fun z=>by
   have:=Int.mul_pos (show 0 < -(b.1-a.1) by lia) hp
   rw [Int.neg_mul] at this
   lia
  rw [if_neg this,if_neg this] at hs
  rw [if_neg g,if_neg g];exact hs
def zc2:zfd:=fun ds S Q ex=>∃ (g:D) (cs:List (Int×Int)) (p:Int×Int),ds=[g,p2 p]/\GAt S g cs/\Grd cs/\0<p.2/\Bd 1000 p.1/\Bd 1000 p.2/\(¬ OnG cs p->ex "OffGround" S)/\(OnG cs p->∀ a b c:Int×Int,zjm cs p=some (a,b)->Sv c (hvT a b p) (hvB a b p)->0<hvB a b p->Int.gcd c.1 c.2=1->Bd 1400 c.1->Bd 1400 c.2->Q (p2 c) S)
def zeA (ex : XR) : DS :=
    (zG (sIf (zfi (dT (dCall zeq (zm (zf 0) (zm (zf 1) zA))))) (zh8 ex "OffGround") zag)
 (zG (zO (zbK "corners" (zf 0)) (zB 2))
 (zG (zO (dC (.int 1)) (zB 3))
 (zG (zfm (dT (dCall zdK (zm (dTup (zm (dOp oIx (dOp oIx (zf 2) (zf 3)) (dC (.int 0))) (zm (dC (.int 1)) zA))) (zm (zf 1) zA)))) (zsO 3 (dC (.int 1))))
 (z9 (dCall zcR (zm (dOp oIx (zf 2) (dOp zap (zf 3) (dC (.int 1)))) (zm (dOp oIx (zf 2) (zf 3)) (zm (zf 1) zA)))))))))
theorem zlx:∀ ds So Q ex,zc2 ds So Q ex->ds.length=2:=by rintro ds So Q ex ⟨_,_,_,rfl,_⟩;rfl
theorem zlW:ze6 4 zeA zc2:=by
 rintro ds S Q ex ⟨g,cs,p,rfl,hg,gr,hp,b1,b2,hx,q⟩
 unfold zeA
 obtain⟨n,l,rfl,hn,hl⟩:=id hg
 walk_at "g"
 refine⟨_,cs,p,rfl,hg,gr,b1,b2,?_⟩
 by_cases on:OnG cs p
 case neg =>
  have e:(decide (zkH cs*p.2<=p.1)&&decide (p.1<=zjy cs*p.2))=false:=Bool.eq_false_iff.mpr fun z=>on (by rw [qH,decide_eq_true_eq,decide_eq_true_eq] at z;exact z)
  rw [e]
  walk_at "g"
  exact hx on
 have q:=q on
 obtain⟨kk,a,b,ha,hb,hle,hlt⟩:=zqc gr.two on.2
 have seg:=seg_at ha hb hle hlt
 have hk:=zab hb
 rw [decide_eq_true on.1,decide_eq_true on.2,show (true&&true)=true from rfl]
 walk_at "g"
 refine zr5 (fun m Z S'=>S'=S/\∃ j:Nat,Z=[some (.ref n),some (p2 p),some (.ref l),some (.int ((j:Int)+1))]/\m=kk-j/\j<=kk) kk ⟨rfl,0,rfl,rfl,by lia⟩ ?_
 rintro m Z S' ⟨rfl,j,rfl,rfl,hj⟩
 obtain⟨c,hc,ac⟩:=zlM (cs:=cs) (k:=(j:Int)+1) (by lia) (by lia)
 have hc':cs[j+1]?=some c:=by rwa [show ((j:Int)+1).toNat=j+1 by lia] at hc
 obtain⟨bc,bc2⟩:=gr.bd c (qe hc)
 have e1:flt (c.1,1) p=decide (c.1*p.2<p.1):=by unfold flt;dsimp only;rw [Int.mul_one]
 walk_at "g"
 refine⟨(c.1,1),p,rfl,.inl ⟨bc.mono (by decide),b2.mono (by decide)⟩,.inr (.inr (show (1:Int).natAbs<2 ^ 64 by decide)),?_⟩
 rw [e1]
 walk_at "g"
 refine r_d (fun h=>?_) (fun h=>?_)
 ·walk_at "g"
  have hjk:j<kk:=by
   rcases qM j kk with z | z
   ·exact z
   ·have:j=kk:=by lia
    subst this
    rw [hb] at hc'
    cases hc'
    lia
  exact⟨kk-(j+1),by lia,rfl,j+1,by simp,rfl,by lia⟩
 ·have hjk:j=kk:=by
   rcases qM j kk with z | z
   ·have:=hlt (j+1) c (by lia) (by lia) hc'
    lia
   ·lia
  subst hjk
  rw [hb] at hc'
  cases hc'
  have aa:atD (cs.map p2) ((j:Int)+1-1)=some (p2 a):=by
   rw [show (j:Int)+1-1=(j:Int) by lia]
   exact zfa (by rw [qo,ha];rfl)
  obtain⟨ba1,ba2⟩:=gr.bd a (qe ha)
  have hab:=zqC gr (show j<j+1 by lia) ha hb
  walk_at "g"
  refine⟨a,b,p,rfl,by lia,hp,ba1.mono (by decide),ba2.mono (by decide),bc.mono (by decide),bc2.mono (by decide),b1,b2,fun c hs hg d1 d2=>?_⟩
  exact fin_same (q a b c seg hs (zuK (by lia) hp) hg d1 d2)
def zdQ:DSp:=fun ds S Q=>∃ (g:D) (cs:List (Int×Int)) (s:Int×Int),ds=[g,p2 s]/\GAt S g cs/\Grd cs/\Bd 180 s.1/\Bd 200 s.2/\∀ b:Bool,(b=true↔zd1 cs s)->Q (.bl b) S
def zgO:DS :=
    (zG (zO (dTup (zm (dOp oIx (zf 1) (dC (.int 0))) (zm (dC (.int 1)) zA))) (zB 2))
 (zG (sIf (zfi (dT (dCall zeq (zm (zf 0) (zm (zf 2) zA))))) (z9 (dC (.bl false))) zag)
 (z9 (zij (dCall zdK (zm (dTup (zm (dOp oIx (zf 1) (dC (.int 1))) (zm (dC (.int 1)) zA))) (zm (zdp zc2 xF (zm (zf 0) (zm (zf 2) zA))) zA)))))))
theorem zpj:∀ ds So Q,zdQ ds So Q->ds.length=2:=by rintro ds So Q ⟨_,_,_,rfl,_⟩;rfl
theorem zqO:BodyOk 3 zgO zdQ:=by
 rintro ds S Q ⟨g,cs,s,rfl,hg,gr,b1,b2,q⟩
 unfold zgO
 have bo:Bd 1000 (1:Int):=Bd.lit (by decide) (by decide)
 walk_at "g"
 refine⟨g,cs,(s.1,1),rfl,hg,gr,b1.mono (by decide),bo,?_⟩
 by_cases on:OnG cs (s.1,1)
 case neg =>
  have e:(decide (zkH cs*(s.1,(1:Int)).2<=(s.1,(1:Int)).1)&&decide ((s.1,(1:Int)).1<=zjy cs*(s.1,(1:Int)).2))=false:=Bool.eq_false_iff.mpr fun z=>on (by rw [qH,decide_eq_true_eq,decide_eq_true_eq] at z;exact z)
  rw [e]
  walk_at "g"
  exact fin_same (q false ⟨fun z=>(by cases z),fun z=>absurd z.1 on⟩)
 rw [decide_eq_true on.1,decide_eq_true on.2,show (true&&true)=true from rfl]
 walk_at "g"
 refine⟨g,cs,(s.1,1),rfl,hg,gr,(show (0:Int)<1 by decide),b1.mono (by decide),bo,fun off=>absurd on off,fun _ a b c seg sv hb hgcd d1 d2=>?_⟩
 walk_at "g"
 refine⟨(s.2,1),c,rfl,.inl ⟨b2.mono (by decide),d2.mono (by decide)⟩,.inr (.inr (show (1:Int).natAbs<2 ^ 64 by decide)),?_⟩
 rw [zwO (t:=s.2) (b:=1) (by decide) hb ⟨(show (0:Int)<1 by decide),rfl⟩ sv]
 walk_at "g"
 refine fin_same (q _ ?_)
 rw [Bool.not_eq_true',decide_eq_false_iff_not]
 constructor
 ·intro h
  refine⟨on,fun a' b' seg'=>?_⟩
  rw [seg] at seg';cases seg';lia
 ·intro h
  have:=h.2 a b seg
  lia
def zbg:DSp:=fun ds S Q=>∃ (g y:D) (cs:List (Int×Int)) (bs:List (Str×(Int×Int))),ds=[g,y]/\GAt S g cs/\Grd cs/\Lst S y (bs.map bcD)/\bs.length<=100/\(∀ b∈bs,zd1 cs b.2/\Bd 180 b.2.1/\Bd 200 b.2.2)/\Q .non S
def zb6:DS :=
  (sIf (zfi (dT (dB zhE (zm (dLC 3 [0] (zaN (zf 1)) (zbZ 3 (zah (zB 0) (zah (zB 1) (zah (zB 2) zb3)))) zcy (dCall zdQ (zm (zf 3) (zm (dTup (zm (zf 1) (zm (zf 2) zA))) zA)))) zA)))) zcG zag)
theorem zhn:∀ ds So Q,zbg ds So Q->ds.length=2:=by rintro ds So Q ⟨_,_,_,_,rfl,_⟩;rfl
theorem zhI:BodyOk 2 zb6 zbg:=by
 rintro ds S Q ⟨g,y,cs,bs,rfl,hg,gr,hy,hl,hb,q⟩
 unfold zb6
 walk_at "g"
 refine zbE (fun _=>true) (zkm fun _=>.bl true) hy (by rw [qb];unfold big;lia) (fun i d ys hd hw=>?_) ?_
 ·obtain⟨b,hbi,rfl⟩:=zgi hd
  obtain⟨s1,s2,s3⟩:=hb b (qe hbi)
  walk_at "g"
  refine⟨g,cs,b.2,rfl,hg,gr,s2,s3,fun r hr=>?_⟩
  rw [hr.mpr s1]
  exact zdg hd hw rfl rfl
 rw [filter_true,zfs,show bs.map (fun _=>D.bl true)=(bs.map fun _=>true).map D.bl by rw [List.map_map];rfl]
 walk_at "g"
 refine zhP (b:=true) Lst.at0 (by rw [List.all_map,List.all_eq_true];intro _ _;rfl) ?_
 walk_at "g"
 exact zaA rfl q
def zdn:DSp:=fun ds S Q=>∃ i:Int,ds=[.int i]/\Q (.bl true) S
def zeY:DS :=
  (z9 (ziy (dB zjh (zm (zf 0) (zm (dC (.ty "int")) zA))) (zij (dB zjh (zm (zf 0) (zm (dC (.ty "bool")) zA))))))
theorem zm4:∀ ds So Q,zdn ds So Q->ds.length=1:=by rintro ds So Q ⟨_,rfl,_⟩;rfl
theorem znl:BodyOk 1 zeY zdn:=by
 rintro ds S Q ⟨i,rfl,q⟩
 unfold zeY
 walk_at "g"
 exact fin_same q
def zeN:DSp:=fun ds S Q=>∃ F:Fg,ds=[fgD F]/\F.x0<=F.x1/\F.z0<=F.z1/\F.f<=F.l/\Q (.bl true) S
def zhf:DS :=
    (zG (sIf (dOr (zfi (dT (dB zjh (zm (zf 0) (zm (dC (.ty "tuple")) zA))))) (dT (dOp oNe (dB zbn (zm (zf 0) zA)) (dC (.int 8))))) (z9 (dC (.bl false))) zag)
 (zG (sIf (zfi (dT (dB zhE (zm (dLC 1 [] (zaN (zf 0)) (zB 0) zcy (dCall zdn (zm (zf 0) zA))) zA)))) (z9 (dC (.bl false))) zag)
 (z9 (ziy (dOp oLe (dOp oIx (zf 0) (dC (.int 0))) (dOp oIx (zf 0) (dC (.int 1)))) (ziy (dOp oLe (dOp oIx (zf 0) (dC (.int 2))) (dOp oIx (zf 0) (dC (.int 3)))) (dOp oLe (dOp oIx (zf 0) (dC (.int 4))) (dOp oIx (zf 0) (dC (.int 5)))))))))
theorem zps:∀ ds So Q,zeN ds So Q->ds.length=1:=by rintro ds So Q ⟨_,rfl,_⟩;rfl
theorem zqW:BodyOk 1 zhf zeN:=by
 rintro ds S Q ⟨F,rfl,h1,h2,h3,q⟩
 unfold zhf
 walk_at "g"
 rw [show (!decide ((([D.int F.x0,D.int F.x1,D.int F.z0,D.int F.z1,D.int F.f,D.int F.l,D.int F.g,D.int F.s]:List D).length:Int)=8))=false by rfl]
 walk_at "g"
 refine zbE (fun _=>true) (fun _=>.bl true) True.intro (by show 8<=big;unfold big;decide) (fun i d ys hd hw=>?_) ?_
 ·obtain⟨z,_,rfl⟩:=zem (zs:=[F.x0,F.x1,F.z0,F.z1,F.f,F.l,F.g,F.s]) hd
  walk_at "g"
  refine⟨z,rfl,?_⟩
  exact zdg hd hw rfl rfl
 walk_at "g"
 refine zhP (bs:=List.replicate 8 true) (b:=true) Lst.at0 rfl ?_
 walk_at "g"
 rw [decide_eq_true h1]
 walk_at "g"
 rw [decide_eq_true h2]
 walk_at "g"
 rw [decide_eq_true h3]
 exact zaA rfl q
theorem zwh {α:Type}(xs:List α)(f:α->D):(xs.map f).map (fun _=>D.bl true)=(xs.map fun _=>true).map D.bl:=by rw [List.map_map,List.map_map];rfl
def zbe:DSp:=fun ds S Q=>∃ (z:D) (fs:List Fg),ds=[z]/\Lst S z (fs.map fgD)/\fs.length<=100/\(∀ F∈fs,FgV F)/\Q .non S
def zb8:DS :=
  (sIf (zfi (dT (dB zhE (zm (dLC 1 [] (zaN (zf 0)) (zB 0) zcy (dCall zeN (zm (zf 0) zA))) zA)))) zcG zag)
theorem zho:∀ ds So Q,zbe ds So Q->ds.length=1:=by rintro ds So Q ⟨_,_,rfl,_⟩;rfl
theorem zh7:BodyOk 1 zb8 zbe:=by
 rintro ds S Q ⟨z,fs,rfl,hz,hl,hf,q⟩
 unfold zb8
 walk_at "g"
 refine zbE (fun _=>true) (fun _=>.bl true) hz (by rw [qb];unfold big;lia) (fun i d ys hd hw=>?_) ?_
 ·obtain⟨F,hF,rfl⟩:=zpO hd
  have k:=hf F (qe hF)
  walk_at "g"
  refine⟨F,rfl,k.b.x,k.b.z,k.o,?_⟩
  exact zdg hd hw rfl rfl
 rw [filter_true,zwh]
 walk_at "g"
 refine zhP (b:=true) Lst.at0 (by rw [List.all_map,List.all_eq_true];intro _ _;rfl) ?_
 walk_at "g"
 exact zaA rfl q
def za7:DSp:=fun ds S Q=>∃ (hz:Option Int) (a b d:Int),ds=[zbL hz,.int a,.int b,.int d]/\a<=b/\0<=d/\(∀ z,hz=some z->0<=z)/\Q .non S
def zbR:DS :=
    (zG (sIf (dT (dOp oGt (zf 1) (zf 2))) zcG zag)
 (zG (sIf (dT (dOp oLt (zf 3) (dC (.int 0)))) zcG zag)
 (sIf (zej (dT (dOp zhO (zf 0) (dC .non))) (dT (dOp oLt (zf 0) (dC (.int 0))))) zcG zag)))
theorem zgG:∀ ds So Q,za7 ds So Q->ds.length=4:=by rintro ds So Q ⟨_,_,_,_,rfl,_⟩;rfl
theorem zhl:BodyOk 4 zbR za7:=by
 rintro ds S Q ⟨hz,a,b,d,rfl,hab,hd,hh,q⟩
 unfold zbR
 walk_at "g"
 rw [decide_eq_false (show ¬ b<a by lia)]
 walk_at "g"
 rw [decide_eq_false (show ¬ d<0 by lia)]
 cases hz with
 | none =>
  walk_at "g"
  exact fin_same q
 | some z =>
  have:=hh z rfl
  unfold zbL
  walk_at "g"
  rw [decide_eq_false (show ¬ z<0 by lia)]
  walk_at "g"
  exact fin_same q
def zdc:DSp:=fun ds S Q=>∃ (S0:Sto) (g y z:D) (V:Vl),ds=[.ref S0.length,g,y,z,zbL V.hz,.int V.h0,.int V.h1,.int V.dl]/\S=S0++[.ins "Valley" []]/\GAt S0 g V.cs/\Lst S0 y (V.bs.map bcD)/\Lst S0 z (V.fs.map fgD)/\zcN V/\∀ T,VAt (S0++T) (.ref S0.length) V->Q .non (S0++T)
def zbN:DS :=
    (zG (zaq (dCall zaW (zm (zf 2) (zm (zf 3) zA))))
 (zG (zaq (dCall za6 (zm (dLC 1 [] (zaN (zf 2)) (zB 0) zcy (dOp oIx (zf 0) (dC (.int 0)))) zA)))
 (zG (zaq (dCall zbg (zm (zf 1) (zm (zf 2) zA))))
 (zG (zaq (dCall zbe (zm (zf 3) zA)))
 (zG (zaq (dCall za7 (zm (zf 4) (zm (zf 5) (zm (zf 6) (zm (zf 7) zA))))))
 (zG (zeB "Valley" "ground" (zf 0) (dCall zfJ (zm (zbK "corners" (zf 1)) zA)))
 (zG (zeB "Valley" "beacons" (zf 0) (dB zjU (zm (zf 2) zA)))
 (zG (zeB "Valley" "fogs" (zf 0) (dB zjU (zm (zf 3) zA)))
 (zG (zeB "Valley" "haze" (zf 0) (zf 4))
 (zG (zeB "Valley" "first" (zf 0) (zf 5))
 (zG (zeB "Valley" "last" (zf 0) (zf 6))
 (zeB "Valley" "delay" (zf 0) (zf 7)))))))))))))
theorem zjJ:∀ ds So Q,zdc ds So Q->ds.length=8:=by rintro ds So Q ⟨_,_,_,_,_,rfl,_⟩;rfl
theorem zku:BodyOk 8 zbN zdc:=by
 rintro ds S Q ⟨S0,g,y,z,V,rfl,rfl,hg,hy,hz,ok,q⟩
 unfold zbN
 obtain⟨Sa,hSa⟩:∃ Sa:Sto,Sa=S0++[.ins "Valley" []]:=⟨_,rfl⟩
 have hya:Lst Sa y (V.bs.map bcD):=hSa▸hy.old
 have hza:Lst Sa z (V.fs.map fgD):=hSa▸hz.old
 rw [<- hSa]
 walk_at "g"
 refine⟨y,z,_,_,rfl,hya,hza,by rw [qb];exact ok.b1,by rw [qb];exact ok.b12,by rw [qb];exact ok.f12,?_⟩
 walk_at "g"
 have b12:=ok.b12
 have f12:=ok.f12
 refine zbE (fun _=>true) (zkm fun b=>.str b.1) hya (by rw [qb];unfold big;lia) (fun i d ys hd hw=>?_) ?_
 ·obtain⟨b,_,rfl⟩:=zgi hd
  walk_at "g"
  exact zdg hd hw rfl rfl
 rw [filter_true,zfs,show V.bs.map (fun b=>D.str b.1)=(V.bs.map (·.1)).map D.str by rw [List.map_map];rfl,hSa]
 walk_at "g"
 refine⟨_,V.bs.map (·.1),rfl,Lst.at rfl,by rw [qb];lia,fun n hn=>?_,ok.nd,?_⟩
 ·obtain⟨b,hb,rfl⟩:=List.mem_map.mp hn
  exact ok.nm b hb
 walk_at "g"
 generalize (V.bs.map (·.1)).map D.str=nms
 refine⟨g,y,V.cs,V.bs,rfl,hg.old,ok.gr,hy.old,by lia,fun b hb=>⟨ok.st b hb,ok.bd b hb⟩,?_⟩
 walk_at "g"
 refine⟨z,V.fs,rfl,hz.old,by lia,ok.fg,?_⟩
 walk_at "g"
 refine⟨V.hz,_,_,_,rfl,ok.hh,ok.dl,ok.hz,?_⟩
 obtain⟨gn,gl,rfl,hgn,hgl⟩:=hg
 have hgn1:(S0++[.ins "Valley" [],.lst nms])[gn]?=some (.ins "Ground" [("corners",.ref gl)]):=zaK hgn
 walk_at "g"
 refine⟨_,_,V.cs,rfl,rfl,.inr ⟨gl,rfl,zaK hgl⟩,ok.gr,⟨rfl,?_⟩⟩
 rw [qG,show (S0++[Cell.ins "Valley" [],.lst nms]).length=S0.length+2 by simp,show ([Cell.ins "Valley" [],.lst nms]:Sto)++[.ins "Ground" [("corners",.ref (S0.length+2+1))],.lst (V.cs.map p2)]=[.ins "Valley" [],.lst nms,.ins "Ground" [("corners",.ref (S0.length+3))],.lst (V.cs.map p2)] from rfl]
 walk_at "g"
 refine⟨S0.length,[],rfl,zaF,by decide,?_⟩
 rw [za8,zrW]
 have hy2:∀ T,Lst (S0++T) y (V.bs.map bcD):=fun T=>hy.old
 have hz2:∀ T,Lst (S0++T) z (V.fs.map fgD):=fun T=>hz.old
 walk_at "g"
 refine⟨S0.length,_,rfl,zaF,by simp,?_⟩
 rw [za8,vp2]
 walk_at "g"
 refine⟨S0.length,_,rfl,zaF,by simp,?_⟩
 rw [za8,vp3]
 walk_at "g"
 refine⟨S0.length,_,rfl,zaF,by simp,?_⟩
 rw [za8,vp4]
 walk_at "g"
 refine⟨S0.length,_,rfl,zaF,by simp,?_⟩
 rw [za8,vp5]
 walk_at "g"
 refine⟨S0.length,_,rfl,zaF,by simp,?_⟩
 rw [za8,vp6]
 walk_at "g"
 refine⟨S0.length,_,rfl,zaF,by simp,?_⟩
 rw [za8,vp7]
 refine fin_same (q _ ⟨S0.length,_,_,_,rfl,zaF,⟨_,_,rfl,(zbF _ _ 2).trans rfl,(zbF _ _ 3).trans rfl⟩,(zbF _ _ 4).trans rfl,(zbF _ _ 5).trans rfl⟩)
def zh4:DSp:=zoZ "Valley" zdc
def zcJ:DSp:=fun ds S Q=>∃ (x y z:D) (V:Vl),ds=[vlD x y z V]/\VlS S x y z V/\zcN V/\∀ (T:Sto) (v:D),VAt (S++T) v V->Q v (S++T)
def zd6:DS :=
    (zG (zO (zf 0) (zbZ 7 (zah (zB 1) (zah (zB 2) (zah (zB 3) (zah (zB 4) (zah (zB 5) (zah (zB 6) (zah (zB 7) zb3)))))))))
 (z9 (dCall zh4 (zm (dCall zfJ (zm (zf 1) zA)) (zm (zf 2) (zm (zf 3) (zm (zf 4) (zm (zf 5) (zm (zf 6) (zm (zf 7) zA))))))))))
theorem zkV:∀ ds So Q,zcJ ds So Q->ds.length=1:=by rintro ds So Q ⟨_,_,_,_,rfl,_⟩;rfl
theorem zlr:BodyOk 8 zd6 zcJ:=by
 rintro ds S Q ⟨x,y,z,V,rfl,hs,ok,q⟩
 unfold zd6
 obtain⟨kx,ky,kz⟩:=hs
 walk_at "g"
 refine⟨S,_,V.cs,rfl,rfl,kx,ok.gr,⟨rfl,?_⟩⟩
 obtain⟨Sb,hSb⟩:∃ Sb:Sto,Sb=S++[.ins "Ground" [("corners",.ref (S.length+1))],.lst (V.cs.map p2)]:=⟨_,rfl⟩
 have hg:GAt Sb (.ref S.length) V.cs:=hSb▸⟨_,_,rfl,zaF,(zbF _ _ 1).trans rfl⟩
 have e1:∃ T,Sb=S++T:=⟨_,hSb⟩
 have ky1:Lst Sb y (V.bs.map bcD):=by obtain⟨T,rfl⟩:=e1;exact ky.old
 have kz1:Lst Sb z (V.fs.map fgD):=by obtain⟨T,rfl⟩:=e1;exact kz.old
 rw [<- hSb]
 clear hSb
 walk_at "g"
 refine⟨Sb,_,_,_,V,rfl,rfl,hg,ky1,kz1,ok,fun T hv=>⟨rfl,?_⟩⟩
 obtain⟨T1,rfl⟩:=e1
 refine fin_same ?_
 rw [qG] at hv ⊢
 exact q _ _ hv
def zby:DSp:=fun ds S Q=>∃ (v:D) (V:Vl),ds=[v]/\VAt S v V/\V.bs.length<=100/\New Q S ((V.bs.map (·.1)).map D.str)
def zeZ:DS :=
  (z9 (dLC 1 [] (zaN (zbK "beacons" (zf 0))) (zB 0) zcy (dOp oIx (zf 0) (dC (.int 0)))))
theorem zmf:∀ ds So Q,zby ds So Q->ds.length=1:=by rintro ds So Q ⟨_,_,rfl,_⟩;rfl
theorem znx:BodyOk 1 zeZ zby:=by
 rintro ds S Q ⟨v,V,rfl,hv,hl,q⟩
 unfold zeZ
 obtain⟨m,g,b',f,rfl,hm,hg,hb,_⟩:=hv
 walk_at "g"
 refine zbE (fun _=>true) (zkm fun b=>.str b.1) (Lst.here hb) (by rw [qb];unfold big;lia) (fun i d ys hd hw=>?_) ?_
 ·obtain⟨b,_,rfl⟩:=zgi hd
  walk_at "g"
  exact zdg hd hw rfl rfl
 rw [filter_true,zfs,show V.bs.map (fun b=>D.str b.1)=(V.bs.map (·.1)).map D.str by rw [List.map_map];rfl]
 exact fin_same q
def zdh:zfd:=fun ds S Q ex=>∃ (v:D) (V:Vl) (n:Str),ds=[v,.str n]/\VAt S v V/\zcN V/\fl 20 (.str n)=true/\((∀ b∈V.bs,b.1≠n)->ex "NoBeacon" S)/\∀ s,(n,s)∈V.bs->Q (p2 s) S
def zfF (ex : XR) : DS :=
    (zG (za3 (zaN (zbK "beacons" (zf 0))) (zB 2) (sIf (dT (dOp oEq (dOp oIx (zf 2) (dC (.int 0))) (zf 1))) (z9 (dTup (zm (dOp oIx (zf 2) (dC (.int 1))) (zm (dOp oIx (zf 2) (dC (.int 2))) zA)))) zag))
 (zh8 ex "NoBeacon"))
theorem znC:∀ ds So Q ex,zdh ds So Q ex->ds.length=2:=by rintro ds So Q ex ⟨_,_,_,rfl,_⟩;rfl
theorem zpu:ze6 3 zfF zdh:=by
 rintro ds S Q ex ⟨v,V,n,rfl,hv,ok,hn,hx,q⟩
 unfold zfF
 obtain⟨m,g,b',f,rfl,hm,hg,hb,_⟩:=hv
 walk_at "g"
 refine zau (fun i Z S'=>S'=S/\(∃ w,Z=[some (.ref m),some (.str n),w])/\∀ b∈V.bs.take i,b.1≠n) ⟨rfl,⟨none,rfl⟩,by simp⟩ (fun i Z S' h=>h.1▸Lst.here hb) ?_ ?_
 ·rintro i d Z S' hd ⟨rfl,⟨w,rfl⟩,hno⟩
  obtain⟨b,hbi,rfl⟩:=zgi hd
  have mb:=qe hbi
  walk_at "g"
  refine zpL (zjH (ok.nm b mb) 20) hn ?_
  walk_at "g"
  refine r_d (fun h=>?_) (fun h=>?_)
  ·walk_at "g"
   exact fin_same (q b.2 (by rw [<- h];exact mb))
  ·walk_at "g"
   refine⟨rfl,⟨_,rfl⟩,fun c hc=>?_⟩
   rw [zaC hbi] at hc
   rcases qF.mp hc with hc | hc
   ·exact hno c hc
   ·have:c=b:=by simpa using hc
    subst this;exact h
 ·rintro Z S' ⟨rfl,⟨w,rfl⟩,hno⟩
  rw [qb,List.take_length] at hno
  walk_at "g"
  exact hx hno
def zax:zfd:=fun ds S Q ex=>∃ (g:D) (cs:List (Int×Int)) (s:Int×Int),ds=[g,p2 s]/\GAt S g cs/\Grd cs/\Bd 180 s.1/\Bd 200 s.2/\(¬ zd1 cs s->ex "OffGround" S)/\(zd1 cs s->Q .non S)
def zbm (ex:XR):DS :=
  (sIf (zfi (dT (dCall zdQ (zm (zf 0) (zm (zf 1) zA))))) (zh8 ex "OffGround") zag)
theorem zfw:∀ ds So Q ex,zax ds So Q ex->ds.length=2:=by rintro ds So Q ex ⟨_,_,_,rfl,_⟩;rfl
theorem zfR:ze6 2 zbm zax:=by
 rintro ds S Q ex ⟨g,cs,s,rfl,hg,gr,b1,b2,hx,q⟩
 unfold zbm
 walk_at "g"
 refine⟨g,cs,s,rfl,hg,gr,b1,b2,fun b hb=>?_⟩
 cases b with
 | true=>walk_at "g";exact fin_same (q (hb.mp rfl))
 | false=>walk_at "g";exact hx fun z=>(by have:=hb.mpr z;cases this)
def zbh:DSp:=fun ds S Q=>∃ (g:D) (cs:List (Int×Int)) (x y:Int),ds=[g,.int x,.int y]/\GAt S g cs/\cs.length<=40/\New Q S ((nbK cs x y cs.length).map D.int)
def zb5:DS :=
    (zG (zO (dB zeD (zm (zf 1) (zm (zf 2) zA))) (zB 3))
 (zG (zO (dB zdd (zm (zf 1) (zm (zf 2) zA))) (zB 4))
 (z9 (dLC 2 [3,4] (zg7 (zm (zbK "corners" (zf 0)) zA)) (zbZ 2 (zah (zB 0) (zah (zB 1) zb3))) (dT (zhT oLt oLt (zf 2) (dOp oIx (zf 1) (dC (.int 0))) (zf 3))) (zf 0)))))
theorem zhm:∀ ds So Q,zbh ds So Q->ds.length=3:=by rintro ds So Q ⟨_,_,_,_,rfl,_⟩;rfl
theorem zhr:BodyOk 5 zb5 zbh:=by
 rintro ds S Q ⟨g,cs,x,y,rfl,⟨n,l,rfl,hn,hl⟩,h40,q⟩
 unfold zb5
 walk_at "g"
 refine zma (xs:=cs.map p2) (Lst.here hl) ?_
 refine⟨by rw [zcq,qb];unfold big;lia,fun i ys S'=>S'=S/\ys=(nbK cs x y i).map D.int,⟨rfl,rfl⟩,fun i ys S' zq3=>by obtain⟨e,_⟩:=zq3;exact e▸Lst.here hl,?_,?_⟩
 ·rintro i d ys S' hd ⟨rfl,rfl⟩
  obtain⟨u,hu,rfl⟩:=zcn hd
  obtain⟨c,hc,rfl⟩:=zeI hu
  have e0:((0+i:Nat):Int)=(i:Int):=by lia
  have eg:cs.getD i (0,0)=c:=by rw [qC,hc];rfl
  rw [e0]
  walk_at "g"
  refine r_d (fun g1=>?_) (fun g1=>?_)
  ·walk_at "g"
   refine r_d (fun g2=>?_) (fun g2=>?_)
   ·walk_at "g"
    exact⟨rfl,(zxF (by unfold nbP;rw [eg,decide_eq_true g1,decide_eq_true g2];rfl)).symm⟩
   ·walk_at "g"
    exact⟨rfl,by rw [ztb (by unfold nbP;rw [eg,decide_eq_false g2,Bool.and_false])]⟩
  ·walk_at "g"
   exact⟨rfl,by rw [ztb (by unfold nbP;rw [eg,decide_eq_false g1,Bool.false_and])]⟩
 ·rintro ys S' ⟨rfl,rfl⟩
  rw [zcq,qb]
  exact fin_same q
def zd0:DSp:=fun ds S Q=>∃ (a b c:Int×Int),ds=[p2 a,p2 b,p2 c]/\zaL (c.2-a.2) (b.1-a.1)/\zaL (c.1-a.1) (b.2-a.2)/\Q (.int (sdI a b c)) S
def zfN:DS :=
    (zG (zO (dOp zap (dOp oIx (zf 1) (dC (.int 0))) (dOp oIx (zf 0) (dC (.int 0)))) (zB 3))
 (zG (zO (dOp zap (dOp oIx (zf 1) (dC (.int 1))) (dOp oIx (zf 0) (dC (.int 1)))) (zB 4))
 (zG (zO (dOp zap (dOp zbo (dOp zap (dOp oIx (zf 2) (dC (.int 1))) (dOp oIx (zf 0) (dC (.int 1)))) (zf 3)) (dOp zbo (dOp zap (dOp oIx (zf 2) (dC (.int 0))) (dOp oIx (zf 0) (dC (.int 0)))) (zf 4))) (zB 5))
 (zG (sJ (sIf (dT (dOp oLt (zf 3) (dC (.int 0)))) (zO (dUn zb2 (zf 5)) (zB 5)) zag))
 (zG (sIf (dT (dOp oGt (zf 5) (dC (.int 0)))) (z9 (dC (.int 1))) zag)
 (zG (sIf (dT (dOp oLt (zf 5) (dC (.int 0)))) (z9 (dUn zb2 (dC (.int 1)))) zag)
 (z9 (dC (.int 0)))))))))
theorem zne:∀ ds So Q,zd0 ds So Q->ds.length=3:=by rintro ds So Q ⟨_,_,_,rfl,_⟩;rfl
theorem zor:BodyOk 6 zfN zd0:=by
 rintro ds S Q ⟨a,b,c,rfl,c1,c2,q⟩
 unfold zfN
 walk_at "g"
 unfold sdI at q
 have key:∀ o:Int,o=(if b.1-a.1<0 then -sdO a b c else sdO a b c)->(if 0<o then Q (.int 1) S else if o<0 then Q (.int (-1)) S else Q (.int 0) S):=fun o e=>by
  rw [<- e] at q
  by_cases h:0<o
  ·rw [if_pos h] at q ⊢;exact q
  ·rw [if_neg h] at q ⊢
   by_cases h2:o<0
   ·rw [if_pos h2] at q ⊢;exact q
   ·rw [if_neg h2] at q ⊢;exact q
 refine r_J (fun Z S'=>S'=S/\Z=[some (p2 a),some (p2 b),some (p2 c),some (.int (b.1-a.1)),some (.int (b.2-a.2)),some (.int (if b.1-a.1<0 then -sdO a b c else sdO a b c))]) ?_ ?_
 ·walk_at "g"
  refine r_d (fun g=>?_) (fun g=>?_)
  ·walk_at "g"
   exact⟨rfl,by rw [if_pos g];rfl⟩
  ·walk_at "g"
   exact⟨rfl,by rw [if_neg g];rfl⟩
 rintro Z S' ⟨rfl,rfl⟩
 have k:=key _ rfl
 generalize (if b.1-a.1<0 then -sdO a b c else sdO a b c)=o at k
 walk_at "g"
 refine r_d (fun g=>?_) (fun g=>?_)
 ·rw [if_pos g] at k
  walk_at "g"
  exact fin_same k
 ·rw [if_neg g] at k
  walk_at "g"
  refine r_d (fun g2=>?_) (fun g2=>?_)
  ·rw [if_pos g2] at k
   walk_at "g"
   exact fin_same k
  ·rw [if_neg g2] at k
   walk_at "g"
   exact fin_same k
def zeO:zfd:=fun ds S Q ex=>∃ (g:D) (cs:List (Int×Int)) (a b:Int×Int),ds=[g,p2 a,p2 b]/\GAt S g cs/\Grd cs/\(Bd 180 a.1/\Bd 200 a.2)/\(Bd 180 b.1/\Bd 200 b.2)/\(¬ (zd1 cs a/\zd1 cs b)->ex "OffGround" S)/\(zd1 cs a->zd1 cs b->Q (zbL (zkM cs a b)) S)
def zgA (ex : XR) : DS :=
    (zG (zaq (zdp zax ex (zm (zf 0) (zm (zf 1) zA))))
 (zG (zaq (zdp zax ex (zm (zf 0) (zm (zf 2) zA))))
 (zG (za3 (zaN (dCall zbh (zm (zf 0) (zm (dOp oIx (zf 1) (dC (.int 0))) (zm (dOp oIx (zf 2) (dC (.int 0))) zA))))) (zB 3) (sIf (dT (dOp oGt (dCall zd0 (zm (zf 1) (zm (zf 2) (zm (dOp oIx (zbK "corners" (zf 0)) (zf 3)) zA)))) (dC (.int 0)))) (z9 (zf 3)) zag))
 (z9 (dC .non)))))
theorem zpn:∀ ds So Q ex,zeO ds So Q ex->ds.length=3:=by rintro ds So Q ex ⟨_,_,_,_,rfl,_⟩;rfl
theorem zrk:ze6 4 zgA zeO:=by
 rintro ds S Q ex ⟨g,cs,a,b,rfl,hg,gr,ba,bb,hx,q⟩
 unfold zgA
 walk_at "g"
 refine⟨g,cs,a,rfl,hg,gr,ba.1,ba.2,fun z=>hx fun y=>z y.1,fun za=>?_⟩
 walk_at "g"
 refine⟨g,cs,b,rfl,hg,gr,bb.1,bb.2,fun z=>hx fun y=>z y.2,fun zb=>?_⟩
 have sa:=Std.of ba.1 ba.2 za
 have sb:=Std.of bb.1 bb.2 zb
 have q:=q za zb
 walk_at "g"
 refine⟨g,cs,_,_,rfl,hg,gr.most,?_⟩
 have kl:∀ k∈nbK cs a.1 b.1 cs.length,0<=k/\k<cs.length:=fun k hk=>zxh hk
 unfold zkM at q
 generalize nbK cs a.1 b.1 cs.length=ks at q kl
 unfold New
 walk_at "g"
 refine zau (fun i Z S'=>∃ w1,Z=[some g,some (p2 a),some (p2 b),w1]/\S'=S++[.lst (ks.map D.int)]/\∀ x∈ks.take i,zpD cs a b x=false) ⟨none,rfl,rfl,by simp⟩ (fun i Z S' zq4=>by obtain⟨w1,_,e,_⟩:=zq4;exact e▸Lst.at0) ?_ ?_
 ·rintro i d Z S' hd ⟨w1,rfl,rfl,hn⟩
  obtain⟨k,hk,rfl⟩:=zem hd
  obtain⟨k0,k1⟩:=kl k (qe hk)
  obtain⟨c,hc,ac⟩:=zlM (cs:=cs) k0 k1
  have eg:cs.getD k.toNat (0,0)=c:=by rw [qC,hc];rfl
  obtain⟨bc1,bc2⟩:=gr.bd c (qe hc)
  obtain⟨n,l,rfl,hgn,hgl⟩:=hg.old (T:=[.lst (ks.map D.int)])
  walk_at "g"
  refine⟨a,b,c,rfl,.inl ⟨(Bd.sub (bc2.mono (by decide:(190:Nat)<=200)) sa.2.1).mono (by decide),(Bd.sub sb.1 sa.1).mono (by decide)⟩,.inl ⟨(Bd.sub (bc1.mono (by decide:(170:Nat)<=180)) sa.1).mono (by decide),(Bd.sub sb.2.1 sa.2.1).mono (by decide)⟩,?_⟩
  walk_at "g"
  refine r_d (fun g1=>?_) (fun g1=>?_)
  ·walk_at "g"
   rw [zol hk hn (by unfold zpD;rw [eg];exact decide_eq_true g1)] at q
   exact zaA rfl q
  ·walk_at "g"
   refine⟨_,rfl,rfl,fun x hx=>?_⟩
   rw [zaC hk] at hx
   rcases qF.mp hx with hx | hx
   ·exact hn x hx
   ·have:x=k:=by simpa using hx
    subst this
    unfold zpD;rw [eg];exact decide_eq_false g1
 ·rintro Z S' ⟨w1,rfl,rfl,hn⟩
  rw [qb,List.take_length] at hn
  rw [zuf hn] at q
  walk_at "g"
  exact zaA rfl q
def zbq:DSp:=fun ds S Q=>∃ (a b:Int×Int),ds=[p2 a,p2 b]/\(Bd 180 a.1/\Bd 200 a.2)/\(Bd 180 b.1/\Bd 200 b.2)/\Q (.int (sqr a b)) S
def zcv:DS :=
    (zG (zO (dOp zap (dOp oIx (zf 1) (dC (.int 0))) (dOp oIx (zf 0) (dC (.int 0)))) (zB 2))
 (zG (zO (dOp zap (dOp oIx (zf 1) (dC (.int 1))) (dOp oIx (zf 0) (dC (.int 1)))) (zB 3))
 (z9 (dOp zal (dOp zbo (zf 2) (zf 2)) (dOp zbo (zf 3) (zf 3))))))
theorem zhU:∀ ds So Q,zbq ds So Q->ds.length=2:=by rintro ds So Q ⟨_,_,rfl,_⟩;rfl
theorem ziJ:BodyOk 4 zcv zbq:=by
 rintro ds S Q ⟨a,b,rfl,⟨a1,a2⟩,⟨b1,b2⟩,q⟩
 unfold zcv
 have c1:Bd 8000 (b.1-a.1):=(Bd.sub b1 a1).mono (by decide)
 have c2:Bd 8000 (b.2-a.2):=(Bd.sub b2 a2).mono (by decide)
 have m1:zaL (b.1-a.1) (b.1-a.1):=.inl ⟨c1,c1⟩
 have m2:zaL (b.2-a.2) (b.2-a.2):=.inl ⟨c2,c2⟩
 walk_at "g"
 exact fin_same q
def zbI:DSp:=fun ds S Q=>∃ (v:D) (V:Vl) (a b:Int×Int),ds=[v,p2 a,p2 b]/\VAt S v V/\zcN V/\((Bd 180 a.1/\Bd 200 a.2)/\zd1 V.cs a)/\((Bd 180 b.1/\Bd 200 b.2)/\zd1 V.cs b)/\Q (ziw V a b) S
def zcP:DS :=
    (zG (zO (zdp zeO xF (zm (zbK "ground" (zf 0)) (zm (zf 1) (zm (zf 2) zA)))) (zB 3))
 (zG (sIf (dT (dOp zhO (zf 3) (dC .non))) (z9 (dTup (zm (dC (.str "ground")) (zm (zf 3) zA)))) zag)
 (zG (zO (dCall zbq (zm (zf 1) (zm (zf 2) zA))) (zB 4))
 (zG (sIf (zej (dT (dOp zhO (zbK "haze" (zf 0)) (dC .non))) (dT (dOp oGt (zf 4) (zbK "haze" (zf 0))))) (z9 (dTup (zm (dC (.str "haze")) (zm (zf 4) zA)))) zag)
 (z9 (dC .non))))))
theorem ziK:∀ ds So Q,zbI ds So Q->ds.length=3:=by rintro ds So Q ⟨_,_,_,_,rfl,_⟩;rfl
theorem zi4:BodyOk 5 zcP zbI:=by
 rintro ds S Q ⟨v,V,a,b,rfl,hv,ok,⟨ba,sa⟩,⟨bb,sb⟩,q⟩
 unfold zcP
 obtain⟨n,g,bb',f,rfl,hn,hg,_,_⟩:=hv
 walk_at "g"
 refine⟨_,V.cs,a,b,rfl,hg,ok.gr,ba,bb,fun no=>(no ⟨sa,sb⟩).elim,fun _ _=>?_⟩
 unfold ziw at q
 cases e:zkM V.cs a b with
 | some k =>
  rw [e] at q
  unfold zbL
  walk_at "g"
  exact fin_same q
 | none =>
  rw [e] at q
  unfold zbL
  walk_at "g"
  refine⟨a,b,rfl,ba,bb,?_⟩
  dsimp only at q
  have hn':S[n]?=some (.ins "Valley" (vF (.ref g) (.ref bb') (.ref f) (zbL V.hz) (.int V.h0) (.int V.h1) (.int V.dl))):=hn
  generalize sqr a b=sq at q
  generalize V.hz=hz at q hn'
  cases hz with
  | none =>
   have q2:Q .non S:=q
   unfold zbL at hn'
   walk_at "g"
   exact fin_same q2
  | some z =>
   have q2:Q (if decide (z<sq)=true then .tup [.str "haze",.int sq] else .non) S:=q
   unfold zbL at hn'
   walk_at "g"
   refine r_d (fun h=>?_) (fun h=>?_)
   ·rw [if_pos (decide_eq_true h)] at q2
    walk_at "g"
    exact fin_same q2
   ·rw [if_neg (by rw [decide_eq_false h];decide)] at q2
    walk_at "g"
    exact fin_same q2
def zef:DSp:=fun ds S Q=>∃ (F:Fg) (h:Int),ds=[fgD F,.int h]/\zaL F.g h/\zaL F.s h/\Q (.tup [.int (F.x0+F.g*h),.int (F.x1+F.g*h),.int (F.z0+F.s*h),.int (F.z1+F.s*h)]) S
def zis:DS :=
    (zG (zO (dOp zbo (dOp oIx (zf 0) (dC (.int 6))) (zf 1)) (zB 2))
 (zG (zO (dOp zbo (dOp oIx (zf 0) (dC (.int 7))) (zf 1)) (zB 3))
 (z9 (dTup (zm (dOp zal (dOp oIx (zf 0) (dC (.int 0))) (zf 2)) (zm (dOp zal (dOp oIx (zf 0) (dC (.int 1))) (zf 2)) (zm (dOp zal (dOp oIx (zf 0) (dC (.int 2))) (zf 3)) (zm (dOp zal (dOp oIx (zf 0) (dC (.int 3))) (zf 3)) zA))))))))
theorem zqA:∀ ds So Q,zef ds So Q->ds.length=2:=by rintro ds So Q ⟨_,_,rfl,_⟩;rfl
theorem zrV:BodyOk 4 zis zef:=by
 rintro ds S Q ⟨F,h,rfl,c1,c2,q⟩
 unfold zis
 walk_at "g"
 exact fin_same q
def zdf:DSp:=fun ds S Q=>∃ (L R B T x1 z1 x2 z2:Int),ds=[.tup [.int L,.int R,.int B,.int T],.tup [.int x1,.int z1],.tup [.int x2,.int z2]]/\Bd 1000 L/\Bd 1000 R/\Bd 1000 B/\Bd 1000 T/\Bd 1000 x1/\Bd 1000 z1/\Bd 1000 x2/\Bd 1000 z2 /\
 ∀ (ca cb:Cell) (mx mn:Int),mx∈acr L R B T x1 z1 x2 z2->(∀ a∈acr L R B T x1 z1 x2 z2,a<=mx)->mn∈acr L R B T x1 z1 x2 z2->(∀ a∈acr L R B T x1 z1 x2 z2,mn<=a)->Q (.ref (S.length+2)) (S++[ca,cb,.lst ((six L R B T x1 z1 x2 z2 mx mn).map D.int)])
def zfx:DS :=
    (zG (zO (dOp zap (dOp oIx (zf 2) (dC (.int 0))) (dOp oIx (zf 1) (dC (.int 0)))) (zB 3))
 (zG (zO (dOp zap (dOp oIx (zf 2) (dC (.int 1))) (dOp oIx (zf 1) (dC (.int 1)))) (zB 4))
 (zG (zO (zcj (zm (dTup (zm (dOp oIx (zf 0) (dC (.int 0))) (zm (dOp oIx (zf 0) (dC (.int 2))) zA))) (zm (dTup (zm (dOp oIx (zf 0) (dC (.int 0))) (zm (dOp oIx (zf 0) (dC (.int 3))) zA))) (zm (dTup (zm (dOp oIx (zf 0) (dC (.int 1))) (zm (dOp oIx (zf 0) (dC (.int 2))) zA))) (zm (dTup (zm (dOp oIx (zf 0) (dC (.int 1))) (zm (dOp oIx (zf 0) (dC (.int 3))) zA))) zA))))) (zB 5))
 (zG (zO (dLC 2 [3,1,4] (zaN (zf 5)) (zbZ 2 (zah (zB 0) (zah (zB 1) zb3))) zcy (dOp zap (dOp zbo (zf 2) (dOp zap (zf 1) (dOp oIx (zf 3) (dC (.int 1))))) (dOp zbo (zf 4) (dOp zap (zf 0) (dOp oIx (zf 3) (dC (.int 0))))))) (zB 6))
 (z9 (zcj (zm (dOp zap (dB zdd (zm (dOp oIx (zf 1) (dC (.int 0))) (zm (dOp oIx (zf 2) (dC (.int 0))) zA))) (dOp oIx (zf 0) (dC (.int 0)))) (zm (dOp zap (dOp oIx (zf 0) (dC (.int 1))) (dB zeD (zm (dOp oIx (zf 1) (dC (.int 0))) (zm (dOp oIx (zf 2) (dC (.int 0))) zA)))) (zm (dOp zap (dB zdd (zm (dOp oIx (zf 1) (dC (.int 1))) (zm (dOp oIx (zf 2) (dC (.int 1))) zA))) (dOp oIx (zf 0) (dC (.int 2)))) (zm (dOp zap (dOp oIx (zf 0) (dC (.int 3))) (dB zeD (zm (dOp oIx (zf 1) (dC (.int 1))) (zm (dOp oIx (zf 2) (dC (.int 1))) zA)))) (zm (dB zpl (zm (zf 6) zA)) (zm (dUn zb2 (dB zos (zm (zf 6) zA))) zA))))))))))))
theorem znz:∀ ds So Q,zdf ds So Q->ds.length=3:=by rintro ds So Q ⟨_,_,_,_,_,_,_,_,rfl,_⟩;rfl
theorem zo5:BodyOk 7 zfx zdf:=by
 rintro ds S Q ⟨L,R,B,T,x1,z1,x2,z2,rfl,bL,bR,bB,bT,b1,b2,b3,b4,q⟩
 unfold zfx
 walk_at "g"
 refine zbE (fun _=>true) (on2 fun c=>.int ((x2-x1)*(c.2-z1)-(z2-z1)*(c.1-x1))) (by walk_at "dlat") (Nat.le_of_ble_eq_true rfl) (fun i d ys hd hw=>?_) ?_
 ·obtain⟨c,hc,rfl⟩:=zeI (cs:=[(L,B),(L,T),(R,B),(R,T)]) hd
  have hm:=qe hc
  have hb:Bd 1000 c.1/\Bd 1000 c.2:=by
   simp only [qh,qE,or_false] at hm
   rcases hm with rfl | rfl | rfl | rfl
   ·exact⟨bL,bB⟩
   ·exact⟨bL,bT⟩
   ·exact⟨bR,bB⟩
   ·exact⟨bR,bT⟩
  have hb1:=hb.1
  have hb2:=hb.2
  have c1:zaL (x2-x1) (c.2-z1):=.inl ⟨(Bd.sub b3 b1).mono (by decide),(Bd.sub hb2 b2).mono (by decide)⟩
  have c2:zaL (z2-z1) (c.1-x1):=.inl ⟨(Bd.sub b4 b2).mono (by decide),(Bd.sub hb1 b1).mono (by decide)⟩
  walk_at "g"
  exact zdg hd hw rfl rfl
 rw [filter_true]
 show New _ _ ((acr L R B T x1 z1 x2 z2).map D.int)
 walk_at "g"
 refine zwF (ns:=acr L R B T x1 z1 x2 z2) (by walk_at "dlat") (Nat.le_of_ble_eq_true rfl) fun mx m1 m2=>?_
 walk_at "g"
 refine zwZ (ns:=acr L R B T x1 z1 x2 z2) (by walk_at "dlat") (Nat.le_of_ble_eq_true rfl) fun mn n1 n2=>?_
 walk_at "g"
 exact fin_same (q _ _ mx mn m1 m2 n1 n2)
def zdM:DSp:=fun ds S Q=>∃ (x:D) (cs:List (Int×Int)),ds=[x]/\zeP S x (cs.map p2)/\cs.length<=4000/\(cs.filter lec).length<64 /\
 ∀ ms:List (Int×Int),zao ms->(∀ h,ms.any (inS h)=cs.any (inS h))->ms.length<=(cs.filter lec).length->Q (.tup (ms.map p2)) S
theorem zot {ss:List (Int×Int)}(srt:ss.Pairwise fun a b=>zjq b a=false){i:Nat}{c d:Int×Int}(hc:ss[i]?=some c)(hd:d∈ss.take i):d.1<=c.1:=by
 obtain⟨j,hj,e⟩:=qR.mp hd
 rw [List.length_take] at hj
 rw [List.getElem_take] at e
 have hi:=zab hc
 rw [qc hi] at hc
 cases hc
 subst e
 exact zu8 (List.pairwise_iff_getElem.mp srt j i (by lia) hi (by lia))
theorem zhg {ss:List (Int×Int)}{i:Nat}{c:Int×Int}(hc:ss[i]?=some c)(h:Int):(ss.take (i+1)).any (inS h)=((ss.take i).any (inS h)||inS h c):=by
 rw [zaC hc,List.any_append];simp
theorem zth {α:Type}{l:List α}(h:0<l.length):∃ i x,l=i++[x]:=by
 have:l≠[]:=fun e=>by rw [e] at h;cases h
 exact⟨l.dropLast,l.getLast this,(List.dropLast_concat_getLast this).symm⟩
def zkf:DS :=
    (zG (zO (zcj zA) (zB 1))
 (zG (za3 (zaN (dB zoq (zm (dLC 1 [] (zaN (zf 0)) (zB 0) (dT (dOp oLe (dOp oIx (zf 0) (dC (.int 0))) (dOp oIx (zf 0) (dC (.int 1))))) (dTup (zm (dOp oIx (zf 0) (dC (.int 0))) (zm (dOp oIx (zf 0) (dC (.int 1))) zA)))) zA))) (zbZ 2 (zah (zB 2) (zah (zB 3) zb3))) (sIf (zej (dT (dOp oGt (dB zbn (zm (zf 1) zA)) (dC (.int 0)))) (dT (dOp oLe (zf 2) (dOp zal (dOp oIx (dOp oIx (zf 1) (dUn zb2 (dC (.int 1)))) (dC (.int 1))) (dC (.int 1)))))) (zO (dTup (zm (dOp oIx (dOp oIx (zf 1) (dUn zb2 (dC (.int 1)))) (dC (.int 0))) (zm (dB zdd (zm (dOp oIx (dOp oIx (zf 1) (dUn zb2 (dC (.int 1)))) (dC (.int 1))) (zm (zf 3) zA))) zA))) (zi3 (zf 1) (dUn zb2 (dC (.int 1))))) (zaq (dM zcM (zf 1) (zm (dTup (zm (zf 2) (zm (zf 3) zA))) zA)))))
 (z9 (dB zgd (zm (zf 1) zA)))))
theorem zsH:∀ ds So Q,zdM ds So Q->ds.length=1:=by rintro ds So Q ⟨_,_,rfl,_⟩;rfl
theorem zu0:BodyOk 4 zkf zdM:=by
 rintro ds S Q ⟨x,cs,rfl,hx,hcl,hfl,q⟩
 unfold zkf
 walk_at "g"
 refine zvs (xs:=cs.map p2) hx.old fun ok hok=>?_
 refine zbE (zw9 lec) (on2 p2) (by have:=hok [];rwa [List.append_nil] at this) ?_ (fun i d ys hd hw=>?_) ?_
 ·rw [qb];unfold big;lia
 ·obtain⟨c,hc,rfl⟩:=zeI hd
  walk_at "g"
  refine r_d (fun g=>?_) (fun g=>?_)
  ·walk_at "g"
   exact zdg hd hw (decide_eq_true g) rfl
  ·walk_at "g"
   exact ztg hd hw (decide_eq_false g)
 rw [zrz,ztv]
 walk_at "g"
 refine zu6 (cs:=cs.filter lec) (Lst.at rfl) hfl fun ss perm srt=>?_
 have hsl:ss.length=(cs.filter lec).length:=perm.length_eq
 have hsle:∀ c∈ss,c.1<=c.2:=fun c hc=>of_decide_eq_true (List.mem_filter.mp (perm.mem_iff.mp hc)).2
 walk_at "g"
 refine zau (fun i Z S'=>∃ (ms:List (Int×Int)) (w1 w2:Option D),Z=[some x,some (.ref S.length),w1,w2]/\S'=S++[.lst (ms.map p2),.lst ((cs.filter lec).map p2),.lst (ss.map p2)]/\zao ms/\ms.length<=i /\
  (∀ h,ms.any (inS h)=(ss.take i).any (inS h))/\∀ m∈ms,∃ d∈ss.take i,m.1=d.1)
  ⟨[],none,none,rfl,rfl,zao.nil,qf _,fun h=>rfl,by simp⟩ (fun i Z S' zq5=>by obtain⟨ms,w1,w2,_,e,_⟩:=zq5;exact e▸Lst.at rfl) ?_ ?_
 ·rintro i d Z S' hd ⟨ms,w1,w2,rfl,rfl,ok,hml,hany,hlow⟩
  obtain⟨c,hc,rfl⟩:=zeI hd
  have hil:=zab hc
  have hcle:=hsle c (qe hc)
  have low:∀ m∈ms,m.1<=c.1:=fun m hm=>by
   obtain⟨d,hd,e⟩:=hlow m hm
   rw [e]
   exact zot srt hc hd
  have hlow':∀ m,(∃ d∈ss.take i,m=d.1)->∃ d∈ss.take (i+1),m=d.1:=fun m zq6=>by obtain⟨d,hd,e⟩:=zq6;exact⟨d,by rw [zaC hc];exact List.mem_append_left _ hd,e⟩
  have hnew:∃ d∈ss.take (i+1),c.1=d.1:=⟨c,by rw [zaC hc];simp,rfl⟩
  have app:(∀ m∈ms,m.2+2<=c.1)->∃ (ms':List (Int×Int)) (w1 w2:Option D),([some x,some (.ref S.length),some (.int c.1),some (.int c.2)]:Rho)=[some x,some (.ref S.length),w1,w2]/\S++[Cell.lst (ms.map p2++[p2 c]),.lst ((cs.filter lec).map p2),.lst (ss.map p2)]=S++[.lst (ms'.map p2),.lst ((cs.filter lec).map p2),.lst (ss.map p2)]/\zao ms'/\ms'.length<=i+1 /\
    (∀ h,ms'.any (inS h)=(ss.take (i+1)).any (inS h))/\∀ m∈ms',∃ d∈ss.take (i+1),m.1=d.1:=fun ap=>by
   refine⟨ms++[c],_,_,rfl,by rw [qv];rfl,ok.snoc hcle ap,by rw [qg];exact Nat.succ_le_succ hml,fun h=>by rw [List.any_append,hany h,zhg hc];simp,fun y hy=>?_⟩
   rcases qF.mp hy with hy | hy
   ·exact hlow' _ (hlow y hy)
   ·have:y=c:=by simpa using hy
    subst this
    exact hnew
  walk_at "g"
  rw [qb]
  refine r_d (fun h0=>?_) (fun h0=>?_)
  ·obtain⟨ms0,m,rfl⟩:=zth (l:=ms) (by lia)
   have hm1:=low m (by simp)
   have am:atD (List.map p2 (ms0++[m])) (-1)=some (p2 m):=by rw [qv];exact zjp
   have im:ixD (List.map p2 (ms0++[m])).length (-1)=some (ms0.map p2).length:=by rw [qv];exact zmo
   walk_at "g"
   refine r_d (fun h1=>?_) (fun h1=>?_)
   ·walk_at "g"
    refine zlN zaF im ?_
    walk_at "g"
    obtain⟨ok2,any2⟩:=zsh ok hcle hm1 h1
    refine⟨ms0++[(m.1,max m.2 c.2)],_,_,rfl,?_,ok2,by rw [qg] at hml ⊢;exact Nat.le_succ_of_le hml,fun h=>by rw [any2 h,hany h,zhg hc],fun y hy=>?_⟩
    ·rw [qv,qv,List.set_append_right _ _ (qf _),Nat.sub_self];rfl
    ·rcases qF.mp hy with hy | hy
     ·exact hlow' _ (hlow y (List.mem_append_left _ hy))
     ·have:y=(m.1,max m.2 c.2):=by simpa using hy
      subst this
      exact hlow' _ (hlow m (by simp))
   ·walk_at "g"
    obtain⟨ok0,hmle,hap⟩:=ok.init
    exact app fun y hy=>by
     rcases qF.mp hy with hy | hy
     ·have:=hap y hy
      lia
     ·have:y=m:=by simpa using hy
      subst this
      lia
  ·have em:ms=[]:=List.length_eq_zero_iff.mp (by lia)
   walk_at "g"
   exact app (by rw [em];simp)
 ·rintro Z S' ⟨ms,w1,w2,rfl,rfl,ok,hml,hany,hlow⟩
  rw [qb] at hml hany
  walk_at "g"
  exact zaA (ziv ms) (q ms ok (fun h=>by rw [hany h,List.take_length,zrM perm,show cs.filter lec=cs.filter (fun c=>decide (c.1<=c.2)) from rfl,any_filter]) (by lia))
def zfc:DSp:=fun ds S Q=>∃ (F:Fg) (px pz qx qz:Int),ds=[fgD F,.tup [.int px,.int pz],.tup [.int qx,.int qz]]/\FgB F/\Bd 600 px/\Bd 600 pz/\Bd 600 qx/\Bd 600 qz/\∀ ms:List (Int×Int),ztl ms F px pz qx qz->Q (.tup (ms.map p2)) S
def zig:DS :=
    (zG (zO (dC (.int 0)) (zB 3))
 (zG (zO (dOp zap (dOp oIx (zf 0) (dC (.int 5))) (dOp oIx (zf 0) (dC (.int 4)))) (zB 4))
 (zG (zO (dCall zdf (zm (dCall zef (zm (zf 0) (zm (dC (.int 0)) zA))) (zm (zf 1) (zm (zf 2) zA)))) (zB 5))
 (zG (zO (dCall zdf (zm (dCall zef (zm (zf 0) (zm (dC (.int 1)) zA))) (zm (zf 1) (zm (zf 2) zA)))) (zB 6))
 (zG (za3 (zsG (zm (zf 5) (zm (zf 6) zA))) (zbZ 2 (zah (zB 7) (zah (zB 8) zb3))) (zG (zO (dOp zap (zf 8) (zf 7)) (zB 9))
 (sIf (dT (dOp oGt (zf 9) (dC (.int 0)))) (zO (dB zdd (zm (zf 3) (zm (dUn zb2 (dOp oDiv (zf 7) (zf 9))) zA))) (zB 3)) (sIf (dT (dOp oLt (zf 9) (dC (.int 0)))) (zO (dB zeD (zm (zf 4) (zm (dOp oDiv (zf 7) (dUn zb2 (zf 9))) zA))) (zB 4)) (sIf (dT (dOp oLt (zf 7) (dC (.int 0)))) (z9 (dTup zA)) zag)))))
 (z9 (dCall zdM (zm (zcj (zm (dTup (zm (dOp zal (dOp oIx (zf 0) (dC (.int 4))) (zf 3)) (zm (dOp zal (dOp oIx (zf 0) (dC (.int 4))) (zf 4)) zA))) zA)) zA))))))))
theorem zro:∀ ds So Q,zfc ds So Q->ds.length=3:=by rintro ds So Q ⟨_,_,_,_,_,rfl,_⟩;rfl
theorem zr0:BodyOk 10 zig zfc:=by
  rintro ds S Q ⟨F,px,pz,qx,qz,rfl,B,bpx,bpz,bqx,bqz,q⟩
  unfold zig
  have bmv:∀ {x y c:Int},Bd 600 x->Bd 200 y->(c=0\/c=1)->Bd 700 (x+y*c):=fun {x y c} hx hy hc=>(Bd.add (n:=600) hx (by
    rcases hc with rfl | rfl
    . rw [Int.mul_zero];exact Bd.lit (by decide) (by decide)
    . rw [Int.mul_one];exact hy.mono (by decide))).mono (by decide)
  have cs:∀ {y c:Int},(c=0\/c=1)->zaL y c:=fun hc=>.inr (.inr (by rcases hc with rfl | rfl<;>decide))
  walk_at "g"
  refine⟨F,0,rfl,cs (.inl rfl),cs (.inl rfl),?_⟩
  walk_at "g"
  refine⟨_,_,_,_,px,pz,qx,qz,rfl,(bmv B.b0 B.bg (.inl rfl)).mono (by decide),(bmv B.b1 B.bg (.inl rfl)).mono (by decide),(bmv B.b2 B.bs (.inl rfl)).mono (by decide),(bmv B.b3 B.bs (.inl rfl)).mono (by decide),bpx.mono (by decide),bpz.mono (by decide),bqx.mono (by decide),bqz.mono (by decide),fun ca cb mx mn m1 m2 n1 n2=>?_⟩
  walk_at "g"
  refine⟨F,1,rfl,cs (.inr rfl),cs (.inr rfl),?_⟩
  walk_at "g"
  refine⟨_,_,_,_,px,pz,qx,qz,rfl,(bmv B.b0 B.bg (.inr rfl)).mono (by decide),(bmv B.b1 B.bg (.inr rfl)).mono (by decide),(bmv B.b2 B.bs (.inr rfl)).mono (by decide),(bmv B.b3 B.bs (.inr rfl)).mono (by decide),bpx.mono (by decide),bpz.mono (by decide),bqx.mono (by decide),bqz.mono (by decide),fun ca' cb' mx' mn' m1' m2' n1' n2'=>?_⟩
  have mm:∀ k,_↔_:=fun k=>zqa (k:=k) m1 m2 n1 n2 m1' m2' n1' n2'
  have sb:=zpW (bmv B.b0 B.bg (.inl rfl)) (bmv B.b1 B.bg (.inl rfl)) (bmv B.b2 B.bs (.inl rfl)) (bmv B.b3 B.bs (.inl rfl)) (bpx.mono (by decide)) (bpz.mono (by decide)) (bqx.mono (by decide)) (bqz.mono (by decide)) m1 n1
  have ab:=zpW (bmv B.b0 B.bg (.inr rfl)) (bmv B.b1 B.bg (.inr rfl)) (bmv B.b2 B.bs (.inr rfl)) (bmv B.b3 B.bs (.inr rfl)) (bpx.mono (by decide)) (bpz.mono (by decide)) (bqx.mono (by decide)) (bqz.mono (by decide)) m1' n1'
  have l1:(six (F.x0+F.g*0) (F.x1+F.g*0) (F.z0+F.s*0) (F.z1+F.s*0) px pz qx qz mx mn).length=6:=rfl
  have l2:(six (F.x0+F.g*1) (F.x1+F.g*1) (F.z0+F.s*1) (F.z1+F.s*1) px pz qx qz mx' mn').length=6:=rfl
  generalize six (F.x0+F.g*0) (F.x1+F.g*0) (F.z0+F.s*0) (F.z1+F.s*0) px pz qx qz mx mn=A at *
  generalize six (F.x0+F.g*1) (F.x1+F.g*1) (F.z0+F.s*1) (F.z1+F.s*1) px pz qx qz mx' mn'=A' at *
  clear m1 m2 n1 n2 m1' m2' n1' n2'
  have kA:(S++[ca,cb,Cell.lst (A.map D.int)]++[ca',cb',Cell.lst (A'.map D.int)])[S.length+2]?=some (.lst (A.map D.int)):=zaK ((zbF _ _ _).trans rfl)
  have kA':(S++[ca,cb,Cell.lst (A.map D.int)]++[ca',cb',Cell.lst (A'.map D.int)])[(S++[ca,cb,Cell.lst (A.map D.int)]).length+2]?=some (.lst (A'.map D.int)):=(zbF _ _ _).trans rfl
  have eS:S++[ca,cb,Cell.lst (A.map D.int)]++[ca',cb',Cell.lst (A'.map D.int)]=S++[ca,cb,Cell.lst (A.map D.int),ca',cb',Cell.lst (A'.map D.int)]:=by simp
  generalize (S++[ca,cb,Cell.lst (A.map D.int)]).length+2=na at *
  generalize S++[ca,cb,Cell.lst (A.map D.int)]++[ca',cb',Cell.lst (A'.map D.int)]=S1 at *
  walk_at "g"
  refine zzm (xs:=A.map D.int) (ys:=A'.map D.int) (Lst.here kA) (Lst.here kA') ?_
  refine zau (fun i Z S'=>S'=S1/\∃ (lo hi:Int) (w1 w2 w3:Option D),Z=[some (fgD F),some (.tup [.int px,.int pz]),some (.tup [.int qx,.int qz]),some (.int lo),some (.int hi),some (.ref (S.length+2)),some (.ref na),w1,w2,w3] /\
    ∀ k,(lo<=k/\k<=hi)↔(0<=k/\k<=F.l-F.f/\∀ j,j<i->0<=A.getD j 0+k*(A'.getD j 0-A.getD j 0))) ⟨rfl,0,F.l-F.f,none,none,none,rfl,fun k=>⟨fun h=>⟨h.1,h.2,fun j hj=>absurd hj (by lia)⟩,fun h=>⟨h.1,h.2.1⟩⟩⟩ (fun i Z S' z=>z.1▸⟨Lst.here kA,Lst.here kA'⟩) ?_ ?_
  . rintro i d Z S' hd ⟨rfl,lo,hi,w1,w2,w3,rfl,hk⟩
    obtain⟨x,y,hx,hy,rfl⟩:=zgQ hd
    obtain⟨sv,hs,rfl⟩:=zem hx
    obtain⟨av,ha,rfl⟩:=zem hy
    have es:A.getD i 0=sv:=by rw [qC,hs];rfl
    have ea:A'.getD i 0=av:=by rw [qC,ha];rfl
    have bsv:=sb sv (qe hs)
    have bav:=ab av (qe ha)
    have bst:Bd 1600 (av-sv):=(Bd.sub bav bsv).mono (by decide)
    have bst':Bd 1600 (-(av-sv)):=bst.neg
    have next:∀ {P:Int->Prop},(∀ k,P k↔0<=sv+k*(av-sv))->∀ k,((0<=k/\k<=F.l-F.f/\∀ j,j<i->0<=A.getD j 0+k*(A'.getD j 0-A.getD j 0))/\P k)↔(0<=k/\k<=F.l-F.f/\∀ j,j<i+1->0<=A.getD j 0+k*(A'.getD j 0-A.getD j 0)):=fun {P} hP k=>by
      constructor
      . rintro⟨⟨c1,c2,c3⟩,c4⟩
        refine⟨c1,c2,fun j hj=>?_⟩
        rcases qM j i with h | h
        . exact c3 j h
        . have:j=i:=by lia
          subst this
          rw [es,ea]
          exact (hP k).mp c4
      . rintro⟨c1,c2,c3⟩
        refine⟨⟨c1,c2,fun j hj=>c3 j (by lia)⟩,(hP k).mpr ?_⟩
        have:=c3 i (by lia)
        rw [es,ea] at this
        exact this
    walk_at "g"
    refine r_d (fun g1=>?_) (fun g1=>?_)
    . walk_at "g"
      refine⟨rfl,_,_,_,_,_,rfl,fun k=>?_⟩
      rw [<- next (fun k=>ztD (S:=sv) (T:=av-sv) (k:=k) (by lia)) k,<- hk k]
      lia
    . walk_at "g"
      refine r_d (fun g2=>?_) (fun g2=>?_)
      . walk_at "g"
        refine⟨rfl,_,_,_,_,_,rfl,fun k=>?_⟩
        rw [<- next (fun k=>zp0 (S:=sv) (T:=av-sv) (k:=k) (by lia)) k,<- hk k]
        lia
      . have e0:av-sv=0:=by lia
        have flat:∀ k,(0<=sv)↔0<=sv+k*(av-sv):=fun k=>by rw [e0,Int.mul_zero,Int.add_zero]
        walk_at "g"
        refine r_d (fun g3=>?_) (fun g3=>?_)
        . walk_at "g"
          rw [eS]
          refine zaA (ziv []) (q [] ⟨zao.nil,by decide,fun h=>⟨fun z=>absurd z (by simp),fun z=>?_⟩⟩)
          have:=(mm (h-F.f)).mpr ((znL (by have:=B.x;lia) (by have:=B.z;lia)).mpr z.2.2) i (by have:=zab hs;lia)
          rw [es,ea,<- flat] at this
          lia
        . walk_at "g"
          refine⟨rfl,_,_,_,_,_,rfl,fun k=>?_⟩
          rw [<- next flat k,<- hk k]
          constructor
          . intro h;exact⟨h,by lia⟩
          . intro h;exact h.1
  . rintro Z S' ⟨rfl,lo,hi,w1,w2,w3,rfl,hk⟩
    rw [zed,qb,qb,l1,l2] at hk
    walk_at "g"
    refine⟨_,[(F.f+lo,F.f+hi)],rfl,.inr (by walk_at "dlat"),Nat.le_of_ble_eq_true rfl,?_,fun ms ok hany hml=>?_⟩
    . exact Nat.lt_of_le_of_lt (List.length_filter_le _ _) (Nat.le_of_ble_eq_true rfl)
    . rw [eS,qG]
      exact zaA (ziv ms) (q ms (zrG B ok (Nat.le_trans hml (List.length_filter_le _ _)) hany fun k=>by rw [hk k];exact and_congr_right fun _=>and_congr_right fun _=>mm k))
def zc0:DSp:=fun ds S Q=>∃ (x:D) (fs:List Fg) (px pz qx qz:Int),ds=[x,.tup [.int px,.int pz],.tup [.int qx,.int qz]]/\Lst S x (fs.map fgD)/\fs.length<64/\(∀ F∈fs,FgB F)/\Bd 600 px/\Bd 600 pz/\Bd 600 qx/\Bd 600 qz /\
 ∀ ms:List (Int×Int),zao ms->(∀ h,ms.any (inS h)=true↔∃ F∈fs,ze8 F px pz qx qz h)->ms.length<=fs.length->Q (.tup (ms.map p2)) S
def zez:DS :=
    (zG (zO (zcj zA) (zB 3))
 (zG (za3 (zaN (zf 0)) (zB 4) (zaq (dM zjk (zf 3) (zm (dCall zfc (zm (zf 4) (zm (zf 1) (zm (zf 2) zA)))) zA))))
 (z9 (dCall zdM (zm (zf 3) zA)))))
theorem zlt:∀ ds So Q,zc0 ds So Q->ds.length=3:=by rintro ds So Q ⟨_,_,_,_,_,_,rfl,_⟩;rfl
theorem zl2:BodyOk 5 zez zc0:=by
 rintro ds S Q ⟨x,fs,px,pz,qx,qz,rfl,hx,hl,hB,bpx,bpz,bqx,bqz,q⟩
 unfold zez
 walk_at "g"
 refine zau (fun i Z S'=>∃ (cs:List (Int×Int)) (w:Option D),Z=[some x,some (.tup [.int px,.int pz]),some (.tup [.int qx,.int qz]),some (.ref S.length),w]/\S'=S++[.lst (cs.map p2)]/\cs.length<=i/\∀ h,cs.any (inS h)=true↔∃ F∈fs.take i,ze8 F px pz qx qz h)
  ⟨[],none,rfl,rfl,qf _,fun h=>by simp⟩ (fun i Z S' zq7=>by obtain⟨cs,w,_,e,_⟩:=zq7;exact e▸hx.old) ?_ ?_
 ·rintro i d Z S' hd ⟨cs,w,rfl,rfl,hc,hh⟩
  obtain⟨F,hF,rfl⟩:=zpO hd
  have hi:=zab hF
  walk_at "g"
  refine⟨F,px,pz,qx,qz,rfl,hB F (qe hF),bpx,bpz,bqx,bqz,fun ms hm=>?_⟩
  obtain⟨ok,hone,hat⟩:=hm
  walk_at "g"
  refine zpU (n:=S.length) zaF (by rw [qb,qb];unfold big;lia) ?_
  walk_at "g"
  refine⟨cs++ms,_,rfl,by rw [qv],by rw [qg];lia,fun h=>?_⟩
  rw [List.any_append,Bool.or_eq_true,hh,hat,zaC hF]
  constructor
  ·rintro (⟨G,hG,g⟩ | g)
   ·exact⟨G,List.mem_append_left _ hG,g⟩
   ·exact⟨F,by simp,g⟩
  ·rintro⟨G,hG,g⟩
   rcases qF.mp hG with hG | hG
   ·exact .inl ⟨G,hG,g⟩
   ·have:G=F:=by simpa using hG
    subst this
    exact .inr g
 ·rintro Z S' ⟨cs,w,rfl,rfl,hc,hh⟩
  rw [qb] at hc hh
  rw [List.take_length] at hh
  have hf:=List.length_filter_le lec cs
  walk_at "g"
  refine⟨_,cs,rfl,.inr Lst.at0,by lia,by lia,fun ms ok hany hml=>?_⟩
  exact zaA (ziv ms) (q ms ok (fun h=>by rw [hany h];exact hh h) (by lia))
def zgb:DSp:=fun ds S Q=>∃ (cs:List (Int×Int)) (lo hi:Int),ds=[.tup (cs.map p2),.int lo,.int hi]/\zao cs/\cs.length<63 /\
 ∀ ms:List (Int×Int),zao ms->(∀ h,lo<=h->h<=hi->ms.any (inS h)=!(cs.any (inS h)))->ms.length<=cs.length+1->Q (.tup (ms.map p2)) S
def zke:DS :=
    (zG (zO (zcj zA) (zB 3))
 (zG (zO (zf 1) (zB 4))
 (zG (za3 (zaN (zf 0)) (zB 5) (zG (zaq (dM zcM (zf 3) (zm (dTup (zm (zf 4) (zm (dOp zap (dOp oIx (zf 5) (dC (.int 0))) (dC (.int 1))) zA))) zA)))
 (zO (dOp zal (dOp oIx (zf 5) (dC (.int 1))) (dC (.int 1))) (zB 4))))
 (zG (zaq (dM zcM (zf 3) (zm (dTup (zm (zf 4) (zm (zf 2) zA))) zA)))
 (z9 (dCall zdM (zm (zf 3) zA)))))))
theorem zsa:∀ ds So Q,zgb ds So Q->ds.length=3:=by rintro ds So Q ⟨_,_,_,rfl,_⟩;rfl
theorem ztJ:BodyOk 6 zke zgb:=by
  rintro ds S Q ⟨cs,lo,hi,rfl,ok,h31,q⟩
  unfold zke
  walk_at "g"
  refine zau (fun i Z S'=>∃ (w:Option D),Z=[some (.tup (cs.map p2)),some (.int lo),some (.int hi),some (.ref S.length),some (.int (zaB lo (cs.take i)).2),w]/\S'=S++[.lst ((zaB lo (cs.take i)).1.map p2)]) ⟨none,rfl,rfl⟩ (fun _ _ _ _=>True.intro) ?_ ?_
  . rintro i d Z S' hd ⟨w,rfl,rfl⟩
    obtain⟨c,hc,rfl⟩:=zeI hd
    have hi':=zab hc
    have hlim:(List.map p2 (zaB lo (cs.take i)).1).length<big:=by
      rw [qb,zeJ,List.length_take];unfold big;lia
    walk_at "g"
    refine⟨some (p2 c),?_,?_⟩
    . rw [zaC hc,zgt];rfl
    . rw [zaC hc,zgt,qv];rfl
  . rintro Z S' ⟨w,rfl,rfl⟩
    rw [qb,List.take_length]
    have hlim:(List.map p2 (zaB lo cs).1).length<big:=by
      rw [qb,zeJ];unfold big;lia
    have hf:=List.length_filter_le lec ((zaB lo cs).1++[((zaB lo cs).2,hi)])
    rw [qg,zeJ] at hf
    have hf:((((zaB lo cs).1++[((zaB lo cs).2,hi)])).filter lec).length<=cs.length+1:=hf
    walk_at "g"
    refine⟨_,(zaB lo cs).1++[((zaB lo cs).2,hi)],rfl,.inr (by rw [qv];exact Lst.at0),by rw [qg,zeJ];show cs.length+1<=4000;lia,by lia,fun ms okm hany hml=>?_⟩
    refine zaA (ziv ms) (q ms okm (fun h h0 h1=>?_) (by lia))
    rw [hany h,Bool.eq_iff_iff,zmN h1 lo ok h0 (fun _ _ _=>trivial),<- zaH]
    cases cs.any (inS h)<;>simp
def zgp:DSp:=fun ds S Q=>∃ (as bs:List (Int×Int)),ds=[.tup (as.map p2),.tup (bs.map p2)]/\zao as/\zao bs/\as.length+bs.length<64 /\
 ∀ ms:List (Int×Int),zao ms->(∀ h,ms.any (inS h)=(as.any (inS h)&&bs.any (inS h)))->ms.length<=as.length+bs.length->Q (.tup (ms.map p2)) S
def zjI:DS :=
    (zG (zO (zcj zA) (zB 2))
 (zG (za3 (zaN (zf 0)) (zbZ 2 (zah (zB 3) (zah (zB 4) zb3))) (za3 (zaN (zf 1)) (zbZ 2 (zah (zB 5) (zah (zB 6) zb3))) (zaq (dM zcM (zf 2) (zm (dTup (zm (dB zdd (zm (zf 3) (zm (zf 5) zA))) (zm (dB zeD (zm (zf 4) (zm (zf 6) zA))) zA))) zA)))))
 (z9 (dCall zdM (zm (zf 2) zA)))))
theorem zsP:∀ ds So Q,zgp ds So Q->ds.length=2:=by rintro ds So Q ⟨_,_,rfl,_⟩;rfl
theorem ztM:BodyOk 7 zjI zgp:=by
 rintro ds S Q ⟨as,bs,rfl,oka,okb,hlen,q⟩
 unfold zjI
 have hmul:as.length*bs.length<=3969:=Nat.le_trans (Nat.mul_le_mul (show as.length<=63 by lia) (show bs.length<=63 by lia)) (by decide)
 walk_at "g"
 refine zau (fun i Z S'=>∃ (w1 w2 w3 w4:Option D),Z=[some (.tup (as.map p2)),some (.tup (bs.map p2)),some (.ref S.length),w1,w2,w3,w4]/\S'=S++[.lst ((zaV (as.take i) bs).map p2)]) ⟨none,none,none,none,rfl,rfl⟩ (fun _ _ _ _=>True.intro) ?_ ?_
 ·rintro i d Z S' hd ⟨w1,w2,w3,w4,rfl,rfl⟩
  obtain⟨a,ha,rfl⟩:=zeI hd
  have hi:=zab ha
  walk_at "g"
  refine zau (fun j Z S'=>∃ (w3 w4:Option D),Z=[some (.tup (as.map p2)),some (.tup (bs.map p2)),some (.ref S.length),some (.int a.1),some (.int a.2),w3,w4]/\S'=S++[.lst ((zaV (as.take i) bs++(bs.take j).map (zbb a)).map p2)]) ⟨w3,w4,rfl,by simp⟩ (fun _ _ _ _=>True.intro) ?_ ?_
  ·rintro j d Z S' hd ⟨w3,w4,rfl,rfl⟩
   obtain⟨b,hb,rfl⟩:=zeI hd
   have hj:=zab hb
   have hlim:(List.map p2 (zaV (as.take i) bs++(bs.take j).map (zbb a))).length<big:=by
    rw [qb,qg,zjz,qb,List.length_take,List.length_take]
    have:min i as.length*bs.length<=as.length*bs.length:=Nat.mul_le_mul (Nat.min_le_right _ _) (qf _)
    unfold big;lia
   walk_at "g"
   refine⟨_,_,rfl,?_⟩
   have e:zaV (as.take i) bs++(bs.take (j+1)).map (zbb a)=zaV (as.take i) bs++(bs.take j).map (zbb a)++[zbb a b]:=by
    rw [zaC hb,qv,<- qG];rfl
   rw [e,qv (l₂:=[zbb a b])]
   rfl
  ·rintro Z S' ⟨w3,w4,rfl,rfl⟩
   refine⟨_,_,_,_,rfl,?_⟩
   rw [qb,List.take_length,znq ha]
 ·rintro Z S' ⟨w1,w2,w3,w4,rfl,rfl⟩
  rw [qb,List.take_length]
  have hf:((zaV as bs).filter lec).length<=as.length+bs.length:=zm2 oka okb
  walk_at "g"
  refine⟨_,zaV as bs,rfl,.inr Lst.at0,by rw [zjz];lia,by lia,fun ms ok hany hml=>?_⟩
  exact zaA (ziv ms) (q ms ok (fun h=>by rw [hany h,zow]) (by lia))
def zdV:DSp:=fun ds S Q=>∃ (as bs:List (Int×Int)),ds=[.tup (as.map p2),.tup (bs.map p2)]/\zao as/\zao bs/\as.length+bs.length<63 /\
 ∀ ms:List (Int×Int),zao ms->(∀ h,ms.any (inS h)=(as.any (inS h)&&!(bs.any (inS h))))->ms.length<=as.length+bs.length+1->Q (.tup (ms.map p2)) S
def zfB:DS :=
    (zG (sIf (dT (dOp oEq (dB zbn (zm (zf 0) zA)) (dC (.int 0)))) (z9 (dTup zA)) zag)
 (z9 (dCall zgp (zm (zf 0) (zm (dCall zgb (zm (zf 1) (zm (dOp oIx (dOp oIx (zf 0) (dC (.int 0))) (dC (.int 0))) (zm (dOp oIx (dOp oIx (zf 0) (dUn zb2 (dC (.int 1)))) (dC (.int 1))) zA)))) zA)))))
theorem znt:∀ ds So Q,zdV ds So Q->ds.length=2:=by rintro ds So Q ⟨_,_,rfl,_⟩;rfl
theorem zox:BodyOk 2 zfB zdV:=by
 rintro ds S Q ⟨as,bs,rfl,oka,okb,hlen,q⟩
 unfold zfB
 walk_at "g"
 rw [qb]
 refine r_d (fun g=>?_) (fun g=>?_)
 ·have ea:as=[]:=List.length_eq_zero_iff.mp (by lia)
  subst ea
  walk_at "g"
  exact fin_same (q [] zao.nil (fun h=>rfl) (by simp))
 ·obtain⟨c,as',rfl⟩:∃ c as',as=c::as':=by
   cases as with
   | nil=>exact absurd (by simp) g
   | cons c as'=>exact⟨c,as',rfl⟩
  obtain⟨ms0,m,em⟩:=zth (l:=c::as') (by simp)
  have a0:atD (List.map p2 (c::as')) 0=some (p2 c):=zfa (i:=0) rfl
  have am:atD (List.map p2 (c::as')) (-1)=some (p2 m):=by rw [em,qv];exact zjp
  walk_at "g"
  refine⟨bs,c.1,m.2,rfl,okb,by lia,fun gs okg hg hgl=>?_⟩
  walk_at "g"
  refine⟨c::as',gs,rfl,oka,okg,by lia,fun ms ok hany hml=>?_⟩
  refine fin_same (q ms ok (fun h=>?_) (by lia))
  rw [hany h]
  cases hA:(c::as').any (inS h) with
  | false=>rfl
  | true =>
   obtain⟨x,hx,x1,x2⟩:=zaH.mp hA
   have lo:c.1<=h:=by
    rcases qh.mp hx with rfl | hx
    ·exact x1
    ·have:=(List.pairwise_cons.mp oka.ap).1 x hx
     have:=oka.le c (by simp)
     lia
   have hi:h<=m.2:=by
    rw [em] at hx oka
    obtain⟨_,hm,hap⟩:=oka.init
    rcases qF.mp hx with hx | hx
    ·have:=hap x hx
     lia
    ·have:x=m:=by simpa using hx
     subst this
     exact x2
   rw [hg h lo hi]
def zeg:zfd:=fun ds S Q ex=>∃ (v:D) (V:Vl) (n m:Str),ds=[v,.str n,.str m]/\VAt S v V/\zcN V/\fl 20 (.str n)=true/\fl 20 (.str m)=true/\((∀ b∈V.bs,b.1≠n)\/(∀ b∈V.bs,b.1≠m)->ex "NoBeacon" S)/\∀ s t,(n,s)∈V.bs->(m,t)∈V.bs->∀ ms,zjC V n m s t ms->Q (.tup (ms.map p2)) S
def ziE (ex : XR) : DS :=
    (zG (zO (zdp zdh ex (zm (zf 0) (zm (zf 1) zA))) (zB 3))
 (zG (zO (zdp zdh ex (zm (zf 0) (zm (zf 2) zA))) (zB 4))
 (zG (zO (dTup (zm (dTup (zm (zbK "first" (zf 0)) (zm (zbK "last" (zf 0)) zA))) zA)) (zB 5))
 (zG (sIf (dT (dOp oEq (zf 1) (zf 2))) (z9 (zf 5)) zag)
 (zG (sIf (dT (dOp zhO (dCall zbI (zm (zf 0) (zm (zf 3) (zm (zf 4) zA)))) (dC .non))) (z9 (dTup zA)) zag)
 (z9 (dCall zdV (zm (zf 5) (zm (dCall zc0 (zm (zbK "fogs" (zf 0)) (zm (zf 3) (zm (zf 4) zA)))) zA)))))))))
theorem zpX:∀ ds So Q ex,zeg ds So Q ex->ds.length=3:=by rintro ds So Q ex ⟨_,_,_,_,rfl,_⟩;rfl
theorem zsD:ze6 6 ziE zeg:=by
  rintro ds S Q ex ⟨v,V,n,m,rfl,hv,ok,hn,hm,hx,q⟩
  unfold ziE
  walk_at "g"
  refine⟨v,V,n,rfl,hv,ok,hn,fun no=>hx (.inl no),fun s hs=>?_⟩
  walk_at "g"
  refine⟨v,V,m,rfl,hv,ok,hm,fun no=>hx (.inr no),fun t ht=>?_⟩
  have q':=q s t hs ht
  clear hx q
  have bs:=ok.bd _ hs
  have bt:=ok.bd _ ht
  have ss:=ok.st _ hs
  have st:=ok.st _ ht
  obtain⟨a,g,b',f,rfl,ha,hg,hb,hf⟩:=id hv
  walk_at "g"
  refine zpL hn hm ?_
  walk_at "g"
  have one:zao [(V.h0,V.h1)]:=by
    refine⟨fun c hc=>?_,List.pairwise_singleton _ _⟩
    have:c=(V.h0,V.h1):=by simpa using hc
    subst this;exact ok.hh
  refine r_d (fun h=>?_) (fun h=>?_)
  . walk_at "g"
    refine fin_same (q' [(V.h0,V.h1)] ⟨one,fun k=>?_,by show 1<=14;decide⟩)
    rw [zaH]
    constructor
    . rintro⟨c,hc,h1,h2⟩
      have:c=(V.h0,V.h1):=by simpa using hc
      subst this
      exact⟨h1,h2,.inl h⟩
    . rintro⟨h1,h2,_⟩
      exact⟨(V.h0,V.h1),by simp,h1,h2⟩
  walk_at "g"
  refine⟨_,V,s,t,rfl,hv,ok,⟨bs,ss⟩,⟨bt,st⟩,?_⟩
  by_cases al:Alw V s t
  case neg =>
    have e:zlI (ziw V s t)=false:=by
      cases h:ziw V s t with
      | non=>exact absurd (zlf.mp h) al
      | _=>rfl
    refine r_c (zs8 ?_)
    rw [e]
    walk_at "g"
    refine fin_same (q' [] ⟨zao.nil,fun k=>?_,by show 0<=14;decide⟩)
    constructor
    . intro z;simp at z
    . rintro⟨_,_,z | z⟩
      . exact absurd z h
      . exact absurd z.1 al
  rw [zlf.mpr al]
  walk_at "g"
  have f12:=ok.f12
  refine⟨_,V.fs,s.1,s.2,t.1,t.2,rfl,Lst.here hf,by lia,fun F hF=>(ok.fg F hF).b,bs.1.mono (by decide),bs.2.mono (by decide),bt.1.mono (by decide),bt.2.mono (by decide),fun fs fok fh fl=>?_⟩
  walk_at "g"
  refine⟨[(V.h0,V.h1)],fs,rfl,one,fok,by show 1+fs.length<63;lia,fun ms mok mh ml=>?_⟩
  refine fin_same (q' ms ⟨mok,fun k=>?_,by have:ms.length<=1+fs.length+1:=ml;lia⟩)
  rw [mh k,qH,zaH]
  have e:(!fs.any (inS k))=true↔¬ ∃ F∈V.fs,ze8 F s.1 s.2 t.1 t.2 k:=by
    rw [<- fh k]
    cases fs.any (inS k)<;>simp
  rw [e]
  constructor
  . rintro⟨⟨c,hc,h1,h2⟩,h3⟩
    have:c=(V.h0,V.h1):=by simpa using hc
    subst this
    exact⟨h1,h2,.inr ⟨al,h3⟩⟩
  . rintro⟨h1,h2,z | z⟩
    . exact absurd z h
    . exact⟨⟨(V.h0,V.h1),by simp,h1,h2⟩,z.2⟩
def zbV:DSp:=fun ds S Q=>∃ (p:Pc) (h:Int),ds=[Pd p,.int h]/\(p.st=0\/p.st=1)/\Q (.int (p.led h)) S
def zlH:DS :=
  (z9 (dOp zal (dOp oIx (zf 0) (dC (.int 2))) (dOp zbo (dOp oIx (zf 0) (dC (.int 3))) (dOp zap (zf 1) (dOp oIx (zf 0) (dC (.int 0)))))))
theorem zup:∀ ds So Q,zbV ds So Q->ds.length=2:=by rintro ds So Q ⟨_,_,rfl,_⟩;rfl
theorem zwP:BodyOk 2 zlH zbV:=by
  rintro ds S Q ⟨p,h,rfl,hs,q⟩
  unfold zlH
  have c:zaL p.st (h-p.lo):=.inr (.inl (by rcases hs with e | e<;>rw [e]<;>decide))
  walk_at "g"
  exact fin_same q
def zbT:DSp:=fun ds S Q=>∃ (p:Pc) (t:Int),ds=[Pd p,.int t]/\(p.st=0\/p.st=1)/\Q (.bl (decide (draw p t))) S
def zc9:DS :=
    (zG (sIf (dT (dOp oEq (dOp oIx (zf 0) (dC (.int 0))) (dOp oIx (zf 0) (dC (.int 1))))) (z9 (zr3 (dOp oEq (zf 1) (dOp oIx (zf 0) (dC (.int 2)))) (dOp oEq (zf 1) (dOp zal (dOp oIx (zf 0) (dC (.int 2))) (dC (.int 1)))))) zag)
 (z9 (dOp oEq (zf 1) (dCall zbV (zm (zf 0) (zm (dOp zal (dOp oIx (zf 0) (dC (.int 1))) (dC (.int 1))) zA))))))
theorem zjw:∀ ds So Q,zbT ds So Q->ds.length=2:=by rintro ds So Q ⟨_,_,rfl,_⟩;rfl
theorem zjY:BodyOk 2 zc9 zbT:=by
 rintro ds S Q ⟨p,t,rfl,hs,q⟩
 unfold zc9
 unfold Rm.draw at q
 walk_at "g"
 refine r_d (fun g=>?_) (fun g=>?_)
 ·simp only [if_pos g] at q
  walk_at "g"
  refine r_d (fun g1=>?_) (fun g1=>?_)
  ·walk_at "g"
   exact fin_same (by rw [decide_eq_true (.inl g1)] at q;exact q)
  ·walk_at "g"
   exact fin_same (by simpa [g1] using q)
 ·simp only [if_neg g] at q
  walk_at "g"
  refine⟨p,_,rfl,hs,?_⟩
  walk_at "g"
  exact fin_same q
def zdL:DSp:=fun ds S Q=>∃ (p:Pc),ds=[Pd p]/\(p.st=0\/p.st=1)/\Q (.int p.fin) S
def zhb:DS :=
  (z9 (dCall zbV (zm (zf 0) (zm (dOp oIx (zf 0) (dC (.int 1))) zA))))
theorem zoX:∀ ds So Q,zdL ds So Q->ds.length=1:=by rintro ds So Q ⟨_,rfl,_⟩;rfl
theorem zqy:BodyOk 1 zhb zdL:=by
 rintro ds S Q ⟨p,rfl,hs,q⟩
 unfold zhb
 walk_at "g"
 exact⟨p,_,rfl,hs,fin_same q⟩
def zdZ:DSp:=fun ds S Q=>∃ (n:Nat) (lo hi to st:Int) (ps:List Pc),ds=[.ref n,.int lo,.int hi,.int to,.int st]/\S[n]?=some (.lst (ps.map Pd))/\IsR ps/\(st=0\/st=1)/\ps.length<=10000 /\
 (lo<=hi->∀ p,ps.getLast?=some p->p.hi+1=lo/\p.fin<=to)/\∀ qs,zgP ps lo hi to st qs->Q .non (S.set n (.lst (qs.map Pd)))
def zlR:DS :=
    (zG (zO (zf 1) (zB 5))
 (zG (sJ (sIf (zej (dT (dOp oLe (zf 1) (zf 2))) (zej (dT (dOp oGt (dB zbn (zm (zf 0) zA)) (dC (.int 0)))) (dT (dCall zbT (zm (dOp oIx (zf 0) (dUn zb2 (dC (.int 1)))) (zm (zf 3) zA)))))) (zG (zO (dOp oIx (zf 0) (dUn zb2 (dC (.int 1)))) (zB 6))
 (zG (zO (dOp zap (zf 3) (dCall zdL (zm (zf 6) zA))) (zB 7))
 (zG (sJ (zO (zkv (dT (dOp oEq (zf 4) (zf 7))) (zf 2) (zf 1)) (zB 8)))
 (zG (zO (dTup (zm (dOp oIx (zf 6) (dC (.int 0))) (zm (zf 8) (zm (dOp oIx (zf 6) (dC (.int 2))) (zm (zf 7) zA))))) (zi3 (zf 0) (dUn zb2 (dC (.int 1)))))
 (zO (dOp zal (zf 8) (dC (.int 1))) (zB 5)))))) zag))
 (sIf (dT (dOp oLe (zf 5) (zf 2))) (zaq (dM zcM (zf 0) (zm (dTup (zm (zf 5) (zm (zf 2) (zm (dOp zal (zf 3) (dOp zbo (zf 4) (dOp zap (zf 5) (zf 1)))) (zm (zkv (dT (dOp oLt (zf 5) (zf 2))) (zf 4) (dC (.int 0))) zA))))) zA))) zag)))
theorem zuv:∀ ds So Q,zdZ ds So Q->ds.length=5:=by rintro ds So Q ⟨_,_,_,_,_,_,rfl,_⟩;rfl
theorem zwQ:BodyOk 9 zlR zdZ:=by
  rintro ds S Q ⟨n,lo,hi,to,st,ps,rfl,hn,hr,hst,hlen,hp,q⟩
  replace q:=q _ (zvg hr hst hp)
  unfold zd9 at q
  have hb:ps.length<big:=by unfold big;lia
  have hnl:n<S.length:=by
    rcases qM n S.length with g | g
    . exact g
    . rw [qu g] at hn;cases hn
  have hmul:∀ x,zaL st x:=fun x=>.inr (.inl (by rcases hst with e | e<;>rw [e]<;>decide))
  unfold zlR
  walk_at "g"
  refine zsM ?_
  walk_at "g"
  refine r_d (fun g=>?_) (fun g=>?_)
  . walk_at "g"
    rw [qb]
    refine r_d (fun g1=>?_) (fun g1=>?_)
    . cases hl:ps.getLast? with
      | none=>rw [List.getLast?_eq_none_iff] at hl;subst hl;simp at g1
      | some p =>
        obtain⟨h1,h2⟩:=hp g p hl
        have gp:=hr.good p (List.mem_of_getLast? hl)
        have al:=zt4 hl
        have il:=zts hl
        rw [hl] at q
        simp only [] at q
        walk_at "g"
        refine⟨p,to,rfl,gp.st,?_⟩
        walk_at "g"
        refine r_d (fun g2=>?_) (fun g2=>?_)
        . rw [if_pos ⟨g,g2⟩] at q
          walk_at "g"
          refine⟨p,rfl,gp.st,?_⟩
          walk_at "g"
          refine zsM ?_
          walk_at "g"
          refine r_d (fun g3=>?_) (fun g3=>?_)
          . rw [if_pos g3,if_neg (by lia)] at q
            walk_at "g"
            refine zlN hn il ?_
            rw [zmj (q:=⟨p.lo,hi,p.to,to-p.fin⟩) hl]
            walk_at "g"
            walk_at "g"
            refine r_d (fun g4=>absurd g4 (by lia)) (fun g4=>?_)
            walk_at "g"
            exact fin_same q
          . rw [if_neg g3] at q
            walk_at "g"
            refine zlN hn il ?_
            rw [zmj (q:=⟨p.lo,lo,p.to,to-p.fin⟩) hl]
            walk_at "g"
            have hbl:((ps.dropLast++[(⟨p.lo,lo,p.to,to-p.fin⟩:Pc)]).map Pd).length<big:=by rw [qb,qg,List.length_dropLast];unfold big;simp;lia
            have hn2:(S.set n (.lst ((ps.dropLast++[(⟨p.lo,lo,p.to,to-p.fin⟩:Pc)]).map Pd)))[n]?=some (.lst ((ps.dropLast++[(⟨p.lo,lo,p.to,to-p.fin⟩:Pc)]).map Pd)):=qL hnl
            walk_at "g"
            refine r_d (fun g4=>?_) (fun g4=>?_)
            . rw [if_pos g4] at q
              have hc:=hmul (lo+1-lo)
              walk_at "g"
              refine r_d (fun g5=>?_) (fun g5=>?_)
              . rw [if_pos g5] at q
                walk_at "g"
                rw [List.set_set]
                refine fin_same ?_
                rw [qv] at q;exact q
              . rw [if_neg g5] at q
                walk_at "g"
                rw [List.set_set]
                refine fin_same ?_
                rw [qv] at q;exact q
            . rw [if_neg g4] at q
              walk_at "g"
              exact fin_same q
        . rw [if_neg (fun z=>g2 z.2),if_pos g] at q
          have hc:=hmul (lo-lo)
          walk_at "g"
          refine r_d (fun g4=>?_) (fun g4=>absurd g g4)
          walk_at "g"
          refine r_d (fun g5=>?_) (fun g5=>?_)
          . rw [if_pos g5] at q
            walk_at "g"
            refine fin_same ?_
            rw [qv] at q
            simpa using q
          . rw [if_neg g5] at q
            walk_at "g"
            refine fin_same ?_
            rw [qv] at q
            simpa using q
    . have:ps=[]:=List.length_eq_zero_iff.mp (by lia)
      subst this
      simp only [List.getLast?_nil] at q
      rw [if_pos g] at q
      have hc:=hmul (lo-lo)
      walk_at "g"
      refine r_d (fun g4=>?_) (fun g4=>absurd g g4)
      walk_at "g"
      refine r_d (fun g5=>?_) (fun g5=>?_)
      . rw [if_pos g5] at q
        walk_at "g"
        refine fin_same ?_
        simpa using q
      . rw [if_neg g5] at q
        walk_at "g"
        refine fin_same ?_
        simpa using q
  . walk_at "g"
    refine r_d (fun g4=>absurd g4 g) (fun g4=>?_)
    walk_at "g"
    refine fin_same ?_
    have e:S.set n (.lst (ps.map Pd))=S:=List.ext_getElem? fun i=>by
      by_cases hi:i=n
      . subst hi;rw [qL hnl,hn]
      . rw [List.getElem?_set_ne (Ne.symm hi)]
    cases hl:ps.getLast? with
    | none =>
      rw [hl] at q
      simp only [] at q
      rw [if_neg g] at q
      rw [List.getLast?_eq_none_iff] at hl
      subst hl
      rw [e] at q;exact q
    | some p =>
      rw [hl] at q
      simp only [] at q
      rw [if_neg (fun z=>g z.1),if_neg g,e] at q
      exact q
structure zoG (cs:List (Int×Int))(delay first:Int)(ps:List Pc):Prop where
  isR:IsR ps
  len:ps.length<=2*cs.length
  led:∀ h,at' ps h=if first<=h then (zaZ cs h).map (· + delay) else none
def zb4:DSp:=fun ds S Q=>∃ (cs:List (Int×Int)) (delay first:Int),ds=[.tup (cs.map p2),.int delay,.int first]/\zgk cs/\cs.length<=2000/\∀ ps,zoG cs delay first ps->Q (.tup (ps.map Pd)) S
structure zrE (cs:List (Int×Int))(delay first:Int)(ps:List Pc)(hour:Int):Prop where
  isR:IsR ps
  ge:first<=hour
  beh:∀ c∈cs,c.2<hour
  led:∀ h,at' ps h=if first<=h/\h<hour then (zaZ cs h).map (· + delay) else none
  full:∀ h,first<=h->h<hour->∃ v,zaZ cs h=some v
  none:ps=[]->hour=first
  last:∀ p,ps.getLast?=some p->p.hi+1=hour/\∃ d∈cs,p.fin<=d.2+delay
theorem zrP {cs:List (Int×Int)}{c:Int×Int}{delay first hour:Int}{ps qs rs:List Pc}(I:zrE cs delay first ps hour)(hc:c.1<=c.2)(hd':∀ d∈cs,d.2+2<=c.1)
  (h1:zgP ps hour (c.1-1) (c.1+delay) 0 qs) (h2:zgP qs (max hour c.1) c.2 (max hour c.1+delay) 1 rs):zrE (cs++[c]) delay first rs (max hour (c.2+1)):=by
 have e1:zaZ [c]=fun h=>if h<=c.2 then some (max h c.1) else none:=by funext h;rfl
 have nx:∀ h,hour<=h->zaZ (cs++[c]) h=if h<=c.2 then some (max h c.1) else none:=fun h hh=>by
  rw [zeS,zfV fun d hd=>by have:=I.beh d hd;lia,e1];rfl
 have nl:∀ h,first<=h->h<hour->zaZ (cs++[c]) h=zaZ cs h:=fun h h1 h2=>by
  obtain⟨v,hv⟩:=I.full h h1 h2
  rw [zeS,hv];rfl
 have hge:=I.ge
 by_cases hh:hour<=c.2
 ·have em:max hour (c.2+1)=c.2+1:=by lia
  rw [em]
  refine⟨h2.isR,by lia,fun d hd=>?_,fun h=>?_,fun h a b=>?_,fun e=>?_,fun p hp=>?_⟩
  ·rcases qF.mp hd with hd | hd
   ·have:=hd' d hd;lia
   ·have:d=c:=by simpa using hd
    subst this;lia
  ·rw [h2.led,h1.led,I.led]
   by_cases a1:h<hour
   ·rw [if_neg (by lia),if_neg (by lia)]
    by_cases a2:first<=h
    ·rw [if_pos ⟨a2,a1⟩,if_pos ⟨a2,by lia⟩,nl h a2 a1]
    ·rw [if_neg (by lia),if_neg (by lia)]
   ·by_cases a2:h<=c.2
    ·rw [if_pos ⟨by lia,by lia⟩ (c:=first<=h/\h<c.2+1),nx h (by lia),if_pos a2]
     by_cases a3:h<=c.1-1
     ·rw [if_neg (by lia),if_pos ⟨by lia,a3⟩]
      rw [Option.map_some]
      congr 1
      show _=max h c.1+delay
      lia
     ·rw [if_pos ⟨by lia,a2⟩]
      rw [Option.map_some]
      congr 1
      show _=max h c.1+delay
      lia
    ·rw [if_neg (by lia),if_neg (by lia),if_neg (by lia),if_neg (by lia)]
  ·by_cases a1:h<hour
   ·rw [nl h a a1];exact I.full h a a1
   ·rw [nx h (by lia),if_pos (by lia)];exact⟨_,rfl⟩
  ·obtain⟨q,hq,_⟩:=h2.last (by lia)
   rw [e] at hq;simp at hq
  ·obtain⟨q,hq,e2,e3⟩:=h2.last (by lia)
   rw [hp] at hq
   cases hq
   exact⟨by lia,c,by simp,by rw [e3];lia⟩
 ·have em:max hour (c.2+1)=hour:=by lia
  have q1:=h1.none (by lia)
  have q2:=h2.none (by lia)
  subst q2
  subst q1
  rw [em]
  refine⟨I.isR,I.ge,fun d hd=>?_,fun h=>?_,fun h a b=>?_,I.none,fun p hp=>?_⟩
  ·rcases qF.mp hd with hd | hd
   ·exact I.beh d hd
   ·have:d=c:=by simpa using hd
    subst this;lia
  ·rw [I.led]
   by_cases a1:first<=h/\h<hour
   ·rw [if_pos a1,if_pos a1,nl h a1.1 a1.2]
   ·rw [if_neg a1,if_neg a1]
  ·rw [nl h a b];exact I.full h a b
  ·obtain⟨e,d,hd,f⟩:=I.last p hp
   exact⟨e,d,by simp [hd],f⟩
def ze4:DS :=
    (zG (zO (zcj zA) (zB 3))
 (zG (zO (zf 2) (zB 4))
 (zG (za3 (zaN (zf 0)) (zbZ 2 (zah (zB 5) (zah (zB 6) zb3))) (zG (zaq (dCall zdZ (zm (zf 3) (zm (zf 4) (zm (dOp zap (zf 5) (dC (.int 1))) (zm (dOp zal (zf 5) (zf 1)) (zm (dC (.int 0)) zA)))))))
 (zG (zO (dB zdd (zm (zf 4) (zm (zf 5) zA))) (zB 7))
 (zG (zaq (dCall zdZ (zm (zf 3) (zm (zf 7) (zm (zf 6) (zm (dOp zal (zf 7) (zf 1)) (zm (dC (.int 1)) zA)))))))
 (zO (dB zdd (zm (zf 4) (zm (dOp zal (zf 6) (dC (.int 1))) zA))) (zB 4))))))
 (z9 (dB zgd (zm (zf 3) zA))))))
theorem zmC:∀ ds So Q,zb4 ds So Q->ds.length=3:=by rintro ds So Q ⟨_,_,_,rfl,_⟩;rfl
theorem znG:BodyOk 8 ze4 zb4:=by
 rintro ds S Q ⟨cs,delay,first,rfl,ok,hl,q⟩
 unfold ze4
 walk_at "g"
 refine zau (fun i Z S'=>∃ ps hour w1 w2 w3,Z=[some (.tup (cs.map p2)),some (.int delay),some (.int first),some (.ref S.length),some (.int hour),w1,w2,w3]/\S'=S++[.lst (ps.map Pd)]/\ps.length<=2*i/\zrE (cs.take i) delay first ps hour)
  ⟨[],first,none,none,none,rfl,rfl,by simp,IsR.nil,qw _,by simp,fun h=>by rw [if_neg (by lia)];rfl,fun h a b=>by lia,fun _=>rfl,by simp⟩ (fun _ _ _ _=>True.intro) ?_ ?_
 ·rintro i d Z S' hd ⟨ps,hour,w1,w2,w3,rfl,rfl,hpl,I⟩
  obtain⟨c,hc,rfl⟩:=zeI hd
  obtain⟨c1,c2⟩:=ok.mem hc
  have hi:i<cs.length:=by
   rcases qM i cs.length with g | g
   ·exact g
   ·rw [qu g] at hc;cases hc
  walk_at "g"
  refine⟨_,_,_,_,_,ps,rfl,zaF,I.isR,.inl rfl,by lia,?_,fun qs hq=>?_⟩
  ·intro z p hp
   obtain⟨e,d,hd,f⟩:=I.last p hp
   have:=c2 d hd
   exact⟨e,by lia⟩
  rw [za8]
  walk_at "g"
  refine⟨_,_,_,_,_,qs,rfl,zaF,hq.isR,.inr rfl,by have:=hq.len;lia,?_,fun rs hr=>?_⟩
  ·intro z p hp
   by_cases a:hour<=c.1-1
   ·obtain⟨r,er,e1,e2⟩:=hq.last a
    rw [hp] at er
    cases er
    exact⟨by lia,by rw [e2];lia⟩
   ·rw [hq.none (by lia)] at hp
    obtain⟨e,d,hd,f⟩:=I.last p hp
    have:=c2 d hd
    exact⟨by lia,by lia⟩
  rw [za8]
  walk_at "g"
  refine⟨rs,_,_,_,_,rfl,rfl,by have:=hq.len;have:=hr.len;lia,?_⟩
  rw [zaC hc]
  exact zrP I c1 c2 hq hr
 ·rintro Z S' ⟨ps,hour,w1,w2,w3,rfl,rfl,hpl,I⟩
  rw [qb] at hpl I
  rw [List.take_length] at I
  walk_at "g"
  refine zaA (ziB ps) (q ps ⟨I.isR,hpl,fun h=>?_⟩)
  rw [I.led]
  by_cases a:first<=h
  ·rw [if_pos a]
   by_cases b:h<hour
   ·rw [if_pos ⟨a,b⟩]
   ·rw [if_neg (by lia),zfV fun d hd=>by have:=I.beh d hd;lia];rfl
  ·rw [if_neg (by lia),if_neg a]
def zfZ (V:Vl)(kvs:List (List (Sum Int Str)×D))(k j:Nat):Prop:=∀ b c,V.bs[k]?=some b->V.bs[j]?=some c->∃ ms ps,zjC V b.1 c.1 b.2 c.2 ms/\zoG ms V.dl V.h0 ps/\dval kvs [.inr b.1,.inr c.1]=some (.tup (ps.map Pd))
theorem zfZ.put {V:Vl}(ok:zcN V){kvs:List (List (Sum Int Str)×D)}{b c:Str×(Int×Int)}(mb:b∈V.bs)(mc:c∈V.bs){ms:List (Int×Int)}{ps:List Pc}(hm:zjC V b.1 c.1 b.2 c.2 ms)(hp:zoG ms V.dl V.h0 ps){k j:Nat}(h:zfZ V kvs k j\/(V.bs[k]?=some b/\V.bs[j]?=some c)):zfZ V (dput kvs [.inr b.1,.inr c.1] (.tup (ps.map Pd))) k j:=fun b' c' hb hc=>by
 rw [zjo]
 by_cases e:b.1=b'.1/\c.1=c'.1
 ·have e1:=zgc ok mb (qe hb) e.1
  have e2:=zgc ok mc (qe hc) e.2
  subst e1 e2
  exact⟨ms,ps,hm,hp,by rw [if_pos rfl]⟩
 ·rcases h with h | ⟨h1,h2⟩
  ·obtain⟨ms',ps',h1,h2,h3⟩:=h b' c' hb hc
   refine⟨ms',ps',h1,h2,?_⟩
   rw [if_neg (fun e'=>e ?_)]
   ·exact h3
   ·have e1:=(List.cons.inj e').1
    have e2:=(List.cons.inj (List.cons.inj e').2).1
    exact⟨Sum.inr.inj e1,Sum.inr.inj e2⟩
  ·rw [h1] at hb;rw [h2] at hc
   cases hb;cases hc
   exact absurd ⟨rfl,rfl⟩ e
theorem zkG:∀ {ms:List (Int×Int)},zao ms->zgk ms
 | [],_=>True.intro
 | c::r,h=>⟨h.le c (qh.mpr (.inl rfl)),fun d hd=>(List.pairwise_cons.mp h.ap).1 d hd,zkG ⟨fun c hc=>h.le c (qh.mpr (.inr hc)),(List.pairwise_cons.mp h.ap).2⟩⟩
def zmO (S:Sto)(x:D)(V:Vl):Prop:=∃ n kvs,x=.ref n/\S[n]?=some (.dt kvs)/\∀ k j,k<V.bs.length->j<V.bs.length->zfZ V kvs k j
def zdr:DSp:=fun ds S Q=>∃ (v:D) (V:Vl),ds=[v]/\VAt S v V/\zcN V/\∀ (T:Sto) (x:D),zmO (S++T) x V->Q x (S++T)
def zeX:DS :=
    (zG (zO (zoO) (zB 1))
 (zG (za3 (zaN (dCall zby (zm (zf 0) zA))) (zB 2) (za3 (zaN (dCall zby (zm (zf 0) zA))) (zB 3) (zie (zf 1) (dTup (zm (zf 2) (zm (zf 3) zA))) (dCall zb4 (zm (zdp zeg xF (zm (zf 0) (zm (zf 2) (zm (zf 3) zA)))) (zm (zbK "delay" (zf 0)) (zm (zbK "first" (zf 0)) zA)))))))
 (z9 (zf 1))))
theorem zmz:∀ ds So Q,zdr ds So Q->ds.length=1:=by rintro ds So Q ⟨_,_,rfl,_⟩;rfl
theorem zns:BodyOk 4 zeX zdr:=by
 rintro ds S Q ⟨v,V,rfl,hv,ok,q⟩
 unfold zeX
 have b12:=ok.b12
 obtain⟨m,g,b',f,rfl,hm,_⟩:=id hv
 have vo:∀ T,VAt (S++T) (.ref m) V:=fun T=>hv.old
 have hmT:∀ T,(S++T)[m]?=some (.ins "Valley" (vF (.ref g) (.ref b') (.ref f) (zbL V.hz) (.int V.h0) (.int V.h1) (.int V.dl))):=fun T=>zaK hm
 have fl1:∀ b∈V.bs,fl 20 (.str b.1)=true:=fun b hb=>zjH (ok.nm b hb) 20
 walk_at "g"
 refine⟨_,V,rfl,vo _,by lia,?_⟩
 unfold New
 rw [qG]
 obtain⟨nl,hnl⟩:∃ nl,nl=(V.bs.map (·.1)).map D.str:=⟨_,rfl⟩
 have lnl:nl.length=V.bs.length:=by rw [hnl,qb,qb]
 have gnl:∀ {i:Nat} {d:D},nl[i]?=some d->∃ b,V.bs[i]?=some b/\d=.str b.1:=fun {i d} h=>by
  rw [hnl,qo,qo] at h
  cases e:V.bs[i]? with
  | none=>rw [e] at h;cases h
  | some b=>rw [e] at h;exact⟨b,rfl,(qA h).symm⟩
 rw [<- hnl]
 have k1:∀ kvs G,Lst (S++Cell.dt kvs::Cell.lst nl::G) (.ref (S.length+1)) nl:=fun kvs G=>Lst.at (k:=1) rfl
 have k10:Lst (S++([Cell.dt []]++[Cell.lst nl])) (.ref (S++[Cell.dt []]).length) nl:=by
  rw [show (S++[Cell.dt []]).length=S.length+1 by simp];exact k1 _ _
 walk_at "g"
 rw [show (S++[Cell.dt []]).length=S.length+1 by simp]
 refine zau (fun i Z S'=>∃ (kvs:List (List (Sum Int Str)×D)) (G:Sto) (w2 w3:Option D),S'=S++Cell.dt kvs::Cell.lst nl::G/\kvs.length<=i*12/\(∀ k j,k<i->j<V.bs.length->zfZ V kvs k j)/\Z=[some (.ref m),some (.ref S.length),w2,w3]) ⟨[],[],_,_,rfl,qN _,fun k j h=>absurd h (Nat.not_lt_zero _),rfl⟩ (fun i Z S' zq8=>by obtain⟨_,_,_,_,e,_⟩:=zq8;exact e▸k1 _ _) ?_ ?_
 ·rintro i d Z S' hd ⟨kvs,G,w2,w3,rfl,hl,hk,rfl⟩
  have li:i<V.bs.length:=by rw [<- lnl];exact zab hd
  obtain⟨b,hb,rfl⟩:=gnl hd
  have mb:=qe hb
  walk_at "g"
  refine⟨_,V,rfl,vo _,by lia,?_⟩
  unfold New
  rw [<- hnl,qG]
  have k2:∀ kvs H,Lst (S++Cell.dt kvs::Cell.lst nl::(G++Cell.lst nl::H)) (.ref (S++Cell.dt kvs::Cell.lst nl::G).length) nl:=fun kvs H=>by
   have e:S++Cell.dt kvs::Cell.lst nl::(G++Cell.lst nl::H)=(S++Cell.dt kvs::Cell.lst nl::G)++Cell.lst nl::H:=by simp
   rw [e];exact Lst.at0
  have lk:∀ kvs',(S++Cell.dt kvs'::Cell.lst nl::G).length=(S++Cell.dt kvs::Cell.lst nl::G).length:=fun kvs'=>by simp
  have k20:=k2 kvs []
  generalize (S++Cell.dt kvs::Cell.lst nl::G).length=nm at k20 lk
  walk_at "g"
  refine zau (fun j Z S'=>∃ (kvs:List (List (Sum Int Str)×D)) (H:Sto) (w3:Option D),S'=S++Cell.dt kvs::Cell.lst nl::(G++Cell.lst nl::H)/\kvs.length<=i*12+j/\(∀ k a,a<V.bs.length->k<i\/(k=i/\a<j)->zfZ V kvs k a)/\Z=[some (.ref m),some (.ref S.length),some (.str b.1),w3]) ⟨kvs,[],_,rfl,by lia,fun k a ha h=>hk k a (by lia) ha,rfl⟩ (fun j Z S' zq9=>by obtain⟨kvs',H,_,e,_⟩:=zq9;exact e▸(lk kvs'▸k2 kvs' H)) ?_ ?_
  ·rintro j d Z S' hdj ⟨kvs',H,w3,rfl,hl',hk',rfl⟩
   have lj:j<V.bs.length:=by rw [<- lnl];exact zab hdj
   obtain⟨c,hc,rfl⟩:=gnl hdj
   have mc:=qe hc
   have hV:=hmT (Cell.dt kvs'::Cell.lst nl::(G++Cell.lst nl::H))
   walk_at "g"
   refine⟨_,V,b.1,c.1,rfl,vo _,ok,fl1 b mb,fl1 c mc,fun no=>?_,fun s t hs ht ms hms=>?_⟩
   ·rcases no with no | no
    ·exact (no b mb rfl).elim
    ·exact (no c mc rfl).elim
   have es:s=b.2:=congrArg Prod.snd (zgc ok hs mb rfl)
   have et:t=c.2:=congrArg Prod.snd (zgc ok ht mc rfl)
   subst es et
   walk_at "g"
   refine⟨ms,_,_,rfl,zkG hms.ok,by have:=hms.len;lia,fun ps hps=>?_⟩
   walk_at "g"
   have i12:i*12<=144:=by lia
   refine zeE.t (ks:=[.inr b.1,.inr c.1]) zaF (by unfold big;lia) (zl4 ?_)
   refine⟨_,H,_,rfl,by have:=ziW kvs' [.inr b.1,.inr c.1] (.tup (ps.map Pd));lia,fun k a ha h=>?_,rfl⟩
   refine zfZ.put ok mb mc hms hps ?_
   by_cases e:k=i/\a=j
   ·obtain⟨rfl,rfl⟩:=e
    exact .inr ⟨hb,hc⟩
   ·exact .inl (hk' k a ha (by lia))
  ·rintro Z S' ⟨kvs',H,w3,rfl,hl',hk',rfl⟩
   rw [lnl] at hl' hk'
   exact⟨kvs',_,_,_,rfl,by lia,fun k a h1 h2=>hk' k a h2 (by lia),rfl⟩
 ·rintro Z S' ⟨kvs,G,w2,w3,rfl,hl,hk,rfl⟩
  rw [lnl] at hk
  walk_at "g"
  exact fin_same (q _ _ ⟨_,kvs,rfl,zaF,hk⟩)
def zik (f l h:Int):Option Int:=if f<=h/\h<=l then some h else none
def zdY:DSp:=fun ds S Q=>∃ (f l:Int),ds=[.int f,.int l]/\∀ ps,IsR ps->(∀ h,at' ps h=zik f l h)->ps.length<=2->Q (.tup (ps.map Pd)) S
def zfO:DS :=
    (zG (sIf (dT (dOp oGt (zf 0) (zf 1))) (z9 (dTup zA)) zag)
 (z9 (dCall zb4 (zm (dTup (zm (dTup (zm (zf 0) (zm (zf 1) zA))) zA)) (zm (dC (.int 0)) (zm (zf 0) zA))))))
theorem znr:∀ ds So Q,zdY ds So Q->ds.length=2:=by rintro ds So Q ⟨_,_,rfl,_⟩;rfl
theorem zop:BodyOk 2 zfO zdY:=by
  rintro ds S Q ⟨f,l,rfl,k⟩
  unfold zfO
  walk_at "g"
  refine r_d (fun g=>?_) (fun g=>?_)
  . walk_at "g"
    refine fin_same (k [] IsR.nil (fun h=>?_) (by simp))
    unfold zik
    rw [if_neg (by lia)];rfl
  walk_at "g"
  refine⟨[(f,l)],0,f,rfl,⟨by show f<=l;lia,by simp,trivial⟩,by simp,fun ps ok=>fin_same (k ps ok.isR (fun h=>?_) ok.len)⟩
  rw [ok.led]
  unfold zik
  by_cases c:f<=h
  . rw [if_pos c]
    show (if h<=l then some (max h f) else none).map (· + 0)=_
    by_cases c2:h<=l
    . rw [if_pos c2,if_pos ⟨c,c2⟩]
      show some (max h f+0)=some h
      congr 1;lia
    . rw [if_neg c2,if_neg (fun z=>c2 z.2)];rfl
  . rw [if_neg c,if_neg (fun z=>c z.1)]
def pStart (p f:Pc):Int:=max p.to f.lo
def pEnd (p f:Pc):Int:=min p.fin f.hi
def pLo (p f:Pc):Int:=if pStart p f<=pEnd p f then (if p.st=0 then p.lo else pStart p f+(p.lo-p.to)) else 1
def pHi (p f:Pc):Int:=if pStart p f<=pEnd p f then (if p.st=0 then p.hi else pEnd p f+(p.lo-p.to)) else 0
def pSt (p f:Pc):Int:=if p.st=0 then 0 else f.st
def zcH:DSp:=fun ds S Q=>∃ (n:Nat) (p f:Pc) (ps:List Pc),ds=[.ref n,Pd p,Pd f]/\S[n]?=some (.lst (ps.map Pd))/\IsR ps/\Good p/\Good f/\ps.length<=9000 /\
 (pLo p f<=pHi p f->∀ r,ps.getLast?=some r->r.hi+1=pLo p f/\r.fin<=f.led (pStart p f))/\∀ qs,zgP ps (pLo p f) (pHi p f) (f.led (pStart p f)) (pSt p f) qs->Q .non (S.set n (.lst (qs.map Pd)))
def zd2:DS :=
    (zG (zO (dB zdd (zm (dOp oIx (zf 1) (dC (.int 2))) (zm (dOp oIx (zf 2) (dC (.int 0))) zA))) (zB 3))
 (zG (zO (dB zeD (zm (dCall zdL (zm (zf 1) zA)) (zm (dOp oIx (zf 2) (dC (.int 1))) zA))) (zB 4))
 (sIf (zej (dT (dOp oLe (zf 3) (zf 4))) (dT (dOp oEq (dOp oIx (zf 1) (dC (.int 3))) (dC (.int 0))))) (zaq (dCall zdZ (zm (zf 0) (zm (dOp oIx (zf 1) (dC (.int 0))) (zm (dOp oIx (zf 1) (dC (.int 1))) (zm (dCall zbV (zm (zf 2) (zm (zf 3) zA))) (zm (dC (.int 0)) zA))))))) (sIf (dT (dOp oLe (zf 3) (zf 4))) (zG (zO (dOp zap (dOp oIx (zf 1) (dC (.int 0))) (dOp oIx (zf 1) (dC (.int 2)))) (zB 5))
 (zaq (dCall zdZ (zm (zf 0) (zm (dOp zal (zf 3) (zf 5)) (zm (dOp zal (zf 4) (zf 5)) (zm (dCall zbV (zm (zf 2) (zm (zf 3) zA))) (zm (dOp oIx (zf 2) (dC (.int 3))) zA)))))))) zag))))
theorem zkP:∀ ds So Q,zcH ds So Q->ds.length=3:=by rintro ds So Q ⟨_,_,_,_,rfl,_⟩;rfl
theorem zlF:BodyOk 6 zd2 zcH:=by
 rintro ds S Q ⟨n,p,f,ps,rfl,hn,hr,gp,gf,hl,hp,q⟩
 unfold zd2
 walk_at "g"
 refine⟨p,rfl,gp.st,?_⟩
 walk_at "g"
 refine r_d (fun g=>?_) (fun g=>?_)
 ·have g':pStart p f<=pEnd p f:=g
  unfold pLo pHi at hp q
  rw [if_pos g',if_pos g'] at hp q
  unfold pSt at q
  walk_at "g"
  refine r_d (fun g1=>?_) (fun g1=>?_)
  ·rw [if_pos g1,if_pos g1] at hp
   rw [if_pos g1,if_pos g1,if_pos g1] at q
   walk_at "g"
   refine⟨f,_,rfl,gf.st,?_⟩
   walk_at "g"
   exact⟨_,_,_,_,_,ps,rfl,hn,hr,.inl rfl,by lia,hp,fun qs hq=>fin_same (q qs hq)⟩
  ·rw [if_neg g1,if_neg g1] at hp
   rw [if_neg g1,if_neg g1,if_neg g1] at q
   walk_at "g"
   refine r_d (fun g2=>?_) (fun g2=>absurd g g2)
   walk_at "g"
   refine⟨f,_,rfl,gf.st,?_⟩
   walk_at "g"
   exact⟨_,_,_,_,_,ps,rfl,hn,hr,gf.st,by lia,hp,fun qs hq=>fin_same (q qs hq)⟩
 ·have g':¬ pStart p f<=pEnd p f:=g
  walk_at "g"
  refine r_d (fun g2=>absurd g2 g) (fun g2=>?_)
  walk_at "g"
  refine fin_same ?_
  have:=q ps ?_
  ·rw [set_same hn] at this;exact this
  ·unfold pLo pHi
   rw [if_neg g',if_neg g']
   exact⟨hr,fun h=>by rw [if_neg (by lia)],fun z=>by lia,fun _=>rfl,by lia,fun p hp=>⟨p,hp,rfl,rfl⟩,fun _ z=>by lia⟩
def comp (ps qs:List Pc)(h:Int):Option Int:=(at' ps h).bind (at' qs)
theorem zpN {ps qs:List Pc}(hp:IsR ps)(hq:IsR qs):zif (comp ps qs):=fun a b x y ha hb hab=>by
 unfold comp at ha hb
 cases h1:at' ps a with
 | none=>rw [h1] at ha;cases ha
 | some u =>
  cases h2:at' ps b with
  | none=>rw [h2] at hb;cases hb
  | some v =>
   rw [h1] at ha
   rw [h2] at hb
   exact zcK hq ha hb (zcK hp h1 h2 hab)
def zc3:DSp:=fun ds S Q=>∃ (ps qs:List Pc),ds=[.tup (ps.map Pd),.tup (qs.map Pd)]/\IsR ps/\IsR qs/\ps.length<=80/\qs.length<=80/\(∀ p∈ps.head?,∀ q∈qs.head?,q.lo<=p.to) /\
 ∀ rs,IsR rs->(∀ h,at' rs h=comp ps qs h)->rs.length<=ps.length*qs.length->Q (.tup (rs.map Pd)) S
def cutAt (p:Pc)(b:Int):Int:=if b<=p.to then p.lo else if p.fin<b then p.hi+1 else b+(p.lo-p.to)
theorem zt2 {ps qs:List Pc}(hp:IsR ps)(hq:IsR qs){i j:Nat}{p f:Pc}(ep:ps[i]?=some p)(ef:qs[j]?=some f) :
    (pLo p f<=pHi p f->pLo p f=cutAt p f.lo)/\(∀ x,pLo p f<=x->x<=pHi p f->comp ps qs x=some (f.led (pStart p f)+pSt p f*(x-pLo p f))) /\
    (if pLo p f<=pHi p f then pHi p f+1 else cutAt p f.lo)=cutAt p (f.hi+1):=by
  have gp:=hp.good p (qe ep)
  have gf:=hq.good f (qe ef)
  have l1:=gp.le
  have l2:=gf.le
  have l3:=zmW gp
  unfold pLo pHi pSt pStart pEnd cutAt
  by_cases hs:max p.to f.lo<=min p.fin f.hi
  . rw [if_pos hs,if_pos hs]
    rcases gp.st with e | e
    . have ff:=znZ e
      rw [if_pos e,if_pos e,if_pos e]
      refine⟨fun _=>by rw [if_pos (by lia)],fun x h1 h2=>?_,?_⟩
      . unfold comp
        rw [zbS hp ep ⟨h1,h2⟩,zit e]
        show at' qs p.to=_
        rw [zbS hq ef ⟨by lia,by lia⟩,show max p.to f.lo=p.to by lia];simp
      . rw [if_pos l1];(repeat' split)<;>lia
    . have ff:=zn2 e
      have ne:¬ p.st=0:=by lia
      rw [if_neg ne,if_neg ne,if_neg ne]
      refine⟨fun _=>by (repeat' split)<;>lia,fun x h1 h2=>?_,?_⟩
      . unfold comp
        rw [zbS hp ep ⟨by lia,by lia⟩,ziC e]
        show at' qs (p.to+(x-p.lo))=_
        rw [zbS hq ef ⟨by lia,by lia⟩]
        congr 1
        unfold Pc.led
        rw [zeV gf.st,zeV gf.st,zeV gf.st]
        split<;>lia
      . (repeat' split)<;>lia
  . rw [if_neg hs,if_neg hs]
    refine⟨fun z=>by lia,fun x h1 h2=>by lia,?_⟩
    rw [if_neg (by lia)]
    (repeat' split)<;>lia
structure zyQ (ps qs:List Pc)(a n:Int)(i:Nat)(found:List Pc):Prop where
 pre:Pre (comp ps qs) a n found
 on:n=zcg ps i\/((∀ h,n<=h->comp ps qs h=none)/\(qs≠[]->∀ k p,i<=k->ps[k]?=some p->endOf qs<=p.to))
theorem zqK {ps qs:List Pc}(hp:IsR ps)(hq:IsR qs){i:Nat}{p:Pc}(ep:ps[i]?=some p)(h:Int)(h1:p.lo<=h)(h2:h<=p.hi->endOf qs<=p.led h)(h3:endOf qs<=p.fin):comp ps qs h=none:=by
 unfold comp
 cases hv:at' ps h with
 | none=>rfl
 | some v =>
  refine zhS hq ?_
  by_cases hh:h<=p.hi
  ·rw [zbS hp ep ⟨h1,hh⟩] at hv
   cases hv
   exact h2 hh
  ·have gp:=(hp.good p (qe ep)).le
   have e1:=zbS hp ep (h:=p.hi) ⟨gp,qw _⟩
   have:=zcK hp e1 hv (by lia)
   unfold Pc.fin at h3
   lia
def zgZ:DS :=
    (zG (zO (zcj zA) (zB 2))
 (zG (za3 (zaN (zf 0)) (zB 3) (za3 (zaN (zf 1)) (zB 4) (zaq (dCall zcH (zm (zf 2) (zm (zf 3) (zm (zf 4) zA)))))))
 (z9 (dB zgd (zm (zf 2) zA)))))
theorem zoW:∀ ds So Q,zc3 ds So Q->ds.length=2:=by rintro ds So Q ⟨_,_,rfl,_⟩;rfl
theorem zqq:BodyOk 5 zgZ zc3:=by
  rintro ds S Q ⟨ps,qs,rfl,hp,hq,hpl,hql,hh,q⟩
  unfold zgZ
  walk_at "g"
  have mono:=zpN hp hq
  refine zau (fun i Z S'=>∃ found n w1 w2,Z=[some (.tup (ps.map Pd)),some (.tup (qs.map Pd)),some (.ref S.length),w1,w2]/\S'=S++[.lst (found.map Pd)]/\zyQ ps qs (zcg ps 0) n i found/\found.length<=i*qs.length)
    ⟨[],zcg ps 0,none,none,rfl,rfl,⟨Pre.start _ _,.inl rfl⟩,by simp⟩ (fun _ _ _ _=>True.intro) ?_ ?_
  . rintro i d Z S' hd ⟨found,n,w1,w2,rfl,rfl,I,hfl⟩
    obtain⟨p,ep,rfl⟩:=get_map hd
    have hi:=zab ep
    have gp:=hp.good p (qe ep)
    obtain⟨el1,el2⟩:=zhN hp ep
    have hb:i*qs.length<=6400:=by
      have:=Nat.mul_le_mul (show i<=80 by lia) hql
      lia
    walk_at "g"
    refine zau (fun j Z S'=>∃ found n w2,Z=[some (.tup (ps.map Pd)),some (.tup (qs.map Pd)),some (.ref S.length),some (Pd p),w2]/\S'=S++[.lst (found.map Pd)]/\Pre (comp ps qs) (zcg ps 0) n found /\
      (n=cutAt p (zcg qs j)\/((∀ h,n<=h->comp ps qs h=none)/\(qs≠[]->∀ k p,i<=k->ps[k]?=some p->endOf qs<=p.to)))/\found.length<=i*qs.length+j)
      ⟨found,n,_,rfl,rfl,I.pre,?_,by lia⟩ (fun _ _ _ _=>True.intro) ?_ ?_
    . rcases I.on with e | e
      . cases hq0:qs[0]? with
        | none =>
          right
          have:qs=[]:=by cases qs with | nil=>rfl | cons a b=>simp at hq0
          subst this
          refine⟨fun h _=>?_,fun z=>absurd rfl z⟩
          unfold comp;cases at' ps h<;>rfl
        | some f =>
          left
          rw [e,el1]
          have:zcg qs 0<=p.to:=by
            unfold zcg
            rw [hq0]
            have h0:∃ p0,ps[0]?=some p0:=⟨ps[0]'(by lia),qc _⟩
            obtain⟨p0,e0⟩:=h0
            have:=hh p0 (by rw [List.head?_eq_getElem?];exact e0) f (by rw [List.head?_eq_getElem?];exact hq0)
            have a1:=zbS hp e0 (h:=p0.lo) ⟨qw _,(hp.good p0 (qe e0)).le⟩
            have a2:=zbS hp ep (h:=p.lo) ⟨qw _,gp.le⟩
            rw [zht] at a1 a2
            have hlo:p0.lo<=p.lo:=by
              cases ps with
              | nil=>simp at e0
              | cons x r =>
                have ex:x=p0:=by simpa using e0
                subst ex
                exact (ze2 hp a2).2
            have:=zcK hp a1 a2 hlo
            show f.lo<=p.to
            lia
          unfold cutAt
          rw [if_pos this]
      . exact .inr e
    . rintro j d Z S' hd ⟨found,n,w2,rfl,rfl,pre,on,hfl⟩
      obtain⟨f,ef,rfl⟩:=get_map hd
      have hj:=zab ef
      have gf:=hq.good f (qe ef)
      obtain⟨fl1,fl2⟩:=zhN hq ef
      obtain⟨s1,s2,s3⟩:=zt2 hp hq ep ef
      have hlo:pLo p f<=pHi p f->pLo p f=n:=fun z=>by
        rcases on with e | ⟨e1,e2⟩
        . rw [s1 z,e,fl1]
        . exfalso
          have h1:=e2 (by intro z;rw [z] at ef;simp at ef) i p (qf _) ep
          have h2:f.hi<endOf qs:=by
            rcases Int.lt_or_le f.hi (endOf qs) with g | g
            . exact g
            . have:=zhS hq g
              rw [zbS hq ef ⟨gf.le,qw _⟩] at this;cases this
          have h3:¬ pStart p f<=pEnd p f:=by unfold pStart pEnd;lia
          unfold pLo pHi at z
          rw [if_neg h3,if_neg h3] at z
          lia
      walk_at "g"
      refine⟨_,p,f,found,rfl,zaF,pre.isR,gp,gf,by lia,pre.need mono hlo s2,fun rs hr=>?_⟩
      rw [za8]
      walk_at "g"
      refine⟨rs,_,_,rfl,rfl,pre.put hlo s2 hr,?_,by have:=hr.len;lia⟩
      rcases on with e | ⟨e1,e2⟩
      . left
        rw [fl2,<- s3,e,fl1]
      . right
        rw [if_neg]
        . exact⟨e1,e2⟩
        . intro z
          have:=hlo z
          have hc:=s2 (pLo p f) (qw _) z
          rw [e1 _ (by lia)] at hc;cases hc
    . rintro Z S' ⟨found,n,w2,rfl,rfl,pre,on,hfl⟩
      rw [qb] at on hfl
      refine⟨found,n,_,_,rfl,rfl,⟨pre,?_⟩,by rw [Nat.succ_mul];exact hfl⟩
      rcases on with e | ⟨e1,e2⟩
      . have eq:zcg qs qs.length=endOf qs:=by unfold zcg;rw [qu (qf _)]
        rw [eq] at e
        rw [el2]
        by_cases hf:p.fin<endOf qs
        . left
          rw [e]
          unfold cutAt
          have:=zmW gp
          rw [if_neg (by lia),if_pos hf]
        . right
          have hn1:p.lo<=n:=by
            rw [e];unfold cutAt
            have:=gp.le
            (repeat' split)<;>lia
          refine⟨fun h hh'=>zqK hp hq ep h (by lia) (fun hle=>?_) (by lia),fun _ k p' hk ek=>?_⟩
          . rcases gp.st with z | z
            . rw [zit z]
              have:=znZ z
              lia
            . rw [ziC z]
              have:=zn2 z
              unfold cutAt at e
              (repeat' split at e)<;>lia
          . have gp':=hp.good p' (qe ek)
            have a1:=zbS hp ep (h:=p.hi) ⟨gp.le,qw _⟩
            have a2:=zbS hp ek (h:=p'.lo) ⟨qw _,gp'.le⟩
            rw [zht] at a2
            have hlt:p.hi<=p'.lo:=Int.le_of_lt (apart hp (by lia) ep ek)
            have:=zcK hp a1 a2 hlt
            unfold Pc.fin at hf
            lia
      . exact .inr ⟨e1,fun z k p hk ek=>e2 z k p (by lia) ek⟩
  . rintro Z S' ⟨found,n,w1,w2,rfl,rfl,I,hfl⟩
    rw [qb] at I hfl
    walk_at "g"
    refine zaA (ziB found) (q found I.pre.isR (fun h=>I.pre.done ?_ ?_ h) hfl)
    . intro x hx
      unfold comp
      rw [zfp]
      . rfl
      . intro q hq'
        have hl:0<ps.length:=List.length_pos_of_mem hq'
        have h0:ps[0]?=some (ps[0]'hl):=qc _
        have:=lo_le hp h0 hq'
        have e:zcg ps 0=(ps[0]'hl).lo:=by unfold zcg;rw [h0]
        lia
    . intro x hx
      rcases I.on with e | ⟨e1,e2⟩
      . have eq:zcg ps ps.length=endOf ps:=by unfold zcg;rw [qu (qf _)]
        unfold comp
        rw [zhS hp (by lia)];rfl
      . exact e1 x hx
def zbv:DSp:=fun ds S Q=>∃ (n:Nat) (p:Pc) (lo hi:Int) (f:Int->Option Int) (a:Int) (ps:List Pc),ds=[.ref n,Pd p,.int lo,.int hi]/\S[n]?=some (.lst (ps.map Pd))/\(p.st=0\/p.st=1)/\ps.length<=9000 /\
 zif f/\Pre f a lo ps/\lo<=hi+1/\(∀ x,lo<=x->x<=hi->f x=some (p.led x))/\∀ qs,Pre f a (hi+1) qs->qs.length<=ps.length+1->Q .non (S.set n (.lst (qs.map Pd)))
def zfz:DS :=
  (zaq (dCall zdZ (zm (zf 0) (zm (zf 2) (zm (zf 3) (zm (dCall zbV (zm (zf 1) (zm (zf 2) zA))) (zm (dOp oIx (zf 1) (dC (.int 3))) zA)))))))
theorem znm:∀ ds So Q,zbv ds So Q->ds.length=4:=by rintro ds So Q ⟨_,_,_,_,_,_,_,rfl,_⟩;rfl
theorem zpE:BodyOk 4 zfz zbv:=by
  rintro ds S Q ⟨n,p,lo,hi,f,a,ps,rfl,hn,hst,hl,mono,pre,hlh,hf,q⟩
  unfold zfz
  have hf2:∀ x,lo<=x->x<=hi->f x=some (p.led lo+p.st*(x-lo)):=fun x h1 h2=>by
    rw [hf x h1 h2,zcm hst,zcm hst]
    rcases hst with e | e<;>rw [e]<;>simp<;>lia
  walk_at "g"
  refine⟨p,_,rfl,hst,?_⟩
  walk_at "g"
  refine⟨_,_,_,_,_,ps,rfl,hn,pre.isR,hst,by lia,pre.need mono (fun _=>rfl) hf2,fun qs hq=>fin_same (q qs ?_ hq.len)⟩
  have:=pre.put (fun _=>rfl) hf2 hq
  by_cases c:lo<=hi
  . rw [if_pos c] at this;exact this
  . rw [if_neg c] at this
    rw [show hi+1=lo by lia];exact this
def zbl:DSp:=fun ds S Q=>∃ (n:Nat) (p r:Pc) (lo hi:Int) (f:Int->Option Int) (a:Int) (ps:List Pc),ds=[.ref n,Pd p,Pd r,.int lo,.int hi]/\S[n]?=some (.lst (ps.map Pd))/\p.st=1/\r.st=0/\ps.length<=8000 /\
 zif f/\Pre f a lo ps/\lo<=hi+1/\(∀ x,lo<=x->x<=hi->f x=some (min (p.led x) (r.led x)))/\∀ qs,Pre f a (hi+1) qs->qs.length<=ps.length+2->Q .non (S.set n (.lst (qs.map Pd)))
def zc6:DS :=
    (zG (zO (dOp zap (dCall zbV (zm (zf 2) (zm (zf 3) zA))) (dCall zbV (zm (zf 1) (zm (zf 3) zA)))) (zB 5))
 (zG (zO (dB zeD (zm (zf 4) (zm (dOp zal (zf 3) (dB zdd (zm (zf 5) (zm (dUn zb2 (dC (.int 1))) zA)))) zA))) (zB 6))
 (zG (zaq (dCall zbv (zm (zf 0) (zm (zf 1) (zm (zf 3) (zm (zf 6) zA))))))
 (zaq (dCall zbv (zm (zf 0) (zm (zf 2) (zm (dOp zal (zf 6) (dC (.int 1))) (zm (zf 4) zA)))))))))
theorem zi2:∀ ds So Q,zbl ds So Q->ds.length=5:=by rintro ds So Q ⟨_,_,_,_,_,_,_,_,rfl,_⟩;rfl
theorem zj6:BodyOk 7 zc6 zbl:=by
 rintro ds S Q ⟨n,p,r,lo,hi,f,a,ps,rfl,hn,hp,hr,hl,mono,pre,hlh,hf,q⟩
 unfold zc6
 walk_at "g"
 refine⟨r,_,rfl,.inl hr,?_⟩
 walk_at "g"
 refine⟨p,_,rfl,.inr hp,?_⟩
 walk_at "g"
 refine⟨n,p,_,_,f,a,ps,rfl,hn,.inr hp,by lia,mono,pre,by lia,fun x h1 h2=>?_,fun qs hq ql=>?_⟩
 ·rw [hf x h1 (by lia)]
  rw [ziC hp,zit hr] at *
  congr 1
  lia
 walk_at "g"
 refine⟨n,r,_,_,f,a,qs,rfl,?_,.inl hr,by lia,mono,hq,by lia,fun x h1 h2=>?_,fun rs hrs rl=>fin_same ?_⟩
 ·rw [qL];exact zab hn
 ·rw [hf x (by lia) h2]
  rw [ziC hp,zit hr] at *
  congr 1
  lia
 ·rw [List.set_set]
  exact q rs hrs (by lia)
def zcI:DSp:=fun ds S Q=>∃ (n:Nat) (p r:Pc) (lo hi:Int) (f:Int->Option Int) (a:Int) (ps:List Pc),ds=[.ref n,Pd p,Pd r,.int lo,.int hi]/\S[n]?=some (.lst (ps.map Pd))/\(p.st=0\/p.st=1)/\(r.st=0\/r.st=1)/\ps.length<=8000 /\
 zif f/\Pre f a lo ps/\lo<=hi+1/\(∀ x,lo<=x->x<=hi->f x=some (min (p.led x) (r.led x)))/\∀ qs,Pre f a (hi+1) qs->qs.length<=ps.length+2->Q .non (S.set n (.lst (qs.map Pd)))
theorem zoa {p r:Pc}(hp:p.st=0\/p.st=1)(e:p.st=r.st)(x y:Int):p.led x-r.led x=p.led y-r.led y:=by
  unfold Pc.led
  rw [<- e]
  rcases hp with e | e<;>rw [e]<;>simp<;>lia
def zd3:DS :=
  (sIf (dT (dOp oGt (dOp oIx (zf 1) (dC (.int 3))) (dOp oIx (zf 2) (dC (.int 3))))) (zaq (dCall zbl (zm (zf 0) (zm (zf 1) (zm (zf 2) (zm (zf 3) (zm (zf 4) zA))))))) (sIf (dT (dOp oLt (dOp oIx (zf 1) (dC (.int 3))) (dOp oIx (zf 2) (dC (.int 3))))) (zaq (dCall zbl (zm (zf 0) (zm (zf 2) (zm (zf 1) (zm (zf 3) (zm (zf 4) zA))))))) (sIf (dT (dOp oLt (dCall zbV (zm (zf 1) (zm (zf 3) zA))) (dCall zbV (zm (zf 2) (zm (zf 3) zA))))) (zaq (dCall zbv (zm (zf 0) (zm (zf 1) (zm (zf 3) (zm (zf 4) zA)))))) (zaq (dCall zbv (zm (zf 0) (zm (zf 2) (zm (zf 3) (zm (zf 4) zA)))))))))
theorem zk3:∀ ds So Q,zcI ds So Q->ds.length=5:=by rintro ds So Q ⟨_,_,_,_,_,_,_,_,rfl,_⟩;rfl
theorem zlp:BodyOk 5 zd3 zcI:=by
 rintro ds S Q ⟨n,p,r,lo,hi,f,a,ps,rfl,hn,hp,hr,hl,mono,pre,hlh,hf,q⟩
 unfold zd3
 walk_at "g"
 refine r_d (fun g=>?_) (fun g=>?_)
 ·walk_at "g"
  exact⟨n,p,r,_,_,f,a,ps,rfl,hn,by lia,by lia,hl,mono,pre,hlh,hf,fun qs h1 h2=>fin_same (q qs h1 h2)⟩
 walk_at "g"
 refine r_d (fun g2=>?_) (fun g2=>?_)
 ·walk_at "g"
  exact⟨n,r,p,_,_,f,a,ps,rfl,hn,by lia,by lia,hl,mono,pre,hlh,fun x h1 h2=>by rw [hf x h1 h2,Int.min_comm],fun qs h1 h2=>fin_same (q qs h1 h2)⟩
 have e:p.st=r.st:=by lia
 walk_at "g"
 refine⟨p,_,rfl,hp,?_⟩
 walk_at "g"
 refine⟨r,_,rfl,hr,?_⟩
 walk_at "g"
 refine r_d (fun g3=>?_) (fun g3=>?_)
 ·walk_at "g"
  refine⟨n,p,_,_,f,a,ps,rfl,hn,hp,by lia,mono,pre,hlh,fun x h1 h2=>?_,fun qs h1 h2=>fin_same (q qs h1 (by lia))⟩
  rw [hf x h1 h2]
  have:=zoa hp e x lo
  congr 1
  lia
 ·walk_at "g"
  refine⟨n,r,_,_,f,a,ps,rfl,hn,hr,by lia,mono,pre,hlh,fun x h1 h2=>?_,fun qs h1 h2=>fin_same (q qs h1 (by lia))⟩
  rw [hf x h1 h2]
  have:=zoa hp e x lo
  congr 1
  lia
def zvO:Option Int->Option Int->Option Int
 | some a,some b=>some (min a b)
 | some a,none=>some a
 | none,b=>b
def zmH (ps qs:List Pc):Prop:=∀ p∈ps.head?,∀ q∈qs.head?,p.lo=q.lo
def les (ps qs:List Pc)(h:Int):Option Int:=zvO (at' ps h) (at' qs h)
theorem zsq {ps qs:List Pc}(hp:IsR ps)(hq:IsR qs)(hh:zmH ps qs)(p0:ps≠[])(q0:qs≠[]):zif (les ps qs):=fun a b x y ha hb hab=>by
 cases ps with
 | nil=>exact absurd rfl p0
 | cons p r =>
 cases qs with
 | nil=>exact absurd rfl q0
 | cons q s =>
 have el:p.lo=q.lo:=hh p rfl q rfl
 unfold les at ha hb
 have hlo:p.lo<=a:=by
  cases h1:at' (p::r) a with
  | some u=>exact (ze2 hp h1).2
  | none =>
   cases h2:at' (q::s) a with
   | some v=>rw [el];exact (ze2 hq h2).2
   | none=>rw [h1,h2] at ha;cases ha
 cases h1:at' (p::r) b with
 | some u =>
  obtain⟨u',hu'⟩:=zfg hp h1 hlo hab
  have m1:=zcK hp hu' h1 hab
  cases h2:at' (q::s) b with
  | some v =>
   obtain⟨v',hv'⟩:=zfg hq h2 (by lia) hab
   have m2:=zcK hq hv' h2 hab
   rw [h1,h2] at hb
   rw [hu',hv'] at ha
   cases ha;cases hb
   show min u' v'<=min u v
   lia
  | none =>
   rw [h1,h2] at hb
   cases hb
   rw [hu'] at ha
   cases h3:at' (q::s) a with
   | some v'=>rw [h3] at ha;cases ha;show min u' v'<=_;lia
   | none=>rw [h3] at ha;cases ha;exact m1
 | none =>
  cases h2:at' (q::s) b with
  | some v =>
   obtain⟨v',hv'⟩:=zfg hq h2 (by lia) hab
   have m2:=zcK hq hv' h2 hab
   rw [h1,h2] at hb
   cases hb
   rw [hv'] at ha
   cases h3:at' (p::r) a with
   | some u'=>rw [h3] at ha;cases ha;show min u' v'<=_;lia
   | none=>rw [h3] at ha;cases ha;exact m2
  | none=>rw [h1,h2] at hb;cases hb
def zbX:DSp:=fun ds S Q=>∃ (ps qs:List Pc),ds=[.tup (ps.map Pd),.tup (qs.map Pd)]/\IsR ps/\IsR qs/\ps.length<=900/\qs.length<=900/\zmH ps qs /\
 ∀ rs,IsR rs->(∀ h,at' rs h=les ps qs h)->rs.length<=2*(ps.length+qs.length)->Q (.tup (rs.map Pd)) S
structure Stand (ps:List Pc)(i:Nat)(h:Int):Prop where
 lo:∀ p,ps[i]?=some p->p.lo<=h
 hi:∀ (t:Nat) p,ps[i+t]?=some p->h<=p.hi
 fin:i=ps.length->∀ x,h<=x->at' ps x=none
theorem Stand.next {ps:List Pc}(hr:IsR ps){i:Nat}{p:Pc}(ep:ps[i]?=some p):Stand ps (i+1) (p.hi+1):=by
 refine⟨fun q hq=>?_,fun t q hq=>?_,fun e x hx=>?_⟩
 ·rw [(hr.link i p q ep hq).nx];exact qw _
 ·have:=apart hr (show i<i+1+t by lia) ep hq
  have:=(hr.good q (qe hq)).le
  lia
 ·refine zhS hr ?_
  rw [(zqi hr ep).2 (qu (by lia))];exact hx
theorem Stand.stay {ps:List Pc}(hr:IsR ps){i:Nat}{h h':Int}{p:Pc}(ep:ps[i]?=some p)(s:Stand ps i h)(h1:h<=h')(h2:h'<=p.hi):Stand ps i h':=by
 refine⟨fun q hq=>?_,fun t q hq=>?_,fun e x hx=>?_⟩
 ·have:=s.lo q hq;lia
 ·rcases Nat.eq_zero_or_pos t with z | z
  ·subst z
   rw [Nat.add_zero,ep] at hq
   cases hq;exact h2
  ·have:=apart hr (show i<i+t by lia) ep hq
   have:=(hr.good q (qe hq)).le
   lia
 ·have:=zab ep;lia
theorem zm5 {α:Type}(xs:List α)(i:Nat)(h:i<=xs.length):cutD xs (some (i:Int)) none=xs.drop i:=by
 unfold cutD
 have e:slD xs.length 0 (some (i:Int))=i:=by
  unfold slD
  simp only
  rw [if_neg (by lia)];lia
 rw [e]
 show (xs.drop i).take (xs.length-i)=_
 rw [List.take_of_length_le (by simp)]
theorem zp5 (qs:List Pc)(h:Int):les [] qs h=at' qs h:=rfl
theorem zrd (ps:List Pc)(h:Int):les ps [] h=at' ps h:=by
  unfold les
  show zvO (at' ps h) none=_
  cases at' ps h<;>rfl
theorem zpB {ps:List Pc}{i:Nat}{p:Pc}(h:ps[i]?=some p):atD (ps.map Pd) (i:Int)=some (Pd p):=zfa (by rw [qo,h];rfl)
def zfP:DS :=
    (zG (sIf (dOr (dT (dOp oEq (dB zbn (zm (zf 0) zA)) (dC (.int 0)))) (dT (dOp oEq (dB zbn (zm (zf 1) zA)) (dC (.int 0))))) (z9 (dOp zal (zf 0) (zf 1))) zag)
 (zG (zO (zcj zA) (zB 2))
 (zG (zO (dOp oIx (dOp oIx (zf 0) (dC (.int 0))) (dC (.int 0))) (zB 3))
 (zG (zO (dC (.int 0)) (zB 4))
 (zG (zO (dC (.int 0)) (zB 5))
 (zG (zfm (zej (dT (dOp oLt (zf 4) (dB zbn (zm (zf 0) zA)))) (dT (dOp oLt (zf 5) (dB zbn (zm (zf 1) zA))))) (zG (zO (dB zeD (zm (dOp oIx (dOp oIx (zf 0) (zf 4)) (dC (.int 1))) (zm (dOp oIx (dOp oIx (zf 1) (zf 5)) (dC (.int 1))) zA))) (zB 6))
 (zG (zaq (dCall zcI (zm (zf 2) (zm (dOp oIx (zf 0) (zf 4)) (zm (dOp oIx (zf 1) (zf 5)) (zm (zf 3) (zm (zf 6) zA)))))))
 (zG (zO (dOp zal (zf 6) (dC (.int 1))) (zB 3))
 (zG (sJ (zO (zkv (dT (dOp oEq (dOp oIx (dOp oIx (zf 0) (zf 4)) (dC (.int 1))) (zf 6))) (dOp zal (zf 4) (dC (.int 1))) (zf 4)) (zB 4)))
 (zO (zkv (dT (dOp oEq (dOp oIx (dOp oIx (zf 1) (zf 5)) (dC (.int 1))) (zf 6))) (dOp zal (zf 5) (dC (.int 1))) (zf 5)) (zB 5)))))))
 (zG (za3 (zaN (dOp zal (dSl zje (zf 0) (some (zf 4)) none) (dSl zje (zf 1) (some (zf 5)) none))) (zB 7) (zaq (dCall zbv (zm (zf 2) (zm (zf 7) (zm (dB zdd (zm (zf 3) (zm (dOp oIx (zf 7) (dC (.int 0))) zA))) (zm (dOp oIx (zf 7) (dC (.int 1))) zA)))))))
 (z9 (dB zgd (zm (zf 2) zA))))))))))
theorem znn:∀ ds So Q,zbX ds So Q->ds.length=2:=by rintro ds So Q ⟨_,_,rfl,_⟩;rfl
theorem zoA:BodyOk 8 zfP zbX:=by
  rintro ds S Q ⟨ps,qs,rfl,hp,hq,hpl,hql,hh,q⟩
  unfold zfP
  walk_at "g"
  rw [qb]
  refine r_d (fun g=>?_) (fun g=>?_)
  . walk_at "g"
    refine zlZ (by rw [qb,qb];unfold big;lia) ?_
    have:ps=[]:=List.length_eq_zero_iff.mp (by lia)
    subst this
    walk_at "g"
    refine fin_same (q qs hq (fun h=>(zp5 qs h).symm) (by lia))
  walk_at "g"
  rw [qb]
  refine r_d (fun g2=>?_) (fun g2=>?_)
  . walk_at "g"
    refine zlZ (by rw [qb,qb];unfold big;lia) ?_
    have:qs=[]:=List.length_eq_zero_iff.mp (by lia)
    subst this
    walk_at "g"
    rw [List.map_nil,List.append_nil]
    refine fin_same (q ps hp (fun h=>(zrd ps h).symm) (by lia))
  have p0:ps≠[]:=fun e=>g (by rw [e];rfl)
  have q0:qs≠[]:=fun e=>g2 (by rw [e];rfl)
  have mono:=zsq hp hq hh p0 q0
  have ep0:ps[0]?=some (ps[0]'(by lia)):=qc _
  have eq0:qs[0]?=some (qs[0]'(by lia)):=qc _
  generalize ps[0]'(by lia)=pa at ep0
  generalize qs[0]'(by lia)=qa at eq0
  have elo:pa.lo=qa.lo:=hh pa (by rw [List.head?_eq_getElem?];exact ep0) qa (by rw [List.head?_eq_getElem?];exact eq0)
  have aa0:atD (ps.map Pd) 0=some (Pd pa):=zpB ep0
  have sta:∀ {ts:List Pc} {t:Pc},IsR ts->ts[0]?=some t->Stand ts 0 t.lo:=fun {ts t} ht e=>by
    refine⟨fun p hp=>by rw [e] at hp;cases hp;exact qw _,fun k p hp=>?_,fun z=>by have:=zab e;lia⟩
    have:=lo_le ht e (qe hp)
    have:=(ht.good p (qe hp)).le
    lia
  walk_at "g"
  refine zx4 (fun m Z S' => ∃ (i j : Nat) (hour : Int) (found : List Pc) (w1 w2 : Option D), m = ps.length + qs.length - (i + j) ∧ i ≤ ps.length ∧ j ≤ qs.length ∧ Z = [some (.tup (ps.map Pd)), some (.tup (qs.map Pd)), some (.ref S.length), some (.int hour), some (.int i), some (.int j), w1, w2] ∧ S' = S ++ [.lst (found.map Pd)] ∧ found.length ≤ 2 * (i + j) ∧
      Pre (les ps qs) pa.lo hour found/\Stand ps i hour/\Stand qs j hour)
    (fun Z S'=>∃ (i j:Nat) (hour:Int) (found:List Pc) (w1 w2:Option D),i<=ps.length/\j<=qs.length/\(i=ps.length\/j=qs.length)/\Z=[some (.tup (ps.map Pd)),some (.tup (qs.map Pd)),some (.ref S.length),some (.int hour),some (.int i),some (.int j),w1,w2]/\S'=S++[.lst (found.map Pd)]/\found.length<=2*(i+j) /\
      Pre (les ps qs) pa.lo hour found/\Stand ps i hour/\Stand qs j hour)
    (ps.length+qs.length) ⟨0,0,pa.lo,[],none,none,by simp,qN _,qN _,rfl,rfl,by simp,Pre.start _ _,sta hp ep0,by rw [elo];exact sta hq eq0⟩ ?_ ?_
  . -- behind the loop
    rintro Z S' ⟨i,j,hour,found,w1,w2,hil,hjl,h,rfl,rfl,hfl,pre,s1,s2⟩
    have fin:∃ (ts:List Pc) (k:Nat),IsR ts/\k<=ts.length/\ps.drop i++qs.drop j=ts.drop k/\(∀ h,hour<=h->les ps qs h=at' ts h)/\Stand ts k hour:=by
      rcases h with h | h
      . refine⟨qs,j,hq,hjl,by rw [h,List.drop_length];rfl,fun x hx=>?_,s2⟩
        unfold les
        rw [s1.fin h x hx];rfl
      . refine⟨ps,i,hp,hil,by rw [h,List.drop_length,List.append_nil],fun x hx=>?_,s1⟩
        unfold les
        rw [s2.fin h x hx]
        cases at' ps x<;>rfl
    obtain⟨ts,k,ht,hkl,ets,hf,st⟩:=fin
    have hlen:(ps.drop i++qs.drop j).length=ps.length+qs.length-(i+j):=by
      rw [qg,List.length_drop,List.length_drop];lia
    rw [ets,List.length_drop] at hlen
    walk_at "g"
    rw [zm5 _ _ (by rw [qb];exact hil),zm5 _ _ (by rw [qb];exact hjl)]
    refine zlZ (by rw [List.length_drop,List.length_drop,qb,qb];unfold big;lia) ?_
    rw [<- List.map_drop,<- List.map_drop,<- qv,ets]
    walk_at "g"
    refine zau (fun t Z S'=>∃ (found':List Pc) (w:Option D),Z=[some (.tup (ps.map Pd)),some (.tup (qs.map Pd)),some (.ref S.length),some (.int hour),some (.int i),some (.int j),w1,w]/\S'=S++[.lst (found'.map Pd)]/\found'.length<=found.length+t /\
      (t=0->Pre (les ps qs) pa.lo hour found')/\(0<t->Pre (les ps qs) pa.lo (zcg ts (k+t)) found'/\hour<=zcg ts (k+t))) ⟨found,w2,rfl,rfl,by lia,fun _=>pre,fun z=>by lia⟩ (fun _ _ _ _=>True.intro) ?_ ?_
    . rintro t d Z S' hd ⟨found',w,rfl,rfl,hfl',pr0,pr1⟩
      obtain⟨p,ep,rfl⟩:=get_map hd
      rw [List.getElem?_drop] at ep
      have htl:=zab ep
      have gp:=ht.good p (qe ep)
      have gle:=gp.le
      obtain⟨el1,el2⟩:=zhN ht ep
      have hhi:=st.hi t p ep
      have hpre:Pre (les ps qs) pa.lo (max hour p.lo) found':=by
        rcases Nat.eq_zero_or_pos t with z | z
        . subst z
          have:=st.lo p ep
          rw [show max hour p.lo=hour by lia]
          exact pr0 rfl
        . obtain⟨h1,h2⟩:=pr1 z
          rw [el1] at h1 h2
          rw [show max hour p.lo=p.lo by lia];exact h1
      walk_at "g"
      refine⟨_,p,_,_,les ps qs,pa.lo,found',rfl,zaF,gp.st,by lia,mono,hpre,by lia,fun x h1 h2=>?_,fun rs hr hrl=>?_⟩
      . rw [hf x (by lia)]
        exact zbS ht ep ⟨by lia,h2⟩
      . rw [za8]
        walk_at "g"
        refine⟨rs,_,rfl,rfl,by lia,fun z=>by lia,fun _=>?_⟩
        rw [show k+(t+1)=k+t+1 by lia,el2]
        exact⟨hr,by lia⟩
    . rintro Z S' ⟨found',w,rfl,rfl,hfl',pr0,pr1⟩
      rw [qb,List.length_drop] at hfl' pr0 pr1
      walk_at "g"
      have hbelow:∀ x,x<pa.lo->les ps qs x=none:=fun x hx=>by
        unfold les
        rw [zfp fun z hz=>by have:=lo_le hp ep0 hz;lia,zfp fun z hz=>by have:=lo_le hq eq0 hz;lia]
        rfl
      rcases Nat.eq_zero_or_pos (ts.length-k) with z | z
      . have pr:=pr0 z
        refine zaA (ziB found') (q found' pr.isR (fun h=>pr.done hbelow (fun x hx=>?_) h) (by lia))
        rw [hf x hx]
        exact st.fin (by lia) x hx
      . obtain⟨pr,hl⟩:=pr1 z
        refine zaA (ziB found') (q found' pr.isR (fun h=>pr.done hbelow (fun x hx=>?_) h) (by lia))
        rw [hf x (by lia)]
        refine zhS ht ?_
        have:zcg ts (k+(ts.length-k))=endOf ts:=by
          unfold zcg
          rw [qu (by lia)]
        rw [this] at hx;exact hx
  rintro nx' hE m Z S' ⟨i,j,hour,found,w1,w2,rfl,hil,hjl,rfl,rfl,hfl,pre,s1,s2⟩
  walk_at "g"
  rw [qb]
  refine r_d (fun c1=>?_) (fun c1=>?_)
  rotate_left
  . walk_at "g"
    exact hE _ _ ⟨i,j,hour,found,w1,w2,hil,hjl,.inl (by lia),rfl,rfl,hfl,pre,s1,s2⟩
  walk_at "g"
  rw [qb]
  refine r_d (fun c2=>?_) (fun c2=>?_)
  rotate_left
  . walk_at "g"
    exact hE _ _ ⟨i,j,hour,found,w1,w2,hil,hjl,.inr (by lia),rfl,rfl,hfl,pre,s1,s2⟩
  have ep:ps[i]?=some (ps[i]'(by lia)):=qc _
  have er:qs[j]?=some (qs[j]'(by lia)):=qc _
  generalize ps[i]'(by lia)=p at ep
  generalize qs[j]'(by lia)=r at er
  have ap:=zpB ep
  have ar:=zpB er
  have gp:=hp.good p (qe ep)
  have gr:=hq.good r (qe er)
  have p1:=s1.lo p ep
  have p2:=s1.hi 0 p ep
  have r1:=s2.lo r er
  have r2:=s2.hi 0 r er
  walk_at "g"
  refine⟨_,p,r,_,_,les ps qs,pa.lo,found,rfl,zaF,gp.st,gr.st,by lia,mono,pre,by lia,fun x h1 h2=>?_,fun rs hr hrl=>?_⟩
  . unfold les
    rw [zbS hp ep ⟨by lia,by lia⟩,zbS hq er ⟨by lia,by lia⟩];rfl
  rw [za8]
  walk_at "g"
  refine zsM ?_
  walk_at "g"
  refine r_d (fun c3=>?_) (fun c3=>?_)
  . walk_at "g"
    refine r_d (fun c4=>?_) (fun c4=>?_)
    . walk_at "g"
      refine⟨ps.length+qs.length-(i+1+(j+1)),by lia,i+1,j+1,_,rs,_,_,rfl,by lia,by lia,rfl,rfl,by lia,hr,?_,?_⟩
      . rw [<- c3];exact Stand.next hp ep
      . rw [<- c4];exact Stand.next hq er
    . walk_at "g"
      refine⟨ps.length+qs.length-(i+1+j),by lia,i+1,j,_,rs,_,_,rfl,by lia,by lia,rfl,rfl,by lia,hr,?_,?_⟩
      . rw [<- c3];exact Stand.next hp ep
      . exact Stand.stay hq er s2 (by lia) (by lia)
  . walk_at "g"
    refine r_d (fun c4=>?_) (fun c4=>?_)
    . walk_at "g"
      refine⟨ps.length+qs.length-(i+(j+1)),by lia,i,j+1,_,rs,_,_,rfl,by lia,by lia,rfl,rfl,by lia,hr,?_,?_⟩
      . exact Stand.stay hp ep s1 (by lia) (by lia)
      . rw [<- c4];exact Stand.next hq er
    . exfalso;lia
theorem Rlx.of {f:Nat->List Pc}{k j:Nat}{ps c r:List Pc}(ec:∀ h,at' c h=comp (f k) ps h)(hr:IsR r)(er:∀ h,at' r h=les (f j) c h):Rlx f k j ps r:=by
 have cw:∀ x v,at' c x=some v->∃ w,at' (f k) x=some w/\at' ps w=some v:=fun x v e=>by
  rw [ec] at e
  unfold comp at e
  cases h:at' (f k) x with
  | none=>rw [h] at e;cases e
  | some w=>rw [h] at e;exact⟨w,rfl,e⟩
 refine⟨hr,fun x v e=>?_,fun x v e=>?_,fun x w v h1 h2=>?_⟩
 ·rw [er] at e
  unfold les at e
  cases ha:at' (f j) x with
  | none =>
   rw [ha] at e
   cases hb:at' c x with
   | none=>rw [hb] at e;cases e
   | some b =>
    rw [hb] at e
    have eb:b=v:=qA e
    subst eb
    obtain⟨w,h1,h2⟩:=cw x b hb
    exact .inr ⟨w,h1,h2,fun v' z=>by cases z⟩
  | some a =>
   rw [ha] at e
   cases hb:at' c x with
   | none=>rw [hb] at e;exact .inl e
   | some b =>
    rw [hb] at e
    have eb:min a b=v:=qA e
    rcases Int.le_total a b with g | g
    ·exact .inl (by rw [show v=a by lia])
    ·obtain⟨w,h1,h2⟩:=cw x b hb
     exact .inr ⟨w,h1,by rw [h2,show v=b by lia],fun v' z=>by cases z;lia⟩
 ·cases hb:at' c x with
  | none=>exact⟨v,by rw [er];unfold les;rw [e,hb];rfl,qw _⟩
  | some b=>exact⟨min v b,by rw [er];unfold les;rw [e,hb];rfl,by lia⟩
 ·have hb:at' c x=some v:=by rw [ec];unfold comp;rw [h1];exact h2
  cases ha:at' (f j) x with
  | none=>exact⟨v,by rw [er];unfold les;rw [ha,hb];rfl,qw _⟩
  | some a=>exact⟨min a v,by rw [er];unfold les;rw [ha,hb];rfl,by lia⟩
def nmH (V:Vl)(k:Nat):Str:=((V.bs[k]?).getD (Str.empty,(0,0))).1
theorem zp4 {V:Vl}{k:Nat}{b:Str×(Int×Int)}(h:V.bs[k]?=some b):nmH V k=b.1:=by unfold nmH;rw [h];rfl
theorem zgr {V:Vl}{k:Nat}(h:k<V.bs.length):∃ b,V.bs[k]?=some b/\nmH V k=b.1:=⟨_,qc h,zp4 (qc h)⟩
theorem zkS {V:Vl}(ok:zcN V){k j:Nat}(hk:k<V.bs.length)(hj:j<V.bs.length):nmH V k=nmH V j↔k=j:=by
 obtain⟨b,hb,e⟩:=zgr hk
 obtain⟨c,hc,e'⟩:=zgr hj
 rw [e,e'];exact zto ok hb hc
def ziY (V:Vl)(kvs:List (Str×D))(f:Nat->List Pc):Prop:=∀ k,k<V.bs.length->dval kvs (nmH V k)=some (.tup ((f k).map Pd))
def zca (f:Nat->List Pc)(j:Nat)(r:List Pc):Nat->List Pc:=fun a=>if a=j then r else f a
theorem ziY.put {V:Vl}(ok:zcN V){kvs:List (Str×D)}{f:Nat->List Pc}(h:ziY V kvs f){j:Nat}(hj:j<V.bs.length)(r:List Pc):ziY V (dput kvs (nmH V j) (.tup (r.map Pd))) (zca f j r):=fun k hk=>by
 rw [zjo]
 unfold zca
 by_cases e:k=j
 ·subst e;rw [if_pos rfl,if_pos rfl]
 ·rw [if_neg (fun z=>e ((zkS ok hk hj).mp z.symm)),if_neg e];exact h k hk
theorem zmy {kvs:List (Str×D)}{k:Str}{v d:D}(h:dval kvs k=some d):(dput kvs k v).length=kvs.length:=by
 have:=congrArg List.length (zqd kvs k v)
 rw [h,show (some d).isSome=true from rfl,if_pos rfl,qb,qb] at this
 exact this
theorem zdi.low {V:Vl}{k j:Nat}{ps:List Pc}(sp:zdi V k j ps){w v:Int}(e:at' ps w=some v){w':Int}(h1:V.h0<=w')(h2:w'<=w):∃ v',at' ps w'=some v':=by
 rw [sp.led] at e
 rw [sp.led,if_pos h1]
 rw [if_pos (show V.h0<=w by lia)] at e
 by_cases ek:k=j
 ·rw [if_pos ek] at e ⊢
  by_cases g:w<=V.h1
  ·exact⟨_,by rw [if_pos (by lia)]⟩
  ·rw [if_neg g] at e;cases e
 ·rw [if_neg ek] at e ⊢
  cases hf:zcw (zbk V k j) w with
  | none=>rw [hf] at e;cases e
  | some u =>
   obtain⟨m0,g0,_⟩:=zcr (zco V k j) hf
   cases hf':zcw (zbk V k j) w' with
   | none=>exact absurd (show w'<=u by lia) (zeM hf' u m0)
   | some u'=>exact⟨_,rfl⟩
theorem zdi.from {V:Vl}{k j:Nat}{ps:List Pc}(sp:zdi V k j ps){w v:Int}(e:at' ps w=some v):V.h0<=w:=by
 rw [sp.led] at e
 by_cases h:V.h0<=w
 ·exact h
 ·rw [if_neg h] at e;cases e
theorem zdi.dwn {V:Vl}{k j:Nat}{ps:List Pc}(sp:zdi V k j ps):zbt V.h0 ps:=zbt.of sp.isR (fun x v e=>sp.from e) fun x v e=>sp.low e (qw _) (sp.from e)
theorem Hrg.comp {V:Vl}{s:Nat}{f:Nat->List Pc}{k j:Nat}{ps c:List Pc}(hd:0<=V.dl)(H:Hrg V s f)(sp:zdi V k j ps)(ic:IsR c)(ec:∀ h,at' c h=comp (f k) ps h):zbt V.h0 c:=by
 have cw:∀ x v,at' c x=some v->∃ w,at' (f k) x=some w/\at' ps w=some v:=fun x v e=>by
  rw [ec] at e
  unfold Dp.comp at e
  cases h:at' (f k) x with
  | none=>rw [h] at e;cases e
  | some w=>rw [h] at e;exact⟨w,rfl,e⟩
 refine zbt.of ic (fun x v e=>?_) fun x v e=>?_
 ·obtain⟨w,h1,_⟩:=cw x v e
  exact (H.dom k x w h1).1
 ·obtain⟨w,h1,h2⟩:=cw x v e
  obtain⟨u,hu,le⟩:=(H.dwn k).at (H.isR k) h1 (qw _) (H.dom k x w h1).1
  obtain⟨v',hv'⟩:=sp.low h2 (H.ge hd hu) le
  exact⟨v',by rw [ec];unfold Dp.comp;rw [hu];exact hv'⟩
theorem zbt.heads {a:Int}{ps qs:List Pc}(h1:zbt a ps)(h2:zbt a qs):zmH ps qs:=fun p hp q hq=>(h1 p hp).trans (h2 q hq).symm
def zlU (V:Vl)(f:Nat->List Pc)(a j:Nat):Prop:=∀ x w u,a≠j->at' (f a) x=some w->zcw (zbk V a j) w=some u->∃ v',at' (f j) x=some v'/\v'<=u+V.dl
structure HgI (V:Vl)(s:Nat)(G:Nat->Nat->Prop)(f:Nat->List Pc)(chs:List Nat):Prop where
 hr:Hrg V s f
 nd:chs.Nodup
 lt:∀ c∈chs,c<V.bs.length
 cl:∀ k j,G k j->j<V.bs.length->k∉chs->zlU V f k j
theorem HgI.weak {V:Vl}{s:Nat}{G G':Nat->Nat->Prop}{f:Nat->List Pc}{chs:List Nat}(I:HgI V s G f chs)(h:∀ k j,G' k j->j<V.bs.length->G k j):HgI V s G' f chs:=⟨I.hr,I.nd,I.lt,fun k j g l n=>I.cl k j (h k j g l) l n⟩
theorem zlU.of {V:Vl}{s:Nat}{f g:Nat->List Pc}{a j:Nat}{ps:List Pc}(hd:0<=V.dl)(H:Hrg V s f)(sp:zdi V a j ps)(ga:g a=f a)(R:Rlx f a j ps (g j)):zlU V g a j:=fun x w u ne h1 h2=>by
 rw [ga] at h1
 have h0:V.h0<=w:=by have:=H.ge hd h1;have:=(H.dom a x w h1).1;lia
 exact R.new x w (u+V.dl) h1 (by rw [sp.led,if_pos h0,if_neg ne,h2];rfl)
theorem HgI.same {V:Vl}{s:Nat}{G G':Nat->Nat->Prop}{f:Nat->List Pc}{chs:List Nat}{a j:Nat}{ps:List Pc}(hd:0<=V.dl)(I:HgI V s G f chs)(sp:zdi V a j ps)(R:Rlx f a j ps (f j))(h:∀ k i,G' k i->i<V.bs.length->G k i\/(k=a/\i=j)):HgI V s G' f chs:=⟨I.hr,I.nd,I.lt,fun k i g l n=>by
 rcases h k i g l with g | ⟨rfl,rfl⟩
 ·exact I.cl k i g l n
 ·exact zlU.of hd I.hr sp rfl R⟩
theorem HgI.put {V:Vl}{s:Nat}{G G':Nat->Nat->Prop}{f:Nat->List Pc}{chs:List Nat}{a j:Nat}{ps r:List Pc}(hd:0<=V.dl)(I:HgI V s G f chs)(hj:j<V.bs.length)(sp:zdi V a j ps)(R:Rlx f a j ps r)(h:∀ k i,G' k i->i<V.bs.length->G k i\/(k=a/\i=j)):HgI V s G' (zca f j r) ((chs.filter fun c=>!decide (c=j))++[j]):=by
 have hj':zca f j r j=r:=by unfold zca;rw [if_pos rfl]
 have hk':∀ k,k≠j->zca f j r k=f k:=fun k e=>by unfold zca;rw [if_neg e]
 refine⟨I.hr.relax hd sp R,?_,fun c hc=>?_,fun k i g l n=>?_⟩
 ·refine List.nodup_append.mpr ⟨I.nd.sublist List.filter_sublist,by simp,fun x hx y hy e=>?_⟩
  have e1:y=j:=by simpa using hy
  subst e e1
  have:=(List.mem_filter.mp hx).2
  simp at this
 ·rcases qF.mp hc with h | h
  ·exact I.lt c (List.mem_filter.mp h).1
  ·have:c=j:=by simpa using h
   lia
 ·have n1:k≠j:=fun e=>n (qF.mpr (.inr (by rw [e];simp)))
  have n2:k∉chs:=fun m=>n (qF.mpr (.inl (List.mem_filter.mpr ⟨m,by simp [n1]⟩)))
  rcases h k i g l with g | ⟨rfl,rfl⟩
  ·intro x w u ne h1 h2
   rw [hk' k n1] at h1
   obtain⟨v',hv,le⟩:=I.cl k i g l n2 x w u ne h1 h2
   by_cases e:i=j
   ·subst e
    rw [hj']
    obtain⟨v2,h3,h4⟩:=R.old x v' hv
    exact⟨v2,h3,by lia⟩
   ·rw [hk' i e];exact⟨v',hv,le⟩
  ·exact zlU.of hd I.hr sp (hk' _ n1) (by rw [hj'];exact R)
theorem Hrg.few {V:Vl}{s:Nat}{f:Nat->List Pc}(H:Hrg V s f)(h23:V.h1<=V.h0+23)(j:Nat):(f j).length<=24:=by
 have:=zpi (H.isR j) (H.dom j)
 lia
theorem HgI.start {V:Vl}{s:Nat}{G:Nat->Nat->Prop}(hs:s<V.bs.length){ps:List Pc}(ip:IsR ps)(ap:∀ h,at' ps h=zik V.h0 V.h1 h):HgI V s G (zca (fun _=>[]) s ps) [s]:=by
 have h1:zca (fun _=>[]) s ps s=ps:=by unfold zca;rw [if_pos rfl]
 have h2:∀ k,k≠s->zca (fun _=>[]) s ps k=[]:=fun k e=>by unfold zca;rw [if_neg e]
 have is:∀ j x v,at' (zca (fun _=>[]) s ps j) x=some v->j=s/\V.h0<=x/\x<=V.h1/\v=x:=fun j x v e=>by
  by_cases ej:j=s
  ·subst ej
   rw [h1,ap] at e
   unfold zik at e
   by_cases g:V.h0<=x/\x<=V.h1
   ·rw [if_pos g] at e;exact⟨rfl,g.1,g.2,(qA e).symm⟩
   ·rw [if_neg g] at e;cases e
  ·rw [h2 j ej] at e;cases e
 have ir:∀ j,IsR (zca (fun _=>[]) s ps j):=fun j=>by
  by_cases ej:j=s
  ·subst ej;rw [h1];exact ip
  ·rw [h2 j ej];exact .nil
 have st:∀ x,V.h0<=x->x<=V.h1->at' (zca (fun _=>[]) s ps s) x=some x:=fun x g1 g2=>by
  rw [h1,ap];unfold zik;rw [if_pos ⟨g1,g2⟩]
 refine⟨⟨ir,fun j x v e=>⟨(is j x v e).2.1,(is j x v e).2.2.1⟩,fun j=>zbt.of (ir j) (fun x v e=>(is j x v e).2.1) fun x v e=>?_,fun j x v e=>?_,st⟩,by simp,fun c hc=>?_,fun k j _ _ n x w u _ h3 _=>?_⟩
 ·obtain⟨rfl,g1,g2,_⟩:=is j x v e
  exact⟨_,st V.h0 (qw _) (by lia)⟩
 ·obtain⟨rfl,_,_,rfl⟩:=is j x v e
  exact .base
 ·have:c=s:=by simpa using hc
  lia
 ·have:=(is k x w h3).1
  exact absurd (show k∈[s] by simp [this]) n
def zw7 (kvs:List (Str×D)):D->D
 | .str z=>(dval kvs z).getD .non
 | _=>.non
theorem zqL {V:Vl}(ok:zcN V){j:Nat}(hj:j<V.bs.length):∀ {chs:List Nat},(∀ c∈chs,c<V.bs.length)->((chs.map fun k=>D.str (nmH V k)).filter fun d=>!eqv d (.str (nmH V j)))=(chs.filter fun c=>!decide (c=j)).map fun k=>D.str (nmH V k):=fun {chs} h=>by
 rw [List.filter_map]
 congr 1
 refine List.filter_congr fun c hc=>?_
 show (!eqv (.str (nmH V c)) (.str (nmH V j)))=_
 rw [zuE]
 congr 1
 exact decide_eq_decide.mpr (zkS ok (h c hc) hj)
def zcu (V:Vl)(s:Nat)(f:Nat->List Pc):Prop:=Hrg V s f/\∀ k,k<V.bs.length->zrK V f k
theorem zcu.uniq {V:Vl}{s:Nat}{f g:Nat->List Pc}(a:zcu V s f)(b:zcu V s g):f=g:=funext fun j=>zeb (a.1.isR j) (b.1.isR j) fun x=>by
 by_cases h:V.h0<=x/\x<=V.h1
 ·exact (a.1.ear a.2 h.1 h.2).uniq (b.1.ear b.2 h.1 h.2) j
 ·cases e1:at' (f j) x with
  | some v=>exact absurd (a.1.dom j x v e1) h
  | none=>cases e2:at' (g j) x with
   | some v=>exact absurd (b.1.dom j x v e2) h
   | none=>rfl
open Classical in
noncomputable def za4 (V:Vl) (s:Nat):Nat->List Pc:=if h:∃ f,zcu V s f then Classical.choose h else fun _=>[]
theorem zsL {V:Vl}{s:Nat}{f:Nat->List Pc}(h:zcu V s f):f=za4 V s:=by
 unfold za4
 rw [dif_pos ⟨f,h⟩]
 exact h.uniq (Classical.choose_spec (⟨f,h⟩:∃ f,zcu V s f))
noncomputable def zgv (V:Vl) (s:Nat):List D:=(List.range V.bs.length).map fun j=>.tup ((za4 V s j).map Pd)
theorem zsb {V:Vl}{s j:Nat}(h:j<V.bs.length):(zgv V s)[j]?=some (.tup ((za4 V s j).map Pd)):=by unfold zgv;rw [qo,List.getElem?_range h];rfl
def zbG:DSp:=fun ds S Q=>∃ (v x:D) (z:Str) (V:Vl) (s:Nat),ds=[v,x,.str z]/\VAt S v V/\zcN V/\zmO S x V/\zy0 V s z/\V.h1<=V.h0+23/\∀ (T:Sto) (k:Nat),zcu V s (za4 V s)->(S++T)[k]?=some (.lst (zgv V s))->S.length<=k->Q (.ref k) (S++T)
def zcO:DS :=
    (zG (zO (dCall zby (zm (zf 0) zA)) (zB 3))
 (zG (zO (zoL) (zB 4))
 (zG (za3 (zaN (zf 3)) (zB 5) (zie (zf 4) (zf 5) (dTup zA)))
 (zG (zie (zf 4) (zf 2) (dCall zdY (zm (zbK "first" (zf 0)) (zm (zbK "last" (zf 0)) zA))))
 (zG (zO (zcj (zm (zf 2) zA)) (zB 6))
 (zG (zfm (dT (dOp oGt (dB zbn (zm (zf 6) zA)) (dC (.int 0)))) (zG (zO (dM zo0 (zf 6) (zm (dC (.int 0)) zA)) (zB 7))
 (za3 (zaN (zf 3)) (zB 8) (zG (zO (dCall zbX (zm (zi7 (zf 4) (zf 8)) (zm (dCall zc3 (zm (zi7 (zf 4) (zf 7)) (zm (zi7 (zf 1) (dTup (zm (zf 7) (zm (zf 8) zA)))) zA))) zA))) (zB 9))
 (sIf (dT (dOp oNe (zf 9) (zi7 (zf 4) (zf 8)))) (zG (zie (zf 4) (zf 8) (zf 9))
 (zO (dOp zal (dLC 1 [8] (zaN (zf 6)) (zB 0) (dT (dOp oNe (zf 0) (zf 1))) (zf 0)) (zcj (zm (zf 8) zA))) (zB 6))) zag)))))
 (z9 (dLC 1 [4] (zaN (zf 3)) (zB 0) zcy (zi7 (zf 1) (zf 0))))))))))
theorem ziG:∀ ds So Q,zbG ds So Q->ds.length=3:=by rintro ds So Q ⟨_,_,_,_,_,rfl,_⟩;rfl
theorem zi0:BodyOk 10 zcO zbG:=by
 rintro ds S Q ⟨v,x,z,V,s,rfl,hv,ok,hx,hz,h23,q⟩
 unfold zcO
 have b12:=ok.b12
 have hd:=ok.dl
 obtain⟨m,g,b',f',rfl,hm,_⟩:=id hv
 obtain⟨xm,xk,rfl,hxm,hxe⟩:=hx
 obtain⟨zb,hzb,rfl⟩:=hz
 have hs:s<V.bs.length:=zab hzb
 have fl1:∀ b∈V.bs,fl 20 (.str b.1)=true:=fun b hb=>zjH (ok.nm b hb) 20
 rw [<- zp4 hzb]
 have fln:∀ {k:Nat},k<V.bs.length->fl 20 (.str (nmH V k))=true:=fun {k} hk=>by
  obtain⟨b,hb,e⟩:=zgr hk
  rw [e];exact fl1 b (qe hb)
 walk_at "g"
 refine⟨_,V,rfl,hv,by lia,?_⟩
 unfold New
 obtain⟨nl,hnl⟩:∃ nl,nl=(V.bs.map (·.1)).map D.str:=⟨_,rfl⟩
 have lnl:nl.length=V.bs.length:=by rw [hnl,qb,qb]
 have gnl:∀ {i:Nat} {d:D},nl[i]?=some d->i<V.bs.length/\d=.str (nmH V i):=fun {i d} h=>by
  have hi:i<V.bs.length:=by rw [<- lnl];exact zab h
  obtain⟨b,hb,e⟩:=zgr hi
  rw [hnl,qo,qo,hb] at h
  exact⟨hi,by rw [e];exact (qA h).symm⟩
 rw [<- hnl]
 walk_at "g"
 rw [show S++[Cell.lst nl]++[Cell.dk []]=S++Cell.lst nl::[Cell.dk []] by simp,show (S++[Cell.lst nl]).length=S.length+1 by simp]
 have k0:∀ T,Lst (S++Cell.lst nl::T) (.ref S.length) nl:=fun T=>Lst.at0
 have k1:∀ c T,(S++Cell.lst nl::c::T)[S.length+1]?=some c:=fun c T=>zbF _ _ 1
 have hmT:∀ T,(S++T)[m]?=some (.ins "Valley" (vF (.ref g) (.ref b') (.ref f') (zbL V.hz) (.int V.h0) (.int V.h1) (.int V.dl))):=fun T=>zaK hm
 have hxT:∀ T,(S++T)[xm]?=some (.dt xk):=fun T=>zaK hxm
 walk_at "g"
 walk_at "drho"
 refine zau (fun i Z S'=>∃ (kvs:List (Str×D)) (w:Option D),S'=S++Cell.lst nl::[Cell.dk kvs]/\kvs.length<=i/\(∀ k,k<i->dval kvs (nmH V k)=some (.tup []))/\Z=[some (.ref m),some (.ref xm),some (.str (nmH V s)),some (.ref S.length),some (.ref (S.length+1)),w,none,none,none,none]) ⟨[],none,rfl,qf _,fun k h=>absurd h (Nat.not_lt_zero _),rfl⟩ (fun i Z S' zq10=>by obtain⟨_,_,e,_⟩:=zq10;exact e▸k0 _) ?_ ?_
 ·rintro i d Z S' hd' ⟨kvs,w,rfl,hl,hk,rfl⟩
  obtain⟨li,rfl⟩:=gnl hd'
  walk_at "g"
  refine zeE.k (k1 _ _) (by unfold big;lia) (zjT ?_)
  refine⟨_,_,rfl,by have:=ziW kvs (nmH V i) (.tup []);lia,fun k h=>?_,rfl⟩
  rw [zjo]
  by_cases e:k=i
  ·rw [e,if_pos rfl]
  ·rw [if_neg (fun z=>e ((zkS ok (by lia) li).mp z.symm))];exact hk k (by lia)
 rintro Z S' ⟨kvs,w,rfl,hl,hk,rfl⟩
 rw [lnl] at hl hk
 have hV1:=hmT (Cell.lst nl::[Cell.dk kvs])
 walk_at "g"
 refine⟨_,_,rfl,fun ps ip ap _=>?_⟩
 walk_at "g"
 refine zeE.k (k1 _ _) (by unfold big;lia) (zjT ?_)
 have K0:ziY V (dput kvs (nmH V s) (.tup (ps.map Pd))) (zca (fun _=>[]) s ps):=ziY.put ok (fun k h=>hk k h) hs ps
 have L0:(dput kvs (nmH V s) (.tup (ps.map Pd))).length<=20:=by have:=ziW kvs (nmH V s) (.tup (ps.map Pd));lia
 have I0:HgI V s (fun _ _=>True) (zca (fun _=>[]) s ps) [s]:=HgI.start hs ip ap
 walk_at "drho"
 generalize dput kvs (nmH V s) (.tup (ps.map Pd))=kvs0 at K0 L0
 generalize zca (fun _=>[]) s ps=f0 at K0 I0
 walk_at "g"
 have gp:∀ {kvs:List (Str×D)} {G:Sto} {p:Nat} {c:Cell},G[p]?=some c->(S++Cell.lst nl::Cell.dk kvs::G)[S.length+(p+2)]?=some c:=fun {kvs G p c} h=>(zbF _ _ _).trans h
 refine zr5 (fun m' Z S'=>∃ (kvs:List (Str×D)) (f:Nat->List Pc) (chs:List Nat) (G:Sto) (p:Nat) (w5 w7 w8 w9:Option D),m'=zhM V f*20+chs.length/\S'=S++Cell.lst nl::Cell.dk kvs::G/\G[p]?=some (.lst (chs.map fun k=>.str (nmH V k)))/\ziY V kvs f/\kvs.length<=20/\HgI V s (fun _ _=>True) f chs/\Z=[some (.ref m),some (.ref xm),some (.str (nmH V s)),some (.ref S.length),some (.ref (S.length+1)),w5,some (.ref (S.length+(p+2))),w7,w8,w9]) _ ⟨kvs0,f0,[s],_,0,_,_,_,_,rfl,rfl,rfl,K0,L0,I0,rfl⟩ ?_
 rintro m' Z S' ⟨kvs,f,chs,G,p,w5,w7,w8,w9,rfl,rfl,hp,hK,hL,I,rfl⟩
 have hch:=gp (kvs:=kvs) hp
 have hch':=Lst.here hch
 walk_at "g"
 rw [qb]
 refine r_d (fun c0=>?_) (fun c0=>?_)
 ·obtain⟨a,rest,rfl⟩:∃ a rest,chs=a::rest:=by
   cases chs with
   | nil=>simp at c0
   | cons a r=>exact⟨a,r,rfl⟩
  have la:a<V.bs.length:=I.lt a (by simp)
  walk_at "g"
  refine zxk (xs:=rest.map fun k=>.str (nmH V k)) hch (zjT ?_)
  rw [show (Cell.lst nl::Cell.dk kvs::G).set (p+2) (Cell.lst (rest.map fun k=>D.str (nmH V k)))=Cell.lst nl::Cell.dk kvs::G.set p (Cell.lst (rest.map fun k=>D.str (nmH V k))) from rfl]
  have hpr:(G.set p (Cell.lst (rest.map fun k=>D.str (nmH V k))))[p]?=some (.lst (rest.map fun k=>.str (nmH V k))):=qL (zab hp)
  generalize G.set p (Cell.lst (rest.map fun k=>D.str (nmH V k)))=G0 at hpr
  have J0:HgI V s (fun k j=>k≠a\/j<0) f rest:=⟨I.hr,(List.nodup_cons.mp I.nd).2,fun c hc=>I.lt c (qh.mpr (.inr hc)),fun k j g l n=>I.cl k j True.intro l (fun z=>by
   rcases qh.mp z with z | z
   ·rcases g with g | g
    ·exact g z
    ·lia
   ·exact n z)⟩
  have k00:=k0 (Cell.dk kvs::G0)
  walk_at "g"
  walk_at "drho"
  refine zau (fun i Z S'=>∃ (kvs:List (Str×D)) (f':Nat->List Pc) (chs:List Nat) (G:Sto) (p:Nat) (w8 w9:Option D),zhM V f'*20+chs.length<zhM V f*20+(a::rest).length/\S'=S++Cell.lst nl::Cell.dk kvs::G/\G[p]?=some (.lst (chs.map fun k=>.str (nmH V k)))/\ziY V kvs f'/\kvs.length<=20/\HgI V s (fun k j=>k≠a\/j<i) f' chs/\Z=[some (.ref m),some (.ref xm),some (.str (nmH V s)),some (.ref S.length),some (.ref (S.length+1)),w5,some (.ref (S.length+(p+2))),some (.str (nmH V a)),w8,w9]) ⟨kvs,f,rest,G0,p,_,_,by rw [qP];lia,rfl,hpr,hK,hL,J0,rfl⟩ (fun i Z S' zq11=>by obtain⟨_,_,_,_,_,_,_,_,e,_⟩:=zq11;exact e▸k0 _) ?_ ?_
  ·clear hp hch hch' hK hL I J0 hpr k00
   rintro j d Z S' hd' ⟨kvs,f',chs,G,p,w8,w9,hm',rfl,hp,hK,hL,I,rfl⟩
   obtain⟨lj,rfl⟩:=gnl hd'
   have hV2:=hmT (Cell.lst nl::Cell.dk kvs::G)
   obtain⟨bn,hbn,ebn⟩:=zgr la
   obtain⟨cn,hcn,ecn⟩:=zgr lj
   obtain⟨ms,ps,hms,hps,hdv⟩:=hxe a j la lj bn cn hbn hcn
   rw [<- ebn,<- ecn] at hdv
   have sp:zdi V a j ps:=zfZ.stp ok hbn hcn hms hps.isR hps.len hps.led
   have lenp:=sp.len
   have fa:=I.hr.few h23 a
   have fj:=I.hr.few h23 j
   walk_at "g"
   refine⟨_,DGt.k (k1 _ _) (hK j lj),?_⟩
   walk_at "g"
   refine⟨_,DGt.k (k1 _ _) (hK a la),?_⟩
   walk_at "g"
   refine⟨_,DGt.t (ks:=[.inr (nmH V a),.inr (nmH V j)]) (hxT _) hdv,?_⟩
   walk_at "g"
   refine⟨f' a,ps,rfl,I.hr.isR a,sp.isR,by lia,by lia,fun pa h1 pq h2=>?_,fun c ic ec lc=>?_⟩
   ·have e1:=I.hr.dwn a pa h1
    have e2:=sp.dwn pq h2
    have:=I.hr.ge hd (znN (I.hr.isR a) h1)
    lia
   walk_at "g"
   have lc2:(f' a).length*ps.length<=24*28:=Nat.mul_le_mul fa lenp
   refine⟨f' j,c,rfl,I.hr.isR j,ic,by lia,by lia,zbt.heads (I.hr.dwn j) (I.hr.comp hd sp ic ec),fun r ir er _=>?_⟩
   have R:Rlx f' a j ps r:=Rlx.of ec ir er
   walk_at "g"
   refine⟨_,DGt.k (k1 _ _) (hK j lj),?_⟩
   refine zoB ?_
   walk_at "g"
   refine zjx (fun ne=>?_) (fun eq=>?_)
   ·have I':=HgI.put hd I lj sp R (G':=fun k i=>k≠a\/i<j+1) fun k i g l=>by lia
    have less:=R.less hd I.hr I'.hr lj ne
    have K':=hK.put ok lj r
    have L':(dput kvs (nmH V j) (.tup (r.map Pd))).length<=20:=by rw [zmy (hK j lj)];exact hL
    have l12:=zsJ I.nd I.lt
    walk_at "g"
    refine zeE.k (k1 _ _) (by unfold big;lia) (zjT ?_)
    rw [show (Cell.lst nl::Cell.dk kvs::G).set 1 (Cell.dk (dput kvs (nmH V j) (.tup (r.map Pd))))=Cell.lst nl::Cell.dk (dput kvs (nmH V j) (.tup (r.map Pd)))::G from rfl]
    generalize dput kvs (nmH V j) (.tup (r.map Pd))=kvs' at K' L'
    have hch:=gp (kvs:=kvs') hp
    have hch':=Lst.here hch
    walk_at "g"
    refine zbE (fun d=>!eqv d (.str (nmH V j))) id hch' (by rw [qb];unfold big;lia) (fun i d ys hd' hw=>?_) ?_
    ·obtain⟨c,hc,rfl⟩:∃ c,chs[i]?=some c/\d=.str (nmH V c):=by
      rw [qo] at hd'
      cases e:chs[i]? with
      | none=>rw [e] at hd';cases hd'
      | some b=>rw [e] at hd';exact⟨b,rfl,(qA hd').symm⟩
     have lc:=I.lt c (qe hc)
     walk_at "g"
     refine zui (b:=eqv (.str (nmH V c)) (.str (nmH V j))) (fln lc) (fln lj) rfl ?_
     cases e:eqv (.str (nmH V c)) (.str (nmH V j)) with
     | true =>
      walk_at "g"
      exact ztg hd' hw (by rw [e];rfl)
     | false =>
      walk_at "g"
      exact zdg hd' hw (by rw [e];rfl) rfl
    rw [zqL ok lj I.lt,List.map_id]
    have lf:(chs.filter fun c=>!decide (c=j)).length<=12:=Nat.le_trans (List.length_filter_le _ _) (by lia)
    generalize hA:(chs.filter fun c=>!decide (c=j))=A at I' lf
    unfold New
    walk_at "g"
    refine zw4 (xs:=A.map fun k=>D.str (nmH V k)) (ys:=[.str (nmH V j)]) (Lst.here ?_) (Lst.here ?_) (by rw [qb];unfold big;simp;lia) ?_
    ·exact zaF
    ·exact zbF _ _ 1
    unfold New
    walk_at "g"
    have lj2:(A++[j]).length<=13:=by rw [qg];simp;lia
    refine⟨kvs',zca f' j r,A++[j],G++[.lst (A.map fun k=>D.str (nmH V k)),.lst [.str (nmH V j)],.lst ((A.map fun k=>D.str (nmH V k))++[.str (nmH V j)])],G.length+2,some (.str (nmH V j)),some (.tup (r.map Pd)),?_,?_,?_,K',L',I',?_⟩
    ·have:zhM V (zca f' j r)<zhM V f':=less
     lia
    ·simp
    ·rw [qi (by lia),Nat.add_sub_cancel_left,qv];rfl
    ·rw [show (S++Cell.lst nl::Cell.dk kvs'::G++[Cell.lst (A.map fun k=>D.str (nmH V k)),Cell.lst [D.str (nmH V j)]]).length=S.length+(G.length+2+2) by simp];rfl
   ·subst eq
    walk_at "g"
    exact⟨kvs,f',chs,G,p,_,_,hm',rfl,hp,hK,hL,I.same hd sp R fun k i g l=>by lia,rfl⟩
  ·rintro Z S' ⟨kvs,f',chs,G,p,w8,w9,hm',rfl,hp,hK,hL,I,rfl⟩
   rw [lnl] at I
   exact⟨_,hm',kvs,f',chs,G,p,_,_,_,_,rfl,rfl,hp,hK,hL,I.weak fun k j _ l=>.inr l,rfl⟩
 ·have e0:chs=[]:=by
   cases chs with
   | nil=>rfl
   | cons a r=>simp at c0
  subst e0
  have k00:=k0 (Cell.dk kvs::G)
  walk_at "g"
  refine zbE (fun _=>true) (zw7 kvs) k00 (by unfold big;lia) (fun i d ys hd' hw=>?_) ?_
  ·obtain⟨lj,rfl⟩:=gnl hd'
   walk_at "g"
   refine⟨_,DGt.k (k1 _ _) (hK i lj),?_⟩
   exact zdg hd' hw rfl (by show _=(dval kvs (nmH V i)).getD .non;rw [hK i lj];rfl)
  rw [filter_true,show nl.map (zw7 kvs)=(List.range V.bs.length).map fun j=>.tup ((f j).map Pd) from List.ext_getElem? fun i=>by
   rw [qo,qo]
   by_cases hi:i<V.bs.length
   ·rw [List.getElem?_range hi]
    have e:=qc (l:=nl) (show i<nl.length by lia)
    rw [e,(gnl e).2]
    show some ((dval kvs (nmH V i)).getD .non)=_
    rw [hK i hi];rfl
   ·rw [qu (by lia),qu (by rw [List.length_range];lia)];rfl]
  unfold New
  refine fin_same ?_
  rw [qG]
  have O:zcu V s f:=⟨I.hr,fun k hk j x w u hj hkj h1 h2=>I.cl k j True.intro hj (by simp) x w u hkj h1 h2⟩
  have e:=zsL O
  subst e
  exact q _ _ O (by rw [<- qG];exact zaF) (by simp)
structure zfy (S:Sto)(lo k:Nat)(V:Vl)(rs:List Nat):Prop where
 at':S[k]?=some (.lst (rs.map D.ref))
 len:rs.length=V.bs.length
 row:∀ (s r:Nat),rs[s]?=some r->S[r]?=some (.lst (zgv V s))/\lo<=r
 nd:rs.Nodup
 lo:lo<=k
 nk:k∉rs
theorem zfy.old {S T:Sto}{lo k:Nat}{V:Vl}{rs:List Nat}(h:zfy S lo k V rs):zfy (S++T) lo k V rs:=⟨zaK h.at',h.len,fun s r e=>⟨zaK (h.row s r e).1,(h.row s r e).2⟩,h.nd,h.lo,h.nk⟩
def zdv:DSp:=fun ds S Q=>∃ (v:D) (V:Vl),ds=[v]/\VAt S v V/\zcN V/\V.h1<=V.h0+23/\∀ (T:Sto) (k:Nat) (rs:List Nat),zfy (S++T) S.length k V rs->(∀ s,s<V.bs.length->zcu V s (za4 V s))->Q (.ref k) (S++T)
def ze1:DS :=
    (zG (zO (dCall zdr (zm (zf 0) zA)) (zB 1))
 (z9 (dLC 1 [0,1] (zaN (dCall zby (zm (zf 0) zA))) (zB 0) zcy (dCall zbG (zm (zf 1) (zm (zf 2) (zm (zf 0) zA)))))))
theorem zm8:∀ ds So Q,zdv ds So Q->ds.length=1:=by rintro ds So Q ⟨_,_,rfl,_⟩;rfl
theorem zng:BodyOk 2 ze1 zdv:=by
 rintro ds S Q ⟨v,V,rfl,hv,ok,h23,q⟩
 unfold ze1
 have b12:=ok.b12
 walk_at "g"
 refine⟨_,V,rfl,hv,ok,fun T x hx=>?_⟩
 walk_at "g"
 refine⟨_,V,rfl,hv.old,by lia,?_⟩
 obtain⟨nl,hnl⟩:∃ nl,nl=(V.bs.map (·.1)).map D.str:=⟨_,rfl⟩
 have lnl:nl.length=V.bs.length:=by rw [hnl,qb,qb]
 have gnl:∀ {i:Nat} {d:D},nl[i]?=some d->∃ b,V.bs[i]?=some b/\d=.str b.1:=fun {i d} h=>by
  rw [hnl,qo,qo] at h
  cases e:V.bs[i]? with
  | none=>rw [e] at h;cases h
  | some b=>rw [e] at h;exact⟨b,rfl,(qA h).symm⟩
 rw [<- hnl]
 unfold New
 rw [qG]
 have k0:∀ G,Lst (S++(T++Cell.lst nl::G)) (.ref (S++T).length) nl:=fun G=>by rw [<- qG];exact Lst.at0
 have hvG:∀ G,VAt (S++(T++Cell.lst nl::G)) v V:=fun G=>hv.old
 have hxG:∀ G,zmO (S++(T++Cell.lst nl::G)) x V:=fun G=>by
  rw [<- qG]
  obtain⟨n,kvs,e,h1,h2⟩:=hx
  exact⟨n,kvs,e,zaK h1,h2⟩
 have k00:=k0 []
 walk_at "g"
 refine⟨by show nl.length<=big;unfold big;lia,fun i ys S'=>∃ (G:Sto) (rs:List Nat),S'=S++(T++Cell.lst nl::G)/\ys=rs.map D.ref/\rs.length=i/\rs.Nodup/\(∀ (s r:Nat),rs[s]?=some r->S'[r]?=some (.lst (zgv V s))/\S.length<=r)/\∀ s,s<i->zcu V s (za4 V s),⟨[],[],rfl,rfl,rfl,.nil,fun s r z=>(by cases z),fun s z=>absurd z (Nat.not_lt_zero _)⟩,fun i ys S' zq12=>by obtain⟨G,_,e,_⟩:=zq12;exact e▸k0 G,?_,?_⟩
 ·rintro i d ys S' hd ⟨G,rs,rfl,rfl,rfl,nd,hrow,hok⟩
  obtain⟨b,hb,rfl⟩:=gnl hd
  walk_at "g"
  refine⟨v,x,b.1,V,rs.length,rfl,hvG G,ok,hxG G,⟨b,hb,rfl⟩,h23,fun T' k H hk lk=>?_⟩
  have lt:∀ r∈rs,r<(S++(T++Cell.lst nl::G)).length:=fun r hr=>by
   obtain⟨s,hs,e⟩:=qR.mp hr
   exact zab (hrow s r (by rw [qc hs,e])).1
  refine⟨G++T',rs++[k],by simp,by rw [qv];rfl,by simp,?_,fun s r e=>?_,fun s hs=>?_⟩
  ·refine List.nodup_append.mpr ⟨nd,by simp,fun a ha c hc e=>?_⟩
   have:c=k:=by simpa using hc
   subst e this
   have:=lt _ ha
   lia
  ·by_cases e1:s<rs.length
   ·rw [qj e1] at e
    exact⟨zaK (hrow s r e).1,(hrow s r e).2⟩
   ·have e2:s=rs.length:=by have:=zab e;rw [qg] at this;simp at this;lia
    subst e2
    rw [qi (qf _),Nat.sub_self] at e
    cases e
    exact⟨hk,by rw [qg] at lk;lia⟩
  ·by_cases e1:s<rs.length
   ·exact hok s e1
   ·rw [show s=rs.length by lia];exact H
 ·rintro ys S' ⟨G,rs,rfl,rfl,lr,nd,hrow,hok⟩
  rw [lnl] at lr hok
  unfold New
  refine fin_same ?_
  rw [qG]
  refine q _ _ rs ⟨by rw [<- qG];exact zaF,lr,fun s r e=>⟨by rw [<- qG];exact zaK (hrow s r e).1,(hrow s r e).2⟩,nd,by simp,fun m=>?_⟩ hok
  obtain⟨s,hs,e⟩:=qR.mp m
  have:=zab (hrow s _ (by rw [qc hs,e])).1
  lia
def zc7:DSp:=fun ds S Q=>∃ (ps:List Pc) (h:Int),ds=[.tup (ps.map Pd),.int h]/\IsR ps/\Q (zbL (at' ps h)) S
def zfK:DS :=
    (zG (za3 (zaN (zf 0)) (zB 2) (sIf (dT (zhT oLe oLe (dOp oIx (zf 2) (dC (.int 0))) (zf 1) (dOp oIx (zf 2) (dC (.int 1))))) (z9 (dCall zbV (zm (zf 2) (zm (zf 1) zA)))) zag))
 (z9 (dC .non)))
theorem zni:∀ ds So Q,zc7 ds So Q->ds.length=2:=by rintro ds So Q ⟨_,_,rfl,_⟩;rfl
theorem zoU:BodyOk 3 zfK zc7:=by
 rintro ds S Q ⟨ps,h,rfl,hr,q⟩
 unfold zfK
 walk_at "g"
 refine zau (fun i Z S'=>∃ w,Z=[some (.tup (ps.map Pd)),some (.int h),w]/\S'=S/\at' (ps.take i) h=none) ⟨none,rfl,rfl,rfl⟩ (fun _ _ _ _=>True.intro) ?_ ?_
 ·rintro i d Z S' hd ⟨w,rfl,rfl,hn⟩
  obtain⟨p,hp,rfl⟩:=get_map hd
  have gp:=hr.good p (qe hp)
  have no:¬ inP p h->at' (ps.take (i+1)) h=none:=fun z=>by rw [zaC hp,zh2,hn,zaz,if_neg z];rfl
  walk_at "g"
  refine r_d (fun g=>?_) (fun g=>?_)
  ·walk_at "g"
   refine r_d (fun g1=>?_) (fun g1=>?_)
   ·walk_at "g"
    refine⟨p,h,rfl,gp.st,fin_same ?_⟩
    rw [znT hp hn ⟨g,g1⟩] at q;exact q
   ·walk_at "g"
    exact⟨_,rfl,rfl,no fun z=>g1 z.2⟩
  ·walk_at "g"
   exact⟨_,rfl,rfl,no fun z=>g z.1⟩
 ·rintro Z S' ⟨w,rfl,rfl,hn⟩
  rw [qb,List.take_length] at hn
  walk_at "g"
  refine fin_same ?_
  rw [hn] at q;exact q
theorem zfy.get {S:Sto}{lo k:Nat}{V:Vl}{rs:List Nat}(h:zfy S lo k V rs){a b:Nat}(ha:a<V.bs.length)(hb:b<V.bs.length):∃ r,Lst S (.ref k) (rs.map D.ref)/\atD (rs.map D.ref) (a:Int)=some (.ref r)/\Lst S (.ref r) (zgv V a)/\atD (zgv V a) (b:Int)=some (.tup ((za4 V a b).map Pd)):=by
 have e:=qc (l:=rs) (show a<rs.length by rw [h.len];exact ha)
 exact⟨_,Lst.here h.at',zfa (by rw [qo,e];rfl),Lst.here (h.row a _ e).1,zfa (zsb hb)⟩
theorem Hrg.beh {V:Vl}{s t:Nat}{f g:Nat->List Pc}(hd:0<=V.dl)(F:Hrg V s f)(G:Hrg V t g)(a b:Nat):∀ p∈(f a).head?,∀ q∈(g b).head?,q.lo<=p.to:=fun p hp q hq=>by
 have e1:=F.dwn a p hp
 have e2:=G.dwn b q hq
 have:=F.ge hd (znN (F.isR a) hp)
 lia
def zcd:DSp:=fun ds S Q=>∃ (k one two:Nat) (st:List Pc) (hour due:Int) (V:Vl) (rs:List Nat),ds=[.ref k,.int (one:Nat),.int (two:Nat),.tup (st.map Pd),.int hour,.int due]/\(∃ lo,zfy S lo k V rs)/\V.bs.length<=12/\V.h1<=V.h0+23/\0<=V.dl/\(∀ s,s<V.bs.length->zcu V s (za4 V s))/\one<V.bs.length/\two<V.bs.length/\IsR st/\(at' st hour=some due\/∃ m,m<V.bs.length/\m≠one/\m≠two/\comp (za4 V one m) (za4 V m two) hour=some due)/\Q (.bl true) S
def zdy:DS :=
    (zG (zO (zcj (zm (dCall zc7 (zm (zf 3) (zm (zf 4) zA))) zA)) (zB 6))
 (zG (za3 (zhe (zm (dB zbn (zm (zf 0) zA)) zA)) (zB 7) (sIf (zej (dT (dOp oNe (zf 7) (zf 1))) (dT (dOp oNe (zf 7) (zf 2)))) (zaq (dM zcM (zf 6) (zm (dCall zc7 (zm (dCall zc3 (zm (dOp oIx (dOp oIx (zf 0) (zf 1)) (zf 7)) (zm (dOp oIx (dOp oIx (zf 0) (zf 7)) (zf 2)) zA))) (zm (zf 4) zA))) zA))) zag))
 (z9 (dOp oIn (zf 5) (zf 6)))))
theorem zj7:∀ ds So Q,zcd ds So Q->ds.length=6:=by rintro ds So Q ⟨_,_,_,_,_,_,_,_,rfl,_⟩;rfl
theorem zkt:BodyOk 8 zdy zcd:=by
 rintro ds S Q ⟨k,one,two,st,hour,due,V,rs,rfl,⟨lo,hT⟩,b12,h23,hd,hok,l1,l2,ist,hcase,q⟩
 unfold zdy
 walk_at "g"
 refine⟨_,_,rfl,ist,?_⟩
 walk_at "g"
 have hTG:∀ T,zfy (S++T) lo k V rs:=fun T=>hT.old
 have kL:∀ T,Lst (S++T) (.ref k) (rs.map D.ref):=fun T=>Lst.here (hTG T).at'
 rw [show [zbL (at' st hour)]=zgB [at' st hour] from rfl]
 have kL0:=kL [Cell.lst (zgB [at' st hour])]
 walk_at "g"
 walk_at "drho"
 rw [qb,hT.len]
 refine⟨_,rfl,by lia,by lia,?_⟩
 refine zau (fun i Z S'=>∃ (os:List (Option Int)) (w7:Option D),S'=S++[Cell.lst (zgB os)]/\os.length<=i+1/\(∀ o,(o=at' st hour\/∃ m,m<i/\m≠one/\m≠two/\o=comp (za4 V one m) (za4 V m two) hour)->o∈os)/\Z=[some (.ref k),some (.int (one:Nat)),some (.int (two:Nat)),some (.tup (st.map Pd)),some (.int hour),some (.int due),some (.ref S.length),w7]) ⟨[at' st hour],_,rfl,qf _,fun o h=>?_,rfl⟩ (fun _ _ _ _=>True.intro) ?_ ?_
 ·rcases h with h | ⟨m,h,_⟩
  ·rw [h];simp
  ·lia
 ·rintro m d Z S' hd' ⟨os,w7,rfl,lo',hos,rfl⟩
  obtain⟨hm,rfl⟩:=zib hd'
  have lm:m<V.bs.length:=by lia
  rw [show (0+(m:Int))=(m:Int) by lia]
  obtain⟨r1,g1,g2,g3,g4⟩:=(hTG [Cell.lst (zgB os)]).get l1 lm
  obtain⟨r2,_,g5,g6,g7⟩:=(hTG [Cell.lst (zgB os)]).get lm l2
  have keep:(m=one\/m=two)->∀ o,(o=at' st hour\/∃ a,a<m+1/\a≠one/\a≠two/\o=comp (za4 V one a) (za4 V a two) hour)->o∈os:=fun hc o h=>hos o (h.imp id fun zq13=>by obtain⟨a,h1,h2,h3,h4⟩:=zq13;exact⟨a,by lia,h2,h3,h4⟩)
  walk_at "g"
  refine zjx (fun c1=>?_) (fun c1=>?_)
  ·walk_at "g"
   refine zjx (fun c2=>?_) (fun c2=>?_)
   ·walk_at "g"
    have F:=(hok one l1).1
    have G:=(hok m lm).1
    have f1:=F.few h23 m
    have f2:=G.few h23 two
    refine⟨_,_,rfl,F.isR m,G.isR two,by lia,by lia,F.beh hd G m two,fun c ic ec _=>?_⟩
    walk_at "g"
    refine⟨_,_,rfl,ic,?_⟩
    walk_at "g"
    refine⟨os++[at' c hour],_,by unfold zgB;rw [qv];rfl,by simp;lia,fun o h=>?_,rfl⟩
    rcases h with h | ⟨a,h1,h2,h3,h4⟩
    ·exact qF.mpr (.inl (hos o (.inl h)))
    ·by_cases e:a=m
     ·subst e
      exact qF.mpr (.inr (by rw [h4,<- ec];simp))
     ·exact qF.mpr (.inl (hos o (.inr ⟨a,by lia,h2,h3,h4⟩)))
   ·walk_at "g"
    exact⟨os,_,rfl,by lia,keep (.inr (by lia)),rfl⟩
  ·walk_at "g"
   exact⟨os,_,rfl,by lia,keep (.inl (by lia)),rfl⟩
 ·rintro Z S' ⟨os,w7,rfl,_,hos,rfl⟩
  rw [zf5] at hos
  walk_at "g"
  refine .inl ⟨_,⟨zgB os,.inr Lst.at0,rfl,zwC os,rfl⟩,?_⟩
  have mo:some due∈os:=hos _ (by
   rcases hcase with h | ⟨m,h1,h2,h3,h4⟩
   ·exact .inl h.symm
   ·exact .inr ⟨m,by lia,h2,h3,h4.symm⟩)
  rw [show ((zgB os).any fun z=>eqv z (.int due))=true from List.any_eq_true.mpr ⟨zbL (some due),List.mem_map.mpr ⟨_,mo,rfl⟩,by
   show eqv (zbL (some due)) (zbL (some due))=true
   rw [zue];exact decide_eq_true rfl⟩]
  exact zaA rfl q
theorem Lt.trans {see:Nat->Nat->Int->Prop}{dl:Int}{s k j:Nat}{x w v:Int}(a:Lt see dl s x k w)(b:Lt see dl k w j v):Lt see dl s x j v:=by
 induction b with
 | base=>exact a
 | step l hle hs ih=>exact .step ih hle hs
theorem zn6 {V:Vl}{k j:Nat}{u:Int}(h:zjl V k j u):V.h0<=u/\u<=V.h1/\k≠j:=⟨(zdI.mp h).1,(zdI.mp h).2.1,(zgV.mp (zdI.mp h).2.2).1⟩
theorem zcu.str {V:Vl}{a b:Nat}{f:Nat->List Pc}(H:zcu V a f){st:List Pc}(sp:zdi V a b st)(ne:a≠b){x v:Int}(e:at' st x=some v):∃ v',at' (f b) x=some v'/\v'<=v:=by
 have h0:=sp.from e
 rw [sp.led,if_pos h0,if_neg ne] at e
 cases hf:zcw (zbk V a b) x with
 | none=>rw [hf] at e;cases e
 | some u =>
  rw [hf] at e
  have ev:u+V.dl=v:=qA e
  obtain⟨m0,g0,_⟩:=zcr (zco V a b) hf
  have:=zn6 m0
  rw [<- ev]
  exact H.1.low H.2 h0 (by lia) (.step .base g0 m0)
theorem zcu.thr {V:Vl}{a m b:Nat}{f g:Nat->List Pc}(F:zcu V a f)(G:zcu V m g){x v:Int}(e:comp (f m) (g b) x=some v):∃ v',at' (f b) x=some v'/\v'<=v:=by
 unfold comp at e
 cases h:at' (f m) x with
 | none=>rw [h] at e;cases e
 | some w =>
  rw [h] at e
  have d:=F.1.dom m x w h
  exact F.1.low F.2 d.1 d.2 ((F.1.snd m x w h).trans (G.1.snd b w v e))
theorem zp2 {ps qs:List Pc}(h:∀ x v,at' qs x=some v->∃ v',at' ps x=some v'/\v'<=v)(x:Int):les ps qs x=at' ps x:=by
  unfold les
  cases e:at' qs x with
  | none=>cases at' ps x<;>rfl
  | some v =>
    obtain⟨v',h1,h2⟩:=h x v e
    rw [h1]
    show some (min v' v)=some v'
    rw [show min v' v=v' by lia]
theorem zcu.last {V:Vl}{a b:Nat}{f:Nat->List Pc}{g:Nat->Nat->List Pc}(hd:0<=V.dl)(F:zcu V a f)(G:∀ m,m<V.bs.length->zcu V m (g m)){st:List Pc}(sp:zdi V a b st)(ne:a≠b){x v:Int}(e:at' (f b) x=some v):at' st x=some v\/∃ m,m<V.bs.length/\m≠a/\m≠b/\comp (f m) (g m b) x=some v:=by
 have d:=F.1.dom b x v e
 have l:=F.1.snd b x v e
 cases l with
 | base=>exact absurd rfl ne
 | @step k _ w u l hle hs =>
  have r:=zn6 hs
  have lk:=(zn5 hs).1
  obtain⟨w',hw',le⟩:=F.1.low F.2 d.1 d.2 l
  by_cases ek:k=a
  ·subst ek
   have ex:w'=x:=by
    have:=F.1.st x d.1 d.2
    rw [hw'] at this;exact qA this
   subst ex
   refine .inl ?_
   cases hf:zcw (zbk V k b) w' with
   | none=>exact absurd (show w'<=u by lia) (zeM hf u hs)
   | some u' =>
    have hst:at' st w'=some (u'+V.dl):=by rw [sp.led,if_pos d.1,if_neg ne,hf];rfl
    obtain⟨_,_,least⟩:=zcr (zco V k b) hf
    have:=least u hs (by lia)
    obtain⟨v',h1,h2⟩:=F.str sp ne hst
    rw [e] at h1
    cases h1
    rw [hst,show u'+V.dl=u+V.dl by lia]
  ·refine .inr ⟨k,lk,ek,r.2.2,?_⟩
   have d':=F.1.dom k x w' hw'
   have hg:V.h0<=w':=by have:=F.1.ge hd hw';lia
   obtain⟨v',h1,h2⟩:=(G k lk).1.low (G k lk).2 hg (by lia) (.step .base (show w'<=u by lia) hs)
   have hc:comp (f k) (g k b) x=some v':=by unfold comp;rw [hw'];exact h1
   obtain⟨v2,h3,h4⟩:=F.thr (G k lk) hc
   rw [e] at h3
   cases h3
   rw [hc,show v'=u+V.dl by lia]
def zlP:DS :=
    (zG (zO (dCall zcU (zm (zf 0) zA)) (zB 1))
 (zG (zO (dCall zcJ (zm (zf 1) zA)) (zB 2))
 (zG (zO (dLC 1 [] (zaN (dOp oIx (zf 1) (dC (.int 1)))) (zB 0) zcy (dOp oIx (zf 0) (dC (.int 0)))) (zB 3))
 (zG (zO (dCall zdv (zm (zf 2) zA)) (zB 4))
 (zG (za3 (zg7 (zm (zf 3) zA)) (zbZ 2 (zah (zB 5) (zah (zB 6) zb3))) (za3 (zg7 (zm (zf 3) zA)) (zbZ 2 (zah (zB 7) (zah (zB 8) zb3))) (zG (zO (dCall zb4 (zm (zdp zeg xF (zm (zf 2) (zm (zf 6) (zm (zf 8) zA)))) (zm (zbK "delay" (zf 2)) (zm (zbK "first" (zf 2)) zA)))) (zB 9))
 (zG (sIf (zej (dT (dOp oNe (zf 5) (zf 7))) (dT (dOp oNe (dCall zbX (zm (dOp oIx (dOp oIx (zf 4) (zf 5)) (zf 7)) (zm (zf 9) zA))) (dOp oIx (dOp oIx (zf 4) (zf 5)) (zf 7))))) (z9 (dC (.bl false))) zag)
 (zG (za3 (zhe (zm (dB zbn (zm (zf 3) zA)) zA)) (zB 10) (sIf (dT (dOp oNe (dCall zbX (zm (dOp oIx (dOp oIx (zf 4) (zf 5)) (zf 7)) (zm (dCall zc3 (zm (dOp oIx (dOp oIx (zf 4) (zf 5)) (zf 10)) (zm (dOp oIx (dOp oIx (zf 4) (zf 10)) (zf 7)) zA))) zA))) (dOp oIx (dOp oIx (zf 4) (zf 5)) (zf 7)))) (z9 (dC (.bl false))) zag))
 (za3 (zaN (dOp oIx (dOp oIx (zf 4) (zf 5)) (zf 7))) (zbZ 4 (zah (zB 11) (zah (zB 12) (zah (zB 13) (zah (zB 14) zb3))))) (zG (zO (dOp zal (zf 13) (dOp zbo (zf 14) (dOp zap (zf 12) (zf 11)))) (zB 15))
 (sIf (zej (dT (dOp oNe (zf 5) (zf 7))) (zfi (dT (dCall zcd (zm (zf 4) (zm (zf 5) (zm (zf 7) (zm (zf 9) (zm (zf 12) (zm (zf 15) zA)))))))))) (z9 (dC (.bl false))) zag))))))))
 (z9 (dC (.bl true))))))))
theorem zvT:BodyOk 16 zlP zfu:=by
  rintro ds S Q ⟨ns,rfl,_,hl,q⟩
  unfold zlP
  walk_at "g"
  refine⟨ns,rfl,hl,fun T x y z V ok b2 b5 f6 h00 h05 h23 dl3 hs=>?_⟩
  generalize S++T=S1 at hs
  have hh:=ok.hh
  have hd:=ok.dl
  walk_at "g"
  refine⟨x,y,z,V,rfl,hs,ok,fun T v hv=>?_⟩
  have hs2:VlS (S1++T) x y z V:=hs.old
  generalize S1++T=S2 at hv hs2
  obtain⟨S3,e3⟩:∃ S3,S3=S2:=⟨_,rfl⟩
  rw [<- e3] at hv hs2 ⊢
  clear e3 hs
  have hv3:=hv
  obtain⟨hx,hy,hz⟩:=id hs2
  walk_at "g"
  refine zbE (fun _=>true) (zkm fun b=>.str b.1) hy (by rw [qb];unfold big;lia) (fun i d ys hd' hw=>?_) ?_
  . obtain⟨b,_,rfl⟩:=zgi hd'
    walk_at "g"
    exact zdg hd' hw rfl rfl
  rw [filter_true,zfs]
  unfold New
  obtain⟨nl,hnl⟩:∃ nl,nl=V.bs.map fun b=>D.str b.1:=⟨_,rfl⟩
  rw [<- hnl]
  have lnl:nl.length=V.bs.length:=by rw [hnl,qb]
  have fl1:∀ b∈V.bs,fl 20 (.str b.1)=true:=fun b hb=>zjH (ok.nm b hb) 20
  have gnl:∀ {i:Nat} {d:D},nl[i]?=some d->∃ b,V.bs[i]?=some b/\d=.str b.1:=fun {i d} h=>by
    rw [hnl,qo] at h
    cases e:V.bs[i]? with
    | none=>rw [e] at h;cases h
    | some b=>rw [e] at h;exact⟨b,rfl,(qA h).symm⟩
  have k0:∀ T,Lst (S3++Cell.lst nl::T) (.ref S3.length) nl:=fun T=>Lst.at0
  walk_at "g"
  refine⟨v,V,rfl,hv3.old,ok,h23,fun T k rs hT hok=>?_⟩
  have hv4:VAt (S3++[Cell.lst nl]++T) v V:=hv3.old.old
  have kn:Lst (S3++[Cell.lst nl]++T) (.ref S3.length) nl:=by rw [qG];exact k0 T
  generalize S3++[Cell.lst nl]++T=S4 at hT hv4 kn
  obtain⟨m,g,b',f',rfl,hm,_⟩:=id hv4
  walk_at "g"
  walk_at "drho"
  refine zma kn ?_
  refine zau (fun i Z S'=>∃ (w5 w6 w7 w8 w9 w10 w11 w12 w13 w14 w15:Option D),S4=S'/\Z=[some (.rl (ns.map D.int)),some (vlD x y z V),some (.ref m),some (.ref S3.length),some (.ref k),w5,w6,w7,w8,w9,w10,w11,w12,w13,w14,w15]) ⟨_,_,_,_,_,_,_,_,_,_,_,rfl,rfl⟩ (fun i Z S' zq14=>by obtain⟨_,_,_,_,_,_,_,_,_,_,_,e,_⟩:=zq14;exact e▸kn) ?_ ?_
  rotate_left
  . rintro Z S' ⟨w5,w6,w7,w8,w9,w10,w11,w12,w13,w14,w15,rfl,rfl⟩
    walk_at "g"
    exact fin_same (q _)
  rintro a d Z S' hda ⟨w5,w6,w7,w8,w9,w10,w11,w12,w13,w14,w15,rfl,rfl⟩
  obtain⟨y1,hy1,rfl⟩:=zcn hda
  obtain⟨ba,hba,rfl⟩:=gnl hy1
  have la:=zab hba
  rw [Nat.zero_add]
  walk_at "g"
  walk_at "drho2"
  refine zma kn ?_
  refine zau (fun i Z S'=>∃ (w7 w8 w9 w10 w11 w12 w13 w14 w15:Option D),S4=S'/\Z=[some (.rl (ns.map D.int)),some (vlD x y z V),some (.ref m),some (.ref S3.length),some (.ref k),some (.int (a:Nat)),some (.str ba.1),w7,w8,w9,w10,w11,w12,w13,w14,w15]) ⟨_,_,_,_,_,_,_,_,_,rfl,rfl⟩ (fun i Z S' zq15=>by obtain⟨_,_,_,_,_,_,_,_,_,e,_⟩:=zq15;exact e▸kn) ?_ ?_
  rotate_left
  . rintro Z S' ⟨w7,w8,w9,w10,w11,w12,w13,w14,w15,rfl,rfl⟩
    exact⟨_,_,_,_,_,_,_,_,_,_,_,rfl,rfl⟩
  rintro c d Z S' hdc ⟨w7,w8,w9,w10,w11,w12,w13,w14,w15,rfl,rfl⟩
  obtain⟨y2,hy2,rfl⟩:=zcn hdc
  obtain⟨bc,hbc,rfl⟩:=gnl hy2
  have lc:=zab hbc
  rw [Nat.zero_add]
  have mba:=qe hba
  have mbc:=qe hbc
  walk_at "g"
  refine⟨_,V,ba.1,bc.1,rfl,hv4,ok,fl1 ba mba,fl1 bc mbc,fun no=>?_,fun s t hs ht ms hms=>?_⟩
  . rcases no with no | no
    . exact (no ba mba rfl).elim
    . exact (no bc mbc rfl).elim
  have es:s=ba.2:=congrArg Prod.snd (zgc ok hs mba rfl)
  have et:t=bc.2:=congrArg Prod.snd (zgc ok ht mbc rfl)
  subst es et
  walk_at "g"
  refine⟨ms,_,_,rfl,zkG hms.ok,by have:=hms.len;lia,fun st hst=>?_⟩
  have sp:zdi V a c st:=zfZ.stp ok hba hbc hms hst.isR hst.len hst.led
  have lst:=sp.len
  have F:=hok a la
  have fac:=F.1.few h23 c
  obtain⟨r1,g1,g2,g3,g4⟩:=hT.get la lc
  have eqR:∀ r,IsR r->(∀ x,at' r x=at' (za4 V a c) x)->r=za4 V a c:=fun r ir h=>zeb ir (F.1.isR c) h
  have first:∀ K:Bool->Sto->Prop,K false S4->(zej (dT (dOp oNe (zf 5) (zf 7))) (dT (dOp oNe (dCall zbX (zm (dOp oIx (dOp oIx (zf 4) (zf 5)) (zf 7)) (zm (zf 9) zA))) (dOp oIx (dOp oIx (zf 4) (zf 5)) (zf 7))))) [some (.rl (ns.map D.int)),some (vlD x y z V),some (.ref m),some (.ref S3.length),some (.ref k),some (.int (a:Nat)),some (.str ba.1),some (.int (c:Nat)),some (.str bc.1),some (.tup (st.map Pd)),w10,w11,w12,w13,w14,w15] S4 K:=fun K hK=>by
    walk_at "g"
    refine zjx (fun ne=>?_) (fun _=>hK)
    walk_at "g"
    refine⟨_,_,rfl,F.1.isR c,sp.isR,by lia,by lia,zbt.heads (F.1.dwn c) sp.dwn,fun r ir er _=>?_⟩
    walk_at "g"
    have e:=eqR r ir fun x=>by rw [er];exact zp2 (fun x v h=>F.str sp (by lia) h) x
    subst e
    refine zoB ?_
    rw [decide_eq_true rfl]
    walk_at "g"
    exact hK
  walk_at "drho2"
  refine zom ?_
  walk_at "drho2"
  refine zlJ (zv4 (first _ ?_))
  walk_at "g"
  refine⟨_,rfl,by lia,by lia,?_⟩
  refine zau (fun i Z S'=>∃ (w10:Option D),S4=S'/\Z=[some (.rl (ns.map D.int)),some (vlD x y z V),some (.ref m),some (.ref S3.length),some (.ref k),some (.int (a:Nat)),some (.str ba.1),some (.int (c:Nat)),some (.str bc.1),some (.tup (st.map Pd)),w10,w11,w12,w13,w14,w15]) ⟨_,rfl,rfl⟩ (fun _ _ _ _=>True.intro) ?_ ?_
  . rintro j d Z S' hdj ⟨w10,rfl,rfl⟩
    obtain⟨hj,rfl⟩:=zib hdj
    have lj:j<V.bs.length:=by lia
    rw [show (0+(j:Int))=(j:Int) by lia]
    obtain⟨r2,_,g5,g6,g7⟩:=hT.get la lj
    obtain⟨r3,_,g8,g9,g10⟩:=hT.get lj lc
    have G:=hok j lj
    have f1:=F.1.few h23 j
    have f2:=G.1.few h23 c
    walk_at "g"
    refine⟨_,_,rfl,F.1.isR j,G.1.isR c,by lia,by lia,F.1.beh hd G.1 j c,fun cs ic ec lcs=>?_⟩
    have l3:(za4 V a j).length*(za4 V j c).length<=24*24:=Nat.mul_le_mul f1 f2
    have dc:zbt V.h0 cs:=by
      have cw:∀ x v,at' cs x=some v->∃ w,at' (za4 V a j) x=some w/\at' (za4 V j c) w=some v:=fun x v e=>by
        rw [ec] at e
        unfold comp at e
        cases h:at' (za4 V a j) x with
        | none=>rw [h] at e;cases e
        | some w=>rw [h] at e;exact⟨w,rfl,e⟩
      refine zbt.of ic (fun x v e=>?_) fun x v e=>?_
      . obtain⟨w,h1,_⟩:=cw x v e
        exact (F.1.dom j x w h1).1
      . obtain⟨w,h1,h2⟩:=cw x v e
        obtain⟨u,hu,le⟩:=(F.1.dwn j).at (F.1.isR j) h1 (qw _) (F.1.dom j x w h1).1
        obtain⟨v',hv',_⟩:=(G.1.dwn c).at (G.1.isR c) h2 (F.1.ge hd hu) le
        exact⟨v',by rw [ec];unfold comp;rw [hu];exact hv'⟩
    walk_at "g"
    refine⟨_,_,rfl,F.1.isR c,ic,by lia,by lia,zbt.heads (F.1.dwn c) dc,fun r ir er _=>?_⟩
    walk_at "g"
    have e:=eqR r ir fun x=>by rw [er];exact zp2 (fun x v h=>F.thr G (by rw [<- ec];exact h)) x
    subst e
    refine zoB ?_
    rw [decide_eq_true rfl]
    walk_at "g"
    exact⟨_,rfl,rfl⟩
  rintro Z S' ⟨w10,rfl,rfl⟩
  walk_at "g"
  refine zau (fun i Z S'=>∃ (w11 w12 w13 w14 w15:Option D),S4=S'/\Z=[some (.rl (ns.map D.int)),some (vlD x y z V),some (.ref m),some (.ref S3.length),some (.ref k),some (.int (a:Nat)),some (.str ba.1),some (.int (c:Nat)),some (.str bc.1),some (.tup (st.map Pd)),w10,w11,w12,w13,w14,w15]) ⟨_,_,_,_,_,rfl,rfl⟩ (fun _ _ _ _=>True.intro) ?_ ?_
  rotate_left
  . rintro Z S' ⟨w11,w12,w13,w14,w15,rfl,rfl⟩
    exact⟨_,_,_,_,_,_,_,_,_,rfl,rfl⟩
  rintro j d Z S' hdj ⟨w11,w12,w13,w14,w15,rfl,rfl⟩
  obtain⟨p,hp,rfl⟩:=get_map hdj
  have gp:=(F.1.isR c).good p (qe hp)
  have cm:zaL p.st (p.hi-p.lo):=.inr (.inl (by rcases gp.st with h | h<;>rw [h]<;>decide))
  have ap:=zbS (F.1.isR c) hp ⟨gp.le,qw _⟩
  walk_at "g"
  refine zjx (fun ne=>?_) (fun _=>?_)
  . walk_at "g"
    refine⟨k,a,c,st,p.hi,_,V,rs,rfl,⟨_,hT⟩,by lia,h23,hd,hok,la,lc,sp.isR,F.last hd hok sp (by lia) ap,?_⟩
    walk_at "g"
    exact⟨_,_,_,_,_,rfl,rfl⟩
  . walk_at "g"
    exact⟨_,_,_,_,_,rfl,rfl⟩
end Dp
namespace Law
open PySem PySem.Spec PyProof.Rows L2 My Dp
def top (i:Nat):Stmt:=PySem.Challenge.pw_beaconvale_k75_whole_no_third_helps.main.body.getD i (.Pass ⟨0,0,0,0⟩)
abbrev zeR:Stmt:=top 89
abbrev zfQ:Stmt:=top 90
abbrev zf3:Stmt:=top 91
abbrev zeT:Stmt:=top 92
abbrev zgX:Stmt:=top 93
abbrev zf1:Stmt:=top 94
abbrev zcE:Stmt:=top 59
abbrev zbO:Stmt:=inClass (top 60) 0
abbrev zcC:Stmt:=top 73
abbrev zhD:Stmt:=top 72
abbrev zc5:Stmt:=top 74
abbrev zmv:Stmt:=top 53
abbrev zkY:Stmt:=top 61
abbrev zdD:Stmt:=top 51
abbrev zgT:Stmt:=top 52
abbrev zfU:Stmt:=top 55
abbrev zf7:Stmt:=top 62
abbrev zjn:Stmt:=top 63
abbrev zdj:Stmt:=top 75
abbrev zhd:Stmt:=top 1
abbrev zjc:Stmt:=top 45
abbrev zdl:Stmt:=top 76
abbrev zcW:Stmt:=top 77
abbrev zbQ:Stmt:=inClass (top 78) 0
abbrev zfk:Stmt:=top 95
abbrev zgI:Stmt:=top 79
abbrev zhR:Stmt:=top 80
abbrev zci:Stmt:=top 64
abbrev zdm:Stmt:=top 65
abbrev zhJ:Stmt:=top 54
abbrev zi8:Stmt:=top 66
abbrev zdE:Stmt:=top 81
abbrev zdS:Stmt:=top 82
abbrev zkO:Stmt:=top 46
abbrev zhu:Stmt:=top 47
abbrev zm6:Stmt:=top 21
abbrev zkn:Stmt:=top 48
abbrev zf0:Stmt:=top 49
abbrev zmt:Stmt:=top 23
abbrev zmZ:Stmt:=top 22
abbrev zhG:Stmt:=top 24
abbrev zkC:Stmt:=top 83
abbrev zpA:Stmt:=top 7
abbrev zeh:Stmt:=top 9
abbrev ziV:Stmt:=top 8
abbrev zoo:Stmt:=top 10
abbrev zgH:Stmt:=top 11
abbrev zgL:Stmt:=top 85
abbrev zhF:Stmt:=top 12
abbrev zfh:Stmt:=top 18
abbrev zjd:Stmt:=top 19
abbrev zh5:Stmt:=top 14
abbrev zen:Stmt:=top 15
abbrev zfr:Stmt:=top 16
abbrev zhx:Stmt:=top 17
abbrev zd5:Stmt:=top 86
abbrev zgw:Stmt:=top 87
abbrev zhw:Stmt:=top 13
abbrev zeQ:Stmt:=top 96
abbrev ze5:Stmt:=top 97
section
variable {P:Program}{w:World}{K:W.Frag}{mg:Str->Option Value}{base:Heap}{f:Addr}{fd:FuncData}
variable (xr:mg "len"=none)
theorem zkL:zN ["script","k"] ["script","k"] (zH zeR):=zU
include xr in
theorem zkR (F:Fun K "_law_cell_at" "_law_cell_at" zeR f fd):zW P w K mg base CX0 1 f fd ["script","k"] (upF K Dp.zce):=by
  refine zR (b:=Dp.zdC) F zkL Dp.zjF Dp.zkT (fun cdv A outer s H E hr=>?_)
  unfold Dp.zdC
  exact (zp (zY (zP zbi (zj 1) (zak zaR xr boot_len (zc (zj 0) zq))) (zu (zM (zE (zj 0) (zj 1)))) zV)
 (zu (zM zy)))
variable (xce:Got P w K mg base 1 "_law_cell_at" ["script","k"] (upF K Dp.zce))
theorem zff:zN ["cell","k","big"] ["cell","k"] (zH zfQ):=zU
theorem zl6 (F:Fun K "_law_mixed" "_law_mixed" zfQ f fd):zW P w K mg base CX0 1 f fd ["cell","k"] (upF K Dp.zbJ):=by
  refine zR (b:=Dp.zes) F zff Dp.zls Dp.zlY (fun cdv A outer s H E hr=>?_)
  unfold Dp.zes
  exact (zp (zF (i:=2) zff.nd (zaJ (zaa (zas (zj 0) (zbj 1000000000000000000000000000000000000000000000000000000000000 (by decide +kernel) ⟨by decide,by decide,by decide⟩)) zy) (zaa zy (zaJ (zaJ zy (zj 1)) (zj 1)))))
 (zp (zF (i:=2) zff.nd (zaa (zj 2) (zaJ zy (zj 1))))
 (zu (zM (zas (zaJ (zj 2) (zj 2)) (zaa (zbj 1000000000000000000000000000000000000000000000000000000000000 (by decide +kernel) ⟨by decide,by decide,by decide⟩) zy))))))
variable (xau:Got P w K mg base 1 "_law_mixed" ["cell","k"] (upF K Dp.zbJ))
variable (xav:mg "range"=none)
variable (xaa:mg "enumerate"=none)
theorem zcY:zN ["cells","most","seeds","k","cell","at"] ["cells","most"] (zH zf3):=zU
include xau xav xaa in
theorem znb (F:Fun K "_law_seeds" "_law_seeds" zf3 f fd):zW P w K mg base CX0 2 f fd ["cells","most"] (upF K Dp.zcT):=by
  refine zR (b:=Dp.zeu) F zcY Dp.zlu Dp.zl9 (fun cdv A outer s H E hr=>?_)
  unfold Dp.zeu
  exact (zp (zgz (i:=2) zcY.nd (own:=["k"]) (free:=[]) (fv:=[]) True.intro True.intro (zkr xav (zc (zj 1) zq)) ⟨(zaj 0 (by decide)),fun _ _ _ _ _=>(zar (i:=0) (show List.Nodup (["k"]:List Str) by decide +kernel) rfl (Or.inl rfl) (Or.inr rfl))⟩ (fun _ _ _ _ _=>zbD) (fun _ _ _ _ _=>(zJ xau hr (zc (zj 0) (zc zy zq)))))
 (zp (zan (zc1 rfl xaa (zc (zj 0) zq)) (zcc (n:=2) rfl (zaf (zT (i:=3) zcY.nd) (zaf (zT (i:=4) zcY.nd) zcb))) (zp (zF (i:=5) zcY.nd (zas (zj 3) (zj 1)))
 (zu (zin (zJ xau hr (zc (zaa (zE (zj 2) (zj 5)) (zas (zj 4) (zbj 1000000000000000000000000000000000000000000000000000000000000 (by decide +kernel) ⟨by decide,by decide,by decide⟩))) (zc (zas (zj 3) zy) zq))) (zkU (zj 2) (zj 5))))))
 (zu (zM (zj 2)))))
variable (xdx:Got P w K mg base 2 "_law_seeds" ["cells","most"] (upF K Dp.zcT))
theorem zcf:zN ["seeds","told","k","seed","name"] ["seeds"] (zH zeT):=zU
include xaa in
theorem zkK (F:Fun K "_law_beacons" "_law_beacons" zeT f fd):zW P w K mg base CX0 1 f fd ["seeds"] (upF K Dp.zcl):=by
  refine zR (b:=Dp.zdz) F zcf Dp.zjW Dp.zkJ (fun cdv A outer s H E hr=>?_)
  unfold Dp.zdz
  exact (zp (zF (i:=1) zcf.nd (za5 zq))
 (zp (zan (zc1 rfl xaa (zc (zj 0) zq)) (zcc (n:=2) rfl (zaf (zT (i:=2) zcf.nd) (zaf (zT (i:=3) zcf.nd) zcb))) (zp (zF (i:=4) zcf.nd (zaa (zE zdq (zj 2)) (zE (za5 (zc zdq (zc zdq (zc zdq (zc zdq zq))))) (zas (zj 3) zy))))
 (zu (zad (zfT PySem.F.slot_list_append PySem.F.type_list_append zcp (zj 1) (zc (zac (zc (zj 4) (zc (zae (zas (zaQ (zj 3) zy) zy) zy) (zc (zas (zaQ (zj 3) zy) zy) zq)))) zq))))))
 (zu (zM (zj 1)))))
variable (xb8:Got P w K mg base 1 "_law_beacons" ["seeds"] (upF K Dp.zcl))
theorem zaY:zN ["seeds","first","last","told","seed","m","left","low","begin","end","drift","rise"] ["seeds","first","last"] (zH zgX):=zU
include xau in
theorem zny (F:Fun K "_law_fogs" "_law_fogs" zgX f fd):zW P w K mg base CX0 2 f fd ["seeds","first","last"] (upF K Dp.zds):=by
  refine zR (b:=Dp.ze3) F zaY Dp.zm7 Dp.znH (fun cdv A outer s H E hr=>?_)
  unfold Dp.ze3
  exact (zp (zF (i:=3) zaY.nd (za5 zq))
 (zp (zan (zam (zj 0)) (zT (i:=4) zaY.nd) (zp (zF (i:=5) zaY.nd (zJ xau hr (zc (zj 4) (zc zy zq))))
 (zu (zY (zP zcz (zas (zj 5) zy) zy) (zp (zF (i:=6) zaY.nd (zae (zas (zaQ (zj 5) zy) zy) zy))
 (zp (zF (i:=7) zaY.nd (zae (zas (zaQ (zj 5) zy) zy) zy))
 (zp (zF (i:=8) zaY.nd (zaa (zae (zj 1) zy) (zas (zaQ (zj 5) zy) (zaa (zae (zj 2) (zj 1)) zy))))
 (zp (zF (i:=9) zaY.nd (zaa (zj 8) (zas (zaQ (zj 5) (zbj 1000000000000000 (by decide +kernel) ⟨by decide,by decide,by decide⟩)) zy)))
 (zp (zF (i:=10) zaY.nd (zae (zas (zaQ (zj 5) (zbj 100000000000000000000 (by decide +kernel) ⟨by decide,by decide,by decide⟩)) zy) zy))
 (zp (zF (i:=11) zaY.nd (zae (zas (zaQ (zj 5) (zbj 10000000000000000000000000 (by decide +kernel) ⟨by decide,by decide,by decide⟩)) zy) zy))
 (zu (zad (zfT PySem.F.slot_list_append PySem.F.type_list_append zcp (zj 3) (zc (zac (zc (zj 6) (zc (zaa (zj 6) (zas (zaQ (zj 5) (zbj 1000000000000000000000000000000 (by decide +kernel) ⟨by decide,by decide,by decide⟩)) zy)) (zc (zj 7) (zc (zaa (zj 7) (zas (zaQ (zj 5) (zbj 100000000000000000000000000000000000 (by decide +kernel) ⟨by decide,by decide,by decide⟩)) zy)) (zc (zj 8) (zc (zj 9) (zc (zj 10) (zc (zj 11) zq))))))))) zq)))))))))) zV))))
 (zu (zM (zj 3)))))
variable (xef:Got P w K mg base 2 "_law_fogs" ["seeds","first","last"] (upF K Dp.zds))
theorem zaP:zN ["script","head","count","seeds","first","last","ground","haze","beacons","fogs"] ["script"] (zH zf1):=zU
include xce xdx xb8 xef in
theorem zmg (F:Fun K "_law_parts" "_law_parts" zf1 f fd):zW P w K mg base CX0 3 f fd ["script"] (upF K Dp.zcU):=by
  refine zR (b:=Dp.zew) F zaP Dp.zlD Dp.zmb (fun cdv A outer s H E hr=>?_)
  unfold Dp.zew
  exact (zp (zF (i:=1) zaP.nd (zas (zJ xce hr (zc (zj 0) (zc zy zq))) (zbj 1000000000000000000000000000000 (by decide +kernel) ⟨by decide,by decide,by decide⟩)))
 (zp (zF (i:=2) zaP.nd (zaa zy (zas (zj 1) zy)))
 (zp (zF (i:=3) zaP.nd (zJ xdx hr (zc (zlS (zj 0) (ziq zy) zia) (zc zy zq))))
 (zp (zF (i:=4) zaP.nd (zae (zas (zaQ (zj 1) zy) zy) zy))
 (zp (zF (i:=5) zaP.nd (zaa (zj 4) (zas (zaQ (zj 1) zy) zy)))
 (zp (zF (i:=6) zaP.nd (za5 (zc (zac (zc (za0 zy) (zc (za0 zy) zq))) (zc (zac (zc (zae (zas (zaQ (zj 1) (zbj 1000000 (by decide +kernel) ⟨by decide,by decide,by decide⟩)) zy) zy) (zc (zae (zas (zaQ (zj 1) (zbj 100000000 (by decide +kernel) ⟨by decide,by decide,by decide⟩)) zy) zy) zq))) (zc (zac (zc zy (zc (za0 zy) zq))) zq)))))
 (zp (zF (i:=7) zaP.nd (zE (za5 (zc zeH (zc (zaa zy (zas (zaQ (zj 1) (zbj 10000000000 (by decide +kernel) ⟨by decide,by decide,by decide⟩)) zy)) (zc zy zq)))) (zas (zaQ (zj 1) (zbj 10000000000000 (by decide +kernel) ⟨by decide,by decide,by decide⟩)) zy)))
 (zp (zgz (i:=8) zaP.nd (own:=["name","x","z"]) (free:=[]) (fv:=[]) True.intro True.intro (zam (zJ xb8 hr (zc (zlS (zj 3) zia (ziq (zj 2))) zq))) ⟨(zgy (zbd (zaj 0 (by decide)) (zbd (zaj 1 (by decide)) (zbd (zaj 2 (by decide)) zfH)))),fun _ _ _ _ _=>(zhZ (n:=3) rfl (zbH (zar (i:=0) (show List.Nodup (["name","x","z"]:List Str) by decide +kernel) rfl (Or.inl rfl) (Or.inr rfl)) (zbH (zar (i:=1) (show List.Nodup (["name","x","z"]:List Str) by decide +kernel) rfl (Or.inl rfl) (Or.inr rfl)) (zbH (zar (i:=2) (show List.Nodup (["name","x","z"]:List Str) by decide +kernel) rfl (Or.inl rfl) (Or.inr rfl)) zgj))))⟩ (fun _ _ _ _ _=>zbD) (fun _ _ _ _ _=>(zac (zc (zj 0) (zc (zj 1) (zc (zaa (zj 2) zy) zq))))))
 (zp (zF (i:=9) zaP.nd (zJ xef hr (zc (zj 3) (zc (zj 4) (zc (zj 5) zq)))))
 (zu (zM (zac (zc (zj 6) (zc (zj 8) (zc (zj 9) (zc (zj 7) (zc (zj 4) (zc (zj 5) (zc (zas (zaQ (zj 1) (zbj 1000000000000000 (by decide +kernel) ⟨by decide,by decide,by decide⟩)) zy) zq)))))))))))))))))))
variable (xd2:Got P w K mg base 3 "_law_parts" ["script"] (upF K Dp.zcU))
variable (xbr:∃ t,mg "LEAST_CORNERS"=some (.int 2 t))
variable (xbx:∃ t,mg "MOST_CORNERS"=some (.int 40 t))
theorem zdN:zN ["corners","k"] ["corners"] (zH zcE):=zU
include xr xav xbr xbx in
theorem zgl (F:Fun K "refuse_bad_corners" "refuse_bad_corners" zcE f fd):zW P w K mg base CX0 1 f fd ["corners"] (upF K Dp.zaU):=by
  refine zR (b:=Dp.zbu) F zdN Dp.zf8 Dp.zgn (fun cdv A outer s H E hr=>?_)
  unfold Dp.zbu
  exact (zp (zY (zbW (zhv (zP zbi (zak zaR xr boot_len (zc (zj 0) zq)) (zL rfl xbr)) (zgs (zP zcz (zak zaR xr boot_len (zc (zj 0) zq)) (zL rfl xbx))))) (zu zbf) zV)
 (zu (zan (zun xav (zc zy (zc (zak zaR xr boot_len (zc (zj 0) zq)) zq))) (zT (i:=1) zdN.nd) (zu (zY (zP zdx (zE (zE (zj 0) (zj 1)) zy) (zE (zE (zj 0) (zae (zj 1) zy)) zy)) (zu zbf) zV)))))
variable (xat:Got P w K mg base 1 "refuse_bad_corners" ["corners"] (upF K Dp.zaU))
variable (xba:∀ C,W.nsIn K mainGlobals "Ground"=some (some (.ref C))->zat K C "corners")
variable (xd4:mg "list"=none)
theorem zkD:zN ["self","corners"] ["self","corners"] (zH zbO):=zU
include xat xba xd4 in
theorem zkQ (F:Fun K "__init__" "Ground.__init__" zbO f fd):zW P w K mg base CX0 2 f fd ["self","corners"] (upF K Dp.zdb):=by
  refine zR (b:=Dp.zbP) F zkD Dp.zjA Dp.zkp (fun cdv A outer s H E hr=>?_)
  unfold Dp.zbP
  exact (zp (zad (zJ xat hr (zc (zj 1) zq)))
 (zu (zdP xba (zj 0) (zg0 zkA xd4 boot_list (zc (zj 1) zq)))))
variable (xci:zkF P w K mg base 2 "Ground" (upF K Dp.zfJ))
variable (xbz:∃ t,mg "MOST_BEACONS"=some (.int 12 t))
variable (xdz:∃ t,mg "MOST_FOGS"=some (.int 12 t))
theorem zga:zN ["beacons","fogs"] ["beacons","fogs"] (zH zcC):=zU
include xr xbz xdz in
theorem zgg (F:Fun K "refuse_bad_numbers" "refuse_bad_numbers" zcC f fd):zW P w K mg base CX0 1 f fd ["beacons","fogs"] (upF K Dp.zaW):=by
  refine zR (b:=Dp.zbw) F zga Dp.zf6 Dp.zgf (fun cdv A outer s H E hr=>?_)
  unfold Dp.zbw
  exact (zp (zY (zbW (zhv (zP zbi (zak zaR xr boot_len (zc (zj 0) zq)) zy) (zgs (zP zcz (zak zaR xr boot_len (zc (zj 0) zq)) (zL rfl xbz))))) (zu zbf) zV)
 (zu (zY (zP zcz (zak zaR xr boot_len (zc (zj 1) zq)) (zL rfl xdz)) (zu zbf) zV)))
variable (xas:Got P w K mg base 1 "refuse_bad_numbers" ["beacons","fogs"] (upF K Dp.zaW))
variable (xby:∃ t,mg "MOST_LETTERS"=some (.int 8 t))
variable (xe3:∃ t,mg "LETTERS"=some (.str "abcdefghijklmnopqrstuvwxyz" t))
variable (xa7:mg "all"=none)
theorem zpq:zN ["text"] ["text"] (zH zhD):=zU
include xr xby xe3 xa7 in
theorem zpm (F:Fun K "is_name" "is_name" zhD f fd):zW P w K mg base CX0 1 f fd ["text"] (upF K Dp.zd4):=by
  refine zR (b:=Dp.zfL) F zpq Dp.znJ Dp.zoC (fun cdv A outer s H E hr=>?_)
  unfold Dp.zfL
  exact (zp (zY (zbW (zhv (zP zbi (zak zaR xr boot_len (zc (zj 0) zq)) zy) (zgs (zP zcz (zak zaR xr boot_len (zc (zj 0) zq)) (zL rfl xby))))) (zu (zM zfD)) zV)
 (zu (zM (zak zhQ xa7 boot_all (zc (zdA (own:=["sign"]) (free:=[]) (fv:=[]) True.intro True.intro (zam (zj 0)) ⟨(zaj 0 (by decide)),fun _ _ _ _ _=>(zar (i:=0) (show List.Nodup (["sign"]:List Str) by decide +kernel) rfl (Or.inl rfl) (Or.inr rfl))⟩ (fun _ _ _ _ _=>zbD) (fun _ _ _ _ _=>(zn1 (zsY hr) (zj 0) (zuo rfl xe3)))) zq)))))
variable (xes:Got P w K mg base 1 "is_name" ["text"] (upF K Dp.zd4))
variable (xh9:mg "set"=none)
theorem zhi:zN ["names"] ["names"] (zH zc5):=zU
include xr xa7 xes xh9 in
theorem zhj (F:Fun K "refuse_bad_names" "refuse_bad_names" zc5 f fd):zW P w K mg base CX0 2 f fd ["names"] (upF K Dp.za6):=by
  refine zR (b:=Dp.zbU) F zhi Dp.zg6 Dp.zhk (fun cdv A outer s H E hr=>?_)
  unfold Dp.zbU
  exact (zp (zY (zde (zck (zak zhQ xa7 boot_all (zc (zdA (own:=["name"]) (free:=[]) (fv:=[]) True.intro True.intro (zam (zj 0)) ⟨(zaj 0 (by decide)),fun _ _ _ _ _=>(zar (i:=0) (show List.Nodup (["name"]:List Str) by decide +kernel) rfl (Or.inl rfl) (Or.inr rfl))⟩ (fun _ _ _ _ _=>zbD) (fun _ _ _ _ _=>(zJ xes hr (zc (zj 0) zq)))) zq)))) (zu zbf) zV)
 (zu (zY (zP zbi (ztL rfl xr rfl xh9 (zc (zj 0) zq)) (zak zaR xr boot_len (zc (zj 0) zq))) (zu zbf) zV)))
variable (xa3:Got P w K mg base 2 "refuse_bad_names" ["names"] (upF K Dp.za6))
theorem zuW:zN ["one","other"] ["one","other"] (zH zmv):=zU
theorem ztP (F:Fun K "less" "less" zmv f fd):zW P w K mg base CX0 1 f fd ["one","other"] (upF K Dp.zdK):=by
 refine zR (b:=Dp.zjV) F zuW Dp.zsm Dp.ztC (fun cdv A outer s H E hr=>?_)
 unfold Dp.zjV
 exact (zu (zM (zfj zbi (zaJ (zE (zj 0) zy) (zE (zj 1) zy)) (zaJ (zE (zj 1) zy) (zE (zj 0) zy)))))
variable (xbw:Got P w K mg base 1 "less" ["one","other"] (upF K Dp.zdK))
theorem zi9:zN ["ground","place","first","last"] ["ground","place"] (zH zkY):=zU
include xbw in
theorem zsv (F:Fun K "is_on" "is_on" zkY f fd):zW P w K mg base CX0 2 f fd ["ground","place"] (upF K Dp.zeq):=by
  refine zR (b:=Dp.zil) F zi9 Dp.zqe Dp.zsT (fun cdv A outer s H E hr=>?_)
  unfold Dp.zil
  exact (zp (zF (i:=2) zi9.nd (zac (zc (zE (zE (zaX (zj 0) rfl) zy) zy) (zc zy zq))))
 (zp (zF (i:=3) zi9.nd (zac (zc (zE (zE (zaX (zj 0) rfl) (za0 zy)) zy) (zc zy zq))))
 (zu (zM (ziA (ziz (zJ xbw hr (zc (zj 1) (zc (zj 2) zq)))) (zkh (ziz (zJ xbw hr (zc (zj 3) (zc (zj 1) zq))))))))))
variable (xdi:Got P w K mg base 2 "is_on" ["ground","place"] (upF K Dp.zeq))
variable (xia:mg "abs"=none)
theorem zb7:zN ["one","other","rest"] ["one","other"] (zH zdD):=zU
include xia in
theorem ziI (F:Fun K "common_divisor" "common_divisor" zdD f fd):zW P w K mg base CX0 1 f fd ["one","other"] (upF K Dp.zbr):=by
  refine zR (b:=Dp.zcx) F zb7 Dp.zh3 Dp.ziH (fun cdv A outer s H E hr=>?_)
  unfold Dp.zcx
  exact (zp (zfI (zP (zeG hr) (zj 1) zy) (zp (zF (i:=2) zb7.nd (zas (zj 0) (zj 1)))
 (zp (zF (i:=0) zb7.nd (zj 1))
 (zu (zF (i:=1) zb7.nd (zj 2))))))
 (zu (zM (zak zw3 xia boot_abs (zc (zj 0) zq)))))
variable (xbm:Got P w K mg base 1 "common_divisor" ["one","other"] (upF K Dp.zbr))
theorem zf2:zN ["top","bottom","divisor"] ["top","bottom"] (zH zgT):=zU
include xbm in
theorem znI (F:Fun K "fraction" "fraction" zgT f fd):zW P w K mg base CX0 2 f fd ["top","bottom"] (upF K Dp.zdo):=by
  refine zR (b:=Dp.zeW) F zf2 Dp.zmT Dp.znh (fun cdv A outer s H E hr=>?_)
  unfold Dp.zeW
  exact (zp (zF (i:=2) zf2.nd (zJ xbm hr (zc (zj 0) (zc (zj 1) zq))))
 (zp (zjG (zY (zP zbi (zj 1) zy) (zu (zF (i:=2) zf2.nd (za0 (zj 2)))) zV))
 (zu (zM (zac (zc (zaQ (zj 0) (zj 2)) (zc (zaQ (zj 1) (zj 2)) zq)))))))
variable (xem:Got P w K mg base 2 "fraction" ["top","bottom"] (upF K Dp.zdo))
theorem zdR:zN ["one","other","place","run","rise","top"] ["one","other","place"] (zH zfU):=zU
include xem in
theorem zm0 (F:Fun K "height_on" "height_on" zfU f fd):zW P w K mg base CX0 3 f fd ["one","other","place"] (upF K Dp.zcR):=by
  refine zR (b:=Dp.zet) F zdR Dp.zlG Dp.zmn (fun cdv A outer s H E hr=>?_)
  unfold Dp.zet
  exact (zp (zF (i:=3) zdR.nd (zae (zE (zj 1) zy) (zE (zj 0) zy)))
 (zp (zF (i:=4) zdR.nd (zae (zE (zj 1) zy) (zE (zj 0) zy)))
 (zp (zF (i:=5) zdR.nd (zaa (zaJ (zaJ (zE (zj 0) zy) (zj 3)) (zE (zj 2) zy)) (zaJ (zj 4) (zae (zE (zj 2) zy) (zaJ (zE (zj 0) zy) (zE (zj 2) zy))))))
 (zu (zM (zJ xem hr (zc (zj 5) (zc (zaJ (zj 3) (zE (zj 2) zy)) zq))))))))
variable (xdr:Got P w K mg base 3 "height_on" ["one","other","place"] (upF K Dp.zcR))
variable (xax:∀ C,W.nsIn K mainGlobals "OffGround"=some (some (.ref C))->ExC K C)
variable (xaw:∃ C,W.nsIn K mainGlobals "OffGround"=some (some (.ref C))/\mg "OffGround"=some (.ref C))
theorem zd7:zN ["ground","place","corners","k"] ["ground","place"] (zH zf7):=zU
include xbw xdi xdr xax xaw in
theorem zmx (F:Fun K "ground_at" "ground_at" zf7 f fd):zW P w K mg base (CXd P w) 4 f fd ["ground","place"] (zec K Dp.zc2):=by
  refine zfb (b:=Dp.zeA) F zd7 Dp.zlx Dp.zlW (fun cdv A outer s H E hr _ ex hX hM=>?_)
  unfold Dp.zeA
  exact (zp (zY (zde (zck (zJ xdi hr (zc (zj 0) (zc (zj 1) zq))))) (zu (zhK hM rfl xax xaw rfl (zc zdq zq) (fun _ _ _ h=>h _))) zV)
 (zp (zF (i:=2) zd7.nd (zaX (zj 0) rfl))
 (zp (zF (i:=3) zd7.nd zy)
 (zp (zfI (zck (zJ xbw hr (zc (zac (zc (zE (zE (zj 2) (zj 3)) zy) (zc zy zq))) (zc (zj 1) zq)))) (zu (zuX (i:=3) zd7.nd zy)))
 (zu (zM (zJ xdr hr (zc (zE (zj 2) (zae (zj 3) zy)) (zc (zE (zj 2) (zj 3)) (zc (zj 1) zq))))))))))
variable (xdw:zjb P w K mg base 4 "ground_at" ["ground","place"] (zec K Dp.zc2))
theorem zlb:zN ["ground","spot","place"] ["ground","spot"] (zH zjn):=zU
include xbw xdi xdw in
theorem zqF (F:Fun K "stands" "stands" zjn f fd):zW P w K mg base CX0 5 f fd ["ground","spot"] (upF K Dp.zdQ):=by
  refine zR (b:=Dp.zgO) F zlb Dp.zpj Dp.zqO (fun cdv A outer s H E hr=>?_)
  unfold Dp.zgO
  exact (zp (zF (i:=2) zlb.nd (zac (zc (zE (zj 1) zy) (zc zy zq))))
 (zp (zY (zde (zck (zJ xdi hr (zc (zj 0) (zc (zj 2) zq))))) (zu (zM zfD)) zV)
 (zu (zM (ziz (zJ xbw hr (zc (zac (zc (zE (zj 1) zy) (zc zy zq))) (zc (zcZ xdw zlO hr (zc (zj 0) (zc (zj 2) zq))) zq))))))))
variable (xcj:Got P w K mg base 5 "stands" ["ground","spot"] (upF K Dp.zdQ))
theorem zhX:zN ["ground","beacons"] ["ground","beacons"] (zH zdj):=zU
include xa7 xcj in
theorem zhA (F:Fun K "refuse_bad_tops" "refuse_bad_tops" zdj f fd):zW P w K mg base CX0 6 f fd ["ground","beacons"] (upF K Dp.zbg):=by
 refine zR (b:=Dp.zb6) F zhX Dp.zhn Dp.zhI (fun cdv A outer s H E hr=>?_)
 unfold Dp.zb6
 exact (zu (zY (zde (zck (zak zhQ xa7 boot_all (zc (zdA (own:=["name","x","z"]) (free:=["ground"]) (fv:=[0]) ⟨rfl,True.intro⟩ ⟨rfl,rfl,rfl,True.intro⟩ (zam (zj 1)) ⟨(zgy (zbd (zaj 0 (by decide)) (zbd (zaj 1 (by decide)) (zbd (zaj 2 (by decide)) zfH)))),fun _ _ _ _ _=>(zhZ (n:=3) rfl (zbH (zar (i:=0) (show List.Nodup (["name","x","z","ground"]:List Str) by decide +kernel) rfl (Or.inl rfl) (Or.inr rfl)) (zbH (zar (i:=1) (show List.Nodup (["name","x","z","ground"]:List Str) by decide +kernel) rfl (Or.inl rfl) (Or.inr rfl)) (zbH (zar (i:=2) (show List.Nodup (["name","x","z","ground"]:List Str) by decide +kernel) rfl (Or.inl rfl) (Or.inr rfl)) zgj))))⟩ (fun _ _ _ _ _=>zbD) (fun _ _ _ _ _=>(zJ xcj hr (zc (zj 3) (zc (zac (zc (zj 1) (zc (zj 2) zq))) zq))))) zq)))) (zu zbf) zV))
variable (xbd:Got P w K mg base 6 "refuse_bad_tops" ["ground","beacons"] (upF K Dp.zbg))
variable (xh7:mg "int"=none)
variable (xan:mg "isinstance"=none)
variable (xg7:mg "bool"=none)
theorem znf:zN ["value"] ["value"] (zH zhd):=zU
include xh7 xan xg7 in
theorem znE (F:Fun K "is_whole" "is_whole" zhd f fd):zW P w K mg base CX0 1 f fd ["value"] (upF K Dp.zdn):=by
 refine zR (b:=Dp.zeY) F znf Dp.zm4 Dp.znl (fun cdv A outer s H E hr=>?_)
 unfold Dp.zeY
 exact (zu (zM (ziA (zak zmh xan boot_isinstance (zc (zj 0) (zc (zo9 rfl xh7 boot_int) zq))) (zkh (ziz (zak zmh xan boot_isinstance (zc (zj 0) (zc (zo9 rfl xg7 boot_bool) zq))))))))
variable (xep:Got P w K mg base 1 "is_whole" ["value"] (upF K Dp.zdn))
variable (xew:∃ t,mg "NUMBERS"=some (.int 8 t))
variable (xbn:∃ t,mg "LEFT"=some (.int 0 t))
variable (xay:∃ t,mg "RIGHT"=some (.int 1 t))
variable (xae:∃ t,mg "LOW_fogs"=some (.int 2 t))
variable (xad:∃ t,mg "HIGH_fogs"=some (.int 3 t))
variable (xb5:∃ t,mg "FIRST"=some (.int 4 t))
variable (xeq:∃ t,mg "LAST"=some (.int 5 t))
variable (xak:mg "tuple"=none)
theorem zp7:zN ["value"] ["value"] (zH zjc):=zU
include xr xa7 xan xep xew xbn xay xae xad xb5 xeq xak in
theorem zpY (F:Fun K "is_fog" "is_fog" zjc f fd):zW P w K mg base CX0 2 f fd ["value"] (upF K Dp.zeN):=by
  refine zR (b:=Dp.zhf) F zp7 Dp.zps Dp.zqW (fun cdv A outer s H E hr=>?_)
  unfold Dp.zhf
  exact (zp (zY (zbW (zhv (zde (zck (zak zmh xan boot_isinstance (zc (zj 0) (zc (zo9 rfl xak boot_tuple) zq))))) (zgs (zP (zeG hr) (zak zaR xr boot_len (zc (zj 0) zq)) (zL rfl xew))))) (zu (zM zfD)) zV)
 (zp (zY (zde (zck (zak zhQ xa7 boot_all (zc (zdA (own:=["number"]) (free:=[]) (fv:=[]) True.intro True.intro (zam (zj 0)) ⟨(zaj 0 (by decide)),fun _ _ _ _ _=>(zar (i:=0) (show List.Nodup (["number"]:List Str) by decide +kernel) rfl (Or.inl rfl) (Or.inr rfl))⟩ (fun _ _ _ _ _=>zbD) (fun _ _ _ _ _=>(zJ xep hr (zc (zj 0) zq)))) zq)))) (zu (zM zfD)) zV)
 (zu (zM (ziA (zfj zdx (zE (zj 0) (zL rfl xbn)) (zE (zj 0) (zL rfl xay))) (ziA (zfj zdx (zE (zj 0) (zL rfl xae)) (zE (zj 0) (zL rfl xad))) (zkh (zfj zdx (zE (zj 0) (zL rfl xb5)) (zE (zj 0) (zL rfl xeq))))))))))
variable (xfp:Got P w K mg base 2 "is_fog" ["value"] (upF K Dp.zeN))
theorem zhH:zN ["fogs"] ["fogs"] (zH zdl):=zU
include xa7 xfp in
theorem zhq (F:Fun K "refuse_bad_fogs" "refuse_bad_fogs" zdl f fd):zW P w K mg base CX0 3 f fd ["fogs"] (upF K Dp.zbe):=by
 refine zR (b:=Dp.zb8) F zhH Dp.zho Dp.zh7 (fun cdv A outer s H E hr=>?_)
 unfold Dp.zb8
 exact (zu (zY (zde (zck (zak zhQ xa7 boot_all (zc (zdA (own:=["fog"]) (free:=[]) (fv:=[]) True.intro True.intro (zam (zj 0)) ⟨(zaj 0 (by decide)),fun _ _ _ _ _=>(zar (i:=0) (show List.Nodup (["fog"]:List Str) by decide +kernel) rfl (Or.inl rfl) (Or.inr rfl))⟩ (fun _ _ _ _ _=>zbD) (fun _ _ _ _ _=>(zJ xfp hr (zc (zj 0) zq)))) zq)))) (zu zbf) zV))
variable (xbb:Got P w K mg base 3 "refuse_bad_fogs" ["fogs"] (upF K Dp.zbe))
theorem zhp:zN ["haze","first","last","delay"] ["haze","first","last","delay"] (zH zcW):=zU
theorem zhh (F:Fun K "refuse_bad_hours" "refuse_bad_hours" zcW f fd):zW P w K mg base CX0 1 f fd ["haze","first","last","delay"] (upF K Dp.za7):=by
  refine zR (b:=Dp.zbR) F zhp Dp.zgG Dp.zhl (fun cdv A outer s H E hr=>?_)
  unfold Dp.zbR
  exact (zp (zY (zP zcz (zj 1) (zj 2)) (zu zbf) zV)
 (zp (zY (zP zbi (zj 3) zy) (zu zbf) zV)
 (zu (zY (zbW (zcL (zP zjR (zj 0) zeH) (zct (zP zbi (zj 0) zy)))) (zu zbf) zV))))
variable (xa0:Got P w K mg base 1 "refuse_bad_hours" ["haze","first","last","delay"] (upF K Dp.za7))
variable (xbl:∀ C,W.nsIn K mainGlobals "Valley"=some (some (.ref C))->zat K C "ground")
variable (xa6:∀ C,W.nsIn K mainGlobals "Valley"=some (some (.ref C))->zat K C "beacons")
variable (xb6:∀ C,W.nsIn K mainGlobals "Valley"=some (some (.ref C))->zat K C "fogs")
variable (xb3:∀ C,W.nsIn K mainGlobals "Valley"=some (some (.ref C))->zat K C "haze")
variable (xbq:∀ C,W.nsIn K mainGlobals "Valley"=some (some (.ref C))->zat K C "first")
variable (xb4:∀ C,W.nsIn K mainGlobals "Valley"=some (some (.ref C))->zat K C "last")
variable (xbt:∀ C,W.nsIn K mainGlobals "Valley"=some (some (.ref C))->zat K C "delay")
theorem zkI:zN ["self","ground","beacons","fogs","haze","first","last","delay"] ["self","ground","beacons","fogs","haze","first","last","delay"] (zH zbQ):=zU
include xd4 xci xas xa3 xbd xbb xa0 xbl xa6 xb6 xb3 xbq xb4 xbt in
theorem zk0 (F:Fun K "__init__" "Valley.__init__" zbQ f fd):zW P w K mg base CX0 7 f fd ["self","ground","beacons","fogs","haze","first","last","delay"] (upF K Dp.zdc):=by
  refine zR (b:=Dp.zbN) F zkI Dp.zjJ Dp.zku (fun cdv A outer s H E hr=>?_)
  unfold Dp.zbN
  exact (zp (zad (zJ xas hr (zc (zj 2) (zc (zj 3) zq))))
 (zp (zad (zJ xa3 hr (zc (zdA (own:=["beacon"]) (free:=[]) (fv:=[]) True.intro True.intro (zam (zj 2)) ⟨(zaj 0 (by decide)),fun _ _ _ _ _=>(zar (i:=0) (show List.Nodup (["beacon"]:List Str) by decide +kernel) rfl (Or.inl rfl) (Or.inr rfl))⟩ (fun _ _ _ _ _=>zbD) (fun _ _ _ _ _=>(zE (zj 0) zy))) zq)))
 (zp (zad (zJ xbd hr (zc (zj 1) (zc (zj 2) zq))))
 (zp (zad (zJ xbb hr (zc (zj 3) zq)))
 (zp (zad (zJ xa0 hr (zc (zj 4) (zc (zj 5) (zc (zj 6) (zc (zj 7) zq))))))
 (zp (zdP xbl (zj 0) (zms xci hr (zc (zaX (zj 1) rfl) zq)))
 (zp (zdP xa6 (zj 0) (zg0 zkA xd4 boot_list (zc (zj 2) zq)))
 (zp (zdP xb6 (zj 0) (zg0 zkA xd4 boot_list (zc (zj 3) zq)))
 (zp (zdP xb3 (zj 0) (zj 4))
 (zp (zdP xbq (zj 0) (zj 5))
 (zp (zdP xb4 (zj 0) (zj 6))
 (zu (zdP xbt (zj 0) (zj 7))))))))))))))
variable (xft:zkF P w K mg base 7 "Valley" (upF K Dp.zh4))
theorem za2:zN ["parts","ground","beacons","fogs","haze","first","last","delay"] ["parts"] (zH zfk):=zU
include xci xft in
theorem zlE (F:Fun K "_law_valley" "_law_valley" zfk f fd):zW P w K mg base CX0 9 f fd ["parts"] (upF K Dp.zcJ):=by
  refine zR (b:=Dp.zd6) F za2 Dp.zkV Dp.zlr (fun cdv A outer s H E hr=>?_)
  unfold Dp.zd6
  exact (zp (zin (zj 0) (zcc (n:=7) rfl (zaf (zT (i:=1) za2.nd) (zaf (zT (i:=2) za2.nd) (zaf (zT (i:=3) za2.nd) (zaf (zT (i:=4) za2.nd) (zaf (zT (i:=5) za2.nd) (zaf (zT (i:=6) za2.nd) (zaf (zT (i:=7) za2.nd) zcb)))))))))
 (zu (zM (zms xft hr (zc (zms xci hr (zc (zj 1) zq)) (zc (zj 2) (zc (zj 3) (zc (zj 4) (zc (zj 5) (zc (zj 6) (zc (zj 7) zq)))))))))))
variable (xco:Got P w K mg base 9 "_law_valley" ["parts"] (upF K Dp.zcJ))
theorem znD:zN ["valley"] ["valley"] (zH zgI):=zU
theorem zno (F:Fun K "names_of" "names_of" zgI f fd):zW P w K mg base CX0 1 f fd ["valley"] (upF K Dp.zby):=by
 refine zR (b:=Dp.zeZ) F znD Dp.zmf Dp.znx (fun cdv A outer s H E hr=>?_)
 unfold Dp.zeZ
 exact (zu (zM (zdA (own:=["beacon"]) (free:=[]) (fv:=[]) True.intro True.intro (zam (zaX (zj 0) rfl)) ⟨(zaj 0 (by decide)),fun _ _ _ _ _=>(zar (i:=0) (show List.Nodup (["beacon"]:List Str) by decide +kernel) rfl (Or.inl rfl) (Or.inr rfl))⟩ (fun _ _ _ _ _=>zbD) (fun _ _ _ _ _=>(zE (zj 0) zy)))))
variable (xaj:Got P w K mg base 1 "names_of" ["valley"] (upF K Dp.zby))
variable (xd0:∀ C,W.nsIn K mainGlobals "NoBeacon"=some (some (.ref C))->ExC K C)
variable (xdy:∃ C,W.nsIn K mainGlobals "NoBeacon"=some (some (.ref C))/\mg "NoBeacon"=some (.ref C))
theorem zjP:zN ["valley","name","beacon"] ["valley","name"] (zH zhR):=zU
include xd0 xdy in
theorem zoJ (F:Fun K "spot_of" "spot_of" zhR f fd):zW P w K mg base (CXd P w) 1 f fd ["valley","name"] (zec K Dp.zdh):=by
  refine zfb (b:=Dp.zfF) F zjP Dp.znC Dp.zpu (fun cdv A outer s H E hr _ ex hX hM=>?_)
  unfold Dp.zfF
  exact (zp (zan (zam (zaX (zj 0) rfl)) (zT (i:=2) zjP.nd) (zu (zY (zP (zc8 hr) (zE (zj 2) zy) (zj 1)) (zu (zM (zac (zc (zE (zj 2) zy) (zc (zE (zj 2) zy) zq))))) zV)))
 (zu (zhK hM rfl xd0 xdy rfl (zc zdq zq) (fun _ _ _ h=>h _))))
variable (xd5:zjb P w K mg base 1 "spot_of" ["valley","name"] (zec K Dp.zdh))
theorem zfW:zN ["ground","spot"] ["ground","spot"] (zH zci):=zU
include xax xaw xcj in
theorem zf4 (F:Fun K "refuse_not_standing" "refuse_not_standing" zci f fd):zW P w K mg base (CXd P w) 6 f fd ["ground","spot"] (zec K Dp.zax):=by
 refine zfb (b:=Dp.zbm) F zfW Dp.zfw Dp.zfR (fun cdv A outer s H E hr _ ex hX hM=>?_)
 unfold Dp.zbm
 exact (zu (zY (zde (zck (zJ xcj hr (zc (zj 0) (zc (zj 1) zq))))) (zu (zhK hM rfl xax xaw rfl (zc zdq zq) (fun _ _ _ h=>h _))) zV))
variable (xah:zjb P w K mg base 6 "refuse_not_standing" ["ground","spot"] (zec K Dp.zax))
variable (xai:mg "min"=none)
variable (xab:mg "max"=none)
theorem zcV:zN ["ground","x","other_x","low","high"] ["ground","x","other_x"] (zH zdm):=zU
include xaa xai xab in
theorem zhB (F:Fun K "numbers_between" "numbers_between" zdm f fd):zW P w K mg base CX0 1 f fd ["ground","x","other_x"] (upF K Dp.zbh):=by
  refine zR (b:=Dp.zb5) F zcV Dp.zhm Dp.zhr (fun cdv A outer s H E hr=>?_)
  unfold Dp.zb5
  exact (zp (zF (i:=3) zcV.nd (zak zdJ xai boot_min (zc (zj 1) (zc (zj 2) zq))))
 (zp (zF (i:=4) zcV.nd (zak zb9 xab boot_max (zc (zj 1) (zc (zj 2) zq))))
 (zu (zM (zdA (own:=["k","corner"]) (free:=["low","high"]) (fv:=[3,4]) ⟨rfl,rfl,True.intro⟩ ⟨rfl,rfl,rfl,rfl,rfl,rfl,True.intro⟩ (zc1 rfl xaa (zc (zaX (zj 0) rfl) zq)) ⟨(zgy (zbd (zaj 0 (by decide)) (zbd (zaj 1 (by decide)) zfH))),fun _ _ _ _ _=>(zhZ (n:=2) rfl (zbH (zar (i:=0) (show List.Nodup (["k","corner","low","high"]:List Str) by decide +kernel) rfl (Or.inl rfl) (Or.inr rfl)) (zbH (zar (i:=1) (show List.Nodup (["k","corner","low","high"]:List Str) by decide +kernel) rfl (Or.inl rfl) (Or.inr rfl)) zgj)))⟩ (fun _ _ _ _ _=>(zks (zk6 zbi zbi (zj 2) (zE (zj 1) zy) (zj 3)))) (fun _ _ _ _ _=>(zj 0)))))))
variable (xbe:Got P w K mg base 1 "numbers_between" ["ground","x","other_x"] (upF K Dp.zbh))
theorem zdX:zN ["one","other","spot","run","rise","over"] ["one","other","spot"] (zH zhJ):=zU
theorem zpd (F:Fun K "side_of" "side_of" zhJ f fd):zW P w K mg base CX0 1 f fd ["one","other","spot"] (upF K Dp.zd0):=by
  refine zR (b:=Dp.zfN) F zdX Dp.zne Dp.zor (fun cdv A outer s H E hr=>?_)
  unfold Dp.zfN
  exact (zp (zF (i:=3) zdX.nd (zae (zE (zj 1) zy) (zE (zj 0) zy)))
 (zp (zF (i:=4) zdX.nd (zae (zE (zj 1) zy) (zE (zj 0) zy)))
 (zp (zF (i:=5) zdX.nd (zae (zaJ (zae (zE (zj 2) zy) (zE (zj 0) zy)) (zj 3)) (zaJ (zae (zE (zj 2) zy) (zE (zj 0) zy)) (zj 4))))
 (zp (zjG (zY (zP zbi (zj 3) zy) (zu (zF (i:=5) zdX.nd (za0 (zj 5)))) zV))
 (zp (zY (zP zcz (zj 5) zy) (zu (zM zy)) zV)
 (zp (zY (zP zbi (zj 5) zy) (zu (zM (za0 zy))) zV)
 (zu (zM zy))))))))
variable (xe6:Got P w K mg base 1 "side_of" ["one","other","spot"] (upF K Dp.zd0))
theorem zle:zN ["ground","one","other","k"] ["ground","one","other"] (zH zi8):=zU
include xah xbe xe6 in
theorem zrm (F:Fun K "hinder" "hinder" zi8 f fd):zW P w K mg base (CXd P w) 7 f fd ["ground","one","other"] (zec K Dp.zeO):=by
  refine zfb (b:=Dp.zgA) F zle Dp.zpn Dp.zrk (fun cdv A outer s H E hr _ ex hX hM=>?_)
  unfold Dp.zgA
  exact (zp (zad (zcZ xah hX hr (zc (zj 0) (zc (zj 1) zq))))
 (zp (zad (zcZ xah hX hr (zc (zj 0) (zc (zj 2) zq))))
 (zp (zan (zam (zJ xbe hr (zc (zj 0) (zc (zE (zj 1) zy) (zc (zE (zj 2) zy) zq))))) (zT (i:=3) zle.nd) (zu (zY (zP zcz (zJ xe6 hr (zc (zj 1) (zc (zj 2) (zc (zE (zaX (zj 0) rfl) (zj 3)) zq)))) zy) (zu (zM (zj 3))) zV)))
 (zu (zM zeH)))))
variable (xfq:zjb P w K mg base 7 "hinder" ["ground","one","other"] (zec K Dp.zeO))
theorem zdk:zN ["one","other","run","climb"] ["one","other"] (zH zdE):=zU
theorem ziL (F:Fun K "square_between" "square_between" zdE f fd):zW P w K mg base CX0 1 f fd ["one","other"] (upF K Dp.zbq):=by
  refine zR (b:=Dp.zcv) F zdk Dp.zhU Dp.ziJ (fun cdv A outer s H E hr=>?_)
  unfold Dp.zcv
  exact (zp (zF (i:=2) zdk.nd (zae (zE (zj 1) zy) (zE (zj 0) zy)))
 (zp (zF (i:=3) zdk.nd (zae (zE (zj 1) zy) (zE (zj 0) zy)))
 (zu (zM (zaa (zaJ (zj 2) (zj 2)) (zaJ (zj 3) (zj 3)))))))
variable (xbi:Got P w K mg base 1 "square_between" ["one","other"] (upF K Dp.zbq))
theorem zdF:zN ["valley","one","other","corner","square"] ["valley","one","other"] (zH zdS):=zU
include xfq xbi in
theorem ziZ (F:Fun K "hidden_always" "hidden_always" zdS f fd):zW P w K mg base CX0 8 f fd ["valley","one","other"] (upF K Dp.zbI):=by
  refine zR (b:=Dp.zcP) F zdF Dp.ziK Dp.zi4 (fun cdv A outer s H E hr=>?_)
  unfold Dp.zcP
  exact (zp (zF (i:=3) zdF.nd (zcZ xfq zlO hr (zc (zaX (zj 0) rfl) (zc (zj 1) (zc (zj 2) zq)))))
 (zp (zY (zP zjR (zj 3) zeH) (zu (zM (zac (zc zdq (zc (zj 3) zq))))) zV)
 (zp (zF (i:=4) zdF.nd (zJ xbi hr (zc (zj 1) (zc (zj 2) zq))))
 (zp (zY (zbW (zcL (zP zjR (zaX (zj 0) rfl) zeH) (zct (zP zcz (zj 4) (zaX (zj 0) rfl))))) (zu (zM (zac (zc zdq (zc (zj 4) zq))))) zV)
 (zu (zM zeH))))))
variable (xbv:Got P w K mg base 8 "hidden_always" ["valley","one","other"] (upF K Dp.zbI))
variable (xf9:∃ t,mg "DRIFT"=some (.int 6 t))
variable (xgy:∃ t,mg "RISE"=some (.int 7 t))
theorem zjj:zN ["fog","hours","along","upwards"] ["fog","hours"] (zH zkO):=zU
include xbn xay xae xad xf9 xgy in
theorem zr6 (F:Fun K "moved" "moved" zkO f fd):zW P w K mg base CX0 1 f fd ["fog","hours"] (upF K Dp.zef):=by
  refine zR (b:=Dp.zis) F zjj Dp.zqA Dp.zrV (fun cdv A outer s H E hr=>?_)
  unfold Dp.zis
  exact (zp (zF (i:=2) zjj.nd (zaJ (zE (zj 0) (zL rfl xf9)) (zj 1)))
 (zp (zF (i:=3) zjj.nd (zaJ (zE (zj 0) (zL rfl xgy)) (zj 1)))
 (zu (zM (zac (zc (zaa (zE (zj 0) (zL rfl xbn)) (zj 2)) (zc (zaa (zE (zj 0) (zL rfl xay)) (zj 2)) (zc (zaa (zE (zj 0) (zL rfl xae)) (zj 3)) (zc (zaa (zE (zj 0) (zL rfl xad)) (zj 3)) zq)))))))))
variable (xfc:Got P w K mg base 1 "moved" ["fog","hours"] (upF K Dp.zef))
theorem zdU:zN ["box","one","other","run","climb","corners","across"] ["box","one","other"] (zH zhu):=zU
include xbn xay xae xad xai xab in
theorem zoH (F:Fun K "margins" "margins" zhu f fd):zW P w K mg base CX0 1 f fd ["box","one","other"] (upF K Dp.zdf):=by
  refine zR (b:=Dp.zfx) F zdU Dp.znz Dp.zo5 (fun cdv A outer s H E hr=>?_)
  unfold Dp.zfx
  exact (zp (zF (i:=3) zdU.nd (zae (zE (zj 2) zy) (zE (zj 1) zy)))
 (zp (zF (i:=4) zdU.nd (zae (zE (zj 2) zy) (zE (zj 1) zy)))
 (zp (zF (i:=5) zdU.nd (za5 (zc (zac (zc (zE (zj 0) (zL rfl xbn)) (zc (zE (zj 0) (zL rfl xae)) zq))) (zc (zac (zc (zE (zj 0) (zL rfl xbn)) (zc (zE (zj 0) (zL rfl xad)) zq))) (zc (zac (zc (zE (zj 0) (zL rfl xay)) (zc (zE (zj 0) (zL rfl xae)) zq))) (zc (zac (zc (zE (zj 0) (zL rfl xay)) (zc (zE (zj 0) (zL rfl xad)) zq))) zq))))))
 (zp (zgz (i:=6) zdU.nd (own:=["x","z"]) (free:=["run","one","climb"]) (fv:=[3,1,4]) ⟨rfl,rfl,rfl,True.intro⟩ ⟨rfl,rfl,rfl,rfl,rfl,rfl,rfl,rfl,rfl,True.intro⟩ (zam (zj 5)) ⟨(zgy (zbd (zaj 0 (by decide)) (zbd (zaj 1 (by decide)) zfH))),fun _ _ _ _ _=>(zhZ (n:=2) rfl (zbH (zar (i:=0) (show List.Nodup (["x","z","run","one","climb"]:List Str) by decide +kernel) rfl (Or.inl rfl) (Or.inr rfl)) (zbH (zar (i:=1) (show List.Nodup (["x","z","run","one","climb"]:List Str) by decide +kernel) rfl (Or.inl rfl) (Or.inr rfl)) zgj)))⟩ (fun _ _ _ _ _=>zbD) (fun _ _ _ _ _=>(zae (zaJ (zj 2) (zae (zj 1) (zE (zj 3) zy))) (zaJ (zj 4) (zae (zj 0) (zE (zj 3) zy))))))
 (zu (zM (za5 (zc (zae (zak zb9 xab boot_max (zc (zE (zj 1) zy) (zc (zE (zj 2) zy) zq))) (zE (zj 0) (zL rfl xbn))) (zc (zae (zE (zj 0) (zL rfl xay)) (zak zdJ xai boot_min (zc (zE (zj 1) zy) (zc (zE (zj 2) zy) zq)))) (zc (zae (zak zb9 xab boot_max (zc (zE (zj 1) zy) (zc (zE (zj 2) zy) zq))) (zE (zj 0) (zL rfl xae))) (zc (zae (zE (zj 0) (zL rfl xad)) (zak zdJ xai boot_min (zc (zE (zj 1) zy) (zc (zE (zj 2) zy) zq)))) (zc (zak ztU xab boot_max (zc (zj 6) zq)) (zc (za0 (zak zuw xai boot_min (zc (zj 6) zq))) zq)))))))))))))
variable (xd6:Got P w K mg base 1 "margins" ["box","one","other"] (upF K Dp.zdf))
variable (xfl:mg "sorted"=none)
theorem zid:zN ["pairs","found","low","high"] ["pairs"] (zH zm6):=zU
include xr xak xab xfl in
theorem zuh (F:Fun K "tidy" "tidy" zm6 f fd):zW P w K mg base CX0 1 f fd ["pairs"] (upF K Dp.zdM):=by
  refine zR (b:=Dp.zkf) F zid Dp.zsH Dp.zu0 (fun cdv A outer s H E hr=>?_)
  unfold Dp.zkf
  exact (zp (zF (i:=1) zid.nd (za5 zq))
 (zp (zan (zam (zak zuu xfl boot_sorted (zc (zdA (own:=["pair"]) (free:=[]) (fv:=[]) True.intro True.intro (zam (zj 0)) ⟨(zaj 0 (by decide)),fun _ _ _ _ _=>(zar (i:=0) (show List.Nodup (["pair"]:List Str) by decide +kernel) rfl (Or.inl rfl) (Or.inr rfl))⟩ (fun _ _ _ _ _=>(zks (zP zdx (zE (zj 0) zy) (zE (zj 0) zy)))) (fun _ _ _ _ _=>(zac (zc (zE (zj 0) zy) (zc (zE (zj 0) zy) zq))))) zq))) (zcc (n:=2) rfl (zaf (zT (i:=2) zid.nd) (zaf (zT (i:=3) zid.nd) zcb))) (zu (zY (zbW (zcL (zP zcz (zak zaR xr boot_len (zc (zj 1) zq)) zy) (zct (zP zdx (zj 2) (zaa (zE (zE (zj 1) (za0 zy)) zy) zy))))) (zu (zin (zac (zc (zE (zE (zj 1) (za0 zy)) zy) (zc (zak zb9 xab boot_max (zc (zE (zE (zj 1) (za0 zy)) zy) (zc (zj 3) zq))) zq))) (zkU (zj 1) (za0 zy)))) (zu (zad (zfT PySem.F.slot_list_append PySem.F.type_list_append zcp (zj 1) (zc (zac (zc (zj 2) (zc (zj 3) zq))) zq)))))))
 (zu (zM (zg0 zgU xak boot_tuple (zc (zj 1) zq))))))
variable (xbg:Got P w K mg base 1 "tidy" ["pairs"] (upF K Dp.zdM))
variable (xh6:mg "zip"=none)
theorem zbY:zN ["fog","one","other","low","high","starts","afters","start","after","step"] ["fog","one","other"] (zH zkn):=zU
include xb5 xeq xai xab xfc xd6 xbg xh6 in
theorem zsC (F:Fun K "foggy" "foggy" zkn f fd):zW P w K mg base CX0 2 f fd ["fog","one","other"] (upF K Dp.zfc):=by
  refine zR (b:=Dp.zig) F zbY Dp.zro Dp.zr0 (fun cdv A outer s H E hr=>?_)
  unfold Dp.zig
  exact (zp (zF (i:=3) zbY.nd zy)
 (zp (zF (i:=4) zbY.nd (zae (zE (zj 0) (zL rfl xeq)) (zE (zj 0) (zL rfl xb5))))
 (zp (zF (i:=5) zbY.nd (zJ xd6 hr (zc (zJ xfc hr (zc (zj 0) (zc zy zq))) (zc (zj 1) (zc (zj 2) zq)))))
 (zp (zF (i:=6) zbY.nd (zJ xd6 hr (zc (zJ xfc hr (zc (zj 0) (zc zy zq))) (zc (zj 1) (zc (zj 2) zq)))))
 (zp (zan (zvV rfl xh6 (zc (zj 5) (zc (zj 6) zq))) (zcc (n:=2) rfl (zaf (zT (i:=7) zbY.nd) (zaf (zT (i:=8) zbY.nd) zcb))) (zp (zF (i:=9) zbY.nd (zae (zj 8) (zj 7)))
 (zu (zY (zP zcz (zj 9) zy) (zu (zF (i:=3) zbY.nd (zak zb9 xab boot_max (zc (zj 3) (zc (za0 (zaQ (zj 7) (zj 9))) zq))))) (zu (zY (zP zbi (zj 9) zy) (zu (zF (i:=4) zbY.nd (zak zdJ xai boot_min (zc (zj 4) (zc (zaQ (zj 7) (za0 (zj 9))) zq))))) (zu (zY (zP zbi (zj 7) zy) (zu (zM (zac zq))) zV))))))))
 (zu (zM (zJ xbg hr (zc (za5 (zc (zac (zc (zaa (zE (zj 0) (zL rfl xb5)) (zj 3)) (zc (zaa (zE (zj 0) (zL rfl xb5)) (zj 4)) zq))) zq)) zq)))))))))
variable (xgb:Got P w K mg base 2 "foggy" ["fog","one","other"] (upF K Dp.zfc))
theorem zfo:zN ["fogs","one","other","found","fog"] ["fogs","one","other"] (zH zf0):=zU
include xbg xgb in
theorem zmP (F:Fun K "foggy_all" "foggy_all" zf0 f fd):zW P w K mg base CX0 3 f fd ["fogs","one","other"] (upF K Dp.zc0):=by
  refine zR (b:=Dp.zez) F zfo Dp.zlt Dp.zl2 (fun cdv A outer s H E hr=>?_)
  unfold Dp.zez
  exact (zp (zF (i:=3) zfo.nd (za5 zq))
 (zp (zan (zam (zj 0)) (zT (i:=4) zfo.nd) (zu (zad (zfT PySem.F.slot_list_extend PySem.F.type_list_extend zoT (zj 3) (zc (zJ xgb hr (zc (zj 4) (zc (zj 1) (zc (zj 2) zq)))) zq)))))
 (zu (zM (zJ xbg hr (zc (zj 3) zq))))))
variable (xds:Got P w K mg base 3 "foggy_all" ["fogs","one","other"] (upF K Dp.zc0))
theorem zgm:zN ["spans","low","high","found","start","span"] ["spans","low","high"] (zH zmt):=zU
include xbg in
theorem zua (F:Fun K "gaps" "gaps" zmt f fd):zW P w K mg base CX0 2 f fd ["spans","low","high"] (upF K Dp.zgb):=by
  refine zR (b:=Dp.zke) F zgm Dp.zsa Dp.ztJ (fun cdv A outer s H E hr=>?_)
  unfold Dp.zke
  exact (zp (zF (i:=3) zgm.nd (za5 zq))
 (zp (zF (i:=4) zgm.nd (zj 1))
 (zp (zan (zam (zj 0)) (zT (i:=5) zgm.nd) (zp (zad (zfT PySem.F.slot_list_append PySem.F.type_list_append zcp (zj 3) (zc (zac (zc (zj 4) (zc (zae (zE (zj 5) zy) zy) zq))) zq)))
 (zu (zF (i:=4) zgm.nd (zaa (zE (zj 5) zy) zy)))))
 (zp (zad (zfT PySem.F.slot_list_append PySem.F.type_list_append zcp (zj 3) (zc (zac (zc (zj 4) (zc (zj 2) zq))) zq)))
 (zu (zM (zJ xbg hr (zc (zj 3) zq))))))))
variable (xgs:Got P w K mg base 2 "gaps" ["spans","low","high"] (upF K Dp.zgb))
theorem ze9:zN ["one","other","found","low","high","other_low","other_high"] ["one","other"] (zH zmZ):=zU
include xai xab xbg in
theorem zuT (F:Fun K "both" "both" zmZ f fd):zW P w K mg base CX0 2 f fd ["one","other"] (upF K Dp.zgp):=by
  refine zR (b:=Dp.zjI) F ze9 Dp.zsP Dp.ztM (fun cdv A outer s H E hr=>?_)
  unfold Dp.zjI
  exact (zp (zF (i:=2) ze9.nd (za5 zq))
 (zp (zan (zam (zj 0)) (zcc (n:=2) rfl (zaf (zT (i:=3) ze9.nd) (zaf (zT (i:=4) ze9.nd) zcb))) (zu (zan (zam (zj 1)) (zcc (n:=2) rfl (zaf (zT (i:=5) ze9.nd) (zaf (zT (i:=6) ze9.nd) zcb))) (zu (zad (zfT PySem.F.slot_list_append PySem.F.type_list_append zcp (zj 2) (zc (zac (zc (zak zb9 xab boot_max (zc (zj 3) (zc (zj 5) zq))) (zc (zak zdJ xai boot_min (zc (zj 4) (zc (zj 6) zq))) zq))) zq)))))))
 (zu (zM (zJ xbg hr (zc (zj 2) zq))))))
variable (xg4:Got P w K mg base 2 "both" ["one","other"] (upF K Dp.zgp))
theorem zpa:zN ["one","other"] ["one","other"] (zH zhG):=zU
include xr xgs xg4 in
theorem zph (F:Fun K "without" "without" zhG f fd):zW P w K mg base CX0 3 f fd ["one","other"] (upF K Dp.zdV):=by
  refine zR (b:=Dp.zfB) F zpa Dp.znt Dp.zox (fun cdv A outer s H E hr=>?_)
  unfold Dp.zfB
  exact (zp (zY (zP (zc8 hr) (zak zaR xr boot_len (zc (zj 0) zq)) zy) (zu (zM (zac zq))) zV)
 (zu (zM (zJ xg4 hr (zc (zj 0) (zc (zJ xgs hr (zc (zj 1) (zc (zE (zE (zj 0) zy) zy) (zc (zE (zE (zj 0) (za0 zy)) zy) zq)))) zq))))))
variable (xe5:Got P w K mg base 3 "without" ["one","other"] (upF K Dp.zdV))
theorem zg8:zN ["valley","name","other","one_top","other_top","hours"] ["valley","name","other"] (zH zkC):=zU
include xd5 xbv xds xe5 in
theorem zsI (F:Fun K "sight" "sight" zkC f fd):zW P w K mg base (CXd P w) 9 f fd ["valley","name","other"] (zec K Dp.zeg):=by
  refine zfb (b:=Dp.ziE) F zg8 Dp.zpX Dp.zsD (fun cdv A outer s H E hr _ ex hX hM=>?_)
  unfold Dp.ziE
  exact (zp (zF (i:=3) zg8.nd (zcZ xd5 hX hr (zc (zj 0) (zc (zj 1) zq))))
 (zp (zF (i:=4) zg8.nd (zcZ xd5 hX hr (zc (zj 0) (zc (zj 2) zq))))
 (zp (zF (i:=5) zg8.nd (zac (zc (zac (zc (zaX (zj 0) rfl) (zc (zaX (zj 0) rfl) zq))) zq)))
 (zp (zY (zP (zc8 hr) (zj 1) (zj 2)) (zu (zM (zj 5))) zV)
 (zp (zY (zP zjR (zJ xbv hr (zc (zj 0) (zc (zj 3) (zc (zj 4) zq)))) zeH) (zu (zM (zac zq))) zV)
 (zu (zM (zJ xe5 hr (zc (zj 5) (zc (zJ xds hr (zc (zaX (zj 0) rfl) (zc (zj 3) (zc (zj 4) zq)))) zq))))))))))
variable (xcv:zjb P w K mg base 9 "sight" ["valley","name","other"] (zec K Dp.zeg))
variable (xch:∃ t,mg "TO"=some (.int 2 t))
variable (xao:∃ t,mg "STEP"=some (.int 3 t))
variable (xq:∃ t,mg "LOW_reaches"=some (.int 0 t))
theorem zwy:zN ["piece","hour"] ["piece","hour"] (zH zpA):=zU
include xch xao xq in
theorem zvB (F:Fun K "led" "led" zpA f fd):zW P w K mg base CX0 1 f fd ["piece","hour"] (upF K Dp.zbV):=by
 refine zR (b:=Dp.zlH) F zwy Dp.zup Dp.zwP (fun cdv A outer s H E hr=>?_)
 unfold Dp.zlH
 exact (zu (zM (zaa (zE (zj 0) (zL rfl xch)) (zaJ (zE (zj 0) (zL rfl xao)) (zae (zj 1) (zE (zj 0) (zL rfl xq)))))))
variable (xag:Got P w K mg base 1 "led" ["piece","hour"] (upF K Dp.zbV))
variable (xg:∃ t,mg "HIGH_reaches"=some (.int 1 t))
theorem zj4:zN ["piece","to"] ["piece","to"] (zH zeh):=zU
include xch xq xag xg in
theorem zkg (F:Fun K "can_be_drawn" "can_be_drawn" zeh f fd):zW P w K mg base CX0 2 f fd ["piece","to"] (upF K Dp.zbT):=by
  refine zR (b:=Dp.zc9) F zj4 Dp.zjw Dp.zjY (fun cdv A outer s H E hr=>?_)
  unfold Dp.zc9
  exact (zp (zY (zP (zc8 hr) (zE (zj 0) (zL rfl xq)) (zE (zj 0) (zL rfl xg))) (zu (zM (zvu (zfj (zc8 hr) (zj 1) (zE (zj 0) (zL rfl xch))) (zkh (zfj (zc8 hr) (zj 1) (zaa (zE (zj 0) (zL rfl xch)) zy)))))) zV)
 (zu (zM (zfj (zc8 hr) (zj 1) (zJ xag hr (zc (zj 0) (zc (zaa (zE (zj 0) (zL rfl xg)) zy) zq)))))))
variable (xb0:Got P w K mg base 2 "can_be_drawn" ["piece","to"] (upF K Dp.zbT))
theorem zqV:zN ["piece"] ["piece"] (zH ziV):=zU
include xag xg in
theorem zqh (F:Fun K "end_of" "end_of" ziV f fd):zW P w K mg base CX0 2 f fd ["piece"] (upF K Dp.zdL):=by
 refine zR (b:=Dp.zhb) F zqV Dp.zoX Dp.zqy (fun cdv A outer s H E hr=>?_)
 unfold Dp.zhb
 exact (zu (zM (zJ xag hr (zc (zj 0) (zc (zE (zj 0) (zL rfl xg)) zq)))))
variable (xck:Got P w K mg base 2 "end_of" ["piece"] (upF K Dp.zdL))
theorem zgo:zN ["pieces","low","high","to","step","start","last","drawn_step","drawn_high"] ["pieces","low","high","to","step"] (zH zoo):=zU
include xr xch xq xb0 xck in
theorem zwU (F:Fun K "put" "put" zoo f fd):zW P w K mg base CX0 3 f fd ["pieces","low","high","to","step"] (upF K Dp.zdZ):=by
  refine zR (b:=Dp.zlR) F zgo Dp.zuv Dp.zwQ (fun cdv A outer s H E hr=>?_)
  unfold Dp.zlR
  exact (zp (zF (i:=5) zgo.nd (zj 1))
 (zp (zjG (zY (zbW (zcL (zP zdx (zj 1) (zj 2)) (zcL (zP zcz (zak zaR xr boot_len (zc (zj 0) zq)) zy) (zct (zck (zJ xb0 hr (zc (zE (zj 0) (za0 zy)) (zc (zj 3) zq)))))))) (zp (zF (i:=6) zgo.nd (zE (zj 0) (za0 zy)))
 (zp (zF (i:=7) zgo.nd (zae (zj 3) (zJ xck hr (zc (zj 6) zq))))
 (zp (zjG (zF (i:=8) zgo.nd (zkd (zP (zc8 hr) (zj 4) (zj 7)) (zj 2) (zj 1))))
 (zp (zin (zac (zc (zE (zj 6) (zL rfl xq)) (zc (zj 8) (zc (zE (zj 6) (zL rfl xch)) (zc (zj 7) zq))))) (zkU (zj 0) (za0 zy)))
 (zu (zF (i:=5) zgo.nd (zaa (zj 8) zy))))))) zV))
 (zu (zY (zP zdx (zj 5) (zj 2)) (zu (zad (zfT PySem.F.slot_list_append PySem.F.type_list_append zcp (zj 0) (zc (zac (zc (zj 5) (zc (zj 2) (zc (zaa (zj 3) (zaJ (zj 4) (zae (zj 5) (zj 1)))) (zc (zkd (zP zbi (zj 5) (zj 2)) (zj 4) zy) zq))))) zq)))) zV))))
variable (xb9:Got P w K mg base 3 "put" ["pieces","low","high","to","step"] (upF K Dp.zdZ))
theorem zb1:zN ["spans","delay","first","found","hour","low","high","start"] ["spans","delay","first"] (zH zgH):=zU
include xak xab xb9 in
theorem znd (F:Fun K "reach_of" "reach_of" zgH f fd):zW P w K mg base CX0 4 f fd ["spans","delay","first"] (upF K Dp.zb4):=by
  refine zR (b:=Dp.ze4) F zb1 Dp.zmC Dp.znG (fun cdv A outer s H E hr=>?_)
  unfold Dp.ze4
  exact (zp (zF (i:=3) zb1.nd (za5 zq))
 (zp (zF (i:=4) zb1.nd (zj 2))
 (zp (zan (zam (zj 0)) (zcc (n:=2) rfl (zaf (zT (i:=5) zb1.nd) (zaf (zT (i:=6) zb1.nd) zcb))) (zp (zad (zJ xb9 hr (zc (zj 3) (zc (zj 4) (zc (zae (zj 5) zy) (zc (zaa (zj 5) (zj 1)) (zc zy zq)))))))
 (zp (zF (i:=7) zb1.nd (zak zb9 xab boot_max (zc (zj 4) (zc (zj 5) zq))))
 (zp (zad (zJ xb9 hr (zc (zj 3) (zc (zj 7) (zc (zj 6) (zc (zaa (zj 7) (zj 1)) (zc zy zq)))))))
 (zu (zF (i:=4) zb1.nd (zak zb9 xab boot_max (zc (zj 4) (zc (zaa (zj 6) zy) zq)))))))))
 (zu (zM (zg0 zgU xak boot_tuple (zc (zj 3) zq)))))))
variable (xam:Got P w K mg base 4 "reach_of" ["spans","delay","first"] (upF K Dp.zb4))
theorem zey:zN ["valley","found","name","other"] ["valley"] (zH zgL):=zU
include xaj xcv xam in
theorem znv (F:Fun K "steps_of" "steps_of" zgL f fd):zW P w K mg base CX0 10 f fd ["valley"] (upF K Dp.zdr):=by
  refine zR (b:=Dp.zeX) F zey Dp.zmz Dp.zns (fun cdv A outer s H E hr=>?_)
  unfold Dp.zeX
  exact (zp (zF (i:=1) zey.nd (ztG))
 (zp (zan (zam (zJ xaj hr (zc (zj 0) zq))) (zT (i:=2) zey.nd) (zu (zan (zam (zJ xaj hr (zc (zj 0) zq))) (zT (i:=3) zey.nd) (zu (zgK hr (zj 1) (zac (zc (zj 2) (zc (zj 3) zq))) (zJ xam hr (zc (zcZ xcv zlO hr (zc (zj 0) (zc (zj 2) (zc (zj 3) zq)))) (zc (zaX (zj 0) rfl) (zc (zaX (zj 0) rfl) zq)))))))))
 (zu (zM (zj 1)))))
variable (xel:Got P w K mg base 10 "steps_of" ["valley"] (upF K Dp.zdr))
theorem zoR:zN ["first","last"] ["first","last"] (zH zhF):=zU
include xam in
theorem zpb (F:Fun K "staying" "staying" zhF f fd):zW P w K mg base CX0 5 f fd ["first","last"] (upF K Dp.zdY):=by
  refine zR (b:=Dp.zfO) F zoR Dp.znr Dp.zop (fun cdv A outer s H E hr=>?_)
  unfold Dp.zfO
  exact (zp (zY (zP zcz (zj 0) (zj 1)) (zu (zM (zac zq))) zV)
 (zu (zM (zJ xam hr (zc (zac (zc (zac (zc (zj 0) (zc (zj 1) zq))) zq)) (zc zy (zc (zj 0) zq)))))))
variable (xev:Got P w K mg base 5 "staying" ["first","last"] (upF K Dp.zdY))
theorem zdB:zN ["pieces","piece","following","start","end","shift"] ["pieces","piece","following"] (zH zfh):=zU
include xai xab xch xao xq xag xg xck xb9 in
theorem zlC (F:Fun K "put_led_on" "put_led_on" zfh f fd):zW P w K mg base CX0 4 f fd ["pieces","piece","following"] (upF K Dp.zcH):=by
  refine zR (b:=Dp.zd2) F zdB Dp.zkP Dp.zlF (fun cdv A outer s H E hr=>?_)
  unfold Dp.zd2
  exact (zp (zF (i:=3) zdB.nd (zak zb9 xab boot_max (zc (zE (zj 1) (zL rfl xch)) (zc (zE (zj 2) (zL rfl xq)) zq))))
 (zp (zF (i:=4) zdB.nd (zak zdJ xai boot_min (zc (zJ xck hr (zc (zj 1) zq)) (zc (zE (zj 2) (zL rfl xg)) zq))))
 (zu (zY (zbW (zcL (zP zdx (zj 3) (zj 4)) (zct (zP (zc8 hr) (zE (zj 1) (zL rfl xao)) zy)))) (zu (zad (zJ xb9 hr (zc (zj 0) (zc (zE (zj 1) (zL rfl xq)) (zc (zE (zj 1) (zL rfl xg)) (zc (zJ xag hr (zc (zj 2) (zc (zj 3) zq))) (zc zy zq)))))))) (zu (zY (zP zdx (zj 3) (zj 4)) (zp (zF (i:=5) zdB.nd (zae (zE (zj 1) (zL rfl xq)) (zE (zj 1) (zL rfl xch))))
 (zu (zad (zJ xb9 hr (zc (zj 0) (zc (zaa (zj 3) (zj 5)) (zc (zaa (zj 4) (zj 5)) (zc (zJ xag hr (zc (zj 2) (zc (zj 3) zq))) (zc (zE (zj 2) (zL rfl xao)) zq))))))))) zV))))))
variable (xcp:Got P w K mg base 4 "put_led_on" ["pieces","piece","following"] (upF K Dp.zcH))
theorem zfC:zN ["one","other","found","piece","following"] ["one","other"] (zH zjd):=zU
include xak xcp in
theorem zrb (F:Fun K "behind" "behind" zjd f fd):zW P w K mg base CX0 5 f fd ["one","other"] (upF K Dp.zc3):=by
  refine zR (b:=Dp.zgZ) F zfC Dp.zoW Dp.zqq (fun cdv A outer s H E hr=>?_)
  unfold Dp.zgZ
  exact (zp (zF (i:=2) zfC.nd (za5 zq))
 (zp (zan (zam (zj 0)) (zT (i:=3) zfC.nd) (zu (zan (zam (zj 1)) (zT (i:=4) zfC.nd) (zu (zad (zJ xcp hr (zc (zj 2) (zc (zj 3) (zc (zj 4) zq)))))))))
 (zu (zM (zg0 zgU xak boot_tuple (zc (zj 2) zq))))))
variable (xa5:Got P w K mg base 5 "behind" ["one","other"] (upF K Dp.zc3))
theorem zpc:zN ["pieces","piece","low","high"] ["pieces","piece","low","high"] (zH zh5):=zU
include xao xag xb9 in
theorem zpw (F:Fun K "put_cut" "put_cut" zh5 f fd):zW P w K mg base CX0 4 f fd ["pieces","piece","low","high"] (upF K Dp.zbv):=by
 refine zR (b:=Dp.zfz) F zpc Dp.znm Dp.zpE (fun cdv A outer s H E hr=>?_)
 unfold Dp.zfz
 exact (zu (zad (zJ xb9 hr (zc (zj 0) (zc (zj 2) (zc (zj 3) (zc (zJ xag hr (zc (zj 1) (zc (zj 2) zq))) (zc (zE (zj 1) (zL rfl xao)) zq))))))))
variable (xal:Got P w K mg base 4 "put_cut" ["pieces","piece","low","high"] (upF K Dp.zbv))
theorem zea:zN ["pieces","climbing","flat","low","high","lead","meeting"] ["pieces","climbing","flat","low","high"] (zH zen):=zU
include xai xab xag xal in
theorem zjO (F:Fun K "put_crossing" "put_crossing" zen f fd):zW P w K mg base CX0 5 f fd ["pieces","climbing","flat","low","high"] (upF K Dp.zbl):=by
  refine zR (b:=Dp.zc6) F zea Dp.zi2 Dp.zj6 (fun cdv A outer s H E hr=>?_)
  unfold Dp.zc6
  exact (zp (zF (i:=5) zea.nd (zae (zJ xag hr (zc (zj 2) (zc (zj 3) zq))) (zJ xag hr (zc (zj 1) (zc (zj 3) zq)))))
 (zp (zF (i:=6) zea.nd (zak zdJ xai boot_min (zc (zj 4) (zc (zaa (zj 3) (zak zb9 xab boot_max (zc (zj 5) (zc (za0 zy) zq)))) zq))))
 (zp (zad (zJ xal hr (zc (zj 0) (zc (zj 1) (zc (zj 3) (zc (zj 6) zq))))))
 (zu (zad (zJ xal hr (zc (zj 0) (zc (zj 2) (zc (zaa (zj 6) zy) (zc (zj 4) zq))))))))))
variable (xbf:Got P w K mg base 5 "put_crossing" ["pieces","climbing","flat","low","high"] (upF K Dp.zbl))
theorem zlz:zN ["pieces","piece","rival","low","high"] ["pieces","piece","rival","low","high"] (zH zfr):=zU
include xao xag xal xbf in
theorem zlB (F:Fun K "put_lesser" "put_lesser" zfr f fd):zW P w K mg base CX0 6 f fd ["pieces","piece","rival","low","high"] (upF K Dp.zcI):=by
 refine zR (b:=Dp.zd3) F zlz Dp.zk3 Dp.zlp (fun cdv A outer s H E hr=>?_)
 unfold Dp.zd3
 exact (zu (zY (zP zcz (zE (zj 1) (zL rfl xao)) (zE (zj 2) (zL rfl xao))) (zu (zad (zJ xbf hr (zc (zj 0) (zc (zj 1) (zc (zj 2) (zc (zj 3) (zc (zj 4) zq)))))))) (zu (zY (zP zbi (zE (zj 1) (zL rfl xao)) (zE (zj 2) (zL rfl xao))) (zu (zad (zJ xbf hr (zc (zj 0) (zc (zj 2) (zc (zj 1) (zc (zj 3) (zc (zj 4) zq)))))))) (zu (zY (zP zbi (zJ xag hr (zc (zj 1) (zc (zj 3) zq))) (zJ xag hr (zc (zj 2) (zc (zj 3) zq)))) (zu (zad (zJ xal hr (zc (zj 0) (zc (zj 1) (zc (zj 3) (zc (zj 4) zq))))))) (zu (zad (zJ xal hr (zc (zj 0) (zc (zj 2) (zc (zj 3) (zc (zj 4) zq)))))))))))))
variable (xcm:Got P w K mg base 6 "put_lesser" ["pieces","piece","rival","low","high"] (upF K Dp.zcI))
theorem zbc:zN ["one","other","found","hour","i","j","high","piece"] ["one","other"] (zH zhx):=zU
include xr xak xai xab xq xg xal xcm in
theorem zo7 (F:Fun K "earlier" "earlier" zhx f fd):zW P w K mg base CX0 7 f fd ["one","other"] (upF K Dp.zbX):=by
  refine zR (b:=Dp.zfP) F zbc Dp.znn Dp.zoA (fun cdv A outer s H E hr=>?_)
  unfold Dp.zfP
  exact (zp (zY (zbW (zhv (zP (zc8 hr) (zak zaR xr boot_len (zc (zj 0) zq)) zy) (zgs (zP (zc8 hr) (zak zaR xr boot_len (zc (zj 1) zq)) zy)))) (zu (zM (zaa (zj 0) (zj 1)))) zV)
 (zp (zF (i:=2) zbc.nd (za5 zq))
 (zp (zF (i:=3) zbc.nd (zE (zE (zj 0) zy) (zL rfl xq)))
 (zp (zF (i:=4) zbc.nd zy)
 (zp (zF (i:=5) zbc.nd zy)
 (zp (zfI (zbW (zcL (zP zbi (zj 4) (zak zaR xr boot_len (zc (zj 0) zq))) (zct (zP zbi (zj 5) (zak zaR xr boot_len (zc (zj 1) zq)))))) (zp (zF (i:=6) zbc.nd (zak zdJ xai boot_min (zc (zE (zE (zj 0) (zj 4)) (zL rfl xg)) (zc (zE (zE (zj 1) (zj 5)) (zL rfl xg)) zq))))
 (zp (zad (zJ xcm hr (zc (zj 2) (zc (zE (zj 0) (zj 4)) (zc (zE (zj 1) (zj 5)) (zc (zj 3) (zc (zj 6) zq)))))))
 (zp (zF (i:=3) zbc.nd (zaa (zj 6) zy))
 (zp (zjG (zF (i:=4) zbc.nd (zkd (zP (zc8 hr) (zE (zE (zj 0) (zj 4)) (zL rfl xg)) (zj 6)) (zaa (zj 4) zy) (zj 4))))
 (zu (zF (i:=5) zbc.nd (zkd (zP (zc8 hr) (zE (zE (zj 1) (zj 5)) (zL rfl xg)) (zj 6)) (zaa (zj 5) zy) (zj 5)))))))))
 (zp (zan (zam (zaa (zlS (zj 0) (ziq (zj 4)) zia) (zlS (zj 1) (ziq (zj 5)) zia))) (zT (i:=7) zbc.nd) (zu (zad (zJ xal hr (zc (zj 2) (zc (zj 7) (zc (zak zb9 xab boot_max (zc (zj 3) (zc (zE (zj 7) (zL rfl xq)) zq))) (zc (zE (zj 7) (zL rfl xg)) zq))))))))
 (zu (zM (zg0 zgU xak boot_tuple (zc (zj 2) zq)))))))))))
variable (xbh:Got P w K mg base 7 "earlier" ["one","other"] (upF K Dp.zbX))
theorem zaw:zN ["valley","steps","name","names","found","each","changed","ahead","other","reach"] ["valley","steps","name"] (zH zd5):=zU
include xr xaj xev xa5 xbh in
theorem zja (F:Fun K "hearings_from" "hearings_from" zd5 f fd):zW P w K mg base CX0 8 f fd ["valley","steps","name"] (upF K Dp.zbG):=by
  refine zR (b:=Dp.zcO) F zaw Dp.ziG Dp.zi0 (fun cdv A outer s H E hr=>?_)
  unfold Dp.zcO
  exact (zp (zF (i:=3) zaw.nd (zJ xaj hr (zc (zj 0) zq)))
 (zp (zF (i:=4) zaw.nd (ztT))
 (zp (zan (zam (zj 3)) (zT (i:=5) zaw.nd) (zu (zgK hr (zj 4) (zj 5) (zac zq))))
 (zp (zgK hr (zj 4) (zj 2) (zJ xev hr (zc (zaX (zj 0) rfl) (zc (zaX (zj 0) rfl) zq))))
 (zp (zF (i:=6) zaw.nd (za5 (zc (zj 2) zq)))
 (zp (zfI (zP zcz (zak zaR xr boot_len (zc (zj 6) zq)) zy) (zp (zF (i:=7) zaw.nd (zfT PySem.F.slot_list_pop PySem.F.type_list_pop zuD (zj 6) (zc zy zq)))
 (zu (zan (zam (zj 3)) (zT (i:=8) zaw.nd) (zp (zF (i:=9) zaw.nd (zJ xbh hr (zc (zhs hr (zj 4) (zj 8)) (zc (zJ xa5 hr (zc (zhs hr (zj 4) (zj 7)) (zc (zhs hr (zj 1) (zac (zc (zj 7) (zc (zj 8) zq)))) zq))) zq))))
 (zu (zY (zP (zeG hr) (zj 9) (zhs hr (zj 4) (zj 8))) (zp (zgK hr (zj 4) (zj 8) (zj 9))
 (zu (zF (i:=6) zaw.nd (zaa (zdA (own:=["each"]) (free:=["other"]) (fv:=[8]) ⟨rfl,True.intro⟩ ⟨rfl,rfl,rfl,True.intro⟩ (zam (zj 6)) ⟨(zaj 0 (by decide)),fun _ _ _ _ _=>(zar (i:=0) (show List.Nodup (["each","other"]:List Str) by decide +kernel) rfl (Or.inl rfl) (Or.inr rfl))⟩ (fun _ _ _ _ _=>(zks (zP (zeG hr) (zj 0) (zj 1)))) (fun _ _ _ _ _=>(zj 0))) (za5 (zc (zj 8) zq)))))) zV)))))))
 (zu (zM (zdA (own:=["each"]) (free:=["found"]) (fv:=[4]) ⟨rfl,True.intro⟩ ⟨rfl,rfl,rfl,True.intro⟩ (zam (zj 3)) ⟨(zaj 0 (by decide)),fun _ _ _ _ _=>(zar (i:=0) (show List.Nodup (["each","found"]:List Str) by decide +kernel) rfl (Or.inl rfl) (Or.inr rfl))⟩ (fun _ _ _ _ _=>zbD) (fun _ _ _ _ _=>(zhs hr (zj 1) (zj 0))))))))))))
variable (xbp:Got P w K mg base 8 "hearings_from" ["valley","steps","name"] (upF K Dp.zbG))
theorem ziS:zN ["valley","steps"] ["valley"] (zH zgw):=zU
include xaj xel xbp in
theorem znF (F:Fun K "hearings" "hearings" zgw f fd):zW P w K mg base CX0 11 f fd ["valley"] (upF K Dp.zdv):=by
  refine zR (b:=Dp.ze1) F ziS Dp.zm8 Dp.zng (fun cdv A outer s H E hr=>?_)
  unfold Dp.ze1
  exact (zp (zF (i:=1) ziS.nd (zJ xel hr (zc (zj 0) zq)))
 (zu (zM (zdA (own:=["name"]) (free:=["valley","steps"]) (fv:=[0,1]) ⟨rfl,rfl,True.intro⟩ ⟨rfl,rfl,rfl,rfl,rfl,rfl,True.intro⟩ (zam (zJ xaj hr (zc (zj 0) zq))) ⟨(zaj 0 (by decide)),fun _ _ _ _ _=>(zar (i:=0) (show List.Nodup (["name","valley","steps"]:List Str) by decide +kernel) rfl (Or.inl rfl) (Or.inr rfl))⟩ (fun _ _ _ _ _=>zbD) (fun _ _ _ _ _=>(zJ xbp hr (zc (zj 1) (zc (zj 2) (zc (zj 0) zq)))))))))
variable (xeo:Got P w K mg base 11 "hearings" ["valley"] (upF K Dp.zdv))
theorem zj3:zN ["reach","hour","piece"] ["reach","hour"] (zH zhw):=zU
include xq xag xg in
theorem zoS (F:Fun K "hour_at" "hour_at" zhw f fd):zW P w K mg base CX0 2 f fd ["reach","hour"] (upF K Dp.zc7):=by
  refine zR (b:=Dp.zfK) F zj3 Dp.zni Dp.zoU (fun cdv A outer s H E hr=>?_)
  unfold Dp.zfK
  exact (zp (zan (zam (zj 0)) (zT (i:=2) zj3.nd) (zu (zY (zk6 zdx zdx (zE (zj 2) (zL rfl xq)) (zj 1) (zE (zj 2) (zL rfl xg))) (zu (zM (zJ xag hr (zc (zj 2) (zc (zj 1) zq))))) zV)))
 (zu (zM zeH)))
variable (xd3:Got P w K mg base 2 "hour_at" ["reach","hour"] (upF K Dp.zc7))
theorem zeo:zN ["found","one","two","straight","hour","due","told","middle"] ["found","one","two","straight","hour","due"] (zH zeQ):=zU
include xr xav xa5 xd3 in
theorem zkX (F:Fun K "_law_reached" "_law_reached" zeQ f fd):zW P w K mg base CX0 6 f fd ["found","one","two","straight","hour","due"] (upF K Dp.zcd):=by
  refine zR (b:=Dp.zdy) F zeo Dp.zj7 Dp.zkt (fun cdv A outer s H E hr=>?_)
  unfold Dp.zdy
  exact (zp (zF (i:=6) zeo.nd (za5 (zc (zJ xd3 hr (zc (zj 3) (zc (zj 4) zq))) zq)))
 (zp (zan (zkr xav (zc (zak zaR xr boot_len (zc (zj 0) zq)) zq)) (zT (i:=7) zeo.nd) (zu (zY (zbW (zcL (zP (zeG hr) (zj 7) (zj 1)) (zct (zP (zeG hr) (zj 7) (zj 2))))) (zu (zad (zfT PySem.F.slot_list_append PySem.F.type_list_append zcp (zj 6) (zc (zJ xd3 hr (zc (zJ xa5 hr (zc (zE (zE (zj 0) (zj 1)) (zj 7)) (zc (zE (zE (zj 0) (zj 7)) (zj 2)) zq))) (zc (zj 4) zq))) zq)))) zV)))
 (zu (zM (zn1 (zsY hr) (zj 5) (zj 6))))))
variable (xca:Got P w K mg base 6 "_law_reached" ["found","one","two","straight","hour","due"] (upF K Dp.zcd))
theorem zbp:zN ["script","parts","valley","names","found","one","name","two","other","straight","middle","low","high","to","step","due"] ["script"] (zH ze5):=zU
include xr xav xaa xd2 xco xcv xam xa5 xbh xeo xca in
theorem zwb (F:Fun K "law" "law" ze5 f fd):zW P w K mg base CX0 12 f fd ["script"] (upF K Dp.zfu):=by
  refine zR (b:=Dp.zlP) F zbp Dp.ztY Dp.zvT (fun cdv A outer s H E hr=>?_)
  unfold Dp.zlP
  exact (zp (zF (i:=1) zbp.nd (zJ xd2 hr (zc (zj 0) zq)))
 (zp (zF (i:=2) zbp.nd (zJ xco hr (zc (zj 1) zq)))
 (zp (zgz (i:=3) zbp.nd (own:=["beacon"]) (free:=[]) (fv:=[]) True.intro True.intro (zam (zE (zj 1) zy)) ⟨(zaj 0 (by decide)),fun _ _ _ _ _=>(zar (i:=0) (show List.Nodup (["beacon"]:List Str) by decide +kernel) rfl (Or.inl rfl) (Or.inr rfl))⟩ (fun _ _ _ _ _=>zbD) (fun _ _ _ _ _=>(zE (zj 0) zy)))
 (zp (zF (i:=4) zbp.nd (zJ xeo hr (zc (zj 2) zq)))
 (zp (zan (zc1 rfl xaa (zc (zj 3) zq)) (zcc (n:=2) rfl (zaf (zT (i:=5) zbp.nd) (zaf (zT (i:=6) zbp.nd) zcb))) (zu (zan (zc1 rfl xaa (zc (zj 3) zq)) (zcc (n:=2) rfl (zaf (zT (i:=7) zbp.nd) (zaf (zT (i:=8) zbp.nd) zcb))) (zp (zF (i:=9) zbp.nd (zJ xam hr (zc (zcZ xcv zlO hr (zc (zj 2) (zc (zj 6) (zc (zj 8) zq)))) (zc (zaX (zj 2) rfl) (zc (zaX (zj 2) rfl) zq)))))
 (zp (zY (zbW (zcL (zP (zeG hr) (zj 5) (zj 7)) (zct (zP (zeG hr) (zJ xbh hr (zc (zE (zE (zj 4) (zj 5)) (zj 7)) (zc (zj 9) zq))) (zE (zE (zj 4) (zj 5)) (zj 7)))))) (zu (zM zfD)) zV)
 (zp (zan (zkr xav (zc (zak zaR xr boot_len (zc (zj 3) zq)) zq)) (zT (i:=10) zbp.nd) (zu (zY (zP (zeG hr) (zJ xbh hr (zc (zE (zE (zj 4) (zj 5)) (zj 7)) (zc (zJ xa5 hr (zc (zE (zE (zj 4) (zj 5)) (zj 10)) (zc (zE (zE (zj 4) (zj 10)) (zj 7)) zq))) zq))) (zE (zE (zj 4) (zj 5)) (zj 7))) (zu (zM zfD)) zV)))
 (zu (zan (zam (zE (zE (zj 4) (zj 5)) (zj 7))) (zcc (n:=4) rfl (zaf (zT (i:=11) zbp.nd) (zaf (zT (i:=12) zbp.nd) (zaf (zT (i:=13) zbp.nd) (zaf (zT (i:=14) zbp.nd) zcb))))) (zp (zF (i:=15) zbp.nd (zaa (zj 13) (zaJ (zj 14) (zae (zj 12) (zj 11)))))
 (zu (zY (zbW (zcL (zP (zeG hr) (zj 5) (zj 7)) (zct (zde (zck (zJ xca hr (zc (zj 4) (zc (zj 5) (zc (zj 7) (zc (zj 9) (zc (zj 12) (zc (zj 15) zq)))))))))))) (zu (zM zfD)) zV)))))))))))
 (zu (zM zfD)))))))
end
theorem all_mk {l:W.OpenLaw}{w:World}{K:W.Frag}{h:Heap}{mg:Str->Option Value}{fa:Addr}(X:K.In h)(G:h.Ns mainGlobals mg)(hfa:mg "law"=some (.ref fa))
  {xh1 xiz xit xh2 xi8 xi1 xfk xfu xjx xf2 xla xky xgn xjs xi2 xir xks xgf xjb xkq xgj xfz xib xi7 xj7 xfd xgh xj2 xko xgq xg1 xk7 xjw xlh xk2 xiv xlj f_both xjz xkz xlq xhy xkw xlk xjm xi4 xj5 xik xkr xj8 xhv xic xj4 xgt xja xke xh3:Addr}{xhz xi0 xiy xh0 xjj xiq xfo xfw xkb xf5 xld xk5 xgp xjv xiw xix xkm xgg xi9 xkp xgi xf4 xin xje xj6 xfg xge xjy xkv xgo xgx xk4 xj0 xlb xk1 xiu xk9 xlc xkg xk8 xln xhw xkj xll xjt xi6 xj1 xil xkn xkf xhf xig xki xg5 xi3 xj9 xh4:FuncData}
  {xhj xhn:Option Addr} {xhx:Array (Option Value)} {xg8 xht xhl xhb xfh xhu:Value} {xcd:Addr} {xaf:Addr}
  {xg9 xhp:Option Addr} {xhc:Array (Option Value)} {xhd xhm xhh xhg xfe xhe:Value} {xcc:Addr} {xu:Addr}
  {xlg xkd:Option Addr} {xlf:Array (Option Value)} {xli xj3 xkc xkh xio xka:Value} {xjh:Addr}
  {xgk:Addr}
  {xgu:Addr}
  {xgm:Tok} {xgw:Tok} {xgz:Tok} {xif:Tok} {xgr:Tok} {xjc:Tok} {xjr:Tok} {xk3:Tok} {xkl:Tok} {xis:Tok} {xih:Tok} {xkt:Tok} {xkx:Tok} {xkk:Tok} {xk6:Tok} {xlp:Tok} {xk0:Tok} {xho:Tok} {xg2:Tok}
  (xcb:FH K "_law_cell_at" zeR xh1 xhz)
  (xdq:FH K "_law_mixed" zfQ xiz xi0)
  (xdt:FH K "_law_seeds" zf3 xit xiy)
  (xcf:FH K "_law_beacons" zeT xh2 xh0)
  (xek:FH K "_law_fogs" zgX xi8 xjj)
  (xdp:FH K "_law_parts" zf1 xi1 xiq)
  (xaq:FH K "refuse_bad_corners" zcE xfk xfo)
  (xbo:W.nsIn K mainGlobals "Ground"=some (some (.ref xaf))) (xed:K.lookup xcd=some ⟨xg8,xhj,.func (W.fnOf "__init__" "Ground.__init__" (zbM zbO) (za9 zbO) (zH zbO) .none xht xhl xhb xhn xfh xhu),xhx⟩) (xeb:W.codeIn K xfh "Ground.__init__"=true) (xec:W.keepIn K (.ref xcd)=true)
  (xdc:W.makesIn K xaf=true) (xcz:W.findIn K (.ref xaf) "__init__"=some (some (.ref xcd))) (xc1:W.isFn K (.ref xcd)=true) (xdm:W.keepIn K (.ref xaf)=true) (xdf:W.plainGet K xaf Str.empty=true) (xcy:W.hasDictIn K xaf=true) (xdj:W.plainOver K xaf=true) (xc8:W.findIn K (.ref xaf) "__setattr__"=some (some (.builtin "object.__setattr__"))) (xc2:W.findIn K (.ref xaf) "corners"=some none)
  (xar:FH K "refuse_bad_numbers" zcC xfu xfw)
  (xe2:FH K "is_name" zhD xjx xkb)
  (xa4:FH K "refuse_bad_names" zc5 xf2 xf5)
  (xgv:FH K "less" zmv xla xld)
  (xgc:FH K "is_on" zkY xky xk5)
  (xbk:FH K "common_divisor" zdD xgn xgp)
  (xen:FH K "fraction" zgT xjs xjv)
  (xd1:FH K "height_on" zfU xi2 xiw)
  (xdu:FH K "ground_at" zf7 xir xix)
  (xfi:FH K "stands" zjn xks xkm)
  (xbc:FH K "refuse_bad_tops" zdj xgf xgg)
  (xee:FH K "is_whole" zhd xjb xi9)
  (xfm:FH K "is_fog" zjc xkq xkp)
  (xa8:FH K "refuse_bad_fogs" zdl xgj xgi)
  (xaz:FH K "refuse_bad_hours" zcW xfz xf4)
  (xac:W.nsIn K mainGlobals "Valley"=some (some (.ref xu))) (xea:K.lookup xcc=some ⟨xhd,xg9,.func (W.fnOf "__init__" "Valley.__init__" (zbM zbQ) (za9 zbQ) (zH zbQ) .none xhm xhh xhg xhp xfe xhe),xhc⟩) (xd7:W.codeIn K xfe "Valley.__init__"=true) (xd9:W.keepIn K (.ref xcc)=true)
  (xda:W.makesIn K xu=true) (xde:W.findIn K (.ref xu) "__init__"=some (some (.ref xcc))) (xcx:W.isFn K (.ref xcc)=true) (xdd:W.keepIn K (.ref xu)=true) (xdk:W.plainGet K xu Str.empty=true) (xc6:W.hasDictIn K xu=true) (xc7:W.plainOver K xu=true) (xc5:W.findIn K (.ref xu) "__setattr__"=some (some (.builtin "object.__setattr__"))) (xdb:W.findIn K (.ref xu) "ground"=some none) (xdh:W.findIn K (.ref xu) "beacons"=some none) (xdl:W.findIn K (.ref xu) "fogs"=some none) (xc4:W.findIn K (.ref xu) "haze"=some none) (xdo:W.findIn K (.ref xu) "first"=some none) (xcw:W.findIn K (.ref xu) "last"=some none) (xct:W.findIn K (.ref xu) "delay"=some none)
  (xcn:FH K "_law_valley" zfk xib xin)
  (xei:FH K "names_of" zgI xi7 xje)
  (xey:FH K "spot_of" zhR xj7 xj6)
  (xap:FH K "refuse_not_standing" zci xfd xfg)
  (xa9:FH K "numbers_between" zdm xgh xge)
  (xe7:FH K "side_of" zhJ xj2 xjy)
  (xfs:FH K "hinder" zi8 xko xkv)
  (xbj:FH K "square_between" zdE xgq xgo)
  (xbu:FH K "hidden_always" zdS xg1 xgx)
  (xgd:FH K "moved" zkO xk7 xk4)
  (xet:FH K "margins" zhu xjw xj0)
  (xg0:FH K "tidy" zm6 xlh xlb)
  (xf7:FH K "foggy" zkn xk2 xk1)
  (xdv:FH K "foggy_all" zf0 xiv xiu)
  (xg6:FH K "gaps" zmt xlj xk9)
  (xg3:FH K "both" zmZ f_both xlc)
  (xe1:FH K "without" zhG xjz xkg)
  (xga:FH K "sight" zkC xkz xk8)
  (xh8:FH K "led" zpA xlq xln)
  (xb1:FH K "can_be_drawn" zeh xhy xhw)
  (xfj:FH K "end_of" ziV xkw xkj)
  (xh5:FH K "put" zoo xlk xll)
  (xeg:FH K "reach_of" zgH xjm xjt)
  (xeh:FH K "steps_of" zgL xi4 xi6)
  (xe4:FH K "staying" zhF xj5 xj1)
  (xcs:FH K "put_led_on" zfh xik xil)
  (xfv:FH K "behind" zjd xkr xkn)
  (xeu:FH K "put_cut" zh5 xj8 xkf)
  (xb2:FH K "put_crossing" zen xhv xhf)
  (xcr:FH K "put_lesser" zfr xic xig)
  (xex:FH K "earlier" zhx xj4 xki)
  (xbs:FH K "hearings_from" zd5 xgt xg5)
  (xej:FH K "hearings" zgw xja xi3)
  (xez:FH K "hour_at" zhw xke xj9)
  (xcg:FH K "_law_reached" zeQ xh3 xh4)
  (xjf:W.nsIn K mainGlobals "law"=some (some (.ref xjh))) (xjl:K.lookup xjh=some ⟨xli,xlg,.func (W.fnOf "law" "law" (zbM ze5) (za9 ze5) (zH ze5) .none xj3 xkc xkh xkd xio xka),xlf⟩) (xjn:W.codeIn K xio "law"=true) (xji:W.keepIn K (.ref xjh)=true)
  (xb7:W.nsIn K mainGlobals "OffGround"=some (some (.ref xgk))) (xe9:zpt K xgk=true) (xcq:W.nsIn K mainGlobals "NoBeacon"=some (some (.ref xgu))) (xfn:zpt K xgu=true)
  (xjp:W.nsIn K mainGlobals "len"=some none) (xha:W.nsIn K mainGlobals "range"=some none) (xfb:W.nsIn K mainGlobals "enumerate"=some none) (xim:W.nsIn K mainGlobals "list"=some none) (xi5:W.nsIn K mainGlobals "all"=some none) (xju:W.nsIn K mainGlobals "set"=some none) (xjg:W.nsIn K mainGlobals "abs"=some none) (xjq:W.nsIn K mainGlobals "int"=some none) (xer:W.nsIn K mainGlobals "isinstance"=some none) (xie:W.nsIn K mainGlobals "bool"=some none) (xhr:W.nsIn K mainGlobals "tuple"=some none) (xjk:W.nsIn K mainGlobals "min"=some none) (xjd:W.nsIn K mainGlobals "max"=some none) (xgl:W.nsIn K mainGlobals "sorted"=some none) (xjo:W.nsIn K mainGlobals "zip"=some none)
  (xcl:W.nsIn K mainGlobals "LEAST_CORNERS"=some (some (.int 2 xgm))) (xdn:W.nsIn K mainGlobals "MOST_CORNERS"=some (some (.int 40 xgw))) (xc9:W.nsIn K mainGlobals "MOST_BEACONS"=some (some (.int 12 xgz))) (xfa:W.nsIn K mainGlobals "MOST_FOGS"=some (some (.int 12 xif))) (xcu:W.nsIn K mainGlobals "MOST_LETTERS"=some (some (.int 8 xgr))) (xf6:W.nsIn K mainGlobals "LETTERS"=some (some (.str "abcdefghijklmnopqrstuvwxyz" xjc))) (xf3:W.nsIn K mainGlobals "NUMBERS"=some (some (.int 8 xjr))) (xii:W.nsIn K mainGlobals "LEFT"=some (some (.int 0 xk3))) (xhq:W.nsIn K mainGlobals "RIGHT"=some (some (.int 1 xkl))) (xfr:W.nsIn K mainGlobals "LOW_fogs"=some (some (.int 2 xis))) (xe8:W.nsIn K mainGlobals "HIGH_fogs"=some (some (.int 3 xih))) (xhs:W.nsIn K mainGlobals "FIRST"=some (some (.int 4 xkt))) (xid:W.nsIn K mainGlobals "LAST"=some (some (.int 5 xkx))) (xhk:W.nsIn K mainGlobals "DRIFT"=some (some (.int 6 xkk))) (xip:W.nsIn K mainGlobals "RISE"=some (some (.int 7 xk6))) (xku:W.nsIn K mainGlobals "TO"=some (some (.int 2 xlp))) (xij:W.nsIn K mainGlobals "STEP"=some (some (.int 3 xk0))) (xd8:W.nsIn K mainGlobals "LOW_reaches"=some (some (.int 0 xho))) (xc3:W.nsIn K mainGlobals "HIGH_reaches"=some (some (.int 1 xg2))) :
  ∃ fd:FuncData,(∀ (s:Shared) (v:Value),BindsTo s fd ⟨[v],[]⟩ [("script",v)])/\∀ base:Heap,K.In base->base.Ns mainGlobals mg->zW l.prog w K mg base CX0 12 fa fd ["script"] (upF K Dp.zfu):=by
 have e:=hfa.symm.trans (W.mg_of X G xjf)
 cases e
 have xba:∀ C,W.nsIn K mainGlobals "Ground"=some (some (.ref C))->zat K C "corners":=fun C hC=>by
  rw [xbo] at hC;cases hC;exact xc2
 have xfy:=zkj (st:=zbO) xed xeb xec
 have zbP:=xfy.binds (ps:=["self","corners"]) fun _ _ _ _ _ _ us hl=>by obtain⟨_,_,rfl⟩:=zoF hl;rfl
 have xbl:∀ C,W.nsIn K mainGlobals "Valley"=some (some (.ref C))->zat K C "ground":=fun C hC=>by
  rw [xac] at hC;cases hC;exact xdb
 have xa6:∀ C,W.nsIn K mainGlobals "Valley"=some (some (.ref C))->zat K C "beacons":=fun C hC=>by
  rw [xac] at hC;cases hC;exact xdh
 have xb6:∀ C,W.nsIn K mainGlobals "Valley"=some (some (.ref C))->zat K C "fogs":=fun C hC=>by
  rw [xac] at hC;cases hC;exact xdl
 have xb3:∀ C,W.nsIn K mainGlobals "Valley"=some (some (.ref C))->zat K C "haze":=fun C hC=>by
  rw [xac] at hC;cases hC;exact xc4
 have xbq:∀ C,W.nsIn K mainGlobals "Valley"=some (some (.ref C))->zat K C "first":=fun C hC=>by
  rw [xac] at hC;cases hC;exact xdo
 have xb4:∀ C,W.nsIn K mainGlobals "Valley"=some (some (.ref C))->zat K C "last":=fun C hC=>by
  rw [xac] at hC;cases hC;exact xcw
 have xbt:∀ C,W.nsIn K mainGlobals "Valley"=some (some (.ref C))->zat K C "delay":=fun C hC=>by
  rw [xac] at hC;cases hC;exact xct
 have xfx:=zkj (st:=zbQ) xea xd7 xd9
 have zbN:=xfx.binds (ps:=["self","ground","beacons","fogs","haze","first","last","delay"]) fun _ _ _ _ _ _ us hl=>by obtain⟨_,_,_,_,_,_,_,_,rfl⟩:=zxv hl;rfl
 have xlm:=zkj (st:=ze5) xjl xjn xji
 have xax:∀ C,W.nsIn K mainGlobals "OffGround"=some (some (.ref C))->ExC K C:=fun C h=>by
  rw [xb7] at h;cases h;exact ExC.of xe9
 have xaw:∃ C,W.nsIn K mainGlobals "OffGround"=some (some (.ref C))/\mg "OffGround"=some (.ref C):=⟨_,xb7,W.mg_of X G xb7⟩
 have xd0:∀ C,W.nsIn K mainGlobals "NoBeacon"=some (some (.ref C))->ExC K C:=fun C h=>by
  rw [xcq] at h;cases h;exact ExC.of xfn
 have xdy:∃ C,W.nsIn K mainGlobals "NoBeacon"=some (some (.ref C))/\mg "NoBeacon"=some (.ref C):=⟨_,xcq,W.mg_of X G xcq⟩
 have xr:=W.mg_none_of X G xjp
 have xav:=W.mg_none_of X G xha
 have xaa:=W.mg_none_of X G xfb
 have xd4:=W.mg_none_of X G xim
 have xa7:=W.mg_none_of X G xi5
 have xh9:=W.mg_none_of X G xju
 have xia:=W.mg_none_of X G xjg
 have xh7:=W.mg_none_of X G xjq
 have xan:=W.mg_none_of X G xer
 have xg7:=W.mg_none_of X G xie
 have xak:=W.mg_none_of X G xhr
 have xai:=W.mg_none_of X G xjk
 have xab:=W.mg_none_of X G xjd
 have xfl:=W.mg_none_of X G xgl
 have xh6:=W.mg_none_of X G xjo
 have xbr:∃ t,mg "LEAST_CORNERS"=some (.int 2 t):=⟨_,W.mg_of X G xcl⟩
 have xbx:∃ t,mg "MOST_CORNERS"=some (.int 40 t):=⟨_,W.mg_of X G xdn⟩
 have xbz:∃ t,mg "MOST_BEACONS"=some (.int 12 t):=⟨_,W.mg_of X G xc9⟩
 have xdz:∃ t,mg "MOST_FOGS"=some (.int 12 t):=⟨_,W.mg_of X G xfa⟩
 have xby:∃ t,mg "MOST_LETTERS"=some (.int 8 t):=⟨_,W.mg_of X G xcu⟩
 have xe3:∃ t,mg "LETTERS"=some (.str "abcdefghijklmnopqrstuvwxyz" t):=⟨_,W.mg_of X G xf6⟩
 have xew:∃ t,mg "NUMBERS"=some (.int 8 t):=⟨_,W.mg_of X G xf3⟩
 have xbn:∃ t,mg "LEFT"=some (.int 0 t):=⟨_,W.mg_of X G xii⟩
 have xay:∃ t,mg "RIGHT"=some (.int 1 t):=⟨_,W.mg_of X G xhq⟩
 have xae:∃ t,mg "LOW_fogs"=some (.int 2 t):=⟨_,W.mg_of X G xfr⟩
 have xad:∃ t,mg "HIGH_fogs"=some (.int 3 t):=⟨_,W.mg_of X G xe8⟩
 have xb5:∃ t,mg "FIRST"=some (.int 4 t):=⟨_,W.mg_of X G xhs⟩
 have xeq:∃ t,mg "LAST"=some (.int 5 t):=⟨_,W.mg_of X G xid⟩
 have xf9:∃ t,mg "DRIFT"=some (.int 6 t):=⟨_,W.mg_of X G xhk⟩
 have xgy:∃ t,mg "RISE"=some (.int 7 t):=⟨_,W.mg_of X G xip⟩
 have xch:∃ t,mg "TO"=some (.int 2 t):=⟨_,W.mg_of X G xku⟩
 have xao:∃ t,mg "STEP"=some (.int 3 t):=⟨_,W.mg_of X G xij⟩
 have xq:∃ t,mg "LOW_reaches"=some (.int 0 t):=⟨_,W.mg_of X G xd8⟩
 have xg:∃ t,mg "HIGH_reaches"=some (.int 1 t):=⟨_,W.mg_of X G xc3⟩
 refine⟨W.fnOf "law" "law" (zbM ze5) (za9 ze5) (zH ze5) .none xj3 xkc xkh xkd xio xka,fun s v=>.of_eq rfl,fun base _ _=>?_⟩
 have xce:=zX l.prog w base X G xcb (zkR xr xcb.F)
 have xau:=zX l.prog w base X G xdq (zl6 xdq.F)
 have xdx:=zX l.prog w base X G xdt (znb xau xav xaa xdt.F)
 have xb8:=zX l.prog w base X G xcf (zkK xaa xcf.F)
 have xef:=zX l.prog w base X G xek (zny xau xek.F)
 have xd2:=zX l.prog w base X G xdp (zmg xce xdx xb8 xef xdp.F)
 have xat:=zX l.prog w base X G xaq (zgl xr xav xbr xbx xaq.F)
 have xci:zkF l.prog w K mg base 2 "Ground" (upF K Dp.zfJ):=⟨⟨_,_,_,_,_,⟨xdc,xcz,xc1,xdm⟩,zkQ xat xba xd4 xfy,zbP,W.mg_of X G xbo,zof ⟨xdf,xcy,xdj,xc8⟩ xbo⟩⟩
 have xas:=zX l.prog w base X G xar (zgg xr xbz xdz xar.F)
 have xes:=zX l.prog w base X G xe2 (zpm xr xby xe3 xa7 xe2.F)
 have xa3:=zX l.prog w base X G xa4 (zhj xr xa7 xes xh9 xa4.F)
 have xbw:=zX l.prog w base X G xgv (ztP xgv.F)
 have xdi:=zX l.prog w base X G xgc (zsv xbw xgc.F)
 have xbm:=zX l.prog w base X G xbk (ziI xia xbk.F)
 have xem:=zX l.prog w base X G xen (znI xbm xen.F)
 have xdr:=zX l.prog w base X G xd1 (zm0 xem xd1.F)
 have xdw:=zge l.prog w base X G xdu (zmx xbw xdi xdr xax xaw xdu.F)
 have xcj:=zX l.prog w base X G xfi (zqF xbw xdi xdw xfi.F)
 have xbd:=zX l.prog w base X G xbc (zhA xa7 xcj xbc.F)
 have xep:=zX l.prog w base X G xee (znE xh7 xan xg7 xee.F)
 have xfp:=zX l.prog w base X G xfm (zpY xr xa7 xan xep xew xbn xay xae xad xb5 xeq xak xfm.F)
 have xbb:=zX l.prog w base X G xa8 (zhq xa7 xfp xa8.F)
 have xa0:=zX l.prog w base X G xaz (zhh xaz.F)
 have xft:zkF l.prog w K mg base 7 "Valley" (upF K Dp.zh4):=⟨⟨_,_,_,_,_,⟨xda,xde,xcx,xdd⟩,zk0 xd4 xci xas xa3 xbd xbb xa0 xbl xa6 xb6 xb3 xbq xb4 xbt xfx,zbN,W.mg_of X G xac,zof ⟨xdk,xc6,xc7,xc5⟩ xac⟩⟩
 have xco:=zX l.prog w base X G xcn (zlE xci xft xcn.F)
 have xaj:=zX l.prog w base X G xei (zno xei.F)
 have xd5:=zge l.prog w base X G xey (zoJ xd0 xdy xey.F)
 have xah:=zge l.prog w base X G xap (zf4 xax xaw xcj xap.F)
 have xbe:=zX l.prog w base X G xa9 (zhB xaa xai xab xa9.F)
 have xe6:=zX l.prog w base X G xe7 (zpd xe7.F)
 have xfq:=zge l.prog w base X G xfs (zrm xah xbe xe6 xfs.F)
 have xbi:=zX l.prog w base X G xbj (ziL xbj.F)
 have xbv:=zX l.prog w base X G xbu (ziZ xfq xbi xbu.F)
 have xfc:=zX l.prog w base X G xgd (zr6 xbn xay xae xad xf9 xgy xgd.F)
 have xd6:=zX l.prog w base X G xet (zoH xbn xay xae xad xai xab xet.F)
 have xbg:=zX l.prog w base X G xg0 (zuh xr xak xab xfl xg0.F)
 have xgb:=zX l.prog w base X G xf7 (zsC xb5 xeq xai xab xfc xd6 xbg xh6 xf7.F)
 have xds:=zX l.prog w base X G xdv (zmP xbg xgb xdv.F)
 have xgs:=zX l.prog w base X G xg6 (zua xbg xg6.F)
 have xg4:=zX l.prog w base X G xg3 (zuT xai xab xbg xg3.F)
 have xe5:=zX l.prog w base X G xe1 (zph xr xgs xg4 xe1.F)
 have xcv:=zge l.prog w base X G xga (zsI xd5 xbv xds xe5 xga.F)
 have xag:=zX l.prog w base X G xh8 (zvB xch xao xq xh8.F)
 have xb0:=zX l.prog w base X G xb1 (zkg xch xq xag xg xb1.F)
 have xck:=zX l.prog w base X G xfj (zqh xag xg xfj.F)
 have xb9:=zX l.prog w base X G xh5 (zwU xr xch xq xb0 xck xh5.F)
 have xam:=zX l.prog w base X G xeg (znd xak xab xb9 xeg.F)
 have xel:=zX l.prog w base X G xeh (znv xaj xcv xam xeh.F)
 have xev:=zX l.prog w base X G xe4 (zpb xam xe4.F)
 have xcp:=zX l.prog w base X G xcs (zlC xai xab xch xao xq xag xg xck xb9 xcs.F)
 have xa5:=zX l.prog w base X G xfv (zrb xak xcp xfv.F)
 have xal:=zX l.prog w base X G xeu (zpw xao xag xb9 xeu.F)
 have xbf:=zX l.prog w base X G xb2 (zjO xai xab xag xal xb2.F)
 have xcm:=zX l.prog w base X G xcr (zlB xao xag xal xbf xcr.F)
 have xbh:=zX l.prog w base X G xex (zo7 xr xak xai xab xq xg xal xcm xex.F)
 have xbp:=zX l.prog w base X G xbs (zja xr xaj xev xa5 xbh xbs.F)
 have xeo:=zX l.prog w base X G xej (znF xaj xel xbp xej.F)
 have xd3:=zX l.prog w base X G xez (zoS xq xag xg xez.F)
 have xca:=zX l.prog w base X G xcg (zkX xr xav xa5 xd3 xcg.F)
 exact zwb xr xav xaa xd2 xco xcv xam xa5 xbh xeo xca xlm
theorem walk {l:W.OpenLaw}{q:Program}{loose:List Str}{XP:(Str->Option Value)->Heap->Prop}{YP:World->Heap->Prop}{d:DefRec}{K:Params->W.Frag}(hn:l.most=some 63)(hdf:d.params.defaults=[])
  (hY:∀ (w:World) (h:Heap),YP w h->(K w.params).In h)
  (F:∀ (w:World) (mg:Str->Option Value) (fa:Addr) (h:Heap),(K w.params).In h->h.Ns mainGlobals mg->mg d.name=some (.ref fa) ->
   ∃ fd:FuncData,(∀ (s:Shared) (u:Value),BindsTo s fd ⟨[u],[]⟩ [("script",u)])/\∀ base:Heap,(K w.params).In base->base.Ns mainGlobals mg->zW l.prog w (K w.params) mg base CX0 12 fa fd ["script"] (upF (K w.params) Dp.zfu)) :
  W.WalkO q loose XP YP l.row.toRowW d [] (fun f vs=>PySem.call f vs) :=
 Dp.zsl (n:=63) (k:=12) (x:="script") (sp:=fun w=>upF (K w.params) Dp.zfu) hn (by decide) hdf ⟨rfl,by decide,by decide⟩ hY F fun _ _ _ _ hl hg hO hS=>zv6 hl hg hO hS
end Law
local macro_rules | `(tactic| walk_at "fh")=>`(tactic| (refine' Dp.zyg ?fa ?fl ?fc ?fk;(case fa=>k_is);(case fl=>k_is);(case fc=>k_is);(case fk=>k_is)))
open PySem PySem.W PyProof.Rows
namespace PySem.W.Fast
def tw1964895189048308470:=Prop
def tw2700329057056058641:=Prop
def tw13043902233751623948:=Prop
def tw17815597506123542563:=Prop
def tw4516889440469289851:=Prop
def tw16949226762018767913:=Prop
def tw989643143436199438:=Prop
def tw8118998544942111764:=Prop
def tw3421850817184917622:=Prop
def tw13688726285892487410:=Prop
def tw6505615422323478278:=Prop
def tw1379587143471958806:=Prop
def tw6360025327496020278:=Prop
def tw10453593843021539015:=Prop
def tw6652787951828757799:=Prop
def tw10055956700715415882:=Prop
def tw4279934899222195411:=Prop
def tw10397150775572928868:=Prop
def tw2979178233329950626:=Prop
def tw8022662426681608694:=Prop
def tw34428526046749758:=Prop
def tw2817310108445938373:=Prop
def tw9458353545448529550:=Prop
def tw6867041251390080336:=Prop
def tw6122342056603608606:=Prop
def tw1952339803365272987:=Prop
def tw17866372247352690572:=Prop
def tw11109112270537094892:=Prop
def tw10783208046353419196:=Prop
def tw10535088754696709826:=Prop
def tw13334481287953911884:=Prop
def tw11658810841316010457:=Prop
def tw10139286914126071842:=Prop
def tw16453215525657996308:=Prop
def tw5469715640902077550:=Prop
def tw4167844523230715516:=Prop
def tw9986924880358017176:=Prop
def tw17305559487212070799:=Prop
def tw14006230620368019176:=Prop
def tw13567257083001527188:=Prop
def tw4010873366384754554:=Prop
def tw4666535029268136099:=Prop
def tw14565085543760642974:=Prop
def tw195581305382872565:=Prop
def tw17352908065438237534:=Prop
def tw6478307406979474268:=Prop
def tw5734033351257515360:=Prop
def tw9428562485426259719:=Prop
def tw8147838602356008641:=Prop
def tw13265183093240627224:=Prop
def tw4047499836411039086:=Prop
def tw7272460977981316:=Prop
def tw15166371190211970890:=Prop
def tw7699345777865189302:=Prop
def tw13491100773291043219:=Prop
def tw7149324306138500378:=Prop
def tw18435188616562841475:=Prop
def tw3255550951001504192:=Prop
def tw17298934911127441136:=Prop
def tw8381676959319459833:=Prop
def tw5621954317765005077:=Prop
def tw17189377887293926738:=Prop
def tw2826681704746004049:=Prop
def tw18064952544195801047:=Prop
def tw7691000371532718211:=Prop
def tw7272029195915229276:=Prop
def tw5759840807648289830:=Prop
def tw6932908765215193108:=Prop
def tw8412979565293373403:=Prop
def tw15324423296358529325:=Prop
def tw6025074320886356464:=Prop
def tw10215338063449281479:=Prop
def tw2254829711058609160:=Prop
def tw16966555100679342366:=Prop
def tw8186686248764858547:=Prop
def tw13995677339674451667:=Prop
def tw525227081286399269:=Prop
def tw11002388950199895079:=Prop
def tw6734933729051282347:=Prop
def tw2335718413169649474:=Prop
def tw13886006343128171891:=Prop
def tw16224542977943936539:=Prop
def tw16298205205502464901:=Prop
def tw11949850046532007386:=Prop
def tw17602694767608691771:=Prop
def tw6154452726321655074:=Prop
def tw5666040206106306650:=Prop
def tw13064546315337976278:=Prop
def tw18263613883085157410:=Prop
def tw9844250641380652890:=Prop
def tw12073228991867181255:=Prop
def tw335095513577127526:=Prop
def tw5343593059522362285:=Prop
def tw9663166934771245785:=Prop
def tw3966435579986947618:=Prop
def tw15532709026648911937:=Prop
def tw14143459241751706296:=Prop
def tw12307591006260916440:=Prop
def tw4916184141065246900:=Prop
def tw2155501520008276113:=Prop
def tw14314066714039574840:=Prop
def tw13008349892860993068:=Prop
def tw10870862024452989149:=Prop
def tw9259447751820881685:=Prop
def tw4680668439009101767:=Prop
def tw13379433700055404319:=Prop
def tw1229494086414708082:=Prop
def tw5922818816804056258:=Prop
def tw5412997360166692118:=Prop
def tw7882710028266937023:=Prop
def tw15658399747429127620:=Prop
def tw12927949829026131068:=Prop
def tw12990720800691953543:=Prop
def tw16695074918893871906:=Prop
def tw14748491555327871509:=Prop
def tw7533347362010529893:=Prop
def tw7507991922497306763:=Prop
def tw15486866270167298669:=Prop
def tw4747480526397682549:=Prop
def tw5094236246279903276:=Prop
def tw15492841694383634957:=Prop
def tw11374210778628868665:=Prop
def tw8514469787664458019:=Prop
def tw9322073935164622669:=Prop
def tw16083058288030247286:=Prop
def tw12727459042803521788:=Prop
def tw16330612806678452207:=Prop
def tw9498623862167180876:=Prop
def tw5998256781161441791:=Prop
def tw15093424253483742012:=Prop
def tw3786691313215571047:=Prop
def tw9272942801742134170:=Prop
def tw15834936052613615291:=Prop
def tw3958144048759467740:=Prop
def tw11385922580050493055:=Prop
def tw17387199880907877822:=Prop
def tw1386339051259414155:=Prop
def tw6048817961944475604:=Prop
def tw5690017019103736241:=Prop
def tw8008543292779159166:=Prop
def tw10015779062536810353:=Prop
def tw1963129934869573444:=Prop
def tw8156968504828170402:=Prop
def tw2009218794088362602:=Prop
def tw10330729675309078250:=Prop
def tw6342302002351753414:=Prop
def tw14828630251441920325:=Prop
def tw12371471686994342250:=Prop
def tw13679430485225830135:=Prop
def tw7872073386095350311:=Prop
def tw2225603479908580042:=Prop
def tw1792072740384337021:=Prop
def tw4157753087389485168:=Prop
def tw4103682789686902013:=Prop
def tw2275837570682065336:=Prop
def tw15158575823990136928:=Prop
def tw9708454297155513650:=Prop
def tw6134024817057186844:=Prop
def tw8450683721096426715:=Prop
def tw7934146668744222693:=Prop
def tw11600257844629256568:=Prop
def tw13688219585158301875:=Prop
def tw15496237245678145987:=Prop
def tw6986363282394197544:=Prop
def tw15253377135221715030:=Prop
def tw10782713312556926779:=Prop
def tw11027349398003594735:=Prop
def tw15275797024017713560:=Prop
def tw2034147294887484919:=Prop
def tw10677826684113372454:=Prop
def tw15894615868719687411:=Prop
def tw5654764333283460009:=Prop
def tw7037832865525280676:=Prop
def tw9352812154007797742:=Prop
def tw7141617497082079442:=Prop
def tw11983751747356276576:=Prop
def tw4453379342209421559:=Prop
def tw14468508657906649070:=Prop
def tw18292477995316079783:=Prop
def tw16103154614677536967:=Prop
def tw1761299822518200672:=Prop
def tw4936274280535014822:=Prop
def tw17233627649967503652:=Prop
def tw5962867589274833803:=Prop
def tw11126182178237026002:=Prop
def tw16836275188888679202:=Prop
def tw7275324838884597978:=Prop
def tw12262844235622561961:=Prop
def tw6930575607099632124:=Prop
def tw10076515654860637387:=Prop
def tw13856597169033301488:=Prop
def tw16360232146697442894:=Prop
def tw6400159384407750300:=Prop
def tw11105123633476877631:=Prop
def tw16896806304448366192:=Prop
def tw2114822838130637522:=Prop
def tw15781179636390979875:=Prop
def tw14698341972997531840:=Prop
def tw7682235627575449672:=Prop
def tw14463240879500091681:=Prop
def tw4940751153592825549:=Prop
def tw15519799617125274533:=Prop
def tw11522128296506947670:=Prop
def tw4161993034882665773:=Prop
def tw12168068252300858959:=Prop
def tw9563507824307174614:=Prop
def tw3014478619372048770:=Prop
def tw9356047434969445856:=Prop
def tw7255468374962982341:=Prop
def tw10395384488081499488:=Prop
def tw5385366861495268351:=Prop
def tw15520623104847589450:=Prop
def tw10772610309534156342:=Prop
def tw1207393844348722013:=Prop
def tw13481268663607397202:=Prop
def tw9305770581274649185:=Prop
def tw17371558939853950096:=Prop
def tw14034331088529175408:=Prop
def tw15025787418835637241:=Prop
def tw7648106156575076047:=Prop
def tw5744477681889671402:=Prop
def tw6319625272822607335:=Prop
def tw1860576317160781538:=Prop
end PySem.W.Fast
set_option maxRecDepth 100000 in
set_option maxHeartbeats 0 in
theorem PySem.Challenge.cw_beaconvale_k75_whole_no_third_helps_holds : PySem.Challenge.rw_beaconvale_k75_whole_no_third_helps.Holds := by
 w_on; o_law; k_head; (case hw => w_witness2)
 k_fill
 refine Law.walk (l := PySem.Challenge.rw_beaconvale_k75_whole_no_third_helps) rfl rfl (fun w h Y => PySem.W.kIn_of Y) ?F
 case F =>
  intro w mg fa h KX G hmg
  refine' Law.all_mk KX G hmg ?ae ?af ?ah ?ai ?aj ?ak ?ao ?aq ?aw ?ax ?ay ?aA ?aB ?aC ?aD ?aE ?aF ?aG ?aH ?aI ?aJ ?aK ?aL ?aM ?aN ?aO ?aP ?aQ ?aR ?aS ?aT ?aU ?aV ?aW ?aX ?aY ?aZ ?a8 ?a9 ?be ?bf ?bh ?bi ?bj ?bp ?bq ?br ?bu ?bv ?bw ?bx ?bA ?bC ?bD ?bE ?bF ?bG ?bH ?bI ?bJ ?bK ?bM ?bN ?bO ?bP ?bQ ?bS ?bU ?bV ?bW ?bX ?bY ?bZ ?b7 ?b8 ?b9 ?cc ?ce ?cf ?cg ?cj ?ck ?cq ?cr ?cu ?cv ?cx ?cy ?cz ?cA ?cB ?cC ?cD ?cE ?cF ?cG ?cH ?cI ?cJ ?cK ?cL ?cM ?cN ?cO ?cP ?cQ ?cR ?cS ?cT ?cU ?cV ?cW ?cX ?cY ?cZ ?c6 ?c7 ?c8 ?c9 ?de ?df ?dg ?dh ?di ?dj ?dm ?dn ?dq ?dr ?du ?dv
  case cE|cG|aq|aY|aB|bf=>k_is
  case ae|af|ah|ai|aj|ak|ao=>walk_at "fh"
  case aw|ax|ay|aA|aC|aD|aE|aF|aG|aH|aI=>k_is
  case aJ|aK|aL|aM|aN|aO|aP|aQ|aR|aS|aT|aU|aV|aW|aX=>walk_at "fh"
  case aZ|a8|a9|be|bh|bi|bj|bp|bq|br|bu|bv|bw|bx|bA|bC|bD=>k_is
  case bE|bF|bG|bH|bI|bJ|bK|bM|bN|bO|bP|bQ|bS|bU|bV|bW|bX|bY|bZ|b7|b8|b9|cc|ce|cf|cg|cj|ck|cq|cr|cu|cv|cx|cy|cz=>walk_at "fh"
  case cA|cB|cC|cD=>k_is
  case cF|cH=>kernel_rfl
  case cI|cJ|cK|cL|cM|cN|cO|cP|cQ|cR|cS|cT|cU|cV|cW|cX|cY|cZ|c6|c7|c8|c9|de|df|dg|dh|di|dj|dm|dn|dq|dr|du|dv=>k_is
#print axioms PySem.Challenge.cw_beaconvale_k75_whole_no_third_helps_holds
