import PyProof.Rows.All
import Wide.All
import OpenK.AllK
import Wide.FinOn
import Lean
import PyProof.EqAt
import PyProof.EqKinds
import PyProof.TupleCall
import PyProof.NeData
import PyProof.P3Eq
import PyProof.StrLawsIn
import PyProof.StrLawsJoin
import PyProof.StrBlockL
import PyProof.Rows.StrSplitCount
import KE.KMinKey
import KE.KLam
import KE.KDictList
import PySem.Challenge.RW_beaconvale_k73_heard_by_an_hour
set_option Elab.async false
set_option linter.all false
set_option maxRecDepth 100000
set_option maxHeartbeats 4000000
set_option Elab.async false
set_option linter.all false
set_option maxRecDepth 100000
def qb:=@List.length_map
def qc:=@List.getElem?_eq_getElem
def qd:=@PySem.Heap.get?_push_of_some
def qe:=@Nat.le_refl
def qf:=@List.mem_of_getElem?
def qg:=@List.mem_cons
def qh:=@List.append_assoc
def qi:=@List.length_append
def qj:=@List.getElem?_append_right
def qk:=@List.getElem?_map
def ql:=@List.lookup_cons
def qm:=@List.size_toArray
def qo:=@PySem.Heap.lt_size
def qp:=@PySem.Heap.get?_push_size
def qq:=@List.mem_cons_of_mem
def qr:=@Nat.lt_of_lt_of_le
def qu:=@List.getElem?_append_left
def qv:=@Bool.false_ne_true
def qw:=@List.getD_eq_getElem?_getD
def qA:=@Bool.and_eq_true
def qB:=@List.not_mem_nil
def qC:=@Nat.ne_of_lt
def qD:=@List.length_replicate
def qE:=@List.getElem?_eq_none
def qF:=@List.mem_append
def qG:=@List.getElem?_eq_some_iff
def qH:=@List.map_append
def qI:=@List.map_cons
def qJ:=@List.length_cons
def qK:=@List.mem_append_right
def qL:=@Array.length_toList
def qM:=@Option.some.inj
def qN:=@List.getElem?_set_ne
def qO:=@List.mem_filter
def qP:=@Nat.zero_le
def qQ:=@List.mem_append_left
def qR:=@Nat.le_trans
def qS:=@List.getElem?_set_self
def qT:=@List.map_map
def qU:=@List.mem_map
def qV:=@Nat.lt_irrefl
def qW:=@List.length_range
def qX:=@Nat.lt_or_ge
def qY:=@PySem.Heap.size_push
def qZ:=@List.pairwise_cons
def qaa:=@Option.isSome_iff_exists
def qab:=@List.mem_iff_getElem
def qac:=@Int.le_refl
def qad:=@List.length_set
def qae:=@List.pairwise_iff_getElem
def qaf:=@List.length_take
def qag:=@List.all_eq_true
def qah:=@Nat.le_of_ble_eq_true
def qai:=@List.mem_filterMap
def qaj:=@Nat.ne_of_gt
namespace L2
open PySem PySem.Spec PyProof.Rows
abbrev Key:=Sum Int Str
def zfA:Key->Value->Bool
 |.inl k,v=>Value.isInt k v
 |.inr x,v=>Value.isStrOf x v
def zx4 (w:World):Key->Int
 |.inl k=>hashInt k
 |.inr x=>hashStr w x
theorem zaT:∀ {k:Key} {v:Value},zfA k v=true->(∃ i t,k=Sum.inl i/\v=Value.int i t)\/(∃ x t,k=Sum.inr x/\v=Value.str x t)
 |.inl i,v,h=>by
  obtain⟨t,e⟩:=Value.isInt_shape (k:=i) (v:=v) h;exact .inl ⟨i,t,rfl,e⟩
 |.inr x,v,h=>by
  obtain⟨t,e⟩:=Value.isStrOf_shape (x:=x) (v:=v) h;exact .inr ⟨x,t,rfl,e⟩
def zpk (i:Int)(t:Tok):zfA (.inl i) (.int i t)=true:=by simp[zfA,Value.isInt]
def zn3 (x:Str)(t:Tok):zfA (.inr x) (.str x t)=true:=by simp[zfA,Value.isStrOf]
def zu4 (a b:Int):decide ((Sum.inl a:Key)=Sum.inl b)=(a==b):=by
 by_cases e:a=b
 ·subst e;simp
 ·have h:¬ (Sum.inl a:Key)=Sum.inl b:=fun q=>e (Sum.inl.inj q)
  rw[decide_eq_false h];exact(beq_eq_false_iff_ne.mpr e).symm
def zus (a b:Str):decide ((Sum.inr a:Key)=Sum.inr b)=decide (a=b):=by
 by_cases e:a=b
 ·subst e;simp
 ·have h:¬ (Sum.inr a:Key)=Sum.inr b:=fun q=>e (Sum.inr.inj q)
  rw[decide_eq_false h,decide_eq_false e]
def zud (a:Int)(b:Str):decide ((Sum.inl a:Key)=Sum.inr b)=false:=decide_eq_false (fun q=>nomatch q)
def ztM (a:Str)(b:Int):decide ((Sum.inr a:Key)=Sum.inl b)=false:=decide_eq_false (fun q=>nomatch q)
def zaH (prog:Program)(w:World):PySem.KeyKind prog w Key where
  is:=zfA
  hash:=zx4 w
  inj:=fun v a b ha hb=>by
    rcases zaT ha with⟨i,t,rfl,rfl⟩|⟨x,t,rfl,rfl⟩
    . rcases zaT hb with⟨j,u,rfl,e⟩|⟨y,u,rfl,e⟩
      . injection e with e1 _;rw[e1]
      . exact nomatch e
    . rcases zaT hb with⟨j,u,rfl,e⟩|⟨y,u,rfl,e⟩
      . exact nomatch e
      . injection e with e1 _;rw[e1]
  byValue:=fun k v h=>by
    rcases zaT h with⟨i,t,rfl,rfl⟩|⟨x,t,rfl,rfl⟩<;>rfl
  pyHash:=fun hv h=>by
    rcases zaT hv with⟨i,t,rfl,rfl⟩|⟨x,t,rfl,rfl⟩
    . exact wpAny_pyHash_int h
    . exact wpAny_pyHash_str h
  eqBool:=fun hu hv h=>by
    rcases zaT hu with⟨i,t,rfl,rfl⟩|⟨x,t,rfl,rfl⟩
    . rcases zaT hv with⟨j,u,rfl,rfl⟩|⟨y,u,rfl,rfl⟩
      . rw[zu4]at h;exact wpAny_eqBool_int h
      . rw[zud]at h;exact SeqAt.EqAt.int_str i t y u _ _ _ _ h
    . rcases zaT hv with⟨j,u,rfl,rfl⟩|⟨y,u,rfl,rfl⟩
      . rw[ztM]at h;exact SeqAt.EqAt.str_int x t j u _ _ _ _ h
      . rw[zus]at h;exact wpAny_eqBool_str h
  «strs»:=fun k x t v h=>by
    rcases zaT h with⟨i,u,rfl,e⟩|⟨y,u,rfl,e⟩
    . exact nomatch e
    . injection e with e1 _;subst e1;cases v<;>rfl
def znr (prog:Program)(w:World)(k:Key)(v:Value):(zaH prog w).is k v=zfA k v:=rfl
def zlS (prog:Program)(w:World)(i:Int)(t:Tok):(zaH prog w).is (.inl i) (.int i t)=true:=zpk i t
def zlC (prog:Program)(w:World)(x:Str)(t:Tok):(zaH prog w).is (.inr x) (.str x t)=true:=zn3 x t
inductive V where
 |non|bl (b:Bool)|int (i:Int)|str (x:Str)|byt (b:Array UInt8)|flt (b:UInt64)|ref (a:Addr)|ty (n:String)
 deriving DecidableEq
def RelV:V->Value->Prop
 |.non,u=>u=Value.none
 |.bl b,u=>u=Value.bool b
 |.int i,u=>∃ t,u=Value.int i t
 |.str x,u=>∃ t,u=Value.str x t
 |.byt b,u=>∃ t,u=Value.bytes b t
 |.flt b,u=>∃ t,u=Value.float b t
 |.ref a,u=>u=Value.ref a
 |.ty n,u=>u=Value.type n
abbrev Vals:List V->List Value->Prop:=Paired RelV
theorem Vals.length {xs:List V}{us:List Value}(r:Vals xs us):xs.length=us.length:=Paired.length r
theorem Vals.get:∀ {xs:List V} {us:List Value} {i:Nat} {x:V},Vals xs us->xs[i]?=some x->∃ u,us[i]?=some u/\RelV x u
 |_,_,_,_,.nil,e=>by simp at e
 |_,_,0,_,.cons r _,e=>by simp at e;subst e;exact⟨_,rfl,r⟩
 |_,_,i+1,x,.cons _ t,e=>by
  obtain⟨u,h1,h2⟩:=Vals.get (i:=i) (x:=x) t (by simpa using e);exact⟨u,by simpa using h1,h2⟩
theorem Vals.set {x:V}{u:Value}(r:RelV x u):∀ {xs:List V} {us:List Value} (i:Nat),Vals xs us->Vals (xs.set i x) (us.set i u)
 |_,_,_,.nil=>.nil
 |_,_,0,.cons _ t=>.cons r t
 |_,_,i+1,.cons q t=>.cons q (Vals.set r i t)
theorem Vals.append:∀ {xs ys:List V} {us ws:List Value},Vals xs us->Vals ys ws->Vals (xs++ys) (us++ws)
 |_,_,_,_,.nil,s=>s
 |_,_,_,_,.cons r t,s=>.cons r (Vals.append t s)
theorem Vals.take:∀ {xs:List V} {us:List Value} (n:Nat),Vals xs us->Vals (xs.take n) (us.take n)
 |_,_,0,_=>.nil
 |_,_,_+1,.nil=>.nil
 |_,_,n+1,.cons r t=>.cons r (Vals.take n t)
theorem Vals.drop:∀ {xs:List V} {us:List Value} (n:Nat),Vals xs us->Vals (xs.drop n) (us.drop n)
 |_,_,0,r=>r
 |_,_,_+1,.nil=>.nil
 |_,_,n+1,.cons _ t=>Vals.drop n t
def zda:Option V->Option Value->Prop
 |some v,some u=>RelV v u
 |none,none=>True
 |_,_=>False
def KV {κ:Type}:List (κ×V)->List (κ×Value)->Prop:=Paired fun (p:κ×V) (q:κ×Value)=>p.1=q.1/\RelV p.2 q.2
def kV:Key->V
 |.inl i=>.int i
 |.inr x=>.str x
inductive HO where
 |lst (xs:List V)
 |tup (xs:List V)
 |dK (kvs:List (Key×V))|dT (kvs:List (List Key×V))
 |set (S:Int->Bool) (n:Nat)
 |ins (C dx:Addr) (fs:List (Str×V))
 |own (x:Addr)
 |xd (fs:List (Str×V))
 |met (f x:Addr)
 |rng (lo hi:Int)
 |frz (o:Obj) (u:HO)
 |tbl (ps:Array Value)
 |ext (φ:Heap->Prop)
abbrev Hp:=Addr->Option HO
def upd (H:Hp)(a:Addr)(o:HO):Hp:=fun b=>if b=a then some o else H b
def zY {H:Hp}{a:Addr}{o:HO}:upd H a o a=some o:=by unfold upd;rw[if_pos rfl]
def zL {H:Hp}{a b:Addr}{o:HO}(h:b≠a):upd H a o b=H b:=by unfold upd;rw[if_neg h]
def zc7 {H:Hp}{a b:Addr}{o u:HO}(h:H a=some o)(h':H b=some u)(d:o≠u):a≠b:=by
 intro e;subst e;rw[h]at h';exact d (qM h')
def zbi {H:Hp}{a b:Addr}{o:HO}(h:H a=some o)(h':H b=none):a≠b:=by
 intro e;subst e;rw[h]at h';cases h'
section
variable (P:Program)(w:World)
def zaB (H:Hp)(h:Heap)(a:Addr):HO->Prop
 | .lst xs=>xs.length<=sizeLine/\∃ (its:List Value) (n:Nat),Vals xs its/\h.get? a=some { cls:=.type "list",data:=.seq its.toArray n }
 |.tup xs=>xs.length<=sizeLine/\∃ its:List Value,Vals xs its/\IsTup h a its.toArray
 |.dK kvs=>kvs.length<=sizeLine/\(a==sysModules)=false/\∃ vs,KV kvs vs/\h.DictOf (zaH P w) a vs
 |.dT kvs=>kvs.length<=sizeLine/\(a==sysModules)=false/\∃ xs:List (List Key×Addr×Value),
   Paired (fun (p:List Key×V) (q:List Key×Addr×Value)=>p.1=q.1/\H q.2.1=some (.tup (p.1.map kV))/\RelV p.2 q.2.2) kvs xs /\
   ∃ o es ep,h.get? a=some o/\o.ExactDict/\o.data=.dict es ep/\es.toList=xs.map (entryOfKey (tupleKind (zaH P w)))/\(xs.map (·.1)).Nodup
 |.set S n=>h.SetOf (intKind P w) a S n
 |.ins C dx fs=>H dx=some (.own a)/\fs.length<=1000/\dx≠a/\h.get? a=some (PySem.W.instObj C dx) /\
   ∃ mA,h.Ns1 dx mA/\(∀ f,zda (fs.lookup f) (mA f))/\PySem.Within mA (fs.map (·.1))
 |.own _=>∃ o,h.get? a=some o
 |.xd fs=>∃ mA,h.Ns1 a mA/\∀ f,zda (fs.lookup f) (mA f)
 | .rng lo hi=>∃ t u v,h.get? a=some { cls:=.type "range",data:=.fields #[.int lo t,.int hi u,.int 1 v] }
 |.frz o u=>h.get? a=some o/\zaB H h a u
 |.tbl ps=>h.get? a=some { cls:=.none,data:=.fields ps }
 |.met f x=>h.get? a=some (PySem.W.methodObj (.ref f) (.ref x))
 |.ext φ=>φ h/\(∃ o,h.get? a=some o)/\∀ h1 h2:Heap,φ h1->(∀ o,h1.get? a=some o->h2.get? a=some o)->φ h2
def HOk (H:Hp)(h:Heap):Prop:=∀ a o,H a=some o->zaB P w H h a o
end
section
variable {P:Program}{w:World}{H H':Hp}{h h':Heap}{a:Addr}{o:HO}
theorem zaB.lt (x:zaB P w H h a o):a<h.objs.size:=by
 cases o with
 |lst xs=>obtain⟨_,_,_,_,e⟩:=x;exact qo e
 |tup xs=>obtain⟨_,_,_,p⟩:=x;exact p.lt
 |dK kvs=>obtain⟨_,_,_,_,o,_,_,e,_⟩:=x;exact qo e
 |dT kvs=>obtain⟨_,_,_,_,o,_,_,e,_⟩:=x;exact qo e
 |set S n=>obtain⟨o,_,_,_,e,_⟩:=x;exact qo e
 |ins C dx fs=>obtain⟨_,_,_,e,_⟩:=x;exact qo e
 |own y=>obtain⟨_,e⟩:=x;exact qo e
 |xd fs=>obtain⟨_,⟨_,_,_,e,_⟩,_⟩:=x;exact qo e
 |rng lo hi=>obtain⟨_,_,_,e⟩:=x;exact qo e
 |frz ob u=>obtain⟨e,_⟩:=x;exact qo e
 |tbl ps=>exact qo (show h.get? a=some _ from x)
 |met f y=>exact qo (show h.get? a=some _ from x)
 |ext φ=>obtain⟨_,⟨_,e⟩,_⟩:=x;exact qo e
theorem Paired.mapP {α β:Type}{F G:α->β->Prop}:∀ {l₁:List α} {l₂:List β},Paired F l₁ l₂->(∀ a b,F a b->G a b)->Paired G l₁ l₂
 |_,_,.nil,_=>.nil
 |_,_,.cons r t,f=>.cons (f _ _ r) (Paired.mapP t f)
def Paired.imp' {α β:Type}{F G:α->β->Prop}(f:∀ a b,F a b->G a b){l₁:List α}{l₂:List β}(r:Paired F l₁ l₂):Paired G l₁ l₂:=Paired.mapP r f
def zaB.stay (x:zaB P w H h a o)(k:∀ b u,(b=a\/H b=some (.own a))->h.get? b=some u->h'.get? b=some u)
  (ho:∀ b,H b=some (.own a)->H' b=some (.own a)) (ht:∀ b xs,H b=some (.tup xs)->H' b=some (.tup xs)):zaB P w H' h' a o:=by
 induction o with
 |lst xs=>obtain⟨z,its,n,r,e⟩:=x;exact⟨z,its,n,r,k _ _ (.inl rfl) e⟩
 |tup xs=>obtain⟨z,its,r,ob,e,c⟩:=x;exact⟨z,its,r,ob,k _ _ (.inl rfl) e,c⟩
 |dK kvs=>obtain⟨z,y,vs,r,ob,es,ep,e,c⟩:=x;exact⟨z,y,vs,r,ob,es,ep,k _ _ (.inl rfl) e,c⟩
 |dT kvs =>
  obtain⟨z,y,xs,r,ob,es,ep,e,c⟩:=x;exact⟨z,y,xs,Paired.mapP r fun p q z=>⟨z.1,ht _ _ z.2.1,z.2.2⟩,ob,es,ep,k _ _ (.inl rfl) e,c⟩
 |set S n=>obtain⟨ob,es,ep,t,e,c⟩:=x;exact⟨ob,es,ep,t,k _ _ (.inl rfl) e,c⟩
 |ins C dx fs =>
  obtain⟨d,z,ne,e,mA,⟨od,es,ep,e2,c⟩,r⟩:=x;exact⟨ho _ d,z,ne,k _ _ (.inl rfl) e,mA,⟨od,es,ep,k _ _ (.inr d) e2,c⟩,r⟩
 |own y=>obtain⟨ob,e⟩:=x;exact⟨ob,k _ _ (.inl rfl) e⟩
 |xd fs=>obtain⟨mA,⟨od,es,ep,e,c⟩,r⟩:=x;exact⟨mA,⟨od,es,ep,k _ _ (.inl rfl) e,c⟩,r⟩
 |rng lo hi=>obtain⟨t,u,v,e⟩:=x;exact⟨t,u,v,k _ _ (.inl rfl) e⟩
 |frz ob u ih=>obtain⟨e,q⟩:=x;exact⟨k _ _ (.inl rfl) e,ih q⟩
 |tbl ps =>
  have e:h.get? a=some { cls:=.none,data:=.fields ps }:=x;show h'.get? a=some { cls:=.none,data:=.fields ps };exact k a _ (.inl rfl) e
 |met f y =>
  have e:h.get? a=some (PySem.W.methodObj (.ref f) (.ref y)):=x;show h'.get? a=some (PySem.W.methodObj (.ref f) (.ref y));exact k a _ (.inl rfl) e
 |ext φ=>obtain⟨p,⟨o,e⟩,st⟩:=x;exact⟨st _ _ p fun o q=>k _ _ (.inl rfl) q,⟨o,k _ _ (.inl rfl) e⟩,st⟩
theorem HOk.lt (x:HOk P w H h)(e:H a=some o):a<h.objs.size:=(x a o e).lt
def HOk.fresh (x:HOk P w H h)(e:h.objs.size<=a):H a=none:=by
 cases q:H a with
 |none=>rfl
 |some u=>exact absurd (qr (x.lt q) e) (qV _)
def HOk.kept (x:HOk P w H h)(k:∀ b u,h.get? b=some u->h'.get? b=some u):HOk P w H h':=fun a o e =>
 (x a o e).stay (fun b u _ q=>k b u q) (fun _ q=>q) fun _ _ q=>q
def HOk.laid (x:HOk P w H h)(k:∀ b u,h.get? b=some u->h'.get? b=some u)(hp:h.objs.size<=a)(new:zaB P w (upd H a o) h' a o):HOk P w (upd H a o) h':=fun b u e=>by
 have hn:=x.fresh hp;by_cases hb:b=a
 ·subst hb;rw[zY]at e;cases e;exact new
 ·rw[zL hb]at e;exact(x b u e).stay (fun c v _ q=>k c v q) (fun c q=>by rw[zL (zbi q hn)];exact q) fun c xs q=>by rw[zL (zbi q hn)];exact q
end
def Rd (H:Hp)(a:Addr)(u:HO):Prop:=H a=some u\/∃ o,H a=some (.frz o u)
def Rd.ok {P:Program}{w:World}{H:Hp}{h:Heap}{a:Addr}{u:HO}(r:Rd H a u)(x:HOk P w H h):zaB P w H h a u:=by
 rcases r with r|⟨o,r⟩
 ·exact x a u r
 ·obtain⟨_,q⟩:=x a _ r;exact q
def Mut:Option HO->Prop
 |some (.lst _)=>True
 |some (.dK _)=>True
 |some (.dT _)=>True
 |some (.set _ _)=>True
 |some (.ins _ _ _)=>True
 |some (.ext _)=>True
 |_=>False
section
variable {P:Program}{w:World}{H:Hp}{h h':Heap}{x e:Addr}{o':HO}
def HOk.write (ok:HOk P w H h)(mu:Mut (H x))(he:e=x\/H e=some (.own x))(k:∀ b u,b≠e->h.get? b=some u->h'.get? b=some u)(heo:∃ u,h'.get? e=some u)
  (new:zaB P w (upd H x o') h' x o'):HOk P w (upd H x o') h':=fun b u q=>by
 have nown:∀ c y,H c=some (.own y)->c≠x:=fun c y r z=>by subst z;rw[r]at mu;exact mu
 have ntup:∀ c xs,H c=some (.tup xs)->c≠x:=fun c xs r z=>by subst z;rw[r]at mu;exact mu
 by_cases hb:b=x
 ·subst hb;rw[zY]at q;cases q;exact new
 ·rw[zL hb]at q;by_cases hbe:b=e
  ·have q':H b=some (.own x):=by
    rcases he with z|z
    ·exact absurd (hbe.trans z) hb
    ·rw[hbe];exact z
   rw[q]at q';cases q';obtain⟨v,hv⟩:=heo;exact⟨v,by rw[hbe];exact hv⟩
  ·refine(ok b u q).stay (fun c v hc r=>k c v ?_ r) (fun c r=>by rw[zL (nown c b r)];exact r) fun c xs r=>by rw[zL (ntup c xs r)];exact r
   rcases hc with rfl|hc
   ·exact hbe
   ·rintro rfl;rcases he with z|z
    ·exact nown c b hc z
    ·rw[hc]at z;cases z;exact hb rfl
end
structure Un (fs ex:List Addr)(H H':Hp)(h h':Heap):Prop where
 keep:∀ b o,h.get? b=some o->H b=none->b∉fs->b∉ex->h'.get? b=some o
 slot:∀ b o,h.get? b=some o->H b=none->b∈fs->b∉ex->∃ sl,h'.get? b=some { o with slots:=sl }
 free:∀ b o,h.get? b=some o->H b=none->b∉ex->H' b=none
 there:∀ b o,h.get? b=some o->b∉ex->∃ o',h'.get? b=some o'
 tups:∀ b xs,H b=some (.tup xs)->H' b=some (.tup xs)
 frzs:∀ b o u,H b=some (.frz o u)->H' b=some (.frz o u)
 tbls:∀ b ps,H b=some (.tbl ps)->∃ more,H' b=some (.tbl (ps++more))
section
variable {fs fs' ex ex':List Addr}{H H1 H2:Hp}{h h1 h2 h':Heap}{a x e:Addr}{o:HO}
def Un.any (u:Un fs ex H H1 h h1){b:Addr}{ob:Obj}(q:h.get? b=some ob)(n:H b=none)(hx:b∉ex):∃ sl,h1.get? b=some { ob with slots:=sl }:=by
 by_cases hb:b∈fs
 ·exact u.slot b ob q n hb hx
 ·exact⟨ob.slots,u.keep b ob q n hb hx⟩
def Un.kept (k:∀ b u,h.get? b=some u->h'.get? b=some u):Un fs ex H H h h' :=
 ⟨fun b ob q _ _ _=>k b ob q,fun b ob q _ _ _=>⟨ob.slots,k b ob q⟩,fun _ _ _ n _=>n,fun b ob q _=>⟨ob,k b ob q⟩,fun _ _ q=>q,fun _ _ _ q=>q,fun _ ps q=>⟨#[],by rw[q];simp⟩⟩
def Un.refl:Un fs ex H H h h:=Un.kept fun _ _ q=>q
def Un.laid (k:∀ b u,h.get? b=some u->h'.get? b=some u)(hp:h.objs.size<=a)(hn:H a=none):Un fs ex H (upd H a o) h h' where
 keep:=fun b u q _ _ _=>k b u q
 slot:=fun b u q _ _ _=>⟨u.slots,k b u q⟩
 free:=fun b u q n _=>by rw[zL (qC (qr (qo q) hp))];exact n
 there:=fun b u q _=>⟨u,k b u q⟩
 tups:=fun b xs q=>by rw[zL (zbi q hn)];exact q
 frzs:=fun b u xs q=>by rw[zL (zbi q hn)];exact q
 tbls:=fun b ps q=>⟨#[],by rw[zL (zbi q hn),q];simp⟩
def Un.write (mu:Mut (H x))(he:e=x\/H e=some (.own x))(k:∀ b u,b≠e->h.get? b=some u->h'.get? b=some u)(heo:∃ u,h'.get? e=some u):Un fs ex H (upd H x o) h h':=by
 have hx:∀ b,H b=none->b≠x:=fun b n z=>by subst z;rw[n]at mu;exact mu
 have hb:∀ b,H b=none->b≠e:=fun b n z=>by
  subst z;rcases he with r|r
  ·exact hx b n r
  ·rw[n]at r;cases r
 have hm:∀ b u,H b=some u->¬ Mut (some u)->b≠x:=fun b u q nm z=>by subst z;rw[q]at mu;exact nm mu
 refine⟨fun b u q n _ _=>k b u (hb b n) q,fun b u q n _ _=>⟨u.slots,k b u (hb b n) q⟩,fun b u q n _=>by rw[zL (hx b n)];exact n,fun b u q _=>?_,
  fun b xs q=>by rw[zL (hm b _ q fun z=>z)];exact q,fun b u xs q=>by rw[zL (hm b _ q fun z=>z)];exact q,fun b ps q=>⟨#[],by rw[zL (hm b _ q fun z=>z),q];simp⟩⟩
 by_cases hbe:b=e
 ·subst hbe;exact heo
 ·exact⟨u,k b u hbe q⟩
end
def trk (h:Heap)(H:Hp):List Addr:=(List.range h.objs.size).filter fun a=>(H a).isSome
def zgg (h:Heap)(H:Hp):Heap:=PySem.W.hideAll h (trk h H)
def zoP (h:Heap)(H:Hp):(zgg h H).objs.size=h.objs.size:=PySem.W.hideAll_size _ _
def zhA {h:Heap}{H:Hp}{b:Addr}{o:Obj}(e:h.get? b=some o)(n:H b=none):(zgg h H).get? b=some o :=
 PySem.W.hideAll_get _ e fun hm=>by
  have q:(H b).isSome=true:=(qO.mp hm).2;rw[n]at q;simp at q
def zsa {h:Heap}{H:Hp}{b:Addr}{o:Obj}(e:(zgg h H).get? b=some o):h.get? b=some o/\H b=none:=by
 have e':h.get? b=some o:=PySem.W.of_hideAll (trk h H) e;refine⟨e',?_⟩;cases q:H b with
 |none=>rfl
 |some x =>
  have hm:b∈trk h H:=qO.mpr ⟨List.mem_range.mpr (qo e'),by simp[q]⟩;have z:(zgg h H).get? b=none:=PySem.W.hideAll_none (trk h H) hm;rw[z]at e;cases e
def zsc (g h:Heap)(L:Addr):List (Addr×Obj):=(List.range h.objs.size).filterMap fun a=>if a=L\/(g.get? a).isSome=true then none else(h.get? a).map fun o=>(a,o)
def rest (g h:Heap)(L d:Addr):List (Addr×Obj):=(zsc g h L).filter fun p=>decide (p.1≠d)
structure Mod (K:PySem.W.Frag)(mg:Str->Option Value)(base:Heap):Prop where
 kin:K.In base
 glob:base.Ns mainGlobals mg
 blt:∃ mb,base.Ns builtinsNs mb/\∀ x:Str,x≠"__name__"->mb x=bootBuiltins x
 nolimit:base.NoLimit
/-- the context: a def's body (or a comprehension's block) running. base: fixed through the whole law; s₀, H₀: the entry; outer: the frames whose slots others may change (a def's callers); stack: all frames that run;
   ex: iterators that were made ahead of the entry and are walked here (a comprehension's);fn: the names whose cells were made at the entry (a def: all;a comprehension's block: its own);calm: not within an except suite;pn: pins that every state bears;xe: what is wanted of an exception that leaves the code -/
structure Cx where
 prog:Program
 w:World
 K:PySem.W.Frag
 mg:Str->Option Value
 base:Heap
 A:Around
 N:List Str
 s₀:Shared
 H₀:Hp
 env:Env
 outer:List Env
 stack:List Env
 ex:List Addr
 fn:Str->Bool
 calm:Bool
 pn:List (Addr×Obj)
 xe:Value->Shared->Prop
def frs (l:List Env):List Addr:=l.filterMap (·.frame)
abbrev Cx.fs (X:Cx):List Addr:=frs X.outer
def Vis (sc:Scope)(x:Str):Prop:=sc.names.lookup x=some .local\/sc.names.lookup x=some .cell\/sc.names.lookup x=some .free
def Loc (sc:Scope)(x:Str):Prop:=sc.names.lookup x=some .local\/sc.names.lookup x=some .cell
def Look (env:Env)(h:Heap)(m:Str->Option Value)(x:Str)(u:Value):Prop :=
 (env.kindOf x=some .local/\m x=some u)\/((env.kindOf x=some .cell\/env.kindOf x=some .free)/\∃ c,env.cells.lookup x=some c/\h.IsCell c (some u))
structure Cx.Ok (X:Cx):Prop where
 mod:Mod X.K X.mg X.base
 kind:X.env.scope.kind=.function
 glob:X.env.globals=mainGlobals
 blt:X.env.builtins=builtinsNs
 above:X.s₀.heap.objs.size<=X.env.locals
 inj:∀ x y c,X.env.cells.lookup x=some c->X.env.cells.lookup y=some c->x=y
 has:∀ x,(X.env.kindOf x=some .cell\/X.env.kindOf x=some .free)->∃ c,X.env.cells.lookup x=some c
 cab:∀ x c,X.fn x=true->X.env.cells.lookup x=some c->X.s₀.heap.objs.size<=c
 hd:X.calm=true->X.A.handled=none
 frames:X.A.frames=some X.stack
 stk:X.stack=X.outer\/(X.stack=X.env::X.outer/\X.env.frame=some X.env.locals)
 exf:∀ b∈X.ex,b≠X.env.locals/\∀ x c,X.env.cells.lookup x=some c->c≠b
 bs:∀ b o,X.base.get? b=some o->X.s₀.heap.get? b=some o/\X.H₀ b=none
 bsz:X.base.objs.size<=X.s₀.heap.objs.size
 noex:∀ b o,X.base.get? b=some o->b∉X.ex
 exfs:∀ b∈X.ex,b∉X.fs
 funs:X.s₀.heap.FunFrames X.base X.outer
 frf:∀ b∈X.fs,X.H₀ b=none
structure Inv (X:Cx)(pins:List (Addr×Obj))(U:List (Option V))(H:Hp)(s:Shared):Prop where
 ok:X.Ok
 os:s.os=X.s₀.os
 bare:AllBare s.gens
 base:Un X.fs X.ex X.H₀ H X.s₀.heap s.heap
 loc:∃ m,s.heap.Ns X.env.locals m/\∀ (i:Nat) (x:Str) (v:V),X.N[i]?=some x->U[i]?=some (some v)->Vis X.env.scope x->∃ u,RelV v u/\Look X.env s.heap m x u
 cell:∀ x c,X.env.cells.lookup x=some c->∃ v,s.heap.IsCell c v
 free:H X.env.locals=none
 freeC:∀ x c,X.env.cells.lookup x=some c->H c=none
 pin:∀ p∈X.pn++pins,s.heap.get? p.1=some p.2/\H p.1=none/\p.1≠X.env.locals/\p.1∉X.fs/\∀ v,p.2.data≠.cell v
 hok:HOk X.prog X.w H s.heap
 len:U.length=X.N.length
section
variable {X:Cx}{pins:List (Addr×Obj)}{U:List (Option V)}{H H':Hp}{s:Shared}{h':Heap}
def Cx.Ok.nofr (ok:X.Ok){b:Addr}{o:Obj}(e:X.base.get? b=some o):b∉X.fs:=fun hb=>by
 have:=(ok.funs.mem hb).1;rw[e]at this;cases this
theorem Inv.bs (I:Inv X pins U H s):∀ b o,X.base.get? b=some o->s.heap.get? b=some o/\H b=none:=fun b o e =>
 ⟨I.base.keep b o (I.ok.bs b o e).1 (I.ok.bs b o e).2 (I.ok.nofr e) (I.ok.noex b o e),I.base.free b o (I.ok.bs b o e).1 (I.ok.bs b o e).2 (I.ok.noex b o e)⟩
def Inv.bk (I:Inv X pins U H s):∀ b o,X.base.get? b=some o->s.heap.get? b=some o:=fun b o e=>(I.bs b o e).1
theorem Inv.mod (I:Inv X pins U H s):Mod X.K X.mg X.base:=I.ok.mod
def Inv.kIn (I:Inv X pins U H s):X.K.In s.heap:=I.ok.mod.kin.keeps I.bk
theorem Inv.nolimit (I:Inv X pins U H s):s.heap.NoLimit:=I.ok.mod.nolimit.keeps I.bk
theorem Inv.lt (I:Inv X pins U H s):X.env.locals<s.heap.objs.size:=let ⟨_,hn,_⟩:=I.loc;hn.lt
def Inv.sz (I:Inv X pins U H s):X.s₀.heap.objs.size<=s.heap.objs.size:=qR I.ok.above (Nat.le_of_lt I.lt)
def Inv.nofs (I:Inv X pins U H s){a:Addr}(h:s.heap.objs.size<=a):a∉X.fs:=fun hb=>by
 obtain⟨_,o,ho,_⟩:=I.ok.funs.mem hb;exact absurd (qr (qo ho) (qR I.sz h)) (qV _)
def Inv.cne (I:Inv X pins U H s):∀ x c,X.env.cells.lookup x=some c->c≠X.env.locals:=fun x c e z=>by
 obtain⟨v,o,ho,hd⟩:=I.cell x c e;obtain⟨m,⟨o',es,ep,ho',hd',_⟩,_⟩:=I.loc;rw[z,ho']at ho;cases ho;rw[hd']at hd;cases hd
theorem Inv.funs (I:Inv X pins U H s):s.heap.FunFrames X.base X.outer:=by
 have all:∀ (l:List Env),(∀ b∈frs l,b∈X.fs)->X.s₀.heap.FunFrames X.base l->s.heap.FunFrames X.base l:=by
  intro l
  induction l with
  |nil=>intro _ _;trivial
  |cons env r ih =>
   intro hs hl;obtain⟨hk,⟨L,o,hf,hn,ho,hd⟩,hr⟩:=hl;have hL:L∈X.fs:=hs L (by unfold frs;rw[List.filterMap_cons,hf];exact List.mem_cons_self);obtain⟨sl,e⟩:=I.base.slot L o ho (I.ok.frf L hL) hL fun z=>I.ok.exfs L z hL
   exact⟨hk,⟨L,_,hf,hn,e,hd⟩,ih (fun b hb=>hs b (by unfold frs;rw[List.filterMap_cons,hf];exact qq _ hb)) hr⟩
 exact all X.outer (fun _ hb=>hb) I.ok.funs
theorem Inv.stack (I:Inv X pins U H s):s.heap.FunFrames X.base X.stack:=by
 rcases I.ok.stk with e|⟨e,hf⟩
 ·rw[e];exact I.funs
 ·rw[e];obtain⟨m,hn,_⟩:=I.loc;refine .cons (by rw[I.ok.kind];decide) hf hn ?_ I.funs;exact Heap.get?_none_of_le (qR I.ok.bsz I.ok.above)
def Inv.stkSub (I:Inv X pins U H s):∀ b∈frs X.stack,b∈X.env.locals::X.fs:=fun b hb=>by
 rcases I.ok.stk with e|⟨e,hf⟩
 ·rw[e]at hb;exact qq _ hb
 ·rw[e]at hb;unfold frs at hb;rw[List.filterMap_cons,hf]at hb;exact hb
def Inv.stkFree (I:Inv X pins U H s):∀ b∈frs X.stack,H b=none:=fun b hb=>by
 rcases qg.mp (I.stkSub b hb)with e|hb
 ·rw[e];exact I.free
 ·obtain⟨_,o,ho,_⟩:=I.ok.funs.mem hb;exact I.base.free b o ho (I.ok.frf b hb) fun z=>I.ok.exfs b z hb
def Inv.step {g':Array GenState}{t':Nat}{d':Drawn}{ch:List Addr}(I:Inv X pins U H s)
  (hch:∀ b∈ch,(b∈X.ex\/X.s₀.heap.objs.size<=b)/\b≠X.env.locals/\(∀ x c,X.env.cells.lookup x=some c->c≠b)/\∀ p∈X.pn++pins,p.1≠b)
  (keep:∀ b o,b≠X.env.locals->b∉X.fs->b∉ch->s.heap.get? b=some o->H b=none->h'.get? b=some o)
  (slot:∀ b o,b≠X.env.locals->b∈X.fs->b∉ch->s.heap.get? b=some o->H b=none->∃ sl,h'.get? b=some { o with slots:=sl }) (free:∀ b o,b∉ch->s.heap.get? b=some o->H b=none->H' b=none)
  (there:∀ b o,b∉ch->s.heap.get? b=some o->∃ o',h'.get? b=some o')
  (tups:∀ b xs,H b=some (.tup xs)->H' b=some (.tup xs)) (frzs:∀ b o u,H b=some (.frz o u)->H' b=some (.frz o u)) (tbls:∀ b ps,H b=some (.tbl ps)->∃ more,H' b=some (.tbl (ps++more)))
  (ns:∀ m,s.heap.Ns X.env.locals m->h'.Ns X.env.locals m) (hok:HOk X.prog X.w H' h') (hg:AllBare g') :
  Inv X pins U H' { s with heap:=h',gens:=g',drawn:=d',toks:=t' }:=by
 have neL:∀ b o,X.s₀.heap.get? b=some o->b≠X.env.locals:=fun b o e=>qC (qr (qo e) I.ok.above)
 have neC:∀ b o,X.s₀.heap.get? b=some o->b∉X.ex->b∉ch:=fun b o e hx hb=>by
  rcases(hch b hb).1 with z|z
  ·exact hx z
  ·exact absurd (qr (qo e) z) (qV _)
 have cellK:∀ x c,X.env.cells.lookup x=some c->∀ v,s.heap.IsCell c v->h'.IsCell c v:=fun x c e v ⟨o,ho,hd⟩=>by
  have nch:c∉ch:=fun z=>(hch c z).2.2.1 x c e rfl
  by_cases hc:c∈X.fs
  ·obtain⟨sl,q⟩:=slot c o (I.cne x c e) hc nch ho (I.freeC x c e);exact⟨_,q,hd⟩
  ·exact⟨o,keep c o (I.cne x c e) hc nch ho (I.freeC x c e),hd⟩
 refine⟨I.ok,I.os,hg,⟨fun b o e n hb hx=>?_,fun b o e n hb hx=>?_,fun b o e n hx=>?_,fun b o e hx=>?_,fun b xs e=>tups b xs (I.base.tups b xs e),fun b o xs e=>frzs b o xs (I.base.frzs b o xs e),fun b ps e=>?_⟩,?_,fun x c e=>?_,?_,fun x c e=>?_,fun p hp=>?_,hok,I.len⟩
 ·exact keep b o (neL b o e) hb (neC b o e hx) (I.base.keep b o e n hb hx) (I.base.free b o e n hx)
 ·obtain⟨sl,e1⟩:=I.base.slot b o e n hb hx;obtain⟨sl',e2⟩:=slot b _ (neL b o e) hb (neC b o e hx) e1 (I.base.free b o e n hx);exact⟨sl',e2⟩
 ·obtain⟨o',e1⟩:=I.base.there b o e hx;exact free b o' (neC b o e hx) e1 (I.base.free b o e n hx)
 ·obtain⟨o',e1⟩:=I.base.there b o e hx;exact there b o' (neC b o e hx) e1
 ·obtain⟨m1,e1⟩:=I.base.tbls b ps e;obtain⟨m2,e2⟩:=tbls b _ e1;exact⟨m1++m2,by rw[e2,Array.append_assoc]⟩
 ·obtain⟨m,hn,hl⟩:=I.loc;refine⟨m,ns m hn,fun i x v e1 e2 e3=>?_⟩;obtain⟨u,r,l⟩:=hl i x v e1 e2 e3;refine⟨u,r,?_⟩;rcases l with l|⟨k,c,e,z⟩
  ·exact .inl l
  ·exact .inr ⟨k,c,e,cellK x c e _ z⟩
 ·obtain⟨v,z⟩:=I.cell x c e;exact⟨v,cellK x c e v z⟩
 ·obtain⟨m,⟨o,_,_,ho,_⟩,_⟩:=I.loc;exact free _ o (fun z=>(hch _ z).2.1 rfl) ho I.free
 ·obtain⟨v,o,ho,hd⟩:=I.cell x c e;exact free c o (fun z=>(hch c z).2.2.1 x c e rfl) ho (I.freeC x c e)
 ·obtain⟨e,n,ne,nf,d⟩:=I.pin p hp;have nch:p.1∉ch:=fun z=>(hch p.1 z).2.2.2 p hp rfl
  exact⟨keep p.1 p.2 ne nf nch e n,free p.1 p.2 nch e n,ne,nf,d⟩
def Inv.un {t':Nat}(I:Inv X pins U H s)(u:Un X.fs [] H H' s.heap h')(hok:HOk X.prog X.w H' h'):Inv X pins U H' { s with heap:=h',toks:=t' }:=by
 obtain⟨m,⟨o,es,ep,ho,r⟩,_⟩:=id I.loc;obtain⟨sl,hL⟩:=u.any ho I.free (by simp)
 exact I.step (g':=s.gens) (d':=s.drawn) (ch:=[]) (fun _ z=>nomatch z) (fun b o _ hb _ e n=>u.keep b o e n hb (by simp)) (fun b o _ hb _ e n=>u.slot b o e n hb (by simp)) (fun b o _ e n=>u.free b o e n (by simp)) (fun b o _ e=>u.there b o e (by simp)) u.tups u.frzs u.tbls (fun m' hm=>by
  obtain⟨o',es',ep',ho',r'⟩:=hm;rw[ho]at ho';cases ho';exact⟨_,es',ep',hL,r'⟩) hok I.bare
def Inv.call {g':Array GenState}{t':Nat}{d':Drawn}{ch:List Addr}(I:Inv X pins U H s)(u:Un (frs X.stack) ch H H' s.heap h')(hok:HOk X.prog X.w H' h')(hg:AllBare g')
  (hch:∀ b∈ch,(b∈X.ex\/X.s₀.heap.objs.size<=b)/\b≠X.env.locals/\(∀ x c,X.env.cells.lookup x=some c->c≠b)/\∀ p∈X.pn++pins,p.1≠b) :
  Inv X pins U H' { s with heap:=h',gens:=g',drawn:=d',toks:=t' }:=by
 obtain⟨m,⟨o,es,ep,ho,r⟩,_⟩:=id I.loc;obtain⟨sl,hL⟩:=u.any ho I.free fun z=>(hch _ z).2.1 rfl
 exact I.step (ch:=ch) hch (fun b o hL hb hc e n=>u.keep b o e n (fun z=>(qg.mp (I.stkSub b z)).elim hL hb) hc) (fun b o _ _ hc e n=>u.any e n hc) (fun b o hc e n=>u.free b o e n hc) (fun b o hc e=>u.there b o e hc) u.tups u.frzs u.tbls (fun m' hm=>by
  obtain⟨o',es',ep',ho',r'⟩:=hm;rw[ho]at ho';cases ho';exact⟨_,es',ep',hL,r'⟩) hok hg
def Inv.turned {t':Nat}{it:Addr}(I:Inv X pins U H s)(k:∀ b o,b≠it->s.heap.get? b=some o->h'.get? b=some o)(hn:H it=none)(hL:it≠X.env.locals)
  (h1:it∈X.ex\/X.s₀.heap.objs.size<=it) (h2:∀ x c,X.env.cells.lookup x=some c->c≠it) (h3:∀ p∈X.pn++pins,p.1≠it):Inv X pins U H { s with heap:=h',toks:=t' }:=by
 have nit:∀ b u,H b=some u->b≠it:=fun b u e z=>by rw[z,hn]at e;cases e
 refine I.step (g':=s.gens) (d':=s.drawn) (ch:=[it]) (fun b hb=>?_) (fun b o _ _ hc e _=>k b o (fun z=>hc (by simp[z])) e) (fun b o _ _ hc e _=>⟨o.slots,k b o (fun z=>hc (by simp[z])) e⟩) (fun _ _ _ _ n=>n)
  (fun b o hc e=>⟨o,k b o (fun z=>hc (by simp[z])) e⟩) (fun _ _ e=>e) (fun _ _ _ e=>e) (fun b ps e=>⟨#[],by rw[e];simp⟩) (fun m hm=>?_) (fun b u e=>?_) I.bare
 ·have e:b=it:=by simpa using hb
  subst e;exact⟨h1,hL,h2,h3⟩
 ·obtain⟨o,es,ep,ho,r⟩:=hm;exact⟨o,es,ep,k _ o (Ne.symm hL) ho,r⟩
 ·refine(I.hok b u e).stay (fun c v hc q=>k c v ?_ q) (fun _ q=>q) fun _ _ q=>q
  rcases hc with z|z
  ·rw[z];exact nit b u e
  ·exact nit c _ z
def Inv.tok (I:Inv X pins U H s)(t:Nat):Inv X pins U H { s with toks:=t }:=I.un (h':=s.heap) (t':=t) Un.refl I.hok
theorem Inv.kept {t':Nat}(I:Inv X pins U H s)(k:∀ b u,s.heap.get? b=some u->h'.get? b=some u):Inv X pins U H { s with heap:=h',toks:=t' }:=I.un (Un.kept k) (I.hok.kept k)
theorem Inv.laid {a:Addr}{o:HO}{t':Nat}(I:Inv X pins U H s)(k:∀ b u,s.heap.get? b=some u->h'.get? b=some u)(hp:s.heap.objs.size<=a)(new:zaB X.prog X.w (upd H a o) h' a o) :
  Inv X pins U (upd H a o) { s with heap:=h',toks:=t' }:=I.un (Un.laid k hp (I.hok.fresh hp)) (I.hok.laid k hp new)
theorem Inv.write {x e:Addr}{o:HO}{t':Nat}(I:Inv X pins U H s)(mu:Mut (H x))(he:e=x\/H e=some (.own x))(k:∀ b u,b≠e->s.heap.get? b=some u->h'.get? b=some u)(heo:∃ u,h'.get? e=some u)
  (new:zaB X.prog X.w (upd H x o) h' x o):Inv X pins U (upd H x o) { s with heap:=h',toks:=t' }:=I.un (Un.write mu he k heo) (I.hok.write mu he k heo new)
def Inv.weak {σ':List (Option V)}(I:Inv X pins U H s)(hl:σ'.length=U.length)(w:∀ (i:Nat) v,σ'[i]?=some (some v)->U[i]?=some (some v)):Inv X pins σ' H s :=
 ⟨I.ok,I.os,I.bare,I.base,let ⟨m,hn,hl'⟩:=I.loc;⟨m,hn,fun i x v e1 e2 e3=>hl' i x v e1 (w i v e2) e3⟩,I.cell,I.free,I.freeC,I.pin,I.hok,hl.trans I.len⟩
def Inv.pins_of {pins':List (Addr×Obj)}(I:Inv X pins U H s)(h:∀ p∈pins',s.heap.get? p.1=some p.2/\H p.1=none/\p.1≠X.env.locals/\p.1∉X.fs/\∀ v,p.2.data≠.cell v):Inv X pins' U H s :=
 ⟨I.ok,I.os,I.bare,I.base,I.loc,I.cell,I.free,I.freeC,fun p hp=>(qF.mp hp).elim (fun z=>I.pin p (qQ _ z)) (h p),I.hok,I.len⟩
def zhs {N:List Str}(hN:N.Nodup){i j:Nat}{x:Str}(a:N[i]?=some x)(b:N[j]?=some x):i=j:=by
 obtain⟨h1,e1⟩:=qG.mp a;obtain⟨h2,e2⟩:=qG.mp b;exact(List.getElem_inj hN).mp (e1.trans e2.symm)
def zjF {M:Model}{A:Around}{E:Value->Shared->Prop}{i:Nat}{x:Str}{v:V}{u:Value}{Q:Unit->Shared->Prop}(I:Inv X pins U H s)(hN:X.N.Nodup)(hi:X.N[i]?=some x)(hx:Loc X.env.scope x)(r:RelV v u)
  (h:∀ s',Inv X pins (U.set i (some v)) H s'->(∃ a,Heap.SameBut a s.heap s'.heap/\(a=X.env.locals\/X.env.cells.lookup x=some a))->Q () s') (hf:X.fn x=true\/X.env.scope.names.lookup x=some .local:=by first|exact .inl rfl|exact .inr rfl|assumption):wpAny M A (storeName X.env x u) Q E s:=by
 obtain⟨m,hn,hl⟩:=id I.loc;have hcls:(X.env.scope.kind==.class||(X.env.scope.kind==.module&&X.env.locals != X.env.globals))=false:=by rw[I.ok.kind];rfl
 have hiσ:i<U.length:=by rw[I.len];exact(qG.mp hi).1
 have cne:=I.cne
 have tracked:∀ {a:Addr} {h':Heap},(∃ o,s.heap.get? a=some o/\H a=none)->Heap.SameBut a s.heap h'->HOk X.prog X.w H h':=fun {a h'} ha hs b ob e=>by
  obtain⟨_,_,hfree⟩:=ha;refine(I.hok b ob e).stay (fun c w' hc q=>(hs.2 c ?_).trans q) (fun _ q=>q) fun _ _ q=>q
  rintro rfl;rcases hc with rfl|hc
  ·rw[hfree]at e;cases e
  ·rw[hfree]at hc;cases hc
 rcases hx with hk|hk
 ·refine wpAny_storeName_local hk hn (fun h' hn' hs=>?_) hcls;obtain⟨oL,_,_,hoL,_⟩:=id hn;refine h _ ⟨I.ok,I.os,I.bare,⟨fun b o e n hb hx=>?_,fun b o e n hb hx=>?_,I.base.free,fun b o e hx=>?_,I.base.tups,I.base.frzs,I.base.tbls⟩,⟨_,hn',fun j y v' e1 e2 e3=>?_⟩,fun y c e=>?_,I.free,I.freeC,fun p hp=>?_,tracked ⟨oL,hoL,I.free⟩ hs,by simpa using I.len⟩ ⟨_,hs,.inl rfl⟩
  ·exact(hs.2 b (qC (qr (qo e) I.ok.above))).trans (I.base.keep b o e n hb hx)
  ·obtain⟨sl,e1⟩:=I.base.slot b o e n hb hx;exact⟨sl,(hs.2 b (qC (qr (qo e) I.ok.above))).trans e1⟩
  ·obtain⟨o',e1⟩:=I.base.there b o e hx;exact⟨o',(hs.2 b (qC (qr (qo e) I.ok.above))).trans e1⟩
  ·by_cases hj:j=i
   ·subst hj;rw[hi]at e1;cases e1;rw[qS hiσ]at e2;cases e2;exact⟨u,r,.inl ⟨hk,by simp⟩⟩
   ·rw[qN (Ne.symm hj)]at e2;obtain⟨u',r',q⟩:=hl j y v' e1 e2 e3;refine⟨u',r',?_⟩;rcases q with⟨k,e⟩|⟨k,c,e,z⟩
    ·refine .inl ⟨k,?_⟩;have:y≠x:=fun e=>hj (zhs hN e1 (e▸hi))
     simp[this,e]
    ·exact .inr ⟨k,c,e,z.sameBut hs (cne y c e)⟩
  ·obtain⟨w',z⟩:=I.cell y c e;exact⟨w',z.sameBut hs (cne y c e)⟩
  ·obtain⟨e,n,ne,nf,d⟩:=I.pin p hp;exact⟨(hs.2 p.1 ne).trans e,n,ne,nf,d⟩
 ·have hfn:X.fn x=true:=by
   rcases hf with z|z
   ·exact z
   ·rw[z]at hk;cases hk
  obtain⟨c,hc⟩:=I.ok.has x (.inl hk);obtain⟨w',z⟩:=I.cell x c hc;refine wpAny_storeName_cell I.ok.kind hk hc z (fun h' hc' hs=>?_);obtain⟨oc,hoc,hocd⟩:=id z;refine h { s with heap:=h' } ⟨I.ok,I.os,I.bare,⟨fun b o e n hb hx=>?_,fun b o e n hb hx=>?_,I.base.free,fun b o e hx=>?_,I.base.tups,I.base.frzs,I.base.tbls⟩,⟨m,hn.sameBut hs (Ne.symm (cne x c hc)),fun j y v' e1 e2 e3=>?_⟩,fun y c' e=>?_,I.free,I.freeC,fun p hp=>?_,tracked ⟨oc,hoc,I.freeC x c hc⟩ hs,by simpa using I.len⟩ ⟨c,hs,.inr hc⟩
  ·exact(hs.2 b (qC (qr (qo e) (I.ok.cab x c hfn hc)))).trans (I.base.keep b o e n hb hx)
  ·obtain⟨sl,e1⟩:=I.base.slot b o e n hb hx;exact⟨sl,(hs.2 b (qC (qr (qo e) (I.ok.cab x c hfn hc)))).trans e1⟩
  ·obtain⟨o',e1⟩:=I.base.there b o e hx;exact⟨o',(hs.2 b (qC (qr (qo e) (I.ok.cab x c hfn hc)))).trans e1⟩
  ·by_cases hj:j=i
   ·subst hj;rw[hi]at e1;cases e1;rw[qS hiσ]at e2;cases e2;exact⟨u,r,.inr ⟨.inl hk,c,hc,hc'⟩⟩
   ·rw[qN (Ne.symm hj)]at e2;obtain⟨u',r',q⟩:=hl j y v' e1 e2 e3;refine⟨u',r',?_⟩;rcases q with q|⟨k,c',e,z'⟩
    ·exact .inl q
    ·refine .inr ⟨k,c',e,z'.sameBut hs ?_⟩;rintro rfl;exact hj (zhs hN e1 (I.ok.inj _ _ _ e hc▸hi))
  ·by_cases hcc:c'=c
   ·subst hcc;exact⟨_,hc'⟩
   ·obtain⟨w2,z2⟩:=I.cell y c' e;exact⟨w2,z2.sameBut hs hcc⟩
  ·obtain⟨e,n,ne,nf,d⟩:=I.pin p hp;refine⟨(hs.2 p.1 ?_).trans e,n,ne,nf,d⟩;intro q;rw[q,hoc]at e;have q':oc=p.2:=qM e;exact d w' (by rw[<- q'];exact hocd)
def zft {M:Model}{A:Around}{E:Value->Shared->Prop}{i:Nat}{x:Str}{v:V}{u:Value}{Q:Unit->Shared->Prop}(I:Inv X pins U H s)(hN:X.N.Nodup)(hi:X.N[i]?=some x)(hx:Loc X.env.scope x)(r:RelV v u)
  (h:∀ s',Inv X pins (U.set i (some v)) H s'->Q () s') (hf:X.fn x=true\/X.env.scope.names.lookup x=some .local:=by first|exact .inl rfl|exact .inr rfl|assumption):wpAny M A (storeName X.env x u) Q E s :=
 zjF I hN hi hx r (fun s' I' _=>h s' I') hf
def Inv.call' {s':Shared}{ch:List Addr}(I:Inv X pins U H s)(ho:s'.os=s.os)(u:Un (frs X.stack) ch H H' s.heap s'.heap)(hok:HOk X.prog X.w H' s'.heap)(hg:AllBare s'.gens)
  (hch:∀ b∈ch,(b∈X.ex\/X.s₀.heap.objs.size<=b)/\b≠X.env.locals/\(∀ x c,X.env.cells.lookup x=some c->c≠b)/\∀ p∈X.pn++pins,p.1≠b):Inv X pins U H' s':=by
 obtain⟨h',g',d',t',o'⟩:=s';have e:o'=s.os:=ho;subst e;exact I.call (g':=g') (t':=t') (d':=d') u hok hg hch
end
abbrev XK:=Value->Option Addr->Hp->Prop
abbrev St:=List (Option V)
abbrev VK:=V->Hp->Prop
abbrev TE:=St->Hp->VK->Prop
abbrev TT:=St->Hp->(Bool->Hp->Prop)->Prop
abbrev TA:=St->Hp->(List V->Hp->Prop)->Prop
structure Ends where
 nx:St->Hp->Prop
 rt:VK
 bk:St->Hp->Prop:=fun _ _=>False
 ct:St->Hp->Prop:=fun _ _=>False
abbrev TS:=Ends->St->Hp->Prop
def EP (X:Cx)(pins:List (Addr×Obj))(U:St)(Q:VK)(u:Value)(s':Shared):Prop:=∃ v H',Inv X pins U H' s'/\RelV v u/\Q v H'
def TP (X:Cx)(pins:List (Addr×Obj))(U:St)(Q:Bool->Hp->Prop)(b:Bool)(s':Shared):Prop:=∃ H',Inv X pins U H' s'/\Q b H'
def AP (X:Cx)(pins:List (Addr×Obj))(U:St)(Q:List V->Hp->Prop)(us:List Value)(s':Shared):Prop:=∃ vs H',Inv X pins U H' s'/\Vals vs us/\Q vs H'
def SP (X:Cx)(pins:List (Addr×Obj))(D:Ends)(f:Flow)(s':Shared):Prop :=
 match f with
 |.next=>∃ σ' H',Inv X pins σ' H' s'/\D.nx σ' H'
 |.brk=>∃ σ' H',Inv X pins σ' H' s'/\D.bk σ' H'
 |.cont=>∃ σ' H',Inv X pins σ' H' s'/\D.ct σ' H'
 |.ret u=>∃ v σ' H',Inv X pins σ' H' s'/\RelV v u/\D.rt v H'
def PE (X:Cx)(e:Expr)(t:TE):Prop :=
 ∀ (pins:List (Addr×Obj)) (s:Shared) (U:St) (H:Hp) (Q:VK),Inv X pins U H s->t U H Q->wpAny (model X.prog X.w) X.A (eval e X.env) (EP X pins U Q) X.xe s
def PT (X:Cx)(e:Expr)(t:TT):Prop :=
 ∀ (pins:List (Addr×Obj)) (s:Shared) (U:St) (H:Hp) (Q:Bool->Hp->Prop),Inv X pins U H s->t U H Q->wpAny (model X.prog X.w) X.A (isTrue e X.env (eval e X.env)) (TP X pins U Q) X.xe s
def PW (X:Cx)(e:Expr)(t:TT):Prop :=
 ∀ (whole:Sem Value) (pins:List (Addr×Obj)) (s:Shared) (U:St) (H:Hp) (Q:Bool->Hp->Prop),Inv X pins U H s->t U H Q->wpAny (model X.prog X.w) X.A (isTrue e X.env whole) (TP X pins U Q) X.xe s
def PA (X:Cx)(es:List Expr)(t:TA):Prop :=
 ∀ (pos:Pos) (pins:List (Addr×Obj)) (s:Shared) (U:St) (H:Hp) (Q:List V->Hp->Prop),Inv X pins U H s->t U H Q->wpAny (model X.prog X.w) X.A (spliced (backTo pos (starEach es X.env))) (AP X pins U Q) X.xe s
def PS (X:Cx)(st:Stmt)(t:TS):Prop :=
 ∀ (pins:List (Addr×Obj)) (s:Shared) (U:St) (H:Hp) (D:Ends),Inv X pins U H s->t D U H->wpAny (model X.prog X.w) X.A (exec st X.env) (SP X pins D) X.xe s
def PSs (X:Cx)(st:List Stmt)(t:TS):Prop :=
 ∀ (pins:List (Addr×Obj)) (s:Shared) (U:St) (H:Hp) (D:Ends),Inv X pins U H s->t D U H->wpAny (model X.prog X.w) X.A (execs st X.env) (SP X pins D) X.xe s
def thn {α:Type}{t:Sem α}{Q Q':α->Shared->Prop}{M:Model}{A:Around}{E:Value->Shared->Prop}{s:Shared}(h:wpAny M A t Q E s)(hQ:∀ a s,Q a s->Q' a s):wpAny M A t Q' E s:=wpAny_mono h hQ fun _ _ x=>x
section
variable {X:Cx}
def zqO (i:Nat):TE:=fun U H Q=>∃ v,U[i]?=some (some v)/\Q v H
def tC (v:V):TE:=fun _ H Q=>Q v H
def zoN {i:Nat}{x:Str}{pos:Pos}(hN:X.N[i]?=some x)(hv:Vis X.env.scope x)(hd:(x==("__debug__":Str))=false:=by decide)(hcd:(x==("__classdict__":Str))=false:=by decide):PE X (.Name x pos) (zqO i):=by
 intro pins s U H Q I h;obtain⟨v,e,h⟩:=h;obtain⟨m,hn,hl⟩:=I.loc;obtain⟨u,r,l⟩:=hl i x v hN e hv;have fin:EP X pins U Q u s:=⟨v,H,I,r,h⟩
 rcases l with⟨hk,hm⟩|⟨hk,c,hc,hcell⟩
 ·exact wpAny_Name (wpAny_loadName_local I.ok.kind hk hn hm fin) hd
 ·rcases hk with hk|hk
  ·exact wpAny_Name (wpAny_loadName_cell I.ok.kind hk hc hcell fin) hd
  ·exact wpAny_Name (wpAny_loadName_free I.ok.kind hk hc hcell fin hcd) hd
def zkF {i j pos}:PE X (.Constant (.int i) j pos) (tC (.int i)):=fun _ _ _ H _ I h=>wpAny_Constant_int ⟨.int i,H,I.tok _,⟨_,rfl⟩,h⟩
def zwi {b j pos}:PE X (.Constant (.bool b) j pos) (tC (.bl b)):=fun _ _ _ H _ I h=>Constant_bool ⟨.bl b,H,I,rfl,h⟩
def zvm {j pos}:PE X (.Constant .none j pos) (tC .non):=fun _ _ _ H _ I h=>Constant_none ⟨.non,H,I,rfl,h⟩
def zt1 {x j pos}:PE X (.Constant (.str x) j pos) (tC (.str x)):=fun _ _ _ H _ I h=>Calls.Constant_str ⟨.str x,H,I.tok _,⟨_,rfl⟩,h⟩
def Gl (X:Cx)(x:Str):Prop:=X.env.kindOf x=some .globalImplicit
def zdm {E:Value->Shared->Prop}{pins:List (Addr×Obj)}{s:Shared}{U:St}{H:Hp}{x:Str}{u:Value}{pos:Pos}{Q:Value->Shared->Prop}(I:Inv X pins U H s)(hg:Gl X x)(hm:X.mg x=some u)(h:Q u s)
  (hd:(x==("__debug__":Str))=false:=by decide):wpAny (model X.prog X.w) X.A (eval (.Name x pos) X.env) Q E s :=
 Calls.Name_function_global I.ok.kind hg (Calls.loadGlobal_global (by rw[I.ok.glob];exact I.mod.glob.keeps I.bk) hm h) hd
def zbY {E:Value->Shared->Prop}{pins:List (Addr×Obj)}{s:Shared}{U:St}{H:Hp}{x:Str}{u:Value}{pos:Pos}{Q:Value->Shared->Prop}(I:Inv X pins U H s)(hg:Gl X x)(hm:X.mg x=none)(hv:bootBuiltins x=some u)(h:Q u s)
  (hn:x≠"__name__":=by decide) (hd:(x==("__debug__":Str))=false:=by decide):wpAny (model X.prog X.w) X.A (eval (.Name x pos) X.env) Q E s:=by
 obtain⟨mb,h1,h2⟩:=I.mod.blt;exact Calls.Name_function_global I.ok.kind hg (Calls.loadGlobal_builtin (by rw[I.ok.glob];exact I.mod.glob.keeps I.bk) hm (by rw[I.ok.blt];exact h1.keeps I.bk) ((h2 x hn).trans hv) h) hd
def zmz {x:Str}{v:V}{u:Value}{pos:Pos}(hg:Gl X x)(hm:X.mg x=some u)(r:RelV v u)(hd:(x==("__debug__":Str))=false:=by decide):PE X (.Name x pos) (tC v) :=
 fun _ _ _ H _ I h=>zdm I hg hm ⟨v,H,I,r,h⟩ hd
def zsu {x:Str}{v:V}{u:Value}{pos:Pos}(hg:Gl X x)(hm:X.mg x=none)(hv:bootBuiltins x=some u)(r:RelV v u)(hn:x≠"__name__":=by decide)(hd:(x==("__debug__":Str))=false:=by decide):PE X (.Name x pos) (tC v) :=
 fun _ _ _ H _ I h=>zbY I hg hm hv ⟨v,H,I,r,h⟩ hn hd
variable {a b:Expr}{ta tb:TE}{pos:Pos}
def PC (X:Cx)(op:CmpOp)(a b:Expr)(t:TE):Prop :=
 ∀ (pins:List (Addr×Obj)) (s:Shared) (U:St) (H:Hp) (Q:VK),Inv X pins U H s->t U H Q ->
  wpAny (model X.prog X.w) X.A (eval a X.env) (fun v s₁=>wpAny (model X.prog X.w) X.A (eval b X.env) (fun u s₂=>wpAny (model X.prog X.w) X.A (compareOp op v u) (EP X pins U Q) X.xe s₂) X.xe s₁) X.xe s
def tB (t:TE):TT:=fun U H Q=>t U H fun x H1=>∃ c,x=.bl c/\Q c H1
def zn7 {op:CmpOp}{t:TE}(h:PC X op a b t)(h1:behindInMarks op b=false:=by first|exact nobehind _ (by decide) (by decide)|rfl):PT X (.Compare a [op] [b] pos) (tB t):=by
 intro pins s U H Q I hw;refine wpAny_isTrue_Compare1 (thn (h pins s U H _ I hw) fun v s1 h1=>thn h1 fun u s2 h2=>thn h2 fun c s3 ⟨x,H1,I1,r1,q1⟩=>?_) h1;obtain⟨d,rfl,q⟩:=q1;cases r1;exact wpAny_truthy_bool ⟨H1,I1,q⟩
def zuT {e:Expr}{t:TE}(h:PE X e t)(he:∀ whole,isTrue e X.env whole=(do let v <- whole;standAt e.pos;holding [v] (truthy v)):=by intro _;rfl):PT X e (tB t):=by
 intro pins s U H Q I hw;refine isTrue_plain (thn (h pins s U H _ I hw) fun v s1 ⟨x,H1,I1,r1,q1⟩=>?_) (he _);obtain⟨d,rfl,q⟩:=q1;cases r1;exact wpAny_truthy_bool ⟨H1,I1,q⟩
variable {tA tB':TT}{rest:List Expr}
def zxT (t u:TT):TT:=fun U H Q=>t U H fun c H1=>if c=true then u U H1 Q else Q false H1
def tOr (t u:TT):TT:=fun U H Q=>t U H fun c H1=>if c=true then Q true H1 else u U H1 Q
def zym (t:TT):TT:=fun U H Q=>t U H fun c H1=>Q (!c) H1
def zsH (ha:PT X a tA):PW X (.BoolOp .And [a] pos) tA:=by
 intro wh pins s U H Q I h;refine isTrue_and (thn (ha pins s U H Q I h) fun c s1 e=>?_);cases c with
 |true=>exact isTrue_and_nil e
 |false=>exact e
def zuU (ha:PT X a tA):PW X (.BoolOp .Or [a] pos) tA:=by
 intro wh pins s U H Q I h;refine isTrue_or (thn (ha pins s U H Q I h) fun c s1 e=>?_);cases c with
 |false=>exact isTrue_or_nil e
 |true=>exact e
def zun (ha:PT X a tA)(hb:PW X (.BoolOp .And (b::rest) pos) tB'):PW X (.BoolOp .And (a::b::rest) pos) (zxT tA tB'):=by
 intro wh pins s U H Q I h;refine isTrue_and (thn (ha pins s U H _ I h) fun c s1 ⟨H1,I1,q1⟩=>?_);cases c with
 |true=>exact hb wh pins s1 U H1 Q I1 q1
 |false=>exact⟨H1,I1,q1⟩
def zwc (ha:PT X a tA)(hb:PW X (.BoolOp .Or (b::rest) pos) tB'):PW X (.BoolOp .Or (a::b::rest) pos) (tOr tA tB'):=by
 intro wh pins s U H Q I h;refine isTrue_or (thn (ha pins s U H _ I h) fun c s1 ⟨H1,I1,q1⟩=>?_);cases c with
 |true=>exact⟨H1,I1,q1⟩
 |false=>exact hb wh pins s1 U H1 Q I1 q1
def zvc (ha:PT X a tA):PT X (.UnaryOp .Not a pos) (zym tA):=by
 intro pins s U H Q I h;exact isTrue_not (ha pins s U H (fun c H1=>Q (!c) H1) I h)
def zwD (ta tb:TE):TE:=fun U H Q=>ta U H fun x H1=>∃ c,x=.bl c/\if c=true then tb U H1 Q else Q (.bl false) H1
def zws (ta:TE):TE:=fun U H Q=>ta U H fun x H1=>∃ c,x=.bl c/\Q (.bl (!c)) H1
def ztI {op}{t:TE}(h:PE X a t):PE X (.BoolOp op [a] pos) t:=fun pins s U H Q I hw=>BoolOp_one (h pins s U H Q I hw)
def zvk (ha:PE X a ta)(hb:PE X (.BoolOp .And (b::rest) pos) tb):PE X (.BoolOp .And (a::b::rest) pos) (zwD ta tb):=by
 intro pins s U H Q I h;refine BoolOp_and (thn (ha pins s U H _ I h) fun v s1 ⟨x,H1,I1,r1,q1⟩=>?_);obtain⟨c,rfl,q1⟩:=q1;cases r1;refine wpAny_truthy_bool ?_;cases c with
 |true=>exact hb pins s1 U H1 Q I1 q1
 |false=>exact⟨.bl false,H1,I1,rfl,q1⟩
def zvM (ha:PE X a ta):PE X (.UnaryOp .Not a pos) (zws ta):=by
 intro pins s U H Q I h;refine UnaryOp_ (thn (ha pins s U H _ I h) fun v s1 ⟨x,H1,I1,r1,q1⟩=>?_);obtain⟨c,rfl,q1⟩:=q1;cases r1;exact not_of (wpAny_truthy_bool ⟨.bl (!c),H1,I1,rfl,q1⟩)
def tIf (t:TT)(ta tb:TE):TE:=fun U H Q=>t U H fun c H1=>if c=true then ta U H1 Q else tb U H1 Q
def zra {c:Expr}(hc:PT X c tA)(ha:PE X a ta)(hb:PE X b tb):PE X (.IfExp c a b pos) (tIf tA ta tb):=by
 intro pins s U H Q I h;refine wpAny_IfExp (thn (hc pins s U H _ I h) fun d s1 ⟨H1,I1,q1⟩=>?_);cases d with
 |true=>exact ha pins s1 U H1 Q I1 q1
 |false=>exact hb pins s1 U H1 Q I1 q1
end
def SqL (K:PySem.W.Frag)(H:Hp)(a:Addr)(xs:List V):Prop :=
 Rd H a (.lst xs) \/
  ∃ (o:Obj) (its:Array Value) (n:Nat),K.lookup a=some o/\o.cls=.type "list"/\o.dict=none/\o.data=.seq its n/\its.size<=sizeLine/\Vals xs its.toList
def SqT (K:PySem.W.Frag)(H:Hp)(a:Addr)(xs:List V):Prop :=
 Rd H a (.tup xs) \/
  ∃ (o:Obj) (its:Array Value) (n:Nat),K.lookup a=some o/\o.cls=.type "tuple"/\o.data=.seq its n/\its.size<=sizeLine/\Vals xs its.toList
def zxS:Value->Option V
 |.none=>some .non
 |.bool b=>some (.bl b)
 |.int i _=>some (.int i)
 |.str x _=>some (.str x)
 |.bytes b _=>some (.byt b)
 |.float b _=>some (.flt b)
 |.ref a=>some (.ref a)
 |.type n=>some (.ty n)
 |_=>none
def RelV.abs {x:V}{u:Value}(r:RelV x u):zxS u=some x:=by
 cases x with
 |non=>cases r;rfl
 |bl _=>cases r;rfl
 |int _=>obtain⟨t,rfl⟩:=r;rfl
 |str _=>obtain⟨t,rfl⟩:=r;rfl
 |byt _=>obtain⟨t,rfl⟩:=r;rfl
 |flt _=>obtain⟨t,rfl⟩:=r;rfl
 |ref _=>cases r;rfl
 |ty _=>cases r;rfl
def RelV.inj {x y:V}{u:Value}(r:RelV x u)(q:RelV y u):x=y:=qM (r.abs.symm.trans q.abs)
theorem Vals.inj:∀ {xs ys:List V} {us:List Value},Vals xs us->Vals ys us->xs=ys
 |_,_,_,.nil,.nil=>rfl
 |_,_,_,.cons r t,.cons r' t'=>by rw[r.inj r',Vals.inj t t']
section
variable {X:Cx}{pins:List (Addr×Obj)}{U:St}{H:Hp}{s:Shared}{a:Addr}{xs ys:List V}
def SqL.of {K:PySem.W.Frag}(h:H a=some (.lst xs)):SqL K H a xs:=.inl (.inl h)
def SqT.of {K:PySem.W.Frag}(h:H a=some (.tup xs)):SqT K H a xs:=.inl (.inl h)
def Inv.list (I:Inv X pins U H s)(h:SqL X.K H a xs):∃ its:List Value,Vals xs its/\PlainL s.heap a its.toArray/\xs.length<=sizeLine:=by
 rcases h with h|⟨o,its,n,hk,hc,hd,hs,hz,r⟩
 ·obtain⟨z,its,n,r,e⟩:=h.ok I.hok;exact⟨its,r,⟨_,n,e,rfl,rfl,rfl⟩,z⟩
 ·refine⟨its.toList,r,⟨o,n,I.kIn a o hk,hc,hd,by simpa using hs⟩,?_⟩;have e:=r.length;simp only[qL]at e;lia
def Inv.tuple (I:Inv X pins U H s)(h:SqT X.K H a xs):∃ its:List Value,Vals xs its/\IsTup s.heap a its.toArray/\xs.length<=sizeLine:=by
 rcases h with h|⟨o,its,n,hk,hc,hs,hz,r⟩
 ·obtain⟨z,its,r,p⟩:=h.ok I.hok;exact⟨its,r,p,z⟩
 ·refine⟨its.toList,r,⟨o,I.kIn a o hk,hc,n,by simpa using hs⟩,?_⟩;have e:=r.length;simp only[qL]at e;lia
def Inv.list_inj (I:Inv X pins U H s)(h:SqL X.K H a xs)(h':SqL X.K H a ys):xs=ys:=by
 obtain⟨its,r,⟨o,n,e,_,_,d⟩,_⟩:=I.list h;obtain⟨its',r',⟨o',n',e',_,_,d'⟩,_⟩:=I.list h';rw[e]at e';cases e';rw[d]at d';injection d' with d1 _;have:its=its':=by simpa using congrArg Array.toList d1
 subst this;exact r.inj r'
def Inv.tuple_inj (I:Inv X pins U H s)(h:SqT X.K H a xs)(h':SqT X.K H a ys):xs=ys:=by
 obtain⟨its,r,⟨o,e,_,n,d⟩,_⟩:=I.tuple h;obtain⟨its',r',⟨o',e',_,n',d'⟩,_⟩:=I.tuple h';rw[e]at e';cases e';rw[d]at d';injection d' with d1 _;have:its=its':=by simpa using congrArg Array.toList d1
 subst this;exact r.inj r'
end
abbrev Cx.wish (X:Cx)(E:Value->Shared->Prop):Cx:={ X with xe:=E }
abbrev Cx.nox (X:Cx):Cx:=X.wish fun _ _=>False
theorem Cx.Ok.wish {X:Cx}(ok:X.Ok)(E:Value->Shared->Prop):(X.wish E).Ok :=
 ⟨ok.mod,ok.kind,ok.glob,ok.blt,ok.above,ok.inj,ok.has,ok.cab,ok.hd,ok.frames,ok.stk,ok.exf,ok.bs,ok.bsz,ok.noex,ok.exfs,ok.funs,ok.frf⟩
def Cx.Ok.unwish {X:Cx}{E:Value->Shared->Prop}(ok:(X.wish E).Ok):X.Ok :=
 ⟨ok.mod,ok.kind,ok.glob,ok.blt,ok.above,ok.inj,ok.has,ok.cab,ok.hd,ok.frames,ok.stk,ok.exf,ok.bs,ok.bsz,ok.noex,ok.exfs,ok.funs,ok.frf⟩
section
variable {X:Cx}{pins:List (Addr×Obj)}{U:St}{H:Hp}{s:Shared}{E:Value->Shared->Prop}
theorem Inv.wish (I:Inv X pins U H s)(E:Value->Shared->Prop):Inv (X.wish E) pins U H s:=⟨I.ok.wish E,I.os,I.bare,I.base,I.loc,I.cell,I.free,I.freeC,I.pin,I.hok,I.len⟩
theorem Inv.unwish (I:Inv (X.wish E) pins U H s):Inv X pins U H s:=⟨I.ok.unwish,I.os,I.bare,I.base,I.loc,I.cell,I.free,I.freeC,I.pin,I.hok,I.len⟩
theorem SP.unwish {D:Ends}{f:Flow}{s':Shared}(h:SP (X.wish E) pins D f s'):SP X pins D f s':=by
 cases f with
 |next=>obtain⟨σ',H',I,q⟩:=h;exact⟨σ',H',I.unwish,q⟩
 |brk=>obtain⟨σ',H',I,q⟩:=h;exact⟨σ',H',I.unwish,q⟩
 |cont=>obtain⟨σ',H',I,q⟩:=h;exact⟨σ',H',I.unwish,q⟩
 |ret u=>obtain⟨v,σ',H',I,r,q⟩:=h;exact⟨v,σ',H',I.unwish,r,q⟩
theorem PSs.nox {st:List Stmt}{t:TS}(h:PSs X.nox st t):PSs X st t:=fun pins s U H D I hw =>
 wpAny_mono (h pins s U H D (I.wish _) hw) (fun _ _ q=>q.unwish) fun _ _ z=>False.elim z
end
section
variable {X:Cx}{st:Stmt}{rest:List Stmt}{t u:TS}{e:Expr}{te:TE}{pos:Pos}
def zwZ:TS:=fun D U H=>D.nx U H
def zyg (t u:TS):TS:=fun D U H=>t { D with nx:=u D } U H
def zsr:PSs X [] zwZ:=fun _ _ U H _ I h=>wpAny_execs_nil ⟨U,H,I,h⟩
def zqs (h1:PS X st t)(h2:PSs X rest u):PSs X (st::rest) (zyg t u):=by
 intro pins s U H D I h;refine wpAny_execs_cons (thn (h1 pins s U H { D with nx:=u D } I h) fun f s1 q=>?_);cases f with
 |next =>
  obtain⟨σ',H',I',q⟩:=q;exact h2 pins s1 σ' H' D I' q
 |ret v=>exact q
 |brk=>exact q
 |cont=>exact q
def zso (h1:PS X st t):PSs X [st] t:=by
 intro pins s U H D I h;refine wpAny_execs_cons (thn (h1 pins s U H D I h) fun f s1 q=>?_);cases f with
 |next=>exact wpAny_execs_nil q
 |ret v=>exact q
 |brk=>exact q
 |cont=>exact q
def Inv.quiet {pins:List (Addr×Obj)}{U:St}{H:Hp}{s:Shared}(I:Inv X pins U H s):interactive X.env=false:=by simp[interactive,I.ok.kind]
def zxl (te:TE):TS:=fun D U H=>te U H fun _ H1=>D.nx U H1
def ztm (he:PE X e te)(hs:swapsWith e none pos.line X.env=pure false:=by rfl):PS X (.Expr e pos) (zxl te):=by
 intro pins s U H D I h;exact wpAny_Expr_any (thn (he pins s U H _ I h) fun v s1 ⟨x,H1,I1,r1,q1⟩=>⟨U,H1,I1,q1⟩) I.quiet hs
def zxM (te:TE):TS:=fun D U H=>te U H D.rt
def ztV (he:PE X e te):PS X (.Return (some e) pos) (zxM te):=by
 intro pins s U H D I h;exact wpAny_Return_some (thn (he pins s U H _ I h) fun v s1 ⟨x,H1,I1,r1,q1⟩=>⟨x,U,H1,I1,r1,q1⟩)
def zyt (c:TT)(t u:TS):TS:=fun D U H=>c U H fun b H1=>if b=true then t D U H1 else u D U H1
def zwC {c:Expr}{a b:List Stmt}{tc:TT}(hc:PT X c tc)(ha:PSs X a t)(hb:PSs X b u):PS X (.If c a b pos) (zyt tc t u):=by
 intro pins s U H D I h;refine wpAny_If (thn (hc pins s U H _ I h) fun d s1 ⟨H1,I1,q1⟩=>?_);cases d with
 |true=>exact ha pins s1 U H1 D I1 q1
 |false=>exact hb pins s1 U H1 D I1 q1
def ztQ:TS:=fun _ _ _=>False
def zqx:PS X st ztQ:=fun _ _ _ _ _ _ h=>h.elim
end
abbrev TG:=V->St->Hp->(St->Hp->Prop)->Prop
abbrev TGs:=List V->St->Hp->(St->Hp->Prop)->Prop
def PG (X:Cx)(target:Expr)(t:TG):Prop :=
 ∀ (pins:List (Addr×Obj)) (s:Shared) (U:St) (H:Hp) (v:V) (u:Value) (Q:St->Hp->Prop),Inv X pins U H s->RelV v u->t v U H Q ->
  wpAny (model X.prog X.w) X.A (assign target X.env u) (fun _ s'=>∃ σ' H',Inv X pins σ' H' s'/\Q σ' H') X.xe s
def PGs (X:Cx)(ts:List Expr)(t:TGs):Prop :=
 ∀ (pins:List (Addr×Obj)) (s:Shared) (U:St) (H:Hp) (vs:List V) (us:List Value) (Q:St->Hp->Prop),Inv X pins U H s->Vals vs us->t vs U H Q ->
  wpAny (model X.prog X.w) X.A (assignInOrder ((assignEach ts X.env).map (·.2)) us) (fun _ s'=>∃ σ' H',Inv X pins σ' H' s'/\Q σ' H') X.xe s
abbrev zpE:=V->V->V->Hp->(Hp->Prop)->Prop
def zuR (X:Cx)(t:zpE):Prop :=
 ∀ (pins:List (Addr×Obj)) (s:Shared) (U:St) (H:Hp) (o i v:V) (ov iv u:Value) (Q:Hp->Prop),Inv X pins U H s->RelV o ov->RelV i iv->RelV v u->t o i v H Q ->
  wpAny (model X.prog X.w) X.A (setItem ov iv u) (fun _ s'=>∃ H',Inv X pins U H' s'/\Q H') X.xe s
abbrev TIp:=V->V->Hp->VK->Prop
def PIp (X:Cx)(op:Operator)(t:TIp):Prop :=
 ∀ (pins:List (Addr×Obj)) (s:Shared) (U:St) (H:Hp) (x y:V) (v u:Value) (Q:VK),Inv X pins U H s->RelV x v->RelV y u->t x y H Q ->
  wpAny (model X.prog X.w) X.A (inplaceOp op v u) (EP X pins U Q) X.xe s
section
variable {X:Cx}{pos:Pos}
def zaq (i:Nat):TG:=fun v U H Q=>Q (U.set i (some v)) H
def zaZ {i:Nat}{x:Str}(hN:X.N.Nodup)(hi:X.N[i]?=some x)(hx:Loc X.env.scope x)(hf:X.fn x=true\/X.env.scope.names.lookup x=some .local:=by first|exact .inl rfl|exact .inr rfl|assumption):PG X (.Name x pos) (zaq i):=by
 intro pins s U H v u Q I r h;exact wpAny_assign_Name (zft I hN hi hx r (fun s' I'=>⟨_,H,I',h⟩) hf)
def zbk:TGs:=fun vs U H Q=>vs=[]/\Q U H
def zV (t:TG)(u:TGs):TGs:=fun vs U H Q=>∃ v r,vs=v::r/\t v U H fun σ' H'=>u r σ' H' Q
def zds:PGs X [] zbk:=by
 intro pins s U H vs us Q I r h;obtain⟨e,h⟩:=h;subst e;cases r;exact assignInOrder_nil ⟨U,H,I,h⟩
def zaM {e:Expr}{es:List Expr}{t:TG}{u:TGs}(h1:PG X e t)(h2:PGs X es u)
  (hs:(assignEach (e::es) X.env).map (·.2)=assign e X.env::(assignEach es X.env).map (·.2):=by rfl):PGs X (e::es) (zV t u):=by
 intro pins s U H vs us Q I r h;obtain⟨v,vr,e1,h⟩:=h;subst e1;cases r with
 |cons r rr =>
  rw[hs];refine assignInOrder_cons (thn (h1 pins s U H _ _ _ I r h) fun _ s1 ⟨σ1,H1,I1,q1⟩=>?_);exact h2 pins s1 σ1 H1 _ _ Q I1 rr q1
def zbh (K:PySem.W.Frag)(n:Nat)(t:TGs):TG:=fun v U H Q=>∃ a xs,v=.ref a/\SqT K H a xs/\xs.length=n/\t xs U H Q
def zeq {es:List Expr}{k:Nat}{t:TGs}{n:Nat}(hc:X.calm=true)(h:PGs X es t)
  (hn:(assignEach es X.env).length=n:=by rfl) (hst:(assignEach es X.env).findIdx? (·.1)=none:=by rfl):PG X (.Tuple es k pos) (zbh X.K n t):=by
 intro pins s U H v u Q I r hw;obtain⟨a,xs,e1,hq,hl,hw⟩:=hw;subst e1;cases r;obtain⟨its,rv,ht,hz⟩:=I.tuple hq;refine assign_Tuple_tuple (I.ok.hd hc) ht (by simp[hn,<- hl,rv.length]) hst fun h' hx=>?_
 have I1:Inv X pins U H { s with heap:=h' }:=I.kept (t':=s.toks) fun b o e=>hx b o (qC (qo e)) e
 exact h pins _ U H xs _ Q I1 (by simpa using rv) hw
def zgi (to ti:TE)(t:zpE):TG:=fun v U H Q=>to U H fun o H1=>ti U H1 fun i H2=>t o i v H2 fun H3=>Q U H3
def ztL {o i:Expr}{to ti:TE}{t:zpE}(ho:PE X o to)(hi:PE X i ti)(hs:zuR X t)
  (ha:∀ v,assign (.Subscript o i pos) X.env v=(do
   let ov <- holding [v] (eval o X.env);let iv <- holding [v,ov] (eval i X.env)
   standAt pos
   holding [v,ov,iv] (setItem ov iv v)
   release [v,ov,iv] []):=by intro _;rfl):PG X (.Subscript o i pos) (zgi to ti t):=by
 intro pins s U H v u Q I r h;rw[ha];refine wpAny_bind (wpAny_holding (thn (ho pins s U H _ I h) fun ov s1 ⟨x,H1,I1,r1,q1⟩=>?_));refine wpAny_bind (wpAny_holding (thn (hi pins s1 U H1 _ I1 q1) fun iv s2 ⟨y,H2,I2,r2,q2⟩=>?_));refine wpAny_bind (wpAny_standAt (wpAny_bind (wpAny_holding (thn (hs pins s2 U H2 x y v ov iv u _ I2 r1 r2 r q2) fun _ s3 ⟨H3,I3,q3⟩=>?_))));exact wpAny_release ⟨U,H3,I3,q3⟩
def zrn (te:TE)(g:TG):TS:=fun D U H=>te U H fun x H1=>g x U H1 D.nx
def zvu {tg e:Expr}{te:TE}{g:TG}(he:PE X e te)(hg:PG X tg g)(hs:swapsWithSole [tg] e pos.line X.env=pure false:=by rfl)(hw:swappedStores [tg] e X.env=pure none:=by rfl)
  (h1:(assignEach [tg] X.env).map (·.2)=[assign tg X.env]:=by rfl):PS X (.Assign [tg] e pos) (zrn te g):=by
 intro pins s U H D I h;refine wpAny_Assign_stores (thn (he pins s U H _ I h) fun v s1 ⟨x,H1,I1,r1,q1⟩=>?_) hs hw;rw[h1];exact thn (hg pins s1 U H1 x v _ I1 r1 q1) fun _ s2 q=>q
def zuf {i:Nat}{x:Str}{e:Expr}{te:TE}{pos':Pos}(hN:X.N.Nodup)(hi:X.N[i]?=some x)(hx:Loc X.env.scope x)(he:PE X e te)(hs:swapsWith e (some (.Name x pos')) pos.line X.env=pure false:=by rfl)(hf:X.fn x=true\/X.env.scope.names.lookup x=some .local:=by first|exact .inl rfl|exact .inr rfl|assumption) :
  PS X (.Assign [.Name x pos'] e pos) (zrn te (zaq i)):=by
 intro pins s U H D I h;refine wpAny_Assign_Name (thn (he pins s U H _ I h) fun v s1 ⟨y,H1,I1,r1,q1⟩=>?_) hs;exact zft I1 hN hi hx r1 (fun s2 I2=>⟨_,H1,I2,q1⟩) hf
def zxP (i:Nat)(te:TE)(ti:TIp):TS:=fun D U H=>∃ x,U[i]?=some (some x)/\te U H fun y H1=>ti x y H1 fun z H2=>D.nx (U.set i (some z)) H2
def zvr {i:Nat}{x:Str}{e:Expr}{te:TE}{op:Operator}{ti:TIp}{pos':Pos}(hN:X.N.Nodup)(hi:X.N[i]?=some x)(hx:Loc X.env.scope x)(he:PE X e te)(ho:PIp X op ti)(hf:X.fn x=true\/X.env.scope.names.lookup x=some .local:=by first|exact .inl rfl|exact .inr rfl|assumption) :
  PS X (.AugAssign (.Name x pos') op e pos) (zxP i te ti):=by
 intro pins s U H D I h;obtain⟨v,e1,h⟩:=h;obtain⟨m,hn,hl⟩:=I.loc;have vis:Vis X.env.scope x:=by rcases hx with k|k;exact .inl k;exact .inr (.inl k)
 obtain⟨u,r,l⟩:=hl i x v hi e1 vis;refine wpAny_AugAssign_Name ?_
 have go:wpAny (model X.prog X.w) X.A (eval e X.env) (fun w s₂=>wpAny (model X.prog X.w) X.A (inplaceOp op u w) (fun r s₃=>wpAny (model X.prog X.w) X.A (storeName X.env x r) (fun _=>SP X pins D .next) X.xe s₃) X.xe s₂) X.xe s:=by
  refine thn (he pins s U H _ I h) fun w s1 ⟨y,H1,I1,r1,q1⟩=>?_
  refine thn (ho pins s1 U H1 v y u w _ I1 r r1 q1) fun z s2 ⟨zv,H2,I2,r2,q2⟩=>?_
  exact zft I2 hN hi hx r2 (fun s3 I3=>⟨_,H2,I3,q2⟩) hf
 rcases l with⟨hk,hm⟩|⟨hk,c,hc,hcell⟩
 ·exact wpAny_loadName_local I.ok.kind hk hn hm go
 ·rcases hk with hk|hk
  ·exact wpAny_loadName_cell I.ok.kind hk hc hcell go
  ·rcases hx with k|k
   ·have:X.env.scope.names.lookup x=some .free:=hk;rw[k]at this;cases this
   ·have:X.env.scope.names.lookup x=some .free:=hk;rw[k]at this;cases this
def ipI (f:Int->Int->Int):TIp:=fun x y H Q=>∃ i j,x=.int i/\y=.int j/\Q (.int (f i j)) H
def zuS:PIp X .Add (ipI fun i j=>i+j):=by
 intro pins s U H x y v u Q I r1 r2 h;obtain⟨i,j,e1,e2,q⟩:=h;subst e1;subst e2;obtain⟨t,rfl⟩:=r1;obtain⟨t',rfl⟩:=r2;exact iadd_int ⟨.int _,H,I.tok _,⟨_,rfl⟩,q⟩
end
section
variable {X:Cx}{pos:Pos}
def zvR (c:TT)(tb:TS):TS:=fun D U H=>∃ W:Nat->St->Hp->Prop,(∃ m,W m U H)/\∀ m U H,W m U H ->
 c U H fun b H1=>if b=true then ∃ N:St->Hp->Prop,(∀ σ' H',N σ' H'->∃ m',m'<m/\W m' σ' H')/\tb { D with nx:=N,ct:=N,bk:=D.nx } U H1 else D.nx U H1
def zqN {c:Expr}{body:List Stmt}{tc:TT}{tb:TS}(hp:PassesOwn (model X.prog X.w) X.A X.env X.xe)(hc:PT X c tc)(hb:PSs X body tb):PS X (.While c body [] pos) (zvR tc tb):=by
 intro pins s U H D I h;obtain⟨W,⟨m0,w0⟩,turn⟩:=h;refine wpAny_While (codeAny_whileLoop (fun n s'=>∃ σ' H',Inv X pins σ' H' s'/\W n σ' H') ?_ m0 ⟨U,H,I,w0⟩);rintro n s1 ⟨σ1,H1,I1,w1⟩;refine wpAny_passesOwn hp (thn (hc pins s1 σ1 H1 _ I1 (turn n σ1 H1 w1)) fun b s2 ⟨H2,I2,q2⟩=>?_);cases b with
 |true =>
  obtain⟨N,hN,q2⟩:=q2;rw[if_pos rfl];refine wpAny_passesOwn hp (thn (hb pins s2 σ1 H2 _ I2 q2) fun f s3 q3=>?_);cases f with
  |next =>
   obtain⟨σ3,H3,I3,n3⟩:=q3;obtain⟨m',hm,w3⟩:=hN σ3 H3 n3;exact⟨m',hm,σ3,H3,I3,w3⟩
  |cont =>
   obtain⟨σ3,H3,I3,n3⟩:=q3;obtain⟨m',hm,w3⟩:=hN σ3 H3 n3;exact⟨m',hm,σ3,H3,I3,w3⟩
  |brk=>exact q3
  |ret v=>exact q3
 |false =>
  rw[if_neg qv];exact wpAny_execs_nil ⟨σ1,H2,I2,q2⟩
end
structure It where
 go:Nat->Hp->Prop
 yld:Nat->Hp->V->Hp->Prop
 stop:Nat->Hp->Prop
def zeA (X:Cx)(pins:List (Addr×Obj))(H:Hp)(b:Addr):Prop :=
 H b=none/\b≠X.env.locals/\b∉X.fs/\(b∈X.ex\/X.s₀.heap.objs.size<=b)/\(∀ x c,X.env.cells.lookup x=some c->c≠b)/\∀ p∈X.pn++pins,p.1≠b
def Inv.fpOk {X:Cx}{pins:List (Addr×Obj)}{U:St}{H H':Hp}{s:Shared}{b:Addr}(I:Inv X pins U H s)(hb:s.heap.objs.size<=b)(hn:H' b=none):zeA X pins H' b:=by
 refine⟨hn,qaj (qr I.lt hb),I.nofs hb,.inr (qR I.sz hb),fun x c e z=>?_,fun p hp z=>?_⟩
 ·obtain⟨v,q⟩:=I.cell x c e;exact absurd (qr q.lt (by rw[z];exact hb)) (qV _)
 ·exact absurd (qr (qo (I.pin p hp).1) (by rw[z];exact hb)) (qV _)
structure Turn (P:Program)(w:World)(K:PySem.W.Frag)(tg:Expr)(J:It)(fp:List Addr)(it:Addr)(tn:Nat->Heap->Prop):Prop where
 mem:it∈fp
 obj:∀ i h,tn i h->∀ b∈fp,∃ o,h.get? b=some o/\∀ v,o.data≠.cell v
 keep:∀ i h h',tn i h->(∀ b∈fp,∀ o,h.get? b=some o->h'.get? b=some o)->tn i h'
 item:∀ (X:Cx),X.prog=P->X.w=w->X.K=K->X.calm=true->∀ (i:Nat) (pins:List (Addr×Obj)) (s:Shared) (U:St) (H:Hp) (E:Value->Shared->Prop),Inv X pins U H s->(∀ b∈fp,zeA X pins H b)->tn i s.heap->J.go i H ->
  wpAny (model P w) X.A (pyNext (.ref it)) (fun r s1=>∃ u,r=some u /\
   wpAny (model P w) X.A (letOwnedTupleGo tg (.ref it) u) (fun _ s2=>∃ x H',Inv X pins U H' s2/\RelV x u/\J.yld i H x H'/\tn (i+1) s2.heap/\∀ b∈fp,H' b=none) E s1) E s
 done:∀ (X:Cx),X.prog=P->X.w=w->X.K=K->X.calm=true->∀ (i:Nat) (pins:List (Addr×Obj)) (s:Shared) (U:St) (H:Hp) (E:Value->Shared->Prop),Inv X pins U H s->(∀ b∈fp,zeA X pins H b)->tn i s.heap->J.stop i H ->
  wpAny (model P w) X.A (pyNext (.ref it)) (fun r s1=>r=none/\Inv X pins U H s1) E s
 self:∀ (A:Around) (i:Nat) (s:Shared) (Q:Value->Shared->Prop) (E:Value->Shared->Prop),tn i s.heap->Q (.ref it) s->wpAny (model P w) A (pyIter (.ref it)) Q E s
abbrev TI:=St->Hp->(It->Hp->Prop)->Prop
def PIE (X:Cx)(pins:List (Addr×Obj))(U:St)(tg:Expr)(R:It->Hp->Prop)(itv:Value)(s2:Shared):Prop :=
 ∃ (it:Addr) (fp:List Addr) (tn:Nat->Heap->Prop) (J:It) (H':Hp),itv=.ref it/\Inv X pins U H' s2/\Turn X.prog X.w X.K tg J fp it tn/\tn 0 s2.heap/\(∀ b∈fp,zeA X pins H' b)/\R J H'
def PI (X:Cx)(tg iter:Expr)(wi:TI):Prop :=
 ∀ (pins:List (Addr×Obj)) (s:Shared) (U:St) (H:Hp) (R:It->Hp->Prop),Inv X pins U H s->wi U H R ->
  wpAny (model X.prog X.w) X.A (eval iter X.env) (fun v s1=>wpAny (model X.prog X.w) X.A (pyIter v) (PIE X pins U tg R) X.xe s1) X.xe s
def zgA {M:Model}{A:Around}{E:Value->Shared->Prop}{s:Shared}{tg:Expr}{it:Addr}{u:Value}{o:Obj}{n:String}{vs:Array Value}{Q:Unit->Shared->Prop}(ho:s.heap.get? it=some o)(hc:o.cls=.type n)(hd:o.data=.fields vs)
    (hn:["enumerate","zip","dict_itemiterator","dict_reverseitemiterator","odict_iterator","itertools.zip_longest","itertools.pairwise"].contains n=false) (hQ:Q () s):wpAny M A (letOwnedTupleGo tg (.ref it) u) Q E s:=by
  unfold letOwnedTupleGo
  cases tg<;>first
    |exact wpAny_pure hQ
    | (cases u <;> first
        |exact wpAny_pure hQ
        | (refine wpAny_bind (wpAny_load ho ?_)
           rw[hc,hd];show wpAny M A (if(["enumerate","zip","dict_itemiterator","dict_reverseitemiterator","odict_iterator","itertools.zip_longest","itertools.pairwise"].contains n&&vs[0]?==some (rawInt _))=true then _ else _) Q E s;rw[if_neg (by intro h;rw[hn,Bool.false_and]at h;cases h)];exact wpAny_pure hQ))
def Itl (K:PySem.W.Frag)(a:Addr):It :=
 ⟨fun i H=>∃ xs x,SqL K H a xs/\xs[i]?=some x,fun i H x H'=>H'=H/\∀ xs,SqL K H a xs->xs[i]?=some x,fun i H=>∃ xs,SqL K H a xs/\xs.length<=i⟩
def Itt (K:PySem.W.Frag)(a:Addr):It :=
 ⟨fun i H=>∃ xs x,SqT K H a xs/\xs[i]?=some x,fun i H x H'=>H'=H/\∀ xs,SqT K H a xs->xs[i]?=some x,fun i H=>∃ xs,SqT K H a xs/\xs.length<=i⟩
def Itr (lo:Int)(n:Nat):It:=⟨fun i _=>i<n,fun i H x H'=>H'=H/\x=.int (lo+i),fun i _=>n<=i⟩
def zn0 {P:Program}{w:World}{K:PySem.W.Frag}{tg:Expr}(a it:Addr):Turn P w K tg (Itl K a) [it] it (fun i h=>h.IsListIter it a i) where
 mem:=by simp
 obj:=fun i h st b hb=>by
  have e:b=it:=by simpa using hb
  subst e;obtain⟨o,e,c,d⟩:=st;exact⟨o,e,fun v z=>by rw[d]at z;cases z⟩
 keep:=fun i h h' st k=>st.at fun o e=>k it (by simp) o e
 item:=by
  intro X hP hw hK hc i pins s U H E I hf st hg;subst hP hw hK;obtain⟨xs,x,hq,hx⟩:=hg;obtain⟨its,rv,p,hz⟩:=I.list hq;obtain⟨u,hu,ru⟩:=rv.get hx;obtain⟨f0,f1,f2,f3,f4,f5⟩:=hf it (by simp);refine wpAny_pyNext_list_item st p.isList (x:=u) (by simpa using hu) fun h' st' sb=>?_
  have I1:Inv X pins U H { s with heap:=h' }:=I.turned (t':=s.toks) (fun b o hb e=>(sb.2 b hb).trans e) f0 f1 f3 f4 f5;obtain⟨o,e,c,d⟩:=id st';exact⟨u,rfl,zgA (s:={ s with heap:=h' }) e c d (by decide) ⟨x,H,I1,ru,⟨rfl,fun ys hy=>by rw[I.list_inj hy hq];exact hx⟩,st',fun b hb=>(hf b hb).1⟩⟩
 done:=by
  intro X hP hw hK hc i pins s U H E I hf st hg;subst hP hw hK;obtain⟨xs,hq,hx⟩:=hg;obtain⟨its,rv,p,hz⟩:=I.list hq;obtain⟨f0,f1,f2,f3,f4,f5⟩:=hf it (by simp);have hl:=rv.length;exact wpAny_pyNext_list_end (I.ok.hd hc) st p.isList (by simp;lia) fun h' eb=>⟨rfl,I.turned (t':=s.toks) (fun b o hb e=>eb b o hb e) f0 f1 f3 f4 f5⟩
 self:=fun _ _ _ _ _ st h=>wpAny_pyIter_listiter st h
def zmI {P:Program}{w:World}{K:PySem.W.Frag}{tg:Expr}(a it:Addr):Turn P w K tg (Itt K a) [it] it (fun i h=>h.IsTupleIter it a i) where
 mem:=by simp
 obj:=fun i h st b hb=>by
  have e:b=it:=by simpa using hb
  subst e;obtain⟨o,e,c,d⟩:=st;exact⟨o,e,fun v z=>by rw[d]at z;cases z⟩
 keep:=fun i h h' st k=>st.at fun o e=>k it (by simp) o e
 item:=by
  intro X hP hw hK hc i pins s U H E I hf st hg;subst hP hw hK;obtain⟨xs,x,hq,hx⟩:=hg;obtain⟨its,rv,p,hz⟩:=I.tuple hq;obtain⟨u,hu,ru⟩:=rv.get hx;obtain⟨f0,f1,f2,f3,f4,f5⟩:=hf it (by simp);refine wpAny_pyNext_tuple_item st (show s.heap.IsTuple a its.toArray from p) (x:=u) (by simpa using hu) fun h' st' sb=>?_
  have I1:Inv X pins U H { s with heap:=h' }:=I.turned (t':=s.toks) (fun b o hb e=>(sb.2 b hb).trans e) f0 f1 f3 f4 f5;obtain⟨o,e,c,d⟩:=id st';exact⟨u,rfl,zgA (s:={ s with heap:=h' }) e c d (by decide) ⟨x,H,I1,ru,⟨rfl,fun ys hy=>by rw[I.tuple_inj hy hq];exact hx⟩,st',fun b hb=>(hf b hb).1⟩⟩
 done:=by
  intro X hP hw hK hc i pins s U H E I hf st hg;subst hP hw hK;obtain⟨xs,hq,hx⟩:=hg;obtain⟨its,rv,p,hz⟩:=I.tuple hq;obtain⟨f0,f1,f2,f3,f4,f5⟩:=hf it (by simp);have hl:=rv.length;exact wpAny_pyNext_tuple_end (I.ok.hd hc) st (show s.heap.IsTuple a its.toArray from p) (by simp;lia) fun h' eb=>⟨rfl,I.turned (t':=s.toks) (fun b o hb e=>eb b o hb e) f0 f1 f3 f4 f5⟩
 self:=fun _ _ _ _ _ st h=>wpAny_pyIter_tupleiter st h
def zh7 {P:Program}{w:World}{K:PySem.W.Frag}{tg:Expr}(it:Addr)(lo:Int)(n:Nat):Turn P w K tg (Itr lo n) [it] it (fun i h=>IsRangeIter h it (lo+(i:Nat)*1) ((n:Int)-(i:Nat)) 1) where
 mem:=by simp
 obj:=fun i h st b hb=>by
  have e:b=it:=by simpa using hb
  subst e
  exact⟨_,st,fun v z=>by
   have z':Data.fields _=Data.cell v:=z;cases z'⟩
 keep:=fun i h h' st k=>k it (by simp) _ st
 item:=by
  intro X hP hw hK hc i pins s U H E I hf st hg;subst hP hw hK;obtain⟨f0,f1,f2,f3,f4,f5⟩:=hf it (by simp);have W:=Walks.range (prog:=X.prog) (w:=X.w) (I.ok.hd hc) it lo 1 n;refine W.item i s _ _ hg st fun v h' tk hv st' kk=>?_
  obtain⟨t,rfl⟩:=hv;have I1:Inv X pins U H { s with heap:=h',toks:=tk }:=I.turned (fun b o hb e=>kk b o (by simpa using hb) e) f0 f1 f3 f4 f5;refine⟨_,rfl,zgA (s:={ s with heap:=h',toks:=tk }) (n:="range_iterator") st' rfl rfl (by decide) ⟨.int (lo+i),H,I1,⟨t,?_⟩,⟨rfl,rfl⟩,st',fun b hb=>(hf b hb).1⟩⟩;rw[Int.mul_one]
 done:=by
  intro X hP hw hK hc i pins s U H E I hf st hg;subst hP hw hK;obtain⟨f0,f1,f2,f3,f4,f5⟩:=hf it (by simp);exact wpAny_pyNext_range_end (I.ok.hd hc) st (by have:n<=i:=hg;lia) fun h' eb=>⟨rfl,I.turned (t':=s.toks) (fun b o hb e=>eb b o hb e) f0 f1 f3 f4 f5⟩
 self:=fun _ _ _ _ _ st h=>wpAny_pyIter_rangeiter st h
section
variable {X:Cx}{tg:Expr}
def zpK {pins:List (Addr×Obj)}{U:St}{H:Hp}{s:Shared}{R:It->Hp->Prop}{E:Value->Shared->Prop}{lo hi:Int}{t u v:Tok}{tk:Nat}(I:Inv X pins U H s)(h1:-(2 ^ 62)<=lo)(h2:lo<2 ^ 62)(h3:-(2 ^ 62)<=hi)(h4:hi<2 ^ 62)
    (q:R (Itr lo (hi-lo).toNat) H):wpAny (model X.prog X.w) X.A (pyIter (.ref s.heap.objs.size)) (PIE X pins U tg R) E { s with heap:=s.heap.push { cls:=.type "range",data:=.fields #[.int lo t,.int hi u,.int 1 v] },toks:=tk }:=by
  refine wpAny_pyIter_range (IsRange.new ..) (small_one h1 h2 h3 h4) ?_;have I1:Inv X pins U H { s with heap:=s.heap.push { cls:=.type "range",data:=.fields #[.int lo t,.int hi u,.int 1 v] },toks:=tk }:=I.kept fun b o e=>qd _ e
  refine⟨(s.heap.push { cls:=.type "range",data:=.fields #[.int lo t,.int hi u,.int 1 v] }).objs.size,[(s.heap.push { cls:=.type "range",data:=.fields #[.int lo t,.int hi u,.int 1 v] }).objs.size],_,_,H,rfl,
    I1.kept (t':=tk) fun b o e=>qd _ e,zh7 _ lo (hi-lo).toNat,?_,fun b hb=>?_,q⟩
  . have e1:lo+((0:Nat):Int)*1=lo:=by simp
    have e2:(((hi-lo).toNat:Nat):Int)-((0:Nat):Int)=Builtin.Range.rangeSize lo hi 1:=by rw[rangeSize_one];split<;>lia
    show IsRangeIter _ _ (lo+((0:Nat):Int)*1) ((((hi-lo).toNat:Nat):Int)-((0:Nat):Int)) 1;rw[e1,e2];exact qp _ rfl
  . have e:b=(s.heap.push { cls:=.type "range",data:=.fields #[.int lo t,.int hi u,.int 1 v] }).objs.size:=by simpa using hb
    subst e;exact I1.fpOk (qe _) (I1.hok.fresh (qe _))
def zeL (ta:TA):TI:=fun U H R=>ta U H fun vs H1=>∃ j:Int,vs=[.int j]/\-(2 ^ 62)<=j/\j<2 ^ 62/\R (Itr 0 j.toNat) H1
def zph {a:Expr}{ta:TA}{p pos:Pos}(hg:Gl X "range")(hm:X.mg "range"=none)(ha:PA X [a] ta)(hs:starEach [a] X.env=[(false,eval a X.env)]:=by rfl):PI X tg (.Call (.Name "range" p) [a] [] pos) (zeL ta):=by
 intro pins s U H R I h;refine Call_ (zbY I hg hm boot_range (PyProof.Rows.callWith_type1 (thn (ha pos pins s U H _ I h) fun us s1 ⟨vs,H1,I1,r1,q1⟩=>?_) hs rfl));obtain⟨j,e,q1,q2,q⟩:=q1;subst e;cases r1 with
 |cons r rr =>
  cases rr;obtain⟨t,rfl⟩:=r;exact call_range_1 (zpK I1 (by lia) (by lia) q1 q2 (by simpa using q))
def zyp (wi:TI)(g:TG)(tb:TS):TS:=fun D U H=>wi U H fun J H1=>∃ W:Nat->Nat->St->Hp->Prop,(∃ m,W 0 m U H1)/\∀ i m U H,W i m U H ->
 (J.stop i H/\D.nx U H)\/(J.go i H/\∃ N:St->Hp->Prop,(∀ σ' H',N σ' H'->∃ m',m'<m/\W (i+1) m' σ' H')/\∀ x H',J.yld i H x H'->g x U H' fun σ2 H2=>tb { D with nx:=N,ct:=N,bk:=D.nx } σ2 H2)
def zgh (fp:List Addr)(h:Heap):List (Addr×Obj):=fp.filterMap fun b=>(h.get? b).map fun o=>(b,o)
def zec {fp:List Addr}{h:Heap}{b:Addr}{o:Obj}(hb:b∈fp)(e:h.get? b=some o):(b,o)∈zgh fp h:=qai.mpr ⟨b,hb,by rw[e];rfl⟩
def zoQ {fp:List Addr}{h:Heap}{p:Addr×Obj}(hp:p∈zgh fp h):p.1∈fp/\h.get? p.1=some p.2:=by
 obtain⟨b,hb,e⟩:=qai.mp hp;cases q:h.get? b with
 |none=>rw[q]at e;cases e
 |some o =>
  rw[q]at e;have e':(b,o)=p:=qM e;subst e';exact⟨hb,q⟩
def Inv.pinned {pins:List (Addr×Obj)}{U:St}{H:Hp}{s:Shared}{fp:List Addr}(I:Inv X pins U H s)(hf:∀ b∈fp,zeA X pins H b)(ho:∀ b∈fp,∃ o,s.heap.get? b=some o/\∀ v,o.data≠.cell v):Inv X (pins++zgh fp s.heap) U H s :=
 I.pins_of fun p hp=>(qF.mp hp).elim (fun z=>I.pin p (qK _ z)) fun z=>by
  obtain⟨hb,e⟩:=zoQ z;obtain⟨f0,f1,f2,_⟩:=hf p.1 hb;obtain⟨o,e',d⟩:=ho p.1 hb;rw[e]at e';cases e';exact⟨e,f0,f1,f2,d⟩
def Inv.unpinned {pins pl:List (Addr×Obj)}{U:St}{H:Hp}{s:Shared}(I:Inv X (pins++pl) U H s):Inv X pins U H s:=I.pins_of fun p hp=>I.pin p (qK _ (qQ _ hp))
def ztY {iter:Expr}{body:List Stmt}{wi:TI}{g:TG}{tb:TS}{pos:Pos}(hp:PassesOwn (model X.prog X.w) X.A X.env X.xe)(hc:X.calm=true)(hi:PI X tg iter wi)(hg:PG X tg g)(hb:PSs X body tb)
  (hs:∀ x,foldedSetIterable iter X.env x=pure x:=by intro _;rfl):PS X (.For tg iter body [] pos) (zyp wi g tb):=by
 intro pins s U H D I h;refine wpAny_For (thn (hi pins s U H _ I h) fun v s1 h1=>thn h1 fun itv s2 h2=>?_) hs;obtain⟨it,fp,tn,J,H2,e,I2,T,st2,f2,W,⟨m0,w0⟩,turn⟩:=h2;subst e;have stat:∀ {H':Hp},(∀ b∈fp,H' b=none)->∀ b∈fp,zeA X pins H' b:=fun hn b hb=>⟨hn b hb,(f2 b hb).2⟩
 refine codeAny_forLoop_any (fun n s'=>∃ i σ' H',Inv X pins σ' H' s'/\tn i s'.heap/\(∀ b∈fp,H' b=none)/\W i n σ' H') ?_ m0 ⟨0,U,H2,I2,st2,fun b hb=>(f2 b hb).1,w0⟩;rintro n s3 ⟨i,σ3,H3,I3,st3,fr3,w3⟩;rcases turn i n σ3 H3 w3 with⟨stop,qn⟩|⟨go,N,hN,step⟩
 ·refine wpAny_passesOwn hp (thn (T.done X rfl rfl rfl hc i pins s3 σ3 H3 X.xe I3 (stat fr3) st3 stop) fun r s4 ⟨hr,I4⟩=>?_);subst hr;exact wpAny_execs_nil ⟨σ3,H3,I4,qn⟩
 ·refine wpAny_passesOwn hp (thn (T.item X rfl rfl rfl hc i pins s3 σ3 H3 X.xe I3 (stat fr3) st3 go) fun r s4 ⟨u,hr,h4⟩=>?_);subst hr;refine wpAny_passesOwn hp (thn h4 fun _ s5 ⟨x,H5,I5,r5,y5,st5,fr5⟩=>?_);have I5':=I5.pinned (stat fr5) (T.obj _ _ st5);refine wpAny_passesOwn hp (thn (hg _ s5 σ3 H5 x u _ I5' r5 (step x H5 y5)) fun _ s6 ⟨σ6,H6,I6,q6⟩=>?_);refine wpAny_passesOwn hp (thn (hb _ s6 σ6 H6 _ I6 q6) fun f s7 q7=>?_)
  have again:∀ {σ7:St} {H7:Hp},Inv X (pins++zgh fp s5.heap) σ7 H7 s7->N σ7 H7->∃ m,m<n/\∃ i σ' H',Inv X pins σ' H' s7/\tn i s7.heap/\(∀ b∈fp,H' b=none)/\W i m σ' H':=fun {σ7 H7} I7 n7=>by
   obtain⟨m',hm,w7⟩:=hN σ7 H7 n7;refine⟨m',hm,i+1,σ7,H7,I7.unpinned,T.keep _ _ _ st5 fun b hb o e=>(I7.pin (b,o) (qK _ (qK _ (zec hb e)))).1,fun b hb=>?_,w7⟩;obtain⟨o,e,d⟩:=T.obj _ _ st5 b hb;exact(I7.pin (b,o) (qK _ (qK _ (zec hb e)))).2.1
  cases f with
  |next=>obtain⟨σ7,H7,I7,n7⟩:=q7;exact again I7 n7
  |cont=>obtain⟨σ7,H7,I7,n7⟩:=q7;exact again I7 n7
  |brk=>obtain⟨σ7,H7,I7,q7⟩:=q7;exact⟨σ7,H7,I7.unpinned,q7⟩
  |ret v=>obtain⟨x7,σ7,H7,I7,r7,q7⟩:=q7;exact⟨x7,σ7,H7,I7.unpinned,r7,q7⟩
end
abbrev R2:=V->V->Hp->VK->Prop
def OpR (X:Cx)(f:Value->Value->Sem Value)(r:R2):Prop :=
 ∀ (pins:List (Addr×Obj)) (s:Shared) (U:St) (H:Hp) (x y:V) (v u:Value) (Q:VK),Inv X pins U H s->RelV x v->RelV y u->r x y H Q ->
  wpAny (model X.prog X.w) X.A (f v u) (EP X pins U Q) X.xe s
def UnR (X:Cx)(f:Value->Sem Value)(r:V->Hp->VK->Prop):Prop :=
 ∀ (pins:List (Addr×Obj)) (s:Shared) (U:St) (H:Hp) (x:V) (v:Value) (Q:VK),Inv X pins U H s->RelV x v->r x H Q ->
  wpAny (model X.prog X.w) X.A (f v) (EP X pins U Q) X.xe s
def zaE (X:Cx)(f:Value)(r:List V->Hp->VK->Prop):Prop :=
 ∀ (pins:List (Addr×Obj)) (s:Shared) (U:St) (H:Hp) (xs:List V) (us:List Value) (Q:VK),Inv X pins U H s->Vals xs us->r xs H Q ->
  wpAny (model X.prog X.w) X.A (call f us) (EP X pins U Q) X.xe s
def tOp (r:R2)(ta tb:TE):TE:=fun U H Q=>ta U H fun x H1=>tb U H1 fun y H2=>r x y H2 Q
def tUn (r:V->Hp->VK->Prop)(ta:TE):TE:=fun U H Q=>ta U H fun x H1=>r x H1 Q
def rI (C:Int->Int->Prop)(g:Int->Int->V):R2:=fun x y H Q=>∃ i j,x=.int i/\y=.int j/\C i j/\Q (g i j) H
def rI0 (g:Int->Int->V):R2:=fun x y H Q=>∃ i j,x=.int i/\y=.int j/\Q (g i j) H
def rU (g:Int->V):V->Hp->VK->Prop:=fun x H Q=>∃ i,x=.int i/\Q (g i) H
section
variable {X:Cx}{a b c:Expr}{ta tb tc:TE}{pos:Pos}
def zrm (ha:PE X a ta)(hb:PE X b tb){pins:List (Addr×Obj)}{s:Shared}{U:St}{H:Hp}{R:V->V->Hp->Prop}(I:Inv X pins U H s)
  (h:ta U H fun x H1=>tb U H1 fun y H2=>R x y H2) {Q:Value->Shared->Prop} {f:Value->Value->Sem Value}
  (hf:∀ v u s2 x y H2,Inv X pins U H2 s2->RelV x v->RelV y u->R x y H2->wpAny (model X.prog X.w) X.A (f v u) Q X.xe s2) :
  wpAny (model X.prog X.w) X.A (eval a X.env) (fun v s₁=>wpAny (model X.prog X.w) X.A (eval b X.env) (fun u s₂=>wpAny (model X.prog X.w) X.A (f v u) Q X.xe s₂) X.xe s₁) X.xe s:=by
 refine thn (ha pins s U H _ I h) fun v s1 ⟨x,H1,I1,r1,q1⟩=>?_
 refine thn (hb pins s1 U H1 _ I1 q1) fun u s2 ⟨y,H2,I2,r2,q2⟩=>?_
 exact hf v u s2 x y H2 I2 r1 r2 q2
def zrM {op:Operator}{r:R2}(ho:OpR X (binaryOp op) r)(ha:PE X a ta)(hb:PE X b tb):PE X (.BinOp a op b pos) (tOp r ta tb):=by
 intro pins s U H Q I h;exact wpAny_BinOp (zrm ha hb I h fun v u s2 x y H2 I2 rx ry q=>ho pins s2 U H2 x y v u Q I2 rx ry q)
def zvZ {op:UnaryOp}{r:V->Hp->VK->Prop}(ho:UnR X (unaryOp op) r)(ha:PE X a ta):PE X (.UnaryOp op a pos) (tUn r ta):=by
 intro pins s U H Q I h;exact UnaryOp_ (thn (ha pins s U H _ I h) fun v s1 ⟨x,H1,I1,r1,q1⟩=>ho pins s1 U H1 x v Q I1 r1 q1)
def opI {f:Value->Value->Sem Value}{C:Int->Int->Prop}{g:Int->Int->Int}
  (rule:∀ (i j:Int) (t u:Tok) (s:Shared) (Q:Value->Shared->Prop) (E:Value->Shared->Prop),C i j->Q (.int (g i j) s.toks) { s with toks:=s.toks+1 }->wpAny (model X.prog X.w) X.A (f (.int i t) (.int j u)) Q E s) :
  OpR X f (rI C fun i j=>.int (g i j)):=by
 intro pins s U H x y v u Q I rx ry h;obtain⟨i,j,rfl,rfl,hc,q⟩:=h;obtain⟨t,rfl⟩:=rx;obtain⟨t',rfl⟩:=ry;exact rule i j t t' s _ _ hc ⟨.int (g i j),H,I.tok _,⟨_,rfl⟩,q⟩
def zvg {f:Value->Value->Sem Value}{g:Int->Int->Int}
  (rule:∀ (i j:Int) (t u:Tok) (s:Shared) (Q:Value->Shared->Prop) (E:Value->Shared->Prop),Q (.int (g i j) s.toks) { s with toks:=s.toks+1 }->wpAny (model X.prog X.w) X.A (f (.int i t) (.int j u)) Q E s) :
  OpR X f (rI0 fun i j=>.int (g i j)):=by
 intro pins s U H x y v u Q I rx ry h;obtain⟨i,j,rfl,rfl,q⟩:=h;obtain⟨t,rfl⟩:=rx;obtain⟨t',rfl⟩:=ry;exact rule i j t t' s _ _ ⟨.int (g i j),H,I.tok _,⟨_,rfl⟩,q⟩
def znh {f:Value->Value->Sem Value}{g:Int->Int->Bool}
  (rule:∀ (i j:Int) (t u:Tok) (s:Shared) (Q:Value->Shared->Prop) (E:Value->Shared->Prop),Q (.bool (g i j)) s->wpAny (model X.prog X.w) X.A (f (.int i t) (.int j u)) Q E s) :
  OpR X f (rI0 fun i j=>.bl (g i j)):=by
 intro pins s U H x y v u Q I rx ry h;obtain⟨i,j,rfl,rfl,q⟩:=h;obtain⟨t,rfl⟩:=rx;obtain⟨t',rfl⟩:=ry;exact rule i j t t' s _ _ ⟨.bl (g i j),H,I,rfl,q⟩
def zyh (i j:Int):Prop:=0<=j/\j<=1000000/\i.natAbs<2 ^ 64
def zmN (i j:Int):Prop:=(-(2 ^ 64)<i/\i<2 ^ 64)\/(-(2 ^ 64)<j/\j<2 ^ 64)
def zmN.ok {i j:Int}(h:zmN i j):IntMulOk i j:=by
 rcases h with⟨h1,h2⟩|⟨h1,h2⟩
 ·exact .of_left (intBits_le_64 h1 h2)
 ·exact .of_right (intBits_le_64 h1 h2)
def zvG:OpR X (binaryOp .Add) (rI0 fun i j=>.int (i+j)):=zvg fun _ _ _ _ _ _ _ q=>add_int q
def zuG:OpR X (binaryOp .Sub) (rI0 fun i j=>.int (i-j)):=zvg fun _ _ _ _ _ _ _ q=>sub_int q
def zsY:OpR X (binaryOp .Mod) (rI (fun _ j=>j≠0) fun i j=>.int (i.fmod j)):=opI fun _ _ _ _ _ _ _ hc q=>mod_int' hc q
def zvP:OpR X (binaryOp .Pow) (rI zyh fun i j=>.int (i ^ j.toNat)):=opI fun _ _ _ _ _ _ _ hc q=>pow_int_small hc.1 hc.2.1 hc.2.2 q
def unI {f:Value->Sem Value}{g:Int->Int}
  (rule:∀ (i:Int) (t:Tok) (s:Shared) (Q:Value->Shared->Prop) (E:Value->Shared->Prop),Q (.int (g i) s.toks) { s with toks:=s.toks+1 }->wpAny (model X.prog X.w) X.A (f (.int i t)) Q E s) :
  UnR X f (rU fun i=>.int (g i)):=by
 intro pins s U H x v Q I rx h;obtain⟨i,rfl,q⟩:=h;obtain⟨t,rfl⟩:=rx;exact rule i t s _ _ ⟨.int (g i),H,I.tok _,⟨_,rfl⟩,q⟩
def zu7:UnR X (unaryOp .USub) (rU fun i=>.int (-i)):=unI fun _ _ _ _ _ q=>neg_int q
end
section
variable {X:Cx}{a b c:Expr}{ta tb tc:TE}{pos:Pos}
def ziD {pins:List (Addr×Obj)}{U:St}{H:Hp}{s:Shared}{Q:VK}{k k':Bool}(I:Inv X pins U H s)(q:Q (.bl k) H)(e:k=k'):EP X pins U Q (.bool k') s:=by
 subst e;exact⟨.bl k,H,I,rfl,q⟩
def zwY:OpR X (compareOp .Lt) (rI0 fun i j=>.bl (decide (i<j))):=znh fun _ _ _ _ _ _ _ q=>lt_int q
def zxg:OpR X (compareOp .LtE) (rI0 fun i j=>.bl (decide (i<=j))):=znh fun _ _ _ _ _ _ _ q=>le_int q
def zwU:OpR X (compareOp .Gt) (rI0 fun i j=>.bl (decide (j<i))):=znh fun _ _ _ _ _ _ _ q=>gt_int q
def zwp:OpR X (compareOp .GtE) (rI0 fun i j=>.bl (decide (j<=i))):=znh fun _ _ _ _ _ _ _ q=>ge_int q
def zoM:OpR X (compareOp .In) (fun x y H Q=>∃ i j,x=.str i/\y=.str j/\Q (.bl (!(Builtin.Str.occurrences j i 0 j.length 1).isEmpty)) H):=by
 intro pins s U H x y v u Q I rx ry h;obtain⟨i,j,rfl,rfl,q⟩:=h;obtain⟨t,rfl⟩:=rx;obtain⟨t',rfl⟩:=ry;exact in_str (ziD I q rfl)
def zuW:OpR X (compareOp .Is) (fun x y H Q=>y=.non/\Q (.bl (decide (x=.non))) H):=by
  intro pins s U H x y v u Q I rx ry h;obtain⟨rfl,q⟩:=h;cases ry;refine is_none_gen (ziD I q ?_)
  cases x<;>first
    |(cases rx;rfl)
    |(obtain⟨t,rfl⟩:=rx;rfl)
def zsV:OpR X (compareOp .IsNot) (fun x y H Q=>y=.non/\Q (.bl (!decide (x=.non))) H):=by
  intro pins s U H x y v u Q I rx ry h;obtain⟨rfl,q⟩:=h;cases ry;refine isnot_none_gen (ziD I q ?_)
  cases x<;>first
    |(cases rx;rfl)
    |(obtain⟨t,rfl⟩:=rx;rfl)
def zkh:OpR X (compareOp .NotIn) (fun x y H Q=>∃ i j,x=.str i/\y=.str j/\Q (.bl (!(!(Builtin.Str.occurrences j i 0 j.length 1).isEmpty))) H):=by
 intro pins s U H x y v u Q I rx ry h;obtain⟨i,j,rfl,rfl,q⟩:=h;obtain⟨t,rfl⟩:=rx;obtain⟨t',rfl⟩:=ry;exact notIn_str (ziD I q rfl)
def OpR.or {f:Value->Value->Sem Value}{r r':R2}(h:OpR X f r)(h':OpR X f r'):OpR X f (fun x y H Q=>r x y H Q\/r' x y H Q):=by
 intro pins s U H x y v u Q I rx ry q;rcases q with q|q
 ·exact h pins s U H x y v u Q I rx ry q
 ·exact h' pins s U H x y v u Q I rx ry q
def zon (b:Expr){op:CmpOp}(h:op≠.In:=by decide)(h2:op≠.NotIn:=by decide):behindInMarks op b=false:=by
  have e1:(op==CmpOp.In)=false:=by cases op<;>first|rfl|exact absurd rfl h
  have e2:(op==CmpOp.NotIn)=false:=by cases op<;>first|rfl|exact absurd rfl h2
  cases b<;>simp[behindInMarks,e1,e2]
def zmn {op:CmpOp}{r:R2}(ho:OpR X (compareOp op) r)(ha:PE X a ta)(hb:PE X b tb)(hm:behindInMarks op b=false):PE X (.Compare a [op] [b] pos) (tOp r ta tb):=by
 intro pins s U H Q I h;exact wpAny_Compare1 (zrm ha hb I h fun v u s2 x y H2 I2 rx ry q=>ho pins s2 U H2 x y v u Q I2 rx ry q) hm
def zrC (t:TE):TT:=fun U H Q=>t U H fun x H'=>∃ k,x=.bl k/\Q k H'
def zmk {op:CmpOp}{r:R2}(ho:OpR X (compareOp op) r)(ha:PE X a ta)(hb:PE X b tb)(hm:behindInMarks op b=false):PT X (.Compare a [op] [b] pos) (zrC (tOp r ta tb)):=by
 intro pins s U H Q I h
 refine wpAny_isTrue_Compare1 (thn (ha pins s U H _ I h) fun v s1 ⟨x,H1,I1,r1,q1⟩=>thn (hb pins s1 U H1 _ I1 q1) fun u s2 ⟨y,H2,I2,r2,q2⟩ =>
  thn (ho pins s2 U H2 x y v u _ I2 r1 r2 q2) fun c s3 ⟨z,H3,I3,r3,k,e,q3⟩=>?_) hm
 subst e;cases r3;exact wpAny_truthy_bool ⟨H3,I3,q3⟩
def zoe (r r':R2)(ta tb tc:TE):TE:=fun U H Q=>ta U H fun x H1=>tb U H1 fun y H2=>r x y H2 fun z H3=>∃ k,z=.bl k /\
 (if k=true then tc U H3 fun w' H4=>r' y w' H4 Q else Q (.bl false) H3)
def zqG {op op':CmpOp}{r r':R2}(ho:OpR X (compareOp op) r)(ho':OpR X (compareOp op') r')(ha:PE X a ta)(hb:PE X b tb)(hc:PE X c tc)
  (hm:lastMarks [op,op'] [b,c]=false:=by with_unfolding_all rfl):PT X (.Compare a [op,op'] [b,c] pos) (zrC (zoe r r' ta tb tc)):=by
 intro pins s U H Q I h
 refine isTrue_chain (thn (ha pins s U H _ I h) fun v s1 ⟨x,H1,I1,r1,q1⟩=>test_link (thn (hb pins s1 U H1 _ I1 q1) fun u s2 ⟨y,H2,I2,r2,q2⟩ =>
  thn (ho pins s2 U H2 x y v u _ I2 r1 r2 q2) fun d s3 ⟨z,H3,I3,r3,k,e,q3⟩=>?_)) hm
 subst e;cases r3;refine wpAny_truthy_bool ?_;cases k with
 |false =>
  obtain⟨k',e',q'⟩:=q3;cases e';exact ite_ff ⟨H3,I3,q'⟩
 |true =>
  refine ite_tt (test_last (thn (hc pins s3 U H3 _ I3 q3) fun w' s4 ⟨z',H4,I4,r4,q4⟩=>thn (ho' pins s4 U H4 y z' u w' _ I4 r2 r4 q4) fun d' s5 ⟨z2,H5,I5,r5,k2,e2,q5⟩=>?_));subst e2;cases r5;exact wpAny_truthy_bool ⟨H5,I5,q5⟩
def ze0:(sizeLine:Nat)<2 ^ 63:=by rw[sizeLine_eq];decide
def zm2:OpR X (binaryOp .Add) (fun x y H Q=>∃ i j,x=.str i/\y=.str j/\i.length+j.length<=sizeLine/\Q (.str (i++j)) H):=by
 intro pins s U H x y v u Q I rx ry h;obtain⟨i,j,rfl,rfl,hz,q⟩:=h;obtain⟨t,rfl⟩:=rx;obtain⟨t',rfl⟩:=ry;exact add_str (fun t' tk=>⟨.str (i++j),H,I.tok _,⟨_,rfl⟩,q⟩) hz
def vals1 {x:V}{us:List Value}(r:Vals [x] us):∃ u,us=[u]/\RelV x u:=by
 cases r with
 |cons r1 r2=>cases r2;exact⟨_,rfl,r1⟩
def vals2 {x y:V}{us:List Value}(r:Vals [x,y] us):∃ u w',us=[u,w']/\RelV x u/\RelV y w':=by
 cases r with
 |cons r1 r2 =>
  cases r2 with
  |cons r3 r4=>cases r4;exact⟨_,_,rfl,r1,r3⟩
def zqz:zaE X (.builtin "abs") (fun xs H Q=>∃ i,xs=[.int i]/\Q (.int (if i<0 then -i else i)) H):=by
 intro pins s U H xs us Q I r h;obtain⟨i,rfl,q⟩:=h;obtain⟨u,rfl,t,rfl⟩:=vals1 r;exact call_abs_int fun u tk=>⟨.int (if i<0 then -i else i),H,I.tok _,⟨_,rfl⟩,q⟩
def zpf (hc:X.calm=true):zaE X (.builtin "max") (fun xs H Q=>∃ i j,xs=[.int i,.int j]/\Q (.int (if j > i then j else i)) H):=by
 intro pins s U H xs us Q I r h;obtain⟨i,j,rfl,q⟩:=h;obtain⟨u,w',rfl,⟨t,rfl⟩,⟨t',rfl⟩⟩:=vals2 r;refine max_two_ints (I.ok.hd hc) fun h' tk k=>⟨_,H,I.kept k,?_,q⟩
 by_cases hj:j > i
 ·rw[if_pos hj,if_pos hj];exact⟨_,rfl⟩
 ·rw[if_neg hj,if_neg hj];exact⟨_,rfl⟩
def znT (hc:X.calm=true):zaE X (.builtin "min") (fun xs H Q=>∃ i j,xs=[.int i,.int j]/\Q (.int (if j<i then j else i)) H):=by
 intro pins s U H xs us Q I r h;obtain⟨i,j,rfl,q⟩:=h;obtain⟨u,w',rfl,⟨t,rfl⟩,⟨t',rfl⟩⟩:=vals2 r;refine min_two_ints (I.ok.hd hc) fun h' tk k=>⟨_,H,I.kept k,?_,q⟩
 by_cases hj:j<i
 ·rw[if_pos hj,if_pos hj];exact⟨_,rfl⟩
 ·rw[if_neg hj,if_neg hj];exact⟨_,rfl⟩
end
structure ziH (h:Heap)(x dx C:Addr)(mA:Str->Option Value):Prop where
 obj:h.get? x=some (PySem.W.instObj C dx)
 ns:h.Ns1 dx mA
 ne:dx≠x
def znN {h:Heap}{dx:Addr}{mA:Str->Option Value}(n:h.Ns1 dx mA):∃ od,h.get? dx=some od/\∀ name,PySem.W.lookIn name od=some (mA name):=by
 obtain⟨o,es,ep,ho,hd,hk,_,hm⟩:=n;refine⟨o,ho,fun name=>?_⟩;have e:=hm name;unfold nsFind findBy at e;rw[<- Array.find?_toList]at e;unfold PySem.W.lookIn;rw[hd];dsimp only;split
 ·rename_i y q;rw[q]at e;exact congrArg some e
 ·rename_i q;rw[q]at e
  have a:es.toList.any (·.refKey)=false:=by
   rw[List.any_eq_false];intro y hy;obtain⟨z,t,hkey⟩:=hk y (Array.mem_toList_iff.mp hy);simp[DictEntry.refKey,hkey]
  have a':¬ es.toList.any (·.refKey)=true:=by rw[a];exact qv
  rw[if_neg a'];exact congrArg some e
def ziH.look {h:Heap}{x dx C:Addr}{mA:Str->Option Value}(I:ziH h x dx C mA):∃ od,PySem.W.InstAt h x (PySem.W.instObj C dx) C (some od)/\∀ name,PySem.W.lookIn name od=some (mA name) :=
 let ⟨od,ho,hl⟩:=znN I.ns
 ⟨od,⟨I.obj,rfl,rfl,ho⟩,hl⟩
section
variable {prog:Program}{w:World}{A:Around}{E:Value->Shared->Prop}{s:Shared}{K:PySem.W.Frag}{x dx C f:Addr}{mA:Str->Option Value}{name:Str}{v:Value}
def get_map {expr:Bool}{Q:Value->Shared->Prop}(X:K.In s.heap)(I:ziH s.heap x dx C mA)(hg:PySem.W.plainGet K C name=true)(hh:PySem.W.hasDictIn K C=true)
  (ha:PySem.W.findIn K (.ref C) name=some none) (hv:mA name=some v) (hv':PySem.W.handedIn v=true) (h:Q v { s with toks:=s.toks+1 }) :
  wpAny (model prog w) A (getAttr (.ref x) name expr) Q E s:=by
 obtain⟨od,J,hl⟩:=I.look;exact PySem.W.get_value X J (PySem.W.plainGet_of hg).1 (PySem.W.findObj_own hh ha rfl (by rw[hl,hv])) hv' h
def ztA {ns:List Str}{Q:Unit->Shared->Prop}(X:K.In s.heap)(I:ziH s.heap x dx C mA)
  (hs:PySem.W.findIn K (.ref C) "__setattr__"=some (some (.builtin "object.__setattr__"))) (hp:PySem.W.plainOver K C=true) (ht:PySem.W.takerIn K C name=some none) (hh:PySem.W.hasDictIn K C=true)
  (hw:PySem.Within mA ns) (hsz:ns.length<=sizeLine)
  (h:∀ h',ziH h' x dx C (fun y=>if y=name then some v else mA y)->Heap.SameBut dx s.heap h'->Q () { s with heap:=h',toks:=s.toks+2 }) :
  wpAny (model prog w) A (setAttr (.ref x) name v) Q E s:=by
 obtain⟨od,J,hl⟩:=I.look;refine PySem.W.set_plain X J hs (PySem.W.osa_open (s:={ s with toks:=s.toks+1 }) (r:=none) X J hp ht fun b=>?_);obtain⟨cd,hc,hd'⟩:=PySem.W.any_some hh;have hx:s.heap.get? x=some ⟨.ref C,some dx,.plain,#[]⟩:=I.obj;refine wpAny_bind (wpAny_pure (wpAny_bind (wpAny_bind (wpAny_loadPart hx (wpAny_bind (PySem.W.Looks.here (s:={ s with toks:=s.toks+1 }) (PySem.W.looks_clsIn X hc) ?_))))));rw[hd'];refine wpAny_pure (a:=some dx) (wpAny_bind (wpAny_pure (wpAny_bind ?_)));refine wpAny_nsSet1 (s:={ s with toks:=s.toks+1 }) I.ns fun h' hn2 hs2=>?_
 obtain⟨oD,esD,epD,hoD,hdD,hcD⟩:=hn2.count (PySem.Within.cons name v hw);refine wpAny_bind (wpAny_lookBehind hoD (by rw[hdD];exact pastItsLine_dict (qR hcD (by rw[qJ];lia))) ?_);exact wpAny_pure (h _ ⟨(hs2.2 _ (Ne.symm I.ne)).trans I.obj,hn2,I.ne⟩ hs2)
def zp2 {R:Result->Shared->Prop}{vs:List Value}{kw:List (Str×Value)}(X:K.In s.heap)(hm:PySem.W.makesIn K C=true)
    (hi:PySem.W.findIn K (.ref C) "__init__"=some (some (.ref f))) (hf:PySem.W.typeIn K (.ref f)=some (.type "function"))
    (h:codeAny (model prog w) (A.under (.builtin "type.__call__" ⟨.ref C::vs,kw⟩)) (.call (.ref f) ⟨.ref (s.heap.objs.size+1)::vs,kw⟩) (PySem.W.InitBack (s.heap.objs.size+1) R)
      { s with heap:=(s.heap.push PySem.W.emptyDict).push (PySem.W.instObj C s.heap.objs.size) }) :
    codeAny (model prog w) A (.call (.ref C) ⟨vs,kw⟩) R s:=by
  obtain⟨hh,g,d,t,os⟩:=s;exact PySem.W.make_core (PySem.W.makes_of X hm) (PySem.W.looks_findIn X hi) (fun self=>PySem.W.bind_fn X self hf) (.inl rfl) h
end
def zbK (f:Str)(v:V):List (Str×V)->List (Str×V)
 |[]=>[(f,v)]
 |(g,x)::r=>if g=f then(g,v)::r else(g,x)::zbK f v r
theorem zg7 (f g:Str)(v:V):∀ fs:List (Str×V),(zbK f v fs).lookup g=if g=f then some v else fs.lookup g
 |[]=>by
  show List.lookup g [(f,v)]=_;by_cases h:g=f
  ·have hb:(g==f)=true:=beq_iff_eq.mpr h;simp only[List.lookup,hb,if_pos h]
  ·have hb:(g==f)=false:=beq_eq_false_iff_ne.mpr h;simp only[List.lookup,hb,if_neg h]
 |(k,x)::r=>by
  have ih:=zg7 f g v r;rw[show zbK f v ((k,x)::r)=(if k=f then(k,v)::r else(k,x)::zbK f v r)from rfl];by_cases hk:k=f
  ·rw[if_pos hk];by_cases h:g=k
   ·have hb:(g==k)=true:=beq_iff_eq.mpr h;simp only[List.lookup,hb,if_pos (h.trans hk)]
   ·have hb:(g==k)=false:=beq_eq_false_iff_ne.mpr h;simp only[List.lookup,hb,if_neg (fun e:g=f=>h (e.trans hk.symm))]
  ·rw[if_neg hk];by_cases h:g=k
   ·have hb:(g==k)=true:=beq_iff_eq.mpr h;simp only[List.lookup,hb,if_neg (fun e:g=f=>hk (h.symm.trans e))]
   ·have hb:(g==k)=false:=beq_eq_false_iff_ne.mpr h;simp only[List.lookup,hb];exact ih
theorem zf1 (f:Str)(v:V):∀ fs:List (Str×V),f∈(zbK f v fs).map (·.1)/\∀ g,g∈fs.map (·.1)->g∈(zbK f v fs).map (·.1)
 |[]=>⟨by simp[zbK],fun g h=>by simp at h⟩
 |(k,x)::r=>by
  obtain⟨i1,i2⟩:=zf1 f v r;rw[show zbK f v ((k,x)::r)=(if k=f then(k,v)::r else(k,x)::zbK f v r)from rfl];by_cases hk:k=f
  ·rw[if_pos hk];subst hk;exact⟨by simp,fun g h=>by simpa using h⟩
  ·rw[if_neg hk];refine⟨?_,fun g h=>?_⟩
   ·rw[qI];exact qq _ i1
   ·rw[qI]at h ⊢;rcases qg.mp h with e|e
    ·exact qg.mpr (.inl e)
    ·exact qq _ (i2 g e)
theorem zhf (f:Str)(v:V):∀ fs:List (Str×V),(zbK f v fs).length<=fs.length+1
 |[]=>by simp[zbK]
 |(k,x)::r=>by
  have ih:=zhf f v r;rw[show zbK f v ((k,x)::r)=(if k=f then(k,v)::r else(k,x)::zbK f v r)from rfl];by_cases hk:k=f
  ·rw[if_pos hk,qJ,qJ];lia
  ·rw[if_neg hk,qJ,qJ];lia
def zda.some_of {v:V}{o:Option Value}(r:zda (some v) o):∃ u,o=some u/\RelV v u:=by
 cases o with
 |none=>exact(show False from r).elim
 |some u=>exact⟨u,rfl,r⟩
def znP {v:V}{u:Value}(r:RelV v u):PySem.W.handedIn u=true:=by
 cases v with
 |non=>cases(show u=Value.none from r);rfl
 |bl b=>cases(show u=Value.bool b from r);rfl
 |int i=>obtain⟨t,e⟩:=(show ∃ t,u=Value.int i t from r);cases e;rfl
 |str x=>obtain⟨t,e⟩:=(show ∃ t,u=Value.str x t from r);cases e;rfl
 |byt b=>obtain⟨t,e⟩:=(show ∃ t,u=Value.bytes b t from r);cases e;rfl
 |flt b=>obtain⟨t,e⟩:=(show ∃ t,u=Value.float b t from r);cases e;rfl
 |ref a=>cases(show u=Value.ref a from r);rfl
 |ty n=>cases(show u=Value.type n from r);rfl
section
variable {P:Program}{w:World}{H H':Hp}{h h':Heap}{a C dx:Addr}{fs fs':List (Str×V)}
def ziQ (hok:HOk P w H h)(e:H a=some (.ins C dx fs)):∃ mA,ziH h a dx C mA/\(∀ f,zda (fs.lookup f) (mA f))/\PySem.Within mA (fs.map (·.1))/\fs.length<=1000/\H dx=some (.own a):=by
 obtain⟨d,z,ne,ob,mA,n,r,q⟩:=(show zaB P w H h a (.ins C dx fs)from hok a _ e)
 exact⟨mA,⟨ob,n,ne⟩,r,q,z,d⟩
end
structure Cls (K:PySem.W.Frag)(C:Addr):Prop where
 pg:PySem.W.plainGet K C Str.empty=true
 hd:PySem.W.hasDictIn K C=true
 po:PySem.W.plainOver K C=true
 sa:PySem.W.findIn K (.ref C) "__setattr__"=some (some (.builtin "object.__setattr__"))
def Cls.get {K:PySem.W.Frag}{C:Addr}(c:Cls K C)(f:Str):PySem.W.plainGet K C f=true:=c.pg
def zap (K:PySem.W.Frag)(C:Addr)(f:Str):Prop:=PySem.W.findIn K (.ref C) f=some none
def zap.taker {K:PySem.W.Frag}{C:Addr}{f:Str}(n:zap K C f):PySem.W.takerIn K C f=some none:=by
 unfold PySem.W.takerIn;rw[show PySem.W.findIn K (.ref C) f=some none from n];rfl
section
variable {X:Cx}{pins:List (Addr×Obj)}{U:St}{H:Hp}{s:Shared}{a C dx:Addr}{fs:List (Str×V)}{f:Str}{v:V}{A:Around}{E:Value->Shared->Prop}
def zm7 {b:Bool}{Q:Value->Shared->Prop}(I:Inv X pins U H s)(e:H a=some (.ins C dx fs))(c:Cls X.K C)(n:zap X.K C f)(l:fs.lookup f=some v)
  (h:∀ u s',Inv X pins U H s'->RelV v u->Q u s'):wpAny (model X.prog X.w) A (getAttr (.ref a) f b) Q E s:=by
 obtain⟨mA,O,r,_,_,_⟩:=ziQ I.hok e;obtain⟨u,hu,ru⟩:=zda.some_of (v:=v) (o:=mA f) (by rw[<- l];exact r f);exact get_map I.kIn O (c.get f) c.hd n hu (znP ru) (h u _ (I.tok _) ru)
def zm9 {y:V}{u:Value}{Q:Unit->Shared->Prop}(I:Inv X pins U H s)(e:H a=some (.ins C dx fs))(c:Cls X.K C)(n:zap X.K C f)(hl:fs.length<1000)(ry:RelV y u)
  (h:∀ s',Inv X pins U (upd H a (.ins C dx (zbK f y fs))) s'->Q () s'):wpAny (model X.prog X.w) A (setAttr (.ref a) f u) Q E s:=by
 obtain⟨mA,O,r,wi,_,ho⟩:=ziQ I.hok e;have hz:(fs.map (·.1)).length<=sizeLine:=by rw[qb,sizeLine_eq];lia
 refine ztA I.kIn O c.sa c.po n.taker c.hd wi hz fun h' O' sb=>h _ ?_
 have hd:∃ o,h'.get? dx=some o:=let ⟨o,_,_,e',_⟩:=O'.ns;⟨o,e'⟩;refine I.write (x:=a) (e:=dx) (by rw[e];exact True.intro) (.inr ho) (fun b q hb z=>(sb.2 b hb).trans z) hd ?_;refine⟨by rw[zL O.ne];exact ho,?_,O.ne,O'.obj,_,O'.ns,fun g=>?_,fun g hg=>?_⟩
 ·have:=zhf f y fs;lia
 ·show zda ((zbK f y fs).lookup g) (if g=f then some u else mA g);rw[zg7];by_cases q:g=f
  ·rw[if_pos q,if_pos q];exact ry
  ·rw[if_neg q,if_neg q];exact r g
 ·by_cases q:g=f
  ·rw[q];exact(zf1 f y fs).1
  ·refine(zf1 f y fs).2 g (wi g fun z=>hg ?_);show(if g=f then some u else mA g)=none;rw[if_neg q];exact z
def Inv.made (I:Inv X pins U H s):Inv X pins U (upd (upd H s.heap.objs.size (.own (s.heap.objs.size+1))) (s.heap.objs.size+1) (.ins C s.heap.objs.size []))
    { s with heap:=(s.heap.push PySem.W.emptyDict).push (PySem.W.instObj C s.heap.objs.size) }:=by
  have e1:(s.heap.push PySem.W.emptyDict).get? s.heap.objs.size=some PySem.W.emptyDict:=qp s.heap rfl
  have e2:((s.heap.push PySem.W.emptyDict).push (PySem.W.instObj C s.heap.objs.size)).get? (s.heap.objs.size+1)=some (PySem.W.instObj C s.heap.objs.size):=by
    have:=qp (s.heap.push PySem.W.emptyDict) (o:=PySem.W.instObj C s.heap.objs.size) rfl;rwa[qY]at this
  have e3:(s.heap.push PySem.W.emptyDict).Ns s.heap.objs.size (fun _=>none):=⟨PySem.W.emptyDict,#[],_,e1,rfl,(fun e he=>absurd he (by simp)),fun _=>rfl⟩
  have I1:=I.laid (a:=s.heap.objs.size) (o:=.own (s.heap.objs.size+1)) (h':=s.heap.push PySem.W.emptyDict) (t':=s.toks) (fun b u q=>qd _ q) (qe _) ⟨_,e1⟩;refine I1.laid (a:=s.heap.objs.size+1) (o:=.ins C s.heap.objs.size []) (t':=s.toks) (fun b u q=>qd _ q) (Nat.le_of_eq (qY _ _)) ?_;have ne:s.heap.objs.size≠s.heap.objs.size+1:=qC (Nat.lt_succ_self _);refine⟨by rw[zL ne,zY],qP _,ne,e2,fun _=>none,(Heap.Ns1.of_empty e3).at fun o q=>qd _ q,fun _=>True.intro,fun y hy=>absurd rfl hy⟩
def zsQ {prog:Program}{w:World}{env:Env}{e:Expr}{f:Str}{pos:Pos}{s:Shared}{Q:Value->Shared->Prop}(hb:attributeBase e f env (eval e env)=eval e env)
  (h:wpAny (model prog w) A (eval e env) (fun o s₁=>wpAny (model prog w) A (getAttr o f true) Q E s₁) E s):wpAny (model prog w) A (eval (.Attribute e f pos) env) Q E s :=
 Attribute_any_ h (by rw[arm_eval_Attribute,hb])
end
def zxD (K:PySem.W.Frag)(ta:TE)(f:Str):TE:=fun U H Q=>ta U H fun x H1=>∃ a C dx fs v,x=.ref a/\H1 a=some (.ins C dx fs)/\Cls K C/\zap K C f/\fs.lookup f=some v/\Q v H1
def zxI (K:PySem.W.Frag)(ta tv:TE)(f:Str):TS:=fun D U H=>tv U H fun y H1=>ta U H1 fun x H2=>∃ a C dx fs,x=.ref a/\H2 a=some (.ins C dx fs)/\Cls K C/\zap K C f/\fs.length<1000 /\
 D.nx U (upd H2 a (.ins C dx (zbK f y fs)))
section
variable {X:Cx}{o e value:Expr}{f:Str}{pos pos' tpos:Pos}{ta tv:TE}
def zum (he:PE X e ta)(hb:attributeBase e f X.env (eval e X.env)=eval e X.env):PE X (.Attribute e f pos) (zxD X.K ta f):=by
 intro pins s U H Q I h;refine zsQ hb (thn (he pins s U H _ I h) fun u s1 ⟨x,H1,I1,rx,a,C,dx,fs,v,ex,ea,c,n,l,q⟩=>?_);subst ex;obtain rfl:u=Value.ref a:=rx;exact zm7 I1 ea c n l fun u' s2 I2 ru=>⟨v,H1,I2,ru,q⟩
def zt5 (ha:PE X o ta)(hv:PE X value tv)(hs:swapsWith value (some (.Attribute o f pos')) pos.line X.env=pure false):PS X (.Assign [.Attribute o f pos'] value pos) (zxI X.K ta tv f):=by
 intro pins s U H D I h;refine plainObj_wpAny_Assign_Attribute (thn (hv pins s U H _ I h) fun u s1 ⟨y,H1,I1,ry,q⟩=>thn (ha pins s1 U H1 _ I1 q) fun ov s2 ⟨x,H2,I2,rx,a,C,dx,fs,ex,ea,c,n,l,q2⟩=>?_) hs;subst ex;obtain rfl:ov=Value.ref a:=rx;exact zm9 I2 ea c n l ry fun s3 I3=>⟨U,_,I3,q2⟩
end
section
variable {X:Cx}{pins:List (Addr×Obj)}{U:St}{H:Hp}{s:Shared}{A:Around}{E:Value->Shared->Prop}{Q:Value->Shared->Prop}{c:Value}{b:Bool}
inductive zdk (K:PySem.W.Frag)(H:Hp):V->Value->Prop where
 | non:zdk K H .non (.type "NoneType")
 | bl (x:Bool):zdk K H (.bl x) (.type "bool")
 | int (i:Int):zdk K H (.int i) (.type "int")
 | str (x:Str):zdk K H (.str x) (.type "str")
 | flt (x:UInt64):zdk K H (.flt x) (.type "float")
 | lst {a:Addr} {xs:List V} (e:H a=some (.lst xs)):zdk K H (.ref a) (.type "list")
 | frz {a:Addr} {o:Obj} {xs:List V} (e:H a=some (.frz o (.lst xs))):zdk K H (.ref a) (.type "list")
 | tup {a:Addr} {xs:List V} (e:H a=some (.tup xs)):zdk K H (.ref a) (.type "tuple")
 | dK {a:Addr} {kvs:List (Key×V)} (e:H a=some (.dK kvs)):zdk K H (.ref a) (.type "dict")
 | dT {a:Addr} {kvs:List (List Key×V)} (e:H a=some (.dT kvs)):zdk K H (.ref a) (.type "dict")
 | ins {a C dx:Addr} {fs:List (Str×V)} (e:H a=some (.ins C dx fs)) (cl:Cls K C) (ha:PySem.W.findIn K (.ref C) "__class__"=some (some (.builtin "object.__class__")))
   (hn:PySem.W.specialIn K (.builtin "object.__class__") "__get__"=some (some (.builtin "getset_descriptor.__get__"))) (htk:PySem.W.takesIn K (.builtin "object.__class__")=some true)
   (hm:PySem.W.mroIn K C (.type "object")=some true):zdk K H (.ref a) (.ref C)
def zoW {x:V}{u t:Value}(I:Inv X pins U H s)(rx:RelV x u)(ty:zdk X.K H x t)(e:PySem.W.kitOne X.K t c=some b)(h:∀ tk,Q (.bool b) { s with toks:=tk }) :
  wpAny (model X.prog X.w) A (call (.builtin "isinstance") [u,c]) Q E s:=by
 cases ty with
 |non=>cases(show u=Value.none from rx);exact PySem.W.kia_one PySem.W.kitx_none I.kIn True.intro e (fun z=>nomatch z) h
 |bl y=>cases(show u=Value.bool y from rx);exact PySem.W.kia_one PySem.W.kitx_bool I.kIn True.intro e (fun z=>nomatch z) h
 |int i=>obtain⟨t,q⟩:=(show ∃ t,u=Value.int i t from rx);cases q;exact PySem.W.kia_one PySem.W.kitx_int I.kIn True.intro e (fun z=>nomatch z) h
 |str y=>obtain⟨t,q⟩:=(show ∃ t,u=Value.str y t from rx);cases q;exact PySem.W.kia_one PySem.W.kitx_str I.kIn True.intro e (fun z=>nomatch z) h
 |flt y=>obtain⟨t,q⟩:=(show ∃ t,u=Value.float y t from rx);cases q;exact PySem.W.kia_one PySem.W.kitx_float I.kIn True.intro e (fun z=>nomatch z) h
 |@lst a xs ea =>
  cases(show u=Value.ref a from rx);obtain⟨_,_,n,_,h1⟩:=(show zaB X.prog X.w H s.heap a (.lst xs)from I.hok a _ ea)
  exact PySem.W.kia_one PySem.W.kitx_list I.kIn ⟨_,h1,rfl⟩ e (fun z=>nomatch z) h
 |@frz a ob xs ea =>
  cases(show u=Value.ref a from rx);obtain⟨_,_,_,n,_,h1⟩:=(show zaB X.prog X.w H s.heap a (.frz ob (.lst xs))from I.hok a _ ea)
  exact PySem.W.kia_one PySem.W.kitx_list I.kIn ⟨_,h1,rfl⟩ e (fun z=>nomatch z) h
 |@tup a xs ea =>
  cases(show u=Value.ref a from rx);obtain⟨_,_,_,p⟩:=(show zaB X.prog X.w H s.heap a (.tup xs)from I.hok a _ ea)
  obtain⟨o,h1,h2,_⟩:=p;exact PySem.W.kia_one PySem.W.kitx_tuple I.kIn ⟨o,h1,h2⟩ e (fun z=>nomatch z) h
 |@dK a kvs ea =>
  cases(show u=Value.ref a from rx);obtain⟨_,_,vs,_,p⟩:=(show zaB X.prog X.w H s.heap a (.dK kvs)from I.hok a _ ea)
  obtain⟨o,es,ep,h1,h2,_⟩:=p;exact PySem.W.kia_one PySem.W.kitx_dict I.kIn ⟨o,h1,h2.1⟩ e (fun z=>nomatch z) h
 |@dT a kvs ea =>
  cases(show u=Value.ref a from rx);obtain⟨_,_,xs,_,o,es,ep,h1,h2,_⟩:=(show zaB X.prog X.w H s.heap a (.dT kvs)from I.hok a _ ea)
  exact PySem.W.kia_one PySem.W.kitx_dict I.kIn ⟨o,h1,h2.1⟩ e (fun z=>nomatch z) h
 |@ins a C dx fs ea cl ha hn htk hm =>
  cases(show u=Value.ref a from rx);obtain⟨mA,O,_⟩:=ziQ I.hok ea;obtain⟨od,J,_⟩:=O.look;exact PySem.W.kia_one (PySem.W.kitx_own (cl.get _) cl.hd ha hn htk hm) I.kIn J e (fun z=>nomatch z) h
end
structure zaf (k:Nat)(A:Around):Prop where
 hd:A.handled=none
 dp:A.depth+3*k+5<recursionLimit
 un:A.units+16*k+200<cLine
def zaf.mono {j k:Nat}{A:Around}(r:zaf k A)(h:j<=k):zaf j A:=⟨r.hd,by have:=r.dp;lia,by have:=r.un;lia⟩
theorem zaf.deeper {k:Nat}{A:Around}(r:zaf (k+1) A)(env:Env):zaf k (A.deeper env) :=
 ⟨r.hd,by have:=r.dp;show A.depth+1+3*k+5<_;lia,by have:=r.un;show A.units+3+16*k+200<_;lia⟩
def znt {A:Around}{C:Addr}{us:List Value}{kw:List (Str×Value)}:(A.under (.builtin "type.__call__" ⟨.ref C::us,kw⟩)).depth=A.depth+1:=by
 first|rfl|simp[Around.under,Code.weight,Code.isCreation,Code.isGuard,Code.isCaller,Code.frames,Code.isFrame,guardIds]
def zm4 {A:Around}{C:Addr}{us:List Value}{kw:List (Str×Value)}:(A.under (.builtin "type.__call__" ⟨.ref C::us,kw⟩)).units=A.units+1:=by
 first|rfl|simp[Around.under,Code.cUnits,Code.frames,Code.isFrame]
def zaf.make {k:Nat}{A:Around}(r:zaf (k+1) A)(C:Addr)(us:List Value)(kw:List (Str×Value)):zaf k (A.under (.builtin "type.__call__" ⟨.ref C::us,kw⟩)) :=
 ⟨r.hd,by have:=r.dp;rw[znt];lia,by have:=r.un;rw[zm4];lia⟩
theorem zaf.depth {k:Nat}{A:Around}(r:zaf k A):A.depth<recursionLimit:=by have:=r.dp;lia
theorem zaf.units {k:Nat}{A:Around}(r:zaf k A):A.units+64<cLine:=by have:=r.un;lia
def zx9:TA:=fun _ H Q=>Q [] H
def zwf (ta:TE)(tr:TA):TA:=fun U H Q=>ta U H fun x H1=>tr U H1 fun xs H2=>Q (x::xs) H2
section
variable {X:Cx}{e:Expr}{es:List Expr}{te:TE}{t:TA}{pos:Pos}
def zoV:PA X [] zx9:=fun _ _ _ _ H Q I h=>Calls.spliced_nil ⟨[],H,I,.nil,h⟩
def zmf (ha:PE X e te)(hr:PA X es t)(hs:starEach (e::es) X.env=(false,eval e X.env)::starEach es X.env:=by rfl):PA X (e::es) (zwf te t):=by
 intro pos pins s U H Q I h;rw[hs];show wpAny _ _ (spliced ((false,eval e X.env)::backTo pos (starEach es X.env))) _ _ s;refine Calls.spliced_cons (thn (ha pins s U H _ I h) fun u s1 ⟨x,H1,I1,r1,q1⟩=>?_);exact thn (hr pos pins s1 U H1 _ I1 q1) fun us s2 ⟨xs,H2,I2,r2,q2⟩=>⟨x::xs,H2,I2,.cons r1 r2,q2⟩
def zys (t:TA):TE:=fun U H Q=>t U H fun xs H1=>xs.length<=sizeLine/\∀ p,H1 p=none->Q (.ref p) (upd H1 p (.tup xs))
def zyc (t:TA):TE:=fun U H Q=>t U H fun xs H1=>xs.length<=sizeLine/\∀ p,H1 p=none->Q (.ref p) (upd H1 p (.lst xs))
def zux {x1}(h:PA X es t):PE X (.Tuple es x1 pos) (zys t):=by
 intro pins s U H Q I hq;refine wpAny_Tuple_spliced (thn (h pos pins s U H _ I hq) fun us s1 ⟨xs,H1,I1,r,z,q⟩=>⟨by rw[<- r.length];exact z,?_⟩);have hf:H1 s1.heap.objs.size=none:=I1.hok.fresh (qe _);refine⟨.ref s1.heap.objs.size,upd H1 s1.heap.objs.size (.tup xs),I1.laid (t':=s1.toks) (fun b u e=>qd _ e) (qe _) ?_,rfl,q _ hf⟩;exact⟨z,us,r,⟨_,qp _ rfl,rfl,_,rfl⟩⟩
def zvo (h:PA X es t):PE X (.List es pos) (zyc t):=by
 intro pins s U H Q I hq;refine wpAny_List_spliced (thn (h pos pins s U H _ I hq) fun us s1 ⟨xs,H1,I1,r,z,q⟩=>⟨by rw[<- r.length];exact z,?_⟩);have hf:H1 s1.heap.objs.size=none:=I1.hok.fresh (qe _);refine⟨.ref s1.heap.objs.size,upd H1 s1.heap.objs.size (.lst xs),I1.laid (t':=s1.toks) (fun b u e=>qd _ e) (qe _) ?_,rfl,q _ hf⟩;exact⟨z,us,0,r,qp _ rfl⟩
end
abbrev Sp:=List V->Hp->VK->XK->Prop
abbrev CXT:=List Env->Hp->Shared->XK->Value->Shared->Prop
structure zhM (P:Program)(w:World)(K:PySem.W.Frag)(mg:Str->Option Value)(base:Heap)(A:Around)(outer:List Env)(s:Shared)(H:Hp):Prop where
 frames:A.frames=some outer
 mod:Mod K mg base
 bs:∀ b o,base.get? b=some o->s.heap.get? b=some o/\H b=none
 bsz:base.objs.size<=s.heap.objs.size
 funs:s.heap.FunFrames base outer
 frf:∀ b∈frs outer,H b=none
 hok:HOk P w H s.heap
 bare:AllBare s.gens
def CE (outer:List Env)(P:Program)(w:World)(H:Hp)(s:Shared)(Q:VK)(u:Value)(s':Shared):Prop :=
 ∃ v H',s'.os=s.os/\AllBare s'.gens/\Un (frs outer) [] H H' s.heap s'.heap/\HOk P w H' s'.heap/\RelV v u/\Q v H'
def CR (CX:CXT)(outer:List Env)(P:Program)(w:World)(H:Hp)(s:Shared)(Q:VK)(E:XK)(r:Result)(s':Shared):Prop :=
 match r with
 |.ok (.ret u)=>CE outer P w H s Q u s'
 |.ok _=>False
 |.error e=>CX outer H s E e s'
structure zP (P:Program)(w:World)(K:PySem.W.Frag)(mg:Str->Option Value)(base:Heap)(CX:CXT)(k:Nat)(f:Addr)(fd:FuncData)(ps:List Str)(sp:Sp):Prop where
 len:∀ vs H Q E,sp vs H Q E->vs.length=ps.length
 run:∀ (A:Around) (outer:List Env) (s:Shared) (H:Hp) (args:Args) (us:List Value) (vs:List V) (Q:VK) (E:XK),zaf k A->zhM P w K mg base A outer s H->BindsTo s fd args (ps.zip us)->Vals vs us->sp vs H Q E ->
  codeAny (model P w) A (.call (.ref f) args) (CR CX outer P w H s Q E) s
theorem zP.mono {P:Program}{w:World}{K:PySem.W.Frag}{mg:Str->Option Value}{base:Heap}{CX:CXT}{j k:Nat}{f:Addr}{fd:FuncData}{ps:List Str}{sp:Sp}(F:zP P w K mg base CX j f fd ps sp)(h:j<=k) :
  zP P w K mg base CX k f fd ps sp:=⟨F.len,fun A outer s H args us vs Q E hr=>F.run A outer s H args us vs Q E (hr.mono h)⟩
def zhM.make {P:Program}{w:World}{K:PySem.W.Frag}{mg:Str->Option Value}{base:Heap}{A:Around}{outer:List Env}{s:Shared}{H:Hp}(e:zhM P w K mg base A outer s H)(C:Addr)(us:List Value)(kw:List (Str×Value)) :
  zhM P w K mg base (A.under (.builtin "type.__call__" ⟨.ref C::us,kw⟩)) outer s H:=⟨by first | exact e.frames | (simpa [Around.under,Code.envs,Code.isFrame,pushEnvs]using e.frames),e.mod,e.bs,e.bsz,e.funs,e.frf,e.hok,e.bare⟩
section
variable {X:Cx}{pins:List (Addr×Obj)}{U:St}{H:Hp}{s s':Shared}
def Inv.env0 (I:Inv X pins U H s):zhM X.prog X.w X.K X.mg X.base X.A X.stack s H :=
 ⟨I.ok.frames,I.ok.mod,I.bs,qR I.ok.bsz I.sz,I.stack,I.stkFree,I.hok,I.bare⟩
def Inv.after {Q:VK}{u:Value}(I:Inv X pins U H s)(h:CE X.stack X.prog X.w H s Q u s'):EP X pins U Q u s':=by
 obtain⟨v,H',os,bare,un,hok,r,q⟩:=h;obtain⟨hh,g,d,t,os'⟩:=s';obtain rfl:os'=s.os:=os;exact⟨v,H',I.call (h':=hh) (g':=g) (d':=d) (t':=t) (ch:=[]) un hok bare (fun b z=>absurd z (by simp)),r,q⟩
end
def zne (sp:Sp)(dvs:List V)(E:XK)(t:TA):TE:=fun U H Q=>t U H fun vs H1=>sp (vs++dvs) H1 Q E
def Binds (K:PySem.W.Frag)(fd:FuncData)(ps:List Str)(ds:List Value):Prop :=
 ∀ (s:Shared) (us:List Value),K.In s.heap->(us++ds).length=ps.length->BindsTo s fd ⟨us,[]⟩ (ps.zip (us++ds))
def Binds.all {K:PySem.W.Frag}{fd:FuncData}{ps:List Str}(h:∀ us:List Value,us.length=ps.length->bindArgs fd ⟨us,[]⟩=pure (ps.zip us)):Binds K fd ps []:=fun s us _ hl=>by
 rw[List.append_nil]at hl ⊢;exact .of_eq (h us hl)
def Passes (CX:CXT)(X:Cx)(E:XK):Prop:=∀ (pins:List (Addr×Obj)) (U:St) (H:Hp) (s:Shared) (e:Value) (s':Shared),Inv X pins U H s->CX X.stack H s E e s'->X.xe e s'
section
variable {X:Cx}{CX:CXT}{k:Nat}{f C:Addr}{fd:FuncData}{ps:List Str}{sp:Sp}{dvs:List V}{ds:List Value}{E:XK}{x m:Str}{p pos apos:Pos}{e o:Expr}{es:List Expr}{ta:TE}{t:TA}
def zug {pins:List (Addr×Obj)}{U:St}{H:Hp}{s:Shared}{Q:VK}{us:List Value}{vs:List V}(F:zP X.prog X.w X.K X.mg X.base CX k f fd ps sp)(hr:zaf k X.A)(hb:Binds X.K fd ps ds)(hd:Vals dvs ds)(hx:Passes CX X E)
  (I:Inv X pins U H s) (r:Vals vs us) (h:sp (vs++dvs) H Q E):wpAny (model X.prog X.w) X.A (call (.ref f) us) (EP X pins U Q) X.xe s:=by
 have r2:Vals (vs++dvs) (us++ds):=r.append hd;have hl:(us++ds).length=ps.length:=by rw[<- r2.length];exact F.len _ _ _ _ h
 refine wpAny_call (codeAny_mono (F.run X.A X.stack s H ⟨us,[]⟩ (us++ds) (vs++dvs) Q E hr I.env0 (hb s us I.kIn hl) r2 h) fun r s' hq=>?_);cases r with
 |error e=>exact hx pins U H s e s' I hq
 |ok fl =>
  cases fl with
  |ret u=>exact I.after hq
  |next=>exact False.elim hq
  |brk=>exact False.elim hq
  |cont=>exact False.elim hq
def ztF (F:zP X.prog X.w X.K X.mg X.base CX k f fd ps sp)(hr:zaf k X.A)(hg:Gl X x)(hm:X.mg x=some (.ref f))(hk:PySem.W.keepIn X.K (.ref f)=true)(hb:Binds X.K fd ps ds)(hd:Vals dvs ds)(hx:Passes CX X E)
  (ha:PA X (e::es) t) (hdb:(x==("__debug__":Str))=false:=by decide) (he:starEach (e::es) X.env=(false,eval e X.env)::starEach es X.env:=by rfl) (hpl:(backTo pos (starEach es X.env)).any (·.1)=false:=by rfl) :
  PE X (.Call (.Name x p) (e::es) [] pos) (zne sp dvs E t):=by
 intro pins s U H Q I h;refine wpAny_Call_Name_kw (zdm I hg hm ?_ hdb);refine PySem.W.callWith_K (h₀:=X.base) I.ok.mod.kin hk (thn (ha pos pins s U H _ I h) fun us s1 ⟨vs,H1,I1,r,q⟩=>⟨I1.kIn,?_⟩) he hpl;exact zug F hr hb hd hx I1 r q
structure Mk (K:PySem.W.Frag)(C f:Addr):Prop where
 makes:PySem.W.makesIn K C=true
 init:PySem.W.findIn K (.ref C) "__init__"=some (some (.ref f))
 fn:PySem.W.isFn K (.ref f)=true
 kp:PySem.W.keepIn K (.ref C)=true
def zqP {pins:List (Addr×Obj)}{U:St}{H:Hp}{s:Shared}{Q:VK}{us:List Value}{vs:List V}(M:Mk X.K C f)(F:zP X.prog X.w X.K X.mg X.base CX k f fd ps sp)(hr:zaf (k+1) X.A)(hb:Binds X.K fd ps ds)(hd:Vals dvs ds)
  (hx:Passes CX X E) (I:Inv X pins U H s) (r:Vals vs us)
  (h:∀ x dx,H x=none->H dx=none->dx≠x->sp (.ref x::(vs++dvs)) (upd (upd H dx (.own x)) x (.ins C dx [])) (fun v H2=>v=.non/\Q (.ref x) H2) E) :
  wpAny (model X.prog X.w) X.A (call (.ref C) us) (EP X pins U Q) X.xe s:=by
 have hq:=h (s.heap.objs.size+1) s.heap.objs.size (I.hok.fresh (Nat.le_succ _)) (I.hok.fresh (qe _)) (qC (Nat.lt_succ_self _));have I2:=Inv.made (C:=C) I;have r2:Vals (V.ref (s.heap.objs.size+1)::(vs++dvs)) (Value.ref (s.heap.objs.size+1)::(us++ds)):=.cons rfl (r.append hd)
 have hl:(Value.ref (s.heap.objs.size+1)::us++ds).length=ps.length:=by
  have e:=r2.length;rw[F.len _ _ _ _ hq]at e;exact e.symm
 refine wpAny_call (zp2 (f:=f) I.kIn M.makes M.init (beq_iff_eq.mp M.fn) (codeAny_mono (F.run _ X.stack _ _ ⟨Value.ref (s.heap.objs.size+1)::us,[]⟩ (Value.ref (s.heap.objs.size+1)::(us++ds)) _ _ E (hr.make C us [])
  (I2.env0.make C us []) (hb _ (Value.ref (s.heap.objs.size+1)::us) I2.kIn hl) r2 hq) fun r s' hq'=>?_))
 cases r with
 |error e=>exact hx pins U _ _ e s' I2 hq'
 |ok fl =>
  cases fl with
  |ret u =>
   obtain⟨v,H',I3,rv,ev,q3⟩:=I2.after hq';subst ev;exact⟨rv,⟨V.ref (s.heap.objs.size+1),H',I3,rfl,q3⟩⟩
  |next=>exact False.elim hq'
  |brk=>exact False.elim hq'
  |cont=>exact False.elim hq'
end
section
variable {X:Cx}{CX:CXT}{k:Nat}{f C:Addr}{fd:FuncData}{ps ks:List Str}{sp:Sp}{E:XK}{x m:Str}{p pos apos kpos:Pos}{e o:Expr}{es:List Expr}{kws:List Keyword}{te ta:TE}{t tk:TA}{nm:Option Str}
variable {g:List Value->List Value->List Value}{gV:List V->List V->List V}
end
structure zcb (N P:List Str)(sc:Scope):Prop where
 kind:sc.kind=.function
 co:sc.isCoroutine=false
 gen:sc.isGenerator=false
 nd:N.Nodup
 pre:N.take P.length=P
 par:∀ x∈P,sc.names.lookup x=some .local\/sc.names.lookup x=some .cell
 nofree:∀ y∈sc.names,y.2≠.free
theorem zjt {kindOf:Str->Option NameKind}{x:Str}:∀ {binds:List (Str×Value)} {m:Str->Option Value},(∀ v,(x,v)∉binds)->bindL kindOf binds m x=m x
 |[],_,_=>rfl
 |(n,v)::r,m,h=>by
  unfold bindL;rw[zjt fun w hw=>h w (qq _ hw)];split
  ·have:x≠n:=by rintro rfl;exact h v List.mem_cons_self
   simp[this]
  ·rfl
theorem zji {kindOf:Str->Option NameKind}{x:Str}:∀ {binds:List (Str×Value)} {m:Str->Option Value},(∀ v,(x,v)∉binds)->bindC kindOf binds m x=m x
 |[],_,_=>rfl
 |(n,v)::r,m,h=>by
  unfold bindC;rw[zji fun w hw=>h w (qq _ hw)];split
  ·rfl
  ·have:x≠n:=by rintro rfl;exact h v List.mem_cons_self
   simp[this]
theorem zjA {kindOf:Str->Option NameKind}{x:Str}{v:Value}:∀ {P:List Str} {vs:List Value} {i:Nat} {m:Str->Option Value},P.Nodup->P[i]?=some x->vs[i]?=some v->kindOf x=some .local ->
  bindL kindOf (P.zip vs) m x=some v
 |[],_,_,_,_,h,_,_=>by simp at h
 |_::_,[],_,_,_,_,h,_=>by simp at h
 |p::P,w::vs,0,m,nd,h1,h2,hk=>by
  simp at h1 h2;subst h1;subst h2;show bindL kindOf ((p,w)::P.zip vs) m p=_;unfold bindL;rw[zjt fun v hv=>(List.nodup_cons.mp nd).1 (List.of_mem_zip hv).1,if_pos hk];simp
 |p::P,w::vs,i+1,m,nd,h1,h2,hk=>by
  show bindL kindOf ((p,w)::P.zip vs) m x=_;unfold bindL;exact zjA (i:=i) (List.nodup_cons.mp nd).2 (by simpa using h1) (by simpa using h2) hk
theorem zjz {kindOf:Str->Option NameKind}{x:Str}{v:Value}:∀ {P:List Str} {vs:List Value} {i:Nat} {m:Str->Option Value},P.Nodup->P[i]?=some x->vs[i]?=some v->kindOf x≠some .local ->
  bindC kindOf (P.zip vs) m x=some v
 |[],_,_,_,_,h,_,_=>by simp at h
 |_::_,[],_,_,_,_,h,_=>by simp at h
 |p::P,w::vs,0,m,nd,h1,h2,hk=>by
  simp at h1 h2;subst h1;subst h2;show bindC kindOf ((p,w)::P.zip vs) m p=_;unfold bindC;rw[zji fun v hv=>(List.nodup_cons.mp nd).1 (List.of_mem_zip hv).1,if_neg hk];simp
 |p::P,w::vs,i+1,m,nd,h1,h2,hk=>by
  show bindC kindOf ((p,w)::P.zip vs) m x=_;unfold bindC;exact zjz (i:=i) (List.nodup_cons.mp nd).2 (by simpa using h1) (by simpa using h2) hk
def start (N:List Str)(vs:List V):St:=vs.map some++List.replicate (N.length-vs.length) none
def zbW (CX:CXT)(P:Program)(w:World)(K:PySem.W.Frag)(mg:Str->Option Value)(base:Heap)(N:List Str)(qual:Str)(scope:Scope)(f:Addr)(cd:Value)(A:Around)(outer:List Env)(s:Shared)(H:Hp)(E:XK):Cx where
 prog:=P
 w:=w
 K:=K
 mg:=mg
 base:=base
 A:=A.deeper (envOfC qual scope s.heap.objs.size f cd)
 N:=N
 s₀:=s
 H₀:=H
 env:=envOfC qual scope s.heap.objs.size f cd
 outer:=outer
 stack:=envOfC qual scope s.heap.objs.size f cd::outer
 ex:=[]
 calm:=true
 fn:=fun _=>true
 pn:=[]
 xe:=fun e s'=>wpAny (model P w) (A.deeper (envOfC qual scope s.heap.objs.size f cd)) (leaving (envOfC qual scope s.heap.objs.size f cd) e) (fun _ s''=>CX outer H s E e s'') (fun e' s''=>CX outer H s E e' s'') s'
def zkv {sc:Scope}{n:Nat}{x:Str}(h:sc.names.lookup x=some .cell):∃ c,(cellsFrom n sc.names []).lookup x=some c:=by
 have q:=PySem.W.cellsFrom_some sc.names n [] (.inl h);exact qaa.mp q
def zo2 {CX:CXT}{P:Program}{w:World}{K:PySem.W.Frag}{mg:Str->Option Value}{base:Heap}{N ps:List Str}{qual:Str}{scope:Scope}{f:Addr}{cd:Value}{A:Around}{outer:List Env}{s s1:Shared}{H:Hp}{E:XK}{us:List Value}{vs:List V}
    (S:zcb N ps scope) (hd:A.handled=none) (e0:zhM P w K mg base A outer s H) (hl:vs.length=ps.length) (r:Vals vs us)
    (x:InCallC s s.heap.objs.size (bindL (envOfC qual scope s.heap.objs.size f cd).kindOf (ps.zip us) fun _=>none) (cellsFrom (s.heap.objs.size+1) scope.names []) (bindC (envOfC qual scope s.heap.objs.size f cd).kindOf (ps.zip us) fun _=>none) s1) :
    Inv (zbW CX P w K mg base N qual scope f cd A outer s H E) [] (start N vs) H s1:=by
  have hpl:ps.length<=N.length:=by have:=congrArg List.length S.pre;rw[qaf]at this;lia
  obtain⟨h1,tk,rfl,hk⟩:=x.done;have noA:∀ b:Addr,b∉(zbW CX P w K mg base N qual scope f cd A outer s H E).ex:=fun b z=>absurd (show b∈([]:List Addr)from z) (by simp)
  refine⟨⟨e0.mod,S.kind,rfl,rfl,qe _,fun y z c h1 h2=>?_,fun y hy=>?_,fun y c _ h=>?_,fun _=>hd,Around.frames_deeper e0.frames,.inr ⟨rfl,rfl⟩,fun b z=>absurd z (noA b),e0.bs,e0.bsz,fun b _ _=>noA b,fun b z=>absurd z (noA b),e0.funs,e0.frf⟩,
    rfl,e0.bare,Un.kept hk,⟨_,x.toInCall.ns,fun i y v h1 h2 h3=>?_⟩,fun y c h=>⟨_,x.cell y c h⟩,e0.hok.fresh (qe _),fun y c h=>?_,fun p hp=>absurd (show p∈([]:List (Addr×Obj))from hp) (by simp),e0.hok.kept hk,?_⟩
  . exact name_of_addr x.apart (PySem.mem_of_lookup h1) (PySem.mem_of_lookup h2)
  . have hy:scope.names.lookup y=some .cell\/scope.names.lookup y=some .free:=hy;rcases hy with hy|hy
    . exact zkv hy
    . exact absurd rfl (S.nofree _ (PySem.mem_of_lookup hy))
  . exact Nat.le_of_lt (x.above y c (PySem.mem_of_lookup h))
  . have hi : i < vs.length := by
      unfold start at h2;by_cases hi:i<vs.length
      . exact hi
      . rw[qj (by simpa using hi)]at h2;rw[List.getElem?_replicate]at h2;split at h2<;>cases h2
    have ha:vs[i]?=some v:=by
      unfold start at h2;rw[qu (by simpa using hi),qk]at h2;cases e:vs[i]? with
      |none=>rw[e]at h2;cases h2
      |some a=>rw[e]at h2;cases h2;rfl
    obtain⟨u,hu,rv⟩:=r.get ha
    have hp:ps[i]?=some y:=by
      rw[<- S.pre,List.getElem?_take_of_lt (by lia)];exact h1
    have ndP:ps.Nodup:=by rw[<- S.pre];exact S.nd.sublist (List.take_sublist _ _)
    refine⟨u,rv,?_⟩;rcases S.par y (qf hp)with k|k
    . exact .inl ⟨k,zjA ndP hp hu k⟩
    . obtain⟨c,e⟩:=zkv (n:=s.heap.objs.size+1) k;refine .inr ⟨.inl k,c,e,?_⟩;have q:=x.cell y c e;rw[zjz ndP hp hu (by show scope.names.lookup y≠_;rw[k];decide)]at q;exact q
  . exact e0.hok.fresh (Nat.le_of_lt (x.above y c (PySem.mem_of_lookup h)))
  . unfold start;show _=N.length;rw[qi,qb,qD];lia
def zmO {CX:CXT}{P:Program}{w:World}{K:PySem.W.Frag}{mg:Str->Option Value}{base:Heap}{k:Nat}{f:Addr}{name qual:Str}{params:Arguments}{body:List Stmt}{scope:Scope}{dV kV doc pm cdv ct oc:Value}{an od:Option Addr}
  {osl:Array (Option Value)} {N ps:List Str} {sp:Sp} (lk:K.lookup f=some ⟨oc,od,.func (PySem.W.fnOf name qual params body scope dV kV doc pm an cdv ct),osl⟩) (hcd:PySem.W.codeIn K cdv qual=true) (S:zcb N ps scope)
  (len:∀ vs H Q E,sp vs H Q E->vs.length=ps.length)
  (hbody:∀ (A:Around) (outer:List Env) (s:Shared) (H:Hp) (vs:List V) (Q:VK) (E:XK),zaf k (A.deeper (envOfC qual scope s.heap.objs.size f cdv))->sp vs H Q E ->
   ∃ t,PSs (zbW CX P w K mg base N qual scope f cdv A outer s H E) body t/\t { nx:=fun _ H'=>Q .non H',rt:=Q } (start N vs) H) :
  zP P w K mg base CX (k+1) f (PySem.W.fnOf name qual params body scope dV kV doc pm an cdv ct) ps sp:=by
 refine⟨len,fun A outer s H args us vs Q E hr e0 hb r hsp=>?_⟩;have hl:=len _ _ _ _ hsp;have KX:K.In s.heap:=e0.mod.kin.keeps fun b o e=>(e0.bs b o e).1
 have lim:s.heap.NoLimit:=e0.mod.nolimit.keeps fun b o e=>(e0.bs b o e).1
 have hkind:∀ y∈ps.zip us,scope.names.lookup y.1=some .local\/(scope.names.lookup y.1=some .cell/\((cellsFrom (s.heap.objs.size+1) scope.names []).lookup y.1).isSome=true):=fun⟨n,v⟩ hy=>by
  rcases S.par n (List.of_mem_zip hy).1 with q|q
  ·exact .inl q
  ·exact .inr ⟨q,PySem.W.cellsFrom_some _ _ _ (.inl q)⟩
 refine codeAny_call_function hr.depth (KX _ _ lk) rfl S.co S.gen rfl (PySem.W.codeRec_of KX hcd) (hb _ _ _ _ ?_);refine wpAny_newFunctionEnv_cells S.kind hkind fun env he s1 x=>?_
 subst he;refine⟨lim.keeps x.toInCall.keep,codeAny_func ?_⟩;obtain⟨t,ht,hq⟩:=hbody A outer s H vs Q E (hr.deeper _) hsp;have I:Inv (zbW CX P w K mg base N qual scope f cdv A outer s H E) [] (start N vs) H s1:=zo2 S hr.hd e0 hl r x;refine wpAny_mono (ht [] s1 (start N vs) H _ I hq) (fun fl s' hs=>?_) fun e s' hs=>hs
 have fin:∀ {σ':St} {H':Hp} {v:V} {u:Value},Inv (zbW CX P w K mg base N qual scope f cdv A outer s H E) [] σ' H' s'->RelV v u->Q v H'->CE outer P w H s Q u s' :=
  fun {σ' H' v u} J rv q=>⟨v,H',J.os,J.bare,J.base,J.hok,rv,q⟩
 cases fl with
 |ret u =>
  obtain⟨v,σ',H',J,rv,q⟩:=hs;exact fin J rv q
 |next =>
  obtain⟨σ',H',J,q⟩:=hs;exact fin (v:=V.non) (u:=Value.none) J rfl q
 |brk =>
  obtain⟨_,_,_,q⟩:=hs;exact False.elim q
 |cont =>
  obtain⟨_,_,_,q⟩:=hs;exact False.elim q
section
variable {X:Cx}{x:Str}{p pos:Pos}{e:Expr}{es:List Expr}{t:TA}{id T:String}{r:List V->Hp->VK->Prop}
def tCB (r:List V->Hp->VK->Prop)(t:TA):TE:=fun U H Q=>t U H fun vs H1=>r vs H1 Q
def zqA (hc:zaE X (.builtin id) r)(hg:Gl X x)(hm:X.mg x=none)(hv:bootBuiltins x=some (.builtin id))(ha:PA X (e::es) t)(hn:x≠"__name__":=by decide)(hdb:(x==("__debug__":Str))=false:=by decide)
  (he:starEach (e::es) X.env=(false,eval e X.env)::starEach es X.env:=by rfl) (hpl:(backTo pos (starEach es X.env)).any (·.1)=false:=by rfl):PE X (.Call (.Name x p) (e::es) [] pos) (tCB r t):=by
 intro pins s U H Q I h;refine wpAny_Call_Name_kw (zbY I hg hm hv ?_ hn hdb);exact PyProof.Rows.callWith_builtin1 (thn (ha pos pins s U H _ I h) fun us s1 ⟨vs,H1,I1,r1,q1⟩=>hc pins s1 U H1 vs us Q I1 r1 q1) he hpl
def zoK (hc:zaE X (.type T) r)(hg:Gl X x)(hm:X.mg x=none)(hv:bootBuiltins x=some (.type T))(ha:PA X (e::es) t)(hn:x≠"__name__":=by decide)(hdb:(x==("__debug__":Str))=false:=by decide)
  (he:starEach (e::es) X.env=(false,eval e X.env)::starEach es X.env:=by rfl) (hpl:(backTo pos (starEach es X.env)).any (·.1)=false:=by rfl):PE X (.Call (.Name x p) (e::es) [] pos) (tCB r t):=by
 intro pins s U H Q I h;refine wpAny_Call_Name_kw (zbY I hg hm hv ?_ hn hdb);exact PyProof.Rows.callWith_type1 (thn (ha pos pins s U H _ I h) fun us s1 ⟨vs,H1,I1,r1,q1⟩=>hc pins s1 U H1 vs us Q I1 r1 q1) he hpl
end
end L2
namespace HT
open PySem PyProof.Rows
section
open PySem.SeqAt
open PySem.AutoSeq1 (wpAny_loadPart')
open PySem.MeetsSeq PySem.MeetsSeq2 PySem.MeetsSeq3
end
section
variable {prog:Program}{w:World}{A:Around}{E:Value->Shared->Prop}{s:Shared}
def zsm {t b:Addr}{vs ws:List Value}{Q:Value->Shared->Prop}(ht:IsTup s.heap t vs.toArray)(hb:IsTup s.heap b ws.toArray)(hv:vs≠[])
  (h1:ws=[]->Q (.ref t) s) (h2:ws≠[]->Q (.ref s.heap.objs.size) { s with heap:=s.heap.push { cls:=.type "tuple",data:=.seq (vs++ws).toArray } })
  (hsz:vs.length+ws.length<=sizeLine):wpAny (model prog w) A (binaryOp .Add (.ref t) (.ref b)) Q E s:=by
 obtain⟨⟨cls,dd,data,sl⟩,ho,hc,n,hd⟩:=id ht;obtain⟨⟨cls2,dd2,data2,sl2⟩,ho2,hc2,n2,hd2⟩:=id hb;simp only at hc hd hc2 hd2;subst hc hd hc2 hd2;have e:vs.toArray++ws.toArray=(vs++ws).toArray:=by simp
 by_cases hw:ws=[]
 ·exact concat_meets ⟨_,ho,rfl⟩ ⟨_,ho2,rfl⟩ noFill_tuple_add seq_tuple_add PySem.F.slot_tuple_add PySem.F.entry_tuple_add (PySem.F.args_tuple_add_2 _ _)
   (tuple_addW1 t b vs.toArray ws.toArray n n2 dd dd2 sl sl2 (by simpa using hv) (by simp[hw])) ⟨ho,ho2,h1 hw⟩
 ·refine concat_meets ⟨_,ho,rfl⟩ ⟨_,ho2,rfl⟩ noFill_tuple_add seq_tuple_add PySem.F.slot_tuple_add PySem.F.entry_tuple_add (PySem.F.args_tuple_add_2 _ _)
   (tuple_addW2 t b vs.toArray ws.toArray n n2 dd dd2 sl sl2 (by simpa using hv) (by simpa using hw) (by rw[qm,qm];exact hsz)) ⟨ho,ho2,?_⟩
  rw[e];exact h2 hw
def sIx (n d:Nat):Option Int->Nat
 |none=>d
 |some v=>if v<0 then(v+(n:Int)).toNat else min v.toNat n
def zib (n d:Nat)(hd:d<=n)(o:Option Int):sIx n d o<=n:=by
 cases o with
 |none=>exact hd
 |some v =>
  show(if v<0 then(v+(n:Int)).toNat else min v.toNat n)<=n;by_cases hv:v<0
  ·rw[if_pos hv];lia
  ·rw[if_neg hv];exact Nat.min_le_right _ _
def zmC (v:Int)(n d:Nat):(if v<0 then max (v+(n:Int)) 0 else min v (n:Int))=((sIx n d (some v):Nat):Int):=by
 show(if v<0 then max (v+(n:Int)) 0 else min v (n:Int))=(((if v<0 then(v+(n:Int)).toNat else min v.toNat n):Nat):Int);by_cases hv:v<0
 ·simp only[if_pos hv];lia
 ·simp only[if_neg hv];lia
def znF (lo hi:Option Int)(n:Nat):Builtin.Slice.sliceAdjust lo hi 1 (n:Int)=(((sIx n 0 lo:Nat):Int),((sIx n n hi:Nat):Int)):=by
 have h1:¬ ((1:Int)<0):=by lia
 unfold Builtin.Slice.sliceAdjust;simp only[h1,if_false];refine Prod.ext ?_ ?_
 ·cases lo with
  |none=>rfl
  |some v=>exact zmC v n 0
 ·cases hi with
  |none=>rfl
  |some v=>exact zmC v n n
def zm0 (i j:Nat):Builtin.Slice.slicePlaces (i:Int) (j:Int) 1=j-i:=by
  unfold Builtin.Slice.slicePlaces;have h1:(1:Int) > 0:=by lia
  simp only[h1,if_true,Int.ediv_one];split<;>lia
def zhX {v:Value}{o:Option Int}{Q:Option Int->Shared->Prop}(p:IsPart v o)(h:Q o s):wpAny (model prog w) A (Builtin.Slice.slicePartIndex v) Q E s:=by
 cases p with
 |none=>exact slicePart_none h
 |int i t=>exact slicePart_int h
def zeu {sl:Addr}{vl vu:Value}{lo hi:Option Int}{n:Nat}{Q:Int×Int×Nat->Shared->Prop}(hs:s.heap.IsSliceOf sl vl vu .none)(pl:IsPart vl lo)(pu:IsPart vu hi)
  (h:Q (((sIx n 0 lo:Nat):Int),1,sIx n n hi-sIx n 0 lo) s):wpAny (model prog w) A (Builtin.Slice.sliceApplied (.ref sl) (pure (n:Int))) Q E s:=by
 obtain⟨os,hos,hcs,hds⟩:=id hs;unfold Builtin.Slice.sliceApplied Builtin.Slice.sliceFields;refine wpAny_bind (wpAny_bind (wpAny_field hos hds (x:=vl) rfl (wpAny_bind (wpAny_field hos hds (x:=vu) rfl (wpAny_bind (wpAny_field hos hds (x:=.none) rfl (wpAny_pure ?_)))))));refine wpAny_bind (slicePart_none ?_);show wpAny _ _ (if((1:Int)==0)=true then _ else _) _ _ s;rw[if_neg (by decide)];refine wpAny_bind (zhX pl (wpAny_bind (zhX pu (wpAny_bind (wpAny_pure ?_)))));show wpAny _ _ (match Builtin.Slice.sliceAdjust lo hi 1 (n:Int)with|(lo,hi)=>pure (lo,(1:Int),Builtin.Slice.slicePlaces lo hi 1)) _ _ s;rw[znF lo hi n];show wpAny _ _ (pure (((sIx n 0 lo:Nat):Int),(1:Int),Builtin.Slice.slicePlaces ((sIx n 0 lo:Nat):Int) ((sIx n n hi:Nat):Int) 1)) _ _ s;rw[zm0];exact wpAny_pure h
def zpQ (xs:Array Value)(i k:Nat):((List.range k).filterMap fun (m:Nat)=>xs[((i:Int)+(m:Int)*1).toNat]?).toArray=((xs.toList.drop i).take k).toArray:=by
 have e:(fun (m:Nat)=>xs[((i:Int)+(m:Int)*1).toNat]?)=fun m=>xs[i+m]?:=by
  funext m;have:((i:Int)+(m:Int)*1).toNat=i+m:=by lia
  rw[this]
 rw[e];have:=pick_run xs i k;rw[List.filterMap_map]at this;have e2:((fun x=>xs[x]?) ∘ fun x=>i+x)=fun m=>xs[i+m]?:=rfl
 rw[e2]at this;rw[this]
def zgT {t sl:Addr}{items:Array Value}{vl vu:Value}{lo hi:Option Int}{Q:Value->Shared->Prop}(ht:IsTup s.heap t items)(hs:s.heap.IsSliceOf sl vl vu .none)(pl:IsPart vl lo)(pu:IsPart vu hi)
  (hw:¬ (sIx items.size 0 lo=0/\sIx items.size items.size hi=items.size))
  (h:Q (.ref s.heap.objs.size) { s with heap:=s.heap.push { cls:=.type "tuple",data:=.seq ((items.toList.drop (sIx items.size 0 lo)).take (sIx items.size items.size hi-sIx items.size 0 lo)).toArray } })
  (hsz:items.size<=sizeLine):wpAny (model prog w) A (getItem (.ref t) (.ref sl)) Q E s:=by
 have htake:sizeOk (.seq ((items.toList.drop (sIx items.size 0 lo)).take (sIx items.size items.size hi-sIx items.size 0 lo)).toArray):=by
  show((items.toList.drop (sIx items.size 0 lo)).take (sIx items.size items.size hi-sIx items.size 0 lo)).toArray.size<=sizeLine;rw[qm,qaf,List.length_drop,qL];lia
 have hj:sIx items.size items.size hi<=items.size:=zib _ _ (qe _) hi;obtain⟨os,hos,hcs,hds⟩:=id hs;have hTs:s.TypeIs (.ref sl) "slice":=⟨os,hos,hcs⟩
 unfold getItem
 try with_reducible refine wpAny_holding ?_
 first|refine wpAny_bind (wpAny_pure ?_)|skip
 refine wpAny_bind (wpAny_sequenceKey ht.typeIs (by decide) ?_)
 refine wpAny_bind (wpAny_callSpecial?_slot (name:=Str.ofString "__getitem__") ht.typeIs PyProof.Rows.slot_tuple_getitem
  (wpAny_call_entry PyProof.Rows.slot_tuple_getitem ht.typeIs entry_tuple_getitem ?_ (args_tuple_getitem _ _)))
 show wpAny _ _ (Builtin.Tuple.tupleItemsOf (.ref t) >>= _) _ _ s;refine wpAny_bind (tupleItemsOf_ ht ?_);refine wpAny_bind (wpAny_typeOf hTs ?_);rw[if_pos (by decide)];refine wpAny_bind (zeu hs pl pu ?_)
 have hno:¬ ((((sIx items.size 0 lo:Nat):Int)==0&&(1:Int)==1&&(sIx items.size items.size hi-sIx items.size 0 lo)==items.size)=true):=by
  intro q;rw[qA,qA]at q;have q1:((sIx items.size 0 lo:Nat):Int)=0:=eq_of_beq q.1.1;have q2:sIx items.size items.size hi-sIx items.size 0 lo=items.size:=eq_of_beq q.2;exact hw ⟨by lia,by lia⟩
 show wpAny _ _ (if(((sIx items.size 0 lo:Nat):Int)==0&&(1:Int)==1&&(sIx items.size items.size hi-sIx items.size 0 lo)==items.size)=true then _ else _) _ _ s;rw[if_neg hno,zpQ]
 first
  |exact wpAny_bind (m:=Builtin.Tuple.tupleExact _) (wpAny_newObj_type (wpAny_pure ⟨_,rfl,wpAny_pure h⟩) htake)
  |exact wpAny_bind (m:=Builtin.Tuple.tupleExact _) (wpAny_newObj_type (wpAny_bind (wpAny_pure (wpAny_pure ⟨_,rfl,wpAny_pure h⟩))) htake)
  |exact wpAny_bind (wpAny_bind (m:=Builtin.Tuple.tupleExact _) (wpAny_newObj_type (wpAny_pure (wpAny_pure ⟨_,rfl,wpAny_pure h⟩)) htake))
  |exact wpAny_bind (wpAny_bind (m:=Builtin.Tuple.tupleExact _) (wpAny_newObj_type (wpAny_pure ⟨_,rfl,wpAny_pure h⟩) htake))
end
end HT
namespace L2
open PySem PySem.Spec PyProof.Rows
abbrev TO:=St->Hp->(Option Int->Hp->Prop)->Prop
def PO (X:Cx)(e:Option Expr)(t:TO):Prop :=
 ∀ (pins:List (Addr×Obj)) (s:Shared) (U:St) (H:Hp) (Q:Option Int->Hp->Prop),Inv X pins U H s->t U H Q ->
  wpAny (model X.prog X.w) X.A (evalPart e X.env) (fun u s'=>∃ o H',Inv X pins U H' s'/\IsPart u o/\Q o H') X.xe s
def ztp:TO:=fun _ H Q=>Q none H
def zv7 (t:TE):TO:=fun U H Q=>t U H fun x H1=>∃ i,x=.int i/\Q (some i) H1
section
variable {X:Cx}{e:Expr}{te:TE}{lo hi:Option Expr}{tl th:TO}{pos p2:Pos}
def zsh:PO X none ztp:=by
 intro pins s U H Q I h;rw[evalPart_none];exact wpAny_pure ⟨none,H,I,.none,h⟩
def zss (h:PE X e te):PO X (some e) (zv7 te):=by
 intro pins s U H Q I hw;rw[evalPart_some];refine thn (h pins s U H _ I hw) fun u s1 ⟨x,H1,I1,r1,q1⟩=>?_
 obtain⟨i,rfl,q⟩:=q1;obtain⟨t,rfl⟩:=r1;exact⟨some i,H1,I1,.int i t,q⟩
def SlR (X:Cx)(r:V->Option Int->Option Int->Hp->VK->Prop):Prop :=
 ∀ (pins:List (Addr×Obj)) (s:Shared) (U:St) (H:Hp) (x:V) (v vl vu:Value) (lo hi:Option Int) (sl:Addr) (Q:VK),Inv X pins U H s->RelV x v->s.heap.IsSliceOf sl vl vu .none->IsPart vl lo->IsPart vu hi->r x lo hi H Q ->
  ∃ T id,typeLookup (.type T) "__getitem__"=pure (some (.builtin id))/\s.TypeIs v T/\wpAny (model X.prog X.w) X.A (getItem v (.ref sl)) (EP X pins U Q) X.xe s
def SlR.or {r r':V->Option Int->Option Int->Hp->VK->Prop}(h:SlR X r)(h':SlR X r'):SlR X (fun x lo hi H Q=>r x lo hi H Q\/r' x lo hi H Q):=by
 intro pins s U H x v vl vu lo hi sl Q I rx hs pl pu q;rcases q with q|q
 ·exact h pins s U H x v vl vu lo hi sl Q I rx hs pl pu q
 ·exact h' pins s U H x v vl vu lo hi sl Q I rx hs pl pu q
def tSl (r:V->Option Int->Option Int->Hp->VK->Prop)(te:TE)(tl th:TO):TE:=fun U H Q=>te U H fun x H1=>tl U H1 fun l H2=>th U H2 fun u H3=>r x l u H3 Q
def zqB {r:V->Option Int->Option Int->Hp->VK->Prop}(hr:SlR X r)(he:PE X e te)(hl:PO X lo tl)(hu:PO X hi th):PE X (.Subscript e (.Slice lo hi none p2) pos) (tSl r te tl th):=by
 intro pins s U H Q I h;refine Subscript_ (thn (he pins s U H _ I h) fun v s1 ⟨x,H1,I1,r1,q1⟩=>?_);refine wpAny_Slice (thn (hl pins s1 U H1 _ I1 q1) fun vl s2 ⟨l,H2,I2,pl,q2⟩=>thn (hu pins s2 U H2 _ I2 q2) fun vu s3 ⟨u,H3,I3,pu,q3⟩=>?_);rw[evalPart_none];refine wpAny_pure ?_;have I4:Inv X pins U H3 { s3 with heap:=s3.heap.push { cls:=.type "slice",data:=.fields #[vl,vu,.none] } }:=I3.kept (t':=s3.toks) fun b ob q=>qd _ q
 obtain⟨T,id,hT,ht,hg⟩:=hr pins { s3 with heap:=s3.heap.push { cls:=.type "slice",data:=.fields #[vl,vu,.none] } } U H3 x v vl vu l u s3.heap.objs.size Q I4 r1 (Heap.IsSliceOf.new ..) pl pu q3;show wpAny (model X.prog X.w) X.A (subscriptTail e (.Slice lo hi none p2) v (.ref s3.heap.objs.size)) (EP X pins U Q) X.xe { s3 with heap:=s3.heap.push { cls:=.type "slice",data:=.fields #[vl,vu,.none] } };exact tail_any (ops:=[.ref s3.heap.objs.size,v]) ht hT hg (by with_unfolding_all rfl)
def zfv (xs:List V)(lo hi:Option Int):List V:=(xs.drop (HT.sIx xs.length 0 lo)).take (HT.sIx xs.length xs.length hi-HT.sIx xs.length 0 lo)
def zhl (xs:List V)(lo hi:Option Int):(zfv xs lo hi).length<=xs.length:=by
 unfold zfv;rw[qaf,List.length_drop];lia
def zyj (K:PySem.W.Frag):V->Option Int->Option Int->Hp->VK->Prop:=fun x lo hi H Q=>∃ a xs,x=.ref a/\SqT K H a xs /\
 ¬ (HT.sIx xs.length 0 lo=0/\HT.sIx xs.length xs.length hi=xs.length)/\∀ p,H p=none->Q (.ref p) (upd H p (.tup (zfv xs lo hi)))
def zuH:SlR X (zyj X.K):=by
 intro pins s U H x v vl vu lo hi sl Q I rx hs pl pu h;obtain⟨a,xs,rfl,hx,hw,q⟩:=h;cases rx;obtain⟨its,r,ht,hz⟩:=I.tuple hx;have hlen:its.toArray.size=xs.length:=by rw[qm];exact r.length.symm
 refine⟨"tuple",_,PyProof.Rows.slot_tuple_getitem.lookup,ht.typeIs,?_⟩;refine HT.zgT ht hs pl pu (by rw[hlen];exact hw) ?_ (by rw[hlen];exact hz);rw[hlen];refine⟨.ref s.heap.objs.size,_,I.laid (t':=s.toks) (o:=.tup (zfv xs lo hi)) (fun b ob q=>qd _ q) (qe _) ?_,rfl,q _ (I.hok.fresh (qe _))⟩;exact⟨qR (zhl xs lo hi) hz,_,(r.drop (HT.sIx xs.length 0 lo)).take (HT.sIx xs.length xs.length hi-HT.sIx xs.length 0 lo),IsTup.new _ _⟩
def zv6 (K:PySem.W.Frag):R2:=fun x y H Q=>∃ a b xs ys,x=.ref a/\y=.ref b/\SqT K H a xs/\SqT K H b ys/\xs≠[]/\xs.length+ys.length<=sizeLine /\
 (ys=[]->Q (.ref a) H)/\(ys≠[]->∀ p,H p=none->Q (.ref p) (upd H p (.tup (xs++ys))))
def Vals.nil_iff {xs:List V}{us:List Value}(r:Vals xs us):us=[]↔xs=[]:=by
 cases r with
 |nil=>simp
 |cons _ _=>simp
def zs3:OpR X (binaryOp .Add) (zv6 X.K):=by
 intro pins s U H x y v u Q I rx ry h;obtain⟨a,b,xs,ys,rfl,rfl,ha,hb,hx,hz,q1,q2⟩:=h;cases rx;cases ry;obtain⟨its,r1,p1,_⟩:=I.tuple ha;obtain⟨its2,r2,p2,_⟩:=I.tuple hb;refine HT.zsm p1 p2 (fun z=>hx (r1.nil_iff.mp z)) (fun z=>⟨.ref a,H,I,rfl,q1 (r2.nil_iff.mp z)⟩) (fun z=>?_) (by rw[<- r1.length,<- r2.length];exact hz);refine⟨.ref s.heap.objs.size,_,I.laid (t':=s.toks) (o:=.tup (xs++ys)) (fun b ob q=>qd _ q) (qe _) ?_,rfl,q2 (fun w=>z (r2.nil_iff.mpr w)) _ (I.hok.fresh (qe _))⟩;exact⟨by rw[qi];exact hz,_,r1.append r2,IsTup.new _ _⟩
end
def ixN (n:Nat)(i:Int):Option Nat:=if 0<=i then(if i<n then some i.toNat else none)else if -(n:Int)<=i then some (i+n).toNat else none
def atI {α:Type}(xs:List α)(i:Int):Option α:=(ixN xs.length i).bind fun j=>xs[j]?
def zma {n:Nat}{i:Int}{j:Nat}(h:ixN n i=some j):seqIndex? i n=some j/\j<n/\-(n:Int)<=i/\i<n:=by
 unfold ixN at h;by_cases h0:0<=i
 ·rw[if_pos h0]at h;by_cases h1:i<n
  ·rw[if_pos h1]at h;have e:i.toNat=j:=qM h;exact⟨by rw[seqIndex_of h0 h1,e],by lia,by lia,h1⟩
  ·rw[if_neg h1]at h;cases h
 ·rw[if_neg h0]at h;by_cases h1:-(n:Int)<=i
  ·rw[if_pos h1]at h;have e:(i+n).toNat=j:=qM h;exact⟨by rw[seqIndex_neg (by lia) h1,e],by lia,h1,by lia⟩
  ·rw[if_neg h1]at h;cases h
def ziV {α:Type}{xs:List α}{i:Int}{v:α}(h:atI xs i=some v):∃ j,seqIndex? i xs.length=some j/\xs[j]?=some v/\j<xs.length/\-(xs.length:Int)<=i/\i<xs.length:=by
 unfold atI at h;cases e:ixN xs.length i with
 |none=>rw[e]at h;cases h
 |some j =>
  rw[e]at h;obtain⟨h1,h2,h3,h4⟩:=zma e;exact⟨j,h1,h,h2,h3,h4⟩
def zl0 (b:Expr):Prop:=∀ o i,subscripted b false o i=operate [o,i] (getItem o i)
def IxR (X:Cx)(r:R2):Prop :=
 ∀ (value slice:Expr) (pins:List (Addr×Obj)) (s:Shared) (U:St) (H:Hp) (x y:V) (v u:Value) (Q:VK),Inv X pins U H s->RelV x v->RelV y u->r x y H Q ->
  subscripted slice false v u=operate [v,u] (getItem v u)->wpAny (model X.prog X.w) X.A (subscriptTail value slice v u) (EP X pins U Q) X.xe s
def MtR (X:Cx)(id:String)(r:V->List V->Hp->VK->Prop):Prop :=
 ∀ (pins:List (Addr×Obj)) (s:Shared) (U:St) (H:Hp) (x:V) (xs:List V) (v:Value) (us:List Value) (Q:VK),Inv X pins U H s->RelV x v->Vals xs us->r x xs H Q ->
  wpAny (model X.prog X.w) X.A (call (.builtin id) (v::us)) (EP X pins U Q) X.xe s
section
variable {X:Cx}{a b:Expr}{ta tb:TE}{pos:Pos}
def IxR.or {r r':R2}(h:IxR X r)(h':IxR X r'):IxR X (fun x y H Q=>r x y H Q\/r' x y H Q):=by
 intro value slice pins s U H x y v u Q I rx ry q hs;rcases q with q|q
 ·exact h value slice pins s U H x y v u Q I rx ry q hs
 ·exact h' value slice pins s U H x y v u Q I rx ry q hs
def zv5 {r:R2}(hr:IxR X r)(ha:PE X a ta)(hb:PE X b tb)(hs:zl0 b):PE X (.Subscript a b pos) (tOp r ta tb):=by
 intro pins s U H Q I h;exact Subscript_ (zrm ha hb I h fun v u s2 x y H2 I2 rx ry q=>hr a b pins s2 U H2 x y v u Q I2 rx ry q (hs _ _))
def zx6 (K:PySem.W.Frag):R2:=fun x y H Q=>∃ p xs i v,x=.ref p/\y=.int i/\SqL K H p xs/\atI xs i=some v/\Q v H
def zxK (K:PySem.W.Frag):R2:=fun x y H Q=>∃ p xs i v,x=.ref p/\y=.int i/\SqT K H p xs/\atI xs i=some v/\Q v H
def zxR:R2:=fun x y H Q=>∃ z i c,x=.str z/\y=.int i/\z.length<=sizeLine/\atI z.cps.toList i=some c/\Q (.str ⟨#[c]⟩) H
def ztu:IxR X (zx6 X.K):=by
  intro value slice pins s U H x y v u Q I rx ry h hs;obtain⟨p,xs,i,z,rfl,rfl,hq,he,q⟩:=h;cases rx;obtain⟨t,rfl⟩:=ry;obtain⟨its,r,pl,hz⟩:=I.list hq;obtain⟨j,h1,h2,h3,h4,h5⟩:=ziV he;obtain⟨w,ew,rw'⟩:=r.get h2;have hl:=r.length;have hn:=ze0;have fin:EP X pins U Q w s:=⟨z,H,I,rw',q⟩
  by_cases h0:0<=i
  . have hj : i.toNat = j := by
      rw[seqIndex_of h0 h5]at h1;exact qM h1
    exact item_listR pl.isList h0 (by lia) (by rw[hj];simpa using ew) fin hs
  . have hj : (i + (its.toArray.size : Int)).toNat = j := by
      rw[seqIndex_neg (by lia) h4]at h1;rw[qm,<- hl];exact qM h1
    exact subscriptTail_builtinR (x:=w) pl.isList.typeIs slot_list_getitem.lookup
      (wpAny_getItem_list_neg (Q:=fun r s'=>r=w/\EP X pins U Q r s') pl.isList (by lia) (by rw[qm]<;>lia) (by lia) (by rw[hj];simpa using ew) ⟨rfl,fin⟩) hs
def zvS:IxR X (zxK X.K):=by
 intro value slice pins s U H x y v u Q I rx ry h hs;obtain⟨p,xs,i,z,rfl,rfl,hq,he,q⟩:=h;cases rx;obtain⟨t,rfl⟩:=ry;obtain⟨its,r,pl,hz⟩:=I.tuple hq;obtain⟨j,h1,h2,h3,h4,h5⟩:=ziV he;obtain⟨w,ew,rw'⟩:=r.get h2;have hl:=r.length;have hn:=ze0;have fin:EP X pins U Q w s:=⟨z,H,I,rw',q⟩
 exact subscriptTail_builtinR (x:=w) pl.typeIs slot_tuple_getitem.lookup
  (getItem_tuple (j:=j) (Q:=fun r s'=>r=w/\EP X pins U Q r s') pl (by lia) (by lia) (by rw[qm,<- hl];exact h1) (by simpa using ew) ⟨rfl,fin⟩) hs
def zu6:IxR X zxR:=by
 intro value slice pins s U H x y v u Q I rx ry h hs;obtain⟨z,i,c,rfl,rfl,hz,he,q⟩:=h;obtain⟨t,rfl⟩:=rx;obtain⟨t',rfl⟩:=ry;obtain⟨j,h1,h2,h3,h4,h5⟩:=ziV he;have hl:z.cps.toList.length=z.length:=by simp[Str.length]
 rw[hl]at h1 h4 h5;have hn:=ze0
 exact tail_any (typeIs_str s z t) slot_str_getitem.lookup (getItem_str (c:=c) (by
  have e1:decide (i < -(2 ^ 63:Int))=false:=decide_eq_false (by lia);have e2:decide (i ≥ 2 ^ 63)=false:=decide_eq_false (by lia);rw[e1,e2,Bool.or_false]) (by rw[h1];simpa using h2) ⟨.str ⟨#[c]⟩,H,I.tok _,⟨_,rfl⟩,q⟩) hs
def zmM (its:List Value)(n j:Nat)(u:Value):Obj.mapSeq (·.setIfInBounds j u) { cls:=.type "list",data:=.seq its.toArray n }={ cls:=.type "list",data:=.seq (its.set j u).toArray n }:=by
 simp[Obj.mapSeq]
theorem Inv.lst {pins:List (Addr×Obj)}{U:St}{H:Hp}{s:Shared}{p:Addr}{xs:List V}(I:Inv X pins U H s)(h:H p=some (.lst xs)) :
  ∃ (its:List Value) (n:Nat),Vals xs its/\s.heap.get? p=some { cls:=.type "list",data:=.seq its.toArray n }/\xs.length<=sizeLine:=by
 obtain⟨z,its,n,r,e⟩:=I.hok p _ h;exact⟨its,n,r,e,z⟩
def Inv.lstUpd {pins:List (Addr×Obj)}{U:St}{H:Hp}{s:Shared}{p:Addr}{xs ys:List V}{its its':List Value}{n n':Nat}{f:Obj->Obj}(I:Inv X pins U H s)(h:H p=some (.lst xs))
    (ho:s.heap.get? p=some { cls:=.type "list",data:=.seq its.toArray n }) (hf:f { cls:=.type "list",data:=.seq its.toArray n }={ cls:=.type "list",data:=.seq its'.toArray n' }) (r:Vals ys its') (hz:ys.length<=sizeLine) (t:Nat) :
    Inv X pins U (upd H p (.lst ys)) { s with heap:=s.heap.update p f,toks:=t }:=by
  have e:(s.heap.update p f).get? p=some { cls:=.type "list",data:=.seq its'.toArray n' }:=by
    rw[Heap.get?_update_self f ho (by rw[hf]<;>rfl),hf]
  refine I.write (x:=p) (e:=p) (by rw[h];trivial) (.inl rfl) (fun b u hb q=>(Heap.get?_update_other _ _ (Ne.symm hb)).trans q) ⟨_,e⟩ ?_;exact⟨hz,its',n',r,e⟩
def zwJ:V->V->V->Hp->(Hp->Prop)->Prop:=fun o i v H Q=>∃ p xs k j,o=.ref p/\i=.int k/\H p=some (.lst xs)/\ixN xs.length k=some j/\Q (upd H p (.lst (xs.set j v)))
def set_list:zuR X zwJ:=by
 intro pins s U H o i v ov iv u Q I ro ri rv h;obtain⟨p,xs,k,j,rfl,rfl,hp,hj,q⟩:=h;cases ro;obtain⟨t,rfl⟩:=ri;obtain⟨its,n,r,ho,hz⟩:=I.lst hp;obtain⟨h1,h2,h3,h4⟩:=zma hj;have hl:=r.length;have hn:=ze0
 have I':Inv X pins U (upd H p (.lst (xs.set j v))) { s with heap:=s.heap.update p (Obj.mapSeq (·.setIfInBounds j u)) } :=
  I.lstUpd hp ho (zmM its n j u) (r.set rv j) (by rw[qad];exact hz) s.toks
 by_cases h0:0<=k
 ·have hk:k.toNat=j:=by
   rw[seqIndex_of h0 h4]at h1;exact qM h1
  exact PySem.W.ki_setAt ho h0 (by lia) (by rw[qm,<- hl];exact h4) (by rw[hk];exact⟨_,I',q⟩)
 ·have hk:(k+(its.toArray.size:Int)).toNat=j:=by
   rw[seqIndex_neg (by lia) h3]at h1;rw[qm,<- hl];exact qM h1
  exact PySem.W.ki_setBack ho (by lia) (by rw[qm,<- hl];exact h3) (by lia) (by rw[hk];exact⟨_,I',q⟩)
def zkC (lo hi:Option Int)(n:Nat):(sliceBounds lo hi none n).1=((HT.sIx n 0 lo:Nat):Int)/\(sliceBounds lo hi none n).2.1=((HT.sIx n n hi:Nat):Int)/\(sliceBounds lo hi none n).2.2=1:=by
  refine⟨?_,?_,rfl⟩
  . cases lo with
    |none=>simp[sliceBounds,HT.sIx]
    |some i =>
      simp only[sliceBounds,HT.sIx,Option.getD_none,show(1:Int) > 0 by decide,if_true];by_cases h:i<0
      . simp only[h,if_true]<;>lia
      . simp only[h,if_false]<;>lia
  . cases hi with
    |none=>simp[sliceBounds,HT.sIx]
    |some i =>
      simp only[sliceBounds,HT.sIx,Option.getD_none,show(1:Int) > 0 by decide,if_true];by_cases h:i<0
      . simp only[h,if_true]<;>lia
      . simp only[h,if_false]<;>lia
def zjP (its:List Value)(lo hi:Option Int):slicePick its.toArray lo hi none=((its.drop (HT.sIx its.length 0 lo)).take (HT.sIx its.length its.length hi-HT.sIx its.length 0 lo)).toArray:=by
  obtain⟨h1,h2,h3⟩:=zkC lo hi its.toArray.size;unfold slicePick;rw[h1,h2,h3];simp only[sliceRange_one,pick_run,qm]<;>rfl
def zyn (K:PySem.W.Frag):V->Option Int->Option Int->Hp->VK->Prop:=fun x lo hi H Q=>∃ a xs,x=.ref a/\SqL K H a xs/\∀ p,H p=none->Q (.ref p) (upd H p (.lst (zfv xs lo hi)))
def zsP:SlR X (zyn X.K):=by
  intro pins s U H x v vl vu lo hi sl Q I rx hs pl pu h;obtain⟨a,xs,rfl,hx,q⟩:=h;cases rx;obtain⟨its,r,ht,hz⟩:=I.list hx;have hlen:=r.length;refine⟨"list",_,slot_list_getitem.lookup,ht.isList.typeIs,?_⟩;refine wpAny_getItem_list_slice ht.isList hs pl pu .none (by simp) ?_ (by rw[qm]<;>lia);rw[zjP,<- hlen];refine⟨.ref s.heap.objs.size,_,I.laid (t':=s.toks) (o:=.lst (zfv xs lo hi)) (fun b ob q=>qd _ q) (qe _) ?_,rfl,q _ (I.hok.fresh (qe _))⟩;exact⟨qR (zhl xs lo hi) hz,_,0,(r.drop (HT.sIx xs.length 0 lo)).take (HT.sIx xs.length xs.length hi-HT.sIx xs.length 0 lo),qp _ rfl⟩
def zkl:zaE X (.builtin "len") (fun xs H Q=>∃ p ys,xs=[.ref p]/\(SqL X.K H p ys\/SqT X.K H p ys)/\Q (.int ys.length) H):=by
  intro pins s U H xs us Q I r h;obtain⟨p,ys,rfl,hq,q⟩:=h;obtain⟨u,rfl,rx⟩:=vals1 r;cases rx;have hn:=ze0;rcases hq with hq|hq
  . obtain⟨its,r',pl,hz⟩:=I.list hq;have hlen:=r'.length;exact Calls.call_len_list pl.isList (by simp only[qm]<;>lia) ⟨.int ys.length,H,I.tok _,⟨s.toks+1,by rw[qm,hlen]⟩,q⟩
  . obtain⟨its,r',pl,hz⟩:=I.tuple hq;have hlen:=r'.length;exact len_tuple pl (by simp only[qm]<;>lia) ⟨.int ys.length,H,I.tok _,⟨s.toks+1,by rw[qm,hlen]⟩,q⟩
def zkO:zaE X (.builtin "len") (fun xs H Q=>∃ z,xs=[.str z]/\z.length<=sizeLine/\Q (.int z.length) H):=by
 intro pins s U H xs us Q I r h;obtain⟨z,rfl,hz,q⟩:=h;obtain⟨u,rfl,t,rfl⟩:=vals1 r;have hn:=ze0;exact len_str (by lia) ⟨.int z.length,H,I.tok _,⟨_,rfl⟩,q⟩
def zaE.or {f:Value}{r r':List V->Hp->VK->Prop}(h:zaE X f r)(h':zaE X f r'):zaE X f (fun xs H Q=>r xs H Q\/r' xs H Q):=by
 intro pins s U H xs us Q I rs q;rcases q with q|q
 ·exact h pins s U H xs us Q I rs q
 ·exact h' pins s U H xs us Q I rs q
def zkw:zaE X (.type "list") (fun xs H Q=>∃ p ys,xs=[.ref p]/\(SqL X.K H p ys\/SqT X.K H p ys)/\∀ l,H l=none->Q (.ref l) (upd H l (.lst ys))):=by
  intro pins s U H xs us Q I r h;obtain⟨p,ys,rfl,hq,q⟩:=h;obtain⟨u,rfl,rx⟩:=vals1 r;cases rx
  have fin : ∀ (its : List Value), Vals ys its → ys.length ≤ sizeLine → ∀ (h' : Heap) (c' : Nat), (∀ b o', s.heap.get? b = some o' → h'.get? b = some o') →
      h'.get? s.heap.objs.size=some { cls:=.type "list",dict:=none,data:=.seq its.toArray c',slots:=#[] }->EP X pins U Q (.ref s.heap.objs.size) { s with heap:=h' }:=fun its r' hz h' c' kp e =>
    ⟨.ref s.heap.objs.size,_,I.laid (t':=s.toks) kp (qe _) (show zaB X.prog X.w _ h' _ (.lst ys)from ⟨hz,its,c',r',e⟩),rfl,q _ (I.hok.fresh (qe _))⟩
  rcases hq with hq|hq
  . obtain⟨its,r',pl,hz⟩:=I.list hq;have hlen:=r'.length;obtain⟨o,ho,hc,n,hd⟩:=pl.isList;exact call_list_seq p (.inl rfl) ho hc hd (fun h' c' kp e=>fin its r' hz h' c' kp e) (by simp only[qm]<;>lia)
  . obtain⟨its,r',pl,hz⟩:=I.tuple hq;have hlen:=r'.length;obtain⟨o,ho,hc,n,hd⟩:=pl;exact call_list_seq p (.inr rfl) ho hc hd (fun h' c' kp e=>fin its r' hz h' c' kp e) (by simp only[qm]<;>lia)
def zjK:zaE X (.type "tuple") (fun xs H Q=>∃ p ys,xs=[.ref p]/\((SqL X.K H p ys/\∀ l,H l=none->Q (.ref l) (upd H l (.tup ys)))\/(SqT X.K H p ys/\Q (.ref p) H))):=by
  intro pins s U H xs us Q I r h;obtain⟨p,ys,rfl,h⟩:=h;obtain⟨u,rfl,rx⟩:=vals1 r;cases rx;rcases h with⟨hq,q⟩|⟨hq,q⟩
  . obtain⟨its,r',pl,hz⟩:=I.list hq;have hlen:=r'.length;refine call_tuple_list pl.isList (fun h' kp=>?_) (by simp only[qm]<;>lia);have I1:Inv X pins U H { s with heap:=h' }:=I.kept (t':=s.toks) kp
    have I2:Inv X pins U (upd H h'.objs.size (.tup ys)) { s with heap:=h'.push { cls:=.type "tuple",data:=.seq its.toArray } } :=
      I1.laid (t':=s.toks) (fun b o e=>qd _ e) (qe _) (show zaB X.prog X.w _ _ _ (.tup ys)from ⟨hz,its,r',IsTup.new _ _⟩)
    exact⟨.ref h'.objs.size,_,I2,rfl,q _ (I1.hok.fresh (qe _))⟩
  . obtain⟨its,r',pl,hz⟩:=I.tuple hq;exact call_tuple_same pl ⟨.ref p,H,I,rfl,q⟩
def tyV (K:PySem.W.Frag)(T:String)(x:V)(H:Hp):Prop:=match x with
 | .str _=>T="str"
 | .int _=>T="int"
 | .ref p=>(T="list"/\∃ xs,SqL K H p xs)\/(T="tuple"/\∃ o,K.lookup p=some o/\o.cls=.type "tuple"/\o.dict=none) \/
   (T="dict"/\((∃ kvs,H p=some (.dK kvs))\/∃ kvs,H p=some (.dT kvs)))\/(T="set"/\∃ S n,H p=some (.set S n))
 |_=>False
def zo7 {pins:List (Addr×Obj)}{U:St}{H:Hp}{s:Shared}{T:String}{x:V}{v:Value}(I:Inv X pins U H s)(r:RelV x v)(ty:tyV X.K T x H) :
  s.TypeIs v T/\∀ a,v=.ref a->∃ ob,s.heap.get? a=some ob/\ob.dict=none:=by
 cases x with
 |str z =>
  obtain⟨t,rfl⟩:=r;cases(show T="str" from ty);exact⟨typeIs_str s z t,fun _ e=>nomatch e⟩
 |int i =>
  obtain⟨t,rfl⟩:=r;cases(show T="int" from ty);exact⟨typeIs_int s i t,fun _ e=>nomatch e⟩
 |ref p =>
  cases r;rcases ty with⟨rfl,xs,hq⟩|⟨rfl,o,hk,hc,hd⟩|⟨rfl,hk⟩|⟨rfl,S,n,hk⟩
  ·obtain⟨its,_,pl,_⟩:=I.list hq;refine⟨pl.isList.typeIs,fun a e=>?_⟩;cases e;obtain⟨o,n,e,c,hd,_⟩:=pl;exact⟨o,e,hd⟩
  ·refine⟨⟨o,I.kIn p o hk,hc⟩,fun a e=>?_⟩;cases e;exact⟨o,I.kIn _ o hk,hd⟩
  ·have z:∃ o,s.heap.get? p=some o/\o.ExactDict:=by
    rcases hk with⟨kvs,hk⟩|⟨kvs,hk⟩
    ·obtain⟨_,_,_,_,o,_,_,e,ex,_⟩:=I.hok p _ hk;exact⟨o,e,ex⟩
    ·obtain⟨_,_,_,_,o,_,_,e,ex,_⟩:=I.hok p _ hk;exact⟨o,e,ex⟩
   obtain⟨o,e,ex⟩:=z;refine⟨⟨o,e,ex.1⟩,fun a e2=>?_⟩;cases e2;exact⟨o,e,ex.2.1⟩
  ·obtain⟨o,_,_,_,e,ex,_⟩:=I.hok p _ hk;refine⟨⟨o,e,ex.1⟩,fun a e2=>?_⟩;cases e2;exact⟨o,e,ex.2.1⟩
 |_=>exact False.elim ty
def zx3 (K:PySem.W.Frag)(T:String)(r:V->List V->Hp->VK->Prop)(to:TE):TE:=fun U H Q=>to U H fun x H1=>tyV K T x H1/\r x [] H1 Q
def tBM (K:PySem.W.Frag)(T:String)(r:V->List V->Hp->VK->Prop)(to:TE)(t:TA):TE:=fun U H Q=>to U H fun x H1=>tyV K T x H1/\t U H1 fun xs H2=>r x xs H2 Q
variable {o e:Expr}{es:List Expr}{to:TE}{t:TA}{name:Str}{apos cpos:Pos}{T id:String}{r:V->List V->Hp->VK->Prop}
def zub (pa:PlainAttrs T)(slot:Slot T name id)(hty:typeOf (.builtin id)=pure (.type "method_descriptor"))(hm:MtR X id r)(ho:PE X o to)
  (hbase:attributeBase o name X.env (eval o X.env)=eval o X.env:=by rfl) (hline:(apos.endLine==cpos.line)=true:=by rfl):PE X (.Call (.Attribute o name apos) [] [] cpos) (zx3 X.K T r to):=by
 intro pins s U H Q I h;refine wpAny_Call_method0_late hbase hline (thn (ho pins s U H _ I h) fun v s1 ⟨x,H1,I1,r1,ty,q1⟩=>?_);obtain⟨h1,h2⟩:=zo7 I1 r1 ty;exact⟨T,id,pa,slot,hty,h1,h2,Calls.callWith_builtin rfl (PySem.evalArgs_none (hm pins s1 U H1 x [] v [] Q I1 r1 .nil q1))⟩
def zwP (pa:PlainAttrs T)(slot:Slot T name id)(hty:typeOf (.builtin id)=pure (.type "method_descriptor"))(hm:MtR X id r)(ho:PE X o to)(ha:PA X (e::es) t)
    (hbase:attributeBase o name X.env (eval o X.env)=eval o X.env:=by rfl)
    (hfew:((backTo cpos (starEach (e::es) X.env)).all (fun x=>!x.1)&&(backToKw cpos (keywordEach [] X.env)).all (fun x=>x.1.isSome)
     &&decide ((e::es).length+([]:List Keyword).length+(if([]:List Keyword).isEmpty then 0 else 1)<30))=true:=by rfl)
    (hline:(apos.endLine==cpos.line)=true:=by rfl) (hs:starEach (e::es) X.env=(false,eval e X.env)::starEach es X.env:=by rfl) (hplain:(backTo cpos (starEach es X.env)).any (·.1)=false:=by rfl) :
    PE X (.Call (.Attribute o name apos) (e::es) [] cpos) (tBM X.K T r to t):=by
  intro pins s U H Q I h;refine wpAny_Call_method_late hbase hfew hline rfl (thn (ho pins s U H _ I h) fun v s1 ⟨x,H1,I1,r1,ty,q1⟩=>?_);obtain⟨h1,h2⟩:=zo7 I1 r1 ty;refine⟨T,id,pa,slot,hty,h1,h2,?_⟩;have hA:=ha cpos pins s1 U H1 _ I1 q1;rw[hs]at hA ⊢;refine Calls.callWith_builtin (by show(false||(backTo cpos (starEach es X.env)).any (·.1))=false;rw[hplain]<;>rfl) (Calls.evalArgs_plain ?_);exact thn hA fun us s2 ⟨vs,H2,I2,r2,q2⟩=>hm pins s2 U H2 x vs v us Q I2 r1 r2 q2
/- xs.append(e),list.index on a module's tuple .. are MtR facts of 06m -/
end
def MtM (X:Cx)(id:String)(r:V->List V->Hp->VK->Prop):Prop :=
 ∀ (pins:List (Addr×Obj)) (s:Shared) (U:St) (H:Hp) (x:V) (xs:List V) (v:Value) (us:List Value) (Q:VK),Inv X pins U H s->RelV x v->Vals xs us->r x xs H Q ->
  wpAny (model X.prog X.w) X.A (call (.builtin id) (v::us)) (EP X pins U Q) X.xe s
theorem Vals.one:∀ {x:V} {us:List Value},Vals [x] us->∃ u,us=[u]/\RelV x u
 |_,_,.cons r .nil=>⟨_,rfl,r⟩
theorem Vals.zero:∀ {us:List Value},Vals [] us->us=[]
 |_,.nil=>rfl
section
variable {X:Cx}{pins:List (Addr×Obj)}{U:St}{H:Hp}{s:Shared}{l b:Addr}{xs ys zs:List V}
def Inv.lset {its its':List Value}{n:Nat}{f:Array Value->Array Value}{t':Nat}(I:Inv X pins U H s)(hH:H l=some (.lst xs))
  (e:s.heap.get? l=some { cls:=.type "list",data:=.seq its.toArray n }) (hf:f its.toArray=its'.toArray) (hv:Vals ys its') (hz:ys.length<=sizeLine) :
  Inv X pins U (upd H l (.lst ys)) { s with heap:=s.heap.update l (Obj.mapSeq f),toks:=t' }:=by
 have q:=PySem.IsL.update e f;rw[hf]at q;refine I.write (x:=l) (e:=l) (by rw[hH];exact trivial) (.inl rfl) (fun b' u hb hu=>(Heap.get?_update_other s.heap (Obj.mapSeq f) (Ne.symm hb)).trans hu) ⟨_,q⟩ ?_;exact⟨hz,its',_,hv,q⟩
def Inv.lnew {its:List Value}{t':Nat}(I:Inv X pins U H s)(hv:Vals ys its)(hz:ys.length<=sizeLine) :
  Inv X pins U (upd H s.heap.objs.size (.lst ys)) { s with heap:=s.heap.push { cls:=.type "list",data:=.seq its.toArray },toks:=t' } :=
 I.laid (fun _ _ q=>qd _ q) (qe _) ⟨hz,its,0,hv,qp _ rfl⟩
theorem Inv.fresh (I:Inv X pins U H s):H s.heap.objs.size=none:=I.hok.fresh (qe _)
def Inv.lstM (I:Inv X pins U H s)(hH:H l=some (.lst xs)):xs.length<=sizeLine/\∃ (its:List Value) (n:Nat),Vals xs its/\xs.length=its.length/\s.heap.get? l=some { cls:=.type "list",data:=.seq its.toArray n }:=by
 obtain⟨z,its,n,r,e⟩:=I.hok l _ hH;exact⟨z,its,n,r,r.length,e⟩
def zlq {n:Nat}(h:n<=sizeLine):Builtin.List.listTooLong n=false:=by
 unfold Builtin.List.listTooLong;exact decide_eq_false (by lia)
end
section
variable {X:Cx}
def zmq:V->List V->Hp->VK->Prop:=fun x vs H Q=>∃ l xs y,x=.ref l/\vs=[y]/\H l=some (.lst xs)/\xs.length<sizeLine/\Q .non (upd H l (.lst (xs++[y])))
def zjl:MtM X "list.append" zmq:=by
 intro pins s U H x vs v us Q I rx rv h;obtain⟨l,xs,y,rfl,rfl,hH,hz,q⟩:=h;cases rx;obtain⟨u,rfl,ru⟩:=rv.one;obtain⟨z,its,n,r,hl,e⟩:=I.lstM hH;refine call_meets F.slot_list_append ⟨_,e,rfl⟩ F.entry_list_append (F.args_list_append_2 _ _) (PySem.list_append l its.toArray n u (by rw[qm];lia)) ⟨e,?_⟩;refine⟨.non,_,I.lset (its':=its++[u]) hH e (by simp) (r.append (.cons ru .nil)) ?_,rfl,q⟩;rw[qi,List.length_singleton];lia
def zmp:V->List V->Hp->VK->Prop:=fun x vs H Q=>∃ l b xs zs,x=.ref l/\vs=[.ref b]/\H l=some (.lst xs)/\H b=some (.lst zs)/\xs.length+zs.length<=sizeLine/\Q .non (upd H l (.lst (xs++zs)))
def zo6:MtM X "list.extend" zmp:=by
 intro pins s U H x vs v us Q I rx rv h;obtain⟨l,b,xs,zs,rfl,rfl,hH,hB,hz,q⟩:=h;cases rx;obtain⟨u,rfl,ru⟩:=rv.one;cases ru;obtain⟨z,its,n,r,hl,e⟩:=I.lstM hH;obtain⟨z2,its2,n2,r2,hl2,e2⟩:=I.lstM hB;have hsz:its.toArray.size+its2.toArray.size<=sizeLine:=by rw[qm,qm];lia
 have hlong:¬ (!its.toArray.isEmpty&&Builtin.List.listTooLong (its.toArray.size+its2.toArray.size))=true:=by
  rw[zlq hsz,Bool.and_false];exact qv
 refine call_meets F.slot_list_extend ⟨_,e,rfl⟩ F.entry_list_extend (F.args_list_extend_2 _ _)
  (AutoSeq1.list_extend_list_list_0 l its.toArray n b its2.toArray n2 hlong (by rw[qm];lia) (by lia)) ⟨e,e2,?_⟩
 refine⟨.non,_,I.lset (its':=its++its2) hH e (by simp) (r.append r2) ?_,rfl,q⟩;rw[qi];lia
def zu3:V->List V->Hp->VK->Prop:=fun x vs H Q=>∃ l xs,x=.ref l/\vs=[]/\H l=some (.lst xs)/\Q .non (upd H l (.lst []))
def zpZ:MtM X "list.clear" zu3:=by
 intro pins s U H x vs v us Q I rx rv h;obtain⟨l,xs,rfl,rfl,hH,q⟩:=h;cases rx;have hus:=rv.zero;subst hus;obtain⟨z,its,n,r,hl,e⟩:=I.lstM hH;refine call_meets F.slot_list_clear ⟨_,e,rfl⟩ F.entry_list_clear (F.args_list_clear_1 _) (AutoSeq1.list_clear_list_0 l its.toArray n (by rw[qm];lia)) ⟨e,?_⟩;exact⟨.non,_,I.lset (its':=[]) (ys:=[]) hH e rfl .nil (qP _),rfl,q⟩
end
section
variable {prog:Program}{w:World}{A:Around}{E:Value->Shared->Prop}{s:Shared}
end
section
variable {X:Cx}
end
end L2
namespace Att
open PySem PySem.W PySem.Calls PyProof.Rows
def zio {P:Params}{h:Heap}:∀ (ns:List Int) (vs:List Value),WellAll P h vs (ns.map WData.int)->IntsAre vs ns:=by
 intro ns
 induction ns with
 |nil =>
  intro vs w;rw[List.map_nil]at w;cases w;exact .nil
 |cons n ns ih =>
  intro vs w;rw[qI]at w;cases w with
  |cons a b =>
   cases a;exact .cons _ _ (ih _ b)
def zoJ {l:OpenLaw}{n:Nat}(hn:l.most=some n){P:Params}{h:Heap}{args:List WData}{vals:List Value}
  (hpre:l.row.toRowW.claim.pre args=true) (hwl:WellAll P h vals args) :
  ∃ a vs ns,vals=[Value.ref a]/\args=[WData.list (ns.map WData.int)]/\h.get? a=some { cls:=.type "list",data:=.seq vs.toArray }/\IntsAre vs ns/\ns.length<=n:=by
 have hsh:WShape.hasAll [] args [.list .int]=true:=(pre_splitW hpre).1;have hc:l.pre.holds [] { args:=args }=true:=(pre_splitW hpre).2;obtain⟨d,r,rfl,h1,h2⟩:=hasAllW_cons hsh;obtain rfl:=hasAllW_nil h2;obtain⟨xs,rfl,h3⟩:=hasW_list h1;obtain⟨ns,rfl⟩:=items_int h3
 have hlen:ns.length<=n:=by
  unfold OpenLaw.pre at hc
  have h4:(WTm.not (.lt (.lit (.int (n:Int))) (.len (.arg 0)))).holds [] { args:=[.list (ns.map .int)] }=true:=by
   have h4:=(holds_andW hc).1;rw[hn]at h4;exact h4
  have h5:=condW_of h4 (w_not (w_lt w_lit (w_len_list (w_arg rfl))));rw[qb]at h5;refine Nat.le_of_not_lt fun q=>?_
  have q':(n:Int)<((ns.length:Nat):Int):=by lia
  first
   |(rw[decide_eq_true q']at h5;exact absurd h5 (by decide))
   |(simp at h5;lia)
 cases hwl with
 |cons w1 w2 =>
  cases w2;cases w1 with
  |list ho hall=>exact⟨_,_,ns,rfl,rfl,ho,zio ns _ hall,hlen⟩
def zpn (l:OpenLaw)(args:List WData):l.row.toRowW.claim.post args (.bool true) args=true :=
 postW_of (r:=l.row.toRowW) (X:=(true==true))
  (show WShape.has [] (.bool true) .bool=true by first|rfl|decide|simp[WShape.has,WShape.arms,WShape.armsAll])
  (show(WTm.eq .res (.lit (.bool true))).value [] { args:=args,res:=some (.bool true),after:=args }=some (.bool (true==true))from w_eq_bool (w_res rfl) w_lit) rfl
section
variable {prog:Program}{w:World}{A:Around}{E:Value->Shared->Prop}{s:Shared}{K:Frag}
end
end Att
namespace L2
open PySem PySem.Spec PyProof.Rows
theorem zjn:∀ {vs:List Value} {ns:List Int},IntsAre vs ns->Vals (ns.map V.int) vs
 |_,_,.nil=>.nil
 |_,_,.cons n t h=>.cons ⟨t,rfl⟩ (zjn h)
def inClass (s:Stmt)(j:Nat):Stmt:=match s with
 |.ClassDef _ _ _ body _ _ _ _ _ _ _=>body.getD j (.Pass ⟨0,0,0,0⟩)
 |_=>.Pass ⟨0,0,0,0⟩
def zbz (s:Stmt):Arguments:=match s with
 |.FunctionDef _ a _ _ _ _ _ _ _ _=>a
 |_=>{ posonlyargs:=[],args:=[],vararg:=none,kwonlyargs:=[],kw_defaults:=[],kwarg:=none,defaults:=[] }
def zaD (s:Stmt):List Stmt:=match s with
 |.FunctionDef _ _ b _ _ _ _ _ _ _=>b
 |_=>[]
def zN (s:Stmt):Scope:=match s with
 |.FunctionDef _ _ _ _ _ _ sc _ _ _=>sc
 |_=>{ kind:=.function,names:=[],isGenerator:=false,isCoroutine:=false }
abbrev CX0:CXT:=fun _ _ _ _ _ _=>False
abbrev E0:XK:=fun _ _ _=>False
def zrq {X:Cx}:Passes CX0 X E0:=fun _ _ _ _ _ _ _ h=>h.elim
structure Fun (K:PySem.W.Frag)(x qual:Str)(st:Stmt)(f:Addr)(fd:FuncData):Prop where
 ex:∃ (oc:Value) (od:Option Addr) (kV doc pm:Value) (an:Option Addr) (cdv ct:Value) (osl:Array (Option Value)),
  fd=PySem.W.fnOf x qual (zbz st) (zaD st) (zN st) .none kV doc pm an cdv ct/\K.lookup f=some ⟨oc,od,.func fd,osl⟩/\PySem.W.codeIn K cdv qual=true
 kp:PySem.W.keepIn K (.ref f)=true
section
variable {P:Program}{w:World}{K:PySem.W.Frag}{mg:Str->Option Value}{base:Heap}
def Fun.ok {x qual:Str}{st:Stmt}{f:Addr}{fd:FuncData}{N ps:List Str}{k:Nat}{sp:Sp}(F:Fun K x qual st f fd)(S:zcb N ps (zN st))(len:∀ vs H Q E,sp vs H Q E->vs.length=ps.length)
  (hbody:∀ (cdv:Value) (A:Around) (outer:List Env) (s:Shared) (H:Hp) (vs:List V) (Q:VK) (E:XK),zaf k (A.deeper (envOfC qual (zN st) s.heap.objs.size f cdv))->sp vs H Q E ->
   ∃ t,PSs (zbW CX0 P w K mg base N qual (zN st) f cdv A outer s H E).nox (zaD st) t/\t { nx:=fun _ H'=>Q .non H',rt:=Q } (start N vs) H):zP P w K mg base CX0 (k+1) f fd ps sp:=by
 obtain⟨oc,od,kV,doc,pm,an,cdv,ct,osl,rfl,lk,hcd⟩:=F.ex;refine zmO lk hcd S len fun A outer s H vs Q E hr hsp=>?_
 obtain⟨t,h,q⟩:=hbody cdv A outer s H vs Q E hr hsp;exact⟨t,h.nox,q⟩
def Fun.binds {x qual:Str}{st:Stmt}{f:Addr}{fd:FuncData}{ps:List Str}(F:Fun K x qual st f fd)
  (h:∀ (kV doc pm:Value) (an:Option Addr) (cdv ct:Value) (us:List Value),us.length=ps.length->bindArgs (PySem.W.fnOf x qual (zbz st) (zaD st) (zN st) .none kV doc pm an cdv ct) ⟨us,[]⟩=pure (ps.zip us)):Binds K fd ps []:=by
 obtain⟨oc,od,kV,doc,pm,an,cdv,ct,osl,rfl,lk,hcd⟩:=F.ex;exact .all (h kV doc pm an cdv ct)
def ziB {x qual:Str}{st:Stmt}{f:Addr}{oc:Value}{od an:Option Addr}{osl:Array (Option Value)}{kV doc pm cdv ct:Value}(l:K.lookup f=some ⟨oc,od,.func (PySem.W.fnOf x qual (zbz st) (zaD st) (zN st) .none kV doc pm an cdv ct),osl⟩)
  (c:PySem.W.codeIn K cdv qual=true) (k:PySem.W.keepIn K (.ref f)=true):Fun K x qual st f (PySem.W.fnOf x qual (zbz st) (zaD st) (zN st) .none kV doc pm an cdv ct):=⟨⟨oc,od,kV,doc,pm,an,cdv,ct,osl,rfl,l,c⟩,k⟩
end
def zj0 {A:Around}{k:Nat}(hr:zaf k A):A.units+1<cLine:=Nat.lt_of_le_of_lt (Nat.add_le_add_left (by decide:1<=64) _) hr.units
section
variable {X:Cx}
def pv (i:Nat){x:Str}{pos:Pos}(hN:X.N[i]?=some x:=by rfl)(hv:Vis X.env.scope x:=by first | exact Or.inl rfl | exact Or.inr (Or.inl rfl) | exact Or.inr (Or.inr rfl))(hd:(x==("__debug__":Str))=false:=by decide)
  (hcd:(x==("__classdict__":Str))=false:=by decide):PE X (.Name x pos) (zqO i):=zoN hN hv hd hcd
end
section
variable {κ:Type}[DecidableEq κ]
def zb2 (kvs:List (κ×V))(k:κ):Option V:=(kvs.find? fun kv=>decide (kv.1=k)).map (·.2)
def putK (kvs:List (κ×V))(k:κ)(v:V):List (κ×V) :=
 if(kvs.any fun kv=>decide (kv.1=k))=true then kvs.map (fun kv=>if kv.1=k then(kv.1,v)else kv)else kvs++[(k,v)]
def zeD (kvs:List (κ×V))(k:κ):List (κ×V):=kvs.filter fun kv=>decide (kv.1≠k)
def zlr {k:κ}:zb2 ([]:List (κ×V)) k=none:=rfl
def zew {p:κ×V}{r:List (κ×V)}{k:κ}(e:p.1=k):zb2 (p::r) k=some p.2:=by simp[zb2,List.find?_cons,e]
def zej {p:κ×V}{r:List (κ×V)}{k:κ}(e:¬ p.1=k):zb2 (p::r) k=zb2 r k:=by simp[zb2,List.find?_cons,e]
theorem zfo (k:κ):∀ kvs:List (κ×V),(kvs.any fun kv=>decide (kv.1=k))=(zb2 kvs k).isSome
 |[]=>rfl
 |p::r=>by
  rw[List.any_cons];by_cases e:p.1=k
  ·simp only[zew e,decide_eq_true e,Bool.true_or,Option.isSome_some]
  ·rw[zej e,decide_eq_false e,Bool.false_or];exact zfo k r
def zeS (kvs:List (κ×V))(k:κ)(v:V):(putK kvs k v).length<=kvs.length+1:=by
 unfold putK;split
 ·rw[qb];lia
 ·rw[qi,qJ,List.length_nil];lia
def zda.isSome_eq {o:Option V}{u:Option Value}(r:zda o u):o.isSome=u.isSome:=by
 cases o with
 |none=>cases u with
  |none=>rfl
  |some _=>exact(show False from r).elim
 |some _=>cases u with
  |none=>exact(show False from r).elim
  |some _=>rfl
def KV.val {kvs:List (κ×V)}{vs:List (κ×Value)}(r:KV kvs vs)(k:κ):zda (zb2 kvs k) (valueAt vs k):=by
 unfold KV at r
 induction r with
 |nil=>exact True.intro
 |@cons p q ps qs h t ih =>
  obtain⟨h1,h2⟩:=h;by_cases e:p.1=k
  ·have e':q.1=k:=h1.symm.trans e;have b:valueAt (q::qs) k=some q.2:=by simp[valueAt,List.find?_cons,e']
   rw[zew e,b];exact h2
  ·have e':¬ q.1=k:=fun z=>e (h1.trans z)
   have b:valueAt (q::qs) k=valueAt qs k:=by simp[valueAt,List.find?_cons,e']
   rw[zej e,b];exact ih
theorem KV.any {kvs:List (κ×V)}{vs:List (κ×Value)}(r:KV kvs vs)(k:κ):(kvs.any fun kv=>decide (kv.1=k))=vs.any fun kv=>decide (kv.1=k):=by
 unfold KV at r
 induction r with
 |nil=>rfl
 |cons h t ih=>rw[List.any_cons,List.any_cons,ih,h.1]
def KV.repl {kvs:List (κ×V)}{vs:List (κ×Value)}(r:KV kvs vs)(k:κ){y:V}{u:Value}(ry:RelV y u) :
  KV (kvs.map fun kv=>if kv.1=k then(kv.1,y)else kv) (vs.map fun kv=>if kv.1=k then(kv.1,u)else kv):=by
 unfold KV at r ⊢
 induction r with
 |nil=>exact .nil
 |@cons p q ps qs h t ih =>
  rw[qI,qI];refine .cons ?_ ih;obtain⟨h1,h2⟩:=h;by_cases e:p.1=k
  ·rw[if_pos e,if_pos (h1.symm.trans e)];exact⟨h1,ry⟩
  ·rw[if_neg e,if_neg (fun z=>e (h1.trans z))];exact⟨h1,h2⟩
def KV.put {kvs:List (κ×V)}{vs:List (κ×Value)}(r:KV kvs vs)(k:κ){y:V}{u:Value}(ry:RelV y u):KV (putK kvs k y) (stored vs k u):=by
 unfold putK stored;rw[r.any k];by_cases e:(vs.any fun kv=>decide (kv.1=k))=true
 ·rw[if_pos e,if_pos e];exact r.repl k ry
 ·rw[if_neg e,if_neg e];exact Paired.snoc r ⟨rfl,ry⟩
def KV.drop {kvs:List (κ×V)}{vs:List (κ×Value)}(r:KV kvs vs)(k:κ):KV (zeD kvs k) (without vs k):=by
 unfold KV at r ⊢;unfold zeD without
 induction r with
 |nil=>exact .nil
 |@cons p q ps qs h t ih =>
  obtain⟨h1,h2⟩:=h;rw[List.filter_cons,List.filter_cons];by_cases e:p.1=k
  ·have a:¬ decide (p.1≠k)=true:=by simp[e]
   have b:¬ decide (q.1≠k)=true:=by simp[h1.symm.trans e]
   rw[if_neg a,if_neg b];exact ih
  ·have e':¬ q.1=k:=fun z=>e (h1.trans z)
   have a:decide (p.1≠k)=true:=by simp[e]
   have b:decide (q.1≠k)=true:=by simp[e']
   rw[if_pos a,if_pos b];exact .cons ⟨h1,h2⟩ ih
theorem KV.length {kvs:List (κ×V)}{vs:List (κ×Value)}(r:KV kvs vs):kvs.length=vs.length:=Paired.length r
def zqb (kvs:List (κ×V))(k:κ):(zeD kvs k).length<=kvs.length:=List.length_filter_le _ _
end
def zfg {P:Program}{w:World}{k:Key}{u:Value}(r:RelV (kV k) u):(zaH P w).is k u=true:=by
 cases k with
 |inl i=>obtain⟨t,e⟩:=(show ∃ t,u=Value.int i t from r);subst e;exact zlS P w i t
 |inr x=>obtain⟨t,e⟩:=(show ∃ t,u=Value.str x t from r);subst e;exact zlC P w x t
theorem zjy {P:Program}{w:World}:∀ {ks:List Key} {us:List Value},Vals (ks.map kV) us->ItemsAre (zaH P w) ks us
 |[],_,r=>by rw[List.map_nil]at r;cases r;exact .nil
 |k::ks,_,r=>by
  rw[qI]at r;cases r with
  |cons h t=>exact .cons (zfg h) (zjy t)
abbrev KT (H:Hp):List (List Key×V)->List (List Key×Addr×Value)->Prop:=Paired fun p q=>p.1=q.1/\H q.2.1=some (.tup (p.1.map kV))/\RelV p.2 q.2.2
def KT.val {H:Hp}{kvs:List (List Key×V)}{xs:List (List Key×Addr×Value)}(r:KT H kvs xs)(k:List Key):zda (zb2 kvs k) ((atKey xs k).map (·.2)):=by
 induction r with
 |nil=>exact True.intro
 |@cons p q ps qs h t ih =>
  obtain⟨h1,_,h2⟩:=h;by_cases e:p.1=k
  ·have e':q.1=k:=h1.symm.trans e;have b:atKey (q::qs) k=some q.2:=by simp[atKey,List.find?_cons,e']
   rw[zew e,b];exact h2
  ·have e':¬ q.1=k:=fun z=>e (h1.trans z)
   have b:atKey (q::qs) k=atKey qs k:=by simp[atKey,List.find?_cons,e']
   rw[zej e,b];exact ih
def KT.repl {H:Hp}{kvs:List (List Key×V)}{xs:List (List Key×Addr×Value)}(r:KT H kvs xs)(k:List Key){y:V}{u:Value}(ry:RelV y u) :
  KT H (kvs.map fun kv=>if kv.1=k then(kv.1,y)else kv) (xs.map (putAt k u)):=by
 induction r with
 |nil=>exact .nil
 |@cons p q ps qs h t ih =>
  rw[qI,qI];refine .cons ?_ ih;obtain⟨h1,h2,h3⟩:=h;unfold putAt;by_cases e:p.1=k
  ·rw[if_pos e,if_pos (h1.symm.trans e)];exact⟨h1,h2,ry⟩
  ·rw[if_neg e,if_neg (fun z=>e (h1.trans z))];exact⟨h1,h2,h3⟩
def KT.put {H:Hp}{kvs:List (List Key×V)}{xs:List (List Key×Addr×Value)}(r:KT H kvs xs)(k:List Key){b:Addr}{y:V}{u:Value}(hb:H b=some (.tup (k.map kV)))(ry:RelV y u) :
  KT H (putK kvs k y) (storedH xs k b u):=by
 have e:(kvs.any fun kv=>decide (kv.1=k))=(atKey xs k).isSome:=by
  rw[zfo,(r.val k).isSome_eq,Option.isSome_map]
 unfold putK storedH;rw[e];by_cases q:(atKey xs k).isSome=true
 ·rw[if_pos q,if_pos q];exact r.repl k ry
 ·rw[if_neg q,if_neg q];exact Paired.snoc r ⟨rfl,hb,ry⟩
def KT.keeps {H H':Hp}{kvs:List (List Key×V)}{xs:List (List Key×Addr×Value)}(r:KT H kvs xs)(ht:∀ b ys,H b=some (.tup ys)->H' b=some (.tup ys)):KT H' kvs xs :=
 Paired.mapP r fun _ _ z=>⟨z.1,ht _ _ z.2.1,z.2.2⟩
section
variable {P:Program}{w:World}{H:Hp}{h:Heap}{a:Addr}
def zrp {u:HO}(ok:HOk P w H h)(e:Rd H a u):zaB P w H h a u:=e.ok ok
def zfd {kvs:List (Key×V)}(ok:HOk P w H h)(e:Rd H a (.dK kvs)):kvs.length<=sizeLine/\(a==sysModules)=false/\∃ vs,KV kvs vs/\h.DictOf (zaH P w) a vs :=
 show zaB P w H h a (.dK kvs)from zrp ok e
def zjV {kvs:List (Key×V)}(ok:HOk P w H h)(e:H a=some (.dK kvs)):kvs.length<=sizeLine/\(a==sysModules)=false/\∃ vs,KV kvs vs/\h.DictOf (zaH P w) a vs:=zfd ok (.inl e)
def zgd {ks:List Key}(ok:HOk P w H h)(e:H a=some (.tup (ks.map kV))):(tupleKind (zaH P w)).is h ks a:=by
 obtain⟨_,its,r,o,h1,h2,n,h3⟩:=(show zaB P w H h a (.tup (ks.map kV))from ok a _ e)
 exact⟨o,its.toArray,n,h1,h2,h3,by simpa using zjy r⟩
def zgN {kvs:List (List Key×V)}(ok:HOk P w H h)(e:Rd H a (.dT kvs)):kvs.length<=sizeLine/\(a==sysModules)=false /\
  ∃ xs,KT H kvs xs/\h.DictOfH (tupleKind (zaH P w)) a xs:=by
 obtain⟨z,y,xs,r,o,es,ep,h1,h2,h3,h4,h5⟩:=(show zaB P w H h a (.dT kvs)from zrp ok e)
 refine⟨z,y,xs,r,o,es,ep,h1,h2,h3,h4,fun x hx=>?_,h5⟩
 have all:∀ {l:List (List Key×V)} {m:List (List Key×Addr×Value)},KT H l m->∀ x∈m,(tupleKind (zaH P w)).is h x.1 x.2.1:=by
  intro l m q
  induction q with
  |nil=>intro x hx;exact nomatch hx
  |@cons p q ps qs hq t ih =>
   intro x hx;rcases qg.mp hx with e|hx
   ·subst e;exact zgd ok (by rw[<- hq.1];exact hq.2.1)
   ·exact ih x hx
 exact all r x hx
def zwQ {kvs:List (List Key×V)}(ok:HOk P w H h)(e:H a=some (.dT kvs)):kvs.length<=sizeLine/\(a==sysModules)=false /\
  ∃ xs,KT H kvs xs/\h.DictOfH (tupleKind (zaH P w)) a xs:=zgN ok (.inl e)
end
def zcY (H:Hp)(a:Addr)(y:V)(r:Option V):Prop :=
 (∃ kvs k,Rd H a (.dK kvs)/\y=kV k/\r=zb2 kvs k)\/∃ kvs k b,Rd H a (.dT kvs)/\y=.ref b/\H b=some (.tup (k.map kV))/\r=zb2 kvs k
def zgl (H:Hp)(a:Addr)(y v:V)(H':Hp):Prop :=
 (∃ kvs k,H a=some (.dK kvs)/\y=kV k/\kvs.length<sizeLine/\H'=upd H a (.dK (putK kvs k v))) \/
 ∃ kvs k b,H a=some (.dT kvs)/\y=.ref b/\H b=some (.tup (k.map kV))/\kvs.length<sizeLine/\H'=upd H a (.dT (putK kvs k v))
theorem zcY.k {H:Hp}{a:Addr}{kvs:List (Key×V)}{k:Key}(e:H a=some (.dK kvs)):zcY H a (kV k) (zb2 kvs k):=.inl ⟨kvs,k,.inl e,rfl,rfl⟩
def zcY.t {H:Hp}{a b:Addr}{kvs:List (List Key×V)}{k:List Key}(e:H a=some (.dT kvs))(eb:H b=some (.tup (k.map kV))):zcY H a (.ref b) (zb2 kvs k):=.inr ⟨kvs,k,b,.inl e,rfl,eb,rfl⟩
theorem zgl.k {H:Hp}{a:Addr}{kvs:List (Key×V)}{k:Key}{v:V}(e:H a=some (.dK kvs))(hl:kvs.length<sizeLine):zgl H a (kV k) v (upd H a (.dK (putK kvs k v))):=.inl ⟨kvs,k,e,rfl,hl,rfl⟩
def zgl.t {H:Hp}{a b:Addr}{kvs:List (List Key×V)}{k:List Key}{v:V}(e:H a=some (.dT kvs))(eb:H b=some (.tup (k.map kV)))(hl:kvs.length<sizeLine) :
  zgl H a (.ref b) v (upd H a (.dT (putK kvs k v))):=.inr ⟨kvs,k,b,e,rfl,eb,hl,rfl⟩
section
variable {X:Cx}{pins:List (Addr×Obj)}{U:St}{H:Hp}{s:Shared}{a:Addr}{y v:V}{u r:Value}{o:Option V}{A:Around}{E:Value->Shared->Prop}
def Inv.big (I:Inv X pins U H s):sysModules<s.heap.objs.size:=by
 have h:mainGlobals<s.heap.objs.size:=(I.mod.glob.keeps I.bk).lt;exact Nat.lt_trans (by decide) h
def zoh {Q:Value->Shared->Prop}(hu:A.units+1<cLine)(I:Inv X pins U H s)(g:zcY H a y (some v))(ry:RelV y u)(h:∀ w' s',Inv X pins U H s'->RelV v w'->Q w' s') :
  wpAny (model X.prog X.w) A (getItem (.ref a) u) Q E s:=by
 rcases g with⟨kvs,k,e,ey,l⟩|⟨kvs,k,b,e,ey,eb,l⟩
 ·subst ey;obtain⟨z,hd,vs,rel,dd⟩:=zfd I.hok e;obtain⟨w',hw,rw'⟩:=zda.some_of (v:=v) (o:=valueAt vs k) (by rw[l];exact rel.val k);exact wpAny_getItem_of (zfg ry) dd.mapOf hw (h w' _ (I.tok _) rw')
 ·subst ey;cases(show u=Value.ref b from ry);obtain⟨z,hd,xs,rel,dd⟩:=zgN I.hok e;obtain⟨w',hw,rw'⟩:=zda.some_of (v:=v) (o:=(atKey xs k).map (·.2)) (by rw[l];exact rel.val k);obtain⟨p,hp,hp2⟩:=Option.map_eq_some_iff.mp hw;refine wpAny_getItem_heap (tupleKind_room_in1 hu) (zgd I.hok eb) dd hp ?_;rw[hp2];exact h w' _ (I.tok _) rw'
def zyf {Q:Value->Shared->Prop}(hu:A.units+1<cLine)(I:Inv X pins U H s)(g:zcY H a y o)(ry:RelV y u)(h:∀ s',Inv X pins U H s'->Q (.bool o.isSome) s') :
  wpAny (model X.prog X.w) A (compareOp .In u (.ref a)) Q E s:=by
 rcases g with⟨kvs,k,e,ey,l⟩|⟨kvs,k,b,e,ey,eb,l⟩
 ·subst ey;obtain⟨z,hd,vs,rel,dd⟩:=zfd I.hok e;refine wpAny_in_of (zfg ry) hd dd.mapOf ?_;rw[<- (rel.val k).isSome_eq,<- l];exact h _ (I.tok _)
 ·subst ey;cases(show u=Value.ref b from ry);obtain⟨z,hd,xs,rel,dd⟩:=zgN I.hok e;refine wpAny_in_heap (tupleKind_room_in1 hu) (zgd I.hok eb) hd dd ?_;have q:=(rel.val k).isSome_eq;rw[Option.isSome_map]at q;rw[<- q,<- l];exact h _ (I.tok _)
def zsn {Q:Value->Shared->Prop}(hu:A.units+1<cLine)(I:Inv X pins U H s)(g:zcY H a y o)(ry:RelV y u)(h:∀ s',Inv X pins U H s'->Q (.bool (!o.isSome)) s') :
  wpAny (model X.prog X.w) A (compareOp .NotIn u (.ref a)) Q E s:=by
 rcases g with⟨kvs,k,e,ey,l⟩|⟨kvs,k,b,e,ey,eb,l⟩
 ·subst ey;obtain⟨z,hd,vs,rel,dd⟩:=zfd I.hok e;refine wpAny_notIn_of (zfg ry) hd dd.mapOf ?_;rw[<- (rel.val k).isSome_eq,<- l];exact h _ (I.tok _)
 ·subst ey;cases(show u=Value.ref b from ry);obtain⟨z,hd,xs,rel,dd⟩:=zgN I.hok e;refine wpAny_notIn_heap (tupleKind_room_in1 hu) (zgd I.hok eb) hd dd ?_;have q:=(rel.val k).isSome_eq;rw[Option.isSome_map]at q;rw[<- q,<- l];exact h _ (I.tok _)
def zgy {h':Heap}{t':Nat}{ob:HO}(I:Inv X pins U H s)(mu:Mut (H a))(hs:Heap.SameBut a s.heap h')(he:∃ q,h'.get? a=some q)(new:zaB X.prog X.w (upd H a ob) h' a ob) :
  Inv X pins U (upd H a ob) { s with heap:=h',toks:=t' } :=
 I.write (x:=a) (e:=a) mu (.inl rfl) (fun b q hb z=>(hs.2 b hb).trans z) he new
def zkM {P:Program}{w:World}{H':Hp}{h':Heap}{kvs:List (Key×V)}{vs:List (Key×Value)}(z:kvs.length<=sizeLine)(hd:(a==sysModules)=false)(rel:KV kvs vs)(dd:h'.DictOf (zaH P w) a vs) :
  zaB P w H' h' a (.dK kvs):=⟨z,hd,vs,rel,dd⟩
def zoH {H':Hp}{Q:Unit->Shared->Prop}(hu:A.units+1<cLine)(I:Inv X pins U H s)(g:zgl H a y v H')(ry:RelV y u)(rv:RelV v r)(h:∀ s',Inv X pins U H' s'->Q () s') :
  wpAny (model X.prog X.w) A (setItem (.ref a) u r) Q E s:=by
 rcases g with⟨kvs,k,e,ey,l,eH⟩|⟨kvs,k,b,e,ey,eb,l,eH⟩
 ·subst ey eH;obtain⟨z,hd,vs,rel,dd⟩:=zjV I.hok e;have hz:vs.length<=sizeLine:=by rw[<- rel.length];exact z
  have hl:(putK kvs k v).length<=sizeLine:=by have:=zeS kvs k v;lia
  refine wpAny_setItem_pairs (hsz:=hz) (zfg ry) dd fun h' dd' hs=>h _ ?_
  have he:∃ q,h'.get? a=some q:=let ⟨q,_,_,hq,_⟩:=dd';⟨q,hq⟩;exact zgy I (by rw[e];exact True.intro) hs he (zkM hl hd (rel.put k rv) dd')
 ·subst ey eH;cases(show u=Value.ref b from ry);obtain⟨z,hd,xs,rel,dd⟩:=zwQ I.hok e;have hz:xs.length<=sizeLine:=by rw[<- Paired.length rel];exact z
  have hl:(putK kvs k v).length<=sizeLine:=by have:=zeS kvs k v;lia
  refine wpAny_setItem_heap (hsz:=hz) (tupleKind_room_in1 hu) (zgd I.hok eb) dd fun h' dd' hs=>h _ ?_
  obtain⟨q,es,ep,hq,h2,h3,h4,_,h5⟩:=dd';refine zgy I (by rw[e];exact True.intro) hs ⟨q,hq⟩ ⟨hl,hd,_,(rel.put k eb rv).keeps fun c ys ec=>?_,q,es,ep,hq,h2,h3,h4,h5⟩;rw[zL (zc7 ec e (fun z=>nomatch z))];exact ec
end
section
variable {X:Cx}{pins:List (Addr×Obj)}{U:St}{H:Hp}{s:Shared}{a:Addr}{kvs:List (Key×V)}{k:Key}{u:Value}{A:Around}{E:Value->Shared->Prop}
def zwO {v:V}{more:List Value}{Q:Value->Shared->Prop}(I:Inv X pins U H s)(e:H a=some (.dK kvs))(ry:RelV (kV k) u)(l:zb2 kvs k=some v)(hm:more=[]\/∃ x,more=[x])
  (h:∀ w' s',Inv X pins U (upd H a (.dK (zeD kvs k))) s'->RelV v w'->Q w' s'):wpAny (model X.prog X.w) A (call (.builtin "dict.pop") (.ref a::u::more)) Q E s:=by
 obtain⟨z,hd,vs,rel,dd⟩:=zjV I.hok e;obtain⟨w',hw,rw'⟩:=zda.some_of (v:=v) (o:=valueAt vs k) (by rw[<- l];exact rel.val k)
 have hp:(keyPart u).isSome=true:=by
  cases k with
  |inl i=>obtain⟨t,q⟩:=(show ∃ t,u=Value.int i t from ry);subst q;rfl
  |inr x=>obtain⟨t,q⟩:=(show ∃ t,u=Value.str x t from ry);subst q;rfl
 have ha:argsOk "dict.pop" ⟨.ref a::u::more,[]⟩:=by
  rcases hm with q|⟨x,q⟩
  ·subst q;exact PySem.F.args_dict_pop_2 _ _
  ·subst q;exact PySem.F.args_dict_pop_3 _ _ _
 refine call_meetsIn PySem.F.slot_dict_pop dd.typeIs PySem.F.entry_dict_pop ha (meets_dict_pop_there (zaH X.prog X.w) a (zfg ry) more hm hp)
  ⟨vs,w',dd,by rw[<- rel.length];exact z,hw,fun h' dd' hs=>h w' _ ?_ rw'⟩
 have he:∃ q,h'.get? a=some q:=let ⟨q,_,_,hq,_⟩:=dd';⟨q,hq⟩;exact zgy I (by rw[e];exact True.intro) hs he (zkM (qR (zqb kvs k) z) hd (rel.drop k) dd')
def zxu {Q:Value->Shared->Prop}(I:Inv X pins U H s)(e:Rd H a (.dK kvs))(h:∀ t s',Inv X pins U H s'->Q (.int kvs.length t) s'):wpAny (model X.prog X.w) A (call (.builtin "len") [.ref a]) Q E s:=by
 obtain⟨z,hd,vs,rel,dd⟩:=zfd I.hok e;refine call_len_dict hd dd (by rw[<- rel.length];rw[sizeLine_eq]at z;lia) ?_;rw[<- rel.length];exact h _ _ (I.tok _)
end
def zpC (i:Expr):Prop:=∀ ov iv,subscripted i false ov iv=operate [ov,iv] (getItem ov iv)
def zsw {prog:Program}{w:World}{A:Around}{E:Value->Shared->Prop}{s:Shared}{env:Env}{value slice:Expr}{pos:Pos}{T id:String}{Q:Value->Shared->Prop}
  (hl:typeLookup (.type T) "__getitem__"=pure (some (.builtin id))) (hs:zpC slice)
  (h:wpAny (model prog w) A (eval value env) (fun o s₁=>wpAny (model prog w) A (eval slice env) (fun i s₂=>s₂.TypeIs o T/\wpAny (model prog w) A (getItem o i) Q E s₂) E s₁) E s) :
  wpAny (model prog w) A (eval (.Subscript value slice pos) env) Q E s:=by
 refine Subscript_ (wpAny_mono h (fun o s₁ h₁=>wpAny_mono h₁ (fun i s₂ h₂=>?_) fun _ _ x=>x) fun _ _ x=>x);obtain⟨hT,h₂⟩:=h₂;unfold subscriptTail;refine wpAny_bind ?_;rw[getitemInPython_of_ne hT.not_modules];refine wpAny_bind (wpAny_specialOf hT hl ?_)
 have fin:wpAny (model prog w) A (subscripted slice false o i) (fun r s₃=>wpAny (model prog w) A (letTemporaryGo value o r >>= fun _=>pure r) Q E s₃) E s₂:=by
  rw[hs o i];exact wpAny_operating (wpAny_mono h₂ (fun r s₃ h₃=>wpAny_bind (wpAny_letTemporaryGo (wpAny_pure h₃))) fun _ _ x=>x)
 first
  |exact wpAny_pure (wpAny_bind fin)
  |exact wpAny_bind (wpAny_pure (wpAny_bind fin))
  |exact wpAny_bind fin
def zlD {X:Cx}{pins:List (Addr×Obj)}{U:St}{H:Hp}{s:Shared}{a:Addr}{y:V}{o:Option V}(I:Inv X pins U H s)(g:zcY H a y o):s.TypeIs (.ref a) "dict":=by
 rcases g with⟨kvs,k,e,_,_⟩|⟨kvs,k,b,e,_,_,_⟩
 ·obtain⟨_,_,vs,_,dd⟩:=zfd I.hok e;exact dd.typeIs
 ·obtain⟨_,_,xs,_,dd⟩:=zgN I.hok e;exact dd.typeIs
def zwg (td ty:TE):TE:=fun U H Q=>td U H fun x H1=>ty U H1 fun y H2=>∃ a v,x=.ref a/\zcY H2 a y (some v)/\Q v H2
def zxN (ty td:TE):TE:=fun U H Q=>ty U H fun y H1=>td U H1 fun x H2=>∃ a o,x=.ref a/\zcY H2 a y o/\Q (.bl o.isSome) H2
def zsA (ty td:TE):TE:=fun U H Q=>ty U H fun y H1=>td U H1 fun x H2=>∃ a o,x=.ref a/\zcY H2 a y o/\Q (.bl (!o.isSome)) H2
def zxC (td ty tv:TE):TS:=fun D U H=>tv U H fun v H1=>td U H1 fun x H2=>ty U H2 fun y H3=>∃ a H4,x=.ref a/\zgl H3 a y v H4/\D.nx U H4
section
variable {X:Cx}{o i e value:Expr}{pos pos' tpos:Pos}{td ty tv:TE}
def zr4 (hu:X.A.units+1<cLine)(ho:PE X o td)(hi:PE X i ty)(hs:zpC i):PE X (.Subscript o i pos) (zwg td ty):=by
 intro pins s U H Q I h;refine zsw PySem.F.slot_dict_getitem.lookup hs (thn (ho pins s U H _ I h) fun u s1 ⟨x,H1,I1,rx,q1⟩=>thn (hi pins s1 U H1 _ I1 q1) fun iv s2 ⟨y,H2,I2,ry,a,v,ex,g,q2⟩=>?_);subst ex;obtain rfl:u=Value.ref a:=rx;exact⟨zlD I2 g,zoh hu I2 g ry fun w' s3 I3 rw'=>⟨v,H2,I3,rw',q2⟩⟩
def zu5 (hu:X.A.units+1<cLine)(hi:PE X i ty)(ho:PE X o td):PC X .In i o (zxN ty td):=by
 intro pins s U H Q I h;refine thn (hi pins s U H _ I h) fun iv s1 ⟨y,H1,I1,ry,q1⟩=>thn (ho pins s1 U H1 _ I1 q1) fun u s2 ⟨x,H2,I2,rx,a,ov,ex,g,q2⟩=>?_
 subst ex;obtain rfl:u=Value.ref a:=rx;exact zyf hu I2 g ry fun s3 I3=>⟨.bl ov.isSome,H2,I3,rfl,q2⟩
def zpj (hu:X.A.units+1<cLine)(hi:PE X i ty)(ho:PE X o td):PC X .NotIn i o (zsA ty td):=by
 intro pins s U H Q I h;refine thn (hi pins s U H _ I h) fun iv s1 ⟨y,H1,I1,ry,q1⟩=>thn (ho pins s1 U H1 _ I1 q1) fun u s2 ⟨x,H2,I2,rx,a,ov,ex,g,q2⟩=>?_
 subst ex;obtain rfl:u=Value.ref a:=rx;exact zsn hu I2 g ry fun s3 I3=>⟨.bl (!ov.isSome),H2,I3,rfl,q2⟩
def zsO (hu:X.A.units+1<cLine)(ho:PE X o td)(hi:PE X i ty)(hv:PE X value tv)(hs:swapsWith value (some (.Subscript o i pos')) pos.line X.env=pure false) :
  PS X (.Assign [.Subscript o i pos'] value pos) (zxC td ty tv):=by
 intro pins s U H D I h;refine wpAny_Assign_Subscript (thn (hv pins s U H _ I h) fun r s1 ⟨v,H1,I1,rv,q1⟩=>thn (ho pins s1 U H1 _ I1 q1) fun u s2 ⟨x,H2,I2,rx,q2⟩=>thn (hi pins s2 U H2 _ I2 q2) fun iv s3 ⟨y,H3,I3,ry,a,H4,ex,g,q3⟩=>?_) hs;subst ex;obtain rfl:u=Value.ref a:=rx;exact zoH hu I3 g ry rv fun s4 I4=>⟨U,H4,I4,q3⟩
end
def zkj {P:Program}{w:World}{H:Hp}(h:Heap)(hb:sysModules<h.objs.size):zaB P w H (h.push { cls:=.type "dict",data:=.dict #[] }) h.objs.size (.dK []) :=
 ⟨qP _,beq_eq_false_iff_ne.mpr (Ne.symm (qC hb)),[],.nil,Heap.DictOf.new h⟩
def zuk:TE:=fun _ H Q=>∀ p,H p=none->Q (.ref p) (upd H p (.dK []))
section
variable {X:Cx}{pos:Pos}
def zqQ:PE X (.Dict [] [] pos) zuk:=fun pins s U H Q I h =>
 wpAny_Dict_empty ⟨.ref s.heap.objs.size,_,I.laid (a:=s.heap.objs.size) (o:=.dK []) (t':=s.toks) (fun _ _ q=>qd _ q) (qe _) (zkj s.heap I.big),rfl,h _ (I.hok.fresh (qe _))⟩
end
def zkY:List (TE×TE)->St->Hp->(List (V×V)->Hp->Prop)->Prop
 |[],_,H,Q=>Q [] H
 |(tk,tv)::r,U,H,Q=>tk U H fun x H1=>tv U H1 fun y H2=>zkY r U H2 fun ps H3=>Q ((x,y)::ps) H3
abbrev VV:List (V×V)->List (Value×Value)->Prop:=Paired fun p q=>RelV p.1 q.1/\RelV p.2 q.2
def PPs (X:Cx)(pos:Pos)(keys:List (Option Expr))(values:List Expr)(trs:List (TE×TE)):Prop :=
 ∀ (pins:List (Addr×Obj)) (s:Shared) (U:St) (H:Hp) (Q:List (V×V)->Hp->Prop),Inv X pins U H s->zkY trs U H Q ->
  wpAny (model X.prog X.w) X.A (evalPairs (pairTrees keys values X.env pos)) (fun vs s'=>∃ ps H',Inv X pins U H' s'/\VV ps vs/\Q ps H') X.xe s
def zs7 {X:Cx}{pos:Pos}:PPs X pos [] [] []:=fun pins s U H Q I h=>pairTrees_nil_walk ⟨[],H,I,.nil,h⟩
def zpu {X:Cx}{pos:Pos}{k v:Expr}{ks:List (Option Expr)}{vs:List Expr}{tk tv:TE}{trs:List (TE×TE)}(hk:PE X k tk)(hv:PE X v tv)(hr:PPs X pos ks vs trs) :
  PPs X pos (some k::ks) (v::vs) ((tk,tv)::trs):=fun pins s U H Q I h =>
 pairTrees_cons_walk (thn (hk pins s U H _ I h) fun u s1 ⟨x,H1,I1,rx,q1⟩=>thn (hv pins s1 U H1 _ I1 q1) fun w2 s2 ⟨y,H2,I2,ry,q2⟩ =>
  thn (hr pins s2 U H2 _ I2 q2) fun ws s3 ⟨ps,H3,I3,rel,q3⟩=>⟨(x,y)::ps,H3,I3,.cons ⟨rx,ry⟩ rel,q3⟩)
def zfX (kvs more:List (Key×V)):List (Key×V):=more.foldl (fun acc kv=>putK acc kv.1 kv.2) kvs
def KV.merge:∀ {more:List (Key×V)} {rs:List (Key×Value)} {kvs:List (Key×V)} {vs:List (Key×Value)},KV more rs->KV kvs vs->KV (zfX kvs more) (merged vs rs):=by
 intro more rs kvs vs r;unfold KV at r
 induction r generalizing kvs vs with
 |nil=>intro q;exact q
 |@cons p q ps qs h t ih =>
  intro r0
  have e:KV (putK kvs p.1 p.2) (stored vs q.1 q.2):=by
   have:=r0.put p.1 h.2;rw[<- h.1];exact this
  exact ih e
theorem zfE:∀ (more kvs:List (Key×V)),(zfX kvs more).length<=kvs.length+more.length
 |[],kvs=>by show kvs.length<=kvs.length+0;lia
 |p::r,kvs=>by
  have h1:=zfE r (putK kvs p.1 p.2);have h2:=zeS kvs p.1 p.2;show(zfX (putK kvs p.1 p.2) r).length<=_;rw[qJ];lia
theorem zih {P:Program}{w:World}:∀ {kvs:List (Key×V)} {ws:List (Value×Value)},VV (kvs.map fun kv=>(kV kv.1,kv.2)) ws->∃ rs,Carries (zaH P w) ws rs/\KV kvs rs
 |[],_,r=>by rw[List.map_nil]at r;cases r;exact⟨[],True.intro,.nil⟩
 |p::kvs,_,r=>by
  rw[qI]at r;cases r with
  |@cons a b as bs h t =>
   obtain⟨rs,c,q⟩:=zih (P:=P) (w:=w) t;obtain⟨b1,b2⟩:=b;exact⟨(p.1,b2)::rs,⟨zfg h.1,rfl,c⟩,.cons ⟨rfl,h.2⟩ q⟩
def zwH (trs:List (TE×TE)):TE:=fun U H Q=>∀ p,H p=none->zkY trs U (upd H p (.dK [])) fun ps H2=>H2 p=some (.dK [])/\∃ kvs:List (Key×V),ps=kvs.map (fun kv=>(kV kv.1,kv.2))/\kvs.length<=15/\Q (.ref p) (upd H2 p (.dK (zfX [] kvs)))
def ztl {X:Cx}{pos:Pos}{keys:List (Option Expr)}{values:List Expr}{trs:List (TE×TE)}(h:PPs X pos keys values trs)(hall:keys.all (·.isSome)=true)(hl:keys.length=values.length)(h0:keys≠[])
  (h15:keys.length<=15):PE X (.Dict keys values pos) (zwH trs):=by
 intro pins s U H Q I q;have hn:=I.hok.fresh (qe s.heap.objs.size);have I1:=I.laid (a:=s.heap.objs.size) (o:=.dK []) (h':=s.heap.push { cls:=.type "dict",data:=.dict #[] }) (t':=s.toks) (fun _ _ q=>qd _ q) (qe _) (zkj s.heap I.big);refine wpAny_Dict_walk (knd:=zaH X.prog X.w) hall hl h0 h15 (thn (h pins _ U _ _ I1 (q _ hn)) fun ws s2 ⟨ps,H2,I2,rel,e,kvs,ep,lk,q2⟩=>?_);subst ep;obtain⟨rs,c,rk⟩:=zih (P:=X.prog) (w:=X.w) rel;obtain⟨z,hd,vs0,r0,dd⟩:=zjV I2.hok e;cases r0;refine⟨rs,c,dd,fun h' dd' hs=>⟨.ref s.heap.objs.size,_,?_,rfl,q2⟩⟩
 have hz:(zfX [] kvs).length<=sizeLine:=by
  have h1:=zfE kvs [];rw[List.length_nil]at h1;rw[sizeLine_eq];lia
 have he:∃ q,h'.get? s.heap.objs.size=some q:=let ⟨q,_,_,hq,_⟩:=dd';⟨q,hq⟩;exact zgy I2 (by rw[e];exact True.intro) hs he (zkM hz hd (rk.merge .nil) dd')
structure M1 (X:Cx)(o:Expr)(m:Str)(apos:Pos)(e:Expr)(cpos:Pos):Prop where
 base:attributeBase o m X.env (eval o X.env)=eval o X.env
 few:((backTo cpos (starEach [e] X.env)).all (fun x=>!x.1)&&(backToKw cpos (keywordEach [] X.env)).all (fun x=>x.1.isSome)
 &&decide (([e]:List Expr).length+([]:List Keyword).length+(if([]:List Keyword).isEmpty then 0 else 1)<30))=true
 line:(apos.endLine==cpos.line)=true
 trees:backTo cpos (starEach [e] X.env)=[(false,eval e X.env)]
def IsD (H:Hp)(a:Addr):Prop:=(∃ kvs,Rd H a (.dK kvs))\/∃ kvs,Rd H a (.dT kvs)
def zvD {X:Cx}{pins:List (Addr×Obj)}{U:St}{H:Hp}{s:Shared}{a:Addr}(I:Inv X pins U H s)(d:IsD H a) :
  s.TypeIs (.ref a) "dict"/\(∀ b,Value.ref a=.ref b->∃ ob,s.heap.get? b=some ob/\ob.dict=none)/\(a==sysModules)=false:=by
 rcases d with⟨kvs,e⟩|⟨kvs,e⟩
 ·obtain⟨_,hd,vs,_,dd⟩:=zfd I.hok e;refine⟨dd.typeIs,fun b q=>?_,hd⟩;cases q;obtain⟨ob,_,_,h1,h2,_⟩:=dd;exact⟨ob,h1,h2.2.1⟩
 ·obtain⟨_,hd,xs,_,dd⟩:=zgN I.hok e;refine⟨dd.typeIs,fun b q=>?_,hd⟩;cases q;obtain⟨ob,_,_,h1,h2,_⟩:=dd;exact⟨ob,h1,h2.2.1⟩
section
variable {X:Cx}{pins:List (Addr×Obj)}{U:St}{H:Hp}{s:Shared}{a:Addr}{y d:V}{u r:Value}{o:Option V}{A:Around}{E:Value->Shared->Prop}
end
def zuq (td ty:TE):TE:=fun U H Q=>td U H fun x H1=>∃ a,x=.ref a/\IsD H1 a/\ty U H1 fun y H2=>∃ kvs k v,H2 a=some (.dK kvs)/\y=kV k/\zb2 kvs k=some v/\Q v (upd H2 a (.dK (zeD kvs k)))
section
variable {X:Cx}{o e f:Expr}{apos cpos:Pos}{td ty tx:TE}
def zqp (ho:PE X o td)(he:PE X e ty)(m:M1 X o "pop" apos e cpos):PE X (.Call (.Attribute o "pop" apos) [e] [] cpos) (zuq td ty):=by
 intro pins s U H Q I h;refine wpAny_Call_method m.base m.few m.line PySem.F.plainAttrs_dict PySem.F.slot_dict_pop PySem.F.type_dict_pop (thn (ho pins s U H _ I h) fun u s1 ⟨x,H1,I1,rx,a,ex,d,q1⟩=>?_);subst ex;obtain rfl:u=Value.ref a:=rx;obtain⟨t1,t2,_⟩:=zvD I1 d;refine⟨t1,t2,?_⟩;rw[m.trees];refine Calls.callWith_builtin rfl (Calls.evalArgs_plain (Calls.spliced_cons (thn (he pins s1 U H1 _ I1 q1) fun iv s2 ⟨y,H2,I2,ry,kvs,k,v,ea,ey,l,q2⟩=>Calls.spliced_nil ?_)));subst ey;exact zwO I2 ea ry l (.inl rfl) fun w' s3 I3 rw'=>⟨v,_,I3,rw',q2⟩
end
section
variable {X:Cx}{pins:List (Addr×Obj)}{U:St}{H:Hp}{s:Shared}{a:Addr}{kvs:List (Key×V)}{A:Around}{E:Value->Shared->Prop}
end
section
variable {X:Cx}{pins:List (Addr×Obj)}{U:St}{H:Hp}{s:Shared}{a:Addr}{y:V}{u:Value}{A:Around}{E:Value->Shared->Prop}
end
end L2
namespace My
def Bd (n:Nat)(x:Int):Prop:=x.natAbs<2 ^ n
def Bd.mono {m n:Nat}{x:Int}(h:Bd m x)(hmn:m<=n):Bd n x:=qr h (Nat.pow_le_pow_right (by decide) hmn)
def Bd.add {n:Nat}{x y:Int}(h:Bd n x)(h':Bd n y):Bd (n+1) (x+y):=by
 unfold Bd at *;rw[Nat.pow_succ];lia
def Bd.sub {n:Nat}{x y:Int}(h:Bd n x)(h':Bd n y):Bd (n+1) (x-y):=by
 unfold Bd at *;rw[Nat.pow_succ];lia
def Bd.neg {n:Nat}{x:Int}(h:Bd n x):Bd n (-x):=by unfold Bd at *;lia
def Bd.mul {m n:Nat}{x y:Int}(h:Bd m x)(h':Bd n y):Bd (m+n) (x*y):=by
 unfold Bd at *;rw[Int.natAbs_mul,Nat.pow_add];exact Nat.mul_lt_mul'' h h'
def Bd.of_le {n:Nat}{x y:Int}(h:Bd n y)(h':x.natAbs<=y.natAbs):Bd n x:=Nat.lt_of_le_of_lt h' h
def Bd.dvd {n:Nat}{x y:Int}(h:Bd n y)(h0:y≠0)(d:x ∣ y):Bd n x :=
 h.of_le (Nat.le_of_dvd (by lia) (Int.natAbs_dvd_natAbs.mpr d))
theorem Bd.fdiv {n:Nat}{x y:Int}(h:Bd n x):Bd n (x.fdiv y):=h.of_le (Int.natAbs_fdiv_le_natAbs x y)
def Bd.lit {n:Nat}{x:Int}(h:x.natAbs<2 ^ 200)(hn:200<=n):Bd n x:=Bd.mono (m:=200) h hn
def zro (a b:Int):Int.gcd b (a.fmod b)=Int.gcd a b:=by
 have e:a.fmod b=a-b*a.fdiv b:=by have:=Int.mul_fdiv_add_fmod a b;lia
 rw[e,Int.gcd_sub_mul_left_right,Int.gcd_comm]
def zlI {a b:Int}(h:b≠0):(a.fmod b).natAbs<b.natAbs:=by
 rcases Int.lt_or_gt_of_ne h with h1|h1
 ·have e:(-(-a)).fmod (-(-b))=-((-a).fmod (-b)):=Int.neg_fmod_neg (-a) (-b);rw[Int.neg_neg,Int.neg_neg]at e;have h2:=Int.fmod_nonneg_of_pos (-a) (b:=-b) (by lia);have h3:=Int.fmod_lt_of_pos (-a) (b:=-b) (by lia);lia
 ·have:=Int.fmod_nonneg_of_pos a h1;have:=Int.fmod_lt_of_pos a h1;lia
def gd (t b:Int):Int:=if b<0 then -((Int.gcd t b:Nat):Int)else((Int.gcd t b:Nat):Int)
def frT (t b:Int):Int:=t.fdiv (gd t b)
def frB (t b:Int):Int:=b.fdiv (gd t b)
def zrJ {t b:Int}(h:b≠0):gd t b≠0:=by
  have:Int.gcd t b≠0:=fun e=>h (Int.gcd_eq_zero_iff.mp e).2
  unfold gd;split<;>lia
def zlR (t b:Int):gd t b ∣ t:=by
 unfold gd;split
 ·exact Int.neg_dvd.mpr (Int.gcd_dvd_left ..)
 ·exact Int.gcd_dvd_left ..
def zf0 (t b:Int):gd t b ∣ b:=by
 unfold gd;split
 ·exact Int.neg_dvd.mpr (Int.gcd_dvd_right ..)
 ·exact Int.gcd_dvd_right ..
def zmF (t b:Int):frT t b*gd t b=t:=Int.fdiv_mul_cancel (zlR t b)
def ziP (t b:Int):frB t b*gd t b=b:=Int.fdiv_mul_cancel (zf0 t b)
def zrl (t b:Int):frT t b*b=frB t b*t:=by
 have h1:=zmF t b;have h2:=ziP t b;generalize frT t b=x at *;generalize frB t b=y at *;generalize gd t b=g at *;subst h1 h2;rw[Int.mul_comm y g,<- Int.mul_assoc,Int.mul_comm (x*g) y]
def zsU {t b:Int}(h:b≠0):1<=frB t b:=by
  have h2:=ziP t b;have h3:gd t b≠0:=zrJ h
  have h4:0<b->0<gd t b:=by
    intro hb;unfold gd at *;split<;>lia
  have h5:b<0->gd t b<0:=by
    intro hb;unfold gd at *;split<;>lia
  generalize frB t b=y at *;generalize gd t b=g at *;rcases Int.lt_or_gt_of_ne h with hb|hb
  . have hg:=h5 hb;rcases Int.lt_or_le y 1 with hy|hy
    . have:0<=y*g:=Int.mul_nonneg_of_nonpos_of_nonpos (by lia) (by lia);lia
    . exact hy
  . have hg:=h4 hb;rcases Int.lt_or_le y 1 with hy|hy
    . have:y*g<=0:=Int.mul_nonpos_of_nonpos_of_nonneg (by lia) (by lia);lia
    . exact hy
def zuC {t b:Int}(h:b≠0):Int.gcd (frT t b) (frB t b)=1:=by
  have h0:0<Int.gcd t b:=Nat.pos_of_ne_zero fun e=>h (Int.gcd_eq_zero_iff.mp e).2
  have h1:=zmF t b;have h2:=ziP t b;have e:Int.gcd (frT t b*gd t b) (frB t b*gd t b)=Int.gcd (frT t b) (frB t b)*(gd t b).natAbs:=Int.gcd_mul_right ..;rw[h1,h2]at e;have e2:(gd t b).natAbs=Int.gcd t b:=by unfold gd;split<;>lia
  rw[e2]at e;exact Nat.eq_of_mul_eq_mul_right h0 (by lia)
def zv1 {n:Nat}{t b:Int}(h:b≠0)(hb:Bd n b):Bd n (gd t b):=hb.dvd h (zf0 t b)
def zvC {n:Nat}{t b:Int}(hb:Bd n b):Bd n (frB t b):=hb.fdiv
def zvq {n:Nat}{t b:Int}(hb:Bd n t):Bd n (frT t b):=hb.fdiv
open PySem PySem.Spec PyProof.Rows L2
def zxk (_ j:Int):Prop:=j≠0/\Bd 8000 j
def zv2 (_ j:Int):Prop:=j≠0
def ziF {j:Int}(h:Bd 8000 j):j.natAbs.log2<9000:=by
 rcases Nat.eq_zero_or_pos j.natAbs with e|e
 ·rw[e];decide
 ·have:j.natAbs.log2<8000:=(Nat.log2_lt (qaj e)).mpr h;lia
def zh6 {j:Int}(h:Bd 8000 j):Builtin.Int.intBits j<=2 ^ 20:=by
 unfold Builtin.Int.intBits;split
 ·exact qP _
 ·have:=ziF h;lia
section
variable {X:Cx}
def zpF:OpR X (binaryOp .FloorDiv) (rI zxk fun i j=>.int (i.fdiv j)):=opI fun _ _ _ _ _ _ _ hc q=>floordiv_int hc.1 q (.inl (PyProof.noPylong_of_log2 (ziF hc.2)))
def ztd:OpR X (binaryOp .Mod) (rI zv2 fun i j=>.int (i.fmod j)):=zsY
def rB0 (g:Bool->Bool->V):R2:=fun x y H Q=>∃ i j,x=.bl i/\y=.bl j/\Q (g i j) H
def ztG {i j:Int}{a b:Nat}{p1 p2 pos:Pos}(c:Int)(h:i ^ j.toNat=c)(h0:0<=j/\j<=1000000/\i.natAbs<2 ^ 64):PE X (.BinOp (.Constant (.int i) a p1) .Pow (.Constant (.int j) b p2) pos) (tC (.int c)):=by
 intro pins s U H Q I q;have q':Q (.int c) H:=q;rw[<- h]at q';exact zrM zvP zkF zkF pins s U H Q I ⟨i,j,rfl,rfl,h0,q'⟩
def zxV:List V->Hp->VK->Prop:=fun xs H Q=>∃ i,xs=[.int i]/\Q (.int (i.natAbs:Int)) H
def zoC:zaE X (.builtin "abs") zxV:=fun pins s U H xs us Q I r h=>by
  obtain⟨i,e,q⟩:=h;refine zqz pins s U H xs us Q I r ⟨i,e,?_⟩;have:(if i<0 then -i else i)=(i.natAbs:Int):=by split<;>lia
  rw[this];exact q
def zxW (K:PySem.W.Frag):List V->Hp->VK->Prop:=fun xs H Q=>∃ p ys,xs=[.ref p]/\(SqL K H p ys\/SqT K H p ys)/\Q (.int ys.length) H
def zoE:zaE X (.builtin "len") (zxW X.K):=zkl
def zxi (K:PySem.W.Frag):List V->Hp->VK->Prop:=fun xs H Q=>∃ p ys,xs=[.ref p]/\(SqL K H p ys\/SqT K H p ys)/\∀ l,H l=none->Q (.ref l) (upd H l (.lst ys))
def zmG:zaE X (.type "list") (zxi X.K):=zkw
def zx8:List V->Hp->VK->Prop:=fun xs H Q=>∃ i j,xs=[.int i,.int j]/\Q (.int (if j > i then j else i)) H
def zou (hc:X.calm=true):zaE X (.builtin "max") zx8:=zpf hc
def zxU:List V->Hp->VK->Prop:=fun xs H Q=>∃ i j,xs=[.int i,.int j]/\Q (.int (if j<i then j else i)) H
def zoL (hc:X.calm=true):zaE X (.builtin "min") zxU:=znT hc
def zxe {x:Str}{T:String}{pos:Pos}(hg:Gl X x)(hm:X.mg x=none)(hv:bootBuiltins x=some (.type T))(hn:x≠"__name__":=by decide)(hd:(x==("__debug__":Str))=false:=by decide):PE X (.Name x pos) (tC (.ty T)):=zsu (v:=.ty T) hg hm hv rfl hn hd
def zxX (K:PySem.W.Frag):List V->Hp->VK->Prop:=fun xs H Q=>∃ x c t b,xs=[x,.ty c]/\zdk K H x t/\PySem.W.kitOne K t (.type c)=some b/\Q (.bl b) H
def zre:zaE X (.builtin "isinstance") (zxX X.K):=fun pins s U H xs us Q I r h=>by
 obtain⟨x,c,t,b,rfl,ty,e,q⟩:=h;obtain⟨u,w',rfl,ru,rw'⟩:=vals2 r;cases rw';exact zoW I ru ty e fun tk=>⟨.bl b,H,I.tok _,rfl,q⟩
end
section
variable {X:Cx}{K:PySem.W.Frag}
end
structure Got (P:Program)(w:World)(K:PySem.W.Frag)(mg:Str->Option Value)(base:Heap)(k:Nat)(x:Str)(ps:List Str)(sp:Sp):Prop where
 ex:∃ f fd,zP P w K mg base CX0 k f fd ps sp/\Binds K fd ps []/\PySem.W.keepIn K (.ref f)=true/\mg x=some (.ref f)
def zvI {X:Cx}{k j:Nat}{x:Str}{ps:List Str}{sp:Sp}{p pos:Pos}{e:Expr}{es:List Expr}{t:TA}(G:Got X.prog X.w X.K X.mg X.base k x ps sp)(hr:zaf j X.A)(hk:k<=j)(hg:Gl X x)
  (ha:PA X (e::es) t) (hdb:(x==("__debug__":Str))=false:=by decide) (he:starEach (e::es) X.env=(false,eval e X.env)::starEach es X.env:=by rfl) (hpl:(backTo pos (starEach es X.env)).any (·.1)=false:=by rfl) :
  PE X (.Call (.Name x p) (e::es) [] pos) (zne sp [] E0 t):=by
 intro pins s U H Q I h;obtain⟨f,fd,F,b,kp,m⟩:=G.ex;exact ztF (F.mono hk) hr hg m kp b .nil zrq ha hdb he hpl pins s U H Q I h
section
variable {nx:L2.St->Hp->Prop}{rt:VK}{bk ct:L2.St->Hp->Prop}{U:L2.St}{H:Hp}{K:PySem.W.Frag}
end
section
variable {U:L2.St}{H:Hp}{K:PySem.W.Frag}
def zyd:R2:=fun x y H Q=>y=.non/\Q (.bl (decide (x=.non))) H
def zwL:R2:=fun x y H Q=>y=.non/\Q (.bl (!decide (x=.non))) H
def zw2 {X:Cx}:OpR X (compareOp .Is) zyd:=zuW
def zuV {X:Cx}:OpR X (compareOp .IsNot) zwL:=zsV
end
def zdH {H:Hp}{p b:Addr}{o u:HO}(hp:H p=none)(h:H b=some u):upd H p o b=some u:=by
 rw[zL (zbi h hp)];exact h
theorem zlz {prog:Program}{w:World}{A:Around}{R:Result->Shared->Prop}{s:Shared}{elt target iter:Expr}{ifs:List Expr}{scope:Scope}{pos:Pos}{it acc:Value}{env:Env}(I:Nat->Shared->Prop)
  (turn:∀ n s,I n s->wpAny (model prog w) A (pyNext it) (fun r s₁=>match r with
   |none=>R (.ok .next) s₁
   |some v=>wpAny (model prog w) A (letOwnedTupleGo target it v) (fun _ s₁'=>wpAny (model prog w) A (assign target env v) (fun _ s₂ =>
     wpAny (model prog w) A (forIn ifs true fun c r=>if r=true then do let ok <- isTrue c env (eval c env);pure (ForInStep.yield ok)else pure (ForInStep.yield r)) (fun ok s₃ =>
      if ok=true then wpAny (model prog w) A (eval elt env) (fun x s₄ =>
       wpAny (model prog w) A (call (.builtin "list.append") [acc,x]) (fun _ s₅=>∃ m,m<n/\I m s₅) (fun _ _=>False) s₄) (fun _ _=>False) s₃
      else ∃ m,m<n/\I m s₃) (fun _ _=>False) s₂) (fun _ _=>False) s₁') (fun _ _=>False) s₁) (fun _ _=>False) s)
  (n:Nat) (h:I n s):codeAny (model prog w) A (.compLoop (.ListComp elt [⟨target,iter,ifs,0⟩] scope pos) 0 it acc env) R s:=by
 refine codeAny_loop rfl I (fun n s hI=>?_) n h;show wpAny _ A ((compTurn (.ListComp elt [⟨target,iter,ifs,0⟩] scope pos) 0 it acc env).onRaise (fun x=>do noteFrame x env;theTreesLotGoes x)) _ _ s;refine wpAny_noted ?_;rw[compTurn_list];refine wpAny_bind (wpAny_standAt (wpAny_bind (wpAny_mono (turn n s hI) (fun r s₁ h₁=>?_) fun _ _ h'=>h'.elim)));cases r with
 |none=>exact wpAny_pure h₁
 |some v =>
  refine wpAny_bind (wpAny_mono h₁ (fun _ s₁' h₁'=>?_) fun _ _ h'=>h'.elim);refine wpAny_bind (wpAny_mono h₁' (fun _ s₂ h₂=>wpAny_bind (wpAny_mono h₂ (fun ok s₃ h₃=>?_) fun _ _ h'=>h'.elim)) fun _ _ h'=>h'.elim);cases ok with
  |false=>exact wpAny_pure ⟨rfl,h₃⟩
  |true =>
   exact wpAny_bind (wpAny_bind (wpAny_mono h₃ (fun x s₄ h₄=>wpAny_bind (wpAny_mono h₄ (fun _ s₅ h₅=>wpAny_pure (wpAny_pure ⟨rfl,h₅⟩)) fun _ _ h'=>h'.elim)) fun _ _ h'=>h'.elim))
def inner (X:Cx)(sc:Scope)(N:List Str)(cl:List (Str×Addr))(C:Addr)(s₀:Shared)(H₀:Hp)(ex:List Addr):Cx :=
  { X with N:=N,s₀:=s₀,H₀:=H₀,env:=compEnvC sc cl C X.env,outer:=X.stack,ex:=ex,fn:=fun x=>sc.names.lookup x==some .cell,pn:=[] }
def PFs (X:Cx)(ifs:List Expr)(t:TT):Prop :=
 ∀ (pins:List (Addr×Obj)) (s:Shared) (U:L2.St) (H:Hp) (Q:Bool->Hp->Prop),Inv X pins U H s->t U H Q ->
  wpAny (model X.prog X.w) X.A (forIn ifs true fun c r=>if r=true then do let ok <- isTrue c X.env (eval c X.env);pure (ForInStep.yield ok)else pure (ForInStep.yield r)) (TP X pins U Q) X.xe s
def zvV:TT:=fun _ H Q=>Q true H
def ztP {X:Cx}:PFs X [] zvV:=fun _ _ _ H _ I h=>wpAny_tests_nil ⟨H,I,h⟩
def ztS {X:Cx}{c:Expr}{t:TT}(h:PT X c t):PFs X [c] t:=fun pins s U H Q I q=>wpAny_tests_one (h pins s U H Q I q)
def zeP (X:Cx)(sc:Scope):List Str->List Nat->Prop
 |[],[]=>True
 |x::xs,j::js=>X.N[j]?=some x/\sc.names.lookup x=some .free/\X.env.kindOf x=some .cell/\zeP X sc xs js
 |_,_=>False
def zc5 (P:Str->Prop):List (Str×NameKind)->Prop
 |[]=>True
 |(n,.free)::r=>P n/\zc5 P r
 |_::r=>zc5 P r
theorem zc5.of {P:Str->Prop}:∀ {l:List (Str×NameKind)},zc5 P l->∀ y∈l,y.2=.free->P y.1
  |(n,k)::r,h,y,hy,e=>by
    rcases qg.mp hy with rfl|hy
    . dsimp only at e;subst e;exact h.1
    . refine zc5.of (l:=r) ?_ y hy e;cases k<;>first|exact h.2|exact h
def cst (own:List Str)(fv:List Nat)(U:L2.St):L2.St:=List.replicate own.length none++fv.map fun j=>(U[j]?).join
def Agr:L2.St->L2.St->Prop
 |[],[]=>True
 |none::r,_::s=>Agr r s
 |some v::r,some w::s=>v=w/\Agr r s
 |_,_=>False
theorem Agr.len:∀ {a b:L2.St},Agr a b->b.length=a.length
  |[],[],_=>rfl
  |none::r,_::s,h=>congrArg (· + 1) (Agr.len (a:=r) (b:=s) h)
  |some v::r,some w::s,h=>congrArg (· + 1) (Agr.len (a:=r) (b:=s) h.2)
theorem Agr.get:∀ {a b:L2.St},Agr a b->∀ (i:Nat) (v:V),a[i]?=some (some v)->b[i]?=some (some v)
 |none::r,_::s,h,i,v,e=>by
  cases i with
  |zero=>simp at e
  |succ i=>simpa using Agr.get (a:=r) (b:=s) h i v (by simpa using e)
 |some v'::r,some w::s,h,i,v,e=>by
  cases i with
  |zero=>simp at e;subst e;simp[h.1]
  |succ i=>simpa using Agr.get (a:=r) (b:=s) h.2 i v (by simpa using e)
def tLC (own:List Str)(fv:List Nat)(wi:TI)(g:TG)(tc:TT)(te:TE):TE:=fun U H Q=>wi U H fun J H1=>∀ p,H1 p=none ->
 ∃ W:Nat->Nat->Hp->Prop,(∃ m,W 0 m (upd H1 p (.lst [])))/\∀ i m H2,W i m H2 ->
  (J.stop i H2/\Q (.ref p) H2)\/(J.go i H2/\∀ x H',J.yld i H2 x H'->g x (cst own fv U) H' fun σ2 H3=>Agr (cst own fv U) σ2/\tc σ2 H3 fun b H4 =>
   if b=true then te σ2 H4 fun y H5=>∃ ys,H5 p=some (.lst ys)/\ys.length<sizeLine/\∃ m',m'<m/\W (i+1) m' (upd H5 p (.lst (ys++[y])))
   else ∃ m',m'<m/\W (i+1) m' H4)
def zlU {env:Env}{n:Str}{c:Addr}(h:env.cells.lookup n=some c):cellOf env n=pure c:=by
 unfold cellOf;rw[h]
theorem zfe {env:Env}:∀ (names:List (Str×NameKind)) (cs:List (Str×Addr)),(∀ y∈names,y.2=.free->∃ c,env.cells.lookup y.1=some c)->(∀ x c,cs.lookup x=some c->env.cells.lookup x=some c) ->
    ∃ cl,(forIn names cs fun (x:Str×NameKind) (r:List (Str×Addr))=>if(x.2==NameKind.free)=true then do let a <- cellOf env x.1;pure (ForInStep.yield ((x.1,a)::r))else pure (ForInStep.yield r))=(pure cl:Sem (List (Str×Addr))) /\
      (∀ x c,cl.lookup x=some c->env.cells.lookup x=some c)/\(∀ x,(cs.lookup x).isSome=true->(cl.lookup x).isSome=true)/\∀ y∈names,y.2=.free->(cl.lookup y.1).isSome=true
  |[],cs,_,h2=>⟨cs,rfl,h2,fun _ h=>h,fun _ h=>nomatch h⟩
  |(n,k)::r,cs,h1,h2=>by
    rw[List.forIn_cons];by_cases hk:k=.free
    . subst hk;obtain⟨c,hc⟩:=h1 (n,.free) List.mem_cons_self rfl
      obtain⟨cl,e,a1,a2,a3⟩:=zfe (env:=env) r ((n,c)::cs) (fun y hy=>h1 y (qq _ hy)) (fun x d hx=>by
        rw[ql]at hx;by_cases hxn:x=n
        . subst hxn;simp at hx;subst hx;exact hc
        . have:(x==n)=false:=by simpa using hxn
          rw[this]at hx;exact h2 x d hx)
      refine⟨cl,?_,a1,fun x hx=>a2 x ?_,fun y hy e'=>?_⟩
      . simp only[beq_self_eq_true,if_true,zlU hc];simpa using e
      . rw[ql];split<;>simp_all
      . rcases qg.mp hy with rfl|hy
        . exact a2 _ (by simp[ql])
        . exact a3 y hy e'
    . have hb:(k==NameKind.free)=false:=by simpa using hk
      obtain⟨cl,e,a1,a2,a3⟩:=zfe (env:=env) r cs (fun y hy=>h1 y (qq _ hy)) h2;refine⟨cl,?_,a1,a2,fun y hy e'=>?_⟩
      . simp only[hb,Bool.false_eq_true,if_false];simpa using e
      . rcases qg.mp hy with rfl|hy
        . exact absurd e' hk
        . exact a3 y hy e'
def zfx {env:Env}{sc:Scope}(h:∀ y∈sc.names,y.2=.free->∃ c,env.cells.lookup y.1=some c) :
  ∃ cl,closureFor sc env=pure cl/\(∀ x c,cl.lookup x=some c->env.cells.lookup x=some c)/\∀ y∈sc.names,y.2=.free->(cl.lookup y.1).isSome=true:=by
 obtain⟨cl,e,a1,_,a3⟩:=zfe (env:=env) sc.names [] h (fun x c hx=>by simp at hx);refine⟨cl,?_,a1,a3⟩;unfold closureFor;have e2:=e
 first
  |exact e2
  |(show(do let cs <- forIn sc.names [] _;pure cs)=_;rw[show(forIn sc.names [] _:Sem (List (Str×Addr)))=pure cl from e2];rfl)
  |simpa using e2
theorem zdw {env:Env}{x:Str}:∀ {names:List (Str×NameKind)},(names.map fun (n,k)=>if(k==NameKind.free&&env.scope.kind==.function&&env.kindOf n==some .cell)then(n,NameKind.cell)else(n,k)).lookup x =
    (names.lookup x).map fun k=>if(k==NameKind.free&&env.scope.kind==.function&&env.kindOf x==some .cell)then NameKind.cell else k
  |[]=>rfl
  |(n,k)::r=>by
    have ih:=zdw (env:=env) (x:=x) (names:=r);rw[qI];by_cases hx:x=n
    . subst hx;dsimp only;split<;>simp_all [ql]
    . have hb:(x==n)=false:=by simpa using hx
      dsimp only;split<;>(rw[ql,ql,hb];exact ih)
theorem mem_of_lookup {β:Type}{x:Str}{k:β}:∀ {l:List (Str×β)},l.lookup x=some k->(x,k)∈l
 |(n,b)::r,h=>by
  rw[ql]at h;by_cases hx:x=n
  ·subst hx;simp at h;subst h;exact List.mem_cons_self
  ·have hb:(x==n)=false:=by simpa using hx
   rw[hb]at h;exact qq _ (mem_of_lookup h)
theorem zbf:∀ (names:List (Str×NameKind)) (n:Nat) (acc:List (Str×Addr)),cellsFrom n names acc=cellsFrom n names []++acc
 |[],_,_=>rfl
 |(x,k)::r,n,acc=>by
  unfold cellsFrom;split
  ·rw[zbf r (n+1) ((x,n)::acc),zbf r (n+1) [(x,n)],qh];rfl
  ·exact zbf r n acc
theorem zd1:∀ {names:List (Str×NameKind)} {n:Nat} {x:Str} {c:Addr},(x,c)∈cellsFrom n names []->(x,NameKind.cell)∈names
 |(y,k)::r,n,x,c,h=>by
  unfold cellsFrom at h;split at h
  ·rename_i hk;rw[zbf]at h;rcases qF.mp h with h|h
   ·exact qq _ (zd1 h)
   ·have e:(x,c)=(y,n):=by simpa using h
    cases e;rw[show k=NameKind.cell by simpa using hk];exact List.mem_cons_self
  ·exact qq _ (zd1 h)
theorem zdY:∀ {names:List (Str×NameKind)} {n:Nat} {x:Str},(x,NameKind.cell)∈names->((cellsFrom n names []).lookup x).isSome=true
 |(y,k)::r,n,x,h=>by
  unfold cellsFrom;rcases qg.mp h with e|h
  ·cases e;rw[if_pos (by rfl),zbf,List.lookup_append];cases(cellsFrom (n+1) r []).lookup y with
   |some c=>rfl
   |none=>simp
  ·have ih:=zdY (n:=n) h;have ih':=zdY (n:=n+1) h;split
   ·rw[zbf,List.lookup_append];obtain⟨c,hc⟩:=qaa.mp ih';rw[hc];rfl
   ·exact ih
def zmL {M:Model}{A:Around}{E:Value->Shared->Prop}{s:Shared}{scope:Scope}{globals:Addr}{closure:List (Str×Addr)}{qual:Str}{func:Option Addr}{code:Value}{env:Env}{Q:Env->Shared->Prop}
    (hQ:Q (newEnv scope s.heap.objs.size globals (cellsFrom (s.heap.objs.size+1) scope.names closure) qual func code (some env) builtinsNs) { s with heap:=pushCells (s.heap.push { cls:=.type "dict",data:=.dict #[] }) scope.names }) :
    wpAny M A (newFunctionEnv scope globals closure [] qual func code (some env)) Q E s:=by
  simp only[newFunctionEnv,Option.isSome_some,if_true];refine wpAny_bind (wpAny_alloc ?_);refine wpAny_bind (wpAny_layCells _ (fun name kind cells=>by cases hkc:kind==NameKind.cell<;>simp[hkc]) _ _ _ _ ?_);rw[show({ s with heap:=s.heap.push { cls:=.type "dict",data:=.dict #[] } }:Shared).heap.objs.size=s.heap.objs.size+1 from qY ..];rw[List.forIn_nil];exact wpAny_bind (wpAny_pure (wpAny_pure hQ))
section
variable {X:Cx}{sc:Scope}{tg iter elt:Expr}{ifs:List Expr}{own free:List Str}{fv:List Nat}{wi:TI}{g:TG}{tc:TT}{te:TE}{pos:Pos}
theorem znl {U:L2.St}:∀ {free:List Str} {fv:List Nat},zeP X sc free fv->∀ (k:Nat) (x:Str) (v:V),free[k]?=some x->(fv.map fun j=>(U[j]?).join)[k]?=some (some v) ->
  ∃ j:Nat,X.N[j]?=some x/\U[j]?=some (some v)/\sc.names.lookup x=some .free/\X.env.kindOf x=some .cell
 |x'::xs,j::js,h,k,x,v,e1,e2=>by
  cases k with
  |zero =>
   simp at e1 e2;subst e1;refine⟨j,h.1,?_,h.2.1,h.2.2.1⟩;cases q:U[j]? with
   |none=>rw[q]at e2;simp at e2
   |some o=>rw[q]at e2;simp at e2;rw[e2]
  |succ k=>exact znl (free:=xs) (fv:=js) h.2.2.2 k x v (by simpa using e1) (by simpa using e2)
 |[],[],_,k,x,v,e1,_=>by simp at e1
theorem zkp:∀ {free:List Str} {fv:List Nat},zeP X sc free fv->fv.length=free.length
  |[],[],_=>rfl
  |_::_,_::_,h=>congrArg (· + 1) (zkp h.2.2.2)
def zii {RR:Value->Addr->Result->Shared->Prop}(hcalm:X.calm=true)(hxe:X.xe=fun _ _=>False)(hkind:sc.kind=.function)(hcell:∀ y∈sc.names,y.2=.cell->sc.names.lookup y.1=some .cell)
    (hfr:zc5 (fun x=>X.env.kindOf x=some .cell) sc.names) (hfv:zeP X sc free fv)
    (hg:∀ cl C s₀ H₀ ex,PG (inner X sc (own++free) cl C s₀ H₀ ex) tg g) (ht:∀ cl C s₀ H₀ ex,PFs (inner X sc (own++free) cl C s₀ H₀ ex) ifs tc) (he:∀ cl C s₀ H₀ ex,PE (inner X sc (own++free) cl C s₀ H₀ ex) elt te)
    {pins:List (Addr×Obj)} {s2:Shared} {U:L2.St} {H2:Hp} {it:Addr} {fp:List Addr} {tn:Nat->Heap->Prop} {J:It} {Q:VK} (I2:Inv X pins U H2 s2) (T:Turn X.prog X.w X.K tg J fp it tn) (st2:tn 0 s2.heap) (f2:∀ b∈fp,zeA X pins H2 b)
    (h:∀ p,H2 p=none->∃ W:Nat->Nat->Hp->Prop,(∃ m,W 0 m (upd H2 p (.lst [])))/\∀ i m H2,W i m H2 ->
      (J.stop i H2/\Q (.ref p) H2)\/(J.go i H2/\∀ x H',J.yld i H2 x H'->g x (cst own fv U) H' fun σ2 H3=>Agr (cst own fv U) σ2/\tc σ2 H3 fun b H4 =>
        if b=true then te σ2 H4 fun y H5=>∃ ys,H5 p=some (.lst ys)/\ys.length<sizeLine/\∃ m',m'<m/\W (i+1) m' (upd H5 p (.lst (ys++[y])))
        else ∃ m',m'<m/\W (i+1) m' H4))
    {cl:List (Str×Addr)} (hcl1:∀ x c,cl.lookup x=some c->X.env.cells.lookup x=some c) (hcl2:∀ y∈sc.names,y.2=.free->(cl.lookup y.1).isSome=true)
    (hRR:∀ (p C:Addr) (m:Str->Option Value) (H':Hp) (s':Shared),s'.heap.Ns C m->Inv X pins U H' s'->H' C=none->C≠X.env.locals->X.s₀.heap.objs.size<=C->(∀ x c,X.env.cells.lookup x=some c->c≠C)->(∀ q∈X.pn++pins,q.1≠C)->Q (.ref p) H' ->
      RR (.ref p) C (.ok .next) s') :
    wpAny (model X.prog X.w) X.A (newList []) (fun acc s3=>wpAny (model X.prog X.w) X.A (newFunctionEnv sc X.env.globals cl [] X.env.qual none .none (some X.env)) (fun cenv s4 =>
      codeAny (model X.prog X.w) X.A (.compStart (.ListComp elt [⟨tg,iter,ifs,0⟩] sc pos) 0 (.ref it) acc { cenv with scope:=relabel sc X.env }) (RR acc cenv.locals) s4) X.xe s3) X.xe s2:=by
  rw[hxe];refine wpAny_newObj_type ?_;have I3:Inv X pins U (upd H2 s2.heap.objs.size (.lst [])) { s2 with heap:=s2.heap.push { cls:=.type "list",data:=.seq ([]:List Value).toArray } }:=I2.lnew (t':=s2.toks) .nil (qP _);generalize hs3:({ s2 with heap:=s2.heap.push { cls:=.type "list",data:=.seq ([]:List Value).toArray } }:Shared)=s3 at I3 ⊢;have hp:H2 s2.heap.objs.size=none:=I2.fresh;obtain⟨W,⟨m0,w0⟩,turn⟩:=h s2.heap.objs.size hp;generalize hH3:upd H2 s2.heap.objs.size (.lst [])=H3 at I3 w0 ⊢;have hk3:∀ b o,s2.heap.get? b=some o->s3.heap.get? b=some o:=fun b o e=>by rw[<- hs3];exact qd _ e
  have hz3:s3.heap.objs.size=s2.heap.objs.size+1:=by rw[<- hs3];exact qY ..
  have st3:tn 0 s3.heap:=T.keep _ _ _ st2 fun b _ o e=>hk3 b o e
  have hfpo:∀ b∈fp,∃ o,s3.heap.get? b=some o:=fun b hb=>let ⟨o,e,_⟩:=T.obj _ _ st3 b hb;⟨o,e⟩
  have hfpn:∀ b∈fp,b≠s2.heap.objs.size:=fun b hb e=>by
    obtain⟨o,e',_⟩:=T.obj _ _ st2 b hb;have:=qo e';rw[e]at this;exact qV _ this
  have f3:∀ b∈fp,H3 b=none:=fun b hb=>by rw[<- hH3,zL (hfpn b hb)];exact(f2 b hb).1
  refine zmL ?_;have cok:=cellsFrom_ok sc.names (s3.heap.push { cls:=.type "dict",data:=.dict #[] }) (s3.heap.objs.size+1) [] ⟨fun _ _ hm=>(nomatch hm),List.Pairwise.nil⟩ (by rw[qY];exact qe _);rw[qY]at cok;have hns1:(pushCells (s3.heap.push { cls:=.type "dict",data:=.dict #[] }) sc.names).Ns s3.heap.objs.size (fun _=>none):=(Heap.Ns.new s3.heap (.type "dict")).keeps (pushCells_keeps _ _);have old:∀ b o,s3.heap.get? b=some o->(pushCells (s3.heap.push { cls:=.type "dict",data:=.dict #[] }) sc.names).get? b=some o:=fun b o e=>pushCells_keeps _ _ b o (qd _ e)
  rw[zbf];have fmem:∀ {x c},(x,c)∈cellsFrom (s3.heap.objs.size+1) sc.names []->sc.names.lookup x=some .cell:=fun {x c} h=>hcell (x,.cell) (zd1 h) rfl
  have fhas:∀ {x},sc.names.lookup x=some .cell->∃ c,(cellsFrom (s3.heap.objs.size+1) sc.names []).lookup x=some c:=fun {x} h=>qaa.mp (zdY (mem_of_lookup h))
  generalize pushCells (s3.heap.push { cls:=.type "dict",data:=.dict #[] }) sc.names=h1 at cok hns1 old ⊢;generalize cellsFrom (s3.heap.objs.size+1) sc.names []=F at cok fmem fhas ⊢;have flt:∀ {x c},F.lookup x=some c->s3.heap.objs.size<c:=fun {x c} e=>(cok.empty x c (mem_of_lookup e)).2
  have cl':∀ {x c},(F++cl).lookup x=some c->F.lookup x=some c\/(F.lookup x=none/\cl.lookup x=some c):=fun {x c} e=>by
    rw[List.lookup_append]at e;cases hF:F.lookup x with
    |some c'=>rw[hF]at e;exact .inl e
    |none=>rw[hF]at e;exact .inr ⟨rfl,e⟩
  have hC0:H3 s3.heap.objs.size=none:=I3.fresh;have hlow:X.s₀.heap.objs.size<=s3.heap.objs.size:=I3.sz;have hloc:X.env.locals<s3.heap.objs.size:=I3.lt
  have hcells:∀ x c,X.env.cells.lookup x=some c->c<s3.heap.objs.size:=fun x c e=>by
    obtain⟨v,o,ho,_⟩:=I3.cell x c e;exact qo ho
  have YOk:(inner X sc (own++free) (F++cl) s3.heap.objs.size s3 H3 fp).Ok:={
    mod:=I3.ok.mod
    kind:=by show(relabel sc X.env).kind=.function;exact hkind
    glob:=I3.ok.glob
    blt:=I3.ok.blt
    above:=qe _
    inj:=fun x y c hx hy=>by
      rcases cl' hx with h|⟨_,h⟩<;>rcases cl' hy with h'|⟨_,h'⟩
      . exact name_of_addr cok.apart (mem_of_lookup h) (mem_of_lookup h')
      . exact absurd (Nat.lt_trans (flt h) (hcells y c (hcl1 y c h'))) (qV _)
      . exact absurd (Nat.lt_trans (flt h') (hcells x c (hcl1 x c h))) (qV _)
      . exact I3.ok.inj x y c (hcl1 x c h) (hcl1 y c h')
    has:=fun x hx=>by
      show ∃ c,(F++cl).lookup x=some c;rw[List.lookup_append];cases hF:F.lookup x with
      |some c=>exact⟨c,rfl⟩
      |none =>
      show ∃ c,cl.lookup x=some c
      have e : (sc.names.lookup x).map (fun k => if(k == NameKind.free && X.env.scope.kind == .function && X.env.kindOf x == some .cell)then NameKind.cell else k) = some .cell ∨
          (sc.names.lookup x).map (fun k=>if(k==NameKind.free&&X.env.scope.kind==.function&&X.env.kindOf x==some .cell)then NameKind.cell else k)=some .free:=by
        have:=@zdw X.env x sc.names;rcases hx with hx|hx
        . exact .inl (this.symm.trans hx)
        . exact .inr (this.symm.trans hx)
      cases q:sc.names.lookup x with
      |none=>rw[q]at e;simp at e
      |some k =>
        have hm:=mem_of_lookup q;by_cases hkf:k=.free
        . subst hkf;exact qaa.mp (hcl2 (x,.free) hm rfl)
        . have hkc : k ≠ .cell := fun ek => by
            subst ek;obtain⟨c,hc⟩:=fhas q;rw[hF]at hc;cases hc
          rw[q]at e;have hb:(k==NameKind.free)=false:=by simpa using hkf
          simp only[Option.map_some,hb,Bool.false_and,Bool.false_eq_true,if_false,Option.some.injEq]at e;rcases e with e|e
          . exact absurd e hkc
          . exact absurd e hkf
    cab:=fun x c hx hc=>by
      obtain⟨c',hc'⟩:=fhas (show sc.names.lookup x=some .cell from beq_iff_eq.mp hx);rcases cl' hc with h|⟨h,_⟩
      . exact Nat.le_of_lt (flt h)
      . rw[hc']at h;cases h
    hd:=I3.ok.hd
    frames:=I3.ok.frames
    stk:=.inl rfl
    exf:=fun b hb=>⟨fun e=>by obtain⟨o,e'⟩:=hfpo b hb;have:=qo e';rw[e]at this;exact qV _ this,fun x c hx=>by
      rcases cl' hx with h|⟨_,h⟩
      . obtain⟨o,e'⟩:=hfpo b hb;exact qaj (Nat.lt_trans (qo e') (flt h))
      . exact(f2 b hb).2.2.2.2.1 x c (hcl1 x c h)⟩
    bs:=I3.bs
    bsz:=qR I3.ok.bsz I3.sz
    noex:=fun b o hb hm=>by
      rcases(f2 b hm).2.2.2.1 with hx|hx
      . exact I3.ok.noex b o hb hx
      . exact qV _ (qr (qr (qo hb) I3.ok.bsz) hx)
    exfs:=fun b hb hm=>by
      rcases qg.mp (I3.stkSub b hm)with e|e
      . exact(f2 b hb).2.1 e
      . exact(f2 b hb).2.2.1 e
    funs:=I3.stack
    frf:=I3.stkFree }
  have hlen0:(cst own fv U).length=(own++free).length:=by
    unfold cst;rw[qi,qi,qD,qb,zkp hfv]
  have I4:∀ tk,Inv (inner X sc (own++free) (F++cl) s3.heap.objs.size s3 H3 fp) [] (cst own fv U) H3 { s3 with heap:=h1,toks:=tk }:=fun tk=>{
    ok:=YOk
    os:=rfl
    bare:=I3.bare
    base:=Un.kept old
    loc:=by
      refine⟨_,hns1,fun i x v hN hσ _=>?_⟩;have hN':(own++free)[i]?=some x:=hN;have hσ':(List.replicate own.length none++fv.map fun j=>(U[j]?).join)[i]?=some (some v):=hσ;by_cases hi:i<own.length
      . rw[qu (by rw[qD];exact hi)]at hσ';rw[List.getElem?_replicate]at hσ';split at hσ'<;>simp at hσ'
      . rw[qj (by lia)]at hN';rw[qj (by rw[qD];lia),qD]at hσ';obtain⟨j,hj,hσj,hsx,hkx⟩:=znl hfv _ x v hN' hσ';obtain⟨m,_,hall⟩:=I3.loc;obtain⟨u,ru,lk⟩:=hall j x v hj hσj (.inr (.inl hkx));refine⟨u,ru,.inr ⟨?_,?_⟩⟩
        . have:=@zdw X.env x sc.names;rw[hsx]at this;have e2:Env.kindOf (inner X sc (own++free) (F++cl) s3.heap.objs.size s3 H3 fp).env x=(sc.names.map fun (n,k)=>if(k==NameKind.free&&X.env.scope.kind==.function&&X.env.kindOf n==some .cell)then(n,NameKind.cell)else(n,k)).lookup x:=rfl;rw[e2,this];simp only[Option.map_some];split
          . exact .inl rfl
          . exact .inr rfl
        . rcases lk with⟨hl,_⟩|⟨_,c,hc,hcell'⟩
          . rw[hkx]at hl;cases hl
          . obtain⟨c',hc'⟩:=qaa.mp (hcl2 (x,.free) (mem_of_lookup hsx) rfl);have:=hcl1 x c' hc';rw[hc]at this;cases this;refine⟨c,?_,?_⟩
            . show(F++cl).lookup x=some c;rw[List.lookup_append];cases hF:F.lookup x with
              |none=>exact hc'
              |some c2=>have:=fmem (mem_of_lookup hF);rw[hsx]at this;cases this
            obtain⟨o,ho,hd⟩:=hcell';exact⟨o,old _ _ ho,hd⟩
    cell:=fun x c hx=>by
      rcases cl' hx with h|⟨_,h⟩
      . exact⟨none,(cok.empty x c (mem_of_lookup h)).1⟩
      . obtain⟨v,o,ho,hd⟩:=I3.cell x c (hcl1 x c h);exact⟨v,o,old _ _ ho,hd⟩
    free:=hC0
    freeC:=fun x c hx=>by
      rcases cl' hx with h|⟨_,h⟩
      . exact I3.hok.fresh (Nat.le_of_lt (flt h))
      . exact I3.freeC x c (hcl1 x c h)
    pin:=fun q hq=>nomatch hq
    hok:=I3.hok.kept old
    len:=hlen0 }
  have back:∀ (m:Str->Option Value) (H':Hp) (s':Shared),s'.heap.Ns s3.heap.objs.size m->Inv (inner X sc (own++free) (F++cl) s3.heap.objs.size s3 H3 fp) [] (cst own fv U) H' s'->Q (.ref s2.heap.objs.size) H'->RR (.ref s2.heap.objs.size) s3.heap.objs.size (.ok .next) s':=fun m H' s' hm IY q=>by
    have u1:Un (frs X.stack) fp H3 H' s3.heap s'.heap:=IY.base;have IX:Inv X pins U H' s':=I3.call' (ch:=fp) (IY.os) u1 IY.hok IY.bare fun b hb=>⟨(f2 b hb).2.2.2.1,(f2 b hb).2.1,(f2 b hb).2.2.2.2.1,(f2 b hb).2.2.2.2.2⟩
    refine hRR _ _ m H' s' hm IX IY.free (qaj hloc) hlow (fun x c hx=>qC (hcells x c hx)) (fun q' hq=>?_) q;have:=(I3.pin q' hq).1;exact qC (qo this)
  have stat:∀ {H':Hp},(∀ b∈fp,H' b=none)->∀ b∈fp,zeA (inner X sc (own++free) (F++cl) s3.heap.objs.size s3 H3 fp) [] H' b:=fun hn b hb =>
    ⟨hn b hb,(YOk.exf b hb).1,YOk.exfs b hb,.inl hb,(YOk.exf b hb).2,fun q hq=>nomatch hq⟩
  have hYxe:(inner X sc (own++free) (F++cl) s3.heap.objs.size s3 H3 fp).xe=fun _ _=>False:=hxe
  have loop:∀ tk,codeAny (model X.prog X.w) X.A (.compLoop (.ListComp elt [⟨tg,iter,ifs,0⟩] sc pos) 0 (.ref it) (.ref s2.heap.objs.size) (compEnvC sc (F++cl) s3.heap.objs.size X.env)) (RR (.ref s2.heap.objs.size) s3.heap.objs.size) { s3 with heap:=h1,toks:=tk }:=fun tk=>by
    refine zlz (fun n s'=>∃ i H',Inv (inner X sc (own++free) (F++cl) s3.heap.objs.size s3 H3 fp) [] (cst own fv U) H' s'/\tn i s'.heap/\(∀ b∈fp,H' b=none)/\W i n H') ?_ m0 ⟨0,H3,I4 tk,T.keep _ _ _ st3 (fun b _ o e=>old b o e),f3,w0⟩;rintro n s5 ⟨i,H5,I5,st5,fr5,w5⟩;rcases turn i n H5 w5 with⟨stop,q⟩|⟨go,step⟩
    . refine thn (T.done (inner X sc (own++free) (F++cl) s3.heap.objs.size s3 H3 fp) rfl rfl rfl hcalm i [] s5 _ H5 _ I5 (stat fr5) st5 stop) fun r s6 ⟨hr,I6⟩=>?_
      subst hr;obtain⟨m,hm,_⟩:=I6.loc;exact back m H5 s6 hm I6 q
    . refine thn (T.item (inner X sc (own++free) (F++cl) s3.heap.objs.size s3 H3 fp) rfl rfl rfl hcalm i [] s5 _ H5 _ I5 (stat fr5) st5 go) fun r s6 ⟨u,hr,h6⟩=>?_
      subst hr;refine thn h6 fun _ s7 ⟨x,H7,I7,r7,y7,st7,fr7⟩=>?_
      have I7':=I7.pinned (stat fr7) (T.obj _ _ st7);have hg':=hg (F++cl) s3.heap.objs.size s3 H3 fp _ s7 _ H7 x u _ I7' r7 (step x H7 y7);have ht':=ht (F++cl) s3.heap.objs.size s3 H3 fp;have he':=he (F++cl) s3.heap.objs.size s3 H3 fp;have ap:MtM (inner X sc (own++free) (F++cl) s3.heap.objs.size s3 H3 fp) "list.append" zmq:=zjl;unfold PFs at ht';unfold PE at he';unfold MtM at ap;rw[hYxe]at hg' ht' he' ap
      have again : ∀ {pl : List (Addr × Obj)} {σ8 : L2.St} {H8 : Hp} {s8 : Shared}, pl = zgh fp s7.heap → Inv (inner X sc (own ++ free) (F ++ cl) s3.heap.objs.size s3 H3 fp) ([] ++ pl) σ8 H8 s8 → Agr (cst own fv U) σ8 → (∃ m', m' < n ∧ W (i + 1) m' H8) →
          ∃ m,m<n/\∃ i H',Inv (inner X sc (own++free) (F++cl) s3.heap.objs.size s3 H3 fp) [] (cst own fv U) H' s8/\tn i s8.heap/\(∀ b∈fp,H' b=none)/\W i m H':=fun {pl σ8 H8 s8} hpl I8 ag ⟨m',hm,w8⟩=>by
        subst hpl;refine⟨m',hm,i+1,H8,(I8.unpinned).weak ag.len.symm (fun j v e=>ag.get j v e),T.keep _ _ _ st7 fun b hb o e=>(I8.pin (b,o) (qK _ (qK _ (zec hb e)))).1,fun b hb=>?_,w8⟩;obtain⟨o,e,d⟩:=T.obj _ _ st7 b hb;exact(I8.pin (b,o) (qK _ (qK _ (zec hb e)))).2.1
      refine thn hg' fun _ s8 ⟨σ8,H8,I8,ag,q8⟩=>?_
      refine thn (ht' _ s8 σ8 H8 _ I8 q8) fun b s9 ⟨H9,I9,q9⟩=>?_
      cases b with
      |false =>
        rw[if_neg qv]at q9 ⊢;exact again rfl I9 ag q9
      |true =>
        rw[if_pos rfl]at q9 ⊢;refine thn (he' _ s9 σ8 H9 _ I9 q9) fun y s10 ⟨yv,H10,I10,ry,ys,hy,hlt,q10⟩=>?_
        refine thn (ap _ s10 σ8 H10 (.ref s2.heap.objs.size) [yv] (.ref s2.heap.objs.size) [y] (fun v H'=>v=.non/\H'=upd H10 s2.heap.objs.size (.lst (ys++[yv]))) I10 rfl (.cons ry .nil) ⟨_,ys,yv,rfl,rfl,hy,hlt,rfl,rfl⟩) fun z s11 ⟨v11,H11,I11,_,_,e11⟩=>?_
        subst e11;exact again rfl I11 ag q10
  refine codeAny_compStart_list (loop _) (T.self _ 0 _ _ _ (T.keep _ _ _ st3 fun b _ o e=>old b o e) (loop _))
def zxc (hcalm:X.calm=true)(hxe:X.xe=fun _ _=>False)(hkind:sc.kind=.function)(hcell:∀ y∈sc.names,y.2=.cell->sc.names.lookup y.1=some .cell)(hnames:∀ y∈sc.names,y.2=.local->sc.names.lookup y.1=some .local)
  (hfr:zc5 (fun x=>X.env.kindOf x=some .cell) sc.names) (hfv:zeP X sc free fv) (hi:PI X tg iter wi)
  (hg:∀ cl C s₀ H₀ ex,PG (inner X sc (own++free) cl C s₀ H₀ ex) tg g) (ht:∀ cl C s₀ H₀ ex,PFs (inner X sc (own++free) cl C s₀ H₀ ex) ifs tc) (he:∀ cl C s₀ H₀ ex,PE (inner X sc (own++free) cl C s₀ H₀ ex) elt te)
  (hs:∀ x,foldedSetIterable iter X.env x=pure x:=by intro _;rfl):PE X (.ListComp elt [⟨tg,iter,ifs,0⟩] sc pos) (tLC own fv wi g tc te):=by
 intro pins s U H Q I q;obtain⟨cl,hclos,hcl1,hcl2⟩:=zfx (env:=X.env) (sc:=sc) fun y hy e=>I.ok.has y.1 (.inl (hfr.of y hy e))
 rw[eval_ListComp];refine wpAny_comprehension_free (use:=none) rfl hs hclos hkind hnames (thn (hi pins s U H _ I q) fun v s1 h1=>thn h1 fun itv s2 h2=>?_);obtain⟨it,fp,tn,J,H2,e,I2,T,st2,f2,q2⟩:=h2;subst e;refine zii (RR:=fun acc C=>compPost (model X.prog X.w) X.A X.xe none (EP X pins U Q) acc C) hcalm hxe hkind hcell hfr hfv hg ht he I2 T st2 f2 q2 hcl1 hcl2 ?_;intro p C m H' s' hm I' hC hCl hC0 hCc hCp q';exact⟨m,hm,fun h' hs'=>⟨.ref p,H',I'.turned (t':=s'.toks) (fun b o hb e=>hs'.extBut b o hb e) hC hCl (.inr hC0) hCc hCp,rfl,q'⟩⟩
def zsl {i:Nat}{y:Str}{py spos:Pos}(hN:X.N.Nodup)(hy:X.N[i]?=some y)(hyl:X.env.scope.names.lookup y=some .local)(hcalm:X.calm=true)(hxe:X.xe=fun _ _=>False)(hkind:sc.kind=.function)(hcell:∀ y∈sc.names,y.2=.cell->sc.names.lookup y.1=some .cell)(hnames:∀ y∈sc.names,y.2=.local->sc.names.lookup y.1=some .local)
  (hfr:zc5 (fun x=>X.env.kindOf x=some .cell) sc.names) (hfv:zeP X sc free fv) (hi:PI X tg iter wi)
  (hg:∀ cl C s₀ H₀ ex,PG (inner X sc (own++free) cl C s₀ H₀ ex) tg g) (ht:∀ cl C s₀ H₀ ex,PFs (inner X sc (own++free) cl C s₀ H₀ ex) ifs tc) (he:∀ cl C s₀ H₀ ex,PE (inner X sc (own++free) cl C s₀ H₀ ex) elt te)
  (hsw:swapsWith (.ListComp elt [⟨tg,iter,ifs,0⟩] sc pos) (some (.Name y py)) spos.line X.env=pure true:=by rfl)
  (hs:∀ x,foldedSetIterable iter X.env x=pure x:=by intro _;rfl):PS X (.Assign [.Name y py] (.ListComp elt [⟨tg,iter,ifs,0⟩] sc pos) spos) (zrn (tLC own fv wi g tc te) (zaq i)):=by
 intro pins s U H D I q;obtain⟨cl,hclos,hcl1,hcl2⟩:=zfx (env:=X.env) (sc:=sc) fun y hy e=>I.ok.has y.1 (.inl (hfr.of y hy e))
 rw[exec_Assign_Name_used _ _ _ _ hsw];refine wpAny_bind (wpAny_standAt (wpAny_bind ?_));show wpAny _ X.A (do let _ <- comprehension (.ListComp elt [⟨tg,iter,ifs,0⟩] sc pos) sc X.env _ (newList []) false (eval iter X.env) (some (assign (.Name y py) X.env))) _ _ s
 refine wpAny_bind (wpAny_mono (wpAny_comprehension_free (use:=some (assign (.Name y py) X.env)) (Q:=fun _ s'=>SP X pins D .next s') rfl hs hclos hkind hnames
  (thn (hi pins s U H _ I q) fun v s1 h1=>thn h1 fun itv s2 h2=>?_)) (fun _ s' hq=>wpAny_pure (wpAny_pure hq)) fun _ _ e=>e)
 obtain⟨it,fp,tn,J,H2,e,I2,T,st2,f2,q2⟩:=h2;subst e;refine zii (RR:=fun acc C=>compPost (model X.prog X.w) X.A X.xe (some (assign (.Name y py) X.env)) (fun _ s'=>SP X pins D .next s') acc C) (Q:=fun x H1=>zaq i x U H1 D.nx) hcalm hxe hkind hcell hfr hfv hg ht he I2 T st2 f2 q2 hcl1 hcl2 ?_;intro p C m H' s' hm I' hC hCl hC0 hCc hCp q';show wpAny _ X.A (assign (.Name y py) X.env (.ref p)) _ _ _;refine wpAny_assign_Name (zjF (v:=.ref p) I' hN hy (.inl hyl) rfl (fun s'' I'' hsb=>?_) (.inr hyl));obtain⟨a,hsb,ha⟩:=hsb
 have hCa:C≠a:=by
  rcases ha with rfl|ha
  ·exact hCl
  ·exact fun e=>hCc _ _ ha e.symm
 refine⟨m,hm.sameBut hsb hCa,fun h' hs'=>⟨_,H',I''.turned (t':=s''.toks) (fun b o hb e=>hs'.extBut b o hb e) hC hCl (.inr hC0) hCc hCp,q'⟩⟩
end
section
variable {U:L2.St}{H:Hp}{K:PySem.W.Frag}
end
section
variable {X:Cx}{tg:Expr}
end
mutual
inductive Dt (K:PySem.W.Frag)(H:Hp):V->PyData->Prop
 |non:Dt K H .non .none
 |bl (b:Bool):Dt K H (.bl b) (.bool b)
 |int (i:Int):Dt K H (.int i) (.int i)
 |tup {a:Addr} {xs:List V} {ds:List PyData}:SqT K H a xs->zhZ K H xs ds->Dt K H (.ref a) (.tuple ds)
 |lst {a:Addr} {xs:List V} {ds:List PyData}:SqL K H a xs->zhZ K H xs ds->Dt K H (.ref a) (.list ds)
inductive zhZ (K:PySem.W.Frag)(H:Hp):List V->List PyData->Prop
 |nil:zhZ K H [] []
 |cons {x:V} {xs:List V} {d:PyData} {ds:List PyData}:Dt K H x d->zhZ K H xs ds->zhZ K H (x::xs) (d::ds)
end
section
variable {X:Cx}{pins:List (Addr×Obj)}{U:L2.St}{H:Hp}{s:Shared}
end
section
variable {X:Cx}{pins:List (Addr×Obj)}{U:L2.St}{H:Hp}{s:Shared}
def _root_.L2.Inv.turnNew {h':Heap}{ch:List Addr}{a:Addr}{o:HO}{t':Nat}(I:Inv X pins U H s)(hf:∀ b∈ch,zeA X pins H b)(k:∀ b u,b∉ch->s.heap.get? b=some u->h'.get? b=some u)(ha:s.heap.objs.size<=a)
  (new:zaB X.prog X.w (upd H a o) h' a o):Inv X pins U (upd H a o) { s with heap:=h',toks:=t' }:=by
 have lt:∀ b u,s.heap.get? b=some u->b≠a:=fun b u e z=>by
  have:=qo e;rw[z]at this;exact qV _ (qr this ha)
 have ltH:∀ b u,H b=some u->b≠a:=fun b u e z=>by
  have:=I.hok.lt e;rw[z]at this;exact qV _ (qr this ha)
 have nch:∀ b u,H b=some u->b∉ch:=fun b u e z=>by rw[(hf b z).1]at e;cases e
 refine I.step (g':=s.gens) (d':=s.drawn) (ch:=ch) (fun b hb=>⟨(hf b hb).2.2.2.1,(hf b hb).2.1,(hf b hb).2.2.2.2.1,(hf b hb).2.2.2.2.2⟩) (fun b u _ _ hc e _=>k b u hc e) (fun b u _ _ hc e _=>⟨u.slots,k b u hc e⟩)
  (fun b u _ e n=>by rw[zL (lt b u e)];exact n) (fun b u hc e=>⟨u,k b u hc e⟩) (fun b xs e=>by rw[zL (ltH b _ e)];exact e) (fun b u v e=>by rw[zL (ltH b _ e)];exact e)
  (fun b ps e=>⟨#[],by rw[zL (ltH b _ e),e];simp⟩) (fun m hm=>?_) (fun b u e=>?_) I.bare
 ·obtain⟨ob,es,ep,ho,r⟩:=hm;exact⟨ob,es,ep,k _ ob (fun z=>(hf _ z).2.1 rfl) ho,r⟩
 ·by_cases hb:b=a
  ·subst hb;rw[zY]at e;cases e;exact new
  ·rw[zL hb]at e;refine(I.hok b u e).stay (fun c v hc q=>k c v ?_ q) (fun c q=>by rw[zL (ltH c _ q)];exact q) fun c ys q=>by rw[zL (ltH c _ q)];exact q
   rcases hc with z|z
   ·rw[z];exact nch b u e
   ·exact nch c _ z
def _root_.L2.Inv.turnedL {h':Heap}{ch:List Addr}{t':Nat}(I:Inv X pins U H s)(hf:∀ b∈ch,zeA X pins H b)(k:∀ b u,b∉ch->s.heap.get? b=some u->h'.get? b=some u):Inv X pins U H { s with heap:=h',toks:=t' }:=by
 have nch:∀ b u,H b=some u->b∉ch:=fun b u e z=>by rw[(hf b z).1]at e;cases e
 refine I.step (g':=s.gens) (d':=s.drawn) (ch:=ch) (fun b hb=>⟨(hf b hb).2.2.2.1,(hf b hb).2.1,(hf b hb).2.2.2.2.1,(hf b hb).2.2.2.2.2⟩) (fun b u _ _ hc e _=>k b u hc e) (fun b u _ _ hc e _=>⟨u.slots,k b u hc e⟩)
  (fun b u _ e n=>n) (fun b u hc e=>⟨u,k b u hc e⟩) (fun b xs e=>e) (fun b u v e=>e) (fun b ps e=>⟨#[],by rw[e];simp⟩) (fun m hm=>?_) (fun b u e=>?_) I.bare
 ·obtain⟨ob,es,ep,ho,r⟩:=hm;exact⟨ob,es,ep,k _ ob (fun z=>(hf _ z).2.1 rfl) ho,r⟩
 ·refine(I.hok b u e).stay (fun c v hc q=>k c v ?_ q) (fun c q=>q) fun c ys q=>q
  rcases hc with z|z
  ·rw[z];exact nch b u e
  ·exact nch c _ z
end
section
variable {X:Cx}
end
def Ite (K:PySem.W.Frag)(l:Addr):It :=
  ⟨fun i H=>∃ xs x,SqL K H l xs/\xs[i]?=some x,
   fun i H v H'=>∃ p,v=.ref p/\H p=none/\∀ xs x,SqL K H l xs->xs[i]?=some x->H'=upd H p (.tup [.int i,x]),
   fun i H=>∃ xs,SqL K H l xs/\xs.length<=i⟩
def zoR {P:Program}{w:World}{K:PySem.W.Frag}{es:List Expr}{kk:Nat}{pos:Pos}{e it l:Addr}(hne:e≠it) :
  Turn P w K (.Tuple es kk pos) (Ite K l) [e,it] e (fun i h=>(∃ old,IsEnum h e it i old)/\h.IsListIter it l i) where
 mem:=by simp
 obj:=fun i h st b hb=>by
  obtain⟨⟨old,he⟩,⟨o1,h1,_,h1d⟩⟩:=st;simp only[qg,qB,or_false]at hb;rcases hb with rfl|rfl
  ·exact⟨_,he,fun v q=>by cases(show Data.fields _=Data.cell v from q)⟩
  ·exact⟨_,h1,fun v q=>by rw[h1d]at q;cases q⟩
 keep:=fun i h h' st k=>by
  obtain⟨⟨old,he⟩,h1⟩:=st;exact⟨⟨old,k e (by simp) _ he⟩,h1.at fun o q=>k it (by simp) o q⟩
 item:=by
  intro X hP hw hK hc i pins s U H E I hf st hg;subst hP hw hK;obtain⟨⟨old,he⟩,h1⟩:=st;obtain⟨xs,x,hx1,hx⟩:=hg;obtain⟨its,rx,px,zx⟩:=I.list hx1;obtain⟨u,hu,ru⟩:=Vals.get rx hx;refine wpAny_pyNext_enum_item he h1 px.isList (by simpa using hu) hne fun h' a1 a2 a3 a4 hk=>?_
  refine⟨_,rfl,wpAny_letOwnedTupleGo_enum (s:={ s with heap:=h',toks:=s.toks+1 }) a1 fun h'' he'' hs''=>?_⟩;have lt:∀ {c o},s.heap.get? c=some o->s.heap.objs.size≠c:=fun q=>qaj (qo q)
  have k2:∀ b u,b∉[e,it]->s.heap.get? b=some u->h''.get? b=some u:=fun b u hb q=>by
   simp only[qg,qB,or_false,not_or]at hb;exact hs''.extBut b u hb.1 (hk b u hb.1 hb.2 q)
  have new:h''.get? s.heap.objs.size=some { cls:=.type "tuple",data:=.seq #[.int i s.toks,u] }:=hs''.extBut _ _ (lt he) a3;refine⟨.ref s.heap.objs.size,upd H s.heap.objs.size (.tup [.int i,x]),I.turnNew (t':=s.toks+1) hf k2 (qe _) ⟨by show 2<=sizeLine;decide,[.int i s.toks,u],.cons ⟨_,rfl⟩ (.cons ru .nil),_,new,rfl,_,rfl⟩,rfl,⟨_,rfl,I.fresh,?_⟩,?_,fun b hb=>?_⟩
  ·intro xs' x' hx1' hx';cases I.list_inj hx1 hx1';rw[hx]at hx';cases hx';rfl
  ·exact⟨⟨_,he''⟩,a2.extBut hs''.extBut (Ne.symm hne)⟩
  ·have:∃ o,s.heap.get? b=some o:=by
    simp only[qg,qB,or_false]at hb;obtain⟨o1,e1,_⟩:=h1;rcases hb with rfl|rfl
    ·exact⟨_,he⟩
    ·exact⟨_,e1⟩
   obtain⟨o,q⟩:=this;rw[zL (lt q).symm];exact(hf b hb).1
 done:=by
  intro X hP hw hK hc i pins s U H E I hf st hg;subst hP hw hK;obtain⟨⟨old,he⟩,h1⟩:=st;obtain⟨xs,hx1,hl⟩:=hg;obtain⟨its,rx,px,zx⟩:=I.list hx1;have n1:=rx.length;refine wpAny_pyNext_enum_end (I.ok.hd hc) he h1 px.isList (by rw[List.getElem?_toArray];exact qE (by lia)) fun h' hk=>⟨rfl,I.turnedL (t':=s.toks) hf fun b u hb q=>?_⟩
  simp only[qg,qB,or_false,not_or]at hb;exact hk b u hb.2 q
 self:=fun _ _ _ _ _ st h=>by
  obtain⟨⟨old,he⟩,_⟩:=st;exact wpAny_pyIter_enum he h
section
variable {X:Cx}
end
def hT (x1 z1 x2 z2 a b:Int):Int:=z1*(x2-x1)*b+(z2-z1)*(a-x1*b)
def hB (x1 x2 b:Int):Int:=(x2-x1)*b
section
variable {U:L2.St}{H:Hp}
end
structure ziI (P:Program)(w:World)(K:PySem.W.Frag)(mg:Str->Option Value)(base:Heap)(k:Nat)(x:Str)(sp:Sp):Prop where
 ex:∃ (C f:Addr) (fd:FuncData) (ps:List Str) (sp0:Sp),Mk K C f/\zP P w K mg base CX0 k f fd ps sp0/\Binds K fd ps []/\mg x=some (.ref C) /\
  ∀ vs H Q,sp vs H Q E0->∀ x dx,H x=none->H dx=none->dx≠x->sp0 (.ref x::vs) (upd (upd H dx (.own x)) x (.ins C dx [])) (fun v H2=>v=.non/\Q (.ref x) H2) E0
def zwy {X:Cx}{k j:Nat}{x:Str}{sp:Sp}{p pos:Pos}{e:Expr}{es:List Expr}{t:TA}(G:ziI X.prog X.w X.K X.mg X.base k x sp)(hr:zaf j X.A)(hk:k+1<=j)(hg:Gl X x)
  (ha:PA X (e::es) t) (hdb:(x==("__debug__":Str))=false:=by decide) (he:starEach (e::es) X.env=(false,eval e X.env)::starEach es X.env:=by rfl) (hpl:(backTo pos (starEach es X.env)).any (·.1)=false:=by rfl) :
  PE X (.Call (.Name x p) (e::es) [] pos) (zne sp [] E0 t):=by
 intro pins s U H Q I h;obtain⟨C,f,fd,ps,sp0,M,F,b,hm,imp⟩:=G.ex;refine wpAny_Call_Name_kw (zdm I hg hm ?_ hdb);refine PySem.W.callWith_K (h₀:=X.base) I.ok.mod.kin M.kp (thn (ha pos pins s U H _ I h) fun us s1 ⟨vs,H1,I1,r,q⟩=>⟨I1.kIn,?_⟩) he hpl;have q':sp (vs++[]) H1 Q E0:=q;rw[List.append_nil]at q';exact zqP (dvs:=[]) (ds:=[]) M F (hr.mono hk) b .nil zrq I1 r fun x dx h1 h2 h3=>by rw[List.append_nil];exact imp vs H1 Q q' x dx h1 h2 h3
def zsf {X:Cx}{x:Str}{n:Int}{pos:Pos}(hg:Gl X x)(hm:∃ t,X.mg x=some (.int n t))(hd:(x==("__debug__":Str))=false:=by decide):PE X (.Name x pos) (tC (.int n)):=by
 obtain⟨t,ht⟩:=hm;exact zmz (v:=.int n) hg ht ⟨t,rfl⟩ hd
section
variable {U:L2.St}{H:Hp}{K:PySem.W.Frag}
end
section
variable {X:Cx}{K:PySem.W.Frag}
def ztZ {pins:List (Addr×Obj)}{U:L2.St}{H:Hp}{s:Shared}{p:Addr}{its:List Value}(_:Inv X pins U H s)(pl:PlainL s.heap p its.toArray) :
  p<s.heap.objs.size/\(s.heap.push { cls:=.type "list_iterator",data:=.fields #[.ref p,.int 0 0] }).IsListIter s.heap.objs.size p 0:=by
 obtain⟨o,ho,_⟩:=pl.isList;exact⟨qo ho,_,qp _ rfl,rfl,rfl⟩
def zvF {H:Hp}{pins:List (Addr×Obj)}{U:L2.St}{s:Shared}{h':Heap}{tk:Nat}(I:Inv X pins U H s){o:Obj}(hk:∀ b u,b∉[s.heap.objs.size]->(s.heap.push o).get? b=some u->h'.get? b=some u) :
  Inv X pins U H { s with heap:=h',toks:=tk }:=I.kept (t':=tk) fun d u e=>hk d u (fun hm=>by
   have h1:d=s.heap.objs.size:=by simpa using hm
   have h2:=qo e;rw[h1]at h2;exact qV _ h2) (qd _ e)
def zxE (K:PySem.W.Frag):List V->Hp->VK->Prop:=fun xs H Q=>∃ (p:Addr) (bs:List Bool),xs=[.ref p]/\SqL K H p (bs.map V.bl)/\Q (.bl (bs.all id)) H
def zqo {bs:List Bool}{its:List Value}(rv:Vals (bs.map V.bl) its){i:Nat}{v:Value}(h:its.toArray[i]?=some v):v=.bool (bs.getD i false):=by
 rw[<- Array.getElem?_toList]at h
 have hi:i<its.length:=by
  rcases qX i its.length with g|g
  ·exact g
  ·rw[qE (by simpa using g)]at h;cases h
 have hl:=rv.length;rw[qb]at hl
 have e:(bs.map V.bl)[i]?=some (.bl (bs.getD i false)):=by
  rw[qk,qc (by lia)];simp[qw,qc (show i<bs.length by lia)]
 obtain⟨u,hu,ru⟩:=rv.get e;rw[show its.toArray.toList=its from rfl,hu]at h;cases h;exact ru
def all_range (bs:List Bool):(List.range bs.length).all (fun i=>bs.getD i false)=bs.all id:=by
 rw[Bool.eq_iff_iff,qag,qag];constructor
 ·intro h b hb;obtain⟨i,hi,rfl⟩:=qab.mp hb;simpa [qw,qc hi]using h i (List.mem_range.mpr hi)
 ·intro h i hi;rw[List.mem_range]at hi;have:=h bs[i] (List.getElem_mem hi);simpa [qw,qc hi]using this
def zpp (hK:X.K=K)(hc:X.calm=true):zaE X (.builtin "all") (zxE K):=fun pins s U H xs us Q I r h=>by
 subst hK;obtain⟨p,bs,rfl,hS,q⟩:=h;obtain⟨u,rfl,ru⟩:=vals1 r;cases ru;obtain⟨its,rv,pl,hz⟩:=I.list hS;obtain⟨lt,st⟩:=ztZ I pl;have hl:=rv.length;rw[qb]at hl;have W:=Walks.list (prog:=X.prog) (w:=X.w) (A:=X.A.in1) (I.ok.hd hc) s.heap.objs.size p (qC lt) its.toArray;refine call_all_walk (wpAny_pyIter_list pl.isList ⟨s.heap.objs.size,[s.heap.objs.size,p],[s.heap.objs.size],_,_,_,fun i=>bs.getD i false,rfl,W,⟨st,pl.isList.push _⟩,?_,?_⟩)
 ·intro i v s' Q' E' hv hq;rw[zqo rv hv];exact wpAny_truthy_bool hq
 ·intro h' tk hk;rw[qm,<- hl,all_range];exact⟨.bl _,H,zvF (s:=s) I hk,rfl,q⟩
def zwk (K:PySem.W.Frag):List V->Hp->VK->Prop:=fun xs H Q=>∃ (p:Addr) (ns:List Int),xs=[.ref p]/\SqL K H p (ns.map V.int)/\0<ns.length/\∀ m:Int,m∈ns->(∀ a∈ns,a<=m)->Q (.int m) H
def zxn (K:PySem.W.Frag):List V->Hp->VK->Prop:=fun xs H Q=>∃ (p:Addr) (ns:List Int),xs=[.ref p]/\SqL K H p (ns.map V.int)/\0<ns.length/\∀ m:Int,m∈ns->(∀ a∈ns,m<=a)->Q (.int m) H
theorem ze8:∀ {ns:List Int} {its:List Value},Vals (ns.map V.int) its->∃ xs:Array (Int×Tok),its.toArray=intItems xs/\xs.toList.map (·.1)=ns
 |[],_,h=>by cases h;exact⟨#[],by simp[intItems],rfl⟩
 |n::ns,_,h=>by
  cases h with
  |cons r t =>
   obtain⟨tk,rfl⟩:=r;obtain⟨xs,e1,e2⟩:=ze8 t;refine⟨#[(n,tk)]++xs,?_,?_⟩
   ·apply Array.toList_inj.mp;have:=congrArg Array.toList e1;simp[intItems]at this ⊢;exact this
   ·simp[e2]
def zoI (hK:X.K=K)(hc:X.calm=true):zaE X (.builtin "max") (zwk K):=fun pins s U H xs us Q I r h=>by
 subst hK;obtain⟨p,ns,rfl,hS,hne,q⟩:=h;obtain⟨u,rfl,ru⟩:=vals1 r;cases ru;obtain⟨its,rv,pl,hz⟩:=I.list hS;obtain⟨xs,e1,e2⟩:=ze8 rv;have hsz:0<xs.size:=by rw[<- qL,<- qb (f:=(·.1)),e2];exact hne
 refine max_intList (I.ok.hd hc) (e1▸pl.isList) hsz fun v h' tk hv hk=>?_
 obtain⟨t,rfl⟩:=intItems_at hv;obtain⟨h1,h2⟩:=argBest_gt (numAt xs) (xs.size-1);refine⟨.int _,H,I.kept (t':=tk) hk,⟨t,rfl⟩,q _ ?_ fun a ha=>?_⟩
 ·rw[<- e2,numAt_eq];exact getD_mem (by rw[qb,qL];lia)
 ·rw[<- e2]at ha;obtain⟨j,hj,rfl⟩:=mem_getD ha;rw[qb,qL]at hj;rw[<- numAt_eq];exact h2 j (by lia)
def zos (hK:X.K=K)(hc:X.calm=true):zaE X (.builtin "min") (zxn K):=fun pins s U H xs us Q I r h=>by
 subst hK;obtain⟨p,ns,rfl,hS,hne,q⟩:=h;obtain⟨u,rfl,ru⟩:=vals1 r;cases ru;obtain⟨its,rv,pl,hz⟩:=I.list hS;obtain⟨xs,e1,e2⟩:=ze8 rv;have hsz:0<xs.size:=by rw[<- qL,<- qb (f:=(·.1)),e2];exact hne
 refine min_intList (I.ok.hd hc) (e1▸pl.isList) hsz fun v h' tk hv hk=>?_
 obtain⟨t,rfl⟩:=intItems_at hv;obtain⟨h1,h2⟩:=argBest_lt (numAt xs) (xs.size-1);refine⟨.int _,H,I.kept (t':=tk) hk,⟨t,rfl⟩,q _ ?_ fun a ha=>?_⟩
 ·rw[<- e2,numAt_eq];exact getD_mem (by rw[qb,qL];lia)
 ·rw[<- e2]at ha;obtain⟨j,hj,rfl⟩:=mem_getD ha;rw[qb,qL]at hj;rw[<- numAt_eq];exact h2 j (by lia)
def zwd (K:PySem.W.Frag):List V->Hp->VK->Prop:=fun xs H Q=>∃ p ys,xs=[.ref p]/\((SqL K H p ys/\∀ l,H l=none->Q (.ref l) (upd H l (.tup ys)))\/(SqT K H p ys/\Q (.ref p) H))
def zo0 (hK:X.K=K):zaE X (.type "tuple") (zwd K):=hK▸zjK
end
section
variable {X:Cx}{K:PySem.W.Frag}
def zvY (K:PySem.W.Frag):R2:=fun x y H Q=>∃ l b xs zs,x=.ref l/\y=.ref b/\SqL K H l xs/\SqL K H b zs/\xs.length+zs.length<=sizeLine/\∀ p,H p=none->Q (.ref p) (upd H p (.lst (xs++zs)))
def zsx (hK:X.K=K):OpR X (binaryOp .Add) (zvY K):=by
 subst hK;intro pins s U H x y v u Q I rx ry h;obtain⟨l,b,xs,zs,rfl,rfl,hH,hB,hz,q⟩:=h;cases rx;cases ry;obtain⟨its,r,pl,_⟩:=I.list hH;obtain⟨its2,r2,pl2,_⟩:=I.list hB;obtain⟨⟨cls,dd,data,sl⟩,ho,hc,n,hd⟩:=pl.isList;obtain⟨⟨cls2,dd2,data2,sl2⟩,ho2,hc2,n2,hd2⟩:=pl2.isList;simp only at hc hd hc2 hd2;subst hc hd hc2 hd2;have e1:=r.length;have e2:=r2.length;refine concat_meets ⟨_,ho,rfl⟩ ⟨_,ho2,rfl⟩ noFill_list_add seq_list_add PySem.F.slot_list_add PySem.F.entry_list_add (PySem.F.args_list_add_2 _ _) (list_addW l b its.toArray its2.toArray n n2 dd dd2 sl sl2 (by rw[qm,qm];lia)) ⟨ho,ho2,?_⟩;have ea:its.toArray++its2.toArray=(its++its2).toArray:=by simp
 rw[ea];exact⟨.ref _,_,I.lnew (t':=s.toks) (r.append r2) (by rw[qi];lia),rfl,q _ I.fresh⟩
end
section
variable {U:L2.St}{K:PySem.W.Frag}{own:List Str}{fv:List Nat}{g:TG}{tc:TT}{te:TE}{R:Hp->Prop}{H1:Hp}{p a:Addr}{xs:List V}
end
def zeK (H:Hp)(ps:List Addr)(cs:List (Int×Int)):Prop:=Paired (fun (p:Addr) (c:Int×Int)=>H p=some (.tup [.int c.1,.int c.2])) ps cs
theorem zeK.length {H:Hp}{ps:List Addr}{cs:List (Int×Int)}(h:zeK H ps cs):ps.length=cs.length:=Paired.length h
def zaO {α:Type}{xs:List α}{i:Nat}{x:α}(h:xs[i]?=some x):i<xs.length:=by
 rcases qX i xs.length with g|g
 ·exact g
 ·rw[qE g]at h;cases h
open PySem PySem.W PyProof.Rows
def zaa {α:Type}(lt:Nat->Nat->Bool):KasT α->α
 |.ret a=>a
 |.ask i j k=>zaa lt (k (lt i j))
theorem zcK {α β:Type}(lt:Nat->Nat->Bool)(f:α->KasT β):∀ t:KasT α,zaa lt (t.bind f)=zaa lt (f (zaa lt t))
 |.ret _=>rfl
 |.ask i j k=>zcK lt f (k (lt i j))
structure Swo (lt:Nat->Nat->Bool):Prop where
 asymm:∀ a b,lt a b=true->lt b a=false
 ntrans:∀ a b c,lt b a=false->lt c b=false->lt c a=false
section
variable {lt:Nat->Nat->Bool}
abbrev ga (p:Array Nat)(i:Nat):Nat:=p.getD i 0
def zfR (p:Array Nat)(i:Nat):ga p i=(p[i]?).getD 0:=by simp[ga,Array.getD_eq_getD_getElem?]
def zop {p:Array Nat}{src d:Nat}(hs:src<p.size)(hd:d<=src)(k:Nat):ga (bubble p src d) k=if k=src-d then ga p src else if src-d<k/\k<=src then ga p (k-1)else ga p k:=by
 rw[zfR,getElem?_bubble hs d hd];by_cases h1:k=src-d
 ·rw[if_pos h1,if_pos h1,zfR]
 ·rw[if_neg h1,if_neg h1];by_cases h2:src-d<k/\k<=src
  ·rw[if_pos h2,if_pos h2,zfR]
  ·rw[if_neg h2,if_neg h2,zfR]
def zcy {p:Array Nat}{i j:Nat}(hj:j<=p.size)(k:Nat):ga (kas_rev p i j) k=if i<=k/\k<j then ga p (i+j-1-k)else ga p k:=by
  unfold kas_rev;rw[zfR,getElem?_mirror_all hj];split<;>rw[zfR]
def Asc (lt:Nat->Nat->Bool)(p:Array Nat)(n:Nat):Prop:=∀ i j,i<=j->j<n->lt (ga p j) (ga p i)=false
def Dsc (lt:Nat->Nat->Bool)(p:Array Nat)(n:Nat):Prop:=∀ i j,i<=j->j<n->lt (ga p i) (ga p j)=false
def Eqs (lt:Nat->Nat->Bool)(p:Array Nat)(a b:Nat):Prop:=∀ i j,a<=i->i<b->a<=j->j<b->lt (ga p i) (ga p j)=false
def irr (S:Swo lt)(a:Nat):lt a a=false:=by
 cases h:lt a a with
 |false=>rfl
 |true=>have:=S.asymm a a h;rw[h]at this;exact this
def Asc.snoc (S:Swo lt){p:Array Nat}{n:Nat}(h1:1<=n)(h:Asc lt p n)(hn:lt (ga p n) (ga p (n-1))=false):Asc lt p (n+1):=by
 intro i j hij hj;rcases qX j n with g|g
 ·exact h i j hij g
 ·have e:j=n:=by lia
  subst e;rcases qX i j with g'|g'
  ·exact S.ntrans (ga p i) (ga p (j-1)) (ga p j) (h i (j-1) (by lia) (by lia)) hn
  ·have:i=j:=by lia
   subst this;exact irr S _
def Dsc.snoc (S:Swo lt){p:Array Nat}{n:Nat}(h1:1<=n)(h:Dsc lt p n)(hn:lt (ga p (n-1)) (ga p n)=false):Dsc lt p (n+1):=by
 intro i j hij hj;rcases qX j n with g|g
 ·exact h i j hij g
 ·have e:j=n:=by lia
  subst e;rcases qX i j with g'|g'
  ·exact S.ntrans (ga p j) (ga p (j-1)) (ga p i) hn (h i (j-1) (by lia) (by lia))
  ·have:i=j:=by lia
   subst this;exact irr S _
def Dsc.rev {p:Array Nat}{n:Nat}(hn:n<=p.size)(h:Dsc lt p n):Asc lt (kas_rev p 0 n) n:=by
 intro i j hij hj;rw[zcy hn,zcy hn,if_pos ⟨by lia,hj⟩,if_pos ⟨by lia,by lia⟩];exact h _ _ (by lia) (by lia)
def Asc.rev {p:Array Nat}{n:Nat}(hn:n<=p.size)(h:Asc lt p n):Dsc lt (kas_rev p 0 n) n:=by
 intro i j hij hj;rw[zcy hn,zcy hn,if_pos ⟨by lia,by lia⟩,if_pos ⟨by lia,by lia⟩];exact h _ _ (by lia) (by lia)
def Dsc.turn (S:Swo lt){p:Array Nat}{n a:Nat}(hn:n<=p.size)(ha:a<=n)(h:Dsc lt p n)(he:Eqs lt p a n):Dsc lt (kas_rev p a n) n:=by
 intro i j hij hj;rw[zcy hn,zcy hn];by_cases hi:a<=i
 ·rw[if_pos ⟨hi,by lia⟩,if_pos ⟨by lia,hj⟩];exact he _ _ (by lia) (by lia) (by lia) (by lia)
 ·rw[if_neg (by lia)];by_cases hj':a<=j
  ·rw[if_pos ⟨hj',hj⟩];exact h _ _ (by lia) (by lia)
  ·rw[if_neg (by lia)];exact h _ _ hij hj
def zcG {p:Array Nat}{i j:Nat}:(kas_rev p i j).size=p.size:=mirror_size _ _ _ _
def zb5 {p:Array Nat}{i j:Nat}:(kas_rev p i j).Perm p:=mirror_perm _ _ _ _
theorem zkc (S:Swo lt)(p:Array Nat):∀ f n,1<=n->Asc lt p n->Asc lt p (zaa lt (kas_asc p f n))/\n<=zaa lt (kas_asc p f n)/\zaa lt (kas_asc p f n)<=n+f/\(zaa lt (kas_asc p f n)<n+f->lt (ga p (zaa lt (kas_asc p f n))) (ga p (zaa lt (kas_asc p f n)-1))=true)
 |0,n,_,h=>⟨h,qe _,qe _,fun z=>absurd z (qV _)⟩
 |f+1,n,h1,h=>by
  cases hc:lt (ga p n) (ga p (n-1))with
  |true =>
   have e:zaa lt (kas_asc p (f+1) n)=n:=by
    show zaa lt (if lt (ga p n) (ga p (n-1))=true then KasT.ret n else kas_asc p f (n+1))=n;rw[if_pos hc];rfl
   rw[e];exact⟨h,qe _,by lia,fun _=>hc⟩
  |false =>
   have e:zaa lt (kas_asc p (f+1) n)=zaa lt (kas_asc p f (n+1)):=by
    show zaa lt (if lt (ga p n) (ga p (n-1))=true then KasT.ret n else kas_asc p f (n+1))=_;rw[if_neg (by rw[hc];exact qv)]
   rw[e];obtain⟨a1,a2,a3,a4⟩:=zkc S p f (n+1) (by lia) (h.snoc S h1 hc);exact⟨a1,by lia,by lia,fun z=>a4 (by lia)⟩
theorem zgL (S:Swo lt):∀ f (p:Array Nat) n q,1<=n->n+f<=p.size->q+1<=n->Dsc lt p n->Eqs lt p (n-(q+1)) n ->
    let r:=zaa lt (kas_desc f p n q)
    r.1.size=p.size/\r.1.Perm p/\n<=r.2.1/\r.2.1<=n+f/\r.2.2+1<=r.2.1/\Dsc lt r.1 r.2.1/\Eqs lt r.1 (r.2.1-(r.2.2+1)) r.2.1
  |0,p,n,q,h1,hz,hq,h,he=>⟨rfl,Array.Perm.refl _,qe _,qe _,hq,h,he⟩
  |f+1,p,n,q,h1,hz,hq,h,he=>by
    have one:∀ p':Array Nat,Eqs lt p' (n+1-(0+1)) (n+1):=fun p' i j a b c d=>by
      have e1:i=n:=by lia
      have e2:j=n:=by lia
      subst e1;subst e2;exact irr S _
    cases hc:lt (ga p n) (ga p (n-1))with
    |true =>
      have hn:lt (ga p (n-1)) (ga p n)=false:=S.asymm _ _ hc;by_cases hq0:q > 0
      . have e : zaa lt (kas_desc (f + 1) p n q) = zaa lt (kas_desc f (kas_rev p (n - (q + 1)) n) (n + 1) 0) := by
          show zaa lt (if lt (ga p n) (ga p (n-1))=true then(if q > 0 then kas_desc f (kas_rev p (n-(q+1)) n) (n+1) 0 else kas_desc f p (n+1) 0)else _)=_;rw[if_pos hc,if_pos hq0]
        have ht:=h.turn S (a:=n-(q+1)) (by lia) (by lia) he;have k1:ga (kas_rev p (n-(q+1)) n) n=ga p n:=by rw[zcy (by lia),if_neg (by lia)]
        have k2:ga (kas_rev p (n-(q+1)) n) (n-1)=ga p (n-(q+1)):=by
          rw[zcy (by lia),if_pos ⟨by lia,by lia⟩];congr 1;lia
        have hs:=Dsc.snoc S (p:=kas_rev p (n-(q+1)) n) h1 ht (by
          rw[k1,k2];exact S.ntrans (ga p n) (ga p (n-1)) (ga p (n-(q+1))) hn (he _ _ (by lia) (by lia) (by lia) (by lia)))
        have ih:=zgL S f (kas_rev p (n-(q+1)) n) (n+1) 0 (by lia) (by rw[zcG];lia) (by lia) hs (one _);rw[e];obtain⟨a1,a2,a3,a4,a5,a6,a7⟩:=ih;exact⟨a1.trans zcG,a2.trans zb5,by lia,by lia,a5,a6,a7⟩
      . have e : zaa lt (kas_desc (f + 1) p n q) = zaa lt (kas_desc f p (n + 1) 0) := by
          show zaa lt (if lt (ga p n) (ga p (n-1))=true then(if q > 0 then kas_desc f (kas_rev p (n-(q+1)) n) (n+1) 0 else kas_desc f p (n+1) 0)else _)=_;rw[if_pos hc,if_neg hq0]
        have ih:=zgL S f p (n+1) 0 (by lia) (by lia) (by lia) (h.snoc S h1 hn) (one _);rw[e];obtain⟨a1,a2,a3,a4,a5,a6,a7⟩:=ih;exact⟨a1,a2,by lia,by lia,a5,a6,a7⟩
    |false =>
      cases hd:lt (ga p (n-1)) (ga p n)with
      |true =>
        have e:zaa lt (kas_desc (f+1) p n q)=(p,n,q):=by
          show zaa lt (if lt (ga p n) (ga p (n-1))=true then _ else KasT.ask (ga p (n-1)) (ga p n) fun d=>if d=true then .ret (p,n,q)else kas_desc f p (n+1) (q+1))=_;rw[if_neg (by rw[hc];exact qv)];show zaa lt (if lt (ga p (n-1)) (ga p n)=true then _ else _)=_;rw[if_pos hd];rfl
        rw[e];exact⟨rfl,Array.Perm.refl _,qe _,by show n<=_;lia,hq,h,he⟩
      |false =>
        have e:zaa lt (kas_desc (f+1) p n q)=zaa lt (kas_desc f p (n+1) (q+1)):=by
          show zaa lt (if lt (ga p n) (ga p (n-1))=true then _ else KasT.ask (ga p (n-1)) (ga p n) fun d=>if d=true then .ret (p,n,q)else kas_desc f p (n+1) (q+1))=_;rw[if_neg (by rw[hc];exact qv)];show zaa lt (if lt (ga p (n-1)) (ga p n)=true then _ else _)=_;rw[if_neg (by rw[hd];exact qv)]
        have heq:Eqs lt p (n+1-(q+1+1)) (n+1):=by
          intro i j a b c d;rcases qX i n with gi|gi<;>rcases qX j n with gj|gj
          . exact he i j (by lia) gi (by lia) gj
          . have:j=n:=by lia
            subst this;exact S.ntrans (ga p j) (ga p (j-1)) (ga p i) hd (he i (j-1) (by lia) gi (by lia) (by lia))
          . have:i=n:=by lia
            subst this;exact S.ntrans (ga p j) (ga p (i-1)) (ga p i) (he (i-1) j (by lia) (by lia) (by lia) gj) hc
          . have e1:i=n:=by lia
            have e2:j=n:=by lia
            subst e1;subst e2;exact irr S _
        have ih:=zgL S f p (n+1) (q+1) (by lia) (by lia) (by lia) (h.snoc S h1 hd) heq;rw[e];obtain⟨a1,a2,a3,a4,a5,a6,a7⟩:=ih;exact⟨a1,a2,by lia,by lia,a5,a6,a7⟩
def zgG (lt:Nat->Nat->Bool)(p:Array Nat)(nrem:Nat)(r:Nat×Array Nat):Prop:=r.2.size=p.size/\r.2.Perm p/\1<=r.1/\r.1<=nrem/\Asc lt r.2 r.1
def zmv (S:Swo lt){p:Array Nat}{n nrem:Nat}(h1:1<=n)(hn:n<=nrem)(hz:nrem<=p.size)(h:Dsc lt p n):zgG lt p nrem (zaa lt (kas_tail3 n nrem p)):=by
 have e:zaa lt (kas_tail3 n nrem p)=(zaa lt (kas_asc (kas_rev p 0 n) (nrem-n) n),kas_rev p 0 n):=by
  unfold kas_tail3;rw[zcK];rfl
 rw[e];obtain⟨a1,a2,a3,_⟩:=zkc S (kas_rev p 0 n) (nrem-n) n h1 (h.rev (by lia));exact⟨zcG,zb5,by show 1<=zaa lt _;lia,by show zaa lt _<=nrem;lia,a1⟩
def zg9 (S:Swo lt){p:Array Nat}{n nrem:Nat}(h1:1<=n)(hn:n+1<=nrem)(hz:nrem<=p.size)(h:Dsc lt p (n+1)):zgG lt p nrem (zaa lt (kas_descPart n nrem p)):=by
 unfold kas_descPart;rw[zcK]
 have d:=zgL S (nrem-(n+1)) p (n+1) 0 (by lia) (by lia) (by lia) h (fun i j a b c d=>by
  have e1:i=n:=by lia
  have e2:j=n:=by lia
  subst e1;subst e2;exact irr S _)
 dsimp only at d;generalize zaa lt (kas_desc (nrem-(n+1)) p (n+1) 0)=r at d ⊢;obtain⟨a1,a2,a3,a4,a5,a6,a7⟩:=d;by_cases hq:r.2.2 > 0
 ·rw[if_pos hq];obtain⟨b1,b2,b3,b4,b5⟩:=zmv S (p:=kas_rev r.1 (r.2.1-(r.2.2+1)) r.2.1) (n:=r.2.1) (nrem:=nrem) (by lia) (by lia) (by rw[zcG];lia) (a6.turn S (by lia) (by lia) a7);exact⟨b1.trans (zcG.trans a1),b2.trans (zb5.trans a2),b3,b4,b5⟩
 ·rw[if_neg hq];obtain⟨b1,b2,b3,b4,b5⟩:=zmv S (p:=r.1) (n:=r.2.1) (nrem:=nrem) (by lia) (by lia) (by lia) a6;exact⟨b1.trans a1,b2.trans a2,b3,b4,b5⟩
def zqw (S:Swo lt){p:Array Nat}{nrem:Nat}(h1:1<=nrem)(hz:nrem<=p.size):zgG lt p nrem (zaa lt (kas_count nrem p)):=by
 unfold kas_count;rw[zcK]
 have h0:Asc lt p 1:=fun i j a b=>by
  have e1:i=0:=by lia
  have e2:j=0:=by lia
  subst e1;subst e2;exact irr S _
 obtain⟨a1,a2,a3,a4⟩:=zkc S p (nrem-1) 1 (qe _) h0;generalize zaa lt (kas_asc p (nrem-1) 1)=n at a1 a2 a3 a4 ⊢;by_cases hn:(n==nrem)=true
 ·rw[if_pos hn];have:n=nrem:=by simpa using hn
  exact⟨rfl,Array.Perm.refl _,a2,by show n<=nrem;lia,a1⟩
 ·rw[if_neg hn];have hne:n≠nrem:=by simpa using hn
  have hlt:=a4 (by lia);by_cases hn1:n > 1
  ·rw[if_pos hn1];show zgG lt p nrem (zaa lt (if lt (ga p 0) (ga p (n-1))=true then KasT.ret (n,p)else kas_descPart n nrem (kas_rev p 0 n)));cases hc:lt (ga p 0) (ga p (n-1))with
   |true=>rw[if_pos rfl];exact⟨rfl,Array.Perm.refl _,a2,by show n<=nrem;lia,a1⟩
   |false =>
    rw[if_neg qv];have hd:=a1.rev (n:=n) (by lia)
    have hs:=Dsc.snoc S (p:=kas_rev p 0 n) a2 hd (by
     have k1:ga (kas_rev p 0 n) n=ga p n:=by rw[zcy (by lia),if_neg (by lia)]
     have k2:ga (kas_rev p 0 n) (n-1)=ga p 0:=by rw[zcy (by lia),if_pos ⟨by lia,by lia⟩];congr 1;lia
     rw[k1,k2];exact S.ntrans (ga p n) (ga p (n-1)) (ga p 0) (S.asymm _ _ hlt) hc)
    obtain⟨b1,b2,b3,b4,b5⟩:=zg9 S (p:=kas_rev p 0 n) (n:=n) (nrem:=nrem) a2 (by lia) (by rw[zcG];lia) hs;exact⟨b1.trans zcG,b2.trans zb5,b3,b4,b5⟩
  ·rw[if_neg hn1];have e:n=1:=by lia
   subst e
   exact zg9 S (qe _) (by lia) hz (Dsc.snoc S (qe _) (fun i j a b=>by
    have e1:i=0:=by lia
    have e2:j=0:=by lia
    subst e1;subst e2;exact irr S _) (S.asymm _ _ hlt))
theorem zhO (S:Swo lt){p:Array Nat}{k:Nat}(h:Asc lt p k):∀ f l r,l<=r->r<=k->r-l<=f->(∀ i,i<l->lt (ga p k) (ga p i)=false)->(∀ i,r<=i->i<k->lt (ga p k) (ga p i)=true) ->
  let m:=zaa lt (kas_place p k f l r)
  m<=k/\(∀ i,i<m->lt (ga p k) (ga p i)=false)/\(∀ i,m<=i->i<k->lt (ga p k) (ga p i)=true)
 |0,l,r,h1,h2,h3,hl,hr=>by
  have:l=r:=by lia
  subst this;exact⟨h2,hl,hr⟩
 |f+1,l,r,h1,h2,h3,hl,hr=>by
  by_cases hlr:l ≥ r
  ·have e:zaa lt (kas_place p k (f+1) l r)=l:=by
    unfold kas_place;rw[if_pos hlr];rfl
   rw[e];have:l=r:=by lia
   subst this;exact⟨h2,hl,hr⟩
  ·have e:zaa lt (kas_place p k (f+1) l r)=zaa lt (if lt (ga p k) (ga p ((l+r)/2))=true then kas_place p k f l ((l+r)/2)else kas_place p k f ((l+r)/2+1) r):=by
    conv=>lhs;unfold kas_place
    rw[if_neg hlr];rfl
   rw[e];cases hc:lt (ga p k) (ga p ((l+r)/2))with
   |true =>
    rw[if_pos rfl];refine zhO S h f l ((l+r)/2) (by lia) (by lia) (by lia) hl fun i hi hik=>?_
    cases hx:lt (ga p k) (ga p i)with
    |true=>rfl
    |false =>
     have:=S.ntrans (ga p ((l+r)/2)) (ga p i) (ga p k) (h _ _ hi hik) hx;rw[hc]at this;exact this.symm
   |false =>
    rw[if_neg qv];refine zhO S h f ((l+r)/2+1) r (by lia) h2 (by lia) (fun i hi=>?_) hr;exact S.ntrans (ga p i) (ga p ((l+r)/2)) (ga p k) (h _ _ (by lia) (by lia)) hc
theorem znZ (S:Swo lt):∀ f (p:Array Nat) k,k+f<=p.size->Asc lt p k->let r:=zaa lt (kas_bin f p k);r.size=p.size/\r.Perm p/\Asc lt r (k+f)
 |0,p,k,_,h=>⟨rfl,Array.Perm.refl _,h⟩
 |f+1,p,k,hz,h=>by
  have e:zaa lt (kas_bin (f+1) p k)=zaa lt (kas_bin f (bubble p k (k-zaa lt (kas_place p k k 0 k))) (k+1)):=by
   show zaa lt ((kas_place p k k 0 k).bind fun l=>kas_bin f (bubble p k (k-l)) (k+1))=_;rw[zcK]
  rw[e];obtain⟨m1,m2,m3⟩:=zhO S h k 0 k (qP _) (qe _) (by lia) (fun i hi=>absurd hi (by lia)) (fun i hi hik=>absurd hi (by lia));generalize zaa lt (kas_place p k k 0 k)=m at m1 m2 m3 ⊢
  have hb:∀ i,ga (bubble p k (k-m)) i=if i=m then ga p k else if m<i/\i<=k then ga p (i-1)else ga p i:=fun i=>by
   rw[zop (by lia) (by lia),show k-(k-m)=m by lia]
  have hs:Asc lt (bubble p k (k-m)) (k+1):=by
   intro i j hij hj;rw[hb,hb];by_cases hi:i=m
   ·rw[if_pos hi];by_cases hjm:j=m
    ·rw[if_pos hjm];exact irr S _
    ·rw[if_neg hjm,if_pos ⟨by lia,by lia⟩];exact S.asymm _ _ (m3 (j-1) (by lia) (by lia))
   ·rw[if_neg hi];by_cases hjm:j=m
    ·rw[if_pos hjm,if_neg (by lia)];exact m2 i (by lia)
    ·rw[if_neg hjm];by_cases hi2:m<i
     ·rw[if_pos (show m<i/\i<=k from ⟨hi2,by lia⟩),if_pos (show m<j/\j<=k from ⟨by lia,by lia⟩)];exact h _ _ (by lia) (by lia)
     ·rw[if_neg (show ¬ (m<i/\i<=k) by lia)];by_cases hj2:m<j
      ·rw[if_pos (show m<j/\j<=k from ⟨hj2,by lia⟩)];exact h _ _ (by lia) (by lia)
      ·rw[if_neg (show ¬ (m<j/\j<=k) by lia)];exact h _ _ hij (by lia)
  obtain⟨a1,a2,a3⟩:=znZ S f (bubble p k (k-m)) (k+1) (by rw[bubble_size];lia) hs;exact⟨a1.trans (bubble_size _ _ _),a2.trans (bubble_perm _ _ _),by rw[show k+(f+1)=k+1+f by lia];exact a3⟩
def zsL (S:Swo lt){n:Nat}(h1:1<=n):(zaa lt (kas_sort n)).size=n/\(zaa lt (kas_sort n)).Perm (List.toArray (List.range n))/\Asc lt (zaa lt (kas_sort n)) n:=by
 unfold kas_sort;rw[zcK];obtain⟨a1,a2,a3,a4,a5⟩:=zqw S (p:=List.toArray (List.range n)) (nrem:=n) h1 (by simp);generalize zaa lt (kas_count n (List.toArray (List.range n)))=r at a1 a2 a3 a4 a5 ⊢;have hsz:(List.toArray (List.range n)).size=n:=by simp
 by_cases hr:r.1<n
 ·rw[if_pos hr];have em:max r.1 1=r.1:=by lia
  rw[em];obtain⟨b1,b2,b3⟩:=znZ S (n-r.1) r.2 r.1 (by lia) a5;exact⟨b1.trans (a1.trans hsz),b2.trans a2,by rw[show r.1+(n-r.1)=n by lia]at b3;exact b3⟩
 ·rw[if_neg hr];have e:r.1=n:=by lia
  rw[e]at a5;exact⟨a1.trans hsz,a2,a5⟩
def KIn {α:Type}(n:Nat)(post:α->Prop):KasT α->Prop
 |.ret a=>post a
 |.ask i j k=>i<n/\j<n/\∀ b,KIn n post (k b)
theorem KIn.bind {α β:Type}{n:Nat}{post:α->Prop}{post':β->Prop}{f:α->KasT β}(hf:∀ a,post a->KIn n post' (f a)):∀ (t:KasT α),KIn n post t->KIn n post' (t.bind f)
 |.ret a,h=>hf a h
 |.ask i j k,h=>⟨h.1,h.2.1,fun b=>KIn.bind hf (k b) (h.2.2 b)⟩
def Ent (n:Nat)(p:Array Nat):Prop:=∀ x∈p.toList,x<n
theorem Ent.at {n:Nat}{p:Array Nat}(h0:0<n)(h:Ent n p)(i:Nat):ga p i<n:=by
 rw[zfR];cases e:p[i]? with
 |none=>exact h0
 |some x =>
  rw[<- Array.getElem?_toList]at e;exact h x (qf e)
def Ent.perm {n:Nat}{p r:Array Nat}(hp:r.Perm p)(h:Ent n p):Ent n r:=fun x hx=>h x ((Array.perm_iff_toList_perm.mp hp).mem_iff.mp hx)
theorem zkH {n:Nat}{p:Array Nat}(h0:0<n)(h:Ent n p):∀ f k,KIn n (fun _=>True) (kas_asc p f k)
 |0,_=>trivial
 |f+1,k=>⟨h.at h0 _,h.at h0 _,fun b=>by
  cases b with
  |true=>exact trivial
  |false=>exact zkH h0 h f (k+1)⟩
theorem zgK {n:Nat}(h0:0<n):∀ f (p:Array Nat) k q,Ent n p->KIn n (fun r=>Ent n r.1) (kas_desc f p k q)
 |0,p,k,q,h=>h
 |f+1,p,k,q,h=>⟨h.at h0 _,h.at h0 _,fun b=>by
  cases b with
  |true =>
   show KIn n _ (if q > 0 then _ else _);by_cases hq:q > 0
   ·rw[if_pos hq];exact zgK h0 f _ _ _ (h.perm zb5)
   ·rw[if_neg hq];exact zgK h0 f _ _ _ h
  |false=>exact⟨h.at h0 _,h.at h0 _,fun d=>by
    cases d with
    |true=>exact h
    |false=>exact zgK h0 f _ _ _ h⟩⟩
def zl7 {n k m:Nat}{p:Array Nat}(h0:0<n)(h:Ent n p):KIn n (fun r=>Ent n r.2) (kas_tail3 k m p):=by
 refine KIn.bind (post:=fun _=>True) (fun r _=>?_) _ (zkH h0 (h.perm zb5) _ _);exact h.perm zb5
def zhm {n k m:Nat}{p:Array Nat}(h0:0<n)(h:Ent n p):KIn n (fun r=>Ent n r.2) (kas_descPart k m p):=by
 refine KIn.bind (post:=fun r=>Ent n r.1) (fun r hr=>?_) _ (zgK h0 _ _ _ _ h);by_cases hq:r.2.2 > 0
 ·rw[if_pos hq];exact zl7 h0 (hr.perm zb5)
 ·rw[if_neg hq];exact zl7 h0 hr
def zrf {n m:Nat}{p:Array Nat}(h0:0<n)(h:Ent n p):KIn n (fun r=>Ent n r.2) (kas_count m p):=by
 refine KIn.bind (post:=fun _=>True) (fun k _=>?_) _ (zkH h0 h _ _);by_cases hk:(k==m)=true
 ·rw[if_pos hk];exact h
 ·rw[if_neg hk];by_cases h1:k > 1
  ·rw[if_pos h1];refine⟨h.at h0 _,h.at h0 _,fun c=>?_⟩;cases c with
   |true=>exact h
   |false=>exact zhm h0 (h.perm zb5)
  ·rw[if_neg h1];exact zhm h0 h
theorem zhL {n:Nat}{p:Array Nat}{k:Nat}(h0:0<n)(h:Ent n p):∀ f l r,KIn n (fun _=>True) (kas_place p k f l r)
 |0,_,_=>trivial
 |f+1,l,r=>by
  unfold kas_place;by_cases hl:l ≥ r
  ·rw[if_pos hl];exact trivial
  ·rw[if_neg hl];refine⟨h.at h0 _,h.at h0 _,fun c=>?_⟩;cases c with
   |true=>exact zhL h0 h f _ _
   |false=>exact zhL h0 h f _ _
theorem zow {n:Nat}(h0:0<n):∀ f (p:Array Nat) k,Ent n p->KIn n (fun r=>Ent n r) (kas_bin f p k)
 |0,p,k,h=>h
 |f+1,p,k,h=>KIn.bind (post:=fun _=>True) (fun l _=>zow h0 f _ _ (h.perm (bubble_perm _ _ _))) _ (zhL h0 h _ _ _)
def ztj {n:Nat}(h0:0<n):KIn n (fun _=>True) (kas_sort n):=by
 refine KIn.bind (post:=fun r=>Ent n r.2) (fun r hr=>?_) _ (zrf h0 (p:=List.toArray (List.range n)) (fun x hx=>by simpa using hx));by_cases h:r.1<n
 ·rw[if_pos h];have hb:=zow h0 (n-max r.1 1) r.2 (max r.1 1) hr;clear h;generalize kas_bin (n-max r.1 1) r.2 (max r.1 1)=t at hb
  induction t with
  |ret a=>exact trivial
  |ask i j k ih=>exact⟨hb.1,hb.2.1,fun b=>ih b (hb.2.2 b)⟩
 ·rw[if_neg h];exact trivial
end
open PySem PySem.Spec PySem.W PyProof.Rows L2
def plt (a b:Int×Int):Bool:=if a.1=b.1 then decide (a.2<b.2)else decide (a.1<b.1)
def zlW (cs:List (Int×Int)):Swo fun i j=>plt (cs.getD i (0,0)) (cs.getD j (0,0)) where
  asymm:=fun a b h=>by
    unfold plt at h ⊢;generalize cs.getD a (0,0)=A at *;generalize cs.getD b (0,0)=B at *;split at h<;>split<;>simp at h ⊢<;>lia
  ntrans:=fun a b c h1 h2=>by
    unfold plt at h1 h2 ⊢;generalize cs.getD a (0,0)=A at *;generalize cs.getD b (0,0)=B at *;generalize cs.getD c (0,0)=C at *;split at h1<;>split at h2<;>split<;>simp at h1 h2 ⊢<;>lia
def PrV (h:Heap)(v:Value)(c:Int×Int):Prop:=∃ (a:Addr) (o:Obj) (n:Nat) (t u:Tok),v=.ref a/\h.get? a=some o/\o.cls=.type "tuple"/\o.data=.seq #[.int c.1 t,.int c.2 u] n
theorem kwp {α:Type}{cmp:Nat->Nat->(Bool->Shared->Prop)->Shared->Prop}{lt:Nat->Nat->Bool}{n:Nat}{s:Shared}(hc:∀ i j C,i<n->j<n->C (lt i j) s->cmp i j C s){post:α->Prop}(Q:α->Shared->Prop) :
  ∀ t:KasT α,KIn n post t->Q (zaa lt t) s->t.kasWp cmp Q s
 |.ret _,_,q=>q
 |.ask i j k,h,q=>hc i j _ h.1 h.2.1 (kwp hc Q (k (lt i j)) (h.2.2 _) q)
section
variable {prog:Program}{w:World}{A:Around}{E:Value->Shared->Prop}{s:Shared}
def zpt {v v':Value}{c d:Int×Int}{Q:Bool->Shared->Prop}(h1:PrV s.heap v c)(h2:PrV s.heap v' d)(q:Q (plt c d) s):wpAny (model prog w) A (keyLt' (tuples' true) v v') Q E s:=by
 obtain⟨a,o,n,t,u,rfl,ho,_,hd⟩:=h1;obtain⟨a',o',n',t',u',rfl,ho',_,hd'⟩:=h2;refine kat_lt ho hd ho' hd' ?_;show KatLex prog w A true _ Q [(.int c.1 t,.int d.1 t'),(.int c.2 u,.int d.2 u')] 0 s;refine kat_cons (wpAny_eqBool_int ?_);by_cases e:c.1=d.1
 ·rw[show(c.1==d.1)=true by simpa using e];refine kat_yes (kat_cons (wpAny_eqBool_int ?_));by_cases e2:c.2=d.2
  ·rw[show(c.2==d.2)=true by simpa using e2];refine kat_yes (kat_nil ?_);have:plt c d=false:=by unfold plt;rw[if_pos e,e2];simp
   rw[this]at q;exact q
  ·rw[show(c.2==d.2)=false by simpa using e2];refine kat_no ?_;show wpAny (model prog w) A (oneLt' false _ _) Q _ s;refine kat_one _ _ (lt_int ?_);have:plt c d=decide (c.2<d.2):=by unfold plt;rw[if_pos e]
   rw[this]at q;exact q
 ·rw[show(c.1==d.1)=false by simpa using e];refine kat_no ?_;show wpAny (model prog w) A (oneLt' true _ _) Q _ s;refine oneLt_int ?_;have:plt c d=decide (c.1<d.1):=by unfold plt;rw[if_neg e]
  rw[this]at q;exact q
theorem zj4 {h:Heap}:∀ {vs:List Value} {cs:List (Int×Int)},Paired (PrV h) vs cs->∃ fs:List Value,KatTups h vs fs/\fs.length=vs.length/\∀ f∈fs,∃ i t,f=.int i t
 |_,_,.nil=>⟨[],trivial,rfl,fun f hf=>absurd hf (by simp)⟩
 |_,_,.cons (a:=v) (b:=c) r t=>by
  obtain⟨fs,k,hl,hf⟩:=zj4 t;obtain⟨a,o,n,tk,u,rfl,ho,hc,hd⟩:=r;refine⟨.int c.1 tk::fs,KatTups.cons ho hc hd rfl k,by simp[hl],fun f hm=>?_⟩;rcases qg.mp hm with rfl|hm
  ·exact⟨_,_,rfl⟩
  ·exact hf f hm
theorem zeF {α β:Type}{F:α->β->Prop}{da:α}{db:β}:∀ {l:List α} {m:List β},Paired F l m->∀ i,i<l.length->F (l.getD i da) (m.getD i db)
 |_,_,.nil,i,h=>absurd h (by simp)
 |_,_,.cons r _,0,_=>r
 |_::_,_::_,.cons _ t,i+1,h=>zeF (da:=da) (db:=db) t i (by simpa using h)
def zhY {a:Addr}{vs:List Value}{cs:List (Int×Int)}{n:Nat}{P:PySem.Fin->Shared->Prop}(ho:s.heap.get? a=some (seqObj "list" vs.toArray n))(hv:Paired (PrV s.heap) vs cs)(h64:vs.length<64)
  (h:∀ p:List Nat,p.Perm (List.range vs.length)->(∀ i j,i<=j->j<vs.length->plt (cs.getD (p.getD j 0) (0,0)) (cs.getD (p.getD i 0) (0,0))=false) ->
   P (.done (.ret .none)) { s with heap:=sortedHeap s.heap a vs (p.map fun i=>vs.getD i Value.none).toArray }) :
  wpAny (model prog w) A (Builtin.«list.sort» ⟨[.ref a],[]⟩) P E s:=by
 rw[list_sort_plain];have ha:a<s.heap.objs.size:=qo ho;refine wpAny_bind (listItems_at ho rfl ?_);refine wpAny_bind (listUpdate_at ho rfl ?_);obtain⟨e1,ho1⟩:∃ e1,(s.heap.update a (Obj.mapSeq fun _=>#[])).get? a=some (seqObj "list" #[] e1):=⟨_,get?_update_seq ho (fun _=>#[])⟩
 refine wpAny_bind (seqEpoch_at ho1 rfl ?_);refine wpAny_bind (wpAny_newTuple ?_);refine wpAny_bind (wpAny_newList ?_);refine wpAny_holding ?_
 have ho6:(((s.heap.update a (Obj.mapSeq fun _=>#[])).push (seqObj "tuple" vs.toArray 0)).push (seqObj "list" #[] 0)).get? a=some (seqObj "list" #[] e1):=by
  rw[Heap.get?_push_ne _ _ _ (by rw[size_push',Heap.size_update];exact qC (Nat.lt_succ_of_lt ha)),Heap.get?_push_ne _ _ _ (by rw[Heap.size_update];exact qC ha)];exact ho1
 have keep:∀ b u,b≠a->s.heap.get? b=some u->(((s.heap.update a (Obj.mapSeq fun _=>#[])).push (seqObj "tuple" vs.toArray 0)).push (seqObj "list" #[] 0)).get? b=some u:=fun b u hb hu=>by
  have hlt:b<s.heap.objs.size:=qo hu;rw[Heap.get?_push_ne _ _ _ (by rw[size_push',Heap.size_update];exact qC (Nat.lt_succ_of_lt hlt)),Heap.get?_push_ne _ _ _ (by rw[Heap.size_update];exact qC hlt),Heap.get?_update_ne _ _ _ _ hb];exact hu
 have hv6:Paired (PrV (((s.heap.update a (Obj.mapSeq fun _=>#[])).push (seqObj "tuple" vs.toArray 0)).push (seqObj "list" #[] 0))) vs cs:=Paired.imp' (fun v c hp=>by
  obtain⟨b,o,m,t,u,rfl,hb,hc,hd⟩:=hp;refine⟨b,o,m,t,u,rfl,keep b o (fun e=>?_) hb,hc,hd⟩;subst e;rw[ho]at hb;cases hb;injection hc with hc;exact absurd hc (by decide)) hv
 show wpAny (model prog w) A _ P E { s with heap:=((s.heap.update a (Obj.mapSeq fun _=>#[])).push (seqObj "tuple" vs.toArray 0)).push (seqObj "list" #[] 0) };have hh:sortedHeap s.heap a vs=fun out=>(((s.heap.update a (Obj.mapSeq fun _=>#[])).push (seqObj "tuple" vs.toArray 0)).push (seqObj "list" #[] 0)).update a (Obj.mapSeq fun _=>out):=rfl
 rw[hh]at h;generalize ((s.heap.update a (Obj.mapSeq fun _=>#[])).push (seqObj "tuple" vs.toArray 0)).push (seqObj "list" #[] 0)=h6 at *;dsimp only;have hsz:vs.toArray.size=vs.length:=by simp
 by_cases h2:vs.toArray.size<2
 ·rw[if_pos h2,if_pos h2];refine wpAny_bind (wpAny_pure ?_);rw[StateT.run_pure];refine wpAny_bind (wpAny_pure ?_);dsimp only;refine wpAny_bind (seqEpoch_at ho6 rfl ?_);refine wpAny_bind (listUpdate_at ho6 rfl ?_ (hsz2:=by rw[Array.size_map];show(pairsOf vs).size<=_;rw[pairsOf_size,sizeLine_eq];lia));simp only[bne_self_eq_false,Bool.false_eq_true,if_false]
  have q:=h (List.range vs.length) (List.Perm.refl _) (fun i j hij hj=>by
   have e1:i=0:=by lia
   have e2:j=0:=by lia
   subst e1;subst e2;exact irr (zlW cs) _)
  have eo:(List.map (fun i=>vs.getD i Value.none) (List.range vs.length)).toArray=Array.map (·.2) (vs.toArray.zip vs.toArray):=by
   have hz:vs.length<2:=by lia
   clear q h hv6 hh hv ho h64 hsz h2
   match vs,hz with
   |[],_=>simp
   |[x],_=>simp[List.range_succ]
  rw[eo]at q;exact wpAny_pure q
 ·rw[if_neg h2,if_neg h2];have hn2:2<=vs.length:=by lia
  obtain⟨fs,kt,hfl,hfi⟩:=zj4 hv6;refine wpAny_bind (kat_kind (s:={ s with heap:=h6 }) (T:=.type "int") kt (by lia) (fun v hm=>?_) (by rfl) ?_)
  ·obtain⟨i,t,rfl⟩:=hfi v hm;exact Looks.of_pure rfl
  have cmp:∀ (i j:Nat) (C:Bool->Shared->Prop),i<vs.length->j<vs.length->C (plt (cs.getD i (0,0)) (cs.getD j (0,0))) { s with heap:=h6 }->kas_ask prog w A (tuples' (Value.type "int" != Value.type "tuple")) vs i j C { s with heap:=h6 }:=fun i j C hi hj hC =>
   zpt (s:={ s with heap:=h6 }) (zeF hv6 i hi) (zeF hv6 j hj) hC
  refine wpAny_bind (wpAny_mono (kat_run (ks:=vs) (vs:=vs) (Q:=fun st' s'=>∃ p:Array Nat,p=zaa (fun i j=>plt (cs.getD i (0,0)) (cs.getD j (0,0))) (kas_sort vs.length)/\s'={ s with heap:=h6 }/\arrOf st'=p.map (kas_item (vs.toArray.zip vs.toArray))/\failedOf st'=none)
   (G:=fun p s'=>p=zaa (fun i j=>plt (cs.getD i (0,0)) (cs.getD j (0,0))) (kas_sort vs.length)/\s'={ s with heap:=h6 }) rfl hn2 h64 (fun p' st' s' a1 a2 a3 a4=>⟨p',a4.1,a4.2,a2,a3⟩) (kwp cmp _ _ (ztj (by lia)) ⟨rfl,rfl⟩)) ?_ fun _ _ e=>e)
  rintro⟨⟨⟩,st'⟩ s' ⟨p,hp,rfl,har,hf⟩;dsimp only;obtain⟨z1,z2,z3⟩:=zsL (zlW cs) (n:=vs.length) (by lia);rw[<- hp]at z1 z2 z3;have hout:=kat_snds (vs:=vs) (ks:=vs) rfl har;have hsz2:(List.toArray (p.toList.map fun i=>vs.getD i Value.none)).size=vs.length:=by rw[qm,qb,qL,z1]
  rw[hout];refine wpAny_bind (seqEpoch_at ho6 rfl ?_);refine wpAny_bind (listUpdate_at ho6 rfl ?_ (hsz2:=by rw[hsz2,sizeLine_eq];lia));rw[hf];simp only[bne_self_eq_false,Bool.false_eq_true,if_false];refine wpAny_pure (h p.toList ?_ fun i j hij hj=>?_)
  ·have:=Array.perm_iff_toList_perm.mp z2;simpa using this
  ·have e:∀ k,p.toList.getD k 0=ga p k:=fun k=>by rw[zfR,qw,Array.getElem?_toList]
   rw[e,e];exact z3 i j hij hj
def zka {l:Addr}{vs:List Value}{cs:List (Int×Int)}{Q:Value->Shared->Prop}(hl:s.heap.IsList l vs.toArray)(hv:Paired (PrV s.heap) vs cs)(h64:vs.length<64)
    (h:∀ p:List Nat,p.Perm (List.range vs.length)->(∀ i j,i<=j->j<vs.length->plt (cs.getD (p.getD j 0) (0,0)) (cs.getD (p.getD i 0) (0,0))=false) ->
      Q (.ref (s.heap.objs.size+1)) { s with heap:=sortedAll s.heap vs (p.map fun i=>vs.getD i Value.none).toArray }) :
    wpAny (model prog w) A (call (.builtin "sorted") [.ref l]) Q E s:=by
  refine Calls.call_function_entry kind_sorted plain_sorted entry_sorted (args_sorted1 _) ?_;unfold Builtin.«sorted»;refine wpAny_bind (m:=checkCount "sorted" 1 1 _) (wpAny_pure ?_);refine wpAny_bind (collect_list hl ?_);refine wpAny_bind (wpAny_newList ?_)
  have hsz:((s.heap.push (seqObj "list" #[] 0)).update s.heap.objs.size (Obj.mapSeq (·++vs.toArray))).objs.size=s.heap.objs.size+1:=by
    rw[Heap.size_update,size_push']
  have hoL:(((s.heap.push (seqObj "list" #[] 0)).update s.heap.objs.size (Obj.mapSeq (·++vs.toArray))).push (seqObj "list" vs.toArray 0)).get? (s.heap.objs.size+1)=some (seqObj "list" vs.toArray 0):=by
    rw[<- hsz];exact qp _ rfl
  have keep:∀ b o,s.heap.get? b=some o->(((s.heap.push (seqObj "list" #[] 0)).update s.heap.objs.size (Obj.mapSeq (·++vs.toArray))).push (seqObj "list" vs.toArray 0)).get? b=some o:=fun b o q=>by
    have hlt:b<s.heap.objs.size:=qo q;rw[Heap.get?_push_ne _ _ _ (by rw[hsz];exact qC (Nat.lt_succ_of_lt hlt)),Heap.get?_update_ne _ _ _ _ (qC hlt),Heap.get?_push_ne _ _ _ (qC hlt)];exact q
  show wpAny _ _ _ _ _ { s with heap:=((s.heap.push (seqObj "list" #[] 0)).update s.heap.objs.size (Obj.mapSeq (·++vs.toArray))).push (seqObj "list" vs.toArray 0) };rw[hsz]
  refine wpAny_bind (wpAny_holding (wpAny_call_entry slot_list_sort ⟨_,hoL,rfl⟩ entry_list_sort (zhY (s:={ s with heap:=((s.heap.push (seqObj "list" #[] 0)).update s.heap.objs.size (Obj.mapSeq (·++vs.toArray))).push (seqObj "list" vs.toArray 0) }) hoL (Paired.imp' (fun v c hp=>by
    obtain⟨b,o,m,t,u,e,hb,hc,hd⟩:=hp;exact⟨b,o,m,t,u,e,keep b o hb,hc,hd⟩) hv) h64 fun p a1 a2=>⟨_,rfl,?_⟩) (args_list_sort _)))
  exact wpAny_pure ⟨_,rfl,h p a1 a2⟩
end
def zvh (K:PySem.W.Frag):List V->Hp->VK->Prop:=fun xs H Q=>∃ (p:Addr) (ps:List Addr) (cs:List (Int×Int)),xs=[.ref p]/\SqL K H p (ps.map V.ref)/\zeK H ps cs/\cs.length<64 /\
 ∀ (l:Addr) (ps':List Addr) (cs':List (Int×Int)),H l=none->zeK H ps' cs'->cs'.Perm cs->cs'.Pairwise (fun a b=>plt b a=false)->Q (.ref l) (upd H l (.lst (ps'.map V.ref)))
theorem zjE:∀ {ps:List Addr} {its:List Value},Vals (ps.map V.ref) its->its=ps.map Value.ref
 |[],_,h=>by cases h;rfl
 |p::ps,_,h=>by
  cases h with
  |cons r t =>
   have:=zjE t;cases r;rw[this];rfl
theorem zjj:∀ ps:List Addr,Vals (ps.map V.ref) (ps.map Value.ref)
 |[]=>.nil
 |_::ps=>.cons rfl (zjj ps)
def zjb {α:Type}(l:List α)(d:α){p:List Nat}(h:p.Perm (List.range l.length)):(p.map fun i=>l.getD i d).Perm l:=by
 have:=h.map fun i=>l.getD i d
 refine this.trans ?_
 have e:(List.range l.length).map (fun i=>l.getD i d)=l:=by
  apply List.ext_getElem
  ·simp
  ·intro i h1 h2;simp[qw,qc h2]
 rw[e]
def zkI {X:Cx}{K:PySem.W.Frag}(hK:X.K=K):zaE X (.builtin "sorted") (zvh K):=fun pins s U H xs us Q I r h=>by
 subst hK;obtain⟨p,ps,cs,rfl,hS,hP,h64,q⟩:=h;obtain⟨u,rfl,ru⟩:=vals1 r;cases ru;obtain⟨its,rv,pl,hz⟩:=I.list hS;have ei:=zjE rv;subst ei;have hlen:=hP.length
 have prv:∀ {ps:List Addr} {cs:List (Int×Int)},zeK H ps cs->Paired (PrV s.heap) (ps.map Value.ref) cs:=by
  intro ps cs hP
  induction hP with
  |nil=>exact .nil
  |cons r t ih =>
   refine .cons ?_ ih;obtain⟨its2,r2,pl2,_⟩:=I.tuple (SqT.of r);obtain⟨o,ho,hc,n,hd⟩:=pl2;cases r2 with|cons x1 r2=>cases r2 with|cons x2 r2 =>
   cases r2;obtain⟨t1,rfl⟩:=x1;obtain⟨t2,rfl⟩:=x2;exact⟨_,o,n,t1,t2,rfl,ho,hc,hd⟩
 refine zka pl.isList (prv hP) (by rw[qb];lia) fun pm hpm hso=>?_
 rw[qb]at hpm hso
 have eo:(pm.map fun i=>(ps.map Value.ref).getD i Value.none)=(pm.map fun i=>ps.getD i 0).map Value.ref:=by
  rw[qT];apply List.map_congr_left;intro i hi;have hi':i<ps.length:=by simpa using hpm.mem_iff.mp hi
  simp[qw,qc hi']
 rw[eo];have hPl:(pm.map fun i=>ps.getD i 0).length=ps.length:=by rw[qb,hpm.length_eq,qW]
 obtain⟨e,he⟩:=sortedAll_at s.heap (ps.map Value.ref) ((pm.map fun i=>ps.getD i 0).map Value.ref).toArray
 have hPr:zeK H (pm.map fun i=>ps.getD i 0) (pm.map fun i=>cs.getD i (0,0)):=by
  have hb:∀ i∈pm,i<ps.length:=fun i hi=>by simpa using hpm.mem_iff.mp hi
  clear eo hPl he hpm hso
  induction pm with
  |nil=>exact .nil
  |cons i pm ih=>exact .cons (zeF hP i (hb i (by simp))) (ih fun j hj=>hb j (by simp[hj]))
 refine⟨.ref (s.heap.objs.size+1),_,I.laid (t':=s.toks) (a:=s.heap.objs.size+1) (o:=.lst ((pm.map fun i=>ps.getD i 0).map V.ref)) (fun b o q=>sortedAll_old q) (Nat.le_succ _) ⟨by rw[qb,hPl];have:=hz;rw[qb]at this;exact this,_,e,zjj _,he⟩,rfl,q _ _ _ (I.hok.fresh (Nat.le_succ _)) hPr ?_ ?_⟩
 ·rw[hlen]at hpm;exact zjb cs (0,0) hpm
 ·rw[List.pairwise_map,qae];intro i j hi hj hij;have:=hso i j (Nat.le_of_lt hij) (by rw[<- qW (n:=ps.length),<- hpm.length_eq];exact hj);simpa [qw,qc hi,qc hj]using this
section
variable {K:PySem.W.Frag}{H:Hp}
end
def zui (K:PySem.W.Frag):R2:=fun x y H Q=>∃ a b xs ys,x=.ref a/\y=.ref b/\SqT K H a xs/\SqT K H b ys/\xs.length+ys.length<=sizeLine/\(xs=[]->Q (.ref b) H)/\(xs≠[]->ys=[]->Q (.ref a) H)/\(xs≠[]->ys≠[]->∀ p,H p=none->Q (.ref p) (upd H p (.tup (xs++ys))))
def zp8 {X:Cx}{K:PySem.W.Frag}(hK:X.K=K):OpR X (binaryOp .Add) (zui K):=by
 subst hK;intro pins s U H x y v u Q I rx ry h;obtain⟨a,b,xs,ys,rfl,rfl,ha,hb,hz,q0,q1,q2⟩:=h;by_cases hx:xs=[]
 ·subst hx;cases rx;cases ry;obtain⟨its,r1,p1,_⟩:=I.tuple ha;obtain⟨its2,r2,p2,_⟩:=I.tuple hb;cases r1;obtain⟨⟨cls,dd,data,sl⟩,ho,hc,n,hd⟩:=id p1;obtain⟨⟨cls2,dd2,data2,sl2⟩,ho2,hc2,n2,hd2⟩:=id p2;simp only at hc hd hc2 hd2;subst hc hd hc2 hd2
  exact concat_meets ⟨_,ho,rfl⟩ ⟨_,ho2,rfl⟩ noFill_tuple_add seq_tuple_add PySem.F.slot_tuple_add PySem.F.entry_tuple_add (PySem.F.args_tuple_add_2 _ _)
   (tuple_addW0 a b _ its2.toArray n n2 dd dd2 sl sl2 (by simp)) ⟨ho,ho2,⟨.ref b,H,I,rfl,q0 rfl⟩⟩
 ·exact zs3 pins s U H _ _ v u Q I rx ry ⟨a,b,xs,ys,rfl,rfl,ha,hb,hx,hz,q1 hx,q2 hx⟩
end My
namespace Dp
open PySem
inductive D where
 |non|bl (b:Bool)|int (i:Int)|str (x:Str)|tup (xs:List D)|ref (n:Nat)|ty (n:String)|rl (xs:List D)|exn (c:Str)
 deriving Inhabited
inductive Cell where
 |lst (xs:List D)|ins (c:Str) (fs:List (Str×D))
 |dk (kvs:List (Str×D))|dt (kvs:List (List (Sum Int Str)×D))
 |tab (x:Str) (l c:Nat)
 deriving Inhabited
abbrev Sto:=List Cell
abbrev Rho:=List (Option D)
abbrev DK:=D->Sto->Prop
abbrev DE:=Rho->Sto->DK->Prop
abbrev DT:=Rho->Sto->(Bool->Sto->Prop)->Prop
abbrev DA:=Rho->Sto->(List D->Sto->Prop)->Prop
abbrev DG:=D->Rho->Sto->(Rho->Sto->Prop)->Prop
abbrev DGs:=List D->Rho->Sto->(Rho->Sto->Prop)->Prop
structure zjU where
 nx:Rho->Sto->Prop
 rt:DK
 bk:Rho->Sto->Prop:=fun _ _=>False
 ct:Rho->Sto->Prop:=fun _ _=>False
abbrev DS:=zjU->Rho->Sto->Prop
structure DIt where
 items:List D
 ok:Sto->Prop
abbrev DI:=Rho->Sto->(DIt->Sto->Prop)->Prop
abbrev DSp:=List D->Sto->DK->Prop
def big:Nat:=1000000
def fl:Nat->D->Bool
  |_,.ref _=>false
  |_,.ty _=>false
  |_,.rl _=>false
  |_,.exn _=>false
  |0,.tup _=>false
  |k+1,.tup xs=>xs.all (fl k)
  |_,.non=>true
  |_,.bl _=>true
  |_,.int _=>true
  |_,.str x=>x.cps.all (· < 0x110000)
mutual
def eqv:D->D->Bool
 |.non,.non=>true
 |.bl a,.bl b=>a==b
 |.bl a,.int j=>(if a then 1 else 0)==j
 |.int i,.bl b=>i==(if b then 1 else 0)
 |.int i,.int j=>decide (i=j)
 |.str x,.str y=>x==y
 |.tup xs,.tup ys=>eqvAll xs ys
 |_,_=>false
def eqvAll:List D->List D->Bool
 |[],[]=>true
 |x::xs,y::ys=>eqv x y&&eqvAll xs ys
 |_,_=>false
end
def Lst (S:Sto)(x:D)(xs:List D):Prop:=x=.rl xs\/∃ n,x=.ref n/\S[n]?=some (.lst xs)
def zdi (S:Sto)(x:D)(xs:List D):Prop:=x=.tup xs\/Lst S x xs
def ixD (n:Nat)(k:Int):Option Nat:=if 0<=k then(if k<n then some k.toNat else none)else if -(n:Int)<=k then some (k+n).toNat else none
def atD (xs:List D)(k:Int):Option D:=(ixD xs.length k).bind fun j=>xs[j]?
def atS (z:Str)(k:Int):Option Nat:=(ixD z.cps.toList.length k).bind fun j=>z.cps.toList[j]?
def slD (n:Nat)(d:Nat):Option Int->Nat
 |none=>d
 |some k=>if k<0 then(k+n).toNat else min k.toNat n
def cutD {α:Type}(xs:List α)(lo hi:Option Int):List α:=(xs.drop (slD xs.length 0 lo)).take (slD xs.length xs.length hi-slD xs.length 0 lo)
def zbH (i:Nat):DE:=fun Z S Q=>∃ d,Z[i]?=some (some d)/\Q d S
def dC (d:D):DE:=fun _ S Q=>Q d S
abbrev DR2:=D->D->Sto->DK->Prop
def dOp (r:DR2)(ta tb:DE):DE:=fun Z S Q=>ta Z S fun x S1=>tb Z S1 fun y S2=>r x y S2 Q
def dUn (r:D->Sto->DK->Prop)(ta:DE):DE:=fun Z S Q=>ta Z S fun x S1=>r x S1 Q
def zF:DA:=fun _ S Q=>Q [] S
def zf (ta:DE)(tr:DA):DA:=fun Z S Q=>ta Z S fun x S1=>tr Z S1 fun xs S2=>Q (x::xs) S2
def dTup (t:DA):DE:=fun Z S Q=>t Z S fun xs S1=>xs.length<=big/\Q (.tup xs) S1
def zbG (t:DA):DE:=fun Z S Q=>t Z S fun xs S1=>xs.length<=big/\Q (.ref S1.length) (S1++[.lst xs])
def dCall (f:DSp)(t:DA):DE:=fun Z S Q=>t Z S fun xs S1=>f xs S1 Q
abbrev DB:=List D->Sto->DK->Prop
def dB (r:DB)(t:DA):DE:=fun Z S Q=>t Z S fun xs S1=>r xs S1 Q
def dT (t:DE):DT:=fun Z S Q=>t Z S fun x S1=>∃ b,x=.bl b/\Q b S1
def zdZ (t u:DT):DT:=fun Z S Q=>t Z S fun c S1=>if c=true then u Z S1 Q else Q false S1
def dOr (t u:DT):DT:=fun Z S Q=>t Z S fun c S1=>if c=true then Q true S1 else u Z S1 Q
def zes (t:DT):DT:=fun Z S Q=>t Z S fun c S1=>Q (!c) S1
def zgI (t u:DE):DE:=fun Z S Q=>t Z S fun x S1=>∃ c,x=.bl c/\if c=true then u Z S1 Q else Q (.bl false) S1
def zgM (t:DE):DE:=fun Z S Q=>t Z S fun x S1=>∃ c,x=.bl c/\Q (.bl (!c)) S1
def zqh (c:DT)(ta tb:DE):DE:=fun Z S Q=>c Z S fun b S1=>if b=true then ta Z S1 Q else tb Z S1 Q
def zh9 (r r':DR2)(ta tb tc:DE):DE:=fun Z S Q=>ta Z S fun x S1=>tb Z S1 fun y S2=>r x y S2 fun z S3=>∃ c,z=.bl c/\if c=true then tc Z S3 fun w S4=>r' y w S4 Q else Q (.bl false) S3
def zhB:Option DE->Rho->Sto->(Option Int->Sto->Prop)->Prop
 |none=>fun _ S Q=>Q none S
 |some t=>fun Z S Q=>t Z S fun x S1=>∃ i,x=.int i/\Q (some i) S1
def dSl (r:D->Option Int->Option Int->Sto->DK->Prop)(ta:DE)(lo hi:Option DE):DE:=fun Z S Q=>ta Z S fun x S1=>zhB lo Z S1 fun l S2=>zhB hi Z S2 fun h S3=>r x l h S3 Q
def zaQ (f:Str)(ta:DE):DE:=fun Z S Q=>ta Z S fun x S1=>∃ n c fs d,x=.ref n/\S1[n]?=some (.ins c fs)/\fs.lookup f=some d/\Q d S1
def putD (f:Str)(v:D):List (Str×D)->List (Str×D)
 |[]=>[(f,v)]
 |(g,x)::r=>if g=f then(g,v)::r else(g,x)::putD f v r
def znn (c:Str)(init:DSp):DSp:=fun ds S Q=>init (.ref S.length::ds) (S++[.ins c []]) fun d S2=>d=.non/\Q (.ref S.length) S2
abbrev DM:=D->List D->Sto->DK->Prop
def dM (r:DM)(ta:DE)(t:DA):DE:=fun Z S Q=>ta Z S fun x S1=>(∃ n ys,x=.ref n/\S1[n]?=some (.lst ys))/\t Z S1 fun xs S2=>r x xs S2 Q
def oI (C:Int->Int->Prop)(g:Int->Int->D):DR2:=fun x y S Q=>∃ i j,x=.int i/\y=.int j/\C i j/\Q (g i j) S
def oI0 (g:Int->Int->D):DR2:=fun x y S Q=>∃ i j,x=.int i/\y=.int j/\Q (g i j) S
def oU (g:Int->D):D->Sto->DK->Prop:=fun x S Q=>∃ i,x=.int i/\Q (g i) S
def zaP (i j:Int):Prop:=(My.Bd 8000 i/\My.Bd 8000 j)\/i.natAbs<2 ^ 64\/j.natAbs<2 ^ 64
def zrN (_ j:Int):Prop:=j≠0/\My.Bd 8000 j
def zvX (_ j:Int):Prop:=j≠0
def zao:DR2:=fun x y S Q=>(∃ i j,x=.int i/\y=.int j/\Q (.int (i+j)) S)\/(∃ xs ys,x=.tup xs/\y=.tup ys/\xs.length+ys.length<=big/\Q (.tup (xs++ys)) S) \/
 (∃ xs ys,Lst S x xs/\Lst S y ys/\xs.length+ys.length<=big/\Q (.ref S.length) (S++[.lst (xs++ys)])) \/
 (∃ i j:Str,x=.str i/\y=.str j/\i.length+j.length<=big/\Q (.str (i++j)) S)
def zam:DR2:=oI0 fun i j=>.int (i-j)
def zxL (z:Str)(n:Int):Str:=if n<1 then Str.empty else if(n==1||z.length==0)=true then z else⟨(List.replicate n.toNat z.cps).foldl (·++·) #[]⟩
@[irreducible] def Hg (x:Int):Prop:=x.natAbs<2 ^ 1048576
def zbj:DR2:=fun x y S Q=>oI zaP (fun i j=>.int (i*j)) x y S Q\/(∃ (z:Str) (n:Int),x=.str z/\y=.int n/\z.length<=1000/\-1000<=n/\n<=1000/\Q (.str (zxL z n)) S)\/oI (fun i j=>Hg i/\Hg j) (fun i j=>.int (i*j)) x y S Q
def oDiv:DR2:=oI zrN fun i j=>.int (i.fdiv j)
def oMod:DR2:=oI zvX fun i j=>.int (i.fmod j)
def zck:D->Sto->DK->Prop:=oU fun i=>.int (-i)
def oLt:DR2:=oI0 fun i j=>.bl (decide (i<j))
def oLe:DR2:=oI0 fun i j=>.bl (decide (i<=j))
def oGt:DR2:=oI0 fun i j=>.bl (decide (j<i))
def oGe:DR2:=oI0 fun i j=>.bl (decide (j<=i))
def ziu (S:Sto):List D->List (List D)->Prop
 |[],[]=>True
 |x::xs,z::zs=>Lst S x z/\ziu S xs zs
 |_,_=>False
def zfc (xss:List (List D)):Bool:=xss.all fun zs=>zs.all (fl 20)
def EqD (S:Sto)(x y:D)(b:Bool):Prop:=(fl 20 x=true/\fl 20 y=true/\b=eqv x y)\/(∃ xs ys,Lst S x xs/\Lst S y ys/\xs.all (fl 20)=true/\ys.all (fl 20)=true/\b=eqvAll xs ys) \/
 (∃ xs ys xss yss,Lst S x xs/\Lst S y ys/\ziu S xs xss/\ziu S ys yss/\zfc xss=true/\zfc yss=true/\b=eqvAll (xss.map D.tup) (yss.map D.tup))
def oEq:DR2:=fun x y S Q=>∃ b,EqD S x y b/\Q (.bl b) S
def oNe:DR2:=fun x y S Q=>∃ b,EqD S x y b/\Q (.bl (!b)) S
def InD (S:Sto)(x y:D)(b:Bool):Prop:=∃ ys,zdi S y ys/\fl 20 x=true/\ys.all (fl 20)=true/\b=ys.any fun z=>eqv z x
def oIn:DR2:=fun x y S Q=>(∃ b,InD S x y b/\Q (.bl b) S)\/(∃ (c:Nat) (z:Str),x=.str ⟨#[c]⟩/\y=.str z/\Q (.bl (decide (c∈z.cps.toList))) S)
def zkA:DR2:=fun x y S Q=>(∃ b,InD S x y b/\Q (.bl (!b)) S)\/(∃ (c:Nat) (z:Str),x=.str ⟨#[c]⟩/\y=.str z/\Q (.bl (!decide (c∈z.cps.toList))) S)
def zia:D->Bool
 |.non=>true
 |_=>false
def oIs:DR2:=fun x y S Q=>(y=.non/\Q (.bl (zia x)) S)\/(∃ a b,x=.bl a/\y=.bl b/\Q (.bl (a==b)) S)
def zc8:DR2:=fun x y S Q=>(y=.non/\Q (.bl (!zia x)) S)\/(∃ a b,x=.bl a/\y=.bl b/\Q (.bl (!(a==b))) S)
def oIx:DR2:=fun x y S Q=>(∃ i xs d,y=.int i/\zdi S x xs/\atD xs i=some d/\Q d S)\/(∃ (z:Str) (i:Int) (c:Nat),x=.str z/\y=.int i/\z.length<=big/\atS z i=some c/\Q (.str ⟨#[c]⟩) S)
def zrd (z:Str)(lo hi:Option Int):Str:=⟨(cutD z.cps.toList lo hi).toArray⟩
def zmX:D->Option Int->Option Int->Sto->DK->Prop:=fun x lo hi S Q=>(∃ xs,x=.tup xs/\Q (.tup (cutD xs lo hi)) S)\/(∃ xs,Lst S x xs/\Q (.ref S.length) (S++[.lst (cutD xs lo hi)]))\/(∃ z:Str,x=.str z/\z.length<=big/\Q (.str (zrd z lo hi)) S)
def zb6:DB:=fun vs S Q=>(∃ x xs,vs=[x]/\zdi S x xs/\Q (.int xs.length) S)\/(∃ z:Str,vs=[.str z]/\z.length<=big/\Q (.int z.length) S)
def zqa:DB:=fun vs S Q=>∃ i,vs=[.int i]/\Q (.int (i.natAbs:Int)) S
def zdE:DB:=fun vs S Q=>∃ i j,vs=[.int i,.int j]/\Q (.int (max i j)) S
def zfr:DB:=fun vs S Q=>∃ i j,vs=[.int i,.int j]/\Q (.int (min i j)) S
def znf:DB:=fun vs S Q=>∃ x ns,vs=[x]/\Lst S x (List.map D.int ns)/\0<ns.length/\∀ m:Int,m∈ns->(∀ a∈ns,a<=m)->Q (.int m) S
def zng:DB:=fun vs S Q=>∃ x ns,vs=[x]/\Lst S x (List.map D.int ns)/\0<ns.length/\∀ m:Int,m∈ns->(∀ a∈ns,m<=a)->Q (.int m) S
def zf9:DB:=fun vs S Q=>∃ x bs,vs=[x]/\Lst S x (List.map D.bl bs)/\Q (.bl (bs.all id)) S
def zkS:DB:=fun vs S Q=>∃ x xs,vs=[x]/\zdi S x xs/\Q (.tup xs) S
def ziE:DB:=fun vs S Q=>∃ x xs,vs=[x]/\zdi S x xs/\Q (.ref S.length) (S++[.lst xs])
def zi8 (t:String):Bool:=t=="int"||t=="bool"||t=="tuple"||t=="list"||t=="str"
def zqX (S:Sto)(t:String)(d:D):Option Bool:=if(!zi8 t)=true then none else match d with
 |.non=>some false
 | .bl _=>some (t=="bool"||t=="int")
 | .int _=>some (t=="int")
 | .str _=>some (t=="str")
 | .tup _=>some (t=="tuple")
 |.ref n=>match S[n]? with
  | some (.lst _)=>some (t=="list")
  |_=>none
 |.ty _=>none
 |.rl _=>none
 |.exn _=>none
def zfu:DB:=fun vs S Q=>∃ x t b,vs=[x,.ty t]/\zqX S t x=some b/\Q (.bl b) S
abbrev p2 (c:Int×Int):D:=.tup [.int c.1,.int c.2]
def zhy (a b:Int×Int):Bool:=decide (a.1<b.1\/(a.1=b.1/\a.2<b.2))
def znW:DB:=fun vs S Q=>∃ x cs,vs=[x]/\Lst S x (List.map p2 cs)/\cs.length<64/\∀ ss:List (Int×Int),ss.Perm cs->ss.Pairwise (fun a b=>zhy b a=false)->Q (.ref S.length) (S++[.lst (ss.map p2)])
def zoU:DB:=fun vs S Q=>∃ x ns,vs=[x]/\Lst S x (List.map D.int ns)/\ns.length<64/\∀ ss:List Int,ss.Perm ns->ss.Pairwise (fun a b=>a<=b)->Q (.ref S.length) (S++[.lst (ss.map D.int)])
def znA:DB:=fun vs S Q=>znW vs S Q\/zoU vs S Q
def zcR:DM:=fun x vs S Q=>∃ n xs y,x=.ref n/\vs=[y]/\S[n]?=some (.lst xs)/\xs.length<big/\Q .non (S.set n (.lst (xs++[y])))
def zr9:DM:=fun x vs S Q=>∃ n xs m ys,x=.ref n/\vs=[.ref m]/\S[n]?=some (.lst xs)/\S[m]?=some (.lst ys)/\m≠n/\xs.length+ys.length<=big/\Q .non (S.set n (.lst (xs++ys)))
def zhG:DM:=fun x vs S Q=>zr9 x vs S Q\/∃ n xs ys,x=.ref n/\vs=[.tup ys]/\S[n]?=some (.lst xs)/\xs.length+ys.length<=big/\Q .non (S.set n (.lst (xs++ys)))
def zkx:DM:=fun x vs S Q=>∃ n xs,x=.ref n/\vs=[]/\S[n]?=some (.lst xs)/\Q .non (S.set n (.lst []))
def zaq (i:Nat):DG:=fun d Z S Q=>Q (Z.set i (some d)) S
def zbk:DGs:=fun ds Z S Q=>ds=[]/\Q Z S
def zV (t:DG)(u:DGs):DGs:=fun ds Z S Q=>∃ d r,ds=d::r/\t d Z S fun ρ' S'=>u r ρ' S' Q
def zbh (n:Nat)(t:DGs):DG:=fun d Z S Q=>∃ xs,d=.tup xs/\xs.length=n/\t xs Z S Q
def zgi (to ti:DE):DG:=fun d Z S Q=>to Z S fun o S1=>ti Z S1 fun i S2=>∃ n xs k j,o=.ref n/\i=.int k/\S2[n]?=some (.lst xs)/\ixD xs.length k=some j/\Q Z (S2.set n (.lst (xs.set j d)))
def zB (t u:DS):DS:=fun E Z S=>t { E with nx:=u E } Z S
def zZ:DS:=fun E Z S=>E.nx Z S
def zT (t:DE):DS:=fun E Z S=>t Z S E.rt
def zbb (t:DE):DS:=fun E Z S=>t Z S fun _ S1=>E.nx Z S1
def zJ (t:DE)(g:DG):DS:=fun E Z S=>t Z S fun x S1=>g x Z S1 E.nx
def sIf (c:DT)(t u:DS):DS:=fun E Z S=>c Z S fun b S1=>if b=true then t E Z S1 else u E Z S1
def sJ (t:DS):DS:=fun E Z S=>∃ J:Rho->Sto->Prop,(∀ Z S,J Z S->E.nx Z S)/\t { E with nx:=J } Z S
def zb9:DS:=fun _ _ _=>False
def zdF (c f:Str)(to tv:DE):DS:=fun E Z S=>tv Z S fun y S1=>to Z S1 fun x S2=>∃ n fs,x=.ref n/\S2[n]?=some (.ins c fs)/\fs.length<100/\E.nx Z (S2.set n (.ins c (putD f y fs)))
def zpO (i:Nat)(t:DE):DS:=fun E Z S=>∃ a,Z[i]?=some (some (.int a))/\t Z S fun y S1=>∃ b,y=.int b/\E.nx (Z.set i (some (.int (a+b)))) S1
def zgo (c:DT)(t:DS):DS:=fun E Z S=>∃ W:Nat->Rho->Sto->Prop,(∃ m,W m Z S)/\∀ m Z S,W m Z S ->
 c Z S fun b S1=>if b=true then ∃ N:Rho->Sto->Prop,(∀ ρ' S',N ρ' S'->∃ m',m'<m/\W m' ρ' S')/\t { E with nx:=N,ct:=N,bk:=E.nx } Z S1 else E.nx Z S1
def zbp (wi:DI)(g:DG)(t:DS):DS:=fun E Z S=>wi Z S fun J S1=>∃ W:Nat->Rho->Sto->Prop,W 0 Z S1/\(∀ i Z S,W i Z S->J.ok S) /\
 (∀ i d Z S,J.items[i]?=some d->W i Z S->g d Z S fun ρ2 S2=>t { E with nx:=W (i+1),ct:=W (i+1),bk:=E.nx } ρ2 S2)/\∀ Z S,W J.items.length Z S->E.nx Z S
def signs (z:Str):List D:=z.cps.toList.map fun c=>.str ⟨#[c]⟩
def zgt (x:D)(S1:Sto)(R:DIt->Sto->Prop):Prop:=(∃ xs,x=.tup xs/\R ⟨xs,fun _=>True⟩ S1)\/(∃ xs,Lst S1 x xs/\R ⟨xs,fun S=>Lst S x xs⟩ S1)\/(∃ z:Str,x=.str z/\R ⟨signs z,fun _=>True⟩ S1)
def zaR (t:DE):DI:=fun Z S R=>t Z S fun x S1=>zgt x S1 R
def upto (lo:Int)(n:Nat):List D:=(List.range n).map fun k:Nat=>D.int (lo+(k:Int))
def zeL (t:DA):DI:=fun Z S R=>t Z S fun vs S1=>∃ j:Int,vs=[.int j]/\-(2 ^ 62)<=j/\j<2 ^ 62/\R ⟨upto 0 j.toNat,fun _=>True⟩ S1
def znK (t:DA):DI:=fun Z S R=>t Z S fun vs S1=>∃ i j:Int,vs=[.int i,.int j]/\R ⟨upto i (j-i).toNat,fun _=>True⟩ S1
def zct:Nat->List D->List D
 |_,[]=>[]
 |k,x::xs=>.tup [.int (k:Nat),x]::zct (k+1) xs
def za8:List D->List D->List D
 |x::xs,y::ys=>.tup [x,y]::za8 xs ys
 |_,_=>[]
def zf5 (c:List Str)(z:Str):List Str:=if c.any (·==z)=true then c else c++[z]
def zcj (f:Nat->Str):Nat->List Str
 |0=>[]
 |i+1=>zf5 (zcj f i) (f i)
def zpM (zs:List Str):Nat:=(zcj (fun i=>zs.getD i Str.empty) zs.length).length
def zmJ:DB:=fun vs S Q=>∃ x,∃ zs:List Str,vs=[x]/\Lst S x (zs.map D.str)/\zs.length<=4000/\Q (.int (zpM zs)) S
def zkR (R:DIt->Sto->Prop)(vs:List D)(S1:Sto):Prop:=(∃ x xs,vs=[x]/\Lst S1 x xs/\R ⟨zct 0 xs,fun S=>Lst S x xs⟩ S1)\/(∃ xs,vs=[.tup xs]/\R ⟨zct 0 xs,fun _=>True⟩ S1)
def zfp (t:DA):DI:=fun Z S R=>t Z S (zkR R)
def zny (R:DIt->Sto->Prop)(vs:List D)(S1:Sto):Prop:=(∃ x y xs ys,vs=[x,y]/\Lst S1 x xs/\Lst S1 y ys/\R ⟨za8 xs ys,fun S=>Lst S x xs/\Lst S y ys⟩ S1)\/(∃ xs ys,vs=[.tup xs,.tup ys]/\R ⟨za8 xs ys,fun _=>True⟩ S1)
def zlm (t:DA):DI:=fun Z S R=>t Z S (zny R)
def zem (own:Nat)(fv:List Nat)(Z:Rho):Rho:=List.replicate own none++fv.map fun j=>(Z[j]?).join
def zbt:DT:=fun _ S Q=>Q true S
def dLC (own:Nat)(fv:List Nat)(wi:DI)(g:DG)(tc:DT)(te:DE):DE:=fun Z S Q=>wi Z S fun J S1=>J.items.length<=big/\∃ W:Nat->List D->Sto->Prop,W 0 [] S1/\(∀ i ys S,W i ys S->J.ok S) /\
 (∀ i d ys S,J.items[i]?=some d->W i ys S->g d (zem own fv Z) S fun ρ2 S2=>tc ρ2 S2 fun b S3=>if b=true then te ρ2 S3 fun y S4=>W (i+1) (ys++[y]) S4 else W (i+1) ys S3) /\
 ∀ ys S,W J.items.length ys S->Q (.ref S.length) (S++[.lst ys])
def kD:Sum Int Str->D
 |.inl i=>.int i
 |.inr x=>.str x
section
variable {κ:Type}[DecidableEq κ]
def dval (kvs:List (κ×D))(k:κ):Option D:=(kvs.find? fun kv=>decide (kv.1=k)).map (·.2)
def dput (kvs:List (κ×D))(k:κ)(v:D):List (κ×D):=if(kvs.any fun kv=>decide (kv.1=k))=true then kvs.map (fun kv=>if kv.1=k then(kv.1,v)else kv)else kvs++[(k,v)]
def zgJ (kvs:List (κ×D))(k:κ):List (κ×D):=kvs.filter fun kv=>decide (kv.1≠k)
end
def DGt (S:Sto)(x y:D)(o:Option D):Prop:=(∃ n kvs z,x=.ref n/\y=.str z/\S[n]?=some (.dk kvs)/\o=dval kvs z)\/(∃ n kvs ks,x=.ref n/\y=.tup (ks.map kD)/\S[n]?=some (.dt kvs)/\o=dval kvs ks)
def zm8 (S:Sto)(x:D):Prop:=∃ n,x=.ref n/\((∃ kvs,S[n]?=some (.dk kvs))\/∃ kvs,S[n]?=some (.dt kvs))
def znw:DE:=fun _ S Q=>Q (.ref S.length) (S++[.dk []])
def zi5 (td ti:DE):DE:=fun Z S Q=>td Z S fun x S1=>ti Z S1 fun y S2=>∃ d,DGt S2 x y (some d)/\Q d S2
def zpU (ti td:DE):DE:=fun Z S Q=>ti Z S fun y S1=>td Z S1 fun x S2=>∃ o,DGt S2 x y o/\Q (.bl o.isSome) S2
def zgq (ti td:DE):DE:=fun Z S Q=>ti Z S fun y S1=>td Z S1 fun x S2=>∃ o,DGt S2 x y o/\Q (.bl (!o.isSome)) S2
def znB (td:DE):DE:=fun Z S Q=>td Z S fun x S1=>∃ n kvs,[x]=[.ref n]/\S1[n]?=some (.dk kvs)/\Q (.int kvs.length) S1
def zm6 (td ti:DE):DE:=fun Z S Q=>td Z S fun x S1=>zm8 S1 x/\ti Z S1 fun y S2=>∃ n kvs z d,x=.ref n/\y=.str z/\S2[n]?=some (.dk kvs)/\dval kvs z=some d/\Q d (S2.set n (.dk (zgJ kvs z)))
def zkm (tk tv:DE):DE:=fun Z S Q=>tk Z (S++[.dk []]) fun x S1=>tv Z S1 fun y S2=>∃ z,x=.str z/\S2[S.length]?=some (.dk [])/\Q (.ref S.length) (S2.set S.length (.dk [(z,y)]))
def sgB:Bool->Int->Int
 |false,i=>i
 |true,i=>-i
def zns (mx:Bool)(x:Str)(l c:Nat)(td:DE)(fv:List Nat)(te:DE):DE:=fun Z S Q=>td Z S fun d S1=>∃ (n:Nat) (kvs:List (Str×D)) (t:Nat) (kf:Nat->Int),d=.ref n/\S1[n]?=some (.dk kvs)/\0<kvs.length/\S1[t]?=some (.tab x l c) /\
 (∀ (i:Nat) z v,kvs[i]?=some (z,v)->te (some (.str z)::fv.map fun j=>(Z[j]?).join) S1 fun y S2=>y=.int (kf i)/\S2=S1) /\
 ∀ (i:Nat) z v,kvs[i]?=some (z,v)->(∀ j,j<kvs.length->sgB mx (kf i)<=sgB mx (kf j)/\(j<i->sgB mx (kf i)<sgB mx (kf j)))->Q (.str z) S1
def zff (S:Sto)(x y v:D)(Q:Sto->Prop):Prop:=(∃ n kvs z,x=.ref n/\y=.str z/\S[n]?=some (.dk kvs)/\kvs.length<big/\Q (S.set n (.dk (dput kvs z v))))\/(∃ n kvs ks,x=.ref n/\y=.tup (ks.map kD)/\S[n]?=some (.dt kvs)/\kvs.length<big/\Q (S.set n (.dt (dput kvs ks v))))
def zj2 (td ti tv:DE):DS:=fun E Z S=>tv Z S fun v S1=>td Z S1 fun x S2=>ti Z S2 fun y S3=>zff S3 x y v (E.nx Z)
def fc:Cell->Bool
 |.lst xs=>xs.all (fl 20)
 |.ins _ _=>false
 |.dk _=>false
 |.dt _=>false
 |.tab _ _ _=>false
def Fin (S:Sto)(Q:DK):DK:=fun d S'=>Q d S'\/∃ S1,S1 <+: S'/\S.length<=S1.length/\(fl 20 d=true\/∃ n,d=.ref n/\n<S1.length)/\(∀ (n:Nat) c,S1[n]?=some c->S[n]?=some c\/fc c=true)/\Q d S1
def zdb (n:Nat)(ds:List D):Rho:=ds.map some++List.replicate (n-ds.length) none
def BodyOk (n:Nat)(b:DS)(f:DSp):Prop:=∀ ds S Q,f ds S Q->b ⟨fun _ S'=>Fin S Q .non S',Fin S Q,fun _ _=>False,fun _ _=>False⟩ (zdb n ds) S
abbrev XD:=Str->Sto->Prop
abbrev XR:=Rho->Str->Sto->Prop
abbrev zcv:=List D->Sto->DK->XD->Prop
def zbE (f:zcv)(ex:XR)(t:DA):DE:=fun Z S Q=>t Z S fun xs S1=>f xs S1 Q (ex Z)
def xF:XR:=fun _ _ _=>False
def zet (ex:XR)(c:Str):DS:=fun _ Z S=>ex Z c S
def zht (tbl:List (Str×Bool))(t:DE):DE:=fun Z S Q=>t Z S fun x S1=>∃ c b,x=.exn c/\tbl.lookup c=some b/\Q (.bl b) S1
def zp9 (i:Nat)(ok:List Str)(b:XR->DS)(h:DS):DS:=fun E Z S =>
 b (fun ρ' c S'=>ok.contains c=true/\h { nx:=fun ρ2 S2=>E.nx (ρ2.set i none) S2,rt:=E.rt,bk:=fun _ _=>False,ct:=fun _ _=>False } (ρ'.set i (some (.exn c))) S') E Z S
def zbS (n:Nat)(b:XR->DS)(f:zcv):Prop:=∀ ds S Q ex,f ds S Q ex->b (fun _=>ex) ⟨fun _ S'=>Fin S Q .non S',Fin S Q,fun _ _=>False,fun _ _=>False⟩ (zdb n ds) S
def New (Q:DK)(S:Sto)(xs:List D):Prop:=Q (.ref S.length) (S++[.lst xs])
def Put (Q:Sto->Prop)(S:Sto)(n:Nat)(c:Cell):Prop:=Q (S.set n c)
def znC (own:Nat)(fv:List Nat)(g:DG)(tc:DT)(te:DE)(Z:Rho)(Q:DK)(J:DIt)(S:Sto):Prop:=J.items.length<=big/\∃ W:Nat->List D->Sto->Prop,W 0 [] S/\(∀ i ys S,W i ys S->J.ok S) /\
 (∀ i d ys S,J.items[i]?=some d->W i ys S->g d (zem own fv Z) S fun ρ2 S2=>tc ρ2 S2 fun b S3=>if b=true then te ρ2 S3 fun y S4=>W (i+1) (ys++[y]) S4 else W (i+1) ys S3) /\
 ∀ ys S,W J.items.length ys S->New Q S ys
def zry (d:D)(Z:Rho)(Q:Rho->Sto->Prop)(o i:D)(S2:Sto):Prop:=∃ n xs k j,o=.ref n/\i=.int k/\S2[n]?=some (.lst xs)/\ixD xs.length k=some j/\Q Z (S2.set n (.lst (xs.set j d)))
def zrv (nx:Rho->Sto->Prop)(rt:DK)(g:DG)(t:DS)(Z:Rho)(J:DIt)(S:Sto):Prop:=∃ W:Nat->Rho->Sto->Prop,W 0 Z S/\(∀ i Z S,W i Z S->J.ok S) /\
 (∀ i d Z S,J.items[i]?=some d->W i Z S->g d Z S fun ρ2 S2=>t ⟨W (i+1),rt,nx,W (i+1)⟩ ρ2 S2)/\∀ Z S,W J.items.length Z S->nx Z S
def zrQ (W:Nat->Rho->Sto->Prop)(m:Nat)(t:DS)(rt:DK)(nx:Rho->Sto->Prop)(Z:Rho)(S:Sto):Prop:=∃ N:Rho->Sto->Prop,(∀ ρ' S',N ρ' S'->∃ m',m'<m/\W m' ρ' S')/\t ⟨N,rt,nx,N⟩ Z S
def zaJ {nx:Rho->Sto->Prop}{rt:DK}{g:DG}{t:DS}{Z:Rho}{xs:List D}{ok:Sto->Prop}{S:Sto}(W:Nat->Rho->Sto->Prop)(h0:W 0 Z S)(hok:∀ i Z S,W i Z S->ok S)
  (step:∀ i d Z S,xs[i]?=some d->W i Z S->g d Z S fun ρ2 S2=>t ⟨W (i+1),rt,nx,W (i+1)⟩ ρ2 S2) (fin:∀ Z S,W xs.length Z S->nx Z S):zrv nx rt g t Z ⟨xs,ok⟩ S:=⟨W,h0,hok,step,fin⟩
def zxw {S:Sto}{Q:DK}{xs:List D}(h:Q (.ref S.length) (S++[.lst xs])):New Q S xs:=h
def zgQ {S T:Sto}{Q:DK}{xs:List D}(h:Q (.ref (S.length+T.length)) (S++(T++[.lst xs]))):New Q (S++T) xs:=by
 unfold New;rw[qi,qh];exact h
section
variable {S:Sto}{Q:DK}{xs:List D}{a b c d e f:Cell}
def zwX (h:Q (.ref (S.length+1)) (S++[a,.lst xs])):New Q (S++[a]) xs:=zgQ h
def zwq (h:Q (.ref (S.length+2)) (S++[a,b,.lst xs])):New Q (S++[a,b]) xs:=zgQ h
def zxv (h:Q (.ref (S.length+3)) (S++[a,b,c,.lst xs])):New Q (S++[a,b,c]) xs:=zgQ h
def zv3 (h:Q (.ref (S.length+4)) (S++[a,b,c,d,.lst xs])):New Q (S++[a,b,c,d]) xs:=zgQ h
def zwa (h:Q (.ref (S.length+5)) (S++[a,b,c,d,e,.lst xs])):New Q (S++[a,b,c,d,e]) xs:=zgQ h
end
def ze6 {S:Sto}{a:Cell}{T:Sto}{Q:Sto->Prop}{c:Cell}(h:Q (S++c::T)):Put Q (S++a::T) S.length c:=by
 unfold Put;rw[List.set_append_right _ _ (qe _),Nat.sub_self];exact h
def zu9 {S:Sto}{a:Cell}{G T:Sto}{Q:Sto->Prop}{c:Cell}(h:Q (S++c::(G++T))):Put Q (S++(a::G++T)) S.length c:=ze6 h
section
variable {nx:Rho->Sto->Prop}{rt:DK}{bk ct:Rho->Sto->Prop}{Z:Rho}{S:Sto}
def znD {t u:DS}(h:t ⟨u ⟨nx,rt,bk,ct⟩,rt,bk,ct⟩ Z S):zB t u ⟨nx,rt,bk,ct⟩ Z S:=h
def r_J {t:DS}(J:Rho->Sto->Prop)(h:t ⟨J,rt,bk,ct⟩ Z S)(hJ:∀ Z S,J Z S->nx Z S):sJ t ⟨nx,rt,bk,ct⟩ Z S:=⟨J,hJ,h⟩
def zvT (h:nx Z S):zZ ⟨nx,rt,bk,ct⟩ Z S:=h
def zrH {t:DE}(h:t Z S rt):zT t ⟨nx,rt,bk,ct⟩ Z S:=h
def zua {t:DE}(h:t Z S fun _ S1=>nx Z S1):zbb t ⟨nx,rt,bk,ct⟩ Z S:=h
def zrx {t:DE}{g:DG}(h:t Z S fun x S1=>g x Z S1 nx):zJ t g ⟨nx,rt,bk,ct⟩ Z S:=h
def zxZ {c:DT}{t u:DS}(h:c Z S fun b S1=>if b=true then t ⟨nx,rt,bk,ct⟩ Z S1 else u ⟨nx,rt,bk,ct⟩ Z S1):sIf c t u ⟨nx,rt,bk,ct⟩ Z S:=h
def zu8 {c f:Str}{to tv:DE}(h:tv Z S fun y S1=>to Z S1 fun x S2=>∃ n fs,x=.ref n/\S2[n]?=some (.ins c fs)/\fs.length<100/\nx Z (S2.set n (.ins c (putD f y fs)))):zdF c f to tv ⟨nx,rt,bk,ct⟩ Z S:=h
def zxb {i:Nat}{t:DE}{a:Int}(e:Z[i]?=some (some (.int a)))(h:t Z S fun y S1=>∃ b,y=.int b/\nx (Z.set i (some (.int (a+b)))) S1):zpO i t ⟨nx,rt,bk,ct⟩ Z S:=⟨a,e,h⟩
def zw6 {wi:DI}{g:DG}{t:DS}(h:wi Z S fun J S1=>zrv nx rt g t Z J S1):zbp wi g t ⟨nx,rt,bk,ct⟩ Z S:=h
def zqH {c:DT}{t:DS}(W:Nat->Rho->Sto->Prop)(m:Nat)(h0:W m Z S)(h:∀ m Z S,W m Z S->c Z S fun b S1=>if b=true then zrQ W m t rt nx Z S1 else nx Z S1):zgo c t ⟨nx,rt,bk,ct⟩ Z S:=⟨W,⟨m,h0⟩,h⟩
def zoT {t:DS}{W:Nat->Rho->Sto->Prop}{m:Nat}(h:t ⟨fun ρ' S'=>∃ m',m'<m/\W m' ρ' S',rt,nx,fun ρ' S'=>∃ m',m'<m/\W m' ρ' S'⟩ Z S):zrQ W m t rt nx Z S:=⟨_,fun _ _ z=>z,h⟩
def zsT {i:Nat}{d:D}{Q:Rho->Sto->Prop}(h:Q (Z.set i (some d)) S):zaq i d Z S Q:=h
def zvK {Q:Rho->Sto->Prop}(h:Q Z S):zbk [] Z S Q:=⟨rfl,h⟩
def zr8 {t:DG}{u:DGs}{d:D}{r:List D}{Q:Rho->Sto->Prop}(h:t d Z S fun ρ' S'=>u r ρ' S' Q):zV t u (d::r) Z S Q:=⟨d,r,rfl,h⟩
def zvd {n:Nat}{t:DGs}{xs:List D}{Q:Rho->Sto->Prop}(e:xs.length=n)(h:t xs Z S Q):zbh n t (.tup xs) Z S Q:=⟨xs,rfl,e,h⟩
def ztJ {to ti:DE}{d:D}{Q:Rho->Sto->Prop}(h:to Z S fun o S1=>ti Z S1 fun i S2=>zry d Z Q o i S2):zgi to ti d Z S Q:=h
def zfh {i:Nat}{d:D}{Q:DK}(h:Z[i]?=some (some d))(q:Q d S):zbH i Z S Q:=⟨d,h,q⟩
def r_c {d:D}{Q:DK}(q:Q d S):dC d Z S Q:=q
def zm1 {r:DR2}{ta tb:DE}{Q:DK}(h:ta Z S fun x S1=>tb Z S1 fun y S2=>r x y S2 Q):dOp r ta tb Z S Q:=h
def zx5 {r:D->Sto->DK->Prop}{ta:DE}{Q:DK}(h:ta Z S fun x S1=>r x S1 Q):dUn r ta Z S Q:=h
def zxm {Q:List D->Sto->Prop}(h:Q [] S):zF Z S Q:=h
def zj6 {ta:DE}{tr:DA}{Q:List D->Sto->Prop}(h:ta Z S fun x S1=>tr Z S1 fun xs S2=>Q (x::xs) S2):zf ta tr Z S Q:=h
def zrO {t:DA}{Q:DK}(h:t Z S fun xs S1=>xs.length<=big/\Q (.tup xs) S1):dTup t Z S Q:=h
def zxf {t:DA}{Q:DK}(h:t Z S fun xs S1=>xs.length<=big/\New Q S1 xs):zbG t Z S Q:=h
def zvW {xs:List D}{P:Prop}(h:Nat.ble xs.length big=true)(q:P):xs.length<=big/\P:=⟨qah h,q⟩
def zu0 {f:DSp}{t:DA}{Q:DK}(h:t Z S fun xs S1=>f xs S1 Q):dCall f t Z S Q:=h
def r_b {r:DB}{t:DA}{Q:DK}(h:t Z S fun xs S1=>r xs S1 Q):dB r t Z S Q:=h
def r_m {r:DM}{ta:DE}{t:DA}{Q:DK}(h:ta Z S fun x S1=>(∃ n ys,x=.ref n/\S1[n]?=some (.lst ys))/\t Z S1 fun xs S2=>r x xs S2 Q):dM r ta t Z S Q:=h
def zw7 {n:Nat}{ys:List D}{P:Prop}(h:S[n]?=some (.lst ys))(q:P):(∃ m ys,D.ref n=.ref m/\S[m]?=some (.lst ys))/\P:=⟨⟨n,ys,rfl,h⟩,q⟩
def r_t {t:DE}{Q:Bool->Sto->Prop}(h:t Z S fun x S1=>∃ b,x=.bl b/\Q b S1):dT t Z S Q:=h
def zxF {c:Bool}{P:Bool->Prop}(h:P c):∃ b,D.bl c=D.bl b/\P b:=⟨c,rfl,h⟩
def zwm {c:Int}{P:Int->Prop}(h:P c):∃ b,D.int c=D.int b/\P b:=⟨c,rfl,h⟩
def zwW {t u:DT}{Q:Bool->Sto->Prop}(h:t Z S fun c S1=>if c=true then u Z S1 Q else Q false S1):zdZ t u Z S Q:=h
def zxO {t u:DT}{Q:Bool->Sto->Prop}(h:t Z S fun c S1=>if c=true then Q true S1 else u Z S1 Q):dOr t u Z S Q:=h
def zv8 {t:DT}{Q:Bool->Sto->Prop}(h:t Z S fun c S1=>Q (!c) S1):zes t Z S Q:=h
def zuN {t u:DE}{Q:DK}(h:t Z S fun x S1=>∃ c,x=.bl c/\if c=true then u Z S1 Q else Q (.bl false) S1):zgI t u Z S Q:=h
def zvb {t:DE}{Q:DK}(h:t Z S fun x S1=>∃ c,x=.bl c/\Q (.bl (!c)) S1):zgM t Z S Q:=h
def zwt {c:DT}{ta tb:DE}{Q:DK}(h:c Z S fun b S1=>if b=true then ta Z S1 Q else tb Z S1 Q):zqh c ta tb Z S Q:=h
def zrW {r r':DR2}{ta tb tc:DE}{Q:DK}(h:ta Z S fun x S1=>tb Z S1 fun y S2=>r x y S2 fun z S3=>∃ c,z=.bl c/\if c=true then tc Z S3 fun w S4=>r' y w S4 Q else Q (.bl false) S3):zh9 r r' ta tb tc Z S Q:=h
def zxp {f:Str}{ta:DE}{Q:DK}(h:ta Z S fun x S1=>∃ n c fs d,x=.ref n/\S1[n]?=some (.ins c fs)/\fs.lookup f=some d/\Q d S1):zaQ f ta Z S Q:=h
def zxH {r:D->Option Int->Option Int->Sto->DK->Prop}{ta:DE}{lo hi:Option DE}{Q:DK}(h:ta Z S fun x S1=>zhB lo Z S1 fun l S2=>zhB hi Z S2 fun h S3=>r x l h S3 Q):dSl r ta lo hi Z S Q:=h
def zut {Q:Option Int->Sto->Prop}(h:Q none S):zhB none Z S Q:=h
def zuK {t:DE}{Q:Option Int->Sto->Prop}(h:t Z S fun x S1=>∃ i,x=.int i/\Q (some i) S1):zhB (some t) Z S Q:=h
def zvj {Q:Bool->Sto->Prop}(h:Q true S):zbt Z S Q:=h
end
section
variable {S:Sto}{Q:DK}
def zwT {i j:Int}(q:Q (.int (i+j)) S):zao (.int i) (.int j) S Q:=.inl ⟨i,j,rfl,rfl,q⟩
def zvi {i j:Str}(h:i.length+j.length<=big)(q:Q (.str (i++j)) S):zao (.str i) (.str j) S Q:=.inr (.inr (.inr ⟨i,j,rfl,rfl,h,q⟩))
def zwo {i j:Int}(q:Q (.int (i-j)) S):zam (.int i) (.int j) S Q:=⟨i,j,rfl,rfl,q⟩
def zxj {i j:Int}(c:zaP i j)(q:Q (.int (i*j)) S):zbj (.int i) (.int j) S Q:=.inl ⟨i,j,rfl,rfl,c,q⟩
def zwu {c:Nat}{z:Str}(q:Q (.bl (decide (c∈z.cps.toList))) S):oIn (.str ⟨#[c]⟩) (.str z) S Q:=.inr ⟨c,z,rfl,rfl,q⟩
def zwx {i j:Int}(c:0<j/\My.Bd 8000 j)(q:Q (.int (i/j)) S):oDiv (.int i) (.int j) S Q:=⟨i,j,rfl,rfl,⟨by lia,c.2⟩,by show Q (.int (i.fdiv j)) S;rw[Int.fdiv_eq_ediv_of_nonneg i (by lia)];exact q⟩
def zwv {i j:Int}(c:0<j)(q:Q (.int (i%j)) S):oMod (.int i) (.int j) S Q:=⟨i,j,rfl,rfl,(by show j≠0;lia),by show Q (.int (i.fmod j)) S;rw[Int.fmod_eq_emod_of_nonneg i (by lia)];exact q⟩
def zpq {i j:Int}(c:zrN i j)(q:Q (.int (i.fdiv j)) S):oDiv (.int i) (.int j) S Q:=⟨i,j,rfl,rfl,c,q⟩
def zue {i j:Int}(c:j≠0)(q:Q (.int (i.fmod j)) S):oMod (.int i) (.int j) S Q:=⟨i,j,rfl,rfl,c,q⟩
def zwK {i:Int}(q:Q (.int (-i)) S):zck (.int i) S Q:=⟨i,rfl,q⟩
def zxQ {i j:Int}(q:Q (.bl (decide (i<j))) S):oLt (.int i) (.int j) S Q:=⟨i,j,rfl,rfl,q⟩
def zyk {i j:Int}(q:Q (.bl (decide (i<=j))) S):oLe (.int i) (.int j) S Q:=⟨i,j,rfl,rfl,q⟩
def zxY {i j:Int}(q:Q (.bl (decide (j<i))) S):oGt (.int i) (.int j) S Q:=⟨i,j,rfl,rfl,q⟩
def zyr {i j:Int}(q:Q (.bl (decide (j<=i))) S):oGe (.int i) (.int j) S Q:=⟨i,j,rfl,rfl,q⟩
def zwn {i j:Int}(q:Q (.bl (decide (i=j))) S):oEq (.int i) (.int j) S Q:=⟨_,.inl ⟨rfl,rfl,rfl⟩,q⟩
def zvU {i j:Int}(q:Q (.bl (!decide (i=j))) S):oNe (.int i) (.int j) S Q:=⟨_,.inl ⟨rfl,rfl,rfl⟩,q⟩
def zw8 (q:Q (.bl true) S):oIs .non .non S Q:=.inl ⟨rfl,q⟩
def zw4 {i:Int}(q:Q (.bl false) S):oIs (.int i) .non S Q:=.inl ⟨rfl,q⟩
def ztT (q:Q (.bl false) S):zc8 .non .non S Q:=.inl ⟨rfl,q⟩
def ztK {i:Int}(q:Q (.bl true) S):zc8 (.int i) .non S Q:=.inl ⟨rfl,q⟩
def zrI {x:D}(q:Q (.bl (!zia x)) S):zc8 x .non S Q:=.inl ⟨rfl,q⟩
def zwe {xs:List D}{i:Int}{d:D}(e:atD xs i=some d)(q:Q d S):oIx (.tup xs) (.int i) S Q:=.inl ⟨i,xs,d,rfl,.inl rfl,e,q⟩
def zxq {x:D}{xs:List D}{i:Int}{d:D}(h:Lst S x xs)(e:atD xs i=some d)(q:Q d S):oIx x (.int i) S Q:=.inl ⟨i,xs,d,rfl,.inr h,e,q⟩
def zwV {z:Str}{i:Int}{c:Nat}(hz:z.length<=big)(e:atS z i=some c)(q:Q (.str ⟨#[c]⟩) S):oIx (.str z) (.int i) S Q:=.inr ⟨z,i,c,rfl,rfl,hz,e,q⟩
def zuh {x:D}{xs:List D}{lo hi:Option Int}(h:Lst S x xs)(q:New Q S (cutD xs lo hi)):zmX x lo hi S Q:=.inr (.inl ⟨xs,h,q⟩)
def zt8 {xs:List D}(q:Q (.int xs.length) S):zb6 [.tup xs] S Q:=.inl ⟨_,xs,rfl,.inl rfl,q⟩
def zuo {x:D}{xs:List D}(h:Lst S x xs)(q:Q (.int xs.length) S):zb6 [x] S Q:=.inl ⟨_,xs,rfl,.inr h,q⟩
def zn2 {z:Str}(hz:z.length<=big)(q:Q (.int z.length) S):zb6 [.str z] S Q:=.inr ⟨z,rfl,hz,q⟩
def zwG {i:Int}(q:Q (.int (i.natAbs:Int)) S):zqa [.int i] S Q:=⟨i,rfl,q⟩
def zvn {i j:Int}(q:Q (.int (max i j)) S):zdE [.int i,.int j] S Q:=⟨i,j,rfl,q⟩
def zt0 {i j:Int}(q:Q (.int (min i j)) S):zfr [.int i,.int j] S Q:=⟨i,j,rfl,q⟩
def zve {x:D}{ns:List Int}(h:Lst S x (ns.map D.int))(h0:0<ns.length)(q:∀ m:Int,m∈ns->(∀ a∈ns,a<=m)->Q (.int m) S):znf [x] S Q:=⟨x,ns,rfl,h,h0,q⟩
def zuw {x:D}{ns:List Int}(h:Lst S x (ns.map D.int))(h0:0<ns.length)(q:∀ m:Int,m∈ns->(∀ a∈ns,m<=a)->Q (.int m) S):zng [x] S Q:=⟨x,ns,rfl,h,h0,q⟩
def zwA {x:D}{bs:List Bool}(h:Lst S x (bs.map D.bl))(q:Q (.bl (bs.all id)) S):zf9 [x] S Q:=⟨x,bs,rfl,h,q⟩
def zpG {x:D}{xs:List D}(h:Lst S x xs)(q:Q (.tup xs) S):zkS [x] S Q:=⟨_,xs,rfl,.inr h,q⟩
def zsB {x:D}{xs:List D}(h:Lst S x xs)(q:New Q S xs):ziE [x] S Q:=⟨_,xs,rfl,.inr h,q⟩
def zth {x:D}{cs:List (Int×Int)}(h:Lst S x (cs.map p2))(hl:cs.length<64)(q:∀ ss:List (Int×Int),ss.Perm cs->ss.Pairwise (fun a b=>zhy b a=false)->New Q S (ss.map p2)):znA [x] S Q:=.inl ⟨x,cs,rfl,h,hl,q⟩
def zqv {n:Nat}{xs:List D}{y:D}(h:S[n]?=some (.lst xs))(hl:xs.length<big)(q:Put (Q .non) S n (.lst (xs++[y]))):zcR (.ref n) [y] S Q:=⟨n,xs,y,rfl,rfl,h,hl,q⟩
def zn8 {n:Nat}{xs ys:List D}(h:S[n]?=some (.lst xs))(hl:xs.length+ys.length<=big)(q:Put (Q .non) S n (.lst (xs++ys))):zhG (.ref n) [.tup ys] S Q:=.inr ⟨n,xs,ys,rfl,rfl,h,hl,q⟩
def zti {n:Nat}{xs:List D}(h:S[n]?=some (.lst xs))(q:Put (Q .non) S n (.lst [])):zkx (.ref n) [] S Q:=⟨n,xs,rfl,rfl,h,q⟩
def zh5 {n:Nat}{xs:List D}{k:Int}{j:Nat}{d:D}{Z:Rho}{Q:Rho->Sto->Prop}(h:S[n]?=some (.lst xs))(e:ixD xs.length k=some j)(q:Put (Q Z) S n (.lst (xs.set j d))):zry d Z Q (.ref n) (.int k) S:=⟨n,xs,k,j,rfl,rfl,h,e,q⟩
end
section
variable {Z:Rho}{S:Sto}{R:DIt->Sto->Prop}
def ztR {t:DE}(h:t Z S fun x S1=>zgt x S1 R):zaR t Z S R:=h
def zwB {xs:List D}(q:R ⟨xs,fun _=>True⟩ S):zgt (.tup xs) S R:=.inl ⟨xs,rfl,q⟩
def zrG {x:D}{xs:List D}(h:Lst S x xs)(q:R ⟨xs,fun S=>Lst S x xs⟩ S):zgt x S R:=.inr (.inl ⟨xs,h,q⟩)
def zwl {z:Str}(q:R ⟨signs z,fun _=>True⟩ S):zgt (.str z) S R:=.inr (.inr ⟨z,rfl,q⟩)
def zt7 {t:DA}(h:t Z S fun vs S1=>∃ j:Int,vs=[.int j]/\-(2 ^ 62)<=j/\j<2 ^ 62/\R ⟨upto 0 j.toNat,fun _=>True⟩ S1):zeL t Z S R:=h
def zvy {t:DA}(h:t Z S fun vs S1=>∃ i j:Int,vs=[.int i,.int j]/\R ⟨upto i (j-i).toNat,fun _=>True⟩ S1):znK t Z S R:=h
def zuY {t:DA}(h:t Z S (zkR R)):zfp t Z S R:=h
def zk2 {x:D}{xs:List D}(h:Lst S x xs)(q:R ⟨zct 0 xs,fun S=>Lst S x xs⟩ S):zkR R [x] S:=.inl ⟨x,xs,rfl,h,q⟩
def zuA {Q:DK}{x:D}{zs:List Str}(hx:Lst S x (zs.map D.str))(hl:zs.length<=4000)(q:Q (.int (zpM zs)) S):zmJ [x] S Q:=⟨x,zs,rfl,hx,hl,q⟩
def zxz {t:DA}(h:t Z S (zny R)):zlm t Z S R:=h
def zpV {x y:D}{xs ys:List D}(hx:Lst S x xs)(hy:Lst S y ys)(q:R ⟨za8 xs ys,fun S=>Lst S x xs/\Lst S y ys⟩ S):zny R [x,y] S:=.inl ⟨x,y,xs,ys,rfl,hx,hy,q⟩
def zyo {own:Nat}{fv:List Nat}{wi:DI}{g:DG}{tc:DT}{te:DE}{Q:DK}(h:wi Z S fun J S1=>znC own fv g tc te Z Q J S1):dLC own fv wi g tc te Z S Q:=h
end
def zqj {A B:Prop}(h:B):if false=true then A else B:=by rw[if_neg qv];exact h
def zrk {A B:Prop}(h:A):if true=true then A else B:=by rw[if_pos rfl];exact h
def r_d {c A B:Prop}[Decidable c](h1:c->A)(h2:¬ c->B):if decide c=true then A else B:=by
 by_cases h:c
 ·rw[decide_eq_true h,if_pos rfl];exact h1 h
 ·rw[decide_eq_false h,if_neg qv];exact h2 h
def zlb {c A B:Prop}[Decidable c](h1:¬ c->A)(h2:c->B):if(!decide c)=true then A else B:=by
 by_cases h:c
 ·rw[decide_eq_true h];exact h2 h
 ·rw[decide_eq_false h];exact h1 h
def zbr (S T:Sto)(k:Nat):(S++T)[S.length+k]?=T[k]?:=by
 rw[qj (Nat.le_add_right _ _),Nat.add_sub_cancel_left]
def zsK (S T:Sto):(S++T)[S.length]?=T[0]?:=zbr S T 0
def zag {S T:Sto}{c:Cell}:(S++c::T)[S.length]?=some c:=(zbr S (c::T) 0).trans rfl
def zgp {S T:Sto}{c:Cell}:(S++(T++[c]))[S.length+T.length]?=some c:=by rw[zbr,qj (qe _),Nat.sub_self];rfl
def ztz (S T:Sto)(k:Nat)(c:Cell):(S++T).set (S.length+k) c=S++T.set k c:=by
 rw[List.set_append_right _ _ (Nat.le_add_right _ _),Nat.add_sub_cancel_left]
def zcg (S T:Sto)(a c:Cell):(S++a::T).set S.length c=S++c::T:=ztz S (a::T) 0 c
def zX {S T:Sto}{n:Nat}{c:Cell}(h:S[n]?=some c):(S++T)[n]?=some c:=by
 have:n<S.length:=by
  rcases qX n S.length with g|g
  ·exact g
  ·rw[qE g]at h;cases h
 rw[qu this];exact h
def Lst.old {S T:Sto}{x:D}{xs:List D}(h:Lst S x xs):Lst (S++T) x xs:=h.imp id fun⟨n,e,h⟩=>⟨n,e,zX h⟩
def Lst.at {S T:Sto}{k:Nat}{xs:List D}(h:T[k]?=some (.lst xs)):Lst (S++T) (.ref (S.length+k)) xs:=.inr ⟨_,rfl,by rw[zbr];exact h⟩
def Lst.at0 {S T:Sto}{xs:List D}:Lst (S++.lst xs::T) (.ref S.length) xs:=.inr ⟨_,rfl,by rw[zsK];rfl⟩
def Lst.new {S T:Sto}{xs:List D}:Lst (S++(T++[.lst xs])) (.ref (S.length+T.length)) xs:=.inr ⟨_,rfl,zgp⟩
theorem Lst.rl {S:Sto}{xs:List D}:Lst S (.rl xs) xs:=.inl rfl
def Lst.here {S:Sto}{n:Nat}{xs:List D}(h:S[n]?=some (.lst xs)):Lst S (.ref n) xs:=.inr ⟨n,rfl,h⟩
def zaX {S T:Sto}{Q:DK}{d:D}(h:fl 20 d=true)(q:Q d S):Fin S Q d (S++T):=.inr ⟨S,List.prefix_append _ _,qe _,.inl h,fun _ _ e=>.inl e,q⟩
def fin_same {S S':Sto}{Q:DK}{d:D}(q:Q d S'):Fin S Q d S':=.inl q
section
variable {S:Sto}{Q:DK}
def zjI {i:Int}(q:Q (.bl true) S):zfu [.int i,.ty "int"] S Q:=⟨_,_,true,rfl,by rfl,q⟩
def ziM {i:Int}(q:Q (.bl false) S):zfu [.int i,.ty "bool"] S Q:=⟨_,_,false,rfl,by rfl,q⟩
def zh4 {xs:List D}(q:Q (.bl true) S):zfu [.tup xs,.ty "tuple"] S Q:=⟨_,_,true,rfl,by rfl,q⟩
def ziW {n:Nat}{xs:List D}(h:S[n]?=some (.lst xs))(q:Q (.bl true) S):zfu [.ref n,.ty "list"] S Q:=⟨_,_,true,rfl,by unfold zqX;rw[if_neg (by decide)];simp only[h];rfl,q⟩
end
def zv0 {A B:Prop}(h:B):if(!true)=true then A else B:=zqj h
def zwj {A B:Prop}(h:A):if(!false)=true then A else B:=zrk h
def zfS {S:Sto}{Q:DK}{x:D}{bs:List Bool}{b:Bool}(h:Lst S x (bs.map D.bl))(e:bs.all id=b)(q:Q (.bl b) S):zf9 [x] S Q:=zwA h (by rw[e];exact q)
def LcW (S:Sto)(items:List D)(p:D->Bool)(f:D->D)(i:Nat)(ys:List D)(S':Sto):Prop:=S'=S/\ys=((items.take i).filter p).map f
def zaK {α:Type}{xs:List α}{i:Nat}{x:α}(h:xs[i]?=some x):xs.take (i+1)=xs.take i++[x]:=by rw[List.take_succ,h];rfl
def zbL {S:Sto}{items:List D}{p:D->Bool}{f:D->D}{i:Nat}{ys:List D}{d y:D}(hd:items[i]?=some d)(hw:LcW S items p f i ys S)(hp:p d=true)(hy:y=f d):LcW S items p f (i+1) (ys++[y]) S :=
 ⟨rfl,by rw[zaK hd,List.filter_append,qH,<- hw.2,List.filter_cons_of_pos hp,hy];rfl⟩
def znH {S:Sto}{items:List D}{p:D->Bool}{f:D->D}{i:Nat}{ys:List D}{d:D}(hd:items[i]?=some d)(hw:LcW S items p f i ys S)(hp:p d=false):LcW S items p f (i+1) ys S :=
 ⟨rfl,by rw[zaK hd,List.filter_append,qH,<- hw.2,List.filter_cons_of_neg (by rw[hp];exact qv)];simp⟩
def za4 {own:Nat}{fv:List Nat}{xs:List D}{ok:Sto->Prop}{g:DG}{tc:DT}{te:DE}{Z:Rho}{S:Sto}{Q:DK}(p:D->Bool)(f:D->D)(hok:ok S)(hbig:xs.length<=big)
  (step:∀ i d ys,xs[i]?=some d->LcW S xs p f i ys S->g d (zem own fv Z) S fun ρ2 S2=>tc ρ2 S2 fun b S3=>if b=true then te ρ2 S3 fun y S4=>LcW S xs p f (i+1) (ys++[y]) S4 else LcW S xs p f (i+1) ys S3)
  (q:New Q S ((xs.filter p).map f)):znC own fv g tc te Z Q ⟨xs,ok⟩ S:=by
 refine⟨hbig,LcW S xs p f,⟨rfl,by simp⟩,fun i ys S' h=>by rw[h.1];exact hok,fun i d ys S' hd h=>?_,fun ys S' h=>?_⟩
 ·obtain⟨rfl,_⟩:=id h;exact step i d ys hd h
 ·obtain⟨rfl,rfl⟩:=h;rw[List.take_length];exact q
def map_const {α β:Type}(xs:List α)(c:β):xs.map (fun _=>c)=List.replicate xs.length c:=by
 induction xs with
 |nil=>rfl
 |cons x xs ih=>rw[qI,ih];rfl
def filter_true {α:Type}(xs:List α):xs.filter (fun _=>true)=xs:=List.filter_eq_self.mpr fun _ _=>rfl
def ze1 {ds:List D}{i:Nat}{d:D}(h:ds[i]?=some d):atD ds (i:Int)=some d:=by
 have hl:i<ds.length:=by
  rcases qX i ds.length with g|g
  ·exact g
  ·rw[qE g]at h;cases h
 unfold atD ixD;rw[if_pos (by lia),if_pos (by lia)];simpa using h
def zgD {lo:Int}{n i:Nat}{d:D}(h:(upto lo n)[i]?=some d):i<n/\d=.int (lo+i):=by
 unfold upto at h;rw[qk]at h;by_cases hi:i<n
 ·rw[List.getElem?_range hi]at h;exact⟨hi,by simpa using h.symm⟩
 ·rw[qE (by simpa using hi)]at h;cases h
def zeU (lo:Int)(n:Nat):(upto lo n).length=n:=by unfold upto;simp
def zoi {zs:List Int}{k:Int}(h0:0<=k)(h:k<zs.length):∃ z,z∈zs/\atD (zs.map D.int) k=some (.int z):=by
 refine⟨zs[k.toNat]'(by lia),List.getElem_mem _,?_⟩;unfold atD ixD;rw[qb,if_pos h0,if_pos h];simp only[Option.bind_some];rw[qk,qc (by lia)];rfl
def zuM {zs:List Int}{k:Int}(h0:0<=k)(h:k<zs.length):ixD (zs.map D.int).length k=some k.toNat:=by
 unfold ixD;rw[qb,if_pos h0,if_pos h]
def zpB {zs:List Int}{i:Nat}{v z:Int}(h:z∈zs.set i v):z∈zs\/z=v:=by
 rcases List.mem_or_eq_of_mem_set h with h|h
 ·exact .inl h
 ·exact .inr h
def zdr {zs:List Int}{i:Nat}{d:D}(h:(zs.map D.int)[i]?=some d):∃ z,zs[i]?=some z/\d=.int z:=by
 rw[qk]at h;cases e:zs[i]? with
 |none=>rw[e]at h;cases h
 |some p=>rw[e]at h;cases h;exact⟨p,rfl,rfl⟩
def zc1 {cs:List (Int×Int)}{i:Nat}{d:D}(h:(cs.map p2)[i]?=some d):∃ c,cs[i]?=some c/\d=p2 c:=by
 rw[qk]at h;cases e:cs[i]? with
 |none=>rw[e]at h;cases h
 |some p=>rw[e]at h;cases h;exact⟨p,rfl,rfl⟩
def zad {α:Type}{xs:List α}{i:Nat}{x:α}(h:xs[i]?=some x):i<xs.length:=by
 rcases qX i xs.length with g|g
 ·exact g
 ·rw[qE g]at h;cases h
def za2:Option Int->D
 |none=>.non
 |some v=>.int v
theorem zb0:∀ {xs:List D} {k i:Nat} {d:D},(zct k xs)[i]?=some d->∃ x,xs[i]?=some x/\d=.tup [.int ((k+i:Nat):Int),x]
 |[],k,i,d,h=>by simp[zct]at h
 |x::xs,k,0,d,h=>⟨x,rfl,by simpa [zct]using h.symm⟩
 |x::xs,k,i+1,d,h=>by
  obtain⟨y,e1,e2⟩:=zb0 (xs:=xs) (k:=k+1) (i:=i) (d:=d) (by simpa [zct]using h);exact⟨y,by simpa using e1,by rw[e2,show k+1+i=k+(i+1) by lia]⟩
theorem zbm:∀ (k:Nat) (xs:List D),(zct k xs).length=xs.length
  |_,[]=>rfl
  |k,x::xs=>congrArg (· + 1) (zbm (k+1) xs)
theorem zfB:∀ {xs ys:List D} {i:Nat} {d:D},(za8 xs ys)[i]?=some d->∃ x y,xs[i]?=some x/\ys[i]?=some y/\d=.tup [x,y]
 |[],ys,i,d,h=>by simp[za8]at h
 |x::xs,[],i,d,h=>by simp[za8]at h
 |x::xs,y::ys,0,d,h=>⟨x,y,rfl,rfl,by simpa [za8]using h.symm⟩
 |x::xs,y::ys,i+1,d,h=>by
  obtain⟨a,b,e1,e2,e3⟩:=zfB (xs:=xs) (ys:=ys) (i:=i) (d:=d) (by simpa [za8]using h);exact⟨a,b,by simpa using e1,by simpa using e2,e3⟩
theorem zdf:∀ (xs ys:List D),(za8 xs ys).length=min xs.length ys.length
 |[],ys=>by simp[za8]
 |x::xs,[]=>by simp[za8]
 |x::xs,y::ys=>by
  show(za8 xs ys).length+1=min (xs.length+1) (ys.length+1);rw[zdf xs ys];lia
def spT (T:Sto):DSp:=fun ds S Q=>∃ ns:List Int,ds=[.rl (ns.map D.int)]/\(S=T/\∀ n∈ns,Hg n)/\ns.length<=63/\∀ S',Q (.bl true) S'
abbrev zhr (xs:List (Str×Nat×Nat)):Sto:=xs.map fun t=>.tab t.1 t.2.1 t.2.2
def zyu {T:Sto}:∀ ds So Q,spT T ds So Q->ds.length=1:=fun ds So Q ⟨ns,e,_⟩=>by rw[e];rfl
def zmj {α β:Type}(f:α->β)(xs:List α)(lo hi:Option Int):cutD (xs.map f) lo hi=(cutD xs lo hi).map f:=by
 unfold cutD;rw[qb,List.map_take,List.map_drop]
def zrS {α:Type}(xs:List α)(lo hi:Option Int):(cutD xs lo hi).length<=slD xs.length xs.length hi-slD xs.length 0 lo:=by
 unfold cutD;rw[qaf];lia
section
variable {nx:Rho->Sto->Prop}{rt:DK}{bk ct:Rho->Sto->Prop}{Z:Rho}{S:Sto}
def zr2 {f:zcv}{ex:XR}{t:DA}{Q:DK}(h:t Z S fun xs S1=>f xs S1 Q (ex Z)):zbE f ex t Z S Q:=h
def zr0 {ex:XR}{c:Str}(h:ex Z c S):zet ex c ⟨nx,rt,bk,ct⟩ Z S:=h
def zwI {tbl:List (Str×Bool)}{t:DE}{Q:DK}(h:t Z S fun x S1=>∃ c b,x=.exn c/\tbl.lookup c=some b/\Q (.bl b) S1):zht tbl t Z S Q:=h
def ztW {tbl:List (Str×Bool)}{c:Str}{b:Bool}{P:Bool->Prop}(e:tbl.lookup c=some b)(q:P b):∃ c' b',D.exn c=.exn c'/\tbl.lookup c'=some b'/\P b':=⟨c,b,rfl,e,q⟩
def zxr {i:Nat}{ok:List Str}{b:XR->DS}{h:DS}(g:b (fun ρ' c S'=>ok.contains c=true/\h ⟨fun ρ2 S2=>nx (ρ2.set i none) S2,rt,fun _ _=>False,fun _ _=>False⟩ (ρ'.set i (some (.exn c))) S') ⟨nx,rt,bk,ct⟩ Z S):zp9 i ok b h ⟨nx,rt,bk,ct⟩ Z S:=g
end
def zjR {S:Sto}{Q:DK}{x y:D}{xs ys:List D}{b:Bool}(hx:Lst S x xs)(hy:Lst S y ys)(fx:xs.all (fl 20)=true)(fy:ys.all (fl 20)=true)(e:eqvAll xs ys=b)(q:Q (.bl b) S):oEq x y S Q:=⟨_,.inr (.inl ⟨xs,ys,hx,hy,fx,fy,rfl⟩),by rw[e];exact q⟩
def zwM {S:Sto}{Q:DK}{x y:D}{xs ys:List D}{b:Bool}(hx:Lst S x xs)(hy:Lst S y ys)(fx:xs.all (fl 20)=true)(fy:ys.all (fl 20)=true)(e:eqvAll xs ys=b)(q:Q (.bl (!b)) S):oNe x y S Q:=⟨_,.inr (.inl ⟨xs,ys,hx,hy,fx,fy,rfl⟩),by rw[e];exact q⟩
def zsy {S:Sto}{Q:DK}{x y:Str}{b:Bool}(fx:fl 20 (.str x)=true)(fy:fl 20 (.str y)=true)(e:(x==y)=b)(q:Q (.bl b) S):oEq (.str x) (.str y) S Q:=⟨_,.inl ⟨fx,fy,rfl⟩,by show Q (.bl (x==y)) S;rw[e];exact q⟩
section
variable {nx:Rho->Sto->Prop}{rt:DK}{bk ct:Rho->Sto->Prop}{Z:Rho}{S:Sto}{Q:DK}{td ti tz tv:DE}
def zuL (h:Q (.ref S.length) (S++[.dk []])):znw Z S Q:=h
def zww (h:td Z S fun x S1=>ti Z S1 fun y S2=>∃ d,DGt S2 x y (some d)/\Q d S2):zi5 td ti Z S Q:=h
def zw9 (h:ti Z S fun y S1=>td Z S1 fun x S2=>∃ o,DGt S2 x y o/\Q (.bl o.isSome) S2):zpU ti td Z S Q:=h
def zp0 (h:ti Z S fun y S1=>td Z S1 fun x S2=>∃ o,DGt S2 x y o/\Q (.bl (!o.isSome)) S2):zgq ti td Z S Q:=h
def zt2 (h:td Z S fun x S1=>∃ n kvs,[x]=[.ref n]/\S1[n]?=some (.dk kvs)/\Q (.int kvs.length) S1):znB td Z S Q:=h
def zt3 (h:td Z S fun x S1=>zm8 S1 x/\ti Z S1 fun y S2=>∃ n kvs z d,x=.ref n/\y=.str z/\S2[n]?=some (.dk kvs)/\dval kvs z=some d/\Q d (S2.set n (.dk (zgJ kvs z)))):zm6 td ti Z S Q:=h
def ztq {tk:DE}(h:tk Z (S++[.dk []]) fun x S1=>tv Z S1 fun y S2=>∃ z,x=.str z/\S2[S.length]?=some (.dk [])/\Q (.ref S.length) (S2.set S.length (.dk [(z,y)]))):zkm tk tv Z S Q:=h
def zul (h:tv Z S fun v S1=>td Z S1 fun x S2=>ti Z S2 fun y S3=>zff S3 x y v (nx Z)):zj2 td ti tv ⟨nx,rt,bk,ct⟩ Z S:=h
def zwS (mx:Bool)(x:Str)(l c:Nat)(fv:List Nat)(te:DE)(Z:Rho)(Q:DK)(d:D)(S1:Sto):Prop:=∃ (n:Nat) (kvs:List (Str×D)) (t:Nat) (kf:Nat->Int),d=.ref n/\S1[n]?=some (.dk kvs)/\0<kvs.length/\S1[t]?=some (.tab x l c) /\
 (∀ (i:Nat) z v,kvs[i]?=some (z,v)->te (some (.str z)::fv.map fun j=>(Z[j]?).join) S1 fun y S2=>y=.int (kf i)/\S2=S1) /\
 ∀ (i:Nat) z v,kvs[i]?=some (z,v)->(∀ j,j<kvs.length->sgB mx (kf i)<=sgB mx (kf j)/\(j<i->sgB mx (kf i)<sgB mx (kf j)))->Q (.str z) S1
def zvw {mx:Bool}{x:Str}{l c:Nat}{fv:List Nat}{te:DE}(h:td Z S (zwS mx x l c fv te Z Q)):zns mx x l c td fv te Z S Q:=h
def DGt.k {n:Nat}{kvs:List (Str×D)}{z:Str}{o:Option D}(h:S[n]?=some (.dk kvs))(e:dval kvs z=o):DGt S (.ref n) (.str z) o:=.inl ⟨n,kvs,z,rfl,rfl,h,e.symm⟩
def zff.k {n:Nat}{kvs:List (Str×D)}{z:Str}{v:D}{P:Sto->Prop}(h:S[n]?=some (.dk kvs))(hl:kvs.length<big)(q:Put P S n (.dk (dput kvs z v))):zff S (.ref n) (.str z) v P:=.inl ⟨n,kvs,z,rfl,rfl,h,hl,q⟩
end
section
variable {κ:Type}[DecidableEq κ]
def zcQ {p:κ×D}{kvs:List (κ×D)}{k:κ}:dval (p::kvs) k=if p.1=k then some p.2 else dval kvs k:=by
 unfold dval;rw[List.find?_cons];by_cases h:p.1=k
 ·rw[if_pos h,decide_eq_true h];rfl
 ·rw[if_neg h,decide_eq_false h]
def zhN (kvs:List (κ×D))(k:κ):(kvs.any fun kv=>decide (kv.1=k))=(dval kvs k).isSome:=by
 induction kvs with
 |nil=>rfl
 |cons p kvs ih =>
  rw[List.any_cons,zcQ,ih];by_cases h:p.1=k
  ·rw[if_pos h,decide_eq_true h];rfl
  ·rw[if_neg h,decide_eq_false h];rfl
end
def zhR (c:List Str)(z:Str):(zf5 c z).length=if c.any (·==z)then c.length else c.length+1:=by
  unfold zf5;split<;>simp
def zkD (c:List Str)(z y:Str):(zf5 c z).any (·==y)=(c.any (·==y)||decide (y=z)):=by
  unfold zf5;by_cases h:c.any (·==z)=true
  . rw[if_pos h];by_cases e:y=z
    . subst e;rw[h];rfl
    . rw[decide_eq_false e,Bool.or_false]
  . rw[if_neg h,List.any_append];congr 1;by_cases e:y=z
    . subst e;simp
    . rw[decide_eq_false e];have:(z==y)=false:=beq_eq_false_iff_ne.mpr fun q=>e q.symm
      simp[this]
theorem zi1 (f:Nat->Str):∀ i,(zcj f i).length<=i
  |0=>qe _
  |i+1=>by
    have:=zi1 f i;show(zf5 (zcj f i) (f i)).length<=i+1;rw[zhR];split<;>lia
theorem zlv (f:Nat->Str)(y:Str):∀ i,((zcj f i).any (·==y)=true↔∃ j,j<i/\f j=y)
  |0=>⟨fun h=>(by simp[zcj]at h),fun⟨j,hj,_⟩=>(by lia)⟩
  |i+1=>by
    show((zf5 (zcj f i) (f i)).any (·==y)=true)↔_;rw[zkD,Bool.or_eq_true,zlv f y i,decide_eq_true_eq];constructor
    . rintro(⟨j,hj,e⟩|e)
      . exact⟨j,by lia,e⟩
      . exact⟨i,by lia,e.symm⟩
    . rintro⟨j,hj,e⟩;rcases qX j i with h|h
      . exact .inl ⟨j,h,e⟩
      . have:j=i:=by lia
        subst this;exact .inr e.symm
theorem zkn (f:Nat->Str):∀ i,(∀ a b,a<b->b<i->f a≠f b)->(zcj f i).length=i
 |0,_=>rfl
 |i+1,h=>by
  show(zf5 (zcj f i) (f i)).length=i+1;rw[zhR,zkn f i fun a b x y=>h a b x (by lia)];rw[if_neg];intro z;obtain⟨j,hj,e⟩:=(zlv f (f i) i).mp z;exact h j i hj (by lia) e
def znG {zs:List Str}(h:zs.Nodup):zpM zs=zs.length:=zkn _ _ fun a b hab hb=>by
 show zs.getD a Str.empty≠zs.getD b Str.empty;rw[qw,qw,qc hb,qc (show a<zs.length by lia)];exact qae.mp h a b (by lia) hb hab
end Dp
namespace Rm
structure Pc where
 lo:Int
 hi:Int
 to:Int
 st:Int
instance:DecidableEq Pc:=fun p q=>if h:p.lo=q.lo/\p.hi=q.hi/\p.to=q.to/\p.st=q.st then isTrue (by cases p;cases q;obtain⟨h1,h2,h3,h4⟩:=h;cases h1;cases h2;cases h3;cases h4;rfl)else isFalse (fun e=>h (by subst e;exact⟨rfl,rfl,rfl,rfl⟩))
def Pc.led (p:Pc)(h:Int):Int:=p.to+p.st*(h-p.lo)
def Pc.fin (p:Pc):Int:=p.led p.hi
def inP (p:Pc)(h:Int):Prop:=p.lo<=h/\h<=p.hi
instance (p:Pc) (h:Int):Decidable (inP p h):=by unfold inP;infer_instance
def at':List Pc->Int->Option Int
 |[],_=>none
 |p::r,h=>if inP p h then some (p.led h)else at' r h
end Rm
namespace Dp
open PySem Rm
open PySem Rm My
def zgO (cs:List (Int×Int)):fl 20 (.tup (cs.map p2))=true:=by
 show(cs.map p2).all (fl 19)=true;rw[List.all_map,qag];intro p _;rfl
def zkK {xs:List D}{x:D}:ixD (xs++[x]).length (-1)=some xs.length:=by
 have hl:((xs++[x]).length:Int)=xs.length+1:=by simp
 unfold ixD;rw[if_neg (by lia),if_pos (by lia)];congr 1;lia
def zhE {xs:List D}{x:D}:atD (xs++[x]) (-1)=some x:=by
 unfold atD;rw[zkK];simp
end Dp
namespace Rm
open My Dp
def inS (h:Int)(c:Int×Int):Bool:=decide (c.1<=h)&&decide (h<=c.2)
def lec (c:Int×Int):Bool:=decide (c.1<=c.2)
structure zal (cs:List (Int×Int)):Prop where
 le:∀ c∈cs,c.1<=c.2
 ap:cs.Pairwise fun a b=>a.2+2<=b.1
def zeg {h:Int}{c:Int×Int}:inS h c=true↔c.1<=h/\h<=c.2:=by unfold inS;simp
def zaA {h:Int}{cs:List (Int×Int)}:cs.any (inS h)=true↔∃ c∈cs,c.1<=h/\h<=c.2:=by
 rw[List.any_eq_true];constructor
 ·rintro⟨c,hc,g⟩;exact⟨c,hc,zeg.mp g⟩
 ·rintro⟨c,hc,g⟩;exact⟨c,hc,zeg.mpr g⟩
def zal.nil:zal []:=⟨fun c hc=>absurd hc (by simp),.nil⟩
def zal.snoc {ms:List (Int×Int)}{c:Int×Int}(s:zal ms)(hc:c.1<=c.2)(h:∀ m∈ms,m.2+2<=c.1):zal (ms++[c]):=by
 refine⟨fun d hd=>?_,List.pairwise_append.mpr ⟨s.ap,List.pairwise_singleton _ _,fun a ha b hb=>?_⟩⟩
 ·rcases qF.mp hd with g|g
  ·exact s.le d g
  ·have:d=c:=by simpa using g
   subst this;exact hc
 ·have:b=c:=by simpa using hb
  subst this;exact h a ha
def zal.init {ms:List (Int×Int)}{c:Int×Int}(s:zal (ms++[c])):zal ms/\c.1<=c.2/\∀ m∈ms,m.2+2<=c.1:=by
 obtain⟨h1,h2,h3⟩:=List.pairwise_append.mp s.ap;exact⟨⟨fun d hd=>s.le d (qQ _ hd),h1⟩,s.le c (by simp),fun m hm=>h3 m hm c (by simp)⟩
def zqC {ms:List (Int×Int)}{l c:Int×Int}(s:zal (ms++[l]))(hc:c.1<=c.2)(h1:l.1<=c.1)(h2:c.1<=l.2+1) :
  zal (ms++[(l.1,max l.2 c.2)])/\∀ h,(ms++[(l.1,max l.2 c.2)]).any (inS h)=((ms++[l]).any (inS h)||inS h c):=by
 obtain⟨s0,hl,hm⟩:=s.init;refine⟨s0.snoc (by show l.1<=max l.2 c.2;lia) hm,fun h=>?_⟩;rw[List.any_append,List.any_append,Bool.or_assoc];congr 1;rw[Bool.eq_iff_iff,Bool.or_eq_true];simp only[List.any_cons,List.any_nil,Bool.or_false,zeg];lia
def zvL {a b:Int×Int}(h:zhy b a=false):a.1<=b.1:=by
 unfold zhy at h;rw[decide_eq_false_iff_not]at h;lia
def any_filter (cs:List (Int×Int))(h:Int):(cs.filter fun c=>decide (c.1<=c.2)).any (inS h)=cs.any (inS h):=by
 rw[Bool.eq_iff_iff,zaA,zaA];constructor
 ·rintro⟨c,hc,g⟩;exact⟨c,(qO.mp hc).1,g⟩
 ·rintro⟨c,hc,g⟩;exact⟨c,qO.mpr ⟨hc,decide_eq_true (by lia)⟩,g⟩
def zp4 {a b:List (Int×Int)}(p:a.Perm b)(h:Int):a.any (inS h)=b.any (inS h):=by
 rw[Bool.eq_iff_iff,zaA,zaA];constructor
 ·rintro⟨c,hc,g⟩;exact⟨c,p.mem_iff.mp hc,g⟩
 ·rintro⟨c,hc,g⟩;exact⟨c,p.mem_iff.mpr hc,g⟩
def za5 (a b:Int×Int):Int×Int:=(max a.1 b.1,min a.2 b.2)
def zaN (as bs:List (Int×Int)):List (Int×Int):=as.flatMap fun a=>bs.map (za5 a)
def znE (as bs:List (Int×Int))(h:Int):(zaN as bs).any (inS h)=(as.any (inS h)&&bs.any (inS h)):=by
  rw[Bool.eq_iff_iff,qA,zaA,zaA,zaA];unfold zaN;constructor
  . rintro⟨c,hc,g1,g2⟩;obtain⟨a,ha,hm⟩:=List.mem_flatMap.mp hc;obtain⟨b,hb,rfl⟩:=qU.mp hm;unfold za5 at g1 g2;dsimp only at g1 g2;refine⟨⟨a,ha,?_⟩,⟨b,hb,?_⟩⟩<;>lia
  . rintro⟨⟨a,ha,g1,g2⟩,⟨b,hb,k1,k2⟩⟩;refine⟨za5 a b,List.mem_flatMap.mpr ⟨a,ha,qU.mpr ⟨b,hb,rfl⟩⟩,?_⟩;unfold za5;dsimp only;constructor<;>lia
def zkG {a b:Int×Int}(ha:a.1<=a.2)(hb:b.1<=b.2):(za5 a b).1<=(za5 a b).2↔b.1<=a.2/\a.1<=b.2:=by
 unfold za5;dsimp only;lia
theorem zmx {a:Int×Int}(ha:a.1<=a.2):∀ {bs:List (Int×Int)},zal bs->((bs.map (za5 a)).filter fun c=>decide (c.1<=c.2)).length<=(bs.filter fun b=>decide (b.2<=a.2)).length+1
  |[],_=>by simp
  |b::bs,s=>by
    obtain⟨cb,pb⟩:=qZ.mp s.ap;have hb:=s.le b (by simp);have s':zal bs:=⟨fun x hx=>s.le x (by simp[hx]),pb⟩
    have ih:=zmx ha s';rw[qI];by_cases h1:b.2<=a.2
    . rw[List.filter_cons_of_pos (p:=fun b:Int×Int=>decide (b.2<=a.2)) (decide_eq_true h1)]
      have:(((za5 a b)::bs.map (za5 a)).filter fun c=>decide (c.1<=c.2)).length<=((bs.map (za5 a)).filter fun c=>decide (c.1<=c.2)).length+1:=by
        rw[List.filter_cons];split<;>simp
      simp only[qJ];lia
    . have none : (bs.map (za5 a)).filter (fun c => decide (c.1 ≤ c.2)) = [] := by
        rw[List.filter_eq_nil_iff];intro c hc;obtain⟨x,hx,rfl⟩:=qU.mp hc;have:=cb x hx;have hx2:=s'.le x hx;rw[decide_eq_true_eq,zkG ha hx2];lia
      rw[List.filter_cons,none];split<;>simp
theorem zla:∀ {as bs:List (Int×Int)},zal as->zal bs->((zaN as bs).filter fun c=>decide (c.1<=c.2)).length<=as.length+bs.length
 |[],bs,_,_=>by simp[zaN]
 |a::as,bs,sa,sb=>by
  obtain⟨ca,pa⟩:=qZ.mp sa.ap;have ha:=sa.le a (by simp);have sa':zal as:=⟨fun x hx=>sa.le x (by simp[hx]),pa⟩
  have sb2:zal (bs.filter fun b=>!decide (b.2<=a.2)):=⟨fun x hx=>sb.le x (qO.mp hx).1,sb.ap.filter _⟩
  have ih:=zla sa' sb2;have one:=zmx ha sb
  have same:((zaN as bs).filter fun c=>decide (c.1<=c.2)).length=((zaN as (bs.filter fun b=>!decide (b.2<=a.2))).filter fun c=>decide (c.1<=c.2)).length:=by
   clear ih one
   induction as with
   |nil=>rfl
   |cons d ds ihd =>
    have hd:a.2+2<=d.1:=ca d (by simp);have hd2:=sa.le d (by simp);unfold zaN at ihd ⊢;rw[List.flatMap_cons,List.flatMap_cons,List.filter_append,List.filter_append,qi,qi]
    have e1:((bs.map (za5 d)).filter fun c=>decide (c.1<=c.2)).length=(((bs.filter fun b=>!decide (b.2<=a.2)).map (za5 d)).filter fun c=>decide (c.1<=c.2)).length:=by
     have hle:=sb.le;clear ihd sb sb2
     induction bs with
     |nil=>rfl
     |cons b bs ihb =>
      have ih':=ihb fun x hx=>hle x (by simp[hx])
      have hb:=hle b (by simp);by_cases h1:b.2<=a.2
      ·rw[List.filter_cons_of_neg (p:=fun b:Int×Int=>!decide (b.2<=a.2)) (by simp[h1]),qI,List.filter_cons_of_neg (by rw[decide_eq_true_eq,zkG hd2 hb];lia)];exact ih'
      ·rw[List.filter_cons_of_pos (p:=fun b:Int×Int=>!decide (b.2<=a.2)) (by simp[h1]),qI,qI,List.filter_cons,List.filter_cons];split
       ·simp only[qJ];lia
       ·exact ih'
    have pa2:=qZ.mp (qZ.mp sa.ap).2
    have sd:zal (a::ds):=⟨fun x hx=>by
     rcases qg.mp hx with rfl|hx
     ·exact ha
     ·exact sa.le x (by simp[hx]),qZ.mpr ⟨fun x hx=>ca x (by simp[hx]),pa2.2⟩⟩
    have e2:=ihd sd (fun x hx=>ca x (by simp[hx])) pa2.2 ⟨fun x hx=>sd.le x (by simp[hx]),pa2.2⟩;rw[e1,e2]
  have split2:bs.length=(bs.filter fun b=>decide (b.2<=a.2)).length+(bs.filter fun b=>!decide (b.2<=a.2)).length:=by
   clear ih one same sb sb2
   induction bs with
   |nil=>rfl
   |cons b bs ihb =>
    rw[List.filter_cons,List.filter_cons];by_cases h1:b.2<=a.2
    ·simp[h1];lia
    ·simp[h1];lia
  unfold zaN at same ih ⊢;rw[List.flatMap_cons,List.filter_append,qi,same];simp only[qJ];lia
end Rm
namespace Dp
open PySem Rm My
def zaU:List (Int×Int)->Int->Option Int
 |[],_=>none
 |c::r,h=>if h<=c.2 then some (max c.1 h)else zaU r h
def on2 (f:Int×Int->D):D->D
 |.tup [.int a,.int b]=>f (a,b)
 |d=>d
def zuc (p:Int×Int->Bool):D->Bool
 |.tup [.int a,.int b]=>p (a,b)
 |_=>false
def zr7 (f:Int×Int->D)(cs:List (Int×Int)):(cs.map p2).map (on2 f)=cs.map f:=by rw[qT];rfl
def zpT (p:Int×Int->Bool)(cs:List (Int×Int)):(cs.map p2).filter (zuc p)=(cs.filter p).map p2:=by rw[List.filter_map];rfl
def zuD {S:Sto}{x:D}{xs:List D}{R:DIt->Sto->Prop}(h:zdi S x xs)(q:∀ ok:Sto->Prop,(∀ T,ok (S++T))->R ⟨xs,ok⟩ S):zgt x S R:=by
 rcases h with rfl|h
 ·exact .inl ⟨xs,rfl,q _ fun _=>True.intro⟩
 ·exact .inr (.inl ⟨xs,h,q _ fun T=>h.old⟩)
theorem zdi.old {S T:Sto}{x:D}{xs:List D}(h:zdi S x xs):zdi (S++T) x xs:=h.imp id Lst.old
def zis (as bs:List (Int×Int)):(zaN as bs).length=as.length*bs.length:=by
 unfold zaN
 induction as with
 |nil=>simp
 |cons a as ih=>rw[List.flatMap_cons,qi,ih,qb,qJ,Nat.succ_mul,Nat.add_comm]
def zlK {as bs:List (Int×Int)}{i:Nat}{a:Int×Int}(h:as[i]?=some a):zaN (as.take (i+1)) bs=zaN (as.take i) bs++bs.map (za5 a):=by
 unfold zaN;rw[zaK h,List.flatMap_append];simp
def zax:Int->List (Int×Int)->List (Int×Int)×Int
 |st,[]=>([],st)
 |st,c::cs=>((st,c.1-1)::(zax (c.2+1) cs).1,(zax (c.2+1) cs).2)
theorem zdJ:∀ (st:Int) (cs:List (Int×Int)),(zax st cs).1.length=cs.length
 |_,[]=>rfl
 |st,c::cs=>by show((zax (c.2+1) cs).1.length+1)=_;rw[zdJ];rfl
theorem zfy:∀ (st:Int) (cs:List (Int×Int)) (c:Int×Int),zax st (cs++[c])=((zax st cs).1++[((zax st cs).2,c.1-1)],c.2+1)
 |st,[],c=>rfl
 |st,d::cs,c=>by
  show((st,d.1-1)::(zax (d.2+1) (cs++[c])).1,(zax (d.2+1) (cs++[c])).2)=_;rw[zfy];rfl
theorem zkz {hi h:Int}(hh:h<=hi):∀ (st:Int) {cs:List (Int×Int)},zal cs->st<=h->(∀ c∈cs,c.2<=h->True)->(((zax st cs).1++[((zax st cs).2,hi)]).any (inS h)=true↔¬ ∃ c∈cs,c.1<=h/\h<=c.2)
  |st,[],_,hs,_=>by
    simp[zax,zeg,hs,hh]
  |st,c::cs,s,hs,_=>by
    obtain⟨cb,pb⟩:=qZ.mp s.ap;have hc:=s.le c (by simp);have s':zal cs:=⟨fun x hx=>s.le x (by simp[hx]),pb⟩
    show(((st,c.1-1)::((zax (c.2+1) cs).1++[((zax (c.2+1) cs).2,hi)])).any (inS h)=true↔_);rw[List.any_cons,Bool.or_eq_true,zeg];rcases(by lia:h<c.1\/(c.1<=h/\h<=c.2)\/c.2<h)with g|g|g
    . constructor
      . rintro-⟨x,hx,k1,k2⟩;rcases qg.mp hx with rfl|hx
        . lia
        . have:=cb x hx;lia
      . intro _;exact .inl ⟨hs,by show h<=c.1-1;lia⟩
    . constructor
      . intro z;exfalso;rcases z with⟨_,z⟩|z
        . have:h<=c.1-1:=z;lia
        . obtain⟨x,hx,k1,k2⟩:=zaA.mp z
          have low:∀ (st:Int) (cs:List (Int×Int)),zal cs->(∀ d∈cs,st<=d.1)->∀ x∈(zax st cs).1++[((zax st cs).2,hi)],st<=x.1:=by
            intro st cs
            induction cs generalizing st with
            | nil => intro _ _ x hx; have : x = (st, hi) := by simpa [zax]using hx
                     subst this;exact qac _
            |cons d ds ih =>
              intro sd hd x hx;obtain⟨c2,p2⟩:=qZ.mp sd.ap;have hd1:=hd d (by simp);have hd2:=sd.le d (by simp);have hx:x∈(st,d.1-1)::((zax (d.2+1) ds).1++[((zax (d.2+1) ds).2,hi)]):=hx;rcases qg.mp hx with rfl|hx
              . exact qac _
              . have:=ih (d.2+1) ⟨fun y hy=>sd.le y (by simp[hy]),p2⟩ (fun y hy=>by have:=c2 y hy;lia) x hx;lia
          have:=low (c.2+1) cs s' (fun d hd=>by have:=cb d hd;lia) x hx;lia
      . intro z;exact absurd ⟨c,by simp,g.1,g.2⟩ z
    . have ih:=zkz hh (c.2+1) s' (by lia) (fun _ _ _=>trivial);constructor
      . rintro z ⟨x,hx,k1,k2⟩;rcases qg.mp hx with rfl|hx
        . lia
        . rcases z with⟨_,z⟩|z
          . have:h<=c.1-1:=z;lia
          . exact ih.mp z ⟨x,hx,k1,k2⟩
      . intro z;exact .inr (ih.mpr fun⟨x,hx,k⟩=>z ⟨x,by simp[hx],k⟩)
end Dp
namespace Rm
open My Dp
def acr (L R B T x1 z1 x2 z2:Int):List Int :=
 [(x2-x1)*(B-z1)-(z2-z1)*(L-x1),(x2-x1)*(T-z1)-(z2-z1)*(L-x1),(x2-x1)*(B-z1)-(z2-z1)*(R-x1),(x2-x1)*(T-z1)-(z2-z1)*(R-x1)]
def zdv (L R B T x1 z1 x2 z2:Int):Prop :=
 L<=(max x1 x2)/\(min x1 x2)<=R/\B<=(max z1 z2)/\(min z1 z2)<=T/\(∃ a∈acr L R B T x1 z1 x2 z2,0<=a)/\∃ a∈acr L R B T x1 z1 x2 z2,a<=0
def zfs (lo hi st sp e1 e2 x1 x2:Int):Prop :=
 (sp=0/\lo<=st/\st<=hi/\e1=0/\e2=1/\x1=1/\x2=1)\/(sp=0/\(st<lo\/hi<st)/\e1=1/\e2=1/\x1=0/\x2=1) \/
 (0<sp/\e1=lo-st/\e2=sp/\x1=hi-st/\x2=sp)\/(sp<0/\e1=st-hi/\e2=-sp/\x1=st-lo/\x2=-sp)
def zjS (ea1 ea2 xa1 xa2 eu1 eu2 xu1 xu2:Int):Prop:=∀ e∈[((0:Int),(1:Int)),(ea1,ea2),(eu1,eu2)],∀ x∈[((1:Int),(1:Int)),(xa1,xa2),(xu1,xu2)],e.1*x.2<=x.1*e.2
def zcl {u a b:Int}(h:0<=u)(h':a<=b):u*a<=u*b:=Int.mul_le_mul_of_nonneg_left h' h
def zpW {p r P R:Int}{L x:Int}:(∃ a∈[P-L,R-L,P-x,R-x],p<=a)↔(p<=P-L\/p<=R-L\/p<=P-x\/p<=R-x):=by simp
def zoa {p P R:Int}{L x:Int}:(∃ a∈[P-L,R-L,P-x,R-x],a<=p)↔(P-L<=p\/R-L<=p\/P-x<=p\/R-x<=p):=by simp
def zoy {ea1 ea2 xa1 xa2 eu1 eu2 xu1 xu2:Int}:zjS ea1 ea2 xa1 xa2 eu1 eu2 xu1 xu2 ↔
  (0<=xa1/\0<=xu1)/\(ea1<=ea2/\ea1*xa2<=xa1*ea2/\ea1*xu2<=xu1*ea2)/\(eu1<=eu2/\eu1*xa2<=xa1*eu2/\eu1*xu2<=xu1*eu2):=by
 unfold zjS;simp
def zjX (lo hi st sp e1 e2 x1 x2:Int):Prop :=
 (sp=0/\lo<=st/\st<=hi/\e1=0/\e2=1/\x1=1/\x2=1)\/(sp=0/\(st<lo\/hi<st)/\e1=1/\e2=1/\x1=0/\x2=1)\/(0<sp/\e1=lo-st/\e2=sp/\x1=hi-st/\x2=sp)
def zks {lo hi st s t e1 e2 x1 x2:Int}(h:zfs lo hi st (t-s) e1 e2 x1 x2):zjX lo hi st (t-s) e1 e2 x1 x2\/zjX (-hi) (-lo) (-st) (-t - -s) e1 e2 x1 x2:=by
 rcases h with h|h|h|⟨h,rfl,rfl,rfl,rfl⟩
 ·exact .inl (.inl h)
 ·exact .inl (.inr (.inl h))
 ·exact .inl (.inr (.inr h))
 ·exact .inr (.inr (.inr ⟨by lia,by lia,by lia,by lia,by lia⟩))
def zkg {as bs:List Int}(h:∀ a,a∈bs↔-a∈as):((∃ a∈bs,0<=a)↔∃ a∈as,a<=0)/\((∃ a∈bs,a<=0)↔∃ a∈as,0<=a):=by
  have back:∀ a,a∈as->-a∈bs:=fun a ha=>(h (-a)).mpr (by rw[Int.neg_neg];exact ha)
  refine⟨⟨?_,?_⟩,?_,?_⟩<;>rintro⟨a,ha,h0⟩
  . exact⟨-a,(h a).mp ha,by lia⟩
  . exact⟨-a,back a ha,by lia⟩
  . exact⟨-a,(h a).mp ha,by lia⟩
  . exact⟨-a,back a ha,by lia⟩
def zql {a p q r t:Int}:a∈[-p,-q,-r,-t]↔-a∈[r,t,p,q]:=by
 have e:∀ x,a=-x↔-a=x:=fun x=>⟨fun h=>by rw[h,Int.neg_neg],fun h=>by rw[<- h,Int.neg_neg]⟩
 simp only[qg,qB,or_false,e];exact⟨fun h=>h.elim (fun h=>.inr (.inr (.inl h))) (fun h=>h.elim (fun h=>.inr (.inr (.inr h))) (fun h=>h.elim .inl (fun h=>.inr (.inl h)))),fun h=>h.elim (fun h=>.inr (.inr (.inl h))) (fun h=>h.elim (fun h=>.inr (.inr (.inr h))) (fun h=>h.elim .inl (fun h=>.inr (.inl h))))⟩
def zya (a b c d e:Int):(-a - -b)*c-d*(-e - -b)=-((a-b)*c-d*(e-b)):=by
 rw[show -a - -b=-(a-b) by lia,show -e - -b=-(e-b) by lia,Int.neg_mul,Int.mul_neg];lia
def zye (a b c d e:Int):c*(-a - -b)-(-d - -b)*e=-(c*(a-b)-(d-b)*e):=by
 rw[show -a - -b=-(a-b) by lia,show -d - -b=-(d-b) by lia,Int.neg_mul,Int.mul_neg];lia
def zj5 (a b:Int):max (-a) (-b)=-(min a b):=by lia
def zk1 (a b:Int):min (-a) (-b)=-(max a b):=by lia
def zjo {L R B T x1 z1 x2 z2:Int}:zdv (-R) (-L) B T (-x1) z1 (-x2) z2↔zdv L R B T x1 z1 x2 z2:=by
 have e:acr (-R) (-L) B T (-x1) z1 (-x2) z2=[-((x2-x1)*(B-z1)-(z2-z1)*(R-x1)),-((x2-x1)*(T-z1)-(z2-z1)*(R-x1)),-((x2-x1)*(B-z1)-(z2-z1)*(L-x1)),-((x2-x1)*(T-z1)-(z2-z1)*(L-x1))]:=by
  unfold acr;simp only[zya]
 have k:=zkg (as:=acr L R B T x1 z1 x2 z2) (bs:=acr (-R) (-L) B T (-x1) z1 (-x2) z2) (fun a=>by rw[e];exact zql);unfold zdv;rw[k.1,k.2,zj5,zk1];generalize max x1 x2=a1;generalize min x1 x2=a2;generalize (∃ a∈acr L R B T x1 z1 x2 z2,0<=a)=P;generalize (∃ a∈acr L R B T x1 z1 x2 z2,a<=0)=Q;constructor
 ·rintro⟨h1,h2,h3,h4,h5,h6⟩;exact⟨by lia,by lia,h3,h4,h6,h5⟩
 ·rintro⟨h1,h2,h3,h4,h5,h6⟩;exact⟨by lia,by lia,h3,h4,h6,h5⟩
def zom {a p q r t:Int}:a∈[-p,-q,-r,-t]↔-a∈[q,p,t,r]:=by
 have e:∀ x,a=-x↔-a=x:=fun x=>⟨fun h=>by rw[h,Int.neg_neg],fun h=>by rw[<- h,Int.neg_neg]⟩
 simp only[qg,qB,or_false,e];exact⟨fun h=>h.elim (fun h=>.inr (.inl h)) (fun h=>h.elim .inl (fun h=>h.elim (fun h=>.inr (.inr (.inr h))) (fun h=>.inr (.inr (.inl h))))),fun h=>h.elim (fun h=>.inr (.inl h)) (fun h=>h.elim .inl (fun h=>h.elim (fun h=>.inr (.inr (.inr h))) (fun h=>.inr (.inr (.inl h)))))⟩
def zjw {L R B T x1 z1 x2 z2:Int}:zdv L R (-T) (-B) x1 (-z1) x2 (-z2)↔zdv L R B T x1 z1 x2 z2:=by
 have e:acr L R (-T) (-B) x1 (-z1) x2 (-z2)=[-((x2-x1)*(T-z1)-(z2-z1)*(L-x1)),-((x2-x1)*(B-z1)-(z2-z1)*(L-x1)),-((x2-x1)*(T-z1)-(z2-z1)*(R-x1)),-((x2-x1)*(B-z1)-(z2-z1)*(R-x1))]:=by
  unfold acr;simp only[zye]
 have k:=zkg (as:=acr L R B T x1 z1 x2 z2) (bs:=acr L R (-T) (-B) x1 (-z1) x2 (-z2)) (fun a=>by rw[e];exact zom);unfold zdv;rw[k.1,k.2,zj5,zk1];generalize max z1 z2=a1;generalize min z1 z2=a2;generalize (∃ a∈acr L R B T x1 z1 x2 z2,0<=a)=P;generalize (∃ a∈acr L R B T x1 z1 x2 z2,a<=0)=Q;constructor
 ·rintro⟨h1,h2,h3,h4,h5,h6⟩;exact⟨h1,h2,by lia,by lia,h6,h5⟩
 ·rintro⟨h1,h2,h3,h4,h5,h6⟩;exact⟨h1,h2,by lia,by lia,h6,h5⟩
def zrT {P Q p q:Int}(h:P<=Q)(g:p<=q):(0<=P-p\/0<=Q-p\/0<=P-q\/0<=Q-q)↔p<=Q:=⟨fun k=>by rcases k with k|k|k|k<;>lia,fun k=>.inr (.inl (by lia))⟩
def zsv {P Q p q:Int}(h:P<=Q)(g:p<=q):(P-p<=0\/Q-p<=0\/P-q<=0\/Q-q<=0)↔P<=q:=⟨fun k=>by rcases k with k|k|k|k<;>lia,fun k=>.inr (.inr (.inl (by lia)))⟩
def zfz {L R B T x1 z1 x2 z2 ea1 ea2 xa1 xa2 eu1 eu2 xu1 xu2:Int}(hx:L<=R)(hz:B<=T)(pa:zjX L R x1 (x2-x1) ea1 ea2 xa1 xa2)(pu:zjX B T z1 (z2-z1) eu1 eu2 xu1 xu2) :
    zjS ea1 ea2 xa1 xa2 eu1 eu2 xu1 xu2↔zdv L R B T x1 z1 x2 z2:=by
  have u0:0<=x2-x1:=by rcases pa with h|h|h<;>lia
  have v0:0<=z2-z1:=by rcases pu with h|h|h<;>lia
  rw[zoy];unfold zdv acr;rw[zpW (r:=0),zoa,show max x1 x2=x1+(x2-x1) by lia,show min x1 x2=x1 by lia,show max z1 z2=z1+(z2-z1) by lia,show min z1 z2=z1 by lia];generalize x2-x1=u at *;generalize z2-z1=v at *;have k1:=zcl u0 (show B-z1<=T-z1 by lia);have k2:=zcl v0 (show L-x1<=R-x1 by lia);rw[zrT k1 k2,zsv k1 k2];have c1:∀ s t:Int,(s-x1)*t=t*(s-x1):=fun s t=>Int.mul_comm _ _
  have c3:∀ s t:Int,(s-z1)*t=t*(s-z1):=fun s t=>Int.mul_comm _ _
  have k5:B<=z1->u*(B-z1)<=0:=fun h=>by have:=zcl u0 (show B-z1<=0 by lia);rwa[Int.mul_zero]at this
  have k6:z1<=T->0<=u*(T-z1):=fun h=>by have:=zcl u0 (show 0<=T-z1 by lia);rwa[Int.mul_zero]at this
  have k8:=zcl v0 (show B-z1<=T-z1 by lia);rcases pa with⟨hu,h1,h2,rfl,rfl,rfl,rfl⟩|⟨hu,h1,rfl,rfl,rfl,rfl⟩|⟨hu,rfl,rfl,rfl,rfl⟩
  . clear k5 k6;subst hu;have k3:=zcl v0 (show L-x1<=0 by lia);have k4:=zcl v0 (show 0<=R-x1 by lia);rcases pu with⟨hv,g1,g2,rfl,rfl,rfl,rfl⟩|⟨hv,g1,rfl,rfl,rfl,rfl⟩|⟨hv,rfl,rfl,rfl,rfl⟩ <;>
    simp only[c3,Int.zero_mul,Int.mul_zero,Int.one_mul,Int.mul_one]at *<;>lia
  . simp only[Int.one_mul,Int.mul_one];lia
  . have k7:=zcl u0 (show L-x1<=R-x1 by lia);rcases pu with⟨hv,g1,g2,rfl,rfl,rfl,rfl⟩|⟨hv,g1,rfl,rfl,rfl,rfl⟩|⟨hv,rfl,rfl,rfl,rfl⟩
    . subst hv;have k5:=k5 g1;have k6:=k6 g2;simp only[c1,c3,Int.zero_mul,Int.mul_zero,Int.one_mul,Int.mul_one]at *;lia
    . simp only[Int.one_mul,Int.mul_one];lia
    . simp only[c1,c3];exact⟨fun⟨⟨a,b⟩,⟨c,_,d⟩,e,f,_⟩=>⟨by lia,by lia,by lia,by lia,d,f⟩,fun⟨a,b,c,d,e,f⟩=>⟨⟨by lia,by lia⟩,⟨by lia,k7,e⟩,by lia,f,k8⟩⟩
def zqy {L R B T x1 z1 x2 z2 ea1 ea2 xa1 xa2 eu1 eu2 xu1 xu2:Int}(hx:L<=R)(hz:B<=T)(pa:zfs L R x1 (x2-x1) ea1 ea2 xa1 xa2)(pu:zfs B T z1 (z2-z1) eu1 eu2 xu1 xu2) :
    zjS ea1 ea2 xa1 xa2 eu1 eu2 xu1 xu2↔zdv L R B T x1 z1 x2 z2:=by
  rcases zks pa with pa|pa<;>rcases zks pu with pu|pu
  . exact zfz hx hz pa pu
  . rw[<- zjw];exact zfz hx (by lia) pa pu
  . rw[<- zjo];exact zfz (by lia) hz pa pu
  . rw[<- zjo,<- zjw];exact zfz (by lia) (by lia) pa pu
def zkN (L R B T x1 z1 x2 z2 g s k:Int):acr (L+g*k) (R+g*k) (B+s*k) (T+s*k) x1 z1 x2 z2=(acr L R B T x1 z1 x2 z2).map fun a=>a+k*((x2-x1)*s-(z2-z1)*g):=by
  unfold acr;simp only[qI,List.map_nil,List.cons.injEq,and_true];refine⟨?_,?_,?_,?_⟩<;>grind
def zp5 {as:List Int}{m m' d:Int}(h1:m∈as)(h2:∀ a∈as,a<=m)(h3:m'∈as.map fun a=>a+d)(h4:∀ a∈as.map (fun a=>a+d),a<=m'):m'=m+d:=by
 obtain⟨b,hb,rfl⟩:=qU.mp h3;have e1:=h2 b hb;have e2:=h4 (m+d) (qU.mpr ⟨m,h1,rfl⟩);lia
def zpy {as:List Int}{m m' d:Int}(h1:m∈as)(h2:∀ a∈as,m<=a)(h3:m'∈as.map fun a=>a+d)(h4:∀ a∈as.map (fun a=>a+d),m'<=a):m'=m+d:=by
 obtain⟨b,hb,rfl⟩:=qU.mp h3;have e1:=h2 b hb;have e2:=h4 (m+d) (qU.mpr ⟨m,h1,rfl⟩);lia
def six (L R B T x1 z1 x2 z2 mx mn:Int):List Int:=[(max x1 x2)-L,R-(min x1 x2),(max z1 z2)-B,T-(min z1 z2),mx,-mn]
def zpi {L R B T x1 z1 x2 z2 g s mx mn mx' mn' k:Int}(m1:mx∈acr (L+g*0) (R+g*0) (B+s*0) (T+s*0) x1 z1 x2 z2)(m2:∀ a∈acr (L+g*0) (R+g*0) (B+s*0) (T+s*0) x1 z1 x2 z2,a<=mx)
    (n1:mn∈acr (L+g*0) (R+g*0) (B+s*0) (T+s*0) x1 z1 x2 z2) (n2:∀ a∈acr (L+g*0) (R+g*0) (B+s*0) (T+s*0) x1 z1 x2 z2,mn<=a)
    (m1':mx'∈acr (L+g*1) (R+g*1) (B+s*1) (T+s*1) x1 z1 x2 z2) (m2':∀ a∈acr (L+g*1) (R+g*1) (B+s*1) (T+s*1) x1 z1 x2 z2,a<=mx')
    (n1':mn'∈acr (L+g*1) (R+g*1) (B+s*1) (T+s*1) x1 z1 x2 z2) (n2':∀ a∈acr (L+g*1) (R+g*1) (B+s*1) (T+s*1) x1 z1 x2 z2,mn'<=a) :
    (∀ i,i<6->0<=(six (L+g*0) (R+g*0) (B+s*0) (T+s*0) x1 z1 x2 z2 mx mn).getD i 0+k*((six (L+g*1) (R+g*1) (B+s*1) (T+s*1) x1 z1 x2 z2 mx' mn').getD i 0-(six (L+g*0) (R+g*0) (B+s*0) (T+s*0) x1 z1 x2 z2 mx mn).getD i 0)) ↔
    zdv (L+g*k) (R+g*k) (B+s*k) (T+s*k) x1 z1 x2 z2:=by
  rw[zkN]at m1 m2 n1 n2 m1' m2' n1' n2'
  have id0:(acr L R B T x1 z1 x2 z2).map (fun a=>a+0*((x2-x1)*s-(z2-z1)*g))=acr L R B T x1 z1 x2 z2:=by
    simp
  rw[id0]at m1 m2 n1 n2;rw[show(fun a:Int=>a+1*((x2-x1)*s-(z2-z1)*g))=fun a=>a+((x2-x1)*s-(z2-z1)*g) by funext a;rw[Int.one_mul]]at m1' m2' n1' n2';have e1:=zp5 m1 m2 m1' m2';have e2:=zpy n1 n2 n1' n2';unfold zdv;rw[zkN];generalize (x2-x1)*s-(z2-z1)*g=d at *
  have f1:(∃ a∈(acr L R B T x1 z1 x2 z2).map (fun a=>a+k*d),0<=a)↔0<=mx+k*d:=by
    constructor
    . rintro⟨a,ha,h⟩;obtain⟨b,hb,rfl⟩:=qU.mp ha;have:=m2 b hb;lia
    . intro h;exact⟨_,qU.mpr ⟨mx,m1,rfl⟩,h⟩
  have f2:(∃ a∈(acr L R B T x1 z1 x2 z2).map (fun a=>a+k*d),a<=0)↔mn+k*d<=0:=by
    constructor
    . rintro⟨a,ha,h⟩;obtain⟨b,hb,rfl⟩:=qU.mp ha;have:=n2 b hb;lia
    . intro h;exact⟨_,qU.mpr ⟨mn,n1,rfl⟩,h⟩
  rw[f1,f2];subst e1 e2;unfold six;generalize (max x1 x2)=q1;generalize (min x1 x2)=q2;generalize (max z1 z2)=q3;generalize (min z1 z2)=q4;have h0:k*(q1-(L+g*1)-(q1-(L+g*0)))=-(g*k):=by grind
  have h1:k*(R+g*1-q2-(R+g*0-q2))=g*k:=by grind
  have h2:k*(q3-(B+s*1)-(q3-(B+s*0)))=-(s*k):=by grind
  have h3:k*(T+s*1-q4-(T+s*0-q4))=s*k:=by grind
  have h4:k*(mx+d-mx)=k*d:=by grind
  have h5:k*(-(mn+d) - -mn)=-(k*d):=by grind
  constructor
  . intro h;have a0:=h 0 (by decide);have a1:=h 1 (by decide);have a2:=h 2 (by decide);have a3:=h 3 (by decide);have a4:=h 4 (by decide);have a5:=h 5 (by decide);simp only[List.getD_cons_zero,List.getD_cons_succ]at a0 a1 a2 a3 a4 a5;rw[h0]at a0;rw[h1]at a1;rw[h2]at a2;rw[h3]at a3;rw[h4]at a4;rw[h5]at a5;refine⟨?_,?_,?_,?_,?_,?_⟩<;>lia
  . rintro⟨a0,a1,a2,a3,a4,a5⟩ i hi
    match i,hi with
    |0,_=>simp only[List.getD_cons_zero,List.getD_cons_succ];rw[h0];lia
    |1,_=>simp only[List.getD_cons_zero,List.getD_cons_succ];rw[h1];lia
    |2,_=>simp only[List.getD_cons_zero,List.getD_cons_succ];rw[h2];lia
    |3,_=>simp only[List.getD_cons_zero,List.getD_cons_succ];rw[h3];lia
    |4,_=>simp only[List.getD_cons_zero,List.getD_cons_succ];rw[h4];lia
    |5,_=>simp only[List.getD_cons_zero,List.getD_cons_succ];rw[h5];lia
def ztD {S T k:Int}(h:0<T):-(S/T)<=k↔0<=S+k*T:=by
 have:-k<=S/T↔-k*T<=S:=Int.le_ediv_iff_mul_le h;rw[Int.neg_mul]at this;lia
def zoG {S T k:Int}(h:T<0):k<=S / -T↔0<=S+k*T:=by
 have:k<=S / -T↔k * -T<=S:=Int.le_ediv_iff_mul_le (by lia);rw[Int.mul_neg]at this;lia
def Hit (L R B T x1 z1 x2 z2:Int):Prop:=∃ p q:Int,0<q/\0<=p/\p<=q/\L*q<=x1*q+p*(x2-x1)/\x1*q+p*(x2-x1)<=R*q/\B*q<=z1*q+p*(z2-z1)/\z1*q+p*(z2-z1)<=T*q
def mulL {k a b:Int}(h:0<=k)(g:a<=b):k*a<=k*b:=Int.mul_le_mul_of_nonneg_left g h
def zrc {k a b:Int}(h:0<k)(g:k*a<=k*b):a<=b:=Int.le_of_mul_le_mul_left g h
def ftr {a b c d e f:Int}(hb:0<=b)(hf:0<=f)(hd:0<d)(h1:a*d<=c*b)(h2:c*f<=e*d):a*f<=e*b:=by
 refine zrc hd ?_;have k1:=mulL hf h1;have k2:=mulL hb h2;have e1:d*(a*f)=f*(a*d):=by grind
 have e2:f*(c*b)=b*(c*f):=by grind
 have e3:b*(e*d)=d*(e*b):=by grind
 lia
theorem fmax:∀ {l:List (Int×Int)},l≠[]->(∀ e∈l,0<e.2)->∃ e∈l,∀ f∈l,f.1*e.2<=e.1*f.2
 |[],h,_=>absurd rfl h
 |[x],_,_=>⟨x,by simp,fun f hf=>by simp at hf;subst hf;exact qac _⟩
 |x::y::l,_,h=>by
  obtain⟨m,hm,g⟩:=fmax (l:=y::l) (by simp) fun e he=>h e (by simp[he])
  have hx:=h x (by simp);have hm2:=h m (by simp[hm]);rcases Int.le_total (x.1*m.2) (m.1*x.2)with c|c
  ·refine⟨m,by simp[hm],fun f hf=>?_⟩;rcases qg.mp hf with rfl|hf
   ·exact c
   ·exact g f hf
  ·refine⟨x,by simp,fun f hf=>?_⟩;rcases qg.mp hf with rfl|hf
   ·exact qac _
   ·exact ftr (Int.le_of_lt (h f (by simp[hf]))) (Int.le_of_lt hx) hm2 (g f hf) c
def zmD (lo hi st sp:Int):∃ e1 e2 x1 x2,zfs lo hi st sp e1 e2 x1 x2/\0<e2/\0<x2:=by
 unfold zfs;rcases Int.lt_trichotomy sp 0 with h|h|h
 ·exact⟨st-hi,-sp,st-lo,-sp,.inr (.inr (.inr ⟨h,rfl,rfl,rfl,rfl⟩)),by lia,by lia⟩
 ·by_cases g:lo<=st/\st<=hi
  ·exact⟨0,1,1,1,.inl ⟨h,g.1,g.2,rfl,rfl,rfl,rfl⟩,by lia,by lia⟩
  ·exact⟨1,1,0,1,.inr (.inl ⟨h,by lia,rfl,rfl,rfl,rfl⟩),by lia,by lia⟩
 ·exact⟨lo-st,sp,hi-st,sp,.inr (.inr (.inl ⟨h,rfl,rfl,rfl,rfl⟩)),h,h⟩
def zmr {lo hi st sp e1 e2 x1 x2 p q:Int}(P:zfs lo hi st sp e1 e2 x1 x2)(hq:0<q)(h0:0<=p)(h1:p<=q)(h2:e1*q<=p*e2)(h3:p*x2<=x1*q):lo*q<=st*q+p*sp/\st*q+p*sp<=hi*q:=by
 rcases P with⟨hu,g1,g2,rfl,rfl,rfl,rfl⟩|⟨hu,g1,rfl,rfl,rfl,rfl⟩|⟨hu,rfl,rfl,rfl,rfl⟩|⟨hu,rfl,rfl,rfl,rfl⟩
 ·subst hu;have k1:=mulL (Int.le_of_lt hq) g1;have k2:=mulL (Int.le_of_lt hq) g2;rw[Int.mul_comm q,Int.mul_comm q]at k1 k2;rw[Int.mul_zero];lia
 ·lia
 ·rw[Int.sub_mul]at h2 h3;lia
 ·rw[Int.sub_mul,Int.mul_neg]at h2 h3;lia
def zkW {lo hi st sp e1 e2 x1 x2 p q:Int}(P:zfs lo hi st sp e1 e2 x1 x2)(hq:0<q)(h0:0<=p)(h1:p<=q)(h2:lo*q<=st*q+p*sp)(h3:st*q+p*sp<=hi*q):e1*q<=p*e2/\p*x2<=x1*q:=by
 rcases P with⟨hu,g1,g2,rfl,rfl,rfl,rfl⟩|⟨hu,g1,rfl,rfl,rfl,rfl⟩|⟨hu,rfl,rfl,rfl,rfl⟩|⟨hu,rfl,rfl,rfl,rfl⟩
 ·lia
 ·subst hu;rw[Int.mul_zero,Int.add_zero,Int.mul_comm lo,Int.mul_comm st]at h2;rw[Int.mul_zero,Int.add_zero,Int.mul_comm hi,Int.mul_comm st]at h3;have k1:=zrc hq h2;have k2:=zrc hq h3;lia
 ·rw[Int.sub_mul,Int.sub_mul];lia
 ·rw[Int.sub_mul,Int.sub_mul,Int.mul_neg];lia
def zmB {L R B T x1 z1 x2 z2:Int}(hx:L<=R)(hz:B<=T):zdv L R B T x1 z1 x2 z2↔Hit L R B T x1 z1 x2 z2:=by
  obtain⟨a1,a2,a3,a4,pa,ha2,ha4⟩:=zmD L R x1 (x2-x1);obtain⟨u1,u2,u3,u4,pu,hu2,hu4⟩:=zmD B T z1 (z2-z1);rw[<- zqy hx hz pa pu];constructor
  . intro h
    obtain⟨⟨p,q⟩,he,mx⟩:=fmax (l:=[((0:Int),(1:Int)),(a1,a2),(u1,u2)]) (by simp) (by
      intro e he;simp only[qg,qB,or_false]at he;rcases he with rfl|rfl|rfl
      . exact Int.one_pos
      . exact ha2
      . exact hu2)
    have hq:0<q:=by
      simp only[qg,qB,or_false,Prod.mk.injEq]at he;rcases he with he|he|he<;>lia
    have m0:=mx (0,1) (by simp);have m1:=mx (a1,a2) (by simp);have m2:=mx (u1,u2) (by simp);have n0:=h _ he (1,1) (by simp);have n1:=h _ he (a3,a4) (by simp);have n2:=h _ he (u3,u4) (by simp);dsimp only at m0 m1 m2 n0 n1 n2;have h0:0<=p:=by lia
    have h1:p<=q:=by lia
    obtain⟨k1,k2⟩:=zmr pa hq h0 h1 m1 n1;obtain⟨k3,k4⟩:=zmr pu hq h0 h1 m2 n2;exact⟨p,q,hq,h0,h1,k1,k2,k3,k4⟩
  . rintro⟨p,q,hq,h0,h1,k1,k2,k3,k4⟩;obtain⟨g1,g2⟩:=zkW pa hq h0 h1 k1 k2;obtain⟨g3,g4⟩:=zkW pu hq h0 h1 k3 k4;intro e he x hx
    have ee:0<e.2/\e.1*q<=p*e.2:=by
      simp only[qg,qB,or_false]at he;rcases he with rfl|rfl|rfl
      . exact⟨Int.one_pos,by lia⟩
      . exact⟨ha2,g1⟩
      . exact⟨hu2,g3⟩
    have xx:0<x.2/\p*x.2<=x.1*q:=by
      simp only[qg,qB,or_false]at hx;rcases hx with rfl|rfl|rfl
      . exact⟨Int.one_pos,by lia⟩
      . exact⟨ha4,g2⟩
      . exact⟨hu4,g4⟩
    exact ftr (Int.le_of_lt ee.1) (Int.le_of_lt xx.1) hq ee.2 xx.2
end Rm
namespace Dp
open PySem Rm My
structure Fg where
 x0:Int
 x1:Int
 z0:Int
 z1:Int
 f:Int
 l:Int
 g:Int
 s:Int
abbrev fgD (F:Fg):D:=.tup [.int F.x0,.int F.x1,.int F.z0,.int F.z1,.int F.f,.int F.l,.int F.g,.int F.s]
structure FgB (F:Fg):Prop where
 x:F.x0<=F.x1
 z:F.z0<=F.z1
 b0:Bd 600 F.x0
 b1:Bd 600 F.x1
 b2:Bd 600 F.z0
 b3:Bd 600 F.z1
 bg:Bd 200 F.g
 bs:Bd 200 F.s
def zef (F:Fg)(px pz qx qz h:Int):Prop:=F.f<=h/\h<=F.l/\Hit (F.x0+F.g*(h-F.f)) (F.x1+F.g*(h-F.f)) (F.z0+F.s*(h-F.f)) (F.z1+F.s*(h-F.f)) px pz qx qz
def zrr (ms:List (Int×Int))(F:Fg)(px pz qx qz:Int):Prop:=zal ms/\ms.length<=1/\∀ h,ms.any (inS h)=true↔zef F px pz qx qz h
def zoj {fs:List Fg}{i:Nat}{d:D}(h:(fs.map fgD)[i]?=some d):∃ F,fs[i]?=some F/\d=fgD F:=by
 rw[qk]at h;cases e:fs[i]? with
 |none=>rw[e]at h;cases h
 |some p=>rw[e]at h;cases h;exact⟨p,rfl,rfl⟩
def Bd.max2 {n:Nat}{a b:Int}(ha:Bd n a)(hb:Bd n b):Bd n (max a b):=by
 rcases Int.le_total a b with h|h
 ·rw[Int.max_eq_right h];exact hb
 ·rw[Int.max_eq_left h];exact ha
def Bd.min2 {n:Nat}{a b:Int}(ha:Bd n a)(hb:Bd n b):Bd n (min a b):=by
 rcases Int.le_total a b with h|h
 ·rw[Int.min_eq_left h];exact ha
 ·rw[Int.min_eq_right h];exact hb
def zot {L R B T x1 z1 x2 z2 mx mn:Int}(bL:Bd 700 L)(bR:Bd 700 R)(bB:Bd 700 B)(bT:Bd 700 T)(b1:Bd 700 x1)(b2:Bd 700 z1)(b3:Bd 700 x2)(b4:Bd 700 z2)(m1:mx∈acr L R B T x1 z1 x2 z2)(n1:mn∈acr L R B T x1 z1 x2 z2) :
    ∀ v∈six L R B T x1 z1 x2 z2 mx mn,Bd 1500 v:=by
  have pr:∀ {u v w t:Int},Bd 701 u->Bd 701 v->Bd 701 w->Bd 701 t->Bd 1500 (u*v-w*t):=fun h1 h2 h3 h4=>(Bd.sub (n:=1402) (Bd.mul h1 h2) (Bd.mul h3 h4)).mono (by decide)
  have ba:∀ a∈acr L R B T x1 z1 x2 z2,Bd 1500 a:=by
    intro a ha;unfold acr at ha;simp only[qg,qB,or_false]at ha;rcases ha with rfl|rfl|rfl|rfl<;>exact pr (Bd.sub (by assumption) (by assumption)) (Bd.sub (by assumption) (by assumption)) (Bd.sub (by assumption) (by assumption)) (Bd.sub (by assumption) (by assumption))
  intro v hv;unfold six at hv;simp only[qg,qB,or_false]at hv;rcases hv with rfl|rfl|rfl|rfl|rfl|rfl
  . exact(Bd.sub (Bd.max2 b1 b3) bL).mono (by decide)
  . exact(Bd.sub bR (Bd.min2 b1 b3)).mono (by decide)
  . exact(Bd.sub (Bd.max2 b2 b4) bB).mono (by decide)
  . exact(Bd.sub bT (Bd.min2 b2 b4)).mono (by decide)
  . exact ba _ m1
  . exact(ba _ n1).neg
def zpX {ms:List (Int×Int)}{F:Fg}{px pz qx qz lo hi:Int}(B:FgB F)(ok:zal ms)(one:ms.length<=1)(hany:∀ h,ms.any (inS h)=[(F.f+lo,F.f+hi)].any (inS h))
  (hk:∀ k,(lo<=k/\k<=hi)↔(0<=k/\k<=F.l-F.f/\zdv (F.x0+F.g*k) (F.x1+F.g*k) (F.z0+F.s*k) (F.z1+F.s*k) px pz qx qz)):zrr ms F px pz qx qz:=by
 refine⟨ok,one,fun h=>?_⟩;rw[hany h];have:=hk (h-F.f);rw[zmB (by have:=B.x;lia) (by have:=B.z;lia)]at this;simp only[List.any_cons,List.any_nil,Bool.or_false,zeg];unfold zef;constructor
 ·rintro⟨a,b⟩;obtain⟨c1,c2,c3⟩:=this.mp ⟨by lia,by lia⟩;exact⟨by lia,by lia,c3⟩
 ·rintro⟨a,b,c⟩;obtain⟨d1,d2⟩:=this.mpr ⟨by lia,by lia,c⟩;exact⟨by lia,by lia⟩
def flt (a b:Int×Int):Bool:=decide (a.1*b.2<b.1*a.2)
abbrev St2:=(Int×Int)×(Int×Int)
def rk (R:Int×Int->Int)(s:St2):Int×Int:=(R s.1,R s.2)
def zj1 {cs:List (Int×Int)}{k:Int}(h0:0<=k)(h:k<cs.length):∃ c,cs[k.toNat]?=some c/\atD (cs.map p2) k=some (p2 c):=by
 have hk:k.toNat<cs.length:=by lia
 refine⟨cs[k.toNat],qc hk,?_⟩;have:=ze1 (ds:=cs.map p2) (i:=k.toNat) (d:=p2 (cs[k.toNat])) (by rw[qk,qc hk];rfl);rwa[show((k.toNat:Nat):Int)=k by lia]at this
def lenV (ms:List (Int×Int)):Int:=(ms.map fun m=>m.2-m.1).sum
def Sv (c:Int×Int)(t b:Int):Prop:=0<c.2/\c.1*b=t*c.2
def hvT (a b p:Int×Int):Int:=if 0<b.1-a.1 then a.2*(b.1-a.1)*p.2+(b.2-a.2)*(p.1-a.1*p.2)else -(a.2*(b.1-a.1)*p.2+(b.2-a.2)*(p.1-a.1*p.2))
def hvB (a b p:Int×Int):Int:=if 0<b.1-a.1 then(b.1-a.1)*p.2 else -((b.1-a.1)*p.2)
def zs4 {a b p:Int×Int}(h:b.1≠a.1)(hp:0<p.2):0<hvB a b p:=by
 unfold hvB;split
 ·exact Int.mul_pos (by lia) hp
 ·have:=Int.mul_pos (show 0 < -(b.1-a.1) by lia) hp;rw[Int.neg_mul]at this;exact this
def zvA {c d:Int×Int}{t b u e:Int}(hb:0<b)(he:0<e)(hc:Sv c t b)(hd:Sv d u e):flt c d=decide (t*e<u*b):=by
 obtain⟨c0,c1⟩:=hc;obtain⟨d0,d1⟩:=hd;unfold flt;refine decide_eq_decide.mpr ?_;have hbe:0<b*e:=Int.mul_pos hb he;have hcd:0<c.2*d.2:=Int.mul_pos c0 d0;rw[<- Int.mul_lt_mul_right hbe,<- Int.mul_lt_mul_right (b:=t*e) (c:=u*b) hcd]
 have e1:c.1*d.2*(b*e)=t*e*(c.2*d.2):=by
  have:c.1*d.2*(b*e)=c.1*b*(d.2*e):=by grind
  rw[this,c1];grind
 have e2:d.1*c.2*(b*e)=u*b*(c.2*d.2):=by
  have:d.1*c.2*(b*e)=d.1*e*(c.2*b):=by grind
  rw[this,d1];grind
 rw[e1,e2]
structure Grd (cs:List (Int×Int)):Prop where
 two:2<=cs.length
 most:cs.length<=40
 asc:cs.Pairwise fun a b=>a.1<b.1
 bd:∀ c∈cs,Bd 170 c.1/\Bd 190 c.2
def ziO (cs:List (Int×Int)):Int:=(cs.getD 0 (0,0)).1
def zhz (cs:List (Int×Int)):Int:=(cs.getD (cs.length-1) (0,0)).1
def OnG (cs:List (Int×Int))(p:Int×Int):Prop:=ziO cs*p.2<=p.1/\p.1<=zhz cs*p.2
def zhD:List (Int×Int)->Int×Int->Option ((Int×Int)×(Int×Int))
 |a::b::r,p=>if p.1<=b.1*p.2 then some (a,b)else zhD (b::r) p
 |_,_=>none
theorem seg_at:∀ {cs:List (Int×Int)} {p:Int×Int} {k:Nat} {a b:Int×Int},cs[k]?=some a->cs[k+1]?=some b->p.1<=b.1*p.2->(∀ j c,1<=j->j<=k->cs[j]?=some c->c.1*p.2<p.1)->zhD cs p=some (a,b)
 |[],p,k,a,b,h,_,_,_=>by simp at h
 |[x],p,0,a,b,_,h,_,_=>by simp at h
 |[x],p,k+1,a,b,h,_,_,_=>by simp at h
 |x::y::r,p,0,a,b,h1,h2,h3,_=>by
  simp at h1 h2;subst h1 h2;unfold zhD;rw[if_pos h3]
 |x::y::r,p,k+1,a,b,h1,h2,h3,h4=>by
  have:=h4 1 y (by lia) (by lia) rfl;unfold zhD;rw[if_neg (by lia)];exact seg_at (by simpa using h1) (by simpa using h2) h3 fun j c j1 j2 hc=>h4 (j+1) c (by lia) (by lia) (by simpa using hc)
theorem zoz:∀ {cs:List (Int×Int)} {p:Int×Int},2<=cs.length->p.1<=zhz cs*p.2->∃ k a b,cs[k]?=some a/\cs[k+1]?=some b/\p.1<=b.1*p.2/\∀ j c,1<=j->j<=k->cs[j]?=some c->c.1*p.2<p.1
 |[],p,h,_=>by simp at h
 |[x],p,h,_=>by simp at h
 |[x,y],p,_,h=>⟨0,x,y,rfl,rfl,h,fun j c j1 j2=>by lia⟩
 |x::y::z::r,p,_,h=>by
  by_cases g:p.1<=y.1*p.2
  ·exact⟨0,x,y,rfl,rfl,g,fun j c j1 j2=>by lia⟩
  ·obtain⟨k,a,b,h1,h2,h3,h4⟩:=zoz (cs:=y::z::r) (p:=p) (by simp) h;refine⟨k+1,a,b,by simpa using h1,by simpa using h2,h3,fun j c j1 j2 hc=>?_⟩;cases j with
   |zero=>lia
   |succ j =>
    cases j with
    |zero=>simp at hc;subst hc;lia
    |succ j=>exact h4 (j+1) c (by lia) (by lia) (by simpa using hc)
def zo9 {cs:List (Int×Int)}(g:Grd cs){i j:Nat}{a b:Int×Int}(hij:i<j)(ha:cs[i]?=some a)(hb:cs[j]?=some b):a.1<b.1:=by
 have h1:=zad ha;have h2:=zad hb;rw[qc h1]at ha;rw[qc h2]at hb;cases ha;cases hb;exact qae.mp g.asc i j h1 h2 hij
def zob {cs:List (Int×Int)}(g:Grd cs):∃ a,cs[0]?=some a/\ziO cs=a.1:=by
 have:=g.two;obtain⟨a,h⟩:∃ a,cs[0]?=some a:=⟨cs[0],qc (by lia)⟩
 exact⟨a,h,by unfold ziO;rw[qw,h];rfl⟩
def zp1 {cs:List (Int×Int)}(g:Grd cs):∃ a,cs[cs.length-1]?=some a/\zhz cs=a.1:=by
 have:=g.two;obtain⟨a,h⟩:∃ a,cs[cs.length-1]?=some a:=⟨cs[cs.length-1],qc (by lia)⟩
 exact⟨a,h,by unfold zhz;rw[qw,h];rfl⟩
def GAt (S:Sto)(g:D)(cs:List (Int×Int)):Prop:=∃ n l,g=.ref n/\S[n]?=some (.ins "Ground" [("corners",.ref l)])/\S[l]?=some (.lst (cs.map p2))
def GAt.old {S T:Sto}{g:D}{cs:List (Int×Int)}(h:GAt S g cs):GAt (S++T) g cs:=let ⟨n,l,e,h1,h2⟩:=h;⟨n,l,e,zX h1,zX h2⟩
def zwR {S:Sto}{P:D->Prop}{n l:Nat}(h:S[n]?=some (.ins "Ground" [("corners",.ref l)]))(q:P (.ref l)):∃ m c fs d,D.ref n=.ref m/\S[m]?=some (.ins c fs)/\fs.lookup ("corners":Str)=some d/\P d:=⟨n,_,_,_,rfl,h,by simp[ql],q⟩
def sdO (a b c:Int×Int):Int:=(c.2-a.2)*(b.1-a.1)-(c.1-a.1)*(b.2-a.2)
def sdI (a b c:Int×Int):Int:=if 0<(if b.1-a.1<0 then -sdO a b c else sdO a b c)then 1 else if(if b.1-a.1<0 then -sdO a b c else sdO a b c)<0 then -1 else 0
def Std (cs:List (Int×Int))(s:Int×Int):Prop:=Bd 180 s.1/\Bd 200 s.2/\OnG cs (s.1,1)/\∀ a b,zhD cs (s.1,1)=some (a,b)->hvT a b (s.1,1)<=s.2*hvB a b (s.1,1)
def zrE {own:Nat}{fv:List Nat}{xs:List D}{ok:Sto->Prop}{g:DG}{tc:DT}{te:DE}{Z:Rho}{S:Sto}{Q:DK}(W:Nat->List D->Sto->Prop)(h0:W 0 [] S)(hok:∀ i ys S,W i ys S->ok S)(hbig:xs.length<=big)
  (step:∀ i d ys S,xs[i]?=some d->W i ys S->g d (zem own fv Z) S fun ρ2 S2=>tc ρ2 S2 fun b S3=>if b=true then te ρ2 S3 fun y S4=>W (i+1) (ys++[y]) S4 else W (i+1) ys S3)
  (fin:∀ ys S,W xs.length ys S->New Q S ys):znC own fv g tc te Z Q ⟨xs,ok⟩ S:=⟨hbig,W,h0,hok,step,fin⟩
def zc0 (cs:List (Int×Int))(s:Int×Int):Prop:=OnG cs (s.1,1)/\∀ a b,zhD cs (s.1,1)=some (a,b)->hvT a b (s.1,1)<=s.2*hvB a b (s.1,1)
def Std.of {cs:List (Int×Int)}{s:Int×Int}(b1:Bd 180 s.1)(b2:Bd 200 s.2)(h:zc0 cs s):Std cs s:=⟨b1,b2,h.1,h.2⟩
def nbP (cs:List (Int×Int))(x y:Int)(k:Nat):Bool:=decide (min x y<(cs.getD k (0,0)).1)&&decide ((cs.getD k (0,0)).1<max x y)
def nbK (cs:List (Int×Int))(x y:Int)(n:Nat):List Int:=((List.range n).filter (nbP cs x y)).map fun k:Nat=>(k:Int)
def zxy {cs:List (Int×Int)}{x y:Int}{i:Nat}(h:nbP cs x y i=true):(nbK cs x y (i+1)).map D.int=(nbK cs x y i).map D.int++[.int (i:Int)]:=by
 unfold nbK;rw[List.range_succ,List.filter_append,List.filter_cons_of_pos h];simp
def zrP {cs:List (Int×Int)}{x y:Int}{i:Nat}(h:nbP cs x y i=false):nbK cs x y (i+1)=nbK cs x y i:=by
 unfold nbK;rw[List.range_succ,List.filter_append,List.filter_cons_of_neg (by rw[h];exact qv)];simp
def znc (cs:List (Int×Int))(a b:Int×Int)(k:Int):Bool:=decide (0<sdI a b (cs.getD k.toNat (0,0)))
def ziR (cs:List (Int×Int))(a b:Int×Int):Option Int:=(nbK cs a.1 b.1 cs.length).find? (znc cs a b)
theorem zmA {p:Int->Bool}:∀ {ks:List Int} {i:Nat} {k:Int},ks[i]?=some k->(∀ x∈ks.take i,p x=false)->p k=true->ks.find? p=some k
 |[],i,k,h,_,_=>by simp at h
 |x::ks,0,k,h,_,hp=>by
  have e:x=k:=by simpa using h
  rw[List.find?_cons,e,hp]
 |x::ks,i+1,k,h,hn,hp=>by
  rw[List.find?_cons,hn x (by simp)];exact zmA (by simpa using h) (fun y hy=>hn y (by rw[List.take_succ_cons];exact qq _ hy)) hp
def zsp {p:Int->Bool}{ks:List Int}(hn:∀ x∈ks,p x=false):ks.find? p=none:=List.find?_eq_none.mpr fun x hx=>by rw[hn x hx];exact qv
def zuu {cs:List (Int×Int)}{x y k:Int}{n:Nat}(h:k∈nbK cs x y n):0<=k/\k<n:=by
 unfold nbK at h;obtain⟨j,hj,rfl⟩:=qU.mp h;have:=List.mem_range.mp (qO.mp hj).1;lia
section
variable {g:Int}{p q r s d t u v:Int×Int}
end
section
variable {cs:List (Int×Int)}{a b:Int×Int}{rp:List (Int×Int)}
end
section
variable {w h t m:Int}{cs:List (Int×Int)}
end
abbrev bcD (b:Str×(Int×Int)):D:=.tup [.str b.1,.int b.2.1,.int b.2.2]
def abc:List Nat:=List.range' 97 26
def zt4:("abcdefghijklmnopqrstuvwxyz":Str).cps.toList=abc:=by decide +kernel
def zlY {c:Nat}:c∈abc↔97<=c/\c<=122:=by unfold abc;rw[List.mem_range'_1];lia
def nmB (z:Str):Bool:=decide (1<=z.length)&&(decide (z.length<=8)&&z.cps.toList.all fun c=>decide (c∈abc))
def ziJ {z:Str}:nmB z=true↔1<=z.length/\z.length<=8/\∀ c∈z.cps.toList,c∈abc:=by
 unfold nmB;rw[qA,qA,decide_eq_true_eq,decide_eq_true_eq,qag];simp only[decide_eq_true_eq]
def zeW {z:Str}(h:nmB z=true)(k:Nat):fl k (.str z)=true:=by
  have h3:=(ziJ.mp h).2.2
  have:z.cps.all (· < 0x110000)=true:=by
    rw[Array.all_eq_true'];intro x hx;have:=zlY.mp (h3 x (Array.mem_toList_iff.mpr hx));simp;lia
  cases k<;>exact this
structure Vl where
 cs:List (Int×Int)
 bs:List (Str×(Int×Int))
 fs:List Fg
 hz:Option Int
 h0:Int
 h1:Int
 dl:Int
structure FgV (F:Fg):Prop where
 b:FgB F
 o:F.f<=F.l
 f:Bd 300 F.f
 l:Bd 300 F.l
structure za9 (V:Vl):Prop where
 gr:Grd V.cs
 b1:1<=V.bs.length
 b12:V.bs.length<=12
 nm:∀ b∈V.bs,nmB b.1=true
 nd:(V.bs.map (·.1)).Nodup
 st:∀ b∈V.bs,zc0 V.cs b.2
 bd:∀ b∈V.bs,Bd 180 b.2.1/\Bd 200 b.2.2
 f12:V.fs.length<=12
 fg:∀ F∈V.fs,FgV F
 hz:∀ z,V.hz=some z->0<=z
 hh:V.h0<=V.h1
 b0:Bd 250 V.h0
 bl:Bd 250 V.h1
 dl:0<=V.dl
abbrev vF (g b f h a l d:D):List (Str×D):=[("ground",g),("beacons",b),("fogs",f),("haze",h),("first",a),("last",l),("delay",d)]
def VAt (S:Sto)(v:D)(V:Vl):Prop:=∃ n g b f,v=.ref n/\S[n]?=some (.ins "Valley" (vF (.ref g) (.ref b) (.ref f) (za2 V.hz) (.int V.h0) (.int V.h1) (.int V.dl)))/\GAt S (.ref g) V.cs/\S[b]?=some (.lst (V.bs.map bcD))/\S[f]?=some (.lst (V.fs.map fgD))
theorem VAt.old {S T:Sto}{v:D}{V:Vl}(h:VAt S v V):VAt (S++T) v V:=let ⟨n,g,b,f,e,h1,h2,h3,h4⟩:=h;⟨n,g,b,f,e,zX h1,h2.old,zX h3,zX h4⟩
section
variable {S:Sto}{P:D->Prop}{n:Nat}{g b f h a l d:D}
def zqu (k:S[n]?=some (.ins "Valley" (vF g b f h a l d)))(q:P g):∃ m c fs x,D.ref n=.ref m/\S[m]?=some (.ins c fs)/\fs.lookup ("ground":Str)=some x/\P x:=⟨n,_,_,g,rfl,k,by simp[ql],q⟩
def zod (k:S[n]?=some (.ins "Valley" (vF g b f h a l d)))(q:P b):∃ m c fs x,D.ref n=.ref m/\S[m]?=some (.ins c fs)/\fs.lookup ("beacons":Str)=some x/\P x:=⟨n,_,_,b,rfl,k,by rw[ql,show((("beacons":Str)=="ground")=false) by decide +kernel];simp[ql],q⟩
def zvp (k:S[n]?=some (.ins "Valley" (vF g b f h a l d)))(q:P f):∃ m c fs x,D.ref n=.ref m/\S[m]?=some (.ins c fs)/\fs.lookup ("fogs":Str)=some x/\P x:=⟨n,_,_,f,rfl,k,by rw[ql,show((("fogs":Str)=="ground")=false) by decide +kernel];dsimp only;rw[ql,show((("fogs":Str)=="beacons")=false) by decide +kernel];simp[ql],q⟩
def zuI (k:S[n]?=some (.ins "Valley" (vF g b f h a l d)))(q:P h):∃ m c fs x,D.ref n=.ref m/\S[m]?=some (.ins c fs)/\fs.lookup ("haze":Str)=some x/\P x:=⟨n,_,_,h,rfl,k,by rw[ql,show((("haze":Str)=="ground")=false) by decide +kernel];dsimp only;rw[ql,show((("haze":Str)=="beacons")=false) by decide +kernel];dsimp only;rw[ql,show((("haze":Str)=="fogs")=false) by decide +kernel];simp[ql],q⟩
def zs0 (k:S[n]?=some (.ins "Valley" (vF g b f h a l d)))(q:P a):∃ m c fs x,D.ref n=.ref m/\S[m]?=some (.ins c fs)/\fs.lookup ("first":Str)=some x/\P x:=⟨n,_,_,a,rfl,k,by rw[ql,show((("first":Str)=="ground")=false) by decide +kernel];dsimp only;rw[ql,show((("first":Str)=="beacons")=false) by decide +kernel];dsimp only;rw[ql,show((("first":Str)=="fogs")=false) by decide +kernel];dsimp only;rw[ql,show((("first":Str)=="haze")=false) by decide +kernel];simp[ql],q⟩
def zvH (k:S[n]?=some (.ins "Valley" (vF g b f h a l d)))(q:P l):∃ m c fs x,D.ref n=.ref m/\S[m]?=some (.ins c fs)/\fs.lookup ("last":Str)=some x/\P x:=⟨n,_,_,l,rfl,k,by rw[ql,show((("last":Str)=="ground")=false) by decide +kernel];dsimp only;rw[ql,show((("last":Str)=="beacons")=false) by decide +kernel];dsimp only;rw[ql,show((("last":Str)=="fogs")=false) by decide +kernel];dsimp only;rw[ql,show((("last":Str)=="haze")=false) by decide +kernel];dsimp only;rw[ql,show((("last":Str)=="first")=false) by decide +kernel];simp[ql],q⟩
def ztf (k:S[n]?=some (.ins "Valley" (vF g b f h a l d)))(q:P d):∃ m c fs x,D.ref n=.ref m/\S[m]?=some (.ins c fs)/\fs.lookup ("delay":Str)=some x/\P x:=⟨n,_,_,d,rfl,k,by rw[ql,show((("delay":Str)=="ground")=false) by decide +kernel];dsimp only;rw[ql,show((("delay":Str)=="beacons")=false) by decide +kernel];dsimp only;rw[ql,show((("delay":Str)=="fogs")=false) by decide +kernel];dsimp only;rw[ql,show((("delay":Str)=="haze")=false) by decide +kernel];dsimp only;rw[ql,show((("delay":Str)=="first")=false) by decide +kernel];dsimp only;rw[ql,show((("delay":Str)=="last")=false) by decide +kernel];simp[ql],q⟩
end
def zer {bs:List (Str×(Int×Int))}{i:Nat}{d:D}(h:(bs.map bcD)[i]?=some d):∃ b,bs[i]?=some b/\d=bcD b:=by
 rw[qk]at h;cases e:bs[i]? with
 |none=>rw[e]at h;cases h
 |some p=>rw[e]at h;cases h;exact⟨p,rfl,rfl⟩
def zhI (f:Str×(Int×Int)->D):D->D
 |.tup [.str z,.int a,.int b]=>f (z,a,b)
 |d=>d
def zdp (f:Str×(Int×Int)->D)(bs:List (Str×(Int×Int))):(bs.map bcD).map (zhI f)=bs.map f:=by rw[qT];rfl
def sqr (a b:Int×Int):Int:=(b.1-a.1)*(b.1-a.1)+(b.2-a.2)*(b.2-a.2)
def hzy (z:Option Int)(q:Int):Bool:=match z with
 |some z=>decide (z<q)
 |none=>false
def zgF (V:Vl)(a b:Int×Int):D:=match ziR V.cs a b with
 | some k=>.tup [.str "ground",.int k]
 | none=>if hzy V.hz (sqr a b)=true then .tup [.str "haze",.int (sqr a b)]else .non
def Alw (V:Vl)(a b:Int×Int):Prop:=ziR V.cs a b=none/\hzy V.hz (sqr a b)=false
def zjc {V:Vl}{a b:Int×Int}:zgF V a b=.non↔Alw V a b:=by
 unfold zgF Alw;cases ziR V.cs a b with
 |some k=>simp
 |none =>
  cases h:hzy V.hz (sqr a b)with
  |true=>simp
  |false=>simp
def zqr (V:Vl)(a b:Int×Int)(h:Int):Prop:=Alw V a b/\¬ ∃ F∈V.fs,zef F a.1 a.2 b.1 b.2 h
structure zjQ (V:Vl)(n m:Str)(s t:Int×Int)(ms:List (Int×Int)):Prop where
 ok:zal ms
 iff:∀ h,ms.any (inS h)=true↔V.h0<=h/\h<=V.h1/\(n=m\/zqr V s t h)
 len:ms.length<=14
def ziw {V:Vl}(ok:za9 V){b c:Str×(Int×Int)}(hb:b∈V.bs)(hc:c∈V.bs)(e:b.1=c.1):b=c:=by
 obtain⟨i,hi,rfl⟩:=qab.mp hb;obtain⟨j,hj,rfl⟩:=qab.mp hc;have nd:=qae.mp ok.nd;rcases Nat.lt_trichotomy i j with h|h|h
 ·exact absurd (by rw[List.getElem_map,List.getElem_map];exact e) (nd i j (by simpa using hi) (by simpa using hj) h)
 ·subst h;rfl
 ·exact absurd (by rw[List.getElem_map,List.getElem_map];exact e.symm) (nd j i (by simpa using hj) (by simpa using hi) h)
def znL {V:Vl}(ok:za9 V){i j:Nat}{b c:Str×(Int×Int)}(hb:V.bs[i]?=some b)(hc:V.bs[j]?=some c):b.1=c.1↔i=j:=by
 have li:=zad hb;have lj:=zad hc;rw[qc li]at hb;rw[qc lj]at hc;cases hb;cases hc;have nd:=qae.mp ok.nd;constructor
 ·intro e;rcases Nat.lt_trichotomy i j with h|h|h
  ·exact absurd (by rw[List.getElem_map,List.getElem_map];exact e) (nd i j (by simpa using li) (by simpa using lj) h)
  ·exact h
  ·exact absurd (by rw[List.getElem_map,List.getElem_map];exact e.symm) (nd j i (by simpa using lj) (by simpa using li) h)
 ·rintro rfl;rfl
def zs6 {S A B X:Sto}(h:∃ T,A=S++T)(e:B=A++X):∃ T,B=S++T:=let ⟨T,h⟩:=h;⟨T++X,by rw[e,h,qh]⟩
def zqk {f:Str}{v:D}:putD f v []=[(f,v)]:=rfl
def zat {f g:Str}{v x:D}{r:List (Str×D)}(h:g≠f):putD f v ((g,x)::r)=(g,x)::putD f v r:=by
 show(if g=f then _ else _)=_;rw[if_neg h]
section
variable {g b f h a l d:D}
def vp2:putD "beacons" b ([("ground",g)]:List (Str×D))=([("ground",g),("beacons",b)]:List (Str×D)):=by rw[zat (by decide +kernel)];rfl
def vp3:putD "fogs" f ([("ground",g),("beacons",b)]:List (Str×D))=([("ground",g),("beacons",b),("fogs",f)]:List (Str×D)):=by rw[zat (by decide +kernel),zat (by decide +kernel)];rfl
def vp4:putD "haze" h ([("ground",g),("beacons",b),("fogs",f)]:List (Str×D))=([("ground",g),("beacons",b),("fogs",f),("haze",h)]:List (Str×D)):=by rw[zat (by decide +kernel),zat (by decide +kernel),zat (by decide +kernel)];rfl
def vp5:putD "first" a ([("ground",g),("beacons",b),("fogs",f),("haze",h)]:List (Str×D))=([("ground",g),("beacons",b),("fogs",f),("haze",h),("first",a)]:List (Str×D)):=by rw[zat (by decide +kernel),zat (by decide +kernel),zat (by decide +kernel),zat (by decide +kernel)];rfl
def vp6:putD "last" l ([("ground",g),("beacons",b),("fogs",f),("haze",h),("first",a)]:List (Str×D))=([("ground",g),("beacons",b),("fogs",f),("haze",h),("first",a),("last",l)]:List (Str×D)):=by rw[zat (by decide +kernel),zat (by decide +kernel),zat (by decide +kernel),zat (by decide +kernel),zat (by decide +kernel)];rfl
def vp7:putD "delay" d ([("ground",g),("beacons",b),("fogs",f),("haze",h),("first",a),("last",l)]:List (Str×D))=vF g b f h a l d:=by rw[zat (by decide +kernel),zat (by decide +kernel),zat (by decide +kernel),zat (by decide +kernel),zat (by decide +kernel),zat (by decide +kernel)];rfl
end
def zcL (z:Int):za2 (some z)=.int z:=rfl
def zeC:za2 none=.non:=rfl
def zqD {α:Type}(xs:List α){k:Int}(h0:0<=k)(h1:k<=xs.length):cutD xs none (some k)=xs.take k.toNat:=by
 unfold cutD slD;dsimp only;rw[if_neg (by lia),List.drop_zero,Nat.sub_zero,Nat.min_eq_left (by lia)]
theorem zl8 (n:Str):∀ zs:List Str,((zs.map D.str).any fun z=>eqv z (.str n))=decide (n∈zs)
 |[]=>by simp
 |z::zs=>by
  rw[qI,List.any_cons,zl8 n zs];show((z==n)||decide (n∈zs))=decide (n∈z::zs);rw[Bool.eq_iff_iff,Bool.or_eq_true,beq_iff_eq,decide_eq_true_eq,decide_eq_true_eq,qg];exact⟨fun h=>h.imp (·.symm) id,fun h=>h.imp (·.symm) id⟩
def zsN {zs:List Str}(h:∀ z∈zs,fl 20 (.str z)=true):(zs.map D.str).all (fl 20)=true:=by
 rw[List.all_map,qag];exact h
def zo8 {S:Sto}{Q:DK}{x:D}{zs:List Str}{n:Str}(hx:zdi S x (zs.map D.str))(hn:fl 20 (.str n)=true)(h:∀ z∈zs,fl 20 (.str z)=true)(q:Q (.bl (!decide (n∈zs))) S):zkA (.str n) x S Q:=.inl ⟨_,⟨_,hx,hn,zsN h,rfl⟩,by rw[zl8];exact q⟩
def za9.flN {V:Vl}(ok:za9 V):∀ z∈V.bs.map (·.1),fl 20 (.str z)=true:=fun z hz=>by
 obtain⟨b,hb,rfl⟩:=qU.mp hz;exact zeW (ok.nm b hb) 20
mutual
theorem eqv_refl:∀ (k:Nat) (d:D),fl k d=true->eqv d d=true
  |_,.non,_=>rfl
  |_,.bl b,_=>by show(b==b)=true;simp
  |_,.int i,_=>by show decide (i=i)=true;simp
  |_,.str x,_=>by show(x==x)=true;simp
  |0,.tup _,h=>by cases h
  |k+1,.tup xs,h=>eqvAll_refl k xs h
  |k,.ref _,h=>by cases k<;>cases h
  |k,.ty _,h=>by cases k<;>cases h
  |k,.rl _,h=>by cases k<;>cases h
  |k,.exn _,h=>by cases k<;>cases h
theorem eqvAll_refl:∀ (k:Nat) (xs:List D),xs.all (fl k)=true->eqvAll xs xs=true
  |_,[],_=>rfl
  |k,x::xs,h=>by
    rw[List.all_cons,qA]at h;show(eqv x x&&eqvAll xs xs)=true;rw[eqv_refl k x h.1,eqvAll_refl k xs h.2];rfl
end
def zp6 {S:Sto}{Q:DK}{x y:D}{xs:List D}(hx:Lst S x xs)(hy:Lst S y xs)(f:xs.all (fl 20)=true)(q:Q (.bl true) S):oEq x y S Q:=zjR hx hy f f (eqvAll_refl 20 xs f) q
def zhx {S:Sto}{Q:DK}{x y:D}{xs:List D}(hx:Lst S x xs)(hy:Lst S y xs)(f:xs.all (fl 20)=true)(q:Q (.bl false) S):oNe x y S Q:=zwM hx hy f f (eqvAll_refl 20 xs f) q
def zm5 {S T:Sto}{n:Nat}{c:Cell}(h:S.length<=n):(S++T).set n c=S++T.set (n-S.length) c:=List.set_append_right _ _ h
def onS (p:Str->D):D->D
 |.str z=>p z
 |d=>d
def zi4 {zs:List Str}{i:Nat}{d:D}(h:(zs.map D.str)[i]?=some d):∃ z,zs[i]?=some z/\d=.str z:=by
 rw[qk]at h;cases e:zs[i]? with
 |none=>rw[e]at h;cases h
 |some p=>rw[e]at h;cases h;exact⟨p,rfl,rfl⟩
def zsD (f:Str->D)(zs:List Str):(zs.map D.str).map (onS f)=zs.map f:=by rw[qT];rfl
def zof {S:Sto}{Q:DK}{x y:Str}(fx:fl 20 (.str x)=true)(fy:fl 20 (.str y)=true)(q:Q (.bl (decide (x=y))) S):oEq (.str x) (.str y) S Q:=zsy fx fy (by
 by_cases h:x=y
 ·subst h;rw[decide_eq_true rfl];exact beq_self_eq_true x
 ·rw[decide_eq_false h];exact beq_eq_false_iff_ne.mpr h) q
open Classical in
abbrev vlD (x y z:D)(V:Vl):D:=.tup [x,y,z,za2 V.hz,.int V.h0,.int V.h1,.int V.dl]
def VlS (S:Sto)(x y z:D)(V:Vl):Prop:=Lst S x (V.cs.map p2)/\Lst S y (V.bs.map bcD)/\Lst S z (V.fs.map fgD)
theorem VlS.old {S T:Sto}{x y z:D}{V:Vl}(h:VlS S x y z V):VlS (S++T) x y z V:=⟨h.1.old,h.2.1.old,h.2.2.old⟩
def onC (p:Nat->Bool):D->D
 |.str z=>.bl (p (z.cps.toList.headD 0))
 |d=>d
def zpa {z:Str}{i:Nat}{d:D}(h:(signs z)[i]?=some d):∃ c,z.cps.toList[i]?=some c/\d=.str ⟨#[c]⟩:=by
 unfold signs at h;rw[qk]at h;cases e:z.cps.toList[i]? with
 |none=>rw[e]at h;cases h
 |some p=>rw[e]at h;cases h;exact⟨p,rfl,rfl⟩
def zpl (p:Nat->Bool)(z:Str):(signs z).map (onC p)=(z.cps.toList.map p).map D.bl:=by
 unfold signs;rw[qT,qT];rfl
def zoZ (z:Str):(signs z).length=z.length:=by
 unfold signs;rw[qb];exact qL
section
variable {see:Nat->Nat->Int->Prop}{dl:Int}{s:Nat}{h0:Int}
inductive Lt (see:Nat->Nat->Int->Prop)(dl:Int)(s:Nat)(h0:Int):Nat->Int->Prop
 |base:Lt see dl s h0 s h0
 |step {k j:Nat} {h u:Int}:Lt see dl s h0 k h->h<=u->see k j u->Lt see dl s h0 j (u+dl)
inductive Lp (see:Nat->Nat->Int->Prop)(dl:Int)(s:Nat)(h0:Int):List Nat->Nat->Int->Prop
 |base:Lp see dl s h0 [s] s h0
 |step {vs:List Nat} {k j:Nat} {h u:Int}:Lp see dl s h0 vs k h->h<=u->see k j u->j∉vs->Lp see dl s h0 (j::vs) j (u+dl)
def Lt.ge (hd:0<=dl){j:Nat}{h:Int}(w:Lt see dl s h0 j h):h0<=h:=by
 induction w with
 |base=>exact qac _
 |step _ hu _ ih=>lia
def Lp.lt {vs:List Nat}{j:Nat}{h:Int}(w:Lp see dl s h0 vs j h):Lt see dl s h0 j h:=by
 induction w with
 |base=>exact .base
 |step _ hu hs _ ih=>exact .step ih hu hs
def Lp.nodup {vs:List Nat}{j:Nat}{h:Int}(w:Lp see dl s h0 vs j h):vs.Nodup:=by
 induction w with
 |base=>simp
 |step _ _ _ hn ih=>exact List.nodup_cons.mpr ⟨hn,ih⟩
def Lp.lt_n {n:Nat}(hs:s<n)(hn:∀ k j u,see k j u->j<n){vs:List Nat}{j:Nat}{h:Int}(w:Lp see dl s h0 vs j h):∀ x∈vs,x<n:=by
 induction w with
 |base =>
  intro x hx;have:x=s:=by simpa using hx
  lia
 |step _ _ hse _ ih =>
  intro x hx;rcases qg.mp hx with rfl|hx
  ·exact hn _ _ _ hse
  ·exact ih x hx
def Lp.mem (hd:0<=dl){vs:List Nat}{k:Nat}{h:Int}(w:Lp see dl s h0 vs k h):∀ x∈vs,∃ vs' hx,Lp see dl s h0 vs' x hx/\hx<=h:=by
 induction w with
 |base =>
  intro x hx;have e:x=s:=by simpa using hx
  subst e;exact⟨_,_,.base,qac _⟩
 |step w hu hs hn ih =>
  intro x hx;rcases qg.mp hx with rfl|hx
  ·exact⟨_,_,.step w hu hs hn,qac _⟩
  ·obtain⟨vs',hx',w',le⟩:=ih x hx;exact⟨vs',hx',w',by lia⟩
def Lt.path (hd:0<=dl){j:Nat}{h:Int}(w:Lt see dl s h0 j h):∃ vs h',Lp see dl s h0 vs j h'/\h'<=h:=by
 induction w with
 |base=>exact⟨_,_,.base,qac _⟩
 |@step k j h u _ hu hs ih =>
  obtain⟨vs,h',w',le⟩:=ih;by_cases hm:j∈vs
  ·obtain⟨vs2,h2,w2,le2⟩:=w'.mem hd j hm;exact⟨vs2,h2,w2,by lia⟩
  ·exact⟨_,_,.step w' (by lia) hs hm,qac _⟩
def zfi:∀ {n:Nat} {vs:List Nat},vs.Nodup->(∀ x∈vs,x<n)->vs.length<=n:=by
 intro n vs nd h
 have:∀ {F N:List Nat},F.Nodup->(∀ x∈F,x∈N)->F.length<=N.length:=fun {F N}=>by
  induction F generalizing N with
  |nil=>intro _ _;exact qP _
  |cons x F ih =>
   intro nd h;obtain⟨n1,n2⟩:=List.nodup_cons.mp nd;have hx:=h x (by simp);have:=ih (N:=N.erase x) n2 fun y hy=>(List.mem_erase_of_ne (fun e:y=x=>n1 (e▸hy))).mpr (h y (qq _ hy))
   rw[List.length_erase_of_mem hx]at this;have:=List.length_pos_of_mem hx;rw[qJ];lia
 have:=this (N:=List.range n) nd fun x hx=>List.mem_range.mpr (h x hx)
 rwa[qW]at this
structure Ear (see:Nat->Nat->Int->Prop)(dl:Int)(s:Nat)(h0:Int)(f:Nat->Option Int):Prop where
 snd:∀ j h,f j=some h->Lt see dl s h0 j h
 lst:∀ j h,Lt see dl s h0 j h->∃ h',f j=some h'/\h'<=h
def Ear.uniq {f g:Nat->Option Int}(a:Ear see dl s h0 f)(b:Ear see dl s h0 g)(j:Nat):f j=g j:=by
 cases hf:f j with
 |none =>
  cases hg:g j with
  |none=>rfl
  |some h =>
   obtain⟨h',e,_⟩:=a.lst j h (b.snd j h hg);rw[hf]at e;cases e
 |some h =>
  obtain⟨h',e,le⟩:=b.lst j h (a.snd j h hf);obtain⟨h2,e2,le2⟩:=a.lst j h' (b.snd j h' e);rw[hf]at e2;cases e2;rw[e];exact congrArg some (by lia)
structure Rnd (see:Nat->Nat->Int->Prop)(dl:Int)(s:Nat)(h0:Int)(n r:Nat)(lit:List (Option Int)):Prop where
 len:lit.length=n
 snd:∀ (j:Nat) h,lit[j]?=some (some h)->Lt see dl s h0 j h
 prg:∀ vs j h,Lp see dl s h0 vs j h->vs.length<=r+1->∃ h',lit[j]?=some (some h')/\h'<=h
structure Swp (see:Nat->Nat->Int->Prop)(dl:Int)(s:Nat)(h0:Int)(n r:Nat)(D:Nat->Nat->Prop)(lit:List (Option Int)):Prop where
 rnd:Rnd see dl s h0 n r lit
 don:∀ k j,D k j->∀ vs h u,Lp see dl s h0 vs k h->vs.length<=r+1->h<=u->see k j u->∃ h',lit[j]?=some (some h')/\h'<=u+dl
def Swp.keep {n r:Nat}{D D':Nat->Nat->Prop}{lit lit':List (Option Int)}(w:Swp see dl s h0 n r D lit)(hl:lit'.length=n)(hs:∀ (j:Nat) h,lit'[j]?=some (some h)->Lt see dl s h0 j h)(hle:∀ (j:Nat) h,lit[j]?=some (some h)->∃ h',lit'[j]?=some (some h')/\h'<=h)
  (hD:∀ k j,D' k j->¬ D k j->∀ vs h u,Lp see dl s h0 vs k h->vs.length<=r+1->h<=u->see k j u->∃ h',lit'[j]?=some (some h')/\h'<=u+dl):Swp see dl s h0 n r D' lit':=by
 have up:∀ {j:Nat} {x:Int},(∃ h',lit[j]?=some (some h')/\h'<=x)->∃ h',lit'[j]?=some (some h')/\h'<=x:=fun {j x} ⟨h',e,le⟩=>by
  obtain⟨h2,e2,le2⟩:=hle j h' e;exact⟨h2,e2,by lia⟩
 refine⟨⟨hl,hs,fun vs j h p l=>up (w.rnd.prg vs j h p l)⟩,fun k j hkj vs h u p l hu hse=>?_⟩;by_cases z:D k j
 ·exact up (w.don k j z vs h u p l hu hse)
 ·exact hD k j hkj z vs h u p l hu hse
def Swp.next {n r:Nat}{D:Nat->Nat->Prop}{lit:List (Option Int)}(hs:s<n)(hn:∀ k j u,see k j u->k<n/\j<n)(w:Swp see dl s h0 n r D lit)(all:∀ k j,k<n->j<n->D k j):Rnd see dl s h0 n (r+1) lit:=by
 refine⟨w.rnd.len,w.rnd.snd,fun vs j h p l=>?_⟩;cases p with
 |base=>exact w.rnd.prg _ _ _ .base (by simp)
 |@step vs k _ h' u p hu hse hm =>
  have:=hn _ _ _ hse;exact w.don k j (all k j this.1 this.2) vs h' u p (by simpa using l) hu hse
def Rnd.ear {n:Nat}{lit:List (Option Int)}(hd:0<=dl)(hs:s<n)(hn:∀ k j u,see k j u->k<n/\j<n)(w:Rnd see dl s h0 n n lit):Ear see dl s h0 fun j=>(lit[j]?).join:=by
 refine⟨fun j h e=>w.snd j h ?_,fun j h l=>?_⟩
 ·cases e2:lit[j]? with
  |none=>rw[e2]at e;cases e
  |some o=>rw[e2]at e;have e3:o=some h:=e;rw[e3]
 ·obtain⟨vs,h',p,le⟩:=l.path hd;have:=zfi p.nodup (p.lt_n hs fun k j u z=>(hn k j u z).2);obtain⟨h2,e,le2⟩:=w.prg vs j h' p (by lia);exact⟨h2,by show(lit[j]?).join=_;rw[e];rfl,by lia⟩
end
def zd0 (xs:List Int)(h:Int):Option Int:=(xs.filter fun u=>decide (h<=u)).head?
def zga {xs:List Int}(asc:xs.Pairwise (· < ·)){h u:Int}(e:zd0 xs h=some u):u∈xs/\h<=u/\∀ v∈xs,h<=v->u<=v:=by
  unfold zd0 at e;have asc':=asc.sublist (List.filter_sublist (p:=fun u=>decide (h<=u)) (l:=xs));cases hf:xs.filter fun u=>decide (h<=u)with
  |nil=>rw[hf]at e;cases e
  |cons a r =>
    rw[hf]at e asc';have ea:a=u:=by simpa using e
    subst ea;have ma:a∈xs.filter fun u=>decide (h<=u):=by rw[hf];simp
    obtain⟨m1,m2⟩:=qO.mp ma;refine⟨m1,of_decide_eq_true m2,fun v hv hle=>?_⟩;have mv:v∈xs.filter fun u=>decide (h<=u):=qO.mpr ⟨hv,decide_eq_true hle⟩
    rw[hf]at mv;rcases qg.mp mv with rfl|mv
    . exact qac _
    . have:=(qZ.mp asc').1 v mv;lia
def zfZ {xs:List Int}{h:Int}(e:zd0 xs h=none):∀ v∈xs,¬ h<=v:=fun v hv hle=>by
 unfold zd0 at e;rw[List.head?_eq_none_iff,List.filter_eq_nil_iff]at e;exact e v hv (decide_eq_true hle)
def zr3 {xs:List Int}(asc:xs.Pairwise (· < ·)){h:Int}{o:Option Int}(h1:∀ u,o=some u->u∈xs/\h<=u/\∀ v∈xs,h<=v->u<=v)(h2:o=none->∀ v∈xs,¬ h<=v):zd0 xs h=o:=by
  cases e:zd0 xs h with
  |none =>
    cases o with
    |none=>rfl
    |some u=>exact absurd (h1 u rfl).2.1 (zfZ e u (h1 u rfl).1)
  |some a =>
    obtain⟨a1,a2,a3⟩:=zga asc e;cases o with
    |none=>exact absurd a2 (h2 rfl a a1)
    |some u =>
      obtain⟨b1,b2,b3⟩:=h1 u rfl;exact congrArg some (by have:=a3 u b1 b2;have:=b3 a a1 a2;lia)
def zlA {ms:List (Int×Int)}(ok:zal ms){h u:Int}(e:zaU ms h=some u):ms.any (inS u)=true/\h<=u/\∀ v,ms.any (inS v)=true->h<=v->u<=v:=by
 induction ms with
 |nil=>cases e
 |cons c r ih =>
  have e':(if h<=c.2 then some (max c.1 h)else zaU r h)=some u:=e;have lc:=ok.le c (by simp);have okr:zal r:=⟨fun d hd=>ok.le d (qq _ hd),(qZ.mp ok.ap).2⟩
  by_cases g:h<=c.2
  ·rw[if_pos g]at e';have eu:max c.1 h=u:=qM e';refine⟨zaA.mpr ⟨c,by simp,by lia,by lia⟩,by lia,fun v hv hle=>?_⟩;obtain⟨d,hd,d1,d2⟩:=zaA.mp hv;rcases qg.mp hd with rfl|hd
   ·lia
   ·have:=(qZ.mp ok.ap).1 d hd;lia
  ·rw[if_neg g]at e';obtain⟨a1,a2,a3⟩:=ih okr e';obtain⟨d,hd,d1,d2⟩:=zaA.mp a1;refine⟨zaA.mpr ⟨d,qq _ hd,d1,d2⟩,a2,fun v hv hle=>?_⟩;obtain⟨d',hd',d1',d2'⟩:=zaA.mp hv;rcases qg.mp hd' with rfl|hd'
   ·lia
   ·exact a3 v (zaA.mpr ⟨d',hd',d1',d2'⟩) hle
def zlM {ms:List (Int×Int)}{h:Int}(e:zaU ms h=none):∀ v,h<=v->¬ ms.any (inS v)=true:=by
 induction ms with
 |nil=>intro v _ z;simp at z
 |cons c r ih =>
  have e':(if h<=c.2 then some (max c.1 h)else zaU r h)=none:=e;by_cases g:h<=c.2
  ·rw[if_pos g]at e';cases e'
  ·rw[if_neg g]at e';intro v hle hv;obtain⟨d,hd,d1,d2⟩:=zaA.mp hv;rcases qg.mp hd with rfl|hd
   ·lia
   ·exact ih e' v hle (zaA.mpr ⟨d,hd,d1,d2⟩)
abbrev za7 (os:List (Option Int)):List D:=os.map za2
def znV {os:List (Option Int)}{k:Nat}(h:k<os.length):atD (za7 os) (k:Int)=some (za2 ((os[k]?).join)):=ze1 (by rw[qk,qc h];rfl)
def zpo {os:List (Option Int)}{k:Nat}(h:k<os.length):ixD (za7 os).length (k:Int)=some k:=by
 unfold ixD;rw[qb,if_pos (by lia),if_pos (by lia)];rfl
noncomputable def zni (V:Vl) (k j:Nat) (h:Int):Bool:=@decide (k≠j/\∃ b c,V.bs[k]?=some b/\V.bs[j]?=some c/\zqr V b.2 c.2 h) (Classical.propDecidable _)
def zhq {V:Vl}{k j:Nat}{h:Int}:zni V k j h=true↔k≠j/\∃ b c,V.bs[k]?=some b/\V.bs[j]?=some c/\zqr V b.2 c.2 h:=by unfold zni;exact @decide_eq_true_iff _ (Classical.propDecidable _)
def hrs (V:Vl):List Int:=(List.range (V.h1-V.h0+1).toNat).map fun i:Nat=>V.h0+(i:Int)
def ztr {V:Vl}{h:Int}:h∈hrs V↔V.h0<=h/\h<=V.h1:=by
 unfold hrs;rw[qU];constructor
 ·rintro⟨i,hi,rfl⟩;have:=List.mem_range.mp hi;lia
 ·rintro⟨h0,h1⟩;exact⟨(h-V.h0).toNat,List.mem_range.mpr (by lia),by lia⟩
def zsW (V:Vl):(hrs V).Pairwise (· < ·):=by
  unfold hrs;rw[List.pairwise_map];exact List.pairwise_lt_range.imp fun h=>by lia
noncomputable def zcs (V:Vl) (k j:Nat):List Int:=(hrs V).filter (zni V k j)
def zm3 {V:Vl}{k:Nat}:zcs V k k=[]:=by
 unfold zcs;rw[List.filter_eq_nil_iff];intro h _ z;exact(zhq.mp z).1 rfl
def zjd {V:Vl}{k j:Nat}{h:Int}:h∈zcs V k j↔V.h0<=h/\h<=V.h1/\zni V k j h=true:=by
 unfold zcs;rw[qO,ztr,and_assoc]
def zgf (V:Vl)(k j:Nat):(zcs V k j).Pairwise (· < ·):=(zsW V).sublist List.filter_sublist
def zaS (V:Vl)(k j:Nat)(u:Int):Prop:=u∈zcs V k j
def ze2 {V:Vl}{k j:Nat}{u:Int}(h:zaS V k j u):k<V.bs.length/\j<V.bs.length:=by
 obtain⟨_,b,c,hb,hc,_⟩:=zhq.mp (zjd.mp h).2.2;exact⟨zad hb,zad hc⟩
def zkk {lit:List (Option Int)}{k:Nat}{h:Int}(e:(lit[k]?).join=some h):lit[k]?=some (some h):=by
 cases e2:lit[k]? with
 |none=>rw[e2]at e;cases e
 |some o=>rw[e2]at e;have:o=some h:=e;rw[this]
def zfJ {V:Vl}(ok:za9 V){k j:Nat}{b c:Str×(Int×Int)}(hb:V.bs[k]?=some b)(hc:V.bs[j]?=some c)(hkj:k≠j){ms:List (Int×Int)}(hm:zjQ V b.1 c.1 b.2 c.2 ms)(h:Int):zd0 (zcs V k j) h=zaU ms h:=by
 have ne:b.1≠c.1:=fun e=>hkj ((znL ok hb hc).mp e)
 have iff:∀ u,u∈zcs V k j↔ms.any (inS u)=true:=fun u=>by
  rw[zjd,hm.iff,zhq];constructor
  ·rintro⟨h1,h2,_,b',c',hb',hc',z⟩;rw[hb]at hb';rw[hc]at hc';cases hb';cases hc';exact⟨h1,h2,.inr z⟩
  ·rintro⟨h1,h2,z|z⟩
   ·exact absurd z ne
   ·exact⟨h1,h2,hkj,b,c,hb,hc,z⟩
 refine zr3 (zgf V k j) (fun u e=>?_) (fun e v hv hle=>zlM e v hle ((iff v).mp hv));obtain⟨a1,a2,a3⟩:=zlA hm.ok e;exact⟨(iff u).mpr a1,a2,fun v hv=>a3 v ((iff v).mp hv)⟩
def zsF {os:List (Option Int)}{i:Nat}{d:D}(h:(za7 os)[i]?=some d):i<os.length/\d=za2 ((os[i]?).join):=by
 have h':(os.map za2)[i]?=some d:=h;rw[qk]at h';cases e:os[i]? with
 |none=>rw[e]at h';cases h'
 |some o=>rw[e]at h';cases h';exact⟨zad e,rfl⟩
def zdX (V:Vl)(i:Nat)(z:Str):Prop:=∃ b,V.bs[i]?=some b/\b.1=z
def zdX.uniq {V:Vl}(ok:za9 V){i j:Nat}{z:Str}(a:zdX V i z)(b:zdX V j z):i=j:=by
 obtain⟨x,hx,rfl⟩:=a;obtain⟨y,hy,e⟩:=b;exact(znL ok hx hy).mp e.symm
def zdX.mem {V:Vl}{i:Nat}{z:Str}(a:zdX V i z):z∈V.bs.map (·.1):=by
 obtain⟨x,hx,rfl⟩:=a;exact qU.mpr ⟨x,qf hx,rfl⟩
def zsC {V:Vl}{z:Str}(h:z∈V.bs.map (·.1)):∃ i,zdX V i z:=by
 obtain⟨b,hb,rfl⟩:=qU.mp h;obtain⟨i,hi,e⟩:=qab.mp hb;exact⟨i,b,by rw[qc hi,e],rfl⟩
def nmH (V:Vl)(k:Nat):Str:=((V.bs[k]?).getD (Str.empty,(0,0))).1
def zkB {V:Vl}{k:Nat}{b:Str×(Int×Int)}(h:V.bs[k]?=some b):nmH V k=b.1:=by unfold nmH;rw[h];rfl
def zdL {V:Vl}{k:Nat}(h:k<V.bs.length):∃ b,V.bs[k]?=some b/\nmH V k=b.1:=⟨_,qc h,zkB (qc h)⟩
def ziS {V:Vl}(ok:za9 V){k j:Nat}(hk:k<V.bs.length)(hj:j<V.bs.length):nmH V k=nmH V j↔k=j:=by
 obtain⟨b,hb,e⟩:=zdL hk;obtain⟨c,hc,e'⟩:=zdL hj;rw[e,e'];exact znL ok hb hc
abbrev En:=Option Nat×Int×Int
def enD (V:Vl)(e:En):D:=.tup [match e.1 with|none=>.non|some p=>.str (nmH V p),.int e.2.1,.int e.2.2]
def kvE (V:Vl)(is:List Nat)(v:Nat->D):List (Str×D):=is.map fun k=>(nmH V k,v k)
def zbJ {α:Type}(f:Nat->α)(j:Nat)(e:α):Nat->α:=fun k=>if k=j then e else f k
def za1 {α:Type}{f:Nat->α}{j:Nat}{e:α}:zbJ f j e j=e:=if_pos rfl
def zbd {α:Type}{f:Nat->α}{j k:Nat}{e:α}(h:k≠j):zbJ f j e k=f k:=if_neg h
def zl4 {V:Vl}{f:Nat->En}{j:Nat}{e:En}:(zbJ (fun k=>enD V (f k)) j (enD V e))=fun k=>enD V (zbJ f j e k):=by
 funext k;unfold zbJ;by_cases h:k=j
 ·rw[if_pos h,if_pos h]
 ·rw[if_neg h,if_neg h]
def set_1 {S G:Sto}{a b c:Cell}:(S++a::b::G).set (S.length+1) c=S++a::c::G:=by
 rw[List.set_append_right _ _ (Nat.le_add_right _ _),Nat.add_sub_cancel_left];rfl
section
variable {V:Vl}{is:List Nat}{v:Nat->D}
def zo3 {i:Nat}{z:Str}{d:D}(h:(kvE V is v)[i]?=some (z,d)):∃ k,is[i]?=some k/\z=nmH V k/\d=v k:=by
 unfold kvE at h;rw[qk]at h;cases e:is[i]? with
 |none=>rw[e]at h;cases h
 |some k=>rw[e]at h;cases h;exact⟨k,rfl,rfl,rfl⟩
def zdq:(kvE V is v).length=is.length:=qb ..
def zcu (ok:za9 V)(lt:∀ k∈is,k<V.bs.length){k:Nat}(hk:k<V.bs.length):dval (kvE V is v) (nmH V k)=if k∈is then some (v k)else none:=by
 induction is with
 |nil=>rw[if_neg (by simp)];rfl
 |cons a r ih =>
  show dval ((nmH V a,v a)::kvE V r v) _=_;rw[zcQ,ih fun k h=>lt k (qq _ h)];by_cases e:a=k
  ·subst e;rw[if_pos rfl,if_pos (by simp)]
  ·rw[if_neg (fun z=>e ((ziS ok (lt a (by simp)) hk).mp z))];by_cases m:k∈r
   ·rw[if_pos m,if_pos (qq _ m)]
   ·rw[if_neg m,if_neg (fun z=>by rcases qg.mp z with z|z;exact e z.symm;exact m z)]
def zmb (ok:za9 V)(lt:∀ k∈is,k<V.bs.length){j:Nat}(hj:j<V.bs.length)(d:D):dput (kvE V is v) (nmH V j) d=kvE V (if j∈is then is else is++[j]) (zbJ v j d):=by
 unfold dput;rw[zhN,zcu ok lt hj];by_cases m:j∈is
 ·rw[if_pos m,if_pos m,if_pos (show(some (v j)).isSome=true from rfl)];unfold kvE;rw[qT];refine List.map_congr_left fun k hk=>?_
  show(if nmH V k=nmH V j then(nmH V k,d)else(nmH V k,v k))=_;by_cases e:k=j
  ·subst e;rw[if_pos rfl,za1]
  ·rw[if_neg (fun z=>e ((ziS ok (lt k hk) hj).mp z)),zbd e]
 ·rw[if_neg m,if_neg m,if_neg (by simp)];unfold kvE;rw[qH];congr 1
  ·refine List.map_congr_left fun k hk=>?_
   rw[zbd (show k≠j from fun z=>m (z▸hk))]
  ·show _=[(nmH V j,zbJ v j d j)];rw[za1]
def zpN (ok:za9 V)(lt:∀ k∈is,k<V.bs.length){j:Nat}(hj:j<V.bs.length):zgJ (kvE V is v) (nmH V j)=kvE V (is.filter fun k=>decide (k≠j)) v:=by
 unfold zgJ kvE;rw[List.filter_map];congr 1;refine List.filter_congr fun k hk=>?_
 exact decide_eq_decide.mpr (not_congr (ziS ok (lt k hk) hj))
end
def WyE (V:Vl)(s:Nat)(h:Int)(l:List Nat)(f:Nat->En)(j:Nat)(e:En):Prop:=(e=(none,h,h)/\j=s)\/∃ p,e.1=some p/\p∈l/\(f p).2.2<=e.2.1/\zaS V p j e.2.1/\e.2.2=e.2.1+V.dl
def Pick (g:Nat->En)(wi:List Nat)(a:Nat):Prop:=∃ i:Nat,wi[i]?=some a/\∀ j b:Nat,wi[j]?=some b->(g a).2.2<=(g b).2.2/\(j<i->(g a).2.2<(g b).2.2)
open Classical in
noncomputable def rlx (V:Vl) (a:Nat) (fi:List Nat) (f:Nat->En) (p:List Nat×(Nat->En)) (j:Nat):List Nat×(Nat->En) :=
 if j∈fi then p else match zd0 (zcs V a j) (f a).2.2 with
 |none=>p
 |some u=>if j∈p.1/\(p.2 j).2.2<=u+V.dl then p else(if j∈p.1 then p.1 else p.1++[j],zbJ p.2 j (some a,u,u+V.dl))
section
variable {V:Vl}{a j:Nat}{fi:List Nat}{f:Nat->En}{p:List Nat×(Nat->En)}{u:Int}
def ztO (m:j∈fi):rlx V a fi f p j=p:=by unfold rlx;rw[if_pos m]
def zqm (m:j∉fi)(e:zd0 (zcs V a j) (f a).2.2=none):rlx V a fi f p j=p:=by unfold rlx;rw[if_neg m,e]
def zqF (m:j∉fi)(e:zd0 (zcs V a j) (f a).2.2=some u)(h:j∈p.1)(h2:(p.2 j).2.2<=u+V.dl):rlx V a fi f p j=p:=by
 unfold rlx;rw[if_neg m,e];exact if_pos ⟨h,h2⟩
def zsJ (m:j∉fi)(e:zd0 (zcs V a j) (f a).2.2=some u)(h:j∈p.1->u+V.dl<(p.2 j).2.2):rlx V a fi f p j=(if j∈p.1 then p.1 else p.1++[j],zbJ p.2 j (some a,u,u+V.dl)):=by
 unfold rlx;rw[if_neg m,e];refine(if_neg fun z=>?_).trans ?_
 ·have:=h z.1;have:=z.2;lia
 ·congr
end
noncomputable def zfl (V:Vl) (a:Nat) (fi:List Nat) (f:Nat->En) (p:List Nat×(Nat->En)) (i:Nat):List Nat×(Nat->En):=(List.range i).foldl (rlx V a fi f) p
def zps {V:Vl}{a:Nat}{fi:List Nat}{f:Nat->En}{p:List Nat×(Nat->En)}{i:Nat}:zfl V a fi f p (i+1)=rlx V a fi f (zfl V a fi f p i) i:=by
 unfold zfl;rw[List.range_succ,List.foldl_append];rfl
inductive Run (V:Vl)(s:Nat)(h:Int):List Nat->(Nat->En)->List Nat->(Nat->En)->Prop
 |base:Run V s h [] (fun _=>(none,h,h)) [s] (fun _=>(none,h,h))
 |step {fi wi:List Nat} {f g:Nat->En} {a:Nat}:Run V s h fi f wi g->Pick g wi a->Run V s h (fi++[a]) (zbJ f a (g a)) (zfl V a (fi++[a]) (zbJ f a (g a)) (wi.filter fun k=>decide (k≠a),g) V.bs.length).1 (zfl V a (fi++[a]) (zbJ f a (g a)) (wi.filter fun k=>decide (k≠a),g) V.bs.length).2
structure zmQ (V:Vl)(s:Nat)(h:Int)(fi:List Nat)(f:Nat->En):Prop where
 nd:fi.Nodup
 lt:∀ k∈fi,k<V.bs.length
 way:∀ l j r,fi=l++j::r->WyE V s h l f j (f j)
 ear:Ear (zaS V) V.dl s h fun j=>if j∈fi then some (f j).2.2 else none
 run:∃ g,Run V s h fi f [] g
structure Djk (V:Vl)(s:Nat)(h:Int)(D:Nat->Nat->Prop)(fi:List Nat)(f:Nat->En)(wi:List Nat)(g:Nat->En):Prop where
 nd:fi.Nodup
 nw:wi.Nodup
 ap:∀ k∈fi,k∉wi
 lt:∀ k∈fi,k<V.bs.length
 lw:∀ k∈wi,k<V.bs.length
 way:∀ l j r,fi=l++j::r->WyE V s h l f j (f j)
 wwy:∀ j∈wi,WyE V s h fi f j (g j)
 mon:∀ k∈fi,∀ j∈wi,(f k).2.2<=(g j).2.2
 st:(s∈fi/\(f s).2.2<=h)\/(s∈wi/\(g s).2.2<=h)
 rel:∀ k∈fi,∀ j u,D k j->(f k).2.2<=u->zaS V k j u->(j∈fi/\(f j).2.2<=u+V.dl)\/(j∈wi/\(g j).2.2<=u+V.dl)
section
variable {V:Vl}{s:Nat}{h:Int}{D D':Nat->Nat->Prop}{fi wi:List Nat}{f g:Nat->En}
def Djk.start (hs:s<V.bs.length):Djk V s h D [] f [s] (fun _=>(none,h,h)) where
 nd:=List.nodup_nil
 nw:=by simp
 ap:=fun k m=>nomatch m
 lt:=fun k m=>nomatch m
 lw:=fun k m=>by rw[List.mem_singleton.mp m];exact hs
 way:=fun l j r e=>by simp at e
 wwy:=fun j m=>.inl ⟨rfl,List.mem_singleton.mp m⟩
 mon:=fun k m=>nomatch m
 st:=.inr ⟨by simp,qac _⟩
 rel:=fun k m=>nomatch m
def WyE.mono {l l':List Nat}{f f':Nat->En}{j:Nat}{e:En}(w:WyE V s h l f j e)(hl:∀ p∈l,p∈l')(hf:∀ p∈l,f' p=f p):WyE V s h l' f' j e:=w.imp id fun⟨p,e1,m,r⟩=>⟨p,e1,hl p m,by rw[hf p m];exact r⟩
def Djk.na (I:Djk V s h D fi f wi g){a:Nat}(ha:a∈wi){p:Nat}(m:p∈fi):p≠a:=fun z=>I.ap p m (z▸ha)
def Djk.take (I:Djk V s h D fi f wi g){a:Nat}(ha:a∈wi)(hm:∀ j∈wi,(g a).2.2<=(g j).2.2):Djk V s h (fun k j=>k≠a/\D k j) (fi++[a]) (zbJ f a (g a)) (wi.filter fun k=>decide (k≠a)) g where
 nd:=List.nodup_append.mpr ⟨I.nd,by simp,fun x hx y hy e=>by
  have:y=a:=by simpa using hy
  subst e this;exact I.ap _ hx ha⟩
 nw:=I.nw.sublist List.filter_sublist
 ap:=fun k m z=>by
  obtain⟨z1,z2⟩:=qO.mp z;rcases qF.mp m with m|m
  ·exact I.ap k m z1
  ·exact of_decide_eq_true z2 (by simpa using m)
 lt:=fun k m=>by
  rcases qF.mp m with m|m
  ·exact I.lt k m
  ·rw[show k=a by simpa using m];exact I.lw a ha
 lw:=fun k m=>I.lw k (qO.mp m).1
 way:=fun l j r e=>by
  have na:∀ p∈fi,p≠a:=fun p m=>I.na ha m
  rcases List.eq_nil_or_concat r with rfl|⟨r',x,rfl⟩
  ·obtain⟨e1,e2⟩:=List.append_inj' e rfl;have ej:a=j:=by simpa using e2
   subst e1 ej;rw[za1];exact(I.wwy a ha).mono (fun p m=>m) fun p m=>zbd (na p m)
  ·have e':fi++[a]=(l++j::r')++[x]:=by rw[e];simp
   obtain⟨e1,e2⟩:=List.append_inj' e' rfl;have hj:j∈fi:=by rw[e1];simp
   rw[zbd (na j hj)];exact(I.way l j r' e1).mono (fun p m=>m) fun p m=>zbd (na p (by rw[e1];exact qQ _ m))
 wwy:=fun j m=>(I.wwy j (qO.mp m).1).mono (fun p m=>qQ _ m) fun p m=>zbd (I.na ha m)
 mon:=fun k m j mj=>by
  have mj':=(qO.mp mj).1;rcases qF.mp m with m|m
  ·rw[zbd (I.na ha m)];exact I.mon k m j mj'
  ·rw[show k=a by simpa using m,za1];exact hm j mj'
 st:=by
  rcases I.st with⟨m,le⟩|⟨m,le⟩
  ·exact .inl ⟨qQ _ m,by rw[zbd (I.na ha m)];exact le⟩
  ·by_cases e:s=a
   ·subst e;exact .inl ⟨by simp,by rw[za1];exact le⟩
   ·exact .inr ⟨qO.mpr ⟨m,by simp[e]⟩,le⟩
 rel:=fun k m j u d hu hs=>by
  have m':k∈fi:=by
   rcases qF.mp m with m|m
   ·exact m
   ·exact absurd (by simpa using m) d.1
  rw[zbd d.1]at hu;rcases I.rel k m' j u d.2 hu hs with⟨mj,le⟩|⟨mj,le⟩
  ·exact .inl ⟨qQ _ mj,by rw[zbd (I.na ha mj)];exact le⟩
  ·by_cases e:j=a
   ·subst e;exact .inl ⟨by simp,by rw[za1];exact le⟩
   ·exact .inr ⟨qO.mpr ⟨mj,by simp[e]⟩,le⟩
def Djk.weak (I:Djk V s h D fi f wi g)(hD:∀ k∈fi,∀ j,j<V.bs.length->D' k j->D k j\/∀ u,(f k).2.2<=u->zaS V k j u->(j∈fi/\(f j).2.2<=u+V.dl)\/(j∈wi/\(g j).2.2<=u+V.dl)):Djk V s h D' fi f wi g :=
 ⟨I.nd,I.nw,I.ap,I.lt,I.lw,I.way,I.wwy,I.mon,I.st,fun k m j u d hu hs=>(hD k m j (ze2 hs).2 d).elim (fun d=>I.rel k m j u d hu hs) fun z=>z u hu hs⟩
def Djk.put (I:Djk V s h D fi f wi g){a j:Nat}{u:Int}(ha:a∈fi)(top:∀ k∈fi,(f k).2.2<=(f a).2.2)(hj:j∉fi)(ge:(f a).2.2<=u)(hu:zaS V a j u)(hd:0<=V.dl)(hw:j∈wi->u+V.dl<=(g j).2.2):Djk V s h D fi f (if j∈wi then wi else wi++[j]) (zbJ g j (some a,u,u+V.dl)):=by
 have mem:∀ k,k∈(if j∈wi then wi else wi++[j])↔k∈wi\/k=j:=fun k=>by
  by_cases m:j∈wi
  ·rw[if_pos m];exact⟨.inl,fun z=>z.elim id fun e=>e▸m⟩
  ·rw[if_neg m,qF,List.mem_singleton]
 have low:∀ k,k∈wi->(zbJ g j ((some a,u,u+V.dl):En) k).2.2<=(g k).2.2:=fun k m=>by
  by_cases e:k=j
  ·subst e;rw[za1];exact hw m
  ·rw[zbd e];exact qac _
 refine⟨I.nd,?_,fun k m z=>?_,I.lt,fun k m=>?_,I.way,fun k m=>?_,fun k m i mi=>?_,?_,fun k m i v d hv hs=>?_⟩
 ·by_cases m:j∈wi
  ·rw[if_pos m];exact I.nw
  ·rw[if_neg m];exact List.nodup_append.mpr ⟨I.nw,by simp,fun x hx y hy e=>m (by rw[<- show y=j by simpa using hy,<- e];exact hx)⟩
 ·rcases(mem k).mp z with z|z
  ·exact I.ap k m z
  ·exact hj (z▸m)
 ·rcases(mem k).mp m with z|z
  ·exact I.lw k z
  ·rw[z];exact(ze2 hu).2
 ·by_cases e:k=j
  ·subst e;rw[za1];exact .inr ⟨a,rfl,ha,ge,hu,rfl⟩
  ·rw[zbd e];exact I.wwy k (((mem k).mp m).resolve_right e)
 ·by_cases e:i=j
  ·subst e;rw[za1];have:=top k m;show(f k).2.2<=u+V.dl;lia
  ·rw[zbd e];exact I.mon k m i (((mem i).mp mi).resolve_right e)
 ·exact I.st.imp id fun⟨m,le⟩=>⟨(mem s).mpr (.inl m),Int.le_trans (low s m) le⟩
 ·exact(I.rel k m i v d hv hs).imp id fun⟨m,le⟩=>⟨(mem i).mpr (.inl m),Int.le_trans (low i m) le⟩
def WyE.lt {l:List Nat}{j:Nat}{e:En}(w:WyE V s h l f j e)(hl:∀ p∈l,Lt (zaS V) V.dl s h p (f p).2.2):Lt (zaS V) V.dl s h j e.2.2:=by
 rcases w with⟨rfl,rfl⟩|⟨p,_,m,le,hs,eq⟩
 ·exact .base
 ·rw[eq];exact .step (hl p m) le hs
def zst (way:∀ l j r,fi=l++j::r->WyE V s h l f j (f j)):∀ (n:Nat) l r,l.length<=n->fi=l++r->∀ p∈l,Lt (zaS V) V.dl s h p (f p).2.2:=by
 intro n
 induction n with
 |zero =>
  intro l r hl _ p m;have e:l=[]:=List.length_eq_zero_iff.mp (by lia);rw[e]at m;cases m
 |succ n ih =>
  intro l r hl e p m;rcases List.eq_nil_or_concat l with rfl|⟨l',x,rfl⟩
  ·cases m
  ·have e':fi=l'++x::r:=by rw[e];simp
   have old:=ih l' (x::r) (by simp at hl;lia) e';rcases qF.mp (show p∈l'++[x] by simpa using m)with m|m
   ·exact old p m
   ·rw[show p=x by simpa using m];exact(way l' x r e').lt old
def Djk.done (I:Djk V s h (fun _ _=>True) fi f [] g)(R:Run V s h fi f [] g):zmQ V s h fi f where
 run:=⟨g,R⟩
 nd:=I.nd
 lt:=I.lt
 way:=I.way
 ear:=by
  refine⟨fun j x e=>?_,fun j x w=>?_⟩
  ·by_cases m:j∈fi
   ·rw[if_pos m]at e;cases e;exact zst I.way fi.length fi [] (qe _) (by simp) j m
   ·rw[if_neg m]at e;cases e
  ·have:∃ h',j∈fi/\(f j).2.2=h'/\h'<=x:=by
    induction w with
    |base =>
     rcases I.st with⟨m,le⟩|⟨m,_⟩
     ·exact⟨_,m,rfl,le⟩
     ·cases m
    |step w hu hs ih =>
     obtain⟨h',m,rfl,le⟩:=ih;rcases I.rel _ m _ _ True.intro (Int.le_trans le hu) hs with⟨m,le⟩|⟨m,_⟩
     ·exact⟨_,m,rfl,le⟩
     ·cases m
   obtain⟨h',m,rfl,le⟩:=this;exact⟨_,if_pos m,le⟩
end
def litE (V:Vl)(fi:List Nat)(f:Nat->En):List (Option Int):=(List.range V.bs.length).map fun j=>if j∈fi then some (f j).2.2 else none
def zqe {V:Vl}{fi:List Nat}{f:Nat->En}:(litE V fi f).length=V.bs.length:=by unfold litE;rw[qb,qW]
def zpz {V:Vl}{s:Nat}{h:Int}{fi:List Nat}{f:Nat->En}(L:zmQ V s h fi f):Ear (zaS V) V.dl s h fun j=>((litE V fi f)[j]?).join:=by
 have e:(fun j=>((litE V fi f)[j]?).join)=fun j=>if j∈fi then some (f j).2.2 else none:=by
  funext j;unfold litE;rw[qk];by_cases hj:j<V.bs.length
  ·rw[List.getElem?_range hj];rfl
  ·rw[qE (by rw[qW];lia),if_neg (fun m=>hj (L.lt j m))];rfl
 rw[e];exact L.ear
def znp:Option D->D
 |some (.tup [_,_,x])=>x
 |_=>.non
def ztH (kvs:List (Str×D)):D->D
 |.str z=>znp (dval kvs z)
 |_=>.non
def zhH (V:Vl):(V.bs.map (·.1)).map D.str=(List.range V.bs.length).map fun i=>.str (nmH V i):=List.ext_getElem? fun i=>by
 rw[qk,qk,qk];by_cases hi:i<V.bs.length
 ·rw[List.getElem?_range hi,qc hi];show some (D.str _)=some (D.str (nmH V i));rw[zkB (qc hi)]
 ·rw[qE (by lia),qE (by rw[qW];lia)];rfl
def zoc {V:Vl}{i:Nat}{d:D}(h:((List.range V.bs.length).map fun i=>D.str (nmH V i))[i]?=some d):i<V.bs.length/\d=.str (nmH V i):=by
 rw[qk]at h;by_cases hi:i<V.bs.length
 ·rw[List.getElem?_range hi]at h;exact⟨hi,(qM h).symm⟩
 ·rw[qE (by rw[qW];lia)]at h;cases h
def zpL {V:Vl}(ok:za9 V){fi:List Nat}{f:Nat->En}(lt:∀ k∈fi,k<V.bs.length):((List.range V.bs.length).map fun i=>D.str (nmH V i)).map (ztH (kvE V fi fun j=>enD V (f j)))=za7 (litE V fi f):=by
 unfold litE;show _=((List.range V.bs.length).map _).map za2;rw[qT,qT];refine List.map_congr_left fun i hi=>?_
 show znp (dval _ (nmH V i))=za2 (if i∈fi then some (f i).2.2 else none);rw[zcu ok lt (List.mem_range.mp hi)];by_cases m:i∈fi
 ·rw[if_pos m,if_pos m];rfl
 ·rw[if_neg m,if_neg m];rfl
def zoq {A B C:Sto}{x:Cell}:(A++(B++[x]++C))[A.length+B.length]?=some x:=by
 rw[qj (Nat.le_add_right _ _),Nat.add_sub_cancel_left,qh,qj (qe _),Nat.sub_self];rfl
def zvB (b:Int):D->Bool
 |.tup [_,.int h]=>decide (h<=b)
 |_=>false
def zvf:D->D
 |.tup (x::_)=>x
 |d=>d
def zbU (V:Vl)(lit:List (Option Int))(b:Int):List D:=((za8 ((List.range V.bs.length).map fun i=>D.str (nmH V i)) (za7 lit)).filter (zvB b)).map zvf
theorem zk5:∀ {xs ys:List D} {i:Nat} {d:D},(za8 xs ys)[i]?=some d->∃ x y,xs[i]?=some x/\ys[i]?=some y/\d=.tup [x,y]
 |[],_,_,_,h=>by simp[za8]at h
 |_::_,[],_,_,h=>by simp[za8]at h
 |x::xs,y::ys,0,d,h=>by
  have h:some (D.tup [x,y])=some d:=h;cases h;exact⟨x,y,rfl,rfl,rfl⟩
 |x::xs,y::ys,i+1,d,h=>by
  obtain⟨a,b,h1,h2,h3⟩:=zk5 (i:=i) (xs:=xs) (ys:=ys) (show(za8 xs ys)[i]?=some d from h);exact⟨a,b,by simpa using h1,by simpa using h2,h3⟩
theorem zoB:∀ (xs ys:List D),(za8 xs ys).length<=xs.length
 |[],_=>qe _
 |_::_,[]=>qP _
 |_::xs,_::ys=>Nat.succ_le_succ (zoB xs ys)
def zrh {V:Vl}(ok:za9 V){lit:List (Option Int)}{b:Int}:(zbU V lit b).all (fl 20)=true:=by
 rw[qag];intro d hd;unfold zbU at hd;obtain⟨p,hp,rfl⟩:=qU.mp hd;obtain⟨i,hi⟩:=List.mem_iff_getElem?.mp (qO.mp hp).1;obtain⟨x,y,h1,h2,rfl⟩:=zk5 hi;obtain⟨li,rfl⟩:=zoc h1;obtain⟨b,hb,e⟩:=zdL li;show fl 20 (.str (nmH V i))=true;rw[e];exact zeW (ok.nm b (qf hb)) 20
def Ear.lit {V:Vl}{s:Nat}{h:Int}{a b:List (Option Int)}(la:a.length=V.bs.length)(lb:b.length=V.bs.length)(ea:Ear (zaS V) V.dl s h fun j=>(a[j]?).join)(eb:Ear (zaS V) V.dl s h fun j=>(b[j]?).join):a=b:=List.ext_getElem? fun j=>by
 have e:(a[j]?).join=(b[j]?).join:=ea.uniq eb j;by_cases hj:j<V.bs.length
 ·rw[qc (by lia),qc (by lia)]at e ⊢;exact congrArg some e
 ·rw[qE (by lia),qE (by lia)]
def zkT {V:Vl}{lit:List (Option Int)}{by_:Int}{fv:List Nat}{Z:Rho}{S:Sto}{Q:DK}{ok:Sto->Prop}(b12:V.bs.length<=12)(hok:ok S)(hf:(fv.map fun j=>(Z[j]?).join)=[some (.int by_)])(q:New Q S (zbU V lit by_)) :
  znC 2 fv (zbh 2 (zV (zaq 0) (zV (zaq 1) zbk))) (zdZ (dT (dOp zc8 (zbH 1) (dC .non))) (dT (dOp oLe (zbH 1) (zbH 2)))) (zbH 0) Z Q ⟨za8 ((List.range V.bs.length).map fun i=>D.str (nmH V i)) (za7 lit),ok⟩ S:=by
 refine za4 (zvB by_) zvf hok (qR (zoB _ _) (by rw[qb,qW];unfold big;lia)) (fun i d ys hd hw=>?_) q;obtain⟨x,y,h1,h2,rfl⟩:=zk5 hd;refine⟨_,rfl,rfl,_,_,rfl,_,_,rfl,rfl,?_⟩;have hc:zem 2 fv Z=[none,none,some (.int by_)]:=by unfold zem;rw[hf];rfl
 rw[hc];obtain⟨_,rfl⟩:=zsF h2;cases e:(lit[i]?).join with
 |none=>exact⟨_,rfl,.inl ⟨rfl,false,rfl,znH hd hw (by rw[e];rfl)⟩⟩
 |some v =>
  refine⟨_,rfl,.inl ⟨rfl,true,rfl,⟨_,rfl,_,rfl,⟨_,_,rfl,rfl,_,rfl,?_⟩⟩⟩⟩;by_cases c:v<=by_
  ·rw[decide_eq_true c];exact⟨_,rfl,zbL hd hw (by rw[e];exact decide_eq_true c) rfl⟩
  ·rw[decide_eq_false c];exact znH hd hw (by rw[e];exact decide_eq_false c)
end Dp
namespace My
open PySem PySem.Spec PyProof.Rows L2
section
variable {prog:Program}{w:World}{A:Around}{E:Value->Shared->Prop}{s:Shared}
end
theorem zld {α:Type}(xs:List α)(a:Nat):∀ m,a+m<=xs.length->((List.range m).map (a+·)).filterMap (xs[·]?)=(xs.drop a).take m
 |0,_=>by simp
 |m+1,h=>by
  rw[List.range_succ,qH,List.filterMap_append,zld xs a m (by lia),List.take_succ,List.getElem?_drop];simp only[qI,List.map_nil,List.filterMap_cons,List.filterMap_nil];rw[qc (by lia)];rfl
def zx2 (n:Nat)(lo hi:Option Int):Builtin.Str.strSliceIndices lo hi 1 n=(List.range (HT.sIx n n hi-HT.sIx n 0 lo)).map (HT.sIx n 0 lo+·):=by
 rw[<- sliceRange_one];unfold Builtin.Str.strSliceIndices
 have cl:∀ (o:Option Int) (d:Nat),(match o with|none=>(d:Int)|some i=>if(1:Int) > 0 then max 0 (min (if i<0 then i+(n:Int)else i) n)else max (-1) (min (if i<0 then i+(n:Int)else i) ((n:Int)-1)))=((HT.sIx n d o:Nat):Int):=fun o d=>by
  cases o with
  |none=>rfl
  |some i =>
   show(if(1:Int) > 0 then _ else _)=(((if i<0 then(i+n).toNat else min i.toNat n):Nat):Int);rw[if_pos (by decide)];by_cases h:i<0
   ·rw[if_pos h,if_pos h];lia
   ·rw[if_neg h,if_neg h];lia
 have h1:=cl lo 0;have h2:=cl hi n;simp only[show((1:Int) > 0)=True by simp,if_true]at h1 h2 ⊢;rw[<- h1,<- h2];rfl
def zib (n:Nat)(o:Option Int)(d:Nat)(hd:d<=n):HT.sIx n d o<=n:=by
  cases o with
  |none=>exact hd
  |some i =>
    show(if i<0 then(i+n).toNat else min i.toNat n)<=n;split<;>lia
def zn1 (x:Str)(lo hi:Option Int):Txt.slice x lo hi=⟨((x.cps.toList.drop (HT.sIx x.length 0 lo)).take (HT.sIx x.length x.length hi-HT.sIx x.length 0 lo)).toArray⟩:=by
 have hl:x.cps.toList.length=x.length:=qL;have b1:=zib x.length lo 0 (qP _);have b2:=zib x.length hi x.length (qe _);unfold Txt.slice;rw[zx2]
 have fm:((List.range (HT.sIx x.length x.length hi-HT.sIx x.length 0 lo)).map (HT.sIx x.length 0 lo+·)).filterMap (x.cps[·]?)=(x.cps.toList.drop (HT.sIx x.length 0 lo)).take (HT.sIx x.length x.length hi-HT.sIx x.length 0 lo):=by
  rcases qX (HT.sIx x.length x.length hi) (HT.sIx x.length 0 lo)with g|g
  ·rw[show HT.sIx x.length x.length hi-HT.sIx x.length 0 lo=0 by lia];simp
  ·rw[<- zld x.cps.toList _ _ (by rw[hl];lia)];congr 1;funext i;rw[Array.getElem?_toList]
 split
 ·rename_i h;rw[qA]at h;have h2:=eq_of_beq h.2;rw[qb,qW]at h2;have z1:HT.sIx x.length 0 lo=0:=by lia
  rw[h2,z1,List.drop_zero,List.take_of_length_le (by lia)]
 ·rw[fm]
def zyq:V->Option Int->Option Int->Hp->VK->Prop:=fun x lo hi H Q=>∃ z:Str,x=.str z/\z.length<=sizeLine/\Q (.str ⟨((z.cps.toList.drop (HT.sIx z.length 0 lo)).take (HT.sIx z.length z.length hi-HT.sIx z.length 0 lo)).toArray⟩) H
def zuP {X:Cx}:SlR X zyq:=by
 intro pins s U H x v vl vu lo hi sl Q I rx hs pl pu h;obtain⟨z,rfl,hz,q⟩:=h;obtain⟨t,rfl⟩:=rx;refine⟨"str",_,F.slot_str_getitem.lookup,typeIs_str _ _ _,?_⟩
 have go:∀ (l u:Option (Int×Tok)),l.map (·.1)=lo->u.map (·.1)=hi->s.heap.IsSlice sl l u none->wpAny (model X.prog X.w) X.A (getItem (.str z t) (.ref sl)) (EP X pins U Q) X.xe s:=fun l u el eu is=>by
  refine wpAny_getItem_str_slice is rfl ?_;unfold sliceMade slicePicked;rw[el,eu];refine post_val_or_str ⟨qR (Txt.slice_le z lo hi) hz,fun t' k=>?_⟩;show EP X pins U Q (.str (Txt.slice z lo hi) t') _;rw[zn1];exact⟨.str _,H,I.tok _,⟨t',rfl⟩,q⟩
 obtain⟨o,ho,hc,hd⟩:=hs;cases pl with
 |none =>
  cases pu with
  |none=>exact go none none rfl rfl ⟨o,ho,hc,hd⟩
  |int j tj=>exact go none (some (j,tj)) rfl rfl ⟨o,ho,hc,hd⟩
 |int i ti =>
  cases pu with
  |none=>exact go (some (i,ti)) none rfl rfl ⟨o,ho,hc,hd⟩
  |int j tj=>exact go (some (i,ti)) (some (j,tj)) rfl rfl ⟨o,ho,hc,hd⟩
section
open AutoSeq1 (wpAny_loadPart')
variable {prog:Program}{w:World}{A:Around}{E:Value->Shared->Prop}{s:Shared}
def zid {it t:Addr}{i:Nat}{items:Array Value}{x:Value}{Q:Value->Shared->Prop}(hit:s.heap.IsTupleIter it t i)(ht:s.heap.IsTuple t items)(hx:items[i]?=some x)
  (hQ:∀ h',h'.IsTupleIter it t (i+1)->Heap.SameBut it s.heap h'->Q x { s with heap:=h' }):wpAny (model prog w) A (Builtin.SmallTypes.nextOf (.ref it)) Q E s:=by
 obtain⟨o,ho,hc,hd⟩:=id hit;obtain⟨ol,hol,_,nl,hdl⟩:=ht;unfold Builtin.SmallTypes.nextOf;refine wpAny_bind (wpAny_callSpecial?_slot (name:=Str.ofString "__next__") hit.typeIs F.slot_tuple_iterator_next (wpAny_call_entry F.slot_tuple_iterator_next hit.typeIs F.entry_tuple_iterator_next ?_ (F.args_tuple_iterator_next_1 _)));show wpAny _ _ (field (.ref it) 0 >>= _) _ _ s;refine wpAny_bind (wpAny_field ho hd (x:=.ref t) rfl ?_);show wpAny _ _ (if(Value.ref t==Value.none)=true then _ else _) _ _ s;rw[if_neg (show ¬ ((Value.ref t==Value.none)=true)from qv)];show wpAny _ _ (field (.ref it) 1 >>= _) _ _ s;refine wpAny_bind (wpAny_field ho hd (x:=.int i 0) rfl ?_);show wpAny _ _ (seqItems? (.ref t) >>= _) _ _ s;refine wpAny_bind (wpAny_seqItems hol hdl ?_);simp only[Int.toNat_natCast,hx];refine wpAny_bind (wpAny_setField ho hd (by simp) (wpAny_pure ⟨x,rfl,wpAny_pure (hQ _ ?_ (Heap.SameBut.update ..))⟩));exact⟨_,Heap.get?_update_self _ ho (Obj.isFreed_of_fields (Obj.data_mapFields hd _)),(Obj.cls_mapFields ..).trans hc,by rw[Obj.data_mapFields hd];simp[rawInt]⟩
def zfW {it t:Addr}{i:Nat}{items:Array Value}{Q:Value->Shared->Prop}(hh:A.handled=none)(hit:s.heap.IsTupleIter it t i)(ht:s.heap.IsTuple t items)(hx:items[i]?=none)
  (hE:∀ h' e,Heap.ExtBut it s.heap h'->(∃ o,h'.get? e=some o/\o.cls=.type "StopIteration")->E (.ref e) { s with heap:=h' }):wpAny (model prog w) A (Builtin.SmallTypes.nextOf (.ref it)) Q E s:=by
 obtain⟨o,ho,hc,hd⟩:=id hit;obtain⟨ol,hol,_,nl,hdl⟩:=ht;unfold Builtin.SmallTypes.nextOf;refine wpAny_bind (wpAny_callSpecial?_slot (name:=Str.ofString "__next__") hit.typeIs F.slot_tuple_iterator_next (wpAny_call_entry F.slot_tuple_iterator_next hit.typeIs F.entry_tuple_iterator_next ?_ (F.args_tuple_iterator_next_1 _)));show wpAny _ _ (field (.ref it) 0 >>= _) _ _ s;refine wpAny_bind (wpAny_field ho hd (x:=.ref t) rfl ?_);show wpAny _ _ (if(Value.ref t==Value.none)=true then _ else _) _ _ s;rw[if_neg (show ¬ ((Value.ref t==Value.none)=true)from qv)];show wpAny _ _ (field (.ref it) 1 >>= _) _ _ s;refine wpAny_bind (wpAny_field ho hd (x:=.int i 0) rfl ?_);show wpAny _ _ (seqItems? (.ref t) >>= _) _ _ s;refine wpAny_bind (wpAny_seqItems hol hdl ?_);simp only[Int.toNat_natCast,hx];refine wpAny_bind (wpAny_rule (wpAny_bind (wpAny_setField ho hd (by simp) ?_)));show wpAny _ _ (newExc (.type "StopIteration") [] >>= _) _ _ _;refine wpAny_bind ?_;simp only[newExc,newTuple];refine wpAny_bind (wpAny_newObj_type ?_ (by size_fits));refine wpAny_bind (m:=firstArgMember _ _) (wpAny_of_eq (a:=Value.none) (by first|rfl|(simp only[firstArgMember];rfl)) ?_);refine wpAny_newObj_type ?_ (by size_fits);simp only[raiseNew];refine wpAny_bind (wpAny_handled ?_)
 first|rw[show A.in1.handled=none from hh]|rw[hh]
 refine wpAny_bind (wpAny_pure (wpAny_throw ?_));exact hE _ _ (((Heap.SameBut.update ..).extBut.push _).push _) ⟨_,qp _ rfl,rfl⟩
def zuB (hh:A.handled=none)(it t:Addr)(hne:t≠it)(items:Array Value) :
  Draws prog w A it [it,t] items.size (fun i v=>items[i]?=some v) (fun i h=>h.IsTupleIter it t i/\h.IsTuple t items) where
 live:=fun _ _ st=>let ⟨o,ho,_⟩:=st.1;⟨o,ho⟩
 frame:=fun _ _ _ st hk=>⟨let ⟨o,ho,r⟩:=st.1;⟨o,hk it (by simp) o ho,r⟩,let ⟨o,ho,r⟩:=st.2;⟨o,hk t (by simp) o ho,r⟩⟩
 item:=fun i s Q E hi st hQ=>zid st.1 st.2 (x:=items[i]) (by simp[hi]) fun h' hit' hs'=>hQ _ h' s.toks (by simp[hi]) ⟨hit',st.2.extBut hs'.extBut hne⟩ hs'
 done:=fun s Q E st hE=>zfW hh st.1 st.2 (by simp) hE
def zvQ (hh:A.handled=none)(it t:Addr)(items:Array Value)(i:Nat)(hx:items[i]?=none) :
  Draws prog w A it [it,t] 0 (fun _ _=>True) (fun _ h=>h.IsTupleIter it t i/\h.IsTuple t items) where
 live:=fun _ _ st=>let ⟨o,ho,_⟩:=st.1;⟨o,ho⟩
 frame:=fun _ _ _ st hk=>⟨let ⟨o,ho,r⟩:=st.1;⟨o,hk it (by simp) o ho,r⟩,let ⟨o,ho,r⟩:=st.2;⟨o,hk t (by simp) o ho,r⟩⟩
 item:=fun i s Q E hi=>absurd hi (Nat.not_lt_zero _)
 done:=fun s Q E st hE=>zfW hh st.1 st.2 hx hE
def newT (l:Addr)(items:Array Value)(n:Nat)(dct:Option Addr)(sl:Array (Option Value)) :
    Meets (Builtin.«enumerate.__new__» ⟨[.type "enumerate",.ref l],[]⟩) (fun _ R s=>s.heap.get? l=some { cls:=.type "tuple",dict:=dct,data:=.seq items n,slots:=sl } /\
      R (.ok (.ret (.ref (s.heap.push { cls:=.type "tuple_iterator",data:=.fields #[.ref l,.int 0 0] }).objs.size)))
        { s with heap:=(s.heap.push { cls:=.type "tuple_iterator",data:=.fields #[.ref l,.int 0 0] }).push { cls:=.type "enumerate",data:=.fields #[.none,.bool false,.ref s.heap.objs.size,rawInt 0,.none,.none] } }) :=
  .of_wp fun prog w A R s h=>by
    obtain⟨hp,g,d,tk,os⟩:=s;obtain⟨hl,h⟩:=h;have hsub:=sub_enumerate;have hL:Heap.IsTuple (Shared.heap ⟨hp,g,d,tk,os⟩) l items:=⟨_,hl,rfl,n,rfl⟩
    wp_walk using wpAny_loadPart' hl
    refine wpAny_stack_any fun st=>wpAny_pure ?_
    split
    . rename_i c _ _ _ _ _;cases(c==Value.type "enumerate")
      . wp_walk using wpAny_loadPart' hl,wpAny_pyIter_tuple hL
        exact⟨_,rfl,h⟩
      . wp_walk using wpAny_loadPart' hl,wpAny_pyIter_tuple hL
        exact⟨_,rfl,h⟩
    . wp_walk using wpAny_loadPart' hl,wpAny_pyIter_tuple hL
      exact⟨_,rfl,h⟩
def zxB {l:Addr}{items:Array Value}{Q:Value->Shared->Prop}(hL:s.heap.IsTuple l items)
    (h:∀ h',IsEnum h' (s.heap.objs.size+1) s.heap.objs.size 0 .none->h'.IsTupleIter s.heap.objs.size l 0->h'.objs.size=s.heap.objs.size+2 ->
      (∀ b o,s.heap.get? b=some o->h'.get? b=some o)->Q (.ref (s.heap.objs.size+1)) { s with heap:=h' }):wpAny (model prog w) A (call (.type "enumerate") [.ref l]) Q E s:=by
  obtain⟨⟨c,dct,dt,sl⟩,hl,hc,n,hd⟩:=hL
  replace hc:c=.type "tuple":=hc
  replace hd:dt=.seq items n:=hd
  subst hc hd;refine callType_new F.called_enumerate (by decide) (F.typeCall_enumerate_1 _) (F.newCall_enumerate_1 _) (fun obj=>F.args_object_init_2 obj _) F.entry_enumerate_new (newT l items n dct sl) ⟨hl,?_⟩;have hz:(s.heap.push { cls:=.type "tuple_iterator",data:=.fields #[.ref l,.int 0 0] }).objs.size=s.heap.objs.size+1:=qY ..;show _/\_;rw[hz]
  have he : IsEnum ((s.heap.push { cls := .type "tuple_iterator", data := .fields #[.ref l, .int 0 0] }).push
      { cls:=.type "enumerate",data:=.fields #[.none,.bool false,.ref s.heap.objs.size,rawInt 0,.none,.none] }) (s.heap.objs.size+1) s.heap.objs.size 0 .none:=by
    have:=qp (s.heap.push { cls:=.type "tuple_iterator",data:=.fields #[.ref l,.int 0 0] })
      (o:={ cls:=.type "enumerate",data:=.fields #[.none,.bool false,.ref s.heap.objs.size,rawInt 0,.none,.none] }) rfl
    rw[hz]at this;exact this
  exact⟨⟨_,he,rfl⟩,h _ he ⟨_,qd _ (qp _ rfl),rfl,rfl⟩ (by rw[qY,hz]) fun b o x=>qd _ (qd _ x)⟩
end
def zpv (K:PySem.W.Frag)(l:Addr):It :=
  ⟨fun i H=>∃ xs x,SqT K H l xs/\xs[i]?=some x,
   fun i H v H'=>∃ p,v=.ref p/\H p=none/\∀ xs x,SqT K H l xs->xs[i]?=some x->H'=upd H p (.tup [.int i,x]),
   fun i H=>∃ xs,SqT K H l xs/\xs.length<=i⟩
def zoS {h:Heap}{a b:Addr}{o u:Obj}(ha:h.get? a=some o)(hb:h.get? b=some u)(hc:o.cls≠u.cls):a≠b:=fun e=>by
 subst e;rw[ha]at hb;cases hb;exact hc rfl
def znI {P:Program}{w:World}{K:PySem.W.Frag}{es:List Expr}{kk:Nat}{pos:Pos}{e it l:Addr}(hne:e≠it) :
  Turn P w K (.Tuple es kk pos) (zpv K l) [e,it] e (fun i h=>(∃ old,IsEnum h e it i old)/\h.IsTupleIter it l i) where
 mem:=by simp
 obj:=fun i h st b hb=>by
  obtain⟨⟨old,he⟩,⟨o1,h1,_,h1d⟩⟩:=st;simp only[qg,qB,or_false]at hb;rcases hb with rfl|rfl
  ·exact⟨_,he,fun v q=>by cases(show Data.fields _=Data.cell v from q)⟩
  ·exact⟨_,h1,fun v q=>by rw[h1d]at q;cases q⟩
 keep:=fun i h h' st k=>by
  obtain⟨⟨old,he⟩,⟨o,ho,r⟩⟩:=st;exact⟨⟨old,k e (by simp) _ he⟩,⟨o,k it (by simp) o ho,r⟩⟩
 item:=by
  intro X hP hw hK hc i pins s U H E I hf st hg;subst hP hw hK;obtain⟨⟨old,he⟩,h1⟩:=st;obtain⟨xs,x,hx1,hx⟩:=hg;obtain⟨its,rx,px,zx⟩:=I.tuple hx1;obtain⟨u,hu,ru⟩:=Vals.get rx hx;have pt:s.heap.IsTuple l its.toArray:=px;obtain⟨oi,ei,ci,_⟩:=id h1;obtain⟨ol,el,cl,_⟩:=id pt;have n1:l≠it:=zoS el ei (by rw[cl,ci];decide);have n2:e≠l:=zoS he el (by rw[cl];show Value.type "enumerate"≠Value.type "tuple";decide)
  have hlt:i<its.toArray.size:=by
   have:=(qG.mp hu).1;simpa using this
  refine wpAny_pyNext_enum_itemD (zuB (A:=X.A.in1) (show X.A.in1.handled=none from I.ok.hd hc) it l n1 its.toArray) he ⟨h1,pt⟩ hlt hne (by simp[hne,n2]) fun u' h' tk hP a1 a2 a3 a4 hk=>?_
  have eu:u'=u:=by
   have hP':its.toArray[i]?=some u':=hP;rw[List.getElem?_toArray,hu]at hP';cases hP';rfl
  subst eu;refine⟨_,rfl,wpAny_letOwnedTupleGo_enum (s:={ s with heap:=h',toks:=tk+1 }) a1 fun h'' he'' hs''=>?_⟩;have lt:∀ {c o},s.heap.get? c=some o->s.heap.objs.size≠c:=fun q=>qaj (qo q)
  have k2:∀ b u,b∉[e,it]->s.heap.get? b=some u->h''.get? b=some u:=fun b u hb q=>by
   simp only[qg,qB,or_false,not_or]at hb;exact hs''.extBut b u hb.1 (hk b u hb.1 hb.2 q)
  have new:h''.get? s.heap.objs.size=some { cls:=.type "tuple",data:=.seq #[.int i tk,u'] }:=hs''.extBut _ _ (lt he) a3;refine⟨.ref s.heap.objs.size,upd H s.heap.objs.size (.tup [.int i,x]),I.turnNew (t':=tk+1) hf k2 (qe _) ⟨by show 2<=sizeLine;decide,[.int i tk,u'],.cons ⟨_,rfl⟩ (.cons ru .nil),_,new,rfl,_,rfl⟩,rfl,⟨_,rfl,I.fresh,?_⟩,?_,fun b hb=>?_⟩
  ·intro xs' x' hx1' hx';cases I.tuple_inj hx1 hx1';rw[hx]at hx';cases hx';rfl
  ·exact⟨⟨_,he''⟩,a2.1.extBut hs''.extBut (Ne.symm hne)⟩
  ·have:∃ o,s.heap.get? b=some o:=by
    simp only[qg,qB,or_false]at hb;rcases hb with rfl|rfl
    ·exact⟨_,he⟩
    ·exact⟨_,ei⟩
   obtain⟨o,q⟩:=this;rw[zL (lt q).symm];exact(hf b hb).1
 done:=by
  intro X hP hw hK hc i pins s U H E I hf st hg;subst hP hw hK;obtain⟨⟨old,he⟩,h1⟩:=st;obtain⟨xs,hx1,hl⟩:=hg;obtain⟨its,rx,px,zx⟩:=I.tuple hx1;have n1:=rx.length;have pt:s.heap.IsTuple l its.toArray:=px;have hnone:its.toArray[i]?=none:=by rw[List.getElem?_toArray];exact qE (by lia)
  refine wpAny_pyNext_enum_endD (zvQ (A:=X.A.in1) (show X.A.in1.handled=none from I.ok.hd hc) it l its.toArray i hnone) he ⟨h1,pt⟩ fun h' hk=>⟨rfl,I.turnedL (t':=s.toks) hf fun b u hb q=>?_⟩
  simp only[qg,qB,or_false,not_or]at hb;exact hk b u hb.2 q
 self:=fun _ _ _ _ _ st h=>by
  obtain⟨⟨old,he⟩,_⟩:=st;exact wpAny_pyIter_enum he h
section
variable {X:Cx}
def zvz (K:PySem.W.Frag)(ta:TA):TI:=fun U H R=>ta U H fun vs H1=>∃ l,vs=[.ref l]/\(((∃ xs,SqL K H1 l xs)/\R (Ite K l) H1)\/((∃ xs,SqT K H1 l xs)/\R (zpv K l) H1))
def zpS {es:List Expr}{kk:Nat}{tpos:Pos}{a:Expr}{ta:TA}{p pos:Pos}(hg:Gl X "enumerate")(hm:X.mg "enumerate"=none)(ha:PA X [a] ta)(hs:starEach [a] X.env=[(false,eval a X.env)]:=by rfl) :
    PI X (.Tuple es kk tpos) (.Call (.Name "enumerate" p) [a] [] pos) (zvz X.K ta):=by
  intro pins s U H R I h;refine Call_ (zbY I hg hm boot_enumerate (PyProof.Rows.callWith_type1 (thn (ha pos pins s U H _ I h) fun us s1 ⟨vs,H1,I1,r1,q1⟩=>?_) hs rfl));obtain⟨l,e,q⟩:=q1;subst e;obtain⟨u,rfl,ru⟩:=vals1 r1;cases ru;rcases q with⟨⟨xs,hx⟩,q⟩|⟨⟨xs,hx⟩,q⟩
  . obtain⟨its,rx,px,zx⟩:=I1.list hx;refine call_enumerate_list px.isList fun h' he hit hsz hk=>?_
    have I2:Inv X pins U H1 { s1 with heap:=h' }:=I1.kept (t':=s1.toks) hk;refine wpAny_pyIter_enum (s:={ s1 with heap:=h' }) he ?_;refine⟨_,_,_,_,H1,rfl,I2,zoR (qaj (Nat.lt_succ_self _)),⟨⟨_,he⟩,hit⟩,fun b hb=>?_,q⟩
    have hb':s1.heap.objs.size<=b:=by
      simp only[qg,qB,or_false]at hb;rcases hb with rfl|rfl<;>first|exact Nat.le_add_right _ _|exact qe _
    exact I1.fpOk hb' (I1.hok.fresh hb')
  . obtain⟨its,rx,px,zx⟩:=I1.tuple hx;have pt:s1.heap.IsTuple l its.toArray:=px;refine zxB pt fun h' he hit hsz hk=>?_
    have I2:Inv X pins U H1 { s1 with heap:=h' }:=I1.kept (t':=s1.toks) hk;refine wpAny_pyIter_enum (s:={ s1 with heap:=h' }) he ?_;refine⟨_,_,_,_,H1,rfl,I2,znI (qaj (Nat.lt_succ_self _)),⟨⟨_,he⟩,hit⟩,fun b hb=>?_,q⟩
    have hb':s1.heap.objs.size<=b:=by
      simp only[qg,qB,or_false]at hb;rcases hb with rfl|rfl<;>first|exact Nat.le_add_right _ _|exact qe _
    exact I1.fpOk hb' (I1.hok.fresh hb')
end
def zbl:Bool->Heap->Addr->Addr->Nat->Prop
 |true,h,it,l,k=>h.IsListIter it l k
 |false,h,it,l,k=>h.IsTupleIter it l k
def zbZ:Bool->Heap->Addr->Array Value->Prop
 |true,h,l,xs=>h.IsList l xs
 |false,h,l,xs=>h.IsTuple l xs
def zbl.grow {b:Bool}{h h':Heap}{c it l:Addr}{k:Nat}(x:zbl b h it l k)(e:Heap.ExtBut c h h')(n:it≠c):zbl b h' it l k:=by
 cases b
 ·exact Heap.IsTupleIter.extBut (show h.IsTupleIter it l k from x) e n
 ·exact Heap.IsListIter.extBut (show h.IsListIter it l k from x) e n
def zbZ.grow {b:Bool}{h h':Heap}{c l:Addr}{xs:Array Value}(x:zbZ b h l xs)(e:Heap.ExtBut c h h')(n:l≠c):zbZ b h' l xs:=by
 cases b
 ·exact Heap.IsTuple.extBut (show h.IsTuple l xs from x) e n
 ·exact Heap.IsList.extBut (show h.IsList l xs from x) e n
def zbl.obj {b:Bool}{h:Heap}{it l:Addr}{k:Nat}(x:zbl b h it l k):∃ o,h.get? it=some o/\(o.cls=.type "list_iterator"\/o.cls=.type "tuple_iterator")/\∃ vs,o.data=.fields vs:=by
 cases b
 ·obtain⟨o,ho,hc,hd⟩:h.IsTupleIter it l k:=x;exact⟨o,ho,.inr hc,_,hd⟩
 ·obtain⟨o,ho,hc,hd⟩:h.IsListIter it l k:=x;exact⟨o,ho,.inl hc,_,hd⟩
def zbl.at {b:Bool}{h h':Heap}{it l:Addr}{k:Nat}(x:zbl b h it l k)(e:∀ o,h.get? it=some o->h'.get? it=some o):zbl b h' it l k:=by
 cases b
 ·obtain⟨o,ho,hc,hd⟩:h.IsTupleIter it l k:=x;exact(⟨o,e o ho,hc,hd⟩:h'.IsTupleIter it l k)
 ·obtain⟨o,ho,hc,hd⟩:h.IsListIter it l k:=x;exact(⟨o,e o ho,hc,hd⟩:h'.IsListIter it l k)
def zbZ.lt {b:Bool}{h:Heap}{l:Addr}{xs:Array Value}(x:zbZ b h l xs):l<h.objs.size:=by
 cases b
 ·obtain⟨o,ho,_⟩:h.IsTuple l xs:=x;exact qo ho
 ·obtain⟨o,ho,_⟩:h.IsList l xs:=x;exact qo ho
section
variable {prog:Program}{w:World}{A:Around}{E:Value->Shared->Prop}{s:Shared}
def zfj {b:Bool}{it t:Addr}{i:Nat}{items:Array Value}{x:Value}{Q:Value->Shared->Prop}(hit:zbl b s.heap it t i)(ht:zbZ b s.heap t items)(hx:items[i]?=some x)
  (hQ:∀ h',zbl b h' it t (i+1)->Heap.SameBut it s.heap h'->Q x { s with heap:=h' }):wpAny (model prog w) A (Builtin.SmallTypes.nextOf (.ref it)) Q E s:=by
 cases b
 ·exact zid hit ht hx hQ
 ·exact wpAny_nextOf_list_item hit ht hx hQ
def zjH {b:Bool}{it t:Addr}{i:Nat}{items:Array Value}{Q:Value->Shared->Prop}(hh:A.handled=none)(hit:zbl b s.heap it t i)(ht:zbZ b s.heap t items)(hx:items[i]?=none)
  (hE:∀ h' e,Heap.ExtBut it s.heap h'->(∃ o,h'.get? e=some o/\o.cls=.type "StopIteration")->E (.ref e) { s with heap:=h' }):wpAny (model prog w) A (Builtin.SmallTypes.nextOf (.ref it)) Q E s:=by
 cases b
 ·exact zfW hh hit ht hx hE
 ·exact wpAny_nextOf_list_end hh hit ht hx hE
def zmZ {b1 b2:Bool}{z TI TO i1 i2 l1 l2:Addr}{k:Nat}{xs ys:Array Value}{x y a b:Value}{Q:Option Value->Shared->Prop}(D:ZipApart z TI TO i1 i2 l1 l2)
  (hz:IsZip s.heap z TI TO .none) (hTI:IsPair s.heap TI (.ref i1) (.ref i2)) (hTO:IsPair s.heap TO a b) (h1:zbl b1 s.heap i1 l1 k) (h2:zbl b2 s.heap i2 l2 k) (hl1:zbZ b1 s.heap l1 xs) (hl2:zbZ b2 s.heap l2 ys) (hx:xs[k]?=some x) (hy:ys[k]?=some y)
  (hQ:∀ h',IsZip h' z TI TO (rawInt s.heap.objs.size)->IsPair h' TO x y->zbl b1 h' i1 l1 (k+1)->zbl b2 h' i2 l2 (k+1)->IsPair h' s.heap.objs.size x y ->
   (∀ c o,c≠z->c≠TO->c≠i1->c≠i2->s.heap.get? c=some o->h'.get? c=some o)->Q (some (.ref s.heap.objs.size)) { s with heap:=h' }):wpAny (model prog w) A (pyNext (.ref z)) Q E s:=by
 have hT:s.TypeIs (.ref z) "zip":=⟨_,hz,rfl⟩
 unfold pyNext;refine wpAny_bind (wpAny_attempt (wpAny_callSpecial?_slot (name:=Str.ofString "__next__") hT F.slot_zip_next (wpAny_call_entry F.slot_zip_next hT F.entry_zip_next ?_ (F.args_zip_next_1 _))));show wpAny _ _ (field (.ref z) 2 >>= _) _ _ _;refine wpAny_bind (wpAny_field hz rfl (x:=.bool false) rfl ?_);show wpAny _ _ (field (.ref z) 3 >>= _) _ _ _;refine wpAny_bind (wpAny_field hz rfl (x:=.ref TI) rfl (wpAny_bind (wpAny_seqItems hTI rfl ?_)));show wpAny _ _ (Builtin.SmallTypes.ownedTupleIsFree (.ref z) >>= _) _ _ _;refine wpAny_bind ?_;unfold Builtin.SmallTypes.ownedTupleIsFree;refine wpAny_bind (wpAny_field hz rfl (x:=.none) rfl (wpAny_pure ?_));simp only[if_true];refine wpAny_bind (wpAny_rule (wpAny_bind (wpAny_field hz rfl (x:=.ref TO) rfl (wpAny_bind (wpAny_setField_rec hz (by simp) fun g1 z1 e1=>?_)))))
 replace z1:IsZip g1 z TI TO .ellipsis:=z1
 refine wpAny_bind ?_;simp only[List.zipIdx_cons,List.zipIdx_nil,List.forIn_cons,List.forIn_nil];refine wpAny_bind (wpAny_bind (wpAny_onRaise ?_));show wpAny _ _ (Builtin.SmallTypes.nextOf (.ref i1) >>= _) _ _ _;refine wpAny_bind (zfj (h1.grow e1.extBut D.i1z) (hl1.grow e1.extBut D.l1z) hx fun g2 t1 e2=>wpAny_pure ?_);have p2:IsPair g2 TO a b:=e2.extBut _ _ D.TOi1 (e1.extBut _ _ D.TOz hTO);refine wpAny_bind (wpAny_seqItems p2 rfl (wpAny_bind (wpAny_updateSeq_pair p2 fun g3 p3 e3=>wpAny_bind (wpAny_letGo (wpAny_pure ?_)))))
 replace p3:IsPair g3 TO x b:=p3
 refine wpAny_bind (wpAny_bind (wpAny_onRaise ?_));show wpAny _ _ (Builtin.SmallTypes.nextOf (.ref i2) >>= _) _ _ _;refine wpAny_bind (zfj (((h2.grow e1.extBut D.i2z).grow e2.extBut D.i12.symm).grow e3.extBut D.TOi2.symm) (((hl2.grow e1.extBut D.l2z).grow e2.extBut D.l2i1).grow e3.extBut D.l2TO) hy fun g4 t2 e4=>wpAny_pure ?_);have p4:IsPair g4 TO x b:=e4.extBut _ _ D.TOi2 p3;refine wpAny_bind (wpAny_seqItems p4 rfl (wpAny_bind (wpAny_updateSeq_pair p4 fun g5 p5 e5=>wpAny_bind (wpAny_letGo (wpAny_pure (wpAny_pure ?_))))))
 replace p5:IsPair g5 TO x y:=p5
 refine wpAny_bind (wpAny_seqItems p5 rfl (wpAny_bind (wpAny_newTuple ?_)));have sz:g5.objs.size=s.heap.objs.size:=by rw[e5.1,e4.1,e3.1,e2.1,e1.1]
 have z5:IsZip g5 z TI TO .ellipsis:=e5.extBut _ _ D.TOz.symm (e4.extBut _ _ D.i2z.symm (e3.extBut _ _ D.TOz.symm (e2.extBut _ _ D.i1z.symm z1)));have k5:∀ c o,c≠z->c≠TO->c≠i1->c≠i2->s.heap.get? c=some o->g5.get? c=some o:=fun c o c1 c2 c3 c4 e=>e5.extBut _ _ c2 (e4.extBut _ _ c4 (e3.extBut _ _ c2 (e2.extBut _ _ c3 (e1.extBut _ _ c1 e))))
 have u1:zbl b1 g5 i1 l1 (k+1):=((t1.grow e3.extBut D.TOi1.symm).grow e4.extBut D.i12).grow e5.extBut D.TOi1.symm;have u2:zbl b2 g5 i2 l2 (k+1):=t2.grow e5.extBut D.TOi2.symm;have zl:z<g5.objs.size:=qo z5;show wpAny _ _ (Builtin.SmallTypes.ownedTupleHandOut (.ref z) (.ref g5.objs.size) >>= _) _ _ _;refine wpAny_bind ?_;unfold Builtin.SmallTypes.ownedTupleHandOut;have z6:IsZip (g5.push { cls:=.type "tuple",data:=.seq #[x,y] }) z TI TO .ellipsis:=qd _ z5;refine wpAny_bind (wpAny_setField_rec z6 (by simp) fun g7 z7 e7=>?_)
 replace z7:IsZip g7 z TI TO (rawInt g5.objs.size):=z7
 refine wpAny_setField_rec z7 (by simp) fun g8 z8 e8=>?_
 replace z8:IsZip g8 z TI TO (rawInt g5.objs.size):=z8
 have up:∀ c o,c≠z->g5.get? c=some o->g8.get? c=some o:=fun c o c1 e=>e8.extBut _ _ c1 (e7.extBut _ _ c1 (qd _ e))
 have t8:IsPair g8 g5.objs.size x y:=e8.extBut _ _ (qaj zl) (e7.extBut _ _ (qaj zl) (qp _ rfl));rw[sz]at z8 t8;refine wpAny_pure ⟨_,rfl,wpAny_pure ?_⟩;show Q (some (.ref g5.objs.size)) _;rw[sz];exact hQ g8 z8 (up _ _ D.TOz p5) (u1.at fun o e=>up _ o D.i1z e) (u2.at fun o e=>up _ o D.i2z e) t8 fun c o c1 c2 c3 c4 e=>up c o c1 (k5 c o c1 c2 c3 c4 e)
def zoO {b1 b2:Bool}{z TI TO i1 i2 l1 l2:Addr}{k:Nat}{xs ys:Array Value}{a b:Value}{Q:Option Value->Shared->Prop}(hh:A.handled=none)(D:ZipApart z TI TO i1 i2 l1 l2)
  (hz:IsZip s.heap z TI TO .none) (hTI:IsPair s.heap TI (.ref i1) (.ref i2)) (hTO:IsPair s.heap TO a b) (h1:zbl b1 s.heap i1 l1 k) (h2:zbl b2 s.heap i2 l2 k) (hl1:zbZ b1 s.heap l1 xs) (hl2:zbZ b2 s.heap l2 ys) (hend:xs[k]?=none\/ys[k]?=none)
  (hQ:∀ h',(∀ c o,c≠z->c≠TO->c≠i1->c≠i2->s.heap.get? c=some o->h'.get? c=some o)->Q none { s with heap:=h' }):wpAny (model prog w) A (pyNext (.ref z)) Q E s:=by
 have hT:s.TypeIs (.ref z) "zip":=⟨_,hz,rfl⟩
 unfold pyNext;refine wpAny_bind (wpAny_attempt (wpAny_callSpecial?_slot (name:=Str.ofString "__next__") hT F.slot_zip_next (wpAny_call_entry F.slot_zip_next hT F.entry_zip_next ?_ (F.args_zip_next_1 _))))
 have out:∀ h' e,(∀ c o,c≠z->c≠TO->c≠i1->c≠i2->s.heap.get? c=some o->h'.get? c=some o)->(∃ o,h'.get? e=some o/\o.cls=.type "StopIteration") ->
   wpAny (model prog w) A ((isInstance (.ref e) (.type "StopIteration")) >>= fun b=>if b=true then pure none else throw (.ref e)) Q E { s with heap:=h' }:=fun h' e hk he=>by
  obtain⟨o,ho,hc⟩:=he;exact wpAny_bind (wpAny_isInstance (T:="StopIteration") (b:=true) ⟨o,ho,hc⟩ isSubtype_stop (wpAny_pure (hQ _ hk)))
 show wpAny _ _ (field (.ref z) 2 >>= _) _ _ _;refine wpAny_bind (wpAny_field hz rfl (x:=.bool false) rfl ?_);show wpAny _ _ (field (.ref z) 3 >>= _) _ _ _;refine wpAny_bind (wpAny_field hz rfl (x:=.ref TI) rfl (wpAny_bind (wpAny_seqItems hTI rfl ?_)));show wpAny _ _ (Builtin.SmallTypes.ownedTupleIsFree (.ref z) >>= _) _ _ _;refine wpAny_bind ?_;unfold Builtin.SmallTypes.ownedTupleIsFree;refine wpAny_bind (wpAny_field hz rfl (x:=.none) rfl (wpAny_pure ?_));simp only[if_true];refine wpAny_bind (wpAny_rule (wpAny_bind (wpAny_field hz rfl (x:=.ref TO) rfl (wpAny_bind (wpAny_setField_rec hz (by simp) fun g1 z1 e1=>?_)))))
 replace z1:IsZip g1 z TI TO .ellipsis:=z1
 refine wpAny_bind ?_;simp only[List.zipIdx_cons,List.zipIdx_nil,List.forIn_cons,List.forIn_nil];refine wpAny_bind (wpAny_bind (wpAny_onRaise ?_));show wpAny _ _ (Builtin.SmallTypes.nextOf (.ref i1) >>= _) _ _ _;cases hx:xs[k]? with
 |none =>
  refine wpAny_bind (zjH hh (h1.grow e1.extBut D.i1z) (hl1.grow e1.extBut D.l1z) hx fun g2 e e2 ⟨oe,hoe,hce⟩=>?_);have z2:IsZip g2 z TI TO .ellipsis:=e2 _ _ D.i1z.symm z1;have ne:e≠z:=fun q=>by subst q;rw[z2]at hoe;cases hoe;simp at hce
  exact wpAny_setField_rec z2 (by simp) fun g3 _ e3=>out g3 e (fun c o c1 _ c3 _ q=>e3.extBut _ _ c1 (e2 _ _ c3 (e1.extBut _ _ c1 q))) ⟨oe,e3.extBut _ _ ne hoe,hce⟩
 |some x =>
  have hy:ys[k]?=none:=by rcases hend with h|h;rw[hx]at h;cases h;exact h
  refine wpAny_bind (zfj (h1.grow e1.extBut D.i1z) (hl1.grow e1.extBut D.l1z) hx fun g2 t1 e2=>wpAny_pure ?_);have p2:IsPair g2 TO a b:=e2.extBut _ _ D.TOi1 (e1.extBut _ _ D.TOz hTO);refine wpAny_bind (wpAny_seqItems p2 rfl (wpAny_bind (wpAny_updateSeq_pair p2 fun g3 p3 e3=>wpAny_bind (wpAny_letGo (wpAny_pure ?_)))));refine wpAny_bind (wpAny_bind (wpAny_onRaise ?_));show wpAny _ _ (Builtin.SmallTypes.nextOf (.ref i2) >>= _) _ _ _;refine wpAny_bind (zjH hh (((h2.grow e1.extBut D.i2z).grow e2.extBut D.i12.symm).grow e3.extBut D.TOi2.symm) (((hl2.grow e1.extBut D.l2z).grow e2.extBut D.l2i1).grow e3.extBut D.l2TO) hy fun g4 e e4 ⟨oe,hoe,hce⟩=>?_);have z4:IsZip g4 z TI TO .ellipsis:=e4 _ _ D.i2z.symm (e3.extBut _ _ D.TOz.symm (e2.extBut _ _ D.i1z.symm z1));have ne:e≠z:=fun q=>by subst q;rw[z4]at hoe;cases hoe;simp at hce
  exact wpAny_setField_rec z4 (by simp) fun g5 _ e5=>out g5 e (fun c o c1 c2 c3 c4 q=>e5.extBut _ _ c1 (e4 _ _ c4 (e3.extBut _ _ c2 (e2.extBut _ _ c3 (e1.extBut _ _ c1 q))))) ⟨oe,e5.extBut _ _ ne hoe,hce⟩
end
abbrev itN (b:Bool):String:=if b=true then "list_iterator" else "tuple_iterator"
abbrev zg1 (b:Bool)(h:Heap)(l:Addr):Heap:=h.push { cls:=.type (itN b),data:=.fields #[.ref l,.int 0 0] }
abbrev zg2 (b1 b2:Bool)(h:Heap)(l1 l2:Addr):Heap:=zg1 b2 (zg1 b1 h l1) l2
abbrev zg3 (b1 b2:Bool)(h:Heap)(l1 l2:Addr):Heap:=(zg2 b1 b2 h l1 l2).push { cls:=.type "tuple",data:=.seq #[.ref h.objs.size,.ref (zg1 b1 h l1).objs.size] }
abbrev zg4 (b1 b2:Bool)(h:Heap)(l1 l2:Addr):Heap:=(zg3 b1 b2 h l1 l2).push { cls:=.type "tuple",data:=.seq #[.none,.none] }
abbrev zg5 (b1 b2:Bool)(h:Heap)(l1 l2:Addr):Heap:=(zg4 b1 b2 h l1 l2).push { cls:=.type "zip",data:=.fields #[.none,.bool false,.bool false,.ref (zg2 b1 b2 h l1 l2).objs.size,.ref (zg3 b1 b2 h l1 l2).objs.size] }
theorem zbZ.push {b:Bool}{h:Heap}{l:Addr}{xs:Array Value}(x:zbZ b h l xs)(o:Obj):zbZ b (h.push o) l xs:=by
 cases b
 ·obtain⟨u,hu,r⟩:h.IsTuple l xs:=x;exact(⟨u,qd _ hu,r⟩:(h.push o).IsTuple l xs)
 ·obtain⟨u,hu,r⟩:h.IsList l xs:=x;exact(⟨u,qd _ hu,r⟩:(h.push o).IsList l xs)
def zxJ (b:Bool)(l1 l2:Addr)(xs ys:Array Value) :
  Meets (Builtin.«zip.__new__» ⟨[.type "zip",.ref l1,.ref l2],[]⟩) (fun _ R s=>zbZ b s.heap l1 xs/\zbZ b s.heap l2 ys/\R (.ok (.ret (.ref (zg4 b b s.heap l1 l2).objs.size))) { s with heap:=zg5 b b s.heap l1 l2 }):=by
 cases b
 ·exact .of_wp fun prog w A R s h=>by
   obtain⟨hp,g,d,tk,os⟩:=s;obtain⟨h1,h2,h⟩:=h;have hsub:=sub_zip;have q1:Heap.IsTuple (Shared.heap ⟨hp,g,d,tk,os⟩) l1 xs:=h1;have q2:Heap.IsTuple (Shared.heap ⟨hp.push { cls:=.type "tuple_iterator",data:=.fields #[.ref l1,.int 0 0] },g,d,tk,os⟩) l2 ys:=zbZ.push (b:=false) h2 _
   wp_walk using wpAny_pyIter_tuple q1,wpAny_pyIter_tuple q2
   exact⟨_,rfl,h⟩
 ·exact meets_zip_new l1 l2 xs ys
def zrD {b:Bool}{h:Heap}{it l:Addr}(e:h.get? it=some { cls:=.type (itN b),data:=.fields #[.ref l,.int 0 0] }):zbl b h it l 0:=by
 cases b
 ·exact(⟨_,e,rfl,rfl⟩:h.IsTupleIter it l 0)
 ·exact(⟨_,e,rfl,rfl⟩:h.IsListIter it l 0)
section
variable {prog:Program}{w:World}{A:Around}{E:Value->Shared->Prop}{s:Shared}
def zv9 {b:Bool}{l1 l2:Addr}{xs ys:Array Value}{Q:Value->Shared->Prop}(hl1:zbZ b s.heap l1 xs)(hl2:zbZ b s.heap l2 ys)
  (h:∀ h',IsZip h' (s.heap.objs.size+4) (s.heap.objs.size+2) (s.heap.objs.size+3) .none->IsPair h' (s.heap.objs.size+2) (.ref s.heap.objs.size) (.ref (s.heap.objs.size+1))->IsPair h' (s.heap.objs.size+3) .none .none->zbl b h' s.heap.objs.size l1 0->zbl b h' (s.heap.objs.size+1) l2 0 ->
   (∀ c o,s.heap.get? c=some o->h'.get? c=some o)->Q (.ref (s.heap.objs.size+4)) { s with heap:=h' }):wpAny (model prog w) A (call (.type "zip") [.ref l1,.ref l2]) Q E s:=by
 refine callType_new F.called_zip (by decide) (F.typeCall_zip_2 _ _) (F.newCall_zip_2 _ _) (fun obj=>F.args_object_init_3 obj _ _) F.entry_zip_new (zxJ b l1 l2 xs ys) ⟨hl1,hl2,?_⟩;have s1:(zg1 b s.heap l1).objs.size=s.heap.objs.size+1:=qY ..;have s2:(zg2 b b s.heap l1 l2).objs.size=s.heap.objs.size+2:=by rw[qY,s1]
 have s3:(zg3 b b s.heap l1 l2).objs.size=s.heap.objs.size+3:=by rw[qY,s2]
 have s4:(zg4 b b s.heap l1 l2).objs.size=s.heap.objs.size+4:=by rw[qY,s3]
 have v1:(zg5 b b s.heap l1 l2).get? s.heap.objs.size=some _:=(fun c o q=>qd _ (qd _ (qd _ (qd _ q))):∀ c o,(zg1 b s.heap l1).get? c=some o->(zg5 b b s.heap l1 l2).get? c=some o) _ _ (qp _ rfl);have v2:(zg5 b b s.heap l1 l2).get? (zg1 b s.heap l1).objs.size=some _:=(fun c o q=>qd _ (qd _ (qd _ q)):∀ c o,(zg2 b b s.heap l1 l2).get? c=some o->(zg5 b b s.heap l1 l2).get? c=some o) _ _ (qp _ rfl);have v3:(zg5 b b s.heap l1 l2).get? (zg2 b b s.heap l1 l2).objs.size=some _:=(fun c o q=>qd _ (qd _ q):∀ c o,(zg3 b b s.heap l1 l2).get? c=some o->(zg5 b b s.heap l1 l2).get? c=some o) _ _ (qp _ rfl);have v4:(zg5 b b s.heap l1 l2).get? (zg3 b b s.heap l1 l2).objs.size=some _:=qd _ (qp _ rfl);have v5:(zg5 b b s.heap l1 l2).get? (zg4 b b s.heap l1 l2).objs.size=some _:=qp _ rfl;show _/\_;rw[s2,s3,s4]at v5;rw[s1,s2]at v3;rw[s3]at v4;rw[s1]at v2;rw[s4];exact⟨⟨_,v5,rfl⟩,h _ v5 v3 v4 (zrD v1) (zrD v2) fun c o x=>qd _ (qd _ (qd _ (qd _ (qd _ x))))⟩
end
def SqB (K:PySem.W.Frag)(b:Bool)(H:Hp)(l:Addr)(xs:List V):Prop:=match b with
 |true=>SqL K H l xs
 |false=>SqT K H l xs
def SqB.items {X:Cx}{pins:List (Addr×Obj)}{U:L2.St}{H:Hp}{s:Shared}{b:Bool}{l:Addr}{xs:List V}(I:Inv X pins U H s)(h:SqB X.K b H l xs):∃ its:List Value,Vals xs its/\zbZ b s.heap l its.toArray:=by
 cases b
 ·obtain⟨its,r,p,_⟩:=I.tuple (show SqT X.K H l xs from h);exact⟨its,r,p⟩
 ·obtain⟨its,r,p,_⟩:=I.list (show SqL X.K H l xs from h);exact⟨its,r,p.isList⟩
def SqB.inj {X:Cx}{pins:List (Addr×Obj)}{U:L2.St}{H:Hp}{s:Shared}{b:Bool}{l:Addr}{xs ys:List V}(I:Inv X pins U H s)(h:SqB X.K b H l xs)(h':SqB X.K b H l ys):xs=ys:=by
 cases b
 ·exact I.tuple_inj (show SqT X.K H l xs from h) h'
 ·exact I.list_inj (show SqL X.K H l xs from h) h'
def znm (K:PySem.W.Frag)(b1 b2:Bool)(l1 l2:Addr):It :=
  ⟨fun i H=>∃ xs ys x y,SqB K b1 H l1 xs/\SqB K b2 H l2 ys/\xs[i]?=some x/\ys[i]?=some y,
   fun i H v H'=>∃ p,v=.ref p/\H p=none/\∀ xs ys x y,SqB K b1 H l1 xs->SqB K b2 H l2 ys->xs[i]?=some x->ys[i]?=some y->H'=upd H p (.tup [x,y]),
   fun i H=>∃ xs ys,SqB K b1 H l1 xs/\SqB K b2 H l2 ys/\(xs.length<=i\/ys.length<=i)⟩
def znO {P:Program}{w:World}{K:PySem.W.Frag}{es:List Expr}{kk:Nat}{pos:Pos}{b1 b2:Bool}{z TI TO i1 i2 l1 l2:Addr}(D:ZipApart z TI TO i1 i2 l1 l2) :
  Turn P w K (.Tuple es kk pos) (znm K b1 b2 l1 l2) [z,TI,TO,i1,i2] z (fun i h=>IsZip h z TI TO .none/\IsPair h TI (.ref i1) (.ref i2)/\(∃ a b,IsPair h TO a b)/\zbl b1 h i1 l1 i/\zbl b2 h i2 l2 i) where
 mem:=by simp
 obj:=fun i h st b hb=>by
  obtain⟨hz,hTI,⟨a,c,hTO⟩,q1,q2⟩:=st;obtain⟨o1,g1,_,_,d1⟩:=q1.obj;obtain⟨o2,g2,_,_,d2⟩:=q2.obj;simp only[qg,qB,or_false]at hb;rcases hb with rfl|rfl|rfl|rfl|rfl
  ·exact⟨_,hz,fun v q=>by cases(show Data.fields _=Data.cell v from q)⟩
  ·exact⟨_,hTI,fun v q=>by cases(show Data.seq _ _=Data.cell v from q)⟩
  ·exact⟨_,hTO,fun v q=>by cases(show Data.seq _ _=Data.cell v from q)⟩
  ·exact⟨_,g1,fun v q=>by rw[d1]at q;cases q⟩
  ·exact⟨_,g2,fun v q=>by rw[d2]at q;cases q⟩
 keep:=fun i h h' st k=>by
  obtain⟨hz,hTI,⟨a,c,hTO⟩,q1,q2⟩:=st;exact⟨k z (by simp) _ hz,k TI (by simp) _ hTI,⟨a,c,k TO (by simp) _ hTO⟩,q1.at fun o e=>k i1 (by simp) o e,q2.at fun o e=>k i2 (by simp) o e⟩
 item:=by
  intro X hP hw hK hc i pins s U H E I hf st hg;subst hP hw hK;obtain⟨hz,hTI,⟨a,c,hTO⟩,q1,q2⟩:=st;obtain⟨xs,ys,x,y,hx1,hy1,hx,hy⟩:=hg;obtain⟨its,rx,px⟩:=hx1.items I;obtain⟨jts,ry,py⟩:=hy1.items I;obtain⟨u,hu,ru⟩:=Vals.get rx hx;obtain⟨v,hv,rv⟩:=Vals.get ry hy;refine zmZ D hz hTI hTO q1 q2 px py (by simpa using hu) (by simpa using hv) fun h' a1 a2 a3 a4 a5 hk=>?_
  refine⟨_,rfl,wpAny_letOwnedTupleGo_zip a1 fun h'' hz'' hs''=>?_⟩;have lt:∀ {c o},s.heap.get? c=some o->s.heap.objs.size≠c:=fun e=>qaj (qo e)
  have k2:∀ b u,b∉[z,TI,TO,i1,i2]->s.heap.get? b=some u->h''.get? b=some u:=fun b u hb e=>by
   simp only[qg,qB,or_false,not_or]at hb;exact hs''.extBut b u hb.1 (hk b u hb.1 hb.2.2.1 hb.2.2.2.1 hb.2.2.2.2 e)
  have new:h''.get? s.heap.objs.size=some { cls:=.type "tuple",data:=.seq #[u,v] }:=hs''.extBut _ _ (lt hz) a5;refine⟨.ref s.heap.objs.size,upd H s.heap.objs.size (.tup [x,y]),I.turnNew (t':=s.toks) hf k2 (qe _) ⟨by show 2<=sizeLine;decide,[u,v],.cons ru (.cons rv .nil),_,new,rfl,_,rfl⟩,rfl,⟨_,rfl,I.fresh,?_⟩,?_,fun b hb=>?_⟩
  ·intro xs' ys' x' y' hx1' hy1' hx' hy';cases hx1.inj I hx1';cases hy1.inj I hy1';rw[hx]at hx';rw[hy]at hy';cases hx';cases hy';rfl
  ·exact⟨hz'',hs''.extBut _ _ D.TIz (hk _ _ D.TIz D.TITO D.TIi1 D.TIi2 hTI),⟨_,_,hs''.extBut _ _ D.TOz a2⟩,a3.grow hs''.extBut D.i1z,a4.grow hs''.extBut D.i2z⟩
  ·have:∃ o,s.heap.get? b=some o:=by
    simp only[qg,qB,or_false]at hb;obtain⟨o1,e1,_⟩:=q1.obj;obtain⟨o2,e2,_⟩:=q2.obj;rcases hb with rfl|rfl|rfl|rfl|rfl
    ·exact⟨_,hz⟩
    ·exact⟨_,hTI⟩
    ·exact⟨_,hTO⟩
    ·exact⟨_,e1⟩
    ·exact⟨_,e2⟩
   obtain⟨o,e⟩:=this;rw[zL (lt e).symm];exact(hf b hb).1
 done:=by
  intro X hP hw hK hc i pins s U H E I hf st hg;subst hP hw hK;obtain⟨hz,hTI,⟨a,c,hTO⟩,q1,q2⟩:=st;obtain⟨xs,ys,hx1,hy1,hl⟩:=hg;obtain⟨its,rx,px⟩:=hx1.items I;obtain⟨jts,ry,py⟩:=hy1.items I;have n1:=rx.length;have n2:=ry.length;refine zoO (I.ok.hd hc) D hz hTI hTO q1 q2 px py ?_ fun h' hk=>⟨rfl,I.turnedL (t':=s.toks) hf fun b u hb e=>?_⟩
  ·rcases hl with hl|hl
   ·exact .inl (by rw[List.getElem?_toArray];exact qE (by lia))
   ·exact .inr (by rw[List.getElem?_toArray];exact qE (by lia))
  ·simp only[qg,qB,or_false,not_or]at hb;exact hk b u hb.1 hb.2.2.1 hb.2.2.2.1 hb.2.2.2.2 e
 self:=fun _ _ _ _ _ st h=>wpAny_pyIter_zip st.1 h
section
variable {X:Cx}
def zxo (K:PySem.W.Frag)(ta:TA):TI:=fun U H R=>ta U H fun vs H1=>∃ b l1 l2,vs=[.ref l1,.ref l2]/\(∃ xs,SqB K b H1 l1 xs)/\(∃ ys,SqB K b H1 l2 ys)/\R (znm K b b l1 l2) H1
def ztE {es:List Expr}{kk:Nat}{tpos:Pos}{a b:Expr}{ta:TA}{p pos:Pos}(hg:Gl X "zip")(hm:X.mg "zip"=none)(ha:PA X [a,b] ta)(hs:starEach [a,b] X.env=[(false,eval a X.env),(false,eval b X.env)]:=by rfl)(hs2:starEach [b] X.env=[(false,eval b X.env)]:=by rfl) :
    PI X (.Tuple es kk tpos) (.Call (.Name "zip" p) [a,b] [] pos) (zxo X.K ta):=by
  intro pins s U H R I h;refine Call_ (zbY I hg hm boot_zip (PyProof.Rows.callWith_type1 (thn (ha pos pins s U H _ I h) fun us s1 ⟨vs,H1,I1,r1,q1⟩=>?_) (by rw[hs,hs2]) (by rw[hs2];rfl)));obtain⟨b',l1,l2,e,⟨xs,hx⟩,⟨ys,hy⟩,q⟩:=q1;subst e;obtain⟨u,v,rfl,ru,rv⟩:=vals2 r1;cases ru;cases rv;obtain⟨its,rx,px⟩:=hx.items I1;obtain⟨jts,ry,py⟩:=hy.items I1;refine zv9 px py fun h' hz hTI hTO h1 h2 hk=>?_
  have I2:Inv X pins U H1 { s1 with heap:=h' }:=I1.kept (t':=s1.toks) hk;refine wpAny_pyIter_zip (s:={ s1 with heap:=h' }) hz ⟨_,_,_,_,H1,rfl,I2,znO (PyProof.Rows.zipApart_new px.lt py.lt),⟨hz,hTI,⟨_,_,hTO⟩,h1,h2⟩,fun b hb=>?_,q⟩
  have hb':s1.heap.objs.size<=b:=by
    simp only[qg,qB,or_false]at hb;rcases hb with rfl|rfl|rfl|rfl|rfl<;>first|exact Nat.le_add_right _ _|exact qe _
  exact I1.fpOk hb' (I1.hok.fresh hb')
end
section
def zx7 (l:Addr)(items:Array Value)(n:Nat)(b:Addr)(items2:Array Value)(n2:Nat)(dct:Option Addr)(sl:Array (Option Value))(hs0:¬(!items.isEmpty&&Builtin.List.listTooLong (items.size+items2.size))=true)(hs1:items.size<=sizeLine)(hs2:items.size+items2.size<=sizeLine+1) :
  Meets (Builtin.«list.extend» ⟨[.ref l,.ref b],[]⟩) (fun _ R s=>s.heap.get? l=some { cls:=.type "list",dict:=none,data:=.seq items n,slots:=#[] }/\s.heap.get? b=some { cls:=.type "tuple",dict:=dct,data:=.seq items2 n2,slots:=sl }/\R (.ok (.ret Value.none)) { s with heap:=s.heap.update l (Obj.mapSeq fun x=>x++items2),toks:=s.toks }) :=
 .of_wp fun prog w A R s h=>by
  obtain⟨hp,g,d,tk,os⟩:=s;obtain⟨hl,hb,h⟩:=h;have f1:=AutoSeq1.idx_int;have f2:=AutoSeq1.sub_tuple_tuple;have f3:=AutoSeq1.sub_list_list;have f4:=AutoSeq1.sub_tuple_list;have f5:=AutoSeq1.sub_list_tuple;have hz':(items++items2).size<=sizeLine+1:=by rw[Array.size_append];exact hs2
  wp_walk using (wpAny_updateSeq hl rfl (hz:=hs1) (_hz':=hz')),wpAny_loadPart' hl,wpAny_loadPart' hb
  exact⟨_,rfl,h⟩
end
section
variable {X:Cx}
def zpJ (K:PySem.W.Frag):V->List V->Hp->VK->Prop:=fun x vs H Q=>zmp x vs H Q\/∃ l b xs zs,x=.ref l/\vs=[.ref b]/\H l=some (.lst xs)/\SqT K H b zs/\xs.length+zs.length<=sizeLine/\Q .non (upd H l (.lst (xs++zs)))
def znu:MtM X "list.extend" (zpJ X.K):=by
 intro pins s U H x vs v us Q I rx rv h;rcases h with h|⟨l,b,xs,zs,rfl,rfl,hH,hB,hz,q⟩
 ·exact zo6 pins s U H x vs v us Q I rx rv h
 cases rx;obtain⟨u,rfl,ru⟩:=rv.one;cases ru;obtain⟨z,its,n,r,hl,e⟩:=I.lstM hH;obtain⟨its2,r2,⟨⟨c,dct,dt,sl⟩,e2,hc,n2,hd⟩,z2⟩:=I.tuple hB
 replace hc:c=.type "tuple":=hc
 replace hd:dt=.seq its2.toArray n2:=hd
 subst hc hd;have hl2:=r2.length;have hsz:its.toArray.size+its2.toArray.size<=sizeLine:=by rw[qm,qm];lia
 have hlong:¬ (!its.toArray.isEmpty&&Builtin.List.listTooLong (its.toArray.size+its2.toArray.size))=true:=by
  rw[zlq hsz,Bool.and_false];exact qv
 refine call_meets F.slot_list_extend ⟨_,e,rfl⟩ F.entry_list_extend (F.args_list_extend_2 _ _)
  (zx7 l its.toArray n b its2.toArray n2 dct sl hlong (by rw[qm];lia) (by lia)) ⟨e,e2,?_⟩
 refine⟨.non,_,I.lset (its':=its++its2) hH e (by simp) (r.append r2) ?_,rfl,q⟩;rw[qi];lia
end
section
variable {prog:Program}{w:World}{A:Around}{E:Value->Shared->Prop}{s:Shared}
end
section
variable {X:Cx}
end
theorem zsI {prog:Program}{w:World}{A:Around}{E:Value->Shared->Prop}{s:Shared}{id:String}{b:Builtin}{args:List Value}{kw:List (Str×Value)}{Q:Value->Shared->Prop}(hk:builtinKind id=none)(hp:plainId id=true)
  (hb:entryFor table id=some b) (ha:argsOk id ⟨args,kw⟩)
  (hc:wpAny (model prog w) A.in1 (b ⟨args,kw⟩) (fun fin s'=>match fin with
   |.done f=>(match (Except.ok f:Result)with|.ok (.ret v)=>Q v s'|.ok _=>False|.error e=>E e s')
   |.again c'=>c'.quiet=true/\codeAny (model prog w) A c' (fun r s'=>match r with|.ok (.ret v)=>Q v s'|.ok _=>False|.error e=>E e s') s') E s) :
  wpAny (model prog w) A (call (.builtin id) args kw) Q E s:=by
 refine wpAny_call (codeAny_call_builtin hp hb ?_);simp only[checkBuiltinCall,hk];cases hsig:Manifest.signature? id with
 |none=>exact wpAny_pure hc
 |some sig =>
  have h2:Bind.checkArgs id sig ⟨args,kw⟩=pure ():=by simpa only[argsOk,hsig]using ha
  simp only[h2];exact wpAny_pure hc
section
variable {X:Cx}
end
section
variable {X:Cx}
end
section
variable {prog:Program}{w:World}{A:Around}{E:Value->Shared->Prop}{s:Shared}
end
section
variable {prog:Program}{w:World}{A:Around}{E:Value->Shared->Prop}{s:Shared}
end
section
variable {prog:Program}{w:World}{A:Around}{E:Value->Shared->Prop}{s:Shared}
end
section
variable {prog:Program}{w:World}{A:Around}{s:Shared}
abbrev zfq (prog:Program)(w:World)(h:Heap)(a:Addr)(c:List Str):Prop:=h.SetOf (PySem.strKind prog w) a (fun y=>c.any (·==y)) c.length
def zfq.at {h h':Heap}{a:Addr}{c:List Str}(x:zfq prog w h a c)(k:∀ o,h.get? a=some o->h'.get? a=some o):zfq prog w h' a c :=
 let ⟨o,es,ep,t,ho,r⟩:=x;⟨o,es,ep,t,k o ho,r⟩
theorem loopS {R:Result->Shared->Prop}{it a:Addr}{fp wr:List Addr}{G:Array GenState->Array GenState->Prop}{n:Nat}{P:Nat->Value->Prop}{St:Nat->Shared->Prop}
  (W:WalksS prog w A.in1 it fp wr G n P St) (na:a∉fp) (f:Nat->Str) (hf:∀ i v,P i v->∃ t,v=.str (f i) t) (hb:n+1<scanBound) :
  ∀ (k i:Nat) (s:Shared),n-i=k->i<=n->St i s->zfq prog w s.heap a (Dp.zcj f i) ->
   (∀ s',Moved (a::wr) G s s'->zfq prog w s'.heap a (Dp.zcj f n)->R (.ok (.ret .none)) s') ->
   codeAny (model prog w) A (.builtin "set.update.loop" ⟨[.ref a,.ref it],[]⟩) R s
 |0,i,s,hk,hi,st,hS,hR=>by
  have e:i=n:=by lia
  subst e;refine codeAny_builtin PyProof.Rows.F.entry_set_update_loop ?_;rw[Around.under_plainId PyProof.Rows.F.plain_set_update_loop];show wpAny _ A.in1 (pyNext (.ref it) >>= _) _ _ _;refine wpAny_bind (W.done s _ _ st fun s' m=>wpAny_pure (hR s' (m.mono fun b q=>qq _ q) ?_));exact hS.at fun o q=>m.heap a o (fun z=>na (W.sub _ z)) q
 |k+1,i,s,hk,hi,st,hS,hR=>by
  refine codeAny_builtin PyProof.Rows.F.entry_set_update_loop ?_;rw[Around.under_plainId PyProof.Rows.F.plain_set_update_loop];show wpAny _ A.in1 (pyNext (.ref it) >>= _) _ _ _;refine wpAny_bind (W.item i s _ _ (by lia) st fun v s1 pv st1 m=>?_);obtain⟨t,rfl⟩:=hf i v pv;have h1:zfq prog w s1.heap a (Dp.zcj f i):=hS.at fun o q=>m.heap a o (fun z=>na (W.sub _ z)) q
  show wpAny _ A.in1 (holding [Value.str (f i) t] (setAdd a (Value.str (f i) t)) >>= _) _ _ _;refine wpAny_bind (wpAny_holding ?_);unfold setAdd;refine wpAny_holding (wpAny_bind ((PySem.strKind prog w).pyHash (k:=f i) (strKind_is _ _ _ _) ?_));have room:(Dp.zcj f i).length+1<scanBound:=by have:=Dp.zi1 f i;lia
  refine wpAny_setAddHashed_of (knd:=PySem.strKind prog w) (s:={ s1 with toks:=s1.toks+1 }) (strKind_is _ _ _ _) rfl h1 room fun h2 sb hS2=>?_
  have h3:zfq prog w h2 a (Dp.zcj f (i+1)):=SetOf_congr hS2 (fun y=>(Dp.zkD _ _ _).symm) (Dp.zhR _ _).symm;refine wpAny_pure ⟨plainId_quiet PyProof.Rows.F.plain_set_update_loop _,loopS W na f hf hb k (i+1) _ (by lia) (by lia) (W.frame _ s1 _ _ st1 (Nat.le_succ _) fun b q o e=>?_) h3 fun s' m' hS'=>?_⟩
  ·exact(sb.2 b fun z=>na (z▸q)).trans e
  ·refine hR s' (Moved.trans W.gtrans ((m.mono fun b q=>qq _ q).then_heap (Nat.le_succ _) fun b o q e=>?_) m') hS';exact(sb.2 b fun z=>q (z▸List.mem_cons_self)).trans e
end
section
variable {prog:Program}{w:World}{A:Around}{E:Value->Shared->Prop}{s:Shared}
abbrev zfT (led:Bool):Obj:={ cls:=.type "set",dict:=none,data:=.set #[] 0 (.fresh 0 0 led) }
def zoF {l:Addr}{its:Array Value}(f:Nat->Str){Q:Value->Shared->Prop}(hh:A.handled=none)(hl:s.heap.IsList l its)(hf:∀ (i:Nat) v,its[i]?=some v->∃ t,v=.str (f i) t)(hb:its.size+1<scanBound)
    (h:∀ (h':Heap) (tk:Nat),zfq prog w h' s.heap.objs.size (Dp.zcj f its.size)->(∀ b o,b<s.heap.objs.size->s.heap.get? b=some o->h'.get? b=some o)->Q (.ref s.heap.objs.size) { s with heap:=h',toks:=tk }) :
    wpAny (model prog w) A (call (.type "set") [.ref l]) Q E s:=by
  have ft:=F.called_set;obtain⟨c,tl,hmro⟩:=ft.mro;have hmade:=ft.made;have hsub:=ft.sub;have h1:=ft.notType;have h2:=ft.canCreate;have hct:=F.typeCall_set_1 (.ref l);refine wpAny_call (codeAny_of_tree ?_);show wpAny _ _ (callAny (.type "set") _) _ _ s;refine wpAny_pure ⟨Code.quiet_builtin _ (by decide +kernel),codeAny_builtin F.entry_type_call ?_⟩;rw[Around.under_plain (weight_type_call_type "set" [Value.ref l] []) rfl]
  repeat (any_goals (first|assumption|wp_step))
  refine codeAny_mono (code_set_new_1 (.ref l) (E:=E) (Q₁:=fun v s1=>∃ led:Bool,v=.ref s.heap.objs.size/\s1={ s with heap:=s.heap.push (zfT led) }) fun led=>⟨led,rfl,rfl⟩) fun r s1 hr=>?_
  cases r with
  |error e=>exact hr
  |ok fl =>
    cases fl with
    |ret v =>
      obtain⟨led,rfl,rfl⟩:=hr;have e0:(s.heap.push (zfT led)).get? s.heap.objs.size=some (zfT led):=qp _ rfl;have hT:Shared.TypeIs { s with heap:=s.heap.push (zfT led) } (.ref s.heap.objs.size) "set":=⟨_,e0,rfl⟩
      have hli:=ft.init.lookup;have hbi:=ft.init.bind (.ref s.heap.objs.size)
      repeat (any_goals (first|assumption|wp_step))
      refine codeAny_mono (codeAny_call_builtin (R:=wants (fun r s2=>r=.none/\∃ h' tk,s2={ s with heap:=h',toks:=tk }/\zfq prog w h' s.heap.objs.size (Dp.zcj f its.size)/\∀ b o,b<s.heap.objs.size->s.heap.get? b=some o->h'.get? b=some o) E) ft.init.plain F.entry_set_init (check_set_init_1 hT ?_)) fun r2 s2 hr2=>?_
      . obtain⟨ol,hol,hcl,nl,hdl⟩:=hl;obtain⟨ocl,odi,oda,osl⟩:=ol;simp only at hcl hdl;subst hcl hdl;have hol2:(s.heap.push (zfT led)).get? l=some { cls:=.type "list",dict:=odi,data:=.seq its nl,slots:=osl }:=qd _ hol;have k1:=F.sub_list_set;have k2:=F.sub_list_frozenset;have k3:(Value.type "list"==Value.type "dict")=false:=by decide
        have hl1:(s.heap.push (zfT led)).IsList l its:=⟨_,hol2,rfl,nl,rfl⟩
        unfold Builtin.«set.__init__» noKeywords Builtin.Frozenset.updateFrom;generalize hPI:pyIter=PI
        wp_walk
        subst hPI;refine wpAny_pyIter_list hl1 (wpAny_bind (wpAny_runValue ?_));have ll:l<s.heap.objs.size:=qo hol;have n1:l≠(s.heap.push (zfT led)).objs.size:=by rw[qY];exact qC (Nat.lt_succ_of_lt ll)
        have n2:s.heap.objs.size∉[(s.heap.push (zfT led)).objs.size,l]:=by
          rw[qY];intro z;rcases qg.mp z with z|z
          . exact qC (Nat.lt_succ_self _) z
          . exact qaj ll (List.mem_singleton.mp z)
        refine loopS ((Walks.list (show _=none by simp[hh]) _ l n1 its).toS) n2 f hf hb (its.size-0) 0 _ (by lia) (qP _) ⟨⟨_,qp _ rfl,rfl,rfl⟩,hl1.push _⟩ ?_ fun s' m hS'=>?_
        . exact SetOf_congr ((setObjOf_fresh (knd:=PySem.strKind prog w) led).setOf (qd _ e0) (by unfold scanBound;lia)) (fun _=>rfl) rfl
        . obtain⟨h',g',d',tk',os'⟩:=s';cases(show g'=s.gens from m.gens);cases(show d'=s.drawn from m.drawn);cases(show os'=s.os from m.os);show wpAny _ _ _ _ _ _;refine wpAny_pure (wpAny_pure ⟨rfl,h',tk',rfl,hS',fun b o q e=>?_⟩);refine m.heap b o (fun z=>?_) (qd _ (qd _ e));rcases qg.mp z with z|z
          . exact qC q z
          . have z':=List.mem_singleton.mp z;rw[qY]at z';exact qC (Nat.lt_succ_of_lt q) z'
      . cases r2 with
        |error e=>exact hr2
        |ok fl2 =>
          cases fl2 with
          |ret r =>
            obtain⟨rfl,h',tk,rfl,hS',kp⟩:=hr2
            repeat (any_goals (first|assumption|wp_step))
            exact h _ _ hS' kp
          |_=>exact hr2.elim
    |_=>exact hr.elim
end
def zw5 (K:PySem.W.Frag)(ta:TA):TE:=fun U H Q=>ta U H fun vs H1=>∃ l,∃ zs:List Str,vs=[.ref l]/\SqL K H1 l (zs.map V.str)/\zs.length<=4000/\Q (.int (Dp.zcj (fun i=>zs.getD i Str.empty) zs.length).length) H1
theorem zlt:∀ {zs:List Str} {us:List Value},Vals (zs.map V.str) us->∀ (i:Nat) v,us[i]?=some v->∃ t,v=.str (zs.getD i Str.empty) t
 |[],_,.nil,i,v,e=>by simp at e
 |z::zs,_,.cons r t,0,v,e=>by
  obtain⟨t,rfl⟩:=r;simp at e;exact⟨t,e.symm⟩
 |z::zs,_,.cons r t,i+1,v,e=>by
  obtain⟨t,h⟩:=zlt t i v (by simpa using e);exact⟨t,by rw[h];simp⟩
def ztk {X:Cx}{a:Expr}{ta:TA}{p1 p2 pos1 pos2:Pos}(hc:X.calm=true)(hgl:Gl X "len")(hml:X.mg "len"=none)(hgr:Gl X "set")(hmr:X.mg "set"=none)(ha:PA X [a] ta)
  (hs:starEach [a] X.env=[(false,eval a X.env)]:=by rfl)
  (hs3:starEach [.Call (.Name "set" p2) [a] [] pos2] X.env=[(false,eval (.Call (.Name "set" p2) [a] [] pos2) X.env)]:=by rfl) :
  PE X (.Call (.Name "len" p1) [.Call (.Name "set" p2) [a] [] pos2] [] pos1) (zw5 X.K ta):=by
 intro pins s U H Q I h;refine Call_ (zbY I hgl hml boot_len (PyProof.Rows.callWith_builtin1 ?_ (by rw[hs3];rfl) (by rfl)));rw[hs3];show wpAny _ _ (spliced ((false,eval (.Call (.Name "set" p2) [a] [] pos2) X.env)::backTo pos1 [])) _ _ s;refine Calls.spliced_cons (Call_ (zbY I hgr hmr boot_set (PyProof.Rows.callWith_type1 (thn (ha pos2 pins s U H _ I h) fun us s1 ⟨vs,H1,I1,r1,q1⟩=>?_) hs rfl)));obtain⟨l,zs,e,hx,h4,q⟩:=q1;subst e;obtain⟨u,rfl,ru⟩:=vals1 r1;cases ru;obtain⟨its,rx,px,zx⟩:=I1.list hx;have sz:its.toArray.size=zs.length:=by rw[qm,<- rx.length,qb]
 refine zoF (fun i=>zs.getD i Str.empty) (show _=none from I1.ok.hd hc) px.isList (fun i v e=>zlt rx i v (by simpa using e)) (by rw[sz];unfold scanBound;lia) fun h' tk hS kp=>Calls.spliced_nil ?_
 rw[sz]at hS;have le:=Dp.zi1 (fun i=>zs.getD i Str.empty) zs.length;obtain⟨o,es,ep,t,ho,hex,hd,_,_,_,hf,hn⟩:=hS;refine call_len_set ho hex hd hf (by lia) ?_;rw[hn];exact⟨.int _,H1,I1.kept (t':=tk+1+1) (fun b o q=>kp b o (qo q) q),⟨_,rfl⟩,q⟩
structure Loose (X:Cx)(pins:List (Addr×Obj))(H:Hp)(a:Addr):Prop where
 hn:H a=none
 hl:a≠X.env.locals
 h0:X.s₀.heap.objs.size<=a
 hc:∀ x c,X.env.cells.lookup x=some c->c≠a
 hp:∀ p∈X.pn++pins,p.1≠a
 hf:a∉frs X.stack
section
variable {X:Cx}{pins:List (Addr×Obj)}{U:L2.St}{H H':Hp}{s:Shared}{a:Addr}
theorem Loose.fresh (I:Inv X pins U H s)(h:s.heap.objs.size<=a):Loose X pins H a where
 hn:=I.hok.fresh h
 hl:=qaj (qr I.lt h)
 h0:=qR I.sz h
 hc:=fun x c e z=>by
  obtain⟨v,o,ho,_⟩:=I.cell x c e;exact absurd (qr (qo ho) h) (by rw[z];exact qV _)
 hp:=fun p hp z=>by
  have:=qo (I.pin p hp).1;rw[z]at this;exact absurd (qr this h) (qV _)
 hf:=fun m=>by
  rcases qg.mp (I.stkSub a m)with z|z
  ·exact absurd (qr I.lt h) (by rw[z];exact qV _)
  ·exact I.nofs h z
def Loose.un {h h':Heap}{o:Obj}(l:Loose X pins H a)(u:Un (frs X.stack) [] H H' h h')(e:h.get? a=some o):Loose X pins H' a/\h'.get? a=some o :=
 ⟨⟨u.free a o e l.hn (by simp),l.hl,l.h0,l.hc,l.hp,l.hf⟩,u.keep a o e l.hn l.hf (by simp)⟩
def Loose.turn {h':Heap}{t':Nat}(l:Loose X pins H a)(I:Inv X pins U H s)(k:∀ b o,b≠a->s.heap.get? b=some o->h'.get? b=some o):Inv X pins U H { s with heap:=h',toks:=t' } :=
 I.turned k l.hn l.hl (.inr l.h0) l.hc l.hp
end
def mL:Bool->String
 | false=>"min.loop"
 | true=>"max.loop"
def mN:Bool->String
 | false=>"min"
 | true=>"max"
def mO:Bool->CmpOp
 |false=>.Lt
 |true=>.Gt
theorem zcF:∀ mx,plainId (mL mx)=true
 |false=>PySem.F.plain_min_loop
 |true=>PySem.F.plain_max_loop
def mB:Bool->Builtin
 |false=>Builtin.«min.loop»
 |true=>Builtin.«max.loop»
theorem zhP:∀ mx,entryFor table (mL mx)=some (mB mx)
 |false=>PySem.F.entry_min_loop
 |true=>PySem.F.entry_max_loop
def mF:Bool->Builtin
 |false=>Builtin.«min»
 |true=>Builtin.«max»
theorem zsq:∀ mx,builtinKind (mN mx)=none
 |false=>F.kind_min
 |true=>F.kind_max
theorem zqq:∀ mx,plainId (mN mx)=true
 |false=>F.plain_min
 |true=>F.plain_max
theorem zqV:∀ mx,entryFor table (mN mx)=some (mF mx)
 |false=>F.entry_min
 |true=>F.entry_max
def ziz:(toString "min"++toString ".loop":String)=mL false:=by decide
def ziy:(toString "max"++toString ".loop":String)=mL true:=by decide
def zvx {prog:Program}{w:World}{A:Around}(mx:Bool)(kf:Nat->Int):CmpOf prog w A (mO mx) (fun i v=>∃ t,v=.int (kf i) t) (fun i j=>decide (Dp.sgB mx (kf i)<Dp.sgB mx (kf j))):=by
 cases mx with
 |false=>exact CmpOf.ints_lt kf fun i v h=>h
 |true =>
  have h:=CmpOf.ints_gt (prog:=prog) (w:=w) (A:=A) (P:=fun i v=>∃ t,v=.int (kf i) t) kf fun i v h=>h
  have e:(fun i j=>decide (Dp.sgB true (kf i)<Dp.sgB true (kf j)))=fun i j=>decide (kf i > kf j):=by
   funext i j;exact decide_eq_decide.mpr (by show -kf i < -kf j↔_;lia)
  rw[e];exact h
section
variable {X:Cx}{pins:List (Addr×Obj)}{U:L2.St}{R:Result->Shared->Prop}{G:Hp->Prop}{l q I S:Addr}{oq:Obj}{vs:List Value}
def zi9 (X:Cx)(pins:List (Addr×Obj))(U:L2.St)(G:Hp->Prop)(q:Addr)(oq:Obj)(v:Value)(k:Int):Prop :=
 ∀ (s:Shared) (H:Hp),Inv X pins U H s->G H->Loose X pins H q->s.heap.get? q=some oq ->
  wpAny (model X.prog X.w) X.A.in1 (call (.ref q) [v]) (fun u s'=>∃ H' t,u=.int k t/\Inv X pins U H' s'/\G H'/\Un (frs X.stack) [] H H' s.heap s'.heap) (fun _ _=>False) s
def zpw (mx:Bool)(kf:Nat->Int)(hh:X.A.handled=none)(hlI:l≠I)(hSI:S≠I)(hlS:l≠S)(hqI:q≠I)(hqS:q≠S)
  (turn:∀ (i:Nat) (v:Value),vs[i]?=some v->zi9 X pins U G q oq v (kf i))
  (hR:∀ i v s' H',vs[i]?=some v->(∀ j,j<vs.length->Dp.sgB mx (kf i)<=Dp.sgB mx (kf j)/\(j<i->Dp.sgB mx (kf i)<Dp.sgB mx (kf j)))->Inv X pins U H' s'->G H'->R (.ok (.ret v)) s') :
  ∀ (r j i:Nat) (s:Shared) (H:Hp) (vb:Value) (tb:Tok) (c:Nat),vs.length-(j+1)=r->j+1<=vs.length->Inv X pins U H s->G H ->
   Loose X pins H I->Loose X pins H S->Loose X pins H l->Loose X pins H q->s.heap.get? q=some oq ->
   s.heap.get? S=some { cls:=.type "list",data:=.seq #[vb,.int (kf i) tb] c }->s.heap.IsListIter I l (j+1)->s.heap.IsList l vs.toArray->vs[i]?=some vb->i<=j->(∀ j',j'<=j->Dp.sgB mx (kf i)<=Dp.sgB mx (kf j')/\(j'<i->Dp.sgB mx (kf i)<Dp.sgB mx (kf j'))) ->
   codeAny (model X.prog X.w) X.A (.builtin (mL mx) ⟨[.ref I,.ref q,.ref S],[]⟩) R s:=by
 have W:=Walks.list (prog:=X.prog) (w:=X.w) (A:=X.A.in1) hh I l hlI vs.toArray;have hsz:vs.toArray.size=vs.length:=qm ..;have hcmp:=zvx (prog:=X.prog) (w:=X.w) (A:=X.A.in1) mx kf;have hem:∀ a b,Dp.sgB mx (kf a)<Dp.sgB mx (kf b)\/¬ Dp.sgB mx (kf a)<Dp.sgB mx (kf b):=fun a b=>Classical.em _
 cases mx
 all_goals
  intro r
  induction r with
  |zero =>
   intro j i s H vb tb c hr hj iv g lI lS ll lq hq hS hit hls hvb hij hbest;have hin:j+1=vs.length:=by lia
   refine codeAny_builtin (zhP _) ?_;rw[Around.under_plainId (zcF _) _];show wpAny _ X.A.in1 (seqItems? (.ref S) >>= _) _ _ _;refine wpAny_bind (wpAny_seqItems hS rfl ?_);show wpAny _ X.A.in1 (tryCatch (pyNext (.ref I)) _ >>= _) _ _ _;refine wpAny_bind (wpAny_tryCatch (W.done _ _ _ ⟨by rw[hsz,<- hin];exact hit,hls⟩ fun h' tk' hk'=>?_));have iv1:=lI.turn (t':=tk') iv fun b o hb e=>hk' b o (by simpa using hb) e
   have hS':=hk' S _ (by simpa using hSI) hS;show wpAny _ X.A.in1 (updateSeq S (fun _=>#[]) >>= _) _ _ _;refine wpAny_bind ?_;refine wpAny_updateSeq hS' rfl (wpAny_bind (wpAny_letGo (wpAny_pure ?_)));refine hR i vb _ H hvb (fun j' hj'=>hbest j' (by lia)) (lS.turn (t':=tk') iv1 fun b o hb e=>(Heap.get?_update_other _ _ (Ne.symm hb)).trans e) g
  |succ r ih =>
   intro j i s H vb tb c hr hj iv g lI lS ll lq hq hS hit hls hvb hij hbest;have hlt:j+1<vs.length:=by lia
   refine codeAny_builtin (zhP _) ?_;rw[Around.under_plainId (zcF _) _];show wpAny _ X.A.in1 (seqItems? (.ref S) >>= _) _ _ _;refine wpAny_bind (wpAny_seqItems hS rfl ?_);show wpAny _ X.A.in1 (tryCatch (pyNext (.ref I)) _ >>= _) _ _ _;refine wpAny_bind (wpAny_tryCatch (W.item (j+1) _ _ _ (by rw[hsz];exact hlt) ⟨hit,hls⟩ fun v h' tk' hP hst' hk'=>?_));have hv:vs[j+1]?=some v:=by simpa using hP
   obtain⟨oI,hoI,hoc,hod⟩:=id hst'.1;have iv1:=lI.turn (t':=tk') iv fun b o hb e=>hk' b o (by simpa using hb) e
   have hS1:=hk' S _ (by simpa using hSI) hS;have hq1:=hk' q _ (by simpa using hqI) hq;obtain⟨ol,hol,hlr⟩:=id hls;have hl1:=hk' l _ (by simpa using hlI) hol;show wpAny _ X.A.in1 (tryCatch (holding [v] (call (.ref q) [v])) _ >>= _) _ _ _;refine wpAny_bind (wpAny_tryCatch (wpAny_holding (wpAny_mono (turn (j+1) v hv _ H iv1 g lq hq1) (fun x s2 he=>?_) fun _ _ hF=>hF.elim)));obtain⟨H2,t2,rfl,iv2,g2,u2⟩:=he;obtain⟨lS2,hS2⟩:=lS.un u2 hS1;obtain⟨lI2,hI2⟩:=lI.un u2 hoI;obtain⟨ll2,hl2⟩:=ll.un u2 hl1;obtain⟨lq2,hq2⟩:=lq.un u2 hq1;have hit2:s2.heap.IsListIter I l (j+1+1):=⟨oI,hI2,hoc,hod⟩
   have hls2:s2.heap.IsList l vs.toArray:=⟨ol,hl2,hlr⟩
   show wpAny _ X.A.in1 (tryCatch (holding [v,.int (kf (j+1)) t2] (richCompare _ (.int (kf (j+1)) t2) (.int (kf i) tb) >>= _)) _ >>= _) _ _ _;refine wpAny_bind (wpAny_tryCatch (wpAny_holding (wpAny_bind (hcmp (j+1) i _ _ _ _ _ ⟨t2,rfl⟩ ⟨tb,rfl⟩ ?_))));refine wpAny_bind (wpAny_holding (wpAny_truthy_bool ?_));refine wpAny_bind (wpAny_letGo (wpAny_pure ?_));rcases hem (j+1) i with hb'|hb'
   ·have s1:∀ b o,b≠S->s2.heap.get? b=some o->(s2.heap.update S (Obj.mapSeq fun _=>#[v,.int (kf (j+1)) t2])).get? b=some o:=fun b o hb e=>(Heap.get?_update_other _ _ (Ne.symm hb)).trans e
    have hc2:=Heap.get?_update_self (Obj.mapSeq fun _=>#[v,.int (kf (j+1)) t2]) hS2 rfl;simp only[hb',decide_true,if_true];refine wpAny_bind ?_;refine wpAny_updateSeq hS2 rfl (wpAny_bind (wpAny_letGo ?_))
    first|rw[ziz]|rw[ziy]
    refine wpAny_pure ⟨plainId_quiet (zcF _) _,ih (j+1) (j+1) _ H2 v t2 _ (by lia) hlt (lS2.turn iv2 s1) g2 lI2 lS2 ll2 lq2 (s1 _ _ hqS hq2) hc2 ⟨oI,s1 _ _ hSI.symm hI2,hoc,hod⟩ ⟨ol,s1 _ _ hlS hl2,hlr⟩ hv (qe _) fun j' hj'=>?_⟩;by_cases e:j'=j+1
    ·subst e;exact⟨by lia,fun _=>by lia⟩
    ·have hb1:=hbest j' (by lia);have hb2:=hb1.1;exact⟨by lia,fun _=>by lia⟩
   ·simp only[hb',decide_false,Bool.false_eq_true,if_false];refine wpAny_bind (wpAny_letGo ?_)
    first|rw[ziz]|rw[ziy]
    refine wpAny_pure ⟨plainId_quiet (zcF _) _,ih (j+1) i s2 H2 vb tb c (by lia) hlt iv2 g2 lI2 lS2 ll2 lq2 hq2 hS2 hit2 hls2 hvb (by lia) fun j' hj'=>?_⟩;by_cases e:j'=j+1
    ·subst e;exact⟨by lia,fun _=>by lia⟩
    ·exact hbest j' (by lia)
def zpx (mx:Bool)(a v:Value):argsOk (mN mx) ⟨[a],[(Str.ofString "key",v)]⟩:=by cases mx<;>(unfold argsOk;kernel_rfl)
def zqf (mx:Bool){E:Value->Shared->Prop}{s:Shared}{H:Hp}{Q:Value->Shared->Prop}(kf:Nat->Int)(hh:X.A.handled=none)(iv:Inv X pins U H s)(g:G H)(ll:Loose X pins H l)(lq:Loose X pins H q)(hq:s.heap.get? q=some oq)(hls:s.heap.IsList l vs.toArray)(hne:0<vs.length)
  (turn:∀ (i:Nat) (v:Value),vs[i]?=some v->zi9 X pins U G q oq v (kf i))
  (hQ:∀ i v s' H',vs[i]?=some v->(∀ j,j<vs.length->Dp.sgB mx (kf i)<=Dp.sgB mx (kf j)/\(j<i->Dp.sgB mx (kf i)<Dp.sgB mx (kf j)))->Inv X pins U H' s'->G H'->Q v s') :
  wpAny (model X.prog X.w) X.A (call (.builtin (mN mx)) [.ref l] [(Str.ofString "key",.ref q)]) Q E s:=by
 refine zsI (zsq _) (zqq _) (zqV _) (zpx _ _ _) ?_;cases mx
 all_goals
  obtain⟨ol,hol,hlr⟩:=id hls;have hll:l<s.heap.objs.size:=qo hol;have hqq:q<s.heap.objs.size:=qo hq;show wpAny _ X.A.in1 (Builtin.Builtins.bindParams _ ["key","default"] 0 ⟨[],[(Str.ofString "key",.ref q)]⟩ >>= _) _ _ s;refine wpAny_bind (wpAny_of_eq (show Builtin.Builtins.bindParams _ ["key","default"] 0 ⟨[],[(Str.ofString "key",.ref q)]⟩=pure [some (.ref q),none]from rfl) ?_);refine wpAny_bind (wpAny_pure ?_);refine wpAny_bind (wpAny_pyIter_list hls ?_);refine wpAny_bind (wpAny_newList ?_ (qP _))
  first|rw[ziz]|rw[ziy]
  refine wpAny_pure ⟨plainId_quiet (zcF _) _,?_⟩;have hS:(s.heap.push { cls:=.type "list_iterator",data:=.fields #[.ref l,.int 0 0] }).objs.size=s.heap.objs.size+1:=qY ..;rw[hS];generalize hh2:(s.heap.push { cls:=.type "list_iterator",data:=.fields #[.ref l,.int 0 0] }).push { cls:=.type "list",data:=.seq #[] }=h2;have old:∀ b o,s.heap.get? b=some o->h2.get? b=some o:=fun b o e=>by rw[<- hh2];exact qd _ (qd _ e)
  have gI:h2.get? s.heap.objs.size=some { cls:=.type "list_iterator",data:=.fields #[.ref l,.int 0 0] }:=by rw[<- hh2];exact qd _ (qp _ rfl)
  have gS:h2.get? (s.heap.objs.size+1)=some { cls:=.type "list",data:=.seq #[] }:=by rw[<- hh2,<- hS];exact qp _ rfl
  have iv2:Inv X pins U H { s with heap:=h2 }:=by
   have:=iv.kept (t':=s.toks) old;exact this
  have lI:Loose X pins H s.heap.objs.size:=Loose.fresh iv (qe _);have lS:Loose X pins H (s.heap.objs.size+1):=Loose.fresh iv (Nat.le_succ _);have hlI:l≠s.heap.objs.size:=qC hll;have hSI:s.heap.objs.size+1≠s.heap.objs.size:=qaj (Nat.lt_succ_self _);have hlS:l≠s.heap.objs.size+1:=qC (Nat.lt_succ_of_lt hll);have hqI:q≠s.heap.objs.size:=qC hqq;have hqS:q≠s.heap.objs.size+1:=qC (Nat.lt_succ_of_lt hqq);have W:=Walks.list (prog:=X.prog) (w:=X.w) (A:=X.A.in1) hh s.heap.objs.size l hlI vs.toArray;have hsz:vs.toArray.size=vs.length:=qm ..;refine codeAny_builtin (zhP _) ?_;rw[Around.under_plainId (zcF _) _];show wpAny _ X.A.in1 (seqItems? (.ref _) >>= _) _ _ _;refine wpAny_bind (wpAny_seqItems gS rfl ?_);show wpAny _ X.A.in1 (tryCatch (pyNext (.ref s.heap.objs.size)) _ >>= _) _ _ _;refine wpAny_bind (wpAny_tryCatch (W.item 0 _ _ _ (by rw[hsz];exact hne) ⟨⟨_,gI,rfl,rfl⟩,⟨ol,old _ _ hol,hlr⟩⟩ fun v h' tk' hP hst' hk'=>?_));have hv:vs[0]?=some v:=by simpa using hP
  obtain⟨oI,hoI,hoc,hod⟩:=id hst'.1;have iv3:=lI.turn (t':=tk') iv2 fun b o hb e=>hk' b o (by simpa using hb) e
  have hS3:=hk' _ _ (by simpa using hSI) gS;have hq3:=hk' q _ (by simpa using hqI) (old _ _ hq);have hl3:=hk' l _ (by simpa using hlI) (old _ _ hol);show wpAny _ X.A.in1 (tryCatch (holding [v] (call (.ref q) [v])) _ >>= _) _ _ _;refine wpAny_bind (wpAny_tryCatch (wpAny_holding (wpAny_mono (turn 0 v hv _ H iv3 g lq hq3) (fun x s4 he=>?_) fun _ _ hF=>hF.elim)));obtain⟨H4,t4,rfl,iv4,g4,u4⟩:=he;obtain⟨lS4,hS4⟩:=lS.un u4 hS3;obtain⟨lI4,hI4⟩:=lI.un u4 hoI;obtain⟨ll4,hl4⟩:=ll.un u4 hl3;obtain⟨lq4,hq4⟩:=lq.un u4 hq3;have s1:∀ b o,b≠s.heap.objs.size+1->s4.heap.get? b=some o->(s4.heap.update (s.heap.objs.size+1) (Obj.mapSeq fun _=>#[v,.int (kf 0) t4])).get? b=some o:=fun b o hb e=>(Heap.get?_update_other _ _ (Ne.symm hb)).trans e
  have hc4:=Heap.get?_update_self (Obj.mapSeq fun _=>#[v,.int (kf 0) t4]) hS4 rfl;show wpAny _ X.A.in1 (updateSeq (s.heap.objs.size+1) (fun _=>#[v,.int (kf 0) t4]) >>= _) _ _ _;refine wpAny_bind ?_;refine wpAny_updateSeq hS4 rfl ?_
  first|rw[ziz]|rw[ziy]
  refine wpAny_pure ⟨plainId_quiet (zcF _) _,zpw (G:=G) _ (oq:=oq) kf hh hlI hSI hlS hqI hqS turn hQ _ 0 0 _ H4 v t4 _ rfl hne (lS4.turn iv4 s1) g4 lI4 lS4 ll4 lq4 (s1 _ _ hqS hq4) hc4 ⟨oI,s1 _ _ hSI.symm hI4,hoc,hod⟩ ⟨ol,s1 _ _ hlS hl4,hlr⟩ hv (qe _) fun j' hj'=>?_⟩;have e:j'=0:=by lia
  subst e;exact⟨qac _,fun h=>absurd h (qV _)⟩
end
def zhS (qual:Str)(sc:Scope)(L q:Addr)(cd:Value)(cl:List (Str×Addr)):Env:=newEnv sc L mainGlobals cl (qual++".<locals>.") (some q) cd none builtinsNs
def zlj (X:Cx)(N:List Str)(qual:Str)(sc:Scope)(q:Addr)(cd:Value)(cl:List (Str×Addr))(s:Shared)(H:Hp):Cx :=
  { X with A:=X.A.in1.deeper (zhS qual sc s.heap.objs.size q cd cl),N:=N,s₀:=s,H₀:=H,env:=zhS qual sc s.heap.objs.size q cd cl,outer:=X.stack,stack:=zhS qual sc s.heap.objs.size q cd cl::X.stack,ex:=[],calm:=true,fn:=fun _=>false,pn:=[],xe:=fun _ _=>False }
def zhF (H:Hp)(cd:Value)(qual:Str):Prop:=∃ c oc vs t u,cd=.ref c/\H c=some (.frz oc u)/\oc.data=.fields vs/\vs[1]?=some (.str qual t)
section
variable {X:Cx}{pins:List (Addr×Obj)}{U:L2.St}{G:Hp->Prop}{q:Addr}{name qual x:Str}{params:Arguments}{body:Expr}{sc:Scope}{cl:List (Str×Addr)}{pm cd ct:Value}{free:List Str}{fv:List Nat}{te:TE}
def zqt {j:Nat}{v:Value}{vv:V}{k:Int}(hr:zaf (j+1) X.A)(hco:sc.isCoroutine=false)(hgen:sc.isGenerator=false)(hk:sc.kind=.function)(hcell:∀ y∈sc.names,y.2≠.cell)
  (hbind:bindArgs (PySem.W.kla_fn name qual params body sc cl pm cd ct) ⟨[v],[]⟩=pure [(x,v)]) (hx:sc.names.lookup x=some .local) (hfv:zeP X sc free fv)
  (hcl1:∀ y c,cl.lookup y=some c->X.env.cells.lookup y=some c) (hcl2:∀ y∈sc.names,y.2=.free->(cl.lookup y.1).isSome=true)
  (hG:∀ H,G H->zhF H cd qual) (rv:RelV vv v)
  (hb:∀ s H,PE (zlj X (x::free) qual sc q cd cl s H) body te)
  (hte:∀ H,G H->te (some vv::fv.map fun j=>(U[j]?).join) H fun y H'=>y=.int k/\G H') :
  zi9 X pins U G q { cls:=.type "function",data:=.func (PySem.W.kla_fn name qual params body sc cl pm cd ct) } v k:=by
 intro s H I g lq hq;obtain⟨c,oc,vs,t,u,ecd,hc,hd,hv1⟩:=hG H g;have hcode:s.heap.CodeRec cd qual:=⟨c,oc,vs,t,ecd,(I.hok c _ hc).1,hd,hv1⟩
 have hroom:X.A.in1.depth<recursionLimit:=hr.depth;refine wpAny_call (PySem.W.kla_callFunE hroom hq rfl hco hgen rfl hcode ?_);rw[hbind];refine wpAny_pure (PySem.wpAny_newFunctionEnv hcell (by intro y hy;simp at hy;subst hy;exact hx) (fun h1 hns hsb=>⟨?_,?_⟩) hk)
 ·exact(I.nolimit).fresh _ hsb
 have old:∀ b o,s.heap.get? b=some o->h1.get? b=some o:=fun b o e=>hsb.extBut b o (qC (qo e)) (qd _ e)
 show codeAny _ _ (.expr body (zhS qual sc s.heap.objs.size q cd cl)) _ _;refine PySem.W.kla_codeExpr ?_
 have YOk:(zlj X (x::free) qual sc q cd cl s H).Ok:={
  mod:=I.ok.mod
  kind:=hk
  glob:=rfl
  blt:=rfl
  above:=qe _
  inj:=fun y z c h1 h2=>I.ok.inj y z c (hcl1 y c h1) (hcl1 z c h2)
  has:=fun y hy=>by
   have hy:sc.names.lookup y=some .cell\/sc.names.lookup y=some .free:=hy;rcases hy with hy|hy
   ·exact absurd rfl (hcell _ (mem_of_lookup hy))
   ·exact qaa.mp (hcl2 _ (mem_of_lookup hy) rfl)
  cab:=fun y c h=>by cases h
  hd:=fun _=>hr.hd
  frames:=Around.frames_deeper I.ok.frames
  stk:=.inr ⟨rfl,rfl⟩
  exf:=fun b hb=>nomatch hb
  bs:=I.bs
  bsz:=qR I.ok.bsz I.sz
  noex:=fun b o _ hm=>nomatch hm
  exfs:=fun b hb=>nomatch hb
  funs:=I.stack
  frf:=I.stkFree }
 have J:Inv (zlj X (x::free) qual sc q cd cl s H) [] (some vv::fv.map fun j=>(U[j]?).join) H { s with heap:=h1,toks:=s.toks+[(x,v)].length }:={
  ok:=YOk
  os:=rfl
  bare:=I.bare
  base:=Un.kept old
  loc:=by
   refine⟨_,hns,fun i y w hN hσ _=>?_⟩;cases i with
   |zero =>
    have hN':(x::free)[0]?=some y:=hN;have e1:x=y:=by simpa using hN'
    have e2:vv=w:=by simpa using hσ
    subst e1 e2;exact⟨v,rv,.inl ⟨hx,by simp⟩⟩
   |succ i =>
    have hN':(x::free)[i+1]?=some y:=hN;obtain⟨j,hj,hσj,hsx,hkx⟩:=znl hfv i y w (by simpa using hN') (by simpa using hσ);obtain⟨m,_,hall⟩:=I.loc;obtain⟨u,ru,lk⟩:=hall j y w hj hσj (.inr (.inl hkx));rcases lk with⟨hl,_⟩|⟨_,c,hc,hcell'⟩
    ·rw[hkx]at hl;cases hl
    ·obtain⟨c',hc'⟩:=qaa.mp (hcl2 (y,.free) (mem_of_lookup hsx) rfl);have:=hcl1 y c' hc';rw[hc]at this;cases this;obtain⟨o,ho,hd⟩:=hcell';exact⟨u,ru,.inr ⟨.inr hsx,c,hc',o,old _ _ ho,hd⟩⟩
  cell:=fun y c hy=>by
   obtain⟨w,o,ho,hd⟩:=I.cell y c (hcl1 y c hy);exact⟨w,o,old _ _ ho,hd⟩
  free:=I.fresh
  freeC:=fun y c hy=>I.freeC y c (hcl1 y c hy)
  pin:=fun p hp=>nomatch hp
  hok:=I.hok.kept old
  len:=by show _=(x::free).length;rw[qJ,qJ,qb,zkp hfv] }
 refine wpAny_mono (hb s H [] _ _ H _ J (hte H g)) (fun u s' hs=>?_) fun _ _ hF=>hF.elim
 obtain⟨y,H',J',ry,e,g'⟩:=hs;subst e;obtain⟨t',rfl⟩:=ry;exact⟨H',t',rfl,I.call' (ch:=[]) J'.os J'.base J'.hok J'.bare (fun b hb=>nomatch hb),g',J'.base⟩
end
def zpb {X:Cx}{pins:List (Addr×Obj)}{U:L2.St}{H:Hp}{s:Shared}(I:Inv X pins U H s){P c:Addr}{ps more:Array Value}{oc:Obj}{h':Heap}{t':Nat}(hP:H P=some (.tbl ps))(hx:Heap.ExtBut P s.heap h')(gP:h'.get? P=some { cls:=.none,data:=.fields (ps++more) })
  (hc:s.heap.objs.size<=c) (gc:h'.get? c=some oc):Inv X pins U (upd (upd H P (.tbl (ps++more))) c (.frz oc (.ext fun _=>True))) { s with heap:=h',toks:=t' }:=by
 have hn:H c=none:=I.hok.fresh hc;have ne:c≠P:=fun z=>by rw[z,hP]at hn;cases hn
 have at':∀ b,b≠c->b≠P->upd (upd H P (.tbl (ps++more))) c (.frz oc (.ext fun _=>True)) b=H b:=fun b h1 h2=>by rw[zL h1,zL h2]
 have nP:∀ b,H b=none->b≠P:=fun b n z=>by rw[z,hP]at n;cases n
 have nC:∀ b o,s.heap.get? b=some o->b≠c:=fun b o q=>qC (qr (qo q) hc)
 have sC:∀ b u,H b=some u->b≠c:=fun b u q z=>by rw[z,hn]at q;cases q
 refine I.un ⟨fun b o q n _ _=>hx b o (nP b n) q,fun b o q n _ _=>⟨o.slots,hx b o (nP b n) q⟩,fun b o q n _=>by rw[at' b (nC b o q) (nP b n)];exact n,fun b o q _=>?_,fun b xs q=>?_,fun b o u q=>?_,fun b qs q=>?_⟩ fun b u e=>?_
 ·by_cases z:b=P
  ·subst z;exact⟨_,gP⟩
  ·exact⟨o,hx b o z q⟩
 ·rw[at' b (sC b _ q) (fun z=>by rw[z,hP]at q;cases q)];exact q
 ·rw[at' b (sC b _ q) (fun z=>by rw[z,hP]at q;cases q)];exact q
 ·by_cases z:b=P
  ·subst z;rw[hP]at q;cases q;exact⟨more,by rw[zL (Ne.symm ne),zY]⟩
  ·exact⟨#[],by rw[at' b (sC b _ q) z,q];simp⟩
 ·by_cases z:b=c
  ·subst z;rw[zY]at e;cases e;exact⟨gc,True.intro,⟨oc,gc⟩,fun _ _ _ _=>True.intro⟩
  ·by_cases z2:b=P
   ·subst z2;rw[zL z,zY]at e;cases e;exact gP
   ·rw[at' b z z2]at e;refine(I.hok b u e).stay (fun d v hd q=>hx d v (fun y=>?_) q) (fun d q=>?_) fun d xs q=>?_
    ·rcases hd with rfl|hd
     ·exact z2 y
     ·rw[y,hP]at hd;cases hd
    ·rw[at' d (sC d _ q) (fun y=>by rw[y,hP]at q;cases q)];exact q
    ·rw[at' d (sC d _ q) (fun y=>by rw[y,hP]at q;cases q)];exact q
def zna (X:Cx):Prop:=∃ bm ob,X.mg "__builtins__"=some (.ref bm)/\bm≠builtinsNs/\X.base.get? bm=some ob/\ob.cls=.type "module"/\ob.dict=some builtinsNs/\ob.data=.plain
def zmK (H:Hp)(ps:Array Value)(l c:Nat)(qual:Str):Prop:=ps=#[]\/∃ a,ps=#[rawInt l,rawInt c,.ref a]/\zhF H (.ref a) qual
def zqY {X:Cx}{pins:List (Addr×Obj)}{U:L2.St}{H:Hp}{s:Shared}{c P:Addr}{ps:Array Value}{params:Arguments}{body:Expr}{sc:Scope}{pos:Pos}{cl:List (Str×Addr)}{Q:Value->Shared->Prop}{E:Value->Shared->Prop}{A:Around}
  (I:Inv X pins U H s) (hcode:X.env.code=.ref c) (C:PySem.W.CodeHd X.base c P) (hP:H P=some (.tbl ps)) (tab:zmK H ps pos.line pos.col (X.env.qual++"<lambda>")) (hb:zna X) (hdef:defaultsOf params X.env=([],[])) (hcl:closureFor sc X.env=pure cl)
  (h:∀ q s' H' c' ps' pm ct,Inv X pins U H' s'->H' P=some (.tbl ps')->zmK H' ps' pos.line pos.col (X.env.qual++"<lambda>")->(∀ b,b≠P->∀ u,H b=some u->H' b=some u)->zhF H' (.ref c') (X.env.qual++"<lambda>")->Loose X pins H' q ->
   s'.heap.get? q=some { cls:=.type "function",data:=.func (PySem.W.kla_fn "<lambda>" (X.env.qual++"<lambda>") params body sc cl pm (.ref c') ct) }->Q (.ref q) s') :
  wpAny (model X.prog X.w) A (eval (.Lambda params body sc pos) X.env) Q E s:=by
 have gP:s.heap.get? P=some (PySem.W.tabObj ps):=I.hok P _ hP;have hns:=I.mod.glob.keeps I.bk
 have neP:∀ b o,X.base.get? b=some o->b≠P:=fun b o e z=>by
  have:=(I.bs b o e).2;rw[z,hP]at this;cases this
 obtain⟨bm,ob,b1,b2,b3,b4,b5,b6⟩:=hb;obtain⟨og,es,ep,eg,dg,_⟩:=I.mod.glob;have hgP:mainGlobals≠P:=neP _ _ eg
 have hbG:bm≠mainGlobals:=fun z=>by
  rw[z,eg]at b3;cases b3;rw[dg]at b6;cases b6
 have hB:s.heap.BuiltinsAt X.mg P:=⟨bm,ob,b1,b2,hbG,neP _ _ b3,I.bk _ _ b3,b4,b5,b6⟩
 refine PySem.W.kla_eval hdef ?_;rcases tab with rfl|⟨c0,rfl,hcod⟩
 ·refine PySem.W.kla_makeFunction hcl I.ok.glob hns hcode (C.keeps I.bk) gP True.intro rfl hgP hB fun c' ctv h' tk hx hge hlt hrec htb=>?_
  obtain⟨c2,oc,vs,t,e2,hoc,hd,hv⟩:=hrec;cases e2;have J:=zpb (t':=tk) I hP hx htb hge hoc;have K:=J.kept (t':=tk) (h':=h'.push (PySem.W.kla_obj "<lambda>" (X.env.qual++"<lambda>") params body sc cl ((X.mg "__name__").getD .none) c' ctv)) fun b u e=>qd _ e
  have hn:H c'=none:=I.hok.fresh hge;have ne:c'≠P:=fun z=>by rw[z,hP]at hn;cases hn
  have cf:zhF (upd (upd H P (.tbl (#[]++#[rawInt pos.line,rawInt pos.col,.ref c']))) c' (.frz oc (.ext fun _=>True))) (.ref c') (X.env.qual++"<lambda>"):=⟨c',oc,vs,t,_,rfl,zY,hd,hv⟩
  refine h _ _ _ c' _ _ ctv K (by rw[zL (Ne.symm ne),zY]) (.inr ⟨c',by simp,cf⟩) (fun b hb u e=>?_) cf (Loose.fresh J (qe _)) (qp _ rfl);rw[zL (fun z=>by rw[z,hn]at e;cases e),zL hb];exact e
 ·refine PySem.W.kla_makeFunctionHit (cv:=.ref c0) hcl I.ok.glob hns hcode (C.keeps I.bk) gP (by simp[TriplesOk,rawInt]) (by simp[codeAmong,rawInt]) hB fun ctv h' tk hk hsz=>?_
  have K:=I.kept (t':=tk) (h':=h'.push { cls:=.type "function",data:=.func (PySem.W.kla_fn "<lambda>" (X.env.qual++"<lambda>") params body sc cl ((X.mg "__name__").getD .none) (.ref c0) ctv) }) fun b u e=>qd _ (hk b u e)
  exact h _ _ H c0 _ _ ctv K hP (.inr ⟨c0,rfl,hcod⟩) (fun b _ u e=>e) hcod (Loose.fresh (I.kept (t':=tk) hk) (qe _)) (qp _ rfl)
end My
namespace Dp
open PySem PySem.Spec PyProof.Rows L2 My
def isStar:Expr->Bool
 |.Starred _ _=>true
 |_=>false
def za0 {e:Expr}{es:List Expr}{env:Env}(h:isStar e=false):starEach (e::es) env=(false,eval e env)::starEach es env:=by
  cases e<;>first|rfl|cases h
theorem zcE {pos:Pos}{env:Env}:∀ {es:List Expr},es.all (fun e=>!isStar e)=true->(backTo pos (starEach es env)).any (·.1)=false
 |[],_=>rfl
 |e::es,h=>by
  rw[List.all_cons,qA]at h;rw[za0 (by simpa using h.1)];show(false||(backTo pos (starEach es env)).any (·.1))=false;rw[zcE h.2];rfl
def zcf {e:Expr}{env:Env}(h:isStar e=false):starEach [e] env=[(false,eval e env)]:=za0 h
def zls {e g:Expr}{env:Env}(h:isStar e=false)(k:isStar g=false):starEach [e,g] env=[(false,eval e env),(false,eval g env)]:=by rw[za0 h,zcf k]
def zeR (K:PySem.W.Frag)(H:Hp)(a:Addr)(xs:List V):Prop :=
 (∃ o,H a=some (.frz o (.lst xs)))\/∃ (o:Obj) (its:Array Value) (n:Nat),K.lookup a=some o/\o.cls=.type "list"/\o.dict=none/\o.data=.seq its n/\its.size<=sizeLine/\Vals xs its.toList
def zeR.sq {K:PySem.W.Frag}{H:Hp}{a:Addr}{xs:List V}(h:zeR K H a xs):SqL K H a xs:=h.imp (fun h=>.inr h) id
mutual
inductive Rel (K:PySem.W.Frag)(ad:List Addr)(H:Hp):D->V->Prop
 |non:Rel K ad H .non .non
 |bl (b:Bool):Rel K ad H (.bl b) (.bl b)
 |int (i:Int):Rel K ad H (.int i) (.int i)
 |str (x:Str):Rel K ad H (.str x) (.str x)
 |ty (n:String):Rel K ad H (.ty n) (.ty n)
 |tup {a:Addr} {vs:List V} {ds:List D}:H a=some (.tup vs)->zy K ad H ds vs->Rel K ad H (.tup ds) (.ref a)
 |rl {a:Addr} {vs:List V} {ds:List D}:zeR K H a vs->zy K ad H ds vs->Rel K ad H (.rl ds) (.ref a)
 |ref {n:Nat} {a:Addr}:ad[n]?=some a->Rel K ad H (.ref n) (.ref a)
 |exn {c:Str} {a C:Addr} {o:Obj} {u:HO}:H a=some (.frz o u)->o.cls=.ref C->PySem.W.nsIn K mainGlobals c=some (some (.ref C))->Rel K ad H (.exn c) (.ref a)
inductive zy (K:PySem.W.Frag)(ad:List Addr)(H:Hp):List D->List V->Prop
 |nil:zy K ad H [] []
 |cons {d:D} {v:V} {ds:List D} {vs:List V}:Rel K ad H d v->zy K ad H ds vs->zy K ad H (d::ds) (v::vs)
end
structure Wd (ad:List Addr)(H:Hp)(ad':List Addr)(H':Hp):Prop where
 pre:ad <+: ad'
 keep:∀ b o,b∉ad->H b=some o->H' b=some o
 tup:∀ b xs,H b=some (.tup xs)->H' b=some (.tup xs)
 frz:∀ b o u,H b=some (.frz o u)->H' b=some (.frz o u)
 new:∀ b,b∈ad'->b∉ad->H b=none
def Wd.refl {ad:List Addr}{H:Hp}:Wd ad H ad H:=⟨List.prefix_refl _,fun _ _ _ h=>h,fun _ _ h=>h,fun _ _ _ h=>h,fun _ h n=>absurd h n⟩
theorem Wd.trans {ad ad1 ad2:List Addr}{H H1 H2:Hp}(a:Wd ad H ad1 H1)(b:Wd ad1 H1 ad2 H2):Wd ad H ad2 H2 where
 pre:=a.pre.trans b.pre
 keep:=fun c o hc h=>b.keep c o (fun h1=>by rw[a.new c h1 hc]at h;cases h) (a.keep c o hc h)
 tup:=fun c xs h=>b.tup c xs (a.tup c xs h)
 frz:=fun c o u h=>b.frz c o u (a.frz c o u h)
 new:=fun c h2 hc=>by
  by_cases h1:c∈ad1
  ·exact a.new c h1 hc
  ·have n1:=b.new c h2 h1;cases e:H c with
   |none=>rfl
   |some o=>rw[a.keep c o hc e]at n1;cases n1
def zgr {α:Type}{l l':List α}(h:l <+: l'){n:Nat}{a:α}(e:l[n]?=some a):l'[n]?=some a:=by
 obtain⟨t,rfl⟩:=h;rw[qu (My.zaO e)];exact e
structure Wr (ad:List Addr)(H:Hp)(ad':List Addr)(H':Hp):Prop where
 pre:ad <+: ad'
 tup:∀ b xs,H b=some (.tup xs)->H' b=some (.tup xs)
 frz:∀ b o u,H b=some (.frz o u)->H' b=some (.frz o u)
def Wd.wr {ad ad':List Addr}{H H':Hp}(w:Wd ad H ad' H'):Wr ad H ad' H':=⟨w.pre,w.tup,w.frz⟩
def zeR.wr {K:PySem.W.Frag}{ad ad':List Addr}{H H':Hp}{a:Addr}{xs:List V}(w:Wr ad H ad' H')(h:zeR K H a xs):zeR K H' a xs:=h.imp (fun⟨o,e⟩=>⟨o,w.frz _ _ _ e⟩) id
mutual
theorem Rel.wr {K:PySem.W.Frag}{ad ad':List Addr}{H H':Hp}(w:Wr ad H ad' H'):∀ {d:D} {v:V},Rel K ad H d v->Rel K ad' H' d v
 |_,_,.non=>.non
 |_,_,.bl b=>.bl b
 |_,_,.int i=>.int i
 |_,_,.str x=>.str x
 |_,_,.ty n=>.ty n
 |_,_,.tup h r=>.tup (w.tup _ _ h) (zy.wr w r)
 |_,_,.rl h r=>.rl (h.wr w) (zy.wr w r)
 |_,_,.ref h=>.ref (zgr w.pre h)
 |_,_,.exn h e n=>.exn (w.frz _ _ _ h) e n
theorem zy.wr {K:PySem.W.Frag}{ad ad':List Addr}{H H':Hp}(w:Wr ad H ad' H'):∀ {ds:List D} {vs:List V},zy K ad H ds vs->zy K ad' H' ds vs
 |_,_,.nil=>.nil
 |_,_,.cons r t=>.cons (Rel.wr w r) (zy.wr w t)
end
def Rel.wd {K:PySem.W.Frag}{ad ad':List Addr}{H H':Hp}{d:D}{v:V}(r:Rel K ad H d v)(w:Wd ad H ad' H'):Rel K ad' H' d v:=Rel.wr w.wr r
def zy.wd {K:PySem.W.Frag}{ad ad':List Addr}{H H':Hp}{ds:List D}{vs:List V}(r:zy K ad H ds vs)(w:Wd ad H ad' H'):zy K ad' H' ds vs:=zy.wr w.wr r
section
variable {K:PySem.W.Frag}{ad:List Addr}{H:Hp}
theorem zy.length:∀ {ds:List D} {vs:List V},zy K ad H ds vs->ds.length=vs.length
  |_,_,.nil=>rfl
  |_,_,.cons _ t=>congrArg (· + 1) (zy.length t)
theorem zy.get:∀ {ds:List D} {vs:List V} {i:Nat} {d:D},zy K ad H ds vs->ds[i]?=some d->∃ v,vs[i]?=some v/\Rel K ad H d v
 |_,_,_,_,.nil,e=>by simp at e
 |_,_,0,_,.cons r _,e=>by simp at e;subst e;exact⟨_,rfl,r⟩
 |_,_,i+1,d,.cons _ t,e=>by
  obtain⟨v,h1,h2⟩:=zy.get (i:=i) (d:=d) t (by simpa using e);exact⟨v,by simpa using h1,h2⟩
theorem zy.append:∀ {ds es:List D} {vs us:List V},zy K ad H ds vs->zy K ad H es us->zy K ad H (ds++es) (vs++us)
 |_,_,_,_,.nil,s=>s
 |_,_,_,_,.cons r t,s=>.cons r (zy.append t s)
theorem zy.take:∀ {ds:List D} {vs:List V} (n:Nat),zy K ad H ds vs->zy K ad H (ds.take n) (vs.take n)
 |_,_,0,_=>.nil
 |_,_,_+1,.nil=>.nil
 |_,_,n+1,.cons r t=>.cons r (zy.take n t)
theorem zy.drop:∀ {ds:List D} {vs:List V} (n:Nat),zy K ad H ds vs->zy K ad H (ds.drop n) (vs.drop n)
 |_,_,0,r=>r
 |_,_,_+1,.nil=>.nil
 |_,_,n+1,.cons _ t=>zy.drop n t
theorem zy.set {d:D}{v:V}(r:Rel K ad H d v):∀ {ds:List D} {vs:List V} (i:Nat),zy K ad H ds vs->zy K ad H (ds.set i d) (vs.set i v)
 |_,_,_,.nil=>.nil
 |_,_,0,.cons _ t=>.cons r t
 |_,_,i+1,.cons q t=>.cons q (zy.set r i t)
theorem zy.ints:∀ {ns:List Int} {vs:List V},zy K ad H (ns.map D.int) vs->vs=ns.map V.int
 |[],_,.nil=>rfl
 |n::ns,_,.cons r t=>by cases r;rw[zy.ints t];rfl
theorem zy.bls:∀ {ns:List Bool} {vs:List V},zy K ad H (ns.map D.bl) vs->vs=ns.map V.bl
 |[],_,.nil=>rfl
 |n::ns,_,.cons r t=>by cases r;rw[zy.bls t];rfl
theorem zy.mk_ints:∀ (ns:List Int),zy K ad H (ns.map D.int) (ns.map V.int)
 |[]=>.nil
 |n::ns=>.cons (.int n) (zy.mk_ints ns)
end
inductive zaL (K:PySem.W.Frag)(ad:List Addr)(H:Hp):List (Str×D)->List (Str×V)->Prop
 |nil:zaL K ad H [] []
 |cons {f:Str} {d:D} {v:V} {fs:List (Str×D)} {vs:List (Str×V)}:Rel K ad H d v->zaL K ad H fs vs->zaL K ad H ((f,d)::fs) ((f,v)::vs)
theorem zaL.wr {K:PySem.W.Frag}{ad ad':List Addr}{H H':Hp}(w:Wr ad H ad' H'):∀ {fs:List (Str×D)} {vs:List (Str×V)},zaL K ad H fs vs->zaL K ad' H' fs vs
 |_,_,.nil=>.nil
 |_,_,.cons r t=>.cons (Rel.wr w r) (zaL.wr w t)
theorem zaL.look {K:PySem.W.Frag}{ad:List Addr}{H:Hp}{f:Str}:∀ {fs:List (Str×D)} {vs:List (Str×V)} {d:D},zaL K ad H fs vs->fs.lookup f=some d->∃ v,vs.lookup f=some v/\Rel K ad H d v
 |_,_,d,.nil,e=>by simp at e
 |_,_,d,@zaL.cons _ _ _ g x v fs vs r t,e=>by
  rw[ql]at e ⊢;cases h:f==g with
  |true=>rw[h]at e;cases e;exact⟨v,rfl,r⟩
  |false=>rw[h]at e;exact zaL.look t e
theorem zaL.put {K:PySem.W.Frag}{ad:List Addr}{H:Hp}{f:Str}{d:D}{v:V}(rd:Rel K ad H d v):∀ {fs:List (Str×D)} {vs:List (Str×V)},zaL K ad H fs vs->zaL K ad H (putD f d fs) (zbK f v vs)
 |_,_,.nil=>.cons rd .nil
 |_,_,@zaL.cons _ _ _ g x u fs vs r t=>by
  show zaL K ad H (if g=f then(g,d)::fs else(g,x)::putD f d fs) (if g=f then(g,v)::vs else(g,u)::zbK f v vs);by_cases h:g=f
  ·rw[if_pos h,if_pos h];exact .cons rd t
  ·rw[if_neg h,if_neg h];exact .cons r (zaL.put rd t)
theorem zaL.length {K:PySem.W.Frag}{ad:List Addr}{H:Hp}:∀ {fs:List (Str×D)} {vs:List (Str×V)},zaL K ad H fs vs->fs.length=vs.length
  |_,_,.nil=>rfl
  |_,_,.cons _ t=>congrArg (· + 1) (zaL.length t)
theorem zki {f:Str}{d:D}{q:Str×D}:∀ {fs:List (Str×D)},q∈putD f d fs->q.1=f\/q∈fs
 |[],h=>by
  have:q=(f,d):=by simpa [putD]using h
  subst this;exact .inl rfl
 |(g,x)::fs,h=>by
  have h:q∈if g=f then(g,d)::fs else(g,x)::putD f d fs:=h
  by_cases e:g=f
  ·rw[if_pos e]at h;rcases qg.mp h with rfl|h
   ·exact .inl e
   ·exact .inr (qq _ h)
  ·rw[if_neg e]at h;rcases qg.mp h with rfl|h
   ·exact .inr (by simp)
   ·exact(zki h).imp id (qq _)
theorem zk4 {f:Str}{d:D}:∀ {fs:List (Str×D)},fs.lookup f=some d->∃ q∈fs,q.1=f
 |[],e=>by simp at e
 |(g,x)::fs,e=>by
  rw[ql]at e;cases h:f==g with
  |true=>exact⟨(g,x),by simp,(eq_of_beq h).symm⟩
  |false =>
   rw[h]at e;obtain⟨q,hq,e'⟩:=zk4 e;exact⟨q,qq _ hq,e'⟩
inductive RelK (K:PySem.W.Frag)(ad:List Addr)(H:Hp):List (Str×D)->List (Key×V)->Prop
 |nil:RelK K ad H [] []
 |cons {x:Str} {d:D} {v:V} {fs:List (Str×D)} {vs:List (Key×V)}:Rel K ad H d v->RelK K ad H fs vs->RelK K ad H ((x,d)::fs) ((.inr x,v)::vs)
inductive zaz (K:PySem.W.Frag)(ad:List Addr)(H:Hp):List (List Key×D)->List (List Key×V)->Prop
 |nil:zaz K ad H [] []
 |cons {x:List Key} {d:D} {v:V} {fs:List (List Key×D)} {vs:List (List Key×V)}:Rel K ad H d v->zaz K ad H fs vs->zaz K ad H ((x,d)::fs) ((x,v)::vs)
theorem RelK.wr {K:PySem.W.Frag}{ad ad':List Addr}{H H':Hp}(w:Wr ad H ad' H'):∀ {fs:List (Str×D)} {vs:List (Key×V)},RelK K ad H fs vs->RelK K ad' H' fs vs
 |_,_,.nil=>.nil
 |_,_,.cons r t=>.cons (Rel.wr w r) (RelK.wr w t)
theorem zaz.wr {K:PySem.W.Frag}{ad ad':List Addr}{H H':Hp}(w:Wr ad H ad' H'):∀ {fs:List (List Key×D)} {vs:List (List Key×V)},zaz K ad H fs vs->zaz K ad' H' fs vs
 |_,_,.nil=>.nil
 |_,_,.cons r t=>.cons (Rel.wr w r) (zaz.wr w t)
def zb8 (K:PySem.W.Frag)(ad:List Addr)(H:Hp)(a:Addr):Cell->Prop
 |.lst ds=>∃ vs,H a=some (.lst vs)/\zy K ad H ds vs
 |.ins c fs=>∃ C dx vs,H a=some (.ins C dx vs)/\Cls K C/\PySem.W.nsIn K mainGlobals c=some (some (.ref C))/\zaL K ad H fs vs/\∀ q∈fs,zap K C q.1
 |.dk kvs=>∃ vs,H a=some (.dK vs)/\RelK K ad H kvs vs
 |.dt kvs=>∃ vs,H a=some (.dT vs)/\zaz K ad H kvs vs
 | .tab x l c=>∃ ps cd,H a=some (.tbl ps)/\PySem.W.tabIn K x=some (cd,a)/\zmK H ps l c (x++".<locals>."++"<lambda>")
def zmu {ad ad':List Addr}{H H':Hp}{v:Value}{q:Str}(g:zhF H v q)(w:Wr ad H ad' H'):zhF H' v q :=
 let ⟨c,oc,vs,t,u,e,h,r⟩:=g;⟨c,oc,vs,t,u,e,w.frz _ _ _ h,r⟩
class Bs where
 ad:List Addr
 H:Hp
structure zE [B:Bs](K:PySem.W.Frag)(ad:List Addr)(H:Hp)(S:Sto):Prop where
 wd:Wd B.ad B.H ad H
 len:ad.length=S.length
 nd:ad.Nodup
 cell:∀ (n:Nat) (a:Addr) (c:Cell),ad[n]?=some a->S[n]?=some c->zb8 K ad H a c
structure zan (K:PySem.W.Frag)(ad:List Addr)(H:Hp)(Z:Rho)(U:L2.St):Prop where
 len:Z.length=U.length
 val:∀ (i:Nat) (d:D),Z[i]?=some (some d)->∃ v,U[i]?=some (some v)/\Rel K ad H d v
theorem zan.wd {K:PySem.W.Frag}{ad ad':List Addr}{H H':Hp}{Z:Rho}{U:L2.St}(h:zan K ad H Z U)(w:Wd ad H ad' H'):zan K ad' H' Z U :=
 ⟨h.len,fun i d e=>let ⟨v,e',r⟩:=h.val i d e;⟨v,e',r.wd w⟩⟩
variable [B:Bs]
section
variable {K:PySem.W.Frag}{ad:List Addr}{H:Hp}{S:Sto}
def zE.get (st:zE K ad H S){n:Nat}{c:Cell}(h:S[n]?=some c):∃ a,ad[n]?=some a/\zb8 K ad H a c:=by
 have hn:n<ad.length:=by rw[st.len];exact My.zaO h
 exact⟨ad[n],qc hn,st.cell n _ c (qc hn) h⟩
theorem zb8.some {a:Addr}{c:Cell}(h:zb8 K ad H a c):∃ o,H a=some o:=by
 cases c with
 |lst ds=>obtain⟨vs,e,_⟩:=h;exact⟨_,e⟩
 |ins c fs=>obtain⟨C,dx,vs,e,_⟩:=h;exact⟨_,e⟩
 |dk kvs=>obtain⟨vs,e,_⟩:=h;exact⟨_,e⟩
 |dt kvs=>obtain⟨vs,e,_⟩:=h;exact⟨_,e⟩
 |tab x l c=>obtain⟨ps,cd,e,_⟩:=h;exact⟨_,e⟩
def zE.there (st:zE K ad H S){a:Addr}(h:a∈ad):∃ o,H a=some o:=by
 obtain⟨n,hn,e⟩:=qab.mp h;have e':ad[n]?=some a:=by rw[qc hn,e]
 have hs:n<S.length:=by rw[<- st.len];exact hn
 exact(st.cell n a S[n] e' (qc hs)).some
def zE.fresh (st:zE K ad H S){l:Addr}(h:H l=none):l∉ad:=fun m=>by
 obtain⟨o,e⟩:=st.there m;rw[h]at e;cases e
theorem zb8.wr {ad':List Addr}{H':Hp}{a:Addr}{c:Cell}(h:zb8 K ad H a c)(w:Wr ad H ad' H')(same:H' a=H a):zb8 K ad' H' a c:=by
 cases c with
 |lst ds=>obtain⟨vs,e,r⟩:=h;exact⟨vs,same.trans e,zy.wr w r⟩
 |ins c fs=>obtain⟨C,dx,vs,e,c1,c2,r,n⟩:=h;exact⟨C,dx,vs,same.trans e,c1,c2,zaL.wr w r,n⟩
 |dk kvs=>obtain⟨vs,e,r⟩:=h;exact⟨vs,same.trans e,RelK.wr w r⟩
 |dt kvs=>obtain⟨vs,e,r⟩:=h;exact⟨vs,same.trans e,zaz.wr w r⟩
 |tab x l c=>obtain⟨ps,cd,e,t,g⟩:=h;exact⟨ps,cd,same.trans e,t,g.imp id fun⟨c,e,g⟩=>⟨c,e,zmu g w⟩⟩
def zb8.wd {ad':List Addr}{H':Hp}{a:Addr}{c:Cell}(h:zb8 K ad H a c)(w:Wd ad H ad' H')(same:H' a=H a):zb8 K ad' H' a c:=h.wr w.wr same
def Wd.laid {l:Addr}{o:HO}(h:H l=none):Wd ad H ad (upd H l o) :=
 ⟨List.prefix_refl _,fun b u _ e=>zdH h e,fun b u e=>zdH h e,fun b u w e=>zdH h e,fun _ m n=>absurd m n⟩
def zE.bfree (st:zE K ad H S){p:Addr}(h:H p=none):B.H p=none:=by
 cases e:B.H p with
 |none=>rfl
 |some o =>
  by_cases m:p∈B.ad
  ·obtain⟨u,hu⟩:=st.there (st.wd.pre.subset m);rw[h]at hu;cases hu
  ·rw[st.wd.keep p o m e]at h;cases h
theorem zE.laid (st:zE K ad H S){l:Addr}{o:HO}(h:H l=none):zE K ad (upd H l o) S :=
 ⟨st.wd.trans (Wd.laid h),st.len,st.nd,fun n a c e1 e2=>(st.cell n a c e1 e2).wd (Wd.laid h) (by
  obtain⟨u,e⟩:=(st.cell n a c e1 e2).some;rw[zdH h e,e])⟩
def Wd.newL (st:zE K ad H S){l:Addr}{o:HO}(h:H l=none):Wd ad H (ad++[l]) (upd H l o) :=
 ⟨List.prefix_append _ _,fun b u _ e=>zdH h e,fun b u e=>zdH h e,fun b u w e=>zdH h e,fun b m n=>by
  rcases qF.mp m with m|m
  ·exact absurd m n
  ·have:b=l:=by simpa using m
   subst this;exact h⟩
theorem zE.newL (st:zE K ad H S){l:Addr}{vs:List V}{ds:List D}(h:H l=none)(r:zy K ad H ds vs):zE K (ad++[l]) (upd H l (.lst vs)) (S++[.lst ds]) where
 wd:=st.wd.trans (Wd.newL st h)
 len:=by rw[qi,qi,st.len];rfl
 nd:=by
  rw[List.nodup_append];refine⟨st.nd,by simp,fun a ha b hb e=>?_⟩;have:b=l:=by simpa using hb
  subst this;subst e;exact st.fresh h ha
 cell:=fun n a c e1 e2=>by
  by_cases hn:n<ad.length
  ·rw[qu hn]at e1;rw[qu (by rw[<- st.len];exact hn)]at e2;have ok:=st.cell n a c e1 e2;obtain⟨u,e⟩:=ok.some;exact ok.wd (Wd.newL st h) (by rw[zdH h e,e])
  ·have hn':ad.length<=n:=Nat.le_of_not_lt hn;rw[qj hn']at e1;rw[qj (by rw[<- st.len];exact hn'),<- st.len]at e2;cases hk:n-ad.length with
   |zero =>
    rw[hk]at e1 e2;have e1':l=a:=by simpa using e1
    have e2':Cell.lst ds=c:=by simpa using e2
    subst e1' e2';exact⟨vs,zY,r.wd (Wd.newL st h)⟩
   |succ k=>rw[hk]at e1;simp at e1
def zE.newRef (st:zE K ad H S){l:Addr}{o:HO}:Rel K (ad++[l]) (upd H l o) (.ref S.length) (.ref l):=.ref (by rw[<- st.len,qj (qe _),Nat.sub_self];rfl)
def Wd.put {n:Nat}{a:Addr}{vs ws:List V}(e:ad[n]?=some a)(h:H a=some (.lst vs)):Wd ad H ad (upd H a (.lst ws)) :=
 ⟨List.prefix_refl _,fun b u hb q=>by
   have:b≠a:=fun z=>hb (by rw[z];exact qf e)
   rw[zL this];exact q,
  fun b xs q=>by rw[zL (zc7 q h (by intro z;cases z))];exact q,fun b o u q=>by rw[zL (zc7 q h (by intro z;cases z))];exact q,fun _ m n=>absurd m n⟩
theorem zE.put (st:zE K ad H S){n:Nat}{a:Addr}{vs ws:List V}{ds:List D}(e:ad[n]?=some a)(h:H a=some (.lst vs))(r:zy K ad H ds ws):zE K ad (upd H a (.lst ws)) (S.set n (.lst ds)) where
 wd:=st.wd.trans (Wd.put e h)
 len:=by rw[qad];exact st.len
 nd:=st.nd
 cell:=fun m b c e1 e2=>by
  have w:=Wd.put (ws:=ws) e h;by_cases hm:m=n
  ·subst hm;rw[e]at e1;cases e1;rw[qS (by rw[<- st.len];exact My.zaO e)]at e2;cases e2;exact⟨ws,zY,r.wd w⟩
  ·rw[qN (Ne.symm hm)]at e2
   have ne:b≠a:=fun z=>by
    subst z;have h1:=My.zaO e1;have h2:=My.zaO e;have q1:=(qG.mp e1).2;have q2:=(qG.mp e).2;exact hm ((List.getElem_inj st.nd).mp (q1.trans q2.symm))
   exact(st.cell m b c e1 e2).wd w (zL ne)
def zE.newI (st:zE K ad H S){x dx C:Addr}{c:Str}(h:H x=none)(h2:H dx=none)(hne:dx≠x)(hc:Cls K C)(hn:PySem.W.nsIn K mainGlobals c=some (some (.ref C))) :
  Wd ad H (ad++[x]) (upd (upd H dx (.own x)) x (.ins C dx []))/\zE K (ad++[x]) (upd (upd H dx (.own x)) x (.ins C dx [])) (S++[.ins c []]):=by
 have st1:=st.laid (o:=.own x) h2;have hx:upd H dx (.own x) x=none:=by rw[zL (Ne.symm hne)];exact h
 have w1:Wd ad H ad (upd H dx (.own x)):=Wd.laid h2;have w2:Wd ad (upd H dx (.own x)) (ad++[x]) (upd (upd H dx (.own x)) x (.ins C dx [])):=Wd.newL st1 hx;refine⟨w1.trans w2,st.wd.trans (w1.trans w2),?_,?_,fun n a c' e1 e2=>?_⟩
 ·rw[qi,qi,st.len];rfl
 ·rw[List.nodup_append];refine⟨st.nd,by simp,fun a ha b hb e=>?_⟩;have:b=x:=by simpa using hb
  subst this;subst e;exact st.fresh h ha
 ·by_cases hn':n<ad.length
  ·rw[qu hn']at e1;rw[qu (by rw[<- st.len];exact hn')]at e2;have ok:=st1.cell n a c' e1 e2;obtain⟨u,e⟩:=ok.some;exact ok.wd w2 (by rw[zdH hx e,e])
  ·have hn':ad.length<=n:=Nat.le_of_not_lt hn';rw[qj hn']at e1;rw[qj (by rw[<- st.len];exact hn'),<- st.len]at e2;cases hk:n-ad.length with
   |zero =>
    rw[hk]at e1 e2;have e1':x=a:=by simpa using e1
    have e2':Cell.ins c []=c':=by simpa using e2
    subst e1' e2';exact⟨C,dx,[],zY,hc,hn,.nil,fun q hq=>by cases hq⟩
   |succ k=>rw[hk]at e1;simp at e1
def Wd.putI {n:Nat}{a C dx C' dx':Addr}{vs ws:List (Str×V)}(e:ad[n]?=some a)(h:H a=some (.ins C dx vs)):Wd ad H ad (upd H a (.ins C' dx' ws)) :=
 ⟨List.prefix_refl _,fun b u hb q=>by
   have:b≠a:=fun z=>hb (by rw[z];exact qf e)
   rw[zL this];exact q,
  fun b xs q=>by rw[zL (zc7 q h (by intro z;cases z))];exact q,fun b o u q=>by rw[zL (zc7 q h (by intro z;cases z))];exact q,fun _ m n=>absurd m n⟩
theorem zE.putI (st:zE K ad H S){n:Nat}{a C dx:Addr}{c f:Str}{vs:List (Str×V)}{fs:List (Str×D)}{d:D}{v:V}(e:ad[n]?=some a)(h:H a=some (.ins C dx vs))(hc:Cls K C)(hn:PySem.W.nsIn K mainGlobals c=some (some (.ref C)))(rf:zaL K ad H fs vs)(hna:∀ q∈fs,zap K C q.1)(hf:zap K C f)(r:Rel K ad H d v) :
  zE K ad (upd H a (.ins C dx (zbK f v vs))) (S.set n (.ins c (putD f d fs))) where
 wd:=st.wd.trans (Wd.putI e h)
 len:=by rw[qad];exact st.len
 nd:=st.nd
 cell:=fun m b c' e1 e2=>by
  have w:Wd ad H ad (upd H a (.ins C dx (zbK f v vs))):=Wd.putI e h;by_cases hm:m=n
  ·subst hm;rw[e]at e1;cases e1;rw[qS (by rw[<- st.len];exact My.zaO e)]at e2;cases e2;refine⟨C,dx,_,zY,hc,hn,zaL.wr w.wr (zaL.put r rf),fun q hq=>?_⟩;rcases zki hq with h1|h1
   ·rw[h1];exact hf
   ·exact hna q h1
  ·rw[qN (Ne.symm hm)]at e2
   have ne:b≠a:=fun z=>by
    subst z;have q1:=(qG.mp e1).2;have q2:=(qG.mp e).2;exact hm ((List.getElem_inj st.nd).mp (q1.trans q2.symm))
   exact(st.cell m b c' e1 e2).wd w (zL ne)
def Wd.hid {ad':List Addr}{H':Hp}{p:Addr}{o:HO}(w:Wd ad H ad' H')(hp:H p=none):Wd ad H ad' (upd H' p o) :=
 ⟨w.pre,fun b u hb q=>by rw[zL (zbi q hp)];exact w.keep b u hb q,fun b u q=>by rw[zL (zbi q hp)];exact w.tup b u q,fun b u v q=>by rw[zL (zbi q hp)];exact w.frz b u v q,w.new⟩
def Wr.hid {p:Addr}{vs ws:List V}(h:H p=some (.lst vs)):Wr ad H ad (upd H p (.lst ws)) :=
 ⟨List.prefix_refl _,fun b xs q=>by rw[zL (zc7 q h (by intro z;cases z))];exact q,fun b o u q=>by rw[zL (zc7 q h (by intro z;cases z))];exact q⟩
theorem zE.hid (st:zE K ad H S){p:Addr}{vs ws:List V}(h:H p=some (.lst vs))(hp:p∉ad)(hb:B.H p=none):zE K ad (upd H p (.lst ws)) S :=
 ⟨st.wd.hid hb,st.len,st.nd,fun n a c e1 e2=>(st.cell n a c e1 e2).wr (Wr.hid h) (zL fun z=>hp (by rw[<- z];exact qf e1))⟩
def Wd.add {ad':List Addr}{H':Hp}{p:Addr}(w:Wd ad H ad' H')(hp:H p=none):Wd ad H (ad'++[p]) H' :=
 ⟨w.pre.trans (List.prefix_append _ _),w.keep,w.tup,w.frz,fun b m n=>by
  rcases qF.mp m with m|m
  ·exact w.new b m n
  ·have:b=p:=by simpa using m
   subst this;exact hp⟩
theorem zE.add (st:zE K ad H S){p:Addr}{vs:List V}{ds:List D}(h:H p=some (.lst vs))(hp:p∉ad)(r:zy K ad H ds vs)(hb:B.H p=none):zE K (ad++[p]) H (S++[.lst ds]) where
 wd:=st.wd.add hb
 len:=by rw[qi,qi,st.len];rfl
 nd:=by
  rw[List.nodup_append];refine⟨st.nd,by simp,fun a ha b hb e=>?_⟩;have:b=p:=by simpa using hb
  subst this;subst e;exact hp ha
 cell:=fun n a c e1 e2=>by
  have w:Wr ad H (ad++[p]) H:=⟨List.prefix_append _ _,fun _ _ q=>q,fun _ _ _ q=>q⟩
  by_cases hn:n<ad.length
  ·rw[qu hn]at e1;rw[qu (by rw[<- st.len];exact hn)]at e2;exact(st.cell n a c e1 e2).wr w rfl
  ·have hn':ad.length<=n:=Nat.le_of_not_lt hn;rw[qj hn']at e1;rw[qj (by rw[<- st.len];exact hn'),<- st.len]at e2;cases hk:n-ad.length with
   |zero =>
    rw[hk]at e1 e2;have e1':p=a:=by simpa using e1
    have e2':Cell.lst ds=c:=by simpa using e2
    subst e1' e2';exact⟨vs,h,zy.wr w r⟩
   |succ k=>rw[hk]at e1;simp at e1
theorem Lst.sq (st:zE K ad H S){x:D}{xs:List D}{v:V}(h:Lst S x xs)(r:Rel K ad H x v):∃ a vs,v=.ref a/\SqL K H a vs/\zy K ad H xs vs:=by
 rcases h with rfl|⟨n,rfl,h⟩
 ·cases r with
  |rl h r=>exact⟨_,_,rfl,h.sq,r⟩
 ·cases r with
  |ref e =>
   obtain⟨vs,e2,r⟩:=st.cell n _ _ e h;exact⟨_,vs,rfl,SqL.of e2,r⟩
theorem zdi.sq (st:zE K ad H S){x:D}{xs:List D}{v:V}(h:zdi S x xs)(r:Rel K ad H x v):∃ a vs,v=.ref a/\(SqL K H a vs\/SqT K H a vs)/\zy K ad H xs vs:=by
 rcases h with rfl|h
 ·cases r with
  |tup h r=>exact⟨_,_,rfl,.inr (SqT.of h),r⟩
 ·obtain⟨a,vs,e,s,r⟩:=Lst.sq st h r;exact⟨a,vs,e,.inl s,r⟩
end
omit B in
def el8 {a b c d:Type}{p1 p2 p3 p4:a->b->c->d->Prop}{R:Prop}(h:∃ (x:a) (y:b) (z:c) (w:d),p1 x y z w/\p2 x y z w/\p3 x y z w/\p4 x y z w)(f:∀ (x:a) (y:b) (z:c) (w:d),p1 x y z w->p2 x y z w->p3 x y z w->p4 x y z w->R):R :=
 Exists.elim h fun x h=>Exists.elim h fun y h=>Exists.elim h fun z h=>Exists.elim h fun w h=>f x y z w h.1 h.2.1 h.2.2.1 h.2.2.2
def KK (K:PySem.W.Frag)(ad:List Addr)(H:Hp)(Q0:DK)(Q:VK):Prop:=∀ d S' v H' ad',Q0 d S'->Wd ad H ad' H'->zE K ad' H' S'->Rel K ad' H' d v->Q v H'
def KK.wd {K:PySem.W.Frag}{ad ad':List Addr}{H H':Hp}{Q0:DK}{Q:VK}(k:KK K ad H Q0 Q)(w:Wd ad H ad' H'):KK K ad' H' Q0 Q:=fun d S' v H' ad' q w'=>k d S' v H' ad' q (w.trans w')
def up (K:PySem.W.Frag)(t:DE):TE:=fun U H Q=>∃ ad Z S Q0,zE K ad H S/\zan K ad H Z U/\t Z S Q0/\KK K ad H Q0 Q
def upT (K:PySem.W.Frag)(t:DT):TT:=fun U H Q=>∃ ad Z S Q0,zE K ad H S/\zan K ad H Z U/\t Z S Q0/\∀ b S' H' ad',Q0 b S'->Wd ad H ad' H'->zE K ad' H' S'->Q b H'
def upA (K:PySem.W.Frag)(t:DA):TA:=fun U H Q=>∃ ad Z S Q0,zE K ad H S/\zan K ad H Z U/\t Z S Q0/\∀ ds S' vs H' ad',Q0 ds S'->Wd ad H ad' H'->zE K ad' H' S'->zy K ad' H' ds vs->Q vs H'
def zE.base {K:PySem.W.Frag}{ad:List Addr}{H:Hp}{S:Sto}(st:zE K ad H S):@zE ⟨ad,H⟩ K ad H S:=@zE.mk ⟨ad,H⟩ _ _ _ _ Wd.refl st.len st.nd st.cell
def zE.back {K:PySem.W.Frag}{ad ad':List Addr}{H H':Hp}{S S':Sto}(st:zE K ad H S)(st':@zE ⟨ad,H⟩ K ad' H' S'):zE K ad' H' S' :=
 ⟨st.wd.trans (@zE.wd ⟨ad,H⟩ _ _ _ _ st'),@zE.len ⟨ad,H⟩ _ _ _ _ st',@zE.nd ⟨ad,H⟩ _ _ _ _ st',@zE.cell ⟨ad,H⟩ _ _ _ _ st'⟩
def KK.base {K:PySem.W.Frag}{ad:List Addr}{H:Hp}{S:Sto}{Q0:DK}{Q:VK}(st:zE K ad H S)(k:KK K ad H Q0 Q):@KK ⟨ad,H⟩ K ad H Q0 Q:=fun d S' v H' ad' q w st' r=>k d S' v H' ad' q w (st.back st') r
def upF (K:PySem.W.Frag)(f:DSp):Sp:=fun vs H Q _=>∃ ad S ds Q0,@zE ⟨ad,H⟩ K ad H S/\zy K ad H ds vs/\f ds S Q0/\@KK ⟨ad,H⟩ K ad H Q0 Q
structure zdO (K:PySem.W.Frag)(ad:List Addr)(H:Hp)(E0:zjU)(E:Ends):Prop where
 nx:∀ Z S U H' ad',E0.nx Z S->Wd ad H ad' H'->zE K ad' H' S->zan K ad' H' Z U->E.nx U H'
 rt:KK K ad H E0.rt E.rt
 bk:∀ Z S U H' ad',E0.bk Z S->Wd ad H ad' H'->zE K ad' H' S->zan K ad' H' Z U->E.bk U H'
 ct:∀ Z S U H' ad',E0.ct Z S->Wd ad H ad' H'->zE K ad' H' S->zan K ad' H' Z U->E.ct U H'
theorem zdO.wd {K:PySem.W.Frag}{ad ad':List Addr}{H H':Hp}{E0:zjU}{E:Ends}(k:zdO K ad H E0 E)(w:Wd ad H ad' H'):zdO K ad' H' E0 E :=
 ⟨fun Z S U H' ad' q w'=>k.nx Z S U H' ad' q (w.trans w'),k.rt.wd w,fun Z S U H' ad' q w'=>k.bk Z S U H' ad' q (w.trans w'),fun Z S U H' ad' q w'=>k.ct Z S U H' ad' q (w.trans w')⟩
def upS (K:PySem.W.Frag)(t:DS):TS:=fun E U H=>∃ ad Z S E0,zE K ad H S/\zan K ad H Z U/\t E0 Z S/\zdO K ad H E0 E
@[irreducible] def PD (X:Cx)(e:Expr)(t:DE):Prop:=PE X e (up X.K t)
@[irreducible] def PTD (X:Cx)(e:Expr)(t:DT):Prop:=PT X e (upT X.K t)
@[irreducible] def PWD (X:Cx)(e:Expr)(t:DT):Prop:=PW X e (upT X.K t)
@[irreducible] def PAD (X:Cx)(es:List Expr)(t:DA):Prop:=PA X es (upA X.K t)
@[irreducible] def PSD (X:Cx)(st:Stmt)(t:DS):Prop:=PS X st (upS X.K t)
@[irreducible] def zcw (X:Cx)(st:List Stmt)(t:DS):Prop:=PSs X st (upS X.K t)
def zmy {X:Cx}{e:Expr}{t t':TE}(h:PE X e t)(m:∀ U H Q,t' U H Q->t U H Q):PE X e t':=fun pins s U H Q I q=>h pins s U H Q I (m U H Q q)
def zdx {X:Cx}{e:Expr}{t t':TT}(h:PT X e t)(m:∀ U H Q,t' U H Q->t U H Q):PT X e t':=fun pins s U H Q I q=>h pins s U H Q I (m U H Q q)
def zmi {X:Cx}{e:Expr}{t t':TT}(h:PW X e t)(m:∀ U H Q,t' U H Q->t U H Q):PW X e t':=fun wh pins s U H Q I q=>h wh pins s U H Q I (m U H Q q)
def zmh {X:Cx}{e:List Expr}{t t':TA}(h:PA X e t)(m:∀ U H Q,t' U H Q->t U H Q):PA X e t':=fun pos pins s U H Q I q=>h pos pins s U H Q I (m U H Q q)
def zbn {X:Cx}{st:Stmt}{t t':TS}(h:PS X st t)(m:∀ D U H,t' D U H->t D U H):PS X st t':=fun pins s U H D I q=>h pins s U H D I (m D U H q)
def zke {X:Cx}{st:List Stmt}{t t':TS}(h:PSs X st t)(m:∀ D U H,t' D U H->t D U H):PSs X st t':=fun pins s U H D I q=>h pins s U H D I (m D U H q)
section
variable {X:Cx}{a b c:Expr}{ta tb tc:DE}{pos:Pos}
def zaG {e:Expr}{t:TE}{d:DE}(h:PE X e t)(m:∀ U H Q,up X.K d U H Q->t U H Q):PD X e d:=by with_unfolding_all exact(zmy h m)
def ziC {e:Expr}{i:Nat}(h:PE X e (zqO i)):PD X e (zbH i):=by with_unfolding_all exact(zaG h fun U H Q ⟨ad,Z,S,Q0,st,rh,⟨d,e,q⟩,k⟩=>by
 obtain⟨v,ev,r⟩:=rh.val i d e;exact⟨v,ev,k d S v H ad q Wd.refl st r⟩)
def zgc {e:Expr}{v:V}{d:D}(h:PE X e (tC v))(r:∀ ad H,Rel X.K ad H d v):PD X e (dC d):=by with_unfolding_all exact(zaG h fun U H Q hh=>el8 hh fun ad Z S Q0 st rh q k=>k d S v H ad q Wd.refl st (r _ _))
def zp {i j}:PD X (.Constant (.int i) j pos) (dC (.int i)):=by with_unfolding_all exact(zgc zkF fun _ _=>.int i)
def zbP {b j}:PD X (.Constant (.bool b) j pos) (dC (.bl b)):=by with_unfolding_all exact(zgc zwi fun _ _=>.bl b)
def zaW {j}:PD X (.Constant .none j pos) (dC .non):=by with_unfolding_all exact(zgc zvm fun _ _=>.non)
def zbB {x j}:PD X (.Constant (.str x) j pos) (dC (.str x)):=by with_unfolding_all exact(zgc zt1 fun _ _=>.str x)
def zjW {x:Str}{T:String}(hg:Gl X x)(hm:X.mg x=none)(hv:bootBuiltins x=some (.type T))(hn:x≠"__name__":=by decide)(hd:(x==("__debug__":Str))=false:=by decide):PD X (.Name x pos) (dC (.ty T)):=by with_unfolding_all exact(zgc (zxe hg hm hv hn hd) fun _ _=>.ty T)
def zR {x:Str}{n:Int}(hg:Gl X x)(hm:∃ t,X.mg x=some (.int n t))(hd:(x==("__debug__":Str))=false:=by decide):PD X (.Name x pos) (dC (.int n)):=by with_unfolding_all exact(zgc (zsf hg hm hd) fun _ _=>.int n)
def zsG {x z:Str}(hg:Gl X x)(hm:∃ t,X.mg x=some (.str z t))(hd:(x==("__debug__":Str))=false:=by decide):PD X (.Name x pos) (dC (.str z)):=by with_unfolding_all exact(zgc (by obtain⟨t,hm⟩:=hm;exact zmz (v:=.str z) hg hm ⟨t,rfl⟩ hd) fun _ _=>.str z)
def za3 {i j:Int}{m n:Nat}{p1 p2:Pos}(c:Int)(h:i ^ j.toNat=c)(h0:0<=j/\j<=1000000/\i.natAbs<2 ^ 64):PD X (.BinOp (.Constant (.int i) m p1) .Pow (.Constant (.int j) n p2) pos) (dC (.int c)):=by with_unfolding_all exact(zgc (ztG c h h0) fun _ _=>.int c)
def OD (K:PySem.W.Frag)(r':DR2)(r:R2):Prop:=∀ ad H S x y v u Q0 Q,zE K ad H S->Rel K ad H x v->Rel K ad H y u->r' x y S Q0->KK K ad H Q0 Q->r v u H Q
def zgC {K:PySem.W.Frag}{r':DR2}{r:R2}(o:OD K r' r){U:L2.St}{H:Hp}{Q:VK}(h:up K (dOp r' ta tb) U H Q):tOp r (up K ta) (up K tb) U H Q:=by
 obtain⟨ad,Z,S,Q0,st,rh,q,k⟩:=h;refine⟨ad,Z,S,_,st,rh,q,fun x S1 v H1 ad1 q1 w1 st1 r1=>?_⟩;refine⟨ad1,Z,S1,_,st1,rh.wd w1,q1,fun y S2 u H2 ad2 q2 w2 st2 r2=>?_⟩;exact o ad2 H2 S2 x y v u Q0 Q st2 (r1.wd w2) r2 q2 (k.wd (w1.trans w2))
def zim {op:Operator}{r':DR2}{r:R2}(ho:OpR X (binaryOp op) r)(o:OD X.K r' r)(ha:PD X a ta)(hb:PD X b tb):PD X (.BinOp a op b pos) (dOp r' ta tb):=by with_unfolding_all exact(zaG (zrM ho ha hb) fun _ _ _=>zgC o)
def zmR {K:PySem.W.Frag}{C C':Int->Int->Prop}{g:Int->Int->D}{g':Int->Int->V}(hc:∀ i j,C i j->C' i j)(hg:∀ ad H i j,Rel K ad H (g i j) (g' i j)):OD K (oI C g) (rI C' g'):=fun ad H S x y v u Q0 Q st rx ry ⟨i,j,ex,ey,c,q⟩ k=>by
 subst ex ey;cases rx;cases ry;exact⟨i,j,rfl,rfl,hc i j c,k _ S _ H ad q Wd.refl st (hg ad H i j)⟩
def zhU {K:PySem.W.Frag}{g:Int->Int->D}{g':Int->Int->V}(hg:∀ ad H i j,Rel K ad H (g i j) (g' i j)):OD K (oI0 g) (rI0 g'):=fun ad H S x y v u Q0 Q st rx ry ⟨i,j,ex,ey,q⟩ k=>by
 subst ex ey;cases rx;cases ry;exact⟨i,j,rfl,rfl,k _ S _ H ad q Wd.refl st (hg ad H i j)⟩
def znU {i:Int}(h:i.natAbs<2 ^ 64):-(2 ^ 64)<i/\i<2 ^ 64:=⟨by lia,by lia⟩
def zwr (i j:Int):Prop:=zaP i j
def zsX:OpR X (binaryOp .Mult) (rI zwr fun i j=>.int (i*j)):=opI fun i j _ _ _ _ _ hc q=>by
 rcases hc with h|h|h
 ·exact mul_int q (IntMulOk.of_bits (zh6 h.1) (zh6 h.2))
 ·exact mul_int q (zmN.ok (.inl (znU h)))
 ·exact mul_int q (zmN.ok (.inr (znU h)))
def zW (ha:PD X a ta)(hb:PD X b tb):PD X (.BinOp a .Sub b pos) (dOp zam ta tb):=by with_unfolding_all exact(zim zuG (zhU fun _ _ i j=>.int (i-j)) ha hb)
def zu2 {z:Str}{n:Int}(hz:z.length<=1000)(h0:-1000<=n)(h1:n<=1000):MulOk z n:=by
 refine⟨?_,fun _ _=>?_,fun h _=>?_⟩
 ·rw[decide_eq_false (by lia),decide_eq_false (by lia)];rfl
 ·have:(1000:Int)<=(2 ^ 63-1)/n\/n<1:=by
   rcases Int.lt_or_le n 1 with g|g
   ·exact .inr g
   ·exact .inl ((Int.le_ediv_iff_mul_le (by lia)).mpr (by lia))
  lia
 ·have:z.length*n.toNat<=1000*1000:=Nat.mul_le_mul hz (by lia);have hs:z.length*n.toNat<=sizeLine:=qR this (by decide)
  first
   |exact decide_eq_false (by lia)
   |(unfold tooLong;exact decide_eq_false (by lia))
   |simp[tooLong];lia
def zsj:OpR X (binaryOp .Mult) (fun x y H Q=>∃ z n,x=.str z/\y=.int n/\MulOk z n/\Q (.str (Txt.mul z n)) H):=by
 intro pins s U H x y v u Q I rx ry h;obtain⟨z,n,rfl,rfl,ok,q⟩:=h;obtain⟨t,rfl⟩:=rx;obtain⟨t',rfl⟩:=ry;exact SB.mul ok fun t' k=>⟨.str (Txt.mul z n),H,I.tok _,⟨_,rfl⟩,q⟩
omit B in
def zmd {i:Int}(h:Hg i):Builtin.Int.intBits i<=2 ^ 20:=by
 unfold Hg at h;exact intBits_le h
omit B in
def zr5 {i:Int}(h:Builtin.Int.intBits i<=2 ^ 20):Hg i:=by
 unfold Hg;exact qr (natAbs_lt_pow_bits i) (Nat.pow_le_pow_right (by decide) h)
def ztn:OpR X (binaryOp .Mult) (rI (fun i j=>Hg i/\Hg j) fun i j=>.int (i*j)):=opI fun i j _ _ _ _ _ hc q=>mul_int q (IntMulOk.of_bits (zmd hc.1) (zmd hc.2))
def zaF (ha:PD X a ta)(hb:PD X b tb):PD X (.BinOp a .Mult b pos) (dOp zbj ta tb):=by with_unfolding_all exact(zim (zsX.or (zsj.or ztn)) (fun ad H S x y v u Q0 Q st rx ry h k=>by
 rcases h with h|⟨z,n,rfl,rfl,hz,h0,h1,q⟩|h
 ·exact .inl (zmR (fun _ _ h=>h) (fun _ _ i j=>.int (i*j)) ad H S x y v u Q0 Q st rx ry h k)
 ·cases rx;cases ry;exact .inr (.inl ⟨z,n,rfl,rfl,zu2 hz h0 h1,k _ S _ H ad q Wd.refl st (.str _)⟩)
 ·exact .inr (.inr (zmR (fun _ _ h=>h) (fun _ _ i j=>.int (i*j)) ad H S x y v u Q0 Q st rx ry h k))) ha hb)
def zaC (ha:PD X a ta)(hb:PD X b tb):PD X (.BinOp a .FloorDiv b pos) (dOp oDiv ta tb):=by with_unfolding_all exact(zim zpF (zmR (fun _ _ h=>h) fun _ _ i j=>.int (i.fdiv j)) ha hb)
def zae (ha:PD X a ta)(hb:PD X b tb):PD X (.BinOp a .Mod b pos) (dOp oMod ta tb):=by with_unfolding_all exact(zim ztd (zmR (fun _ _ h=>h) fun _ _ i j=>.int (i.fmod j)) ha hb)
def zcx {n:Nat}(h:n<=big):n<=sizeLine:=qR h (by decide)
def ziG {n:Nat}(h:n<big):n<sizeLine:=qr h (by decide)
def ze5 {K:PySem.W.Frag}{ad:List Addr}{H:Hp}{S:Sto}{Q0:DK}{Q:VK}{ds:List D}{vs:List V}(st:zE K ad H S)(k:KK K ad H Q0 Q)(r:zy K ad H ds vs)(q:Q0 (.ref S.length) (S++[.lst ds]))(l:Addr)(h:H l=none):Q (.ref l) (upd H l (.lst vs)) :=
 k _ _ _ _ _ q (Wd.newL st h) (st.newL h r) st.newRef
def zif {K:PySem.W.Frag}{ad:List Addr}{H:Hp}{S:Sto}{Q0:DK}{Q:VK}{ds:List D}{vs:List V}(st:zE K ad H S)(k:KK K ad H Q0 Q)(r:zy K ad H ds vs)(q:Q0 (.tup ds) S)(l:Addr)(h:H l=none):Q (.ref l) (upd H l (.tup vs)) :=
 k _ _ _ _ _ q (Wd.laid h) (st.laid h) (.tup zY (r.wd (Wd.laid h)))
def z9 (ha:PD X a ta)(hb:PD X b tb):PD X (.BinOp a .Add b pos) (dOp zao ta tb):=by with_unfolding_all exact(zim (zvG.or ((zp8 rfl).or ((zsx rfl).or zm2))) (fun ad H S x y v u Q0 Q st rx ry h k=>by
  rcases h with⟨i,j,rfl,rfl,q⟩|⟨xs,ys,rfl,rfl,hz,q⟩|⟨xs,ys,hx,hy,hz,q⟩|⟨i,j,rfl,rfl,hz,q⟩
  ·cases rx;cases ry;exact .inl ⟨i,j,rfl,rfl,k _ S _ H ad q Wd.refl st (.int _)⟩
  ·cases rx with
   |tup h1 r1 =>
    cases ry with
    |tup h2 r2 =>
     have l1:=r1.length;have l2:=r2.length;refine .inr (.inl ⟨_,_,_,_,rfl,rfl,SqT.of h1,SqT.of h2,by rw[<- l1,<- l2];exact zcx hz,fun e=>?_,fun _ e=>?_,fun _ _ p hp=>zif st k (r1.append r2) q p hp⟩)
     ·have e':xs=[]:=List.length_eq_zero_iff.mp (by rw[l1,e];rfl);subst e';exact k _ S _ H ad q Wd.refl st (.tup h2 r2)
     ·have e':ys=[]:=List.length_eq_zero_iff.mp (by rw[l2,e];rfl);subst e';rw[List.append_nil]at q;exact k _ S _ H ad q Wd.refl st (.tup h1 r1)
  ·obtain⟨a1,vs1,rfl,s1,r1⟩:=hx.sq st rx;obtain⟨a2,vs2,rfl,s2,r2⟩:=hy.sq st ry;exact .inr (.inr (.inl ⟨_,_,_,_,rfl,rfl,s1,s2,by rw[<- r1.length,<- r2.length];exact zcx hz,fun p hp=>ze5 st k (r1.append r2) q p hp⟩))
  ·cases rx;cases ry;exact .inr (.inr (.inr ⟨i,j,rfl,rfl,zcx hz,k _ S _ H ad q Wd.refl st (.str _)⟩))) ha hb)
def zbo (ha:PD X a ta):PD X (.UnaryOp .USub a pos) (dUn zck ta):=by with_unfolding_all exact(zaG (zvZ zu7 ha) fun U H Q hh=>el8 hh fun ad Z S Q0 st rh q k=>by
 refine⟨ad,Z,S,_,st,rh,q,fun x S1 v H1 ad1 q1 w1 st1 r1=>?_⟩;obtain⟨i,rfl,q1⟩:=q1;cases r1;exact⟨i,rfl,k _ _ _ _ _ q1 w1 st1 (.int _)⟩)
def OC (X:Cx)(op:CmpOp)(r':DR2):Prop:=∃ r,OpR X (compareOp op) r/\OD X.K r' r
def zbx:OC X .Lt oLt:=⟨_,zwY,zhU fun _ _ _ _=>.bl _⟩
def zee:OC X .LtE oLe:=⟨_,zxg,zhU fun _ _ _ _=>.bl _⟩
def zcr:OC X .Gt oGt:=⟨_,zwU,zhU fun _ _ _ _=>.bl _⟩
def zxx:OC X .GtE oGe:=⟨_,zwp,zhU fun _ _ _ _=>.bl _⟩
mutual
def pyD:D->PyData
 |.non=>.none
 |.bl b=>.bool b
 |.int i=>.int i
 |.str x=>.str x
 |.tup xs=>.tuple (zay xs)
 |.ref _=>.none
 |.ty _=>.none
 |.rl _=>.none
 |.exn _=>.none
def zay:List D->List PyData
 |[]=>[]
 |x::xs=>pyD x::zay xs
end
section
variable {pins:List (Addr×Obj)}{U:L2.St}{H:Hp}{s:Shared}{ad:List Addr}
def zep (I:Inv X pins U H s)(k:Nat)(h1:∀ d v u,fl k d=true->Rel X.K ad H d v->RelV v u->∃ as,Reads s.heap u (pyD d) as):∀ ds vs us,ds.all (fl k)=true->zy X.K ad H ds vs->Vals vs us->∃ as,ReadsAll s.heap us (zay ds) as:=by
 intro ds
 induction ds with
 |nil=>intro vs us _ r rv;cases r;cases rv;exact⟨_,.nil⟩
 |cons d ds ih =>
  intro vs us hf r rv;rw[List.all_cons,qA]at hf;cases r with
  |cons r t =>
   cases rv with
   |cons q qt =>
    obtain⟨as,ra⟩:=h1 d _ _ hf.1 r q;obtain⟨bs,rb⟩:=ih _ _ hf.2 t qt;exact⟨_,.cons ra rb⟩
def zch (I:Inv X pins U H s):∀ (k:Nat) (d:D) (v:V) (u:Value),fl k d=true->Rel X.K ad H d v->RelV v u->∃ as,Reads s.heap u (pyD d) as:=by
 intro k
 induction k with
 |zero =>
  intro d v u hf r q;cases r with
  |non=>cases q;exact⟨_,.none⟩
  |bl b=>cases q;exact⟨_,.bool b⟩
  |int i=>obtain⟨t,rfl⟩:=q;exact⟨_,.int i t⟩
  |str x=>obtain⟨t,rfl⟩:=q;exact⟨_,.str x t⟩
  |ty n=>cases hf
  |tup h r=>cases hf
  |rl h r=>cases hf
  |ref h=>cases hf
  |exn _ _ _=>cases hf
 |succ k ih =>
  intro d v u hf r q;cases r with
  |non=>cases q;exact⟨_,.none⟩
  |bl b=>cases q;exact⟨_,.bool b⟩
  |int i=>obtain⟨t,rfl⟩:=q;exact⟨_,.int i t⟩
  |str x=>obtain⟨t,rfl⟩:=q;exact⟨_,.str x t⟩
  |ty n=>cases hf
  |tup h r =>
   cases q;obtain⟨its,rv,ht,hz⟩:=I.tuple (SqT.of h);obtain⟨o,ho,hc,n,hd⟩:=ht;obtain⟨as,ra⟩:=zep I k ih _ _ _ hf r rv;exact⟨_,.tuple ho hc hd (by simpa using ra)⟩
  |rl h r=>cases hf
  |ref h=>cases hf
  |exn _ _ _=>cases hf
end
def ze9:∀ (k:Nat) (d:D),fl k d=true->(pyD d).canLay0=true/\(pyD d).depth<=k:=by
 have all:∀ k,(∀ d,fl k d=true->(pyD d).canLay0=true/\(pyD d).depth<=k)->∀ ds:List D,ds.all (fl k)=true->PyData.canLayAll0 (zay ds)=true/\PyData.depthAll (zay ds)<=k:=by
  intro k h ds
  induction ds with
  |nil=>intro _;exact⟨rfl,qP _⟩
  |cons d ds ih =>
   intro hf;rw[List.all_cons,qA]at hf;obtain⟨a1,a2⟩:=h d hf.1;obtain⟨b1,b2⟩:=ih hf.2;refine⟨?_,?_⟩
   ·show(PyData.canLay0 (pyD d)&&PyData.canLayAll0 (zay ds))=true;rw[a1,b1];rfl
   ·show max (PyData.depth (pyD d)) (PyData.depthAll (zay ds))<=k;exact Nat.max_le.mpr ⟨a2,b2⟩
 intro k
 induction k with
 |zero =>
  intro d hf;cases d with
  |non=>exact⟨rfl,qP _⟩
  |bl b=>exact⟨rfl,qP _⟩
  |int i=>exact⟨rfl,qP _⟩
  |str x=>exact⟨hf,qP _⟩
  |tup xs=>cases hf
  |ref n=>cases hf
  |exn _=>cases hf
  |ty n=>cases hf
  |rl xs=>cases hf
 |succ k ih =>
  intro d hf;cases d with
  |non=>exact⟨rfl,qP _⟩
  |bl b=>exact⟨rfl,qP _⟩
  |int i=>exact⟨rfl,qP _⟩
  |str x=>exact⟨hf,qP _⟩
  |tup xs =>
   obtain⟨h1,h2⟩:=all k ih xs hf;refine⟨h1,?_⟩;show PyData.depthAll (zay xs)+1<=k+1;lia
  |ref n=>cases hf
  |exn _=>cases hf
  |ty n=>cases hf
  |rl xs=>cases hf
def zdy (k:Nat):∀ ds:List D,ds.all (fl k)=true->PyData.canLayAll0 (zay ds)=true/\PyData.depthAll (zay ds)<=k:=by
 intro ds
 induction ds with
 |nil=>intro _;exact⟨rfl,qP _⟩
 |cons d ds ih =>
  intro hf;rw[List.all_cons,qA]at hf;obtain⟨a1,a2⟩:=ze9 k d hf.1;obtain⟨b1,b2⟩:=ih hf.2;refine⟨?_,?_⟩
  ·show(PyData.canLay0 (pyD d)&&PyData.canLayAll0 (zay ds))=true;rw[a1,b1];rfl
  ·show max (PyData.depth (pyD d)) (PyData.depthAll (zay ds))<=k;exact Nat.max_le.mpr ⟨a2,b2⟩
mutual
theorem zkt:∀ (k:Nat) (x y:D),fl k x=true->fl k y=true->PyData.eqv (pyD x) (pyD y)=eqv x y
  |k,.non,y,_,hy=>by cases y<;>first|rfl|(cases k<;>cases hy)
  |k,.bl a,y,_,hy=>by cases y<;>first|rfl|(cases k<;>cases hy)
  |k,.int i,y,_,hy=>by
    cases y with
    |int j=>show(i==j)=decide (i=j);rw[Bool.beq_eq_decide_eq]
    |ref n=>cases k<;>cases hy
    |exn n=>cases k<;>cases hy
    |ty n=>cases k<;>cases hy
    |rl n=>cases k<;>cases hy
    |_=>rfl
  |k,.str a,y,_,hy=>by cases y<;>first|rfl|(cases k<;>cases hy)
  |0,.tup xs,y,hx,_=>by cases hx
  |k+1,.tup xs,y,hx,hy=>by
    cases y with
    |tup ys=>exact zeO k xs ys hx hy
    |ref n=>cases hy
    |ty n=>cases hy
    |rl n=>cases hy
    |_=>rfl
  |k,.ref n,y,hx,_=>by cases k<;>cases hx
  |k,.ty n,y,hx,_=>by cases k<;>cases hx
  |k,.rl n,y,hx,_=>by cases k<;>cases hx
  |k,.exn n,y,hx,_=>by cases k<;>cases hx
theorem zeO:∀ (k:Nat) (xs ys:List D),xs.all (fl k)=true->ys.all (fl k)=true->PyData.eqvAll (zay xs) (zay ys)=eqvAll xs ys
  |k,[],[],_,_=>rfl
  |k,[],y::ys,_,_=>rfl
  |k,x::xs,[],_,_=>rfl
  |k,x::xs,y::ys,hx,hy=>by
    rw[List.all_cons,qA]at hx hy;show(PyData.eqv (pyD x) (pyD y)&&PyData.eqvAll (zay xs) (zay ys))=(eqv x y&&eqvAll xs ys);rw[zkt k x y hx.1 hy.1,zeO k xs ys hx.2 hy.2]
end
def zdo (xss:List (List D)):List PyData:=xss.map fun zs=>.list (zay zs)
theorem zkf:∀ xss:List (List D),zfc xss=true->PyData.canLayAll0 (zdo xss)=true/\PyData.depthAll (zdo xss)<=21
 |[],_=>⟨rfl,qP _⟩
 |zs::xss,h=>by
  unfold zfc at h;rw[List.all_cons,qA]at h;obtain⟨a1,a2⟩:=zdy 20 zs h.1;obtain⟨b1,b2⟩:=zkf xss h.2;refine⟨?_,?_⟩
  ·show(PyData.canLayAll0 (zay zs)&&PyData.canLayAll0 (zdo xss))=true;rw[a1,b1];rfl
  ·show max (PyData.depthAll (zay zs)+1) (PyData.depthAll (zdo xss))<=21;exact Nat.max_le.mpr ⟨by lia,b2⟩
theorem zpc:∀ xss yss:List (List D),zfc xss=true->zfc yss=true->PyData.eqvAll (zdo xss) (zdo yss)=eqvAll (xss.map D.tup) (yss.map D.tup)
 |[],[],_,_=>rfl
 |[],_::_,_,_=>rfl
 |_::_,[],_,_=>rfl
 |zs::xss,ws::yss,h,k=>by
  unfold zfc at h k;rw[List.all_cons,qA]at h k;show(PyData.eqvAll (zay zs) (zay ws)&&PyData.eqvAll (zdo xss) (zdo yss))=(eqvAll zs ws&&eqvAll (xss.map D.tup) (yss.map D.tup));rw[zeO 20 zs ws h.1 k.1,zpc xss yss h.2 k.2]
theorem zhv {pins:List (Addr×Obj)}{U:L2.St}{H:Hp}{s:Shared}{ad:List Addr}{S:Sto}(I:Inv X pins U H s)(st:zE X.K ad H S):∀ (xs:List D) (xss:List (List D)) (vs:List V) (us:List Value),ziu S xs xss->zfc xss=true->zy X.K ad H xs vs->Vals vs us->∃ as,ReadsAll s.heap us (zdo xss) as
 |[],[],_,_,_,_,r,rv=>by cases r;cases rv;exact⟨_,.nil⟩
 |[],_::_,_,_,h,_,_,_=>h.elim
 |_::_,[],_,_,h,_,_,_=>h.elim
 |x::xs,zs::xss,_,_,h,f,r,rv=>by
  unfold zfc at f;rw[List.all_cons,qA]at f;cases r with
  |cons r t =>
   obtain⟨a1,vs1,rfl,s1,r1⟩:=h.1.sq st r;cases rv with
   |cons q qt =>
    cases q;obtain⟨its,rv1,ht,hz⟩:=I.list s1;obtain⟨o,ho,hc,n,hd⟩:=ht.isList;obtain⟨as,ra⟩:=zep I 20 (zch I 20) _ _ _ f.1 r1 rv1;obtain⟨bs,rb⟩:=zhv I st xs xss _ _ h.2 f.2 t qt;exact⟨_,.cons (.list ho hc hd (by simpa using ra)) rb⟩
def zur (X:Cx)(g:Bool->Bool):R2:=fun x y H Q=>∃ ad S dx dy b,zE X.K ad H S/\Rel X.K ad H dx x/\Rel X.K ad H dy y/\EqD S dx dy b/\Q (.bl (g b)) H
def zjf {pins:List (Addr×Obj)}{U:L2.St}{H:Hp}{s:Shared}{ad:List Addr}{S:Sto}{dx dy:D}{x y:V}{v u:Value}{b:Bool}(I:Inv X pins U H s)(st:zE X.K ad H S)(rx:Rel X.K ad H dx x)(ry:Rel X.K ad H dy y)(qx:RelV x v)(qy:RelV y u)(h:EqD S dx dy b) :
  ∃ px py as bs,Reads s.heap v px as/\Reads s.heap u py bs/\px.canLay0=true/\py.canLay0=true/\min px.depth py.depth<=60/\PyData.eqv px py=b:=by
 rcases h with⟨fx,fy,rfl⟩|⟨xs,ys,hx,hy,fx,fy,rfl⟩|⟨xs,ys,xss,yss,hx,hy,lx,ly,fx,fy,rfl⟩
 ·obtain⟨as,ra⟩:=zch I 20 dx x v fx rx qx;obtain⟨bs,rb⟩:=zch I 20 dy y u fy ry qy;obtain⟨c1,d1⟩:=ze9 20 dx fx;obtain⟨c2,d2⟩:=ze9 20 dy fy;exact⟨_,_,as,bs,ra,rb,c1,c2,by lia,zkt 20 dx dy fx fy⟩
 ·obtain⟨a1,vs1,rfl,s1,r1⟩:=hx.sq st rx;obtain⟨a2,vs2,rfl,s2,r2⟩:=hy.sq st ry;cases qx;cases qy;obtain⟨its,rv,ht,hz⟩:=I.list s1;obtain⟨its2,rv2,ht2,hz2⟩:=I.list s2;obtain⟨o,ho,hc,n,hd⟩:=ht.isList;obtain⟨o2,ho2,hc2,n2,hd2⟩:=ht2.isList;obtain⟨as,ra⟩:=zep I 20 (zch I 20) _ _ _ fx r1 rv;obtain⟨bs,rb⟩:=zep I 20 (zch I 20) _ _ _ fy r2 rv2;obtain⟨c1,d1⟩:=zdy 20 xs fx;obtain⟨c2,d2⟩:=zdy 20 ys fy;refine⟨.list (zay xs),.list (zay ys),_,_,.list ho hc hd (by simpa using ra),.list ho2 hc2 hd2 (by simpa using rb),c1,c2,?_,zeO 20 xs ys fx fy⟩;show min (PyData.depthAll (zay xs)+1) (PyData.depthAll (zay ys)+1)<=60;lia
 ·obtain⟨a1,vs1,rfl,s1,r1⟩:=hx.sq st rx;obtain⟨a2,vs2,rfl,s2,r2⟩:=hy.sq st ry;cases qx;cases qy;obtain⟨its,rv,ht,hz⟩:=I.list s1;obtain⟨its2,rv2,ht2,hz2⟩:=I.list s2;obtain⟨o,ho,hc,n,hd⟩:=ht.isList;obtain⟨o2,ho2,hc2,n2,hd2⟩:=ht2.isList;obtain⟨as,ra⟩:=zhv I st xs xss _ _ lx fx r1 rv;obtain⟨bs,rb⟩:=zhv I st ys yss _ _ ly fy r2 rv2;obtain⟨c1,d1⟩:=zkf xss fx;obtain⟨c2,d2⟩:=zkf yss fy;refine⟨.list (zdo xss),.list (zdo yss),_,_,.list ho hc hd (by simpa using ra),.list ho2 hc2 hd2 (by simpa using rb),c1,c2,?_,zpc xss yss fx fy⟩;show min (PyData.depthAll (zdo xss)+1) (PyData.depthAll (zdo yss)+1)<=60;lia
def zil {k:Nat}(hr:zaf k X.A):OC X .Eq oEq:=⟨zur X id,fun pins s U H x y v u Q I qx qy ⟨ad,S,dx,dy,b,st,rx,ry,h,q⟩=>by
  obtain⟨px,py,as,bs,ra,rb,c1,c2,hd,e⟩:=zjf I st rx ry qx qy h;have hu:=hr.units;exact PySem.SeqAt.rcAt_reads ra rb c1 c2 (by lia) X.prog X.w X.xe _ ⟨.bl _,H,I,by rw[e];rfl,q⟩,
 fun ad H S x y v u Q0 Q st rx ry ⟨b,h,q⟩ k=>⟨ad,S,x,y,b,st,rx,ry,h,k _ S _ H ad q Wd.refl st (.bl _)⟩⟩
def zfC {k:Nat}(hr:zaf k X.A):OC X .NotEq oNe:=⟨zur X (!·),fun pins s U H x y v u Q I qx qy ⟨ad,S,dx,dy,b,st,rx,ry,h,q⟩=>by
  obtain⟨px,py,as,bs,ra,rb,c1,c2,hd,e⟩:=zjf I st rx ry qx qy h;have hu:=hr.units;exact PySem.SeqAt.rcNeAt_reads ra rb c1 c2 (by lia) X.prog X.w X.xe _ ⟨.bl _,H,I,by rw[e];rfl,q⟩,
 fun ad H S x y v u Q0 Q st rx ry ⟨b,h,q⟩ k=>⟨ad,S,x,y,b,st,rx,ry,h,k _ S _ H ad q Wd.refl st (.bl _)⟩⟩
def zjr {K:PySem.W.Frag}{ad:List Addr}{H:Hp}{d:D}{v:V}(r:Rel K ad H d v):decide (v=.non)=zia d:=by
  cases r<;>rfl
def zvO:OpR X (compareOp .Is) (rB0 fun i j=>.bl (i==j)):=fun pins s U H x y v u Q I rx ry ⟨i,j,ex,ey,q⟩=>by
 subst ex ey;cases rx;cases ry;exact is_bool ⟨.bl _,H,I,rfl,q⟩
def ztb:OpR X (compareOp .IsNot) (rB0 fun i j=>.bl (!(i==j))):=fun pins s U H x y v u Q I rx ry ⟨i,j,ex,ey,q⟩=>by
 subst ex ey;cases rx;cases ry;exact isnot_bool ⟨.bl _,H,I,rfl,q⟩
def zwN:OC X .Is oIs:=⟨_,zw2.or zvO,fun ad H S x y v u Q0 Q st rx ry h k=>by
 rcases h with⟨rfl,q⟩|⟨a,b,rfl,rfl,q⟩
 ·cases ry;exact .inl ⟨rfl,by rw[zjr rx];exact k _ S _ H ad q Wd.refl st (.bl _)⟩
 ·cases rx;cases ry;exact .inr ⟨a,b,rfl,rfl,k _ S _ H ad q Wd.refl st (.bl _)⟩⟩
def zcS:OC X .IsNot zc8:=⟨_,zuV.or ztb,fun ad H S x y v u Q0 Q st rx ry h k=>by
 rcases h with⟨rfl,q⟩|⟨a,b,rfl,rfl,q⟩
 ·cases ry;exact .inl ⟨rfl,by rw[zjr rx];exact k _ S _ H ad q Wd.refl st (.bl _)⟩
 ·cases rx;cases ry;exact .inr ⟨a,b,rfl,rfl,k _ S _ H ad q Wd.refl st (.bl _)⟩⟩
def zf6 {op:CmpOp}{r':DR2}(o:OC X op r')(ha:PD X a ta)(hb:PD X b tb)(h:op≠.In:=by decide)(h2:op≠.NotIn:=by decide):PD X (.Compare a [op] [b] pos) (dOp r' ta tb):=by
 with_unfolding_all
  obtain⟨r,ho,od⟩:=o;exact zaG (zmn ho ha hb (zon _ h h2)) fun _ _ _=>zgC od
def zK {op:CmpOp}{r':DR2}(o:OC X op r')(ha:PD X a ta)(hb:PD X b tb)(h:op≠.In:=by decide)(h2:op≠.NotIn:=by decide):PTD X (.Compare a [op] [b] pos) (dT (dOp r' ta tb)):=by
 with_unfolding_all
  obtain⟨r,ho,od⟩:=o;refine zdx (zmk ho ha hb (zon _ h h2)) fun U H Q hh=>el8 hh fun ad Z S Q0 st rh q k=>?_
  refine zgC (Q:=fun x H'=>∃ k,x=.bl k/\Q k H') od ⟨ad,Z,S,_,st,rh,q,fun d S' v H' ad' ⟨b,e,q'⟩ w st' r=>?_⟩;subst e;cases r;exact⟨b,rfl,k b S' H' ad' q' w st'⟩
def zpP {K:PySem.W.Frag}{r1' r2':DR2}{r1 r2:R2}(o1:OD K r1' r1)(o2:OD K r2' r2){U:L2.St}{H:Hp}{Q:VK}(h:up K (zh9 r1' r2' ta tb tc) U H Q):zoe r1 r2 (up K ta) (up K tb) (up K tc) U H Q:=by
 obtain⟨ad,Z,S,Q0,st,rh,q,k⟩:=h;refine⟨ad,Z,S,_,st,rh,q,fun x S1 v H1 ad1 q1 w1 st1 rx=>?_⟩;refine⟨ad1,Z,S1,_,st1,rh.wd w1,q1,fun y S2 u H2 ad2 q2 w2 st2 ry=>?_⟩;refine o1 ad2 H2 S2 x y v u _ _ st2 (rx.wd w2) ry q2 fun z S3 z' H3 ad3 ⟨c,e,q3⟩ w3 st3 rz=>?_
 subst e;cases rz;refine⟨c,rfl,?_⟩;cases c with
 |true =>
  rw[if_pos rfl]at q3 ⊢;refine⟨ad3,Z,S3,_,st3,rh.wd ((w1.trans w2).trans w3),q3,fun z S4 z' H4 ad4 q4 w4 st4 rz=>?_⟩;exact o2 ad4 H4 S4 y z u z' Q0 Q st4 (ry.wd (w3.trans w4)) rz q4 (k.wd (((w1.trans w2).trans w3).trans w4))
 |false =>
  rw[if_neg qv]at q3 ⊢;exact k _ S3 _ H3 ad3 q3 ((w1.trans w2).trans w3) st3 (.bl _)
def zcc {e:Expr}{t:DE}(h:PD X e t)(he:∀ whole,isTrue e X.env whole=(do let v <- whole;standAt e.pos;holding [v] (truthy v)):=by intro _;rfl):PTD X e (dT t):=by with_unfolding_all exact(zdx (zuT h he) fun U H Q hh=>el8 hh fun ad Z S Q0 st rh q k =>
 ⟨ad,Z,S,_,st,rh,q,fun d S' v H' ad' ⟨b,e,q'⟩ w st' r=>by
  subst e;cases r;exact⟨b,rfl,k b S' H' ad' q' w st'⟩⟩)
def znS {op op':CmpOp}{r1 r2:DR2}(o1:OC X op r1)(o2:OC X op' r2)(ha:PD X a ta)(hb:PD X b tb)(hc:PD X c tc)(hm:lastMarks [op,op'] [b,c]=false:=by with_unfolding_all rfl):PTD X (.Compare a [op,op'] [b,c] pos) (dT (zh9 r1 r2 ta tb tc)):=by
 with_unfolding_all
  obtain⟨s1,h1,d1⟩:=o1;obtain⟨s2,h2,d2⟩:=o2;refine zdx (zqG h1 h2 ha hb hc hm) fun U H Q hh=>el8 hh fun ad Z S Q0 st rh q k=>?_
  refine zpP (Q:=fun x H'=>∃ k,x=.bl k/\Q k H') d1 d2 ⟨ad,Z,S,_,st,rh,q,fun d S' v H' ad' ⟨b,e,q'⟩ w st' r=>?_⟩;subst e;cases r;exact⟨b,rfl,k b S' H' ad' q' w st'⟩
variable {tA tB':DT}{rest:List Expr}
def zco (h:PTD X a tA):PTD X (.UnaryOp .Not a pos) (zes tA):=by with_unfolding_all exact(zdx (zvc h) fun U H Q hh=>el8 hh fun ad Z S Q0 st rh q k=>⟨ad,Z,S,_,st,rh,q,fun b S' H' ad' q' w st'=>k _ S' H' ad' q' w st'⟩)
theorem zbg {e:Expr}{t:DT}(h:PWD X e t):PTD X e t:=by with_unfolding_all exact(h _)
def zci (ha:PTD X a tA):PWD X (.BoolOp .And [a] pos) tA:=by with_unfolding_all exact(zsH ha)
def zcN (ha:PTD X a tA):PWD X (.BoolOp .Or [a] pos) tA:=by with_unfolding_all exact(zuU ha)
def zcp (ha:PTD X a tA)(hb:PWD X (.BoolOp .And (b::rest) pos) tB'):PWD X (.BoolOp .And (a::b::rest) pos) (zdZ tA tB'):=by with_unfolding_all exact(zmi (zun ha hb) fun U H Q hh=>el8 hh fun ad Z S Q0 st rh q k =>
 ⟨ad,Z,S,_,st,rh,q,fun b S' H' ad' q' w st'=>by
  cases b with
  |true=>rw[if_pos rfl]at q' ⊢;exact⟨ad',Z,S',Q0,st',rh.wd w,q',fun b S' H' ad' q w'=>k b S' H' ad' q (w.trans w')⟩
  |false=>rw[if_neg qv]at q' ⊢;exact k _ S' H' ad' q' w st'⟩)
def zdS (ha:PTD X a tA)(hb:PWD X (.BoolOp .Or (b::rest) pos) tB'):PWD X (.BoolOp .Or (a::b::rest) pos) (dOr tA tB'):=by with_unfolding_all exact(zmi (zwc ha hb) fun U H Q hh=>el8 hh fun ad Z S Q0 st rh q k =>
 ⟨ad,Z,S,_,st,rh,q,fun b S' H' ad' q' w st'=>by
  cases b with
  |false=>rw[if_neg qv]at q' ⊢;exact⟨ad',Z,S',Q0,st',rh.wd w,q',fun b S' H' ad' q w'=>k b S' H' ad' q (w.trans w')⟩
  |true=>rw[if_pos rfl]at q' ⊢;exact k _ S' H' ad' q' w st'⟩)
def zkX {op}{t:DE}(h:PD X a t):PD X (.BoolOp op [a] pos) t:=by with_unfolding_all exact(ztI h)
def zgE (ha:PD X a ta)(hb:PD X (.BoolOp .And (b::rest) pos) tb):PD X (.BoolOp .And (a::b::rest) pos) (zgI ta tb):=by with_unfolding_all exact(zaG (zvk ha hb) fun U H Q hh=>el8 hh fun ad Z S Q0 st rh q k =>
 ⟨ad,Z,S,_,st,rh,q,fun d S' v H' ad' ⟨c,e,q'⟩ w st' r=>by
  subst e;cases r;refine⟨c,rfl,?_⟩;cases c with
  |true=>rw[if_pos rfl]at q' ⊢;exact⟨ad',Z,S',Q0,st',rh.wd w,q',k.wd w⟩
  |false=>rw[if_neg qv]at q' ⊢;exact k _ S' _ H' ad' q' w st' (.bl _)⟩)
def zgu (ha:PD X a ta):PD X (.UnaryOp .Not a pos) (zgM ta):=by with_unfolding_all exact(zaG (zvM ha) fun U H Q hh=>el8 hh fun ad Z S Q0 st rh q k =>
 ⟨ad,Z,S,_,st,rh,q,fun d S' v H' ad' ⟨c,e,q'⟩ w st' r=>by
  subst e;cases r;exact⟨c,rfl,k _ S' _ H' ad' q' w st' (.bl _)⟩⟩)
def zvs (hc:PTD X c tA)(ha:PD X a ta)(hb:PD X b tb):PD X (.IfExp c a b pos) (zqh tA ta tb):=by with_unfolding_all exact(zaG (zra hc ha hb) fun U H Q hh=>el8 hh fun ad Z S Q0 st rh q k =>
 ⟨ad,Z,S,_,st,rh,q,fun b S' H' ad' q' w st'=>by
  cases b with
  |true=>rw[if_pos rfl]at q' ⊢;exact⟨ad',Z,S',Q0,st',rh.wd w,q',k.wd w⟩
  |false=>rw[if_neg qv]at q' ⊢;exact⟨ad',Z,S',Q0,st',rh.wd w,q',k.wd w⟩⟩)
end
section
variable {X:Cx}{a b e:Expr}{es:List Expr}{ta tb te:DE}{t:DA}{pos:Pos}
def zm:PAD X [] zF:=by with_unfolding_all exact(zmh zoV fun U H Q hh=>el8 hh fun ad Z S Q0 st rh q k=>k [] S [] H ad q Wd.refl st .nil)
def zc (ha:PD X e te)(hr:PAD X es t)(hs:starEach (e::es) X.env=(false,eval e X.env)::starEach es X.env:=by exact za0 rfl):PAD X (e::es) (zf te t):=by with_unfolding_all exact(zmh (zmf ha hr hs) fun U H Q hh=>el8 hh fun ad Z S Q0 st rh q k =>
 ⟨ad,Z,S,_,st,rh,q,fun d S1 v H1 ad1 q1 w1 st1 r1=>⟨ad1,Z,S1,_,st1,rh.wd w1,q1,fun ds S2 vs H2 ad2 q2 w2 st2 r2=>k _ S2 _ H2 ad2 q2 (w1.trans w2) st2 (.cons (r1.wd w2) r2)⟩⟩)
def zac {x1}(h:PAD X es t):PD X (.Tuple es x1 pos) (dTup t):=by with_unfolding_all exact(zaG (zux h) fun U H Q hh=>el8 hh fun ad Z S Q0 st rh q k =>
 ⟨ad,Z,S,_,st,rh,q,fun ds S1 vs H1 ad1 ⟨hz,q1⟩ w1 st1 r1=>⟨by rw[<- r1.length];exact zcx hz,fun p hp=>zif st1 (k.wd w1) r1 q1 p hp⟩⟩)
def zaV (h:PAD X es t):PD X (.List es pos) (zbG t):=by with_unfolding_all exact(zaG (zvo h) fun U H Q hh=>el8 hh fun ad Z S Q0 st rh q k =>
 ⟨ad,Z,S,_,st,rh,q,fun ds S1 vs H1 ad1 ⟨hz,q1⟩ w1 st1 r1=>⟨by rw[<- r1.length];exact zcx hz,fun p hp=>ze5 st1 (k.wd w1) r1 q1 p hp⟩⟩)
def zuv {xs:List D}{i:Int}{d:D}(h:atD xs i=some d){K:PySem.W.Frag}{ad:List Addr}{H:Hp}{vs:List V}(r:zy K ad H xs vs):∃ v,atI vs i=some v/\Rel K ad H d v:=by
 have e:ixN vs.length i=ixD xs.length i:=by rw[r.length];rfl
 unfold atD at h;unfold atI;rw[e];cases q:ixD xs.length i with
 |none=>rw[q]at h;cases h
 |some j =>
  rw[q]at h;exact r.get h
def zu (ha:PD X a ta)(hb:PD X b tb)(hs:zl0 b:=by intro _ _;rfl):PD X (.Subscript a b pos) (dOp oIx ta tb):=by with_unfolding_all exact(zaG (zv5 (ztu.or (zvS.or zu6)) ha hb hs) fun _ _ _=>zgC fun ad H S x y v u Q0 Q st rx ry h k=>by
 rcases h with⟨i,xs,d,ey,hx,e,q⟩|⟨z,i,c,rfl,rfl,hz,e,q⟩
 case inr =>
  cases rx;cases ry;exact .inr (.inr ⟨z,i,c,rfl,rfl,zcx hz,e,k _ S _ H ad q Wd.refl st (.str _)⟩)
 subst ey;cases ry;obtain⟨p,vs,rfl,hs,r⟩:=hx.sq st rx;obtain⟨z,ez,rz⟩:=zuv e r;rcases hs with hs|hs
 ·exact .inl ⟨p,vs,i,z,rfl,rfl,hs,ez,k _ S _ H ad q Wd.refl st rz⟩
 ·exact .inr (.inl ⟨p,vs,i,z,rfl,rfl,hs,ez,k _ S _ H ad q Wd.refl st rz⟩))
def upO (K:PySem.W.Frag)(t:Option DE):TO:=fun U H Q=>∃ ad Z S Q0,zE K ad H S/\zan K ad H Z U/\zhB t Z S Q0/\∀ o S' H' ad',Q0 o S'->Wd ad H ad' H'->zE K ad' H' S'->Q o H'
def zlX:PO X none (upO X.K none):=fun pins s U H Q I hh=>el8 hh fun ad Z S Q0 st rh q k=>zsh pins s U H Q I (k none S H ad q Wd.refl st)
def zme {t:DE}(h:PD X e t):PO X (some e) (upO X.K (some t)):=by with_unfolding_all exact(fun pins s U H Q I hh=>el8 hh fun ad Z S Q0 st rh q k=>zss h pins s U H Q I ⟨ad,Z,S,_,st,rh,q,fun d S' v H' ad' ⟨i,e,q'⟩ w st' r=>by
 subst e;cases r;exact⟨i,rfl,k _ S' H' ad' q' w st'⟩⟩)
def zmg {K:PySem.W.Frag}{ad:List Addr}{H:Hp}{xs:List D}{vs:List V}(lo hi:Option Int)(r:zy K ad H xs vs):zy K ad H (cutD xs lo hi) (zfv vs lo hi):=by
  have e1:HT.sIx vs.length 0 lo=slD xs.length 0 lo:=by
    rw[r.length];cases lo with
    |none=>rfl
    |some k=>show HT.sIx _ _ (some k)=_;unfold HT.sIx slD;first|rfl|(simp only[];split<;>lia)
  have e2:HT.sIx vs.length vs.length hi=slD xs.length xs.length hi:=by
    rw[r.length];cases hi with
    |none=>rfl
    |some k=>show HT.sIx _ _ (some k)=_;unfold HT.sIx slD;first|rfl|(simp only[];split<;>lia)
  unfold cutD zfv;rw[e1,e2];exact(r.drop _).take _
def zxA (K:PySem.W.Frag):V->Option Int->Option Int->Hp->VK->Prop:=fun x lo hi H Q=>∃ a xs,x=.ref a/\SqT K H a xs /\
 ((HT.sIx xs.length 0 lo=0/\HT.sIx xs.length xs.length hi=xs.length)->Q (.ref a) H)/\(¬ (HT.sIx xs.length 0 lo=0/\HT.sIx xs.length xs.length hi=xs.length)->∀ p,H p=none->Q (.ref p) (upd H p (.tup (zfv xs lo hi))))
def zjJ {prog:Program}{w:World}{A:Around}{E:Value->Shared->Prop}{s:Shared}{t sl:Addr}{items:Array Value}{vl vu:Value}{lo hi:Option Int}{Q:Value->Shared->Prop}(ht:IsTup s.heap t items)(hs:s.heap.IsSliceOf sl vl vu .none)(pl:IsPart vl lo)(pu:IsPart vu hi)
  (hw:HT.sIx items.size 0 lo=0/\HT.sIx items.size items.size hi=items.size) (h:Q (.ref t) s):wpAny (model prog w) A (getItem (.ref t) (.ref sl)) Q E s:=by
 obtain⟨os,hos,hcs,hds⟩:=id hs;have hTs:s.TypeIs (.ref sl) "slice":=⟨os,hos,hcs⟩
 unfold getItem
 try with_reducible refine wpAny_holding ?_
 first|refine wpAny_bind (wpAny_pure ?_)|skip
 refine wpAny_bind (wpAny_sequenceKey ht.typeIs (by decide) ?_)
 refine wpAny_bind (wpAny_callSpecial?_slot (name:=Str.ofString "__getitem__") ht.typeIs PyProof.Rows.slot_tuple_getitem
  (wpAny_call_entry PyProof.Rows.slot_tuple_getitem ht.typeIs PyProof.Rows.entry_tuple_getitem ?_ (PyProof.Rows.args_tuple_getitem _ _)))
 show wpAny _ _ (Builtin.Tuple.tupleItemsOf (.ref t) >>= _) _ _ s;refine wpAny_bind (tupleItemsOf_ ht ?_);refine wpAny_bind (wpAny_typeOf hTs ?_);rw[if_pos (by decide)];refine wpAny_bind (HT.zeu hs pl pu ?_);show wpAny _ _ (if(((HT.sIx items.size 0 lo:Nat):Int)==0&&(1:Int)==1&&(HT.sIx items.size items.size hi-HT.sIx items.size 0 lo)==items.size)=true then _ else _) _ _ s;rw[if_pos (by rw[hw.1,hw.2];simp)];unfold Builtin.Tuple.tupleIsExact;refine wpAny_bind (wpAny_bind (wpAny_typeOf ht.typeIs (wpAny_pure ?_)));rw[if_pos (by decide)];refine wpAny_bind (wpAny_rule ?_)
 first
  |exact wpAny_pure ⟨_,rfl,wpAny_pure h⟩
  |exact wpAny_bind (wpAny_pure ⟨_,rfl,wpAny_pure h⟩)
  |exact wpAny_bind (wpAny_pure (wpAny_pure ⟨_,rfl,wpAny_pure h⟩))
  |trace_state
def zs8:SlR X (zxA X.K):=by
 intro pins s U H x v vl vu lo hi sl Q I rx hs pl pu h;obtain⟨a,xs,rfl,hx,q1,q2⟩:=h;by_cases hw:HT.sIx xs.length 0 lo=0/\HT.sIx xs.length xs.length hi=xs.length
 ·cases rx;obtain⟨its,r,ht,hz⟩:=I.tuple hx;have hlen:its.toArray.size=xs.length:=by rw[qm];exact r.length.symm
  refine⟨"tuple",_,PyProof.Rows.slot_tuple_getitem.lookup,ht.typeIs,?_⟩;exact zjJ ht hs pl pu (by rw[hlen];exact hw) ⟨.ref a,H,I,rfl,q1 hw⟩
 ·exact zuH pins s U H (.ref a) v vl vu lo hi sl Q I rx hs pl pu ⟨a,xs,rfl,hx,hw,q2 hw⟩
def znQ {α:Type}(xs:List α)(lo hi:Option Int)(h1:slD xs.length 0 lo=0)(h2:slD xs.length xs.length hi=xs.length):cutD xs lo hi=xs:=by
 unfold cutD;rw[h1,h2];simp
def zja (n d:Nat)(o:Option Int):HT.sIx n d o=slD n d o:=by
 cases o with
 |none=>rfl
 |some k=>rfl
def zrt {lo hi:Option Expr}{tl th:Option DE}{p2:Pos}(ha:PD X a ta)(hl:PO X lo (upO X.K tl))(hh:PO X hi (upO X.K th)):PD X (.Subscript a (.Slice lo hi none p2) pos) (dSl zmX ta tl th):=by with_unfolding_all exact(zaG (zqB (zsP.or (zs8.or zuP)) ha hl hh) fun U H Q hh=>el8 hh fun ad Z S Q0 st rh q k =>
 ⟨ad,Z,S,_,st,rh,q,fun x S1 v H1 ad1 q1 w1 st1 r1=>⟨ad1,Z,S1,_,st1,rh.wd w1,q1,fun l S2 H2 ad2 q2 w2 st2=>⟨ad2,Z,S2,_,st2,rh.wd (w1.trans w2),q2,fun h S3 H3 ad3 q3 w3 st3=>by
  have r3:=r1.wd (w2.trans w3);have k3:=k.wd ((w1.trans w2).trans w3);rcases q3 with⟨xs,rfl,q3⟩|⟨xs,hx,q3⟩|⟨z,rfl,hz,q3⟩
  ·cases r3 with
   |tup h1 r =>
    refine .inr (.inl ⟨_,_,rfl,SqT.of h1,fun⟨z1,z2⟩=>?_,fun _ p hp=>zif st3 k3 (zmg _ _ r) q3 p hp⟩);rw[zja,<- r.length]at z1 z2;rw[znQ xs _ _ z1 z2]at q3;exact k3 _ S3 _ H3 ad3 q3 Wd.refl st3 (.tup h1 r)
  ·obtain⟨p,vs,rfl,hs,r⟩:=hx.sq st3 r3;exact .inl ⟨p,vs,rfl,hs,fun l hl=>ze5 st3 k3 (zmg _ _ r) q3 l hl⟩
  ·cases r3;refine .inr (.inr ⟨z,rfl,zcx hz,?_⟩)
   have e:(⟨((z.cps.toList.drop (HT.sIx z.length 0 l)).take (HT.sIx z.length z.length h-HT.sIx z.length 0 l)).toArray⟩:Str)=zrd z l h:=by
    unfold zrd cutD;rw[zja,zja,show z.length=z.cps.toList.length from qL.symm]
   rw[e];exact k3 _ S3 _ H3 ad3 q3 Wd.refl st3 (.str _)⟩⟩⟩)
end
end Dp
namespace Dp
open PySem PySem.Spec PyProof.Rows L2 My
variable [B:Bs]
section
variable {X:Cx}{a e:Expr}{es:List Expr}{ta te:DE}{t:DA}{pos p:Pos}
def zH {k j:Nat}{x:Str}{ps:List Str}{f:DSp}(G:Got X.prog X.w X.K X.mg X.base k x ps (upF X.K f))(hr:zaf j X.A)
  (ha:PAD X (e::es) t) (hk:k<=j:=by decide) (hg:Gl X x:=by rfl) (hdb:(x==("__debug__":Str))=false:=by decide) (he:starEach (e::es) X.env=(false,eval e X.env)::starEach es X.env:=by exact za0 rfl) (hpl:(backTo pos (starEach es X.env)).any (·.1)=false:=by exact zcE rfl) :
  PD X (.Call (.Name x p) (e::es) [] pos) (dCall f t):=by with_unfolding_all exact(zaG (zvI G hr hk hg ha hdb he hpl) fun U H Q hh=>el8 hh fun ad Z S Q0 st rh q k =>
 ⟨ad,Z,S,_,st,rh,q,fun ds S1 vs H1 ad1 q1 w1 st1 r1=>by
  show upF X.K f (vs++[]) H1 Q E0;rw[List.append_nil];exact⟨ad1,S1,ds,Q0,st1.base,r1,q1,(k.wd w1).base st1⟩⟩)
def BD (K:PySem.W.Frag)(r':DB)(r:List V->Hp->VK->Prop):Prop:=∀ ad H S ds vs Q0 Q,zE K ad H S->zy K ad H ds vs->r' ds S Q0->KK K ad H Q0 Q->r vs H Q
def BC (X:Cx)(f:Value)(r':DB):Prop:=∃ r,zaE X f r/\BD X.K r' r
def zak {x:Str}{id:String}{r':DB}(o:BC X (.builtin id) r')(hm:X.mg x=none)(hv:bootBuiltins x=some (.builtin id))(ha:PAD X (e::es) t)(hg:Gl X x:=by rfl)(hn:x≠"__name__":=by decide)(hdb:(x==("__debug__":Str))=false:=by decide)
  (he:starEach (e::es) X.env=(false,eval e X.env)::starEach es X.env:=by exact za0 rfl) (hpl:(backTo pos (starEach es X.env)).any (·.1)=false:=by exact zcE rfl):PD X (.Call (.Name x p) (e::es) [] pos) (dB r' t):=by
 with_unfolding_all
  obtain⟨r,ho,od⟩:=o
  exact zaG (zqA ho hg hm hv ha hn hdb he hpl) fun U H Q hh=>el8 hh fun ad Z S Q0 st rh q k =>
   ⟨ad,Z,S,_,st,rh,q,fun ds S1 vs H1 ad1 q1 w1 st1 r1=>od ad1 H1 S1 ds vs Q0 Q st1 r1 q1 (k.wd w1)⟩
def zjY {x:Str}{T:String}{r':DB}(o:BC X (.type T) r')(hm:X.mg x=none)(hv:bootBuiltins x=some (.type T))(ha:PAD X (e::es) t)(hg:Gl X x:=by rfl)(hn:x≠"__name__":=by decide)(hdb:(x==("__debug__":Str))=false:=by decide)
  (he:starEach (e::es) X.env=(false,eval e X.env)::starEach es X.env:=by exact za0 rfl) (hpl:(backTo pos (starEach es X.env)).any (·.1)=false:=by exact zcE rfl):PD X (.Call (.Name x p) (e::es) [] pos) (dB r' t):=by
 with_unfolding_all
  obtain⟨r,ho,od⟩:=o
  exact zaG (zoK ho hg hm hv ha hn hdb he hpl) fun U H Q hh=>el8 hh fun ad Z S Q0 st rh q k =>
   ⟨ad,Z,S,_,st,rh,q,fun ds S1 vs H1 ad1 q1 w1 st1 r1=>od ad1 H1 S1 ds vs Q0 Q st1 r1 q1 (k.wd w1)⟩
def zb4 {K:PySem.W.Frag}{ad:List Addr}{H:Hp}{d:D}{vs:List V}(r:zy K ad H [d] vs):∃ v,vs=[v]/\Rel K ad H d v:=by
 cases r with
 |cons r t=>cases t;exact⟨_,rfl,r⟩
def zhJ {K:PySem.W.Frag}{ad:List Addr}{H:Hp}{d e:D}{vs:List V}(r:zy K ad H [d,e] vs):∃ v u,vs=[v,u]/\Rel K ad H d v/\Rel K ad H e u:=by
 cases r with
 |cons r t =>
  obtain⟨u,rfl,r2⟩:=zb4 t;exact⟨_,_,rfl,r,r2⟩
def zbq:BC X (.builtin "len") zb6:=⟨_,zoE.or zkO,fun ad H S ds vs Q0 Q st r h k=>by
 rcases h with⟨x,xs,e,hx,q⟩|⟨z,e,hz,q⟩
 case inr =>
  subst e;obtain⟨v,rfl,rv⟩:=zb4 r;cases rv;exact .inr ⟨z,rfl,zcx hz,k _ S _ H ad q Wd.refl st (.int _)⟩
 subst e;obtain⟨v,rfl,rv⟩:=zb4 r;obtain⟨a,ws,rfl,hs,rs⟩:=hx.sq st rv;exact .inl ⟨a,ws,rfl,hs,k _ S _ H ad (by rw[rs.length]at q;exact q) Wd.refl st (.int _)⟩⟩
def zvv:BC X (.builtin "abs") zqa:=⟨_,zoC,fun ad H S ds vs Q0 Q st r ⟨i,e,q⟩ k=>by
 subst e;obtain⟨v,rfl,rv⟩:=zb4 r;cases rv;exact⟨i,rfl,k _ S _ H ad q Wd.refl st (.int _)⟩⟩
def zuO (i j:Int):(if j > i then j else i)=max i j:=by
  rw[Int.max_def];split<;>split<;>lia
def zt9 (i j:Int):(if j<i then j else i)=min i j:=by
  rw[Int.min_def];split<;>split<;>lia
def zcI (hc:X.calm=true:=by rfl):BC X (.builtin "max") zdE:=⟨_,zou hc,fun ad H S ds vs Q0 Q st r ⟨i,j,e,q⟩ k=>by
 subst e;obtain⟨v,u,rfl,rv,ru⟩:=zhJ r;cases rv;cases ru;exact⟨i,j,rfl,by rw[zuO];exact k _ S _ H ad q Wd.refl st (.int _)⟩⟩
def ze3 (hc:X.calm=true:=by rfl):BC X (.builtin "min") zfr:=⟨_,zoL hc,fun ad H S ds vs Q0 Q st r ⟨i,j,e,q⟩ k=>by
 subst e;obtain⟨v,u,rfl,rv,ru⟩:=zhJ r;cases rv;cases ru;exact⟨i,j,rfl,by rw[zt9];exact k _ S _ H ad q Wd.refl st (.int _)⟩⟩
def ztB (hc:X.calm=true:=by rfl):BC X (.builtin "max") znf:=⟨_,zoI rfl hc,fun ad H S ds vs Q0 Q st r ⟨x,ns,e,hx,h0,q⟩ k=>by
 subst e;obtain⟨v,rfl,rv⟩:=zb4 r;obtain⟨a,ws,rfl,hs,rs⟩:=hx.sq st rv;cases rs.ints;exact⟨a,ns,rfl,hs,h0,fun m h1 h2=>k _ S _ H ad (q m h1 h2) Wd.refl st (.int _)⟩⟩
def zsE (hc:X.calm=true:=by rfl):BC X (.builtin "min") zng:=⟨_,zos rfl hc,fun ad H S ds vs Q0 Q st r ⟨x,ns,e,hx,h0,q⟩ k=>by
 subst e;obtain⟨v,rfl,rv⟩:=zb4 r;obtain⟨a,ws,rfl,hs,rs⟩:=hx.sq st rv;cases rs.ints;exact⟨a,ns,rfl,hs,h0,fun m h1 h2=>k _ S _ H ad (q m h1 h2) Wd.refl st (.int _)⟩⟩
def zgb (hc:X.calm=true:=by rfl):BC X (.builtin "all") zf9:=⟨_,zpp rfl hc,fun ad H S ds vs Q0 Q st r ⟨x,ns,e,hx,q⟩ k=>by
 subst e;obtain⟨v,rfl,rv⟩:=zb4 r;obtain⟨a,ws,rfl,hs,rs⟩:=hx.sq st rv;cases rs.bls;exact⟨a,ns,rfl,hs,k _ S _ H ad q Wd.refl st (.bl _)⟩⟩
def zqI:BC X (.type "tuple") zkS:=⟨_,zo0 rfl,fun ad H S ds vs Q0 Q st r ⟨x,xs,e,hx,q⟩ k=>by
 subst e;obtain⟨v,rfl,rv⟩:=zb4 r;rcases hx with rfl|hx
 ·cases rv with
  |tup h rr=>exact⟨_,_,rfl,.inr ⟨SqT.of h,k _ S _ H ad q Wd.refl st (.tup h rr)⟩⟩
 ·obtain⟨a,ws,rfl,hs,rs⟩:=hx.sq st rv;exact⟨a,ws,rfl,.inl ⟨hs,fun l hl=>zif st k rs q l hl⟩⟩⟩
def zi0:BC X (.type "list") ziE:=⟨_,zmG,fun ad H S ds vs Q0 Q st r ⟨x,xs,e,hx,q⟩ k=>by
 subst e;obtain⟨v,rfl,rv⟩:=zb4 r;obtain⟨a,ws,rfl,hs,rs⟩:=hx.sq st rv;exact⟨a,ws,rfl,hs,fun l hl=>ze5 st k rs q l hl⟩⟩
section
variable {K:PySem.W.Frag}
def ztc (t:String)(h:zi8 t=true):PySem.W.kitOne K (.type "NoneType") (.type t)=some false/\PySem.W.kitOne K (.type "bool") (.type t)=some (t=="bool"||t=="int")/\PySem.W.kitOne K (.type "int") (.type t)=some (t=="int") /\
  PySem.W.kitOne K (.type "str") (.type t)=some (t=="str")/\PySem.W.kitOne K (.type "tuple") (.type t)=some (t=="tuple")/\PySem.W.kitOne K (.type "list") (.type t)=some (t=="list"):=by
 unfold zi8 at h;simp only[Bool.or_eq_true,beq_iff_eq]at h;rcases h with(((rfl|rfl)|rfl)|rfl)|rfl
 ·exact⟨by kernel_rfl,by kernel_rfl,by kernel_rfl,by kernel_rfl,by kernel_rfl,by kernel_rfl⟩
 ·exact⟨by kernel_rfl,by kernel_rfl,by kernel_rfl,by kernel_rfl,by kernel_rfl,by kernel_rfl⟩
 ·exact⟨by kernel_rfl,by kernel_rfl,by kernel_rfl,by kernel_rfl,by kernel_rfl,by kernel_rfl⟩
 ·exact⟨by kernel_rfl,by kernel_rfl,by kernel_rfl,by kernel_rfl,by kernel_rfl,by kernel_rfl⟩
 ·exact⟨by kernel_rfl,by kernel_rfl,by kernel_rfl,by kernel_rfl,by kernel_rfl,by kernel_rfl⟩
end
def zh0:BC X (.builtin "isinstance") zfu:=⟨_,zre,fun ad H S ds vs Q0 Q st r ⟨x,t,b,e,h,q⟩ k=>by
 subst e;obtain⟨v,u,rfl,rv,ru⟩:=zhJ r;cases ru;have fin:=k _ S _ H ad q Wd.refl st (.bl b);unfold zqX at h;split at h
 ·cases h
 rename_i hty
 have hty':zi8 t=true:=by
  cases hh:zi8 t
  ·exact absurd (by show(!zi8 t)=true;rw[hh];rfl) hty
  ·rfl
 obtain⟨k1,k2,k3,k4,k5,k6⟩:=ztc (K:=X.K) t hty';cases rv with
 |non=>cases h;exact⟨_,_,_,_,rfl,.non,k1,fin⟩
 |bl c=>cases h;exact⟨_,_,_,_,rfl,.bl c,k2,fin⟩
 |int i=>cases h;exact⟨_,_,_,_,rfl,.int i,k3,fin⟩
 |str y=>cases h;exact⟨_,_,_,_,rfl,.str y,k4,fin⟩
 |ty n=>cases h
 |exn _ _ _=>cases h
 |tup ht rt=>cases h;exact⟨_,_,_,_,rfl,.tup ht,k5,fin⟩
 |rl hl rl=>cases h
 |@ref n a hn =>
  have h:(match S[n]? with | some (.lst _)=>some (t=="list") | _=>none)=some b:=h;cases hS:S[n]? with
  |none=>rw[hS]at h;cases h
  |some c =>
   rw[hS]at h;cases c with
   |ins c fs=>cases h
   |dk _=>cases h
   |dt _=>cases h
   |tab _ _ _=>cases h
   |lst xs =>
    cases h;obtain⟨vs,hv,_⟩:=st.cell n a _ hn hS;exact⟨_,_,_,_,rfl,.lst hv,k6,fin⟩⟩
theorem zmw:∀ {K:PySem.W.Frag} {ad:List Addr} {H:Hp} {cs:List (Int×Int)} {vs:List V},zy K ad H (cs.map p2) vs->∃ ps:List Addr,vs=ps.map V.ref/\zeK H ps cs
 |_,_,_,[],_,.nil=>⟨[],rfl,.nil⟩
 |_,_,_,c::cs,_,.cons r t=>by
  obtain⟨ps,rfl,h⟩:=zmw t;cases r with
  |tup h1 r1 =>
   obtain⟨v,u,rfl,rv,ru⟩:=zhJ r1;cases rv;cases ru;exact⟨_::ps,rfl,.cons h1 h⟩
theorem zrs:∀ {K:PySem.W.Frag} {ad:List Addr} {H:Hp} {cs:List (Int×Int)} {ps:List Addr},zeK H ps cs->zy K ad H (cs.map p2) (ps.map V.ref)
 |_,_,_,_,_,.nil=>.nil
 |_,_,_,_,_,.cons r t=>.cons (.tup r (.cons (.int _) (.cons (.int _) .nil))) (zrs t)
def ztX (a b:Int×Int):plt a b=zhy a b:=by
 unfold plt zhy;by_cases h:a.1=b.1
 ·simp[h]
 ·simp[h]
def zqE:BC X (.builtin "sorted") znW:=⟨_,zkI rfl,fun ad H S ds vs Q0 Q st r ⟨x,cs,e,hx,h64,q⟩ k=>by
 subst e;obtain⟨v,rfl,rv⟩:=zb4 r;obtain⟨a,ws,rfl,hs,rs⟩:=hx.sq st rv;obtain⟨ps,rfl,hp⟩:=zmw rs;exact⟨a,ps,cs,rfl,hs,hp,h64,fun l ps' cs' hl hp' hperm hpw=>ze5 st k (zrs hp') (q cs' hperm (hpw.imp fun h=>by rw[<- ztX];exact h)) l hl⟩⟩
def MD (X:Cx)(id:String)(r':DM):Prop:=∃ r,MtR X id r/\∀ ad H S x ds v vs Q0 Q,zE X.K ad H S->Rel X.K ad H x v->zy X.K ad H ds vs->r' x ds S Q0->KK X.K ad H Q0 Q->r v vs H Q
def zok {K:PySem.W.Frag}{ad:List Addr}{H:Hp}{S:Sto}{x:D}{v:V}(st:zE K ad H S)(h:∃ n ys,x=.ref n/\S[n]?=some (.lst ys))(r:Rel K ad H x v):tyV K "list" v H:=by
 obtain⟨n,ys,rfl,h⟩:=h;cases r with
 |ref e =>
  obtain⟨vs,hv,_⟩:=st.cell n _ _ e h;exact .inl ⟨rfl,vs,SqL.of hv⟩
def zhu {o:Expr}{to:DE}{name:Str}{id:String}{apos cpos:Pos}{r':DM}(slot:Slot "list" name id)(hty:typeOf (.builtin id)=pure (.type "method_descriptor"))(hm:MD X id r')(ho:PD X o to)(ha:PAD X (e::es) t)
  (hbase:attributeBase o name X.env (eval o X.env)=eval o X.env:=by rfl)
  (hfew:((backTo cpos (starEach (e::es) X.env)).all (fun x=>!x.1)&&(backToKw cpos (keywordEach [] X.env)).all (fun x=>x.1.isSome)
  &&decide ((e::es).length+([]:List Keyword).length+(if([]:List Keyword).isEmpty then 0 else 1)<30))=true:=by rfl)
  (hline:(apos.endLine==cpos.line)=true:=by rfl) (hs:starEach (e::es) X.env=(false,eval e X.env)::starEach es X.env:=by exact za0 rfl) (hplain:(backTo cpos (starEach es X.env)).any (·.1)=false:=by exact zcE rfl) :
  PD X (.Call (.Attribute o name apos) (e::es) [] cpos) (dM r' to t):=by
 with_unfolding_all
  obtain⟨r,hr,od⟩:=hm
  exact zaG (zwP PySem.F.plainAttrs_list slot hty hr ho ha hbase hfew hline hs hplain) fun U H Q hh=>el8 hh fun ad Z S Q0 st rh q k =>
   ⟨ad,Z,S,_,st,rh,q,fun x S1 v H1 ad1 ⟨hl,q1⟩ w1 st1 r1=>⟨zok st1 hl r1,ad1,Z,S1,_,st1,rh.wd w1,q1,fun ds S2 vs H2 ad2 q2 w2 st2 r2 =>
    od ad2 H2 S2 x ds v vs Q0 Q st2 (r1.wd w2) r2 q2 (k.wd (w1.trans w2))⟩⟩
def zxa {o:Expr}{to:DE}{name:Str}{id:String}{apos cpos:Pos}{r':DM}(slot:Slot "list" name id)(hty:typeOf (.builtin id)=pure (.type "method_descriptor"))(hm:MD X id r')(ho:PD X o to)
  (hbase:attributeBase o name X.env (eval o X.env)=eval o X.env:=by rfl) (hline:(apos.endLine==cpos.line)=true:=by rfl):PD X (.Call (.Attribute o name apos) [] [] cpos) (dM r' to zF):=by
 with_unfolding_all
  obtain⟨r,hr,od⟩:=hm
  exact zaG (zub PySem.F.plainAttrs_list slot hty hr ho hbase hline) fun U H Q hh=>el8 hh fun ad Z S Q0 st rh q k =>
   ⟨ad,Z,S,_,st,rh,q,fun x S1 v H1 ad1 ⟨hl,q1⟩ w1 st1 r1=>⟨zok st1 hl r1,od ad1 H1 S1 x [] v [] Q0 Q st1 r1 .nil q1 (k.wd w1)⟩⟩
def zcO:MD X "list.append" zcR:=⟨_,zjl,fun ad H S x ds v vs Q0 Q st rx r ⟨n,xs,y,ex,ey,hn,hl,q⟩ k=>by
 subst ex ey;obtain⟨u,rfl,ru⟩:=zb4 r;cases rx with
 |ref e =>
  obtain⟨ws,hw,rw⟩:=st.cell n _ _ e hn;exact⟨_,ws,u,rfl,rfl,hw,by rw[<- rw.length];exact ziG hl,k _ _ _ _ ad q (Wd.put e hw) (st.put e hw (rw.append (.cons ru .nil))) .non⟩⟩
def znq:MD X "list.extend" zhG:=⟨_,znu,fun ad H S x ds v vs Q0 Q st rx r h k=>by
 rcases h with⟨n,xs,m,ys,ex,ey,hn,hm,hne,hl,q⟩|⟨n,xs,ys,ex,ey,hn,hl,q⟩
 ·subst ex ey;obtain⟨u,rfl,ru⟩:=zb4 r;cases rx with
  |ref e =>
   cases ru with
   |ref e2 =>
    obtain⟨ws,hw,rw⟩:=st.cell n _ _ e hn;obtain⟨ws2,hw2,rw2⟩:=st.cell m _ _ e2 hm;exact .inl ⟨_,_,ws,ws2,rfl,rfl,hw,hw2,by rw[<- rw.length,<- rw2.length];exact zcx hl,k _ _ _ _ ad q (Wd.put e hw) (st.put e hw (rw.append rw2)) .non⟩
 ·subst ex ey;obtain⟨u,rfl,ru⟩:=zb4 r;cases rx with
  |ref e =>
   cases ru with
   |tup h2 rw2 =>
    obtain⟨ws,hw,rw⟩:=st.cell n _ _ e hn;exact .inr ⟨_,_,ws,_,rfl,rfl,hw,SqT.of h2,by rw[<- rw.length,<- rw2.length];exact zcx hl,k _ _ _ _ ad q (Wd.put e hw) (st.put e hw (rw.append rw2)) .non⟩⟩
def zqW:MD X "list.clear" zkx:=⟨_,zpZ,fun ad H S x ds v vs Q0 Q st rx r ⟨n,xs,ex,ey,hn,q⟩ k=>by
 subst ex ey;cases r;cases rx with
 |ref e =>
  obtain⟨ws,hw,rw⟩:=st.cell n _ _ e hn;exact⟨_,ws,rfl,rfl,hw,k _ _ _ _ ad q (Wd.put e hw) (st.put e hw .nil) .non⟩⟩
end
end Dp
namespace Dp
open PySem PySem.Spec PyProof.Rows L2 My
variable [B:Bs]
def zfU (K:PySem.W.Frag)(b:Nat)(g':DG)(g:TG):Prop:=∀ ad H S Z U d v Q0 Q,zE K ad H S->zan K ad H Z U->Rel K ad H d v->g' d Z S Q0 ->
 (∀ ρ' S' σ' H' ad',Q0 ρ' S'->Wd ad H ad' H'->zE K ad' H' S'->zan K ad' H' ρ' σ'->σ'.length=U.length->(∀ j,b<=j->σ'[j]?=U[j]?)->Q σ' H')->g v U H Q
def zin (K:PySem.W.Frag)(b:Nat)(g':DGs)(g:TGs):Prop:=∀ ad H S Z U ds vs Q0 Q,zE K ad H S->zan K ad H Z U->zy K ad H ds vs->g' ds Z S Q0 ->
 (∀ ρ' S' σ' H' ad',Q0 ρ' S'->Wd ad H ad' H'->zE K ad' H' S'->zan K ad' H' ρ' σ'->σ'.length=U.length->(∀ j,b<=j->σ'[j]?=U[j]?)->Q σ' H')->g vs U H Q
def PGD (X:Cx)(b:Nat)(tg:Expr)(g':DG):Prop:=∃ g,PG X tg g/\zfU X.K b g' g
def zno (X:Cx)(b:Nat)(tgs:List Expr)(g':DGs):Prop:=∃ g,PGs X tgs g/\zin X.K b g' g
theorem zan.set {K:PySem.W.Frag}{ad:List Addr}{H:Hp}{Z:Rho}{U:L2.St}{d:D}{v:V}(h:zan K ad H Z U)(r:Rel K ad H d v)(i:Nat):zan K ad H (Z.set i (some d)) (U.set i (some v)) where
 len:=by rw[qad,qad];exact h.len
 val:=fun j e q=>by
  by_cases hj:j=i
  ·subst hj;have hl:j<Z.length:=by have:=My.zaO q;rw[qad]at this;exact this
   rw[qS hl]at q;cases q;exact⟨v,qS (by rw[<- h.len];exact hl),r⟩
  ·rw[qN (Ne.symm hj)]at q;obtain⟨u,e1,r1⟩:=h.val j e q;exact⟨u,by rw[qN (Ne.symm hj)];exact e1,r1⟩
section
variable {X:Cx}{pos:Pos}{b:Nat}
def zau {K:PySem.W.Frag}(i:Nat)(hb:i<b):zfU K b (zaq i) (L2.zaq i):=fun ad H S Z U d v Q0 Q st rh r q k =>
 k _ S _ H ad q Wd.refl st (rh.set r i) (qad ..) fun j hj=>qN (by lia)
def zO {i:Nat}{x:Str}(hN:X.N.Nodup)(hi:X.N[i]?=some x:=by rfl)(hx:Loc X.env.scope x:=by first|exact Or.inl rfl|exact Or.inr rfl)(hf:X.fn x=true\/X.env.scope.names.lookup x=some .local:=by first|exact .inl rfl|exact .inr rfl|assumption)(hb:i<b:=by decide):PGD X b (.Name x pos) (zaq i) :=
 ⟨_,zaZ hN hi hx hf,zau i hb⟩
def zbX:zno X b [] zbk:=⟨_,zds,fun ad H S Z U ds vs Q0 Q st rh r ⟨e,q⟩ k=>by
 subst e;cases r;exact⟨rfl,k Z S U H ad q Wd.refl st rh rfl fun _ _=>rfl⟩⟩
def zab {e:Expr}{es:List Expr}{t:DG}{u:DGs}(h1:PGD X b e t)(h2:zno X b es u)(hs:(assignEach (e::es) X.env).map (·.2)=assign e X.env::(assignEach es X.env).map (·.2):=by rfl):zno X b (e::es) (zV t u):=by
 obtain⟨g1,p1,r1⟩:=h1;obtain⟨g2,p2,r2⟩:=h2;refine⟨_,zaM p1 p2 hs,fun ad H S Z U ds vs Q0 Q st rh r ⟨d,rs,ed,q⟩ k=>?_⟩;subst ed;cases r with
 |cons r t =>
  refine⟨_,_,rfl,r1 ad H S Z U d _ _ _ st rh r q fun ρ1 S1 σ1 H1 ad1 q1 w1 st1 rh1 l1 a1=>?_⟩;exact r2 ad1 H1 S1 ρ1 σ1 _ _ _ _ st1 rh1 (t.wd w1) q1 fun ρ2 S2 σ2 H2 ad2 q2 w2 st2 rh2 l2 a2=>k ρ2 S2 σ2 H2 ad2 q2 (w1.trans w2) st2 rh2 (l2.trans l1) fun j hj=>(a2 j hj).trans (a1 j hj)
def zbV {es:List Expr}{k n:Nat}{t:DGs}(hc:X.calm=true)(h:zno X b es t)(hn:(assignEach es X.env).length=n:=by rfl)(hst:(assignEach es X.env).findIdx? (·.1)=none:=by rfl):PGD X b (.Tuple es k pos) (zbh n t):=by
 obtain⟨g,p,r⟩:=h;refine⟨_,zeq hc p hn hst,fun ad H S Z U d v Q0 Q st rh rv ⟨xs,ed,hl,q⟩ k=>?_⟩;subst ed;cases rv with
 |tup h1 rs=>exact⟨_,_,rfl,SqT.of h1,by rw[<- rs.length];exact hl,r ad H S Z U xs _ _ _ st rh rs q k⟩
def zgw {o i:Expr}{to ti:DE}(ho:PD X o to)(hi:PD X i ti)
  (ha:∀ v,assign (.Subscript o i pos) X.env v=(do
   let ov <- holding [v] (eval o X.env);let iv <- holding [v,ov] (eval i X.env)
   standAt pos
   holding [v,ov,iv] (setItem ov iv v)
   release [v,ov,iv] []):=by intro _;rfl):PGD X b (.Subscript o i pos) (zgi to ti):=by with_unfolding_all exact(⟨_,ztL ho hi set_list ha,fun ad H S Z U d v Q0 Q st rh r q k=>⟨ad,Z,S,_,st,rh,q,fun x S1 u H1 ad1 q1 w1 st1 r1=>⟨ad1,Z,S1,_,st1,rh.wd w1,q1,fun y S2 z H2 ad2 q2 w2 st2 r2=>by
  obtain⟨n,xs,kk,j,ex,ey,hn,hj,q3⟩:=q2;subst ex ey;cases r2;cases r1 with
  |ref e =>
   have e2:=zgr w2.pre e;obtain⟨ws,hw,rw⟩:=st2.cell n _ _ e2 hn;have rd:=r.wd (w1.trans w2);exact⟨_,ws,kk,j,rfl,rfl,hw,by rw[<- rw.length];exact hj,k Z _ U _ ad2 q3 ((w1.trans w2).trans (Wd.put e2 hw)) (st2.put e2 hw (rw.set rd j)) (rh.wd ((w1.trans w2).trans (Wd.put e2 hw))) rfl fun _ _=>rfl⟩⟩⟩⟩)
variable {st:Stmt}{sts:List Stmt}{t u:DS}{e:Expr}{te:DE}
def zM:zcw X [] zZ:=by with_unfolding_all exact(zke zsr fun E U H hh=>el8 hh fun ad Z S E0 so rh q k=>k.nx Z S U H ad q Wd.refl so rh)
def zq (h:PSD X st t):zcw X [st] t:=by with_unfolding_all exact(zso h)
def zj (h1:PSD X st t)(h2:zcw X sts u):zcw X (st::sts) (zB t u):=by with_unfolding_all exact(zke (zqs h1 h2) fun E U H hh=>el8 hh fun ad Z S E0 so rh q k =>
 ⟨ad,Z,S,{ E0 with nx:=u E0 },so,rh,q,⟨fun ρ' S' σ' H' ad' q' w st' rh'=>⟨ad',ρ',S',E0,st',rh',q',k.wd w⟩,k.rt,k.bk,k.ct⟩⟩)
def za6:PSD X st zb9:=by with_unfolding_all exact(zbn zqx fun E U H hh=>el8 hh fun ad Z S E0 so rh q k=>q)
def zav (he:PD X e te)(hs:swapsWith e none pos.line X.env=pure false:=by rfl):PSD X (.Expr e pos) (zbb te):=by with_unfolding_all exact(zbn (ztm he hs) fun E U H hh=>el8 hh fun ad Z S E0 so rh q k =>
 ⟨ad,Z,S,_,so,rh,q,fun d S' v H' ad' q' w st' r=>k.nx Z S' U H' ad' q' w st' (rh.wd w)⟩)
def zG (he:PD X e te):PSD X (.Return (some e) pos) (zT te):=by with_unfolding_all exact(zbn (ztV he) fun E U H hh=>el8 hh fun ad Z S E0 so rh q k=>⟨ad,Z,S,_,so,rh,q,k.rt⟩)
def zrR (h:PSD X st t):PSD X st (sJ t):=by with_unfolding_all exact(zbn h fun E U H ⟨ad,Z,S,E0,so,rh,⟨J,hJ,q⟩,k⟩ =>
 ⟨ad,Z,S,{ E0 with nx:=J },so,rh,q,⟨fun ρ' S' σ' H' ad' q' w st' rh'=>k.nx ρ' S' σ' H' ad' (hJ _ _ q') w st' rh',k.rt,k.bk,k.ct⟩⟩)
def zQ {c:Expr}{a b:List Stmt}{tc:DT}(hc:PTD X c tc)(ha:zcw X a t)(hb:zcw X b u):PSD X (.If c a b pos) (sIf tc t u):=by with_unfolding_all exact(zbn (zwC hc ha hb) fun E U H hh=>el8 hh fun ad Z S E0 so rh q k =>
 ⟨ad,Z,S,_,so,rh,q,fun b S' H' ad' q' w st'=>by
  cases b with
  |true=>rw[if_pos rfl]at q' ⊢;exact⟨ad',Z,S',E0,st',rh.wd w,q',k.wd w⟩
  |false=>rw[if_neg qv]at q' ⊢;exact⟨ad',Z,S',E0,st',rh.wd w,q',k.wd w⟩⟩)
def zA {i:Nat}{x:Str}{pos':Pos}(hN:X.N.Nodup)(he:PD X e te)(hi:X.N[i]?=some x:=by rfl)(hx:Loc X.env.scope x:=by first|exact Or.inl rfl|exact Or.inr rfl)(hs:swapsWith e (some (.Name x pos')) pos.line X.env=pure false:=by rfl)(hf:X.fn x=true\/X.env.scope.names.lookup x=some .local:=by first|exact .inl rfl|exact .inr rfl|assumption) :
  PSD X (.Assign [.Name x pos'] e pos) (zJ te (zaq i)):=by with_unfolding_all exact(zbn (zuf hN hi hx he hs hf) fun E U H hh=>el8 hh fun ad Z S E0 so rh q k =>
 ⟨ad,Z,S,_,so,rh,q,fun d S' v H' ad' q' w st' r=>k.nx _ S' _ H' ad' q' w st' ((rh.wd w).set r i)⟩)
def ze7 {tg:Expr}{g:DG}(he:PD X e te)(hg:PGD X 1000 tg g)(hs:swapsWithSole [tg] e pos.line X.env=pure false:=by rfl)(hw:swappedStores [tg] e X.env=pure none:=by rfl)
  (h1:(assignEach [tg] X.env).map (·.2)=[assign tg X.env]:=by rfl):PSD X (.Assign [tg] e pos) (zJ te g):=by
 with_unfolding_all
  obtain⟨g',p,r⟩:=hg
  exact zbn (zvu he p hs hw h1) fun E U H hh=>el8 hh fun ad Z S E0 so rh q k =>
   ⟨ad,Z,S,_,so,rh,q,fun d S' v H' ad' q' w st' rv=>r ad' H' S' Z U d v _ _ st' (rh.wd w) rv q' fun ρ2 S2 σ2 H2 ad2 q2 w2 st2 rh2 _ _=>k.nx ρ2 S2 σ2 H2 ad2 q2 (w.trans w2) st2 rh2⟩
def zr6 {i:Nat}{x:Str}{pos':Pos}(hN:X.N.Nodup)(he:PD X e te)(hi:X.N[i]?=some x:=by rfl)(hx:Loc X.env.scope x:=by first|exact Or.inl rfl|exact Or.inr rfl)(hf:X.fn x=true\/X.env.scope.names.lookup x=some .local:=by first|exact .inl rfl|exact .inr rfl|assumption) :
  PSD X (.AugAssign (.Name x pos') .Add e pos) (zpO i te):=by with_unfolding_all exact(zbn (zvr hN hi hx he zuS hf) fun E U H ⟨ad,Z,S,E0,so,rh,⟨a,ea,q⟩,k⟩=>by
 obtain⟨v,ev,rv⟩:=rh.val i _ ea;cases rv;refine⟨_,ev,ad,Z,S,_,so,rh,q,fun d S' v H' ad' ⟨b,eb,q'⟩ w st' r=>?_⟩;subst eb;cases r;exact⟨a,b,rfl,rfl,k.nx _ S' _ H' ad' q' w st' ((rh.wd w).set (.int _) i)⟩)
def zge {c:Expr}{body:List Stmt}{tc:DT}(hc:PTD X c tc)(hb:zcw X body t)(hp:PassesOwn (model X.prog X.w) X.A X.env X.xe:=by first|exact PassesOwn.never|exact PassesOwn.leaving):PSD X (.While c body [] pos) (zgo tc t):=by with_unfolding_all exact(zbn (zqN hp hc hb) fun E U H ⟨ad,Z,S,E0,so,rh,⟨W,⟨m0,w0⟩,turn⟩,k⟩=>by
 refine⟨fun m σ' H'=>∃ ad' ρ' S',W m ρ' S'/\Wd ad H ad' H'/\zE X.K ad' H' S'/\zan X.K ad' H' ρ' σ',⟨m0,ad,Z,S,w0,Wd.refl,so,rh⟩,?_⟩;rintro m σ1 H1 ⟨ad1,ρ1,S1,w1,d1,st1,rh1⟩;refine⟨ad1,ρ1,S1,_,st1,rh1,turn m ρ1 S1 w1,fun b S2 H2 ad2 q2 d2 st2=>?_⟩;cases b with
 |true =>
  rw[if_pos rfl]at q2 ⊢;obtain⟨N,hN,q2⟩:=q2;refine⟨fun σ' H'=>∃ ad' ρ' S',N ρ' S'/\Wd ad H ad' H'/\zE X.K ad' H' S'/\zan X.K ad' H' ρ' σ',?_,ad2,ρ1,S2,{ E0 with nx:=N,ct:=N,bk:=E0.nx },st2,rh1.wd d2,q2,?_⟩
  ·rintro σ' H' ⟨ad',ρ',S',n',d',st',rh'⟩;obtain⟨m',hm,w'⟩:=hN ρ' S' n';exact⟨m',hm,ad',ρ',S',w',d',st',rh'⟩
  ·have d12:=d1.trans d2;exact⟨fun ρ' S' σ' H' ad' q' w' st' rh'=>⟨ad',ρ',S',q',d12.trans w',st',rh'⟩,k.rt.wd d12,fun ρ' S' σ' H' ad' q' w' st' rh'=>k.nx ρ' S' σ' H' ad' q' (d12.trans w') st' rh',fun ρ' S' σ' H' ad' q' w' st' rh'=>⟨ad',ρ',S',q',d12.trans w',st',rh'⟩⟩
 |false =>
  rw[if_neg qv]at q2 ⊢;exact k.nx ρ1 S2 σ1 H2 ad2 q2 (d1.trans d2) st2 (rh1.wd d2))
end
structure zfb (K:PySem.W.Frag)(ad0:List Addr)(H0:Hp)(J0:DIt)(J:It):Prop where
 go:∀ ad H S i,Wd ad0 H0 ad H->zE K ad H S->J0.ok S->i<J0.items.length->J.go i H
 yld:∀ ad H S i d x H',Wd ad0 H0 ad H->zE K ad H S->J0.ok S->J0.items[i]?=some d->J.yld i H x H'->Wd ad H ad H'/\zE K ad H' S/\Rel K ad H' d x
 stop:∀ ad H S,Wd ad0 H0 ad H->zE K ad H S->J0.ok S->J.stop J0.items.length H
def upI (K:PySem.W.Frag)(wi:DI):TI:=fun U H R=>∃ ad Z S R0,zE K ad H S/\zan K ad H Z U/\wi Z S R0/\∀ J0 S' J H' ad',R0 J0 S'->Wd ad H ad' H'->zE K ad' H' S'->zfb K ad' H' J0 J->R J H'
@[irreducible] def PID (X:Cx)(tg iter:Expr)(wi:DI):Prop:=PI X tg iter (upI X.K wi)
def zgB {X:Cx}{tg iter:Expr}{w w':TI}(h:PI X tg iter w)(m:∀ U H R,w' U H R->w U H R):PI X tg iter w':=fun pins s U H R I q=>h pins s U H R I (m U H R q)
section
variable {X:Cx}{tg e:Expr}
def Its (z:Str):It:=⟨fun i _=>i<z.cps.size,fun i H x H'=>H'=H/\∃ c,z.cps[i]?=some c/\x=.str ⟨#[c]⟩,fun i _=>z.cps.size<=i⟩
def zo1 {P:Program}{w:World}{K:PySem.W.Frag}{tg:Expr}(z:Str)(t:Tok)(it:Addr):Turn P w K tg (Its z) [it] it (fun i h=>h.IsStrIter it "str_ascii_iterator" z t i) where
 mem:=by simp
 obj:=fun i h st b hb=>by
  have e:b=it:=by simpa using hb
  subst e;obtain⟨o,e,c,d⟩:=st;exact⟨o,e,fun v y=>by rw[d]at y;cases y⟩
 keep:=fun i h h' st k=>let ⟨o,e,r⟩:=st;⟨o,k it (by simp) o e,r⟩
 item:=by
  intro X hP hw hK hc i pins s U H E I hf st hg;subst hP hw hK;have hg:i<z.cps.size:=hg;obtain⟨f0,f1,f2,f3,f4,f5⟩:=hf it (by simp);refine wpAny_pyNext_ascii_item st (c:=z.cps[i]) (by simp[hg]) fun h' st' sb=>?_
  have I1:Inv X pins U H { s with heap:=h',toks:=s.toks+1 }:=I.turned (t':=s.toks+1) (fun b o hb e=>(sb.2 b hb).trans e) f0 f1 f3 f4 f5;obtain⟨o,e,c,d⟩:=id st';exact⟨_,rfl,zgA (s:={ s with heap:=h',toks:=s.toks+1 }) e c d (by decide) ⟨.str ⟨#[z.cps[i]]⟩,H,I1,⟨_,rfl⟩,⟨rfl,z.cps[i],by simp[hg],rfl⟩,st',fun b hb=>(hf b hb).1⟩⟩
 done:=by
  intro X hP hw hK hc i pins s U H E I hf st hg;subst hP hw hK;have hg:z.cps.size<=i:=hg;obtain⟨f0,f1,f2,f3,f4,f5⟩:=hf it (by simp);exact wpAny_pyNext_ascii_end (I.ok.hd hc) st (by simp[hg]) fun h' eb=>⟨rfl,I.turned (t':=s.toks) (fun b o hb e=>eb b o hb e) f0 f1 f3 f4 f5⟩
 self:=fun _ _ _ _ _ st hQ=>wpAny_pyIter_striter_ascii st hQ
def zox {P:Program}{w:World}{K:PySem.W.Frag}{tg:Expr}(z:Str)(t:Tok)(it:Addr):Turn P w K tg (Its z) [it] it (fun i h=>h.IsStrIter it "str_iterator" z t i) where
 mem:=by simp
 obj:=fun i h st b hb=>by
  have e:b=it:=by simpa using hb
  subst e;obtain⟨o,e,c,d⟩:=st;exact⟨o,e,fun v y=>by rw[d]at y;cases y⟩
 keep:=fun i h h' st k=>let ⟨o,e,r⟩:=st;⟨o,k it (by simp) o e,r⟩
 item:=by
  intro X hP hw hK hc i pins s U H E I hf st hg;subst hP hw hK;have hg:i<z.cps.size:=hg;obtain⟨f0,f1,f2,f3,f4,f5⟩:=hf it (by simp);refine wpAny_pyNext_wide_item st (c:=z.cps[i]) (by simp[hg]) fun h' st' sb=>?_
  have I1:Inv X pins U H { s with heap:=h',toks:=s.toks+1 }:=I.turned (t':=s.toks+1) (fun b o hb e=>(sb.2 b hb).trans e) f0 f1 f3 f4 f5;obtain⟨o,e,c,d⟩:=id st';exact⟨_,rfl,zgA (s:={ s with heap:=h',toks:=s.toks+1 }) e c d (by decide) ⟨.str ⟨#[z.cps[i]]⟩,H,I1,⟨_,rfl⟩,⟨rfl,z.cps[i],by simp[hg],rfl⟩,st',fun b hb=>(hf b hb).1⟩⟩
 done:=by
  intro X hP hw hK hc i pins s U H E I hf st hg;subst hP hw hK;have hg:z.cps.size<=i:=hg;obtain⟨f0,f1,f2,f3,f4,f5⟩:=hf it (by simp);exact wpAny_pyNext_wide_end (I.ok.hd hc) st (by simp[hg]) fun h' eb=>⟨rfl,I.turned (t':=s.toks) (fun b o hb e=>eb b o hb e) f0 f1 f3 f4 f5⟩
 self:=fun _ _ _ _ _ st hQ=>wpAny_pyIter_striter_wide st hQ
def zsg (K:PySem.W.Frag)(tl:TE):TI:=fun U H R=>tl U H fun x H1=>(∃ a,x=.ref a/\(((∃ xs,SqL K H1 a xs)/\R (Itl K a) H1)\/((∃ xs,SqT K H1 a xs)/\R (Itt K a) H1)))\/(∃ z,x=.str z/\R (Its z) H1)
def zoo {l:Expr}{tl:TE}(hl:PE X l tl):PI X tg l (zsg X.K tl):=by
  intro pins s U H R I h;refine thn (hl pins s U H _ I h) fun v s1 ⟨x,H1,I1,r1,q1⟩=>?_
  rcases q1 with⟨a,e,q1⟩|⟨z,e,q⟩
  case inr =>
    subst e;obtain⟨t,rfl⟩:=r1
    have fp:∀ b∈[s1.heap.objs.size],zeA X pins H1 b:=fun b hb=>by
      have e:b=s1.heap.objs.size:=by simpa using hb
      subst e;exact I1.fpOk (qe _) (I1.hok.fresh (qe _))
    cases ha:z.cps.all (· < 128)with
    |true=>exact wpAny_pyIter_ascii ha ⟨s1.heap.objs.size,[s1.heap.objs.size],_,_,H1,rfl,I1.kept (t':=s1.toks) fun b o e=>qd _ e,zo1 z t _,⟨_,qp _ rfl,rfl,rfl⟩,fp,q⟩
    |false=>exact wpAny_pyIter_wide ha ⟨s1.heap.objs.size,[s1.heap.objs.size],_,_,H1,rfl,I1.kept (t':=s1.toks) fun b o e=>qd _ e,zox z t _,⟨_,qp _ rfl,rfl,rfl⟩,fp,q⟩
  subst e;cases r1;rcases q1 with⟨⟨xs,hq⟩,q⟩|⟨⟨xs,hq⟩,q⟩
  . obtain⟨its,rv,p,hz⟩:=I1.list hq;refine wpAny_pyIter_list p.isList ?_;refine⟨s1.heap.objs.size,[s1.heap.objs.size],_,_,H1,rfl,I1.kept (t':=s1.toks) fun b o e=>qd _ e,zn0 a _,⟨_,qp _ rfl,rfl,rfl⟩,fun b hb=>?_,q⟩;have e:b=s1.heap.objs.size:=by simpa using hb
    subst e;exact I1.fpOk (qe _) (I1.hok.fresh (qe _))
  . obtain⟨its,rv,p,hz⟩:=I1.tuple hq;refine wpAny_pyIter_tuple (show s1.heap.IsTuple a its.toArray from p) ?_;refine⟨s1.heap.objs.size,[s1.heap.objs.size],_,_,H1,rfl,I1.kept (t':=s1.toks) fun b o e=>qd _ e,zmI a _,⟨_,qp _ rfl,rfl,rfl⟩,fun b hb=>?_,q⟩;have e:b=s1.heap.objs.size:=by simpa using hb
    subst e;exact I1.fpOk (qe _) (I1.hok.fresh (qe _))
def zuF {K:PySem.W.Frag}{ad:List Addr}{H:Hp}(z:Str):zfb K ad H ⟨signs z,fun _=>True⟩ (Its z) where
 go:=fun ad1 H1 S i w st _ hi=>by
  show i<z.cps.size;have:i<(signs z).length:=hi;unfold signs at this;rw[qb]at this;simpa using this
 yld:=fun ad1 H1 S i d x H' w st _ hd ⟨e,c,hc,hx⟩=>by
  subst e hx;have hd:(signs z)[i]?=some d:=hd;unfold signs at hd;rw[qk,Array.getElem?_toList,hc]at hd;cases hd;exact⟨Wd.refl,st,.str _⟩
 stop:=fun ad1 H1 S w st _=>by
  show z.cps.size<=(signs z).length;unfold signs;rw[qb];simp
def ztN {K:PySem.W.Frag}{ad:List Addr}{H:Hp}{a:Addr}{vs:List V}{ds:List D}(h:H a=some (.tup vs))(r:zy K ad H ds vs):zfb K ad H ⟨ds,fun _=>True⟩ (Itt K a) where
 go:=fun ad1 H1 S i w st _ hi=>⟨vs,vs[i]'(by rw[<- r.length];exact hi),SqT.of (w.tup _ _ h),qc _⟩
 yld:=fun ad1 H1 S i d x H' w st _ hd ⟨e,hx⟩=>by
  subst e;obtain⟨v,ev,rv⟩:=r.get hd;rw[hx vs (SqT.of (w.tup _ _ h))]at ev;cases ev;exact⟨Wd.refl,st,rv.wd w⟩
 stop:=fun ad1 H1 S w st _=>⟨vs,SqT.of (w.tup _ _ h),by rw[<- r.length];exact qe _⟩
def zvE {K:PySem.W.Frag}{ad:List Addr}{H:Hp}{a:Addr}{x:D}{ds:List D}(r:Rel K ad H x (.ref a)):zfb K ad H ⟨ds,fun S=>Lst S x ds⟩ (Itl K a) where
 go:=fun ad1 H1 S i w st ok hi=>by
  obtain⟨a',vs,e,s,rs⟩:=Lst.sq st ok (r.wd w);cases e;exact⟨vs,vs[i]'(by rw[<- rs.length];exact hi),s,qc _⟩
 yld:=fun ad1 H1 S i d y H' w st ok hd ⟨e,hx⟩=>by
  subst e;obtain⟨a',vs,e,s,rs⟩:=Lst.sq st ok (r.wd w);cases e;obtain⟨v,ev,rv⟩:=rs.get hd;rw[hx vs s]at ev;cases ev;exact⟨Wd.refl,st,rv⟩
 stop:=fun ad1 H1 S w st ok=>by
  obtain⟨a',vs,e,s,rs⟩:=Lst.sq st ok (r.wd w);cases e;exact⟨vs,s,by rw[<- rs.length];exact qe _⟩
def zai {t:DE}(h:PD X e t):PID X tg e (zaR t):=by with_unfolding_all exact(zgB (zoo h) fun U H R hh=>el8 hh fun ad Z S R0 st rh q k =>
 ⟨ad,Z,S,_,st,rh,q,fun x S1 v H1 ad1 q1 w1 st1 r1=>by
  rcases q1 with⟨xs,rfl,q1⟩|⟨xs,hx,q1⟩|⟨z,rfl,q1⟩
  ·cases r1 with
   |tup h1 rs=>exact .inl ⟨_,rfl,.inr ⟨⟨_,SqT.of h1⟩,k _ S1 _ H1 ad1 q1 w1 st1 (ztN h1 rs)⟩⟩
  ·obtain⟨a,vs,rfl,s,rs⟩:=hx.sq st1 r1;exact .inl ⟨a,rfl,.inl ⟨⟨vs,s⟩,k _ S1 _ H1 ad1 q1 w1 st1 (zvE r1)⟩⟩
  ·cases r1;exact .inr ⟨z,rfl,k _ S1 _ H1 ad1 q1 w1 st1 (zuF z)⟩⟩)
def zqJ {lo:Int}{n i:Nat}{d:D}(h:(upto lo n)[i]?=some d):i<n/\d=.int (lo+i):=by
 unfold upto at h;rw[qk]at h;have hi:=My.zaO (xs:=List.range n) (i:=i) (x:=i);cases hr:(List.range n)[i]? with
 |none=>rw[hr]at h;cases h
 |some k =>
  rw[hr]at h;have h1:=My.zaO hr;rw[qW]at h1;have h2:(List.range n)[i]?=some i:=List.getElem?_range h1;rw[hr]at h2;cases h2;cases h;exact⟨h1,rfl⟩
def zlu (lo:Int)(n:Nat):(upto lo n).length=n:=by unfold upto;rw[qb,qW]
def zo5 {K:PySem.W.Frag}{ad:List Addr}{H:Hp}(lo:Int)(n:Nat):zfb K ad H ⟨upto lo n,fun _=>True⟩ (Itr lo n) where
 go:=fun ad1 H1 S i w st _ hi=>by rw[zlu]at hi;exact hi
 yld:=fun ad1 H1 S i d x H' w st _ hd ⟨e,hx⟩=>by
  subst e;obtain⟨_,rfl⟩:=zqJ hd;rw[hx];exact⟨Wd.refl,st,.int _⟩
 stop:=fun ad1 H1 S w st _=>by rw[zlu];exact qe _
def zo4 {P:Program}{w:World}{K:PySem.W.Frag}{tg:Expr}(it:Addr)(lo:Int)(n:Nat):Turn P w K tg (Itr lo n) [it] it (fun i h=>IsLongIter h it (lo+(i:Nat)*1) ((n:Int)-(i:Nat)) 1) where
 mem:=by simp
 obj:=fun i h st b hb=>by
  have e:b=it:=by simpa using hb
  subst e
  exact⟨_,st,fun v z=>by
   have z':Data.fields _=Data.cell v:=z;cases z'⟩
 keep:=fun i h h' st k=>k it (by simp) _ st
 item:=by
  intro X hP hw hK hc i pins s U H E I hf st' hg;subst hP hw hK;obtain⟨f0,f1,f2,f3,f4,f5⟩:=hf it (by simp);have W:=Walks.longrange (prog:=X.prog) (w:=X.w) (I.ok.hd hc) it lo 1 n;refine W.item i s _ _ hg st' fun v h' tk hv st'' kk=>?_
  obtain⟨t,rfl⟩:=hv;have I1:Inv X pins U H { s with heap:=h',toks:=tk }:=I.turned (fun b o hb e=>kk b o (by simpa using hb) e) f0 f1 f3 f4 f5;rw[Int.mul_one];exact⟨_,rfl,zgA (s:={ s with heap:=h',toks:=tk }) (n:="longrange_iterator") st'' rfl rfl (by decide) ⟨.int (lo+i),H,I1,⟨t,rfl⟩,⟨rfl,rfl⟩,st'',fun b hb=>(hf b hb).1⟩⟩
 done:=by
  intro X hP hw hK hc i pins s U H E I hf st' hg;subst hP hw hK;obtain⟨f0,f1,f2,f3,f4,f5⟩:=hf it (by simp);exact wpAny_pyNext_long_end (I.ok.hd hc) st' (by have:n<=i:=hg;lia) fun h' eb=>⟨rfl,I.turned (t':=s.toks) (fun b o hb e=>eb b o hb e) f0 f1 f3 f4 f5⟩
 self:=fun _ _ _ _ _ st h=>wpAny_pyIter_longiter st h
def range_any {pins:List (Addr×Obj)}{U:L2.St}{H:Hp}{s:Shared}{R:It->Hp->Prop}{E:Value->Shared->Prop}{lo hi:Int}{t u v:Tok}{tk:Nat}(I:Inv X pins U H s)
    (q:R (Itr lo (hi-lo).toNat) H):wpAny (model X.prog X.w) X.A (pyIter (.ref s.heap.objs.size)) (PIE X pins U tg R) E { s with heap:=s.heap.push { cls:=.type "range",data:=.fields #[.int lo t,.int hi u,.int 1 v] },toks:=tk }:=by
  have I1:Inv X pins U H { s with heap:=s.heap.push { cls:=.type "range",data:=.fields #[.int lo t,.int hi u,.int 1 v] },toks:=tk }:=I.kept fun b o e=>qd _ e
  have e1:lo+((0:Nat):Int)*1=lo:=by simp
  have e2:(((hi-lo).toNat:Nat):Int)-((0:Nat):Int)=Builtin.Range.rangeSize lo hi 1:=by rw[rangeSize_one];split<;>lia
  cases hsm:Builtin.Range.small lo hi 1 with
  |true =>
    refine wpAny_pyIter_range (IsRange.new ..) hsm ?_
    refine⟨(s.heap.push { cls:=.type "range",data:=.fields #[.int lo t,.int hi u,.int 1 v] }).objs.size,[(s.heap.push { cls:=.type "range",data:=.fields #[.int lo t,.int hi u,.int 1 v] }).objs.size],_,_,H,rfl,
      I1.kept (t':=tk) fun b o e=>qd _ e,zh7 _ lo (hi-lo).toNat,?_,fun b hb=>?_,q⟩
    . show IsRangeIter _ _ (lo+((0:Nat):Int)*1) ((((hi-lo).toNat:Nat):Int)-((0:Nat):Int)) 1;rw[e1,e2];exact qp _ rfl
    . have e:b=(s.heap.push { cls:=.type "range",data:=.fields #[.int lo t,.int hi u,.int 1 v] }).objs.size:=by simpa using hb
      subst e;exact I1.fpOk (qe _) (I1.hok.fresh (qe _))
  |false =>
    refine wpAny_pyIter_longrange (IsRange.new ..) hsm ?_
    refine⟨(s.heap.push { cls:=.type "range",data:=.fields #[.int lo t,.int hi u,.int 1 v] }).objs.size,[(s.heap.push { cls:=.type "range",data:=.fields #[.int lo t,.int hi u,.int 1 v] }).objs.size],_,_,H,rfl,
      I1.kept (t':=tk) fun b o e=>qd _ e,zo4 _ lo (hi-lo).toNat,?_,fun b hb=>?_,q⟩
    . show IsLongIter _ _ (lo+((0:Nat):Int)*1) ((((hi-lo).toNat:Nat):Int)-((0:Nat):Int)) 1;rw[e1,e2];exact qp _ rfl
    . have e:b=(s.heap.push { cls:=.type "range",data:=.fields #[.int lo t,.int hi u,.int 1 v] }).objs.size:=by simpa using hb
      subst e;exact I1.fpOk (qe _) (I1.hok.fresh (qe _))
def zgz {a:Expr}{t:DA}{p pos:Pos}(hm:X.mg "range"=none)(ha:PAD X [a] t)(hg:Gl X "range":=by rfl)(hs:starEach [a] X.env=[(false,eval a X.env)]:=by exact zcf rfl):PID X tg (.Call (.Name "range" p) [a] [] pos) (zeL t):=by with_unfolding_all exact(zgB (zph hg hm ha hs) fun U H R hh=>el8 hh fun ad Z S R0 st rh q k =>
 ⟨ad,Z,S,_,st,rh,q,fun ds S1 vs H1 ad1 ⟨j,ed,b1,b2,q1⟩ w1 st1 r1=>by
  subst ed;obtain⟨v,rfl,rv⟩:=zb4 r1;cases rv;exact⟨j,rfl,b1,b2,k _ S1 _ H1 ad1 q1 w1 st1 (zo5 0 j.toNat)⟩⟩)
def ztC {a b:Expr}{t:DA}{p pos:Pos}(hm:X.mg "range"=none)(ha:PAD X [a,b] t)(hg:Gl X "range":=by rfl)(hs:starEach [a,b] X.env=[(false,eval a X.env),(false,eval b X.env)]:=by exact zls rfl rfl)(hs2:starEach [b] X.env=[(false,eval b X.env)]:=by exact zcf rfl) :
  PID X tg (.Call (.Name "range" p) [a,b] [] pos) (znK t):=by
 with_unfolding_all
  rintro pins s U H R I ⟨ad,Z,S,R0,st,rh,q,k⟩
  refine Call_ (zbY I hg hm boot_range (PyProof.Rows.callWith_type1 (thn (ha pos pins s U H (fun vs H1=>∃ i j:Int,vs=[.int i,.int j]/\R (Itr i (j-i).toNat) H1) I ⟨ad,Z,S,_,st,rh,q,fun ds S1 vs H1 ad1 ⟨i,j,ed,q1⟩ w1 st1 r1=>by
   subst ed;obtain⟨v,u,rfl,rv,ru⟩:=zhJ r1;cases rv;cases ru;exact⟨i,j,rfl,k _ S1 _ H1 ad1 q1 w1 st1 (zo5 i _)⟩⟩) fun us s1 ⟨vs,H1,I1,r1,q1⟩=>?_) (by rw[hs,hs2]) (by rw[hs2];rfl)))
  obtain⟨i,j,e,q⟩:=q1;subst e;cases r1 with
  |cons r rr =>
   cases rr with
   |cons r' rr =>
    cases rr;obtain⟨t,rfl⟩:=r;obtain⟨t',rfl⟩:=r';exact call_range_2 (range_any I1 q)
def zas {iter:Expr}{body:List Stmt}{wi:DI}{g:DG}{t:DS}{pos:Pos}(hi:PID X tg iter wi)(hg:PGD X 1000 tg g)(hb:zcw X body t)(hp:PassesOwn (model X.prog X.w) X.A X.env X.xe:=by first|exact PassesOwn.never|exact PassesOwn.leaving)(hc:X.calm=true:=by rfl)(hs:∀ x,foldedSetIterable iter X.env x=pure x:=by intro _;rfl):PSD X (.For tg iter body [] pos) (zbp wi g t):=by
 with_unfolding_all
  obtain⟨g',pg,rg⟩:=hg;refine zbn (ztY hp hc hi pg hb hs) fun E U H hh=>el8 hh fun ad Z S E0 so rh q k=>?_
  refine⟨ad,Z,S,_,so,rh,q,fun J0 S1 J H1 ad1 ⟨W,w0,hok,step,fin⟩ d1 st1 it=>?_⟩;refine⟨fun i m σ' H'=>m=J0.items.length-i/\i<=J0.items.length/\∃ ad' ρ' S',W i ρ' S'/\Wd ad1 H1 ad' H'/\zE X.K ad' H' S'/\zan X.K ad' H' ρ' σ',⟨J0.items.length,rfl,qP _,ad1,Z,S1,w0,Wd.refl,st1,rh.wd d1⟩,?_⟩;rintro i m σ2 H2 ⟨rfl,hi2,ad2,ρ2,S2,w2,d2,st2,rh2⟩;by_cases hlt:i<J0.items.length
  ·have ed:J0.items[i]?=some J0.items[i]:=qc hlt;refine .inr ⟨it.go ad2 H2 S2 i d2 st2 (hok _ _ _ w2) hlt,fun σ' H'=>∃ ad' ρ' S',W (i+1) ρ' S'/\Wd ad1 H1 ad' H'/\zE X.K ad' H' S'/\zan X.K ad' H' ρ' σ',?_,fun x H' hy=>?_⟩
   ·rintro σ' H' ⟨ad',ρ',S',w',d',st',rh'⟩;exact⟨J0.items.length-(i+1),by lia,rfl,hlt,ad',ρ',S',w',d',st',rh'⟩
   ·obtain⟨d3,st3,r3⟩:=it.yld ad2 H2 S2 i _ x H' d2 st2 (hok _ _ _ w2) ed hy;refine rg ad2 H' S2 ρ2 σ2 _ x _ _ st3 (rh2.wd d3) r3 (step i _ ρ2 S2 ed w2) fun ρ4 S4 σ4 H4 ad4 q4 d4 st4 rh4 _ _=>?_
    have d14:=(d2.trans d3).trans d4;have d04:=d1.trans d14;exact⟨ad4,ρ4,S4,{ E0 with nx:=W (i+1),ct:=W (i+1),bk:=E0.nx },st4,rh4,q4,⟨fun ρ' S' σ' H' ad' q' w' st' rh'=>⟨ad',ρ',S',q',d14.trans w',st',rh'⟩,k.rt.wd d04,fun ρ' S' σ' H' ad' q' w' st' rh'=>k.nx ρ' S' σ' H' ad' q' (d04.trans w') st' rh',fun ρ' S' σ' H' ad' q' w' st' rh'=>⟨ad',ρ',S',q',d14.trans w',st',rh'⟩⟩⟩
  ·have e:i=J0.items.length:=by lia
   subst e;exact .inl ⟨it.stop ad2 H2 S2 d2 st2 (hok _ _ _ w2),k.nx ρ2 S2 σ2 H2 ad2 (fin ρ2 S2 w2) (d1.trans d2) st2 rh2⟩
end
theorem zli:∀ {a b:L2.St} (n:Nat),(∀ j,j<n->a[j]?=some none\/a.length<=j)->b.length=a.length->(∀ j,n<=j->b[j]?=a[j]?)->Agr a b
 |[],[],_,_,_,_=>True.intro
 |[],_::_,_,_,h,_=>by simp at h
 |_::_,[],_,_,h,_=>by simp at h
 |x::a,y::b,n,h0,hl,h=>by
  have hl':b.length=a.length:=by simpa using hl
  cases n with
  |zero =>
   have e:=h 0 (qe _);have e':y=x:=by simpa using e
   subst e';have rest:Agr a b:=zli 0 (fun j hj=>absurd hj (Nat.not_lt_zero _)) hl' fun j _=>by simpa using h (j+1) (qP _)
   cases y with
   |none=>exact rest
   |some v=>exact⟨rfl,rest⟩
  |succ n =>
   have rest:Agr a b:=zli n (fun j hj=>by
    rcases h0 (j+1) (by lia)with e|e
    ·exact .inl (by simpa using e)
    ·exact .inr (by simpa using e)) hl' fun j hj=>by simpa using h (j+1) (by lia)
   rcases h0 0 (Nat.succ_pos _)with e|e
   ·have e':x=none:=by simpa using e
    subst e';exact rest
   ·simp at e
def zmo {K:PySem.W.Frag}{ad:List Addr}{H:Hp}{Z:Rho}{U:L2.St}(h:zan K ad H Z U)(own:List Str)(fv:List Nat):zan K ad H (zem own.length fv Z) (cst own fv U) where
  len:=by unfold zem cst;rw[qi,qi,qD,qD,qb,qb]
  val:=fun i d e=>by
    unfold zem at e;unfold cst;by_cases hi:i<own.length
    . rw[qu (by rw[qD];exact hi),List.getElem?_replicate]at e;split at e<;>cases e
    . have hi':own.length<=i:=Nat.le_of_not_lt hi;rw[qj (by rw[qD];exact hi'),qD,qk]at e;rw[qj (by rw[qD];exact hi'),qD,qk];cases hf:fv[i-own.length]? with
      |none=>rw[hf]at e;cases e
      |some j =>
        rw[hf]at e;simp only[Option.map_some,Option.some.injEq]at e ⊢;cases hr:Z[j]? with
        |none=>rw[hr]at e;cases e
        |some o =>
          rw[hr]at e;have e':o=some d:=e;subst e';obtain⟨v,ev,rv⟩:=h.val j d hr;exact⟨v,by rw[ev];rfl,rv⟩
@[irreducible] def zmS (X:Cx)(ifs:List Expr)(t:DT):Prop:=PFs X ifs (upT X.K t)
def zaY {X:Cx}:zmS X [] zbt:=by with_unfolding_all exact(fun pins s U H Q I hh=>el8 hh fun ad Z S Q0 st rh q k=>ztP pins s U H Q I (k true S H ad q Wd.refl st))
def zgH {X:Cx}{c:Expr}{t:DT}(h:PTD X c t):zmS X [c] t:=by with_unfolding_all exact(ztS h)
def ofT {A B:Prop}(h:if true=true then A else B):A:=by rw[if_pos rfl]at h;exact h
def ofF {A B:Prop}(h:if false=true then A else B):B:=by rw[if_neg qv]at h;exact h
def zrA {K:PySem.W.Frag}{own:List Str}{fv:List Nat}{wi:DI}{g:DG}{g':TG}{tc:DT}{te:DE}(rg:zfU K own.length g g'){U:L2.St}{H:Hp}{Q:VK}(h:up K (dLC own.length fv wi g tc te) U H Q):tLC own fv (upI K wi) g' (upT K tc) (up K te) U H Q:=by
 obtain⟨ad,Z,S,Q0,so,rh,q,k⟩:=h;refine⟨ad,Z,S,_,so,rh,q,fun J0 S1 J H1 ad1 ⟨hbig,W,w0,hok,step,fin⟩ d1 st1 it=>?_⟩;intro p hp
 refine⟨fun i m H'=>m=J0.items.length-i/\i<=J0.items.length/\∃ ad' S' ys vs,W i ys S'/\Wd ad1 H1 ad' H'/\zE K ad' H' S'/\p∉ad'/\H' p=some (.lst vs)/\zy K ad' H' ys vs/\vs.length<=i,
  ⟨J0.items.length,rfl,qP _,ad1,S1,[],[],w0,Wd.laid hp,st1.laid hp,st1.fresh hp,zY,.nil,qe _⟩,?_⟩
 rintro i m H2 ⟨rfl,hi2,ad2,S2,ys,vs,w2,d2,st2,hp2,hv2,r2,hl2⟩;by_cases hlt:i<J0.items.length
 ·have ed:J0.items[i]?=some J0.items[i]:=qc hlt;refine .inr ⟨it.go ad2 H2 S2 i d2 st2 (hok _ _ _ w2) hlt,fun x H' hy=>?_⟩;obtain⟨d3,st3,r3⟩:=it.yld ad2 H2 S2 i _ x H' d2 st2 (hok _ _ _ w2) ed hy;have rh3:=zmo (rh.wd ((d1.trans d2).trans d3)) own fv;refine rg ad2 H' S2 _ _ _ x _ _ st3 rh3 r3 (step i _ ys S2 ed w2) fun ρ4 S4 σ4 H4 ad4 q4 d4 st4 rh4 l4 a4=>?_
  refine⟨zli own.length (fun j hj=>.inl ?_) l4 a4,ad4,ρ4,S4,_,st4,rh4,q4,fun b S5 H5 ad5 q5 d5 st5=>?_⟩
  ·unfold cst;rw[qu (by rw[qD];exact hj),List.getElem?_replicate,if_pos hj]
  have fwd:∀ {ad9:List Addr} {H9:Hp},Wd ad2 H2 ad9 H9->p∉ad9/\H9 p=some (.lst vs):=fun {ad9 H9} w=>⟨(fun m=>by
   have z:=w.new p m hp2;rw[hv2]at z;cases z),w.keep p _ hp2 hv2⟩
  have d25:=(d3.trans d4).trans d5;cases b with
  |true =>
   refine zrk ?_;have q5:=Dp.ofT q5;refine⟨ad5,ρ4,S5,_,st5,rh4.wd d5,q5,fun y S6 v H6 ad6 q6 d6 st6 r6=>?_⟩;have d26:=d25.trans d6;obtain⟨n6,e6⟩:=fwd d26;have hw:Wr ad6 H6 ad6 (upd H6 p (.lst (vs++[v]))):=Wr.hid e6;have hvl:vs.length<sizeLine:=ziG (by lia);exact⟨vs,e6,hvl,J0.items.length-(i+1),by lia,rfl,hlt,ad6,S6,ys++[y],vs++[v],q6,(d2.trans d26).hid hp,st6.hid e6 n6 (st1.bfree hp),n6,zY,zy.wr hw ((r2.wd d26).append (.cons r6 .nil)),by rw[qi];exact Nat.succ_le_succ hl2⟩
  |false =>
   refine zqj ?_;have q5:=Dp.ofF q5;obtain⟨n5,e5⟩:=fwd d25;exact⟨J0.items.length-(i+1),by lia,rfl,hlt,ad5,S5,ys,vs,q5,d2.trans d25,st5,n5,e5,r2.wd d25,by lia⟩
 ·have e:i=J0.items.length:=by lia
  subst e;refine .inl ⟨it.stop ad2 H2 S2 d2 st2 (hok _ _ _ w2),?_⟩;exact k _ _ _ _ (ad2++[p]) (fin ys S2 w2) (d1.trans (d2.add hp)) (st2.add hv2 hp2 r2 (st1.bfree hp)) (.ref (by rw[<- st2.len,qj (qe _),Nat.sub_self];rfl))
section
variable {X:Cx}{sc:Scope}{tg iter elt:Expr}{ifs:List Expr}{own free:List Str}{fv:List Nat}{wi:DI}{g:DG}{tc:DT}{te:DE}{pos:Pos}
def zcd {g':TG}(hfr:zc5 (fun x=>X.env.kindOf x=some .cell) sc.names)(hfv:zeP X sc free fv)(hi:PID X tg iter wi)
  (hg:zfU X.K own.length g g'/\∀ cl C s₀ H₀ ex,PG (inner X sc (own++free) cl C s₀ H₀ ex) tg g') (ht:∀ cl C s₀ H₀ ex,zmS (inner X sc (own++free) cl C s₀ H₀ ex) ifs tc) (he:∀ cl C s₀ H₀ ex,PD (inner X sc (own++free) cl C s₀ H₀ ex) elt te) (hcalm:X.calm=true:=by rfl) (hxe:(X.xe=fun _ _=>False):=by rfl) (hkind:sc.kind=.function:=by rfl) (hcell:∀ y∈sc.names,y.2=.cell->sc.names.lookup y.1=some .cell:=by decide +kernel) (hnames:∀ y∈sc.names,y.2=.local->sc.names.lookup y.1=some .local:=by decide +kernel)
  (hs:∀ x,foldedSetIterable iter X.env x=pure x:=by intro _;rfl):PD X (.ListComp elt [⟨tg,iter,ifs,0⟩] sc pos) (dLC own.length fv wi g tc te):=by with_unfolding_all exact(zaG (zxc (tc:=upT X.K tc) (te:=up X.K te) hcalm hxe hkind hcell hnames hfr hfv hi hg.2 ht he hs) fun _ _ _=>zrA hg.1)
def zdn {g':TG}{i:Nat}{y:Str}{py spos:Pos}(hN:X.N.Nodup)(hfr:zc5 (fun x=>X.env.kindOf x=some .cell) sc.names)(hfv:zeP X sc free fv)(hi:PID X tg iter wi)
  (hg:zfU X.K own.length g g'/\∀ cl C s₀ H₀ ex,PG (inner X sc (own++free) cl C s₀ H₀ ex) tg g') (ht:∀ cl C s₀ H₀ ex,zmS (inner X sc (own++free) cl C s₀ H₀ ex) ifs tc) (he:∀ cl C s₀ H₀ ex,PD (inner X sc (own++free) cl C s₀ H₀ ex) elt te) (hy:X.N[i]?=some y:=by rfl) (hyl:X.env.scope.names.lookup y=some .local:=by rfl) (hcalm:X.calm=true:=by rfl) (hxe:(X.xe=fun _ _=>False):=by rfl) (hkind:sc.kind=.function:=by rfl) (hcell:∀ y∈sc.names,y.2=.cell->sc.names.lookup y.1=some .cell:=by decide +kernel) (hnames:∀ y∈sc.names,y.2=.local->sc.names.lookup y.1=some .local:=by decide +kernel)
  (hsw:swapsWith (.ListComp elt [⟨tg,iter,ifs,0⟩] sc pos) (some (.Name y py)) spos.line X.env=pure true:=by rfl)
  (hs:∀ x,foldedSetIterable iter X.env x=pure x:=by intro _;rfl):PSD X (.Assign [.Name y py] (.ListComp elt [⟨tg,iter,ifs,0⟩] sc pos) spos) (zJ (dLC own.length fv wi g tc te) (zaq i)):=by with_unfolding_all exact(zbn (zsl (tc:=upT X.K tc) (te:=up X.K te) hN hy hyl hcalm hxe hkind hcell hnames hfr hfv hi hg.2 ht he hsw hs) fun E U H hh=>el8 hh fun ad Z S E0 so rh q k =>
  zrA (Q:=fun x H1=>L2.zaq i x U H1 E.nx) hg.1 ⟨ad,Z,S,_,so,rh,q,fun d S' v H' ad' q' w st' r=>k.nx _ S' _ H' ad' q' w st' ((rh.wd w).set r i)⟩)
def zcP {K:PySem.W.Frag}{b:Nat}:zin K b zbk L2.zbk:=fun ad H S Z U ds vs Q0 Q st rh r ⟨e,q⟩ k=>by
 subst e;cases r;exact⟨rfl,k Z S U H ad q Wd.refl st rh rfl fun _ _=>rfl⟩
def zaw {K:PySem.W.Frag}{b:Nat}{t:DG}{u:DGs}{t':TG}{u':TGs}(r1:zfU K b t t')(r2:zin K b u u'):zin K b (zV t u) (L2.zV t' u'):=fun ad H S Z U ds vs Q0 Q st rh r ⟨d,rs,ed,q⟩ k=>by
 subst ed;cases r with
 |cons r t =>
  refine⟨_,_,rfl,r1 ad H S Z U d _ _ _ st rh r q fun ρ1 S1 σ1 H1 ad1 q1 w1 st1 rh1 l1 a1=>?_⟩;exact r2 ad1 H1 S1 ρ1 σ1 _ _ _ _ st1 rh1 (t.wd w1) q1 fun ρ2 S2 σ2 H2 ad2 q2 w2 st2 rh2 l2 a2=>k ρ2 S2 σ2 H2 ad2 q2 (w1.trans w2) st2 rh2 (l2.trans l1) fun j hj=>(a2 j hj).trans (a1 j hj)
def zdj {K:PySem.W.Frag}{b n:Nat}{t:DGs}{t':TGs}(r:zin K b t t'):zfU K b (zbh n t) (L2.zbh K n t'):=fun ad H S Z U d v Q0 Q st rh rv ⟨xs,ed,hl,q⟩ k=>by
 subst ed;cases rv with
 |tup h1 rs=>exact⟨_,_,rfl,SqT.of h1,by rw[<- rs.length];exact hl,r ad H S Z U xs _ _ _ st rh rs q k⟩
end
def zhw {K:PySem.W.Frag}{ad:List Addr}{H:Hp}{ds:List D}{vs:List V}(N:List Str)(r:zy K ad H ds vs):zan K ad H (zdb N.length ds) (L2.start N vs) where
  len:=by unfold zdb L2.start;rw[qi,qi,qb,qb,qD,qD,r.length]
  val:=fun i d e=>by
    unfold zdb at e;unfold L2.start;by_cases hi:i<ds.length
    . rw[qu (by rw[qb];exact hi),qk]at e;rw[qu (by rw[qb,<- r.length];exact hi),qk];cases hd:ds[i]? with
      |none=>rw[hd]at e;cases e
      |some d' =>
        rw[hd]at e;cases e;obtain⟨v,ev,rv⟩:=r.get hd;exact⟨v,by rw[ev];rfl,rv⟩
    . rw[qj (by rw[qb];exact Nat.le_of_not_lt hi),List.getElem?_replicate]at e;split at e<;>cases e
def zy.cut1 {K:PySem.W.Frag}{ad ad':List Addr}{H:Hp}(k:Nat)(h1:∀ d v,fl k d=true->Rel K ad H d v->Rel K ad' H d v):∀ ds vs,ds.all (fl k)=true->zy K ad H ds vs->zy K ad' H ds vs:=by
 intro ds
 induction ds with
 |nil=>intro vs _ r;cases r;exact .nil
 |cons d ds ih =>
  intro vs hf r;rw[List.all_cons,qA]at hf;cases r with
  |cons r t=>exact .cons (h1 d _ hf.1 r) (ih _ hf.2 t)
def Rel.cut {K:PySem.W.Frag}{ad ad':List Addr}{H:Hp}:∀ (k:Nat) (d:D) (v:V),fl k d=true->Rel K ad H d v->Rel K ad' H d v:=by
 intro k
 induction k with
 |zero =>
  intro d v hf r;cases r with
  |non=>exact .non
  |bl b=>exact .bl b
  |int i=>exact .int i
  |str x=>exact .str x
  |ty n=>cases hf
  |tup h r=>cases hf
  |rl h r=>cases hf
  |ref h=>cases hf
  |exn _ _ _=>cases hf
 |succ k ih =>
  intro d v hf r;cases r with
  |non=>exact .non
  |bl b=>exact .bl b
  |int i=>exact .int i
  |str x=>exact .str x
  |ty n=>cases hf
  |tup h r=>exact .tup h (zy.cut1 k ih _ _ hf r)
  |rl h r=>cases hf
  |ref h=>cases hf
  |exn _ _ _=>cases hf
theorem zy.cut {K:PySem.W.Frag}{ad ad':List Addr}{H:Hp}(k:Nat)(ds:List D)(vs:List V)(hf:ds.all (fl k)=true)(r:zy K ad H ds vs):zy K ad' H ds vs:=zy.cut1 k (Rel.cut k) ds vs hf r
end Dp
namespace Dp
open PySem PySem.Spec PyProof.Rows L2 My
variable [B:Bs]
mutual
theorem Rel.low {K:PySem.W.Frag}{ad ad':List Addr}{H H':Hp}{m:Nat}(hm:ad.length<=m):∀ {d:D} {u v:V},Rel K ad H d u->Rel K ad' H' d v->Rel K (ad'.take m) H' d v
 |_,_,_,.non,r=>by cases r;exact .non
 |_,_,_,.bl b,r=>by cases r;exact .bl b
 |_,_,_,.int i,r=>by cases r;exact .int i
 |_,_,_,.str x,r=>by cases r;exact .str x
 |_,_,_,.ty n,r=>by cases r;exact .ty n
 |_,_,_,.tup _ t,r=>by
  cases r with
  |tup h t'=>exact .tup h (zy.low hm t t')
 |_,_,_,.rl _ t,r=>by
  cases r with
  |rl h t'=>exact .rl h (zy.low hm t t')
 |_,_,_,.exn _ _ _,r=>by
  cases r with
  |exn h e n=>exact .exn h e n
 |_,_,_,.ref h,r=>by
  cases r with
  |ref h'=>exact .ref (by rw[List.getElem?_take_of_lt (qr (My.zaO h) hm)];exact h')
theorem zy.low {K:PySem.W.Frag}{ad ad':List Addr}{H H':Hp}{m:Nat}(hm:ad.length<=m):∀ {ds:List D} {us vs:List V},zy K ad H ds us->zy K ad' H' ds vs->zy K (ad'.take m) H' ds vs
 |_,_,_,.nil,r=>by cases r;exact .nil
 |_,_,_,.cons r t,q=>by
  cases q with
  |cons r' t'=>exact .cons (Rel.low hm r r') (zy.low hm t t')
end
theorem zaL.low {K:PySem.W.Frag}{ad ad':List Addr}{H H':Hp}{m:Nat}(hm:ad.length<=m):∀ {fs:List (Str×D)} {us vs:List (Str×V)},zaL K ad H fs us->zaL K ad' H' fs vs->zaL K (ad'.take m) H' fs vs
 |_,_,_,.nil,r=>by cases r;exact .nil
 |_,_,_,.cons r t,q=>by
  cases q with
  |cons r' t'=>exact .cons (Rel.low hm r r') (zaL.low hm t t')
theorem RelK.low {K:PySem.W.Frag}{ad ad':List Addr}{H H':Hp}{m:Nat}(hm:ad.length<=m):∀ {fs:List (Str×D)} {us vs:List (Key×V)},RelK K ad H fs us->RelK K ad' H' fs vs->RelK K (ad'.take m) H' fs vs
 |_,_,_,.nil,r=>by cases r;exact .nil
 |_,_,_,.cons r t,q=>by
  cases q with
  |cons r' t'=>exact .cons (Rel.low hm r r') (RelK.low hm t t')
theorem zaz.low {K:PySem.W.Frag}{ad ad':List Addr}{H H':Hp}{m:Nat}(hm:ad.length<=m):∀ {fs:List (List Key×D)} {us vs:List (List Key×V)},zaz K ad H fs us->zaz K ad' H' fs vs->zaz K (ad'.take m) H' fs vs
 |_,_,_,.nil,r=>by cases r;exact .nil
 |_,_,_,.cons r t,q=>by
  cases q with
  |cons r' t'=>exact .cons (Rel.low hm r r') (zaz.low hm t t')
def zeV {K:PySem.W.Frag}{ad:List Addr}{H:Hp}{S:Sto}{Q0:DK}{Q:VK}(st:zE K ad H S)(k:KK K ad H Q0 Q):KK K ad H (Fin S Q0) Q:=by
 intro d S' v H' ad' hf w st' r;rcases hf with q|⟨S1,pre,hlen,hd,hc,q⟩
 ·exact k d S' v H' ad' q w st' r
 have hS:S1.length<=S'.length:=pre.length_le;have had:ad.length<=S1.length:=by rw[st.len];exact hlen
 have htk:∀ {n:Nat} {a:Addr},(ad'.take S1.length)[n]?=some a->ad'[n]?=some a:=fun {n a} e=>by
  have hn:=My.zaO e;rw[qaf]at hn;rw[List.getElem?_take_of_lt (by lia)]at e;exact e
 have w1:Wd ad H (ad'.take S1.length) H':=by
  refine⟨?_,w.keep,w.tup,w.frz,fun b m n=>w.new b (List.mem_of_mem_take m) n⟩;obtain⟨t,rfl⟩:=w.pre;rw[List.take_append,List.take_of_length_le had];exact List.prefix_append _ _
 refine k d S1 v H' _ q w1 ⟨st.wd.trans w1,by rw[qaf,st'.len];lia,st'.nd.sublist (List.take_sublist _ _),fun n a c e1 e2=>?_⟩ ?_
 ·have e1':=htk e1;have ok:=st'.cell n a c e1' (zgr pre e2);rcases hc n c e2 with h|h
  ·obtain⟨a0,ea,ok0⟩:=st.get h;cases c with
   |ins c fs =>
    obtain⟨C,dx,vs,hv,c1,c2,rv,hn⟩:=ok;obtain⟨_,_,us,_,_,_,ru,_⟩:=ok0;exact⟨C,dx,vs,hv,c1,c2,zaL.low had ru rv,hn⟩
   |dk kvs =>
    obtain⟨vs,hv,rv⟩:=ok;obtain⟨us,hu,ru⟩:=ok0;exact⟨vs,hv,RelK.low had ru rv⟩
   |dt kvs =>
    obtain⟨vs,hv,rv⟩:=ok;obtain⟨us,hu,ru⟩:=ok0;exact⟨vs,hv,zaz.low had ru rv⟩
   |tab x l c=>exact ok
   |lst xs =>
    obtain⟨vs,hv,rv⟩:=ok;obtain⟨us,hu,ru⟩:=ok0;exact⟨vs,hv,zy.low had ru rv⟩
  ·cases c with
   |ins c fs=>cases h
   |dk _=>cases h
   |dt _=>cases h
   |tab _ _ _=>cases h
   |lst xs =>
    obtain⟨vs,hv,rv⟩:=ok;exact⟨vs,hv,zy.cut 20 _ _ h rv⟩
 ·rcases hd with h|⟨n,rfl,hn⟩
  ·exact Rel.cut 20 _ _ h r
  ·cases r with
   |ref e=>exact .ref (by rw[List.getElem?_take_of_lt hn];exact e)
omit B in
def zrX {P:Program}{w:World}{K:PySem.W.Frag}{mg:Str->Option Value}{base:Heap}{x qual:Str}{st:Stmt}{f:Addr}{fd:FuncData}{N ps:List Str}{k:Nat}{sp:DSp}{b:DS}(F:Fun K x qual st f fd)(S:zcb N ps (zN st))
  (len:∀ ds So Q,sp ds So Q->ds.length=ps.length) (body:BodyOk N.length b sp)
  (term:∀ (cdv:Value) (A:Around) (outer:List Env) (s:Shared) (H:Hp) (E:XK),zaf k (A.deeper (envOfC qual (zN st) s.heap.objs.size f cdv))->∀ [Bs],zcw (zbW CX0 P w K mg base N qual (zN st) f cdv A outer s H E).nox (zaD st) b) :
  zP P w K mg base CX0 (k+1) f fd ps (upF K sp):=by
 with_unfolding_all
  refine F.ok S (fun vs H Q E ⟨ad,So,ds,Q0,so,r,hf,kk⟩=>by rw[<- r.length];exact len ds So Q0 hf) fun cdv A outer s H vs Q E hr ⟨ad,So,ds,Q0,so,r,hf,kk⟩=>?_
  letI:Bs:=⟨ad,H⟩
  refine⟨_,term cdv A outer s H E hr,ad,zdb N.length ds,So,_,so,zhw N r,body ds So Q0 hf,⟨fun Z S' U H' ad' q w' st' rh=>zeV so kk .non S' .non H' ad' q w' st' .non,zeV so kk,fun _ _ _ _ _ q=>q.elim,fun _ _ _ _ _ q=>q.elim⟩⟩
omit B in
theorem zlo:∀ {ns:List Int} {n:Int},n∈ns->PySem.W.WData.weight (.int n)<=PySem.W.WData.weightAll (ns.map PySem.W.WData.int)
 |m::ns,n,h=>by
  rw[qI,PySem.W.WData.weightAll];rcases qg.mp h with rfl|h
  ·lia
  ·have:=zlo h;lia
omit B in
def zru {us:List Value}(hl:us.length=1):∃ a0,us=[a0]:=by
  cases us with
  |nil=>simp at hl
  |cons a0 us =>
  cases us with
  |nil=>exact⟨a0,rfl⟩
  |cons b us=>simp at hl
omit B in
def znz {us:List Value}(hl:us.length=2):∃ a0 a1,us=[a0,a1]:=by
  cases us with
  |nil=>simp at hl
  |cons a0 us =>
  cases us with
  |nil=>simp at hl
  |cons a1 us =>
  cases us with
  |nil=>exact⟨a0,a1,rfl⟩
  |cons b us=>simp at hl
omit B in
def zrF {us:List Value}(hl:us.length=3):∃ a0 a1 a2,us=[a0,a1,a2]:=by
  cases us with
  |nil=>simp at hl
  |cons a0 us =>
  cases us with
  |nil=>simp at hl
  |cons a1 us =>
  cases us with
  |nil=>simp at hl
  |cons a2 us =>
  cases us with
  |nil=>exact⟨a0,a1,a2,rfl⟩
  |cons b us=>simp at hl
omit B in
def zrB {us:List Value}(hl:us.length=4):∃ a0 a1 a2 a3,us=[a0,a1,a2,a3]:=by
  cases us with
  |nil=>simp at hl
  |cons a0 us =>
  cases us with
  |nil=>simp at hl
  |cons a1 us =>
  cases us with
  |nil=>simp at hl
  |cons a2 us =>
  cases us with
  |nil=>simp at hl
  |cons a3 us =>
  cases us with
  |nil=>exact⟨a0,a1,a2,a3,rfl⟩
  |cons b us=>simp at hl
omit B in
def zwz {us:List Value}(hl:us.length=8):∃ a0 a1 a2 a3 a4 a5 a6 a7,us=[a0,a1,a2,a3,a4,a5,a6,a7]:=by
  cases us with
  |nil=>simp at hl
  |cons a0 us =>
  cases us with
  |nil=>simp at hl
  |cons a1 us =>
  cases us with
  |nil=>simp at hl
  |cons a2 us =>
  cases us with
  |nil=>simp at hl
  |cons a3 us =>
  cases us with
  |nil=>simp at hl
  |cons a4 us =>
  cases us with
  |nil=>simp at hl
  |cons a5 us =>
  cases us with
  |nil=>simp at hl
  |cons a6 us =>
  cases us with
  |nil=>simp at hl
  |cons a7 us =>
  cases us with
  |nil=>exact⟨a0,a1,a2,a3,a4,a5,a6,a7,rfl⟩
  |cons b us=>simp at hl
end Dp
namespace Dp
open PySem PySem.Spec PyProof.Rows L2 My
variable [B:Bs]
section
variable {X:Cx}
def zts {K:PySem.W.Frag}{ad:List Addr}{H:Hp}{a:Addr}{x:D}{ds:List D}(r:Rel K ad H x (.ref a)):zfb K ad H ⟨zct 0 ds,fun S=>Lst S x ds⟩ (Ite K a) where
 go:=fun ad1 H1 S i w st ok hi=>by
  obtain⟨a',vs,e,s,rs⟩:=Lst.sq st ok (r.wd w);cases e;have hi':i<ds.length:=by rw[<- zbm 0 ds];exact hi
  exact⟨vs,vs[i]'(by rw[<- rs.length];exact hi'),s,qc _⟩
 yld:=fun ad1 H1 S i d y H' w st ok hd ⟨p,ey,hp,he⟩=>by
  obtain⟨a',vs,e,s,rs⟩:=Lst.sq st ok (r.wd w);cases e;obtain⟨z,hz,rfl⟩:=zb0 hd;obtain⟨v,ev,rv⟩:=rs.get hz;rw[he vs v s ev,ey];refine⟨Wd.laid hp,st.laid hp,.tup zY (.cons ?_ (.cons (rv.wd (Wd.laid hp)) .nil))⟩;rw[Nat.zero_add];exact .int _
 stop:=fun ad1 H1 S w st ok=>by
  obtain⟨a',vs,e,s,rs⟩:=Lst.sq st ok (r.wd w);cases e;exact⟨vs,s,by show _<=(zct 0 ds).length;rw[zbm,rs.length];exact qe _⟩
def zqR {K:PySem.W.Frag}{ad:List Addr}{H:Hp}{a:Addr}{vs:List V}{ds:List D}(h:H a=some (.tup vs))(r:zy K ad H ds vs):zfb K ad H ⟨zct 0 ds,fun _=>True⟩ (zpv K a) where
 go:=fun ad1 H1 S i w st _ hi=>by
  have hi':i<ds.length:=by rw[<- zbm 0 ds];exact hi
  exact⟨vs,vs[i]'(by rw[<- r.length];exact hi'),SqT.of (w.tup _ _ h),qc _⟩
 yld:=fun ad1 H1 S i d y H' w st _ hd ⟨p,ey,hp,he⟩=>by
  obtain⟨z,hz,rfl⟩:=zb0 hd;obtain⟨v,ev,rv⟩:=r.get hz;rw[he vs v (SqT.of (w.tup _ _ h)) ev,ey];refine⟨Wd.laid hp,st.laid hp,.tup zY (.cons ?_ (.cons ((rv.wd w).wd (Wd.laid hp)) .nil))⟩;rw[Nat.zero_add];exact .int _
 stop:=fun ad1 H1 S w st _=>⟨vs,SqT.of (w.tup _ _ h),by show _<=(zct 0 ds).length;rw[zbm,r.length];exact qe _⟩
def zce {es:List Expr}{kk:Nat}{tpos:Pos}{a:Expr}{t:DA}{p pos:Pos}(hg:Gl X "enumerate")(hm:X.mg "enumerate"=none)(ha:PAD X [a] t)(hs:starEach [a] X.env=[(false,eval a X.env)]:=by exact zcf rfl) :
  PID X (.Tuple es kk tpos) (.Call (.Name "enumerate" p) [a] [] pos) (Dp.zfp t):=by with_unfolding_all exact(zgB (zpS hg hm ha hs) fun U H R hh=>el8 hh fun ad Z S R0 st rh q k =>
 ⟨ad,Z,S,_,st,rh,q,fun ds S1 vs H1 ad1 q0 w1 st1 r1=>by
  rcases q0 with⟨x,xs,ed,hx,q1⟩|⟨xs,ed,q1⟩
  ·subst ed;obtain⟨v,rfl,rv⟩:=zb4 r1;obtain⟨b,ws,rfl,s,rs⟩:=hx.sq st1 rv;exact⟨b,rfl,.inl ⟨⟨ws,s⟩,k _ S1 _ H1 ad1 q1 w1 st1 (zts rv)⟩⟩
  ·subst ed;obtain⟨v,rfl,rv⟩:=zb4 r1;cases rv with
   |tup h r=>exact⟨_,rfl,.inr ⟨⟨_,SqT.of h⟩,k _ S1 _ H1 ad1 q1 w1 st1 (zqR h r)⟩⟩⟩)
def zuX {K:PySem.W.Frag}{ad:List Addr}{H:Hp}{a b:Addr}{x y:D}{ds es:List D}(r:Rel K ad H x (.ref a))(r2:Rel K ad H y (.ref b)):zfb K ad H ⟨za8 ds es,fun S=>Lst S x ds/\Lst S y es⟩ (znm K true true a b) where
 go:=fun ad1 H1 S i w st ok hi=>by
  obtain⟨a',vs,e,s,rs⟩:=Lst.sq st ok.1 (r.wd w);obtain⟨b',us,e',s',rs'⟩:=Lst.sq st ok.2 (r2.wd w);cases e;cases e';have hi':i<min ds.length es.length:=by rw[<- zdf ds es];exact hi
  exact⟨vs,us,vs[i]'(by rw[<- rs.length];lia),us[i]'(by rw[<- rs'.length];lia),s,s',qc _,qc _⟩
 yld:=fun ad1 H1 S i d z H' w st ok hd ⟨p,ey,hp,he⟩=>by
  obtain⟨a',vs,e,s,rs⟩:=Lst.sq st ok.1 (r.wd w);obtain⟨b',us,e',s',rs'⟩:=Lst.sq st ok.2 (r2.wd w);cases e;cases e';obtain⟨u1,u2,h1,h2,rfl⟩:=zfB hd;obtain⟨v,ev,rv⟩:=rs.get h1;obtain⟨u,eu,ru⟩:=rs'.get h2;rw[he vs us v u s s' ev eu,ey];exact⟨Wd.laid hp,st.laid hp,.tup zY (.cons (rv.wd (Wd.laid hp)) (.cons (ru.wd (Wd.laid hp)) .nil))⟩
 stop:=fun ad1 H1 S w st ok=>by
  obtain⟨a',vs,e,s,rs⟩:=Lst.sq st ok.1 (r.wd w);obtain⟨b',us,e',s',rs'⟩:=Lst.sq st ok.2 (r2.wd w);cases e;cases e';refine⟨vs,us,s,s',?_⟩;show vs.length<=(za8 ds es).length\/us.length<=(za8 ds es).length;rw[zdf,rs.length,rs'.length];lia
def zse {K:PySem.W.Frag}{ad:List Addr}{H:Hp}{a b:Addr}{vs us:List V}{ds es:List D}(h:H a=some (.tup vs))(r:zy K ad H ds vs)(h2:H b=some (.tup us))(r2:zy K ad H es us):zfb K ad H ⟨za8 ds es,fun _=>True⟩ (znm K false false a b) where
 go:=fun ad1 H1 S i w st _ hi=>by
  have hi':i<min ds.length es.length:=by rw[<- zdf ds es];exact hi
  exact⟨vs,us,vs[i]'(by rw[<- r.length];lia),us[i]'(by rw[<- r2.length];lia),SqT.of (w.tup _ _ h),SqT.of (w.tup _ _ h2),qc _,qc _⟩
 yld:=fun ad1 H1 S i d z H' w st _ hd ⟨p,ey,hp,he⟩=>by
  obtain⟨u1,u2,h1,h2',rfl⟩:=zfB hd;obtain⟨v,ev,rv⟩:=r.get h1;obtain⟨u,eu,ru⟩:=r2.get h2';rw[he vs us v u (SqT.of (w.tup _ _ h)) (SqT.of (w.tup _ _ h2)) ev eu,ey];exact⟨Wd.laid hp,st.laid hp,.tup zY (.cons ((rv.wd w).wd (Wd.laid hp)) (.cons ((ru.wd w).wd (Wd.laid hp)) .nil))⟩
 stop:=fun ad1 H1 S w st _=>by
  refine⟨vs,us,SqT.of (w.tup _ _ h),SqT.of (w.tup _ _ h2),?_⟩;show vs.length<=(za8 ds es).length\/us.length<=(za8 ds es).length;rw[zdf,r.length,r2.length];lia
def zkZ {es:List Expr}{kk:Nat}{tpos:Pos}{a b:Expr}{t:DA}{p pos:Pos}(hg:Gl X "zip")(hm:X.mg "zip"=none)(ha:PAD X [a,b] t)(hs:starEach [a,b] X.env=[(false,eval a X.env),(false,eval b X.env)]:=by exact zls rfl rfl)(hs2:starEach [b] X.env=[(false,eval b X.env)]:=by exact zcf rfl) :
  PID X (.Tuple es kk tpos) (.Call (.Name "zip" p) [a,b] [] pos) (Dp.zlm t):=by with_unfolding_all exact(zgB (ztE hg hm ha hs hs2) fun U H R hh=>el8 hh fun ad Z S R0 st rh q k =>
 ⟨ad,Z,S,_,st,rh,q,fun ds S1 vs H1 ad1 q0 w1 st1 r1=>by
  rcases q0 with⟨x,y,xs,ys,ed,hx,hy,q1⟩|⟨xs,ys,ed,q1⟩
  ·subst ed;obtain⟨v,u,rfl,rv,ru⟩:=zhJ r1;obtain⟨b1,ws,rfl,s,rs⟩:=hx.sq st1 rv;obtain⟨b2,ws2,rfl,s2,rs2⟩:=hy.sq st1 ru;exact⟨true,b1,b2,rfl,⟨ws,s⟩,⟨ws2,s2⟩,k _ S1 _ H1 ad1 q1 w1 st1 (zuX rv ru)⟩
  ·subst ed;obtain⟨v,u,rfl,rv,ru⟩:=zhJ r1;cases rv with
   |tup h r =>
    cases ru with
    |tup h2 r2=>exact⟨false,_,_,rfl,⟨_,SqT.of h⟩,⟨_,SqT.of h2⟩,k _ S1 _ H1 ad1 q1 w1 st1 (zse h r h2 r2)⟩⟩)
end
section
variable {X:Cx}{a b:Expr}{ta tb:DE}{pos:Pos}
theorem zln (x:D)(hx:fl 20 x=true):∀ ys:List D,ys.all (fl 20)=true->((zay ys).any fun z=>PyData.eqv z (pyD x))=ys.any fun z=>eqv z x
 |[],_=>rfl
 |y::ys,h=>by
  rw[List.all_cons,qA]at h;show(PyData.eqv (pyD y) (pyD x)||(zay ys).any fun z=>PyData.eqv z (pyD x))=_;rw[zkt 20 y x h.1 hx,zln x hx ys h.2];rfl
def zuy (X:Cx)(g:Bool->Bool):R2:=fun x y H Q=>∃ ad S dx dy b,zE X.K ad H S/\Rel X.K ad H dx x/\Rel X.K ad H dy y/\InD S dx dy b/\Q (.bl (g b)) H
def zjx {pins:List (Addr×Obj)}{U:L2.St}{H:Hp}{s:Shared}{ad:List Addr}{S:Sto}{dx dy:D}{x y:V}{v u:Value}{b:Bool}(I:Inv X pins U H s)(st:zE X.K ad H S)(rx:Rel X.K ad H dx x)(ry:Rel X.K ad H dy y)(qx:RelV x v)(qy:RelV y u)(h:InD S dx dy b) :
  ∃ pd ps as bs,Reads s.heap v pd as/\(Reads s.heap u (.list ps) bs\/Reads s.heap u (.tuple ps) bs)/\pd.canLay0=true/\PyData.canLayAll0 ps=true/\min (PyData.depthAll ps) pd.depth<=60/\(ps.any fun z=>PyData.eqv z pd)=b:=by
 obtain⟨ys,hy,fx,fy,rfl⟩:=h;obtain⟨as,ra⟩:=zch I 20 dx x v fx rx qx;obtain⟨c1,d1⟩:=ze9 20 dx fx;obtain⟨c2,d2⟩:=zdy 20 ys fy;rcases hy with rfl|hy
 ·obtain⟨bs,rb⟩:=zch I 21 (.tup ys) y u fy ry qy;exact⟨pyD dx,zay ys,as,bs,ra,.inr rb,c1,c2,by lia,zln dx fx ys fy⟩
 ·obtain⟨a2,vs2,rfl,s2,r2⟩:=hy.sq st ry;cases qy;obtain⟨its2,rv2,ht2,hz2⟩:=I.list s2;obtain⟨o2,ho2,hc2,n2,hd2⟩:=ht2.isList;obtain⟨bs,rb⟩:=zep I 20 (zch I 20) _ _ _ fy r2 rv2;exact⟨pyD dx,zay ys,as,_,ra,.inl (.list ho2 hc2 hd2 (by simpa using rb)),c1,c2,by lia,zln dx fx ys fy⟩
def zwE {k:Nat}(hr:zaf k X.A):OC X .In oIn:=⟨_,(OpR.or (r:=zuy X id) (fun pins s U H x y v u Q I qx qy ⟨ad,S,dx,dy,b,st,rx,ry,h,q⟩=>by
  obtain⟨pd,ps,as,bs,ra,rb,c1,c2,hd,e⟩:=zjx I st rx ry qx qy h;have hu:=hr.units;rcases rb with rb|rb
  ·exact PySem.SeqAt.in_list_reads rb ra c2 c1 (by lia) ⟨.bl _,H,I,by rw[e];rfl,q⟩
  ·exact PySem.SeqAt.in_tuple_reads rb ra c2 c1 (by lia) ⟨.bl _,H,I,by rw[e];rfl,q⟩) zoM),
 fun ad H S x y v u Q0 Q st rx ry h k=>by
  rcases h with⟨b,h,q⟩|⟨c,z,rfl,rfl,q⟩
  ·exact .inl ⟨ad,S,x,y,b,st,rx,ry,h,k _ S _ H ad q Wd.refl st (.bl _)⟩
  ·cases rx;cases ry;exact .inr ⟨_,z,rfl,rfl,by rw[PySem.StrLaws.found_one];exact k _ S _ H ad q Wd.refl st (.bl _)⟩⟩
def zri {k:Nat}(hr:zaf k X.A):OC X .NotIn zkA:=⟨_,(OpR.or (r:=zuy X (!·)) (fun pins s U H x y v u Q I qx qy ⟨ad,S,dx,dy,b,st,rx,ry,h,q⟩=>by
  obtain⟨pd,ps,as,bs,ra,rb,c1,c2,hd,e⟩:=zjx I st rx ry qx qy h;have hu:=hr.units;rcases rb with rb|rb
  ·exact PySem.SeqAt.notIn_list_reads rb ra c2 c1 (by lia) ⟨.bl _,H,I,by rw[e];rfl,q⟩
  ·exact PySem.SeqAt.notIn_tuple_reads rb ra c2 c1 (by lia) ⟨.bl _,H,I,by rw[e];rfl,q⟩) zkh),
 fun ad H S x y v u Q0 Q st rx ry h k=>by
  rcases h with⟨b,h,q⟩|⟨c,z,rfl,rfl,q⟩
  ·exact .inl ⟨ad,S,x,y,b,st,rx,ry,h,k _ S _ H ad q Wd.refl st (.bl _)⟩
  ·cases rx;cases ry;exact .inr ⟨_,z,rfl,rfl,by rw[PySem.StrLaws.found_one];exact k _ S _ H ad q Wd.refl st (.bl _)⟩⟩
def zta {op:CmpOp}{r':DR2}(o:OC X op r')(ha:PD X a ta)(hb:PD X b tb)(hm:behindInMarks op b=false:=by with_unfolding_all rfl):PD X (.Compare a [op] [b] pos) (dOp r' ta tb):=by
 with_unfolding_all
  obtain⟨r,ho,od⟩:=o;exact zaG (zmn ho ha hb hm) fun _ _ _=>zgC od
def zsz {op:CmpOp}{r':DR2}(o:OC X op r')(ha:PD X a ta)(hb:PD X b tb)(hm:behindInMarks op b=false:=by with_unfolding_all rfl):PTD X (.Compare a [op] [b] pos) (dT (dOp r' ta tb)):=by
 with_unfolding_all
  obtain⟨r,ho,od⟩:=o;refine zdx (zmk ho ha hb hm) fun U H Q hh=>el8 hh fun ad Z S Q0 st rh q k=>?_
  refine zgC (Q:=fun x H'=>∃ k,x=.bl k/\Q k H') od ⟨ad,Z,S,_,st,rh,q,fun d S' v H' ad' ⟨b,e,q'⟩ w st' r=>?_⟩;subst e;cases r;exact⟨b,rfl,k b S' H' ad' q' w st'⟩
end
section
variable {X:Cx}
theorem ints_of:∀ {ns:List Int} {its:List Value},Vals (ns.map V.int) its->IntsAre its ns
 |[],_,r=>by cases r;exact .nil
 |n::ns,_,r=>by
  cases r with
  |cons h t =>
   obtain⟨k,rfl⟩:=h;exact .cons _ _ (ints_of t)
theorem zl5:∀ {ns:List Int} {its:List Value},IntsAre its ns->Vals (ns.map V.int) its
 |[],_,r=>by cases r;exact .nil
 |n::ns,_,r=>by
  cases r with
  |cons _ _ t=>exact .cons ⟨_,rfl⟩ (zl5 t)
def zvl (K:PySem.W.Frag):List V->Hp->VK->Prop:=fun xs H Q=>∃ (p:Addr) (ns:List Int),xs=[.ref p]/\SqL K H p (ns.map V.int)/\ns.length<64/\∀ (l:Addr) (ss:List Int),H l=none->ss.Perm ns->ss.Pairwise (fun a b=>a<=b)->Q (.ref l) (upd H l (.lst (ss.map V.int)))
def zkr {K:PySem.W.Frag}(hK:X.K=K):zaE X (.builtin "sorted") (zvl K):=fun pins s U H xs us Q I r h=>by
 subst hK;obtain⟨p,ns,rfl,hS,h64,q⟩:=h;obtain⟨u,rfl,ru⟩:=vals1 r;cases ru;obtain⟨its,rv,pl,hz⟩:=I.list hS;have hI:=ints_of rv;have hlen:=rv.length;rw[qb]at hlen hz;refine sorted_ints pl.isList hI (by lia) fun out ss h1 h2 h3=>?_
 obtain⟨e,he⟩:=sortedAll_at s.heap its out;have hv:=zl5 h1;refine⟨.ref (s.heap.objs.size+1),_,I.laid (t':=s.toks) (a:=s.heap.objs.size+1) (o:=.lst (ss.map V.int)) (fun b o q=>sortedAll_old q) (Nat.le_succ _) ⟨?_,out.toList,e,hv,?_⟩,rfl,q _ ss (I.hok.fresh (Nat.le_succ _)) h2 h3⟩
 ·rw[qb,h2.length_eq];exact hz
 ·rw[he]
def zqK:BC X (.builtin "sorted") zoU:=⟨_,zkr rfl,fun ad H S ds vs Q0 Q st r ⟨x,ns,e,hx,h64,q⟩ k=>by
 subst e;obtain⟨v,rfl,rv⟩:=zb4 r;obtain⟨a,ws,rfl,hs,rs⟩:=hx.sq st rv;cases rs.ints;exact⟨a,ns,rfl,hs,h64,fun l ss hl hp hw=>ze5 st k (zy.mk_ints ss) (q ss hp hw) l hl⟩⟩
def zsb:BC X (.builtin "sorted") znA:=by
 obtain⟨r1,c1,d1⟩:=zqE (X:=X);obtain⟨r2,c2,d2⟩:=zqK (X:=X);refine⟨fun xs H Q=>r1 xs H Q\/r2 xs H Q,fun pins s U H xs us Q I r h=>?_,fun ad H S ds vs Q0 Q st r h k=>?_⟩
 ·rcases h with h|h
  ·exact c1 pins s U H xs us Q I r h
  ·exact c2 pins s U H xs us Q I r h
 ·rcases h with h|h
  ·exact .inl (d1 ad H S ds vs Q0 Q st r h k)
  ·exact .inr (d2 ad H S ds vs Q0 Q st r h k)
end
section
variable {X:Cx}{e:Expr}{pos p2 p3:Pos}{lo:Option Expr}
end
theorem zkP {K:PySem.W.Frag}{ad:List Addr}{H:Hp}:∀ {zs:List Str} {vs:List V},zy K ad H (zs.map D.str) vs->vs=zs.map V.str
 |[],_,.nil=>rfl
 |z::zs,_,.cons r t=>by cases r;rw[zkP t];rfl
def zrV {X:Cx}{a:Expr}{t:DA}{p1 p2 pos1 pos2:Pos}(hgl:Gl X "len")(hml:X.mg "len"=none)(hgr:Gl X "set")(hmr:X.mg "set"=none)(ha:PAD X [a] t)(hc:X.calm=true:=by rfl)
  (hs:starEach [a] X.env=[(false,eval a X.env)]:=by exact zcf rfl)
  (hs3:starEach [.Call (.Name "set" p2) [a] [] pos2] X.env=[(false,eval (.Call (.Name "set" p2) [a] [] pos2) X.env)]:=by rfl) :
  PD X (.Call (.Name "len" p1) [.Call (.Name "set" p2) [a] [] pos2] [] pos1) (dB zmJ t):=by with_unfolding_all exact(zaG (ztk hc hgl hml hgr hmr ha hs hs3) fun U H Q hh=>el8 hh fun ad Z S Q0 st rh q k =>
  ⟨ad,Z,S,_,st,rh,q,fun ds S1 vs H1 ad1 ⟨x,zs,ed,hx,hl,q1⟩ w1 st1 r1=>by
   subst ed;obtain⟨v,rfl,rv⟩:=zb4 r1;obtain⟨a1,ws,rfl,hs,rs⟩:=hx.sq st1 rv;cases zkP rs;exact⟨a1,zs,rfl,hs,hl,k _ S1 _ H1 ad1 q1 w1 st1 (.int _)⟩⟩)
section
variable {X:Cx}{e:Expr}{t:DA}{p pos kp cp:Pos}{j:Nat}
end
section
variable {X:Cx}{e o value:Expr}{te to tv:DE}{f c:Str}{pos pos':Pos}
def zaj (he:PD X e te)(hb:attributeBase e f X.env (eval e X.env)=eval e X.env):PD X (.Attribute e f pos) (zaQ f te):=by with_unfolding_all exact(zaG (zum he hb) fun U H Q hh=>el8 hh fun ad Z S Q0 st rh q k =>
  ⟨ad,Z,S,_,st,rh,q,fun x S1 v H1 ad1 ⟨n,c,fs,d,ex,hn,hl,q1⟩ w1 st1 r1=>by
   subst ex;cases r1 with
   |ref en =>
    obtain⟨C,dx,vs,h1,hc,hns,rf,hna⟩:=st1.cell n _ _ en hn;obtain⟨v,hv,rv⟩:=rf.look hl;obtain⟨q2,hq2,e2⟩:=zk4 hl;exact⟨_,C,dx,vs,v,rfl,h1,hc,e2▸hna q2 hq2,hv,k d S1 v H1 ad1 q1 w1 st1 rv⟩⟩)
def zcM (hna:∀ C,PySem.W.nsIn X.K mainGlobals c=some (some (.ref C))->zap X.K C f)(ho:PD X o to)(hv:PD X value tv)(hs:swapsWith value (some (.Attribute o f pos')) pos.line X.env=pure false:=by rfl) :
  PSD X (.Assign [.Attribute o f pos'] value pos) (zdF c f to tv):=by with_unfolding_all exact(zbn (zt5 ho hv hs) fun E U H hh=>el8 hh fun ad Z S E0 so rh q k =>
 ⟨ad,Z,S,_,so,rh,q,fun y S1 vy H1 ad1 q1 w1 st1 r1=>⟨ad1,Z,S1,_,st1,rh.wd w1,q1,fun x S2 vx H2 ad2 ⟨n,fs,ex,hn,hl,q2⟩ w2 st2 r2=>by
  subst ex;cases r2 with
  |ref en =>
   obtain⟨C,dx,vs,h1,hc,hns,rf,hna'⟩:=st2.cell n _ _ en hn;have w3:Wd ad2 H2 ad2 (upd H2 _ (.ins C dx (zbK f vy vs))):=Wd.putI en h1;exact⟨_,C,dx,vs,rfl,h1,hc,hna C hns,by rw[<- rf.length];lia,k.nx Z _ U _ ad2 q2 ((w1.trans w2).trans w3) (st2.putI en h1 hc hns rf hna' (hna C hns) (r1.wd w2)) (((rh.wd w1).wd w2).wd w3)⟩⟩⟩)
omit B in
def zl9 {K:PySem.W.Frag}{C:Addr}{c:Str}{init:DSp}(hc:Cls K C)(hn:PySem.W.nsIn K mainGlobals c=some (some (.ref C))):∀ vs H Q,upF K (znn c init) vs H Q E0->∀ x dx,H x=none->H dx=none->dx≠x ->
  upF K init (.ref x::vs) (upd (upd H dx (.own x)) x (.ins C dx [])) (fun v H2=>v=.non/\Q (.ref x) H2) E0:=by
 rintro vs H Q ⟨ad,S,ds,Q0,st,r,hf,k⟩ x dx hx hdx hne
 letI:Bs:=⟨ad,H⟩
 obtain⟨w,st'⟩:=st.newI (c:=c) hx hdx hne hc hn;have rx:Rel K (ad++[x]) (upd (upd H dx (.own x)) x (.ins C dx [])) (.ref S.length) (.ref x):=.ref (by rw[<- st.len,qj (qe _),Nat.sub_self];rfl);have hf':init (.ref S.length::ds) (S++[.ins c []]) (fun d S2=>d=.non/\Q0 (.ref S.length) S2):=hf;refine⟨ad++[x],S++[.ins c []],.ref S.length::ds,_,st'.base,.cons rx (r.wd w),hf',fun d S' v H' ad' q w' st2 rv=>?_⟩;obtain⟨rfl,q⟩:=q;cases rv;exact⟨rfl,k _ S' _ H' ad' q (w.trans w') (st'.back st2) (rx.wd w')⟩
def zle {k j:Nat}{x:Str}{e:Expr}{es:List Expr}{t:DA}{p:Pos}{f:DSp}(G:ziI X.prog X.w X.K X.mg X.base k x (upF X.K f))(hr:zaf j X.A)
  (ha:PAD X (e::es) t) (hk:k+1<=j:=by decide) (hg:Gl X x:=by rfl) (hdb:(x==("__debug__":Str))=false:=by decide) (he:starEach (e::es) X.env=(false,eval e X.env)::starEach es X.env:=by exact za0 rfl) (hpl:(backTo pos (starEach es X.env)).any (·.1)=false:=by exact zcE rfl) :
  PD X (.Call (.Name x p) (e::es) [] pos) (dCall f t):=by with_unfolding_all exact(zaG (zwy G hr hk hg ha hdb he hpl) fun U H Q hh=>el8 hh fun ad Z S Q0 st rh q k =>
 ⟨ad,Z,S,_,st,rh,q,fun ds S1 vs H1 ad1 q1 w1 st1 r1=>by
  show upF X.K f (vs++[]) H1 Q E0;rw[List.append_nil];exact⟨ad1,S1,ds,Q0,st1.base,r1,q1,(k.wd w1).base st1⟩⟩)
end
end Dp
namespace Dp
open PySem PySem.Spec PyProof.Rows L2 My
def Fly (h0 h:Heap)(e:Addr)(cls:Value)(H:Hp):Prop:=h0.get? e=none/\H e=none/\∃ (a0:Value) (oe:Obj) (vs:Array Value) (T:Addr) (oT:Obj) (ts:Array Value),h.get? e=some oe/\(oe.cls=cls/\vs[0]?=some a0)/\oe.data=.fields vs/\vs[1]?=some (.ref T)/\h0.get? T=none/\T≠e/\h.get? T=some oT/\oT.data=.fields ts/\ts[3]?=some .none/\H T=none
def CXd (P:Program)(w:World):CXT:=fun outer H s E e s'=>∃ (a C:Addr) (H':Hp),e=.ref a/\s'.os=s.os/\AllBare s'.gens/\Un (frs outer) [] H H' s.heap s'.heap/\HOk P w H' s'.heap/\Fly s.heap s'.heap a (.ref C) H'/\E (.ref C) none H'
def zbQ (h:Heap)(p:Addr->Bool):Heap:={ h with objs:=h.objs.mapIdx fun i o=>if p i=true then o else { cls:=.none,data:=.freed } }
def zcD (h:Heap)(p:Addr->Bool)(b:Addr):(zbQ h p).get? b=if p b=true then h.get? b else none:=by
  unfold zbQ Heap.get?;dsimp only;rw[Array.getElem?_mapIdx];cases h.objs[b]? with
  |none=>cases p b<;>rfl
  |some o=>cases p b<;>rfl
def zfn (h:Heap)(p:Addr->Bool):(zbQ h p).StaysIn h:=fun b o e=>by
 rw[zcD]at e;split at e
 ·exact e
 ·cases e
theorem zgP {h base base':Heap}:∀ {l:List Env},h.FunFrames base l->(∀ L∈frs l,base'.get? L=none)->h.FunFrames base' l
 |[],_,_=>True.intro
 |env::l,⟨h1,⟨L,o,h2,h3,h4,h5⟩,h6⟩,hb=>⟨h1,⟨L,o,h2,hb L (qai.mpr ⟨env,by simp,h2⟩),h4,h5⟩,zgP h6 fun L' hL=>hb L' (by
   obtain⟨e',he,e2⟩:=qai.mp hL;exact qai.mpr ⟨e',qq _ he,e2⟩)⟩
section
variable {X:Cx}{pins:List (Addr×Obj)}{U:L2.St}{H:Hp}{s:Shared}
def zov (I:Inv X pins U H s)(hex:X.ex=[]){b:Addr}{o:Obj}(e:X.s₀.heap.get? b=some o):∃ o',s.heap.get? b=some o':=I.base.there b o e (by rw[hex];simp)
def zdK (I:Inv X pins U H s)(hex:X.ex=[]){b:Addr}(e:s.heap.get? b=none):X.s₀.heap.get? b=none:=by
 cases q:X.s₀.heap.get? b with
 |none=>rfl
 |some o=>obtain⟨o',h⟩:=zov I hex q;rw[e]at h;cases h
def zhQ (I:Inv X pins U H s){b:Addr}(e:s.heap.get? b=none):H b=none:=by
 cases q:H b with
 |none=>rfl
 |some o =>
  have:=(I.hok b o q).lt;exfalso;cases o with
  |lst xs=>obtain⟨_,_,_,_,h⟩:=I.hok b _ q;rw[e]at h;cases h
  |tup xs=>obtain⟨_,_,_,ob,h,_⟩:=I.hok b _ q;rw[e]at h;cases h
  |dK kvs=>obtain⟨_,_,_,_,ob,_,_,h,_⟩:=I.hok b _ q;rw[e]at h;cases h
  |dT kvs=>obtain⟨_,_,_,_,ob,_,_,h,_⟩:=I.hok b _ q;rw[e]at h;cases h
  |set S n=>obtain⟨ob,_,_,_,h,_⟩:=I.hok b _ q;rw[e]at h;cases h
  |ins C dx fs=>obtain⟨_,_,_,h,_⟩:=I.hok b _ q;rw[e]at h;cases h
  |own y=>obtain⟨_,h⟩:=I.hok b _ q;rw[e]at h;cases h
  |xd fs=>obtain⟨_,⟨_,_,_,h,_⟩,_⟩:=I.hok b _ q;rw[e]at h;cases h
  |rng lo hi=>obtain⟨_,_,_,h⟩:=I.hok b _ q;rw[e]at h;cases h
  |frz ob u=>obtain⟨h,_⟩:=I.hok b _ q;rw[e]at h;cases h
  |tbl ps=>have h:s.heap.get? b=some _:=I.hok b _ q;rw[e]at h;cases h
  |met f y=>have h:s.heap.get? b=some _:=I.hok b _ q;rw[e]at h;cases h
  |ext φ=>obtain⟨_,⟨_,h⟩,_⟩:=I.hok b _ q;rw[e]at h;cases h
def zjh (I:Inv X pins U H s)(hex:X.ex=[])(hst:X.stack=X.env::X.outer)(hfr:X.env.frame=some X.env.locals){e T0:Addr}{h':Heap}(he:X.s₀.heap.get? e=none)(hT:X.s₀.heap.get? T0=none)(He:H e=none)(HT:H T0=none)
  (hk:∀ b o,s.heap.get? b=some o->b≠e->b≠T0->b∉frs X.stack->h'.get? b=some o) (hs:∀ b∈frs X.stack,∀ o,s.heap.get? b=some o->∃ sl,h'.get? b=some { o with slots:=sl }) :
  Un X.fs [] X.H₀ H X.s₀.heap h'/\HOk X.prog X.w H h':=by
 have nfr:∀ {b:Addr} {o:Obj},X.s₀.heap.get? b=some o->b∉X.fs->b∉frs X.stack:=fun {b o} q n m=>by
  rw[hst]at m;obtain⟨e',h1,h2⟩:=qai.mp m;rcases qg.mp h1 with rfl|h1
  ·rw[hfr]at h2;cases h2;exact absurd (qo q) (Nat.not_lt.mpr I.ok.above)
  ·exact n (qai.mpr ⟨e',h1,h2⟩)
 have sub:∀ {b:Addr},b∈X.fs->b∈frs X.stack:=fun {b} m=>by
  obtain⟨e',h1,h2⟩:=qai.mp m;rw[hst];exact qai.mpr ⟨e',qq _ h1,h2⟩
 have nex:∀ b:Addr,b∉X.ex:=fun b=>by rw[hex];simp
 have ne:∀ {b:Addr} {o:Obj},X.s₀.heap.get? b=some o->b≠e/\b≠T0:=fun {b o} q=>⟨fun z=>(by rw[z,he]at q;cases q),fun z=>(by rw[z,hT]at q;cases q)⟩
 have ub:=I.base;refine⟨⟨fun b o q n m _=>?_,fun b o q n m _=>?_,fun b o q n _=>ub.free b o q n (nex b),fun b o q _=>?_,ub.tups,ub.frzs,ub.tbls⟩,fun a o q=>?_⟩
 ·exact hk b o (ub.keep b o q n m (nex b)) (ne q).1 (ne q).2 (nfr q m)
 ·obtain⟨sl,h1⟩:=ub.slot b o q n m (nex b);obtain⟨sl',h2⟩:=hs b (sub m) _ h1;exact⟨sl',h2⟩
 ·obtain⟨o',h1⟩:=ub.there b o q (nex b);by_cases m:b∈frs X.stack
  ·obtain⟨sl,h2⟩:=hs b m o' h1;exact⟨_,h2⟩
  ·exact⟨o',hk b o' h1 (ne q).1 (ne q).2 m⟩
 ·have inn:∀ {b:Addr},H b≠none->b≠e/\b≠T0/\b∉frs X.stack:=fun {b} n=>⟨fun z=>n (by rw[z];exact He),fun z=>n (by rw[z];exact HT),fun z=>n (I.stkFree b z)⟩
  refine(I.hok a o q).stay (fun b u hb r=>?_) (fun _ r=>r) fun _ _ r=>r
  have n:H b≠none:=by
   rcases hb with rfl|hb
   ·rw[q];exact Option.some_ne_none _
   ·rw[hb];exact Option.some_ne_none _
  obtain⟨n1,n2,n3⟩:=inn n;exact hk b u r n1 n2 n3
def znY (I:Inv X pins U H s)(hex:X.ex=[])(hst:X.stack=X.env::X.outer)(hfr:X.env.frame=some X.env.locals){e C:Addr}{E:Value->Shared->Prop}{Q:Unit->Shared->Prop}(F:Fly X.s₀.heap s.heap e (.ref C) H)
  (hQ:∀ s':Shared,s'.os=X.s₀.os->AllBare s'.gens->Un X.fs [] X.H₀ H X.s₀.heap s'.heap->HOk X.prog X.w H s'.heap->Fly X.s₀.heap s'.heap e (.ref C) H->Q () s'):wpAny (model X.prog X.w) X.A (leaving X.env (.ref e)) Q E s:=by
 obtain⟨he,He,a0,oe,vs,T,oT,ts,f1,f2,f3,f4,f5,f6,f7,f8,f9,HT⟩:=F;have ff:s.heap.FunFrames X.base X.stack:=I.stack;obtain⟨p,hp⟩:∃ p:Addr->Bool,∀ b,p b=true↔b≠e/\b≠T/\b∉frs X.stack:=⟨fun b=>decide (b≠e/\b≠T/\b∉frs X.stack),fun b=>decide_eq_true_iff⟩
 have mno:∀ {b:Addr},¬ (b≠e/\b≠T/\b∉frs X.stack)->(zbQ s.heap p).get? b=none:=fun {b} n=>by
  rw[zcD,if_neg (fun z=>n ((hp b).mp z))]
 have myes:∀ {b:Addr} {o:Obj},s.heap.get? b=some o->b≠e->b≠T->b∉frs X.stack->(zbQ s.heap p).get? b=some o:=fun {b o} q n1 n2 n3=>by
  rw[zcD,if_pos ((hp b).mpr ⟨n1,n2,n3⟩)];exact q
 have fb:s.heap.FunFrames (zbQ s.heap p) X.stack:=zgP ff fun L hL=>mno fun z=>z.2.2 hL
 have fl:Heap.FlyingW (zbQ s.heap p) X.stack e (.ref C) a0 s.heap:=⟨zfn _ _,mno fun z=>z.1 rfl,fb,oe,vs,T,oT,ts,f1,f2,f3,f4,mno fun z=>z.2.1 rfl,f6,f7,f8,f9⟩
 have fr:=I.ok.frames;rw[hst]at fr;rw[hst]at fl;refine wpAny_leaves_onW fr hfr fl fun h' ⟨k1,k2,k3,oe',vs',T',oT',ts',g1,g2,g3,g4,g5,g6,g7,g8,g9⟩ us=>?_
 have hs:∀ b∈frs X.stack,∀ o,s.heap.get? b=some o->∃ sl,h'.get? b=some { o with slots:=sl }:=fun b hb o q=>by
  obtain⟨_,o',h1,h2⟩:=ff.mem hb;rw[q]at h1;cases h1;exact us b o q h2
 have hk:∀ b o,s.heap.get? b=some o->b≠e->b≠T->b∉frs X.stack->h'.get? b=some o:=fun b o q n1 n2 n3=>k1 b o (myes q n1 n2 n3)
 obtain⟨u1,u2⟩:=zjh I hex hst hfr he f5 He HT hk hs
 have nT:X.s₀.heap.get? T'=none/\H T'=none:=by
  by_cases z1:T'=T
  ·rw[z1];exact⟨f5,HT⟩
  ·by_cases z2:T'∈frs X.stack
   ·exfalso;obtain⟨_,o',h1,h2⟩:=ff.mem z2;obtain⟨sl,h3⟩:=hs T' z2 o' h1;rw[g7]at h3;cases h3;exact h2 ts' g8
   ·have:s.heap.get? T'=none:=by
     cases q:s.heap.get? T' with
     |none=>rfl
     |some o=>rw[myes q g6 z1 z2]at g5;cases g5
    exact⟨zdK I hex this,zhQ I this⟩
 exact hQ _ I.os I.bare u1 u2 ⟨he,He,a0,oe',vs',T',oT',ts',g1,g2,g3,g4,nT.1,g6,g7,g8,g9,nT.2⟩
def zmH (I:Inv X pins U H s)(hex:X.ex=[])(hst:X.stack=X.env::X.outer)(hfr:X.env.frame=some X.env.locals){e C:Addr}{args:List Value}{h1:Heap}{E:Value->Shared->Prop}{Q:Unit->Shared->Prop}(hx:s.heap.MadeExcOf h1 e (.ref C) args)
  (hQ:∀ s':Shared,s'.os=X.s₀.os->AllBare s'.gens->Un X.fs [] X.H₀ H X.s₀.heap s'.heap->HOk X.prog X.w H s'.heap->Fly X.s₀.heap s'.heap e (.ref C) H->Q () s'):wpAny (model X.prog X.w) X.A (leaving X.env (.ref e)) Q E { s with heap:=h1 }:=by
 have ff:s.heap.FunFrames X.base X.stack:=I.stack;obtain⟨p,hp⟩:∃ p:Addr->Bool,∀ b,p b=true↔b∉frs X.stack:=⟨fun b=>decide (b∉frs X.stack),fun b=>decide_eq_true_iff⟩
 have mno:∀ {b:Addr},b∈frs X.stack->(zbQ s.heap p).get? b=none:=fun {b} n=>by
  rw[zcD,if_neg (fun z=>(hp b).mp z n)]
 have myes:∀ {b:Addr} {o:Obj},s.heap.get? b=some o->b∉frs X.stack->(zbQ s.heap p).get? b=some o:=fun {b o} q n3=>by
  rw[zcD,if_pos ((hp b).mpr n3)];exact q
 have fb:s.heap.FunFrames (zbQ s.heap p) X.stack:=zgP ff fun L hL=>mno hL
 have fr:=I.ok.frames;rw[hst]at fr;rw[hst]at fb;refine wpAny_leaves_madeW (base:=zbQ s.heap p) (h:=s.heap) fr hfr (zfn _ _) fb hx fun h' t ⟨k1,k2,k3,oe',vs',T',oT',ts',g1,g2,g3,g4,g5,g6,g7,g8,g9⟩ _ _ us=>?_
 have us':s.heap.UpToSlots h':=fun b o q n=>us b o (hx.keeps b o q) n
 have hs:∀ b∈frs X.stack,∀ o,s.heap.get? b=some o->∃ sl,h'.get? b=some { o with slots:=sl }:=fun b hb o q=>by
  obtain⟨_,o',h1,h2⟩:=ff.mem hb;rw[q]at h1;cases h1;exact us' b o q h2
 have hk:∀ b o,s.heap.get? b=some o->b≠e->b≠e->b∉frs X.stack->h'.get? b=some o:=fun b o q _ _ n3=>k1 b o (myes q n3)
 have he:=zdK I hex hx.new;have He:=zhQ I hx.new;obtain⟨u1,u2⟩:=zjh I hex hst hfr he he He He hk hs
 have nT:X.s₀.heap.get? T'=none/\H T'=none:=by
  by_cases z2:T'∈frs X.stack
  ·exfalso;obtain⟨_,o',h1,h2⟩:=ff.mem z2;obtain⟨sl,h3⟩:=hs T' z2 o' h1;rw[g7]at h3;cases h3;exact h2 ts' g8
  ·have:s.heap.get? T'=none:=by
    cases q:s.heap.get? T' with
    |none=>rfl
    |some o=>rw[myes q z2]at g5;cases g5
   exact⟨zdK I hex this,zhQ I this⟩
 exact hQ _ I.os I.bare u1 u2 ⟨he,He,_,oe',vs',T',oT',ts',g1,g2,g3,g4,nT.1,g6,g7,g8,g9,nT.2⟩
end
def zby (K:PySem.W.Frag)(f:zcv):Sp:=fun vs H Q E=>∃ ad S ds Q0 X0,@zE ⟨ad,H⟩ K ad H S/\zy K ad H ds vs/\f ds S Q0 X0/\@KK ⟨ad,H⟩ K ad H Q0 Q /\
 ∀ (c:Str) (C:Addr) (S':Sto) (ad':List Addr) (H':Hp),X0 c S'->@zE ⟨ad,H⟩ K ad' H' S'->PySem.W.nsIn K mainGlobals c=some (some (.ref C))->E (.ref C) none H'
structure zei (P:Program)(w:World)(K:PySem.W.Frag)(mg:Str->Option Value)(base:Heap)(k:Nat)(x:Str)(ps:List Str)(sp:Sp):Prop where
 ex:∃ f fd,zP P w K mg base (CXd P w) k f fd ps sp/\Binds K fd ps []/\PySem.W.keepIn K (.ref f)=true/\mg x=some (.ref f)
def XOk [B:Bs](X:Cx)(ex:XR):Prop:=∀ (pins:List (Addr×Obj)) (U:L2.St) (H:Hp) (s s':Shared) (ad ad':List Addr) (Z:Rho) (S S':Sto) (c:Str) (C a:Addr) (H':Hp),Inv X pins U H s->zE X.K ad H S->zan X.K ad H Z U->ex Z c S'->zE X.K ad' H' S'->Wd ad H ad' H' ->
 PySem.W.nsIn X.K mainGlobals c=some (some (.ref C))->s'.os=s.os->AllBare s'.gens->Un (frs X.stack) [] H H' s.heap s'.heap->HOk X.prog X.w H' s'.heap->Fly s.heap s'.heap a (.ref C) H'->X.xe (.ref a) s'
def XMk [B:Bs](X:Cx)(ex:XR):Prop:=∀ (pins:List (Addr×Obj)) (U:L2.St) (H:Hp) (s:Shared) (ad:List Addr) (Z:Rho) (S:Sto) (c:Str) (C e:Addr) (args:List Value) (h1:Heap),Inv X pins U H s->zE X.K ad H S->zan X.K ad H Z U->ex Z c S ->
 PySem.W.nsIn X.K mainGlobals c=some (some (.ref C))->s.heap.MadeExcOf h1 e (.ref C) args->X.xe (.ref e) { s with heap:=h1 }
section
variable [B:Bs]{X:Cx}
def zbe {k j:Nat}{x:Str}{ps:List Str}{f:zcv}{ex:XR}{p pos:Pos}{e:Expr}{es:List Expr}{t:DA}(G:zei X.prog X.w X.K X.mg X.base k x ps (zby X.K f))(hX:XOk X ex)(hr:zaf j X.A)
  (ha:PAD X (e::es) t) (hk:k<=j:=by decide) (hg:Gl X x:=by rfl) (hdb:(x==("__debug__":Str))=false:=by decide) (he:starEach (e::es) X.env=(false,eval e X.env)::starEach es X.env:=by exact za0 rfl) (hpl:(backTo pos (starEach es X.env)).any (·.1)=false:=by exact zcE rfl) :
  PD X (.Call (.Name x p) (e::es) [] pos) (zbE f ex t):=by
 with_unfolding_all
  intro pins s U H Q I h;obtain⟨ad,Z,S,Q0,st,rh,q,kk⟩:=h;obtain⟨fa,fd,F,b,kp,m⟩:=G.ex;have F:=F.mono hk;refine wpAny_Call_Name_kw (zdm I hg m ?_ hdb);have hA:=ha pos pins s U H (fun vs H1=>∃ ds S1 ad1,f ds S1 Q0 (ex Z)/\Wd ad H ad1 H1/\zE X.K ad1 H1 S1/\zy X.K ad1 H1 ds vs) I ⟨ad,Z,S,_,st,rh,q,fun ds S1 vs H1 ad1 q1 w1 st1 r1=>⟨ds,S1,ad1,q1,w1,st1,r1⟩⟩;refine PySem.W.callWith_K (h₀:=X.base) I.ok.mod.kin kp (thn hA fun us s1 ⟨vs,H1,I1,r,q1⟩=>⟨I1.kIn,?_⟩) he hpl;obtain⟨ds,S1,ad1,q1,w1,st1,r1⟩:=q1
  have hsp:zby X.K f vs H1 Q (fun cls _ H'=>∃ c C S' ad',cls=Value.ref C/\ex Z c S'/\zE X.K ad' H' S'/\Wd ad1 H1 ad' H'/\PySem.W.nsIn X.K mainGlobals c=some (some (.ref C))) :=
   ⟨ad1,S1,ds,Q0,ex Z,st1.base,r1,q1,(kk.wd w1).base st1,fun c C S' ad' H' hx st' hn=>⟨c,C,S',ad',rfl,hx,st1.back st',@zE.wd ⟨ad1,H1⟩ _ _ _ _ st',hn⟩⟩
  have hl:us.length=ps.length:=by rw[<- r.length];exact F.len _ _ _ _ hsp
  refine wpAny_call (codeAny_mono (F.run X.A X.stack s1 H1 ⟨us,[]⟩ us vs Q _ hr I1.env0 (by have:=b s1 us I1.kIn (by rw[List.append_nil];exact hl);rwa[List.append_nil]at this) r hsp) fun res s' hq=>?_);cases res with
  |error e =>
   obtain⟨a,C,H',rfl,os,bare,un,hok,fly,c,C',S',ad',hC,hx,st',wd',hn⟩:=hq;cases hC;exact hX pins U H1 s1 s' ad1 ad' Z S1 S' c C a H' I1 st1 (rh.wd w1) hx st' wd' hn os bare un hok fly
  |ok fl =>
   cases fl with
   |ret u=>exact I1.after hq
   |next=>exact False.elim hq
   |brk=>exact False.elim hq
   |cont=>exact False.elim hq
def zjZ:XOk X xF:=fun _ _ _ _ _ _ _ _ _ _ _ _ _ _ _ _ _ h=>h.elim
structure ExC (K:PySem.W.Frag)(C:Addr):Prop where
 ex:∃ nm q N bs bm hdct sn sub ab col dd k0 k1 k2 k3 k5,K.lookup C=some (excClassObj nm q C N bs bm hdct sn sub ab col dd k0 k1 k2 k3 k5 "ValueError.__new__")/\PySem.W.nsOkIn K N=true/\PySem.W.nsIn K N "__init__"=some none /\
  PySem.W.tailIn K [.type "ValueError",.type "Exception",.type "BaseException",.type "object"] bm=true
def zdI {x:Str}{ex:XR}{np cpos pos:Pos}{e:Expr}{t:DA}(hX:XMk X ex)(hc:X.calm=true)(hC:∀ C,PySem.W.nsIn X.K mainGlobals x=some (some (.ref C))->ExC X.K C)(hx:∃ C,PySem.W.nsIn X.K mainGlobals x=some (some (.ref C))/\X.mg x=some (.ref C))(hg:Gl X x)
  (ha:PAD X [e] t) (ht:∀ Z S Q,(∀ d,Q [d] S)->t Z S Q) (hdb:(x==("__debug__":Str))=false:=by decide) (he:starEach [e] X.env=(false,eval e X.env)::starEach [] X.env:=by rfl) :
  PSD X (.Raise (some (.Call (.Name x np) [e] [] cpos)) none pos) (zet ex x):=by
 with_unfolding_all
  intro pins s U H D I h;obtain⟨ad,Z,S,E0,st,rh,q,k⟩:=h;obtain⟨C,hn,hm⟩:=hx;obtain⟨nm,qn,N,bs,bm,hdct,sn,sub,ab,col,dd,k0,k1,k2,k3,k5,lk,no,ni,tl⟩:=(hC C hn).ex;have kin:=I.kIn;have T:=PySem.W.tail_of_in kin tl;have hv:=ha cpos pins s U H (fun vs H1=>vs.length=1/\∃ ad1,Wd ad H ad1 H1/\zE X.K ad1 H1 S) I ⟨ad,Z,S,fun ds S'=>ds.length=1/\S'=S,st,rh,ht _ _ _ (fun d=>⟨rfl,rfl⟩),fun ds S' vs H' ad' e' w' st' r'=>⟨by rw[<- r'.length];exact e'.1,ad',w',e'.2▸st'⟩⟩;refine wpAny_Raise_call_subT (C:=C) (nm:=nm) (q:=qn) (N:=N) (bs:=bs) (bm:=bm) (hdct:=hdct) (sn:=sn) (sub:=sub) (ab:=ab) (col:=col) (dd:=dd) (k0:=k0) (k1:=k1) (k2:=k2) (k3:=k3) (k5:=k5) PySem.F.excBase_ValueError (T.hasType PySem.F.excBase_ValueError.hasBase) (I.ok.hd hc) (by rw[he];rfl) (PySem.W.nsMap_none_of_in I.ok.mod.kin no ni) (zdm I hg hm ⟨rfl,?_⟩ hdb);rw[he]at hv ⊢;refine Calls.evalArgs_plain (wpAny_mono hv (fun us s1 hq=>?_) fun _ _ y=>y);obtain⟨vs,H1,I1,r,hl,ad1,w1,st1⟩:=hq;have k1':=I1.kIn;have hlen:us.length<=sizeLine:=by rw[<- r.length,hl];decide
  exact⟨rfl,hlen,k1' _ _ lk,(Heap.Ns.of_isNs (PySem.W.isNs_of_in I.ok.mod.kin no)).keeps I1.bk,PySem.W.tail_of_in k1' tl,fun h' e' hx=>hX pins U H1 s1 ad1 Z S x C e' us h' I1 st1 (rh.wd w1) q hn hx⟩
abbrev nxX (X:Cx):Cx:={ X with xe:=fun _ _=>False }
omit B in
def ztU {pins:List (Addr×Obj)}{U:L2.St}{H:Hp}{s:Shared}(I:Inv X pins U H s):Inv (nxX X) pins U H s :=
 ⟨⟨I.ok.mod,I.ok.kind,I.ok.glob,I.ok.blt,I.ok.above,I.ok.inj,I.ok.has,I.ok.cab,I.ok.hd,I.ok.frames,I.ok.stk,I.ok.exf,I.ok.bs,I.ok.bsz,I.ok.noex,I.ok.exfs,I.ok.funs,I.ok.frf⟩,I.os,I.bare,I.base,I.loc,I.cell,I.free,I.freeC,I.pin,I.hok,I.len⟩
omit B in
def zpD {pins:List (Addr×Obj)}{U:L2.St}{H:Hp}{s:Shared}(I:Inv (nxX X) pins U H s):Inv X pins U H s :=
 ⟨⟨I.ok.mod,I.ok.kind,I.ok.glob,I.ok.blt,I.ok.above,I.ok.inj,I.ok.has,I.ok.cab,I.ok.hd,I.ok.frames,I.ok.stk,I.ok.exf,I.ok.bs,I.ok.bsz,I.ok.noex,I.ok.exfs,I.ok.funs,I.ok.frf⟩,I.os,I.bare,I.base,I.loc,I.cell,I.free,I.freeC,I.pin,I.hok,I.len⟩
def zlV {e:Expr}{t:DE}(h:PD (nxX X) e t):PD X e t:=by with_unfolding_all exact(fun pins s U H Q I q =>
 wpAny_mono (h pins s U H Q (ztU I) q) (fun v s1 ⟨x,H1,I1,r⟩=>⟨x,H1,zpD I1,r⟩) fun _ _ z=>z.elim)
omit B in
def zpH {P:Program}{w:World}{K:PySem.W.Frag}{mg:Str->Option Value}{base:Heap}{x qual:Str}{st:Stmt}{f:Addr}{fd:FuncData}{N ps:List Str}{k:Nat}{sp:zcv}{b:XR->DS}(F:Fun K x qual st f fd)(S:zcb N ps (zN st))
  (len:∀ ds So Q ex,sp ds So Q ex->ds.length=ps.length) (body:zbS N.length b sp)
  (term:∀ (cdv:Value) (A:Around) (outer:List Env) (s:Shared) (H:Hp) (E:XK),zaf k (A.deeper (envOfC qual (zN st) s.heap.objs.size f cdv))->∀ [Bs] (ex:XR),XOk (zbW (CXd P w) P w K mg base N qual (zN st) f cdv A outer s H E) ex->XMk (zbW (CXd P w) P w K mg base N qual (zN st) f cdv A outer s H E) ex->zcw (zbW (CXd P w) P w K mg base N qual (zN st) f cdv A outer s H E) (zaD st) (b ex)) :
  zP P w K mg base (CXd P w) (k+1) f fd ps (zby K sp):=by
 with_unfolding_all
  obtain⟨oc,od,kV,doc,pm,an,cdv,ct,osl,rfl,lk,hcd⟩:=F.ex;refine zmO lk hcd S (fun vs H Q E ⟨ad,So,ds,Q0,X0,so,r,hf,kk,kx⟩=>by rw[<- r.length];exact len ds So Q0 X0 hf) fun A outer s H vs Q E hr ⟨ad,So,ds,Q0,X0,so,r,hf,kk,kx⟩=>?_
  letI:Bs:=⟨ad,H⟩
  have end1:∀ (c:Str) (C a:Addr) (S':Sto) (ad':List Addr) (H':Hp) (s':Shared),X0 c S'->zE K ad' H' S'->PySem.W.nsIn K mainGlobals c=some (some (.ref C))->s'.os=s.os->AllBare s'.gens->Un (frs outer) [] H H' s.heap s'.heap->HOk P w H' s'.heap->Fly s.heap s'.heap a (.ref C) H'->CXd P w outer H s E (.ref a) s' :=
   fun c C a S' ad' H' s' hx st' hn o1 o2 o3 o4 o5=>⟨a,C,H',rfl,o1,o2,o3,o4,o5,kx c C S' ad' H' hx st' hn⟩
  refine⟨_,term cdv A outer s H E hr (fun _=>X0) ?_ ?_,ad,zdb N.length ds,So,_,so,zhw N r,body ds So Q0 X0 hf,⟨fun Z S' U H' ad' q w' st' rh=>zeV so kk .non S' .non H' ad' q w' st' .non,zeV so kk,fun _ _ _ _ _ q=>q.elim,fun _ _ _ _ _ q=>q.elim⟩⟩
  ·intro pins U H1 s1 s' ad1 ad' Z S1 S' c C a H' I st1 rh hx st' wd' hn os bare un hok fly;have I':=I.call' (ch:=[]) os un hok bare (fun b z=>absurd z (by simp))
   have f0:Fly s.heap s'.heap a (.ref C) H':=by
    obtain⟨g1,g2,a0,oe,vs,T,oT,ts,h1,h2,h3,h4,h5,h6⟩:=fly;exact⟨zdK I rfl g1,g2,a0,oe,vs,T,oT,ts,h1,h2,h3,h4,zdK I rfl h5,h6⟩
   exact znY I' rfl rfl rfl f0 fun s'' o1 o2 o3 o4 o5=>end1 c C a S' ad' H' s'' hx st' hn o1 o2 o3 o4 o5
  ·intro pins U H1 s1 ad1 Z S1 c C e args h1 I st1 rh hx hn hmade;exact zmH I rfl rfl rfl hmade fun s'' o1 o2 o3 o4 o5=>end1 c C e S1 ad1 H1 s'' hx st1 hn o1 o2 o3 o4 o5
end
abbrev hand (X:Cx)(e:Addr):Cx:={ X with A:=X.A.mark (some (.ref e)),calm:=false,xe:=fun _ _=>False }
section
variable {X:Cx}{pins:List (Addr×Obj)}{U:L2.St}{H H':Hp}{s s':Shared}
def zkd (I:L2.Inv X pins U H s)(e:Addr):L2.Inv (hand X e) pins U H s :=
 ⟨⟨I.ok.mod,I.ok.kind,I.ok.glob,I.ok.blt,I.ok.above,I.ok.inj,I.ok.has,I.ok.cab,(fun z=>nomatch z),I.ok.frames,I.ok.stk,I.ok.exf,I.ok.bs,I.ok.bsz,I.ok.noex,I.ok.exfs,I.ok.funs,I.ok.frf⟩,I.os,I.bare,I.base,I.loc,I.cell,I.free,I.freeC,I.pin,I.hok,I.len⟩
def ziq {e:Addr}(hd:X.calm=true->X.A.handled=none)(I:L2.Inv (hand X e) pins U H s):L2.Inv X pins U H s :=
 ⟨⟨I.ok.mod,I.ok.kind,I.ok.glob,I.ok.blt,I.ok.above,I.ok.inj,I.ok.has,I.ok.cab,hd,I.ok.frames,I.ok.stk,I.ok.exf,I.ok.bs,I.ok.bsz,I.ok.noex,I.ok.exfs,I.ok.funs,I.ok.frf⟩,I.os,I.bare,I.base,I.loc,I.cell,I.free,I.freeC,I.pin,I.hok,I.len⟩
def zl3 (I:L2.Inv X pins U H s)(un:Un (frs X.stack) [] H H' s.heap s'.heap)(hok:HOk X.prog X.w H' s'.heap){e T:Addr}{h2:Heap}{oe:Obj}(he:s.heap.get? e=none)(hT:s.heap.get? T=none)(He:H' e=none)(HT:H' T=none)
  (stkF:∀ b∈frs X.stack,H' b=none)
  (hk:∀ b o,s'.heap.get? b=some o->b≠e->b≠T->b∉frs X.stack->h2.get? b=some o) (hs:∀ b∈frs X.stack,∀ o,s'.heap.get? b=some o->∃ sl,h2.get? b=some { o with slots:=sl }) (hoe:h2.get? e=some oe) :
  Un (frs X.stack) [] H (upd H' e (.frz oe (.ext fun _=>True))) s.heap h2/\HOk X.prog X.w (upd H' e (.frz oe (.ext fun _=>True))) h2:=by
 have ne:∀ {b:Addr} {o:Obj},s.heap.get? b=some o->b≠e/\b≠T:=fun {b o} q=>⟨fun z=>(by rw[z,he]at q;cases q),fun z=>(by rw[z,hT]at q;cases q)⟩
 have ne':∀ {b:Addr} {u:HO},H' b=some u->b≠e:=fun {b u} q z=>by rw[z,He]at q;cases q
 refine⟨⟨fun b o q n m x=>?_,fun b o q n m x=>?_,fun b o q n x=>?_,fun b o q x=>?_,fun b xs q=>?_,fun b o u q=>?_,fun b ps q=>?_⟩,fun a o q=>?_⟩
 ·exact hk b o (un.keep b o q n m x) (ne q).1 (ne q).2 m
 ·obtain⟨sl,h1⟩:=un.slot b o q n m x;obtain⟨sl',h3⟩:=hs b m _ h1;exact⟨sl',h3⟩
 ·rw[zL (ne q).1];exact un.free b o q n x
 ·obtain⟨o',h1⟩:=un.there b o q x;by_cases m:b∈frs X.stack
  ·obtain⟨sl,h3⟩:=hs b m o' h1;exact⟨_,h3⟩
  ·exact⟨o',hk b o' h1 (ne q).1 (ne q).2 m⟩
 ·have:=un.tups b xs q;rw[zL (ne' this)];exact this
 ·have:=un.frzs b o u q;rw[zL (ne' this)];exact this
 ·obtain⟨more,h1⟩:=un.tbls b ps q;exact⟨more,by rw[zL (ne' h1)];exact h1⟩
 ·by_cases ha:a=e
  ·subst ha;rw[zY]at q;cases q;exact⟨hoe,True.intro,⟨oe,hoe⟩,fun _ _ _ _=>True.intro⟩
  ·rw[zL ha]at q;refine(hok a o q).stay (fun b u hb r=>?_) (fun b r=>by rw[zL (ne' r)];exact r) fun b xs r=>by rw[zL (ne' r)];exact r
   have n:H' b≠none:=by
    rcases hb with rfl|hb
    ·rw[q];exact Option.some_ne_none _
    ·rw[hb];exact Option.some_ne_none _
   exact hk b u r (fun z=>n (by rw[z];exact He)) (fun z=>n (by rw[z];exact HT)) (fun z=>n (stkF b z))
def name_goes {M:Model}{A:Around}{E:Value->Shared->Prop}{i:Nat}{x:Str}{pos:Pos}{Q:Unit->Shared->Prop}(I:L2.Inv X pins U H s)(hN:X.N.Nodup)(hi:X.N[i]?=some x)(hx:X.env.scope.names.lookup x=some .local)
    (h:∀ s',L2.Inv X pins (U.set i none) H s'->Q () s'):wpAny M A (do bindName X.env x .none;unbindBehindTheSuite X.env x pos) Q E s:=by
  obtain⟨m,hn,hl⟩:=id I.loc;have lo:∀ {b:Addr} {o:Obj},X.s₀.heap.get? b=some o->b≠X.env.locals:=fun {b o} e=>qC (qr (qo e) I.ok.above)
  refine wpAny_nameGoes_keeps hx hn (by rw[I.ok.kind];rfl) fun h' v hn' hs=>h _ ⟨I.ok,I.os,I.bare,⟨fun b o e n hb hx=>(hs.2 b (lo e)).trans (I.base.keep b o e n hb hx),fun b o e n hb hx=>?_,I.base.free,fun b o e hx=>?_,I.base.tups,I.base.frzs,I.base.tbls⟩,⟨_,hn',fun j y w e1 e2 e3=>?_⟩,fun y c e=>?_,I.free,I.freeC,fun p hp=>?_,fun a o e=>?_,?_⟩
  . obtain⟨sl,e1⟩:=I.base.slot b o e n hb hx;exact⟨sl,(hs.2 b (lo e)).trans e1⟩
  . obtain⟨o',e1⟩:=I.base.there b o e hx;exact⟨o',(hs.2 b (lo e)).trans e1⟩
  . have hj : j ≠ i := fun z => by
      subst z;rw[List.getElem?_set]at e2;split at e2
      . split at e2<;>cases e2
      . exact absurd rfl ‹_›
    rw[qN (Ne.symm hj)]at e2;obtain⟨u',r',q⟩:=hl j y w e1 e2 e3;refine⟨u',r',?_⟩;rcases q with⟨k,e⟩|⟨k,c,e,z⟩
    . refine .inl ⟨k,?_⟩;have:y≠x:=fun e=>hj (zhs hN e1 (e▸hi))
      simp[this,e]
    . exact .inr ⟨k,c,e,z.sameBut hs (I.cne y c e)⟩
  . obtain⟨w,z⟩:=I.cell y c e;exact⟨w,z.sameBut hs (I.cne y c e)⟩
  . obtain⟨e,n,ne,nf,d⟩:=I.pin p hp;exact⟨(hs.2 p.1 ne).trans e,n,ne,nf,d⟩
  . refine(I.hok a o e).stay (fun c w hc q=>(hs.2 c ?_).trans q) (fun _ q=>q) fun _ _ q=>q
    rintro rfl;rcases hc with rfl|hc
    . rw[I.free]at e;cases e
    . rw[I.free]at hc;cases hc
  . rw[qad];exact I.len
variable [B:Bs]
def zan.unset {K:PySem.W.Frag}{ad:List Addr}{H:Hp}{Z:Rho}{U:L2.St}(h:zan K ad H Z U)(i:Nat):zan K ad H (Z.set i none) (U.set i none):=by
  refine⟨by rw[qad,qad];exact h.len,fun j d e=>?_⟩;rw[List.getElem?_set]at e;split at e
  . split at e<;>cases e
  . rename_i hj;obtain⟨v,ev,r⟩:=h.val j d e;exact⟨v,by rw[qN hj];exact ev,r⟩
abbrev zmU (X:Cx)(xe:Value->Shared->Prop)(pn:List (Addr×Obj)):Cx:={ X with xe:=xe,pn:=pn }
omit B in
def zsM (I:L2.Inv X pins U H s)(xe:Value->Shared->Prop):L2.Inv (zmU X xe (X.pn++pins)) [] U H s :=
 ⟨⟨I.ok.mod,I.ok.kind,I.ok.glob,I.ok.blt,I.ok.above,I.ok.inj,I.ok.has,I.ok.cab,I.ok.hd,I.ok.frames,I.ok.stk,I.ok.exf,I.ok.bs,I.ok.bsz,I.ok.noex,I.ok.exfs,I.ok.funs,I.ok.frf⟩,I.os,I.bare,I.base,I.loc,I.cell,I.free,I.freeC,fun p hp=>I.pin p (by rwa[List.append_nil]at hp),I.hok,I.len⟩
omit B in
def zdQ {xe:Value->Shared->Prop}{pins':List (Addr×Obj)}(I:L2.Inv (zmU X xe (X.pn++pins)) pins' U H s):L2.Inv X pins U H s :=
 ⟨⟨I.ok.mod,I.ok.kind,I.ok.glob,I.ok.blt,I.ok.above,I.ok.inj,I.ok.has,I.ok.cab,I.ok.hd,I.ok.frames,I.ok.stk,I.ok.exf,I.ok.bs,I.ok.bsz,I.ok.noex,I.ok.exfs,I.ok.funs,I.ok.frf⟩,I.os,I.bare,I.base,I.loc,I.cell,I.free,I.freeC,fun p hp=>I.pin p (qQ _ hp),I.hok,I.len⟩
theorem zdO.base {K:PySem.W.Frag}{ad:List Addr}{H:Hp}{S:Sto}{E0:zjU}{E:Ends}(st:zE K ad H S)(k:zdO K ad H E0 E):@zdO ⟨ad,H⟩ K ad H E0 E :=
 @zdO.mk ⟨ad,H⟩ _ _ _ _ _ (fun Z S U H' ad' q w st' r=>k.nx Z S U H' ad' q w (st.back st') r) (k.rt.base st) (fun Z S U H' ad' q w st' r=>k.bk Z S U H' ad' q w (st.back st') r) (fun Z S U H' ad' q w st' r=>k.ct Z S U H' ad' q w (st.back st') r)
def zte {i:Nat}{x cls:Str}{ok:List Str}{b:XR->DS}{h:DS}{body:List Stmt}{b0:Stmt}{suite:List Stmt}{np hpos pos:Pos}(hst:X.stack=X.env::X.outer)(hfr:X.env.frame=some X.env.locals)(hN:X.N.Nodup)(hi:X.N[i]?=some x)(hx:X.env.scope.names.lookup x=some .local)(hg:Gl X cls)
  (hcls:∃ Cc,X.mg cls=some (.ref Cc)/\∀ c C,ok.contains c=true->PySem.W.nsIn X.K mainGlobals c=some (some (.ref C))->PySem.W.exmOne X.K (.ref C) (.ref Cc)=some true)
  (hb:∀ [Bs] (xe:Value->Shared->Prop) (pn:List (Addr×Obj)) (ex:XR),XOk (zmU X xe pn) ex->zcw (zmU X xe pn) body (b ex)) (hh:∀ e,zcw (hand X e) (b0::suite) h) (hdb:(cls==("__debug__":Str))=false:=by decide) :
  PSD X (.Try body [.ExceptHandler (some (.Name cls np)) (some x) (b0::suite) hpos] [] [] pos) (zp9 i ok b h):=by
 with_unfolding_all
  intro pins s U H D I hq;obtain⟨ad,Z,S,E0,st,rh,q,k⟩:=hq;obtain⟨Cc,hm,hexm⟩:=hcls;refine wpAny_Try_except ?_
  have hbody:=@hb ⟨ad,H⟩ (fun e s₁=>wpAny (model X.prog X.w) X.A (noteFrame e X.env) (fun _ s₂=>wpAny (model X.prog X.w) X.A (setFlight e none) (fun _ s₃=>wpAny (model X.prog X.w) X.A (handleBy e X.env [.ExceptHandler (some (.Name cls np)) (some x) (b0::suite) hpos]) (SP X pins D) X.xe s₃) X.xe s₂) X.xe s₁) (X.pn++pins)
   (fun ρ' c S'=>ok.contains c=true/\h { nx:=fun ρ2 S2=>E0.nx (ρ2.set i none) S2,rt:=E0.rt,bk:=fun _ _=>False,ct:=fun _ _=>False } (ρ'.set i (some (.exn c))) S') ?hX
  ·refine wpAny_mono (hbody [] s U H D (zsM I _) ⟨ad,Z,S,E0,st.base,rh,q,k.base st⟩) (fun f s₁ hf=>?_) fun _ _ z=>z
   cases f with
   |next=>obtain⟨σ',H',I',q'⟩:=hf;exact wpAny_execs_nil ⟨σ',H',zdQ I',q'⟩
   |brk=>obtain⟨σ',H',I',q'⟩:=hf;exact⟨σ',H',zdQ I',q'⟩
   |cont=>obtain⟨σ',H',I',q'⟩:=hf;exact⟨σ',H',zdQ I',q'⟩
   |ret u=>obtain⟨v,σ',H',I',r,q'⟩:=hf;exact⟨v,σ',H',zdQ I',r,q'⟩
  intro pins' σ1 H1 s1 s' ad1 ad' ρ1 S1 S' c C a H' I1 st1 rh1 hx' st' wd' hn os bare un hok fly;obtain⟨hok',hh'⟩:=hx';obtain⟨he,He,a0,oe,vs,T,oT,ts,f1,f2,f3,f4,f5,f6,f7,f8,f9,HT⟩:=fly;have I0:L2.Inv X pins σ1 H1 s1:=zdQ I1;have nil0:∀ b∈([]:List Addr),(b∈X.ex\/X.s₀.heap.objs.size<=b)/\b≠X.env.locals/\(∀ x c,X.env.cells.lookup x=some c->c≠b)/\∀ p∈X.pn++pins,p.1≠b:=fun b z=>absurd z (by simp)
  have I':=I0.call' (ch:=[]) os un hok bare nil0;have ff:s'.heap.FunFrames X.base X.stack:=I'.stack;obtain⟨p,hp⟩:∃ p:Addr->Bool,∀ b,p b=true↔b≠a/\b≠T/\b∉frs X.stack:=⟨fun b=>decide (b≠a/\b≠T/\b∉frs X.stack),fun b=>decide_eq_true_iff⟩
  have mno:∀ {b:Addr},¬ (b≠a/\b≠T/\b∉frs X.stack)->(zbQ s'.heap p).get? b=none:=fun {b} n=>by
   rw[zcD,if_neg (fun z=>n ((hp b).mp z))]
  have myes:∀ {b:Addr} {o:Obj},s'.heap.get? b=some o->b≠a->b≠T->b∉frs X.stack->(zbQ s'.heap p).get? b=some o:=fun {b o} q n1 n2 n3=>by
   rw[zcD,if_pos ((hp b).mpr ⟨n1,n2,n3⟩)];exact q
  have fb:s'.heap.FunFrames (zbQ s'.heap p) X.stack:=zgP ff fun L hL=>mno fun z=>z.2.2 hL
  have fl:Heap.FlyingW (zbQ s'.heap p) X.stack a (.ref C) a0 s'.heap:=⟨zfn _ _,mno fun z=>z.1 rfl,fb,oe,vs,T,oT,ts,f1,f2,f3,f4,mno fun z=>z.2.1 rfl,f6,f7,f8,f9⟩
  have fr:=I.ok.frames;rw[hst]at fr;rw[hst]at fl;have keep:∀ {h2:Heap},(zbQ s'.heap p).StaysIn h2->∀ b o,s'.heap.get? b=some o->b≠a->b≠T->b∉frs X.stack->h2.get? b=some o:=fun {h2} k1 b o q n1 n2 n3=>k1 b o (myes q n1 n2 n3)
  have slot:∀ {h2:Heap},s'.heap.UpToSlots h2->∀ b∈frs X.stack,∀ o,s'.heap.get? b=some o->∃ sl,h2.get? b=some { o with slots:=sl }:=fun {h2} us b hb o q=>by
   obtain⟨_,o',h1,h2⟩:=ff.mem hb;rw[q]at h1;cases h1;exact us b o q h2
  show wpAny (model X.prog X.w) X.A (noteFrame (.ref a) X.env) _ _ s';refine wpAny_looks_onW fr hfr fl fun h1 hheld us1=>?_
  refine wpAny_landsW hheld fun h2 hfl2 us2=>?_
  obtain⟨k1,k2,k3,k4⟩:=id hfl2;obtain⟨oe2,vs2,T2,oT2,ts2,g1,g2,_⟩:=id k4;obtain⟨u2,hok2⟩:=zl3 I0 un hok he f5 He HT I'.stkFree (keep k1) (slot (us1.trans us2)) g1;have I2:=I0.call' (s':={ s' with heap:=h2 }) (ch:=[]) os u2 hok2 bare nil0;refine wpAny_handleBy_cons (codeAny_handlers_test (zdm (zkd I2 a) hg hm ?_ hdb)) (by intro z;cases z);have LT:PySem.W.Looks (model X.prog X.w) h2 (typeOf (.ref a)) (.ref C):=g2.1▸(PySem.W.Looks.ld g1).andThen .now;refine(PySem.W.exm_one (h:=h2) I2.kIn LT (hexm c C hok' hn)).here ?_;refine codeAny_handlers_suite_as ?_;refine wpAny_setFlight_noneW k1 k3 k4.at fun h3 b1 b2 b3 b4=>?_
  obtain⟨oe3,vs3,T3,oT3,ts3,e1,e2,_⟩:=id b3
  have us3:s'.heap.UpToSlots h3:=fun b o q n=>by
   obtain⟨sl,z⟩:=us1.trans us2 b o q n;exact⟨sl,b4 b _ z n⟩
  obtain⟨u3,hok3⟩:=zl3 I0 un hok he f5 He HT I'.stkFree (keep b1) (slot us3) e1;have I3:=I0.call' (s':={ s' with heap:=h3 }) (ch:=[]) os u3 hok3 bare nil0;refine zft I3 hN hi (.inl hx) (show RelV (.ref a) (.ref a)from rfl) (fun s4 I4=>?_) (.inr hx);have wd0:Wd ad H ad' H':=@zE.wd ⟨ad,H⟩ _ _ _ _ st';have st3:zE X.K ad' (upd H' a (.frz oe3 (.ext fun _=>True))) S':=(st.back st').laid He;have w3:Wd ad' H' ad' (upd H' a (.frz oe3 (.ext fun _=>True))):=Wd.laid He;have rho:zan X.K ad' (upd H' a (.frz oe3 (.ext fun _=>True))) (ρ1.set i (some (.exn c))) (σ1.set i (some (.ref a))):=((rh1.wd wd').wd w3).set (.exn zY e2.1 hn) i;have wAll:=wd0.trans w3;have hs:=hh a pins s4 _ _ { nx:=fun σ2 H2=>D.nx (σ2.set i none) H2,rt:=D.rt,bk:=fun _ _=>False,ct:=fun _ _=>False } (zkd I4 a) ⟨ad',_,S',_,st3,rho,hh',⟨fun ρ2 S2 σ2 H2 ad2 q2 w2 st2 rh2=>k.nx (ρ2.set i none) S2 (σ2.set i none) H2 ad2 q2 (wAll.trans w2) st2 (rh2.unset i),k.rt.wd wAll,fun _ _ _ _ _ z=>z.elim,fun _ _ _ _ _ z=>z.elim⟩⟩;refine wpAny_mono hs (fun f s5 hf=>?_) fun _ _ z=>z.elim
  cases f with
  |next=>obtain⟨σ5,H5,I5,q5⟩:=hf;exact name_goes (ziq I.ok.hd I5) hN hi hx fun s6 I6=>⟨_,H5,I6,q5⟩
  |brk=>obtain⟨_,_,_,z⟩:=hf;exact z.elim
  |cont=>obtain⟨_,_,_,z⟩:=hf;exact z.elim
  |ret u=>obtain⟨v,σ5,H5,I5,r5,q5⟩:=hf;exact name_goes (ziq I.ok.hd I5) hN hi hx fun s6 I6=>⟨v,_,H5,I6,r5,q5⟩
end
structure IsC (K:PySem.W.Frag)(C:Addr):Prop where
 ga:PySem.W.findIn K (.ref C) "__getattribute__"=some (some (.builtin "BaseException.__getattribute__"))
 hk:PySem.W.findIn K (.ref C) "__getattr__"=some none
 cl:PySem.W.findIn K (.ref C) "__class__"=some (some (.builtin "object.__class__"))
 mo:PySem.W.mroIn K C (.type "object")=some true
 mb:PySem.W.mroIn K C (.type "BaseException")=some true
section
open PySem.W PySem.Builtin PySem.Builtin.ObjectAttr PySem.Builtin.Getset_descriptor
variable {prog:Program}{w:World}{A:Around}{E:Value->Shared->Prop}{s:Shared}{K:Frag}{x C:Addr}{o:Obj}
def zqL {M:Model}{h:Heap}(X:K.In h)(I:IsC K C):Looks M h (find (.ref x) (.ref C) "__class__") (.bind (.builtin "getset_descriptor.__get__") (.builtin "object.__class__")):=by
 have L1:=looks_findIn (M:=M) X I.cl;have L2:=looks_specialIn (M:=M) (v:=.builtin "object.__class__") (name:="__get__") (r:=some (.builtin "getset_descriptor.__get__")) X (by rfl);have L3:=looks_takesIn (M:=M) (a:=.builtin "object.__class__") (r:=true) X (by rfl);have L2':Looks M h (getOf (some (.builtin "object.__class__"))) (some (.builtin "getset_descriptor.__get__")):=L2;have L3':Looks M h (dataDescriptor? (some (.builtin "object.__class__")) (some (.builtin "getset_descriptor.__get__"))) (some (.builtin "getset_descriptor.__get__",.builtin "object.__class__")):=L3.andThen .now;exact L1.andThen (L2'.andThen (L3'.andThen (Looks.tag .now)))
def zsS {tp:Value}{R:Result->Shared->Prop}(X:K.In s.heap)(I:IsC K C)(hx:s.heap.get? x=some o)(hc:o.cls=.ref C)(h:R (.ok (.ret (.ref C))) s) :
  codeAny (model prog w) A (.call (.builtin "getset_descriptor.__get__") ⟨[.builtin "object.__class__",.ref x,tp],[]⟩) R s:=by
 obtain⟨hh,g,dr,t,os⟩:=s;have L0:Looks (model prog w) hh (typeOf (.ref x)) (.ref C):=hc▸(Looks.ld hx).andThen .now;have L1:=looks_mroIn (M:=model prog w) X I.mo;refine codeAny_call_builtin KF.slot_gs.plain KF.entry_gs (KF.slot_gs.check _ _ _ _ _ _ _ _ KF.type_class (KF.args_gs _ _ _) ?_);unfold Builtin.«getset_descriptor.__get__» descrGet;rw[dga_obj];refine wpAny_bind (wpAny_pure ?_);unfold descrGetter descrCheckInstance descrNameAndClass isInstance;simp only[KF.owner_class]
 repeat lk
 refine⟨Code.quiet_builtin _ (by decide +kernel),codeAny_builtin KF.entry_class ?_⟩;unfold Builtin.«object.__class__» shownTypeOf
 repeat lk
 exact h
def zoX {M:Model}{nameV:Value}{Q:Unit->Shared->Prop}(X:K.In s.heap)(I:IsC K C)(hx:s.heap.get? x=some o)(hc:o.cls=.ref C)(hq:Q () s):wpAny M A (checkBuiltinCall "BaseException.__getattribute__" ⟨[.ref x,nameV],[]⟩) Q E s:=by
  obtain⟨hh,g,dr,t,os⟩:=s;have L0:Looks M hh (typeOf (.ref x)) (.ref C):=hc▸(Looks.ld hx).andThen .now;have L1:=looks_mroIn (M:=M) X I.mb;have hk:builtinKind "BaseException.__getattribute__"=some .slot:=by decide +kernel
  have hsplit:splitId "BaseException.__getattribute__"=some ("BaseException","__getattribute__"):=by decide +kernel
  have ha:=F.args_bexc_ga (.ref x) nameV;simp only[checkBuiltinCall,hk,hsplit];refine wpAny_bind ((show Looks M hh (isInstance (.ref x) (.type "BaseException")) true from L0.andThen L1).at ?_)
  repeat (first|wp_step)
  exact hq
def zp7 {Q:Option Value->Shared->Prop}(X:K.In s.heap)(I:IsC K C)(hx:s.heap.get? x=some o)(hc:o.cls=.ref C)(h:Q (some (.ref C)) { s with toks:=s.toks+1 }):wpAny (model prog w) A (getAttr? (.ref x) "__class__") Q E s:=by
 obtain⟨hh,g,d,t,os⟩:=s;have L0:Looks (model prog w) hh (typeOf (.ref x)) (.ref C):=hc▸(Looks.ld hx).andThen .now;have L1:=looks_findIn (M:=model prog w) X I.ga;have L2:=looks_findIn (M:=model prog w) X I.hk;have L3:=zqL (M:=model prog w) (x:=x) X I;unfold getAttr? getAttrBy? getAttrBy;refine wpAny_bind (wpAny_mkText (wpAny_bind (wpAny_attempt (wpAny_holding (wpAny_bind (L0.at (wpAny_bind (L1.at ?_))))))));show wpAny _ _ (getAttrByItsOwn _ _ _ _ _ _) _ _ _;unfold getAttrByItsOwn;refine wpAny_bind (L2.at (wpAny_bind (wpAny_attempt (wpAny_holding ?_))));show wpAny _ _ (boundAndCalled _ _ _) _ _ _;unfold boundAndCalled;rw[F.excAttr_ValueError.ga.bind (.ref x)];refine wpAny_bind (wpAny_pure ?_);refine wpAny_call (codeAny_call_builtin F.excAttr_ValueError.ga.plain F.entry_bexc_ga (zoX (s:=⟨hh,g,d,t+1,os⟩) X I hx hc ?_));unfold Builtin.«object.__getattribute__»;refine wpAny_bind (wpAny_pure (wpAny_bind (wpAny_pure (wpAny_bind (L0.at (wpAny_bind (L3.at ?_)))))));show wpAny _ _ (bindTo _ _ _ _) _ _ _;unfold bindTo;refine wpAny_bind (wpAny_holding (wpAny_call (zsS (s:=⟨hh,g,d,t+1,os⟩) X I hx hc ?_)));refine wpAny_pure ?_;exact handed_on rfl (wpAny_pure h)
def zrg (I:IsC K C):KitX K (.ref x) (.ref C) (fun h=>∃ o,h.get? x=some o/\o.cls=.ref C):=by
  obtain⟨cdD,hcD,_⟩:=Option.bind_eq_some_iff.mp I.mo;unfold clsIn at hcD;split at hcD
  . rename_i c' d' cd' sl' ho
    exact
      { ty:=fun M h _ ⟨o,h1,h2⟩=>h2▸(Looks.ld h1).andThen .now
        it:=fun _ _ X _=>by
          intro A' Q' E' s' k q;unfold isType loadHead;exact wpAny_bind (wpAny_loadPart (k _ _ (X _ _ ho)) (wpAny_pure q))
        ne:=fun h tp dd its n sl X htp=>by
          refine Bool.eq_false_iff.mpr fun q=>?_
          have e:C=tp:=Value.ref.inj (beq_iff_eq.mp q);subst e;have z:=(X _ _ ho).symm.trans htp;cases z
        ca:=fun X ⟨o,h1,h2⟩ k=>zp7 X I h1 h2 k }
  . cases hcD
end
section
variable [B:Bs]{X:Cx}
def CV (X:Cx)(c:Str)(np:Pos)(cv:Value):Prop:=∀ (pins:List (Addr×Obj)) (U:L2.St) (H:Hp) (s:Shared) (E:Value->Shared->Prop) (Q:Value->Shared->Prop),Inv X pins U H s->Q cv s->wpAny (model X.prog X.w) X.A (eval (.Name c np) X.env) Q E s
omit B in
def zvN {c:Str}{np:Pos}{C:Addr}(hg:Gl X c)(hm:X.mg c=some (.ref C))(hd:(c==("__debug__":Str))=false:=by decide):CV X c np (.ref C):=fun _ _ _ _ _ _ I q=>zdm I hg hm q hd
omit B in
def zwF {c:Str}{np:Pos}{T:String}(hg:Gl X c)(hm:X.mg c=none)(hv:bootBuiltins c=some (.type T))(hn:c≠"__name__":=by decide)(hd:(c==("__debug__":Str))=false:=by decide):CV X c np (.type T):=fun _ _ _ _ _ _ I q=>zbY I hg hm hv q hn hd
def zn4 {e:Expr}{t:DE}{p np pos:Pos}{c:Str}{cv:Value}{tbl:List (Str×Bool)}(hg:Gl X "isinstance")(hm:X.mg "isinstance"=none)(he:PD X e t)(hc:CV X c np cv)
  (ht:∀ c' b C,tbl.lookup c'=some b->PySem.W.nsIn X.K mainGlobals c'=some (some (.ref C))->IsC X.K C/\PySem.W.kitOne X.K (.ref C) cv=some b)
  (hs:starEach [e,.Name c np] X.env=(false,eval e X.env)::starEach [.Name c np] X.env:=by rfl) (hpl:(backTo pos (starEach [.Name c np] X.env)).any (·.1)=false:=by rfl) :
  PD X (.Call (.Name "isinstance" p) [e,.Name c np] [] pos) (zht tbl t):=by
 with_unfolding_all
  intro pins s U H Q I h;obtain⟨ad,Z,S,Q0,st,rh,q,k⟩:=h;refine wpAny_Call_Name_kw (zbY I hg hm boot_isinstance ?_)
  have hA:wpAny (model X.prog X.w) X.A (spliced (backTo pos (starEach [e,.Name c np] X.env))) (fun us s1=>∃ u,us=[u,cv]/\EP X pins U (fun v H1=>∃ c' b ad1,Rel X.K ad1 H1 (.exn c') v/\tbl.lookup c'=some b/\Q (.bl b) H1) u s1) X.xe s:=by
   rw[hs];show wpAny _ _ (spliced ((false,eval e X.env)::backTo pos (starEach [.Name c np] X.env))) _ _ s;have hv:=he pins s U H (fun v H1=>∃ c' b ad1,Rel X.K ad1 H1 (.exn c') v/\tbl.lookup c'=some b/\Q (.bl b) H1) I ⟨ad,Z,S,_,st,rh,q,fun x S1 v H1 ad1 ⟨c',b,ex,hl,q1⟩ w1 st1 r1=>⟨c',b,ad1,ex▸r1,hl,k _ S1 _ H1 ad1 q1 w1 st1 (.bl b)⟩⟩;refine Calls.spliced_cons (thn hv fun u s1 hu=>?_);show wpAny _ _ (spliced ((false,eval (.Name c np) X.env)::[])) _ _ s1;obtain⟨v,H1,I1,r1,q1⟩:=hu;exact Calls.spliced_cons (hc pins U H1 s1 _ _ I1 (Calls.spliced_nil ⟨u,rfl,v,H1,I1,r1,q1⟩))
  refine PyProof.Rows.callWith_builtin1 (thn hA fun us s1 hu=>?_) hs hpl;obtain⟨u,rfl,v,H1,I1,r1,c',b,ad1,rel,hl,q1⟩:=hu;cases rel with
  |exn ha hcl hn =>
   cases r1;obtain⟨ic,ki⟩:=ht _ _ _ hl hn;refine PySem.W.kia_one (zrg ic) I1.kIn ?_ ki (by intro z;cases z) fun tk=>⟨.bl b,H1,I1.tok _,rfl,q1⟩
   obtain⟨h1,_⟩:=I1.hok _ _ ha;exact⟨_,h1,hcl⟩
def zl2 {e:Expr}{t:DE}{p np pos:Pos}{c:Str}{tbl:List (Str×Bool)}(hg:Gl X "isinstance")(hm:X.mg "isinstance"=none)(he:PD X e t)(hgc:Gl X c)
  (ht:∃ Cc,X.mg c=some (.ref Cc)/\∀ c' b C,tbl.lookup c'=some b->PySem.W.nsIn X.K mainGlobals c'=some (some (.ref C))->IsC X.K C/\PySem.W.kitOne X.K (.ref C) (.ref Cc)=some b) (hd:(c==("__debug__":Str))=false:=by decide)
  (hs:starEach [e,.Name c np] X.env=(false,eval e X.env)::starEach [.Name c np] X.env:=by rfl) (hpl:(backTo pos (starEach [.Name c np] X.env)).any (·.1)=false:=by rfl) :
  PD X (.Call (.Name "isinstance" p) [e,.Name c np] [] pos) (zht tbl t):=by
 with_unfolding_all
  obtain⟨Cc,h1,h2⟩:=ht;exact zn4 hg hm he (zvN hgc h1 hd) h2 hs hpl
def ztt {e:Expr}{t:DE}{p np pos:Pos}{c:Str}{T:String}{tbl:List (Str×Bool)}(hg:Gl X "isinstance")(hm:X.mg "isinstance"=none)(he:PD X e t)(hgc:Gl X c)
  (ht:X.mg c=none/\∀ c' b C,tbl.lookup c'=some b->PySem.W.nsIn X.K mainGlobals c'=some (some (.ref C))->IsC X.K C/\PySem.W.kitOne X.K (.ref C) (.type T)=some b) (hv:bootBuiltins c=some (.type T)) (hn:c≠"__name__":=by decide) (hd:(c==("__debug__":Str))=false:=by decide)
  (hs:starEach [e,.Name c np] X.env=(false,eval e X.env)::starEach [.Name c np] X.env:=by rfl) (hpl:(backTo pos (starEach [.Name c np] X.env)).any (·.1)=false:=by rfl) :
  PD X (.Call (.Name "isinstance" p) [e,.Name c np] [] pos) (zht tbl t):=by with_unfolding_all exact(zn4 hg hm he (zwF hgc ht.1 hv hn hd) ht.2 hs hpl)
end
def zkL (K:PySem.W.Frag)(C:Addr):Bool:=match K.lookup C with
 | some ⟨.type "type",_,.cls cd,sl⟩=>(match cd.mro,sl.toList with
  | .ref C'::bm,[_,_,_,_,some (.builtin n),_]=>C'==C&&!cd.hasDel&&n=="ValueError.__new__"&&PySem.W.nsOkIn K cd.ns&&PySem.W.nsIn K cd.ns "__init__"==some none&&PySem.W.tailIn K [.type "ValueError",.type "Exception",.type "BaseException",.type "object"] bm
  |_,_=>false)
 |_=>false
def ExC.of {K:PySem.W.Frag}{C:Addr}(q:zkL K C=true):ExC K C:=by
 unfold zkL at q;split at q
 ·rename_i dd cd sl ho;split at q
  ·rename_i C' bm k0 k1 k2 k3 n k5 hm hs;simp only[qA,beq_iff_eq,Bool.not_eq_true']at q;obtain⟨⟨⟨⟨⟨rfl,hdel⟩,rfl⟩,h1⟩,h2⟩,h3⟩:=q;obtain⟨nm,bs,mro,ns,qn,hd,sn,sub,ab,col,del⟩:=cd;dsimp only at hm hdel;subst hm hdel
   have hsl:sl=#[k0,k1,k2,k3,some (.builtin "ValueError.__new__"),k5]:=by
    obtain⟨l⟩:=sl;simp only at hs;rw[hs]
   subst hsl;exact⟨nm,qn,ns,bs,bm,hd,sn,sub,ab,col,dd,k0,k1,k2,k3,k5,ho,h1,h2,h3⟩
  ·cases q
 ·cases q
def isIn (K:PySem.W.Frag)(C:Addr):Bool:=PySem.W.findIn K (.ref C) "__getattribute__"==some (some (.builtin "BaseException.__getattribute__"))&&PySem.W.findIn K (.ref C) "__getattr__"==some none&&PySem.W.findIn K (.ref C) "__class__"==some (some (.builtin "object.__class__")) &&
 PySem.W.mroIn K C (.type "object")==some true&&PySem.W.mroIn K C (.type "BaseException")==some true
def IsC.of {K:PySem.W.Frag}{C:Addr}(q:isIn K C=true):IsC K C:=by
 unfold isIn at q;simp only[qA,beq_iff_eq]at q;exact⟨q.1.1.1.1,q.1.1.1.2,q.1.1.2,q.1.2,q.2⟩
def zb1 {a c:Str}{l:List Str}(h:(a::l).contains c=true):c=a\/l.contains c=true:=by
 rw[List.contains_cons,Bool.or_eq_true,beq_iff_eq]at h;exact h
def zah {a c:Str}{b b':Bool}{l:List (Str×Bool)}(h:((a,b')::l).lookup c=some b):(c=a/\b'=b)\/l.lookup c=some b:=by
 rw[ql]at h;split at h
 ·rename_i e;exact .inl ⟨beq_iff_eq.mp e,qM h⟩
 ·exact .inr h
section
variable {X:Cx}[B:Bs]
end
section
variable {K:PySem.W.Frag}{ad:List Addr}{H:Hp}{S:Sto}[B:Bs]
omit B in
theorem RelK.val:∀ {fs:List (Str×D)} {vs:List (Key×V)} (z:Str),RelK K ad H fs vs->(dval fs z=none/\L2.zb2 vs (Sum.inr z:Key)=none)\/∃ d v,dval fs z=some d/\L2.zb2 vs (Sum.inr z:Key)=some v/\Rel K ad H d v
 |_,_,z,.nil=>.inl ⟨rfl,L2.zlr⟩
 |_,_,z,@RelK.cons _ _ _ x d v fs vs r t=>by
  by_cases h:x=z
  ·exact .inr ⟨d,v,by rw[zcQ,if_pos h],by rw[L2.zew (by rw[h])],r⟩
  ·have h':¬ (Sum.inr x:Key)=Sum.inr z:=fun e=>h (Sum.inr.inj e)
   rw[zcQ,if_neg h,L2.zej h'];exact RelK.val z t
omit B in
theorem zaz.val:∀ {fs:List (List Key×D)} {vs:List (List Key×V)} (z:List Key),zaz K ad H fs vs->(dval fs z=none/\L2.zb2 vs z=none)\/∃ d v,dval fs z=some d/\L2.zb2 vs z=some v/\Rel K ad H d v
 |_,_,z,.nil=>.inl ⟨rfl,L2.zlr⟩
 |_,_,z,@zaz.cons _ _ _ x d v fs vs r t=>by
  by_cases h:x=z
  ·exact .inr ⟨d,v,by rw[zcQ,if_pos h],by rw[L2.zew h],r⟩
  ·rw[zcQ,if_neg h,L2.zej h];exact zaz.val z t
omit B in
theorem RelK.snoc {x:Str}{d:D}{v:V}(rd:Rel K ad H d v):∀ {fs:List (Str×D)} {vs:List (Key×V)},RelK K ad H fs vs->RelK K ad H (fs++[(x,d)]) (vs++[(.inr x,v)])
 |_,_,.nil=>.cons rd .nil
 |_,_,.cons r t=>.cons r (RelK.snoc rd t)
omit B in
theorem zaz.snoc {x:List Key}{d:D}{v:V}(rd:Rel K ad H d v):∀ {fs:List (List Key×D)} {vs:List (List Key×V)},zaz K ad H fs vs->zaz K ad H (fs++[(x,d)]) (vs++[(x,v)])
 |_,_,.nil=>.cons rd .nil
 |_,_,.cons r t=>.cons r (zaz.snoc rd t)
omit B in
theorem RelK.repl {z:Str}{d:D}{v:V}(rd:Rel K ad H d v):∀ {fs:List (Str×D)} {vs:List (Key×V)},RelK K ad H fs vs->RelK K ad H (fs.map fun kv=>if kv.1=z then(kv.1,d)else kv) (vs.map fun kv=>if kv.1=(Sum.inr z:Key)then(kv.1,v)else kv)
 |_,_,.nil=>.nil
 |_,_,@RelK.cons _ _ _ x d' v' fs vs r t=>by
  rw[qI,qI];by_cases h:x=z
  ·rw[if_pos h,if_pos (by rw[h])];exact .cons rd (RelK.repl rd t)
  ·rw[if_neg h,if_neg (fun e=>h (Sum.inr.inj e))];exact .cons r (RelK.repl rd t)
omit B in
theorem zaz.repl {z:List Key}{d:D}{v:V}(rd:Rel K ad H d v):∀ {fs:List (List Key×D)} {vs:List (List Key×V)},zaz K ad H fs vs->zaz K ad H (fs.map fun kv=>if kv.1=z then(kv.1,d)else kv) (vs.map fun kv=>if kv.1=z then(kv.1,v)else kv)
 |_,_,.nil=>.nil
 |_,_,@zaz.cons _ _ _ x d' v' fs vs r t=>by
  rw[qI,qI];by_cases h:x=z
  ·rw[if_pos h,if_pos h];exact .cons rd (zaz.repl rd t)
  ·rw[if_neg h,if_neg h];exact .cons r (zaz.repl rd t)
omit B in
def RelK.put {z:Str}{d:D}{v:V}(rd:Rel K ad H d v){fs:List (Str×D)}{vs:List (Key×V)}(r:RelK K ad H fs vs):RelK K ad H (dput fs z d) (putK vs (Sum.inr z:Key) v):=by
 unfold dput putK;rw[zhN,L2.zfo];rcases r.val z with⟨e1,e2⟩|⟨d',v',e1,e2,_⟩
 ·rw[e1,e2];rw[if_neg (by simp),if_neg (by simp)];exact r.snoc rd
 ·rw[e1,e2];rw[if_pos (by simp),if_pos (by simp)];exact r.repl rd
omit B in
def zaz.put {z:List Key}{d:D}{v:V}(rd:Rel K ad H d v){fs:List (List Key×D)}{vs:List (List Key×V)}(r:zaz K ad H fs vs):zaz K ad H (dput fs z d) (putK vs z v):=by
 unfold dput putK;rw[zhN,L2.zfo];rcases r.val z with⟨e1,e2⟩|⟨d',v',e1,e2,_⟩
 ·rw[e1,e2];rw[if_neg (by simp),if_neg (by simp)];exact r.snoc rd
 ·rw[e1,e2];rw[if_pos (by simp),if_pos (by simp)];exact r.repl rd
omit B in
theorem RelK.drop {z:Str}:∀ {fs:List (Str×D)} {vs:List (Key×V)},RelK K ad H fs vs->RelK K ad H (zgJ fs z) (zeD vs (Sum.inr z:Key))
 |_,_,.nil=>.nil
 |_,_,@RelK.cons _ _ _ x d v fs vs r t=>by
  unfold zgJ zeD;by_cases h:x=z
  ·rw[List.filter_cons_of_neg (by simp[h]),List.filter_cons_of_neg (by simp[h])];exact RelK.drop t
  ·rw[List.filter_cons_of_pos (by simp[h]),List.filter_cons_of_pos (by simp[h])];exact .cons r (RelK.drop t)
omit B in
theorem RelK.length:∀ {fs:List (Str×D)} {vs:List (Key×V)},RelK K ad H fs vs->fs.length=vs.length
  |_,_,.nil=>rfl
  |_,_,.cons _ t=>congrArg (· + 1) (RelK.length t)
omit B in
theorem zaz.length:∀ {fs:List (List Key×D)} {vs:List (List Key×V)},zaz K ad H fs vs->fs.length=vs.length
  |_,_,.nil=>rfl
  |_,_,.cons _ t=>congrArg (· + 1) (zaz.length t)
omit B in
theorem zfk:∀ {ks:List Key} {vs:List V},zy K ad H (ks.map kD) vs->vs=ks.map kV
 |[],_,.nil=>rfl
 |.inl i::ks,_,.cons r t=>by
  have e:∀ {d:D} {v:V},d=.int i->Rel K ad H d v->v=.int i:=fun e r=>by subst e;cases r;rfl
  rw[e rfl r,zfk t];rfl
 |.inr x::ks,_,.cons r t=>by
  have e:∀ {d:D} {v:V},d=.str x->Rel K ad H d v->v=.str x:=fun e r=>by subst e;cases r;rfl
  rw[e rfl r,zfk t];rfl
def zE.newC (st:zE K ad H S){l:Addr}{o:HO}{c:Cell}(h:H l=none)(hc:zb8 K (ad++[l]) (upd H l o) l c):zE K (ad++[l]) (upd H l o) (S++[c]) where
 wd:=st.wd.trans (Wd.newL st h)
 len:=by rw[qi,qi,st.len];rfl
 nd:=by
  rw[List.nodup_append];refine⟨st.nd,by simp,fun a ha b hb e=>?_⟩;have:b=l:=by simpa using hb
  subst this;subst e;exact st.fresh h ha
 cell:=fun n a c' e1 e2=>by
  by_cases hn:n<ad.length
  ·rw[qu hn]at e1;rw[qu (by rw[<- st.len];exact hn)]at e2;have ok:=st.cell n a c' e1 e2;obtain⟨u,e⟩:=ok.some;exact ok.wd (Wd.newL st h) (by rw[zdH h e,e])
  ·have hn':ad.length<=n:=Nat.le_of_not_lt hn;rw[qj hn']at e1;rw[qj (by rw[<- st.len];exact hn'),<- st.len]at e2;cases hk:n-ad.length with
   |zero =>
    rw[hk]at e1 e2;have e1':l=a:=by simpa using e1
    have e2':c=c':=by simpa using e2
    subst e1' e2';exact hc
   |succ k=>rw[hk]at e1;simp at e1
omit B in
def Wd.putC {n:Nat}{a:Addr}{o o':HO}(e:ad[n]?=some a)(h:H a=some o)(h1:∀ xs,o≠.tup xs)(h2:∀ q u,o≠.frz q u):Wd ad H ad (upd H a o') :=
 ⟨List.prefix_refl _,fun b u hb q=>by
   have:b≠a:=fun z=>hb (by rw[z];exact qf e)
   rw[zL this];exact q,
  fun b xs q=>by rw[zL (zc7 q h (fun z=>h1 xs z.symm))];exact q,fun b o u q=>by rw[zL (zc7 q h (fun z=>h2 o u z.symm))];exact q,fun _ m n=>absurd m n⟩
theorem zE.putC (st:zE K ad H S){n:Nat}{a:Addr}{o o':HO}{c:Cell}(e:ad[n]?=some a)(h:H a=some o)(h1:∀ xs,o≠.tup xs)(h2:∀ q u,o≠.frz q u)(hc:zb8 K ad (upd H a o') a c):zE K ad (upd H a o') (S.set n c) where
 wd:=st.wd.trans (Wd.putC e h h1 h2)
 len:=by rw[qad];exact st.len
 nd:=st.nd
 cell:=fun m b c' e1 e2=>by
  have w:Wd ad H ad (upd H a o'):=Wd.putC e h h1 h2;by_cases hm:m=n
  ·subst hm;rw[e]at e1;cases e1;rw[qS (by rw[<- st.len];exact My.zaO e)]at e2;cases e2;exact hc
  ·rw[qN (Ne.symm hm)]at e2
   have ne:b≠a:=fun z=>by
    subst z;have q1:=(qG.mp e1).2;have q2:=(qG.mp e).2;exact hm ((List.getElem_inj st.nd).mp (q1.trans q2.symm))
   exact(st.cell m b c' e1 e2).wd w (zL ne)
def ziX (st:zE K ad H S){x y:D}{v u:V}{o:Option D}(rx:Rel K ad H x v)(ry:Rel K ad H y u)(g:DGt S x y o):∃ a o',v=.ref a/\zcY H a u o'/\((o=none/\o'=none)\/∃ d w,o=some d/\o'=some w/\Rel K ad H d w):=by
 rcases g with⟨n,kvs,z,rfl,rfl,hn,rfl⟩|⟨n,kvs,ks,rfl,rfl,hn,rfl⟩
 ·cases ry;cases rx with
  |ref e =>
   obtain⟨vs,hv,r⟩:=st.cell n _ _ e hn;exact⟨_,_,rfl,zcY.k (k:=Sum.inr z) hv,r.val z⟩
 ·cases rx with
  |ref e =>
   obtain⟨vs,hv,r⟩:=st.cell n _ _ e hn;cases ry with
   |tup hb rb =>
    have e2:=zfk rb;subst e2;exact⟨_,_,rfl,zcY.t hv hb,r.val ks⟩
def zoA (st:zE K ad H S){x:D}{v:V}(rx:Rel K ad H x v)(g:zm8 S x):∃ a,v=.ref a/\IsD H a:=by
 obtain⟨n,rfl,g⟩:=g;cases rx with
 |ref e =>
  rcases g with⟨kvs,hn⟩|⟨kvs,hn⟩
  ·obtain⟨vs,hv,_⟩:=st.cell n _ _ e hn;exact⟨_,rfl,.inl ⟨vs,.inl hv⟩⟩
  ·obtain⟨vs,hv,_⟩:=st.cell n _ _ e hn;exact⟨_,rfl,.inr ⟨vs,.inl hv⟩⟩
end
section
variable {X:Cx}{a b c:Expr}{td ti tz tv:DE}{pos apos cpos:Pos}[B:Bs]
def zsi:PD X (.Dict [] [] pos) znw:=by with_unfolding_all exact(zaG zqQ fun U H Q hh=>el8 hh fun ad Z S Q0 st rh q k p hp =>
 k _ _ _ _ _ q (Wd.newL st hp) (st.newC hp ⟨[],zY,.nil⟩) st.newRef)
def zhW {j:Nat}(hr:zaf j X.A)(ho:PD X a td)(hi:PD X b ti)(hs:zpC b:=by intro _ _;rfl):PD X (.Subscript a b pos) (zi5 td ti):=by with_unfolding_all exact(zaG (zr4 (zj0 hr) ho hi hs) fun U H Q hh=>el8 hh fun ad Z S Q0 st rh q k =>
 ⟨ad,Z,S,_,st,rh,q,fun x S1 v H1 ad1 q1 w1 st1 r1=>⟨ad1,Z,S1,_,st1,rh.wd w1,q1,fun y S2 u H2 ad2 ⟨d,g,q2⟩ w2 st2 r2=>by
  obtain⟨p,o',rfl,g',h⟩:=ziX st2 (r1.wd w2) r2 g;rcases h with⟨e,_⟩|⟨d',w,e,rfl,rw'⟩
  ·cases e
  ·cases e;exact⟨p,w,rfl,g',k _ S2 _ H2 ad2 q2 (w1.trans w2) st2 rw'⟩⟩⟩)
def zsk {p:Pos}(hm:X.mg "len"=none)(ho:PD X a td)(hg:Gl X "len":=by rfl)(he:isStar a=false:=by rfl):PD X (.Call (.Name "len" p) [a] [] pos) (znB td):=by
 with_unfolding_all
  have hcall:zaE X (.builtin "len") (fun xs H Q=>∃ a kvs,xs=[V.ref a]/\H a=some (.dK kvs)/\Q (.int kvs.length) H):=by
   intro pins s U H xs us Q I r h;obtain⟨a,kvs,rfl,ha,q⟩:=h;obtain⟨u,rfl,ru⟩:=vals1 r;cases ru;exact zxu I (.inl ha) fun t s' I'=>⟨.int kvs.length,H,I',⟨t,rfl⟩,q⟩
  have bc:BC X (.builtin "len") (fun vs S Q=>∃ n kvs,vs=[.ref n]/\S[n]?=some (.dk kvs)/\Q (.int kvs.length) S):=⟨_,hcall,fun ad H S ds vs Q0 Q st r ⟨n,kvs,e,hn,q⟩ k=>by
   subst e;obtain⟨v,rfl,rv⟩:=zb4 r;cases rv with
   |ref e =>
    obtain⟨ws,hw,rw'⟩:=st.cell n _ _ e hn;exact⟨_,ws,rfl,hw,k _ S _ H ad (by rw[rw'.length]at q;exact q) Wd.refl st (.int _)⟩⟩
  refine zmy (zak bc hm boot_len (zc ho zm (za0 he)) hg (he:=za0 he)) fun U H Q hh=>el8 hh fun ad Z S Q0 st rh q k=>⟨ad,Z,S,_,st,rh,?_,k⟩
  exact q
def zll {j:Nat}(hr:zaf j X.A)(ho:PD X a td)(hi:PD X b ti)(hv:PD X c tv)(hs:swapsWith c (some (.Subscript a b apos)) pos.line X.env=pure false:=by rfl):PSD X (.Assign [.Subscript a b apos] c pos) (zj2 td ti tv):=by with_unfolding_all exact(zbn (zsO (zj0 hr) ho hi hv hs) fun E U H hh=>el8 hh fun ad Z S E0 so rh q k =>
 ⟨ad,Z,S,_,so,rh,q,fun v S1 vv H1 ad1 q1 w1 st1 r1=>⟨ad1,Z,S1,_,st1,rh.wd w1,q1,fun x S2 vx H2 ad2 q2 w2 st2 r2=>⟨ad2,Z,S2,_,st2,rh.wd (w1.trans w2),q2,fun y S3 vy H3 ad3 q3 w3 st3 r3=>by
  have rx:=r2.wd w3;have rv:=r1.wd (w2.trans w3);have w13:=(w1.trans w2).trans w3;rcases q3 with⟨n,kvs,z,rfl,rfl,hn,hl,q3⟩|⟨n,kvs,ks,rfl,rfl,hn,hl,q3⟩
  ·cases r3;cases rx with
   |ref e =>
    obtain⟨vs,hv',r⟩:=st3.cell n _ _ e hn;have h1:∀ xs,HO.dK vs≠.tup xs:=fun _ z=>by cases z
    have h2:∀ q u,HO.dK vs≠.frz q u:=fun _ _ z=>by cases z
    have w:=Wd.putC (o':=.dK (putK vs (Sum.inr z:Key) vv)) e hv' h1 h2;refine⟨_,_,rfl,zgl.k (k:=Sum.inr z) hv' (by rw[<- r.length];exact ziG hl),?_⟩;exact k.nx _ _ _ _ _ q3 (w13.trans w) (st3.putC e hv' h1 h2 ⟨_,zY,RelK.wr w.wr (r.put rv)⟩) (rh.wd (w13.trans w))
  ·cases rx with
   |ref e =>
    obtain⟨vs,hv',r⟩:=st3.cell n _ _ e hn;cases r3 with
    |tup hb rb =>
     have e2:=zfk rb;subst e2;have h1:∀ xs,HO.dT vs≠.tup xs:=fun _ z=>by cases z
     have h2:∀ q u,HO.dT vs≠.frz q u:=fun _ _ z=>by cases z
     have w:=Wd.putC (o':=.dT (putK vs ks vv)) e hv' h1 h2;refine⟨_,_,rfl,zgl.t hv' hb (by rw[<- r.length];exact ziG hl),?_⟩;exact k.nx _ _ _ _ _ q3 (w13.trans w) (st3.putC e hv' h1 h2 ⟨_,zY,zaz.wr w.wr (r.put rv)⟩) (rh.wd (w13.trans w))⟩⟩⟩)
end
structure FH (K:PySem.W.Frag)(n:Str)(st:Stmt)(f:Addr)(fd:FuncData):Prop where
 a:PySem.W.nsIn K mainGlobals n=some (some (.ref f))
 F:Fun K n n st f fd
section
variable {K:PySem.W.Frag}{n:Str}{st:Stmt}{f:Addr}{fd:FuncData}{mg:Str->Option Value}{k:Nat}{h:Heap}{ps:List Str}{sp:Sp}
def zw0 {oc:Value}{od an:Option Addr}{osl:Array (Option Value)}{kV doc pm cdv ct:Value}(a:PySem.W.nsIn K mainGlobals n=some (some (.ref f)))
  (l:K.lookup f=some ⟨oc,od,.func (PySem.W.fnOf n n (zbz st) (zaD st) (zN st) .none kV doc pm an cdv ct),osl⟩) (c:PySem.W.codeIn K cdv n=true) (k:PySem.W.keepIn K (.ref f)=true) :
  FH K n st f (PySem.W.fnOf n n (zbz st) (zaD st) (zN st) .none kV doc pm an cdv ct):=⟨a,ziB l c k⟩
def zU (P:Program)(w:World)(base:Heap)(X:K.In h)(G:h.Ns mainGlobals mg)(H:FH K n st f fd)(ok:zP P w K mg base CX0 k f fd ps sp)
  (b:∀ (kV doc pm:Value) (an:Option Addr) (cdv ct:Value) (us:List Value),us.length=ps.length->bindArgs (PySem.W.fnOf n n (zbz st) (zaD st) (zN st) .none kV doc pm an cdv ct) ⟨us,[]⟩=pure (ps.zip us):=by intro _ _ _ _ _ _ us hl;first|(obtain⟨_,e⟩:=zru hl;subst e;rfl)|(obtain⟨_,_,e⟩:=znz hl;subst e;rfl)|(obtain⟨_,_,_,e⟩:=zrF hl;subst e;rfl)|(obtain⟨_,_,_,_,e⟩:=zrB hl;subst e;rfl)|(obtain⟨_,_,_,_,_,e⟩:=len_5 hl;subst e;rfl)|(obtain⟨_,_,_,_,_,_,e⟩:=len_6 hl;subst e;rfl)|(obtain⟨_,_,_,_,_,_,_,e⟩:=len_7 hl;subst e;rfl)):Got P w K mg base k n ps sp:=⟨⟨f,fd,ok,H.F.binds b,H.F.kp,PySem.W.mg_of X G H.a⟩⟩
def zcq (P:Program)(w:World)(base:Heap)(X:K.In h)(G:h.Ns mainGlobals mg)(H:FH K n st f fd)(ok:zP P w K mg base (CXd P w) k f fd ps sp)
  (b:∀ (kV doc pm:Value) (an:Option Addr) (cdv ct:Value) (us:List Value),us.length=ps.length->bindArgs (PySem.W.fnOf n n (zbz st) (zaD st) (zN st) .none kV doc pm an cdv ct) ⟨us,[]⟩=pure (ps.zip us):=by intro _ _ _ _ _ _ us hl;first|(obtain⟨_,e⟩:=zru hl;subst e;rfl)|(obtain⟨_,_,e⟩:=znz hl;subst e;rfl)|(obtain⟨_,_,_,e⟩:=zrF hl;subst e;rfl)|(obtain⟨_,_,_,_,e⟩:=zrB hl;subst e;rfl)|(obtain⟨_,_,_,_,_,e⟩:=len_5 hl;subst e;rfl)|(obtain⟨_,_,_,_,_,_,e⟩:=len_6 hl;subst e;rfl)|(obtain⟨_,_,_,_,_,_,_,e⟩:=len_7 hl;subst e;rfl)):zei P w K mg base k n ps sp:=⟨⟨f,fd,ok,H.F.binds b,H.F.kp,PySem.W.mg_of X G H.a⟩⟩
end
section
variable {X:Cx}
def zyb [B:Bs](i:Nat){x:Str}{pos:Pos}(hN:X.N[i]?=some x:=by rfl)(hv:L2.Vis X.env.scope x:=by first | exact Or.inl rfl | exact Or.inr (Or.inl rfl) | exact Or.inr (Or.inr rfl))(hd:(x==("__debug__":Str))=false:=by decide)(hcd:(x==("__classdict__":Str))=false:=by decide):PD X (.Name x pos) (zbH i):=by with_unfolding_all exact(ziC (zoN hN hv hd hcd))
def zko {N P:List Str}{sc:Scope}(h1:sc.kind=.function:=by rfl)(h2:sc.isCoroutine=false:=by rfl)(h3:sc.isGenerator=false:=by rfl)(h4:N.Nodup:=by decide +kernel)(h5:N.take P.length=P:=by rfl)(h6:∀ x∈P,sc.names.lookup x=some .local\/sc.names.lookup x=some .cell:=by decide +kernel)(h7:∀ y∈sc.names,y.2≠.free:=by decide +kernel):zcb N P sc:=⟨h1,h2,h3,h4,h5,h6,h7⟩
end
section
variable {X:Cx}{a b c:Expr}{ta tb:DE}{td ti tz tv:DE}{pos apos cpos:Pos}[B:Bs]
def zvJ {j:Nat}(hr:zaf j X.A)(hi:PD X b ti)(ho:PD X a td)(hm:behindInMarks .In a=false:=by with_unfolding_all rfl):PTD X (.Compare b [.In] [a] pos) (dT (zpU ti td)):=by with_unfolding_all exact(zdx (zn7 (zu5 (zj0 hr) hi ho) hm) fun U H Q hh=>el8 hh fun ad Z S Q0 st rh q k =>
  ⟨ad,Z,S,_,st,rh,q,fun y S1 u H1 ad1 q1 w1 st1 r1=>⟨ad1,Z,S1,_,st1,rh.wd w1,q1,fun x S2 v H2 ad2 ⟨o,g,b',e',q2⟩ w2 st2 r2=>by
    obtain⟨p,o',rfl,g',h⟩:=ziX st2 r2 (r1.wd w2) g;have e:o'.isSome=o.isSome:=by rcases h with⟨rfl,rfl⟩|⟨d',w,rfl,rfl,_⟩<;>rfl
    cases e';exact⟨p,o',rfl,g',_,rfl,by rw[e];exact k _ S2 H2 ad2 q2 (w1.trans w2) st2⟩⟩⟩)
def zjm {j:Nat}(hr:zaf j X.A)(hi:PD X b ti)(ho:PD X a td)(hm:behindInMarks .NotIn a=false:=by with_unfolding_all rfl):PTD X (.Compare b [.NotIn] [a] pos) (dT (zgq ti td)):=by with_unfolding_all exact(zdx (zn7 (zpj (zj0 hr) hi ho) hm) fun U H Q hh=>el8 hh fun ad Z S Q0 st rh q k =>
  ⟨ad,Z,S,_,st,rh,q,fun y S1 u H1 ad1 q1 w1 st1 r1=>⟨ad1,Z,S1,_,st1,rh.wd w1,q1,fun x S2 v H2 ad2 ⟨o,g,b',e',q2⟩ w2 st2 r2=>by
    obtain⟨p,o',rfl,g',h⟩:=ziX st2 r2 (r1.wd w2) g;have e:o'.isSome=o.isSome:=by rcases h with⟨rfl,rfl⟩|⟨d',w,rfl,rfl,_⟩<;>rfl
    cases e';exact⟨p,o',rfl,g',_,rfl,by rw[e];exact k _ S2 H2 ad2 q2 (w1.trans w2) st2⟩⟩⟩)
def zsR (ho:PD X a td)(hi:PD X b ti)(m:M1 X a "pop" apos b cpos:=by exact⟨rfl,rfl,rfl,rfl⟩):PD X (.Call (.Attribute a "pop" apos) [b] [] cpos) (zm6 td ti):=by with_unfolding_all exact(zaG (zqp ho hi m) fun U H Q hh=>el8 hh fun ad Z S Q0 st rh q k =>
 ⟨ad,Z,S,_,st,rh,q,fun x S1 v H1 ad1 ⟨hd,q1⟩ w1 st1 r1=>by
  obtain⟨p,rfl,hp⟩:=zoA st1 r1 hd
  exact⟨p,rfl,hp,ad1,Z,S1,_,st1,rh.wd w1,q1,fun y S2 u H2 ad2 ⟨n,kvs,z,d,ex,ey,hn,hv,q2⟩ w2 st2 r2=>by
   subst ex ey;cases r2;cases r1.wd w2 with
   |ref e =>
    obtain⟨vs,hv',r⟩:=st2.cell n _ _ e hn;rcases r.val z with⟨e1,_⟩|⟨d',w,e1,e2,rw'⟩
    ·rw[hv]at e1;cases e1
    ·rw[hv]at e1;cases e1;have h1:∀ xs,HO.dK vs≠.tup xs:=fun _ z=>by cases z
     have h2:∀ q u,HO.dK vs≠.frz q u:=fun _ _ z=>by cases z
     have w':=Wd.putC (o':=.dK (zeD vs (Sum.inr z:Key))) e hv' h1 h2;exact⟨vs,Sum.inr z,w,hv',rfl,e2,k _ _ _ _ _ q2 ((w1.trans w2).trans w') (st2.putC e hv' h1 h2 ⟨_,zY,RelK.wr w'.wr r.drop⟩) (rw'.wd w')⟩⟩⟩)
def zp3 {tk:DE}(hk:PD X a tk)(hv:PD X b tv):PD X (.Dict [some a] [b] pos) (zkm tk tv):=by with_unfolding_all exact(zaG (ztl (zpu hk hv zs7) rfl rfl (by intro h;cases h) (qah rfl)) fun U H Q hh=>el8 hh fun ad Z S Q0 st rh q k p hp =>
 ⟨ad++[p],Z,S++[.dk []],_,st.newC (c:=.dk []) hp ⟨[],zY,.nil⟩,rh.wd (Wd.newL st hp),(show tk Z (S++[.dk []]) _ from q),fun x S1 v H1 ad1 q1 w1 st1 r1=>⟨ad1,Z,S1,_,st1,(rh.wd (Wd.newL st hp)).wd w1,q1,fun y S2 u H2 ad2 ⟨z,ex,hn,q2⟩ w2 st2 r2=>by
  subst ex;cases r1;have w12:=(Wd.newL (o:=.dK []) st hp).trans (w1.trans w2)
  have e:ad2[S.length]?=some p:=by
   refine zgr (w1.trans w2).pre ?_;rw[<- st.len,qj (qe _),Nat.sub_self];rfl
  obtain⟨vs,hv',r⟩:=st2.cell S.length _ _ e hn;cases r;have h1:∀ xs,HO.dK []≠.tup xs:=fun _ z=>by cases z
  have h2:∀ q u,HO.dK []≠.frz q u:=fun _ _ z=>by cases z
  have w':=Wd.putC (o':=.dK [((Sum.inr z:Key),u)]) e hv' h1 h2;exact⟨hv',[((Sum.inr z:Key),u)],rfl,qah rfl,k _ _ _ _ _ q2 (w12.trans w') (st2.putC e hv' h1 h2 ⟨_,zY,.cons (r2.wd w') .nil⟩) (.ref e)⟩⟩⟩)
end
section
variable {X:Cx}{a b:Expr}{ta tb:DE}{pos apos cpos:Pos}[B:Bs]
end
section
variable {X:Cx}{a b:Expr}{ta tb:DE}{pos apos cpos:Pos}[B:Bs]
end
section
variable {X:Cx}{a b:Expr}{ta tb:DE}{pos apos cpos:Pos}[B:Bs]
end
end Dp
namespace My
open PySem PySem.Spec PyProof.Rows L2
section
variable {X:Cx}{pins pl:List (Addr×Obj)}{U:L2.St}{H H':Hp}{s:Shared}{a:Addr}{o:Obj}
theorem Loose.pin (l:Loose X pins H a)(I:Inv X pins U H s)(e:s.heap.get? a=some o)(hd:∀ v,o.data≠.cell v):Inv X (pins++[(a,o)]) U H s :=
 I.pins_of fun p hp=>(qF.mp hp).elim (fun z=>I.pin p (qK _ z)) fun z=>by
  obtain rfl:p=(a,o):=by simpa using z
  refine⟨e,l.hn,l.hl,fun m=>?_,hd⟩;rcases I.ok.stk with q|⟨q,hf⟩
  ·exact l.hf (by rw[q];exact m)
  ·refine l.hf ?_;rw[q];unfold frs;rw[List.filterMap_cons,hf];exact qq _ m
def Loose.unpin (l:Loose X (pins++pl) H a):Loose X pins H a :=
 ⟨l.hn,l.hl,l.h0,l.hc,fun p hp=>l.hp p (by rw[<- qh];exact qQ _ hp),l.hf⟩
def Loose.free (l:Loose X pins H a)(h:H' a=none):Loose X pins H' a:=⟨h,l.hl,l.h0,l.hc,l.hp,l.hf⟩
end
def mS:Bool->Str
 | false=>"min"
 | true=>"max"
theorem zrU:∀ mx,bootBuiltins (mS mx)=some (.builtin (mN mx))
 |false=>boot_min
 |true=>boot_max
def zs5:∀ mx,mS mx≠"__name__":=by decide
def zuJ:∀ mx,(mS mx==("__debug__":Str))=false:=by decide
theorem zrz:∀ {ws:List (Key×V)} {vs:List (Key×Value)} {i:Nat} {k:Key} {u:Value},KV ws vs->vs[i]?=some (k,u)->∃ v,ws[i]?=some (k,v)
 |_,_,_,_,_,.nil,e=>by simp at e
 |(k',v')::_,(_,_)::_,0,_,_,.cons r _,e=>by
  simp at e;obtain⟨rfl,rfl⟩:=e;have:k'=_:=r.1;subst this;exact⟨v',rfl⟩
 |_::_,_::_,i+1,k,u,.cons _ t,e=>by
  obtain⟨v,h⟩:=zrz (i:=i) t (by simpa using e);exact⟨v,by simpa using h⟩
end My
namespace Dp
open PySem PySem.Spec PyProof.Rows L2 My
section
variable {K:PySem.W.Frag}{ad:List Addr}{H H':Hp}{S:Sto}[B:Bs]
omit B in
theorem RelK.at:∀ {fs:List (Str×D)} {vs:List (Key×V)} {i:Nat} {k:Key} {v:V},RelK K ad H fs vs->vs[i]?=some (k,v)->∃ z d,k=Sum.inr z/\fs[i]?=some (z,d)
 |_,_,_,_,_,.nil,e=>by simp at e
 |_,_,0,_,_,.cons _ _,e=>by simp at e;obtain⟨rfl,rfl⟩:=e;exact⟨_,_,rfl,rfl⟩
 |_,_,i+1,k,v,.cons _ t,e=>by
  obtain⟨z,d,h1,h2⟩:=RelK.at (i:=i) t (by simpa using e);exact⟨z,d,h1,by simpa using h2⟩
theorem zE.tab (st:zE K ad H S){t:Nat}{P cd:Addr}{x:Str}{l c:Nat}{ps ps':Array Value}(e:ad[t]?=some P)(hs:S[t]?=some (.tab x l c))(hP:H P=some (.tbl ps))(hP':H' P=some (.tbl ps'))(ht:PySem.W.tabIn K x=some (cd,P))
  (g:zmK H' ps' l c (x++".<locals>."++"<lambda>")) (keep:∀ b,b≠P->∀ u,H b=some u->H' b=some u):Wd ad H ad H'/\zE K ad H' S:=by
 have w:Wd ad H ad H':=⟨List.prefix_refl _,fun b o hb q=>keep b (fun z=>hb (by rw[z];exact qf e)) o q,fun b xs q=>keep b (zc7 q hP (by intro z;cases z)) _ q,fun b o u q=>keep b (zc7 q hP (by intro z;cases z)) _ q,fun _ m n=>absurd m n⟩
 refine⟨w,st.wd.trans w,st.len,st.nd,fun n a c' e1 e2=>?_⟩;by_cases hn:n=t
 ·subst hn;rw[e]at e1;cases e1;rw[hs]at e2;cases e2;exact⟨ps',cd,hP',ht,g⟩
 ·have ne:a≠P:=fun z=>by
   subst z;have q1:=(qG.mp e1).2;have q2:=(qG.mp e).2;exact hn ((List.getElem_inj st.nd).mp (q1.trans q2.symm))
  have ok:=st.cell n a c' e1 e2;obtain⟨u,hu⟩:=ok.some;exact ok.wd w (by rw[keep a ne u hu,hu])
end
def zpA {k:Nat}{A:Around}(r:zaf (k+1) A)(env:Env):zaf k (A.in1.deeper env):=⟨r.hd,by have:=r.dp;show A.depth+1+3*k+5<_;lia,by have:=r.un;show A.units+1+3+16*k+200<_;lia⟩
def zqd (X:Cx)(x:Str):Prop:=∃ cd P,PySem.W.tabIn X.K x=some (cd,P)/\X.env.code=.ref cd/\PySem.W.CodeHd X.base cd P
def ztx [B:Bs]{X:Cx}(mx:Bool){a body:Expr}{td te:DE}{x y:Str}{params:Arguments}{sc:Scope}{free:List Str}{fv:List Nat}{p1 p2 p3 kp lp pos:Pos}{j:Nat}
  (hr:zaf (j+1) X.A) (hT:zqd X x) (hB:zna X) (hm:X.mg (mS mx)=none) (hml:X.mg "list"=none) (hd:PD X a td)
  (hb:∀ q cd cl s H,zaf j (zlj X (y::free) (X.env.qual++"<lambda>") sc q cd cl s H).A->PD (zlj X (y::free) (X.env.qual++"<lambda>") sc q cd cl s H) body te)
  (hfr:zc5 (fun x=>X.env.kindOf x=some .cell) sc.names) (hfv:zeP X sc free fv)
  (hq:X.env.qual=x++".<locals>.":=by rfl) (hc:X.calm=true:=by rfl) (hg:Gl X (mS mx):=by rfl) (hgl:Gl X "list":=by rfl)
  (hco:sc.isCoroutine=false:=by rfl) (hgen:sc.isGenerator=false:=by rfl) (hk:sc.kind=.function:=by rfl) (hcell:∀ y∈sc.names,y.2≠.cell:=by decide +kernel) (hx:sc.names.lookup y=some .local:=by rfl)
  (hdef:defaultsOf params X.env=([],[]):=by rfl) (hbind:∀ v cl pm cd ct,bindArgs (PySem.W.kla_fn "<lambda>" (X.env.qual++"<lambda>") params body sc cl pm cd ct) ⟨[v],[]⟩=pure [(y,v)]:=by intro _ _ _ _ _;rfl) (hst:isStar a=false:=by rfl) :
  PD X (.Call (.Name (mS mx) p1) [.Call (.Name "list" p2) [a] [] p3] [⟨some "key",.Lambda params body sc lp,kp⟩] pos) (zns mx x lp.line lp.col td fv te):=by
 with_unfolding_all
  intro pins s U H Q I h;obtain⟨ad,Z,S,Q0,st,rh,q,kk⟩:=h;obtain⟨cd,P,ht,hcode,hC⟩:=hT;have hs1:starEach [a] X.env=[(false,eval a X.env)]:=zcf hst;have hs2:starEach [Expr.Call (.Name "list" p2) [a] [] p3] X.env=[(false,eval (.Call (.Name "list" p2) [a] [] p3) X.env)]:=zcf rfl;refine wpAny_Call_Name_kw (zbY I hg hm (zrU mx) ?_ (zs5 mx) (zuJ mx));refine callWith_kw ?_ (by rw[hs2];rfl) (by rw[hs2];rfl);rw[hs2];show wpAny _ _ (spliced ((false,eval (.Call (.Name "list" p2) [a] [] p3) X.env)::backTo pos [])) _ _ s
  refine Calls.spliced_cons (Call_ (zbY I hgl hml boot_list (PyProof.Rows.callWith_type1 (thn (zmf (X:=X) hd zoV (by rw[hs1];rfl) p3 pins s U H (fun vs H1=>∃ v d S1 ad1,vs=[v]/\Wd ad H ad1 H1/\zE X.K ad1 H1 S1/\Rel X.K ad1 H1 d v/\∃ (n:Nat) (kvs:List (Str×D)) (t:Nat) (kf:Nat->Int),d=.ref n/\S1[n]?=some (.dk kvs)/\0<kvs.length/\S1[t]?=some (.tab x lp.line lp.col) /\
   (∀ (i:Nat) z v,kvs[i]?=some (z,v)->te (some (.str z)::fv.map fun j=>(Z[j]?).join) S1 fun y S2=>y=.int (kf i)/\S2=S1) /\
   ∀ (i:Nat) z v,kvs[i]?=some (z,v)->(∀ j,j<kvs.length->sgB mx (kf i)<=sgB mx (kf j)/\(j<i->sgB mx (kf i)<sgB mx (kf j)))->Q0 (.str z) S1) I ⟨ad,Z,S,_,st,rh,q,fun d S1 v H1 ad1 q1 w1 st1 r1=>⟨v,d,S1,ad1,rfl,w1,st1,r1,q1⟩⟩) fun us s1 h1=>?_) hs1 rfl)))
  obtain⟨vs0,H1,I1,r1,v,d,S1,ad1,rfl,w1,st1,rd,n,kvs,t,kf,rfl,hn,hne,htab,hte,hQ⟩:=h1;obtain⟨u,rfl,ru⟩:=vals1 r1;cases rd with
  |@ref _ da ed =>
  cases ru;obtain⟨ws,hw,rw'⟩:=st1.cell n _ _ ed hn;obtain⟨hz,hsys,vs,rel,od,es,ep,dd⟩:=zjV I1.hok hw;have hlen:vs.length=kvs.length:=by rw[<- rel.length,rw'.length]
  obtain⟨aP,eP,ps,cd',hP,ht',hTab⟩:=st1.get htab;rw[ht]at ht';cases ht';refine PySem.W.kdl_call (PySem.W.kdl_dict (knd:=zaH X.prog X.w) (kvs:=vs) (ep:=ep) hsys) (I1.ok.hd hc) ⟨od,es,dd⟩ (by rw[<- rel.length];exact hz) fun h' tk acc' c' hk' hD hacc=>Calls.spliced_nil ?_
  have I2:Inv X pins U H1 { s1 with heap:=h',toks:=tk }:=I1.kept (t':=tk) hk';have ll:Loose X pins H1 s1.heap.objs.size:=Loose.fresh I1 (qe _);have I3:=ll.pin I2 hD (fun v z=>by cases z);obtain⟨cl,hclos,hcl1,hcl2⟩:=zfx (env:=X.env) (sc:=sc) fun y hy e=>I.ok.has y.1 (.inl (hfr.of y hy e))
  refine kws_cons (zqY I3 hcode hC hP (by rw[hq];exact hTab) hB hdef hclos fun qa s' H' c2 ps' pm ct J hP' tab' hkeep hcod lq hqo=>kws_nil ?_);have J1:Inv X pins U H' s':=J.unpinned;have pinl:=J.pin (s1.heap.objs.size,_) (qK _ (qK _ (List.mem_singleton.mpr rfl)));rw[hq]at tab';obtain⟨wt,stt⟩:=st1.tab eP htab hP hP' ht tab' hkeep
  have key:∀ (i:Nat) (v:Value),acc'.toList[i]?=some v->∃ z d,(∃ t,v=.str z t)/\kvs[i]?=some (z,d):=fun i v e=>by
   obtain⟨k,u,e1,e2⟩:=hacc.2 i v (by rw[<- Array.getElem?_toList];exact e);obtain⟨v',e3⟩:=zrz rel e1;obtain⟨z,d,rfl,e4⟩:=rw'.at e3;rw[znr]at e2;rcases zaT (k:=Sum.inr z) e2 with⟨_,_,z',_⟩|⟨_,t,z',e5⟩
   ·cases z'
   ·cases z';exact⟨_,d,⟨t,e5⟩,e4⟩
  have alen:acc'.toList.length=kvs.length:=by rw[qL,hacc.1,hlen]
  refine zqf (G:=fun H3=>∃ ad3,Wd ad1 H1 ad3 H3/\zE X.K ad3 H3 S1/\zhF H3 (.ref c2) (X.env.qual++"<lambda>")) (l:=s1.heap.objs.size) (vs:=acc'.toList) mx kf (I.ok.hd hc) J1 ⟨ad1,wt,stt,hcod⟩ (ll.free pinl.2.1) lq.unpin hqo ⟨_,pinl.1,rfl,by first | rfl | simp⟩ (by rw[alen];exact hne) (fun i v e=>?_) fun i v s4 H4 e hbest J4 ⟨ad4,w4,st4,cod4⟩=>?_
  ·obtain⟨z,d,⟨t',rfl⟩,e4⟩:=key i v e;refine zqt (te:=up X.K te) hr hco hgen hk hcell (hbind _ _ _ _ _) hx hfv hcl1 hcl2 (fun H g=>g.elim fun _ g=>g.2.2) (vv:=.str z) ⟨t',rfl⟩ (fun s H=>hb qa (.ref c2) cl s H (zpA hr _)) fun H3 ⟨ad3,w3,st3,cod3⟩=>?_
   have r0:=(zmo (rh.wd (w1.trans w3)) [y] fv)
   refine⟨ad3,_,S1,_,st3,⟨?_,?_⟩,hte i z d e4,fun d' S' vv H5 ad5 hd5 w5 st5 r5=>?_⟩
   ·have:=r0.len;unfold zem cst at this;simpa using this
   ·intro i' d' e';cases i' with
    |zero =>
     have:D.str z=d':=by simpa using e'
     subst this;exact⟨.str z,rfl,.str z⟩
    |succ i' =>
     obtain⟨v',h1,h2⟩:=r0.val (i'+1) d' (by unfold zem;simpa using e');exact⟨v',by unfold cst at h1;simpa using h1,h2⟩
   ·obtain⟨rfl,rfl⟩:=hd5;cases r5;exact⟨rfl,ad5,w3.trans w5,st5,zmu cod3 w5.wr⟩
  ·obtain⟨z,d,⟨t',rfl⟩,e4⟩:=key i v e;refine⟨.str z,H4,J4,⟨t',rfl⟩,kk _ S1 _ H4 ad4 (hQ i z d e4 fun j hj=>?_) (w1.trans w4) st4 (.str z)⟩;exact hbest j (by rw[alen];exact hj)
structure TbB (K:PySem.W.Frag)(mg:Str->Option Value)(base:Heap)(xs:List Str):Prop where
 tab:∀ x∈xs,∃ c P,PySem.W.tabIn K x=some (c,P)/\PySem.W.CodeHd base c P
 blt:∃ bm ob,mg "__builtins__"=some (.ref bm)/\bm≠builtinsNs/\base.get? bm=some ob/\ob.cls=.type "module"/\ob.dict=some builtinsNs/\ob.data=.plain
def zqg {P:Program}{w:World}{K:PySem.W.Frag}{mg:Str->Option Value}{base:Heap}{x:Str}{st:Stmt}{f:Addr}{fd:FuncData}{N ps xs:List Str}{k:Nat}{sp:DSp}{b:DS}(TB:TbB K mg base xs)(F:FH K x st f fd)(hx:x∈xs)(S:zcb N ps (zN st))
    (len:∀ ds So Q,sp ds So Q->ds.length=ps.length) (body:BodyOk N.length b sp)
    (term:∀ (cdv:Value) (A:Around) (outer:List Env) (s:Shared) (H:Hp) (E:XK),zaf k (A.deeper (envOfC x (zN st) s.heap.objs.size f cdv))->zqd (zbW CX0 P w K mg base N x (zN st) f cdv A outer s H E).nox x->zna (zbW CX0 P w K mg base N x (zN st) f cdv A outer s H E).nox->∀ [Bs],zcw (zbW CX0 P w K mg base N x (zN st) f cdv A outer s H E).nox (zaD st) b) :
    zP P w K mg base CX0 (k+1) f fd ps (upF K sp):=by
  with_unfolding_all
    obtain⟨oc,od,kV,doc,pm,an,cdv,ct,osl,rfl,lk,hcd⟩:=F.F.ex;obtain⟨cd,T,ht,hC⟩:=TB.tab x hx
    have e:cdv=.ref cd:=by
      have ht2:=ht;unfold PySem.W.tabIn at ht2;rw[F.a]at ht2;simp only[lk]at ht2;cases cdv<;>first|(cases ht2;done)|skip
      rename_i c;simp only at ht2;split at ht2
      . split at ht2
        . cases ht2;rfl
        . cases ht2
      . cases ht2
    refine zmO lk hcd S (fun vs H Q E ⟨ad,So,ds,Q0,so,r,hf,kk⟩=>by rw[<- r.length];exact len ds So Q0 hf) fun A outer s H vs Q E hr ⟨ad,So,ds,Q0,so,r,hf,kk⟩=>?_
    letI:Bs:=⟨ad,H⟩
    have h:=term cdv A outer s H E hr ⟨cd,T,ht,e,hC⟩ TB.blt;refine⟨_,PSs.nox h,ad,zdb N.length ds,So,_,so,zhw N r,body ds So Q0 hf,⟨fun Z S' U H' ad' q w' st' rh=>zeV so kk .non S' .non H' ad' q w' st' .non,zeV so kk,fun _ _ _ _ _ q=>q.elim,fun _ _ _ _ _ q=>q.elim⟩⟩
def zgs (K:PySem.W.Frag):List Str->Option (List Addr)
 |[]=>some []
 |x::r=>match PySem.W.tabIn K x,zgs K r with
  |some (_,P),some Ps=>some (P::Ps)
  |_,_=>none
def okT (K:PySem.W.Frag)(xs:List Str):Bool:=match zgs K xs with
 |some Ps=>decide Ps.Nodup&&Ps.all fun P=>(K.lookup P).isNone
 |none=>false
theorem ziY {K:PySem.W.Frag}:∀ {xs:List Str} {Ps:List Addr},zgs K xs=some Ps->Ps.length=xs.length/\∀ (i:Nat) (x:Str),xs[i]?=some x->∃ c P,PySem.W.tabIn K x=some (c,P)/\Ps[i]?=some P
 |[],Ps,h=>by
  have h:some []=some Ps:=h;cases h;exact⟨rfl,fun i x e=>by simp at e⟩
 |x::r,Ps,h=>by
  unfold zgs at h;split at h
  ·rename_i c P Qs h1 h2;cases h;obtain⟨l,g⟩:=ziY h2;refine⟨by rw[qJ,qJ,l],fun i y e=>?_⟩;cases i with
   |zero =>
    have:x=y:=by simpa using e
    subst this;exact⟨c,P,h1,rfl⟩
   |succ i =>
    obtain⟨c',P',e1,e2⟩:=g i y (by simpa using e);exact⟨c',P',e1,by simpa using e2⟩
  ·cases h
def zpr {P:Program}{w:World}{K:PySem.W.Frag}{mg mb:Str->Option Value}{k:Nat}{fa a:Addr}{fd:FuncData}{x:Str}{sp:Sp}{s₁:Shared}{vs:List Value}{ns:List Int}{Ps:List Addr}
  (KX:K.In s₁.heap) (hns:s₁.heap.Ns mainGlobals mg) (hb:s₁.heap.Ns builtinsNs mb) (hbb:∀ x:Str,x≠"__name__"->mb x=bootBuiltins x) (hlim:s₁.heap.NoLimit) (hg:s₁.gens=#[])
  (ha:s₁.heap.get? a=some { cls:=.type "list",data:=.seq vs.toArray }) (hi:IntsAre vs ns) (hl:ns.length<=sizeLine) (hr:zaf k callerA) (hT:∀ T∈Ps,s₁.heap.get? T=some (PySem.W.tabObj #[])/\isCodeTable s₁.heap T/\K.lookup T=none)
  (F:∀ base:Heap,K.In base->base.Ns mainGlobals mg->(∀ b o,s₁.heap.get? b=some o->o.cls≠.none->o.cls≠.type "list"->base.get? b=some o)->zP P w K mg base CX0 k fa fd [x] sp) (hbind:∀ (s:Shared) (u:Value),BindsTo s fd ⟨[u],[]⟩ [(x,u)])
  (hsp:∀ H:Hp,(∀ T∈Ps,H T=some (.tbl #[]))->zeR K H a (ns.map V.int)->sp [.ref a] H (fun v _=>v=.bl true) fun _ _ _=>False) :
  codeAny (model P w) callerA (.call (.ref fa) ⟨[.ref a],[]⟩) (fun r s'=>r=.ok (.ret (.bool true))/\OldK s₁.heap s'.heap/\s'.os=s₁.os/\AllBare s'.gens) s₁:=by
 have rv:=zjn hi;have lenV:=hi.length
 have aP:a∉Ps:=fun m=>by
  have:=(hT a m).1;rw[ha]at this;cases this
 have core:∀ H0:Hp,(∀ b,H0 b≠none->b=a/\K.lookup a=none)->(∀ u,H0 a=some u->∃ o t,u=.frz o t)->zeR K H0 a (ns.map V.int)->HOk P w H0 s₁.heap ->
   codeAny (model P w) callerA (.call (.ref fa) ⟨[.ref a],[]⟩) (fun r s'=>r=.ok (.ret (.bool true))/\OldK s₁.heap s'.heap/\s'.os=s₁.os/\AllBare s'.gens) s₁:=by
  intro H0 hA hfz hS hok0;generalize hH:(fun b=>if b∈Ps then some (HO.tbl #[])else H0 b:Hp)=H;have hin:∀ b,b∈Ps->H b=some (.tbl #[]):=fun b m=>by rw[<- hH];exact if_pos m
  have hout:∀ b,b∉Ps->H b=H0 b:=fun b m=>by rw[<- hH];exact if_neg m
  have free:∀ {b:Addr} {o:Obj},s₁.heap.get? b=some o->o.cls≠.none->o.cls≠.type "list"->H b=none:=fun {b o} e c1 c2=>by
   by_cases m:b∈Ps
   ·rw[(hT b m).1]at e;cases e;exact absurd rfl c1
   ·rw[hout b m];cases q:H0 b with
    |none=>rfl
    |some u =>
     obtain⟨rfl,_⟩:=hA b (by rw[q];simp);rw[ha]at e;cases e;exact absurd rfl c2
  have noA:∀ {b:Addr} {o:Obj} {es:Array DictEntry} {ep:Nat},s₁.heap.get? b=some o->o.data=.dict es ep->H b=none:=fun {b o es ep} e d=>by
   by_cases m:b∈Ps
   ·rw[(hT b m).1]at e;cases e;cases d
   ·rw[hout b m];cases q:H0 b with
    |none=>rfl
    |some u =>
     obtain⟨rfl,_⟩:=hA b (by rw[q];simp);rw[ha]at e;cases e;cases d
  have nsK:∀ {b:Addr} {m:Str->Option Value},s₁.heap.Ns b m->(zgg s₁.heap H).Ns b m:=fun {b m} ⟨o,es,ep,e,d,r⟩=>⟨o,es,ep,zhA e (noA e d),d,r⟩
  have hKb:K.In (zgg s₁.heap H):=fun b o e=>zhA (KX b o e) (by
   by_cases m:b∈Ps
   ·rw[(hT b m).2.2]at e;cases e
   ·rw[hout b m];cases q:H0 b with
    |none=>rfl
    |some u =>
     obtain⟨rfl,z⟩:=hA b (by rw[q];simp);rw[z]at e;cases e)
  have hok:HOk P w H s₁.heap:=fun b u e=>by
   by_cases m:b∈Ps
   ·rw[hin b m]at e;cases e;exact(hT b m).1
   ·rw[hout b m]at e;have ok:=hok0 b u e;obtain⟨rfl,_⟩:=hA b (by rw[e];simp);obtain⟨o,t,rfl⟩:=hfz u e;refine ok.stay (fun d v _ q=>q) (fun d q=>?_) fun d xs q=>?_
    ·have md:d∉Ps:=fun m2=>by
      obtain⟨rfl,_⟩:=hA d (by rw[q];simp);exact aP m2
     rw[hout d md];exact q
    ·have md:d∉Ps:=fun m2=>by
      obtain⟨rfl,_⟩:=hA d (by rw[q];simp);exact aP m2
     rw[hout d md];exact q
  have hM:Mod K mg (zgg s₁.heap H):=⟨hKb,nsK hns,⟨mb,nsK hb,hbb⟩,let ⟨mc,h1,h2⟩:=hlim;⟨mc,nsK h1,h2⟩⟩
  have e0:zhM P w K mg (zgg s₁.heap H) callerA [] s₁ H:=⟨rfl,hM,fun b o e=>zsa e,Nat.le_of_eq (zoP _ _),trivial,fun b hb=>absurd (show b∈([]:List Addr)from hb) (by simp),hok,.of_eq hg⟩
  have hS':zeR K H a (ns.map V.int):=hS.imp (fun⟨o,q⟩=>⟨o,by rw[hout a aP];exact q⟩) id;refine codeAny_mono ((F _ hKb (nsK hns) fun b o e c1 c2=>zhA e (free e c1 c2)).run callerA [] s₁ H ⟨[.ref a],[]⟩ [.ref a] [.ref a] _ _ hr e0 (hbind s₁ (.ref a)) (.cons rfl .nil) (hsp H hin hS')) fun r s' h=>?_
  cases r with
  |error e=>exact False.elim h
  |ok fl =>
   cases fl with
   |next=>exact False.elim h
   |brk=>exact False.elim h
   |cont=>exact False.elim h
   |ret u =>
    obtain⟨v,H',os,bare,un,hok',r',q⟩:=h;have q':v=.bl true:=q;subst q';obtain rfl:u=Value.bool true:=r'
    have grown:∀ b o,b∈Ps->s₁.heap.get? b=some o->o=PySem.W.tabObj #[]/\∃ ps,s'.heap.get? b=some (PySem.W.tabObj ps):=fun b o m e=>by
     obtain⟨more,z⟩:=un.tbls b #[] (hin b m);rw[(hT b m).1]at e;cases e;exact⟨rfl,_,hok' b _ z⟩
    have keep:∀ b o,b∉Ps->s₁.heap.get? b=some o->s'.heap.get? b=some o:=fun b o m e=>by
     cases q:H b with
     |none=>exact un.keep b o e q (by intro z;exact absurd (show b∈([]:List Addr)from z) (by simp)) (by simp)
     |some u =>
      have q0:=q;rw[hout b m]at q0;obtain⟨rfl,_⟩:=hA b (by rw[q0];simp);obtain⟨ob,t,rfl⟩:=hfz u q0;obtain⟨e1,_⟩:=hok b _ q;obtain⟨e2,_⟩:=hok' b _ (un.frzs b ob _ q);rw[e]at e1;cases e1;exact e2
    refine⟨rfl,⟨fun b o e=>?_,fun b o e=>?_⟩,os,bare⟩
    ·by_cases m:b∈Ps
     ·obtain⟨rfl,ps,z⟩:=grown b o m e;exact .inr (.inl ⟨(hT b m).2.1,rfl,#[],ps,rfl,by rw[Array.empty_append];exact z⟩)
     ·exact .inl (keep b o m e)
    ·by_cases m:b∈Ps
     ·obtain⟨_,ps,z⟩:=grown b o m e;exact⟨_,z⟩
     ·exact⟨o,keep b o m e⟩
 cases hk:K.lookup a with
 |some o =>
  have e:=KX a o hk;rw[ha]at e;cases e;refine core (fun _=>none) (fun b z=>absurd rfl z) (fun u z=>by cases z) (.inr ⟨_,vs.toArray,_,hk,rfl,rfl,rfl,by rw[qm,lenV];exact hl,by simpa using rv⟩) (fun b u z=>by have z':(none:Option HO)=some u:=z;cases z')
 |none =>
  refine core (fun b=>if b=a then some (.frz { cls:=.type "list",data:=.seq vs.toArray } (.lst (ns.map V.int)))else none) (fun b z=>?_) (fun u z=>?_) (.inl ⟨{ cls:=.type "list",data:=.seq vs.toArray },if_pos rfl⟩) (fun b u z=>?_)
  ·by_cases hb:b=a
   ·exact⟨hb,hk⟩
   ·exact absurd (if_neg hb) z
  ·have z':=(if_pos rfl).symm.trans z;cases z';exact⟨_,_,rfl⟩
  ·by_cases hb:b=a
   ·have z':=(if_pos hb).symm.trans z;cases z';subst hb;exact⟨ha,by rw[qb];exact hl,vs,_,rv,ha⟩
   ·have z':=(if_neg hb).symm.trans z;cases z'
def zsd {K:PySem.W.Frag}{H:Hp}{a:Addr}{ns:List Int}{xs:List (Str×Nat×Nat)}{Ps:List Addr}(hl:ns.length<=63)(hg:∀ n∈ns,Hg n)(hP:zgs K (xs.map (·.1))=some Ps)(nd:Ps.Nodup)(hH:∀ T∈Ps,H T=some (.tbl #[]))(hS:zeR K H a (ns.map V.int)) :
  upF K (spT (zhr xs)) [.ref a] H (fun v _=>v=.bl true) fun _ _ _=>False:=by
 obtain⟨hlen,hat⟩:=ziY hP;refine⟨Ps,zhr xs,[.rl (ns.map D.int)],fun d _=>d=.bl true,@zE.mk ⟨Ps,H⟩ _ _ _ _ Wd.refl (by rw[hlen,qb,qb]) nd (fun n b c e1 e2=>?_),.cons (.rl hS (zy.mk_ints ns)) .nil,⟨ns,rfl,⟨rfl,hg⟩,hl,fun _=>rfl⟩,fun d S' v H' ad' q w st' r=>?_⟩
 ·rw[qk]at e2;cases q:xs[n]? with
  |none=>rw[q]at e2;cases e2
  |some t =>
   rw[q]at e2;cases e2;obtain⟨c,T,h1,h2⟩:=hat n t.1 (by rw[qk,q];rfl);rw[e1]at h2;cases h2;exact⟨#[],c,hH b (qf e1),h1,.inl rfl⟩
 ·have q':d=.bl true:=q;subst q';cases r;rfl
def zqU {l:PySem.W.OpenLaw}{k:Nat}{q:Program}{loose:List Str}{XP:(Str->Option Value)->Heap->Prop}{YP:World->Heap->Prop}{d:DefRec}{K:Params->PySem.W.Frag}{x:Str}{xs:List (Str×Nat×Nat)}
  (hn:l.most=some 63) (hdf:d.params.defaults=[]) (hr:zaf k callerA) (hY:∀ (w:World) (h:Heap),YP w h->(K w.params).In h)
  (hT:∀ w:World,okT (K w.params) (xs.map (·.1))=true) (hq:(xs.map (·.1)).all (fun x=>((recsOf q).find? fun e=>e.name==x).isSome)=true)
  (F:∀ (w:World) (mg:Str->Option Value) (fa:Addr) (h:Heap),(K w.params).In h->h.Ns mainGlobals mg->mg d.name=some (.ref fa) ->
   ∃ fd:FuncData,(∀ (s:Shared) (u:Value),BindsTo s fd ⟨[u],[]⟩ [(x,u)])/\∀ base:Heap,(K w.params).In base->base.Ns mainGlobals mg->TbB (K w.params) mg base (xs.map (·.1))->zP l.prog w (K w.params) mg base CX0 k fa fd [x] (upF (K w.params) (spT (zhr xs)))) :
  PySem.W.WalkO q loose XP YP l.row.toRowW d [] (fun f vs=>PySem.call f vs):=by
 intro w s₀ s₁ mg mb G Y fa o pm cd doc dV kV ho hd hcd hD hmg hg args vals as hpre hlay hrd hwl hlo;obtain rfl:dV=.none:=PySem.W.Dflts.none hD hdf;obtain rfl:kV=.none:=PySem.W.Dflts.noKw hD;obtain⟨a,vs,ns,rfl,rfl,hobj,hints,hlen⟩:=Att.zoJ hn hpre hwl
 have hbits:∀ m∈ns,Hg m:=fun m hm=>by
  have h1:PySem.W.WData.layable (.list (ns.map .int))=true:=by simpa [PySem.W.WData.layableAll]using hlay
  have h2:PySem.W.WData.weight (.list (ns.map PySem.W.WData.int))<=2 ^ 20:=by
   unfold PySem.W.WData.layable at h1;rw[qA,decide_eq_true_eq]at h1;exact h1.2
  have h3:=qR (zlo hm) (by simpa only[PySem.W.WData.weight]using h2);exact zr5 (by simpa only[PySem.W.WData.weight,Builtin.Int.intBits]using h3)
 have KX:=hY w _ Y;obtain⟨fd,hb,hF⟩:=F w mg fa _ KX G.T.g hmg;have ok:=hT w;unfold okT at ok;cases hP:zgs (K w.params) (xs.map (·.1))with
 |none=>rw[hP]at ok;cases ok
 |some Ps =>
 rw[hP]at ok;simp only[qA,decide_eq_true_eq,qag]at ok;obtain⟨hl1,hat⟩:=ziY hP
 have tab:∀ x∈xs.map (·.1),∃ c P,PySem.W.tabIn (K w.params) x=some (c,P)/\P∈Ps/\PySem.W.CodeHd s₁.heap c P/\s₁.heap.get? P=some (PySem.W.tabObj #[]):=fun x hx=>by
  obtain⟨i,hi⟩:=List.mem_iff_getElem?.mp hx;obtain⟨c,P,h1,h2⟩:=hat i x hi;have hf:=qag.mp hq x hx;obtain⟨dr,hdr⟩:=qaa.mp hf;have ht:=PySem.W.tab_of G.T KX hdr h1;exact⟨c,P,h1,qf h2,ht.1,ht.2⟩
 have tab':∀ T∈Ps,s₁.heap.get? T=some (PySem.W.tabObj #[])/\isCodeTable s₁.heap T/\(K w.params).lookup T=none:=fun T m=>by
  obtain⟨i,hi⟩:=List.mem_iff_getElem?.mp m;have hlt:i<(xs.map (·.1)).length:=by rw[<- hl1];exact My.zaO hi
  obtain⟨c,P,h1,h2⟩:=hat i _ (qc hlt);rw[hi]at h2;cases h2;obtain⟨c',P',g1,_,g2,g3⟩:=tab _ (List.getElem_mem hlt);rw[h1]at g1;cases g1;exact⟨g3,(g2.tab g3).isCodeTable,Option.isNone_iff_eq_none.mp (ok.2 T m)⟩
 refine PySem.W.enter_call (codeAny_mono (zpr KX G.T.g G.T.b G.T.builtins G.T.nolimit hg hobj hints (qR hlen (by decide)) hr tab' (fun base h1 h2 h3=>hF base h1 h2 ⟨fun x hx=>?_,?_⟩) hb (fun H hH hS=>zsd hlen hbits hP ok.1 hH hS)) fun r s' hq=>?_)
 ·obtain⟨c,P,e1,_,g2,_⟩:=tab x hx;obtain⟨o,vs,file,tf,flags,tg,inF,text,tt,ec,ecl,r⟩:=g2;exact⟨c,P,e1,o,vs,file,tf,flags,tg,inF,text,tt,h3 c o ec (by rw[ecl];intro z;cases z) (by rw[ecl];intro z;injection z with z;revert z;decide),ecl,r⟩
 ·obtain⟨bm,ob,b1,b2,b3,b4,b5,b6⟩:=G.T.bmain;exact⟨bm,ob,b1,b2,h3 bm ob b3 (by rw[b4];intro z;cases z) (by rw[b4];intro z;injection z with z;revert z;decide),b4,b5,b6⟩
 ·obtain⟨rfl,h2,h3,h4⟩:=hq;exact⟨.inl ⟨.bool true,.bool true,[],rfl,fun _=>rfl,.bool true,Att.zpn l _,fun _=>⟨List.Pairwise.nil,fun _ hm=>(nomatch hm)⟩⟩,h2,h3,h4⟩
end Dp
open PySem Dp
local macro_rules | `(tactic| walk_at"dat")=>`(tactic| first | assumption | exact zag | exact zgp | (refine(zbr _ _ _).trans ?_;exact rfl) | exact zX (by assumption))
local macro_rules | `(tactic| walk_at"l")=>`(tactic| first | assumption | exact Lst.rl | exact Lst.at0 | exact Lst.new | (refine Lst.at ?_;exact rfl) | exact Lst.old (by assumption) | exact Lst.here (by assumption) | exact Lst.here (zX (by assumption)))
local macro_rules | `(tactic| walk_at"dseq")=>`(tactic| first | exact Or.inl rfl | (refine Or.inr ?_;walk_at"l"))
local macro_rules | `(tactic| walk_at"d")=>`(tactic| first | assumption | exact My.Bd.mono (by assumption) (by decide) | exact My.Bd.lit (by decide) (by decide) | (refine My.Bd.add ?_ ?_<;>walk_at"d") | (refine My.Bd.sub ?_ ?_<;>walk_at"d") | (refine My.Bd.neg ?_;walk_at"d") | (refine My.Bd.mulH ?_ ?_<;>walk_at"d") | (refine My.Bd.emod (by lia) ?_;walk_at"d") | (refine My.Bd.ediv ?_;walk_at"d"))
local macro_rules | `(tactic| walk_at"dmul")=>`(tactic| first | assumption | exact Or.inr (Or.inl (by lia)) | exact Or.inr (Or.inr (by lia)) | exact Or.inl ⟨by walk_at"d",by walk_at"d"⟩)
local macro_rules | `(tactic| walk_at"ddiv")=>`(tactic| first | assumption | exact⟨by lia,by walk_at"d"⟩)
local macro_rules | `(tactic| walk_at"dr1")=>`(tactic| with_reducible first|refine zt3 ?_|refine zvw ?_)
local macro_rules | `(tactic| walk_at"dr1")=>`(tactic| with_reducible first|refine zt7 ?_|refine zvy ?_|refine zuY ?_|refine zxz ?_|refine zyo ?_|refine zuL ?_|refine zww ?_|refine zul ?_|refine zw9 ?_|refine zp0 ?_|refine zt2 ?_|refine ztq ?_)
local macro_rules | `(tactic| walk_at"dr1")=>`(tactic| first|((with_reducible refine zrG (xs:=?rvx) ?rvl ?_);(case rvl=>walk_at"l")))
local macro_rules | `(tactic| walk_at"dr1")=>`(tactic| with_reducible first|refine zrk ?_|refine zqj ?_|refine zv0 ?_|refine zwj ?_|refine zw6 ?_|refine zoT ?_|refine ztR ?_|refine zwB ?_|refine zwl ?_)
local macro_rules | `(tactic| walk_at"dr1")=>`(tactic| first|((with_reducible refine zuh (xs:=?rvx) ?rvl ?_);(case rvl=>walk_at"l"))|((with_reducible refine zxb (a:=?rvv) ?rvk ?_);(case rvk=>exact rfl))|((with_reducible refine zqv (xs:=?rvx) ?rvk ?rvl ?_);(case rvk=>walk_at"dat");(case rvl=>first | exact Nat.lt_of_ble_eq_true rfl | assumption | (simp only[big,qi,qJ,List.length_nil,qb]at *;lia))))
local macro_rules | `(tactic| walk_at"dr1")=>`(tactic| with_reducible first|refine ztJ ?_|refine zvj ?_|refine zw8 ?_|refine zw4 ?_|refine ztT ?_|refine ztK ?_|refine zrI ?_|refine zxH ?_|refine zut ?_|refine zuK ?_)
local macro_rules | `(tactic| walk_at"dr1")=>`(tactic| first|((with_reducible refine zvd ?rvk ?_);(case rvk=>exact rfl)))
local macro_rules | `(tactic| walk_at"dr1")=>`(tactic| with_reducible first|refine zvK ?_|refine zr8 ?_)
local macro_rules | `(tactic| walk_at"dr1")=>`(tactic| first|((with_reducible refine ziW (xs:=?rvx) ?rvl ?_);(case rvl=>walk_at"dat")))
local macro_rules | `(tactic| walk_at"dr1")=>`(tactic| with_reducible first|refine zjI ?_|refine ziM ?_|refine zh4 ?_)
local macro_rules | `(tactic| walk_at"dr1")=>`(tactic| first|((with_reducible refine zuo (xs:=?rvx) ?rvl ?_);(case rvl=>walk_at"l"))|((with_reducible refine zpG (xs:=?rvx) ?rvl ?_);(case rvl=>walk_at"l"))|((with_reducible refine zsB (xs:=?rvx) ?rvl ?_);(case rvl=>walk_at"l")))
local macro_rules | `(tactic| walk_at"dr1")=>`(tactic| with_reducible first|refine zt8 ?_)
local macro_rules | `(tactic| walk_at"dr1")=>`(tactic| with_reducible first|refine zwX ?_|refine zwq ?_|refine zxv ?_|refine zv3 ?_|refine zwa ?_|refine zgQ ?_|refine zxw ?_|refine ze6 ?_|refine zu9 ?_|refine zwG ?_|refine zvn ?_|refine zt0 ?_)
local macro_rules | `(tactic| walk_at"dr1")=>`(tactic| first|((with_reducible refine zw7 (ys:=?rvx) ?rvk ?_);(case rvk=>walk_at"dat")))
local macro_rules | `(tactic| walk_at"dr1")=>`(tactic| with_reducible first|refine r_b ?_|refine r_m ?_)
local macro_rules | `(tactic| walk_at"dr1")=>`(tactic| first|((with_reducible refine ztW (b:=?rvv) ?rvk ?_);(case rvk=>exact rfl)))
local macro_rules | `(tactic| walk_at"dr1")=>`(tactic| with_reducible first|refine zu0 ?_|refine zr2 ?_|refine zwI ?_)
local macro_rules | `(tactic| walk_at"dr1")=>`(tactic| first|((with_reducible refine zvW ?rvk ?_);(case rvk=>exact rfl)))
local macro_rules | `(tactic| walk_at"dr1")=>`(tactic| with_reducible first|refine zrO ?_|refine zxf ?_)
local macro_rules | `(tactic| walk_at"dr1")=>`(tactic| with_reducible first|refine r_t ?_|refine zxF ?_|refine zwm ?_|refine zv8 ?_|refine zxO ?_|refine zwW ?_|refine zuN ?_|refine zvb ?_|refine zwt ?_|refine zrW ?_|refine zxm ?_|refine zj6 ?_)
local macro_rules | `(tactic| walk_at"dr1")=>`(tactic| first|((with_reducible refine zxj ?rvk ?_);(case rvk=>walk_at"dmul"))|((with_reducible refine zwx ?rvk ?_);(case rvk=>walk_at"ddiv"))|((with_reducible refine zwv ?rvk ?_);(case rvk=>first | lia | assumption))|((with_reducible refine zwe (d:=?rvv) ?rvk ?_);(case rvk=>first | assumption | exact rfl))|((with_reducible refine zxq (xs:=?rvx) (d:=?rvv) ?rvl ?rvk ?_);(case rvl=>walk_at"l");(case rvk=>first | assumption | exact rfl)))
local macro_rules | `(tactic| walk_at"dr1")=>`(tactic| with_reducible first|refine zwK ?_)
local macro_rules | `(tactic| walk_at"dr1")=>`(tactic| with_reducible first|refine r_c ?_|refine zm1 ?_|refine zx5 ?_|refine zwT ?_|refine zwu ?_|refine zwo ?_|refine zxQ ?_|refine zyk ?_|refine zxY ?_|refine zyr ?_|refine zwn ?_|refine zvU ?_)
local macro_rules | `(tactic| walk_at"dr1")=>`(tactic| first|((with_reducible refine zfh (d:=?rvv) ?rvk ?_);(case rvk=>exact rfl)))
local macro_rules | `(tactic| walk_at"dr1")=>`(tactic| with_reducible first|refine zxZ ?_|refine zsT ?_)
local macro_rules | `(tactic| walk_at"dr1")=>`(tactic| first|((with_reducible refine zs0 (g:=?rv1) (b:=?rv2) (f:=?rv3) (h:=?rv4) (a:=?rv5) (l:=?rv6) (d:=?rv7) ?rvk ?_);(case rvk=>walk_at"dat"))|((with_reducible refine zvH (g:=?rv1) (b:=?rv2) (f:=?rv3) (h:=?rv4) (a:=?rv5) (l:=?rv6) (d:=?rv7) ?rvk ?_);(case rvk=>walk_at"dat"))|((with_reducible refine ztf (g:=?rv1) (b:=?rv2) (f:=?rv3) (h:=?rv4) (a:=?rv5) (l:=?rv6) (d:=?rv7) ?rvk ?_);(case rvk=>walk_at"dat")))
local macro_rules | `(tactic| walk_at"dr1")=>`(tactic| first|((with_reducible refine zwR (l:=?rvx) ?rvk ?_);(case rvk=>walk_at"dat"))|((with_reducible refine zqu (g:=?rv1) (b:=?rv2) (f:=?rv3) (h:=?rv4) (a:=?rv5) (l:=?rv6) (d:=?rv7) ?rvk ?_);(case rvk=>walk_at"dat"))|((with_reducible refine zod (g:=?rv1) (b:=?rv2) (f:=?rv3) (h:=?rv4) (a:=?rv5) (l:=?rv6) (d:=?rv7) ?rvk ?_);(case rvk=>walk_at"dat"))|((with_reducible refine zvp (g:=?rv1) (b:=?rv2) (f:=?rv3) (h:=?rv4) (a:=?rv5) (l:=?rv6) (d:=?rv7) ?rvk ?_);(case rvk=>walk_at"dat"))|((with_reducible refine zuI (g:=?rv1) (b:=?rv2) (f:=?rv3) (h:=?rv4) (a:=?rv5) (l:=?rv6) (d:=?rv7) ?rvk ?_);(case rvk=>walk_at"dat")))
local macro_rules | `(tactic| walk_at"dr1")=>`(tactic| with_reducible first|refine znD ?_|refine zvT ?_|refine zrH ?_|refine zr0 ?_|refine zxr ?_|refine zua ?_|refine zrx ?_|refine zu8 ?_|refine zxp ?_)
local macro_rules | `(tactic| walk_at"g")=>`(tactic| repeat walk_at"dr1")
local macro_rules | `(tactic| walk_at"h")=>`(tactic| simp only[zdb,qI,List.map_nil,qJ,List.length_nil,Nat.reduceSub,Nat.reduceAdd,List.replicate,List.cons_append,List.nil_append,List.set_cons_zero,List.set_cons_succ])
local macro_rules | `(tactic| walk_at"j")=>`(tactic| simp only[List.set_cons_zero,List.set_cons_succ])
namespace Dp
open PySem Rm My
abbrev zar:Cell:=.tab "lightings" 262 39
def zbR:DSp:=fun ds S Q=>∃ (ns:List Int) (k:Int),ds=[.rl (ns.map D.int),.int k]/\0<=k/\∀ v,Q (.int v) S
abbrev gn0:DG:=zaq 0
abbrev gn1:DG:=zaq 1
abbrev gn2:DG:=zaq 2
abbrev gn3:DG:=zaq 3
abbrev gn4:DG:=zaq 4
abbrev gn5:DG:=zaq 5
abbrev gn6:DG:=zaq 6
abbrev gn7:DG:=zaq 7
abbrev gn8:DG:=zaq 8
abbrev gn9:DG:=zaq 9
abbrev zqM:DG:=zaq 10
abbrev zuZ:DG:=zaq 11
abbrev zx0:DG:=zaq 12
abbrev zxG:DG:=zaq 13
abbrev vr0:DE:=zbH 0
abbrev vr1:DE:=zbH 1
abbrev vr2:DE:=zbH 2
abbrev vr3:DE:=zbH 3
abbrev vr4:DE:=zbH 4
abbrev vr5:DE:=zbH 5
abbrev vr6:DE:=zbH 6
abbrev vr7:DE:=zbH 7
abbrev vr8:DE:=zbH 8
abbrev vr9:DE:=zbH 9
abbrev zj3:DE:=zbH 10
abbrev zva:DE:=zbH 11
abbrev zpY:DE:=zbH 13
abbrev ci0:DE:=dC (.int 0)
abbrev ci1:DE:=dC (.int 1)
abbrev ci2:DE:=dC (.int 2)
abbrev ci3:DE:=dC (.int 3)
abbrev ci4:DE:=dC (.int 4)
abbrev ci5:DE:=dC (.int 5)
abbrev ci6:DE:=dC (.int 6)
abbrev ci7:DE:=dC (.int 7)
abbrev ci8:DE:=dC (.int 8)
abbrev ci9:DE:=dC (.int 9)
abbrev zbu:DE:=dOp oIx vr0 ci0
abbrev zcn:DE:=dOp oIx vr0 ci1
abbrev zig:DE:=dOp oIx vr0 ci2
abbrev zij:DE:=dOp oIx vr0 ci3
abbrev zjT:DE:=dOp oIx vr0 ci4
abbrev zrK:DE:=dOp oIx vr0 ci5
abbrev zw1:DE:=dOp oIx vr0 ci6
abbrev zxd:DE:=dOp oIx vr0 ci7
abbrev zdC:DE:=dOp oIx vr1 ci0
abbrev zeb:DE:=dOp oIx vr1 ci1
abbrev zfw:DE:=dOp oIx vr2 ci0
abbrev zeH:DE:=dOp oIx vr2 ci1
abbrev zwh:DE:=dOp oIx vr2 ci2
abbrev zxs:DE:=dOp oIx vr3 ci0
abbrev zw3:DE:=dOp oIx vr3 ci1
abbrev zxt:DE:=dOp oIx vr5 ci0
abbrev zxh:DE:=dOp oIx vr5 ci1
abbrev ua0:DA:=zf vr0 zF
abbrev ua1:DA:=zf vr1 zF
abbrev ua2:DA:=zf vr2 zF
abbrev ua3:DA:=zf vr3 zF
abbrev ua4:DA:=zf vr4 zF
abbrev ua5:DA:=zf vr5 zF
abbrev ua6:DA:=zf vr6 zF
abbrev ua7:DA:=zf vr7 zF
abbrev ua9:DA:=zf vr9 zF
abbrev zx1:DA:=zf zj3 zF
abbrev zyi:DA:=zf zva zF
abbrev zfH:DS :=
    (zB (sIf (dT (dOp oLt vr1 (dB zb6 ua0))) (zT (dOp oIx vr0 vr1)) zZ)
 (zT ci0))
def ziU:BodyOk 2 zfH zbR:=by
 rintro ds S Q ⟨ns,k,rfl,h0,q⟩;unfold zfH;walk_at"g";rw[qb];refine r_d (fun g=>?_) (fun g=>?_)
 ·obtain⟨v,_,av⟩:=zoi (zs:=ns) h0 (by lia);walk_at"g";exact fin_same (q _)
 ·walk_at"g";exact fin_same (q _)
def zuE {c k m g:Int}(h0:0<=k)(hk:k<3000)(m0:0<m)(hm:My.Bd 290 m)(hg:My.Bd 290 g):zaP (c%m+3) (g+2*k*k)/\zaP ((c%m+3)*(g+2*k*k)+6151*k) ((c%m+3)*(g+2*k*k)+6151*k):=by
 have h1:=Int.emod_nonneg c (show m≠0 by lia);have h2:=Int.emod_lt_of_pos c m0;have b0:My.Bd 290 (c%m):=hm.of_le (by lia);have b1:My.Bd 300 (c%m+3):=(b0.add (y:=3) (by show _<2 ^ 290;decide)).mono (by decide);have hk2:0<=2*k*k/\2*k*k<=18000000:=⟨Int.mul_nonneg (by lia) h0,Int.le_trans (Int.mul_le_mul (show 2*k<=6000 by lia) (show k<=3000 by lia) h0 (by decide)) (by decide)⟩
 have b2:My.Bd 300 (g+2*k*k):=(hg.add (y:=2*k*k) (My.Bd.mono (m:=30) (by show _<2 ^ 30;lia) (by decide))).mono (by decide);have b3:My.Bd 700 ((c%m+3)*(g+2*k*k)+6151*k):=(My.Bd.add (n:=600) (My.Bd.mul b1 b2) (My.Bd.mono (m:=30) (by show _<2 ^ 30;lia) (by decide))).mono (by decide);exact⟨.inl ⟨b1.mono (by decide),b2.mono (by decide)⟩,.inl ⟨b3.mono (by decide),b3.mono (by decide)⟩⟩
def zbT:DSp:=fun ds S Q=>∃ (c k:Int),ds=[.int c,.int k]/\0<=k/\k<3000/\∀ v,0<=v->True->Q (.int v) S
abbrev zhp:DS :=
    (zB (zJ (dOp zbj (dOp zao (dOp oMod vr0 (dC (.int 1000000000000000000000000000000000000000000000000000000000000))) ci3) (dOp zao (dC (.int 16180339887498948482045868343656381177203)) (dOp zbj (dOp zbj ci2 vr1) vr1))) gn2)
 (zB (zJ (dOp zao vr2 (dOp zbj (dC (.int 6151)) vr1)) gn2)
 (zT (dOp oMod (dOp zbj vr2 vr2) (dOp zao (dC (.int 1000000000000000000000000000000000000000000000000000000000000)) (dC (.int 33)))))))
def zlk:BodyOk 3 zhp zbT:=by
 rintro ds S Q ⟨c,k,rfl,h0,hk,q⟩;unfold zhp;obtain⟨cm1,cm2⟩:=zuE (c:=c) h0 hk (m:=1000000000000000000000000000000000000000000000000000000000000) (g:=16180339887498948482045868343656381177203) (by decide) (by show _<2 ^ 290;decide) (by show _<2 ^ 290;decide);walk_at"g";exact fin_same (q _ (Int.emod_nonneg _ (by decide)) True.intro)
def zcX:DSp:=fun ds S Q=>∃ (x:D) (ns:List Int) (most:Int),ds=[x,.int most]/\Lst S x (ns.map D.int)/\ns.length<=63/\1<=most/\most<=60/\∀ zs:List Int,(zs.length:Int)=most->(∀ z∈zs,0<=z/\True)->New Q S (zs.map D.int)
abbrev zhi:DS :=
    (zB (zJ (dLC 1 [] (zeL ua1) gn0 zbt (dCall zbT (zf vr0 (zf (dC (.int 40)) zF)))) gn2)
 (zB (zbp (zfp ua0) (zbh 2 (zV gn3 (zV gn4 zbk))) (zB (zJ (dOp oMod vr3 vr1) gn5)
 (zJ (dCall zbT (zf (dOp zao (dOp oIx vr2 vr5) (dOp oMod vr4 (dC (.int 1000000000000000000000000000000000000000000000000000000000000)))) (zf (dOp oMod vr3 (dC (.int 37))) zF))) (zgi vr2 vr5))))
 (zT vr2)))
def zk6:BodyOk 6 zhi zcX:=by
 rintro ds S Q ⟨x,ns,most,rfl,hx,hl,h1,h2,q⟩;unfold zhi;walk_at"g";refine⟨_,rfl,by lia,by lia,?_⟩;refine⟨by rw[zeU];unfold big;lia,fun i ys S'=>S'=S/\∃ zs:List Int,ys=zs.map D.int/\zs.length=i/\∀ z∈zs,0<=z/\True,⟨rfl,[],rfl,rfl,by simp⟩,fun _ _ _ _=>True.intro,?_,?_⟩
 ·rintro i d ys S' hd ⟨rfl,zs,rfl,hz,hb⟩;obtain⟨hi,rfl⟩:=zgD hd;walk_at"g";refine⟨_,_,rfl,by decide,by decide,fun v v0 v1=>?_⟩;refine⟨rfl,zs++[v],by rw[qH];rfl,by simp[hz],fun z hz'=>?_⟩;rcases qF.mp hz' with h|h
  ·exact hb z h
  ·have:z=v:=by simpa using h
   subst this;exact⟨v0,v1⟩
 rintro ys S' ⟨rfl,zs,rfl,hz,hb⟩;rw[zeU]at hz;have hz:(zs.length:Int)=most:=by lia
 walk_at"g";refine zk2 (xs:=ns.map D.int) hx.old ?_
 refine zaJ (fun i Z S''=>∃ (zs:List Int) (w1 w2 w3:Option D),Z=[some x,some (.int most),some (.ref S'.length),w1,w2,w3]/\S''=S'++[.lst (zs.map D.int)]/\(zs.length:Int)=most/\∀ z∈zs,0<=z/\True)
  ⟨zs,_,_,_,rfl,rfl,hz,hb⟩ (fun i Z S'' zq0=>by obtain⟨zs,w1,w2,w3,_,e,_⟩:=zq0;exact e▸hx.old) ?_ ?_
 ·rintro i d Z S'' hd ⟨zs,w1,w2,w3,rfl,rfl,hz,hb⟩;obtain⟨y,hy,rfl⟩:=zb0 hd;obtain⟨n,_,rfl⟩:=zdr hy;have m1:=Int.emod_nonneg ((0+i:Nat):Int) (show most≠0 by lia);have m2:=Int.emod_lt_of_pos ((0+i:Nat):Int) (show 0<most by lia);obtain⟨u,hu,au⟩:=zoi (zs:=zs) (k:=((0+i:Nat):Int)%most) m1 (by lia);have iu:=zuM (zs:=zs) (k:=((0+i:Nat):Int)%most) m1 (by lia);have k1:=Int.emod_nonneg ((0+i:Nat):Int) (show(37:Int)≠0 by decide);have k2:=Int.emod_lt_of_pos ((0+i:Nat):Int) (show(0:Int)<37 by decide);walk_at"g";refine⟨_,_,rfl,k1,by lia,fun v v0 v1=>?_⟩;walk_at"g";refine zh5 zag iu ?_;walk_at"g";refine⟨zs.set _ v,_,_,_,rfl,by rw[List.map_set],by simpa using hz,fun z hz'=>?_⟩;rcases zpB hz' with h|h
  ·exact hb z h
  ·subst h;exact⟨v0,v1⟩
 ·rintro Z S'' ⟨zs,w1,w2,w3,rfl,rfl,hz,hb⟩;walk_at"g";exact fin_same (q zs hz hb)
def hTl:List Str:=["","a","zz","beacon"]
def hNm (k t:Nat):Str:=⟨#[97+k]⟩++hTl.getD t ""
theorem zmm:∀ t,(∀ c∈(hTl.getD t "").cps.toList,c∈abc)/\(hTl.getD t "").length<=6
 |0=>by decide +kernel
 |1=>by decide +kernel
 |2=>by decide +kernel
 |3=>by decide +kernel
 |_+4=>by
  show(∀ c∈("":Str).cps.toList,c∈abc)/\("":Str).length<=6;decide +kernel
def zfD (k t:Nat):(hNm k t).cps.toList=(97+k)::(hTl.getD t "").cps.toList:=by
 show(#[97+k]++(hTl.getD t "").cps).toList=_;simp
def zt6 {k t:Nat}(h:k<26):nmB (hNm k t)=true:=by
 obtain⟨h1,h2⟩:=zmm t
 have e:(hNm k t).length=1+(hTl.getD t "").length:=by
  show(#[97+k]++(hTl.getD t "").cps).size=1+(hTl.getD t "").cps.size;simp
 rw[ziJ,e];refine⟨by lia,by lia,fun c hc=>?_⟩;rw[zfD]at hc;rcases qg.mp hc with hc|hc
 ·rw[hc];exact zlY.mpr (by lia)
 ·exact h1 c hc
def zrZ {k t k' t':Nat}(e:hNm k t=hNm k' t'):k=k':=by
 have h:(hNm k t).cps.toList=(hNm k' t').cps.toList:=congrArg (fun z:Str=>z.cps.toList) e;rw[zfD,zfD]at h;have:=(List.cons.inj h).1;lia
def zwb (i:Nat)(h:i<8):atS "abcdefgh" ((0+i:Nat):Int)=some (97+i):=by
  have:i=0\/i=1\/i=2\/i=3\/i=4\/i=5\/i=6\/i=7:=by lia
  rcases this with rfl|rfl|rfl|rfl|rfl|rfl|rfl|rfl<;>decide +kernel
def zvt {n:Int}:atD (hTl.map D.str) (n%4)=some (.str (hTl.getD (n%4).toNat "")):=by
  have:n%4=0\/n%4=1\/n%4=2\/n%4=3:=by lia
  rcases this with e|e|e|e<;>rw[e]<;>rfl
def ziL (bs:List (Str×(Int×Int))):Prop:=∀ (j:Nat) b,bs[j]?=some b->(∃ t,b.1=hNm j t)/\-6<=b.2.1/\b.2.1<=6/\0<=b.2.2/\b.2.2<=8
def ziL.nm {bs:List (Str×(Int×Int))}(h:ziL bs)(hl:bs.length<=8):∀ b∈bs,nmB b.1=true:=fun b hb=>by
 obtain⟨j,hj,ej⟩:=qab.mp hb;obtain⟨⟨t,e⟩,_⟩:=h j b (by rw[qc hj,ej]);rw[e];exact zt6 (by lia)
def ziL.nd {bs:List (Str×(Int×Int))}(h:ziL bs):(bs.map (·.1)).Nodup:=by
 refine qae.mpr fun i j hi hj hij e=>?_
 rw[qb]at hi hj;rw[List.getElem_map,List.getElem_map]at e;obtain⟨⟨t,e1⟩,_⟩:=h i _ (qc hi);obtain⟨⟨t',e2⟩,_⟩:=h j _ (qc hj);rw[e1,e2]at e;have:=zrZ e;lia
def zcm:DSp:=fun ds S Q=>∃ (u:D) (ns:List Int),ds=[u]/\Lst S u (ns.map D.int)/\ns.length<=8/\∀ (T:Sto) (bs:List (Str×(Int×Int))),bs.length=ns.length->ziL bs->Q (.ref S.length) (S++.lst (bs.map bcD)::T)
abbrev zfF:DS :=
    (zB (zJ (zbG zF) gn1)
 (zB (zbp (zfp ua0) (zbh 2 (zV gn2 (zV gn3 zbk))) (zB (zJ (dOp zao (dOp oIx (dC (.str "abcdefgh")) vr2) (dOp oIx (zbG (zf (dC (.str "")) (zf (dC (.str "a")) (zf (dC (.str "zz")) (zf (dC (.str "beacon")) zF))))) (dOp oMod vr3 ci4))) gn4)
 (zbb (dM zcR vr1 (zf (dTup (zf vr4 (zf (dOp zam (dOp oMod (dOp oDiv vr3 ci4) (dC (.int 13))) ci6) (zf (dOp oMod (dOp oDiv vr3 (dC (.int 60))) ci9) zF)))) zF)))))
 (zT vr1)))
def ziZ:BodyOk 5 zfF zcm:=by
 rintro ds S Q ⟨u,ns,rfl,hu,n8,q⟩;unfold zfF;have hu0:∀ T,Lst (S++T) u (ns.map D.int):=fun T=>hu.old
 have hu1:=hu0 [.lst []];walk_at"g";refine zk2 (xs:=ns.map D.int) hu1 ?_;refine zaJ (fun i Z S'=>∃ (bs:List (Str×(Int×Int))) (T:Sto) (w2 w3 w4:Option D),S'=S++Cell.lst (bs.map bcD)::T/\bs.length=i/\ziL bs/\Z=[some u,some (.ref S.length),w2,w3,w4]) ⟨[],[],_,_,_,rfl,rfl,fun j b h=>by simp at h,rfl⟩ (fun i Z S' zq1=>by obtain⟨_,_,_,_,_,e,_⟩:=zq1;exact e▸hu0 _) ?_ ?_
 ·rintro i d Z S' hd ⟨bs,T,w2,w3,w4,rfl,hl,hb,rfl⟩;obtain⟨y,hy,rfl⟩:=zb0 hd;obtain⟨n,hn,rfl⟩:=zdr hy;have li:=zad hn;walk_at"g";refine zwV (c:=97+i) (by decide +kernel) (zwb i (by lia)) ?_;have atl:atD [.str "",.str "a",.str "zz",.str "beacon"] (n%4)=some (.str (hTl.getD (n%4).toNat "")):=zvt;walk_at"g";have l6:=(zmm (n%4).toNat).2;refine zvi (by show 1+_<=big;unfold big;lia) ?_;rw[show(⟨#[97+i]⟩:Str)++hTl.getD (n%4).toNat ""=hNm i (n%4).toNat from rfl];have hlim:(bs.map bcD).length<big:=by rw[qb];unfold big;lia
  walk_at"g";refine⟨bs++[(hNm i (n%4).toNat,(n/4%13-6,n/60%9))],_,_,_,_,by rw[qH];rfl,by simp[hl],fun j b h=>?_,rfl⟩;rcases qX j bs.length with g|g
  ·rw[qu g]at h;exact hb j b h
  ·have lj:=zad h;rw[qi]at lj;have ej:j=bs.length:=by simp at lj;lia
   subst ej;rw[qj (qe _),Nat.sub_self]at h;have e:(hNm i (n%4).toNat,(n/4%13-6,n/60%9))=b:=by simpa using h
   rw[<- e];exact⟨⟨_,by rw[hl]⟩,by dsimp only;lia,by dsimp only;lia,by dsimp only;lia,by dsimp only;lia⟩
 rintro Z S' ⟨bs,T,w2,w3,w4,rfl,hl,hb,rfl⟩;rw[zbm,qb]at hl;walk_at"g";exact fin_same (q T bs hl hb)
def zdD:DSp:=fun ds S Q=>∃ (u:D) (ns:List Int) (a b:Int),ds=[u,.int a,.int b]/\Lst S u (ns.map D.int)/\ns.length<=12/\-100<=a/\a<=b/\b<=1000/\∀ fs:List Fg,fs.length<=ns.length->(∀ F∈fs,FgV F)->New Q S (fs.map fgD)
abbrev zh2:DS :=
    (zB (zJ (zbG zF) gn3)
 (zB (zbp (zaR vr0) gn4 (zB (zJ (dCall zbT (zf vr4 (zf (dC (.int 71)) zF))) gn5)
 (sIf (dT (dOp oGt (dOp oMod vr5 ci4) ci0)) (zB (zJ (dOp zam (dOp oMod (dOp oDiv vr5 ci4) (dC (.int 15))) ci8) gn6)
 (zB (zJ (dOp zam (dOp oMod (dOp oDiv vr5 (dC (.int 60))) (dC (.int 12))) ci2) gn7)
 (zB (zJ (dOp zao (dOp zam vr1 ci3) (dOp oMod (dOp oDiv vr5 (dC (.int 720))) (dOp zao (dOp zam vr2 vr1) ci6))) gn8)
 (zB (zJ (dOp zao vr8 (dOp oMod (dOp oDiv vr5 (dC (.int 1000000000000000))) (dC (.int 12)))) gn9)
 (zB (zJ (dOp zam (dOp oMod (dOp oDiv vr5 (dC (.int 100000000000000000000))) ci5) ci2) zqM)
 (zB (zJ (dOp zam (dOp oMod (dOp oDiv vr5 (dC (.int 10000000000000000000000000))) ci3) ci1) zuZ)
 (zbb (dM zcR vr3 (zf (dTup (zf vr6 (zf (dOp zao vr6 (dOp oMod (dOp oDiv vr5 (dC (.int 1000000000000000000000000000000))) ci5)) (zf vr7 (zf (dOp zao vr7 (dOp oMod (dOp oDiv vr5 (dC (.int 100000000000000000000000000000000000))) ci6)) (zf vr8 (zf vr9 (zf zj3 zyi)))))))) zF))))))))) zZ)))
 (zT vr3)))
def zlJ:BodyOk 12 zh2 zdD:=by
 rintro ds S Q ⟨u,ns,a,b,rfl,hu,n12,a0,ab,b1,q⟩;unfold zh2;have hu0:∀ T,Lst (S++T) u (ns.map D.int):=fun T=>hu.old
 have hu1:=hu0 [.lst []];walk_at"g";refine zaJ (fun i Z S'=>∃ (fs:List Fg) (w4 w5 w6 w7 w8 w9 w10 w11:Option D),S'=S++[Cell.lst (fs.map fgD)]/\fs.length<=i/\(∀ F∈fs,FgV F)/\Z=[some u,some (.int a),some (.int b),some (.ref S.length),w4,w5,w6,w7,w8,w9,w10,w11]) ⟨[],_,_,_,_,_,_,_,_,rfl,qe _,by simp,rfl⟩ (fun i Z S' zq2=>by obtain⟨_,_,_,_,_,_,_,_,_,e,_⟩:=zq2;exact e▸hu0 _) ?_ ?_
 ·rintro i d Z S' hd ⟨fs,w4,w5,w6,w7,w8,w9,w10,w11,rfl,hl,hf,rfl⟩;obtain⟨n,hn,rfl⟩:=zdr hd;have li:=zad hn;walk_at"g";refine⟨n,_,rfl,by decide,by decide,fun m m0 m1=>?_⟩;have hp:0<b-a+6:=by lia
  walk_at"g";refine r_d (fun _=>?_) (fun _=>?_)
  ·have r0:=Int.emod_nonneg (m/720) (show b-a+6≠0 by lia);have r1:=Int.emod_lt_of_pos (m/720) hp;have hlim:(fs.map fgD).length<big:=by rw[qb];unfold big;lia
   walk_at"g";have sm:∀ {v:Int} {k:Nat},20<=k->-10000<=v->v<=10000->Bd k v:=fun {v k} hk h1 h2=>(show Bd 20 v by show _<2 ^ 20;lia).mono hk
   refine⟨fs++[⟨m/4%15-8,m/4%15-8+m/1000000000000000000000000000000%5,m/60%12-2,m/60%12-2+m/100000000000000000000000000000000000%6,a-3+m/720%(b-a+6),a-3+m/720%(b-a+6)+m/1000000000000000%12,m/100000000000000000000%5-2,m/10000000000000000000000000%3-1⟩],_,_,_,_,_,_,_,_,by rw[qH];rfl,by simp;lia,fun F hF=>?_,rfl⟩;rcases qF.mp hF with h|h
   ·exact hf F h
   ·rw[List.mem_singleton.mp h];exact⟨⟨by dsimp only;lia,by dsimp only;lia,sm (by decide) (by dsimp only;lia) (by dsimp only;lia),sm (by decide) (by dsimp only;lia) (by dsimp only;lia),sm (by decide) (by dsimp only;lia) (by dsimp only;lia),sm (by decide) (by dsimp only;lia) (by dsimp only;lia),sm (by decide) (by dsimp only;lia) (by dsimp only;lia),sm (by decide) (by dsimp only;lia) (by dsimp only;lia)⟩,by dsimp only;lia,sm (by decide) (by dsimp only;lia) (by dsimp only;lia),sm (by decide) (by dsimp only;lia) (by dsimp only;lia)⟩
  ·walk_at"g";exact⟨fs,_,_,_,_,_,_,_,_,rfl,by lia,hf,rfl⟩
 rintro Z S' ⟨fs,w4,w5,w6,w7,w8,w9,w10,w11,rfl,hl,hf,rfl⟩;rw[qb]at hl;walk_at"g";exact fin_same (q fs hl hf)
def zk3 {h1 h2 t w z:Int}(b1:h1<=7)(b2:h2<=7)(t0:0<=t)(tw:t<=w)(hz:7<=z):h1*w+(h2-h1)*t<=z*w:=by
 have e:h1*w+(h2-h1)*t=h1*(w-t)+h2*t:=by grind
 have a1:=Int.mul_le_mul_of_nonneg_right b1 (show 0<=w-t by lia);have a2:=Int.mul_le_mul_of_nonneg_right b2 t0;have a3:=Int.mul_le_mul_of_nonneg_right hz (show 0<=w by lia);rw[e];lia
def grH (a b:Int):List (Int×Int):=[(-9,-3),(a,b),(9,-3)]
def zup {a b:Int}(a0:-5<=a)(a1:a<=5)(b0:-6<=b)(b1:b<=5):Grd (grH a b):=by
  have sm:∀ {v:Int} {k:Nat},20<=k->-100<=v->v<=100->Bd k v:=fun {v k} hk h1 h2=>(show Bd 20 v by show _<2 ^ 20;lia).mono hk
  refine⟨show 2<=3 by decide,show 3<=40 by decide,?_,fun c hc=>?_⟩
  . unfold grH;refine .cons (fun c hc=>?_) (.cons (fun c hc=>?_) (.cons (fun c hc=>by simp at hc) .nil))
    . have:c=(a,b)\/c=(9,-3):=by simpa using hc
      rcases this with rfl|rfl<;>dsimp only<;>lia
    . have:c=(9,-3):=by simpa using hc
      subst this;dsimp only;lia
  . have:c=(-9,-3)\/c=(a,b)\/c=(9,-3):=by simpa [grH]using hc
    rcases this with rfl|rfl|rfl<;>exact⟨sm (by decide) (by dsimp only;lia) (by dsimp only;lia),sm (by decide) (by dsimp only;lia) (by dsimp only;lia)⟩
def zr1 {a b x z:Int}(a0:-5<=a)(a1:a<=5)(b1:b<=5)(x0:-6<=x)(x1:x<=6)(hz:7<=z):zc0 (grH a b) (x,z):=by
 refine⟨⟨show -9*1<=x by lia,show x<=9*1 by lia⟩,fun p q e=>?_⟩;have e':(if x<=a*1 then some ((((-9:Int),(-3:Int)),(a,b)))else if x<=9*1 then some ((a,b),((9:Int),(-3:Int)))else none)=some (p,q):=e;split at e'
 ·rename_i h;cases e';unfold hvT hvB;rw[if_pos (by dsimp only;lia),if_pos (by dsimp only;lia)];have:=zk3 (h1:=-3) (h2:=b) (t:=x+9) (w:=a+9) (z:=z) (by decide) (by lia) (by lia) (by lia) hz;dsimp only;simp only[Int.mul_one];rw[show a - -9=a+9 by lia,show x - -9=x+9 by lia];exact this
 ·rename_i h;rw[if_pos (by lia)]at e';cases e';unfold hvT hvB;rw[if_pos (by dsimp only;lia),if_pos (by dsimp only;lia)];have:=zk3 (h1:=b) (h2:=-3) (t:=x-a) (w:=9-a) (z:=z) (by lia) (by decide) (by lia) (by lia) hz;dsimp only;simp only[Int.mul_one];exact this
def zrb (bs:List (Str×(Int×Int))):Prop:=∀ (j:Nat) b,bs[j]?=some b->∃ t,b.1=hNm j t
def zcZ:DSp:=fun ds S Q=>∃ (ns:List Int),ds=[.rl (ns.map D.int)]/\ns.length<=63/\∀ (T:Sto) (x y z:D) (V:Vl),za9 V->2<=V.bs.length->V.bs.length<=5->V.fs.length<=6->-5<=V.h0->V.h0<=5->V.h1<=V.h0+23->V.dl<=3->zrb V.bs->VlS (S++T) x y z V->Q (vlD x y z V) (S++T)
abbrev zgY:DS :=
    (zB (zJ (dOp oMod (dCall zbR (zf vr0 (zf ci0 zF))) (dC (.int 1000000000000000000000000000000))) gn1)
 (zB (zJ (dOp zao ci2 (dOp oMod vr1 ci4)) gn2)
 (zB (zJ (dCall zcX (zf (dSl zmX vr0 (some ci2) none) (zf ci6 zF))) gn3)
 (zB (zJ (dOp zam (dOp oMod (dOp oDiv vr1 ci4) (dC (.int 11))) ci5) gn4)
 (zB (zJ (dOp zao vr4 (dOp oMod (dOp oDiv vr1 (dC (.int 44))) (dC (.int 24)))) gn5)
 (zB (zJ (zbG (zf (dTup (zf (dUn zck ci9) (zf (dUn zck ci3) zF))) (zf (dTup (zf (dOp zam (dOp oMod (dOp oDiv vr1 (dC (.int 1000000))) (dC (.int 11))) ci5) (zf (dOp zam (dOp oMod (dOp oDiv vr1 (dC (.int 100000000))) (dC (.int 12))) ci6) zF))) (zf (dTup (zf ci9 (zf (dUn zck ci3) zF))) zF)))) gn6)
 (zB (zJ (dOp oIx (zbG (zf (dC .non) (zf (dOp zao ci9 (dOp oMod (dOp oDiv vr1 (dC (.int 10000000000))) (dC (.int 200)))) (zf (dC (.int 40)) zF)))) (dOp oMod (dOp oDiv vr1 (dC (.int 10000000000000))) ci3)) gn7)
 (zB (zJ (dLC 3 [] (zaR (dCall zcm (zf (dSl zmX vr3 none (some vr2)) zF))) (zbh 3 (zV gn0 (zV gn1 (zV gn2 zbk)))) zbt (dTup (zf vr0 (zf vr1 (zf (dOp zao vr2 ci7) zF))))) gn8)
 (zB (zJ (dCall zdD (zf vr3 (zf vr4 ua5))) gn9)
 (zT (dTup (zf vr6 (zf vr8 (zf vr9 (zf vr7 (zf vr4 (zf vr5 (zf (dOp oMod (dOp oDiv vr1 (dC (.int 1000000000000000))) ci4) zF))))))))))))))))))
def zk9:BodyOk 10 zgY zcZ:=by
  rintro ds S Q ⟨ns,rfl,hl,q⟩;unfold zgY;walk_at"g";refine⟨ns,0,rfl,by decide,fun c0=>?_⟩;have h0:=Int.emod_nonneg c0 (show(1000000000000000000000000000000:Int)≠0 by decide);have h1:=Int.emod_lt_of_pos c0 (show(0:Int)<1000000000000000000000000000000 by decide);walk_at"g";generalize c0%1000000000000000000000000000000=hd at h0 h1;rw[zmj];have cl:(cutD ns (some 2) none).length<=63:=qR (zrS _ _ _) (by unfold slD;dsimp only;split<;>lia);generalize cutD ns (some 2) none=cn at cl;refine⟨_,cn,6,rfl,Lst.at0,cl,by decide,by decide,fun zs hz hzb=>?_⟩;unfold New;have hz6:zs.length=6:=by lia
  obtain⟨hz',ahz,hzo⟩:∃ hz:Option Int,atD [.non,.int (9+hd/10000000000%200),.int 40] (hd/10000000000000%3)=some (za2 hz)/\∀ z,hz=some z->0<=z:=by
    have:hd/10000000000000%3=0\/hd/10000000000000%3=1\/hd/10000000000000%3=2:=by lia
    rcases this with e|e|e<;>rw[e]
    . exact⟨none,rfl,fun z h=>by cases h⟩
    . exact⟨some (9+hd/10000000000%200),rfl,fun z h=>by cases h;lia⟩
    . exact⟨some 40,rfl,fun z h=>by cases h;decide⟩
  walk_at"g";rw[zmj,zqD zs (by lia) (by lia)];have lb:(zs.take (2+hd%4).toNat).length=(2+hd%4).toNat:=by rw[qaf];lia
  generalize zs.take (2+hd%4).toNat=bn at lb;obtain⟨Sa,hSa⟩:∃ Sa:Sto,Sa=S++[Cell.lst (cn.map D.int)]:=⟨_,rfl⟩
  have ga:Grd (grH (hd/1000000%11-5) (hd/100000000%12-6)):=zup (by lia) (by lia) (by lia) (by lia);have gs:∀ x z:Int,-6<=x->x<=6->7<=z->zc0 (grH (hd/1000000%11-5) (hd/100000000%12-6)) (x,z):=fun x z h1 h2 h3=>zr1 (by lia) (by lia) (by lia) h1 h2 h3
  generalize hgr:grH (hd/1000000%11-5) (hd/100000000%12-6)=gr at ga gs;have egr:[D.tup [D.int (-9),D.int (-3)],D.tup [D.int (hd/1000000%11-5),D.int (hd/100000000%12-6)],D.tup [D.int 9,D.int (-3)]]=gr.map p2:=by rw[<- hgr];rfl
  rw[<- hSa,egr];refine⟨_,bn,rfl,Lst.at (k:=3) rfl,by lia,fun T1 bs lbs hbs=>?_⟩;obtain⟨Sb,hSb⟩:∃ Sb:Sto,Sb=Sa++[Cell.lst (zs.map D.int),.lst (gr.map p2),.lst [.non,.int (9+hd/10000000000%200),.int 40],.lst (bn.map D.int)]:=⟨_,rfl⟩
  have ks:∀ T,Lst (Sb++T) (.ref Sa.length) (zs.map D.int):=fun T=>hSb▸Lst.old Lst.at0
  have kg:∀ T,Lst (Sb++T) (.ref (Sa.length+1)) (gr.map p2):=fun T=>hSb▸Lst.old (Lst.at (k:=1) rfl)
  have xb:∃ T,Sb=S++T:=⟨_,by rw[hSb,hSa,qh]⟩
  rw[<- hSb];clear hSb hSa egr hgr ahz;generalize Sa.length=na at ks kg;walk_at"g";refine za4 (fun _=>true) (zhI fun b=>bcD (b.1,(b.2.1,b.2.2+7))) Lst.at0 (by rw[qb];unfold big;lia) (fun i d ys hd' hw=>?_) ?_
  . obtain⟨b,hb,rfl⟩:=zer hd';walk_at"g";exact zbL hd' hw rfl rfl
  rw[filter_true,zdp,show bs.map (fun b=>bcD (b.1,(b.2.1,b.2.2+7)))=(bs.map fun b=>(b.1,(b.2.1,b.2.2+7))).map bcD by rw[qT];rfl]
  have nm1:∀ b∈bs.map (fun b=>(b.1,(b.2.1,b.2.2+7))),nmB b.1=true/\-6<=b.2.1/\b.2.1<=6/\7<=b.2.2/\b.2.2<=15:=fun b hb=>by
    obtain⟨b',hb',rfl⟩:=qU.mp hb;obtain⟨j,hj,ej⟩:=qab.mp hb';obtain⟨_,k1,k2,k3,k4⟩:=hbs j b' (by rw[qc hj,ej]);exact⟨hbs.nm (by lia) b' hb',k1,k2,by dsimp only;lia,by dsimp only;lia⟩
  have nd1:((bs.map (fun b=>(b.1,(b.2.1,b.2.2+7)))).map (·.1)).Nodup:=by
    rw[qT];exact hbs.nd
  have hn1:zrb (bs.map fun b=>(b.1,(b.2.1,b.2.2+7))):=fun j b e=>by
    rw[qk]at e;cases eb:bs[j]? with
    |none=>rw[eb]at e;cases e
    |some b'=>rw[eb]at e;cases e;exact(hbs j b' eb).1
  have ln1:(bs.map (fun b=>(b.1,(b.2.1,b.2.2+7)))).length=(2+hd%4).toNat:=by rw[qb,lbs,lb]
  generalize bs.map (fun b=>(b.1,(b.2.1,b.2.2+7)))=b2 at nm1 nd1 ln1 hn1;unfold New;rw[qh];obtain⟨Sc,hSc⟩:∃ Sc:Sto,Sc=Sb++(Cell.lst (bs.map bcD)::T1):=⟨_,rfl⟩
  have ks2:∀ T,Lst (Sc++T) (.ref na) (zs.map D.int):=fun T=>hSc▸(ks _).old
  have kg2:∀ T,Lst (Sc++T) (.ref (na+1)) (gr.map p2):=fun T=>hSc▸(kg _).old
  have xc:∃ T,Sc=S++T:=zs6 xb hSc;rw[<- qh,<- hSc];clear hSc;walk_at"g";refine⟨_,zs,_,_,rfl,ks2 _,by lia,by lia,by lia,by lia,fun fs lf hf=>?_⟩;unfold New;walk_at"g";have sm:∀ {v:Int} {k:Nat},20<=k->-100<=v->v<=100->Bd k v:=fun {v k} hk h1 h2=>(show Bd 20 v by show _<2 ^ 20;lia).mono hk
  have e2:Sc++[Cell.lst (b2.map bcD)]++[.lst (fs.map fgD)]=Sc++[Cell.lst (b2.map bcD),.lst (fs.map fgD)]:=by simp
  have e3:(Sc++[Cell.lst (b2.map bcD)]).length=Sc.length+1:=by simp
  rw[e2,e3];have vs:VlS (Sc++[Cell.lst (b2.map bcD),.lst (fs.map fgD)]) (.ref (na+1)) (.ref Sc.length) (.ref (Sc.length+1)) ⟨gr,b2,fs,hz',hd/4%11-5,hd/4%11-5+hd/44%24,hd/1000000000000000%4⟩:=⟨kg2 _,Lst.at0,Lst.at (k:=1) rfl⟩
  have ok:za9 ⟨gr,b2,fs,hz',hd/4%11-5,hd/4%11-5+hd/44%24,hd/1000000000000000%4⟩:={ gr:=ga,b1:=(by show 1<=b2.length;lia),b12:=(by show b2.length<=12;lia),nm:=fun b hb=>(nm1 b hb).1,nd:=nd1,st:=fun b hb=>gs b.2.1 b.2.2 (nm1 b hb).2.1 (nm1 b hb).2.2.1 (nm1 b hb).2.2.2.1,bd:=fun b hb=>⟨sm (by decide) (by have:=(nm1 b hb).2;lia) (by have:=(nm1 b hb).2;lia),sm (by decide) (by have:=(nm1 b hb).2;lia) (by have:=(nm1 b hb).2;lia)⟩,f12:=(by show fs.length<=12;lia),fg:=hf,hz:=hzo,hh:=(by dsimp only;lia),b0:=sm (by decide) (by dsimp only;lia) (by dsimp only;lia),bl:=sm (by decide) (by dsimp only;lia) (by dsimp only;lia),dl:=(by dsimp only;lia) }
  obtain⟨Tc,rfl⟩:=xc;rw[qh]at vs ⊢;exact fin_same (q _ _ _ _ _ ok (by dsimp only;lia) (by dsimp only;lia) (by dsimp only;lia) (by dsimp only;lia) (by dsimp only;lia) (by dsimp only;lia) (by dsimp only;lia) hn1 vs)
def zba:DSp:=fun ds S Q=>∃ (x:D) (cs:List (Int×Int)),ds=[x]/\Lst S x (cs.map p2)/\Grd cs/\Q .non S
abbrev zcV:DS :=
    (zB (sIf (dOr (dT (dOp oLt (dB zb6 ua0) ci2)) (dT (dOp oGt (dB zb6 ua0) (dC (.int 40))))) zb9 zZ)
 (zbp (znK (zf ci1 (zf (dB zb6 ua0) zF))) gn1 (sIf (dT (dOp oLe (dOp oIx (dOp oIx vr0 vr1) ci0) (dOp oIx (dOp oIx vr0 (dOp zam vr1 ci1)) ci0))) zb9 zZ)))
def zeY:BodyOk 2 zcV zba:=by
 rintro ds S Q ⟨x,cs,rfl,hx,g,q⟩;unfold zcV;have g1:=g.two;have g2:=g.most;walk_at"g";rw[qb];refine r_d (fun z=>absurd z (by lia)) (fun _=>?_);walk_at"g";rw[qb];refine r_d (fun z=>absurd z (by lia)) (fun _=>?_);walk_at"g";rw[qb];refine⟨_,_,rfl,?_⟩;refine zaJ (fun i Z S'=>S'=S/\∃ w:Option D,Z=[some x,w]) ⟨rfl,none,rfl⟩ (fun _ _ _ _=>True.intro) ?_ ?_
 ·rintro i d Z S' hd ⟨rfl,w,rfl⟩;obtain⟨hi,rfl⟩:=zgD hd;obtain⟨a,ha,aa⟩:=zj1 (cs:=cs) (k:=1+(i:Int)) (by lia) (by lia);obtain⟨b,hb,ab⟩:=zj1 (cs:=cs) (k:=1+(i:Int)-1) (by lia) (by lia);have hlt:=zo9 g (show(1+(i:Int)-1).toNat<(1+(i:Int)).toNat by lia) hb ha;walk_at"g";refine r_d (fun z=>absurd z (by lia)) (fun _=>?_);walk_at"g";exact⟨rfl,_,rfl⟩
 ·rintro Z S' ⟨rfl,w,rfl⟩;exact fin_same q
def zdu:DSp:=fun ds S Q=>∃ (S0:Sto) (x:D) (cs:List (Int×Int)),ds=[.ref S0.length,x]/\S=S0++[.ins "Ground" []]/\Lst S0 x (cs.map p2)/\Grd cs/\Q .non (S0++[.ins "Ground" [("corners",.ref (S0.length+1))],.lst (cs.map p2)])
abbrev zcB:DS :=
    (zB (zbb (dCall zba ua1))
 (zdF "Ground" "corners" vr0 (dB ziE ua1)))
def zi3:BodyOk 2 zcB zdu:=by
 rintro ds S Q ⟨S0,x,cs,rfl,rfl,hx,g,q⟩;unfold zcB;have hx':Lst (S0++[.ins "Ground" []]) x (cs.map p2):=hx.old;walk_at"g";refine⟨x,cs,rfl,hx',g,?_⟩;walk_at"g";refine⟨S0.length,[],rfl,zag,by decide,?_⟩;rw[zcg];exact fin_same q
def zeJ:DSp:=znn "Ground" zdu
def zbc:DSp:=fun ds S Q=>∃ (x y:D) (xs ys:List D),ds=[x,y]/\Lst S x xs/\Lst S y ys/\1<=xs.length/\xs.length<=12/\ys.length<=12/\Q .non S
abbrev zcW:DS :=
    (zB (sIf (dOr (dT (dOp oLt (dB zb6 ua0) ci1)) (dT (dOp oGt (dB zb6 ua0) (dC (.int 12))))) zb9 zZ)
 (sIf (dT (dOp oGt (dB zb6 ua1) (dC (.int 12)))) zb9 zZ))
def zeX:BodyOk 2 zcW zbc:=by
 rintro ds S Q ⟨x,y,xs,ys,rfl,hx,hy,h1,h2,h3,q⟩;unfold zcW;walk_at"g";rw[decide_eq_false (show ¬ ((xs.length:Int)<1) by lia)];walk_at"g";rw[decide_eq_false (show ¬ ((12:Int)<xs.length) by lia)];walk_at"g";rw[decide_eq_false (show ¬ ((12:Int)<ys.length) by lia)];walk_at"g";exact fin_same q
def zea:DSp:=fun ds S Q=>∃ z:Str,ds=[.str z]/\z.length<=1000/\Q (.bl (nmB z)) S
abbrev zjg:DS :=
    (zB (sIf (dOr (dT (dOp oLt (dB zb6 ua0) ci1)) (dT (dOp oGt (dB zb6 ua0) ci8))) (zT (dC (.bl false))) zZ)
 (zT (dB zf9 (zf (dLC 1 [] (zaR vr0) gn0 zbt (dOp oIn vr0 (dC (.str "abcdefghijklmnopqrstuvwxyz")))) zF))))
def znd:BodyOk 1 zjg zea:=by
 rintro ds S Q ⟨z,rfl,hz,q⟩;unfold zjg;have hb:z.length<=big:=by unfold big;lia
 walk_at"g";refine zn2 hb ?_;walk_at"g";unfold nmB at q;refine r_d (fun h=>?_) (fun h=>?_)
 ·walk_at"g";rw[decide_eq_false (show ¬ 1<=z.length by lia)]at q;exact fin_same q
 rw[decide_eq_true (show 1<=z.length by lia)]at q;walk_at"g";refine zn2 hb ?_;walk_at"g";refine r_d (fun h=>?_) (fun h=>?_)
 ·walk_at"g";rw[decide_eq_false (show ¬ z.length<=8 by lia)]at q;exact fin_same q
 rw[decide_eq_true (show z.length<=8 by lia)]at q;walk_at"g";refine za4 (fun _=>true) (onC fun c=>decide (c∈abc)) True.intro (by rw[zoZ];exact hb) (fun i d ys hd hw=>?_) ?_
 ·obtain⟨c,_,rfl⟩:=zpa hd;walk_at"g";rw[zt4];exact zbL hd hw rfl rfl
 rw[filter_true,zpl];walk_at"g";refine zfS Lst.at0 rfl ?_;refine zaX rfl ?_;rw[List.all_map];exact q
def zbs:DSp:=fun ds S Q=>∃ (x:D) (zs:List Str),ds=[x]/\Lst S x (zs.map D.str)/\zs.length<=100/\(∀ z∈zs,nmB z=true)/\zs.Nodup/\Q .non S
abbrev zdN:DS :=
    (zB (sIf (zes (dT (dB zf9 (zf (dLC 1 [] (zaR vr0) gn0 zbt (dCall zea ua0)) zF)))) zb9 zZ)
 (sIf (dT (dOp oLt (dB zmJ ua0) (dB zb6 ua0))) zb9 zZ))
def zfP:BodyOk 1 zdN zbs:=by
 rintro ds S Q ⟨x,zs,rfl,hx,hl,hn,nd,q⟩;unfold zdN;walk_at"g";refine za4 (fun _=>true) (onS fun z=>.bl (nmB z)) hx (by rw[qb];unfold big;lia) (fun i d ys hd hw=>?_) ?_
 ·obtain⟨z,hz,rfl⟩:=zi4 hd;walk_at"g";refine⟨z,rfl,by have:=(ziJ.mp (hn z (qf hz))).2.1;lia,?_⟩;exact zbL hd hw rfl rfl
 rw[filter_true,zsD,show zs.map (fun z=>D.bl (nmB z))=(zs.map nmB).map D.bl by rw[qT];rfl];walk_at"g";refine zfS (b:=true) Lst.at0 (by rw[List.all_map,qag];exact hn) ?_;walk_at"g";refine zuA (zs:=zs) hx.old (by lia) ?_;rw[znG nd];have hx1:Lst (S++[Cell.lst ((zs.map nmB).map D.bl)]) x (zs.map D.str):=hx.old;walk_at"g";rw[qb,decide_eq_false (show ¬ ((zs.length:Int)<zs.length) by lia)];walk_at"g";exact zaX rfl q
def zdh:DSp:=fun ds S Q=>∃ (a b:Int×Int),ds=[p2 a,p2 b]/\zaP a.1 b.2/\zaP b.1 a.2/\Q (.bl (flt a b)) S
abbrev znR:DS :=
  (zT (dOp oLt (dOp zbj zbu zeb) (dOp zbj zdC zcn)))
def zsZ:BodyOk 2 znR zdh:=by
 rintro ds S Q ⟨a,b,rfl,c1,c2,q⟩;unfold znR;walk_at"g";exact fin_same q
def zeB:DSp:=fun ds S Q=>∃ (g:D) (cs:List (Int×Int)) (p:Int×Int),ds=[g,p2 p]/\GAt S g cs/\Grd cs/\Bd 1000 p.1/\Bd 1000 p.2/\Q (.bl (decide (ziO cs*p.2<=p.1)&&decide (p.1<=zhz cs*p.2))) S
abbrev zl1:DS :=
    (zB (zJ (dTup (zf (dOp oIx (dOp oIx (zaQ "corners" vr0) ci0) ci0) (zf ci1 zF))) gn2)
 (zB (zJ (dTup (zf (dOp oIx (dOp oIx (zaQ "corners" vr0) (dUn zck ci1)) ci0) (zf ci1 zF))) gn3)
 (zT (zgI (zgM (dCall zdh (zf vr1 ua2))) (zgM (dCall zdh (zf vr3 ua1)))))))
def zqS:BodyOk 4 zl1 zeB:=by
 rintro ds S Q ⟨g,cs,p,rfl,⟨n,l,rfl,hn,hl⟩,gr,b1,b2,q⟩;unfold zl1;have g1:=gr.two;obtain⟨a,ha,ea⟩:=zob gr;obtain⟨z,hz,ez⟩:=zp1 gr;have aa:atD (cs.map p2) 0=some (p2 a):=ze1 (i:=0) (by rw[qk,ha];rfl)
 have az:atD (cs.map p2) (-1)=some (p2 z):=by
  have hne:cs≠[]:=fun e=>by rw[e]at g1;simp at g1
  have en:cs=cs.dropLast++[z]:=by
   have h2:=List.dropLast_concat_getLast hne
   have h3:cs.getLast hne=z:=by
    rw[List.getLast_eq_getElem];have hl':=zad hz;rw[qc hl']at hz;cases hz;rfl
   rw[h3]at h2;exact h2.symm
  rw[en,qH];exact zhE
 obtain⟨ba,_⟩:=gr.bd a (qf ha);obtain⟨bz,_⟩:=gr.bd z (qf hz);rw[ea,ez]at q;have e1:flt p (a.1,1)=decide (p.1<a.1*p.2):=by unfold flt;dsimp only;rw[Int.mul_one]
 have e2:flt (z.1,1) p=decide (z.1*p.2<p.1):=by unfold flt;dsimp only;rw[Int.mul_one]
 have c1:zaP a.1 p.2:=.inl ⟨ba.mono (by decide),b2.mono (by decide)⟩;have c2:zaP z.1 p.2:=.inl ⟨bz.mono (by decide),b2.mono (by decide)⟩;have c3:∀ u:Int,zaP u 1:=fun u=>.inr (.inr (by decide))
 walk_at"g";refine⟨p,(a.1,1),rfl,c3 _,c1,?_⟩;rw[e1];walk_at"g";refine zlb (fun g=>?_) (fun g=>?_)
 ·walk_at"g";refine⟨(z.1,1),p,rfl,c2,c3 _,?_⟩;rw[e2];walk_at"g";rw[decide_eq_true (show a.1*p.2<=p.1 by lia),Bool.true_and]at q;rw[show(!decide (z.1*p.2<p.1))=decide (p.1<=z.1*p.2) by rw[<- decide_not];exact decide_eq_decide.mpr (by lia)];exact fin_same q
 ·rw[decide_eq_false (show ¬ a.1*p.2<=p.1 by lia),Bool.false_and]at q;exact fin_same q
def zbN:DSp:=fun ds S Q=>∃ (t b:Int),ds=[.int t,.int b]/\Q (.int ((Int.gcd t b:Nat):Int)) S
abbrev zek:DS :=
    (zB (zgo (dT (dOp oNe vr1 ci0)) (zB (zJ (dOp oMod vr0 vr1) gn2)
 (zB (zJ vr1 gn0)
 (zJ vr2 gn1))))
 (zT (dB zqa ua0)))
def zgU:BodyOk 3 zek zbN:=by
 rintro ds S Q ⟨t,b,rfl,q⟩;unfold zek;refine Dp.znD ?_;refine zqH (fun m Z S'=>S'=S/\∃ (x y:Int) (w:Option D),Z=[some (.int x),some (.int y),w]/\m=y.natAbs/\Int.gcd x y=Int.gcd t b) b.natAbs ⟨rfl,_,_,none,rfl,rfl,rfl⟩ ?_;rintro m Z S' ⟨rfl,x,y,w,rfl,rfl,e⟩;walk_at"g";refine zlb (fun h0=>?_) (fun h0=>?_)
 ·refine zoT ?_;refine Dp.znD ?_;refine Dp.zrx ?_;refine Dp.zm1 ?_;refine Dp.zfh rfl ?_;refine Dp.zfh rfl ?_;refine zue h0 ?_;walk_at"g";exact⟨_,zlI h0,rfl,_,_,_,rfl,rfl,(zro x y).trans e⟩
 ·subst h0;rw[Int.gcd_zero]at e;walk_at"g";rw[<- e]at q;exact fin_same q
def zdG:DSp:=fun ds S Q=>∃ (t b:Int),ds=[.int t,.int b]/\b≠0/\Bd 8000 b/\Q (p2 (frT t b,frB t b)) S
abbrev ziA:DS :=
    (zB (zJ (dCall zbN (zf vr0 ua1)) gn2)
 (zB (sJ (sIf (dT (dOp oLt vr1 ci0)) (zJ (dUn zck vr2) gn2) zZ))
 (zT (dTup (zf (dOp oDiv vr0 vr2) (zf (dOp oDiv vr1 vr2) zF))))))
def zlP:BodyOk 3 ziA zdG:=by
 rintro ds S Q ⟨t,b,rfl,hb,bb,q⟩;unfold ziA;have hgn:=zrJ (t:=t) (b:=b) hb;have hgb:=zv1 (t:=t) (b:=b) hb bb;walk_at"g";refine⟨t,b,rfl,?_⟩;walk_at"g";refine r_J (fun Z S'=>S'=S/\Z=[some (.int t),some (.int b),some (.int (gd t b))]) ?_ ?_
 ·walk_at"g";refine r_d (fun g=>?_) (fun g=>?_)
  ·have hg:gd t b=-((Int.gcd t b:Nat):Int):=if_pos g;walk_at"g";exact⟨rfl,by rw[hg];rfl⟩
  ·have hg:gd t b=((Int.gcd t b:Nat):Int):=if_neg g;walk_at"g";exact⟨rfl,by rw[hg];rfl⟩
 rintro Z S' ⟨rfl,rfl⟩;refine Dp.zrH ?_;refine Dp.zrO ?_;refine Dp.zj6 ?_;refine Dp.zm1 ?_;refine Dp.zfh rfl ?_;refine Dp.zfh rfl ?_;refine zpq ⟨hgn,hgb⟩ ?_;refine Dp.zj6 ?_;refine Dp.zm1 ?_;refine Dp.zfh rfl ?_;refine Dp.zfh rfl ?_;refine zpq ⟨hgn,hgb⟩ ?_;walk_at"g";exact fin_same q
def zdd:DSp:=fun ds S Q=>∃ (a b p:Int×Int),ds=[p2 a,p2 b,p2 p]/\b.1≠a.1/\0<p.2/\Bd 180 a.1/\Bd 200 a.2/\Bd 180 b.1/\Bd 200 b.2/\Bd 1000 p.1/\Bd 1000 p.2/\∀ c:Int×Int,Sv c (hvT a b p) (hvB a b p)->Int.gcd c.1 c.2=1->Bd 1400 c.1->Bd 1400 c.2->Q (p2 c) S
def zv4 {t b:Int}(hb:b≠0):Sv (frT t b,frB t b) (if 0<b then t else -t) (if 0<b then b else -b):=by
 have h1:=zrl t b;have h2:=zsU (t:=t) hb;refine⟨by show 0<frB t b;lia,?_⟩;show frT t b*_=_*frB t b;split
 ·rw[h1,Int.mul_comm]
 ·rw[Int.mul_neg,h1,Int.neg_mul,Int.mul_comm]
abbrev zho:DS :=
    (zB (zJ (dOp zam zdC zbu) gn3)
 (zB (zJ (dOp zam zeb zcn) gn4)
 (zB (zJ (dOp zao (dOp zbj (dOp zbj zcn vr3) zeH) (dOp zbj vr4 (dOp zam zfw (dOp zbj zbu zeH)))) gn5)
 (zT (dCall zdG (zf vr5 (zf (dOp zbj vr3 zeH) zF)))))))
def zj7:BodyOk 6 zho zdd:=by
 rintro ds S Q ⟨a,b,p,rfl,hne,hp,b1,b2,b3,b4,b5,b6,q⟩;unfold zho;have r1:Bd 181 (b.1-a.1):=Bd.sub b3 b1;have r2:Bd 201 (b.2-a.2):=Bd.sub b4 b2;have m1:Bd 381 (a.2*(b.1-a.1)):=Bd.mul b2 r1;have m2:Bd 1381 (a.2*(b.1-a.1)*p.2):=Bd.mul m1 b6;have m3:Bd 1180 (a.1*p.2):=Bd.mul b1 b6;have m4:Bd 1181 (p.1-a.1*p.2):=Bd.sub (b5.mono (by decide)) m3;have m5:Bd 1382 ((b.2-a.2)*(p.1-a.1*p.2)):=Bd.mul r2 m4;have m6:Bd 1181 ((b.1-a.1)*p.2):=Bd.mul r1 b6;have bT:Bd 1400 (a.2*(b.1-a.1)*p.2+(b.2-a.2)*(p.1-a.1*p.2)):=(Bd.add (n:=1382) (m2.mono (by decide)) m5).mono (by decide);have c1:zaP a.2 (b.1-a.1):=.inl ⟨b2.mono (by decide),r1.mono (by decide)⟩;have c2:zaP (a.2*(b.1-a.1)) p.2:=.inl ⟨m1.mono (by decide),b6.mono (by decide)⟩;have c3:zaP a.1 p.2:=.inl ⟨b1.mono (by decide),b6.mono (by decide)⟩;have c4:zaP (b.2-a.2) (p.1-a.1*p.2):=.inl ⟨r2.mono (by decide),m4.mono (by decide)⟩;have c5:zaP (b.1-a.1) p.2:=.inl ⟨r1.mono (by decide),b6.mono (by decide)⟩;walk_at"g";have hr:(b.1-a.1)*p.2≠0:=Int.mul_ne_zero (by lia) (by lia);refine⟨_,_,rfl,hr,m6.mono (by decide),?_⟩;refine fin_same (q _ ?_ (zuC hr) (zvq bT) ((zvC m6).mono (by decide)));have hs:=zv4 (t:=a.2*(b.1-a.1)*p.2+(b.2-a.2)*(p.1-a.1*p.2)) hr;unfold hvT hvB;by_cases g:0<b.1-a.1
 ·have:0<(b.1-a.1)*p.2:=Int.mul_pos g hp;rw[if_pos this,if_pos this]at hs;rw[if_pos g,if_pos g];exact hs
 ·have:¬ 0<(b.1-a.1)*p.2:=fun z=>by
   have:=Int.mul_pos (show 0 < -(b.1-a.1) by lia) hp;rw[Int.neg_mul]at this;lia
  rw[if_neg this,if_neg this]at hs;rw[if_neg g,if_neg g];exact hs
def zdc:zcv:=fun ds S Q ex=>∃ (g:D) (cs:List (Int×Int)) (p:Int×Int),ds=[g,p2 p]/\GAt S g cs/\Grd cs/\0<p.2/\Bd 1000 p.1/\Bd 1000 p.2/\(¬ OnG cs p->ex "OffGround" S)/\(OnG cs p->∀ a b c:Int×Int,zhD cs p=some (a,b)->Sv c (hvT a b p) (hvB a b p)->0<hvB a b p->Int.gcd c.1 c.2=1->Bd 1400 c.1->Bd 1400 c.2->Q (p2 c) S)
abbrev zhk (ex : XR) : DS :=
    (zB (sIf (zes (dT (dCall zeB (zf vr0 ua1)))) (zet ex "OffGround") zZ)
 (zB (zJ (zaQ "corners" vr0) gn2)
 (zB (zJ ci1 gn3)
 (zB (zgo (dT (dCall zdh (zf (dTup (zf (dOp oIx (dOp oIx vr2 vr3) ci0) (zf ci1 zF))) ua1))) (zpO 3 ci1))
 (zT (dCall zdd (zf (dOp oIx vr2 (dOp zam vr3 ci1)) (zf (dOp oIx vr2 vr3) ua1))))))))
def zk0:zbS 4 zhk zdc:=by
 rintro ds S Q ex ⟨g,cs,p,rfl,hg,gr,hp,b1,b2,hx,q⟩;unfold zhk;obtain⟨n,l,rfl,hn,hl⟩:=id hg;walk_at"g";refine⟨_,cs,p,rfl,hg,gr,b1,b2,?_⟩;by_cases on:OnG cs p
 case neg =>
  have e:(decide (ziO cs*p.2<=p.1)&&decide (p.1<=zhz cs*p.2))=false:=Bool.eq_false_iff.mpr fun z=>on (by rw[qA,decide_eq_true_eq,decide_eq_true_eq]at z;exact z)
  rw[e];walk_at"g";exact hx on
 have q:=q on;obtain⟨kk,a,b,ha,hb,hle,hlt⟩:=zoz gr.two on.2;have seg:=seg_at ha hb hle hlt;have hk:=zad hb;rw[decide_eq_true on.1,decide_eq_true on.2,show(true&&true)=true from rfl];walk_at"g";refine zqH (fun m Z S'=>S'=S/\∃ j:Nat,Z=[some (.ref n),some (p2 p),some (.ref l),some (.int ((j:Int)+1))]/\m=kk-j/\j<=kk) kk ⟨rfl,0,rfl,rfl,by lia⟩ ?_;rintro m Z S' ⟨rfl,j,rfl,rfl,hj⟩;obtain⟨c,hc,ac⟩:=zj1 (cs:=cs) (k:=(j:Int)+1) (by lia) (by lia);have hc':cs[j+1]?=some c:=by rwa[show((j:Int)+1).toNat=j+1 by lia]at hc
 obtain⟨bc,bc2⟩:=gr.bd c (qf hc);have e1:flt (c.1,1) p=decide (c.1*p.2<p.1):=by unfold flt;dsimp only;rw[Int.mul_one]
 walk_at"g";refine⟨(c.1,1),p,rfl,.inl ⟨bc.mono (by decide),b2.mono (by decide)⟩,.inr (.inr (show(1:Int).natAbs<2 ^ 64 by decide)),?_⟩;rw[e1];walk_at"g";refine r_d (fun h=>?_) (fun h=>?_)
 ·walk_at"g"
  have hjk:j<kk:=by
   rcases qX j kk with z|z
   ·exact z
   ·have:j=kk:=by lia
    subst this;rw[hb]at hc';cases hc';lia
  exact⟨kk-(j+1),by lia,rfl,j+1,by simp,rfl,by lia⟩
 ·have hjk:j=kk:=by
   rcases qX j kk with z|z
   ·have:=hlt (j+1) c (by lia) (by lia) hc';lia
   ·lia
  subst hjk;rw[hb]at hc';cases hc'
  have aa:atD (cs.map p2) ((j:Int)+1-1)=some (p2 a):=by
   rw[show(j:Int)+1-1=(j:Int) by lia];exact ze1 (by rw[qk,ha];rfl)
  obtain⟨ba1,ba2⟩:=gr.bd a (qf ha);have hab:=zo9 gr (show j<j+1 by lia) ha hb;walk_at"g";refine⟨a,b,p,rfl,by lia,hp,ba1.mono (by decide),ba2.mono (by decide),bc.mono (by decide),bc2.mono (by decide),b1,b2,fun c hs hg d1 d2=>?_⟩;exact fin_same (q a b c seg hs (zs4 (by lia) hp) hg d1 d2)
def zdM:DSp:=fun ds S Q=>∃ (g:D) (cs:List (Int×Int)) (s:Int×Int),ds=[g,p2 s]/\GAt S g cs/\Grd cs/\Bd 180 s.1/\Bd 200 s.2/\∀ b:Bool,(b=true↔zc0 cs s)->Q (.bl b) S
abbrev zlw:DS :=
    (zB (zJ (dTup (zf zdC (zf ci1 zF))) gn2)
 (zB (sIf (zes (dT (dCall zeB (zf vr0 ua2)))) (zT (dC (.bl false))) zZ)
 (zT (zgM (dCall zdh (zf (dTup (zf zeb (zf ci1 zF))) (zf (zbE zdc xF (zf vr0 ua2)) zF)))))))
def zn6:BodyOk 3 zlw zdM:=by
 rintro ds S Q ⟨g,cs,s,rfl,hg,gr,b1,b2,q⟩;unfold zlw;have bo:Bd 1000 (1:Int):=Bd.lit (by decide) (by decide);walk_at"g";refine⟨g,cs,(s.1,1),rfl,hg,gr,b1.mono (by decide),bo,?_⟩;by_cases on:OnG cs (s.1,1)
 case neg =>
  have e:(decide (ziO cs*(s.1,(1:Int)).2<=(s.1,(1:Int)).1)&&decide ((s.1,(1:Int)).1<=zhz cs*(s.1,(1:Int)).2))=false:=Bool.eq_false_iff.mpr fun z=>on (by rw[qA,decide_eq_true_eq,decide_eq_true_eq]at z;exact z)
  rw[e];walk_at"g";exact fin_same (q false ⟨fun z=>(by cases z),fun z=>absurd z.1 on⟩)
 rw[decide_eq_true on.1,decide_eq_true on.2,show(true&&true)=true from rfl];walk_at"g";refine⟨g,cs,(s.1,1),rfl,hg,gr,(show(0:Int)<1 by decide),b1.mono (by decide),bo,fun off=>absurd on off,fun _ a b c seg sv hb hgcd d1 d2=>?_⟩;walk_at"g";refine⟨(s.2,1),c,rfl,.inl ⟨b2.mono (by decide),d2.mono (by decide)⟩,.inr (.inr (show(1:Int).natAbs<2 ^ 64 by decide)),?_⟩;rw[zvA (t:=s.2) (b:=1) (by decide) hb ⟨(show(0:Int)<1 by decide),rfl⟩ sv];walk_at"g";refine fin_same (q _ ?_);rw[Bool.not_eq_true',decide_eq_false_iff_not];constructor
 ·intro h;refine⟨on,fun a' b' seg'=>?_⟩;rw[seg]at seg';cases seg';lia
 ·intro h;have:=h.2 a b seg;lia
def zbD:DSp:=fun ds S Q=>∃ (g y:D) (cs:List (Int×Int)) (bs:List (Str×(Int×Int))),ds=[g,y]/\GAt S g cs/\Grd cs/\Lst S y (bs.map bcD)/\bs.length<=100/\(∀ b∈bs,zc0 cs b.2/\Bd 180 b.2.1/\Bd 200 b.2.2)/\Q .non S
abbrev zd3:DS :=
  (sIf (zes (dT (dB zf9 (zf (dLC 3 [0] (zaR vr1) (zbh 3 (zV gn0 (zV gn1 (zV gn2 zbk)))) zbt (dCall zdM (zf vr3 (zf (dTup (zf vr1 ua2)) zF)))) zF)))) zb9 zZ)
def zfY:BodyOk 2 zd3 zbD:=by
 rintro ds S Q ⟨g,y,cs,bs,rfl,hg,gr,hy,hl,hb,q⟩;unfold zd3;walk_at"g";refine za4 (fun _=>true) (zhI fun _=>.bl true) hy (by rw[qb];unfold big;lia) (fun i d ys hd hw=>?_) ?_
 ·obtain⟨b,hbi,rfl⟩:=zer hd;obtain⟨s1,s2,s3⟩:=hb b (qf hbi);walk_at"g";refine⟨g,cs,b.2,rfl,hg,gr,s2,s3,fun r hr=>?_⟩;rw[hr.mpr s1];exact zbL hd hw rfl rfl
 rw[filter_true,zdp,show bs.map (fun _=>D.bl true)=(bs.map fun _=>true).map D.bl by rw[qT];rfl];walk_at"g";refine zfS (b:=true) Lst.at0 (by rw[List.all_map,qag];intro _ _;rfl) ?_;walk_at"g";exact zaX rfl q
def zdA:DSp:=fun ds S Q=>∃ i:Int,ds=[.int i]/\Q (.bl true) S
abbrev zik:DS :=
  (zT (zgI (dB zfu (zf vr0 (zf (dC (.ty "int")) zF))) (zgM (dB zfu (zf vr0 (zf (dC (.ty "bool")) zF))))))
def zlF:BodyOk 1 zik zdA:=by
 rintro ds S Q ⟨i,rfl,q⟩;unfold zik;walk_at"g";exact fin_same q
def zeG:DSp:=fun ds S Q=>∃ F:Fg,ds=[fgD F]/\F.x0<=F.x1/\F.z0<=F.z1/\F.f<=F.l/\Q (.bl true) S
abbrev zlg:DS :=
    (zB (sIf (dOr (zes (dT (dB zfu (zf vr0 (zf (dC (.ty "tuple")) zF))))) (dT (dOp oNe (dB zb6 ua0) ci8))) (zT (dC (.bl false))) zZ)
 (zB (sIf (zes (dT (dB zf9 (zf (dLC 1 [] (zaR vr0) gn0 zbt (dCall zdA ua0)) zF)))) (zT (dC (.bl false))) zZ)
 (zT (zgI (dOp oLe zbu zcn) (zgI (dOp oLe zig zij) (dOp oLe zjT zrK))))))
def zog:BodyOk 1 zlg zeG:=by
 rintro ds S Q ⟨F,rfl,h1,h2,h3,q⟩;unfold zlg;walk_at"g";rw[show(!decide ((([D.int F.x0,D.int F.x1,D.int F.z0,D.int F.z1,D.int F.f,D.int F.l,D.int F.g,D.int F.s]:List D).length:Int)=8))=false by rfl];walk_at"g";refine za4 (fun _=>true) (fun _=>.bl true) True.intro (by show 8<=big;unfold big;decide) (fun i d ys hd hw=>?_) ?_
 ·obtain⟨z,_,rfl⟩:=zdr (zs:=[F.x0,F.x1,F.z0,F.z1,F.f,F.l,F.g,F.s]) hd;walk_at"g";refine⟨z,rfl,?_⟩;exact zbL hd hw rfl rfl
 walk_at"g";refine zfS (bs:=List.replicate 8 true) (b:=true) Lst.at0 rfl ?_;walk_at"g";rw[decide_eq_true h1];walk_at"g";rw[decide_eq_true h2];walk_at"g";rw[decide_eq_true h3];exact zaX rfl q
def zuj {α:Type}(xs:List α)(f:α->D):(xs.map f).map (fun _=>D.bl true)=(xs.map fun _=>true).map D.bl:=by rw[qT,qT];rfl
def zbC:DSp:=fun ds S Q=>∃ (z:D) (fs:List Fg),ds=[z]/\Lst S z (fs.map fgD)/\fs.length<=100/\(∀ F∈fs,FgV F)/\Q .non S
abbrev zd6:DS :=
  (sIf (zes (dT (dB zf9 (zf (dLC 1 [] (zaR vr0) gn0 zbt (dCall zeG ua0)) zF)))) zb9 zZ)
def zf7:BodyOk 1 zd6 zbC:=by
 rintro ds S Q ⟨z,fs,rfl,hz,hl,hf,q⟩;unfold zd6;walk_at"g";refine za4 (fun _=>true) (fun _=>.bl true) hz (by rw[qb];unfold big;lia) (fun i d ys hd hw=>?_) ?_
 ·obtain⟨F,hF,rfl⟩:=zoj hd;have k:=hf F (qf hF);walk_at"g";refine⟨F,rfl,k.b.x,k.b.z,k.o,?_⟩;exact zbL hd hw rfl rfl
 rw[filter_true,zuj];walk_at"g";refine zfS (b:=true) Lst.at0 (by rw[List.all_map,qag];intro _ _;rfl) ?_;walk_at"g";exact zaX rfl q
def zbw:DSp:=fun ds S Q=>∃ (hz:Option Int) (a b d:Int),ds=[za2 hz,.int a,.int b,.int d]/\a<=b/\0<=d/\(∀ z,hz=some z->0<=z)/\Q .non S
abbrev zdV:DS :=
    (zB (sIf (dT (dOp oGt vr1 vr2)) zb9 zZ)
 (zB (sIf (dT (dOp oLt vr3 ci0)) zb9 zZ)
 (sIf (zdZ (dT (dOp zc8 vr0 (dC .non))) (dT (dOp oLt vr0 ci0))) zb9 zZ)))
def zfO:BodyOk 4 zdV zbw:=by
 rintro ds S Q ⟨hz,a,b,d,rfl,hab,hd,hh,q⟩;unfold zdV;walk_at"g";rw[decide_eq_false (show ¬ b<a by lia)];walk_at"g";rw[decide_eq_false (show ¬ d<0 by lia)];cases hz with
 |none =>
  walk_at"g";exact fin_same q
 |some z =>
  have:=hh z rfl;unfold za2;walk_at"g";rw[decide_eq_false (show ¬ z<0 by lia)];walk_at"g";exact fin_same q
def zdg:DSp:=fun ds S Q=>∃ (S0:Sto) (g y z:D) (V:Vl),ds=[.ref S0.length,g,y,z,za2 V.hz,.int V.h0,.int V.h1,.int V.dl]/\S=S0++[.ins "Valley" []]/\GAt S0 g V.cs/\Lst S0 y (V.bs.map bcD)/\Lst S0 z (V.fs.map fgD)/\za9 V/\∀ T,VAt (S0++T) (.ref S0.length) V->Q .non (S0++T)
abbrev zcC:DS :=
    (zB (zbb (dCall zbc (zf vr2 ua3)))
 (zB (zbb (dCall zbs (zf (dLC 1 [] (zaR vr2) gn0 zbt zbu) zF)))
 (zB (zbb (dCall zbD (zf vr1 ua2)))
 (zB (zbb (dCall zbC ua3))
 (zB (zbb (dCall zbw (zf vr4 (zf vr5 (zf vr6 ua7)))))
 (zB (zdF "Valley" "ground" vr0 (dCall zeJ (zf (zaQ "corners" vr1) zF)))
 (zB (zdF "Valley" "beacons" vr0 (dB ziE ua2))
 (zB (zdF "Valley" "fogs" vr0 (dB ziE ua3))
 (zB (zdF "Valley" "haze" vr0 vr4)
 (zB (zdF "Valley" "first" vr0 vr5)
 (zB (zdF "Valley" "last" vr0 vr6)
 (zdF "Valley" "delay" vr0 vr7))))))))))))
def zi6:BodyOk 8 zcC zdg:=by
 rintro ds S Q ⟨S0,g,y,z,V,rfl,rfl,hg,hy,hz,ok,q⟩;unfold zcC;obtain⟨Sa,hSa⟩:∃ Sa:Sto,Sa=S0++[.ins "Valley" []]:=⟨_,rfl⟩
 have hya:Lst Sa y (V.bs.map bcD):=hSa▸hy.old;have hza:Lst Sa z (V.fs.map fgD):=hSa▸hz.old;rw[<- hSa];walk_at"g";refine⟨y,z,_,_,rfl,hya,hza,by rw[qb];exact ok.b1,by rw[qb];exact ok.b12,by rw[qb];exact ok.f12,?_⟩;walk_at"g";have b12:=ok.b12;have f12:=ok.f12;refine za4 (fun _=>true) (zhI fun b=>.str b.1) hya (by rw[qb];unfold big;lia) (fun i d ys hd hw=>?_) ?_
 ·obtain⟨b,_,rfl⟩:=zer hd;walk_at"g";exact zbL hd hw rfl rfl
 rw[filter_true,zdp,show V.bs.map (fun b=>D.str b.1)=(V.bs.map (·.1)).map D.str by rw[qT];rfl,hSa];walk_at"g";refine⟨_,V.bs.map (·.1),rfl,Lst.at rfl,by rw[qb];lia,fun n hn=>?_,ok.nd,?_⟩
 ·obtain⟨b,hb,rfl⟩:=qU.mp hn;exact ok.nm b hb
 walk_at"g";generalize (V.bs.map (·.1)).map D.str=nms;refine⟨g,y,V.cs,V.bs,rfl,hg.old,ok.gr,hy.old,by lia,fun b hb=>⟨ok.st b hb,ok.bd b hb⟩,?_⟩;walk_at"g";refine⟨z,V.fs,rfl,hz.old,by lia,ok.fg,?_⟩;walk_at"g";refine⟨V.hz,_,_,_,rfl,ok.hh,ok.dl,ok.hz,?_⟩;obtain⟨gn,gl,rfl,hgn,hgl⟩:=hg;have hgn1:(S0++[.ins "Valley" [],.lst nms])[gn]?=some (.ins "Ground" [("corners",.ref gl)]):=zX hgn;walk_at"g";refine⟨_,_,V.cs,rfl,rfl,.inr ⟨gl,rfl,zX hgl⟩,ok.gr,⟨rfl,?_⟩⟩;rw[qh,show(S0++[Cell.ins "Valley" [],.lst nms]).length=S0.length+2 by simp,show([Cell.ins "Valley" [],.lst nms]:Sto)++[.ins "Ground" [("corners",.ref (S0.length+2+1))],.lst (V.cs.map p2)]=[.ins "Valley" [],.lst nms,.ins "Ground" [("corners",.ref (S0.length+3))],.lst (V.cs.map p2)]from rfl];walk_at"g";refine⟨S0.length,[],rfl,zag,by decide,?_⟩;rw[zcg,zqk];have hy2:∀ T,Lst (S0++T) y (V.bs.map bcD):=fun T=>hy.old
 have hz2:∀ T,Lst (S0++T) z (V.fs.map fgD):=fun T=>hz.old
 walk_at"g";refine⟨S0.length,_,rfl,zag,by simp,?_⟩;rw[zcg,vp2];walk_at"g";refine⟨S0.length,_,rfl,zag,by simp,?_⟩;rw[zcg,vp3];walk_at"g";refine⟨S0.length,_,rfl,zag,by simp,?_⟩;rw[zcg,vp4];walk_at"g";refine⟨S0.length,_,rfl,zag,by simp,?_⟩;rw[zcg,vp5];walk_at"g";refine⟨S0.length,_,rfl,zag,by simp,?_⟩;rw[zcg,vp6];walk_at"g";refine⟨S0.length,_,rfl,zag,by simp,?_⟩;rw[zcg,vp7];refine fin_same (q _ ⟨S0.length,_,_,_,rfl,zag,⟨_,_,rfl,(zbr _ _ 2).trans rfl,(zbr _ _ 3).trans rfl⟩,(zbr _ _ 4).trans rfl,(zbr _ _ 5).trans rfl⟩)
def zf3:DSp:=znn "Valley" zdg
def zcA:DSp:=fun ds S Q=>∃ (x y z:D) (V:Vl),ds=[vlD x y z V]/\VlS S x y z V/\za9 V/\∀ (T:Sto) (v:D),VAt (S++T) v V->Q v (S++T)
abbrev zf4:DS :=
    (zB (zJ vr0 (zbh 7 (zV gn1 (zV gn2 (zV gn3 (zV gn4 (zV gn5 (zV gn6 (zV gn7 zbk)))))))))
 (zT (dCall zf3 (zf (dCall zeJ ua1) (zf vr2 (zf vr3 (zf vr4 (zf vr5 (zf vr6 ua7)))))))))
def zjL:BodyOk 8 zf4 zcA:=by
 rintro ds S Q ⟨x,y,z,V,rfl,hs,ok,q⟩;unfold zf4;obtain⟨kx,ky,kz⟩:=hs;walk_at"g";refine⟨S,_,V.cs,rfl,rfl,kx,ok.gr,⟨rfl,?_⟩⟩;obtain⟨Sb,hSb⟩:∃ Sb:Sto,Sb=S++[.ins "Ground" [("corners",.ref (S.length+1))],.lst (V.cs.map p2)]:=⟨_,rfl⟩
 have hg:GAt Sb (.ref S.length) V.cs:=hSb▸⟨_,_,rfl,zag,(zbr _ _ 1).trans rfl⟩;have e1:∃ T,Sb=S++T:=⟨_,hSb⟩
 have ky1:Lst Sb y (V.bs.map bcD):=by obtain⟨T,rfl⟩:=e1;exact ky.old
 have kz1:Lst Sb z (V.fs.map fgD):=by obtain⟨T,rfl⟩:=e1;exact kz.old
 rw[<- hSb];clear hSb;walk_at"g";refine⟨Sb,_,_,_,V,rfl,rfl,hg,ky1,kz1,ok,fun T hv=>⟨rfl,?_⟩⟩;obtain⟨T1,rfl⟩:=e1;refine fin_same ?_;rw[qh]at hv ⊢;exact q _ _ hv
def zcT:zcv:=fun ds S Q ex=>∃ (v:D) (V:Vl) (n:Str),ds=[v,.str n]/\VAt S v V/\za9 V/\fl 20 (.str n)=true/\((∀ b∈V.bs,b.1≠n)->ex "NoBeacon" S)/\∀ s,(n,s)∈V.bs->Q (p2 s) S
abbrev zjs (ex : XR) : DS :=
    (zB (zbp (zaR (zaQ "beacons" vr0)) gn2 (sIf (dT (dOp oEq zfw vr1)) (zT (dTup (zf zeH (zf zwh zF)))) zZ))
 (zet ex "NoBeacon"))
def znJ:zbS 3 zjs zcT:=by
 rintro ds S Q ex ⟨v,V,n,rfl,hv,ok,hn,hx,q⟩;unfold zjs;obtain⟨m,g,b',f,rfl,hm,hg,hb,_⟩:=hv;walk_at"g";refine zaJ (fun i Z S'=>S'=S/\(∃ w,Z=[some (.ref m),some (.str n),w])/\∀ b∈V.bs.take i,b.1≠n) ⟨rfl,⟨none,rfl⟩,by simp⟩ (fun i Z S' h=>h.1▸Lst.here hb) ?_ ?_
 ·rintro i d Z S' hd ⟨rfl,⟨w,rfl⟩,hno⟩;obtain⟨b,hbi,rfl⟩:=zer hd;have mb:=qf hbi;walk_at"g";refine zof (zeW (ok.nm b mb) 20) hn ?_;walk_at"g";refine r_d (fun h=>?_) (fun h=>?_)
  ·walk_at"g";exact fin_same (q b.2 (by rw[<- h];exact mb))
  ·walk_at"g";refine⟨rfl,⟨_,rfl⟩,fun c hc=>?_⟩;rw[zaK hbi]at hc;rcases qF.mp hc with hc|hc
   ·exact hno c hc
   ·have:c=b:=by simpa using hc
    subst this;exact h
 ·rintro Z S' ⟨rfl,⟨w,rfl⟩,hno⟩;rw[qb,List.take_length]at hno;walk_at"g";exact hx hno
def zaI:zcv:=fun ds S Q ex=>∃ (g:D) (cs:List (Int×Int)) (s:Int×Int),ds=[g,p2 s]/\GAt S g cs/\Grd cs/\Bd 180 s.1/\Bd 200 s.2/\(¬ zc0 cs s->ex "OffGround" S)/\(zc0 cs s->Q .non S)
abbrev zcH (ex:XR):DS :=
  (sIf (zes (dT (dCall zdM (zf vr0 ua1)))) (zet ex "OffGround") zZ)
def zeQ:zbS 2 zcH zaI:=by
 rintro ds S Q ex ⟨g,cs,s,rfl,hg,gr,b1,b2,hx,q⟩;unfold zcH;walk_at"g";refine⟨g,cs,s,rfl,hg,gr,b1,b2,fun b hb=>?_⟩;cases b with
 | true=>walk_at"g";exact fin_same (q (hb.mp rfl))
 | false=>walk_at"g";exact hx fun z=>(by have:=hb.mpr z;cases this)
def zbA:DSp:=fun ds S Q=>∃ (g:D) (cs:List (Int×Int)) (x y:Int),ds=[g,.int x,.int y]/\GAt S g cs/\cs.length<=40/\New Q S ((nbK cs x y cs.length).map D.int)
abbrev zd7:DS :=
    (zB (zJ (dB zfr (zf vr1 ua2)) gn3)
 (zB (zJ (dB zdE (zf vr1 ua2)) gn4)
 (zT (dLC 2 [3,4] (zfp (zf (zaQ "corners" vr0) zF)) (zbh 2 (zV gn0 (zV gn1 zbk))) (dT (zh9 oLt oLt vr2 zdC vr3)) vr0))))
def zgm:BodyOk 5 zd7 zbA:=by
 rintro ds S Q ⟨g,cs,x,y,rfl,⟨n,l,rfl,hn,hl⟩,h40,q⟩;unfold zd7;walk_at"g";refine zk2 (xs:=cs.map p2) (Lst.here hl) ?_;refine⟨by rw[zbm,qb];unfold big;lia,fun i ys S'=>S'=S/\ys=(nbK cs x y i).map D.int,⟨rfl,rfl⟩,fun i ys S' zq3=>by obtain⟨e,_⟩:=zq3;exact e▸Lst.here hl,?_,?_⟩
 ·rintro i d ys S' hd ⟨rfl,rfl⟩;obtain⟨u,hu,rfl⟩:=zb0 hd;obtain⟨c,hc,rfl⟩:=zc1 hu;have e0:((0+i:Nat):Int)=(i:Int):=by lia
  have eg:cs.getD i (0,0)=c:=by rw[qw,hc];rfl
  rw[e0];walk_at"g";refine r_d (fun g1=>?_) (fun g1=>?_)
  ·walk_at"g";refine r_d (fun g2=>?_) (fun g2=>?_)
   ·walk_at"g";exact⟨rfl,(zxy (by unfold nbP;rw[eg,decide_eq_true g1,decide_eq_true g2];rfl)).symm⟩
   ·walk_at"g";exact⟨rfl,by rw[zrP (by unfold nbP;rw[eg,decide_eq_false g2,Bool.and_false])]⟩
  ·walk_at"g";exact⟨rfl,by rw[zrP (by unfold nbP;rw[eg,decide_eq_false g1,Bool.false_and])]⟩
 ·rintro ys S' ⟨rfl,rfl⟩;rw[zbm,qb];exact fin_same q
def zd8:DSp:=fun ds S Q=>∃ (a b c:Int×Int),ds=[p2 a,p2 b,p2 c]/\zaP (c.2-a.2) (b.1-a.1)/\zaP (c.1-a.1) (b.2-a.2)/\Q (.int (sdI a b c)) S
abbrev zjD:DS :=
    (zB (zJ (dOp zam zdC zbu) gn3)
 (zB (zJ (dOp zam zeb zcn) gn4)
 (zB (zJ (dOp zam (dOp zbj (dOp zam zeH zcn) vr3) (dOp zbj (dOp zam zfw zbu) vr4)) gn5)
 (zB (sJ (sIf (dT (dOp oLt vr3 ci0)) (zJ (dUn zck vr5) gn5) zZ))
 (zB (sIf (dT (dOp oGt vr5 ci0)) (zT ci1) zZ)
 (zB (sIf (dT (dOp oLt vr5 ci0)) (zT (dUn zck ci1)) zZ)
 (zT ci0)))))))
def znx:BodyOk 6 zjD zd8:=by
 rintro ds S Q ⟨a,b,c,rfl,c1,c2,q⟩;unfold zjD;walk_at"g";unfold sdI at q
 have key:∀ o:Int,o=(if b.1-a.1<0 then -sdO a b c else sdO a b c)->(if 0<o then Q (.int 1) S else if o<0 then Q (.int (-1)) S else Q (.int 0) S):=fun o e=>by
  rw[<- e]at q;by_cases h:0<o
  ·rw[if_pos h]at q ⊢;exact q
  ·rw[if_neg h]at q ⊢;by_cases h2:o<0
   ·rw[if_pos h2]at q ⊢;exact q
   ·rw[if_neg h2]at q ⊢;exact q
 refine r_J (fun Z S'=>S'=S/\Z=[some (p2 a),some (p2 b),some (p2 c),some (.int (b.1-a.1)),some (.int (b.2-a.2)),some (.int (if b.1-a.1<0 then -sdO a b c else sdO a b c))]) ?_ ?_
 ·walk_at"g";refine r_d (fun g=>?_) (fun g=>?_)
  ·walk_at"g";exact⟨rfl,by rw[if_pos g];rfl⟩
  ·walk_at"g";exact⟨rfl,by rw[if_neg g];rfl⟩
 rintro Z S' ⟨rfl,rfl⟩;have k:=key _ rfl;generalize (if b.1-a.1<0 then -sdO a b c else sdO a b c)=o at k;walk_at"g";refine r_d (fun g=>?_) (fun g=>?_)
 ·rw[if_pos g]at k;walk_at"g";exact fin_same k
 ·rw[if_neg g]at k;walk_at"g";refine r_d (fun g2=>?_) (fun g2=>?_)
  ·rw[if_pos g2]at k;walk_at"g";exact fin_same k
  ·rw[if_neg g2]at k;walk_at"g";exact fin_same k
def zeE:zcv:=fun ds S Q ex=>∃ (g:D) (cs:List (Int×Int)) (a b:Int×Int),ds=[g,p2 a,p2 b]/\GAt S g cs/\Grd cs/\(Bd 180 a.1/\Bd 200 a.2)/\(Bd 180 b.1/\Bd 200 b.2)/\(¬ (zc0 cs a/\zc0 cs b)->ex "OffGround" S)/\(zc0 cs a->zc0 cs b->Q (za2 (ziR cs a b)) S)
abbrev zku (ex : XR) : DS :=
    (zB (zbb (zbE zaI ex (zf vr0 ua1)))
 (zB (zbb (zbE zaI ex (zf vr0 ua2)))
 (zB (zbp (zaR (dCall zbA (zf vr0 (zf zdC (zf zfw zF))))) gn3 (sIf (dT (dOp oGt (dCall zd8 (zf vr1 (zf vr2 (zf (dOp oIx (zaQ "corners" vr0) vr3) zF)))) ci0)) (zT vr3) zZ))
 (zT (dC .non)))))
def zn9:zbS 4 zku zeE:=by
 rintro ds S Q ex ⟨g,cs,a,b,rfl,hg,gr,ba,bb,hx,q⟩;unfold zku;walk_at"g";refine⟨g,cs,a,rfl,hg,gr,ba.1,ba.2,fun z=>hx fun y=>z y.1,fun za=>?_⟩;walk_at"g";refine⟨g,cs,b,rfl,hg,gr,bb.1,bb.2,fun z=>hx fun y=>z y.2,fun zb=>?_⟩;have sa:=Std.of ba.1 ba.2 za;have sb:=Std.of bb.1 bb.2 zb;have q:=q za zb;walk_at"g";refine⟨g,cs,_,_,rfl,hg,gr.most,?_⟩;have kl:∀ k∈nbK cs a.1 b.1 cs.length,0<=k/\k<cs.length:=fun k hk=>zuu hk
 unfold ziR at q;generalize nbK cs a.1 b.1 cs.length=ks at q kl;unfold New;walk_at"g";refine zaJ (fun i Z S'=>∃ w1,Z=[some g,some (p2 a),some (p2 b),w1]/\S'=S++[.lst (ks.map D.int)]/\∀ x∈ks.take i,znc cs a b x=false) ⟨none,rfl,rfl,by simp⟩ (fun i Z S' zq4=>by obtain⟨w1,_,e,_⟩:=zq4;exact e▸Lst.at0) ?_ ?_
 ·rintro i d Z S' hd ⟨w1,rfl,rfl,hn⟩;obtain⟨k,hk,rfl⟩:=zdr hd;obtain⟨k0,k1⟩:=kl k (qf hk);obtain⟨c,hc,ac⟩:=zj1 (cs:=cs) k0 k1;have eg:cs.getD k.toNat (0,0)=c:=by rw[qw,hc];rfl
  obtain⟨bc1,bc2⟩:=gr.bd c (qf hc);obtain⟨n,l,rfl,hgn,hgl⟩:=hg.old (T:=[.lst (ks.map D.int)]);walk_at"g";refine⟨a,b,c,rfl,.inl ⟨(Bd.sub (bc2.mono (by decide:(190:Nat)<=200)) sa.2.1).mono (by decide),(Bd.sub sb.1 sa.1).mono (by decide)⟩,.inl ⟨(Bd.sub (bc1.mono (by decide:(170:Nat)<=180)) sa.1).mono (by decide),(Bd.sub sb.2.1 sa.2.1).mono (by decide)⟩,?_⟩;walk_at"g";refine r_d (fun g1=>?_) (fun g1=>?_)
  ·walk_at"g";rw[zmA hk hn (by unfold znc;rw[eg];exact decide_eq_true g1)]at q;exact zaX rfl q
  ·walk_at"g";refine⟨_,rfl,rfl,fun x hx=>?_⟩;rw[zaK hk]at hx;rcases qF.mp hx with hx|hx
   ·exact hn x hx
   ·have:x=k:=by simpa using hx
    subst this;unfold znc;rw[eg];exact decide_eq_false g1
 ·rintro Z S' ⟨w1,rfl,rfl,hn⟩;rw[qb,List.take_length]at hn;rw[zsp hn]at q;walk_at"g";exact zaX rfl q
def zbM:DSp:=fun ds S Q=>∃ (a b:Int×Int),ds=[p2 a,p2 b]/\(Bd 180 a.1/\Bd 200 a.2)/\(Bd 180 b.1/\Bd 200 b.2)/\Q (.int (sqr a b)) S
abbrev zey:DS :=
    (zB (zJ (dOp zam zdC zbu) gn2)
 (zB (zJ (dOp zam zeb zcn) gn3)
 (zT (dOp zao (dOp zbj vr2 vr2) (dOp zbj vr3 vr3)))))
def zgV:BodyOk 4 zey zbM:=by
 rintro ds S Q ⟨a,b,rfl,⟨a1,a2⟩,⟨b1,b2⟩,q⟩;unfold zey;have c1:Bd 8000 (b.1-a.1):=(Bd.sub b1 a1).mono (by decide);have c2:Bd 8000 (b.2-a.2):=(Bd.sub b2 a2).mono (by decide);have m1:zaP (b.1-a.1) (b.1-a.1):=.inl ⟨c1,c1⟩;have m2:zaP (b.2-a.2) (b.2-a.2):=.inl ⟨c2,c2⟩;walk_at"g";exact fin_same q
def zb3:DSp:=fun ds S Q=>∃ (v:D) (V:Vl) (a b:Int×Int),ds=[v,p2 a,p2 b]/\VAt S v V/\za9 V/\((Bd 180 a.1/\Bd 200 a.2)/\zc0 V.cs a)/\((Bd 180 b.1/\Bd 200 b.2)/\zc0 V.cs b)/\Q (zgF V a b) S
abbrev zeI:DS :=
    (zB (zJ (zbE zeE xF (zf (zaQ "ground" vr0) (zf vr1 ua2))) gn3)
 (zB (sIf (dT (dOp zc8 vr3 (dC .non))) (zT (dTup (zf (dC (.str "ground")) ua3))) zZ)
 (zB (zJ (dCall zbM (zf vr1 ua2)) gn4)
 (zB (sIf (zdZ (dT (dOp zc8 (zaQ "haze" vr0) (dC .non))) (dT (dOp oGt vr4 (zaQ "haze" vr0)))) (zT (dTup (zf (dC (.str "haze")) ua4))) zZ)
 (zT (dC .non))))))
def zhC:BodyOk 5 zeI zb3:=by
 rintro ds S Q ⟨v,V,a,b,rfl,hv,ok,⟨ba,sa⟩,⟨bb,sb⟩,q⟩;unfold zeI;obtain⟨n,g,bb',f,rfl,hn,hg,_,_⟩:=hv;walk_at"g";refine⟨_,V.cs,a,b,rfl,hg,ok.gr,ba,bb,fun no=>(no ⟨sa,sb⟩).elim,fun _ _=>?_⟩;unfold zgF at q;cases e:ziR V.cs a b with
 |some k =>
  rw[e]at q;unfold za2;walk_at"g";exact fin_same q
 |none =>
  rw[e]at q;unfold za2;walk_at"g";refine⟨a,b,rfl,ba,bb,?_⟩;dsimp only at q;have hn':S[n]?=some (.ins "Valley" (vF (.ref g) (.ref bb') (.ref f) (za2 V.hz) (.int V.h0) (.int V.h1) (.int V.dl))):=hn;generalize sqr a b=sq at q;generalize V.hz=hz at q hn';cases hz with
  |none =>
   have q2:Q .non S:=q;unfold za2 at hn';walk_at"g";exact fin_same q2
  |some z =>
   have q2:Q (if decide (z<sq)=true then .tup [.str "haze",.int sq]else .non) S:=q;unfold za2 at hn';walk_at"g";refine r_d (fun h=>?_) (fun h=>?_)
   ·rw[if_pos (decide_eq_true h)]at q2;walk_at"g";exact fin_same q2
   ·rw[if_neg (by rw[decide_eq_false h];decide)]at q2;walk_at"g";exact fin_same q2
def zex:DSp:=fun ds S Q=>∃ (F:Fg) (h:Int),ds=[fgD F,.int h]/\zaP F.g h/\zaP F.s h/\Q (.tup [.int (F.x0+F.g*h),.int (F.x1+F.g*h),.int (F.z0+F.s*h),.int (F.z1+F.s*h)]) S
abbrev zmE:DS :=
    (zB (zJ (dOp zbj zw1 vr1) gn2)
 (zB (zJ (dOp zbj zxd vr1) gn3)
 (zT (dTup (zf (dOp zao zbu vr2) (zf (dOp zao zcn vr2) (zf (dOp zao zig vr3) (zf (dOp zao zij vr3) zF))))))))
def zpR:BodyOk 4 zmE zex:=by
 rintro ds S Q ⟨F,h,rfl,c1,c2,q⟩;unfold zmE;walk_at"g";exact fin_same q
def zcU:DSp:=fun ds S Q=>∃ (L R B T x1 z1 x2 z2:Int),ds=[.tup [.int L,.int R,.int B,.int T],.tup [.int x1,.int z1],.tup [.int x2,.int z2]]/\Bd 1000 L/\Bd 1000 R/\Bd 1000 B/\Bd 1000 T/\Bd 1000 x1/\Bd 1000 z1/\Bd 1000 x2/\Bd 1000 z2 /\
 ∀ (ca cb:Cell) (mx mn:Int),mx∈acr L R B T x1 z1 x2 z2->(∀ a∈acr L R B T x1 z1 x2 z2,a<=mx)->mn∈acr L R B T x1 z1 x2 z2->(∀ a∈acr L R B T x1 z1 x2 z2,mn<=a)->Q (.ref (S.length+2)) (S++[ca,cb,.lst ((six L R B T x1 z1 x2 z2 mx mn).map D.int)])
abbrev zje:DS :=
    (zB (zJ (dOp zam zfw zdC) gn3)
 (zB (zJ (dOp zam zeH zeb) gn4)
 (zB (zJ (zbG (zf (dTup (zf zbu (zf zig zF))) (zf (dTup (zf zbu (zf zij zF))) (zf (dTup (zf zcn (zf zig zF))) (zf (dTup (zf zcn (zf zij zF))) zF))))) gn5)
 (zB (zJ (dLC 2 [3,1,4] (zaR vr5) (zbh 2 (zV gn0 (zV gn1 zbk))) zbt (dOp zam (dOp zbj vr2 (dOp zam vr1 zw3)) (dOp zbj vr4 (dOp zam vr0 zxs)))) gn6)
 (zT (zbG (zf (dOp zam (dB zdE (zf zdC (zf zfw zF))) zbu) (zf (dOp zam zcn (dB zfr (zf zdC (zf zfw zF)))) (zf (dOp zam (dB zdE (zf zeb (zf zeH zF))) zig) (zf (dOp zam zij (dB zfr (zf zeb (zf zeH zF)))) (zf (dB znf ua6) (zf (dUn zck (dB zng ua6)) zF))))))))))))
def zmV:BodyOk 7 zje zcU:=by
 rintro ds S Q ⟨L,R,B,T,x1,z1,x2,z2,rfl,bL,bR,bB,bT,b1,b2,b3,b4,q⟩;unfold zje;walk_at"g";refine za4 (fun _=>true) (on2 fun c=>.int ((x2-x1)*(c.2-z1)-(z2-z1)*(c.1-x1))) (by walk_at"l") (qah rfl) (fun i d ys hd hw=>?_) ?_
 ·obtain⟨c,hc,rfl⟩:=zc1 (cs:=[(L,B),(L,T),(R,B),(R,T)]) hd;have hm:=qf hc
  have hb:Bd 1000 c.1/\Bd 1000 c.2:=by
   simp only[qg,qB,or_false]at hm;rcases hm with rfl|rfl|rfl|rfl
   ·exact⟨bL,bB⟩
   ·exact⟨bL,bT⟩
   ·exact⟨bR,bB⟩
   ·exact⟨bR,bT⟩
  have hb1:=hb.1;have hb2:=hb.2;have c1:zaP (x2-x1) (c.2-z1):=.inl ⟨(Bd.sub b3 b1).mono (by decide),(Bd.sub hb2 b2).mono (by decide)⟩;have c2:zaP (z2-z1) (c.1-x1):=.inl ⟨(Bd.sub b4 b2).mono (by decide),(Bd.sub hb1 b1).mono (by decide)⟩;walk_at"g";exact zbL hd hw rfl rfl
 rw[filter_true];show New _ _ ((acr L R B T x1 z1 x2 z2).map D.int);walk_at"g";refine zve (ns:=acr L R B T x1 z1 x2 z2) (by walk_at"l") (qah rfl) fun mx m1 m2=>?_
 walk_at"g";refine zuw (ns:=acr L R B T x1 z1 x2 z2) (by walk_at"l") (qah rfl) fun mn n1 n2=>?_
 walk_at"g";exact fin_same (q _ _ mx mn m1 m2 n1 n2)
def zdl:DSp:=fun ds S Q=>∃ (x:D) (cs:List (Int×Int)),ds=[x]/\zdi S x (cs.map p2)/\cs.length<=4000/\(cs.filter lec).length<64 /\
 ∀ ms:List (Int×Int),zal ms->(∀ h,ms.any (inS h)=cs.any (inS h))->ms.length<=(cs.filter lec).length->Q (.tup (ms.map p2)) S
def zmW {ss:List (Int×Int)}(srt:ss.Pairwise fun a b=>zhy b a=false){i:Nat}{c d:Int×Int}(hc:ss[i]?=some c)(hd:d∈ss.take i):d.1<=c.1:=by
 obtain⟨j,hj,e⟩:=qab.mp hd;rw[qaf]at hj;rw[List.getElem_take]at e;have hi:=zad hc;rw[qc hi]at hc;cases hc;subst e;exact zvL (qae.mp srt j i (by lia) hi (by lia))
def zfI {ss:List (Int×Int)}{i:Nat}{c:Int×Int}(hc:ss[i]?=some c)(h:Int):(ss.take (i+1)).any (inS h)=((ss.take i).any (inS h)||inS h c):=by
 rw[zaK hc,List.any_append];simp
def zrw {α:Type}{l:List α}(h:0<l.length):∃ i x,l=i++[x]:=by
 have:l≠[]:=fun e=>by rw[e]at h;cases h
 exact⟨l.dropLast,l.getLast this,(List.dropLast_concat_getLast this).symm⟩
abbrev zpm:DS :=
    (zB (zJ (zbG zF) gn1)
 (zB (zbp (zaR (dB znA (zf (dLC 1 [] (zaR vr0) gn0 (dT (dOp oLe zbu zcn)) (dTup (zf zbu (zf zcn zF)))) zF))) (zbh 2 (zV gn2 (zV gn3 zbk))) (sIf (zdZ (dT (dOp oGt (dB zb6 ua1) ci0)) (dT (dOp oLe vr2 (dOp zao (dOp oIx (dOp oIx vr1 (dUn zck ci1)) ci1) ci1)))) (zJ (dTup (zf (dOp oIx (dOp oIx vr1 (dUn zck ci1)) ci0) (zf (dB zdE (zf (dOp oIx (dOp oIx vr1 (dUn zck ci1)) ci1) ua3)) zF))) (zgi vr1 (dUn zck ci1))) (zbb (dM zcR vr1 (zf (dTup (zf vr2 ua3)) zF)))))
 (zT (dB zkS ua1))))
def zrY:BodyOk 4 zpm zdl:=by
 rintro ds S Q ⟨x,cs,rfl,hx,hcl,hfl,q⟩;unfold zpm;walk_at"g";refine zuD (xs:=cs.map p2) hx.old fun ok hok=>?_
 refine za4 (zuc lec) (on2 p2) (by have:=hok [];rwa[List.append_nil]at this) ?_ (fun i d ys hd hw=>?_) ?_
 ·rw[qb];unfold big;lia
 ·obtain⟨c,hc,rfl⟩:=zc1 hd;walk_at"g";refine r_d (fun g=>?_) (fun g=>?_)
  ·walk_at"g";exact zbL hd hw (decide_eq_true g) rfl
  ·walk_at"g";exact znH hd hw (decide_eq_false g)
 rw[zpT,zr7];walk_at"g";refine zth (cs:=cs.filter lec) (Lst.at rfl) hfl fun ss perm srt=>?_
 have hsl:ss.length=(cs.filter lec).length:=perm.length_eq;have hsle:∀ c∈ss,c.1<=c.2:=fun c hc=>of_decide_eq_true (qO.mp (perm.mem_iff.mp hc)).2
 walk_at"g"
 refine zaJ (fun i Z S'=>∃ (ms:List (Int×Int)) (w1 w2:Option D),Z=[some x,some (.ref S.length),w1,w2]/\S'=S++[.lst (ms.map p2),.lst ((cs.filter lec).map p2),.lst (ss.map p2)]/\zal ms/\ms.length<=i /\
  (∀ h,ms.any (inS h)=(ss.take i).any (inS h))/\∀ m∈ms,∃ d∈ss.take i,m.1=d.1)
  ⟨[],none,none,rfl,rfl,zal.nil,qe _,fun h=>rfl,by simp⟩ (fun i Z S' zq5=>by obtain⟨ms,w1,w2,_,e,_⟩:=zq5;exact e▸Lst.at rfl) ?_ ?_
 ·rintro i d Z S' hd ⟨ms,w1,w2,rfl,rfl,ok,hml,hany,hlow⟩;obtain⟨c,hc,rfl⟩:=zc1 hd;have hil:=zad hc;have hcle:=hsle c (qf hc)
  have low:∀ m∈ms,m.1<=c.1:=fun m hm=>by
   obtain⟨d,hd,e⟩:=hlow m hm;rw[e];exact zmW srt hc hd
  have hlow':∀ m,(∃ d∈ss.take i,m=d.1)->∃ d∈ss.take (i+1),m=d.1:=fun m zq6=>by obtain⟨d,hd,e⟩:=zq6;exact⟨d,by rw[zaK hc];exact qQ _ hd,e⟩
  have hnew:∃ d∈ss.take (i+1),c.1=d.1:=⟨c,by rw[zaK hc];simp,rfl⟩
  have app:(∀ m∈ms,m.2+2<=c.1)->∃ (ms':List (Int×Int)) (w1 w2:Option D),([some x,some (.ref S.length),some (.int c.1),some (.int c.2)]:Rho)=[some x,some (.ref S.length),w1,w2]/\S++[Cell.lst (ms.map p2++[p2 c]),.lst ((cs.filter lec).map p2),.lst (ss.map p2)]=S++[.lst (ms'.map p2),.lst ((cs.filter lec).map p2),.lst (ss.map p2)]/\zal ms'/\ms'.length<=i+1 /\
    (∀ h,ms'.any (inS h)=(ss.take (i+1)).any (inS h))/\∀ m∈ms',∃ d∈ss.take (i+1),m.1=d.1:=fun ap=>by
   refine⟨ms++[c],_,_,rfl,by rw[qH];rfl,ok.snoc hcle ap,by rw[qi];exact Nat.succ_le_succ hml,fun h=>by rw[List.any_append,hany h,zfI hc];simp,fun y hy=>?_⟩;rcases qF.mp hy with hy|hy
   ·exact hlow' _ (hlow y hy)
   ·have:y=c:=by simpa using hy
    subst this;exact hnew
  walk_at"g";rw[qb];refine r_d (fun h0=>?_) (fun h0=>?_)
  ·obtain⟨ms0,m,rfl⟩:=zrw (l:=ms) (by lia);have hm1:=low m (by simp);have am:atD (List.map p2 (ms0++[m])) (-1)=some (p2 m):=by rw[qH];exact zhE
   have im:ixD (List.map p2 (ms0++[m])).length (-1)=some (ms0.map p2).length:=by rw[qH];exact zkK
   walk_at"g";refine r_d (fun h1=>?_) (fun h1=>?_)
   ·walk_at"g";refine zh5 zag im ?_;walk_at"g";obtain⟨ok2,any2⟩:=zqC ok hcle hm1 h1;refine⟨ms0++[(m.1,max m.2 c.2)],_,_,rfl,?_,ok2,by rw[qi]at hml ⊢;exact Nat.le_succ_of_le hml,fun h=>by rw[any2 h,hany h,zfI hc],fun y hy=>?_⟩
    ·rw[qH,qH,List.set_append_right _ _ (qe _),Nat.sub_self];rfl
    ·rcases qF.mp hy with hy|hy
     ·exact hlow' _ (hlow y (qQ _ hy))
     ·have:y=(m.1,max m.2 c.2):=by simpa using hy
      subst this;exact hlow' _ (hlow m (by simp))
   ·walk_at"g";obtain⟨ok0,hmle,hap⟩:=ok.init
    exact app fun y hy=>by
     rcases qF.mp hy with hy|hy
     ·have:=hap y hy;lia
     ·have:y=m:=by simpa using hy
      subst this;lia
  ·have em:ms=[]:=List.length_eq_zero_iff.mp (by lia);walk_at"g";exact app (by rw[em];simp)
 ·rintro Z S' ⟨ms,w1,w2,rfl,rfl,ok,hml,hany,hlow⟩;rw[qb]at hml hany;walk_at"g";exact zaX (zgO ms) (q ms ok (fun h=>by rw[hany h,List.take_length,zp4 perm,show cs.filter lec=cs.filter (fun c=>decide (c.1<=c.2))from rfl,any_filter]) (by lia))
def zfa:DSp:=fun ds S Q=>∃ (F:Fg) (px pz qx qz:Int),ds=[fgD F,.tup [.int px,.int pz],.tup [.int qx,.int qz]]/\FgB F/\Bd 600 px/\Bd 600 pz/\Bd 600 qx/\Bd 600 qz/\∀ ms:List (Int×Int),zrr ms F px pz qx qz->Q (.tup (ms.map p2)) S
abbrev zl6:DS :=
    (zB (zJ ci0 gn3)
 (zB (zJ (dOp zam zrK zjT) gn4)
 (zB (zJ (dCall zcU (zf (dCall zex (zf vr0 (zf ci0 zF))) (zf vr1 ua2))) gn5)
 (zB (zJ (dCall zcU (zf (dCall zex (zf vr0 (zf ci1 zF))) (zf vr1 ua2))) gn6)
 (zB (zbp (zlm (zf vr5 ua6)) (zbh 2 (zV gn7 (zV gn8 zbk))) (zB (zJ (dOp zam vr8 vr7) gn9)
 (sIf (dT (dOp oGt vr9 ci0)) (zJ (dB zdE (zf vr3 (zf (dUn zck (dOp oDiv vr7 vr9)) zF))) gn3) (sIf (dT (dOp oLt vr9 ci0)) (zJ (dB zfr (zf vr4 (zf (dOp oDiv vr7 (dUn zck vr9)) zF))) gn4) (sIf (dT (dOp oLt vr7 ci0)) (zT (dTup zF)) zZ)))))
 (zT (dCall zdl (zf (zbG (zf (dTup (zf (dOp zao zjT vr3) (zf (dOp zao zjT vr4) zF))) zF)) zF))))))))
def zqT:BodyOk 10 zl6 zfa:=by
  rintro ds S Q ⟨F,px,pz,qx,qz,rfl,B,bpx,bpz,bqx,bqz,q⟩;unfold zl6
  have bmv:∀ {x y c:Int},Bd 600 x->Bd 200 y->(c=0\/c=1)->Bd 700 (x+y*c):=fun {x y c} hx hy hc=>(Bd.add (n:=600) hx (by
    rcases hc with rfl|rfl
    . rw[Int.mul_zero];exact Bd.lit (by decide) (by decide)
    . rw[Int.mul_one];exact hy.mono (by decide))).mono (by decide)
  have cs:∀ {y c:Int},(c=0\/c=1)->zaP y c:=fun hc=>.inr (.inr (by rcases hc with rfl|rfl<;>decide))
  walk_at"g";refine⟨F,0,rfl,cs (.inl rfl),cs (.inl rfl),?_⟩;walk_at"g";refine⟨_,_,_,_,px,pz,qx,qz,rfl,(bmv B.b0 B.bg (.inl rfl)).mono (by decide),(bmv B.b1 B.bg (.inl rfl)).mono (by decide),(bmv B.b2 B.bs (.inl rfl)).mono (by decide),(bmv B.b3 B.bs (.inl rfl)).mono (by decide),bpx.mono (by decide),bpz.mono (by decide),bqx.mono (by decide),bqz.mono (by decide),fun ca cb mx mn m1 m2 n1 n2=>?_⟩;walk_at"g";refine⟨F,1,rfl,cs (.inr rfl),cs (.inr rfl),?_⟩;walk_at"g";refine⟨_,_,_,_,px,pz,qx,qz,rfl,(bmv B.b0 B.bg (.inr rfl)).mono (by decide),(bmv B.b1 B.bg (.inr rfl)).mono (by decide),(bmv B.b2 B.bs (.inr rfl)).mono (by decide),(bmv B.b3 B.bs (.inr rfl)).mono (by decide),bpx.mono (by decide),bpz.mono (by decide),bqx.mono (by decide),bqz.mono (by decide),fun ca' cb' mx' mn' m1' m2' n1' n2'=>?_⟩;have mm:∀ k,_↔_:=fun k=>zpi (k:=k) m1 m2 n1 n2 m1' m2' n1' n2'
  have sb:=zot (bmv B.b0 B.bg (.inl rfl)) (bmv B.b1 B.bg (.inl rfl)) (bmv B.b2 B.bs (.inl rfl)) (bmv B.b3 B.bs (.inl rfl)) (bpx.mono (by decide)) (bpz.mono (by decide)) (bqx.mono (by decide)) (bqz.mono (by decide)) m1 n1;have ab:=zot (bmv B.b0 B.bg (.inr rfl)) (bmv B.b1 B.bg (.inr rfl)) (bmv B.b2 B.bs (.inr rfl)) (bmv B.b3 B.bs (.inr rfl)) (bpx.mono (by decide)) (bpz.mono (by decide)) (bqx.mono (by decide)) (bqz.mono (by decide)) m1' n1';have l1:(six (F.x0+F.g*0) (F.x1+F.g*0) (F.z0+F.s*0) (F.z1+F.s*0) px pz qx qz mx mn).length=6:=rfl;have l2:(six (F.x0+F.g*1) (F.x1+F.g*1) (F.z0+F.s*1) (F.z1+F.s*1) px pz qx qz mx' mn').length=6:=rfl;generalize six (F.x0+F.g*0) (F.x1+F.g*0) (F.z0+F.s*0) (F.z1+F.s*0) px pz qx qz mx mn=A at *;generalize six (F.x0+F.g*1) (F.x1+F.g*1) (F.z0+F.s*1) (F.z1+F.s*1) px pz qx qz mx' mn'=A' at *;clear m1 m2 n1 n2 m1' m2' n1' n2';have kA:(S++[ca,cb,Cell.lst (A.map D.int)]++[ca',cb',Cell.lst (A'.map D.int)])[S.length+2]?=some (.lst (A.map D.int)):=zX ((zbr _ _ _).trans rfl);have kA':(S++[ca,cb,Cell.lst (A.map D.int)]++[ca',cb',Cell.lst (A'.map D.int)])[(S++[ca,cb,Cell.lst (A.map D.int)]).length+2]?=some (.lst (A'.map D.int)):=(zbr _ _ _).trans rfl;have eS:S++[ca,cb,Cell.lst (A.map D.int)]++[ca',cb',Cell.lst (A'.map D.int)]=S++[ca,cb,Cell.lst (A.map D.int),ca',cb',Cell.lst (A'.map D.int)]:=by simp
  generalize (S++[ca,cb,Cell.lst (A.map D.int)]).length+2=na at *;generalize S++[ca,cb,Cell.lst (A.map D.int)]++[ca',cb',Cell.lst (A'.map D.int)]=S1 at *;walk_at"g";refine zpV (xs:=A.map D.int) (ys:=A'.map D.int) (Lst.here kA) (Lst.here kA') ?_
  refine zaJ (fun i Z S'=>S'=S1/\∃ (lo hi:Int) (w1 w2 w3:Option D),Z=[some (fgD F),some (.tup [.int px,.int pz]),some (.tup [.int qx,.int qz]),some (.int lo),some (.int hi),some (.ref (S.length+2)),some (.ref na),w1,w2,w3] /\
    ∀ k,(lo<=k/\k<=hi)↔(0<=k/\k<=F.l-F.f/\∀ j,j<i->0<=A.getD j 0+k*(A'.getD j 0-A.getD j 0))) ⟨rfl,0,F.l-F.f,none,none,none,rfl,fun k=>⟨fun h=>⟨h.1,h.2,fun j hj=>absurd hj (by lia)⟩,fun h=>⟨h.1,h.2.1⟩⟩⟩ (fun i Z S' z=>z.1▸⟨Lst.here kA,Lst.here kA'⟩) ?_ ?_
  . rintro i d Z S' hd ⟨rfl,lo,hi,w1,w2,w3,rfl,hk⟩;obtain⟨x,y,hx,hy,rfl⟩:=zfB hd;obtain⟨sv,hs,rfl⟩:=zdr hx;obtain⟨av,ha,rfl⟩:=zdr hy;have es:A.getD i 0=sv:=by rw[qw,hs];rfl
    have ea:A'.getD i 0=av:=by rw[qw,ha];rfl
    have bsv:=sb sv (qf hs);have bav:=ab av (qf ha);have bst:Bd 1600 (av-sv):=(Bd.sub bav bsv).mono (by decide);have bst':Bd 1600 (-(av-sv)):=bst.neg
    have next:∀ {P:Int->Prop},(∀ k,P k↔0<=sv+k*(av-sv))->∀ k,((0<=k/\k<=F.l-F.f/\∀ j,j<i->0<=A.getD j 0+k*(A'.getD j 0-A.getD j 0))/\P k)↔(0<=k/\k<=F.l-F.f/\∀ j,j<i+1->0<=A.getD j 0+k*(A'.getD j 0-A.getD j 0)):=fun {P} hP k=>by
      constructor
      . rintro⟨⟨c1,c2,c3⟩,c4⟩;refine⟨c1,c2,fun j hj=>?_⟩;rcases qX j i with h|h
        . exact c3 j h
        . have:j=i:=by lia
          subst this;rw[es,ea];exact(hP k).mp c4
      . rintro⟨c1,c2,c3⟩;refine⟨⟨c1,c2,fun j hj=>c3 j (by lia)⟩,(hP k).mpr ?_⟩;have:=c3 i (by lia);rw[es,ea]at this;exact this
    walk_at"g";refine r_d (fun g1=>?_) (fun g1=>?_)
    . walk_at"g";refine⟨rfl,_,_,_,_,_,rfl,fun k=>?_⟩;rw[<- next (fun k=>ztD (S:=sv) (T:=av-sv) (k:=k) (by lia)) k,<- hk k];lia
    . walk_at"g";refine r_d (fun g2=>?_) (fun g2=>?_)
      . walk_at"g";refine⟨rfl,_,_,_,_,_,rfl,fun k=>?_⟩;rw[<- next (fun k=>zoG (S:=sv) (T:=av-sv) (k:=k) (by lia)) k,<- hk k];lia
      . have e0:av-sv=0:=by lia
        have flat:∀ k,(0<=sv)↔0<=sv+k*(av-sv):=fun k=>by rw[e0,Int.mul_zero,Int.add_zero]
        walk_at"g";refine r_d (fun g3=>?_) (fun g3=>?_)
        . walk_at"g";rw[eS];refine zaX (zgO []) (q [] ⟨zal.nil,by decide,fun h=>⟨fun z=>absurd z (by simp),fun z=>?_⟩⟩);have:=(mm (h-F.f)).mpr ((zmB (by have:=B.x;lia) (by have:=B.z;lia)).mpr z.2.2) i (by have:=zad hs;lia);rw[es,ea,<- flat]at this;lia
        . walk_at"g";refine⟨rfl,_,_,_,_,_,rfl,fun k=>?_⟩;rw[<- next flat k,<- hk k];constructor
          . intro h;exact⟨h,by lia⟩
          . intro h;exact h.1
  . rintro Z S' ⟨rfl,lo,hi,w1,w2,w3,rfl,hk⟩;rw[zdf,qb,qb,l1,l2]at hk;walk_at"g";refine⟨_,[(F.f+lo,F.f+hi)],rfl,.inr (by walk_at"l"),qah rfl,?_,fun ms ok hany hml=>?_⟩
    . exact Nat.lt_of_le_of_lt (List.length_filter_le _ _) (qah rfl)
    . rw[eS,qh];exact zaX (zgO ms) (q ms (zpX B ok (qR hml (List.length_filter_le _ _)) hany fun k=>by rw[hk k];exact and_congr_right fun _=>and_congr_right fun _=>mm k))
def zc2:DSp:=fun ds S Q=>∃ (x:D) (fs:List Fg) (px pz qx qz:Int),ds=[x,.tup [.int px,.int pz],.tup [.int qx,.int qz]]/\Lst S x (fs.map fgD)/\fs.length<64/\(∀ F∈fs,FgB F)/\Bd 600 px/\Bd 600 pz/\Bd 600 qx/\Bd 600 qz /\
 ∀ ms:List (Int×Int),zal ms->(∀ h,ms.any (inS h)=true↔∃ F∈fs,zef F px pz qx qz h)->ms.length<=fs.length->Q (.tup (ms.map p2)) S
abbrev zhg:DS :=
    (zB (zJ (zbG zF) gn3)
 (zB (zbp (zaR vr0) gn4 (zbb (dM zhG vr3 (zf (dCall zfa (zf vr4 (zf vr1 ua2))) zF))))
 (zT (dCall zdl ua3))))
def zlp:BodyOk 5 zhg zc2:=by
 rintro ds S Q ⟨x,fs,px,pz,qx,qz,rfl,hx,hl,hB,bpx,bpz,bqx,bqz,q⟩;unfold zhg;walk_at"g"
 refine zaJ (fun i Z S'=>∃ (cs:List (Int×Int)) (w:Option D),Z=[some x,some (.tup [.int px,.int pz]),some (.tup [.int qx,.int qz]),some (.ref S.length),w]/\S'=S++[.lst (cs.map p2)]/\cs.length<=i/\∀ h,cs.any (inS h)=true↔∃ F∈fs.take i,zef F px pz qx qz h)
  ⟨[],none,rfl,rfl,qe _,fun h=>by simp⟩ (fun i Z S' zq7=>by obtain⟨cs,w,_,e,_⟩:=zq7;exact e▸hx.old) ?_ ?_
 ·rintro i d Z S' hd ⟨cs,w,rfl,rfl,hc,hh⟩;obtain⟨F,hF,rfl⟩:=zoj hd;have hi:=zad hF;walk_at"g";refine⟨F,px,pz,qx,qz,rfl,hB F (qf hF),bpx,bpz,bqx,bqz,fun ms hm=>?_⟩;obtain⟨ok,hone,hat⟩:=hm;walk_at"g";refine zn8 (n:=S.length) zag (by rw[qb,qb];unfold big;lia) ?_;walk_at"g";refine⟨cs++ms,_,rfl,by rw[qH],by rw[qi];lia,fun h=>?_⟩;rw[List.any_append,Bool.or_eq_true,hh,hat,zaK hF];constructor
  ·rintro(⟨G,hG,g⟩|g)
   ·exact⟨G,qQ _ hG,g⟩
   ·exact⟨F,by simp,g⟩
  ·rintro⟨G,hG,g⟩;rcases qF.mp hG with hG|hG
   ·exact .inl ⟨G,hG,g⟩
   ·have:G=F:=by simpa using hG
    subst this;exact .inr g
 ·rintro Z S' ⟨cs,w,rfl,rfl,hc,hh⟩;rw[qb]at hc hh;rw[List.take_length]at hh;have hf:=List.length_filter_le lec cs;walk_at"g";refine⟨_,cs,rfl,.inr Lst.at0,by lia,by lia,fun ms ok hany hml=>?_⟩;exact zaX (zgO ms) (q ms ok (fun h=>by rw[hany h];exact hh h) (by lia))
def zgx:DSp:=fun ds S Q=>∃ (cs:List (Int×Int)) (lo hi:Int),ds=[.tup (cs.map p2),.int lo,.int hi]/\zal cs/\cs.length<63 /\
 ∀ ms:List (Int×Int),zal ms->(∀ h,lo<=h->h<=hi->ms.any (inS h)=!(cs.any (inS h)))->ms.length<=cs.length+1->Q (.tup (ms.map p2)) S
abbrev znX:DS :=
    (zB (zJ (zbG zF) gn3)
 (zB (zJ vr1 gn4)
 (zB (zbp (zaR vr0) gn5 (zB (zbb (dM zcR vr3 (zf (dTup (zf vr4 (zf (dOp zam zxt ci1) zF))) zF)))
 (zJ (dOp zao zxh ci1) gn4)))
 (zB (zbb (dM zcR vr3 (zf (dTup (zf vr4 ua2)) zF)))
 (zT (dCall zdl ua3))))))
def ztw:BodyOk 6 znX zgx:=by
  rintro ds S Q ⟨cs,lo,hi,rfl,ok,h31,q⟩;unfold znX;walk_at"g";refine zaJ (fun i Z S'=>∃ (w:Option D),Z=[some (.tup (cs.map p2)),some (.int lo),some (.int hi),some (.ref S.length),some (.int (zax lo (cs.take i)).2),w]/\S'=S++[.lst ((zax lo (cs.take i)).1.map p2)]) ⟨none,rfl,rfl⟩ (fun _ _ _ _=>True.intro) ?_ ?_
  . rintro i d Z S' hd ⟨w,rfl,rfl⟩;obtain⟨c,hc,rfl⟩:=zc1 hd;have hi':=zad hc
    have hlim:(List.map p2 (zax lo (cs.take i)).1).length<big:=by
      rw[qb,zdJ,qaf];unfold big;lia
    walk_at"g";refine⟨some (p2 c),?_,?_⟩
    . rw[zaK hc,zfy];rfl
    . rw[zaK hc,zfy,qH];rfl
  . rintro Z S' ⟨w,rfl,rfl⟩;rw[qb,List.take_length]
    have hlim:(List.map p2 (zax lo cs).1).length<big:=by
      rw[qb,zdJ];unfold big;lia
    have hf:=List.length_filter_le lec ((zax lo cs).1++[((zax lo cs).2,hi)]);rw[qi,zdJ]at hf;have hf:((((zax lo cs).1++[((zax lo cs).2,hi)])).filter lec).length<=cs.length+1:=hf;walk_at"g";refine⟨_,(zax lo cs).1++[((zax lo cs).2,hi)],rfl,.inr (by rw[qH];exact Lst.at0),by rw[qi,zdJ];show cs.length+1<=4000;lia,by lia,fun ms okm hany hml=>?_⟩;refine zaX (zgO ms) (q ms okm (fun h h0 h1=>?_) (by lia));rw[hany h,Bool.eq_iff_iff,zkz h1 lo ok h0 (fun _ _ _=>trivial),<- zaA];cases cs.any (inS h)<;>simp
def zgv:DSp:=fun ds S Q=>∃ (as bs:List (Int×Int)),ds=[.tup (as.map p2),.tup (bs.map p2)]/\zal as/\zal bs/\as.length+bs.length<64 /\
 ∀ ms:List (Int×Int),zal ms->(∀ h,ms.any (inS h)=(as.any (inS h)&&bs.any (inS h)))->ms.length<=as.length+bs.length->Q (.tup (ms.map p2)) S
abbrev zn5:DS :=
    (zB (zJ (zbG zF) gn2)
 (zB (zbp (zaR vr0) (zbh 2 (zV gn3 (zV gn4 zbk))) (zbp (zaR vr1) (zbh 2 (zV gn5 (zV gn6 zbk))) (zbb (dM zcR vr2 (zf (dTup (zf (dB zdE (zf vr3 ua5)) (zf (dB zfr (zf vr4 ua6)) zF))) zF)))))
 (zT (dCall zdl ua2))))
def zto:BodyOk 7 zn5 zgv:=by
 rintro ds S Q ⟨as,bs,rfl,oka,okb,hlen,q⟩;unfold zn5;have hmul:as.length*bs.length<=3969:=qR (Nat.mul_le_mul (show as.length<=63 by lia) (show bs.length<=63 by lia)) (by decide);walk_at"g";refine zaJ (fun i Z S'=>∃ (w1 w2 w3 w4:Option D),Z=[some (.tup (as.map p2)),some (.tup (bs.map p2)),some (.ref S.length),w1,w2,w3,w4]/\S'=S++[.lst ((zaN (as.take i) bs).map p2)]) ⟨none,none,none,none,rfl,rfl⟩ (fun _ _ _ _=>True.intro) ?_ ?_
 ·rintro i d Z S' hd ⟨w1,w2,w3,w4,rfl,rfl⟩;obtain⟨a,ha,rfl⟩:=zc1 hd;have hi:=zad ha;walk_at"g";refine zaJ (fun j Z S'=>∃ (w3 w4:Option D),Z=[some (.tup (as.map p2)),some (.tup (bs.map p2)),some (.ref S.length),some (.int a.1),some (.int a.2),w3,w4]/\S'=S++[.lst ((zaN (as.take i) bs++(bs.take j).map (za5 a)).map p2)]) ⟨w3,w4,rfl,by simp⟩ (fun _ _ _ _=>True.intro) ?_ ?_
  ·rintro j d Z S' hd ⟨w3,w4,rfl,rfl⟩;obtain⟨b,hb,rfl⟩:=zc1 hd;have hj:=zad hb
   have hlim:(List.map p2 (zaN (as.take i) bs++(bs.take j).map (za5 a))).length<big:=by
    rw[qb,qi,zis,qb,qaf,qaf];have:min i as.length*bs.length<=as.length*bs.length:=Nat.mul_le_mul (Nat.min_le_right _ _) (qe _);unfold big;lia
   walk_at"g";refine⟨_,_,rfl,?_⟩
   have e:zaN (as.take i) bs++(bs.take (j+1)).map (za5 a)=zaN (as.take i) bs++(bs.take j).map (za5 a)++[za5 a b]:=by
    rw[zaK hb,qH,<- qh];rfl
   rw[e,qH (l₂:=[za5 a b])];rfl
  ·rintro Z S' ⟨w3,w4,rfl,rfl⟩;refine⟨_,_,_,_,rfl,?_⟩;rw[qb,List.take_length,zlK ha]
 ·rintro Z S' ⟨w1,w2,w3,w4,rfl,rfl⟩;rw[qb,List.take_length];have hf:((zaN as bs).filter lec).length<=as.length+bs.length:=zla oka okb;walk_at"g";refine⟨_,zaN as bs,rfl,.inr Lst.at0,by rw[zis];lia,by lia,fun ms ok hany hml=>?_⟩;exact zaX (zgO ms) (q ms ok (fun h=>by rw[hany h,znE]) (by lia))
def zd9:DSp:=fun ds S Q=>∃ (as bs:List (Int×Int)),ds=[.tup (as.map p2),.tup (bs.map p2)]/\zal as/\zal bs/\as.length+bs.length<63 /\
 ∀ ms:List (Int×Int),zal ms->(∀ h,ms.any (inS h)=(as.any (inS h)&&!(bs.any (inS h))))->ms.length<=as.length+bs.length+1->Q (.tup (ms.map p2)) S
abbrev zjk:DS :=
    (zB (sIf (dT (dOp oEq (dB zb6 ua0) ci0)) (zT (dTup zF)) zZ)
 (zT (dCall zgv (zf vr0 (zf (dCall zgx (zf vr1 (zf (dOp oIx zbu ci0) (zf (dOp oIx (dOp oIx vr0 (dUn zck ci1)) ci1) zF)))) zF)))))
def zmT:BodyOk 2 zjk zd9:=by
 rintro ds S Q ⟨as,bs,rfl,oka,okb,hlen,q⟩;unfold zjk;walk_at"g";rw[qb];refine r_d (fun g=>?_) (fun g=>?_)
 ·have ea:as=[]:=List.length_eq_zero_iff.mp (by lia);subst ea;walk_at"g";exact fin_same (q [] zal.nil (fun h=>rfl) (by simp))
 ·obtain⟨c,as',rfl⟩:∃ c as',as=c::as':=by
   cases as with
   |nil=>exact absurd (by simp) g
   |cons c as'=>exact⟨c,as',rfl⟩
  obtain⟨ms0,m,em⟩:=zrw (l:=c::as') (by simp);have a0:atD (List.map p2 (c::as')) 0=some (p2 c):=ze1 (i:=0) rfl;have am:atD (List.map p2 (c::as')) (-1)=some (p2 m):=by rw[em,qH];exact zhE
  walk_at"g";refine⟨bs,c.1,m.2,rfl,okb,by lia,fun gs okg hg hgl=>?_⟩;walk_at"g";refine⟨c::as',gs,rfl,oka,okg,by lia,fun ms ok hany hml=>?_⟩;refine fin_same (q ms ok (fun h=>?_) (by lia));rw[hany h];cases hA:(c::as').any (inS h)with
  |false=>rfl
  |true =>
   obtain⟨x,hx,x1,x2⟩:=zaA.mp hA
   have lo:c.1<=h:=by
    rcases qg.mp hx with rfl|hx
    ·exact x1
    ·have:=(qZ.mp oka.ap).1 x hx;have:=oka.le c (by simp);lia
   have hi:h<=m.2:=by
    rw[em]at hx oka;obtain⟨_,hm,hap⟩:=oka.init;rcases qF.mp hx with hx|hx
    ·have:=hap x hx;lia
    ·have:x=m:=by simpa using hx
     subst this;exact x2
   rw[hg h lo hi]
def zez:zcv:=fun ds S Q ex=>∃ (v:D) (V:Vl) (n m:Str),ds=[v,.str n,.str m]/\VAt S v V/\za9 V/\fl 20 (.str n)=true/\fl 20 (.str m)=true/\((∀ b∈V.bs,b.1≠n)\/(∀ b∈V.bs,b.1≠m)->ex "NoBeacon" S)/\∀ s t,(n,s)∈V.bs->(m,t)∈V.bs->∀ ms,zjQ V n m s t ms->Q (.tup (ms.map p2)) S
abbrev zml (ex : XR) : DS :=
    (zB (zJ (zbE zcT ex (zf vr0 ua1)) gn3)
 (zB (zJ (zbE zcT ex (zf vr0 ua2)) gn4)
 (zB (zJ (dTup (zf (dTup (zf (zaQ "first" vr0) (zf (zaQ "last" vr0) zF))) zF)) gn5)
 (zB (sIf (dT (dOp oEq vr1 vr2)) (zT vr5) zZ)
 (zB (sIf (dT (dOp zc8 (dCall zb3 (zf vr0 (zf vr3 ua4))) (dC .non))) (zT (dTup zF)) zZ)
 (zT (dCall zd9 (zf vr5 (zf (dCall zc2 (zf (zaQ "fogs" vr0) (zf vr3 ua4))) zF)))))))))
def zqZ:zbS 6 zml zez:=by
  rintro ds S Q ex ⟨v,V,n,m,rfl,hv,ok,hn,hm,hx,q⟩;unfold zml;walk_at"g";refine⟨v,V,n,rfl,hv,ok,hn,fun no=>hx (.inl no),fun s hs=>?_⟩;walk_at"g";refine⟨v,V,m,rfl,hv,ok,hm,fun no=>hx (.inr no),fun t ht=>?_⟩;have q':=q s t hs ht;clear hx q;have bs:=ok.bd _ hs;have bt:=ok.bd _ ht;have ss:=ok.st _ hs;have st:=ok.st _ ht;obtain⟨a,g,b',f,rfl,ha,hg,hb,hf⟩:=id hv;walk_at"g";refine zof hn hm ?_;walk_at"g"
  have one:zal [(V.h0,V.h1)]:=by
    refine⟨fun c hc=>?_,List.pairwise_singleton _ _⟩;have:c=(V.h0,V.h1):=by simpa using hc
    subst this;exact ok.hh
  refine r_d (fun h=>?_) (fun h=>?_)
  . walk_at"g";refine fin_same (q' [(V.h0,V.h1)] ⟨one,fun k=>?_,by show 1<=14;decide⟩);rw[zaA];constructor
    . rintro⟨c,hc,h1,h2⟩;have:c=(V.h0,V.h1):=by simpa using hc
      subst this;exact⟨h1,h2,.inl h⟩
    . rintro⟨h1,h2,_⟩;exact⟨(V.h0,V.h1),by simp,h1,h2⟩
  walk_at"g";refine⟨_,V,s,t,rfl,hv,ok,⟨bs,ss⟩,⟨bt,st⟩,?_⟩;by_cases al:Alw V s t
  case neg =>
    have e:zia (zgF V s t)=false:=by
      cases h:zgF V s t with
      |non=>exact absurd (zjc.mp h) al
      |_=>rfl
    refine r_c (zrI ?_);rw[e];walk_at"g";refine fin_same (q' [] ⟨zal.nil,fun k=>?_,by show 0<=14;decide⟩);constructor
    . intro z;simp at z
    . rintro⟨_,_,z|z⟩
      . exact absurd z h
      . exact absurd z.1 al
  rw[zjc.mpr al];walk_at"g";have f12:=ok.f12;refine⟨_,V.fs,s.1,s.2,t.1,t.2,rfl,Lst.here hf,by lia,fun F hF=>(ok.fg F hF).b,bs.1.mono (by decide),bs.2.mono (by decide),bt.1.mono (by decide),bt.2.mono (by decide),fun fs fok fh fl=>?_⟩;walk_at"g";refine⟨[(V.h0,V.h1)],fs,rfl,one,fok,by show 1+fs.length<63;lia,fun ms mok mh ml=>?_⟩;refine fin_same (q' ms ⟨mok,fun k=>?_,by have:ms.length<=1+fs.length+1:=ml;lia⟩);rw[mh k,qA,zaA]
  have e:(!fs.any (inS k))=true↔¬ ∃ F∈V.fs,zef F s.1 s.2 t.1 t.2 k:=by
    rw[<- fh k];cases fs.any (inS k)<;>simp
  rw[e];constructor
  . rintro⟨⟨c,hc,h1,h2⟩,h3⟩;have:c=(V.h0,V.h1):=by simpa using hc
    subst this;exact⟨h1,h2,.inr ⟨al,h3⟩⟩
  . rintro⟨h1,h2,z|z⟩
    . exact absurd z h
    . exact⟨⟨(V.h0,V.h1),by simp,h1,h2⟩,z.2⟩
def zi2 (S:Sto)(r:Nat)(V:Vl)(k:Nat):Prop:=∃ row:List (List (Int×Int)),S[r]?=some (.lst (row.map fun ms=>.tup (ms.map p2)))/\row.length=V.bs.length/\∀ (j:Nat) ms b c,row[j]?=some ms->V.bs[k]?=some b->V.bs[j]?=some c->zjQ V b.1 c.1 b.2 c.2 ms
def zi2.old {S T:Sto}{r k:Nat}{V:Vl}(h:zi2 S r V k):zi2 (S++T) r V k:=by
 obtain⟨row,h1,h2⟩:=h;exact⟨row,zX h1,h2⟩
def zdT (S:Sto)(t:D)(V:Vl):Prop:=∃ rs:List Nat,Lst S t (rs.map D.ref)/\rs.length=V.bs.length/\∀ (k r:Nat),rs[k]?=some r->zi2 S r V k
theorem zdT.old {S T:Sto}{t:D}{V:Vl}(h:zdT S t V):zdT (S++T) t V:=by
 obtain⟨rs,h1,h2,h3⟩:=h;exact⟨rs,h1.old,h2,fun k r e=>(h3 k r e).old⟩
def zde:DSp:=fun ds S Q=>∃ (v:D) (V:Vl),ds=[v]/\VAt S v V/\za9 V/\∀ (T:Sto) (t:D),zdT (S++T) t V->Q t (S++T)
abbrev zg8:DS :=
    (zB (zJ (dLC 1 [] (zaR (zaQ "beacons" vr0)) gn0 zbt zbu) gn1)
 (zT (dLC 1 [1,0] (zaR vr1) gn0 zbt (dLC 1 [2,0] (zaR vr1) gn0 zbt (zbE zez xF (zf vr1 (zf vr2 ua0)))))))
def zj9:BodyOk 2 zg8 zde:=by
 rintro ds S Q ⟨v,V,rfl,hv,ok,q⟩;unfold zg8;have b12:=ok.b12;obtain⟨m,g,b',f,rfl,hm,hg,hb,_⟩:=id hv;have vo:∀ T,VAt (S++T) (.ref m) V:=fun T=>hv.old
 walk_at"g";refine za4 (fun _=>true) (zhI fun b=>.str b.1) (Lst.here hb) (by rw[qb];unfold big;lia) (fun i d ys hd hw=>?_) ?_
 ·obtain⟨b,_,rfl⟩:=zer hd;walk_at"g";exact zbL hd hw rfl rfl
 rw[filter_true,zdp,show V.bs.map (fun b=>D.str b.1)=(V.bs.map (·.1)).map D.str by rw[qT];rfl];unfold New;obtain⟨S1,hS1⟩:∃ S1:Sto,S1=S++[Cell.lst ((V.bs.map (·.1)).map D.str)]:=⟨_,rfl⟩
 have kn:∀ T,Lst (S1++T) (.ref S.length) ((V.bs.map (·.1)).map D.str):=fun T=>hS1▸Lst.old Lst.at0
 have kn0:Lst S1 (.ref S.length) ((V.bs.map (·.1)).map D.str):=hS1▸Lst.at0;have v1:∀ T,VAt (S1++T) (.ref m) V:=fun T=>hS1▸(vo _).old
 have x1:∃ T,S1=S++T:=⟨_,hS1⟩
 rw[<- hS1];clear hS1;generalize S.length=nn at kn kn0;walk_at"g";refine zrE (fun i ys S'=>∃ (T:Sto) (rs:List Nat),S'=S1++T/\ys=rs.map D.ref/\rs.length=i/\∀ (k r:Nat),rs[k]?=some r->zi2 S' r V k) ⟨[],[],by simp,rfl,rfl,fun k r h=>by simp at h⟩ (fun i ys S' zq8=>by obtain⟨T,_,e,_⟩:=zq8;exact e▸kn _) (by rw[qb,qb];unfold big;lia) ?_ ?_
 ·rintro i d ys S' hd ⟨T,rs,rfl,rfl,hl,hr⟩;obtain⟨z,hz,rfl⟩:=zi4 hd
  have hk:∃ b,V.bs[i]?=some b/\b.1=z:=by
   rw[qk]at hz;cases e:V.bs[i]? with
   |none=>rw[e]at hz;cases hz
   |some b=>rw[e]at hz;exact⟨b,rfl,qM hz⟩
  obtain⟨b,hb,rfl⟩:=hk;have kn1:=kn T;walk_at"g";have fl1:∀ b∈V.bs,fl 20 (.str b.1)=true:=fun b hb=>zeW (ok.nm b hb) 20
  have mb:=qf hb;refine zrE (fun j ys S'=>S'=S1++T/\∃ row:List (List (Int×Int)),ys=(row.map fun ms=>D.tup (ms.map p2))/\row.length=j/\∀ (a:Nat) ms c,row[a]?=some ms->V.bs[a]?=some c->zjQ V b.1 c.1 b.2 c.2 ms) ⟨rfl,[],rfl,rfl,fun a ms c h=>by simp at h⟩ (fun j ys S' e=>e.1▸kn1) (by rw[qb,qb];unfold big;lia) ?_ ?_
  ·rintro j d' ys S' hd' ⟨rfl,row,rfl,hrl,hrow⟩;obtain⟨y,hy,rfl⟩:=zi4 hd'
   obtain⟨c,hc,rfl⟩:∃ c,V.bs[j]?=some c/\c.1=y:=by
    rw[qk]at hy;cases e:V.bs[j]? with
    |none=>rw[e]at hy;cases hy
    |some b=>rw[e]at hy;exact⟨b,rfl,qM hy⟩
   have mc:=qf hc;walk_at"g";refine⟨_,V,b.1,c.1,rfl,v1 T,ok,fl1 b mb,fl1 c mc,fun no=>?_,fun s t hs ht ms hm=>?_⟩
   ·rcases no with no|no
    ·exact(no b mb rfl).elim
    ·exact(no c mc rfl).elim
   have es:s=b.2:=congrArg Prod.snd (ziw ok hs mb rfl);have et:t=c.2:=congrArg Prod.snd (ziw ok ht mc rfl);subst es et;refine⟨rfl,row++[ms],by rw[qH];rfl,by simp[hrl],fun a ms' c' h h'=>?_⟩;rcases qX a row.length with g|g
   ·rw[qu g]at h;exact hrow a ms' c' h h'
   ·have lj:=zad h;rw[qi]at lj;have ej:a=row.length:=by simp at lj;lia
    subst ej;rw[qj (qe _),Nat.sub_self]at h;have e:ms=ms':=by simpa using h
    subst e;rw[hrl,hc]at h';cases h';exact hm
  rintro ys S' ⟨rfl,row,rfl,hrl,hrow⟩;rw[qb,qb]at hrl;unfold New;have hn:zi2 (S1++T++[.lst (row.map fun ms=>D.tup (ms.map p2))]) (S1++T).length V i:=⟨row,zag,hrl,fun j ms b' c h1 h2 h3=>by rw[hb]at h2;cases h2;exact hrow j ms c h1 h3⟩
  refine⟨T++[.lst (row.map fun ms=>D.tup (ms.map p2))],rs++[(S1++T).length],by rw[qh],by rw[qH];rfl,by simp[hl],fun k r h=>?_⟩;rcases qX k rs.length with g|g
  ·rw[qu g]at h;exact(hr k r h).old
  ·have lj:=zad h;rw[qi]at lj;have ej:k=rs.length:=by simp at lj;lia
   subst ej;rw[qj (qe _),Nat.sub_self]at h;have e:(S1++T).length=r:=by simpa using h
   rw[<- e,hl];exact hn
 rintro ys S' ⟨T,rs,rfl,rfl,hl,hr⟩;rw[qb,qb]at hl;unfold New;obtain⟨T1,rfl⟩:=x1;rw[qh S]at hr ⊢;generalize T1++T=T2 at hr;have va:zdT (S++T2++[.lst (rs.map D.ref)]) (.ref (S++T2).length) V:=⟨rs,Lst.at0,hl,fun k r h=>(hr k r h).old⟩
 rw[qh]at va ⊢;exact fin_same (q _ _ va)
def zc6:DSp:=fun ds S Q=>∃ (ms:List (Int×Int)) (h:Int),ds=[.tup (ms.map p2),.int h]/\Q (za2 (zaU ms h)) S
abbrev zhn:DS :=
    (zB (zbp (zaR vr0) (zbh 2 (zV gn2 (zV gn3 zbk))) (sIf (dT (dOp oGe vr3 vr1)) (zT (dB zdE (zf vr2 ua1))) zZ))
 (zT (dC .non)))
def zkQ:BodyOk 4 zhn zc6:=by
 rintro ds S Q ⟨ms,h,rfl,q⟩;unfold zhn;walk_at"g";refine zaJ (fun i Z S'=>∃ w1 w2,Z=[some (.tup (ms.map p2)),some (.int h),w1,w2]/\S'=S/\zaU ms h=zaU (ms.drop i) h) ⟨none,none,rfl,rfl,rfl⟩ (fun _ _ _ _=>True.intro) ?_ ?_
 ·rintro i d Z S' hd ⟨w1,w2,rfl,rfl,e⟩;obtain⟨c,hc,rfl⟩:=zc1 hd;have hi:=zad hc
  have ed:ms.drop i=c::ms.drop (i+1):=by
   rw[List.drop_eq_getElem_cons hi];rw[qc hi]at hc;cases hc;rfl
  rw[ed]at e;walk_at"g";refine r_d (fun g=>?_) (fun g=>?_)
  ·walk_at"g";have e2:zaU ms h=some (max c.1 h):=by rw[e];unfold zaU;rw[if_pos g]
   rw[e2]at q;exact fin_same q
  ·walk_at"g";refine⟨_,_,rfl,rfl,?_⟩;rw[e];show(if h<=c.2 then _ else _)=_;rw[if_neg g]
 ·rintro Z S' ⟨w1,w2,rfl,rfl,e⟩;rw[qb,List.drop_length]at e;rw[e]at q;walk_at"g";exact fin_same q
def zed:DSp:=fun ds S Q=>∃ (t:D) (V:Vl) (s:Nat) (h:Int),ds=[t,.int (s:Nat),.int h,.int V.dl]/\zdT S t V/\za9 V/\s<V.bs.length/\∀ (T:Sto) (k:Nat) (lit:List (Option Int)),lit.length=V.bs.length->Ear (zaS V) V.dl s h (fun j=>(lit[j]?).join)->(S++T)[k]?=some (.lst (za7 lit))->S.length<=k->Q (.ref k) (S++T)
abbrev zjC:DS :=
    (zB (zJ (dLC 1 [] (zaR vr0) gn0 zbt (dC .non)) gn4)
 (zB (zJ vr2 (zgi vr4 vr1))
 (zB (zbp (zeL (zf (dB zb6 ua0) zF)) gn5 (zbp (zfp ua0) (zbh 2 (zV gn6 (zV gn7 zbk))) (zbp (zfp ua7) (zbh 2 (zV gn8 (zV gn9 zbk))) (sIf (zdZ (dT (dOp zc8 (dOp oIx vr4 vr6) (dC .non))) (dT (dOp oNe vr8 vr1))) (zB (zJ (dCall zc6 (zf vr9 (zf (dOp oIx vr4 vr6) zF))) zqM)
 (sIf (zdZ (dT (dOp zc8 zj3 (dC .non))) (zdZ (dT (dOp oNe vr6 vr8)) (dOr (dT (dOp oIs (dOp oIx vr4 vr8) (dC .non))) (dT (dOp oLt (dOp zao zj3 vr3) (dOp oIx vr4 vr8)))))) (zJ (dOp zao zj3 vr3) (zgi vr4 vr8)) zZ)) zZ))))
 (zT vr4))))
def znj:BodyOk 11 zjC zed:=by
  rintro ds S Q ⟨t,V,s,h,rfl,ht,ok,hsn,q⟩;unfold zjC;obtain⟨rs,hrs,hrl,hrow⟩:=id ht;have b12:=ok.b12;have hd:=ok.dl;walk_at"g";refine za4 (fun _=>true) (fun _=>.non) hrs (by rw[qb];unfold big;lia) (fun i d ys hd' hw=>?_) ?_
  . walk_at"g";exact zbL hd' hw rfl rfl
  rw[filter_true,qT,show rs.map ((fun _=>D.non) ∘ D.ref)=za7 (List.replicate V.bs.length none) by show _=(List.replicate V.bs.length (none:Option Int)).map za2;rw[List.map_replicate,<- hrl];exact map_const rs D.non];walk_at"g";walk_at"h";refine zh5 (j:=s) zag (zpo (by rw[qD];exact hsn)) (ze6 ?_);rw[show(za7 (List.replicate V.bs.length none)).set s (.int h)=za7 ((List.replicate V.bs.length none).set s (some h)) by rw[<- zcL];exact(List.map_set ..).symm];have hrT:∀ T,Lst (S++T) t (rs.map D.ref):=fun T=>hrs.old
  have hr1:=hrT [.lst (za7 ((List.replicate V.bs.length none).set s (some h)))]
  have r0:Rnd (zaS V) V.dl s h V.bs.length 0 ((List.replicate V.bs.length none).set s (some h)):=by
    refine⟨by simp,fun j h' e=>?_,fun vs j h' p l=>?_⟩
    . by_cases ej:j=s
      . subst ej;rw[qS (by simpa using hsn)]at e;cases e;exact .base
      . rw[qN (Ne.symm ej)]at e;have:=List.eq_of_mem_replicate (qf e);cases this
    . cases p with
      |base=>exact⟨h,by rw[qS (by simpa using hsn)],qac _⟩
      |step p _ _ hm=>cases p<;>simp at l
  walk_at"g";rw[qb];refine⟨_,rfl,by lia,by lia,?_⟩;refine zaJ (fun r Z S'=>∃ (G:Sto) (lit:List (Option Int)) (w5 w6 w7 w8 w9 w10:Option D),S'=S++Cell.lst (za7 lit)::G/\Rnd (zaS V) V.dl s h V.bs.length r lit/\Z=[some t,some (.int (s:Nat)),some (.int h),some (.int V.dl),some (.ref S.length),w5,w6,w7,w8,w9,w10]) ⟨[],_,_,_,_,_,_,_,rfl,r0,rfl⟩ (fun _ _ _ _=>True.intro) ?_ ?_
  . rintro r d Z S' hd' ⟨G,lit,w5,w6,w7,w8,w9,w10,rfl,hR,rfl⟩;have ll:=hR.len;have hr2:=hrT (Cell.lst (za7 lit)::G);walk_at"g";refine zk2 (xs:=rs.map D.ref) hr2 ?_;refine zaJ (fun k Z S'=>∃ (G:Sto) (lit:List (Option Int)) (w5 w6 w7 w8 w9 w10:Option D),S'=S++Cell.lst (za7 lit)::G/\Swp (zaS V) V.dl s h V.bs.length r (fun a b=>a<k) lit/\Z=[some t,some (.int (s:Nat)),some (.int h),some (.int V.dl),some (.ref S.length),w5,w6,w7,w8,w9,w10]) ⟨G,lit,_,_,_,_,_,_,rfl,⟨hR,fun k j hk=>absurd hk (Nat.not_lt_zero _)⟩,rfl⟩ (fun k Z S' zq9=>by obtain⟨_,_,_,_,_,_,_,_,e,_⟩:=zq9;exact e▸hrT _) ?_ ?_
    . rintro k d' Z S' hdk ⟨G,lit,w5,w6,w7,w8,w9,w10,rfl,hS,rfl⟩;obtain⟨y,hy,rfl⟩:=zb0 hdk
      obtain⟨rk,hrk,rfl⟩:∃ rk,rs[k]?=some rk/\y=.ref rk:=by
        rw[qk]at hy;cases e:rs[k]? with
        |none=>rw[e]at hy;cases hy
        |some b=>rw[e]at hy;exact⟨b,rfl,(qM hy).symm⟩
      have hkn:k<V.bs.length:=by rw[<- hrl];exact zad hrk
      obtain⟨row,hro,hrw,hsee⟩:=hrow k rk hrk;have hroT:∀ T,Lst (S++T) (.ref rk) (row.map fun ms=>D.tup (ms.map p2)):=fun T=>Lst.here (zX hro)
      have hro1:=hroT (Cell.lst (za7 lit)::G);walk_at"g";refine zk2 (xs:=row.map fun ms=>D.tup (ms.map p2)) hro1 ?_;refine zaJ (fun j Z S'=>∃ (G:Sto) (lit:List (Option Int)) (w8 w9 w10:Option D),S'=S++Cell.lst (za7 lit)::G/\Swp (zaS V) V.dl s h V.bs.length r (fun a b=>a<k\/(a=k/\b<j)) lit/\Z=[some t,some (.int (s:Nat)),some (.int h),some (.int V.dl),some (.ref S.length),w5,some (.int ((0+k:Nat):Int)),some (.ref rk),w8,w9,w10]) ⟨G,lit,_,_,_,rfl,⟨hS.rnd,fun a b z=>hS.don a b (by lia)⟩,rfl⟩ (fun k Z S' zq10=>by obtain⟨_,_,_,_,_,e,_⟩:=zq10;exact e▸hroT _) ?_ ?_
      . rintro j d' Z S' hdj ⟨G,lit,w8,w9,w10,rfl,hS,rfl⟩;obtain⟨y,hy,rfl⟩:=zb0 hdj
        obtain⟨ms,hms,rfl⟩:∃ ms,row[j]?=some ms/\y=.tup (ms.map p2):=by
          rw[qk]at hy;cases e:row[j]? with
          |none=>rw[e]at hy;cases hy
          |some b=>rw[e]at hy;exact⟨b,rfl,(qM hy).symm⟩
        have hjn:j<V.bs.length:=by rw[<- hrw];exact zad hms
        have ll:=hS.rnd.len;have ak:atD (za7 lit) ((0+k:Nat):Int)=some (za2 ((lit[k]?).join)):=by rw[Nat.zero_add];exact znV (by lia)
        have aj:atD (za7 lit) ((0+j:Nat):Int)=some (za2 ((lit[j]?).join)):=by rw[Nat.zero_add];exact znV (by lia)
        have stay:(∀ vs h' u,Lp (zaS V) V.dl s h vs k h'->vs.length<=r+1->h'<=u->zaS V k j u->∃ h2,lit[j]?=some (some h2)/\h2<=u+V.dl)->Swp (zaS V) V.dl s h V.bs.length r (fun a b=>a<k\/(a=k/\b<j+1)) lit:=fun hq =>
          hS.keep ll hS.rnd.snd (fun j h e=>⟨h,e,qac _⟩) fun a b z1 z2=>by
            have e1:a=k:=by lia
            have e2:b=j:=by lia
            subst e1 e2;exact hq
        cases hlk:(lit[k]?).join with
        |none =>
          rw[hlk,zeC]at ak;walk_at"g";refine⟨G,lit,_,_,_,rfl,stay fun vs h' u p l _ _=>?_,rfl⟩;obtain⟨h2,e,_⟩:=hS.rnd.prg vs k h' p l;rw[e]at hlk;cases hlk
        |some hk' =>
          have glk:=zkk hlk;rw[hlk,zcL]at ak;walk_at"g";refine zlb (fun hn=>?_) (fun hn=>?_)
          . walk_at"g";refine⟨ms,hk',rfl,?_⟩
            have prg':∀ vs h' u,Lp (zaS V) V.dl s h vs k h'->vs.length<=r+1->h'<=u->zaS V k j u->hk'<=u:=fun vs h' u p l hu _=>by
              obtain⟨h2,e,le⟩:=hS.rnd.prg vs k h' p l;rw[glk]at e;cases e;lia
            have fsp:k≠j->zd0 (zcs V k j) hk'=zaU ms hk':=fun hkj=>zfJ ok (qc hkn) (qc hjn) hkj (hsee j ms _ _ hms (qc hkn) (qc hjn)) hk'
            have self:k=j->∀ u,¬ zaS V k j u:=fun e u hu=>by
              subst e;unfold zaS at hu;rw[zm3]at hu;cases hu
            cases hf:zaU ms hk' with
            |none =>
              rw[hf]at fsp;rw[zeC];walk_at"g";refine⟨G,lit,_,_,_,rfl,stay fun vs h' u p l hu hse=>?_,rfl⟩;by_cases hkj:k=j
              . exact absurd hse (self hkj u)
              . exact absurd (prg' vs h' u p l hu hse) (zfZ (fsp hkj) u hse)
            |some u0 =>
              rw[hf]at fsp;rw[zcL];walk_at"g";refine zlb (fun hkj=>?_) (fun hkj=>?_)
              . obtain⟨m0,g0,least⟩:=zga (zgf V k j) (fsp (by lia));have lnew:Lt (zaS V) V.dl s h j (u0+V.dl):=.step (hS.rnd.snd k hk' glk) g0 m0
                have put':∀ (_:∀ h2,lit[j]?=some (some h2)->u0+V.dl<=h2),Swp (zaS V) V.dl s h V.bs.length r (fun a b=>a<k\/(a=k/\b<j+1)) (lit.set j (some (u0+V.dl))):=fun hlow=>by
                  have gs:(lit.set j (some (u0+V.dl)))[j]?=some (some (u0+V.dl)):=by rw[qS (by lia)]
                  refine hS.keep (by rw[qad];exact ll) (fun j' h' e=>?_) (fun j' h' e=>?_) fun a b z1 z2=>?_
                  . by_cases ej:j'=j
                    . subst ej;rw[gs]at e;cases e;exact lnew
                    . rw[qN (Ne.symm ej)]at e;exact hS.rnd.snd j' h' e
                  . by_cases ej:j'=j
                    . subst ej;exact⟨_,gs,hlow h' e⟩
                    . exact⟨h',by rw[qN (Ne.symm ej)];exact e,qac _⟩
                  . have e1:a=k:=by lia
                    have e2:b=j:=by lia
                    subst e1 e2;intro vs h' u p l hu hse;exact⟨_,gs,by have:=least u hse (prg' vs h' u p l hu hse);lia⟩
                have hput:(za7 lit).set j (.int (u0+V.dl))=za7 (lit.set j (some (u0+V.dl))):=by rw[<- zcL];exact(List.map_set ..).symm
                have hix:ixD (za7 lit).length ((0+j:Nat):Int)=some j:=by rw[Nat.zero_add];exact zpo (by lia)
                cases hlj:(lit[j]?).join with
                |none =>
                  rw[hlj,zeC]at aj;walk_at"g";refine zh5 zag hix (ze6 ?_);rw[hput];refine⟨_,_,_,_,_,rfl,put' fun h2 e=>?_,rfl⟩;rw[e]at hlj;cases hlj
                |some hj' =>
                  have glj:=zkk hlj;rw[hlj,zcL]at aj;walk_at"g";refine r_d (fun g=>?_) (fun g=>?_)
                  . walk_at"g";refine zh5 zag hix (ze6 ?_);rw[hput];refine⟨_,_,_,_,_,rfl,put' fun h2 e=>?_,rfl⟩;rw[glj]at e;cases e;lia
                  . walk_at"g";refine⟨_,lit,_,_,_,rfl,stay fun vs h' u p l hu hse=>?_,rfl⟩;exact⟨hj',glj,by have:=least u hse (prg' vs h' u p l hu hse);lia⟩
              . walk_at"g";refine⟨G,lit,_,_,_,rfl,stay fun vs h' u p l hu hse=>?_,rfl⟩;exact absurd hse (self (by lia) u)
          . walk_at"g";refine⟨G,lit,_,_,_,rfl,stay fun vs h' u p l hu hse=>?_,rfl⟩;obtain⟨h2,e,le⟩:=hS.rnd.prg [s] s h .base (by simp);have:=(p.lt).ge hd;rw[show j=s by lia];exact⟨h2,e,by lia⟩
      . rintro Z S' ⟨G,lit,w8,w9,w10,rfl,hS,rfl⟩;rw[zbm,qb,hrw]at hS
        exact⟨G,lit,_,_,_,_,_,_,rfl,hS.keep hS.rnd.len hS.rnd.snd (fun j h e=>⟨h,e,qac _⟩) fun a b z1 z2 vs h' u p l hu hse=>by
          have:=ze2 hse;exact absurd (show a<k\/(a=k/\b<V.bs.length) by lia) (by lia),rfl⟩
    . rintro Z S' ⟨G,lit,w5,w6,w7,w8,w9,w10,rfl,hS,rfl⟩;rw[zbm,qb,hrl]at hS;exact⟨G,lit,_,_,_,_,_,_,rfl,hS.next hsn (fun k j u z=>ze2 z) fun k j hk hj=>hk,rfl⟩
  . rintro Z S' ⟨G,lit,w5,w6,w7,w8,w9,w10,rfl,hR,rfl⟩;rw[zeU]at hR;have e:((rs.length:Nat):Int).toNat=V.bs.length:=by lia
    rw[e]at hR;walk_at"g";exact fin_same (q _ _ lit hR.len (hR.ear hd hsn fun k j u z=>ze2 z) zag (qe _))
def zbI:DSp:=fun ds S Q=>∃ (v:D) (V:Vl),ds=[v]/\VAt S v V/\V.bs.length<=100/\New Q S ((V.bs.map (·.1)).map D.str)
abbrev zh1:DS :=
  (zT (dLC 1 [] (zaR (zaQ "beacons" vr0)) gn0 zbt zbu))
def zlO:BodyOk 1 zh1 zbI:=by
 rintro ds S Q ⟨v,V,rfl,hv,hl,q⟩;unfold zh1;obtain⟨m,g,b',f,rfl,hm,hg,hb,_⟩:=hv;walk_at"g";refine za4 (fun _=>true) (zhI fun b=>.str b.1) (Lst.here hb) (by rw[qb];unfold big;lia) (fun i d ys hd hw=>?_) ?_
 ·obtain⟨b,_,rfl⟩:=zer hd;walk_at"g";exact zbL hd hw rfl rfl
 rw[filter_true,zdp,show V.bs.map (fun b=>D.str b.1)=(V.bs.map (·.1)).map D.str by rw[qT];rfl];exact fin_same q
def zbv:zcv:=fun ds S Q ex=>∃ (v:D) (V:Vl) (n:Str),ds=[v,.str n]/\VAt S v V/\za9 V/\fl 20 (.str n)=true/\(n∉V.bs.map (·.1)->∀ T,ex "NoBeacon" (S++T))/\(n∈V.bs.map (·.1)->Q .non S)
abbrev zdP (ex:XR):DS :=
  (sIf (dT (dOp zkA vr1 (dCall zbI ua0))) (zet ex "NoBeacon") zZ)
def zfN:zbS 2 zdP zbv:=by
 rintro ds S Q ex ⟨v,V,n,rfl,hv,ok,hn,hx,q⟩;unfold zdP;have b12:=ok.b12;walk_at"g";refine⟨v,V,rfl,hv,by lia,?_⟩;walk_at"g";refine zo8 (.inr Lst.at0) hn ok.flN ?_;walk_at"g";refine zlb (fun h=>?_) (fun h=>?_)
 ·walk_at"g";exact hx h _
 ·walk_at"g";exact zaX rfl (q h)
def zbO:zcv:=fun ds S Q ex=>∃ (v:D) (V:Vl) (h:Int),ds=[v,.int h]/\VAt S v V/\(¬ (V.h0<=h/\h<=V.h1)->ex "BadHour" S)/\(V.h0<=h->h<=V.h1->Q .non S)
abbrev zeo (ex:XR):DS :=
  (sIf (dOr (dT (dOp oLt vr1 (zaQ "first" vr0))) (dT (dOp oGt vr1 (zaQ "last" vr0)))) (zet ex "BadHour") zZ)
def zgW:zbS 2 zeo zbO:=by
 rintro ds S Q ex ⟨v,V,h,rfl,hv,hx,q⟩;unfold zeo;obtain⟨m,g,b',f,rfl,hm,hg,hb,_⟩:=hv;walk_at"g";refine r_d (fun h1=>?_) (fun h1=>?_)
 ·walk_at"g";exact hx (by lia)
 walk_at"g";refine r_d (fun h2=>?_) (fun h2=>?_)
 ·walk_at"g";exact hx (by lia)
 walk_at"g";exact fin_same (q (by lia) (by lia))
def zcz:DSp:=fun ds S Q=>∃ (ms:List (Int×Int)) (h:Int),ds=[.tup (ms.map p2),.int h]/\Q (za2 (zaU ms h)) S
abbrev zgk:DS :=
    (zB (zbp (zaR vr0) (zbh 2 (zV gn2 (zV gn3 zbk))) (sIf (dT (dOp oLe vr1 vr3)) (zT (dB zdE (zf vr2 ua1))) zZ))
 (zT (dC .non)))
def zjN:BodyOk 4 zgk zcz:=by
 rintro ds S Q ⟨ms,h,rfl,q⟩;unfold zgk;walk_at"g";refine zaJ (fun i Z S'=>∃ w1 w2,Z=[some (.tup (ms.map p2)),some (.int h),w1,w2]/\S'=S/\zaU ms h=zaU (ms.drop i) h) ⟨none,none,rfl,rfl,rfl⟩ (fun _ _ _ _=>True.intro) ?_ ?_
 ·rintro i d Z S' hd ⟨w1,w2,rfl,rfl,e⟩;obtain⟨c,hc,rfl⟩:=zc1 hd;have hi:=zad hc
  have ed:ms.drop i=c::ms.drop (i+1):=by
   rw[List.drop_eq_getElem_cons hi];rw[qc hi]at hc;cases hc;rfl
  rw[ed]at e;walk_at"g";refine r_d (fun g=>?_) (fun g=>?_)
  ·walk_at"g";have e2:zaU ms h=some (max c.1 h):=by rw[e];unfold zaU;rw[if_pos g]
   rw[e2]at q;exact fin_same q
  ·walk_at"g";refine⟨_,_,rfl,rfl,?_⟩;rw[e];show(if h<=c.2 then _ else _)=_;rw[if_neg g]
 ·rintro Z S' ⟨w1,w2,rfl,rfl,e⟩;rw[qb,List.drop_length]at e;rw[e]at q;walk_at"g";exact fin_same q
def zc4:DSp:=fun ds S Q=>∃ (v:D) (V:Vl) (z:Str) (s:Nat) (h:Int) (t:Nat),ds=[v,.str z,.int h]/\VAt S v V/\za9 V/\zdX V s z/\S[t]?=some zar/\∀ (T:Sto) (k:Nat) (fi:List Nat) (f:Nat->En),zmQ V s h fi f->(S++T)[k]?=some (.dk (kvE V fi fun j=>enD V (f j)))->S.length<=k->Q (.ref k) (S++T)
abbrev zg0:DS :=
    (zB (zJ (znw) gn3)
 (zB (zJ (zkm vr1 (dTup (zf (dC .non) (zf vr2 ua2)))) gn4)
 (zB (zgo (dT (dOp oGt (znB vr4) ci0)) (zB (zJ (zns false "lightings" 262 39 vr4 [4] (dOp oIx (zi5 vr1 vr0) ci2)) gn5)
 (zB (zj2 vr3 vr5 (zm6 vr4 vr5))
 (zbp (zaR (dCall zbI ua0)) gn6 (sIf (dT (zgq vr6 vr3)) (zB (zJ (dCall zcz (zf (zbE zez xF (zf vr0 (zf vr5 ua6))) (zf (dOp oIx (zi5 vr3 vr5) ci2) zF))) gn7)
 (sIf (zdZ (dT (dOp zc8 vr7 (dC .non))) (dOr (dT (zgq vr6 vr4)) (dT (dOp oLt (dOp zao vr7 (zaQ "delay" vr0)) (dOp oIx (zi5 vr4 vr6) ci2))))) (zj2 vr4 vr6 (dTup (zf vr5 (zf vr7 (zf (dOp zao vr7 (zaQ "delay" vr0)) zF))))) zZ)) zZ)))))
 (zT vr3))))
def zkJ:BodyOk 8 zg0 zc4:=by
 rintro ds S Q ⟨v,V,z,s,h,t,rfl,hv,ok,hz,htb,q⟩;unfold zg0;have b12:=ok.b12;have hd:=ok.dl;obtain⟨m,g0,b',f',rfl,hm,_⟩:=id hv;obtain⟨zb,hzb,rfl⟩:=hz;have hs:s<V.bs.length:=zad hzb;rw[<- zkB hzb]
 have fln:∀ {k:Nat},k<V.bs.length->fl 20 (.str (nmH V k))=true:=fun {k} hk=>by
  obtain⟨b,hb,e⟩:=zdL hk;rw[e];exact zeW (ok.nm b (qf hb)) 20
 have hmT:∀ T,(S++T)[m]?=some (.ins "Valley" (vF (.ref g0) (.ref b') (.ref f') (za2 V.hz) (.int V.h0) (.int V.h1) (.int V.dl))):=fun T=>zX hm
 have htT:∀ T,(S++T)[t]?=some zar:=fun T=>zX htb
 have k0:∀ c T,(S++c::T)[S.length]?=some c:=fun c T=>zag
 have k1:∀ c d T,(S++c::d::T)[S.length+1]?=some d:=fun c d T=>zbr _ _ 1
 walk_at"g";refine⟨_,rfl,zag,?_⟩;rw[show(S++[Cell.dk []]++[Cell.dk []]).set (S++[Cell.dk []]).length (Cell.dk [(nmH V s,D.tup [D.non,D.int h,D.int h])])=S++Cell.dk (kvE V [] fun j=>enD V (none,h,h))::Cell.dk (kvE V [s] fun j=>enD V (none,h,h))::[] by simp[kvE,enD],show(S++[Cell.dk []]).length=S.length+1 by simp];walk_at"g";walk_at"h";refine zqH (fun m' Z S'=>∃ (fi:List Nat) (f:Nat->En) (wi:List Nat) (g:Nat->En) (G:Sto) (w5 w6 w7:Option D),m'=V.bs.length-fi.length/\S'=S++Cell.dk (kvE V fi fun j=>enD V (f j))::Cell.dk (kvE V wi fun j=>enD V (g j))::G/\Djk V s h (fun _ _=>True) fi f wi g/\Run V s h fi f wi g/\Z=[some (.ref m),some (.str (nmH V s)),some (.int h),some (.ref S.length),some (.ref (S.length+1)),w5,w6,w7]) _ ⟨[],fun _=>(none,h,h),[s],fun _=>(none,h,h),[],none,none,none,rfl,rfl,Djk.start hs,.base,rfl⟩ ?_;rintro m' Z S' ⟨fi,f,wi,g,G,w5,w6,w7,rfl,rfl,I,R,rfl⟩;have hW:=k1 (Cell.dk (kvE V fi fun j=>enD V (f j))) (Cell.dk (kvE V wi fun j=>enD V (g j))) G;walk_at"g";refine⟨_,_,rfl,hW,?_⟩;rw[zdq];walk_at"g";refine r_d (fun c0=>?_) (fun c0=>?_)
 case refine_2 =>
  have e0:wi=[]:=List.length_eq_zero_iff.mp (by lia);subst e0;walk_at"g";exact fin_same (q _ _ fi f (I.done R) zag (qe _))
 walk_at"g";refine⟨S.length+1,_,t,fun i=>(wi[i]?).elim 0 fun k=>(g k).2.2,rfl,hW,by rw[zdq];lia,htT _,fun i z v e=>?_,fun i z v e hb=>?_⟩
 ·obtain⟨k,hk,rfl,rfl⟩:=zo3 e;have mk:=qf hk;walk_at"g";refine⟨_,DGt.k hW ((zcu ok I.lw (I.lw k mk)).trans (if_pos mk)),?_⟩;unfold enD;walk_at"g";exact⟨by show _=D.int ((wi[i]?).elim 0 fun k=>(g k).2.2);rw[hk];rfl,rfl⟩
 obtain⟨a,ha,rfl,rfl⟩:=zo3 e;have ma:=qf ha;have la:=I.lw a ma
 have hmin:∀ j∈wi,(g a).2.2<=(g j).2.2:=fun j mj=>by
  obtain⟨i',hi'⟩:=List.mem_iff_getElem?.mp mj;have:=(hb i' (by rw[zdq];exact zad hi')).1;simpa [sgB,ha,hi']using this
 have pk:Pick g wi a:=⟨i,ha,fun j b hj=>by
  have:=hb j (by rw[zdq];exact zad hj);simpa [sgB,ha,hj]using this⟩
 have R2:=R.step pk;clear hb e R pk;walk_at"g";refine⟨⟨_,rfl,.inl ⟨_,hW⟩⟩,?_⟩;walk_at"g";refine⟨_,_,_,_,rfl,rfl,hW,(zcu ok I.lw la).trans (if_pos ma),?_⟩;rw[zpN ok I.lw la,set_1];walk_at"g";have l0:=zfi I.nd I.lt;refine zff.k (k0 _ _) (by rw[zdq];unfold big;lia) (ze6 ?_);rw[zmb ok I.lt la,if_neg (fun z=>I.ap a z ma),zl4];have J:=I.take ma hmin;have lF:=zfi J.nd J.lt
 have top:∀ k∈fi++[a],(zbJ f a (g a) k).2.2<=(zbJ f a (g a) a).2.2:=fun k mk=>by
  rw[za1];rcases qF.mp mk with mk|mk
  ·rw[zbd (I.na ma mk)];exact I.mon k mk a ma
  ·rw[show k=a by simpa using mk,za1];exact qac _
 have mf:a∈fi++[a]:=by simp
 have hm':V.bs.length-(fi++[a]).length<V.bs.length-fi.length:=by
  rw[qi]at lF ⊢;simp at lF ⊢;lia
 have J0:Djk V s h (fun k j=>k≠a\/j<0) (fi++[a]) (zbJ f a (g a)) (wi.filter fun k=>decide (k≠a)) g:=J.weak fun k _ j _ d=>.inl (by rcases d with d|d;exact⟨d,True.intro⟩;lia)
 clear hW I J hmin ha ma;generalize fi++[a]=fi2 at J0 lF top mf hm' R2;generalize zbJ f a (g a)=f2 at J0 top R2;generalize (wi.filter fun k=>decide (k≠a))=wi2 at J0 R2;have hV1:=hmT (Cell.dk (kvE V fi2 fun j=>enD V (f2 j))::Cell.dk (kvE V wi2 fun j=>enD V (g j))::G);walk_at"g";refine⟨_,V,rfl,hv.old,by lia,?_⟩;unfold New;obtain⟨nl,hnl⟩:∃ nl,nl=(V.bs.map (·.1)).map D.str:=⟨_,rfl⟩
 have lnl:nl.length=V.bs.length:=by rw[hnl,qb,qb]
 have gnl:∀ {i:Nat} {d:D},nl[i]?=some d->i<V.bs.length/\d=.str (nmH V i):=fun {i d} h=>by
  have hi:i<V.bs.length:=by rw[<- lnl];exact zad h
  obtain⟨b,hb,e⟩:=zdL hi;rw[hnl,qk,qk,hb]at h;exact⟨hi,by rw[e];exact(qM h).symm⟩
 rw[<- hnl];have kn:∀ c d,Lst (S++c::d::(G++[Cell.lst nl])) (.ref (S.length+(G.length+2))) nl:=fun c d=>Lst.here ((zbr _ _ _).trans (show(G++[Cell.lst nl])[G.length]?=_ from zag))
 rw[show S++Cell.dk (kvE V fi2 fun j=>enD V (f2 j))::Cell.dk (kvE V wi2 fun j=>enD V (g j))::G++[Cell.lst nl]=S++Cell.dk (kvE V fi2 fun j=>enD V (f2 j))::Cell.dk (kvE V wi2 fun j=>enD V (g j))::(G++[Cell.lst nl]) by simp,show(S++Cell.dk (kvE V fi2 fun j=>enD V (f2 j))::Cell.dk (kvE V wi2 fun j=>enD V (g j))::G).length=S.length+(G.length+2) by simp];have kn1:=kn (Cell.dk (kvE V fi2 fun j=>enD V (f2 j))) (Cell.dk (kvE V wi2 fun j=>enD V (g j)));generalize G++[Cell.lst nl]=G2 at kn kn1;walk_at"g";walk_at"h";have lnk:∀ (i:Nat) (wi':List Nat) (g':Nat->En),(wi',g')=zfl V a fi2 f2 (wi2,g) i->∀ wi'' g'',(wi'',g'')=rlx V a fi2 f2 (wi',g') i->(wi'',g'')=zfl V a fi2 f2 (wi2,g) (i+1):=fun i wi' g' e wi'' g'' e2=>by rw[zps,<- e];exact e2
 refine zaJ (fun i Z S'=>∃ (wi:List Nat) (g':Nat->En) (w6 w7:Option D),(wi,g')=zfl V a fi2 f2 (wi2,g) i/\S'=S++Cell.dk (kvE V fi2 fun j=>enD V (f2 j))::Cell.dk (kvE V wi fun j=>enD V (g' j))::G2/\Djk V s h (fun k j=>k≠a\/j<i) fi2 f2 wi g'/\Z=[some (.ref m),some (.str (nmH V s)),some (.int h),some (.ref S.length),some (.ref (S.length+1)),some (.str (nmH V a)),w6,w7]) ⟨wi2,g,_,_,rfl,rfl,J0,rfl⟩ (fun i Z S' zq11=>by obtain⟨_,_,_,_,_,e,_⟩:=zq11;exact e▸kn _ _) ?_ ?_
 case refine_2 =>
  rintro Z S' ⟨wi,g',w6,w7,er,rfl,J,rfl⟩;rw[lnl]at J er;rw[<- er]at R2;exact⟨_,hm',fi2,f2,wi,g',G2,_,_,_,rfl,rfl,J.weak fun k _ j l _=>.inl (.inr l),R2,rfl⟩
 clear J0 kn1 hV1 R2;generalize (wi2,g)=p0 at lnk;clear wi2 g;rintro j d Z S' hd' ⟨wi,g,w6,w7,er,rfl,J,rfl⟩;have lnk:=lnk j wi g er;obtain⟨lj,rfl⟩:=gnl hd';have hV1:=hmT (Cell.dk (kvE V fi2 fun j=>enD V (f2 j))::Cell.dk (kvE V wi fun j=>enD V (g j))::G2)
 have stay:(∀ u,(f2 a).2.2<=u->zaS V a j u->(j∈fi2/\(f2 j).2.2<=u+V.dl)\/(j∈wi/\(g j).2.2<=u+V.dl))->Djk V s h (fun k i=>k≠a\/i<j+1) fi2 f2 wi g:=fun z=>J.weak fun k _ i _ d=>by
  by_cases e:k=a/\i=j
  ·obtain⟨rfl,rfl⟩:=e;exact .inr z
  ·exact .inl (by rcases d with d|d;exact .inl d;by_cases e2:k=a;exact .inr (by have:i≠j:=fun x=>e ⟨e2,x⟩;lia);exact .inl e2)
 walk_at"g";refine⟨_,DGt.k (k0 _ _) (zcu ok J.lt lj),?_⟩;by_cases mj:j∈fi2
 ·rw[if_pos mj,show(some (enD V (f2 j))).isSome=true from rfl];walk_at"g";refine⟨wi,g,_,_,lnk _ _ (ztO mj).symm,rfl,stay fun u hu _=>.inl ⟨mj,?_⟩,rfl⟩;have:=top j mj;lia
 rw[if_neg mj,show(none:Option D).isSome=false from rfl];obtain⟨bn,hbn,ebn⟩:=zdL (J.lt a mf);obtain⟨cn,hcn,ecn⟩:=zdL lj;have naj:a≠j:=fun z=>mj (z▸mf)
 walk_at"g";refine⟨_,V,_,_,rfl,hv.old,ok,fln la,fln lj,fun no=>?_,fun s' t' hs' ht' ms hms=>?_⟩
 ·rcases no with no|no
  ·exact no bn (qf hbn) ebn.symm
  ·exact no cn (qf hcn) ecn.symm
 walk_at"g";refine⟨_,DGt.k (k0 _ _) ((zcu ok J.lt la).trans (if_pos mf)),?_⟩;rw[show enD V (f2 a)=.tup [match (f2 a).1 with|none=>.non|some p=>.str (nmH V p),.int (f2 a).2.1,.int (f2 a).2.2]from rfl];walk_at"g";refine⟨ms,_,rfl,?_⟩;have es:s'=bn.2:=congrArg Prod.snd (ziw ok hs' (qf hbn) ebn);have et:t'=cn.2:=congrArg Prod.snd (ziw ok ht' (qf hcn) ecn);subst es et;rw[ebn,ecn]at hms;have key:=zfJ ok hbn hcn naj hms (f2 a).2.2;cases hf:zaU ms (f2 a).2.2 with
 |none =>
  rw[hf]at key;rw[zeC];walk_at"g";exact⟨wi,g,_,_,lnk _ _ (zqm mj key).symm,rfl,stay fun u hu hs=>absurd hu (zfZ key u hs),rfl⟩
 |some u =>
  rw[hf]at key;obtain⟨u1,u2,u3⟩:=zga (zgf V a j) key;have lw:=zfi J.nw J.lw
  have put:(j∈wi->u+V.dl<=(g j).2.2)->Djk V s h (fun k i=>k≠a\/i<j+1) fi2 f2 (if j∈wi then wi else wi++[j]) (zbJ g j (some a,u,u+V.dl)):=fun hw=>(J.put mf top mj u2 u1 hd hw).weak fun k _ i _ d=>by
   by_cases e:k=a/\i=j
   ·obtain⟨rfl,rfl⟩:=e;refine .inr fun v hv hs=>.inr ⟨?_,by rw[za1];have:=u3 v hs hv;show u+V.dl<=v+V.dl;lia⟩
    by_cases mw:i∈wi
    ·rw[if_pos mw];exact mw
    ·rw[if_neg mw];simp
   ·exact .inl (by rcases d with d|d;exact .inl d;by_cases e2:k=a;exact .inr (by have:i≠j:=fun x=>e ⟨e2,x⟩;lia);exact .inl e2)
  have fin:(j∈wi->u+V.dl<(g j).2.2)->∃ (wi':List Nat) (g':Nat->En) (w6 w7:Option D),(wi',g')=zfl V a fi2 f2 p0 (j+1)/\S++Cell.dk (kvE V fi2 fun j=>enD V (f2 j))::Cell.dk (dput (kvE V wi fun j=>enD V (g j)) (nmH V j) (.tup [.str (nmH V a),.int u,.int (u+V.dl)]))::G2=S++Cell.dk (kvE V fi2 fun j=>enD V (f2 j))::Cell.dk (kvE V wi' fun j=>enD V (g' j))::G2/\Djk V s h (fun k i=>k≠a\/i<j+1) fi2 f2 wi' g'/\[some (D.ref m),some (.str (nmH V s)),some (.int h),some (.ref S.length),some (.ref (S.length+1)),some (.str (nmH V a)),some (.str (nmH V j)),some (.int u)]=[some (D.ref m),some (.str (nmH V s)),some (.int h),some (.ref S.length),some (.ref (S.length+1)),some (.str (nmH V a)),w6,w7]:=fun hw =>
   ⟨_,_,_,_,lnk (if j∈wi then wi else wi++[j]) (zbJ g j (some a,u,u+V.dl)) (zsJ (p:=(wi,g)) mj key hw).symm,by rw[show D.tup [.str (nmH V a),.int u,.int (u+V.dl)]=enD V (some a,u,u+V.dl)from rfl,zmb ok J.lw lj,zl4],put fun z=>Int.le_of_lt (hw z),rfl⟩
  rw[zcL];walk_at"g";refine⟨_,DGt.k (k1 _ _ _) (zcu ok J.lw lj),?_⟩;by_cases mw:j∈wi
  ·rw[if_pos mw,show(some (enD V (g j))).isSome=true from rfl];walk_at"g";refine⟨_,DGt.k (k1 _ _ _) ((zcu ok J.lw lj).trans (if_pos mw)),?_⟩;rw[show enD V (g j)=.tup [match (g j).1 with|none=>.non|some p=>.str (nmH V p),.int (g j).2.1,.int (g j).2.2]from rfl];walk_at"g";refine r_d (fun c=>?_) (fun c=>?_)
   ·walk_at"g";refine zff.k (k1 _ _ _) (by rw[zdq];unfold big;lia) ?_;unfold Put;rw[set_1];exact fin fun _=>by lia
   ·walk_at"g";exact⟨wi,g,_,_,lnk _ _ (zqF (p:=(wi,g)) mj key mw (by show(g j).2.2<=_;lia)).symm,rfl,stay fun v hv hs=>.inr ⟨mw,by have:=u3 v hs hv;lia⟩,rfl⟩
  ·rw[if_neg mw,show(none:Option D).isSome=false from rfl];walk_at"g";refine zff.k (k1 _ _ _) (by rw[zdq];unfold big;lia) ?_;unfold Put;rw[set_1];exact fin fun z=>absurd z mw
def zdB:zcv:=fun ds S Q ex=>∃ (v:D) (V:Vl) (z:Str) (h:Int) (t:Nat),ds=[v,.str z,.int h]/\VAt S v V/\za9 V/\fl 20 (.str z)=true/\S[t]?=some zar/\(z∉V.bs.map (·.1)->∀ T,ex "NoBeacon" (S++T))/\(z∈V.bs.map (·.1)->¬ (V.h0<=h/\h<=V.h1)->ex "BadHour" S)/\∀ s,zdX V s z->V.h0<=h->h<=V.h1->∀ (T:Sto) (k:Nat) (lit:List (Option Int)),lit.length=V.bs.length->Ear (zaS V) V.dl s h (fun j=>(lit[j]?).join)->(S++T)[k]?=some (.lst (za7 lit))->S.length<=k->Q (.ref k) (S++T)
abbrev zix (ex : XR) : DS :=
    (zB (zbb (zbE zbv ex (zf vr0 ua1)))
 (zB (zbb (zbE zbO ex (zf vr0 ua2)))
 (zB (zJ (dCall zc4 (zf vr0 (zf vr1 ua2))) gn3)
 (zT (dLC 1 [3] (zaR (dCall zbI ua0)) gn0 zbt (zqh (dT (zpU vr0 vr1)) (dOp oIx (zi5 vr1 vr0) ci2) (dC .non)))))))
def zlE:zbS 4 zix zdB:=by
 rintro ds S Q ex ⟨v,V,z,h,t,rfl,hv,ok,fz,ht,hx1,hx2,q⟩;unfold zix;have b12:=ok.b12;walk_at"g";refine⟨v,V,z,rfl,hv,ok,fz,hx1,fun hz=>?_⟩;walk_at"g";refine⟨v,V,h,rfl,hv,hx2 hz,fun g1 g2=>?_⟩;obtain⟨s,hs⟩:=zsC hz;have q':=q s hs g1 g2;clear q hx1 hx2;walk_at"g";refine⟨v,V,z,s,h,t,rfl,hv,ok,hs,ht,fun T k fi f L hk lk=>?_⟩;walk_at"g";refine⟨v,V,rfl,hv.old,by lia,?_⟩;rw[zhH];unfold New;have kn:Lst (S++T++[Cell.lst ((List.range V.bs.length).map fun i=>D.str (nmH V i))]) (.ref (S++T).length) ((List.range V.bs.length).map fun i=>D.str (nmH V i)):=Lst.here zag;have kf:(S++T++[Cell.lst ((List.range V.bs.length).map fun i=>D.str (nmH V i))])[k]?=some (.dk (kvE V fi fun j=>enD V (f j))):=zX hk;refine zrG kn ?_;refine za4 (fun _=>true) (ztH (kvE V fi fun j=>enD V (f j))) kn (by rw[qb,qW];unfold big;lia) (fun i d ys hd hw=>?_) ?_
 ·have hd':=hd;obtain⟨li,rfl⟩:=zoc hd';have ev:=zcu (v:=fun j=>enD V (f j)) ok L.lt li;walk_at"g";refine⟨_,DGt.k kf ev,?_⟩;by_cases m:i∈fi
  ·rw[if_pos m]at ev;rw[if_pos m,show(some (enD V (f i))).isSome=true from rfl];walk_at"g";refine⟨_,DGt.k kf ev,?_⟩;rw[show enD V (f i)=.tup [match (f i).1 with|none=>.non|some p=>.str (nmH V p),.int (f i).2.1,.int (f i).2.2]from rfl];walk_at"g";exact zbL hd hw rfl (by show _=znp (dval _ _);rw[ev];rfl)
  ·rw[if_neg m]at ev;rw[if_neg m,show(none:Option D).isSome=false from rfl];walk_at"g";exact zbL hd hw rfl (by show _=znp (dval _ _);rw[ev];rfl)
 rw[filter_true,zpL ok L.lt];unfold New;refine fin_same ?_;rw[show S++T++[Cell.lst ((List.range V.bs.length).map fun i=>D.str (nmH V i))]++[Cell.lst (za7 (litE V fi f))]=S++(T++[Cell.lst ((List.range V.bs.length).map fun i=>D.str (nmH V i))]++[Cell.lst (za7 (litE V fi f))]) by simp];refine q' _ _ _ zqe (zpz L) ?_ (by simp);rw[<- qh,<- qh];exact zag
def zdz:zcv:=fun ds S Q ex=>∃ (v:D) (V:Vl) (z:Str) (h b:Int) (t:Nat),ds=[v,.str z,.int h,.int b]/\VAt S v V/\za9 V/\fl 20 (.str z)=true/\S[t]?=some zar/\(z∉V.bs.map (·.1)->∀ T,ex "NoBeacon" (S++T))/\(z∈V.bs.map (·.1)->¬ (V.h0<=h/\h<=V.h1)->ex "BadHour" S)/\∀ s,zdX V s z->V.h0<=h->h<=V.h1->∀ (lit:List (Option Int)),lit.length=V.bs.length->Ear (zaS V) V.dl s h (fun j=>(lit[j]?).join)->∀ (T:Sto) (k:Nat),(S++T)[k]?=some (.lst (zbU V lit b))->S.length<=k->Q (.ref k) (S++T)
abbrev zhT (ex : XR) : DS :=
    (zB (zJ (zbE zdB ex (zf vr0 (zf vr1 ua2))) gn4)
 (zT (dLC 2 [3] (zlm (zf (dCall zbI ua0) ua4)) (zbh 2 (zV gn0 (zV gn1 zbk))) (zdZ (dT (dOp zc8 vr1 (dC .non))) (dT (dOp oLe vr1 vr2))) vr0)))
def zly:zbS 5 zhT zdz:=by
 rintro ds S Q ex ⟨v,V,z,h,b,t,rfl,hv,ok,fz,ht,hx1,hx2,q⟩;unfold zhT;have b12:=ok.b12;walk_at"g";refine⟨v,V,z,h,t,rfl,hv,ok,fz,ht,hx1,hx2,fun s hs g1 g2 T k lit ll el hk lk=>?_⟩;have q':=q s hs g1 g2 lit ll el;clear q hx1 hx2;walk_at"g";refine⟨v,V,rfl,hv.old,by lia,?_⟩;rw[zhH];unfold New;have kn:Lst (S++T++[Cell.lst ((List.range V.bs.length).map fun i=>D.str (nmH V i))]) (.ref (S++T).length) ((List.range V.bs.length).map fun i=>D.str (nmH V i)):=Lst.here zag;have kf:Lst (S++T++[Cell.lst ((List.range V.bs.length).map fun i=>D.str (nmH V i))]) (.ref k) (za7 lit):=Lst.here (zX hk);walk_at"g";refine zpV kn kf ?_;refine zkT b12 ⟨kn,kf⟩ rfl ?_;unfold New;refine fin_same ?_;rw[show S++T++[Cell.lst ((List.range V.bs.length).map fun i=>D.str (nmH V i))]++[Cell.lst (zbU V lit b)]=S++(T++[Cell.lst ((List.range V.bs.length).map fun i=>D.str (nmH V i))]++[Cell.lst (zbU V lit b)]) by simp];refine q' _ _ ?_ (by simp);rw[<- qh,<- qh];exact zag
def zbF:DSp:=fun ds S Q=>∃ (v:D) (V:Vl) (z:Str) (h b:Int) (t:Nat),ds=[v,.str z,.int h,.int b]/\VAt S v V/\za9 V/\fl 20 (.str z)=true/\S[t]?=some zar/\(z∉V.bs.map (·.1)->∀ (T:Sto) (k:Nat),(S++T)[k]?=some (.lst [.bl true,.bl true,.bl false])->S.length<=k->Q (.ref k) (S++T))/\(z∈V.bs.map (·.1)->¬ (V.h0<=h/\h<=V.h1)->∀ (T:Sto) (k:Nat),(S++T)[k]?=some (.lst [.bl true,.bl false,.bl true])->S.length<=k->Q (.ref k) (S++T))/\∀ s,zdX V s z->V.h0<=h->h<=V.h1->∀ (lit:List (Option Int)),lit.length=V.bs.length->Ear (zaS V) V.dl s h (fun j=>(lit[j]?).join)->∀ (T:Sto) (k:Nat),(S++T)[k]?=some (.lst (zbU V lit b))->S.length<=k->Q (.ref k) (S++T)
abbrev ziv:DS :=
    (zB (zJ (dC .non) gn4)
 (zB (zJ (zbG zF) gn5)
 (zB (zp9 6 ["BadGround","OffGround","BadFog","BadName","Twice","TooMany","BadHour","NoBeacon"] (fun ex=>(zJ (zbE zdz ex (zf vr0 (zf vr1 (zf vr2 ua3)))) gn4)) (zJ (zbG (zf (zht [("BadGround",true),("OffGround",true),("BadFog",true),("BadName",true),("Twice",true),("TooMany",true),("BadHour",true),("NoBeacon",true)] vr6) (zf (zht [("BadGround",false),("OffGround",false),("BadFog",false),("BadName",false),("Twice",false),("TooMany",false),("BadHour",false),("NoBeacon",true)] vr6) (zf (zht [("BadGround",false),("OffGround",false),("BadFog",false),("BadName",false),("Twice",false),("TooMany",false),("BadHour",true),("NoBeacon",false)] vr6) zF)))) gn5))
 (zB (sIf (dT (dOp oEq vr5 (zbG zF))) (zT vr4) zZ)
 (zT vr5)))))
def zlL:BodyOk 7 ziv zbF:=by
 rintro ds S Q ⟨v,V,z,h,b,t,rfl,hv,ok,fz,ht,q1,q2,q3⟩;unfold ziv;walk_at"g";walk_at"h";refine⟨v,V,z,h,b,t,rfl,hv.old,ok,fz,zX ht,fun no T=>⟨rfl,?_⟩,fun hz bad=>⟨rfl,?_⟩,fun s hs g1 g2 lit ll el T k hk lk=>?_⟩
 ·have q:=q1 no;clear q1 q2 q3;walk_at"g";refine zjR (b:=false) (Lst.here zoq) (Lst.here zgp) rfl rfl rfl ?_;walk_at"g";refine fin_same ?_;rw[qh];refine q _ _ ?_ (by simp;lia);rw[<- qh];exact zoq
 ·have q:=q2 hz bad;clear q1 q2 q3;walk_at"g";refine zjR (b:=false) (xs:=[.bl true,.bl false,.bl true]) (ys:=[]) (Lst.at (k:=1) rfl) (Lst.at (k:=2) rfl) rfl rfl rfl ?_;walk_at"g";exact fin_same (q _ _ (zbr _ _ 1) (by lia))
 ·have q:=q3 s hs g1 g2 lit ll el;clear q1 q2 q3;walk_at"g";refine zjR (b:=true) (xs:=[]) (ys:=[]) (Lst.here (by rw[qh];exact zag)) (Lst.here zgp) rfl rfl rfl ?_;walk_at"g";refine fin_same ?_;rw[<- qh,qh,qh];refine q _ _ ?_ (by simp at lk;lia);rw[<- qh,<- qh];exact zX hk
def zu1 {bs:List (Str×(Int×Int))}(h:zrb bs)(h5:bs.length<=5){z:Str}(hz:∀ (j:Nat) t,j<5->z≠hNm j t):z∉bs.map (·.1):=fun m=>by
 obtain⟨b,hb,e⟩:=qU.mp m;obtain⟨j,hj,ej⟩:=qab.mp hb;obtain⟨t,et⟩:=h j b (by rw[qc hj,ej]);exact hz j t (by lia) (by rw[<- e,et])
def zqc {z:Str}{c:Nat}{cs:List Nat}(hz:z.cps.toList=c::cs)(hc:c<97\/102<=c)(j t:Nat)(hj:j<5):z≠hNm j t:=fun e=>by
 have h:z.cps.toList=(hNm j t).cps.toList:=congrArg (fun z:Str=>z.cps.toList) e;rw[hz,zfD]at h;have:=(List.cons.inj h).1;lia
abbrev zrL:DS :=
    (zB (zJ (dCall zcZ ua0) gn1)
 (zB (zJ (dCall zcA ua1) gn2)
 (zB (zJ (dCall zde ua2) gn3)
 (zB (zJ (dLC 1 [] (zaR zeb) gn0 zbt zbu) gn4)
 (zB (zJ (dOp oMod (dCall zbR (zf vr0 (zf ci1 zF))) (dC (.int 1000000000000000000000000000000))) gn5)
 (zB (zJ (dOp oMod vr5 (dB zb6 ua4)) gn6)
 (zB (zbp (zeL (zf ci4 zF)) gn7 (zB (zJ (dOp zao (zaQ "first" vr2) (dOp oMod (dOp zao (dOp oDiv vr5 ci7) (dOp zbj ci5 vr7)) (dOp zao (dOp zam (zaQ "last" vr2) (zaQ "first" vr2)) ci1))) gn8)
 (zB (zJ (dCall zed (zf vr3 (zf vr6 (zf vr8 (zf (zaQ "delay" vr2) zF))))) gn9)
 (zB (zJ (dOp zao (dOp zam vr8 ci1) (dOp oMod (dOp zao (dOp oDiv vr5 (dC (.int 11))) (dOp zbj ci3 vr7)) (dC (.int 12)))) zqM)
 (zB (zJ (dLC 2 [10] (zlm (zf vr4 ua9)) (zbh 2 (zV gn0 (zV gn1 zbk))) (zdZ (dT (dOp zc8 vr1 (dC .non))) (dT (dOp oLe vr1 vr2))) vr0) zuZ)
 (zbp (zeL (zf ci2 zF)) zx0 (zB (zJ (dCall zbF (zf vr2 (zf (dOp oIx vr4 vr6) (zf vr8 zx1)))) zxG)
 (zB (sIf (dOr (zes (dT (dB zfu (zf zpY (zf (dC (.ty "list")) zF))))) (dT (dOp oNe zpY zva))) (zT (dC (.bl false))) zZ)
 (zbb (dM zkx zpY zF))))))))))
 (zB (zbp (zaR (zbG (zf (dOp zam (zaQ "first" vr2) ci1) (zf (dOp zao (zaQ "last" vr2) ci1) (zf (dOp zao (dOp zao (zaQ "last" vr2) ci1) vr5) (zf (dOp zam (dOp zam (zaQ "first" vr2) ci2) vr5) zF)))))) gn8 (zB (sIf (dT (dOp oNe (dCall zbF (zf vr2 (zf (dOp oIx vr4 vr6) (zf vr8 ua5)))) (zbG (zf (dC (.bl true)) (zf (dC (.bl false)) (zf (dC (.bl true)) zF)))))) (zT (dC (.bl false))) zZ)
 (sIf (dT (dOp oNe (dCall zbF (zf vr2 (zf (dC (.str "nobody")) (zf vr8 ua5)))) (zbG (zf (dC (.bl true)) (zf (dC (.bl true)) (zf (dC (.bl false)) zF)))))) (zT (dC (.bl false))) zZ)))
 (zT (dOp oEq (dCall zbF (zf vr2 (zf (dC (.str "nobody")) (zf (zaQ "first" vr2) ua5)))) (zbG (zf (dC (.bl true)) (zf (dC (.bl true)) (zf (dC (.bl false)) zF))))))))))))))
def zuz:BodyOk 14 zrL (spT (zhr [("lightings",262,39)])):=by
 rintro ds S Q ⟨ns,rfl,⟨hS,_⟩,hl,q⟩;have htb:S[0]?=some zar:=by rw[hS];rfl
 clear hS;unfold zrL;walk_at"g";refine⟨ns,rfl,hl,fun T x y z V ok b2 b5 f6 h00 h05 h23 dl3 hnm hs=>?_⟩;have htb1:(S++T)[0]?=some zar:=zX htb;generalize S++T=S1 at hs htb1;have hh:=ok.hh;have hd:=ok.dl;have b12:=ok.b12;walk_at"g";refine⟨x,y,z,V,rfl,hs,ok,fun T v hv=>?_⟩;have hs2:VlS (S1++T) x y z V:=hs.old;have htb2:(S1++T)[0]?=some zar:=zX htb1;generalize S1++T=S2 at hv hs2 htb2;walk_at"g";refine⟨_,V,rfl,hv,ok,fun T t ht=>?_⟩;have hs3:VlS (S2++T) x y z V:=hs2.old;have hv3:VAt (S2++T) v V:=hv.old;have htb3:(S2++T)[0]?=some zar:=zX htb2;generalize S2++T=S3 at ht hs3 hv3 htb3;clear hs hs2 hv htb htb1 htb2;obtain⟨hx,hy,hz⟩:=id hs3;walk_at"g";refine za4 (fun _=>true) (zhI fun b=>.str b.1) hy (by rw[qb];unfold big;lia) (fun i d ys hd' hw=>?_) ?_
 ·obtain⟨b,_,rfl⟩:=zer hd';walk_at"g";exact zbL hd' hw rfl rfl
 rw[filter_true,zdp,show V.bs.map (fun b=>D.str b.1)=(V.bs.map (·.1)).map D.str by rw[qT];rfl,zhH];unfold New;obtain⟨nl,hnl⟩:∃ nl,nl=(List.range V.bs.length).map fun i=>D.str (nmH V i):=⟨_,rfl⟩
 rw[<- hnl];have lnl:nl.length=V.bs.length:=by rw[hnl,qb,qW]
 walk_at"g";refine⟨ns,1,rfl,by decide,fun c0=>?_⟩;have r0:=Int.emod_nonneg c0 (show(1000000000000000000000000000000:Int)≠0 by decide);have r1:=Int.emod_lt_of_pos c0 (show(0:Int)<1000000000000000000000000000000 by decide);walk_at"g";generalize c0%1000000000000000000000000000000=tn at r0 r1
 obtain⟨s,hs,es⟩:∃ s:Nat,s<V.bs.length/\tn%(nl.length:Int)=(s:Int):=⟨(tn%(nl.length:Int)).toNat,by
  have h1:=Int.emod_nonneg tn (show(nl.length:Int)≠0 by lia);have h2:=Int.emod_lt_of_pos tn (show(0:Int)<nl.length by lia);lia,by
  have h1:=Int.emod_nonneg tn (show(nl.length:Int)≠0 by lia);lia⟩
 rw[es];have ans:atD nl (s:Int)=some (.str (nmH V s)):=ze1 (by rw[hnl,qk,List.getElem?_range hs];rfl);obtain⟨bn,hbn,ebn⟩:=zdL hs;have fls:fl 20 (.str (nmH V s))=true:=by rw[ebn];exact zeW (ok.nm bn (qf hbn)) 20
 have nms:zdX V s (nmH V s):=⟨bn,hbn,ebn.symm⟩
 have nob:("nobody":Str)∉V.bs.map (·.1):=zu1 hnm b5 (zqc (c:=110) (cs:=[111,98,111,100,121]) rfl (by lia));have kn:∀ T,Lst (S3++[Cell.lst nl]++T) (.ref S3.length) nl:=fun T=>by rw[qh];exact Lst.at0
 have hv4:VAt (S3++[Cell.lst nl]) v V:=hv3.old;have ht4:zdT (S3++[Cell.lst nl]) t V:=ht.old;have htb4:(S3++[Cell.lst nl])[0]?=some zar:=zX htb3;clear hs3 hv3 ht htb3 hx hy hz;generalize S3++[Cell.lst nl]=S4 at kn hv4 ht4 htb4;generalize S3.length=nr at kn;obtain⟨m,g0,b',f',rfl,hm,_⟩:=id hv4;have hmT:∀ T,(S4++T)[m]?=some (.ins "Valley" (vF (.ref g0) (.ref b') (.ref f') (za2 V.hz) (.int V.h0) (.int V.h1) (.int V.dl))):=fun T=>zX hm
 walk_at"h";refine⟨_,rfl,by decide,by decide,?_⟩;refine zaJ (fun i Z S'=>∃ (G:Sto) (w7 w8 w9 w10 w11 w12 w13:Option D),S'=S4++G/\Z=[some (.rl (ns.map D.int)),some (vlD x y z V),some (.ref m),some t,some (.ref nr),some (.int tn),some (.int (s:Nat)),w7,w8,w9,w10,w11,w12,w13]) ⟨[],_,_,_,_,_,_,_,by simp,rfl⟩ (fun _ _ _ _=>True.intro) ?_ ?_
 ·rintro i d Z S' hd' ⟨G,w7,w8,w9,w10,w11,w12,w13,rfl,rfl⟩;obtain⟨hi,rfl⟩:=zgD hd';have hm5:=hmT G;have ht5:zdT (S4++G) t V:=ht4.old;walk_at"g";have m0:=Int.emod_nonneg (tn/7+5*(0+(i:Int))) (show V.h1-V.h0+1≠0 by lia);have m1:=Int.emod_lt_of_pos (tn/7+5*(0+(i:Int))) (show 0<V.h1-V.h0+1 by lia);have hin:V.h0<=V.h0+(tn/7+5*(0+(i:Int)))%(V.h1-V.h0+1)/\V.h0+(tn/7+5*(0+(i:Int)))%(V.h1-V.h0+1)<=V.h1:=⟨by lia,by lia⟩
  generalize V.h0+(tn/7+5*(0+(i:Int)))%(V.h1-V.h0+1)=hour at hin;refine⟨t,V,s,hour,rfl,ht5,ok,hs,fun T kl lit ll el hk lk=>?_⟩;have e5:∃ G',S4++G++T=S4++G':=⟨G++T,by rw[qh]⟩
  have kl5:Lst (S4++G++T) (.ref kl) (za7 lit):=Lst.here hk;generalize S4++G++T=S5 at e5 kl5;obtain⟨G5,rfl⟩:=e5;have kn5:=kn G5;walk_at"g";refine zpV kn5 kl5 ?_;rw[hnl]at kn5 ⊢;refine zkT b12 ⟨kn5,kl5⟩ rfl ?_;rw[<- hnl]at kn5;unfold New;generalize hour-1+(tn/11+3*(0+(i:Int)))%12=bb;have e6:∃ G',S4++G5++[Cell.lst (zbU V lit bb)]=S4++G':=⟨G5++[Cell.lst (zbU V lit bb)],by rw[qh]⟩
  have kd6:Lst (S4++G5++[Cell.lst (zbU V lit bb)]) (.ref (S4++G5).length) (zbU V lit bb):=Lst.here zag;generalize S4++G5++[Cell.lst (zbU V lit bb)]=S6 at e6 kd6;generalize (S4++G5).length=kd at kd6;have kn6:∀ T,Lst (S6++T) (.ref nr) nl:=fun T=>by obtain⟨G',rfl⟩:=e6;rw[qh];exact kn _
  have hv6:VAt S6 (.ref m) V:=by obtain⟨G',rfl⟩:=e6;exact hv4.old
  have htb6:S6[0]?=some zar:=by obtain⟨G',rfl⟩:=e6;exact zX htb4
  clear kl5 kn5 hk lk;walk_at"g";refine⟨_,rfl,by decide,by decide,?_⟩;refine zaJ (fun j Z S'=>∃ (G:Sto) (w12 w13:Option D),S'=S6++G/\Z=[some (.rl (ns.map D.int)),some (vlD x y z V),some (.ref m),some t,some (.ref nr),some (.int tn),some (.int (s:Nat)),some (.int (0+(i:Int))),some (.int hour),some (.ref kl),some (.int bb),some (.ref kd),w12,w13]) ⟨[],_,_,by simp,rfl⟩ (fun _ _ _ _=>True.intro) ?_ ?_
  ·rintro j d Z S' hd2 ⟨G,w12,w13,rfl,rfl⟩;obtain⟨hj,rfl⟩:=zgD hd2;have kn7:=kn6 G;walk_at"g";refine⟨_,V,_,hour,bb,0,rfl,hv6.old,ok,fls,zX htb6,fun no=>absurd nms.mem no,fun _ no=>absurd hin no,fun s' hs' _ _ lit' ll' el' T kf hf lf=>?_⟩;have es':=zdX.uniq ok hs' nms;subst es';have el2:=Ear.lit ll' ll el' el;subst el2;have kf7:=Lst.here hf;have kd7:Lst (S6++G++T) (.ref kd) (zbU V lit' bb):=kd6.old.old;walk_at"g";refine zhx kf7 kd7 (zrh ok) ?_;walk_at"g";refine zti hf ?_;unfold Put;rw[qh,zm5 (by simp at lf;lia)];walk_at"g";exact⟨_,_,_,rfl,rfl⟩
  ·rintro Z S' ⟨G,w12,w13,rfl,rfl⟩;obtain⟨G',rfl⟩:=e6;exact⟨G'++G,_,_,_,_,_,_,_,by rw[qh],rfl⟩
 ·rintro Z S' ⟨G,w7,w8,w9,w10,w11,w12,w13,rfl,rfl⟩;have hm5:=hmT G;walk_at"g"
  have bad:∀ (i:Nat) (d:D),[D.int (V.h0-1),.int (V.h1+1),.int (V.h1+1+tn),.int (V.h0-2-tn)][i]?=some d->∃ h:Int,d=.int h/\¬ (V.h0<=h/\h<=V.h1):=fun i d e=>by
   rcases i with _|_|_|_|i
   ·cases e;exact⟨_,rfl,by lia⟩
   ·cases e;exact⟨_,rfl,by lia⟩
   ·cases e;exact⟨_,rfl,by lia⟩
   ·cases e;exact⟨_,rfl,by lia⟩
   ·cases e
  have kh5:Lst (S4++(G++[Cell.lst [D.int (V.h0-1),.int (V.h1+1),.int (V.h1+1+tn),.int (V.h0-2-tn)]])) (.ref (S4.length+G.length)) [D.int (V.h0-1),.int (V.h1+1),.int (V.h1+1+tn),.int (V.h0-2-tn)]:=Lst.new;generalize [D.int (V.h0-1),.int (V.h1+1),.int (V.h1+1+tn),.int (V.h0-2-tn)]=hl at bad kh5;have hv5:VAt (S4++(G++[Cell.lst hl])) (.ref m) V:=hv4.old;have htb5:(S4++(G++[Cell.lst hl]))[0]?=some zar:=zX htb4;have kn5:∀ T,Lst (S4++(G++[Cell.lst hl])++T) (.ref nr) nl:=fun T=>by rw[qh];exact kn _
  have hm6:∀ T,(S4++(G++[Cell.lst hl])++T)[m]?=some (.ins "Valley" (vF (.ref g0) (.ref b') (.ref f') (za2 V.hz) (.int V.h0) (.int V.h1) (.int V.dl))):=fun T=>by rw[qh];exact hmT _
  generalize S4++(G++[Cell.lst hl])=S5 at kh5 hv5 htb5 kn5 hm6;refine zaJ (fun i Z S'=>∃ (G:Sto) (w7 w8 w9 w10 w11 w12 w13:Option D),S'=S5++G/\Z=[some (.rl (ns.map D.int)),some (vlD x y z V),some (.ref m),some t,some (.ref nr),some (.int tn),some (.int (s:Nat)),w7,w8,w9,w10,w11,w12,w13]) ⟨[],_,_,_,_,_,_,_,by simp,rfl⟩ (fun i Z S' zq12=>by obtain⟨_,_,_,_,_,_,_,_,e,_⟩:=zq12;exact e▸kh5.old) ?_ ?_
  ·rintro i d Z S' hd' ⟨G,w7,w8,w9,w10,w11,w12,w13,rfl,rfl⟩;obtain⟨h,rfl,hbad⟩:=bad i d hd';have kn7:=kn5 G;walk_at"g";refine⟨_,V,_,h,tn,0,rfl,hv5.old,ok,fls,zX htb5,fun no=>absurd nms.mem no,fun _ _ T kf hf lf=>?_,fun _ _ a b=>absurd ⟨a,b⟩ hbad⟩;walk_at"g";refine zhx (xs:=[.bl true,.bl false,.bl true]) (Lst.here (by rw[<- qh];exact zX hf)) Lst.new rfl ?_;rw[qh];walk_at"g";refine⟨_,V,_,h,tn,0,rfl,hv5.old,ok,by decide +kernel,zX htb5,fun _ T kf hf lf=>?_,fun z=>absurd z nob,fun _ z=>absurd z.mem nob⟩;walk_at"g";refine zhx (xs:=[.bl true,.bl true,.bl false]) (Lst.here (by rw[<- qh];exact zX hf)) Lst.new rfl ?_;rw[qh];walk_at"g";exact⟨_,_,_,_,_,_,_,_,rfl,rfl⟩
  ·rintro Z S' ⟨G,w7,w8,w9,w10,w11,w12,w13,rfl,rfl⟩;have hm7:=hm6 G;walk_at"g";refine⟨_,V,_,V.h0,tn,0,rfl,hv5.old,ok,by decide +kernel,zX htb5,fun _ T kf hf lf=>?_,fun z=>absurd z nob,fun _ z=>absurd z.mem nob⟩;walk_at"g";refine zp6 (xs:=[.bl true,.bl true,.bl false]) (Lst.here (by rw[<- qh];exact zX hf)) Lst.new rfl ?_;walk_at"g";exact fin_same (q _)
end Dp
namespace Law
open PySem PySem.Spec PyProof.Rows L2 My Dp
def top (i:Nat):Stmt:=PySem.Challenge.pw_beaconvale_k73_heard_by_an_hour.main.body.getD i (.Pass ⟨0,0,0,0⟩)
abbrev zfG:Stmt:=top 76
abbrev zhd:Stmt:=top 77
abbrev zg6:Stmt:=top 78
abbrev zfK:Stmt:=top 79
abbrev zhV:Stmt:=top 80
abbrev zhb:Stmt:=top 81
abbrev zc9:Stmt:=top 42
abbrev zb7:Stmt:=inClass (top 43) 0
abbrev zc3:Stmt:=top 56
abbrev zjp:Stmt:=top 55
abbrev zdR:Stmt:=top 57
abbrev zpd:Stmt:=top 36
abbrev zmt:Stmt:=top 44
abbrev zen:Stmt:=top 34
abbrev zic:Stmt:=top 35
abbrev zhh:Stmt:=top 38
abbrev zhj:Stmt:=top 45
abbrev zkE:Stmt:=top 46
abbrev zd4:Stmt:=top 58
abbrev zit:Stmt:=top 1
abbrev zj8:Stmt:=top 28
abbrev zd5:Stmt:=top 59
abbrev zdW:Stmt:=top 60
abbrev zca:Stmt:=inClass (top 61) 0
abbrev zf2:Stmt:=top 82
abbrev zjq:Stmt:=top 63
abbrev zcJ:Stmt:=top 47
abbrev zd2:Stmt:=top 48
abbrev zjv:Stmt:=top 37
abbrev zk7:Stmt:=top 49
abbrev zeh:Stmt:=top 66
abbrev zeN:Stmt:=top 67
abbrev zms:Stmt:=top 29
abbrev zju:Stmt:=top 30
abbrev zpe:Stmt:=top 3
abbrev zlZ:Stmt:=top 31
abbrev zhc:Stmt:=top 32
abbrev zoD:Stmt:=top 5
abbrev zor:Stmt:=top 4
abbrev zjB:Stmt:=top 6
abbrev zmc:Stmt:=top 68
abbrev zha:Stmt:=top 83
abbrev zhe:Stmt:=top 84
abbrev zjG:Stmt:=top 85
abbrev zie:Stmt:=top 62
abbrev zdU:Stmt:=top 64
abbrev zel:Stmt:=top 65
abbrev zgn:Stmt:=top 7
abbrev zgZ:Stmt:=top 71
abbrev zh8:Stmt:=top 72
abbrev zh3:Stmt:=top 74
abbrev zir:Stmt:=top 86
abbrev zeM:Stmt:=top 87
def cgN [Bs]{X:Cx}{sc:Scope}{own free:List Str}{x:Str}{p:Pos}(h0:0<own.length:=by decide)(hN:(own++free).Nodup:=by decide +kernel)(hi:(own++free)[0]?=some x:=by rfl)(hx:∀ cl C s₀ H₀ ex,Loc (inner X sc (own++free) cl C s₀ H₀ ex).env.scope x/\((inner X sc (own++free) cl C s₀ H₀ ex).fn x=true\/(inner X sc (own++free) cl C s₀ H₀ ex).env.scope.names.lookup x=some .local):=by intros;first|exact⟨Or.inl rfl,Or.inr rfl⟩|exact⟨Or.inr rfl,Or.inl rfl⟩):zfU X.K own.length (Dp.zaq 0) (L2.zaq 0)/\∀ cl C s₀ H₀ ex,PG (inner X sc (own++free) cl C s₀ H₀ ex) (.Name x p) (L2.zaq 0):=⟨zau 0 h0,fun cl C s₀ H₀ ex=>zaZ (i:=0) hN hi (hx cl C s₀ H₀ ex).1 (hx cl C s₀ H₀ ex).2⟩
abbrev Fk (K:W.Frag)(x:Str)(st:Stmt)(f:Addr)(fd:FuncData):Prop:=Fun K x x st f fd
def fnN {P:Program}{w:World}{K:W.Frag}{mg:Str->Option Value}{base:Heap}{x qual:Str}{st:Stmt}{f:Addr}{fd:FuncData}{M ps:List Str}{k:Nat}{sp:DSp}{b:DS}(F:Fun K x qual st f fd)(body:BodyOk (ps++M).length b sp)(term:∀ {cdv:Value} {A:Around} {outer:List Env} {s:Shared} {H:Hp} {E:XK} [Bs],(ps++M).Nodup->zaf k (A.deeper (envOfC qual (zN st) s.heap.objs.size f cdv))->zcw (zbW CX0 P w K mg base (ps++M) qual (zN st) f cdv A outer s H E).nox (zaD st) b)(S:zcb (ps++M) ps (zN st):=by exact zko)(len:∀ ds So Q,sp ds So Q->ds.length=ps.length:=by (intros;rename_i h;repeat (first|(obtain⟨e,_⟩:=h;subst e;rfl)|obtain⟨_,h⟩:=h))):zP P w K mg base CX0 (k+1) f fd ps (upF K sp):=zrX F S len body fun _ _ _ _ _ _ hr=>term S.nd hr
def zyl {P:Program}{w:World}{K:W.Frag}{mg:Str->Option Value}{base:Heap}{x:Str}{st:Stmt}{f:Addr}{fd:FuncData}{M ps:List Str}{k:Nat}{sp:DSp}{b:DS}{xs:List Str}(TB:TbB K mg base xs)(F:FH K x st f fd)(hx:x∈xs)(body:BodyOk (ps++M).length b sp)(term:∀ {cdv:Value} {A:Around} {outer:List Env} {s:Shared} {H:Hp} {E:XK} [Bs],(ps++M).Nodup->zaf k (A.deeper (envOfC x (zN st) s.heap.objs.size f cdv))->zqd (zbW CX0 P w K mg base (ps++M) x (zN st) f cdv A outer s H E).nox x->zna (zbW CX0 P w K mg base (ps++M) x (zN st) f cdv A outer s H E).nox->zcw (zbW CX0 P w K mg base (ps++M) x (zN st) f cdv A outer s H E).nox (zaD st) b)(S:zcb (ps++M) ps (zN st):=by exact zko)(len:∀ ds So Q,sp ds So Q->ds.length=ps.length:=by (intros;rename_i h;repeat (first|(obtain⟨e,_⟩:=h;subst e;rfl)|obtain⟨_,h⟩:=h))):zP P w K mg base CX0 (k+1) f fd ps (upF K sp):=zqg TB F hx S len body fun _ _ _ _ _ _ hr hT hB=>term S.nd hr hT hB
def zfm {P:Program}{w:World}{K:W.Frag}{mg:Str->Option Value}{base:Heap}{x qual:Str}{st:Stmt}{f:Addr}{fd:FuncData}{M ps:List Str}{k:Nat}{sp:zcv}{b:XR->DS}(F:Fun K x qual st f fd)(body:zbS (ps++M).length b sp)(term:∀ {cdv:Value} {A:Around} {outer:List Env} {s:Shared} {H:Hp} {E:XK} [Bs],(ps++M).Nodup->zaf k (A.deeper (envOfC qual (zN st) s.heap.objs.size f cdv))->∀ (ex:XR),XOk (zbW (CXd P w) P w K mg base (ps++M) qual (zN st) f cdv A outer s H E) ex->XMk (zbW (CXd P w) P w K mg base (ps++M) qual (zN st) f cdv A outer s H E) ex->zcw (zbW (CXd P w) P w K mg base (ps++M) qual (zN st) f cdv A outer s H E) (zaD st) (b ex))(S:zcb (ps++M) ps (zN st):=by exact zko)(len:∀ ds So Q ex,sp ds So Q ex->ds.length=ps.length:=by (intros;rename_i h;repeat (first|(obtain⟨e,_⟩:=h;subst e;rfl)|obtain⟨_,h⟩:=h))):zP P w K mg base (CXd P w) (k+1) f fd ps (zby K sp):=zpH F S len body fun _ _ _ _ _ _ hr _=>term S.nd hr
def pdV [Bs]{X:Cx}{i:Nat}{x:Str}{p:Pos}(h1:X.N[i]?=some x:=by rfl)(h2:Vis X.env.scope x:=by first | exact Or.inl rfl | exact Or.inr (Or.inl rfl) | exact Or.inr (Or.inr rfl))(h3:(x==("__debug__":Str))=false:=by decide)(h4:(x==("__classdict__":Str))=false:=by decide):PD X (.Name x p) (zbH i):=zyb i h1 h2 h3 h4
section
variable {P:Program}{w:World}{K:W.Frag}{mg:Str->Option Value}{base:Heap}{f:Addr}{fd:FuncData}
variable (xq:mg "len"=none)
include xq in
def ziN (F:Fk K "_law_cell_at" zfG f fd):zP P w K mg base CX0 1 f fd ["script","k"] (upF K Dp.zbR):=fnN (M:=[]) F Dp.ziU fun hnd hr=>(zj (zQ (zK zbx pdV (zak zbq xq boot_len (zc pdV zm))) (zq (zG (zu pdV pdV))) zM)
 (zq (zG zp)))
variable (xam:Got P w K mg base 1 "_law_cell_at" ["script","k"] (upF K Dp.zbR))
def zlh (F:Fk K "_law_mixed" zhd f fd):zP P w K mg base CX0 1 f fd ["cell","k"] (upF K Dp.zbT):=fnN (M:=["big"]) F Dp.zlk fun hnd hr=>(zj (zA hnd (zaF (z9 (zae pdV (za3 1000000000000000000000000000000000000000000000000000000000000 (by decide +kernel) ⟨by decide,by decide,by decide⟩)) zp) (z9 zp (zaF (zaF zp pdV) pdV))))
 (zj (zA hnd (z9 pdV (zaF zp pdV)))
 (zq (zG (zae (zaF pdV pdV) (z9 (za3 1000000000000000000000000000000000000000000000000000000000000 (by decide +kernel) ⟨by decide,by decide,by decide⟩) zp))))))
variable (xas:Got P w K mg base 1 "_law_mixed" ["cell","k"] (upF K Dp.zbT))
variable (xak:mg "range"=none)
variable (xu:mg "enumerate"=none)
include xas xak xu in
def zky (F:Fk K "_law_seeds" zg6 f fd):zP P w K mg base CX0 2 f fd ["cells","most"] (upF K Dp.zcX):=fnN (M:=["seeds","k","cell","at"]) F Dp.zk6 fun hnd hr=>(zj (zdn hnd (own:=["k"]) (free:=[]) True.intro True.intro (zgz xak (zc pdV zm)) cgN (fun _ _ _ _ _=>zaY) (fun _ _ _ _ _=>(zH xas hr (zc pdV (zc zp zm)))))
 (zj (zas (zce rfl xu (zc pdV zm)) (zbV rfl (zab (zO hnd) (zab (zO hnd) zbX))) (zj (zA hnd (zae pdV pdV))
 (zq (ze7 (zH xas hr (zc (z9 (zu pdV pdV) (zae pdV (za3 1000000000000000000000000000000000000000000000000000000000000 (by decide +kernel) ⟨by decide,by decide,by decide⟩))) (zc (zae pdV zp) zm))) (zgw pdV pdV)))))
 (zq (zG pdV))))
variable (xer:Got P w K mg base 2 "_law_seeds" ["cells","most"] (upF K Dp.zcX))
include xu in
def ziT (F:Fk K "_law_beacons" zfK f fd):zP P w K mg base CX0 1 f fd ["seeds"] (upF K Dp.zcm):=fnN (M:=["told","k","seed","name"]) F Dp.ziZ fun hnd hr=>(zj (zA hnd (zaV zm))
 (zj (zas (zce rfl xu (zc pdV zm)) (zbV rfl (zab (zO hnd) (zab (zO hnd) zbX))) (zj (zA hnd (z9 (zu zbB pdV) (zu (zaV (zc zbB (zc zbB (zc zbB (zc zbB zm))))) (zae pdV zp))))
 (zq (zav (zhu PySem.F.slot_list_append PySem.F.type_list_append zcO pdV (zc (zac (zc pdV (zc (zW (zae (zaC pdV zp) zp) zp) (zc (zae (zaC pdV zp) zp) zm)))) zm))))))
 (zq (zG pdV))))
variable (xc8:Got P w K mg base 1 "_law_beacons" ["seeds"] (upF K Dp.zcm))
include xas in
def zlQ (F:Fk K "_law_fogs" zhV f fd):zP P w K mg base CX0 2 f fd ["seeds","first","last"] (upF K Dp.zdD):=fnN (M:=["told","seed","m","left","low","begin","end","drift","rise"]) F Dp.zlJ fun hnd hr=>(zj (zA hnd (zaV zm))
 (zj (zas (zai pdV) (zO hnd) (zj (zA hnd (zH xas hr (zc pdV (zc zp zm))))
 (zq (zQ (zK zcr (zae pdV zp) zp) (zj (zA hnd (zW (zae (zaC pdV zp) zp) zp))
 (zj (zA hnd (zW (zae (zaC pdV zp) zp) zp))
 (zj (zA hnd (z9 (zW pdV zp) (zae (zaC pdV zp) (z9 (zW pdV pdV) zp))))
 (zj (zA hnd (z9 pdV (zae (zaC pdV (za3 1000000000000000 (by decide +kernel) ⟨by decide,by decide,by decide⟩)) zp)))
 (zj (zA hnd (zW (zae (zaC pdV (za3 100000000000000000000 (by decide +kernel) ⟨by decide,by decide,by decide⟩)) zp) zp))
 (zj (zA hnd (zW (zae (zaC pdV (za3 10000000000000000000000000 (by decide +kernel) ⟨by decide,by decide,by decide⟩)) zp) zp))
 (zq (zav (zhu PySem.F.slot_list_append PySem.F.type_list_append zcO pdV (zc (zac (zc pdV (zc (z9 pdV (zae (zaC pdV (za3 1000000000000000000000000000000 (by decide +kernel) ⟨by decide,by decide,by decide⟩)) zp)) (zc pdV (zc (z9 pdV (zae (zaC pdV (za3 100000000000000000000000000000000000 (by decide +kernel) ⟨by decide,by decide,by decide⟩)) zp)) (zc pdV (zc pdV (zc pdV (zc pdV zm))))))))) zm)))))))))) zM))))
 (zq (zG pdV))))
variable (xfx:Got P w K mg base 2 "_law_fogs" ["seeds","first","last"] (upF K Dp.zdD))
include xam xer xc8 xfx in
def zkq (F:Fk K "_law_parts" zhb f fd):zP P w K mg base CX0 3 f fd ["script"] (upF K Dp.zcZ):=fnN (M:=["head","count","seeds","first","last","ground","haze","beacons","fogs"]) F Dp.zk9 fun hnd hr=>(zj (zA hnd (zae (zH xam hr (zc pdV (zc zp zm))) (za3 1000000000000000000000000000000 (by decide +kernel) ⟨by decide,by decide,by decide⟩)))
 (zj (zA hnd (z9 zp (zae pdV zp)))
 (zj (zA hnd (zH xer hr (zc (zrt pdV (zme zp) zlX) (zc zp zm))))
 (zj (zA hnd (zW (zae (zaC pdV zp) zp) zp))
 (zj (zA hnd (z9 pdV (zae (zaC pdV zp) zp)))
 (zj (zA hnd (zaV (zc (zac (zc (zbo zp) (zc (zbo zp) zm))) (zc (zac (zc (zW (zae (zaC pdV (za3 1000000 (by decide +kernel) ⟨by decide,by decide,by decide⟩)) zp) zp) (zc (zW (zae (zaC pdV (za3 100000000 (by decide +kernel) ⟨by decide,by decide,by decide⟩)) zp) zp) zm))) (zc (zac (zc zp (zc (zbo zp) zm))) zm)))))
 (zj (zA hnd (zu (zaV (zc zaW (zc (z9 zp (zae (zaC pdV (za3 10000000000 (by decide +kernel) ⟨by decide,by decide,by decide⟩)) zp)) (zc zp zm)))) (zae (zaC pdV (za3 10000000000000 (by decide +kernel) ⟨by decide,by decide,by decide⟩)) zp)))
 (zj (zdn hnd (own:=["name","x","z"]) (free:=[]) True.intro True.intro (zai (zH xc8 hr (zc (zrt pdV zlX (zme pdV)) zm))) ⟨(zdj (zaw (zau 0 (by decide)) (zaw (zau 1 (by decide)) (zaw (zau 2 (by decide)) zcP)))),fun _ _ _ _ _=>(zeq rfl (zaM (zaZ (show List.Nodup (["name","x","z"]:List Str) by decide +kernel) rfl (Or.inl rfl) (Or.inr rfl)) (zaM (zaZ (show List.Nodup (["name","x","z"]:List Str) by decide +kernel) rfl (Or.inl rfl) (Or.inr rfl)) (zaM (zaZ (show List.Nodup (["name","x","z"]:List Str) by decide +kernel) rfl (Or.inl rfl) (Or.inr rfl)) zds))))⟩ (fun _ _ _ _ _=>zaY) (fun _ _ _ _ _=>(zac (zc pdV (zc pdV (zc (z9 pdV zp) zm))))))
 (zj (zA hnd (zH xfx hr (zc pdV (zc pdV (zc pdV zm)))))
 (zq (zG (zac (zc pdV (zc pdV (zc pdV (zc pdV (zc pdV (zc pdV (zc (zae (zaC pdV (za3 1000000000000000 (by decide +kernel) ⟨by decide,by decide,by decide⟩)) zp) zm)))))))))))))))))))
variable (xes:Got P w K mg base 3 "_law_parts" ["script"] (upF K Dp.zcZ))
variable (xcg:∃ t,mg "LEAST_CORNERS"=some (.int 2 t))
variable (xcw:∃ t,mg "MOST_CORNERS"=some (.int 40 t))
include xq xak xcg xcw in
def zeZ (F:Fk K "refuse_bad_corners" zc9 f fd):zP P w K mg base CX0 1 f fd ["corners"] (upF K Dp.zba):=fnN (M:=["k"]) F Dp.zeY fun hnd hr=>(zj (zQ (zbg (zdS (zK zbx (zak zbq xq boot_len (zc pdV zm)) (zR rfl xcg)) (zcN (zK zcr (zak zbq xq boot_len (zc pdV zm)) (zR rfl xcw))))) (zq za6) zM)
 (zq (zas (ztC xak (zc zp (zc (zak zbq xq boot_len (zc pdV zm)) zm))) (zO hnd) (zq (zQ (zK zee (zu (zu pdV pdV) zp) (zu (zu pdV (zW pdV zp)) zp)) (zq za6) zM)))))
variable (xan:Got P w K mg base 1 "refuse_bad_corners" ["corners"] (upF K Dp.zba))
variable (xbj:∀ C,W.nsIn K mainGlobals "Ground"=some (some (.ref C))->zap K C "corners")
variable (xax:mg "list"=none)
include xan xbj xax in
def ziK (F:Fun K "__init__" "Ground.__init__" zb7 f fd):zP P w K mg base CX0 2 f fd ["self","corners"] (upF K Dp.zdu):=fnN (M:=[]) F Dp.zi3 fun hnd hr=>(zj (zav (zH xan hr (zc pdV zm)))
 (zq (zcM xbj pdV (zjY zi0 xax boot_list (zc pdV zm)))))
variable (xde:ziI P w K mg base 2 "Ground" (upF K Dp.zeJ))
variable (xcs:∃ t,mg "MOST_BEACONS"=some (.int 12 t))
variable (xe7:∃ t,mg "MOST_FOGS"=some (.int 12 t))
include xq xcs xe7 in
def ze4 (F:Fk K "refuse_bad_numbers" zc3 f fd):zP P w K mg base CX0 1 f fd ["beacons","fogs"] (upF K Dp.zbc):=fnN (M:=[]) F Dp.zeX fun hnd hr=>(zj (zQ (zbg (zdS (zK zbx (zak zbq xq boot_len (zc pdV zm)) zp) (zcN (zK zcr (zak zbq xq boot_len (zc pdV zm)) (zR rfl xcs))))) (zq za6) zM)
 (zq (zQ (zK zcr (zak zbq xq boot_len (zc pdV zm)) (zR rfl xe7)) (zq za6) zM)))
variable (xap:Got P w K mg base 1 "refuse_bad_numbers" ["beacons","fogs"] (upF K Dp.zbc))
variable (xcr:∃ t,mg "MOST_LETTERS"=some (.int 8 t))
variable (xgf:∃ t,mg "LETTERS"=some (.str "abcdefghijklmnopqrstuvwxyz" t))
variable (xbb:mg "all"=none)
include xq xcr xgf xbb in
def znv (F:Fk K "is_name" zjp f fd):zP P w K mg base CX0 1 f fd ["text"] (upF K Dp.zea):=fnN (M:=[]) F Dp.znd fun hnd hr=>(zj (zQ (zbg (zdS (zK zbx (zak zbq xq boot_len (zc pdV zm)) zp) (zcN (zK zcr (zak zbq xq boot_len (zc pdV zm)) (zR rfl xcr))))) (zq (zG zbP)) zM)
 (zq (zG (zak zgb xbb boot_all (zc (zcd (own:=["sign"]) (free:=[]) True.intro True.intro (zai pdV) cgN (fun _ _ _ _ _=>zaY) (fun _ _ _ _ _=>(zta (zwE hr) pdV (zsG rfl xgf)))) zm)))))
variable (xgb:Got P w K mg base 1 "is_name" ["text"] (upF K Dp.zea))
variable (xi7:mg "set"=none)
include xq xbb xgb xi7 in
def zfL (F:Fk K "refuse_bad_names" zdR f fd):zP P w K mg base CX0 2 f fd ["names"] (upF K Dp.zbs):=fnN (M:=[]) F Dp.zfP fun hnd hr=>(zj (zQ (zco (zcc (zak zgb xbb boot_all (zc (zcd (own:=["name"]) (free:=[]) True.intro True.intro (zai pdV) cgN (fun _ _ _ _ _=>zaY) (fun _ _ _ _ _=>(zH xgb hr (zc pdV zm)))) zm)))) (zq za6) zM)
 (zq (zQ (zK zbx (zrV rfl xq rfl xi7 (zc pdV zm)) (zak zbq xq boot_len (zc pdV zm))) (zq za6) zM)))
variable (xa4:Got P w K mg base 2 "refuse_bad_names" ["names"] (upF K Dp.zbs))
def ztv (F:Fk K "less" zpd f fd):zP P w K mg base CX0 1 f fd ["one","other"] (upF K Dp.zdh):=fnN (M:=[]) F Dp.zsZ fun hnd hr=>(zq (zG (zf6 zbx (zaF (zu pdV zp) (zu pdV zp)) (zaF (zu pdV zp) (zu pdV zp)))))
variable (xcm:Got P w K mg base 1 "less" ["one","other"] (upF K Dp.zdh))
include xcm in
def zqi (F:Fk K "is_on" zmt f fd):zP P w K mg base CX0 2 f fd ["ground","place"] (upF K Dp.zeB):=fnN (M:=["first","last"]) F Dp.zqS fun hnd hr=>(zj (zA hnd (zac (zc (zu (zu (zaj pdV rfl) zp) zp) (zc zp zm))))
 (zj (zA hnd (zac (zc (zu (zu (zaj pdV rfl) (zbo zp)) zp) (zc zp zm))))
 (zq (zG (zgE (zgu (zH xcm hr (zc pdV (zc pdV zm)))) (zkX (zgu (zH xcm hr (zc pdV (zc pdV zm))))))))))
variable (xeh:Got P w K mg base 2 "is_on" ["ground","place"] (upF K Dp.zeB))
variable (xi9:mg "abs"=none)
include xi9 in
def zgR (F:Fk K "common_divisor" zen f fd):zP P w K mg base CX0 1 f fd ["one","other"] (upF K Dp.zbN):=fnN (M:=["rest"]) F Dp.zgU fun hnd hr=>(zj (zge (zK (zfC hr) pdV zp) (zj (zA hnd (zae pdV pdV))
 (zj (zA hnd pdV)
 (zq (zA hnd pdV)))))
 (zq (zG (zak zvv xi9 boot_abs (zc pdV zm)))))
variable (xbr:Got P w K mg base 1 "common_divisor" ["one","other"] (upF K Dp.zbN))
include xbr in
def zlH (F:Fk K "fraction" zic f fd):zP P w K mg base CX0 2 f fd ["top","bottom"] (upF K Dp.zdG):=fnN (M:=["divisor"]) F Dp.zlP fun hnd hr=>(zj (zA hnd (zH xbr hr (zc pdV (zc pdV zm))))
 (zj (zrR (zQ (zK zbx pdV zp) (zq (zA hnd (zbo pdV))) zM))
 (zq (zG (zac (zc (zaC pdV pdV) (zc (zaC pdV pdV) zm)))))))
variable (xft:Got P w K mg base 2 "fraction" ["top","bottom"] (upF K Dp.zdG))
include xft in
def zkb (F:Fk K "height_on" zhh f fd):zP P w K mg base CX0 3 f fd ["one","other","place"] (upF K Dp.zdd):=fnN (M:=["run","rise","top"]) F Dp.zj7 fun hnd hr=>(zj (zA hnd (zW (zu pdV zp) (zu pdV zp)))
 (zj (zA hnd (zW (zu pdV zp) (zu pdV zp)))
 (zj (zA hnd (z9 (zaF (zaF (zu pdV zp) pdV) (zu pdV zp)) (zaF pdV (zW (zu pdV zp) (zaF (zu pdV zp) (zu pdV zp))))))
 (zq (zG (zH xft hr (zc pdV (zc (zaF pdV (zu pdV zp)) zm))))))))
variable (xe6:Got P w K mg base 3 "height_on" ["one","other","place"] (upF K Dp.zdd))
variable (xau:∀ C,W.nsIn K mainGlobals "OffGround"=some (some (.ref C))->ExC K C)
variable (xat:∃ C,W.nsIn K mainGlobals "OffGround"=some (some (.ref C))/\mg "OffGround"=some (.ref C))
include xcm xeh xe6 xau xat in
def zlf (F:Fk K "ground_at" zhj f fd):zP P w K mg base (CXd P w) 4 f fd ["ground","place"] (zby K Dp.zdc):=zfm (M:=["corners","k"]) F Dp.zk0 fun hnd hr ex hX hM=>(zj (zQ (zco (zcc (zH xeh hr (zc pdV (zc pdV zm))))) (zq (zdI hM rfl xau xat rfl (zc zbB zm) (fun _ _ _ h=>h _))) zM)
 (zj (zA hnd (zaj pdV rfl))
 (zj (zA hnd zp)
 (zj (zge (zcc (zH xcm hr (zc (zac (zc (zu (zu pdV pdV) zp) (zc zp zm))) (zc pdV zm)))) (zq (zr6 hnd zp)))
 (zq (zG (zH xe6 hr (zc (zu pdV (zW pdV zp)) (zc (zu pdV pdV) (zc pdV zm))))))))))
variable (xev:zei P w K mg base 4 "ground_at" ["ground","place"] (zby K Dp.zdc))
include xcm xeh xev in
def zpg (F:Fk K "stands" zkE f fd):zP P w K mg base CX0 5 f fd ["ground","spot"] (upF K Dp.zdM):=fnN (M:=["place"]) F Dp.zn6 fun hnd hr=>(zj (zA hnd (zac (zc (zu pdV zp) (zc zp zm))))
 (zj (zQ (zco (zcc (zH xeh hr (zc pdV (zc pdV zm))))) (zq (zG zbP)) zM)
 (zq (zG (zgu (zH xcm hr (zc (zac (zc (zu pdV zp) (zc zp zm))) (zc (zbe xev zjZ hr (zc pdV (zc pdV zm))) zm))))))))
variable (xdd:Got P w K mg base 5 "stands" ["ground","spot"] (upF K Dp.zdM))
include xbb xdd in
def zfV (F:Fk K "refuse_bad_tops" zd4 f fd):zP P w K mg base CX0 6 f fd ["ground","beacons"] (upF K Dp.zbD):=fnN (M:=[]) F Dp.zfY fun hnd hr=>(zq (zQ (zco (zcc (zak zgb xbb boot_all (zc (zcd (own:=["name","x","z"]) (free:=["ground"]) ⟨rfl,True.intro⟩ ⟨rfl,rfl,rfl,True.intro⟩ (zai pdV) ⟨(zdj (zaw (zau 0 (by decide)) (zaw (zau 1 (by decide)) (zaw (zau 2 (by decide)) zcP)))),fun _ _ _ _ _=>(zeq rfl (zaM (zaZ (show List.Nodup (["name","x","z","ground"]:List Str) by decide +kernel) rfl (Or.inl rfl) (Or.inr rfl)) (zaM (zaZ (show List.Nodup (["name","x","z","ground"]:List Str) by decide +kernel) rfl (Or.inl rfl) (Or.inr rfl)) (zaM (zaZ (show List.Nodup (["name","x","z","ground"]:List Str) by decide +kernel) rfl (Or.inl rfl) (Or.inr rfl)) zds))))⟩ (fun _ _ _ _ _=>zaY) (fun _ _ _ _ _=>(zH xdd hr (zc pdV (zc (zac (zc pdV (zc pdV zm))) zm))))) zm)))) (zq za6) zM))
variable (xbh:Got P w K mg base 6 "refuse_bad_tops" ["ground","beacons"] (upF K Dp.zbD))
variable (xi8:mg "int"=none)
variable (xr:mg "isinstance"=none)
variable (xib:mg "bool"=none)
include xi8 xr xib in
def zlN (F:Fk K "is_whole" zit f fd):zP P w K mg base CX0 1 f fd ["value"] (upF K Dp.zdA):=fnN (M:=[]) F Dp.zlF fun hnd hr=>(zq (zG (zgE (zak zh0 xr boot_isinstance (zc pdV (zc (zjW rfl xi8 boot_int) zm))) (zkX (zgu (zak zh0 xr boot_isinstance (zc pdV (zc (zjW rfl xib boot_bool) zm))))))))
variable (xfz:Got P w K mg base 1 "is_whole" ["value"] (upF K Dp.zdA))
variable (xgd:∃ t,mg "NUMBERS"=some (.int 8 t))
variable (xb3:∃ t,mg "LEFT"=some (.int 0 t))
variable (xaw:∃ t,mg "RIGHT"=some (.int 1 t))
variable (xda:∃ t,mg "LOW"=some (.int 2 t))
variable (xb4:∃ t,mg "HIGH"=some (.int 3 t))
variable (xct:∃ t,mg "FIRST"=some (.int 4 t))
variable (xf6:∃ t,mg "LAST"=some (.int 5 t))
variable (xdv:mg "tuple"=none)
include xq xbb xr xfz xgd xb3 xaw xda xb4 xct xf6 xdv in
def zoY (F:Fk K "is_fog" zj8 f fd):zP P w K mg base CX0 2 f fd ["value"] (upF K Dp.zeG):=fnN (M:=[]) F Dp.zog fun hnd hr=>(zj (zQ (zbg (zdS (zco (zcc (zak zh0 xr boot_isinstance (zc pdV (zc (zjW rfl xdv boot_tuple) zm))))) (zcN (zK (zfC hr) (zak zbq xq boot_len (zc pdV zm)) (zR rfl xgd))))) (zq (zG zbP)) zM)
 (zj (zQ (zco (zcc (zak zgb xbb boot_all (zc (zcd (own:=["number"]) (free:=[]) True.intro True.intro (zai pdV) cgN (fun _ _ _ _ _=>zaY) (fun _ _ _ _ _=>(zH xfz hr (zc pdV zm)))) zm)))) (zq (zG zbP)) zM)
 (zq (zG (zgE (zf6 zee (zu pdV (zR rfl xb3)) (zu pdV (zR rfl xaw))) (zgE (zf6 zee (zu pdV (zR rfl xda)) (zu pdV (zR rfl xb4))) (zkX (zf6 zee (zu pdV (zR rfl xct)) (zu pdV (zR rfl xf6))))))))))
variable (xg4:Got P w K mg base 2 "is_fog" ["value"] (upF K Dp.zeG))
include xbb xg4 in
def zf8 (F:Fk K "refuse_bad_fogs" zd5 f fd):zP P w K mg base CX0 3 f fd ["fogs"] (upF K Dp.zbC):=fnN (M:=[]) F Dp.zf7 fun hnd hr=>(zq (zQ (zco (zcc (zak zgb xbb boot_all (zc (zcd (own:=["fog"]) (free:=[]) True.intro True.intro (zai pdV) cgN (fun _ _ _ _ _=>zaY) (fun _ _ _ _ _=>(zH xg4 hr (zc pdV zm)))) zm)))) (zq za6) zM))
variable (xbd:Got P w K mg base 3 "refuse_bad_fogs" ["fogs"] (upF K Dp.zbC))
def zfM (F:Fk K "refuse_bad_hours" zdW f fd):zP P w K mg base CX0 1 f fd ["haze","first","last","delay"] (upF K Dp.zbw):=fnN (M:=[]) F Dp.zfO fun hnd hr=>(zj (zQ (zK zcr pdV pdV) (zq za6) zM)
 (zj (zQ (zK zbx pdV zp) (zq za6) zM)
 (zq (zQ (zbg (zcp (zK zcS pdV zaW) (zci (zK zbx pdV zp)))) (zq za6) zM))))
variable (xa0:Got P w K mg base 1 "refuse_bad_hours" ["haze","first","last","delay"] (upF K Dp.zbw))
variable (xbw:∀ C,W.nsIn K mainGlobals "Valley"=some (some (.ref C))->zap K C "ground")
variable (xbf:∀ C,W.nsIn K mainGlobals "Valley"=some (some (.ref C))->zap K C "beacons")
variable (xcu:∀ C,W.nsIn K mainGlobals "Valley"=some (some (.ref C))->zap K C "fogs")
variable (xcq:∀ C,W.nsIn K mainGlobals "Valley"=some (some (.ref C))->zap K C "haze")
variable (xch:∀ C,W.nsIn K mainGlobals "Valley"=some (some (.ref C))->zap K C "first")
variable (xcv:∀ C,W.nsIn K mainGlobals "Valley"=some (some (.ref C))->zap K C "last")
variable (xcf:∀ C,W.nsIn K mainGlobals "Valley"=some (some (.ref C))->zap K C "delay")
include xax xde xap xa4 xbh xbd xa0 xbw xbf xcu xcq xch xcv xcf in
def zi7 (F:Fun K "__init__" "Valley.__init__" zca f fd):zP P w K mg base CX0 7 f fd ["self","ground","beacons","fogs","haze","first","last","delay"] (upF K Dp.zdg):=fnN (M:=[]) F Dp.zi6 fun hnd hr=>(zj (zav (zH xap hr (zc pdV (zc pdV zm))))
 (zj (zav (zH xa4 hr (zc (zcd (own:=["beacon"]) (free:=[]) True.intro True.intro (zai pdV) cgN (fun _ _ _ _ _=>zaY) (fun _ _ _ _ _=>(zu pdV zp))) zm)))
 (zj (zav (zH xbh hr (zc pdV (zc pdV zm))))
 (zj (zav (zH xbd hr (zc pdV zm)))
 (zj (zav (zH xa0 hr (zc pdV (zc pdV (zc pdV (zc pdV zm))))))
 (zj (zcM xbw pdV (zle xde hr (zc (zaj pdV rfl) zm)))
 (zj (zcM xbf pdV (zjY zi0 xax boot_list (zc pdV zm)))
 (zj (zcM xcu pdV (zjY zi0 xax boot_list (zc pdV zm)))
 (zj (zcM xcq pdV pdV)
 (zj (zcM xch pdV pdV)
 (zj (zcM xcv pdV pdV)
 (zq (zcM xcf pdV pdV)))))))))))))
variable (xgy:ziI P w K mg base 7 "Valley" (upF K Dp.zf3))
include xde xgy in
def zjM (F:Fk K "_law_valley" zf2 f fd):zP P w K mg base CX0 9 f fd ["parts"] (upF K Dp.zcA):=fnN (M:=["ground","beacons","fogs","haze","first","last","delay"]) F Dp.zjL fun hnd hr=>(zj (ze7 pdV (zbV rfl (zab (zO hnd) (zab (zO hnd) (zab (zO hnd) (zab (zO hnd) (zab (zO hnd) (zab (zO hnd) (zab (zO hnd) zbX)))))))))
 (zq (zG (zle xgy hr (zc (zle xde hr (zc pdV zm)) (zc pdV (zc pdV (zc pdV (zc pdV (zc pdV (zc pdV zm)))))))))))
variable (xdr:Got P w K mg base 9 "_law_valley" ["parts"] (upF K Dp.zcA))
variable (xba:∀ C,W.nsIn K mainGlobals "NoBeacon"=some (some (.ref C))->ExC K C)
variable (xa7:∃ C,W.nsIn K mainGlobals "NoBeacon"=some (some (.ref C))/\mg "NoBeacon"=some (.ref C))
include xba xa7 in
def zmP (F:Fk K "spot_of" zjq f fd):zP P w K mg base (CXd P w) 1 f fd ["valley","name"] (zby K Dp.zcT):=zfm (M:=["beacon"]) F Dp.znJ fun hnd hr ex hX hM=>(zj (zas (zai (zaj pdV rfl)) (zO hnd) (zq (zQ (zK (zil hr) (zu pdV zp) pdV) (zq (zG (zac (zc (zu pdV zp) (zc (zu pdV zp) zm))))) zM)))
 (zq (zdI hM rfl xba xa7 rfl (zc zbB zm) (fun _ _ _ h=>h _))))
variable (xfc:zei P w K mg base 1 "spot_of" ["valley","name"] (zby K Dp.zcT))
include xau xat xdd in
def zeT (F:Fk K "refuse_not_standing" zcJ f fd):zP P w K mg base (CXd P w) 6 f fd ["ground","spot"] (zby K Dp.zaI):=zfm (M:=[]) F Dp.zeQ fun hnd hr ex hX hM=>(zq (zQ (zco (zcc (zH xdd hr (zc pdV (zc pdV zm))))) (zq (zdI hM rfl xau xat rfl (zc zbB zm) (fun _ _ _ h=>h _))) zM))
variable (xaf:zei P w K mg base 6 "refuse_not_standing" ["ground","spot"] (zby K Dp.zaI))
variable (xav:mg "min"=none)
variable (xag:mg "max"=none)
include xu xav xag in
def zgj (F:Fk K "numbers_between" zd2 f fd):zP P w K mg base CX0 1 f fd ["ground","x","other_x"] (upF K Dp.zbA):=fnN (M:=["low","high"]) F Dp.zgm fun hnd hr=>(zj (zA hnd (zak ze3 xav boot_min (zc pdV (zc pdV zm))))
 (zj (zA hnd (zak zcI xag boot_max (zc pdV (zc pdV zm))))
 (zq (zG (zcd (own:=["k","corner"]) (free:=["low","high"]) ⟨rfl,rfl,True.intro⟩ ⟨rfl,rfl,rfl,rfl,rfl,rfl,True.intro⟩ (zce rfl xu (zc (zaj pdV rfl) zm)) ⟨(zdj (zaw (zau 0 (by decide)) (zaw (zau 1 (by decide)) zcP))),fun _ _ _ _ _=>(zeq rfl (zaM (zaZ (show List.Nodup (["k","corner","low","high"]:List Str) by decide +kernel) rfl (Or.inl rfl) (Or.inr rfl)) (zaM (zaZ (show List.Nodup (["k","corner","low","high"]:List Str) by decide +kernel) rfl (Or.inl rfl) (Or.inr rfl)) zds)))⟩ (fun _ _ _ _ _=>(zgH (znS zbx zbx pdV (zu pdV zp) pdV))) (fun _ _ _ _ _=>pdV))))))
variable (xbe:Got P w K mg base 1 "numbers_between" ["ground","x","other_x"] (upF K Dp.zbA))
def znk (F:Fk K "side_of" zjv f fd):zP P w K mg base CX0 1 f fd ["one","other","spot"] (upF K Dp.zd8):=fnN (M:=["run","rise","over"]) F Dp.znx fun hnd hr=>(zj (zA hnd (zW (zu pdV zp) (zu pdV zp)))
 (zj (zA hnd (zW (zu pdV zp) (zu pdV zp)))
 (zj (zA hnd (zW (zaF (zW (zu pdV zp) (zu pdV zp)) pdV) (zaF (zW (zu pdV zp) (zu pdV zp)) pdV)))
 (zj (zrR (zQ (zK zbx pdV zp) (zq (zA hnd (zbo pdV))) zM))
 (zj (zQ (zK zcr pdV zp) (zq (zG zp)) zM)
 (zj (zQ (zK zbx pdV zp) (zq (zG (zbo zp))) zM)
 (zq (zG zp))))))))
variable (xge:Got P w K mg base 1 "side_of" ["one","other","spot"] (upF K Dp.zd8))
include xaf xbe xge in
def zol (F:Fk K "hinder" zk7 f fd):zP P w K mg base (CXd P w) 7 f fd ["ground","one","other"] (zby K Dp.zeE):=zfm (M:=["k"]) F Dp.zn9 fun hnd hr ex hX hM=>(zj (zav (zbe xaf hX hr (zc pdV (zc pdV zm))))
 (zj (zav (zbe xaf hX hr (zc pdV (zc pdV zm))))
 (zj (zas (zai (zH xbe hr (zc pdV (zc (zu pdV zp) (zc (zu pdV zp) zm))))) (zO hnd) (zq (zQ (zK zcr (zH xge hr (zc pdV (zc pdV (zc (zu (zaj pdV rfl) pdV) zm)))) zp) (zq (zG pdV)) zM)))
 (zq (zG zaW)))))
variable (xg7:zei P w K mg base 7 "hinder" ["ground","one","other"] (zby K Dp.zeE))
def zgX (F:Fk K "square_between" zeh f fd):zP P w K mg base CX0 1 f fd ["one","other"] (upF K Dp.zbM):=fnN (M:=["run","climb"]) F Dp.zgV fun hnd hr=>(zj (zA hnd (zW (zu pdV zp) (zu pdV zp)))
 (zj (zA hnd (zW (zu pdV zp) (zu pdV zp)))
 (zq (zG (z9 (zaF pdV pdV) (zaF pdV pdV))))))
variable (xbp:Got P w K mg base 1 "square_between" ["one","other"] (upF K Dp.zbM))
include xg7 xbp in
def zhK (F:Fk K "hidden_always" zeN f fd):zP P w K mg base CX0 8 f fd ["valley","one","other"] (upF K Dp.zb3):=fnN (M:=["corner","square"]) F Dp.zhC fun hnd hr=>(zj (zA hnd (zbe xg7 zjZ hr (zc (zaj pdV rfl) (zc pdV (zc pdV zm)))))
 (zj (zQ (zK zcS pdV zaW) (zq (zG (zac (zc zbB (zc pdV zm))))) zM)
 (zj (zA hnd (zH xbp hr (zc pdV (zc pdV zm))))
 (zj (zQ (zbg (zcp (zK zcS (zaj pdV rfl) zaW) (zci (zK zcr pdV (zaj pdV rfl))))) (zq (zG (zac (zc zbB (zc pdV zm))))) zM)
 (zq (zG zaW))))))
variable (xce:Got P w K mg base 8 "hidden_always" ["valley","one","other"] (upF K Dp.zb3))
variable (xhm:∃ t,mg "DRIFT"=some (.int 6 t))
variable (xih:∃ t,mg "RISE"=some (.int 7 t))
include xb3 xaw xda xb4 xhm xih in
def zqn (F:Fk K "moved" zms f fd):zP P w K mg base CX0 1 f fd ["fog","hours"] (upF K Dp.zex):=fnN (M:=["along","upwards"]) F Dp.zpR fun hnd hr=>(zj (zA hnd (zaF (zu pdV (zR rfl xhm)) pdV))
 (zj (zA hnd (zaF (zu pdV (zR rfl xih)) pdV))
 (zq (zG (zac (zc (z9 (zu pdV (zR rfl xb3)) pdV) (zc (z9 (zu pdV (zR rfl xaw)) pdV) (zc (z9 (zu pdV (zR rfl xda)) pdV) (zc (z9 (zu pdV (zR rfl xb4)) pdV) zm)))))))))
variable (xgw:Got P w K mg base 1 "moved" ["fog","hours"] (upF K Dp.zex))
include xb3 xaw xda xb4 xav xag in
def znb (F:Fk K "margins" zju f fd):zP P w K mg base CX0 1 f fd ["box","one","other"] (upF K Dp.zcU):=fnN (M:=["run","climb","corners","across"]) F Dp.zmV fun hnd hr=>(zj (zA hnd (zW (zu pdV zp) (zu pdV zp)))
 (zj (zA hnd (zW (zu pdV zp) (zu pdV zp)))
 (zj (zA hnd (zaV (zc (zac (zc (zu pdV (zR rfl xb3)) (zc (zu pdV (zR rfl xda)) zm))) (zc (zac (zc (zu pdV (zR rfl xb3)) (zc (zu pdV (zR rfl xb4)) zm))) (zc (zac (zc (zu pdV (zR rfl xaw)) (zc (zu pdV (zR rfl xda)) zm))) (zc (zac (zc (zu pdV (zR rfl xaw)) (zc (zu pdV (zR rfl xb4)) zm))) zm))))))
 (zj (zdn hnd (own:=["x","z"]) (free:=["run","one","climb"]) ⟨rfl,rfl,rfl,True.intro⟩ ⟨rfl,rfl,rfl,rfl,rfl,rfl,rfl,rfl,rfl,True.intro⟩ (zai pdV) ⟨(zdj (zaw (zau 0 (by decide)) (zaw (zau 1 (by decide)) zcP))),fun _ _ _ _ _=>(zeq rfl (zaM (zaZ (show List.Nodup (["x","z","run","one","climb"]:List Str) by decide +kernel) rfl (Or.inl rfl) (Or.inr rfl)) (zaM (zaZ (show List.Nodup (["x","z","run","one","climb"]:List Str) by decide +kernel) rfl (Or.inl rfl) (Or.inr rfl)) zds)))⟩ (fun _ _ _ _ _=>zaY) (fun _ _ _ _ _=>(zW (zaF pdV (zW pdV (zu pdV zp))) (zaF pdV (zW pdV (zu pdV zp))))))
 (zq (zG (zaV (zc (zW (zak zcI xag boot_max (zc (zu pdV zp) (zc (zu pdV zp) zm))) (zu pdV (zR rfl xb3))) (zc (zW (zu pdV (zR rfl xaw)) (zak ze3 xav boot_min (zc (zu pdV zp) (zc (zu pdV zp) zm)))) (zc (zW (zak zcI xag boot_max (zc (zu pdV zp) (zc (zu pdV zp) zm))) (zu pdV (zR rfl xda))) (zc (zW (zu pdV (zR rfl xb4)) (zak ze3 xav boot_min (zc (zu pdV zp) (zc (zu pdV zp) zm)))) (zc (zak ztB xag boot_max (zc pdV zm)) (zc (zbo (zak zsE xav boot_min (zc pdV zm))) zm)))))))))))))
variable (xfd:Got P w K mg base 1 "margins" ["box","one","other"] (upF K Dp.zcU))
variable (xg6:mg "sorted"=none)
include xq xdv xag xg6 in
def ztg (F:Fk K "tidy" zpe f fd):zP P w K mg base CX0 1 f fd ["pairs"] (upF K Dp.zdl):=fnN (M:=["found","low","high"]) F Dp.zrY fun hnd hr=>(zj (zA hnd (zaV zm))
 (zj (zas (zai (zak zsb xg6 boot_sorted (zc (zcd (own:=["pair"]) (free:=[]) True.intro True.intro (zai pdV) cgN (fun _ _ _ _ _=>(zgH (zK zee (zu pdV zp) (zu pdV zp)))) (fun _ _ _ _ _=>(zac (zc (zu pdV zp) (zc (zu pdV zp) zm))))) zm))) (zbV rfl (zab (zO hnd) (zab (zO hnd) zbX))) (zq (zQ (zbg (zcp (zK zcr (zak zbq xq boot_len (zc pdV zm)) zp) (zci (zK zee pdV (z9 (zu (zu pdV (zbo zp)) zp) zp))))) (zq (ze7 (zac (zc (zu (zu pdV (zbo zp)) zp) (zc (zak zcI xag boot_max (zc (zu (zu pdV (zbo zp)) zp) (zc pdV zm))) zm))) (zgw pdV (zbo zp)))) (zq (zav (zhu PySem.F.slot_list_append PySem.F.type_list_append zcO pdV (zc (zac (zc pdV (zc pdV zm))) zm)))))))
 (zq (zG (zjY zqI xdv boot_tuple (zc pdV zm))))))
variable (xbn:Got P w K mg base 1 "tidy" ["pairs"] (upF K Dp.zdl))
variable (xew:mg "zip"=none)
include xct xf6 xav xag xgw xfd xbn xew in
def zrj (F:Fk K "foggy" zlZ f fd):zP P w K mg base CX0 2 f fd ["fog","one","other"] (upF K Dp.zfa):=fnN (M:=["low","high","starts","afters","start","after","step"]) F Dp.zqT fun hnd hr=>(zj (zA hnd zp)
 (zj (zA hnd (zW (zu pdV (zR rfl xf6)) (zu pdV (zR rfl xct))))
 (zj (zA hnd (zH xfd hr (zc (zH xgw hr (zc pdV (zc zp zm))) (zc pdV (zc pdV zm)))))
 (zj (zA hnd (zH xfd hr (zc (zH xgw hr (zc pdV (zc zp zm))) (zc pdV (zc pdV zm)))))
 (zj (zas (zkZ rfl xew (zc pdV (zc pdV zm))) (zbV rfl (zab (zO hnd) (zab (zO hnd) zbX))) (zj (zA hnd (zW pdV pdV))
 (zq (zQ (zK zcr pdV zp) (zq (zA hnd (zak zcI xag boot_max (zc pdV (zc (zbo (zaC pdV pdV)) zm))))) (zq (zQ (zK zbx pdV zp) (zq (zA hnd (zak ze3 xav boot_min (zc pdV (zc (zaC pdV (zbo pdV)) zm))))) (zq (zQ (zK zbx pdV zp) (zq (zG (zac zm))) zM))))))))
 (zq (zG (zH xbn hr (zc (zaV (zc (zac (zc (z9 (zu pdV (zR rfl xct)) pdV) (zc (z9 (zu pdV (zR rfl xct)) pdV) zm))) zm)) zm)))))))))
variable (xhl:Got P w K mg base 2 "foggy" ["fog","one","other"] (upF K Dp.zfa))
include xbn xhl in
def zkV (F:Fk K "foggy_all" zhc f fd):zP P w K mg base CX0 3 f fd ["fogs","one","other"] (upF K Dp.zc2):=fnN (M:=["found","fog"]) F Dp.zlp fun hnd hr=>(zj (zA hnd (zaV zm))
 (zj (zas (zai pdV) (zO hnd) (zq (zav (zhu PySem.F.slot_list_extend PySem.F.type_list_extend znq pdV (zc (zH xhl hr (zc pdV (zc pdV (zc pdV zm)))) zm)))))
 (zq (zG (zH xbn hr (zc pdV zm))))))
variable (xe5:Got P w K mg base 3 "foggy_all" ["fogs","one","other"] (upF K Dp.zc2))
include xbn in
def zty (F:Fk K "gaps" zoD f fd):zP P w K mg base CX0 2 f fd ["spans","low","high"] (upF K Dp.zgx):=fnN (M:=["found","start","span"]) F Dp.ztw fun hnd hr=>(zj (zA hnd (zaV zm))
 (zj (zA hnd pdV)
 (zj (zas (zai pdV) (zO hnd) (zj (zav (zhu PySem.F.slot_list_append PySem.F.type_list_append zcO pdV (zc (zac (zc pdV (zc (zW (zu pdV zp) zp) zm))) zm)))
 (zq (zA hnd (z9 (zu pdV zp) zp)))))
 (zj (zav (zhu PySem.F.slot_list_append PySem.F.type_list_append zcO pdV (zc (zac (zc pdV (zc pdV zm))) zm)))
 (zq (zG (zH xbn hr (zc pdV zm))))))))
variable (xh7:Got P w K mg base 2 "gaps" ["spans","low","high"] (upF K Dp.zgx))
include xav xag xbn in
def zs9 (F:Fk K "both" zor f fd):zP P w K mg base CX0 2 f fd ["one","other"] (upF K Dp.zgv):=fnN (M:=["found","low","high","other_low","other_high"]) F Dp.zto fun hnd hr=>(zj (zA hnd (zaV zm))
 (zj (zas (zai pdV) (zbV rfl (zab (zO hnd) (zab (zO hnd) zbX))) (zq (zas (zai pdV) (zbV rfl (zab (zO hnd) (zab (zO hnd) zbX))) (zq (zav (zhu PySem.F.slot_list_append PySem.F.type_list_append zcO pdV (zc (zac (zc (zak zcI xag boot_max (zc pdV (zc pdV zm))) (zc (zak ze3 xav boot_min (zc pdV (zc pdV zm))) zm))) zm)))))))
 (zq (zG (zH xbn hr (zc pdV zm))))))
variable (xie:Got P w K mg base 2 "both" ["one","other"] (upF K Dp.zgv))
include xq xh7 xie in
def zmY (F:Fk K "without" zjB f fd):zP P w K mg base CX0 3 f fd ["one","other"] (upF K Dp.zd9):=fnN (M:=[]) F Dp.zmT fun hnd hr=>(zj (zQ (zK (zil hr) (zak zbq xq boot_len (zc pdV zm)) zp) (zq (zG (zac zm))) zM)
 (zq (zG (zH xie hr (zc pdV (zc (zH xh7 hr (zc pdV (zc (zu (zu pdV zp) zp) (zc (zu (zu pdV (zbo zp)) zp) zm)))) zm))))))
variable (xgg:Got P w K mg base 3 "without" ["one","other"] (upF K Dp.zd9))
include xfc xce xe5 xgg in
def zpI (F:Fk K "sight" zmc f fd):zP P w K mg base (CXd P w) 9 f fd ["valley","name","other"] (zby K Dp.zez):=zfm (M:=["one_top","other_top","hours"]) F Dp.zqZ fun hnd hr ex hX hM=>(zj (zA hnd (zbe xfc hX hr (zc pdV (zc pdV zm))))
 (zj (zA hnd (zbe xfc hX hr (zc pdV (zc pdV zm))))
 (zj (zA hnd (zac (zc (zac (zc (zaj pdV rfl) (zc (zaj pdV rfl) zm))) zm)))
 (zj (zQ (zK (zil hr) pdV pdV) (zq (zG pdV)) zM)
 (zj (zQ (zK zcS (zH xce hr (zc pdV (zc pdV (zc pdV zm)))) zaW) (zq (zG (zac zm))) zM)
 (zq (zG (zH xgg hr (zc pdV (zc (zH xe5 hr (zc (zaj pdV rfl) (zc pdV (zc pdV zm)))) zm))))))))))
variable (xd0:zei P w K mg base 9 "sight" ["valley","name","other"] (zby K Dp.zez))
include xd0 in
def zkU (F:Fk K "_law_views" zha f fd):zP P w K mg base CX0 10 f fd ["valley"] (upF K Dp.zde):=fnN (M:=["names"]) F Dp.zj9 fun hnd hr=>(zj (zA hnd (zcd (own:=["beacon"]) (free:=[]) True.intro True.intro (zai (zaj pdV rfl)) cgN (fun _ _ _ _ _=>zaY) (fun _ _ _ _ _=>(zu pdV zp))))
 (zq (zG (zcd (own:=["name"]) (free:=["names","valley"]) ⟨rfl,rfl,True.intro⟩ ⟨rfl,rfl,rfl,rfl,rfl,rfl,True.intro⟩ (zai pdV) cgN (fun _ _ _ _ _=>zaY) (fun _ _ _ _ _=>(zcd (own:=["other"]) (free:=["valley","name"]) ⟨rfl,rfl,True.intro⟩ ⟨rfl,rfl,rfl,rfl,rfl,rfl,True.intro⟩ (zai pdV) cgN (fun _ _ _ _ _=>zaY) (fun _ _ _ _ _=>(zbe xd0 zjZ hr (zc pdV (zc pdV (zc pdV zm)))))))))))
variable (xe8:Got P w K mg base 10 "_law_views" ["valley"] (upF K Dp.zde))
include xag in
def zk8 (F:Fk K "_law_first" zhe f fd):zP P w K mg base CX0 1 f fd ["spans","hour"] (upF K Dp.zc6):=fnN (M:=["low","high"]) F Dp.zkQ fun hnd hr=>(zj (zas (zai pdV) (zbV rfl (zab (zO hnd) (zab (zO hnd) zbX))) (zq (zQ (zK zxx pdV pdV) (zq (zG (zak zcI xag boot_max (zc pdV (zc pdV zm))))) zM)))
 (zq (zG zaW)))
variable (xey:Got P w K mg base 1 "_law_first" ["spans","hour"] (upF K Dp.zc6))
include xq xak xu xey in
def znM (F:Fk K "_law_lit" zjG f fd):zP P w K mg base CX0 2 f fd ["views","start","hour","delay"] (upF K Dp.zed):=fnN (M:=["lit","turn","k","row","j","spans","u"]) F Dp.znj fun hnd hr=>(zj (zdn hnd (own:=["row"]) (free:=[]) True.intro True.intro (zai pdV) cgN (fun _ _ _ _ _=>zaY) (fun _ _ _ _ _=>zaW))
 (zj (ze7 pdV (zgw pdV pdV))
 (zj (zas (zgz xak (zc (zak zbq xq boot_len (zc pdV zm)) zm)) (zO hnd) (zq (zas (zce rfl xu (zc pdV zm)) (zbV rfl (zab (zO hnd) (zab (zO hnd) zbX))) (zq (zas (zce rfl xu (zc pdV zm)) (zbV rfl (zab (zO hnd) (zab (zO hnd) zbX))) (zq (zQ (zbg (zcp (zK zcS (zu pdV pdV) zaW) (zci (zK (zfC hr) pdV pdV)))) (zj (zA hnd (zH xey hr (zc pdV (zc (zu pdV pdV) zm))))
 (zq (zQ (zbg (zcp (zK zcS pdV zaW) (zcp (zK (zfC hr) pdV pdV) (zci (zbg (zdS (zK zwN (zu pdV pdV) zaW) (zcN (zK zbx (z9 pdV pdV) (zu pdV pdV))))))))) (zq (ze7 (z9 pdV pdV) (zgw pdV pdV))) zM))) zM)))))))
 (zq (zG pdV)))))
variable (xgc:Got P w K mg base 2 "_law_lit" ["views","start","hour","delay"] (upF K Dp.zed))
def zlx (F:Fk K "names_of" zie f fd):zP P w K mg base CX0 1 f fd ["valley"] (upF K Dp.zbI):=fnN (M:=[]) F Dp.zlO fun hnd hr=>(zq (zG (zcd (own:=["beacon"]) (free:=[]) True.intro True.intro (zai (zaj pdV rfl)) cgN (fun _ _ _ _ _=>zaY) (fun _ _ _ _ _=>(zu pdV zp)))))
variable (xad:Got P w K mg base 1 "names_of" ["valley"] (upF K Dp.zbI))
include xba xa7 xad in
def zfQ (F:Fk K "refuse_no_beacon" zdU f fd):zP P w K mg base (CXd P w) 2 f fd ["valley","name"] (zby K Dp.zbv):=zfm (M:=[]) F Dp.zfN fun hnd hr ex hX hM=>(zq (zQ (zsz (zri hr) pdV (zH xad hr (zc pdV zm))) (zq (zdI hM rfl xba xa7 rfl (zc zbB zm) (fun _ _ _ h=>h _))) zM))
variable (xa5:zei P w K mg base 2 "refuse_no_beacon" ["valley","name"] (zby K Dp.zbv))
variable (xfq:∀ C,W.nsIn K mainGlobals "BadHour"=some (some (.ref C))->ExC K C)
variable (xfs:∃ C,W.nsIn K mainGlobals "BadHour"=some (some (.ref C))/\mg "BadHour"=some (.ref C))
include xfq xfs in
def zgS (F:Fk K "refuse_no_hour" zel f fd):zP P w K mg base (CXd P w) 1 f fd ["valley","hour"] (zby K Dp.zbO):=zfm (M:=[]) F Dp.zgW fun hnd hr ex hX hM=>(zq (zQ (zbg (zdS (zK zbx pdV (zaj pdV rfl)) (zcN (zK zcr pdV (zaj pdV rfl))))) (zq (zdI hM rfl xfq xfs rfl (zc zbB zm) (fun _ _ _ h=>h _))) zM))
variable (xb0:zei P w K mg base 1 "refuse_no_hour" ["valley","hour"] (zby K Dp.zbO))
include xag in
def zjO (F:Fk K "first_from" zgn f fd):zP P w K mg base CX0 1 f fd ["spans","hour"] (upF K Dp.zcz):=fnN (M:=["low","high"]) F Dp.zjN fun hnd hr=>(zj (zas (zai pdV) (zbV rfl (zab (zO hnd) (zab (zO hnd) zbX))) (zq (zQ (zK zee pdV pdV) (zq (zG (zak zcI xag boot_max (zc pdV (zc pdV zm))))) zM)))
 (zq (zG zaW)))
variable (xdn:Got P w K mg base 1 "first_from" ["spans","hour"] (upF K Dp.zcz))
variable (xf3:∃ t,mg "LIT"=some (.int 2 t))
variable (TB:TbB K mg base ["lightings"])
include xq xax xav xd0 xad xdn xf3 TB in
def zlc (F:FH K "lightings" zgZ f fd):zP P w K mg base CX0 10 f fd ["valley","name","hour"] (upF K Dp.zc4):=zyl (M:=["found","waiting","ahead","other","seen"]) TB F (by decide +kernel) Dp.zkJ fun hnd hr hT hB=>(zj (zA hnd (zsi))
 (zj (zA hnd (zp3 pdV (zac (zc zaW (zc pdV (zc pdV zm))))))
 (zj (zge (zK zcr (zsk xq pdV) zp) (zj (zA hnd (ztx false (y:="each") (free:=["waiting"]) hr hT hB xav xax pdV (fun _ _ _ _ _ hr=>(zu (zhW hr pdV pdV) (zR rfl xf3))) ⟨rfl,True.intro⟩ ⟨rfl,rfl,rfl,True.intro⟩))
 (zj (zll hr pdV pdV (zsR pdV pdV))
 (zq (zas (zai (zH xad hr (zc pdV zm))) (zO hnd) (zq (zQ (zjm hr pdV pdV) (zj (zA hnd (zH xdn hr (zc (zbe xd0 zjZ hr (zc pdV (zc pdV (zc pdV zm)))) (zc (zu (zhW hr pdV pdV) (zR rfl xf3)) zm))))
 (zq (zQ (zbg (zcp (zK zcS pdV zaW) (zci (zbg (zdS (zjm hr pdV pdV) (zcN (zK zbx (z9 pdV (zaj pdV rfl)) (zu (zhW hr pdV pdV) (zR rfl xf3))))))))) (zq (zll hr pdV pdV (zac (zc pdV (zc pdV (zc (z9 pdV (zaj pdV rfl)) zm)))))) zM))) zM)))))))
 (zq (zG pdV)))))
variable (xe2:Got P w K mg base 10 "lightings" ["valley","name","hour"] (upF K Dp.zc4))
include xad xa5 xb0 xf3 xe2 in
def zlB (F:Fk K "earliest" zh8 f fd):zP P w K mg base (CXd P w) 11 f fd ["valley","name","hour"] (zby K Dp.zdB):=zfm (M:=["found"]) F Dp.zlE fun hnd hr ex hX hM=>(zj (zav (zbe xa5 hX hr (zc pdV (zc pdV zm))))
 (zj (zav (zbe xb0 hX hr (zc pdV (zc pdV zm))))
 (zj (zA hnd (zH xe2 hr (zc pdV (zc pdV (zc pdV zm)))))
 (zq (zG (zlV (zcd (own:=["each"]) (free:=["found"]) ⟨rfl,True.intro⟩ ⟨rfl,rfl,rfl,True.intro⟩ (zai (zH xad hr (zc pdV zm))) cgN (fun _ _ _ _ _=>zaY) (fun _ _ _ _ _=>(zvs (zvJ hr pdV pdV) (zu (zhW hr pdV pdV) (zR rfl xf3)) zaW)))))))))
variable (xfy:zei P w K mg base 11 "earliest" ["valley","name","hour"] (zby K Dp.zdB))
include xew xad xfy in
def zlG (F:Fk K "heard_by" zh3 f fd):zP P w K mg base (CXd P w) 12 f fd ["valley","name","hour","by"] (zby K Dp.zdz):=zfm (M:=["lit_hours"]) F Dp.zly fun hnd hr ex hX hM=>(zj (zA hnd (zbe xfy hX hr (zc pdV (zc pdV (zc pdV zm)))))
 (zq (zG (zlV (zcd (own:=["each","lit"]) (free:=["by"]) ⟨rfl,True.intro⟩ ⟨rfl,rfl,rfl,True.intro⟩ (zkZ rfl xew (zc (zH xad hr (zc pdV zm)) (zc pdV zm))) ⟨(zdj (zaw (zau 0 (by decide)) (zaw (zau 1 (by decide)) zcP))),fun _ _ _ _ _=>(zeq rfl (zaM (zaZ (show List.Nodup (["each","lit","by"]:List Str) by decide +kernel) rfl (Or.inl rfl) (Or.inr rfl)) (zaM (zaZ (show List.Nodup (["each","lit","by"]:List Str) by decide +kernel) rfl (Or.inl rfl) (Or.inr rfl)) zds)))⟩ (fun _ _ _ _ _=>(zgH (zbg (zcp (zK zcS pdV zaW) (zci (zK zee pdV pdV)))))) (fun _ _ _ _ _=>pdV))))))
variable (xfu:zei P w K mg base 12 "heard_by" ["valley","name","hour","by"] (zby K Dp.zdz))
variable (xds:∃ Cc,mg "ValeError"=some (.ref Cc)/\∀ c C,(["BadGround","OffGround","BadFog","BadName","Twice","TooMany","BadHour","NoBeacon"]:List Str).contains c=true->W.nsIn K mainGlobals c=some (some (.ref C))->W.exmOne K (.ref C) (.ref Cc)=some true)
variable (xc9:mg "ValueError"=none/\∀ c b C,([("BadGround",true),("OffGround",true),("BadFog",true),("BadName",true),("Twice",true),("TooMany",true),("BadHour",true),("NoBeacon",true)]:List (Str×Bool)).lookup c=some b->W.nsIn K mainGlobals c=some (some (.ref C))->IsC K C/\W.kitOne K (.ref C) (.type "ValueError")=some b)
variable (xez:∃ Cc,mg "NoBeacon"=some (.ref Cc)/\∀ c b C,([("BadGround",false),("OffGround",false),("BadFog",false),("BadName",false),("Twice",false),("TooMany",false),("BadHour",false),("NoBeacon",true)]:List (Str×Bool)).lookup c=some b->W.nsIn K mainGlobals c=some (some (.ref C))->IsC K C/\W.kitOne K (.ref C) (.ref Cc)=some b)
variable (xf2:∃ Cc,mg "BadHour"=some (.ref Cc)/\∀ c b C,([("BadGround",false),("OffGround",false),("BadFog",false),("BadName",false),("Twice",false),("TooMany",false),("BadHour",true),("NoBeacon",false)]:List (Str×Bool)).lookup c=some b->W.nsIn K mainGlobals c=some (some (.ref C))->IsC K C/\W.kitOne K (.ref C) (.ref Cc)=some b)
include xr xfu xds xc9 xez xf2 in
def zlT (F:Fk K "_law_told" zir f fd):zP P w K mg base CX0 13 f fd ["valley","name","hour","by"] (upF K Dp.zbF):=fnN (M:=["found","kinds","e"]) F Dp.zlL fun hnd hr=>(zj (zA hnd zaW)
 (zj (zA hnd (zaV zm))
 (zj (zte rfl rfl hnd rfl rfl rfl xds (fun _ _ ex hX=>(zq (zA hnd (zbe xfu hX hr (zc pdV (zc pdV (zc pdV (zc pdV zm)))))))) (fun _=>(zq (zA hnd (zaV (zc (ztt rfl xr (ziC (pv 6)) rfl xc9 (by decide +kernel)) (zc (zl2 rfl xr (ziC (pv 6)) rfl xez) (zc (zl2 rfl xr (ziC (pv 6)) rfl xf2) zm))))))))
 (zj (zQ (zK (zil hr) pdV (zaV zm)) (zq (zG pdV)) zM)
 (zq (zG pdV))))))
variable (xbz:Got P w K mg base 13 "_law_told" ["valley","name","hour","by"] (upF K Dp.zbF))
include xq xam xak xes xax xr xdr xew xe8 xgc xbz in
def zuQ (F:Fk K "law" zeM f fd):zP P w K mg base CX0 14 f fd ["script"] (upF K (Dp.spT (Dp.zhr [("lightings",262,39)]))):=fnN (M:=["parts","valley","views","names","turn","start","k","hour","lit","by","due","again","found"]) F Dp.zuz fun hnd hr=>(zj (zA hnd (zH xes hr (zc pdV zm)))
 (zj (zA hnd (zH xdr hr (zc pdV zm)))
 (zj (zA hnd (zH xe8 hr (zc pdV zm)))
 (zj (zdn hnd (own:=["beacon"]) (free:=[]) True.intro True.intro (zai (zu pdV zp)) cgN (fun _ _ _ _ _=>zaY) (fun _ _ _ _ _=>(zu pdV zp)))
 (zj (zA hnd (zae (zH xam hr (zc pdV (zc zp zm))) (za3 1000000000000000000000000000000 (by decide +kernel) ⟨by decide,by decide,by decide⟩)))
 (zj (zA hnd (zae pdV (zak zbq xq boot_len (zc pdV zm))))
 (zj (zas (zgz xak (zc zp zm)) (zO hnd) (zj (zA hnd (z9 (zaj pdV rfl) (zae (z9 (zaC pdV zp) (zaF zp pdV)) (z9 (zW (zaj pdV rfl) (zaj pdV rfl)) zp))))
 (zj (zA hnd (zH xgc hr (zc pdV (zc pdV (zc pdV (zc (zaj pdV rfl) zm))))))
 (zj (zA hnd (z9 (zW pdV zp) (zae (z9 (zaC pdV zp) (zaF zp pdV)) zp)))
 (zj (zdn hnd (own:=["name","told"]) (free:=["by"]) ⟨rfl,True.intro⟩ ⟨rfl,rfl,rfl,True.intro⟩ (zkZ rfl xew (zc pdV (zc pdV zm))) ⟨(zdj (zaw (zau 0 (by decide)) (zaw (zau 1 (by decide)) zcP))),fun _ _ _ _ _=>(zeq rfl (zaM (zaZ (show List.Nodup (["name","told","by"]:List Str) by decide +kernel) rfl (Or.inl rfl) (Or.inr rfl)) (zaM (zaZ (show List.Nodup (["name","told","by"]:List Str) by decide +kernel) rfl (Or.inl rfl) (Or.inr rfl)) zds)))⟩ (fun _ _ _ _ _=>(zgH (zbg (zcp (zK zcS pdV zaW) (zci (zK zee pdV pdV)))))) (fun _ _ _ _ _=>pdV))
 (zq (zas (zgz xak (zc zp zm)) (zO hnd) (zj (zA hnd (zH xbz hr (zc pdV (zc (zu pdV pdV) (zc pdV (zc pdV zm))))))
 (zj (zQ (zbg (zdS (zco (zcc (zak zh0 xr boot_isinstance (zc pdV (zc (zjW rfl xax boot_list) zm))))) (zcN (zK (zfC hr) pdV pdV)))) (zq (zG zbP)) zM)
 (zq (zav (zxa PySem.F.slot_list_clear PySem.F.type_list_clear zqW pdV))))))))))))
 (zj (zas (zai (zaV (zc (zW (zaj pdV rfl) zp) (zc (z9 (zaj pdV rfl) zp) (zc (z9 (z9 (zaj pdV rfl) zp) pdV) (zc (zW (zW (zaj pdV rfl) zp) pdV) zm)))))) (zO hnd) (zj (zQ (zK (zfC hr) (zH xbz hr (zc pdV (zc (zu pdV pdV) (zc pdV (zc pdV zm))))) (zaV (zc zbP (zc zbP (zc zbP zm))))) (zq (zG zbP)) zM)
 (zq (zQ (zK (zfC hr) (zH xbz hr (zc pdV (zc zbB (zc pdV (zc pdV zm))))) (zaV (zc zbP (zc zbP (zc zbP zm))))) (zq (zG zbP)) zM))))
 (zq (zG (zf6 (zil hr) (zH xbz hr (zc pdV (zc zbB (zc (zaj pdV rfl) (zc pdV zm))))) (zaV (zc zbP (zc zbP (zc zbP zm)))))))))))))))
end
def all_mk {l:W.OpenLaw}{w:World}{K:W.Frag}{h:Heap}{mg:Str->Option Value}{fa:Addr}(X:K.In h)(G:h.Ns mainGlobals mg)(hfa:mg "law"=some (.ref fa))
  {xi6 xjx xjt xi3 xj9 xjm xg5 xgx xkz xhe xmf xl2 xh4 xks xjy xjp xlh xhs xky xll xht xhj xjc xk6 xgv xhr xk1 xlk xh0 xig xl3 xld xl4 xlv xjq xl6 f_both xk9 xlz xjz xj0 xla xka xhc xh1 xjf xjv xkl xkh xkr:Addr}{xi5 xj1 xj2 xi4 xj6 xjs xgz xg2 xlb xhd xl7 xl0 xhx xkp xjr xjn xln xhv xkq xlp xhu xhf xjb xk5 xgs xhw xlc xlm xhy xh8 xlx xk4 xl9 xlw xjw xma xl5 xk7 xlu xju xj3 xk2 xj8 xhh xh3 xje xjo xkc xkf xko:FuncData}
  {xi0 xij:Option Addr} {xik:Array (Option Value)} {xi2 xix xit xiq xgr xii:Value} {xdb:Addr} {xae:Addr}
  {xiy xi1:Option Addr} {xiz:Array (Option Value)} {xis xiu xip xiv xgt xim:Value} {xc7:Addr} {xg:Addr}
  {xme xk3:Option Addr} {xmc:Array (Option Value)} {xmd xlf xk0 xk8 xji xlg:Value} {xki:Addr}
  {xaj:Addr}
  {xb6:Addr}
  {xa6:Addr}
  {xei:Addr}
  {xdh:Addr}
  {xf5:Addr}
  {xdk:Addr}
  {xac:Addr}
  {xaa:Addr}
  {xh2:Tok} {xid:Tok} {xic:Tok} {xja:Tok} {xh9:Tok} {xj7:Tok} {xkn:Tok} {xlr:Tok} {xli:Tok} {xl8:Tok} {xls:Tok} {xlq:Tok} {xl1:Tok} {xlj:Tok} {xly:Tok} {xmb:Tok}
  (xc5:FH K "_law_cell_at" zfG xi6 xi5)
  (xex:FH K "_law_mixed" zhd xjx xj1)
  (xe1:FH K "_law_seeds" zg6 xjt xj2)
  (xc6:FH K "_law_beacons" zfK xi3 xi4)
  (xfw:FH K "_law_fogs" zhV xj9 xj6)
  (xe3:FH K "_law_parts" zhb xjm xjs)
  (xao:FH K "refuse_bad_corners" zc9 xg5 xgz)
  (xb2:W.nsIn K mainGlobals "Ground"=some (some (.ref xae))) (xfi:K.lookup xdb=some ⟨xi2,xi0,.func (W.fnOf "__init__" "Ground.__init__" (zbz zb7) (zaD zb7) (zN zb7) .none xix xit xiq xij xgr xii),xik⟩) (xfk:W.codeIn K xgr "Ground.__init__"=true) (xfh:W.keepIn K (.ref xdb)=true)
  (xem:W.makesIn K xae=true) (xed:W.findIn K (.ref xae) "__init__"=some (some (.ref xdb))) (xdw:W.isFn K (.ref xdb)=true) (xdz:W.keepIn K (.ref xae)=true) (xek:W.plainGet K xae Str.empty=true) (xd1:W.hasDictIn K xae=true) (xd3:W.plainOver K xae=true) (xd9:W.findIn K (.ref xae) "__setattr__"=some (some (.builtin "object.__setattr__"))) (xd8:W.findIn K (.ref xae) "corners"=some none)
  (xaq:FH K "refuse_bad_numbers" zc3 xgx xg2)
  (xgl:FH K "is_name" zjp xkz xlb)
  (xay:FH K "refuse_bad_names" zdR xhe xhd)
  (xh5:FH K "less" zpd xmf xl7)
  (xhq:FH K "is_on" zmt xl2 xl0)
  (xbq:FH K "common_divisor" zen xh4 xhx)
  (xfr:FH K "fraction" zic xks xkp)
  (xet:FH K "height_on" zhh xjy xjr)
  (xe4:FH K "ground_at" zhj xjp xjn)
  (xg0:FH K "stands" zkE xlh xln)
  (xbg:FH K "refuse_bad_tops" zd4 xhs xhv)
  (xfm:FH K "is_whole" zit xky xkq)
  (xg8:FH K "is_fog" zj8 xll xlp)
  (xbc:FH K "refuse_bad_fogs" zd5 xht xhu)
  (xa3:FH K "refuse_bad_hours" zdW xhj xhf)
  (xab:W.nsIn K mainGlobals "Valley"=some (some (.ref xg))) (xfj:K.lookup xc7=some ⟨xis,xiy,.func (W.fnOf "__init__" "Valley.__init__" (zbz zca) (zaD zca) (zN zca) .none xiu xip xiv xi1 xgt xim),xiz⟩) (xfg:W.codeIn K xgt "Valley.__init__"=true) (xfl:W.keepIn K (.ref xc7)=true)
  (xd6:W.makesIn K xg=true) (xd2:W.findIn K (.ref xg) "__init__"=some (some (.ref xc7))) (xef:W.isFn K (.ref xc7)=true) (xeb:W.keepIn K (.ref xg)=true) (xdy:W.plainGet K xg Str.empty=true) (xen:W.hasDictIn K xg=true) (xel:W.plainOver K xg=true) (xd4:W.findIn K (.ref xg) "__setattr__"=some (some (.builtin "object.__setattr__"))) (xea:W.findIn K (.ref xg) "ground"=some none) (xee:W.findIn K (.ref xg) "beacons"=some none) (xd5:W.findIn K (.ref xg) "fogs"=some none) (xd7:W.findIn K (.ref xg) "haze"=some none) (xeg:W.findIn K (.ref xg) "first"=some none) (xdt:W.findIn K (.ref xg) "last"=some none) (xdx:W.findIn K (.ref xg) "delay"=some none)
  (xdm:FH K "_law_valley" zf2 xjc xjb)
  (xgk:FH K "spot_of" zjq xk6 xk5)
  (xal:FH K "refuse_not_standing" zcJ xgv xgs)
  (xbi:FH K "numbers_between" zd2 xhr xhw)
  (xgm:FH K "side_of" zjv xk1 xlc)
  (xg1:FH K "hinder" zk7 xlk xlm)
  (xbu:FH K "square_between" zeh xh0 xhy)
  (xci:FH K "hidden_always" zeN xig xh8)
  (xho:FH K "moved" zms xl3 xlx)
  (xgj:FH K "margins" zju xld xk4)
  (xia:FH K "tidy" zpe xl4 xl9)
  (xhp:FH K "foggy" zlZ xlv xlw)
  (xeu:FH K "foggy_all" zhc xjq xjw)
  (xh6:FH K "gaps" zoD xl6 xma)
  (xif:FH K "both" zor f_both xl5)
  (xgh:FH K "without" zjB xk9 xk7)
  (xhn:FH K "sight" zmc xlz xlu)
  (xeq:FH K "_law_views" zha xjz xju)
  (xe9:FH K "_law_first" zhe xj0 xj3)
  (xgi:FH K "_law_lit" zjG xla xk2)
  (xfv:FH K "names_of" zie xka xj8)
  (xaz:FH K "refuse_no_beacon" zdU xhc xhh)
  (xbt:FH K "refuse_no_hour" zel xh1 xh3)
  (xdp:FH K "first_from" zgn xjf xje)
  (xep:FH K "lightings" zgZ xjv xjo)
  (xfp:FH K "earliest" zh8 xkl xkc)
  (xfo:FH K "heard_by" zh3 xkh xkf)
  (xfn:FH K "_law_told" zir xkr xko)
  (xkt:W.nsIn K mainGlobals "law"=some (some (.ref xki))) (xj4:K.lookup xki=some ⟨xmd,xme,.func (W.fnOf "law" "law" (zbz zeM) (zaD zeM) (zN zeM) .none xlf xk0 xk8 xk3 xji xlg),xmc⟩) (xkx:W.codeIn K xji "law"=true) (xkm:W.keepIn K (.ref xki)=true)
  (xgq:W.nsIn K mainGlobals "ValeError"=some (some (.ref xaj))) (xb5:W.nsIn K mainGlobals "BadGround"=some (some (.ref xb6))) (xc4:isIn K xb6=true) (xai:W.nsIn K mainGlobals "OffGround"=some (some (.ref xa6))) (xgp:zkL K xa6=true) (xc3:isIn K xa6=true) (xej:W.nsIn K mainGlobals "BadFog"=some (some (.ref xei))) (xf9:isIn K xei=true) (xdj:W.nsIn K mainGlobals "BadName"=some (some (.ref xdh))) (xfa:isIn K xdh=true) (xf4:W.nsIn K mainGlobals "Twice"=some (some (.ref xf5))) (xgu:isIn K xf5=true) (xdi:W.nsIn K mainGlobals "TooMany"=some (some (.ref xdk))) (xfb:isIn K xdk=true) (xar:W.nsIn K mainGlobals "BadHour"=some (some (.ref xac))) (xhg:zkL K xac=true) (xfe:isIn K xac=true) (xah:W.nsIn K mainGlobals "NoBeacon"=some (some (.ref xaa))) (xg3:zkL K xaa=true) (xdq:isIn K xaa=true) (xbk:W.exmOne K (.ref xb6) (.ref xaj)=some true) (xa9:W.kitOne K (.ref xb6) (.type "ValueError")=some true) (xby:W.kitOne K (.ref xb6) (.ref xaa)=some false) (xcb:W.kitOne K (.ref xb6) (.ref xac)=some false) (xbm:W.exmOne K (.ref xa6) (.ref xaj)=some true) (xa8:W.kitOne K (.ref xa6) (.type "ValueError")=some true) (xbx:W.kitOne K (.ref xa6) (.ref xaa)=some false) (xca:W.kitOne K (.ref xa6) (.ref xac)=some false) (xcl:W.exmOne K (.ref xei) (.ref xaj)=some true) (xb9:W.kitOne K (.ref xei) (.type "ValueError")=some true) (xc1:W.kitOne K (.ref xei) (.ref xaa)=some false) (xdc:W.kitOne K (.ref xei) (.ref xac)=some false) (xb8:W.exmOne K (.ref xdh) (.ref xaj)=some true) (xbs:W.kitOne K (.ref xdh) (.type "ValueError")=some true) (xcn:W.kitOne K (.ref xdh) (.ref xaa)=some false) (xcy:W.kitOne K (.ref xdh) (.ref xac)=some false) (xc2:W.exmOne K (.ref xf5) (.ref xaj)=some true) (xck:W.kitOne K (.ref xf5) (.type "ValueError")=some true) (xdf:W.kitOne K (.ref xf5) (.ref xaa)=some false) (xdl:W.kitOne K (.ref xf5) (.ref xac)=some false) (xcd:W.exmOne K (.ref xdk) (.ref xaj)=some true) (xbo:W.kitOne K (.ref xdk) (.type "ValueError")=some true) (xco:W.kitOne K (.ref xdk) (.ref xaa)=some false) (xcz:W.kitOne K (.ref xdk) (.ref xac)=some false) (xb7:W.exmOne K (.ref xac) (.ref xaj)=some true) (xbv:W.kitOne K (.ref xac) (.type "ValueError")=some true) (xcp:W.kitOne K (.ref xac) (.ref xaa)=some false) (xcx:W.kitOne K (.ref xac) (.ref xac)=some true) (xb1:W.exmOne K (.ref xaa) (.ref xaj)=some true) (xbl:W.kitOne K (.ref xaa) (.type "ValueError")=some true) (xcc:W.kitOne K (.ref xaa) (.ref xaa)=some true) (xcj:W.kitOne K (.ref xaa) (.ref xac)=some false) (xga:W.nsIn K mainGlobals "ValueError"=some none)
  (xkj:W.nsIn K mainGlobals "len"=some none) (xin:W.nsIn K mainGlobals "range"=some none) (xgo:W.nsIn K mainGlobals "enumerate"=some none) (xjj:W.nsIn K mainGlobals "list"=some none) (xkg:W.nsIn K mainGlobals "all"=some none) (xkd:W.nsIn K mainGlobals "set"=some none) (xkw:W.nsIn K mainGlobals "abs"=some none) (xkb:W.nsIn K mainGlobals "int"=some none) (xf7:W.nsIn K mainGlobals "isinstance"=some none) (xjg:W.nsIn K mainGlobals "bool"=some none) (xiw:W.nsIn K mainGlobals "tuple"=some none) (xke:W.nsIn K mainGlobals "min"=some none) (xkk:W.nsIn K mainGlobals "max"=some none) (xhz:W.nsIn K mainGlobals "sorted"=some none) (xku:W.nsIn K mainGlobals "zip"=some none)
  (xdo:W.nsIn K mainGlobals "LEAST_CORNERS"=some (some (.int 2 xh2))) (xdu:W.nsIn K mainGlobals "MOST_CORNERS"=some (some (.int 40 xid))) (xeo:W.nsIn K mainGlobals "MOST_BEACONS"=some (some (.int 12 xic))) (xgn:W.nsIn K mainGlobals "MOST_FOGS"=some (some (.int 12 xja))) (xec:W.nsIn K mainGlobals "MOST_LETTERS"=some (some (.int 8 xh9))) (xhb:W.nsIn K mainGlobals "LETTERS"=some (some (.str "abcdefghijklmnopqrstuvwxyz" xj7))) (xhk:W.nsIn K mainGlobals "NUMBERS"=some (some (.int 8 xkn))) (xjh:W.nsIn K mainGlobals "LEFT"=some (some (.int 0 xlr))) (xir:W.nsIn K mainGlobals "RIGHT"=some (some (.int 1 xli))) (xkv:W.nsIn K mainGlobals "LOW"=some (some (.int 2 xl8))) (xjk:W.nsIn K mainGlobals "HIGH"=some (some (.int 3 xls))) (xil:W.nsIn K mainGlobals "FIRST"=some (some (.int 4 xlq))) (xjd:W.nsIn K mainGlobals "LAST"=some (some (.int 5 xl1))) (xio:W.nsIn K mainGlobals "DRIFT"=some (some (.int 6 xlj))) (xjl:W.nsIn K mainGlobals "RISE"=some (some (.int 7 xly))) (xj5:W.nsIn K mainGlobals "LIT"=some (some (.int 2 xmb))) :
  ∃ fd:FuncData,(∀ (s:Shared) (v:Value),BindsTo s fd ⟨[v],[]⟩ [("script",v)])/\∀ base:Heap,K.In base->base.Ns mainGlobals mg->TbB K mg base ["lightings"]->zP l.prog w K mg base CX0 14 fa fd ["script"] (upF K (Dp.spT (Dp.zhr [("lightings",262,39)]))):=by
 have e:=hfa.symm.trans (W.mg_of X G xkt);cases e
 have xbj:∀ C,W.nsIn K mainGlobals "Ground"=some (some (.ref C))->zap K C "corners":=fun C hC=>by
  rw[xb2]at hC;cases hC;exact xd8
 have xg9:=ziB (st:=zb7) xfi xfk xfh;have zcB:=xg9.binds (ps:=["self","corners"]) fun _ _ _ _ _ _ us hl=>by obtain⟨_,_,rfl⟩:=znz hl;rfl
 have xbw:∀ C,W.nsIn K mainGlobals "Valley"=some (some (.ref C))->zap K C "ground":=fun C hC=>by
  rw[xab]at hC;cases hC;exact xea
 have xbf:∀ C,W.nsIn K mainGlobals "Valley"=some (some (.ref C))->zap K C "beacons":=fun C hC=>by
  rw[xab]at hC;cases hC;exact xee
 have xcu:∀ C,W.nsIn K mainGlobals "Valley"=some (some (.ref C))->zap K C "fogs":=fun C hC=>by
  rw[xab]at hC;cases hC;exact xd5
 have xcq:∀ C,W.nsIn K mainGlobals "Valley"=some (some (.ref C))->zap K C "haze":=fun C hC=>by
  rw[xab]at hC;cases hC;exact xd7
 have xch:∀ C,W.nsIn K mainGlobals "Valley"=some (some (.ref C))->zap K C "first":=fun C hC=>by
  rw[xab]at hC;cases hC;exact xeg
 have xcv:∀ C,W.nsIn K mainGlobals "Valley"=some (some (.ref C))->zap K C "last":=fun C hC=>by
  rw[xab]at hC;cases hC;exact xdt
 have xcf:∀ C,W.nsIn K mainGlobals "Valley"=some (some (.ref C))->zap K C "delay":=fun C hC=>by
  rw[xab]at hC;cases hC;exact xdx
 have xha:=ziB (st:=zca) xfj xfg xfl;have zcC:=xha.binds (ps:=["self","ground","beacons","fogs","haze","first","last","delay"]) fun _ _ _ _ _ _ us hl=>by obtain⟨_,_,_,_,_,_,_,_,rfl⟩:=zwz hl;rfl
 have xmg:=ziB (st:=zeM) xj4 xkx xkm
 have xau:∀ C,W.nsIn K mainGlobals "OffGround"=some (some (.ref C))->ExC K C:=fun C h=>by
  rw[xai]at h;cases h;exact ExC.of xgp
 have xat:∃ C,W.nsIn K mainGlobals "OffGround"=some (some (.ref C))/\mg "OffGround"=some (.ref C):=⟨_,xai,W.mg_of X G xai⟩
 have xba:∀ C,W.nsIn K mainGlobals "NoBeacon"=some (some (.ref C))->ExC K C:=fun C h=>by
  rw[xah]at h;cases h;exact ExC.of xg3
 have xa7:∃ C,W.nsIn K mainGlobals "NoBeacon"=some (some (.ref C))/\mg "NoBeacon"=some (.ref C):=⟨_,xah,W.mg_of X G xah⟩
 have xfq:∀ C,W.nsIn K mainGlobals "BadHour"=some (some (.ref C))->ExC K C:=fun C h=>by
  rw[xar]at h;cases h;exact ExC.of xhg
 have xfs:∃ C,W.nsIn K mainGlobals "BadHour"=some (some (.ref C))/\mg "BadHour"=some (.ref C):=⟨_,xar,W.mg_of X G xar⟩
 have xds:∃ Cc,mg "ValeError"=some (.ref Cc)/\∀ c C,(["BadGround","OffGround","BadFog","BadName","Twice","TooMany","BadHour","NoBeacon"]:List Str).contains c=true->W.nsIn K mainGlobals c=some (some (.ref C))->W.exmOne K (.ref C) (.ref Cc)=some true:=by
  refine⟨_,W.mg_of X G xgq,fun c C h hn=>?_⟩;rcases zb1 h with rfl|h
  ·rw[xb5]at hn;cases hn;exact xbk
  rcases zb1 h with rfl|h
  ·rw[xai]at hn;cases hn;exact xbm
  rcases zb1 h with rfl|h
  ·rw[xej]at hn;cases hn;exact xcl
  rcases zb1 h with rfl|h
  ·rw[xdj]at hn;cases hn;exact xb8
  rcases zb1 h with rfl|h
  ·rw[xf4]at hn;cases hn;exact xc2
  rcases zb1 h with rfl|h
  ·rw[xdi]at hn;cases hn;exact xcd
  rcases zb1 h with rfl|h
  ·rw[xar]at hn;cases hn;exact xb7
  rcases zb1 h with rfl|h
  ·rw[xah]at hn;cases hn;exact xb1
  cases h
 have xc9:mg "ValueError"=none/\∀ c b C,([("BadGround",true),("OffGround",true),("BadFog",true),("BadName",true),("Twice",true),("TooMany",true),("BadHour",true),("NoBeacon",true)]:List (Str×Bool)).lookup c=some b->W.nsIn K mainGlobals c=some (some (.ref C))->IsC K C/\W.kitOne K (.ref C) (.type "ValueError")=some b:=by
  refine⟨W.mg_none_of X G xga,fun c b C h hn=>?_⟩;rcases zah h with⟨rfl,rfl⟩|h
  ·rw[xb5]at hn;cases hn;exact⟨IsC.of xc4,xa9⟩
  rcases zah h with⟨rfl,rfl⟩|h
  ·rw[xai]at hn;cases hn;exact⟨IsC.of xc3,xa8⟩
  rcases zah h with⟨rfl,rfl⟩|h
  ·rw[xej]at hn;cases hn;exact⟨IsC.of xf9,xb9⟩
  rcases zah h with⟨rfl,rfl⟩|h
  ·rw[xdj]at hn;cases hn;exact⟨IsC.of xfa,xbs⟩
  rcases zah h with⟨rfl,rfl⟩|h
  ·rw[xf4]at hn;cases hn;exact⟨IsC.of xgu,xck⟩
  rcases zah h with⟨rfl,rfl⟩|h
  ·rw[xdi]at hn;cases hn;exact⟨IsC.of xfb,xbo⟩
  rcases zah h with⟨rfl,rfl⟩|h
  ·rw[xar]at hn;cases hn;exact⟨IsC.of xfe,xbv⟩
  rcases zah h with⟨rfl,rfl⟩|h
  ·rw[xah]at hn;cases hn;exact⟨IsC.of xdq,xbl⟩
  cases h
 have xez:∃ Cc,mg "NoBeacon"=some (.ref Cc)/\∀ c b C,([("BadGround",false),("OffGround",false),("BadFog",false),("BadName",false),("Twice",false),("TooMany",false),("BadHour",false),("NoBeacon",true)]:List (Str×Bool)).lookup c=some b->W.nsIn K mainGlobals c=some (some (.ref C))->IsC K C/\W.kitOne K (.ref C) (.ref Cc)=some b:=by
  refine⟨_,W.mg_of X G xah,fun c b C h hn=>?_⟩;rcases zah h with⟨rfl,rfl⟩|h
  ·rw[xb5]at hn;cases hn;exact⟨IsC.of xc4,xby⟩
  rcases zah h with⟨rfl,rfl⟩|h
  ·rw[xai]at hn;cases hn;exact⟨IsC.of xc3,xbx⟩
  rcases zah h with⟨rfl,rfl⟩|h
  ·rw[xej]at hn;cases hn;exact⟨IsC.of xf9,xc1⟩
  rcases zah h with⟨rfl,rfl⟩|h
  ·rw[xdj]at hn;cases hn;exact⟨IsC.of xfa,xcn⟩
  rcases zah h with⟨rfl,rfl⟩|h
  ·rw[xf4]at hn;cases hn;exact⟨IsC.of xgu,xdf⟩
  rcases zah h with⟨rfl,rfl⟩|h
  ·rw[xdi]at hn;cases hn;exact⟨IsC.of xfb,xco⟩
  rcases zah h with⟨rfl,rfl⟩|h
  ·rw[xar]at hn;cases hn;exact⟨IsC.of xfe,xcp⟩
  rcases zah h with⟨rfl,rfl⟩|h
  ·rw[xah]at hn;cases hn;exact⟨IsC.of xdq,xcc⟩
  cases h
 have xf2:∃ Cc,mg "BadHour"=some (.ref Cc)/\∀ c b C,([("BadGround",false),("OffGround",false),("BadFog",false),("BadName",false),("Twice",false),("TooMany",false),("BadHour",true),("NoBeacon",false)]:List (Str×Bool)).lookup c=some b->W.nsIn K mainGlobals c=some (some (.ref C))->IsC K C/\W.kitOne K (.ref C) (.ref Cc)=some b:=by
  refine⟨_,W.mg_of X G xar,fun c b C h hn=>?_⟩;rcases zah h with⟨rfl,rfl⟩|h
  ·rw[xb5]at hn;cases hn;exact⟨IsC.of xc4,xcb⟩
  rcases zah h with⟨rfl,rfl⟩|h
  ·rw[xai]at hn;cases hn;exact⟨IsC.of xc3,xca⟩
  rcases zah h with⟨rfl,rfl⟩|h
  ·rw[xej]at hn;cases hn;exact⟨IsC.of xf9,xdc⟩
  rcases zah h with⟨rfl,rfl⟩|h
  ·rw[xdj]at hn;cases hn;exact⟨IsC.of xfa,xcy⟩
  rcases zah h with⟨rfl,rfl⟩|h
  ·rw[xf4]at hn;cases hn;exact⟨IsC.of xgu,xdl⟩
  rcases zah h with⟨rfl,rfl⟩|h
  ·rw[xdi]at hn;cases hn;exact⟨IsC.of xfb,xcz⟩
  rcases zah h with⟨rfl,rfl⟩|h
  ·rw[xar]at hn;cases hn;exact⟨IsC.of xfe,xcx⟩
  rcases zah h with⟨rfl,rfl⟩|h
  ·rw[xah]at hn;cases hn;exact⟨IsC.of xdq,xcj⟩
  cases h
 have xq:=W.mg_none_of X G xkj;have xak:=W.mg_none_of X G xin;have xu:=W.mg_none_of X G xgo;have xax:=W.mg_none_of X G xjj;have xbb:=W.mg_none_of X G xkg;have xi7:=W.mg_none_of X G xkd;have xi9:=W.mg_none_of X G xkw;have xi8:=W.mg_none_of X G xkb;have xr:=W.mg_none_of X G xf7;have xib:=W.mg_none_of X G xjg;have xdv:=W.mg_none_of X G xiw;have xav:=W.mg_none_of X G xke;have xag:=W.mg_none_of X G xkk;have xg6:=W.mg_none_of X G xhz;have xew:=W.mg_none_of X G xku;have xcg:∃ t,mg "LEAST_CORNERS"=some (.int 2 t):=⟨_,W.mg_of X G xdo⟩
 have xcw:∃ t,mg "MOST_CORNERS"=some (.int 40 t):=⟨_,W.mg_of X G xdu⟩
 have xcs:∃ t,mg "MOST_BEACONS"=some (.int 12 t):=⟨_,W.mg_of X G xeo⟩
 have xe7:∃ t,mg "MOST_FOGS"=some (.int 12 t):=⟨_,W.mg_of X G xgn⟩
 have xcr:∃ t,mg "MOST_LETTERS"=some (.int 8 t):=⟨_,W.mg_of X G xec⟩
 have xgf:∃ t,mg "LETTERS"=some (.str "abcdefghijklmnopqrstuvwxyz" t):=⟨_,W.mg_of X G xhb⟩
 have xgd:∃ t,mg "NUMBERS"=some (.int 8 t):=⟨_,W.mg_of X G xhk⟩
 have xb3:∃ t,mg "LEFT"=some (.int 0 t):=⟨_,W.mg_of X G xjh⟩
 have xaw:∃ t,mg "RIGHT"=some (.int 1 t):=⟨_,W.mg_of X G xir⟩
 have xda:∃ t,mg "LOW"=some (.int 2 t):=⟨_,W.mg_of X G xkv⟩
 have xb4:∃ t,mg "HIGH"=some (.int 3 t):=⟨_,W.mg_of X G xjk⟩
 have xct:∃ t,mg "FIRST"=some (.int 4 t):=⟨_,W.mg_of X G xil⟩
 have xf6:∃ t,mg "LAST"=some (.int 5 t):=⟨_,W.mg_of X G xjd⟩
 have xhm:∃ t,mg "DRIFT"=some (.int 6 t):=⟨_,W.mg_of X G xio⟩
 have xih:∃ t,mg "RISE"=some (.int 7 t):=⟨_,W.mg_of X G xjl⟩
 have xf3:∃ t,mg "LIT"=some (.int 2 t):=⟨_,W.mg_of X G xj5⟩
 refine⟨W.fnOf "law" "law" (zbz zeM) (zaD zeM) (zN zeM) .none xlf xk0 xk8 xk3 xji xlg,fun s v=>.of_eq rfl,fun base _ _ TB=>?_⟩;have xam:=zU l.prog w base X G xc5 (ziN xq xc5.F);have xas:=zU l.prog w base X G xex (zlh xex.F);have xer:=zU l.prog w base X G xe1 (zky xas xak xu xe1.F);have xc8:=zU l.prog w base X G xc6 (ziT xu xc6.F);have xfx:=zU l.prog w base X G xfw (zlQ xas xfw.F);have xes:=zU l.prog w base X G xe3 (zkq xam xer xc8 xfx xe3.F);have xan:=zU l.prog w base X G xao (zeZ xq xak xcg xcw xao.F);have xde:ziI l.prog w K mg base 2 "Ground" (upF K Dp.zeJ):=⟨⟨_,_,_,_,_,⟨xem,xed,xdw,xdz⟩,ziK xan xbj xax xg9,zcB,W.mg_of X G xb2,zl9 ⟨xek,xd1,xd3,xd9⟩ xb2⟩⟩
 have xap:=zU l.prog w base X G xaq (ze4 xq xcs xe7 xaq.F);have xgb:=zU l.prog w base X G xgl (znv xq xcr xgf xbb xgl.F);have xa4:=zU l.prog w base X G xay (zfL xq xbb xgb xi7 xay.F);have xcm:=zU l.prog w base X G xh5 (ztv xh5.F);have xeh:=zU l.prog w base X G xhq (zqi xcm xhq.F);have xbr:=zU l.prog w base X G xbq (zgR xi9 xbq.F);have xft:=zU l.prog w base X G xfr (zlH xbr xfr.F);have xe6:=zU l.prog w base X G xet (zkb xft xet.F);have xev:=zcq l.prog w base X G xe4 (zlf xcm xeh xe6 xau xat xe4.F);have xdd:=zU l.prog w base X G xg0 (zpg xcm xeh xev xg0.F);have xbh:=zU l.prog w base X G xbg (zfV xbb xdd xbg.F);have xfz:=zU l.prog w base X G xfm (zlN xi8 xr xib xfm.F);have xg4:=zU l.prog w base X G xg8 (zoY xq xbb xr xfz xgd xb3 xaw xda xb4 xct xf6 xdv xg8.F);have xbd:=zU l.prog w base X G xbc (zf8 xbb xg4 xbc.F);have xa0:=zU l.prog w base X G xa3 (zfM xa3.F);have xgy:ziI l.prog w K mg base 7 "Valley" (upF K Dp.zf3):=⟨⟨_,_,_,_,_,⟨xd6,xd2,xef,xeb⟩,zi7 xax xde xap xa4 xbh xbd xa0 xbw xbf xcu xcq xch xcv xcf xha,zcC,W.mg_of X G xab,zl9 ⟨xdy,xen,xel,xd4⟩ xab⟩⟩
 have xdr:=zU l.prog w base X G xdm (zjM xde xgy xdm.F);have xfc:=zcq l.prog w base X G xgk (zmP xba xa7 xgk.F);have xaf:=zcq l.prog w base X G xal (zeT xau xat xdd xal.F);have xbe:=zU l.prog w base X G xbi (zgj xu xav xag xbi.F);have xge:=zU l.prog w base X G xgm (znk xgm.F);have xg7:=zcq l.prog w base X G xg1 (zol xaf xbe xge xg1.F);have xbp:=zU l.prog w base X G xbu (zgX xbu.F);have xce:=zU l.prog w base X G xci (zhK xg7 xbp xci.F);have xgw:=zU l.prog w base X G xho (zqn xb3 xaw xda xb4 xhm xih xho.F);have xfd:=zU l.prog w base X G xgj (znb xb3 xaw xda xb4 xav xag xgj.F);have xbn:=zU l.prog w base X G xia (ztg xq xdv xag xg6 xia.F);have xhl:=zU l.prog w base X G xhp (zrj xct xf6 xav xag xgw xfd xbn xew xhp.F);have xe5:=zU l.prog w base X G xeu (zkV xbn xhl xeu.F);have xh7:=zU l.prog w base X G xh6 (zty xbn xh6.F);have xie:=zU l.prog w base X G xif (zs9 xav xag xbn xif.F);have xgg:=zU l.prog w base X G xgh (zmY xq xh7 xie xgh.F);have xd0:=zcq l.prog w base X G xhn (zpI xfc xce xe5 xgg xhn.F);have xe8:=zU l.prog w base X G xeq (zkU xd0 xeq.F);have xey:=zU l.prog w base X G xe9 (zk8 xag xe9.F);have xgc:=zU l.prog w base X G xgi (znM xq xak xu xey xgi.F);have xad:=zU l.prog w base X G xfv (zlx xfv.F);have xa5:=zcq l.prog w base X G xaz (zfQ xba xa7 xad xaz.F);have xb0:=zcq l.prog w base X G xbt (zgS xfq xfs xbt.F);have xdn:=zU l.prog w base X G xdp (zjO xag xdp.F);have xe2:=zU l.prog w base X G xep (zlc xq xax xav xd0 xad xdn xf3 TB xep);have xfy:=zcq l.prog w base X G xfp (zlB xad xa5 xb0 xf3 xe2 xfp.F);have xfu:=zcq l.prog w base X G xfo (zlG xew xad xfy xfo.F);have xbz:=zU l.prog w base X G xfn (zlT xr xfu xds xc9 xez xf2 xfn.F);exact zuQ xq xam xak xes xax xr xdr xew xe8 xgc xbz xmg
def walk {l:W.OpenLaw}{q:Program}{loose:List Str}{XP:(Str->Option Value)->Heap->Prop}{YP:World->Heap->Prop}{d:DefRec}{K:Params->W.Frag}(hn:l.most=some 63)(hdf:d.params.defaults=[])
  (hY:∀ (w:World) (h:Heap),YP w h->(K w.params).In h) (hT:∀ w:World,okT (K w.params) ["lightings"]=true) (hq:(["lightings"]:List Str).all (fun x=>((recsOf q).find? fun e=>e.name==x).isSome)=true)
  (F:∀ (w:World) (mg:Str->Option Value) (fa:Addr) (h:Heap),(K w.params).In h->h.Ns mainGlobals mg->mg d.name=some (.ref fa) ->
   ∃ fd:FuncData,(∀ (s:Shared) (u:Value),BindsTo s fd ⟨[u],[]⟩ [("script",u)])/\∀ base:Heap,(K w.params).In base->base.Ns mainGlobals mg->TbB (K w.params) mg base ["lightings"]->zP l.prog w (K w.params) mg base CX0 14 fa fd ["script"] (upF (K w.params) (Dp.spT (Dp.zhr [("lightings",262,39)])))) :
  W.WalkO q loose XP YP l.row.toRowW d [] (fun f vs=>PySem.call f vs) :=
 Dp.zqU (k:=14) (x:="script") (xs:=[("lightings",262,39)]) hn hdf ⟨rfl,by decide,by decide⟩ hY hT hq F
end Law
local macro_rules | `(tactic| walk_at"fh")=>`(tactic| (refine' Dp.zw0 ?fa ?fl ?fc ?fk;(case fa=>k_is);(case fl=>k_is);(case fc=>k_is);(case fk=>k_is)))
open PySem PySem.W PyProof.Rows
namespace PySem.W.Fast
def tw9337976425915733447:=Prop
def tw8089342050572201687:=Prop
def tw7047468363292639760:=Prop
def tw2299146430573472471:=Prop
def tw4655835427045797458:=Prop
def tw1115585841134825392:=Prop
def tw17394891100726076054:=Prop
def tw17237970664107555179:=Prop
def tw6260712626597525624:=Prop
def tw8534805261161185459:=Prop
def tw13183682506962125364:=Prop
def tw10938776600958773698:=Prop
def tw6072614815628861653:=Prop
def tw12673571527282254957:=Prop
def tw10300105349996509264:=Prop
def tw11863135596447714769:=Prop
def tw5050501788464807633:=Prop
def tw10774369529919674350:=Prop
def tw1814226950783025180:=Prop
def tw9751139196978254792:=Prop
def tw8540235342847832197:=Prop
def tw10902599209358633882:=Prop
def tw4294805387159174576:=Prop
def tw14122525247460668418:=Prop
def tw15536877929689481691:=Prop
def tw16560313888041861043:=Prop
def tw10620817218547017752:=Prop
def tw17825187724667532475:=Prop
def tw14389618003944690326:=Prop
def tw2282226352354080900:=Prop
def tw11394053400819337718:=Prop
def tw3780825833315498515:=Prop
def tw3839897136123489198:=Prop
def tw9875789031337839299:=Prop
def tw12527898830465349467:=Prop
def tw7243430947437851789:=Prop
def tw4348395490449901077:=Prop
def tw15202220003315682130:=Prop
def tw18248499773806774874:=Prop
def tw12920749235372426946:=Prop
def tw15651248995276562847:=Prop
def tw4545082554810482746:=Prop
def tw18375754223043646337:=Prop
def tw13933878744808675965:=Prop
def tw3262042561641111552:=Prop
def tw15070959134191316738:=Prop
def tw9990117890480810443:=Prop
def tw5965790400850785749:=Prop
def tw7691167382721407030:=Prop
def tw10752616270728079108:=Prop
def tw2508903611569684576:=Prop
def tw13948552327105768918:=Prop
def tw10021173261755589943:=Prop
def tw5189674016856876681:=Prop
def tw16482776549755634085:=Prop
def tw11479018297084374180:=Prop
def tw8994874435192582134:=Prop
def tw1135720287015457452:=Prop
def tw14000320998912667657:=Prop
def tw17054728904038280110:=Prop
def tw6574456460027473008:=Prop
def tw1062489247860439180:=Prop
def tw328841137584993464:=Prop
def tw9993873403855208095:=Prop
def tw16921869605562109437:=Prop
def tw2719352945614060177:=Prop
def tw8148092789765482553:=Prop
def tw15487417956839745609:=Prop
def tw7058945362440472858:=Prop
def tw17558733755881714558:=Prop
def tw13094644420441818050:=Prop
def tw7422195944844742729:=Prop
def tw10038876568812878711:=Prop
def tw17304506828505679965:=Prop
def tw15777561289312590674:=Prop
def tw5637698681003729645:=Prop
def tw3021885530459671802:=Prop
def tw8356173973520492155:=Prop
def tw14348161318692004328:=Prop
def tw13678059077647371222:=Prop
def tw15931243209153718845:=Prop
def tw16757897675119319061:=Prop
def tw16505893753084112110:=Prop
def tw9268332755681081419:=Prop
def tw384894909311933423:=Prop
def tw6815648892915618254:=Prop
def tw5593358316496978004:=Prop
def tw13401246913784244299:=Prop
def tw8063913785181967978:=Prop
def tw4691224973654253659:=Prop
def tw929484019004805707:=Prop
def tw15616620134757436040:=Prop
def tw7208639830417597534:=Prop
def tw18154951561794831900:=Prop
def tw18205106700169784925:=Prop
def tw10147779684130527666:=Prop
def tw13883581284884084550:=Prop
def tw11304779511889746453:=Prop
def tw8557168622225445830:=Prop
def tw5907356330978490395:=Prop
def tw3485545924942777663:=Prop
def tw14750941057111842081:=Prop
def tw15261397501228995130:=Prop
def tw15054008455497515767:=Prop
def tw681849600050448214:=Prop
def tw12152638640821830890:=Prop
def tw10983727513631586620:=Prop
def tw3623961712055256746:=Prop
def tw490241204577780566:=Prop
def tw10827991548826521052:=Prop
def tw2291204350040814400:=Prop
def tw2061418468491418732:=Prop
def tw13992383358762145167:=Prop
def tw1878839370301414252:=Prop
def tw12065050270331155799:=Prop
def tw12635686304657562491:=Prop
def tw4801616887782851025:=Prop
def tw8142488590320496882:=Prop
def tw6140596318616333801:=Prop
def tw17649258805302386070:=Prop
def tw10702809351211632643:=Prop
def tw6971854758981547531:=Prop
def tw13439393205349663247:=Prop
def tw12482624067063778971:=Prop
def tw4234731343601976597:=Prop
def tw13058136487538044325:=Prop
def tw3440239927916839494:=Prop
def tw1798512814367976414:=Prop
def tw17156721863655082999:=Prop
def tw4272871687844311437:=Prop
def tw13263496183615731170:=Prop
def tw14418995985754492381:=Prop
def tw16437328541758573036:=Prop
def tw4402881445384802826:=Prop
def tw13115518040442313602:=Prop
def tw726145997145223674:=Prop
def tw14038684613911320406:=Prop
def tw6824931098139898652:=Prop
def tw9633399553544779255:=Prop
def tw3368107013991912748:=Prop
def tw3816186384088857687:=Prop
def tw15278730084368781346:=Prop
def tw9338042379795087209:=Prop
def tw16271947451471685826:=Prop
def tw1357221791566519732:=Prop
def tw8637104637670409572:=Prop
def tw8210612836886428581:=Prop
def tw16207330520456149922:=Prop
def tw9122218815541164655:=Prop
def tw316437600201928051:=Prop
def tw8688380002297521690:=Prop
def tw510666125409726678:=Prop
def tw16560112859149683685:=Prop
def tw11240633577918233383:=Prop
def tw1176659569002702910:=Prop
def tw8147850517905490208:=Prop
def tw4519911996209759691:=Prop
def tw15674728232165542986:=Prop
def tw11966105961007402774:=Prop
def tw10910018831236916492:=Prop
def tw6813136448599392677:=Prop
def tw17921368806938341839:=Prop
def tw15118265127568857413:=Prop
def tw1638723228500429728:=Prop
def tw14073140436454304355:=Prop
def tw10068284903107441704:=Prop
def tw8183961807320762722:=Prop
def tw2353877337079640160:=Prop
def tw1833497659093473697:=Prop
def tw18031384289529826407:=Prop
def tw12679824562933352327:=Prop
def tw11475476476680695868:=Prop
def tw11146545272826702360:=Prop
def tw11953030514823117927:=Prop
def tw11175668322755559183:=Prop
def tw1630646201428806750:=Prop
def tw14564674512292566027:=Prop
def tw11699452972450447415:=Prop
def tw732978850626930636:=Prop
def tw10710567721483083161:=Prop
def tw5621993865298988050:=Prop
def tw13139864538666420818:=Prop
def tw4860247639362326754:=Prop
def tw7862431475075092800:=Prop
def tw5626264888096510224:=Prop
def tw99575644173658274:=Prop
def tw6429924128015096381:=Prop
def tw3730593230114712071:=Prop
def tw1404973177859720473:=Prop
def tw934590179467894337:=Prop
def tw11463067600010586691:=Prop
def tw8702104598389430454:=Prop
def tw16044926609855449999:=Prop
def tw7518885373157490822:=Prop
def tw7353001654561184434:=Prop
def tw6075717434929825680:=Prop
def tw18301546990697532054:=Prop
def tw2710489824874468099:=Prop
def tw5906299588070890039:=Prop
def tw13911714072478156276:=Prop
def tw11327719107037680649:=Prop
def tw8816514457291263840:=Prop
def tw14645120253378014941:=Prop
def tw17368339919499951061:=Prop
def tw17700310162569830308:=Prop
def tw16412405386389991083:=Prop
def tw808635859008146647:=Prop
def tw7132660757399859010:=Prop
def tw4770466550440041321:=Prop
def tw14673074628508411826:=Prop
def tw15121963675186510761:=Prop
end PySem.W.Fast
set_option maxRecDepth 100000 in
set_option maxHeartbeats 0 in
theorem PySem.Challenge.cw_beaconvale_k73_heard_by_an_hour_holds : PySem.Challenge.rw_beaconvale_k73_heard_by_an_hour.Holds := by
 w_on; o_law; k_head; (case hw => w_witness2)
 k_fill
 refine Law.walk (l := PySem.Challenge.rw_beaconvale_k73_heard_by_an_hour) rfl rfl (fun w h Y => PySem.W.km_in_of Y) (by intro w; kernel_rfl) (by kernel_rfl) ?F
 case F =>
  intro w mg fa h KX G hmg
  refine' Law.all_mk KX G hmg ?ae ?af ?ah ?ai ?ao ?aq ?ar ?aw ?ax ?ay ?aA ?aB ?aC ?aD ?aE ?aF ?aG ?aH ?aI ?aJ ?aK ?aL ?aM ?aN ?aO ?aQ ?aR ?aS ?aT ?aU ?aV ?aW ?aX ?aY ?aZ ?a8 ?a9 ?be ?bf ?bh ?bi ?bj ?bp ?bq ?br ?bu ?bv ?bw ?bx ?bA ?bC ?bD ?bE ?bF ?bG ?bH ?bI ?bJ ?bK ?bM ?bN ?bO ?bP ?bQ ?bS ?bU ?bV ?bW ?bX ?bY ?bZ ?b7 ?b8 ?b9 ?cc ?ce ?cg ?cj ?ck ?cm ?cq ?cr ?cu ?cw ?cx ?cy ?cz ?cA ?cB ?cC ?cD ?cE ?cF ?cG ?cH ?cI ?cJ ?cK ?cL ?cM ?cN ?cO ?cP ?cQ ?cR ?cS ?cT ?cU ?cV ?cW ?cX ?cY ?cZ ?c6 ?c7 ?c8 ?c9 ?dc ?de ?df ?dh ?di ?dj ?dm ?dn ?dq ?du ?dv ?dw ?dz ?dA ?dD ?dE ?dF ?dG ?dH ?dI ?dJ ?dL ?dN ?dO ?dP ?dQ ?dR ?dS ?dU ?dW ?dX ?dY ?dZ ?d7 ?d8 ?d9 ?ef ?eh ?eA ?eB ?eC ?eD ?eE ?eF ?eG ?eI ?eJ ?eK ?eL ?eM ?eN ?eO ?eQ
  case cz|cA|cC|cF|cH|cJ|cL|cN|cQ|aw|a8|aC|bi=>k_is
  case ae|af|ah|ai|ao|aq|ar=>walk_at "fh"
  case ax|ay|aA|aB|aD|aE|aF|aG|aH|aI|aJ=>k_is
  case aK|aL|aM|aN|aO|aQ|aR|aS|aT|aU|aV|aW|aX|aY|aZ=>walk_at "fh"
  case a9|be|bf|bh|bj|bp|bq|br|bu|bv|bw|bx|bA|bC|bD|bE|bF=>k_is
  case bG|bH|bI|bJ|bK|bM|bN|bO|bP|bQ|bS|bU|bV|bW|bX|bY|bZ|b7|b8|b9|cc|ce|cg|cj|ck|cm|cq|cr=>walk_at "fh"
  case cu|cw|cx|cy=>k_is
  case cB|cD|cE|cG|cI|cK|cM|cO|cP|cR|cS|cT|cU|cV|cW|cX|cY|cZ|c6|c7|c8|c9|dc|de|df|dh|di|dj|dm|dn|dq|du|dv|dw|dz|dA|dD|dE|dF|dG|dH|dI|dJ=>kernel_rfl
  case dL|dN|dO|dP|dQ|dR|dS|dU|dW|dX|dY|dZ|d7|d8|d9|ef|eh|eA|eB|eC|eD|eE|eF|eG|eI|eJ|eK|eL|eM|eN|eO|eQ=>k_is
#print axioms PySem.Challenge.cw_beaconvale_k73_heard_by_an_hour_holds
